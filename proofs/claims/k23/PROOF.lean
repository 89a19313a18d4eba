import PyProof.Rows.All
import Wide.All
import OpenK.AllK
import Wide.FinOn
import Lean
import PyProof.EqAt
import PyProof.EqKinds
import PyProof.TupleCall
import PyProof.ReprStr
import PyProof.Rows.FStr
import PyProof.Rows.SetFrom
import PyProof.EnumFor
import PyProof.EnumMake
import PyProof.ZipIter
import KE.KRevIter
import PyProof.ListRange
import PyProof.FactsAll.range_iterator_1
import KE.KIntText
import PyProof.CallStr
import PyProof.Rows.TupDisplay
import PyProof.Rows.MinMaxN
import PySem.SetOps
import PyProof.CollectWalk
import PyProof.Rows.SortShell
import PyProof.SetRoads
import PyProof.StrOps2
import PySem.Challenge.RW_tieword_k23_too_great_texts
set_option Elab.async false
set_option linter.all false
set_option maxRecDepth 100000
set_option compiler.extract_closed false
set_option bootstrap.genMatcherCode false
set_option genSizeOf false
set_option genSizeOfSpec false
noncomputable section
namespace L2
def Ya:=@Option.bind_some
def Yb:=@List.length_append
def Yc:=@List.length_map
def Yd:=@Option.bind_eq_some_iff
def Ye:=@List.mem_cons_of_mem
def Yf:=@List.mem_cons_self
def Yg:=@List.append_nil
def Yh:=@List.length_cons
def Yi:=@if_pos
def Yj:=@List.mem_append
def Yk:=@List.append_assoc
def Yl:=@List.mem_singleton
def Ym:=@Bool.false_ne_true
def Yn:=@decide_eq_false
def Yo:=@List.length_replicate
def Yp:=@List.size_toArray
def Yq:=@PySem.wpAny_bind
def Yr:=@if_neg
def Ys:=@Bool.and_eq_true
def Yt:=@List.mem_map
def Yu:=@Option.some.inj
def Yv:=@Nat.lt_of_lt_of_le
def Yw:=@List.map_append
def Yx:=@PySem.Heap.get?_push_of_some
def Yy:=@Nat.le_refl
def Yz:=@List.getElem?_eq_getElem
def YA:=@decide_eq_true
def YB:=@List.mem_cons
def YC:=@List.map_cons
def YD:=@PySem.Heap.lt_size
def YE:=@decide_eq_true_eq
def YF:=@List.nodup_cons
def YG:=@List.getElem?_map
def YH:=@List.all_eq_true
def YI:=@List.getElem?_eq_some_iff
def YJ:=@PySem.Heap.get?_push_size
def YK:=@List.replicate_succ
def YL:=@PySem.sizeLine_eq
def YM:=@congrArg
def YN:=@Nat.ne_of_lt
def YO:=@List.nodup_append
def YQ:=@Nat.le_trans
def YR:=@PySem.wpAny_pure
def YS:=@Nat.zero_le
def YT:=@List.getElem?_set_ne
def YU:=@List.getD_eq_getElem?_getD
def YV:=@of_decide_eq_true
def YW:=@PySem.F.plainAttrs_list
def YX:=@List.mem_append_right
def YY:=@List.flatMap_append
def YZ:=@List.length_nil
def Za:=@List.flatten_cons
def Zb:=@List.length_set
def Zc:=@Nat.lt_of_le_of_lt
def Zd:=@List.map_nil
def Ze:=@beq_eq_false_iff_ne
def Zf:=@decide_eq_false_iff_not
def Zg:=@List.nil_append
def Zh:=@List.find?_cons
def Zi:=@PySem.wpAny_truthy_bool
def Zj:=@Nat.add_right_comm
def Zk:=@Nat.le_antisymm
def Zl:=@List.map_map
def Zm:=@List.replicate_zero
def Zn:=@Nat.lt_irrefl
def Zo:=@List.mem_of_getElem?
def Zp:=@PySem.W.kia_one
def Zq:=@List.mem_flatMap
def Zr:=@PySem.mem_of_lookup
def Zs:=@Nat.le_of_lt_succ
def Zt:=@Nat.lt_of_le_of_ne
def Zu:=@List.length_eq_zero_iff
def Zv:=@List.getElem?_append_right
def Zw:=@List.getElem?_set_self
def Zx:=@PySem.wpAny_mono
def Zy:=@Array.length_toList
def Zz:=@List.mem_range
def ZA:=@List.getElem?_append_left
def ZB:=@Nat.le_of_lt
def ZC:=@Option.map_some
def ZD:=@Nat.le_add_left
def ZE:=@PySem.F.slot_list_append
def ZF:=@List.pairwise_cons
def ZG:=@Nat.le_of_not_lt
def ZH:=@List.mem_singleton_self
def ZI:=@List.Perm.append_right
def ZJ:=@beq_iff_eq
def ZK:=@List.length_singleton
def ZL:=@Nat.add_assoc
def ZM:=@Int.emod_lt_of_pos
def ZN:=@List.nodup_nil
def ZO:=@Nat.le_sub_one_of_lt
def ZP:=@PySem.wpAny_passesOwn
def ZQ:=@Option.isSome_iff_exists
def ZR:=@PySem.F.type_list_append
def ZS:=@PySem.PassesOwn.never
def ZT:=@Nat.le_of_eq
def ZU:=@PySem.wpAny_holding
def ZV:=@List.getElem?_replicate
def ZW:=@List.getElem?_cons_zero
def ZX:=@Ne.symm
def ZY:=@PySem.W.cellsFrom_some
def ZZ:=@List.mem_filterMap
def Xa:=@PySem.wpAny_Call_Name_kw
def Xb:=@PySem.tupleKind_room_in1
def Xc:=@List.map_replicate
def Xd:=@Nat.lt_trans
def Xe:=@PySem.wpAny_loadPart'
def Xf:=@Array.getD_eq_getD_getElem?
def Xg:=@Int.emod_nonneg
def Xh:=@List.Perm.append_left
def Xi:=@List.perm_append_comm
def Xj:=@Nat.lt_succ_of_lt
def Xk:=@List.any_cons
def Xl:=@PySem.Heap.get?_push_ne
def Xm:=@List.mem_append_left
def Xn:=@PySem.Calls.evalArgs_plain
def Xo:=@List.Perm.refl
def Xp:=@Nat.lt_succ_self
def Xq:=@Nat.succ_le_succ
def Xr:=@Nat.add_sub_cancel'
def Xs:=@PySem.F.slot_list_extend
def Xt:=@List.eq_of_mem_replicate
def Xu:=@PySem.W.callWith_K
def Xv:=@Nat.lt_add_of_pos_right
def Xw:=@PySem.codeAny_builtin
def Xx:=@List.getElem?_cons_succ
def Xy:=@PySem.Calls.callWith_builtin
def Xz:=@List.take_of_length_le
def XA:=@List.reverse_cons
def XB:=@PySem.call_meets
def XD:=@List.eraseIdxIfInBounds_toArray
def XE:=@List.length_range
def XF:=@Nat.le_of_succ_le
def XG:=@List.pairwise_map
def XH:=@Int.toNat_natCast
def XI:=@PySem.Heap.size_push
def XJ:=@PySem.F.slot_list_pop
def XL:=@PySem.F.slot_dict_get
def XM:=@List.getElem?_eq_none
def XN:=@PySem.Heap.size_update
def XO:=@List.flatten_nil
def XQ:=@Bool.not_eq_true
def XS:=@List.filterMap_cons
def XT:=@PySem.wpAny_execs_nil
def XU:=@PySem.W.plainGet_of
def XV:=@List.foldl_cons
def XW:=@PySem.pushCells_keeps
def XX:=@List.getElem_of_mem
def XY:=@List.length_pos_iff
def XZ:=@Bool.false_eq_true
def Va:=@List.zip_cons_cons
def Vb:=@Nat.zero_add
def Vc:=@List.drop_left
def Vd:=@Option.isSome_map
def Ve:=@Bool.true_and
def Vf:=@Nat.sub_lt
end L2
namespace L2
open PySem PySem.Spec PyProof.Rows
abbrev Kq:=PySem.W.Frag
abbrev Kv:=Value->Shared->Prop
abbrev Kp:=List (Addr×Obj)
abbrev Ks:=Str->Option Value
abbrev Ka:=Array (Int×Value)
abbrev Kb:=Bool->Shared->Prop
abbrev Ko:=Option Value->Shared->Prop
abbrev Kl:=List Value->Shared->Prop
abbrev Kr:=Result->Shared->Prop
abbrev Key:=Sum Int Str
def ph:Key->Value->Bool
 |.inl k,v=>Value.isInt k v
 |.inr x,v=>Value.isStrOf x v
def HV(w:World):Key->Int
 |.inl k=>hashInt k
 |.inr x=>hashStr w x
def cy:∀{k:Key}{v:Value},ph k v=true->(∃i t,k=Sum.inl i/\v=Value.int i t)\/(∃x t,k=Sum.inr x/\v=Value.str x t)
 |.inl i,v,h=>by
  obtain⟨t,e⟩:=Value.isInt_shape (k:=i) (v:=v) h;exact .inl ⟨i,t,rfl,e⟩
 |.inr x,v,h=>by
  obtain⟨t,e⟩:=Value.isStrOf_shape (x:=x) (v:=v) h;exact .inr ⟨x,t,rfl,e⟩
def wE(i:Int)(t:Tok):ph (.inl i) (.int i t)=true:=by simp[ph,Value.isInt]
def gw(x:Str)(t:Tok):ph (.inr x) (.str x t)=true:=by simp[ph,Value.isStrOf]
def Fl(a b:Int):decide ((Sum.inl a:Key)=Sum.inl b)=(a == b):=by
 by_cases e:a=b
 ·subst e;simp
 ·have h:¬(Sum.inl a:Key)=Sum.inl b:=λq=>e (Sum.inl.inj q)
  rw[Yn h];exact(Ze.mpr e).symm
def ui(a b:Str):decide ((Sum.inr a:Key)=Sum.inr b)=decide (a=b):=by
 by_cases e:a=b
 ·subst e;simp
 ·have h:¬(Sum.inr a:Key)=Sum.inr b:=λq=>e (Sum.inr.inj q)
  rw[Yn h,Yn e]
def FN(a:Int)(b:Str):decide ((Sum.inl a:Key)=Sum.inr b)=false:=Yn (λq=>nomatch q)
def Fv(a:Str)(b:Int):decide ((Sum.inr a:Key)=Sum.inl b)=false:=Yn (λq=>nomatch q)
def bT(prog:Program)(w:World):PySem.KeyKind prog w Key where
 is:=ph
 hash:=HV w
 inj:=λv a b l f=>by
  rcases cy l with⟨i,t,rfl,rfl⟩|⟨x,t,rfl,rfl⟩
  ·rcases cy f with⟨j,u,rfl,e⟩|⟨y,u,rfl,e⟩
   ·injection e with e1 _;rw[e1]
   ·exact nomatch e
  ·rcases cy f with⟨j,u,rfl,e⟩|⟨y,u,rfl,e⟩
   ·exact nomatch e
   ·injection e with e1 _;rw[e1]
 byValue:=λk v h=>by
  rcases cy h with⟨i,t,rfl,rfl⟩|⟨x,t,rfl,rfl⟩<;>rfl
 pyHash:=λc h=>by
  rcases cy c with⟨i,t,rfl,rfl⟩|⟨x,t,rfl,rfl⟩
  ·exact wpAny_pyHash_int h
  ·exact wpAny_pyHash_str h
 eqBool:=λg c h=>by
  rcases cy g with⟨i,t,rfl,rfl⟩|⟨x,t,rfl,rfl⟩
  ·rcases cy c with⟨j,u,rfl,rfl⟩|⟨y,u,rfl,rfl⟩
   ·rw[Fl]at h;exact wpAny_eqBool_int h
   ·rw[FN]at h;exact SeqAt.EqAt.int_str i t y u _ _ _ _ h
  ·rcases cy c with⟨j,u,rfl,rfl⟩|⟨y,u,rfl,rfl⟩
   ·rw[Fv]at h;exact SeqAt.EqAt.str_int x t j u _ _ _ _ h
   ·rw[ui]at h;exact wpAny_eqBool_str h
 «strs»:=λk x t v h=>by
  rcases cy h with⟨i,u,rfl,e⟩|⟨y,u,rfl,e⟩
  ·exact nomatch e
  ·injection e with e1 _;subst e1;cases v<;>rfl
def ub(prog:Program)(w:World)(i:Int)(t:Tok):(bT prog w).is (.inl i) (.int i t)=true:=wE i t
def tz(prog:Program)(w:World)(x:Str)(t:Tok):(bT prog w).is (.inr x) (.str x t)=true:=gw x t
inductive V where
 |non|bl (b:Bool)|int (i:Int)|str (x:Str)|byt (b:Array UInt8)|flt (b:UInt64)|ref (a:Addr)|ty (n:String)
def RelV:V->Value->Prop
 |.non,u=>u=Value.none
 |.bl b,u=>u=Value.bool b
 |.int i,u=>∃t,u=Value.int i t
 |.str x,u=>∃t,u=Value.str x t
 |.byt b,u=>∃t,u=Value.bytes b t
 |.flt b,u=>∃t,u=Value.float b t
 |.ref a,u=>u=Value.ref a
 |.ty n,u=>u=Value.type n
abbrev Vals:List V->List Value->Prop:=Paired RelV
def Vals.length{xs:List V}{us:List Value}(r:Vals xs us):xs.length=us.length:=Paired.length r
theorem Vals.get:∀{xs:List V}{us:List Value}{i:Nat}{x:V},Vals xs us->xs[i]?=some x->∃u,us[i]?=some u/\RelV x u
 |_,_,_,_,.nil,e=>by simp at e
 |_,_,0,_,.cons r _,e=>by simp at e;subst e;exact⟨_,rfl,r⟩
 |_,_,i+1,x,.cons _ t,e=>by
  obtain⟨u,a,h⟩:=Vals.get (i:=i) (x:=x) t (by simpa using e);exact⟨u,by simpa using a,h⟩
theorem Vals.set{x:V}{u:Value}(r:RelV x u):∀{xs:List V}{us:List Value} (i:Nat),Vals xs us->Vals (xs.set i x) (us.set i u)
 |_,_,_,.nil=>.nil
 |_,_,0,.cons _ t=>.cons r t
 |_,_,i+1,.cons q t=>.cons q (Vals.set r i t)
def Vals.append{xs ys:List V}{us w:List Value}(h:Vals xs us)(s:Vals ys w):Vals (xs++ys) (us++w):=by
 induction h with
 |nil=>exact s
 |cons r _ ih=>exact .cons r ih
def RelO:Option V->Option Value->Prop
 |some v,some u=>RelV v u
 |none,none=>True
 |_,_=>False
def KV{κ:Type}:List (κ×V)->List (κ×Value)->Prop:=Paired λ(p:κ×V) (q:κ×Value)=>p.1=q.1/\RelV p.2 q.2
def kV:Key->V
 |.inl i=>.int i
 |.inr x=>.str x
inductive HO where
 /-- a list -/
 |lst (xs:List V)
 /-- a tuple (never changes) -/
 |tup (xs:List V)
 /-- a dict whose keys are ints and texts;one whose keys are tuples of ints and texts (the empty one is both) -/
 |dK (kvs:List (Key×V))|dT (kvs:List (List Key×V))
 /-- a set of ints: its members,its size -/
 |set (S:Int->Bool) (n:Nat)
 /-- an instance of the class at C,its dict at dx,its attributes -/
 |ins (C dx:Addr) (fs:List (Str×V))
 /-- the dict of the instance at x -/
 |own (x:Addr)
 /-- the dict of an exception -/
 |xd (fs:List (Str×V))
 /-- a bound method,f of x -/
 |met (f x:Addr)
 /-- a range object lo,lo+1,.. below hi -/
 |rng (lo hi:Int)
 /-- a thing that is known to the object (the script;a dict while a loop walks it): read,never written while it is so -/
 |frz (o:Obj) (u:HO)
 /-- a code object's table -/
 |tbl (ps:Array Value)
 /-- any other thing,by what is true of its one object (a def of one's own: SetO a S n:=HO.ext λh=>..) -/
 |ext (φ:Heap->Prop)
abbrev Hp:=Addr->Option HO
def upd(H:Hp)(a:Addr)(o:HO):Hp:=λb=>if b=a then some o else H b
def aC{H:Hp}{a:Addr}{o:HO}:upd H a o a=some o:=by unfold upd;rw[Yi rfl]
def ax{H:Hp}{a b:Addr}{o:HO}(h:b≠a):upd H a o b=H b:=by unfold upd;rw[Yr h]
def Gg{H:Hp}{a b:Addr}{o u:HO}(h:H a=some o)(h':H b=some u)(d:o≠u):a≠b:=by intro e;subst e;rw[h]at h';exact d (Yu h')
def aW{H:Hp}{a b:Addr}{o:HO}(h:H a=some o)(h':H b=none):a≠b:=by intro e;subst e;rw[h]at h';cases h'
def NoD(h:Heap)(a:Addr):Prop:=∃o,h.get? a=some o/\o.dict=none
def NoD.new(h:Heap)(i:Array Value):NoD (h.push {cls:=.type "tuple",data:=.seq i}) h.objs.size:=⟨_,YJ _ rfl,rfl⟩
section
variable(P:Program) (w:World)
def ObjOk(H:Hp)(h:Heap)(a:Addr):HO->Prop
 |.lst b=>b.length<=sizeLine/\∃(i:List Value) (n:Nat),Vals b i/\h.get? a=some {cls:=.type "list",data:=.seq i.toArray n}
 |.tup b=>b.length<=sizeLine/\∃i:List Value,Vals b i/\IsTup h a i.toArray/\NoD h a
 |.dK kvs=>kvs.length<=sizeLine/\(a == sysModules)=false/\∃c,KV kvs c/\h.DictOf (bT P w) a c
 |.dT kvs=>kvs.length<=sizeLine/\(a == sysModules)=false/\∃b:List (List Key×Addr×Value),
   Paired (λ(p:List Key×V) (q:List Key×Addr×Value)=>p.1=q.1/\H q.2.1=some (.tup (p.1.map kV))/\RelV p.2 q.2.2) kvs b /\
   ∃o j l,h.get? a=some o/\o.ExactDict/\o.data=.dict j l/\j.toList=b.map (entryOfKey (tupleKind (bT P w)))/\(b.map (·.1)).Nodup
 |.set S n=>h.SetOf (intKind P w) a S n
 |.ins C dx fs=>H dx=some (.own a)/\fs.length<=1000/\dx≠a/\h.get? a=some (PySem.W.instObj C dx) /\
   ∃m,h.Ns1 dx m/\(∀f,RelO (fs.lookup f) (m f))/\PySem.Within m (fs.map (·.1))
 |.own _=>∃o,h.get? a=some o
 |.xd fs=>∃m,h.Ns1 a m/\∀f,RelO (fs.lookup f) (m f)
 |.rng lo hi=>∃t u v,h.get? a=some {cls:=.type "range",data:=.fields #[.int lo t,.int hi u,.int 1 v]}
 |.frz o u=>h.get? a=some o/\ObjOk H h a u
 |.tbl ps=>h.get? a=some {cls:=.none,data:=.fields ps}
 |.met f x=>h.get? a=some (PySem.W.methodObj (.ref f) (.ref x))
 |.ext φ=>φ h/\(∃o,h.get? a=some o)/\∀g e:Heap,φ g->(∀o,g.get? a=some o->e.get? a=some o)->φ e
def HOk(H:Hp)(h:Heap):Prop:=∀a o,H a=some o->ObjOk P w H h a o
end
section
variable{P:Program}{w:World}{H H':Hp}{h h':Heap}{a:Addr}{o:HO}
def ObjOk.lt(x:ObjOk P w H h a o):a<h.objs.size:=by
 cases o with
 |lst xs=>obtain⟨_,_,_,_,e⟩:=x;exact YD e
 |tup xs=>obtain⟨_,_,_,p,_⟩:=x;exact p.lt
 |dK kvs=>obtain⟨_,_,_,_,o,_,_,e,_⟩:=x;exact YD e
 |dT kvs=>obtain⟨_,_,_,_,o,_,_,e,_⟩:=x;exact YD e
 |set S n=>obtain⟨o,_,_,_,e,_⟩:=x;exact YD e
 |ins C dx fs=>obtain⟨_,_,_,e,_⟩:=x;exact YD e
 |own y=>obtain⟨_,e⟩:=x;exact YD e
 |xd fs=>obtain⟨_,⟨_,_,_,e,_⟩,_⟩:=x;exact YD e
 |rng lo hi=>obtain⟨_,_,_,e⟩:=x;exact YD e
 |frz ob u=>obtain⟨e,_⟩:=x;exact YD e
 |tbl ps=>exact YD (show h.get? a=some _ from x)
 |met f y=>exact YD (show h.get? a=some _ from x)
 |ext φ=>obtain⟨_,⟨_,e⟩,_⟩:=x;exact YD e
def Paired.mapP{e c:Type}{F G:e->c->Prop}{l₁:List e}{l:List c}(h:Paired F l₁ l)(f:∀a b,F a b->G a b):Paired G l₁ l:=by
 induction h with
 |nil=>exact .nil
 |cons r _ ih=>exact .cons (f _ _ r) ih
def ObjOk.stay(x:ObjOk P w H h a o)(k:∀b u,(b=a\/H b=some (.own a))->h.get? b=some u->h'.get? b=some u)
  (L:∀b,H b=some (.own a)->H' b=some (.own a)) (K:∀b xs,H b=some (.tup xs)->H' b=some (.tup xs)):ObjOk P w H' h' a o:=by
 induction o with
 |lst xs=>obtain⟨z,l,n,r,e⟩:=x;exact⟨z,l,n,r,k _ _ (.inl rfl) e⟩
 |tup xs=>obtain⟨z,l,r,⟨g,e,c⟩,s,B,M⟩:=x;exact⟨z,l,r,⟨g,k _ _ (.inl rfl) e,c⟩,s,k _ _ (.inl rfl) B,M⟩
 |dK kvs=>obtain⟨z,y,I,r,g,i,j,e,c⟩:=x;exact⟨z,y,I,r,g,i,j,k _ _ (.inl rfl) e,c⟩
 |dT kvs=>
  obtain⟨z,y,xs,r,g,i,j,e,c⟩:=x;exact⟨z,y,xs,Paired.mapP r λp q z=>⟨z.1,K _ _ z.2.1,z.2.2⟩,g,i,j,k _ _ (.inl rfl) e,c⟩
 |set S n=>obtain⟨g,i,j,t,e,c⟩:=x;exact⟨g,i,j,t,k _ _ (.inl rfl) e,c⟩
 |ins C dx fs=>
  obtain⟨d,z,J,e,A,⟨m,i,j,B,c⟩,r⟩:=x;exact⟨L _ d,z,J,k _ _ (.inl rfl) e,A,⟨m,i,j,k _ _ (.inr d) B,c⟩,r⟩
 |own y=>obtain⟨g,e⟩:=x;exact⟨g,k _ _ (.inl rfl) e⟩
 |xd fs=>obtain⟨A,⟨m,i,j,e,c⟩,r⟩:=x;exact⟨A,⟨m,i,j,k _ _ (.inl rfl) e,c⟩,r⟩
 |rng lo hi=>obtain⟨t,u,v,e⟩:=x;exact⟨t,u,v,k _ _ (.inl rfl) e⟩
 |frz g u ih=>obtain⟨e,q⟩:=x;exact⟨k _ _ (.inl rfl) e,ih q⟩
 |tbl ps=>
  have e:h.get? a=some {cls:=.none,data:=.fields ps}:=x;show h'.get? a=some {cls:=.none,data:=.fields ps};exact k a _ (.inl rfl) e
 |met f y=>
  have e:h.get? a=some (PySem.W.methodObj (.ref f) (.ref y)):=x;show h'.get? a=some (PySem.W.methodObj (.ref f) (.ref y));exact k a _ (.inl rfl) e
 |ext φ=>obtain⟨p,⟨o,e⟩,E⟩:=x;exact⟨E _ _ p λo q=>k _ _ (.inl rfl) q,⟨o,k _ _ (.inl rfl) e⟩,E⟩
def HOk.lt(x:HOk P w H h)(e:H a=some o):a<h.objs.size:=(x a o e).lt
def HOk.fresh(x:HOk P w H h)(e:h.objs.size<=a):H a=none:=by
 cases q:H a with
 |none=>rfl
 |some u=>exact absurd (Yv (x.lt q) e) (Zn _)
def HOk.kept(x:HOk P w H h)(k:∀b u,h.get? b=some u->h'.get? b=some u):HOk P w H h':=λa o e=>
 (x a o e).stay (λb u _ q=>k b u q) (λ_ q=>q) λ_ _ q=>q
def HOk.laid(x:HOk P w H h)(k:∀b u,h.get? b=some u->h'.get? b=some u)(i:h.objs.size<=a)(new:ObjOk P w (upd H a o) h' a o):HOk P w (upd H a o) h':=λb u e=>by
 have f:=x.fresh i;by_cases g:b=a
 ·subst g;rw[aC]at e;cases e;exact new
 ·rw[ax g]at e;exact(x b u e).stay (λc v _ q=>k c v q) (λc q=>by rw[ax (aW q f)];exact q) λc j q=>by rw[ax (aW q f)];exact q
end
def Rd(H:Hp)(a:Addr)(u:HO):Prop:=H a=some u\/∃o,H a=some (.frz o u)
def Rd.ok{P:Program}{w:World}{H:Hp}{h:Heap}{a:Addr}{u:HO}(r:Rd H a u)(x:HOk P w H h):ObjOk P w H h a u:=by
 rcases r with r|⟨o,r⟩
 ·exact x a u r
 ·obtain⟨_,q⟩:=x a _ r;exact q
def Mut:Option HO->Prop
 |some (.lst _)=>True
 |some (.dK _)=>True
 |some (.dT _)=>True
 |some (.set _ _)=>True
 |some (.ins _ _ _)=>True
 |some (.ext _)=>True
 |_=>False
section
variable{P:Program}{w:World}{H:Hp}{h h':Heap}{x e:Addr}{o':HO}
def HOk.write(ok:HOk P w H h)(m:Mut (H x))(he:e=x\/H e=some (.own x))(k:∀b u,b≠e->h.get? b=some u->h'.get? b=some u)(l:∃u,h'.get? e=some u)
  (new:ObjOk P w (upd H x o') h' x o'):HOk P w (upd H x o') h':=λb u q=>by
 have f:∀c y,H c=some (.own y)->c≠x:=λc y r z=>by subst z;rw[r]at m;exact m
 have g:∀c i,H c=some (.tup i)->c≠x:=λc i r z=>by subst z;rw[r]at m;exact m
 by_cases j:b=x
 ·subst j;rw[aC]at q;cases q;exact new
 ·rw[ax j]at q;by_cases a:b=e
  ·have o:H b=some (.own x):=by
    rcases he with z|z
    ·exact absurd (a.trans z) j
    ·rw[a];exact z
   rw[q]at o;cases o;obtain⟨v,p⟩:=l;exact⟨v,by rw[a];exact p⟩
  ·refine(ok b u q).stay (λc v hc r=>k c v ?_ r) (λc r=>by rw[ax (f c b r)];exact r) λc i r=>by rw[ax (g c i r)];exact r
   rcases hc with rfl|hc
   ·exact a
   ·rintro rfl;rcases he with z|z
    ·exact f c b hc z
    ·rw[hc]at z;cases z;exact j rfl
end
structure Un (fs ex:List Addr) (H H':Hp) (h h':Heap):Prop where
 keep:∀b o,h.get? b=some o->H b=none->b∉fs->b∉ex->h'.get? b=some o
 slot:∀b o,h.get? b=some o->H b=none->b∈fs->b∉ex->∃sl,h'.get? b=some {o with slots:=sl}
 free:∀b o,h.get? b=some o->H b=none->b∉ex->H' b=none
 there:∀b o,h.get? b=some o->b∉ex->∃o',h'.get? b=some o'
 tups:∀b xs,H b=some (.tup xs)->H' b=some (.tup xs)
 frzs:∀b o u,H b=some (.frz o u)->H' b=some (.frz o u)
 tbls:∀b ps,H b=some (.tbl ps)->∃more,H' b=some (.tbl (ps++more))
section
variable{fs fs' ex ex':List Addr}{H H1 H2:Hp}{h h1 h2 h':Heap}{a x e:Addr}{o:HO}
def Un.any(u:Un fs ex H H1 h h1){b:Addr}{ob:Obj}(q:h.get? b=some ob)(n:H b=none)(hx:b∉ex):∃s,h1.get? b=some {ob with slots:=s}:=by
 by_cases a:b∈fs
 ·exact u.slot b ob q n a hx
 ·exact⟨ob.slots,u.keep b ob q n a hx⟩
def Un.kept(k:∀b u,h.get? b=some u->h'.get? b=some u):Un fs ex H H h h':=
 ⟨λb o q _ _ _=>k b o q,λb o q _ _ _=>⟨o.slots,k b o q⟩,λ_ _ _ n _=>n,λb o q _=>⟨o,k b o q⟩,λ_ _ q=>q,λ_ _ _ q=>q,λ_ p q=>⟨#[],by rw[q];simp⟩⟩
def Un.refl:Un fs ex H H h h:=Un.kept λ_ _ q=>q
def Un.laid(k:∀b u,h.get? b=some u->h'.get? b=some u)(e:h.objs.size<=a)(c:H a=none):Un fs ex H (upd H a o) h h' where
 keep:=λb u q _ _ _=>k b u q
 slot:=λb u q _ _ _=>⟨u.slots,k b u q⟩
 free:=λb u q n _=>by rw[ax (YN (Yv (YD q) e))];exact n
 there:=λb u q _=>⟨u,k b u q⟩
 tups:=λb x q=>by rw[ax (aW q c)];exact q
 frzs:=λb u x q=>by rw[ax (aW q c)];exact q
 tbls:=λb p q=>⟨#[],by rw[ax (aW q c),q];simp⟩
def Un.write(m:Mut (H x))(he:e=x\/H e=some (.own x))(k:∀b u,b≠e->h.get? b=some u->h'.get? b=some u)(f:∃u,h'.get? e=some u):Un fs ex H (upd H x o) h h':=by
 have g:∀b,H b=none->b≠x:=λb n z=>by subst z;rw[n]at m;exact m
 have i:∀b,H b=none->b≠e:=λb n z=>by
  subst z;rcases he with r|r
  ·exact g b n r
  ·rw[n]at r;cases r
 have c:∀b u,H b=some u->¬Mut (some u)->b≠x:=λb u q l z=>by subst z;rw[q]at m;exact l m
 refine⟨λb u q n _ _=>k b u (i b n) q,λb u q n _ _=>⟨u.slots,k b u (i b n) q⟩,λb u q n _=>by rw[ax (g b n)];exact n,λb u q _=>?_,
  λb j q=>by rw[ax (c b _ q λz=>z)];exact q,λb u j q=>by rw[ax (c b _ q λz=>z)];exact q,λb p q=>⟨#[],by rw[ax (c b _ q λz=>z),q];simp⟩⟩
 by_cases a:b=e
 ·subst a;exact f
 ·exact⟨u,k b u a q⟩
end
def trk(h:Heap)(H:Hp):List Addr:=(List.range h.objs.size).filter λa=>(H a).isSome
def rQ(h:Heap)(H:Hp):Heap:=PySem.W.hideAll h (trk h H)
def xg(h:Heap)(H:Hp):(rQ h H).objs.size=h.objs.size:=PySem.W.hideAll_size _ _
def yP{h:Heap}{H:Hp}{b:Addr}{o:Obj}(e:h.get? b=some o)(n:H b=none):(rQ h H).get? b=some o:=
 PySem.W.hideAll_get _ e λa=>by
  have q:(H b).isSome=true:=(List.mem_filter.mp a).2;rw[n]at q;simp at q
def CS{h:Heap}{H:Hp}{b:Addr}{o:Obj}(e:(rQ h H).get? b=some o):h.get? b=some o/\H b=none:=by
 have a:h.get? b=some o:=PySem.W.of_hideAll (trk h H) e;refine⟨a,?_⟩;cases q:H b with
 |none=>rfl
 |some x=>
  have c:b∈trk h H:=List.mem_filter.mpr ⟨Zz.mpr (YD a),by simp[q]⟩;have z:(rQ h H).get? b=none:=PySem.W.hideAll_none (trk h H) c;rw[z]at e;cases e
def Bm(g h:Heap)(L:Addr):List (Addr×Obj):=(List.range h.objs.size).filterMap λa=>if a=L\/(g.get? a).isSome=true then none else(h.get? a).map λo=>(a,o)
def aR(g h:Heap)(L d:Addr):List (Addr×Obj):=(Bm g h L).filter λp=>decide (p.1≠d)
structure Mod (K:PySem.W.Frag) (mg:Str->Option Value) (base:Heap):Prop where
 kin:K.In base
 glob:base.Ns mainGlobals mg
 blt:∃mb,base.Ns builtinsNs mb/\∀x:Str,x ≠ "__name__"->mb x=bootBuiltins x
 nolimit:base.NoLimit
structure Cx where
 prog:Program
 w:World
 K:PySem.W.Frag
 mg:Str->Option Value
 base:Heap
 A:Around
 N:List Str
 s₀:Shared
 H₀:Hp
 env:Env
 outer:List Env
 stack:List Env
 ex:List Addr
 fn:Str->Bool
 calm:Bool
 pn:List (Addr×Obj)
 xe:Value->Shared->Prop
def frs(l:List Env):List Addr:=l.filterMap (·.frame)
abbrev Cx.fs(X:Cx):List Addr:=frs X.outer
def Vis(s:Scope)(x:Str):Prop:=s.names.lookup x=some .local\/s.names.lookup x=some .cell\/s.names.lookup x=some .free
def Loc(s:Scope)(x:Str):Prop:=s.names.lookup x=some .local\/s.names.lookup x=some .cell
def Il(env:Env)(h:Heap)(m:Ks)(x:Str)(u:Value):Prop:=
 (env.kindOf x=some .local/\m x=some u)\/((env.kindOf x=some .cell\/env.kindOf x=some .free)/\∃c,env.cells.lookup x=some c/\h.IsCell c (some u))
structure Cx.Ok (X:Cx):Prop where
 mod:Mod X.K X.mg X.base
 kind:X.env.scope.kind=.function
 glob:X.env.globals=mainGlobals
 blt:X.env.builtins=builtinsNs
 above:X.s₀.heap.objs.size<=X.env.locals
 inj:∀x y c,X.env.cells.lookup x=some c->X.env.cells.lookup y=some c->x=y
 has:∀x,(X.env.kindOf x=some .cell\/X.env.kindOf x=some .free)->∃c,X.env.cells.lookup x=some c
 cab:∀x c,X.fn x=true->X.env.cells.lookup x=some c->X.s₀.heap.objs.size<=c
 hd:X.calm=true->X.A.handled=none
 frames:X.A.frames=some X.stack
 stk:X.stack=X.outer\/(X.stack=X.env::X.outer/\X.env.frame=some X.env.locals)
 exf:∀b∈X.ex,b≠X.env.locals/\∀x c,X.env.cells.lookup x=some c->c≠b
 bs:∀b o,X.base.get? b=some o->X.s₀.heap.get? b=some o/\X.H₀ b=none
 bsz:X.base.objs.size<=X.s₀.heap.objs.size
 noex:∀b o,X.base.get? b=some o->b∉X.ex
 exfs:∀b∈X.ex,b∉X.fs
 funs:X.s₀.heap.FunFrames X.base X.outer
 frf:∀b∈X.fs,X.H₀ b=none
structure Inv (X:Cx) (pz:List (Addr×Obj)) (σ:List (Option V)) (H:Hp) (s:Shared):Prop where
 ok:X.Ok
 os:s.os=X.s₀.os
 bare:AllBare s.gens
 base:Un X.fs X.ex X.H₀ H X.s₀.heap s.heap
 loc:∃m,s.heap.Ns X.env.locals m/\∀(i:Nat) (x:Str) (v:V),X.N[i]?=some x->σ[i]?=some (some v)->Vis X.env.scope x->∃u,RelV v u/\Il X.env s.heap m x u
 cell:∀x c,X.env.cells.lookup x=some c->∃v,s.heap.IsCell c v
 free:H X.env.locals=none
 freeC:∀x c,X.env.cells.lookup x=some c->H c=none
 pin:∀p∈X.pn++pz,s.heap.get? p.1=some p.2/\H p.1=none/\p.1≠X.env.locals/\p.1∉X.fs/\∀v,p.2.data≠.cell v
 hok:HOk X.prog X.w H s.heap
 len:σ.length=X.N.length
section
variable{X:Cx}{pz:Kp}{σ:List (Option V)}{H H':Hp}{s:Shared}{h':Heap}
def Cx.Ok.nofr(ok:X.Ok){b:Addr}{o:Obj}(e:X.base.get? b=some o):b∉X.fs:=λh=>by
 have:=(ok.funs.mem h).1;rw[e]at this;cases this
def Inv.bs(I:Inv X pz σ H s):∀b o,X.base.get? b=some o->s.heap.get? b=some o/\H b=none:=λb o e=>
 ⟨I.base.keep b o (I.ok.bs b o e).1 (I.ok.bs b o e).2 (I.ok.nofr e) (I.ok.noex b o e),I.base.free b o (I.ok.bs b o e).1 (I.ok.bs b o e).2 (I.ok.noex b o e)⟩
def Inv.bk(I:Inv X pz σ H s):∀b o,X.base.get? b=some o->s.heap.get? b=some o:=λb o e=>(I.bs b o e).1
def Inv.mod(I:Inv X pz σ H s):Mod X.K X.mg X.base:=I.ok.mod
def Inv.kIn(I:Inv X pz σ H s):X.K.In s.heap:=I.ok.mod.kin.keeps I.bk
def Inv.lt(I:Inv X pz σ H s):X.env.locals<s.heap.objs.size:=let ⟨_,hn,_⟩:=I.loc;hn.lt
def Inv.sz(I:Inv X pz σ H s):X.s₀.heap.objs.size<=s.heap.objs.size:=YQ I.ok.above (ZB I.lt)
def Inv.nofs(I:Inv X pz σ H s){a:Addr}(h:s.heap.objs.size<=a):a∉X.fs:=λc=>by
 obtain⟨_,o,b,_⟩:=I.ok.funs.mem c;exact absurd (Yv (YD b) (YQ I.sz h)) (Zn _)
def Inv.cne(I:Inv X pz σ H s):∀x c,X.env.cells.lookup x=some c->c≠X.env.locals:=λx c e z=>by
 obtain⟨v,o,b,f⟩:=I.cell x c e;obtain⟨m,⟨g,i,j,h,a,_⟩,_⟩:=I.loc;rw[z,h]at b;cases b;rw[a]at f;cases f
def Inv.funs(I:Inv X pz σ H s):s.heap.FunFrames X.base X.outer:=by
 have all:∀(l:List Env),(∀b∈frs l,b∈X.fs)->X.s₀.heap.FunFrames X.base l->s.heap.FunFrames X.base l:=by
  intro l;induction l with
  |nil=>intro _ _;trivial
  |cons u r ih=>
   intro f m;obtain⟨p,⟨L,o,h,j,i,q⟩,g⟩:=m;have c:L∈X.fs:=f L (by unfold frs;rw[XS,h];exact Yf);obtain⟨w,e⟩:=I.base.slot L o i (I.ok.frf L c) c λz=>I.ok.exfs L z c
   exact⟨p,⟨L,_,h,j,e,q⟩,ih (λb a=>f b (by unfold frs;rw[XS,h];exact Ye _ a)) g⟩
 exact all X.outer (λ_ a=>a) I.ok.funs
def Inv.stack(I:Inv X pz σ H s):s.heap.FunFrames X.base X.stack:=by
 rcases I.ok.stk with e|⟨e,hf⟩
 ·rw[e];exact I.funs
 ·rw[e];obtain⟨m,h,_⟩:=I.loc;refine .cons (by rw[I.ok.kind];decide) hf h ?_ I.funs;exact Heap.get?_none_of_le (YQ I.ok.bsz I.ok.above)
def Inv.stkSub(I:Inv X pz σ H s):∀b∈frs X.stack,b∈X.env.locals::X.fs:=λb h=>by
 rcases I.ok.stk with e|⟨e,hf⟩
 ·rw[e]at h;exact Ye _ h
 ·rw[e]at h;unfold frs at h;rw[XS,hf]at h;exact h
def Inv.stkFree(I:Inv X pz σ H s):∀b∈frs X.stack,H b=none:=λb hb=>by
 rcases YB.mp (I.stkSub b hb)with e|hb
 ·rw[e];exact I.free
 ·obtain⟨_,o,h,_⟩:=I.ok.funs.mem hb;exact I.base.free b o h (I.ok.frf b hb) λz=>I.ok.exfs b z hb
def Inv.step{g':Array GenState}{t':Nat}{d':Drawn}{ch:List Addr}(I:Inv X pz σ H s)
  (f:∀b∈ch,(b∈X.ex\/X.s₀.heap.objs.size<=b)/\b≠X.env.locals/\(∀x c,X.env.cells.lookup x=some c->c≠b)/\∀p∈X.pn++pz,p.1≠b)
  (keep:∀b o,b≠X.env.locals->b∉X.fs->b∉ch->s.heap.get? b=some o->H b=none->h'.get? b=some o)
  (slot:∀b o,b≠X.env.locals->b∈X.fs->b∉ch->s.heap.get? b=some o->H b=none->∃O,h'.get? b=some {o with slots:=O}) (free:∀b o,b∉ch->s.heap.get? b=some o->H b=none->H' b=none)
  (A:∀b o,b∉ch->s.heap.get? b=some o->∃o',h'.get? b=some o')
  (E:∀b xs,H b=some (.tup xs)->H' b=some (.tup xs)) (L:∀b o u,H b=some (.frz o u)->H' b=some (.frz o u)) (J:∀b ps,H b=some (.tbl ps)->∃more,H' b=some (.tbl (ps++more)))
  (ns:∀m,s.heap.Ns X.env.locals m->h'.Ns X.env.locals m) (P:HOk X.prog X.w H' h') (hg:AllBare g') :
  Inv X pz σ H' {s with heap:=h',gens:=g',drawn:=d',toks:=t' }:=by
 have K:∀b o,X.s₀.heap.get? b=some o->b≠X.env.locals:=λb o e=>YN (Yv (YD e) I.ok.above)
 have j:∀b o,X.s₀.heap.get? b=some o->b∉X.ex->b∉ch:=λb o e h B=>by
  rcases(f b B).1 with z|z
  ·exact h z
  ·exact absurd (Yv (YD e) z) (Zn _)
 have g:∀x c,X.env.cells.lookup x=some c->∀v,s.heap.IsCell c v->h'.IsCell c v:=λx c e v Q=>by
  obtain⟨o,C,R⟩:=Q;have a:c∉ch:=λz=>(f c z).2.2.1 x c e rfl
  by_cases Y:c∈X.fs
  ·obtain⟨O,q⟩:=slot c o (I.cne x c e) Y a C (I.freeC x c e);exact⟨_,q,R⟩
  ·exact⟨o,keep c o (I.cne x c e) Y a C (I.freeC x c e),R⟩
 refine⟨I.ok,I.os,hg,⟨λb o e n B h=>?_,λb o e n B h=>?_,λb o e n h=>?_,λb o e h=>?_,λb xs e=>E b xs (I.base.tups b xs e),λb o xs e=>L b o xs (I.base.frzs b o xs e),λb ps e=>?_⟩,?_,λx c e=>?_,?_,λx c e=>?_,λp U=>?_,P,I.len⟩
 ·exact keep b o (K b o e) B (j b o e h) (I.base.keep b o e n B h) (I.base.free b o e n h)
 ·obtain⟨O,y⟩:=I.base.slot b o e n B h;obtain⟨N,M⟩:=slot b _ (K b o e) B (j b o e h) y (I.base.free b o e n h);exact⟨N,M⟩
 ·obtain⟨o',y⟩:=I.base.there b o e h;exact free b o' (j b o e h) y (I.base.free b o e n h)
 ·obtain⟨o',y⟩:=I.base.there b o e h;exact A b o' (j b o e h) y
 ·obtain⟨m1,y⟩:=I.base.tbls b ps e;obtain⟨Z,M⟩:=J b _ y;exact⟨m1++Z,by rw[M,Array.append_assoc]⟩
 ·obtain⟨m,hn,hl⟩:=I.loc;refine⟨m,ns m hn,λi x v y M e3=>?_⟩;obtain⟨u,r,l⟩:=hl i x v y M e3;refine⟨u,r,?_⟩;rcases l with l|⟨k,c,e,z⟩
  ·exact .inl l
  ·exact .inr ⟨k,c,e,g x c e _ z⟩
 ·obtain⟨v,z⟩:=I.cell x c e;exact⟨v,g x c e v z⟩
 ·obtain⟨m,⟨o,_,_,C,_⟩,_⟩:=I.loc;exact free _ o (λz=>(f _ z).2.1 rfl) C I.free
 ·obtain⟨v,o,C,R⟩:=I.cell x c e;exact free c o (λz=>(f c z).2.2.1 x c e rfl) C (I.freeC x c e)
 ·obtain⟨e,n,T,S,d⟩:=I.pin p U;have a:p.1∉ch:=λz=>(f p.1 z).2.2.2 p U rfl
  exact⟨keep p.1 p.2 T S a e n,free p.1 p.2 a e n,T,S,d⟩
def Inv.un{t':Nat}(I:Inv X pz σ H s)(u:Un X.fs [] H H' s.heap h')(a:HOk X.prog X.w H' h'):Inv X pz σ H' {s with heap:=h',toks:=t' }:=by
 obtain⟨m,⟨o,A,B,i,r⟩,_⟩:=id I.loc;obtain⟨q,p⟩:=u.any i I.free (by simp);exact I.step (g':=s.gens) (d':=s.drawn) (ch:=[]) (λ_ z=>nomatch z) (λb o _ c _ e n=>u.keep b o e n c (by simp)) (λb o _ c _ e n=>u.slot b o e n c (by simp)) (λb o _ e n=>u.free b o e n (by simp)) (λb o _ e=>u.there b o e (by simp)) u.tups u.frzs u.tbls (λy l=>by
  obtain⟨x,f,g,h,j⟩:=l;rw[i]at h;cases h;exact⟨_,f,g,p,j⟩) a I.bare
def Inv.call{g':Array GenState}{t':Nat}{d':Drawn}{ch:List Addr}(I:Inv X pz σ H s)(u:Un (frs X.stack) ch H H' s.heap h')(g:HOk X.prog X.w H' h')(B:AllBare g')
  (f:∀b∈ch,(b∈X.ex\/X.s₀.heap.objs.size<=b)/\b≠X.env.locals/\(∀x c,X.env.cells.lookup x=some c->c≠b)/\∀p∈X.pn++pz,p.1≠b) :
  Inv X pz σ H' {s with heap:=h',gens:=g',drawn:=d',toks:=t' }:=by
 obtain⟨m,⟨o,L,M,q,r⟩,_⟩:=id I.loc;obtain⟨E,i⟩:=u.any q I.free λz=>(f _ z).2.1 rfl
 exact I.step (ch:=ch) f (λb o i C h e n=>u.keep b o e n (λz=>(YB.mp (I.stkSub b z)).elim i C) h) (λb o _ _ h e n=>u.any e n h) (λb o h e n=>u.free b o e n h) (λb o h e=>u.there b o e h) u.tups u.frzs u.tbls (λK A=>by
  obtain⟨J,j,l,a,y⟩:=A;rw[q]at a;cases a;exact⟨_,j,l,i,y⟩) g B
def Inv.turned{t':Nat}{it:Addr}(I:Inv X pz σ H s)(k:∀b o,b≠it->s.heap.get? b=some o->h'.get? b=some o)(i:H it=none)(f:it≠X.env.locals)
  (h1:it∈X.ex\/X.s₀.heap.objs.size<=it) (h2:∀x c,X.env.cells.lookup x=some c->c≠it) (w:∀p∈X.pn++pz,p.1≠it):Inv X pz σ H {s with heap:=h',toks:=t' }:=by
 have a:∀b u,H b=some u->b≠it:=λb u e z=>by rw[z,i]at e;cases e
 refine I.step (g':=s.gens) (d':=s.drawn) (ch:=[it]) (λb l=>?_) (λb o _ _ h e _=>k b o (λz=>h (by simp[z])) e) (λb o _ _ h e _=>⟨o.slots,k b o (λz=>h (by simp[z])) e⟩) (λ_ _ _ _ n=>n)
  (λb o h e=>⟨o,k b o (λz=>h (by simp[z])) e⟩) (λ_ _ e=>e) (λ_ _ _ e=>e) (λb B e=>⟨#[],by rw[e];simp⟩) (λm j=>?_) (λb u e=>?_) I.bare
 ·have e:b=it:=by simpa using l
  subst e;exact⟨h1,f,h2,w⟩
 ·obtain⟨o,y,A,g,r⟩:=j;exact⟨o,y,A,k _ o (ZX f) g,r⟩
 ·refine(I.hok b u e).stay (λc v h q=>k c v ?_ q) (λ_ q=>q) λ_ _ q=>q;rcases h with z|z
  ·rw[z];exact a b u e
  ·exact a c _ z
def Inv.tok(I:Inv X pz σ H s)(t:Nat):Inv X pz σ H {s with toks:=t}:=I.un (h':=s.heap) (t':=t) Un.refl I.hok
def Inv.kept{t':Nat}(I:Inv X pz σ H s)(k:∀b u,s.heap.get? b=some u->h'.get? b=some u):Inv X pz σ H {s with heap:=h',toks:=t' }:=I.un (Un.kept k) (I.hok.kept k)
def Inv.laid{a:Addr}{o:HO}{t':Nat}(I:Inv X pz σ H s)(k:∀b u,s.heap.get? b=some u->h'.get? b=some u)(h:s.heap.objs.size<=a)(new:ObjOk X.prog X.w (upd H a o) h' a o) :
  Inv X pz σ (upd H a o) {s with heap:=h',toks:=t' }:=I.un (Un.laid k h (I.hok.fresh h)) (I.hok.laid k h new)
def Inv.write{x e:Addr}{o:HO}{t':Nat}(I:Inv X pz σ H s)(m:Mut (H x))(he:e=x\/H e=some (.own x))(k:∀b u,b≠e->s.heap.get? b=some u->h'.get? b=some u)(h:∃u,h'.get? e=some u)
  (new:ObjOk X.prog X.w (upd H x o) h' x o):Inv X pz σ (upd H x o) {s with heap:=h',toks:=t' }:=I.un (Un.write m he k h) (I.hok.write m he k h new)
def Inv.weak{σ':List (Option V)}(I:Inv X pz σ H s)(h:σ'.length=σ.length)(w:∀(i:Nat) v,σ'[i]?=some (some v)->σ[i]?=some (some v)):Inv X pz σ' H s:=
 ⟨I.ok,I.os,I.bare,I.base,let ⟨m,hn,hl'⟩:=I.loc;⟨m,hn,λi x v b a e=>hl' i x v b (w i v a) e⟩,I.cell,I.free,I.freeC,I.pin,I.hok,h.trans I.len⟩
def Inv.pins_of{a:Kp}(I:Inv X pz σ H s)(h:∀p∈a,s.heap.get? p.1=some p.2/\H p.1=none/\p.1≠X.env.locals/\p.1∉X.fs/\∀v,p.2.data≠.cell v):Inv X a σ H s:=
 ⟨I.ok,I.os,I.bare,I.base,I.loc,I.cell,I.free,I.freeC,λp b=>(Yj.mp b).elim (λz=>I.pin p (Xm _ z)) (h p),I.hok,I.len⟩
def m6{N:List Str}(hN:N.Nodup){i j:Nat}{x:Str}(a:N[i]?=some x)(b:N[j]?=some x):i=j:=by obtain⟨f,c⟩:=YI.mp a;obtain⟨h,e⟩:=YI.mp b;exact(List.getElem_inj hN).mp (c.trans e.symm)
abbrev FnL(X:Cx)(x:Str):Prop:=X.fn x=true\/X.env.scope.names.lookup x=some .local
def wQ{M:Model}{A:Around}{E:Kv}{i:Nat}{x:Str}{v:V}{u:Value}{Q:Unit->Shared->Prop}(I:Inv X pz σ H s)(hN:X.N.Nodup)(hi:X.N[i]?=some x)(hx:Loc X.env.scope x)(r:RelV v u)
  (h:∀s',Inv X pz (σ.set i (some v)) H s'->(∃a,Heap.SameBut a s.heap s'.heap/\(a=X.env.locals\/X.env.cells.lookup x=some a))->Q () s') (hf:FnL X x:=by first|exact .inl rfl|exact .inr rfl|assumption):wpAny M A (storeName X.env x u) Q E s:=by
 obtain⟨m,hn,hl⟩:=id I.loc;have T:(X.env.scope.kind == .class||(X.env.scope.kind == .module&&X.env.locals != X.env.globals))=false:=by rw[I.ok.kind];rfl
 have J:i<σ.length:=by rw[I.len];exact(YI.mp hi).1
 have cne:=I.cne;have g:∀{a:Addr}{P:Heap},(∃o,s.heap.get? a=some o/\H a=none)->Heap.SameBut a s.heap P->HOk X.prog X.w H P:=λ{a P} ha f b ob e=>by
  obtain⟨_,_,B⟩:=ha;refine(I.hok b ob e).stay (λc Z hc q=>(f.2 c ?_).trans q) (λ_ q=>q) λ_ _ q=>q;rintro rfl;rcases hc with rfl|hc
  ·rw[B]at e;cases e
  ·rw[B]at hc;cases hc
 rcases hx with hk|hk
 ·refine wpAny_storeName_local hk hn (λP hn' f=>?_) T;obtain⟨oL,_,_,hoL,_⟩:=id hn;refine h _ ⟨I.ok,I.os,I.bare,⟨λb o e n O hx=>?_,λb o e n O hx=>?_,I.base.free,λb o e hx=>?_,I.base.tups,I.base.frzs,I.base.tbls⟩,⟨_,hn',λj y v' l C e3=>?_⟩,λy c e=>?_,I.free,I.freeC,λp hp=>?_,g ⟨oL,hoL,I.free⟩ f,by simpa using I.len⟩ ⟨_,f,.inl rfl⟩
  ·exact(f.2 b (YN (Yv (YD e) I.ok.above))).trans (I.base.keep b o e n O hx)
  ·obtain⟨sl,l⟩:=I.base.slot b o e n O hx;exact⟨sl,(f.2 b (YN (Yv (YD e) I.ok.above))).trans l⟩
  ·obtain⟨o',l⟩:=I.base.there b o e hx;exact⟨o',(f.2 b (YN (Yv (YD e) I.ok.above))).trans l⟩
  ·by_cases K:j=i
   ·subst K;rw[hi]at l;cases l;rw[Zw J]at C;cases C;exact⟨u,r,.inl ⟨hk,by simp⟩⟩
   ·rw[YT (ZX K)]at C;obtain⟨u',r',q⟩:=hl j y v' l C e3;refine⟨u',r',?_⟩;rcases q with⟨k,e⟩|⟨k,c,e,z⟩
    ·refine .inl ⟨k,?_⟩;have:y≠x:=λe=>K (m6 hN l (e ▸ hi))
     simp[this,e]
    ·exact .inr ⟨k,c,e,z.sameBut f (cne y c e)⟩
  ·obtain⟨Z,z⟩:=I.cell y c e;exact⟨Z,z.sameBut f (cne y c e)⟩
  ·obtain⟨e,n,ne,nf,d⟩:=I.pin p hp;exact⟨(f.2 p.1 ne).trans e,n,ne,nf,d⟩
 ·have L:X.fn x=true:=by
   rcases hf with z|z
   ·exact z
   ·rw[z]at hk;cases hk
  obtain⟨c,hc⟩:=I.ok.has x (.inl hk);obtain⟨Z,z⟩:=I.cell x c hc;refine wpAny_storeName_cell I.ok.kind hk hc z (λP Y f=>?_);obtain⟨oc,S,R⟩:=id z;refine h {s with heap:=P } ⟨I.ok,I.os,I.bare,⟨λb o e n O hx=>?_,λb o e n O hx=>?_,I.base.free,λb o e hx=>?_,I.base.tups,I.base.frzs,I.base.tbls⟩,⟨m,hn.sameBut f (ZX (cne x c hc)),λj y v' l C e3=>?_⟩,λy c' e=>?_,I.free,I.freeC,λp hp=>?_,g ⟨oc,S,I.freeC x c hc⟩ f,by simpa using I.len⟩ ⟨c,f,.inr hc⟩
  ·exact(f.2 b (YN (Yv (YD e) (I.ok.cab x c L hc)))).trans (I.base.keep b o e n O hx)
  ·obtain⟨sl,l⟩:=I.base.slot b o e n O hx;exact⟨sl,(f.2 b (YN (Yv (YD e) (I.ok.cab x c L hc)))).trans l⟩
  ·obtain⟨o',l⟩:=I.base.there b o e hx;exact⟨o',(f.2 b (YN (Yv (YD e) (I.ok.cab x c L hc)))).trans l⟩
  ·by_cases K:j=i
   ·subst K;rw[hi]at l;cases l;rw[Zw J]at C;cases C;exact⟨u,r,.inr ⟨.inl hk,c,hc,Y⟩⟩
   ·rw[YT (ZX K)]at C;obtain⟨u',r',q⟩:=hl j y v' l C e3;refine⟨u',r',?_⟩;rcases q with q|⟨k,c',e,z'⟩
    ·exact .inl q
    ·refine .inr ⟨k,c',e,z'.sameBut f ?_⟩;rintro rfl;exact K (m6 hN l (I.ok.inj _ _ _ e hc ▸ hi))
  ·by_cases U:c'=c
   ·subst U;exact⟨_,Y⟩
   ·obtain⟨w2,z2⟩:=I.cell y c' e;exact⟨w2,z2.sameBut f U⟩
  ·obtain⟨e,n,ne,nf,d⟩:=I.pin p hp;refine⟨(f.2 p.1 ?_).trans e,n,ne,nf,d⟩;intro q;rw[q,S]at e;have q':oc=p.2:=Yu e;exact d Z (by rw[<-q'];exact R)
def mJ{M:Model}{A:Around}{E:Kv}{i:Nat}{x:Str}{v:V}{u:Value}{Q:Unit->Shared->Prop}(I:Inv X pz σ H s)(hN:X.N.Nodup)(hi:X.N[i]?=some x)(hx:Loc X.env.scope x)(r:RelV v u)
  (h:∀s',Inv X pz (σ.set i (some v)) H s'->Q () s') (a:FnL X x:=by first|exact .inl rfl|exact .inr rfl|assumption):wpAny M A (storeName X.env x u) Q E s:=
 wQ I hN hi hx r (λs' b _=>h s' b) a
def Inv.call'{s':Shared}{ch:List Addr}(I:Inv X pz σ H s)(f:s'.os=s.os)(u:Un (frs X.stack) ch H H' s.heap s'.heap)(h:HOk X.prog X.w H' s'.heap)(g:AllBare s'.gens)
  (a:∀b∈ch,(b∈X.ex\/X.s₀.heap.objs.size<=b)/\b≠X.env.locals/\(∀x c,X.env.cells.lookup x=some c->c≠b)/\∀p∈X.pn++pz,p.1≠b):Inv X pz σ H' s':=by
 obtain⟨i,g',d',t',o⟩:=s';have e:o=s.os:=f;subst e;exact I.call (g':=g') (t':=t') (d':=d') u h g a
end
abbrev XK:=Value->Option Addr->Hp->Prop
abbrev St:=List (Option V)
abbrev VK:=V->Hp->Prop
abbrev TE:=St->Hp->VK->Prop
abbrev TT:=St->Hp->(Bool->Hp->Prop)->Prop
abbrev TA:=St->Hp->(List V->Hp->Prop)->Prop
structure Ends where
 nx:St->Hp->Prop
 rt:VK
 bk:St->Hp->Prop:=λ_ _=>False
 ct:St->Hp->Prop:=λ_ _=>False
abbrev TS:=Ends->St->Hp->Prop
def EP(X:Cx)(pz:Kp)(σ:St)(Q:VK)(u:Value)(s':Shared):Prop:=∃v H,Inv X pz σ H s'/\RelV v u/\Q v H
def TP(X:Cx)(pz:Kp)(σ:St)(Q:Bool->Hp->Prop)(b:Bool)(s':Shared):Prop:=∃H,Inv X pz σ H s'/\Q b H
def AP(X:Cx)(pz:Kp)(σ:St)(Q:List V->Hp->Prop)(us:List Value)(s':Shared):Prop:=∃a H,Inv X pz σ H s'/\Vals a us/\Q a H
def SP(X:Cx)(pz:Kp)(D:Ends)(f:Flow)(s':Shared):Prop:=
 match f with
 |.next=>∃a H,Inv X pz a H s'/\D.nx a H
 |.brk=>∃a H,Inv X pz a H s'/\D.bk a H
 |.cont=>∃a H,Inv X pz a H s'/\D.ct a H
 |.ret u=>∃v a H,Inv X pz a H s'/\RelV v u/\D.rt v H
def PE(X:Cx)(e:Expr)(t:TE):Prop:=
 ∀(p:Kp) (s:Shared) (a:St) (H:Hp) (Q:VK),Inv X p a H s->t a H Q->wpAny (model X.prog X.w) X.A (eval e X.env) (EP X p a Q) X.xe s
def PT(X:Cx)(e:Expr)(t:TT):Prop:=
 ∀(p:Kp) (s:Shared) (a:St) (H:Hp) (Q:Bool->Hp->Prop),Inv X p a H s->t a H Q->wpAny (model X.prog X.w) X.A (isTrue e X.env (eval e X.env)) (TP X p a Q) X.xe s
def PW(X:Cx)(e:Expr)(t:TT):Prop:=
 ∀(a:Sem Value) (p:Kp) (s:Shared) (b:St) (H:Hp) (Q:Bool->Hp->Prop),Inv X p b H s->t b H Q->wpAny (model X.prog X.w) X.A (isTrue e X.env a) (TP X p b Q) X.xe s
def PW.pt{X:Cx}{e:Expr}{t:TT}(h:PW X e t):PT X e t:=h _
def PA(X:Cx)(es:List Expr)(t:TA):Prop:=
 ∀(p:Pos) (b:Kp) (s:Shared) (a:St) (H:Hp) (Q:List V->Hp->Prop),Inv X b a H s->t a H Q->wpAny (model X.prog X.w) X.A (spliced (backTo p (starEach es X.env))) (AP X b a Q) X.xe s
def PS(X:Cx)(st:Stmt)(t:TS):Prop:=
 ∀(p:Kp) (s:Shared) (a:St) (H:Hp) (D:Ends),Inv X p a H s->t D a H->wpAny (model X.prog X.w) X.A (exec st X.env) (SP X p D) X.xe s
def PSs(X:Cx)(st:List Stmt)(t:TS):Prop:=
 ∀(p:Kp) (s:Shared) (a:St) (H:Hp) (D:Ends),Inv X p a H s->t D a H->wpAny (model X.prog X.w) X.A (execs st X.env) (SP X p D) X.xe s
def thn{b:Type}{t:Sem b}{Q c:b->Shared->Prop}{M:Model}{A:Around}{E:Kv}{s:Shared}(h:wpAny M A t Q E s)(e:∀a s,Q a s->c a s):wpAny M A t c E s:=Zx h e λ_ _ x=>x
def bh{f e:Type}{X:Cx}{pz:Kp}{σ:St}{t:Sem e}{R:f->e->Prop}{Q:f->Hp->Prop}{T:e->Shared->Prop}{M:Model}{A:Around}{E:Kv}{s:Shared}
  (h:wpAny M A t (λu s1=>∃x H1,Inv X pz σ H1 s1/\R x u/\Q x H1) E s) (k:∀u s1 x H1,Inv X pz σ H1 s1->R x u->Q x H1->T u s1):wpAny M A t T E s:=
 thn h λu s1 z=>by obtain⟨x,H1,a,b,c⟩:=z;exact k u s1 x H1 a b c
def un7{g f e i:Type}{B A Z:g->f->e->i->Prop}{C:Prop}(k:∀P F ρ d,B P F ρ d->A P F ρ d->Z P F ρ d->C)(h:∃P F ρ d,B P F ρ d/\A P F ρ d/\Z P F ρ d):C:=by obtain⟨P,F,ρ,d,a,b,c⟩:=h;exact k P F ρ d a b c
end L2
open PySem L2
variable{H P H' F':Hp}{X:Cx}{K:PySem.W.Frag}{s s':Shared}{σ:L2.St}{pos apos pos' p tpos cpos:Pos}{pz pl:List (Addr×Obj)}{a C f dx l:Addr}{A:Around}{E Q:Value->Shared->Prop}{w:World}{e o c tg b iter value elt:Expr}{x name m qual:Str}{u:Value}{i j t':Nat}{es ifs:List Expr}{ta te tb tv td to:TE}{y:V}{xs vs ys:List V}{us its:List Value}{prog q:Program}{h base h':Heap}{scope:Scope}{CX:CXT}{ps N loose:List Str}{fd:FuncData}{sp:Sp}{env:Env}{mg mA:Str->Option Value}{st:Stmt}{body sts:List Stmt}{fp:List Addr}{tc:TT}{ix:List Nat}{kw:List (Str×Value)}{XP:(Str->Option Value)->Heap->Prop}{YP:World->Heap->Prop}{cs:List (Str×Addr)}{ow':Addr->Prop}
namespace L2
open PySem PySem.Spec PyProof.Rows
section
def cf(i:Nat):TE:=λσ H Q=>∃v,σ[i]?=some (some v)/\Q v H
def tC(v:V):TE:=λ_ H Q=>Q v H
abbrev nDb(x:Str):Prop:=(x == ("__debug__":Str))=false
abbrev nDc(x:Str):Prop:=(x == ("__classdict__":Str))=false
def yd(hN:X.N[i]?=some x)(hv:Vis X.env.scope x)(hd:nDb x:=by decide)(hcd:nDc x:=by decide):PE X (.Name x pos) (cf i):=by
 intro p s f H Q I h;obtain⟨v,e,h⟩:=h;obtain⟨m,g,o⟩:=I.loc;obtain⟨u,r,l⟩:=o i x v hN e hv;have fin:EP X p f Q u s:=⟨v,H,I,r,h⟩
 rcases l with⟨hk,j⟩|⟨hk,c,b,a⟩
 ·exact wpAny_Name (wpAny_loadName_local I.ok.kind hk g j fin) hd
 ·rcases hk with hk|hk
  ·exact wpAny_Name (wpAny_loadName_cell I.ok.kind hk b a fin) hd
  ·exact wpAny_Name (wpAny_loadName_free I.ok.kind hk b a fin hcd) hd
def zT{i j pos}:PE X (.Constant (.int i) j pos) (tC (.int i)):=λ_ _ _ H _ I h=>wpAny_Constant_int ⟨.int i,H,I.tok _,⟨_,rfl⟩,h⟩
def Gb{b j pos}:PE X (.Constant (.bool b) j pos) (tC (.bl b)):=λ_ _ _ H _ I h=>Constant_bool ⟨.bl b,H,I,rfl,h⟩
def ET{j pos}:PE X (.Constant .none j pos) (tC .non):=λ_ _ _ H _ I h=>Constant_none ⟨.non,H,I,rfl,h⟩
def dG{x j pos}:PE X (.Constant (.str x) j pos) (tC (.str x)):=λ_ _ _ H _ I h=>Calls.Constant_str ⟨.str x,H,I.tok _,⟨_,rfl⟩,h⟩
def Gl(X:Cx)(x:Str):Prop:=X.env.kindOf x=some .globalImplicit
def fi(I:Inv X pz σ H s)(b:Gl X x)(a:X.mg x=some u)(h:Q u s)
  (hd:nDb x:=by decide):wpAny (model X.prog X.w) X.A (eval (.Name x pos) X.env) Q E s:=
 Calls.Name_function_global I.ok.kind b (Calls.loadGlobal_global (by rw[I.ok.glob];exact I.mod.glob.keeps I.bk) a h) hd
def rF(I:Inv X pz σ H s)(c:Gl X x)(b:X.mg x=none)(hv:bootBuiltins x=some u)(h:Q u s)
  (a:x ≠ "__name__":=by decide) (hd:nDb x:=by decide):wpAny (model X.prog X.w) X.A (eval (.Name x pos) X.env) Q E s:=by
 obtain⟨m,f,e⟩:=I.mod.blt;exact Calls.Name_function_global I.ok.kind c (Calls.loadGlobal_builtin (by rw[I.ok.glob];exact I.mod.glob.keeps I.bk) b (by rw[I.ok.blt];exact f.keeps I.bk) ((e x a).trans hv) h) hd
def mh{v:V}(b:Gl X x)(a:X.mg x=some u)(r:RelV v u)(hd:nDb x:=by decide):PE X (.Name x pos) (tC v):=
 λ_ _ _ H _ I h=>fi I b a ⟨v,H,I,r,h⟩ hd
def vT{v:V}(c:Gl X x)(b:X.mg x=none)(hv:bootBuiltins x=some u)(r:RelV v u)(a:x ≠ "__name__":=by decide)(hd:nDb x:=by decide):PE X (.Name x pos) (tC v):=
 λ_ _ _ H _ I h=>rF I c b hv ⟨v,H,I,r,h⟩ a hd
variable{a:Expr}  
def PC(X:Cx)(op:CmpOp)(a b:Expr)(t:TE):Prop:=
 ∀(p:Kp) (s:Shared) (f:St) (H:Hp) (Q:VK),Inv X p f H s->t f H Q->
  wpAny (model X.prog X.w) X.A (eval a X.env) (λv e=>wpAny (model X.prog X.w) X.A (eval b X.env) (λu c=>wpAny (model X.prog X.w) X.A (compareOp op v u) (EP X p f Q) X.xe c) X.xe e) X.xe s
def j_(b:Expr){op:CmpOp}(h:op≠.In)(h2:op≠.NotIn):behindInMarks op b=false:=by
 have a:(op == CmpOp.In)=false:=by cases op<;>first|rfl|exact absurd rfl h
 have e:(op == CmpOp.NotIn)=false:=by cases op<;>first|rfl|exact absurd rfl h2
 cases b<;>simp[behindInMarks,a,e]
instance (x:V):Decidable (x=.non):=by cases x<;>first|exact .isTrue rfl|exact .isFalse nofun
def tB(t:TE):TT:=λa H Q=>t a H λx b=>∃c,x=.bl c/\Q c b
def ux{op:CmpOp}{t:TE}(h:PC X op a b t)(h1:behindInMarks op b=false:=by first|exact j_ _ (by decide) (by decide)|rfl):PT X (.Compare a [op] [b] pos) (tB t):=by intro p s f H Q I j;refine wpAny_isTrue_Compare1 (thn (h p s f H _ I j) λv z h1=>thn h1 λu y l=>thn l λc w e=>?_) h1;obtain⟨x,o,m,g,i⟩:=e;obtain⟨d,rfl,q⟩:=i;cases g;exact Zi ⟨o,m,q⟩
def FG{t:TE}(h:PE X e t)(he:∀w,isTrue e X.env w=(do let v <-w;standAt e.pos;holding [v] (truthy v)):=by intro _;rfl):PT X e (tB t):=by intro p s a H Q I f;refine isTrue_plain (bh (h p s a H _ I f) λv j x i g b c=>?_) (he _);obtain⟨d,rfl,q⟩:=c;cases b;exact Zi ⟨i,g,q⟩
variable{tA tB':TT}{aR:List Expr}
def HU(t u:TT):TT:=λa H Q=>t a H λc b=>if c=true then u a b Q else Q false b
def tOr(t u:TT):TT:=λa H Q=>t a H λc b=>if c=true then Q true b else u a b Q
def Ik(t:TT):TT:=λσ H Q=>t σ H λc H1=>Q (!c) H1
def Cj(f:PT X a tA):PW X (.BoolOp .And [a] pos) tA:=by
 intro w p s b H Q I h;refine isTrue_and (thn (f p s b H Q I h) λc g e=>?_);cases c with
 |true=>exact isTrue_and_nil e
 |false=>exact e
def zg(f:PT X a tA):PW X (.BoolOp .Or [a] pos) tA:=by
 intro w p s b H Q I h;refine isTrue_or (thn (f p s b H Q I h) λc g e=>?_);cases c with
 |false=>exact isTrue_or_nil e
 |true=>exact e
def FY(m:PT X a tA)(l:PW X (.BoolOp .And (b::aR) pos) tB'):PW X (.BoolOp .And (a::b::aR) pos) (HU tA tB'):=by
 intro w p s f H Q I h;refine isTrue_and (thn (m p s f H _ I h) λc j e=>?_);obtain⟨i,g,q⟩:=e;cases c with
 |true=>exact l w p j f i Q g q
 |false=>exact⟨i,g,q⟩
def DL(m:PT X a tA)(l:PW X (.BoolOp .Or (b::aR) pos) tB'):PW X (.BoolOp .Or (a::b::aR) pos) (tOr tA tB'):=by
 intro w p s f H Q I h;refine isTrue_or (thn (m p s f H _ I h) λc j e=>?_);obtain⟨i,g,q⟩:=e;cases c with
 |true=>exact⟨i,g,q⟩
 |false=>exact l w p j f i Q g q
def Fh(e:PT X a tA):PT X (.UnaryOp .Not a pos) (Ik tA):=by intro p s b H Q I h;exact isTrue_not (e p s b H (λc f=>Q (!c) f) I h)
def Gm(ta tb:TE):TE:=λa H Q=>ta a H λx b=>∃c,x=.bl c/\if c=true then tb a b Q else Q (.bl false) b
def H_(ta tb:TE):TE:=λa H Q=>ta a H λx b=>∃c,x=.bl c/\if c=true then Q (.bl true) b else tb a b Q
def GH(ta:TE):TE:=λa H Q=>ta a H λx b=>∃c,x=.bl c/\Q (.bl (!c)) b
def E6{op}{t:TE}(h:PE X a t):PE X (.BoolOp op [a] pos) t:=λp s b H Q I c=>BoolOp_one (h p s b H Q I c)
def EN(m:PE X a ta)(l:PE X (.BoolOp .And (b::aR) pos) tb):PE X (.BoolOp .And (a::b::aR) pos) (Gm ta tb):=by
 intro p s e H Q I h;refine BoolOp_and (bh (m p s e H _ I h) λv i x g f j q=>?_);obtain⟨c,rfl,q⟩:=q;cases j;refine Zi ?_;cases c with
 |true=>exact l p i e g Q f q
 |false=>exact⟨.bl false,g,f,rfl,q⟩
def GB(m:PE X a ta)(l:PE X (.BoolOp .Or (b::aR) pos) tb):PE X (.BoolOp .Or (a::b::aR) pos) (H_ ta tb):=by
 intro p s e H Q I h;refine BoolOp_or (bh (m p s e H _ I h) λv i x g f j q=>?_);obtain⟨c,rfl,q⟩:=q;cases j;refine Zi ?_;cases c with
 |false=>exact l p i e g Q f q
 |true=>exact⟨.bl true,g,f,rfl,q⟩
def FS(f:PE X a ta):PE X (.UnaryOp .Not a pos) (GH ta):=by intro p s b H Q I h;refine UnaryOp_ (bh (f p s b H _ I h) λv j x i g e q=>?_);obtain⟨c,rfl,q⟩:=q;cases e;exact not_of (Zi ⟨.bl (!c),i,g,rfl,q⟩)
def tIf(t:TT)(ta tb:TE):TE:=λa H Q=>t a H λc b=>if c=true then ta a b Q else tb a b Q
def zF(l:PT X c tA)(o:PE X a ta)(m:PE X b tb):PE X (.IfExp c a b pos) (tIf tA ta tb):=by
 intro p s e H Q I h;refine wpAny_IfExp (thn (l p s e H _ I h) λd g f=>?_);obtain⟨j,i,q⟩:=f;cases d with
 |true=>exact o p g e j Q i q
 |false=>exact m p g e j Q i q
end
def SqL(K:Kq)(H:Hp)(a:Addr)(xs:List V):Prop:=
 Rd H a (.lst xs) \/
  ∃(o:Obj) (i:Array Value) (n:Nat),K.lookup a=some o/\o.cls=.type "list"/\o.dict=none/\o.data=.seq i n/\i.size<=sizeLine/\Vals xs i.toList
def SqT(K:Kq)(H:Hp)(a:Addr)(xs:List V):Prop:=
 Rd H a (.tup xs) \/
  ∃(o:Obj) (i:Array Value) (n:Nat),K.lookup a=some o/\o.cls=.type "tuple"/\o.data=.seq i n/\i.size<=sizeLine/\Vals xs i.toList
def Ix:Value->Option V
 |.none=>some .non
 |.bool b=>some (.bl b)
 |.int i _=>some (.int i)
 |.str x _=>some (.str x)
 |.bytes b _=>some (.byt b)
 |.float b _=>some (.flt b)
 |.ref a=>some (.ref a)
 |.type n=>some (.ty n)
 |_=>none
def RelV.abs{x:V}(r:RelV x u):Ix u=some x:=by
 cases x with
 |non=>cases r;rfl
 |bl _=>cases r;rfl
 |int _=>obtain⟨t,rfl⟩:=r;rfl
 |str _=>obtain⟨t,rfl⟩:=r;rfl
 |byt _=>obtain⟨t,rfl⟩:=r;rfl
 |flt _=>obtain⟨t,rfl⟩:=r;rfl
 |ref _=>cases r;rfl
 |ty _=>cases r;rfl
def RelV.inj{x:V}(r:RelV x u)(q:RelV y u):x=y:=Yu (r.abs.symm.trans q.abs)
def Vals.inj(h:Vals xs us):Vals ys us->xs=ys:=by
 induction h generalizing ys with
 |nil=>intro q;cases q;rfl
 |cons r _ ih=>
  intro q;cases q with
  |cons b a=>rw[r.inj b,ih a]
def SqL.of(h:H a=some (.lst xs)):SqL K H a xs:=.inl (.inl h)
def SqT.of(h:H a=some (.tup xs)):SqT K H a xs:=.inl (.inl h)
theorem Inv.list(I:Inv X pz σ H s)(h:SqL X.K H a xs):∃its:List Value,Vals xs its/\PlainL s.heap a its.toArray/\xs.length<=sizeLine:=by
 rcases h with h|⟨o,its,n,hk,hc,hd,hs,hz,r⟩
 ·obtain⟨z,its,n,r,e⟩:=h.ok I.hok;exact⟨its,r,⟨_,n,e,rfl,rfl,rfl⟩,z⟩
 ·refine⟨its.toList,r,⟨o,n,I.kIn a o hk,hc,hd,by simpa using hs⟩,?_⟩;have e:=r.length;simp only[Zy]at e;omega
def Inv.tuple(I:Inv X pz σ H s)(h:SqT X.K H a xs):∃its:List Value,Vals xs its/\IsTup s.heap a its.toArray/\xs.length<=sizeLine:=by
 rcases h with h|⟨o,its,n,hk,hc,hs,hz,r⟩
 ·obtain⟨z,its,r,p,_⟩:=h.ok I.hok;exact⟨its,r,p,z⟩
 ·refine⟨its.toList,r,⟨o,I.kIn a o hk,hc,n,by simpa using hs⟩,?_⟩;have e:=r.length;simp only[Zy]at e;omega
def Inv.list_inj(I:Inv X pz σ H s)(h:SqL X.K H a xs)(h':SqL X.K H a ys):xs=ys:=by
 obtain⟨b,r,⟨o,n,e,_,_,d⟩,_⟩:=I.list h;obtain⟨i,g,⟨j,l,c,_,_,f⟩,_⟩:=I.list h';rw[e]at c;cases c;rw[d]at f;injection f with d1 _;have:b=i:=by simpa using YM Array.toList d1
 subst this;exact r.inj g
abbrev Cx.wish(X:Cx)(E:Kv):Cx:={X with xe:=E}
abbrev Cx.nox(X:Cx):Cx:=X.wish λ_ _=>False
def Cx.Ok.wish(ok:X.Ok)(E:Kv):(X.wish E).Ok:=
 ⟨ok.mod,ok.kind,ok.glob,ok.blt,ok.above,ok.inj,ok.has,ok.cab,ok.hd,ok.frames,ok.stk,ok.exf,ok.bs,ok.bsz,ok.noex,ok.exfs,ok.funs,ok.frf⟩
def Cx.Ok.unwish(ok:(X.wish E).Ok):X.Ok:=
 ⟨ok.mod,ok.kind,ok.glob,ok.blt,ok.above,ok.inj,ok.has,ok.cab,ok.hd,ok.frames,ok.stk,ok.exf,ok.bs,ok.bsz,ok.noex,ok.exfs,ok.funs,ok.frf⟩
def Inv.wish(I:Inv X pz σ H s)(E:Kv):Inv (X.wish E) pz σ H s:=⟨I.ok.wish E,I.os,I.bare,I.base,I.loc,I.cell,I.free,I.freeC,I.pin,I.hok,I.len⟩
def Inv.unwish(I:Inv (X.wish E) pz σ H s):Inv X pz σ H s:=⟨I.ok.unwish,I.os,I.bare,I.base,I.loc,I.cell,I.free,I.freeC,I.pin,I.hok,I.len⟩
def SP.unwish{D:Ends}{f:Flow}(h:SP (X.wish E) pz D f s'):SP X pz D f s':=by
 cases f with
 |next=>obtain⟨a,H,I,q⟩:=h;exact⟨a,H,I.unwish,q⟩
 |brk=>obtain⟨a,H,I,q⟩:=h;exact⟨a,H,I.unwish,q⟩
 |cont=>obtain⟨a,H,I,q⟩:=h;exact⟨a,H,I.unwish,q⟩
 |ret u=>obtain⟨v,a,H,I,r,q⟩:=h;exact⟨v,a,H,I.unwish,r,q⟩
def PSs.nox{st:List Stmt}{t:TS}(h:PSs X.nox st t):PSs X st t:=λp s a H D I b=>
 Zx (h p s a H D (I.wish _) b) (λ_ _ q=>q.unwish) λ_ _ z=>False.elim z
section
variable   {aR:List Stmt}{t u:TS}   
def Gy:TS:=λD σ H=>D.nx σ H
def Iu(t u:TS):TS:=λD σ H=>t {D with nx:=u D} σ H
def vW:PSs X [] Gy:=λ_ _ σ H _ I h=>XT ⟨σ,H,I,h⟩
def sK(h1:PS X st t)(h2:PSs X aR u):PSs X (st::aR) (Iu t u):=by
 intro p s b H D I h;refine wpAny_execs_cons (thn (h1 p s b H {D with nx:=u D} I h) λf c q=>?_);cases f with
 |next=>
  obtain⟨a,g,e,q⟩:=q;exact h2 p c a g D e q
 |ret v=>exact q
 |brk=>exact q
 |cont=>exact q
def qq(h1:PS X st t):PSs X [st] t:=by
 intro p s a H D I h;refine wpAny_execs_cons (thn (h1 p s a H D I h) λf b q=>?_);cases f with
 |next=>exact XT q
 |ret v=>exact q
 |brk=>exact q
 |cont=>exact q
def Inv.quiet(I:Inv X pz σ H s):interactive X.env=false:=by simp[interactive,I.ok.kind]
def G6(te:TE):TS:=λD σ H=>te σ H λ_ H1=>D.nx σ H1
def c9(he:PE X e te)(b:swapsWith e none pos.line X.env=pure false:=by rfl):PS X (.Expr e pos) (G6 te):=by intro p s a H D I h;exact wpAny_Expr_any (bh (he p s a H _ I h) λv g x f c i q=>⟨a,f,c,q⟩) I.quiet b
def IM(te:TE):TS:=λD σ H=>te σ H D.rt
def mW(he:PE X e te):PS X (.Return (some e) pos) (IM te):=by intro p s a H D I h;exact wpAny_Return_some (bh (he p s a H _ I h) λv g x f c b q=>⟨x,a,f,c,b,q⟩)
def IH(c:TT)(t u:TS):TS:=λD a H=>c a H λb e=>if b=true then t D a e else u D a e
def ze{a b:List Stmt}(l:PT X c tc)(o:PSs X a t)(m:PSs X b u):PS X (.If c a b pos) (IH tc t u):=by
 intro p s e H D I h;refine wpAny_If (thn (l p s e H _ I h) λd g f=>?_);obtain⟨j,i,q⟩:=f;cases d with
 |true=>exact o p g e j D i q
 |false=>exact m p g e j D i q
def A0:TS:=λ_ _ _=>False
def yv:PS X st A0:=λ_ _ _ _ _ _ h=>h.elim
def wM:PSs X sts A0:=λ_ _ _ _ _ _ h=>h.elim
end
abbrev TG:=V->St->Hp->(St->Hp->Prop)->Prop
abbrev TGs:=List V->St->Hp->(St->Hp->Prop)->Prop
def PG(X:Cx)(a:Expr)(t:TG):Prop:=
 ∀(p:Kp) (s:Shared) (c:St) (H:Hp) (v:V) (u:Value) (Q:St->Hp->Prop),Inv X p c H s->RelV v u->t v c H Q->
  wpAny (model X.prog X.w) X.A (assign a X.env u) (λ_ f=>∃b e,Inv X p b e f/\Q b e) X.xe s
def PGs(X:Cx)(f:List Expr)(t:TGs):Prop:=
 ∀(p:Kp) (s:Shared) (b:St) (H:Hp) (c:List V) (u:List Value) (Q:St->Hp->Prop),Inv X p b H s->Vals c u->t c b H Q->
  wpAny (model X.prog X.w) X.A (assignInOrder ((assignEach f X.env).map (·.2)) u) (λ_ g=>∃a e,Inv X p a e g/\Q a e) X.xe s
abbrev EM:=V->V->V->Hp->(Hp->Prop)->Prop
def GP(X:Cx)(t:EM):Prop:=
 ∀(p:Kp) (s:Shared) (a:St) (H:Hp) (o i v:V) (b c u:Value) (Q:Hp->Prop),Inv X p a H s->RelV o b->RelV i c->RelV v u->t o i v H Q->
  wpAny (model X.prog X.w) X.A (setItem b c u) (λ_ f=>∃e,Inv X p a e f/\Q e) X.xe s
abbrev TIp:=V->V->Hp->VK->Prop
def PIp(X:Cx)(op:Operator)(t:TIp):Prop:=
 ∀(p:Kp) (s:Shared) (a:St) (H:Hp) (x y:V) (v u:Value) (Q:VK),Inv X p a H s->RelV x v->RelV y u->t x y H Q->
  wpAny (model X.prog X.w) X.A (inplaceOp op v u) (EP X p a Q) X.xe s
def pq(i:Nat):TG:=λv σ H Q=>Q (σ.set i (some v)) H
def wC(hN:X.N.Nodup)(hi:X.N[i]?=some x)(hx:Loc X.env.scope x)(a:FnL X x:=by first|exact .inl rfl|exact .inr rfl|assumption):PG X (.Name x pos) (pq i):=by intro p s c H v u Q I r h;exact wpAny_assign_Name (mJ I hN hi hx r (λe b=>⟨_,H,b,h⟩) a)
def GX:TGs:=λvs σ H Q=>vs=[]/\Q σ H
def DM(t:TG)(u:TGs):TGs:=λc b H Q=>∃v r,c=v::r/\t v b H λa e=>u r a e Q
def j9:PGs X [] GX:=by intro p s a H b u Q I r h;obtain⟨e,h⟩:=h;subst e;cases r;exact assignInOrder_nil ⟨a,H,I,h⟩
def cA{t:TG}{u:TGs}(h1:PG X e t)(h2:PGs X es u)
  (i:(assignEach (e::es) X.env).map (·.2)=assign e X.env::(assignEach es X.env).map (·.2):=by rfl):PGs X (e::es) (DM t u):=by
 intro p s c H o x Q I r h;obtain⟨v,w,j,h⟩:=h;subst j;cases r with
 |cons r g=>
  rw[i];refine assignInOrder_cons (thn (h1 p s c H _ _ _ I r h) λ_ f b=>?_);obtain⟨a,m,l,q⟩:=b;exact h2 p f a m _ _ Q l g q
def HN(K:Kq)(n:Nat)(t:TGs):TG:=λv b H Q=>∃a x,v=.ref a/\SqT K H a x/\x.length=n/\t x b H Q
def EV{k:Nat}{t:TGs}{n:Nat}(z:X.calm=true)(h:PGs X es t)
  (w:(assignEach es X.env).length=n:=by rfl) (f:(assignEach es X.env).findIdx? (·.1)=none:=by rfl):PG X (.Tuple es k pos) (HN X.K n t):=by
 intro p s g H v u Q I r c;obtain⟨a,x,B,q,y,c⟩:=c;subst B;cases r;obtain⟨j,i,m,E⟩:=I.tuple q;refine assign_Tuple_tuple (I.ok.hd z) m (by simp[w,<-y,i.length]) f λA l=>?_;have C:Inv X p g H {s with heap:=A }:=I.kept (t':=s.toks) λb o e=>l b o (YN (YD e)) e
 exact h p _ g H x _ Q C (by simpa using i) c
def IX(to b:TE)(t:EM):TG:=λv a H Q=>to a H λo f=>b a f λi e=>t o i v e λc=>Q a c
def EK{i:Expr}{f:TE}{t:EM}(B:PE X o to)(hi:PE X i f)(A:GP X t)
  (C:∀v,assign (.Subscript o i pos) X.env v=(do
   let a <-holding [v] (eval o X.env)
   let b <-holding [v,a] (eval i X.env)
   standAt pos
   holding [v,a,b] (setItem a b v)
   release [v,a,b] []):=by intro _;rfl):PG X (.Subscript o i pos) (IX to f t):=by
 intro p s c H v u Q I r h;rw[C];refine Yq (ZU (bh (B p s c H _ I h) λa j x N K m z=>?_));refine Yq (ZU (bh (hi p j c N _ K z) λb g y M J l w=>?_));refine Yq (wpAny_standAt (Yq (ZU (thn (A p g c M x y v a b u _ J m l r w) λ_ O e=>?_))));obtain⟨L,E,q⟩:=e;exact wpAny_release ⟨c,L,E,q⟩
def Du(te:TE)(g:TG):TS:=λD a H=>te a H λx b=>g x a b D.nx
def zR{g:TG}(he:PE X e te)(j:PG X tg g)(i:swapsWithSole [tg] e pos.line X.env=pure false:=by rfl)(hw:swappedStores [tg] e X.env=pure none:=by rfl)
  (h1:(assignEach [tg] X.env).map (·.2)=[assign tg X.env]:=by rfl):PS X (.Assign [tg] e pos) (Du te g):=by
 intro p s a H D I h;refine wpAny_Assign_stores (bh (he p s a H _ I h) λv b x m l c f=>?_) i hw;rw[h1];exact thn (j p b a m x v _ l c f) λ_ o q=>q
def mw(hN:X.N.Nodup)(hi:X.N[i]?=some x)(hx:Loc X.env.scope x)(he:PE X e te)(c:swapsWith e (some (.Name x pos')) pos.line X.env=pure false:=by rfl)(f:FnL X x:=by first|exact .inl rfl|exact .inr rfl|assumption) :
  PS X (.Assign [.Name x pos'] e pos) (Du te (pq i)):=by
 intro p s a H D I h;refine wpAny_Assign_Name (bh (he p s a H _ I h) λv o y l j b q=>?_) c;exact mJ j hN hi hx b (λm g=>⟨_,l,g,q⟩) f
def ipI(f:Int->Int->Int):TIp:=λx y H Q=>∃i j,x=.int i/\y=.int j/\Q (.int (f i j)) H
def EQ:PIp X .Add (ipI λi j=>i+j):=by intro p s f H x y v u Q I b a h;obtain⟨i,j,c,e,q⟩:=h;subst c;subst e;obtain⟨t,rfl⟩:=b;obtain⟨g,rfl⟩:=a;exact iadd_int ⟨.int _,H,I.tok _,⟨_,rfl⟩,q⟩
def ED(c:TT)(tb:TS):TS:=λD a H=>∃W:Nat->St->Hp->Prop,(∃m,W m a H)/\∀m a H,W m a H->
 c a H λb g=>if b=true then ∃N:St->Hp->Prop,(∀e h,N e h->∃f,f < m/\W f e h)/\tb {D with nx:=N,ct:=N,bk:=D.nx} a g else D.nx a g
def sW{tb:TS}(z:PassesOwn (model X.prog X.w) X.A X.env X.xe)(T:PT X c tc)(U:PSs X body tb):PS X (.While c body [] pos) (ED tc tb):=by
 intro p s L H D I h;obtain⟨W,⟨S,O⟩,i⟩:=h;refine wpAny_While (codeAny_whileLoop (λn R=>∃g K,Inv X p g K R/\W n g K) ?_ S ⟨L,H,I,O⟩);rintro n Q ⟨e,J,Y,M⟩;refine ZP z (thn (T p Q e J _ Y (i n e J M)) λb P x=>?_);obtain⟨E,C,l⟩:=x;cases b with
 |true=>
  obtain⟨N,B,l⟩:=l;rw[Yi rfl];refine ZP z (thn (U p P e E _ C l) λf Z q=>?_);cases f with
  |next=>
   obtain⟨a,j,y,n3⟩:=q;obtain⟨o,u,m⟩:=B a j n3;exact⟨o,u,a,j,y,m⟩
  |cont=>
   obtain⟨a,j,y,n3⟩:=q;obtain⟨o,u,m⟩:=B a j n3;exact⟨o,u,a,j,y,m⟩
  |brk=>exact q
  |ret v=>exact q
 |false=>
  rw[Yr Ym];exact XT ⟨e,E,C,l⟩
structure It where
 go:Nat->Hp->Prop
 yld:Nat->Hp->V->Hp->Prop
 stop:Nat->Hp->Prop
def kQ(X:Cx)(pz:Kp)(H:Hp)(b:Addr):Prop:=
 H b=none/\b≠X.env.locals/\b∉X.fs/\(b∈X.ex\/X.s₀.heap.objs.size<=b)/\(∀x c,X.env.cells.lookup x=some c->c≠b)/\∀p∈X.pn++pz,p.1≠b
def Inv.fpOk{b:Addr}(I:Inv X pz σ H s)(h:s.heap.objs.size<=b)(f:H' b=none):kQ X pz H' b:=by
 refine⟨f,Nat.ne_of_gt (Yv I.lt h),I.nofs h,.inr (YQ I.sz h),λx c e z=>?_,λp a z=>?_⟩
 ·obtain⟨v,q⟩:=I.cell x c e;exact absurd (Yv q.lt (by rw[z];exact h)) (Zn _)
 ·exact absurd (Yv (YD (I.pin p a).1) (by rw[z];exact h)) (Zn _)
structure Turn (P:Program) (w:World) (K:PySem.W.Frag) (tg:Expr) (J:It) (fp:List Addr) (it:Addr) (tn:Nat->Heap->Prop):Prop where
 mem:it∈fp
 obj:∀i h,tn i h->∀b∈fp,∃o,h.get? b=some o/\∀v,o.data≠.cell v
 keep:∀i h h',tn i h->(∀b∈fp,∀o,h.get? b=some o->h'.get? b=some o)->tn i h'
 item:∀(X:Cx),X.prog=P->X.w=w->X.K=K->X.calm=true->∀(i:Nat) (pz:Kp) (s:Shared) (σ:St) (H:Hp) (E:Kv),Inv X pz σ H s->(∀b∈fp,kQ X pz H b)->tn i s.heap->J.go i H->
  wpAny (model P w) X.A (pyNext (.ref it)) (λr s1=>∃u,r=some u /\
   wpAny (model P w) X.A (letOwnedTupleGo tg (.ref it) u) (λ_ s2=>∃x H',Inv X pz σ H' s2/\RelV x u/\J.yld i H x H'/\tn (i+1) s2.heap/\∀b∈fp,H' b=none) E s1) E s
 done:∀(X:Cx),X.prog=P->X.w=w->X.K=K->X.calm=true->∀(i:Nat) (pz:Kp) (s:Shared) (σ:St) (H:Hp) (E:Kv),Inv X pz σ H s->(∀b∈fp,kQ X pz H b)->tn i s.heap->J.stop i H->
  wpAny (model P w) X.A (pyNext (.ref it)) (λr s1=>r=none/\Inv X pz σ H s1) E s
 self:∀(A:Around) (i:Nat) (s:Shared) (Q:Kv) (E:Kv),tn i s.heap->Q (.ref it) s->wpAny (model P w) A (pyIter (.ref it)) Q E s
abbrev TI:=St->Hp->(It->Hp->Prop)->Prop
def PIE(X:Cx)(pz:Kp)(σ:St)(tg:Expr)(R:It->Hp->Prop)(i:Value)(s:Shared):Prop:=
 ∃(c:Addr) (f:List Addr) (a:Nat->Heap->Prop) (J:It) (H:Hp),i=.ref c/\Inv X pz σ H s/\Turn X.prog X.w X.K tg J f c a/\a 0 s.heap/\(∀b∈f,kQ X pz H b)/\R J H
def PI(X:Cx)(tg iter:Expr)(wi:TI):Prop:=
 ∀(p:Kp) (s:Shared) (a:St) (H:Hp) (R:It->Hp->Prop),Inv X p a H s->wi a H R->
  wpAny (model X.prog X.w) X.A (eval iter X.env) (λv b=>wpAny (model X.prog X.w) X.A (pyIter v) (PIE X p a tg R) X.xe b) X.xe s
def AL{M:Model}{it:Addr}{o:Obj}{n:String}{vs:Array Value}{Q:Unit->Shared->Prop}(b:s.heap.get? it=some o)(e:o.cls=.type n)(hd:o.data=.fields vs)
  (c:["enumerate","zip","dict_itemiterator","dict_reverseitemiterator","odict_iterator","itertools.zip_longest","itertools.pairwise"].contains n=false) (a:Q () s):wpAny M A (letOwnedTupleGo tg (.ref it) u) Q E s:=by
 unfold letOwnedTupleGo;cases tg<;>first
  |exact YR a
  |(cases u<;>first
    |exact YR a
    |(
     refine Yq (wpAny_load b ?_);rw[e,hd];show wpAny M A (if(["enumerate","zip","dict_itemiterator","dict_reverseitemiterator","odict_iterator","itertools.zip_longest","itertools.pairwise"].contains n&&vs[0]? == some (rawInt _))=true then _ else _) Q E s;rw[Yr (by intro h;rw[c,Bool.false_and]at h;cases h)];exact YR a))
def Itl(K:Kq)(a:Addr):It:=
 ⟨λi H=>∃b x,SqL K H a b/\b[i]?=some x,λi H x c=>c=H/\∀b,SqL K H a b->b[i]?=some x,λi H=>∃b,SqL K H a b/\b.length<=i⟩
def Itr(lo:Int)(n:Nat):It:=⟨λi _=>i<n,λi H x a=>a=H/\x=.int (lo+i),λi _=>n<=i⟩
theorem wZ{P:Program}(a it:Addr):Turn P w K tg (Itl K a) [it] it (λi h=>h.IsListIter it a i) where
 mem:=by simp
 obj:=λi h f b g=>by
  have e:b=it:=by simpa using g
  subst e;obtain⟨o,e,c,d⟩:=f;exact⟨o,e,λv z=>by rw[d]at z;cases z⟩
 keep:=λi h q f k=>f.at λo e=>k it (by simp) o e
 item:=by intro X L C M Y i U s T H E I m f J;subst L C M;obtain⟨Z,x,l,B⟩:=J;obtain⟨A,y,p,hz⟩:=I.list l;obtain⟨u,hu,ru⟩:=y.get B;obtain⟨S,R,f2,Q,O,N⟩:=m it (by simp);refine wpAny_pyNext_list_item f p.isList (x:=u) (by simpa using hu) λq j sb=>?_;have I1:Inv X U T H {s with heap:=q }:=I.turned (t':=s.toks) (λb o g e=>(sb.2 b g).trans e) S R Q O N;obtain⟨o,e,c,d⟩:=id j;exact⟨u,rfl,AL (s:={s with heap:=q }) e c d (by decide) ⟨x,H,I1,ru,⟨rfl,λys hy=>by rw[I.list_inj hy l];exact B⟩,j,λb g=>(m b g).1⟩⟩
 done:=by intro X L C M Y i U s T H E I m f J;subst L C M;obtain⟨Z,l,B⟩:=J;obtain⟨A,y,p,hz⟩:=I.list l;obtain⟨S,R,f2,Q,O,N⟩:=m it (by simp);have hl:=y.length;exact wpAny_pyNext_list_end (I.ok.hd Y) f p.isList (by simp;omega) λq eb=>⟨rfl,I.turned (t':=s.toks) (λb o g e=>eb b o g e) S R Q O N⟩
 self:=λ_ _ _ _ _ f h=>wpAny_pyIter_listiter f h
theorem uF{P:Program}(it:Addr)(lo:Int)(n:Nat):Turn P w K tg (Itr lo n) [it] it (λi h=>IsRangeIter h it (lo+(i:Nat)*1) ((n:Int)-(i:Nat)) 1) where
 mem:=by simp
 obj:=λi h a b c=>by
  have e:b=it:=by simpa using c
  subst e;exact⟨_,a,λv z=>by
   have N:Data.fields _=Data.cell v:=z;cases N⟩
 keep:=λi h j a k=>k it (by simp) _ a
 item:=by intro X q l u p i M s J H E I g a m;subst q l u;obtain⟨C,B,R,A,y,x⟩:=g it (by simp);have W:=Walks.range (prog:=X.prog) (w:=X.w) (I.ok.hd p) it lo 1 n;refine W.item i s _ _ m a λv j L Q f O=>?_;obtain⟨t,rfl⟩:=Q;have T:Inv X M J H {s with heap:=j,toks:=L}:=I.turned (λb o c e=>O b o (by simpa using c) e) C B A y x;refine⟨_,rfl,AL (s:={s with heap:=j,toks:=L}) (n := "range_iterator") f rfl rfl (by decide) ⟨.int (lo+i),H,T,⟨t,?_⟩,⟨rfl,rfl⟩,f,λb c=>(g b c).1⟩⟩;rw[Int.mul_one]
 done:=by intro X q l u p i M s J H E I g a m;subst q l u;obtain⟨C,B,R,A,y,x⟩:=g it (by simp);exact wpAny_pyNext_range_end (I.ok.hd p) a (by have:n<=i:=m;omega) λj S=>⟨rfl,I.turned (t':=s.toks) (λb o c e=>S b o c e) C B A y x⟩
 self:=λ_ _ _ _ _ a h=>wpAny_pyIter_rangeiter a h
def Hf(K:Kq)(tl:TE):TI:=λc H R=>tl c H λx b=>∃a,x=.ref a/\(∃e,SqL K b a e)/\R (Itl K a) b
def ww{l:Expr}{tl:TE}(y:PE X l tl):PI X tg l (Hf X.K tl):=by
 intro m s g H R I h;refine bh (y m s g H _ I h) λv c x A f i j=>?_;obtain⟨a,e,⟨B,w⟩,q⟩:=j;subst e;cases i;obtain⟨u,C,p,E⟩:=f.list w;refine wpAny_pyIter_list p.isList ?_;refine⟨c.heap.objs.size,[c.heap.objs.size],_,_,A,rfl,f.kept (t':=c.toks) λb o e=>Yx _ e,wZ a _,⟨_,YJ _ rfl,rfl,rfl⟩,λb z=>?_,q⟩;have e:b=c.heap.objs.size:=by simpa using z
 subst e;exact f.fpOk (Yy _) (f.hok.fresh (Yy _))
theorem zW{R:It->Hp->Prop}{lo hi:Int}{t u v:Tok}{tk:Nat}(I:Inv X pz σ H s)(h1:-(2^62)<=lo)(h2:lo<2^62)(f:-(2^62)<=hi)(c:hi<2^62)
  (q:R (Itr lo (hi-lo).toNat) H):wpAny (model X.prog X.w) X.A (pyIter (.ref s.heap.objs.size)) (PIE X pz σ tg R) E {s with heap:=s.heap.push {cls:=.type "range",data:=.fields #[.int lo t,.int hi u,.int 1 v]},toks:=tk}:=by
 refine wpAny_pyIter_range (IsRange.new ..) (small_one h1 h2 f c) ?_;have a:Inv X pz σ H {s with heap:=s.heap.push {cls:=.type "range",data:=.fields #[.int lo t,.int hi u,.int 1 v]},toks:=tk}:=I.kept λb o e=>Yx _ e
 refine⟨(s.heap.push {cls:=.type "range",data:=.fields #[.int lo t,.int hi u,.int 1 v]}).objs.size,[(s.heap.push {cls:=.type "range",data:=.fields #[.int lo t,.int hi u,.int 1 v]}).objs.size],_,_,H,rfl,
  a.kept (t':=tk) λb o e=>Yx _ e,uF _ lo (hi-lo).toNat,?_,λb h=>?_,q⟩
 ·have i:lo+((0:Nat):Int)*1=lo:=by simp
  have g:(((hi-lo).toNat:Nat):Int)-((0:Nat):Int)=Builtin.Range.rangeSize lo hi 1:=by rw[rangeSize_one];split<;>omega
  show IsRangeIter _ _ (lo+((0:Nat):Int)*1) ((((hi-lo).toNat:Nat):Int)-((0:Nat):Int)) 1;rw[i,g];exact YJ _ rfl
 ·have e:b=(s.heap.push {cls:=.type "range",data:=.fields #[.int lo t,.int hi u,.int 1 v]}).objs.size:=by simpa using h
  subst e;exact a.fpOk (Yy _) (a.hok.fresh (Yy _))
def GG(ta:TA):TI:=λa H R=>ta a H λb c=>∃j:Int,b=[.int j]/\-(2^62)<=j/\j<2^62/\R (Itr 0 j.toNat) c
theorem wU{a:Expr}{ta:TA}(u:Gl X "range")(o:X.mg "range"=none)(w:PA X [a] ta)(m:starEach [a] X.env=[(false,eval a X.env)]:=by rfl):PI X tg (.Call (.Name "range" p) [a] [] pos) (GG ta):=by
 intro l s c H R I h;refine Call_ (rF I u o boot_range (PyProof.Rows.callWith_type1 (bh (w pos l s c H _ I h) λz A y B x g b=>?_) m rfl));obtain⟨j,e,b,i,q⟩:=b;subst e;cases g with
 |cons r f=>
  cases f;obtain⟨t,rfl⟩:=r;exact call_range_1 (zW x (by omega) (by omega) b i (by simpa using q))
def Iz(wi:TI)(g:TG)(tb:TS):TS:=λD a H=>wi a H λJ j=>∃W:Nat->Nat->St->Hp->Prop,(∃m,W 0 m a j)/\∀i m a H,W i m a H->
 (J.stop i H/\D.nx a H)\/(J.go i H/\∃N:St->Hp->Prop,(∀b c,N b c->∃f,f < m/\W (i+1) f b c)/\∀x c,J.yld i H x c->g x a c λe h=>tb {D with nx:=N,ct:=N,bk:=D.nx} e h)
def mr(fp:List Addr)(h:Heap):List (Addr×Obj):=fp.filterMap λb=>(h.get? b).map λo=>(b,o)
def gY{b:Addr}{o:Obj}(a:b∈fp)(e:h.get? b=some o):(b,o)∈mr fp h:=ZZ.mpr ⟨b,a,by rw[e];rfl⟩
def wX{p:Addr×Obj}(a:p∈mr fp h):p.1∈fp/\h.get? p.1=some p.2:=by
 obtain⟨b,c,e⟩:=ZZ.mp a;cases q:h.get? b with
 |none=>rw[q]at e;cases e
 |some o=>
  rw[q]at e;have f:(b,o)=p:=Yu e;subst f;exact⟨c,q⟩
def Inv.pinned(I:Inv X pz σ H s)(g:∀b∈fp,kQ X pz H b)(f:∀b∈fp,∃o,s.heap.get? b=some o/\∀v,o.data≠.cell v):Inv X (pz++mr fp s.heap) σ H s:=
 I.pins_of λp c=>(Yj.mp c).elim (λz=>I.pin p (YX _ z)) λz=>by
  obtain⟨h,e⟩:=wX z;obtain⟨l,j,i,_⟩:=g p.1 h;obtain⟨o,a,d⟩:=f p.1 h;rw[e]at a;cases a;exact⟨e,l,j,i,d⟩
def Inv.unpinned(I:Inv X (pz++pl) σ H s):Inv X pz σ H s:=I.pins_of λp h=>I.pin p (YX _ (Xm _ h))
abbrev FsI(e:Expr)(X:Cx):Prop:=∀x,foldedSetIterable e X.env x=pure x
def Fc{wi:TI}{g:TG}{tb:TS}(R:PassesOwn (model X.prog X.w) X.A X.env X.xe)(hc:X.calm=true)(hi:PI X tg iter wi)(hg:PG X tg g)(p:PSs X body tb)
  (hs:FsI iter X:=by intro _;rfl):PS X (.For tg iter body [] pos) (Iz wi g tb):=by
 intro K s σ H D I h;refine wpAny_For (thn (hi K s σ H _ I h) λv s1 h1=>thn h1 λitv s2 h2=>?_) hs;obtain⟨it,U,tn,J,H2,e,I2,T,st2,f2,W,⟨m0,w0⟩,M⟩:=h2;subst e
 -- what stays true of the iterator's objects through the loop
 have l:∀{B:Hp},(∀b∈U,B b=none)->∀b∈U,kQ X K B b:=λhn b p=>⟨hn b p,(f2 b p).2⟩
 refine codeAny_forLoop_any (λn s'=>∃i j B,Inv X K j B s'/\tn i s'.heap/\(∀b∈U,B b=none)/\W i n j B) ?_ m0 ⟨0,σ,H2,I2,st2,λb p=>(f2 b p).1,w0⟩;rintro n s3 ⟨i,c,Y,I3,P,S,w3⟩;rcases M i n c Y w3 with⟨O,qn⟩|⟨go,N,hN,step⟩
 ·refine ZP R (thn (T.done X rfl rfl rfl hc i K s3 c Y X.xe I3 (l S) P O) λr s4 ⟨hr,I4⟩=>?_);subst hr;exact XT ⟨c,Y,I4,qn⟩
 ·refine ZP R (thn (T.item X rfl rfl rfl hc i K s3 c Y X.xe I3 (l S) P go) λr s4 ⟨u,hr,h4⟩=>?_);subst hr;refine ZP R (thn h4 λ_ s5 L=>?_);obtain⟨x,H5,I5,r5,y5,E,fr5⟩:=L;have I5':=I5.pinned (l fr5) (T.obj _ _ E);refine ZP R (thn (hg _ s5 c H5 x u _ I5' r5 (step x H5 y5)) λ_ s6 L=>?_);obtain⟨Z,H6,I6,q6⟩:=L;refine ZP R (thn (p _ s6 Z H6 _ I6 q6) λf s7 C=>?_);have q:∀{a:St}{z:Hp},Inv X (K++mr U s5.heap) a z s7->N a z->∃m,m<n/\∃i j B,Inv X K j B s7/\tn i s7.heap/\(∀b∈U,B b=none)/\W i m j B:=λ{a z} y Q=>by
   obtain⟨m',hm,w7⟩:=hN a z Q;refine⟨m',hm,i+1,a,z,y.unpinned,T.keep _ _ _ E λb p o e=>(y.pin (b,o) (YX _ (YX _ (gY p e)))).1,λb p=>?_,w7⟩;obtain⟨o,e,d⟩:=T.obj _ _ E b p;exact(y.pin (b,o) (YX _ (YX _ (gY p e)))).2.1
  cases f with
  |next=>obtain⟨a,z,y,Q⟩:=C;exact q y Q
  |cont=>obtain⟨a,z,y,Q⟩:=C;exact q y Q
  |brk=>obtain⟨a,z,y,C⟩:=C;exact⟨a,z,y.unpinned,C⟩
  |ret v=>obtain⟨x7,a,z,y,r7,C⟩:=C;exact⟨x7,a,z,y.unpinned,r7,C⟩
abbrev R2:=V->V->Hp->VK->Prop
def OpR(X:Cx)(f:Value->Value->Sem Value)(r:R2):Prop:=
 ∀(p:Kp) (s:Shared) (a:St) (H:Hp) (x y:V) (v u:Value) (Q:VK),Inv X p a H s->RelV x v->RelV y u->r x y H Q->
  wpAny (model X.prog X.w) X.A (f v u) (EP X p a Q) X.xe s
def CallR(X:Cx)(f:Value)(r:List V->Hp->VK->Prop):Prop:=
 ∀(p:Kp) (s:Shared) (a:St) (H:Hp) (x:List V) (u:List Value) (Q:VK),Inv X p a H s->Vals x u->r x H Q->
  wpAny (model X.prog X.w) X.A (call f u) (EP X p a Q) X.xe s
def I9(X:Cx)(r:V->Hp->(Bool->Hp->Prop)->Prop):Prop:=
 ∀(p:Kp) (s:Shared) (a:St) (H:Hp) (x:V) (v:Value) (Q:Bool->Hp->Prop),Inv X p a H s->RelV x v->r x H Q->
  wpAny (model X.prog X.w) X.A (truthy v) (TP X p a Q) X.xe s
def tOp(r:R2)(ta tb:TE):TE:=λa H Q=>ta a H λx c=>tb a c λy b=>r x y b Q
def rI(C:Int->Int->Prop)(g:Int->Int->V):R2:=λx y H Q=>∃i j,x=.int i/\y=.int j/\C i j/\Q (g i j) H
def rI0(g:Int->Int->V):R2:=λx y H Q=>∃i j,x=.int i/\y=.int j/\Q (g i j) H
section
variable  {a:Expr}{tc:TE} 
def EC(z:PE X a ta)(p:PE X b tb){R:V->V->Hp->Prop}(I:Inv X pz σ H s)
  (h:ta σ H λx H1=>tb σ H1 λy H2=>R x y H2)  {f:Value->Value->Sem Value}
  (o:∀v u g x y H2,Inv X pz σ H2 g->RelV x v->RelV y u->R x y H2->wpAny (model X.prog X.w) X.A (f v u) Q X.xe g) :
  wpAny (model X.prog X.w) X.A (eval a X.env) (λv e=>wpAny (model X.prog X.w) X.A (eval b X.env) (λu c=>wpAny (model X.prog X.w) X.A (f v u) Q X.xe c) X.xe e) X.xe s:=by
 refine bh (z pz s σ H _ I h) λv i x H1 C l m=>?_;refine bh (p pz i σ H1 _ C m) λu g y H2 B j q=>?_;exact o v u g x y H2 B l j q
def zk{op:Operator}{r:R2}(i:OpR X (binaryOp op) r)(l:PE X a ta)(j:PE X b tb):PE X (.BinOp a op b pos) (tOp r ta tb):=by intro p s c H Q I h;exact wpAny_BinOp (EC l j I h λv u e x y o m g f q=>i p e c o x y v u Q m g f q)
def opI{f:Value->Value->Sem Value}{C:Int->Int->Prop}{g:Int->Int->Int}
  (a:∀(i j:Int) (t u:Tok) (s:Shared) (Q:Kv) (E:Kv),C i j->Q (.int (g i j) s.toks) {s with toks:=s.toks+1}->wpAny (model X.prog X.w) X.A (f (.int i t) (.int j u)) Q E s) :
  OpR X f (rI C λi j=>.int (g i j)):=by
 intro p s m H x y v u Q I e c h;obtain⟨i,j,rfl,rfl,l,q⟩:=h;obtain⟨t,rfl⟩:=e;obtain⟨b,rfl⟩:=c;exact a i j t b s _ _ l ⟨.int (g i j),H,I.tok _,⟨_,rfl⟩,q⟩
def Gs{f:Value->Value->Sem Value}{g:Int->Int->Int}
  (a:∀(i j:Int) (t u:Tok) (s:Shared) (Q:Kv) (E:Kv),Q (.int (g i j) s.toks) {s with toks:=s.toks+1}->wpAny (model X.prog X.w) X.A (f (.int i t) (.int j u)) Q E s) :
  OpR X f (rI0 λi j=>.int (g i j)):=by
 intro p s l H x y v u Q I e c h;obtain⟨i,j,rfl,rfl,q⟩:=h;obtain⟨t,rfl⟩:=e;obtain⟨b,rfl⟩:=c;exact a i j t b s _ _ ⟨.int (g i j),H,I.tok _,⟨_,rfl⟩,q⟩
def Fx{f:Value->Value->Sem Value}{g:Int->Int->Bool}
  (a:∀(i j:Int) (t u:Tok) (s:Shared) (Q:Kv) (E:Kv),Q (.bool (g i j)) s->wpAny (model X.prog X.w) X.A (f (.int i t) (.int j u)) Q E s) :
  OpR X f (rI0 λi j=>.bl (g i j)):=by
 intro p s l H x y v u Q I e c h;obtain⟨i,j,rfl,rfl,q⟩:=h;obtain⟨t,rfl⟩:=e;obtain⟨b,rfl⟩:=c;exact a i j t b s _ _ ⟨.bl (g i j),H,I,rfl,q⟩
def Iq(i j:Int):Prop:=0<j/\j<1073741824
def IT(i j:Int):Prop:=0<=j/\j<=1000000/\i.natAbs<2^64
def CMul(i j:Int):Prop:=(-(2^64)<i/\i<2^64)\/(-(2^64)<j/\j<2^64)
def CMul.ok{i j:Int}(h:CMul i j):IntMulOk i j:=by
 rcases h with⟨b,a⟩|⟨b,a⟩
 ·exact .of_left (intBits_le_64 b a)
 ·exact .of_right (intBits_le_64 b a)
def zC:OpR X (binaryOp .Add) (rI0 λi j=>.int (i+j)):=Gs λ_ _ _ _ _ _ _ q=>add_int q
def Ft:OpR X (binaryOp .Sub) (rI0 λi j=>.int (i-j)):=Gs λ_ _ _ _ _ _ _ q=>sub_int q
def FL:OpR X (binaryOp .Mult) (rI CMul λi j=>.int (i*j)):=opI λ_ _ _ _ _ _ _ h q=>mul_int q h.ok
theorem Bk:OpR X (binaryOp .FloorDiv) (rI Iq λi j=>.int (i/j)):=opI λi j _ _ _ _ _ h q=>by
 have b:(0:Int)<j:=h.1;have a:j<1073741824:=h.2;exact floordiv_int (by omega) (by rw[Int.fdiv_eq_ediv_of_nonneg i (by omega)];exact q) (.inl (PyProof.noPylong_small (by omega)))
theorem yw:OpR X (binaryOp .Mod) (rI (λ_ j=>0<j) λi j=>.int (i%j)):=opI λi j _ _ _ _ _ h q=>by
 have a:(0:Int)<j:=h;exact mod_int' (by omega) (by rw[Int.fmod_eq_emod_of_nonneg i (by omega)];exact q)
def Er:OpR X (binaryOp .Pow) (rI IT λi j=>.int (i^j.toNat)):=opI λ_ _ _ _ _ _ _ h q=>pow_int_small h.1 h.2.1 h.2.2 q
end
section
variable  {a:Expr}{tc:TE} 
def Hi:OpR X (compareOp .Lt) (rI0 λi j=>.bl (decide (i<j))):=Fx λ_ _ _ _ _ _ _ q=>lt_int q
def G7:OpR X (compareOp .LtE) (rI0 λi j=>.bl (decide (i<=j))):=Fx λ_ _ _ _ _ _ _ q=>le_int q
def DZ:OpR X (compareOp .Gt) (rI0 λi j=>.bl (decide (j<i))):=Fx λ_ _ _ _ _ _ _ q=>gt_int q
def OpR.or{f:Value->Value->Sem Value}{r e:R2}(h:OpR X f r)(h':OpR X f e):OpR X f (λx y H Q=>r x y H Q\/e x y H Q):=by
 intro p s a H x y v u Q I c b q;rcases q with q|q
 ·exact h p s a H x y v u Q I c b q
 ·exact h' p s a H x y v u Q I c b q
def gj(b:Expr){op:CmpOp}(h:op≠.In:=by decide)(h2:op≠.NotIn:=by decide):behindInMarks op b=false:=by
 have a:(op == CmpOp.In)=false:=by cases op<;>first|rfl|exact absurd rfl h
 have e:(op == CmpOp.NotIn)=false:=by cases op<;>first|rfl|exact absurd rfl h2
 cases b<;>simp[behindInMarks,a,e]
def rl{op:CmpOp}{r:R2}(i:OpR X (compareOp op) r)(m:PE X a ta)(l:PE X b tb)(j:behindInMarks op b=false):PE X (.Compare a [op] [b] pos) (tOp r ta tb):=by intro p s c H Q I h;exact wpAny_Compare1 (EC m l I h λv u e x y w o g f q=>i p e c w x y v u Q o g f q) j
def Az(t:TE):TT:=λa H Q=>t a H λx b=>∃k,x=.bl k/\Q k b
def rD{op:CmpOp}{r:R2}(A:OpR X (compareOp op) r)(E:PE X a ta)(C:PE X b tb)(B:behindInMarks op b=false):PT X (.Compare a [op] [b] pos) (Az (tOp r ta tb)):=by
 intro p s f H Q I h;refine wpAny_isTrue_Compare1 (bh (E p s f H _ I h) λv i x O L m w=>bh (C p i f O _ L w) λu g y N K l o=>
  bh (A p g f N x y v u _ K m l o) λc P z M J j ⟨k,e,q⟩=>?_) B
 subst e;cases j;exact Zi ⟨M,J,q⟩
def va(r c:R2)(ta tb tc:TE):TE:=λa H Q=>ta a H λx g=>tb a g λy f=>r x y f λz b=>∃k,z=.bl k /\
 (if k=true then tc a b λw e=>c y w e Q else Q (.bl false) b)
def tZ{op o:CmpOp}{r j:R2}(R:OpR X (compareOp op) r)(g:OpR X (compareOp o) j)(Y:PE X a ta)(U:PE X b tb)(T:PE X c tc)
  (S:lastMarks [op,o] [b,c]=false:=by with_unfolding_all rfl):PE X (.Compare a [op,o] [b,c] pos) (va r j ta tb tc):=by
 intro p s f H Q I h;refine Compare_chain (bh (Y p s f H _ I h) λv J x H1 I1 M P=>chain_link (bh (U p J f H1 _ I1 P) λu E y H2 I2 i O=>
  bh (R p E f H2 x y v u _ I2 M i O) λd C z m l L ⟨k,e,q⟩=>?_)) S
 subst e;cases L;refine Zi ?_;cases k with
 |false=>exact ite_ff ⟨.bl false,m,l,rfl,q⟩
 |true=>exact ite_tt (chain_last (bh (T p C f m _ l q) λA B w H4 Z K N=>g p B f H4 y w u A Q Z i K N))
def Ay{op o:CmpOp}{r l:R2}(Y:OpR X (compareOp op) r)(g:OpR X (compareOp o) l)(ha:PE X a ta)(hb:PE X b tb)(hc:PE X c tc)
  (Z:lastMarks [op,o] [b,c]=false:=by with_unfolding_all rfl):PT X (.Compare a [op,o] [b,c] pos) (Az (va r l ta tb tc)):=by
 intro p s f H Q I h;refine isTrue_chain (bh (ha p s f H _ I h) λv K x H1 I1 O T=>test_link (bh (hb p K f H1 _ I1 T) λu J y H2 I2 j S=>
  bh (Y p J f H2 x y v u _ I2 O j S) λd E z w m N ⟨k,e,q⟩=>?_)) Z
 subst e;cases N;refine Zi ?_;cases k with
 |false=>
  obtain⟨k',e',U⟩:=q;cases e';exact ite_ff ⟨w,m,U⟩
 |true=>
  refine ite_tt (test_last (bh (hc p E f w _ m q) λB C A H4 I4 M R=>bh (g p C f H4 y A u B _ I4 j M R) λd' s5 z2 H5 I5 L i=>?_));obtain⟨k2,e2,P⟩:=i;subst e2;cases L;exact Zi ⟨H5,I5,P⟩
def HB(K:Kq)(x:V)(H:Hp)(k:Bool):Prop:=
 match x with
 |.non=>k=false
 |.bl b=>k=b
 |.int i=>k=(i != 0)
 |.str y=>y.length<=sizeLine/\k=((y.length:Int) != 0)
 |.byt y=>y.size<=sizeLine/\k=((y.size:Int) != 0)
 |.ref p=>(∃a,SqL K H p a/\k=!a.isEmpty)\/(∃a,SqT K H p a/\k=!a.isEmpty)\/∃c,H p=some (.dK c)/\k=!c.isEmpty
 |_=>False
def vb{κ:Type}{kvs:List (κ×V)}{vs:List (κ×Value)}(r:KV kvs vs):(!vs.isEmpty)=!kvs.isEmpty:=by cases r<;>rfl
def n9(r:Vals xs its):(!its.toArray.isEmpty)=!xs.isEmpty:=by cases r<;>simp
def jn:(sizeLine:Nat)<2^63:=by rw[YL];decide
theorem E8:I9 X (λx H Q=>∃k,HB X.K x H k/\Q k H):=by
 intro J s E H x v Q I j h;obtain⟨k,e,q⟩:=h;have M:=jn;have L:sizeLine=16777216:=YL;cases x with
 |non=>
  cases j;have a:k=false:=e;subst a;exact truthy_none ⟨H,I,q⟩
 |bl b=>
  cases j;have a:k=b:=e;subst a;exact Zi ⟨H,I,q⟩
 |int i=>
  obtain⟨t,rfl⟩:=j;have a:k=(i != 0):=e;subst a;exact PySem.P.truthy_int ⟨H,I,q⟩
 |str y=>
  obtain⟨t,rfl⟩:=j;obtain⟨B,a⟩:y.length<=sizeLine/\k=((y.length:Int) != 0):=e;subst a;exact PySem.P.truthy_str (by omega) ⟨H,I.tok _,q⟩
 |byt y=>
  obtain⟨t,rfl⟩:=j;obtain⟨B,a⟩:y.size<=sizeLine/\k=((y.size:Int) != 0):=e;subst a;exact PySem.W.truthy_bytes (by omega) ⟨H,I.tok _,q⟩
 |ref p=>
  cases j;have a:(∃g,SqL X.K H p g/\k=!g.isEmpty)\/(∃g,SqT X.K H p g/\k=!g.isEmpty)\/∃c,H p=some (.dK c)/\k=!c.isEmpty:=e;rcases a with⟨g,l,a⟩|⟨g,l,a⟩|⟨c,l,a⟩
  ·subst a;obtain⟨z,r,u,A⟩:=I.list l;have f:=r.length;exact wpAny_truthy_list u.isList (by simp only[Yp];omega) ⟨H,I.tok _,by rw[n9 r];exact q⟩
  ·subst a;obtain⟨z,r,u,A⟩:=I.tuple l;have f:=r.length;exact truthy_tuple u (by simp only[Yp];omega) ⟨H,I.tok _,by rw[n9 r];exact q⟩
  ·subst a;obtain⟨A,C,o,r,m⟩:c.length<=sizeLine/\(p == sysModules)=false/\∃o,KV c o/\s.heap.DictOf (bT X.prog X.w) p o:=I.hok p _ l;have f:c.length=o.length:=Paired.length r;exact wpAny_truthy_dict C m (by omega) ⟨H,I.tok _,by rw[vb r];exact q⟩
 |_=>exact(show False from e).elim
def zO(e:PE X a ta)(he:∀w,isTrue a X.env w=(do let v <-w;standAt a.pos;holding [v] (truthy v))) :
  PT X a (λσ H Q=>ta σ H λx H'=>∃k,HB X.K x H' k/\Q k H'):=by
 intro p s σ H Q I h;exact isTrue_plain (bh (e p s σ H _ I h) λv b x g f c q=>E8 p b σ g x v Q f c q) (he _)
def nM:OpR X (binaryOp .Add) (λx y H Q=>∃i j,x=.str i/\y=.str j/\i.length+j.length<=sizeLine/\Q (.str (i++j)) H):=by intro p s f H x y v u Q I c b h;obtain⟨i,j,rfl,rfl,e,q⟩:=h;obtain⟨t,rfl⟩:=c;obtain⟨a,rfl⟩:=b;exact add_str (λa g=>⟨.str (i++j),H,I.tok _,⟨_,rfl⟩,q⟩) e
def iq{x:V}(r:Vals [x] us):∃u,us=[u]/\RelV x u:=by
 cases r with
 |cons b a=>cases a;exact⟨_,rfl,b⟩
def oR{x:V}(r:Vals [x,y] us):∃u w,us=[u,w]/\RelV x u/\RelV y w:=by
 cases r with
 |cons e c=>
  cases c with
  |cons b a=>cases a;exact⟨_,_,rfl,e,b⟩
def wO(b:X.calm=true):CallR X (.builtin "max") (λxs H Q=>∃i j,xs=[.int i,.int j]/\Q (.int (if j > i then j else i)) H):=by
 intro p s c H xs e Q I r h;obtain⟨i,j,rfl,q⟩:=h;obtain⟨u,w,rfl,⟨t,rfl⟩,⟨g,rfl⟩⟩:=oR r;refine max_two_ints (I.ok.hd b) λl f k=>⟨_,H,I.kept k,?_,q⟩
 by_cases a:j > i
 ·rw[Yi a,Yi a];exact⟨_,rfl⟩
 ·rw[Yr a,Yr a];exact⟨_,rfl⟩
def xH(b:X.calm=true):CallR X (.builtin "min") (λxs H Q=>∃i j,xs=[.int i,.int j]/\Q (.int (if j<i then j else i)) H):=by
 intro p s c H xs e Q I r h;obtain⟨i,j,rfl,q⟩:=h;obtain⟨u,w,rfl,⟨t,rfl⟩,⟨g,rfl⟩⟩:=oR r;refine min_two_ints (I.ok.hd b) λl f k=>⟨_,H,I.kept k,?_,q⟩
 by_cases a:j<i
 ·rw[Yi a,Yi a];exact⟨_,rfl⟩
 ·rw[Yr a,Yr a];exact⟨_,rfl⟩
def xz:CallR X (.type "int") (λxs H Q=>(∃i,xs=[.int i]/\Q (.int i) H)\/∃k,xs=[.bl k]/\Q (.int (if k then 1 else 0)) H):=by
 intro p s b H xs c Q I r h;rcases h with⟨i,rfl,q⟩|⟨k,rfl,q⟩
 ·obtain⟨u,rfl,t,rfl⟩:=iq r;exact call_int_int ⟨.int i,H,I,⟨_,rfl⟩,q⟩
 ·obtain⟨u,rfl,a⟩:=iq r;cases a;exact call_int_bool ⟨.int (if k then 1 else 0),H,I.tok _,⟨_,rfl⟩,q⟩
end
structure ObjM (h:Heap) (x dx C:Addr) (mA:Str->Option Value):Prop where
 obj:h.get? x=some (PySem.W.instObj C dx)
 ns:h.Ns1 dx mA
 ne:dx≠x
def wG(n:h.Ns1 dx mA):∃od,h.get? dx=some od/\∀name,PySem.W.lookIn name od=some (mA name):=by
 obtain⟨o,c,p,g,l,j,_,i⟩:=n;refine⟨o,g,λname=>?_⟩;have e:=i name;unfold nsFind findBy at e;rw[<-Array.find?_toList]at e;unfold PySem.W.lookIn;rw[l];dsimp only;split
 ·rename_i y q;rw[q]at e;exact YM some e
 ·rename_i q;rw[q]at e;have a:c.toList.any (·.refKey)=false:=by rw[List.any_eq_false];intro y f;obtain⟨z,t,b⟩:=j y (Array.mem_toList_iff.mp f);simp[DictEntry.refKey,b]
  have m:¬c.toList.any (·.refKey)=true:=by rw[a];exact Ym
  rw[Yr m];exact YM some e
def ObjM.look{x:Addr}(I:ObjM h x dx C mA):∃od,PySem.W.InstAt h x (PySem.W.instObj C dx) C (some od)/\∀name,PySem.W.lookIn name od=some (mA name):=
 let ⟨od,ho,hl⟩:=wG I.ns
 ⟨od,⟨I.obj,rfl,rfl,ho⟩,hl⟩
section
variable       {x:Addr}   {v:Value}
def Dj{e:Bool}(X:K.In s.heap)(I:ObjM s.heap x dx C mA)(f:PySem.W.plainGet K C name=true)(c:PySem.W.hasDictIn K C=true)
  (g:PySem.W.findIn K (.ref C) name=some none) (hv:mA name=some v) (a:PySem.W.handedIn v=true) (h:Q v {s with toks:=s.toks+1}) :
  wpAny (model prog w) A (getAttr (.ref x) name e) Q E s:=by
 obtain⟨o,J,b⟩:=I.look;exact PySem.W.get_value X J (XU f).1 (PySem.W.findObj_own c g rfl (by rw[b,hv])) a h
def zw{pl:Sem Bool}{Q:Value×List Value->Shared->Prop}(X:K.In s.heap)(I:ObjM s.heap x dx C mA)(a:PySem.W.plainGet K C name=true)
  (e:PySem.W.findIn K (.ref C) name=some (some (.ref f))) (b:PySem.W.isFn K (.ref f)=true) (hv:mA name=none) (h:Q (.ref f,[.ref x]) s) :
  wpAny (model prog w) A (getMethod (.ref x) name pl) Q E s:=by
 obtain⟨o,J,c⟩:=I.look;exact PySem.W.method_fn X J (XU a).1 (XU a).2 e (ZJ.mp b) (by show(PySem.W.lookIn name o).map (·.isSome)=some false;rw[c,hv];rfl) h
theorem C4{ns:List Str}{Q:Unit->Shared->Prop}(X:K.In s.heap)(I:ObjM s.heap x dx C mA)
  (o:PySem.W.findIn K (.ref C) "__setattr__"=some (some (.builtin "object.__setattr__"))) (p:PySem.W.plainOver K C=true) (m:PySem.W.takerIn K C name=some none) (q:PySem.W.hasDictIn K C=true)
  (hw:PySem.Within mA ns) (hsz:ns.length<=sizeLine)
  (h:∀h',ObjM h' x dx C (λy=>if y=name then some v else mA y)->Heap.SameBut dx s.heap h'->Q () {s with heap:=h',toks:=s.toks+2}) :
  wpAny (model prog w) A (setAttr (.ref x) name v) Q E s:=by
 obtain⟨H,J,M⟩:=I.look;refine PySem.W.set_plain X J o (PySem.W.osa_open (s:={s with toks:=s.toks+1}) (r:=none) X J p m λb=>?_);obtain⟨N,u,i⟩:=PySem.W.any_some q;have l:s.heap.get? x=some ⟨.ref C,some dx,.plain,#[]⟩:=I.obj;refine Yq (YR (Yq (Yq (wpAny_loadPart l (Yq (PySem.W.Looks.here (s:={s with toks:=s.toks+1}) (PySem.W.looks_clsIn X u) ?_))))));rw[i];refine YR (a:=some dx) (Yq (YR (Yq ?_)));refine wpAny_nsSet1 (s:={s with toks:=s.toks+1}) I.ns λh' e c=>?_;obtain⟨L,z,B,f,g,j⟩:=e.count (PySem.Within.cons name v hw);refine Yq (wpAny_lookBehind f (by rw[g];exact pastItsLine_dict (YQ j (by rw[Yh];omega))) ?_);exact YR (h _ ⟨(c.2 _ (ZX I.ne)).trans I.obj,e,I.ne⟩ c)
def zB{R:Kr}{vs:List Value}(X:K.In s.heap)(b:PySem.W.makesIn K C=true)
  (hi:PySem.W.findIn K (.ref C) "__init__"=some (some (.ref f))) (c:PySem.W.typeIn K (.ref f)=some (.type "function"))
  (h:codeAny (model prog w) (A.under (.builtin "type.__call__" ⟨.ref C::vs,kw⟩)) (.call (.ref f) ⟨.ref (s.heap.objs.size+1)::vs,kw⟩) (PySem.W.InitBack (s.heap.objs.size+1) R)
   {s with heap:=(s.heap.push PySem.W.emptyDict).push (PySem.W.instObj C s.heap.objs.size)}) :
  codeAny (model prog w) A (.call (.ref C) ⟨vs,kw⟩) R s:=by
 obtain⟨e,g,d,t,o⟩:=s;exact PySem.W.make_core (PySem.W.makes_of X b) (PySem.W.looks_findIn X hi) (λa=>PySem.W.bind_fn X a c) (.inl rfl) h
end
def c_(f:Str)(v:V):List (Str×V)->List (Str×V)
 |[]=>[(f,v)]
 |(g,x)::r=>if g=f then(g,v)::r else(g,x)::c_ f v r
theorem k8(f g:Str)(v:V):∀fs:List (Str×V),(c_ f v fs).lookup g=if g=f then some v else fs.lookup g
 |[]=>by
  show List.lookup g [(f,v)]=_;by_cases h:g=f
  ·have a:(g == f)=true:=ZJ.mpr h;simp only[List.lookup,a,Yi h]
  ·have a:(g == f)=false:=Ze.mpr h;simp only[List.lookup,a,Yr h]
 |(k,x)::r=>by
  have ih:=k8 f g v r;rw[show c_ f v ((k,x)::r)=(if k=f then(k,v)::r else(k,x)::c_ f v r)from rfl];by_cases b:k=f
  ·rw[Yi b];by_cases h:g=k
   ·have a:(g == k)=true:=ZJ.mpr h;simp only[List.lookup,a,Yi (h.trans b)]
   ·have a:(g == k)=false:=Ze.mpr h;simp only[List.lookup,a,Yr (λe:g=f=>h (e.trans b.symm))]
  ·rw[Yr b];by_cases h:g=k
   ·have a:(g == k)=true:=ZJ.mpr h;simp only[List.lookup,a,Yr (λe:g=f=>b (h.symm.trans e))]
   ·have a:(g == k)=false:=Ze.mpr h;simp only[List.lookup,a];exact ih
theorem kU(f:Str)(v:V):∀fs:List (Str×V),f∈(c_ f v fs).map (·.1)/\∀g,g∈fs.map (·.1)->g∈(c_ f v fs).map (·.1)
 |[]=>⟨by simp[c_],λg h=>by simp at h⟩
 |(k,x)::r=>by
  obtain⟨b,i⟩:=kU f v r;rw[show c_ f v ((k,x)::r)=(if k=f then(k,v)::r else(k,x)::c_ f v r)from rfl];by_cases a:k=f
  ·rw[Yi a];subst a;exact⟨by simp,λg h=>by simpa using h⟩
  ·rw[Yr a];refine⟨?_,λg h=>?_⟩
   ·rw[YC];exact Ye _ b
   ·rw[YC]at h ⊢;rcases YB.mp h with e|e
    ·exact YB.mpr (.inl e)
    ·exact Ye _ (i g e)
theorem li(f:Str)(v:V):∀fs:List (Str×V),(c_ f v fs).length<=fs.length+1
 |[]=>by simp[c_]
 |(k,x)::r=>by
  have ih:=li f v r;rw[show c_ f v ((k,x)::r)=(if k=f then(k,v)::r else(k,x)::c_ f v r)from rfl];by_cases h:k=f
  ·rw[Yi h,Yh,Yh];omega
  ·rw[Yr h,Yh,Yh];omega
def RelO.some_of{v:V}{o:Option Value}(r:RelO (some v) o):∃u,o=some u/\RelV v u:=by
 cases o with
 |none=>exact(show False from r).elim
 |some u=>exact⟨u,rfl,r⟩
def RelO.none_of{o:Option Value}(r:RelO none o):o=none:=by
 cases o with
 |none=>rfl
 |some u=>exact(show False from r).elim
def xf{v:V}(r:RelV v u):PySem.W.handedIn u=true:=by
 cases v with
 |non=>cases(show u=Value.none from r);rfl
 |bl b=>cases(show u=Value.bool b from r);rfl
 |int i=>obtain⟨t,e⟩:=(show ∃t,u=Value.int i t from r);cases e;rfl
 |str x=>obtain⟨t,e⟩:=(show ∃t,u=Value.str x t from r);cases e;rfl
 |byt b=>obtain⟨t,e⟩:=(show ∃t,u=Value.bytes b t from r);cases e;rfl
 |flt b=>obtain⟨t,e⟩:=(show ∃t,u=Value.float b t from r);cases e;rfl
 |ref a=>cases(show u=Value.ref a from r);rfl
 |ty n=>cases(show u=Value.type n from r);rfl
section
variable{P:Program}     {fs fs':List (Str×V)}
def lT(b:HOk P w H h)(e:H a=some (.ins C dx fs)):∃mA,ObjM h a dx C mA/\(∀f,RelO (fs.lookup f) (mA f))/\PySem.Within mA (fs.map (·.1))/\fs.length<=1000/\H dx=some (.own a):=by
 obtain⟨d,z,c,o,mA,n,r,q⟩:=(show ObjOk P w H h a (.ins C dx fs)from b a _ e)
 exact⟨mA,⟨o,n,c⟩,r,q,z,d⟩
end
structure Cls (K:PySem.W.Frag) (C:Addr):Prop where
 pg:PySem.W.plainGet K C Str.empty=true
 hd:PySem.W.hasDictIn K C=true
 po:PySem.W.plainOver K C=true
 sa:PySem.W.findIn K (.ref C) "__setattr__"=some (some (.builtin "object.__setattr__"))
def Cls.get(c:Cls K C)(f:Str):PySem.W.plainGet K C f=true:=c.pg
def NoAttr(K:Kq)(C:Addr)(f:Str):Prop:=PySem.W.findIn K (.ref C) f=some none
def NoAttr.taker{f:Str}(n:NoAttr K C f):PySem.W.takerIn K C f=some none:=by unfold PySem.W.takerIn;rw[show PySem.W.findIn K (.ref C) f=some none from n];rfl
structure Meth (K:PySem.W.Frag) (C:Addr) (m:Str) (f:Addr):Prop where
 at_:PySem.W.findIn K (.ref C) m=some (some (.ref f))
 fn:PySem.W.isFn K (.ref f)=true
 kp:PySem.W.keepIn K (.ref f)=true
section
variable       {fs:List (Str×V)}{f:Str}{v:V}  
def nn{b:Bool}(I:Inv X pz σ H s)(e:H a=some (.ins C dx fs))(c:Cls X.K C)(n:NoAttr X.K C f)(l:fs.lookup f=some v)
  (h:∀u s',Inv X pz σ H s'->RelV v u->Q u s'):wpAny (model X.prog X.w) A (getAttr (.ref a) f b) Q E s:=by
 obtain⟨m,O,r,_,_,_⟩:=lT I.hok e;obtain⟨u,i,g⟩:=RelO.some_of (v:=v) (o:=m f) (by rw[<-l];exact r f);exact Dj I.kIn O (c.get f) c.hd n i (xf g) (h u _ (I.tok _) g)
def mI{g:Addr}{pl:Sem Bool}{Q:Value×List Value->Shared->Prop}(I:Inv X pz σ H s)(e:H a=some (.ins C dx fs))(c:Cls X.K C)(k:Meth X.K C m g)(l:fs.lookup m=none)
  (h:Q (.ref g,[.ref a]) s):wpAny (model X.prog X.w) A (getMethod (.ref a) m pl) Q E s:=by
 obtain⟨b,O,r,_,_,_⟩:=lT I.hok e;have f:b m=none:=RelO.none_of (by rw[<-l];exact r m);exact zw I.kIn O (c.get m) k.at_ k.fn f h
theorem nj{Q:Unit->Shared->Prop}(I:Inv X pz σ H s)(e:H a=some (.ins C dx fs))(c:Cls X.K C)(n:NoAttr X.K C f)(R:fs.length<1000)(B:RelV y u)
  (h:∀s',Inv X pz σ (upd H a (.ins C dx (c_ f y fs))) s'->Q () s'):wpAny (model X.prog X.w) A (setAttr (.ref a) f u) Q E s:=by
 obtain⟨m,O,r,j,_,l⟩:=lT I.hok e;have J:(fs.map (·.1)).length<=sizeLine:=by rw[Yc,YL];omega
 refine C4 I.kIn O c.sa c.po n.taker c.hd j J λP i p=>h _ ?_;have M:∃o,P.get? dx=some o:=let ⟨o,_,_,e',_⟩:=i.ns;⟨o,e'⟩
 refine I.write (x:=a) (e:=dx) (by rw[e];exact True.intro) (.inr l) (λb q N z=>(p.2 b N).trans z) M ?_;refine⟨by rw[ax O.ne];exact l,?_,O.ne,i.obj,_,i.ns,λg=>?_,λg L=>?_⟩
 ·have:=li f y fs;omega
 ·show RelO ((c_ f y fs).lookup g) (if g=f then some u else m g);rw[k8];by_cases q:g=f
  ·rw[Yi q,Yi q];exact B
  ·rw[Yr q,Yr q];exact r g
 ·by_cases q:g=f
  ·rw[q];exact(kU f y fs).1
  ·refine(kU f y fs).2 g (j g λz=>L ?_);show(if g=f then some u else m g)=none;rw[Yr q];exact z
def Inv.made(I:Inv X pz σ H s):Inv X pz σ (upd (upd H s.heap.objs.size (.own (s.heap.objs.size+1))) (s.heap.objs.size+1) (.ins C s.heap.objs.size []))
  {s with heap:=(s.heap.push PySem.W.emptyDict).push (PySem.W.instObj C s.heap.objs.size)}:=by
 have f:(s.heap.push PySem.W.emptyDict).get? s.heap.objs.size=some PySem.W.emptyDict:=YJ s.heap rfl;have j:((s.heap.push PySem.W.emptyDict).push (PySem.W.instObj C s.heap.objs.size)).get? (s.heap.objs.size+1)=some (PySem.W.instObj C s.heap.objs.size):=by
  have:=YJ (s.heap.push PySem.W.emptyDict) (o:=PySem.W.instObj C s.heap.objs.size) rfl
  rwa [XI]at this
 have i:(s.heap.push PySem.W.emptyDict).Ns s.heap.objs.size (λ_=>none):=⟨PySem.W.emptyDict,#[],_,f,rfl,(λe g=>absurd g (by simp)),λ_=>rfl⟩
 have l:=I.laid (a:=s.heap.objs.size) (o:=.own (s.heap.objs.size+1)) (h':=s.heap.push PySem.W.emptyDict) (t':=s.toks) (λb u q=>Yx _ q) (Yy _) ⟨_,f⟩;refine l.laid (a:=s.heap.objs.size+1) (o:=.ins C s.heap.objs.size []) (t':=s.toks) (λb u q=>Yx _ q) (ZT (XI _ _)) ?_;have c:s.heap.objs.size≠s.heap.objs.size+1:=YN (Xp _);refine⟨by rw[ax c,aC],YS _,c,j,λ_=>none,(Heap.Ns1.of_empty i).at λo q=>Yx _ q,λ_=>True.intro,λy h=>absurd rfl h⟩
def BL(b:attributeBase e f env (eval e env)=eval e env)
  (h:wpAny (model prog w) A (eval e env) (λo a=>wpAny (model prog w) A (getAttr o f true) Q E a) E s):wpAny (model prog w) A (eval (.Attribute e f pos) env) Q E s:=
 Attribute_any_ h (by rw[arm_eval_Attribute,b])
end
def HR(K:Kq)(ta:TE)(f:Str):TE:=λc H Q=>ta c H λx b=>∃a C e fs v,x=.ref a/\b a=some (.ins C e fs)/\Cls K C/\NoAttr K C f/\fs.lookup f=some v/\Q v b
def HQ(K:Kq)(ta tv:TE)(f:Str):TS:=λD b H=>tv b H λy g=>ta b g λx e=>∃a C c fs,x=.ref a/\e a=some (.ins C c fs)/\Cls K C/\NoAttr K C f/\fs.length<1000 /\
 D.nx b (upd e a (.ins C c (c_ f y fs)))
def Ii(X:Cx)(op:Operator)(rd:V->V->Hp->VK->Prop):Prop:=
 ∀(p:Kp) (s:Shared) (a:St) (H:Hp) (x y:V) (u v:Value) (Q:VK),Inv X p a H s->RelV x u->RelV y v->rd x y H Q->wpAny (model X.prog X.w) X.A (inplaceOp op u v) (EP X p a Q) X.xe s
def Cy(K:Kq)(ta tv:TE)(rd:V->V->Hp->VK->Prop)(f:Str):TS:=λD e H=>ta e H λx h=>∃a C i fs v,x=.ref a/\h a=some (.ins C i fs)/\Cls K C/\NoAttr K C f/\fs.lookup f=some v /\
 tv e h λy j=>rd v y j λz g=>∃c b,g a=some (.ins C c b)/\b.length<1000/\D.nx e (upd g a (.ins C c (c_ f z b)))
section
variable   {f:Str}  
def js(he:PE X e ta)(m:attributeBase e f X.env (eval e X.env)=eval e X.env):PE X (.Attribute e f pos) (HR X.K ta f):=by intro p s g H Q I h;refine BL m (bh (he p s g H _ I h) λu J x A z i b=>?_);obtain⟨a,C,L,fs,v,o,w,c,n,l,q⟩:=b;subst o;obtain rfl:u=Value.ref a:=i;exact nn z w c n l λB E y j=>⟨v,A,y,j,q⟩
def vf(A:PE X o ta)(hv:PE X value tv)(z:swapsWith value (some (.Attribute o f pos')) pos.line X.env=pure false):PS X (.Assign [.Attribute o f pos'] value pos) (HQ X.K ta tv f):=by intro p s b H D I h;refine plainObj_wpAny_Assign_Attribute (bh (hv p s b H _ I h) λu g y N M i q=>bh (A p g b N _ M q) λw P x R L j e=>?_) z;obtain⟨a,C,Q,fs,B,E,c,n,l,m⟩:=e;subst B;obtain rfl:w=Value.ref a:=j;exact nj L E c n l i λO J=>⟨b,_,J,m⟩
def xq{op:Operator}{rd:V->V->Hp->VK->Prop}(P:PE X o ta)(hv:PE X value tv)(g:Ii X op rd):PS X (.AugAssign (.Attribute o f tpos) op value pos) (Cy X.K ta tv rd f):=by intro p s e H D I h;refine wpAny_AugAssign_AttributeAny (bh (P p s e H _ I h) λN s1 x H1 I1 E b=>?_);obtain⟨a,C,dx,fs,v,R,S,c,n,l,q⟩:=b;subst R;obtain rfl:N=Value.ref a:=E;refine nn I1 S c n l λu m I2 J=>bh (hv p m e H1 _ I2 q) λw j y H2 Z B M=>bh (g p j e H2 v y u w _ Z J B M) λw4 s4 z H3 Y A b=>?_;obtain⟨T,Q,i,O,L⟩:=b;exact nj Y i c n O A λs5 U=>⟨e,_,U,L⟩
end
section
variable         {c:Value}{b:Bool}
inductive TyOf (K:PySem.W.Frag) (H:Hp):V->Value->Prop where
 |non:TyOf K H .non (.type "NoneType")
 |bl (x:Bool):TyOf K H (.bl x) (.type "bool")
 |int (i:Int):TyOf K H (.int i) (.type "int")
 |str (x:Str):TyOf K H (.str x) (.type "str")
 |flt (x:UInt64):TyOf K H (.flt x) (.type "float")
 |lst {a:Addr}{xs:List V} (e:H a=some (.lst xs)):TyOf K H (.ref a) (.type "list")
 |frz {a:Addr}{o:Obj}{xs:List V} (e:H a=some (.frz o (.lst xs))):TyOf K H (.ref a) (.type "list")
 |tup {a:Addr}{xs:List V} (e:H a=some (.tup xs)):TyOf K H (.ref a) (.type "tuple")
 |dK {a:Addr}{kvs:List (Key×V)} (e:H a=some (.dK kvs)):TyOf K H (.ref a) (.type "dict")
 |dT {a:Addr}{kvs:List (List Key×V)} (e:H a=some (.dT kvs)):TyOf K H (.ref a) (.type "dict")
 |ins {a C dx:Addr}{fs:List (Str×V)} (e:H a=some (.ins C dx fs)) (cl:Cls K C) (ha:PySem.W.findIn K (.ref C) "__class__"=some (some (.builtin "object.__class__")))
   (hn:PySem.W.specialIn K (.builtin "object.__class__") "__get__"=some (some (.builtin "getset_descriptor.__get__"))) (htk:PySem.W.takesIn K (.builtin "object.__class__")=some true)
   (hm:PySem.W.mroIn K C (.type "object")=some true):TyOf K H (.ref a) (.ref C)
def xY{x:V}{t:Value}(I:Inv X pz σ H s)(f:RelV x u)(ty:TyOf X.K H x t)(e:PySem.W.kitOne X.K t c=some b)(h:∀tk,Q (.bool b) {s with toks:=tk}) :
  wpAny (model X.prog X.w) A (call (.builtin "isinstance") [u,c]) Q E s:=by
 cases ty with
 |non=>cases(show u=Value.none from f);exact Zp PySem.W.kitx_none I.kIn True.intro e (λz=>nomatch z) h
 |bl y=>cases(show u=Value.bool y from f);exact Zp PySem.W.kitx_bool I.kIn True.intro e (λz=>nomatch z) h
 |int i=>obtain⟨t,q⟩:=(show ∃t,u=Value.int i t from f);cases q;exact Zp PySem.W.kitx_int I.kIn True.intro e (λz=>nomatch z) h
 |str y=>obtain⟨t,q⟩:=(show ∃t,u=Value.str y t from f);cases q;exact Zp PySem.W.kitx_str I.kIn True.intro e (λz=>nomatch z) h
 |flt y=>obtain⟨t,q⟩:=(show ∃t,u=Value.float y t from f);cases q;exact Zp PySem.W.kitx_float I.kIn True.intro e (λz=>nomatch z) h
 |@lst a j ea=>
  cases(show u=Value.ref a from f);obtain⟨_,_,n,_,g⟩:=(show ObjOk X.prog X.w H s.heap a (.lst j)from I.hok a _ ea)
  exact Zp PySem.W.kitx_list I.kIn ⟨_,g,rfl⟩ e (λz=>nomatch z) h
 |@frz a ob j ea=>
  cases(show u=Value.ref a from f);obtain⟨_,_,_,n,_,g⟩:=(show ObjOk X.prog X.w H s.heap a (.frz ob (.lst j))from I.hok a _ ea)
  exact Zp PySem.W.kitx_list I.kIn ⟨_,g,rfl⟩ e (λz=>nomatch z) h
 |@tup a j ea=>
  cases(show u=Value.ref a from f);obtain⟨_,_,_,p,_⟩:=(show ObjOk X.prog X.w H s.heap a (.tup j)from I.hok a _ ea)
  obtain⟨o,g,l,_⟩:=p;exact Zp PySem.W.kitx_tuple I.kIn ⟨o,g,l⟩ e (λz=>nomatch z) h
 |@dK a kvs ea=>
  cases(show u=Value.ref a from f);obtain⟨_,_,L,_,p⟩:=(show ObjOk X.prog X.w H s.heap a (.dK kvs)from I.hok a _ ea)
  obtain⟨o,m,B,g,l,_⟩:=p;exact Zp PySem.W.kitx_dict I.kIn ⟨o,g,l.1⟩ e (λz=>nomatch z) h
 |@dT a kvs ea=>
  cases(show u=Value.ref a from f);obtain⟨_,_,j,_,o,m,B,g,l,_⟩:=(show ObjOk X.prog X.w H s.heap a (.dT kvs)from I.hok a _ ea)
  exact Zp PySem.W.kitx_dict I.kIn ⟨o,g,l.1⟩ e (λz=>nomatch z) h
 |@ins a C dx fs ea cl ha hn htk hm=>
  cases(show u=Value.ref a from f);obtain⟨N,O,_⟩:=lT I.hok ea;obtain⟨M,J,_⟩:=O.look;exact Zp (PySem.W.kitx_own (cl.get _) cl.hd ha hn htk hm) I.kIn J e (λz=>nomatch z) h
end
structure Room (k:Nat) (A:Around):Prop where
 hd:A.handled=none
 dp:A.depth+3*k+5<recursionLimit
 un:A.units+16*k+200<cLine
theorem Room.mono{k:Nat}(r:Room k A)(h:j<=k):Room j A:=⟨r.hd,by have:=r.dp;omega,by have:=r.un;omega⟩
theorem Room.deeper{k:Nat}(r:Room (k+1) A)(env:Env):Room k (A.deeper env):=
 ⟨r.hd,by have:=r.dp;show A.depth+1+3*k+5<_;omega,by have:=r.un;show A.units+3+16*k+200<_;omega⟩
def uL:(A.under (.builtin "type.__call__" ⟨.ref C::us,kw⟩)).depth=A.depth+1:=by
 first|rfl|simp[Around.under,Code.weight,Code.isCreation,Code.isGuard,Code.isCaller,Code.frames,Code.isFrame,guardIds]
def uo:(A.under (.builtin "type.__call__" ⟨.ref C::us,kw⟩)).units=A.units+1:=by
 first|rfl|simp[Around.under,Code.cUnits,Code.frames,Code.isFrame]
theorem Room.make{k:Nat}(r:Room (k+1) A)(C:Addr)(us:List Value)(kw:List (Str×Value)):Room k (A.under (.builtin "type.__call__" ⟨.ref C::us,kw⟩)):=
 ⟨r.hd,by have:=r.dp;rw[uL];omega,by have:=r.un;rw[uo];omega⟩
theorem Room.depth{k:Nat}(r:Room k A):A.depth<recursionLimit:=by have:=r.dp;omega
def oq:TA:=λ_ H Q=>Q [] H
def mL(ta:TE)(c:TA):TA:=λa H Q=>ta a H λx f=>c a f λb e=>Q (x::b) e
section
variable     {t:TA} 
def a_:PA X [] oq:=λ_ _ _ _ H Q I h=>Calls.spliced_nil ⟨[],H,I,.nil,h⟩
def aI(o:PE X e te)(m:PA X es t)(l:starEach (e::es) X.env=(false,eval e X.env)::starEach es X.env:=by rfl):PA X (e::es) (mL te t):=by intro p b s a H Q I h;rw[l];show wpAny _ _ (spliced ((false,eval e X.env)::backTo p (starEach es X.env))) _ _ s;refine Calls.spliced_cons (bh (o b s a H _ I h) λu f x A y i j=>?_);exact bh (m p b f a A _ y j) λB C c z w g q=>⟨x::c,z,w,.cons i g,q⟩
def Ia(t:TA):TE:=λb H Q=>t b H λx a=>x.length<=sizeLine/\∀p,a p=none->Q (.ref p) (upd a p (.tup x))
def GY(t:TA):TE:=λb H Q=>t b H λx a=>x.length<=sizeLine/\∀p,a p=none->Q (.ref p) (upd a p (.lst x))
def vd{x1}(h:PA X es t):PE X (.Tuple es x1 pos) (Ia t):=by intro p s g H Q I j;refine wpAny_Tuple_spliced (bh (h pos p s g H _ I j) λi a x f c r ⟨z,q⟩=>⟨by rw[<-r.length];exact z,?_⟩);have l:f a.heap.objs.size=none:=c.hok.fresh (Yy _);refine⟨.ref a.heap.objs.size,upd f a.heap.objs.size (.tup x),c.laid (t':=a.toks) (λb u e=>Yx _ e) (Yy _) ?_,rfl,q _ l⟩;exact⟨z,i,r,⟨_,YJ _ rfl,rfl,_,rfl⟩,_,YJ _ rfl,rfl⟩
def jy(h:PA X es t):PE X (.List es pos) (GY t):=by intro p s g H Q I j;refine wpAny_List_spliced (bh (h pos p s g H _ I j) λi a x f c r ⟨z,q⟩=>⟨by rw[<-r.length];exact z,?_⟩);have l:f a.heap.objs.size=none:=c.hok.fresh (Yy _);refine⟨.ref a.heap.objs.size,upd f a.heap.objs.size (.lst x),c.laid (t':=a.toks) (λb u e=>Yx _ e) (Yy _) ?_,rfl,q _ l⟩;exact⟨z,i,0,r,YJ _ rfl⟩
end
abbrev Sp:=List V->Hp->VK->XK->Prop
abbrev CXT:=List Env->Hp->Shared->XK->Value->Shared->Prop
structure Env0 (P:Program) (w:World) (K:PySem.W.Frag) (mg:Str->Option Value) (base:Heap) (A:Around) (outer:List Env) (s:Shared) (H:Hp):Prop where
 frames:A.frames=some outer
 mod:Mod K mg base
 bs:∀b o,base.get? b=some o->s.heap.get? b=some o/\H b=none
 bsz:base.objs.size<=s.heap.objs.size
 funs:s.heap.FunFrames base outer
 frf:∀b∈frs outer,H b=none
 hok:HOk P w H s.heap
 bare:AllBare s.gens
def CE(outer:List Env)(P:Program)(w:World)(H:Hp)(s:Shared)(Q:VK)(u:Value)(s':Shared):Prop:=
 ∃v a,s'.os=s.os/\AllBare s'.gens/\Un (frs outer) [] H a s.heap s'.heap/\HOk P w a s'.heap/\RelV v u/\Q v a
def CR(CX:CXT)(outer:List Env)(P:Program)(w:World)(H:Hp)(s:Shared)(Q:VK)(E:XK)(r:Result)(s':Shared):Prop:=
 match r with
 |.ok (.ret u)=>CE outer P w H s Q u s'
 |.ok _=>False
 |.error e=>CX outer H s E e s'
structure FnOk (P:Program) (w:World) (K:PySem.W.Frag) (mg:Str->Option Value) (base:Heap) (CX:CXT) (k:Nat) (f:Addr) (fd:FuncData) (ps:List Str) (sp:Sp):Prop where
 len:∀vs H Q E,sp vs H Q E->vs.length=ps.length
 run:∀(A:Around) (outer:List Env) (s:Shared) (H:Hp) (args:Args) (us:List Value) (vs:List V) (Q:VK) (E:XK),Room k A->Env0 P w K mg base A outer s H->BindsTo s fd args (ps.zip us)->Vals vs us->sp vs H Q E->
  codeAny (model P w) A (.call (.ref f) args) (CR CX outer P w H s Q E) s
def FnOk.imp{P:Program}{k:Nat}{a:Sp}(F:FnOk P w K mg base CX k f fd ps sp)
  (h:∀vs H Q E,a vs H Q E->sp vs H Q E):FnOk P w K mg base CX k f fd ps a:=
 ⟨λvs H Q E q=>F.len vs H Q E (h _ _ _ _ q),λA o s H b u vs Q E g i j c e=>F.run A o s H b u vs Q E g i j c (h _ _ _ _ e)⟩
def Env0.make{P:Program}{outer:List Env}(e:Env0 P w K mg base A outer s H)(C:Addr)(us:List Value)(kw:List (Str×Value)) :
  Env0 P w K mg base (A.under (.builtin "type.__call__" ⟨.ref C::us,kw⟩)) outer s H:=⟨by first|exact e.frames|(simpa[Around.under,Code.envs,Code.isFrame,pushEnvs]using e.frames),e.mod,e.bs,e.bsz,e.funs,e.frf,e.hok,e.bare⟩
def Inv.env0(I:Inv X pz σ H s):Env0 X.prog X.w X.K X.mg X.base X.A X.stack s H:=
 ⟨I.ok.frames,I.ok.mod,I.bs,YQ I.ok.bsz I.sz,I.stack,I.stkFree,I.hok,I.bare⟩
def Inv.after{Q:VK}(I:Inv X pz σ H s)(h:CE X.stack X.prog X.w H s Q u s'):EP X pz σ Q u s':=by obtain⟨v,i,e,a,un,c,r,q⟩:=h;obtain⟨f,g,d,t,o⟩:=s';obtain rfl:o=s.os:=e;exact⟨v,i,I.call (h':=f) (g':=g) (d':=d) (t':=t) (ch:=[]) un c a (λb z=>absurd z (by simp)),r,q⟩
def wk(sp:Sp)(dvs:List V)(E:XK)(t:TA):TE:=λa H Q=>t a H λb c=>sp (b++dvs) c Q E
def j5(C:Addr)(m:Str)(sp:Sp)(dvs:List V)(E:XK)(ta:TE)(t:TA):TE:=λb H Q=>ta b H λx c=>∃a f fs,x=.ref a/\c a=some (.ins C f fs)/\fs.lookup m=none /\
 t b c λe g=>sp (x::(e++dvs)) g Q E
def Gx(C:Addr)(sp:Sp)(dvs:List V)(E:XK)(t:TA):TE:=λc H Q=>t c H λe b=>∀x a,b x=none->b a=none->a≠x->
 sp (.ref x::(e++dvs)) (upd (upd b a (.own x)) x (.ins C a [])) (λv f=>v=.non/\Q (.ref x) f) E
def Binds(K:Kq)(fd:FuncData)(ps:List Str)(ds:List Value):Prop:=
 ∀(s:Shared) (u:List Value),K.In s.heap->(u++ds).length=ps.length->BindsTo s fd ⟨u,[]⟩ (ps.zip (u++ds))
def Binds.all(h:∀us:List Value,us.length=ps.length->bindArgs fd ⟨us,[]⟩=pure (ps.zip us)):Binds K fd ps []:=λs us _ a=>by
 rw[Yg]at a ⊢;exact .of_eq (h us a)
def iE(CX:CXT)(X:Cx)(E:XK):Prop:=∀(p:Kp) (b:St) (H:Hp) (s:Shared) (e:Value) (a:Shared),Inv X p b H s->CX X.stack H s E e a->X.xe e a
section
variable   {k:Nat}     {dvs:List V}{ds:List Value}{E:XK}      {t:TA}
def uM{Q:VK}(F:FnOk X.prog X.w X.K X.mg X.base CX k f fd ps sp)(g:Room k X.A)(j:Binds X.K fd ps ds)(hd:Vals dvs ds)(hx:iE CX X E)
  (I:Inv X pz σ H s) (r:Vals vs us) (h:sp (vs++dvs) H Q E):wpAny (model X.prog X.w) X.A (call (.ref f) us) (EP X pz σ Q) X.xe s:=by
 have b:Vals (vs++dvs) (us++ds):=r.append hd;have i:(us++ds).length=ps.length:=by rw[<-b.length];exact F.len _ _ _ _ h
 refine wpAny_call (codeAny_mono (F.run X.A X.stack s H ⟨us,[]⟩ (us++ds) (vs++dvs) Q E g I.env0 (j s us I.kIn i) b h) λr c a=>?_);cases r with
 |error e=>exact hx pz σ H s e c I a
 |ok l=>
  cases l with
  |ret u=>exact I.after a
  |next=>exact False.elim a
  |brk=>exact False.elim a
  |cont=>exact False.elim a
def jO(F:FnOk X.prog X.w X.K X.mg X.base CX k f fd ps sp)(j:Room k X.A)(o:Gl X x)(l:X.mg x=some (.ref f))(m:PySem.W.keepIn X.K (.ref f)=true)(u:Binds X.K fd ps ds)(hd:Vals dvs ds)(hx:iE CX X E)
  (y:PA X (e::es) t) (b:nDb x:=by decide) (he:starEach (e::es) X.env=(false,eval e X.env)::starEach es X.env:=by rfl) (a:(backTo pos (starEach es X.env)).any (·.1)=false:=by rfl) :
  PE X (.Call (.Name x p) (e::es) [] pos) (wk sp dvs E t):=by
 intro i s g H Q I h;refine Xa (fi I o l ?_ b);refine Xu (h₀:=X.base) I.ok.mod.kin m (bh (y pos i s g H _ I h) λB C z J c r q=>⟨c.kIn,?_⟩) he a;exact uM F j u hd hx c r q
def v6{pl:Sem Bool}(he:PE X o ta)(c:Cls X.K C)(z:Meth X.K C m f)(F:FnOk X.prog X.w X.K X.mg X.base CX k f fd ps sp)(P:Room k X.A)(R:Binds X.K fd ps ds)(hd:Vals dvs ds)(hx:iE CX X E)(S:PA X (e::es) t)
  (b:starEach (e::es) X.env=(false,eval e X.env)::starEach es X.env:=by rfl) (g:(backTo pos (starEach es X.env)).any (·.1)=false:=by rfl)
  (O:eval (.Call (.Attribute o m apos) (e::es) [] pos) X.env=(do
   let y <-eval o X.env
   standAt apos.atName
   let (f,first) <-holding [y] (getMethod y m pl)
   callWith pos f first (backTo pos (starEach (e::es) X.env)) (backToKw pos (keywordEach [] X.env))):=by rfl) :
  PE X (.Call (.Attribute o m apos) (e::es) [] pos) (j5 C m sp dvs E ta t):=by
 intro p s j H Q I h;refine PySem.W.methodCall_KW (pl:=pl) (bh (he p s j H _ I h) λu L x Y J M i=>?_) O;obtain⟨a,dx,fs,T,U,l,q⟩:=i;subst T;obtain rfl:u=Value.ref a:=M;refine mI J U c z l ?_;refine Xu (first:=[.ref a]) (h₀:=X.base) I.ok.mod.kin z.kp (bh (S pos p L j Y _ J q) λus Z vs H2 B r N=>⟨B.kIn,?_⟩) b g;exact uM (us:=.ref a::us) (vs:=.ref a::vs) F P R hd hx B (.cons rfl r) N
def nJ{pl:Sem Bool}(he:PE X o ta)(c:Cls X.K C)(i:Meth X.K C m f)(F:FnOk X.prog X.w X.K X.mg X.base CX k f fd ps sp)(B:Room k X.A)(J:Binds X.K fd ps ds)(hd:Vals dvs ds)(hx:iE CX X E)
  (z:eval (.Call (.Attribute o m apos) [] [] pos) X.env=(do
   let g <-eval o X.env
   standAt apos.atName
   let (f,first) <-holding [g] (getMethod g m pl)
   callWith pos f first (backTo pos (starEach [] X.env)) (backToKw pos (keywordEach [] X.env))):=by rfl) :
  PE X (.Call (.Attribute o m apos) [] [] pos) (j5 C m sp dvs E ta oq):=by
 intro y s j H Q I h;refine PySem.W.methodCall_KW (pl:=pl) (bh (he y s j H _ I h) λu N x P e p b=>?_) z;obtain⟨a,O,fs,L,M,l,q⟩:=b;subst L;obtain rfl:u=Value.ref a:=p;refine mI e M c i l ?_;exact PySem.W.callWith_K0 (first:=[.ref a]) e.kIn i.kp (uM (us:=[.ref a]) (vs:=[.ref a]) F B J hd hx e (.cons rfl .nil) q)
structure Mk (K:PySem.W.Frag) (C f:Addr):Prop where
 makes:PySem.W.makesIn K C=true
 init:PySem.W.findIn K (.ref C) "__init__"=some (some (.ref f))
 fn:PySem.W.isFn K (.ref f)=true
 kp:PySem.W.keepIn K (.ref C)=true
def yJ{Q:VK}(M:Mk X.K C f)(F:FnOk X.prog X.w X.K X.mg X.base CX k f fd ps sp)(l:Room (k+1) X.A)(o:Binds X.K fd ps ds)(hd:Vals dvs ds)
  (hx:iE CX X E) (I:Inv X pz σ H s) (r:Vals vs us)
  (h:∀x dx,H x=none->H dx=none->dx≠x->sp (.ref x::(vs++dvs)) (upd (upd H dx (.own x)) x (.ins C dx [])) (λv H2=>v=.non/\Q (.ref x) H2) E) :
  wpAny (model X.prog X.w) X.A (call (.ref C) us) (EP X pz σ Q) X.xe s:=by
 have g:=h (s.heap.objs.size+1) s.heap.objs.size (I.hok.fresh (Nat.le_succ _)) (I.hok.fresh (Yy _)) (YN (Xp _));have b:=Inv.made (C:=C) I;have c:Vals (V.ref (s.heap.objs.size+1)::(vs++dvs)) (Value.ref (s.heap.objs.size+1)::(us++ds)):=.cons rfl (r.append hd);have m:(Value.ref (s.heap.objs.size+1)::us++ds).length=ps.length:=by have e:=c.length;rw[F.len _ _ _ _ g]at e;exact e.symm
 refine wpAny_call (zB (f:=f) I.kIn M.makes M.init (ZJ.mp M.fn) (codeAny_mono (F.run _ X.stack _ _ ⟨Value.ref (s.heap.objs.size+1)::us,[]⟩ (Value.ref (s.heap.objs.size+1)::(us++ds)) _ _ E (l.make C us [])
  (b.env0.make C us []) (o _ (Value.ref (s.heap.objs.size+1)::us) b.kIn m) c g) λr i a=>?_))
 cases r with
 |error e=>exact hx pz σ _ _ e i b a
 |ok p=>
  cases p with
  |ret u=>
   obtain⟨v,B,z,j,y,q⟩:=b.after a;subst y;exact⟨j,⟨V.ref (s.heap.objs.size+1),B,z,rfl,q⟩⟩
  |next=>exact False.elim a
  |brk=>exact False.elim a
  |cont=>exact False.elim a
def qr(M:Mk X.K C f)(F:FnOk X.prog X.w X.K X.mg X.base CX k f fd ps sp)(j:Room (k+1) X.A)(m:Gl X x)(l:X.mg x=some (.ref C))(o:Binds X.K fd ps ds)(hd:Vals dvs ds)(hx:iE CX X E)
  (u:PA X (e::es) t) (b:nDb x:=by decide) (he:starEach (e::es) X.env=(false,eval e X.env)::starEach es X.env:=by rfl) (a:(backTo pos (starEach es X.env)).any (·.1)=false:=by rfl) :
  PE X (.Call (.Name x p) (e::es) [] pos) (Gx C sp dvs E t):=by
 intro i s g H Q I h;refine Xa (fi I m l ?_ b);refine Xu (h₀:=X.base) I.ok.mod.kin M.kp (bh (u pos i s g H _ I h) λz B y J c r q=>⟨c.kIn,?_⟩) he a;exact yJ M F j o hd hx c r q
end
section
variable   {k:Nat}   {ks:List Str}  {E:XK}  {kpos:Pos}   {kws:List Keyword}  {t tk:TA}{nm:Option Str}
variable{g:List Value->List Value->List Value}{gV:List V->List V->List V}
end
structure FnScope (N P:List Str) (sc:Scope):Prop where
 kind:sc.kind=.function
 co:sc.isCoroutine=false
 gen:sc.isGenerator=false
 nd:N.Nodup
 pre:N.take P.length=P
 par:∀x∈P,sc.names.lookup x=some .local\/sc.names.lookup x=some .cell
 nofree:∀y∈sc.names,y.2≠.free
theorem pf{a:Str->Option NameKind} :∀{b:List (Str×Value)}{m:Ks},(∀v,(x,v)∉b)->bindL a b m x=m x
 |[],_,_=>rfl
 |(n,v)::r,m,h=>by
  unfold bindL;rw[pf λw c=>h w (Ye _ c)];split
  ·have:x≠n:=by rintro rfl;exact h v Yf
   simp[this]
  ·rfl
theorem oX{a:Str->Option NameKind} :∀{b:List (Str×Value)}{m:Ks},(∀v,(x,v)∉b)->bindC a b m x=m x
 |[],_,_=>rfl
 |(n,v)::r,m,h=>by
  unfold bindC;rw[oX λw c=>h w (Ye _ c)];split
  ·rfl
  ·have:x≠n:=by rintro rfl;exact h v Yf
   simp[this]
theorem oS{a:Str->Option NameKind}{v:Value}:∀{P:List Str}{vs:List Value}{i:Nat}{m:Ks},P.Nodup->P[i]?=some x->vs[i]?=some v->a x=some .local->
  bindL a (P.zip vs) m x=some v
 |[],_,_,_,_,h,_,_=>by simp at h
 |_::_,[],_,_,_,_,h,_=>by simp at h
 |p::P,w::vs,0,m,nd,h1,h2,hk=>by
  simp at h1 h2;subst h1;subst h2;show bindL a ((p,w)::P.zip vs) m p=_;unfold bindL;rw[pf λv b=>(YF.mp nd).1 (List.of_mem_zip b).1,Yi hk];simp
 |p::P,w::vs,i+1,m,nd,h1,h2,hk=>by
  show bindL a ((p,w)::P.zip vs) m x=_;unfold bindL;exact oS (i:=i) (YF.mp nd).2 (by simpa using h1) (by simpa using h2) hk
theorem pG{a:Str->Option NameKind}{v:Value}:∀{P:List Str}{vs:List Value}{i:Nat}{m:Ks},P.Nodup->P[i]?=some x->vs[i]?=some v->a x≠some .local->
  bindC a (P.zip vs) m x=some v
 |[],_,_,_,_,h,_,_=>by simp at h
 |_::_,[],_,_,_,_,h,_=>by simp at h
 |p::P,w::vs,0,m,nd,h1,h2,hk=>by
  simp at h1 h2;subst h1;subst h2;show bindC a ((p,w)::P.zip vs) m p=_;unfold bindC;rw[oX λv b=>(YF.mp nd).1 (List.of_mem_zip b).1,Yr hk];simp
 |p::P,w::vs,i+1,m,nd,h1,h2,hk=>by
  show bindC a ((p,w)::P.zip vs) m x=_;unfold bindC;exact pG (i:=i) (YF.mp nd).2 (by simpa using h1) (by simpa using h2) hk
def start(N:List Str)(vs:List V):St:=vs.map some++List.replicate (N.length-vs.length) none
def bM(CX:CXT)(P:Program)(w:World)(K:Kq)(mg:Ks)(base:Heap)(N:List Str)(qual:Str)(scope:Scope)(f:Addr)(cd:Value)(A:Around)(outer:List Env)(s:Shared)(H:Hp)(E:XK):Cx where
 prog:=P
 w:=w
 K:=K
 mg:=mg
 base:=base
 A:=A.deeper (envOfC qual scope s.heap.objs.size f cd)
 N:=N
 s₀:=s
 H₀:=H
 env:=envOfC qual scope s.heap.objs.size f cd
 outer:=outer
 stack:=envOfC qual scope s.heap.objs.size f cd::outer
 ex:=[]
 calm:=true
 fn:=λ_=>true
 pn:=[]
 xe:=λe b=>wpAny (model P w) (A.deeper (envOfC qual scope s.heap.objs.size f cd)) (leaving (envOfC qual scope s.heap.objs.size f cd) e) (λ_ a=>CX outer H s E e a) (λc a=>CX outer H s E c a) b
def tV{s:Scope}{n:Nat}(h:s.names.lookup x=some .cell):∃c,(cellsFrom n s.names []).lookup x=some c:=by have q:=ZY s.names n [] (.inl h);exact ZQ.mp q
theorem xk{P:Program}{cd:Value}{outer:List Env}{s1:Shared}{E:XK}  
  (S:FnScope N ps scope) (hd:A.handled=none) (e0:Env0 P w K mg base A outer s H) (Q:vs.length=ps.length) (r:Vals vs us)
  (x:InCallC s s.heap.objs.size (bindL (envOfC qual scope s.heap.objs.size f cd).kindOf (ps.zip us) λ_=>none) (cellsFrom (s.heap.objs.size+1) scope.names []) (bindC (envOfC qual scope s.heap.objs.size f cd).kindOf (ps.zip us) λ_=>none) s1) :
  Inv (bM CX P w K mg base N qual scope f cd A outer s H E) [] (start N vs) H s1:=by
 have L:ps.length<=N.length:=by have:=YM List.length S.pre;rw[List.length_take]at this;omega
 obtain⟨B,O,rfl,I⟩:=x.done;have j:∀b:Addr,b∉(bM CX P w K mg base N qual scope f cd A outer s H E).ex:=λb z=>absurd (show b∈([]:List Addr)from z) (by simp)
 refine⟨⟨e0.mod,S.kind,rfl,rfl,Yy _,λy z c B g=>?_,λy hy=>?_,λy c _ h=>?_,λ_=>hd,Around.frames_deeper e0.frames,.inr ⟨rfl,rfl⟩,λb z=>absurd z (j b),e0.bs,e0.bsz,λb _ _=>j b,λb z=>absurd z (j b),e0.funs,e0.frf⟩,
  rfl,e0.bare,Un.kept I,⟨_,x.toInCall.ns,λi y v B g R=>?_⟩,λy c h=>⟨_,x.cell y c h⟩,e0.hok.fresh (Yy _),λy c h=>?_,λp m=>absurd (show p∈([]:Kp)from m) (by simp),e0.hok.kept I,?_⟩
 ·exact name_of_addr x.apart (Zr B) (Zr g)
 ·have hy:scope.names.lookup y=some .cell\/scope.names.lookup y=some .free:=hy;rcases hy with hy|hy
  ·exact tV hy
  ·exact absurd rfl (S.nofree _ (Zr hy))
 ·exact ZB (x.above y c (Zr h))
 ·have o:i<vs.length:=by
   unfold start at g;by_cases o:i<vs.length
   ·exact o
   ·rw[Zv (by simpa using o)]at g;rw[ZV]at g;split at g<;>cases g
  have M:vs[i]?=some v:=by
   unfold start at g;rw[ZA (by simpa using o),YG]at g;cases e:vs[i]? with
   |none=>rw[e]at g;cases g
   |some a=>rw[e]at g;cases g;rfl
  obtain⟨u,C,J⟩:=r.get M;have m:ps[i]?=some y:=by rw[<-S.pre,List.getElem?_take_of_lt (by omega)];exact B
  have l:ps.Nodup:=by rw[<-S.pre];exact S.nd.sublist (List.take_sublist _ _)
  refine⟨u,J,?_⟩;rcases S.par y (Zo m)with k|k
  ·exact .inl ⟨k,oS l m C k⟩
  ·obtain⟨c,e⟩:=tV (n:=s.heap.objs.size+1) k;refine .inr ⟨.inl k,c,e,?_⟩;have q:=x.cell y c e;rw[pG l m C (by show scope.names.lookup y≠_;rw[k];decide)]at q;exact q
 ·exact e0.hok.fresh (ZB (x.above y c (Zr h)))
 ·unfold start;show _=N.length;rw[Yb,Yc,Yo];omega
def yh{P:Program}{k:Nat}{p:Arguments}{L kV doc pm cdv ct oc:Value}{an od:Option Addr}
  {osl:Array (Option Value)}   (T:K.lookup f=some ⟨oc,od,.func (PySem.W.fnOf name qual p body scope L kV doc pm an cdv ct),osl⟩) (hcd:PySem.W.codeIn K cdv qual=true) (S:FnScope N ps scope)
  (len:∀vs H Q E,sp vs H Q E->vs.length=ps.length)
  (c:∀(A:Around) (outer:List Env) (s:Shared) (H:Hp) (vs:List V) (Q:VK) (E:XK),Room k (A.deeper (envOfC qual scope s.heap.objs.size f cdv))->sp vs H Q E->
   ∃t,PSs (bM CX P w K mg base N qual scope f cdv A outer s H E) body t/\t {nx:=λ_ H'=>Q .non H',rt:=Q} (start N vs) H) :
  FnOk P w K mg base CX (k+1) f (PySem.W.fnOf name qual p body scope L kV doc pm an cdv ct) ps sp:=by
 refine⟨len,λA outer s H M R vs Q E B j hb r i=>?_⟩;have Z:=len _ _ _ _ i;have O:K.In s.heap:=j.mod.kin.keeps λb o e=>(j.bs b o e).1
 have z:s.heap.NoLimit:=j.mod.nolimit.keeps λb o e=>(j.bs b o e).1
 have h:∀y∈ps.zip R,scope.names.lookup y.1=some .local\/(scope.names.lookup y.1=some .cell/\((cellsFrom (s.heap.objs.size+1) scope.names []).lookup y.1).isSome=true):=λ⟨n,v⟩ U=>by
  rcases S.par n (List.of_mem_zip U).1 with q|q
  ·exact .inl q
  ·exact .inr ⟨q,ZY _ _ _ (.inl q)⟩
 refine codeAny_call_function B.depth (O _ _ T) rfl S.co S.gen rfl (PySem.W.codeRec_of O hcd) (hb _ _ _ _ ?_);refine wpAny_newFunctionEnv_cells S.kind h λenv he C x=>?_;subst he;refine⟨z.keeps x.toInCall.keep,codeAny_func ?_⟩;obtain⟨t,X,Y⟩:=c A outer s H vs Q E (B.deeper _) i;have I:Inv (bM CX P w K mg base N qual scope f cdv A outer s H E) [] (start N vs) H C:=xk S B.hd j Z r x;refine Zx (X [] C (start N vs) H _ I Y) (λfl l g=>?_) λe l g=>g;have fin:∀{a:St}{H':Hp}{v:V}{u:Value},Inv (bM CX P w K mg base N qual scope f cdv A outer s H E) [] a H' l->RelV v u->Q v H'->CE outer P w H s Q u l:=
  λ{a H' v u} J m q=>⟨v,H',J.os,J.bare,J.base,J.hok,m,q⟩
 cases fl with
 |ret u=>
  obtain⟨v,a,H',J,m,q⟩:=g;exact fin J m q
 |next=>
  obtain⟨a,H',J,q⟩:=g;exact fin (v:=V.non) (u:=Value.none) J rfl q
 |brk=>
  obtain⟨_,_,_,q⟩:=g;exact False.elim q
 |cont=>
  obtain⟨_,_,_,q⟩:=g;exact False.elim q
section
variable      {t:TA}{id T:String}{r:List V->Hp->VK->Prop}
def tCB(r:List V->Hp->VK->Prop)(t:TA):TE:=λa H Q=>t a H λb c=>r b c Q
def df(w:CallR X (.builtin id) r)(o:Gl X x)(m:X.mg x=none)(hv:bootBuiltins x=some (.builtin id))(y:PA X (e::es) t)(l:x ≠ "__name__":=by decide)(b:nDb x:=by decide)
  (he:starEach (e::es) X.env=(false,eval e X.env)::starEach es X.env:=by rfl) (a:(backTo pos (starEach es X.env)).any (·.1)=false:=by rfl):PE X (.Call (.Name x p) (e::es) [] pos) (tCB r t):=by
 intro f s c H Q I h;refine Xa (rF I o m hv ?_ l b);exact PyProof.Rows.callWith_builtin1 (bh (y pos f s c H _ I h) λu i g A z j q=>w f i c A g u Q z j q) he a
def gD(w:CallR X (.type T) r)(o:Gl X x)(m:X.mg x=none)(hv:bootBuiltins x=some (.type T))(y:PA X (e::es) t)(l:x ≠ "__name__":=by decide)(b:nDb x:=by decide)
  (he:starEach (e::es) X.env=(false,eval e X.env)::starEach es X.env:=by rfl) (a:(backTo pos (starEach es X.env)).any (·.1)=false:=by rfl):PE X (.Call (.Name x p) (e::es) [] pos) (tCB r t):=by
 intro f s c H Q I h;refine Xa (rF I o m hv ?_ l b);exact PyProof.Rows.callWith_type1 (bh (y pos f s c H _ I h) λu i g A z j q=>w f i c A g u Q z j q) he a
end
end L2
namespace HT
open PySem PyProof.Rows
def rcLt_int(A:Around)(s:Shared)(a:Int)(t:Tok)(c:Int)(u:Tok)(prog:Program)(w:World)(E:Value->Shared->Prop)(Q:Value->Shared->Prop)(h:Q (.bool (decide (a<c))) s) :
  wpAny (model prog w) A (richCompare .Lt (.int a t) (.int c u)) Q E s:=
 (PyProof.Rows.lt_int h:wpAny (model prog w) A (compareOp .Lt (.int a t) (.int c u)) Q E s)
section
open PySem.SeqAt
open PySem.AutoSeq1 (wpAny_loadPart')
open PySem.MeetsSeq PySem.MeetsSeq2 PySem.MeetsSeq3
end
def cat_tup{t b:Addr}{vs a:List Value}(y:IsTup s.heap t vs.toArray)(z:IsTup s.heap b a.toArray)(hv:vs≠[])
  (h1:a=[]->Q (.ref t) s) (h2:a≠[]->Q (.ref s.heap.objs.size) {s with heap:=s.heap.push {cls:=.type "tuple",data:=.seq (vs++a).toArray} })
  (hsz:vs.length+a.length<=sizeLine):wpAny (model prog w) A (binaryOp .Add (.ref t) (.ref b)) Q E s:=by
 obtain⟨⟨cls,u,data,o⟩,l,q,n,p⟩:=id y;obtain⟨⟨x,i,m,c⟩,h,g,n2,f⟩:=id z;simp only at q p g f;subst q p g f;have e:vs.toArray++a.toArray=(vs++a).toArray:=by simp
 by_cases j:a=[]
 ·exact concat_meets ⟨_,l,rfl⟩ ⟨_,h,rfl⟩ noFill_tuple_add seq_tuple_add PySem.F.slot_tuple_add PySem.F.entry_tuple_add (PySem.F.args_tuple_add_2 _ _)
   (tuple_addW1 t b vs.toArray a.toArray n n2 u i o c (by simpa using hv) (by simp[j])) ⟨l,h,h1 j⟩
 ·refine concat_meets ⟨_,l,rfl⟩ ⟨_,h,rfl⟩ noFill_tuple_add seq_tuple_add PySem.F.slot_tuple_add PySem.F.entry_tuple_add (PySem.F.args_tuple_add_2 _ _)
   (tuple_addW2 t b vs.toArray a.toArray n n2 u i o c (by simpa using hv) (by simpa using j) (by rw[List.size_toArray,List.size_toArray];exact hsz)) ⟨l,h,?_⟩
  rw[e];exact h2 j
end HT
namespace L2
open PySem PySem.Spec PyProof.Rows
abbrev TO:=St->Hp->(Option Int->Hp->Prop)->Prop
def PO(X:Cx)(e:Option Expr)(t:TO):Prop:=
 ∀(p:Kp) (s:Shared) (a:St) (H:Hp) (Q:Option Int->Hp->Prop),Inv X p a H s->t a H Q->
  wpAny (model X.prog X.w) X.A (evalPart e X.env) (λu c=>∃o b,Inv X p a b c/\IsPart u o/\Q o b) X.xe s
def BU:TO:=λ_ H Q=>Q none H
def Hm(t:TE):TO:=λa H Q=>t a H λx b=>∃i,x=.int i/\Q (some i) b
section
variable    {lo hi:Option Expr}{tl th:TO}{p2:Pos}
def CJ:PO X none BU:=by intro p s a H Q I h;rw[evalPart_none];exact YR ⟨none,H,I,.none,h⟩
def CL(h:PE X e te):PO X (some e) (Hm te):=by intro p s a H Q I f;rw[evalPart_some];refine bh (h p s a H _ I f) λu l x j g b c=>?_;obtain⟨i,rfl,q⟩:=c;obtain⟨t,rfl⟩:=b;exact⟨some i,j,g,.int i t,q⟩
def SlR(X:Cx)(r:V->Option Int->Option Int->Hp->VK->Prop):Prop:=
 ∀(p:Kp) (s:Shared) (a:St) (H:Hp) (x:V) (v c b:Value) (l h:Option Int) (e:Addr) (Q:VK),Inv X p a H s->RelV x v->s.heap.IsSliceOf e c b .none->IsPart c l->IsPart b h->r x l h H Q->
  ∃T i,typeLookup (.type T) "__getitem__"=pure (some (.builtin i))/\s.TypeIs v T/\wpAny (model X.prog X.w) X.A (getItem v (.ref e)) (EP X p a Q) X.xe s
def tSl(r:V->Option Int->Option Int->Hp->VK->Prop)(te:TE)(tl th:TO):TE:=λa H Q=>te a H λx e=>tl a e λl c=>th a c λu b=>r x l u b Q
def yQ{r:V->Option Int->Option Int->Hp->VK->Prop}(L:SlR X r)(he:PE X e te)(M:PO X lo tl)(J:PO X hi th):PE X (.Subscript e (.Slice lo hi none p2) pos) (tSl r te tl th):=by
 intro p s c H Q I h;refine Subscript_ (bh (he p s c H _ I h) λv m x Z U o B=>?_);refine wpAny_Slice (bh (M p m c Z _ U B) λg j l Y S E z=>bh (J p j c Y _ S z) λf a u i R C y=>?_);rw[evalPart_none];refine YR ?_;have P:Inv X p c i {a with heap:=a.heap.push {cls:=.type "slice",data:=.fields #[g,f,.none]} }:=R.kept (t':=a.toks) λb ob q=>Yx _ q
 obtain⟨T,id,O,K,N⟩:=L p {a with heap:=a.heap.push {cls:=.type "slice",data:=.fields #[g,f,.none]} } c i x v g f l u a.heap.objs.size Q P o (Heap.IsSliceOf.new ..) E C y;show wpAny (model X.prog X.w) X.A (subscriptTail e (.Slice lo hi none p2) v (.ref a.heap.objs.size)) (EP X p c Q) X.xe {a with heap:=a.heap.push {cls:=.type "slice",data:=.fields #[g,f,.none]} };exact tail_any (ops:=[.ref a.heap.objs.size,v]) K O N (by with_unfolding_all rfl)
def F7(K:Kq):R2:=λx y H Q=>∃a b e c,x=.ref a/\y=.ref b/\SqT K H a e/\SqT K H b c/\e≠[]/\e.length+c.length<=sizeLine /\
 (c=[]->Q (.ref a) H)/\(c≠[]->∀p,H p=none->Q (.ref p) (upd H p (.tup (e++c))))
def Vals.nil_iff(r:Vals xs us):us=[]↔xs=[]:=by
 cases r with
 |nil=>simp
 |cons _ _=>simp
def BQ:OpR X (binaryOp .Add) (F7 X.K):=by intro O s N H x y v u Q I m l h;obtain⟨a,b,j,g,rfl,rfl,M,L,J,f,A,p⟩:=h;cases m;cases l;obtain⟨E,e,C,_⟩:=I.tuple M;obtain⟨i,c,B,_⟩:=I.tuple L;refine HT.cat_tup C B (λz=>J (e.nil_iff.mp z)) (λz=>⟨.ref a,H,I,rfl,A (c.nil_iff.mp z)⟩) (λz=>?_) (by rw[<-e.length,<-c.length];exact f);refine⟨.ref s.heap.objs.size,_,I.laid (t':=s.toks) (o:=.tup (j++g)) (λb P q=>Yx _ q) (Yy _) ?_,rfl,p (λw=>z (c.nil_iff.mpr w)) _ (I.hok.fresh (Yy _))⟩;exact⟨by rw[Yb];exact f,_,e.append c,IsTup.new _ _,NoD.new _ _⟩
end
def ixN(n:Nat)(i:Int):Option Nat:=if 0<=i then(if i<n then some i.toNat else none)else if -(n:Int)<=i then some (i+n).toNat else none
def atI{a:Type}(xs:List a)(i:Int):Option a:=(ixN xs.length i).bind λj=>xs[j]?
theorem vP{n:Nat}{i:Int}(h:ixN n i=some j):seqIndex? i n=some j/\j<n/\-(n:Int)<=i/\i<n:=by
 unfold ixN at h;by_cases b:0<=i
 ·rw[Yi b]at h;by_cases a:i<n
  ·rw[Yi a]at h;have e:i.toNat=j:=Yu h;exact⟨by rw[seqIndex_of b a,e],by omega,by omega,a⟩
  ·rw[Yr a]at h;cases h
 ·rw[Yr b]at h;by_cases a:-(n:Int)<=i
  ·rw[Yi a]at h;have e:(i+n).toNat=j:=Yu h;exact⟨by rw[seqIndex_neg (by omega) a,e],by omega,a,by omega⟩
  ·rw[Yr a]at h;cases h
def qU{a:Type}{xs:List a}{i:Int}{v:a}(h:atI xs i=some v):∃j,seqIndex? i xs.length=some j/\xs[j]?=some v/\j<xs.length/\-(xs.length:Int)<=i/\i<xs.length:=by
 unfold atI at h;cases e:ixN xs.length i with
 |none=>rw[e]at h;cases h
 |some j=>
  rw[e]at h;obtain⟨g,f,c,b⟩:=vP e;exact⟨j,g,h,f,c,b⟩
def q_(b:Expr):Prop:=∀o i,subscripted b false o i=operate [o,i] (getItem o i)
def IxR(X:Cx)(r:R2):Prop:=
 ∀(b a:Expr) (p:Kp) (s:Shared) (c:St) (H:Hp) (x y:V) (v u:Value) (Q:VK),Inv X p c H s->RelV x v->RelV y u->r x y H Q->
  subscripted a false v u=operate [v,u] (getItem v u)->wpAny (model X.prog X.w) X.A (subscriptTail b a v u) (EP X p c Q) X.xe s
def MtR(X:Cx)(id:String)(r:V->List V->Hp->VK->Prop):Prop:=
 ∀(p:Kp) (s:Shared) (a:St) (H:Hp) (x:V) (b:List V) (v:Value) (u:List Value) (Q:VK),Inv X p a H s->RelV x v->Vals b u->r x b H Q->
  wpAny (model X.prog X.w) X.A (call (.builtin id) (v::u)) (EP X p a Q) X.xe s
section
variable  {a:Expr}  
def IxR.or{r g:R2}(h:IxR X r)(h':IxR X g):IxR X (λx y H Q=>r x y H Q\/g x y H Q):=by
 intro a b p s c H x y v u Q I f e q i;rcases q with q|q
 ·exact h a b p s c H x y v u Q I f e q i
 ·exact h' a b p s c H x y v u Q I f e q i
def DO{r:R2}(j:IxR X r)(m:PE X a ta)(l:PE X b tb)(i:q_ b):PE X (.Subscript a b pos) (tOp r ta tb):=by intro p s c H Q I h;exact Subscript_ (EC m l I h λv u e x y w o g f q=>j a b p e c w x y v u Q o g f q (i _ _))
def Hh(K:Kq):R2:=λx y H Q=>∃p a i v,x=.ref p/\y=.int i/\SqL K H p a/\atI a i=some v/\Q v H
def GQ(K:Kq):R2:=λx y H Q=>∃p a i v,x=.ref p/\y=.int i/\SqT K H p a/\atI a i=some v/\Q v H
def GC:R2:=λx y H Q=>∃z i c,x=.str z/\y=.int i/\z.length<=sizeLine/\atI z.cps.toList i=some c/\Q (.str ⟨#[c]⟩) H
theorem Be:IxR X (Hh X.K):=by
 intro b c o s m H x y v u Q I L J h A;obtain⟨p,T,i,z,rfl,rfl,M,O,q⟩:=h;cases L;obtain⟨t,rfl⟩:=J;obtain⟨g,r,f,U⟩:=I.list M;obtain⟨j,a,S,Z,R,P⟩:=qU O;obtain⟨w,C,e⟩:=r.get S;have N:=r.length;have Y:=jn;have fin:EP X o m Q w s:=⟨z,H,I,e,q⟩
 by_cases B:0<=i
 ·have l:i.toNat=j:=by rw[seqIndex_of B P]at a;exact Yu a
  exact item_listR f.isList B (by omega) (by rw[l];simpa using C) fin A
 ·have l:(i+(g.toArray.size:Int)).toNat=j:=by rw[seqIndex_neg (by omega) R]at a;rw[Yp,<-N];exact Yu a
  exact subscriptTail_builtinR (x:=w) f.isList.typeIs slot_list_getitem.lookup
   (wpAny_getItem_list_neg (Q:=λr E=>r=w/\EP X o m Q r E) f.isList (by omega) (by rw[Yp]<;>omega) (by omega) (by rw[l];simpa using C) ⟨rfl,fin⟩) A
theorem D_:IxR X (GQ X.K):=by
 intro a b f s e H x y v u Q I o m h B;obtain⟨p,O,i,z,rfl,rfl,C,J,q⟩:=h;cases o;obtain⟨t,rfl⟩:=m;obtain⟨A,r,g,P⟩:=I.tuple C;obtain⟨j,M,L,U,T,S⟩:=qU J;obtain⟨w,N,c⟩:=r.get L;have E:=r.length;have R:=jn;have fin:EP X f e Q w s:=⟨z,H,I,c,q⟩
 exact subscriptTail_builtinR (x:=w) g.typeIs slot_tuple_getitem.lookup
  (getItem_tuple (j:=j) (Q:=λr l=>r=w/\EP X f e Q r l) g (by omega) (by omega) (by rw[Yp,<-E];exact M) (by simpa using N) ⟨rfl,fin⟩) B
theorem ES:IxR X GC:=by
 intro a b K s E H x y v u Q I g f h l;obtain⟨z,i,c,rfl,rfl,L,o,q⟩:=h;obtain⟨t,rfl⟩:=g;obtain⟨J,rfl⟩:=f;obtain⟨j,e,A,N,w,p⟩:=qU o;have m:z.cps.toList.length=z.length:=by simp[Str.length]
 rw[m]at e w p;have M:=jn;exact tail_any (typeIs_str s z t) slot_str_getitem.lookup (getItem_str (c:=c) (by
  have C:decide (i < -(2^63:Int))=false:=Yn (by omega);have B:decide (i ≥ 2^63)=false:=Yn (by omega);rw[C,B,Bool.or_false]) (by rw[e];simpa using A) ⟨.str ⟨#[c]⟩,H,I.tok _,⟨_,rfl⟩,q⟩) l
def rIx(K:Kq):R2:=λx y H Q=>Hh K x y H Q\/GQ K x y H Q\/GC x y H Q
def yy:IxR X (rIx X.K):=Be.or (D_.or ES)
def ue(its:List Value)(n j:Nat)(u:Value):Obj.mapSeq (·.setIfInBounds j u) {cls:=.type "list",data:=.seq its.toArray n}={cls:=.type "list",data:=.seq (its.set j u).toArray n}:=by simp[Obj.mapSeq]
def Inv.lst{p:Addr}(I:Inv X pz σ H s)(h:H p=some (.lst xs)) :
  ∃(its:List Value) (n:Nat),Vals xs its/\s.heap.get? p=some {cls:=.type "list",data:=.seq its.toArray n}/\xs.length<=sizeLine:=by
 obtain⟨z,its,n,r,e⟩:=I.hok p _ h;exact⟨its,n,r,e,z⟩
def Inv.lstUpd{p:Addr}{its':List Value}{n a:Nat}{f:Obj->Obj}(I:Inv X pz σ H s)(h:H p=some (.lst xs))
  (g:s.heap.get? p=some {cls:=.type "list",data:=.seq its.toArray n}) (c:f {cls:=.type "list",data:=.seq its.toArray n}={cls:=.type "list",data:=.seq its'.toArray a }) (r:Vals ys its') (hz:ys.length<=sizeLine) (t:Nat) :
  Inv X pz σ (upd H p (.lst ys)) {s with heap:=s.heap.update p f,toks:=t}:=by
 have e:(s.heap.update p f).get? p=some {cls:=.type "list",data:=.seq its'.toArray a }:=by rw[Heap.get?_update_self f g (by rw[c]<;>rfl),c]
 refine I.write (x:=p) (e:=p) (by rw[h];trivial) (.inl rfl) (λb u i q=>(Heap.get?_update_other _ _ (ZX i)).trans q) ⟨_,e⟩ ?_;exact⟨hz,its',a,r,e⟩
def Gd:V->V->V->Hp->(Hp->Prop)->Prop:=λo i v H Q=>∃p x k j,o=.ref p/\i=.int k/\H p=some (.lst x)/\ixN x.length k=some j/\Q (upd H p (.lst (x.set j v)))
theorem zz:GP X Gd:=by
 intro E s y H o i v L M u Q I B C A h;obtain⟨p,z,k,j,rfl,rfl,g,K,q⟩:=h;cases B;obtain⟨t,rfl⟩:=C;obtain⟨a,n,r,c,J⟩:=I.lst g;obtain⟨b,O,m,l⟩:=vP K;have e:=r.length;have N:=jn;have x:Inv X E y (upd H p (.lst (z.set j v))) {s with heap:=s.heap.update p (Obj.mapSeq (·.setIfInBounds j u))}:=
  I.lstUpd g c (ue a n j u) (r.set A j) (by rw[Zb];exact J) s.toks
 by_cases w:0<=k
 ·have f:k.toNat=j:=by rw[seqIndex_of w l]at b;exact Yu b
  exact PySem.W.ki_setAt c w (by omega) (by rw[Yp,<-e];exact l) (by rw[f];exact⟨_,x,q⟩)
 ·have f:(k+(a.toArray.size:Int)).toNat=j:=by rw[seqIndex_neg (by omega) m]at b;rw[Yp,<-e];exact Yu b
  exact PySem.W.ki_setBack c (by omega) (by rw[Yp,<-e];exact m) (by omega) (by rw[f];exact⟨_,x,q⟩)
theorem rj:CallR X (.builtin "len") (λxs H Q=>∃p ys,xs=[.ref p]/\(SqL X.K H p ys\/SqT X.K H p ys)/\Q (.int ys.length) H):=by
 intro l s g H xs j Q I r h;obtain⟨p,ys,rfl,hq,q⟩:=h;obtain⟨u,rfl,e⟩:=iq r;cases e;have m:=jn;rcases hq with hq|hq
 ·obtain⟨i,b,c,f⟩:=I.list hq;have a:=b.length;exact Calls.call_len_list c.isList (by simp only[Yp]<;>omega) ⟨.int ys.length,H,I.tok _,⟨s.toks+1,by rw[Yp,a]⟩,q⟩
 ·obtain⟨i,b,c,f⟩:=I.tuple hq;have a:=b.length;exact len_tuple c (by simp only[Yp]<;>omega) ⟨.int ys.length,H,I.tok _,⟨s.toks+1,by rw[Yp,a]⟩,q⟩
theorem rH:CallR X (.builtin "len") (λxs H Q=>∃z,xs=[.str z]/\z.length<=sizeLine/\Q (.int z.length) H):=by intro p s a H xs b Q I r h;obtain⟨z,rfl,c,q⟩:=h;obtain⟨u,rfl,t,rfl⟩:=iq r;have e:=jn;exact len_str (by omega) ⟨.int z.length,H,I.tok _,⟨_,rfl⟩,q⟩
def CallR.or{f:Value}{r c:List V->Hp->VK->Prop}(h:CallR X f r)(h':CallR X f c):CallR X f (λxs H Q=>r xs H Q\/c xs H Q):=by
 intro p s a H xs u Q I b q;rcases q with q|q
 ·exact h p s a H xs u Q I b q
 ·exact h' p s a H xs u Q I b q
theorem qh:CallR X (.type "list") (λxs H Q=>∃p ys,xs=[.ref p]/\(SqL X.K H p ys\/SqT X.K H p ys)/\∀l,H l=none->Q (.ref l) (upd H l (.lst ys))):=by
 intro J s C H xs L Q I r h;obtain⟨p,ys,rfl,hq,q⟩:=h;obtain⟨u,rfl,E⟩:=iq r;cases E;have fin:∀(i:List Value),Vals ys i->ys.length<=sizeLine->∀(a:Heap) (f:Nat),(∀b B,s.heap.get? b=some B->a.get? b=some B)->
   a.get? s.heap.objs.size=some {cls:=.type "list",dict:=none,data:=.seq i.toArray f,slots:=#[]}->EP X J C Q (.ref s.heap.objs.size) {s with heap:=a }:=λi c j a f g e=>
  ⟨.ref s.heap.objs.size,_,I.laid (t':=s.toks) g (Yy _) (show ObjOk X.prog X.w _ a _ (.lst ys)from⟨j,i,f,c,e⟩),rfl,q _ (I.hok.fresh (Yy _))⟩
 rcases hq with hq|hq
 ·obtain⟨i,c,x,j⟩:=I.list hq;have m:=c.length;obtain⟨o,y,A,n,z⟩:=x.isList;exact call_list_seq p (.inl rfl) y A z (λa f g e=>fin i c j a f g e) (by simp only[Yp]<;>omega)
 ·obtain⟨i,c,x,j⟩:=I.tuple hq;have m:=c.length;obtain⟨o,y,A,n,z⟩:=x;exact call_list_seq p (.inr rfl) y A z (λa f g e=>fin i c j a f g e) (by simp only[Yp]<;>omega)
def oB:CallR X (.type "tuple") (λxs H Q=>∃p ys,xs=[.ref p]/\((SqL X.K H p ys/\∀l,H l=none->Q (.ref l) (upd H l (.tup ys)))\/(SqT X.K H p ys/\Q (.ref p) H))):=by
 intro m s j H xs E Q I r h;obtain⟨p,ys,rfl,h⟩:=h;obtain⟨u,rfl,A⟩:=iq r;cases A;rcases h with⟨g,q⟩|⟨g,q⟩
 ·obtain⟨i,c,f,x⟩:=I.list g;have y:=c.length;refine call_tuple_list f.isList (λa B=>?_) (by simp only[Yp]<;>omega);have z:Inv X m j H {s with heap:=a }:=I.kept (t':=s.toks) B;have C:Inv X m j (upd H a.objs.size (.tup ys)) {s with heap:=a.push {cls:=.type "tuple",data:=.seq i.toArray} }:=
   z.laid (t':=s.toks) (λb o e=>Yx _ e) (Yy _) (show ObjOk X.prog X.w _ _ _ (.tup ys)from⟨x,i,c,IsTup.new _ _,NoD.new _ _⟩)
  exact⟨.ref a.objs.size,_,C,rfl,q _ (z.hok.fresh (Yy _))⟩
 ·obtain⟨i,c,f,x⟩:=I.tuple g;exact call_tuple_same f ⟨.ref p,H,I,rfl,q⟩
def tyV(K:Kq)(T:String)(x:V)(H:Hp):Prop:=match x with
 |.str _=>T = "str"
 |.int _=>T = "int"
 |.ref p=>(T = "list"/\∃b,SqL K H p b)\/(T = "tuple"/\∃o,K.lookup p=some o/\o.cls=.type "tuple"/\o.dict=none) \/
   (T = "dict"/\((∃a,H p=some (.dK a))\/∃a,H p=some (.dT a)))\/(T = "set"/\∃S n,H p=some (.set S n))
 |_=>False
def zI{T:String}{x:V}{v:Value}(I:Inv X pz σ H s)(r:RelV x v)(ty:tyV X.K T x H) :
  s.TypeIs v T/\∀a,v=.ref a->∃ob,s.heap.get? a=some ob/\ob.dict=none:=by
 cases x with
 |str z=>
  obtain⟨t,rfl⟩:=r;cases(show T = "str" from ty);exact⟨typeIs_str s z t,λ_ e=>nomatch e⟩
 |int i=>
  obtain⟨t,rfl⟩:=r;cases(show T = "int" from ty);exact⟨typeIs_int s i t,λ_ e=>nomatch e⟩
 |ref p=>
  cases r;rcases ty with⟨rfl,w,q⟩|⟨rfl,o,h,u,g⟩|⟨rfl,h⟩|⟨rfl,S,n,h⟩
  ·obtain⟨m,_,l,_⟩:=I.list q;refine⟨l.isList.typeIs,λa e=>?_⟩;cases e;obtain⟨o,n,e,c,g,_⟩:=l;exact⟨o,e,g⟩
  ·refine⟨⟨o,I.kIn p o h,u⟩,λa e=>?_⟩;cases e;exact⟨o,I.kIn _ o h,g⟩
  ·have z:∃o,s.heap.get? p=some o/\o.ExactDict:=by
    rcases h with⟨f,h⟩|⟨f,h⟩
    ·obtain⟨_,_,_,_,o,_,_,e,b,_⟩:=I.hok p _ h;exact⟨o,e,b⟩
    ·obtain⟨_,_,_,_,o,_,_,e,b,_⟩:=I.hok p _ h;exact⟨o,e,b⟩
   obtain⟨o,e,b⟩:=z;refine⟨⟨o,e,b.1⟩,λa j=>?_⟩;cases j;exact⟨o,e,b.2.1⟩
  ·obtain⟨o,_,_,_,e,b,_⟩:=I.hok p _ h;refine⟨⟨o,e,b.1⟩,λa j=>?_⟩;cases j;exact⟨o,e,b.2.1⟩
 |_=>exact False.elim ty
def Ib(K:Kq)(T:String)(r:V->List V->Hp->VK->Prop)(to:TE):TE:=λb H Q=>to b H λx a=>tyV K T x a/\r x [] a Q
def tBM(K:Kq)(T:String)(r:V->List V->Hp->VK->Prop)(to:TE)(t:TA):TE:=λa H Q=>to a H λx b=>tyV K T x b/\t a b λc e=>r x c e Q
variable    {t:TA}   {T id:String}{r:V->List V->Hp->VK->Prop}
def p8(l:PlainAttrs T)(slot:Slot T name id)(c:typeOf (.builtin id)=pure (.type "method_descriptor"))(u:MtR X id r)(m:PE X o to)
  (b:attributeBase o name X.env (eval o X.env)=eval o X.env:=by rfl) (a:(apos.endLine == cpos.line)=true:=by rfl):PE X (.Call (.Attribute o name apos) [] [] cpos) (Ib X.K T r to):=by
 intro p s f H Q I h;refine wpAny_Call_method0_late b a (bh (m p s f H _ I h) λv j x z i g e=>?_);obtain⟨ty,q⟩:=e;obtain⟨y,w⟩:=zI i g ty;exact⟨T,id,l,slot,c,y,w,Xy rfl (PySem.evalArgs_none (u p j f z x [] v [] Q i g .nil q))⟩
def jR(E:PlainAttrs T)(slot:Slot T name id)(i:typeOf (.builtin id)=pure (.type "method_descriptor"))(M:MtR X id r)(L:PE X o to)(N:PA X (e::es) t)
  (c:attributeBase o name X.env (eval o X.env)=eval o X.env:=by rfl)
  (f:((backTo cpos (starEach (e::es) X.env)).all (λx=>!x.1)&&(backToKw cpos (keywordEach [] X.env)).all (λx=>x.1.isSome)
   && decide ((e::es).length+([]:List Keyword).length+(if([]:List Keyword).isEmpty then 0 else 1)<30))=true:=by rfl)
  (b:(apos.endLine == cpos.line)=true:=by rfl) (J:starEach (e::es) X.env=(false,eval e X.env)::starEach es X.env:=by rfl) (a:(backTo cpos (starEach es X.env)).any (·.1)=false:=by rfl) :
  PE X (.Call (.Attribute o name apos) (e::es) [] cpos) (tBM X.K T r to t):=by
 intro p s g H Q I h;refine wpAny_Call_method_late c f b rfl (bh (L p s g H _ I h) λv z x U q l j=>?_);obtain⟨ty,C⟩:=j;obtain⟨P,O⟩:=zI q l ty;refine⟨T,id,E,slot,i,P,O,?_⟩;have m:=N cpos p z g U _ q C;rw[J]at m ⊢;refine Xy (by show(false||(backTo cpos (starEach es X.env)).any (·.1))=false;rw[a]<;>rfl) (Xn ?_);exact bh m λw y u S R A B=>M p y g S x u v w Q R l A B
end
def MtM(X:Cx)(id:String)(r:V->List V->Hp->VK->Prop):Prop:=
 ∀(p:Kp) (s:Shared) (a:St) (H:Hp) (x:V) (b:List V) (v:Value) (u:List Value) (Q:VK),Inv X p a H s->RelV x v->Vals b u->r x b H Q->
  wpAny (model X.prog X.w) X.A (call (.builtin id) (v::u)) (EP X p a Q) X.xe s
def Vals.one{x:V}(h:Vals [x] us):∃u,us=[u]/\RelV x u:=iq h
def Vals.zero:∀{us:List Value},Vals [] us->us=[]
 |_,.nil=>rfl
def Vals.dropLast(h:Vals xs us):Vals xs.dropLast us.dropLast:=by
 induction h with
 |nil=>exact .nil
 |cons r t ih=>
  cases t with
  |nil=>exact .nil
  |cons q a=>exact .cons r ih
theorem Vals.eraseIdx:∀{xs:List V}{us:List Value} (i:Nat),Vals xs us->Vals (xs.eraseIdx i) (us.eraseIdx i)
 |_,_,_,.nil=>.nil
 |_,_,0,.cons _ t=>t
 |_,_,i+1,.cons r t=>.cons r (Vals.eraseIdx i t)
def Vals.reverse(h:Vals xs us):Vals xs.reverse us.reverse:=by
 induction h with
 |nil=>exact .nil
 |cons r t ih=>rw[XA,XA];exact Vals.append ih (.cons r .nil)
theorem Vals.rep(h:Vals xs us):∀k:Nat,Vals (List.replicate k xs).flatten (List.replicate k us).flatten
 |0=>.nil
 |k+1=>by
  rw[YK,YK,Za,Za];exact Vals.append h (Vals.rep h k)
theorem uu{c:Type}(l:List c):l.eraseIdx (l.length-1)=l.dropLast:=by
 induction l with
 |nil=>rfl
 |cons a r ih=>
  cases r with
  |nil=>rfl
  |cons b r=>
   have e:(a::b::r).length-1=((b::r).length-1)+1:=by have f:(a::b::r).length=r.length+2:=rfl;have h:(b::r).length=r.length+1:=rfl;omega
   rw[e,List.eraseIdx_cons_succ,ih]
   all_goals rfl
theorem pD{a:Type}:∀(l:List a) (i:Nat),(l.eraseIdx i).length<=l.length
 |[],_=>Yy _
 |_::_,0=>Nat.le_succ _
 |_::r,i+1=>Xq (pD r i)
theorem pE(its:List Value):∀(k:Nat) (a:List Value),
  List.foldl (λx1 x2=>x1++x2) a.toArray (List.replicate k its.toArray)=(a++(List.replicate k its).flatten).toArray
 |0,a=>by simp
 |k+1,a=>by
  have e:a.toArray++its.toArray=(a++its).toArray:=by simp
  have b:(a++its)++(List.replicate k its).flatten=a++(List.replicate (k+1) its).flatten:=by rw[YK,Za,Yk]
  rw[<-b,<-pE its k (a++its),<-e,YK,XV]
section
variable      {b:Addr}{zs:List V}
def Inv.lset{its':List Value}{n:Nat}{f:Array Value->Array Value}(I:Inv X pz σ H s)(c:H l=some (.lst xs))
  (e:s.heap.get? l=some {cls:=.type "list",data:=.seq its.toArray n}) (a:f its.toArray=its'.toArray) (hv:Vals ys its') (hz:ys.length<=sizeLine) :
  Inv X pz σ (upd H l (.lst ys)) {s with heap:=s.heap.update l (Obj.mapSeq f),toks:=t' }:=by
 have q:=PySem.IsL.update e f;rw[a]at q;refine I.write (x:=l) (e:=l) (by rw[c];exact trivial) (.inl rfl) (λg u b h=>(Heap.get?_update_other s.heap (Obj.mapSeq f) (ZX b)).trans h) ⟨_,q⟩ ?_;exact⟨hz,its',_,hv,q⟩
def Inv.lnew(I:Inv X pz σ H s)(hv:Vals ys its)(hz:ys.length<=sizeLine) :
  Inv X pz σ (upd H s.heap.objs.size (.lst ys)) {s with heap:=s.heap.push {cls:=.type "list",data:=.seq its.toArray},toks:=t' }:=
 I.laid (λ_ _ q=>Yx _ q) (Yy _) ⟨hz,its,0,hv,YJ _ rfl⟩
def Inv.fresh(I:Inv X pz σ H s):H s.heap.objs.size=none:=I.hok.fresh (Yy _)
def Inv.lstM(I:Inv X pz σ H s)(h:H l=some (.lst xs)):xs.length<=sizeLine/\∃(its:List Value) (n:Nat),Vals xs its/\xs.length=its.length/\s.heap.get? l=some {cls:=.type "list",data:=.seq its.toArray n}:=by obtain⟨z,its,n,r,e⟩:=I.hok l _ h;exact⟨z,its,n,r,r.length,e⟩
theorem sE{n:Nat}(h:n<=sizeLine):Builtin.List.listTooLong n=false:=by unfold Builtin.List.listTooLong;exact Yn (by omega)
end
def CI:V->List V->Hp->VK->Prop:=λx b H Q=>∃l a y,x=.ref l/\b=[y]/\H l=some (.lst a)/\a.length<sizeLine/\Q .non (upd H l (.lst (a++[y])))
theorem gu:MtM X "list.append" CI:=by intro p s g H x m v o Q I b c h;obtain⟨l,j,y,rfl,rfl,a,w,q⟩:=h;cases b;obtain⟨u,rfl,f⟩:=c.one;obtain⟨z,i,n,r,A,e⟩:=I.lstM a;refine XB ZE ⟨_,e,rfl⟩ PySem.F.entry_list_append (PySem.F.args_list_append_2 _ _) (PySem.list_append l i.toArray n u (by rw[Yp];omega)) ⟨e,?_⟩;refine⟨.non,_,I.lset (its':=i++[u]) a e (by simp) (r.append (.cons f .nil)) ?_,rfl,q⟩;rw[Yb,ZK];omega
def Dt:V->List V->Hp->VK->Prop:=λx c H Q=>∃l b a z,x=.ref l/\c=[.ref b]/\H l=some (.lst a)/\H b=some (.lst z)/\a.length+z.length<=sizeLine/\Q .non (upd H l (.lst (a++z)))
theorem o3:MtM X "list.extend" Dt:=by
 intro M s B H x K v L Q I j m h;obtain⟨l,b,J,C,rfl,rfl,g,y,N,q⟩:=h;cases j;obtain⟨u,rfl,o⟩:=m.one;cases o;obtain⟨z,a,n,r,O,e⟩:=I.lstM g;obtain⟨E,i,n2,p,w,A⟩:=I.lstM y;have f:a.toArray.size+i.toArray.size<=sizeLine:=by rw[Yp,Yp];omega
 have c:¬(!a.toArray.isEmpty&&Builtin.List.listTooLong (a.toArray.size+i.toArray.size))=true:=by rw[sE f,Bool.and_false];exact Ym
 refine XB Xs ⟨_,e,rfl⟩ PySem.F.entry_list_extend (PySem.F.args_list_extend_2 _ _)
  (AutoSeq1.list_extend_list_list_0 l a.toArray n b i.toArray n2 c (by rw[Yp];omega) (by omega)) ⟨e,A,?_⟩
 refine⟨.non,_,I.lset (its':=a++i) g e (by simp) (r.append p) ?_,rfl,q⟩;rw[Yb];omega
def Iv:V->List V->Hp->VK->Prop:=λx b H Q=>∃l a y,x=.ref l/\b=[]/\H l=some (.lst a)/\a[a.length-1]?=some y/\Q y (upd H l (.lst a.dropLast))
theorem zJ:MtM X "list.pop" Iv:=by
 intro E s w H x B v C Q I f g h;obtain⟨l,A,y,rfl,rfl,c,m,q⟩:=h;cases f;have b:=g.zero;subst b;obtain⟨z,i,n,r,p,e⟩:=I.lstM c;obtain⟨u,o,j⟩:=r.get m;have a:i.toArray[i.toArray.size-1]?=some u:=by show i.toArray[i.length-1]?=some u;rw[<-Array.getElem?_toList,<-p];exact o
 refine XB XJ ⟨_,e,rfl⟩ PySem.F.entry_list_pop (PySem.F.args_list_pop_1 _) (MeetsSeq.list_pop_last l i.toArray n u a (by rw[Yp];omega)) ⟨e,?_⟩;refine⟨y,_,I.lset (its':=i.dropLast) c e ?_ r.dropLast ?_,j,q⟩
 ·show i.toArray.eraseIdxIfInBounds (i.toArray.size-1)=i.dropLast.toArray;rw[Yp,XD,uu]
 ·rw[List.length_dropLast];omega
def za:V->List V->Hp->VK->Prop:=λx b H Q=>∃l a,x=.ref l/\b=[]/\H l=some (.lst a)/\Q .non (upd H l (.lst a.reverse))
def uD:MtM X "list.reverse" za:=by intro p s g H x m v u Q I c f h;obtain⟨l,j,rfl,rfl,b,q⟩:=h;cases c;have a:=f.zero;subst a;obtain⟨z,i,n,r,o,e⟩:=I.lstM b;refine XB PySem.F.slot_list_reverse ⟨_,e,rfl⟩ PySem.F.entry_list_reverse (PySem.F.args_list_reverse_1 _) (AutoSeq1.list_reverse_list_0 l i.toArray n (by rw[Yp];omega)) ⟨e,?_⟩;refine⟨.non,_,I.lset (its':=i.reverse) b e (by simp) r.reverse ?_,rfl,q⟩;rw[List.length_reverse];omega
def EI:V->List V->Hp->VK->Prop:=λx b H Q=>∃l a,x=.ref l/\b=[]/\H l=some (.lst a)/\Q .non (upd H l (.lst []))
def Ao:MtM X "list.clear" EI:=by intro p s g H x m v u Q I c f h;obtain⟨l,j,rfl,rfl,b,q⟩:=h;cases c;have a:=f.zero;subst a;obtain⟨z,i,n,r,o,e⟩:=I.lstM b;refine XB PySem.F.slot_list_clear ⟨_,e,rfl⟩ PySem.F.entry_list_clear (PySem.F.args_list_clear_1 _) (AutoSeq1.list_clear_list_0 l i.toArray n (by rw[Yp];omega)) ⟨e,?_⟩;exact⟨.non,_,I.lset (its':=[]) (ys:=[]) b e rfl .nil (YS _),rfl,q⟩
def Is:R2:=λx y H Q=>∃l k a,x=.ref l/\y=.int k/\H l=some (.lst a)/\-(2^63)<=k/\k<2^63/\a.length*k.toNat<=sizeLine /\
 ∀p,H p=none->Q (.ref p) (upd H p (.lst (List.replicate k.toNat a).flatten))
def BC{a:Type}(xs:List a)(k:Nat):(List.replicate k xs).flatten.length=k*xs.length:=by
 induction k with
 |zero=>simp
 |succ k ih=>rw[YK,Za,Yb,ih,Nat.succ_mul,Nat.add_comm]
theorem EZ:OpR X (binaryOp .Mult) Is:=by
 intro P s M H x y v u Q I B A h;obtain⟨l,k,N,rfl,rfl,E,K,J,p,q⟩:=h;cases B;obtain⟨t,rfl⟩:=A;obtain⟨z,i,n,r,C,e⟩:=I.lstM E;have f:i.toArray.size*k.toNat<=sizeLine:=by rw[Yp,<-C];exact p
 have j:¬i.toArray.size*k.toNat > (2^63-1)/8:=by
  have:(sizeLine:Nat)<=(2^63-1)/8:=by decide
  omega
 have g:¬(!Builtin.List.listFitsIndex k)=true:=by rw[fitsIndex_both K J];exact Ym
 have b:¬Builtin.List.listTooLong (i.toArray.size*k.toNat)=true:=by rw[sE f];exact Ym
 have c:List.foldl (λo x2=>o++x2) #[] (List.replicate (if i.toArray.isEmpty=true then 0 else k.toNat) i.toArray)=(List.replicate k.toNat i).flatten.toArray:=by
  have L:∀m:Nat,List.foldl (λo x2=>o++x2) #[] (List.replicate m i.toArray)=(List.replicate m i).flatten.toArray:=λm=>by
   have:=pE i m [];rw[Zg]at this;exact this
  rw[L];cases i with
  |nil=>simp
  |cons a O=>rw[Yr (by simp)]
 refine wpAny_binaryOp_repeat_ref (T := "list") (U := "int") (by decide) ⟨_,e,rfl⟩ (λw=>typeIs_int w k t) noFill_list_mul PySem.F.fills_int_mul PySem.F.slot_int_rmul repeat_list PySem.F.slot_int_index.lookup
  (XB PySem.F.slot_int_rmul (typeIs_int s k t) PySem.F.entry_int_rmul (PySem.F.args_int_rmul_2 _ _) (int___rmul___int_list k t l i.toArray n)
   ⟨e,rfl,⟨_,e,rfl⟩,XB PySem.F.slot_list_mul ⟨_,e,rfl⟩ PySem.F.entry_list_mul (PySem.F.args_list_mul_2 _ _) (AutoListH.list___mul___list_int_3 l i.toArray n k t g j b) ⟨e,?_⟩⟩)
 rw[c];exact⟨.ref _,_,I.lnew (t':=s.toks) (r.rep k.toNat) (by rw[BC,Nat.mul_comm];exact p),rfl,q _ I.fresh⟩
end L2
namespace Att
open PySem PySem.W PySem.Calls PyProof.Rows
def lH{P:Params} :∀(ns:List Int) (vs:List Value),WellAll P h vs (ns.map WData.int)->IntsAre vs ns:=by
 intro ns;induction ns with
 |nil=>
  intro vs w;rw[List.map_nil]at w;cases w;exact .nil
 |cons n ns ih=>
  intro vs w;rw[List.map_cons]at w;cases w with
  |cons a b=>
   cases a;exact .cons _ _ (ih _ b)
theorem w_{l:OpenLaw}{n:Nat}(p:l.most=some n){P:Params}{args:List WData}{vals:List Value}
  (b:l.row.toRowW.claim.pre args=true) (g:WellAll P h vals args) :
  ∃a vs ns,vals=[Value.ref a]/\args=[WData.list (ns.map WData.int)]/\h.get? a=some {cls:=.type "list",data:=.seq vs.toArray}/\IntsAre vs ns/\ns.length<=n:=by
 have i:WShape.hasAll [] args [.list .int]=true:=(pre_splitW b).1;have j:l.pre.holds [] {args:=args}=true:=(pre_splitW b).2;obtain⟨d,r,rfl,x,u⟩:=hasAllW_cons i;obtain rfl:=hasAllW_nil u;obtain⟨y,rfl,s⟩:=hasW_list x;obtain⟨ns,rfl⟩:=items_int s;have c:ns.length<=n:=by
  unfold OpenLaw.pre at j;have f:(WTm.not (.lt (.lit (.int (n:Int))) (.len (.arg 0)))).holds [] {args:=[.list (ns.map .int)]}=true:=by have f:=(holds_andW j).1;rw[p]at f;exact f
  have e:=condW_of f (w_not (w_lt w_lit (w_len_list (w_arg rfl))));rw[List.length_map]at e;refine Nat.le_of_not_lt λq=>?_;have o:(n:Int)<((ns.length:Nat):Int):=by omega
  first
   |(rw[decide_eq_true o]at e;exact absurd e (by decide))
   |(simp at e;omega)
 cases g with
 |cons m w=>
  cases w;cases m with
  |list ho hall=>exact⟨_,_,ns,rfl,rfl,ho,lH ns _ hall,c⟩
def xJ(l:OpenLaw)(args:List WData):l.row.toRowW.claim.post args (.bool true) args=true:=
 postW_of (r:=l.row.toRowW) (X:=(true == true))
  (show WShape.has [] (.bool true) .bool=true by first|rfl|decide|simp[WShape.has,WShape.arms,WShape.armsAll])
  (show(WTm.eq .res (.lit (.bool true))).value [] {args:=args,res:=some (.bool true),after:=args}=some (.bool (true == true))from w_eq_bool (w_res rfl) w_lit) rfl
def attach_call{l:OpenLaw}{n:Nat}{d:DefRec}
  (E:l.most=some n) (p:d.params.defaults=[])
  (call:∀(w:World) (b s:Shared) (mg m:Str->Option Value) (fa:Addr) (o:Obj) (pm cd doc:Value) (a:Addr) (vs:List Value) (ns:List Int),
   Ground q loose [] XP w b mg m s.heap->YP w s.heap->
   s.heap.get? fa=some o->o.data=.func (docDef d.name d.params d.body d.scope pm cd doc)->s.heap.CodeRec cd d.name->mg d.name=some (.ref fa)->
   s.heap.get? a=some {cls:=.type "list",data:=.seq vs.toArray}->IntsAre vs ns->ns.length<=n->s.gens=#[]->
   codeAny (model l.prog w) callerA (.call (.ref fa) ⟨[.ref a],[]⟩) (λr s'=>r=.ok (.ret (.bool true))/\OldK s.heap s'.heap/\s'.os=s.os/\AllBare s'.gens) s) :
  WalkO q loose XP YP l.row.toRowW d [] (λf vs=>PySem.call f vs):=by
 intro w b s mg m G Y fa o pm cd doc O kV C K u y j J z vals P c x A i I;obtain rfl:O=.none:=Dflts.none y p;obtain rfl:kV=.none:=Dflts.noKw y;obtain⟨a,vs,ns,rfl,rfl,e,h,g⟩:=w_ E c i;refine enter_call (codeAny_mono (call w b s mg m fa o pm cd doc a vs ns G Y C (fd_plain K) u j e h g J) λr s' B=>?_);obtain⟨rfl,N,M,L⟩:=B;exact⟨.inl ⟨.bool true,.bool true,[],rfl,λ_=>rfl,.bool true,xJ l _,λ_=>⟨List.Pairwise.nil,λ_ H=>(nomatch H)⟩⟩,N,M,L⟩
section
variable      {K:Frag}
end
end Att
namespace L2
open PySem PySem.Spec PyProof.Rows
theorem pw:∀{vs:List Value}{ns:List Int},IntsAre vs ns->Vals (ns.map V.int) vs
 |_,_,.nil=>.nil
 |_,_,.cons n t h=>.cons ⟨t,rfl⟩ (pw h)
def B3(H:Hp):Prop:=∀b,H b=none\/∃o x,H b=some (.frz o (.lst x))
def zA{P:Program}{Q:Ks}{k:Nat}{fa:Addr}{c:Shared}{vs:List Value}{ns:List Int}
  (KX:K.In c.heap) (C:c.heap.Ns mainGlobals mg) (g:c.heap.Ns builtinsNs Q) (T:∀x:Str,x ≠ "__name__"->Q x=bootBuiltins x) (E:c.heap.NoLimit) (hg:c.gens=#[])
  (N:c.heap.get? a=some {cls:=.type "list",data:=.seq vs.toArray}) (hi:IntsAre vs ns) (Z:ns.length<=sizeLine) (hr:Room k callerA)
  (F:∀base:Heap,K.In base->base.Ns mainGlobals mg->FnOk P w K mg base CX k fa fd [x] sp) (l:∀(s:Shared) (u:Value),BindsTo s fd ⟨[u],[]⟩ [(x,u)])
  (R:∀H:Hp,B3 H->SqL K H a (ns.map V.int)->sp [.ref a] H (λv _=>v=.bl true) λ_ _ _=>False)
  (U:∀H e s',CX [] H c (λ_ _ _=>False) e s'->False) :
  codeAny (model P w) callerA (.call (.ref fa) ⟨[.ref a],[]⟩) (λr s'=>r=.ok (.ret (.bool true))/\OldK c.heap s'.heap/\s'.os=c.os/\AllBare s'.gens) c:=by
 have Y:=pw hi;have y:=hi.length
 -- from an abstract heap in which nothing but the script may be tracked
 have j:∀H:Hp,B3 H->SqL K H a (ns.map V.int)->HOk P w H c.heap->(∀b,H b≠none->b=a)->(H a≠none->K.lookup a=none)->
   codeAny (model P w) callerA (.call (.ref fa) ⟨[.ref a],[]⟩) (λr s'=>r=.ok (.ret (.bool true))/\OldK c.heap s'.heap/\s'.os=c.os/\AllBare s'.gens) c:=by
  intro H hO hS B hA hK;have f:∀{b:Addr}{o:Obj},c.heap.get? b=some o->H b=none->(rQ c.heap H).get? b=some o:=λe n=>yP e n
  have O:∀{b:Addr}{o:Obj}{J:Array DictEntry}{L:Nat},c.heap.get? b=some o->o.data=.dict J L->H b=none:=λ{b o J L} e d=>by
   cases q:H b with
   |none=>rfl
   |some u=>
    have X:b=a:=hA b (by rw[q];simp);subst X;rw[N]at e;cases e;have d':Data.seq vs.toArray _=Data.dict J L:=d;cases d'
  have i:∀{b:Addr}{m:Ks},c.heap.Ns b m->(rQ c.heap H).Ns b m:=λ{b m} ⟨o,J,L,e,d,r⟩=>⟨o,J,L,f e (O e d),d,r⟩
  have I:K.In (rQ c.heap H):=λb o e=>f (KX b o e) (by
   cases q:H b with
   |none=>rfl
   |some u=>
    have X:b=a:=hA b (by rw[q];simp);subst X;rw[hK (by rw[q];simp)]at e;cases e)
  have hM:Mod K mg (rQ c.heap H):=⟨I,i C,⟨Q,i g,T⟩,let ⟨mc,h1,h2⟩:=E;⟨mc,i h1,h2⟩⟩
  have e0:Env0 P w K mg (rQ c.heap H) callerA [] c H:=⟨rfl,hM,λb o e=>CS e,ZT (xg _ _),trivial,λb g=>absurd (show b∈([]:List Addr)from g) (by simp),B,.of_eq hg⟩
  refine codeAny_mono ((F _ I (i C)).run callerA [] c H ⟨[.ref a],[]⟩ [.ref a] [.ref a] _ _ hr e0 (l c (.ref a)) (.cons rfl .nil) (R H hO hS)) λr s' h=>?_;cases r with
  |error e=>exact(U H e s' h).elim
  |ok fl=>
   cases fl with
   |next=>exact False.elim h
   |brk=>exact False.elim h
   |cont=>exact False.elim h
   |ret u=>
    obtain⟨v,H',os,M,un,A,r',q⟩:=h;have q':v=.bl true:=q;subst q';obtain rfl:u=Value.bool true:=r';refine⟨rfl,OldK.of_keep λb o e=>?_,os,M⟩;cases q:H b with
    |none=>exact un.keep b o e q (by intro z;exact absurd (show b∈([]:List Addr)from z) (by simp)) (by simp)
    |some u=>
     rcases hO b with z|⟨ob,xs,z⟩
     ·rw[q]at z;cases z
     ·have z2:=un.frzs b ob _ z;obtain⟨e1,_⟩:=B b _ z;obtain⟨e2,_⟩:=A b _ z2;rw[e]at e1;cases e1;exact e2
 cases S:K.lookup a with
 |some o=>
  -- the script is one of the module's own objects
  have e:=KX a o S;rw[N]at e;cases e;refine j (λ_=>none) (λ_=>.inl rfl) (.inr ⟨_,vs.toArray,_,S,rfl,rfl,rfl,by rw[Yp,y];exact Z,by simpa using Y⟩) (λb u z=>by have p:(none:Option HO)=some u:=z;cases p) (λb z=>absurd rfl z) λz=>absurd rfl z
 |none=>
  refine j (λb=>if b=a then some (.frz {cls:=.type "list",data:=.seq vs.toArray} (.lst (ns.map V.int)))else none) (λb=>?_) (.inl (.inr ⟨{cls:=.type "list",data:=.seq vs.toArray},Yi rfl⟩)) (λb u z=>?_) (λb z=>?_) λ_=>S
  ·by_cases g:b=a
   ·exact .inr ⟨_,_,Yi g⟩
   ·exact .inl (Yr g)
  ·by_cases g:b=a
   ·have p:=(Yi g).symm.trans z;cases p;subst g;exact⟨N,by rw[Yc];exact Z,vs,_,Y,N⟩
   ·have p:=(Yr g).symm.trans z;cases p
  ·by_cases g:b=a
   ·exact g
   ·exact absurd (Yr g) z
def B_{l:PySem.W.OpenLaw}{n k:Nat}{d:DefRec}{K:Params->PySem.W.Frag}{CX:World->CXT}{sp:World->Sp} 
  (J:l.most=some n) (y:n<=sizeLine) (A:d.params.defaults=[]) (I:Room k callerA)
  (O:∀(w:World) (h:Heap),YP w h->(K w.params).In h)
  (F:∀(w:World) (mg:Ks) (fa:Addr) (h:Heap),(K w.params).In h->h.Ns mainGlobals mg->mg d.name=some (.ref fa)->
   ∃fd:FuncData,(∀(s:Shared) (u:Value),BindsTo s fd ⟨[u],[]⟩ [(x,u)]) /\
    ∀base:Heap,(K w.params).In base->base.Ns mainGlobals mg->FnOk l.prog w (K w.params) mg base (CX w) k fa fd [x] (sp w))
  (p:∀(w:World) (H:Hp) (a:Addr) (ns:List Int),ns.length<=n->B3 H->SqL (K w.params) H a (ns.map V.int)->sp w [.ref a] H (λv _=>v=.bl true) λ_ _ _=>False)
  (B:∀(w:World) (H:Hp) (s:Shared) (e:Value) (s':Shared),CX w [] H s (λ_ _ _=>False) e s'->False) :
  PySem.W.WalkO q loose XP YP l.row.toRowW d [] (λf vs=>PySem.call f vs):=by
 refine Att.attach_call J A λw C j mg X fa o U cd S a vs ns G Y Z hd M z m i c L=>?_;have E:=O w _ Y;obtain⟨fd,N,R⟩:=F w mg fa _ E G.T.g z;exact zA E G.T.g G.T.b G.T.builtins G.T.nolimit L m i (YQ c y) I R N (λH Q P=>p w H a ns c Q P) λH e s'=>B w H j e s'
def walk_ofK{l:PySem.W.OpenLaw}{n k:Nat}{d:DefRec}{K:Params->PySem.W.Frag}{sp:PySem.W.Frag->Sp} 
  (m:l.most=some n) (c:n<=sizeLine) (g:d.params.defaults=[]) (j:Room k callerA)
  (o:∀(w:World) (h:Heap),YP w h->(K w.params).In h)
  (F:∀(w:World) (mg:Ks) (fa:Addr) (h:Heap),(K w.params).In h->h.Ns mainGlobals mg->mg d.name=some (.ref fa)->
   ∃fd:FuncData,(∀(s:Shared) (u:Value),BindsTo s fd ⟨[u],[]⟩ [(x,u)]) /\
    ∀base:Heap,(K w.params).In base->base.Ns mainGlobals mg->FnOk l.prog w (K w.params) mg base CX k fa fd [x] (sp (K w.params)))
  (b:∀(K:Kq) (H:Hp) (a:Addr) (ns:List Int),ns.length<=n->B3 H->SqL K H a (ns.map V.int)->sp K [.ref a] H (λv _=>v=.bl true) λ_ _ _=>False)
  (i:∀(H:Hp) (s:Shared) (e:Value) (s':Shared),CX [] H s (λ_ _ _=>False) e s'->False) :
  PySem.W.WalkO q loose XP YP l.row.toRowW d [] (λf vs=>PySem.call f vs):=
 B_ (K:=K) (CX:=λ_=>CX) (sp:=λw=>sp (K w.params)) m c g j o F (λw H a ns z y p=>b (K w.params) H a ns z y p) λ_ H s e s'=>i H s e s'
def C_(s:Stmt)(j:Nat):Stmt:=match s with
 |.ClassDef _ _ _ body _ _ _ _ _ _ _=>body.getD j (.Pass ⟨0,0,0,0⟩)
 |_=>.Pass ⟨0,0,0,0⟩
def defArgs(s:Stmt):Arguments:=match s with
 |.FunctionDef _ a _ _ _ _ _ _ _ _=>a
 |_=>{posonlyargs:=[],args:=[],vararg:=none,kwonlyargs:=[],kw_defaults:=[],kwarg:=none,defaults:=[]}
def defBody(s:Stmt):List Stmt:=match s with
 |.FunctionDef _ _ b _ _ _ _ _ _ _=>b
 |_=>[]
def defScope(s:Stmt):Scope:=match s with
 |.FunctionDef _ _ _ _ _ _ sc _ _ _=>sc
 |_=>{kind:=.function,names:=[],isGenerator:=false,isCoroutine:=false}
abbrev CX0:CXT:=λ_ _ _ _ _ _=>False
abbrev E0:XK:=λ_ _ _=>False
def jW:iE CX0 X E0:=λ_ _ _ _ _ _ _ h=>h.elim
structure Fun (K:PySem.W.Frag) (x qual:Str) (st:Stmt) (f:Addr) (fd:FuncData):Prop where
 ex:∃(oc:Value) (od:Option Addr) (kV doc pm:Value) (an:Option Addr) (cdv ct:Value) (osl:Array (Option Value)),
  fd=PySem.W.fnOf x qual (defArgs st) (defBody st) (defScope st) .none kV doc pm an cdv ct/\K.lookup f=some ⟨oc,od,.func fd,osl⟩/\PySem.W.codeIn K cdv qual=true
 kp:PySem.W.keepIn K (.ref f)=true
section
variable{P:Program}    
def Fun.ok{k:Nat}(F:Fun K x qual st f fd)(S:FnScope N ps (defScope st))(len:∀vs H Q E,sp vs H Q E->vs.length=ps.length)
  (a:∀(cdv:Value) (A:Around) (outer:List Env) (s:Shared) (H:Hp) (vs:List V) (Q:VK) (E:XK),Room k (A.deeper (envOfC qual (defScope st) s.heap.objs.size f cdv))->sp vs H Q E->
   ∃t,PSs (bM CX0 P w K mg base N qual (defScope st) f cdv A outer s H E).nox (defBody st) t/\t {nx:=λ_ H'=>Q .non H',rt:=Q} (start N vs) H):FnOk P w K mg base CX0 (k+1) f fd ps sp:=by
 obtain⟨j,i,kV,g,p,u,cdv,m,o,rfl,l,c⟩:=F.ex;refine yh l c S len λA outer s H vs Q E e b=>?_;obtain⟨t,h,q⟩:=a cdv A outer s H vs Q E e b;exact⟨t,h.nox,q⟩
def Fi{oc:Value}{od an:Option Addr}{osl:Array (Option Value)}{kV doc pm cdv ct:Value}(l:K.lookup f=some ⟨oc,od,.func (PySem.W.fnOf x qual (defArgs st) (defBody st) (defScope st) .none kV doc pm an cdv ct),osl⟩)
  (c:PySem.W.codeIn K cdv qual=true) (k:PySem.W.keepIn K (.ref f)=true):Fun K x qual st f (PySem.W.fnOf x qual (defArgs st) (defBody st) (defScope st) .none kV doc pm an cdv ct):=⟨⟨oc,od,kV,doc,pm,an,cdv,ct,osl,rfl,l,c⟩,k⟩
end
def pv(i:Nat)(hN:X.N[i]?=some x:=by rfl)(hv:Vis X.env.scope x:=by first|exact Or.inl rfl|exact Or.inr (Or.inl rfl)|exact Or.inr (Or.inr rfl))(hd:nDb x:=by decide)
  (hcd:nDc x:=by decide):PE X (.Name x pos) (cf i):=yd hN hv hd hcd
def Same(H H':Hp):Prop:=∀b o,H b=some o->H' b=some o
def Same.refl(H:Hp):Same H H:=λ_ _ h=>h
def Same.trans{H1 H2:Hp}(a:Same H H1)(b:Same H1 H2):Same H H2:=λc o h=>b c o (a c o h)
def Same.free(e:Same H H')(h:H' l=Option.none):H l=Option.none:=by
 cases q:H l with
 |none=>rfl
 |some o=>
  rw[e l o q]at h;cases h
def Same.seq(e:Same H H')(h:SqL K H a xs):SqL K H' a xs:=by
 rcases h with (h|⟨o,h⟩)|h
 ·exact .inl (.inl (e _ _ h))
 ·exact .inl (.inr ⟨o,e _ _ h⟩)
 ·exact .inr h
end L2
set_option maxHeartbeats 4000000
namespace L2
open PySem PySem.Spec PyProof.Rows
def dE(cs:List (Str×Addr)):List (Str×NameKind)->List (Str×Addr)->List (Str×Addr)
 |[],acc=>acc
 |(n,k)::r,acc=>if k == .free then dE cs r ((n,(cs.lookup n).getD 0)::acc)else dE cs r acc
def u5(h:∀x∈scope.names,x.2=.free->∃c,env.cells.lookup x.1=some c):closureFor scope env=pure (dE env.cells scope.names []):=by
 have i:∀(a:List (Str×NameKind)) (b:List (Str×Addr)) (f:Str×NameKind->List (Str×Addr)->Sem (ForInStep (List (Str×Addr)))),
   (∀n k r,f (n,k) r=if k == .free then(cellOf env n>>=λc=>pure (.yield ((n,c)::r)))else pure (.yield r))->
   (∀x∈a,x.2=.free->∃c,env.cells.lookup x.1=some c)->forIn a b f=pure (dE env.cells a b):=by
  intro a;induction a with
  |nil=>intro b f _ _;rfl
  |cons x r ih=>
   intro b f m l;obtain⟨n,k⟩:=x;rw[List.forIn_cons,m];unfold dE;by_cases g:(k == NameKind.free)=true
   ·rw[Yi g,Yi g];obtain⟨c,o⟩:=l (n,k) Yf (by simpa using g);have e:cellOf env n=pure c:=by unfold cellOf;rw[o]
    rw[e,pure_bind,pure_bind,o];exact ih _ f m λy j=>l y (Ye _ j)
   ·rw[Yr g,Yr g,pure_bind];exact ih _ f m λy j=>l y (Ye _ j)
 unfold closureFor;show(forIn scope.names ([]:List (Str×Addr)) _>>=λp=>pure p)=_;rw[i scope.names [] _ (λn k r=>by
  by_cases g:(k == NameKind.free)=true
  ·simp only[g,if_true]
  ·simp only[g]) h]
 rfl
def a8{a:Type}(y n:Str)(c:a)(l:List (Str×a)):((n,c)::l).lookup y=if y=n then some c else l.lookup y:=by
 rw[List.lookup_cons];by_cases h:y=n
 ·subst h;simp
 ·have:(y == n)=false:=by simpa using h
  rw[this,Yr h]
theorem dU:∀(names:List (Str×NameKind)) (a:List (Str×Addr)) (y:Str) (c:Addr),
  (∀x∈names,x.2=.free->∃c,cs.lookup x.1=some c)->(∀y c,a.lookup y=some c->cs.lookup y=some c)->(dE cs names a).lookup y=some c->cs.lookup y=some c
 |[],a,y,c,_,h,e=>h y c e
 |(n,k)::r,a,y,c,hx,h,e=>by
  unfold dE at e;have i:∀x∈r,x.2=.free->∃c,cs.lookup x.1=some c:=λx j=>hx x (Ye _ j)
  by_cases f:(k == NameKind.free)=true
  ·rw[Yi f]at e;refine dU r _ y c i (λz d b=>?_) e;obtain⟨l,g⟩:=hx (n,k) Yf (by simpa using f);rw[a8]at b;split at b
   ·rename_i q;subst q;cases b;rw[g];rfl
   ·exact h z d b
  ·rw[Yr f]at e;exact dU r a y c i h e
theorem gQ:∀(names:List (Str×NameKind)) (a:List (Str×Addr)) (y:Str) (c:Addr),
  (dE cs names a).lookup y=some c->(y,NameKind.free)∈names\/a.lookup y=some c
 |[],a,y,c,e=>.inr e
 |(n,k)::r,a,y,c,e=>by
  unfold dE at e;by_cases b:(k == NameKind.free)=true
  ·rw[Yi b]at e;have h:k=.free:=by simpa using b
   rcases gQ r _ y c e with q|q
   ·exact .inl (Ye _ q)
   ·rw[a8]at q;split at q
    ·rename_i z;subst z;subst h;exact .inl Yf
    ·exact .inr q
  ·rw[Yr b]at e;rcases gQ r a y c e with q|q
   ·exact .inl (Ye _ q)
   ·exact .inr q
theorem gX:∀(names:List (Str×NameKind)) (a:List (Str×Addr)) (y:Str),
  ((y,NameKind.free)∈names\/∃c,a.lookup y=some c)->∃c,(dE cs names a).lookup y=some c
 |[],a,y,h=>h.elim (λz=>by cases z) id
 |(n,k)::r,a,y,h=>by
  unfold dE;by_cases b:(k == NameKind.free)=true
  ·rw[Yi b];refine gX r _ y ?_;rcases h with h|⟨c,h⟩
   ·rcases YB.mp h with q|q
    ·cases q;exact .inr ⟨_,by rw[a8,Yi rfl]⟩
    ·exact .inl q
   ·refine .inr ?_;by_cases q:y=n
    ·exact⟨_,by rw[a8,Yi q]⟩
    ·exact⟨c,by rw[a8,Yr q];exact h⟩
  ·rw[Yr b];refine gX r a y ?_;rcases h with h|h
   ·rcases YB.mp h with q|q
    ·cases q;exact absurd rfl b
    ·exact .inl q
   ·exact .inr h
theorem rE:∀(names:List (Str×NameKind)) (h:Heap) (a:List (Str×Addr)) (y:Str) (c:Addr),(cellsFrom h.objs.size names a).lookup y=some c->
  (h.objs.size<=c/\(pushCells h names).IsCell c none/\(y,NameKind.cell)∈names)\/a.lookup y=some c
 |[],_,_,_,_,e=>.inr e
 |(n,k)::r,h,a,y,c,e=>by
  unfold cellsFrom at e;unfold pushCells;by_cases j:(k == NameKind.cell)=true
  ·rw[Yi j]at e ⊢;have i:k=.cell:=by simpa using j
   have l:(h.push {cls:=.type "cell",data:=.cell none}).objs.size=h.objs.size+1:=XI ..;rw[<-l]at e;rcases rE r _ _ y c e with⟨g,f,b⟩|q
   ·exact .inl ⟨by rw[l]at g;omega,f,Ye _ b⟩
   ·rw[a8]at q;split at q
    ·rename_i z;subst z;cases q;subst i;exact .inl ⟨Yy _,⟨_,XW r _ _ _ (YJ _ rfl),rfl⟩,Yf⟩
    ·exact .inr q
  ·rw[Yr j]at e ⊢;rcases rE r h a y c e with⟨g,f,b⟩|q
   ·exact .inl ⟨g,f,Ye _ b⟩
   ·exact .inr q
theorem u7{y:Str}:∀(names:List (Str×NameKind)) (n:Nat) (a:List (Str×Addr)),(∀k,(y,k)∈names->k≠.cell)->(cellsFrom n names a).lookup y=a.lookup y
 |[],_,_,_=>rfl
 |(m,k)::r,n,a,h=>by
  unfold cellsFrom;have c:∀k,(y,k)∈r->k≠.cell:=λk b=>h k (Ye _ b)
  by_cases b:(k == NameKind.cell)=true
  ·rw[Yi b,u7 r _ _ c,a8,Yr];rintro rfl;exact h k Yf (by simpa using b)
  ·rw[Yr b];exact u7 r n a c
theorem uh:∀(names:List (Str×NameKind)) (n:Nat) (f:List (Str×Addr)),(∀y c,f.lookup y=some c->c<n)->(∀y z c,f.lookup y=some c->f.lookup z=some c->y=z)->
  ∀y z c,(cellsFrom n names f).lookup y=some c->(cellsFrom n names f).lookup z=some c->y=z
 |[],_,_,_,h=>h
 |(m,k)::r,n,f,hlt,h=>by
  unfold cellsFrom;by_cases i:(k == NameKind.cell)=true
  ·rw[Yi i];refine uh r (n+1) _ (λy c e=>?_) λy z c e g=>?_
   ·rw[a8]at e;split at e
    ·cases e;exact Xp _
    ·exact Xj (hlt y c e)
   ·rw[a8]at e g;split at e<;>split at g
    ·rename_i a b;rw[a,b]
    ·cases e;exact absurd (hlt z _ g) (Zn _)
    ·cases g;exact absurd (hlt y _ e) (Zn _)
    ·exact h y z c e g
  ·rw[Yr i];exact uh r n f hlt h
def iJ(env:Env)(scope:Scope)(C:Addr):Env:=
 {scope:=relabel scope env,locals:=C,globals:=env.globals,cells:=cellsFrom (C+1) scope.names (dE env.cells scope.names []),qual:=env.qual,func:=none,code:=env.code,frame:=env.frame,builtins:=env.builtins}
def blk(X:Cx)(scope:Scope)(N:List Str)(s:Shared)(H:Hp)(fp:List Addr)(pz:Kp):Cx where
 prog:=X.prog
 w:=X.w
 K:=X.K
 mg:=X.mg
 base:=X.base
 A:=X.A
 N:=N
 s₀:=s
 H₀:=H
 env:=iJ X.env scope s.heap.objs.size
 outer:=X.stack
 stack:=X.stack
 ex:=fp
 fn:=λx=>scope.names.lookup x == some .local||scope.names.lookup x == some .cell
 calm:=X.calm
 pn:=X.pn++pz
 xe:=λ_ _=>False
structure BlkScope (X:Cx) (scope:Scope):Prop where
 kind:scope.kind=.function
 nd:(scope.names.map (·.1)).Nodup
 free:∀x∈scope.names,x.2=.free->X.env.kindOf x.1=some .cell\/X.env.kindOf x.1=some .free
theorem gf{b:Type}:∀{l:List (Str×b)}{n:Str}{c:b},(l.map (·.1)).Nodup->(n,c)∈l->l.lookup n=some c
 |[],_,_,_,h=>by cases h
 |(k,v)::r,n,c,nd,h=>by
  rw[a8];rcases YB.mp h with q|q
  ·cases q;rw[Yi rfl]
  ·have a:=YF.mp nd;rw[Yr]
   ·exact gf a.2 q
   ·rintro rfl;exact a.1 (Yt.mpr ⟨_,q,rfl⟩)
theorem jE:∀(names:List (Str×NameKind)),
  (names.map λ(n,k)=>if(k == NameKind.free&&env.scope.kind == .function&&env.kindOf n == some .cell)then(n,NameKind.cell)else(n,k)).lookup x =
   (names.lookup x).map λk=>if(k == NameKind.free&&env.scope.kind == .function&&env.kindOf x == some .cell)then NameKind.cell else k
 |[]=>rfl
 |(n,k)::r=>by
  show List.lookup x ((if(k == NameKind.free&&env.scope.kind == .function&&env.kindOf n == some .cell)=true then(n,NameKind.cell)else(n,k))::_)=_;have e:(if(k == NameKind.free&&env.scope.kind == .function&&env.kindOf n == some .cell)=true then(n,NameKind.cell)else(n,k)) =
    (n,if(k == NameKind.free&&env.scope.kind == .function&&env.kindOf n == some .cell)=true then NameKind.cell else k):=by split<;>rfl
  rw[e,a8,a8];split
  ·rename_i q;subst q;rfl
  ·exact jE r
def nI(x:Str):(iJ env scope C).kindOf x =
  (scope.names.lookup x).map λk=>if(k == NameKind.free&&env.scope.kind == .function&&env.kindOf x == some .cell)then NameKind.cell else k:=jE scope.names
def BlkScope.cl(b:BlkScope X scope)(ok:X.Ok):∀x∈scope.names,x.2=.free->∃c,X.env.cells.lookup x.1=some c:=λx h e=>ok.has x.1 (b.free x h e)
theorem gC(b:BlkScope X scope)(I:Inv X pz σ H s){y:Str}{c:Addr}(e:(iJ X.env scope s.heap.objs.size).cells.lookup y=some c) :
  (s.heap.objs.size<c/\(pushCells (s.heap.push {cls:=.type "dict",data:=.dict #[]}) scope.names).IsCell c none/\(y,NameKind.cell)∈scope.names)\/(X.env.cells.lookup y=some c/\(y,NameKind.free)∈scope.names):=by
 have a:(s.heap.push {cls:=.type "dict",data:=.dict #[]}).objs.size=s.heap.objs.size+1:=XI ..;have j:(cellsFrom (s.heap.push {cls:=.type "dict",data:=.dict #[]}).objs.size scope.names (dE X.env.cells scope.names [])).lookup y=some c:=by rw[a];exact e
 rcases rE _ _ _ _ _ j with⟨i,g,f⟩|h
 ·exact .inl ⟨by rw[a]at i;omega,g,f⟩
 ·refine .inr ⟨dU _ _ y c (b.cl I.ok) (λ_ _ z=>by cases z) h,?_⟩;rcases gQ _ _ _ _ h with q|q
  ·exact q
  ·cases q
def Ex(b:BlkScope X scope)(I:Inv X pz σ H s)(j:∀a∈fp,kQ X pz H a)(g:∀a∈fp,a<s.heap.objs.size):(blk X scope N s H fp pz).Ok:=by
 have m:∀y c,X.env.cells.lookup y=some c->c<s.heap.objs.size:=λy c e=>by obtain⟨v,q⟩:=I.cell y c e;exact q.lt
 refine⟨I.ok.mod,b.kind,I.ok.glob,I.ok.blt,Yy _,λx y c e C=>?_,λx l=>?_,λx c l e=>?_,I.ok.hd,I.ok.frames,.inl rfl,λa f=>⟨YN (g a f),λx c e=>?_⟩,I.bs,YQ I.ok.bsz I.sz,λa o e f=>?_,λa f=>?_,I.stack,I.stkFree⟩
 ·refine uh scope.names (s.heap.objs.size+1) _ (λy c q=>?_) (λy z c q p=>?_) x y c e C
  ·exact Xj (m y c (dU _ _ y c (b.cl I.ok) (λ_ _ z=>by cases z) q))
  ·exact I.ok.inj y z c (dU _ _ y c (b.cl I.ok) (λ_ _ z=>by cases z) q) (dU _ _ z c (b.cl I.ok) (λ_ _ z=>by cases z) p)
 ·have h:(iJ X.env scope s.heap.objs.size).kindOf x=some .cell\/(iJ X.env scope s.heap.objs.size).kindOf x=some .free:=l;rw[nI]at h;show ∃c,(cellsFrom (s.heap.objs.size+1) scope.names (dE X.env.cells scope.names [])).lookup x=some c;cases q:scope.names.lookup x with
  |none=>rw[q]at h;rcases h with z|z<;>cases z
  |some k=>
   have u:(x,k)∈scope.names:=Zr q;cases k with
   |cell=>exact ZQ.mp (ZY scope.names _ _ (.inl q))
   |free=>
    obtain⟨c,w⟩:=gX (cs:=X.env.cells) scope.names [] x (.inl u);exact ZQ.mp (ZY scope.names _ _ (.inr (by rw[w];rfl)))
   |_=>rw[q]at h;exfalso;revert h;simp
 ·rcases gC b I e with⟨i,_,_⟩|⟨_,B⟩
  ·exact ZB i
  ·exfalso;have q:=gf b.nd B;have h:(scope.names.lookup x == some .local||scope.names.lookup x == some .cell)=true:=l;rw[q]at h;revert h;decide
 ·rcases gC b I e with⟨i,_,_⟩|⟨i,_⟩
  ·intro z;subst z;exact absurd (Xd (g _ f) i) (Zn _)
  ·exact(j a f).2.2.2.2.1 x c i
 ·have A:=(j a f).2.2.2.1;rcases A with z|z
  ·exact I.ok.noex a o e z
  ·exact absurd (Yv (YD e) (YQ I.ok.bsz z)) (Zn _)
 ·intro z;rcases YB.mp (I.stkSub a z)with q|q
  ·exact(j a f).2.1 q
  ·exact(j a f).2.2.1 q
def eW(own:Nat)(ix:List Nat)(σ:St):St:=List.replicate own none++ix.map λj=>(σ[j]?).join
def iX(own:Nat)(ix:List Nat)(σ:St):(eW own ix σ).length=own+ix.length:=by unfold eW;rw[Yb,Yo,Yc]
theorem pL{own:Nat}{v:V}(h:(eW own ix σ)[i]?=some (some v)):own<=i/\∃j,ix[i-own]?=some j/\σ[j]?=some (some v):=by
 unfold eW at h;by_cases b:i<own
 ·rw[ZA (by rw[Yo];exact b),ZV,Yi b]at h;cases h
 ·rw[Zv (by rw[Yo];omega),Yo,YG]at h;refine⟨by omega,?_⟩;cases q:ix[i-own]? with
  |none=>rw[q]at h;cases h
  |some j=>
   rw[q]at h;refine⟨j,rfl,?_⟩;cases a:σ[j]? with
   |none=>rw[ZC,a]at h;cases h
   |some o=>
    rw[ZC,a]at h;cases o with
    |none=>cases h
    |some c=>rw[Option.join_some]at h;cases h;rfl
structure Caps (X:Cx) (scope:Scope) (N:List Str) (own:Nat) (ix:List Nat):Prop where
 len:N.length=own+ix.length
 cap:∀(i:Nat) (j:Nat) (x:Str),N[own+i]?=some x->ix[i]?=some j->X.N[j]?=some x/\scope.names.lookup x=some .free
theorem xF{own:Nat}(b:BlkScope X scope)(cp:Caps X scope N own ix)(I:Inv X pz σ H s)(Q:∀a∈fp,kQ X pz H a)(A:∀a∈fp,a<s.heap.objs.size) :
  Inv (blk X scope N s H fp pz) [] (eW own ix σ) H {s with heap:=pushCells (s.heap.push {cls:=.type "dict",data:=.dict #[]}) scope.names}:=by
 have f:∀a o,s.heap.get? a=some o->(pushCells (s.heap.push {cls:=.type "dict",data:=.dict #[]}) scope.names).get? a=some o:=λa o e=>XW _ _ a o (Yx _ e)
 refine⟨Ex b I Q A,rfl,I.bare,Un.kept f,⟨_,(Heap.Ns.new s.heap (.type "dict")).keeps (XW _ _),λi x v e1 Z e3=>?_⟩,λy c e=>?_,I.fresh,λy c e=>?_,λp O=>?_,I.hok.kept f,?_⟩
 ·obtain⟨ho,j,U,T⟩:=pL Z;have E:N[own+(i-own)]?=some x:=by rw[show own+(i-own)=i by omega];exact e1
  obtain⟨R,h⟩:=cp.cap (i-own) j x E U;obtain⟨m,hn,P⟩:=I.loc;have C:X.env.kindOf x=some .cell\/X.env.kindOf x=some .free:=b.free (x,.free) (Zr h) rfl;have M:Vis X.env.scope x:=C.elim (λz=>.inr (.inl z)) λz=>.inr (.inr z)
  obtain⟨u,r,L⟩:=P j x v R T M;refine⟨u,r,.inr ⟨?_,?_⟩⟩
  ·show(iJ X.env scope s.heap.objs.size).kindOf x=some .cell\/(iJ X.env scope s.heap.objs.size).kindOf x=some .free;rw[nI,h];show some (if _ then NameKind.cell else NameKind.free)=some .cell\/some (if _ then NameKind.cell else NameKind.free)=some .free;split
   ·exact .inl rfl
   ·exact .inr rfl
  ·rcases L with⟨k,_⟩|⟨_,c,Y,z⟩
   ·rw[k]at C;rcases C with z|z<;>cases z
   ·refine⟨c,?_,z.keeps f⟩;show(cellsFrom (s.heap.objs.size+1) scope.names (dE X.env.cells scope.names [])).lookup x=some c;rw[u7]
    ·obtain⟨c',g⟩:=gX (cs:=X.env.cells) scope.names [] x (.inl (Zr h));have:=dU _ _ x c' (b.cl I.ok) (λ_ _ z=>by cases z) g;rw[Y]at this;cases this;exact g
    ·intro k B z;rw[gf b.nd B]at h;cases h;cases z
 ·rcases gC b I e with⟨_,S,_⟩|⟨l,_⟩
  ·exact⟨_,S⟩
  ·obtain⟨v,z⟩:=I.cell y c l;exact⟨v,z.keeps f⟩
 ·rcases gC b I e with⟨l,_,_⟩|⟨l,_⟩
  ·exact I.hok.fresh (ZB l)
  ·exact I.freeC y c l
 ·have w:p∈X.pn++pz:=by
   have:p∈(X.pn++pz)++[]:=O
   rwa [Yg]at this
  obtain⟨e,n,K,J,d⟩:=I.pin p w;refine⟨f _ _ e,n,YN (YD e),λz=>?_,d⟩;rcases YB.mp (I.stkSub p.1 z)with q|q
  ·exact K q
  ·exact J q
 ·rw[iX];exact cp.len.symm
def AG{σ':St}(I:Inv X pz σ H s)(m:∀a∈fp,kQ X pz H a)(J:Inv (blk X scope N s H fp pz) pl σ' H' s')(b:Heap.SameBut s.heap.objs.size s'.heap h') :
  Inv X pz σ H' {s' with heap:=h' }:=by
 have i:H' s.heap.objs.size=none:=J.free;have f:∀a o,s.heap.get? a=some o->a≠s.heap.objs.size:=λa o e=>YN (YD e)
 have u:Un (frs X.stack) fp H H' s.heap s'.heap:=J.base;refine I.call' (ch:=fp) (s':={s' with heap:=h' }) J.os ⟨λa o e n g h=>(b.2 a (f a o e)).trans (u.keep a o e n g h),λa o e n g h=>?_,λa o e n h=>u.free a o e n h,λa o e h=>?_,u.tups,u.frzs,u.tbls⟩ (λa o e=>?_) J.bare λa p=>?_
 ·obtain⟨j,q⟩:=u.slot a o e n g h;exact⟨j,(b.2 a (f a o e)).trans q⟩
 ·obtain⟨l,q⟩:=u.there a o e h;exact⟨l,(b.2 a (f a o e)).trans q⟩
 ·refine(J.hok a o e).stay (λc v hc q=>(b.2 c ?_).trans q) (λ_ q=>q) λ_ _ q=>q;rintro rfl;rcases hc with rfl|hc
  ·rw[i]at e;cases e
  ·rw[i]at hc;cases hc
 ·obtain⟨_,h,_,y,x,w⟩:=m a p;exact⟨y,h,x,w⟩
def yt{pl:Kp}{H':Hp}(b:BlkScope X scope)(I:Inv X pz σ H s)(l:∀a∈fp,kQ X pz H a)(h:∀a∈fp,a<s.heap.objs.size)(j:∀a∈fp,H' a=none) :
  ∀a∈fp,kQ (blk X scope N s H fp pz) [] H' a:=λa f=>by
 obtain⟨_,w,u,y,o,m⟩:=l a f;refine⟨j a f,YN (h a f),λz=>?_,.inl f,λx c e=>?_,λp i=>?_⟩
 ·rcases YB.mp (I.stkSub a z)with q|q
  ·exact w q
  ·exact u q
 ·rcases gC b I e with⟨q,_,_⟩|⟨q,_⟩
  ·intro z;subst z;exact absurd (Xd (h _ f) q) (Zn _)
  ·exact o x c q
 ·have g:p∈X.pn++pz:=by
   have:p∈(X.pn++pz)++[]:=i
   rwa [Yg]at this
  exact m p g
def uH{M:Model}{Q:Env->Shared->Prop}(cl:List (Str×Addr))
  (h:∀c:Env,c={scope:=scope,locals:=s.heap.objs.size,globals:=env.globals,cells:=cellsFrom (s.heap.objs.size+1) scope.names cl,qual:=env.qual,func:=none,code:=env.code,frame:=env.frame,builtins:=env.builtins}->
   Q c {s with heap:=pushCells (s.heap.push {cls:=.type "dict",data:=.dict #[]}) scope.names}) :
  wpAny M A (newFunctionEnv scope env.globals cl [] env.qual none .none (some env)) Q E s:=by
 simp only[newFunctionEnv,Option.isSome_some,if_true];refine Yq (wpAny_alloc ?_);refine Yq (wpAny_layCells _ (λe a cells=>by cases b:a == NameKind.cell<;>simp[b]) _ _ _ _ ?_);rw[show({s with heap:=s.heap.push {cls:=.type "dict",data:=.dict #[]} }:Shared).heap.objs.size=s.heap.objs.size+1 from XI ..];refine Yq ?_;rw[List.forIn_nil];exact YR (YR (h _ rfl))
def wF{R:Kr}{a:Expr}{it q:Value}(I:Nat->Shared->Prop)
  (turn:∀n s,I n s->wpAny (model prog w) A (pyNext it) (λr b=>match r with
   |none=>R (.ok .next) b
   |some v=>wpAny (model prog w) A (letOwnedTupleGo a it v) (λ_ b=>wpAny (model prog w) A (assign a env v) (λ_ l=>
     wpAny (model prog w) A (forIn ifs true λc r=>if r=true then do let ok <-isTrue c env (eval c env);pure (ForInStep.yield ok)else pure (ForInStep.yield r)) (λok f=>
      if ok=true then wpAny (model prog w) A (eval elt env) (λx j=>
       wpAny (model prog w) A (call (.builtin "list.append") [q,x]) (λ_ i=>∃m,m<n/\I m i) (λ_ _=>False) j) (λ_ _=>False) f
      else ∃m,m<n/\I m f) (λ_ _=>False) l) (λ_ _=>False) b) (λ_ _=>False) b) (λ_ _=>False) s)
  (n:Nat) (h:I n s) :
  codeAny (model prog w) A (.compLoop (.ListComp elt [⟨a,iter,ifs,0⟩] scope pos) 0 it q env) R s:=by
 refine codeAny_loop rfl I (λn s C=>?_) n h;show wpAny _ A ((compTurn (.ListComp elt [⟨a,iter,ifs,0⟩] scope pos) 0 it q env).onRaise (λx=>do noteFrame x env;theTreesLotGoes x)) _ _ s;refine wpAny_noted ?_;rw[compTurn_list];refine Yq (wpAny_standAt (Yq (Zx (turn n s C) (λr b o=>?_) λ_ _ g=>g.elim)));cases r with
 |none=>exact YR o
 |some v=>
  refine Yq (Zx o (λ_ B p=>?_) λ_ _ g=>g.elim);refine Yq (Zx p (λ_ l z=>Yq (Zx z (λok f e=>?_) λ_ _ g=>g.elim)) λ_ _ g=>g.elim);cases ok with
  |true=>
   rw[Yi rfl]at e;simp only[if_true];exact Yq (Yq (Zx e (λx j y=>Yq (Zx y (λ_ i u=>YR (YR ⟨rfl,u⟩)) λ_ _ g=>g.elim)) λ_ _ g=>g.elim))
  |false=>
   rw[Yr Ym]at e;simp only[XZ,if_false];exact YR ⟨rfl,e⟩
def IZ:TT:=λ_ H Q=>Q true H
def xR(X:Cx)(ifs:List Expr)(t:TT):Prop:=
 ∀(p:Kp) (s:Shared) (a:St) (H:Hp) (Q:Bool->Hp->Prop),Inv X p a H s->t a H Q->
  wpAny (model X.prog X.w) X.A (forIn ifs true λc r=>if r=true then do let ok <-isTrue c X.env (eval c X.env);pure (ForInStep.yield ok)else pure (ForInStep.yield r)) (TP X p a Q) X.xe s
def zn:xR X [] IZ:=λ_ _ _ H _ I h=>YR ⟨H,I,h⟩
def D2(own:Nat)(ix:List Nat)(wi:TI)(g:TG)(tc:TT)(te:TE):TE:=λh H Q=>wi h H λJ q=>∀a,q a=none->∃W:Nat->Nat->List V->Hp->Prop,
 (∃m,W 0 m [] (upd q a (.lst [])))/\∀i m c H,W i m c H->
  (J.stop i H/\Q (.ref a) H)\/(J.go i H/\∃N:List V->Hp->Prop,(∀e f,N e f->∃l,l < m/\W (i+1) l e f)/\∀x f,J.yld i H x f->g x (eW own ix h) f λb s=>
   (b.length=own+ix.length/\∀(j:Nat) v,(eW own ix h)[j]?=some (some v)->b[j]?=some (some v)) /\
   tc b s λok p=>if ok=true then te b p λy o=>o a=some (.lst c)/\c.length<sizeLine/\N (c++[y]) (upd o a (.lst (c++[y])))else N c p)
section
variable       {own:Nat}  {wi:TI}{g:TG}  
theorem uG{Q:VK}{itv:Value}{RR:Value->Addr->Result->Shared->Prop}(hcalm:X.calm=true)(b:BlkScope X scope)(cp:Caps X scope N own ix)
  (hg:∀s H fp pz,PG (blk X scope N s H fp pz) tg g) (hc:∀s H fp pz,xR (blk X scope N s H fp pz) ifs tc) (he:∀s H fp pz,PE (blk X scope N s H fp pz) elt te)
  (hp:PIE X pz σ tg (λJ H1=>∀c,H1 c=none->∃W:Nat->Nat->List V->Hp->Prop,
   (∃m,W 0 m [] (upd H1 c (.lst [])))/\∀i m ys H,W i m ys H->
    (J.stop i H/\Q (.ref c) H)\/(J.go i H/\∃N:List V->Hp->Prop,(∀Z H',N Z H'->∃m',m' < m/\W (i+1) m' Z H')/\∀x H',J.yld i H x H'->g x (eW own ix σ) H' λK H2=>
     (K.length=own+ix.length/\∀(j:Nat) v,(eW own ix σ)[j]?=some (some v)->K[j]?=some (some v)) /\
     tc K H2 λok l=>if ok=true then te K l λy H4=>H4 c=some (.lst ys)/\ys.length<sizeLine/\N (ys++[y]) (upd H4 c (.lst (ys++[y])))else N ys l)) itv s)
  (hR:∀(f:Shared) (l:Hp) (fp:List Addr) (c:Addr) (σ':St) (H':Hp) (s':Shared),Inv X pz σ l f->(∀a∈fp,kQ X pz l a)->Inv (blk X scope N f l fp pz) [] σ' H' s'->Q (.ref c) H'->RR (.ref c) f.heap.objs.size (.ok .next) s') :
  wpAny (model X.prog X.w) X.A (newList []) (λc s₃=>wpAny (model X.prog X.w) X.A (newFunctionEnv scope X.env.globals (dE X.env.cells scope.names []) [] X.env.qual none .none (some X.env)) (λI s₄=>
   codeAny (model X.prog X.w) X.A (.compStart (.ListComp elt [⟨tg,iter,ifs,0⟩] scope pos) 0 itv c {I with scope:=relabel scope X.env}) (RR c I.locals) s₄) E s₃) E s:=by
 obtain⟨it,fp,tn,J,H1,rfl,I1,T,st1,f1,hacc⟩:=hp;refine wpAny_newObj_type ?_
 -- the list
 have Y:Inv X pz σ (upd H1 s.heap.objs.size (.lst [])) {s with heap:=s.heap.push {cls:=.type "list",dict:=none,data:=.seq ([]:List Value).toArray} }:=I1.lnew (ys:=[]) (its:=[]) .nil (YS _);generalize hs3:({s with heap:=s.heap.push {cls:=.type "list",dict:=none,data:=.seq ([]:List Value).toArray} }:Shared)=f at Y ⊢;have kp3:∀a o,s.heap.get? a=some o->f.heap.get? a=some o:=λa o e=>by rw[<-hs3];exact Yx _ e
 have st3:tn 0 f.heap:=T.keep _ _ _ st1 λa _ o e=>kp3 a o e
 have lt1:∀a∈fp,a<s.heap.objs.size:=λa B=>by obtain⟨o,e,_⟩:=T.obj _ _ st1 a B;exact YD e
 have U:∀a∈fp,kQ X pz (upd H1 s.heap.objs.size (.lst [])) a:=λa B=>⟨by rw[ax (YN (lt1 a B))];exact(f1 a B).1,(f1 a B).2⟩
 have P:∀a∈fp,a<f.heap.objs.size:=λa B=>by obtain⟨o,e,_⟩:=T.obj _ _ st3 a B;exact YD e
 obtain⟨W,⟨m0,w0⟩,L⟩:=hacc s.heap.objs.size I1.fresh;generalize hH3:upd H1 s.heap.objs.size (.lst [])=l at Y U w0;generalize hacc':s.heap.objs.size=c at w0 L ⊢;refine uH _ λI hc'=>?_;subst hc';have J0:=xF (N:=N) (fp:=fp) b cp Y U P;have st4:tn 0 (pushCells (f.heap.push {cls:=.type "dict",data:=.dict #[]}) scope.names):=T.keep _ _ _ st3 λa _ o e=>XW _ _ a o (Yx _ e)
 generalize hs4:({f with heap:=pushCells (f.heap.push {cls:=.type "dict",data:=.dict #[]}) scope.names}:Shared)=s4 at J0 ⊢;have M:tn 0 s4.heap:=by rw[<-hs4];exact st4
 -- the C
 have C:codeAny (model X.prog X.w) X.A (.compLoop (.ListComp elt [⟨tg,iter,ifs,0⟩] scope pos) 0 (.ref it) (.ref c) (iJ X.env scope f.heap.objs.size)) (RR (.ref c) f.heap.objs.size) s4:=by
  refine wF (λn s'=>∃i ys H',Inv (blk X scope N f l fp pz) [] (eW own ix σ) H' s'/\tn i s'.heap/\(∀a∈fp,H' a=none)/\W i n ys H') ?_ m0 ⟨0,[],l,J0,M,λa B=>(U a B).1,w0⟩;rintro n s5 ⟨i,ys,H5,J5,st5,fr5,w5⟩;have fp5:=yt (pl:=[]) (N:=N) b Y U P fr5;rcases L i n ys H5 w5 with⟨stop,q⟩|⟨go,NN,hN,step⟩
  ·refine thn (T.done (blk X scope N f l fp pz) rfl rfl rfl hcalm i [] s5 _ H5 _ J5 fp5 st5 stop) λr s6 ⟨hr,J6⟩=>?_;subst hr;exact hR f l fp c _ H5 s6 Y U J6 q
  ·refine thn (T.item (blk X scope N f l fp pz) rfl rfl rfl hcalm i [] s5 _ H5 _ J5 fp5 st5 go) λr s6 ⟨u,hr,h6⟩=>?_;subst hr;refine thn h6 λ_ s7 h=>?_;obtain⟨x,H7,J7,r7,y7,O,fr7⟩:=h;have fp7:=yt (pl:=[]) (N:=N) b Y U P fr7;have J7':=J7.pinned fp7 (T.obj _ _ O);have back:∀{p:St}{R:Hp}{S:Shared}{zs:List V},Inv (blk X scope N f l fp pz) ([]++mr fp s7.heap) p R S->(p.length=own+ix.length/\∀(j:Nat) v,(eW own ix σ)[j]?=some (some v)->p[j]?=some (some v))->NN zs R->
     ∃m,m<n/\∃i ys H',Inv (blk X scope N f l fp pz) [] (eW own ix σ) H' S/\tn i S.heap/\(∀a∈fp,H' a=none)/\W i m ys H':=λ{p R S zs} J8 hw n8=>by
    obtain⟨m',hm,w8⟩:=hN zs R n8;refine⟨m',hm,i+1,zs,R,(J8.unpinned).weak (by rw[iX,hw.1]) hw.2,T.keep _ _ _ O λa B o e=>(J8.pin (a,o) (YX _ (YX _ (gY B e)))).1,λa B=>?_,w8⟩;obtain⟨o,e,d⟩:=T.obj _ _ O a B;exact(J8.pin (a,o) (YX _ (YX _ (gY B e)))).2.1
   refine thn (hg f l fp pz _ s7 _ H7 x u _ J7' r7 (step x H7 y7)) λ_ S h=>?_;obtain⟨p,R,J8,hw,q8⟩:=h;refine thn (hc f l fp pz _ S p R _ J8 q8) λok s9 h=>?_;obtain⟨H9,J9,q9⟩:=h;cases ok with
   |false=>
    rw[Yr Ym]at q9 ⊢;exact back J9 hw q9
   |true=>
    rw[Yi rfl]at q9 ⊢;refine thn (he f l fp pz _ s9 p H9 _ J9 q9) λy s10 h=>?_;obtain⟨z,H10,J10,rz,e10,hlt,n10⟩:=h;refine thn (gu (X:=blk X scope N f l fp pz) _ s10 p H10 (.ref c) [z] (.ref c) [y] (λv H'=>v=.non/\H'=upd H10 c (.lst (ys++[z]))) J10 rfl (.cons rz .nil) ⟨c,ys,z,rfl,rfl,e10,hlt,rfl,rfl⟩) λ_ s11 h=>?_;obtain⟨_,H11,J11,_,_,e11⟩:=h;subst e11;exact back J11 hw n10
 subst hs4;exact codeAny_compStart_list C (T.self _ _ _ _ _ M C)
def Bb(hcalm:X.calm=true)(b:BlkScope X scope)(cp:Caps X scope N own ix)(hi:PI X tg iter wi)
  (o:∀s H fp pz,PG (blk X scope N s H fp pz) tg g) (p:∀s H fp pz,xR (blk X scope N s H fp pz) ifs tc) (he:∀s H fp pz,PE (blk X scope N s H fp pz) elt te)
  (hnames:∀y∈scope.names,y.2=.local->scope.names.lookup y.1=some .local:=by decide)
  (j:FsI iter X:=by intro _;rfl):PE X (.ListComp elt [⟨tg,iter,ifs,0⟩] scope pos) (D2 own ix wi g tc te):=by
 intro pz s e H Q I h;rw[eval_ListComp];refine wpAny_comprehension_free (use:=none) rfl j (u5 (b.cl I.ok)) b.kind hnames (thn (hi pz s e H _ I h) λv M x=>thn x λi L u=>?_);refine uG (RR:=λa C=>compPost (model X.prog X.w) X.A X.xe none (EP X pz e Q) a C) hcalm b cp o p he u ?_;intro K R fp a f E O B z J q;obtain⟨m,l,_⟩:=id J.loc;exact⟨m,l,λP c=>⟨.ref a,E,AG B z J c,rfl,q⟩⟩
end
section
variable{κ:Type} [DecidableEq κ]
def d7(kvs:List (κ×V))(k:κ):Option V:=(kvs.find? λa=>decide (a.1=k)).map (·.2)
def fH(kvs:List (κ×V))(k:κ)(v:V):List (κ×V):=
 if(kvs.any λa=>decide (a.1=k))=true then kvs.map (λa=>if a.1=k then(a.1,v)else a)else kvs++[(k,v)]
def mm{p:κ×V}{r:List (κ×V)}{k:κ}(e:p.1=k):d7 (p::r) k=some p.2:=by simp[d7,Zh,e]
def mY{p:κ×V}{r:List (κ×V)}{k:κ}(e:¬p.1=k):d7 (p::r) k=d7 r k:=by simp[d7,Zh,e]
theorem sh(k:κ):∀kvs:List (κ×V),(kvs.any λa=>decide (a.1=k))=(d7 kvs k).isSome
 |[]=>rfl
 |p::r=>by
  rw[Xk];by_cases e:p.1=k
  ·simp only[mm e,YA e,Bool.true_or,Option.isSome_some]
  ·rw[mY e,Yn e,Bool.false_or];exact sh k r
theorem iK(kvs:List (κ×V))(k:κ)(v:V):(fH kvs k v).length<=kvs.length+1:=by
 unfold fH;split
 ·rw[Yc];omega
 ·rw[Yb,Yh,YZ];omega
def RelO.isSome_eq{o:Option V}{u:Option Value}(r:RelO o u):o.isSome=u.isSome:=by
 cases o with
 |none=>cases u with
  |none=>rfl
  |some _=>exact(show False from r).elim
 |some _=>cases u with
  |none=>exact(show False from r).elim
  |some _=>rfl
def RelO.getD{o:Option V}{u:Option Value}{d:V}{d':Value}(r:RelO o u)(rd:RelV d d'):RelV (o.getD d) (u.getD d'):=by
 cases o with
 |none=>cases u with
  |none=>exact rd
  |some _=>exact(show False from r).elim
 |some _=>cases u with
  |none=>exact(show False from r).elim
  |some _=>exact r
def KV.val{kvs:List (κ×V)}{vs:List (κ×Value)}(r:KV kvs vs)(k:κ):RelO (d7 kvs k) (valueAt vs k):=by
 unfold KV at r;induction r with
 |nil=>exact True.intro
 |@cons p q i a h t ih=>
  obtain⟨f,g⟩:=h;by_cases e:p.1=k
  ·have c:q.1=k:=f.symm.trans e;have b:valueAt (q::a) k=some q.2:=by simp[valueAt,Zh,c]
   rw[mm e,b];exact g
  ·have c:¬q.1=k:=λz=>e (f.trans z)
   have b:valueAt (q::a) k=valueAt a k:=by simp[valueAt,Zh,c]
   rw[mY e,b];exact ih
def KV.any{kvs:List (κ×V)}{vs:List (κ×Value)}(r:KV kvs vs)(k:κ):(kvs.any λa=>decide (a.1=k))=vs.any λa=>decide (a.1=k):=by
 unfold KV at r;induction r with
 |nil=>rfl
 |cons h t ih=>rw[Xk,Xk,ih,h.1]
def KV.repl{kvs:List (κ×V)}{vs:List (κ×Value)}(r:KV kvs vs)(k:κ)(c:RelV y u) :
  KV (kvs.map λa=>if a.1=k then(a.1,y)else a) (vs.map λa=>if a.1=k then(a.1,u)else a):=by
 unfold KV at r ⊢;induction r with
 |nil=>exact .nil
 |@cons p q i g h t ih=>
  rw[YC,YC];refine .cons ?_ ih;obtain⟨b,f⟩:=h;by_cases e:p.1=k
  ·rw[Yi e,Yi (b.symm.trans e)];exact⟨b,c⟩
  ·rw[Yr e,Yr (λz=>e (b.trans z))];exact⟨b,f⟩
def KV.put{kvs:List (κ×V)}{vs:List (κ×Value)}(r:KV kvs vs)(k:κ)(a:RelV y u):KV (fH kvs k y) (stored vs k u):=by
 unfold fH stored;rw[r.any k];by_cases e:(vs.any λb=>decide (b.1=k))=true
 ·rw[Yi e,Yi e];exact r.repl k a
 ·rw[Yr e,Yr e];exact Paired.snoc r ⟨rfl,a⟩
def KV.length{kvs:List (κ×V)}{vs:List (κ×Value)}(r:KV kvs vs):kvs.length=vs.length:=Paired.length r
end
def m8{P:Program}{k:Key}(r:RelV (kV k) u):(bT P w).is k u=true:=by
 cases k with
 |inl i=>obtain⟨t,e⟩:=(show ∃t,u=Value.int i t from r);subst e;exact ub P w i t
 |inr x=>obtain⟨t,e⟩:=(show ∃t,u=Value.str x t from r);subst e;exact tz P w x t
theorem o5{P:Program} :∀{ks:List Key}{us:List Value},Vals (ks.map kV) us->ItemsAre (bT P w) ks us
 |[],_,r=>by rw[Zd]at r;cases r;exact .nil
 |k::ks,_,r=>by
  rw[YC]at r;cases r with
  |cons h t=>exact .cons (m8 h) (o5 t)
abbrev KT(H:Hp):List (List Key×V)->List (List Key×Addr×Value)->Prop:=Paired λp q=>p.1=q.1/\H q.2.1=some (.tup (p.1.map kV))/\RelV p.2 q.2.2
def KT.val{kvs:List (List Key×V)}{xs:List (List Key×Addr×Value)}(r:KT H kvs xs)(k:List Key):RelO (d7 kvs k) ((atKey xs k).map (·.2)):=by
 induction r with
 |nil=>exact True.intro
 |@cons p q i a h t ih=>
  obtain⟨f,_,g⟩:=h;by_cases e:p.1=k
  ·have c:q.1=k:=f.symm.trans e;have b:atKey (q::a) k=some q.2:=by simp[atKey,Zh,c]
   rw[mm e,b];exact g
  ·have c:¬q.1=k:=λz=>e (f.trans z)
   have b:atKey (q::a) k=atKey a k:=by simp[atKey,Zh,c]
   rw[mY e,b];exact ih
def KT.repl{kvs:List (List Key×V)}{xs:List (List Key×Addr×Value)}(r:KT H kvs xs)(k:List Key)(f:RelV y u) :
  KT H (kvs.map λb=>if b.1=k then(b.1,y)else b) (xs.map (putAt k u)):=by
 induction r with
 |nil=>exact .nil
 |@cons p q j i h t ih=>
  rw[YC,YC];refine .cons ?_ ih;obtain⟨a,c,g⟩:=h;unfold putAt;by_cases e:p.1=k
  ·rw[Yi e,Yi (a.symm.trans e)];exact⟨a,c,f⟩
  ·rw[Yr e,Yr (λz=>e (a.trans z))];exact⟨a,c,g⟩
def KT.put{kvs:List (List Key×V)}{xs:List (List Key×Addr×Value)}(r:KT H kvs xs)(k:List Key){b:Addr}(h:H b=some (.tup (k.map kV)))(a:RelV y u) :
  KT H (fH kvs k y) (storedH xs k b u):=by
 have e:(kvs.any λc=>decide (c.1=k))=(atKey xs k).isSome:=by rw[sh,(r.val k).isSome_eq,Vd]
 unfold fH storedH;rw[e];by_cases q:(atKey xs k).isSome=true
 ·rw[Yi q,Yi q];exact r.repl k a
 ·rw[Yr q,Yr q];exact Paired.snoc r ⟨rfl,h,a⟩
def KT.keeps{kvs:List (List Key×V)}{xs:List (List Key×Addr×Value)}(r:KT H kvs xs)(h:∀b ys,H b=some (.tup ys)->H' b=some (.tup ys)):KT H' kvs xs:=
 Paired.mapP r λ_ _ z=>⟨z.1,h _ _ z.2.1,z.2.2⟩
section
variable{P:Program}    
def DU{u:HO}(ok:HOk P w H h)(e:Rd H a u):ObjOk P w H h a u:=e.ok ok
def lw{kvs:List (Key×V)}(ok:HOk P w H h)(e:Rd H a (.dK kvs)):kvs.length<=sizeLine/\(a == sysModules)=false/\∃vs,KV kvs vs/\h.DictOf (bT P w) a vs:=
 show ObjOk P w H h a (.dK kvs)from DU ok e
def DJ{kvs:List (Key×V)}(ok:HOk P w H h)(e:H a=some (.dK kvs)):kvs.length<=sizeLine/\(a == sysModules)=false/\∃vs,KV kvs vs/\h.DictOf (bT P w) a vs:=lw ok (.inl e)
def kS{ks:List Key}(ok:HOk P w H h)(e:H a=some (.tup (ks.map kV))):(tupleKind (bT P w)).is h ks a:=by
 obtain⟨_,i,r,⟨o,f,c,n,b⟩,_⟩:=(show ObjOk P w H h a (.tup (ks.map kV))from ok a _ e)
 exact⟨o,i.toArray,n,f,c,b,by simpa using o5 r⟩
def mH{kvs:List (List Key×V)}(ok:HOk P w H h)(e:Rd H a (.dT kvs)):kvs.length<=sizeLine/\(a == sysModules)=false /\
  ∃xs,KT H kvs xs/\h.DictOfH (tupleKind (bT P w)) a xs:=by
 obtain⟨z,y,xs,r,o,s,u,j,i,g,f,c⟩:=(show ObjOk P w H h a (.dT kvs)from DU ok e)
 refine⟨z,y,xs,r,o,s,u,j,i,g,f,λx hx=>?_,c⟩;have all:∀{l:List (List Key×V)}{m:List (List Key×Addr×Value)},KT H l m->∀x∈m,(tupleKind (bT P w)).is h x.1 x.2.1:=by
  intro l m q;induction q with
  |nil=>intro x hx;exact nomatch hx
  |@cons p q B A b t ih=>
   intro x hx;rcases YB.mp hx with e|hx
   ·subst e;exact kS ok (by rw[<-b.1];exact b.2.1)
   ·exact ih x hx
 exact all r x hx
def GU{kvs:List (List Key×V)}(ok:HOk P w H h)(e:H a=some (.dT kvs)):kvs.length<=sizeLine/\(a == sysModules)=false /\
  ∃xs,KT H kvs xs/\h.DictOfH (tupleKind (bT P w)) a xs:=mH ok (.inl e)
end
def DGet(H:Hp)(a:Addr)(y:V)(r:Option V):Prop:=
 (∃c k,Rd H a (.dK c)/\y=kV k/\r=d7 c k)\/∃c k b,Rd H a (.dT c)/\y=.ref b/\H b=some (.tup (k.map kV))/\r=d7 c k
def DPut(H:Hp)(a:Addr)(y v:V)(H':Hp):Prop:=
 (∃c k,H a=some (.dK c)/\y=kV k/\c.length<sizeLine/\H'=upd H a (.dK (fH c k v))) \/
 ∃c k b,H a=some (.dT c)/\y=.ref b/\H b=some (.tup (k.map kV))/\c.length<sizeLine/\H'=upd H a (.dT (fH c k v))
def DGet.k{kvs:List (Key×V)}{k:Key}(e:H a=some (.dK kvs)):DGet H a (kV k) (d7 kvs k):=.inl ⟨kvs,k,.inl e,rfl,rfl⟩
def DGet.t{b:Addr}{kvs:List (List Key×V)}{k:List Key}(e:H a=some (.dT kvs))(c:H b=some (.tup (k.map kV))):DGet H a (.ref b) (d7 kvs k):=.inr ⟨kvs,k,b,.inl e,rfl,c,rfl⟩
def DPut.k{kvs:List (Key×V)}{k:Key}{v:V}(e:H a=some (.dK kvs))(h:kvs.length<sizeLine):DPut H a (kV k) v (upd H a (.dK (fH kvs k v))):=.inl ⟨kvs,k,e,rfl,h,rfl⟩
def DPut.t{b:Addr}{kvs:List (List Key×V)}{k:List Key}{v:V}(e:H a=some (.dT kvs))(c:H b=some (.tup (k.map kV)))(h:kvs.length<sizeLine) :
  DPut H a (.ref b) v (upd H a (.dT (fH kvs k v))):=.inr ⟨kvs,k,b,e,rfl,c,h,rfl⟩
section
variable       {v:V}{r:Value}{o:Option V}  
def Inv.big(I:Inv X pz σ H s):sysModules<s.heap.objs.size:=by have h:mainGlobals<s.heap.objs.size:=(I.mod.glob.keeps I.bk).lt;exact Xd (by decide) h
def xN(L:A.units+1<cLine)(I:Inv X pz σ H s)(g:DGet H a y (some v))(C:RelV y u)(h:∀i s',Inv X pz σ H s'->RelV v i->Q i s') :
  wpAny (model X.prog X.w) A (getItem (.ref a) u) Q E s:=by
 rcases g with⟨j,k,e,x,l⟩|⟨j,k,b,e,x,O,l⟩
 ·subst x;obtain⟨z,N,K,f,B⟩:=lw I.hok e;obtain⟨i,m,c⟩:=RelO.some_of (v:=v) (o:=valueAt K k) (by rw[l];exact f.val k);exact wpAny_getItem_of (m8 C) B.mapOf m (h i _ (I.tok _) c)
 ·subst x;cases(show u=Value.ref b from C);obtain⟨z,N,J,f,B⟩:=mH I.hok e;obtain⟨i,m,c⟩:=RelO.some_of (v:=v) (o:=(atKey J k).map (·.2)) (by rw[l];exact f.val k);obtain⟨p,M,q⟩:=Option.map_eq_some_iff.mp m;refine wpAny_getItem_heap (Xb L) (kS I.hok O) B M ?_;rw[q];exact h i _ (I.tok _) c
def Im(x:A.units+1<cLine)(I:Inv X pz σ H s)(g:DGet H a y o)(p:RelV y u)(h:∀s',Inv X pz σ H s'->Q (.bool o.isSome) s') :
  wpAny (model X.prog X.w) A (compareOp .In u (.ref a)) Q E s:=by
 rcases g with⟨f,k,e,j,l⟩|⟨f,k,b,e,j,B,l⟩
 ·subst j;obtain⟨z,i,J,c,m⟩:=lw I.hok e;refine wpAny_in_of (m8 p) i m.mapOf ?_;rw[<-(c.val k).isSome_eq,<-l];exact h _ (I.tok _)
 ·subst j;cases(show u=Value.ref b from p);obtain⟨z,i,C,c,m⟩:=mH I.hok e;refine wpAny_in_heap (Xb x) (kS I.hok B) i m ?_;have q:=(c.val k).isSome_eq;rw[Vd]at q;rw[<-q,<-l];exact h _ (I.tok _)
def Cw(x:A.units+1<cLine)(I:Inv X pz σ H s)(g:DGet H a y o)(p:RelV y u)(h:∀s',Inv X pz σ H s'->Q (.bool (!o.isSome)) s') :
  wpAny (model X.prog X.w) A (compareOp .NotIn u (.ref a)) Q E s:=by
 rcases g with⟨f,k,e,j,l⟩|⟨f,k,b,e,j,B,l⟩
 ·subst j;obtain⟨z,i,J,c,m⟩:=lw I.hok e;refine wpAny_notIn_of (m8 p) i m.mapOf ?_;rw[<-(c.val k).isSome_eq,<-l];exact h _ (I.tok _)
 ·subst j;cases(show u=Value.ref b from p);obtain⟨z,i,C,c,m⟩:=mH I.hok e;refine wpAny_notIn_heap (Xb x) (kS I.hok B) i m ?_;have q:=(c.val k).isSome_eq;rw[Vd]at q;rw[<-q,<-l];exact h _ (I.tok _)
def qS{ob:HO}(I:Inv X pz σ H s)(m:Mut (H a))(h:Heap.SameBut a s.heap h')(he:∃q,h'.get? a=some q)(new:ObjOk X.prog X.w (upd H a ob) h' a ob) :
  Inv X pz σ (upd H a ob) {s with heap:=h',toks:=t' }:=
 I.write (x:=a) (e:=a) m (.inl rfl) (λb q c z=>(h.2 b c).trans z) he new
def Ap{P:Program}{kvs:List (Key×V)}{vs:List (Key×Value)}(z:kvs.length<=sizeLine)(hd:(a == sysModules)=false)(b:KV kvs vs)(dd:h'.DictOf (bT P w) a vs) :
  ObjOk P w H' h' a (.dK kvs):=⟨z,hd,vs,b,dd⟩
theorem xp{Q:Unit->Shared->Prop}(T:A.units+1<cLine)(I:Inv X pz σ H s)(g:DPut H a y v H')(L:RelV y u)(M:RelV v r)(h:∀s',Inv X pz σ H' s'->Q () s') :
  wpAny (model X.prog X.w) A (setItem (.ref a) u r) Q E s:=by
 rcases g with⟨i,k,e,C,l,J⟩|⟨i,k,b,e,C,P,l,J⟩
 ·subst C J;obtain⟨z,B,S,f,K⟩:=DJ I.hok e;have o:S.length<=sizeLine:=by rw[<-f.length];exact z
  have x:(fH i k v).length<=sizeLine:=by have:=iK i k v;omega
  refine wpAny_setItem_pairs (hsz:=o) (m8 L) K λN j p=>h _ ?_;have U:∃q,N.get? a=some q:=let ⟨q,_,_,m,_⟩:=j;⟨q,m⟩
  exact qS I (by rw[e];exact True.intro) p U (Ap x B (f.put k M) j)
 ·subst C J;cases(show u=Value.ref b from L);obtain⟨z,B,R,f,K⟩:=GU I.hok e;have o:R.length<=sizeLine:=by rw[<-Paired.length f];exact z
  have x:(fH i k v).length<=sizeLine:=by have:=iK i k v;omega
  refine wpAny_setItem_heap (hsz:=o) (Xb T) (kS I.hok P) K λN j p=>h _ ?_;obtain⟨q,es,ep,m,h2,h3,Z,_,Y⟩:=j;refine qS I (by rw[e];exact True.intro) p ⟨q,m⟩ ⟨x,B,_,(f.put k P M).keeps λc ys O=>?_,q,es,ep,m,h2,h3,Z,Y⟩;rw[ax (Gg O e (λz=>nomatch z))];exact O
end
section
variable       {kvs:List (Key×V)}{k:Key}   
theorem G3(I:Inv X pz σ H s)(e:Rd H a (.dK kvs))(h:∀t s',Inv X pz σ H s'->Q (.int kvs.length t) s'):wpAny (model X.prog X.w) A (call (.builtin "len") [.ref a]) Q E s:=by obtain⟨z,c,g,b,f⟩:=lw I.hok e;refine call_len_dict c f (by rw[<-b.length];rw[YL]at z;omega) ?_;rw[<-b.length];exact h _ _ (I.tok _)
end
def qZ(i:Expr):Prop:=∀o a,subscripted i false o a=operate [o,a] (getItem o a)
def wb{a:Expr}{T id:String} 
  (p:typeLookup (.type T) "__getitem__"=pure (some (.builtin id))) (m:qZ a)
  (h:wpAny (model prog w) A (eval value env) (λo f=>wpAny (model prog w) A (eval a env) (λi b=>b.TypeIs o T/\wpAny (model prog w) A (getItem o i) Q E b) E f) E s) :
  wpAny (model prog w) A (eval (.Subscript value a pos) env) Q E s:=by
 refine Subscript_ (Zx h (λo f j=>Zx j (λi b c=>?_) λ_ _ x=>x) λ_ _ x=>x);obtain⟨l,c⟩:=c;unfold subscriptTail;refine Yq ?_;rw[getitemInPython_of_ne l.not_modules];refine Yq (wpAny_specialOf l p ?_);have fin:wpAny (model prog w) A (subscripted a false o i) (λr e=>wpAny (model prog w) A (letTemporaryGo value o r>>=λ_=>pure r) Q E e) E b:=by rw[m o i];exact wpAny_operating (Zx c (λr e g=>Yq (wpAny_letTemporaryGo (YR g))) λ_ _ x=>x)
 first
  |exact YR (Yq fin)
  |exact Yq (YR (Yq fin))
  |exact Yq fin
def sy{o:Option V}(I:Inv X pz σ H s)(g:DGet H a y o):s.TypeIs (.ref a) "dict":=by
 rcases g with⟨c,k,e,_,_⟩|⟨c,k,b,e,_,_,_⟩
 ·obtain⟨_,_,h,_,f⟩:=lw I.hok e;exact f.typeIs
 ·obtain⟨_,_,x,_,f⟩:=mH I.hok e;exact f.typeIs
def GE(td ty:TE):TE:=λb H Q=>td b H λx e=>ty b e λy c=>∃a v,x=.ref a/\DGet c a y (some v)/\Q v c
def IP(ty td:TE):TE:=λb H Q=>ty b H λy e=>td b e λx c=>∃a o,x=.ref a/\DGet c a y o/\Q (.bl o.isSome) c
def Bo(ty td:TE):TE:=λb H Q=>ty b H λy e=>td b e λx c=>∃a o,x=.ref a/\DGet c a y o/\Q (.bl (!o.isSome)) c
def Hg(td ty tv:TE):TS:=λD b H=>tv b H λv g=>td b g λx f=>ty b f λy e=>∃a c,x=.ref a/\DPut e a y v c/\D.nx b c
section
variable  {i:Expr}  {ty:TE}
def iV(z:X.A.units+1<cLine)(C:PE X o td)(hi:PE X i ty)(B:qZ i):PE X (.Subscript o i pos) (GE td ty):=by intro p s e H Q I h;refine wb PySem.F.slot_dict_getitem.lookup B (bh (C p s e H _ I h) λu j x M K m w=>bh (hi p j e M _ K w) λR P y L f l c=>?_);obtain⟨a,v,E,g,q⟩:=c;subst E;obtain rfl:u=Value.ref a:=m;exact⟨sy f g,xN z f g l λN O J b=>⟨v,L,J,b,q⟩⟩
def Ei(w:X.A.units+1<cLine)(hi:PE X i ty)(z:PE X o td):PC X .In i o (IP ty td):=by intro p s c H Q I h;refine bh (hi p s c H _ I h) λO e y L J f l=>bh (z p e c L _ J l) λu N x K E j b=>?_;obtain⟨a,m,B,g,q⟩:=b;subst B;obtain rfl:u=Value.ref a:=j;exact Im w E g f λM C=>⟨.bl m.isSome,K,C,rfl,q⟩
def wV(w:X.A.units+1<cLine)(hi:PE X i ty)(z:PE X o td):PC X .NotIn i o (Bo ty td):=by intro p s c H Q I h;refine bh (hi p s c H _ I h) λO e y L J f l=>bh (z p e c L _ J l) λu N x K E j b=>?_;obtain⟨a,m,B,g,q⟩:=b;subst B;obtain rfl:u=Value.ref a:=j;exact Cw w E g f λM C=>⟨.bl (!m.isSome),K,C,rfl,q⟩
def l9(B:X.A.units+1<cLine)(E:PE X o td)(hi:PE X i ty)(hv:PE X value tv)(C:swapsWith value (some (.Subscript o i pos')) pos.line X.env=pure false) :
  PS X (.Assign [.Subscript o i pos'] value pos) (Hg td ty tv):=by
 intro p s b H D I h;refine wpAny_Assign_Subscript (bh (hv p s b H _ I h) λr f v Q N m z=>bh (E p f b Q _ N z) λu e x P M l w=>bh (hi p e b P _ M w) λT S y U L j c=>?_) C;obtain⟨a,O,J,g,q⟩:=c;subst J;obtain rfl:u=Value.ref a:=l;exact xp B L g j m λR K=>⟨b,O,K,q⟩
end
def sM{P:Program}(h:Heap)(a:sysModules<h.objs.size):ObjOk P w H (h.push {cls:=.type "dict",data:=.dict #[]}) h.objs.size (.dK []):=
 ⟨YS _,Ze.mpr (ZX (YN a)),[],.nil,Heap.DictOf.new h⟩
def zG{P:Program}(h:Heap)(a:sysModules<h.objs.size):ObjOk P w H (h.push {cls:=.type "dict",data:=.dict #[]}) h.objs.size (.dT []):=
 ⟨YS _,Ze.mpr (ZX (YN a)),[],.nil,_,#[],0,YJ _ rfl,⟨rfl,rfl,rfl⟩,rfl,rfl,ZN⟩
def EE:TE:=λ_ H Q=>∀p,H p=none->Q (.ref p) (upd H p (.dK []))
def EF:TE:=λ_ H Q=>∀p,H p=none->Q (.ref p) (upd H p (.dT []))
def An:PE X (.Dict [] [] pos) EE:=λp s b H Q I h=>
 wpAny_Dict_empty ⟨.ref s.heap.objs.size,_,I.laid (a:=s.heap.objs.size) (o:=.dK []) (t':=s.toks) (λ_ _ q=>Yx _ q) (Yy _) (sM s.heap I.big),rfl,h _ (I.hok.fresh (Yy _))⟩
def AS:PE X (.Dict [] [] pos) EF:=λp s b H Q I h=>
 wpAny_Dict_empty ⟨.ref s.heap.objs.size,_,I.laid (a:=s.heap.objs.size) (o:=.dT []) (t':=s.toks) (λ_ _ q=>Yx _ q) (Yy _) (zG s.heap I.big),rfl,h _ (I.hok.fresh (Yy _))⟩
def qK:List (TE×TE)->St->Hp->(List (V×V)->Hp->Prop)->Prop
 |[],_,H,Q=>Q [] H
 |(tk,tv)::r,σ,H,Q=>tk σ H λx c=>tv σ c λy b=>qK r σ b λp a=>Q ((x,y)::p) a
abbrev VV:List (V×V)->List (Value×Value)->Prop:=Paired λp q=>RelV p.1 q.1/\RelV p.2 q.2
def PPs(X:Cx)(pos:Pos)(keys:List (Option Expr))(values:List Expr)(b:List (TE×TE)):Prop:=
 ∀(p:Kp) (s:Shared) (a:St) (H:Hp) (Q:List (V×V)->Hp->Prop),Inv X p a H s->qK b a H Q->
  wpAny (model X.prog X.w) X.A (evalPairs (pairTrees keys values X.env pos)) (λf g=>∃c e,Inv X p a e g/\VV c f/\Q c e) X.xe s
def BW:PPs X pos [] [] []:=λp s a H Q I h=>pairTrees_nil_walk ⟨[],H,I,.nil,h⟩
def gx{k v:Expr}{ks:List (Option Expr)}{vs:List Expr}{tk:TE}{a:List (TE×TE)}(w:PE X k tk)(hv:PE X v tv)(o:PPs X pos ks vs a) :
  PPs X pos (some k::ks) (v::vs) ((tk,tv)::a):=λp s b H Q I h=>
 pairTrees_cons_walk (bh (w p s b H _ I h) λu f x J B i l=>bh (hv p f b J _ B l) λL e y E A g j=>
  bh (o p e b E _ A j) λK M m C z c q=>⟨(x,y)::m,C,z,.cons ⟨i,g⟩ c,q⟩)
def iD(kvs more:List (Key×V)):List (Key×V):=more.foldl (λa b=>fH a b.1 b.2) kvs
def KV.merge:∀{more:List (Key×V)}{a:List (Key×Value)}{kvs:List (Key×V)}{vs:List (Key×Value)},KV more a->KV kvs vs->KV (iD kvs more) (merged vs a):=by
 intro more a kvs vs r;unfold KV at r;induction r generalizing kvs vs with
 |nil=>intro q;exact q
 |@cons p q f c h t ih=>
  intro b;have e:KV (fH kvs p.1 p.2) (stored vs q.1 q.2):=by have:=b.put p.1 h.2;rw[<-h.1];exact this
  exact ih e
theorem jd:∀(more kvs:List (Key×V)),(iD kvs more).length<=kvs.length+more.length
 |[],kvs=>by show kvs.length<=kvs.length+0;omega
 |p::r,kvs=>by
  have a:=jd r (fH kvs p.1 p.2);have h:=iK kvs p.1 p.2;show(iD (fH kvs p.1 p.2) r).length<=_;rw[Yh];omega
theorem mS{P:Program}{w:World}:∀{kvs:List (Key×V)}{f:List (Value×Value)},VV (kvs.map λg=>(kV g.1,g.2)) f->∃e,Carries (bT P w) f e/\KV kvs e
 |[],_,r=>by rw[Zd]at r;cases r;exact⟨[],True.intro,.nil⟩
 |p::kvs,_,r=>by
  rw[YC]at r;cases r with
  |@cons a b i bs h t=>
   obtain⟨e,c,q⟩:=mS (P:=P) (w:=w) t;obtain⟨b1,b2⟩:=b;exact⟨(p.1,b2)::e,⟨m8 h.1,rfl,c⟩,.cons ⟨rfl,h.2⟩ q⟩
def GT(b:List (TE×TE)):TE:=λf H Q=>∀p,H p=none->qK b f (upd H p (.dK [])) λg e=>e p=some (.dK [])/\∃a:List (Key×V),g=a.map (λc=>(kV c.1,c.2))/\a.length<=15/\Q (.ref p) (upd e p (.dK (iD [] a)))
theorem BS{keys:List (Option Expr)}{values:List Expr}{b:List (TE×TE)}(h:PPs X pos keys values b)(g:keys.all (·.isSome)=true)(M:keys.length=values.length)(h0:keys≠[])
  (m:keys.length<=15):PE X (.Dict keys values pos) (GT b):=by
 intro E s u H Q I q;have L:=I.hok.fresh (Yy s.heap.objs.size);have U:=I.laid (a:=s.heap.objs.size) (o:=.dK []) (h':=s.heap.push {cls:=.type "dict",data:=.dict #[]}) (t':=s.toks) (λ_ _ q=>Yx _ q) (Yy _) (sM s.heap I.big);refine wpAny_Dict_walk (knd:=bT X.prog X.w) g M h0 m (bh (h E _ u _ _ U (q _ L)) λY Z ps H2 p j l=>?_);obtain⟨e,f,S,lk,C⟩:=l;subst S;obtain⟨y,c,A⟩:=mS (P:=X.prog) (w:=X.w) j;obtain⟨z,O,x,B,T⟩:=DJ p.hok e;cases B;refine⟨y,c,T,λh' i K=>⟨.ref s.heap.objs.size,_,?_,rfl,C⟩⟩;have J:(iD [] f).length<=sizeLine:=by have R:=jd f [];rw[YZ]at R;rw[YL];omega
 have N:∃q,h'.get? s.heap.objs.size=some q:=let ⟨q,_,_,hq,_⟩:=i;⟨q,hq⟩
 exact qS p (by rw[e];exact True.intro) K N (Ap J O (A.merge .nil) i)
structure M2 (X:Cx) (o:Expr) (m:Str) (apos:Pos) (e f:Expr) (cpos:Pos):Prop where
 base:attributeBase o m X.env (eval o X.env)=eval o X.env
 few:((backTo cpos (starEach [e,f] X.env)).all (λx=>!x.1)&&(backToKw cpos (keywordEach [] X.env)).all (λx=>x.1.isSome)
  && decide (([e,f]:List Expr).length+([]:List Keyword).length+(if([]:List Keyword).isEmpty then 0 else 1)<30))=true
 line:(apos.endLine == cpos.line)=true
 trees:backTo cpos (starEach [e,f] X.env)=[(false,eval e X.env),(false,eval f X.env)]
def IsD(H:Hp)(a:Addr):Prop:=(∃b,Rd H a (.dK b))\/∃b,Rd H a (.dT b)
def FH(I:Inv X pz σ H s)(d:IsD H a) :
  s.TypeIs (.ref a) "dict"/\(∀b,Value.ref a=.ref b->∃ob,s.heap.get? b=some ob/\ob.dict=none)/\(a == sysModules)=false:=by
 rcases d with⟨f,e⟩|⟨f,e⟩
 ·obtain⟨_,h,j,_,c⟩:=lw I.hok e;refine⟨c.typeIs,λb q=>?_,h⟩;cases q;obtain⟨ob,_,_,i,g,_⟩:=c;exact⟨ob,i,g.2.1⟩
 ·obtain⟨_,h,x,_,c⟩:=mH I.hok e;refine⟨c.typeIs,λb q=>?_,h⟩;cases q;obtain⟨ob,_,_,i,g,_⟩:=c;exact⟨ob,i,g.2.1⟩
section
variable       {d:V}{r:Value}{o:Option V}  
def Fm(B:A.units+1<cLine)(I:Inv X pz σ H s)(g:DGet H a y o)(q:RelV y u)(rd:RelV d r)(h:∀p s',Inv X pz σ H s'->RelV (o.getD d) p->Q p s') :
  wpAny (model X.prog X.w) A (call (.builtin "dict.get") [.ref a,u,r]) Q E s:=by
 rcases g with⟨i,k,e,m,l⟩|⟨i,k,b,e,m,C,l⟩
 ·subst m;obtain⟨z,j,J,c,f⟩:=lw I.hok e;refine call_meetsIn XL f.typeIs PySem.F.entry_dict_get (PySem.F.args_dict_get_3 _ _ _) (meets_dict_get_default (bT X.prog X.w) a (m8 q) j r) ⟨_,f.mapOf,h _ _ (I.tok _) ?_⟩;rw[l];exact(c.val k).getD rd
 ·subst m;cases(show u=Value.ref b from q);obtain⟨z,j,x,c,f⟩:=mH I.hok e;refine call_meetsIn XL f.typeIs PySem.F.entry_dict_get (PySem.F.args_dict_get_3 _ _ _) (meetsH_dict_get_default (tupleKind (bT X.prog X.w)) a b j r) ⟨Xb B,k,x,kS I.hok C,f,h _ _ (I.tok _) ?_⟩;rw[l];exact(c.val k).getD rd
end
def ER(td ty tx:TE):TE:=λb H Q=>td b H λx e=>∃a,x=.ref a/\IsD e a/\ty b e λy f=>tx b f λz c=>∃o,DGet c a y o/\Q (o.getD z) c
section
variable  {f:Expr}  {ty tx:TE}
def yA(N:X.A.units+1<cLine)(O:PE X o td)(he:PE X e ty)(P:PE X f tx)(m:M2 X o "get" apos e f cpos):PE X (.Call (.Attribute o "get" apos) [e,f] [] cpos) (ER td ty tx):=by
 intro p s b H Q I h;refine wpAny_Call_method m.base m.few m.line PySem.F.plainAttrs_dict XL PySem.F.type_dict_get (bh (O p s b H _ I h) λu B x H1 j J i=>?_);obtain⟨a,R,d,M⟩:=i;subst R;obtain rfl:u=Value.ref a:=J;obtain⟨q,l,_⟩:=FH j d;refine⟨q,l,?_⟩;rw[m.trees];refine Xy rfl (Xn (Calls.spliced_cons (bh (he p B b H1 _ j M) λiv w y Z U E L=>
  Calls.spliced_cons (bh (P p w b Z _ U L) λfv s3 z Y T C ⟨ov,g,K⟩=>Calls.spliced_nil ?_))))
 exact Fm N T g E C λw' s4 S c=>⟨_,Y,S,c,K⟩
end
section
variable       {kvs:List (Key×V)}  
end
section
variable{κ:Type} [DecidableEq κ]
end
inductive D where
 |non|bl (b:Bool)|int (i:Int)|str (x:Str)
 |tup (xs:List D)|lst (xs:List D)
 |dT (kvs:List (List Key×D))|dK (kvs:List (Key×D))
 |ins (C:Addr) (fs:List (Str×D))
 |fn (a:Addr) (v:V) (d:D)
 |exn (C:Addr)
def ExA(a C:Addr)(h:Heap):Prop:=∃o,h.get? a=some o/\o.cls=.ref C
mutual
inductive Rep (K:PySem.W.Frag) (H:Hp):V->D->Prop
 |non:Rep K H .non .non
 |bl {b:Bool}:Rep K H (.bl b) (.bl b)
 |int {i:Int}:Rep K H (.int i) (.int i)
 |str {x:Str}:Rep K H (.str x) (.str x)
 |tup {a:Addr}{vs:List V}{ds:List D}:H a=some (.tup vs)->Reps K H vs ds->Rep K H (.ref a) (.tup ds)
 |lst {a:Addr}{vs:List V}{ds:List D}:SqL K H a vs->Reps K H vs ds->Rep K H (.ref a) (.lst ds)
 |dT {a:Addr}{vs:List (List Key×V)}{ds:List (List Key×D)}:H a=some (.dT vs)->RepsT K H vs ds->Rep K H (.ref a) (.dT ds)
 |dK {a:Addr}{vs:List (Key×V)}{ds:List (Key×D)}:H a=some (.dK vs)->RepsK K H vs ds->Rep K H (.ref a) (.dK ds)
 |ins {a C dx:Addr}{vs:List (Str×V)}{ds:List (Str×D)}:H a=some (.ins C dx vs)->RepsF K H vs ds->Rep K H (.ref a) (.ins C ds)
 /-- a lambda at a: what it takes from without is v -/
 |fn {a:Addr}{v:V}{d:D}:Rep K H v d->Rep K H (.ref a) (.fn a v d)
 |exn {a C:Addr}:H a=some (.ext (ExA a C))->Rep K H (.ref a) (.exn C)
inductive Reps (K:PySem.W.Frag) (H:Hp):List V->List D->Prop
 |nil:Reps K H [] []
 |cons {v:V}{d:D}{vs:List V}{ds:List D}:Rep K H v d->Reps K H vs ds->Reps K H (v::vs) (d::ds)
inductive RepsT (K:PySem.W.Frag) (H:Hp):List (List Key×V)->List (List Key×D)->Prop
 |nil:RepsT K H [] []
 |cons {k:List Key}{v:V}{d:D}{vs:List (List Key×V)}{ds:List (List Key×D)}:Rep K H v d->RepsT K H vs ds->RepsT K H ((k,v)::vs) ((k,d)::ds)
inductive RepsK (K:PySem.W.Frag) (H:Hp):List (Key×V)->List (Key×D)->Prop
 |nil:RepsK K H [] []
 |cons {k:Key}{v:V}{d:D}{vs:List (Key×V)}{ds:List (Key×D)}:Rep K H v d->RepsK K H vs ds->RepsK K H ((k,v)::vs) ((k,d)::ds)
inductive RepsF (K:PySem.W.Frag) (H:Hp):List (Str×V)->List (Str×D)->Prop
 |nil:RepsF K H [] []
 |cons {k:Str}{v:V}{d:D}{vs:List (Str×V)}{ds:List (Str×D)}:Rep K H v d->RepsF K H vs ds->RepsF K H ((k,v)::vs) ((k,d)::ds)
end
def Rep.same(e:Same H H'){v:V}{d:D}(h:Rep K H v d):Rep K H' v d:=
 Rep.rec (motive_1:=λv d _=>Rep K H' v d) (motive_2:=λv d _=>Reps K H' v d) (motive_3:=λv d _=>RepsT K H' v d) (motive_4:=λv d _=>RepsK K H' v d) (motive_5:=λv d _=>RepsF K H' v d) .non .bl .int .str (λh _ i=>.tup (e _ _ h) i) (λh _ i=>.lst (e.seq h) i) (λh _ i=>.dT (e _ _ h) i) (λh _ i=>.dK (e _ _ h) i) (λh _ i=>.ins (e _ _ h) i) (λ_ i=>.fn i) (λh=>.exn (e _ _ h)) .nil (λ_ _ a b=>.cons a b) .nil (λ_ _ a b=>.cons a b) .nil (λ_ _ a b=>.cons a b) .nil (λ_ _ a b=>.cons a b) h
def Reps.same(e:Same H H'){v:List V}{d:List D}(h:Reps K H v d):Reps K H' v d:=
 Reps.rec (motive_1:=λv d _=>Rep K H' v d) (motive_2:=λv d _=>Reps K H' v d) (motive_3:=λv d _=>RepsT K H' v d) (motive_4:=λv d _=>RepsK K H' v d) (motive_5:=λv d _=>RepsF K H' v d) .non .bl .int .str (λh _ i=>.tup (e _ _ h) i) (λh _ i=>.lst (e.seq h) i) (λh _ i=>.dT (e _ _ h) i) (λh _ i=>.dK (e _ _ h) i) (λh _ i=>.ins (e _ _ h) i) (λ_ i=>.fn i) (λh=>.exn (e _ _ h)) .nil (λ_ _ a b=>.cons a b) .nil (λ_ _ a b=>.cons a b) .nil (λ_ _ a b=>.cons a b) .nil (λ_ _ a b=>.cons a b) h
def RepsT.same(e:Same H H'){v:List (List Key×V)}{d:List (List Key×D)}(h:RepsT K H v d):RepsT K H' v d:=
 RepsT.rec (motive_1:=λv d _=>Rep K H' v d) (motive_2:=λv d _=>Reps K H' v d) (motive_3:=λv d _=>RepsT K H' v d) (motive_4:=λv d _=>RepsK K H' v d) (motive_5:=λv d _=>RepsF K H' v d) .non .bl .int .str (λh _ i=>.tup (e _ _ h) i) (λh _ i=>.lst (e.seq h) i) (λh _ i=>.dT (e _ _ h) i) (λh _ i=>.dK (e _ _ h) i) (λh _ i=>.ins (e _ _ h) i) (λ_ i=>.fn i) (λh=>.exn (e _ _ h)) .nil (λ_ _ a b=>.cons a b) .nil (λ_ _ a b=>.cons a b) .nil (λ_ _ a b=>.cons a b) .nil (λ_ _ a b=>.cons a b) h
def RepsK.same(e:Same H H'){v:List (Key×V)}{d:List (Key×D)}(h:RepsK K H v d):RepsK K H' v d:=
 RepsK.rec (motive_1:=λv d _=>Rep K H' v d) (motive_2:=λv d _=>Reps K H' v d) (motive_3:=λv d _=>RepsT K H' v d) (motive_4:=λv d _=>RepsK K H' v d) (motive_5:=λv d _=>RepsF K H' v d) .non .bl .int .str (λh _ i=>.tup (e _ _ h) i) (λh _ i=>.lst (e.seq h) i) (λh _ i=>.dT (e _ _ h) i) (λh _ i=>.dK (e _ _ h) i) (λh _ i=>.ins (e _ _ h) i) (λ_ i=>.fn i) (λh=>.exn (e _ _ h)) .nil (λ_ _ a b=>.cons a b) .nil (λ_ _ a b=>.cons a b) .nil (λ_ _ a b=>.cons a b) .nil (λ_ _ a b=>.cons a b) h
def RepsF.same(e:Same H H'){v:List (Str×V)}{d:List (Str×D)}(h:RepsF K H v d):RepsF K H' v d:=
 RepsF.rec (motive_1:=λv d _=>Rep K H' v d) (motive_2:=λv d _=>Reps K H' v d) (motive_3:=λv d _=>RepsT K H' v d) (motive_4:=λv d _=>RepsK K H' v d) (motive_5:=λv d _=>RepsF K H' v d) .non .bl .int .str (λh _ i=>.tup (e _ _ h) i) (λh _ i=>.lst (e.seq h) i) (λh _ i=>.dT (e _ _ h) i) (λh _ i=>.dK (e _ _ h) i) (λh _ i=>.ins (e _ _ h) i) (λ_ i=>.fn i) (λh=>.exn (e _ _ h)) .nil (λ_ _ a b=>.cons a b) .nil (λ_ _ a b=>.cons a b) .nil (λ_ _ a b=>.cons a b) .nil (λ_ _ a b=>.cons a b) h
def Reps.ind{M:List V->List D->Prop}(n:M [] [])(c:∀{v:V}{d:D}{vs:List V}{ds:List D},Rep K H v d->Reps K H vs ds->M vs ds->M (v::vs) (d::ds)){ds:List D}(h:Reps K H vs ds):M vs ds:=
 Reps.rec (motive_1:=λ_ _ _=>True) (motive_2:=λvs ds _=>M vs ds) (motive_3:=λ_ _ _=>True) (motive_4:=λ_ _ _=>True) (motive_5:=λ_ _ _=>True) trivial trivial trivial trivial (λ_ _ _=>trivial) (λ_ _ _=>trivial) (λ_ _ _=>trivial) (λ_ _ _=>trivial) (λ_ _ _=>trivial) (λ_ _=>trivial) (λ_=>trivial) n (λh q _ ih=>c h q ih) trivial (λ_ _ _ _=>trivial) trivial (λ_ _ _ _=>trivial) trivial (λ_ _ _ _=>trivial) h
def RepsT.ind{M:List (List Key×V)->List (List Key×D)->Prop}(n:M [] [])(c:∀{k:List Key}{v:V}{d:D}{vs:List (List Key×V)}{ds:List (List Key×D)},Rep K H v d->RepsT K H vs ds->M vs ds->M ((k,v)::vs) ((k,d)::ds)){vs:List (List Key×V)}{ds:List (List Key×D)}(h:RepsT K H vs ds):M vs ds:=
 RepsT.rec (motive_1:=λ_ _ _=>True) (motive_2:=λ_ _ _=>True) (motive_3:=λvs ds _=>M vs ds) (motive_4:=λ_ _ _=>True) (motive_5:=λ_ _ _=>True) trivial trivial trivial trivial (λ_ _ _=>trivial) (λ_ _ _=>trivial) (λ_ _ _=>trivial) (λ_ _ _=>trivial) (λ_ _ _=>trivial) (λ_ _=>trivial) (λ_=>trivial) trivial (λ_ _ _ _=>trivial) n (λh q _ ih=>c h q ih) trivial (λ_ _ _ _=>trivial) trivial (λ_ _ _ _=>trivial) h
def RepsK.ind{M:List (Key×V)->List (Key×D)->Prop}(n:M [] [])(c:∀{k:Key}{v:V}{d:D}{vs:List (Key×V)}{ds:List (Key×D)},Rep K H v d->RepsK K H vs ds->M vs ds->M ((k,v)::vs) ((k,d)::ds)){vs:List (Key×V)}{ds:List (Key×D)}(h:RepsK K H vs ds):M vs ds:=
 RepsK.rec (motive_1:=λ_ _ _=>True) (motive_2:=λ_ _ _=>True) (motive_3:=λ_ _ _=>True) (motive_4:=λvs ds _=>M vs ds) (motive_5:=λ_ _ _=>True) trivial trivial trivial trivial (λ_ _ _=>trivial) (λ_ _ _=>trivial) (λ_ _ _=>trivial) (λ_ _ _=>trivial) (λ_ _ _=>trivial) (λ_ _=>trivial) (λ_=>trivial) trivial (λ_ _ _ _=>trivial) trivial (λ_ _ _ _=>trivial) n (λh q _ ih=>c h q ih) trivial (λ_ _ _ _=>trivial) h
def RepsF.ind{M:List (Str×V)->List (Str×D)->Prop}(n:M [] [])(c:∀{k:Str}{v:V}{d:D}{vs:List (Str×V)}{ds:List (Str×D)},Rep K H v d->RepsF K H vs ds->M vs ds->M ((k,v)::vs) ((k,d)::ds)){vs:List (Str×V)}{ds:List (Str×D)}(h:RepsF K H vs ds):M vs ds:=
 RepsF.rec (motive_1:=λ_ _ _=>True) (motive_2:=λ_ _ _=>True) (motive_3:=λ_ _ _=>True) (motive_4:=λ_ _ _=>True) (motive_5:=λvs ds _=>M vs ds) trivial trivial trivial trivial (λ_ _ _=>trivial) (λ_ _ _=>trivial) (λ_ _ _=>trivial) (λ_ _ _=>trivial) (λ_ _ _=>trivial) (λ_ _=>trivial) (λ_=>trivial) trivial (λ_ _ _ _=>trivial) trivial (λ_ _ _ _=>trivial) trivial (λ_ _ _ _=>trivial) n (λh q _ ih=>c h q ih) h
def Reps.length{ds:List D}(h:Reps K H vs ds):vs.length=ds.length:=Reps.ind (M:=λvs ds=>vs.length=ds.length) rfl (λ_ _ ih=>YM Nat.succ ih) h
def Reps.get{ds:List D}{d:D}(h:Reps K H vs ds):ds[i]?=some d->∃v,vs[i]?=some v/\Rep K H v d:=
 Reps.ind (M:=λvs ds=>∀i:Nat,ds[i]?=some d->∃v,vs[i]?=some v/\Rep K H v d) (λ_ e=>nomatch e) (λr _ ih i e=>by
  cases i with
  |zero=>obtain rfl:=Yu e;exact⟨_,rfl,r⟩
  |succ i=>exact ih i e) h i
def Reps.getV{ds:List D}{v:V}(h:Reps K H vs ds):vs[i]?=some v->∃d,ds[i]?=some d/\Rep K H v d:=
 Reps.ind (M:=λvs ds=>∀i:Nat,vs[i]?=some v->∃d,ds[i]?=some d/\Rep K H v d) (λ_ e=>nomatch e) (λr _ ih i e=>by
  cases i with
  |zero=>obtain rfl:=Yu e;exact⟨_,rfl,r⟩
  |succ i=>exact ih i e) h i
def Reps.append{w:List V}{ds es:List D}(h:Reps K H vs ds)(s:Reps K H w es):Reps K H (vs++w) (ds++es):=Reps.ind (M:=λvs ds=>Reps K H (vs++w) (ds++es)) s (λr _ ih=>.cons r ih) h
def Reps.take{ds:List D}(n:Nat)(h:Reps K H vs ds):Reps K H (vs.take n) (ds.take n):=Reps.ind (M:=λvs ds=>∀n,Reps K H (vs.take n) (ds.take n)) (λn=>by cases n<;>exact .nil) (λr _ ih n=>by
  cases n with
  |zero=>exact .nil
  |succ n=>exact .cons r (ih n)) h n
def Reps.set{v:V}{d:D}(r:Rep K H v d){ds:List D}(i:Nat)(h:Reps K H vs ds):Reps K H (vs.set i v) (ds.set i d):=Reps.ind (M:=λvs ds=>∀i,Reps K H (vs.set i v) (ds.set i d)) (λ_=>.nil) (λq t ih i=>by
  cases i with
  |zero=>exact .cons r t
  |succ i=>exact .cons q (ih i)) h i
def Reps.eraseIdx{ds:List D}(i:Nat)(h:Reps K H vs ds):Reps K H (vs.eraseIdx i) (ds.eraseIdx i):=Reps.ind (M:=λvs ds=>∀i,Reps K H (vs.eraseIdx i) (ds.eraseIdx i)) (λ_=>.nil) (λq t ih i=>by
  cases i with
  |zero=>exact t
  |succ i=>exact .cons q (ih i)) h i
def Reps.one{v:V}{d:D}(r:Rep K H v d):Reps K H [v] [d]:=.cons r .nil
inductive FO where
 |d (x:D)|lst (ds:List D)|dK (kvs:List (Key×D))
def FO.dat:FO->D
 |.d x=>x
 |.lst ds=>.lst ds
 |.dK kvs=>.dK kvs
inductive OD where
 |lst (ds:List D)|lst2 (dss:List (List D))|tup2 (dss:List (List D))|dT (kvs:List (List Key×D))|dK (kvs:List (Key×D))|ins (C:Addr) (fs:List (Str×D))|obj (C:Option Addr) (fs:List (Str×FO))
def OD.d:OD->D
 |.lst ds=>.lst ds
 |.lst2 dss=>.lst (dss.map .lst)
 |.tup2 dss=>.tup (dss.map .lst)
 |.dT kvs=>.dT kvs
 |.dK kvs=>.dK kvs
 |.ins C fs=>.ins C fs
 |.obj (some C) fs=>.ins C (fs.map λp=>(p.1,p.2.dat))
 |.obj none fs=>.dK (fs.map λp=>(Sum.inr p.1,p.2.dat))
def OD.flat:OD->Bool
 |.obj _ _=>false
 |.lst2 _=>false
 |.tup2 _=>false
 |_=>true
inductive All2 {α β:Type} (R:α->β->Prop):List α->List β->Prop
 |nil:All2 R [] []
 |cons {a:α}{b:β}{as:List α}{bs:List β}:R a b->All2 R as bs->All2 R (a::as) (b::bs)
def All2.imp{e c:Type}{R S:e->c->Prop}(f:∀a b,R a b->S a b){as:List e}{bs:List c}(h:All2 R as bs):All2 S as bs:=by
 induction h with
 |nil=>exact .nil
 |cons h _ ih=>exact .cons (f _ _ h) ih
def All2.length{b a:Type}{R:b->a->Prop}{as:List b}{bs:List a}(h:All2 R as bs):as.length=bs.length:=by
 induction h with
 |nil=>rfl
 |cons _ _ ih=>exact YM Nat.succ ih
def ORep1(K:Kq)(F:Hp):OD->HO->Prop
 |.lst ds,.lst vs=>Reps K F vs ds
 |.dT ds,.dT vs=>RepsT K F vs ds
 |.dK ds,.dK vs=>RepsK K F vs ds
 |.ins C fs,.ins C' _ vs=>C=C'/\RepsF K F vs fs
 |_,_=>False
def FRep(K:Kq)(F H:Hp)(ow:Addr->Prop):FO->V->Prop
 |.d d,v=>Rep K F v d
 |.lst ds,v=>∃b,v=.ref b/\ow b/\∃u,H b=some u/\ORep1 K F (.lst ds) u
 |.dK ds,v=>∃b,v=.ref b/\ow b/\∃u,H b=some u/\ORep1 K F (.dK ds) u
def oJ:FO->V->List Addr
 |.d _,_=>[]
 |_,.ref b=>[b]
 |_,_=>[]
def bxO:Option Addr->Addr->List (Str×V)->HO
 |some C,dx,vs=>.ins C dx vs
 |none,_,vs=>.dK (vs.map λp=>(Sum.inr p.1,p.2))
def eF(vs:List (Str×V))(fs:List (Str×FO)):List Addr:=(vs.zip fs).flatMap λp=>oJ p.2.2 p.1.2
def ORep(K:Kq)(F H:Hp)(ow:Addr->Prop):OD->Addr->Prop
 |.lst2 dss,a=>ow a/\∃bs,H a=some (.lst (bs.map .ref))/\(a::bs).Nodup/\All2 (λb e=>ow b/\∃u,H b=some u/\ORep1 K F (.lst e) u) bs dss
 |.tup2 dss,a=>ow a/\∃bs,H a=some (.tup (bs.map .ref))/\(a::bs).Nodup/\All2 (λb e=>ow b/\∃u,H b=some u/\ORep1 K F (.lst e) u) bs dss
 |.obj C fs,a=>ow a/\∃f c,H a=some (bxO C f c)/\(a::eF c fs).Nodup/\All2 (λ(p:Str×V) (q:Str×FO)=>p.1=q.1/\FRep K F H ow q.2 p.2) c fs
 |o,a=>ow a/\∃u,H a=some u/\ORep1 K F o u
def FRep.mono{F:Hp}{ow:Addr->Prop}(e:Same F F')(k:∀b u,ow b->H b=some u->H' b=some u/\ow' b)(s:∀{o:OD}{u:HO},ORep1 K F o u->ORep1 K F' o u){o:FO}{v:V}(h:FRep K F H ow o v):FRep K F' H' ow' o v:=by
 cases o with
 |d x=>exact Rep.same e h
 |lst ds=>obtain⟨b,rfl,c,u,a,f⟩:=h;exact⟨b,rfl,(k b u c a).2,u,(k b u c a).1,s f⟩
 |dK ds=>obtain⟨b,rfl,c,u,a,f⟩:=h;exact⟨b,rfl,(k b u c a).2,u,(k b u c a).1,s f⟩
def ORep1.same{F:Hp}(e:Same F F'){o:OD}{u:HO}(h:ORep1 K F o u):ORep1 K F' o u:=by cases o<;>cases u<;>first|exact h.elim|exact Reps.same e h|exact RepsT.same e h|exact RepsK.same e h|exact⟨h.1,RepsF.same e h.2⟩
def ORep.flat{F:Hp}{ow:Addr->Prop}{o:OD}(f:o.flat=true):ORep K F H ow o a↔ow a/\∃u,H a=some u/\ORep1 K F o u:=by cases o<;>first|exact Iff.rfl|cases f
def ORep.mono{F:Hp}{ow:Addr->Prop}{o:OD}(e:Same F F')(k:∀b u,ow b->H b=some u->H' b=some u/\ow' b)(h:ORep K F H ow o a):ORep K F' H' ow' o a:=by
 by_cases f:o.flat=true
 ·obtain⟨l,u,j,i⟩:=(ORep.flat f).mp h;obtain⟨g,c⟩:=k a u l j;exact(ORep.flat f).mpr ⟨c,u,g,i.same e⟩
 ·cases o with
  |lst2 dss=>
   obtain⟨l,bs,j,i,m⟩:=h;obtain⟨g,c⟩:=k a _ l j;exact⟨c,bs,g,i,m.imp λb J ⟨y,u,w,s⟩=>by obtain⟨B,A⟩:=k b u y w;exact⟨A,u,B,s.same e⟩⟩
  |tup2 dss=>
   obtain⟨l,bs,j,i,m⟩:=h;obtain⟨g,c⟩:=k a _ l j;exact⟨c,bs,g,i,m.imp λb J ⟨y,u,w,s⟩=>by obtain⟨B,A⟩:=k b u y w;exact⟨A,u,B,s.same e⟩⟩
  |obj C fs=>
   obtain⟨l,I,E,j,i,m⟩:=h;obtain⟨g,c⟩:=k a _ l j;exact⟨c,I,E,g,i,m.imp λp q z=>⟨z.1,z.2.mono e k λx=>x.same e⟩⟩
  |_=>exact absurd rfl f
def FRep.rep{F G:Hp}{ow:Addr->Prop}(e:Same F G)(k:∀b u,ow b->H b=some u->G b=some u){o:FO}{v:V}(h:FRep K F H ow o v):Rep K G v o.dat:=by
 cases o with
 |d x=>exact Rep.same e h
 |lst ds=>obtain⟨b,rfl,f,u,c,a⟩:=h;cases u with|lst vs=>exact .lst (SqL.of (k b _ f c)) (Reps.same e a)|_=>exact a.elim
 |dK ds=>obtain⟨b,rfl,f,u,c,a⟩:=h;cases u with|dK vs=>exact .dK (k b _ f c) (RepsK.same e a)|_=>exact a.elim
def ORep1.rep{F:Hp}{o:OD}{u:HO}(f:o.flat=true)(h:ORep1 K F o u)(b:H a=some u)(e:Same F H):Rep K H (.ref a) o.d:=by
 cases o with
 |lst ds=>cases u with|lst vs=>exact .lst (SqL.of b) (Reps.same e h)|_=>exact h.elim
 |dT ds=>cases u with|dT vs=>exact .dT b (RepsT.same e h)|_=>exact h.elim
 |dK ds=>cases u with|dK vs=>exact .dK b (RepsK.same e h)|_=>exact h.elim
 |ins C fs=>cases u with|ins C' dx vs=>(obtain⟨rfl,h⟩:=h;exact .ins b (RepsF.same e h))|_=>exact h.elim
 |obj _ _=>cases f
 |lst2 _=>cases f
 |tup2 _=>cases f
def ORep.rep{F G:Hp}{ow:Addr->Prop}{o:OD}(h:ORep K F H ow o a)(e:Same F G)(k:∀b u,ow b->H b=some u->G b=some u):Rep K G (.ref a) o.d:=by
 by_cases f:o.flat=true
 ·obtain⟨g,u,c,i⟩:=(ORep.flat f).mp h;exact i.rep f (k a u g c) e
 ·cases o with
  |lst2 dss=>
   obtain⟨g,bs,c,i,m⟩:=h;refine .lst (SqL.of (k a _ g c)) ?_;clear c g i f;induction m with
   |nil=>exact .nil
   |cons q r ih=>
    obtain⟨l,u,j,s⟩:=q;exact .cons (s.rep (o:=.lst _) rfl (k _ u l j) e) ih
  |tup2 dss=>
   obtain⟨g,bs,c,i,m⟩:=h;refine .tup (k a _ g c) ?_;clear c g i f;induction m with
   |nil=>exact .nil
   |cons q r ih=>
    obtain⟨l,u,j,s⟩:=q;exact .cons (s.rep (o:=.lst _) rfl (k _ u l j) e) ih
  |obj C fs=>
   obtain⟨g,A,w,c,i,m⟩:=h;cases C with
   |some C=>
    refine .ins (k a _ g c) ?_;clear c g i f;induction m with
    |nil=>exact .nil
    |@cons p q _ _ z r ih=>
     obtain⟨l,j⟩:=z;obtain⟨x,v⟩:=p;obtain⟨y,o⟩:=q;cases l;exact .cons (j.rep e k) ih
   |none=>
    refine .dK (k a _ g c) ?_;clear c g i f;induction m with
    |nil=>exact .nil
    |@cons p q _ _ z r ih=>
     obtain⟨l,j⟩:=z;obtain⟨x,v⟩:=p;obtain⟨y,o⟩:=q;cases l;exact .cons (j.rep e k) ih
  |_=>exact absurd rfl f
inductive DV where
 |v (d:D)|own (o:OD) (t:Option Addr)|bor (o:OD)
abbrev DF:=List (Option DV)
abbrev cI(n:Int):DF->Option D:=λ_=>some (.int n)
@[simp] theorem I_(n:Int)(ρ:DF):cI n ρ=some (.int n):=rfl
abbrev nA:DF->Option (List DV):=λ_=>some []
@[simp] theorem Ja(ρ:DF):nA ρ=some []:=rfl
def DVRep(K:Kq)(P F H:Hp)(ow:Addr->Prop):DV->V->Prop
 |.v d,x=>Rep K F x d
 |.own o t,x=>∃a,x=.ref a/\ORep K F H (λb=>F b=none/\P b=none/\ow b) o a/\∀b,t=some b->b=a
 |.bor o,x=>∃a,x=.ref a/\ORep K F P (λ_=>True) o a
def uU:Addr->Prop:=λ_=>True
structure DHp (P F H:Hp):Prop where
 sub:Same F H
 pro:Same P H
 dis:∀a o,P a=some o->F a=none
structure DInv (K:PySem.W.Frag) (P F H:Hp) (ρ:DF) (σ:St):Prop extends DHp P F H where
 len:ρ.length=σ.length
 rep:∃O:Addr->Option Nat,∀(i:Nat) (x:DV),ρ[i]?=some (some x)->∃v,σ[i]?=some (some v)/\DVRep K P F H (λb=>O b=some i) x v
structure Evo (P F H F' H':Hp):Prop where
 ext:Same F F'
 hp:DHp P F' H'
 keep:∀a o,H a=some o->F a=none->H' a=some o/\F' a=none
def Evo.same{F:Hp}(h:DHp P F H)(e:Evo P F H F' H'):Same H H':=λa o q=>by
 cases c:F a with
 |none=>exact(e.keep a o q c).1
 |some u=>
  have:=h.sub a u c;rw[q]at this;cases this;exact e.hp.sub a o (e.ext a o c)
def DVRep.evo{F:Hp}{ow:Addr->Prop}(e:Evo P F H F' H'){x:DV}{v:V}(r:DVRep K P F H ow x v):DVRep K P F' H' ow x v:=by
 cases x with
 |v d=>exact Rep.same e.ext r
 |own o t=>
  obtain⟨a,rfl,h,m⟩:=r;exact⟨a,rfl,h.mono e.ext λb u ⟨i,g,f⟩ c=>by(obtain⟨l,j⟩:=e.keep b u c i;exact⟨l,j,g,f⟩),m⟩
 |bor o=>
  obtain⟨a,rfl,h⟩:=r;exact⟨a,rfl,h.mono e.ext λb u q c=>⟨c,q⟩⟩
def DVRep.imp{F:Hp}{ow:Addr->Prop}(f:∀b u,F b=none->P b=none->H b=some u->ow b->ow' b){x:DV}{v:V}(r:DVRep K P F H ow x v):DVRep K P F H ow' x v:=by
 cases x with
 |v d=>exact r
 |own o t=>
  obtain⟨a,rfl,h,i⟩:=r;exact⟨a,rfl,h.mono (Same.refl _) λb u ⟨c,q,g⟩ e=>⟨e,c,q,f b u c q e g⟩,i⟩
 |bor o=>exact r
def DInv.evo{F:Hp}{ρ:DF}(I:DInv K P F H ρ σ)(e:Evo P F H F' H'):DInv K P F' H' ρ σ:=
 ⟨e.hp,I.len,by obtain⟨O,h⟩:=I.rep;exact⟨O,λi x a=>by obtain⟨v,c,b⟩:=h i x a;exact⟨v,c,b.evo e⟩⟩⟩
def DInv.at{F:Hp}{ρ:DF}(I:DInv K P F H ρ σ){x:DV}(h:ρ[i]?=some (some x)):∃v,σ[i]?=some (some v)/\DVRep K P F H uU x v:=by obtain⟨O,k⟩:=I.rep;obtain⟨v,b,a⟩:=k i x h;exact⟨v,b,a.imp λ_ _ _ _ _ _=>trivial⟩
def Evo.refl{F:Hp}(h:DHp P F H):Evo P F H F H:=⟨Same.refl _,h,λ_ _ a b=>⟨a,b⟩⟩
def Evo.trans{F F1 H1 F2 H2:Hp}(a:Evo P F H F1 H1)(b:Evo P F1 H1 F2 H2):Evo P F H F2 H2:=
 ⟨a.ext.trans b.ext,b.hp,λc o h n=>by obtain⟨e,n1⟩:=a.keep c o h n;exact b.keep c o e n1⟩
def Evo.laid{F:Hp}(h:DHp P F H){o:HO}(c:H a=none):Evo P F H (upd F a o) (upd H a o) where
 ext:=λb u e=>by rw[ax (λz=>by subst z;rw[h.sub _ _ e]at c;cases c)];exact e
 hp:=⟨λb u e=>by
   by_cases f:b=a
   ·subst f;rw[aC]at e ⊢;exact e
   ·rw[ax f]at e ⊢;exact h.sub b u e,
  λb u e=>by rw[ax (λz=>by subst z;rw[h.pro _ _ e]at c;cases c)];exact h.pro b u e,
  λb u e=>by rw[ax (λz=>by subst z;rw[h.pro _ _ e]at c;cases c)];exact h.dis b u e⟩
 keep:=λb u e n=>by
  have f:b≠a:=λz=>by subst z;rw[e]at c;cases c
  rw[ax f,ax f];exact⟨e,n⟩
def Evo.side{F:Hp}(h:DHp P F H){o:HO}(c:H a=none):Evo P F H F (upd H a o) where
 ext:=Same.refl _
 hp:=⟨λb u e=>by rw[ax (λz=>by subst z;rw[h.sub _ _ e]at c;cases c)];exact h.sub b u e,
  λb u e=>by rw[ax (λz=>by subst z;rw[h.pro _ _ e]at c;cases c)];exact h.pro b u e,h.dis⟩
 keep:=λb u e n=>by
  have f:b≠a:=λz=>by subst z;rw[e]at c;cases c
  rw[ax f];exact⟨e,n⟩
def DHp.free{F:Hp}(h:DHp P F H)(b:H a=none):F a=none/\P a=none:=⟨h.sub.free b,h.pro.free b⟩
def RepS(K:Kq)(H F:Hp)(v:V)(d:D):Prop:=
 Rep K F v d\/∃(a:Addr) (o:OD) (u:HO),v=.ref a/\F a=none/\H a=some u/\ORep1 K F o u/\o.flat=true/\d=o.d
def RepS.evo{F:Hp}{v:V}{d:D}(r:RepS K H F v d)(e:Evo P F H F' H'):RepS K H' F' v d:=
 r.imp (Rep.same e.ext) λ⟨a,o,u,g,b,h,f,c⟩=>⟨a,o,u,g,(e.keep a u h b).2,(e.keep a u h b).1,f.same e.ext,c⟩
def DInv.slot{F:Hp}{ρ:DF}(I:DInv K P F H ρ σ){o:OD}{v:V}(hv:σ[i]?=some (some v))(h:(∃t,ρ[i]?=some (some (.own o t)))\/ρ[i]?=some (some (.bor o))):∃a,v=.ref a/\ORep K F H (λb=>F b=none) o a:=by
 rcases h with⟨t,h⟩|h
 ·obtain⟨g,c,a,rfl,f,_⟩:=I.at h;rw[hv]at c;cases c;exact⟨a,rfl,f.mono (Same.refl _) λb u q e=>⟨e,q.1⟩⟩
 ·obtain⟨g,c,a,rfl,f⟩:=I.at h;rw[hv]at c;cases c;exact⟨a,rfl,f.mono (Same.refl _) λb u q e=>⟨I.pro b u e,I.dis b u e⟩⟩
def RepS.now{F:Hp}{v:V}{d:D}(I:Same F H)(r:RepS K H F v d):Rep K H v d:=by
 rcases r with r|⟨a,o,u,rfl,_,h3,h4,hfl,rfl⟩
 ·exact r.same I
 ·exact h4.rep hfl h3 I
def RepS.slot{F:Hp}{ρ:DF}(I:DInv K P F H ρ σ){o:OD}{v:V}(hv:σ[i]?=some (some v))(h:(∃t,ρ[i]?=some (some (.own o t)))\/ρ[i]?=some (some (.bor o)))(b:o.flat=true):RepS K H F v o.d:=by obtain⟨a,rfl,g⟩:=I.slot hv h;obtain⟨f,u,e,c⟩:=(ORep.flat b).mp g;exact .inr ⟨a,o,u,rfl,f,e,c,b,rfl⟩
def tD(K:Kq)(f:DF->Option D):TE:=λe H Q=>∃P F a d,f a=some d/\DInv K P F H a e/\∀v c b,Evo P F H c b->Rep K c v d->Q v b
def tR(K:Kq)(f:DF->Option D):TE:=λe H Q=>∃P F b d,f b=some d/\DInv K P F H b e/\∀v c a,Evo P F H c a->RepS K a c v d->Q v a
def tN(K:Kq)(f:DF->Option D):TE:=λc H Q=>∃P F b d,f b=some d/\DInv K P F H b c/\∀v e a,Evo P F H e a->Rep K a v d->Q v a
def tB'(K:Kq)(f:DF->Option Bool):TT:=λe H Q=>∃P F a b,f a=some b/\DInv K P F H a e/\∀g c,Evo P F H g c->Q b c
def tL(K:Kq)(f:DF->Option (List D)):TA:=λh H Q=>∃P F a c,f a=some c/\DInv K P F H a h/\∀b g e,Evo P F H g e->Reps K g b c->Q b e
def PDE(X:Cx)(e:Expr)(f:DF->Option D):Prop:=PE X e (tD X.K f)
def PDR(X:Cx)(e:Expr)(f:DF->Option D):Prop:=PE X e (tR X.K f)
def PDN(X:Cx)(e:Expr)(f:DF->Option D):Prop:=PE X e (tN X.K f)
def PDT(X:Cx)(e:Expr)(f:DF->Option Bool):Prop:=PT X e (tB' X.K f)
def PDA(X:Cx)(es:List Expr)(f:DF->Option (List D)):Prop:=PA X es (tL X.K f)
section
variable  {a:Expr}  
def PE.imp{t t':TE}(h:PE X e t)(i:∀σ H Q,t' σ H Q->t σ H Q):PE X e t':=λp s σ H Q I q=>h p s σ H Q I (i σ H Q q)
def PT.imp{t t':TT}(h:PT X e t)(i:∀σ H Q,t' σ H Q->t σ H Q):PT X e t':=λp s σ H Q I q=>h p s σ H Q I (i σ H Q q)
def PA.imp{t t':TA}(h:PA X es t)(i:∀σ H Q,t' σ H Q->t σ H Q):PA X es t':=λp a s σ H Q I q=>h p a s σ H Q I (i σ H Q q)
noncomputable def getV (i:Nat)(ρ:DF):Option D:=match ρ[i]? with
 |some (some (.v d))=>some d
 |_=>none
noncomputable def aj (i:Nat)(ρ:DF):Option D:=match ρ[i]? with
 |some (some (.v d))=>some d
 |some (some (.own o _))=>if o.flat=true then some o.d else none
 |some (some (.bor o))=>if o.flat=true then some o.d else none
 |_=>none
noncomputable def am (i:Nat)(ρ:DF):Option D:=match ρ[i]? with
 |some (some (.v d))=>some d
 |some (some (.own o _))=>some o.d
 |some (some (.bor o))=>some o.d
 |_=>none
def BX{ρ:DF}{d:D}(h:getV i ρ=some d):ρ[i]?=some (some (.v d)):=by
 unfold getV at h;split at h
 ·rename_i q;cases h;exact q
 ·cases h
def FW(i:Nat)(h:PE X e (cf i)):PDE X e (getV i):=h.imp λf H Q=>un7 λP F g d a I k=>by
 obtain⟨v,c,b⟩:=I.at (BX a)
 exact⟨v,c,k v F H (Evo.refl I.toDHp) b⟩
def FT(i:Nat)(h:PE X e (cf i)):PDR X e (aj i):=h.imp λg H Q=>un7 λP F j d a I k=>by
 unfold aj at a;split at a
 ·rename_i l q;cases a;obtain⟨v,c,f⟩:=I.at q;exact⟨v,c,k v F H (Evo.refl I.toDHp) (.inl f)⟩
 ·rename_i o t q;split at a
  ·rename_i b;cases a;obtain⟨v,c,f⟩:=I.at q;exact⟨v,c,k v F H (Evo.refl I.toDHp) (RepS.slot I c (.inl ⟨t,q⟩) b)⟩
  ·cases a
 ·rename_i o q;split at a
  ·rename_i b;cases a;obtain⟨v,c,f⟩:=I.at q;exact⟨v,c,k v F H (Evo.refl I.toDHp) (RepS.slot I c (.inr q) b)⟩
  ·cases a
 ·cases a
def FK(i:Nat)(h:PE X e (cf i)):PDN X e (am i):=h.imp λg H Q=>un7 λP F j d c I k=>by
 unfold am at c;split at c
 ·rename_i l q;cases c;obtain⟨v,b,f⟩:=I.at q;exact⟨v,b,k v F H (Evo.refl I.toDHp) (Rep.same I.sub f)⟩
 ·rename_i o t q;cases c;obtain⟨v,b,_⟩:=I.at q;obtain⟨a,rfl,f⟩:=I.slot b (.inl ⟨t,q⟩);exact⟨_,b,k _ F H (Evo.refl I.toDHp) (f.rep I.sub λ_ _ _ q=>q)⟩
 ·rename_i o q;cases c;obtain⟨v,b,_⟩:=I.at q;obtain⟨a,rfl,f⟩:=I.slot b (.inr q);exact⟨_,b,k _ F H (Evo.refl I.toDHp) (f.rep I.sub λ_ _ _ q=>q)⟩
 ·cases c
def PDE.r{f:DF->Option D}(h:PDE X e f):PDR X e f:=PE.imp h λj H Q=>un7 λP F a d b I k=>⟨P,F,a,d,b,I,λv i g c r=>k v i g c (.inl r)⟩
def PDR.n{f:DF->Option D}(h:PDR X e f):PDN X e f:=PE.imp h λj H Q=>un7 λP F b d c I k=>⟨P,F,b,d,c,I,λv i g a r=>k v i g a (r.now a.hp.sub)⟩
def PDE.n{f:DF->Option D}(h:PDE X e f):PDN X e f:=h.r.n
def ud{d:D}{v:V}(h:PE X e (tC v))(r:∀F,Rep X.K F v d):PDE X e (λ_=>some d):=h.imp λb H Q=>un7 λP F c f a I k=>by
 cases a;exact k v F H (Evo.refl I.toDHp) (r F)
def af{i j p}:PDE X (.Constant (.int i) j p) (λ_=>some (.int i)):=ud zT λ_=>.int
def jF{i j p}:PDE X (.Constant (.bool i) j p) (λ_=>some (.bl i)):=ud Gb λ_=>.bl
def aG{i j p}:PDE X (.Constant (.str i) j p) (λ_=>some (.str i)):=ud dG λ_=>.str
def Es{j p}:PDE X (.Constant .none j p) (λ_=>some .non):=ud ET λ_=>.non
def OpN2(K:Kq)(r:R2)(f:D->D->Option D):Prop:=
 ∀(P F H:Hp) (x y:V) (b a d:D) (Q:VK),f b a=some d->DHp P F H->Rep K H x b->Rep K H y a->(∀v e c,Evo P F H e c->Rep K e v d->Q v c)->r x y H Q
noncomputable def d2 (f:D->D->Option D)(fa fb:DF->Option D):DF->Option D:=λa=>(fa a).bind λx=>(fb a).bind λy=>f x y
def um{r:R2}{f:D->D->Option D}{fa fb:DF->Option D}(p:OpN2 K r f):∀σ H Q,tD K (d2 f fa fb) σ H Q->tOp r (tN K fa) (tN K fb) σ H Q:=λσ H Q=>un7 λP F a d h I k=>by
 unfold d2 at h;cases c:fa a with
 |none=>rw[c]at h;cases h
 |some j=>
  rw[c]at h;cases b:fb a with
  |none=>rw[Ya,b]at h;cases h
  |some i=>
   rw[Ya,b,Ya]at h;refine⟨P,F,a,j,c,I,λx A B g m=>⟨P,A,a,i,b,I.evo g,λy z u e l=>?_⟩⟩;exact p P z u x y j i d Q h e.hp (m.same (e.same g.hp)) l λv w s q o=>k v w s ((g.trans e).trans q) o
def uZ{op:CmpOp}{r:R2}{f:D->D->Option D}{fa fb:DF->Option D}(h:OpR X (compareOp op) r)(e:OpN2 X.K r f)(i:PDN X a fa)(g:PDN X b fb)(c:behindInMarks op b=false):PDE X (.Compare a [op] [b] pos) (d2 f fa fb):=
 (rl h i g c).imp (um e)
def mT(K:Kq)(r:R2)(f:D->D->Option D):Prop:=
 ∀(P F H:Hp) (h:DF) (g:St) (x y:V) (b a d:D) (Q:VK),f b a=some d->DInv K P F H h g->RepS K H F x b->RepS K H F y a->(∀v e c,Evo P F H e c->Rep K e v d->Q v c)->r x y H Q
def qE{r:R2}{f:D->D->Option D}{fa fb:DF->Option D}(p:mT K r f):∀σ H Q,tD K (d2 f fa fb) σ H Q->tOp r (tR K fa) (tR K fb) σ H Q:=λσ H Q=>un7 λP F a d h I k=>by
 unfold d2 at h;cases c:fa a with
 |none=>rw[c]at h;cases h
 |some j=>
  rw[c]at h;cases b:fb a with
  |none=>rw[Ya,b]at h;cases h
  |some i=>
   rw[Ya,b,Ya]at h;refine⟨P,F,a,j,c,I,λx A B g m=>⟨P,A,a,i,b,I.evo g,λy z u e l=>?_⟩⟩;exact p P z u a σ x y j i d Q h ((I.evo g).evo e) (m.evo e) l λv w s q o=>k v w s ((g.trans e).trans q) o
def jm{op:Operator}{r:R2}{f:D->D->Option D}{fa fb:DF->Option D}(h:OpR X (binaryOp op) r)(c:mT X.K r f)(g:PDR X a fa)(e:PDR X b fb):PDE X (.BinOp a op b pos) (d2 f fa fb):=
 (zk h g e).imp (qE c)
def El{op:CmpOp}{r:R2}{f:D->D->Option D}{fa fb:DF->Option D}(h:OpR X (compareOp op) r)(e:mT X.K r f)(i:PDR X a fa)(g:PDR X b fb)(c:behindInMarks op b=false):PDE X (.Compare a [op] [b] pos) (d2 f fa fb):=
 (rl h i g c).imp (qE e)
noncomputable def asB (f:DF->Option D):DF->Option Bool:=λa=>match f a with
 |some (.bl b)=>some b
 |_=>none
def rN{f:DF->Option D}{ρ:DF}{b:Bool}(h:asB f ρ=some b):f ρ=some (.bl b):=by
 unfold asB at h;split at h
 ·rename_i q;cases h;exact q
 ·cases h
def ku{t:TE}{f:DF->Option D}(h:∀σ H Q,tD K f σ H Q->t σ H Q):∀σ H Q,tB' K (asB f) σ H Q->Az t σ H Q:=λσ H Q=>un7 λP F a b c I k=>by
 refine h σ H _ ⟨P,F,a,.bl b,rN c,I,λv i g e r=>?_⟩;cases r;exact⟨b,rfl,k i g e⟩
def Bl{op:CmpOp}{r:R2}{f:D->D->Option D}{fa fb:DF->Option D}(h:OpR X (compareOp op) r)(e:mT X.K r f)(i:PDR X a fa)(g:PDR X b fb)(c:behindInMarks op b=false):PDT X (.Compare a [op] [b] pos) (asB (d2 f fa fb)):=
 (rD h i g c).imp (ku (qE e))
def lU{op:CmpOp}{r:R2}{f:D->D->Option D}{fa fb:DF->Option D}(h:OpR X (compareOp op) r)(e:OpN2 X.K r f)(i:PDN X a fa)(g:PDN X b fb)(c:behindInMarks op b=false):PDT X (.Compare a [op] [b] pos) (asB (d2 f fa fb)):=
 (rD h i g c).imp (ku (um e))
def ce{f:DF->Option D}(h:PDE X e f)(he:∀w,isTrue e X.env w=(do let v <-w;standAt e.pos;holding [v] (truthy v)):=by intro _;rfl):PDT X e (asB f):=
 (FG h he).imp (ku (t:=tD X.K f) λ_ _ _ q=>q)
def eB{F:Hp}{x:V}{i:Int}(r:RepS K H F x (.int i)):x=.int i:=by
 rcases r with r|⟨_,o,_,_,_,_,_,_,z⟩
 ·cases r;rfl
 ·cases o<;>first|(cases z;done)|(rename_i C _;cases C<;>cases z)
def jH{F:Hp}{x:V}{i:Str}(r:RepS K H F x (.str i)):x=.str i:=by
 rcases r with r|⟨_,o,_,_,_,_,_,_,z⟩
 ·cases r;rfl
 ·cases o<;>first|(cases z;done)|(rename_i C _;cases C<;>cases z)
def gL{F:Hp}{ρ:DF}{x:V}{ds:List D}(I:DInv K P F H ρ σ)(r:RepS K H F x (.lst ds)):∃a vs,x=.ref a/\SqL K H a vs/\Reps K F vs ds:=by
 rcases r with r|⟨a,o,u,rfl,_,h3,h4,hfl,z⟩
 ·cases r with|lst h q=>exact⟨_,_,rfl,I.sub.seq h,q⟩
 ·cases o with
  |lst ds'=>
   cases z;cases u with
   |lst vs=>exact⟨a,vs,rfl,SqL.of h3,h4⟩
   |_=>exact h4.elim
  |obj _ _=>cases hfl
  |lst2 _=>cases hfl
  |tup2 _=>cases hfl
  |_=>cases z
def j6{F:Hp}{ρ:DF}{x:V}{ds:List D}(I:DInv K P F H ρ σ)(r:RepS K H F x (.tup ds)):∃a vs,x=.ref a/\SqT K H a vs/\Reps K F vs ds:=by
 rcases r with r|⟨a,o,u,rfl,_,h3,h4,hfl,z⟩
 ·cases r with|tup h q=>exact⟨_,_,rfl,SqT.of (I.sub _ _ h),q⟩
 ·cases o<;>first|(cases z;done)|cases hfl
def AR{F:Hp}{ρ:DF}{x:V}{ds:List (List Key×D)}(I:DInv K P F H ρ σ)(r:RepS K H F x (.dT ds)):∃a vs,x=.ref a/\H a=some (.dT vs)/\RepsT K F vs ds:=by
 rcases r with r|⟨a,o,u,rfl,_,h3,h4,hfl,z⟩
 ·cases r with|dT h q=>exact⟨_,_,rfl,I.sub _ _ h,q⟩
 ·cases o with
  |dT ds'=>
   cases z;cases u with
   |dT vs=>exact⟨a,vs,rfl,h3,h4⟩
   |_=>exact h4.elim
  |obj _ _=>cases hfl
  |lst2 _=>cases hfl
  |tup2 _=>cases hfl
  |_=>cases z
def qI{F:Hp}{ρ:DF}{x:V}{fs:List (Str×D)}(I:DInv K P F H ρ σ)(r:RepS K H F x (.ins C fs)):∃a dx vs,x=.ref a/\H a=some (.ins C dx vs)/\RepsF K F vs fs:=by
 rcases r with r|⟨a,o,u,rfl,_,h3,b,hfl,z⟩
 ·cases r with|ins h q=>exact⟨_,_,_,rfl,I.sub _ _ h,q⟩
 ·cases o with
  |ins C' fs'=>
   cases z;cases u with
   |ins C'' dx vs=>(obtain⟨rfl,b⟩:=b;exact⟨a,dx,vs,rfl,h3,b⟩)
   |_=>exact b.elim
  |obj _ _=>cases hfl
  |lst2 _=>cases hfl
  |tup2 _=>cases hfl
  |_=>cases z
def fI(C:Int->Int->Bool)(g:Int->Int->D):D->D->Option D
 |.int i,.int j=>if C i j=true then some (g i j)else none
 |_,_=>none
def mq{C:Int->Int->Prop}{a:Int->Int->Bool}{g:Int->Int->V}{g':Int->Int->D}(l:∀i j,a i j=true->C i j)(e:∀F i j,Rep K F (g i j) (g' i j)):mT K (rI C g) (fI a g'):=by
 intro P F H o m x y q p d Q h I c b k;unfold fI at h;split at h
 ·rename_i i j;split at h
  ·rename_i f;cases h;exact⟨i,j,eB c,eB b,l i j f,k _ F H (Evo.refl I.toDHp) (e F i j)⟩
  ·cases h
 ·cases h
def fI0(g:Int->Int->D):D->D->Option D
 |.int i,.int j=>some (g i j)
 |_,_=>none
def qJ{g:Int->Int->V}{g':Int->Int->D}(c:∀F i j,Rep K F (g i j) (g' i j)):mT K (rI0 g) (fI0 g'):=by
 intro P F H f e x y m l d Q h I b a k;unfold fI0 at h;split at h
 ·rename_i i j;cases h;exact⟨i,j,eB b,eB a,k _ F H (Evo.refl I.toDHp) (c F i j)⟩
 ·cases h
def jA:=fI0 λi j=>.int (i-j)
def e_:=fI (λi j=>decide ((-(2^64)<i/\i<2^64)\/(-(2^64)<j/\j<2^64))) λi j=>.int (i*j)
def bu:=fI (λ_ j=>decide (0<j/\j<1073741824)) λi j=>.int (i/j)
def aA:=fI (λ_ j=>decide (0<j)) λi j=>.int (i%j)
def oK:=fI (λi j=>decide (0<=j/\j<=1000000/\i.natAbs<2^64)) λi j=>.int (i^j.toNat)
def ltI:=fI0 λi j=>.bl (decide (i<j))
def leI:=fI0 λi j=>.bl (decide (i<=j))
def gtI:=fI0 λi j=>.bl (decide (j<i))
def jC{fa fb:DF->Option D}(c:PDR X a fa)(h:PDR X b fb):PDE X (.BinOp a .Sub b pos) (d2 jA fa fb):=jm Ft (qJ λ_ _ _=>.int) c h
def h8{fa fb:DF->Option D}(e:PDR X a fa)(c:PDR X b fb):PDE X (.BinOp a .Mult b pos) (d2 e_ fa fb):=jm FL (mq (λ_ _ h=>by have q:=YV h;exact q) λ_ _ _=>.int) e c
def cH{fa fb:DF->Option D}(e:PDR X a fa)(c:PDR X b fb):PDE X (.BinOp a .FloorDiv b pos) (d2 bu fa fb):=jm Bk (mq (λ_ _ h=>by have q:=YV h;exact q) λ_ _ _=>.int) e c
def a7{fa fb:DF->Option D}(e:PDR X a fa)(c:PDR X b fb):PDE X (.BinOp a .Mod b pos) (d2 aA fa fb):=jm yw (mq (λ_ _ h=>by have q:=YV h;exact q) λ_ _ _=>.int) e c
def qN{fa fb:DF->Option D}(e:PDR X a fa)(c:PDR X b fb):PDE X (.BinOp a .Pow b pos) (d2 oK fa fb):=jm Er (mq (λ_ _ h=>by have q:=YV h;exact q) λ_ _ _=>.int) e c
end
def tO(K:Kq)(f:DF->Option OD):TE:=λh H Q=>∃P F g o,f g=some o/\DInv K P F H g h /\
 ∀a e c,Evo P F H e c->ORep K e c (λb=>H b=none/\e b=none) o a->Q (.ref a) c
def PDO(X:Cx)(e:Expr)(f:DF->Option OD):Prop:=PE X e (tO X.K f)
def asO(f:DF->Option OD):DF->Option D:=λa=>(f a).map OD.d
def Evo.back{F:Hp}(h:DHp P F H)(e:Evo P F H F' H')(n:H' a=none):H a=none:=by
 cases q:H a with
 |none=>rfl
 |some o=>rw[e.same h a o q]at n;cases n
open Classical in
noncomputable def zZ (F H:Hp)(ow:Addr->Prop):Hp:=λb=>if ow b then H b else F b
def gH{F:Hp}{ow:Addr->Prop}{b:Addr}(h:ow b):zZ F H ow b=H b:=Yi h
def g7{F:Hp}{ow:Addr->Prop}{b:Addr}(h:¬ow b):zZ F H ow b=F b:=Yr h
def dB{F:Hp}{ow:Addr->Prop}(h:∀b,ow b->F b=none):Same F (zZ F H ow):=λb u e=>by
 by_cases q:ow b
 ·rw[h b q]at e;cases e
 ·rw[g7 q];exact e
def Evo.freeze{F:Hp}(h0:DHp P F H)(e:Evo P F H F' H')(ow:Addr->Prop)(a:∀b,ow b->H b=none/\F' b=none):Evo P F H (zZ F' H' ow) H' where
 ext:=e.ext.trans (dB λb q=>(a b q).2)
 hp:=⟨λb u h=>by
   by_cases q:ow b
   ·rw[gH q]at h;exact h
   ·rw[g7 q]at h;exact e.hp.sub b u h,e.hp.pro,λb u h=>by
   rw[g7 λq=>by rw[(h0.pro.free (a b q).1)]at h;cases h];exact e.hp.dis b u h⟩
 keep:=λb u h n=>by
  obtain⟨f,c⟩:=e.keep b u h n;refine⟨f,?_⟩;rw[g7 λq=>by rw[(a b q).1]at h;cases h];exact c
def eV{F:Hp}{o:HO}(h:F a=none):Same F (upd F a o):=λb u e=>by rw[ax (aW e h)];exact e
section
variable     {aR:List Stmt} 
def PDO.v{f:DF->Option OD}(h:PDO X e f):PDE X e (asO f):=PE.imp h λw H Q=>un7 λP F i d c I k=>by
 unfold asO at c;cases q:f i with
 |none=>rw[q]at c;cases c
 |some o=>
  rw[q]at c;cases c;refine⟨P,F,i,o,q,I,λa g s p j=>?_⟩;have l:∀b,(H b=none/\g b=none)->H b=none/\g b=none:=λ_ q=>q
  exact k (.ref a) _ s (p.freeze I.toDHp (λb=>H b=none/\g b=none) l) (j.rep (dB λb q=>q.2) λb u q m=>by rw[gH q];exact m)
def asL(f:DF->Option (List D)):DF->Option OD:=λa=>(f a).map .lst
inductive RES where
 |nx (ρ:DF)|rt (x:DV) (ρ:DF)|bk (ρ:DF)|ct (ρ:DF)
abbrev Dd:=DF->Option D
abbrev Dw:=DF->Option RES
abbrev Dk:=DF->Option Bool
abbrev Dv:=DF->Option (List DV)
abbrev Dl:=DF->Option (List D)
abbrev Dm:=List DV->Option DV
abbrev Dq:=D->DF->Option DF
abbrev Do:=DF->Option OD
abbrev Dz:=OD->List DV->Option (OD×D)
abbrev Dy:=D->D->Option D
def EndsD(K:Kq)(P F:Hp)(E:Ends):RES->Prop
 |.nx ρ=>∀b a H,Same F a->DInv K P a H ρ b->E.nx b H
 |.bk ρ=>∀b a H,Same F a->DInv K P a H ρ b->E.bk b H
 |.ct ρ=>∀b a H,Same F a->DInv K P a H ρ b->E.ct b H
 |.rt x ρ=>∀v b a H,Same F a->DInv K P a H ρ b->DVRep K P a H uU x v->E.rt v H
def EndsD.ext{F F1:Hp}{E:Ends}{r:RES}(h:EndsD K P F E r)(e:Same F F1):EndsD K P F1 E r:=by
 cases r with
 |nx ρ=>exact λa c H b I=>h a c H (e.trans b) I
 |bk ρ=>exact λa c H b I=>h a c H (e.trans b) I
 |ct ρ=>exact λa c H b I=>h a c H (e.trans b) I
 |rt x ρ=>exact λv a c H b I r=>h v a c H (e.trans b) I r
def tS(K:Kq)(g:Dw):TS:=λE b H=>∃P F a r,g a=some r/\DInv K P F H a b/\EndsD K P F E r
def PD1(X:Cx)(st:Stmt)(g:Dw):Prop:=PS X st (tS X.K g)
def PDS(X:Cx)(sts:List Stmt)(g:Dw):Prop:=PSs X sts (tS X.K g)
def PS.imp{t t':TS}(h:PS X st t)(i:∀E σ H,t' E σ H->t E σ H):PS X st t':=λp s σ H E I q=>h p s σ H E I (i E σ H q)
def PSs.imp{t t':TS}(h:PSs X sts t)(i:∀E σ H,t' E σ H->t E σ H):PSs X sts t':=λp s σ H E I q=>h p s σ H E I (i E σ H q)
def dNx:DF->Option RES:=λρ=>some (.nx ρ)
def Hj:∀E σ H,tS K dNx E σ H->E.nx σ H:=λE σ H=>un7 λP F a r h I k=>by
 cases h;exact k σ F H (Same.refl _) I
def aJ:PDS X [] dNx:=PSs.imp vW Hj
noncomputable def ag (g h:Dw):DF->Option RES:=λa=>match g a with
 |some (.nx ρ')=>h ρ'
 |r=>r
def ac{g h:Dw}(h1:PD1 X st g)(h2:PDS X aR h):PDS X (st::aR) (ag g h):=PSs.imp (sK h1 h2) λE l H=>un7 λP F b r c I k=>by
 unfold ag at c;split at c
 ·rename_i a q;exact⟨P,F,b,_,q,I,λf j m e i=>⟨P,j,a,r,c,i,k.ext e⟩⟩
 ·rename_i q;refine⟨P,F,b,r,c,I,?_⟩;cases r with
  |nx a=>exact absurd c (q a)
  |bk b=>exact k
  |ct b=>exact k
  |rt x b=>exact k
def ai{g:Dw}(h1:PD1 X st g):PDS X [st] g:=PSs.imp (qq h1) λ_ _ _ q=>q
noncomputable def bO (f:Dd):DF->Option RES:=λa=>(f a).map λd=>.rt (.v d) a
def a9{f:Dd}(h:PDE X e f):PD1 X (.Return (some e) pos) (bO f):=PS.imp (mW h) λE g H=>un7 λP F b r a I k=>by
 unfold bO at a;cases q:f b with
 |none=>rw[q]at a;cases a
 |some d=>
  rw[q]at a;cases a;exact⟨P,F,b,d,q,I,λv l j c i=>k v g l j c.ext (I.evo c) i⟩
def ll(f:Do):DF->Option RES:=λa=>(f a).map λo=>.rt (.own o none) a
def rf{f:Do}(h:PDO X e f):PD1 X (.Return (some e) pos) (ll f):=PS.imp (mW h) λE j H=>un7 λP F g r c I k=>by
 unfold ll at c;cases q:f g with
 |none=>rw[q]at c;cases c
 |some o=>
  rw[q]at c;cases c;exact⟨P,F,g,o,q,I,λa s p i l=>k (.ref a) j s p i.ext (I.evo i) ⟨a,rfl,l.mono (Same.refl _) λb u q m=>⟨m,q.2,I.pro.free q.1,trivial⟩,λ_ z=>nomatch z⟩⟩
def tJ(i:Nat):DF->Option RES:=λa=>match a[i]? with
 |some (some x)=>some (.rt x a)
 |_=>none
def v7(i:Nat)(h:PE X e (cf i)):PD1 X (.Return (some e) pos) (tJ i):=PS.imp (mW h) λE b H=>un7 λP F g r a I k=>by
 unfold tJ at a;split at a
 ·rename_i x q;cases a;obtain⟨v,f,c⟩:=I.at q;exact⟨v,f,k v b F H (Same.refl _) I c⟩
 ·cases a
def fS{b:Type}{l:List b}{x y:b}(h:(l.set i x)[j]?=some y):(i=j/\y=x/\i<l.length)\/(i≠j/\l[j]?=some y):=by
 by_cases a:i=j
 ·subst a;have c:i<l.length:=by have:=(YI.mp h).1;rwa [Zb]at this
  rw[Zw c]at h;exact .inl ⟨rfl,(Yu h).symm,c⟩
 ·rw[YT a]at h;exact .inr ⟨a,h⟩
def DInv.setO{F:Hp}{ρ:DF}(I:DInv K P F H ρ σ)(i:Nat){v:V}{x:DV}(f:Addr->Prop)(g:∀(j:Nat) (y:DV) (w:V) (O:Addr->Option Nat),j≠i->ρ[j]?=some (some y)->DVRep K P F H (λb=>O b=some j) y w->DVRep K P F H (λb=>O b=some j/\¬f b) y w)(r:DVRep K P F H f x v) :
  DInv K P F H (ρ.set i (some x)) (σ.set i (some v)):=by
 obtain⟨O,h⟩:=I.rep;refine⟨I.toDHp,by rw[Zb,Zb];exact I.len,?_⟩
 classical
 refine⟨λb=>if f b then some i else if O b=some i then none else O b,λj y m=>?_⟩;rcases fS m with⟨rfl,e,l⟩|⟨a,c⟩
 ·cases e;refine⟨v,by rw[Zw (by rw[<-I.len];exact l)],r.imp λb u _ _ _ q=>Yi q⟩
 ·obtain⟨w,p,o⟩:=h j y c;refine⟨w,by rw[YT a];exact p,(g j y w O (ZX a) c o).imp λb u _ _ _ q=>?_⟩;show(if f b then some i else if O b=some i then none else O b)=some j;rw[Yr q.2,Yr (by rw[q.1];intro z;exact a (Yu z).symm),q.1]
def DInv.setV{F:Hp}{ρ:DF}(I:DInv K P F H ρ σ)(i:Nat){v:V}{d:D}(r:Rep K F v d):DInv K P F H (ρ.set i (some (.v d))) (σ.set i (some v)):=
 I.setO i (λ_=>False) (λj y w O _ _ q=>q.imp λb u _ _ _ z=>⟨z,id⟩) r
def DInv.setN{F:Hp}{ρ:DF}(I:DInv K P F H ρ σ)(ev:Evo P F H F' H')(i:Nat){o:OD}(l:ORep K F' H' (λb=>H b=none/\F' b=none) o a):DInv K P F' H' (ρ.set i (some (.own o none))) (σ.set i (some (.ref a))):=by
 obtain⟨O,h⟩:=I.rep;refine⟨ev.hp,by rw[Zb,Zb];exact I.len,?_⟩
 classical
 refine⟨λb=>if H b=none then some i else if O b=some i then none else O b,λj y p=>?_⟩;rcases fS p with⟨rfl,e,m⟩|⟨c,f⟩
 ·cases e;refine⟨.ref a,by rw[Zw (by rw[<-I.len];exact m)],a,rfl,l.mono (Same.refl _) λb u q g=>⟨g,q.2,I.pro.free q.1,Yi q.1⟩,λ_ z=>nomatch z⟩
 ·obtain⟨w,A,x⟩:=h j y f;refine⟨w,by rw[YT c];exact A,?_⟩;have s:DVRep K P F H (λb=>(if H b=none then some i else if O b=some i then none else O b)=some j) y w:=x.imp λb u _ _ g q=>by
   show(if H b=none then some i else if O b=some i then none else O b)=some j;rw[Yr (by rw[g];simp),Yr (by rw[q];intro z;exact c (Yu z).symm),q]
  exact s.evo ev
def setV(i:Nat)(d:D)(ρ:DF):Option DF:=some (ρ.set i (some (.v d)))
noncomputable def aT (i:Nat)(f:Dd):DF->Option RES:=λa=>(f a).map λd=>.nx (a.set i (some (.v d)))
def Et{f:Dd}:∀E σ H,tS K (aT i f) E σ H->Du (tD K f) (pq i) E σ H:=λE σ H=>un7 λP F a r h I k=>by
 unfold aT at h;cases q:f a with
 |none=>rw[q]at h;cases h
 |some d=>
  rw[q]at h;cases h;exact⟨P,F,a,d,q,I,λv g c e b=>k _ g c e.ext ((I.evo e).setV i b)⟩
def Fz{f:Dd}(hN:X.N.Nodup)(hi:X.N[i]?=some x)(hx:Loc X.env.scope x)(he:PDE X e f)(h:swapsWith e (some (.Name x pos')) pos.line X.env=pure false:=by rfl)(a:FnL X x:=by first|exact .inl rfl|exact .inr rfl|assumption) :
  PD1 X (.Assign [.Name x pos'] e pos) (aT i f):=PS.imp (mw hN hi hx he h a) Et
def dC(i:Nat)(f:Do):DF->Option RES:=λa=>(f a).map λo=>.nx (a.set i (some (.own o none)))
def EY{f:Do}:∀E σ H,tS K (dC i f) E σ H->Du (tO K f) (pq i) E σ H:=λE σ H=>un7 λP F b r h I k=>by
 unfold dC at h;cases q:f b with
 |none=>rw[q]at h;cases h
 |some o=>
  rw[q]at h;cases h;exact⟨P,F,b,o,q,I,λa j g e c=>k _ j g e.ext (I.setN e i c)⟩
def vC{f:Do}(hN:X.N.Nodup)(hi:X.N[i]?=some x)(hx:Loc X.env.scope x)(he:PDO X e f)(h:swapsWith e (some (.Name x pos')) pos.line X.env=pure false:=by rfl)(a:FnL X x:=by first|exact .inl rfl|exact .inr rfl|assumption) :
  PD1 X (.Assign [.Name x pos'] e pos) (dC i f):=PS.imp (mw hN hi hx he h a) EY
def tT(i:Nat)(g:Dw):DF->Option RES:=λa=>match a[i]? with
 |some (some (.own o none))=>g (a.set i (some (.v o.d)))
 |some (some (.v d))=>g a
 |_=>none
def DInv.frz{F:Hp}{ρ:DF}(I:DInv K P F H ρ σ){o:OD}{t:Option Addr}(h:ρ[i]?=some (some (.own o t))):∃F',Same F F'/\DInv K P F' H (ρ.set i (some (.v o.d))) σ:=by
 obtain⟨O,x⟩:=I.rep;have f:∀b,(F b=none/\P b=none/\O b=some i)->F b=none:=λb q=>q.1
 refine⟨zZ F H (λb=>F b=none/\P b=none/\O b=some i),dB f,⟨λb u q=>?_,I.pro,λb u q=>?_⟩,by rw[Zb];exact I.len,O,λj y A=>?_⟩
 ·by_cases c:F b=none/\P b=none/\O b=some i
  ·rw[gH (ow:=λb=>F b=none/\P b=none/\O b=some i) c]at q;exact q
  ·rw[g7 (ow:=λb=>F b=none/\P b=none/\O b=some i) c]at q;exact I.sub b u q
 ·rw[g7 (ow:=λb=>F b=none/\P b=none/\O b=some i) λc=>by rw[c.2.1]at q;cases q];exact I.dis b u q
 ·rcases fS A with⟨rfl,e,B⟩|⟨p,m⟩
  ·cases e;obtain⟨v,w,a,rfl,l,_⟩:=x i _ h;exact⟨_,w,l.rep (dB f) λb u q g=>by rw[gH (ow:=λb=>F b=none/\P b=none/\O b=some i) q];exact g⟩
  ·obtain⟨v,w,l⟩:=x j y m;refine⟨v,w,?_⟩;cases y with
   |v d=>exact Rep.same (dB f) l
   |own o' t'=>
    obtain⟨a,rfl,s,z⟩:=l;exact⟨a,rfl,s.mono (dB f) λb u q g=>⟨g,by
     rw[g7 (ow:=λb=>F b=none/\P b=none/\O b=some i) λc=>by rw[q.2.2]at c;exact p (Yu c.2.2).symm];exact q.1,q.2⟩,z⟩
   |bor o'=>
    obtain⟨a,rfl,s⟩:=l;exact⟨a,rfl,s.mono (dB f) λb u q g=>⟨g,q⟩⟩
def E5{g:Dw}:∀E σ H,tS K (tT i g) E σ H->tS K g E σ H:=λE σ H=>un7 λP F a r h I k=>by
 unfold tT at h;split at h
 ·rename_i o q;obtain⟨c,e,b⟩:=I.frz q;exact⟨P,c,_,r,h,b,k.ext e⟩
 ·exact⟨P,F,a,r,h,I,k⟩
 ·cases h
def qw(i:Nat){g:Dw}(h:PD1 X st g):PD1 X st (tT i g):=PS.imp h E5
def cC:DF->Option RES:=λ_=>none
def b6:PD1 X st cC:=PS.imp yv λ_ _ _ ⟨_,_,_,_,h,_⟩=>by cases h
def wj(f:Dd):DF->Option RES:=λρ=>(f ρ).map λ_=>.nx ρ
def B6{f:Dd}(h:PDE X e f)(i:swapsWith e none pos.line X.env=pure false:=by rfl):PD1 X (.Expr e pos) (wj f):=PS.imp (c9 h i) λE g H=>un7 λP F b r a I k=>by
 unfold wj at a;cases q:f b with
 |none=>rw[q]at a;cases a
 |some d=>
  rw[q]at a;cases a;exact⟨P,F,b,d,q,I,λv l j c _=>k g l j c.ext (I.evo c)⟩
def dIf(c:Dk)(g h:Dw):DF->Option RES:=λa=>(c a).bind λb=>if b=true then g a else h a
def bt{a b:List Stmt}{fc:Dk}{g h:Dw}(l:PDT X c fc)(o:PDS X a g)(m:PDS X b h):PD1 X (.If c a b pos) (dIf fc g h):=PS.imp (ze l o m) λE p H=>un7 λP F f r e I k=>by
 unfold dIf at e;cases q:fc f with
 |none=>rw[q]at e;cases e
 |some b=>
  rw[q,Ya]at e;refine⟨P,F,f,b,q,I,λj s i=>?_⟩;cases b with
  |true=>
   rw[Yi rfl]at e ⊢;exact⟨P,j,f,r,e,I.evo i,k.ext i.ext⟩
  |false=>
   rw[Yr Ym]at e ⊢;exact⟨P,j,f,r,e,I.evo i,k.ext i.ext⟩
def BZ(K:Kq)(P:Hp)(J:It)(F:Hp)(ds:List D):Prop:=
 ∀a H,Same F a->DHp P a H->∀i:Nat,(∀d,ds[i]?=some d->J.go i H/\∀x b,J.yld i H x b->∃c,Evo P a H c b/\Rep K c x d)/\(ds.length<=i->J.stop i H)
def tI(K:Kq)(f:Dl):TI:=λc H R=>∃P F a b,f a=some b/\DInv K P F H a c/\∀(J:It) F' H',Evo P F H F' H'->BZ K P J F' b->R J H'
def PDI(X:Cx)(tg iter:Expr)(f:Dl):Prop:=PI X tg iter (tI X.K f)
def PI.imp{t t':TI}(h:PI X tg iter t)(i:∀σ H R,t' σ H R->t σ H R):PI X tg iter t':=λp s σ H R I q=>h p s σ H R I (i σ H R q)
def tG(K:Kq)(is:List Nat)(st:Dq):TG:=λv c H Q=>∃P F f d b,st d f=some b/\DInv K P F H f c/\Rep K F v d/\∀a g e,Evo P F H g e->DInv K P g e b a->a.length=c.length->(∀j,j∉is->a[j]?=c[j]?)->Q a e
def PDG(X:Cx)(tg:Expr)(is:List Nat)(st:Dq):Prop:=PG X tg (tG X.K is st)
def PG.imp{t t':TG}(h:PG X tg t)(i:∀v σ H Q,t' v σ H Q->t v σ H Q):PG X tg t':=λp s σ H v u Q I r q=>h p s σ H v u Q I r (i v σ H Q q)
def zm(hN:X.N.Nodup)(hi:X.N[i]?=some x)(hx:Loc X.env.scope x)(e:FnL X x:=by first|exact .inl rfl|exact .inr rfl|assumption):PDG X (.Name x pos) [i] (setV i):=
 PG.imp (wC hN hi hx e) λv f H Q h=>by
  obtain⟨P,F,g,d,a,b,I,r,k⟩:=h;cases b;exact k _ F H (Evo.refl I.toDHp) (I.setV i r) (Zb ..) λj c=>by rw[YT (λz=>c (by rw[z];exact ZH _))]
noncomputable def c7 (st:Dq)(body:Dw):List D->DF->Option RES
 |[],ρ=>some (.nx ρ)
 |d::ds,ρ=>match st d ρ with
  |none=>none
  |some a=>match body a with
   |some (.nx ρ')=>c7 st body ds ρ'
   |some (.ct ρ')=>c7 st body ds ρ'
   |some (.bk ρ')=>some (.nx ρ')
   |r=>r
def jD(it:Dl)(st:Dq)(body:Dw):DF->Option RES:=λa=>(it a).bind λb=>c7 st body b a
def E4{f:Dl}{is:List Nat}{st:Dq}{g:Dw}(hp:PassesOwn (model X.prog X.w) X.A X.env X.xe)(hc:X.calm=true)(hi:PDI X tg iter f)(hg:PDG X tg is st)(hb:PDS X body g)
  (hs:FsI iter X:=by intro _;rfl):PD1 X (.For tg iter body [] pos) (jD f st g):=PS.imp (Fc hp hc hi hg hb hs) λE σ H=>un7 λP F ρ r Q I k=>by
 unfold jD at Q;cases q:f ρ with
 |none=>rw[q]at Q;cases Q
 |some a=>
  rw[q,Ya]at Q;refine⟨P,F,ρ,a,q,I,λJ F1 H1 S ok=>?_⟩;refine⟨λi m j Z=>m=a.length-i/\i<=a.length/\∃M c,Same F1 M/\DInv X.K P M Z c j/\c7 st g (a.drop i) c=some r,⟨_,rfl,YS _,F1,ρ,Same.refl _,I.evo S,Q⟩,?_⟩;rintro i m j Z ⟨rfl,hil,M,c,U,I',h⟩;obtain⟨ok1,ok2⟩:=ok M Z U I'.toDHp i;by_cases p:i<a.length
  ·have hd:a[i]?=some a[i]:=Yz p;obtain⟨go,yl⟩:=ok1 _ hd;have u:a.drop i=a[i]::a.drop (i+1):=List.drop_eq_getElem_cons p;rw[u]at h;unfold c7 at h;cases o:st a[i] c with
   |none=>rw[o]at h;cases h
   |some l=>
    rw[o]at h;dsimp only at h;have hE:Same F M:=S.ext.trans U;refine .inr ⟨go,λN Y=>∃L e,Same F1 L/\DInv X.K P L Y e N/\c7 st g (a.drop (i+1)) e=some r,λN Y ⟨L,e,s2,I2,hf2⟩=>⟨a.length-(i+1),by omega,rfl,p,L,e,s2,I2,hf2⟩,λx Y hy=>?_⟩;obtain⟨L,R,rx⟩:=yl x Y hy;refine⟨P,L,c,a[i],l,o,I'.evo R,rx,λσ3 F3 H3 ev3 I3 _ _=>?_⟩;have s:Same F1 F3:=U.trans (R.ext.trans ev3.ext);cases y:g l with
    |none=>rw[y]at h;cases h
    |some O=>
     rw[y]at h;refine⟨P,F3,l,O,y,I3,?_⟩;cases O with
     |nx ρ4=>exact λb C T z B=>⟨C,ρ4,s.trans z,B,h⟩
     |ct ρ4=>exact λb C T z B=>⟨C,ρ4,s.trans z,B,h⟩
     |bk ρ4=>
      cases h;exact λb C T z B=>k b C T (S.ext.trans (s.trans z)) B
     |rt x4 ρ4=>
      cases h;exact λv4 b C T z B r4=>k v4 b C T (S.ext.trans (s.trans z)) B r4
  ·have hz:a.drop i=[]:=List.drop_eq_nil_of_le (by omega);rw[hz]at h;cases h;exact .inl ⟨ok2 (by omega),k j M Z (S.ext.trans U) I'⟩
noncomputable def bv (c:Dk)(body:Dw):Nat->DF->Option RES
 |0,_=>none
 |n+1,ρ=>match c ρ with
  |none=>none
  |some false=>some (.nx ρ)
  |some true=>match body ρ with
   |some (.nx ρ')=>bv c body n ρ'
   |some (.ct ρ')=>bv c body n ρ'
   |some (.bk ρ')=>some (.nx ρ')
   |r=>r
def gB(n:Nat){fc:Dk}{g:Dw}(Y:PassesOwn (model X.prog X.w) X.A X.env X.xe)(Z:PDT X c fc)(hb:PDS X body g):PD1 X (.While c body [] pos) (bv fc g n):=PS.imp (sW Y Z hb) λE σ H=>un7 λP F R r U I k=>by
 refine⟨λm j O=>∃C a,Same F C/\DInv X.K P C O a j/\bv fc g m a=some r,⟨n,F,R,Same.refl _,I,U⟩,?_⟩;rintro m j O ⟨C,a,M,J,e⟩;cases m with
 |zero=>cases e
 |succ m=>
  unfold bv at e;cases l:fc a with
  |none=>rw[l]at e;cases e
  |some b=>
   rw[l]at e;refine⟨P,C,a,b,l,J,λL H2 i=>?_⟩;cases b with
   |false=>
    rw[Yr Ym];cases e;exact k j L H2 (M.trans i.ext) (J.evo i)
   |true=>
    rw[Yi rfl];refine⟨λu N=>∃Q x,Same F Q/\DInv X.K P Q N x u/\bv fc g m x=some r,λu N h=>⟨m,Xp m,h⟩,?_⟩;have B:Same F L:=M.trans i.ext;dsimp only at e;cases o:g a with
    |none=>rw[o]at e;cases e
    |some y=>
     rw[o]at e;refine⟨P,L,a,y,o,J.evo i,?_⟩;cases y with
     |nx ρ4=>exact λf s z p q=>⟨s,ρ4,B.trans p,q,e⟩
     |ct ρ4=>exact λf s z p q=>⟨s,ρ4,B.trans p,q,e⟩
     |bk ρ4=>
      cases e;exact λf s z p q=>k f s z (B.trans p) q
     |rt x4 ρ4=>
      cases e;exact λS f s z p q T=>k S f s z (B.trans p) q T
end
end L2
variable{ρ ρ':DF}{a e1 e2 e0 e3 e4:Expr}{fa fb fe fc fv fx f1 f4 f2:DF->Option L2.D}{ds T U O as sg:List L2.D}{g:DF->Option RES}{l kd is:List Nat}{xs:List DV}{c:DF->Option Bool}{ns:List Int}{h y dy d':L2.D}{spos p2 p1 pos2 p' p3 p4 rpos:Pos}{m:List DV->Option DV}{mM:OD->List DV->Option (OD×L2.D)}{mn q er tn on c1 c2:Str}{B Q:List (Key×L2.D)}{ob:Obj}{k' ep ie kk it io lo hi:Nat}{I f0 c0 A1 A2 f':Addr}{A' o' st':OD}{outer:List Env}{t1 t2:Option Addr}{cd a0 pm:Value}{wr:List Addr}{bg:List (Int×Int)}{elts:List Expr}{gR:Addr->V->L2.D->DF->Option RES}{here oth z:Int}{H1 F1 H2 F2:Hp}{fo:DF->Option OD}{S:DV}{sd:Stmt}{x0 x1:Option DV}{rz:List DV->Option Nat}{cs:List V}
namespace L2
open PySem PySem.Spec PyProof.Rows
def gd(F H:Hp):Hp:=λa=>match F a with
 |none=>H a
 |some _=>none
def iT{F:Hp}{a:Addr}{o:HO}:gd F H a=some o↔F a=none/\H a=some o:=by
 unfold gd;cases q:F a with
 |none=>simp
 |some u=>simp
def fL{F:Hp}(s:Same F H):DHp (gd F H) F H:=⟨s,λa o e=>(iT.mp e).2,λa o e=>(iT.mp e).1⟩
def DHp.gd{F:Hp}(h:DHp P F H)(e:Same F F')(g:DHp (gd F H) F' H'):Evo P F H F' H' where
 ext:=e
 hp:=⟨g.sub,λa o q=>g.pro a o (iT.mpr ⟨h.dis a o q,h.pro a o q⟩),λa o q=>g.dis a o (iT.mpr ⟨h.dis a o q,h.pro a o q⟩)⟩
 keep:=λa o q n=>⟨g.pro a o (iT.mpr ⟨n,q⟩),g.dis a o (iT.mpr ⟨n,q⟩)⟩
def Evo.change{b F:Hp}(e:Evo P F H F' H')(h:DHp b F H):Evo b F H F' H':=
 ⟨e.ext,⟨e.hp.sub,λa o q=>(e.keep a o (h.pro a o q) (h.dis a o q)).1,λa o q=>(e.keep a o (h.pro a o q) (h.dis a o q)).2⟩,e.keep⟩
def DP:DV->Bool
 |.own _ _=>true
 |_=>false
inductive DVs (K:PySem.W.Frag) (P F H:Hp):List DV->List V->Prop
 |nil:DVs K P F H [] []
 |cons {x:DV}{v:V}{xs:List DV}{vs:List V}:DP x=false->DVRep K P F H uU x v->DVs K P F H xs vs->DVs K P F H (x::xs) (v::vs)
def DVs.length{F:Hp}(h:DVs K P F H xs vs):xs.length=vs.length:=by
 induction h with
 |nil=>rfl
 |cons _ _ _ ih=>exact YM Nat.succ ih
def DVs.get{F:Hp}{x:DV}(h:DVs K P F H xs vs)(e:xs[i]?=some x):DP x=false/\∃v,vs[i]?=some v/\DVRep K P F H uU x v:=by
 induction h generalizing i with
 |nil=>exact nomatch e
 |cons h r _ ih=>
  cases i with
  |zero=>obtain rfl:=Yu e;exact⟨h,_,rfl,r⟩
  |succ i=>exact ih e
def spD(K:Kq)(m:Dm):Sp:=λe H Q _=>∃P F c x,m c=some x/\DHp P F H/\DVs K P F H c e/\∀v b a,Same F b->DHp P b a->DVRep K P b a uU x v->Q v a
def bB(n p:Nat)(xs:List DV):DF:=xs.map some++List.replicate (n-p) none
def dW:Option RES->Option DV
 |some (.rt x _)=>some x
 |some (.nx _)=>some (.v .non)
 |_=>none
noncomputable def mOf (n p:Nat)(g:Dw):List DV->Option DV:=λx=>if x.length=p then dW (g (bB n p x))else none
def gZ{n p:Nat}{x:DV}(h:(bB n p xs)[i]?=some (some x)):xs[i]?=some x:=by
 unfold bB at h;by_cases a:i<xs.length
 ·rw[ZA (by simpa using a),YG]at h;cases q:xs[i]? with
  |none=>rw[q]at h;cases h
  |some y=>rw[q]at h;cases h;rfl
 ·rw[Zv (by simpa using a),ZV]at h;split at h<;>cases h
def eM{v:V}(h:vs[i]?=some v):(start N vs)[i]?=some (some v):=by unfold start;have a:i<vs.length:=(YI.mp h).1;rw[ZA (by simpa using a),YG,h];rfl
def DInv.start{F:Hp}(N:List Str)(p:Nat)(h:DHp P F H)(r:DVs K P F H xs vs)(b:xs.length=p):DInv K P F H (bB N.length p xs) (start N vs):=by
 refine⟨h,?_,λ_=>none,λi x e=>?_⟩
 ·unfold bB L2.start;rw[Yb,Yb,Yc,Yc,Yo,Yo,r.length,<-r.length,b]
 ·obtain⟨c,v,f,a⟩:=r.get (gZ e);refine⟨v,eM f,?_⟩;cases x with
  |own o t=>cases c
  |v d=>exact a
  |bor o=>exact a
def Fun.okD{P:Program}{k:Nat}(F:Fun K x qual st f fd)(S:FnScope N ps (defScope st))
  (b:∀(cdv:Value) (A:Around) (outer:List Env) (s:Shared) (H:Hp) (E:XK),Room k (A.deeper (envOfC qual (defScope st) s.heap.objs.size f cdv))->
   PDS (bM CX0 P w K mg base N qual (defScope st) f cdv A outer s H E).nox (defBody st) g):FnOk P w K mg base CX0 (k+1) f fd ps (spD K (mOf N.length ps.length g)):=by
 have l:∀c H Q E,spD K (mOf N.length ps.length g) c H Q E->c.length=ps.length:=λc H Q E m=>by
  obtain⟨o,z,i,L,a,B,j,_⟩:=m;unfold mOf at a;split at a
  ·rename_i h;rw[<-j.length];exact h
  ·cases a
 refine F.ok S l λcdv A outer s H c Q E M h=>?_;refine⟨_,b cdv A outer s H E M,?_⟩;obtain⟨o,z,i,L,a,B,j,C⟩:=h;unfold mOf at a;split at a
 ·rename_i O;have I:DInv K o z H (bB N.length ps.length i) (start N c):=DInv.start N ps.length B j O;cases q:g (bB N.length ps.length i)with
  |none=>rw[q]at a;cases a
  |some r=>
   rw[q]at a;refine⟨o,z,_,r,q,I,?_⟩;cases r with
   |rt y ρ=>cases a;exact λv J u p e h r=>C v u p e h.toDHp r
   |nx ρ=>cases a;exact λJ u p e R=>C .non u p e R.toDHp .non
   |bk ρ=>cases a
   |ct ρ=>cases a
 ·cases a
inductive ArgsS (K:PySem.W.Frag) (ρ:DF) (σ:St) (F:Hp):List DV->List V->Prop
 |nil:ArgsS K ρ σ F [] []
 |v {d:D}{v:V}{xs:List DV}{vs:List V}:Rep K F v d->ArgsS K ρ σ F xs vs->ArgsS K ρ σ F (.v d::xs) (v::vs)
 |b {o:OD}{v:V}{xs:List DV}{vs:List V} (i:Nat):σ[i]?=some (some v)->((∃t,ρ[i]?=some (some (.own o t)))\/ρ[i]?=some (some (.bor o)))->ArgsS K ρ σ F xs vs->ArgsS K ρ σ F (.bor o::xs) (v::vs)
def ArgsS.same{F:Hp}(e:Same F F')(h:ArgsS K ρ σ F xs vs):ArgsS K ρ σ F' xs vs:=by
 induction h with
 |nil=>exact .nil
 |v h _ ih=>exact .v (h.same e) ih
 |b i h1 h2 _ ih=>exact .b i h1 h2 ih
def ArgsS.dvs{F:Hp}(I:DInv K P F H ρ σ)(h:ArgsS K ρ σ F xs vs):DVs K (gd F H) F H xs vs:=by
 induction h with
 |nil=>exact .nil
 |v h _ ih=>exact .cons rfl h ih
 |b i h1 h2 _ ih=>
  obtain⟨a,rfl,e⟩:=I.slot h1 h2;exact .cons rfl ⟨a,rfl,e.mono (Same.refl _) λb u q c=>⟨iT.mpr ⟨q,c⟩,trivial⟩⟩ ih
def tLV(K:Kq)(f:Dv):TA:=λb H Q=>∃P F a x,f a=some x/\DInv K P F H a b/\∀c g e,Evo P F H g e->ArgsS K a b g x c->Q c e
def iH(X:Cx)(es:List Expr)(f:Dv):Prop:=PA X es (tLV X.K f)
def bi:iH X [] nA:=PA.imp a_ λa H Q=>un7 λP F b x h I k=>by
 cases h;exact k [] F H (Evo.refl I.toDHp) .nil
noncomputable def aV (f:Dd)(g:Dv):DF->Option (List DV):=λa=>(f a).bind λd=>(g a).map λx=>.v d::x
def cg{f:Dd}{g:Dv}(h:PDE X e f)(s:iH X es g)(p:starEach (e::es) X.env=(false,eval e X.env)::starEach es X.env:=by rfl):iH X (e::es) (aV f g):=PA.imp (aI h s p) λz H Q=>un7 λP F b A a I k=>by
 unfold aV at a;cases q:f b with
 |none=>rw[q]at a;cases a
 |some d=>
  rw[q,Ya]at a;cases c:g b with
  |none=>rw[c]at a;cases a
  |some y=>
   rw[c]at a;cases a;exact⟨P,F,b,d,q,I,λv x B j o=>⟨P,x,b,y,c,I.evo j,λl w u i m=>k (v::l) w u (j.trans i) (.v (o.same i.ext) m)⟩⟩
noncomputable def aB (i:Nat)(g:Dv):DF->Option (List DV):=λa=>match a[i]? with
 |some (some (.own o _))=>(g a).map λx=>.bor o::x
 |some (some (.bor o))=>(g a).map λx=>.bor o::x
 |some (some (.v d))=>(g a).map λx=>.v d::x
 |_=>none
def GI(i:Nat){g:Dv}(h:PE X e (cf i))(z:iH X es g)(x:starEach (e::es) X.env=(false,eval e X.env)::starEach es X.env:=by rfl):iH X (e::es) (aB i g):=PA.imp (aI h z x) λA H Q=>un7 λP F j B a I k=>by
 unfold aB at a;split at a
 ·rename_i o t q;obtain⟨v,f,w⟩:=I.at q;cases c:g j with
  |none=>rw[c]at a;cases a
  |some y=>
   rw[c]at a;cases a;exact⟨v,f,P,F,j,y,c,I,λm u s l p=>k (v::m) u s l (.b i f (.inl ⟨t,q⟩) p)⟩
 ·rename_i o q;obtain⟨v,f,w⟩:=I.at q;cases c:g j with
  |none=>rw[c]at a;cases a
  |some y=>
   rw[c]at a;cases a;exact⟨v,f,P,F,j,y,c,I,λm u s l p=>k (v::m) u s l (.b i f (.inr q) p)⟩
 ·rename_i d q;obtain⟨v,f,w⟩:=I.at q;cases c:g j with
  |none=>rw[c]at a;cases a
  |some y=>
   rw[c]at a;cases a;exact⟨v,f,P,F,j,y,c,I,λm u s l p=>k (v::m) u s l (.v (Rep.same l.ext w) p)⟩
 ·cases a
def dvD:DV->Option D
 |.v d=>some d
 |.own o _=>some o.d
 |.bor _=>none
def cq(m:Dm)(g:Dv):DF->Option D:=λa=>(g a).bind λx=>(m x).bind dvD
def dvO:DV->Option OD
 |.own o _=>some o
 |_=>none
def nh(m:Dm)(g:Dv):DF->Option OD:=λa=>(g a).bind λx=>(m x).bind dvO
def Fq{F:Hp}{a:Addr}(e:Same F F')(h1:F' a=none)(h2:gd F H a=none):H a=none:=by
 unfold gd at h2;have:F a=none:=by
  cases q:F a with
  |none=>rfl
  |some o=>rw[e a o q]at h1;cases h1
 rw[this]at h2;exact h2
def qe{o:OD}{a:Addr}(e2:Same F1 F2)(h:ORep K F2 H2 (λb=>F2 b=none/\gd F1 H1 b=none/\uU b) o a):ORep K F2 H2 (λb=>H1 b=none/\F2 b=none) o a:=
 h.mono (Same.refl _) λb u q c=>⟨c,Fq e2 q.1 q.2.1,q.1⟩
def CM{g:Dv}{E:XK}:∀σ H Q,tD K (cq m g) σ H Q->wk (spD K m) [] E (tLV K g) σ H Q:=λσ H Q=>un7 λP F z d h I k=>by
 unfold cq at h;cases q:g z with
 |none=>rw[q]at h;cases h
 |some e=>
  rw[q,Ya]at h;cases f:m e with
  |none=>rw[f]at h;cases h
  |some x=>
   rw[f,Ya]at h;refine⟨P,F,z,e,q,I,λN y s l J=>?_⟩;have c:=I.evo l;refine⟨gd y s,y,e,x,f,fL c.sub,by rw[Yg];exact J.dvs c,λv w p C i A=>?_⟩;have B:Evo P y s w p:=c.toDHp.gd C i;cases x with
   |v d'=>cases h;exact k v w p (l.trans B) A
   |own o t=>
    cases h;obtain⟨a,rfl,L,_⟩:=A;have j:=qe C L;exact k _ _ p (l.trans (B.freeze c.toDHp (λb=>s b=none/\w b=none) λ_ q=>q)) (j.rep (dB λb q=>q.2) λb u q M=>by rw[gH q];exact M)
   |bor o=>cases h
def Dn{g:Dv}{E:XK}:∀σ H Q,tO K (nh m g) σ H Q->wk (spD K m) [] E (tLV K g) σ H Q:=λσ H Q=>un7 λP F p d h I k=>by
 unfold nh at h;cases q:g p with
 |none=>rw[q]at h;cases h
 |some c=>
  rw[q,Ya]at h;cases e:m c with
  |none=>rw[e]at h;cases h
  |some x=>
   rw[e,Ya]at h;refine⟨P,F,p,c,q,I,λM l y i B=>?_⟩;have j:=I.evo i;refine⟨gd l y,l,c,x,e,fL j.sub,by rw[Yg];exact B.dvs j,λv z w s f A=>?_⟩;have L:Evo P l y z w:=j.toDHp.gd s f;cases x with
   |own o t=>
    cases h;obtain⟨a,rfl,C,_⟩:=A;exact k a z w (i.trans L) ((qe s C).mono (Same.refl _) λb u q J=>⟨J,i.back I.toDHp q.1,q.2⟩)
   |_=>cases h
section
variable{k:Nat}       {g:Dv}
def Dp(F:FnOk X.prog X.w X.K X.mg X.base CX0 k f fd ps (spD X.K m))(a:Room k X.A)(i:Gl X x)(b:X.mg x=some (.ref f))(c:PySem.W.keepIn X.K (.ref f)=true)(j:Binds X.K fd ps [])(l:iH X (e::es) g)
  (hd:nDb x:=by decide) (he:starEach (e::es) X.env=(false,eval e X.env)::starEach es X.env:=by rfl) (h:(backTo pos (starEach es X.env)).any (·.1)=false:=by rfl):PDE X (.Call (.Name x p) (e::es) [] pos) (cq m g):=
 (jO F a i b c j .nil jW l hd he h).imp CM
def Ai(F:FnOk X.prog X.w X.K X.mg X.base CX0 k f fd ps (spD X.K m))(a:Room k X.A)(i:Gl X x)(b:X.mg x=some (.ref f))(c:PySem.W.keepIn X.K (.ref f)=true)(j:Binds X.K fd ps [])(l:iH X (e::es) g)
  (hd:nDb x:=by decide) (he:starEach (e::es) X.env=(false,eval e X.env)::starEach es X.env:=by rfl) (h:(backTo pos (starEach es X.env)).any (·.1)=false:=by rfl):PDO X (.Call (.Name x p) (e::es) [] pos) (nh m g):=
 (jO F a i b c j .nil jW l hd he h).imp Dn
end
def xD:Option DV->Option DV
 |some (.v d)=>some (.v d)
 |some (.own o _)=>some (.bor o)
 |some (.bor o)=>some (.bor o)
 |_=>none
def i6(own:Nat)(ix:List Nat)(ρ:DF):DF:=List.replicate own none++ix.map λj=>xD (ρ[j]?).join
def fK(st:Dq)(c:Dk)(e:Dd)(ρ:DF):List D->Option (List D)
 |[]=>some []
 |d::ds=>(st d ρ).bind λa=>(c a).bind λb=>if b=true then(e a).bind λy=>(fK st c e ρ ds).map λr=>y::r else fK st c e ρ ds
def fJ(own:Nat)(ix:List Nat)(it:Dl)(st:Dq)(c:Dk)(e:Dd):DF->Option (List D):=
 λa=>(it a).bind λb=>if b.length<=16777216 then fK st c e (i6 own ix a) b else none
def iI:DF->Option Bool:=λ_=>some true
def sC{own:Nat}{x:DV}(h:(i6 own ix ρ)[i]?=some (some x)):own<=i/\∃j y,ix[i-own]?=some j/\ρ[j]?=some (some y)/\xD (some y)=some x:=by
 unfold i6 at h;by_cases c:i<own
 ·rw[ZA (by rw[Yo];exact c),ZV,Yi c]at h;cases h
 ·rw[Zv (by rw[Yo];omega),Yo,YG]at h;refine⟨by omega,?_⟩;cases q:ix[i-own]? with
  |none=>rw[q]at h;cases h
  |some j=>
   rw[q,ZC]at h;have a:=Yu h;cases b:ρ[j]? with
   |none=>rw[b]at a;cases a
   |some o=>
    rw[b,Option.join_some]at a;cases o with
    |none=>cases a
    |some y=>exact⟨j,y,rfl,b,a⟩
def zq{own:Nat}{v:V}(hi:own<=i)(h:ix[i-own]?=some j)(hv:σ[j]?=some (some v)):(eW own ix σ)[i]?=some (some v):=by unfold eW;rw[Zv (by rw[Yo];exact hi),Yo,YG,h,ZC,hv];rfl
def DInv.cap{F:Hp}(I:DInv K P F H ρ σ)(own:Nat)(ix:List Nat):DInv K (gd F H) F H (i6 own ix ρ) (eW own ix σ):=by
 refine⟨fL I.sub,?_,λ_=>none,λi x h=>?_⟩
 ·rw[iX];unfold i6;rw[Yb,Yo,Yc]
 ·obtain⟨p,j,y,w,e,c⟩:=sC h;obtain⟨v,f,l⟩:=I.at e;refine⟨v,zq p w f,?_⟩;have g:∀o,((∃t,ρ[j]?=some (some (.own o t)))\/ρ[j]?=some (some (.bor o)))->DVRep K (gd F H) F H (λb=>none=some i) (.bor o) v:=λo m=>by
   obtain⟨a,rfl,c⟩:=I.slot f m;exact⟨a,rfl,c.mono (Same.refl _) λb u q s=>⟨iT.mpr ⟨q,s⟩,trivial⟩⟩
  cases y with
  |v d=>cases c;exact l
  |own o t=>cases c;exact g o (.inl ⟨t,e⟩)
  |bor o=>cases c;exact g o (.inr e)
def yq{G F:Hp}{own:Nat}{f:St}(B:DInv K G F H (i6 own ix ρ) f)(e:Same F F2)(m:DHp G F2 H2):DInv K G F2 H2 (i6 own ix ρ) f:=by
 obtain⟨O,h⟩:=B.rep;refine⟨m,B.len,O,λi x g=>?_⟩;obtain⟨v,s,l⟩:=h i x g;refine⟨v,s,?_⟩;cases x with
 |v d=>exact Rep.same e l
 |bor o=>obtain⟨a,rfl,c⟩:=l;exact⟨a,rfl,c.mono e λb u q p=>⟨p,q⟩⟩
 |own o t=>(obtain⟨_,j,y,_,_,c⟩:=sC g;cases y<;>cases c)
section
variable       {own:Nat}  {f:Dl}{st:Dq}  {e:Dd}
theorem CN(his:∀j∈is,j<own):∀σ H Q,tO K (asL (fJ own ix f st c e)) σ H Q->D2 own ix (tI K f) (tG K is st) (tB' K c) (tD K e) σ H Q:=λσ H Q=>un7 λP F M ob z I k=>by
 unfold asL at z;cases E:fJ own ix f st c e M with
 |none=>rw[E]at z;cases z
 |some out=>
 rw[E]at z;cases z;have z:=E;unfold fJ at z;cases q:f M with
 |none=>rw[q]at z;cases z
 |some p=>
  rw[q,Ya]at z;split at z
  rotate_left
  ·cases z
  rename_i hlen;refine⟨P,F,M,p,q,I,λJ o A ev ok g l=>?_⟩;have I1:=I.evo ev;have hp1:DHp (gd o A) o A:=fL I1.sub;have hg:gd o A g=none:=by unfold gd;rw[I1.sub.free l];exact l
  have B1:DInv K (gd o A) o A (i6 own ix M) (eW own ix σ):=I1.cap own ix;have hP:∀{w R:Hp},Same o w->DHp (gd o A) w R->DHp P w R:=λs h=>(I1.toDHp.gd s h).hp
  refine⟨λi m ys R=>m=p.length-i/\i<=p.length/\∃w,Same o w/\DHp (gd o A) w R/\w g=none/\R g=some (.lst ys)/\ys.length<=i/\∃C,Reps K w ys C/\(fK st c e (i6 own ix M) (p.drop i)).map (λr=>C++r)=some out,
   ⟨_,rfl,YS _,o,Same.refl _,(Evo.side hp1 l).hp,I1.sub.free l,aC,Yy _,[],.nil,by rw[List.drop_zero,z];rfl⟩,?_⟩
  rintro i m ys R ⟨rfl,hi,w,se,Z,fa,ha,hy,C,rp,a⟩;obtain⟨ok1,ok2⟩:=ok w R se (hP se Z) i;by_cases hlt:i<p.length
  ·have hd:p[i]?=some p[i]:=Yz hlt;obtain⟨go,yl⟩:=ok1 _ hd;have hdrop:p.drop i=p[i]::p.drop (i+1):=List.drop_eq_getElem_cons hlt;rw[hdrop]at a;unfold fK at a;cases Y:st p[i] (i6 own ix M)with
   |none=>rw[Y]at a;cases a
   |some B=>
    rw[Y,Ya]at a;refine .inr ⟨go,λN H2=>∃U,Same o U/\DHp (gd o A) U H2/\U g=none/\H2 g=some (.lst N)/\N.length<=i+1/\∃S,Reps K U N S/\(fK st c e (i6 own ix M) (p.drop (i+1))).map (λr=>S++r)=some out,
     λN H2 h=>⟨p.length-(i+1),by omega,rfl,hlt,h⟩,λx H2 hyl=>?_⟩
    obtain⟨U,ev2,rx⟩:=yl x H2 hyl;have T:Evo (gd o A) w R U H2:=ev2.change Z;obtain⟨a2,fa2⟩:=T.keep g _ ha fa;have B2:DInv K (gd o A) U H2 (i6 own ix M) (eW own ix σ):=yq B1 (se.trans ev2.ext) T.hp;refine⟨gd o A,U,i6 own ix M,p[i],B,Y,B2,rx,λσ3 F3 H3 ev3 I3 hl3 hσ=>?_⟩;refine⟨⟨?_,λj v hj=>?_⟩,?_⟩
    ·rw[hl3,iX]
    ·rw[hσ j]
     ·exact hj
     ·intro hj';obtain⟨ho,_⟩:=pL hj;have:=his j hj';omega
    obtain⟨a3,fa3⟩:=ev3.keep g _ a2 fa2;cases hc:c B with
    |none=>rw[hc]at a;cases a
    |some b=>
     rw[hc,Ya]at a;refine⟨gd o A,F3,B,b,hc,I3,λF4 H4 O=>?_⟩;obtain⟨a4,fa4⟩:=O.keep g _ a3 fa3;have X:Same w F4:=ev2.ext.trans (ev3.ext.trans O.ext);cases b with
     |false=>
      rw[Yr Ym]at a ⊢;exact⟨F4,se.trans X,O.hp,fa4,a4,by omega,C,rp.same X,a⟩
     |true=>
      rw[Yi rfl]at a ⊢;cases he:e B with
      |none=>rw[he]at a;cases a
      |some y=>
       rw[he,Ya]at a;refine⟨gd o A,F4,B,y,he,I3.evo O,λv F5 H5 L rv=>?_⟩;obtain⟨a5,fa5⟩:=L.keep g _ a4 fa4;have s15:Same w F5:=X.trans L.ext;refine⟨a5,by rw[YL];omega,F5,se.trans s15,⟨λb u h=>by rw[ax (aW h fa5)];exact L.hp.sub b u h,λb u h=>by rw[ax (aW h hg)];exact L.hp.pro b u h,L.hp.dis⟩,fa5,aC,by rw[Yb,ZK];omega,C++[y],(rp.same s15).append (.one rv),?_⟩;cases hmm:fK st c e (i6 own ix M) (p.drop (i+1))with
       |none=>rw[hmm]at a;cases a
       |some r=>
        rw[hmm]at a;simp only[ZC]at a ⊢;rw[Yk];exact a
  ·have hz:p.drop i=[]:=List.drop_eq_nil_of_le (by omega);rw[hz]at a;unfold fK at a;rw[ZC,Yg]at a;cases a;exact .inl ⟨ok2 (by omega),k g w R (ev.trans (I1.toDHp.gd se Z)) ⟨⟨ev.back I.toDHp l,fa⟩,_,ha,rp⟩⟩
def zK(hcalm:X.calm=true)(b:BlkScope X scope)(cp:Caps X scope N own ix)(his:∀j∈is,j<own)(hi:PDI X tg iter f)
  (a:∀s H fp pz,PDG (blk X scope N s H fp pz) tg is st) (i:∀s H fp pz,xR (blk X scope N s H fp pz) ifs (tB' X.K c)) (he:∀s H fp pz,PDE (blk X scope N s H fp pz) elt e)
  (hnames:∀y∈scope.names,y.2=.local->scope.names.lookup y.1=some .local:=by decide)
  (h:FsI iter X:=by intro _;rfl):PDO X (.ListComp elt [⟨tg,iter,ifs,0⟩] scope pos) (asL (fJ own ix f st c e)):=
 (Bb (g:=tG X.K is st) (tc:=tB' X.K c) (te:=tD X.K e) hcalm b cp hi a i he hnames h).imp (CN his)
end
section
variable  {c:Expr}  
def G5(n:Nat)(f:Dl):Prop:=∀ρ ds,f ρ=some ds->ds.length=n
def PDL(X:Cx)(es:List Expr)(n:Nat)(f:Dl):Prop:=PDA X es f/\G5 n f
def bp:DF->Option (List D):=λ_=>some []
noncomputable def al (f:Dd)(g:Dl):DF->Option (List D):=λa=>(f a).bind λd=>(g a).map λr=>d::r
def aL:PDL X [] 0 bp:=⟨PA.imp a_ λc H Q=>un7 λP F a x b I k=>by
 cases b;exact k [] F H (Evo.refl I.toDHp) .nil,λa e h=>by cases h;rfl⟩
def ak{f:Dd}{n:Nat}{g:Dl}(h:PDE X e f)(i:PDL X es n g)(s:starEach (e::es) X.env=(false,eval e X.env)::starEach es X.env:=by rfl):PDL X (e::es) (n+1) (al f g):=
 ⟨PA.imp (aI h i.1 s) λz H Q=>un7 λP F b A a I k=>by
  unfold al at a;cases q:f b with
  |none=>rw[q]at a;cases a
  |some d=>
   rw[q,Ya]at a;cases c:g b with
   |none=>rw[c]at a;cases a
   |some y=>
    rw[c]at a;cases a;exact⟨P,F,b,d,q,I,λv x C l p=>⟨P,x,b,y,c,I.evo l,λm w u j o=>k (v::m) w u (l.trans j) (.cons (p.same j.ext) o)⟩⟩,λb B a=>by
  unfold al at a;cases q:f b with
  |none=>rw[q]at a;cases a
  |some d=>
   rw[q,Ya]at a;cases c:g b with
   |none=>rw[c]at a;cases a
   |some y=>
    rw[c]at a;cases a;rw[Yh,i.2 b y c]⟩
def asT(f:Dl):DF->Option D:=λρ=>(f ρ).map .tup
def cM{x1}{n:Nat}{f:Dl}(h:PDL X es n f)(j:n<=16777216:=by decide):PDE X (.Tuple es x1 pos) (asT f):=(vd h.1).imp λl H Q=>un7 λP F b d a I k=>by
 unfold asT at a;cases q:f b with
 |none=>rw[q]at a;cases a
 |some i=>
  rw[q]at a;cases a;refine⟨P,F,b,i,q,I,λm s o e c=>⟨by rw[c.length,h.2 b i q,YL];exact j,λp g=>?_⟩⟩;exact k (.ref p) _ _ (e.trans (Evo.laid e.hp g)) (.tup aC (c.same (eV (e.hp.free g).1)))
def bZ{n:Nat}{f:Dl}(h:PDL X es n f)(j:n<=16777216:=by decide):PDO X (.List es pos) (asL f):=(jy h.1).imp λm H Q=>un7 λP F b s a I k=>by
 unfold asL at a;cases q:f b with
 |none=>rw[q]at a;cases a
 |some i=>
 rw[q]at a;cases a;refine⟨P,F,b,i,q,I,λo l u e g=>⟨by rw[g.length,h.2 b i q,YL];exact j,λp c=>?_⟩⟩;exact k p l _ (e.trans (Evo.side e.hp c)) ⟨⟨e.back I.toDHp c,(e.hp.free c).1⟩,_,aC,g⟩
def Reps.atI{F:Hp}{i:Int}{d:D}(r:Reps K F vs ds)(h:atI ds i=some d):∃v,atI vs i=some v/\Rep K F v d:=by
 unfold L2.atI at h ⊢;rw[r.length];cases q:ixN ds.length i with
 |none=>rw[q]at h;cases h
 |some j=>
  rw[q,Ya]at h;obtain⟨v,b,a⟩:=r.get h;exact⟨v,b,a⟩
def ixD:D->D->Option D
 |.lst ds,.int i=>atI ds i
 |.tup ds,.int i=>atI ds i
 |.str z,.int i=>if z.length<=16777216 then(atI z.cps.toList i).map λc=>.str ⟨#[c]⟩else none
 |_,_=>none
def DI:mT K (rIx K) ixD:=by
 intro P F H s o x y w u d Q h I e b k;unfold ixD at h;split at h
 ·obtain⟨p,a,rfl,l,j⟩:=gL I e;obtain⟨v,g,f⟩:=j.atI h;exact .inl ⟨p,a,_,v,rfl,eB b,l,g,k v F H (Evo.refl I.toDHp) f⟩
 ·obtain⟨p,a,rfl,l,j⟩:=j6 I e;obtain⟨v,g,f⟩:=j.atI h;exact .inr (.inl ⟨p,a,_,v,rfl,eB b,l,g,k v F H (Evo.refl I.toDHp) f⟩)
 ·split at h
  ·rename_i z i m;cases q:atI z.cps.toList i with
   |none=>rw[q]at h;cases h
   |some c=>
    rw[q]at h;cases h;exact .inr (.inr ⟨z,i,c,jH e,eB b,by rw[YL];exact m,q,k _ F H (Evo.refl I.toDHp) .str⟩)
  ·cases h
 ·cases h
def bH(e:PDR X a fa)(c:PDR X b fb)(h:q_ b:=by exact λ_ _=>rfl):PDE X (.Subscript a b pos) (d2 ixD fa fb):=(DO yy e c h).imp (qE DI)
def Ga:R2:=λx y H Q=>(∃i j,x=.int i/\y=.int j/\Q (.int (i+j)) H)\/∃i j,x=.str i/\y=.str j/\i.length+j.length<=sizeLine/\Q (.str (i++j)) H
def F6(c:PDR X a fa)(h:PDR X b fb):PDE X (.Compare a [.Gt] [b] pos) (d2 gtI fa fb):=El DZ (qJ λ_ _ _=>.bl) c h (gj _)
def lm(c:PDR X a fa)(h:PDR X b fb):PDT X (.Compare a [.Gt] [b] pos) (asB (d2 gtI fa fb)):=Bl DZ (qJ λ_ _ _=>.bl) c h (gj _)
def cR(f g:Dk):DF->Option Bool:=λa=>(f a).bind λb=>if b=true then g a else some false
def orT(f g:Dk):DF->Option Bool:=λa=>(f a).bind λb=>if b=true then some true else g a
def di(f:Dk):DF->Option Bool:=λρ=>(f ρ).map λb=>!b
def PDW(X:Cx)(e:Expr)(f:Dk):Prop:=PW X e (tB' X.K f)
def PDW.t{f:Dk}(h:PDW X e f):PDT X e f:=PW.pt h
def PW.imp{t t':TT}(h:PW X e t)(i:∀σ H Q,t' σ H Q->t σ H Q):PW X e t':=λw p s σ H Q I q=>h w p s σ H Q I (i σ H Q q)
def eD{f:Dk}(h:PDT X a f):PDW X (.BoolOp .And [a] pos) f:=Cj h
def gT{f:Dk}(h:PDT X a f):PDW X (.BoolOp .Or [a] pos) f:=zg h
def eQ{aR:List Expr}{f g:Dk}(l:PDT X a f)(j:PDW X (.BoolOp .And (b::aR) pos) g):PDW X (.BoolOp .And (a::b::aR) pos) (cR f g):=PW.imp (FY l j) λu H Q=>un7 λP F c r h I k=>by
 unfold cR at h;cases q:f c with
 |none=>rw[q]at h;cases h
 |some x=>
  rw[q,Ya]at h;refine⟨P,F,c,x,q,I,λi p e=>?_⟩;cases x with
  |true=>rw[Yi rfl]at h ⊢;exact⟨P,i,c,r,h,I.evo e,λs o m=>k s o (e.trans m)⟩
  |false=>rw[Yr Ym]at h ⊢;cases h;exact k i p e
def gi{aR:List Expr}{f g:Dk}(l:PDT X a f)(j:PDW X (.BoolOp .Or (b::aR) pos) g):PDW X (.BoolOp .Or (a::b::aR) pos) (orT f g):=PW.imp (DL l j) λu H Q=>un7 λP F c r h I k=>by
 unfold orT at h;cases q:f c with
 |none=>rw[q]at h;cases h
 |some x=>
  rw[q,Ya]at h;refine⟨P,F,c,x,q,I,λi p e=>?_⟩;cases x with
  |true=>rw[Yi rfl]at h ⊢;cases h;exact k i p e
  |false=>rw[Yr Ym]at h ⊢;exact⟨P,i,c,r,h,I.evo e,λs o m=>k s o (e.trans m)⟩
def bU{f:Dk}(c:PDT X a f):PDT X (.UnaryOp .Not a pos) (di f):=(Fh c).imp λj H Q=>un7 λP F b r h I k=>by
 unfold di at h;cases q:f b with
 |none=>rw[q]at h;cases h
 |some x=>rw[q]at h;cases h;exact⟨P,F,b,x,q,I,λi g e=>k i g e⟩
def hV(f g:Dd):DF->Option D:=λa=>match f a with
 |some (.bl true)=>g a
 |some (.bl false)=>some (.bl false)
 |_=>none
def orV(f g:Dd):DF->Option D:=λa=>match f a with
 |some (.bl false)=>g a
 |some (.bl true)=>some (.bl true)
 |_=>none
def x_(f:Dd):DF->Option D:=λa=>match f a with
 |some (.bl b)=>some (.bl (!b))
 |_=>none
def gk{op}{f:Dd}(h:PDE X a f):PDE X (.BoolOp op [a] pos) f:=E6 h
def eZ{aR:List Expr}{f g:Dd}(p:PDE X a f)(o:PDE X (.BoolOp .And (b::aR) pos) g):PDE X (.BoolOp .And (a::b::aR) pos) (hV f g):=(EN p o).imp λx H Q=>un7 λP F c r h I k=>by
 unfold hV at h;split at h
 ·rename_i q;refine⟨P,F,c,_,q,I,λv j l e i=>?_⟩;cases i;exact⟨true,rfl,by rw[Yi rfl];exact⟨P,j,c,r,h,I.evo e,λv w u s m=>k v w u (e.trans s) m⟩⟩
 ·rename_i q;refine⟨P,F,c,_,q,I,λv j l e i=>?_⟩;cases i;cases h;exact⟨false,rfl,by rw[Yr Ym];exact k _ j l e .bl⟩
 ·cases h
def Gc{aR:List Expr}{f g:Dd}(p:PDE X a f)(o:PDE X (.BoolOp .Or (b::aR) pos) g):PDE X (.BoolOp .Or (a::b::aR) pos) (orV f g):=(GB p o).imp λx H Q=>un7 λP F c r h I k=>by
 unfold orV at h;split at h
 ·rename_i q;refine⟨P,F,c,_,q,I,λv j l e i=>?_⟩;cases i;exact⟨false,rfl,by rw[Yr Ym];exact⟨P,j,c,r,h,I.evo e,λv w u s m=>k v w u (e.trans s) m⟩⟩
 ·rename_i q;refine⟨P,F,c,_,q,I,λv j l e i=>?_⟩;cases i;cases h;exact⟨true,rfl,by rw[Yi rfl];exact k _ j l e .bl⟩
 ·cases h
def yZ{f:Dd}(e:PDE X a f):PDE X (.UnaryOp .Not a pos) (x_ f):=(FS e).imp λl H Q=>un7 λP F b r h I k=>by
 unfold x_ at h;split at h
 ·rename_i q;cases h;refine⟨P,F,b,_,q,I,λv j i g c=>?_⟩;cases c;exact⟨_,rfl,k _ j i g .bl⟩
 ·cases h
def ifV(c:Dk)(f g:Dd):DF->Option D:=λa=>(c a).bind λb=>if b=true then f a else g a
def Af{fc:Dk}{f g:Dd}(s:PDT X c fc)(w:PDE X a f)(u:PDE X b g):PDE X (.IfExp c a b pos) (ifV fc f g):=(zF s w u).imp λy H Q=>un7 λP F e r h I k=>by
 unfold ifV at h;cases q:fc e with
 |none=>rw[q]at h;cases h
 |some x=>
  rw[q,Ya]at h;refine⟨P,F,e,x,q,I,λp z i=>?_⟩;cases x with
  |true=>rw[Yi rfl]at h ⊢;exact⟨P,p,e,r,h,I.evo i,λv o m l j=>k v o m (i.trans l) j⟩
  |false=>rw[Yr Ym]at h ⊢;exact⟨P,p,e,r,h,I.evo i,λv o m l j=>k v o m (i.trans l) j⟩
def Hl(K:Kq)(r:List V->Hp->VK->Prop)(f:D->Option D):Prop:=
 ∀(P F H:Hp) (g:DF) (e:St) (x:V) (a d:D) (Q:VK),f a=some d->DInv K P F H g e->RepS K H F x a->(∀v c b,Evo P F H c b->Rep K c v d->Q v b)->r [x] H Q
noncomputable def d1 (f:D->Option D)(fa:Dd):DF->Option D:=λa=>(fa a).bind f
def FD{r:List V->Hp->VK->Prop}{f:D->Option D}(j:Hl K r f):∀σ H Q,tD K (d1 f fa) σ H Q->tCB r (mL (tR K fa) oq) σ H Q:=λσ H Q=>un7 λP F a d h I k=>by
 unfold d1 at h;cases b:fa a with
 |none=>rw[b]at h;cases h
 |some c=>
  rw[b,Ya]at h;exact⟨P,F,a,c,b,I,λx q o e g=>j P q o a σ x c d Q h (I.evo e) g λv p m l i=>k v p m (e.trans l) i⟩
def aQ:D->Option D
 |.lst ds=>some (.int ds.length)
 |.tup ds=>some (.int ds.length)
 |.str z=>if z.length<=16777216 then some (.int z.length)else none
 |_=>none
def Gv(K:Kq):List V->Hp->VK->Prop:=λx H Q=>(∃p y,x=[.ref p]/\(SqL K H p y\/SqT K H p y)/\Q (.int y.length) H)\/∃z,x=[.str z]/\z.length<=sizeLine/\Q (.int z.length) H
end
mutual
def dF:D->PyData
 |.non=>.none
 |.bl b=>.bool b
 |.int i=>.int i
 |.str x=>.str x
 |.tup xs=>.tuple (d9 xs)
 |.lst xs=>.list (d9 xs)
 |.dT _=>.none
 |.dK _=>.none
 |.ins _ _=>.none
 |.fn _ _ _=>.none
 |.exn _=>.none
def d9:List D->List PyData
 |[]=>[]
 |d::ds=>dF d::d9 ds
end
def okN:Nat->D->Bool
 |_,.non=>true
 |_,.bl _=>true
 |_,.int _=>true
 |_,.str x=>PyData.strOk x
 |n+1,.tup xs=>xs.all (okN n)
 |n+1,.lst xs=>xs.all (okN n)
 |_,_=>false
def cz{n:Nat}:∀{ds:List D},ds.all (okN n)=true->∀d∈ds,okN n d=true:=λh d a=>YH.mp h d a
def eE:∀(n:Nat) (d:D),okN n d=true->(dF d).canLay0=true/\(dF d).depth<=n+1:=by
 intro n;induction n with
 |zero=>
  intro d h;cases d with
  |non=>exact⟨rfl,by simp[dF,PyData.depth]⟩
  |bl b=>exact⟨rfl,by simp[dF,PyData.depth]⟩
  |int b=>exact⟨rfl,by simp[dF,PyData.depth]⟩
  |str b=>exact⟨h,by simp[dF,PyData.depth]⟩
  |_=>cases h
 |succ n ih=>
  have all:∀c:List D,c.all (okN n)=true->PyData.canLayAll0 (d9 c)=true/\PyData.depthAll (d9 c)<=n+1:=by
   intro c;induction c with
   |nil=>intro _;exact⟨rfl,by simp[d9,PyData.depthAll]⟩
   |cons x r i=>
    intro h;rw[List.all_cons,Ys]at h;obtain⟨a,e⟩:=ih x h.1;obtain⟨f,g⟩:=i h.2;refine⟨?_,?_⟩
    ·show(PyData.canLay0 (dF x)&&PyData.canLayAll0 (d9 r))=true;rw[a,f];rfl
    ·show PyData.depthAll (dF x::d9 r)<=n+1;simp only[PyData.depthAll];omega
  intro d h;cases d with
  |non=>exact⟨rfl,by simp[dF,PyData.depth]⟩
  |bl b=>exact⟨rfl,by simp[dF,PyData.depth]⟩
  |int b=>exact⟨rfl,by simp[dF,PyData.depth]⟩
  |str b=>exact⟨h,by simp[dF,PyData.depth]⟩
  |tup xs=>
   obtain⟨a,e⟩:=all xs h;exact⟨a,by simp only[dF,PyData.depth];omega⟩
  |lst xs=>
   obtain⟨a,e⟩:=all xs h;exact⟨a,by simp only[dF,PyData.depth];omega⟩
  |_=>cases h
def Reps.readsOf{n:Nat}(ih:∀{v:V}{d:D}{u:Value},Rep X.K H v d->okN n d=true->RelV v u->∃as,Reads s.heap u (dF d) as)(h:Reps X.K H vs ds):∀us:List Value,(∀d∈ds,okN n d=true)->Vals vs us->∃as,ReadsAll s.heap us (d9 ds) as:=
 Reps.ind (M:=λvs ds=>∀us:List Value,(∀d∈ds,okN n d=true)->Vals vs us->∃as,ReadsAll s.heap us (d9 ds) as) (λus _ r=>by cases r;exact⟨_,.nil⟩) (λh _ i us a r=>by
  cases r with
  |cons r t=>
   obtain⟨g,c⟩:=ih h (a _ Yf) r;obtain⟨f,b⟩:=i _ (λd e=>a d (Ye _ e)) t;exact⟨_,.cons c b⟩) h
def Rep.reads1(I:Inv X pz σ H s)(n:Nat)(ih:∀m,n=m+1->∀{v:V}{d:D}{u:Value},Rep X.K H v d->okN m d=true->RelV v u->∃as,Reads s.heap u (dF d) as){v:V}{d:D}(h:Rep X.K H v d)(a:okN n d=true)(r:RelV v u):∃as,Reads s.heap u (dF d) as:=by
 cases h with
 |non=>cases(show u=Value.none from r);exact⟨_,.none⟩
 |bl=>cases(show u=Value.bool _ from r);exact⟨_,.bool _⟩
 |int=>obtain⟨t,rfl⟩:=(show ∃t,u=Value.int _ t from r);exact⟨_,.int _ _⟩
 |str=>obtain⟨t,rfl⟩:=(show ∃t,u=Value.str _ t from r);exact⟨_,.str _ _⟩
 |tup h q=>
  cases n with
  |zero=>cases a
  |succ m=>
   cases(show u=Value.ref _ from r);obtain⟨i,b,e,_⟩:=I.tuple (SqT.of h);obtain⟨as,c⟩:=Reps.readsOf (ih m rfl) q _ (cz a) b;obtain⟨o,j,g,m,f⟩:=e;exact⟨_,.tuple j g f (by simpa using c)⟩
 |lst h q=>
  cases n with
  |zero=>cases a
  |succ m=>
   cases(show u=Value.ref _ from r);obtain⟨i,b,e,_⟩:=I.list h;obtain⟨as,c⟩:=Reps.readsOf (ih m rfl) q _ (cz a) b;obtain⟨o,m,j,g,_,f⟩:=e;exact⟨_,.list j g f (by simpa using c)⟩
 |_=>cases n<;>cases a
def Rep.reads(I:Inv X pz σ H s)(n:Nat):∀{v:V}{d:D}{u:Value},Rep X.K H v d->okN n d=true->RelV v u->∃as,Reads s.heap u (dF d) as:=by
 induction n with
 |zero=>exact λh a r=>Rep.reads1 I 0 (λm e=>by cases e) h a r
 |succ n ih=>exact λh a r=>Rep.reads1 I (n+1) (λm e=>by cases e;exact ih) h a r
def eqd(x y:D):Bool:=PyData.eqv (dF x) (dF y)
def eqD(x y:D):Option D:=if(okN 30 x&&okN 30 y)=true then some (.bl (eqd x y))else none
def neD(x y:D):Option D:=if(okN 30 x&&okN 30 y)=true then some (.bl (!eqd x y))else none
def Ci(K:Kq)(g:Bool->Bool):R2:=λx y H Q=>∃b a,Rep K H x b/\Rep K H y a/\okN 30 b=true/\okN 30 a=true/\Q (.bl (g (eqd b a))) H
section
variable  {c:Expr}  
def rL(j:X.A.units+64<cLine):OpR X (compareOp .Eq) (Ci X.K λb=>b):=by
 intro C s B H x y v u Q I e c h;obtain⟨z,w,p,m,a,o,q⟩:=h;obtain⟨M,g⟩:=p.reads I 30 a e;obtain⟨L,f⟩:=m.reads I 30 o c;obtain⟨i,J⟩:=eE 30 z a;obtain⟨l,E⟩:=eE 30 w o;refine PySem.SeqAt.compareEq_shaped g f ?_ ?_ j ⟨.bl _,H,I,rfl,q⟩
 ·unfold PySem.SeqAt.shaped;rw[i,Ve,YE];omega
 ·unfold PySem.SeqAt.shaped;rw[l,Ve,YE];omega
def y6(j:X.A.units+64<cLine):OpR X (compareOp .NotEq) (Ci X.K λb=>!b):=by
 intro C s B H x y v u Q I e c h;obtain⟨z,w,p,m,a,o,q⟩:=h;obtain⟨M,g⟩:=p.reads I 30 a e;obtain⟨L,f⟩:=m.reads I 30 o c;obtain⟨i,J⟩:=eE 30 z a;obtain⟨l,E⟩:=eE 30 w o;refine PySem.SeqAt.compareNe_shaped g f ?_ ?_ j ⟨.bl _,H,I,rfl,q⟩
 ·unfold PySem.SeqAt.shaped;rw[i,Ve,YE];omega
 ·unfold PySem.SeqAt.shaped;rw[l,Ve,YE];omega
def qL:OpN2 K (Ci K λb=>b) eqD:=by
 intro P F H x y i g d Q a f e c k;unfold eqD at a;split at a
 ·rename_i h;rw[Ys]at h;cases a;exact⟨i,g,e,c,h.1,h.2,k _ F H (Evo.refl f) .bl⟩
 ·cases a
def AK:OpN2 K (Ci K λb=>!b) neD:=by
 intro P F H x y i g d Q a f e c k;unfold neD at a;split at a
 ·rename_i h;rw[Ys]at h;cases a;exact⟨i,g,e,c,h.1,h.2,k _ F H (Evo.refl f) .bl⟩
 ·cases a
def o4(h:X.A.units+64<cLine)(e:PDN X a fa)(c:PDN X b fb):PDE X (.Compare a [.Eq] [b] pos) (d2 eqD fa fb):=uZ (rL h) qL e c (gj _)
def zU(h:X.A.units+64<cLine)(e:PDN X a fa)(c:PDN X b fb):PDE X (.Compare a [.NotEq] [b] pos) (d2 neD fa fb):=uZ (y6 h) AK e c (gj _)
def dD(h:X.A.units+64<cLine)(e:PDN X a fa)(c:PDN X b fb):PDT X (.Compare a [.Eq] [b] pos) (asB (d2 eqD fa fb)):=lU (rL h) qL e c (gj _)
def yg(h:X.A.units+64<cLine)(e:PDN X a fa)(c:PDN X b fb):PDT X (.Compare a [.NotEq] [b] pos) (asB (d2 neD fa fb)):=lU (y6 h) AK e c (gj _)
def eN:D->Option (List D)
 |.lst ds=>some ds
 |.tup ds=>some ds
 |_=>none
def inD(x y:D):Option D:=(eN y).bind λa=>if(okN 30 x&&a.all (okN 29))=true then some (.bl (a.any λz=>eqd z x))else none
def GD(K:Kq)(g:Bool->Bool):R2:=λx y H Q=>∃a c b,Rep K H x a/\Rep K H y c/\eN c=some b/\okN 30 a=true/\b.all (okN 29)=true/\Q (.bl (g (b.any λz=>eqd z a))) H
def kO(x:D):∀ds:List D,(d9 ds).any (λy=>PyData.eqv y (dF x))=ds.any λz=>eqd z x
 |[]=>rfl
 |d::ds=>by
  show((PyData.eqv (dF d) (dF x))||(d9 ds).any _)=_;rw[kO x ds];rfl
def Fw(N:X.A.units+64<cLine):OpR X (compareOp .In) (GD X.K λb=>b):=by
 intro M s L H x y v u Q I w f h;obtain⟨p,E,a,C,m,e,i,o,q⟩:=h;obtain⟨P,g⟩:=C.reads I 30 i w;obtain⟨j,B⟩:=eE 30 p i;have O:min (PyData.depthAll (d9 a)) (dF p).depth<=31:=YQ (Nat.min_le_right _ _) B;cases E with
 |lst xs=>
  cases e;obtain⟨J,c⟩:=m.reads I 30 (d:=.lst a) o f;obtain⟨l,z⟩:=eE 30 (.lst a) o;exact PySem.SeqAt.in_list_reads c g l j (by omega) ⟨.bl _,H,I,(by show Value.bool _=Value.bool _;rw[kO]),q⟩
 |tup xs=>
  cases e;obtain⟨J,c⟩:=m.reads I 30 (d:=.tup a) o f;obtain⟨l,z⟩:=eE 30 (.tup a) o;exact PySem.SeqAt.in_tuple_reads c g l j (by omega) ⟨.bl _,H,I,(by show Value.bool _=Value.bool _;rw[kO]),q⟩
 |_=>cases e
def Ey:OpN2 K (GD K λb=>b) inD:=by
 intro P F H x y i c d Q a g f e k;unfold inD at a;cases q:eN c with
 |none=>rw[q]at a;cases a
 |some j=>
  rw[q,Ya]at a;split at a
  ·rename_i h;rw[Ys]at h;cases a;exact⟨i,c,j,f,e,q,h.1,h.2,k _ F H (Evo.refl g) .bl⟩
  ·cases a
def Gn(h:X.A.units+64<cLine)(f:PDN X a fa)(e:PDN X b fb)(c:behindInMarks .In b=false:=by with_unfolding_all rfl):PDT X (.Compare a [.In] [b] pos) (asB (d2 inD fa fb)):=lU (Fw h) Ey f e c
end
section
variable  {l:Expr} 
def k_(f:Dd):DF->Option (List D):=λa=>match f a with
 |some (.lst ds)=>some ds
 |_=>none
def AA{f:Dd}(h:k_ f ρ=some ds):f ρ=some (.lst ds):=by
 unfold k_ at h;split at h
 ·rename_i q;cases h;exact q
 ·cases h
def o8{F:Hp}{a:Addr}(h:SqL K F a vs)(r:Reps K F vs ds):BZ K P (Itl K a) F ds:=by intro p H e c i;have b:SqL K H a vs:=c.sub.seq (e.seq h);refine⟨λd m=>?_,λl=>⟨vs,b,by rw[r.length];exact l⟩⟩;obtain⟨v,f,o⟩:=r.get m;refine⟨⟨vs,v,b,f⟩,λx q g=>?_⟩;obtain⟨rfl,j⟩:=g;have:=j vs b;rw[f]at this;cases this;exact⟨p,Evo.refl c,o.same e⟩
def rn{f:Dd}(h:PDE X l f):PDI X tg l (k_ f):=PI.imp (ww h) λj H R=>un7 λP F a m c I k=>by
 refine⟨P,F,a,_,AA c,I,λv i g e b=>?_⟩;cases b with
 |lst h1 h2=>exact⟨_,rfl,⟨_,e.hp.sub.seq h1⟩,k _ i g e (o8 h1 h2)⟩
def iL(i:Nat):DF->Option (List D):=λa=>match a[i]? with
 |some (some (.bor (.lst ds)))=>some ds
 |some (some (.v (.lst ds)))=>some ds
 |_=>none
def yM{F:Hp}{a:Addr}(h:P a=some (.lst vs))(r:Reps K F vs ds):BZ K P (Itl K a) F ds:=by intro p H e c i;have b:SqL K H a vs:=SqL.of (c.pro _ _ h);refine⟨λd m=>?_,λl=>⟨vs,b,by rw[r.length];exact l⟩⟩;obtain⟨v,f,o⟩:=r.get m;refine⟨⟨vs,v,b,f⟩,λx q g=>?_⟩;obtain⟨rfl,j⟩:=g;have:=j vs b;rw[f]at this;cases this;exact⟨p,Evo.refl c,o.same e⟩
def CO(i:Nat)(h:PE X l (cf i)):PDI X tg l (iL i):=PI.imp (ww h) λm H R=>un7 λP F o p b I k=>by
 unfold iL at b;split at b
 ·rename_i g q;cases b;obtain⟨v,f,a,rfl,_,u,c,e⟩:=I.at q;cases u with
  |lst vs=>exact⟨_,f,a,rfl,⟨vs,SqL.of (I.pro _ _ c)⟩,k _ F H (Evo.refl I.toDHp) (yM c e)⟩
  |_=>exact e.elim
 ·rename_i g q;cases b;obtain⟨v,f,j⟩:=I.at q;cases j with
  |lst c e=>exact⟨_,f,_,rfl,⟨_,I.sub.seq c⟩,k _ F H (Evo.refl I.toDHp) (o8 c e)⟩
 ·cases b
def g_(lo:Int)(n:Nat):List D:=(List.range n).map λi:Nat=>.int (lo+(i:Int))
def uJ{lo:Int}{n:Nat}{d:D}(h:(g_ lo n)[i]?=some d):i<n/\d=.int (lo+(i:Int)):=by
 unfold g_ at h;rw[YG]at h;by_cases a:i<n
 ·rw[List.getElem?_range a,ZC]at h;cases h;exact⟨a,rfl⟩
 ·rw[XM (by rw[XE];omega)]at h;cases h
def uO(lo:Int)(n:Nat):(g_ lo n).length=n:=by unfold g_;rw[Yc,XE]
def vc{F:Hp}(lo:Int)(n:Nat):BZ K P (Itr lo n) F (g_ lo n):=by intro g j e b i;refine⟨λd f=>?_,λh=>by rw[uO]at h;exact h⟩;obtain⟨c,rfl⟩:=uJ f;refine⟨c,λx H a=>?_⟩;obtain⟨rfl,rfl⟩:=a;exact⟨g,Evo.refl b,.int⟩
def nt(f:Dd):DF->Option (List D):=λa=>match f a with
 |some (.int j)=>if -(2^62)<=j/\j<2^62 then some (g_ 0 j.toNat)else none
 |_=>none
def fu{f:Dd}(l:Gl X "range")(i:X.mg "range"=none)(m:PDR X a f)(b:starEach [a] X.env=[(false,eval a X.env)]:=by rfl):PDI X tg (.Call (.Name "range" p) [a] [] pos) (nt f):=
 PI.imp (wU l i (aI m a_ b) b) λw H R=>un7 λP F e x h I k=>by
  unfold nt at h;split at h
  ·rename_i j q;split at h
   ·rename_i c;cases h;refine⟨P,F,e,_,q,I,λv u s o g=>⟨j,by rw[eB g],c.1,c.2,k _ u s o (vc 0 _)⟩⟩
   ·cases h
  ·cases h
def we:List Nat->List D->DF->Option DF
 |[],[],ρ=>some ρ
 |i::is,d::ds,ρ=>we is ds (ρ.set i (some (.v d)))
 |_,_,_=>none
def jZ(is:List Nat)(d:D)(ρ:DF):Option DF:=match d with
 |.tup ds=>we is ds ρ
 |_=>none
def uT:List Nat->TGs
 |[]=>GX
 |i::is=>DM (pq i) (uT is)
def pH{F:Hp}{Q:St->Hp->Prop}:∀(is:List Nat) (vs:List V) (ds:List D) (ρ ρ':DF) (σ:St),Reps K F vs ds->we is ds ρ=some ρ'->DInv K P F H ρ σ->
  (∀σ',DInv K P F H ρ' σ'->σ'.length=σ.length->(∀j,j∉is->σ'[j]?=σ[j]?)->Q σ' H)->uT is vs σ H Q
 |[],vs,ds,ρ,ρ',σ,r,hs,I,k=>by
  cases r with
  |nil=>cases hs;exact⟨rfl,k σ I rfl λ_ _=>rfl⟩
  |cons _ _=>cases hs
 |i::is,vs,ds,ρ,ρ',σ,r,hs,I,k=>by
  cases r with
  |nil=>cases hs
  |cons h q=>
   refine⟨_,_,rfl,pH is _ _ _ ρ' _ q hs (I.setV i h) λσ' e b c=>k σ' e (by rw[b,Zb]) λj a=>?_⟩;rw[c j (λz=>a (Ye _ z)),YT (λz=>a (by rw[z];exact Yf))]
def pi:∀(is:List Nat) (ds:List D) (ρ ρ':DF),we is ds ρ=some ρ'->ds.length=is.length
 |[],[],_,_,_=>rfl
 |[],_::_,_,_,h=>by cases h
 |_::_,[],_,_,h=>by cases h
 |i::is,d::ds,ρ,ρ',h=>by rw[Yh,Yh,pi is ds _ _ h]
def jX{k:Nat}(p:X.calm=true)(h:PGs X es (uT is))(l:(assignEach es X.env).length=is.length:=by rfl)(c:(assignEach es X.env).findIdx? (·.1)=none:=by rfl):PDG X (.Tuple es k pos) is (jZ is):=
 PG.imp (EV (n:=is.length) p h l c) λv i H Q f=>by
  obtain⟨P,F,g,d,a,e,I,r,j⟩:=f;cases d with
  |tup ds=>
   cases r with
   |tup h1 h2=>
    exact⟨_,_,rfl,SqT.of (I.sub _ _ h1),by rw[h2.length];exact pi is ds g a e,pH is _ ds g a i h2 e I λb q m o=>j b F H (Evo.refl I.toDHp) q m o⟩
  |_=>cases e
def vy(is:List Nat)(f:Dd):DF->Option RES:=λa=>(f a).bind λd=>(jZ is d a).map .nx
def CH{k:Nat}{f:Dd}(o:PDG X (.Tuple es k pos') is (jZ is))(he:PDE X e f)(m:swapsWithSole [.Tuple es k pos'] e pos.line X.env=pure false:=by rfl)(hw:swappedStores [.Tuple es k pos'] e X.env=pure none:=by rfl)
  (h1:(assignEach [.Tuple es k pos'] X.env).map (·.2)=[assign (.Tuple es k pos') X.env]:=by rfl):PD1 X (.Assign [.Tuple es k pos'] e pos) (vy is f):=PS.imp (zR he o m hw h1) λE y H=>un7 λP F a r h I l=>by
 unfold vy at h;cases q:f a with
 |none=>rw[q]at h;cases h
 |some d=>
  rw[q,Ya]at h;cases g:jZ is d a with
  |none=>rw[g]at h;cases h
  |some c=>
   rw[g]at h;cases h;exact⟨P,F,a,d,q,I,λv x z i j=>⟨P,x,a,d,c,g,I.evo i,j,λb w u p s _ _=>l b w u (i.ext.trans p.ext) s⟩⟩
end
def DInv.mut{F:Hp}(I:DInv K P F H ρ σ){o:OD}{t:Option Addr}{a:Addr}{u:HO}(h:ρ[i]?=some (some (.own o t)))(M:o.flat=true)(p:o'.flat=true)(A:σ[i]?=some (some (.ref a)))(J:ORep1 K F o' u) :
  DInv K P F (upd H a u) (ρ.set i (some (.own o' t))) σ:=by
 obtain⟨O,B⟩:=I.rep;obtain⟨v,C,b,rfl,Q,E⟩:=B i _ h;rw[A]at C;cases C;obtain⟨⟨y,x,f⟩,U,X,_⟩:=(ORep.flat M).mp Q;refine⟨⟨λc w e=>by rw[ax (aW e y)];exact I.sub c w e,λc w e=>by rw[ax (aW e x)];exact I.pro c w e,I.dis⟩,by rw[Zb];exact I.len,O,λj z L=>?_⟩;rcases fS L with⟨rfl,e,Y⟩|⟨m,l⟩
 ·cases e;exact⟨_,A,a,rfl,(ORep.flat p).mpr ⟨⟨y,x,f⟩,u,aC,J⟩,E⟩
 ·obtain⟨w,S,s⟩:=B j z l;refine⟨w,S,?_⟩;cases z with
  |v d'=>exact s
  |own od t'=>(obtain⟨c,rfl,R,g⟩:=s;exact⟨c,rfl,R.mono (Same.refl _) λb T q N=>⟨by rw[ax (λz=>by subst z;rw[q.2.2]at f;exact m (Yu f).symm)];exact N,q⟩,g⟩)
  |bor od=>exact s
def iu(i:Nat)(f:Dd):DF->Option RES:=λa=>match a[i]? with
 |some (some (.own (.lst ds) t))=>(f a).bind λd=>if ds.length<16777216 then some (.nx (a.set i (some (.own (.lst (ds++[d])) t))))else none
 |_=>none
def jr{F:Hp}(I:DInv K P F H ρ σ){t:Option Addr}(q:ρ[i]?=some (some (.own (.lst ds) t))):∃a vs,σ[i]?=some (some (.ref a))/\F a=none/\P a=none/\H a=some (.lst vs)/\Reps K F vs ds:=by
 obtain⟨v,h,a,rfl,⟨⟨f,e,_⟩,u,c,b⟩,_⟩:=I.at q;cases u with
 |lst vs=>exact⟨a,vs,h,f,e,c,b⟩
 |_=>exact b.elim
def fm(i:Nat){f:Dd}(h:PE X o (cf i))(M:PDE X e f)(g:attributeBase o "append" X.env (eval o X.env)=eval o X.env:=by rfl)
  (j:((backTo cpos (starEach [e] X.env)).all (λx=>!x.1)&&(backToKw cpos (keywordEach [] X.env)).all (λx=>x.1.isSome)
   && decide (([e]:List Expr).length+([]:List Keyword).length+(if([]:List Keyword).isEmpty then 0 else 1)<30))=true:=by rfl)
  (c:(apos.endLine == cpos.line)=true:=by rfl) (y:starEach [e] X.env=[(false,eval e X.env)]:=by rfl) (p:swapsWith (.Call (.Attribute o "append" apos) [e] [] cpos) none pos.line X.env=pure false:=by rfl) :
  PD1 X (.Expr (.Call (.Attribute o "append" apos) [e] [] cpos) pos) (iu i f):=
 PS.imp (c9 (jR YW ZE ZR gu h (aI M a_ y) g j c y rfl) p) λE C H=>un7 λP F s r b I k=>by
  unfold iu at b;split at b
  ·rename_i T t q;cases m:f s with
   |none=>rw[m]at b;cases b
   |some d=>
    rw[m,Ya]at b;split at b
    ·rename_i L;cases b;obtain⟨a,w,B,N,S,A,z⟩:=jr I q;refine⟨_,B,.inl ⟨rfl,w,SqL.of A⟩,P,F,s,d,m,I,λv Q U l J=>?_⟩;obtain⟨K,R⟩:=l.keep a _ A N;have O:=I.evo l;refine⟨a,w,v,rfl,rfl,K,by rw[YL,z.length];exact L,k C Q _ l.ext ?_⟩;exact O.mut (o':=.lst _) (u:=.lst _) q rfl rfl B ((z.same l.ext).append (.one J))
    ·cases b
  ·cases b
def oH(i:Nat):DF->Option RES:=λa=>match a[i]? with
 |some (some (.own (.lst _) t))=>some (.nx (a.set i (some (.own (.lst []) t))))
 |_=>none
def kg(i:Nat)(h:PE X o (cf i))(c:attributeBase o "clear" X.env (eval o X.env)=eval o X.env:=by rfl)(b:(apos.endLine == cpos.line)=true:=by rfl)(f:swapsWith (.Call (.Attribute o "clear" apos) [] [] cpos) none pos.line X.env=pure false:=by rfl) :
  PD1 X (.Expr (.Call (.Attribute o "clear" apos) [] [] cpos) pos) (oH i):=
 PS.imp (c9 (p8 YW PySem.F.slot_list_clear PySem.F.type_list_clear Ao h c b) f) λE m H=>un7 λP F p r e I k=>by
  unfold oH at e;split at e
  ·rename_i y t q;cases e;obtain⟨a,g,l,x,w,j,s⟩:=jr I q;exact⟨_,l,.inl ⟨rfl,g,SqL.of j⟩,a,g,rfl,rfl,j,k m F _ (Same.refl _) (I.mut (o':=.lst []) (u:=.lst []) q rfl rfl l .nil)⟩
  ·cases e
def nQ(i:Nat)(f g:Dd):DF->Option RES:=λa=>match a[i]? with
 |some (some (.own (.lst ds) t))=>(g a).bind λd=>(f a).bind λ
  |.int k=>(ixN ds.length k).map λj=>.nx (a.set i (some (.own (.lst (ds.set j d)) t)))
  |_=>none
 |_=>none
def sN(i:Nat){ix:Expr}{f g:Dd}(h:PE X o (cf i))(Q:PDE X ix f)(O:PDE X e g)
  (R:∀v,assign (.Subscript o ix apos) X.env v=(do
   let m <-holding [v] (eval o X.env)
   let y <-holding [v,m] (eval ix X.env)
   standAt apos
   holding [v,m,y] (setItem m y v)
   release [v,m,y] []):=by intro _;rfl) (N:swapsWithSole [.Subscript o ix apos] e pos.line X.env=pure false:=by rfl) (hw:swappedStores [.Subscript o ix apos] e X.env=pure none:=by rfl)
  (h1:(assignEach [.Subscript o ix apos] X.env).map (·.2)=[assign (.Subscript o ix apos) X.env]:=by rfl) :
  PD1 X (.Assign [.Subscript o ix apos] e pos) (nQ i f g):=
 PS.imp (zR O (EK h Q zz R) N hw h1) λE C H=>un7 λP F l r b I k=>by
  unfold nQ at b;split at b
  ·rename_i U t q;cases x:g l with
   |none=>rw[x]at b;cases b
   |some d=>
    rw[x,Ya]at b;cases s:f l with
    |none=>rw[s]at b;cases b
    |some Y=>
     rw[s,Ya]at b;cases Y with
     |int kk=>
      dsimp only at b;cases p:ixN U.length kk with
      |none=>rw[p]at b;cases b
      |some j=>
       rw[p]at b;cases b;obtain⟨a,J,h1,T,h3,S,z⟩:=jr I q;refine⟨P,F,l,d,x,I,λv F1 H1 B L=>⟨_,h1,P,F1,l,_,s,I.evo B,λw Z H2 A K=>?_⟩⟩;cases K;have c:=B.trans A;obtain⟨M,k2⟩:=c.keep a _ S T;refine⟨a,J,kk,j,rfl,rfl,M,by rw[z.length];exact p,k C Z _ c.ext ?_⟩;exact(I.evo c).mut (o':=.lst _) (u:=.lst _) q rfl rfl h1 ((z.same c.ext).set (L.same A.ext) j)
     |_=>cases b
  ·cases b
mutual
def ltD:D->D->Bool
 |.int i,.int j=>decide (i<j)
 |.bl a,.bl b=>!a&&b
 |.str x,.str y=>decide (x.cps.toList<y.cps.toList)
 |.tup xs,.tup ys=>cE xs ys
 |_,_=>false
def cE:List D->List D->Bool
 |[],[]=>false
 |[],_::_=>true
 |_::_,[]=>false
 |x::xs,y::ys=>if eqd x y=true then cE xs ys else ltD x y
end
mutual
def aH:D->D->Bool
 |.int _,.int _=>true
 |.bl _,.bl _=>true
 |.str _,.str _=>true
 |.tup xs,.tup ys=>bY xs ys
 |_,_=>false
def bY:List D->List D->Bool
 |x::xs,y::ys=>aH x y&&bY xs ys
 |_,_=>true
end
def A7(A:Around)(s:Shared)(y x:Value)(b:Bool):Prop:=
 ∀(p:Program) (w:World) (E:Kv) (Q:Kv),Q (.bool b) s->wpAny (model p w) A (richCompare .Lt y x) Q E s
inductive LexOk (A:Around) (s:Shared):List Value->List Value->List D->List D->Prop
 |nl {ws:List Value}{es:List D}:ws.length=es.length->LexOk A s [] ws [] es
 |nr {vs:List Value}{ds:List D}:vs.length=ds.length->LexOk A s vs [] ds []
 |cons {v w:Value}{d e:D}{vs ws:List Value}{ds es:List D}:SeqAt.EqAt A s v w (eqd d e)->(eqd d e=false->A7 A s v w (ltD d e))->LexOk A s vs ws ds es->LexOk A s (v::vs) (w::ws) (d::ds) (e::es)
def LexOk.len{vs w:List Value}{es:List D}(h:LexOk A s vs w ds es):vs.length=ds.length/\w.length=es.length:=by
 induction h with
 |nl h=>exact⟨rfl,h⟩
 |nr h=>exact⟨h,rfl⟩
 |cons _ _ _ ih=>exact⟨YM Nat.succ ih.1,YM Nat.succ ih.2⟩
section
open PySem.SeqAt
open PySem.AutoSeq1 (wpAny_loadPart')
open PySem.MeetsSeq PySem.MeetsSeq2 PySem.MeetsSeq3
def qV(l b:Addr)(i fF:Array Value)(n n2:Nat)(dd X:Option Addr)(sl O:Array (Option Value))(ds es:List D) :
  Meets (Builtin.«tuple.__lt__» ⟨[.ref l,.ref b],[]⟩)
   (λA R s=>LexOk A.in1 s i.toList fF.toList ds es/\s.heap.get? l=some {cls:=.type "tuple",dict:=dd,data:=.seq i n,slots:=sl}/\s.heap.get? b=some {cls:=.type "tuple",dict:=X,data:=.seq fF n2,slots:=O} /\
    R (.ok (.ret (.bool (cE ds es)))) s):=
 .of_wp λp w A R s h=>by
  obtain⟨H,g,d,C,E⟩:=s;obtain⟨j,hl,hb,h⟩:=h;have f2:=AutoSeq1.sub_tuple_tuple;have z1:i.size=ds.length:=by rw[<-j.len.1];simp
  have z2:fF.size=es.length:=by rw[<-j.len.2];simp
  wp_walk using Xe hl,Xe hb,wpAny_forIn_list _ (λaR b P=>b.1=none/\P=⟨H,g,d,C,E⟩/\∃(N M:List Value) (f e:List D),aR=N.zip M /\
   LexOk A.in1 ⟨H,g,d,C,E⟩ N M f e/\f.length+fF.size=e.length+i.size/\R (.ok (.ret (.bool (cE f e)))) ⟨H,g,d,C,E⟩) _
  case turn=>
   rintro⟨y,x⟩ aR b P ⟨o,rfl,N,M,f,e,m,S,a,B⟩;cases S with
   |nl _=>rw[List.zip_nil_left]at m;cases m
   |nr _=>rw[List.zip_nil_right]at m;cases m
   |@cons v w' L J Z Y K I he U Q=>
    rw[Va]at m;injection m with hyx hrest;injection hyx with hy hxx;subst hy hxx;simp only[Yh]at a;refine Yq (he p w _ _ ?_);cases q:eqd L J with
    |true=>
     have z:R (.ok (.ret (.bool (cE K I)))) ⟨H,g,d,C,E⟩:=by rw[cE,Yi q]at B;exact B
     wp_walk
     exact⟨rfl,rfl,_,_,_,_,hrest,Q,by omega,z⟩
    |false=>
     have z:R (.ok (.ret (.bool (ltD L J)))) ⟨H,g,d,C,E⟩:=by rw[cE,Yr (by rw[q];exact Ym)]at B;exact B
     have T:=U q p w
     wp_walk using T
     exact⟨_,rfl,by simpa using z⟩
  case fin=>
   rintro⟨b1,b2⟩ P ⟨o,rfl,N,M,f,e,m,S,a,B⟩;simp only at o;subst o;have hv:cE f e=decide (i.size<fF.size):=by
    cases S with
    |nl hw=>
     cases e with
     |nil=>
      simp only[YZ]at a;rw[show cE [] []=false by simp[cE]];exact(Yn (by omega)).symm
     |cons c u=>
      simp only[YZ,Yh]at a;rw[show cE [] (c::u)=true by simp[cE]];exact(YA (by omega)).symm
    |nr hw=>
     cases f with
     |nil=>
      simp only[YZ]at a;rw[show cE [] []=false by simp[cE]];exact(Yn (by omega)).symm
     |cons c u=>
      simp only[YZ,Yh]at a;rw[show cE (c::u) []=false by simp[cE]];exact(Yn (by omega)).symm
    |cons _ _ _=>
     rw[Va]at m;cases m
   rw[hv]at B
   wp_walk
   exact⟨_,rfl,by simpa[Builtin.Tuple.tupleCompareSizes]using B⟩
  case h=>
   exact⟨rfl,rfl,i.toList,fF.toList,ds,es,rfl,j,by omega,h⟩
end
def xc{l b:Addr}{i fF:Array Value}{es:List D}(C:IsTup s.heap l i)(H:IsTup s.heap b fF)(hx:LexOk A.in1 s i.toList fF.toList ds es)(B:A.units<cLine) :
  A7 A s (.ref l) (.ref b) (cE ds es):=by
 intro p w E Q h;obtain⟨⟨J,I,u,z⟩,m,q,n,o⟩:=id C;obtain⟨⟨y,g,j,f⟩,a,e,n2,c⟩:=id H;simp only at q o e c;subst q o e c;exact richCompare_meets_room (op:=.Lt) ⟨_,m,rfl⟩ ⟨_,a,rfl⟩ PySem.F.slot_tuple_lt PySem.F.entry_tuple_lt (PySem.F.args_tuple_lt_2 _ _) (qV l b i fF n n2 I g z f ds es)
  ⟨hx,m,a,show Value.bool (cE ds es)≠Value.notImplemented/\Q (.bool (cE ds es)) s from⟨(λx=>nomatch x),h⟩⟩ B
def jU:D->Bool
 |.tup _=>true
 |_=>false
def Rep.ltS(A:Around){x y:V}{d e:D}{w:Value}(h1:Rep X.K H x d)(h2:Rep X.K H y e)(c:aH d e=true)(hd:jU d=false)(f:RelV x u)(b:RelV y w):A7 A s u w (ltD d e):=by
 cases d with
 |int i=>
  cases e with
  |int j=>
   cases h1;cases h2;obtain⟨t,rfl⟩:=(show ∃t,u=Value.int _ t from f)
   obtain⟨g,rfl⟩:=(show ∃t,w=Value.int _ t from b)
   intro p a E Q h;exact HT.rcLt_int A s _ _ _ _ p a E Q (by rw[ltD]at h;exact h)
  |_=>exact absurd c Ym
 |bl b1=>
  cases e with
  |bl b2=>
   cases h1;cases h2;cases(show u=Value.bool _ from f);cases(show w=Value.bool _ from b);intro p a E Q h;exact(PyProof.Rows.lt_bool (by cases b1<;>cases b2<;>(rw[ltD]at h;exact h)):wpAny (model p a) A (compareOp .Lt (.bool b1) (.bool b2)) Q E s)
  |_=>exact absurd c Ym
 |str x1=>
  cases e with
  |str x2=>
   cases h1;cases h2;obtain⟨t,rfl⟩:=(show ∃t,u=Value.str _ t from f)
   obtain⟨g,rfl⟩:=(show ∃t,w=Value.str _ t from b)
   intro p a E Q h;exact(PyProof.Rows.lt_str (by rw[ltD]at h;exact h):wpAny (model p a) A (compareOp .Lt (.str x1 t) (.str x2 g)) Q E s)
  |_=>exact absurd c Ym
 |tup xs=>cases hd
 |_=>exact absurd c Ym
def Reps.lex(I:Inv X pz σ H s)(n:Nat)(A:Around)(S:A.units+n+2<cLine)
  (ih:∀{x y:V}{d e:D}{u w:Value},Rep X.K H x d->Rep X.K H y e->okN n d=true->okN n e=true->aH d e=true->RelV x u->RelV y w->A7 A s u w (ltD d e)) :
  ∀{xs ys:List V}{ds es:List D}{us a:List Value},Reps X.K H xs ds->Reps X.K H ys es->(∀d∈ds,okN n d=true)->(∀d∈es,okN n d=true)->bY ds es=true->Vals xs us->Vals ys a->LexOk A s us a ds es:=by
 intro xs ys ds;induction ds generalizing xs ys with
 |nil=>
  intro es us a i g _ _ _ f b;cases i;cases f;exact .nl (by rw[<-b.length,g.length])
 |cons d ds j=>
  intro es us a i g B z c f b;cases es with
  |nil=>
   cases g;cases b;exact .nr (by rw[<-f.length,i.length])
  |cons e es=>
   cases i with
   |cons h q=>
    cases g with
    |cons C J=>
     cases f with
     |cons r t=>
      cases b with
      |cons p E=>
       rw[bY,Ys]at c;have o:=B _ Yf;have m:=z _ Yf;obtain⟨Q,M⟩:=h.reads I n o r;obtain⟨x2,L⟩:=C.reads I n m p;obtain⟨P,N⟩:=eE n _ o;obtain⟨O,R⟩:=eE n _ m;refine .cons (PySem.SeqAt.eqAt_reads _ _ A s _ _ _ _ M L P O ?_) (λ_=>ih h C o m c.1 r p) (j q J (λd l=>B d (Ye _ l)) (λd l=>z d (Ye _ l)) c.2 t E);have:min (dF d).depth (dF e).depth<=n+1:=YQ (Nat.min_le_left _ _) N;omega
def Rep.lt(I:Inv X pz σ H s):∀(n:Nat) (A:Around),A.units+n+2<cLine->∀{x y:V}{d e:D}{u w:Value},Rep X.K H x d->Rep X.K H y e->okN n d=true->okN n e=true->aH d e=true->RelV x u->RelV y w->A7 A s u w (ltD d e):=by
 intro n;induction n with
 |zero=>
  intro A E x y d e u w a h o q c g f;refine a.ltS A h c ?_ g f;cases d<;>first|rfl|(simp[okN]at o)
 |succ n l=>
  intro A E x y d e u w a h o q c g f;cases C:jU d with
  |false=>exact a.ltS A h c C g f
  |true=>
   cases d with
   |tup ds=>
    cases e with
    |tup es=>
     cases a with
     |tup a q1=>
      cases h with
      |tup h q2=>
       cases(show u=Value.ref _ from g);cases(show w=Value.ref _ from f);obtain⟨B,j,p,_⟩:=I.tuple (SqT.of a);obtain⟨z,i,m,_⟩:=I.tuple (SqT.of h);rw[ltD];have b:A.in1.units+n+2<cLine:=by show A.units+1+n+2<cLine;omega
       exact xc p m (Reps.lex I n A.in1 b (l A.in1 b) q1 q2 (cz o) (cz q) (by rw[aH]at c;exact c) j i) (by omega)
    |_=>exact absurd c Ym
   |_=>cases C
def ltd(x y:D):Option D:=if(okN 30 x&&okN 30 y&&aH x y)=true then some (.bl (ltD x y))else none
def Hq(K:Kq):R2:=λx y H Q=>∃b a,Rep K H x b/\Rep K H y a/\okN 30 b=true/\okN 30 a=true/\aH b a=true/\Q (.bl (ltD b a)) H
def A9(j:X.A.units+64<cLine):OpR X (compareOp .Lt) (Hq X.K):=by intro p s i H x y v u Q I b a h;obtain⟨m,l,g,f,e,o,c,q⟩:=h;exact Rep.lt I 30 X.A (by omega) g f e o c b a X.prog X.w X.xe _ ⟨.bl _,H,I,rfl,q⟩
def Ah:OpN2 K (Hq K) ltd:=by
 intro P F H x y g f d Q a e c b k;unfold ltd at a;split at a
 ·rename_i h;rw[Ys,Ys]at h;cases a;exact⟨g,f,c,b,h.1.1,h.1.2,h.2,k _ F H (Evo.refl e) .bl⟩
 ·cases a
def Ew(h:X.A.units+64<cLine)(e:PDN X a fa)(c:PDN X b fb):PDE X (.Compare a [.Lt] [b] pos) (d2 ltd fa fb):=uZ (A9 h) Ah e c (gj _)
def e6(h:X.A.units+64<cLine)(e:PDN X a fa)(c:PDN X b fb):PDT X (.Compare a [.Lt] [b] pos) (asB (d2 ltd fa fb)):=lU (A9 h) Ah e c (gj _)
end L2
namespace L2
open PySem PySem.Spec PyProof.Rows PySem.W
def kok{b:Type}(n:Nat)(lt:Nat->Nat->Bool):KasT b->(b->Prop)->Prop
 |.ret a,Q=>Q a
 |.ask i j k,Q=>i<n/\j<n/\kok n lt (k (lt i j)) Q
def iA{c b:Type}{n:Nat}{lt:Nat->Nat->Bool}{f:c->KasT b}{Q:b->Prop}(t:KasT c):kok n lt t (λa=>kok n lt (f a) Q)->kok n lt (t.bind f) Q:=by
 induction t with
 |ret a=>exact λh=>h
 |ask i j k ih=>exact λh=>⟨h.1,h.2.1,ih _ h.2.2⟩
def eC{b:Type}{n:Nat}{lt:Nat->Nat->Bool}{Q c:b->Prop}(e:∀a,Q a->c a)(t:KasT b):kok n lt t Q->kok n lt t c:=by
 induction t with
 |ret a=>exact e a
 |ask i j k ih=>exact λh=>⟨h.1,h.2.1,ih _ h.2.2⟩
def FA{b:Type}{n:Nat}{lt:Nat->Nat->Bool}{c:Nat->Nat->(Bool->Shared->Prop)->Shared->Prop}{Q:b->Prop}{G:b->Shared->Prop}(e:∀i j C,i<n->j<n->C (lt i j) s->c i j C s)(f:∀a,Q a->G a s)(t:KasT b):kok n lt t Q->t.kasWp c G s:=by
 induction t with
 |ret a=>exact f a
 |ask i j k ih=>exact λh=>e i j _ h.1 h.2.1 (ih _ h.2.2)
structure Ord (lt:Nat->Nat->Bool):Prop where
 asym:∀i j,lt i j=true->lt j i=false
 trans:∀i j k,lt j i=false->lt k j=false->lt k i=false
section
variable{n:Nat}{lt:Nat->Nat->Bool}
structure PermN (n:Nat) (p:Array Nat):Prop where
 size:p.size=n
 perm:p.toList.Perm (List.range n)
def PermN.bd{p:Array Nat}(h:PermN n p)(hi:i<n):p.getD i 0<n:=by
 have a:i<p.size:=by rw[h.size];exact hi
 have e:p.getD i 0=p[i]:=by simp[Array.getD,a]
 rw[e];have b:p[i]∈p.toList:=by simp
 exact Zz.mp (h.perm.mem_iff.mp b)
def PermN.rev{p:Array Nat}(h:PermN n p)(i j:Nat):PermN n (kas_rev p i j):=
 ⟨by unfold kas_rev;rw[mirror_size,h.size],((Array.perm_iff_toList_perm.mp (mirror_perm _ _ _ _)).trans h.perm)⟩
def PermN.bub{p:Array Nat}(h:PermN n p)(i j:Nat):PermN n (bubble p i j):=
 ⟨by rw[bubble_size,h.size],((Array.perm_iff_toList_perm.mp (bubble_perm _ _ _)).trans h.perm)⟩
def jK{p q:Array Nat}(h:p[i]?=q[j]?):p.getD i 0=q.getD j 0:=by simp only[Xf,h]
def fW{p:Array Nat}(h:PermN n p)(a:j<=n)(k:Nat):(kas_rev p i j).getD k 0=if i<=k/\k<j then p.getD (i+j-1-k) 0 else p.getD k 0:=by
 have e:=getElem?_mirror_all (xs:=p) (i:=i) (j:=j) (by rw[h.size];exact a) k;unfold kas_rev;split
 ·rename_i q;rw[Yi q]at e;exact jK e
 ·rename_i q;rw[Yr q]at e;exact jK e
def Ris(lt:Nat->Nat->Bool)(p:Array Nat)(b:Nat):Prop:=∀i j,i<=j->j<b->lt (p.getD j 0) (p.getD i 0)=false
def Fal(lt:Nat->Nat->Bool)(p:Array Nat)(b:Nat):Prop:=∀i j,i<=j->j<b->lt (p.getD i 0) (p.getD j 0)=false
def Eqs(lt:Nat->Nat->Bool)(p:Array Nat)(a b:Nat):Prop:=∀i j,a<=i->i<b->a<=j->j<b->lt (p.getD i 0) (p.getD j 0)=false
def Ord.irr(o:Ord lt)(i:Nat):lt i i=false:=by
 cases q:lt i i with
 |false=>rfl
 |true=>have:=o.asym i i q;rw[q]at this;cases this
theorem lK{a b:Nat}(h:a<=i/\i<b):a<=a+b-1-i/\a+b-1-i<b:=by omega
def yo(o:Ord lt){p:Array Nat}(w:PermN n p):∀(f k:Nat),1<=k->k+f<=n->Ris lt p k->kok n lt (kas_asc p f k) (λm=>k<=m/\m<=k+f/\Ris lt p m/\(m=k+f\/lt (p.getD m 0) (p.getD (m-1) 0)=true)):=by
 intro f;induction f with
 |zero=>exact λk _ _ a=>⟨Yy _,Yy _,a,.inl rfl⟩
 |succ f ih=>
  intro k z x a;have s:k<n:=Yv (Xv (Nat.succ_pos f)) x;have u:k-1<k:=Vf z Nat.one_pos;have q:=Zj k 1 f;unfold kas_asc;refine⟨w.bd s,w.bd (Xd u s),?_⟩;cases c:lt (p.getD k 0) (p.getD (k-1) 0)with
  |true=>
   (try dsimp only);rw[Yi rfl]
   exact⟨Yy _,Nat.le_add_right _ _,a,.inr c⟩
  |false=>
   (try dsimp only);rw[Yr Ym]
   refine eC (λm h=>⟨XF h.1,YQ h.2.1 (ZT q),h.2.2.1,h.2.2.2.imp (λe=>e.trans q) id⟩) _ (ih (k+1) (ZD 1 k) (YQ (ZT q) x) λi j l y=>?_);by_cases b:j<k
   ·exact a i j l b
   ·have:j=k:=Zk (Zs y) (ZG b);subst this;by_cases g:i=j
    ·subst g;exact o.irr _
    ·exact o.trans _ _ _ (a i (j-1) (ZO (Zt l g)) u) c
def vz{p:Array Nat}(l:PermN n p){a b:Nat}(q:b<=n)(he:Eqs lt p a b)(o:Ord lt)(m:Fal lt p b):Fal lt (kas_rev p a b) b:=by
 intro i j c f;rw[fW l q,fW l q];by_cases e:a<=i/\i<b
 ·rw[Yi e];have h:a<=j/\j<b:=⟨YQ e.1 c,f⟩
  rw[Yi h];exact he _ _ (lK e).1 (lK e).2 (lK h).1 (lK h).2
 ·rw[Yr e];have g:i<a:=Nat.lt_of_not_le λz=>e ⟨z,Zc c f⟩
  by_cases h:a<=j/\j<b
  ·rw[Yi h];exact m _ _ (YQ (ZB g) (lK h).1) (lK h).2
  ·rw[Yr h];exact m i j c f
def nR(o:Ord lt){p':Array Nat}{k:Nat}(h1:1<=k)(c:Fal lt p' k)(f:lt (p'.getD (k-1) 0) (p'.getD k 0)=false):Fal lt p' (k+1):=by
 intro i j b e;by_cases h:j<k
 ·exact c i j b h
 ·have:j=k:=Zk (Zs e) (ZG h);subst this;by_cases a:i=j
  ·subst a;exact o.irr _
  ·exact o.trans _ _ _ f (c i (j-1) (ZO (Zt b a)) (Vf h1 Nat.one_pos))
def qF(o:Ord lt)(p':Array Nat)(k:Nat):Eqs lt p' (k+1-(0+1)) (k+1):=by intro i j g f c b;have a:i=k:=Zk (Zs f) g;have e:j=k:=Zk (Zs b) c;subst a;subst e;exact o.irr _
def zD(o:Ord lt){p:Array Nat}{k q:Nat}(a:k-(q+1)<=k-1/\k-1<k)(he:Eqs lt p (k-(q+1)) k)(c:lt (p.getD k 0) (p.getD (k-1) 0)=false)(d:lt (p.getD (k-1) 0) (p.getD k 0)=false):Eqs lt p (k+1-(q+1+1)) (k+1):=by
 have e:∀i,k+1-(q+1+1)<=i->i<k+1->lt (p.getD i 0) (p.getD k 0)=false/\lt (p.getD k 0) (p.getD i 0)=false:=λi b1 b2=>by
  rw[Nat.add_sub_add_right]at b1;by_cases h:i=k
  ·subst h;exact⟨o.irr _,o.irr _⟩
  ·have b:i<k:=Zt (Zs b2) h;exact⟨o.trans _ _ _ d (he i (k-1) b1 b a.1 a.2),o.trans _ _ _ (he (k-1) i a.1 a.2 b1 b) c⟩
 exact λi j m l g f=>o.trans _ _ _ (e j g f).2 (e i m l).1
def Cn(o:Ord lt):∀(f:Nat) (p:Array Nat) (k q:Nat),PermN n p->1<=k->k+f<=n->q+1<=k->Fal lt p k->Eqs lt p (k-(q+1)) k->
  kok n lt (kas_desc f p k q) (λr=>PermN n r.1/\k<=r.2.1/\r.2.1<=n/\r.2.2+1<=r.2.1/\Fal lt r.1 r.2.1/\Eqs lt r.1 (r.2.1-(r.2.2+1)) r.2.1):=by
 intro f;induction f with
 |zero=>exact λp k q a m u s g i=>⟨a,Yy _,u,s,g,i⟩
 |succ f ih=>
  intro p k q a m u s g i;have b:k<n:=Yv (Xv (Nat.succ_pos f)) u;have w:k-1<k:=Vf m Nat.one_pos;have e:k+1+f<=n:=YQ (ZT (Zj k 1 f)) u;have j:k-(q+1)<=k-1/\k-1<k:=⟨Nat.sub_le_sub_left (Xq (YS q)) k,w⟩
  unfold kas_desc;refine⟨a.bd b,a.bd (Xd w b),?_⟩;cases c:lt (p.getD k 0) (p.getD (k-1) 0)with
  |true=>
   (try dsimp only);rw[Yi rfl]
   have A:lt (p.getD (k-1) 0) (p.getD k 0)=false:=o.asym _ _ c;by_cases l:q > 0
   ·rw[Yi l];have x:=vz a (ZB b) i o g;have y:lt ((kas_rev p (k-(q+1)) k).getD (k-1) 0) ((kas_rev p (k-(q+1)) k).getD k 0)=false:=by rw[fW a (ZB b),fW a (ZB b),Yi j,Yr (λz=>Zn _ z.2)];exact o.trans _ _ _ A (i _ _ (lK j).1 (lK j).2 j.1 j.2)
    exact eC (λr h=>⟨h.1,XF h.2.1,h.2.2⟩) _ (ih _ (k+1) 0 (a.rev _ _) (ZD 1 k) e (ZD 1 k) (nR o m x y) (qF o _ k))
   ·rw[Yr l];exact eC (λr h=>⟨h.1,XF h.2.1,h.2.2⟩) _ (ih _ (k+1) 0 a (ZD 1 k) e (ZD 1 k) (nR o m g A) (qF o _ k))
  |false=>
   (try dsimp only);rw[Yr Ym]
   refine⟨a.bd (Xd w b),a.bd b,?_⟩;cases d:lt (p.getD (k-1) 0) (p.getD k 0)with
   |true=>
    (try dsimp only);rw[Yi rfl]
    exact⟨a,Yy _,ZB b,s,g,i⟩
   |false=>
    (try dsimp only);rw[Yr Ym]
    exact eC (λr h=>⟨h.1,XF h.2.1,h.2.2⟩) _ (ih p (k+1) (q+1) a (ZD 1 k) e (Xq s) (nR o m g d) (zD o j i c d))
def Di{p:Array Nat}(a:PermN n p){b:Nat}(f:b<=n)(g:Fal lt p b):Ris lt (kas_rev p 0 b) b:=by
 intro i j h c;have e:0<=i/\i<b:=⟨YS _,Zc h c⟩
 rw[fW a f,fW a f,Yi ⟨YS _,c⟩,Yi e];exact g _ _ (Nat.sub_le_sub_left h _) (lK e).2
def sZ(o:Ord lt){p:Array Nat}(a:PermN n p){k:Nat}(h1:1<=k)(b:k<=n)(c:Fal lt p k):kok n lt (kas_tail3 k n p) (λr=>1<=r.1/\r.1<=n/\PermN n r.2/\Ris lt r.2 r.1):=by unfold kas_tail3;have e:=ZT (Xr b);exact iA _ (eC (λm h=>⟨YQ h1 h.1,YQ h.2.1 e,a.rev _ _,h.2.2.1⟩) _ (yo o (a.rev 0 k) (n-k) k h1 e (Di a b c)))
def lB(o:Ord lt){p:Array Nat}(g:PermN n p){k:Nat}(h1:1<=k)(i:k<n)(j:Fal lt p (k+1)):kok n lt (kas_descPart k n p) (λr=>1<=r.1/\r.1<=n/\PermN n r.2/\Ris lt r.2 r.1):=by
 unfold kas_descPart;refine iA _ (eC ?_ _ (Cn o (n-(k+1)) p (k+1) 0 g (ZD 1 k) (ZT (Xr i)) (ZD 1 k) j (qF o p k)));intro r h;obtain⟨c,m,b,q,f,l⟩:=h;have a:=YQ (ZD 1 k) m;by_cases e:r.2.2 > 0
 ·rw[Yi e];exact sZ o (c.rev _ _) a b (vz c b l o f)
 ·rw[Yr e];exact sZ o c a b f
def yn(o:Ord lt){p:Array Nat}(f:PermN n p)(L:1<=n):kok n lt (kas_count n p) (λr=>1<=r.1/\r.1<=n/\PermN n r.2/\Ris lt r.2 r.1):=by
 unfold kas_count;have H:=Xr L;refine iA _ (eC (λk C=>?_) _ (yo o f (n-1) 1 (Yy _) (ZT H) λi j a l=>by
  have I:j=0:=Nat.lt_one_iff.mp l;subst I;have J:i=0:=Nat.le_zero.mp a;subst J;exact o.irr _))
 obtain⟨s,m,w,P⟩:=C;have m:k<=n:=YQ m (ZT H);by_cases B:(k == n)=true
 ·rw[Yi B];exact⟨s,m,f,w⟩
 ·rw[Yr B];have q:k≠n:=by simpa using B
  have x:k<n:=Zt m q;have y:k-1<k:=Vf s Nat.one_pos;have A:lt (p.getD k 0) (p.getD (k-1) 0)=true:=by
   rcases P with e|e
   ·exact absurd (e.trans H) q
   ·exact e
  have M:=o.asym _ _ A;by_cases E:k > 1
  ·rw[Yi E];refine⟨f.bd (Yv Nat.one_pos L),f.bd (Xd y x),?_⟩;cases c:lt (p.getD 0 0) (p.getD (k-1) 0)with
   |true=>
    (try dsimp only);rw[Yi rfl]
    exact⟨s,m,f,w⟩
   |false=>
    (try dsimp only);rw[Yr Ym]
    have b:∀i j,i<k->j<k->lt (p.getD i 0) (p.getD j 0)=false:=λi j u l=>
     o.trans _ _ _ (o.trans _ _ _ (w j (k-1) (ZO l) y) c) (w 0 i (YS _) u)
    refine lB o (f.rev _ _) s x λi j a l=>?_;rw[fW f m,fW f m];by_cases g:j<k
    ·have u:0<=i/\i<k:=⟨YS _,Zc a g⟩
     rw[Yi u,Yi ⟨YS _,g⟩];exact b _ _ (lK u).2 (lK ⟨YS _,g⟩).2
    ·have O:j=k:=Zk (Zs l) (ZG g);subst O;rw[Yr (λz:0<=j/\j<j=>Zn _ z.2)];by_cases h:i<j
     ·rw[Yi ⟨YS _,h⟩];exact o.trans _ _ _ M (b _ _ (lK ⟨YS _,h⟩).2 y)
     ·rw[Yr λz=>h z.2];have:i=j:=Zk a (ZG h);subst this;exact o.irr _
  ·rw[Yr E];have N:k=1:=Zk (ZG E) s;subst N;refine lB o f (Yy _) x λi j a l=>?_;by_cases h:i=j
   ·subst h;exact o.irr _
   ·have K:i<j:=Zt a h;have I:j=1:=Zk (Zs l) (Zc (YS i) K);subst I;have J:i=0:=Nat.lt_one_iff.mp K;subst J;exact M
theorem jN(o:Ord lt){p:Array Nat}(w:PermN n p){k:Nat}(x:k<n)(u:Ris lt p k):∀(f l r:Nat),l<=r->r<=k->r-l<=f->(∀i,i<l->lt (p.getD k 0) (p.getD i 0)=false)->(∀i,r<=i->i<k->lt (p.getD k 0) (p.getD i 0)=true)->
  kok n lt (kas_place p k f l r) (λm=>m<=k/\(∀i,i<m->lt (p.getD k 0) (p.getD i 0)=false)/\∀i,m<=i->i<k->lt (p.getD k 0) (p.getD i 0)=true):=by
 intro f;induction f with
 |zero=>
  intro l r y h A g b;have e:l=r:=Zk y (Nat.le_of_sub_eq_zero (Nat.le_zero.mp A));subst e;exact⟨h,g,b⟩
 |succ f ih=>
  intro l r y h A g b;unfold kas_place;by_cases a:l ≥ r
  ·rw[Yi a];have e:l=r:=Zk y a;subst e;exact⟨h,g,b⟩
  ·rw[Yr a];have s:l<=(l+r)/2/\(l+r)/2<r/\(l+r)/2-l<=f/\r-((l+r)/2+1)<=f:=by clear g b u w ih h x;omega
   obtain⟨E,j,C,B⟩:=s;refine⟨w.bd x,w.bd (Xd (Yv j h) x),?_⟩;cases c:lt (p.getD k 0) (p.getD ((l+r)/2) 0)with
   |true=>
    (try dsimp only);rw[Yi rfl]
    refine ih l _ E (YQ (ZB j) h) C g λi z H=>?_;cases q:lt (p.getD k 0) (p.getD i 0)with
    |true=>rfl
    |false=>
     have:=o.trans _ _ _ (u ((l+r)/2) i z H) q;rw[c]at this;cases this
   |false=>
    (try dsimp only);rw[Yr Ym]
    exact ih _ r j h B (λi z=>o.trans _ _ _ (u i ((l+r)/2) (Zs z) (Yv j h)) c) b
def vV{p:Array Nat}(b:PermN n p){k l:Nat}(f:k<n)(c:l<=k)(i:Nat):(bubble p k (k-l)).getD i 0=if i=l then p.getD k 0 else if l<i/\i<=k then p.getD (i-1) 0 else p.getD i 0:=by
 have e:=getElem?_bubble (xs:=p) (src:=k) (by rw[b.size];exact f) (k-l) (Nat.sub_le _ _) i;rw[Nat.sub_sub_self c]at e;by_cases a:i=l
 ·rw[Yi a]at e ⊢;exact jK e
 ·rw[Yr a]at e ⊢;by_cases h:l<i/\i<=k
  ·rw[Yi h]at e ⊢;exact jK e
  ·rw[Yr h]at e ⊢;exact jK e
def Dh(o:Ord lt){p:Array Nat}(x:PermN n p){k l:Nat}(u:k<n)(q:Ris lt p k)(s:l<=k)(B:∀i,i<l->lt (p.getD k 0) (p.getD i 0)=false)(A:∀i,l<=i->i<k->lt (p.getD k 0) (p.getD i 0)=true):Ris lt (bubble p k (k-l)) (k+1):=by
 intro i j h y;have b:j<=k:=Zs y;have m:l<j->j-1<k:=λz=>Yv (Vf (Zc (YS l) z) Nat.one_pos) b
 rw[vV x u s,vV x u s];by_cases f:i=l
 ·rw[Yi f];by_cases e:j=l
  ·rw[Yi e];exact o.irr _
  ·have a:l<j:=Zt (f ▸ h) (ZX e);rw[Yr e,Yi ⟨a,b⟩];exact o.asym _ _ (A (j-1) (ZO a) (m a))
 ·rw[Yr f];by_cases e:j=l
  ·have w:i<=l:=e ▸ h;rw[Yi e,Yr λz=>Zn _ (Yv z.1 w)];exact B i (Zt w f)
  ·rw[Yr e];by_cases g:l<i/\i<=k
   ·have a:=Yv g.1 h;rw[Yi g,Yi ⟨a,b⟩];exact q _ _ (Nat.sub_le_sub_right h 1) (m a)
   ·rw[Yr g];by_cases c:l<j/\j<=k
    ·rw[Yi c];exact q _ _ (ZO (Zc (ZG λz=>g ⟨z,YQ h b⟩) c.1)) (m c.1)
    ·rw[Yr c];exact q _ _ h (Yv (Zt (ZG λz=>c ⟨z,b⟩) e) s)
def Fk(o:Ord lt):∀(f:Nat) (p:Array Nat) (k:Nat),PermN n p->k+f=n->Ris lt p k->kok n lt (kas_bin f p k) (λr=>PermN n r/\Ris lt r n):=by
 intro f;induction f with
 |zero=>exact λp k h b a=>⟨h,by rw[<-b];exact a⟩
 |succ f ih=>
  intro p k h b a;have e:k<n:=b ▸ Xv (Nat.succ_pos f);unfold kas_bin;refine iA _ (eC (λl c=>?_) _ (jN o h e a k 0 k (YS _) (Yy _) (Yy _) (λi g=>absurd g (Nat.not_lt_zero _)) λi m j=>absurd j (Nat.not_lt_of_le m)));obtain⟨u,s,q⟩:=c;exact ih _ (k+1) (h.bub _ _) ((Zj k 1 f).trans b) (Dh o h e a u s q)
def mB(n:Nat):PermN n (List.toArray (List.range n)):=⟨by simp,by simp⟩
def sA(o:Ord lt)(g:1<=n):kok n lt (kas_sort n) (λr=>PermN n r/\Ris lt r n):=by
 unfold kas_sort;refine iA _ (eC (λr a=>?_) _ (yn o (mB n) g));obtain⟨i,f,c,b⟩:=a;by_cases h:r.1<n
 ·rw[Yi h];have e:max r.1 1=r.1:=Nat.max_eq_left i;rw[e];exact Fk o _ _ _ c (Xr f) b
 ·rw[Yr h];have e:r.1=n:=Zk f (ZG h);rw[e]at b;exact⟨c,b⟩
end
def lA(vs:List Value)(p:Array Nat):Array Value:=(p.toList.map λi=>vs.getD i Value.none).toArray
theorem xE(vs:List Value)(h:vs.length<2):lA vs (List.toArray (List.range vs.length))=(vs.toArray.zip vs.toArray).map (·.2):=by
 cases vs with
 |nil=>simp[lA]
 |cons v r=>
  cases r with
  |nil=>simp[lA,List.range,List.range.loop]
  |cons _ _=>simp at h;omega
theorem oF{a:Addr}{vs:List Value}{n:Nat}{P:PySem.Fin->Shared->Prop}(B:s.heap.get? a=some (seqObj "list" vs.toArray n))(h64:vs.length<64)(κ:SortKind)(lt:Nat->Nat->Bool)(o:Ord lt)
  (N:2<=vs.length->∀h',(∀b u,b≠a->s.heap.get? b=some u->h'.get? b=some u)->∀Q:SortKind->Shared->Prop,Q κ {s with heap:=h' }->wpAny (model prog w) A (keyKind' vs.toArray) Q E {s with heap:=h' })
  (S:∀h',(∀b u,b≠a->s.heap.get? b=some u->h'.get? b=some u)->∀i j C,i<vs.length->j<vs.length->C (lt i j) {s with heap:=h' }->kas_ask prog w A κ vs i j C {s with heap:=h' })
  (h:∀p,PermN vs.length p->Ris lt p vs.length->P (.done (.ret .none)) {s with heap:=sortedHeap s.heap a vs (lA vs p)}) :
  wpAny (model prog w) A (Builtin.«list.sort» ⟨[.ref a],[]⟩) P E s:=by
 rw[list_sort_plain];have K:a<s.heap.objs.size:=YD B;refine Yq (listItems_at B rfl ?_);refine Yq (listUpdate_at B rfl ?_ (by rw[Yp,YL];omega) (YS _));obtain⟨z,m⟩:∃z,(s.heap.update a (Obj.mapSeq λ_=>(#[]:Array Value))).get? a=some (seqObj "list" #[] z):=⟨_,get?_update_seq B (λ_=>#[])⟩
 refine Yq (seqEpoch_at m rfl ?_);refine Yq (wpAny_newTuple ?_ (by show vs.length<=_;rw[YL];omega));refine Yq (wpAny_newList ?_ (YS _));refine ZU ?_;have f:(((s.heap.update a (Obj.mapSeq λ_=>(#[]:Array Value))).push (seqObj "tuple" vs.toArray 0)).push (seqObj "list" #[] 0)).get? a=some (seqObj "list" #[] z):=by rw[Xl _ _ _ (by rw[size_push',XN];exact YN (Xj K)),Xl _ _ _ (by rw[XN];exact YN K)];exact m
 have kept:∀b u,b≠a->s.heap.get? b=some u->(((s.heap.update a (Obj.mapSeq λ_=>(#[]:Array Value))).push (seqObj "tuple" vs.toArray 0)).push (seqObj "list" #[] 0)).get? b=some u:=λb u T e=>by
  have x:b<s.heap.objs.size:=YD e;rw[Xl _ _ _ (by rw[size_push',XN];exact YN (Xj x)),Xl _ _ _ (by rw[XN];exact YN x),Heap.get?_update_ne _ _ _ _ T];exact e
 show wpAny (model prog w) A _ P E {s with heap:=((s.heap.update a (Obj.mapSeq λ_=>(#[]:Array Value))).push (seqObj "tuple" vs.toArray 0)).push (seqObj "list" #[] 0)};dsimp only;have L:vs.toArray.size=vs.length:=by simp
 by_cases H:vs.toArray.size<2
 ·rw[Yi H,Yi H];refine Yq (YR ?_);rw[StateT.run_pure];refine Yq (YR ?_);dsimp only;refine Yq (seqEpoch_at f rfl ?_);refine Yq (listUpdate_at f rfl ?_ (YS _) (by rw[Array.size_map];show(pairsOf vs).size<=_;rw[pairsOf_size,YL];omega));simp only[bne_self_eq_false,XZ,if_false];have q:=h (List.toArray (List.range vs.length)) (mB _) (λi j O Y=>by
   have z:i=j:=by omega
   subst z;exact o.irr _)
  have e:lA vs (List.toArray (List.range vs.length))=(vs.toArray.zip vs.toArray).map (·.2):=by exact xE vs (by omega)
  rw[e]at q;exact YR q
 ·rw[Yr H,Yr H];have y:2<=vs.length:=by omega
  refine Yq (N y _ kept _ ?_);refine Yq (Zx (kat_run (Q:=λc g=>g={s with heap:=((s.heap.update a (Obj.mapSeq λ_=>(#[]:Array Value))).push (seqObj "tuple" vs.toArray 0)).push (seqObj "list" #[] 0)}/\∃p:Array Nat,PermN vs.length p/\Ris lt p vs.length/\arrOf c=p.map (kas_item (vs.toArray.zip vs.toArray))/\failedOf c=none)
   (G:=λp g=>g={s with heap:=((s.heap.update a (Obj.mapSeq λ_=>(#[]:Array Value))).push (seqObj "tuple" vs.toArray 0)).push (seqObj "list" #[] 0)}/\PermN vs.length p/\Ris lt p vs.length)
   rfl y h64 (λp c g Z X U ⟨b1,b2,b3⟩=>⟨b1,p,b2,b3,X,U⟩) (FA (S _ kept) (λp ⟨b2,b3⟩=>⟨rfl,b2,b3⟩) _ (sA o (by omega)))) ?_ λ_ _ e=>e)
  rintro⟨⟨⟩,c⟩ g ⟨rfl,p,J,M,I,R⟩;dsimp only;have l:=kat_snds rfl I;rw[l];refine Yq (seqEpoch_at f rfl ?_);refine Yq (listUpdate_at f rfl ?_ (YS _) (by rw[Yp,Yc,Zy,J.size,YL];omega));rw[R];simp only[bne_self_eq_false,XZ,if_false];exact YR (h p J M)
def B0{y:Str}(h:x.cps.toList=y.cps.toList):x=y:=by
 cases x;cases y
 congr
 exact Array.toList_inj.mp h
mutual
theorem dm:∀x y:D,aH x y=true->(eqd x y=true↔x=y)
 |.int i,.int j,_=>by simp[eqd,dF,PyData.eqv]
 |.bl a,.bl b,_=>by simp[eqd,dF,PyData.eqv]
 |.str a,.str b,_=>by simp[eqd,dF,PyData.eqv]
 |.tup xs,.tup ys,h=>by
  have:=mR xs ys (by simpa[aH]using h);simp only[eqd,dF,PyData.eqv,D.tup.injEq];exact this
 |.non,y,h=>by cases y<;>simp[aH]at h
 |.lst _,y,h=>by cases y<;>simp[aH]at h
 |.dT _,y,h=>by cases y<;>simp[aH]at h
 |.dK _,y,h=>by cases y<;>simp[aH]at h
 |.ins _ _,y,h=>by cases y<;>simp[aH]at h
 |.int _,.non,h=>by simp[aH]at h
 |.int _,.bl _,h=>by simp[aH]at h
 |.int _,.str _,h=>by simp[aH]at h
 |.int _,.tup _,h=>by simp[aH]at h
 |.int _,.lst _,h=>by simp[aH]at h
 |.int _,.dT _,h=>by simp[aH]at h
 |.int _,.dK _,h=>by simp[aH]at h
 |.int _,.ins _ _,h=>by simp[aH]at h
 |.bl _,.non,h=>by simp[aH]at h
 |.bl _,.int _,h=>by simp[aH]at h
 |.bl _,.str _,h=>by simp[aH]at h
 |.bl _,.tup _,h=>by simp[aH]at h
 |.bl _,.lst _,h=>by simp[aH]at h
 |.bl _,.dT _,h=>by simp[aH]at h
 |.bl _,.dK _,h=>by simp[aH]at h
 |.bl _,.ins _ _,h=>by simp[aH]at h
 |.str _,.non,h=>by simp[aH]at h
 |.str _,.bl _,h=>by simp[aH]at h
 |.str _,.int _,h=>by simp[aH]at h
 |.str _,.tup _,h=>by simp[aH]at h
 |.str _,.lst _,h=>by simp[aH]at h
 |.str _,.dT _,h=>by simp[aH]at h
 |.str _,.dK _,h=>by simp[aH]at h
 |.str _,.ins _ _,h=>by simp[aH]at h
 |.tup _,.non,h=>by simp[aH]at h
 |.tup _,.bl _,h=>by simp[aH]at h
 |.tup _,.int _,h=>by simp[aH]at h
 |.tup _,.str _,h=>by simp[aH]at h
 |.tup _,.lst _,h=>by simp[aH]at h
 |.tup _,.dT _,h=>by simp[aH]at h
 |.tup _,.dK _,h=>by simp[aH]at h
 |.tup _,.ins _ _,h=>by simp[aH]at h
theorem mR:∀xs ys:List D,bY xs ys=true->(PyData.eqvAll (d9 xs) (d9 ys)=true↔xs=ys)
 |[],[],_=>by simp[d9,PyData.eqvAll]
 |[],_::_,_=>by simp[d9,PyData.eqvAll]
 |_::_,[],_=>by simp[d9,PyData.eqvAll]
 |x::xs,y::ys,h=>by
  rw[bY,Ys]at h;have a:=dm x y h.1;have b:=mR xs ys h.2;simp only[d9,PyData.eqvAll,Ys,List.cons.injEq];rw[b];unfold eqd at a;rw[a]
end
structure Fc2 {α:Type} (l:α->α->Bool) (x y:α):Prop where
 as:l x y=true->l y x=false
 an:l x y=false->l y x=false->x=y
def Fc3{a:Type}(l:a->a->Bool)(x y z:a):Prop:=l x y=true->l y z=true->l x z=true
def bF{x:D}(h:aH x y=true):(∃i j,x=.int i/\y=.int j)\/(∃i j,x=.bl i/\y=.bl j)\/(∃i j,x=.str i/\y=.str j)\/∃i j,x=.tup i/\y=.tup j/\bY i j=true:=by
 cases x with
 |int i=>
  refine .inl ?_;cases y with
  |int j=>exact⟨_,_,rfl,rfl⟩
  |_=>exact absurd h Ym
 |bl i=>
  refine .inr (.inl ?_);cases y with
  |bl j=>exact⟨_,_,rfl,rfl⟩
  |_=>exact absurd h Ym
 |str i=>
  refine .inr (.inr (.inl ?_));cases y with
  |str j=>exact⟨_,_,rfl,rfl⟩
  |_=>exact absurd h Ym
 |tup i=>
  refine .inr (.inr (.inr ?_));cases y with
  |tup j=>exact⟨_,_,rfl,rfl,h⟩
  |_=>exact absurd h Ym
 |_=>exact absurd h Ym
def xX{a b:List Nat}(h:a<b):¬b<a:=λc=>List.lt_irrefl a (List.lt_trans h c)
def jM{x:D}(h1:aH x y=true)(b:jU x=false):Fc2 ltD x y:=by
 rcases bF h1 with⟨i,j,rfl,rfl⟩|⟨i,j,rfl,rfl⟩|⟨i,j,rfl,rfl⟩|⟨i,j,rfl,rfl,_⟩
 ·refine⟨λh=>?_,λh a=>?_⟩
  ·simp only[ltD,YE,Zf]at h ⊢;omega
  ·simp only[ltD,Zf]at h a;rw[show i=j by omega]
 ·refine⟨λh=>?_,λh a=>?_⟩
  ·cases i<;>cases j<;>simp_all [ltD]
  ·cases i<;>cases j<;>simp_all [ltD]
 ·refine⟨λh=>?_,λh a=>?_⟩
  ·simp only[ltD,YE,Zf]at h ⊢;exact xX h
  ·simp only[ltD,Zf]at h a;rw[B0 (List.le_antisymm a h)]
 ·cases b
def j0{x z:D}(h1:aH x y=true)(h2:aH y z=true)(c:jU x=false):Fc3 ltD x y z:=by
 rcases bF h1 with⟨i,j,rfl,rfl⟩|⟨i,j,rfl,rfl⟩|⟨i,j,rfl,rfl⟩|⟨i,j,rfl,rfl,_⟩
 ·rcases bF h2 with⟨a,k,e,rfl⟩|⟨a,k,e,rfl⟩|⟨a,k,e,rfl⟩|⟨a,k,e,rfl,_⟩<;>cases e;intro h b;simp only[ltD,YE]at h b ⊢;omega
 ·rcases bF h2 with⟨a,k,e,rfl⟩|⟨a,k,e,rfl⟩|⟨a,k,e,rfl⟩|⟨a,k,e,rfl,_⟩<;>cases e;intro h b;cases i<;>cases j<;>cases k<;>simp_all [ltD]
 ·rcases bF h2 with⟨a,k,e,rfl⟩|⟨a,k,e,rfl⟩|⟨a,k,e,rfl⟩|⟨a,k,e,rfl,_⟩<;>cases e;intro h b;simp only[ltD,YE]at h b ⊢;exact List.lt_trans h b
 ·cases c
def xV(n:Nat):∀x y:D,okN n x=true->aH x y=true->aH y x=true:=by
 induction n with
 |zero=>
  intro x y o h;rcases bF h with⟨i,j,rfl,rfl⟩|⟨i,j,rfl,rfl⟩|⟨i,j,rfl,rfl⟩|⟨i,j,rfl,rfl,_⟩
  ·rfl
  ·rfl
  ·rfl
  ·simp[okN]at o
 |succ n ih=>
  intro x y o h;rcases bF h with⟨i,j,rfl,rfl⟩|⟨i,j,rfl,rfl⟩|⟨i,j,rfl,rfl⟩|⟨i,j,rfl,rfl,c⟩
  ·rfl
  ·rfl
  ·rfl
  ·have e:∀(b a:List D),(∀d∈b,okN n d=true)->bY b a=true->bY a b=true:=by
    intro b;induction b with
    |nil=>intro a _ _;cases a<;>simp[bY]
    |cons x b f=>
     intro a g c;cases a with
     |nil=>simp[bY]
     |cons y a=>
      rw[bY,Ys]at c ⊢;exact⟨ih x y (g x Yf) c.1,f a (λd l=>g d (Ye _ l)) c.2⟩
   rw[aH];exact e i j (cz o) c
def Co{n:Nat}(ih:∀x y:D,okN n x=true->okN n y=true->aH x y=true->Fc2 ltD x y) :
  ∀(xs ys:List D),(∀d∈xs,okN n d=true)->(∀d∈ys,okN n d=true)->bY xs ys=true->Fc2 cE xs ys:=by
 intro xs;induction xs with
 |nil=>
  intro ys _ _ _;refine⟨λh=>?_,λh c=>?_⟩
  ·cases ys<;>simp_all [cE]
  ·cases ys<;>simp_all [cE]
 |cons x xs i=>
  intro ys l o f;cases ys with
  |nil=>
   refine⟨λh=>?_,λh c=>?_⟩
   ·simp[cE]at h
   ·simp[cE]at c
  |cons y ys=>
   rw[bY,Ys]at f;have p:=l x Yf;have j:=o y Yf;have b:=dm x y f.1;have e:=dm y x (xV n x y p f.1);have G:=i ys (λd g=>l d (Ye _ g)) (λd g=>o d (Ye _ g)) f.2;refine⟨λh=>?_,λh c=>?_⟩
   ·rw[cE]at h ⊢;by_cases a:x=y
    ·rw[Yi (b.mpr a)]at h;rw[Yi (e.mpr a.symm)];exact G.as h
    ·rw[Yr (λq=>a (b.mp q))]at h;rw[Yr (λq=>a (e.mp q).symm)];exact(ih x y p j f.1).as h
   ·rw[cE]at h c;by_cases a:x=y
    ·rw[Yi (b.mpr a)]at h;rw[Yi (e.mpr a.symm)]at c;rw[a,G.an h c]
    ·rw[Yr (λq=>a (b.mp q))]at h;rw[Yr (λq=>a (e.mp q).symm)]at c;exact absurd ((ih x y p j f.1).an h c) a
def j4(n:Nat):∀x y:D,okN n x=true->okN n y=true->aH x y=true->Fc2 ltD x y:=by
 induction n with
 |zero=>
  intro x y o a c;refine jM c ?_;cases x<;>first|rfl|(simp[okN]at o)
 |succ n ih=>
  intro x y o a c;rcases bF c with⟨i,j,rfl,rfl⟩|⟨i,j,rfl,rfl⟩|⟨i,j,rfl,rfl⟩|⟨i,j,rfl,rfl,d1⟩
  iterate 3 exact jM c rfl
  ·have F:=Co ih i j (cz o) (cz a) d1;refine⟨λh=>?_,λh b=>?_⟩
   ·rw[ltD]at h ⊢;exact F.as h
   ·rw[ltD]at h b;rw[F.an h b]
def C3{n:Nat}(ih:∀x y z:D,okN n x=true->okN n y=true->okN n z=true->aH x y=true->aH y z=true->aH x z=true->Fc3 ltD x y z) :
  ∀(xs ys zs:List D),(∀d∈xs,okN n d=true)->(∀d∈ys,okN n d=true)->(∀d∈zs,okN n d=true)->bY xs ys=true->bY ys zs=true->bY xs zs=true->Fc3 cE xs ys zs:=by
 intro xs;induction xs with
 |nil=>
  intro ys zs _ _ _ _ _ _ h c;cases ys<;>cases zs<;>simp_all [cE]
 |cons x xs o=>
  intro ys zs B A w j m l h c;cases ys with
  |nil=>simp[cE]at h
  |cons y ys=>
   rw[bY,Ys]at j;have u:=B x Yf;have s:=A y Yf;have i:=dm x y j.1;cases zs with
   |nil=>simp[cE]at c
   |cons z zs=>
    rw[bY,Ys]at m l;have E:=w z Yf;have f:=dm y z m.1;have e:=dm x z l.1;have F:=ih x y z u s E j.1 m.1 l.1;rw[cE]at h c ⊢;by_cases b:x=y
    ·rw[Yi (i.mpr b)]at h;by_cases a:y=z
     ·rw[Yi (f.mpr a)]at c;rw[Yi (e.mpr (b.trans a))];exact o ys zs (λd g=>B d (Ye _ g)) (λd g=>A d (Ye _ g)) (λd g=>w d (Ye _ g)) j.2 m.2 l.2 h c
     ·rw[Yr (λq=>a (f.mp q))]at c;rw[Yr (λq=>a (b.symm.trans (e.mp q)))];rw[b];exact c
    ·rw[Yr (λq=>b (i.mp q))]at h;by_cases a:y=z
     ·rw[Yr (λq=>b ((e.mp q).trans a.symm))];rw[<-a];exact h
     ·rw[Yr (λq=>a (f.mp q))]at c;have p:=F h c;by_cases C:x=z
      ·subst C;have:=(j4 n x y u s j.1).as h;rw[c]at this;cases this
      ·rw[Yr (λq=>C (e.mp q))];exact p
def Ck(n:Nat):∀x y z:D,okN n x=true->okN n y=true->okN n z=true->aH x y=true->aH y z=true->aH x z=true->Fc3 ltD x y z:=by
 induction n with
 |zero=>
  intro x y z o g f a c m;refine j0 a c ?_;cases x<;>first|rfl|(simp[okN]at o)
 |succ n ih=>
  intro x y z o g f a c m;rcases bF a with⟨i,j,rfl,rfl⟩|⟨i,j,rfl,rfl⟩|⟨i,j,rfl,rfl⟩|⟨i,j,rfl,rfl,d1⟩
  iterate 3 exact j0 a c rfl
  ·rcases bF c with⟨b,k,e,rfl⟩|⟨b,k,e,rfl⟩|⟨b,k,e,rfl⟩|⟨b,k,e,rfl,d2⟩<;>cases e;have F:=C3 ih i j k (cz o) (cz g) (cz f) d1 d2 (by simpa[aH]using m);intro h l;rw[ltD]at h l ⊢;exact F h l
def wD(x:D):List D->List D
 |[]=>[x]
 |y::r=>if ltD x y=true then x::y::r else y::wD x r
def eX:List D->List D
 |[]=>[]
 |x::r=>wD x (eX r)
def kI(x:D):∀l:List D,(wD x l).Perm (x::l)
 |[]=>.refl _
 |y::r=>by
  unfold wD;split
  ·exact .refl _
  ·exact((kI x r).cons y).trans (.swap x y r)
def eJ:∀l:List D,(eX l).Perm l
 |[]=>.refl _
 |x::r=>(kI x (eX r)).trans ((eJ r).cons x)
def Cmps(n:Nat)(ds:List D):Prop:=(∀d∈ds,okN n d=true)/\∀x∈ds,∀y∈ds,aH x y=true
def sQ{n:Nat}:∀{as bs:List D},as.Perm bs->Cmps n as->as.Pairwise (λx y=>ltD y x=false)->bs.Pairwise (λx y=>ltD y x=false)->as=bs:=by
 intro as;induction as with
 |nil=>intro bs c _ _ _;exact(List.Perm.nil_eq c)
 |cons a as ih=>
  intro bs c f g p;cases bs with
  |nil=>exact absurd c.symm (List.not_perm_nil_cons _ _)
  |cons b bs=>
   have i:a∈b::bs:=c.mem_iff.mp Yf;have m:b∈a::as:=c.mem_iff.mpr Yf;have e:a=b:=by
    rcases YB.mp i with h|h
    ·exact h
    ·rcases YB.mp m with h'|h'
     ·exact h'.symm
     ·have j:=(ZF.mp g).1 b h';have l:=(ZF.mp p).1 a h;exact(j4 n a b (f.1 a Yf) (f.1 b m) (f.2 a Yf b m)).an l j
   subst e;rw[ih (List.Perm.cons_inv c) ⟨λd s=>f.1 d (Ye _ s),λx q y o=>f.2 x (Ye _ q) y (Ye _ o)⟩ (ZF.mp g).2 (ZF.mp p).2]
def Cmps.perm{n:Nat}{bs:List D}(h:Cmps n as)(p:as.Perm bs):Cmps n bs:=⟨λd c=>h.1 d (p.mem_iff.mpr c),λx b y a=>h.2 x (p.mem_iff.mpr b) y (p.mem_iff.mpr a)⟩
def pA{n:Nat}{x z:D}(f:okN n x=true)(o:okN n y=true)(g:okN n z=true)(c:aH x y=true)(i:aH y z=true)(l:aH x z=true)(j:aH y x=true)(a:aH z y=true)(b:aH z x=true)
  (h1:ltD y x=false) (h2:ltD z y=false):ltD z x=false:=by
 cases q:ltD z x with
 |false=>rfl
 |true=>
  -- z<x;x<=y
  by_cases h:ltD x y=true
  ·have:=Ck n z x y g f o b c a q h;rw[h2]at this;cases this
  ·have e:x=y:=(j4 n x y f o c).an (by simpa using h) h1;subst e;rw[h2]at q;cases q
def lr{n:Nat}{x:D}:∀{l:List D},Cmps n (x::l)->l.Pairwise (λa b=>ltD b a=false)->(wD x l).Pairwise (λa b=>ltD b a=false)
 |[],_,_=>List.pairwise_singleton _ _
 |y::r,hc,hp=>by
  have m:x∈x::y::r:=Yf;have c:y∈x::y::r:=Ye _ Yf;obtain⟨f,g⟩:=ZF.mp hp;unfold wD;split
  ·rename_i q;refine ZF.mpr ⟨λz hz=>?_,hp⟩;have h:ltD y x=false:=(j4 n x y (hc.1 x m) (hc.1 y c) (hc.2 x m y c)).as q;rcases YB.mp hz with rfl|hz
   ·exact h
   ·have e:z∈x::y::r:=Ye _ (Ye _ hz);exact pA (hc.1 x m) (hc.1 y c) (hc.1 z e) (hc.2 x m y c) (hc.2 y c z e) (hc.2 x m z e) (hc.2 y c x m) (hc.2 z e y c) (hc.2 z e x m) h (f z hz)
  ·rename_i q;refine ZF.mpr ⟨λz hz=>?_,lr (x:=x) ⟨λd hd=>hc.1 d ?_,λa ha b hb=>hc.2 a ?_ b ?_⟩ g⟩
   ·rcases YB.mp ((kI x r).mem_iff.mp hz)with rfl|hz
    ·simpa using q
    ·exact f z hz
   all_goals
    first
     |(
      rcases YB.mp hd with rfl|hd
      ·exact m
      ·exact Ye _ (Ye _ hd))
     |(
      rcases YB.mp ha with rfl|ha
      ·exact m
      ·exact Ye _ (Ye _ ha))
     |(
      rcases YB.mp hb with rfl|hb
      ·exact m
      ·exact Ye _ (Ye _ hb))
def Cmps.sub{n:Nat}{bs:List D}(h:Cmps n bs)(k:∀x∈as,x∈bs):Cmps n as:=⟨λd c=>h.1 d (k d c),λx b y a=>h.2 x (k x b) y (k y a)⟩
def gU{n:Nat}:∀{l:List D},Cmps n l->(eX l).Pairwise (λa b=>ltD b a=false)
 |[],_=>.nil
 |x::r,hc=>lr (hc.sub λy hy=>by
   rcases YB.mp hy with rfl|hy
   ·exact Yf
   ·exact Ye _ ((eJ r).mem_iff.mp hy)) (gU (hc.sub λy hy=>Ye _ hy))
def n4{n:Nat}{bs:List D}(h:as.Perm bs)(a:Cmps n bs)(b:as.Pairwise (λx y=>ltD y x=false)):as=eX bs:=
 sQ (h.trans (eJ bs).symm) (a.perm h.symm) b (gU a)
def uA{n:Nat}{bs:List D}(h:as.Perm bs)(a:Cmps n bs):eX as=eX bs:=
 n4 ((eJ as).trans h) a (gU (a.perm h.symm))
end L2
namespace L2
open PySem PySem.Spec PyProof.Rows
section
variable  {c:Expr}  
def ua{x:V}{i:Int}(r:Rep K H x (.int i)):x=.int i:=by cases r;rfl
def mU{x:V}{i:Str}(r:Rep K H x (.str i)):x=.str i:=by cases r;rfl
def vw{g:Int->Int->V}{g':Int->Int->D}(e:∀F i j,Rep K F (g i j) (g' i j)):OpN2 K (rI0 g) (fI0 g'):=by
 intro P F H x y l f d Q h c b a k;unfold fI0 at h;split at h
 ·rename_i i j;cases h;exact⟨i,j,ua b,ua a,k _ F H (Evo.refl c) (e F i j)⟩
 ·cases h
def OpN2.or{r j:R2}{f g:Dy}(h:OpN2 K r f)(h':OpN2 K j g):OpN2 K (λx y H Q=>r x y H Q\/j x y H Q) (λx y=>(f x y).or (g x y)):=by
 intro P F H x y c b d Q a l i e k;dsimp only at a;cases q:f c b with
 |some m=>rw[q]at a;have a:=Yu a;subst a;exact .inl (h P F H x y c b _ Q q l i e k)
 |none=>rw[q]at a;exact .inr (h' P F H x y c b d Q a l i e k)
def leS:D->D->Option D
 |.str x,.str y=>some (.bl (!decide (y.cps.toList<x.cps.toList)))
 |_,_=>none
def Bn:R2:=λx y H Q=>∃i j,x=.str i/\y=.str j/\Q (.bl (!decide (j.cps.toList<i.cps.toList))) H
def xW:OpR X (compareOp .LtE) Bn:=by intro p s c H x y v u Q I b a h;obtain⟨i,j,rfl,rfl,q⟩:=h;obtain⟨t,rfl⟩:=b;obtain⟨e,rfl⟩:=a;exact PySem.P.le_str ⟨.bl _,H,I,rfl,q⟩
def Em:OpN2 K Bn leS:=by
 intro P F H x y f e d Q h c b a k;unfold leS at h;split at h
 ·cases h;exact⟨_,_,mU b,mU a,k _ F H (Evo.refl c) .bl⟩
 ·cases h
def leA(x y:D):Option D:=(leI x y).or (leS x y)
def nD:OpR X (compareOp .LtE) (λx y H Q=>rI0 (λi j=>.bl (decide (i<=j))) x y H Q\/Bn x y H Q):=G7.or xW
def mG:OpN2 K (λx y H Q=>rI0 (λi j=>.bl (decide (i<=j))) x y H Q\/Bn x y H Q) leA:=(vw λ_ _ _=>.bl).or Em
def chD(f g:Dy)(fa fb fc:Dd):DF->Option D:=λa=>(fa a).bind λx=>(fb a).bind λy=>match f x y with
 |some (.bl true)=>(fc a).bind λz=>g y z
 |some (.bl false)=>some (.bl false)
 |_=>none
def nY{r M:R2}{f g:Dy}(N:OpN2 K r f)(w:OpN2 K M g):∀σ H Q,tD K (chD f g fa fb fc) σ H Q->va r M (tN K fa) (tN K fb) (tN K fc) σ H Q:=λσ H Q=>un7 λP F a d h I k=>by
 unfold chD at h;cases l:fa a with
 |none=>rw[l]at h;cases h
 |some s=>
 cases q:fb a with
 |none=>rw[l,Ya,q]at h;cases h
 |some o=>
 rw[l,Ya,q,Ya]at h;split at h
 ·rename_i c;cases A:fc a with
  |none=>rw[A]at h;cases h
  |some O=>
   rw[A,Ya]at h;refine⟨P,F,a,s,l,I,λx L Y i u=>⟨P,L,a,o,q,I.evo i,λy J C e p=>?_⟩⟩;refine N P J C x y s o _ _ c e.hp (u.same (e.same i.hp)) p λv E R m j=>?_;cases j;refine⟨true,rfl,?_⟩;rw[Yi rfl];have b:=(i.trans e).trans m;refine⟨P,E,a,O,A,I.evo b,λz F4 X B S=>?_⟩;exact w P F4 X y z o O d Q h B.hp ((p.same (m.same e.hp)).same (B.same m.hp)) S λv Z U T j=>k v Z U ((b.trans B).trans T) j
 ·rename_i c;cases h;refine⟨P,F,a,s,l,I,λx L Y i u=>⟨P,L,a,o,q,I.evo i,λy J C e p=>?_⟩⟩;refine N P J C x y s o _ _ c e.hp (u.same (e.same i.hp)) p λv E R m j=>?_;cases j;refine⟨false,rfl,?_⟩;rw[Yr Ym];exact k _ E R ((i.trans e).trans m) .bl
 ·cases h
def qM(g:PDN X a fa)(f:PDN X b fb)(e:PDN X c fc)(h:lastMarks [CmpOp.LtE,CmpOp.LtE] [b,c]=false:=by with_unfolding_all rfl):PDE X (.Compare a [.LtE,.LtE] [b,c] pos) (chD leA leA fa fb fc):=(tZ nD nD g f e h).imp (nY mG mG)
def qX(g:PDN X a fa)(f:PDN X b fb)(e:PDN X c fc)(h:lastMarks [CmpOp.LtE,CmpOp.Lt] [b,c]=false:=by with_unfolding_all rfl):PDE X (.Compare a [.LtE,.Lt] [b,c] pos) (chD leA ltI fa fb fc):=(tZ nD Hi g f e h).imp (nY mG (vw λ_ _ _=>.bl))
def l8(g:PDN X a fa)(f:PDN X b fb)(e:PDN X c fc)(h:lastMarks [CmpOp.LtE,CmpOp.LtE] [b,c]=false:=by with_unfolding_all rfl):PDT X (.Compare a [.LtE,.LtE] [b,c] pos) (asB (chD leA leA fa fb fc)):=(Ay nD nD g f e h).imp (ku (nY mG mG))
def yG(K:Kq)(r:List V->Hp->VK->Prop)(f:D->Option D):Prop:=
 ∀(P F H:Hp) (x:V) (a d:D) (Q:VK),f a=some d->DHp P F H->Rep K H x a->(∀v c b,Evo P F H c b->Rep K c v d->Q v b)->r [x] H Q
def n5{r:List V->Hp->VK->Prop}{f:D->Option D}(j:yG K r f):∀σ H Q,tD K (d1 f fa) σ H Q->tCB r (mL (tN K fa) oq) σ H Q:=λσ H Q=>un7 λP F b d h I k=>by
 unfold d1 at h;cases a:fa b with
 |none=>rw[a]at h;cases h
 |some c=>
  rw[a,Ya]at h;exact⟨P,F,b,c,a,I,λx q o e g=>j P q o x c d Q h e.hp g λv p m l i=>k v p m (e.trans l) i⟩
def Ee:yG K (Gv K) aQ:=by
 intro P F H x e d Q a c b k;unfold aQ at a;split at a
 ·cases a;cases b with|lst h1 h2=>exact .inl ⟨_,_,rfl,.inl h1,by rw[h2.length];exact k _ F H (Evo.refl c) .int⟩
 ·cases a;cases b with|tup h1 h2=>exact .inl ⟨_,_,rfl,.inr (SqT.of h1),by rw[h2.length];exact k _ F H (Evo.refl c) .int⟩
 ·split at a
  ·rename_i h;cases a;exact .inr ⟨_,by rw[mU b],by rw[YL];exact h,k _ F H (Evo.refl c) .int⟩
  ·cases a
 ·cases a
def bq(c:Gl X "len")(b:X.mg "len"=none)(f:PDN X e fa)(a:starEach [e] X.env=[(false,eval e X.env)]:=by rfl)(h:(backTo pos (starEach [] X.env)).any (·.1)=false:=by rfl) :
  PDE X (.Call (.Name "len" p) [e] [] pos) (d1 aQ fa):=
 (df (rj.or rH) c b PySem.boot_len (aI f a_ a) (by decide) (by decide) a h).imp (n5 Ee)
def oN:D->Option D
 |.int i=>some (.int i)
 |.bl k=>some (.int (if k then 1 else 0))
 |_=>none
def Cp:yG K (λxs H Q=>(∃i,xs=[.int i]/\Q (.int i) H)\/∃k,xs=[.bl k]/\Q (.int (if k then 1 else 0)) H) oN:=by
 intro P F H x c d Q h b a k;unfold oN at h;split at h
 ·cases h;cases a;exact .inl ⟨_,rfl,k _ F H (Evo.refl b) .int⟩
 ·cases h;cases a;exact .inr ⟨_,rfl,k _ F H (Evo.refl b) .int⟩
 ·cases h
def boot_int:bootBuiltins "int"=some (.type "int"):=by rfl
def boot_list:bootBuiltins "list"=some (.type "list"):=by rfl
def boot_tuple:bootBuiltins "tuple"=some (.type "tuple"):=by rfl
def boot_bool:bootBuiltins "bool"=some (.type "bool"):=by rfl
def boot_str:bootBuiltins "str"=some (.type "str"):=by rfl
def cX:bootBuiltins "isinstance"=some (.builtin "isinstance"):=by rfl
def Ak:bootBuiltins "all"=some (.builtin "all"):=by rfl
def zu:bootBuiltins "min"=some (.builtin "min"):=by rfl
def AV:bootBuiltins "max"=some (.builtin "max"):=by rfl
def sR:bootBuiltins "sorted"=some (.builtin "sorted"):=by rfl
def rG(b:Gl X "int")(a:X.mg "int"=none)(c:PDN X e fa)(h:starEach [e] X.env=[(false,eval e X.env)]:=by rfl) :
  PDE X (.Call (.Name "int" p) [e] [] pos) (d1 oN fa):=
 (gD xz b a boot_int (aI c a_ h) (he:=h)).imp (n5 Cp)
def zS:D->Option D
 |.lst ds=>some (.tup ds)
 |.tup ds=>some (.tup ds)
 |_=>none
def FX:Hl K (λxs H Q=>∃p ys,xs=[.ref p]/\((SqL K H p ys/\∀l,H l=none->Q (.ref l) (upd H l (.tup ys)))\/(SqT K H p ys/\Q (.ref p) H))) zS:=by
 intro P F H i g x j d Q h I a k;unfold zS at h;split at h
 ·cases h;obtain⟨p,f,rfl,b,c⟩:=gL I a;refine⟨p,f,rfl,.inl ⟨b,λl e=>?_⟩⟩;exact k _ _ _ (Evo.laid I.toDHp e) (.tup aC (c.same (eV (I.toDHp.free e).1)))
 ·cases h;rcases a with a|⟨_,ob,_,_,_,_,_,hfl,z⟩
  ·cases a with|tup b c=>exact⟨_,_,rfl,.inr ⟨SqT.of (I.sub _ _ b),k _ F H (Evo.refl I.toDHp) (.tup b c)⟩⟩
  ·cases ob<;>first|(cases z;done)|cases hfl
 ·cases h
def Ad(b:Gl X "tuple")(a:X.mg "tuple"=none)(c:PDR X e fa)(h:starEach [e] X.env=[(false,eval e X.env)]:=by rfl) :
  PDE X (.Call (.Name "tuple" p) [e] [] pos) (d1 zS fa):=
 (gD oB b a boot_tuple (aI c a_ h) (he:=h)).imp (FD FX)
def jz(f:Dd):DF->Option (List D):=λρ=>(f ρ).bind eN
def kB(B:Gl X "list")(A:X.mg "list"=none)(c:PDR X e fa)(u:starEach [e] X.env=[(false,eval e X.env)]:=by rfl) :
  PDO X (.Call (.Name "list" p) [e] [] pos) (asL (jz fa)):=
 (gD qh B A boot_list (aI c a_ u) (he:=u)).imp λE H Q=>un7 λP F o J h I k=>by
  unfold asL jz at h;cases c:fa o with
  |none=>rw[c]at h;cases h
  |some m=>
   rw[c,Ya]at h;cases b:eN m with
   |none=>rw[b]at h;cases h
   |some C=>
    rw[b]at h;cases h;refine⟨P,F,o,m,c,I,λx z y f s=>?_⟩;have w:=I.evo f;have fin:∀a,Reps X.K z a C->∀l,y l=none->Q (.ref l) (upd y l (.lst a)):=λa r l g=>
     k l z _ (f.trans (Evo.side f.hp g)) ⟨⟨f.back I.toDHp g,(f.hp.free g).1⟩,_,aC,r⟩
    cases m with
    |lst ds'=>
     cases b;obtain⟨q,a,rfl,j,i⟩:=gL w s;exact⟨q,a,rfl,.inl j,fin a i⟩
    |tup ds'=>
     cases b;obtain⟨q,a,rfl,j,i⟩:=j6 w s;exact⟨q,a,rfl,.inr j,fin a i⟩
    |_=>cases b
def DQ(K:Kq):R2:=λx y H Q=>∃l b a z,x=.ref l/\y=.ref b/\SqL K H l a/\SqL K H b z/\a.length+z.length<=sizeLine/\∀p,H p=none->Q (.ref p) (upd H p (.lst (a++z)))
theorem wq:OpR X (binaryOp .Add) (DQ X.K):=by
 intro pz s Y H x y v u Q I L J h;obtain⟨l,b,xs,Z,rfl,rfl,P,R,hz,q⟩:=h;cases L;cases J;obtain⟨a,r,N,_⟩:=I.list P;obtain⟨i,o,M,_⟩:=I.list R;obtain⟨⟨U,T,B,E⟩,n,p,A,O,z⟩:=N;obtain⟨⟨C,j,m,g⟩,n2,c,f,w,e⟩:=M;simp only at A z f e;subst A z f e;have e1:=r.length;have e2:=o.length;refine concat_meets ⟨_,p,rfl⟩ ⟨_,c,rfl⟩ PySem.noFill_list_add PySem.seq_list_add PySem.F.slot_list_add PySem.F.entry_list_add (PySem.F.args_list_add_2 _ _) (list_addW l b a.toArray i.toArray n n2 T j E g (by rw[Yp,Yp];omega)) ⟨p,c,?_⟩;have S:a.toArray++i.toArray=(a++i).toArray:=by simp
 rw[S];exact⟨.ref _,_,I.lnew (t':=s.toks) (r.append o) (by rw[Yb];omega),rfl,q _ I.fresh⟩
end
def spM(K:Kq)(f:Dz):Sp:=λi H Q _=>∃P F a b o x e d,i=.ref a::b/\f o x=some (e,d)/\DHp P F H/\F a=none/\P a=none/\o.flat=true/\(∃u,H a=some u/\ORep1 K F o u)/\DVs K P F H x b /\
 ∀v c g,Same F c->DHp P c g->c a=none->(∃h,g a=some h/\ORep1 K c e h)->e.flat=true->Rep K c v d->Q v g
def k9(a:Addr)(o':OD)(d:D):RES->Prop
 |.nx ρ=>ρ[0]?=some (some (.own o' (some a)))/\d=.non
 |.rt x ρ=>x=.v d/\ρ[0]?=some (some (.own o' (some a)))
 |_=>False
def DInv.startM{F:Hp}{a:Addr}{o:OD}(N:List Str)(p:Nat)(h:DHp P F H)(q:F a=none)(j:P a=none)(fl:o.flat=true)(l:∃u,H a=some u/\ORep1 K F o u)(r:DVs K P F H xs vs)(m:xs.length+1=p) :
  DInv K P F H (bB N.length p (.own o (some a)::xs)) (L2.start N (.ref a::vs)):=by
 refine⟨h,?_,λb=>if b=a then some 0 else none,λi x e=>?_⟩
 ·unfold bB L2.start;rw[Yb,Yb,Yc,Yc,Yo,Yo,Yh,Yh,<-r.length,m]
 ·have g:=gZ e;cases i with
  |zero=>
   cases g;refine⟨.ref a,eM (i:=0) rfl,a,rfl,(ORep.flat fl).mpr ⟨⟨q,j,Yi rfl⟩,l⟩,λb z=>by cases z;rfl⟩
  |succ i=>
   obtain⟨c,v,s,f⟩:=r.get (i:=i) (x:=x) g;refine⟨v,eM (i:=i+1) (by simpa using s),?_⟩;cases x with
   |own o t=>cases c
   |v d=>exact f
   |bor o=>exact f
def Fun.okM{P:Program}{k:Nat}{m:Dz}(F:Fun K x qual st f fd)(S:FnScope N ps (defScope st))
  (T:∀a o xs o' d,m o xs=some (o',d)->xs.length+1=ps.length/\o'.flat=true/\∃r,g (bB N.length ps.length (.own o (some a)::xs))=some r/\k9 a o' d r)
  (j:∀(cdv:Value) (A:Around) (outer:List Env) (s:Shared) (H:Hp) (E:XK),Room k (A.deeper (envOfC qual (defScope st) s.heap.objs.size f cdv))->
   PDS (bM CX0 P w K mg base N qual (defScope st) f cdv A outer s H E).nox (defBody st) g):FnOk P w K mg base CX0 (k+1) f fd ps (spM K m):=by
 refine F.ok S (λU H Q E L=>?_) λcdv A outer s H U Q E hr h=>?_
 ·obtain⟨O,R,a,B,o,xs,o',d,e,M,_,_,_,_,_,J,_⟩:=L;rw[e,Yh,<-J.length];exact(T 0 o xs o' d M).1
 ·refine⟨_,j cdv A outer s H E hr,?_⟩;obtain⟨O,R,a,B,o,xs,o',d,rfl,M,hp,hf,hP,fl,ho,J,hQ⟩:=h;obtain⟨hl,y,r,hg,z⟩:=T a o xs o' d M;have I:=DInv.startM N ps.length hp hf hP fl ho J hl;refine⟨O,R,_,r,hg,I,?_⟩;have fin:∀(b:DF) (l:St) (c i:Hp) (v:V),b[0]?=some (some (.own o' (some a)))->Same R c->DInv K O c i b l->Rep K c v d->Q v i:=λb l c i v q e p C=>by
   obtain⟨v',_,a',rfl,h3,h4⟩:=p.at q;have ea:=h4 a rfl;subst ea;obtain⟨⟨Z,q2,_⟩,u,Y,X⟩:=(ORep.flat y).mp h3;exact hQ v c i e p.toDHp Z ⟨u,Y,X⟩ y C
  cases r with
  |nx b=>(obtain⟨q,rfl⟩:=z;exact λl c i e p=>fin b l c i .non q e p .non)
  |rt x b=>(obtain⟨rfl,q⟩:=z;exact λv l c i e p C=>fin b l c i v q e p C)
  |bk b=>exact z.elim
  |ct b=>exact z.elim
def gdx(F H:Hp)(a:Addr):Hp:=λb=>if b=a then none else gd F H b
def rC{F:Hp}{a b:Addr}{o:HO}:gdx F H a b=some o↔b≠a/\F b=none/\H b=some o:=by
 unfold gdx;by_cases h:b=a
 ·rw[Yi h];simp[h]
 ·rw[Yr h,iT];simp[h]
def Ed{F:Hp}(s:Same F H)(a:Addr):DHp (gdx F H a) F H:=⟨s,λb o e=>(rC.mp e).2.2,λb o e=>(rC.mp e).2.1⟩
def ArgsS.dvx{F:Hp}(I:DInv K P F H ρ σ){o:OD}{t:Option Addr}{a:Addr}(hi:ρ[i]?=some (some (.own o t)))(f:σ[i]?=some (some (.ref a)))(fl:o.flat=true):∀{xs:List DV}{vs:List V},ArgsS K ρ σ F xs vs->(∀x∈xs,∃d,x=.v d)->DVs K (gdx F H a) F H xs vs:=by
 intro xs vs h;induction h with
 |nil=>exact λ_=>.nil
 |v h _ ih=>exact λc=>.cons rfl h (ih λx m=>c x (Ye _ m))
 |b j h1 h2 _ ih=>
  intro c;obtain⟨d,e⟩:=c _ Yf;cases e
def pW(xs:List DV):Bool:=xs.all λx=>match x with
 |.v _=>true
 |_=>false
def z6(h:pW xs=true):∀x∈xs,∃d,x=.v d:=λx m=>by
 have:=YH.mp h x m;cases x with
 |v d=>exact⟨d,rfl⟩
 |_=>cases this
def rA(K:Kq)(i:Nat)(m:Dz)(g:Dv):DF->Option (DF×D):=λa=>match a[i]? with
 |some (some (.own o t))=>if o.flat=true then(g a).bind λx=>if pW x=true then(m o x).map λr=>(a.set i (some (.own r.1 t)),r.2)else none else none
 |_=>none
def iG(K:Kq)(i:Nat)(m:Dz)(g:Dv):DF->Option RES:=λa=>(rA K i m g a).map λr=>.nx r.1
def u3{o:OD}{t:Option Addr}{a:Addr}(I:DInv K P F1 H1 ρ σ)(hi:ρ[i]?=some (some (.own o t)))(C:σ[i]?=some (some (.ref a)))(fl:o.flat=true)(x:o'.flat=true)
  (e2:Same F1 F2) (h:DHp (gdx F1 H1 a) F2 H2) (f2:F2 a=none) (Q:∃B,H2 a=some B/\ORep1 K F2 o' B):DInv K P F2 H2 (ρ.set i (some (.own o' t))) σ:=by
 obtain⟨O,E⟩:=I.rep;obtain⟨v,H,b,rfl,S,N⟩:=E i _ hi;rw[C]at H;cases H;obtain⟨⟨X,l,g⟩,u,U,_⟩:=(ORep.flat fl).mp S;have keep:∀b u,b≠a->F1 b=none->H1 b=some u->H2 b=some u/\F2 b=none:=λb u f n q=>⟨h.pro b u (rC.mpr ⟨f,n,q⟩),h.dis b u (rC.mpr ⟨f,n,q⟩)⟩
 refine⟨⟨h.sub,λb u q=>(keep b u (λz=>by subst z;rw[l]at q;cases q) (I.dis b u q) (I.pro b u q)).1,λb u q=>(keep b u (λz=>by subst z;rw[l]at q;cases q) (I.dis b u q) (I.pro b u q)).2⟩,by rw[Zb];exact I.len,O,λj z R=>?_⟩;rcases fS R with⟨rfl,e,Y⟩|⟨s,p⟩
 ·cases e;exact⟨_,C,a,rfl,(ORep.flat x).mpr ⟨⟨f2,l,g⟩,Q⟩,N⟩
 ·obtain⟨w,T,A⟩:=E j z p;refine⟨w,T,?_⟩;cases z with
  |v d'=>exact Rep.same e2 A
  |own od t'=>
   obtain⟨c,rfl,y,m⟩:=A;refine⟨c,rfl,y.mono e2 λb J q f=>?_,m⟩;obtain⟨M,L⟩:=keep b J (λz=>by subst z;rw[q.2.2]at g;exact s (Yu g).symm) q.1 f;exact⟨M,L,q.2⟩
  |bor od=>(obtain⟨c,rfl,y⟩:=A;exact⟨c,rfl,y.mono e2 λb u q f=>⟨f,q⟩⟩)
section
variable  {k:Nat}          {g:Dv}
def sP(i:Nat)(G:FnOk X.prog X.w X.K X.mg X.base CX0 k f fd ps (spM X.K mM))(h:Room k X.A)(hg:Gl X x)(Z:X.mg x=some (.ref f))(hk:PySem.W.keepIn X.K (.ref f)=true)(hb:Binds X.K fd ps [])(h0:PE X e (cf i))(ha:iH X es g)
  (hd:nDb x:=by decide) (he:starEach (e::es) X.env=(false,eval e X.env)::starEach es X.env:=by rfl) (y:(backTo pos (starEach es X.env)).any (·.1)=false:=by rfl) (s:swapsWith (.Call (.Name x p) (e::es) [] pos) none spos.line X.env=pure false:=by rfl) :
  PD1 X (.Expr (.Call (.Name x p) (e::es) [] pos) spos) (iG X.K i mM g):=
 PS.imp (c9 (jO G h hg Z hk hb .nil jW (aI h0 ha he) hd he y) s) λE Q H=>un7 λP F L r h I k=>by
  unfold iG rA at h;split at h
  ·rename_i M t q;split at h
   ·rename_i c;cases o:g L with
    |none=>rw[o]at h;cases h
    |some l=>
     rw[o,Ya]at h;split at h
     ·rename_i av;cases m:mM M l with
      |none=>rw[m]at h;cases h
      |some b=>
       rw[m]at h;cases h;obtain⟨v,B,a,rfl,h2,h3⟩:=I.at q;obtain⟨⟨a1,a2,_⟩,u,a3,a4⟩:=(ORep.flat c).mp h2;refine⟨_,B,P,F,L,l,o,I,λR O H1 j S=>?_⟩;have J:=I.evo j;obtain⟨U,T⟩:=j.keep a u a3 a1;refine⟨gdx O H1 a,O,a,R,M,l,b.1,b.2,by simp,m,Ed J.sub a,T,by unfold gdx;rw[Yi rfl],c,⟨u,U,a4.same j.ext⟩,S.dvx J q B c (z6 av),λv F2 H2 N z f2 Y C rv=>?_⟩;exact k Q F2 H2 (j.ext.trans N) (u3 J q B c C N z f2 Y)
     ·cases h
   ·cases h
  ·cases h
def RepsF.look{n:Str}{vs:List (Str×V)}{ds:List (Str×D)}{d:D}(h:RepsF K H vs ds):ds.lookup n=some d->∃v,vs.lookup n=some v/\Rep K H v d:=
 RepsF.ind (M:=λvs ds=>ds.lookup n=some d->∃v,vs.lookup n=some v/\Rep K H v d) (λe=>by cases e) (λh _ ih e=>by
  rw[a8]at e ⊢;split at e
  ·rename_i q;cases e;rw[Yi q];exact⟨_,rfl,h⟩
  ·rename_i q;rw[Yr q];exact ih e) h
def RepsF.no{n:Str}{vs:List (Str×V)}{ds:List (Str×D)}(h:RepsF K H vs ds):ds.lookup n=none->vs.lookup n=none:=
 RepsF.ind (M:=λvs ds=>ds.lookup n=none->vs.lookup n=none) (λ_=>rfl) (λ_ _ ih e=>by
  rw[a8]at e ⊢;split at e
  ·cases e
  ·rename_i q;rw[Yr q];exact ih e) h
def dq(C:Addr)(n:Str):D->Option D
 |.ins C' fs=>if C'=C then fs.lookup n else none
 |_=>none
def fE{n:Str}(c:Cls X.K C)(o:NoAttr X.K C n)(h:PDR X e fa)(p:attributeBase e n X.env (eval e X.env)=eval e X.env:=by rfl):PDE X (.Attribute e n pos) (d1 (dq C n) fa):=
 (js h p).imp λE H Q=>un7 λP F i d f I k=>by
  unfold d1 at f;cases q:fa i with
  |none=>rw[q]at f;cases f
  |some g=>
   rw[q,Ya]at f;refine⟨P,F,i,g,q,I,λy B A j m=>?_⟩;cases g with
   |ins C' fs=>
    have b:(if C'=C then fs.lookup n else none)=some d:=f;split at b
    ·rename_i s;subst s;obtain⟨a,g,l,rfl,z,x⟩:=qI (I.evo j) m;obtain⟨v,w,u⟩:=x.look b;exact⟨a,C',g,l,v,rfl,z,c,o,w,k v B A j u⟩
    ·cases b
   |_=>cases f
def mE(f:Str)(v:D):List (Str×D)->List (Str×D)
 |[]=>[(f,v)]
 |(g,x)::r=>if g=f then(g,v)::r else(g,x)::mE f v r
def RepsF.put{n:Str}{v:V}{d:D}(a:Rep K H v d){vs:List (Str×V)}{ds:List (Str×D)}(h:RepsF K H vs ds):RepsF K H (c_ n v vs) (mE n d ds):=
 RepsF.ind (M:=λvs ds=>RepsF K H (c_ n v vs) (mE n d ds)) (.cons a .nil) (λ{k _ _ _ _} h r ih=>by
  unfold c_ mE;by_cases q:k=n
  ·rw[Yi q,Yi q];exact .cons a r
  ·rw[Yr q,Yr q];exact .cons h ih) h
def RepsF.length{vs:List (Str×V)}{ds:List (Str×D)}(h:RepsF K H vs ds):vs.length=ds.length:=RepsF.ind (M:=λvs ds=>vs.length=ds.length) rfl (λ_ _ ih=>YM Nat.succ ih) h
def o_(C:Addr)(i:Nat)(n:Str)(fv:Dd):DF->Option RES:=λa=>match a[i]? with
 |some (some (.own (.ins C' fs) t))=>if C'=C then(fv a).bind λd=>if fs.length<1000 then some (.nx (a.set i (some (.own (.ins C (mE n d fs)) t))))else none else none
 |_=>none
def qz{n:Str}(i:Nat)(c:Cls X.K C)(x:NoAttr X.K C n)(w:PE X o (cf i))(hv:PDE X value fv)(s:swapsWith value (some (.Attribute o n pos')) pos.line X.env=pure false:=by rfl) :
  PD1 X (.Assign [.Attribute o n pos'] value pos) (o_ C i n fv):=PS.imp (vf w hv s) λE m H=>un7 λP F j r h I k=>by
 unfold o_ at h;split at h
 ·rename_i g fs t q;split at h
  ·rename_i A;subst A;cases f:fv j with
   |none=>rw[f]at h;cases h
   |some d=>
    rw[f,Ya]at h;split at h
    ·rename_i z;cases h;obtain⟨v,l,a,rfl,⟨⟨J,M,_⟩,u,B,b⟩,_⟩:=I.at q;cases u with
     |ins C'' dx vs=>
      obtain⟨rfl,b⟩:=b;refine⟨P,F,j,d,f,I,λy L N e p=>⟨_,l,a,g,dx,vs,rfl,(e.keep a _ B J).1,c,x,by rw[b.length];exact z,k m L _ e.ext ?_⟩⟩;exact(I.evo e).mut (o':=.ins g _) (u:=.ins g dx _) q rfl rfl l ⟨rfl,(RepsF.same e.ext b).put p⟩
     |_=>exact b.elim
    ·cases h
  ·cases h
 ·cases h
def wu(C:Addr):DV->Option (List (Str×D))
 |.v (.ins C' fs)=>if C'=C then some fs else none
 |.bor (.ins C' fs)=>if C'=C then some fs else none
 |.bor (.obj (some C') fs)=>if C'=C then some (fs.map λp=>(p.1,p.2.dat))else none
 |_=>none
def sU(C:Addr)(mn:Str):List DV->Bool
 |x::_=>match wu C x with
  |some fs=>(fs.lookup mn).isNone
  |none=>false
 |[]=>false
def eY(C:Addr)(mn:Str)(m:Dm)(g:Dv):DF->Option D:=λa=>(g a).bind λx=>if sU C mn x=true then(m x).bind dvD else none
end
def DVs.heap{F:Hp}(h:DVs K P F H xs vs):DVs K P F H' xs vs:=by
 induction h with
 |nil=>exact .nil
 |@cons x _ _ _ h r _ ih=>
  refine .cons h ?_ ih;cases x with
  |v d=>exact r
  |bor o=>exact r
  |own o t=>cases h
def ik(i:Nat):DF->Option DV:=λa=>match a[i]? with
 |some (some (.own o _))=>some (.bor o)
 |some (some (.bor o))=>some (.bor o)
 |some (some (.v d))=>some (.v d)
 |_=>none
def f8(s:DF->Option DV)(g:Dv):DF->Option (List DV):=λa=>(s a).bind λx=>(g a).map λb=>x::b
def g0:DF->Option (List DV):=λ_=>some []
def Self1(K:Kq)(ρ:DF)(σ:St)(F:Hp)(x:DV)(v:V):Prop:=ArgsS K ρ σ F [x] [v]
def Self1.cons{F:Hp}{x:DV}{v:V}(h:Self1 K ρ σ F x v)(e:Same F F')(r:ArgsS K ρ σ F' xs vs):ArgsS K ρ σ F' (x::xs) (v::vs):=by
 cases h with
 |v h _=>exact .v (h.same e) r
 |b i h1 h2 _=>exact .b i h1 h2 r
def C8{F:Hp}{ow:Addr->Prop}{n:Str}{vs:List (Str×V)}{fs:List (Str×FO)}(h:All2 (λ(p:Str×V) (q:Str×FO)=>p.1=q.1/\FRep K F H ow q.2 p.2) vs fs):(fs.map λp=>(p.1,p.2.dat)).lookup n=none->vs.lookup n=none:=by
 induction h with
 |nil=>exact λ_=>rfl
 |@cons p q _ _ h _ ih=>
  obtain⟨x,v⟩:=p;obtain⟨y,o⟩:=q;obtain⟨e,r⟩:=h;cases e;intro e;rw[YC,a8]at e;rw[a8];split at e
  ·cases e
  ·rename_i z;rw[Yr z];exact ih e
def Self1.ins{F:Hp}{x:DV}{v:V}{fs:List (Str×D)}(I:DInv K P F H ρ σ)(h:Self1 K ρ σ F x v)(hi:wu C x=some fs):∃a dx vs,v=.ref a/\H a=some (.ins C dx vs)/\∀n,fs.lookup n=none->vs.lookup n=none:=by
 cases h with
 |@v d _ _ _ h _=>
  cases d with
  |ins j fs'=>
   have c:(if j=C then some fs' else none)=some fs:=hi;split at c
   ·rename_i g;subst g;cases c;obtain⟨a,dx,vs,f,e,l⟩:=qI I (.inl h);exact⟨a,dx,vs,f,e,λn=>l.no⟩
   ·cases c
  |_=>cases hi
 |@b o _ _ _ i f e _=>
  cases o with
  |ins j fs'=>
   have c:(if j=C then some fs' else none)=some fs:=hi;split at c
   ·rename_i g;subst g;cases c;obtain⟨a,dx,vs,f,e,l⟩:=qI I (RepS.slot I f e rfl);exact⟨a,dx,vs,f,e,λn=>l.no⟩
   ·cases c
  |obj C0 fs'=>
   cases C0 with
   |none=>cases hi
   |some j=>
   have c:(if j=C then some (fs'.map λp=>(p.1,p.2.dat))else none)=some fs:=hi;split at c
   ·rename_i g;subst g;cases c;obtain⟨a,rfl,_,dx,vs,m,_,q⟩:=I.slot f e;exact⟨a,dx,vs,rfl,m,λn=>C8 q⟩
   ·cases c
  |_=>cases hi
def yf(K:Kq)(s:DF->Option DV):TE:=λb H Q=>∃P F a x,s a=some x/\DInv K P F H a b/\∀v e c,Evo P F H e c->Self1 K a b e x v->Q v c
def uY(X:Cx)(e:Expr)(s:DF->Option DV):Prop:=PE X e (yf X.K s)
section
variable  {k:Nat}          {g:Dv}{s:DF->Option DV}
def Cd(i:Nat)(h:PE X e (cf i)):uY X e (ik i):=PE.imp h λg H Q=>un7 λP F j x c I k=>by
 unfold ik at c;split at c
 ·rename_i o t q;cases c;obtain⟨v,a,_⟩:=I.at q;exact⟨v,a,k v F H (Evo.refl I.toDHp) (.b i a (.inl ⟨t,q⟩) .nil)⟩
 ·rename_i o q;cases c;obtain⟨v,a,_⟩:=I.at q;exact⟨v,a,k v F H (Evo.refl I.toDHp) (.b i a (.inr q) .nil)⟩
 ·rename_i d q;cases c;obtain⟨v,a,f⟩:=I.at q;exact⟨v,a,k v F H (Evo.refl I.toDHp) (.v f .nil)⟩
 ·cases c
def u_{x:DV}(h:sU C mn (x::xs)=true):∃fs,wu C x=some fs/\fs.lookup mn=none:=by
 unfold sU at h;cases q:wu C x with
 |none=>simp[q]at h
 |some fs=>exact⟨fs,rfl,by simpa[q]using h⟩
def yr{E:XK}{Q:VK}{F:Hp}{y:DV}(h:f8 s g ρ=some xs)(A:sU C mn xs=true)(B:m xs=some y)(I:DInv K P F H ρ σ)
  (k:∀v F1 H1 F2 H2,Evo P F H F1 H1->Same F1 F2->DHp (gd F1 H1) F2 H2->DVRep K (gd F1 H1) F2 H2 uU y v->Q v H2):j5 C mn (spD K m) [] E (yf K s) (tLV K g) σ H Q:=by
 unfold f8 at h;cases q:s ρ with
 |none=>rw[q]at h;cases h
 |some x=>
  rw[q,Ya]at h;cases b:g ρ with
  |none=>rw[b]at h;cases h
  |some i=>
   rw[b]at h;cases h;obtain⟨fs,L,J⟩:=u_ A;refine⟨P,F,ρ,x,q,I,λv F1 H1 l j=>?_⟩;have f:=I.evo l;obtain⟨a,R,p,rfl,N,M⟩:=j.ins f L;refine⟨a,R,p,rfl,N,M _ J,P,F1,ρ,i,b,f,λU F2 H2 e z=>?_⟩;have o:=f.evo e;refine⟨gd F2 H2,F2,x::i,y,B,fL o.sub,by rw[Yg];exact(j.cons e.ext z).dvs o,λw T S O c u=>k w F2 H2 T S (l.trans e) O c u⟩
def Ca{E:XK}:∀σ H Q,tD K (eY C mn m (f8 s g)) σ H Q->j5 C mn (spD K m) [] E (yf K s) (tLV K g) σ H Q:=λσ H Q=>un7 λP F B d h I k=>by
 unfold eY at h;cases q:f8 s g B with
 |none=>rw[q]at h;cases h
 |some J=>
  rw[q,Ya]at h;split at h
  ·rename_i L;cases c:m J with
   |none=>rw[c]at h;cases h
   |some y=>
    rw[c,Ya]at h;refine yr q L c I λv O A l j i x e p=>?_;have z:=I.evo i;have w:Evo P O A l j:=z.toDHp.gd x e;cases y with
    |v d'=>cases h;exact k v l j (i.trans w) p
    |own o t=>
     cases h;obtain⟨a,rfl,M,_⟩:=p;have f:=qe x M;exact k _ _ j (i.trans (w.freeze z.toDHp (λb=>A b=none/\l b=none) λ_ q=>q)) (f.rep (dB λb q=>q.2) λb u q N=>by rw[gH q];exact N)
    |bor o=>cases h
  ·cases h
def eU{pl:Sem Bool}(he:uY X o s)(c:Cls X.K C)(y:Meth X.K C mn f)(G:FnOk X.prog X.w X.K X.mg X.base CX0 k f fd ps (spD X.K m))(u:Room k X.A)(z:Binds X.K fd ps [])
  (q:eval (.Call (.Attribute o mn apos) [] [] pos) X.env=(do
   let b <-eval o X.env
   standAt apos.atName
   let (f,first) <-holding [b] (getMethod b mn pl)
   callWith pos f first (backTo pos (starEach [] X.env)) (backToKw pos (keywordEach [] X.env))):=by rfl):PDE X (.Call (.Attribute o mn apos) [] [] pos) (eY C mn m (f8 s g0)):=
 (nJ he c y G u z .nil jW q).imp λg H Q h=>by
  have:=Ca (K:=X.K) (E:=E0) g H Q h;obtain⟨P,F,j,x,L,J,I⟩:=this;refine⟨P,F,j,x,L,J,λv U e N r=>?_⟩;obtain⟨a,R,fs,M,O,l,Z,T,i,Y,p,S,B⟩:=I v U e N r;cases p;exact⟨a,R,fs,M,O,l,B [] T e (Evo.refl S.toDHp) .nil⟩
def oW(C:Addr)(mM:Dz)(g:Dv):DF->Option OD:=λa=>(g a).bind λx=>match mM (.ins C []) x with
 |some (o',.non)=>if o'.flat=true then some o' else none
 |_=>none
def zL(M:Mk X.K C f)(G:FnOk X.prog X.w X.K X.mg X.base CX0 k f fd ps (spM X.K mM))(Y:Room (k+1) X.A)(hg:Gl X x)(hm:X.mg x=some (.ref C))(hb:Binds X.K fd ps [])(ha:iH X (e::es) g)
  (m:nDb x:=by decide) (he:starEach (e::es) X.env=(false,eval e X.env)::starEach es X.env:=by rfl) (i:(backTo pos (starEach es X.env)).any (·.1)=false:=by rfl):PDO X (.Call (.Name x p) (e::es) [] pos) (oW C mM g):=
 (qr M G Y hg hm hb .nil jW ha m he i).imp λσ H Q=>un7 λP F B U h I k=>by
  unfold oW at h;cases q:g B with
  |none=>rw[q]at h;cases h
  |some E=>
   rw[q,Ya]at h;split at h
   ·rename_i o' T;split at h
    ·rename_i fl;cases h;refine⟨P,F,B,E,q,I,λO N s o S y L c l hne=>?_⟩;have a:=I.evo o;have J:Same s (upd (upd s L (.own y)) y (.ins C L [])):=λb u z=>by rw[ax (aW z c),ax (aW z l)];exact z
     refine⟨gd N s,N,y,O,.ins C [],E,U,.non,by simp,T,⟨a.sub.trans J,λb u z=>J b u ((fL a.sub).pro b u z),(fL a.sub).dis⟩,a.sub.free c,(fL a.sub).pro.free c,rfl,⟨_,aC,rfl,.nil⟩,(S.dvs a).heap,λv F2 H2 e2 j f2 Z fl' R=>?_⟩;cases R;exact⟨rfl,k y F2 H2 (o.trans (a.toDHp.gd e2 j)) ((ORep.flat fl).mpr ⟨⟨o.back I.toDHp c,f2⟩,Z⟩)⟩
    ·cases h
   ·cases h
end
section
variable{κ:Type} [DecidableEq κ]
def dn(kvs:List (κ×D))(k:κ):Option D:=(kvs.find? λa=>decide (a.1=k)).map (·.2)
def ir(kvs:List (κ×D))(k:κ)(v:D):List (κ×D):=
 if(kvs.any λa=>decide (a.1=k))=true then kvs.map (λa=>if a.1=k then(a.1,v)else a)else kvs++[(k,v)]
end
def yb{k k':List Key}{v:V}{vs:List (List Key×V)}:d7 ((k',v)::vs) k=if k'=k then some v else d7 vs k:=by unfold d7;by_cases q:k'=k<;>simp[Zh,q]
def kH{κ:Type}[DecidableEq κ]{k k':κ}{v:D}{vs:List (κ×D)}:dn ((k',v)::vs) k=if k'=k then some v else dn vs k:=by unfold dn;by_cases q:k'=k<;>simp[Zh,q]
def RepsT.val{k:List Key}{vs:List (List Key×V)}{ds:List (List Key×D)}(h:RepsT K H vs ds):(d7 vs k=none/\dn ds k=none)\/∃v d,d7 vs k=some v/\dn ds k=some d/\Rep K H v d:=
 RepsT.ind (M:=λvs ds=>(d7 vs k=none/\dn ds k=none)\/∃v d,d7 vs k=some v/\dn ds k=some d/\Rep K H v d) (.inl ⟨rfl,rfl⟩) (λ{a v d vs ds} h _ ih=>by
  rw[yb,kH];by_cases q:a=k
  ·rw[Yi q,Yi q];exact .inr ⟨v,d,rfl,rfl,h⟩
  ·rw[Yr q,Yr q];exact ih) h
def RepsT.any{k:List Key}{vs:List (List Key×V)}{ds:List (List Key×D)}(h:RepsT K H vs ds):(vs.any λa=>decide (a.1=k))=ds.any λa=>decide (a.1=k):=
 RepsT.ind (M:=λvs ds=>(vs.any λa=>decide (a.1=k))=ds.any λa=>decide (a.1=k)) rfl (λ_ _ ih=>by rw[Xk,Xk,ih]) h
def RepsT.map{k:List Key}{v:V}{d:D}(f:Rep K H v d){vs:List (List Key×V)}{ds:List (List Key×D)}(h:RepsT K H vs ds):RepsT K H (vs.map λa=>if a.1=k then(a.1,v)else a) (ds.map λa=>if a.1=k then(a.1,d)else a):=
 RepsT.ind (M:=λvs ds=>RepsT K H (vs.map λa=>if a.1=k then(a.1,v)else a) (ds.map λa=>if a.1=k then(a.1,d)else a)) .nil (λ{b c e vs ds} h _ ih=>by
  rw[YC,YC];by_cases q:b=k
  ·rw[Yi (show(b,c).1=k from q),Yi (show(b,e).1=k from q)];exact .cons f ih
  ·rw[Yr (show ¬(b,c).1=k from q),Yr (show ¬(b,e).1=k from q)];exact .cons h ih) h
def RepsT.snoc{k:List Key}{v:V}{d:D}(a:Rep K H v d){vs:List (List Key×V)}{ds:List (List Key×D)}(h:RepsT K H vs ds):RepsT K H (vs++[(k,v)]) (ds++[(k,d)]):=
 RepsT.ind (M:=λvs ds=>RepsT K H (vs++[(k,v)]) (ds++[(k,d)])) (.cons a .nil) (λh _ ih=>.cons h ih) h
def RepsT.put{k:List Key}{v:V}{d:D}{vs:List (List Key×V)}{ds:List (List Key×D)}(a:Rep K H v d)(r:RepsT K H vs ds):RepsT K H (fH vs k v) (ir ds k d):=by
 unfold fH ir;rw[r.any (k:=k)];split
 ·exact r.map a
 ·exact r.snoc a
def RepsT.length{vs:List (List Key×V)}{ds:List (List Key×D)}(h:RepsT K H vs ds):vs.length=ds.length:=RepsT.ind (M:=λvs ds=>vs.length=ds.length) rfl (λ_ _ ih=>YM Nat.succ ih) h
def kW:D->Option Key
 |.int i=>some (.inl i)
 |.str x=>some (.inr x)
 |_=>none
def jq:List D->Option (List Key)
 |[]=>some []
 |d::ds=>(kW d).bind λk=>(jq ds).map λr=>k::r
def tU:D->Option (List Key)
 |.tup ds=>jq ds
 |_=>none
def Reps.keys{ks:List Key}(h:Reps K H vs ds):jq ds=some ks->vs=ks.map kV:=
 Reps.ind (M:=λvs ds=>∀ks:List Key,jq ds=some ks->vs=ks.map kV) (λks e=>by cases e;rfl) (λ{v d vs ds} h _ ih ks e=>by
  unfold jq at e;cases q:kW d with
  |none=>rw[q]at e;cases e
  |some k=>
   rw[q,Ya]at e;cases a:jq ds with
   |none=>rw[a]at e;cases e
   |some b=>
    rw[a]at e;cases e;rw[ih _ a,YC];cases d with
    |int i=>cases q;cases h;rfl
    |str i=>cases q;cases h;rfl
    |_=>cases q) h ks
def v_{F:Hp}{y:V}{ks:List Key}(a:DHp P F H)(r:Rep K F y dy)(h:tU dy=some ks):∃b,y=.ref b/\H b=some (.tup (ks.map kV)):=by
 cases dy with
 |tup ds=>cases r with|tup h1 h2=>exact⟨_,rfl,by rw[a.sub _ _ h1,h2.keys h]⟩
 |_=>cases h
section
variable  {i f:Expr}  {fd fk:Dd}
def lP(fd fk fx:Dd):DF->Option D:=λa=>match fd a with
 |some (.dT kvs)=>(fk a).bind λy=>(tU y).bind λk=>(fx a).map λx=>(dn kvs k).getD x
 |_=>none
theorem yL(hu:X.A.units+64<cLine)(ho:PDR X o fd)(hi:PDE X e fk)(hx:PDE X f fx)(m:M2 X o "get" apos e f cpos:=by exact⟨rfl,rfl,rfl,rfl⟩):PDE X (.Call (.Attribute o "get" apos) [e,f] [] cpos) (lP fd fk fx):=(yA (by omega) ho hi hx m).imp λσ H Q=>un7 λP F b d h I k=>by
 unfold lP at h;split at h
 ·rename_i c Z;cases C:fk b with
  |none=>rw[C]at h;cases h
  |some dy=>
   rw[C,Ya]at h;cases B:tU dy with
   |none=>rw[B]at h;cases h
   |some E=>
    rw[B,Ya]at h;cases w:fx b with
    |none=>rw[w]at h;cases h
    |some N=>
     rw[w]at h;cases h;refine⟨P,F,b,_,Z,I,λx F1 H1 i M=>?_⟩;obtain⟨p,T,rfl,h1,h2⟩:=AR (I.evo i) M;refine⟨p,rfl,.inr ⟨T,.inl h1⟩,P,F1,b,_,C,I.evo i,λy F2 H2 j Y=>⟨P,F2,b,_,w,(I.evo i).evo j,λz l O g U=>?_⟩⟩;have I3:=((I.evo i).evo j).evo g;obtain⟨p',S,ep,L,J⟩:=AR I3 ((M.evo j).evo g);cases ep;obtain⟨q,rfl,h3⟩:=v_ g.hp (Y.same g.ext) B;refine⟨_,DGet.t L h3,?_⟩;have a:=(i.trans j).trans g;rcases J.val (k:=E)with⟨u,s⟩|⟨v,d',u,s,R⟩
     ·rw[u];exact k _ l O a (by show Rep X.K l z ((dn c E).getD N);rw[s];exact U)
     ·rw[u];exact k _ l O a (by show Rep X.K l v ((dn c E).getD N);rw[s];exact R)
 ·cases h
def wJ:PDO X (.Dict [] [] pos) (λ_=>some (.dT [])):=AS.imp λb H Q=>un7 λP F c o a I k=>by
 cases a;exact λp h=>k p F _ (Evo.side I.toDHp h) ⟨⟨h,(I.toDHp.free h).1⟩,_,aC,.nil⟩
def v8(j:Nat)(fk fv:Dd):DF->Option RES:=λa=>match a[j]? with
 |some (some (.own (.dT kvs) t))=>(fv a).bind λv=>(fk a).bind λy=>(tU y).bind λk=>if kvs.length<16777216 then some (.nx (a.set j (some (.own (.dT (ir kvs k v)) t))))else none
 |_=>none
def B4(j:Nat)(hu:X.A.units+64<cLine)(M:PE X o (cf j))(hi:PDE X i fk)(hv:PDE X e fv)(L:swapsWith e (some (.Subscript o i pos')) pos.line X.env=pure false:=by rfl):PD1 X (.Assign [.Subscript o i pos'] e pos) (v8 j fk fv):=
 PS.imp (l9 (by omega) M hi hv L) λE z H=>un7 λP F c r h I k=>by
  unfold v8 at h;split at h
  ·rename_i m t q;cases f:fv c with
   |none=>rw[f]at h;cases h
   |some dv=>
   rw[f,Ya]at h;cases l:fk c with
   |none=>rw[l]at h;cases h
   |some Q=>
   rw[l,Ya]at h;cases g:tU Q with
   |none=>rw[g]at h;cases h
   |some Y=>
   rw[g,Ya]at h;split at h
   ·rename_i N;cases h;obtain⟨v,s,p,rfl,⟨⟨S,a2,_⟩,u,R,b⟩,_⟩:=I.at q;cases u with
    |dT vs=>
     have b:RepsT X.K F vs m:=b;refine⟨P,F,c,_,f,I,λv U H1 x C=>⟨_,s,P,U,c,_,l,I.evo x,λy T H2 w B=>?_⟩⟩;have a:=x.trans w;obtain⟨J,Z⟩:=a.keep p _ R S;obtain⟨b',rfl,O⟩:=v_ a.hp B g;refine⟨p,_,rfl,DPut.t J O (by rw[YL,b.length];exact N),k z T _ a.ext ?_⟩;exact(I.evo a).mut (o':=.dT _) (u:=.dT _) q rfl rfl s ((RepsT.same a.ext b).put (C.same w.ext))
    |_=>exact b.elim
   ·cases h
  ·cases h
end
end L2
namespace L2
open PySem PySem.Spec PyProof.Rows PySem.W
def qP(prog:Program)(w:World)(A:Around)(Q:Kv)(vs:List Value)(s1:Shared):Prop:=
 vs.length<64/\∃(c:SortKind) (lt:Nat->Nat->Bool),Ord lt /\
  (2<=vs.length->∀h,(∀b u,s1.heap.get? b=some u->h.get? b=some u)->∀(Q:SortKind->Shared->Prop) (E:Kv),Q c {s1 with heap:=h }->wpAny (model prog w) A.in1.in1 (keyKind' vs.toArray) Q E {s1 with heap:=h }) /\
  (∀h,(∀b u,s1.heap.get? b=some u->h.get? b=some u)->∀i j C,i<vs.length->j<vs.length->C (lt i j) {s1 with heap:=h }->kas_ask prog w A.in1.in1 c vs i j C {s1 with heap:=h }) /\
  ∀p,PermN vs.length p->Ris lt p vs.length->∀(a:Addr) (h:Heap) (e:Nat),(∀b u,s1.heap.get? b=some u->h.get? b=some u)->s1.heap.objs.size<=a->h.get? a=some (seqObj "list" (lA vs p) e)->Q (.ref a) {s1 with heap:=h }
def si{v:Value}{Q:Kv}(j:wpAny (model prog w) A.in1 (collect v) (qP prog w A Q) E s) :
  wpAny (model prog w) A (call (.builtin "sorted") [v]) Q E s:=by
 refine Calls.call_function_entry kind_sorted plain_sorted entry_sorted (args_sorted1 _) ?_;unfold Builtin.«sorted»;refine Yq (m:=checkCount "sorted" 1 1 _) (YR ?_);refine Yq (Zx j (λc a x=>?_) λ_ _ e=>e);obtain⟨h64,y,lt,o,C,I,h⟩:=x;refine Yq (wpAny_newList ?_ (by rw[YL];omega));have g:(a.heap.push (seqObj "list" c.toArray 0)).get? a.heap.objs.size=some (seqObj "list" c.toArray 0):=YJ _ rfl;have keep:∀b u,a.heap.get? b=some u->(a.heap.push (seqObj "list" c.toArray 0)).get? b=some u:=λb u q=>Yx _ q
 show wpAny _ _ _ _ _ {a with heap:=a.heap.push (seqObj "list" c.toArray 0)};have l:∀f:Heap,(∀b u,b≠a.heap.objs.size->(a.heap.push (seqObj "list" c.toArray 0)).get? b=some u->f.get? b=some u)->∀b u,a.heap.get? b=some u->f.get? b=some u:=λf k b u e=>
  k b u (YN (YD e)) (keep b u e)
 refine Yq (ZU (wpAny_call_entry slot_list_sort ⟨_,g,rfl⟩ entry_list_sort ?body (args_list_sort _)))
 case body=>
  refine oF g h64 y lt o (λJ f k Q q=>C J f (l f k) Q _ q) (λf k=>I f (l f k)) λp B z=>⟨_,rfl,?_⟩
  obtain⟨e,H⟩:=sortedHeap_at (out:=lA c p) g;refine YR ⟨_,rfl,h p B z a.heap.objs.size _ e (λb u q=>?_) (Yy _) H⟩;have i:b<a.heap.objs.size:=YD q;show(sortedHeap (a.heap.push (seqObj "list" c.toArray 0)) a.heap.objs.size c (lA c p)).get? b=some u;rw[sortedHeap_old (YN i) (by rw[size_push'];exact Xj i)];exact keep b u q
theorem oh{l:Addr}{vs:List Value}{Q:Kl}(e:IsTup s.heap l vs.toArray)
  (h:Q vs {s with heap:=(s.heap.push (seqObj "list" #[] 0)).update s.heap.objs.size (Obj.mapSeq (·++vs.toArray))}) (hsz:vs.length<=sizeLine) :
  wpAny (model prog w) A (collect (.ref l)) Q E s:=by
 obtain⟨o,c,g,n,f⟩:=id e;unfold collect;refine Yq (wpAny_runValue (Xw entry_proto_collect' ?_));show wpAny _ _ (do again (.builtin "list.__iadd__" ⟨[<-newList [],.ref l],[]⟩)) _ _ s;refine Yq (wpAny_newList (YR ⟨Code.quiet_builtin _ (by decide+kernel),Xw entry_list_iadd' ?_⟩));show wpAny _ _ (Builtin.List.listExtendWith (.ref s.heap.objs.size) (.ref l) (.ref s.heap.objs.size)) _ _ {s with heap:=s.heap.push (seqObj "list" #[] 0)};unfold Builtin.List.listExtendWith;have a:(s.heap.push (seqObj "list" #[] 0)).get? l=some o:=Yx _ c;refine Yq (wpAny_typeOf (T := "tuple") ⟨o,a,g⟩ ?_);have b:(Value.type "tuple" == Value.type "tuple")=true:=by rfl
 rw[Yi (by rw[b];simp)];refine Yq (listItems_at a f ?_);refine Yq (listItems_at (xs:=#[]) (n:=0) (YJ _ rfl) rfl ?_);rw[Yr (by simp)];refine Yq (listUpdate_at (xs:=#[]) (n:=0) (YJ _ rfl) rfl ?_ (YS _) (by show(#[]++vs.toArray).size<=sizeLine+1;simp only[Array.size_append,Yp,YZ];omega));refine YR ?_;show wpAny (model prog w) A (do
   let o <-load s.heap.objs.size
   match o.data with
   |.seq xs _=>pure xs.toList
   |_=>unsupported "internal:collect") Q E {s with heap:=(s.heap.push (seqObj "list" #[] 0)).update s.heap.objs.size (Obj.mapSeq (·++vs.toArray))}
 refine Yq (wpAny_load (get?_update_seq (YJ _ rfl) _) ?_);show wpAny _ _ (pure ((#[]:Array Value)++vs.toArray).toList) Q E _;rw[show((#[]:Array Value)++vs.toArray).toList=vs by simp];exact YR h
def nE{h:Heap}{vs:List Value}{b:Addr}{u:Obj}(q:h.get? b=some u):((h.push (seqObj "list" #[] 0)).update h.objs.size (Obj.mapSeq (·++vs.toArray))).get? b=some u:=by have a:b<h.objs.size:=YD q;rw[Heap.get?_update_ne _ _ _ _ (YN a),Xl _ _ _ (YN a)];exact q
def sk:D->Bool
 |.int _=>true
 |.str _=>true
 |.tup (_::_)=>true
 |_=>false
def fk:D->Bool
 |.int _=>true
 |.str _=>true
 |.tup _=>true
 |_=>false
def vS:D->Bool
 |.tup (d::_)=>fk d
 |_=>true
def eh(ds:List D):Bool:=decide (ds.length<64)&&ds.all (okN 28)&&(ds.all λx=>ds.all λy=>aH x y)&&ds.all sk&&ds.all vS
def ju(h:eh ds=true):ds.length<64/\Cmps 28 ds/\(∀d∈ds,sk d=true)/\∀d∈ds,vS d=true:=by unfold eh at h;simp only[Ys,YE]at h;obtain⟨⟨⟨⟨j,i⟩,g⟩,f⟩,e⟩:=h;exact⟨j,⟨λd a=>YH.mp i d a,λx c y b=>YH.mp (YH.mp g x c) y b⟩,λd a=>YH.mp f d a,λd a=>YH.mp e d a⟩
def dAt(ds:List D)(i:Nat):D:=ds.getD i (ds.headD (.int 0))
def qi(h:ds≠[])(i:Nat):dAt ds i∈ds:=by
 unfold dAt;cases ds with
 |nil=>exact absurd rfl h
 |cons d r=>
  rw[YU];cases q:(d::r)[i]? with
  |none=>exact Yf
  |some x=>exact Zo q
def rS(h:i<ds.length):ds[i]?=some (dAt ds i):=by unfold dAt;rw[YU,Yz h];rfl
def Eg{n:Nat}(a:Cmps n ds):Ord λi j=>ltD (dAt ds i) (dAt ds j):=by
 by_cases b:ds=[]
 ·subst b;have e:∀i,dAt [] i=.int 0:=λi=>by simp[dAt]
  refine⟨λi j h=>?_,λi j k f c=>?_⟩
  ·rw[e,e]at h;simp[ltD]at h
  ·rw[e,e];simp[ltD]
 ·have m:=λi=>qi b i
  refine⟨λi j h=>?_,λi j k f c=>?_⟩
  ·exact(j4 n _ _ (a.1 _ (m i)) (a.1 _ (m j)) (a.2 _ (m i) _ (m j))).as h
  ·exact pA (a.1 _ (m i)) (a.1 _ (m j)) (a.1 _ (m k)) (a.2 _ (m i) _ (m j)) (a.2 _ (m j) _ (m k)) (a.2 _ (m i) _ (m k)) (a.2 _ (m j) _ (m i)) (a.2 _ (m k) _ (m j)) (a.2 _ (m k) _ (m i)) f c
theorem uk{n:Nat}(m:Cmps n ds){p:Array Nat}(b:PermN ds.length p)(l:Ris (λi j=>ltD (dAt ds i) (dAt ds j)) p ds.length):p.toList.map (dAt ds)=eX ds:=by
 refine n4 (n:=n) ?_ m ?_
 ·have g:(p.toList.map (dAt ds)).Perm ((List.range ds.length).map (dAt ds)):=b.perm.map _;have o:(List.range ds.length).map (dAt ds)=ds:=by
   apply List.ext_getElem?;intro i;rw[YG];by_cases h:i<ds.length
   ·rw[List.getElem?_range h,ZC,rS h]
   ·rw[XM (by rw[XE];omega),XM (by omega)];rfl
  rw[o]at g;exact g
 ·rw[XG,List.pairwise_iff_getElem];intro i j f c a;have q:=b.size;rw[Zy]at f c;have:=l i j (ZB a) (by omega);have e:∀k (h:k<p.size),p.getD k 0=p[k]:=λk h=>by simp[Array.getD,h]
  rw[e i f,e j c]at this;simpa using this
theorem Reps.perm(r:Reps K H vs ds)(a:ds≠[]):∀(l:List Nat),(∀i∈l,i<ds.length)->Reps K H (l.map λi=>vs.getD i .non) (l.map (dAt ds))
 |[],_=>.nil
 |i::l,h=>by
  obtain⟨v,f,c⟩:=r.get (rS (h i Yf));have e:vs.getD i .non=v:=by rw[YU,f];rfl
  rw[YC,YC];show Reps K H (vs.getD i .non::_) _;rw[e];exact .cons c (Reps.perm r a l λj b=>h j (Ye _ b))
theorem Vals.perm(r:Vals vs us):∀(l:List Nat),(∀i∈l,i<vs.length)->Vals (l.map λi=>vs.getD i .non) (l.map λi=>us.getD i Value.none)
 |[],_=>.nil
 |i::l,h=>by
  have a:=h i Yf;obtain⟨u,e,c⟩:=r.get (Yz a);have g:vs.getD i .non=vs[i]:=by rw[YU,Yz a];rfl
  have f:us.getD i Value.none=u:=by rw[YU,e];rfl
  rw[YC,YC];show Vals (vs.getD i .non::_) (us.getD i Value.none::_);rw[g,f];exact .cons c (Vals.perm r l λj b=>h j (Ye _ b))
def tyD:D->Value
 |.int _=>.type "int"
 |.str _=>.type "str"
 |_=>.type "tuple"
def Rep.ty(I:Inv X pz σ H s){v:V}{d:D}(h:Rep X.K H v d)(c:fk d=true)(r:RelV v u)(M:Model):Looks M s.heap (typeOf u) (tyD d):=by
 cases d with
 |int i=>cases h;obtain⟨t,rfl⟩:=(show ∃t,u=Value.int _ t from r);exact Looks.of_pure rfl
 |str i=>cases h;obtain⟨t,rfl⟩:=(show ∃t,u=Value.str _ t from r);exact Looks.of_pure rfl
 |tup ds=>
  cases h with
  |tup h1 h2=>
   cases(show u=Value.ref _ from r);obtain⟨a,g,⟨o,b,e,n,j⟩,_⟩:=I.tuple (SqT.of h1);have:=(Looks.ld (M:=M) (part:=none) b).andThen (f:=λo=>pure o.cls) .now;rw[e]at this;exact this
 |_=>cases c
def ug{x:D}(h:aH x y=true)(hx:fk x=true):tyD x=tyD y:=by
 rcases bF h with⟨i,j,rfl,rfl⟩|⟨i,j,rfl,rfl⟩|⟨i,j,rfl,rfl⟩|⟨i,j,rfl,rfl,_⟩
 ·rfl
 ·cases hx
 ·rfl
 ·rfl
def pM:List D->SortKind
 |.tup (d::_)::_=>tuples' (tyD d != .type "tuple")
 |_=>oneType'
def uR(I:Inv X pz σ H s):∀{vs:List V}{ds:List D}{us:List Value},Reps X.K H vs ds->Vals vs us->(∀d∈ds,∃x r,d=.tup (x::r)/\fk x=true)->∀T:Value,(∀x r,.tup (x::r)∈ds->tyD x=T)->
  ∃fs:List Value,KatTups s.heap us fs/\fs.length=us.length/\∀M,∀v∈fs,Looks M s.heap (typeOf v) T:=by
 intro vs ds us h;exact Reps.ind (M:=λvs ds=>∀us:List Value,Vals vs us->(∀d∈ds,∃x r,d=.tup (x::r)/\fk x=true)->∀T:Value,(∀x r,.tup (x::r)∈ds->tyD x=T) ->     ∃fs:List Value,KatTups s.heap us fs/\fs.length=us.length/\∀M,∀v∈fs,Looks M s.heap (typeOf v) T) (λus r _ _ _=>by cases r;exact⟨[],.nil,rfl,λ_ _ h=>by cases h⟩) (λh _ ih us g b T c=>by
  cases g with
  |cons r t=>
  obtain⟨x,f,rfl,l⟩:=b _ Yf;obtain⟨fs,z,y,w⟩:=ih _ t (λd m=>b d (Ye _ m)) T λx r m=>c x r (Ye _ m)
  cases h with
  |tup h1 h2=>
   cases(show _=Value.ref _ from r);obtain⟨j,e,⟨o,p,q,n,a⟩,_⟩:=I.tuple (SqT.of h1);cases h2 with
   |cons u B=>
    cases e with
    |cons i A=>
     refine⟨_::fs,KatTups.cons p q a (by simp;rfl) z,by rw[Yh,Yh,y],λM v hv=>?_⟩;rcases YB.mp hv with rfl|hv
     ·rw[<-c x f Yf];exact u.ty I l i M
     ·exact w M v hv) h us
def qH{d:D}(h:sk d=true)(a:jU d=false):fk d=true:=by cases d<;>first|rfl|cases h|cases a
theorem BJ(I:Inv X pz σ H s)(r:Reps X.K H vs ds)(q:Vals vs us)(ok:eh ds=true)(h2:2<=us.length){M:Model}{Q:SortKind->Shared->Prop}(w:Q (pM ds) s) :
  wpAny M A (keyKind' us.toArray) Q E s:=by
 obtain⟨hl,L,p,C⟩:=ju ok;have R:=r.length;have l2:=q.length;cases ds with
 |nil=>rw[YZ]at R;omega
 |cons d B=>
  have f:d∈d::B:=Yf;cases g:jU d with
  |true=>
   cases d with
   |tup xs=>
    cases xs with
    |nil=>have:=p _ f;cases this
    |cons x O=>
     have S:fk x=true:=C _ f;have all:∀c∈(D.tup (x::O)::B),∃y b,c=.tup (y::b)/\fk y=true/\tyD y=tyD x:=λc m=>by
      have a:=L.2 _ f _ m;rcases bF a with⟨i,j,e,_⟩|⟨i,j,e,_⟩|⟨i,j,e,_⟩|⟨i,j,e,z,o⟩
      ·cases e
      ·cases e
      ·cases e
      ·cases e;subst z;cases j with
       |nil=>have:=p _ m;cases this
       |cons y b=>
        rw[bY,Ys]at o;exact⟨y,b,rfl,C _ m,(ug o.1 S).symm⟩
     obtain⟨fs,f1,f2,Z⟩:=uR I r q (λc m=>by obtain⟨y,b,e,h,_⟩:=all c m;exact⟨y,b,e,h⟩) (tyD x) λy b m=>by
      obtain⟨y',P,e,_,h⟩:=all _ m;cases e;exact h
     exact kat_kind f1 (by omega) (Z M) (by cases x<;>rfl) w
   |_=>cases g
  |false=>
   have J:fk d=true:=qH (p d f) g;have e:pM (d::B)=oneType':=by cases d<;>first|rfl|cases g
   rw[e]at w;have Y:∀u∈us,Looks M s.heap (typeOf u) (tyD d):=λu T=>by
    obtain⟨i,U,eu⟩:=XX T;have l:i<vs.length:=by omega
    obtain⟨u',N,z⟩:=q.get (Yz l);rw[Yz U,eu]at N;cases N;obtain⟨c,e3,e4⟩:=r.getV (Yz l);have m:=Zo e3;have a:=L.2 _ f _ m;rw[ug a J];refine e4.ty I ?_ z M;refine qH (p c m) ?_;rcases bF a with⟨i,j,rfl,rfl⟩|⟨i,j,rfl,rfl⟩|⟨i,j,rfl,rfl⟩|⟨i,j,rfl,rfl,_⟩
    ·rfl
    ·rfl
    ·rfl
    ·cases g
   refine kas_kind h2 Y ?_ ?_ w
   ·cases d<;>first|rfl|(simp[fk]at J;done)|(simp[jU]at g;done)
   ·cases d<;>rfl
theorem Ds{b:Bool}{Q:Kb}{n1 n2:Nat}:∀{us f:List Value}{ds es:List D} (i:Nat),LexOk A s us f ds es->(b=true->i=0->∀u j d e o wr y er,us=u::o->f=j::wr->ds=d::y->es=e::er->∀(Q:Kb) (E:Kv),Q (ltD d e) s->wpAny (model prog w) A (oneLt' true u j) Q E s)->
  us.length+n2=f.length+n1->Q (cE ds es) s->KatLex prog w A b (decide (n1<n2)) Q (us.zip f) i s:=by
 intro us f ds es i h;induction h generalizing i with
 |@nl f es hl=>
  intro _ g a;rw[List.zip_nil_left];refine kat_nil ?_;rw[YZ]at g;cases es with
  |nil=>
   rw[YZ]at hl;rw[show cE [] []=false by simp[cE]]at a;rw[Yn (by omega)];exact a
  |cons c r=>
   rw[Yh]at hl;rw[show cE [] (c::r)=true by simp[cE]]at a;rw[YA (by omega)];exact a
 |@nr vs ds hl=>
  intro _ g a;rw[List.zip_nil_right];refine kat_nil ?_;rw[YZ]at g;cases ds with
  |nil=>
   rw[YZ]at hl;rw[show cE [] []=false by simp[cE]]at a;rw[Yn (by omega)];exact a
  |cons c r=>
   rw[Yh]at hl;rw[show cE (c::r) []=false by simp[cE]]at a;rw[Yn (by omega)];exact a
 |@cons v j d e _ _ _ _ p l B ih=>
  intro x g a;rw[Va];rw[Yh,Yh]at g;refine kat_cons (p prog w _ _ ?_);cases q:eqd d e with
  |true=>
   rw[cE,Yi q]at a;exact kat_yes (ih (i+1) (λ_ z=>by omega) (by omega) a)
  |false=>
   rw[cE,Yr (by rw[q];exact Ym)]at a;refine kat_no ?_;cases m:(b&&i == 0)with
   |true=>
    rw[Ys]at m;exact x m.1 (by simpa using m.2) _ _ _ _ _ _ _ _ rfl rfl rfl rfl _ _ a
   |false=>exact kat_one _ _ (l q prog w _ _ a)
def yk{x y:V}{d e:D}{v:Value}(h1:Rep X.K H x d)(h2:Rep X.K H y e)(c:aH d e=true)(hd:fk d=true)(g:jU d=false)(b:RelV x u)(a:RelV y v){Q:Kb}(h:Q (ltD d e) s) :
  wpAny (model prog w) A (oneLt' true u v) Q E s:=by
 rcases bF c with⟨i,j,rfl,rfl⟩|⟨i,j,rfl,rfl⟩|⟨i,j,rfl,rfl⟩|⟨i,j,rfl,rfl,_⟩
 ·cases h1;cases h2;obtain⟨t,rfl⟩:=(show ∃t,u=Value.int _ t from b)
  obtain⟨f,rfl⟩:=(show ∃t,v=Value.int _ t from a)
  exact oneLt_int (by rw[ltD]at h;exact h)
 ·cases hd
 ·cases h1;cases h2;obtain⟨t,rfl⟩:=(show ∃t,u=Value.str _ t from b)
  obtain⟨f,rfl⟩:=(show ∃t,v=Value.str _ t from a)
  exact oneLt_str (by rw[ltD]at h;exact h)
 ·cases g
theorem Fa(I:Inv X pz σ H s)(r:Reps X.K H vs ds)(q:Vals vs us)(ok:eh ds=true)(hu:A.units+60<cLine){C:Kb}(hi:i<us.length)(hj:j<us.length)(O:C (ltD (dAt ds i) (dAt ds j)) s) :
  kas_ask prog w A (pM ds) us i j C s:=by
 obtain⟨hl,g,B,hf⟩:=ju ok;have l1:=r.length;have l2:=q.length;obtain⟨v,e1,S⟩:=r.get (rS (show i<ds.length by omega));obtain⟨v',e2,R⟩:=r.get (rS (show j<ds.length by omega));obtain⟨u,e3,Y⟩:=q.get e1;obtain⟨P,e4,U⟩:=q.get e2;have o:ds≠[]:=λz=>by rw[z,YZ]at l1;omega
 have m:=qi o i;have T:=qi o j;have f:=g.2 _ m _ T;unfold kas_ask;have g1:us.getD i Value.none=u:=by rw[YU,e3];rfl
 have g2:us.getD j Value.none=P:=by rw[YU,e4];rfl
 rw[g1,g2];generalize hx:dAt ds i=x,hy:dAt ds j=y at *;cases l:jU x with
 |false=>
  have e:pM ds=oneType':=by
   cases ds with
   |nil=>exact absurd rfl o
   |cons d dr=>
    have:=g.2 _ m d Yf;rcases bF this with⟨i,j,rfl,rfl⟩|⟨i,j,rfl,rfl⟩|⟨i,j,rfl,rfl⟩|⟨i,j,rfl,rfl,_⟩
    ·rfl
    ·rfl
    ·rfl
    ·cases l
  rw[e,keyLt'_oneType];exact yk S R f (qH (B _ m) l) l Y U O
 |true=>
  cases x with
  |tup xs=>
   cases xs with
   |nil=>have:=B _ m;cases this
   |cons p xr=>
    rcases bF f with⟨_,_,e,_⟩|⟨_,_,e,_⟩|⟨_,_,e,_⟩|⟨xs',ys,e,rfl,h⟩
    ·cases e
    ·cases e
    ·cases e
    ·cases e;have ek:pM ds=tuples' (tyD p != .type "tuple"):=by
      cases ds with
      |nil=>exact absurd rfl o
      |cons d dr=>
       have:=g.2 _ m d Yf;rcases bF this with⟨_,_,e,_⟩|⟨_,_,e,_⟩|⟨_,_,e,_⟩|⟨_,zs,e,rfl,hz⟩
       ·cases e
       ·cases e
       ·cases e
       ·cases e;cases zs with
        |nil=>have:=B (.tup []) Yf;cases this
        |cons z0 zr=>
         rw[bY,Ys]at hz;show tuples' (tyD z0 != _)=_;rw[ug hz.1 (hf _ m)]
     rw[ek];cases S with
     |tup a1 a2=>
      cases R with
      |tup b1 b2=>
       cases(show u=Value.ref _ from Y);cases(show P=Value.ref _ from U);obtain⟨its1,b,⟨o1,L,hc1,n1,N⟩,_⟩:=I.tuple (SqT.of a1);obtain⟨Z,a,⟨o2,J,hc2,n2,M⟩,_⟩:=I.tuple (SqT.of b1);have oi:okN 28 (.tup (p::xr))=true:=g.1 _ m;have oj:okN 28 (.tup ys)=true:=g.1 _ T;have c:=Reps.lex I 27 A (by omega) (Rep.lt I 27 A (by omega)) a2 b2 (cz oi) (cz oj) h b a;refine kat_lt L N J M ?_;simp only[Yp];refine Ds 0 c (λhb _ u0 w0 d0 e0 ur wr dr er q1 q2 q3 q4 Q E hq=>?_) (by omega) (by rw[ltD]at O;exact O);subst q1 q2 q4;cases q3;cases a2 with
       |cons a3 a4=>
        cases b2 with
        |cons b3 b4=>
         cases b with
         |cons c1 c2=>
          cases a with
          |cons c3 c4=>
           rw[bY,Ys]at h;refine yk a3 b3 h.1 (hf _ m) ?_ c1 c3 hq;cases p<;>first|rfl|(simp[tyD]at hb)
  |_=>cases l
theorem yz(I:Inv X pz σ H s)(r:Reps X.K H vs ds)(g:Vals vs us)(ok:eh ds=true)(S:X.A.units+64<cLine){Q:Kv}
  (O:∀(a:Addr) (p:List Nat) (s':Shared),H a=none->(∀i∈p,i<ds.length)->p.length=ds.length->p.map (dAt ds)=eX ds->Inv X pz σ (upd H a (.lst (p.map λi=>vs.getD i .non))) s'->Q (.ref a) s'):qP X.prog X.w X.A Q us s:=by
 obtain⟨T,z,_,_⟩:=ju ok;have m:=r.length;have y:=g.length;refine⟨by omega,pM ds,_,Eg z,λP B k Q E q=>BJ (I.kept (t':=s.toks) k) r g ok P q,λB k i j C c N L=>?_,λp M J a B e k b f=>?_⟩
 ·have o:X.A.in1.in1.units+60<cLine:=by show X.A.units+1+1+60<cLine;omega
  exact Fa (I.kept (t':=s.toks) k) r g ok o c N L
 ·have h:PermN ds.length p:=by rw[<-m,y];exact M
  have u:Ris (λi j=>ltD (dAt ds i) (dAt ds j)) p ds.length:=by rw[<-m,y];exact J
  have R:=uk z h u;have bd:∀i∈p.toList,i<ds.length:=λi c=>Zz.mp (h.perm.mem_iff.mp c)
  have x:H a=none:=I.hok.fresh b;have l:p.toList.length=ds.length:=by rw[Zy];exact h.size
  refine O a p.toList _ x bd l R (I.laid (t':=s.toks) k b ⟨?_,p.toList.map λi=>us.getD i Value.none,e,Vals.perm g p.toList λi c=>by rw[m];exact bd i c,?_⟩)
  ·rw[Yc,l,YL];omega
  ·exact f
def tH(y:X.A.units+64<cLine):CallR X (.builtin "sorted") (λxs H Q=>∃a vs ds,xs=[.ref a]/\(SqL X.K H a vs\/SqT X.K H a vs)/\Reps X.K H vs ds/\eh ds=true/\∀l (p:List Nat),H l=none->(∀i∈p,i<ds.length)->p.length=ds.length->p.map (dAt ds)=eX ds->Q (.ref l) (upd H l (.lst (p.map λi=>vs.getD i .non)))):=by
 intro x s m H xs E Q I r h;obtain⟨a,vs,ds,rfl,hq,z,ok,q⟩:=h;obtain⟨u,rfl,o⟩:=iq r;cases o;refine si ?_;have fin:∀c:List Value,Vals vs c->qP X.prog X.w X.A (EP X x m Q) c {s with heap:=(s.heap.push (seqObj "list" #[] 0)).update s.heap.objs.size (Obj.mapSeq (·++c.toArray))}:=λc f=>
  yz (I.kept (t':=s.toks) λb u e=>nE e) z f ok y λl p J B b1 b2 b3 C=>⟨.ref l,_,C,rfl,q l p B b1 b2 b3⟩
 rcases hq with hq|hq
 ·obtain⟨c,f,g,j⟩:=I.list hq;exact collect_list g.isList (fin c f) (by rw[<-f.length];exact j)
 ·obtain⟨c,f,g,j⟩:=I.tuple hq;exact oh g (fin c f) (by rw[<-f.length];exact j)
def oV(fa:Dd):DF->Option (List D):=λb=>(fa b).bind λd=>(eN d).bind λa=>if eh a=true then some (eX a)else none
def jt(L:X.A.units+64<cLine)(N:Gl X "sorted")(M:X.mg "sorted"=none)(f:PDR X e fa)(C:starEach [e] X.env=[(false,eval e X.env)]:=by rfl)(o:(backTo pos (starEach [] X.env)).any (·.1)=false:=by rfl) :
  PDO X (.Call (.Name "sorted" p) [e] [] pos) (asL (oV fa)):=
 (df (tH L) N M sR (aI f a_ C) (by decide) (by decide) C o).imp λO H Q=>un7 λP F z R h I k=>by
  unfold asL oV at h;cases f:fa z with
  |none=>rw[f]at h;cases h
  |some w=>
  rw[f,Ya]at h;cases c:eN w with
  |none=>rw[c]at h;cases h
  |some b=>
  rw[c,Ya]at h;split at h
  ·rename_i ok;cases h;refine⟨P,F,z,w,f,I,λx y J j B=>?_⟩;have m:=I.evo j;have fin:∀(a:List V),Reps X.K y a b->∀l (p:List Nat),J l=none->(∀i∈p,i<b.length)->p.length=b.length->p.map (dAt b)=eX b->Q (.ref l) (upd J l (.lst (p.map λi=>a.getD i .non))):=λa r l p s b1 b2 b3=>by
    refine k l y _ (j.trans (Evo.side j.hp s)) ⟨⟨j.back I.toDHp s,(j.hp.free s).1⟩,_,aC,?_⟩;show Reps X.K y _ (eX b);by_cases E:b=[]
    ·subst E;have:p=[]:=Zu.mp b2;rw[this];exact .nil
    ·rw[<-b3];exact r.perm E p b1
   cases w with
   |lst ds'=>
    cases c;obtain⟨q,a,rfl,u,g⟩:=gL m B;exact⟨q,a,b,rfl,.inl u,g.same m.sub,ok,fin a g⟩
   |tup ds'=>
    cases c;obtain⟨q,a,rfl,u,g⟩:=j6 m B;exact⟨q,a,b,rfl,.inr u,g.same m.sub,ok,fin a g⟩
   |_=>cases c
  ·cases h
end L2
namespace L2
open PySem PySem.Spec PyProof.Rows
def tOI(K:Kq)(f:DF->Option (Option Int)):TO:=λe H Q=>∃P F a b,f a=some b/\DInv K P F H a e/\∀g c,Evo P F H g c->Q b c
def PDB(X:Cx)(e:Option Expr)(f:DF->Option (Option Int)):Prop:=PO X e (tOI X.K f)
def bNo:DF->Option (Option Int):=λ_=>some none
def bI(f:Dd):DF->Option (Option Int):=λa=>match f a with
 |some (.int i)=>some (some i)
 |_=>none
section
variable  {c:Expr}   {lo hi:Option Expr}  {fl fh:DF->Option (Option Int)}
def PO.imp{t t':TO}{e:Option Expr}(h:PO X e t)(i:∀σ H Q,t' σ H Q->t σ H Q):PO X e t':=λp s σ H Q I q=>h p s σ H Q I (i σ H Q q)
def kR:PDB X none bNo:=PO.imp CJ λa H Q=>un7 λP F c b h I k=>by
 cases h;exact k F H (Evo.refl I.toDHp)
def jf{f:Dd}(h:PDE X e f):PDB X (some e) (bI f):=PO.imp (CL h) λm H Q=>un7 λP F c b a I k=>by
 unfold bI at a;split at a
 ·rename_i i q;cases a;refine⟨P,F,c,_,q,I,λv l j g r=>?_⟩;cases r;exact⟨i,rfl,k l j g⟩
 ·cases a
def Io:V->Option Int->Option Int->Hp->VK->Prop:=λx l h H Q=>∃z,x=.str z/\z.length<=sizeLine/\Q (.str (Txt.slice z l h)) H
def wo{v:Value}{o:Option Int}(h:IsPart v o):∃l:Option (Int×Tok),v=partValue l/\l.map (·.1)=o:=by
 cases h with
 |none=>exact⟨none,rfl,rfl⟩
 |int i t=>exact⟨some (i,t),rfl,rfl⟩
def Ej:SlR X Io:=by
 intro E s y H x v B A b f C Q I g m i p h;obtain⟨z,rfl,j,q⟩:=h;have a:=Txt.slice_le z b f;obtain⟨t,rfl⟩:=g;obtain⟨l,rfl,w⟩:=wo i;obtain⟨u,rfl,o⟩:=wo p;refine⟨"str",_,PySem.F.slot_str_getitem.lookup,typeIs_str s z t,wpAny_getItem_str_slice (st:=none) m rfl ?_⟩;have e:slicePicked z l u none=Builtin.Str.strSliceIndices b f 1 z.length:=by unfold slicePicked;rw[w,o];rfl
 unfold sliceMade;rw[e];unfold Txt.slice at q a;show(if((1:Int) == 1&&(Builtin.Str.strSliceIndices b f 1 z.length).length == z.length)=true then Made.val (.str z t)else Made.str ⟨((Builtin.Str.strSliceIndices b f 1 z.length).filterMap (z.cps[·]?)).toArray⟩).post _ _;split
 ·rename_i c;rw[Yi c]at q;exact⟨.str z,H,I,⟨t,rfl⟩,q⟩
 ·rename_i c;rw[Yr c]at q a;exact⟨YQ a j,⟨.str _,H,I.tok _,⟨_,rfl⟩,q⟩⟩
def slS(fe:Dd)(fl fh:DF->Option (Option Int)):DF->Option D:=λa=>match fe a with
 |some (.str x)=>if x.length<=16777216 then(fl a).bind λl=>(fh a).map λh=>.str (Txt.slice x l h)else none
 |_=>none
def dZ(he:PDR X e fe)(o:PDB X lo fl)(p:PDB X hi fh):PDE X (.Subscript e (.Slice lo hi none p2) pos) (slS fe fl fh):=(yQ Ej he o p).imp λB H Q=>un7 λP F a d q I k=>by
 unfold slS at q;split at q
 ·rename_i x j;split at q
  rotate_left
  ·cases q
  rename_i m;cases c:fl a with
  |none=>rw[c]at q;cases q
  |some l=>
  rw[c,Ya]at q;cases b:fh a with
  |none=>rw[b]at q;cases q
  |some h=>
  rw[b]at q;cases q;refine⟨P,F,a,_,j,I,λy A E f i=>⟨P,A,a,l,c,I.evo f,λz C g=>⟨P,z,a,h,b,(I.evo f).evo g,λw u s=>?_⟩⟩⟩;exact⟨x,jH i,by rw[YL];exact m,k _ w u ((f.trans g).trans s) .str⟩
 ·cases q
def z_(K:Kq):R2:=λx y H Q=>∃a b c e,x=.ref a/\y=.ref b/\SqT K H a c/\SqT K H b e/\c.length+e.length<=sizeLine /\
 (c=[]->Q (.ref b) H)/\(c≠[]->e=[]->Q (.ref a) H)/\(c≠[]->e≠[]->∀p,H p=none->Q (.ref p) (upd H p (.tup (c++e))))
def sL:OpR X (binaryOp .Add) (z_ X.K):=by
 intro U s M H x y v u Q I w q h;obtain⟨a,b,p,N,rfl,rfl,E,C,hz,T,S,R⟩:=h;by_cases e:p=[]
 ·cases w;cases q;obtain⟨c,P,Z,_⟩:=I.tuple E;obtain⟨i,r2,Y,_⟩:=I.tuple C;have hi:c=[]:=P.nil_iff.mpr e;obtain⟨⟨cls,dd,J,O⟩,z,B,n,A⟩:=id Z;obtain⟨⟨L,m,o,l⟩,f,j,n2,g⟩:=id Y;simp only at B A j g;subst B A j g;exact concat_meets ⟨_,z,rfl⟩ ⟨_,f,rfl⟩ noFill_tuple_add seq_tuple_add PySem.F.slot_tuple_add PySem.F.entry_tuple_add (PySem.F.args_tuple_add_2 _ _)
   (tuple_addW0 a b c.toArray i.toArray n n2 dd m O l (by simp[hi])) ⟨z,f,⟨.ref b,H,I,rfl,T e⟩⟩
 ·exact BQ U s M H _ _ v u Q I w q ⟨a,b,p,N,rfl,rfl,E,C,e,hz,S e,R e⟩
def ap:D->D->Option D
 |.int i,.int j=>some (.int (i+j))
 |.str x,.str y=>if x.length+y.length<=16777216 then some (.str (x++y))else none
 |.lst xs,.lst ys=>if xs.length+ys.length<=16777216 then some (.lst (xs++ys))else none
 |.tup xs,.tup ys=>if xs.length+ys.length<=16777216 then some (.tup (xs++ys))else none
 |_,_=>none
def Reps.nil_iff(r:Reps K H vs ds):vs=[]↔ds=[]:=by
 cases r with
 |nil=>simp
 |cons _ _=>simp
def wA:mT K (λx y H Q=>Ga x y H Q\/(DQ K x y H Q\/z_ K x y H Q)) ap:=by
 intro P F H E C x y L J d Q a I g f k;unfold ap at a;split at a
 ·cases a;exact .inl (.inl ⟨_,_,eB g,eB f,k _ F H (Evo.refl I.toDHp) .int⟩)
 ·split at a
  ·rename_i h;cases a;exact .inl (.inr ⟨_,_,jH g,jH f,by rw[YL];exact h,k _ F H (Evo.refl I.toDHp) .str⟩)
  ·cases a
 ·split at a
  ·rename_i o;cases a;obtain⟨l,j,rfl,s,e⟩:=gL I g;obtain⟨m,b,rfl,q,c⟩:=gL I f;exact .inr (.inl ⟨l,m,j,b,rfl,rfl,s,q,by rw[e.length,c.length,YL];exact o,λp i=>k _ _ _ (Evo.laid I.toDHp i) (.lst (SqL.of aC) ((e.append c).same (eV (I.toDHp.free i).1)))⟩)
  ·cases a
 ·split at a
  ·rename_i B A o;cases a;obtain⟨l,j,rfl,s,e⟩:=j6 I g;obtain⟨m,b,rfl,q,c⟩:=j6 I f;have u:∀{y:V}{w:List D},RepS K H F y (.tup w)->Rep K F y (.tup w):=λh=>by
    rcases h with h|⟨_,ob,_,_,_,_,_,hfl,z⟩
    ·exact h
    ·cases ob<;>first|(cases z;done)|cases hfl
   refine .inr (.inr ⟨l,m,j,b,rfl,rfl,s,q,by rw[e.length,c.length,YL];exact o,λz=>?_,λ_ z=>?_,λ_ _ p i=>?_⟩)
   ·have:B=[]:=e.nil_iff.mp z;subst this;exact k _ F H (Evo.refl I.toDHp) (u f)
   ·have:A=[]:=c.nil_iff.mp z;subst this;rw[Yg]at k;exact k _ F H (Evo.refl I.toDHp) (u g)
   ·exact k _ _ _ (Evo.laid I.toDHp i) (.tup aC ((e.append c).same (eV (I.toDHp.free i).1)))
  ·cases a
 ·cases a
def aD(c:PDR X a fa)(h:PDR X b fb):PDE X (.BinOp a .Add b pos) (d2 ap fa fb):=jm ((zC.or nM).or (wq.or sL)) wA c h
def isT:String->D->Option Bool
 | "int",.int _=>some true
 | "bool",.int _=>some false
 | "bool",.bl _=>some true
 | "str",.str _=>some true
 | "list",.lst _=>some true
 | "tuple",.tup _=>some true
 |_,_=>none
def Iy(K:Kq):List V->Hp->VK->Prop:=λa H Q=>∃x T d b,a=[x,.ty T]/\Rep K H x d/\isT T d=some b/\Q (.bl b) H
def AZ:CallR X (.builtin "isinstance") (Iy X.K):=by
 intro p s j H z A Q I r h;obtain⟨x,T,d,b,rfl,m,g,q⟩:=h;obtain⟨u,w,rfl,a,l⟩:=oR r;cases(show w=Value.type T from l);have f:EP X p j Q (.bool b) s:=⟨.bl b,H,I,rfl,q⟩
 have y:EP X p j Q (.bool b) {s with toks:=s.toks+1}:=⟨.bl b,H,I.tok _,rfl,q⟩
 unfold isT at g;split at g<;>cases g<;>cases m
 ·obtain⟨t,rfl⟩:=(show ∃t,u=Value.int _ t from a);exact PySem.IsiPair.int_int f
 ·obtain⟨t,rfl⟩:=(show ∃t,u=Value.int _ t from a);exact PySem.IsiPair.int_bool y
 ·cases(show u=Value.bool _ from a);exact PySem.IsiPair.bool_bool f
 ·obtain⟨t,rfl⟩:=(show ∃t,u=Value.str _ t from a);exact PySem.IsiPair.str_str f
 ·cases(show u=Value.ref _ from a);rename_i i _;obtain⟨_,_,⟨o,n,e,c,_⟩,_⟩:=I.list i;exact PySem.IsiPair.list_list e c f
 ·cases(show u=Value.ref _ from a);rename_i i _;obtain⟨_,_,⟨o,e,c,_⟩,_⟩:=I.tuple (SqT.of i);exact PySem.IsiPair.tuple_tuple e c f
def ko(T:String)(d:D):Option D:=(isT T d).map .bl
def ji{T:String}(w:Gl X "isinstance")(u:X.mg "isinstance"=none)(i:Gl X x)(g:X.mg x=none)(hv:bootBuiltins x=some (.type T))(z:PDN X a fa)(s:x ≠ "__name__":=by decide)(hd:nDb x:=by decide)
  (m:starEach [a,.Name x p1] X.env=[(false,eval a X.env),(false,eval (.Name x p1) X.env)]:=by rfl) (c:starEach [.Name x p1] X.env=[(false,eval (.Name x p1) X.env)]:=by rfl) (f:(backTo pos (starEach [.Name x p1] X.env)).any (·.1)=false:=by rfl) :
  PDE X (.Call (.Name "isinstance" p) [a,.Name x p1] [] pos) (d1 (ko T) fa):=
 (df AZ w u cX (aI z (aI (vT (v:=.ty T) i g hv rfl s hd) a_ c) (by rw[m,c])) (by decide) (by decide) (by rw[m,c]) f).imp λE H Q=>un7 λP F l d h I k=>by
  unfold d1 ko at h;cases q:fa l with
  |none=>rw[q]at h;cases h
  |some j=>
   rw[q,Ya]at h;cases e:isT T j with
   |none=>rw[e]at h;cases h
   |some b=>
    rw[e]at h;cases h;exact⟨P,F,l,j,q,I,λy C B A o=>⟨y,T,j,b,rfl,o,e,k _ C B A .bl⟩⟩
end
def sr(I:Inv X pz σ H s){a:Addr}{xs:List V}(h1:SqT X.K H a xs)(h2:SqL X.K H a ys):False:=by obtain⟨_,_,⟨o,e,c,_⟩,_⟩:=I.tuple h1;obtain⟨_,_,⟨g,n,b,f,_⟩,_⟩:=I.list h2;rw[e]at b;cases b;rw[c]at f;injection f with z;exact absurd z (by decide)
def Reps.detOf{n:Nat}(ih:∀{v:V}{d d':D},okN n d=true->okN n d'=true->Rep X.K H v d->Rep X.K H v d'->d=d')(h:Reps X.K H vs ds):∀b:List D,(∀d∈ds,okN n d=true)->(∀d∈b,okN n d=true)->Reps X.K H vs b->ds=b:=
 Reps.ind (M:=λvs ds=>∀b:List D,(∀d∈ds,okN n d=true)->(∀d∈b,okN n d=true)->Reps X.K H vs b->ds=b) (λb _ _ r=>by cases r;rfl) (λa _ i b h c r=>by
  cases r with
  |cons f e=>rw[ih (h _ Yf) (c _ Yf) a f,i _ (λd m=>h d (Ye _ m)) (λd m=>c d (Ye _ m)) e]) h
def Rep.det1(I:Inv X pz σ H s)(n:Nat)(ih:∀m,n=m+1->∀{v:V}{d d':D},okN m d=true->okN m d'=true->Rep X.K H v d->Rep X.K H v d'->d=d'){v:V}{d:D}(h:okN n d=true)(h':okN n d'=true)(q:Rep X.K H v d)(r:Rep X.K H v d'):d=d':=by
 cases q with
 |non=>cases r;rfl
 |bl=>cases r;rfl
 |int=>cases r;rfl
 |str=>cases r;rfl
 |tup a1 a2=>
  cases r with
  |tup b1 b2=>
   rw[a1]at b1;cases b1;cases n with
   |zero=>cases h
   |succ n=>rw[Reps.detOf (ih n rfl) a2 _ (cz h) (cz h') b2]
  |lst b1 b2=>exact(sr I (SqT.of a1) b1).elim
  |dT b1 b2=>rw[a1]at b1;cases b1
  |dK b1 b2=>rw[a1]at b1;cases b1
  |ins b1 b2=>rw[a1]at b1;cases b1
  |fn b=>cases n<;>cases h'
  |exn b=>cases n<;>cases h'
 |lst a1 a2=>
  cases r with
  |tup b1 b2=>exact(sr I (SqT.of b1) a1).elim
  |lst b1 b2=>
   have e:=I.list_inj a1 b1;subst e;cases n with
   |zero=>cases h
   |succ n=>rw[Reps.detOf (ih n rfl) a2 _ (cz h) (cz h') b2]
  |_=>cases n<;>cases h'
 |_=>cases n<;>cases h
def Rep.det(I:Inv X pz σ H s)(n:Nat):∀{v:V}{d d':D},okN n d=true->okN n d'=true->Rep X.K H v d->Rep X.K H v d'->d=d':=by
 induction n with
 |zero=>exact λh a q r=>Rep.det1 I 0 (λm e=>by cases e) h a q r
 |succ n ih=>exact λh a q r=>Rep.det1 I (n+1) (λm e=>by cases e;exact ih) h a q r
def Ae{v a:V}(h:RelV v u)(h':RelV a u):v=a:=RelV.inj h h'
open Classical in
noncomputable def yV (us:List Value)(ds:List D)(dy:D)(u:Value):Bool:=decide (∃(i:Nat) (d:D),us[i]?=some u/\ds[i]?=some d/\eqd d dy=true)
open Classical in
def vv(I:Inv X pz σ H s){n:Nat}(r:Reps X.K H vs ds)(a:Vals vs us)(ok:∀d∈ds,okN n d=true){d:D}(h:us[i]?=some u)(hd:ds[i]?=some d):yV us ds dy u=eqd d dy:=by
 unfold yV;cases q:eqd d dy with
 |true=>exact YA ⟨i,d,h,hd,q⟩
 |false=>
  refine Yn ?_;rintro⟨j,m,l,b,g⟩;obtain⟨v,x,w⟩:=r.get hd;obtain⟨y,b1,b2⟩:=r.get b;obtain⟨A,f,p⟩:=a.get x;obtain⟨z,c,o⟩:=a.get b1;rw[h]at f;cases f;rw[l]at c;cases c;have e:=Ae p o;subst e;have:=w.det I n (ok d (Zo hd)) (ok m (Zo b)) b2;rw[this,g]at q;cases q
theorem AC(I:Inv X pz σ H s){y:V}{e:Value}(r:Reps X.K H vs ds)(a:Vals vs us)(ok:∀d∈ds,okN 29 d=true)(q:Rep X.K H y dy)(o:okN 30 dy=true)(C:RelV y e)(O:A.units+60<cLine) :
  ∀u∈us,SeqAt.EqAt A s u e (yV us ds dy u):=λu c=>by
 obtain⟨i,g,j⟩:=XX c;have N:=r.length;have M:=a.length;have h:i<vs.length:=by omega
 obtain⟨J,p,E⟩:=a.get (Yz h);rw[Yz g,j]at p;cases p;obtain⟨d,m,w⟩:=r.getV (Yz h);rw[vv I r a ok (by rw[Yz g,j]) m];have f:=ok d (Zo m);obtain⟨Q,z⟩:=w.reads I 29 f E;obtain⟨P,x⟩:=q.reads I 30 o C;obtain⟨b,B⟩:=eE 29 d f;obtain⟨l,L⟩:=eE 30 dy o;refine PySem.SeqAt.eqAt_reads _ _ A s _ _ _ _ z x b l ?_;have:min (dF d).depth (dF dy).depth<=30:=YQ (Nat.min_le_left _ _) B;omega
def rR(dy:D):List D->Option Nat
 |[]=>none
 |d::r=>if eqd d dy=true then some 0 else(rR dy r).map (· + 1)
theorem pB:∀{ds:List D}{j:Nat},rR dy ds=some j->(∃d,ds[j]?=some d/\eqd d dy=true)/\∀m,m<j->∃d,ds[m]?=some d/\eqd d dy=false
 |[],_,h=>by cases h
 |d::r,j,h=>by
  unfold rR at h;split at h
  ·rename_i q;cases h;exact⟨⟨d,rfl,q⟩,λm b=>by omega⟩
  ·rename_i q;cases a:rR dy r with
   |none=>rw[a]at h;cases h
   |some k=>
    rw[a]at h;have h:=Yu h;have h:k+1=j:=h;subst h;obtain⟨e,c⟩:=pB a;refine⟨by simpa using e,λm b=>?_⟩;cases m with
    |zero=>exact⟨d,rfl,by simpa using q⟩
    |succ m=>simpa using c m (by omega)
section
variable  {c:Expr}   
end
section
variable  {c l:Expr}   
def g9{i:Int}{t:Tok}(a:Gl X x)(h:X.mg x=some (.int i t))(hd:nDb x:=by decide):PDE X (.Name x pos) (λ_=>some (.int i)):=ud (mh a h (v:=.int i) ⟨t,rfl⟩ hd) λ_=>.int
def xU:D->D->Option D
 |.int i,.int j=>some (.int (if j > i then j else i))
 |_,_=>none
def wH:D->D->Option D
 |.int i,.int j=>some (.int (if j<i then j else i))
 |_,_=>none
def yE{r:List V->Hp->VK->Prop}{f:Dy}(a:OpN2 K (λx y=>r [x,y]) f):∀σ H Q,tD K (d2 f fa fb) σ H Q->tCB r (mL (tN K fa) (mL (tN K fb) oq)) σ H Q:=λσ H Q h=>um a σ H Q h
def Fd:OpN2 K (λx y H Q=>∃i j,[x,y]=[V.int i,.int j]/\Q (.int (if j > i then j else i)) H) xU:=by
 intro P F H x y f e d Q h c b a k;unfold xU at h;split at h
 ·cases h;cases b;cases a;exact⟨_,_,rfl,k _ F H (Evo.refl c) .int⟩
 ·cases h
def En:OpN2 K (λx y H Q=>∃i j,[x,y]=[V.int i,.int j]/\Q (.int (if j<i then j else i)) H) wH:=by
 intro P F H x y f e d Q h c b a k;unfold wH at h;split at h
 ·cases h;cases b;cases a;exact⟨_,_,rfl,k _ F H (Evo.refl c) .int⟩
 ·cases h
def DA(i:X.calm=true)(g:Gl X "max")(f:X.mg "max"=none)(l:PDN X a fa)(j:PDN X b fb)(e:starEach [a,b] X.env=[(false,eval a X.env),(false,eval b X.env)]:=by rfl)(h:starEach [b] X.env=[(false,eval b X.env)]:=by rfl)(c:(backTo pos (starEach [b] X.env)).any (·.1)=false:=by rfl) :
  PDE X (.Call (.Name "max" p) [a,b] [] pos) (d2 xU fa fb):=
 (df (wO i) g f AV (aI l (aI j a_ h) (by rw[e,h])) (by decide) (by decide) (by rw[e,h]) c).imp (yE Fd)
def BM(i:X.calm=true)(g:Gl X "min")(f:X.mg "min"=none)(l:PDN X a fa)(j:PDN X b fb)(e:starEach [a,b] X.env=[(false,eval a X.env),(false,eval b X.env)]:=by rfl)(h:starEach [b] X.env=[(false,eval b X.env)]:=by rfl)(c:(backTo pos (starEach [b] X.env)).any (·.1)=false:=by rfl) :
  PDE X (.Call (.Name "min" p) [a,b] [] pos) (d2 wH fa fb):=
 (df (xH i) g f zu (aI l (aI j a_ h) (by rw[e,h])) (by decide) (by decide) (by rw[e,h]) c).imp (yE En)
def p_:D->Bool
 |.bl _=>true
 |_=>false
def trD:D->Bool
 |.bl b=>b
 |_=>false
def xo:D->Option D
 |.lst ds=>if ds.all p_=true then some (.bl (ds.all trD))else none
 |_=>none
def HS(K:Kq):List V->Hp->VK->Prop:=λx H Q=>∃l b a,x=[.ref l]/\SqL K H l b/\Reps K H b a/\a.all p_=true/\Q (.bl (a.all trD)) H
def wY:(List.range ds.length).all (λi=>trD (ds.getD i .non))=ds.all trD:=by
 rw[Bool.eq_iff_iff,YH,YH];constructor
 ·intro h d b;obtain⟨i,a,e⟩:=XX b;have:=h i (Zz.mpr a);rw[YU,Yz a,e]at this;exact this
 ·intro h i a;have a:=Zz.mp a;rw[YU,Yz a];exact h _ (List.getElem_mem a)
theorem wI(N:X.calm=true):CallR X (.builtin "all") (HS X.K):=by
 intro pz s Y H Z us Q I r h;obtain⟨l,vs,g,rfl,M,y,O,q⟩:=h;obtain⟨u,rfl,J⟩:=iq r;cases J;obtain⟨a,x,L,hz⟩:=I.list M;have m:=L.isList;have l1:=y.length;have l2:=x.length;refine call_all_walk (wpAny_pyIter_list m ?_);have p:l<s.heap.objs.size:=by obtain⟨o,e,_⟩:=m;exact YD e
 refine⟨s.heap.objs.size,[s.heap.objs.size,l],[s.heap.objs.size],a.toArray.size,_,_,λi=>trD (g.getD i .non),rfl,Walks.list (by show X.A.in1.handled=none;exact I.ok.hd N) s.heap.objs.size l (YN p) a.toArray,⟨⟨_,YJ _ rfl,rfl,rfl⟩,m.at λo e=>Yx _ e⟩,λi v E U E' j c=>?_,λh' C k=>?_⟩
 ·have j:a[i]?=some v:=by simpa using j
  have hi:i<a.length:=(YI.mp j).1;have f:i<g.length:=by omega
  obtain⟨w',T,S⟩:=y.get (Yz f);obtain⟨u',B,R⟩:=x.get T;rw[j]at B;cases B;have w:=YH.mp O _ (List.getElem_mem f);have P:g.getD i .non=g[i]:=by rw[YU,Yz f];rfl
  have c:U (trD (g.getD i .non)) E:=c;rw[P]at c;generalize g[i]=d at *;cases d with
  |bl b=>cases S;cases(show v=Value.bool _ from R);exact Zi c
  |_=>cases w
 ·have e:a.toArray.size=g.length:=by rw[Yp];omega
  rw[e,wY];refine⟨.bl _,H,I.kept (t':=C) λb o e=>k b o (λz=>?_) (Yx _ e),rfl,q⟩;have z:b=s.heap.objs.size:=by simpa using z
  rw[z]at e;exact absurd (YD e) (Zn _)
def uW(j:X.calm=true)(i:Gl X "all")(g:X.mg "all"=none)(m:PDN X e fa)(b:starEach [e] X.env=[(false,eval e X.env)]:=by rfl)(a:(backTo pos (starEach [] X.env)).any (·.1)=false:=by rfl) :
  PDE X (.Call (.Name "all" p) [e] [] pos) (d1 xo fa):=
 (df (wI j) i g Ak (aI m a_ b) (by decide) (by decide) b a).imp (n5 λP F H x o d Q h f c k=>by
  cases o with
  |lst ds=>
   have h:(if ds.all p_=true then some (D.bl (ds.all trD))else none)=some d:=h;split at h
   ·rename_i l;cases h;cases c with|lst h1 h2=>exact⟨_,_,ds,rfl,h1,h2,l,k _ F H (Evo.refl f) .bl⟩
   ·cases h
  |_=>cases h)
def Its(x:Str):It:=⟨λi _=>i<x.cps.size,λi H v a=>a=H/\v=.str ⟨#[x.cps.getD i 0]⟩,λi _=>x.cps.size<=i⟩
def zM{P:Program}(it:Addr)(x:Str)(t:Tok)(ty:String)(C:["enumerate","zip","dict_itemiterator","dict_reverseitemiterator","odict_iterator","itertools.zip_longest","itertools.pairwise"].contains ty=false)(W:∀A:Around,A.handled=none->Walks P w A it [it] [it] x.cps.size (SignAt x) (λi h=>h.IsStrIter it ty x t i))
  (g:∀(A:Around) (i:Nat) (s:Shared) (Q:Kv) (E:Kv),s.heap.IsStrIter it ty x t i->Q (.ref it) s->wpAny (model P w) A (pyIter (.ref it)) Q E s):Turn P w K tg (Its x) [it] it (λi h=>h.IsStrIter it ty x t i/\i<=x.cps.size) where
 mem:=by simp
 obj:=λi h a b j=>by
  have e:b=it:=by simpa using j
  subst e;obtain⟨⟨o,e,c,d⟩,_⟩:=a;exact⟨o,e,λv z=>by rw[d]at z;cases z⟩
 keep:=λi h p a k=>by obtain⟨⟨o,e,r⟩,hl⟩:=a;exact⟨⟨o,k it (by simp) o e,r⟩,hl⟩
 item:=by
  intro X O B R N i pz s σ H E I m a f;subst O B R;obtain⟨Z,Y,f2,U,T,S⟩:=m it (by simp);have f:i<x.cps.size:=f;refine(W X.A (I.ok.hd N)).item i s _ _ f a.1 λv p q hv l y=>?_;obtain⟨c,u,M,rfl⟩:=hv;have I1:Inv X pz σ H {s with heap:=p,toks:=q}:=I.turned (λb o j e=>y b o (by simpa using j) e) Z Y U T S;obtain⟨o,ho,L,J⟩:=id l;have ec:x.cps.getD i 0=c:=by simp[Xf,M]
  refine⟨_,rfl,AL (s:={s with heap:=p,toks:=q}) (n:=ty) ho L J C ⟨.str ⟨#[c]⟩,H,I1,⟨u,rfl⟩,⟨rfl,by rw[ec]⟩,⟨l,f⟩,λb j=>(m b j).1⟩⟩
 done:=by intro X O B R N i pz s σ H E I m a f;subst O B R;obtain⟨Z,Y,f2,U,T,S⟩:=m it (by simp);have f:x.cps.size<=i:=f;have hi:i=x.cps.size:=Zk a.2 f;subst hi;exact(W X.A (I.ok.hd N)).done s _ _ a.1 λp q y=>⟨rfl,I.turned (λb o j e=>y b o (by simpa using j) e) Z Y U T S⟩
 self:=λA i s Q E a h=>g A i s Q E a.1 h
def Ij(tl:TE):TI:=λa H R=>tl a H λx b=>∃z,x=.str z/\R (Its z) b
def Fs{tl:TE}(C:PE X l tl):PI X tg l (Ij tl):=by
 intro u s p H R I h;refine bh (C u s p H _ I h) λv a x O m B g=>?_;obtain⟨z,e,q⟩:=g;subst e;obtain⟨t,rfl⟩:=B;have fin:∀(f:Obj) (ty:String),["enumerate","zip","dict_itemiterator","dict_reverseitemiterator","odict_iterator","itertools.zip_longest","itertools.pairwise"].contains ty=false->(∀A:Around,A.handled=none->Walks X.prog X.w A a.heap.objs.size [a.heap.objs.size] [a.heap.objs.size] z.cps.size (SignAt z) (λi h=>h.IsStrIter a.heap.objs.size ty z t i))->
   (∀(A:Around) (i:Nat) (s:Shared) (Q:Kv) (E:Kv),s.heap.IsStrIter a.heap.objs.size ty z t i->Q (.ref a.heap.objs.size) s->wpAny (model X.prog X.w) A (pyIter (.ref a.heap.objs.size)) Q E s)->
   (a.heap.push f).IsStrIter a.heap.objs.size ty z t 0->PIE X u p tg R (.ref a.heap.objs.size) {a with heap:=a.heap.push f}:=λf ty N M L K=>by
  refine⟨a.heap.objs.size,[a.heap.objs.size],_,_,O,rfl,m.kept (t':=a.toks) λb o e=>Yx _ e,zM _ z t ty N M L,⟨K,YS _⟩,λb J=>?_,q⟩;have e:b=a.heap.objs.size:=by simpa using J
  subst e;exact m.fpOk (Yy _) (m.hok.fresh (Yy _))
 cases y:z.cps.all (· < 128)
 ·exact wpAny_pyIter_wide y (fin _ "str_iterator" (by decide) (λP j=>Walks.strWide j _ z t) (λA i s Q E c h=>wpAny_pyIter_striter_wide c h) ⟨_,YJ _ rfl,rfl,rfl⟩)
 ·exact wpAny_pyIter_ascii y (fin _ "str_ascii_iterator" (by decide) (λP j=>Walks.strAscii j _ z t) (λA i s Q E c h=>wpAny_pyIter_striter_ascii c h) ⟨_,YJ _ rfl,rfl,rfl⟩)
def signs(x:Str):List D:=x.cps.toList.map λc=>.str ⟨#[c]⟩
def t8(f:Dd):DF->Option (List D):=λa=>match f a with
 |some (.str x)=>some (signs x)
 |_=>none
def DE(h:PDE X l fa):PDI X tg l (t8 fa):=PI.imp (Fs h) λC H R=>un7 λP F j E f I k=>by
 unfold t8 at f;split at f
 ·rename_i x q;cases f;refine⟨P,F,j,_,q,I,λv A z w m=>?_⟩;cases m;refine⟨x,rfl,k _ A z w λB K e p i=>⟨λd a=>?_,λg=>?_⟩⟩
  ·unfold signs at a;rw[YG]at a;cases b:x.cps.toList[i]? with
   |none=>rw[b]at a;cases a
   |some c=>
    rw[b]at a;cases a;have s:i<x.cps.size:=by have:=(YI.mp b).1;simpa using this
    refine⟨s,λy J o=>?_⟩;obtain⟨rfl,rfl⟩:=o;have u:x.cps.getD i 0=c:=by
     have:x.cps[i]?=some c:=by rw[<-Array.getElem?_toList];exact b
     simp[Xf,this]
    rw[u];exact⟨B,Evo.refl p,.str⟩
  ·unfold signs at g;rw[Yc,Zy]at g;exact g
 ·cases f
def zl:D->Bool
 |.str _=>true
 |_=>false
def txt:D->Str
 |.str x=>x
 |_=>⟨#[]⟩
def iQ(x:Str)(ds:List D):Bool:=ds.all zl&&decide (((ds.map txt).map (·.length)).sum+(ds.map txt).length*x.length<=16777216)
def mX:D->D->Option D
 |.str x,.lst ds=>if iQ x ds=true then some (.str (Txt.join x (ds.map txt)))else none
 |_,_=>none
def G_(K:Kq):V->List V->Hp->VK->Prop:=λx c H Q=>∃z l b a,x=.str z/\c=[.ref l]/\SqL K H l b/\Reps K H b a/\iQ z a=true/\Q (.str (Txt.join z (a.map txt))) H
def AQ(h:Reps K H vs ds):Vals vs us->ds.all zl=true->StrsAre us (ds.map txt):=
 Reps.ind (M:=λvs ds=>∀us:List Value,Vals vs us->ds.all zl=true->StrsAre us (ds.map txt)) (λus r _=>by cases r;exact .nil) (λ{v d vs ds} h _ ih us b a=>by
  cases b with
  |cons r t=>
   rw[List.all_cons,Ys]at a;cases d with
   |str x=>
    cases h;obtain⟨c,rfl⟩:=(show ∃t,_=Value.str _ t from r)
    exact .cons _ _ (ih _ t a.2)
   |_=>cases a.1) h us
def Bf:MtR X "str.join" (G_ X.K):=by intro y s g H x m v o Q I b a h;obtain⟨z,l,j,B,rfl,rfl,f,r,ok,q⟩:=h;obtain⟨t,rfl⟩:=b;obtain⟨u,rfl,e⟩:=a.one;cases e;obtain⟨i,c,p,A⟩:=I.list f;unfold iQ at ok;rw[Ys,YE]at ok;exact join_list p.isList (AQ r (by simpa using c) ok.1) ok.2 λw k=>⟨.str _,H,I.tok _,⟨_,rfl⟩,q⟩
def vG(q:PDN X o fa)(c:PDN X e fb)(b:attributeBase o "join" X.env (eval o X.env)=eval o X.env:=by rfl)
  (f:((backTo cpos (starEach [e] X.env)).all (λx=>!x.1)&&(backToKw cpos (keywordEach [] X.env)).all (λx=>x.1.isSome)
   && decide (([e]:List Expr).length+([]:List Keyword).length+(if([]:List Keyword).isEmpty then 0 else 1)<30))=true:=by rfl)
  (a:(apos.endLine == cpos.line)=true:=by rfl) (j:starEach [e] X.env=[(false,eval e X.env)]:=by rfl) :
  PDE X (.Call (.Attribute o "join" apos) [e] [] cpos) (d2 mX fa fb):=
 (jR PySem.F.plainAttrs_str PySem.F.slot_str_join PySem.F.type_str_join Bf q (aI c a_ j) b f a j rfl).imp λC H Q=>un7 λP F g d h I k=>by
  unfold d2 at h;cases c:fa g with
  |none=>rw[c]at h;cases h
  |some w=>
   cases i:fb g with
   |none=>rw[c,Ya,i]at h;cases h
   |some u=>
    rw[c,Ya,i,Ya]at h;cases w with
    |str x=>
     cases u with
     |lst ds=>
      have h:(if iQ x ds=true then some (D.str (Txt.join x (ds.map txt)))else none)=some d:=h;split at h
      ·rename_i ok;cases h;refine⟨P,F,g,_,c,I,λv B E l p=>?_⟩;cases p;refine⟨rfl,P,B,g,_,i,I.evo l,λy A z s m=>?_⟩;cases m with
       |lst h1 h2=>exact⟨x,_,_,ds,rfl,rfl,h1,h2,ok,k _ A z (l.trans s) .str⟩
      ·cases h
     |_=>cases h
    |_=>cases h
end
section
variable  {c l r:Expr}  {apos' cpos':Pos}{f:Dd}
def rP(i:Nat)(g:Dl):DF->Option RES:=λa=>match a[i]? with
 |some (some (.own (.lst ds) t))=>(g a).bind λe=>if ds.length+e.length<=16777216 then some (.nx (a.set i (some (.own (.lst (ds++e)) t))))else none
 |_=>none
def kL(i:Nat){g:Dl}(h:PE X o (cf i))(T:PDO X e (asL g))(j:attributeBase o "extend" X.env (eval o X.env)=eval o X.env:=by rfl)
  (m:((backTo cpos (starEach [e] X.env)).all (λx=>!x.1)&&(backToKw cpos (keywordEach [] X.env)).all (λx=>x.1.isSome)
   && decide (([e]:List Expr).length+([]:List Keyword).length+(if([]:List Keyword).isEmpty then 0 else 1)<30))=true:=by rfl)
  (f:(apos.endLine == cpos.line)=true:=by rfl) (B:starEach [e] X.env=[(false,eval e X.env)]:=by rfl) (y:swapsWith (.Call (.Attribute o "extend" apos) [e] [] cpos) none pos.line X.env=pure false:=by rfl) :
  PD1 X (.Expr (.Call (.Attribute o "extend" apos) [e] [] cpos) pos) (rP i g):=
 PS.imp (c9 (jR YW Xs PySem.F.type_list_extend o3 h (aI T a_ B) j m f B rfl) y) λE N H=>un7 λP F z r c I k=>by
  unfold rP at c;split at c
  ·rename_i ds t q;cases w:g z with
   |none=>rw[w]at c;cases c
   |some p=>
    rw[w,Ya]at c;split at c
    ·rename_i S;cases c;obtain⟨a,A,L,U,h3,J,C⟩:=jr I q;refine⟨_,L,.inl ⟨rfl,A,SqL.of J⟩,P,F,z,.lst p,by unfold asL;rw[w];rfl,I,λb M H1 s R=>?_⟩;obtain⟨⟨n1,n2⟩,u,O,l⟩:=R;cases u with
     |lst ws=>
      have l:Reps X.K M ws p:=l;obtain⟨Q,Z⟩:=s.keep a _ J U;have Y:=I.evo s;refine⟨a,b,A,ws,rfl,rfl,Q,O,by rw[YL,C.length,l.length];exact S,k N M _ s.ext ?_⟩;exact Y.mut (o':=.lst _) (u:=.lst _) q rfl rfl L ((C.same s.ext).append l)
     |_=>exact l.elim
    ·cases c
  ·cases c
end
def w6{k k':Key}{v:V}{vs:List (Key×V)}:d7 ((k',v)::vs) k=if k'=k then some v else d7 vs k:=by unfold d7;by_cases q:k'=k<;>simp[Zh,q]
def RepsK.val{k:Key}{vs:List (Key×V)}{ds:List (Key×D)}(h:RepsK K H vs ds):(d7 vs k=none/\dn ds k=none)\/∃v d,d7 vs k=some v/\dn ds k=some d/\Rep K H v d:=
 RepsK.ind (M:=λvs ds=>(d7 vs k=none/\dn ds k=none)\/∃v d,d7 vs k=some v/\dn ds k=some d/\Rep K H v d) (.inl ⟨rfl,rfl⟩) (λ{a v d vs ds} h _ ih=>by
  rw[w6,kH];by_cases q:a=k
  ·rw[Yi q,Yi q];exact .inr ⟨v,d,rfl,rfl,h⟩
  ·rw[Yr q,Yr q];exact ih) h
def RepsK.any{k:Key}{vs:List (Key×V)}{ds:List (Key×D)}(h:RepsK K H vs ds):(vs.any λa=>decide (a.1=k))=ds.any λa=>decide (a.1=k):=
 RepsK.ind (M:=λvs ds=>(vs.any λa=>decide (a.1=k))=ds.any λa=>decide (a.1=k)) rfl (λ_ _ ih=>by rw[Xk,Xk,ih]) h
def RepsK.map{k:Key}{v:V}{d:D}(f:Rep K H v d){vs:List (Key×V)}{ds:List (Key×D)}(h:RepsK K H vs ds):RepsK K H (vs.map λa=>if a.1=k then(a.1,v)else a) (ds.map λa=>if a.1=k then(a.1,d)else a):=
 RepsK.ind (M:=λvs ds=>RepsK K H (vs.map λa=>if a.1=k then(a.1,v)else a) (ds.map λa=>if a.1=k then(a.1,d)else a)) .nil (λ{b c e vs ds} h _ ih=>by
  rw[YC,YC];by_cases q:b=k
  ·rw[Yi (show(b,c).1=k from q),Yi (show(b,e).1=k from q)];exact .cons f ih
  ·rw[Yr (show ¬(b,c).1=k from q),Yr (show ¬(b,e).1=k from q)];exact .cons h ih) h
def RepsK.snoc{k:Key}{v:V}{d:D}(a:Rep K H v d){vs:List (Key×V)}{ds:List (Key×D)}(h:RepsK K H vs ds):RepsK K H (vs++[(k,v)]) (ds++[(k,d)]):=
 RepsK.ind (M:=λvs ds=>RepsK K H (vs++[(k,v)]) (ds++[(k,d)])) (.cons a .nil) (λh _ ih=>.cons h ih) h
def RepsK.put{k:Key}{v:V}{d:D}{vs:List (Key×V)}{ds:List (Key×D)}(a:Rep K H v d)(r:RepsK K H vs ds):RepsK K H (fH vs k v) (ir ds k d):=by
 unfold fH ir;rw[r.any (k:=k)];split
 ·exact r.map a
 ·exact r.snoc a
def RepsK.length{vs:List (Key×V)}{ds:List (Key×D)}(h:RepsK K H vs ds):vs.length=ds.length:=RepsK.ind (M:=λvs ds=>vs.length=ds.length) rfl (λ_ _ ih=>YM Nat.succ ih) h
def vI{F:Hp}{y:V}{k:Key}(r:Rep K F y dy)(h:kW dy=some k):y=kV k:=by
 cases dy with
 |int i=>cases h;cases r;rfl
 |str i=>cases h;cases r;rfl
 |_=>cases h
def qt{F:Hp}{x:V}{ds:List (Key×D)}(I:DInv K P F H ρ σ)(r:RepS K H F x (.dK ds)):∃a vs,x=.ref a/\H a=some (.dK vs)/\RepsK K F vs ds:=by
 rcases r with r|⟨a,o,u,rfl,_,h3,h4,hfl,z⟩
 ·cases r with|dK h q=>exact⟨_,_,rfl,I.sub _ _ h,q⟩
 ·cases o with
  |dK ds'=>
   cases z;cases u with
   |dK vs=>exact⟨a,vs,rfl,h3,h4⟩
   |_=>exact h4.elim
  |lst2 _=>cases hfl
  |tup2 _=>cases hfl
  |obj _ _=>cases hfl
  |_=>cases z
section
variable  {c i f:Expr}  {fd fk:Dd}
def fG:D->D->Option D
 |.dK kvs,y=>(kW y).bind λk=>dn kvs k
 |_,_=>none
def ki(U:X.A.units+64<cLine)(E:PDR X o fd)(hi:PDE X i fk)(C:qZ i:=by exact λ_ _=>rfl):PDE X (.Subscript o i pos) (d2 fG fd fk):=(iV (by omega) E hi C).imp λS H Q=>un7 λP F b d a I k=>by
 unfold d2 at a;cases c:fd b with
 |none=>rw[c]at a;cases a
 |some M=>
 cases f:fk b with
 |none=>rw[c,Ya,f]at a;cases a
 |some m=>
 rw[c,Ya,f,Ya]at a;cases M with
 |dK kvs=>
  have h:((kW m).bind λk=>dn kvs k)=some d:=a;cases e:kW m with
  |none=>rw[e]at h;cases h
  |some l=>
   rw[e,Ya]at h;refine⟨P,F,b,_,c,I,λx R Z j B=>⟨P,R,b,_,f,I.evo j,λy O N g w=>?_⟩⟩;obtain⟨q,T,rfl,K,J⟩:=qt ((I.evo j).evo g) (B.evo g);have L:=vI w e;subst L;rcases J.val (k:=l)with⟨_,z⟩|⟨v,Y,u,s,p⟩
   ·rw[z]at h;cases h
   ·rw[s]at h;cases h;exact⟨q,v,rfl,by have:=DGet.k (k:=l) K;rw[u]at this;exact this,k v O N (j.trans g) p⟩
 |_=>cases a
def pO:PDO X (.Dict [] [] pos) (λ_=>some (.dK [])):=An.imp λb H Q=>un7 λP F c o a I k=>by
 cases a;exact λp h=>k p F _ (Evo.side I.toDHp h) ⟨⟨h,(I.toDHp.free h).1⟩,_,aC,.nil⟩
end
theorem Room.h64{k:Nat}(r:Room k A):A.units+64<cLine:=by have:=r.un;omega
def Ch(sc0 scope:Scope):Bool:=scope.kind == .function&&(scope.names.map (·.1)).Nodup&&(scope.names.all λx=>x.2 != .free||(sc0.names.lookup x.1 == some .cell||sc0.names.lookup x.1 == some .free))
def Gk(s:Scope)(e:X.env.scope=s)(h:Ch s scope=true):BlkScope X scope:=by
 unfold Ch at h;simp only[Ys,YE]at h;obtain⟨⟨g,f⟩,c⟩:=h;refine⟨by simpa using g,f,λx a b=>?_⟩;have:=YH.mp c x a;rw[b]at this;have i:X.env.kindOf x.1=s.names.lookup x.1:=by show X.env.scope.names.lookup x.1=_;rw[e]
 rw[i];simpa using this
def Bw(a:List Str)(scope:Scope)(N:List Str)(own:Nat)(ix:List Nat):Bool:=
 decide (N.length=own+ix.length)&&(List.range ix.length).all λi=>match N[own+i]?,ix[i]? with
  |some x,some j=>a[j]? == some x&&scope.names.lookup x == some .free
  |_,_=>true
def G4{own:Nat}(b:List Str)(e:X.N=b)(h:Bw b scope N own ix=true):Caps X scope N own ix:=by unfold Bw at h;rw[Ys,YE]at h;refine⟨h.1,λi j x f a=>?_⟩;have c:i<ix.length:=(YI.mp a).1;have:=YH.mp h.2 i (Zz.mpr c);rw[f,a]at this;simp only[Ys,ZJ]at this;rw[e];exact this
def pk:xR X [] (tB' X.K iI):=λp s a H Q I h=>by
 obtain⟨P,F,e,b,c,J,k⟩:=h;cases c;exact zn p s a H Q I (k F H (Evo.refl J.toDHp))
def EO{own:Nat}(h:(is.all λj=>decide (j<own))=true):∀j∈is,j<own:=λj m=>YV (YH.mp h j m)
section
variable       {own:Nat}  {f:Dl}{st:Dq}  {e:Dd}
end
def Hc(n p:Nat)(g:Dw)(o:OD)(xs:List DV)(q:OD×D):Prop:=xs.length+1=p/\q.1.flat=true/\∀a,∃r,g (bB n p (.own o (some a)::xs))=some r/\k9 a q.1 q.2 r
noncomputable def uj (n p:Nat)(g:Dw)(o:OD)(xs:List DV):Option (OD×D):=
 open Classical in if h:∃q,Hc n p g o xs q then some h.choose else none
def CV{n p:Nat} :∀a o xs o' d,uj n p g o xs=some (o',d)->xs.length+1=p/\o'.flat=true/\∃r,g (bB n p (.own o (some a)::xs))=some r/\k9 a o' d r:=by
 intro a o xs o' d h;unfold uj at h;split at h
 ·rename_i e;obtain⟨f,c,b⟩:=e.choose_spec;rw[Yu h]at c b;exact⟨f,c,b a⟩
 ·cases h
def pJ{a:Addr}{o:OD}{d:D}{r:RES}(h:k9 a o d r)(h':k9 a o' d' r):(o,d)=(o',d'):=by
 cases r with
 |nx ρ=>obtain⟨f,e⟩:=h;obtain⟨b,c⟩:=h';rw[f]at b;cases b;rw[e,c]
 |rt x ρ=>obtain⟨f,e⟩:=h;obtain⟨b,c⟩:=h';rw[e]at c;cases c;rw[f]at b;cases b;rfl
 |bk ρ=>cases h
 |ct ρ=>cases h
def wd{n p:Nat}{o:OD}{d:D}(f:xs.length+1=p)(i:o'.flat=true)(h:∀a,∃r,g (bB n p (.own o (some a)::xs))=some r/\k9 a o' d r):uj n p g o xs=some (o',d):=by
 have b:∃q,Hc n p g o xs q:=⟨(o',d),f,i,h⟩
 unfold uj;rw[dif_pos b];obtain⟨_,_,j⟩:=b.choose_spec;obtain⟨r,e,q⟩:=j 0;obtain⟨m,l,c⟩:=h 0;rw[l]at e;cases e;exact YM some (pJ q c)
end L2
namespace L2
open PySem PySem.Spec PySem.Calls PySem.W PyProof.Rows Builtin Builtin.ObjectAttr Builtin.Getset_descriptor
def ExAt(e C:Addr)(h:Heap):Prop:=∃o,h.get? e=some o/\o.cls=.ref C
def ExAt.type{M:Model}{e:Addr}{h:Heap}(x:ExAt e C h):Looks M h (typeOf (.ref e)) (.ref C):=by obtain⟨o,b,a⟩:=x;exact a ▸ (Looks.ld b).andThen .now
structure ExC (K:PySem.W.Frag) (C:Addr):Prop where
 ga:findIn K (.ref C) "__getattribute__"=some (some (.builtin "BaseException.__getattribute__"))
 noga:findIn K (.ref C) "__getattr__"=some none
 ha:findIn K (.ref C) "__class__"=some (some (.builtin "object.__class__"))
 hn:specialIn K (.builtin "object.__class__") "__get__"=some (some (.builtin "getset_descriptor.__get__"))
 htk:takesIn K (.builtin "object.__class__")=some true
 hm:mroIn K C (.type "object")=some true
 hb:mroIn K C (.type "BaseException")=some true
section
variable  {e:Addr}     
def Cq{M:Model}{h:Heap}(X:K.In h)(x:ExC K C):Looks M h (find (.ref e) (.ref C) "__class__") (.bind (.builtin "getset_descriptor.__get__") (.builtin "object.__class__")):=by have b:=looks_findIn (M:=M) X x.ha;have a:Looks M h (getOf (some (.builtin "object.__class__"))) (some (.builtin "getset_descriptor.__get__")):=looks_specialIn X x.hn;have L:=looks_takesIn (M:=M) X x.htk;refine b.andThen (a.andThen ?_);exact(show Looks M h (dataDescriptor? (some (.builtin "object.__class__")) (some (.builtin "getset_descriptor.__get__"))) (some (.builtin "getset_descriptor.__get__",.builtin "object.__class__"))from L.andThen .now).andThen (Looks.tag .now)
theorem E_{R:Kr}{a:Value}(X:K.In s.heap)(x:ExC K C)(I:ExAt e C s.heap)(h:R (.ok (.ret (.ref C))) s) :
  codeAny (model prog w) A (.call (.builtin "getset_descriptor.__get__") ⟨[.builtin "object.__class__",.ref e,a],[]⟩) R s:=by
 obtain⟨c,g,f,t,o⟩:=s;have i:=I.type (M:=model prog w);have L:=looks_mroIn (M:=model prog w) X x.hm;refine codeAny_call_builtin KF.slot_gs.plain KF.entry_gs ?_;refine KF.slot_gs.check _ _ _ _ _ _ _ _ KF.type_class (KF.args_gs _ _ _) ?_
 (unfold Builtin.«getset_descriptor.__get__» descrGet;rw[dga_obj];refine Yq (YR ?_))
 (unfold descrGetter descrCheckInstance descrNameAndClass isInstance;simp only[KF.owner_class];repeat lk)
 have b:Code.quiet (.builtin "object.__class__" ⟨[.ref e],[]⟩)=true:=Code.quiet_builtin _ (by decide+kernel)
 (refine⟨b,Xw KF.entry_class ?_⟩;unfold Builtin.«object.__class__» shownTypeOf;repeat lk)
 exact h
theorem AO{a:Value}{M:Model}{Q:Unit->Shared->Prop}(X:K.In s.heap)(x:ExC K C)(I:ExAt e C s.heap)(b:Q () s):wpAny M A (checkBuiltinCall "BaseException.__getattribute__" ⟨[.ref e,a],[]⟩) Q E s:=by
 have c:builtinKind "BaseException.__getattribute__"=some .slot:=by decide+kernel
 have h:splitId "BaseException.__getattribute__"=some ("BaseException","__getattribute__"):=by decide+kernel
 have j:=PySem.F.args_bexc_ga (.ref e) a;obtain⟨i,g,l,t,o⟩:=s;have f:=I.type (M:=M);have L:=looks_mroIn (M:=M) X x.hb;simp only[checkBuiltinCall,c,h];refine Yq ?_
 ·unfold isInstance;refine Yq (f.at (L.at ?_))
  repeat (first|wp_step)
  exact b
def Ax{tk:Tok}{Q:Fin->Shared->Prop}(X:K.In s.heap)(x:ExC K C)(I:ExAt e C s.heap)(h:Q (.done (.ret (.ref C))) s) :
  wpAny (model prog w) A (Builtin.«object.__getattribute__» ⟨[.ref e,.str "__class__" tk],[]⟩) Q E s:=by
 obtain⟨a,g,d,t,o⟩:=s;have b:=I.type (M:=model prog w);have L:=Cq (e:=e) (M:=model prog w) X x;refine Yq (YR (Yq (YR (Yq (b.at (Yq (L.at ?_)))))));show wpAny _ _ (holding [_] (call _ [_,.ref e,.ref C])>>=ret) _ _ _;exact Yq (ZU (wpAny_call (E_ (s:=⟨a,g,d,t,o⟩) X x I (YR h))))
theorem yU(s:Value):bindSpecial (.builtin "BaseException.__getattribute__") s=pure (.builtin "BaseException.__getattribute__",[s]):=by
 have b:builtinKind "BaseException.__getattribute__"=some .slot:=by decide+kernel
 have a:withoutEnding? "BaseException.__getattribute__" "#opaque"=none:=by decide+kernel
 have h:withoutEnding? "BaseException.__getattribute__" "#data"=none:=by decide+kernel
 simp only[bindSpecial,typeOf,builtinType,a,h,b];rfl
theorem F9{tk:Tok}{f a:Bool}{Q:Kv}(X:K.In s.heap)(x:ExC K C)(I:ExAt e C s.heap)(j:Q (.ref C) s) :
  wpAny (model prog w) A (getAttrBy (.ref e) (.str "__class__" tk) f a) Q E s:=by
 obtain⟨i,g,d,t,o⟩:=s;have m:=I.type (M:=model prog w);have l:=looks_findIn (M:=model prog w) X x.ga;have L:=looks_findIn (M:=model prog w) X x.noga;have c:(a&&onTheHeap (Value.builtin "BaseException.__getattribute__"))=false:=by cases a<;>rfl
 have h:(Value.builtin "BaseException.__getattribute__" == Value.builtin "object.__getattribute__")=false:=by decide+kernel
 have b:(onTheHeap (Value.ref C)&&Value.builtin "BaseException.__getattribute__" == Value.builtin "object.__getattribute__")=false:=by rw[h];rfl
 unfold getAttrBy;refine ZU (Yq (m.at (Yq (l.at ?_))));dsimp only;rw[b,Yr Ym];unfold getAttrByItsOwn;refine Yq ?_;show wpAny _ _ (typeLookup (.ref C) "__getattr__") _ _ _;refine L.at (Yq (wpAny_attempt (ZU ?_)))
 unfold callGetattribute boundAndCalled;rw[c,Yr Ym,yU];refine Yq (YR ?_);refine wpAny_call (codeAny_call_builtin (by decide+kernel) PySem.F.entry_bexc_ga (AO (s:=⟨i,g,d,t,o⟩) X x I (Ax (s:=⟨i,g,d,t,o⟩) X x I ?_)));show wpAny _ _ (handedOut (.ref C)) _ _ _;exact YR j
def Ht{Q:Ko}(X:K.In s.heap)(x:ExC K C)(I:ExAt e C s.heap)(h:Q (some (.ref C)) {s with toks:=s.toks+1}):wpAny (model prog w) A (getAttr? (.ref e) "__class__") Q E s:=by obtain⟨a,g,d,t,o⟩:=s;unfold getAttr? getAttrBy?;refine Yq (wpAny_mkText (Yq (wpAny_attempt ?_)));exact F9 (s:=⟨a,g,d,t+1,o⟩) X x I (YR h)
def t7(x:ExC K C):KitX K (.ref e) (.ref C) (ExAt e C) where
 ty:=λ_ _ _ p=>p.type
 it:=λ_ _ X _=>by
  obtain⟨m,a,b⟩:=Yd.mp x.hm;unfold clsIn at a;split at a
  ·rename_i o l g s f;intro A Q E w k q;unfold isType loadHead;exact Yq (wpAny_loadPart (k _ _ (X _ _ f)) (YR q))
  ·cases a
 ne:=λh i y j n u X c=>by
  obtain⟨m,a,b⟩:=Yd.mp x.hm;refine Bool.eq_false_iff.mpr λq=>?_;have e:C=i:=Value.ref.inj (ZJ.mp q);subst e;unfold clsIn at a;split at a
  ·rename_i o l g s f;rw[X _ _ f]at c;cases c
  ·cases a
 ca:=λX p k=>Ht X x p k
end
end L2
namespace L2
open PySem PySem.Spec PySem.Calls PySem.W PyProof.Rows
def ObjOk.isAt{P:Program}{h:Heap}{a:Addr}{o:HO}(x:ObjOk P w H h a o):∃u,h.get? a=some u:=by
 cases o with
 |lst xs=>obtain⟨_,_,_,_,e⟩:=x;exact⟨_,e⟩
 |tup xs=>obtain⟨_,_,_,⟨_,e,_⟩,_⟩:=x;exact⟨_,e⟩
 |dK kvs=>obtain⟨_,_,_,_,_,_,_,e,_⟩:=x;exact⟨_,e⟩
 |dT kvs=>obtain⟨_,_,_,_,_,_,_,e,_⟩:=x;exact⟨_,e⟩
 |set S n=>obtain⟨_,_,_,_,e,_⟩:=x;exact⟨_,e⟩
 |ins C dx fs=>obtain⟨_,_,_,e,_⟩:=x;exact⟨_,e⟩
 |own y=>exact x
 |xd fs=>obtain⟨_,⟨_,_,_,e,_⟩,_⟩:=x;exact⟨_,e⟩
 |rng lo hi=>obtain⟨_,_,_,e⟩:=x;exact⟨_,e⟩
 |frz ob u=>obtain⟨e,_⟩:=x;exact⟨_,e⟩
 |tbl ps=>exact⟨_,(show h.get? a=some _ from x)⟩
 |met f y=>exact⟨_,(show h.get? a=some _ from x)⟩
 |ext φ=>exact x.2.1
def HOk.miss{P:Program}{h:Heap}{a:Addr}(x:HOk P w H h)(n:h.get? a=none):H a=none:=by
 cases q:H a with
 |none=>rfl
 |some o=>
  obtain⟨u,e⟩:=(x a o q).isAt;rw[n]at e;cases e
structure Thr (P:Program) (w:World) (C:Addr) (outer:List Env) (H:Hp) (s:Shared) (a:Addr) (a0:Value) (B:Heap) (H':Hp) (s':Shared):Prop where
 os:s'.os=s.os
 bare:AllBare s'.gens
 keep:∀b o,s.heap.get? b=some o->H b=none->b∉frs outer->B.get? b=some o
 slot:∀b o,s.heap.get? b=some o->H b=none->b∈frs outer->(∀vs,o.data≠.fields vs)/\∃sl,s'.heap.get? b=some {o with slots:=sl}
 free:∀b o,s.heap.get? b=some o->H b=none->H' b=none
 there:∀b o,s.heap.get? b=some o->b∉frs outer->∃o',B.get? b=some o'
 tups:∀b xs,H b=some (.tup xs)->H' b=some (.tup xs)
 frzs:∀b o u,H b=some (.frz o u)->H' b=some (.frz o u)
 tbls:∀b ps,H b=some (.tbl ps)->∃more,H' b=some (.tbl (ps++more))
 hok:HOk P w H' B
 fly:Heap.FlyingW B outer a (.ref C) a0 s'.heap
def Thr.un{P:Program}{a:Addr}{B:Heap}{h:Heap}(t:Thr P w C outer H s a a0 B H' s')(i:∀b∈frs outer,H b=none)(p:B.StaysIn h)(m:s'.heap.UpToSlots h) :
  Un (frs outer) [] H H' s.heap h where
 keep:=λb o q n c _=>p _ _ (t.keep b o q n c)
 slot:=λb o q n c _=>by
  obtain⟨g,u,l⟩:=t.slot b o q n c;obtain⟨f,j⟩:=m b _ l g;exact⟨f,j⟩
 free:=λb o q n _=>t.free b o q n
 there:=λb o q _=>by
  by_cases c:b∈frs outer
  ·obtain⟨g,u,l⟩:=t.slot b o q (i b c) c;obtain⟨f,j⟩:=m b _ l g;exact⟨_,j⟩
  ·obtain⟨x,e⟩:=t.there b o q c;exact⟨x,p _ _ e⟩
 tups:=t.tups
 frzs:=t.frzs
 tbls:=t.tbls
section
variable{P:Program}              {E:XK}
end
def uP:List Value:=[.type "ValueError",.type "Exception",.type "BaseException",.type "object"]
def wg{h:Heap}(X:K.In h)(q:excIn K C uP "ValueError.__new__"=true) :
  ∃bm N nm qn bs hdct sn sub ab col dd k0 k1 k2 k3 k5 mN,h.get? C=some (excClassObj nm qn C N bs bm hdct sn sub ab col dd k0 k1 k2 k3 k5 "ValueError.__new__")/\h.Ns N mN/\mN "__init__"=none/\OwnTail h uP bm:=by
 unfold excIn at q;split at q
 case h_1 dd cd sl ho=>
  split at q
  case h_1 C' bm k0 k1 k2 k3 n k5 hm hs=>
   (rw[Ys,Ys,Ys,Ys,Ys,ZJ,ZJ,ZJ]at q;obtain⟨⟨⟨⟨⟨rfl,rfl⟩,e⟩,f⟩,a⟩,c⟩:=q)
   rcases cd with⟨nm,bs,m,o,qn,p,sn,sub,ab,col,b⟩
   have j:m=.ref C'::bm:=hm;have i:b=false:=by cases b with|false=>rfl|true=>cases e
   have g:sl=#[k0,k1,k2,k3,some (.builtin "ValueError.__new__"),k5]:=by rcases sl with⟨l⟩;exact YM Array.mk hs
   rw[j,i,g]at ho;exact⟨_,_,_,_,_,_,_,_,_,_,_,_,_,_,_,_,_,X _ _ ho,.of_isNs (isNs_of_in X a),nsMap_none_of_in X a c,tail_of_in X f⟩
  case h_2=>cases q
 case h_2=>cases q
def nV(X:Cx)(C:Addr)(R:Hp->Prop):Prop:=∀(p:Kp) (a:St) (H:Hp) (s:Shared) (h:Heap) (e:Addr) (b:List Value),Inv X p a H s->Heap.MadeExcOf s.heap h e (.ref C) b->R H->X.xe (.ref e) {s with heap:=h }
def yN{t:Str}{i np p2 cpos pos}{R:Hp->Prop}(B:X.calm=true)(E:nV X C R)(A:Gl X x)(z:X.mg x=some (.ref C))(q:excIn X.K C uP "ValueError.__new__"=true)
  (hd:nDb x:=by decide) (b:starEach [.Constant (.str t) i p2] X.env=[(false,eval (.Constant (.str t) i p2) X.env)]:=by rfl) :
  PS X (.Raise (some (.Call (.Name x np) [.Constant (.str t) i p2] [] cpos)) none pos) (λ_ _ H=>R H):=by
 intro p s g H D I h;obtain⟨bm,N,nm,qn,bs,hdct,sn,sub,ab,col,dd,k0,k1,k2,k3,k5,mN,L,J,c,T⟩:=wg I.mod.kin q;refine wpAny_Raise_call_subT (C:=C) (nm:=nm) (q:=qn) (N:=N) (bs:=bs) (bm:=bm) (hdct:=hdct) (sn:=sn) (sub:=sub) (ab:=ab) (col:=col) (dd:=dd) (k0:=k0) (k1:=k1) (k2:=k2) (k3:=k3) (k5:=k5) PySem.F.excBase_ValueError (mN:=mN) (T.hasType rfl) (I.ok.hd B) (by rw[b];rfl) c (fi I A z ⟨rfl,?_⟩ hd);have w:PA X [.Constant (.str t) i p2] (mL (tC (.str t)) oq):=aI dG a_ b;have go:=w cpos p s g H (λj f=>j.length=1/\R f) I ⟨rfl,h⟩;rw[b]at go ⊢;refine Xn (bh go λu m j f a o l=>⟨rfl,?_,a.bk _ _ L,J.keeps a.bk,T.keeps a.bk,λM e y=>E p g f m M e u a y l.2⟩);rw[<-o.length,l.1];decide
def Cx.caught(X:Cx)(a:Addr)(ob:Obj):Cx:={X with A:=X.A.mark (some (.ref a)),calm:=false,pn:=(a,ob)::X.pn,xe:=λ_ _=>False}
section
variable  {a:Addr}     
def Inv.caught(I:Inv X pz σ H s)(h1:s.heap.get? a=some ob)(h2:H a=none)(e:a≠X.env.locals)(c:a∉X.fs)(b:∀v,ob.data≠.cell v):Inv (X.caught a ob) pz σ H s:=
  ⟨⟨I.ok.mod,I.ok.kind,I.ok.glob,I.ok.blt,I.ok.above,I.ok.inj,I.ok.has,I.ok.cab,(λz=>nomatch z),I.ok.frames,I.ok.stk,I.ok.exf,I.ok.bs,I.ok.bsz,I.ok.noex,I.ok.exfs,I.ok.funs,I.ok.frf⟩,
   I.os,I.bare,I.base,I.loc,I.cell,I.free,I.freeC,λp h=>(YB.mp h).elim (λz=>z ▸ ⟨h1,h2,e,c,b⟩) (I.pin p),I.hok,I.len⟩
def Inv.uncaught(ok:X.Ok)(I:Inv (X.caught a ob) pz σ H s):Inv X pz σ H s:=⟨ok,I.os,I.bare,I.base,I.loc,I.cell,I.free,I.freeC,λp h=>I.pin p (Ye _ h),I.hok,I.len⟩
def Inv.atEx(I:Inv (X.caught a ob) pz σ H s):s.heap.get? a=some ob:=(I.pin (a,ob) (Yf ..)).1
def BI{M:Model}{Q:Unit->Shared->Prop}(I:Inv X pz σ H s)(hN:X.N.Nodup)(hi:X.N[i]?=some x)(hk:X.env.scope.names.lookup x=some .local)(h:∀s',Inv X pz (σ.set i none) H s'->Q () s') :
  wpAny M A (do bindName X.env x .none;unbindBehindTheSuite X.env x pos) Q E s:=by
 obtain⟨m,Z,hl⟩:=id I.loc;have w:(X.env.scope.kind == .class||(X.env.scope.kind == .module&&X.env.locals != X.env.globals))=false:=by rw[I.ok.kind];rfl
 refine wpAny_nameGoes_keeps hk Z w λh' v C a=>?_;have B:∀b o,X.s₀.heap.get? b=some o->b≠X.env.locals:=λb o e=>YN (Yv (YD e) I.ok.above)
 refine h _ ⟨I.ok,I.os,I.bare,⟨λb o e n J l=>(a.2 b (B b o e)).trans (I.base.keep b o e n J l),λb o e n J l=>(I.base.slot b o e n J l).imp λsl g=>(a.2 b (B b o e)).trans g,I.base.free,λb o e l=>(I.base.there b o e l).imp λo' g=>(a.2 b (B b o e)).trans g,I.base.tups,I.base.frzs,I.base.tbls⟩,
  ⟨_,C,λj y P g f e3=>?_⟩,λy c e=>(I.cell y c e).imp λO z=>z.sameBut a (I.cne y c e),I.free,I.freeC,λp Y=>?_,λb u q=>?_,by simpa using I.len⟩
 ·have L:j≠i:=λz=>by
   subst z;rw[List.getElem?_set]at f;split at f
   ·split at f<;>cases f
   ·rename_i z;exact z rfl
  rw[YT (ZX L)]at f;obtain⟨R,S,q⟩:=hl j y P g f e3;refine⟨R,S,q.imp (λz=>⟨z.1,?_⟩) λ⟨k,c,e,z⟩=>⟨k,c,e,z.sameBut a (I.cne y c e)⟩⟩;have T:y≠x:=λe=>L (m6 hN g (e ▸ hi))
  show(if y=x then v else m y)=_;rw[Yr T];exact z.2
 ·obtain⟨e,n,K,U,d⟩:=I.pin p Y;exact⟨(a.2 p.1 K).trans e,n,K,U,d⟩
 ·refine(I.hok b u q).stay (λc O hc e=>(a.2 c ?_).trans e) (λ_ q=>q) λ_ _ q=>q;rintro rfl;rcases hc with rfl|hc
  ·rw[I.free]at q;cases q
  ·rw[I.free]at hc;cases hc
end
section
variable  {a:Addr}  
end
def DInv.other{F:Hp}{σ':St}(I:DInv K P F H ρ σ)(hi:ρ[i]?=some none)(b:σ'.length=σ.length)(h:∀j,j≠i->σ'[j]?=σ[j]?):DInv K P F H ρ σ':=
 ⟨I.toDHp,I.len.trans b.symm,by
  obtain⟨O,k⟩:=I.rep;refine⟨O,λj x a=>?_⟩;obtain⟨v,e,c⟩:=k j x a;exact⟨v,(h j λz=>by subst z;rw[hi]at a;cases a).trans e,c⟩⟩
def CXc(P:Program)(w:World)(cl:Nat->Addr):CXT:=λo H s E e c=>∃k a f B b,e=.ref a/\Thr P w (cl k) o H s a f B b c/\E (.ref (cl k)) none b
section
variable{P:Program}         {cl:Nat->Addr}      {E:XK}
def Inv.throwsC{i:Shared}{e:Addr}{vs:List Value}(k:Nat)(I:Inv (bM (CXc P w cl) P w K mg base N qual scope f cd A outer s H E) pz σ H1 i)(hx:Heap.MadeExcOf i.heap h' e (.ref (cl k)) vs)(R:E (.ref (cl k)) none H1) :
  (bM (CXc P w cl) P w K mg base N qual scope f cd A outer s H E).xe (.ref e) {i with heap:=h' }:=by
 have a:∀b:Addr,b∉([]:List Addr):=λb z=>absurd z (by simp)
 have B:∀env∈(bM (CXc P w cl) P w K mg base N qual scope f cd A outer s H E).stack,∀b,env.frame=some b->b∈frs (bM (CXc P w cl) P w K mg base N qual scope f cd A outer s H E).stack:=λenv O b Q=>ZZ.mpr ⟨env,O,Q⟩
 have L:∀b o,s.heap.get? b=some o->b∉frs outer->b∉frs (bM (CXc P w cl) P w K mg base N qual scope f cd A outer s H E).stack:=λb o q g z=>by
  rcases YB.mp (I.stkSub b z)with z|z
  ·exact absurd z (YN (Yv (YD q) I.ok.above))
  ·exact g z
 refine wpAny_leaves_madeW (base:=hideAll i.heap (frs (bM (CXc P w cl) P w K mg base N qual scope f cd A outer s H E).stack)) (h:=i.heap) (env:=(bM (CXc P w cl) P w K mg base N qual scope f cd A outer s H E).env) (outer:=outer) I.ok.frames rfl (λb o q=>of_hideAll _ q) (funFrames_hide I.stack B) hx λS t C _ _ M=>?_;refine⟨k,e,.ref t,_,H1,rfl,⟨I.os,I.bare,λb o q n g=>?_,λb o q n g=>?_,λb o q n=>I.base.free b o q n (a b),λb o q g=>?_,I.base.tups,I.base.frzs,I.base.tbls,λb o q=>?_,C⟩,R⟩
 ·exact hideAll_get _ (I.base.keep b o q n g (a b)) (L b o q g)
 ·obtain⟨U,m⟩:=I.base.slot b o q n g (a b);obtain⟨_,x,y,j⟩:=I.ok.funs.mem g;have l:s.heap.get? b=some x:=y;rw[q]at l;cases l;obtain⟨p,T⟩:=M b _ (hx.keeps _ _ m) j;exact⟨j,p,T⟩
 ·obtain⟨x,m⟩:=I.base.there b o q (a b);exact⟨x,hideAll_get _ m (L b o q g)⟩
 ·refine(I.hok b o q).stay (λc u hc m=>hideAll_get _ m λz=>?_) (λ_ z=>z) λ_ _ z=>z;have J:=I.stkFree c z;rcases hc with rfl|hc
  ·rw[J]at q;cases q
  ·rw[J]at hc;cases hc
def Inv.passesC{s1 C:Shared}{a:Addr}{B:Heap}(k:Nat)(I:Inv (bM (CXc P w cl) P w K mg base N qual scope f cd A outer s H E) pz σ H1 s1)(t:Thr P w (cl k) (bM (CXc P w cl) P w K mg base N qual scope f cd A outer s H E).stack H1 s1 a a0 B H2 C)(Z:E (.ref (cl k)) none H2) :
  (bM (CXc P w cl) P w K mg base N qual scope f cd A outer s H E).xe (.ref a) C:=by
 have c:∀b:Addr,b∉([]:List Addr):=λb z=>absurd z (by simp)
 have J:∀b o,s.heap.get? b=some o->b∉frs outer->b∉frs (bM (CXc P w cl) P w K mg base N qual scope f cd A outer s H E).stack:=λb o q g z=>by
  rcases YB.mp (I.stkSub b z)with z|z
  ·exact absurd z (YN (Yv (YD q) I.ok.above))
  ·exact g z
 have U:∀b,b∈frs outer->b∈frs (bM (CXc P w cl) P w K mg base N qual scope f cd A outer s H E).stack:=λb z=>by
  obtain⟨e,X,Y⟩:=ZZ.mp z;exact ZZ.mpr ⟨e,Ye _ X,Y⟩
 have x:∀b o,s.heap.get? b=some o->H b=none->∃j,s1.heap.get? b=some j:=λb o q n=>by
  by_cases L:b∈frs outer
  ·obtain⟨Q,h⟩:=I.base.slot b o q n L (c b);exact⟨_,h⟩
  ·exact⟨_,I.base.keep b o q n L (c b)⟩
 refine wpAny_leaves_onW (base:=B) (env:=(bM (CXc P w cl) P w K mg base N qual scope f cd A outer s H E).env) (outer:=outer) (cls:=.ref (cl k)) (a0:=a0) I.ok.frames rfl t.fly λh' m M=>?_;refine⟨k,a,a0,B,H2,rfl,⟨t.os.trans I.os,t.bare,λb o q n g=>?_,λb o q n g=>?_,λb o q n=>?_,λb o q g=>?_,λb y e=>t.tups b y (I.base.tups b y e),λb o u e=>t.frzs b o u (I.base.frzs b o u e),λb R e=>?_,t.hok,m⟩,Z⟩
 ·exact t.keep b o (I.base.keep b o q n g (c b)) (I.base.free b o q n (c b)) (J b o q g)
 ·obtain⟨Q,h⟩:=I.base.slot b o q n g (c b);obtain⟨l,O,p⟩:=t.slot b _ h (I.base.free b o q n (c b)) (U b g);obtain⟨i,e3⟩:=M b _ p l;exact⟨l,i,e3⟩
 ·obtain⟨j,h⟩:=x b o q n;exact t.free b j h (I.base.free b o q n (c b))
 ·obtain⟨j,h⟩:=I.base.there b o q (c b);exact t.there b j h (J b o q g)
 ·obtain⟨T,h⟩:=I.base.tbls b R e;obtain⟨S,p⟩:=t.tbls b _ h;exact⟨T++S,by rw[<-Array.append_assoc];exact p⟩
def vB:iE (CXc P w cl) (bM (CXc P w cl) P w K mg base N qual scope f cd A outer s H E) E:=λ_ _ _ _ _ _ I h=>by
 obtain⟨k,a,c,B,e,rfl,t,b⟩:=h;exact I.passesC k t b
def IR:PassesOwn (model P w) (bM (CXc P w cl) P w K mg base N qual scope f cd A outer s H E).A (bM (CXc P w cl) P w K mg base N qual scope f cd A outer s H E).env (bM (CXc P w cl) P w K mg base N qual scope f cd A outer s H E).xe:=PassesOwn.leaving
def jY(k:Nat):nV (bM (CXc P w cl) P w K mg base N qual scope f cd A outer s H E) (cl k) λH'=>E (.ref (cl k)) none H':=λ_ _ _ _ _ _ _ I h a=>I.throwsC k h a
end
inductive XR where
 |go (r:RES)
 |ex (k:Nat)
def EndsX(K:Kq)(cl:Nat->Addr)(E:XK)(P F:Hp)(D:Ends):XR->Prop
 |.go r=>EndsD K P F D r
 |.ex k=>∀a H,Same F a->DHp P a H->E (.ref (cl k)) none H
def EndsX.ext{cl:Nat->Addr}{E:XK}{F:Hp}{D:Ends}{r:XR}(h:EndsX K cl E P F D r)(e:Same F F1):EndsX K cl E P F1 D r:=by
 cases r with
 |go r=>exact EndsD.ext h e
 |ex k=>exact λc H b a=>h c H (e.trans b) a
def tSX(K:Kq)(cl:Nat->Addr)(E:XK)(g:DF->Option XR):TS:=λD b H=>∃P F a r,g a=some r/\DInv K P F H a b/\EndsX K cl E P F D r
def PX1(X:Cx)(cl:Nat->Addr)(E:XK)(st:Stmt)(g:DF->Option XR):Prop:=PS X st (tSX X.K cl E g)
def PXS(X:Cx)(cl:Nat->Addr)(E:XK)(sts:List Stmt)(g:DF->Option XR):Prop:=PSs X sts (tSX X.K cl E g)
def xOf(g:Dw):DF->Option XR:=λρ=>(g ρ).map .go
def xNx:DF->Option XR:=λρ=>some (.go (.nx ρ))
def xEx(k:Nat):DF->Option XR:=λ_=>some (.ex k)
def cN(g h:DF->Option XR):DF->Option XR:=λa=>match g a with
 |some (.go (.nx ρ'))=>h ρ'
 |r=>r
def xIf(c:Dk)(g h:DF->Option XR):DF->Option XR:=λa=>(c a).bind λb=>if b=true then g a else h a
section
variable  {cl:Nat->Addr}{E:XK}  {aR:List Stmt} 
def iz(h:PD1 X st g):PX1 X cl E st (xOf g):=PS.imp h λD e H=>un7 λP F b r a I k=>by
 unfold xOf at a;cases q:g b with
 |none=>rw[q]at a;cases a
 |some c=>
  rw[q]at a;cases a;exact⟨P,F,b,c,q,I,k⟩
def fZ:PXS X cl E [] xNx:=PSs.imp vW λD a H=>un7 λP F b r h I k=>by
 cases h;exact k a F H (Same.refl _) I
def b7{g h:DF->Option XR}(h1:PX1 X cl E st g)(h2:PXS X cl E aR h):PXS X cl E (st::aR) (cN g h):=PSs.imp (sK h1 h2) λD l H=>un7 λP F b r c I k=>by
 unfold cN at c;split at c
 ·rename_i a q;exact⟨P,F,b,_,q,I,λf j m e i=>⟨P,j,a,r,c,i,k.ext e⟩⟩
 ·rename_i q;refine⟨P,F,b,r,c,I,?_⟩;cases r with
  |ex k'=>exact k
  |go r=>
   cases r with
   |nx a=>exact absurd c (q a)
   |bk b=>exact k
   |ct b=>exact k
   |rt x b=>exact k
def dN{g:DF->Option XR}(h1:PX1 X cl E st g):PXS X cl E [st] g:=PSs.imp (qq h1) λ_ _ _ q=>q
def lq{c:Expr}{a b:List Stmt}{fc:Dk}{g h:DF->Option XR}(l:PDT X c fc)(o:PXS X cl E a g)(m:PXS X cl E b h):PX1 X cl E (.If c a b pos) (xIf fc g h):=PS.imp (ze l o m) λD p H=>un7 λP F f r e I k=>by
 unfold xIf at e;cases q:fc f with
 |none=>rw[q]at e;cases e
 |some b=>
  rw[q,Ya]at e;refine⟨P,F,f,b,q,I,λj s i=>?_⟩;cases b with
  |true=>
   rw[Yi rfl]at e ⊢;exact⟨P,j,f,r,e,I.evo i,k.ext i.ext⟩
  |false=>
   rw[Yr Ym]at e ⊢;exact⟨P,j,f,r,e,I.evo i,k.ext i.ext⟩
def kq{k:Nat}{t:Str}{i np p2 cpos}(f:X.calm=true)(g:nV X (cl k) λH'=>E (.ref (cl k)) none H')(c:Gl X x)(b:X.mg x=some (.ref (cl k)))(q:excIn X.K (cl k) uP "ValueError.__new__"=true)
  (hd:nDb x:=by decide) (h:starEach [.Constant (.str t) i p2] X.env=[(false,eval (.Constant (.str t) i p2) X.env)]:=by rfl) :
  PX1 X cl E (.Raise (some (.Call (.Name x np) [.Constant (.str t) i p2] [] cpos)) none pos) (xEx k):=PS.imp (yN f g c b q hd h) λD j H=>un7 λP F l r e I a=>by
 cases e;exact a F H (Same.refl _) I.toDHp
end
def og(K:Kq)(cl:Nat->Addr)(rz:List DV->Option Nat):Sp:=λc H _ E=>∃P F x k,rz x=some k/\DHp P F H/\DVs K P F H x c/\∀b a,Same F b->DHp P b a->E (.ref (cl k)) none a
def rzX(n p:Nat)(g:DF->Option XR):List DV->Option Nat:=λx=>if x.length=p then(match g (bB n p x)with|some (.ex k)=>some k|_=>none)else none
def Fun.thrX{P:Program}{cl:Nat->Addr}{k:Nat}{g:DF->Option XR}(F:Fun K x qual st f fd)(S:FnScope N ps (defScope st))
  (h:∀(cdv:Value) (A:Around) (outer:List Env) (s:Shared) (H:Hp) (E:XK),Room k (A.deeper (envOfC qual (defScope st) s.heap.objs.size f cdv))->PXS (bM (CXc P w cl) P w K mg base N qual (defScope st) f cdv A outer s H E) cl E (defBody st) g) :
  FnOk P w K mg base (CXc P w cl) (k+1) f fd ps (og K cl (rzX N.length ps.length g)):=by
 have l:∀b H Q E,og K cl (rzX N.length ps.length g) b H Q E->b.length=ps.length:=λb H Q E z=>by
  obtain⟨o,p,q,C,a,m,c,_⟩:=z;unfold rzX at a;split at a
  ·rename_i i;rw[<-c.length];exact i
  ·cases a
 obtain⟨R,O,kV,L,M,X,cdv,U,y,rfl,B,j⟩:=F.ex;refine yh B j S l λA outer s H b Q E I e=>⟨_,h cdv A outer s H E I,?_⟩
 obtain⟨o,p,q,C,a,m,c,J⟩:=e;unfold rzX at a;split at a
 ·rename_i i;split at a
  ·rename_i T u;cases a;exact⟨o,p,_,_,u,DInv.start N ps.length m c i,J⟩
  ·cases a
 ·cases a
def r8(g:Dv)(rz:List DV->Option Nat):DF->Option XR:=λa=>(g a).bind λx=>(rz x).map .ex
def C2{P:Program}{cl:Nat->Addr}{E:XK}{k:Nat}{g:Dv}
  (F:FnOk P w K mg base (CXc P w cl) k f fd ps (og K cl rz)) (J:Room k (bM (CXc P w cl) P w K mg base N qual scope f0 cd A outer s H E).A) (O:Gl (bM (CXc P w cl) P w K mg base N qual scope f0 cd A outer s H E) x) (L:mg x=some (.ref f)) (M:PySem.W.keepIn K (.ref f)=true) (Q:Binds K fd ps []) (R:iH (bM (CXc P w cl) P w K mg base N qual scope f0 cd A outer s H E) (e::es) g)
  (hd:nDb x:=by decide) (he:starEach (e::es) (bM (CXc P w cl) P w K mg base N qual scope f0 cd A outer s H E).env=(false,eval e (bM (CXc P w cl) P w K mg base N qual scope f0 cd A outer s H E).env)::starEach es (bM (CXc P w cl) P w K mg base N qual scope f0 cd A outer s H E).env:=by rfl) (c:(backTo pos (starEach es (bM (CXc P w cl) P w K mg base N qual scope f0 cd A outer s H E).env)).any (·.1)=false:=by rfl)
  (C:swapsWith (.Call (.Name x p) (e::es) [] pos) none p2.line (bM (CXc P w cl) P w K mg base N qual scope f0 cd A outer s H E).env=pure false:=by rfl) :
  PX1 (bM (CXc P w cl) P w K mg base N qual scope f0 cd A outer s H E) cl E (.Expr (.Call (.Name x p) (e::es) [] pos) p2) (r8 g rz):=
 PS.imp (c9 (jO F J O L M Q .nil vB R hd he c) C) λD Z H'=>un7 λS Y l r h I z=>by
  unfold r8 at h;cases q:g l with
  |none=>rw[q]at h;cases h
  |some a=>
   rw[q,Ya]at h;cases b:rz a with
   |none=>rw[b]at h;cases h
   |some B=>
    rw[b]at h;cases h;refine⟨S,Y,l,a,q,I,λvs u U o y=>?_⟩;have j:=I.evo o;exact⟨gd u U,u,a,B,b,fL j.sub,by rw[Yg];exact y.dvs j,λX T m i=>z X T (o.ext.trans m) (j.toDHp.gd m i).hp⟩
end L2
namespace L2
open PySem PySem.Spec PyProof.Rows
end L2
namespace L2
open PySem PySem.Spec PySem.Calls PySem.W PyProof.Rows PySem.Builtin PySem.Builtin.Str
def HP(i:Nat)(t2:Str):TE:=λa H Q=>∃x,a[i]?=some (some (.str x))/\(reprText x).length<=1000/\t2.length<=1000/\∀y,Q (.str y) H
theorem Fe{f t2:Str}{c}(hv:PE X (.Name f p1) (cf i)):PE X (.JoinedStr [.FormattedValue (.Name f p1) 114 none p3,.Constant (.str t2) c p4] pos) (HP i t2):=by
 intro p s l H Q I h;obtain⟨x,M,O,N,q⟩:=h;have m:(reprText x).length<=sizeLine:=YQ O (by decide);refine wpAny_JoinedStr ?_;show wpAny (model X.prog X.w) X.A (eval (.FormattedValue (.Name f p1) 114 none p3) X.env) (λv a=>∃y t,v=.str y t/\(Str.empty++y).length<=sizeLine/\Joins (model X.prog X.w) X.A X.xe [eval (.Constant (.str t2) c p4) X.env] (Str.empty++y) _ a) X.xe s;refine wpAny_FormattedValue_repr (bh (hv p s l H (λv b=>v=.str x/\b=H) I ⟨_,M,rfl,rfl⟩) λu Y v b R J L=>?_);obtain⟨rfl,rfl⟩:=L;obtain⟨T,rfl⟩:=(show ∃t,u=Value.str x t from J)
 refine wpAny_pyReprObj_str ?_ m;refine formatField_str (λC B=>⟨reprText x,C,rfl,?_,?_⟩) m
 ·rw[strLen_append];show 0+(reprText x).length<=sizeLine;omega
 ·refine bh (dG (X:=X) (x:=t2) (j:=c) (pos:=p4) p _ l b (λv g=>v=.str t2/\g=b) (R.tok _) ⟨rfl,rfl⟩) λo U S g P E K=>?_;obtain⟨rfl,rfl⟩:=K;obtain⟨e,rfl⟩:=(show ∃t,o=Value.str t2 t from E)
  have z:(Str.empty++reprText x++t2).length<=sizeLine:=by
   rw[strLen_append,strLen_append];show 0+(reprText x).length+t2.length<=sizeLine;have:(2000:Nat)<=sizeLine:=by decide
   omega
  exact⟨t2,e,rfl,z,z,⟨.str _,g,P.tok _,⟨_,rfl⟩,q _⟩⟩
def xG{np cpos}{R:Hp->Prop}(y:X.calm=true)(z:nV X C R)(w:Gl X x)(o:X.mg x=some (.ref C))(q:excIn X.K C uP "ValueError.__new__"=true)(he:PE X e te)
  (hd:nDb x:=by decide) (b:starEach [e] X.env=[(false,eval e X.env)]:=by rfl) :
  PS X (.Raise (some (.Call (.Name x np) [e] [] cpos)) none pos) (λ_ σ H=>te σ H λv H1=>[v].length=1/\R H1):=by
 intro p s σ H D I h;obtain⟨bm,N,nm,qn,bs,hdct,sn,sub,ab,col,dd,k0,k1,k2,k3,k5,mN,B,A,c,T⟩:=wg I.mod.kin q;refine wpAny_Raise_call_subT (C:=C) (nm:=nm) (q:=qn) (N:=N) (bs:=bs) (bm:=bm) (hdct:=hdct) (sn:=sn) (sub:=sub) (ab:=ab) (col:=col) (dd:=dd) (k0:=k0) (k1:=k1) (k2:=k2) (k3:=k3) (k5:=k5) PySem.F.excBase_ValueError (mN:=mN) (T.hasType rfl) (I.ok.hd y) (by rw[b];rfl) c (fi I w o ⟨rfl,?_⟩ hd);have l:PA X [e] (mL te oq):=aI he a_ b;have go:=l cpos p s σ H (λf H1=>f.length=1/\R H1) I h;rw[b]at go ⊢;refine Xn (bh go λu i f H1 a j g=>⟨rfl,?_,a.bk _ _ B,A.keeps a.bk,T.keeps a.bk,λE e m=>z p σ H1 i E e u a m g.2⟩);rw[<-j.length,g.1];decide
def FI(i:Nat)(t2:Str)(k:Nat):DF->Option XR:=λa=>match a[i]? with
 |some (some (.v (.str x)))=>if(reprText x).length<=1000/\t2.length<=1000 then some (.ex k)else none
 |_=>none
def xC{cl:Nat->Addr}{E:XK}{k:Nat}{a t2:Str}{c np cpos}{p:Pos}(m:X.calm=true)(o:nV X (cl k) λH'=>E (.ref (cl k)) none H')(l:Gl X x)(j:X.mg x=some (.ref (cl k)))(q:excIn X.K (cl k) uP "ValueError.__new__"=true)(hv:PE X (.Name a p1) (cf i))
  (hd:nDb x:=by decide) (g:starEach [.JoinedStr [.FormattedValue (.Name a p1) 114 none p3,.Constant (.str t2) c p4] p] X.env=[(false,eval (.JoinedStr [.FormattedValue (.Name a p1) 114 none p3,.Constant (.str t2) c p4] p) X.env)]:=by rfl) :
  PX1 X cl E (.Raise (some (.Call (.Name x np) [.JoinedStr [.FormattedValue (.Name a p1) 114 none p3,.Constant (.str t2) c p4] p] [] cpos)) none pos) (FI i t2 k):=PS.imp (xG m o l j q (Fe (t2:=t2) (c:=c) hv) hd g) λD w H=>un7 λP F z r h I f=>by
 unfold FI at h;split at h
 ·rename_i y e;split at h
  ·rename_i b;cases h;obtain⟨v,u,s⟩:=I.at e;cases(show Rep X.K F v (.str y)from s);exact⟨y,u,b.1,b.2,λ_=>⟨rfl,f F H (Same.refl _) I.toDHp⟩⟩
  ·cases h
 ·cases h
end L2
namespace L2
open PySem PySem.Spec PySem.Calls PySem.W PyProof.Rows
section
variable  {e':Expr}{k0 k1:_}{p0 s0 s1:Pos}
end
section
variable  {k:Nat}       
end
def GN(X:Cx)(body:List Stmt)(cl:Nat->Addr)(rz:DF->Option Nat):Prop:=
 ∀(p:Kp) (s:Shared) (c:St) (H P F:Hp) (f:DF) (k:Nat) (Q:Flow->Shared->Prop) (E:Kv),Inv X p c H s->rz f=some k->DInv X.K P F H f c->
  (∀(a:Addr) (l:Value) (B:Heap) (e b:Hp) (h:Shared) (j i:Hp) (g:Shared),Inv X p c b h->Evo P F H e b->Thr X.prog X.w (cl k) X.stack b h a l B i g->Same e j->DHp (gd e b) j i->E (.ref a) g)->wpAny (model X.prog X.w) X.A (execs body X.env) Q E s
section
variable  {a A3:Addr}    {c3:Str}{b1 b2 b3:Bool}
end
def oZ{cl:Nat->Addr}{E:XK} :PXS X cl E sts (λ_=>none):=PSs.imp wM λD a H h=>by
 obtain⟨_,_,_,_,h,_⟩:=h;cases h
end L2
namespace L2
open PySem PySem.Spec PyProof.Rows
end L2
namespace L2
open PySem PySem.Spec PySem.Calls PySem.W PyProof.Rows
def nK(C:Addr)(g:Dv)(rz:List DV->Option Nat):DF->Option XR:=λa=>(g a).bind λx=>(rz (.v (.ins C [])::x)).map .ex
def u6{P:Program}{cl:Nat->Addr}{E:XK}{k:Nat}{g:Dv}
  (M:Mk K C f) (F:FnOk P w K mg base (CXc P w cl) k f fd ps (og K cl rz)) (hr:Room (k+1) (bM (CXc P w cl) P w K mg base N qual scope f0 cd A outer s H E).A) (hg:Gl (bM (CXc P w cl) P w K mg base N qual scope f0 cd A outer s H E) x) (hm:mg x=some (.ref C)) (hb:Binds K fd ps []) (ha:iH (bM (CXc P w cl) P w K mg base N qual scope f0 cd A outer s H E) (e::es) g)
  (hd:nDb x:=by decide) (he:starEach (e::es) (bM (CXc P w cl) P w K mg base N qual scope f0 cd A outer s H E).env=(false,eval e (bM (CXc P w cl) P w K mg base N qual scope f0 cd A outer s H E).env)::starEach es (bM (CXc P w cl) P w K mg base N qual scope f0 cd A outer s H E).env:=by rfl) (i:(backTo pos (starEach es (bM (CXc P w cl) P w K mg base N qual scope f0 cd A outer s H E).env)).any (·.1)=false:=by rfl) :
  PX1 (bM (CXc P w cl) P w K mg base N qual scope f0 cd A outer s H E) cl E (.Return (some (.Call (.Name x p) (e::es) [] pos)) p2) (nK C g rz):=
 PS.imp (mW (qr (X:=bM (CXc P w cl) P w K mg base N qual scope f0 cd A outer s H E) M F hr hg hm hb .nil vB ha hd he i)) λD σ H'=>un7 λS F' B r h I Z=>by
  unfold nK at h;cases q:g B with
  |none=>rw[q]at h;cases h
  |some b=>
   rw[q,Ya]at h;cases c:rz (.v (.ins C [])::b)with
   |none=>rw[c]at h;cases h
   |some k2=>
    rw[c]at h;cases h;refine⟨S,F',B,b,q,I,λvs U T Q Y=>λy R hy m l=>?_⟩;have I1:=I.evo Q;have u:Evo S U T U (upd T R (.own y)):=Evo.side I1.toDHp m;have O:=Evo.laid (o:=.ins C R []) u.hp (a:=y) (by rw[ax (ZX l)];exact hy);have L:=Q.trans (u.trans O);have z:=I.evo L;exact⟨gd _ _,_,.v (.ins C [])::b,k2,c,fL z.sub,.cons rfl (show Rep K _ _ _ from .ins aC .nil) (by rw[Yg];exact(Y.same (u.trans O).ext).dvs z),λF2 H2 J j=>Z F2 H2 (L.ext.trans J) (z.toDHp.gd J j).hp⟩
section
variable  {a:Addr}     {b1 b2:Bool}{t t0 t1 t2 t3:Str}
end
end L2
namespace L2
open PySem PySem.Spec PyProof.Rows
def isI:D->Bool
 |.int _=>true
 |_=>false
def toI:D->Int
 |.int i=>i
 |_=>0
def kF{F:Hp}:∀{vs:List V}{ds:List D},Reps K F vs ds->ds.all isI=true->vs=(ds.map toI).map V.int:=by
 intro vs ds h;refine Reps.ind (M:=λvs ds=>ds.all isI=true->vs=(ds.map toI).map V.int) (λ_=>rfl) (λ{v d vs ds} r _ ih q=>?_) h;rw[List.all_cons,Ys]at q;cases d with
 |int i=>
  cases r;rw[ih q.2];rfl
 |_=>cases q.1
def fz:Stmt->Str
 |.FunctionDef n _ _ _ _ _ _ _ _ _=>n
 |_=>Str.empty
def bQ(s:Stmt):List Str:=(defArgs s).args.map (·.arg)
def FU{b:Type}:Nat->(List b->Prop)->Prop
 |0,P=>P []
 |n+1,P=>∀a,FU n λl=>P (a::l)
theorem yD{b:Type}:∀{n:Nat}{P:List b->Prop},FU n P->∀us,us.length=n->P us
 |0,_,h,us,e=>by rw[Zu.mp e];exact h
 |n+1,_,h,us,e=>by
  cases us with
  |nil=>cases e
  |cons a l=>exact yD (h a) l (Nat.succ.inj e)
def fnD(q:Str)(st:Stmt)(pm:Value)(c:Addr):FuncData:=PySem.W.fnOf (fz st) q (defArgs st) (defBody st) (defScope st) .none .none .none pm none (.ref c) .none
def fO(q:Str)(st:Stmt)(pm:Value)(c:Addr):Obj:=⟨.type "function",none,.func (fnD q st pm c),#[]⟩
def Gw(q:Str)(st:Stmt)(pm:Value)(c:Addr):Prop:=FU (bQ st).length λu=>bindArgs (fnD q st pm c) ⟨u,[]⟩=pure ((bQ st).zip u)
structure Df (K:PySem.W.Frag) (q:Str) (st:Stmt) (f:Addr) (d:FuncData):Prop where
 fn:Fun K (fz st) q st f d
 bd:Binds K d (bQ st) []
def Hy{c:Addr}(l:K.lookup f=some (fO q st pm c))(h:PySem.W.codeIn K (.ref c) q=true)(k:PySem.W.keepIn K (.ref f)=true)(b:Gw q st pm c):Df K q st f (fnD q st pm c):=
 ⟨Fi l h k,.all (yD b)⟩
def sj(N P:List Str)(sc:Scope):Bool:=decide (sc.kind=.function)&&!sc.isCoroutine&&!sc.isGenerator&&decide N.Nodup&&decide (N.take P.length=P)&&(P.all λx=>sc.names.lookup x == some .local||sc.names.lookup x == some .cell)&&sc.names.all λy=>y.2 != .free
def scI(N:List Str){P:List Str}{s:Scope}(h:sj N P s=true:=by kernel_rfl):FnScope N P s:=by unfold sj at h;simp only[Ys,YE,Bool.not_eq_true',YH,Bool.or_eq_true,ZJ,bne_iff_ne]at h;obtain⟨⟨⟨⟨⟨⟨i,g⟩,f⟩,e⟩,c⟩,b⟩,a⟩:=h;exact⟨i,g,f,e,c,b,a⟩
section
variable{P:Program}         {k:Nat} 
def Df.okI(F:Df K q st f fd) (N:List Str) (b:∀{cdv:Value}{A:Around}{outer:List Env}{s:Shared}{H:Hp}{E:XK},Room k (A.deeper (envOfC q (defScope st) s.heap.objs.size f cdv))->
      PDS (bM CX0 P w K mg base N q (defScope st) f cdv A outer s H E).nox (defBody st) g) (h:sj N (bQ st) (defScope st)=true:=by kernel_rfl):FnOk P w K mg base CX0 (k+1) f fd (bQ st) (spD K (mOf N.length (bQ st).length g)):=
  F.fn.okD (scI N h) λ_ _ _ _ _ _ a=>b a
def Df.okJ(F:Df K q st f fd) (N:List Str) (b:∀{cdv:Value}{A:Around}{outer:List Env}{s:Shared}{H:Hp}{E:XK},Room k (A.deeper (envOfC q (defScope st) s.heap.objs.size f cdv))->
      PDS (bM CX0 P w K mg base N q (defScope st) f cdv A outer s H E).nox (defBody st) g) (h:sj N (bQ st) (defScope st)=true:=by kernel_rfl):FnOk P w K mg base CX0 (k+1) f fd (bQ st) (spM K (uj N.length (bQ st).length g)):=
  F.fn.okM (scI N h) CV λ_ _ _ _ _ _ a=>b a
def Df.thrI{cl:Nat->Addr}{g:DF->Option XR} (F:Df K q st f fd) (N:List Str) (b:∀{cdv:Value}{A:Around}{outer:List Env}{s:Shared}{H:Hp}{E:XK},Room k (A.deeper (envOfC q (defScope st) s.heap.objs.size f cdv))->
      PXS (bM (CXc P w cl) P w K mg base N q (defScope st) f cdv A outer s H E) cl E (defBody st) g) (h:sj N (bQ st) (defScope st)=true:=by kernel_rfl):FnOk P w K mg base (CXc P w cl) (k+1) f fd (bQ st) (og K cl (rzX N.length (bQ st).length g)):=
  F.fn.thrX (scI N h) λ_ _ _ _ _ _ a=>b a
end
section
variable    (i:Nat)
def ndI(h:decide N.Nodup=true:=by kernel_rfl):N.Nodup:=YV h
section
variable(hN:X.N[i]?=some x:=by rfl) (hv:Vis X.env.scope x:=by first|exact Or.inl rfl|exact Or.inr (Or.inl rfl)|exact Or.inr (Or.inr rfl)) (hd:nDb x:=by decide) (hcd:nDc x:=by decide)
include hN hv hd hcd
def ar:PDE X (.Name x pos) (getV i):=FW i (pv i hN hv hd hcd)
def aE:PDR X (.Name x pos) (aj i):=FT i (pv i hN hv hd hcd)
def br:PDN X (.Name x pos) (am i):=FK i (pv i hN hv hd hcd)
def sw:uY X (.Name x pos) (ik i):=Cd i (pv i hN hv hd hcd)
def uB:PDI X tg (.Name x pos) (iL i):=CO i (pv i hN hv hd hcd)
end
def nP{g:Dv}(a:iH X es g)(hN:X.N[i]?=some x:=by rfl)(hv:Vis X.env.scope x:=by first|exact Or.inl rfl|exact Or.inr (Or.inl rfl)|exact Or.inr (Or.inr rfl))(hd:nDb x:=by decide)(hcd:nDc x:=by decide)
  (h:starEach (.Name x pos::es) X.env=(false,eval (.Name x pos) X.env)::starEach es X.env:=by rfl):iH X (.Name x pos::es) (aB i g):=GI i (pv i hN hv hd hcd) a h
section
variable   {f:Dd} 
def cJ(he:PDE X e f)(hi:X.N[i]?=some x:=by rfl)(hx:Loc X.env.scope x:=by first|exact .inl rfl|exact .inr rfl)(h:swapsWith e (some (.Name x pos')) pos.line X.env=pure false:=by rfl)(a:FnL X x:=by first|exact .inl rfl|exact .inr rfl|assumption)(hN:decide X.N.Nodup=true:=by kernel_rfl) :
  PD1 X (.Assign [.Name x pos'] e pos) (aT i f):=Fz (ndI hN) hi hx he h a
def oA(he:PDO X e fo)(hi:X.N[i]?=some x:=by rfl)(hx:Loc X.env.scope x:=by first|exact .inl rfl|exact .inr rfl)(h:swapsWith e (some (.Name x pos')) pos.line X.env=pure false:=by rfl)(a:FnL X x:=by first|exact .inl rfl|exact .inr rfl|assumption)(hN:decide X.N.Nodup=true:=by kernel_rfl) :
  PD1 X (.Assign [.Name x pos'] e pos) (dC i fo):=vC (ndI hN) hi hx he h a
end
def lI(hi:X.N[i]?=some x:=by rfl)(hx:Loc X.env.scope x:=by first|exact .inl rfl|exact .inr rfl)(h:FnL X x:=by first|exact .inl rfl|exact .inr rfl|assumption)(hN:decide X.N.Nodup=true:=by kernel_rfl):PDG X (.Name x pos) [i] (setV i):=zm (ndI hN) hi hx h
def pgI(hi:X.N[i]?=some x:=by rfl)(hx:Loc X.env.scope x:=by first|exact .inl rfl|exact .inr rfl)(h:FnL X x:=by first|exact .inl rfl|exact .inr rfl|assumption)(hN:decide X.N.Nodup=true:=by kernel_rfl):PG X (.Name x pos) (pq i):=wC (ndI hN) hi hx h
end
section
variable      {f:Dl}{st:Dq}  {e:Dd}{y:Str}{py:Pos} (i:Nat) (N:List Str) (own:Nat) (ix is:List Nat) (hi:PDI X tg iter f)
  (hg:∀{s H fp pz},PDG (blk X scope N s H fp pz) tg is st) (hc:∀{s H fp pz},xR (blk X scope N s H fp pz) ifs (tB' X.K c)) (he:∀{s H fp pz},PDE (blk X scope N s H fp pz) elt e)
section
variable(hcalm:X.calm=true:=by rfl) (b:Ch X.env.scope scope=true:=by kernel_rfl) (cp:Bw X.N scope N own ix=true:=by kernel_rfl) (his:(is.all λj=>decide (j < own))=true:=by kernel_rfl) (hnames:decide (∀y∈scope.names,y.2=.local->scope.names.lookup y.1=some .local)=true:=by kernel_rfl)
  (hs:FsI iter X:=by intro _;rfl)
include hi hg hc he hcalm b cp his hnames hs
def wR:PDO X (.ListComp elt [⟨tg,iter,ifs,0⟩] scope pos) (asL (fJ own ix f st c e)):=
 zK hcalm (Gk _ rfl b) (G4 _ rfl cp) (EO his) hi (λ_ _ _ _=>hg) (λ_ _ _ _=>hc) (λ_ _ _ _=>he) (YV hnames) hs
end
section
variable(hiN:X.N[i]?=some y:=by rfl) (hx:Loc X.env.scope y:=by first|exact .inl rfl|exact .inr rfl) (hN:decide X.N.Nodup=true:=by kernel_rfl) (hcalm:X.calm=true:=by rfl) (b:Ch X.env.scope scope=true:=by kernel_rfl) (cp:Bw X.N scope N own ix=true:=by kernel_rfl) (his:(is.all λj=>decide (j < own))=true:=by kernel_rfl) (hnames:decide (∀y∈scope.names,y.2=.local->scope.names.lookup y.1=some .local)=true:=by kernel_rfl)
  (hsw:swapsWith (.ListComp elt [⟨tg,iter,ifs,0⟩] scope pos) (some (.Name y py)) spos.line X.env=pure true:=by rfl)
  (hs:FsI iter X:=by intro _;rfl) (hf:FnL X y:=by first|exact .inl rfl|exact .inr rfl|assumption)
include hf hiN hx hN hi hg hc he hcalm b cp his hnames hs hsw
end
end
section
variable  {k:Nat}      {g:Dv}    
def pcI(G:FnOk X.prog X.w X.K X.mg X.base CX0 k f fd (bQ sd) (spD X.K m))(D:Df X.K q sd f fd/\X.mg (fz sd)=some (.ref f))(a:Room k' X.A)(i:iH X (e::es) g)(hx:fz sd=x:=by rfl)(b:k<=k':=by decide)(c:Gl X x:=by rfl)
  (hd:nDb x:=by decide) (he:starEach (e::es) X.env=(false,eval e X.env)::starEach es X.env:=by rfl) (h:(backTo pos (starEach es X.env)).any (·.1)=false:=by rfl):PDE X (.Call (.Name x p) (e::es) [] pos) (cq m g):=
 Dp G (a.mono b) c (hx ▸ D.2) D.1.fn.kp D.1.bd i hd he h
def poI(G:FnOk X.prog X.w X.K X.mg X.base CX0 k f fd (bQ sd) (spD X.K m))(D:Df X.K q sd f fd/\X.mg (fz sd)=some (.ref f))(a:Room k' X.A)(i:iH X (e::es) g)(hx:fz sd=x:=by rfl)(b:k<=k':=by decide)(c:Gl X x:=by rfl)
  (hd:nDb x:=by decide) (he:starEach (e::es) X.env=(false,eval e X.env)::starEach es X.env:=by rfl) (h:(backTo pos (starEach es X.env)).any (·.1)=false:=by rfl):PDO X (.Call (.Name x p) (e::es) [] pos) (nh m g):=
 Ai G (a.mono b) c (hx ▸ D.2) D.1.fn.kp D.1.bd i hd he h
end
def pfI{f:Dl}{st:Dq}(hi:PDI X tg iter f)(b:PDG X tg is st)(e:PDS X body g)(a:PassesOwn (model X.prog X.w) X.A X.env X.xe:=by exact ZS)(c:X.calm=true:=by rfl)
  (h:FsI iter X:=by intro _;rfl):PD1 X (.For tg iter body [] pos) (jD f st g):=E4 a c hi b e h
structure Rw where
 (i a m t h c:Nat)
def lno:Stmt->Int
 |.FunctionDef _ _ _ _ _ _ _ _ _ p=>p.line
 |_=>0
def kE(P:Params)(x:Str)(t:Nat)(v:Value):DictEntry:=⟨PyData.keyHash P x,.str x t,v⟩
def cO(n q:Str)(t:Nat)(l a:Int)(r:Nat)(c:Bool)(h:Nat)(f:Int):Obj:={cls:=.type "code",data:=.fields #[.str n t,.str q (t+1),.str "/claim/cut.py" (t+2),.int l 0,.int a 0,.int 0 0,.int 0 0,.int 3 0,.ref r,.bool true,.int f 0,.ref (r+1),.none,if c then .ref (r+2)else .none,if c then .ref (r+3)else .none,.ref (if c then r+4 else r+2),.int h 0,.int l 0,.str "/claim/cut.py" (h+1)]}
def eO(w a:Nat)(n:Str)(s x t u:Nat):Addr×Obj:=(a,{cls:=.type "type",data:=.cls {name:=n,bases:=[.ref w],mro:=[.ref a,.ref w,.type "ValueError",.type "Exception",.type "BaseException",.type "object"],ns:=s,qualname:=n},slots:=#[some (.ref x),none,some (.str n t),some (.str n u),some (.builtin "ValueError.__new__"),some (.bool true)]})
abbrev DX:=DF->Option (D×DF)
def tX(K:Kq)(f:DX):TE:=λb H Q=>∃P F c r,f c=some r/\DInv K P F H c b/\∀v a e,Same F a->DInv K P a e r.2 b->Rep K a v r.1->Q v e
def PX(X:Cx)(e:Expr)(f:DX):Prop:=PE X e (tX X.K f)
noncomputable def ah (f:Dd):DX:=λρ=>(f ρ).map (·,ρ)
def aF{e c:Type}{o:Option e}{f:e->c}{b:c}(h:o.map f=some b):∃a,o=some a/\b=f a:=by obtain⟨a,i,g⟩:=Option.map_eq_some_iff.mp h;exact⟨a,i,g.symm⟩
section
variable    {f:DX}
def aq{g:Dd}(h:PDE X e g):PX X e (ah g):=PE.imp h λl H Q=>un7 λP F b r f I k=>by
 obtain⟨d,q,rfl⟩:=aF f;exact⟨P,F,b,d,q,I,λv j i a c=>k v j i a.ext (I.evo a) c⟩
def aY(i:Nat)(f:DX):DF->Option RES:=λa=>(f a).map λr=>.nx (r.2.set i (some (.v r.1)))
def e7(i:Nat)(he:PX X e f)(hi:X.N[i]?=some x:=by rfl)(hx:Loc X.env.scope x:=by first|exact .inl rfl|exact .inr rfl)(h:swapsWith e (some (.Name x pos')) pos.line X.env=pure false:=by rfl)(g:FnL X x:=by first|exact .inl rfl|exact .inr rfl|assumption)(hN:decide X.N.Nodup=true:=by kernel_rfl) :
  PD1 X (.Assign [.Name x pos'] e pos) (aY i f):=PS.imp (mw (ndI hN) hi hx he h g) λE p H=>un7 λP F a r c I k=>by
 obtain⟨d,q,rfl⟩:=aF c;exact⟨P,F,a,d,q,I,λv o m j l b=>k _ o m j (l.setV i b)⟩
def d4(f:DX):DF->Option RES:=λa=>(f a).map λr=>.rt (.v r.1) r.2
def eR(h:PX X e f):PD1 X (.Return (some e) pos) (d4 f):=PS.imp (mW h) λE a H=>un7 λP F b r g I k=>by
 obtain⟨d,q,rfl⟩:=aF g;exact⟨P,F,b,d,q,I,λv m l i j c=>k v a m l i j c⟩
def bG(f:DX):DF->Option RES:=λa=>(f a).map λr=>.nx r.2
def dM(h:PX X e f)(c:swapsWith e none pos.line X.env=pure false:=by rfl):PD1 X (.Expr e pos) (bG f):=PS.imp (c9 h c) λE a H=>un7 λP F b r g I k=>by
 obtain⟨d,q,rfl⟩:=aF g;exact⟨P,F,b,d,q,I,λv m l i j _=>k a m l i j⟩
end
def spO(K:Kq)(f:Dz):Sp:=λi H Q _=>∃P F a c o x h d,i=.ref a::c/\f o x=some (h,d)/\DHp P F H/\ORep K F H (λb=>F b=none/\P b=none) o a/\DVs K P F H x c /\
 ∀v e g,Same F e->DHp P e g->ORep K e g (λb=>e b=none/\P b=none) h a->Rep K e v d->Q v g
def Ea(n p:Nat)(g:Dw)(o:OD)(xs:List DV)(q:OD×D):Prop:=xs.length+1=p/\∀a,∃r,g (bB n p (.own o (some a)::xs))=some r/\k9 a q.1 q.2 r
noncomputable def gm (n p:Nat)(g:Dw)(o:OD)(xs:List DV):Option (OD×D):=
 open Classical in if h:∃q,Ea n p g o xs q then some h.choose else none
def vZ{n p:Nat}{o:OD}{q:OD×D}(h:gm n p g o xs=some q):Ea n p g o xs q:=by
 unfold gm at h;split at h
 ·rename_i a;rw[<-Yu h];exact a.choose_spec
 ·cases h
def cF{n p:Nat}{o:OD}{d:D}(f:xs.length+1=p)(h:∀a,∃r,g (bB n p (.own o (some a)::xs))=some r/\k9 a o' d r):gm n p g o xs=some (o',d):=by
 have b:∃q,Ea n p g o xs q:=⟨(o',d),f,h⟩
 unfold gm;rw[dif_pos b];obtain⟨_,i⟩:=b.choose_spec;obtain⟨r,e,q⟩:=i 0;obtain⟨l,j,c⟩:=h 0;rw[j]at e;cases e;exact YM some (pJ q c)
def DInv.startO{F:Hp}{a:Addr}{o:OD}(N:List Str)(p:Nat)(h:DHp P F H)(j:ORep K F H (λb=>F b=none/\P b=none) o a)(r:DVs K P F H xs vs)(l:xs.length+1=p) :
  DInv K P F H (bB N.length p (.own o (some a)::xs)) (L2.start N (.ref a::vs)):=by
 refine⟨h,?_,λ_=>some 0,λi x e=>?_⟩
 ·unfold bB L2.start;rw[Yb,Yb,Yc,Yc,Yo,Yo,Yh,Yh,<-r.length,l]
 ·have g:=gZ e;cases i with
  |zero=>
   cases g;exact⟨.ref a,eM (i:=0) rfl,a,rfl,j.mono (Same.refl _) λb u q m=>⟨m,q.1,q.2,rfl⟩,λb z=>by cases z;rfl⟩
  |succ i=>
   obtain⟨c,v,s,f⟩:=r.get (i:=i) (x:=x) g;refine⟨v,eM (i:=i+1) (by simpa using s),?_⟩;cases x with
   |own o t=>cases c
   |v d=>exact f
   |bor o=>exact f
def Fun.okO{P:Program}{k:Nat}(F:Fun K x qual st f fd)(S:FnScope N ps (defScope st))
  (l:∀{cdv:Value}{A:Around}{outer:List Env}{s:Shared}{H:Hp}{E:XK},Room k (A.deeper (envOfC qual (defScope st) s.heap.objs.size f cdv))->
   PDS (bM CX0 P w K mg base N qual (defScope st) f cdv A outer s H E).nox (defBody st) g):FnOk P w K mg base CX0 (k+1) f fd ps (spO K (gm N.length ps.length g)):=by
 refine F.ok S (λX H Q E L=>?_) λcdv A outer s H X Q E Y h=>?_
 ·obtain⟨O,R,a,B,o,U,T,d,e,M,_,_,J,_⟩:=L;rw[e,Yh,<-J.length];exact(vZ M).1
 ·refine⟨_,l Y,?_⟩;obtain⟨O,R,a,B,o,U,T,d,rfl,M,hp,ho,J,hQ⟩:=h;obtain⟨hl,Z⟩:=vZ M;obtain⟨r,hg,z⟩:=Z a;have I:=DInv.startO N ps.length hp ho J hl;refine⟨O,R,_,r,hg,I,?_⟩;have fin:∀(c:DF) (m:St) (i j:Hp) (v:V),c[0]?=some (some (.own T (some a)))->Same R i->DInv K O i j c m->Rep K i v d->Q v j:=λc m i j v y e p C=>by
   obtain⟨v',_,a',rfl,h3,h4⟩:=p.at y;have ea:=h4 a rfl;subst ea;exact hQ v i j e p.toDHp (h3.mono (Same.refl _) λb u q hb=>⟨hb,q.1,q.2.1⟩) C
  cases r with
  |nx c=>(obtain⟨y,rfl⟩:=z;exact λm i j e p=>fin c m i j .non y e p .non)
  |rt x c=>(obtain⟨rfl,y⟩:=z;exact λv m i j e p C=>fin c m i j v y e p C)
  |bk c=>exact z.elim
  |ct c=>exact z.elim
def Df.okO{P:Program}         {k:Nat}  (F:Df K q st f fd) (N:List Str) (a:∀{cdv:Value}{A:Around}{outer:List Env}{s:Shared}{H:Hp}{E:XK},Room k (A.deeper (envOfC q (defScope st) s.heap.objs.size f cdv))->
      PDS (bM CX0 P w K mg base N q (defScope st) f cdv A outer s H E).nox (defBody st) g) (h:sj N (bQ st) (defScope st)=true:=by kernel_rfl):FnOk P w K mg base CX0 (k+1) f fd (bQ st) (spO K (gm N.length (bQ st).length g)):=
  F.fn.okO (scI N h) a
noncomputable def gdS (F H:Hp)(S:Addr->Prop):Hp:=λb=>open Classical in if S b then none else gd F H b
def gh{F:Hp}{S:Addr->Prop}{b:Addr}{o:HO}:gdS F H S b=some o↔¬S b/\F b=none/\H b=some o:=by
 unfold gdS;by_cases h:S b
 ·rw[Yi h];simp[h]
 ·rw[Yr h,iT];simp[h]
def ut{F:Hp}(s:Same F H)(S:Addr->Prop):DHp (gdS F H S) F H:=⟨s,λb o e=>(gh.mp e).2.2,λb o e=>(gh.mp e).2.1⟩
def DInv.hand{F:Hp}{o:OD}{t:Option Addr}(I:DInv K P F H ρ σ)(hi:ρ[i]?=some (some (.own o t))) :
  ∃(a:Addr) (S:Addr->Prop),σ[i]?=some (some (.ref a))/\ORep K F H (λb=>F b=none/\gdS F H S b=none) o a/\DHp (gdS F H S) F H /\
   ∀{F2 H2:Hp}{o':OD},Same F F2->DHp (gdS F H S) F2 H2->ORep K F2 H2 (λb=>F2 b=none/\gdS F H S b=none) o' a->DInv K P F2 H2 (ρ.set i (some (.own o' t))) σ:=by
 obtain⟨O,B⟩:=I.rep;obtain⟨v,C,a,rfl,R,M⟩:=B i _ hi;refine⟨a,λb=>O b=some i/\P b=none,C,R.mono (Same.refl _) λb u q h=>⟨h,q.1,?_⟩,ut I.sub _,λ{F2 H2 o'} g f N=>?_⟩
 ·unfold gdS;exact Yi ⟨q.2.2,q.2.1⟩
 ·have keep:∀b u,¬(O b=some i/\P b=none)->F b=none->H b=some u->H2 b=some u/\F2 b=none:=λb u h n q=>⟨f.pro b u (gh.mpr ⟨h,n,q⟩),f.dis b u (gh.mpr ⟨h,n,q⟩)⟩
  have A:∀b u,P b=some u->H2 b=some u/\F2 b=none:=λb u q=>keep b u (λz=>by rw[z.2]at q;cases q) (I.dis b u q) (I.pro b u q)
  refine⟨⟨f.sub,λb u q=>(A b u q).1,λb u q=>(A b u q).2⟩,by rw[Zb];exact I.len,λb=>open Classical in if H b=none then some i else O b,λj z Q=>?_⟩;rcases fS Q with⟨rfl,e,U⟩|⟨p,m⟩
  ·cases e;refine⟨_,C,a,rfl,N.mono (Same.refl _) λb u q h=>⟨h,q.1,?_⟩,M⟩;have n:F b=none:=by
    cases c:F b with
    |none=>rfl
    |some w=>have:=g b w c;rw[q.1]at this;cases this
   cases c:H b with
   |none=>exact⟨I.pro.free c,Yi c⟩
   |some w=>
    by_cases s:O b=some i/\P b=none
    ·exact⟨s.2,(Yr (by rw[c];simp)).trans s.1⟩
    ·have:=(gh (S:=λb=>O b=some i/\P b=none)).mpr ⟨s,n,c⟩;rw[q.2]at this;cases this
  ·obtain⟨w,T,y⟩:=B j z m;refine⟨w,T,?_⟩;cases z with
   |v d'=>exact Rep.same g y
   |own od t'=>
    obtain⟨c,rfl,x,l⟩:=y;refine⟨c,rfl,x.mono g λb E q h=>?_,l⟩;obtain⟨L,J⟩:=keep b E (λz=>by rw[q.2.2]at z;exact p (Yu z.1).symm) q.1 h;exact⟨L,J,q.2.1,(Yr (by rw[h];simp)).trans q.2.2⟩
   |bor od=>(obtain⟨c,rfl,x⟩:=y;exact⟨c,rfl,x.mono g λb u q h=>⟨h,q⟩⟩)
def cD(C:Addr)(mn:Str)(i:Nat)(m:Dz)(g:Dv):DX:=λa=>match a[i]? with
 |some (some (.own (.obj (some C') fs) t))=>if C'=C/\fs.lookup mn=none then(g a).bind λx=>if pW x=true then(m (.obj (some C') fs) x).map λr=>(r.2,a.set i (some (.own r.1 t)))else none else none
 |_=>none
def Ec{F:Hp}{ow:Addr->Prop}{a:Addr}{fs:List (Str×FO)}(h:ORep K F H ow (.obj (some C) fs) a):∃dx vs,H a=some (.ins C dx vs)/\All2 (λ(p:Str×V) (q:Str×FO)=>p.1=q.1/\FRep K F H ow q.2 p.2) vs fs:=by obtain⟨_,dx,vs,c,_,b⟩:=h;exact⟨dx,vs,c,b⟩
def dh{F:Hp}{ow:Addr->Prop}{n:Str}{vs:List (Str×V)}{fs:List (Str×FO)}(h:All2 (λ(p:Str×V) (q:Str×FO)=>p.1=q.1/\FRep K F H ow q.2 p.2) vs fs):(fs.lookup n=none->vs.lookup n=none)/\∀o,fs.lookup n=some o->∃v,vs.lookup n=some v/\FRep K F H ow o v:=by
 induction h with
 |nil=>exact⟨λ_=>rfl,λ_ e=>by cases e⟩
 |@cons p q _ _ h _ ih=>
  obtain⟨x,v⟩:=p;obtain⟨y,o⟩:=q;obtain⟨e,r⟩:=h;cases e;simp only[a8];by_cases e:n=x
  ·rw[Yi e,Yi e];exact⟨λz=>by(cases z),λa z=>by(cases z;exact⟨v,rfl,r⟩)⟩
  ·rw[Yr e,Yr e];exact ih
def ArgsS.vals{P F:Hp}  :∀{xs:List DV}{vs:List V},ArgsS K ρ σ F xs vs->(∀x∈xs,∃d,x=.v d)->DVs K P F H xs vs:=by
 intro xs vs h;induction h with
 |nil=>exact λ_=>.nil
 |v h _ ih=>exact λa=>.cons rfl h (ih λx m=>a x (Ye _ m))
 |b j h1 h2 _ ih=>
  intro a;obtain⟨d,e⟩:=a _ Yf;cases e
section
variable  {k:Nat}         {g:Dv}
def Db{E:XK}:∀σ H Q,tX K (cD C mn i mM g) σ H Q->j5 C mn (spO K mM) [] E (cf i) (tLV K g) σ H Q:=λσ H Q=>un7 λP F p r h I k=>by
 unfold cD at h;split at h
 ·rename_i C' fs t q;split at h
  ·rename_i L;obtain⟨rfl,J⟩:=L;obtain⟨x,A,h⟩:=Yd.mp h;split at h
   ·rename_i X;obtain⟨c,z,rfl⟩:=aF h;obtain⟨a,S,f,O,hp,back⟩:=I.hand q;obtain⟨U,s,N,M⟩:=Ec O;refine⟨_,f,a,U,s,rfl,N,(dh M).1 J,P,F,p,x,A,I,λu o H1 m y=>?_⟩;obtain⟨a1,Y,j,T,R,b⟩:=(I.evo m).hand q;rw[f]at j;cases j;refine⟨gdS o H1 Y,o,a,u,.obj (some C') fs,x,c.1,c.2,by simp,z,R,T,y.vals (z6 X),λv F2 Z l e B w=>?_⟩;exact k v F2 Z (m.ext.trans l) (b l e B) w
   ·cases h
  ·cases h
 ·cases h
def zv{E:XK}:∀σ H Q,tX K (cD C mn i mM g0) σ H Q->j5 C mn (spO K mM) [] E (cf i) oq σ H Q:=λσ H Q h=>by
 obtain⟨v,f,a,g,fs,rfl,e,c,P,F,j,x,q,I,b⟩:=Db (E:=E) σ H Q h;cases q;exact⟨_,f,a,g,fs,rfl,e,c,b [] F H (Evo.refl I.toDHp) .nil⟩
def mK(i:Nat){pl:Sem Bool}(c:Cls X.K C)(e:Meth X.K C mn f)(G:FnOk X.prog X.w X.K X.mg X.base CX0 k f fd ps (spO X.K mM))(b:Room k' X.A)(j:Binds X.K fd ps [])(he:PE X o (cf i))(g:k<=k':=by decide)
  (h:eval (.Call (.Attribute o mn apos) [] [] pos) X.env=(do
   let a <-eval o X.env
   standAt apos.atName
   let (f,first) <-holding [a] (getMethod a mn pl)
   callWith pos f first (backTo pos (starEach [] X.env)) (backToKw pos (keywordEach [] X.env))):=by rfl):PX X (.Call (.Attribute o mn apos) [] [] pos) (cD C mn i mM g0):=
 (nJ he c e G (b.mono g) j .nil jW h).imp zv
end
def fD(n:Str)(o:FO):List (Str×FO)->List (Str×FO)
 |[]=>[(n,o)]
 |(m,x)::r=>if m=n then(m,o)::r else(m,x)::fD n o r
abbrev Kids(K:Kq)(F H:Hp)(ow:Addr->Prop)(vs:List (Str×V))(fs:List (Str×FO)):Prop:=All2 (λ(p:Str×V) (q:Str×FO)=>p.1=q.1/\FRep K F H ow q.2 p.2) vs fs
def FO.own:FO->Bool
 |.d _=>false
 |_=>true
section
variable  {F:Hp}{ow:Addr->Prop}{n:Str}{vs:List (Str×V)}{fs:List (Str×FO)}{o o':FO}{v:V}{b:Addr}{u:HO}
def FRep.keep(h:FRep K F H ow o v)(k:∀c∈oJ o v,H' c=H c):FRep K F H' ow o v:=by
 cases o with
 |d x=>exact h
 |lst ds=>obtain⟨c,rfl,e,w,b,a⟩:=h;exact⟨c,rfl,e,w,(k c (ZH c)).trans b,a⟩
 |dK ds=>obtain⟨c,rfl,e,w,b,a⟩:=h;exact⟨c,rfl,e,w,(k c (ZH c)).trans b,a⟩
def b_(p:Str×V)(q:Str×FO)(vs:List (Str×V))(fs:List (Str×FO)):eF (p::vs) (q::fs)=oJ q.2 p.2++eF vs fs:=rfl
def Kids.keep(h:Kids K F H ow vs fs):(∀c∈eF vs fs,H' c=H c)->Kids K F H' ow vs fs:=by
 induction h with
 |nil=>exact λ_=>.nil
 |cons r _ ih=>
  intro k;rw[b_]at k;exact .cons ⟨r.1,r.2.keep λc m=>k c (Xm _ m)⟩ (ih λc m=>k c (YX _ m))
def Kids.mem(h:Kids K F H ow vs fs):fs.lookup n=some o->vs.lookup n=some v->∀c∈oJ o v,c∈eF vs fs:=by
 induction h with
 |nil=>exact λe=>by cases e
 |@cons p q _ _ r _ ih=>
  obtain⟨x,w⟩:=p;obtain⟨y,z⟩:=q;obtain⟨e,r⟩:=r;cases e;intro b a c m;rw[a8]at b a;rw[b_];by_cases e:n=x
  ·rw[Yi e]at b a;cases b;cases a;exact Xm _ m
  ·rw[Yr e]at b a;exact YX _ (ih b a c m)
def Kids.upd(h:Kids K F H ow vs fs):(eF vs fs).Nodup->fs.lookup n=some o->o.own=true->vs.lookup n=some (.ref b)->FRep K F (upd H b u) ow o' (.ref b)->o'.own=true->Kids K F (L2.upd H b u) ow vs (fD n o' fs)/\eF vs (fD n o' fs)=eF vs fs:=by
 have j:∀{o:FO},o.own=true->oJ o (.ref b)=[b]:=λ{o} z=>by cases o<;>first|rfl|cases z
 induction h with
 |nil=>exact λ_ e=>by cases e
 |@cons p q vs fs r t ih=>
  obtain⟨x,w⟩:=p;obtain⟨y,z⟩:=q;obtain⟨e,r⟩:=r;cases e;intro g f i a s l;rw[a8]at f a;rw[b_]at g ⊢;unfold fD;by_cases e:n=x
  ·rw[Yi e]at f a;cases f;cases a;rw[Yi e.symm,b_];rw[j i]at g ⊢;rw[j l];exact⟨.cons ⟨rfl,s⟩ (Kids.keep t λc m=>ax λz=>by subst z;exact(YF.mp g).1 m),rfl⟩
  ·rw[Yr e]at f a;rw[Yr λz=>e z.symm,b_];obtain⟨C,B⟩:=ih (YO.mp g).2.1 f i a s l;have m:=Kids.mem t f a b (by rw[j i];exact ZH b);exact⟨.cons ⟨rfl,r.keep λc A=>ax λz=>by subst z;exact(YO.mp g).2.2 _ A _ m rfl⟩ C,by rw[B]⟩
def Kids.put{d:D}{b:V}(h:Kids K F H ow vs fs):fs.lookup n=some (.d d)->Rep K F b d'->Kids K F H ow (c_ n b vs) (fD n (.d d') fs)/\eF (c_ n b vs) (fD n (.d d') fs)=eF vs fs:=by
 induction h with
 |nil=>exact λe=>by cases e
 |@cons p q vs fs r t ih=>
  obtain⟨x,w⟩:=p;obtain⟨y,z⟩:=q;obtain⟨e,r⟩:=r;cases e;intro a c;rw[a8]at a;unfold c_ fD;by_cases e:n=x
  ·rw[Yi e]at a;cases a;rw[Yi e.symm,Yi e.symm];exact⟨.cons ⟨rfl,c⟩ t,rfl⟩
  ·rw[Yr e]at a;rw[Yr λz=>e z.symm,Yr λz=>e z.symm,b_,b_];obtain⟨g,f⟩:=ih a c;exact⟨.cons ⟨rfl,r⟩ g,by rw[f]⟩
end
section
variable  {F:Hp}    {C:Option Addr}{fs:List (Str×FO)}{t:Option Addr}{n:Str}
def DInv.one(I:DInv K P F H ρ σ){b:Addr}{u:HO}{o:OD}(hi:ρ[i]?=some (some (.own o t)))(O:Addr->Option Nat)(p:∀(j:Nat) (x:DV),ρ[j]?=some (some x)->∃v,σ[j]?=some (some v)/\DVRep K P F H (λc=>O c=some j) x v)
  (J:F b=none) (B:P b=none) (s:O b=some i) {a:Addr} (m:σ[i]?=some (some (.ref a))) (C:ORep K F (upd H b u) (λc=>F c=none/\P c=none/\O c=some i) o' a):DInv K P F (upd H b u) (ρ.set i (some (.own o' t))) σ:=by
 refine⟨⟨λc w q=>?_,λc w q=>?_,I.dis⟩,by rw[Zb];exact I.len,O,λj z E=>?_⟩
 ·rw[ax λz=>by subst z;rw[J]at q;cases q];exact I.sub c w q
 ·rw[ax λz=>by subst z;rw[B]at q;cases q];exact I.pro c w q
 ·rcases fS E with⟨rfl,e,R⟩|⟨g,f⟩
  ·cases e;obtain⟨v,y,U,rfl,S,A⟩:=p i _ hi;rw[m]at y;cases y;exact⟨_,m,a,rfl,C,A⟩
  ·obtain⟨w,N,l⟩:=p j z f;refine⟨w,N,?_⟩;cases z with
   |v d=>exact l
   |own od t'=>
    obtain⟨c,rfl,M,h⟩:=l;exact⟨c,rfl,M.mono (Same.refl _) λT Q q L=>⟨by rw[ax λz=>by subst z;rw[q.2.2]at s;exact g (Yu s).symm];exact L,q⟩,h⟩
   |bor od=>exact l
def DInv.kid(I:DInv K P F H ρ σ)(hi:ρ[i]?=some (some (.own (.obj C fs) t))){o:FO}(h:o.own=true)(s:fs.lookup n=some o) :
  ∃a dx vs b,σ[i]?=some (some (.ref a))/\H a=some (bxO C dx vs)/\F a=none/\vs.lookup n=some (.ref b)/\F b=none/\FRep K F H (λ_=>True) o (.ref b) /\
   ∀u (o':FO),o'.own=true->(∀ow,ow b->FRep K F (upd H b u) ow o' (.ref b))->DInv K P F (upd H b u) (ρ.set i (some (.own (.obj C (fD n o' fs)) t))) σ:=by
 obtain⟨O,A⟩:=I.rep;obtain⟨v,E,a,rfl,⟨y,dx,vs,B,l,f⟩,R⟩:=A i _ hi;obtain⟨w,m,j⟩:=(dh f).2 o s;have N:∃b,w=.ref b/\(F b=none/\P b=none/\O b=some i):=by
  cases o with
  |d x=>cases h
  |lst ds=>obtain⟨b,e,q,_⟩:=j;exact⟨b,e,q⟩
  |dK ds=>obtain⟨b,e,q,_⟩:=j;exact⟨b,e,q⟩
 obtain⟨b,rfl,g⟩:=N;have Q:oJ o (.ref b)=[b]:=by cases o<;>first|rfl|cases h
 have J:b≠a:=λz=>(YF.mp l).1 (z ▸ Kids.mem f s m b (by rw[Q];exact ZH b))
 refine⟨a,dx,vs,b,E,B,y.1,m,g.1,?_,λu o' p new=>?_⟩
 ·cases o with
  |d x=>cases h
  |lst ds=>obtain⟨c,e,_,q⟩:=j;exact⟨c,e,trivial,q⟩
  |dK ds=>obtain⟨c,e,_,q⟩:=j;exact⟨c,e,trivial,q⟩
 ·obtain⟨M,L⟩:=Kids.upd f (YF.mp l).2 s h m (new _ g) p;exact I.one hi O A g.1 g.2.1 g.2.2 E ⟨y,dx,vs,by rw[ax λz=>J z.symm];exact B,by rw[L];exact l,M⟩
def DInv.fld(I:DInv K P F H ρ σ)(hi:ρ[i]?=some (some (.own (.obj C fs) t))){d:D}(h:fs.lookup n=some (.d d)) :
  ∃a dx vs v,σ[i]?=some (some (.ref a))/\H a=some (bxO C dx vs)/\F a=none/\vs.lookup n=some v/\Rep K F v d/\vs.length=fs.length /\
   ∀f d',Rep K F f d'->DInv K P F (upd H a (bxO C dx (c_ n f vs))) (ρ.set i (some (.own (.obj C (fD n (.d d') fs)) t))) σ:=by
 obtain⟨O,j⟩:=I.rep;obtain⟨v,l,a,rfl,⟨o,dx,vs,x,g,b⟩,A⟩:=j i _ hi;obtain⟨w,q,y⟩:=(dh b).2 _ h;refine⟨a,dx,vs,w,l,x,o.1,q,y,b.length,λf d' p=>?_⟩;have e:Kids K F (upd H a (bxO C dx (c_ n f vs))) (λc=>F c=none/\P c=none/\O c=some i) vs fs:=Kids.keep b λc m=>ax λz=>by subst z;exact(YF.mp g).1 m
 obtain⟨u,s⟩:=Kids.put e h p;exact I.one hi O j o.1 o.2.1 o.2.2 l ⟨o,dx,c_ n f vs,aC,by rw[s];exact g,u⟩
end
def jg(C:Option Addr)(i:Nat)(ρ:DF):Option (List (Str×FO)):=match ρ[i]? with
 |some (some (.own (.obj C' fs) _))=>if C'=C then some fs else none
 |some (some (.bor (.obj C' fs)))=>if C'=C then some fs else none
 |_=>none
def zH{C:Option Addr}{fs:List (Str×FO)}(h:jg C i ρ=some fs):(∃t,ρ[i]?=some (some (.own (.obj C fs) t)))\/ρ[i]?=some (some (.bor (.obj C fs))):=by
 unfold jg at h;split at h
 ·rename_i a f t q;split at h
  ·rename_i e;subst e;cases h;exact .inl ⟨t,q⟩
  ·cases h
 ·rename_i a f q;split at h
  ·rename_i e;subst e;cases h;exact .inr q
  ·cases h
 ·cases h
noncomputable def dR (C:Option Addr)(i:Nat)(n:Str):DF->Option D:=λa=>(jg C i a).bind λfs=>match fs.lookup n with
 |some (.d d)=>some d
 |_=>none
noncomputable def aS (C:Option Addr)(i:Nat)(n:Str):DF->Option D:=λa=>(jg C i a).bind λfs=>match fs.lookup n with
 |some (.lst ds)=>some (.lst ds)
 |some (.dK ds)=>some (.dK ds)
 |_=>none
def DInv.obj{F:Hp}{C:Option Addr}{fs:List (Str×FO)}(I:DInv K P F H ρ σ)(h:jg C i ρ=some fs):∃a dx vs,σ[i]?=some (some (.ref a))/\H a=some (bxO C dx vs)/\F a=none/\Kids K F H (λb=>F b=none) vs fs:=by
 have f:=zH h;have c:∃v,σ[i]?=some (some v):=by
  rcases f with⟨t,q⟩|q
  ·obtain⟨v,e,_⟩:=I.at q;exact⟨v,e⟩
  ·obtain⟨v,e,_⟩:=I.at q;exact⟨v,e⟩
 obtain⟨v,c⟩:=c;obtain⟨a,rfl,o,dx,vs,j,_,g⟩:=I.slot c f;exact⟨a,dx,vs,c,j,o,g⟩
section
variable   {n:Str}  
def pfB(i:Nat)(c:Cls X.K C)(j:NoAttr X.K C n)(h:PE X e (cf i))(m:attributeBase e n X.env (eval e X.env)=eval e X.env:=by rfl):PDE X (.Attribute e n pos) (dR (some C) i n):=
 (js h m).imp λy H Q=>un7 λP F z d b I k=>by
  obtain⟨fs,q,b⟩:=Yd.mp b;split at b
  ·rename_i A g;cases b;obtain⟨a,x,f,s,p,_,o⟩:=I.obj q;obtain⟨w,l,u⟩:=(dh o).2 _ g;exact⟨_,s,a,C,x,f,w,rfl,p,c,j,l,k w F H (Evo.refl I.toDHp) u⟩
  ·cases b
def prB(i:Nat)(c:Cls X.K C)(x:NoAttr X.K C n)(h:PE X e (cf i))(E:attributeBase e n X.env (eval e X.env)=eval e X.env:=by rfl):PDR X (.Attribute e n pos) (aS (some C) i n):=
 (js h E).imp λJ H Q=>un7 λP F L d f I k=>by
  obtain⟨fs,q,f⟩:=Yd.mp f;obtain⟨a,B,s,A,z,_,y⟩:=I.obj q;split at f
  ·rename_i p l;cases f;obtain⟨w,m,b,rfl,o,u,j,g⟩:=(dh y).2 _ l;exact⟨_,A,a,C,B,s,_,rfl,z,c,x,m,k _ F H (Evo.refl I.toDHp) (.inr ⟨b,.lst p,u,rfl,o,j,g,rfl,rfl⟩)⟩
  ·rename_i p l;cases f;obtain⟨w,m,b,rfl,o,u,j,g⟩:=(dh y).2 _ l;exact⟨_,A,a,C,B,s,_,rfl,z,c,x,m,k _ F H (Evo.refl I.toDHp) (.inr ⟨b,.dK p,u,rfl,o,j,g,rfl,rfl⟩)⟩
  ·cases f
def eA(C:Option Addr)(i:Nat)(n:Str)(k:FO->Option FO):DF->Option DF:=λa=>match a[i]? with
 |some (some (.own (.obj C' fs) t))=>if C'=C/\fs.length<1000 then(fs.lookup n).bind λo=>(k o).map λb=>a.set i (some (.own (.obj C (fD n b fs)) t))else none
 |_=>none
def eG{C:Option Addr}{k:FO->Option FO}(h:eA C i n k ρ=some ρ'):∃fs t o o',ρ[i]?=some (some (.own (.obj C fs) t))/\fs.lookup n=some o/\k o=some o'/\fs.length<1000/\ρ'=ρ.set i (some (.own (.obj C (fD n o' fs)) t)):=by
 unfold eA at h;split at h
 ·rename_i f fs t q;split at h
  ·rename_i e;obtain⟨rfl,c⟩:=e;obtain⟨o,b,h⟩:=Yd.mp h;obtain⟨o',a,rfl⟩:=aF h;exact⟨fs,t,o,o',q,b,a,c,rfl⟩
  ·cases h
 ·cases h
def jh(C:Option Addr)(i:Nat)(n:Str)(fe:Dd):DF->Option RES:=λc=>(fe c).bind λy=>(eA C i n (λo=>match o,y with|.d (.int a),.int b=>some (.d (.int (a+b)))|_,_=>none) c).map .nx
def kt(i:Nat)(c:Cls X.K C)(S:NoAttr X.K C n)(h:PE X o (cf i))(he:PDE X e fe):PD1 X (.AugAssign (.Attribute o n tpos) .Add e pos) (jh (some C) i n fe):=
 PS.imp (xq h he EQ) λE L H=>un7 λP F N r g I k=>by
  obtain⟨y,R,g⟩:=Yd.mp g;obtain⟨M,q,rfl⟩:=aF g;obtain⟨fs,t,o1,o2,u,s,f,j,rfl⟩:=eG q;split at f
  ·rename_i a b;cases f;obtain⟨p,J,m,v,z,x,Z,Y,U,T,_⟩:=I.fld u s;cases U;refine⟨_,z,p,C,J,m,_,rfl,x,c,S,Y,P,F,N,_,R,I,λy F1 H1 l Q=>?_⟩;cases Q;obtain⟨p',dx',O,v',B,A,g3,g4,g5,gl,back⟩:=(I.evo l).fld u s;rw[z]at B;cases B;have w:=(l.keep p _ x Z).1;rw[w]at A;cases A;exact⟨a,b,rfl,rfl,J,m,w,by rw[T];exact j,k L F1 _ l.ext (back _ _ .int)⟩
  ·cases f
def rc{C:Option Addr}{f:Addr}{vs c:List (Str×V)}(h:bxO C dx vs=bxO C f c):vs=c:=by
 cases C with
 |some C=>injection h
 |none=>
  injection h with h;exact(List.map_inj_right (λa b e=>by obtain⟨_,_⟩:=a;obtain⟨_,_⟩:=b;cases e;rfl)).mp h
def DInv.kid2{C:Option Addr}{F:Hp}{fs:List (Str×FO)}{t:Option Addr}(I:DInv K P F H ρ σ)(hi:ρ[i]?=some (some (.own (.obj C fs) t))){o:FO}(h:o.own=true)(c:fs.lookup n=some o) :
  ∃a dx vs b,σ[i]?=some (some (.ref a))/\H a=some (bxO C dx vs)/\vs.lookup n=some (.ref b)/\F b=none/\FRep K F H (λ_=>True) o (.ref b)/\(∀{F1 H1:Hp},Evo P F H F1 H1->FRep K F1 H1 (λ_=>True) o (.ref b) /\
   ∀u (o':FO),o'.own=true->(∀ow,ow b->FRep K F1 (upd H1 b u) ow o' (.ref b))->DInv K P F1 (upd H1 b u) (ρ.set i (some (.own (.obj C (fD n o' fs)) t))) σ):=by
 obtain⟨a,dx,vs,b,g,f,x,e,w,s,_⟩:=I.kid hi h c;refine⟨a,dx,vs,b,g,f,e,w,s,λ{F1 H1} p=>?_⟩;obtain⟨B,z,q,A,m,l,_,j,_,y,back⟩:=(I.evo p).kid hi h c;rw[g]at m;cases m;rw[(p.keep a _ f x).1]at l;cases rc (Yu l);rw[e]at j;cases j;exact⟨y,back⟩
def n_(d:D):FO->Option FO
 |.lst ds=>if ds.length<16777216 then some (.lst (ds++[d]))else none
 |_=>none
def b9(C:Option Addr)(i:Nat)(n:Str)(f:Dd):DF->Option RES:=λa=>(f a).bind λd=>(eA C i n (n_ d) a).map .nx
def pV(i:Nat){f:Dd}(c:Cls X.K C)(Y:NoAttr X.K C n)(h:PE X o (cf i))(ha:PDE X e f)(hb:attributeBase o n X.env (eval o X.env)=eval o X.env:=by rfl)(j:attributeBase (.Attribute o n pos') "append" X.env (eval (.Attribute o n pos') X.env)=eval (.Attribute o n pos') X.env:=by rfl)
  (m:((backTo cpos (starEach [e] X.env)).all (λx=>!x.1)&&(backToKw cpos (keywordEach [] X.env)).all (λx=>x.1.isSome)
   && decide (([e]:List Expr).length+([]:List Keyword).length+(if([]:List Keyword).isEmpty then 0 else 1)<30))=true:=by rfl)
  (g:(apos.endLine == cpos.line)=true:=by rfl) (B:starEach [e] X.env=[(false,eval e X.env)]:=by rfl) (y:swapsWith (.Call (.Attribute (.Attribute o n pos') "append" apos) [e] [] cpos) none pos.line X.env=pure false:=by rfl) :
  PD1 X (.Expr (.Call (.Attribute (.Attribute o n pos') "append" apos) [e] [] cpos) pos) (b9 (some C) i n f):=
 PS.imp (c9 (jR YW ZE ZR gu (js h hb) (aI ha a_ B) j m g B rfl) y) λE L H=>un7 λP F N r z I k=>by
  obtain⟨d,R,z⟩:=Yd.mp z;obtain⟨M,q,rfl⟩:=aF z;obtain⟨fs,t,o1,o2,T,S,l,_,rfl⟩:=eG q;unfold n_ at l;split at l
  ·rename_i A;split at l
   ·rename_i Z;cases l;obtain⟨a,dx,O,b,h1,h2,h4,h5,⟨_,e0,_,u,J,p⟩,w⟩:=I.kid2 T (o:=.lst A) rfl S;cases e0;cases u with
    |lst us=>
     refine⟨_,h1,a,C,dx,O,_,rfl,h2,c,Y,h4,.inl ⟨rfl,us,SqL.of J⟩,P,F,N,d,R,I,λv F1 H1 s Q=>?_⟩;obtain⟨_,back⟩:=w s;have p:Reps X.K F us A:=p;refine⟨b,us,v,rfl,rfl,(s.keep b _ J h5).1,by rw[YL,p.length];exact Z,k L F1 _ s.ext ?_⟩;exact back _ (.lst (A++[d])) rfl λow U=>⟨b,rfl,U,_,aC,(p.same s.ext).append (.one Q)⟩
    |_=>exact p.elim
   ·cases l
  ·cases l
def Fy(es:List D):FO->Option FO
 |.lst ds=>if ds.length+es.length<=16777216 then some (.lst (ds++es))else none
 |_=>none
def sx(C:Option Addr)(i:Nat)(n:Str)(g:Dl):DF->Option RES:=λa=>(g a).bind λe=>(eA C i n (Fy e) a).map .nx
def BB(i:Nat){g:Dl}(c:Cls X.K C)(hn:NoAttr X.K C n)(h:PE X o (cf i))(ha:PDO X e (asL g))(hb:attributeBase o n X.env (eval o X.env)=eval o X.env:=by rfl)(j:attributeBase (.Attribute o n pos') "extend" X.env (eval (.Attribute o n pos') X.env)=eval (.Attribute o n pos') X.env:=by rfl)
  (p:((backTo cpos (starEach [e] X.env)).all (λx=>!x.1)&&(backToKw cpos (keywordEach [] X.env)).all (λx=>x.1.isSome)
   && decide (([e]:List Expr).length+([]:List Keyword).length+(if([]:List Keyword).isEmpty then 0 else 1)<30))=true:=by rfl)
  (f:(apos.endLine == cpos.line)=true:=by rfl) (M:starEach [e] X.env=[(false,eval e X.env)]:=by rfl) (A:swapsWith (.Call (.Attribute (.Attribute o n pos') "extend" apos) [e] [] cpos) none pos.line X.env=pure false:=by rfl) :
  PD1 X (.Expr (.Call (.Attribute (.Attribute o n pos') "extend" apos) [e] [] cpos) pos) (sx (some C) i n g):=
 PS.imp (c9 (jR YW Xs PySem.F.type_list_extend o3 (js h hb) (aI ha a_ M) j p f M rfl) A) λE Q H=>un7 λP F S r B I k=>by
  obtain⟨J,Y,B⟩:=Yd.mp B;obtain⟨R,q,rfl⟩:=aF B;obtain⟨fs,t,o1,o2,q1,Z,l,_,rfl⟩:=eG q;unfold Fy at l;split at l
  ·rename_i L;split at l
   ·rename_i hl;cases l;obtain⟨a,dx,U,b,h1,h2,h4,h5,⟨_,e0,_,u,N,s⟩,z⟩:=I.kid2 q1 (o:=.lst L) rfl Z;cases e0;cases u with
    |lst us=>
     refine⟨_,h1,a,C,dx,U,_,rfl,h2,c,hn,h4,.inl ⟨rfl,us,SqL.of N⟩,P,F,S,.lst J,by unfold asL;rw[Y];rfl,I,λb' O H1 y ho=>?_⟩;obtain⟨⟨n1,n2⟩,w,T,m⟩:=ho;obtain⟨_,back⟩:=z y;have s:Reps X.K F us L:=s;cases w with
     |lst ws=>
      have m:Reps X.K O ws J:=m;refine⟨b,b',us,ws,rfl,rfl,(y.keep b _ N h5).1,T,by rw[YL,s.length,m.length];exact hl,k Q O _ y.ext ?_⟩;exact back _ (.lst (L++J)) rfl λow ob=>⟨b,rfl,ob,_,aC,(s.same y.ext).append m⟩
     |_=>exact m.elim
    |_=>exact s.elim
   ·cases l
  ·cases l
def AM{C:Option Addr}{fs:List (Str×FO)}{t:Option Addr}(h:aS C i n ρ=some (.lst ds))(hi:ρ[i]?=some (some (.own (.obj C fs) t))):fs.lookup n=some (.lst ds):=by
 obtain⟨f,q,a⟩:=Yd.mp h;have:f=fs:=by unfold jg at q;rw[hi]at q;have b:(if C=C then some fs else none)=some f:=q;rw[Yi rfl]at b;exact(Yu b).symm
 subst this;split at a
 ·rename_i x c;cases a;exact c
 ·cases a
 ·cases a
def v5(y v:D):FO->Option FO
 |.dK kvs=>(kW y).bind λa=>if kvs.length<16777216 then some (.dK (ir kvs a v))else none
 |_=>none
def mC(C:Option Addr)(i:Nat)(n:Str)(fk fv:Dd):DF->Option RES:=λa=>(fv a).bind λv=>(fk a).bind λy=>(eA C i n (v5 y v) a).map .nx
def vU(j:Nat){fk:Dd}{i:Expr}(c:Cls X.K C)(hn:NoAttr X.K C n)(hu:X.A.units+64<cLine)(Z:PE X o (cf j))(hi:PDE X i fk)(hv:PDE X e fv)(hb:attributeBase o n X.env (eval o X.env)=eval o X.env:=by rfl)(Y:swapsWith e (some (.Subscript (.Attribute o n apos) i pos')) pos.line X.env=pure false:=by rfl) :
  PD1 X (.Assign [.Subscript (.Attribute o n apos) i pos'] e pos) (mC (some C) j n fk fv):=
 PS.imp (l9 (by omega) (js Z hb) hi hv Y) λE z H=>un7 λP F w r h I k=>by
  obtain⟨dv,O,h⟩:=Yd.mp h;obtain⟨dy,N,h⟩:=Yd.mp h;obtain⟨B,q,rfl⟩:=aF h;obtain⟨fs,t,o1,o2,S,R,f,_,rfl⟩:=eG q;unfold v5 at f;split at f
  ·rename_i g;obtain⟨U,Q,f⟩:=Yd.mp f;split at f
   ·rename_i hl;cases f;refine⟨P,F,w,_,O,I,λv x H1 s M=>?_⟩;obtain⟨a,dx,J,b,h1,h2,h4,h5,⟨_,e0,_,u,h6,l⟩,p⟩:=(I.evo s).kid2 S (o:=.dK g) rfl R;cases e0;cases u with
    |dK ws=>
     have l:RepsK X.K x ws g:=l;refine⟨_,h1,a,C,dx,J,_,rfl,h2,c,hn,h4,P,x,w,_,N,I.evo s,λy F2 H2 m L=>?_⟩;obtain⟨_,back⟩:=p m;have ey:=vI L Q;subst ey;refine⟨b,_,rfl,DPut.k (m.keep b _ h6 h5).1 (by rw[YL,l.length];exact hl),k z F2 _ (s.ext.trans m.ext) ?_⟩;exact back _ (.dK (ir g U dv)) rfl λow T=>⟨b,rfl,T,_,aC,(RepsK.same m.ext l).put (M.same m.ext)⟩
    |_=>exact l.elim
   ·cases f
  ·cases f
end
def Kids.add{F:Hp}{ow:Addr->Prop}{n:Str}{vs:List (Str×V)}{fs:List (Str×FO)}{o:FO}{v:V}(h:Kids K F H ow vs fs):fs.lookup n=none->FRep K F H ow o v->Kids K F H ow (c_ n v vs) (fD n o fs)/\eF (c_ n v vs) (fD n o fs)=eF vs fs++oJ o v:=by
 induction h with
 |nil=>exact λ_ r=>⟨.cons ⟨rfl,r⟩ .nil,by show oJ o v++[]=[]++oJ o v;simp⟩
 |@cons p q vs fs r t ih=>
  obtain⟨x,w⟩:=p;obtain⟨y,z⟩:=q;obtain⟨e,r⟩:=r;cases e;intro a b;rw[a8]at a;unfold c_ fD;by_cases e:n=x
  ·rw[Yi e]at a;cases a
  ·rw[Yr e]at a;rw[Yr λz=>e z.symm,Yr λz=>e z.symm,b_,b_];obtain⟨f,c⟩:=ih a b;exact⟨.cons ⟨rfl,r⟩ f,by rw[c,Yk]⟩
def Kids.mono{F:Hp}{ow:Addr->Prop}{vs:List (Str×V)}{fs:List (Str×FO)}(e:Same F F')(k:∀b u,ow b->H b=some u->H' b=some u/\ow' b)(h:Kids K F H ow vs fs):Kids K F' H' ow' vs fs:=h.imp λp q z=>⟨z.1,z.2.mono e k λx=>x.same e⟩
def Kids.adr{F:Hp}{ow:Addr->Prop}{vs:List (Str×V)}{fs:List (Str×FO)}(h:Kids K F H ow vs fs):∀b∈eF vs fs,H b≠none:=by
 induction h with
 |nil=>exact λ_ m=>nomatch m
 |@cons p q _ _ r _ ih=>
  intro b m;rw[b_]at m;rcases Yj.mp m with m|m
  ·obtain⟨x,v⟩:=p;obtain⟨y,o⟩:=q;cases o with
   |d x=>cases m
   |lst ds=>obtain⟨_,c,rfl,_,u,a,_⟩:=r;cases Yl.mp m;rw[a];simp
   |dK ds=>obtain⟨_,c,rfl,_,u,a,_⟩:=r;cases Yl.mp m;rw[a];simp
  ·exact ih b m
def DInv.addF{F:Hp}{C:Option Addr}{fs:List (Str×FO)}{t:Option Addr}{n:Str}{o:FO}{v:V}(I:DInv K P F H ρ σ)(ev:Evo P F H F1 H1)(hi:ρ[i]?=some (some (.own (.obj C fs) t)))(T:fs.lookup n=none)(hv:FRep K F1 H1 (λb=>H b=none/\F1 b=none) o v) :
  ∃a dx vs,σ[i]?=some (some (.ref a))/\H1 a=some (bxO C dx vs)/\vs.length=fs.length/\DInv K P F1 (upd H1 a (bxO C dx (c_ n v vs))) (ρ.set i (some (.own (.obj C (fD n o fs)) t))) σ:=by
 obtain⟨O,L⟩:=I.rep;obtain⟨w,M,a,rfl,⟨p,dx,vs,B,N,e⟩,ht⟩:=L i _ hi;obtain⟨R,J⟩:=ev.keep a _ B p.1;refine⟨a,dx,vs,M,R,e.length,?_⟩;have I1:=I.evo ev
 let l:Addr->Option Nat:=λb=>open Classical in if H b=none then some i else O b
 have A:∀(j:Nat) (x:DV),ρ[j]?=some (some x)->∃v,σ[j]?=some (some v)/\DVRep K P F1 H1 (λc=>l c=some j) x v:=λj x S=>by
  obtain⟨v,Z,Y⟩:=L j x S;exact⟨v,Z,(Y.imp λb u _ _ h q=>(Yr (by rw[h];simp)).trans q).evo ev⟩
 have E:l a=some i:=(Yr (by rw[B];simp)).trans p.2.2;have f:Kids K F1 H1 (λc=>F1 c=none/\P c=none/\l c=some i) vs fs:=Kids.mono ev.ext (λb u q h=>⟨(ev.keep b u h q.1).1,(ev.keep b u h q.1).2,q.2.1,(Yr (by rw[h];simp)).trans q.2.2⟩) e;have s:FRep K F1 H1 (λc=>F1 c=none/\P c=none/\l c=some i) o v:=FRep.mono (Same.refl _) (λb u q h=>⟨h,q.2,I.pro.free q.1,Yi q.1⟩) (λx=>x) hv;have new:∀b∈oJ o v,H b=none:=λb m=>by
  cases o with
  |d x=>cases m
  |lst ds=>obtain⟨c,rfl,q,_⟩:=hv;cases Yl.mp m;exact q.1
  |dK ds=>obtain⟨c,rfl,q,_⟩:=hv;cases Yl.mp m;exact q.1
 obtain⟨X,U⟩:=Kids.add f T s;have g:(a::eF (c_ n v vs) (fD n o fs)).Nodup:=by
  rw[U,<-List.cons_append];refine YO.mpr ⟨N,?_,λx m y Q=>?_⟩
  ·cases o with
   |d x=>exact ZN
   |lst ds=>obtain⟨c,rfl,_⟩:=hv;exact YF.mpr ⟨nofun,.nil⟩
   |dK ds=>obtain⟨c,rfl,_⟩:=hv;exact YF.mpr ⟨nofun,.nil⟩
  ·rintro rfl;have z:=new _ Q;rcases YB.mp m with rfl|m
   ·rw[B]at z;cases z
   ·exact Kids.adr e _ m z
 exact I1.one hi l A J p.2.1 E M ⟨⟨J,p.2.1,E⟩,dx,_,aC,g,Kids.keep X λc m=>ax λz=>by subst z;exact(YF.mp g).1 m⟩
def IG:OD->Option FO
 |.lst ds=>some (.lst ds)
 |.dK kvs=>some (.dK kvs)
 |_=>none
def addF(C:Option Addr)(i:Nat)(n:Str)(o:FO):DF->Option RES:=λa=>match a[i]? with
 |some (some (.own (.obj C' fs) t))=>if C'=C/\fs.lookup n=none/\fs.length<1000 then some (.nx (a.set i (some (.own (.obj C (fD n o fs)) t))))else none
 |_=>none
def vH{C:Option Addr}{n:Str}{o:FO}{r:RES}(h:addF C i n o ρ=some r):∃fs t,ρ[i]?=some (some (.own (.obj C fs) t))/\fs.lookup n=none/\fs.length<1000/\r=.nx (ρ.set i (some (.own (.obj C (fD n o fs)) t))):=by
 unfold addF at h;split at h
 ·rename_i c fs t q;split at h
  ·rename_i e;obtain⟨rfl,b,a⟩:=e;cases h;exact⟨fs,t,q,b,a,rfl⟩
  ·cases h
 ·cases h
section
variable   {n:Str}  
def yK(C:Addr)(i:Nat)(n:Str)(f:Dd):DF->Option RES:=λa=>(f a).bind λd=>addF (some C) i n (.d d) a
def vR(i:Nat){f:Dd}(c:Cls X.K C)(x:NoAttr X.K C n)(w:PE X o (cf i))(hv:PDE X value f)(u:swapsWith value (some (.Attribute o n pos')) pos.line X.env=pure false:=by rfl) :
  PD1 X (.Assign [.Attribute o n pos'] value pos) (yK C i n f):=PS.imp (vf w hv u) λE b H=>un7 λP F g r h I k=>by
 obtain⟨d,q,h⟩:=Yd.mp h;obtain⟨fs,t,s,p,m,rfl⟩:=vH h;refine⟨P,F,g,d,q,I,λv L M e l=>?_⟩;obtain⟨a,B,j,A,z,y,J⟩:=I.addF e s p (o:=.d d) (v:=v) l;exact⟨_,A,a,C,B,j,rfl,z,c,x,by rw[y];exact m,k b L _ e.ext J⟩
def kP(C:Addr)(i:Nat)(n:Str)(f:Do):DF->Option RES:=λa=>(f a).bind λo=>(IG o).bind λx=>addF (some C) i n x a
def iy(i:Nat){f:Do}(c:Cls X.K C)(L:NoAttr X.K C n)(B:PE X o (cf i))(hv:PDO X value f)(A:swapsWith value (some (.Attribute o n pos')) pos.line X.env=pure false:=by rfl) :
  PD1 X (.Assign [.Attribute o n pos'] value pos) (kP C i n f):=PS.imp (vf B hv A) λE p H=>un7 λP F s r h I k=>by
 obtain⟨l,q,h⟩:=Yd.mp h;obtain⟨x,g,h⟩:=Yd.mp h;obtain⟨fs,t,z,y,w,rfl⟩:=vH h;refine⟨P,F,s,l,q,I,λb j S m e=>?_⟩;have Q:FRep X.K j S (λb=>H b=none/\j b=none) x (.ref b):=by
  cases l with
  |lst ds=>cases g;exact⟨b,rfl,e.1,e.2⟩
  |dK ds=>cases g;exact⟨b,rfl,e.1,e.2⟩
  |_=>cases g
 obtain⟨a,R,u,O,N,M,J⟩:=I.addF m z y Q;exact⟨_,O,a,C,R,u,rfl,N,c,L,by rw[M];exact w,k p j _ m.ext J⟩
end
def pP(C:Addr)(m:Dz)(g:Dv):DF->Option OD:=λa=>(g a).bind λx=>match m (.obj (some C) []) x with
 |some (o',.non)=>some o'
 |_=>none
section
variable  {k:Nat}         {g:Dv}
def pR(M:Mk X.K C f)(G:FnOk X.prog X.w X.K X.mg X.base CX0 k f fd ps (spO X.K mM))(hr:Room (k+1) X.A)(hg:Gl X x)(hm:X.mg x=some (.ref C))(E:Binds X.K fd ps [])(ha:iH X (e::es) g)
  (B:nDb x:=by decide) (he:starEach (e::es) X.env=(false,eval e X.env)::starEach es X.env:=by rfl) (m:(backTo pos (starEach es X.env)).any (·.1)=false:=by rfl):PDO X (.Call (.Name x p) (e::es) [] pos) (pP C mM g):=
 (qr M G hr hg hm E .nil jW ha B he m).imp λσ H Q=>un7 λP F S ob h I k=>by
  obtain⟨N,q,h⟩:=Yd.mp h;split at h
  ·rename_i o' Z;cases h;refine⟨P,F,S,N,q,I,λT j i J Y y L l s hne=>?_⟩;have a:=I.evo J;have O:Same i (upd (upd i L (.own y)) y (.ins C L [])):=λb u z=>by rw[ax (aW z l),ax (aW z s)];exact z
   refine⟨gd j i,j,y,T,.obj (some C) [],N,ob,.non,by simp,Z,⟨a.sub.trans O,λb u z=>O b u ((fL a.sub).pro b u z),(fL a.sub).dis⟩,⟨⟨a.sub.free l,(fL a.sub).pro.free l⟩,L,[],aC,YF.mpr ⟨nofun,.nil⟩,.nil⟩,(Y.dvs a).heap,λv F2 H2 R o ho U=>?_⟩;cases U;refine⟨rfl,k y F2 H2 (J.trans (a.toDHp.gd R o)) (ho.mono (Same.refl _) λb u q E=>⟨E,?_,q.1⟩)⟩;cases c:i b with
   |none=>exact J.back I.toDHp c
   |some w=>
    have n:j b=none:=by
     cases d:j b with
     |none=>rfl
     |some z=>have:=R b z d;rw[q.1]at this;cases this
    have:=iT.mpr ⟨n,c⟩;rw[q.2]at this;cases this
  ·cases h
end
abbrev DXs:=DF->Option (List D×DF)
def tLX(K:Kq)(g:DXs):TA:=λb H Q=>∃P F c r,g c=some r/\DInv K P F H c b/\∀e a f,Same F a->DInv K P a f r.2 b->Reps K a e r.1->Q e f
def PAX(X:Cx)(es:List Expr)(g:DXs):Prop:=PA X es (tLX X.K g)
def da:DXs:=λρ=>some ([],ρ)
def ba(f:DX)(g:DXs):DXs:=λc=>(f c).bind λa=>(g a.2).map λb=>(a.1::b.1,b.2)
section
variable     {f:DX}{g:DXs}  
def bX:PAX X [] da:=a_.imp λa H Q=>un7 λP F b r h I k=>by
 cases h;exact k [] F H (Same.refl _) I .nil
def aP(h:PX X e f)(t:PAX X es g)(s:starEach (e::es) X.env=(false,eval e X.env)::starEach es X.env:=by rfl):PAX X (e::es) (ba f g):=PA.imp (aI h t s) λB H Q=>un7 λP F j r c I k=>by
 obtain⟨a,p,c⟩:=Yd.mp c;obtain⟨b,q,rfl⟩:=aF c;exact⟨P,F,j,a,p,I,λv A C u x o=>⟨P,A,a.2,b,q,x,λl z y i w m=>k (v::l) z y (u.trans i) w (.cons (o.same i) m)⟩⟩
def Reps.dvs{F:Hp}(h:Reps K F vs ds):DVs K P F H (ds.map .v) vs:=Reps.ind (M:=λvs ds=>DVs K P F H (ds.map .v) vs) .nil (λr _ ih=>.cons rfl r ih) h
def bN(C:Addr)(mn:Str)(i:Nat)(m:Dz)(g:DXs):DX:=λb=>(jg (some C) i b).bind λfs=>if fs.lookup mn=none then(g b).bind λa=>match a.2[i]? with
  |some (some (.own o t))=>(m o (a.1.map .v)).map λr=>(r.2,a.2.set i (some (.own r.1 t)))
  |_=>none else none
variable{k:Nat}    
def yx{E:XK}:∀σ H Q,tX K (bN C mn i mM g) σ H Q->j5 C mn (spO K mM) [] E (cf i) (tLX K g) σ H Q:=λσ H Q=>un7 λP F m r h I k=>by
 obtain⟨fs,q,h⟩:=Yd.mp h;split at h
 ·rename_i J;obtain⟨a,z,h⟩:=Yd.mp h;split at h
  ·rename_i A t y;obtain⟨b,x,rfl⟩:=aF h;obtain⟨p,T,o,e,M,_,L⟩:=I.obj q;refine⟨_,e,p,T,o,rfl,M,(dh L).1 J,P,F,m,a,z,I,λu l Y R U w=>?_⟩;obtain⟨p',S,f,O,N,back⟩:=U.hand y;rw[e]at f;cases f;refine⟨gdS l Y S,l,p,u,A,a.1.map .v,b.1,b.2,by simp,x,N,O,w.dvs,λv Z X j c B s=>?_⟩;exact k v Z X (R.trans j) (back j c B) s
  ·cases h
 ·cases h
def i_(i:Nat){pl:Sem Bool}(c:Cls X.K C)(m:Meth X.K C mn f')(G:FnOk X.prog X.w X.K X.mg X.base CX0 k f' fd ps (spO X.K mM))(l:Room k' X.A)(q:Binds X.K fd ps [])(he:PE X o (cf i))(s:PAX X (e::es) g)(p:k<=k':=by decide)
  (h:starEach (e::es) X.env=(false,eval e X.env)::starEach es X.env:=by rfl) (a:(backTo pos (starEach es X.env)).any (·.1)=false:=by rfl)
  (j:eval (.Call (.Attribute o mn apos) (e::es) [] pos) X.env=(do
   let b <-eval o X.env
   standAt apos.atName
   let (f,first) <-holding [b] (getMethod b mn pl)
   callWith pos f first (backTo pos (starEach (e::es) X.env)) (backToKw pos (keywordEach [] X.env))):=by rfl):PX X (.Call (.Attribute o mn apos) (e::es) [] pos) (bN C mn i mM g):=
 (v6 he c m G (l.mono p) q .nil jW s h a j).imp yx
def nX(j:Nat)(f:DX):DF->Option RES:=λb=>match b[j]? with
 |some (some (.own (.lst _) _))=>(f b).bind λa=>match a.2[j]? with
  |some (some (.own (.lst ds) t))=>if ds.length<16777216 then some (.nx (a.2.set j (some (.own (.lst (ds++[a.1])) t))))else none
  |_=>none
 |_=>none
def vM(j:Nat)(h:PE X o (cf j))(O:PX X e f)(g:attributeBase o "append" X.env (eval o X.env)=eval o X.env:=by rfl)
  (i:((backTo cpos (starEach [e] X.env)).all (λx=>!x.1)&&(backToKw cpos (keywordEach [] X.env)).all (λx=>x.1.isSome)
   && decide (([e]:List Expr).length+([]:List Keyword).length+(if([]:List Keyword).isEmpty then 0 else 1)<30))=true:=by rfl)
  (c:(apos.endLine == cpos.line)=true:=by rfl) (w:starEach [e] X.env=[(false,eval e X.env)]:=by rfl) (m:swapsWith (.Call (.Attribute o "append" apos) [e] [] cpos) none pos.line X.env=pure false:=by rfl) :
  PD1 X (.Expr (.Call (.Attribute o "append" apos) [e] [] cpos) pos) (nX j f):=
 PS.imp (c9 (jR YW ZE ZR gu h (aI O a_ w) g i c w rfl) m) λE B H=>un7 λP F C r b I k=>by
  unfold nX at b;split at b
  ·rename_i T Y M;obtain⟨a,L,b⟩:=Yd.mp b;split at b
   ·rename_i ds t q;split at b
    ·rename_i N;cases b;obtain⟨p,J,s,h2,h3,Q,h5⟩:=jr I M;refine⟨_,s,.inl ⟨rfl,J,SqL.of Q⟩,P,F,C,a,L,I,λv U H1 S A K=>?_⟩;obtain⟨Z,l,z,g2,g3,R,y⟩:=jr A q;rw[s]at z;cases z;refine⟨p,l,v,rfl,rfl,R,by rw[YL,y.length];exact N,k B U _ S ?_⟩;exact A.mut (o':=.lst _) (u:=.lst _) q rfl rfl s (y.append (.one K))
    ·cases b
   ·cases b
  ·cases b
end
section
variable   {σ:List (Option V)}   
end
section
variable  {l:Expr}   
end
section
variable     {R:Kr}
variable   {n:Nat}{P:Nat->Value->Prop}{St:Nat->Heap->Prop}{T:String}
end
section
variable   {n:Nat}{P:Nat->Value->Prop}{St:Nat->Heap->Prop}{T:String}
end
section
variable    {t:TA}
theorem Reps.app{F:Hp}:∀{as bs:List V}{cs es:List D},Reps K F as cs->Reps K F bs es->Reps K F (as++bs) (cs++es)
 |_,_,_,_,.nil,h=>h
 |_,_,_,_,.cons r q,h=>.cons r (Reps.app q h)
theorem Reps.rev{F:Hp}:∀{vs:List V}{ds:List D},Reps K F vs ds->Reps K F vs.reverse ds.reverse
 |_,_,.nil=>.nil
 |_,_,.cons r q=>by
  rw[XA,XA];exact Reps.app (Reps.rev q) (.cons r .nil)
end
end L2
namespace L2
open PySem PySem.Spec PySem.W PyProof.Rows
section
variable  {k:Nat}        {f0:Dd}
end
section
variable  {k:Nat}    {m:List (List D)->List D->List DV->Option (List (List D))}    {f0:Dd}
end
section
variable  {y:Expr} 
end
structure LamS where
 qual:Str
 params:Arguments
 body:Expr
 scope:Scope
 p:Str
 x:Str
 cell:Bool:=false
section
variable  {L:LamS}{c' c:Addr}{uc:Value}
end
structure LamW where
 L:LamS
 t:Addr
 pos:Pos
section
variable  {W:LamW}{c:Addr}     {Q:Kv}
end
section
variable  {W:LamW}{F c:Hp}  
end
section
variable  {W:LamW}  {aR:List Stmt}{h:Dw} 
end
section
variable  {W:LamW}{k n:Nat}{c:Addr}       
end
section
variable  {W:LamW}{k n:Nat}{c:Addr}    {y:Str}{pos1:Pos}  
end
section
variable  {W:LamW}{k:Nat}     {y:Str}    {g:Dv}{f0:Dd}
end
end L2
namespace L2
open PySem PySem.Spec PyProof.Rows
section
variable   {G:Array GenState->Array GenState->Prop}{n:Nat}{P:Nat->Value->Prop}{St:Nat->Shared->Prop}{R:Kr}
end
end L2
namespace L2
open PySem PySem.Spec PySem.W PyProof.Rows
def tM{F:Hp}{v:V}{d:D}{k:Key}(r:Rep K F v d)(h:kW d=some k):v=kV k:=by
 cases d with
 |int i=>cases h;cases r;rfl
 |str x=>cases h;cases r;rfl
 |_=>cases h
section
variable  {i:Expr}  {fk fd:Dd}
def uw:D->D->Option D
 |y,.dK kvs=>(kW y).map λk=>.bl (!(dn kvs k).isSome)
 |_,_=>none
def Av(S:X.A.units+64<cLine)(hi:PDE X i fk)(C:PDR X o fd)(h1:behindInMarks .NotIn o=false:=by first|exact j_ _ (by decide) (by decide)|rfl):PDT X (.Compare i [.NotIn] [o] pos) (asB (d2 uw fk fd)):=(ux (wV (by omega) hi C) h1).imp λO H Q=>un7 λP F c b h I k=>by
 have h:=rN h;unfold d2 at h;cases q:fk c with
 |none=>rw[q]at h;cases h
 |some s=>
 cases g:fd c with
 |none=>rw[q,Ya,g]at h;cases h
 |some K=>
 rw[q,Ya,g,Ya]at h;cases K with
 |dK kvs=>
  have a:((kW s).map λk=>D.bl (!(dn kvs k).isSome))=some (.bl b):=h;cases f:kW s with
  |none=>rw[f]at a;cases a
  |some j=>
   rw[f]at a;cases a;refine⟨P,F,c,_,q,I,λy N U m w=>⟨P,N,c,_,g,I.evo m,λx M L l B=>?_⟩⟩;obtain⟨p,u,rfl,h1,E⟩:=qt ((I.evo m).evo l) B;have J:=tM (w.same l.ext) f;subst J;refine⟨p,_,rfl,DGet.k h1,_,rfl,?_⟩;have:(d7 u j).isSome=(dn kvs j).isSome:=by
    rcases E.val (k:=j)with⟨e,z⟩|⟨v,T,e,z,R⟩
    ·rw[e,z];rfl
    ·rw[e,z];rfl
   rw[this];exact k M L (m.trans l)
 |_=>cases h
end
end L2
namespace L2
open PySem PySem.Spec PyProof.Rows
def yc:CallR X (.builtin "len") (λxs H Q=>∃a kvs,xs=[V.ref a]/\H a=some (.dK kvs)/\Q (.int kvs.length) H):=by intro p s f H xs g Q I r h;obtain⟨a,kvs,rfl,c,q⟩:=h;obtain⟨u,rfl,b⟩:=iq r;cases b;exact G3 I (.inl c) λt i e=>⟨.int kvs.length,H,e,⟨t,rfl⟩,q⟩
section
variable  {i:Expr}   {f:DX}{g:DXs}{fd fk:Dd}
def pI(g:DXs):DX:=λa=>(g a).bind λr=>if r.1.length<=16777216 then some (.tup r.1,r.2)else none
def DInv.laid{F:Hp}(I:DInv K P F H ρ σ){a:Addr}{o:HO}(h:H a=none):DInv K P (upd F a o) (upd H a o) ρ σ:=I.evo (Evo.laid I.toDHp h)
def EG{x1}(h:PAX X es g):PX X (.Tuple es x1 pos) (pI g):=(vd h).imp λm H Q=>un7 λP F i d a I k=>by
 obtain⟨r,q,a⟩:=Yd.mp a;split at a
 ·rename_i j;cases a;refine⟨P,F,i,r,q,I,λo u s l f b=>⟨by rw[b.length,YL];exact j,λp c=>?_⟩⟩;have e:=(f.toDHp.free c).1;exact k (.ref p) _ _ (l.trans (eV e)) (f.laid c) (.tup aC (b.same (eV e)))
 ·cases a
def sD:D->D->Option D
 |y,.dK kvs=>(kW y).map λk=>.bl (dn kvs k).isSome
 |_,_=>none
def wy(O:X.A.units+64<cLine)(hi:PDE X i fk)(w:PDR X o fd)(h1:behindInMarks .In o=false:=by first|exact j_ _ (by decide) (by decide)|rfl):PDT X (.Compare i [.In] [o] pos) (asB (d2 sD fk fd)):=(ux (Ei (by omega) hi w) h1).imp λM H Q=>un7 λP F g b h I k=>by
 have h:=rN h;obtain⟨R,s,h⟩:=Yd.mp h;obtain⟨E,u,h⟩:=Yd.mp h;cases E with
 |dK kvs=>
  obtain⟨c,q,h⟩:=aF h;cases h;refine⟨P,F,g,_,s,I,λy L T f l=>⟨P,L,g,_,u,I.evo f,λx K J e m=>?_⟩⟩;obtain⟨p,j,rfl,h1,B⟩:=qt ((I.evo f).evo e) m;have C:=tM (l.same e.ext) q;subst C;refine⟨p,_,rfl,DGet.k h1,_,rfl,?_⟩;have:(d7 j c).isSome=(dn kvs c).isSome:=by
   rcases B.val (k:=c)with⟨a,z⟩|⟨v,S,a,z,N⟩
   ·rw[a,z];rfl
   ·rw[a,z];rfl
  rw[this];exact k K J (f.trans e)
 |_=>cases h
def uz:D->Option D
 |.dK kvs=>some (.int kvs.length)
 |_=>none
def lR(m:Gl X "len")(l:X.mg "len"=none)(o:PDR X e fd)(c:starEach [e] X.env=[(false,eval e X.env)]:=by rfl)(b:(backTo pos (starEach [] X.env)).any (·.1)=false:=by rfl) :
  PDE X (.Call (.Name "len" p) [e] [] pos) (d1 uz fd):=
 (df yc m l PySem.boot_len (aI o a_ c) (by decide) (by decide) c b).imp λA H Q=>un7 λP F g d h I k=>by
  obtain⟨w,q,h⟩:=Yd.mp h;cases w with
  |dK kvs=>
   cases h;refine⟨P,F,g,_,q,I,λx z y f j=>?_⟩;obtain⟨a,i,rfl,u,s⟩:=qt (I.evo f) j;exact⟨a,i,rfl,u,k _ z y f (by rw[s.length];exact .int)⟩
  |_=>cases h
end
abbrev GL:=List (Str×Nat×Int×Nat)
def glE(P:Params)(p:Str×Nat×Int×Nat):DictEntry:=⟨PyData.keyHash P p.1,.str p.1 p.2.1,.int p.2.2.1 p.2.2.2⟩
structure KD (K:PySem.W.Frag) (P:Params) (d:Addr) (L:GL) (ep:Nat):Prop where
 look:K.lookup d=some {cls:=.type "dict",data:=.dict (L.map (glE P)).toArray ep}
 nd:(L.map (·.1)).Nodup
 ns:(d == sysModules)=false
def glV(L:GL):List (Key×Value):=L.map λp=>(Sum.inr p.1,.int p.2.2.1 p.2.2.2)
def glN(L:GL)(x:Str):Option Int:=(L.find? (·.1 == x)).map (·.2.2.1)
def KD.dict{d:Addr}{L:GL}{h:Heap}(k:KD K w.params d L ep)(X:K.In h):h.DictOf (bT prog w) d (glV L):=by
 refine⟨_,_,ep,X _ _ k.look,⟨rfl,rfl,rfl⟩,rfl,λe m=>?_,?_,?_⟩
 ·obtain⟨p,_,rfl⟩:=Yt.mp (Array.mem_toList_iff.mpr m);exact⟨.inr p.1,gw p.1 p.2.1,rfl⟩
 ·have z:∀L:GL,Pairs (bT prog w) (L.map (glE w.params)) (glV L):=λL=>by
   induction L with
   |nil=>exact .nil
   |cons p r ih=>exact .cons (gw p.1 p.2.1) rfl ih
  simpa using z L
 ·have e:(glV L).map (·.1)=(L.map (·.1)).map Sum.inr:=by unfold glV;rw[Zl,Zl];rfl
  rw[e];exact List.Pairwise.map _ (λa b n z=>n (Sum.inr.inj z)) k.nd
def yO(L:GL)(x:Str):(∃n t,glN L x=some n/\valueAt (glV L) (.inr x)=some (.int n t))\/(glN L x=none/\valueAt (glV L) (.inr x)=none):=by
 induction L with
 |nil=>exact .inr ⟨rfl,rfl⟩
 |cons p r ih=>
  unfold glN glV valueAt at ih ⊢;rw[YC,Zh,Zh];by_cases e:p.1=x
  ·rw[show(p.1 == x)=true from ZJ.mpr e,show decide ((Sum.inr p.1:Key)=Sum.inr x)=true from by rw[e];simp];exact .inl ⟨_,_,rfl,rfl⟩
  ·rw[show(p.1 == x)=false from Ze.mpr e,show decide ((Sum.inr p.1:Key)=Sum.inr x)=false from by rw[ui,Yn e]];exact ih
def inG(L:GL):D->Option D
 |.str x=>some (.bl (glN L x).isSome)
 |_=>none
def Bc(L:GL):D->Option D
 |.str x=>(glN L x).map .int
 |_=>none
section
variable  {i:Expr}  {f:Dd}  {d:Addr}{L:GL} 
def uS(N:Gl X x)(M:X.mg x=some (.ref d))(k:KD X.K X.w.params d L ep)(hi:PDE X i f)(hd:nDb x:=by decide)(h1:behindInMarks .In (.Name x p)=false:=by first|exact j_ _ (by decide) (by decide)|rfl):PDT X (.Compare i [.In] [.Name x p] pos) (asB (d1 (inG L) f)):=by
 have E:PC X .In i (.Name x p) (λg H Q=>tD X.K f g H λy c=>∃t,y=.str t/\Q (.bl (glN L t).isSome) c):=by
  intro C s g H Q I h;refine bh (hi C s g H _ I h) λT S y c m j B=>fi m N M ?_ hd;obtain⟨t,rfl,q⟩:=B;obtain⟨z,rfl⟩:=j;refine wpAny_in_of (k:=(Sum.inr t:Key)) (gw t z) k.ns (k.dict m.kIn).mapOf ⟨_,c,m.tok _,?_,q⟩;rcases yO L t with⟨n,u,e,l⟩|⟨e,l⟩
  ·rw[e,l];rfl
  ·rw[e,l];rfl
 refine PT.imp (ux E h1) λg H Q=>un7 λP F o b a I J=>?_;have a:=rN a;obtain⟨O,A,a⟩:=Yd.mp a;cases O with
 |str t=>
  cases a;refine⟨P,F,o,_,A,I,λy R c e j=>?_⟩;cases j;exact⟨t,rfl,_,rfl,J R c e⟩
 |_=>cases a
def Ce(S:Gl X x)(R:X.mg x=some (.ref d))(k:KD X.K X.w.params d L ep)(hi:PDE X i f)(hd:nDb x:=by decide)(O:qZ i:=by exact λ_ _=>rfl):PDE X (.Subscript (.Name x p) i pos) (d1 (Bc L) f):=by
 have M:PE X (.Subscript (.Name x p) i pos) (λc H Q=>tD X.K f c H λy o=>∃t n,y=.str t/\glN L t=some n/\Q (.int n) o):=by
  intro J s c H Q I h;refine wb PySem.F.slot_dict_getitem.lookup O (fi I S R (bh (hi J s c H _ I h) λiv Z y U m j l=>?_) hd);obtain⟨t,n,rfl,z,q⟩:=l;obtain⟨C,rfl⟩:=j;refine⟨(k.dict (prog:=X.prog) m.kIn).typeIs,?_⟩;rcases yO L t with⟨n',u,a,A⟩|⟨a,A⟩
  ·rw[z]at a;cases a;exact wpAny_getItem_of (k:=(Sum.inr t:Key)) (gw t C) (k.dict m.kIn).mapOf A ⟨.int n,U,m.tok _,⟨u,rfl⟩,q⟩
  ·rw[z]at a;cases a
 refine M.imp λc H Q=>un7 λP F B b g I N=>?_;obtain⟨T,E,g⟩:=Yd.mp g;cases T with
 |str t=>
  obtain⟨n,e,rfl⟩:=aF g;refine⟨P,F,B,_,E,I,λy Y o a j=>?_⟩;cases j;exact⟨t,n,rfl,e,N _ Y o a .int⟩
 |_=>cases g
end
def BP:D->Option D
 |.str x=>if x.length<=640 then(intText? x).map .int else none
 |_=>none
def ya:CallR X (.type "int") (λxs H Q=>∃x n,xs=[.str x]/\intText? x=some n/\x.length<=640/\Q (.int n) H):=by intro p s c H xs e Q I r h;obtain⟨x,n,rfl,b,a,q⟩:=h;obtain⟨u,rfl,t,rfl⟩:=iq r;exact PySem.W.KIN.call_text b a ⟨.int n,H,I.tok _,⟨_,rfl⟩,q⟩
def Dc(i:Gl X "int")(f:X.mg "int"=none)(j:PDN X e fa)(a:starEach [e] X.env=[(false,eval e X.env)]:=by rfl) :
  PDE X (.Call (.Name "int" p) [e] [] pos) (d1 BP fa):=
 (gD ya i f boot_int (aI j a_ a) (he:=a)).imp (n5 (show yG X.K _ BP from by
  intro P F H x m d Q h c b k;unfold BP at h;split at h
  ·split at h
   ·rename_i x g;obtain⟨n,l,rfl⟩:=aF h;cases b;exact⟨_,n,rfl,l,g,k _ F H (Evo.refl c) .int⟩
   ·cases h
  ·cases h))
def gv:D->Option D
 |.int n=>if n.natAbs.log2<1920 then some (.str (toString n))else none
 |_=>none
def wN:CallR X (.type "str") (λxs H Q=>∃n,xs=[.int n]/\n.natAbs.log2<1920/\Q (.str (toString n)) H):=by intro p s b H xs c Q I r h;obtain⟨n,rfl,a,q⟩:=h;obtain⟨u,rfl,t,rfl⟩:=iq r;exact PySem.P.str_of_int a ⟨.str (toString n),H,I.tok _,⟨_,rfl⟩,q⟩
def lY(i:Gl X "str")(f:X.mg "str"=none)(j:PDN X e fa)(a:starEach [e] X.env=[(false,eval e X.env)]:=by rfl) :
  PDE X (.Call (.Name "str" p) [e] [] pos) (d1 gv fa):=
 (gD wN i f boot_str (aI j a_ a) (he:=a)).imp (n5 (show yG X.K _ gv from by
  intro P F H x l d Q h c b k;unfold gv at h;split at h
  ·split at h
   ·rename_i n g;cases h;cases b;exact⟨_,rfl,g,k _ F H (Evo.refl c) .str⟩
   ·cases h
  ·cases h))
def vK(x y:Str):Int:=match Builtin.Str.occurrences x y 0 x.length 1 with|i::_=>(i:Int)|[]=>-1
def wp:D->D->Option D
 |.str x,.str y=>some (.int (vK x y))
 |_,_=>none
def Bs:MtR X "str.find" (λx vs H Q=>∃a b,x=.str a/\vs=[.str b]/\Q (.int (vK a b)) H):=by intro p s g H x vs v i Q I f c h;obtain⟨a,b,rfl,rfl,q⟩:=h;obtain⟨t,rfl⟩:=f;obtain⟨u,rfl,e,rfl⟩:=c.one;exact call_gives PySem.F.slot_str_find rfl PySem.F.entry_str_find (PySem.F.args_str_find_2 _ _) (gives_str_find a b t e) ⟨.int (vK a b),H,I.tok _,⟨_,rfl⟩,q⟩
def De(p:PDN X o fa)(s:PDN X e fb)(b:attributeBase o "find" X.env (eval o X.env)=eval o X.env:=by rfl)
  (c:((backTo cpos (starEach [e] X.env)).all (λx=>!x.1)&&(backToKw cpos (keywordEach [] X.env)).all (λx=>x.1.isSome)
   && decide (([e]:List Expr).length+([]:List Keyword).length+(if([]:List Keyword).isEmpty then 0 else 1)<30))=true:=by rfl)
  (a:(apos.endLine == cpos.line)=true:=by rfl) (g:starEach [e] X.env=[(false,eval e X.env)]:=by rfl) :
  PDE X (.Call (.Attribute o "find" apos) [e] [] cpos) (d2 wp fa fb):=
 (jR PySem.F.plainAttrs_str PySem.F.slot_str_find PySem.F.type_str_find Bs p (aI s a_ g) b c a g rfl).imp λB H Q=>un7 λP F f d h I k=>by
  obtain⟨E,m,h⟩:=Yd.mp h;obtain⟨C,q,h⟩:=Yd.mp h;unfold wp at h;split at h
  ·cases h;refine⟨P,F,f,_,m,I,λx A J i l=>?_⟩;cases l;refine⟨rfl,P,A,f,_,q,I.evo i,λy z w u j=>?_⟩;cases j;exact⟨_,_,rfl,rfl,k _ z w (i.trans u) .int⟩
  ·cases h
abbrev AW:=Nat ⊕ D
def awX(ρ:DF):List AW->Option (List DV)
 |[]=>some []
 |.inl i::r=>match ρ[i]? with
  |some (some (.own o _))=>(awX ρ r).map (.own o none::·)
  |_=>none
 |.inr d::r=>(awX ρ r).map (.v d::·)
def awS:List AW->List Nat
 |[]=>[]
 |.inl i::r=>i::awS r
 |.inr _::r=>awS r
def awB(ρ:DF):List AW->List DV->Option DF
 |[],[]=>some ρ
 |.inl i::r,.own o _::xs=>match ρ[i]? with
  |some (some (.own _ t))=>awB (ρ.set i (some (.own o t))) r xs
  |_=>none
 |.inr _::r,_::xs=>awB ρ r xs
 |_,_=>none
inductive ArgsW (K:PySem.W.Frag) (F:Hp) (σ:St):List AW->List V->Prop
 |nil:ArgsW K F σ [] []
 |slot {i:Nat}{v:V}{L:List AW}{vs:List V}:σ[i]?=some (some v)->ArgsW K F σ L vs->ArgsW K F σ (.inl i::L) (v::vs)
 |val {d:D}{v:V}{L:List AW}{vs:List V}:Rep K F v d->ArgsW K F σ L vs->ArgsW K F σ (.inr d::L) (v::vs)
theorem iY:∀{L:List AW}{k i:Nat},L[k]?=some (.inl i)->i∈awS L
 |[],k,i,h=>by cases k<;>cases h
 |.inl j::r,0,i,h=>by cases h;exact Yf
 |.inl j::r,k+1,i,h=>Ye _ (iY (L:=r) (k:=k) h)
 |.inr d::r,0,i,h=>by cases h
 |.inr d::r,k+1,i,h=>iY (L:=r) (k:=k) h
theorem rX:∀{L:List AW}{k k' i:Nat},(awS L).Nodup->L[k]?=some (.inl i)->L[k']?=some (.inl i)->k=k'
 |[],k,k',i,_,h,_=>by cases k<;>cases h
 |.inl j::r,0,0,i,_,_,_=>rfl
 |.inl j::r,0,k' + 1,i,nd,h,h'=>by cases h;exact absurd (iY (L:=r) (k:=k') h') (YF.mp nd).1
 |.inl j::r,k+1,0,i,nd,h,h'=>by cases h';exact absurd (iY (L:=r) (k:=k) h) (YF.mp nd).1
 |.inl j::r,k+1,k' + 1,i,nd,h,h'=>YM Nat.succ (rX (L:=r) (YF.mp nd).2 h h')
 |.inr d::r,0,_,i,_,h,_=>by cases h
 |.inr d::r,k+1,0,i,_,_,h'=>by cases h'
 |.inr d::r,k+1,k' + 1,i,nd,h,h'=>YM Nat.succ (rX (L:=r) nd h h')
def BV{F:Hp}{L:List AW}(A:ArgsW K F σ L vs):∀{xs:List DV},awX ρ L=some xs->xs.length=vs.length/\∀(k:Nat) (x:DV),xs[k]?=some x->
  (∃i o t v,L[k]?=some (.inl i)/\ρ[i]?=some (some (.own o t))/\x=.own o none/\vs[k]?=some v/\σ[i]?=some (some v))\/∃d v,L[k]?=some (.inr d)/\x=.v d/\vs[k]?=some v/\Rep K F v d:=by
 induction A with
 |nil=>intro xs h;cases h;exact⟨rfl,λk x h=>by cases k<;>cases h⟩
 |@slot i v L vs hs A ih=>
  intro xs h;unfold awX at h;split at h
  ·rename_i o t q;obtain⟨y,b,rfl⟩:=aF h;obtain⟨l,ih⟩:=ih b;refine⟨YM Nat.succ l,λk x a=>?_⟩;cases k with
   |zero=>cases a;exact .inl ⟨i,o,t,v,rfl,q,rfl,rfl,hs⟩
   |succ k=>exact ih k x a
  ·cases h
 |@val d v L vs r A ih=>
  intro xs h;obtain⟨y,b,rfl⟩:=aF h;obtain⟨l,ih⟩:=ih b;refine⟨YM Nat.succ l,λk x a=>?_⟩;cases k with
  |zero=>cases a;exact .inr ⟨d,v,rfl,rfl,rfl,r⟩
  |succ k=>exact ih k x a
theorem pT:∀{L:List AW}{ρ ρ':DF}{xs:List DV},(awS L).Nodup->awB ρ L xs=some ρ'->ρ'.length=ρ.length/\∀(j:Nat) (x:DV),ρ'[j]?=some (some x)->
  (∃(k:Nat) (o w:OD) (t t':Option Addr),L[k]?=some (Sum.inl j)/\xs[k]?=some (DV.own o t')/\ρ[j]?=some (some (DV.own w t))/\x=DV.own o t)\/(j∉awS L/\ρ[j]?=some (some x))
 |[],ρ,ρ',xs,_,h=>by
  cases xs with
  |nil=>cases h;exact⟨rfl,λj x c=>.inr ⟨nofun,c⟩⟩
  |cons _ _=>cases h
 |.inl i::r,ρ,ρ',xs,nd,h=>by
  cases xs with
  |nil=>cases h
  |cons y xs=>
   cases y with
   |own o t0=>
    have h:(match ρ[i]? with|some (some (.own _ t))=>awB (ρ.set i (some (.own o t))) r xs|_=>none)=some ρ':=h;split at h
    ·rename_i w t q;obtain⟨l,ih⟩:=pT (L:=r) (YF.mp nd).2 h;refine⟨by rw[l,Zb],λj x c=>?_⟩;rcases ih j x c with⟨k,u,s,p,g,b,f,a,C⟩|⟨b,f⟩
     ·have B:i≠j:=λz=>(YF.mp nd).1 (z ▸ iY b)
      rw[YT B]at a;exact .inl ⟨k+1,u,s,p,g,b,f,a,C⟩
     ·rcases fS f with⟨rfl,e,_⟩|⟨A,a⟩
      ·cases e;exact .inl ⟨0,o,w,t,t0,rfl,rfl,q,rfl⟩
      ·exact .inr ⟨λm=>(YB.mp m).elim (λz=>A z.symm) b,a⟩
    ·cases h
   |v d=>cases h
   |bor o=>cases h
 |.inr d::r,ρ,ρ',xs,nd,h=>by
  cases xs with
  |nil=>cases h
  |cons y xs=>
   have h:awB ρ r xs=some ρ':=by cases y<;>exact h
   obtain⟨l,ih⟩:=pT (L:=r) nd h;refine⟨l,λj x c=>?_⟩;rcases ih j x c with⟨k,u,s,p,g,b,f,a⟩|h
   ·exact .inl ⟨k+1,u,s,p,g,b,f,a⟩
   ·exact .inr h
def DInv.handW{F:Hp}{L:List AW}(I:DInv K P F H ρ σ)(A:ArgsW K F σ L vs)(hx:awX ρ L=some xs)(nd:(awS L).Nodup) :
  ∃S:Addr->Prop,DInv K (gdS F H S) F H (xs.map some) (vs.map some)/\∀{F2 H2:Hp}{l:List DV}{ρ':DF},Same F F2->DInv K (gdS F H S) F2 H2 (l.map some) (vs.map some)->awB ρ L l=some ρ'->DInv K P F2 H2 ρ' σ:=by
 obtain⟨O,T⟩:=I.rep;obtain⟨hl,hg⟩:=BV A hx;refine⟨λb=>∃i∈awS L,O b=some i/\P b=none,⟨ut I.sub _,by rw[Yc,Yc,hl],λb=>open Classical in if h:∃k i,L[k]?=some (Sum.inl i)/\O b=some i then some h.choose else none,λk x hk=>?_⟩,λ{F2 H2 l ρ'} Q J f=>?_⟩
 ·rw[YG]at hk;obtain⟨x',p,e⟩:=aF hk;cases e;rcases hg k _ p with⟨i,o,t,v,g,M,rfl,E,U⟩|⟨d,v,_,rfl,E,U⟩
  ·obtain⟨v',N,a,rfl,g2,_⟩:=T i _ M;rw[U]at N;cases N;refine⟨_,by rw[YG,E];rfl,a,rfl,g2.mono (Same.refl _) λb u q f=>⟨f,q.1,?_,?_⟩,λ_ z=>by cases z⟩
   ·unfold gdS;exact Yi ⟨i,iY g,q.2.2,q.2.1⟩
   ·have ex:∃k i,L[k]?=some (Sum.inl i)/\O b=some i:=⟨k,i,g,q.2.2⟩
    refine(dif_pos ex).trans ?_;obtain⟨i',B,c2⟩:=ex.choose_spec;rw[q.2.2]at c2;cases c2;exact YM some (rX nd B g)
  ·exact⟨v,by rw[YG,E];rfl,U⟩
 ·obtain⟨l',f⟩:=pT nd f;obtain⟨O2,hJ⟩:=J.rep;have keep:∀b u,(¬∃i∈awS L,O b=some i/\P b=none)->F b=none->H b=some u->H2 b=some u/\F2 b=none:=λb u f n q=>⟨J.pro b u (gh.mpr ⟨f,n,q⟩),J.dis b u (gh.mpr ⟨f,n,q⟩)⟩
  have kp:∀b u,P b=some u->H2 b=some u/\F2 b=none:=λb u q=>keep b u (λ⟨_,_,_,z⟩=>by rw[z]at q;cases q) (I.dis b u q) (I.pro b u q)
  refine⟨⟨J.sub,λb u q=>(kp b u q).1,λb u q=>(kp b u q).2⟩,by rw[l'];exact I.len,λb=>open Classical in if H b=none\/∃i∈awS L,O b=some i/\P b=none then(O2 b).bind λk=>match L[k]? with|some (.inl i)=>some i|_=>none else O b,λj z hj=>?_⟩;rcases f j z hj with⟨k,o,o0,t,t',g,M,E,rfl⟩|⟨g,M⟩
  ·obtain⟨v,N,a,rfl,g2,gt⟩:=T j _ E;obtain⟨w,C,a',rfl,Z,_⟩:=hJ k (.own o t') (by rw[YG,M];rfl);have hv:vs[k]?=some (.ref a):=by
    have:∃x,xs[k]?=some x:=by
     have:k<xs.length:=by rw[YG]at C;obtain⟨y,hy,_⟩:=aF C;rw[hl];exact(YI.mp hy).1
     exact⟨_,Yz this⟩
    obtain⟨x,p⟩:=this;rcases hg k x p with⟨i,o1,t1,v,B,c2,_,c3,c4⟩|⟨d,v,B,_⟩
    ·rw[g]at B;cases B;rw[N]at c4;cases c4;exact c3
    ·rw[g]at B;cases B
   rw[YG,hv]at C;cases C;refine⟨_,N,a,rfl,Z.mono (Same.refl _) λb u q f=>⟨f,q.1,?_⟩,gt⟩;have n:F b=none:=by
    cases c:F b with
    |none=>rfl
    |some w=>have:=Q b w c;rw[q.1]at this;cases this
   have s:H b=none\/∃i∈awS L,O b=some i/\P b=none:=by
    cases c:H b with
    |none=>exact .inl rfl
    |some w=>
     refine .inr (Classical.byContradiction λs=>?_);have:=(gh (S:=λb=>∃i∈awS L,O b=some i/\P b=none)).mpr ⟨s,n,c⟩;rw[q.2.1]at this;cases this
   refine⟨s.elim (λc=>I.pro.free c) λ⟨_,_,_,z⟩=>z,(Yi s).trans ?_⟩;rw[q.2.2,Ya,g]
  ·obtain⟨w,C,Y⟩:=T j z M;refine⟨w,C,?_⟩;cases z with
   |v d'=>exact Rep.same Q Y
   |own od t'=>
    obtain⟨c,rfl,X,R⟩:=Y;refine⟨c,rfl,X.mono Q λb w' q f=>?_,R⟩;have s:¬∃i∈awS L,O b=some i/\P b=none:=λ⟨i,m,z,_⟩=>by rw[q.2.2]at z;cases z;exact g m
    obtain⟨k1,k2⟩:=keep b w' s q.1 f;exact⟨k1,k2,q.2.1,(Yr (λz=>z.elim (λc=>by rw[f]at c;cases c) s)).trans q.2.2⟩
   |bor od=>(obtain⟨c,rfl,X⟩:=Y;exact⟨c,rfl,X.mono Q λb u q f=>⟨f,q⟩⟩)
abbrev MW:=List DV->Option (List DV×D)
def spW(K:Kq)(f:MW):Sp:=λb H Q _=>∃P F x r,f x=some r/\DInv K P F H (x.map some) (b.map some)/\∀v a c,Same F a->DInv K P a c (r.1.map some) (b.map some)->Rep K a v r.2->Q v c
def uK(as:Nat->Addr):Nat->List DV->List DV
 |_,[]=>[]
 |k,.own o _::r=>.own o (some (as k))::uK as (k+1) r
 |k,x::r=>x::uK as (k+1) r
def gA(as:Nat->Addr)(ρ:DF):Nat->List DV->Option (List DV)
 |_,[]=>some []
 |k,.own _ _::r=>match ρ[k]? with
  |some (some (.own o t))=>if t=some (as k)then(gA as ρ (k+1) r).map (.own o none::·)else none
  |_=>none
 |k,x::r=>(gA as ρ (k+1) r).map (x::·)
theorem sB(as:Nat->Addr):∀(n:Nat) (xs:List DV),(uK as n xs).length=xs.length
 |_,[]=>rfl
 |n,x::r=>by cases x<;>exact YM Nat.succ (sB as (n+1) r)
theorem jI(as:Nat->Addr):∀(n:Nat) (xs:List DV) (k:Nat) (x:DV),(uK as n xs)[k]?=some x->(∃o t,xs[k]?=some (.own o t)/\x=.own o (some (as (n+k))))\/((∀o t,x≠.own o t)/\xs[k]?=some x)
 |n,[],k,x,h=>by cases k<;>cases h
 |n,.own o t::r,0,x,h=>by cases h;exact .inl ⟨o,t,rfl,rfl⟩
 |n,.v d::r,0,x,h=>by cases h;exact .inr ⟨nofun,rfl⟩
 |n,.bor o::r,0,x,h=>by cases h;exact .inr ⟨nofun,rfl⟩
 |n,.own o t::r,k+1,x,h=>by have:=jI as (n+1) r k x h;rw[Zj,ZL]at this;exact this
 |n,.v d::r,k+1,x,h=>by have:=jI as (n+1) r k x h;rw[Zj,ZL]at this;exact this
 |n,.bor o::r,k+1,x,h=>by have:=jI as (n+1) r k x h;rw[Zj,ZL]at this;exact this
theorem iZ{as:Nat->Addr} :∀{n:Nat}{xs ys:List DV},gA as ρ n xs=some ys->ys.length=xs.length/\∀(k:Nat) (y:DV),ys[k]?=some y->(∃o c t0,xs[k]?=some (.own c t0)/\ρ[n+k]?=some (some (.own o (some (as (n+k)))))/\y=.own o none)\/((∀o t,y≠.own o t)/\xs[k]?=some y)
 |n,[],ys,h=>by cases h;exact⟨rfl,λk y h=>by cases k<;>cases h⟩
 |n,.own c t0::r,ys,h=>by
  have h:(match ρ[n]? with|some (some (.own o t))=>if t=some (as n)then(gA as ρ (n+1) r).map (.own o none::·)else none|_=>none)=some ys:=h;split at h
  ·rename_i o t q;split at h
   ·rename_i e;obtain⟨z,b,rfl⟩:=aF h;obtain⟨l,ih⟩:=iZ b;refine⟨YM Nat.succ l,λk y a=>?_⟩;cases k with
    |zero=>cases a;exact .inl ⟨o,c,t0,rfl,by rw[Nat.add_zero,q,e],rfl⟩
    |succ k=>have:=ih k y a;rw[Zj,ZL]at this;exact this
   ·cases h
  ·cases h
 |n,.v d::r,ys,h=>by
  obtain⟨z,b,rfl⟩:=aF h;obtain⟨l,ih⟩:=iZ b;refine⟨YM Nat.succ l,λk y a=>?_⟩;cases k with
  |zero=>cases a;exact .inr ⟨nofun,rfl⟩
  |succ k=>have:=ih k y a;rw[Zj,ZL]at this;exact this
 |n,.bor o::r,ys,h=>by
  obtain⟨z,b,rfl⟩:=aF h;obtain⟨l,ih⟩:=iZ b;refine⟨YM Nat.succ l,λk y a=>?_⟩;cases k with
  |zero=>cases a;exact .inr ⟨nofun,rfl⟩
  |succ k=>have:=ih k y a;rw[Zj,ZL]at this;exact this
def nH(as:Nat->Addr)(xs:List DV):RES->Option (List DV×D)
 |.nx ρ=>(gA as ρ 0 xs).map (·,.non)
 |.rt (.v d) ρ=>(gA as ρ 0 xs).map (·,d)
 |_=>none
def Ez(n p:Nat)(g:Dw)(xs:List DV)(q:List DV×D):Prop:=xs.length=p/\∀a,(g (bB n p (uK a 0 xs))).bind (nH a xs)=some q
noncomputable def kh (n p:Nat)(g:Dw):MW:=λx=>open Classical in if h:∃q,Ez n p g x q then some h.choose else none
def wv{n p:Nat}{q:List DV×D}(h:kh n p g xs=some q):Ez n p g xs q:=by
 unfold kh at h;split at h
 ·rename_i a;rw[<-Yu h];exact a.choose_spec
 ·cases h
def fQ{n p:Nat}{q:List DV×D}(c:xs.length=p)(h:∀as,(g (bB n p (uK as 0 xs))).bind (nH as xs)=some q):kh n p g xs=some q:=by
 have a:∃q,Ez n p g xs q:=⟨q,c,h⟩
 unfold kh;rw[dif_pos a];have b:=a.choose_spec.2 λ_=>0
 rw[h λ_=>0]at b;exact b.symm
def Fun.okW{P:Program}{k:Nat}(F:Fun K x qual st f fd)(S:FnScope N ps (defScope st))
  (R:∀{cdv:Value}{A:Around}{outer:List Env}{s:Shared}{H:Hp}{E:XK},Room k (A.deeper (envOfC qual (defScope st) s.heap.objs.size f cdv))->
   PDS (bM CX0 P w K mg base N qual (defScope st) f cdv A outer s H E).nox (defBody st) g):FnOk P w K mg base CX0 (k+1) f fd ps (spW K (kh N.length ps.length g)):=by
 refine F.ok S (λL H Q E hh_=>?_) λcdv A outer s H L Q E hr h=>?_
 ·obtain⟨Z,F',X,r,h1,J,_⟩:=hh_;have l:=J.len;rw[Yc,Yc]at l;rw[<-l];exact(wv h1).1
 ·refine⟨_,R hr,?_⟩;obtain⟨Z,F',X,q,h1,J,hQ⟩:=h;obtain⟨hl,hq⟩:=wv h1;obtain⟨O,hR⟩:=J.rep;have lv:X.length=L.length:=by have l:=J.len;rw[Yc,Yc]at l;exact l
  let as:Nat->Addr:=λk=>match L[k]? with|some (.ref a)=>a|_=>0
  have B:∀(j:Nat) (x:DV),X[j]?=some x->∃v,L[j]?=some v/\DVRep K Z F' H (λb=>O b=some j) x v:=λj x hx=>by
   obtain⟨v,e1,e2⟩:=hR j x (by rw[YG,hx];rfl);rw[YG]at e1;obtain⟨v',hv,e⟩:=aF e1;cases e;exact⟨_,hv,e2⟩
  have asv:∀j a,L[j]?=some (.ref a)->as j=a:=λj a e=>by show(match L[j]? with|some (.ref a)=>a|_=>0)=a;rw[e]
  obtain⟨r,hg,Y⟩:=Yd.mp (hq as);have I:DInv K Z F' H (bB N.length ps.length (uK as 0 X)) (L2.start N L):=by
   refine⟨J.toDHp,?_,O,λi y e=>?_⟩
   ·unfold bB L2.start;rw[Yb,Yb,Yc,Yc,Yo,Yo,sB,lv,<-hl,lv]
   ·have e':=gZ e;rcases jI as 0 X i y e' with⟨o,t,T,rfl⟩|⟨_,T⟩
    ·obtain⟨v,d1,a,rfl,d2,d3⟩:=B i _ T;exact⟨_,eM d1,a,rfl,d2,λb z=>by rw[Vb,asv i a d1]at z;exact(Yu z).symm⟩
    ·obtain⟨v,d1,d2⟩:=B i _ T;exact⟨v,eM d1,d2⟩
  refine⟨Z,F',_,r,hg,I,?_⟩;have fin:∀(m:DF) (U:St) (c C:Hp) (M:List DV),gA as m 0 X=some M->Same F' c->DInv K Z c C m U->DInv K Z c C (M.map some) (L.map some):=λm U c C M p e I2=>by
   obtain⟨l,p⟩:=iZ p;obtain⟨O2,hI⟩:=I2.rep;refine⟨I2.toDHp,by rw[Yc,Yc,l,lv],O2,λj z hj=>?_⟩;rw[YG]at hj;obtain⟨z',hz,ez⟩:=aF hj;cases ez;rcases p j _ hz with⟨o,o0,t0,T,c2,rfl⟩|⟨no,T⟩
   ·obtain⟨v,d1,a,rfl,_,_⟩:=B j _ T;rw[Vb]at c2;obtain⟨v',_,a',rfl,d2,d3⟩:=hI j _ c2;have ea:=d3 _ rfl;rw[asv j a d1]at ea;subst ea;exact⟨_,by rw[YG,d1];rfl,a,rfl,d2,λ_ z=>by cases z⟩
   ·obtain⟨v,d1,d2⟩:=B j _ T;refine⟨v,by rw[YG,d1];rfl,?_⟩;cases z with
    |v d=>exact Rep.same e d2
    |own o t=>exact absurd rfl (no o t)
    |bor o=>obtain⟨a,rfl,d3⟩:=d2;exact⟨a,rfl,d3.mono e λb u q p=>⟨p,q⟩⟩
  cases r with
  |nx m=>
   obtain⟨M,p,rfl⟩:=aF Y;exact λU c C e I2=>hQ .non c C e (fin m U c C M p e I2) .non
  |rt x m=>
   cases x with
   |v d=>
    obtain⟨M,p,rfl⟩:=aF Y;exact λv U c C e I2 rv=>hQ v c C e (fin m U c C M p e I2) rv
   |own o t=>cases Y
   |bor o=>cases Y
  |bk m=>cases Y
  |ct m=>cases Y
def Df.okW{P:Program}         {k:Nat}  (F:Df K q st f fd) (N:List Str) (a:∀{cdv:Value}{A:Around}{outer:List Env}{s:Shared}{H:Hp}{E:XK},Room k (A.deeper (envOfC q (defScope st) s.heap.objs.size f cdv))->
      PDS (bM CX0 P w K mg base N q (defScope st) f cdv A outer s H E).nox (defBody st) g) (h:sj N (bQ st) (defScope st)=true:=by kernel_rfl):FnOk P w K mg base CX0 (k+1) f fd (bQ st) (spW K (kh N.length (bQ st).length g)):=
  F.fn.okW (scI N h) a
abbrev DWs:=DF->Option (List AW×DF)
def tLW(K:Kq)(g:DWs):TA:=λa H Q=>∃P F c r,g c=some r/\DInv K P F H c a/\∀e b f,Same F b->DInv K P b f r.2 a->ArgsW K b a r.1 e->Q e f
def PAW(X:Cx)(es:List Expr)(g:DWs):Prop:=PA X es (tLW X.K g)
def bJ:DWs:=λρ=>some ([],ρ)
def az(i:Nat)(g:DWs):DWs:=λa=>match a[i]? with
 |some (some (.own _ _))=>(g a).map λr=>(.inl i::r.1,r.2)
 |_=>none
def aN(f:DX)(g:DWs):DWs:=λc=>(f c).bind λa=>(g a.2).map λb=>(.inr a.1::b.1,b.2)
def ay(m:MW)(g:DWs):DX:=λc=>(g c).bind λa=>if(awS a.1).Nodup then(awX a.2 a.1).bind λx=>(m x).bind λr=>(awB a.2 a.1 r.1).map λb=>(r.2,b)else none
section
variable    {g:DWs}{f:DX}
def bK:PAW X [] bJ:=a_.imp λa H Q=>un7 λP F b r h I k=>by
 cases h;exact k [] F H (Same.refl _) I .nil
def aK(i:Nat)(h:PE X e (cf i))(t:PAW X es g)(p:starEach (e::es) X.env=(false,eval e X.env)::starEach es X.env:=by rfl):PAW X (e::es) (az i g):=PA.imp (aI h t p) λy H Q=>un7 λP F f r a I k=>by
 unfold az at a;split at a
 ·rename_i o t q;obtain⟨b,m,rfl⟩:=aF a;obtain⟨v,c,_⟩:=I.at q;exact⟨v,c,P,F,f,b,m,I,λj x w s u l=>k (v::j) x w s u (.slot c l)⟩
 ·cases a
def aZ(h:PX X e f)(t:PAW X es g)(s:starEach (e::es) X.env=(false,eval e X.env)::starEach es X.env:=by rfl):PAW X (e::es) (aN f g):=PA.imp (aI h t s) λB H Q=>un7 λP F j r c I k=>by
 obtain⟨a,p,c⟩:=Yd.mp c;obtain⟨b,q,rfl⟩:=aF c;exact⟨P,F,j,a,p,I,λv A C u x o=>⟨P,A,a.2,b,q,x,λl z y i w m=>k (v::l) z y (u.trans i) w (.val (o.same i) m)⟩⟩
variable{k:Nat}     {m:MW}  
def B7{E:XK}:∀σ H Q,tX K (ay m g) σ H Q->wk (spW K m) [] E (tLW K g) σ H Q:=λσ H Q=>un7 λP F f r h I s=>by
 obtain⟨a,o,h⟩:=Yd.mp h;split at h
 ·rename_i p;obtain⟨x,l,h⟩:=Yd.mp h;obtain⟨b,j,h⟩:=Yd.mp h;obtain⟨c,q,rfl⟩:=aF h;refine⟨P,F,f,a,o,I,λL C M u y A=>?_⟩;obtain⟨S,J,back⟩:=y.handW A l p;rw[Yg];exact⟨_,C,x,b,j,J,λv B z e w i=>s v B z (u.trans e) (back e w q) i⟩
 ·cases h
def pxc(G:FnOk X.prog X.w X.K X.mg X.base CX0 k f' fd (bQ sd) (spW X.K m))(D:Df X.K q sd f' fd/\X.mg (fz sd)=some (.ref f'))(a:Room k' X.A)(f:PAW X (e::es) g)(hx:fz sd=x:=by rfl)(b:k<=k':=by decide)(c:Gl X x:=by rfl)
  (hd:nDb x:=by decide) (he:starEach (e::es) X.env=(false,eval e X.env)::starEach es X.env:=by rfl) (h:(backTo pos (starEach es X.env)).any (·.1)=false:=by rfl):PX X (.Call (.Name x p) (e::es) [] pos) (ay m g):=
 (jO G (a.mono b) c (hx ▸ D.2) D.1.fn.kp D.1.bd .nil jW f hd he h).imp B7
end
def x2(f:Dy)(fa fb:DX):DX:=λc=>(fa c).bind λa=>(fb a.2).bind λb=>(f a.1 b.1).map (·,b.2)
def yX{r:R2}{f:Dy}{fa fb:DX}(u:mT K r f):∀σ H Q,tX K (x2 f fa fb) σ H Q->tOp r (tX K fa) (tX K fb) σ H Q:=λσ H Q=>un7 λP F j d h I k=>by
 obtain⟨a,s,h⟩:=Yd.mp h;obtain⟨b,p,h⟩:=Yd.mp h;obtain⟨c,q,rfl⟩:=aF h;exact⟨P,F,j,a,s,I,λx J L w z m=>⟨P,J,a.2,b,p,z,λy E B g i l=>u P E B b.2 σ x y _ _ c Q q i (.inl (m.same g)) (.inl l) λv C A e o=>k v C A ((w.trans g).trans e.ext) (i.evo e) o⟩⟩
section
variable    {fa fb:DX}{op:Operator}{r:R2}{f:Dy}
def zy(o:OpR X (binaryOp op) r)(h:mT X.K r f)(e:PX X a fa)(c:PX X b fb):PX X (.BinOp a op b pos) (x2 f fa fb):=(zk o e c).imp (yX h)
def gW(c:PX X a fa)(h:PX X b fb):PX X (.BinOp a .Add b pos) (x2 ap fa fb):=zy ((zC.or nM).or (wq.or sL)) wA c h
def kD(e:PX X a fa)(c:PX X b fb):PX X (.BinOp a .Mod b pos) (x2 aA fa fb):=zy yw (mq (λ_ _ h=>by have q:=YV h;exact q) λ_ _ _=>.int) e c
def Hr(e:PX X a fa)(c:PX X b fb)(h:q_ b:=by exact λ_ _=>rfl):PX X (.Subscript a b pos) (x2 ixD fa fb):=(DO yy e c h).imp (yX DI)
end
abbrev kM(vs:List (Str×V)):List (Key×V):=vs.map λp=>(Sum.inr p.1,p.2)
def jV(x:Str)(v:V)(r:List (Str×V)):kM ((x,v)::r)=(Sum.inr x,v)::kM r:=rfl
def gq(vs:List (Str×V))(n:Str):d7 (kM vs) (Sum.inr n)=vs.lookup n:=by
 induction vs with
 |nil=>rfl
 |cons p r ih=>
  obtain⟨x,v⟩:=p;rw[a8];unfold d7 at ih ⊢;rw[jV,Zh];by_cases e:n=x
  ·rw[Yi e,show decide ((Sum.inr x:Key)=Sum.inr n)=true from by rw[e];simp];rfl
  ·rw[Yr e,show decide ((Sum.inr x:Key)=Sum.inr n)=false from by rw[ui,Yn λz=>e z.symm]];exact ih
theorem qp{n:Str}{v:V}:∀{vs:List (Str×V)},n∉vs.map (·.1)->c_ n v vs=vs++[(n,v)]
 |[],_=>rfl
 |(x,w)::r,h=>by
  unfold c_;rw[Yr λz=>h (by rw[z];exact Yf),qp λm=>h (Ye _ m)];rfl
theorem D4{n:Str}{v:V}:∀{vs:List (Str×V)},n∉vs.map (·.1)->(kM vs).map (λa=>if a.1=Sum.inr n then(a.1,v)else a)=kM vs
 |[],_=>rfl
 |(x,w)::r,h=>by
  rw[jV,YC,D4 λm=>h (Ye _ m),Yr λz=>h (by cases z;exact Yf)]
theorem zt{n:Str}{v:V}:∀{vs:List (Str×V)},(vs.map (·.1)).Nodup->n∈vs.map (·.1)->(kM vs).map (λa=>if a.1=Sum.inr n then(a.1,v)else a)=kM (c_ n v vs)
 |[],_,m=>nomatch m
 |(x,w)::r,nd,m=>by
  unfold c_;by_cases e:x=n
  ·subst e;rw[Yi rfl,jV,YC,D4 (YF.mp nd).1,Yi rfl];rfl
  ·rw[Yr e,jV,YC,jV,zt (YF.mp nd).2 ((YB.mp m).elim (λz=>absurd z.symm e) id),Yr λz=>e (Sum.inr.inj z)]
def kJ{n:Str}{v:V}{vs:List (Str×V)}(b:(vs.map (·.1)).Nodup):fH (kM vs) (Sum.inr n) v=kM (c_ n v vs):=by
 unfold fH;have e:(kM vs).any (λa=>decide (a.1=Sum.inr n))=true↔n∈vs.map (·.1):=by
  rw[List.any_eq_true];constructor
  ·rintro⟨a,m,z⟩;obtain⟨p,h,rfl⟩:=Yt.mp m;cases YV z;exact List.mem_map_of_mem h
  ·intro m;obtain⟨p,h,rfl⟩:=Yt.mp m;exact⟨_,List.mem_map_of_mem h,by simp⟩
 by_cases m:n∈vs.map (·.1)
 ·rw[Yi (e.mpr m)];exact zt b m
 ·rw[Yr (λz=>m (e.mp z)),qp m];simp
def Kids.keys{F:Hp}{ow:Addr->Prop}{vs:List (Str×V)}{fs:List (Str×FO)}(h:Kids K F H ow vs fs):vs.map (·.1)=fs.map (·.1):=by
 induction h with
 |nil=>rfl
 |cons r _ ih=>rw[YC,YC,ih,r.1]
section
variable  {n:Str}  
def pfD{j kp}(i:Nat)(y:X.A.units+64<cLine)(h:PE X o (cf i))(e:qZ (.Constant (.str n) j kp):=by exact λ_ _=>rfl):PDE X (.Subscript o (.Constant (.str n) j kp) pos) (dR none i n):=
 (iV (by omega) h dG e).imp λs H Q=>un7 λP F u d b I k=>by
  obtain⟨fs,q,b⟩:=Yd.mp b;split at b
  ·rename_i B c;cases b;obtain⟨a,z,x,m,g,_,f⟩:=I.obj q;obtain⟨w,l,p⟩:=(dh f).2 _ c;exact⟨_,m,a,w,rfl,by have:=DGet.k (k:=Sum.inr n) g;rw[gq,l]at this;exact this,k w F H (Evo.refl I.toDHp) p⟩
  ·cases b
def prD{j kp}(i:Nat)(L:X.A.units+64<cLine)(h:PE X o (cf i))(C:qZ (.Constant (.str n) j kp):=by exact λ_ _=>rfl):PDR X (.Subscript o (.Constant (.str n) j kp) pos) (aS none i n):=
 (iV (by omega) h dG C).imp λJ H Q=>un7 λP F K d c I k=>by
  obtain⟨fs,q,c⟩:=Yd.mp c;obtain⟨a,M,B,z,E,_,y⟩:=I.obj q;have g:∀w,B.lookup n=some w->DGet H a (.str n) (some w):=λw l=>by have:=DGet.k (k:=Sum.inr n) E;rw[gq,l]at this;exact this
  split at c
  ·rename_i x m;cases c;obtain⟨w,p,b,rfl,s,u,f,e⟩:=(dh y).2 _ m;exact⟨_,z,a,_,rfl,g _ p,k _ F H (Evo.refl I.toDHp) (.inr ⟨b,.lst x,u,rfl,s,f,e,rfl,rfl⟩)⟩
  ·rename_i x m;cases c;obtain⟨w,p,b,rfl,s,u,f,e⟩:=(dh y).2 _ m;exact⟨_,z,a,_,rfl,g _ p,k _ F H (Evo.refl I.toDHp) (.inr ⟨b,.dK x,u,rfl,s,f,e,rfl,rfl⟩)⟩
  ·cases c
def km{f:Dd}{j kp}(i:Nat)(hu:X.A.units+64<cLine)(h:PE X o (cf i))(Z:PDE X e f)(z:qZ (.Constant (.str n) j kp):=by exact λ_ _=>rfl)(g:attributeBase (.Subscript o (.Constant (.str n) j kp) pos') "append" X.env (eval (.Subscript o (.Constant (.str n) j kp) pos') X.env)=eval (.Subscript o (.Constant (.str n) j kp) pos') X.env:=by rfl)
  (m:((backTo cpos (starEach [e] X.env)).all (λx=>!x.1)&&(backToKw cpos (keywordEach [] X.env)).all (λx=>x.1.isSome)
   && decide (([e]:List Expr).length+([]:List Keyword).length+(if([]:List Keyword).isEmpty then 0 else 1)<30))=true:=by rfl)
  (c:(apos.endLine == cpos.line)=true:=by rfl) (J:starEach [e] X.env=[(false,eval e X.env)]:=by rfl) (y:swapsWith (.Call (.Attribute (.Subscript o (.Constant (.str n) j kp) pos') "append" apos) [e] [] cpos) none pos.line X.env=pure false:=by rfl) :
  PD1 X (.Expr (.Call (.Attribute (.Subscript o (.Constant (.str n) j kp) pos') "append" apos) [e] [] cpos) pos) (b9 none i n f):=
 PS.imp (c9 (jR YW ZE ZR gu (iV (by omega) h dG z) (aI Z a_ J) g m c J rfl) y) λE M H=>un7 λP F O r B I k=>by
  obtain⟨d,R,B⟩:=Yd.mp B;obtain⟨N,q,rfl⟩:=aF B;obtain⟨fs,t,o1,o2,T,S,l,_,rfl⟩:=eG q;unfold n_ at l;split at l
  ·rename_i C;split at l
   ·rename_i Y;cases l;obtain⟨a,dx,vs,b,h1,h2,h4,h5,⟨_,e0,_,u,L,p⟩,w⟩:=I.kid2 T (o:=.lst C) rfl S;cases e0;cases u with
    |lst us=>
     refine⟨_,h1,a,.ref b,rfl,by have:=DGet.k (k:=Sum.inr n) h2;rw[gq,h4]at this;exact this,.inl ⟨rfl,us,SqL.of L⟩,P,F,O,d,R,I,λv F1 H1 s Q=>?_⟩;obtain⟨_,back⟩:=w s;have p:Reps X.K F us C:=p;refine⟨b,us,v,rfl,rfl,(s.keep b _ L h5).1,by rw[YL,p.length];exact Y,k M F1 _ s.ext ?_⟩;exact back _ (.lst (C++[d])) rfl λow U=>⟨b,rfl,U,_,aC,(p.same s.ext).append (.one Q)⟩
    |_=>exact p.elim
   ·cases l
  ·cases l
def jc(i:Nat)(n:Str)(f:DX):DF->Option RES:=λb=>(f b).bind λa=>match a.2[i]? with
 |some (some (.own (.obj none fs) t))=>if(fs.map (·.1)).Nodup/\fs.length<16777216 then(match fs.lookup n with
  |some (.d _)=>some (.nx (a.2.set i (some (.own (.obj none (fD n (.d a.1) fs)) t))))
  |_=>none)else none
 |_=>none
def rK{f:DX}{j kp}(i:Nat)(Z:X.A.units+64<cLine)(O:PE X o (cf i))(hv:PX X e f)(N:swapsWith e (some (.Subscript o (.Constant (.str n) j kp) pos')) pos.line X.env=pure false:=by rfl) :
  PD1 X (.Assign [.Subscript o (.Constant (.str n) j kp) pos'] e pos) (jc i n f):=PS.imp (l9 (by omega) O dG hv N) λE z H=>un7 λP F B r h I k=>by
 obtain⟨a,q,h⟩:=Yd.mp h;split at h
 ·rename_i fs t c;split at h
  ·rename_i l;split at h
   ·rename_i d0 L;cases h;refine⟨P,F,B,a,q,I,λv U H1 S y K=>?_⟩;obtain⟨p,dx,b,w,s,m,h3,h4,h5,Q,back⟩:=y.fld c L;obtain⟨Y,T,J,x,u,_,R⟩:=y.obj (C:=none) (i:=i) (fs:=fs) (by unfold jg;rw[c];exact Yi rfl);rw[s]at x;cases x;rw[m]at u;cases rc (Yu u);have M:(b.map (·.1)).Nodup:=by rw[Kids.keys R];exact l.1
    have g:=DPut.k (k:=Sum.inr n) (v:=v) m (by show(b.map _).length<_;rw[Yc,Q,YL];exact l.2);rw[kJ M]at g;exact⟨_,s,p,_,rfl,g,k z U _ S (back v a.1 K)⟩
   ·cases h
  ·cases h
 ·cases h
end
abbrev DB:=DF->Option (Bool×DF)
def tBX(K:Kq)(f:DB):TT:=λa H Q=>∃P F b r,f b=some r/\DInv K P F H b a/\∀e c,Same F e->DInv K P e c r.2 a->Q r.1 c
def PTX(X:Cx)(e:Expr)(f:DB):Prop:=PT X e (tBX X.K f)
def PWX(X:Cx)(e:Expr)(f:DB):Prop:=PW X e (tBX X.K f)
def PWX.t{f:DB}(h:PWX X e f):PTX X e f:=PW.pt h
def nW(f:Dk):DB:=λρ=>(f ρ).map (·,ρ)
def tF(f:Dy)(fa fb:DX):DB:=λa=>(x2 f fa fb a).bind λr=>match r.1 with
 |.bl b=>some (b,r.2)
 |_=>none
def bOr(f g:DB):DB:=λa=>(f a).bind λr=>if r.1=true then some (true,r.2)else g r.2
def wT(c:DB)(g h:Dw):DF->Option RES:=λa=>(c a).bind λr=>if r.1=true then g r.2 else h r.2
section
variable  {c:Expr}{aR:List Expr}  {fa fb:DX}{f g:DB}
def FF{f:Dk}(h:PDT X e f):PTX X e (nW f):=PT.imp h λj H Q=>un7 λP F b r c I k=>by
 obtain⟨d,q,rfl⟩:=aF c;exact⟨P,F,b,d,q,I,λi g a=>k i g a.ext (I.evo a)⟩
def Bz{op:CmpOp}{r:R2}{f:Dy}(A:OpR X (compareOp op) r)(C:OpN2 X.K r f)(J:PX X a fa)(E:PX X b fb)(B:behindInMarks op b=false):PTX X (.Compare a [op] [b] pos) (tF f fa fb):=
 PT.imp (rD A J E B) λU H Q=>un7 λP F j r h I k=>by
  obtain⟨x,q,h⟩:=Yd.mp h;obtain⟨u,s,q⟩:=Yd.mp q;obtain⟨v,p,q⟩:=Yd.mp q;obtain⟨d,o,rfl⟩:=aF q;cases d with
  |bl z=>
   cases h;refine⟨P,F,j,u,s,I,λx T Y L M m=>⟨P,T,u.2,v,p,M,λy S O i c l=>?_⟩⟩;refine C P S O x y _ _ _ _ o c.toDHp ((m.same i).same c.sub) (l.same c.sub) λw R N g e=>?_;cases e;exact⟨z,rfl,k R N ((L.trans i).trans g.ext) (c.evo g)⟩
  |_=>cases h
def EU(h:X.A.units+64<cLine)(e:PX X a fa)(c:PX X b fb):PTX X (.Compare a [.Eq] [b] pos) (tF eqD fa fb):=Bz (rL h) qL e c (gj _)
def Cg(h:PTX X a f):PWX X (.BoolOp .Or [a] pos) f:=zg h
def FC(o:PTX X a f)(m:PWX X (.BoolOp .Or (b::aR) pos) g):PWX X (.BoolOp .Or (a::b::aR) pos) (bOr f g):=PW.imp (DL o m) λz H Q=>un7 λP F l r h I k=>by
 obtain⟨x,q,h⟩:=Yd.mp h;refine⟨P,F,l,x,q,I,λj w e i=>?_⟩;obtain⟨x,c⟩:=x;cases x with
 |true=>cases h;exact k j w e i
 |false=>exact⟨P,j,c,r,h,i,λy u p s=>k y u (e.trans p) s⟩
def Eh{as bs:List Stmt}{g h:Dw}(m:PTX X c f)(p:PDS X as g)(o:PDS X bs h):PD1 X (.If c as bs pos) (wT f g h):=PS.imp (ze m p o) λE s H=>un7 λP F l r a I k=>by
 obtain⟨x,q,a⟩:=Yd.mp a;refine⟨P,F,l,x,q,I,λj u e i=>?_⟩;obtain⟨x,b⟩:=x;cases x with
 |true=>
  rw[Yi rfl]at a ⊢;exact⟨P,j,b,r,a,i,k.ext e⟩
 |false=>
  rw[Yr Ym]at a ⊢;exact⟨P,j,b,r,a,i,k.ext e⟩
def BH(g:DXs):DX:=λa=>(g a).bind λr=>if r.1.length<=16777216 then some (.lst r.1,r.2)else none
def E9{g:DXs}(h:PAX X es g):PX X (.List es pos) (BH g):=(jy h).imp λm H Q=>un7 λP F i d a I k=>by
 obtain⟨r,q,a⟩:=Yd.mp a;split at a
 ·rename_i j;cases a;refine⟨P,F,i,r,q,I,λo u s l f b=>⟨by rw[b.length,YL];exact j,λp c=>?_⟩⟩;have e:=(f.toDHp.free c).1;exact k (.ref p) _ _ (l.trans (eV e)) (f.laid c) (.lst (SqL.of aC) (b.same (eV e)))
 ·cases a
end
end L2
namespace L2
open PySem PySem.Spec PyProof.Rows PySem.MeetsSeq PySem.SeqAt
open PySem.AutoSeq1 (wpAny_loadPart')
theorem oC(l:Addr)(a:Array Value)(n:Nat)(x:Value)(e:Value->Bool)(j:Nat)(I:j<a.size)(B:e a[j]=true)(k:Nat)(o:a.size<=sizeLine) :
  ∀i:Nat,j-i=k->i<=j->(∀m (H:m<a.size),i<=m->m<j->e a[m]=false)->Meets (Builtin.«list.remove.loop» ⟨[.ref l,x,rawInt i],[]⟩)
   (λA R s=>s.heap.get? l=some {cls:=.type "list",dict:=none,data:=.seq a n,slots:=#[]}/\(∀y,y∈a->EqAt A.in1 s y x (e y))/\R (.ok (.ret .none)) {s with heap:=s.heap.update l (Obj.mapSeq λxs=>xs.eraseIdxIfInBounds j)}):=by
 induction k with
 |zero=>
  intro i M C b p w A R s h;obtain⟨L,g,d,J,K⟩:=s;obtain⟨f,u,h⟩:=h;have q:i=j:=by omega
  subst q
  wp_walk using Xe f
  have E:a[((i:Nat):Int).toNat]?=some a[i]:=by simp[I]
  rw[E];refine Yq (u _ (Array.getElem_mem I) p w _ _ ?_);rw[B];have z:(a.eraseIdxIfInBounds i).size<=sizeLine+1:=YQ (size_erased a _) (Nat.le_succ_of_le o)
  wp_walk using (wpAny_updateSeq f rfl (hz:=o) (_hz':=z)),Xe f
  simpa using h
 |succ k ih=>
  intro i M C b p w A R s h;obtain⟨L,g,d,J,K⟩:=s;obtain⟨f,u,h⟩:=h;have c:i<a.size:=by omega
  wp_walk using Xe f
  have E:a[((i:Nat):Int).toNat]?=some a[i]:=by simp[c]
  have N:((i:Int)+1)=((i+1:Nat):Int):=by push_cast;rfl
  rw[E];refine Yq (u _ (Array.getElem_mem c) p w _ _ ?_);rw[b i c (Yy _) (by omega)]
  wp_walk
  rw[N];exact⟨plainId_quiet plain_remove_loop _,Xw entry_remove_loop (by
   rw[Around.under_plainId plain_remove_loop _];exact ih (i+1) (by omega) (by omega) (λm H P O=>b m H (by omega) O) p w A R _ ⟨f,u,h⟩)⟩
def oI(l:Addr)(i:Array Value)(n:Nat)(x:Value)(e:Value->Bool)(j:Nat)(q:j<i.size)(c:e i[j]=true)(b:∀m (f:m<i.size),m<j->e i[m]=false)(a:i.size<=sizeLine) :
  Meets (Builtin.«list.remove» ⟨[.ref l,x],[]⟩)
   (λA R s=>s.heap.get? l=some {cls:=.type "list",dict:=none,data:=.seq i n,slots:=#[]}/\(∀y,y∈i->EqAt A.in1 s y x (e y))/\R (.ok (.ret .none)) {s with heap:=s.heap.update l (Obj.mapSeq λxs=>xs.eraseIdxIfInBounds j)}):=by
 intro p w A R s h;obtain⟨E,g,d,B,C⟩:=s;obtain⟨o,u,h⟩:=h
 wp_walk using Xe o
 exact⟨plainId_quiet plain_remove_loop _,Xw entry_remove_loop (by
  rw[Around.under_plainId plain_remove_loop _];exact oC l i n x e j q c _ a 0 rfl (YS _) (λm f _ z=>b m f z) p w A R _ ⟨o,u,h⟩)⟩
section
variable   {f:Dd} 
theorem wW(hu:X.A.units+64<cLine):MtM X "list.remove" (λx vs H Q=>∃l xs ds y dy j,x=.ref l/\vs=[y]/\H l=some (.lst xs)/\Reps X.K H xs ds/\Rep X.K H y dy/\ds.all (okN 29)=true/\okN 30 dy=true/\rR dy ds=some j/\Q .non (upd H l (.lst (xs.eraseIdx j)))):=by
 intro pz s Z H x vs v us Q I E e h;obtain⟨l,xs,ds,y,dy,j,rfl,rfl,B,r,C,ok,L,R,q⟩:=h;cases E;obtain⟨u,rfl,J⟩:=e.one;obtain⟨z,i,n,c,hl,f⟩:=I.lstM B;obtain⟨⟨Y,w,N⟩,M⟩:=pB R;have l1:=r.length;have l2:=c.length;have P:j<ds.length:=(YI.mp w).1;have a:j<i.toArray.size:=by rw[Yp];omega
 have o:=cz ok;have b:∀(m:Nat) (p:m<i.toArray.size) d,ds[m]?=some d->yV i ds dy i.toArray[m]=eqd d dy:=λm p d S=>vv I r c o (by simp) S
 refine XB PySem.F.slot_list_remove ⟨_,f,rfl⟩ PySem.F.entry_list_remove (PySem.F.args_list_remove_2 _ _)
  (oI l i.toArray n u (yV i ds dy) j a (by rw[b j a Y w];exact N) (λm p g=>?_) (by rw[Yp];omega)) ⟨f,λz O=>AC I r c o C L J (A:=X.A.in1) (by show X.A.units+1+60<cLine;omega) z (by simpa using O),?_⟩
 ·obtain⟨d,U,T⟩:=M m g;rw[b m p d U];exact T
 ·refine⟨.non,_,I.lset (its':=i.eraseIdx j) B f ?_ (c.eraseIdx j) ?_,rfl,q⟩
  ·show i.toArray.eraseIdxIfInBounds j=(i.eraseIdx j).toArray;rw[XD]
  ·have:=pD xs j;omega
end
end L2
namespace L2
open PySem PySem.Spec PyProof.Rows
def lG(C:Option Addr)(i:Nat)(n:Str):DX:=λb=>(aS C i n b).bind λx=>match x with
 |.lst ds=>(ds[ds.length-1]?).bind λd=>(eA C i n (λ_=>some (.lst ds.dropLast)) b).map λa=>(d,a)
 |_=>none
def DInv.popK{F:Hp}{C:Option Addr}{n:Str}{r:D×DF}(I:DInv K P F H ρ σ)(h:lG C i n ρ=some r) :
  ∃a dx vs b us y,σ[i]?=some (some (.ref a))/\H a=some (bxO C dx vs)/\vs.lookup n=some (.ref b)/\H b=some (.lst us)/\us[us.length-1]?=some y/\Rep K F y r.1/\DInv K P F (upd H b (.lst us.dropLast)) r.2 σ:=by
 obtain⟨x,s,h⟩:=Yd.mp h;cases x with
 |lst ds=>
  obtain⟨d,m,h⟩:=Yd.mp h;obtain⟨g,q,rfl⟩:=aF h;obtain⟨fs,t,N,M,f,e,p,_,rfl⟩:=eG q;cases p;have e:=AM s f;obtain⟨a,dx,vs,b,J,E,Q,B,O,⟨_,L,_,u,A,c⟩,back⟩:=I.kid f (o:=.lst ds) rfl e;cases L;cases u with
  |lst us=>
   have c:Reps K F us ds:=c;obtain⟨y,l,j⟩:=c.get m;refine⟨a,dx,vs,b,us,y,J,E,B,A,by rw[c.length];exact l,j,back _ (.lst ds.dropLast) rfl λow w=>⟨b,rfl,w,.lst us.dropLast,aC,?_⟩⟩;show Reps K F us.dropLast ds.dropLast;have z:=c.take (n:=us.length-1);rw[List.dropLast_eq_take,List.dropLast_eq_take,<-c.length];exact z
  |_=>exact c.elim
 |_=>cases h
section
variable  {n:Str}   
def vF(i:Nat)(c:Cls X.K C)(m:NoAttr X.K C n)(h:PE X o (cf i))(p:attributeBase o n X.env (eval o X.env)=eval o X.env:=by rfl)(f:attributeBase (.Attribute o n pos') "pop" X.env (eval (.Attribute o n pos') X.env)=eval (.Attribute o n pos') X.env:=by rfl)(e:(apos.endLine == cpos.line)=true:=by rfl) :
  PX X (.Call (.Attribute (.Attribute o n pos') "pop" apos) [] [] cpos) (lG (some C) i n):=
 (p8 YW XJ PySem.F.type_list_pop zJ (js h p) f e).imp λB H Q=>un7 λP F E r l I k=>by
  obtain⟨a,A,j,b,u,y,z,x,w,g,s,q,J⟩:=I.popK l;exact⟨_,z,a,C,A,j,_,rfl,x,c,m,w,.inl ⟨rfl,u,SqL.of g⟩,b,u,y,rfl,rfl,g,s,k y F _ (Same.refl _) J q⟩
def Bj{j kp}(i:Nat)(C:X.A.units+64<cLine)(h:PE X o (cf i))(f:qZ (.Constant (.str n) j kp):=by exact λ_ _=>rfl)(e:attributeBase (.Subscript o (.Constant (.str n) j kp) pos') "pop" X.env (eval (.Subscript o (.Constant (.str n) j kp) pos') X.env)=eval (.Subscript o (.Constant (.str n) j kp) pos') X.env:=by rfl)(c:(apos.endLine == cpos.line)=true:=by rfl) :
  PX X (.Call (.Attribute (.Subscript o (.Constant (.str n) j kp) pos') "pop" apos) [] [] cpos) (lG none i n):=
 (p8 YW XJ PySem.F.type_list_pop zJ (iV (by omega) h dG f) e c).imp λx H Q=>un7 λP F z r l I k=>by
  obtain⟨a,E,B,b,u,y,w,s,q,g,p,m,J⟩:=I.popK l;exact⟨_,w,a,.ref b,rfl,by have:=DGet.k (k:=Sum.inr n) s;rw[gq,q]at this;exact this,.inl ⟨rfl,u,SqL.of g⟩,b,u,y,rfl,rfl,g,p,k y F _ (Same.refl _) J m⟩
def sf(i:Nat)(n:Str)(f:DX):DF->Option RES:=λb=>(f b).bind λa=>match a.2[i]? with
 |some (some (.own (.obj none fs) t))=>if(fs.map (·.1)).Nodup/\fs.length<1000/\fs.lookup n=none then some (.nx (a.2.set i (some (.own (.obj none (fD n (.d a.1) fs)) t))))else none
 |_=>none
theorem wc{f:DX}{j kp}(i:Nat)(Y:X.A.units+64<cLine)(N:PE X o (cf i))(hv:PX X e f)(M:swapsWith e (some (.Subscript o (.Constant (.str n) j kp) pos')) pos.line X.env=pure false:=by rfl) :
  PD1 X (.Assign [.Subscript o (.Constant (.str n) j kp) pos'] e pos) (sf i n f):=PS.imp (l9 (by omega) N dG hv M) λE y H=>un7 λP F z r h I k=>by
 obtain⟨a,q,h⟩:=Yd.mp h;split at h
 ·rename_i fs t g;split at h
  ·rename_i m;cases h;refine⟨P,F,z,a,q,I,λv T H1 R b K=>?_⟩;obtain⟨p,Z,c,u,s,O,J⟩:=b.addF (Evo.refl b.toDHp) g m.2.2 (o:=.d a.1) (v:=v) K;obtain⟨U,S,B,x,w,_,Q⟩:=b.obj (C:=none) (i:=i) (fs:=fs) (by unfold jg;rw[g];exact Yi rfl);rw[u]at x;cases x;rw[s]at w;cases rc (Yu w);have L:(c.map (·.1)).Nodup:=by rw[Kids.keys Q];exact m.1
   have l:=DPut.k (k:=Sum.inr n) (v:=v) s (by show(c.map _).length<_;rw[Yc,O,YL];omega);rw[kJ L]at l;exact⟨_,u,p,_,rfl,l,k y T _ R J⟩
  ·cases h
 ·cases h
end
def AD(y:D):FO->Option FO
 |.lst ds=>if(ds.all (okN 29)&&okN 30 y)=true then(rR y ds).map λj=>.lst (ds.eraseIdx j)else none
 |_=>none
def oY(i:Nat)(n:Str)(f:Dd):DF->Option RES:=λa=>(f a).bind λd=>(eA none i n (AD d) a).map .nx
section
variable  {n:Str}  
def Bp{f:Dd}{j kp}(i:Nat)(hu:X.A.units+64<cLine)(h:PE X o (cf i))(ha:PDE X e f)(B:qZ (.Constant (.str n) j kp):=by exact λ_ _=>rfl)(g:attributeBase (.Subscript o (.Constant (.str n) j kp) pos') "remove" X.env (eval (.Subscript o (.Constant (.str n) j kp) pos') X.env)=eval (.Subscript o (.Constant (.str n) j kp) pos') X.env:=by rfl)
  (s:((backTo cpos (starEach [e] X.env)).all (λx=>!x.1)&&(backToKw cpos (keywordEach [] X.env)).all (λx=>x.1.isSome)
   && decide (([e]:List Expr).length+([]:List Keyword).length+(if([]:List Keyword).isEmpty then 0 else 1)<30))=true:=by rfl)
  (c:(apos.endLine == cpos.line)=true:=by rfl) (M:starEach [e] X.env=[(false,eval e X.env)]:=by rfl) (z:swapsWith (.Call (.Attribute (.Subscript o (.Constant (.str n) j kp) pos') "remove" apos) [e] [] cpos) none pos.line X.env=pure false:=by rfl) :
  PD1 X (.Expr (.Call (.Attribute (.Subscript o (.Constant (.str n) j kp) pos') "remove" apos) [e] [] cpos) pos) (oY i n f):=
 PS.imp (c9 (jR YW PySem.F.slot_list_remove PySem.F.type_list_remove (wW hu) (iV (by omega) h dG B) (aI ha a_ M) g s c M rfl) z) λE R H=>un7 λP F T r C I k=>by
  obtain⟨d,Z,C⟩:=Yd.mp C;obtain⟨S,q,rfl⟩:=aF C;obtain⟨fs,t,o1,o2,q1,q2,l,_,rfl⟩:=eG q;unfold AD at l;split at l
  ·rename_i w;split at l
   ·rename_i J;rw[Ys]at J;obtain⟨m,Y,rfl⟩:=aF l;obtain⟨a,dx,vs,b,h1,h2,h4,h5,⟨_,e0,_,u,O,N⟩,y⟩:=I.kid2 q1 (o:=.lst w) rfl q2;cases e0;cases u with
    |lst us=>
     refine⟨_,h1,a,.ref b,rfl,by have:=DGet.k (k:=Sum.inr n) h2;rw[gq,h4]at this;exact this,.inl ⟨rfl,us,SqL.of O⟩,P,F,T,d,Z,I,λv Q H1 p U=>?_⟩;obtain⟨_,back⟩:=y p;have L:Reps X.K Q us w:=Reps.same p.ext N;refine⟨b,us,w,v,d,m,rfl,rfl,(p.keep b _ O h5).1,L.same p.hp.sub,Rep.same p.hp.sub U,J.1,J.2,Y,k R Q _ p.ext ?_⟩;exact back _ (.lst (w.eraseIdx m)) rfl λow ob=>⟨b,rfl,ob,_,aC,L.eraseIdx m⟩
    |_=>exact N.elim
   ·cases l
  ·cases l
end
end L2
namespace L2
open PySem PySem.Spec PySem.W PyProof.Rows
section
variable  {W:LamW}  
end
section
variable     {oc:Value}{od an:Option Addr}{osl:Array (Option Value)}{kV doc cdv ct:Value}
end
section
variable  {W:LamW}{k n j2:Nat}{c:Addr}    {x2:Str}   
def bs{c b:Type}{o:Option c}{f:c->Option b}{y:b}(h:o.bind f=some y):∃a,o=some a/\f a=some y:=by
 cases o with
 |none=>cases h
 |some a=>exact⟨a,rfl,h⟩
end
section
variable      {a b:Addr}{v:V}{r:Value}  
end
section
variable  {ek ev i:Expr}  {fk fd:Dd}{tk:TE}
def Evo.setNew{F:Hp}(h:DHp P F H)(e:Evo P F H F' H'){p:Addr}{u:HO}(c:H p=none)(l:F' p=none):Evo P F H F' (upd H' p u):=by
 have a:∀{b:Addr}{o:HO}{G:Hp},G b=some o->G p=none->b≠p:=λm g z=>by subst z;rw[m]at g;cases g
 have j:P p=none:=by cases z:P p with|none=>rfl|some o=>rw[h.pro p o z]at c;cases c
 exact⟨e.ext,⟨λb o q=>by rw[ax (a q l)];exact e.hp.sub b o q,λb o q=>by rw[ax (a q j)];exact e.hp.pro b o q,e.hp.dis⟩,λb o f i=>by rw[ax (a f c)];exact e.keep b o f i⟩
def GZ:D->Option D
 |.dT kvs=>some (.int kvs.length)
 |_=>none
end
end L2
namespace L2
open PySem PySem.Spec PyProof.Rows
abbrev DSP:=List (Str×Option Int)
def p7(L:DSP):List (Str×FO):=L.map λp=>(p.1,match p.2 with|none=>.lst []|some n=>.d (.int n))
def BA:DSP->List (TE×TE)
 |[]=>[]
 |(k,none)::r=>(tC (.str k),GY oq)::BA r
 |(k,some n)::r=>(tC (.str k),tC (.int n))::BA r
def Kids.own{F:Hp}{ow:Addr->Prop}{vs:List (Str×V)}{fs:List (Str×FO)}(h:Kids K F H ow vs fs):∀b∈eF vs fs,ow b:=by
 induction h with
 |nil=>exact λ_ m=>nomatch m
 |@cons p q _ _ r _ ih=>
  intro b m;rw[b_]at m;rcases Yj.mp m with m|m
  ·obtain⟨x,v⟩:=p;obtain⟨y,o⟩:=q;cases o with
   |d x=>cases m
   |lst ds=>obtain⟨_,c,rfl,z,_⟩:=r;cases Yl.mp m;exact z
   |dK ds=>obtain⟨_,c,rfl,z,_⟩:=r;cases Yl.mp m;exact z
  ·exact ih b m
theorem qC{K:Kq}{P F H:Hp}{σ:St}{p:Addr}:∀(L:DSP) {H1:Hp} (h:Evo P F H F H1) (f:H1 p=some (.dK [])) (R:List (V×V)->Hp->Prop),
  (∀vs H2,Evo P F H F H2->(∀c,H1 c≠none->H2 c=H1 c)->Kids K F H2 (λb=>H1 b=none/\F b=none) vs (p7 L)->(eF vs (p7 L)).Nodup->R (vs.map λq=>(.str q.1,q.2)) H2)->qK (BA L) σ H1 R
 |[],H1,h,f,R,k=>k [] H1 h (λ_ _=>rfl) .nil .nil
 |(n,some i)::r,H1,h,f,R,k=>qC (K:=K) r h f _ λvs H2 x j a o=>k ((n,.int i)::vs) H2 x j (.cons ⟨rfl,.int⟩ a) o
 |(n,none)::r,H1,h,f,R,k=>by
  refine⟨by simp,λl g=>qC (K:=K) (p:=p) r (h.trans (Evo.side h.hp g)) ((ax (λz=>by subst z;rw[g]at f;cases f)).trans f) _ λvs H2 x j a o=>?_⟩;have s:H2 l=some (.lst []):=(j l (by rw[aC];simp)).trans aC;have y:∀b,upd H1 l (.lst []) b=none->H1 b=none:=λb z=>by
   by_cases e:b=l
   ·subst e;exact g
   ·rw[ax e]at z;exact z
  refine k ((n,.ref l)::vs) H2 x (λc w=>(j c (by rw[ax λz=>by subst z;exact w g];exact w)).trans (ax λz=>by subst z;exact w g)) (.cons ⟨rfl,l,rfl,⟨g,(h.hp.free g).1⟩,_,s,.nil⟩ (Kids.mono (Same.refl _) (λb u q A=>⟨A,y b q.1,q.2⟩) a)) ?_;show([l]++eF vs (p7 r)).Nodup;refine YF.mpr ⟨λm=>?_,o⟩;have:=(Kids.own a l m).1;rw[aC]at this;cases this
theorem mP:∀(vs:List (Str×V)) (a:List (Str×V)),((a++vs).map (·.1)).Nodup->iD (kM a) (kM vs)=kM (a++vs)
 |[],a,_=>by rw[Yg];rfl
 |(x,v)::r,a,nd=>by
  have h:x∉a.map (·.1):=λm=>by
   rw[Yw]at nd;exact(YO.mp nd).2.2 _ m _ Yf rfl
  have b:(a.map (·.1)).Nodup:=by rw[Yw]at nd;exact(YO.mp nd).1
  show iD (fH (kM a) (Sum.inr x) v) (kM r)=_;rw[kJ b,qp h,mP r (a++[(x,v)]) (by rw[Yk];exact nd),Yk];rfl
def xb(L:DSP):(p7 L).map (·.1)=L.map (·.1):=by unfold p7;rw[Zl];rfl
structure PDOw (X:Cx) (e:Expr) (fo:DF->Option OD):Prop where
 h:PDO X e fo
section
variable   {keys:List (Option Expr)}{values:List Expr}
def Ac(L:DSP){j:List (TE×TE)}(h:PPs X pos keys values j)(S:j=BA L:=by kernel_rfl)(l:decide (L.map (·.1)).Nodup=true:=by kernel_rfl)(g:decide (L.length<=15)=true:=by kernel_rfl)(o:keys.all (·.isSome)=true:=by kernel_rfl)(M:keys.length=values.length:=by kernel_rfl)(h0:keys.isEmpty=false:=by kernel_rfl)
  (N:decide (keys.length<=15)=true:=by kernel_rfl):PDOw X (.Dict keys values pos) (λ_=>some (.obj none (p7 L))):=.mk <| (BS h o M (λz=>by subst z;cases h0) (YV N)).imp λZ H Q=>un7 λP F ρ ob O I k=>by
 subst S;have g:=YV g;cases O;intro p s;have U:Evo P F H F (upd H p (.dK [])):=Evo.side I.toDHp s;have B:F p=none:=(I.toDHp.free s).1;refine qC (K:=X.K) L U aC _ λi Y T E a C=>?_;have x:Y p=some (.dK []):=(E p (by rw[aC];simp)).trans aC;have w:=Kids.keys a;rw[xb]at w;refine⟨x,kM i,by rw[Zl];rfl,by rw[Yc,<-Yc (f:=(·.1)),w,Yc];exact g,?_⟩;rw[show iD [] (kM i)=kM i from mP i [] (by rw[Zg,w];exact YV l)];have y:∀b,upd H p (.dK []) b=none->H b=none/\b≠p:=λb z=>by
  by_cases e:b=p
  ·subst e;rw[aC]at z;cases z
  ·rw[ax e]at z;exact⟨z,e⟩
 have A:p∉eF i (p7 L):=λm=>(y p (Kids.own a p m).1).2 rfl
 have J:F p=none:=B;refine k p F _ (T.setNew I.toDHp s J) ⟨⟨s,B⟩,0,i,aC,YF.mpr ⟨A,C⟩,?_⟩;refine Kids.keep (Kids.mono (Same.refl _) (λb u q R=>⟨R,(y b q.1).1,q.2⟩) a) λc m=>ax λz=>by subst z;exact A m
structure PD1w (X:Cx) (s:Stmt) (g:DF->Option RES):Prop where
 h:PD1 X s g
structure PDSw (X:Cx) (ss:List Stmt) (g:DF->Option RES):Prop where
 h:PDS X ss g
def xy{s:Stmt}{a:List Stmt}{b:Dw}(h:PD1w X s g)(r:PDS X a b):PDSw X (s::a) (ag g b):=⟨ac h.h r⟩
def xw{s:Stmt}{a:List Stmt}{b:Dw}(h:PD1 X s g)(r:PDSw X a b):PDS X (s::a) (ag g b):=ac h r.h
def IS(i:Nat)(he:PDOw X e fo)(hi:X.N[i]?=some x:=by rfl)(hx:Loc X.env.scope x:=by first|exact .inl rfl|exact .inr rfl)(a:swapsWith e (some (.Name x pos')) pos.line X.env=pure false:=by rfl)(b:FnL X x:=by first|exact .inl rfl|exact .inr rfl|assumption)(hN:decide X.N.Nodup=true:=by kernel_rfl) :
  PD1w X (.Assign [.Name x pos'] e pos) (dC i fo):=⟨vC (ndI hN) hi hx he.h a b⟩
end
def rV(K:Kq)(cl:Nat->Addr)(rz:OD->List DV->Option Nat):Sp:=λg H _ E=>∃P F a c o x k,g=.ref a::c/\rz o x=some k/\DHp P F H/\ORep K F H (λb=>F b=none/\P b=none) o a/\DVs K P F H x c/\∀f e,Same F f->DHp P f e->E (.ref (cl k)) none e
def yp(n p:Nat)(g:DF->Option XR)(o:OD)(xs:List DV)(k:Nat):Prop:=xs.length+1=p/\∀a,g (bB n p (.own o (some a)::xs))=some (.ex k)
noncomputable def rzO (n p:Nat)(g:DF->Option XR)(o:OD)(xs:List DV):Option Nat:=open Classical in if h:∃k,yp n p g o xs k then some h.choose else none
def zj{n p k:Nat}{g:DF->Option XR}{o:OD}(h:rzO n p g o xs=some k):yp n p g o xs k:=by
 unfold rzO at h;split at h
 ·rename_i a;rw[<-Yu h];exact a.choose_spec
 ·cases h
def AF{n p k:Nat}{g:DF->Option XR}{o:OD}(e:xs.length+1=p)(h:∀a,g (bB n p (.own o (some a)::xs))=some (.ex k)):rzO n p g o xs=some k:=by
 have b:∃k,yp n p g o xs k:=⟨k,e,h⟩
 unfold rzO;rw[dif_pos b];have c:=b.choose_spec.2 0;rw[h 0]at c;cases c;rfl
def Fun.thrXO{P:Program}{cl:Nat->Addr}{k:Nat}{g:DF->Option XR}(F:Fun K x qual st f fd)(S:FnScope N ps (defScope st))
  (h:∀(cdv:Value) (A:Around) (outer:List Env) (s:Shared) (H:Hp) (E:XK),Room k (A.deeper (envOfC qual (defScope st) s.heap.objs.size f cdv))->PXS (bM (CXc P w cl) P w K mg base N qual (defScope st) f cdv A outer s H E) cl E (defBody st) g) :
  FnOk P w K mg base (CXc P w cl) (k+1) f fd ps (rV K cl (rzO N.length ps.length g)):=by
 have l:∀b H Q E,rV K cl (rzO N.length ps.length g) b H Q E->b.length=ps.length:=λb H Q E z=>by
  obtain⟨u,y,a,c,o,B,J,e,i,q,_,j,_⟩:=z;rw[e,Yh,<-j.length];exact(zj i).1
 obtain⟨Z,Y,kV,U,X,an,cdv,ct,C,rfl,I,p⟩:=F.ex;refine yh I p S l λA outer s H b Q E L m=>⟨_,h cdv A outer s H E L,?_⟩
 obtain⟨u,y,a,c,o,B,J,rfl,i,q,M,j,T⟩:=m;obtain⟨O,R⟩:=zj i;exact⟨u,y,_,_,R a,DInv.startO N ps.length q M j O,T⟩
def Df.thrO{P:Program}         {k:Nat}{cl:Nat->Addr}{g:DF->Option XR} (F:Df K q st f fd) (N:List Str) (b:∀{cdv:Value}{A:Around}{outer:List Env}{s:Shared}{H:Hp}{E:XK},Room k (A.deeper (envOfC q (defScope st) s.heap.objs.size f cdv))->
      PXS (bM (CXc P w cl) P w K mg base N q (defScope st) f cdv A outer s H E) cl E (defBody st) g) (h:sj N (bQ st) (defScope st)=true:=by kernel_rfl):FnOk P w K mg base (CXc P w cl) (k+1) f fd (bQ st) (rV K cl (rzO N.length (bQ st).length g)):=
  F.fn.thrXO (scI N h) λ_ _ _ _ _ _ a=>b a
def DInv.handX{F:Hp}{o:OD}{t:Option Addr}(I:DInv K P F H ρ σ)(hi:ρ[i]?=some (some (.own o t))) :
  ∃(a:Addr) (S:Addr->Prop),σ[i]?=some (some (.ref a))/\ORep K F H (λb=>F b=none/\gdS F H S b=none) o a/\DHp (gdS F H S) F H /\
   ∀{F2 H2:Hp},Same F F2->DHp (gdS F H S) F2 H2->DHp P F2 H2:=by
 obtain⟨O,f⟩:=I.rep;obtain⟨v,j,a,rfl,g,l⟩:=f i _ hi;refine⟨a,λb=>O b=some i/\P b=none,j,g.mono (Same.refl _) λb u q c=>⟨c,q.1,?_⟩,ut I.sub _,λ{F2 H2} m h=>?_⟩
 ·unfold gdS;exact Yi ⟨q.2.2,q.2.1⟩
 ·have keep:∀b u,¬(O b=some i/\P b=none)->F b=none->H b=some u->H2 b=some u/\F2 b=none:=λb u c n q=>⟨h.pro b u (gh.mpr ⟨c,n,q⟩),h.dis b u (gh.mpr ⟨c,n,q⟩)⟩
  have e:∀b u,P b=some u->H2 b=some u/\F2 b=none:=λb u q=>keep b u (λz=>by rw[z.2]at q;cases q) (I.dis b u q) (I.pro b u q)
  exact⟨h.sub,λb u q=>(e b u q).1,λb u q=>(e b u q).2⟩
def tRz(K:Kq)(cl:Nat->Addr)(E:XK)(rz:DF->Option Nat):TE:=λe H _=>∃P F a k,rz a=some k/\DInv K P F H a e/\∀c b,Same F c->DHp P c b->E (.ref (cl k)) none b
def PRz(X:Cx)(cl:Nat->Addr)(E:XK)(e:Expr)(rz:DF->Option Nat):Prop:=PE X e (tRz X.K cl E rz)
def xRz(rz:DF->Option Nat):DF->Option XR:=λa=>(rz a).map .ex
section
variable  {cl:Nat->Addr}{E:XK}   {rz:DF->Option Nat} 
def Bv(he:PRz X cl E e rz)(hi:X.N[i]?=some x:=by rfl)(hx:Loc X.env.scope x:=by first|exact .inl rfl|exact .inr rfl)(h:swapsWith e (some (.Name x pos')) pos.line X.env=pure false:=by rfl)(c:FnL X x:=by first|exact .inl rfl|exact .inr rfl|assumption)(hN:decide X.N.Nodup=true:=by kernel_rfl) :
  PX1 X cl E (.Assign [.Name x pos'] e pos) (xRz rz):=PS.imp (mw (ndI hN) hi hx he h c) λD f H=>un7 λP F a r b I k=>by
 obtain⟨n,q,rfl⟩:=aF b;exact⟨P,F,a,n,q,I,k⟩
def AT(he:PRz X cl E e rz)(h:swapsWith e none pos.line X.env=pure false:=by rfl):PX1 X cl E (.Expr e pos) (xRz rz):=PS.imp (c9 he h) λD c H=>un7 λP F a r b I k=>by
 obtain⟨n,q,rfl⟩:=aF b;exact⟨P,F,a,n,q,I,k⟩
def xOr(g h:DF->Option XR):DF->Option XR:=λa=>match g a with
 |some r=>some r
 |none=>h a
def D8{g h:DF->Option XR}(h1:PX1 X cl E st g)(h2:PX1 X cl E st h):PX1 X cl E st (xOr g h):=by
 intro p s b H D I q;obtain⟨P,F,c,r,a,e,k⟩:=q;unfold xOr at a;split at a
 ·rename_i i f;cases a;exact h1 p s b H D I ⟨P,F,c,_,f,e,k⟩
 ·exact h2 p s b H D I ⟨P,F,c,r,a,e,k⟩
def zo(i:Nat)(g:DF->Option XR):DF->Option XR:=λa=>match a[i]? with
 |some (some (.own o none))=>g (a.set i (some (.v o.d)))
 |some (some (.v _))=>g a
 |_=>none
def Eo(i:Nat){g:DF->Option XR}(h:PX1 X cl E st g):PX1 X cl E st (zo i g):=PS.imp h λD j H=>un7 λP F b r a I k=>by
 unfold zo at a;split at a
 ·rename_i o q;obtain⟨f,e,c⟩:=I.frz q;exact⟨P,f,_,r,a,c,k.ext e⟩
 ·exact⟨P,F,b,r,a,I,k⟩
 ·cases a
def dS(c:Dk)(body:DF->Option XR):Nat->DF->Option XR
 |0,_=>none
 |n+1,ρ=>match c ρ with
  |none=>none
  |some false=>some (.go (.nx ρ))
  |some true=>match body ρ with
   |some (.go (.nx ρ'))=>dS c body n ρ'
   |some (.go (.ct ρ'))=>dS c body n ρ'
   |some (.go (.bk ρ'))=>some (.go (.nx ρ'))
   |r=>r
def AU(n:Nat){c:Expr}{fc:Dk}{g:DF->Option XR}(Z:PassesOwn (model X.prog X.w) X.A X.env X.xe)(hc:PDT X c fc)(hb:PXS X cl E body g):PX1 X cl E (.While c body [] pos) (dS fc g n):=PS.imp (sW Z hc hb) λD σ H=>un7 λP F S r Y I k=>by
 refine⟨λm p Q=>∃C a,Same F C/\DInv X.K P C Q a p/\dS fc g m a=some r,⟨n,F,S,Same.refl _,I,Y⟩,?_⟩;rintro m p Q ⟨C,a,N,L,e⟩;cases m with
 |zero=>cases e
 |succ m=>
  unfold dS at e;cases q:fc a with
  |none=>rw[q]at e;cases e
  |some b=>
   rw[q]at e;refine⟨P,C,a,b,q,L,λM H2 j=>?_⟩;cases b with
   |false=>
    rw[Yr Ym];cases e;exact k p M H2 (N.trans j.ext) (L.evo j)
   |true=>
    rw[Yi rfl];refine⟨λy O=>∃R z,Same F R/\DInv X.K P R O z y/\dS fc g m z=some r,λy O h=>⟨m,Xp m,h⟩,?_⟩;have B:Same F M:=N.trans j.ext;dsimp only at e;cases s:g a with
    |none=>rw[s]at e;cases e
    |some i=>
     rw[s]at e;refine⟨P,M,a,i,s,L.evo j,?_⟩;cases i with
     |ex k'=>
      cases e;exact λo x l J=>k o x (B.trans l) J
     |go i=>
     cases i with
     |nx ρ4=>exact λf o x l u=>⟨o,ρ4,B.trans l,u,e⟩
     |ct ρ4=>exact λf o x l u=>⟨o,ρ4,B.trans l,u,e⟩
     |bk ρ4=>
      cases e;exact λf o x l u=>k f o x (B.trans l) u
     |rt x4 ρ4=>
      cases e;exact λT f o x l u U=>k T f o x (B.trans l) u U
end
def lJ(C:Addr)(mn:Str)(i:Nat)(rz:OD->List DV->Option Nat)(g:DXs):DF->Option Nat:=λb=>(jg (some C) i b).bind λfs=>if fs.lookup mn=none then(g b).bind λa=>match a.2[i]? with
  |some (some (.own o t))=>rz o (a.1.map .v)
  |_=>none else none
section
variable  {cl:Nat->Addr}{E:XK}   {rz:OD->List DV->Option Nat}{g:DXs}
def tY:∀σ H Q,tRz K cl E (lJ C mn i rz g) σ H Q->j5 C mn (rV K cl rz) [] E (cf i) (tLX K g) σ H Q:=λσ H Q=>un7 λP F l r h I k=>by
 obtain⟨fs,q,h⟩:=Yd.mp h;split at h
 ·rename_i y;obtain⟨a,w,h⟩:=Yd.mp h;split at h
  ·rename_i x t s;obtain⟨p,M,m,c,A,_,z⟩:=I.obj q;refine⟨_,c,p,M,m,rfl,A,(dh z).1 y,P,F,l,a,w,I,λu j R L N o=>?_⟩;obtain⟨U,S,e,J,B,back⟩:=N.handX s;rw[c]at e;cases e;exact⟨gdS j R S,j,p,u,x,a.1.map .v,r,by simp,h,B,J,o.dvs,λT O f b=>k T O (L.trans f) (back f b)⟩
  ·cases h
 ·cases h
def xI:∀σ H Q,tRz K cl E (lJ C mn i rz da) σ H Q->j5 C mn (rV K cl rz) [] E (cf i) oq σ H Q:=λσ H Q h=>by
 obtain⟨v,f,a,g,fs,rfl,e,c,P,F,j,x,q,I,b⟩:=tY σ H Q h;cases q;exact⟨_,f,a,g,fs,rfl,e,c,b [] F H (Same.refl _) I .nil⟩
variable{P:Program}             {k:Nat}     
abbrev XC(P:Program)(w:World)(K:Kq)(mg:Ks)(base:Heap)(N:List Str)(qual:Str)(scope:Scope)(f0:Addr)(cd:Value)(A:Around)(outer:List Env)(s:Shared)(H:Hp)(E:XK)(cl:Nat->Addr):Cx:=bM (CXc P w cl) P w K mg base N qual scope f0 cd A outer s H E
def Hk(i:Nat){pl:Sem Bool}(c:Cls K C)(m:Meth K C mn f)(G:FnOk P w K mg base (CXc P w cl) k f fd ps (rV K cl rz))(l:Room k' (XC P w K mg base N qual scope f0 cd A outer s H E cl).A)(q:Binds K fd ps [])(he:PE (XC P w K mg base N qual scope f0 cd A outer s H E cl) o (cf i))(u:PAX (XC P w K mg base N qual scope f0 cd A outer s H E cl) (e::es) g)(p:k<=k':=by decide)
  (h:starEach (e::es) (XC P w K mg base N qual scope f0 cd A outer s H E cl).env=(false,eval e (XC P w K mg base N qual scope f0 cd A outer s H E cl).env)::starEach es (XC P w K mg base N qual scope f0 cd A outer s H E cl).env:=by rfl) (a:(backTo pos (starEach es (XC P w K mg base N qual scope f0 cd A outer s H E cl).env)).any (·.1)=false:=by rfl)
  (j:eval (.Call (.Attribute o mn apos) (e::es) [] pos) (XC P w K mg base N qual scope f0 cd A outer s H E cl).env=(do
   let b <-eval o (XC P w K mg base N qual scope f0 cd A outer s H E cl).env
   standAt apos.atName
   let (f,first) <-holding [b] (getMethod b mn pl)
   callWith pos f first (backTo pos (starEach (e::es) (XC P w K mg base N qual scope f0 cd A outer s H E cl).env)) (backToKw pos (keywordEach [] (XC P w K mg base N qual scope f0 cd A outer s H E cl).env))):=by rfl):PRz (XC P w K mg base N qual scope f0 cd A outer s H E cl) cl E (.Call (.Attribute o mn apos) (e::es) [] pos) (lJ C mn i rz g):=
 (v6 (X:=XC P w K mg base N qual scope f0 cd A outer s H E cl) he c m G (l.mono p) q .nil vB u h a j).imp tY
def EJ(i:Nat){pl:Sem Bool}(c:Cls K C)(e:Meth K C mn f)(G:FnOk P w K mg base (CXc P w cl) k f fd ps (rV K cl rz))(b:Room k' (XC P w K mg base N qual scope f0 cd A outer s H E cl).A)(j:Binds K fd ps [])(he:PE (XC P w K mg base N qual scope f0 cd A outer s H E cl) o (cf i))(g:k<=k':=by decide)
  (h:eval (.Call (.Attribute o mn apos) [] [] pos) (XC P w K mg base N qual scope f0 cd A outer s H E cl).env=(do
   let a <-eval o (XC P w K mg base N qual scope f0 cd A outer s H E cl).env
   standAt apos.atName
   let (f,first) <-holding [a] (getMethod a mn pl)
   callWith pos f first (backTo pos (starEach [] (XC P w K mg base N qual scope f0 cd A outer s H E cl).env)) (backToKw pos (keywordEach [] (XC P w K mg base N qual scope f0 cd A outer s H E cl).env))):=by rfl):PRz (XC P w K mg base N qual scope f0 cd A outer s H E cl) cl E (.Call (.Attribute o mn apos) [] [] pos) (lJ C mn i rz da):=
 (nJ (X:=XC P w K mg base N qual scope f0 cd A outer s H E cl) he c e G (b.mono g) j .nil vB h).imp xI
end
end L2
namespace L2
open PySem PySem.Spec PySem.Calls PySem.W PyProof.Rows
def wP{k:Nat}{cl:Nat->Addr}{g:Dv}(hX:∀e s,X.xe e s->False)
  (F:FnOk X.prog X.w X.K X.mg X.base (CXc X.prog X.w cl) k f fd ps (og X.K cl rz)) (hr:Room k X.A) (hg:Gl X x) (hm:X.mg x=some (.ref f)) (hk:PySem.W.keepIn X.K (.ref f)=true) (hb:Binds X.K fd ps []) (ha:iH X (e::es) g)
  (hd:nDb x:=by decide) (he:starEach (e::es) X.env=(false,eval e X.env)::starEach es X.env:=by rfl) (T:(backTo pos (starEach es X.env)).any (·.1)=false:=by rfl)
  (hs:swapsWith (.Call (.Name x p) (e::es) [] pos) none p2.line X.env=pure false:=by rfl) :
  GN X [.Expr (.Call (.Name x p) (e::es) [] pos) p2] cl (λρ=>(g ρ).bind rz):=by
 intro pz s σ H P Fr ρ S Q E I h ID go;cases q:g ρ with
 |none=>simp only[q]at h;cases h
 |some O=>
  simp only[q,Ya]at h;have Z:=ha pos pz s σ H (λl i=>∃b,Evo P Fr H b i/\ArgsS X.K ρ σ b O l) I ⟨P,Fr,ρ,O,q,ID,λl b i e1 R=>⟨b,e1,R⟩⟩;refine wpAny_execs_cons (wpAny_Expr_any (Xa (fi I hg hm ?_ hd)) I.quiet hs);refine Xu (h₀:=X.base) I.ok.mod.kin hk (Zx Z (λL s1 z=>?_) λe s z=>(hX e s z).elim) he T;obtain⟨l,i,M,rv,b,C,R⟩:=z;refine⟨M.kIn,?_⟩;have J:=ID.evo C;have m:og X.K cl rz l i (λ_ _=>False) (λc _ N=>c=.ref (cl S)/\∃j,Same b j/\DHp (gd b i) j N):=⟨gd b i,b,O,S,h,fL J.sub,R.dvs J,λj N e2 U=>⟨rfl,j,e2,U⟩⟩
  have hl:(L++[]).length=ps.length:=by rw[Yg,<-rv.length];exact F.len _ _ _ _ m
  have y:=hb s1 L M.kIn hl;rw[Yg]at y;refine wpAny_call (codeAny_mono (F.run X.A X.stack s1 i ⟨L,[]⟩ L l _ _ hr M.env0 y rv m) λrr s' o=>?_);cases rr with
  |ok fl=>
   cases fl with
   |ret u=>obtain⟨_,_,_,_,_,_,_,z⟩:=o;exact z.elim
   |next=>exact False.elim o
   |brk=>exact False.elim o
   |cont=>exact False.elim o
  |error ev=>
   obtain⟨k2,a,a0,B,N,rfl,t,Y,j,z1,z2⟩:=o;have ek:cl k2=cl S:=Value.ref.inj Y;rw[ek]at t;exact go a a0 B _ _ _ j N s' M C t z1 z2
def Thr.new{P:Program}{a:Addr}{B:Heap}(t:Thr P w C outer H s a a0 B H' s')(f:∀b∈frs outer,H b=none):s.heap.get? a=none:=by
 have j:B.get? a=none:=t.fly.2.1;cases e:s.heap.get? a with
 |none=>rfl
 |some o=>
  by_cases c:a∈frs outer
  ·obtain⟨h,m,l⟩:=t.slot a o e (f a c) c;obtain⟨p,i,g,_,d1,_⟩:=t.fly.first;rw[l]at g;cases g;exact absurd d1 (h i)
  ·obtain⟨q,h⟩:=t.there a o e c;rw[j]at h;cases h
def Ff{P:Program}{h:Heap}{a:Addr}{o:Obj}(e:h.get? a=some o)(b:o.cls=.ref C):ObjOk P w H h a (.ext (ExA a C)):=
 ⟨⟨o,e,b⟩,⟨o,e⟩,λ_ _ q k=>by obtain⟨o,e,b⟩:=q;exact⟨o,k o e,b⟩⟩
def Inv.lay{a:Addr}{o:HO}(I:Inv X pz σ H s)(h:H a=none)(h0:X.s₀.heap.get? a=none\/a∈X.ex)(A:a≠X.env.locals)(B:∀v,¬s.heap.IsCell a v)(y:∀p∈X.pn++pz,p.1≠a)(new:ObjOk X.prog X.w (upd H a o) s.heap a o):Inv X pz σ (upd H a o) s where
 ok:=I.ok
 os:=I.os
 bare:=I.bare
 base:=⟨I.base.keep,I.base.slot,λb u q n g=>by
   have:b≠a:=λz=>by
    subst z;rcases h0 with h0|h0
    ·rw[h0]at q;cases q
    ·exact g h0
   rw[ax this];exact I.base.free b u q n g,I.base.there,λb f q=>by
   have:=I.base.tups b f q;rw[ax (aW this h)];exact this,λb u v q=>by
   have:=I.base.frzs b u v q;rw[ax (aW this h)];exact this,λb j q=>by
   obtain⟨m,this⟩:=I.base.tbls b j q;exact⟨m,by rw[ax (aW this h)];exact this⟩⟩
 loc:=I.loc
 cell:=I.cell
 free:=by rw[ax (ZX A)];exact I.free
 freeC:=λx c e=>by
  have:c≠a:=λz=>by
   subst z;obtain⟨v,l⟩:=I.cell x c e;exact B v l
  rw[ax this];exact I.freeC x c e
 pin:=λp q=>by
  obtain⟨J,E,C⟩:=I.pin p q;exact⟨J,by rw[ax (y p q)];exact E,C⟩
 hok:=λb u e=>by
  by_cases i:b=a
  ·subst i;rw[aC]at e;cases e;exact new
  ·rw[ax i]at e;exact(I.hok b u e).stay (λ_ _ _ q=>q) (λc q=>by rw[ax (aW q h)];exact q) λc f q=>by rw[ax (aW q h)];exact q
 len:=I.len
def GJ(ie ic:Nat)(a:Addr):TS:=λD b H=>b[ie]?=some (some (.ref a))/\D.nx (b.set ic (some (.ref a))) H
def BG{a:Addr}{ic:Nat}{c:Str}{l m:Pos}(hN:X.N.Nodup)(f:X.N[ie]?=some er)(g:X.N[ic]?=some c)(e:X.env.scope.names.lookup er=some .local)(b:X.env.scope.names.lookup c=some .local)
  (i:nDb er:=by decide) (j:nDc er:=by decide) (o:swapsWith (.Name er m) (some (.Name c l)) apos.line X.env=pure false:=by rfl) :
  PSs (X.caught a ob) [.Assign [.Name c l] (.Name er m) apos] (GJ ie ic a):=
 PSs.imp (qq (mw (X:=X.caught a ob) hN g (.inl b) (yd (X:=X.caught a ob) f (.inl e) i j) o (.inr b))) λD p H h=>⟨_,h.1,h.2⟩
def vn(rz:DF->Option Nat)(cl:Nat->Addr)(ie ic:Nat):DF->Option RES:=λa=>match rz a with
 |some k=>(match a[ie]? with|some none=>some (.nx (a.set ic (some (.v (.exn (cl k))))))|_=>none)
 |none=>none
def Bu{W:Addr}{cl:Nat->Addr}{rz:DF->Option Nat}{wn:Str}{ic:Nat}{np hpos:Pos}{b0:Stmt}{f:List Stmt}
  (hR:GN X body cl rz)
  (y:X.stack=X.env::X.outer) (hfr:X.env.frame=some X.env.locals) (hgw:Gl X wn) (hmw:X.mg wn=some (.ref W)) (hxm:∀k,exmOne X.K (.ref (cl k)) (.ref W)=some true)
  (hN:X.N.Nodup) (S:X.N[ie]?=some er) (Q:X.env.scope.names.lookup er=some .local) (hne:ie≠ic) (hsu:∀a ob,PSs (X.caught a ob) (b0::f) (GJ ie ic a)) (hdw:nDb wn:=by decide) :
  PD1 X (.Try body [.ExceptHandler (some (.Name wn np)) (some er) (b0::f) hpos] [] [] tpos) (vn rz cl ie ic):=by
 intro U s T H D I h;obtain⟨P,Fr,ρ,r,Z,ID,kk⟩:=h;unfold vn at Z;split at Z
 ·rename_i O hrz;split at Z
  ·rename_i hne0;cases Z;refine wpAny_Try_except (hR U s T H P Fr ρ O _ _ I hrz ID λa a0 B F1 H1 s1 F2 q s' I1 ev1 t E hp2=>?_);have ID1:=ID.evo ev1;have fly:Heap.FlyingW B (X.env::X.outer) a (.ref (cl O)) a0 s'.heap:=y ▸ t.fly;have frf:∀b∈frs X.stack,H1 b=none:=I1.stkFree;have L:s1.heap.get? a=none:=t.new frf;have inv:∀(A:Heap),B.StaysIn A->s'.heap.UpToSlots A->Inv X U T q {s' with heap:=A}:=λA hb5 x=>
    I1.call' (s':={s' with heap:=A}) t.os (t.un frf hb5 x) (t.hok.kept hb5) t.bare (λ_ z=>nomatch z)
   have nb:q a=none:=t.hok.miss fly.2.1;refine wpAny_looks_onW (by rw[I.ok.frames,y]) hfr fly λh4 held sm4=>?_;refine wpAny_landsW held λA l x=>?_;have J5:=inv A l.1 (sm4.trans x);have mk:∀(h:Heap) (ob:Obj),Inv X U T q {s' with heap:=h}->h.get? a=some ob->(∃vs,ob.data=.fields vs)->Inv (X.caught a ob) U T q {s' with heap:=h}:=λh ob J e1 E=>by
    obtain⟨vs',E⟩:=E;refine J.caught e1 nb (λz=>?_) (λz=>?_) λv z=>by rw[E]at z;cases z
    ·obtain⟨m,⟨o,es',ep',Y,hd',_⟩,_⟩:=J.loc;have g:h.get? X.env.locals=some o:=Y;rw[<-z,e1]at g;cases g;rw[E]at hd';cases hd'
    ·obtain⟨_,o,Y,nf⟩:=J.funs.mem z;have g:h.get? a=some o:=Y;rw[e1]at g;cases g;exact nf _ E
   obtain⟨oe5,vs5,g5,c5,d5,_⟩:=l.first;have K5:=mk A oe5 J5 g5 ⟨_,d5⟩;refine wpAny_handleBy_cons (codeAny_handlers_test (fi K5 hgw hmw ?_ hdw)) (by intro z;cases z);refine(exm_one (M:=model X.prog X.w) (e:=a) K5.kIn (ExAt.type ⟨oe5,g5,c5⟩) (hxm O)).here ?_;refine codeAny_handlers_suite_as (lands_againW l λh6 C sm6=>?_);obtain⟨c,vs6,g6,c6,d6,_⟩:=C.first;have K6:=mk h6 c (inv h6 C.1 ((sm4.trans x).trans sm6)) g6 ⟨_,d6⟩;refine mJ (X:=X.caught a c) (v:=.ref a) K6 hN S (.inl Q) rfl (λs7 K7=>?_) (.inr Q);have su:=hsu a c U s7 (T.set ie (some (.ref a))) q {nx:=λσ' H'=>σ'=(T.set ie (some (.ref a))).set ic (some (.ref a))/\H'=q,rt:=λ_ _=>False} K7
    ⟨Zw (by rw[I.len];exact(YI.mp S).1),rfl,rfl⟩
   refine Zx su (λfl s8 z=>?_) λ_ _ z=>z.elim;cases fl with
   |ret u=>obtain⟨_,_,_,_,_,z⟩:=z;exact z.elim
   |brk=>obtain⟨_,_,_,z⟩:=z;exact z.elim
   |cont=>obtain⟨_,_,_,z⟩:=z;exact z.elim
   |next=>
    obtain⟨σ',H',K8,rfl,eH⟩:=z;rw[eH]at K8;refine BI (X:=X.caught a c) K8 hN S Q λs9 K9=>?_;have e9:s9.heap.get? a=some c:=K9.atEx;have p9:=K9.pin (a,c) (Yf ..);have J9:=K9.uncaught I.ok;have J10:Inv X U _ (upd q a (.ext (ExA a (cl O)))) s9:=J9.lay nb (by
     by_cases hx:a∈X.ex
     ·exact .inr hx
     ·refine .inl ?_;cases e0:X.s₀.heap.get? a with
      |none=>rfl
      |some o=>
       obtain⟨o',e1⟩:=I1.base.there a o e0 hx;rw[L]at e1;cases e1) p9.2.2.1 (λv ⟨o,Y,hd⟩=>by
      rw[e9]at Y;cases Y;exact p9.2.2.2.2 v hd) (λp hp z=>by
      have:=(I1.pin p hp).1;rw[z,L]at this;cases this) (Ff e9 c6)
    refine⟨_,_,J10,?_⟩;have E2:Evo P F1 H1 F2 q:=ID1.toDHp.gd E hp2;have ID2:=ID1.evo E2;have EL:Evo P F2 q (upd F2 a (.ext (ExA a (cl O)))) (upd q a (.ext (ExA a (cl O)))):=Evo.laid ID2.toDHp nb;have ID3:=ID2.evo EL;refine kk _ _ _ (ev1.ext.trans (E.trans EL.ext)) ?_;have ID4:=ID3.setV ic (v:=.ref a) (d:=.exn (cl O)) (.exn aC);refine ID4.other (i:=ie) (by rw[YT (ZX hne)];exact hne0) (by simp) λj hj=>?_;rw[YT (ZX hj)];by_cases R:j=ic
    ·subst R;simp only[List.getElem?_set,Zb,if_true]
    ·rw[YT (ZX R),YT (ZX hj),YT (ZX R)]
  ·cases Z
 ·cases Z
end L2
namespace L2
open PySem PySem.Spec PyProof.Rows
structure IsC (K:PySem.W.Frag) (C:Addr):Prop where
 ha:PySem.W.findIn K (.ref C) "__class__"=some (some (.builtin "object.__class__"))
 hn:PySem.W.specialIn K (.builtin "object.__class__") "__get__"=some (some (.builtin "getset_descriptor.__get__"))
 htk:PySem.W.takesIn K (.builtin "object.__class__")=some true
 hm:PySem.W.mroIn K C (.type "object")=some true
 one:PySem.W.kitOne K (.ref C) (.ref C)=some true
def FQ(C:Addr):D->Option D
 |.ins C' _=>if C'=C then some (.bl true)else none
 |_=>none
def Ba(cl:Cls X.K C)(ic:IsC X.K C):CallR X (.builtin "isinstance") (λxs H Q=>∃l dx fs,xs=[.ref l,.ref C]/\H l=some (.ins C dx fs)/\Q (.bl true) H):=by intro p s e H xs f Q I r h;obtain⟨l,dx,fs,rfl,c,q⟩:=h;obtain⟨u,w,rfl,b,a⟩:=oR r;cases(show w=Value.ref C from a);exact xY I b (.ins c cl ic.ha ic.hn ic.htk ic.hm) ic.one λg=>⟨.bl true,H,I.tok _,rfl,q⟩
def EB(cl:Cls X.K C)(ic:IsC X.K C)(o:Gl X "isinstance")(m:X.mg "isinstance"=none)(g:Gl X x)(f:X.mg x=some (.ref C))(s:PDN X a fa)(hd:nDb x:=by decide)
  (j:starEach [a,.Name x p1] X.env=[(false,eval a X.env),(false,eval (.Name x p1) X.env)]:=by rfl) (h:starEach [.Name x p1] X.env=[(false,eval (.Name x p1) X.env)]:=by rfl) (e:(backTo pos (starEach [.Name x p1] X.env)).any (·.1)=false:=by rfl) :
  PDE X (.Call (.Name "isinstance" p) [a,.Name x p1] [] pos) (d1 (FQ C) fa):=
 (df (Ba cl ic) o m cX (aI s (aI (mh (v:=.ref C) g f rfl hd) a_ h) (by rw[j,h])) (by decide) (by decide) (by rw[j,h]) e).imp λE H Q=>un7 λP F i d c I k=>by
  unfold d1 at c;cases q:fa i with
  |none=>rw[q]at c;cases c
  |some z=>
   rw[q,Ya]at c;cases z with
   |ins C' fs=>
    have b:(if C'=C then some (D.bl true)else none)=some d:=c;split at b
    ·rename_i u;subst u;cases b;refine⟨P,F,i,_,q,I,λy B A w l=>?_⟩;cases l with
     |ins h1 h2=>exact⟨_,_,_,rfl,h1,k _ B A w .bl⟩
    ·cases b
   |_=>cases c
end L2
namespace L2
open PySem PySem.Spec PySem.Calls PySem.W PyProof.Rows
def isE(f:Addr->Option Bool):D->Option D
 |.exn C=>(f C).map .bl
 |_=>none
def fX(a b:Addr)(u v:Bool):Addr->Option Bool:=λC=>if C=a then some u else if C=b then some v else none
def sY{a b:Addr}{u v:Bool}{p:Addr->Bool->Prop}(h0:p a u)(h1:p b v):∀C w,fX a b u v C=some w->p C w:=λC w h=>by
 unfold fX at h;split at h
 ·rename_i e;cases h;rw[e];exact h0
 ·split at h
  ·rename_i e;cases h;rw[e];exact h1
  ·cases h
section
variable     {f:Addr->Option Bool}
def tQ{c:V}{g:Value}(o:∀C b,f C=some b->ExC X.K C/\kitOne X.K (.ref C) g=some b)(a:∀u,RelV c u->u=g):CallR X (.builtin "isinstance") (λxs H Q=>∃l C b,xs=[.ref l,c]/\H l=some (.ext (ExA l C))/\f C=some b/\Q (.bl b) H):=by intro E s w H xs A Q I r h;obtain⟨l,C,b,rfl,m,p,q⟩:=h;obtain⟨u,y,rfl,j,i⟩:=oR r;cases(show u=Value.ref l from j);cases a _ i;obtain⟨x,e⟩:=o C b p;exact kia_one (t7 x) I.kIn (show ObjOk _ _ H s.heap l (.ext (ExA l C))from I.hok l _ m).1 e (λz=>nomatch z) λB=>⟨.bl b,H,I.tok _,rfl,q⟩
def xl{cvs:List Value}(J:∀C b,f C=some b->ExC X.K C/\kitAny X.K (.ref C) cvs=some b)(c:∀us,Vals cs us->us=cvs):CallR X (.builtin "isinstance") (λxs H Q=>∃l a C b,xs=[.ref l,.ref a]/\H l=some (.ext (ExA l C))/\H a=some (.tup cs)/\f C=some b/\Q (.bl b) H):=by
 intro S s P H xs us Q I r h;obtain⟨l,a,C,b,rfl,E,B,L,q⟩:=h;obtain⟨u,w,rfl,j,i⟩:=oR r;cases(show u=Value.ref l from j);cases(show w=Value.ref a from i);obtain⟨_,A,g,⟨m,O,N,n,M⟩,_⟩:=(show ObjOk _ _ H s.heap a (.tup cs)from I.hok a _ B)
 cases c _ g;rcases m with⟨y,T,o,p⟩
 cases(show y=_ from N);cases(show o=_ from M);obtain⟨x,e⟩:=J C b L;exact kia_tup (t7 x) I.kIn (show ObjOk _ _ H s.heap l (.ext (ExA l C))from I.hok l _ E).1 O e (λz=>nomatch z) λR=>⟨.bl b,H,I.tok _,rfl,q⟩
def uN{dx d:D}(h:isE f dx=some d):∃C b,dx=.exn C/\f C=some b/\d=.bl b:=by
 cases dx with
 |exn C=>obtain⟨b,q,rfl⟩:=aF h;exact⟨C,b,rfl,q,rfl⟩
 |_=>cases h
def uf{g:Addr}(e:∀C b,f C=some b->ExC X.K C/\kitOne X.K (.ref C) (.ref g)=some b)(w:Gl X "isinstance")(u:X.mg "isinstance"=none)(l:Gl X x)(j:X.mg x=some (.ref g))(A:PDN X a fa)(hd:nDb x:=by decide)
  (m:starEach [a,.Name x p1] X.env=[(false,eval a X.env),(false,eval (.Name x p1) X.env)]:=by rfl) (h:starEach [.Name x p1] X.env=[(false,eval (.Name x p1) X.env)]:=by rfl) (i:(backTo pos (starEach [.Name x p1] X.env)).any (·.1)=false:=by rfl) :
  PDE X (.Call (.Name "isinstance" p) [a,.Name x p1] [] pos) (d1 (isE f) fa):=
 (df (tQ (c:=.ref g) e λ_ r=>r) w u cX (aI A (aI (mh (v:=.ref g) l j rfl hd) a_ h) (by rw[m,h])) (by decide) (by decide) (by rw[m,h]) i).imp λL H Q=>un7 λP F o d e I k=>by
  obtain⟨M,q,e⟩:=Yd.mp e;obtain⟨C,b,rfl,z,rfl⟩:=uN e;refine⟨P,F,o,_,q,I,λy J E B s=>?_⟩;cases s with
  |exn h1=>exact⟨_,C,b,rfl,h1,z,k _ J E B .bl⟩
def Bg(e:∀C b,f C=some b->ExC X.K C/\kitOne X.K (.ref C) (.type "ValueError")=some b)(w:Gl X "isinstance")(u:X.mg "isinstance"=none)(l:Gl X "ValueError")(j:X.mg "ValueError"=none)(z:PDN X a fa)
  (m:starEach [a,.Name "ValueError" p1] X.env=[(false,eval a X.env),(false,eval (.Name "ValueError" p1) X.env)]:=by rfl) (h:starEach [.Name "ValueError" p1] X.env=[(false,eval (.Name "ValueError" p1) X.env)]:=by rfl) (i:(backTo pos (starEach [.Name "ValueError" p1] X.env)).any (·.1)=false:=by rfl) (g:bootBuiltins "ValueError"=some (.type "ValueError"):=by decide+kernel) :
  PDE X (.Call (.Name "isinstance" p) [a,.Name "ValueError" p1] [] pos) (d1 (isE f) fa):=
 (df (tQ (c:=.ty "ValueError") e λ_ r=>r) w u cX (aI z (aI (vT (v:=.ty "ValueError") l j g rfl (by decide) (by decide)) a_ h) (by rw[m,h])) (by decide) (by decide) (by rw[m,h]) i).imp λJ H Q=>un7 λP F o d e I k=>by
  obtain⟨L,q,e⟩:=Yd.mp e;obtain⟨C,b,rfl,x,rfl⟩:=uN e;refine⟨P,F,o,_,q,I,λy E B A s=>?_⟩;cases s with
  |exn h1=>exact⟨_,C,b,rfl,h1,x,k _ E B A .bl⟩
def CW{cvs:List Value}{c:List Expr}{x1}(g:∀C b,f C=some b->ExC X.K C/\kitAny X.K (.ref C) cvs=some b)(m:∀us,Vals cs us->us=cvs)(o:cs.length<=sizeLine)(i:PA X c (λσ H Q=>Q cs H))(E:Gl X "isinstance")(B:X.mg "isinstance"=none)(L:PDN X a fa)
  (s:starEach [a,.Tuple c x1 p1] X.env=[(false,eval a X.env),(false,eval (.Tuple c x1 p1) X.env)]:=by rfl) (h:starEach [.Tuple c x1 p1] X.env=[(false,eval (.Tuple c x1 p1) X.env)]:=by rfl) (j:(backTo pos (starEach [.Tuple c x1 p1] X.env)).any (·.1)=false:=by rfl) :
  PDE X (.Call (.Name "isinstance" p) [a,.Tuple c x1 p1] [] pos) (d1 (isE f) fa):=
 (df (xl (cs:=cs) g m) E B cX (aI L (aI (vd (x1:=x1) (pos:=p1) i) a_ h) (by rw[s,h])) (by decide) (by decide) (by rw[s,h]) j).imp λσ H Q=>un7 λP F x d g I k=>by
  obtain⟨O,q,g⟩:=Yd.mp g;obtain⟨C,b,rfl,J,rfl⟩:=uN g;refine⟨P,F,x,_,q,I,λy N M w A=>⟨o,λz e=>?_⟩⟩;cases A with
  |@exn l _ h1=>
   have u:M l=some (.ext (ExA l C)):=h1;exact⟨l,z,C,b,rfl,by rw[ax (aW u e)];exact u,aC,J,k _ N _ (w.trans (Evo.side w.hp e)) .bl⟩
def Gf{fx f:DX}(s:X.A.units+64<cLine)(C:PX X a fx)(B:PX X b f):PX X (.Compare a [.Eq] [b] pos) (x2 eqD fx f):=
 (rl (rL s) C B (gj _)).imp λR H Q=>un7 λP F i r z I k=>by
  obtain⟨u,p,q⟩:=Yd.mp z;obtain⟨v,o,q⟩:=Yd.mp q;obtain⟨d,m,rfl⟩:=aF q;refine⟨P,F,i,u,p,I,λx O S E J l=>⟨P,O,u.2,v,o,J,λy N L h c j=>?_⟩⟩;exact qL P N L x y _ _ _ _ m c.toDHp ((l.same h).same c.sub) (j.same c.sub) λw M K g e=>k w M K ((E.trans h).trans g.ext) (c.evo g) e
end
end L2
namespace L2
open PySem PySem.Spec PyProof.Rows
def iB(f:Dd):DF->Option Bool:=λa=>match f a with
 |some (.lst ds)=>some (!ds.isEmpty)
 |_=>none
def gO(a:PDR X e fa)(he:∀w,isTrue e X.env w=(do let v <-w;standAt e.pos;holding [v] (truthy v)):=by intro _;rfl):PDT X e (iB fa):=
 (zO a he).imp λs H Q=>un7 λP F b d h I k=>by
  unfold iB at h;cases a:fa b with
  |none=>rw[a]at h;cases h
  |some m=>
  rw[a]at h;cases m with
  |lst ds=>
   cases h;refine⟨P,F,b,_,a,I,λx q p f g=>?_⟩;have o:=I.evo f;obtain⟨l,c,rfl,j,i⟩:=gL o g;refine⟨!ds.isEmpty,.inl ⟨c,j,?_⟩,k q p f⟩;have:=i.length;cases c<;>cases ds<;>first|rfl|cases this
  |_=>cases h
end L2
namespace L2
open PySem PySem.Spec PySem.W PyProof.Rows
section
variable      {G:Array GenState->Array GenState->Prop}{P:Nat->Value->Prop}{St:Nat->Shared->Prop}{R:Kr}
end
section
variable       {own:Nat}  {f:Dl}{st:Dq}  {e:Dl}
end
section
variable  {c:Expr}{st1:Stmt}{aR:List Stmt}{fc fc2:Dk}{w:Bool}{ipos zpos:Pos}    {st:Dq}
end
end L2
namespace L2
open PySem PySem.Spec PySem.Calls PySem.W PyProof.Rows
section
variable  {a:Addr}     
end
section
variable  {a:Addr} 
end
end L2
namespace L2
open PySem PySem.SetTable
def IK(m:Nat)(p:Probe):Probe:=
 if p.more > 0 then{p with j:=p.j+1,more:=p.more-1}else
 let (i,perturb):=leap m p.i p.perturb
 {p with j:=i,more:=runEnd m i-i,i,perturb}
def startM(m:Nat)(h:Int):Probe:=
 let i:=bits h%(m+1)
 {j:=i,more:=runEnd m i-i,i,perturb:=bits h,dummy:=none}
def DG(m:Nat)(p:Probe):Nat->Probe
 |0=>p
 |n+1=>IK m (DG m p n)
def at_(m:Nat)(h:Int)(n:Nat):Nat:=(DG m (startM m h) n).j
def own(o:Array (Option Nat))(j:Nat):Option Nat:=o.getD j (some 0)
def ow(o:Array (Option Nat))(j:Nat):Option Nat:=o.getD j none
end L2
namespace L2
open PySem PySem.Spec PyProof.Rows PySem.SetTable
section
variable{S:Addr}{es:Ka}  {t:SetTable}
end
section
variable{S:Addr}{es:Ka}  {t:SetTable}
end
end L2
namespace L2
open PySem PySem.Spec PyProof.Rows
def BK(i:Nat):DF->Option RES:=λa=>match a[i]? with
 |some (some (.own (.lst ds) t))=>some (.nx (a.set i (some (.own (.lst ds.reverse) t))))
 |_=>none
def Ep(i:Nat)(h:PE X o (cf i))(c:attributeBase o "reverse" X.env (eval o X.env)=eval o X.env:=by rfl)(b:(apos.endLine == cpos.line)=true:=by rfl)(f:swapsWith (.Call (.Attribute o "reverse" apos) [] [] cpos) none pos.line X.env=pure false:=by rfl) :
  PD1 X (.Expr (.Call (.Attribute o "reverse" apos) [] [] cpos) pos) (BK i):=
 PS.imp (c9 (p8 YW PySem.F.slot_list_reverse PySem.F.type_list_reverse uD h c b) f) λE m H=>un7 λP F s r e I k=>by
  unfold BK at e;split at e
  ·rename_i y t q;cases e;obtain⟨a,g,l,x,w,j,p⟩:=jr I q;exact⟨_,l,.inl ⟨rfl,g,SqL.of j⟩,a,g,rfl,rfl,j,k m F _ (Same.refl _) (I.mut (o':=.lst _) (u:=.lst _) q rfl rfl l p.rev)⟩
  ·cases e
section
variable      {r:Addr}{a b c:Int}{t u v:Tok}{n:Nat}
end
def r9(x:Str)(n:Int):Str:=if n<1 then Str.empty else if(n == 1||x.length == 0)=true then x else⟨(List.replicate n.toNat x.cps).foldl (·++·) #[]⟩
def ge:D->D->Option D
 |.str x,.int n=>if -(2^62)<=n/\n<1000/\x.length<=1000 then some (.str (r9 x n))else none
 |_,_=>none
def DH:R2:=λx y H Q=>∃z n,x=.str z/\y=.int n/\(-(2^62)<=n/\n<1000/\z.length<=1000)/\Q (.str (r9 z n)) H
theorem rY(c:Array Nat):∀(k:Nat) (a:Array Nat),((List.replicate k c).foldl (·++·) a).size=a.size+k*c.size
 |0,a=>by simp
 |k+1,a=>by
  rw[YK,XV,rY c k,Array.size_append,Nat.succ_mul];omega
theorem Cc:OpR X (binaryOp .Mult) DH:=by
 intro p s g H x y v u Q I f e h;obtain⟨z,n,rfl,rfl,⟨b1,b2,b3⟩,q⟩:=h;obtain⟨t,rfl⟩:=f;obtain⟨i,rfl⟩:=e;refine PySem.P.mul_str (by rw[Yn (show ¬n < -(2^63:Int)by omega),Yn (show ¬n ≥ 2^63 by omega)];rfl) (λa _=>?_) (λa _=>?_) ?_
 ·have c:1000<=(2^63-1:Int)/n:=Int.le_ediv_of_mul_le (by omega) (by omega);have j:(z.length:Int)<=1000:=Int.ofNat_le.mpr b3;omega
 ·have c:z.length*n.toNat<=1000*1000:=Nat.mul_le_mul b3 (by omega);show decide (z.length*n.toNat > sizeLine)=false;rw[Zf,YL];omega
 ·unfold r9 at q;split
  ·rename_i a;rw[Yi a]at q;exact⟨by decide,⟨.str Str.empty,H,I.tok _,⟨_,rfl⟩,q⟩⟩
  ·rename_i a;rw[Yr a]at q;split
   ·rename_i b;rw[Yi b]at q;exact⟨.str z,H,I,⟨_,rfl⟩,q⟩
   ·rename_i b;rw[Yr b]at q;refine⟨?_,⟨.str _,H,I.tok _,⟨_,rfl⟩,q⟩⟩;show((List.replicate n.toNat z.cps).foldl (·++·) #[]).size<=sizeLine;rw[rY,YL];have c:n.toNat*z.cps.size<=1000*1000:=Nat.mul_le_mul (by omega) b3;show 0+n.toNat*z.cps.size<=_;omega
def B5:mT K DH ge:=by
 intro P F H f e x y i g d Q h I b a k;unfold ge at h;split at h
 ·rename_i z n;split at h
  ·rename_i c;cases h;exact⟨z,n,jH b,eB a,c,k _ F H (Evo.refl I.toDHp) .str⟩
  ·cases h
 ·cases h
def j8(c:PDR X a fa)(h:PDR X b fb):PDE X (.BinOp a .Mult b pos) (d2 ge fa fb):=jm Cc B5 c h
theorem o9:∀(as:List Addr) (us:List Value),Vals (as.map V.ref) us->us=as.map Value.ref
 |[],_,.nil=>rfl
 |_::as,_,.cons r h=>by
  cases(show _=Value.ref _ from r);exact YM _ (o9 as _ h)
def GK:PA X [] (λ_ H Q=>Q [] H):=a_
def ke{a:Addr}(e:Gl X x)(c:X.mg x=some (.ref a))(h:PA X es (λ_ H Q=>Q cs H))(hd:nDb x:=by decide)
  (b:starEach (.Name x p::es) X.env=(false,eval (.Name x p) X.env)::starEach es X.env:=by rfl):PA X (.Name x p::es) (λ_ H Q=>Q (.ref a::cs) H):=aI (mh (v:=.ref a) e c rfl hd) h b
theorem Reps.rep(h:Reps K H vs ds):∀n:Nat,Reps K H (List.replicate n vs).flatten (List.replicate n ds).flatten
 |0=>.nil
 |n+1=>by
  rw[YK,YK,Za,Za];exact h.append (h.rep n)
def tw(f:Dl)(fb:Dd):DF->Option (List D):=λa=>match f a,fb a with
 |some ds,some (.int k)=>if 0<=k/\k<=1000/\ds.length<=1000 then some (List.replicate k.toNat ds).flatten else none
 |_,_=>none
def vo{s:Dl}(U:PDO X a (asL s))(T:PDR X b fb):PDO X (.BinOp a .Mult b pos) (asL (tw s fb)):=(zk EZ U T).imp λσ H Q=>un7 λP F j ob h I k=>by
 unfold asL at h;cases q:tw s fb j with
 |none=>rw[q]at h;cases h
 |some N=>
 rw[q]at h;cases h;unfold tw at q;split at q
 ·rename_i A f M L;split at q
  ·rename_i g;cases q;refine⟨P,F,j,.lst A,by unfold asL;rw[M];rfl,I,λl E H1 w S=>⟨P,E,j,_,L,I.evo w,λy B Z i J=>?_⟩⟩;obtain⟨⟨n1,n2⟩,u,R,x⟩:=S;have I2:=(I.evo w).evo i;cases(show RepS X.K Z B y (.int f)from J)with
   |inl r=>
    cases r;cases u with
    |lst vs=>
     have z:Reps X.K E vs A:=x;obtain⟨O,k2⟩:=i.keep l _ R n2;have Y:f.toNat<=1000:=Int.toNat_le.mpr g.2.1;refine⟨l,f,vs,rfl,rfl,O,Int.le_trans (by decide) g.1,Int.lt_of_le_of_lt g.2.1 (by decide),?_,λp m=>?_⟩
     ·rw[z.length,YL];exact YQ (Nat.mul_le_mul g.2.2 Y) (by decide)
     ·have c:=w.trans i;exact k p B _ (c.trans (Evo.side c.hp m)) ⟨⟨c.back I.toDHp m,(c.hp.free m).1⟩,_,aC,(z.same i.ext).rep f.toNat⟩
    |_=>exact x.elim
   |inr r=>
    obtain⟨_,o,_,rfl,_,_,_,_,e⟩:=r;cases o with
    |obj C fs=>cases C<;>cases e
    |_=>cases e
  ·cases q
 ·cases q
end L2
namespace My
open PySem PySem.Spec PyProof.Rows L2
noncomputable section
def Hb(i:Nat):Stmt:=PySem.Challenge.pw_tieword_k23_too_great_texts.main.body.getD i (.Pass ⟨0,0,0,0⟩)
def top(i:Nat):Stmt:=if i<1000 then Hb i else C_ (Hb (i/1000)) (i%1000)
def rT:List Rw:=[⟨18,170,0,398,401,0⟩,⟨19,177,0,404,408,1⟩,⟨20,184,0,411,417,1⟩,⟨21,191,0,420,427,1⟩,⟨22,198,0,430,434,1⟩,⟨23,205,0,437,443,1⟩,⟨24,212,0,446,455,1⟩,⟨25000,224,0,470,473,0⟩,⟨30,260,1,527,531,1⟩,⟨31,267,1,534,541,1⟩,⟨32000,281,1,556,561,1⟩,⟨32001,288,1,564,568,1⟩,⟨32002,295,1,571,576,1⟩,⟨32003,302,1,579,586,1⟩,⟨32004,309,1,589,594,1⟩,⟨32005,316,1,597,603,1⟩,⟨32006,321,1,606,609,0⟩,⟨32007,328,1,612,618,1⟩,⟨32008,335,1,621,628,1⟩,⟨32009,342,1,631,637,1⟩,⟨32010,349,1,640,646,1⟩,⟨32011,356,1,649,656,1⟩,⟨32012,363,1,659,665,1⟩,⟨32013,370,1,668,673,1⟩,⟨33,384,1,691,696,1⟩,⟨35,391,2,701,707,1⟩,⟨36,398,2,710,716,1⟩,⟨37,405,2,719,725,1⟩,⟨38,410,2,728,731,0⟩,⟨39,417,2,734,749,1⟩,⟨40,424,2,752,766,1⟩,⟨41,431,2,769,779,1⟩,⟨42,438,2,782,790,1⟩,⟨43,445,2,793,802,1⟩,⟨44,452,2,805,809,1⟩,⟨45,459,2,812,817,1⟩,⟨46,464,2,820,823,0⟩,⟨47,471,2,826,837,1⟩,⟨48,478,2,840,852,1⟩,⟨49,485,2,855,861,1⟩,⟨50,492,2,864,875,1⟩]
def row(i:Nat):Option Rw:=rT.find? (·.i == i)
def qn(i:Nat):Str:=(([(25000,"Web.__init__"),(32000,"Reader.__init__"),(32001,"Reader.sign"),(32002,"Reader.skip"),(32003,"Reader.taken"),(32004,"Reader.number"),(32005,"Reader.marks"),(32006,"Reader.join_by"),(32007,"Reader.begin_ring"),(32008,"Reader.close_ring"),(32009,"Reader.ring_sign"),(32010,"Reader.place"),(32011,"Reader.follow"),(32012,"Reader.go_on"),(32013,"Reader.read_all")]:List (Nat×Str)).lookup i).getD (fz (top i))
def mdl(m:Nat):Value:=match m with
 |0=>.str "tieword.webs" 390
 |1=>.str "tieword.reading" 511
 |_=>.str "law_tieword_k23_too_great_texts" 699
def fA(i:Nat):Addr:=((row i).map (·.a+1)).getD 0
def dA(i:Nat):FuncData:=((row i).map λr=>fnD (qn i) (top i) (mdl r.m) r.a).getD (fnD "" (top 0) .none 0)
def aa:Addr:=374
set_option genInjectivity false
set_option genSizeOf false
set_option genSizeOfSpec false
def bc:GL:=[("~",517,0,518),(">",519,1,520),("<",521,2,522)]
def aX:Addr:=104
def aM:Addr:=44
structure Adr where
 w:World
 C:Addr
 tk_MOST_PLACES:Tok
 tk_MOST_TIES:Tok
 tk_MOST_LETTERS:Tok
 tk_MOST_FIGURES:Tok
 tk_MOST_RING:Tok
 x_WebError:Addr
 x_BadName:Addr
 x_BadOrder:Addr
 x_BadPlace:Addr
 x_BadRule:Addr
 x_BadTie:Addr
 x_NoWay:Addr
 x_NoWeb:Addr
 x_TooMany:Addr
 x_Twice:Addr
def cl2(a b:Addr):Nat->Addr
 |0=>a
 |_=>b
abbrev Adr.cl(t:Adr):Nat->Addr:=cl2 aX aM
structure Txt (K:PySem.W.Frag) (mg:Str->Option Value) (t:Adr):Prop where
 dd:∀i,(row i).isSome=true->Df K (qn i) (top i) (fA i) (dA i)/\(i<1000->mg (fz (top i))=some (.ref (fA i)))
 cl:Cls K t.C
 mkC:Mk K t.C (fA 25000)
 mgC:mg "Web"=some (.ref t.C)
 na_joins:NoAttr K t.C "joins"
 na_kinds:NoAttr K t.C "kinds"
 na_ties:NoAttr K t.C "ties"
 naR_at:NoAttr K aa "at"
 naR_begun:NoAttr K aa "begun"
 naR_closed:NoAttr K aa "closed"
 naR_hung:NoAttr K aa "hung"
 naR_kinds:NoAttr K aa "kinds"
 naR_text:NoAttr K aa "text"
 naR_ties:NoAttr K aa "ties"
 cl_Reader:Cls K aa
 mk_Reader:Mk K aa (fA 32000)
 mg_Reader:mg "Reader"=some (.ref aa)
 ic_Reader:IsC K aa
 mt_Reader_sign:Meth K aa "sign" (fA 32001)
 mt_Reader_taken:Meth K aa "taken" (fA 32003)
 mt_Reader_skip:Meth K aa "skip" (fA 32002)
 mt_Reader_number:Meth K aa "number" (fA 32004)
 mt_Reader_join_by:Meth K aa "join_by" (fA 32006)
 mt_Reader_close_ring:Meth K aa "close_ring" (fA 32008)
 mt_Reader_marks:Meth K aa "marks" (fA 32005)
 mt_Reader_begin_ring:Meth K aa "begin_ring" (fA 32007)
 mt_Reader_ring_sign:Meth K aa "ring_sign" (fA 32009)
 mt_Reader_place:Meth K aa "place" (fA 32010)
 mt_Reader_follow:Meth K aa "follow" (fA 32011)
 mt_q0:Meth K aa "go_on" (fA 32012)
 mt_q1:Meth K aa "read_all" (fA 32013)
 b_ValueError:mg "ValueError"=none
 b_all:mg "all"=none
 b_bool:mg "bool"=none
 b_int:mg "int"=none
 b_isinstance:mg "isinstance"=none
 b_len:mg "len"=none
 b_list:mg "list"=none
 b_max:mg "max"=none
 b_min:mg "min"=none
 b_range:mg "range"=none
 b_sorted:mg "sorted"=none
 b_str:mg "str"=none
 b_tuple:mg "tuple"=none
 c_MOST_PLACES:mg "MOST_PLACES"=some (.int 7 t.tk_MOST_PLACES)
 c_MOST_TIES:mg "MOST_TIES"=some (.int 12 t.tk_MOST_TIES)
 c_MOST_LETTERS:mg "MOST_LETTERS"=some (.int 3 t.tk_MOST_LETTERS)
 c_MOST_FIGURES:mg "MOST_FIGURES"=some (.int 30 t.tk_MOST_FIGURES)
 c_MOST_RING:mg "MOST_RING"=some (.int 99 t.tk_MOST_RING)
 icC:IsC K t.C
 mx_WebError:mg "WebError"=some (.ref t.x_WebError)
 mx_BadText:mg "BadText"=some (.ref aX)
 mx_TooGreat:mg "TooGreat"=some (.ref aM)
 mx_BadName:mg "BadName"=some (.ref t.x_BadName)
 mx_BadOrder:mg "BadOrder"=some (.ref t.x_BadOrder)
 mx_BadPlace:mg "BadPlace"=some (.ref t.x_BadPlace)
 mx_BadRule:mg "BadRule"=some (.ref t.x_BadRule)
 mx_BadTie:mg "BadTie"=some (.ref t.x_BadTie)
 mx_NoWay:mg "NoWay"=some (.ref t.x_NoWay)
 mx_NoWeb:mg "NoWeb"=some (.ref t.x_NoWeb)
 mx_TooMany:mg "TooMany"=some (.ref t.x_TooMany)
 mx_Twice:mg "Twice"=some (.ref t.x_Twice)
 exC:∀k,ExC K (t.cl k)
 k0:∀k,PySem.W.kitOne K (.ref (t.cl k)) (.ref aX)=some (decide (k=0))
 k1:∀k,PySem.W.kitOne K (.ref (t.cl k)) (.ref aM)=some (decide (1<=k))
 k5:∀k,PySem.W.kitOne K (.ref (t.cl k)) (.ref t.x_WebError)=some true
 k3:∀k,PySem.W.kitOne K (.ref (t.cl k)) (.type "ValueError")=some true
 k4:∀k,PySem.W.kitAny K (.ref (t.cl k)) [.ref t.x_BadName,.ref t.x_BadOrder,.ref t.x_BadPlace,.ref t.x_BadRule,.ref t.x_BadTie,.ref t.x_NoWay,.ref t.x_NoWeb,.ref t.x_TooMany,.ref t.x_Twice]=some false
 xm:∀k,PySem.W.exmOne K (.ref (t.cl k)) (.ref t.x_WebError)=some true
 xi:∀k,PySem.W.excIn K (t.cl k) uP "ValueError.__new__"=true
 g_LEADS:mg "LEADS"=some (.ref (nat_lit 254))
 kd_LEADS:KD K t.w.params (nat_lit 254) bc 3
def Txt.F{t:Adr}(T:Txt K mg t)(i:Nat)(h:(row i).isSome=true:=by kernel_rfl):Df K (qn i) (top i) (fA i) (dA i):=(T.dd i h).1
def Txt.G{t:Adr}(T:Txt K mg t)(i:Nat)(h:(row i).isSome=true:=by kernel_rfl)(h2:decide (i<1000)=true:=by kernel_rfl):Df K (qn i) (top i) (fA i) (dA i)/\mg (fz (top i))=some (.ref (fA i)):=⟨(T.dd i h).1,(T.dd i h).2 (YV h2)⟩
variable{P:Program}    {t:Adr}
abbrev K0:PySem.W.Frag:=[]
abbrev Ok(P:Program)(w:World)(K:Kq)(mg:Ks)(base:Heap)(t:Adr)(i k:Nat)(m:Addr->List DV->Option DV):Prop:=FnOk P w K mg base CX0 k (fA i) (dA i) (bQ (top i)) (spD K (m t.C))
def iC(C:Addr):DF->Option RES:=
  (ag (aT 1 (cI 7))
  (ag (jD (iL 0) (setV 2) (aT 1 (d2 aA (d2 ap (d2 ap (d2 e_ (aj 1) (cI 69621)) (d2 aA (aj 2) (cI 2147483647))) (cI 11)) (cI 2147483647))))
  (ll (asL (al (cI 0) (al (getV 1) bp))))))
def db(C:Addr):List DV->Option DV:=mOf 3 1 (iC C)
def jL(T:Txt K mg t):Ok P t.w K mg base t 35 1 db:=
 (T.F 35).okI ["_law_script","_law_number","_law_cell"] λh=>(ac (cJ 1 af) (ac (pfI (uB 0) (lI 2) (ai (cJ 1 (a7 (PDE.r (aD (PDE.r (aD (PDE.r (h8 (aE 1) (PDE.r af))) (PDE.r (a7 (aE 2) (PDE.r af))))) (PDE.r af))) (PDE.r af))))) (ai (rf (bZ (ak af (ak (ar 1) aL)))))))
def gM(C:Addr):DF->Option RES:=
  (ag (nQ 1 (cI 0) (d2 ap (d2 ixD (aj 1) (cI 0)) (cI 1)))
  (ag (aT 2 (cI 0))
  (ag (dIf (asB (d2 gtI (d1 aQ (am 0)) (cI 0))) (aT 2 (d2 ixD (aj 0) (d2 aA (d2 ixD (aj 1) (cI 0)) (d1 aQ (am 0))))) dNx)
  (ag (nQ 1 (cI 1) (d2 aA (d2 e_ (d2 ap (d2 ap (d2 ixD (aj 1) (cI 1)) (d2 aA (aj 2) (cI 2147483647))) (d2 e_ (d2 ixD (aj 1) (cI 0)) (d2 ixD (aj 1) (cI 0)))) (cI 48271)) (cI 2147483629)))
  (bO (d2 bu (d2 ixD (aj 1) (cI 1)) (cI 3)))))))
def au(C:Addr):MW:=kh 3 2 (gM C)
def bR(T:Txt K mg t):FnOk P t.w K mg base CX0 1 (fA 36) (dA 36) (bQ (top 36)) (spW K (au t.C)):=
 (T.F 36).okW ["_law_script","_law_at","_law_cell"] λh=>(ac (sN 1 (pv 1) af (aD (PDE.r (bH (aE 1) (PDE.r af))) (PDE.r af))) (ac (cJ 2 af) (ac (bt (lm (PDE.r (bq rfl T.b_len (br 0))) (PDE.r af)) (ai (cJ 2 (bH (aE 0) (PDE.r (a7 (PDE.r (bH (aE 1) (PDE.r af))) (PDE.r (bq rfl T.b_len (br 0)))))))) aJ) (ac (sN 1 (pv 1) af (a7 (PDE.r (h8 (PDE.r (aD (PDE.r (aD (PDE.r (bH (aE 1) (PDE.r af))) (PDE.r (a7 (aE 2) (PDE.r af))))) (PDE.r (h8 (PDE.r (bH (aE 1) (PDE.r af))) (PDE.r (bH (aE 1) (PDE.r af))))))) (PDE.r af))) (PDE.r af))) (ai (a9 (cH (PDE.r (bH (aE 1) (PDE.r af))) (PDE.r af))))))))
def jo(C:Addr):DF->Option RES:=
  (ag (aT 2 (λ_=>some (.str "abcdefghijklmnopqrstuvwxyz")))
  (ag (aY 3 (ay (au C) (aN (ah (getV 0)) (az 1 bJ))))
  (ag (aT 4 (d2 ap (cI 1) (d2 aA (aj 3) (cI 3))))
  (ag (aT 5 (d2 mX (λ_=>some (.str "")) (asO (asL (fJ 1 [2,3] (nt (aj 4)) (setV 0) iI (d2 ixD (aj 1) (d2 aA (d2 ap (d2 bu (aj 2) (cI 3)) (d2 e_ (aj 0) (d2 bu (aj 2) (cI 7)))) (cI 26))))))))
  (ag (aT 6 (d2 aA (d2 bu (aj 3) (cI 11)) (aj 4)))
  (ag (aT 7 (d2 ap (d2 ap (d2 wp (am 2) (d2 ixD (aj 5) (aj 6))) (cI 1)) (d2 aA (d2 bu (aj 3) (cI 13)) (cI 25))))
  (ag (aT 8 (d2 ap (d2 ap (slS (aj 5) bNo (bI (getV 6))) (d2 ixD (aj 2) (d2 aA (aj 7) (cI 26)))) (slS (aj 5) (bI (d2 ap (aj 6) (cI 1))) bNo)))
  (ag (aT 9 (slS (aj 5) bNo (bI (cI 2))))
  (ag (dIf (asB (d2 ltd (am 4) (cI 3))) (aT 9 (d2 ap (aj 5) (d2 ixD (aj 2) (d2 aA (d2 bu (aj 3) (cI 17)) (cI 26))))) dNx)
  (bO (asO (asL (al (getV 5) (al (getV 8) (al (getV 9) bp)))))))))))))))
def iP(C:Addr):MW:=kh 10 2 (jo C)
def tK(T:Txt K mg t):FnOk P t.w K mg base CX0 2 (fA 38) (dA 38) (bQ (top 38)) (spW K (iP t.C)):=
 (T.F 38).okW ["_law_script","_law_at","_law_letters","_law_n","_law_size","_law_base","_law_spot","_law_step_here","_law_other","_law_last"] λh=>(ac (cJ 2 aG) (ac (e7 3 (pxc (bR T) (T.G 36) h (aZ (aq (ar 0)) (aK 1 (pv 1) bK)))) (ac (cJ 4 (aD (PDE.r af) (PDE.r (a7 (aE 3) (PDE.r af))))) (ac (cJ 5 (vG (PDE.n aG) (PDE.n (PDO.v (wR ["_law_k","_law_letters","_law_n"] 1 [2,3] [0] (fu rfl T.b_range (aE 4)) (lI 0) pk (bH (aE 1) (PDE.r (a7 (PDE.r (aD (PDE.r (cH (aE 2) (PDE.r af))) (PDE.r (h8 (aE 0) (PDE.r (cH (aE 2) (PDE.r af))))))) (PDE.r af))))))))) (ac (cJ 6 (a7 (PDE.r (cH (aE 3) (PDE.r af))) (aE 4))) (ac (cJ 7 (aD (PDE.r (aD (PDE.r (De (br 2) (PDE.n (bH (aE 5) (aE 6))))) (PDE.r af))) (PDE.r (a7 (PDE.r (cH (aE 3) (PDE.r af))) (PDE.r af))))) (ac (cJ 8 (aD (PDE.r (aD (PDE.r (dZ (aE 5) kR (jf (ar 6)))) (PDE.r (bH (aE 2) (PDE.r (a7 (aE 7) (PDE.r af))))))) (PDE.r (dZ (aE 5) (jf (aD (aE 6) (PDE.r af))) kR)))) (ac (cJ 9 (dZ (aE 5) kR (jf af))) (ac (bt (e6 h.h64 (br 4) (PDE.n af)) (ai (cJ 9 (aD (aE 5) (PDE.r (bH (aE 2) (PDE.r (a7 (PDE.r (cH (aE 3) (PDE.r af))) (PDE.r af)))))))) aJ) (ai (a9 (PDO.v (bZ (ak (ar 5) (ak (ar 8) (ak (ar 9) aL))))))))))))))))
def gc(C:Addr):DF->Option RES:=
  (ag (aY 2 (ay (au C) (aN (ah (getV 0)) (az 1 bJ))))
  (ag (dIf (asB (d2 eqD (d2 aA (aj 2) (cI 9)) (cI 0))) (bO (cI 0)) dNx)
  (ag (dIf (asB (d2 eqD (d2 aA (aj 2) (cI 9)) (cI 1))) (bO (d2 jA (d2 oK (cI 10) (cI 30)) (cI 1))) dNx)
  (bO (d2 aA (d2 e_ (d2 e_ (d2 e_ (d2 e_ (aj 2) (aj 2)) (aj 2)) (aj 2)) (cI 7919)) (d2 ixD (asO (asL (al (cI 10) (al (d2 oK (cI 10) (cI 6)) (al (d2 oK (cI 10) (cI 30)) bp))))) (d2 aA (aj 2) (cI 3))))))))
def cS(C:Addr):MW:=kh 3 2 (gc C)
def j7(T:Txt K mg t):FnOk P t.w K mg base CX0 2 (fA 37) (dA 37) (bQ (top 37)) (spW K (cS t.C)):=
 (T.F 37).okW ["_law_script","_law_at","_law_number"] λh=>(ac (e7 2 (pxc (bR T) (T.G 36) h (aZ (aq (ar 0)) (aK 1 (pv 1) bK)))) (ac (bt (dD h.h64 (PDE.n (a7 (aE 2) (PDE.r af))) (PDE.n af)) (ai (a9 af)) aJ) (ac (bt (dD h.h64 (PDE.n (a7 (aE 2) (PDE.r af))) (PDE.n af)) (ai (a9 (jC (PDE.r (qN (PDE.r af) (PDE.r af))) (PDE.r af)))) aJ) (ai (a9 (a7 (PDE.r (h8 (PDE.r (h8 (PDE.r (h8 (PDE.r (h8 (aE 2) (aE 2))) (aE 2))) (aE 2))) (PDE.r af))) (PDE.r (bH (PDE.r (PDO.v (bZ (ak af (ak (qN (PDE.r af) (PDE.r af)) (ak (qN (PDE.r af) (PDE.r af)) aL)))))) (PDE.r (a7 (aE 2) (PDE.r af)))))))))))
def fR(C:Addr):DF->Option RES:=
  (ag (aT 6 (λ_=>some (.str "")))
  (ag (aY 7 (ay (au C) (aN (ah (getV 0)) (az 1 bJ))))
  (ag (jD (nt (d2 xU (cI 1) (d2 wH (d2 ap (cI 1) (d2 e_ (d2 bu (d2 aA (d2 bu (aj 7) (cI 4)) (cI 3)) (cI 2)) (d2 aA (d2 bu (aj 7) (cI 12)) (cI 3)))) (am 5)))) (setV 8) (ag (aY 9 (x2 ixD (ah (dR none 2 "some")) (x2 aA (ay (au C) (aN (ah (getV 0)) (az 1 bJ))) (ah (cI 3)))))
  (ag (aY 10 (x2 aA (ay (au C) (aN (ah (getV 0)) (az 1 bJ))) (ah (cI 3))))
  (ag (aT 6 (d2 ap (d2 ap (aj 6) (d2 ixD (λ_=>some (.str "~><")) (aj 10))) (d1 gv (am 9))))
  (ag (aT 11 (d2 ixD (asO (asL (al (asT (al (getV 3) (al (getV 4) bp))) (al (asT (al (getV 3) (al (getV 4) bp))) (al (asT (al (getV 4) (al (getV 3) bp))) bp))))) (aj 10)))
  (b9 none 2 "ties" (asT (al (d2 ixD (aj 11) (cI 0)) (al (d2 ixD (aj 11) (cI 1)) (al (getV 9) (al (d2 gtI (aj 10) (cI 0)) bp)))))))))))
  (bO (getV 6)))))
def bx(C:Addr):MW:=kh 12 6 (fR C)
def kC(T:Txt K mg t):FnOk P t.w K mg base CX0 2 (fA 39) (dA 39) (bQ (top 39)) (spW K (bx t.C)):=
 (T.F 39).okW ["_law_script","_law_at","_law_state","_law_one","_law_other","_law_room","_law_text_here","_law_n","_law_k","_law_kind","_law_lead","_law_ends"] λh=>(ac (cJ 6 aG) (ac (e7 7 (pxc (bR T) (T.G 36) h (aZ (aq (ar 0)) (aK 1 (pv 1) bK)))) (ac (pfI (fu rfl T.b_range (PDE.r (DA rfl rfl T.b_max (PDE.n af) (PDE.n (BM rfl rfl T.b_min (PDE.n (aD (PDE.r af) (PDE.r (h8 (PDE.r (cH (PDE.r (a7 (PDE.r (cH (aE 7) (PDE.r af))) (PDE.r af))) (PDE.r af))) (PDE.r (a7 (PDE.r (cH (aE 7) (PDE.r af))) (PDE.r af))))))) (br 5)))))) (lI 8) (ac (e7 9 (Hr (aq (pfD 2 h.h64 (pv 2))) (kD (pxc (bR T) (T.G 36) h (aZ (aq (ar 0)) (aK 1 (pv 1) bK))) (aq af)))) (ac (e7 10 (kD (pxc (bR T) (T.G 36) h (aZ (aq (ar 0)) (aK 1 (pv 1) bK))) (aq af))) (ac (cJ 6 (aD (PDE.r (aD (aE 6) (PDE.r (bH (PDE.r aG) (aE 10))))) (PDE.r (lY rfl T.b_str (br 9))))) (ac (cJ 11 (bH (PDE.r (PDO.v (bZ (ak (cM (ak (ar 3) (ak (ar 4) aL))) (ak (cM (ak (ar 3) (ak (ar 4) aL))) (ak (cM (ak (ar 4) (ak (ar 3) aL))) aL)))))) (aE 10))) (ai (km 2 h.h64 (pv 2) (cM (ak (bH (aE 11) (PDE.r af)) (ak (bH (aE 11) (PDE.r af)) (ak (ar 9) (ak (F6 (aE 10) (PDE.r af)) aL)))))))))))) (ai (a9 (ar 6))))))
def f_(C:Addr):DF->Option RES:=
  (ag (aT 3 (d1 aQ (aS none 2 "kinds")))
  (ag (aY 4 (ay (au C) (aN (ah (getV 0)) (az 1 bJ))))
  (ag (aT 5 (d2 ixD (dR none 2 "pool") (d2 aA (aj 4) (cI 3))))
  (ag (b9 none 2 "kinds" (getV 5))
  (ag (dC 6 (asL bp))
  (ag (jD (k_ (asO (asL (jz (aS none 2 "open"))))) (jZ [7,8]) (wT (bOr (nW (asB (d2 eqD (am 3) (cI 6)))) (tF eqD (x2 aA (ay (au C) (aN (ah (getV 0)) (az 1 bJ))) (ah (cI 3))) (ah (cI 0)))) (ag (oY 2 "open" (asT (al (getV 7) (al (getV 8) bp))))
  (ag (aT 9 (d2 jA (d2 jA (cI 12) (d1 aQ (aS none 2 "ties"))) (d1 aQ (aS none 2 "open"))))
  (nX 6 (x2 ap (x2 ap (ah (d2 ap (d2 ap (λ_=>some (.str "{")) (d1 gv (am 7))) (λ_=>some (.str ":")))) (ay (bx C) (aN (ah (getV 0)) (az 1 (az 2 (aN (ah (getV 8)) (aN (ah (getV 3)) (aN (ah (getV 9)) bJ)))))))) (ah (λ_=>some (.str "}"))))))) dNx))
  (ag (jD (nt (d2 jA (d2 aA (d2 bu (aj 4) (cI 3)) (cI 6)) (cI 2))) (setV 10) (dIf (cR (asB (d2 ltd (am 3) (cI 6))) (asB (d2 ltd (d2 ap (d1 aQ (aS none 2 "ties")) (d1 aQ (aS none 2 "open"))) (cI 12)))) (ag (aY 7 (x2 ap (ah (cI 1)) (x2 aA (ay (au C) (aN (ah (getV 0)) (az 1 bJ))) (ah (cI 99)))))
  (ag (bv (asB (d2 inD (am 7) (aS none 2 "used"))) (aT 7 (d2 ap (d2 aA (aj 7) (cI 99)) (cI 1))) 100)
  (ag (b9 none 2 "used" (getV 7))
  (ag (b9 none 2 "open" (asT (al (getV 7) (al (getV 3) bp))))
  (iu 6 (d2 ap (d2 ap (λ_=>some (.str "{")) (d1 gv (am 7))) (λ_=>some (.str "}")))))))) dNx))
  (ag (dIf (asB (d2 eqD (d2 aA (d2 bu (aj 4) (cI 18)) (cI 2)) (cI 1))) (BK 6) dNx)
  (bO (d2 ap (aj 5) (d2 mX (λ_=>some (.str "")) (am 6))))))))))))
def bb(C:Addr):MW:=kh 11 3 (f_ C)
def fj(T:Txt K mg t):FnOk P t.w K mg base CX0 3 (fA 40) (dA 40) (bQ (top 40)) (spW K (bb t.C)):=
 (T.F 40).okW ["_law_script","_law_at","_law_state","_law_here","_law_n","_law_kind","_law_signs","_law_number","_law_place_here","_law_room","_law_k"] λh=>(ac (cJ 3 (bq rfl T.b_len (PDR.n (prD 2 h.h64 (pv 2))))) (ac (e7 4 (pxc (bR T) (T.G 36) h (aZ (aq (ar 0)) (aK 1 (pv 1) bK)))) (ac (cJ 5 (bH (PDE.r (pfD 2 h.h64 (pv 2))) (PDE.r (a7 (aE 4) (PDE.r af))))) (ac (km 2 h.h64 (pv 2) (ar 5)) (ac (oA 6 (bZ aL)) (ac (pfI (rn (PDO.v (kB rfl T.b_list (prD 2 h.h64 (pv 2))))) (jX (is:=[7,8]) rfl (cA (pgI 7) (cA (pgI 8) j9))) (ai (Eh (PWX.t (FC (FF (dD h.h64 (br 3) (PDE.n af))) (Cg (EU h.h64 (kD (pxc (bR T) (T.G 36) h (aZ (aq (ar 0)) (aK 1 (pv 1) bK))) (aq af)) (aq af))))) (ac (Bp 2 h.h64 (pv 2) (cM (ak (ar 7) (ak (ar 8) aL)))) (ac (cJ 9 (jC (PDE.r (jC (PDE.r af) (PDE.r (bq rfl T.b_len (PDR.n (prD 2 h.h64 (pv 2))))))) (PDE.r (bq rfl T.b_len (PDR.n (prD 2 h.h64 (pv 2))))))) (ai (vM 6 (pv 6) (gW (gW (aq (aD (PDE.r (aD (PDE.r aG) (PDE.r (lY rfl T.b_str (br 7))))) (PDE.r aG))) (pxc (kC T) (T.G 39) h (aZ (aq (ar 0)) (aK 1 (pv 1) (aK 2 (pv 2) (aZ (aq (ar 8)) (aZ (aq (ar 3)) (aZ (aq (ar 9)) bK)))))))) (aq aG)))))) aJ))) (ac (pfI (fu rfl T.b_range (PDE.r (jC (PDE.r (a7 (PDE.r (cH (aE 4) (PDE.r af))) (PDE.r af))) (PDE.r af)))) (lI 10) (ai (bt (PDW.t (eQ (e6 h.h64 (br 3) (PDE.n af)) (eD (e6 h.h64 (PDE.n (aD (PDE.r (bq rfl T.b_len (PDR.n (prD 2 h.h64 (pv 2))))) (PDE.r (bq rfl T.b_len (PDR.n (prD 2 h.h64 (pv 2))))))) (PDE.n af))))) (ac (e7 7 (gW (aq af) (kD (pxc (bR T) (T.G 36) h (aZ (aq (ar 0)) (aK 1 (pv 1) bK))) (aq af)))) (ac (gB 100 ZS (Gn h.h64 (br 7) (PDR.n (prD 2 h.h64 (pv 2)))) (ai (cJ 7 (aD (PDE.r (a7 (aE 7) (PDE.r af))) (PDE.r af))))) (ac (km 2 h.h64 (pv 2) (ar 7)) (ac (km 2 h.h64 (pv 2) (cM (ak (ar 7) (ak (ar 3) aL)))) (ai (fm 6 (pv 6) (aD (PDE.r (aD (PDE.r aG) (PDE.r (lY rfl T.b_str (br 7))))) (PDE.r aG)))))))) aJ))) (ac (bt (dD h.h64 (PDE.n (a7 (PDE.r (cH (aE 4) (PDE.r af))) (PDE.r af))) (PDE.n af)) (ai (Ep 6 (pv 6))) aJ) (ai (a9 (aD (aE 5) (PDE.r (vG (PDE.n aG) (br 6))))))))))))))
def jw(C:Addr):DF->Option RES:=
  (ag (aY 3 (x2 aA (ay (au C) (aN (ah (getV 0)) (az 1 bJ))) (ah (cI 7))))
  (ag (aT 4 (d2 jA (d2 jA (cI 12) (d1 aQ (aS none 2 "ties"))) (d1 aQ (aS none 2 "open"))))
  (ag (dIf (cR (asB (d2 eqD (am 3) (cI 0))) (asB (d2 gtI (d1 aQ (aS none 2 "boughs")) (cI 0)))) (ag (jc 2 "here" (lG none 2 "boughs"))
  (bO (λ_=>some (.str ")")))) dNx)
  (ag (dIf (asB (d2 gtI (d1 aQ (aS none 2 "kinds")) (cI 6))) (bO (λ_=>some (.str ""))) dNx)
  (ag (dIf (cR (asB (d2 eqD (am 3) (cI 1))) (asB (d2 eqD (d1 aQ (aS none 2 "boughs")) (cI 0)))) (ag (jc 2 "here" (ah (d1 aQ (aS none 2 "kinds"))))
  (d4 (x2 ap (ah (λ_=>some (.str "."))) (ay (bb C) (aN (ah (getV 0)) (az 1 (az 2 bJ))))))) dNx)
  (ag (dIf (orT (asB (d2 eqD (am 3) (cI 0))) (orT (asB (d2 eqD (am 3) (cI 1))) (asB (d2 ltd (am 4) (cI 1))))) (bO (λ_=>some (.str ""))) dNx)
  (ag (aT 5 (dR none 2 "here"))
  (ag (jc 2 "here" (ah (d1 aQ (aS none 2 "kinds"))))
  (ag (aY 6 (ay (bx C) (aN (ah (getV 0)) (az 1 (az 2 (aN (ah (getV 5)) (aN (ah (dR none 2 "here")) (aN (ah (getV 4)) bJ))))))))
  (ag (aY 6 (x2 ap (ah (getV 6)) (ay (bb C) (aN (ah (getV 0)) (az 1 (az 2 bJ))))))
  (ag (dIf (asB (d2 gtI (aj 3) (cI 4))) (ag (b9 none 2 "boughs" (getV 5))
  (aT 6 (d2 ap (λ_=>some (.str "(")) (aj 6)))) dNx)
  (bO (getV 6)))))))))))))
def fP(C:Addr):MW:=kh 7 3 (jw C)
def sG(T:Txt K mg t):FnOk P t.w K mg base CX0 4 (fA 41) (dA 41) (bQ (top 41)) (spW K (fP t.C)):=
 (T.F 41).okW ["_law_script","_law_at","_law_state","_law_way","_law_room","_law_one","_law_text_here"] λh=>(ac (e7 3 (kD (pxc (bR T) (T.G 36) h (aZ (aq (ar 0)) (aK 1 (pv 1) bK))) (aq af))) (ac (cJ 4 (jC (PDE.r (jC (PDE.r af) (PDE.r (bq rfl T.b_len (PDR.n (prD 2 h.h64 (pv 2))))))) (PDE.r (bq rfl T.b_len (PDR.n (prD 2 h.h64 (pv 2))))))) (ac (bt (PDW.t (eQ (dD h.h64 (br 3) (PDE.n af)) (eD (lm (PDE.r (bq rfl T.b_len (PDR.n (prD 2 h.h64 (pv 2))))) (PDE.r af))))) (ac (rK 2 h.h64 (pv 2) (Bj 2 h.h64 (pv 2))) (ai (a9 aG))) aJ) (ac (bt (lm (PDE.r (bq rfl T.b_len (PDR.n (prD 2 h.h64 (pv 2))))) (PDE.r af)) (ai (a9 aG)) aJ) (ac (bt (PDW.t (eQ (dD h.h64 (br 3) (PDE.n af)) (eD (dD h.h64 (PDE.n (bq rfl T.b_len (PDR.n (prD 2 h.h64 (pv 2))))) (PDE.n af))))) (ac (rK 2 h.h64 (pv 2) (aq (bq rfl T.b_len (PDR.n (prD 2 h.h64 (pv 2)))))) (ai (eR (gW (aq aG) (pxc (fj T) (T.G 40) h (aZ (aq (ar 0)) (aK 1 (pv 1) (aK 2 (pv 2) bK)))))))) aJ) (ac (bt (PDW.t (gi (dD h.h64 (br 3) (PDE.n af)) (gi (dD h.h64 (br 3) (PDE.n af)) (gT (e6 h.h64 (br 4) (PDE.n af)))))) (ai (a9 aG)) aJ) (ac (cJ 5 (pfD 2 h.h64 (pv 2))) (ac (rK 2 h.h64 (pv 2) (aq (bq rfl T.b_len (PDR.n (prD 2 h.h64 (pv 2)))))) (ac (e7 6 (pxc (kC T) (T.G 39) h (aZ (aq (ar 0)) (aK 1 (pv 1) (aK 2 (pv 2) (aZ (aq (ar 5)) (aZ (aq (pfD 2 h.h64 (pv 2))) (aZ (aq (ar 4)) bK)))))))) (ac (e7 6 (gW (aq (ar 6)) (pxc (fj T) (T.G 40) h (aZ (aq (ar 0)) (aK 1 (pv 1) (aK 2 (pv 2) bK)))))) (ac (bt (lm (aE 3) (PDE.r af)) (ac (km 2 h.h64 (pv 2) (ar 5)) (ai (cJ 6 (aD (PDE.r aG) (aE 6))))) aJ) (ai (a9 (ar 6))))))))))))))
def jj(C:Addr):DF->Option RES:=
  (ag (dC 1 (nh (db C) (aB 0 nA)))
  (ag (dC 2 (λ_=>some (.obj none (p7 [("kinds",none),("ties",none),("open",none),("boughs",none),("used",none),("here",some 0)]))))
  (ag (sf 2 "pool" (ay (iP C) (aN (ah (getV 0)) (az 1 bJ))))
  (ag (sf 2 "some" (BH (ba (ay (cS C) (aN (ah (getV 0)) (az 1 bJ))) (ba (ay (cS C) (aN (ah (getV 0)) (az 1 bJ))) (ba (ah (cI 5)) da)))))
  (ag (aY 3 (ay (bb C) (aN (ah (getV 0)) (az 1 (az 2 bJ)))))
  (ag (jD (k_ (d2 ap (aj 0) (asO (asL (al (cI 1) (al (cI 1) (al (cI 1) bp))))))) (setV 4) (aY 3 (x2 ap (ah (getV 3)) (ay (fP C) (aN (ah (getV 0)) (az 1 (az 2 bJ)))))))
  (ag (aT 3 (d2 ap (aj 3) (d2 ge (λ_=>some (.str ")")) (d1 aQ (aS none 2 "boughs")))))
  (ag (bv (asB (d2 gtI (d1 aQ (aS none 2 "open")) (cI 0))) (aY 3 (x2 ap (ah (d2 ap (aj 3) (λ_=>some (.str ".")))) (ay (bb C) (aN (ah (getV 0)) (az 1 (az 2 bJ)))))) 100)
  (tT 2 (bO (asT (al (getV 3) (al (getV 2) bp)))))))))))))
def g8(C:Addr):List DV->Option DV:=mOf 5 1 (jj C)
def sJ(T:Txt K mg t):Ok P t.w K mg base t 42 5 g8:=
 (T.F 42).okI ["_law_script","_law_at","_law_state","_law_text_here","_law_cell"] λh=>(xw (oA 1 (poI (jL T) (T.G 35) h (nP 0 bi))) (xy (IS 2 (by with_reducible exact Ac [("kinds",none),("ties",none),("open",none),("boughs",none),("used",none),("here",some 0)] (gx dG (jy a_) (gx dG (jy a_) (gx dG (jy a_) (gx dG (jy a_) (gx dG (jy a_) (gx dG zT BW)))))))) (ac (wc 2 h.h64 (pv 2) (pxc (tK T) (T.G 38) h (aZ (aq (ar 0)) (aK 1 (pv 1) bK)))) (ac (wc 2 h.h64 (pv 2) (E9 (aP (pxc (j7 T) (T.G 37) h (aZ (aq (ar 0)) (aK 1 (pv 1) bK))) (aP (pxc (j7 T) (T.G 37) h (aZ (aq (ar 0)) (aK 1 (pv 1) bK))) (aP (aq af) bX))))) (ac (e7 3 (pxc (fj T) (T.G 40) h (aZ (aq (ar 0)) (aK 1 (pv 1) (aK 2 (pv 2) bK))))) (ac (pfI (rn (aD (aE 0) (PDE.r (PDO.v (bZ (ak af (ak af (ak af aL)))))))) (lI 4) (ai (e7 3 (gW (aq (ar 3)) (pxc (sG T) (T.G 41) h (aZ (aq (ar 0)) (aK 1 (pv 1) (aK 2 (pv 2) bK)))))))) (ac (cJ 3 (aD (aE 3) (PDE.r (j8 (PDE.r aG) (PDE.r (bq rfl T.b_len (PDR.n (prD 2 h.h64 (pv 2))))))))) (ac (gB 100 ZS (lm (PDE.r (bq rfl T.b_len (PDR.n (prD 2 h.h64 (pv 2))))) (PDE.r af)) (ai (e7 3 (gW (aq (aD (aE 3) (PDE.r aG))) (pxc (fj T) (T.G 40) h (aZ (aq (ar 0)) (aK 1 (pv 1) (aK 2 (pv 2) bK)))))))) (ai (qw 2 (a9 (cM (ak (ar 3) (ak (ar 2) aL))))))))))))))
def iF(C:Addr):DF->Option RES:=
  (ag (aT 5 (d2 jA (d1 aQ (am 1)) (cI 1)))
  (ag (jD (nt (aj 3)) (setV 6) (ag (iu 2 (asT (al (d2 ap (aj 5) (aj 6)) (al (d2 ap (d2 ap (aj 5) (aj 6)) (cI 1)) (al (d2 aA (aj 6) (cI 5)) (al (λ_=>some (.bl false)) bp))))))
  (ag (iu 1 (slS (λ_=>some (.str "abc")) bNo (bI (d2 ap (cI 1) (d2 aA (aj 6) (cI 2))))))
  (ag (aT 7 (d2 ap (d2 ap (λ_=>some (.str "~")) (d1 gv (d2 aA (aj 6) (cI 5)))) (slS (λ_=>some (.str "abc")) bNo (bI (d2 ap (cI 1) (d2 aA (aj 6) (cI 2)))))))
  (aT 0 (d2 ap (d2 ap (aj 0) (d2 ixD (asO (asL (al (λ_=>some (.str "")) (al (λ_=>some (.str "(")) bp)))) (d1 oN (am 4)))) (aj 7)))))))
  (bO (d2 ap (aj 0) (d2 ixD (asO (asL (al (d2 ge (λ_=>some (.str ")")) (aj 3)) (al (λ_=>some (.str "")) bp)))) (d1 oN (x_ (getV 4))))))))
def e8(C:Addr):MW:=kh 8 5 (iF C)
def pY(T:Txt K mg t):FnOk P t.w K mg base CX0 1 (fA 47) (dA 47) (bQ (top 47)) (spW K (e8 t.C)):=
 (T.F 47).okW ["_law_text_here","_law_kinds","_law_ties","_law_many","_law_bough","_law_first","_law_k","_law_mark"] λh=>(ac (cJ 5 (jC (PDE.r (bq rfl T.b_len (br 1))) (PDE.r af))) (ac (pfI (fu rfl T.b_range (aE 3)) (lI 6) (ac (fm 2 (pv 2) (cM (ak (aD (aE 5) (aE 6)) (ak (aD (PDE.r (aD (aE 5) (aE 6))) (PDE.r af)) (ak (a7 (aE 6) (PDE.r af)) (ak jF aL)))))) (ac (fm 1 (pv 1) (dZ (PDE.r aG) kR (jf (aD (PDE.r af) (PDE.r (a7 (aE 6) (PDE.r af))))))) (ac (cJ 7 (aD (PDE.r (aD (PDE.r aG) (PDE.r (lY rfl T.b_str (PDE.n (a7 (aE 6) (PDE.r af))))))) (PDE.r (dZ (PDE.r aG) kR (jf (aD (PDE.r af) (PDE.r (a7 (aE 6) (PDE.r af))))))))) (ai (cJ 0 (aD (PDE.r (aD (aE 0) (PDE.r (bH (PDE.r (PDO.v (bZ (ak aG (ak aG aL))))) (PDE.r (rG rfl T.b_int (br 4))))))) (aE 7)))))))) (ai (a9 (aD (aE 0) (PDE.r (bH (PDE.r (PDO.v (bZ (ak (j8 (PDE.r aG) (aE 3)) (ak aG aL))))) (PDE.r (rG rfl T.b_int (PDE.n (yZ (ar 4))))))))))))
def fY(C:Addr):DF->Option RES:=
  (ag (aY 5 (ay (au C) (aN (ah (getV 0)) (az 1 bJ))))
  (ag (aT 6 (d2 bu (aj 5) (cI 5)))
  (ag (dIf (asB (d2 eqD (d2 aA (aj 5) (cI 5)) (cI 0))) (ag (rP 3 (tw (al (λ_=>some (.str "a")) bp) (d2 aA (aj 6) (cI 9))))
  (bO (d2 ap (aj 2) (d2 ge (λ_=>some (.str ".a")) (d2 aA (aj 6) (cI 9)))))) dNx)
  (ag (dIf (asB (d2 ltd (d2 aA (aj 5) (cI 5)) (cI 3))) (ag (dIf (asB (d2 eqD (d2 aA (aj 5) (cI 5)) (cI 2))) (ag (aT 2 (λ_=>some (.str "")))
  (ag (oH 3)
  (oH 4))) dNx)
  (ag (aT 7 (d1 aQ (am 3)))
  (ag (rP 3 (al (λ_=>some (.str "ab")) (al (λ_=>some (.str "c")) bp)))
  (ag (rP 4 (tw (al (asT (al (getV 7) (al (d2 ap (aj 7) (cI 1)) (al (cI 7) (al (λ_=>some (.bl true)) bp))))) bp) (d2 ap (cI 1) (d2 aA (aj 6) (cI 15)))))
  (bO (d2 ap (d2 ap (d2 ap (d2 ap (aj 2) (slS (λ_=>some (.str ".")) bNo (bI (getV 7)))) (λ_=>some (.str "ab"))) (d2 ge (λ_=>some (.str ">7")) (d2 ap (cI 1) (d2 aA (aj 6) (cI 15))))) (λ_=>some (.str "c")))))))) dNx)
  (ag (oH 3)
  (ag (oH 4)
  (ag (iu 3 (λ_=>some (.str "z")))
  (ag (aT 8 (d2 ixD (asO (asL (al (d2 aA (d2 bu (aj 6) (cI 2)) (cI 8)) (al (d2 aA (d2 bu (aj 6) (cI 2)) (cI 111)) bp)))) (d2 aA (aj 6) (cI 2))))
  (ag (dIf (asB (d2 eqD (d2 aA (aj 5) (cI 5)) (cI 3))) (aT 8 (d2 ixD (asO (asL (al (d2 aA (d2 bu (aj 6) (cI 2)) (cI 8)) (al (d2 aA (d2 bu (aj 6) (cI 2)) (cI 120)) bp)))) (d2 aA (aj 6) (cI 2)))) dNx)
  (d4 (ay (e8 C) (aN (ah (λ_=>some (.str "z"))) (az 3 (az 4 (aN (ah (getV 8)) (aN (ah (hV (d2 eqD (d2 aA (aj 5) (cI 5)) (cI 4)) (d2 ltd (am 8) (cI 90)))) bJ))))))))))))))))
def dw(C:Addr):MW:=kh 9 5 (fY C)
def qW(T:Txt K mg t):FnOk P t.w K mg base CX0 2 (fA 48) (dA 48) (bQ (top 48)) (spW K (dw t.C)):=
 (T.F 48).okW ["_law_script","_law_at","_law_text_here","_law_kinds","_law_ties","_law_n","_law_many","_law_here","_law_some"] λh=>(ac (e7 5 (pxc (bR T) (T.G 36) h (aZ (aq (ar 0)) (aK 1 (pv 1) bK)))) (ac (cJ 6 (cH (aE 5) (PDE.r af))) (ac (bt (dD h.h64 (PDE.n (a7 (aE 5) (PDE.r af))) (PDE.n af)) (ac (kL 3 (pv 3) (vo (bZ (ak aG aL)) (PDE.r (a7 (aE 6) (PDE.r af))))) (ai (a9 (aD (aE 2) (PDE.r (j8 (PDE.r aG) (PDE.r (a7 (aE 6) (PDE.r af))))))))) aJ) (ac (bt (e6 h.h64 (PDE.n (a7 (aE 5) (PDE.r af))) (PDE.n af)) (ac (bt (dD h.h64 (PDE.n (a7 (aE 5) (PDE.r af))) (PDE.n af)) (ac (cJ 2 aG) (ac (kg 3 (pv 3)) (ai (kg 4 (pv 4))))) aJ) (ac (cJ 7 (bq rfl T.b_len (br 3))) (ac (kL 3 (pv 3) (bZ (ak aG (ak aG aL)))) (ac (kL 4 (pv 4) (vo (bZ (ak (cM (ak (ar 7) (ak (aD (aE 7) (PDE.r af)) (ak af (ak jF aL))))) aL)) (PDE.r (aD (PDE.r af) (PDE.r (a7 (aE 6) (PDE.r af))))))) (ai (a9 (aD (PDE.r (aD (PDE.r (aD (PDE.r (aD (aE 2) (PDE.r (dZ (PDE.r aG) kR (jf (ar 7)))))) (PDE.r aG))) (PDE.r (j8 (PDE.r aG) (PDE.r (aD (PDE.r af) (PDE.r (a7 (aE 6) (PDE.r af))))))))) (PDE.r aG)))))))) aJ) (ac (kg 3 (pv 3)) (ac (kg 4 (pv 4)) (ac (fm 3 (pv 3) aG) (ac (cJ 8 (bH (PDE.r (PDO.v (bZ (ak (a7 (PDE.r (cH (aE 6) (PDE.r af))) (PDE.r af)) (ak (a7 (PDE.r (cH (aE 6) (PDE.r af))) (PDE.r af)) aL))))) (PDE.r (a7 (aE 6) (PDE.r af))))) (ac (bt (dD h.h64 (PDE.n (a7 (aE 5) (PDE.r af))) (PDE.n af)) (ai (cJ 8 (bH (PDE.r (PDO.v (bZ (ak (a7 (PDE.r (cH (aE 6) (PDE.r af))) (PDE.r af)) (ak (a7 (PDE.r (cH (aE 6) (PDE.r af))) (PDE.r af)) aL))))) (PDE.r (a7 (aE 6) (PDE.r af)))))) aJ) (ai (eR (pxc (pY T) (T.G 47) h (aZ (aq aG) (aK 3 (pv 3) (aK 4 (pv 4) (aZ (aq (ar 8)) (aZ (aq (eZ (o4 h.h64 (PDE.n (a7 (aE 5) (PDE.r af))) (PDE.n af)) (gk (Ew h.h64 (br 8) (PDE.n af))))) bK)))))))))))))))))
def iw(C:Addr):DF->Option RES:=
  (ag (dC 1 (asL bp))
  (ag (jD (iL 0) (jZ [2,3,4,5]) (dIf (cR (di (asB (getV 5))) (asB (d2 gtI (aj 2) (aj 3)))) (iu 1 (asT (al (getV 3) (al (getV 2) (al (getV 4) (al (getV 5) bp)))))) (iu 1 (asT (al (getV 2) (al (getV 3) (al (getV 4) (al (getV 5) bp))))))))
  (ll (asL (oV (aj 1))))))
def eS(C:Addr):List DV->Option DV:=mOf 6 1 (iw C)
def qY(T:Txt K mg t):Ok P t.w K mg base t 43 1 eS:=
 (T.F 43).okI ["_law_ties","_law_found","_law_one","_law_other","_law_kind","_law_oneway"] λh=>(ac (oA 1 (bZ aL)) (ac (pfI (uB 0) (jX (is:=[2,3,4,5]) rfl (cA (pgI 2) (cA (pgI 3) (cA (pgI 4) (cA (pgI 5) j9))))) (ai (bt (PDW.t (eQ (bU (ce (ar 5))) (eD (lm (aE 2) (aE 3))))) (ai (fm 1 (pv 1) (cM (ak (ar 3) (ak (ar 2) (ak (ar 4) (ak (ar 5) aL))))))) (ai (fm 1 (pv 1) (cM (ak (ar 2) (ak (ar 3) (ak (ar 4) (ak (ar 5) aL)))))))))) (ai (rf (jt h.h64 rfl T.b_sorted (aE 1))))))
def r_(C:Addr):DF->Option RES:=
  (bO (hV (d1 (ko "int") (am 0)) (x_ (d1 (ko "bool") (am 0)))))
def dY(C:Addr):List DV->Option DV:=mOf 1 1 (r_ C)
def gJ(T:Txt K mg t):Ok P t.w K mg base t 44 1 dY:=
 (T.F 44).okI ["_law_found"] λh=>(ai (a9 (eZ (ji rfl T.b_isinstance rfl T.b_int L2.boot_int (br 0)) (gk (yZ (ji rfl T.b_isinstance rfl T.b_bool L2.boot_bool (br 0)))))))
def jG(C:Addr):DF->Option RES:=
  (ag (dIf (orT (di (asB (d1 (ko "tuple") (am 0)))) (orT (asB (d2 neD (d1 aQ (am 0)) (cI 4))) (di (asB (d1 (ko "bool") (d2 ixD (aj 0) (cI 3))))))) (bO (λ_=>some (.bl false))) dNx)
  (bO (hV (cq (dY C) (aV (d2 ixD (aj 0) (cI 0)) nA)) (hV (cq (dY C) (aV (d2 ixD (aj 0) (cI 1)) nA)) (hV (cq (dY C) (aV (d2 ixD (aj 0) (cI 2)) nA)) (d2 eqD (am 0) (am 1)))))))
def cQ(C:Addr):List DV->Option DV:=mOf 2 2 (jG C)
def oM(T:Txt K mg t):Ok P t.w K mg base t 45 2 cQ:=
 (T.F 45).okI ["_law_found","_law_due"] λh=>(ac (bt (PDW.t (gi (bU (ce (ji rfl T.b_isinstance rfl T.b_tuple L2.boot_tuple (br 0)))) (gi (yg h.h64 (PDE.n (bq rfl T.b_len (br 0))) (PDE.n af)) (gT (bU (ce (ji rfl T.b_isinstance rfl T.b_bool L2.boot_bool (PDE.n (bH (aE 0) (PDE.r af)))))))))) (ai (a9 jF)) aJ) (ai (a9 (eZ (pcI (gJ T) (T.G 44) h (cg (bH (aE 0) (PDE.r af)) bi)) (eZ (pcI (gJ T) (T.G 44) h (cg (bH (aE 0) (PDE.r af)) bi)) (eZ (pcI (gJ T) (T.G 44) h (cg (bH (aE 0) (PDE.r af)) bi)) (gk (o4 h.h64 (br 0) (br 1)))))))))
def kb(C:Addr):DF->Option RES:=
  (ag (dIf (orT (di (asB (d1 (FQ C) (am 0)))) (orT (di (asB (d1 (ko "list") (d1 (dq C "kinds") (aj 0))))) (di (asB (d1 (ko "list") (d1 (dq C "ties") (aj 0))))))) (bO (λ_=>some (.bl false))) dNx)
  (ag (dIf (orT (asB (d2 neD (d1 (dq C "kinds") (aj 0)) (am 1))) (di (asB (d1 xo (asO (asL (fJ 1 [] (k_ (d1 (dq C "kinds") (aj 0))) (setV 0) iI (d1 (ko "str") (am 0))))))))) (bO (λ_=>some (.bl false))) dNx)
  (ag (aT 3 (cq (eS C) (aB 2 nA)))
  (bO (hV (d2 eqD (d1 aQ (d1 (dq C "ties") (aj 0))) (d1 aQ (am 3))) (d1 xo (asO (asL (fJ 1 [0,3] (nt (d1 aQ (am 3))) (setV 0) iI (cq (cQ C) (aV (d2 ixD (d1 (dq C "ties") (aj 1)) (aj 0)) (aV (d2 ixD (aj 2) (aj 0)) nA))))))))))))
def du(C:Addr):List DV->Option DV:=mOf 4 3 (kb C)
def ol(T:Txt K mg t):Ok P t.w K mg base t 46 3 du:=
 (T.F 46).okI ["_law_web","_law_kinds","_law_ties","_law_due"] λh=>(ac (bt (PDW.t (gi (bU (ce (EB T.cl T.icC rfl T.b_isinstance rfl T.mgC (br 0)))) (gi (bU (ce (ji rfl T.b_isinstance rfl T.b_list L2.boot_list (PDE.n (fE T.cl T.na_kinds (aE 0)))))) (gT (bU (ce (ji rfl T.b_isinstance rfl T.b_list L2.boot_list (PDE.n (fE T.cl T.na_ties (aE 0)))))))))) (ai (a9 jF)) aJ) (ac (bt (PDW.t (gi (yg h.h64 (PDE.n (fE T.cl T.na_kinds (aE 0))) (br 1)) (gT (bU (ce (uW rfl rfl T.b_all (PDE.n (PDO.v (wR ["_law_kind"] 1 [] [0] (rn (fE T.cl T.na_kinds (aE 0))) (lI 0) pk (ji rfl T.b_isinstance rfl T.b_str L2.boot_str (br 0))))))))))) (ai (a9 jF)) aJ) (ac (cJ 3 (pcI (qY T) (T.G 43) h (nP 2 bi))) (ai (a9 (eZ (o4 h.h64 (PDE.n (bq rfl T.b_len (PDE.n (fE T.cl T.na_ties (aE 0))))) (PDE.n (bq rfl T.b_len (br 3)))) (gk (uW rfl rfl T.b_all (PDE.n (PDO.v (wR ["_law_k","_law_web","_law_due"] 1 [0,3] [0] (fu rfl T.b_range (PDE.r (bq rfl T.b_len (br 3)))) (lI 0) pk (pcI (oM T) (T.G 45) h (cg (bH (PDE.r (fE T.cl T.na_ties (aE 1))) (aE 0)) (cg (bH (aE 2) (aE 0)) bi))))))))))))))
def mo(C:Addr):DF->Option RES:=
  (ag (yK aa 0 "text" (getV 1))
  (ag (yK aa 0 "at" (cI 0))
  (ag (kP aa 0 "kinds" (asL bp))
  (ag (kP aa 0 "ties" (asL bp))
  (ag (kP aa 0 "hung" (asL bp))
  (ag (kP aa 0 "begun" (λ_=>some (.dK [])))
  (kP aa 0 "closed" (λ_=>some (.dK [])))))))))
def bj(C:Addr):OD->List DV->Option (OD×D):=gm 2 2 (mo C)
def ij(T:Txt K mg t):FnOk P t.w K mg base CX0 1 (fA 32000) (dA 32000) (bQ (top 32000)) (spO K (bj t.C)):=
 (T.F 32000).okO ["self","text"] λh=>(ac (vR 0 T.cl_Reader T.naR_text (pv 0) (ar 1)) (ac (vR 0 T.cl_Reader T.naR_at (pv 0) af) (ac (iy 0 T.cl_Reader T.naR_kinds (pv 0) (bZ aL)) (ac (iy 0 T.cl_Reader T.naR_ties (pv 0) (bZ aL)) (ac (iy 0 T.cl_Reader T.naR_hung (pv 0) (bZ aL)) (ac (iy 0 T.cl_Reader T.naR_begun (pv 0) pO) (ai (iy 0 T.cl_Reader T.naR_closed (pv 0) pO))))))))
def oG(C:Addr):DF->Option RES:=
  (bO (slS (dR (some aa) 0 "text") (bI (dR (some aa) 0 "at")) (bI (d2 ap (dR (some aa) 0 "at") (cI 1)))))
def bn(C:Addr):List DV->Option DV:=mOf 1 1 (oG C)
def bS(T:Txt K mg t):Ok P t.w K mg base t 32001 1 bn:=
 (T.F 32001).okI ["self"] λh=>(ai (a9 (dZ (PDE.r (pfB 0 T.cl_Reader T.naR_text (pv 0))) (jf (pfB 0 T.cl_Reader T.naR_at (pv 0))) (jf (aD (PDE.r (pfB 0 T.cl_Reader T.naR_at (pv 0))) (PDE.r af))))))
def nO(C:Addr):DF->Option RES:=
  (ag (aT 3 (dR (some aa) 0 "at"))
  (ag (bv (asB (chD leA leA (am 1) (eY aa "sign" (bn C) (f8 (ik 0) g0)) (am 2))) (jh (some aa) 0 "at" (cI 1)) 5000)
  (bO (slS (dR (some aa) 0 "text") (bI (getV 3)) (bI (dR (some aa) 0 "at"))))))
def cw(C:Addr):OD->List DV->Option (OD×D):=gm 4 3 (nO C)
def ib(T:Txt K mg t):FnOk P t.w K mg base CX0 2 (fA 32003) (dA 32003) (bQ (top 32003)) (spO K (cw t.C)):=
 (T.F 32003).okO ["self","low","high","start"] λh=>(ac (cJ 3 (pfB 0 T.cl_Reader T.naR_at (pv 0))) (ac (gB 5000 ZS (l8 (br 1) (PDE.n (eU (sw 0) T.cl_Reader T.mt_Reader_sign (bS T) (h.mono (by decide)) (T.F 32001).bd)) (br 2)) (ai (kt 0 T.cl_Reader T.naR_at (pv 0) af))) (ai (a9 (dZ (PDE.r (pfB 0 T.cl_Reader T.naR_text (pv 0))) (jf (ar 3)) (jf (pfB 0 T.cl_Reader T.naR_at (pv 0))))))))
def im(C:Addr):DF->Option RES:=
  (ag (aT 1 (d1 xo (asO (asL (fJ 1 [] (t8 (getV 0)) (setV 0) iI (chD leA leA (λ_=>some (.str "a")) (am 0) (λ_=>some (.str "z"))))))))
  (bO (hV (getV 1) (chD leA leA (cI 1) (d1 aQ (am 0)) (cI 3)))))
def bV(C:Addr):List DV->Option DV:=mOf 2 1 (im C)
def gF(T:Txt K mg t):Ok P t.w K mg base t 18 1 bV:=
 (T.F 18).okI ["kind","letters_fit"] λh=>(ac (cJ 1 (uW rfl rfl T.b_all (PDE.n (PDO.v (wR ["letter"] 1 [] [0] (DE (ar 0)) (lI 0) pk (qM (PDE.n aG) (br 0) (PDE.n aG))))))) (ai (a9 (eZ (ar 1) (gk (qM (PDE.n af) (PDE.n (bq rfl T.b_len (br 0))) (PDE.n (g9 rfl T.c_MOST_LETTERS))))))))
def om(C:Addr):DF->Option RES:=
  (ag (dIf (asB (d2 neD (eY aa "sign" (bn C) (f8 (ik 0) g0)) (am 1))) cC dNx)
  (jh (some aa) 0 "at" (cI 1)))
def cL(C:Addr):OD->List DV->Option (OD×D):=gm 2 2 (om C)
def fw(T:Txt K mg t):FnOk P t.w K mg base CX0 2 (fA 32002) (dA 32002) (bQ (top 32002)) (spO K (cL t.C)):=
 (T.F 32002).okO ["self","sign"] λh=>(ac (bt (yg h.h64 (PDE.n (eU (sw 0) T.cl_Reader T.mt_Reader_sign (bS T) (h.mono (by decide)) (T.F 32001).bd)) (br 1)) (ai b6) aJ) (ai (kt 0 T.cl_Reader T.naR_at (pv 0) af)))
def t6(C:Addr):DF->Option RES:=
  (bO (hV (chD leA leA (cI 1) (d1 aQ (am 0)) (cI 30)) (orV (d2 eqD (am 0) (λ_=>some (.str "0"))) (d2 neD (d2 ixD (aj 0) (cI 0)) (λ_=>some (.str "0"))))))
def fM(C:Addr):List DV->Option DV:=mOf 1 1 (t6 C)
def qf(T:Txt K mg t):Ok P t.w K mg base t 30 1 fM:=
 (T.F 30).okI ["figures"] λh=>(ai (a9 (eZ (qM (PDE.n af) (PDE.n (bq rfl T.b_len (br 0))) (PDE.n (g9 rfl T.c_MOST_FIGURES))) (gk (Gc (o4 h.h64 (br 0) (PDE.n aG)) (gk (zU h.h64 (PDE.n (bH (aE 0) (PDE.r af))) (PDE.n aG))))))))
def lE(C:Addr):DF->Option RES:=
  (ag (aY 1 (bN aa "taken" 0 (cw C) (ba (ah (λ_=>some (.str "0"))) (ba (ah (λ_=>some (.str "9"))) da))))
  (ag (dIf (di (asB (cq (fM C) (aB 1 nA)))) cC dNx)
  (bO (d1 BP (am 1)))))
def bP(C:Addr):OD->List DV->Option (OD×D):=gm 2 1 (lE C)
def gy(T:Txt K mg t):FnOk P t.w K mg base CX0 3 (fA 32004) (dA 32004) (bQ (top 32004)) (spO K (bP t.C)):=
 (T.F 32004).okO ["self","figures"] λh=>(ac (e7 1 (i_ 0 T.cl_Reader T.mt_Reader_taken (ib T) h (T.F 32003).bd (pv 0) (aP (aq aG) (aP (aq aG) bX)))) (ac (bt (bU (ce (pcI (qf T) (T.G 30) h (nP 1 bi)))) (ai b6) aJ) (ai (a9 (Dc rfl T.b_int (br 1))))))
def zN(C:Addr):DF->Option RES:=
  (ag (dIf (asB (d2 eqD (am 3) (cI 2))) (bO (asT (al (getV 1) (al (getV 0) (al (getV 2) (al (λ_=>some (.bl true)) bp)))))) dNx)
  (bO (asT (al (getV 0) (al (getV 1) (al (getV 2) (al (d2 eqD (am 3) (cI 1)) bp)))))))
def jJ(C:Addr):List DV->Option DV:=mOf 4 4 (zN C)
def xT(T:Txt K mg t):Ok P t.w K mg base t 31 1 jJ:=
 (T.F 31).okI ["ahead","behind","kind","lead"] λh=>(ac (bt (dD h.h64 (br 3) (PDE.n af)) (ai (a9 (cM (ak (ar 1) (ak (ar 0) (ak (ar 2) (ak jF aL))))))) aJ) (ai (a9 (cM (ak (ar 0) (ak (ar 1) (ak (ar 2) (ak (o4 h.h64 (br 3) (PDE.n af)) aL))))))))
def kX(C:Addr):DF->Option RES:=
  (sx (some aa) 0 "ties" (fJ 2 [2,3] (iL 1) (jZ [0,1]) iI (cq (jJ C) (aV (getV 2) (aV (getV 3) (aV (getV 0) (aB 1 nA)))))))
def c8(C:Addr):OD->List DV->Option (OD×D):=gm 4 4 (kX C)
def fN(T:Txt K mg t):FnOk P t.w K mg base CX0 2 (fA 32006) (dA 32006) (bQ (top 32006)) (spO K (c8 t.C)):=
 (T.F 32006).okO ["self","marks","ahead","behind"] λh=>(ai (BB 0 T.cl_Reader T.naR_ties (pv 0) (wR ["kind","lead","ahead","behind"] 2 [2,3] [0,1] (uB 1) (jX (is:=[0,1]) rfl (cA (pgI 0) (cA (pgI 1) j9))) pk (pcI (xT T) (T.G 31) h (cg (ar 2) (cg (ar 3) (cg (ar 0) (nP 1 bi))))))))
def jb(C:Addr):DF->Option RES:=
  (ag (dIf (orT (asB (d2 uw (getV 1) (aS (some aa) 0 "begun"))) (asB (d2 sD (getV 1) (aS (some aa) 0 "closed")))) cC dNx)
  (ag (dIf (asB (d2 eqD (d2 fG (aS (some aa) 0 "begun") (getV 1)) (am 2))) cC dNx)
  (ag (mC (some aa) 0 "closed" (getV 1) (λ_=>some (.bl true)))
  (bG (bN aa "join_by" 0 (c8 C) (ba (ah (getV 3)) (ba (ah (d2 fG (aS (some aa) 0 "begun") (getV 1))) (ba (ah (getV 2)) da))))))))
def dc(C:Addr):OD->List DV->Option (OD×D):=gm 4 4 (jb C)
def iN(T:Txt K mg t):FnOk P t.w K mg base CX0 3 (fA 32008) (dA 32008) (bQ (top 32008)) (spO K (dc t.C)):=
 (T.F 32008).okO ["self","number","place","marks"] λh=>(ac (bt (PDW.t (gi (Av h.h64 (ar 1) (prB 0 T.cl_Reader T.naR_begun (pv 0))) (gT (wy h.h64 (ar 1) (prB 0 T.cl_Reader T.naR_closed (pv 0)))))) (ai b6) aJ) (ac (bt (dD h.h64 (PDE.n (ki h.h64 (prB 0 T.cl_Reader T.naR_begun (pv 0)) (ar 1))) (br 2)) (ai b6) aJ) (ac (vU 0 T.cl_Reader T.naR_closed h.h64 (pv 0) (ar 1) jF) (ai (dM (i_ 0 T.cl_Reader T.mt_Reader_join_by (fN T) h (T.F 32006).bd (pv 0) (aP (aq (ar 3)) (aP (aq (ki h.h64 (prB 0 T.cl_Reader T.naR_begun (pv 0)) (ar 1))) (aP (aq (ar 2)) bX)))))))))
def mv(C:Addr):DF->Option RES:=
  (ag (dC 1 (asL bp))
  (ag (bv (asB (d1 (inG bc) (eY aa "sign" (bn C) (f8 (ik 0) g0)))) (ag (aT 2 (d1 (Bc bc) (eY aa "sign" (bn C) (f8 (ik 0) g0))))
  (ag (jh (some aa) 0 "at" (cI 1))
  (nX 1 (pI (ba (cD aa "number" 0 (bP C) g0) (ba (ah (getV 2)) da)))))) 200)
  (ag (tT 1 (dIf (di (iB (getV 1))) cC dNx))
  (tJ 1))))
def cU(C:Addr):OD->List DV->Option (OD×D):=gm 3 1 (mv C)
def ia(T:Txt K mg t):FnOk P t.w K mg base CX0 4 (fA 32005) (dA 32005) (bQ (top 32005)) (spO K (cU t.C)):=
 (T.F 32005).okO ["self","found","lead"] λh=>(ac (oA 1 (bZ aL)) (ac (gB 200 ZS (uS rfl T.g_LEADS T.kd_LEADS (eU (sw 0) T.cl_Reader T.mt_Reader_sign (bS T) (h.mono (by decide)) (T.F 32001).bd)) (ac (cJ 2 (Ce rfl T.g_LEADS T.kd_LEADS (eU (sw 0) T.cl_Reader T.mt_Reader_sign (bS T) (h.mono (by decide)) (T.F 32001).bd))) (ac (kt 0 T.cl_Reader T.naR_at (pv 0) af) (ai (vM 1 (pv 1) (EG (aP (mK 0 T.cl_Reader T.mt_Reader_number (gy T) h (T.F 32004).bd (pv 0)) (aP (aq (ar 2)) bX)))))))) (ac (qw 1 (bt (bU (gO (PDE.r (ar 1)))) (ai b6) aJ)) (ai (v7 1 (pv 1))))))
def ja(C:Addr):DF->Option RES:=
  (ag (dIf (asB (d2 sD (getV 1) (aS (some aa) 0 "begun"))) cC dNx)
  (mC (some aa) 0 "begun" (getV 1) (getV 2)))
def dg(C:Addr):OD->List DV->Option (OD×D):=gm 3 3 (ja C)
def iM(T:Txt K mg t):FnOk P t.w K mg base CX0 1 (fA 32007) (dA 32007) (bQ (top 32007)) (spO K (dg t.C)):=
 (T.F 32007).okO ["self","number","place"] λh=>(ac (bt (wy h.h64 (ar 1) (prB 0 T.cl_Reader T.naR_begun (pv 0))) (ai b6) aJ) (ai (vU 0 T.cl_Reader T.naR_begun h.h64 (pv 0) (ar 1) (ar 2))))
def jv(C:Addr):DF->Option RES:=
  (ag (bG (bN aa "skip" 0 (cL C) (ba (ah (λ_=>some (.str "{"))) da)))
  (ag (aY 2 (cD aa "number" 0 (bP C) g0))
  (ag (dIf (di (asB (chD leA leA (cI 1) (am 2) (cI 99)))) cC dNx)
  (ag (dIf (asB (d2 eqD (eY aa "sign" (bn C) (f8 (ik 0) g0)) (λ_=>some (.str ":")))) (ag (bG (bN aa "skip" 0 (cL C) (ba (ah (λ_=>some (.str ":"))) da)))
  (bG (bN aa "close_ring" 0 (dc C) (ba (ah (getV 2)) (ba (ah (getV 1)) (ba (cD aa "marks" 0 (cU C) g0) da)))))) (bG (bN aa "begin_ring" 0 (dg C) (ba (ah (getV 2)) (ba (ah (getV 1)) da)))))
  (bG (bN aa "skip" 0 (cL C) (ba (ah (λ_=>some (.str "}"))) da)))))))
def cG(C:Addr):OD->List DV->Option (OD×D):=gm 3 2 (jv C)
def i5(T:Txt K mg t):FnOk P t.w K mg base CX0 5 (fA 32009) (dA 32009) (bQ (top 32009)) (spO K (cG t.C)):=
 (T.F 32009).okO ["self","place","number"] λh=>(ac (dM (i_ 0 T.cl_Reader T.mt_Reader_skip (fw T) h (T.F 32002).bd (pv 0) (aP (aq aG) bX))) (ac (e7 2 (mK 0 T.cl_Reader T.mt_Reader_number (gy T) h (T.F 32004).bd (pv 0))) (ac (bt (bU (l8 (PDE.n af) (br 2) (PDE.n (g9 rfl T.c_MOST_RING)))) (ai b6) aJ) (ac (bt (dD h.h64 (PDE.n (eU (sw 0) T.cl_Reader T.mt_Reader_sign (bS T) (h.mono (by decide)) (T.F 32001).bd)) (PDE.n aG)) (ac (dM (i_ 0 T.cl_Reader T.mt_Reader_skip (fw T) h (T.F 32002).bd (pv 0) (aP (aq aG) bX))) (ai (dM (i_ 0 T.cl_Reader T.mt_Reader_close_ring (iN T) h (T.F 32008).bd (pv 0) (aP (aq (ar 2)) (aP (aq (ar 1)) (aP (mK 0 T.cl_Reader T.mt_Reader_marks (ia T) h (T.F 32005).bd (pv 0)) bX))))))) (ai (dM (i_ 0 T.cl_Reader T.mt_Reader_begin_ring (iM T) h (T.F 32007).bd (pv 0) (aP (aq (ar 2)) (aP (aq (ar 1)) bX)))))) (ai (dM (i_ 0 T.cl_Reader T.mt_Reader_skip (fw T) h (T.F 32002).bd (pv 0) (aP (aq aG) bX))))))))
def mV(C:Addr):DF->Option RES:=
  (ag (aY 1 (bN aa "taken" 0 (cw C) (ba (ah (λ_=>some (.str "a"))) (ba (ah (λ_=>some (.str "z"))) da))))
  (ag (dIf (di (asB (cq (bV C) (aV (getV 1) nA)))) cC dNx)
  (ag (aT 2 (d1 aQ (aS (some aa) 0 "kinds")))
  (ag (b9 (some aa) 0 "kinds" (getV 1))
  (ag (bv (asB (d2 eqD (eY aa "sign" (bn C) (f8 (ik 0) g0)) (λ_=>some (.str "{")))) (bG (bN aa "ring_sign" 0 (cG C) (ba (ah (getV 2)) da))) 200)
  (bO (getV 2)))))))
def bz(C:Addr):OD->List DV->Option (OD×D):=gm 3 1 (mV C)
def cV(T:Txt K mg t):FnOk P t.w K mg base CX0 6 (fA 32010) (dA 32010) (bQ (top 32010)) (spO K (bz t.C)):=
 (T.F 32010).okO ["self","kind","place"] λh=>(ac (e7 1 (i_ 0 T.cl_Reader T.mt_Reader_taken (ib T) h (T.F 32003).bd (pv 0) (aP (aq aG) (aP (aq aG) bX)))) (ac (bt (bU (ce (pcI (gF T) (T.G 18) h (cg (ar 1) bi)))) (ai b6) aJ) (ac (cJ 2 (bq rfl T.b_len (PDR.n (prB 0 T.cl_Reader T.naR_kinds (pv 0))))) (ac (pV 0 T.cl_Reader T.naR_kinds (pv 0) (ar 1)) (ac (gB 200 ZS (dD h.h64 (PDE.n (eU (sw 0) T.cl_Reader T.mt_Reader_sign (bS T) (h.mono (by decide)) (T.F 32001).bd)) (PDE.n aG)) (ai (dM (i_ 0 T.cl_Reader T.mt_Reader_ring_sign (i5 T) h (T.F 32009).bd (pv 0) (aP (aq (ar 2)) bX))))) (ai (a9 (ar 2))))))))
def lF(C:Addr):DF->Option RES:=
  (ag (aY 2 (cD aa "marks" 0 (cU C) g0))
  (ag (aY 3 (cD aa "place" 0 (bz C) g0))
  (ag (bG (bN aa "join_by" 0 (c8 C) (ba (ah (getV 2)) (ba (ah (getV 1)) (ba (ah (getV 3)) da)))))
  (bO (getV 3)))))
def bD(C:Addr):OD->List DV->Option (OD×D):=gm 4 2 (lF C)
def dj(T:Txt K mg t):FnOk P t.w K mg base CX0 7 (fA 32011) (dA 32011) (bQ (top 32011)) (spO K (bD t.C)):=
 (T.F 32011).okO ["self","ahead","marks","behind"] λh=>(ac (e7 2 (mK 0 T.cl_Reader T.mt_Reader_marks (ia T) h (T.F 32005).bd (pv 0))) (ac (e7 3 (mK 0 T.cl_Reader T.mt_Reader_place (cV T) h (T.F 32010).bd (pv 0))) (ac (dM (i_ 0 T.cl_Reader T.mt_Reader_join_by (fN T) h (T.F 32006).bd (pv 0) (aP (aq (ar 2)) (aP (aq (ar 1)) (aP (aq (ar 3)) bX))))) (ai (a9 (ar 3))))))
abbrev Gu:List Str:=["self","here","sign"]
def Ip(C:Addr):DF->Option RES:=
  (ag (aT 2 (eY aa "sign" (bn C) (f8 (ik 0) g0)))
  (ag (dIf (asB (d1 (inG bc) (getV 2))) (d4 (bN aa "follow" 0 (bD C) (ba (ah (getV 1)) da))) dNx)
  (ag (jh (some aa) 0 "at" (cI 1))
  (ag (dIf (asB (d2 eqD (am 2) (λ_=>some (.str "(")))) (ag (b9 (some aa) 0 "hung" (getV 1))
  (d4 (bN aa "follow" 0 (bD C) (ba (ah (getV 1)) da)))) dNx)
  (ag (dIf (cR (asB (d2 eqD (am 2) (λ_=>some (.str ")")))) (iB (aS (some aa) 0 "hung"))) (d4 (lG (some aa) 0 "hung")) dNx)
  (ag (dIf (cR (asB (d2 eqD (am 2) (λ_=>some (.str ".")))) (di (iB (aS (some aa) 0 "hung")))) (d4 (cD aa "place" 0 (bz C) g0)) dNx)
  cC))))))
def bw(C:Addr):OD->List DV->Option (OD×D):=gm 3 2 (Ip C)
def D6(T:Txt K mg t):FnOk P t.w K mg base CX0 8 (fA 32012) (dA 32012) (bQ (top 32012)) (spO K (bw t.C)):=
 (T.F 32012).okO Gu λh=>(ac (cJ 2 (eU (sw 0) T.cl_Reader T.mt_Reader_sign (bS T) (h.mono (by decide)) (T.F 32001).bd)) (ac (bt (uS rfl T.g_LEADS T.kd_LEADS (ar 2)) (ai (eR (i_ 0 T.cl_Reader T.mt_Reader_follow (dj T) h (T.F 32011).bd (pv 0) (aP (aq (ar 1)) bX)))) aJ) (ac (kt 0 T.cl_Reader T.naR_at (pv 0) af) (ac (bt (dD h.h64 (br 2) (PDE.n aG)) (ac (pV 0 T.cl_Reader T.naR_hung (pv 0) (ar 1)) (ai (eR (i_ 0 T.cl_Reader T.mt_Reader_follow (dj T) h (T.F 32011).bd (pv 0) (aP (aq (ar 1)) bX))))) aJ) (ac (bt (PDW.t (eQ (dD h.h64 (br 2) (PDE.n aG)) (eD (gO (prB 0 T.cl_Reader T.naR_hung (pv 0)))))) (ai (eR (vF 0 T.cl_Reader T.naR_hung (pv 0)))) aJ) (ac (bt (PDW.t (eQ (dD h.h64 (br 2) (PDE.n aG)) (eD (bU (gO (prB 0 T.cl_Reader T.naR_hung (pv 0))))))) (ai (eR (mK 0 T.cl_Reader T.mt_Reader_place (cV T) h (T.F 32010).bd (pv 0)))) aJ) (ai b6)))))))
def cY(C:Addr):OD->List DV->Option Nat:=rzO 3 2 (cN (xOf (aT 2 (eY aa "sign" (bn C) (f8 (ik 0) g0))))
  (cN (xIf (asB (d1 (inG bc) (getV 2))) (xOf (d4 (bN aa "follow" 0 (bD C) (ba (ah (getV 1)) da)))) xNx)
  (cN (xOf (jh (some aa) 0 "at" (cI 1)))
  (cN (xIf (asB (d2 eqD (am 2) (λ_=>some (.str "(")))) (cN (xOf (b9 (some aa) 0 "hung" (getV 1)))
  (xOf (d4 (bN aa "follow" 0 (bD C) (ba (ah (getV 1)) da))))) xNx)
  (cN (xIf (cR (asB (d2 eqD (am 2) (λ_=>some (.str ")")))) (iB (aS (some aa) 0 "hung"))) (xOf (d4 (lG (some aa) 0 "hung"))) xNx)
  (cN (xIf (cR (asB (d2 eqD (am 2) (λ_=>some (.str ".")))) (di (iB (aS (some aa) 0 "hung")))) (xOf (d4 (cD aa "place" 0 (bz C) g0))) xNx)
  (FI 2 " does not belong there" 0)))))))
def kN(T:Txt K mg t):FnOk P t.w K mg base (CXc P t.w t.cl) 8 (fA 32012) (dA 32012) (bQ (top 32012)) (rV K t.cl (cY t.C)):=
 (T.F 32012).thrO Gu λh=>(b7 (iz (cJ 2 (eU (sw 0) T.cl_Reader T.mt_Reader_sign (bS T) (h.mono (by decide)) (T.F 32001).bd))) (b7 (lq (uS rfl T.g_LEADS T.kd_LEADS (ar 2)) (dN (iz (eR (i_ 0 T.cl_Reader T.mt_Reader_follow (dj T) h (T.F 32011).bd (pv 0) (aP (aq (ar 1)) bX))))) fZ) (b7 (iz (kt 0 T.cl_Reader T.naR_at (pv 0) af)) (b7 (lq (dD h.h64 (br 2) (PDE.n aG)) (b7 (iz (pV 0 T.cl_Reader T.naR_hung (pv 0) (ar 1))) (dN (iz (eR (i_ 0 T.cl_Reader T.mt_Reader_follow (dj T) h (T.F 32011).bd (pv 0) (aP (aq (ar 1)) bX)))))) fZ) (b7 (lq (PDW.t (eQ (dD h.h64 (br 2) (PDE.n aG)) (eD (gO (prB 0 T.cl_Reader T.naR_hung (pv 0)))))) (dN (iz (eR (vF 0 T.cl_Reader T.naR_hung (pv 0))))) fZ) (b7 (lq (PDW.t (eQ (dD h.h64 (br 2) (PDE.n aG)) (eD (bU (gO (prB 0 T.cl_Reader T.naR_hung (pv 0))))))) (dN (iz (eR (mK 0 T.cl_Reader T.mt_Reader_place (cV T) h (T.F 32010).bd (pv 0))))) fZ) (dN (xC (i:=2) (k:=0) rfl (jY 0) rfl T.mx_BadText (T.xi 0) (pv 2)))))))))
abbrev GF:List Str:=["self","here"]
def I8(C:Addr):DF->Option RES:=
  (ag (aY 1 (cD aa "place" 0 (bz C) g0))
  (ag (bv (asB (d2 ltd (dR (some aa) 0 "at") (d1 aQ (dR (some aa) 0 "text")))) (aY 1 (bN aa "go_on" 0 (bw C) (ba (ah (getV 1)) da))) 1000)
  (ag (dIf (iB (aS (some aa) 0 "hung")) cC dNx)
  (dIf (asB (d2 ltd (d1 uz (aS (some aa) 0 "closed")) (d1 uz (aS (some aa) 0 "begun")))) cC dNx))))
def aO(C:Addr):OD->List DV->Option (OD×D):=gm 2 1 (I8 C)
def DK(T:Txt K mg t):FnOk P t.w K mg base CX0 9 (fA 32013) (dA 32013) (bQ (top 32013)) (spO K (aO t.C)):=
 (T.F 32013).okO GF λh=>(ac (e7 1 (mK 0 T.cl_Reader T.mt_Reader_place (cV T) h (T.F 32010).bd (pv 0))) (ac (gB 1000 ZS (e6 h.h64 (PDE.n (pfB 0 T.cl_Reader T.naR_at (pv 0))) (PDE.n (bq rfl T.b_len (PDE.n (pfB 0 T.cl_Reader T.naR_text (pv 0)))))) (ai (e7 1 (i_ 0 T.cl_Reader T.mt_q0 (D6 T) h (T.F 32012).bd (pv 0) (aP (aq (ar 1)) bX))))) (ac (bt (gO (prB 0 T.cl_Reader T.naR_hung (pv 0))) (ai b6) aJ) (ai (bt (e6 h.h64 (PDE.n (lR rfl T.b_len (prB 0 T.cl_Reader T.naR_closed (pv 0)))) (PDE.n (lR rfl T.b_len (prB 0 T.cl_Reader T.naR_begun (pv 0))))) (ai b6) aJ)))))
def bA(C:Addr):OD->List DV->Option Nat:=rzO 2 1 (cN (xOf (aY 1 (cD aa "place" 0 (bz C) g0)))
  (cN (dS (asB (d2 ltd (dR (some aa) 0 "at") (d1 aQ (dR (some aa) 0 "text")))) (xOr (xOf (aY 1 (bN aa "go_on" 0 (bw C) (ba (ah (getV 1)) da)))) (xRz (lJ aa "go_on" 0 (cY C) (ba (ah (getV 1)) da)))) 1000)
  (cN (xIf (iB (aS (some aa) 0 "hung")) (xEx 0) xNx)
  (xIf (asB (d2 ltd (d1 uz (aS (some aa) 0 "closed")) (d1 uz (aS (some aa) 0 "begun")))) (xEx 0) xNx))))
def i9(T:Txt K mg t):FnOk P t.w K mg base (CXc P t.w t.cl) 9 (fA 32013) (dA 32013) (bQ (top 32013)) (rV K t.cl (bA t.C)):=
 (T.F 32013).thrO GF λh=>(b7 (iz (e7 1 (mK 0 T.cl_Reader T.mt_Reader_place (cV T) h (T.F 32010).bd (pv 0)))) (b7 (AU 1000 IR (e6 h.h64 (PDE.n (pfB 0 T.cl_Reader T.naR_at (pv 0))) (PDE.n (bq rfl T.b_len (PDE.n (pfB 0 T.cl_Reader T.naR_text (pv 0)))))) (dN (D8 (iz (e7 1 (i_ 0 T.cl_Reader T.mt_q0 (D6 T) h (T.F 32012).bd (pv 0) (aP (aq (ar 1)) bX)))) (Bv (i:=1) (Hk 0 T.cl_Reader T.mt_q0 (kN T) h (T.F 32012).bd (pv 0) (aP (aq (ar 1)) bX)))))) (b7 (lq (gO (prB 0 T.cl_Reader T.naR_hung (pv 0))) (dN (kq (k:=0) rfl (jY 0) rfl T.mx_BadText (T.xi 0))) fZ) (dN (lq (e6 h.h64 (PDE.n (lR rfl T.b_len (prB 0 T.cl_Reader T.naR_closed (pv 0)))) (PDE.n (lR rfl T.b_len (prB 0 T.cl_Reader T.naR_begun (pv 0))))) (dN (kq (k:=0) rfl (jY 0) rfl T.mx_BadText (T.xi 0))) fZ)))))
def je(C:Addr):DF->Option RES:=
  (bO (chD leA ltI (cI 0) (am 0) (d2 oK (cI 10) (cI 30))))
def dI(C:Addr):List DV->Option DV:=mOf 1 1 (je C)
def nL(T:Txt K mg t):Ok P t.w K mg base t 19 1 dI:=
 (T.F 19).okI ["kind"] λh=>(ai (a9 (qX (PDE.n af) (br 0) (PDE.n (qN (PDE.r af) (PDE.r af))))))
def tE(C:Addr):DF->Option RES:=
  (ag (aT 2 (hV (chD leA ltI (cI 0) (d2 ixD (aj 0) (cI 0)) (am 1)) (chD leA ltI (cI 0) (d2 ixD (aj 0) (cI 1)) (am 1))))
  (bO (hV (getV 2) (hV (d2 neD (d2 ixD (aj 0) (cI 0)) (d2 ixD (aj 0) (cI 1))) (cq (dI C) (aV (d2 ixD (aj 0) (cI 2)) nA))))))
def gr(C:Addr):List DV->Option DV:=mOf 3 2 (tE C)
def xt(T:Txt K mg t):Ok P t.w K mg base t 20 2 gr:=
 (T.F 20).okI ["tie","size","places_fit"] λh=>(ac (cJ 2 (eZ (qX (PDE.n af) (PDE.n (bH (aE 0) (PDE.r af))) (br 1)) (gk (qX (PDE.n af) (PDE.n (bH (aE 0) (PDE.r af))) (br 1))))) (ai (a9 (eZ (ar 2) (eZ (zU h.h64 (PDE.n (bH (aE 0) (PDE.r af))) (PDE.n (bH (aE 0) (PDE.r af)))) (gk (pcI (nL T) (T.G 19) h (cg (bH (aE 0) (PDE.r af)) bi))))))))
abbrev Ha:List Str:=["kinds","ties","kind","tie"]
def GS(C:Addr):DF->Option RES:=
  (ag (dIf (di (asB (chD leA leA (cI 1) (d1 aQ (am 0)) (cI 7)))) cC dNx)
  (ag (dIf (asB (d2 gtI (d1 aQ (am 1)) (cI 12))) cC dNx)
  (ag (jD (iL 0) (setV 2) (dIf (di (asB (cq (bV C) (aV (getV 2) nA)))) cC dNx))
  (jD (iL 1) (setV 3) (dIf (di (asB (cq (gr C) (aB 3 (aV (d1 aQ (am 0)) nA))))) cC dNx)))))
def yF(C:Addr):List DV->Option DV:=mOf 4 2 (GS C)
def Gj(T:Txt K mg t):Ok P t.w K mg base t 21 3 yF:=
 (T.F 21).okI Ha λh=>(ac (bt (bU (l8 (PDE.n af) (PDE.n (bq rfl T.b_len (br 0))) (PDE.n (g9 rfl T.c_MOST_PLACES)))) (ai b6) aJ) (ac (bt (lm (PDE.r (bq rfl T.b_len (br 1))) (PDE.r (g9 rfl T.c_MOST_TIES))) (ai b6) aJ) (ac (pfI (uB 0) (lI 2) (ai (bt (bU (ce (pcI (gF T) (T.G 18) h (cg (ar 2) bi)))) (ai b6) aJ))) (ai (pfI (uB 1) (lI 3) (ai (bt (bU (ce (pcI (xt T) (T.G 20) h (nP 3 (cg (bq rfl T.b_len (br 0)) bi))))) (ai b6) aJ)))))))
def cx(C:Addr):List DV->Option Nat:=rzX 4 2 (cN (xIf (di (asB (chD leA leA (cI 1) (d1 aQ (am 0)) (cI 7)))) (xEx 1) xNx)
  (cN (xIf (asB (d2 gtI (d1 aQ (am 1)) (cI 12))) (xEx 1) xNx)
  (λ_=>none)))
def kG(T:Txt K mg t):FnOk P t.w K mg base (CXc P t.w t.cl) 3 (fA 21) (dA 21) (bQ (top 21)) (og K t.cl (cx t.C)):=
 (T.F 21).thrI Ha λh=>(b7 (lq (bU (l8 (PDE.n af) (PDE.n (bq rfl T.b_len (br 0))) (PDE.n (g9 rfl T.c_MOST_PLACES)))) (dN (kq (k:=1) rfl (jY 1) rfl T.mx_TooGreat (T.xi 1))) fZ) (b7 (lq (lm (PDE.r (bq rfl T.b_len (br 1))) (PDE.r (g9 rfl T.c_MOST_TIES))) (dN (kq (k:=1) rfl (jY 1) rfl T.mx_TooGreat (T.xi 1))) fZ) oZ))
def iO(C:Addr):DF->Option RES:=
  (ag (dIf (orT (asB (d2 ixD (aj 0) (cI 3))) (asB (d2 ltd (d2 ixD (aj 0) (cI 0)) (d2 ixD (aj 0) (cI 1))))) (bO (getV 0)) dNx)
  (bO (asT (al (d2 ixD (aj 0) (cI 1)) (al (d2 ixD (aj 0) (cI 0)) (al (d2 ixD (aj 0) (cI 2)) (al (d2 ixD (aj 0) (cI 3)) bp)))))))
def de(C:Addr):List DV->Option DV:=mOf 1 1 (iO C)
def lD(T:Txt K mg t):Ok P t.w K mg base t 22 1 de:=
 (T.F 22).okI ["tie"] λh=>(ac (bt (PDW.t (gi (ce (bH (aE 0) (PDE.r af))) (gT (e6 h.h64 (PDE.n (bH (aE 0) (PDE.r af))) (PDE.n (bH (aE 0) (PDE.r af))))))) (ai (a9 (ar 0))) aJ) (ai (a9 (cM (ak (bH (aE 0) (PDE.r af)) (ak (bH (aE 0) (PDE.r af)) (ak (bH (aE 0) (PDE.r af)) (ak (bH (aE 0) (PDE.r af)) aL))))))))
def m7(C:Addr):DF->Option RES:=
  (v8 0 (getV 1) (d1 zS (asO (asL (oV (d2 ap (lP (aj 0) (getV 1) (asT bp)) (asT (al (getV 2) bp))))))))
def dX(C:Addr):OD->List DV->Option (OD×D):=uj 3 3 (m7 C)
def lu(T:Txt K mg t):FnOk P t.w K mg base CX0 1 (fA 23) (dA 23) (bQ (top 23)) (spM K (dX t.C)):=
 (T.F 23).okJ ["joins","ends","pair"] λh=>(ai (B4 0 h.h64 (pv 0) (ar 1) (Ad rfl T.b_tuple (PDE.r (PDO.v (jt h.h64 rfl T.b_sorted (PDE.r (aD (PDE.r (yL h.h64 (aE 0) (ar 1) (cM aL))) (PDE.r (cM (ak (ar 2) aL)))))))))))
def nG(C:Addr):DF->Option RES:=
  (ag (dC 1 (λ_=>some (.dT [])))
  (ag (jD (iL 0) (jZ [2,3,4,5]) (ag (iG K0 1 (dX C) (aV (asT (al (getV 2) (al (getV 3) bp))) (aV (asT (al (getV 4) (al (ifV (asB (getV 5)) (cI 1) (cI 0)) bp))) nA)))
  (iG K0 1 (dX C) (aV (asT (al (getV 3) (al (getV 2) bp))) (aV (asT (al (getV 4) (al (ifV (asB (getV 5)) (cI 2) (cI 0)) bp))) nA)))))
  (tJ 1)))
def fC(C:Addr):List DV->Option DV:=mOf 6 1 (nG C)
def tP(T:Txt K mg t):Ok P t.w K mg base t 24 2 fC:=
 (T.F 24).okI ["ties","joins","one","other","kind","oneway"] λh=>(ac (oA 1 wJ) (ac (pfI (uB 0) (jX (is:=[2,3,4,5]) rfl (cA (pgI 2) (cA (pgI 3) (cA (pgI 4) (cA (pgI 5) j9))))) (ac (sP 1 (lu T) (h.mono (by decide)) rfl (T.G 23).2 (T.F 23).fn.kp (T.F 23).bd (pv 1) (cg (cM (ak (ar 2) (ak (ar 3) aL))) (cg (cM (ak (ar 4) (ak (Af (ce (ar 5)) af af) aL))) bi))) (ai (sP 1 (lu T) (h.mono (by decide)) rfl (T.G 23).2 (T.F 23).fn.kp (T.F 23).bd (pv 1) (cg (cM (ak (ar 3) (ak (ar 2) aL))) (cg (cM (ak (ar 4) (ak (Af (ce (ar 5)) af af) aL))) bi)))))) (ai (v7 1 (pv 1)))))
abbrev Go:List Str:=["self","kinds","ties"]
def GW(C:Addr):DF->Option RES:=
  (ag (wj (cq (yF C) (aB 1 (aB 2 nA))))
  (ag (o_ C 0 "kinds" (asO (asL (jz (aj 1)))))
  (ag (o_ C 0 "ties" (asO (asL (oV (asO (asL (fJ 1 [] (iL 2) (setV 0) iI (cq (de C) (aV (getV 0) nA)))))))))
  (o_ C 0 "joins" (cq (fC C) (aV (d1 (dq C "ties") (aj 0)) nA))))))
def tW(C:Addr):OD->List DV->Option (OD×D):=uj 3 3 (GW C)
def F8(T:Txt K mg t):FnOk P t.w K mg base CX0 4 (fA 25000) (dA 25000) (bQ (top 25000)) (spM K (tW t.C)):=
 (T.F 25000).okJ Go λh=>(ac (B6 (pcI (Gj T) (T.G 21) h (nP 1 (nP 2 bi)))) (ac (qz 0 T.cl T.na_kinds (pv 0) (PDO.v (kB rfl T.b_list (aE 1)))) (ac (qz 0 T.cl T.na_ties (pv 0) (PDO.v (jt h.h64 rfl T.b_sorted (PDE.r (PDO.v (wR ["tie"] 1 [] [0] (uB 2) (lI 0) pk (pcI (lD T) (T.G 22) h (cg (ar 0) bi)))))))) (ai (qz 0 T.cl T.na_joins (pv 0) (pcI (tP T) (T.G 24) h (cg (fE T.cl T.na_ties (aE 0)) bi)))))))
def dt(C:Addr):List DV->Option Nat:=rzX 3 3 (cN (r8 (aB 1 (aB 2 nA)) (cx C))
  (λ_=>none))
def oO(T:Txt K mg t):FnOk P t.w K mg base (CXc P t.w t.cl) 4 (fA 25000) (dA 25000) (bQ (top 25000)) (og K t.cl (dt t.C)):=
 (T.F 25000).thrI Go λh=>(b7 (C2 (kG T) (h.mono (by decide)) rfl (T.G 21).2 (T.F 21).fn.kp (T.F 21).bd (nP 1 (nP 2 bi))) oZ)
abbrev Gz:List Str:=["text","reader"]
def H0(C:Addr):DF->Option RES:=
  (ag (dC 1 (pP aa (bj C) (aV (getV 0) nA)))
  (ag (bG (cD aa "read_all" 1 (aO C) g0))
  (tT 1 (ll (oW C (tW C) (aV (d1 (dq aa "kinds") (getV 1)) (aV (d1 (dq aa "ties") (getV 1)) nA)))))))
def Ct(C:Addr):List DV->Option DV:=mOf 2 1 (H0 C)
def Hu(T:Txt K mg t):Ok P t.w K mg base t 33 10 Ct:=
 (T.F 33).okI Gz λh=>(ac (oA 1 (pR T.mk_Reader (ij T) (h.mono (by decide)) rfl T.mg_Reader (T.F 32000).bd (cg (ar 0) bi))) (ac (dM (mK 1 T.cl_Reader T.mt_q1 (DK T) h (T.F 32013).bd (pv 1))) (ai (qw 1 (rf (zL T.mkC (F8 T) (h.mono (by decide)) rfl T.mgC (T.F 25000).bd (cg (fE T.cl_Reader T.naR_kinds (PDE.r (ar 1))) (cg (fE T.cl_Reader T.naR_ties (PDE.r (ar 1))) bi))))))))
def cB(C:Addr):List DV->Option Nat:=rzX 2 1 (cN (xOf (dC 1 (pP aa (bj C) (aV (getV 0) nA))))
  (cN (xOr (xOf (bG (cD aa "read_all" 1 (aO C) g0))) (xRz (lJ aa "read_all" 1 (bA C) da)))
  (zo 1 (nK C (aV (d1 (dq aa "kinds") (getV 1)) (aV (d1 (dq aa "ties") (getV 1)) nA)) (dt C)))))
def rm(T:Txt K mg t):FnOk P t.w K mg base (CXc P t.w t.cl) 10 (fA 33) (dA 33) (bQ (top 33)) (og K t.cl (cB t.C)):=
 (T.F 33).thrI Gz λh=>(b7 (iz (oA 1 (pR T.mk_Reader (ij T) (h.mono (by decide)) rfl T.mg_Reader (T.F 32000).bd (cg (ar 0) bi)))) (b7 (D8 (iz (dM (mK 1 T.cl_Reader T.mt_q1 (DK T) h (T.F 32013).bd (pv 1)))) (AT (EJ 1 T.cl_Reader T.mt_q1 (i9 T) h (T.F 32013).bd (pv 1)))) (dN (Eo 1 (u6 T.mkC (oO T) (h.mono (by decide)) rfl T.mgC (T.F 25000).bd (cg (fE T.cl_Reader T.naR_kinds (PDE.r (ar 1))) (cg (fE T.cl_Reader T.naR_ties (PDE.r (ar 1))) bi)))))))
def gK(C:Addr):DF->Option RES:=
  (ag (aT 1 (λ_=>some .non))
  (ag (vn (λa=>((aV (getV 0) nA) a).bind (cB C)) (cl2 aX aM) 2 1)
  (bO (getV 1))))
def ee(C:Addr):List DV->Option DV:=mOf 3 1 (gK C)
def oE(T:Txt K mg t):Ok P t.w K mg base t 49 11 ee:=
 (T.F 49).okI ["_law_text_here","_law_caught_here","error"] λh=>(ac (cJ 1 Es) (ac (Bu (ie:=2) (ic:=1) (cl:=t.cl) (wP (λ_ _ z=>z) (rm T) (h.mono (by decide)) rfl (T.G 33).2 (T.F 33).fn.kp (T.F 33).bd (cg (ar 0) bi)) rfl rfl rfl T.mx_WebError T.xm ndI rfl rfl (by decide) (λa o=>BG ndI rfl rfl rfl rfl)) (ai (a9 (ar 1)))))
def yS(C:Addr):DF->Option RES:=
  (ag (vy [1,2] (cq (g8 C) (aV (getV 0) nA)))
  (ag (dC 3 (nh (db C) (aV (d2 ap (aj 0) (asO (asL (al (cI 2) bp)))) nA)))
  (ag (dC 4 (asL (jz (d2 fG (aj 2) (λ_=>some (.str "kinds"))))))
  (ag (dC 5 (asL (jz (d2 fG (aj 2) (λ_=>some (.str "ties"))))))
  (ag (aY 1 (ay (dw C) (aN (ah (getV 0)) (az 3 (aN (ah (getV 1)) (az 4 (az 5 bJ)))))))
  (ag (aY 6 (x2 eqD (x2 aA (ay (au C) (aN (ah (getV 0)) (az 3 bJ))) (ah (cI 5))) (ah (cI 1))))
  (ag (dIf (cR (di (asB (getV 6))) (cR (asB (d2 ltd (d1 aQ (am 4)) (cI 8))) (asB (d2 ltd (d1 aQ (am 5)) (cI 13))))) (bO (cq (du C) (aV (cq (Ct C) (aV (getV 1) nA)) (aB 4 (aB 5 nA))))) dNx)
  (ag (aT 7 (cq (ee C) (aV (d2 ap (aj 1) (d2 ge (λ_=>some (.str ")")) (d1 oN (am 6)))) nA)))
  (ag (dIf (orT (di (asB (d1 (isE (fX aX aM true true)) (am 7)))) (di (asB (d1 (isE (fX aX aM true true)) (am 7))))) (bO (λ_=>some (.bl false))) dNx)
  (ag (dIf (asB (d1 (isE (fX aX aM false false)) (am 7))) (bO (λ_=>some (.bl false))) dNx)
  (bO (hV (d2 eqD (d1 (isE (fX aX aM true false)) (am 7)) (am 6)) (d2 neD (d1 (isE (fX aX aM false true)) (am 7)) (am 6))))))))))))))
def DN(C:Addr):List DV->Option DV:=mOf 8 1 (yS C)
theorem EA(T:Txt K mg t):Ok P t.w K mg base t 50 12 DN:=
 (T.F 50).okI ["_law_script","_law_text_here","_law_state","_law_at","_law_kinds","_law_ties","_law_bad","_law_caught_here"] λh=>(ac (CH (jX (is:=[1,2]) rfl (cA (pgI 1) (cA (pgI 2) j9))) (pcI (sJ T) (T.G 42) h (cg (ar 0) bi))) (ac (oA 3 (poI (jL T) (T.G 35) h (cg (aD (aE 0) (PDE.r (PDO.v (bZ (ak af aL))))) bi))) (ac (oA 4 (kB rfl T.b_list (PDE.r (ki h.h64 (aE 2) aG)))) (ac (oA 5 (kB rfl T.b_list (PDE.r (ki h.h64 (aE 2) aG)))) (ac (e7 1 (pxc (qW T) (T.G 48) h (aZ (aq (ar 0)) (aK 3 (pv 3) (aZ (aq (ar 1)) (aK 4 (pv 4) (aK 5 (pv 5) bK))))))) (ac (e7 6 (Gf h.h64 (kD (pxc (bR T) (T.G 36) h (aZ (aq (ar 0)) (aK 3 (pv 3) bK))) (aq af)) (aq af))) (ac (bt (PDW.t (eQ (bU (ce (ar 6))) (eQ (e6 h.h64 (PDE.n (bq rfl T.b_len (br 4))) (PDE.n af)) (eD (e6 h.h64 (PDE.n (bq rfl T.b_len (br 5))) (PDE.n af)))))) (ai (a9 (pcI (ol T) (T.G 46) h (cg (pcI (Hu T) (T.G 33) h (cg (ar 1) bi)) (nP 4 (nP 5 bi)))))) aJ) (ac (cJ 7 (pcI (oE T) (T.G 49) h (cg (aD (aE 1) (PDE.r (j8 (PDE.r aG) (PDE.r (rG rfl T.b_int (br 6)))))) bi))) (ac (bt (PDW.t (gi (bU (ce (Bg (sY ⟨T.exC 0,T.k3 0⟩ ⟨T.exC 1,T.k3 1⟩) rfl T.b_isinstance rfl T.b_ValueError (br 7)))) (gT (bU (ce (uf (sY ⟨T.exC 0,T.k5 0⟩ ⟨T.exC 1,T.k5 1⟩) rfl T.b_isinstance rfl T.mx_WebError (br 7))))))) (ai (a9 jF)) aJ) (ac (bt (ce (CW (cs:=[t.x_BadName,t.x_BadOrder,t.x_BadPlace,t.x_BadRule,t.x_BadTie,t.x_NoWay,t.x_NoWeb,t.x_TooMany,t.x_Twice].map .ref) (cvs:=[t.x_BadName,t.x_BadOrder,t.x_BadPlace,t.x_BadRule,t.x_BadTie,t.x_NoWay,t.x_NoWeb,t.x_TooMany,t.x_Twice].map .ref) (sY ⟨T.exC 0,T.k4 0⟩ ⟨T.exC 1,T.k4 1⟩) (o9 _) (show 9<=sizeLine from by decide) (ke rfl T.mx_BadName (ke rfl T.mx_BadOrder (ke rfl T.mx_BadPlace (ke rfl T.mx_BadRule (ke rfl T.mx_BadTie (ke rfl T.mx_NoWay (ke rfl T.mx_NoWeb (ke rfl T.mx_TooMany (ke rfl T.mx_Twice GK))))))))) rfl T.b_isinstance (br 7))) (ai (a9 jF)) aJ) (ai (a9 (eZ (o4 h.h64 (PDE.n (uf (sY ⟨T.exC 0,T.k0 0⟩ ⟨T.exC 1,T.k0 1⟩) rfl T.b_isinstance rfl T.mx_BadText (br 7))) (br 6)) (gk (zU h.h64 (PDE.n (uf (sY ⟨T.exC 0,T.k1 0⟩ ⟨T.exC 1,T.k1 1⟩) rfl T.b_isinstance rfl T.mx_TooGreat (br 7))) (br 6))))))))))))))))
end
theorem l6{st:Dq}{body:Dw}(I:Nat->DF->Prop):∀(ds:List D) (k:Nat) (ρ:DF),I k ρ->
  (∀j d ρ,ds[j]?=some d->I (k+j) ρ->∃a,st d ρ=some a/\∃ρ',body a=some (.nx ρ')/\I (k+j+1) ρ')->∃ρ',c7 st body ds ρ=some (.nx ρ')/\I (k+ds.length) ρ'
 |[],k,ρ,h,_=>⟨ρ,rfl,h⟩
 |d::ds,k,ρ,h,hs=>by
  obtain⟨a,o,ρ',m,i⟩:=hs 0 d ρ rfl h;obtain⟨b,l,g⟩:=l6 I ds (k+1) ρ' i λj p c e f=>by
   have:=hs (j+1) p c (by simpa using e) (by rw[<-ZL,Zj];exact f)
   rwa [show k+(j+1)+1=k+1+j+1 by omega]at this
  refine⟨b,?_,by rw[Yh,show k+(ds.length+1)=k+1+ds.length by omega];exact g⟩;unfold c7;rw[o];simp only[m];exact l
def t9{st:Dq}{body:Dw}(I:DF->Prop)(h:I ρ)
  (b:∀d∈ds,∀ρ,I ρ->∃a,st d ρ=some a/\∃ρ',body a=some (.nx ρ')/\I ρ'):∃ρ',c7 st body ds ρ=some (.nx ρ')/\I ρ':=
 l6 (λ_=>I) ds 0 ρ h λj d ρ c e=>b d (Zo c) ρ e
theorem gI{st:Dq}{e:Dd}{b:Type}(f:b->D)(F:b->D):∀xs:List b,(∀x∈xs,∃a,st (f x) ρ=some a/\c a=some true/\e a=some (F x))->fK st c e ρ (xs.map f)=some (xs.map F)
 |[],_=>rfl
 |x::xs,h=>by
  obtain⟨a,l,j,i⟩:=h x Yf;rw[YC];unfold fK;rw[l,Ya,j,Ya,Yi rfl,i,Ya,gI f F xs λy g=>h y (Ye _ g)];rfl
theorem oT{st:Dq}{e:Dd}{b:Type}(f:b->D)(G:b->Prop):∀ds:List D,(∀d∈ds,∃a,st d ρ=some a/\c a=some true/\∃y,e a=some (f y)/\G y)->∃ys:List b,fK st c e ρ ds=some (ys.map f)/\ys.length=ds.length/\∀y∈ys,G y
 |[],_=>⟨[],rfl,rfl,λ_ h=>by cases h⟩
 |x::xs,h=>by
  obtain⟨a,p,o,y,m,l⟩:=h x Yf;obtain⟨ys,i,g,q⟩:=oT f G xs λy j=>h y (Ye _ j)
  refine⟨y::ys,?_,by simp[g],λz hz=>?_⟩
  ·unfold fK;rw[p,Ya,o,Ya,Yi rfl,m,Ya,i];rfl
  ·rcases YB.mp hz with rfl|hz
   ·exact l
   ·exact q z hz
def lV(i j:Int):eqd (.int i) (.int j)=decide (i=j):=by
 have h:=dm (.int i) (.int j) rfl;by_cases e:i=j
 ·rw[YA e,h,e]
 ·rw[Yn e];cases q:eqd (.int i) (.int j)with
  |false=>rfl
  |true=>exact absurd (by simpa using h.mp q) e
def Fg(i j:Bool):eqd (.bl i) (.bl j)=decide (i=j):=by
 have h:=dm (.bl i) (.bl j) rfl;by_cases e:i=j
 ·rw[YA e,h,e]
 ·rw[Yn e];cases q:eqd (.bl i) (.bl j)with
  |false=>rfl
  |true=>exact absurd (by simpa using h.mp q) e
@[simp] theorem d_(i j:Int):eqD (.int i) (.int j)=some (.bl (decide (i=j))):=by unfold eqD;rw[lV];rfl
@[simp] theorem IA(i j:Bool):eqD (.bl i) (.bl j)=some (.bl (decide (i=j))):=by unfold eqD;rw[Fg];rfl
@[simp] theorem HD(i j:Int):neD (.int i) (.int j)=some (.bl (!decide (i=j))):=by unfold neD;rw[lV];rfl
@[simp] theorem vX(i j:Int):ltd (.int i) (.int j)=some (.bl (decide (i<j))):=rfl
@[simp] theorem HI(i j:Int):gtI (.int i) (.int j)=some (.bl (decide (j<i))):=rfl
@[simp] theorem BR(i j:Int):leA (.int i) (.int j)=some (.bl (decide (i<=j))):=rfl
@[simp] theorem HJ(i j:Int):ltI (.int i) (.int j)=some (.bl (decide (i<j))):=rfl
@[simp] theorem t5(i j:Int):ap (.int i) (.int j)=some (.int (i+j)):=rfl
@[simp] theorem Gq(i j:Int):jA (.int i) (.int j)=some (.int (i-j)):=rfl
def gE(i j:Int)(h:(-(2^64)<i/\i<2^64)\/(-(2^64)<j/\j<2^64)):e_ (.int i) (.int j)=some (.int (i*j)):=Yi (YA h)
def aU(i j:Int)(h:0<j):aA (.int i) (.int j)=some (.int (i%j)):=Yi (YA h)
def b5(i j:Int)(h:0<j/\j<1073741824):bu (.int i) (.int j)=some (.int (i/j)):=Yi (YA h)
@[simp] theorem HM:oK (.int 10) (.int 30)=some (.int 1000000000000000000000000000000):=rfl
section
variable{f:Dd}  {fl:Dl}{fv:Dv}{c':Dk}{h:Dw}   
@[simp] theorem l0:ag g h ρ=match g ρ with|some (.nx ρ')=>h ρ'|r=>r:=rfl
@[simp] theorem bf:aT i f ρ=(f ρ).map λd=>.nx (ρ.set i (some (.v d))):=rfl
@[simp] theorem fB:dC i fo ρ=(fo ρ).map λo=>.nx (ρ.set i (some (.own o none))):=rfl
@[simp] theorem fg:bO f ρ=(f ρ).map λd=>.rt (.v d) ρ:=rfl
@[simp] theorem tm:ll fo ρ=(fo ρ).map λo=>.rt (.own o none) ρ:=rfl
@[simp] theorem F0:tJ i ρ=match ρ[i]? with|some (some x)=>some (.rt x ρ)|_=>none:=rfl
@[simp] theorem cu:dIf c g h ρ=(c ρ).bind λb=>if b=true then g ρ else h ρ:=rfl
@[simp] theorem IY:dNx ρ=some (.nx ρ):=rfl
@[simp] theorem Hx:wj f ρ=(f ρ).map λ_=>.nx ρ:=rfl
@[simp] theorem b8{F:D->Option D}:d1 F fa ρ=(fa ρ).bind F:=rfl
@[simp] theorem ao{F:Dy}:d2 F fa fb ρ=(fa ρ).bind λx=>(fb ρ).bind λy=>F x y:=rfl
@[simp] theorem HK:getV i ρ=match ρ[i]? with|some (some (.v d))=>some d|_=>none:=rfl
@[simp] theorem vY:aj i ρ=match ρ[i]? with|some (some (.v d))=>some d|some (some (.own o _))=>if o.flat=true then some o.d else none|some (some (.bor o))=>if o.flat=true then some o.d else none|_=>none:=rfl
@[simp] theorem vN:am i ρ=match ρ[i]? with|some (some (.v d))=>some d|some (some (.own o _))=>some o.d|some (some (.bor o))=>some o.d|_=>none:=rfl
@[simp] theorem Hw:aB i fv ρ=match ρ[i]? with|some (some (.own o _))=>(fv ρ).map λxs=>.bor o::xs|some (some (.bor o))=>(fv ρ).map λxs=>.bor o::xs|some (some (.v d))=>(fv ρ).map λxs=>.v d::xs|_=>none:=rfl
@[simp] theorem lC:aV f fv ρ=(f ρ).bind λd=>(fv ρ).map λxs=>.v d::xs:=rfl
@[simp] theorem kA:cq m fv ρ=(fv ρ).bind λxs=>(m xs).bind dvD:=rfl
@[simp] theorem s_:nh m fv ρ=(fv ρ).bind λxs=>(m xs).bind dvO:=rfl
@[simp] theorem bL:asB f ρ=match f ρ with|some (.bl b)=>some b|_=>none:=rfl
@[simp] theorem jp:asL fl ρ=(fl ρ).map .lst:=rfl
@[simp] theorem rg:asO fo ρ=(fo ρ).map OD.d:=rfl
@[simp] theorem IE:asT fl ρ=(fl ρ).map .tup:=rfl
@[simp] theorem tf:al f fl ρ=(f ρ).bind λd=>(fl ρ).map λr=>d::r:=rfl
@[simp] theorem Cb:bp ρ=some []:=rfl
@[simp] theorem vA:di c ρ=(c ρ).map λb=>!b:=rfl
@[simp] theorem HE:iI ρ=some true:=rfl
@[simp] theorem HL{d:D}:setV i d ρ=some (ρ.set i (some (.v d))):=rfl
@[simp] theorem HX:ifV c f fa ρ=(c ρ).bind λb=>if b=true then f ρ else fa ρ:=rfl
@[simp] theorem kZ:jz f ρ=(f ρ).bind eN:=rfl
def ni:oV f ρ=(f ρ).bind λd=>(eN d).bind λds=>if eh ds=true then some (eX ds)else none:=rfl
def fT{it:Dl}{st:Dq}:jD it st g ρ=(it ρ).bind λds=>c7 st g ds ρ:=rfl
@[simp] theorem HG:tT i g ρ=match ρ[i]? with|some (some (.own o none))=>g (ρ.set i (some (.v o.d)))|some (some (.v d))=>g ρ|_=>none:=rfl
def gG{own:Nat}{it:Dl}{st:Dq}{e:Dd}:fJ own ix it st c e ρ=(it ρ).bind λds=>if ds.length<=16777216 then fK st c e (i6 own ix ρ) ds else none:=rfl
@[simp] theorem fU:cR c c' ρ=(c ρ).bind λb=>if b=true then c' ρ else some false:=rfl
@[simp] theorem zc:orT c c' ρ=(c ρ).bind λb=>if b=true then some true else c' ρ:=rfl
@[simp] theorem vt:hV f fa ρ=match f ρ with|some (.bl true)=>fa ρ|some (.bl false)=>some (.bl false)|_=>none:=rfl
@[simp] theorem FJ:orV f fa ρ=match f ρ with|some (.bl false)=>fa ρ|some (.bl true)=>some (.bl true)|_=>none:=rfl
@[simp] theorem HH:x_ f ρ=match f ρ with|some (.bl b)=>some (.bl (!b))|_=>none:=rfl
@[simp] theorem zV{F G:Dy}:chD F G fa fb fc ρ=(fa ρ).bind λx=>(fb ρ).bind λy=>match F x y with|some (.bl true)=>(fc ρ).bind λz=>G y z|some (.bl false)=>some (.bl false)|_=>none:=rfl
@[simp] theorem mF:k_ f ρ=match f ρ with|some (.lst ds)=>some ds|_=>none:=rfl
@[simp] theorem G0:iL i ρ=match ρ[i]? with|some (some (.bor (.lst ds)))=>some ds|some (some (.v (.lst ds)))=>some ds|_=>none:=rfl
def wt:nt f ρ=match f ρ with|some (.int j)=>if -(2^62)<=j/\j<2^62 then some (g_ 0 j.toNat)else none|_=>none:=rfl
@[simp] theorem pZ{b a:DF->Option (Option Int)}:slS f b a ρ=match f ρ with|some (.str x)=>if x.length<=16777216 then(b ρ).bind λl=>(a ρ).map λh=>.str (Txt.slice x l h)else none|_=>none:=rfl
@[simp] theorem vD:iu i f ρ=match ρ[i]? with|some (some (.own (.lst ds) t))=>(f ρ).bind λd=>if ds.length<16777216 then some (.nx (ρ.set i (some (.own (.lst (ds++[d])) t))))else none|_=>none:=rfl
@[simp] theorem zY:vy is f ρ=(f ρ).bind λd=>(jZ is d ρ).map .nx:=rfl
@[simp] theorem oQ:bI f ρ=match f ρ with|some (.int i)=>some (some i)|_=>none:=rfl
@[simp] theorem HY:bNo ρ=some none:=rfl
end
@[simp] theorem Js:(OD.lst ds).d=.lst ds:=rfl
@[simp] theorem Jg{ds:List (List Key×D)}:(OD.dT ds).d=.dT ds:=rfl
@[simp] theorem Jp{ds:List (Key×D)}:(OD.dK ds).d=.dK ds:=rfl
@[simp] theorem Jr{ds:List (Str×D)}:(OD.ins C ds).d=.ins C ds:=rfl
@[simp] theorem Jj:(OD.lst ds).flat=true:=rfl
@[simp] theorem Ji{ds:List (List Key×D)}:(OD.dT ds).flat=true:=rfl
@[simp] theorem Jf{ds:List (Key×D)}:(OD.dK ds).flat=true:=rfl
@[simp] theorem Jm{ds:List (Str×D)}:(OD.ins C ds).flat=true:=rfl
@[simp] theorem Jo{d:D}:dvD (.v d)=some d:=rfl
@[simp] theorem Jb{o:OD}{t:Option Addr}:dvD (.own o t)=some o.d:=rfl
@[simp] theorem Jd{o:OD}{t:Option Addr}:dvO (.own o t)=some o:=rfl
@[simp] theorem Jk{x:DV} :dW (some (.rt x ρ))=some x:=rfl
@[simp] theorem Jn:dW (some (.nx ρ))=some (.v .non):=rfl
@[simp] theorem Jl{d:D}:xD (some (.v d))=some (.v d):=rfl
@[simp] theorem Je{o:OD}{t:Option Addr}:xD (some (.own o t))=some (.bor o):=rfl
@[simp] theorem Jh{o:OD}:xD (some (.bor o))=some (.bor o):=rfl
@[simp] theorem HF{own:Nat}  :i6 own ix ρ=List.replicate own none++ix.map λj=>xD (ρ[j]?).join:=rfl
@[simp] theorem IN:eN (.lst ds)=some ds:=rfl
@[simp] theorem fF:eN (.tup ds)=some ds:=rfl
@[simp] theorem Jc:aQ (.lst ds)=some (.int ds.length):=rfl
@[simp] theorem Jq:aQ (.tup ds)=some (.int ds.length):=rfl
def ix1{i:Int}:ixD (.lst ds) (.int i)=atI ds i:=rfl
def ix2{i:Int}:ixD (.tup ds) (.int i)=atI ds i:=rfl
@[simp] theorem Ie{n p:Nat}  :mOf n p g xs=if xs.length=p then dW (g (bB n p xs))else none:=rfl
@[simp] theorem FZ{n p:Nat} :bB n p xs=xs.map some++List.replicate (n-p) none:=rfl
def Ic{x:Int}(h:0<=x/\x<3):x=0\/x=1\/x=2:=by
 obtain⟨m,rfl⟩:=Int.eq_ofNat_of_zero_le h.1;have a:∀m:Fin 3,((m:Nat):Int)=0\/((m:Nat):Int)=1\/((m:Nat):Int)=2:=by decide
 exact a ⟨m,Int.ofNat_lt.mp h.2⟩
def CP(s:Int):s%3=0\/s%3=1\/s%3=2:=Ic ⟨Xg s (by decide),ZM s (by decide)⟩
def okW(x:Str):Prop:=1<=x.cps.size/\x.cps.size<=3/\∀c∈x.cps.toList,97<=c/\c<=122
abbrev abc:Str := "abcdefghijklmnopqrstuvwxyz"
theorem uQ(i:Int):∃c:Nat,ixD (.str abc) (.int (i%26))=some (.str ⟨#[c]⟩)/\97<=c/\c<=122:=by
 have h:∀j:Fin 26,∃c:Fin 123,ixD (.str abc) (.int (j:Nat))=some (.str ⟨#[(c:Nat)]⟩)/\97<=(c:Nat):=by
  intro j;refine⟨⟨97+j,by omega⟩,?_,by simp⟩;revert j;have:∀j:Fin 26,(atI abc.cps.toList ((j:Nat):Int))=some (97+(j:Nat)):=by decide+kernel
  intro j;show(if abc.length<=16777216 then(atI abc.cps.toList ((j:Nat):Int)).map λc=>D.str ⟨#[c]⟩else none)=_;rw[this j];rfl
 have f:0<=i%26:=Xg _ (by decide);have e:i%26<26:=ZM _ (by decide);obtain⟨c,b,a⟩:=h ⟨(i%26).toNat,by omega⟩;refine⟨c,?_,a,by omega⟩;rw[<-b]
 congr 2
 simp only;omega
def ff(n:Int):List Int:=(List.range n.toNat).map λi:Nat=>(i:Int)
def dJ(n:Int):(ff n).length=n.toNat:=by simp[ff]
def pj(n:Int):g_ 0 n.toNat=(ff n).map D.int:=by unfold g_ ff;simp
def dP(p:Int×Int):D:=.tup [.int p.1,.int p.2]
def Ho{n:Nat}{a:DV}:mOf n 1 g [a]=dW (g (bB n 1 [a])):=rfl
def G2{n:Nat}{a b:DV}:mOf n 2 g [a,b]=dW (g (bB n 2 [a,b])):=rfl
def CQ{n:Int}{d:D}(h:((ff n).map D.int)[j]?=some d):d=.int (j:Int):=by
 unfold ff at h;rw[YG,YG]at h;cases q:(List.range n.toNat)[j]? with
 |none=>rw[q]at h;cases h
 |some k=>
  rw[q]at h;obtain⟨b,a⟩:=YI.mp q;rw[List.getElem_range]at a;subst a;cases h;rfl
abbrev T4:=Int×Int×Int×Bool
def dT4(t:T4):D:=.tup [.int t.1,.int t.2.1,.int t.2.2.1,.bl t.2.2.2]
def okT(n:Int)(t:T4):Prop:=0<=t.1/\t.1<n/\0<=t.2.1/\t.2.1<n/\t.1≠t.2.1/\0<=t.2.2.1/\t.2.2.1<1000000000000000000000000000000
def yj{a:Type}{l:List a}{i:Int}(h0:0<=i)(h1:i<l.length):atI l i=l[i.toNat]?:=by unfold atI ixN;rw[Yi h0,Yi h1];rfl
theorem vk{a b:Type}{l:List a}(f:a->b){i:Int}(h0:0<=i)(h1:i<l.length):∃x,l[i.toNat]?=some x/\atI (l.map f) i=some (f x):=by
 have h:i.toNat<l.length:=by omega
 refine⟨l[i.toNat],Yz h,?_⟩;rw[yj h0 (by rw[Yc];exact h1),YG,Yz h];rfl
theorem lM{f:Dd}{n:Int}(h:f ρ=some (.int n))(b:0<=n/\n<=1000):nt f ρ=some ((ff n).map .int):=by
 have a:-(2^62)<=n/\n<2^62:=by omega
 rw[wt,h];simp only;rw[Yi a,pj]
def ae{h:Dw}(e:g ρ=some (.nx ρ')):ag g h ρ=h ρ':=by rw[l0,e]
def dO{h:Dw}{x:DV}(e:g ρ=some (.rt x ρ')):ag g h ρ=some (.rt x ρ'):=by rw[l0,e]
def lf(t:T4):T4:=if t.2.2.2=true\/t.1<t.2.1 then t else(t.2.1,t.1,t.2.2.1,t.2.2.2)
def oU(b:List T4)(h:b.length<64):eh (b.map dT4)=true:=by
 unfold eh;simp only[Ys,YE,YH,Yc];refine⟨⟨⟨⟨h,?_⟩,?_⟩,?_⟩,?_⟩
 ·intro x a;obtain⟨t,_,rfl⟩:=Yt.mp a;rfl
 ·intro x a y c;obtain⟨t,_,rfl⟩:=Yt.mp a;obtain⟨u,_,rfl⟩:=Yt.mp c;rfl
 ·intro x a;obtain⟨t,_,rfl⟩:=Yt.mp a;rfl
 ·intro x a;obtain⟨t,_,rfl⟩:=Yt.mp a;rfl
def Bd(a:List T4):Cmps 28 (a.map dT4):=
 ⟨λx h=>by obtain⟨t,_,rfl⟩:=Yt.mp h;rfl,λx h y b=>by obtain⟨t,_,rfl⟩:=Yt.mp h;obtain⟨u,_,rfl⟩:=Yt.mp b;rfl⟩
def jP{b:Type}(f:b->D)(g:D->b)(e:∀a,g (f a)=a){l:List D}{c:List b}(h:l.Perm (c.map f)):∃us:List b,l=us.map f/\us.Perm c:=by
 refine⟨l.map g,?_,?_⟩
 ·rw[Zl]
  conv=>lhs;rw[<-List.map_id l]
  refine List.map_congr_left λx i=>?_;obtain⟨t,_,rfl⟩:=Yt.mp (h.mem_iff.mp i);show _=f (g (f t));rw[e];rfl
 ·have:=h.map g;rw[Zl,show g ∘ f=id from funext e,List.map_id]at this;exact this
def IV:D->T4
 |.tup [.int a,.int b,.int k,.bl o]=>(a,b,k,o)
 |_=>(0,0,0,false)
def qO(a:List T4):∃us:List T4,eX (a.map dT4)=us.map dT4/\us.Perm a:=jP dT4 IV (λ_=>rfl) (eJ _)
def zb{κ:Type}[DecidableEq κ](k:κ)(v:D)(kvs:List (κ×D)):(ir kvs k v).length<=kvs.length+1:=by
 unfold ir;split
 ·simp
 ·simp
def okK(n:Int)(ks:List Str):Prop:=(ks.length:Int)=n/\∀k∈ks,okW k
def okS(n:Int)(a:List T4):Prop:=a.length<=12/\∀t∈a,okT n t
def xx{f g:Dd} :nQ i f g ρ=match ρ[i]? with
 |some (some (.own (.lst ds) t))=>(g ρ).bind λd=>(f ρ).bind λ
  |.int k=>(ixN ds.length k).map λj=>.nx (ρ.set i (some (.own (.lst (ds.set j d)) t)))
  |_=>none
 |_=>none:=rfl
def qQ{it:Dl}{st:Dq}{r:RES}(h:it ρ=some ds)(e:c7 st g ds ρ=some r):jD it st g ρ=some r:=by rw[fT,h];exact e
theorem jN(C:Addr)(x:Str)(h:okW x):bV C [.v (.str x)]=some (.v (.bl true)):=by
 obtain⟨w,u,g⟩:=h;have p:fK (setV 0) iI (chD leA leA (λ_=>some (.str "a")) (am 0) (λ_=>some (.str "z"))) [none] (L2.signs x)=some (x.cps.toList.map λ_=>D.bl true):=by
  unfold L2.signs;refine gI (λc=>D.str ⟨#[c]⟩) (λ_=>D.bl true) _ λc f=>?_;obtain⟨z,y⟩:=g c f;refine⟨[some (.v (.str ⟨#[c]⟩))],rfl,rfl,?_⟩;have e:leA (.str "a") (.str ⟨#[c]⟩)=some (.bl true):=by
   show some (D.bl (!decide ([c] < [97])))=_;have:¬([c] < [97]):=λh=>by rcases List.cons_lt_cons_iff.mp h with h|⟨_,h⟩;omega;exact absurd h (List.not_lt_nil _)
   rw[Yn this];rfl
  have l:leA (.str ⟨#[c]⟩) (.str "z")=some (.bl true):=by
   show some (D.bl (!decide ([122] < [c])))=_;have:¬([122] < [c]):=λh=>by rcases List.cons_lt_cons_iff.mp h with h|⟨_,h⟩;omega;exact absurd h (List.not_lt_nil _)
   rw[Yn this];rfl
  simp[e,l]
 have b:(L2.signs x).length<=16777216:=by unfold L2.signs;rw[Yc,Zy];omega
 have o:xo (.lst (x.cps.toList.map λ_=>D.bl true))=some (.bl true):=by
  have s:((x.cps.toList.map λ_=>D.bl true).all p_)=true:=by simp[p_]
  have q:((x.cps.toList.map λ_=>D.bl true).all trD)=true:=by simp[trD]
  show(if((x.cps.toList.map λ_=>D.bl true).all p_)=true then some (D.bl ((x.cps.toList.map λ_=>D.bl true).all trD))else none)=_;rw[Yi s,q]
 have m:aQ (.str x)=some (.int (x.cps.size:Int)):=Yi (show x.cps.size<=16777216 by omega);have a:fJ 1 [] (t8 (getV 0)) (setV 0) iI (chD leA leA (λ_=>some (.str "a")) (am 0) (λ_=>some (.str "z"))) [some (.v (.str x)),none]=some (x.cps.toList.map λ_=>D.bl true):=by have:t8 (getV 0) [some (.v (.str x)),none]=some (L2.signs x):=rfl;rw[gG,this,Ya,Yi b];exact p
 unfold bV im;have j:(1:Int)<=(x.cps.size:Int):=by omega
 have i:(x.cps.size:Int)<=3:=by omega
 generalize (chD leA leA (λ_=>some (.str "a")) (am 0) (λ_=>some (.str "z")))=E at a ⊢;generalize (x.cps.toList.map λ_=>D.bl true)=L at *;simp[a,o,m,j,i]
def E1(C:Addr)(t:T4)(n:Int)(h:okT n t):gr C [.v (dT4 t),.v (.int n)]=some (.v (.bl true)):=by
 obtain⟨a,b,k,o⟩:=t;obtain⟨l,j,g,b1,i,e,c⟩:=h;simp only at l j g b1 i e c;have q:atI [D.int a,.int b,.int k,.bl o] 0=some (.int a):=rfl;have p:atI [D.int a,.int b,.int k,.bl o] 1=some (.int b):=rfl;have m:atI [D.int a,.int b,.int k,.bl o] 2=some (.int k):=rfl;have f:dI C [.v (.int k)]=some (.v (.bl true)):=by simp[dI,je,e,c]
 unfold gr tE;generalize dI C=M at f ⊢;simp[dT4,ix2,q,p,m,l,j,g,b1,i,f]
theorem xu(C:Addr)(ks:List Str)(a:List T4)(n:Int)(g:1<=n/\n<=7)(i:okK n ks)(f:okS n a):yF C [.v (.lst (ks.map .str)),.v (.lst (a.map dT4))]=some (.v .non):=by
 have l:=jN C;have j:∀t,okT n t->gr C [.v (dT4 t),.v (.int n)]=some (.v (.bl true)):=λt h=>E1 C t n h
 unfold yF GS;generalize bV C=P at l ⊢;generalize gr C=T at j ⊢;have c:(ks.length:Int)=n:=i.1;have p:1<=n:=g.1;have o:n<=7:=g.2;have m:¬(12:Int)<(a.length:Int):=by have:=f.1;omega
 have q:∀G,(ag (dIf (di (asB (chD leA leA (cI 1) (d1 aQ (am 0)) (cI 7)))) cC dNx) (ag (dIf (asB (d2 gtI (d1 aQ (am 1)) (cI 12))) cC dNx) G)) (bB 4 2 [.v (.lst (ks.map .str)),.v (.lst (a.map dT4))])=G [some (.v (.lst (ks.map .str))),some (.v (.lst (a.map dT4))),none,none]:=by intro G;simp[c,p,o,m]
 obtain⟨w,u,y,rfl⟩:=t9 (st:=setV 2) (body:=(dIf (di (asB (cq P (aV (getV 2) nA)))) cC dNx)) (λρ=>∃x2,ρ=[some (.v (.lst (ks.map .str))),some (.v (.lst (a.map dT4))),x2,none]) (ds:=ks.map .str) (ρ:=[some (.v (.lst (ks.map .str))),some (.v (.lst (a.map dT4))),none,none]) ⟨_,rfl⟩ (by
  rintro d e _ ⟨x2,rfl⟩;obtain⟨k,b,rfl⟩:=Yt.mp e;have:=l k (i.2 k b);refine⟨[some (.v (.lst (ks.map .str))),some (.v (.lst (a.map dT4))),some (.v (.str k)),none],rfl,[some (.v (.lst (ks.map .str))),some (.v (.lst (a.map dT4))),some (.v (.str k)),none],?_,_,rfl⟩;simp[this])
 obtain⟨z,s,A,rfl⟩:=t9 (st:=setV 3) (body:=(dIf (di (asB (cq T (aB 3 (aV (d1 aQ (am 0)) nA))))) cC dNx)) (λρ=>∃x,ρ=[some (.v (.lst (ks.map .str))),some (.v (.lst (a.map dT4))),y,x]) (ds:=a.map dT4) (ρ:=[some (.v (.lst (ks.map .str))),some (.v (.lst (a.map dT4))),y,none]) ⟨_,rfl⟩ (by
  rintro d e _ ⟨x2,rfl⟩;obtain⟨k,b,rfl⟩:=Yt.mp e;have:=j k (f.2 k b);refine⟨[some (.v (.lst (ks.map .str))),some (.v (.lst (a.map dT4))),y,some (.v (dT4 k))],rfl,[some (.v (.lst (ks.map .str))),some (.v (.lst (a.map dT4))),y,some (.v (dT4 k))],?_,_,rfl⟩;simp[c,this])
 rw[G2,q,ae (qQ (ds:=ks.map D.str) rfl u),qQ (ds:=a.map dT4) rfl s];rfl
def xa(C:Addr)(t:T4):de C [.v (dT4 t)]=some (.v (dT4 (lf t))):=by
 obtain⟨a,b,k,o⟩:=t;have g:atI [D.int a,.int b,.int k,.bl o] 0=some (.int a):=rfl;have f:atI [D.int a,.int b,.int k,.bl o] 1=some (.int b):=rfl;have c:atI [D.int a,.int b,.int k,.bl o] 2=some (.int k):=rfl;have e:atI [D.int a,.int b,.int k,.bl o] 3=some (.bl o):=rfl;unfold de iO;cases o with
 |true=>simp[dT4,ix2,g,f,c,e,lf]
 |false=>
  by_cases h:a<b
  ·simp[dT4,ix2,g,f,c,e,lf,h]
  ·simp[dT4,ix2,g,f,c,e,lf,h]
def okJ(m:Nat)(kvs:List (List Key×D)):Prop:=kvs.length<=m/\∀kv∈kvs,∃p:List (Int×Int),kv.2=.tup (p.map dP)/\p.length<=m
def zh(b:List (Int×Int))(h:b.length<64):eh (b.map dP)=true:=by
 unfold eh;simp only[Ys,YE,YH,Yc];refine⟨⟨⟨⟨h,?_⟩,?_⟩,?_⟩,?_⟩
 ·intro x a;obtain⟨t,_,rfl⟩:=Yt.mp a;rfl
 ·intro x a y c;obtain⟨t,_,rfl⟩:=Yt.mp a;obtain⟨u,_,rfl⟩:=Yt.mp c;rfl
 ·intro x a;obtain⟨t,_,rfl⟩:=Yt.mp a;rfl
 ·intro x a;obtain⟨t,_,rfl⟩:=Yt.mp a;rfl
def unP:D->Int×Int
 |.tup [.int a,.int b]=>(a,b)
 |_=>(0,0)
def zP{κ:Type}[DecidableEq κ]{kvs:List (κ×D)}{k:κ}{d:D}(h:dn kvs k=some d):∃a∈kvs,a.2=d:=by
 unfold dn at h;cases q:kvs.find? λa=>decide (a.1=k)with
 |none=>rw[q]at h;cases h
 |some a=>rw[q]at h;cases h;exact⟨a,List.mem_of_find?_eq_some q,rfl⟩
theorem Br{m:Nat}{kvs:List (List Key×D)}(h:okJ m kvs)(k:List Key)(us:List (Int×Int))(c:us.length<=m+1):okJ (m+1) (ir kvs k (.tup (us.map dP))):=by
 refine⟨YQ (zb ..) (Xq h.1),λf a=>?_⟩;unfold ir at a;split at a
 ·obtain⟨b,h1,rfl⟩:=Yt.mp a;split
  ·exact⟨us,rfl,c⟩
  ·obtain⟨p,e,l⟩:=h.2 b h1;exact⟨p,e,by omega⟩
 ·rcases Yj.mp a with h1|h1
  ·obtain⟨p,e,l⟩:=h.2 f h1;exact⟨p,e,by omega⟩
  ·rw[Yl.mp h1];exact⟨us,rfl,c⟩
def zE{fk:Dd} :v8 j fk fv ρ=match ρ[j]? with
 |some (some (.own (.dT kvs) t))=>(fv ρ).bind λv=>(fk ρ).bind λy=>(tU y).bind λk=>if kvs.length<16777216 then some (.nx (ρ.set j (some (.own (.dT (ir kvs k v)) t))))else none
 |_=>none:=rfl
def vh{fd fk:Dd} :lP fd fk fx ρ=match fd ρ with
 |some (.dT kvs)=>(fk ρ).bind λy=>(tU y).bind λk=>(fx ρ).map λx=>(dn kvs k).getD x
 |_=>none:=rfl
theorem EX(C:Addr)(m:Nat)(kvs:List (List Key×D))(a b k f:Int)(H:m<=50)(h:okJ m kvs):∃c,dX C (.dT kvs) [.v (.tup [.int a,.int b]),.v (.tup [.int k,.int f])]=some (.dT c,.non)/\okJ (m+1) c:=by
 have w:∃p:List (Int×Int),(dn kvs [.inl a,.inl b]).getD (.tup [])=.tup (p.map dP)/\p.length<=m:=by
  cases q:dn kvs [.inl a,.inl b]with
  |none=>exact⟨[],rfl,YS _⟩
  |some d=>
   obtain⟨s,i,e⟩:=zP q;obtain⟨p,A,l⟩:=h.2 s i;exact⟨p,e.symm.trans A,l⟩
 obtain⟨p,x,E⟩:=w;obtain⟨u,z,o⟩:=jP dP unP (λ_=>rfl) (eJ ((p++[(k,f)]).map dP));have y:ap (.tup (p.map dP)) (.tup [.tup [.int k,.int f]])=some (.tup ((p++[(k,f)]).map dP)):=by rw[Yw];exact Yi (by rw[Yc];show p.length+1<=_;omega)
 have g:=zh (p++[(k,f)]) (by rw[Yb,ZK];omega);refine⟨ir kvs [.inl a,.inl b] (.tup (u.map dP)),wd rfl rfl λB=>⟨.nx [some (.own (.dT (ir kvs [.inl a,.inl b] (.tup (u.map dP)))) (some B)),some (.v (.tup [.int a,.int b])),some (.v (.tup [.int k,.int f]))],?_,rfl,rfl⟩,Br h _ u (by rw[o.length_eq,Yb,ZK];omega)⟩;have j:kvs.length<16777216:=by have:=h.1;omega
 generalize (p++[(k,f)]).map dP=L,p.map dP=I at *;unfold m7;simp[zE,vh,tU,jq,kW,x,y,ni,g,z,zS,j]
theorem Ar(C:Addr)(c:List T4)(O:c.length<=12):∃kvs,fC C [.v (.lst (c.map dT4))]=some (.own (.dT kvs) none):=by
 have s:∀(m:Nat) (kvs:List (List Key×D)) (a b k f:Int),m<=50->okJ m kvs->∃i,dX C (.dT kvs) [.v (.tup [.int a,.int b]),.v (.tup [.int k,.int f])]=some (.dT i,.non)/\okJ (m+1) i:=EX C;unfold fC nG;generalize dX C=M at s ⊢;obtain⟨z,e,kvs,N,L,K,J,rfl,y⟩:=l6 (st:=jZ [2,3,4,5]) (body:=(ag (iG K0 1 M (aV (asT (al (getV 2) (al (getV 3) bp))) (aV (asT (al (getV 4) (al (ifV (asB (getV 5)) (cI 1) (cI 0)) bp))) nA)))
  (iG K0 1 M (aV (asT (al (getV 3) (al (getV 2) bp))) (aV (asT (al (getV 4) (al (ifV (asB (getV 5)) (cI 2) (cI 0)) bp))) nA)))))
  (λj B=>∃(kvs:List (List Key×D)) (x2 w u x:Option DV),B=[some (.v (.lst (c.map dT4))),some (.own (.dT kvs) none),x2,w,u,x]/\okJ (2*j) kvs) (c.map dT4) 0
  [some (.v (.lst (c.map dT4))),some (.own (.dT []) none),none,none,none,none] ⟨[],_,_,_,_,rfl,Yy _,λ_ h=>by cases h⟩ (by
   rintro j d _ A ⟨kvs,x2,w,u,x,rfl,y⟩;have H:j<c.length:=by have:=(YI.mp A).1;rwa [Yc]at this
   obtain⟨⟨a,b,k,o⟩,_,rfl⟩:=Yt.mp (Zo A);obtain⟨l,q,I⟩:=s (2*(0+j)) kvs a b k (if o=true then 1 else 0) (by omega) y;obtain⟨g,p,P⟩:=s (2*(0+j)+1) l b a k (if o=true then 2 else 0) (by omega) I;refine⟨[some (.v (.lst (c.map dT4))),some (.own (.dT kvs) none),some (.v (.int a)),some (.v (.int b)),some (.v (.int k)),some (.v (.bl o))],rfl,[some (.v (.lst (c.map dT4))),some (.own (.dT g) none),some (.v (.int a)),some (.v (.int b)),some (.v (.int k)),some (.v (.bl o))],?_,g,_,_,_,_,rfl,by rwa [show 2*(0+j+1)=2*(0+j)+1+1 by omega]⟩;cases o with
   |true=>
    simp only[if_true]at q p;simp[iG,rA,pW,q,p]
   |false=>
    simp at q p;simp[iG,rA,pW,q,p])
 refine⟨kvs,?_⟩;rw[Ho];have E:dC 1 (λ_=>some (.dT [])) (bB 6 1 [.v (.lst (c.map dT4))])=some (.nx [some (.v (.lst (c.map dT4))),some (.own (.dT []) none),none,none,none,none]):=rfl;rw[ae E,ae (qQ (ds:=c.map dT4) rfl e)];rfl
def wFs(ks:List Str)(T J:D):List (Str×D):=[("kinds",.lst (ks.map .str)),("ties",T),("joins",J)]
theorem n1:¬(("kinds":Str) = "ties"):=by decide+kernel
theorem n2:¬(("kinds":Str) = "joins"):=by decide+kernel
theorem n3:¬(("ties":Str) = "joins"):=by decide+kernel
theorem b1:(("ties":Str) == "kinds")=false:=by decide+kernel
theorem b2:(("size":Str) == "kinds")=false:=by decide+kernel
theorem b3:(("size":Str) == "ties")=false:=by decide+kernel
theorem b4:(("size":Str) == "joins")=false:=by decide+kernel
def qo{fs:List (Str×D)}{n:Str}:dq C n (.ins C fs)=fs.lookup n:=Yi rfl
def xM(C:Addr)(ks:List Str)(T J:D):dq C "kinds" (.ins C (wFs ks T J))=some (.lst (ks.map .str)):=by rw[qo];unfold wFs;simp
def AE(C:Addr)(ks:List Str)(T J:D):dq C "ties" (.ins C (wFs ks T J))=some T:=by rw[qo];unfold wFs;simp[List.lookup,b1]
def A_{n:Str}  :o_ C i n fv ρ=match ρ[i]? with
 |some (some (.own (.ins C' fs) t))=>if C'=C then(fv ρ).bind λd=>if fs.length<1000 then some (.nx (ρ.set i (some (.own (.ins C (mE n d fs)) t))))else none else none
 |_=>none:=rfl
def srt(ts:List T4):List D:=eX ((ts.map lf).map dT4)
theorem Cs(C:Addr)(ks:List Str)(a:List T4)(n:Int)(q:1<=n/\n<=7)(s:okK n ks)(h:okS n a):∃J,tW C (.ins C []) [.v (.lst (ks.map .str)),.v (.lst (a.map dT4))]=some (.ins C (wFs ks (.lst (srt a)) J),.non):=by
 have g:=xu C ks a n q s h;have i:=xa C;obtain⟨u,l,o⟩:=qO (a.map lf);obtain⟨b,j⟩:=Ar C u (by rw[o.length_eq,Yc];exact h.1);have e:=oU (a.map lf) (by rw[Yc];have:=h.1;omega);refine⟨.dT b,wd rfl rfl λy=>⟨.nx [some (.own (.ins C (wFs ks (.lst (srt a)) (.dT b))) (some y)),some (.v (.lst (ks.map .str))),some (.v (.lst (a.map dT4)))],?_,rfl,rfl⟩⟩;unfold GW;generalize yF C=R at g ⊢;generalize de C=L at i ⊢;generalize fC C=J at j ⊢;have c:srt a=u.map dT4:=l;rw[c];have m:fK (setV 0) iI (cq L (aV (getV 0) nA)) [none] (a.map dT4)=some ((a.map lf).map dT4):=by
  rw[Zl];refine gI dT4 _ a λt _=>⟨[some (.v (dT4 t))],rfl,rfl,?_⟩
  simp[i]
 have p:a.length<=16777216:=by have:=h.1;omega
 generalize (cq L (aV (getV 0) nA))=E at m ⊢;generalize (a.map lf).map dT4=X at *;have w:∀fs:List (Str×D),dq C "ties" (.ins C [("kinds",.lst (ks.map .str)),("ties",.lst (u.map dT4))])=some (.lst (u.map dT4)):=by intro _;rw[qo];simp[List.lookup,b1]
 have f:=w [];generalize u.map dT4=Y,hX:a.map dT4=Z at *;have x:Z.length<=16777216:=by rw[<-hX,Yc];exact p
 simp[g,A_,mE,ni,gG,x,m,e,l,f,j,n1,n2,n3,wFs]
def Bi(C:Addr)(ks:List Str)(a:List T4)(n:Int)(c:1<=n/\n<=7)(f:okK n ks)(b:okS n a):∃J,∀(g:Dv) (ρ:DF),g ρ=some [.v (.lst (ks.map .str)),.v (.lst (a.map dT4))]->oW C (tW C) g ρ=some (.ins C (wFs ks (.lst (srt a)) J)):=by obtain⟨J,e⟩:=Cs C ks a n c f b;refine⟨J,λg ρ h=>?_⟩;unfold oW;rw[h,Ya,e];rfl
theorem nN{c:Type}(f:c->D)(h:∀x y,aH (f x) (f y)=true):∀a b:List c,bY (a.map f) (b.map f)=true
 |[],_=>rfl
 |_::_,[]=>rfl
 |x::a,y::b=>by
  rw[YC,YC];show(aH (f x) (f y)&&bY (a.map f) (b.map f))=true;rw[nN f h a b,h];rfl
def A8{b:Type}(f:b->D)(h:∀x y,aH (f x) (f y)=true)(a:List b):eqd (.lst (a.map f)) (.lst (a.map f))=true:=(mR _ _ (nN f h a a)).mpr rfl
theorem DR{n:Int}{ks:List Str}(h:okK n ks):okN 30 (.lst (ks.map .str))=true:=by show(ks.map D.str).all (okN 29)=true;rw[YH];intro x a;obtain⟨k,b,rfl⟩:=Yt.mp a;show PyData.strOk k=true;unfold PyData.strOk;rw[<-Array.all_toList,YH];intro c e;have:=(h.2 k b).2.2 c e;exact YA (by omega)
def yW{x:D}(hx:okN 30 x=true)(h:okN 30 y=true):eqD x y=some (.bl (eqd x y)):=Yi (by rw[hx,h];rfl)
def As{x:D}(hx:okN 30 x=true)(h:okN 30 y=true):neD x y=some (.bl (!eqd x y)):=Yi (by rw[hx,h];rfl)
def yi(C:Addr)(i:Int):dY C [.v (.int i)]=some (.v (.bl true)):=rfl
def D0(t:T4):okN 30 (dT4 t)=true:=rfl
def GA(t:T4):eqD (dT4 t) (dT4 t)=some (.bl true):=by rw[yW (D0 t) (D0 t)];have h:eqd (dT4 t) (dT4 t)=true:=(dm _ _ rfl).mpr rfl;rw[h]
def Bt(a:List T4):(srt a).length=a.length:=by unfold srt;obtain⟨u,e,p⟩:=qO (a.map lf);rw[e,Yc,p.length_eq,Yc]
def Eu(a:List T4):∃us:List T4,srt a=us.map dT4/\us.Perm (a.map lf):=qO (a.map lf)
def wx{κ:Type}[DecidableEq κ]{a:List (κ×D)}{k:κ}{v:D}(h:∀p∈a,p.1≠k):ir a k v=a++[(k,v)]:=by unfold ir;rw[Yr];intro z;obtain⟨p,b,e⟩:=List.any_eq_true.mp z;exact h p b (YV e)
theorem pK{b c:Type}(f:b->c):∀(l:List b) (j:Nat),(l.eraseIdx j).map f=(l.map f).eraseIdx j
 |[],_=>rfl
 |_::_,0=>rfl
 |a::l,j+1=>YM (f a::·) (pK f l j)
def yu(a us:List T4)(p:(us.map lf).Perm (a.map lf)):srt us=srt a:=by unfold srt;exact uA (p.map dT4) (Bd _)
end My
namespace My
open PySem PySem.Spec PyProof.Rows L2 Builtin Builtin.Str
noncomputable def sT (l:List Nat):Str:=⟨l.toArray⟩
abbrev sI(i:Int):Option DV:=some (.v (.int i))
abbrev sS(l:List Nat):Option DV:=some (.v (.str (sT l)))
abbrev sV(d:D):Option DV:=some (.v d)
abbrev sO(o:OD)(t:Option Addr):Option DV:=some (.own o t)
def uI(a b:List Nat):sT a++sT b=sT (a++b):=by show Str.append _ _=_;unfold Str.append sT;rw[List.append_toArray]
def dH(a:List Nat):(sT a).length=a.length:=Yp
def Hz(x:Str):sT x.cps.toList=x:=rfl
def jx(a:List Nat):(sT a).cps.toList=a:=rfl
theorem Bh(a b n:Nat)(h:a<=n):strSliceIndices (some (a:Int)) (some (b:Int)) 1 n=strSliceIndices (some (a:Int)) (some ((min b n:Nat):Int)) 1 n:=by
 have e:¬((b:Int)<0):=by omega
 have c:¬(((min b n:Nat):Int)<0):=by omega
 have f:max (0:Int) (min ((min b n:Nat):Int) (n:Int))=max (0:Int) (min (b:Int) (n:Int)):=by omega
 simp only[strSliceIndices,e,c,if_false,f,show((1:Int) > 0)=True from by simp,if_true]
theorem pr(l:List Nat)(a b:Nat)(m:a<=b)(o:a<=l.length):Txt.slice (sT l) (some (a:Int)) (some (b:Int))=sT ((l.drop a).take (b-a)):=by
 have c:a<=min b l.length:=by omega
 have g:min b l.length<=(sT l).length:=by rw[dH];omega
 have e:=StrLaws.sliced_plain (sT l) c g;have i:=StrLaws.strSliceIndices_plain c g;have p:=Bh a b l.length o;have j:(l.drop a).take (min b l.length-a)=(l.drop a).take (b-a):=by
  by_cases h:b<=l.length
  ·rw[Nat.min_eq_left h]
  ·rw[Nat.min_eq_right (by omega),Xz (by simp),Xz (by simp;omega)]
 unfold Txt.slice;rw[dH]at e i ⊢;rw[p];split
 ·rename_i f;rw[i]at f;simp at f;have:a=0:=by omega
  subst this;rw[List.drop_zero,Xz (by omega)]
 ·rw[e,jx,j];rfl
def AY(x y:Str):leA (.str x) (.str y)=some (.bl (!decide (y.cps.toList<x.cps.toList))):=rfl
theorem IF(a c:Nat):leA (.str (sT [a])) (.str (sT [c]))=some (.bl (decide (a<=c))):=by
 rw[AY,jx,jx,StrLaws.lt_cons_cons];refine YM (λb=>some (D.bl b)) ?_;by_cases h:a<=c
 ·rw[Yn (show ¬c<a by omega),StrLaws.lt_nil_nil,YA h,Bool.and_false];rfl
 ·rw[YA (show c<a by omega),Yn h];rfl
def IW(a:Nat):leA (.str (sT [a])) (.str (sT []))=some (.bl false):=by rw[AY,jx,jx,StrLaws.lt_nil_cons];rfl
def vx(x y:Str):eqd (.str x) (.str y)=decide (x=y):=by
 by_cases h:x=y
 ·rw[YA h,h];exact(dm _ _ rfl).mpr rfl
 ·rw[Yn h];cases e:eqd (.str x) (.str y)with
  |false=>rfl
  |true=>exact absurd (D.str.inj ((dm _ _ rfl).mp e)) h
def dig(m:Nat):List Nat:=(Nat.toDigits 10 m).map Char.toNat
def BD(m:Nat):(Str.ofString (toString ((m:Nat):Int)))=sT (dig m):=by rw[<-Hz (Str.ofString _),PySem.W.KIN.signs_num];rfl
def gN{m:Nat}(h:m<10):dig m=[m+48]:=by
 unfold dig;rw[Nat.toDigits_of_lt_base h];have:∀d:Nat,d<10->[(Nat.digitChar d).toNat]=[d+48]:=by decide
 exact this m h
theorem qR{m:Nat}(h:10<=m):dig m=dig (m/10)++[m%10+48]:=by have a:m%10<10:=Nat.mod_lt m (by decide);have t:Nat.toDigits 10 (m/10)++Nat.toDigits 10 (m%10)=Nat.toDigits 10 (10*(m/10)+m%10):=Nat.toDigits_append_toDigits (by decide) (by omega) a;rw[Nat.div_add_mod]at t;rw[<-gN a];unfold dig;rw[<-Yw,t]
theorem lX{P:Nat->Prop}(h0:∀m,m<10->P m)(h1:∀m,10<=m->P (m/10)->P m)(m:Nat):P m:=by
 induction m using Nat.strongRecOn with
 |_ m ih=>
  by_cases h:m<10
  ·exact h0 m h
  ·exact h1 m (by omega) (ih (m/10) (by omega))
theorem qA(m:Nat):∀c∈dig m,48<=c/\c<=57:=lX (P:=λm=>∀c∈dig m,48<=c/\c<=57) (λm h c hc=>by
 rw[gN h,Yl]at hc;omega) (λm h ih c hc=>by
 rw[qR h,Yj,Yl]at hc;rcases hc with hc|hc
 ·exact ih c hc
 ·omega) m
def uX(m:Nat):dig m≠[]:=lX (P:=λm=>dig m≠[]) (λm h=>by rw[gN h];simp) (λm h _=>by rw[qR h];simp) m
def CG(m:Nat):PySem.NumText.digitsVal (dig m)=m:=PySem.W.KIN.val_back m
theorem f9(m:Nat):∀k,1<=k->m<10^k->(dig m).length<=k:=lX (P:=λm=>∀k,1<=k->m<10^k->(dig m).length<=k) (λm h k b _=>by rw[gN h];exact b) (λm h ih k b a=>by
 rw[qR h,Yb];obtain⟨j,rfl⟩:∃j,k=j+1:=⟨k-1,by omega⟩
 have hj:1<=j:=by
  rcases Nat.eq_zero_or_pos j with rfl|hj
  ·simp at a;omega
  ·exact hj
 have:=ih j hj (by rw[Nat.pow_succ]at a;omega);exact Xq this) m
theorem AH(m:Nat):m=0\/(dig m).head?≠some 48:=lX (P:=λm=>m=0\/(dig m).head?≠some 48) (λm h=>by
 rw[gN h];by_cases e:m=0
 ·exact .inl e
 ·exact .inr (by simp;omega)) (λm h ih=>by
 rw[qR h];refine .inr ?_;rcases ih with ih|ih
 ·omega
 ·have:=uX (m/10);rw[List.head?_append,show(dig (m/10)).head?.or [m%10+48].head?=(dig (m/10)).head? from by cases a:dig (m/10)with|nil=>exact absurd a this|cons x r=>rfl];exact ih) m
theorem BO(m:Nat)(h:m<10^30):intText? (sT (dig m))=some (m:Int):=by have a:=f9 m 30 (by decide) h;have:=PySem.intText_digits (x:=sT (dig m)) (qA m) (uX m) (by rw[dH];omega);rw[jx,CG]at this;exact this
end My
namespace My
open PySem PySem.Spec PyProof.Rows L2
def rdF(l:List Nat)(a:Nat)(K T G:List D)(B Q:List (Key×D)):List (Str×FO):=[("text",.d (.str (sT l))),("at",.d (.int (a:Int))),("kinds",.lst K),("ties",.lst T),("hung",.lst G),("begun",.dK B),("closed",.dK Q)]
def rd(l:List Nat)(a:Nat)(K T G:List D)(B Q:List (Key×D)):OD:=.obj (some aa) (rdF l a K T G B Q)
abbrev sgn(C:Addr):DF->Option D:=eY aa "sign" (bn C) (f8 (ik 0) g0)
section
variable  {a:Nat}{K G:List D}  {t:Option Addr}{σ:DF}
def wB:dR (some aa) 0 "text" (sO (rd l a K T G B Q) t::σ)=some (.str (sT l)):=by kernel_rfl
def Aj:dR (some aa) 0 "at" (sO (rd l a K T G B Q) t::σ)=some (.int (a:Int)):=by kernel_rfl
def z7:dR (some aa) 0 "text" (some (.bor (rd l a K T G B Q))::σ)=some (.str (sT l)):=by kernel_rfl
def zX:dR (some aa) 0 "at" (some (.bor (rd l a K T G B Q))::σ)=some (.int (a:Int)):=by kernel_rfl
def yB:aS (some aa) 0 "kinds" (sO (rd l a K T G B Q) t::σ)=some (.lst K):=by kernel_rfl
def jQ:aS (some aa) 0 "hung" (sO (rd l a K T G B Q) t::σ)=some (.lst G):=by kernel_rfl
def iR:aS (some aa) 0 "begun" (sO (rd l a K T G B Q) t::σ)=some (.dK B):=by kernel_rfl
def pd:aS (some aa) 0 "closed" (sO (rd l a K T G B Q) t::σ)=some (.dK Q):=by kernel_rfl
def rU:jh (some aa) 0 "at" (cI 1) (sO (rd l a K T G B Q) t::σ)=some (.nx (sO (rd l (a+1) K T G B Q) t::σ)):=by kernel_rfl
def kY{C:Option Addr}{fs:List (Str×FO)}{n:Str}{k:FO->Option FO}{o o':FO}(h1:fs.lookup n=some o)(h2:k o=some o')(h:fs.length<1000):eA C 0 n k (sO (.obj C fs) t::σ)=some (sO (.obj C (fD n o' fs)) t::σ):=by unfold eA;show(if C=C/\fs.length<1000 then _ else _)=_;rw[Yi ⟨rfl,h⟩,h1,Ya,h2];rfl
def CC{f:Dd}{d:D}(b:f (sO (rd l a K T G B Q) t::σ)=some d)(h:K.length<16777216):b9 (some aa) 0 "kinds" f (sO (rd l a K T G B Q) t::σ)=some (.nx (sO (rd l a (K++[d]) T G B Q) t::σ)):=by
 unfold b9;rw[b,Ya];refine(YM (Option.map RES.nx) (kY (C:=some aa) (t:=t) (σ:=σ) (fs:=rdF l a K T G B Q) (n := "kinds") (k:=n_ d) (o:=.lst K) (o':=.lst (K++[d])) (by kernel_rfl) (Yi h) (by show 7<1000;decide))).trans ?_
 kernel_rfl
def CA{f:Dd}{d:D}(b:f (sO (rd l a K T G B Q) t::σ)=some d)(h:G.length<16777216):b9 (some aa) 0 "hung" f (sO (rd l a K T G B Q) t::σ)=some (.nx (sO (rd l a K T (G++[d]) B Q) t::σ)):=by
 unfold b9;rw[b,Ya];refine(YM (Option.map RES.nx) (kY (C:=some aa) (t:=t) (σ:=σ) (fs:=rdF l a K T G B Q) (n := "hung") (k:=n_ d) (o:=.lst G) (o':=.lst (G++[d])) (by kernel_rfl) (Yi h) (by show 7<1000;decide))).trans ?_
 kernel_rfl
def FE{f:Dl}(b:f (sO (rd l a K T G B Q) t::σ)=some ds)(h:T.length+ds.length<=16777216):sx (some aa) 0 "ties" f (sO (rd l a K T G B Q) t::σ)=some (.nx (sO (rd l a K (T++ds) G B Q) t::σ)):=by
 unfold sx;rw[b,Ya];refine(YM (Option.map RES.nx) (kY (C:=some aa) (t:=t) (σ:=σ) (fs:=rdF l a K T G B Q) (n := "ties") (k:=Fy ds) (o:=.lst T) (o':=.lst (T++ds)) (by kernel_rfl) (Yi h) (by show 7<1000;decide))).trans ?_
 kernel_rfl
def BN{f g:Dd}{n:Int}{d:D}(e:f (sO (rd l a K T G B Q) t::σ)=some (.int n))(c:g (sO (rd l a K T G B Q) t::σ)=some d)(b:B.length<16777216)(h:∀p∈B,p.1≠.inl n):mC (some aa) 0 "begun" f g (sO (rd l a K T G B Q) t::σ)=some (.nx (sO (rd l a K T G (B++[(.inl n,d)]) Q) t::σ)):=by
 unfold mC;rw[c,Ya,e,Ya,<-wx h];refine(YM (Option.map RES.nx) (kY (C:=some aa) (t:=t) (σ:=σ) (fs:=rdF l a K T G B Q) (n := "begun") (k:=v5 (.int n) d) (o:=.dK B) (o':=.dK (ir B (.inl n) d)) (by kernel_rfl) (Yi b) (by show 7<1000;decide))).trans ?_
 kernel_rfl
def B8{f g:Dd}{n:Int}{d:D}(e:f (sO (rd l a K T G B Q) t::σ)=some (.int n))(c:g (sO (rd l a K T G B Q) t::σ)=some d)(b:Q.length<16777216)(h:∀p∈Q,p.1≠.inl n):mC (some aa) 0 "closed" f g (sO (rd l a K T G B Q) t::σ)=some (.nx (sO (rd l a K T G B (Q++[(.inl n,d)])) t::σ)):=by
 unfold mC;rw[c,Ya,e,Ya,<-wx h];refine(YM (Option.map RES.nx) (kY (C:=some aa) (t:=t) (σ:=σ) (fs:=rdF l a K T G B Q) (n := "closed") (k:=v5 (.int n) d) (o:=.dK Q) (o':=.dK (ir Q (.inl n) d)) (by kernel_rfl) (Yi b) (by show 7<1000;decide))).trans ?_
 kernel_rfl
def nT{m:Dz}{d:D}(b:(rdF l a K T G B Q).lookup mn=none)(h:m (rd l a K T G B Q) []=some (o',d)) :
  cD aa mn 0 m g0 (sO (rd l a K T G B Q) t::σ)=some (d,sO o' t::σ):=by
 show(if aa=aa/\List.lookup mn _=none then(g0 _).bind λx=>if pW x=true then(m (rd l a K T G B Q) x).map _ else none else none)=_;rw[Yi ⟨rfl,b⟩];show(if pW []=true then(m (rd l a K T G B Q) []).map _ else none)=_;rw[h];rfl
def eP{m:Dz}{o:OD}{d:D}{g:DXs}{σ':DF}(b:(rdF l a K T G B Q).lookup mn=none)
  (c:g (sO (rd l a K T G B Q) t::σ)=some (ds,sO o t::σ')) (h:m o (ds.map .v)=some (o',d)):bN aa mn 0 m g (sO (rd l a K T G B Q) t::σ)=some (d,sO o' t::σ'):=by
 unfold bN;show(if List.lookup mn _=none then _ else _)=_;rw[Yi b,c,Ya];show(m o (ds.map .v)).map _=_;rw[h];rfl
theorem jB(C:Addr){r:List Nat}(hd:l.drop a=r)(b:a<=l.length)(h:l.length<=16777216):sgn C (sO (rd l a K T G B Q) t::σ)=some (.str (sT (r.take 1))):=by
 have e:bn C [.bor (rd l a K T G B Q)]=sS (r.take 1):=by show dW (bO _ [some (.bor (rd l a K T G B Q))])=_;rw[fg,pZ,z7];show dW (Option.map _ (if(sT l).length<=16777216 then _ else none))=_;rw[dH,Yi h,oQ,zX,oQ,ao,zX];show some (DV.v (.str (Txt.slice (sT l) (some (a:Int)) (some ((a+1:Nat):Int)))))=_;rw[pr l a (a+1) (by omega) b,hd,Nat.add_sub_cancel_left]
 show(if sU aa "sign" [.bor (rd l a K T G B Q)]=true then(bn C [.bor (rd l a K T G B Q)]).bind dvD else none)=_;rw[Yi (by kernel_rfl),e];rfl
end
def eI{body:Dw}{k:Nat}(h:c ρ=some false):bv c body (k+1) ρ=some (.nx ρ):=by unfold bv;rw[h]
def fq{body:Dw}{k:Nat}(h:c ρ=some true)(a:body ρ=some (.nx ρ')):bv c body (k+1) ρ=bv c body k ρ':=by
 conv=>lhs;unfold bv
 rw[h,a]
def TOk(l:List Nat):Prop:=l.length<=16777216/\∀c∈l,c<128
theorem lL(h:∀c∈l,c<128):PyData.strOk (sT l)=true:=by unfold PyData.strOk;rw[<-Array.all_toList,YH];intro c a;have:=h c a;exact YA (by omega)
def uE{a b:List Nat}:sT a=sT b↔a=b:=⟨λh=>by have:=YM (λx:Str=>x.cps.toList) h;exact this,λh=>h ▸ rfl⟩
def Ek{a b:List Nat}(e:∀c∈a,c<128)(h:∀c∈b,c<128):eqD (.str (sT a)) (.str (sT b))=some (.bl (decide (a=b))):=by rw[yW (x:=.str (sT a)) (y:=.str (sT b)) (lL e) (lL h),vx];simp[uE]
def Ge{a b:List Nat}(e:∀c∈a,c<128)(h:∀c∈b,c<128):neD (.str (sT a)) (.str (sT b))=some (.bl (!decide (a=b))):=by rw[As (x:=.str (sT a)) (y:=.str (sT b)) (lL e) (lL h),vx];simp[uE]
def inR(lo hi:Nat):List Nat->Bool
 |c::_=>decide (lo<=c)&&decide (c<=hi)
 |[]=>false
def brk(lo hi:Nat)(r:List Nat):Prop:=∀c∈r.head?,¬(lo<=c/\c<=hi)
section
variable{r:List Nat}{a:Nat}{K G:List D}  {t:Option Addr}{σ:DF}
def cZ{w:List Nat}(h:l.drop a=w++r):l.drop (a+w.length)=r:=by rw[<-List.drop_drop,h,Vc]
theorem dQ{w:List Nat}(h:l.drop a=w++r)(b:a<=l.length):a+w.length<=l.length:=by have:=YM List.length h;rw[List.length_drop,Yb]at this;omega
def TOk.sub(h:TOk l)(hd:l.drop a=r):∀c∈r,c<128:=λc b=>h.2 c (List.mem_of_mem_drop (hd ▸ b))
def TOk.one(h:TOk l)(hd:l.drop a=r):∀c∈r.take 1,c<128:=λc b=>h.sub hd c (List.mem_of_mem_take b)
def HC(C:Addr)(b:TOk l)(e:a<=l.length)(hd:l.drop a=r):asB (chD leA leA (am 1) (sgn C) (am 2)) (sO (rd l a K T G B Q) t::sS [lo]::sS [hi]::σ)=some (inR lo hi r):=by
 rw[bL,zV,jB C hd e b.1];simp only[vN,Xx,ZW,Ya];cases r with
 |nil=>simp only[List.take_nil,IW];rfl
 |cons c r=>
  simp only[List.take_succ_cons,List.take_zero,IF];show _=some (decide (lo<=c)&&decide (c<=hi));by_cases h:lo<=c
  ·rw[YA h];rfl
  ·rw[Yn h];rfl
theorem w9(C:Addr)(g:TOk l)(j:brk lo hi r):∀(w:List Nat) (a n:Nat),a<=l.length->l.drop a=w++r->(∀c∈w,lo<=c/\c<=hi)->w.length<n->
  bv (asB (chD leA leA (am 1) (sgn C) (am 2))) (jh (some aa) 0 "at" (cI 1)) n (sO (rd l a K T G B Q) t::sS [lo]::sS [hi]::σ)=some (.nx (sO (rd l (a+w.length) K T G B Q) t::sS [lo]::sS [hi]::σ)):=by
 intro w;induction w with
 |nil=>
  intro a n e h _ b;obtain⟨n,rfl⟩:∃m,n=m+1:=⟨n-1,by simp at b;omega⟩
  refine eI ((HC C g e h).trans ?_);cases r with
  |nil=>rfl
  |cons c r=>
   have:=j c rfl;show some (decide (lo<=c)&&decide (c<=hi))=_;rw[<-Bool.decide_and,Yn this]
 |cons c w ih=>
  intro a n e h f b;obtain⟨n,rfl⟩:∃m,n=m+1:=⟨n-1,by simp at b;omega⟩
  have o:=f c Yf;have q:l.drop (a+1)=w++r:=cZ (w:=[c]) h;have p:a+1<=l.length:=dQ (w:=[c]) h e;rw[fq ((HC C g e h).trans (by show some (decide (lo<=c)&&decide (c<=hi))=some true;rw[<-Bool.decide_and,YA o])) rU,ih (a+1) n p q (λx i=>f x (Ye _ i)) (by simp at b;omega)];rw[Yh,show a+1+w.length=a+(w.length+1)by omega]
theorem sv(C:Addr){w:List Nat}(h:TOk l)(e:a<=l.length)(hd:l.drop a=w++r)(f:brk lo hi r)(hw:∀c∈w,lo<=c/\c<=hi)(g:w.length<5000) :
  cw C (rd l a K T G B Q) [.v (.str (sT [lo])),.v (.str (sT [hi]))]=some (rd l (a+w.length) K T G B Q,.str (sT w)):=cF rfl λb=>by
 refine⟨.rt (.v (.str (sT w))) [sO (rd l (a+w.length) K T G B Q) (some b),sS [lo],sS [hi],sI a],?_,rfl,rfl⟩;show ag (aT 3 _) (ag (bv _ _ 5000) _) [sO (rd l a K T G B Q) (some b),sS [lo],sS [hi],none]=_;rw[ae (ρ':=[sO (rd l a K T G B Q) (some b),sS [lo],sS [hi],sI a]) (by rw[bf,Aj];rfl),ae (w9 C h f w a 5000 e hd hw g),fg,pZ,wB];show Option.map _ (if(sT l).length<=16777216 then _ else none)=_;rw[dH,Yi h.1,oQ,oQ,Aj];show some (RES.rt (.v (.str (Txt.slice (sT l) (some (a:Int)) (some ((a+w.length:Nat):Int))))) _)=_;rw[pr l a (a+w.length) (by omega) e,hd,Nat.add_sub_cancel_left,List.take_left]
theorem lW(m:Nat):∀c∈dig m,c<128:=λc h=>by have:=qA m c h;omega
def s_0:("0":Str)=sT [48]:=by kernel_rfl
def s_9:("9":Str)=sT [57]:=by kernel_rfl
theorem zi(C:Addr)(m:Nat)(o:m<10^30):fM C [.v (.str (sT (dig m)))]=some (.v (.bl true)):=by
 have y:=f9 m 30 (by decide) o;have a:=uX m;have A:1<=(dig m).length:=XY.mpr a;have u:aQ (.str (sT (dig m)))=some (.int ((dig m).length:Int)):=by show(if(sT (dig m)).length<=16777216 then some (D.int (sT (dig m)).length)else none)=_;rw[dH,Yi (by omega)]
 have s:eqD (.str (sT (dig m))) (.str "0")=some (.bl (decide (dig m=[48]))):=by rw[s_0,Ek (lW m) (by decide)]
 obtain⟨c,w,b⟩:∃c w,dig m=c::w:=by
  cases e:dig m with
  |nil=>exact absurd e a
  |cons c w=>exact⟨c,w,rfl⟩
 have i:ixD (.str (sT (dig m))) (.int 0)=some (.str (sT [c])):=by show(if(sT (dig m)).length<=16777216 then(atI (sT (dig m)).cps.toList 0).map (λc=>D.str ⟨#[c]⟩)else none)=_;rw[dH,Yi (by omega),jx,b,yj (by decide) (by simp)];rfl
 have g:neD (.str (sT [c])) (.str "0")=some (.bl (!decide (c=48))):=by rw[s_0,Ge (by intro x f;exact lW m x (by rw[b];rw[Yl]at f;subst f;exact Yf)) (by decide)];simp
 show dW (bO (hV (chD leA leA (cI 1) (d1 aQ (am 0)) (cI 30)) (orV (d2 eqD (am 0) (λ_=>some (.str "0"))) (d2 neD (d2 ixD (aj 0) (cI 0)) (λ_=>some (.str "0"))))) [some (.v (.str (sT (dig m))))])=_;have l:(1:Int)<=((dig m).length:Int):=by omega
 have j:((dig m).length:Int)<=30:=by omega
 have p:dig m=[48]\/¬c=48:=by
  rcases AH m with h|h
  ·subst h;exact .inl (gN (by decide))
  ·exact .inr (λz=>h (by rw[b,z];rfl))
 generalize sT (dig m)=X at *;simp only[fg,vt,zV,b8,vN,ZW,Ya,u,BR,l,j,decide_true,FJ,ao,vY,s,i,g];rcases p with h|h
 ·simp[h]
 ·by_cases q:dig m=[48]
  ·simp[q]
  ·simp[q,h]
theorem pQ(C:Addr){m:Nat}(c:m<10^30)(f:TOk l)(g:a<=l.length)(hd:l.drop a=dig m++r)(e:brk 48 57 r):bP C (rd l a K T G B Q) []=some (rd l (a+(dig m).length) K T G B Q,.int (m:Int)):=cF rfl λb=>by
 have i:=f9 m 30 (by decide) c;refine⟨.rt (.v (.int (m:Int))) [sO (rd l (a+(dig m).length) K T G B Q) (some b),sS (dig m)],?_,rfl,rfl⟩;show ag (aY 1 _) (ag (dIf _ cC dNx) _) [sO (rd l a K T G B Q) (some b),none]=_;rw[ae (ρ':=[sO (rd l (a+(dig m).length) K T G B Q) (some b),sS (dig m)]) (by
  unfold aY;rw[eP (by kernel_rfl) (by rfl) (by
   show cw C _ [.v (.str "0"),.v (.str "9")]=_;rw[s_0,s_9];exact sv C f g hd e (qA m) (by omega))]
  rfl)]
 rw[ae (ρ':=[sO (rd l (a+(dig m).length) K T G B Q) (some b),sS (dig m)]) (by
  have h:=zi C m c;generalize fM C=M at h ⊢;simp[h])]
 rw[fg,b8];show Option.map _ (if(sT (dig m)).length<=640 then(intText? (sT (dig m))).map D.int else none)=_;rw[dH,Yi (by omega),BO m c];rfl
end
def ldN:Nat->Nat
 |0=>126
 |1=>62
 |_=>60
abbrev Mk:=Nat×Nat
def mkT(q:Mk):List Nat:=ldN q.2::dig q.1
def mtx(ms:List Mk):List Nat:=ms.flatMap mkT
def dMk(q:Mk):D:=.tup [.int (q.1:Int),.int (q.2:Int)]
def okM(q:Mk):Prop:=q.1<10^30/\q.2<3
def kx(q:Mk)(ms:List Mk):mtx (q::ms)=ldN q.2::(dig q.1++mtx ms):=rfl
def gl3(c:Nat):Option Int:=if c=126 then some 0 else if c=62 then some 1 else if c=60 then some 2 else none
def vm(c:Nat):glN bc (sT [c])=gl3 c:=by
 unfold glN bc gl3;have e:∀a:Nat,(sT [a] == sT [c])=decide (c=a):=λa=>by
  rw[show(sT [a] == sT [c])=decide (sT [a]=sT [c])from rfl];simp[uE,eq_comm]
 rw[show("~":Str)=sT [126]by kernel_rfl,show(">":Str)=sT [62]by kernel_rfl,show("<":Str)=sT [60]by kernel_rfl];simp only[Zh,e,List.find?_nil];by_cases f:c=126
 ·subst f;rfl
 ·by_cases b:c=62
  ·subst b;rfl
  ·by_cases h:c=60
   ·subst h;rfl
   ·simp[f,b,h]
def Eb:glN bc (sT [])=none:=by kernel_rfl
def D1(h:j<3):gl3 (ldN j)=some (j:Int):=by
 have:∀j:Fin 3,gl3 (ldN j.val)=some (j.val:Int):=by decide
 exact this ⟨j,h⟩
def glR:List Nat->Option Int
 |c::_=>gl3 c
 |[]=>none
def brkM(r:List Nat):Prop:=∀c∈r.head?,97<=c/\c<=125
theorem brkM.no{r:List Nat}(h:brkM r):glR r=none:=by
 cases r with
 |nil=>rfl
 |cons c r=>
  have:=h c rfl;show gl3 c=none;unfold gl3;rw[Yr (by omega),Yr (by omega),Yr (by omega)]
theorem brkM.dig{r:List Nat}(h:brkM r):brk 48 57 r:=λc a=>by have:=h c a;omega
section
variable{r:List Nat}{a:Nat}{K G:List D}  {t:Option Addr}{σ:DF}
def G9(C:Addr)(h:TOk l)(b:a<=l.length)(hd:l.drop a=r):d1 (inG bc) (sgn C) (sO (rd l a K T G B Q) t::σ)=some (.bl (glR r).isSome):=by
 rw[b8,jB C hd b h.1];show some (D.bl (glN bc (sT (r.take 1))).isSome)=_;cases r with
 |nil=>rw[List.take_nil,Eb];rfl
 |cons c r=>rw[show(c::r).take 1=[c]from rfl,vm];rfl
def Ih(C:Addr){j:Int}(b:TOk l)(e:a<=l.length)(hd:l.drop a=r)(h:glR r=some j):d1 (Bc bc) (sgn C) (sO (rd l a K T G B Q) t::σ)=some (.int j):=by
 rw[b8,jB C hd e b.1];show(glN bc (sT (r.take 1))).map D.int=_;cases r with
 |nil=>cases h
 |cons c r=>rw[show(c::r).take 1=[c]from rfl,vm,show gl3 c=some j from h];rfl
theorem uv(C:Addr)(i:TOk l)(u:brkM r):∀(ms:List Mk) (fs:List D) (a n:Nat) (y:Option DV),a<=l.length->l.drop a=mtx ms++r->(∀q∈ms,okM q)->ms.length<n->fs.length+ms.length<16777216->∃o,
  bv (asB (d1 (inG bc) (sgn C))) (ag (aT 2 (d1 (Bc bc) (sgn C))) (ag (jh (some aa) 0 "at" (cI 1)) (nX 1 (pI (ba (cD aa "number" 0 (bP C) g0) (ba (ah (getV 2)) da)))))) n [sO (rd l a K T G B Q) t,sO (.lst fs) none,y]
   = some (.nx [sO (rd l (a+(mtx ms).length) K T G B Q) t,sO (.lst (fs++ms.map dMk)) none,o]):=by
 intro ms;induction ms with
 |nil=>
  intro fs a n y f b _ g _;obtain⟨n,rfl⟩:∃m,n=m+1:=⟨n-1,by simp at g;omega⟩
  refine⟨y,?_⟩;rw[eI (by rw[bL,G9 C i f b,show mtx []++r=r from rfl,u.no];rfl),Zd,Yg];rfl
 |cons q ms ih=>
  intro fs a n y f b w g z;obtain⟨n,rfl⟩:∃m,n=m+1:=⟨n-1,by simp at g;omega⟩
  have ok:=w q Yf;have h:l.drop a=[ldN q.2]++(dig q.1++(mtx ms++r)):=by rw[b,kx];simp
  have g0:glR (mtx (q::ms)++r)=some (q.2:Int):=D1 ok.2;have p:l.drop (a+1)=dig q.1++(mtx ms++r):=cZ h;have s:a+1<=l.length:=dQ h f;have bk:brk 48 57 (mtx ms++r):=by
   cases ms with
   |nil=>exact u.dig
   |cons E ms=>
    intro c A;have:c=ldN E.2:=by rw[kx]at A;exact(Yu A).symm
    subst this;have:∀j:Nat,¬(48<=ldN j/\ldN j<=57):=λj=>by unfold ldN;split<;>decide
    exact this _
  have M:=cZ p;have H:=dQ p s;have L:=pQ C (K:=K) (T:=T) (G:=G) (B:=B) (Q:=Q) ok.1 i s p bk;obtain⟨o,J⟩:=ih (fs++[dMk q]) (a+1+(dig q.1).length) n (sI q.2) H M (λx I=>w x (Ye _ I)) (by simp at g;omega) (by simp at z ⊢;omega);refine⟨o,?_⟩;rw[fq (ρ':=[sO (rd l (a+1+(dig q.1).length) K T G B Q) t,sO (.lst (fs++[dMk q])) none,sI q.2]) (by rw[bL,G9 C i f b,g0];rfl) (by
   rw[ae (ρ':=[sO (rd l a K T G B Q) t,sO (.lst fs) none,sI q.2]) (by rw[bf,Ih C i f b g0];rfl),ae rU];show(Option.bind (pI _ _) _)=_;have e:pI (ba (cD aa "number" 0 (bP C) L2.g0) (ba (ah (getV 2)) da)) [sO (rd l (a+1) K T G B Q) t,sO (.lst fs) none,sI q.2]=some (dMk q,[sO (rd l (a+1+(dig q.1).length) K T G B Q) t,sO (.lst fs) none,sI q.2]):=by unfold pI ba;rw[nT (by kernel_rfl) L];rfl
   rw[e,Ya];show(if fs.length<16777216 then _ else _)=_;rw[Yi (by simp at z;omega)];rfl),J]
  rw[Yk];have:a+1+(dig q.1).length+(mtx ms).length=a+(mtx (q::ms)).length:=by rw[kx];simp;omega
  rw[this];rfl
theorem tq(C:Addr){ms:List Mk}(e:TOk l)(f:a<=l.length)(hd:l.drop a=mtx ms++r)(h:brkM r)(c:∀q∈ms,okM q)(h0:ms≠[])(h1:ms.length<200):cU C (rd l a K T G B Q) []=some (rd l (a+(mtx ms).length) K T G B Q,.lst (ms.map dMk)):=cF rfl λb=>by
 obtain⟨y,g⟩:=uv C (K:=K) (T:=T) (G:=G) (B:=B) (Q:=Q) (t:=some b) e h ms [] a 200 none f hd c h1 (by simp;omega);refine⟨.rt (.v (.lst (ms.map dMk))) [sO (rd l (a+(mtx ms).length) K T G B Q) (some b),sV (.lst (ms.map dMk)),y],?_,rfl,rfl⟩;show ag (dC 1 (asL bp)) (ag (bv _ _ 200) _) [sO (rd l a K T G B Q) (some b),none,none]=_;rw[ae (ρ':=[sO (rd l a K T G B Q) (some b),sO (.lst []) none,none]) rfl,ae g];rw[ae (ρ':=[sO (rd l (a+(mtx ms).length) K T G B Q) (some b),sV (.lst (ms.map dMk)),y])]
 ·rfl
 ·cases ms with
  |nil=>exact absurd rfl h0
  |cons q ms=>rfl
def bC(a b:Int)(q:Mk):T4:=if q.2=2 then(b,a,(q.1:Int),true)else(a,b,(q.1:Int),decide (q.2=1))
theorem zd(C:Addr)(a b:Int)(q:Mk):jJ C [.v (.int a),.v (.int b),.v (.int (q.1:Int)),.v (.int (q.2:Int))]=sV (dT4 (bC a b q)):=by
 show dW (ag (dIf (asB (d2 eqD (am 3) (cI 2))) _ dNx) _ [sI a,sI b,sI q.1,sI q.2])=_;unfold bC;by_cases h:q.2=2
 ·rw[h];rfl
 ·have c:¬((q.2:Int)=2):=by omega
  have e:decide ((q.2:Int)=1)=decide (q.2=1):=by simp;omega
  rw[Yr h];simp[c,dT4,e]
theorem wa(C:Addr){ms:List Mk}{p q:Int}(h:T.length+ms.length<=16777216):c8 C (rd l a K T G B Q) [.v (.lst (ms.map dMk)),.v (.int p),.v (.int q)]=some (rd l a K (T++(ms.map (bC p q)).map dT4) G B Q,.non):=cF rfl λb=>by
 refine⟨.nx [sO (rd l a K (T++(ms.map (bC p q)).map dT4) G B Q) (some b),sV (.lst (ms.map dMk)),sI p,sI q],?_,rfl,rfl⟩;show sx (some aa) 0 "ties" _ [sO (rd l a K T G B Q) (some b),sV (.lst (ms.map dMk)),sI p,sI q]=_;refine FE ?_ (by simpa using h);rw[gG];show(if(ms.map dMk).length<=16777216 then fK _ _ _ _ (ms.map dMk)else none)=_;rw[Yi (by simp;omega),Zl];refine gI dMk (dT4 ∘ bC p q) ms λm c=>?_;have e:=zd C p q m;generalize jJ C=M at e ⊢;refine⟨[sI m.1,sI m.2,sI p,sI q],rfl,rfl,?_⟩;simp[e]
end
def bgD(bg:List (Int×Int)):List (Key×D):=bg.map λq=>(.inl q.1,.int q.2)
def clD(cl:List Int):List (Key×D):=cl.map λn=>(.inl n,.bl true)
def yI{n:Int}(h:n∉bg.map (·.1)):∀p∈bgD bg,p.1≠.inl n:=λp b e=>by
 obtain⟨q,a,rfl⟩:=Yt.mp b;exact h (Yt.mpr ⟨q,a,Sum.inl.inj e⟩)
def yR{cl:List Int}{n:Int}(h:n∉cl):∀p∈clD cl,p.1≠.inl n:=λp b e=>by
 obtain⟨q,a,rfl⟩:=Yt.mp b;cases e;exact h a
def yY{k:Key}(h:∀p∈B,p.1≠k):dn B k=none:=by unfold dn;rw[List.find?_eq_none.mpr λp a=>by simpa using h p a];rfl
theorem AX:∀{bg:List (Int×Int)}{n p:Int},(bg.map (·.1)).Nodup->(n,p)∈bg->dn (bgD bg) (.inl n)=some (.int p)
 |[],_,_,_,h=>nomatch h
 |q::bg,n,p,nd,h=>by
  show dn ((.inl q.1,.int q.2)::bgD bg) _=_;rw[kH];rcases YB.mp h with e|h
  ·rw[<-e,Yi rfl]
  ·rw[Yr λe=>(YF.mp nd).1 (Yt.mpr ⟨_,h,(Sum.inl.inj e).symm⟩)];exact AX (YF.mp nd).2 h
abbrev Ev:=Nat×Option (Int×List Mk)
def evR:Option (Int×List Mk)->List Nat
 |none=>[125]
 |some m=>58::(mtx m.2++[125])
def evT(e:Ev):List Nat:=123::(dig e.1++evR e.2)
def evB(p:Int)(e:Ev):List (Int×Int):=match e.2 with|none=>[((e.1:Int),p)]|some _=>[]
def evC(e:Ev):List Int:=match e.2 with|none=>[]|some _=>[(e.1:Int)]
def evS(p:Int)(e:Ev):List T4:=match e.2 with|none=>[]|some m=>m.2.map (bC m.1 p)
def okE(p:Int)(bg:List (Int×Int))(cl:List Int)(e:Ev):Prop:=(1<=e.1/\e.1<=99)/\match e.2 with|none=>(e.1:Int)∉bg.map (·.1)|some m=>((e.1:Int),m.1)∈bg/\m.1≠p/\(e.1:Int)∉cl/\m.2≠[]/\m.2.length<200/\∀q∈m.2,okM q
section
variable{r:List Nat}{a:Nat}{K G:List D}  {t:Option Addr}{σ:DF}
def lO(C:Addr){c:Nat}(e:TOk l)(f:a<=l.length)(hd:l.drop a=c::r):cL C (rd l a K T G B Q) [.v (.str (sT [c]))]=some (rd l (a+1) K T G B Q,.non):=cF rfl λb=>by
 refine⟨.nx [sO (rd l (a+1) K T G B Q) (some b),sS [c]],?_,rfl,rfl⟩;show ag (dIf (asB (d2 neD (sgn C) (am 1))) cC dNx) _ [sO (rd l a K T G B Q) (some b),sS [c]]=_;have h:∀x∈[c],x<128:=e.one hd;rw[ae (ρ':=[sO (rd l a K T G B Q) (some b),sS [c]]) (by
  rw[cu,bL,ao,jB C hd f e.1];show(match neD (.str (sT [c])) (.str (sT [c]))with|some (.bl b)=>some b|_=>none:Option Bool).bind _=_;rw[Ge h h,YA rfl];rfl)]
 exact rU
def zf(C:Addr){n p:Int}(h:n∉bg.map (·.1))(c:bg.length<16777216):dg C (rd l a K T G (bgD bg) Q) [.v (.int n),.v (.int p)]=some (rd l a K T G (bgD (bg++[(n,p)])) Q,.non):=cF rfl λb=>by
 refine⟨.nx [sO (rd l a K T G (bgD (bg++[(n,p)])) Q) (some b),sI n,sI p],?_,rfl,rfl⟩;show ag (dIf (asB (d2 sD (getV 1) (aS (some aa) 0 "begun"))) cC dNx) _ [sO (rd l a K T G (bgD bg) Q) (some b),sI n,sI p]=_;rw[ae (ρ':=[sO (rd l a K T G (bgD bg) Q) (some b),sI n,sI p]) (by
  rw[cu,bL,ao,iR];show(match some (D.bl (dn (bgD bg) (.inl n)).isSome)with|some (.bl b)=>some b|_=>none:Option Bool).bind _=_;rw[yY (yI h)];rfl)]
 rw[BN (n:=n) (d:=.int p) rfl rfl (by unfold bgD;simpa using c) (yI h)];unfold bgD;rw[Yw];rfl
def Au(C:Addr){cl:List Int}{n p p0:Int}{ms:List Mk}(e:(bg.map (·.1)).Nodup)(g:(n,p0)∈bg)(f:p0≠p)(c:n∉cl)(i:cl.length<16777216)(j:T.length+ms.length<=16777216) :
  dc C (rd l a K T G (bgD bg) (clD cl)) [.v (.int n),.v (.int p),.v (.lst (ms.map dMk))]=some (rd l a K (T++(ms.map (bC p0 p)).map dT4) G (bgD bg) (clD (cl++[n])),.non):=cF rfl λb=>by
 have h:=AX e g;refine⟨.nx [sO (rd l a K (T++(ms.map (bC p0 p)).map dT4) G (bgD bg) (clD (cl++[n]))) (some b),sI n,sI p,sV (.lst (ms.map dMk))],?_,rfl,rfl⟩;show ag (dIf (orT (asB (d2 uw (getV 1) (aS (some aa) 0 "begun"))) (asB (d2 sD (getV 1) (aS (some aa) 0 "closed")))) cC dNx) _ [sO (rd l a K T G (bgD bg) (clD cl)) (some b),sI n,sI p,sV (.lst (ms.map dMk))]=_;rw[ae (ρ':=[sO (rd l a K T G (bgD bg) (clD cl)) (some b),sI n,sI p,sV (.lst (ms.map dMk))]) (by
  rw[cu,zc,bL,ao,iR,bL,ao,pd];show((match some (D.bl (!(dn (bgD bg) (.inl n)).isSome))with|some (.bl b)=>some b|_=>none:Option Bool).bind λb=>if b=true then some true else(match some (D.bl (dn (clD cl) (.inl n)).isSome)with|some (.bl b)=>some b|_=>none:Option Bool)).bind _=_;rw[h,yY (yR c)];rfl)]
 rw[ae (ρ':=[sO (rd l a K T G (bgD bg) (clD cl)) (some b),sI n,sI p,sV (.lst (ms.map dMk))]) (by
  rw[cu,bL,ao,ao,iR];show(match(dn (bgD bg) (.inl n)).bind λx=>eqD x (.int p)with|some (.bl b)=>some b|_=>none:Option Bool).bind _=_;rw[h,Ya,d_,Yn f];rfl)]
 rw[ae (B8 (n:=n) (d:=.bl true) rfl rfl (by unfold clD;simpa using i) (yR c))];have m:clD cl++[(.inl n,.bl true)]=clD (cl++[n]):=by unfold clD;rw[Yw];rfl
 rw[m];have q:d2 fG (aS (some aa) 0 "begun") (getV 1) [sO (rd l a K T G (bgD bg) (clD (cl++[n]))) (some b),sI n,sI p,sV (.lst (ms.map dMk))]=some (.int p0):=by rw[ao,iR];exact h
 unfold bG;rw[eP (ds:=[.lst (ms.map dMk),.int p0,.int p]) (o:=rd l a K T G (bgD bg) (clD (cl++[n]))) (by kernel_rfl) (by
  unfold ba ah;show Option.map _ ((Option.map _ (d2 fG (aS (some aa) 0 "begun") (getV 1) [sO (rd l a K T G (bgD bg) (clD (cl++[n]))) (some b),sI n,sI p,sV (.lst (ms.map dMk))])).bind _)=_;rw[q];rfl) (wa C j)]
 rfl
def s_o:("{":Str)=sT [123]:=by kernel_rfl
def s_c:("}":Str)=sT [125]:=by kernel_rfl
def s_p:(":":Str)=sT [58]:=by kernel_rfl
theorem wf(C:Addr){c:Nat}(g:c<128)(h:TOk l)(f:a<=l.length)(hd:l.drop a=r):asB (d2 eqD (sgn C) (λ_=>some (.str (sT [c])))) (sO (rd l a K T G B Q) t::σ)=some (decide (r.take 1=[c])):=by rw[bL,ao,jB C hd f h.1];show(match eqD (.str (sT (r.take 1))) (.str (sT [c]))with|some (.bl b)=>some b|_=>none:Option Bool)=_;rw[Ek (h.one hd) (by intro x e;rw[Yl]at e;omega)]
theorem DC(C:Addr){cl:List Int}{p:Int}{e:Ev}(h:TOk l)(M:a<=l.length)(hd:l.drop a=evT e++r)(N:(bg.map (·.1)).Nodup)(he:okE p bg cl e)(X:bg.length<16777216)(q:cl.length<16777216)(Y:T.length+(evS p e).length<=16777216) :
  cG C (rd l a K T G (bgD bg) (clD cl)) [.v (.int p)]=some (rd l (a+(evT e).length) K (T++(evS p e).map dT4) G (bgD (bg++evB p e)) (clD (cl++evC e)),.non):=cF rfl λb=>by
 refine⟨.nx [sO (rd l (a+(evT e).length) K (T++(evS p e).map dT4) G (bgD (bg++evB p e)) (clD (cl++evC e))) (some b),sI p,sI e.1],?_,rfl,rfl⟩;obtain⟨n,m⟩:=e;obtain⟨S,he⟩:=he;have U:n<10^30:=Zc S.2 (by decide);show ag (bG (bN aa "skip" 0 (cL C) (ba (ah (λ_=>some (.str "{"))) da))) (ag (aY 2 (cD aa "number" 0 (bP C) g0)) _) [sO (rd l a K T G (bgD bg) (clD cl)) (some b),sI p,none]=_;rw[s_o,s_c,s_p];have g:l.drop a=[123]++(dig n++(evR m++r)):=by rw[hd];unfold evT;simp
 have d1:l.drop (a+1)=dig n++(evR m++r):=cZ g;have L:a+1<=l.length:=dQ g M;have s:=cZ d1;have j:=dQ d1 L;have bk:brk 48 57 (evR m++r):=by cases m<;>(intro c q;cases q;decide)
 rw[ae (ρ':=[sO (rd l (a+1) K T G (bgD bg) (clD cl)) (some b),sI p,none]) (by
  unfold bG;rw[eP (by kernel_rfl) (by rfl) (lO C h M g)];rfl)]
 rw[ae (ρ':=[sO (rd l (a+1+(dig n).length) K T G (bgD bg) (clD cl)) (some b),sI p,sI n]) (by
  unfold aY;rw[nT (by kernel_rfl) (pQ C U h L d1 bk)];rfl)]
 rw[ae (ρ':=[sO (rd l (a+1+(dig n).length) K T G (bgD bg) (clD cl)) (some b),sI p,sI n]) (by
  have R:(1:Int)<=(n:Int):=by omega
  have P:(n:Int)<=99:=by omega
  simp[R,P])]
 generalize hA:a+1+(dig n).length=A at *;cases m with
 |none=>
  have i:l.drop A=[125]++r:=s;rw[ae (ρ':=[sO (rd l A K T G (bgD (bg++[((n:Int),p)])) (clD cl)) (some b),sI p,sI n]) (by
   rw[cu,wf C (by decide) h j i];show bG _ _=_;unfold bG;rw[eP (ds:=[.int (n:Int),.int p]) (o:=rd l A K T G (bgD bg) (clD cl)) (by kernel_rfl) (by rfl) (zf C he X)];rfl)]
  unfold bG;rw[eP (by kernel_rfl) (by rfl) (lO C h j i)];have:a+(evT (n,none)).length=A+1:=by unfold evT evR;simp;omega
  rw[this];show _=some (RES.nx [sO (rd l (A+1) K (T++[]) G (bgD (bg++[((n:Int),p)])) (clD (cl++[]))) (some b),_,_]);rw[Yg,Yg];rfl
 |some m=>
  obtain⟨u,f⟩:=m;obtain⟨H,E,z,y,x,w⟩:=he;have i:l.drop A=[58]++(mtx f++(125::r)):=by rw[s];simp[evR]
  have I:l.drop (A+1)=mtx f++(125::r):=cZ i;have J:A+1<=l.length:=dQ i j;have e3:l.drop (A+1+(mtx f).length)=[125]++r:=cZ I;have O:=dQ I J;have Z:=tq C (K:=K) (T:=T) (G:=G) (B:=bgD bg) (Q:=clD cl) h J I (by intro c q;cases q;decide) w y x;rw[ae (ρ':=[sO (rd l (A+1+(mtx f).length) K (T++(f.map (bC u p)).map dT4) G (bgD bg) (clD (cl++[(n:Int)]))) (some b),sI p,sI n]) (by
   rw[cu,wf C (by decide) h j i];show ag _ _ _=_;rw[ae (ρ':=[sO (rd l (A+1) K T G (bgD bg) (clD cl)) (some b),sI p,sI n]) (by
    unfold bG;rw[eP (by kernel_rfl) (by rfl) (lO C h j i)];rfl)]
   unfold bG;rw[eP (ds:=[.int (n:Int),.int p,.lst (f.map dMk)]) (o:=rd l (A+1+(mtx f).length) K T G (bgD bg) (clD cl)) (by kernel_rfl) (by
    unfold ba;show Option.map _ ((Option.map _ ((cD aa "marks" 0 (cU C) g0 _).bind _)))=_;rw[nT (by kernel_rfl) Z];rfl) (Au C N H E z q (by simpa[evS]using Y))]
   rfl)]
  unfold bG;rw[eP (by kernel_rfl) (by rfl) (lO C h O e3)];have:a+(evT (n,some (u,f))).length=A+1+(mtx f).length+1:=by unfold evT evR;simp;omega
  rw[this];show _=some (RES.nx [sO (rd l (A+1+(mtx f).length+1) K (T++(f.map (bC u p)).map dT4) G (bgD (bg++[])) (clD (cl++[(n:Int)]))) (some b),_,_]);rw[Yg];rfl
end
def rW(r:List Nat):Prop:=∀c∈r.head?,¬(97<=c/\c<=123)
theorem Aw{p:Int}{cl:List Int}{e e2:Ev}(h:okE p bg cl e2)(b:e.1≠e2.1):okE p (bg++evB p e) (cl++evC e) e2:=by
 obtain⟨n,m⟩:=e;obtain⟨n2,a⟩:=e2;refine⟨h.1,?_⟩;have c:=h.2;have g:(n2:Int)∉(evB p (n,m)).map (·.1):=by
  cases m with
  |none=>intro z;have:(n2:Int)=(n:Int):=Yl.mp z;exact b (by show n=n2;omega)
  |some m=>exact λz=>nomatch z
 have f:(n2:Int)∉evC (n,m):=by
  cases m with
  |none=>exact λz=>nomatch z
  |some m=>intro z;have:(n2:Int)=(n:Int):=Yl.mp z;exact b (by show n=n2;omega)
 cases a with
 |none=>
  show(n2:Int)∉(bg++evB p (n,m)).map (·.1);rw[Yw,Yj];rintro (z|z)
  ·exact c z
  ·exact g z
 |some a=>
  obtain⟨o,l,j,i⟩:=c;refine⟨Yj.mpr (.inl o),l,?_,i⟩;rw[Yj];rintro (z|z)
  ·exact j z
  ·exact f z
def xh{p:Int}{cl:List Int}{e:Ev}(h:okE p bg cl e)(a:(bg.map (·.1)).Nodup):((bg++evB p e).map (·.1)).Nodup:=by
 obtain⟨n,m⟩:=e;cases m with
 |none=>
  show((bg++[((n:Int),p)]).map (·.1)).Nodup;rw[Yw];refine YO.mpr ⟨a,by simp,λx c y b=>?_⟩;have:y=(n:Int):=Yl.mp b;subst this;exact λz=>h.2 (z ▸ c)
 |some m=>show((bg++([]:List (Int×Int))).map (·.1)).Nodup;rw[Yg];exact a
def Da(p:Int)(e:Ev):(evB p e).length<=1:=by obtain⟨n,m⟩:=e;cases m<;>simp[evB]
def CB(e:Ev):(evC e).length<=1:=by obtain⟨n,m⟩:=e;cases m<;>simp[evC]
section
variable{r:List Nat}{K G:List D}{t:Option Addr}
theorem ve(C:Addr)(i:TOk l)(A:rW r)(p:Int)(y:Option DV):∀(evs:List Ev) (a n:Nat) (T:List D) (bg:List (Int×Int)) (cl:List Int),a<=l.length->l.drop a=evs.flatMap evT++r->(bg.map (·.1)).Nodup->(∀e∈evs,okE p bg cl e)->(evs.map (·.1)).Nodup->evs.length<n->bg.length+evs.length<16777216->cl.length+evs.length<16777216->T.length+(evs.flatMap (evS p)).length<=16777216->
  bv (asB (d2 eqD (sgn C) (λ_=>some (.str (sT [123]))))) (bG (bN aa "ring_sign" 0 (cG C) (ba (ah (getV 2)) da))) n [sO (rd l a K T G (bgD bg) (clD cl)) t,y,sI p]
   = some (.nx [sO (rd l (a+(evs.flatMap evT).length) K (T++(evs.flatMap (evS p)).map dT4) G (bgD (bg++evs.flatMap (evB p))) (clD (cl++evs.flatMap evC))) t,y,sI p]):=by
 intro evs;induction evs with
 |nil=>
  intro a n T bg cl f b _ _ _ g _ _ _;obtain⟨n,rfl⟩:∃m,n=m+1:=⟨n-1,by simp at g;omega⟩
  have b:l.drop a=r:=b;rw[eI (by
   rw[wf C (by decide) i f b,Yn];cases r with
   |nil=>exact λz=>nomatch z
   |cons c r=>intro z;have:=List.head_eq_of_cons_eq z;exact A c rfl (by omega))]
  show _=some (RES.nx [sO (rd l a K (T++[]) G (bgD (bg++[])) (clD (cl++[]))) t,_,_]);rw[Yg,Yg,Yg]
 |cons e evs ih=>
  intro a n T bg cl f b s u J g I H w;obtain⟨n,rfl⟩:∃m,n=m+1:=⟨n-1,by simp at g;omega⟩
  rw[Yh]at I H g;rw[List.flatMap_cons]at b w;rw[Yb]at w;rw[Yk]at b;have j:=u e Yf;have E:=DC C (K:=K) (T:=T) (G:=G) i f b s j (by omega) (by omega) (by omega);have q:=YF.mp (YC ▸ J);have b1:=Da p e;have L:=CB e;have B:=ih (a+(evT e).length) n (T++(evS p e).map dT4) (bg++evB p e) (cl++evC e) (dQ b f) (cZ b) (xh j s) (λx h=>Aw (u x (Ye _ h)) λz=>q.1 (z ▸ Yt.mpr ⟨x,h,rfl⟩)) q.2 (by omega) (by rw[Yb];omega) (by rw[Yb];omega) (by rw[Yb,Yc];omega);rw[fq (ρ':=[sO (rd l (a+(evT e).length) K (T++(evS p e).map dT4) G (bgD (bg++evB p e)) (clD (cl++evC e))) t,y,sI p]) (by
   rw[wf C (by decide) i f b,YA];rfl) (by
   unfold bG;rw[eP (ds:=[.int p]) (o:=rd l a K T G (bgD bg) (clD cl)) (by kernel_rfl) (by rfl) E];rfl),B]
  simp only[List.flatMap_cons,Yb,Yw,Yk,ZL]
def plT(kd:List Nat)(evs:List Ev):List Nat:=kd++evs.flatMap evT
structure OkP (p:Int) (bg:List (Int×Int)) (cl:List Int) (kd:List Nat) (evs:List Ev):Prop where
 kd:okW (sT kd)
 ev:∀e∈evs,okE p bg cl e
 nd:(evs.map (·.1)).Nodup
 nb:(bg.map (·.1)).Nodup
 le:evs.length<200
 lb:bg.length<1000
 lc:cl.length<1000
 ls:(evs.flatMap (evS p)).length<1000
def s_a:("a":Str)=sT [97]:=by kernel_rfl
def s_z:("z":Str)=sT [122]:=by kernel_rfl
def Dg(h:okW (sT kd)):∃c k,kd=c::k/\97<=c/\c<=122:=by
 cases kd with
 |nil=>exact absurd h.1 (by decide)
 |cons c k=>exact⟨c,k,rfl,h.2.2 c Yf⟩
theorem Bx{evs:List Ev}(a:rW r):brk 97 122 (evs.flatMap evT++r):=by
 cases evs with
 |nil=>intro c h;have:=a c h;omega
 |cons e evs=>intro c h;have:c=123:=(Yu h).symm;omega
variable{a:Nat}   {cl:List Int}  {evs:List Ev}
theorem kK(C:Addr){p:Int}(i:TOk l)(j:a<=l.length)(hd:l.drop a=plT kd evs++r)(g:rW r)(m:(K.length:Int)=p)(h:OkP p bg cl kd evs)(u:K.length<1000)(s:T.length<1000) :
  bz C (rd l a K T G (bgD bg) (clD cl)) []=some (rd l (a+(plT kd evs).length) (K++[.str (sT kd)]) (T++(evs.flatMap (evS p)).map dT4) G (bgD (bg++evs.flatMap (evB p))) (clD (cl++evs.flatMap evC)),.int p):=cF rfl λb=>by
 refine⟨.rt (.v (.int p)) [sO (rd l (a+(plT kd evs).length) (K++[.str (sT kd)]) (T++(evs.flatMap (evS p)).map dT4) G (bgD (bg++evs.flatMap (evB p))) (clD (cl++evs.flatMap evC))) (some b),sS kd,sI p],?_,rfl,rfl⟩;have c:l.drop a=kd++(evs.flatMap evT++r):=by rw[hd,plT,Yk]
 have f:=h.kd;have q:kd.length<=3:=f.2.1;show ag (aY 1 _) (ag (dIf _ cC dNx) (ag (aT 2 _) (ag _ (ag (bv _ _ 200) _)))) [sO (rd l a K T G (bgD bg) (clD cl)) (some b),none,none]=_;rw[s_o];rw[ae (ρ':=[sO (rd l (a+kd.length) K T G (bgD bg) (clD cl)) (some b),sS kd,none]) (by
  unfold aY;rw[eP (by kernel_rfl) (by rfl) (by
   show cw C _ [.v (.str "a"),.v (.str "z")]=_;rw[s_a,s_z];exact sv C i j c (Bx g) f.2.2 (by omega))]
  rfl)]
 rw[ae (ρ':=[sO (rd l (a+kd.length) K T G (bgD bg) (clD cl)) (some b),sS kd,none]) (by
  have e:=jN C _ f;generalize bV C=M at e ⊢;simp[e])]
 rw[ae (ρ':=[sO (rd l (a+kd.length) K T G (bgD bg) (clD cl)) (some b),sS kd,sI p]) (by
  rw[bf,b8,yB,<-m];rfl)]
 rw[ae (CC (d:=.str (sT kd)) rfl (by omega))];have o:=ve C (K:=K++[.str (sT kd)]) (G:=G) (t:=some b) i g p (sS kd) evs (a+kd.length) 200 T bg cl (dQ c j) (cZ c) h.nb h.ev h.nd h.le (by have:=h.lb;have:=h.le;omega) (by have:=h.lc;have:=h.le;omega) (by have:=h.ls;omega);rw[ae o,show a+(plT kd evs).length=a+kd.length+(evs.flatMap evT).length by rw[plT,Yb];omega];rfl
theorem nq(C:Addr){p h0:Int}{ms:List Mk}(f:TOk l)(g:a<=l.length)(hd:l.drop a=(mtx ms++plT kd evs)++r)(j:rW r)(s:(K.length:Int)=p)(h:OkP p bg cl kd evs)(A:K.length<1000)(w:T.length<1000)(u:∀q∈ms,okM q)(i:ms≠[])(m:ms.length<200) :
  bD C (rd l a K T G (bgD bg) (clD cl)) [.v (.int h0)]=some (rd l (a+(mtx ms++plT kd evs).length) (K++[.str (sT kd)]) (T++(evs.flatMap (evS p)++ms.map (bC h0 p)).map dT4) G (bgD (bg++evs.flatMap (evB p))) (clD (cl++evs.flatMap evC)),.int p):=cF rfl λb=>by
 refine⟨.rt (.v (.int p)) [sO (rd l (a+(mtx ms++plT kd evs).length) (K++[.str (sT kd)]) (T++(evs.flatMap (evS p)++ms.map (bC h0 p)).map dT4) G (bgD (bg++evs.flatMap (evB p))) (clD (cl++evs.flatMap evC))) (some b),sI h0,sV (.lst (ms.map dMk)),sI p],?_,rfl,rfl⟩;rw[Yk]at hd;obtain⟨c,k,E,H⟩:=Dg h.kd;have z:=tq C (K:=K) (T:=T) (G:=G) (B:=bgD bg) (Q:=clD cl) f g hd (by intro x e;rw[plT,E]at e;have:x=c:=(Yu e).symm;omega) u i m;have y:=kK C (G:=G) (T:=T) f (dQ hd g) (cZ hd) j s h A w;show ag (aY 2 _) (ag (aY 3 _) _) [sO (rd l a K T G (bgD bg) (clD cl)) (some b),sI h0,none,none]=_;rw[ae (ρ':=[sO (rd l (a+(mtx ms).length) K T G (bgD bg) (clD cl)) (some b),sI h0,sV (.lst (ms.map dMk)),none]) (by
  unfold aY;rw[nT (by kernel_rfl) z];rfl)]
 rw[ae (ρ':=[sO (rd l (a+(mtx ms).length+(plT kd evs).length) (K++[.str (sT kd)]) (T++(evs.flatMap (evS p)).map dT4) G (bgD (bg++evs.flatMap (evB p))) (clD (cl++evs.flatMap evC))) (some b),sI h0,sV (.lst (ms.map dMk)),sI p]) (by
  unfold aY;rw[nT (by kernel_rfl) y];rfl)]
 rw[ae (ρ':=[sO (rd l (a+(mtx ms++plT kd evs).length) (K++[.str (sT kd)]) (T++(evs.flatMap (evS p)++ms.map (bC h0 p)).map dT4) G (bgD (bg++evs.flatMap (evB p))) (clD (cl++evs.flatMap evC))) (some b),sI h0,sV (.lst (ms.map dMk)),sI p]) (by
  unfold bG;rw[eP (ds:=[.lst (ms.map dMk),.int h0,.int p]) (o:=rd l (a+(mtx ms).length+(plT kd evs).length) (K++[.str (sT kd)]) (T++(evs.flatMap (evS p)).map dT4) G (bgD (bg++evs.flatMap (evB p))) (clD (cl++evs.flatMap evC))) (by kernel_rfl) (by rfl) (wa C (by have:=h.ls;rw[Yb,Yc];omega))];rw[Yb,Yw,Yk,ZL];rfl)]
 rfl
end
end My
set_option maxHeartbeats 400000
namespace My
open PySem PySem.Spec PyProof.Rows L2
structure RS where
 K:List Str
 T:List T4
 G:List Int
 bg:List (Int×Int)
 cl:List Int
def rdS(l:List Nat)(a:Nat)(S:RS):OD:=rd l a (S.K.map .str) (S.T.map dT4) (S.G.map .int) (bgD S.bg) (clD S.cl)
def plS(S:RS)(kd:List Nat)(evs:List Ev)(X:List T4)(G:List Int):RS:=⟨S.K++[sT kd],S.T++(evs.flatMap (evS (S.K.length:Int))++X),G,S.bg++evs.flatMap (evB (S.K.length:Int)),S.cl++evs.flatMap evC⟩
def qD{a:Nat}{S:RS}{evs:List Ev}{X:List T4}{G:List Int}:rdS l a (plS S kd evs X G)=rd l a (S.K.map .str++[.str (sT kd)]) (S.T.map dT4++(evs.flatMap (evS (S.K.length:Int))++X).map dT4) (G.map .int) (bgD (S.bg++evs.flatMap (evB (S.K.length:Int)))) (clD (S.cl++evs.flatMap evC)):=by unfold rdS plS;simp only[Yw,YC,Zd]
structure OkR (S:RS) (kd:List Nat) (evs:List Ev):Prop where
 p:OkP (S.K.length:Int) S.bg S.cl kd evs
 k:S.K.length<1000
 t:S.T.length<1000
def FP{a:Nat}{K G:List D}{t:Option Addr}{σ:DF}{d:D}:lG (some aa) 0 "hung" (sO (rd l a K T (G++[d]) B Q) t::σ)=some (d,sO (rd l a K T G B Q) t::σ):=by
 unfold lG;rw[jQ,Ya];show((G++[d])[(G++[d]).length-1]?).bind (λe=>(eA (some aa) 0 "hung" (λ_=>some (.lst (G++[d]).dropLast)) _).map λb=>(e,b))=_;rw[show(G++[d])[(G++[d]).length-1]?=some d by simp,Ya,List.dropLast_concat];refine(YM (Option.map λb=>(d,b)) (kY (C:=some aa) (t:=t) (σ:=σ) (fs:=rdF l a K T (G++[d]) B Q) (n := "hung") (k:=λ_=>some (.lst G)) (o:=.lst (G++[d])) (o':=.lst G) (by kernel_rfl) rfl (by show 7<1000;decide))).trans ?_
 kernel_rfl
def ka{a:Nat}{S:RS}{t:Option Addr}{σ:DF}:jh (some aa) 0 "at" (cI 1) (sO (rdS l a S) t::σ)=some (.nx (sO (rdS l (a+1) S) t::σ)):=rU
def GO(C:Addr)(h:Int)(w:List Nat)(S:RS)(h2:Int)(b:RS):Prop:=(rW w/\w≠[])/\∀(l:List Nat) (a:Nat) (r:List Nat),TOk l->a<=l.length->l.drop a=w++r->rW r->bw C (rdS l a S) [.v (.int h)]=some (rdS l (a+w.length) b,.int h2)
def uV:("(":Str)=sT [40]:=by kernel_rfl
def tu:(")":Str)=sT [41]:=by kernel_rfl
def xQ:(".":Str)=sT [46]:=by kernel_rfl
section
variable{r:List Nat}{a:Nat}{S:RS}{t:Option Addr}{h:Int} 
def jS{c:Nat}(e:TOk l)(f:a<=l.length)(hd:l.drop a=c::r)(K:Dw)(b:Option Addr):ag (aT 2 (sgn C)) K [sO (rdS l a S) b,sI h,none]=K [sO (rdS l a S) b,sI h,sS [c]]:=by refine ae ?_;rw[bf];unfold rdS;rw[jB C hd f e.1];rfl
def vp{c:Nat}(h2:getV 2 ρ=some (.str (sT [c]))):dIf (asB (d1 (inG bc) (getV 2))) g dNx ρ=if(gl3 c).isSome=true then g ρ else some (.nx ρ):=by rw[cu,bL,b8,h2];show(some ((glN bc (sT [c])).isSome)).bind _=_;rw[vm];rfl
def ip{c d:Nat}(h2:am 2 ρ=some (.str (sT [c])))(h:c<128)(hd:d<128):asB (d2 eqD (am 2) (λ_=>some (.str (sT [d])))) ρ=some (decide (c=d)):=by rw[bL,ao,h2];show(match eqD (.str (sT [c])) (.str (sT [d]))with|some (.bl b)=>some b|_=>none:Option Bool)=_;rw[Ek (by simpa using h) (by simpa using hd)];simp
def yC{ms:List Mk}(h:∀q∈ms,okM q)(m:ms≠[]):∃c k,mtx ms=c::k/\(gl3 c).isSome=true/\(c=126\/c=62\/c=60):=by
 cases ms with
 |nil=>exact absurd rfl m
 |cons q ms=>
  refine⟨ldN q.2,_,kx q ms,by rw[D1 (h q Yf).2];rfl,?_⟩;have:∀j:Nat,ldN j=126\/ldN j=62\/ldN j=60:=λj=>by unfold ldN;split<;>simp
  exact this _
def Ag{K G:List D}{h0:Int}{y:Option DV}{d:D}(h:bD C (rd l a K T G B Q) [.v (.int h0)]=some (o',d)):d4 (bN aa "follow" 0 (bD C) (ba (ah (getV 1)) da)) [sO (rd l a K T G B Q) t,sI h0,y]=some (.rt (.v d) [sO o' t,sI h0,y]):=by unfold d4;rw[eP (ds:=[.int h0]) (o:=rd l a K T G B Q) (σ':=[sI h0,y]) (by kernel_rfl) (by rfl) h];rfl
theorem vL{evs:List Ev}{ms:List Mk}(o:OkR S kd evs)(g:∀q∈ms,okM q)(m:ms≠[])(u:ms.length<200):GO C h (mtx ms++plT kd evs) S (S.K.length:Int) (plS S kd evs (ms.map (bC h (S.K.length:Int))) S.G):=by
 obtain⟨c,k,e,A,B⟩:=yC g m;refine⟨⟨λx f=>?_,by rw[e];exact λz=>nomatch z⟩,λl a r i s j w=>cF rfl λb=>?_⟩
 ·rw[e]at f;have:x=c:=(Yu f).symm;omega
 ·have y:=nq C (h0:=h) (K:=S.K.map .str) (T:=S.T.map dT4) (G:=S.G.map .int) i s j w (by rw[Yc]) o.p (by rw[Yc];exact o.k) (by rw[Yc];exact o.t) g m u;refine⟨.rt (.v (.int (S.K.length:Int))) [sO (rdS l (a+(mtx ms++plT kd evs).length) (plS S kd evs (ms.map (bC h (S.K.length:Int))) S.G)) (some b),sI h,sS [c]],?_,rfl,rfl⟩;show ag (aT 2 (sgn C)) (ag (dIf (asB (d1 (inG bc) (getV 2))) _ dNx) _) [sO (rdS l a S) (some b),sI h,none]=_;rw[jS (c:=c) i s (by rw[j,e];rfl),dO];rw[vp (c:=c) rfl,Yi A];rw[qD];exact Ag y
theorem rZ{evs:List Ev}{ms:List Mk}(o:OkR S kd evs)(A:S.G.length<1000)(w:∀q∈ms,okM q)(j:ms≠[])(m:ms.length<200):GO C h (40::(mtx ms++plT kd evs)) S (S.K.length:Int) (plS S kd evs (ms.map (bC h (S.K.length:Int))) (S.G++[h])):=by
 refine⟨⟨λx s=>?_,λz=>nomatch z⟩,λl a r f i g u=>cF rfl λb=>?_⟩
 ·have:x=40:=(Yu s).symm;omega
 ·have e:l.drop a=[40]++((mtx ms++plT kd evs)++r):=g;have y:=nq C (a:=a+1) (h0:=h) (K:=S.K.map .str) (T:=S.T.map dT4) (G:=S.G.map .int++[.int h]) f (dQ e i) (cZ e) u (by rw[Yc]) o.p (by rw[Yc];exact o.k) (by rw[Yc];exact o.t) w j m;refine⟨.rt (.v (.int (S.K.length:Int))) [sO (rdS l (a+(40::(mtx ms++plT kd evs)).length) (plS S kd evs (ms.map (bC h (S.K.length:Int))) (S.G++[h]))) (some b),sI h,sS [40]],?_,rfl,rfl⟩;show ag (aT 2 (sgn C)) (ag (dIf (asB (d1 (inG bc) (getV 2))) _ dNx) (ag _ (ag (dIf (asB (d2 eqD (am 2) (λ_=>some (.str "(")))) _ dNx) _))) [sO (rdS l a S) (some b),sI h,none]=_;rw[uV,jS (c:=40) f i g,ae (by rw[vp (c:=40) rfl,Yr (by decide)])];rw[ae ka,dO];rw[cu,ip (c:=40) rfl (by decide) (by decide)];show ag _ _ _=_;rw[ae (show b9 (some aa) 0 "hung" (getV 1) [sO (rdS l (a+1) S) (some b),sI h,sS [40]]=some (RES.nx [sO (rd l (a+1) (S.K.map .str) (S.T.map dT4) (S.G.map .int++[.int h]) (bgD S.bg) (clD S.cl)) (some b),sI h,sS [40]])from CA rfl (by rw[Yc];omega))];rw[qD,Ag y,show(S.G++[h]).map D.int=S.G.map D.int++[D.int h]from Yw,show a+1+(mtx ms++plT kd evs).length=a+(40::(mtx ms++plT kd evs)).length by rw[Yh];omega]
theorem y_{G:List Int}{h2:Int}(m:S.G=G++[h2]):GO C h [41] S h2 {S with G:=G}:=by
 refine⟨⟨λx f=>?_,λz=>nomatch z⟩,λl a r g j i o=>cF rfl λb=>?_⟩
 ·have:x=41:=(Yu f).symm;omega
 ·refine⟨.rt (.v (.int h2)) [sO (rdS l (a+1) {S with G:=G}) (some b),sI h,sS [41]],?_,rfl,rfl⟩;show ag (aT 2 (sgn C)) (ag (dIf (asB (d1 (inG bc) (getV 2))) _ dNx) (ag _ (ag (dIf (asB (d2 eqD (am 2) (λ_=>some (.str "(")))) _ dNx) (ag (dIf (cR (asB (d2 eqD (am 2) (λ_=>some (.str ")")))) _) _ dNx) _)))) [sO (rdS l a S) (some b),sI h,none]=_;rw[uV,tu,jS (c:=41) g j i,ae (by rw[vp (c:=41) rfl,Yr (by decide)])];rw[ae ka];rw[ae (by rw[cu,ip (c:=41) rfl (by decide) (by decide)];rfl),dO];rw[cu,fU,ip (c:=41) rfl (by decide) (by decide),show decide (41=41)=true from rfl,Ya,Yi rfl];have e:rdS l (a+1) S=rd l (a+1) (S.K.map .str) (S.T.map dT4) (G.map .int++[.int h2]) (bgD S.bg) (clD S.cl):=by unfold rdS;rw[m,Yw];rfl
  rw[e];unfold iB;rw[jQ];show(some (!(G.map D.int++[D.int h2]).isEmpty)).bind _=_;rw[show(G.map D.int++[D.int h2]).isEmpty=false by simp];show d4 _ _=_;unfold d4;rw[FP];rfl
theorem vi{evs:List Ev}(o:OkR S kd evs)(j:S.G=[]):GO C h (46::plT kd evs) S (S.K.length:Int) (plS S kd evs [] S.G):=by
 refine⟨⟨λx q=>?_,λz=>nomatch z⟩,λl a r f i g s=>cF rfl λb=>?_⟩
 ·have:x=46:=(Yu q).symm;omega
 ·have e:l.drop a=[46]++(plT kd evs++r):=g;have m:=kK C (a:=a+1) (K:=S.K.map .str) (T:=S.T.map dT4) (G:=S.G.map .int) f (dQ e i) (cZ e) s (by rw[Yc]) o.p (by rw[Yc];exact o.k) (by rw[Yc];exact o.t);refine⟨.rt (.v (.int (S.K.length:Int))) [sO (rdS l (a+(46::plT kd evs).length) (plS S kd evs [] S.G)) (some b),sI h,sS [46]],?_,rfl,rfl⟩;show ag (aT 2 (sgn C)) (ag (dIf (asB (d1 (inG bc) (getV 2))) _ dNx) (ag _ (ag (dIf (asB (d2 eqD (am 2) (λ_=>some (.str "(")))) _ dNx) (ag (dIf (cR (asB (d2 eqD (am 2) (λ_=>some (.str ")")))) _) _ dNx) (ag (dIf (cR (asB (d2 eqD (am 2) (λ_=>some (.str ".")))) _) _ dNx) _))))) [sO (rdS l a S) (some b),sI h,none]=_;rw[uV,tu,xQ,jS (c:=46) f i g,ae (by rw[vp (c:=46) rfl,Yr (by decide)])];rw[ae ka];rw[ae (by rw[cu,ip (c:=46) rfl (by decide) (by decide)];rfl)];rw[ae (by rw[cu,fU,ip (c:=46) rfl (by decide) (by decide)];rfl),dO];rw[cu,fU,ip (c:=46) rfl (by decide) (by decide),show decide (46=46)=true from rfl,Ya,Yi rfl];rw[vA];unfold iB rdS;rw[jQ,j];show d4 _ _=_;unfold d4;rw[j]at m;rw[nT (by kernel_rfl) m];rw[show a+1+(plT kd evs).length=a+(46::plT kd evs).length by rw[Yh];omega];have:=qD (l:=l) (a:=a+(46::plT kd evs).length) (S:=S) (kd:=kd) (evs:=evs) (X:=[]) (G:=[]);unfold rdS at this;rw[this,Yg];rfl
end
abbrev fV:DF->Option Bool:=asB (d2 ltd (dR (some aa) 0 "at") (d1 aQ (dR (some aa) 0 "text")))
noncomputable abbrev ii (C:Addr):DF->Option RES:=aY 1 (bN aa "go_on" 0 (bw C) (ba (ah (getV 1)) da))
noncomputable abbrev rpl (C:Addr):DF->Option RES:=aY 1 (cD aa "place" 0 (bz C) g0)
def S0:RS:=⟨[],[],[],[],[]⟩
noncomputable def Stp (C:Addr):Nat->DF->DF->Prop
 |0,ρ,ρ'=>ρ=ρ'
 |k+1,ρ,ρ'=>∃a,Stp C k ρ a/\fV a=some true/\ii C a=some (.nx ρ')
theorem Stp.runs:∀{k:Nat}{ρ ρ':DF},Stp C k ρ ρ'->∀n,bv fV (ii C) (n+k) ρ=bv fV (ii C) n ρ'
 |0,_,_,h,n=>by cases h;rfl
 |k+1,ρ,ρ',h,n=>by
  obtain⟨a,e,c,b⟩:=h;rw[show n+(k+1)=(n+1)+k by omega,e.runs,fq c b]
def xA{body:DF->Option XR}{k:Nat}(h:c ρ=some true)(a:body ρ=some (.go (.nx ρ'))):dS c body (k+1) ρ=dS c body k ρ':=by
 conv=>lhs;unfold dS
 rw[h,a]
def xK{body:DF->Option XR}{k:Nat}(h:c ρ=some true)(a:body ρ=some (.ex j)):dS c body (k+1) ρ=some (.ex j):=by
 conv=>lhs;unfold dS
 rw[h,a]
theorem Stp.runsX{h:DF->Option XR}:∀{k:Nat}{ρ ρ':DF},Stp C k ρ ρ'->∀n,dS fV (xOr (xOf (ii C)) h) (n+k) ρ=dS fV (xOr (xOf (ii C)) h) n ρ'
 |0,_,_,h,n=>by cases h;rfl
 |k+1,ρ,ρ',h,n=>by
  obtain⟨a,e,c,b⟩:=h;rw[show n+(k+1)=(n+1)+k by omega,e.runsX,xA c (by unfold xOr xOf;rw[b];rfl)]
def Reads(C:Addr)(w:List Nat)(h:Int)(S:RS)(k:Nat):Prop:=∀(l r:List Nat) (b:Option Addr),TOk l->l=w++r->rW r->∃a,rpl C [sO (rd l 0 [] [] [] [] []) b,none]=some (.nx a)/\Stp C k a [sO (rdS l w.length S) b,sI h]
def vE{evs:List Ev}(o:OkP 0 [] [] kd evs):Reads C (plT kd evs) 0 (plS S0 kd evs [] []) 0:=λl r b f e c=>by
 have h:=kK C (a:=0) (K:=[]) (T:=[]) (G:=[]) (p:=0) f (YS _) (by rw[List.drop_zero,e]) c rfl o (by decide) (by decide);refine⟨[sO (rdS l (plT kd evs).length (plS S0 kd evs [] [])) b,sI 0],?_,rfl⟩;have g:=qD (l:=l) (a:=(plT kd evs).length) (S:=S0) (kd:=kd) (evs:=evs) (X:=[]) (G:=[]);rw[g];show Option.map _ (cD aa "place" 0 (bz C) g0 (sO (rd l 0 [] [] [] (bgD []) (clD [])) b::[none]))=_;rw[nT (by kernel_rfl) h,Vb,Yg];rfl
def jT{a:Nat}{S:RS}{b:Option Addr}{σ:DF}(h:TOk l):fV (sO (rdS l a S) b::σ)=some (decide ((a:Int)<(l.length:Int))):=by unfold fV rdS;rw[bL,ao,b8,Aj,wB];show(match(if(sT l).length<=16777216 then some (D.int (sT l).length)else none).bind λy=>ltd (.int (a:Int)) y with|some (.bl b)=>some b|_=>none:Option Bool)=_;rw[dH,Yi h.1];rfl
theorem Reads.go{w a:List Nat}{h h2:Int}{S p:RS}{k:Nat}(x:Reads C w h S k)(g:GO C h a S h2 p):Reads C (w++a) h2 p (k+1):=λl r b j e s=>by
 obtain⟨⟨A,y⟩,z⟩:=g;obtain⟨c,f,o⟩:∃c f,a=c::f:=by
  cases a with
  |nil=>exact absurd rfl y
  |cons c f=>exact⟨c,f,rfl⟩
 have bk:rW (a++r):=by subst o;exact A
 rw[Yk]at e;obtain⟨i,E,B⟩:=x l (a++r) b j e bk;have u:l.drop w.length=a++r:=by rw[e,Vc]
 have q:w.length<=l.length:=by rw[e,Yb];omega
 have m:=z l w.length r j q u s;refine⟨i,E,_,B,?_,?_⟩
 ·rw[jT j,YA];rw[e,Yb,o,Yb,Yh];omega
 ·show Option.map _ (bN aa "go_on" 0 (bw C) (ba (ah (getV 1)) da) _)=_;unfold rdS at m ⊢;rw[eP (ds:=[.int h]) (σ':=[sI h]) (by kernel_rfl) (by rfl) m,Yb];rfl
theorem k6{w:List Nat}{h:Int}{S:RS}{k:Nat}(a:TOk w)(j:Reads C w h S k)(l:S.G=[])(f:S.bg.length<=S.cl.length)(s:k<1000):aO C (rd w 0 [] [] [] [] []) []=some (rdS w w.length S,.non):=cF rfl λb=>by
 obtain⟨g,q,p⟩:=j w [] (some b) a (by rw[Yg]) (λc f=>nomatch f);refine⟨.nx [sO (rdS w w.length S) (some b),sI h],?_,rfl,rfl⟩;show ag (rpl C) (ag (bv fV (ii C) 1000) (ag (dIf (iB (aS (some aa) 0 "hung")) cC dNx) (dIf (asB (d2 ltd (d1 uz (aS (some aa) 0 "closed")) (d1 uz (aS (some aa) 0 "begun")))) cC dNx))) [sO (rd w 0 [] [] [] [] []) (some b),none]=_;rw[ae q];have e:=p.runs (1000-k);rw[show 1000-k+k=1000 by omega]at e;obtain⟨m,i⟩:∃m,1000-k=m+1:=⟨1000-k-1,by omega⟩
 have o:=eI (k:=m) (body:=ii C) (show fV [sO (rdS w w.length S) (some b),sI h]=some false by rw[jT a,Yn];omega);rw[i,o]at e;rw[ae e];rw[ae (ρ':=[sO (rdS w w.length S) (some b),sI h]) (by
  rw[cu];unfold iB rdS;rw[jQ,l];rfl)]
 rw[cu,bL,ao,b8,b8];unfold rdS;rw[pd,iR];show(some (decide (((clD S.cl).length:Int)<((bgD S.bg).length:Int)))).bind _=_;rw[Yn (by unfold clD bgD;rw[Yc,Yc];omega)];rfl
def uC(C:Addr)(w:List Nat):bj C (.obj (some aa) []) [.v (.str (sT w))]=some (rd w 0 [] [] [] [] [],.non):=cF rfl λb=>⟨.nx [sO (rd w 0 [] [] [] [] []) (some b),sS w],by kernel_rfl,rfl,rfl⟩
def z8{a:Nat}{K G:List D}{t:Option Addr}{x:Option DV}{m:Dz}{d:D}(c:(rdF l a K T G B Q).lookup mn=none)(h:m (rd l a K T G B Q) []=some (o',d)) :
  cD aa mn 1 m g0 [x,sO (rd l a K T G B Q) t]=some (d,[x,sO o' t]):=by
 show(if aa=aa/\List.lookup mn _=none then(g0 _).bind λb=>if pW b=true then(m (rd l a K T G B Q) b).map _ else none else none)=_;rw[Yi ⟨rfl,c⟩];show(if pW []=true then(m (rd l a K T G B Q) []).map _ else none)=_;rw[h];rfl
def He{a:Nat}{K G:List D} :dq aa "kinds" (rd l a K T G B Q).d=some (.lst K):=by kernel_rfl
def Hs{a:Nat}{K G:List D} :dq aa "ties" (rd l a K T G B Q).d=some (.lst T):=by kernel_rfl
def sq{w:List Nat}{h:Int}{S:RS}{k:Nat}{n:Int}(b:TOk w)(g:Reads C w h S k)(l:S.G=[])(e:S.bg.length<=S.cl.length)(c:k<1000)(a:1<=n/\n<=7)(i:okK n S.K)(f:okS n S.T):∃J,Ct C [.v (.str (sT w))]=sO (.ins C (wFs S.K (.lst (srt S.T)) J)) none:=by
 obtain⟨J,j⟩:=Bi C S.K S.T n a i f;refine⟨J,?_⟩;have m:=k6 b g l e c;show dW (ag (dC 1 (pP aa (bj C) (aV (getV 0) nA))) (ag (bG (cD aa "read_all" 1 (aO C) g0)) (tT 1 (ll (oW C (tW C) (aV (d1 (dq aa "kinds") (getV 1)) (aV (d1 (dq aa "ties") (getV 1)) nA)))))) [sS w,none])=_;rw[ae (ρ':=[sS w,sO (rd w 0 [] [] [] [] []) none]) (by
  rw[fB];show Option.map _ (match bj C (.obj (some aa) []) [.v (.str (sT w))]with|some (o',.non)=>some o'|_=>none:Option OD)=_;rw[uC];rfl)]
 rw[ae (ρ':=[sS w,sO (rdS w w.length S) none]) (by
  unfold bG;rw[z8 (by kernel_rfl) m];rfl)]
 show dW (ll _ [sS w,sV ((rdS w w.length S).d)])=_;rw[tm,j]
 ·rfl
 ·rw[lC,lC,b8,b8];show(dq aa "kinds" (rdS w w.length S).d).bind (λd=>(((dq aa "ties" (rdS w w.length S).d).bind λd=>some [DV.v d]).map λx=>DV.v d::x))=_;unfold rdS;rw[He,Hs];rfl
def At(A:OD)(b:Nat):Prop:=∃i x:Int,A=.lst [.int i,.int x]/\0<=i/\i<=(b:Int)
theorem At.mono{A:OD}{b c:Nat}(h:At A b)(f:b<=c):At A c:=by obtain⟨i,x,e,a,g⟩:=h;exact⟨i,x,e,a,by omega⟩
abbrev SC(ns:List Int):DV:=.v (.lst (ns.map .int))
theorem AI{f:Dd}{n:Int}(h:f ρ=some (.int n))(b:-1000<=n/\n<=1000):nt f ρ=some ((ff n).map .int):=by
 have a:-(2^62)<=n/\n<2^62:=by omega
 rw[wt,h];simp only;rw[Yi a,pj]
def Aq{as:Nat->Addr}{x d:D}{A:OD}{t:Option Addr}{σ:DF}:nH as [.v x,.own A t] (.rt (.v d) (sV x::sO A' (some (as 1))::σ))=some ([.v x,.own A' none],d):=by simp[nH,gA]
theorem em(C:Addr)(ns:List Int)(S:ns.length<=100){A:OD}{b:Nat}(h:At A b)(T:b<=1000000000):∃(v:Int) (A':OD),At A' (b+1)/\0<=v/\v<1000000000/\au C [SC ns,.own A none]=some ([SC ns,.own A' none],.int v):=by
 obtain⟨i,x,rfl,Z,Y⟩:=h;have s:∃c:Int,∀a:Option Addr,ag (aT 2 (cI 0)) (ag (dIf (asB (d2 gtI (d1 aQ (am 0)) (cI 0))) (aT 2 (d2 ixD (aj 0) (d2 aA (d2 ixD (aj 1) (cI 0)) (d1 aQ (am 0))))) dNx) (λg=>some (.nx g))) [some (SC ns),sO (.lst [.int (i+1),.int x]) a,none]=some (.nx [some (SC ns),sO (.lst [.int (i+1),.int x]) a,sI c]):=by
  by_cases z:(0:Int)<(ns.length:Int)
  ·have H:=Xg (i+1) (show(ns.length:Int)≠0 by omega);have E:=ZM (i+1) z;obtain⟨c,M,q⟩:=vk (l:=ns) D.int H E;refine⟨c,λa=>?_⟩;have J:=aU (i+1) (ns.length:Int) z;have u:atI [D.int (i+1),D.int x] 0=some (.int (i+1)):=rfl;have f:0<ns.length:=by omega
   simp[f,J,ix1,q,u]
  ·refine⟨0,λa=>?_⟩;have f:¬0<ns.length:=by omega
   simp[f]
 obtain⟨c,s⟩:=s;have m:=gE (i+1) (i+1) (.inl (by omega));have j:∀y:Int,e_ (.int y) (.int 48271)=some (.int (y*48271)):=λy=>gE y 48271 (.inr (by decide))
 have p:∀y:Int,aA (.int y) (.int 2147483647)=some (.int (y%2147483647)):=λy=>aU y _ (by decide)
 have o:∀y:Int,aA (.int y) (.int 2147483629)=some (.int (y%2147483629)):=λy=>aU y _ (by decide)
 have L:∀y:Int,bu (.int y) (.int 3)=some (.int (y/3)):=λy=>b5 y _ (by decide)
 let w:=(x+c%2147483647+(i+1)*(i+1))*48271%2147483629
 have R:0<=w:=Xg _ (by decide);have Q:w<2147483629:=ZM _ (by decide);refine⟨w/3,.lst [.int (i+1),.int w],⟨i+1,w,rfl,by omega,by omega⟩,by omega,by omega,fQ rfl λa=>?_⟩;have e:gM C [some (SC ns),sO (.lst [.int i,.int x]) (some (a 1)),none]=some (.rt (.v (.int (w/3))) [some (SC ns),sO (.lst [.int (i+1),.int w]) (some (a 1)),sI c]):=by
  unfold gM;rw[ae (ρ':=[some (SC ns),sO (.lst [.int (i+1),.int x]) (some (a 1)),none]) rfl];have I:∀K,ag (aT 2 (cI 0)) (ag (dIf (asB (d2 gtI (d1 aQ (am 0)) (cI 0))) (aT 2 (d2 ixD (aj 0) (d2 aA (d2 ixD (aj 1) (cI 0)) (d1 aQ (am 0))))) dNx) K) [some (SC ns),sO (.lst [.int (i+1),.int x]) (some (a 1)),none]=K [some (SC ns),sO (.lst [.int (i+1),.int x]) (some (a 1)),sI c]:=λK=>by
   have h:=s (some (a 1));rw[ae (ρ':=[some (SC ns),sO (.lst [.int (i+1),.int x]) (some (a 1)),sI 0]) rfl]at h ⊢;generalize U:dIf (asB (d2 gtI (d1 aQ (am 0)) (cI 0))) (aT 2 (d2 ixD (aj 0) (d2 aA (d2 ixD (aj 1) (cI 0)) (d1 aQ (am 0))))) dNx=X at h ⊢;rw[l0]at h ⊢;cases B:X [some (SC ns),sO (.lst [.int (i+1),.int x]) (some (a 1)),sI 0]with
   |none=>rw[B]at h;cases h
   |some r=>
    rw[B]at h;cases r with
    |nx g=>cases h;rfl
    |rt x g=>cases h
    |bk g=>cases h
    |ct g=>cases h
  rw[I];have u:atI [D.int (i+1),D.int x] 0=some (.int (i+1)):=rfl;have P:atI [D.int (i+1),D.int x] 1=some (.int x):=rfl;rw[ae (ρ':=[some (SC ns),sO (.lst [.int (i+1),.int w]) (some (a 1)),sI c]) (by
   have N:d2 aA (d2 e_ (d2 ap (d2 ap (d2 ixD (aj 1) (cI 1)) (d2 aA (aj 2) (cI 2147483647))) (d2 e_ (d2 ixD (aj 1) (cI 0)) (d2 ixD (aj 1) (cI 0)))) (cI 48271)) (cI 2147483629) [some (SC ns),sO (.lst [.int (i+1),.int x]) (some (a 1)),sI c]=some (.int w):=by simp[ix1,u,P,m,j,p,o,w]
   rw[xx];simp only[Xx,ZW];rw[N];rfl)]
  have O:atI [D.int (i+1),D.int w] 1=some (.int w):=rfl;simp[ix1,O,L]
 show(gM C [some (SC ns),sO (.lst [.int i,.int x]) (some (a 1)),none]).bind _=_;rw[e];exact Aq
def iW{A:OD}{d:D}{t:Option Addr}{σ:DF}(b:∃x,S=.v x)(h:au C [S,.own A none]=some ([S,.own A' none],d)):ay (au C) (aN (ah (getV 0)) (az 1 bJ)) (some S::sO A t::σ)=some (d,some S::sO A' t::σ):=by obtain⟨x,rfl⟩:=b;unfold ay;show(if([1]:List Nat).Nodup then(some [DV.v x,.own A none]).bind (λa=>(au C a).bind _)else none)=_;rw[Yi (by decide),Ya,h];rfl
theorem tj(C:Addr)(ns:List Int)(H:ns.length<=100){A:OD}{b:Nat}(h:At A b)(J:b<=1000000000):∃(k:Nat) (A':OD),At A' (b+1)/\k<10^30/\cS C [SC ns,.own A none]=some ([SC ns,.own A' none],.int (k:Int)):=by
  obtain⟨v,A',K,P,O,E⟩:=em C ns H h J;have g:∃k:Int,0<=k/\k<1000000000000000000000000000000/\∀a:Option Addr,gc C [some (SC ns),sO A a,none]=some (.rt (.v (.int k)) [some (SC ns),sO A' a,sI v]):=by
    unfold gc;have f:=aU v 9 (by decide);have x:=aU v 3 (by decide);have s:∀a:Option Addr,aY 2 (ay (au C) (aN (ah (getV 0)) (az 1 bJ))) [some (SC ns),sO A a,none]=some (.nx [some (SC ns),sO A' a,sI v]):=λa=>by
      unfold aY;rw[iW ⟨_,rfl⟩ E];rfl
    by_cases u:v%9=0
    · refine⟨0,by decide,by decide,λa=>?_⟩
      rw[ae (s a)];simp[f,u]
    · by_cases p:v%9=1
      · refine⟨999999999999999999999999999999,by decide,by decide,λa=>?_⟩
        rw[ae (s a)];simp[f,p]
      · have o:∀y z:Int,-(2^64)<z/\z<2^64->e_ (.int y) (.int z)=some (.int (y*z)):=λy z B=>gE y z (.inr B)
        have q:∀m:Int,0<m->aA (.int (v*v*v*v*7919)) (.int m)=some (.int (v*v*v*v*7919%m)):=λm e=>aU _ m e
        have w:oK (.int 10) (.int 6)=some (.int 1000000):=rfl;have i:-(2^64)<v/\v<2^64:=by omega
        have N:atI [D.int 10,D.int 1000000,D.int 1000000000000000000000000000000] 0=some (.int 10):=rfl;have M:atI [D.int 10,D.int 1000000,D.int 1000000000000000000000000000000] 1=some (.int 1000000):=rfl;have L:atI [D.int 10,D.int 1000000,D.int 1000000000000000000000000000000] 2=some (.int 1000000000000000000000000000000):=rfl;have go:∀m:Int,0<m->m<=1000000000000000000000000000000->atI [D.int 10,D.int 1000000,D.int 1000000000000000000000000000000] (v%3)=some (.int m)->∃k:Int,0<=k/\k<1000000000000000000000000000000/\∀a:Option Addr,(ag (aY 2 (ay (au C) (aN (ah (getV 0)) (az 1 bJ))))
    (ag (dIf (asB (d2 eqD (d2 aA (aj 2) (cI 9)) (cI 0))) (bO (cI 0)) dNx)
    (ag (dIf (asB (d2 eqD (d2 aA (aj 2) (cI 9)) (cI 1))) (bO (d2 jA (d2 oK (cI 10) (cI 30)) (cI 1))) dNx)
    (bO (d2 aA (d2 e_ (d2 e_ (d2 e_ (d2 e_ (aj 2) (aj 2)) (aj 2)) (aj 2)) (cI 7919)) (d2 ixD (asO (asL (al (cI 10) (al (d2 oK (cI 10) (cI 6)) (al (d2 oK (cI 10) (cI 30)) bp))))) (d2 aA (aj 2) (cI 3)))))))) [some (SC ns),sO A a,none]=some (.rt (.v (.int k)) [some (SC ns),sO A' a,sI v]):=λm e j l=>by
          refine⟨v*v*v*v*7919%m,Xg _ (by omega),Int.lt_of_lt_of_le (ZM _ e) j,λa=>?_⟩;rw[ae (s a)];simp[f,x,u,p,o _ v i,o _ 7919 (by decide),w,ix1,l,q m e]
        rcases CP v with h3|h3|h3
        · exact go 10 (by decide) (by decide) (by rw[h3];exact N)
        · exact go 1000000 (by decide) (by decide) (by rw[h3];exact M)
        · exact go 1000000000000000000000000000000 (by decide) (by decide) (by rw[h3];exact L)
  obtain⟨k,R,Q,I⟩:=g;have c:k.toNat<10^30:=by omega
  refine⟨k.toNat,A',K,c,fQ rfl λa=>?_⟩;show(gc C [some (SC ns),sO A (some (a 1)),none]).bind _=_;rw[I (some (a 1))];rw[show((k.toNat:Nat):Int)=k by omega];exact Aq
def stF(K T O G U:List D)(h p s:D):List (Str×FO):=[("kinds",.lst K),("ties",.lst T),("open",.lst O),("boughs",.lst G),("used",.lst U),("here",.d h),("pool",.d p),("some",.d s)]
def stO(K T O G U:List D)(h p s:D):OD:=.obj none (stF K T O G U h p s)
section
variable{K G:List D}{p s:D}{t:Option Addr}{σ:DF} 
def sH:aS none 2 "kinds" (x0::x1::sO (stO K T O G U h p s) t::σ)=some (.lst K):=by kernel_rfl
def pU:aS none 2 "ties" (x0::x1::sO (stO K T O G U h p s) t::σ)=some (.lst T):=by kernel_rfl
def me:aS none 2 "open" (x0::x1::sO (stO K T O G U h p s) t::σ)=some (.lst O):=by kernel_rfl
def o6:aS none 2 "boughs" (x0::x1::sO (stO K T O G U h p s) t::σ)=some (.lst G):=by kernel_rfl
def B9:aS none 2 "used" (x0::x1::sO (stO K T O G U h p s) t::σ)=some (.lst U):=by kernel_rfl
def vJ:dR none 2 "here" (x0::x1::sO (stO K T O G U h p s) t::σ)=some h:=by kernel_rfl
def C1:dR none 2 "pool" (x0::x1::sO (stO K T O G U h p s) t::σ)=some p:=by kernel_rfl
def CD:dR none 2 "some" (x0::x1::sO (stO K T O G U h p s) t::σ)=some s:=by kernel_rfl
def gP{C:Option Addr}{fs:List (Str×FO)}{n:Str}{k:FO->Option FO}{o o':FO}(h1:fs.lookup n=some o)(h2:k o=some o')(h:fs.length<1000):eA C 2 n k (x0::x1::sO (.obj C fs) t::σ)=some (x0::x1::sO (.obj C (fD n o' fs)) t::σ):=by unfold eA;show(if C=C/\fs.length<1000 then _ else _)=_;rw[Yi ⟨rfl,h⟩,h1,Ya,h2];rfl
def C7{f:Dd}{d:D}(b:f (x0::x1::sO (stO K T O G U h p s) t::σ)=some d)(a:K.length<16777216):b9 none 2 "kinds" f (x0::x1::sO (stO K T O G U h p s) t::σ)=some (.nx (x0::x1::sO (stO (K++[d]) T O G U h p s) t::σ)):=by
 unfold b9;rw[b,Ya];refine(YM (Option.map RES.nx) (gP (C:=none) (x0:=x0) (x1:=x1) (t:=t) (σ:=σ) (fs:=stF K T O G U h p s) (n := "kinds") (k:=n_ d) (o:=.lst K) (o':=.lst (K++[d])) (by kernel_rfl) (Yi a) (by show 8<1000;decide))).trans ?_
 kernel_rfl
def BE{f:Dd}{d:D}(b:f (x0::x1::sO (stO K T O G U h p s) t::σ)=some d)(a:T.length<16777216):b9 none 2 "ties" f (x0::x1::sO (stO K T O G U h p s) t::σ)=some (.nx (x0::x1::sO (stO K (T++[d]) O G U h p s) t::σ)):=by
 unfold b9;rw[b,Ya];refine(YM (Option.map RES.nx) (gP (C:=none) (x0:=x0) (x1:=x1) (t:=t) (σ:=σ) (fs:=stF K T O G U h p s) (n := "ties") (k:=n_ d) (o:=.lst T) (o':=.lst (T++[d])) (by kernel_rfl) (Yi a) (by show 8<1000;decide))).trans ?_
 kernel_rfl
def Dx{f:Dd}{d:D}(b:f (x0::x1::sO (stO K T O G U h p s) t::σ)=some d)(a:O.length<16777216):b9 none 2 "open" f (x0::x1::sO (stO K T O G U h p s) t::σ)=some (.nx (x0::x1::sO (stO K T (O++[d]) G U h p s) t::σ)):=by
 unfold b9;rw[b,Ya];refine(YM (Option.map RES.nx) (gP (C:=none) (x0:=x0) (x1:=x1) (t:=t) (σ:=σ) (fs:=stF K T O G U h p s) (n := "open") (k:=n_ d) (o:=.lst O) (o':=.lst (O++[d])) (by kernel_rfl) (Yi a) (by show 8<1000;decide))).trans ?_
 kernel_rfl
def Cu{f:Dd}{d:D}(b:f (x0::x1::sO (stO K T O G U h p s) t::σ)=some d)(a:G.length<16777216):b9 none 2 "boughs" f (x0::x1::sO (stO K T O G U h p s) t::σ)=some (.nx (x0::x1::sO (stO K T O (G++[d]) U h p s) t::σ)):=by
 unfold b9;rw[b,Ya];refine(YM (Option.map RES.nx) (gP (C:=none) (x0:=x0) (x1:=x1) (t:=t) (σ:=σ) (fs:=stF K T O G U h p s) (n := "boughs") (k:=n_ d) (o:=.lst G) (o':=.lst (G++[d])) (by kernel_rfl) (Yi a) (by show 8<1000;decide))).trans ?_
 kernel_rfl
def BY{f:Dd}{d:D}(b:f (x0::x1::sO (stO K T O G U h p s) t::σ)=some d)(a:U.length<16777216):b9 none 2 "used" f (x0::x1::sO (stO K T O G U h p s) t::σ)=some (.nx (x0::x1::sO (stO K T O G (U++[d]) h p s) t::σ)):=by
 unfold b9;rw[b,Ya];refine(YM (Option.map RES.nx) (gP (C:=none) (x0:=x0) (x1:=x1) (t:=t) (σ:=σ) (fs:=stF K T O G U h p s) (n := "used") (k:=n_ d) (o:=.lst U) (o':=.lst (U++[d])) (by kernel_rfl) (Yi a) (by show 8<1000;decide))).trans ?_
 kernel_rfl
def EH{f:Dd}{d:D}{O':List D}(b:f (x0::x1::sO (stO K T O G U h p s) t::σ)=some d)(a:AD d (.lst O)=some (.lst O')):oY 2 "open" f (x0::x1::sO (stO K T O G U h p s) t::σ)=some (.nx (x0::x1::sO (stO K T O' G U h p s) t::σ)):=by
 unfold oY;rw[b,Ya];refine(YM (Option.map RES.nx) (gP (C:=none) (x0:=x0) (x1:=x1) (t:=t) (σ:=σ) (fs:=stF K T O G U h p s) (n := "open") (k:=AD d) (o:=.lst O) (o':=.lst O') (by kernel_rfl) a (by show 8<1000;decide))).trans ?_
 kernel_rfl
end
def ig{f:Dy}{fa fb:DX}{g e:DF}{a b c:D}(j:fa ρ=some (a,g))(i:fb g=some (b,e))(h:f a b=some c):x2 f fa fb ρ=some (c,e):=by unfold x2;rw[j,Ya,i,Ya,h];rfl
def bE{f:Dd}{d:D}(h:f ρ=some d):ah f ρ=some (d,ρ):=by unfold ah;rw[h];rfl
def cc{f:DX}{d:D}(h:f ρ=some (d,ρ')):aY i f ρ=some (.nx (ρ'.set i (sV d))):=by unfold aY;rw[h];rfl
def mZ{A:OD}{v m:Int}{t:Option Addr}{σ:DF}(a:0<m)(h:au C [SC ns,.own A none]=some ([SC ns,.own A' none],.int v)):x2 aA (ay (au C) (aN (ah (getV 0)) (az 1 bJ))) (ah (λ_=>some (.int m))) (some (SC ns)::sO A t::σ)=some (.int (v%m),some (SC ns)::sO A' t::σ):=
 ig (iW ⟨_,rfl⟩ h) (bE rfl) (aU v m a)
def E7{n:Nat}(h:n<10^30):((n:Int)).natAbs.log2<1920:=by
 rw[Int.natAbs_natCast];by_cases a:n=0
 ·subst a;decide
 ·have b:n<2^100:=Yv h (by decide);exact Yv ((Nat.log2_lt a).mpr b) (by decide)
def mf{n:Nat}(h:n<10^30):gv (.int (n:Int))=some (.str (sT (dig n))):=by show(if _ then _ else _)=_;rw[Yi (E7 h),BD]
def cm{a b:List Nat}(h:a.length+b.length<=16777216):ap (.str (sT a)) (.str (sT b))=some (.str (sT (a++b))):=by show(if(sT a).length+(sT b).length<=16777216 then some (D.str (sT a++sT b))else none)=_;rw[dH,dH,Yi h,uI]
def Hn(j:Int)(h:j=0\/j=1\/j=2):ixD (.str "~><") (.int j)=some (.str (sT [ldN j.toNat])):=by rcases h with rfl|rfl|rfl<;>kernel_rfl
theorem wz{q:Mk}(h:okM q):(mkT q).length<=31:=by have:=f9 q.1 30 (by decide) h.1;unfold mkT;rw[Yh];omega
theorem lQ:∀{ms:List Mk},(∀q∈ms,okM q)->(mtx ms).length<=31*ms.length
 |[],_=>Yy _
 |q::ms,h=>by
  have c:=wz (h q Yf);have b:=lQ (ms:=ms) λx a=>h x (Ye _ a)
  show(mkT q++mtx ms).length<=_;rw[Yb,Yh];omega
def okSm(s:D):Prop:=∃b a:Nat,b<10^30/\a<10^30/\s=.lst [.int (b:Int),.int (a:Int),.int 5]
def okSm.at{s:D}(h:okSm s)(v:Int):∃k:Nat,k<10^30/\ixD s (.int (v%3))=some (.int (k:Int)):=by
 obtain⟨b,a,f,c,rfl⟩:=h;rcases CP v with e|e|e
 ·exact⟨b,f,by rw[e];rfl⟩
 ·exact⟨a,c,by rw[e];rfl⟩
 ·exact⟨5,by decide,by rw[e];rfl⟩
section
variable   {K G:List D}{p s:D}{one:Int}{room n0:DV}
abbrev mkF(ns:List Int)(A:OD)(t1:Option Addr)(st:OD)(t2:Option Addr)(one oth:Int)(room:DV)(w:List Nat)(n:DV)(c b a x:Option DV):DF:=
 [some (SC ns),sO A t1,sO st t2,sI one,sI oth,some room,sS w,some n,c,b,a,x]
noncomputable abbrev mkB (C:Addr):DF->Option RES:=(ag (aY 9 (x2 ixD (ah (dR none 2 "some")) (x2 aA (ay (au C) (aN (ah (getV 0)) (az 1 bJ))) (ah (cI 3)))))
  (ag (aY 10 (x2 aA (ay (au C) (aN (ah (getV 0)) (az 1 bJ))) (ah (cI 3))))
  (ag (aT 6 (d2 ap (d2 ap (aj 6) (d2 ixD (λ_=>some (.str "~><")) (aj 10))) (d1 gv (am 9))))
  (ag (aT 11 (d2 ixD (asO (asL (al (asT (al (getV 3) (al (getV 4) bp))) (al (asT (al (getV 3) (al (getV 4) bp))) (al (asT (al (getV 4) (al (getV 3) bp))) bp))))) (aj 10)))
  (b9 none 2 "ties" (asT (al (d2 ixD (aj 11) (cI 0)) (al (d2 ixD (aj 11) (cI 1)) (al (getV 9) (al (d2 gtI (aj 10) (cI 0)) bp)))))))))) 
theorem Dr(J:ns.length<=100)(N:okSm s){A:OD}{b:Nat}(Q:At A b)(S:b+2<=1000000000){w:List Nat}(hw:w.length<=100000)(X:T.length<1000):∃(A':OD) (q:Mk) (L l i:Option DV),At A' (b+2)/\okM q/\∀(t1 t2:Option Addr) (c H e a:Option DV),
  mkB C (mkF ns A t1 (stO K T O G U h p s) t2 one oth room w n0 c H e a)=some (.nx (mkF ns A' t1 (stO K (T++[dT4 (bC one oth q)]) O G U h p s) t2 one oth room (w++mkT q) n0 c L l i)):=by
 obtain⟨v,R,E,_,_,M⟩:=em C ns J Q (by omega);obtain⟨I,g,B,_,_,m⟩:=em C ns J E (by omega);obtain⟨k,o,z⟩:=N.at v;have f:=CP I;generalize u:I%3=j at f;have Y:((j.toNat:Nat):Int)=j:=by omega
 have P:=f9 k 30 (by decide) o;refine⟨g,(k,j.toNat),sI k,sI j,sV (if j=2 then .tup [.int oth,.int one]else .tup [.int one,.int oth]),B,⟨o,by show j.toNat<3;omega⟩,λt1 t2 c H e a=>?_⟩;unfold mkB;rw[ae (ρ':=mkF ns R t1 (stO K T O G U h p s) t2 one oth room w n0 c (sI k) e a) (by
  exact cc (ig (bE CD) (mZ (by decide) M) z))]
 rw[ae (ρ':=mkF ns g t1 (stO K T O G U h p s) t2 one oth room w n0 c (sI k) (sI j) a) (by
  rw[<-u];exact cc (mZ (by decide) m))]
 rw[ae (ρ':=mkF ns g t1 (stO K T O G U h p s) t2 one oth room (w++mkT (k,j.toNat)) n0 c (sI k) (sI j) a) (by
  rw[bf,ao,ao,b8];show Option.map _ (((ixD (.str "~><") (.int j)).bind λy=>ap (.str (sT w)) y).bind λx=>(gv (.int (k:Int))).bind λy=>ap x y)=_;rw[Hn j f,mf o,Ya,cm (by simp;omega),Ya,Ya,cm (by simp;omega),Yk];rfl)]
 rw[ae (ρ':=mkF ns g t1 (stO K T O G U h p s) t2 one oth room (w++mkT (k,j.toNat)) n0 c (sI k) (sI j) (sV (if j=2 then .tup [.int oth,.int one]else .tup [.int one,.int oth]))) (by
  rcases f with rfl|rfl|rfl<;>rfl)]
 refine(BE (d:=dT4 (bC one oth (k,j.toNat))) ?_ (by omega)).trans rfl;rcases f with rfl|rfl|rfl<;>rfl
end
section
variable   {K G:List D}{p s:D}  {one:Int}
theorem D9(v room:Int)(s:1<=room):∃c:Int,1<=c/\c<=3/\c<=room/\∀ρ:DF,aj 7 ρ=some (.int v)->am 5 ρ=some (.int room)->
  (d2 xU (cI 1) (d2 wH (d2 ap (cI 1) (d2 e_ (d2 bu (d2 aA (d2 bu (aj 7) (cI 4)) (cI 3)) (cI 2)) (d2 aA (d2 bu (aj 7) (cI 12)) (cI 3)))) (am 5))) ρ=some (.int c):=by
 have p:=b5 v 4 (by decide);have f:=b5 v 12 (by decide);have m:∀y:Int,aA (.int y) (.int 3)=some (.int (y%3)):=λy=>aU y 3 (by decide)
 have q:∀y:Int,bu (.int y) (.int 2)=some (.int (y/2)):=λy=>b5 y 2 (by decide)
 have j:v/4%3/2=0\/v/4%3/2=1:=by omega
 have u:0<=v/12%3/\v/12%3<=2:=by omega
 have g:=gE (v/4%3/2) (v/12%3) (.inr (by omega));generalize b:v/4%3/2*(v/12%3)=z at g;have i:0<=z/\z<=2:=by
  rcases j with e|e
  ·rw[e,Int.zero_mul]at b;omega
  ·rw[e,Int.one_mul]at b;omega
 have h:wH (.int (1+z)) (.int room)=some (.int (if room<1+z then room else 1+z)):=rfl;have a:∀y:Int,xU (.int 1) (.int y)=some (.int (if y > 1 then y else 1)):=λy=>rfl
 refine⟨if(if room<1+z then room else 1+z) > 1 then(if room<1+z then room else 1+z)else 1,?_,?_,?_,λρ l o=>?_⟩
 ·split<;>split<;>omega
 ·split<;>split<;>omega
 ·split<;>split<;>omega
 ·simp only[ao,l,o,Ya,p,m,q,f,g,t5,h,a]
theorem pC(Z:ns.length<=100)(hs:okSm s){A:OD}{b:Nat}(H:At A b)(hb:b+10<=1000000000)(hT:T.length<900){room:Int}(hr:1<=room):∃(A':OD) (ms:List Mk),At A' (b+7)/\(∀q∈ms,okM q)/\ms≠[]/\ms.length<=3/\(ms.length:Int)<=room /\
  bx C [SC ns,.own A none,.own (stO K T O G U h p s) none,.v (.int one),.v (.int oth),.v (.int room)]=some ([SC ns,.own A' none,.own (stO K (T++(ms.map (bC one oth)).map dT4) O G U h p s) none,.v (.int one),.v (.int oth),.v (.int room)],.str (sT (mtx ms))):=by
 obtain⟨v,I,B,_,_,hv⟩:=em C ns Z H (by omega);obtain⟨c,c1,c3,cr,hc⟩:=D9 v room hr;have Q:∃(A':OD) (ms:List Mk),At A' (b+7)/\(∀q∈ms,okM q)/\ms.length=c.toNat/\∀l j:Option Addr,∃o m f a,c7 (setV 8) (mkB C) ((ff c).map .int) (mkF ns I l (stO K T O G U h p s) j one oth (.v (.int room)) [] (.v (.int v)) none none none none)=some (.nx (mkF ns A' l (stO K (T++(ms.map (bC one oth)).map dT4) O G U h p s) j one oth (.v (.int room)) (mtx ms) (.v (.int v)) o m f a)):=by
  have go:∀(n:List Int) (A:OD) (b:Nat) (T:List D) (w:List Nat),n.length<=3->At A b->b+2*n.length<=1000000000->w.length<=100*(4-n.length)->T.length+n.length<1000->∃(A':OD) (ms:List Mk),At A' (b+2*n.length)/\(∀q∈ms,okM q)/\ms.length=n.length/\∀(l j:Option Addr) (o m f a:Option DV),∃P N u y,c7 (setV 8) (mkB C) (n.map .int) (mkF ns A l (stO K T O G U h p s) j one oth (.v (.int room)) w (.v (.int v)) o m f a)=some (.nx (mkF ns A' l (stO K (T++(ms.map (bC one oth)).map dT4) O G U h p s) j one oth (.v (.int room)) (w++mtx ms) (.v (.int v)) P N u y)):=by
   intro n;induction n with
   |nil=>
    intro A b T w _ H _ _ _;refine⟨A,[],H,by simp,rfl,λl j o m f a=>⟨o,m,f,a,?_⟩⟩;rw[Zd,Zd,Zd,Yg,show mtx []=[]from rfl,Yg];rfl
   |cons i n ih=>
    intro A b T w E H hb hw hT;rw[Yh]at E hb hw hT;obtain⟨I,q,z9,M,L,B,Y,e1⟩:=Dr (C:=C) (K:=K) (T:=T) (O:=O) (G:=G) (U:=U) (h:=h) (p:=p) (one:=one) (oth:=oth) (room:=.v (.int room)) (n0:=.v (.int v)) Z hs H (by omega) (w:=w) (by omega) (by omega);have ql:=wz Y;obtain⟨A2,ms,R,hm,ml,e2⟩:=ih I (b+2) (T++[dT4 (bC one oth q)]) (w++mkT q) (by omega) B (by omega) (by rw[Yb];omega) (by rw[Yb,ZK];omega);refine⟨A2,q::ms,R.mono (by rw[Yh];omega),λx hx=>?_,by rw[Yh,Yh,ml],λl j o m f a=>?_⟩
    ·rcases YB.mp hx with rfl|hx
     ·exact Y
     ·exact hm x hx
    ·obtain⟨P,N,u,y,e3⟩:=e2 l j (sI i) z9 M L;refine⟨P,N,u,y,?_⟩;rw[YC];unfold c7;show(match mkB C (mkF ns A l (stO K T O G U h p s) j one oth (.v (.int room)) w (.v (.int v)) (sI i) m f a)with|some (.nx ρ)=>c7 (setV 8) (mkB C) (n.map .int) ρ|some (.ct ρ)=>c7 (setV 8) (mkB C) (n.map .int) ρ|some (.bk ρ)=>some (.nx ρ)|r=>r)=_;rw[e1];simp only;rw[e3,Yk,Yk];rfl
  obtain⟨A',ms,J,X,E,S⟩:=go (ff c) I (b+1) T [] (by rw[dJ];omega) B (by rw[dJ];omega) (by simp) (by rw[dJ];omega);rw[dJ]at J E;exact⟨A',ms,J.mono (by omega),X,E,λl j=>S l j none none none none⟩
 obtain⟨A',ms,J,X,E,S⟩:=Q;refine⟨A',ms,J,X,λz=>?_,by omega,by omega,fQ rfl λg=>?_⟩
 ·rw[z,YZ]at E;omega
 ·obtain⟨o,m,f,a,e⟩:=S (some (g 1)) (some (g 2));have e0:fR C [some (SC ns),sO A (some (g 1)),sO (stO K T O G U h p s) (some (g 2)),sI one,sI oth,sI room,none,none,none,none,none,none]=some (.rt (.v (.str (sT (mtx ms)))) (mkF ns A' (some (g 1)) (stO K (T++(ms.map (bC one oth)).map dT4) O G U h p s) (some (g 2)) one oth (.v (.int room)) (mtx ms) (.v (.int v)) o m f a)):=by
   unfold fR;rw[show("":Str)=sT []by kernel_rfl];rw[ae (ρ':=[some (SC ns),sO A (some (g 1)),sO (stO K T O G U h p s) (some (g 2)),sI one,sI oth,sI room,sS [],none,none,none,none,none]) rfl];rw[ae (cc (iW ⟨_,rfl⟩ hv))];have ef:=lM (hc (mkF ns I (some (g 1)) (stO K T O G U h p s) (some (g 2)) one oth (.v (.int room)) [] (.v (.int v)) none none none none) rfl rfl) ⟨by omega,by omega⟩;rw[ae (ρ':=mkF ns A' (some (g 1)) (stO K (T++(ms.map (bC one oth)).map dT4) O G U h p s) (some (g 2)) one oth (.v (.int room)) (mtx ms) (.v (.int v)) o m f a) (by
    rw[fT];refine(YM (λz=>Option.bind z _) ef).trans ?_;exact e)]
   rfl
  show(fR C [some (SC ns),sO A (some (g 1)),sO (stO K T O G U h p s) (some (g 2)),sI one,sI oth,sI room,none,none,none,none,none,none]).bind _=_;rw[e0];simp[nH,gA]
def i4{f:DX}{g:DWs}{b a:DF}{d:D}{L:List AW}(c:f ρ=some (d,b))(h:g b=some (L,a)):aN f g ρ=some (.inr d::L,a):=by unfold aN;rw[c,Ya,h];rfl
def vq{A st:OD}{d d1 d2 d3:D}{σ:DF}{f:Dd}(b:∃x,S=.v x)(h1:f1 (some S::sO A t1::sO st t2::σ)=some d1)(h2:f2 (some S::sO A t1::sO st t2::σ)=some d2)(c:f (some S::sO A t1::sO st t2::σ)=some d3)
  (h:bx C [S,.own A none,.own st none,.v d1,.v d2,.v d3]=some ([S,.own A' none,.own st' none,.v d1,.v d2,.v d3],d)):ay (bx C) (aN (ah (getV 0)) (az 1 (az 2 (aN (ah f1) (aN (ah f2) (aN (ah f) bJ)))))) (some S::sO A t1::sO st t2::σ)=some (d,some S::sO A' t1::sO st' t2::σ):=by
 obtain⟨x,rfl⟩:=b;have e:aN (ah (getV 0)) (az 1 (az 2 (aN (ah f1) (aN (ah f2) (aN (ah f) bJ))))) (sV x::sO A t1::sO st t2::σ)=some ([.inr x,.inl 1,.inl 2,.inr d1,.inr d2,.inr d3],sV x::sO A t1::sO st t2::σ):=by have i:=i4 (bE h1) (i4 (bE h2) (i4 (g:=bJ) (bE c) rfl));show Option.map _ (Option.map _ (Option.map _ (aN (ah f1) (aN (ah f2) (aN (ah f) bJ)) _)))=_;rw[i];rfl
 unfold ay;rw[e,Ya];show(if([1,2]:List Nat).Nodup then(some [DV.v x,.own A none,.own st none,.v d1,.v d2,.v d3]).bind (λa=>(bx C a).bind _)else none)=_;rw[Yi (by decide),Ya,h];rfl
end
abbrev Op:=Nat×Int
def dOp(o:Op):D:=.tup [.int (o.1:Int),.int o.2]
theorem AJ(a b:Op):eqd (dOp a) (dOp b)=decide (a=b):=by
 by_cases h:a=b
 ·rw[YA h,h];exact(dm _ _ rfl).mpr rfl
 ·rw[Yn h];cases e:eqd (dOp a) (dOp b)with
  |false=>rfl
  |true=>
   have:=(dm _ _ rfl).mp e;obtain⟨c,f⟩:=a;obtain⟨b1,b2⟩:=b;injection this with this;injection this with h1 h2;injection h2 with h2 _;injection h1 with h1;injection h2 with h2;exact absurd (Prod.ext (by show c=b1;omega) h2) h
theorem y0{x:Op}{aR:List Op}:∀{kept:List Op},x∉kept->rR (dOp x) ((kept++x::aR).map dOp)=some kept.length
 |[],_=>by
  rw[Zg,YC];unfold rR;rw[AJ,YA rfl];rfl
 |y::kept,h=>by
  rw[List.cons_append,YC];unfold rR;have a:¬y=x:=λz=>h (by rw[z];exact Yf)
  rw[AJ,Yn a,y0 λz=>h (Ye _ z)];rfl
def Fp{x:Op}{kept aR:List Op}(h:x∉kept):AD (dOp x) (.lst ((kept++x::aR).map dOp))=some (.lst ((kept++aR).map dOp)):=by
 show(if _ then _ else _)=_;rw[Yi,y0 h]
 ·show some (FO.lst (((kept++x::aR).map dOp).eraseIdx kept.length))=_;rw[<-pK,List.eraseIdx_append_of_length_le (Yy _),Nat.sub_self];rfl
 ·rw[Ys,YH];exact⟨λd a=>by obtain⟨o,_,rfl⟩:=Yt.mp a;rfl,rfl⟩
def sgD(e:Ev):D:=.str (sT (evT e))
def evO(e:Ev):List Op:=match e.2 with|none=>[]|some m=>[(e.1,m.1)]
def vg(ms:List Mk):Prop:=(∀q∈ms,okM q)/\ms≠[]/\ms.length<=3
def xB(e:Ev):Prop:=match e.2 with|none=>False|some m=>vg m.2
noncomputable abbrev clB (C:Addr):DF->Option RES:=(wT (bOr (nW (asB (d2 eqD (am 3) (cI 6)))) (tF eqD (x2 aA (ay (au C) (aN (ah (getV 0)) (az 1 bJ))) (ah (cI 3))) (ah (cI 0)))) (ag (oY 2 "open" (asT (al (getV 7) (al (getV 8) bp))))
  (ag (aT 9 (d2 jA (d2 jA (cI 12) (d1 aQ (aS none 2 "ties"))) (d1 aQ (aS none 2 "open"))))
  (nX 6 (x2 ap (x2 ap (ah (d2 ap (d2 ap (λ_=>some (.str "{")) (d1 gv (am 7))) (λ_=>some (.str ":")))) (ay (bx C) (aN (ah (getV 0)) (az 1 (az 2 (aN (ah (getV 8)) (aN (ah (getV 3)) (aN (ah (getV 9)) bJ)))))))) (ah (λ_=>some (.str "}"))))))) dNx)
abbrev plF(ns:List Int)(A:OD)(t1:Option Addr)(st:OD)(t2:Option Addr)(here:Int)(n k:D)(sg:List D)(c b a x:Option DV):DF:=
 [some (SC ns),sO A t1,sO st t2,sI here,sV n,sV k,sO (.lst sg) none,c,b,a,x]
section
variable   {K G:List D}{p s n k:D} 
theorem D7(w:ns.length<=100)(o:okSm s){op:Op}{kept aR:List Op}{A:OD}{b:Nat}(H:At A b)(E:b+10<=1000000000)(e:op.1<=99)(z:op∉kept)(P:T.length+(kept++op::aR).length<=12)(m:sg.length<1000):∃(A':OD) (ms:List Mk),At A' (b+7)/\vg ms/\T.length+ms.length+(kept++aR).length<=12/\∀(t1 t2:Option Addr) (g c:Option DV),∃f,
  (ag (oY 2 "open" (asT (al (getV 7) (al (getV 8) bp))))
  (ag (aT 9 (d2 jA (d2 jA (cI 12) (d1 aQ (aS none 2 "ties"))) (d1 aQ (aS none 2 "open"))))
  (nX 6 (x2 ap (x2 ap (ah (d2 ap (d2 ap (λ_=>some (.str "{")) (d1 gv (am 7))) (λ_=>some (.str ":")))) (ay (bx C) (aN (ah (getV 0)) (az 1 (az 2 (aN (ah (getV 8)) (aN (ah (getV 3)) (aN (ah (getV 9)) bJ)))))))) (ah (λ_=>some (.str "}"))))))) (plF ns A t1 (stO K T ((kept++op::aR).map dOp) G U h p s) t2 here n k sg (sI op.1) (sI (op.2)) g c)
   = some (.nx (plF ns A' t1 (stO K (T++(ms.map (bC op.2 here)).map dT4) ((kept++aR).map dOp) G U h p s) t2 here n k (sg++[sgD (op.1,some (op.2,ms))]) (sI op.1) (sI (op.2)) f c)):=by
 have i:(kept++op::aR).length=(kept++aR).length+1:=by simp;omega
 have q:(1:Int)<=12-(T.length:Int)-(((kept++aR).map dOp).length:Int):=by rw[Yc];omega
 obtain⟨A',ms,M,l,L,J,I,j⟩:=pC (C:=C) (K:=K) (T:=T) (O:=(kept++aR).map dOp) (G:=G) (U:=U) (h:=h) (p:=p) (one:=op.2) (oth:=here) w o H E (by omega) q;rw[Yc]at I j;refine⟨A',ms,M,⟨l,L,J⟩,by omega,λt1 t2 g c=>⟨sI (12-(T.length:Int)-((kept++aR).length:Int)),?_⟩⟩;rw[ae (EH (d:=dOp op) rfl (Fp z))];rw[ae (ρ':=plF ns A t1 (stO K T ((kept++aR).map dOp) G U h p s) t2 here n k sg (sI op.1) (sI (op.2)) (sI (12-(T.length:Int)-((kept++aR).length:Int))) c) (by
  rw[bf,ao,ao,b8,b8,pU,me];show some (RES.nx _)=_;rw[Yc];rfl)]
 have B:=f9 op.1 30 (by decide) (Zc e (by decide));have u:=lQ l;have N:x2 ap (x2 ap (ah (d2 ap (d2 ap (λ_=>some (.str "{")) (d1 gv (am 7))) (λ_=>some (.str ":")))) (ay (bx C) (aN (ah (getV 0)) (az 1 (az 2 (aN (ah (getV 8)) (aN (ah (getV 3)) (aN (ah (getV 9)) bJ)))))))) (ah (λ_=>some (.str "}"))) (plF ns A t1 (stO K T ((kept++aR).map dOp) G U h p s) t2 here n k sg (sI op.1) (sI (op.2)) (sI (12-(T.length:Int)-((kept++aR).length:Int))) c)=some (sgD (op.1,some (op.2,ms)),plF ns A' t1 (stO K (T++(ms.map (bC op.2 here)).map dT4) ((kept++aR).map dOp) G U h p s) t2 here n k sg (sI op.1) (sI (op.2)) (sI (12-(T.length:Int)-((kept++aR).length:Int))) c):=by
  refine ig (a:=.str (sT (123::(dig op.1++58::mtx ms)))) (b:=.str (sT [125])) (ig (a:=.str (sT (123::(dig op.1++[58])))) (bE ?_) (vq ⟨_,rfl⟩ rfl rfl rfl j) ?_) (bE (by rw[<-s_c])) ?_
  ·rw[ao,ao,b8,s_o,s_p];show(((gv (.int (op.1:Int))).bind λy=>ap (.str (sT [123])) y).bind λx=>ap x (.str (sT [58])))=_;rw[mf (Zc e (by decide)),Ya,cm (by simp;omega),Ya,cm (by simp;omega)];rfl
  ·rw[cm (by simp;omega)];simp
  ·rw[cm (by simp;omega)];unfold sgD evT evR;simp
 show(Option.bind (x2 ap _ _ _) _)=_;rw[N,Ya];show(if sg.length<16777216 then _ else none)=_;rw[Yi (by omega)];rfl
theorem Bq(m:ns.length<=100)(B:okSm s){op:Op}{kept aR:List Op}{A:OD}{b:Nat}(I:At A b)(M:b+11<=1000000000)(i:op.1<=99)(E:op∉kept)(H:T.length+(kept++op::aR).length<=12)(g:sg.length<1000):∃(A':OD) (evs:List Ev) (a:List Op),At A' (b+8)/\((evs=[]/\a=kept++[op]/\here≠6)\/(a=kept/\∃ms,evs=[(op.1,some (op.2,ms))]/\vg ms/\T.length+ms.length+(kept++aR).length<=12))/\∀(t1 t2:Option Addr) (c x:Option DV),∃f,
  clB C (plF ns A t1 (stO K T ((kept++op::aR).map dOp) G U h p s) t2 here n k sg (sI op.1) (sI (op.2)) c x)
   = some (.nx (plF ns A' t1 (stO K (T++(evs.flatMap (evS here)).map dT4) ((a++aR).map dOp) G U h p s) t2 here n k (sg++evs.map sgD) (sI op.1) (sI (op.2)) f x)):=by
 unfold clB;by_cases o:here=6
 ·obtain⟨A',ms,y,w,u,q⟩:=D7 (C:=C) (K:=K) (T:=T) (G:=G) (U:=U) (h:=h) (p:=p) (n:=n) (k:=k) (here:=here) m B I (by omega) i E H g;refine⟨A',[(op.1,some (op.2,ms))],kept,y.mono (by omega),.inr ⟨rfl,ms,rfl,w,u⟩,λt1 t2 c x=>?_⟩;obtain⟨f,e⟩:=q t1 t2 c x;refine⟨f,?_⟩;have l:(bOr (nW (asB (d2 eqD (am 3) (cI 6)))) (tF eqD (x2 aA (ay (au C) (aN (ah (getV 0)) (az 1 bJ))) (ah (cI 3))) (ah (cI 0)))) (plF ns A t1 (stO K T ((kept++op::aR).map dOp) G U h p s) t2 here n k sg (sI op.1) (sI (op.2)) c x)=some (true,plF ns A t1 (stO K T ((kept++op::aR).map dOp) G U h p s) t2 here n k sg (sI op.1) (sI (op.2)) c x):=by unfold bOr nW;rw[bL,ao];show(Option.map _ (match eqD (.int here) (.int 6)with|some (.bl b)=>some b|_=>none:Option Bool)).bind _=_;rw[d_,YA o];rfl
  unfold wT;rw[l];refine Eq.trans e ?_;rw[show([(op.1,some (op.2,ms))]:List Ev).flatMap (evS here)=ms.map (bC op.2 here)from by simp[evS]];rfl
 ·obtain⟨v,J,j,_,_,L⟩:=em C ns m I (by omega);have l:∀(t1 t2:Option Addr) (c x:Option DV),(bOr (nW (asB (d2 eqD (am 3) (cI 6)))) (tF eqD (x2 aA (ay (au C) (aN (ah (getV 0)) (az 1 bJ))) (ah (cI 3))) (ah (cI 0)))) (plF ns A t1 (stO K T ((kept++op::aR).map dOp) G U h p s) t2 here n k sg (sI op.1) (sI (op.2)) c x)=some (decide (v%3=0),plF ns J t1 (stO K T ((kept++op::aR).map dOp) G U h p s) t2 here n k sg (sI op.1) (sI (op.2)) c x):=λt1 t2 c x=>by
   unfold bOr nW;rw[bL,ao];show(Option.map _ (match eqD (.int here) (.int 6)with|some (.bl b)=>some b|_=>none:Option Bool)).bind _=_;rw[d_,Yn o];show tF _ _ _ _=_;unfold tF;rw[ig (mZ (by decide) L) (bE rfl) (d_ _ _)];rfl
  by_cases z:v%3=0
  ·obtain⟨A',ms,y,w,u,q⟩:=D7 (C:=C) (K:=K) (T:=T) (G:=G) (U:=U) (h:=h) (p:=p) (n:=n) (k:=k) (here:=here) m B j (by omega) i E H g;refine⟨A',[(op.1,some (op.2,ms))],kept,y.mono (by omega),.inr ⟨rfl,ms,rfl,w,u⟩,λt1 t2 c x=>?_⟩;obtain⟨f,e⟩:=q t1 t2 c x;refine⟨f,?_⟩;unfold wT;rw[l,YA z];refine Eq.trans e ?_;rw[show([(op.1,some (op.2,ms))]:List Ev).flatMap (evS here)=ms.map (bC op.2 here)from by simp[evS]];rfl
  ·refine⟨J,[],kept++[op],j.mono (by omega),.inl ⟨rfl,rfl,o⟩,λt1 t2 c x=>⟨c,?_⟩⟩;unfold wT;rw[l,Yn z];show some (RES.nx _)=_;rw[show([]:List Ev).flatMap (evS here)=[]from rfl,Zd,Zd,Yg,Yg,Yk];rfl
end
section
variable   {K G:List D}{p s n k:D} 
theorem C6(hl:ns.length<=100)(hs:okSm s):∀(aR kept:List Op) (A:OD) (b:Nat) (T sg:List D),At A b->b+8*aR.length+11<=1000000000->(∀o∈aR,o.1<=99)->(kept++aR).Nodup->T.length+(kept++aR).length<=12->sg.length+aR.length<1000->
  ∃(A':OD) (evs:List Ev) (a:List Op),At A' (b+8*aR.length)/\(a++evs.flatMap evO).Perm (kept++aR)/\(∀e∈evs,xB e)/\T.length+(evs.flatMap (evS here)).length+a.length<=12/\(here=6->a=kept)/\evs.length<=aR.length/\∀(t1 t2:Option Addr) (y w m x:Option DV),∃E B g,
   c7 (jZ [7,8]) (clB C) (aR.map dOp) (plF ns A t1 (stO K T ((kept++aR).map dOp) G U h p s) t2 here n k sg y w m x)=some (.nx (plF ns A' t1 (stO K (T++(evs.flatMap (evS here)).map dT4) (a.map dOp) G U h p s) t2 here n k (sg++evs.map sgD) E B g x)):=by
 intro aR;induction aR with
 |nil=>
  intro kept A b T sg Q _ _ _ q _;refine⟨A,[],kept,Q,?_,(λe he=>nomatch he),?_,λ_=>rfl,Yy _,λt1 t2 y w m x=>⟨y,w,m,?_⟩⟩
  ·rw[Yg];exact List.Perm.of_eq (by simp)
  ·rw[Yg]at q;simpa using q
  ·rw[Yg,show([]:List Ev).flatMap (evS here)=[]from rfl,Zd,Zd,Zd,Yg,Yg];rfl
 |cons f aR ih=>
  intro kept A b T sg Q hb u J q M;rw[Yh]at hb M;have I:f∉kept:=λz=>by
   have:=(YO.mp J).2.2 f z f Yf;exact this rfl
  obtain⟨A1,c,i,P,hc,j⟩:=Bq (C:=C) (K:=K) (T:=T) (G:=G) (U:=U) (h:=h) (p:=p) (n:=n) (k:=k) (here:=here) (sg:=sg) hl hs Q (by omega) (u f Yf) I q (by omega);have S:(kept++f::aR).length=(kept++aR).length+1:=by simp;omega
  have l:(i++aR).Nodup/\(T++(c.flatMap (evS here)).map dT4).length+(i++aR).length<=12/\(i++c.flatMap evO).Perm (kept++[f])/\(∀e∈c,xB e)/\(here=6->i=kept)/\c.length<=1/\(sg++c.map sgD).length+aR.length<1000:=by
   rcases hc with⟨rfl,rfl,h6⟩|⟨rfl,ms,rfl,hm,N⟩
   ·refine⟨by rw[Yk];exact J,?_,List.Perm.of_eq (by simp),(λe he=>nomatch he),λz=>absurd z h6,by simp,?_⟩
    ·rw[Yk];simpa using q
    ·simp;omega
   ·refine⟨?_,?_,List.Perm.of_eq (by simp[evO]),λe he=>?_,λ_=>rfl,by simp,?_⟩
    ·exact(List.Perm.nodup_iff List.perm_middle).mp J |> λz=>(YF.mp z).2
    ·simp[evS]at N ⊢;omega
    ·rw[Yl]at he;subst he;exact hm
    ·simp;omega
  obtain⟨f1,f2,f3,f4,f5,f7,f6⟩:=l;obtain⟨A2,R,L,O,p2,c2,H,s2,n2,l2⟩:=ih i A1 (b+8) (T++(c.flatMap (evS here)).map dT4) (sg++c.map sgD) P (by omega) (λo ho=>u o (Ye _ ho)) f1 f2 f6;refine⟨A2,c++R,L,O.mono (by rw[Yh];omega),?_,λe he=>?_,?_,λz=>(s2 z).trans (f5 z),by rw[Yb,Yh];omega,λt1 t2 y w m x=>?_⟩
  ·rw[YY];have q1:(L++(c.flatMap evO++R.flatMap evO)).Perm ((L++R.flatMap evO)++c.flatMap evO):=by rw[Yk];exact Xh _ Xi
   refine q1.trans ((ZI _ p2).trans ?_);have q2:(i++aR++c.flatMap evO).Perm ((i++c.flatMap evO)++aR):=by rw[Yk,Yk];exact Xh _ Xi
   refine q2.trans ((ZI _ f3).trans ?_);rw[Yk];exact Xo _
  ·rcases Yj.mp he with he|he
   ·exact f4 e he
   ·exact c2 e he
  ·rw[YY,Yb];rw[Yb,Yc]at H;omega
  ·obtain⟨g,es⟩:=j t1 t2 m x;obtain⟨Z,Y,X,el⟩:=l2 t1 t2 (sI f.1) (sI (f.2)) g x;refine⟨Z,Y,X,?_⟩;rw[YC];unfold c7;show(match clB C (plF ns A t1 (stO K T ((kept++f::aR).map dOp) G U h p s) t2 here n k sg (sI f.1) (sI (f.2)) m x)with|some (.nx ρ)=>c7 (jZ [7,8]) (clB C) (aR.map dOp) ρ|some (.ct ρ)=>c7 (jZ [7,8]) (clB C) (aR.map dOp) ρ|some (.bk ρ)=>some (.nx ρ)|r=>r)=_;rw[es];simp only;rw[el,YY,Yw,Yw,Yk,Yk]
end
theorem t_{a:Type}[DecidableEq a]:∀(l U:List a),l.Nodup->(∀x∈l,x∈U)->l.length<=U.length
 |[],_,_,_=>YS _
 |x::l,U,nd,h=>by
  have c:=h x Yf;have:=t_ l (U.erase x) (YF.mp nd).2 λy b=>(List.mem_erase_of_ne λz=>(YF.mp nd).1 (by rw[<-z];exact b)).mpr (h y (Ye _ b))
  rw[List.length_erase_of_mem c]at this;have e:0<U.length:=List.length_pos_of_mem c;rw[Yh];omega
theorem sF(P:Nat->Bool):∀N,(∀i,i<N->P i=true)\/∃j,j<N/\P j=false/\∀i,i<j->P i=true
 |0=>.inl λi h=>absurd h (by omega)
 |N+1=>by
  rcases sF P N with h|⟨j,hj,h1,h2⟩
  ·cases a:P N with
   |true=>
    refine .inl λi b=>?_;rcases Nat.lt_or_ge i N with q|q
    ·exact h i q
    ·rw[show i=N by omega];exact a
   |false=>exact .inr ⟨N,by omega,a,h⟩
  ·exact .inr ⟨j,by omega,h1,h2⟩
def cyc(x i:Nat):Nat:=(x-1+i)%99+1
theorem Cz(U:List Nat)(p:U.length<99)(x:Nat):∃j,j<99/\cyc x j∉U/\∀i,i<j->cyc x i∈U:=by
 rcases sF (λi=>decide (cyc x i∈U)) 99 with h|⟨j,hj,h1,h2⟩
 ·have g:((List.range 99).map (cyc x)).Nodup:=by refine XG.mpr (List.Pairwise.imp_of_mem ?_ (List.nodup_range (n:=99)));intro a b o m f e;rw[Zz]at o m;unfold cyc at e;exact f (by omega)
  have:=t_ _ U g λy l=>by
   obtain⟨i,c,rfl⟩:=Yt.mp l;exact YV (h i (Zz.mp c))
  rw[Yc,XE]at this;omega
 ·exact⟨j,hj,of_decide_eq_false h1,λi c=>YV (h2 i c)⟩
def dUs(U:List Nat):List D:=U.map λn:Nat=>D.int (n:Int)
def IC(x:Nat)(U:List Nat):inD (.int (x:Int)) (.lst (dUs U))=some (.bl (decide (x∈U))):=by
 have c:(dUs U).all (okN 29)=true:=by rw[YH];intro d h;obtain⟨n,_,rfl⟩:=Yt.mp h;rfl
 show(if(okN 30 (.int (x:Int))&&(dUs U).all (okN 29))=true then some (D.bl ((dUs U).any λz=>eqd z (.int (x:Int))))else none)=_;rw[c,Yi (show(okN 30 (D.int (x:Int))&&true)=true from rfl)];refine YM (λb=>some (D.bl b)) ?_;rw[Bool.eq_iff_iff,List.any_eq_true,YE];constructor
 ·rintro⟨d,h,e⟩;obtain⟨n,f,rfl⟩:=Yt.mp h;rw[lV,YE]at e;rw[show x=n by omega];exact f
 ·intro a;exact⟨_,Yt.mpr ⟨x,a,rfl⟩,by rw[lV];simp⟩
noncomputable abbrev opB (C:Addr):DF->Option RES:=(dIf (cR (asB (d2 ltd (am 3) (cI 6))) (asB (d2 ltd (d2 ap (d1 aQ (aS none 2 "ties")) (d1 aQ (aS none 2 "open"))) (cI 12)))) (ag (aY 7 (x2 ap (ah (cI 1)) (x2 aA (ay (au C) (aN (ah (getV 0)) (az 1 bJ))) (ah (cI 99)))))
  (ag (bv (asB (d2 inD (am 7) (aS none 2 "used"))) (aT 7 (d2 ap (d2 aA (aj 7) (cI 99)) (cI 1))) 100)
  (ag (b9 none 2 "used" (getV 7))
  (ag (b9 none 2 "open" (asT (al (getV 7) (al (getV 3) bp))))
  (iu 6 (d2 ap (d2 ap (λ_=>some (.str "{")) (d1 gv (am 7))) (λ_=>some (.str "}")))))))) dNx)
section
variable   {K G:List D}{p s n k:D} 
theorem FB(x i:Nat):1<=cyc x i/\cyc x i<=99:=by unfold cyc;omega
theorem BF{U:List Nat}{x:Nat}{A:OD}{g c a:Option DV}(o:cyc x j∉U)(hi:∀i,i<j->cyc x i∈U):∀(d i f:Nat),i+d=j->d<f->
  bv (asB (d2 inD (am 7) (aS none 2 "used"))) (aT 7 (d2 ap (d2 aA (aj 7) (cI 99)) (cI 1))) f (plF ns A t1 (stO K T O G (dUs U) h p s) t2 here n k sg (sI (cyc x i:Int)) g c a)=some (.nx (plF ns A t1 (stO K T O G (dUs U) h p s) t2 here n k sg (sI (cyc x j:Int)) g c a)):=by
 have l:∀i,asB (d2 inD (am 7) (aS none 2 "used")) (plF ns A t1 (stO K T O G (dUs U) h p s) t2 here n k sg (sI (cyc x i:Int)) g c a)=some (decide (cyc x i∈U)):=λi=>by
  rw[bL,ao,B9];show(match inD (.int (cyc x i:Int)) (.lst (dUs U))with|some (.bl b)=>some b|_=>none:Option Bool)=_;rw[IC]
 intro d;induction d with
 |zero=>
  intro i f e q;obtain⟨f,rfl⟩:∃m,f=m+1:=⟨f-1,by omega⟩
  rw[show i=j by omega];exact eI ((l j).trans (by rw[Yn o]))
 |succ d ih=>
  intro i f e q;obtain⟨f,rfl⟩:∃m,f=m+1:=⟨f-1,by omega⟩
  rw[fq (ρ':=plF ns A t1 (stO K T O G (dUs U) h p s) t2 here n k sg (sI (cyc x (i+1):Int)) g c a) ((l i).trans (by rw[YA (hi i (by omega))])) (by
   rw[bf,ao,ao];show Option.map _ ((aA (.int (cyc x i:Int)) (.int 99)).bind λy=>ap y (.int 1))=_;rw[aU _ 99 (by decide)];have:(cyc x i:Int)%99+1=(cyc x (i+1):Int):=by unfold cyc;omega
   show some (RES.nx (List.set _ 7 (sI ((cyc x i:Int)%99+1))))=_;rw[this];rfl)]
  exact ih (i+1) f (by omega) (by omega)
def evN(here:Int)(e:Ev):List Op:=match e.2 with|none=>[(e.1,here)]|some _=>[]
def evU(e:Ev):List Nat:=match e.2 with|none=>[e.1]|some _=>[]
def xO(e:Ev):Prop:=e.2=none/\1<=e.1/\e.1<=99
theorem CT(P:ns.length<=100){O:List Op}{U:List Nat}{A:OD}{b:Nat}(H:At A b)(hb:b+10<=1000000000)(X:T.length+O.length<=12)(S:U.length<99)(N:sg.length<1000):∃(A':OD) (evs:List Ev),At A' (b+1)/\evs.length<=1/\(∀e∈evs,xO e/\here<6/\e.1∉U)/\T.length+(O++evs.flatMap (evN here)).length<=12/\∀(t1 t2:Option Addr) (g f c a:Option DV),∃u,
  opB C (plF ns A t1 (stO K T (O.map dOp) G (dUs U) h p s) t2 here n k sg g f c a)=some (.nx (plF ns A' t1 (stO K T ((O++evs.flatMap (evN here)).map dOp) G (dUs (U++evs.flatMap evU)) h p s) t2 here n k (sg++evs.map sgD) u f c a)):=by
 have J:∀(t1 t2:Option Addr) (g f c a:Option DV),(cR (asB (d2 ltd (am 3) (cI 6))) (asB (d2 ltd (d2 ap (d1 aQ (aS none 2 "ties")) (d1 aQ (aS none 2 "open"))) (cI 12)))) (plF ns A t1 (stO K T (O.map dOp) G (dUs U) h p s) t2 here n k sg g f c a)=some (decide (here<6)&&decide ((T.length:Int)+(O.length:Int)<12)):=λt1 t2 g f c a=>by
  rw[fU,bL,bL,ao,ao,ao,b8,b8,pU,me];show(some (decide (here<6))).bind (λb=>if b=true then some (decide ((T.length:Int)+((O.map dOp).length:Int)<12))else some false)=_;rw[Yc];cases decide (here<6)<;>rfl
 by_cases z:(decide (here<6)&&decide ((T.length:Int)+(O.length:Int)<12))=true
 ·have l:=z;rw[Ys,YE,YE]at l;obtain⟨v,q,B,v0,_,M⟩:=em C ns P H (by omega)
  let x:=(1+v%99).toNat
  have L:((x:Nat):Int)=1+v%99:=by show(((1+v%99).toNat:Nat):Int)=_;omega
  obtain⟨j,hj,I,Y⟩:=Cz U S x;have w:cyc x 0=x:=by
   have:1<=x/\x<=99:=by omega
   unfold cyc;omega
  have i:=FB x j;generalize E:cyc x j=m at *;have Q:=f9 m 30 (by decide) (Zc i.2 (by decide));refine⟨q,[(m,none)],B,by simp,λe o=>?_,?_,λt1 t2 g f c a=>⟨sI m,?_⟩⟩
  ·rw[Yl]at o;subst o;exact⟨⟨rfl,i⟩,l.1,I⟩
  ·rw[Yb];show T.length+(O.length+1)<=12;omega
  ·unfold opB;rw[cu,J,Ya,Yi z];rw[ae (ρ':=plF ns q t1 (stO K T (O.map dOp) G (dUs U) h p s) t2 here n k sg (sI (cyc x 0:Int)) f c a) (by
    rw[w,L];exact cc (ig (bE rfl) (mZ (by decide) M) rfl))]
   rw[ae (BF (x:=x) (j:=j) (by rw[E];exact I) Y j 0 100 (by omega) (by omega)),E];have R:(dUs U).length=U.length:=Yc ..;rw[ae (BY (d:=.int (m:Int)) rfl (by omega))];rw[ae (Dx (d:=dOp (m,here)) rfl (by rw[Yc];omega))];have Z:(d2 ap (d2 ap (λ_=>some (.str "{")) (d1 gv (am 7))) (λ_=>some (.str "}"))) (plF ns q t1 (stO K T (O.map dOp++[dOp (m,here)]) G (dUs U++[.int (m:Int)]) h p s) t2 here n k sg (sI m) f c a)=some (sgD (m,none)):=by rw[ao,ao,b8,s_o,s_c];show(((gv (.int (m:Int))).bind λy=>ap (.str (sT [123])) y).bind λx=>ap x (.str (sT [125])))=_;rw[mf (Zc i.2 (by decide)),Ya,cm (by simp;omega),Ya,cm (by simp;omega)];rfl
   show(Option.bind ((d2 ap (d2 ap (λ_=>some (.str "{")) (d1 gv (am 7))) (λ_=>some (.str "}"))) (plF ns q t1 (stO K T (O.map dOp++[dOp (m,here)]) G (dUs U++[.int (m:Int)]) h p s) t2 here n k sg (sI m) f c a)) _)=_;rw[Z,Ya];show(if sg.length<16777216 then _ else none)=_;rw[Yi (by omega)];have e1:O.map dOp++[dOp (m,here)]=(O++([(m,none)]:List Ev).flatMap (evN here)).map dOp:=by rw[Yw];rfl
   have e2:dUs U++[.int (m:Int)]=dUs (U++([(m,none)]:List Ev).flatMap evU):=by unfold dUs;rw[Yw];rfl
   rw[e1,e2];rfl
 ·refine⟨A,[],H.mono (by omega),by simp,(λe o=>nomatch o),by simpa using X,λt1 t2 g f c a=>⟨g,?_⟩⟩;unfold opB;rw[cu,J,Ya,Yr z];show some (RES.nx _)=_;rw[show([]:List Ev).flatMap (evN here)=[]from rfl,show([]:List Ev).flatMap evU=[]from rfl,Zd,Yg,Yg,Yg]
theorem Cm(hl:ns.length<=100):∀(is:List Int) (O:List Op) (U:List Nat) (A:OD) (b:Nat) (sg:List D),At A b->b+is.length+10<=1000000000->T.length+O.length<=12->U.length+is.length<99->U.Nodup->sg.length+is.length<1000->
  ∃(A':OD) (evs:List Ev),At A' (b+is.length)/\evs.length<=is.length/\(∀e∈evs,xO e/\here<6)/\(U++evs.flatMap evU).Nodup/\T.length+(O++evs.flatMap (evN here)).length<=12/\∀(t1 t2:Option Addr) (o j g x:Option DV),∃l u,
   c7 (setV 10) (opB C) (is.map .int) (plF ns A t1 (stO K T (O.map dOp) G (dUs U) h p s) t2 here n k sg o j g x)=some (.nx (plF ns A' t1 (stO K T ((O++evs.flatMap (evN here)).map dOp) G (dUs (U++evs.flatMap evU)) h p s) t2 here n k (sg++evs.map sgD) l j g u)):=by
 intro is;induction is with
 |nil=>
  intro O U A b sg N _ J _ w _;refine⟨A,[],N,by simp,(λe he=>nomatch he),?_,by simpa using J,λt1 t2 o j g x=>⟨o,x,?_⟩⟩
  ·rw[show([]:List Ev).flatMap evU=[]from rfl,Yg];exact w
  ·rw[show([]:List Ev).flatMap (evN here)=[]from rfl,show([]:List Ev).flatMap evU=[]from rfl,Zd,Zd,Yg,Yg,Yg];rfl
 |cons i is ih=>
  intro O U A b sg N hb J hU w I;rw[Yh]at hb hU I;obtain⟨A1,f,M,n1,H,E,X⟩:=CT (C:=C) (K:=K) (T:=T) (G:=G) (h:=h) (p:=p) (s:=s) (n:=n) (k:=k) (here:=here) (O:=O) (U:=U) (sg:=sg) hl N (by omega) J (by omega) (by omega);have S:(f.flatMap evU).length<=1/\(U++f.flatMap evU).Nodup:=by
   cases f with
   |nil=>exact⟨by simp,by simpa using w⟩
   |cons e r=>
    cases r with
    |cons e' r=>simp at n1
    |nil=>
     have:=H e Yf;obtain⟨m,q⟩:=e;have Y:q=none:=this.1.1;subst Y;refine⟨by simp[evU],?_⟩;show(U++[m]).Nodup;refine YO.mpr ⟨w,by simp,λa ha c Q z=>?_⟩;rw[Yl]at Q;exact this.2.2 (by rw[<-Q,<-z];exact ha)
  obtain⟨A2,e2,L,n2,Z,P,B,lp⟩:=ih (O++f.flatMap (evN here)) (U++f.flatMap evU) A1 (b+1) (sg++f.map sgD) M (by omega) E (by rw[Yb];omega) S.2 (by rw[Yb,Yc];omega);refine⟨A2,f++e2,L.mono (by rw[Yh];omega),by rw[Yb,Yh];omega,λe he=>?_,?_,?_,λt1 t2 o j g x=>?_⟩
  ·rcases Yj.mp he with he|he
   ·exact⟨(H e he).1,(H e he).2.1⟩
   ·exact Z e he
  ·rw[YY,<-Yk];exact P
  ·rw[YY,<-Yk];exact B
  ·obtain⟨l,es⟩:=X t1 t2 o j g (sI i);obtain⟨R,y,el⟩:=lp t1 t2 l j g (sI i);refine⟨R,y,?_⟩;rw[YC];unfold c7;show(match opB C (plF ns A t1 (stO K T (O.map dOp) G (dUs U) h p s) t2 here n k sg o j g (sI i))with|some (.nx ρ)=>c7 (setV 10) (opB C) (is.map .int) ρ|some (.ct ρ)=>c7 (setV 10) (opB C) (is.map .int) ρ|some (.bk ρ)=>some (.nx ρ)|r=>r)=_;rw[es];simp only;rw[el,YY,YY,Yw (l₁:=f),<-Yk,<-Yk,<-Yk]
end
def mO{a b:Type}{f:a->List b}{l:List a}(h:∀e∈l,f e=[]):l.flatMap f=[]:=List.flatMap_eq_nil_iff.mpr h
theorem u4:∀L:List (List Nat),Str.join (sT []) (L.map sT)=sT L.flatten
 |[]=>rfl
 |[x]=>by rw[Za,XO,Yg];rfl
 |x::y::r=>by
  have ih:=u4 (y::r);show sT x++sT []++Str.join (sT []) ((y::r).map sT)=_;rw[ih,uI,uI,Yg];rfl
theorem Cf{e:Ev}(h:xB e\/xO e)(a:e.1<=99):(evT e).length<=200:=by
 obtain⟨n,m⟩:=e;have b:=f9 n 30 (by decide) (Zc a (by decide));cases m with
 |none=>unfold evT evR;simp;omega
 |some m=>
  rcases h with h|h
  ·have h:vg m.2:=h;have:=lQ h.1;have:=h.2.2;unfold evT evR;simp;omega
  ·cases h.1
theorem qu:∀{L:List Nat}{c:Nat},(∀x∈L,x<=c)->L.sum<=c*L.length
 |[],_,_=>by simp
 |x::L,c,h=>by
  have e:=h x Yf;have b:=qu (L:=L) λy a=>h y (Ye _ a)
  rw[List.sum_cons,Yh,Nat.mul_succ];omega
theorem Aa{evs:List Ev}(h:∀e∈evs,(evT e).length<=200)(i:evs.length<=100):mX (.str (sT [])) (.lst (evs.map sgD))=some (.str (sT (evs.flatMap evT))):=by
 have b:(evs.map sgD).map txt=(evs.map evT).map sT:=by rw[Zl,Zl];rfl
 show(if iQ (sT []) (evs.map sgD)=true then some (D.str (Txt.join (sT []) ((evs.map sgD).map txt)))else none)=_;rw[Yi,b]
 ·show some (D.str (Builtin.Str.glued (sT []) _))=_;rw[StrLaws.glued_eq_join,u4,List.flatMap_def]
 ·unfold iQ;rw[Ys,YH,YE,b];refine⟨λd g=>by obtain⟨e,_,rfl⟩:=Yt.mp g;rfl,?_⟩;have:=qu (L:=((evs.map evT).map sT).map (·.length)) (c:=200) λx a=>by
   rw[Zl,Zl]at a;obtain⟨e,f,rfl⟩:=Yt.mp a;show(sT (evT e)).length<=200;rw[dH];exact h e f
  rw[Yc,Yc,Yc]at this;rw[Yc,Yc,show(sT []).length=0 from rfl,Nat.mul_zero];omega
def okPl(p:D):Prop:=∃a b c:List Nat,okW (sT a)/\okW (sT b)/\okW (sT c)/\p=.lst [.str (sT a),.str (sT b),.str (sT c)]
def okPl.at{p:D}(h:okPl p)(v:Int):∃k:List Nat,okW (sT k)/\ixD p (.int (v%3))=some (.str (sT k)):=by
 obtain⟨a,b,c,i,g,f,rfl⟩:=h;rcases CP v with e|e|e
 ·exact⟨a,i,by rw[e];rfl⟩
 ·exact⟨b,g,by rw[e];rfl⟩
 ·exact⟨c,f,by rw[e];rfl⟩
def lst(K:List Str)(T:List T4)(O:List Op)(G:List Int)(U:List Nat)(h p s:D):OD:=stO (K.map .str) (T.map dT4) (O.map dOp) (G.map .int) (dUs U) h p s
structure LS where
 K:List Str
 T:List T4
 O:List Op
 G:List Int
 U:List Nat
 h:Int
structure PlOk (L:LS) (kd:List Nat) (evs0 evs:List Ev) (O':List Op):Prop where
 kd:okW (sT kd)
 pm:evs.Perm evs0
 ok:∀e∈evs0,xB e\/xO e
 io:∀e∈evs0,∀m,e.2=some m->(e.1,m.1)∈L.O
 op:(O'++evs0.flatMap evO).Perm (L.O++evs0.flatMap (evN (L.K.length:Int)))
 nu:(L.U++evs0.flatMap evU).Nodup
 le:L.T.length+(evs0.flatMap (evS (L.K.length:Int))).length+O'.length<=12
 six:L.K.length=6->O'=[]
 n15:evs0.length<=15
 sg:(evs.flatMap evT).length<=3000
theorem wL{p s:D}(hl:ns.length<=100)(hs:okSm s)(hp:okPl p){A:OD}{b:Nat}(hA:At A b)(hb:b+200<=1000000000){K:List Str}{T:List T4}{O:List Op}{G:List Int}{U:List Nat}(hK:K.length<=7)(hO:O.Nodup)(P:∀o∈O,o.1<=99)(hT:T.length+O.length<=12)(hU:U.length<90)(nU:U.Nodup) :
  ∃(A':OD) (kd:List Nat) (evs0 evs:List Ev) (O':List Op),At A' (b+200)/\(∀h:Int,PlOk ⟨K,T,O,G,U,h⟩ kd evs0 evs O') /\
  bb C [SC ns,.own A none,.own (lst K T O G U h p s) none]=some ([SC ns,.own A' none,.own (lst (K++[sT kd]) (T++evs0.flatMap (evS (K.length:Int))) O' G (U++evs0.flatMap evU) h p s) none],.str (sT (plT kd evs))):=by
 obtain⟨v,H,hA1,v0,_,hv⟩:=em C ns hl hA (by omega);obtain⟨kd,N,hat⟩:=hp.at v;have hO12:O.length<=12:=by omega
 obtain⟨A2,g,j,hA2,pc,oc,tc,c6,lc,eL⟩:=C6 (C:=C) (K:=(K++[sT kd]).map .str) (G:=G.map .int) (U:=dUs U) (h:=h) (p:=p) (n:=.int v) (k:=.str (sT kd)) (here:=(K.length:Int)) hl hs O [] H (b+1) (T.map dT4) [] hA1 (by omega) P (by simpa using hO) (by simpa using hT) (by simp;omega);rw[Zg]at pc;rw[Yc]at tc;have hm:-2<=v/3%6-2/\v/3%6-2<=3:=by omega
 have hrl:=dJ (v/3%6-2);obtain⟨R,i,hA3,lo,E,nu,to,eL2⟩:=Cm (C:=C) (K:=(K++[sT kd]).map .str) (T:=(T++g.flatMap (evS (K.length:Int))).map dT4) (G:=G.map .int) (h:=h) (p:=p) (s:=s) (n:=.int v) (k:=.str (sT kd)) (here:=(K.length:Int)) hl (ff (v/3%6-2)) j U A2 (b+1+8*O.length) ([]++g.map sgD) hA2 (by omega) (by rw[Yc,Yb];omega) (by omega) nU (by simp;omega);rw[Yc,Yb]at to;have z1:i.flatMap evO=[]:=mO λe he=>by obtain⟨n,m⟩:=e;have q:m=none:=(E _ he).1.1;subst q;rfl
 have z2:i.flatMap (evS (K.length:Int))=[]:=mO λe he=>by obtain⟨n,m⟩:=e;have q:m=none:=(E _ he).1.1;subst q;rfl
 have z3:g.flatMap (evN (K.length:Int))=[]:=mO λe he=>by
  obtain⟨n,m⟩:=e;cases m with
  |none=>exact absurd (oc _ he) id
  |some m=>rfl
 have z4:g.flatMap evU=[]:=mO λe he=>by
  obtain⟨n,m⟩:=e;cases m with
  |none=>exact absurd (oc _ he) id
  |some m=>rfl
 have hev:∃evs:List Ev,evs.Perm (g++i)/\∀(t1 t2:Option Addr) (st:OD) (x7 Z Y l:Option DV),dIf (asB (d2 eqD (d2 aA (d2 bu (aj 4) (cI 18)) (cI 2)) (cI 1))) (BK 6) dNx (plF ns R t1 st t2 (K.length:Int) (.int v) (.str (sT kd)) ((g++i).map sgD) x7 Z Y l)=some (.nx (plF ns R t1 st t2 (K.length:Int) (.int v) (.str (sT kd)) (evs.map sgD) x7 Z Y l)):=by
  have Q:=b5 v 18 (by decide);have m2:=aU (v/18) 2 (by decide);by_cases q:v/18%2=1
  ·refine⟨(g++i).reverse,List.reverse_perm _,λt1 t2 st x7 Z Y l=>?_⟩;rw[cu,bL,ao,ao,ao];show(match((bu (.int v) (.int 18)).bind λx=>aA x (.int 2)).bind λx=>eqD x (.int 1)with|some (.bl b)=>some b|_=>none:Option Bool).bind _=_;rw[Q,Ya,m2,Ya,d_,YA q,List.map_reverse];rfl
  ·refine⟨g++i,Xo _,λt1 t2 st x7 Z Y l=>?_⟩;rw[cu,bL,ao,ao,ao];show(match((bu (.int v) (.int 18)).bind λx=>aA x (.int 2)).bind λx=>eqD x (.int 1)with|some (.bl b)=>some b|_=>none:Option Bool).bind _=_;rw[Q,Ya,m2,Ya,d_,Yn q];rfl
 obtain⟨evs,u,M⟩:=hev;have B:∀e∈g++i,xB e\/xO e:=λe he=>by
  rcases Yj.mp he with he|he
  ·exact .inl (oc e he)
  ·exact .inr (E e he).1
 have J:∀e∈g++i,e.1<=99:=λe he=>by
  rcases Yj.mp he with he|he
  ·obtain⟨n,m⟩:=e;cases m with
   |none=>exact absurd (oc _ he) id
   |some m=>
    have:(n,m.1)∈j++g.flatMap evO:=Yj.mpr (.inr (Zq.mpr ⟨_,he,by simp[evO]⟩));exact P _ (pc.mem_iff.mp this)
  ·exact(E e he).1.2.2
 have w:∀e∈evs,(evT e).length<=200:=λe he=>Cf (B e (u.mem_iff.mp he)) (J e (u.mem_iff.mp he))
 have elen:evs.length<=15:=by rw[u.length_eq,Yb];omega
 have hfl:(evs.flatMap evT).length<=3000:=by
  rw[List.length_flatMap];have:=qu (L:=evs.map λa=>(evT a).length) (c:=200) λx hx=>by obtain⟨e,he,rfl⟩:=Yt.mp hx;exact w e he
  rw[Yc]at this;omega
 refine⟨R,kd,g++i,evs,j++i.flatMap (evN (K.length:Int)),hA3.mono (by omega),λh=>⟨N,u,B,λe he m hm=>?_,?_,?_,?_,λz=>?_,by rw[Yb];omega,hfl⟩,fQ rfl λf=>?_⟩
 ·rcases Yj.mp he with he|he
  ·exact pc.mem_iff.mp (Yj.mpr (.inr (Zq.mpr ⟨_,he,by unfold evO;rw[hm];simp⟩)))
  ·rw[(E e he).1.1]at hm;cases hm
 ·show(j++i.flatMap (evN (K.length:Int))++(g++i).flatMap evO).Perm (O++(g++i).flatMap (evN (K.length:Int)));rw[YY,YY,z1,z3,Yg,Zg];have q:(j++i.flatMap (evN (K.length:Int))++g.flatMap evO).Perm ((j++g.flatMap evO)++i.flatMap (evN (K.length:Int))):=by rw[Yk,Yk];exact Xh _ Xi
  exact q.trans (ZI _ pc)
 ·show(U++(g++i).flatMap evU).Nodup;rw[YY,z4,Zg];exact nu
 ·show T.length+((g++i).flatMap (evS (K.length:Int))).length+(j++i.flatMap (evN (K.length:Int))).length<=12;rw[YY,z2,Yg];omega
 ·have z:K.length=6:=z;rw[c6 (by omega),Zg];exact mO λe he=>by have:=(E e he).2;omega
 ·obtain⟨y7,X,S,f1⟩:=eL (some (f 1)) (some (f 2)) none none none none;obtain⟨w7,I,f2⟩:=eL2 (some (f 1)) (some (f 2)) y7 X S none;have hk3:kd.length<=3:=N.2.1;have e0:f_ C [some (SC ns),sO A (some (f 1)),sO (lst K T O G U h p s) (some (f 2)),none,none,none,none,none,none,none,none]=some (.rt (.v (.str (sT (plT kd evs)))) (plF ns R (some (f 1)) (lst (K++[sT kd]) (T++(g++i).flatMap (evS (K.length:Int))) (j++i.flatMap (evN (K.length:Int))) G (U++(g++i).flatMap evU) h p s) (some (f 2)) (K.length:Int) (.int v) (.str (sT kd)) (evs.map sgD) w7 X S I)):=by
   unfold f_ lst;rw[ae (ρ':=[some (SC ns),sO A (some (f 1)),sO (lst K T O G U h p s) (some (f 2)),sI K.length,none,none,none,none,none,none,none]) (by
    rw[bf,b8,sH];show some (RES.nx _)=_;rw[Yc];rfl)]
   rw[ae (cc (iW ⟨_,rfl⟩ hv))];rw[ae (ρ':=[some (SC ns),sO H (some (f 1)),sO (lst K T O G U h p s) (some (f 2)),sI K.length,sI v,sS kd,none,none,none,none,none]) (by
    rw[bf,ao,ao];show Option.map _ ((dR none 2 "pool" (some (SC ns)::sO H (some (f 1))::sO (stO (K.map .str) (T.map dT4) (O.map dOp) (G.map .int) (dUs U) h p s) (some (f 2))::_)).bind λx=>(aA (.int v) (.int 3)).bind λy=>ixD x y)=_;rw[C1,aU v 3 (by decide),Ya,Ya,hat];rfl)]
   rw[ae (show b9 none 2 "kinds" (getV 5) [some (SC ns),sO H (some (f 1)),sO (lst K T O G U h p s) (some (f 2)),sI K.length,sI v,sS kd,none,none,none,none,none]=some (RES.nx [some (SC ns),sO H (some (f 1)),sO (stO (K.map .str++[.str (sT kd)]) (T.map dT4) (O.map dOp) (G.map .int) (dUs U) h p s) (some (f 2)),sI K.length,sI v,sS kd,none,none,none,none,none])from C7 rfl (by rw[Yc];omega))];rw[show K.map D.str++[.str (sT kd)]=(K++[sT kd]).map D.str by rw[Yw];rfl];rw[ae (ρ':=plF ns H (some (f 1)) (stO ((K++[sT kd]).map .str) (T.map dT4) (O.map dOp) (G.map .int) (dUs U) h p s) (some (f 2)) (K.length:Int) (.int v) (.str (sT kd)) [] none none none none) rfl];rw[ae (ρ':=plF ns A2 (some (f 1)) (stO ((K++[sT kd]).map .str) (T.map dT4++(g.flatMap (evS (K.length:Int))).map dT4) (j.map dOp) (G.map .int) (dUs U) h p s) (some (f 2)) (K.length:Int) (.int v) (.str (sT kd)) ([]++g.map sgD) y7 X S none) (by
    rw[fT,mF,rg,jp,kZ,me];exact f1)]
   rw[<-Yw];rw[ae (ρ':=plF ns R (some (f 1)) (stO ((K++[sT kd]).map .str) ((T++g.flatMap (evS (K.length:Int))).map dT4) ((j++i.flatMap (evN (K.length:Int))).map dOp) (G.map .int) (dUs (U++i.flatMap evU)) h p s) (some (f 2)) (K.length:Int) (.int v) (.str (sT kd)) ([]++g.map sgD++i.map sgD) w7 X S I) (by
    rw[fT];refine(YM (λz=>Option.bind z _) (AI (n:=v/3%6-2) ?_ ⟨by omega,by omega⟩)).trans f2;rw[ao,ao,ao];show(((bu (.int v) (.int 3)).bind λx=>aA x (.int 6)).bind λx=>jA x (.int 2))=_;rw[b5 v 3 (by decide),Ya,aU _ 6 (by decide)];rfl)]
   rw[Zg,<-Yw (l₁:=g)];rw[ae (M _ _ _ _ _ _ _)];rw[YY,z2,Yg,YY,z4,Zg,show("":Str)=sT []by kernel_rfl,fg,ao,ao];show Option.map _ ((mX (.str (sT [])) (.lst (evs.map sgD))).bind λy=>ap (.str (sT kd)) y)=_;rw[Aa w (by omega),Ya,cm (by omega)];rfl
  show(f_ C [some (SC ns),sO A (some (f 1)),sO (lst K T O G U h p s) (some (f 2)),none,none,none,none,none,none,none,none]).bind _=_;rw[e0];simp[nH,gA]
structure LOk (L:LS):Prop where
 kw:∀k∈L.K,okW k
 k7:L.K.length<=7
 o7:L.K.length=7->L.O=[]
 le:L.T.length+L.O.length<=12
 on:(L.O.map (·.1)).Nodup
 ou:∀o∈L.O,o.1∈L.U
 op:∀o∈L.O,0<=o.2/\o.2<(L.K.length:Int)
 un:L.U.Nodup
 u9:∀n∈L.U,1<=n/\n<=99
 ul:L.U.length<=L.T.length+L.O.length
structure Rel (L:LS) (R:RS) (X:List T4):Prop where
 k:R.K=L.K
 t:(R.T++X).Perm L.T
 b:(R.bg.map (·.1)).Perm (L.U.map λn:Nat=>(n:Int))
 o:∀o∈L.O,((o.1:Int),o.2)∈R.bg/\(o.1:Int)∉R.cl
 c:∀n∈R.cl,n∈R.bg.map (·.1)
 n:R.cl.length+L.O.length=R.bg.length
def plL(L:LS)(kd:List Nat)(evs0:List Ev)(O':List Op):LS:=⟨L.K++[sT kd],L.T++evs0.flatMap (evS (L.K.length:Int)),O',L.G,L.U++evs0.flatMap evU,L.h⟩
theorem rO{n:Int}{t:T4}(h:okT n t):okT (n+1) t:=by unfold okT at h ⊢;omega
theorem rh{a b n:Int}{q:Mk}(g:0<=a/\a<n)(f:0<=b/\b<n)(c:a≠b)(h:okM q):okT n (bC a b q):=by
 have i:(q.1:Int)<1000000000000000000000000000000:=by
  have:=h.1;have e:(10:Nat)^30=1000000000000000000000000000000:=by decide
  omega
 unfold bC okT;split<;>simp only<;>omega
theorem kT:∀l:List Ev,(l.map (·.1)).Perm ((l.flatMap evO).map (·.1)++l.flatMap evU)
 |[]=>Xo _
 |(n,none)::l=>by
  show(n::l.map (·.1)).Perm ((l.flatMap evO).map (·.1)++n::l.flatMap evU);exact(List.Perm.cons _ (kT l)).trans List.perm_middle.symm
 |(n,some m)::l=>by
  show(n::l.map (·.1)).Perm (n::(l.flatMap evO).map (·.1)++l.flatMap evU);exact List.Perm.cons _ (kT l)
theorem gz(p:Int):∀l:List Ev,(l.flatMap (evN p)).map (·.1)=l.flatMap evU
 |[]=>rfl
 |(n,none)::l=>YM (n::·) (gz p l)
 |(n,some m)::l=>gz p l
theorem mD(p:Int):∀l:List Ev,(l.flatMap (evB p)).map (·.1)=(l.flatMap evU).map λn:Nat=>(n:Int)
 |[]=>rfl
 |(n,none)::l=>YM ((n:Int)::·) (mD p l)
 |(n,some m)::l=>mD p l
theorem l5(p:Int):∀l:List Ev,l.flatMap (evB p)=(l.flatMap (evN p)).map λo:Op=>((o.1:Int),o.2)
 |[]=>rfl
 |(n,none)::l=>YM (((n:Int),p)::·) (l5 p l)
 |(n,some m)::l=>l5 p l
theorem l_:∀l:List Ev,l.flatMap evC=(l.flatMap evO).map λo:Op=>(o.1:Int)
 |[]=>rfl
 |(n,none)::l=>l_ l
 |(n,some m)::l=>YM ((n:Int)::·) (l_ l)
theorem qT(p:Int):∀l:List Ev,(∀e∈l,xB e\/xO e)->(l.flatMap evO).length<=(l.flatMap (evS p)).length
 |[],_=>Yy _
 |(n,none)::l,h=>qT p l λe a=>h e (Ye _ a)
 |(n,some m)::l,h=>by
  have ih:=qT p l λe a=>h e (Ye _ a)
  have b:vg m.2:=by
   rcases h _ Yf with h|h
   ·exact h
   ·cases h.1
  have:0<m.2.length:=XY.mpr b.2.1;show((n,m.1)::l.flatMap evO).length<=(m.2.map (bC m.1 p)++l.flatMap (evS p)).length;rw[Yh,Yb,Yc];omega
def Perm.flat{c e:Type}{f:c->List e}{a b:List c}(h:a.Perm b):(a.flatMap f).Perm (b.flatMap f):=List.Perm.flatMap_right f h
section
variable{L:LS}{R:RS}{X:List T4}  {evs0 evs:List Ev}{O':List Op}
def qB(c:LOk L)(h:PlOk L kd evs0 evs O'):((O'++evs0.flatMap evO).map (·.1)).Nodup:=by
 have e:=(h.op.map (·.1))
 rw[Yw (l₁:=L.O),gz]at e;refine(e.nodup_iff).mpr (YO.mpr ⟨c.on,(YO.mp h.nu).2.1,λa i b g z=>?_⟩);obtain⟨o,f,rfl⟩:=Yt.mp i;exact(YO.mp h.nu).2.2 _ (c.ou o f) b g z
theorem IU(b:LOk L)(a:PlOk L kd evs0 evs O')(w:L.K.length<=6):LOk (plL L kd evs0 O'):=by
 have i:=qB b a;rw[Yw]at i;have len:=a.op.length_eq;rw[Yb,Yb]at len;have u:(evs0.flatMap (evN (L.K.length:Int))).length=(evs0.flatMap evU).length:=by rw[<-gz (L.K.length:Int),Yc]
 have s:=qT (L.K.length:Int) evs0 a.ok;have mem:∀o∈O',o∈L.O\/o∈evs0.flatMap (evN (L.K.length:Int)):=λo c=>Yj.mp (a.op.mem_iff.mp (Yj.mpr (.inl c)))
 have g:(plL L kd evs0 O').K.length=L.K.length+1:=by show(L.K++[sT kd]).length=_;rw[Yb];rfl
 refine⟨λk hk=>?_,by rw[g];omega,λz=>a.six (by rw[g]at z;omega),?_,(YO.mp i).1,λo c=>?_,λo c=>?_,a.nu,λn j=>?_,?_⟩
 ·rcases Yj.mp hk with hk|hk
  ·exact b.kw k hk
  ·rw[Yl]at hk;subst hk;exact a.kd
 ·have:=a.le;show(L.T++_).length+O'.length<=12;rw[Yb];exact this
 ·show o.1∈L.U++evs0.flatMap evU;rcases mem o c with h|h
  ·exact Yj.mpr (.inl (b.ou o h))
  ·refine Yj.mpr (.inr ?_);rw[<-gz (L.K.length:Int)];exact Yt.mpr ⟨o,h,rfl⟩
 ·rw[g];rcases mem o c with h|h
  ·have:=b.op o h;omega
  ·obtain⟨e,_,f⟩:=Zq.mp h;obtain⟨n,m⟩:=e;cases m with
   |none=>have:=Yl.mp f;subst this;show 0<=(L.K.length:Int)/\_;simp only;omega
   |some m=>cases f
 ·rcases Yj.mp j with h|h
  ·exact b.u9 n h
  ·obtain⟨e,l,f⟩:=Zq.mp h;obtain⟨p,m⟩:=e;cases m with
   |none=>
    have:=Yl.mp f;subst this;rcases a.ok _ l with q|q
    ·exact absurd q id
    ·exact q.2
   |some m=>cases f
 ·have:=b.ul;show(L.U++evs0.flatMap evU).length<=(L.T++_).length+O'.length;rw[Yb,Yb];omega
theorem HW(o:LOk L)(c:PlOk L kd evs0 evs O')(l:∀t∈L.T,okT ((L.K.length:Int)+1) t):∀t∈(plL L kd evs0 O').T,okT ((L.K.length:Int)+1) t:=λt g=>by
 rcases Yj.mp g with h|h
 ·exact l t h
 ·obtain⟨e,f,b⟩:=Zq.mp h;obtain⟨n,m⟩:=e;cases m with
  |none=>cases b
  |some m=>
   obtain⟨q,i,rfl⟩:=Yt.mp b;have a:=o.op _ (c.io _ f m rfl);have j:vg m.2:=by
    rcases c.ok _ f with z|z
    ·exact z
    ·cases z.1
   exact rh ⟨a.1,by have:=a.2;simp only at this;omega⟩ ⟨by omega,by omega⟩ (by have:=a.2;simp only at this;omega) (j.1 q i)
theorem Ig(A:LOk L)(f:Rel L R X)(a:PlOk L kd evs0 evs O'):Rel (plL L kd evs0 O') (plS R kd evs X G') []:=by
 have s:=qB A a;rw[Yw]at s;have j:R.K.length=L.K.length:=by rw[f.k]
 have len:=a.op.length_eq;rw[Yb,Yb]at len;refine⟨?_,?_,?_,λo w=>?_,λn i=>?_,?_⟩
 ·show R.K++[sT kd]=L.K++[sT kd];rw[f.k]
 ·show(R.T++(evs.flatMap (evS (R.K.length:Int))++X)++[]).Perm (L.T++evs0.flatMap (evS (L.K.length:Int)));rw[Yg,j];have y:(R.T++(evs.flatMap (evS (L.K.length:Int))++X)).Perm ((R.T++X)++evs.flatMap (evS (L.K.length:Int))):=by rw[Yk];exact Xh _ Xi
  exact y.trans (List.Perm.append f.t (Perm.flat a.pm))
 ·show((R.bg++evs.flatMap (evB (R.K.length:Int))).map (·.1)).Perm ((L.U++evs0.flatMap evU).map λn:Nat=>(n:Int));rw[Yw,Yw,mD];exact List.Perm.append f.b ((Perm.flat a.pm).map _)
 ·have mem:=Yj.mp (a.op.mem_iff.mp (Yj.mpr (.inl w)));have u:(o.1:Int)∉evs.flatMap evC:=by rw[l_];intro z;obtain⟨p,g,e⟩:=Yt.mp z;have B:p∈evs0.flatMap evO:=(Perm.flat a.pm).mem_iff.mp g;exact(YO.mp s).2.2 _ (Yt.mpr ⟨o,w,rfl⟩) _ (Yt.mpr ⟨p,B,rfl⟩) (by omega)
  show((o.1:Int),o.2)∈R.bg++evs.flatMap (evB (R.K.length:Int))/\(o.1:Int)∉R.cl++evs.flatMap evC;rw[Yj,Yj];rcases mem with h|h
  ·have:=f.o o h;exact⟨.inl this.1,λz=>z.elim this.2 u⟩
  ·refine⟨.inr ?_,λz=>z.elim (λz=>?_) u⟩
   ·rw[l5,j];exact Yt.mpr ⟨o,(Perm.flat a.pm).mem_iff.mpr h,rfl⟩
   ·have l:=f.b.mem_iff.mp (f.c _ z);obtain⟨n,i,e⟩:=Yt.mp l;have g:o.1∈evs0.flatMap evU:=by rw[<-gz (L.K.length:Int)];exact Yt.mpr ⟨o,h,rfl⟩
    exact(YO.mp a.nu).2.2 n i _ g (by omega)
 ·show n∈(R.bg++evs.flatMap (evB (R.K.length:Int))).map (·.1);rw[Yw,Yj];rcases Yj.mp i with h|h
  ·exact .inl (f.c n h)
  ·obtain⟨e,l,x⟩:=Zq.mp h;obtain⟨m,q⟩:=e;cases q with
   |none=>cases x
   |some q=>
    have:=Yl.mp x;subst this;have g:=a.io _ (a.pm.mem_iff.mp l) q rfl;exact .inl (Yt.mpr ⟨_,(f.o _ g).1,rfl⟩)
 ·have E:(evs.flatMap evC).length=(evs0.flatMap evO).length:=by rw[l_,Yc];exact(Perm.flat a.pm).length_eq
  have C:(evs.flatMap (evB (R.K.length:Int))).length=(evs0.flatMap (evN (L.K.length:Int))).length:=by rw[l5,Yc,j];exact(Perm.flat a.pm).length_eq
  have:=f.n;show(R.cl++evs.flatMap evC).length+O'.length=(R.bg++evs.flatMap (evB (R.K.length:Int))).length;rw[Yb,Yb,E,C];omega
theorem IJ(f:LOk L)(g:Rel L R X)(c:PlOk L kd evs0 evs O'):OkR R kd evs:=by
 have s:=qB f c;rw[Yw]at s;have u:R.K.length=L.K.length:=by rw[g.k]
 have I:R.bg.length=L.U.length:=by have:=g.b.length_eq;rwa [Yc,Yc]at this
 have H:R.T.length+X.length=L.T.length:=by have:=g.t.length_eq;rwa [Yb]at this
 have:=f.ul;have:=f.le;have:=f.k7;have:=g.n;refine⟨⟨c.kd,λe i=>?_,?_,?_,?_,by omega,by omega,?_⟩,by omega,by omega⟩
 ·have l:=c.pm.mem_iff.mp i;obtain⟨n,m⟩:=e;cases m with
  |none=>
   rcases c.ok _ l with q|q
   ·exact absurd q id
   ·refine⟨q.2,?_⟩;show(n:Int)∉R.bg.map (·.1);intro z;obtain⟨n2,C,e⟩:=Yt.mp (g.b.mem_iff.mp z);exact(YO.mp c.nu).2.2 n2 C n (Zq.mpr ⟨_,l,by simp[evU]⟩) (by omega)
  |some m=>
   have j:=c.io _ l m rfl;have p:vg m.2:=by
    rcases c.ok _ l with z|z
    ·exact z
    ·cases z.1
   have x:=f.op _ j;refine⟨f.u9 _ (f.ou _ j),(g.o _ j).1,?_,(g.o _ j).2,p.2.1,by have:=p.2.2;omega,p.1⟩;have:=x.2;simp only at this;rw[u];omega
 ·have w:=(c.pm.map (·.1)).trans (kT evs0);refine w.nodup_iff.mpr (YO.mpr ⟨(YO.mp s).2.1,(YO.mp c.nu).2.1,λa B b A z=>?_⟩);obtain⟨o,y,rfl⟩:=Yt.mp B;obtain⟨e,E,i⟩:=Zq.mp y;obtain⟨n,m⟩:=e;cases m with
  |none=>cases i
  |some m=>
   have:=Yl.mp i;subst this;exact(YO.mp c.nu).2.2 _ (f.ou _ (c.io _ E m rfl)) b A z
 ·refine g.b.nodup_iff.mpr (XG.mpr (f.un.imp λh z=>h (by omega)))
 ·have:=c.n15;have:=c.pm.length_eq;omega
 ·have e:(evs.flatMap (evS (R.K.length:Int))).length=(evs0.flatMap (evS (L.K.length:Int))).length:=by rw[u];exact(Perm.flat c.pm).length_eq
  have:=c.le;omega
end
section
variable{K G:List D}{p s d:D}{t:Option Addr}{σ:DF} 
theorem Hd:((stF K T O G U h p s).map (·.1)).Nodup:=by show(["kinds","ties","open","boughs","used","here","pool","some"]:List Str).Nodup;decide+kernel
def rq{f:DX}(a:f ρ=some (d,x0::x1::sO (stO K T O G U h p s) t::σ)):jc 2 "here" f ρ=some (.nx (x0::x1::sO (stO K T O G U d p s) t::σ)):=by
 unfold jc;rw[a,Ya];show(if((stF K T O G U h p s).map (·.1)).Nodup/\(stF K T O G U h p s).length<16777216 then _ else _)=_;rw[Yi ⟨Hd,by show 8<16777216;decide⟩]
 kernel_rfl
def FV:lG none 2 "boughs" (x0::x1::sO (stO K T O (G++[d]) U h p s) t::σ)=some (d,x0::x1::sO (stO K T O G U h p s) t::σ):=by
 unfold lG;rw[o6,Ya];show((G++[d])[(G++[d]).length-1]?).bind (λe=>(eA none 2 "boughs" (λ_=>some (.lst (G++[d]).dropLast)) _).map λa=>(e,a))=_;rw[show(G++[d])[(G++[d]).length-1]?=some d by simp,Ya,List.dropLast_concat];refine(YM (Option.map λa=>(d,a)) (gP (C:=none) (x0:=x0) (x1:=x1) (t:=t) (σ:=σ) (fs:=stF K T O (G++[d]) U h p s) (n := "boughs") (k:=λ_=>some (.lst G)) (o:=.lst (G++[d])) (o':=.lst G) (by kernel_rfl) rfl (by show 8<1000;decide))).trans ?_
 kernel_rfl
def vQ{A st:OD}(b:∃x,S=.v x)(h:bb C [S,.own A none,.own st none]=some ([S,.own A' none,.own st' none],d)):ay (bb C) (aN (ah (getV 0)) (az 1 (az 2 bJ))) (some S::sO A t1::sO st t2::σ)=some (d,some S::sO A' t1::sO st' t2::σ):=by obtain⟨x,rfl⟩:=b;unfold ay;show(if([1,2]:List Nat).Nodup then(some [DV.v x,.own A none,.own st none]).bind (λa=>(bb C a).bind _)else none)=_;rw[Yi (by decide),Ya,h];rfl
end
def bW(L:LS)(p s:D):OD:=lst L.K L.T L.O L.G L.U (.int L.h) p s
structure Inv (C:Addr) (L:LS) (w:List Nat) (k:Nat):Prop where
 l:LOk L
 n:1<=L.K.length
 t:∀t∈L.T,okT (L.K.length:Int) t
 h:0<=L.h/\L.h<(L.K.length:Int)
 g:∀g∈L.G,0<=g/\g<(L.K.length:Int)
 gl:L.G.length<=L.K.length
 a:∀c∈w,c<128
 r:∃R,Rel L R []/\R.G=L.G/\Reads C w L.h R k
def lZ{ms:List Mk}:∀c∈mtx ms,c<128:=λc a=>by
 obtain⟨q,_,h⟩:=Zq.mp a;rcases YB.mp h with rfl|h
 ·have:∀j:Nat,ldN j<128:=λj=>by unfold ldN;split<;>decide
  exact this _
 ·exact lW _ c h
def Fb{e:Ev}:∀c∈evT e,c<128:=λc hc=>by
 obtain⟨n,m⟩:=e;rcases YB.mp hc with rfl|hc
 ·decide
 ·rcases Yj.mp hc with h|h
  ·exact lW _ c h
  ·cases m with
   |none=>rw[Yl.mp h];decide
   |some m=>
    rcases YB.mp h with rfl|h
    ·decide
    ·rcases Yj.mp h with h|h
     ·exact lZ c h
     ·rw[Yl.mp h];decide
theorem qG{evs:List Ev}(h:okW (sT kd)):∀c∈plT kd evs,c<128:=λc hc=>by
 rcases Yj.mp hc with hc|hc
 ·have:=h.2.2 c hc;omega
 ·obtain⟨e,_,a⟩:=Zq.mp hc;exact Fb c a
section
variable   {p s:D}
theorem h_(E:ns.length<=100)(y:okSm s)(z:okPl p){L:LS}{R:RS}{X:List T4}{A:OD}{b:Nat}(J:At A b)(H:b+200<=1000000000)(c:LOk L)(m:Rel L R X)(M:L.K.length<=6)(I:∀t∈L.T,okT ((L.K.length:Int)+1) t) :
  ∃(A':OD) (kd:List Nat) (evs:List Ev) (g:LS),At A' (b+200)/\OkR R kd evs/\LOk g/\g.K.length=L.K.length+1/\g.G=L.G/\g.h=L.h/\(∀t∈g.T,okT (g.K.length:Int) t)/\(∀u,Rel g (plS R kd evs X u) [])/\(plT kd evs).length<=3003/\bb C [SC ns,.own A none,.own (bW L p s) none]=some ([SC ns,.own A' none,.own (bW g p s) none],.str (sT (plT kd evs))):=by
 have w:=c.ul;have j:=c.le;obtain⟨A',kd,f,evs,q,Q,P,N⟩:=wL (C:=C) (h:=.int L.h) (G:=L.G) E y z J H (K:=L.K) (T:=L.T) (O:=L.O) (U:=L.U) c.k7 (List.Pairwise.of_map (·.1) (λa b h e=>h (e ▸ rfl)) c.on) (λo B=>(c.u9 _ (c.ou o B)).2) j (by omega) c.un;have i:=P L.h;have l:(plL L kd f q).K.length=L.K.length+1:=by show(L.K++[sT kd]).length=_;rw[Yb];rfl
 refine⟨A',kd,evs,plL L kd f q,Q,IJ c m i,IU c i M,l,rfl,rfl,λt x=>?_,λu=>Ig c m i,?_,N⟩
 ·have:=HW c i I t x;rw[l];rw[show(((L.K.length+1:Nat)):Int)=(L.K.length:Int)+1 by omega];exact this
 ·have:=i.sg;have:=i.kd.2.1;unfold plT;rw[Yb];have:kd.length<=3:=this;omega
end
def Gr{as:Nat->Addr}{x d:D}{A st:OD}{σ:DF}:nH as [.v x,.own A none,.own st none] (.rt (.v d) (sV x::sO A' (some (as 1))::sO st' (some (as 2))::σ))=some ([.v x,.own A' none,.own st' none],d):=by simp[nH,gA]
def r6{f:DX}{d:D}(h:f ρ=some (d,ρ')):d4 f ρ=some (.rt (.v d) ρ'):=by unfold d4;rw[h];rfl
def dL{h:Dw}{b:Bool}(e:c ρ=some b):dIf c g h ρ=if b=true then g ρ else h ρ:=by rw[cu,e];rfl
def eqN{v m:Int}(h:am i ρ=some (.int v)):asB (d2 eqD (am i) (λ_=>some (.int m))) ρ=some (decide (v=m)):=by rw[bL,ao,h];show(match eqD (.int v) (.int m)with|some (.bl b)=>some b|_=>none:Option Bool)=_;rw[d_]
def rJ{d:Dk}{a b:Bool}(h1:c ρ=some a)(h2:d ρ=some b):cR c d ρ=some (a&&b):=by rw[fU,h1,h2];cases a<;>rfl
def DY{d:Dk}{a b:Bool}(h1:c ρ=some a)(h2:d ρ=some b):orT c d ρ=some (a||b):=by rw[zc,h1,h2];cases a<;>rfl
section
variable   {p s:D}
abbrev spF(ns:List Int)(A:OD)(t1:Option Addr)(st:OD)(t2:Option Addr)(w room:Int)(a x:Option DV):DF:=[some (SC ns),sO A t1,sO st t2,sI w,sI room,a,x]
def Fu{K G:List D}{A:OD}{σ:DF}{x:Option DV}:d1 aQ (aS none 2 "boughs") (x::sO A t1::sO (stO K T O G U h p s) t2::σ)=some (.int (G.length:Int)):=by rw[b8,o6];rfl
def Al{K G:List D}{A:OD}{σ:DF}{x:Option DV}:d1 aQ (aS none 2 "kinds") (x::sO A t1::sO (stO K T O G U h p s) t2::σ)=some (.int (K.length:Int)):=by rw[b8,sH];rfl
def GZ{K G:List D}{A:OD}{σ:DF}{x:Option DV}:d1 aQ (aS none 2 "ties") (x::sO A t1::sO (stO K T O G U h p s) t2::σ)=some (.int (T.length:Int)):=by rw[b8,pU];rfl
def F_{K G:List D}{A:OD}{σ:DF}{x:Option DV}:d1 aQ (aS none 2 "open") (x::sO A t1::sO (stO K T O G U h p s) t2::σ)=some (.int (O.length:Int)):=by rw[b8,me];rfl
theorem ye(hl:ns.length<=100)(hs:okSm s)(hp:okPl p){L:LS}{w:List Nat}{k:Nat}(hI:Inv C L w k){A:OD}{b:Nat}(hA:At A b)(hb:b+300<=1000000000):∃(A':OD) (w2:List Nat) (L':LS) (k':Nat),At A' (b+300)/\w2.length<=4000/\Inv C L' (w++w2) k'/\k'<=k+1 /\
  fP C [SC ns,.own A none,.own (bW L p s) none]=some ([SC ns,.own A' none,.own (bW L' p s) none],.str (sT w2)):=by
 obtain⟨v,E,Y,v0,_,hv⟩:=em C ns hl hA (by omega);obtain⟨l,ln,lt,lh,lg,lgl,la,R,j,M,S⟩:=hI;have hw7:0<=v%7/\v%7<7:=by omega
 generalize hway:v%7=i at hw7;have lle:=l.le;have lk7:=l.k7
 let room:Int:=12-(L.T.length:Int)-(L.O.length:Int)
 have hroom:room=12-(L.T.length:Int)-(L.O.length:Int):=rfl;have key:∃(A':OD) (w2:List Nat) (L':LS) (k':Nat),At A' (b+300)/\w2.length<=4000/\Inv C L' (w++w2) k'/\k'<=k+1/\∀t1 t2:Option Addr,∃σ',(ag (dIf (cR (asB (d2 eqD (am 3) (cI 0))) (asB (d2 gtI (d1 aQ (aS none 2 "boughs")) (cI 0)))) (ag (jc 2 "here" (lG none 2 "boughs"))
  (bO (λ_=>some (.str ")")))) dNx)
  (ag (dIf (asB (d2 gtI (d1 aQ (aS none 2 "kinds")) (cI 6))) (bO (λ_=>some (.str ""))) dNx)
  (ag (dIf (cR (asB (d2 eqD (am 3) (cI 1))) (asB (d2 eqD (d1 aQ (aS none 2 "boughs")) (cI 0)))) (ag (jc 2 "here" (ah (d1 aQ (aS none 2 "kinds"))))
  (d4 (x2 ap (ah (λ_=>some (.str "."))) (ay (bb C) (aN (ah (getV 0)) (az 1 (az 2 bJ))))))) dNx)
  (ag (dIf (orT (asB (d2 eqD (am 3) (cI 0))) (orT (asB (d2 eqD (am 3) (cI 1))) (asB (d2 ltd (am 4) (cI 1))))) (bO (λ_=>some (.str ""))) dNx)
  (ag (aT 5 (dR none 2 "here"))
  (ag (jc 2 "here" (ah (d1 aQ (aS none 2 "kinds"))))
  (ag (aY 6 (ay (bx C) (aN (ah (getV 0)) (az 1 (az 2 (aN (ah (getV 5)) (aN (ah (dR none 2 "here")) (aN (ah (getV 4)) bJ))))))))
  (ag (aY 6 (x2 ap (ah (getV 6)) (ay (bb C) (aN (ah (getV 0)) (az 1 (az 2 bJ))))))
  (ag (dIf (asB (d2 gtI (aj 3) (cI 4))) (ag (b9 none 2 "boughs" (getV 5))
  (aT 6 (d2 ap (λ_=>some (.str "(")) (aj 6)))) dNx)
  (bO (getV 6))))))))))) (spF ns E t1 (bW L p s) t2 i room none none)=some (.rt (.v (.str (sT w2))) (some (SC ns)::sO A' t1::sO (bW L' p s) t2::σ')):=by
  have c0:∀t1 t2:Option Addr,(cR (asB (d2 eqD (am 3) (cI 0))) (asB (d2 gtI (d1 aQ (aS none 2 "boughs")) (cI 0)))) (spF ns E t1 (bW L p s) t2 i room none none)=some (decide (i=0)&&decide ((0:Int)<(L.G.length:Int))):=λt1 t2=>rJ (eqN rfl) (by
   rw[bL,ao];unfold bW lst;rw[Fu,Yc];rfl)
  by_cases q0:(decide (i=0)&&decide ((0:Int)<(L.G.length:Int)))=true
  ·-- a bough ends
   have q1:=q0;rw[Ys,YE,YE]at q1;obtain⟨G1,g,hG⟩:∃G1 g,L.G=G1++[g]:=by refine⟨L.G.dropLast,L.G.getLast (λz=>by rw[z]at q1;simp at q1),?_⟩;rw[List.dropLast_concat_getLast]
   have hg:=lg g (by rw[hG];simp);refine⟨E,[41],{L with G:=G1,h:=g},k+1,Y.mono (by omega),by simp,⟨⟨l.kw,l.k7,l.o7,l.le,l.on,l.ou,l.op,l.un,l.u9,l.ul⟩,ln,lt,hg,λx hx=>lg x (by rw[hG];exact Yj.mpr (.inl hx)),?_,λc hc=>?_,{R with G:=G1},⟨j.k,j.t,j.b,j.o,j.c,j.n⟩,rfl,?_⟩,by omega,λt1 t2=>⟨[sI i,sI room,none,none],?_⟩⟩
   ·rw[hG,Yb]at lgl;show G1.length<=L.K.length;omega
   ·rcases Yj.mp hc with hc|hc
    ·exact la c hc
    ·rw[Yl.mp hc];decide
   ·exact S.go (y_ (by rw[M];exact hG))
   ·rw[dO];rw[dL (c0 t1 t2),Yi q0,tu];unfold bW lst;rw[hG,show(G1++[g]).map D.int=G1.map D.int++[D.int g]from Yw];rw[ae (ρ':=spF ns E t1 (stO (L.K.map .str) (L.T.map dT4) (L.O.map dOp) (G1.map .int) (dUs L.U) (.int g) p s) t2 i room none none) (rq (f:=lG none 2 "boughs") FV)];rfl
  rw[XQ]at q0;have n0:∀(t1 t2:Option Addr) (g K:Dw),ag (dIf (cR (asB (d2 eqD (am 3) (cI 0))) (asB (d2 gtI (d1 aQ (aS none 2 "boughs")) (cI 0)))) g dNx) K (spF ns E t1 (bW L p s) t2 i room none none)=K (spF ns E t1 (bW L p s) t2 i room none none):=λt1 t2 g K=>ae (by rw[dL (c0 t1 t2),q0];rfl)
  have ck:∀t1 t2:Option Addr,asB (d2 gtI (d1 aQ (aS none 2 "kinds")) (cI 6)) (spF ns E t1 (bW L p s) t2 i room none none)=some (decide ((6:Int)<(L.K.length:Int))):=λt1 t2=>by
   rw[bL,ao];unfold bW lst;rw[Al,Yc];rfl
  have H:Inv C L (w++[]) k:=by rw[Yg];exact⟨l,ln,lt,lh,lg,lgl,la,R,j,M,S⟩
  by_cases q6:(6:Int)<(L.K.length:Int)
  ·refine⟨E,[],L,k,Y.mono (by omega),by simp,H,by omega,λt1 t2=>⟨[sI i,sI room,none,none],?_⟩⟩;rw[n0,dO];rw[dL (ck t1 t2),YA q6,show("":Str)=sT []by kernel_rfl];rfl
  have n6:∀(t1 t2:Option Addr) (g K:Dw),ag (dIf (asB (d2 gtI (d1 aQ (aS none 2 "kinds")) (cI 6))) g dNx) K (spF ns E t1 (bW L p s) t2 i room none none)=K (spF ns E t1 (bW L p s) t2 i room none none):=λt1 t2 g K=>ae (by rw[dL (ck t1 t2),Yn q6];rfl)
  have h6:L.K.length<=6:=by omega
  have c1:∀t1 t2:Option Addr,(cR (asB (d2 eqD (am 3) (cI 1))) (asB (d2 eqD (d1 aQ (aS none 2 "boughs")) (cI 0)))) (spF ns E t1 (bW L p s) t2 i room none none)=some (decide (i=1)&&decide ((L.G.length:Int)=0)):=λt1 t2=>rJ (eqN rfl) (by
   rw[bL,ao];unfold bW lst;rw[Fu,Yc];show(match eqD (.int (L.G.length:Int)) (.int 0)with|some (.bl b)=>some b|_=>none:Option Bool)=_;rw[d_])
  by_cases q1:(decide (i=1)&&decide ((L.G.length:Int)=0))=true
  ·-- a new run
   have q2:=q1;rw[Ys,YE,YE]at q2;have hG:L.G=[]:=Zu.mp (by omega);obtain⟨Z,J,u,m,hA2,hO,y,B,N,Q,t2',P,pl2,hm⟩:=h_ (C:=C) hl hs hp Y (by omega) (L:={L with h:=(L.K.length:Int)}) (R:=R) (X:=[]) ⟨l.kw,l.k7,l.o7,l.le,l.on,l.ou,l.op,l.un,l.u9,l.ul⟩ ⟨j.k,j.t,j.b,j.o,j.c,j.n⟩ h6 (λt ht=>rO (lt t ht));have B:m.K.length=L.K.length+1:=B;have N:m.G=L.G:=N;have Q:m.h=(L.K.length:Int):=Q;have hk:R.K.length=L.K.length:=by rw[j.k]
   refine⟨Z,46::plT J u,m,k+1,hA2.mono (by omega),by rw[Yh];omega,⟨y,by omega,t2',by rw[Q,B];omega,(λx hx=>by rw[N,hG]at hx;exact(nomatch hx)),by rw[N,hG];exact YS _,λc hc=>?_,plS R J u [] R.G,P R.G,by rw[N];exact M,?_⟩,by omega,λt1 t2=>⟨[sI i,sI room,none,none],?_⟩⟩
   ·rcases Yj.mp hc with hc|hc
    ·exact la c hc
    ·rcases YB.mp hc with rfl|hc
     ·decide
     ·exact qG hO.p.kd c hc
   ·rw[Q,<-hk];exact S.go (vi hO (by rw[M];exact hG))
   ·rw[n0,n6,dO];rw[dL (c1 t1 t2),Yi q1,xQ];rw[ae (ρ':=spF ns E t1 (bW {L with h:=(L.K.length:Int)} p s) t2 i room none none) (by
     refine(rq (f:=ah (d1 aQ (aS none 2 "kinds"))) (K:=L.K.map .str) (T:=L.T.map dT4) (O:=L.O.map dOp) (G:=L.G.map .int) (U:=dUs L.U) (h:=.int L.h) (bE Al)).trans ?_;rw[Yc];rfl)]
    have hx:=ig (f:=ap) (bE (f:=λ_=>some (D.str (sT [46]))) rfl) (vQ (C:=C) (t1:=t1) (t2:=t2) (σ:=[sI i,sI room,none,none]) ⟨_,rfl⟩ hm) (cm (a:=[46]) (by simp;omega));exact r6 hx
  rw[XQ]at q1;have n1:∀(t1 t2:Option Addr) (g K:Dw),ag (dIf (cR (asB (d2 eqD (am 3) (cI 1))) (asB (d2 eqD (d1 aQ (aS none 2 "boughs")) (cI 0)))) g dNx) K (spF ns E t1 (bW L p s) t2 i room none none)=K (spF ns E t1 (bW L p s) t2 i room none none):=λt1 t2 g K=>ae (by rw[dL (c1 t1 t2),q1];rfl)
  have c3:∀t1 t2:Option Addr,(orT (asB (d2 eqD (am 3) (cI 0))) (orT (asB (d2 eqD (am 3) (cI 1))) (asB (d2 ltd (am 4) (cI 1))))) (spF ns E t1 (bW L p s) t2 i room none none)=some (decide (i=0)||(decide (i=1)||decide (room<1))):=λt1 t2=>DY (eqN rfl) (DY (eqN rfl) rfl)
  by_cases q3:(decide (i=0)||(decide (i=1)||decide (room<1)))=true
  ·refine⟨E,[],L,k,Y.mono (by omega),by simp,H,by omega,λt1 t2=>⟨[sI i,sI room,none,none],?_⟩⟩;rw[n0,n6,n1,dO];rw[dL (c3 t1 t2),q3,show("":Str)=sT []by kernel_rfl];rfl
  -- marks and a place
  have q4:=q3;rw[XQ,Bool.or_eq_false_iff,Bool.or_eq_false_iff,Zf,Zf,Zf]at q4;rw[XQ]at q3;have n3:∀(t1 t2:Option Addr) (g K:Dw),ag (dIf (orT (asB (d2 eqD (am 3) (cI 0))) (orT (asB (d2 eqD (am 3) (cI 1))) (asB (d2 ltd (am 4) (cI 1))))) g dNx) K (spF ns E t1 (bW L p s) t2 i room none none)=K (spF ns E t1 (bW L p s) t2 i room none none):=λt1 t2 g K=>ae (by rw[dL (c3 t1 t2),q3];rfl)
  obtain⟨Am,I,hAm,m1,m2,m3,m4,hmk⟩:=pC (C:=C) (K:=L.K.map .str) (T:=L.T.map dT4) (O:=L.O.map dOp) (G:=L.G.map .int) (U:=dUs L.U) (h:=.int (L.K.length:Int)) (p:=p) (one:=L.h) (oth:=(L.K.length:Int)) hl hs Y (by omega) (by rw[Yc];omega) (room:=room) (by omega)
  let X:=I.map (bC L.h (L.K.length:Int))
  have hX:X.length=I.length:=Yc ..
  let L1:LS:={L with T:=L.T++X,h:=(L.K.length:Int)}
  have hL1:LOk L1:=⟨l.kw,l.k7,l.o7,by show(L.T++X).length+L.O.length<=12;rw[Yb];omega,l.on,l.ou,l.op,l.un,l.u9,by have:=l.ul;show L.U.length<=(L.T++X).length+L.O.length;rw[Yb];omega⟩
  have hRel1:Rel L1 R X:=⟨j.k,by have:=j.t;rw[Yg]at this;exact ZI X this,j.b,j.o,j.c,j.n⟩
  obtain⟨Z,J,u,m,hA2,hO,y,B,N,Q,t2',P,pl2,hm⟩:=h_ (C:=C) hl hs hp hAm (by omega) (L:=L1) (R:=R) (X:=X) hL1 hRel1 h6 (λt ht=>by
   rcases Yj.mp ht with ht|ht
   ·exact rO (lt t ht)
   ·obtain⟨q,hq,rfl⟩:=Yt.mp ht;exact rh ⟨lh.1,by show L.h<(L.K.length:Int)+1;omega⟩ ⟨by show(0:Int)<=(L.K.length:Int);omega,by show(L.K.length:Int)<(L.K.length:Int)+1;omega⟩ (by omega) (m1 q hq))
  have B:m.K.length=L.K.length+1:=B;have N:m.G=L.G:=N;have Q:m.h=(L.K.length:Int):=Q;have hk:R.K.length=L.K.length:=by rw[j.k]
  have mtl:=lQ m1;have fr:∀t1 t2:Option Addr,∀Kk:DF->Option RES,(ag (aT 5 (dR none 2 "here"))
  (ag (jc 2 "here" (ah (d1 aQ (aS none 2 "kinds"))))
  (ag (aY 6 (ay (bx C) (aN (ah (getV 0)) (az 1 (az 2 (aN (ah (getV 5)) (aN (ah (dR none 2 "here")) (aN (ah (getV 4)) bJ))))))))
  (ag (aY 6 (x2 ap (ah (getV 6)) (ay (bb C) (aN (ah (getV 0)) (az 1 (az 2 bJ)))))) Kk)))) (spF ns E t1 (bW L p s) t2 i room none none)=Kk (spF ns Z t1 (bW m p s) t2 i room (sI (L.h)) (sS (mtx I++plT J u))):=λt1 t2 Kk=>by
   unfold bW lst;rw[ae (ρ':=spF ns E t1 (stO (L.K.map .str) (L.T.map dT4) (L.O.map dOp) (L.G.map .int) (dUs L.U) (.int L.h) p s) t2 i room (sI (L.h)) none) (by rw[bf,vJ];rfl)];rw[ae (ρ':=spF ns E t1 (stO (L.K.map .str) (L.T.map dT4) (L.O.map dOp) (L.G.map .int) (dUs L.U) (.int (L.K.length:Int)) p s) t2 i room (sI (L.h)) none) (by
     refine(rq (f:=ah (d1 aQ (aS none 2 "kinds"))) (bE Al)).trans ?_;rw[Yc])]
   rw[ae (cc (vq (C:=C) (d1:=.int L.h) (d2:=.int (L.K.length:Int)) (d3:=.int room) ⟨_,rfl⟩ rfl vJ rfl hmk))];have hx:=ig (f:=ap) (bE (f:=getV 6) (d:=.str (sT (mtx I))) (ρ:=spF ns Am t1 (bW L1 p s) t2 i room (sI (L.h)) (sS (mtx I))) rfl) (vQ (C:=C) ⟨_,rfl⟩ hm) (cm (by omega));have hst:stO (L.K.map .str) (L.T.map dT4++X.map dT4) (L.O.map dOp) (L.G.map .int) (dUs L.U) (.int (L.K.length:Int)) p s=bW L1 p s:=by show _=stO (L.K.map .str) ((L.T++X).map dT4) _ _ _ _ _ _;rw[Yw]
   show ag _ Kk (spF ns Am t1 (stO (L.K.map .str) (L.T.map dT4++X.map dT4) (L.O.map dOp) (L.G.map .int) (dUs L.U) (.int (L.K.length:Int)) p s) t2 i room (sI (L.h)) (sS (mtx I)))=_;rw[hst,ae (cc hx)];rfl
  have ascw:∀c∈mtx I++plT J u,c<128:=λc hc=>by
   rcases Yj.mp hc with hc|hc
   ·exact lZ c hc
   ·exact qG hO.p.kd c hc
  by_cases q5:(4:Int)<i
  ·refine⟨Z,40::(mtx I++plT J u),{m with G:=m.G++[L.h]},k+1,hA2.mono (by omega),by rw[Yh,Yb];omega,⟨⟨y.kw,y.k7,y.o7,y.le,y.on,y.ou,y.op,y.un,y.u9,y.ul⟩,by show 1<=m.K.length;omega,t2',by show 0<=m.h/\m.h<(m.K.length:Int);rw[Q,B];omega,λx hx=>?_,?_,λc hc=>?_,plS R J u X (R.G++[L.h]),?_,by show R.G++[L.h]=m.G++[L.h];rw[N,M],?_⟩,by omega,λt1 t2=>⟨[sI i,sI room,sI (L.h),sS (40::(mtx I++plT J u))],?_⟩⟩
   ·show 0<=x/\x<(m.K.length:Int);rw[B];rcases Yj.mp hx with hx|hx
    ·rw[N]at hx;have:=lg x hx;omega
    ·rw[Yl.mp hx];omega
   ·show(m.G++[L.h]).length<=m.K.length;rw[Yb,N,B];show L.G.length+1<=_;omega
   ·rcases Yj.mp hc with hc|hc
    ·exact la c hc
    ·rcases YB.mp hc with rfl|hc
     ·decide
     ·exact ascw c hc
   ·have:=P (R.G++[L.h]);exact⟨this.k,this.t,this.b,this.o,this.c,this.n⟩
   ·show Reads C _ m.h _ _;rw[Q,<-hk];have:=rZ (C:=C) (h:=L.h) hO (by rw[M];omega) m1 m2 (by omega);rw[hk]at this ⊢;exact S.go this
   ·rw[n0,n6,n1,n3,fr];rw[ae (ρ':=spF ns Z t1 (bW {m with G:=m.G++[L.h]} p s) t2 i room (sI (L.h)) (sS (40::(mtx I++plT J u)))) (by
     rw[dL (show asB (d2 gtI (aj 3) (cI 4)) (spF ns Z t1 (bW m p s) t2 i room (sI (L.h)) (sS (mtx I++plT J u)))=some (decide ((4:Int)<i))from rfl),YA q5,Yi rfl];rw[ae (show b9 none 2 "boughs" (getV 5) (spF ns Z t1 (bW m p s) t2 i room (sI (L.h)) (sS (mtx I++plT J u)))=some (.nx (spF ns Z t1 (stO (m.K.map .str) (m.T.map dT4) (m.O.map dOp) (m.G.map .int++[.int L.h]) (dUs m.U) (.int m.h) p s) t2 i room (sI (L.h)) (sS (mtx I++plT J u))))from Cu rfl (by rw[Yc,N];omega))];rw[bf,ao,uV];show Option.map _ (ap (.str (sT [40])) (.str (sT (mtx I++plT J u))))=_;rw[cm (by rw[Yb];simp;omega)];show some (RES.nx _)=some (RES.nx (spF ns Z t1 (stO (m.K.map .str) (m.T.map dT4) (m.O.map dOp) ((m.G++[L.h]).map .int) (dUs m.U) (.int m.h) p s) t2 i room _ _));rw[Yw (l₁:=m.G)];rfl)]
    rfl
  ·refine⟨Z,mtx I++plT J u,m,k+1,hA2.mono (by omega),by rw[Yb];omega,⟨y,by omega,t2',by rw[Q,B];omega,λx hx=>?_,by rw[N,B];omega,λc hc=>?_,plS R J u X R.G,P R.G,by show R.G=m.G;rw[N,M],?_⟩,by omega,λt1 t2=>⟨[sI i,sI room,sI (L.h),sS (mtx I++plT J u)],?_⟩⟩
   ·rw[N]at hx;have:=lg x hx;rw[B];omega
   ·rcases Yj.mp hc with hc|hc
    ·exact la c hc
    ·exact ascw c hc
   ·rw[Q];have:=vL (C:=C) (h:=L.h) hO m1 m2 (by omega);rw[hk]at this;exact S.go this
   ·rw[n0,n6,n1,n3,fr];rw[ae (by
     rw[dL (show asB (d2 gtI (aj 3) (cI 4)) (spF ns Z t1 (bW m p s) t2 i room (sI (L.h)) (sS (mtx I++plT J u)))=some (decide ((4:Int)<i))from rfl),Yn q5];rfl)]
    rfl
 obtain⟨A',w2,L',k',h1,Q,h3,h4,h5⟩:=key;refine⟨A',w2,L',k',h1,Q,h3,h4,fQ rfl λas=>?_⟩;obtain⟨σ',e⟩:=h5 (some (as 1)) (some (as 2));show(jw C [some (SC ns),sO A (some (as 1)),sO (bW L p s) (some (as 2)),none,none,none,none]).bind _=_;unfold jw;rw[ae (cc (mZ (by decide) hv)),hway];rw[ae (ρ':=spF ns E (some (as 1)) (bW L p s) (some (as 2)) i room none none) (by
  show aT 4 _ [some (SC ns),sO E (some (as 1)),sO (stO (L.K.map .str) (L.T.map dT4) (L.O.map dOp) (L.G.map .int) (dUs L.U) (.int L.h) p s) (some (as 2)),sI i,none,none,none]=_;rw[bf,ao,ao,GZ,F_,Yc,Yc];rfl)]
 rw[e];exact Gr
end
def ltr(l:List Nat):Prop:=∀c∈l,97<=c/\c<=122
def v3(h1:1<=l.length)(a:l.length<=3)(h:ltr l):okW (sT l):=⟨by rw[show(sT l).cps.size=l.length from Yp];exact h1,by rw[show(sT l).cps.size=l.length from Yp];exact a,h⟩
theorem EW{cs:List Nat}(h1:1<=cs.length)(f:cs.length<=3)(h:ltr cs)(hz:0<=z/\z<(cs.length:Int)):∃x y:List Nat,Txt.slice (sT cs) none (some z)=sT x/\Txt.slice (sT cs) (some (z+1)) none=sT y/\x.length+1+y.length=cs.length/\ltr x/\ltr y/\∃c,ixD (.str (sT cs)) (.int z)=some (.str (sT [c])):=by
 match cs,h1,f,h,hz with
 |[a],_,_,h,hz=>
  have:z=0:=by simp at hz;omega
  subst this;exact⟨[],[],by kernel_rfl,by kernel_rfl,rfl,(λc e=>nomatch e),(λc e=>nomatch e),a,rfl⟩
 |[a,b],_,_,h,hz=>
  have:z=0\/z=1:=by simp at hz;omega
  rcases this with rfl|rfl
  ·exact⟨[],[b],by kernel_rfl,by kernel_rfl,rfl,(λc e=>nomatch e),λc e=>h c (Ye _ e),a,rfl⟩
  ·exact⟨[a],[],by kernel_rfl,by kernel_rfl,rfl,λc e=>h c (by rw[Yl.mp e];exact Yf),(λc e=>nomatch e),b,rfl⟩
 |[a,b,c],_,_,h,hz=>
  have:z=0\/z=1\/z=2:=by simp at hz;omega
  rcases this with rfl|rfl|rfl
  ·exact⟨[],[b,c],by kernel_rfl,by kernel_rfl,rfl,(λc e=>nomatch e),λx hx=>h x (Ye _ hx),a,rfl⟩
  ·exact⟨[a],[c],by kernel_rfl,by kernel_rfl,rfl,λx hx=>h x (by rw[Yl.mp hx];exact Yf),λx hx=>h x (by rw[Yl.mp hx];simp),b,rfl⟩
  ·exact⟨[a,b],[],by kernel_rfl,by kernel_rfl,rfl,λx hx=>h x (by rcases YB.mp hx with rfl|hx;simp;rw[Yl.mp hx];simp),(λc e=>nomatch e),c,rfl⟩
def CU{cs:List Nat}(h1:1<=cs.length)(e:cs.length<=3)(h:ltr cs):∃x:List Nat,Txt.slice (sT cs) none (some 2)=sT x/\1<=x.length/\x.length<=3/\ltr x:=by
 match cs,h1,e,h with
 |[a],_,_,h=>exact⟨[a],by kernel_rfl,by simp,by simp,h⟩
 |[a,b],_,_,h=>exact⟨[a,b],by kernel_rfl,by simp,by simp,h⟩
 |[a,b,c],_,_,h=>exact⟨[a,b],by kernel_rfl,by simp,by simp,λx hx=>h x (by rcases YB.mp hx with rfl|hx;simp;rw[Yl.mp hx];simp)⟩
theorem FM(cs:List Nat)(h:cs.length<=100):mX (.str (sT [])) (.lst (cs.map λc=>.str (sT [c])))=some (.str (sT cs)):=by
 have f:(cs.map λc=>D.str (sT [c])).map txt=(cs.map λc=>[c]).map sT:=by rw[Zl,Zl];rfl
 show(if iQ (sT []) _=true then some (D.str (Txt.join (sT []) ((cs.map λc=>D.str (sT [c])).map txt)))else none)=_;rw[Yi,f]
 ·show some (D.str (Builtin.Str.glued (sT []) _))=_;rw[StrLaws.glued_eq_join,u4];have:∀l:List Nat,(l.map λc=>[c]).flatten=l:=λl=>by induction l with|nil=>rfl|cons a l ih=>rw[YC,Za,ih];rfl
  rw[this]
 ·unfold iQ;rw[Ys,YH,YE,f];refine⟨λd g=>by obtain⟨e,_,rfl⟩:=Yt.mp g;rfl,?_⟩;have:=qu (L:=((cs.map λc=>[c]).map sT).map (·.length)) (c:=1) λx b=>by
   rw[Zl,Zl]at b;obtain⟨e,i,rfl⟩:=Yt.mp b;exact Yy _
  rw[Yc,Yc,Yc]at this;rw[Yc,Yc,show(sT []).length=0 from rfl,Nat.mul_zero];omega
theorem vj{f:Dd}{g:Dd}{x:List Nat}(a:f ρ=some (.str (sT l)))(b:l.length<=100)(h:g ρ=some (.int z))(hx:Txt.slice (sT l) none (some z)=sT x):slS f bNo (bI g) ρ=some (.str (sT x)):=by rw[pZ,a];show(if(sT l).length<=16777216 then _ else none)=_;rw[dH,Yi (by omega),oQ,h,<-hx];rfl
def HA{f:Dd}{g:Dd}{x:List Nat}(a:f ρ=some (.str (sT l)))(b:l.length<=100)(h:g ρ=some (.int z))(hx:Txt.slice (sT l) (some z) none=sT x):slS f (bI g) bNo ρ=some (.str (sT x)):=by rw[pZ,a];show(if(sT l).length<=16777216 then _ else none)=_;rw[dH,Yi (by omega),oQ,h,<-hx];rfl
theorem CZ(C:Addr)(ns:List Int)(hl:ns.length<=100){A:OD}{b:Nat}(hA:At A b)(hb:b<=1000000000):∃(A':OD) (p:D),At A' (b+1)/\okPl p/\iP C [SC ns,.own A none]=some ([SC ns,.own A' none],p):=by
 obtain⟨v,j,X,v0,v1,hv⟩:=em C ns hl hA hb;have f3:=b5 v 3 (by decide);have f7:=b5 v 7 (by decide);have f11:=b5 v 11 (by decide);have f13:=b5 v 13 (by decide);have Y:=b5 v 17 (by decide);have m:∀y:Int,aA (.int y) (.int 26)=some (.int (y%26)):=λy=>aU y 26 (by decide)
 have R:1<=1+v%3/\1+v%3<=3:=by omega
 generalize hZ:1+v%3=Z at R;have u:∃a:List Nat,(a.length:Int)=Z/\ltr a/\fK (setV 0) iI (d2 ixD (aj 1) (d2 aA (d2 ap (d2 bu (aj 2) (cI 3)) (d2 e_ (aj 0) (d2 bu (aj 2) (cI 7)))) (cI 26))) [none,sV (.str abc),sI v] ((ff Z).map .int)=some (a.map λc=>.str (sT [c])):=by
  obtain⟨xs,h1,h2,h3⟩:=oT (st:=setV 0) (c:=iI) (e:=d2 ixD (aj 1) (d2 aA (d2 ap (d2 bu (aj 2) (cI 3)) (d2 e_ (aj 0) (d2 bu (aj 2) (cI 7)))) (cI 26))) (ρ:=[none,sV (.str abc),sI v]) (λc:Nat=>D.str (sT [c])) (λc=>97<=c/\c<=122) ((ff Z).map .int) (λd hd=>by
   obtain⟨i,hi,rfl⟩:=Yt.mp hd;have hi2:0<=i/\i<1000:=by unfold ff at hi;obtain⟨n,hn,rfl⟩:=Yt.mp hi;rw[Zz]at hn;omega
   obtain⟨c,hc,c1,c2⟩:=uQ (v/3+i*(v/7));refine⟨[sI i,sV (.str abc),sI v],rfl,rfl,c,?_,c1,c2⟩;have hm:=gE i (v/7) (.inl (by omega));simp only[ao,vY,ZW,Xx,Ya,f3,f7,hm,t5,m];exact hc)
  refine⟨xs,?_,h3,h1⟩;rw[h2,Yc,dJ];omega
 obtain⟨a,csl,cl,N⟩:=u;have B:1<=a.length:=by omega
 have w:a.length<=3:=by omega
 have M:0<=v/11%Z/\v/11%Z<(a.length:Int):=⟨Xg _ (by omega),by rw[csl];exact ZM _ (by omega)⟩
 generalize hS:v/11%Z=K at M;obtain⟨x,y,hx,hy,hxy,lx,ly,c0,U⟩:=EW B w cl M;obtain⟨J,Q,P,O,lz⟩:=CU B w cl
 let h:Int:=vK abc (sT [c0])
 obtain⟨o,ho,o1,o2⟩:=uQ (h+1+v/13%25);obtain⟨q,hq,q1,q2⟩:=uQ (v/17);have s:∃lst:List Nat,okW (sT lst)/\∀(t:Option Addr) (I H E:Option DV),(dIf (asB (d2 ltd (am 4) (cI 3))) (aT 9 (d2 ap (aj 5) (d2 ixD (aj 2) (d2 aA (d2 bu (aj 3) (cI 17)) (cI 26))))) dNx) [some (SC ns),sO j t,sV (.str abc),sI v,sI Z,sS a,I,H,E,sS J]=some (.nx [some (SC ns),sO j t,sV (.str abc),sI v,sI Z,sS a,I,H,E,sS lst]):=by
  by_cases L:Z<3
  ·refine⟨a++[q],v3 (by simp) (by rw[Yb];show a.length+1<=3;omega) λc hc=>?_,λt I H E=>?_⟩
   ·rcases Yj.mp hc with hc|hc
    ·exact cl c hc
    ·rw[Yl.mp hc];exact⟨q1,q2⟩
   ·rw[dL (show asB (d2 ltd (am 4) (cI 3)) [some (SC ns),sO j t,sV (.str abc),sI v,sI Z,sS a,I,H,E,sS J]=some (decide (Z<3))from rfl),YA L,Yi rfl];rw[bf,ao,ao,ao,ao];show Option.map _ ((((bu (.int v) (.int 17)).bind λx=>aA x (.int 26)).bind λy=>ixD (.str abc) y).bind λy=>ap (.str (sT a)) y)=_;rw[Y,Ya,m,Ya,hq,Ya,show(⟨#[q]⟩:Str)=sT [q]from rfl,cm (by simp;omega)];rfl
  ·refine⟨J,v3 P O lz,λt I H E=>?_⟩;rw[dL (show asB (d2 ltd (am 4) (cI 3)) [some (SC ns),sO j t,sV (.str abc),sI v,sI Z,sS a,I,H,E,sS J]=some (decide (Z<3))from rfl),Yn L];rfl
 obtain⟨lst,S,T⟩:=s;refine⟨j,.lst [.str (sT a),.str (sT (x++[o]++y)),.str (sT lst)],X,⟨a,x++[o]++y,lst,v3 B w cl,v3 (by simp;omega) (by simp;omega) λc hc=>?_,S,rfl⟩,fQ rfl λl=>?_⟩
 ·rcases Yj.mp hc with hc|hc
  ·rcases Yj.mp hc with hc|hc
   ·exact lx c hc
   ·rw[Yl.mp hc];exact⟨o1,o2⟩
  ·exact ly c hc
 ·show(jo C [some (SC ns),sO A (some (l 1)),none,none,none,none,none,none,none,none]).bind _=_;unfold jo;rw[show("":Str)=sT []by kernel_rfl];rw[ae (ρ':=[some (SC ns),sO A (some (l 1)),sV (.str abc),none,none,none,none,none,none,none]) rfl];rw[ae (cc (iW ⟨_,rfl⟩ hv))];rw[ae (ρ':=[some (SC ns),sO j (some (l 1)),sV (.str abc),sI v,sI Z,none,none,none,none,none]) (by
   rw[bf,ao,ao];show Option.map _ ((aA (.int v) (.int 3)).bind λy=>ap (.int 1) y)=_;rw[aU v 3 (by decide),<-hZ];rfl)]
  rw[ae (ρ':=[some (SC ns),sO j (some (l 1)),sV (.str abc),sI v,sI Z,sS a,none,none,none,none]) (by
   rw[bf,ao,rg,jp,gG,lM (n:=Z) rfl ⟨by omega,by omega⟩];show Option.map _ ((Option.map _ (Option.map _ (if((ff Z).map D.int).length<=16777216 then fK _ _ _ [none,sV (.str abc),sI v] ((ff Z).map D.int)else none))).bind _)=_;rw[Yi (by rw[Yc,dJ];omega),N];show Option.map _ (mX (.str (sT [])) (.lst (a.map λc=>.str (sT [c]))))=_;rw[FM a (by omega)];rfl)]
  rw[ae (ρ':=[some (SC ns),sO j (some (l 1)),sV (.str abc),sI v,sI Z,sS a,sI K,none,none,none]) (by
   rw[bf,ao,ao];show Option.map _ ((bu (.int v) (.int 11)).bind λx=>aA x (.int Z))=_;rw[f11,Ya,aU _ Z (by omega),hS];rfl)]
  rw[ae (ρ':=[some (SC ns),sO j (some (l 1)),sV (.str abc),sI v,sI Z,sS a,sI K,sI (h+1+v/13%25),none,none]) (by
   rw[bf,ao,ao,ao,ao,ao,ao];show Option.map _ ((((ixD (.str (sT a)) (.int K)).bind λy=>wp (.str abc) y).bind λx=>ap x (.int 1)).bind λx=>((bu (.int v) (.int 13)).bind λx=>aA x (.int 25)).bind λy=>ap x y)=_;rw[U,f13,Ya,Ya,aU _ 25 (by decide)];rfl)]
  rw[ae (ρ':=[some (SC ns),sO j (some (l 1)),sV (.str abc),sI v,sI Z,sS a,sI K,sI (h+1+v/13%25),sS (x++[o]++y),none]) (by
   rw[bf,ao,ao,ao,ao,vj (f:=aj 5) (g:=getV 6) rfl (by omega) rfl hx,HA (f:=aj 5) rfl (by omega) rfl hy];show Option.map _ ((((aA (.int (h+1+v/13%25)) (.int 26)).bind λy=>ixD (.str abc) y).bind λy=>ap (.str (sT x)) y).bind λz=>ap z (.str (sT y)))=_;rw[m,Ya,ho,Ya,show(⟨#[o]⟩:Str)=sT [o]from rfl,cm (by simp;omega),Ya,cm (by simp;omega)];rfl)]
  rw[ae (ρ':=[some (SC ns),sO j (some (l 1)),sV (.str abc),sI v,sI Z,sS a,sI K,sI (h+1+v/13%25),sS (x++[o]++y),sS J]) (by
   rw[bf,vj (f:=aj 5) rfl (by omega) rfl Q];rfl)]
  rw[ae (T _ _ _ _)];exact Aq
def pN(C:Addr)(ns:List Int):∃x:Int,db C [SC ns]=sO (.lst [.int 0,.int x]) none:=by
 have go:∀(l:List Int) (n:Int) (y:Option DV),∃(x:Int) (a:Option DV),c7 (setV 2) (aT 1 (d2 aA (d2 ap (d2 ap (d2 e_ (aj 1) (cI 69621)) (d2 aA (aj 2) (cI 2147483647))) (cI 11)) (cI 2147483647))) (l.map .int) [some (SC ns),sI n,y]=some (.nx [some (SC ns),sI x,a]):=by
  intro l;induction l with
  |nil=>exact λn y=>⟨n,y,rfl⟩
  |cons c l ih=>
   intro n y;obtain⟨x,a,e⟩:=ih ((n*69621+c%2147483647+11)%2147483647) (sI c);refine⟨x,a,?_⟩;rw[YC];unfold c7;have h:aT 1 (d2 aA (d2 ap (d2 ap (d2 e_ (aj 1) (cI 69621)) (d2 aA (aj 2) (cI 2147483647))) (cI 11)) (cI 2147483647)) [some (SC ns),sI n,sI c]=some (.nx [some (SC ns),sI ((n*69621+c%2147483647+11)%2147483647),sI c]):=by
    have f:=gE n 69621 (.inr (by decide));have b:∀z:Int,aA (.int z) (.int 2147483647)=some (.int (z%2147483647)):=λz=>aU z _ (by decide)
    simp[f,b]
   show(match aT 1 _ [some (SC ns),sI n,sI c]with|some (.nx ρ)=>c7 _ _ (l.map .int) ρ|some (.ct ρ)=>c7 _ _ (l.map .int) ρ|some (.bk ρ)=>some (.nx ρ)|r=>r)=_;rw[h];exact e
 obtain⟨x,y,e⟩:=go ns 7 none;refine⟨x,?_⟩;show dW (iC C [some (SC ns),none,none])=_;unfold iC;rw[ae (ρ':=[some (SC ns),sI 7,none]) rfl,ae (ρ':=[some (SC ns),sI x,y]) (by rw[fT];exact e)];rfl
def mQ{C:Addr}{m:MW}{A:OD}{d:D}{t:Option Addr}{σ:DF}(b:∃x,S=.v x)(h:m [S,.own A none]=some ([S,.own A' none],d)):ay m (aN (ah (getV 0)) (az 1 bJ)) (some S::sO A t::σ)=some (d,some S::sO A' t::σ):=by obtain⟨x,rfl⟩:=b;unfold ay;show(if([1]:List Nat).Nodup then(some [DV.v x,.own A none]).bind (λa=>(m a).bind _)else none)=_;rw[Yi (by decide),Ya,h];rfl
def rB{m:MW}{A st:OD}{d:D}{σ:DF}(b:∃x,S=.v x)(h:m [S,.own A none,.own st none]=some ([S,.own A' none,.own st' none],d)):ay m (aN (ah (getV 0)) (az 1 (az 2 bJ))) (some S::sO A t1::sO st t2::σ)=some (d,some S::sO A' t1::sO st' t2::σ):=by obtain⟨x,rfl⟩:=b;unfold ay;show(if([1,2]:List Nat).Nodup then(some [DV.v x,.own A none,.own st none]).bind (λa=>(m a).bind _)else none)=_;rw[Yi (by decide),Ya,h];rfl
abbrev txF(ns:List Int)(A st:OD)(w:List Nat)(x:Option DV):DF:=[some (SC ns),sO A none,sO st none,sS w,x]
section
variable   {p s:D}
theorem xj(I:ns.length<=100)(B:okSm s)(E:okPl p):∀(is:List Int) (L:LS) (w:List Nat) (k:Nat) (A:OD) (b:Nat) (x:Option DV),Inv C L w k->At A b->b+300*is.length<=1000000000->w.length+4000*is.length<=10000000->∃(c:LS) (a:List Nat) (k':Nat) (A':OD) (g:Option DV),Inv C c a k'/\At A' (b+300*is.length)/\k'<=k+is.length/\a.length<=w.length+4000*is.length /\
  c7 (setV 4) (aY 3 (x2 ap (ah (getV 3)) (ay (fP C) (aN (ah (getV 0)) (az 1 (az 2 bJ)))))) (is.map .int) (txF ns A (bW L p s) w x)=some (.nx (txF ns A' (bW c p s) a g)):=by
 intro is;induction is with
 |nil=>exact λL w k A b x j m _ _=>⟨L,w,k,A,x,j,m,by simp,by simp,rfl⟩
 |cons i is ih=>
  intro L w k A b x j m K z;rw[Yh]at K z;obtain⟨Q,o,P,q,l,y,h,J,H⟩:=ye I B E j m (by omega);obtain⟨c,a,k',A',g,O,N,R,M,e⟩:=ih P (w++o) q Q (b+300) (sI i) h l (by omega) (by rw[Yb];omega);rw[Yb]at M;refine⟨c,a,k',A',g,O,N.mono (by rw[Yh];omega),by rw[Yh];omega,by rw[Yh];omega,?_⟩;rw[YC];unfold c7;have u:=ig (f:=ap) (bE (f:=getV 3) (d:=.str (sT w)) (ρ:=txF ns A (bW L p s) w (sI i)) rfl) (rB ⟨_,rfl⟩ H) (cm (by omega));show(match aY 3 _ (txF ns A (bW L p s) w (sI i))with|some (.nx ρ)=>c7 _ _ (is.map .int) ρ|some (.ct ρ)=>c7 _ _ (is.map .int) ρ|some (.bk ρ)=>some (.nx ρ)|r=>r)=_;rw[cc u];exact e
theorem nv:∀(n:Nat) (R:RS) (h:Int) (w:List Nat) (k:Nat),R.G.length=n->Reads C w h R k->∃h':Int,Reads C (w++List.replicate n 41) h' {R with G:=[]} (k+n)
 |0,R,h,w,k,hn,hr=>by
  have:R.G=[]:=Zu.mp hn;refine⟨h,?_⟩;rw[Zm,Yg,<-this];exact hr
 |n+1,R,h,w,k,hn,hr=>by
  have a:R.G≠[]:=λz=>by rw[z]at hn;cases hn
  have e:R.G=R.G.dropLast++[R.G.getLast a]:=(List.dropLast_concat_getLast a).symm;have c:=hr.go (y_ e);obtain⟨h',b⟩:=nv n {R with G:=R.G.dropLast} _ _ _ (by show R.G.dropLast.length=n;rw[List.length_dropLast];omega) c;refine⟨h',?_⟩;rw[Yk]at b;rw[YK,show k+(n+1)=k+1+n by omega];exact b
structure Inv2 (C:Addr) (L:LS) (w:List Nat) (k:Nat):Prop where
 l:LOk L
 n:1<=L.K.length
 t:∀t∈L.T,okT (L.K.length:Int) t
 a:∀c∈w,c<128
 r:∃R h,Rel L R []/\R.G=[]/\Reads C w h R k
theorem xv(hl:ns.length<=100)(hs:okSm s)(hp:okPl p)(x:Option DV):∀(m:Nat) (L:LS) (w:List Nat) (k:Nat) (A:OD) (b f:Nat),7<=L.K.length+m->m<f->Inv2 C L w k->At A b->b+200*m<=1000000000->w.length+4000*m<=15000000->∃(B:LS) (i:List Nat) (k':Nat) (A':OD),Inv2 C B i k'/\B.O=[]/\k'<=k+m/\i.length<=w.length+4000*m /\
  bv (asB (d2 gtI (d1 aQ (aS none 2 "open")) (cI 0))) (aY 3 (x2 ap (ah (d2 ap (aj 3) (λ_=>some (.str (sT [46]))))) (ay (bb C) (aN (ah (getV 0)) (az 1 (az 2 bJ)))))) f (txF ns A (bW L p s) w x)=some (.nx (txF ns A' (bW B p s) i x)):=by
 have hc:∀(L:LS) (w:List Nat) (A:OD),asB (d2 gtI (d1 aQ (aS none 2 "open")) (cI 0)) (txF ns A (bW L p s) w x)=some (decide ((0:Int)<(L.O.length:Int))):=λL w A=>by
  rw[bL,ao];unfold bW lst;rw[F_,Yc];rfl
 intro m;induction m with
 |zero=>
  intro L w k A b f hm hf a Z _ _;obtain⟨f,rfl⟩:∃n,f=n+1:=⟨f-1,by omega⟩
  have T:L.O=[]:=a.l.o7 (by have:=a.l.k7;omega);refine⟨L,w,k,A,a,T,by omega,by omega,eI ((hc L w A).trans ?_)⟩;rw[T];rfl
 |succ m ih=>
  intro L w k A b f hm hf a Z hb hw;obtain⟨f,rfl⟩:∃n,f=n+1:=⟨f-1,by omega⟩
  by_cases E:L.O=[]
  ·refine⟨L,w,k,A,a,E,by omega,by omega,eI ((hc L w A).trans ?_)⟩;rw[E];rfl
  ·have o:(0:Int)<(L.O.length:Int):=by have:=XY.mpr E;omega
   have h6:L.K.length<=6:=by
    have:=a.l.k7;have T:L.K.length≠7:=λz=>E (a.l.o7 z)
    omega
   obtain⟨I,ln,lt,la,R,h,q,u,N⟩:=a;obtain⟨A2,J,g,L2,S,y,P,kl2,g2,h2,H,j,pl2,M⟩:=h_ (C:=C) hl hs hp Z (by omega) (L:=L) (R:=R) (X:=[]) I q h6 (λt ht=>rO (lt t ht));have Q:Inv2 C L2 (w++46::plT J g) (k+1):=⟨P,by omega,H,λc hc=>by
    rcases Yj.mp hc with hc|hc
    ·exact la c hc
    ·rcases YB.mp hc with rfl|hc
     ·decide
     ·exact qG y.p.kd c hc,plS R J g [] R.G,_,j R.G,u,N.go (vi y u)⟩
   obtain⟨B,i,k',A',q1,q2,q3,q4,e⟩:=ih L2 (w++46::plT J g) (k+1) A2 (b+200) f (by omega) (by omega) Q S (by omega) (by rw[Yb,Yh];omega);rw[Yb,Yh]at q4;refine⟨B,i,k',A',q1,q2,by omega,by omega,?_⟩;have U:d2 ap (aj 3) (λ_=>some (.str (sT [46]))) (txF ns A (bW L p s) w x)=some (.str (sT (w++[46]))):=by rw[ao];exact cm (by simp;omega)
   have Y:=ig (f:=ap) (bE U) (rB (σ:=[sS w,x]) ⟨_,rfl⟩ M) (cm (by simp;omega));rw[Yk]at Y;rw[fq ((hc L w A).trans (by rw[YA o])) (cc Y)];exact e
end
theorem D5(n:Nat):r9 (sT [41]) (n:Int)=sT (List.replicate n 41):=by
 unfold r9;by_cases b:(n:Int)<1
 ·have:n=0:=by omega
  subst this;rfl
 ·rw[Yr b];by_cases h:n=1
  ·subst h;rfl
  ·rw[Yr]
   ·have e:∀(m:Nat) (a:List Nat),(List.replicate m (#[41]:Array Nat)).foldl (·++·) a.toArray=(a++List.replicate m 41).toArray:=by
     intro m;induction m with
     |zero=>intro a;rw[Zm,Zm,Yg];rfl
     |succ m ih=>
      intro a;rw[YK,XV,show a.toArray++#[41]=(a++[41]).toArray by simp,ih,Yk,YK];rfl
    show Str.mk ((List.replicate ((n:Int)).toNat (#[41]:Array Nat)).foldl (·++·) #[])=_;rw[XH];have:=e n [];rw[Zg]at this;exact YM Str.mk this
   ·have:((n:Int) == 1)=false:=by rw[Ze];omega
    rw[this];exact λz=>nomatch z
theorem CK(C:Addr)(ns:List Int)(hl:ns.length<=63):∃(L:LS) (w:List Nat) (k:Nat) (p s:D),Inv2 C L w k/\L.O=[]/\k<500/\w.length<=16000000/\g8 C [SC ns]=sV (.tup [.str (sT w),(bW L p s).d]):=by
 obtain⟨x,hb⟩:=pN C ns;have hA0:At (.lst [.int 0,.int x]) 0:=⟨0,x,rfl,by decide,by decide⟩
 obtain⟨A1,p,hA1,U,T⟩:=CZ C ns (by omega) hA0 (by decide);obtain⟨k0,A2,hA2,hk0,hg0⟩:=tj C ns (by omega) hA1 (by decide);obtain⟨k1,A3,hA3,Z,hg1⟩:=tj C ns (by omega) hA2 (by decide)
 let s:D:=.lst [.int (k0:Int),.int (k1:Int),.int 5]
 have S:okSm s:=⟨k0,k1,hk0,Z,rfl⟩
 let M:LS:=⟨[],[],[],[],[],0⟩
 have hL0:LOk M:=⟨(λ_ h=>nomatch h),by decide,λ_=>rfl,by decide,ZN,(λ_ h=>nomatch h),(λ_ h=>nomatch h),ZN,(λ_ h=>nomatch h),by decide⟩
 have hR0:Rel M S0 []:=⟨rfl,Xo _,Xo _,(λ_ h=>nomatch h),(λ_ h=>nomatch h),rfl⟩
 obtain⟨A4,H,g,E,hA4,z,hL1,j,B,J,P,q,pl1,Y⟩:=h_ (C:=C) (ns:=ns) (p:=p) (by omega) S U hA3 (by decide) (L:=M) (R:=S0) (X:=[]) hL0 hR0 (by decide) (λ_ h=>nomatch h);have j:E.K.length=1:=j;have B:E.G=[]:=B;have J:E.h=0:=J;have hI1:Inv C E (plT H g) 0:=⟨hL1,by omega,P,by rw[J,j];decide,(λy hy=>by rw[B]at hy;exact(nomatch hy)),by rw[B];exact YS _,qG z.p.kd,plS S0 H g [] [],q [],by rw[B];rfl,by rw[J];exact vE z.p⟩
 obtain⟨f,i,I,A5,N,hI2,A,m,l,e2⟩:=xj (C:=C) (ns:=ns) (by omega) S U (ns++[1,1,1]) E (plT H g) 0 A4 _ none hI1 hA4 (by rw[Yb];show _+300*(ns.length+3)<=_;omega) (by rw[Yb];show _+4000*(ns.length+3)<=_;omega);rw[Yb]at m l A;have m:I<=0+(ns.length+3):=m;have l:i.length<=(plT H g).length+4000*(ns.length+3):=l;obtain⟨u,ln,lt,lh,lg,lgl,la,R,a,hRG,hRd⟩:=hI2;have l7:=u.k7;obtain⟨h',hR2⟩:=nv (C:=C) f.G.length R f.h i I (by rw[hRG]) hRd;have hI3:Inv2 C f (i++List.replicate f.G.length 41) (I+f.G.length):=⟨u,ln,lt,λc hc=>by
  rcases Yj.mp hc with hc|hc
  ·exact la c hc
  ·rw[Xt hc];decide,{R with G:=[]},h',⟨a.k,a.t,a.b,a.o,a.c,a.n⟩,rfl,hR2⟩
 obtain⟨L3,w3,k3,A6,hI4,hO3,hk3,Q,e3⟩:=xv (C:=C) (ns:=ns) (by omega) S U N 7 f (i++List.replicate f.G.length 41) (I+f.G.length) A5 _ 100 (by omega) (by decide) hI3 A (by show _+300*(ns.length+3)+1400<=_;omega) (by rw[Yb,Yo];omega);rw[Yb,Yo]at Q;refine⟨L3,w3,k3,p,s,hI4,hO3,by omega,by omega,?_⟩;show dW (jj C [some (SC ns),none,none,none,none])=_;unfold jj;rw[xQ,tu];rw[ae (ρ':=[some (SC ns),sO (.lst [.int 0,.int x]) none,none,none,none]) (by
  rw[fB,s_,Hw];show Option.map _ ((db C [SC ns]).bind dvO)=_;rw[hb];rfl)]
 rw[ae (ρ':=[some (SC ns),sO (.lst [.int 0,.int x]) none,sO (.obj none (p7 [("kinds",none),("ties",none),("open",none),("boughs",none),("used",none),("here",some 0)])) none,none,none]) rfl];rw[ae (ρ':=[some (SC ns),sO A1 none,sO (.obj none [("kinds",.lst []),("ties",.lst []),("open",.lst []),("boughs",.lst []),("used",.lst []),("here",.d (.int 0)),("pool",.d p)]) none,none,none]) (by
  unfold sf;rw[mQ (C:=C) ⟨_,rfl⟩ T]
  kernel_rfl)]
 rw[ae (ρ':=[some (SC ns),sO A3 none,sO (bW M p s) none,none,none]) (by
  have e:BH (ba (ay (cS C) (aN (ah (getV 0)) (az 1 bJ))) (ba (ay (cS C) (aN (ah (getV 0)) (az 1 bJ))) (ba (ah (cI 5)) da))) [some (SC ns),sO A1 none,sO (.obj none [("kinds",.lst []),("ties",.lst []),("open",.lst []),("boughs",.lst []),("used",.lst []),("here",.d (.int 0)),("pool",.d p)]) none,none,none]=some (s,[some (SC ns),sO A3 none,sO (.obj none [("kinds",.lst []),("ties",.lst []),("open",.lst []),("boughs",.lst []),("used",.lst []),("here",.d (.int 0)),("pool",.d p)]) none,none,none]):=by unfold BH ba;rw[mQ (C:=C) ⟨_,rfl⟩ hg0,Ya];show(Option.map _ ((ay (cS C) (aN (ah (getV 0)) (az 1 bJ)) [some (SC ns),sO A2 none,sO (.obj none [("kinds",.lst []),("ties",.lst []),("open",.lst []),("boughs",.lst []),("used",.lst []),("here",.d (.int 0)),("pool",.d p)]) none,none,none]).bind _)).bind _=_;rw[mQ (C:=C) ⟨_,rfl⟩ hg1];rfl
  unfold sf;rw[e]
  kernel_rfl)]
 rw[ae (cc (rB ⟨_,rfl⟩ Y))];rw[ae (ρ':=txF ns A5 (bW f p s) i N) (by
  rw[fT,mF,ao];show(match(if(ns.map D.int).length+3<=16777216 then some (D.lst (ns.map D.int++[.int 1,.int 1,.int 1]))else none)with|some (.lst ds)=>some ds|_=>none:Option (List D)).bind _=_;rw[Yi (by rw[Yc];omega),show ns.map D.int++[D.int 1,.int 1,.int 1]=(ns++[1,1,1]).map D.int by rw[Yw];rfl];exact e2)]
 rw[ae (ρ':=txF ns A5 (bW f p s) (i++List.replicate f.G.length 41) N) (by
  rw[bf,ao,ao];unfold bW lst;rw[Fu,Yc];show Option.map _ ((ge (.str (sT [41])) (.int (f.G.length:Int))).bind λy=>ap (.str (sT i)) y)=_;rw[show ge (.str (sT [41])) (.int (f.G.length:Int))=some (.str (r9 (sT [41]) (f.G.length:Int)))from Yi ⟨by omega,by omega,by decide⟩,D5,Ya,cm (by rw[Yo];omega)];rfl)]
 rw[ae e3];rfl
def d8{g h:DF->Option XR}(e:g ρ=some (.go (.nx ρ'))):cN g h ρ=h ρ':=by unfold cN;rw[e]
def kf{g h:DF->Option XR}{k:Nat}(e:g ρ=some (.ex k)):cN g h ρ=some (.ex k):=by unfold cN;rw[e]
def m_(e:g ρ=some (.nx ρ')):xOf g ρ=some (.go (.nx ρ')):=by unfold xOf;rw[e];rfl
def nF{g:DF->Option XR}(e:c ρ=some false):xIf c g xNx ρ=some (.go (.nx ρ)):=by unfold xIf;rw[e];rfl
def vO{g h:DF->Option XR}(e:c ρ=some true):xIf c g h ρ=g ρ:=by unfold xIf;rw[e];rfl
def nZ(e:c ρ=some false):dIf c g dNx ρ=some (.nx ρ):=by rw[cu,e];rfl
def By{h:Dw}(e:g ρ=none):ag g h ρ=none:=by rw[l0,e]
def oP{n p:Nat}{o:OD}(h:∀a,g (bB n p (.own o (some a)::xs))=none):gm n p g o xs=none:=by unfold gm;rw[dif_neg];rintro⟨q,_,b⟩;obtain⟨r,e,_⟩:=b 0;rw[h 0]at e;cases e
section
variable  {r:List Nat}{a:Nat}{S:RS}{h:Int}
def DW(ρ:DF)(h2:getV 2 ρ=some (.str (sT [41]))):asB (d1 (inG bc) (getV 2)) ρ=some false:=by rw[bL,b8,h2];show some ((glN bc (sT [41])).isSome)=_;rw[vm];rfl
def D3{b:Option Addr}{σ:DF}(h:S.G=[]):iB (aS (some aa) 0 "hung") (sO (rdS l a S) b::σ)=some false:=by unfold iB rdS;rw[jQ,h];rfl
def Cv(e:TOk l)(f:a<=l.length)(hd:l.drop a=41::r)(g:S.G=[]):bw C (rdS l a S) [.v (.int h)]=none:=oP λb=>by
 show ag (aT 2 (sgn C)) (ag (dIf (asB (d1 (inG bc) (getV 2))) _ dNx) (ag _ (ag (dIf (asB (d2 eqD (am 2) (λ_=>some (.str "(")))) _ dNx) (ag (dIf (cR (asB (d2 eqD (am 2) (λ_=>some (.str ")")))) (iB (aS (some aa) 0 "hung"))) _ dNx) (ag (dIf (cR (asB (d2 eqD (am 2) (λ_=>some (.str ".")))) _) _ dNx) cC))))) [sO (rdS l a S) (some b),sI h,none]=_;rw[uV,tu,xQ,jS (c:=41) e f hd,ae (nZ (DW _ rfl)),ae ka,ae (nZ (ip (c:=41) rfl (by decide) (by decide))),ae (nZ (rJ (ip (c:=41) rfl (by decide) (by decide)) (D3 g)))];rw[ae (nZ (by rw[fU,ip (c:=41) rfl (by decide) (by decide)];rfl))];rfl
theorem G8:(PySem.reprText (sT [41])).length<=1000:=by decide+kernel
theorem Fn(e:TOk l)(f:a<=l.length)(hd:l.drop a=41::r)(g:S.G=[]):cY C (rdS l a S) [.v (.int h)]=some 0:=AF rfl λb=>by
 show cN (xOf (aT 2 (sgn C))) (cN (xIf (asB (d1 (inG bc) (getV 2))) _ xNx) (cN (xOf _) (cN (xIf (asB (d2 eqD (am 2) (λ_=>some (.str "(")))) _ xNx) (cN (xIf (cR (asB (d2 eqD (am 2) (λ_=>some (.str ")")))) (iB (aS (some aa) 0 "hung"))) _ xNx) (cN (xIf (cR (asB (d2 eqD (am 2) (λ_=>some (.str ".")))) _) _ xNx) _))))) [sO (rdS l a S) (some b),sI h,none]=_;have i:aT 2 (sgn C) [sO (rdS l a S) (some b),sI h,none]=some (.nx [sO (rdS l a S) (some b),sI h,sS [41]]):=by rw[bf];unfold rdS;rw[jB C hd f e.1];rfl
 rw[uV,tu,xQ,d8 (m_ i),d8 (nF (DW _ rfl)),d8 (m_ ka),d8 (nF (ip (c:=41) rfl (by decide) (by decide))),d8 (nF (rJ (ip (c:=41) rfl (by decide) (by decide)) (D3 g)))];rw[d8 (nF (by rw[fU,ip (c:=41) rfl (by decide) (by decide)];rfl))];show(if _ then _ else _)=_;rw[Yi ⟨G8,by decide+kernel⟩]
end
noncomputable abbrev zQ (C:Addr):DF->Option Nat:=lJ aa "go_on" 0 (cY C) (ba (ah (getV 1)) da)
def ng{r:List Nat}{a:Nat}{S:RS}{h:Int}{b:Option Addr}(c:TOk l)(f:a<=l.length)(hd:l.drop a=41::r)(g:S.G=[]):ii C [sO (rdS l a S) b,sI h]=none:=by have e:=Cv (C:=C) (h:=h) c f hd g;show Option.map _ (bN aa "go_on" 0 (bw C) (ba (ah (getV 1)) da) _)=_;unfold bN;show Option.map _ (if List.lookup ("go_on":Str) (rdF l a (S.K.map .str) (S.T.map dT4) (S.G.map .int) (bgD S.bg) (clD S.cl))=none then(Option.map _ (bw C (rdS l a S) [.v (.int h)]))else none)=_;rw[Yi (by kernel_rfl),e];rfl
def CF{r:List Nat}{a:Nat}{S:RS}{h:Int}{b:Option Addr}(c:TOk l)(f:a<=l.length)(hd:l.drop a=41::r)(g:S.G=[]):zQ C [sO (rdS l a S) b,sI h]=some 0:=by have e:=Fn (C:=C) (h:=h) c f hd g;unfold zQ lJ;show(if List.lookup ("go_on":Str) (rdF l a (S.K.map .str) (S.T.map dT4) (S.G.map .int) (bgD S.bg) (clD S.cl))=none then(cY C (rdS l a S) [.v (.int h)])else none)=_;rw[Yi (by kernel_rfl),e]
section
variable  {w:List Nat}{h:Int}{S:RS}{k:Nat}
def DS:rW [41]:=λc hc=>by have:c=41:=(Yu hc).symm;omega
theorem AB(a:TOk (w++[41]))(i:Reads C w h S k)(j:S.G=[])(q:k<1000):aO C (rd (w++[41]) 0 [] [] [] [] []) []=none:=oP λb=>by
 obtain⟨c,p,o⟩:=i (w++[41]) [41] (some b) a rfl DS;show ag (rpl C) (ag (bv fV (ii C) 1000) _) [sO (rd (w++[41]) 0 [] [] [] [] []) (some b),none]=_;have e:=o.runs (1000-k);rw[show 1000-k+k=1000 by omega]at e;obtain⟨m,f⟩:∃m,1000-k=m+1:=⟨1000-k-1,by omega⟩
 have g:fV [sO (rdS (w++[41]) w.length S) (some b),sI h]=some true:=by rw[jT a,YA];rw[Yb];show(w.length:Int)<((w.length+1:Nat):Int);omega
 have l:bv fV (ii C) (m+1) [sO (rdS (w++[41]) w.length S) (some b),sI h]=none:=by unfold bv;rw[g,ng a (by rw[Yb];omega) (by rw[Vc]) j]
 rw[f,l]at e;rw[ae p,By e]
def CY(a:TOk (w++[41]))(p:Reads C w h S k)(g:S.G=[])(x:k<1000):bA C (rd (w++[41]) 0 [] [] [] [] []) []=some 0:=AF rfl λb=>by
 obtain⟨i,u,s⟩:=p (w++[41]) [41] (some b) a rfl DS;show cN (xOf (rpl C)) (cN (dS fV (xOr (xOf (ii C)) (xRz (zQ C))) 1000) _) [sO (rd (w++[41]) 0 [] [] [] [] []) (some b),none]=_;have e:=s.runsX (h:=xRz (zQ C)) (1000-k);rw[show 1000-k+k=1000 by omega]at e;obtain⟨m,l⟩:∃m,1000-k=m+1:=⟨1000-k-1,by omega⟩
 have o:fV [sO (rdS (w++[41]) w.length S) (some b),sI h]=some true:=by rw[jT a,YA];rw[Yb];show(w.length:Int)<((w.length+1:Nat):Int);omega
 have c:(w++[41]).drop w.length=41::[]:=by rw[Vc]
 have f:w.length<=(w++[41]).length:=by rw[Yb];omega
 have q:=xK (k:=m) (body:=xOr (xOf (ii C)) (xRz (zQ C))) o (j:=0) (by
  unfold xOr xOf xRz;rw[ng a f c g,CF a f c g];rfl)
 rw[l,q]at e;rw[d8 (m_ u),kf e]
def C5(a:TOk (w++[41]))(c:Reads C w h S k)(f:S.G=[])(b:k<1000):cB C [.v (.str (sT (w++[41])))]=some 0:=by
 have i:=AB a c f b;have g:=CY a c f b;have e:(cN (xOf (dC 1 (pP aa (bj C) (aV (getV 0) nA)))) (cN (xOr (xOf (bG (cD aa "read_all" 1 (aO C) g0))) (xRz (lJ aa "read_all" 1 (bA C) da))) (zo 1 (nK C (aV (d1 (dq aa "kinds") (getV 1)) (aV (d1 (dq aa "ties") (getV 1)) nA)) (dt C))))) [sS (w++[41]),none]=some (.ex 0):=by
  rw[d8 (ρ':=[sS (w++[41]),sO (rd (w++[41]) 0 [] [] [] [] []) none]) (m_ (by
   rw[fB];show Option.map _ (match bj C (.obj (some aa) []) [.v (.str (sT (w++[41])))]with|some (o',.non)=>some o'|_=>none:Option OD)=_;rw[uC];rfl))]
  refine kf ?_;have n1:bG (cD aa "read_all" 1 (aO C) g0) [sS (w++[41]),sO (rd (w++[41]) 0 [] [] [] [] []) none]=none:=by show Option.map _ (if aa=aa/\List.lookup ("read_all":Str) (rdF (w++[41]) 0 [] [] [] [] [])=none then(Option.map _ (aO C (rd (w++[41]) 0 [] [] [] [] []) []))else none)=_;rw[Yi ⟨rfl,by kernel_rfl⟩,i];rfl
  have n2:lJ aa "read_all" 1 (bA C) da [sS (w++[41]),sO (rd (w++[41]) 0 [] [] [] [] []) none]=some 0:=by unfold lJ;show(if List.lookup ("read_all":Str) (rdF (w++[41]) 0 [] [] [] [] [])=none then(bA C (rd (w++[41]) 0 [] [] [] [] []) [])else none)=_;rw[Yi (by kernel_rfl),g]
  unfold xOr xOf xRz;rw[n1,n2];rfl
 unfold cB rzX;show(match(cN _ _:DF->Option XR) [sS (w++[41]),none]with|some (.ex k)=>some k|_=>none:Option Nat)=_;rw[e]
theorem xn(ks:List D)(a:List D)(h:7<ks.length\/12<a.length)(h1:1<=ks.length):cx C [.v (.lst ks),.v (.lst a)]=some 1:=by
 have e:(cN (xIf (di (asB (chD leA leA (cI 1) (d1 aQ (am 0)) (cI 7)))) (xEx 1) xNx) (cN (xIf (asB (d2 gtI (d1 aQ (am 1)) (cI 12))) (xEx 1) xNx) (λ_=>none))) [sV (.lst ks),sV (.lst a),none,none]=some (.ex 1):=by
  have b:(1:Int)<=(ks.length:Int):=by omega
  by_cases c:7<ks.length
  ·have i:¬(ks.length:Int)<=7:=by omega
   exact kf ((vO (by simp[b,i])).trans rfl)
  ·have i:(ks.length:Int)<=7:=by omega
   have f:12<a.length:=h.resolve_left c;rw[d8 (nF (by simp[b,i]))];exact kf ((vO (by simp;omega)).trans rfl)
 unfold cx rzX;show(match(cN _ _:DF->Option XR) [sV (.lst ks),sV (.lst a),none,none]with|some (.ex k)=>some k|_=>none:Option Nat)=_;rw[e]
def wK(b:TOk w)(j:Reads C w h S k)(l:S.G=[])(i:S.bg.length<=S.cl.length)(c:k<1000)(g:7<S.K.length\/12<S.T.length)(h1:1<=S.K.length):cB C [.v (.str (sT w))]=some 1:=by
 have m:=k6 b j l i c;have a:=xn (C:=C) (S.K.map .str) (S.T.map dT4) (by rw[Yc,Yc];exact g) (by rw[Yc];exact h1);have f:dt C [.v (.ins C []),.v (.lst (S.K.map .str)),.v (.lst (S.T.map dT4))]=some 1:=by
  have e:(cN (r8 (aB 1 (aB 2 nA)) (cx C)) (λ_=>none)) [sV (.ins C []),sV (.lst (S.K.map .str)),sV (.lst (S.T.map dT4))]=some (.ex 1):=by refine kf ?_;unfold r8;show((cx C [.v (.lst (S.K.map .str)),.v (.lst (S.T.map dT4))]).map XR.ex)=_;rw[a];rfl
  unfold dt rzX;show(match(cN _ _:DF->Option XR) [sV (.ins C []),sV (.lst (S.K.map .str)),sV (.lst (S.T.map dT4))]with|some (.ex k)=>some k|_=>none:Option Nat)=_;rw[e]
 have e:(cN (xOf (dC 1 (pP aa (bj C) (aV (getV 0) nA)))) (cN (xOr (xOf (bG (cD aa "read_all" 1 (aO C) g0))) (xRz (lJ aa "read_all" 1 (bA C) da))) (zo 1 (nK C (aV (d1 (dq aa "kinds") (getV 1)) (aV (d1 (dq aa "ties") (getV 1)) nA)) (dt C))))) [sS w,none]=some (.ex 1):=by
  rw[d8 (ρ':=[sS w,sO (rd w 0 [] [] [] [] []) none]) (m_ (by
   rw[fB];show Option.map _ (match bj C (.obj (some aa) []) [.v (.str (sT w))]with|some (o',.non)=>some o'|_=>none:Option OD)=_;rw[uC];rfl))]
  have n1:bG (cD aa "read_all" 1 (aO C) g0) [sS w,sO (rd w 0 [] [] [] [] []) none]=some (.nx [sS w,sO (rdS w w.length S) none]):=by unfold bG;rw[z8 (by kernel_rfl) m];rfl
  rw[d8 (ρ':=[sS w,sO (rdS w w.length S) none]) (by unfold xOr xOf;rw[n1];rfl)];show nK C _ _ [sS w,sV ((rdS w w.length S).d)]=_;unfold nK;have o:(aV (d1 (dq aa "kinds") (getV 1)) (aV (d1 (dq aa "ties") (getV 1)) nA)) [sS w,sV ((rdS w w.length S).d)]=some [.v (.lst (S.K.map .str)),.v (.lst (S.T.map dT4))]:=by rw[lC,lC,b8,b8];show(dq aa "kinds" (rdS w w.length S).d).bind (λd=>(((dq aa "ties" (rdS w w.length S).d).bind λd=>some [DV.v d]).map λx=>DV.v d::x))=_;unfold rdS;rw[He,Hs];rfl
  rw[o,Ya,f];rfl
 unfold cB rzX;show(match(cN _ _:DF->Option XR) [sS w,none]with|some (.ex k)=>some k|_=>none:Option Nat)=_;rw[e]
end
def xP{w:List Nat}{k:Nat}(h:cB C [.v (.str (sT w))]=some k):ee C [.v (.str (sT w))]=sV (.exn (cl2 aX aM k)):=by
 show dW (gK C [sS w,none,none])=_;unfold gK;rw[ae (ρ':=[sS w,sV (.non),none]) rfl];rw[ae (ρ':=[sS w,sV (.exn (cl2 aX aM k)),none]) (by
  unfold vn;show(match cB C [.v (.str (sT w))]with|some k=>_|none=>none)=_;rw[h];rfl)]
 rfl
structure GR (C:Addr) (w:List Nat) (h:Int) (R:RS) (k:Nat) (K:List Str) (T:List T4):Prop where
 rd:Reads C w h R k
 kk:R.K=K
 tt:R.T.Perm T
 nb:(R.bg.map (·.1)).Nodup
 lb:R.bg.length<1000
 lc:R.cl.length<1000
 cb:R.bg.length<=R.cl.length
 aw:∀c∈w,c<128
 kw:∀x∈K,okW x
 tk:∀t∈T,okT (K.length:Int) t
def kj(kd:List Nat):plT kd []=kd:=by unfold plT;rw[show([]:List Ev).flatMap evT=[]from rfl,Yg]
def qj(h:okW (sT kd)):∀c∈kd,c<128:=λc a=>by have:=h.2.2 c a;omega
section
variable  {w:List Nat}{h:Int}{R:RS}{k:Nat}{K:List Str}{T:List T4} 
def GR.okR(g:GR C w h R k K T)(b:okW (sT kd))(a:K.length<1000)(tl:T.length<1000):OkR R kd []:=
 ⟨⟨b,(λe c=>nomatch c),ZN,g.nb,by decide,g.lb,g.lc,by show 0<1000;decide⟩,by rw[g.kk];exact a,by rw[g.tt.length_eq];exact tl⟩
def GR.next(g:GR C w h R k K T){a:List Nat}{X:List T4}{b:List Int}(i:okW (sT kd))(j:GO C h a R (R.K.length:Int) (plS R kd [] X b))(m:∀c∈a,c<128)(o:∀t∈X,okT ((K.length:Int)+1) t) :
  GR C (w++a) (K.length:Int) (plS R kd [] X b) (k+1) (K++[sT kd]) (T++X) where
 rd:=by have:=g.rd.go j;rw[g.kk]at this;exact this
 kk:=by show R.K++[sT kd]=_;rw[g.kk]
 tt:=by show(R.T++([]++X)).Perm (T++X);exact ZI X g.tt
 nb:=by show((R.bg++([]:List (Int×Int))).map (·.1)).Nodup;rw[Yg];exact g.nb
 lb:=by show(R.bg++([]:List (Int×Int))).length<1000;rw[Yg];exact g.lb
 lc:=by show(R.cl++([]:List Int)).length<1000;rw[Yg];exact g.lc
 cb:=by show(R.bg++([]:List (Int×Int))).length<=(R.cl++([]:List Int)).length;rw[Yg,Yg];exact g.cb
 aw:=λc l=>(Yj.mp l).elim (g.aw c) (m c)
 kw:=λx e=>(Yj.mp e).elim (g.kw x) λz=>by rw[Yl.mp z];exact i
 tk:=λt f=>by
  rw[show((K++[sT kd]).length:Int)=(K.length:Int)+1 by rw[Yb];rfl];exact(Yj.mp f).elim (λz=>rO (g.tk t z)) (o t)
def GR.dot(g:GR C w h R k K T)(f:R.G=[])(a:okW (sT kd))(b:K.length<1000)(tl:T.length<1000):GR C (w++46::kd) (K.length:Int) (plS R kd [] [] R.G) (k+1) (K++[sT kd]) T:=by
 have:=g.next a (X:=[]) (vi (g.okR a b tl) f) (λc hc=>by
  rcases YB.mp hc with rfl|hc
  ·decide
  ·rw[kj]at hc;exact qj a c hc) (λt e=>nomatch e)
 rw[kj,Yg]at this;exact this
theorem Gi{ms:List Mk}(c:∀q∈ms,okM q)(h0:0<=h/\h<(K.length:Int)):∀t∈ms.map (bC h (K.length:Int)),okT ((K.length:Int)+1) t:=λt a=>by
 obtain⟨q,b,rfl⟩:=Yt.mp a;exact rh ⟨h0.1,by omega⟩ ⟨by omega,by omega⟩ (by omega) (c q b)
def GR.mark(g:GR C w h R k K T){ms:List Mk}(a:okW (sT kd))(j:K.length<1000)(tl:T.length<1000)(f:∀q∈ms,okM q)(i:ms≠[])(m:ms.length<200)(h0:0<=h/\h<(K.length:Int)) :
  GR C (w++(mtx ms++kd)) (K.length:Int) (plS R kd [] (ms.map (bC h (K.length:Int))) R.G) (k+1) (K++[sT kd]) (T++ms.map (bC h (K.length:Int))):=by
 have b:=vL (C:=C) (h:=h) (g.okR a j tl) f i m;rw[kj]at b;have e:(R.K.length:Int)=(K.length:Int):=by rw[g.kk]
 rw[e]at b;exact g.next a (by rw[e];exact b) (λc l=>(Yj.mp l).elim (lZ c) (qj a c)) (Gi f h0)
def GR.bough(g:GR C w h R k K T){ms:List Mk}(a:okW (sT kd))(j:K.length<1000)(tl:T.length<1000)(l:R.G.length<1000)(f:∀q∈ms,okM q)(i:ms≠[])(m:ms.length<200)(h0:0<=h/\h<(K.length:Int)) :
  GR C (w++40::(mtx ms++kd)) (K.length:Int) (plS R kd [] (ms.map (bC h (K.length:Int))) (R.G++[h])) (k+1) (K++[sT kd]) (T++ms.map (bC h (K.length:Int))):=by
 have b:=rZ (C:=C) (h:=h) (g.okR a j tl) l f i m;rw[kj]at b;have e:(R.K.length:Int)=(K.length:Int):=by rw[g.kk]
 rw[e]at b;exact g.next a (by rw[e];exact b) (λc hc=>by
  rcases YB.mp hc with rfl|hc
  ·decide
  ·exact(Yj.mp hc).elim (lZ c) (qj a c)) (Gi f h0)
def GR.start(h:okW (sT kd)):GR C kd 0 (plS S0 kd [] [] []) 0 [sT kd] [] where
 rd:=by have:=vE (C:=C) (kd:=kd) (evs:=[]) ⟨h,(λe c=>nomatch c),ZN,ZN,by decide,by decide,by decide,by show 0<1000;decide⟩;rw[kj]at this;exact this
 kk:=rfl
 tt:=Xo _
 nb:=ZN
 lb:=by show 0<1000;decide
 lc:=by show 0<1000;decide
 cb:=Yy _
 aw:=qj h
 kw:=λx a=>by rw[Yl.mp a];exact h
 tk:=λt b=>nomatch b
end
theorem GR.of{L:LS}{w:List Nat}{k:Nat}(o:Inv2 C L w k)(m:L.O=[]):∃R h,GR C w h R k L.K L.T/\R.G=[]:=by
 obtain⟨l,p,lt,i,R,h,a,g,f⟩:=o;have e:=l.le;have c:=l.ul;have q:R.bg.length=L.U.length:=by have:=a.b.length_eq;rwa [Yc,Yc]at this
 have j:=a.n;rw[m,YZ]at j e c;refine⟨R,h,⟨f,a.k,by have:=a.t;rwa [Yg]at this,a.b.nodup_iff.mpr (XG.mpr (l.un.imp λh z=>h (by omega))),by omega,by omega,by omega,i,l.kw,lt⟩,g⟩
def AN(C:Addr)(w:List Nat)(K:List Str)(T:List T4):Prop:=∃R h k,GR C w h R k K T/\R.G=[]/\k<900/\1<=K.length/\K.length<900/\T.length<900
theorem w_a:okW (sT [97]):=by refine⟨by decide,by decide,?_⟩;intro c h;have:c=97:=Yl.mp h;omega
theorem FR:okW (sT [97,98]):=by
 refine⟨by decide,by decide,?_⟩;intro c h;have:c=97\/c=98:=by simpa[sT]using h
 omega
theorem w_c:okW (sT [99]):=by refine⟨by decide,by decide,?_⟩;intro c h;have:c=99:=Yl.mp h;omega
theorem w_z:okW (sT [122]):=by refine⟨by decide,by decide,?_⟩;intro c h;have:c=122:=Yl.mp h;omega
theorem pF:∀(m:Nat) (w:List Nat) (h:Int) (R:RS) (k:Nat) (K:List Str) (T:List T4),GR C w h R k K T->R.G=[]->K.length+m<1000->T.length<1000->∃a h',GR C (w++(List.replicate m [46,97]).flatten) h' a (k+m) (K++List.replicate m (sT [97])) T/\a.G=[]
 |0,w,h,R,k,K,T,g,hG,_,_=>⟨R,h,by rw[Zm,Zm,XO,Yg,Yg];exact g,hG⟩
 |m+1,w,h,R,k,K,T,g,hG,kl,tl=>by
  obtain⟨a,h',c,b⟩:=pF m _ _ _ _ _ _ (g.dot hG w_a (by omega) tl) hG (by rw[Yb];show K.length+1+m<1000;omega) tl;refine⟨a,h',?_,b⟩;rw[Yk,Yk]at c;rw[YK,YK,Za,show k+(m+1)=k+1+m by omega];exact c
def wm(c:Nat):mtx (List.replicate c (7,1))=(List.replicate c [62,55]).flatten:=by unfold mtx;rw[List.flatMap_def,Xc,show mkT (7,1)=[62,55]by unfold mkT;rw[gN (by decide)];rfl]
def Gh(c:Nat):∀q∈List.replicate c ((7,1):Mk),okM q:=λq h=>by rw[Xt h];exact⟨by decide,by decide⟩
def ckd(j:Nat):List Nat:=if j%2=0 then[97]else[97,98]
def cP(bo:Bool)(k:Nat):List Nat:=(if bo=true then[40]else[])++(126::(dig (k%5)++ckd k))
def cW(bo:Bool):Nat->List Nat
 |0=>[122]
 |k+1=>cW bo k++cP bo k
def cK:Nat->List Str
 |0=>[sT [122]]
 |k+1=>cK k++[sT (ckd k)]
def cT:Nat->List T4
 |0=>[]
 |k+1=>cT k++[((k:Int),(k:Int)+1,((k%5:Nat):Int),false)]
def zp(j:Nat):okW (sT (ckd j)):=by unfold ckd;split;exact w_a;exact FR
theorem pS:∀k,(cK k).length=k+1
 |0=>rfl
 |k+1=>by show(cK k++[sT (ckd k)]).length=_;rw[Yb,pS k];rfl
theorem rM:∀k,(cT k).length=k
 |0=>rfl
 |k+1=>by show(cT k++[_]).length=_;rw[Yb,rM k];rfl
theorem Fj(bo:Bool)(k:Nat):(cP bo k).length<=5:=by unfold cP ckd;rw[gN (show k%5<10 by omega)];split<;>split<;>simp
theorem pX(bo:Bool):∀k,(cW bo k).length<=5*k+1
 |0=>by show 1<=_;omega
 |k+1=>by
  have a:=pX bo k;have h:=Fj bo k;show(cW bo k++cP bo k).length<=_;rw[Yb];omega
theorem sX(C:Addr)(bo:Bool):∀k,k<500->∃R,GR C (cW bo k) (k:Int) R k (cK k) (cT k)/\R.G.length=(if bo=true then k else 0)
 |0,_=>⟨_,GR.start w_z,by show 0=_;split<;>rfl⟩
 |k+1,hk=>by
  obtain⟨R,g,h⟩:=sX C bo k (by omega);have b:=pS k;have j:=rM k;have m:∀q∈([((k%5),0)]:List Mk),okM q:=λq i=>by rw[Yl.mp i];exact⟨Yv (Nat.mod_lt k (by decide)) (by decide),by show 0<3;decide⟩
  have f:mtx [(k%5,0)]=126::dig (k%5):=by show mkT (k%5,0)++[]=_;rw[Yg];rfl
  have e:([((k%5),0)]:List Mk).map (bC (k:Int) ((cK k).length:Int))=[((k:Int),(k:Int)+1,((k%5:Nat):Int),false)]:=by rw[b];show[bC (k:Int) ((k+1:Nat):Int) (k%5,0)]=_;rfl
  have c:0<=(k:Int)/\(k:Int)<((cK k).length:Int):=by rw[b];omega
  cases bo with
  |false=>
   have a:=g.mark (zp k) (by omega) (by omega) m (by simp) (by show 1<200;decide) c;rw[f,e]at a;refine⟨plS R (ckd k) [] [((k:Int),(k:Int)+1,((k%5:Nat):Int),false)] R.G,?_,h⟩;rw[show(((k+1:Nat)):Int)=((cK k).length:Int)by rw[b]];exact a
  |true=>
   have a:=g.bough (zp k) (by omega) (by omega) (by rw[h,Yi rfl];omega) m (by simp) (by show 1<200;decide) c;rw[f,e]at a;refine⟨plS R (ckd k) [] [((k:Int),(k:Int)+1,((k%5:Nat):Int),false)] (R.G++[(k:Int)]),?_,by show(R.G++[(k:Int)]).length=_;rw[Yb,h];rfl⟩;rw[show(((k+1:Nat)):Int)=((cK k).length:Int)by rw[b]];exact a
theorem u8(C:Addr)(bo:Bool)(k:Nat)(j:k<300):AN C (cW bo k++(if bo=true then List.replicate k 41 else[])) (cK k) (cT k):=by
 obtain⟨R,g,h⟩:=sX C bo k (by omega);have i:=pS k;have f:=rM k;cases bo with
 |false=>exact⟨R,_,k,by rw[Yr (by decide),Yg];exact g,Zu.mp h,by omega,by omega,by omega,by omega⟩
 |true=>
  rw[Yi rfl]at h ⊢;obtain⟨e,a⟩:=nv (C:=C) k R _ _ _ h g.rd;exact⟨{R with G:=[]},e,k+k,⟨a,g.kk,g.tt,g.nb,g.lb,g.lc,g.cb,λc b=>(Yj.mp b).elim (g.aw c) λz=>by rw[Xt z];decide,g.kw,g.tk⟩,rfl,by omega,by omega,by omega,by omega⟩
def GV(x:List Nat)(n:Nat)(hx:x≠[]):r9 (sT x) (n:Int)=sT (List.replicate n x).flatten:=by
 unfold r9;by_cases b:(n:Int)<1
 ·have:n=0:=by omega
  subst this;rfl
 ·rw[Yr b];by_cases h:n=1
  ·subst h;rw[show List.replicate 1 x=[x]from rfl,Za,XO,Yg];rfl
  ·rw[Yr]
   ·have e:∀(m:Nat) (a:List Nat),(List.replicate m x.toArray).foldl (·++·) a.toArray=(a++(List.replicate m x).flatten).toArray:=by
     intro m;induction m with
     |zero=>intro a;rw[Zm,Zm,XO,Yg];rfl
     |succ m ih=>
      intro a;rw[YK,XV,show a.toArray++x.toArray=(a++x).toArray by simp,ih,Yk,YK,Za]
    show Str.mk ((List.replicate ((n:Int)).toNat x.toArray).foldl (·++·) #[])=_;rw[XH];have:=e n [];rw[Zg]at this;exact YM Str.mk this
   ·have f:((n:Int) == 1)=false:=by rw[Ze];omega
    have c:((sT x).length == 0)=false:=by rw[Ze,dH];exact λz=>hx (Zu.mp z)
    rw[f,c];exact λz=>nomatch z
theorem uq{x:List Nat}{n:Nat}(hx:x≠[])(h1:x.length<=1000)(h:n<1000):ge (.str (sT x)) (.int (n:Int))=some (.str (sT (List.replicate n x).flatten)):=by rw[<-GV x n hx];exact Yi ⟨by omega,by omega,by rw[dH];exact h1⟩
theorem E3(k:Nat):Txt.slice (sT [97,98,99]) none (some (1+(k:Int)%2))=sT (ckd k):=by
 unfold ckd;by_cases h:k%2=0
 ·rw[Yi h,show(k:Int)%2=0 by omega];kernel_rfl
 ·rw[Yr h,show(k:Int)%2=1 by omega];kernel_rfl
def GM:("abc":Str)=sT [97,98,99]:=by kernel_rfl
def s_e:("":Str)=sT []:=by kernel_rfl
def Ir:("~":Str)=sT [126]:=by kernel_rfl
abbrev chF(w:List Nat)(K T:List D)(t1 t2:Option Addr)(m:Int)(bo:Bool)(a x:Option DV):DF:=[sS w,sO (.lst K) t1,sO (.lst T) t2,sI m,sV (.bl bo),sI 0,a,x]
abbrev chB:DF->Option RES:=(ag (iu 2 (asT (al (d2 ap (aj 5) (aj 6)) (al (d2 ap (d2 ap (aj 5) (aj 6)) (cI 1)) (al (d2 aA (aj 6) (cI 5)) (al (λ_=>some (.bl false)) bp))))))
  (ag (iu 1 (slS (λ_=>some (.str (sT [97,98,99]))) bNo (bI (d2 ap (cI 1) (d2 aA (aj 6) (cI 2))))))
  (ag (aT 7 (d2 ap (d2 ap (λ_=>some (.str (sT [126]))) (d1 gv (d2 aA (aj 6) (cI 5)))) (slS (λ_=>some (.str (sT [97,98,99]))) bNo (bI (d2 ap (cI 1) (d2 aA (aj 6) (cI 2)))))))
  (aT 0 (d2 ap (d2 ap (aj 0) (d2 ixD (asO (asL (al (λ_=>some (.str (sT []))) (al (λ_=>some (.str (sT [40]))) bp)))) (d1 oN (am 4)))) (aj 7))))))
theorem C9{m:Int}{bo:Bool}(k:Nat)(u:k<300)(a:Option DV):∃c,chB (chF (cW bo k) ((cK k).map .str) ((cT k).map dT4) t1 t2 m bo (sI k) a)=some (.nx (chF (cW bo (k+1)) ((cK (k+1)).map .str) ((cT (k+1)).map dT4) t1 t2 m bo (sI k) c)):=by
 have s:=pS k;have q:=rM k;have w:=pX bo k;have f:=aU (k:Int) 5 (by decide);have i:=aU (k:Int) 2 (by decide);have g:(k:Int)%5=((k%5:Nat):Int):=by omega
 have h:∀b:DF,aj 6 b=some (.int (k:Int))->slS (λ_=>some (.str (sT [97,98,99]))) bNo (bI (d2 ap (cI 1) (d2 aA (aj 6) (cI 2)))) b=some (.str (sT (ckd k))):=λb o=>vj (z:=1+(k:Int)%2) rfl (by decide) (by rw[ao,ao,o];show((aA (.int (k:Int)) (.int 2)).bind λy=>ap (.int 1) y)=_;rw[i];rfl) (E3 k)
 have A:(dig (k%5)).length=1:=by rw[gN (show k%5<10 by omega)];rfl
 have B:(ckd k).length<=2:=by unfold ckd;split<;>decide
 refine⟨sS (126::(dig (k%5)++ckd k)),?_⟩;unfold chB;rw[ae (ρ':=chF (cW bo k) ((cK k).map .str) ((cT (k+1)).map dT4) t1 t2 m bo (sI k) a) (by
  have e:((cT k).map dT4).length<16777216:=by rw[Yc];omega
  rw[vD];show Option.bind (asT _ _) (λd=>if((cT k).map dT4).length<16777216 then some (RES.nx (chF (cW bo k) ((cK k).map .str) ((cT k).map dT4++[d]) t1 t2 m bo (sI k) a))else none)=_;have p:asT (al (d2 ap (aj 5) (aj 6)) (al (d2 ap (d2 ap (aj 5) (aj 6)) (cI 1)) (al (d2 aA (aj 6) (cI 5)) (al (λ_=>some (.bl false)) bp)))) (chF (cW bo k) ((cK k).map .str) ((cT k).map dT4) t1 t2 m bo (sI k) a)=some (dT4 ((k:Int),(k:Int)+1,((k%5:Nat):Int),false)):=by rw[<-g];simp[f,dT4]
  rw[p,Ya,Yi e,show cT (k+1)=cT k++[((k:Int),(k:Int)+1,((k%5:Nat):Int),false)]from rfl,Yw];rfl)]
 rw[ae (ρ':=chF (cW bo k) ((cK (k+1)).map .str) ((cT (k+1)).map dT4) t1 t2 m bo (sI k) a) (by
  have e:((cK k).map D.str).length<16777216:=by rw[Yc];omega
  rw[vD];show Option.bind (slS _ _ _ _) (λd=>if((cK k).map D.str).length<16777216 then some (RES.nx (chF (cW bo k) ((cK k).map .str++[d]) ((cT (k+1)).map dT4) t1 t2 m bo (sI k) a))else none)=_;rw[h _ rfl,Ya,Yi e,show cK (k+1)=cK k++[sT (ckd k)]from rfl,Yw];rfl)]
 rw[ae (ρ':=chF (cW bo k) ((cK (k+1)).map .str) ((cT (k+1)).map dT4) t1 t2 m bo (sI k) (sS (126::(dig (k%5)++ckd k)))) (by
  rw[bf,ao,ao,b8,ao,h _ rfl];show Option.map _ ((((aA (.int (k:Int)) (.int 5)).bind gv).bind λy=>ap (.str (sT [126])) y).bind λx=>ap x (.str (sT (ckd k))))=_;rw[f,Ya,g,mf (Yv (Nat.mod_lt k (by decide)) (by decide)),Ya,cm (by simp;omega),Ya,cm (by simp;omega)];rfl)]
 rw[bf,ao,ao];have l:d2 ixD (asO (asL (al (λ_=>some (.str (sT []))) (al (λ_=>some (.str (sT [40]))) bp)))) (d1 oN (am 4)) (chF (cW bo k) ((cK (k+1)).map .str) ((cT (k+1)).map dT4) t1 t2 m bo (sI k) (sS (126::(dig (k%5)++ckd k))))=some (.str (sT (if bo=true then[40]else[]))):=by cases bo<;>rfl
 have j:(if bo=true then[40]else[]:List Nat).length<=1:=by cases bo<;>decide
 rw[l];show Option.map _ ((ap (.str (sT (cW bo k))) (.str (sT (if bo=true then[40]else[])))).bind λx=>ap x (.str (sT (126::(dig (k%5)++ckd k)))))=_;rw[cm (by omega),Ya,cm (by simp;omega),Yk];rfl
theorem yT(C:Addr)(m:Nat)(u:m<300)(bo:Bool):e8 C [.v (.str (sT [122])),.own (.lst [.str (sT [122])]) none,.own (.lst []) none,.v (.int (m:Int)),.v (.bl bo)]=some ([.v (.str (sT [122])),.own (.lst ((cK m).map .str)) none,.own (.lst ((cT m).map dT4)) none,.v (.int (m:Int)),.v (.bl bo)],.str (sT (cW bo m++(if bo=true then List.replicate m 41 else[])))):=fQ rfl λa=>by
 have w:=pX bo m;show(iF C [sS [122],sO (.lst [.str (sT [122])]) (some (a 1)),sO (.lst []) (some (a 2)),sI m,sV (.bl bo),none,none,none]).bind _=_;unfold iF;rw[GM,s_e,Ir,uV,tu];rw[ae (ρ':=chF (cW bo 0) ((cK 0).map .str) ((cT 0).map dT4) (some (a 1)) (some (a 2)) (m:Int) bo none none) rfl];obtain⟨ρ',l,b,x,rfl⟩:=l6 (st:=setV 6) (body:=chB) (λk g=>∃b x,g=chF (cW bo k) ((cK k).map .str) ((cT k).map dT4) (some (a 1)) (some (a 2)) (m:Int) bo b x) ((ff (m:Int)).map .int) 0 (chF (cW bo 0) ((cK 0).map .str) ((cT 0).map dT4) (some (a 1)) (some (a 2)) (m:Int) bo none none) ⟨none,none,rfl⟩ (λj d g i s=>by
  obtain⟨b,x,rfl⟩:=s;have p:=CQ i;subst p;have o:j<m:=by have:=(YI.mp i).1;rw[Yc,dJ]at this;omega
  rw[Vb];obtain⟨c,e⟩:=C9 (t1:=some (a 1)) (t2:=some (a 2)) (m:=(m:Int)) (bo:=bo) j (by omega) x;exact⟨_,rfl,_,e,_,c,rfl⟩)
 rw[Yc,dJ,Vb,XH]at l;rw[ae (ρ':=chF (cW bo m) ((cK m).map .str) ((cT m).map dT4) (some (a 1)) (some (a 2)) (m:Int) bo b x) (by
  rw[fT,lM (n:=(m:Int)) rfl ⟨by omega,by omega⟩];exact l)]
 have f:ge (.str (sT [41])) (.int (m:Int))=some (.str (sT (List.replicate m 41))):=by rw[<-D5];exact Yi ⟨by omega,by omega,by decide⟩
 have h:d2 ixD (asO (asL (al (d2 ge (λ_=>some (.str (sT [41]))) (aj 3)) (al (λ_=>some (.str (sT []))) bp)))) (d1 oN (x_ (getV 4))) (chF (cW bo m) ((cK m).map .str) ((cT m).map dT4) (some (a 1)) (some (a 2)) (m:Int) bo b x)=some (.str (sT (if bo=true then List.replicate m 41 else[]))):=by rw[ao,rg,jp,tf,ao];show(Option.map OD.d (Option.map OD.lst ((ge (.str (sT [41])) (.int (m:Int))).bind λd=>some [d,.str (sT [])]))).bind _=_;rw[f];cases bo<;>rfl
 rw[fg,ao,h];show Option.bind (Option.map _ (ap (.str (sT (cW bo m))) (.str (sT (if bo=true then List.replicate m 41 else[]))))) _=_;have q:(if bo=true then List.replicate m 41 else[]:List Nat).length<=m:=by split<;>simp
 rw[cm (by omega)];simp[nH,gA]
open Builtin Builtin.Str
def Hv{as:Nat->Addr}{x d:D}{A K b T a:OD}{c z:Option DV}{σ:DF}:nH as [.v x,.own A none,.v y,.own K none,.own T none] (.rt (.v d) (c::sO A' (some (as 1))::z::sO b (some (as 3))::sO a (some (as 4))::σ))=some ([.v x,.own A' none,.v y,.own b none,.own a none],d):=by simp[nH,gA]
def eqM{v c:Int}(h:aj 5 ρ=some (.int v)):asB (d2 eqD (d2 aA (aj 5) (cI 5)) (λ_=>some (.int c))) ρ=some (decide (v%5=c)):=by rw[bL,ao,ao,h];show(match(aA (.int v) (.int 5)).bind λx=>eqD x (.int c)with|some (.bl b)=>some b|_=>none:Option Bool)=_;rw[aU v 5 (by decide),Ya,d_]
def ltM{v:Int}(h:aj 5 ρ=some (.int v)):asB (d2 ltd (d2 aA (aj 5) (cI 5)) (cI 3)) ρ=some (decide (v%5<3)):=by rw[bL,ao,ao,h];show(match(aA (.int v) (.int 5)).bind λx=>ltd x (.int 3)with|some (.bl b)=>some b|_=>none:Option Bool)=_;rw[aU v 5 (by decide),Ya,vX]
def II:(".a":Str)=sT [46,97]:=by kernel_rfl
def HZ:("ab":Str)=sT [97,98]:=by kernel_rfl
def IB:(">7":Str)=sT [62,55]:=by kernel_rfl
def IL:("c":Str)=sT [99]:=by kernel_rfl
def I0:("z":Str)=sT [122]:=by kernel_rfl
def iU(n:Nat)(x:List Nat):(List.replicate n x).flatten.length=n*x.length:=by
 induction n with
 |zero=>rw[Zm,Nat.zero_mul];rfl
 |succ n ih=>rw[YK,Za,Yb,ih,Nat.succ_mul,Nat.add_comm]
theorem Ef(n:Nat):Txt.slice (sT [46]) none (some ((n:Nat):Int))=sT (if n=0 then[]else[46]):=by
 by_cases h:n=0
 ·subst h;rw[Yi rfl];kernel_rfl
 ·rw[Yr h];have e:strSliceIndices none (some (n:Int)) 1 1=[0]:=by
   have b:¬((n:Int)<0):=by omega
   have a:max (0:Int) (min (n:Int) 1)=1:=by omega
   simp only[strSliceIndices,sliceRange,b,if_false];simp[a]
  unfold Txt.slice;rw[show(sT [46]).length=1 from rfl,e];rfl
section
variable   {A1:OD}{w:List Nat}{K:List Str}{T:List T4}
abbrev grF(ns:List Int)(A:OD)(t1:Option Addr)(w:List Nat)(K:List D)(t3:Option Addr)(T:List D)(c:Option Addr)(v:Int)(b a x:Option DV):DF:=[some (SC ns),sO A t1,sS w,sO (.lst K) t3,sO (.lst T) c,sI v,b,a,x]
def re{v q:Int}(h:aj 6 ρ=some (.int v))(a:0<q):d2 aA (aj 6) (λ_=>some (.int q)) ρ=some (.int (v%q)):=by rw[ao,h];exact aU v q a
theorem yH{f:Dl}{n:Nat}(h1:f ρ=some ds)(h2:fb ρ=some (.int (n:Int)))(hd:ds.length<=1000)(h:n<=1000):tw f fb ρ=some (List.replicate n ds).flatten:=by unfold tw;rw[h1,h2];show(if 0<=(n:Int)/\(n:Int)<=1000/\ds.length<=1000 then some (List.replicate (n:Int).toNat ds).flatten else none)=_;rw[Yi ⟨by omega,by omega,hd⟩,XH]
def rb{g:Dl}{es:List D}{t:Option Addr}(h:ρ[i]?=some (sO (.lst ds) t))(b:g ρ=some es)(a:ds.length+es.length<=16777216):rP i g ρ=some (.nx (ρ.set i (sO (.lst (ds++es)) t))):=by unfold rP;rw[h];show Option.bind (g ρ) _=_;rw[b,Ya,Yi a]
def v9{a:Type}(n:Nat)(x:a):(List.replicate n [x]).flatten=List.replicate n x:=by
 induction n with
 |zero=>rfl
 |succ n ih=>rw[YK,Za,ih,YK];rfl
theorem Ab{h:Int}{R:RS}{k:Nat}(g:GR C w h R k K T)(e:R.G=[])(l:K.length<=10)(tl:T.length<=20)(m:k<500){c:Nat}(c1:1<=c)(j:c<=15):AN C (w++(46::[97,98]++((List.replicate c [62,55]).flatten++[99]))) (K++[sT [97,98],sT [99]]) (T++List.replicate c ((K.length:Int),(K.length:Int)+1,7,true)):=by
 have f:=g.dot e FR (by omega) (by omega);have a:(K++[sT [97,98]]).length=K.length+1:=by rw[Yb];rfl
 have b:=f.mark (ms:=List.replicate c (7,1)) w_c (by omega) (by omega) (Gh c) (by intro z;have:=YM List.length z;rw[Yo]at this;simp at this;omega) (by rw[Yo];omega) (by rw[a];omega);rw[wm,Xc,Yk,Yk,a]at b;have i:bC (K.length:Int) ((K.length+1:Nat):Int) (7,1)=((K.length:Int),(K.length:Int)+1,7,true):=rfl;rw[i]at b;exact⟨_,_,_,b,e,by omega,by simp,by simp;omega,by simp;omega⟩
theorem xS{c:Nat}(c1:1<=c)(b:c<=15):AN C ([97,98]++((List.replicate c [62,55]).flatten++[99])) [sT [97,98],sT [99]] (List.replicate c (0,1,7,true)):=by have a:=GR.start (C:=C) FR;have g:=a.mark (ms:=List.replicate c (7,1)) w_c (by decide) (by decide) (Gh c) (by intro z;have:=YM List.length z;rw[Yo]at this;simp at this;omega) (by rw[Yo];omega) (by decide);rw[wm,Xc]at g;exact⟨_,_,0+1,g,rfl,by omega,by simp,by simp,by simp;omega⟩
theorem ym(hl:ns.length<=100){A:OD}{b:Nat}(hA:At A b)(hb:b<=1000){h:Int}{R:RS}{k:Nat}(g:GR C w h R k K T)(hG:R.G=[])(hk:k<500)(k1:1<=K.length)(k7:K.length<=7)(X:T.length<=12)(hw:w.length<=16000000):∃(A':OD) (I:List Nat) (Q:List Str) (P:List T4),At A' (b+1)/\AN C I Q P/\I.length<=16010000 /\
  dw C [SC ns,.own A none,.v (.str (sT w)),.own (.lst (K.map .str)) none,.own (.lst (T.map dT4)) none]=some ([SC ns,.own A' none,.v (.str (sT w)),.own (.lst (Q.map .str)) none,.own (.lst (P.map dT4)) none],.str (sT I)):=by
 obtain⟨v,o,hA1,v0,v1,hv⟩:=em C ns hl hA (by omega);have f5:=b5 v 5 (by decide)
 let u:Nat:=(v/5).toNat
 have hu:v/5=(u:Int):=by show v/5=((v/5).toNat:Int);omega
 rw[hu]at f5;have Z:∃(I:List Nat) (Q:List Str) (P:List T4),AN C I Q P/\I.length<=16010000/\∀l j i:Option Addr,∃L J p,fY C [some (SC ns),sO A l,sS w,sO (.lst (K.map .str)) j,sO (.lst (T.map dT4)) i,none,none,none,none]=some (.rt (.v (.str (sT I))) (L::sO o l::J::sO (.lst (Q.map .str)) j::sO (.lst (P.map dT4)) i::p)):=by
  unfold fY;rw[II,HZ,IB,IL,I0,xQ,s_e];have h0:∀(l j i:Option Addr) (G:Dw),ag (aY 5 (ay (au C) (aN (ah (getV 0)) (az 1 bJ)))) (ag (aT 6 (d2 bu (aj 5) (cI 5))) G) [some (SC ns),sO A l,sS w,sO (.lst (K.map .str)) j,sO (.lst (T.map dT4)) i,none,none,none,none]=G (grF ns o l w (K.map .str) j (T.map dT4) i v (sI u) none none):=λl j i G=>by
   rw[ae (cc (iW ⟨_,rfl⟩ hv))];refine ae ?_;rw[bf,ao];show Option.map _ (bu (.int v) (.int 5))=_;rw[f5];rfl
  simp only[h0];by_cases q0:v%5=0
  ·-- places behind,each a run of its own
   obtain⟨R',h',g',hG'⟩:=pF (u%9) w h R k K T g hG (by omega) (by omega);refine⟨w++(List.replicate (u%9) [46,97]).flatten,K++List.replicate (u%9) (sT [97]),T,⟨R',h',_,g',hG',by omega,by rw[Yb];omega,by rw[Yb,Yo];omega,by omega⟩,by rw[Yb,iU];simp;omega,λl j i=>⟨some (SC ns),sS w,[sI v,sI u,none,none],dO ?_⟩⟩;rw[dL (eqM rfl),YA q0,Yi rfl];have e9:d2 aA (aj 6) (cI 9) (grF ns o l w (K.map .str) j (T.map dT4) i v (sI u) none none)=some (.int ((u%9:Nat):Int)):=by rw[re rfl (by decide)];rfl
   have eK:(K.map D.str++(List.replicate (u%9) [D.str (sT [97])]).flatten)=(K++List.replicate (u%9) (sT [97])).map .str:=by rw[Yw,Xc,v9]
   rw[ae (ρ':=grF ns o l w ((K++List.replicate (u%9) (sT [97])).map .str) j (T.map dT4) i v (sI u) none none) (by
    rw[rb rfl (yH (ds:=[.str (sT [97])]) (by rw[<-show("a":Str)=sT [97]by kernel_rfl];rfl) e9 (by simp) (by omega)) (by rw[Yc,v9,Yo];omega),eK];rfl)]
   have e9':d2 aA (aj 6) (cI 9) (grF ns o l w ((K++List.replicate (u%9) (sT [97])).map .str) j (T.map dT4) i v (sI u) none none)=some (.int ((u%9:Nat):Int)):=by rw[re rfl (by decide)];rfl
   rw[fg,ao,ao,e9'];show Option.map _ ((ge (.str (sT [46,97])) (.int ((u%9:Nat):Int))).bind λy=>ap (.str (sT w)) y)=_;rw[uq (by simp) (by simp) (by omega),Ya,cm (by rw[iU];simp;omega)];rfl
  have n0:∀(l j i:Option Addr) (a G:Dw),ag (dIf (asB (d2 eqD (d2 aA (aj 5) (cI 5)) (cI 0))) a dNx) G (grF ns o l w (K.map .str) j (T.map dT4) i v (sI u) none none)=G (grF ns o l w (K.map .str) j (T.map dT4) i v (sI u) none none):=λl j i a G=>ae (by rw[dL (eqM rfl),Yn q0];rfl)
  simp only[n0];have z:1<=1+u%15/\1+u%15<=15:=by omega
  generalize hc:1+u%15=c at z;have ec:∀(A:OD) (l j i:Option Addr) (w:List Nat) (K T:List D) (x7:Option DV),d2 ap (cI 1) (d2 aA (aj 6) (cI 15)) (grF ns A l w K j T i v (sI u) x7 none)=some (.int (c:Int)):=λA l j i w K T x7=>by
   rw[ao,re rfl (by decide)];show some (D.int (1+(u:Int)%15))=_;rw[show(1+(u:Int)%15)=(c:Int)by omega]
  -- M places with ties,behind what stands there
  have M:∀(A:OD) (B:List Nat) (K0:List Str) (H:List T4),B.length<=16000000->K0.length<=7->H.length<=12->∀l j i:Option Addr,∃L J p,(ag (aT 7 (d1 aQ (am 3))) (ag (rP 3 (al (λ_=>some (.str (sT [97,98]))) (al (λ_=>some (.str (sT [99]))) bp))) (ag (rP 4 (tw (al (asT (al (getV 7) (al (d2 ap (aj 7) (cI 1)) (al (cI 7) (al (λ_=>some (.bl true)) bp))))) bp) (d2 ap (cI 1) (d2 aA (aj 6) (cI 15))))) (bO (d2 ap (d2 ap (d2 ap (d2 ap (aj 2) (slS (λ_=>some (.str (sT [46]))) bNo (bI (getV 7)))) (λ_=>some (.str (sT [97,98])))) (d2 ge (λ_=>some (.str (sT [62,55]))) (d2 ap (cI 1) (d2 aA (aj 6) (cI 15))))) (λ_=>some (.str (sT [99])))))))) (grF ns A l B (K0.map .str) j (H.map dT4) i v (sI u) none none)
    = some (.rt (.v (.str (sT (B++(if K0.length=0 then[]else[46])++[97,98]++(List.replicate c [62,55]).flatten++[99])))) (L::sO A l::J::sO (.lst ((K0++[sT [97,98],sT [99]]).map .str)) j::sO (.lst ((H++List.replicate c ((K0.length:Int),(K0.length:Int)+1,7,true)).map dT4)) i::p)):=λA B K0 H wl0 kl0 tl0 l j i=>by
   refine⟨some (SC ns),sS B,[sI v,sI u,sI K0.length,none],?_⟩;rw[ae (ρ':=grF ns A l B (K0.map .str) j (H.map dT4) i v (sI u) (sI K0.length) none) (by
    rw[bf,b8];show some (RES.nx _)=_;rw[Yc];rfl)]
   rw[ae (ρ':=grF ns A l B ((K0++[sT [97,98],sT [99]]).map .str) j (H.map dT4) i v (sI u) (sI K0.length) none) (by
    rw[rb (es:=[.str (sT [97,98]),.str (sT [99])]) rfl rfl (by rw[Yc];show K0.length+2<=_;omega),Yw];rfl)]
   have eT:H.map dT4++(List.replicate c [dT4 ((K0.length:Int),(K0.length:Int)+1,7,true)]).flatten=(H++List.replicate c ((K0.length:Int),(K0.length:Int)+1,7,true)).map dT4:=by rw[Yw,Xc,v9]
   rw[ae (ρ':=grF ns A l B ((K0++[sT [97,98],sT [99]]).map .str) j ((H++List.replicate c ((K0.length:Int),(K0.length:Int)+1,7,true)).map dT4) i v (sI u) (sI K0.length) none) (by
    rw[rb rfl (yH (ds:=[dT4 ((K0.length:Int),(K0.length:Int)+1,7,true)]) rfl (ec _ _ _ _ _ _ _ _) (by simp) (by omega)) (by rw[Yc,v9,Yo];omega),eT];rfl)]
   have es:slS (λ_=>some (.str (sT [46]))) bNo (bI (getV 7)) (grF ns A l B ((K0++[sT [97,98],sT [99]]).map .str) j ((H++List.replicate c ((K0.length:Int),(K0.length:Int)+1,7,true)).map dT4) i v (sI u) (sI K0.length) none)=some (.str (sT (if K0.length=0 then[]else[46]))):=vj rfl (by decide) rfl (Ef K0.length);have el:(if K0.length=0 then[]else[46]:List Nat).length<=1:=by split<;>decide
   generalize (if K0.length=0 then[]else[46]:List Nat)=E at es el ⊢;rw[fg,ao,ao,ao,ao,ao (F:=ge),es,ec];show Option.map _ ((((ap (.str (sT B)) (.str (sT E))).bind λx=>ap x (.str (sT [97,98]))).bind λx=>(ge (.str (sT [62,55])) (.int (c:Int))).bind λy=>ap x y).bind λx=>ap x (.str (sT [99])))=_;have fl:=iU c [62,55];rw[cm (by omega),Ya,cm (by simp;omega),Ya,uq (by simp) (by simp) (by omega),Ya,cm (by rw[fl];simp;omega),Ya,cm (by rw[Yb,fl];simp;omega)];rfl
  by_cases Y:v%5<3
  ·by_cases q2:v%5=2
   ·refine⟨_,_,_,xS z.1 z.2,by rw[Yb,Yb,iU];simp;omega,λl j i=>?_⟩;obtain⟨L,J,p,e⟩:=M o [] [] [] (by simp) (by simp) (by simp) l j i;refine⟨L,J,p,dO ?_⟩;rw[dL (ltM rfl),YA Y,Yi rfl];rw[ae (ρ':=grF ns o l [] [] j [] i v (sI u) none none) (by
     rw[dL (eqM rfl),YA q2];rfl)]
    exact e
   ·have gg:=Ab g hG (by omega) (by omega) hk z.1 z.2;refine⟨_,_,_,gg,by simp only[Yb,Yh,iU,YZ];omega,λl j i=>?_⟩;obtain⟨L,J,p,e⟩:=M o w K T hw k7 X l j i;refine⟨L,J,p,dO ?_⟩;rw[dL (ltM rfl),YA Y,Yi rfl];rw[ae (ρ':=grF ns o l w (K.map .str) j (T.map dT4) i v (sI u) none none) (by
     rw[dL (eqM rfl),Yn q2];rfl)]
    rw[Yr (by omega)]at e;refine e.trans ?_;simp only[Yk,List.cons_append,Zg]
  have n3:∀(l j i:Option Addr) (a G:Dw),ag (dIf (asB (d2 ltd (d2 aA (aj 5) (cI 5)) (cI 3))) a dNx) G (grF ns o l w (K.map .str) j (T.map dT4) i v (sI u) none none)=G (grF ns o l w (K.map .str) j (T.map dT4) i v (sI u) none none):=λl j i a G=>ae (by rw[dL (ltM rfl),Yn Y];rfl)
  simp only[n3]
  -- a chain
  have N:∃m:Nat,m<120/\∀(l j i:Option Addr) (G:Dw),(ag (oH 3) (ag (oH 4) (ag (iu 3 (λ_=>some (.str (sT [122])))) (ag (aT 8 (d2 ixD (asO (asL (al (d2 aA (d2 bu (aj 6) (cI 2)) (cI 8)) (al (d2 aA (d2 bu (aj 6) (cI 2)) (cI 111)) bp)))) (d2 aA (aj 6) (cI 2)))) (ag (dIf (asB (d2 eqD (d2 aA (aj 5) (cI 5)) (cI 3))) (aT 8 (d2 ixD (asO (asL (al (d2 aA (d2 bu (aj 6) (cI 2)) (cI 8)) (al (d2 aA (d2 bu (aj 6) (cI 2)) (cI 120)) bp)))) (d2 aA (aj 6) (cI 2)))) dNx) G))))) (grF ns o l w (K.map .str) j (T.map dT4) i v (sI u) none none)=G (grF ns o l w [.str (sT [122])] j [] i v (sI u) none (sI m)):=by
   have f2:=b5 (u:Int) 2 (by decide);have s:∀(q:Int) (ρ:DF),0<q->aj 6 ρ=some (.int (u:Int))->d2 ixD (asO (asL (al (d2 aA (d2 bu (aj 6) (cI 2)) (cI 8)) (al (d2 aA (d2 bu (aj 6) (cI 2)) (λ_=>some (.int q))) bp)))) (d2 aA (aj 6) (cI 2)) ρ=some (.int (if(u:Int)%2=0 then(u:Int)/2%8 else(u:Int)/2%q)):=λq ρ hq h6=>by
    have a1:=aU ((u:Int)/2) 8 (by decide);have a2:=aU ((u:Int)/2) q hq;have a3:=aU (u:Int) 2 (by decide);simp only[ao,rg,jp,tf,Cb,h6,Ya,f2,a1,a2,a3,ZC];have:(u:Int)%2=0\/(u:Int)%2=1:=by omega
    rcases this with e|e
    ·rw[e,Yi rfl];rfl
    ·rw[e,Yr (by decide)];rfl
   have U:∀(l j i:Option Addr) (G:Dw),(ag (oH 3) (ag (oH 4) (ag (iu 3 (λ_=>some (.str (sT [122])))) G))) (grF ns o l w (K.map .str) j (T.map dT4) i v (sI u) none none)=G (grF ns o l w [.str (sT [122])] j [] i v (sI u) none none):=λl j i G=>by
    rw[ae (ρ':=grF ns o l w [] j (T.map dT4) i v (sI u) none none) rfl,ae (ρ':=grF ns o l w [] j [] i v (sI u) none none) rfl,ae (ρ':=grF ns o l w [.str (sT [122])] j [] i v (sI u) none none) rfl]
   by_cases q4:v%5=3
   ·refine⟨(if(u:Int)%2=0 then(u:Int)/2%8 else(u:Int)/2%120).toNat,by split<;>omega,λl j i G=>?_⟩;rw[U];rw[ae (ρ':=grF ns o l w [.str (sT [122])] j [] i v (sI u) none (sI (if(u:Int)%2=0 then(u:Int)/2%8 else(u:Int)/2%111))) (by rw[bf,s 111 _ (by decide) rfl];rfl)];refine ae ?_;rw[dL (eqM rfl),YA q4,Yi rfl,bf,s 120 _ (by decide) rfl];rw[show(((if(u:Int)%2=0 then(u:Int)/2%8 else(u:Int)/2%120).toNat:Nat):Int)=(if(u:Int)%2=0 then(u:Int)/2%8 else(u:Int)/2%120)by split<;>omega];rfl
   ·refine⟨(if(u:Int)%2=0 then(u:Int)/2%8 else(u:Int)/2%111).toNat,by split<;>omega,λl j i G=>?_⟩;rw[U];rw[ae (ρ':=grF ns o l w [.str (sT [122])] j [] i v (sI u) none (sI (((if(u:Int)%2=0 then(u:Int)/2%8 else(u:Int)/2%111).toNat:Nat):Int))) (by
     rw[bf,s 111 _ (by decide) rfl,show(((if(u:Int)%2=0 then(u:Int)/2%8 else(u:Int)/2%111).toNat:Nat):Int)=(if(u:Int)%2=0 then(u:Int)/2%8 else(u:Int)/2%111)by split<;>omega];rfl)]
    exact ae (by rw[dL (eqM rfl),Yn q4];rfl)
  obtain⟨m,hm,hm2⟩:=N
  let O:Bool:=decide (v%5=4)&&decide ((m:Int)<90)
  have hch:=yT C m (by omega) O;have wl:=pX O m;have hbl:(if O=true then List.replicate m 41 else[]:List Nat).length<=m:=by split<;>simp
  refine⟨_,_,_,u8 C O m (by omega),by rw[Yb];omega,λl j i=>⟨some (SC ns),sS w,[sI v,sI u,none,sI m],?_⟩⟩;rw[hm2];refine r6 ?_;have eb:hV (d2 eqD (d2 aA (aj 5) (cI 5)) (cI 4)) (d2 ltd (am 8) (cI 90)) (grF ns o l w [.str (sT [122])] j [] i v (sI u) none (sI m))=some (.bl O):=by have h5:=aU v 5 (by decide);rw[vt,ao,ao,ao];show(match(aA (.int v) (.int 5)).bind λx=>eqD x (.int 4)with|some (.bl true)=>ltd (.int (m:Int)) (.int 90)|some (.bl false)=>some (.bl false)|_=>none:Option D)=_;rw[h5,Ya,d_,vX];show _=some (D.bl (decide (v%5=4)&&decide ((m:Int)<90)));cases decide (v%5=4)<;>rfl
  have ew:=i4 (ρ:=grF ns o l w [.str (sT [122])] j [] i v (sI u) none (sI m)) (bE (f:=getV 8) rfl) (i4 (g:=bJ) (bE eb) rfl);unfold ay;have e:aN (ah (λ_=>some (.str (sT [122])))) (az 3 (az 4 (aN (ah (getV 8)) (aN (ah (hV (d2 eqD (d2 aA (aj 5) (cI 5)) (cI 4)) (d2 ltd (am 8) (cI 90)))) bJ)))) (grF ns o l w [.str (sT [122])] j [] i v (sI u) none (sI m))=some ([.inr (.str (sT [122])),.inl 3,.inl 4,.inr (.int (m:Int)),.inr (.bl O)],grF ns o l w [.str (sT [122])] j [] i v (sI u) none (sI m)):=by refine i4 (bE rfl) ?_;show Option.map _ (Option.map _ (aN (ah (getV 8)) (aN (ah _) bJ) _))=_;rw[ew];rfl
  rw[e,Ya];show(if([3,4]:List Nat).Nodup then(some [DV.v (.str (sT [122])),.own (.lst [.str (sT [122])]) none,.own (.lst []) none,.v (.int (m:Int)),.v (.bl O)]).bind (λxs=>(e8 C xs).bind _)else none)=_;rw[Yi (by decide),Ya,hch];rfl
 obtain⟨I,Q,P,h1,h2,h3⟩:=Z;refine⟨o,I,Q,P,hA1,h1,h2,fQ rfl λS=>?_⟩;obtain⟨L,J,p,e⟩:=h3 (some (S 1)) (some (S 3)) (some (S 4));show(fY C [some (SC ns),sO A (some (S 1)),sS w,sO (.lst (K.map .str)) (some (S 3)),sO (.lst (T.map dT4)) (some (S 4)),none,none,none,none]).bind _=_;rw[e];exact Hv
end
def xZ(C:Addr)(t:T4):cQ C [.v (dT4 t),.v (dT4 t)]=sV (.bl true):=by
 have e:=GA t;have h:=yi C;unfold cQ jG;generalize dY C=W at h ⊢;have f:ixD (dT4 t) (.int 0)=some (.int t.1):=rfl;have c:ixD (dT4 t) (.int 1)=some (.int t.2.1):=rfl;have a:ixD (dT4 t) (.int 2)=some (.int t.2.2.1):=rfl;have i:ixD (dT4 t) (.int 3)=some (.bl t.2.2.2):=rfl;have j:aQ (dT4 t)=some (.int 4):=rfl;have g:ko "tuple" (dT4 t)=some (.bl true):=rfl;have l:∀b,ko "bool" (.bl b)=some (.bl true):=λ_=>rfl
 generalize dT4 t=d at *;simp[f,c,a,i,j,g,l,h,e]
theorem Fo(C:Addr)(f:List T4)(E:f.length<=12):eS C [.bor (.lst (f.map dT4))]=sO (.lst (srt f)) none:=by
 have go:∀(l:List T4) (c:List D) (s q p y:Option DV),c.length+l.length<1000->∃m j i z,c7 (jZ [2,3,4,5]) (dIf (cR (di (asB (getV 5))) (asB (d2 gtI (aj 2) (aj 3)))) (iu 1 (asT (al (getV 3) (al (getV 2) (al (getV 4) (al (getV 5) bp)))))) (iu 1 (asT (al (getV 2) (al (getV 3) (al (getV 4) (al (getV 5) bp))))))) (l.map dT4) [some (.bor (.lst (f.map dT4))),sO (.lst c) none,s,q,p,y]=some (.nx [some (.bor (.lst (f.map dT4))),sO (.lst (c++(l.map lf).map dT4)) none,m,j,i,z]):=by
  intro l;induction l with
  |nil=>exact λc s q p y _=>⟨s,q,p,y,by rw[Zd,Zd,Zd,Yg];rfl⟩
  |cons t l ih=>
   intro c s q p y w;obtain⟨a,b,k,o⟩:=t;rw[Yh]at w;obtain⟨m,j,i,z,e⟩:=ih (c++[dT4 (lf (a,b,k,o))]) (sI a) (sI b) (sI k) (sV (.bl o)) (by rw[Yb];show c.length+1+l.length<1000;omega);refine⟨m,j,i,z,?_⟩;have g:c.length<16777216:=by omega
   have x:(dIf (cR (di (asB (getV 5))) (asB (d2 gtI (aj 2) (aj 3)))) (iu 1 (asT (al (getV 3) (al (getV 2) (al (getV 4) (al (getV 5) bp)))))) (iu 1 (asT (al (getV 2) (al (getV 3) (al (getV 4) (al (getV 5) bp))))))) [some (.bor (.lst (f.map dT4))),sO (.lst c) none,sI a,sI b,sI k,sV (.bl o)]=some (.nx [some (.bor (.lst (f.map dT4))),sO (.lst (c++[dT4 (lf (a,b,k,o))])) none,sI a,sI b,sI k,sV (.bl o)]):=by
    unfold lf;cases o with
    |true=>simp[g,dT4]
    |false=>
     by_cases h:b<a
     ·have B:¬a<b:=by omega
      simp[g,h,B,dT4]
     ·by_cases A:a<b
      ·simp[g,h,A,dT4]
      ·have:a=b:=by omega
       subst this;simp[g,dT4]
   rw[YC];unfold c7;show(match(dIf _ _ _:Dw) [some (.bor (.lst (f.map dT4))),sO (.lst c) none,sI a,sI b,sI k,sV (.bl o)]with|some (.nx ρ)=>c7 _ _ (l.map dT4) ρ|some (.ct ρ)=>c7 _ _ (l.map dT4) ρ|some (.bk ρ)=>some (.nx ρ)|r=>r)=_;rw[x];show c7 _ _ (l.map dT4) _=_;rw[e,Yk];rfl
 obtain⟨m,j,i,z,e⟩:=go f [] none none none none (by show 0+f.length<1000;omega);rw[Zg]at e;show dW (iw C [some (.bor (.lst (f.map dT4))),none,none,none,none,none])=_;unfold iw;rw[ae (ρ':=[some (.bor (.lst (f.map dT4))),sO (.lst []) none,none,none,none,none]) rfl];rw[ae (ρ':=[some (.bor (.lst (f.map dT4))),sO (.lst ((f.map lf).map dT4)) none,m,j,i,z]) (by rw[fT];exact e)];have u:eh ((f.map lf).map dT4)=true:=oU (f.map lf) (by rw[Yc];omega);rw[tm,jp,ni];show dW (Option.map _ (Option.map _ (if eh ((f.map lf).map dT4)=true then some (eX ((f.map lf).map dT4))else none)))=_;rw[Yi u];rfl
def DT{a:Type}(l:List a):xo (.lst (l.map λ_=>D.bl true))=some (.bl true):=by
 have c:((l.map λ_=>D.bl true).all p_)=true:=by simp[p_]
 have b:((l.map λ_=>D.bl true).all trD)=true:=by rw[List.all_map,YH];exact λ_ _=>rfl
 show(if((l.map λ_=>D.bl true).all p_)=true then some (D.bl ((l.map λ_=>D.bl true).all trD))else none)=_;rw[Yi c,b]
theorem xL(C:Addr)(ks:List Str)(a us:List T4)(J:D)(n:Int)(u:okK n ks)(O:ks.length<=7)(B:us.length<=12)(he:srt us=srt a) :
  du C [.v (.ins C (wFs ks (.lst (srt a)) J)),.bor (.lst (ks.map .str)),.bor (.lst (us.map dT4))]=sV (.bl true):=by
 have L:=xZ C;have H:eS C [.bor (.lst (us.map dT4))]=sO (.lst (srt a)) none:=by rw[<-he];exact Fo C us B
 have fk:=xM C ks (.lst (srt a)) J;have o:=AE C ks (.lst (srt a)) J;have s:(srt a).length=us.length:=by rw[<-he,Bt]
 obtain⟨b,y,_⟩:=Eu a;have A:neD (.lst (ks.map D.str)) (.lst (ks.map D.str))=some (.bl false):=by rw[As (DR u) (DR u),A8 D.str (λ_ _=>rfl)];rfl
 have N:FQ C (.ins C (wFs ks (.lst (srt a)) J))=some (.bl true):=Yi rfl;have M:∀l,ko "list" (.lst l)=some (.bl true):=λ_=>rfl
 have f:fK (setV 0) iI (d1 (ko "str") (am 0)) [none] (ks.map D.str)=some (ks.map λ_=>D.bl true):=gI D.str (λ_=>D.bl true) ks λx _=>⟨[sV (.str x)],rfl,rfl,rfl⟩
 have z:b.length=us.length:=by rw[<-s,y,Yc]
 have h:fK (setV 0) iI (cq (cQ C) (aV (d2 ixD (d1 (dq C "ties") (aj 1)) (aj 0)) (aV (d2 ixD (aj 2) (aj 0)) nA))) [none,sV (.ins C (wFs ks (.lst (srt a)) J)),sV (.lst (srt a))] ((ff (b.length:Int)).map .int)=some ((ff (b.length:Int)).map λ_=>D.bl true):=gI D.int (λ_=>D.bl true) _ λi w=>by
  refine⟨[sI i,sV (.ins C (wFs ks (.lst (srt a)) J)),sV (.lst (srt a))],rfl,rfl,?_⟩;have e:0<=i/\i<(b.length:Int):=by unfold ff at w;obtain⟨m,I,rfl⟩:=Yt.mp w;rw[Zz]at I;omega
  obtain⟨t,E,c⟩:=vk (l:=b) dT4 e.1 e.2;rw[<-y]at c;have j:=L t;generalize cQ C=Ti,wFs ks (.lst (srt a)) J=F at *;generalize srt a=S at *;simp[o,ix1,c,j]
 have q:=DT ks;have p:=DT (ff (b.length:Int));unfold du kb;show dW (ag _ (ag _ (ag _ _)) [sV (.ins C (wFs ks (.lst (srt a)) J)),some (.bor (.lst (ks.map D.str))),some (.bor (.lst (us.map dT4))),none])=_;generalize K:cQ C=Ti,eS C=Pl,hF:wFs ks (.lst (srt a)) J=F at *;rw[ae (ρ':=[sV (.ins C F),some (.bor (.lst (ks.map D.str))),some (.bor (.lst (us.map dT4))),none]) (by simp[N,fk,o,M])];rw[ae (ρ':=[sV (.ins C F),some (.bor (.lst (ks.map D.str))),some (.bor (.lst (us.map dT4))),none]) (by
  have g:fJ 1 [] (k_ (d1 (dq C "kinds") (aj 0))) (setV 0) iI (d1 (ko "str") (am 0)) [sV (.ins C F),some (.bor (.lst (ks.map D.str))),some (.bor (.lst (us.map dT4))),none]=some (ks.map λ_=>D.bl true):=by rw[gG,mF,b8];show(match dq C "kinds" (.ins C F)with|some (.lst ds)=>some ds|_=>none:Option (List D)).bind _=_;rw[fk];show(if(ks.map D.str).length<=16777216 then fK _ _ _ [none] (ks.map D.str)else none)=_;rw[Yi (by rw[Yc];omega)];exact f
  simp[fk,A,g,q])]
 rw[ae (ρ':=[sV (.ins C F),some (.bor (.lst (ks.map D.str))),some (.bor (.lst (us.map dT4))),sV (.lst (srt a))]) (by
  generalize us.map dT4=P at *;simp[H])]
 have g:fJ 1 [0,3] (nt (d1 aQ (am 3))) (setV 0) iI (cq Ti (aV (d2 ixD (d1 (dq C "ties") (aj 1)) (aj 0)) (aV (d2 ixD (aj 2) (aj 0)) nA))) [sV (.ins C F),some (.bor (.lst (ks.map D.str))),some (.bor (.lst (us.map dT4))),sV (.lst (srt a))]=some ((ff (b.length:Int)).map λ_=>D.bl true):=by rw[gG,lM (n:=(b.length:Int)) (by rw[b8];show some (D.int ((srt a).length:Int))=_;rw[s,<-z]) ⟨by omega,by omega⟩];show(if((ff (b.length:Int)).map D.int).length<=16777216 then fK _ _ _ [none,sV (.ins C F),sV (.lst (srt a))] ((ff (b.length:Int)).map D.int)else none)=_;rw[Yi (by rw[Yc,dJ];omega)];exact h
 generalize srt a=S at *;simp[o,g,p]
abbrev lwF(ns:List Int)(w:List Nat)(st:D)(A K T a x:Option DV):DF:=[some (SC ns),sS w,sV st,A,K,T,a,x]
def Cr{A K e T c:OD}{w b:List Nat}{st:D}{a x:Option DV}(h:dw C [SC ns,.own A none,.v (.str (sT w)),.own K none,.own T none]=some ([SC ns,.own A' none,.v (.str (sT w)),.own e none,.own c none],.str (sT b))) :
  ay (dw C) (aN (ah (getV 0)) (az 3 (aN (ah (getV 1)) (az 4 (az 5 bJ))))) (lwF ns w st (sO A none) (sO K none) (sO T none) a x)=some (.str (sT b),lwF ns w st (sO A' none) (sO e none) (sO c none) a x):=by
 unfold ay;show(if([3,4,5]:List Nat).Nodup then(some [SC ns,.own A none,.v (.str (sT w)),.own K none,.own T none]).bind (λf=>(dw C f).bind _)else none)=_;rw[Yi (by decide),Ya,h];rfl
def zx{A:OD}{w:List Nat}{st d:D}{K T a x:Option DV}(h:au C [SC ns,.own A none]=some ([SC ns,.own A' none],d)) :
  ay (au C) (aN (ah (getV 0)) (az 3 bJ)) (lwF ns w st (sO A none) K T a x)=some (d,lwF ns w st (sO A' none) K T a x):=by
 unfold ay;show(if([3]:List Nat).Nodup then(some [SC ns,.own A none]).bind (λb=>(au C b).bind _)else none)=_;rw[Yi (by decide),Ya,h];rfl
def Gp:aX≠aM:=by decide
def IQ{u v:Bool}:fX aX aM u v aX=some u:=Yi rfl
def Iw{u v:Bool}:fX aX aM u v aM=some v:=by unfold fX;rw[Yr Gp.symm,Yi rfl]
theorem law_true(C:Addr)(ns:List Int)(hl:ns.length<=63):DN C [.v (.lst (ns.map L2.D.int))]=sV (.bl true):=by
 obtain⟨L,w,k,p,s,hI,hO,hk,hw,hm⟩:=CK C ns hl;obtain⟨R,h,g,hG⟩:=GR.of hI hO;have N:=hI.1;have k7:=N.k7;have k1:1<=L.K.length:=hI.n;have hle:=N.le;obtain⟨x,hb⟩:=pN C (ns++[2]);have hA0:At (.lst [.int 0,.int x]) 0:=⟨0,x,rfl,by decide,by decide⟩
 obtain⟨A1,l,f,j,hA1,H,hw',hgr⟩:=ym (C:=C) (ns:=ns) (by omega) hA0 (by decide) g hG hk k1 k7 (by omega) hw;obtain⟨v,A,hA2,v0,v1,hv⟩:=em C ns (by omega) hA1 (by decide);obtain⟨S,h',k',i,I,hk',X,kl2,tl2⟩:=H;have tl:=i.tt.length_eq;have Q:TOk l:=⟨by omega,i.aw⟩
 have aw2:TOk (l++[41]):=⟨by rw[Yb];show l.length+1<=_;omega,λc hc=>(Yj.mp hc).elim (i.aw c) λz=>by rw[Yl.mp z];decide⟩
 have d1':fG (bW L p s).d (.str "kinds")=some (.lst (L.K.map .str)):=by kernel_rfl
 have d2':fG (bW L p s).d (.str "ties")=some (.lst (L.T.map dT4)):=by kernel_rfl
 show dW (yS C [some (SC ns),none,none,none,none,none,none,none])=_;unfold yS;rw[tu];generalize hD:(bW L p s).d=m at *;rw[ae (ρ':=lwF ns w m none none none none none) (by
  rw[zY,kA,lC];show Option.bind (Option.bind (g8 C [SC ns]) dvD) _=_;rw[hm];rfl)]
 rw[ae (ρ':=lwF ns w m (sO (.lst [.int 0,.int x]) none) none none none none) (by
  rw[fB,s_,lC,ao];show Option.map _ (Option.bind (Option.bind (if(ns.map D.int).length+1<=16777216 then some (D.lst (ns.map D.int++[.int 2]))else none) λd=>some [DV.v d]) λM=>Option.bind (db C M) dvO)=_;rw[Yi (by rw[Yc];omega),show ns.map D.int++[D.int 2]=(ns++[2]).map D.int by rw[Yw];rfl];show Option.map _ (Option.bind (db C [SC (ns++[2])]) dvO)=_;rw[hb];rfl)]
 rw[ae (ρ':=lwF ns w m (sO (.lst [.int 0,.int x]) none) (sO (.lst (L.K.map .str)) none) none none none) (by
  rw[fB,jp,kZ,ao];show Option.map _ (Option.map _ (Option.bind (fG m (.str "kinds")) eN))=_;rw[d1'];rfl)]
 rw[ae (ρ':=lwF ns w m (sO (.lst [.int 0,.int x]) none) (sO (.lst (L.K.map .str)) none) (sO (.lst (L.T.map dT4)) none) none none) (by
  rw[fB,jp,kZ,ao];show Option.map _ (Option.map _ (Option.bind (fG m (.str "ties")) eN))=_;rw[d2'];rfl)]
 rw[ae (ρ':=lwF ns l m (sO A1 none) (sO (.lst (f.map .str)) none) (sO (.lst (j.map dT4)) none) none none) (cc (Cr hgr))];generalize hbd:decide (v%5=1)=bd;rw[ae (ρ':=lwF ns l m (sO A none) (sO (.lst (f.map .str)) none) (sO (.lst (j.map dT4)) none) (sV (.bl bd)) none) (cc (ig (ig (zx hv) (bE rfl) (aU v 5 (by decide))) (bE rfl) (by rw[d_,hbd])))];have q:∀(O:Nat),(O=0/\bd=true\/O=1/\bd=false)->cB C [.v (.str (sT (l++List.replicate (if bd=true then 1 else 0) 41)))]=some O->∀a0:DF->Option RES,(cR (di (asB (getV 6))) (cR (asB (d2 ltd (d1 aQ (am 4)) (cI 8))) (asB (d2 ltd (d1 aQ (am 5)) (cI 13))))) (lwF ns l m (sO A none) (sO (.lst (f.map .str)) none) (sO (.lst (j.map dT4)) none) (sV (.bl bd)) none)=some false->dW ((ag (dIf (cR (di (asB (getV 6))) (cR (asB (d2 ltd (d1 aQ (am 4)) (cI 8))) (asB (d2 ltd (d1 aQ (am 5)) (cI 13))))) a0 dNx)
  (ag (aT 7 (cq (ee C) (aV (d2 ap (aj 1) (d2 ge (λ_=>some (.str (sT [41]))) (d1 oN (am 6)))) nA)))
  (ag (dIf (orT (di (asB (d1 (isE (fX aX aM true true)) (am 7)))) (di (asB (d1 (isE (fX aX aM true true)) (am 7))))) (bO (λ_=>some (.bl false))) dNx)
  (ag (dIf (asB (d1 (isE (fX aX aM false false)) (am 7))) (bO (λ_=>some (.bl false))) dNx)
  (bO (hV (d2 eqD (d1 (isE (fX aX aM true false)) (am 7)) (am 6)) (d2 neD (d1 (isE (fX aX aM false true)) (am 7)) (am 6)))))))) (lwF ns l m (sO A none) (sO (.lst (f.map .str)) none) (sO (.lst (j.map dT4)) none) (sV (.bl bd)) none))=sV (.bl true):=λO hkk Z a0 hno=>by
  have hc:=xP Z;rw[ae (nZ hno)];rw[ae (ρ':=lwF ns l m (sO A none) (sO (.lst (f.map .str)) none) (sO (.lst (j.map dT4)) none) (sV (.bl bd)) (sV (.exn (cl2 aX aM O)))) (by
   have hmu:ge (.str (sT [41])) (.int (if bd=true then 1 else 0))=some (.str (sT (List.replicate (if bd=true then 1 else 0) 41))):=by cases bd<;>exact(uq (x:=[41]) (n:=_) (by simp) (by simp) (by decide)).trans rfl
   rw[bf,kA,lC,ao,ao,b8];show Option.map _ (Option.bind (Option.bind (Option.bind (ge (.str (sT [41])) (.int (if bd=true then 1 else 0))) λy=>ap (.str (sT l)) y) λd=>some [DV.v d]) λM=>Option.bind (ee C M) dvD)=_;rw[hmu,Ya,cm (by rw[Yo];split<;>omega),Ya,Ya,hc];rfl)]
  have n2:∀a b:Bool,neD (.bl a) (.bl b)=some (.bl (!decide (a=b))):=λa b=>by cases a<;>cases b<;>rfl
  rcases hkk with⟨rfl,rfl⟩|⟨rfl,rfl⟩
  ·have Y:∀a b,isE (fX aX aM a b) (.exn (cl2 aX aM 0))=some (.bl a):=λa b=>YM (Option.map D.bl) (IQ (u:=a) (v:=b))
   generalize D.exn (cl2 aX aM 0)=ex at *;simp[Y,n2]
  ·have Y:∀a b,isE (fX aX aM a b) (.exn (cl2 aX aM 1))=some (.bl b):=λa b=>YM (Option.map D.bl) (Iw (u:=a) (v:=b))
   generalize D.exn (cl2 aX aM 1)=ex at *;simp[Y,n2]
 by_cases o:bd=true
 ·refine q 0 (.inl ⟨rfl,o⟩) (by rw[Yi o];exact C5 aw2 i.rd I (by omega)) _ ?_;rw[fU,vA,o];rfl
 ·have E:bd=false:=by cases bd;rfl;exact absurd rfl o
  by_cases hsm:f.length<8/\j.length<13
  ·have hK:okK (f.length:Int) S.K:=⟨by rw[i.kk],λx hx=>i.kw x (by rw[<-i.kk];exact hx)⟩
   have hS:okS (f.length:Int) S.T:=⟨by rw[tl];omega,λt ht=>i.tk t (i.tt.mem_iff.mp ht)⟩
   obtain⟨J,hJ⟩:=sq (C:=C) (n:=(f.length:Int)) Q i.rd I i.cb (by omega) ⟨by omega,by omega⟩ hK hS;have P:srt j=srt S.T:=yu _ _ (i.tt.symm.map lf);have hW:=xL C f S.T j J (f.length:Int) ⟨rfl,i.kw⟩ (by omega) (by omega) P;rw[i.kk]at hJ;have e:∀a1:DF->Option RES,dIf (cR (di (asB (getV 6))) (cR (asB (d2 ltd (d1 aQ (am 4)) (cI 8))) (asB (d2 ltd (d1 aQ (am 5)) (cI 13))))) a1 dNx (lwF ns l m (sO A none) (sO (.lst (f.map .str)) none) (sO (.lst (j.map dT4)) none) (sV (.bl bd)) none)=a1 (lwF ns l m (sO A none) (sO (.lst (f.map .str)) none) (sO (.lst (j.map dT4)) none) (sV (.bl bd)) none):=λa1=>by
    have U:(f.length:Int)<8:=by omega
    have B:(j.length:Int)<13:=by omega
    rw[cu,show(cR (di (asB (getV 6))) (cR (asB (d2 ltd (d1 aQ (am 4)) (cI 8))) (asB (d2 ltd (d1 aQ (am 5)) (cI 13))))) (lwF ns l m (sO A none) (sO (.lst (f.map .str)) none) (sO (.lst (j.map dT4)) none) (sV (.bl bd)) none)=some true by rw[E];simp[U,B]];rfl
   rw[dO (x:=.v (.bl true)) (ρ':=lwF ns l m (sO A none) (sO (.lst (f.map .str)) none) (sO (.lst (j.map dT4)) none) (sV (.bl bd)) none) (by
    rw[e,fg,kA,lC,kA];show Option.map _ (Option.bind (Option.bind (Option.bind (Ct C [.v (.str (sT l))]) dvD) λd=>some [DV.v d,.bor (.lst (f.map .str)),.bor (.lst (j.map dT4))]) λM=>Option.bind (du C M) dvD)=_;rw[hJ,Ya];show Option.map _ (Option.bind (du C [.v (.ins C (wFs f (.lst (srt S.T)) J)),.bor (.lst (f.map .str)),.bor (.lst (j.map dT4))]) dvD)=_;rw[hW];rfl)]
   rfl
  ·have hgt:7<f.length\/12<j.length:=by omega
   refine q 1 (.inr ⟨rfl,E⟩) (by rw[Yr o,Zm,Yg];exact wK Q i.rd I i.cb (by omega) (by rw[i.kk,tl];exact hgt) (by rw[i.kk];exact X)) _ ?_;rw[E];by_cases U:(f.length:Int)<8
   ·have B:¬(j.length:Int)<13:=by omega
    simp[U,B]
   ·simp[U]
def spLaw(K:Kq):Sp:=λc H Q _=>∃(a:Addr) (b:List Int),c=[.ref a]/\SqL K H a (b.map V.int)/\b.length<=63/\∀e,Q (.bl true) e
theorem kF:∀ns:List Int,Reps K H (ns.map V.int) (ns.map D.int)
 |[]=>.nil
 |_::ns=>.cons .int (kF ns)
def wS(h:∀ns:List Int,ns.length<=63->m [.v (.lst (ns.map D.int))]=some (.v (.bl true))):∀vs H Q E,spLaw K vs H Q E->spD K m vs H Q E:=by rintro vs H Q E ⟨a,ns,rfl,c,b,f⟩;refine⟨λ_=>none,H,_,_,h ns b,⟨λ_ _ e=>e,λ_ _ e=>(by cases e),λ_ _ e=>(by cases e)⟩,.cons rfl (show Rep K H _ _ from .lst c (kF ns)) .nil,λv i g _ _ r=>?_⟩;cases r;exact f g
def gS(P:Params)(a n:Nat):List DictEntry:=(((rT.filter (·.i<1000)).drop a).take n).map λr=>kE P (fz (top r.i)) (r.h+2) (.ref (r.a+1))
def kz:Str := "__doc__"
def KK:Params->PySem.W.Frag:=λP=>(λ(_:kz = "__doc__")=>[(nat_lit 3,{cls:=.type "dict",data:=.dict ([kE P "__name__" 165 (.str "law_tieword_k23_too_great_texts" 699),kE P "__doc__" 166 (.none),kE P "__package__" 167 (.none),kE P "__loader__" 168 (.builtin "__main__.__loader__#opaque"),kE P "__spec__" 169 (.none),kE P "__annotations__" 170 (.ref 6),kE P "__builtins__" 171 (.ref 4),kE P "__file__" 173 (.str "/claim/cut.py" 172),kE P "__cached__" 174 (.none),kE P "_wall" 193 (.ref 21),kE P "WebError" 213 (.ref 31),kE P "TooGreat" 229 (.ref 44),kE P "BadPlace" 245 (.ref 56),kE P "BadTie" 261 (.ref 68),kE P "BadOrder" 277 (.ref 80),kE P "TooMany" 293 (.ref 92),kE P "BadText" 309 (.ref 104),kE P "BadName" 325 (.ref 116),kE P "Twice" 341 (.ref 128),kE P "NoWeb" 357 (.ref 140),kE P "BadRule" 373 (.ref 152),kE P "NoWay" 389 (.ref 164),kE P "MOST_PLACES" 393 (.int 7 392),kE P "MOST_TIES" 395 (.int 12 394),kE P "MOST_LETTERS" 397 (.int 3 396)]++gS P 0 7++[kE P "Web" 510 (.ref 249),kE P "MOST_FIGURES" 514 (.int 30 513),kE P "MOST_RING" 516 (.int 99 515),kE P "LEADS" 526 (.ref 254)]++gS P 7 2++[kE P "Reader" 690 (.ref 374)]++gS P 9 17).toArray 56}),
(nat_lit 30,{cls:=.type "dict",data:=.dict #[kE P "__module__" 203 (.str "tieword.errors" 194),kE P "__firstlineno__" 207 (.int 5 206),kE P "__static_attributes__" 208 (.ref 29),kE P "__weakref__" 210 (.ref 32),kE P "__doc__" 211 (.none)] 3}),
(nat_lit 31,{cls:=.type "type",data:=.cls {name := "WebError",bases:=[.type "ValueError"],mro:=[.ref 31,.type "ValueError",.type "Exception",.type "BaseException",.type "object"],ns:=30,qualname := "WebError",subclasses:=[.ref 44,.ref 56,.ref 68,.ref 80,.ref 92,.ref 104,.ref 116,.ref 128,.ref 140,.ref 152,.ref 164]},slots:=#[some (.ref 22),none,some (.str "WebError" 196),some (.str "WebError" 204),some (.builtin "ValueError.__new__"),some (.bool true)]}),
(nat_lit 43,{cls:=.type "dict",data:=.dict #[kE P "__module__" 221 (.str "tieword.errors" 194),kE P "__firstlineno__" 225 (.int 7 224),kE P "__static_attributes__" 226 (.ref 42),kE P "__doc__" 227 (.none)] 2}),
eO 31 44 "TooGreat" 43 35 214 222,
eO 31 56 "BadPlace" 55 47 230 238,
eO 31 68 "BadTie" 67 59 246 254,
eO 31 80 "BadOrder" 79 71 262 270,
eO 31 92 "TooMany" 91 83 278 286,
(nat_lit 103,{cls:=.type "dict",data:=.dict #[kE P "__module__" 301 (.str "tieword.errors" 194),kE P "__firstlineno__" 305 (.int 17 304),kE P "__static_attributes__" 306 (.ref 102),kE P "__doc__" 307 (.none)] 2}),
eO 31 104 "BadText" 103 95 294 302,
eO 31 116 "BadName" 115 107 310 318,
eO 31 128 "Twice" 127 119 326 334,
eO 31 140 "NoWeb" 139 131 342 350,
eO 31 152 "BadRule" 151 143 358 366,
eO 31 164 "NoWay" 163 155 374 382,
(nat_lit 248,{cls:=.type "dict",data:=.dict #[kE P "__module__" 465 (.str "tieword.webs" 390),kE P "__firstlineno__" 469 (.int 64 468),kE P "__init__" 475 (.ref 225),kE P "size" 482 (.ref 232),kE P "between" 491 (.ref 239),kE P "near" 499 (.ref 246),kE P "__static_attributes__" 503 (.ref 247),kE P "__dict__" 505 (.ref 250),kE P "__weakref__" 507 (.ref 251),kE P "__doc__" 508 (.none)] 4}),
(nat_lit 249,{cls:=.type "type",data:=.cls {name := "Web",bases:=[.type "object"],mro:=[.ref 249,.type "object"],ns:=248,qualname := "Web" },slots:=#[none,none,some (.str "Web" 458),some (.str "Web" 466),some (.builtin "object.__new__"),some (.bool true)]}),
(nat_lit 254,{cls:=.type "dict",data:=.dict #[kE P "~" 517 (.int 0 518),kE P ">" 519 (.int 1 520),kE P "<" 521 (.int 2 522)] 3}),
(nat_lit 373,{cls:=.type "dict",data:=.dict #[kE P "__module__" 551 (.str "tieword.reading" 511),kE P "__firstlineno__" 555 (.int 90 554),kE P "__init__" 563 (.ref 282),kE P "sign" 570 (.ref 289),kE P "skip" 578 (.ref 296),kE P "taken" 588 (.ref 303),kE P "number" 596 (.ref 310),kE P "marks" 605 (.ref 317),kE P "join_by" 611 (.ref 322),kE P "begin_ring" 620 (.ref 329),kE P "close_ring" 630 (.ref 336),kE P "ring_sign" 639 (.ref 343),kE P "place" 648 (.ref 350),kE P "follow" 658 (.ref 357),kE P "go_on" 667 (.ref 364),kE P "read_all" 675 (.ref 371),kE P "__static_attributes__" 683 (.ref 372),kE P "__dict__" 685 (.ref 375),kE P "__weakref__" 687 (.ref 376),kE P "__doc__" 688 (.none)] 4}),
(nat_lit 374,{cls:=.type "type",data:=.cls {name := "Reader",bases:=[.type "object"],mro:=[.ref 374,.type "object"],ns:=373,qualname := "Reader" },slots:=#[none,none,some (.str "Reader" 544),some (.str "Reader" 552),some (.builtin "object.__new__"),some (.bool true)]})]++rT.flatMap λr=>[(r.a,cO (fz (top r.i)) (qn r.i) r.t (lno (top r.i)) (bQ (top r.i)).length (if r.c == 1 then r.a-5 else r.a-3) (r.c == 1) r.h 181),(r.a+1,fO (qn r.i) (top r.i) (mdl r.m) r.a)]) rfl
def lkA(P:Params):rT.map (λr=>((KK P).lookup (r.a+1),PySem.W.codeIn (KK P) (.ref r.a) (qn r.i),PySem.W.keepIn (KK P) (.ref (r.a+1))))=rT.map λr=>(some (fO (qn r.i) (top r.i) (mdl r.m) r.a),true,true):=by kernel_rfl
def glA(P:Params):rT.map (λr=>if r.i<1000 then PySem.W.nsIn (KK P) mainGlobals (fz (top r.i))else none)=rT.map λr=>if r.i<1000 then some (some (.ref (r.a+1)))else none:=by kernel_rfl
def bdA:∀r∈rT,Gw (qn r.i) (top r.i) (mdl r.m) r.a:=by
 unfold rT
 repeat' refine List.forall_mem_cons.2 ⟨?_,?_⟩
 all_goals first|exact List.forall_mem_nil _|((repeat intro _);show _=_;kernel_rfl)
def dfA{P:Params}{h:Heap}(X:(KK P).In h)(G:h.Ns mainGlobals mg)(i:Nat)(hi:(row i).isSome=true):Df (KK P) (qn i) (top i) (fA i) (dA i)/\(i<1000->mg (fz (top i))=some (.ref (fA i))):=by obtain⟨r,e⟩:=ZQ.mp hi;have m:=List.mem_of_find?_eq_some e;have q:r.i=i:=ZJ.mp (List.find?_some (p:=λx:Rw=>x.i == i) (l:=rT) e);subst q;have a:=List.map_inj_left.mp (lkA P) r m;have b:=List.map_inj_left.mp (glA P) r m;simp only[Prod.mk.injEq]at a;unfold fA dA;rw[e];refine⟨Hy a.1 a.2.1 a.2.2 (bdA r m),λz=>?_⟩;rw[Yi z,Yi z]at b;exact PySem.W.mg_of X G b
def all_mk{l:PySem.W.OpenLaw}{h:Heap}{fa:Addr}(X:(KK w.params).In h)(G:h.Ns mainGlobals mg)(hfa:mg "law"=some (.ref fa)) :
  ∃fd:FuncData,(∀(s:Shared) (v:Value),BindsTo s fd ⟨[v],[]⟩ [("_law_script",v)])/\∀base:Heap,(KK w.params).In base->base.Ns mainGlobals mg->FnOk l.prog w (KK w.params) mg base CX0 12 fa fd ["_law_script"] (spLaw (KK w.params)):=by
 have e:=hfa.symm.trans ((dfA X G 50 rfl).2 (by decide));cases e;have T:Txt (KK w.params) mg ⟨w,249,392,394,396,513,515,31,116,80,56,152,68,164,140,92,128⟩:=by
  constructor
  ·exact dfA X G
  all_goals first
   |exact PySem.W.mg_none_of X G (by kernel_rfl)
   |exact PySem.W.mg_of X G (by kernel_rfl)
   |(delta NoAttr;kernel_rfl)
   |exact KD.mk (by kernel_rfl) (by decide) (by kernel_rfl)
   |(constructor<;>kernel_rfl)
   |kernel_rfl
   |(intro k;cases k<;>constructor<;>kernel_rfl)
   |(intro k;cases k<;>first|exact Eq.trans (b:=some true) (by kernel_rfl) (by simp)|exact Eq.trans (b:=some false) (by kernel_rfl) (by simp)|kernel_rfl)
 exact⟨_,λs v=>.of_eq rfl,λbase _ _=>(EA T).imp (wS (law_true _))⟩
end My
structure PySem.W.Fast:Prop where
 (tw14145417484328172039 tw11511020682075957794 tw11442958035096316194 tw4050564815582875974 tw8455362924521332169 tw9127954325577072999 tw15382952072891519112 tw17265265364246670403 tw5891277167255762283 tw7309502478919096668 tw4212962225319156505 tw16853918387694096010 tw8914125862467140709 tw14241599628837490746 tw1373886686586775658 tw7153910831385849795 tw5585828475135439553 tw8592812329429976344 tw2003807590303310777 tw8449151064099758385 tw4332966764836769417 tw17030884920560226421 tw9253659373607730413 tw13763058325965199874 tw14540478919334768424 tw8350253942833795120 tw16117632401932909332 tw6527169724363985777 tw9651257214352030156 tw8389333583436097464 tw7940201511368145071 tw11848583751519240301 tw6166579944690139121 tw7845100315938949827 tw11858778866446207399 tw16713146796378694921 tw8491742343524501155 tw11935670215694709532 tw15757772648334332248 tw15303886246924956519 tw16351081494095530826 tw2840947211826305671 tw12625913517030048925 tw7582516925057954277 tw13337312761694673058 tw13259924830528104579 tw15670113155463742803 tw13408444781096146486 tw9496600034003160884 tw15596714885389369170 tw12863861511739904691 tw8729987014840450807 tw12621954511306555099 tw14848017964196911031 tw277601679440060284 tw8250581626659625159 tw605678635908023748 tw14282471359530148437 tw17232210723903362768 tw12678587619318614003 tw5786557621261477356 tw16938958677071044630 tw5219710011672702287 tw16618686452938615032 tw18127444747842778538 tw11377882312087449260 tw9932477439528700824 tw7086293618118904449 tw18047009001968076228 tw14148608829638222543 tw390593470377157197 tw9048489318205504184 tw14069074046534880207 tw7792654758169433920 tw7955217868360493739 tw13552501359325357601 tw753751964441481086 tw6167618422739434193 tw3745492030567432913 tw4814341831260684113 tw9617146218701344103 tw9804051089399812455 tw4573128967671153634 tw7103268025501207873 tw17013835758936218650 tw18161353505434773801 tw11436139108076921119 tw14889181051278984511 tw15466760495721212513 tw17581245651904080113 tw13524259169103233620 tw13311438622503368600 tw7437885530093824825 tw13413359864319691816 tw6554569365322347564 tw15734720656195011340 tw14811463544784182356 tw11090221596411724147 tw13086465373237123586 tw3614360519286164624 tw1733384028290882395 tw4396421596369796325 tw7838630375146033971 tw9344415548786904480 tw11235199326050320656 tw16483133652068628781 tw13930578135312028792 tw16072439693399767407 tw17482830007476197115 tw8565421433040740687 tw18083899226825462377 tw2249106308696664088 tw17577046842201859446 tw9731120614041324839 tw1965609919221054394 tw4220953597810949866 tw5407864247264801642 tw7491940487195568345 tw1928695892026572389 tw5090247047994386767 tw8528673452969679474 tw15714014133638525247 tw7967335514609499435 tw28142617401056408 tw1158832203030135101 tw3631044795925798151 tw8537349974567548826 tw11041543105936542282 tw11817888221696376244 tw14201299985305140160 tw5527041060334311852 tw8103733338381152877 tw14125291252045131696 tw127056227263791980 tw18249721213446063540 tw9283004345221704790 tw7150302371880904225 tw16101627879016861107 tw16668267094101292581 tw8090457141299723922 tw5979297362849853255 tw487153212362855028 tw17801209323738067660 tw9462120175315768281 tw6090606877107712850 tw2944388140581529944 tw12653221583219809422 tw6901561577686990652 tw5789475361986228680 tw10425512566506696061 tw12245790951455441319 tw2233278339888795625 tw10039610672179422831 tw16795854811762660017 tw5337499226650954351 tw12091763448787841034 tw8510206783712033528 tw17700720171782669897 tw979114623200489717 tw40672563019689155 tw8271445352473706926 tw1714929492614267131 tw6469839093053593300 tw6371409451823635224 tw3821570890496286253 tw12238739127358769611 tw10880479977234168624 tw10917108427056120063 tw12946057801293790230 tw12443894856365796110 tw17776014351541645086 tw11363307686440539955 tw11609319203258923317 tw626417218029915575 tw4761806483408565503 tw15294215862931808594 tw8989074897992051424 tw10366885860425491280 tw3507137372115326836 tw15796634358794406338 tw10946071460572692026 tw12383507005450265130 tw15129872859650298620 tw13902280247472414109 tw15602935317525952221 tw3152878069928589689 tw11503958972313165755 tw6699950125292385432 tw15664088628034252866 tw11357088473197950820 tw14924257425578095878 tw272421697762375801 tw1808955570330031820 tw10834122747477114389 tw13440403355545176248 tw6675677795910297674 tw12432274136779178095 tw6275122870258143439 tw12707737672284491167 tw1244948390697560753 tw977289991379112212 tw12584483189206523463 tw8532845716925706954 tw4946395006081984492 tw7871845993854368641 tw914442054709713811 tw7012185260775287580 tw9423877921713923715 tw6688988271667263285 tw15756218335575407904 tw8033548508703675169 tw14038435241820472324 tw4087393700270269093 tw3881461644343189894 tw2349541376019537734 tw15589611959143493098 tw8581177927952178730 tw13066251071087664235 tw4016785280019594731 tw9636505894276228396:True)
open PySem PySem.W PyProof.Rows
set_option maxRecDepth 100000 in
set_option maxHeartbeats 0 in
theorem PySem.Challenge.cw_tieword_k23_too_great_texts_holds : PySem.Challenge.rw_tieword_k23_too_great_texts.Holds := by
  w_on; o_law; o_head (PySem.W.kHook My.KK [3,30,31,43,44,56,68,80,92,103,104,116,128,140,152,164,248,249,254,373,374,170,171,177,178,184,185,191,192,198,199,205,206,212,213,224,225,260,261,267,268,281,282,288,289,295,296,302,303,309,310,316,317,321,322,328,329,335,336,342,343,349,350,356,357,363,364,370,371,384,385,391,392,398,399,405,406,410,411,417,418,424,425,431,432,438,439,445,446,452,453,459,460,464,465,471,472,478,479,485,486,492,493] (λ_=>by kernel_rfl)); (case hw=>w_witness2)
  k_fill
  refine L2.walk_ofK (l:=PySem.Challenge.rw_tieword_k23_too_great_texts) (n:=63) (k:=12) (x := "_law_script") (CX:=L2.CX0) (sp:=My.spLaw) rfl (by decide) rfl ⟨rfl,by decide,by decide⟩ (λw h Y=>PySem.W.kIn_of Y) ?F (λK H a ns hl _ hS=>⟨a,ns,rfl,hS,hl,λ_=>rfl⟩) λ_ _ _ _ z=>z
  case F=>
    intro w mg fa h KX G hmg
    exact My.all_mk KX G hmg
