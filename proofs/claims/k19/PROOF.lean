import PyProof.Rows.All
import Wide.All
import OpenK.AllK
import Wide.FinOn
import Lean
import PyProof.EqAt
import PyProof.EqKinds
import PyProof.TupleCall
import PyProof.ReprStr
import PyProof.Rows.FStr
import PyProof.Rows.SetFrom
import PyProof.EnumFor
import PyProof.EnumMake
import PyProof.ZipIter
import KE.KRevIter
import PyProof.ListRange
import PyProof.FactsAll.range_iterator_1
import KE.KIntText
import PyProof.CallStr
import PyProof.Rows.MinMaxN
import PyProof.StrOps2
import PySem.SetOps
import PyProof.SetScanFacts
import PyProof.SetRoads
import PyProof.CollectWalk
import PyProof.Rows.SortShell
import PyProof.Rows.TupDisplay
import PySem.Challenge.RW_tieword_k19_turnings_counted
set_option Elab.async false
set_option linter.all false
set_option maxRecDepth 100000
set_option compiler.extract_closed false
set_option bootstrap.genMatcherCode false
set_option genSizeOf false
set_option genSizeOfSpec false
set_option tactic.hygienic false
set_option hygiene false
noncomputable section
local macro_rules|`(!$x)=>`(some $x)
local macro_rules|`(#[$x,*])=>`(⟨$x,*⟩)
local macro_rules|`(tactic|let#[$x,*]:=$e)=>do{let rec g(n:Nat)(t:Lean.Term):Lean.MacroM (Lean.TSyntax `rcasesPat):=match n with|0=>Lean.Macro.throwUnsupported|n+1=>match t with|`(#[$y,*])=>do{let z<-y.getElems.mapM λw=>do{let v<-g n w;`(Lean.Parser.Tactic.rcasesPatLo|$v:rcasesPat)};`(rcasesPat|⟨$z,*⟩)}|`(_)=>`(rcasesPat|_)|`($i:ident)=>`(rcasesPat|$i:ident)|_=>Lean.Macro.throwUnsupported;let p<-g 9 (<-`(#[$x,*]));`(tactic|obtain $p:rcasesPat:=$e)}
local macro_rules|`(tactic|let $x:ident:=$e)=>`(tactic|have $x:ident:=$e)
local macro_rules|`(command|open A in $c)=>`(command|set_option tactic.hygienic true in $c)
local macro_rules|`(tactic|exact $e)=>`(tactic|refine $e)
local macro_rules|`(tactic|let#[$x,*]:=$e)=>do
 let mut a:=x.getElems
 let mut s:=Array.empty
 for i in [:a.size] do
  if a[i]!.raw.getId==`rfl then
   let z:=Lean.mkIdent (.mkSimple s!"{i}h")
   a:=a.set! i z
   s:=s.push z
 if a.any λy=>not (y.raw.isIdent||y.raw.isOfKind ``Lean.Parser.Term.hole) then Lean.Macro.throwUnsupported
 let b:=x.getElems[1:].toArray
 let mut v:=Array.empty
 let mut r<-`(wh)
 for _ in b do
  v:=v.push (<-`($r.1))
  r<-`($r.2)
 let c<-if e.raw.isIdent then `(tacticSeq|try clear $(Lean.mkIdent e.raw.getId):ident) else `(tacticSeq|skip)
 let y:=a[0]!
 let d<-if x.getElems[0]!.raw.getId==`rfl then `(tacticSeq|subst $y) else `(tacticSeq|skip)
 let o<-if b.size<2 then `(tacticSeq|fail) else `(tacticSeq|first|have wh:_/\_:=$e;($c);refine(λ$y:term gy=>?_) wh.1 wh.2;clear wh;($d);let#[$b,*]:=gy|refine Exists.elim $e ?_;($c);intro $y:term gy;($d);let#[$b,*]:=gy)
 `(tactic|first|have wh:_/\_:=$e;($c);refine(λ$a:term*=>?_) $(v.push r)*;clear wh;subst $s*|$o)
local macro_rules|`(tactic|delta $x*$[$l]?)=>`(tactic|unfold $x*$[$l]?)
def qx:=@rfl
local macro_rules|`(tactic|trivial)=>`(tactic|first|exact .inl rfl|(apply Or.inr;trivial))
local macro_rules|`(())=>`(none)
section
local macro_rules(kind:=Lean.Parser.Command.declaration)|x=>do
 let d:=x[1].isOfKind ``Lean.Parser.Command.definition
 if x[1][0].getPos?.isNone||not x[0][1].isNone||not d&&not (x[1].isOfKind ``Lean.Parser.Command.theorem) then Lean.Macro.throwUnsupported
 let y:=x.setArg 1 (x[1].setArg 0 (Lean.mkAtom x[1][0].getAtomVal))
 return if d then y.setArg 0 (x[0].setArg 4 (Lean.mkNullNode #[[Lean.mkNode ``Lean.Parser.Command.noncomputable #[[Lean.mkAtom ""]]]])) else y
namespace L2
def Ya:=@Option.bind_some
def Yb:=@List.mem_cons_of_mem
def Yc:=@List.length_map
def Yd:=@PySem.wpAny_bind
def Ye:=@List.mem_cons_self
def Yf:=@PySem.Heap.get?_push_of_some
def Yg:=@List.mem_map
def Yh:=@List.getElem?_eq_getElem
def Yi:=@PySem.wpAny_pure
def Yj:=@Bool.false_ne_true
def Yk:=@if_pos
def Yl:=@List.all_eq_true
def Ym:=@if_neg
def Yn:=@Bool.and_eq_true
def Yo:=@List.getElem?_eq_some_iff
def Yp:=@Nat.le_refl
def Yq:=@List.length_cons
def Yr:=@List.length_append
def Ys:=@PySem.Heap.get?_push_size
def Yt:=@List.mem_cons
def Yu:=@List.mem_singleton
def Yv:=@PySem.Heap.lt_size
def Yw:=@List.getElem?_map
def Yx:=@Option.bind_eq_some_iff
def Yy:=@Nat.ne_of_lt
def Yz:=@of_decide_eq_true
def YA:=@Nat.lt_of_lt_of_le
def YB:=@List.size_toArray
def YC:=@PyProof.Rows.wpS_bind
def YD:=@decide_eq_false
def YE:=@List.mem_append_right
def YF:=@Nat.le_trans
def YG:=@Option.some.inj
def YH:=@List.map_map
def YI:=@List.map_cons
def YJ:=@PyProof.Rows.wpS_pure
def YK:=@Option.map_eq_some_iff
def YL:=@List.mem_append_left
def YM:=@List.length_replicate
def YN:=@List.length_singleton
def YO:=@List.mem_singleton_self
def YQ:=@Nat.zero_le
def YR:=@decide_eq_true
def YS:=@decide_eq_true_eq
def YT:=@List.mem_of_getElem?
def YU:=@List.getD_eq_getElem?_getD
def YV:=@PySem.sizeLine_eq
def YW:=@congrArg
def YX:=@List.mem_filter
def YY:=@List.getElem?_set_ne
def YZ:=@List.append_nil
def Za:=@Classical.byContradiction
def Zb:=@List.map_congr_left
def Zc:=@List.mem_append
def Zd:=@List.nodup_cons
def Ze:=@List.length_nil
def Zf:=@PySem.mem_of_lookup
def Zg:=@List.mem_range
def Zh:=@Nat.lt_irrefl
def Zi:=@Array.length_toList
def Zj:=@List.getElem_of_mem
def Zk:=@beq_iff_eq
def Zl:=@List.length_eq_zero_iff
def Zm:=@List.getElem?_eq_none
def Zn:=@PySem.wpAny_setState_of
def Zo:=@List.pairwise_cons
def Zp:=@List.length_set
def Zq:=@Array.getD_eq_getD_getElem?
def Zr:=@Int.toNat_natCast
def Zs:=@PySem.wpAny_holding
def Zt:=@List.map_append
def Zu:=@List.lookup_cons
def Zv:=@List.append_assoc
def Zw:=@List.length_range
def Zx:=@Nat.le_of_lt_succ
def Zy:=@PySem.codeAny_builtin
def Zz:=@Array.getElem?_toList
def ZA:=@List.getElem?_append_right
def ZB:=@beq_eq_false_iff_ne
def ZC:=@Nat.le_antisymm
def ZD:=@List.getElem?_append_left
def ZE:=@PySem.wpAny_mono
def ZF:=@Option.map_some
def ZG:=@PyProof.Rows.wpS_forRange
def ZH:=@PySem.wpAny_truthy_bool
def ZI:=@PySem.F.plainAttrs_list
def ZJ:=@List.nodup_append
def ZK:=@PySem.Around.under_plainId
def ZL:=@Nat.lt_trans
def ZM:=@Nat.lt_of_le_of_ne
def ZN:=@List.getElem?_set_self
def ZO:=@Nat.le_of_lt
def ZP:=@Nat.lt_succ_of_lt
def ZQ:=@List.mem_filterMap
def ZR:=@PySem.Calls.spliced_cons
def ZS:=@PySem.wpAny_Call_Name_kw
def ZT:=@List.find?_cons
def ZU:=@decide_eq_false_iff_not
def ZV:=@Nat.lt_succ_self
def ZW:=@Nat.le_of_not_lt
def ZX:=@Nat.zero_add
def ZY:=@List.mem_flatMap
def ZZ:=@Nat.le_succ
def Xa:=@List.getElem?_range
def Xb:=@PySem.Heap.get?_update_ne
def Xc:=@Nat.ne_of_gt
def Xd:=@Nat.le_add_left
def Xe:=@Option.isSome_iff_exists
def Xf:=@Bool.false_eq_true
def Xg:=@Nat.lt_of_le_of_lt
def Xh:=@List.getElem_mem
def Xi:=@PySem.Heap.size_push
def Xj:=@Nat.le_of_eq
def Xk:=@List.ext_getElem?
def Xl:=@List.pairwise_map
def Xm:=@PyProof.Rows.callWith_type1
def Xn:=@List.length_pos_of_mem
def Xo:=@PySem.codeAny_mono
def Xp:=@PySem.Heap.get?_update_self
def Xq:=@Ne.symm
def Xr:=@List.drop_eq_getElem_cons
def Xs:=@List.getElem?_eq_none_iff
def Xt:=@Array.getElem?_eq_getElem
def Xu:=@Nat.le_sub_one_of_lt
def Xv:=@PySem.wpAny_passesOwn
def Xw:=@PySem.F.slot_list_append
def Xx:=@List.foldl_cons
def Xy:=@List.filterMap_cons
def Xz:=@List.getElem?_replicate
def XA:=@List.any_cons
def XB:=@List.map_eq_nil_iff
def XC:=@PyProof.Rows.wpS_mono
def XD:=@List.map_id
def XE:=@List.length_take
def XF:=@Nat.le_add_right
def XG:=@beq_self_eq_true
def XH:=@List.take_length
def XI:=@PySem.W.cellsFrom_some
def XJ:=@List.zip_cons_cons
def XL:=@PySem.Code.quiet_builtin
def XM:=@Int.emod_lt_of_pos
def XN:=@PySem.wpAny_specialOf
def XO:=@Bool.or_false
def XQ:=@PySem.wpAny_newObj_type
def XS:=@Nat.le_of_succ_le
def XT:=@PySem.Heap.get?_push_ne
def XU:=@List.perm_append_singleton
def XV:=@List.perm_ext_iff_of_nodup
def XW:=@PySem.codeAny_call_builtin
def XX:=@Bool.false_and
def XY:=@Bool.and_false
def XZ:=@List.pairwise_iff_getElem
def Va:=@List.Perm.refl
def Vb:=@PySem.wpAny_setField
def Vc:=@PySem.wpAny_forIn_list
def Vd:=@PySem.wpAny_call_entry
def Ve:=@Nat.add_sub_cancel'
def Vf:=@List.mem_map_of_mem
def Vg:=@Int.toNat_of_nonneg
def Vh:=@PySem.wpAny_call
def Vi:=@PySem.F.type_list_append
def Vj:=@Array.size_setIfInBounds
def Vk:=@PySem.wpAny_rule
def Vl:=@PySem.W.callWith_K
def Vm:=@PySem.tupleKind_room_in1
def Vn:=@Bool.true_and
def Vo:=@Nat.lt_add_of_pos_right
def Vp:=@Nat.add_right_comm
def Vq:=@Nat.not_lt_zero
def Vr:=@PySem.plainId_quiet
def Vs:=@Int.emod_nonneg
def Vt:=@List.eraseIdx_cons_succ
def Vu:=@Int.eq_ofNat_of_zero_le
def Vv:=@List.drop_eq_nil_of_le
def Vw:=@PySem.SeqAt.eqAt_reads
def Vx:=@PySem.wpAny_pyIter_list
def Vy:=@PySem.Calls.spliced_nil
def Vz:=@PySem.wpAny_storeSet_of
def VA:=@PyProof.Rows.wpS_modify
def VB:=@if_false
def VC:=@PySem.F.slot_dict_get
def VE:=@Nat.succ_pos
def VF:=@Nat.succ.inj
def VG:=@List.getElem?_toArray
def VH:=@List.take_append_drop
def VI:=@List.length_drop
def VJ:=@if_true
def VL:=@Nat.succ_le_succ
def VM:=@Array.toList_inj
def VN:=@PySem.Heap.size_update
def VO:=@List.not_mem_nil
def VP:=@PySem.wpAny_isInstance
def VQ:=@decide_eq_decide
def VR:=@List.any_eq_true
def VS:=@PySem.wpAny_loadName_local
def VT:=@PySem.Calls.evalArgs_plain
def VU:=@List.pairwise_append
def VV:=@PySem.Paired.length
def VW:=@Sum.inl.inj
def VX:=@PySem.wpAny_execs_nil
def VY:=@PySem.W.plainGet_of
def VZ:=@List.of_mem_zip
def Ua:=@PySem.pushCells_keeps
def Ub:=@Bool.eq_iff_iff
def Uc:=@PySem.wpAny_loadPart'
def Ud:=@Nat.min_le_left
def Ue:=@PySem.PassesOwn.never
def Uf:=@List.Perm.of_eq
def Ug:=@PySem.wpAny_ite_split
def Uh:=@Array.size_push
def Ui:=@List.zip_nil_right
def Uj:=@List.map_filterMap
def Uk:=@Int.natCast_nonneg
def Ul:=@List.nodup_nil
def Um:=@Nat.mul_le_mul
def Uo:=@List.take_take
def Up:=@PySem.wpAny_Name
def Uq:=@PySem.call_meets
def Ur:=@List.zip_nil_left
def Us:=@Int.lt_trichotomy
def Ut:=@Bool.eq_false_iff
def Uu:=@List.getElem?_set
def Uv:=@Bool.not_eq_true'
def Uw:=@List.foldl_append
def Ux:=@List.take_add_one
def Uy:=@Int.le_refl
def Uz:=@Nat.sub_lt
def UA:=@Nat.mod_lt
open PySem PySem.Spec PyProof.Rows
abbrev Kq:=W.Frag
abbrev Kv:=Value->Shared->Prop
abbrev Kp:=List<|Addr×Obj
abbrev Ks:=Str->Option Value
abbrev Ka:=Array<|Int×Value
abbrev Kb:=Bool->Shared->Prop
abbrev Ko:=Option Value->Shared->Prop
abbrev Kl:=List Value->Shared->Prop
abbrev Kr:=Result->Shared->Prop
abbrev Key:=Sum Int Str
def kN:Key->Value->Bool
 |.inl k,v=>Value.isInt k v
 |.inr x,v=>Value.isStrOf x v
def Oe(w:World):Key->Int
 |.inl k=>hashInt k
 |.inr x=>hashStr w x
def cg:∀{k}{v},kN k v->(∃i t,k=Sum.inl i/\v=Value.int i t)\/(∃x t,k=Sum.inr x/\v=Value.str x t)
 |.inl i,v,h=>by
  let#[t,e]:=Value.isInt_shape h;exact .inl #[i,t,qx,e]
 |.inr x,v,h=>by
  let#[t,e]:=Value.isStrOf_shape h;exact .inr #[x,t,qx,e]
def Az i t:kN (.inl i) (.int i t):=by simp[kN,Value.isInt]
def Bo x t:kN (.inr x) (.str x t):=by simp[kN,Value.isStrOf]
theorem JY a b:decide ((Sum.inl a:Key)=Sum.inl b)=(a == b):=by grind
def DS a b:decide ((Sum.inr a:Key)=Sum.inr b)=decide (a=b):=by simp
def K3 a b:decide ((Sum.inl a:Key)=Sum.inr b)=false:=YD λq=>nomatch q
def JO a b:decide ((Sum.inr a:Key)=Sum.inl b)=false:=YD λq=>nomatch q
def aH prog w:KeyKind prog w Key where
 is:=kN
 hash:=Oe w
 inj:=λv a b l f=>by
  rcases cg l with⟨i,t,rfl,rfl⟩|⟨x,t,rfl,rfl⟩
  .rcases cg f with⟨j,u,rfl,e⟩|⟨y,u,rfl,e⟩
   .injection e with e1 _;rw[e1]
   .exact nomatch e
  .rcases cg f with⟨j,u,rfl,e⟩|⟨y,u,rfl,e⟩
   .exact nomatch e
   .injection e with e1 _;rw[e1]
 byValue:=λk v h=>by
  rcases cg h with⟨i,t,rfl,rfl⟩|⟨x,t,rfl,rfl⟩<;>rfl
 pyHash:=λc h=>by
  rcases cg c with⟨i,t,rfl,rfl⟩|⟨x,t,rfl,rfl⟩
  .exact wpAny_pyHash_int h
  .exact wpAny_pyHash_str h
 eqBool:=λg c h=>by
  rcases cg g with⟨i,t,rfl,rfl⟩|⟨x,t,rfl,rfl⟩
  .rcases cg c with⟨j,u,rfl,rfl⟩|⟨y,u,rfl,rfl⟩
   .rw[JY]at h;exact wpAny_eqBool_int h
   .rw[K3]at h;exact SeqAt.EqAt.int_str i t y u _ _ _ _ h
  .rcases cg c with⟨j,u,rfl,rfl⟩|⟨y,u,rfl,rfl⟩
   .rw[JO]at h;exact SeqAt.EqAt.str_int x t j u _ _ _ _ h
   .rw[DS]at h;exact wpAny_eqBool_str h
 «strs»:=λk x t v h=>by
  rcases cg h with⟨i,u,rfl,e⟩|⟨y,u,rfl,e⟩
  .exact nomatch e
  .injection e with e1 _;subst e1;cases v<;>rfl
def v3 prog w i t:(aH prog w).is (.inl i) (.int i t):=Az i t
def vg prog w x t:(aH prog w).is (.inr x) (.str x t):=Bo x t
inductive V where
 |non|bl (b:Bool)|int (i:Int)|str (x:Str)|byt (b:Array UInt8)|flt (b:UInt64)|ref (a:Addr)|ty (n:String)
def RelV:V->Value->Prop
 |.non,u=>u=Value.none
 |.bl b,u=>u=Value.bool b
 |.int i,u=>∃t,u=Value.int i t
 |.str x,u=>∃t,u=Value.str x t
 |.byt b,u=>∃t,u=Value.bytes b t
 |.flt b,u=>∃t,u=Value.float b t
 |.ref a,u=>u=Value.ref a
 |.ty n,u=>u=Value.type n
abbrev Vals:=Paired RelV
def Vals.length(r:Vals xs us):xs.length=us.length:=VV r
theorem Vals.get:∀{xs}{us}{i:Nat}{x},Vals xs us->xs[i]?=!x->∃u,us[i]?=!u/\RelV x u
 |_,_,_,_,.nil,e=>by simp at e
 |_,_,0,_,.cons r _,e=>by simp at e;subst e;exact#[_,qx,r]
 |_,_,i+1,x,.cons _ t,e=>by
  let#[u,a,h]:=Vals.get (i:=i) (x:=x) t (by simpa using e);exact#[u,by simpa using a,h]
theorem Vals.set(r:RelV x u):∀{xs}{us} i,Vals xs us->Vals (xs.set i x) (us.set i u)
 |_,_,_,.nil=>.nil
 |_,_,0,.cons _ t=>.cons r t
 |_,_,i+1,.cons q t=>.cons q<|Vals.set r i t
def Vals.append(h:Vals xs us)(s:Vals ys w):Vals (xs++ys) (us++w):=by
 induction h with
 |nil=>exact s
 |cons r _ ih=>exact .cons r ih
theorem Vals.take:∀{xs}{us} n,Vals xs us->Vals (xs.take n) (us.take n)
 |_,_,0,_=>.nil
 |_,_,_+1,.nil=>.nil
 |_,_,n+1,.cons r t=>.cons r<|Vals.take n t
theorem Vals.drop:∀{xs}{us} n,Vals xs us->Vals (xs.drop n) (us.drop n)
 |_,_,0,r=>r
 |_,_,_+1,.nil=>.nil
 |_,_,n+1,.cons _ t=>Vals.drop n t
def RelO:Option V->Option Value->Prop
 |some v,!u=>RelV v u
 |none,()=>True
 |_,_=>False
def KV:List (κ×V)->List (κ×Value)->Prop:=Paired λp q=>p.1=q.1/\RelV p.2 q.2
def kV:Key->V
 |.inl i=>.int i
 |.inr x=>.str x
inductive HO where
 /-- a list -/
 |lst (xs:List V)
 /-- a tuple (never changes) -/
 |tup (xs:List V)
 /-- a dict whose keys are ints and texts;one whose keys are tuples of ints and texts (the empty one is both) -/
 |dK (kvs:List (Key×V))|dT (kvs:List (List Key×V))
 /-- a set of ints: its members,its size -/
 |set (S:Int->Bool) (n:Nat)
 /-- an instance of the class at C,its dict at dx,its attributes -/
 |ins (C dx:Addr) (fs:List (Str×V))
 /-- the dict of the instance at x -/
 |own (x:Addr)
 /-- the dict of an exception -/
 |xd (fs:List (Str×V))
 /-- a bound method,f of x -/
 |met (f x:Addr)
 /-- a range object lo,lo+1,.. below hi -/
 |rng (lo hi:Int)
 /-- a thing that is known to the object (the script;a dict while a loop walks it): read,never written while it is so -/
 |frz (o:Obj) (u:HO)
 /-- a code object's table -/
 |tbl (q:Str) (pos:Pos)
 /-- any other thing,by what is true of its one object (a def of one's own: SetO a S n:=HO.ext λh=>..) -/
 |ext (φ:Heap->Prop)
abbrev Hp:=Addr->Option HO
def HO.stl:HO->Bool
 |.tup _=>true
 |.frz _ _=>true
 |.tbl _ _=>true
 |_=>false
def Ee(o:Obj)(q:Str):=∃a t,o.data=.fields a/\a[1]?=!.str q t
def Nb(o:Obj):Option (Addr×Str×Pos):=match o with
 |#[.str q t,(),.fields #[[.int a _,.int b _,.int c _,.int d _]],_]=>!(t,q,#[a.toNat,b.toNat,c.toNat,d.toNat])
 |_=>()
def fy(K:Kq):=K.filterMap λp=>Nb p.2
def e_(K:Kq)(t:Addr)(q:Str)(p:Pos):=(fy K).lookup t=!(q,p)
def upd(H:Hp)(a:Addr)(o:HO):Hp:=λb=>if b=a then !o else H b
def aC:upd H a o a=!o:=by delta upd;rw[Yk qx]
def az(h:b≠a):upd H a o b=H b:=by delta upd;rw[Ym h]
theorem Nw{H:Hp}(h:H a=!o)(h':H b=!u)(d:o≠u):a≠b:=by grind
theorem aX{H:Hp}(h:H a=!o)(h':H b=()):a≠b:=by grind
def NoD(h:Heap)(a:Addr):=∃o,h.get? a=!o/\o.dict=()
def NoD.new(h:Heap)items:NoD (h.push {cls:=.type "tuple",data:=.seq items}) h.objs.size:=#[_,Ys _ qx,qx]
section
variable(P:Program) (w:World)
def ObjOk(H:Hp)(h:Heap)(a:Addr):HO->Prop
 |.lst b=>b.length<=sizeLine/\∃(i:List Value) (n:Nat),Vals b i/\h.get? a=some {cls:=.type "list",data:=.seq i.toArray n}
 |.tup b=>b.length<=sizeLine/\∃i:List Value,Vals b i/\IsTup h a i.toArray/\NoD h a
 |.dK kvs=>kvs.length<=sizeLine/\(a == sysModules)=false/\∃g,KV kvs g/\h.DictOf (aH P w) a g
 |.dT kvs=>kvs.length<=sizeLine/\(a == sysModules)=false/\∃b:List _,
   Paired (λp q=>p.1=q.1/\H q.2.1=!(.tup<|p.1.map kV)/\RelV p.2 q.2.2) kvs b /\
   ∃o s y,h.get? a=!o/\o.ExactDict/\o.data=.dict s y/\s.toList=b.map (entryOfKey<|tupleKind<|aH P w)/\(b.map (·.1)).Nodup
 |.set S n=>h.SetOf (intKind P w) a S n
 |.ins C dx fs=>H dx=!.own a/\fs.length<=1000/\dx≠a/\h.get? a=!W.instObj C dx /\
   ∃m,h.Ns1 dx m/\(∀f,RelO (fs.lookup f)<|m f)/\Within m (fs.map (·.1))
 |.own _=>∃o,h.get? a=!o
 |.xd fs=>∃m,h.Ns1 a m/\∀f,RelO (fs.lookup f)<|m f
 |.rng lo hi=>∃t u v,h.get? a=some {cls:=.type "range",data:=.fields #[[.int lo t,.int hi u,.int 1 v]]}
 |.frz o u=>h.get? a=!o/\ObjOk H h a u
 |.tbl q pos=>∃e,h.get? a=!W.tabObj e/\TriplesOk e.toList/\(codeAmong pos e.toList=()\/∃c o u,codeAmong pos e.toList=!.ref c/\H c=!.frz o u/\Ee o q)
 |.met f x=>h.get? a=!(W.methodObj (.ref f)<|.ref x)
 |.ext φ=>φ h/\(∃o,h.get? a=!o)/\∀l j:Heap,φ l->(∀o,l.get? a=!o->j.get? a=!o)->φ j
def HOk(H:Hp)(h:Heap):=∀a o,H a=!o->ObjOk P w H h a o
end
section
variable{P:Program}{w:World}{H H':Hp}{h h':Heap}{a:Addr}{o:HO}
def ObjOk.lt(x:ObjOk P w H h a o):a<h.objs.size:=by
 cases o with
 |lst xs=>let#[_,_,_,_,e]:=x;exact Yv e
 |tup xs=>let#[_,_,_,p,_]:=x;exact p.lt
 |dK kvs=>let#[_,_,_,_,o,_,_,e,_]:=x;exact Yv e
 |dT kvs=>let#[_,_,_,_,o,_,_,e,_]:=x;exact Yv e
 |set S n=>let#[o,_,_,_,e,_]:=x;exact Yv e
 |ins C dx fs=>let#[_,_,_,e,_]:=x;exact Yv e
 |own y=>let#[_,e]:=x;exact Yv e
 |xd fs=>let#[_,#[_,_,_,e,_],_]:=x;exact Yv e
 |rng lo hi=>let#[_,_,_,e]:=x;exact Yv e
 |frz ob u=>let#[e,_]:=x;exact Yv e
 |tbl q p=>let#[_,e,_]:=x;exact Yv e
 |met f y=>exact Yv<|show h.get? a=!_ from x
 |ext φ=>let#[_,#[_,e],_]:=x;exact Yv e
def Paired.mapP{l₁:List e}{l}(h:Paired F l₁ l)(f:∀a b,F a b->G a b):Paired G l₁ l:=by
 induction h with
 |nil=>exact .nil
 |cons r _ ih=>exact .cons (f _ _ r) ih
def ObjOk.stay(x:ObjOk P w H h a o)(k:∀b u,(b=a\/H b=!.own a)->h.get? b=!u->h'.get? b=!u)(O:∀b,H b=!.own a->H' b=!.own a)(K:∀b u,u.stl->H b=!u->H' b=!u):ObjOk P w H' h' a o:=by
 induction o with
 |lst m=>let#[z,l,n,r,e]:=x;exact#[z,l,n,r,k _ _ (.inl qx) e]
 |tup m=>let#[z,l,r,#[g,e,c],A,E,I]:=x;exact#[z,l,r,#[g,k _ _ (.inl qx) e,c],A,k _ _ (.inl qx) E,I]
 |dK kvs=>let#[z,y,L,r,g,i,j,e,c]:=x;exact#[z,y,L,r,g,i,j,k _ _ (.inl qx) e,c]
 |dT kvs=>
  let#[z,y,m,r,g,i,j,e,c]:=x;exact#[z,y,m,Paired.mapP r λp q z=>#[z.1,K _ _ qx z.2.1,z.2.2],g,i,j,k _ _ (.inl qx) e,c]
 |set S n=>let#[g,i,j,t,e,c]:=x;exact#[g,i,j,t,k _ _ (.inl qx) e,c]
 |ins C dx fs=>
  let#[d,z,N,e,B,#[s,i,j,E,c],r]:=x;exact#[O _ d,z,N,k _ _ (.inl qx) e,B,#[s,i,j,k _ _ (.inr d) E,c],r]
 |own y=>let#[g,e]:=x;exact#[g,k _ _ (.inl qx) e]
 |xd fs=>let#[B,#[s,i,j,e,c],r]:=x;exact#[B,#[s,i,j,k _ _ (.inl qx) e,c],r]
 |rng lo hi=>let#[t,u,v,e]:=x;exact#[t,u,v,k _ _ (.inl qx) e]
 |frz g u ih=>let#[e,q]:=x;exact#[k _ _ (.inl qx) e,ih q]
 |tbl q p=>
  let#[M,e,z,c]:=x;exact#[M,k _ _ (.inl qx) e,z,c.imp id λ#[c,o,u,R,I,Q]=>#[c,o,u,R,K _ _ qx I,Q]]
 |met f y=>
  let e:=x;exact k a _ (.inl qx) e
 |ext φ=>let#[p,#[o,e],J]:=x;exact#[J _ _ p λo q=>k _ _ (.inl qx) q,#[o,k _ _ (.inl qx) e],J]
def HOk.lt(x:HOk P w H h)(e:H a=!o):a<h.objs.size:=(x a o e).lt
def HOk.fresh(x:HOk P w H h)(e:h.objs.size<=a):H a=():=by
 cases q:H a with
 |none=>rfl
 |some u=>exact absurd (YA (x.lt q) e)<|Zh _
def HOk.kept(x:HOk P w H h)(k:∀b u,h.get? b=!u->h'.get? b=!u):HOk P w H h':=λa o e=>
 (x a o e).stay (λb u z q=>k b u q) (λz q=>q) λz z z q=>q
def HOk.laid(x:HOk P w H h)(k:∀b u,h.get? b=!u->h'.get? b=!u)(i:h.objs.size<=a)(new:ObjOk P w (upd H a o) h' a o):HOk P w (upd H a o) h':=λb u e=>by
 let f:=x.fresh i;by_cases g:b=a
 .subst g;rw[aC]at e;cases e;exact new
 .rw[az g]at e;exact(x b u e).stay (λc v z q=>k c v q) (λc q=>by rwa[az<|aX q f]) λc u z q=>by rwa[az<|aX q f]
end
def Rd(H:Hp)(a:Addr)(u:HO):=H a=!u\/∃o,H a=!.frz o u
def Rd.ok(r:Rd H a u)(x:HOk P w H h):ObjOk P w H h a u:=by
 rcases r with r|⟨o,r⟩
 .exact x a u r
 .let#[_,q]:=x a _ r;exact q
def Mut:Option HO->Prop
 |some (.lst _)=>True
 |some (.dK _)=>True
 |some (.dT _)=>True
 |some (.set _ _)=>True
 |some (.ins _ _ _)=>True
 |some (.ext _)=>True
 |_=>False
section
variable{P:Program}{w:World}{H:Hp}{h h':Heap}{x e:Addr}{o':HO}
theorem HOk.write(ok:HOk P w H h)(m:Mut (H x))(he:e=x\/H e=!.own x)(k:∀b u,b≠e->h.get? b=!u->h'.get? b=!u)(j:∃u,h'.get? e=!u)(new:ObjOk P w (upd H x o') h' x o'):HOk P w (upd H x o') h':=λb u q=>by
 have f:∀c y,H c=!.own y->c≠x:=λc y r z=>by subst z;rwa[r]at m
 have g:∀c u,u.stl->H c=!u->c≠x:=λc u s r z=>by subst z;rw[r]at m;cases u<;>first|exact m|cases s
 by_cases i:b=x
 .subst i;rw[aC]at q;cases q;exact new
 .rw[az i]at q;by_cases a:b=e
  .have l:H b=!.own x:=by
    rcases he with z|z
    .exact absurd (a.trans z) i
    .rwa[a]
   rw[q]at l;cases l;let#[v,o]:=j;exact#[v,by rwa[a]]
  .exact(ok b u q).stay (λc v hc r=>k c v ?_ r) (λc r=>by rwa[az<|f c b r]) λc u s r=>by rwa[az<|g c u s r]
   rcases hc with rfl|hc
   .exact a
   .rintro rfl;grind
end
structure Un (fs ex:List Addr) (H H':Hp) (h h':Heap):Prop where
 keep:∀b o,h.get? b=!o->H b=none->b∉fs->b∉ex->h'.get? b=!o
 slot:∀b o,h.get? b=!o->H b=none->b∈fs->b∉ex->∃sl,h'.get? b=some {o with slots:=sl}
 free:∀b o,h.get? b=!o->H b=none->b∉ex->H' b=none
 there:∀b o,h.get? b=!o->b∉ex->∃o',h'.get? b=!o'
 stl:∀b u,u.stl=true->H b=!u->H' b=!u
section
variable{fs fs' ex ex':List Addr}{H H1 H2:Hp}{h h1 h2 h':Heap}{a x e:Addr}{o:HO}
def Un.any(u:Un fs ex H H1 h h1)(q:h.get? b=!ob)(n:H b=())(hx:b∉ex):∃s,h1.get? b=some {ob with slots:=s}:=by
 by_cases a:b∈fs
 .exact u.slot b ob q n a hx
 .exact#[ob.slots,u.keep b ob q n a hx]
def Un.kept(k:∀b u,h.get? b=!u->h'.get? b=!u):Un fs ex H H h h':=
 #[λb o q z z z=>k b o q,λb o q z z z=>#[o.slots,k b o q],λz z z n z=>n,λb o q z=>#[o,k b o q],λz z z q=>q]
def Un.refl:Un fs ex H H h h:=Un.kept λz z q=>q
def Un.laid(k:∀b u,h.get? b=!u->h'.get? b=!u)(c:h.objs.size<=a)(e:H a=()):Un fs ex H (upd H a o) h h' where
 keep:=λb u q z z z=>k b u q
 slot:=λb u q z z z=>#[u.slots,k b u q]
 free:=λb u q n z=>by rwa[az<|Yy<|YA (Yv q) c]
 there:=λb u q z=>#[u,k b u q]
 stl:=λb u z q=>by rwa[az<|aX q e]
theorem Un.write(m:Mut (H x))(he:e=x\/H e=!.own x)(k:∀b u,b≠e->h.get? b=!u->h'.get? b=!u)(c:∃u,h'.get? e=!u):Un fs ex H (upd H x o) h h':=by
 have f:∀b,H b=()->b≠x:=λb n z=>by subst z;rwa[n]at m
 have g:∀b,H b=()->b≠e:=λb n z=>by
  subst z;rcases he with r|r
  .exact f b n r
  .rw[n]at r;cases r
 have j:∀b u,H b=!u->¬Mut (!u)->b≠x:=λb u q i z=>by subst z;rw[q]at m;exact i m
 exact#[λb u q n y y=>k b u (g b n) q,λb u q n y y=>#[u.slots,k b u (g b n) q],λb u q n y=>by rwa[az<|f b n],λb u q y=>?_,
  λb u s q=>by rwa[az<|j b _ q λz=>by cases u<;>first|exact z|cases s]]
 grind
end
def trk(h:Heap)(H:Hp):=(List.range h.objs.size).filter λa=>(H a).isSome
def tE(h:Heap)(H:Hp):=W.hideAll h<|trk h H
def Bp h H:(tE h H).objs.size=h.objs.size:=W.hideAll_size _ _
def CA(e:h.get? b=!o)(n:H b=()):(tE h H).get? b=!o:=
 W.hideAll_get _ e λa=>by
  let q:=(YX.mp a).2;rw[n]at q;simp at q
def G4(e:(tE h H).get? b=!o):h.get? b=!o/\H b=():=by
 let a:=W.of_hideAll _ e;exact#[a,?_];cases q:H b with
 |none=>rfl
 |some x=>
  have c:b∈trk h H:=YX.mpr #[Zg.mpr<|Yv a,by simp[q]];have z:(tE h H).get? b=():=W.hideAll_none _ c;rw[z]at e;cases e
def Gp(g h:Heap)(L:Addr):=(List.range h.objs.size).filterMap λa=>if a=L\/(g.get? a).isSome then () else(h.get? a).map λo=>(a,o)
def bU(g h:Heap)(L d:Addr):=(Gp g h L).filter λp=>decide<|p.1≠d
structure Mod (K:PySem.W.Frag) (mg:Str->Option Value) (base:Heap):Prop where
 kin:K.In base
 glob:base.Ns mainGlobals mg
 blt:∃mb,base.Ns builtinsNs mb/\∀x:Str,x ≠ "__name__"->mb x=bootBuiltins x
 nolimit:base.NoLimit
 bat:∀t q p,e_ K t q p->base.BuiltinsAt mg t
structure Cx where
 prog:Program
 w:World
 K:PySem.W.Frag
 mg:Str->Option Value
 base:Heap
 A:Around
 N:List Str
 s₀:Shared
 H₀:Hp
 env:Env
 outer:List Env
 stack:List Env
 ex:List Addr
 fn:Str->Bool
 calm:Bool
 pn:List (Addr×Obj)
 xe:Value->Shared->Prop
def frs(l:List Env):=l.filterMap (·.frame)
abbrev Cx.fs(X:Cx):=frs X.outer
def Vis(sc:Scope)(x:Str):=sc.names.lookup x=!.local\/sc.names.lookup x=!.cell\/sc.names.lookup x=!.free
def Loc(sc:Scope)(x:Str):=sc.names.lookup x=!.local\/sc.names.lookup x=!.cell
def Ou(env:Env)(h:Heap)(m:Ks)(x:Str)(u:Value):=
 (env.kindOf x=!.local/\m x=!u)\/((env.kindOf x=!.cell\/env.kindOf x=!.free)/\∃c,env.cells.lookup x=!c/\h.IsCell c (!u))
structure Cx.Ok (X:Cx):Prop where
 mod:Mod X.K X.mg X.base
 kind:X.env.scope.kind=.function
 glob:X.env.globals=mainGlobals
 blt:X.env.builtins=builtinsNs
 above:X.s₀.heap.objs.size<=X.env.locals
 inj:∀x y c,X.env.cells.lookup x=!c->X.env.cells.lookup y=!c->x=y
 has:∀x,(X.env.kindOf x=!.cell\/X.env.kindOf x=!.free)->∃c,X.env.cells.lookup x=!c
 cab:∀x c,X.fn x=true->X.env.cells.lookup x=!c->X.s₀.heap.objs.size<=c
 hd:X.calm=true->X.A.handled=none
 frames:X.A.frames=!X.stack
 stk:X.stack=X.outer\/(X.stack=X.env::X.outer/\X.env.frame=!X.env.locals)
 exf:∀b∈X.ex,b≠X.env.locals/\∀x c,X.env.cells.lookup x=!c->c≠b
 bs:∀b o,X.base.get? b=!o->X.s₀.heap.get? b=!o/\X.H₀ b=none
 bsz:X.base.objs.size<=X.s₀.heap.objs.size
 noex:∀b o,X.base.get? b=!o->b∉X.ex
 exfs:∀b∈X.ex,b∉X.fs
 funs:X.s₀.heap.FunFrames X.base X.outer
 frf:∀b∈X.fs,X.H₀ b=none
 tab:∀t q p,e_ X.K t q p->X.H₀ t=!.tbl q p
structure Inv (X:Cx) (pz:List (Addr×Obj)) (σ:List (Option V)) (H:Hp) (s:Shared):Prop where
 ok:X.Ok
 os:s.os=X.s₀.os
 bare:AllBare s.gens
 base:Un X.fs X.ex X.H₀ H X.s₀.heap s.heap
 loc:∃m,s.heap.Ns X.env.locals m/\∀(i:Nat) (x:Str) (v:V),X.N[i]?=!x->σ[i]?=!!v->Vis X.env.scope x->∃u,RelV v u/\Ou X.env s.heap m x u
 cell:∀x c,X.env.cells.lookup x=!c->∃v,s.heap.IsCell c v
 free:H X.env.locals=none
 freeC:∀x c,X.env.cells.lookup x=!c->H c=none
 pin:∀p∈X.pn++pz,s.heap.get? p.1=!p.2/\H p.1=none/\p.1≠X.env.locals/\p.1∉X.fs/\∀v,p.2.data≠.cell v
 hok:HOk X.prog X.w H s.heap
 len:σ.length=X.N.length
section
variable{X:Cx}{pz:Kp}{σ:List (Option V)}{H H':Hp}{s:Shared}{h':Heap}
def Cx.Ok.nofr(ok:X.Ok)(e:X.base.get? b=!o):b∉X.fs:=λh=>by
 have:=(ok.funs.mem h).1;rw[e]at this;cases this
def Inv.bs(I:Inv X pz σ H s):∀b o,X.base.get? b=!o->s.heap.get? b=!o/\H b=():=λb o e=>
 #[I.base.keep b o (I.ok.bs b o e).1 (I.ok.bs b o e).2 (I.ok.nofr e)<|I.ok.noex b o e,I.base.free b o (I.ok.bs b o e).1 (I.ok.bs b o e).2<|I.ok.noex b o e]
def Inv.bk(I:Inv X pz σ H s):∀b o,X.base.get? b=!o->s.heap.get? b=!o:=λb o e=>(I.bs b o e).1
def Inv.mod(I:Inv X pz σ H s):Mod X.K X.mg X.base:=I.ok.mod
def Inv.kIn(I:Inv X pz σ H s):X.K.In s.heap:=I.ok.mod.kin.keeps I.bk
def Inv.lt(I:Inv X pz σ H s):X.env.locals<s.heap.objs.size:=let #[_,hn,_]:=I.loc;hn.lt
def Inv.sz(I:Inv X pz σ H s):X.s₀.heap.objs.size<=s.heap.objs.size:=YF I.ok.above<|ZO I.lt
def Inv.nofs(I:Inv X pz σ H s){a:Addr}(h:s.heap.objs.size<=a):a∉X.fs:=λc=>by
 let#[_,o,b,_]:=I.ok.funs.mem c;exact absurd (YA (Yv b)<|YF I.sz h)<|Zh _
theorem Inv.cne(I:Inv X pz σ H s):∀x c,X.env.cells.lookup x=!c->c≠X.env.locals:=λx c e z=>by
 let#[v,o,b,f]:=I.cell x c e;let#[m,#[g,i,j,h,a,_],_]:=I.loc;grind
def Inv.tab(I:Inv X pz σ H s):∀t q p,e_ X.K t q p->H t=!.tbl q p:=λt q p h=>I.base.stl _ _ rfl<|I.ok.tab t q p h
def Inv.funs(I:Inv X pz σ H s):s.heap.FunFrames X.base X.outer:=by
 have all:∀l,(∀b∈frs l,b∈X.fs)->X.s₀.heap.FunFrames X.base l->s.heap.FunFrames X.base l:=by
  intro l;induction l with
  |nil=>intro _ _;trivial
  |cons u r ih=>
   intro f m;let#[p,#[L,o,h,j,i,q],g]:=m;let c:=f L (by delta frs;rw[Xy,h];exact Ye);let#[w,e]:=I.base.slot L o i (I.ok.frf L c) c λz=>I.ok.exfs L z c
   exact#[p,#[L,_,h,j,e,q],ih (λb a=>f b<|by delta frs;rw[Xy,h];exact Yb _ a) g]
 exact all X.outer (λy a=>a) I.ok.funs
def Inv.stack(I:Inv X pz σ H s):s.heap.FunFrames X.base X.stack:=by
 rcases I.ok.stk with e|⟨e,hf⟩
 .rw[e];exact I.funs
 .rw[e];let#[m,h,_]:=I.loc;exact .cons (by rw[I.ok.kind];decide) hf h ?_ I.funs;exact Heap.get?_none_of_le<|YF I.ok.bsz I.ok.above
def Inv.stkSub(I:Inv X pz σ H s):∀b∈frs X.stack,b∈X.env.locals::X.fs:=λb h=>by
 rcases I.ok.stk with e|⟨e,hf⟩
 .rw[e]at h;exact Yb _ h
 .rw[e]at h;delta frs at h;rwa[Xy,hf]at h
def Inv.stkFree(I:Inv X pz σ H s):∀b∈frs X.stack,H b=():=λb hb=>by
 rcases Yt.mp (I.stkSub b hb)with e|hb
 .rw[e];exact I.free
 .let#[_,o,h,_]:=I.ok.funs.mem hb;exact I.base.free b o h (I.ok.frf b hb) λz=>I.ok.exfs b z hb
def Inv.step{ch:List Addr}(I:Inv X pz σ H s)(f:∀b∈ch,(b∈X.ex\/X.s₀.heap.objs.size<=b)/\b≠X.env.locals/\(∀x c,X.env.cells.lookup x=!c->c≠b)/\∀p∈X.pn++pz,p.1≠b)(keep:∀b o,b≠X.env.locals->b∉X.fs->b∉ch->s.heap.get? b=!o->H b=()->h'.get? b=!o)(slot:∀b o,b≠X.env.locals->b∈X.fs->b∉ch->s.heap.get? b=!o->H b=()->∃K,h'.get? b=some {o with slots:=K})(free:∀b o,b∉ch->s.heap.get? b=!o->H b=()->H' b=())(y:∀b o,b∉ch->s.heap.get? b=!o->∃o',h'.get? b=!o')(stl:∀b u,u.stl->H b=!u->H' b=!u)(ns:∀m,s.heap.Ns X.env.locals m->h'.Ns X.env.locals m)(L:HOk X.prog X.w H' h')(Y:AllBare g'):Inv X pz σ H' {s with heap:=h',gens:=g',drawn:=d',toks:=t' }:=by
 have E:∀b o,X.s₀.heap.get? b=!o->b≠X.env.locals:=λb o e=>Yy<|YA (Yv e) I.ok.above
 have j:∀b o,X.s₀.heap.get? b=!o->b∉X.ex->b∉ch:=λb o e h A=>by
  rcases(f b A).1 with z|z
  .exact h z
  .exact absurd (YA (Yv e) z)<|Zh _
 have g:∀x c,X.env.cells.lookup x=!c->∀v,s.heap.IsCell c v->h'.IsCell c v:=λx c e v M=>by
  let#[o,C,N]:=M;have a:c∉ch:=λz=>(f c z).2.2.1 x c e qx
  by_cases S:c∈X.fs
  .let#[K,q]:=slot c o (I.cne x c e) S a C<|I.freeC x c e;exact#[_,q,N]
  .exact#[o,keep c o (I.cne x c e) S a C<|I.freeC x c e,N]
 exact#[I.ok,I.os,Y,#[λb o e n A h=>?_,λb o e n A h=>?_,λb o e n h=>?_,λb o e h=>?_,λb u s e=>stl b u s<|I.base.stl b u s e],?_,λx c e=>?_,?_,λx c e=>?_,λp R=>?_,L,I.len]
 .exact keep b o (E b o e) A (j b o e h) (I.base.keep b o e n A h)<|I.base.free b o e n h
 .let#[K,B]:=I.base.slot b o e n A h;let#[J,O]:=slot b _ (E b o e) A (j b o e h) B<|I.base.free b o e n h;exact#[J,O]
 .let#[o',B]:=I.base.there b o e h;exact free b o' (j b o e h) B<|I.base.free b o e n h
 .let#[o',B]:=I.base.there b o e h;exact y b o' (j b o e h) B
 .let#[m,T,U]:=I.loc;exact#[m,ns m T,λi x v B O Z=>?_];let#[u,r,l]:=U i x v B O Z;exact#[u,r,?_];rcases l with l|⟨k,c,e,z⟩
  .exact .inl l
  .exact .inr #[k,c,e,g x c e _ z]
 .let#[v,z]:=I.cell x c e;exact#[v,g x c e v z]
 .let#[m,#[o,_,_,C,_],_]:=I.loc;exact free _ o (λz=>(f _ z).2.1 qx) C I.free
 .let#[v,o,C,N]:=I.cell x c e;exact free c o (λz=>(f c z).2.2.1 x c e qx) C<|I.freeC x c e
 .let#[e,n,Q,P,d]:=I.pin p R;have a:p.1∉ch:=λz=>(f p.1 z).2.2.2 p R qx
  exact#[keep p.1 p.2 Q P a e n,free p.1 p.2 a e n,Q,P,d]
def Inv.un(I:Inv X pz σ H s)(u:Un X.fs [] H H' s.heap h')(a:HOk X.prog X.w H' h'):Inv X pz σ H' {s with heap:=h',toks:=t' }:=by
 let#[m,#[o,A,B,i,r],_]:=id I.loc;let#[q,p]:=u.any i I.free (by simp);exact I.step (ch:=[]) (λy z=>nomatch z) (λb o y c y e n=>u.keep b o e n c<|by simp) (λb o y c y e n=>u.slot b o e n c<|by simp) (λb o y e n=>u.free b o e n<|by simp) (λb o y e=>u.there b o e<|by simp) u.stl (λy l=>by
  let#[x,f,g,h,j]:=l;rw[i]at h;cases h;exact#[_,f,g,p,j]) a I.bare
def Inv.call(I:Inv X pz σ H s)(u:Un (frs X.stack) ch H H' s.heap h')(g:HOk X.prog X.w H' h')(B:AllBare g')(f:∀b∈ch,(b∈X.ex\/X.s₀.heap.objs.size<=b)/\b≠X.env.locals/\(∀x c,X.env.cells.lookup x=!c->c≠b)/\∀p∈X.pn++pz,p.1≠b):Inv X pz σ H' {s with heap:=h',gens:=g',drawn:=d',toks:=t' }:=by
 let#[m,#[o,L,M,q,r],_]:=id I.loc;let#[E,i]:=u.any q I.free λz=>(f _ z).2.1 qx
 exact I.step f (λb o i C h e n=>u.keep b o e n (λz=>(Yt.mp<|I.stkSub b z).elim i C) h) (λb o v v h e n=>u.any e n h) (λb o h e n=>u.free b o e n h) (λb o h e=>u.there b o e h) u.stl (λK A=>by
  let#[J,j,l,a,y]:=A;rw[q]at a;cases a;exact#[_,j,l,i,y]) g B
def Inv.turned(I:Inv X pz σ H s)(k:∀b o,b≠it->s.heap.get? b=!o->h'.get? b=!o)(i:H it=())(f:it≠X.env.locals)(h1:it∈X.ex\/X.s₀.heap.objs.size<=it)(h2:∀x c,X.env.cells.lookup x=!c->c≠it)(w:∀p∈X.pn++pz,p.1≠it):Inv X pz σ H {s with heap:=h',toks:=t' }:=by
 have a:∀b u,H b=!u->b≠it:=λb u e z=>by rw[z,i]at e;cases e
 exact I.step (ch:=[it]) (λb l=>?_) (λb o t t h e t=>k b o (λz=>h<|by simp[z]) e) (λb o t t h e t=>#[o.slots,k b o (λz=>h<|by simp[z]) e]) (λt t t t n=>n)
  (λb o h e=>#[o,k b o (λz=>h<|by simp[z]) e]) (λt t t e=>e) (λm j=>?_) (λb u e=>?_) I.bare
 .have e:b=it:=by simpa using l
  subst e;exact#[h1,f,h2,w]
 .let#[o,y,A,g,r]:=j;exact#[o,y,A,k _ o (Xq f) g,r]
 .exact(I.hok b u e).stay (λc v h q=>k c v ?_ q) (λt q=>q) λt t t q=>q;rcases h with z|z
  .rw[z];exact a b u e
  .exact a c _ z
def Inv.tok(I:Inv X pz σ H s)t:Inv X pz σ H {s with toks:=t}:=I.un Un.refl I.hok
def Inv.kept(I:Inv X pz σ H s)(k:∀b u,s.heap.get? b=!u->h'.get? b=!u):Inv X pz σ H {s with heap:=h',toks:=t' }:=I.un (Un.kept k)<|I.hok.kept k
def Inv.laid{a:Addr}(I:Inv X pz σ H s)(k:∀b u,s.heap.get? b=!u->h'.get? b=!u)(h:s.heap.objs.size<=a)(new:ObjOk X.prog X.w (upd H a o) h' a o):Inv X pz σ (upd H a o) {s with heap:=h',toks:=t' }:=I.un (Un.laid k h<|I.hok.fresh h)<|I.hok.laid k h new
def Inv.write(I:Inv X pz σ H s)(m:Mut (H x))(he:e=x\/H e=!.own x)(k:∀b u,b≠e->s.heap.get? b=!u->h'.get? b=!u)(h:∃u,h'.get? e=!u)(new:ObjOk X.prog X.w (upd H x o) h' x o):Inv X pz σ (upd H x o) {s with heap:=h',toks:=t' }:=I.un (Un.write m he k h)<|I.hok.write m he k h new
def Inv.weak(I:Inv X pz σ H s)(h:a.length=σ.length)(w:∀(i:Nat) v,a[i]?=!!v->σ[i]?=!!v):Inv X pz a H s:=
 #[I.ok,I.os,I.bare,I.base,let #[m,hn,hl']:=I.loc;#[m,hn,λi x v c b e=>hl' i x v c (w i v b) e],I.cell,I.free,I.freeC,I.pin,I.hok,h.trans I.len]
def Inv.pins_of{a:Kp}(I:Inv X pz σ H s)(h:∀p∈a,s.heap.get? p.1=!p.2/\H p.1=()/\p.1≠X.env.locals/\p.1∉X.fs/\∀v,p.2.data≠.cell v):Inv X a σ H s:=
 #[I.ok,I.os,I.bare,I.base,I.loc,I.cell,I.free,I.freeC,λp b=>(Zc.mp b).elim (λz=>I.pin p<|YL _ z)<|h p,I.hok,I.len]
def pB{N:List Str}(hN:N.Nodup){i j:Nat}(a:N[i]?=!x)(b:N[j]?=!x):i=j:=by let#[f,c]:=Yo.mp a;let#[h,e]:=Yo.mp b;exact(List.getElem_inj hN).mp<|c.trans e.symm
abbrev FnL(X:Cx)(x:Str):=X.fn x\/X.env.scope.names.lookup x=!.local
def qW{E:Kv}(I:Inv X pz σ H s)(hN:X.N.Nodup)(hi:X.N[i]?=!x)(hx:Loc X.env.scope x)(r:RelV v u)(h:∀s',Inv X pz (σ.set i<|!v) H s'->(∃a,Heap.SameBut a s.heap s'.heap/\(a=X.env.locals\/X.env.cells.lookup x=!a))->Q PUnit.unit s')(hf:FnL X x:=by trivial):wpAny M A (storeName X.env x u) Q E s:=by
 let#[m,hn,hl]:=id I.loc;have T:(X.env.scope.kind == .class||(X.env.scope.kind == .module&&X.env.locals != X.env.globals))=false:=by rw[I.ok.kind];rfl
 have J:i<σ.length:=by rw[I.len];exact(Yo.mp hi).1
 let cne:=I.cne;have g:∀{a}{P},(∃o,s.heap.get? a=!o/\H a=())->Heap.SameBut a s.heap P->HOk X.prog X.w H P:=λ{a P} ha f b ob e=>by
  let#[_,_,B]:=ha;exact(I.hok b ob e).stay (λc Z hc q=>(f.2 c ?_).trans q) (λt q=>q) λt t t q=>q;rintro rfl;rcases hc with rfl|hc
  .rw[B]at e;cases e
  .rw[B]at hc;cases hc
 rcases hx with hk|hk
 .exact wpAny_storeName_local hk hn (λP hn' f=>?_) T;let#[oL,_,_,hoL,_]:=id hn;exact h _ #[I.ok,I.os,I.bare,#[λb o e n O hx=>?_,λb o e n O hx=>?_,I.base.free,λb o e hx=>?_,I.base.stl],#[_,hn',λj y v' l C e3=>?_],λy c e=>?_,I.free,I.freeC,λp hp=>?_,g #[oL,hoL,I.free] f,by simpa using I.len] #[_,f,.inl qx]
  .exact(f.2 b<|Yy<|YA (Yv e) I.ok.above).trans<|I.base.keep b o e n O hx
  .let#[sl,l]:=I.base.slot b o e n O hx;exact#[sl,(f.2 b<|Yy<|YA (Yv e) I.ok.above).trans l]
  .let#[o',l]:=I.base.there b o e hx;exact#[o',(f.2 b<|Yy<|YA (Yv e) I.ok.above).trans l]
  .by_cases K:j=i
   .subst K;rw[hi]at l;cases l;rw[ZN J]at C;cases C;exact#[u,r,.inl #[hk,by simp]]
   .rw[YY<|Xq K]at C;let#[u',r',q]:=hl j y v' l C e3;exact#[u',r',?_];rcases q with⟨k,e⟩|⟨k,c,e,z⟩
    .exact .inl #[k,?_];have:y≠x:=λe=>K<|pB hN l<|e ▸ hi
     simp[this,e]
    .exact .inr #[k,c,e,z.sameBut f<|cne y c e]
  .let#[Z,z]:=I.cell y c e;exact#[Z,z.sameBut f<|cne y c e]
  .let#[e,n,ne,nf,d]:=I.pin p hp;exact#[(f.2 p.1 ne).trans e,n,ne,nf,d]
 .have L:X.fn x:=by
   rcases hf with z|z
   .exact z
   .rw[z]at hk;cases hk
  let#[c,hc]:=I.ok.has x<|.inl hk;let#[Z,z]:=I.cell x c hc;exact wpAny_storeName_cell I.ok.kind hk hc z λP Y f=>?_;let#[oc,S,R]:=id z;exact h {s with heap:=P } #[I.ok,I.os,I.bare,#[λb o e n O hx=>?_,λb o e n O hx=>?_,I.base.free,λb o e hx=>?_,I.base.stl],#[m,hn.sameBut f<|Xq<|cne x c hc,λj y v' l C e3=>?_],λy c' e=>?_,I.free,I.freeC,λp hp=>?_,g #[oc,S,I.freeC x c hc] f,by simpa using I.len] #[c,f,.inr hc]
  .exact(f.2 b<|Yy<|YA (Yv e)<|I.ok.cab x c L hc).trans<|I.base.keep b o e n O hx
  .let#[sl,l]:=I.base.slot b o e n O hx;exact#[sl,(f.2 b<|Yy<|YA (Yv e)<|I.ok.cab x c L hc).trans l]
  .let#[o',l]:=I.base.there b o e hx;exact#[o',(f.2 b<|Yy<|YA (Yv e)<|I.ok.cab x c L hc).trans l]
  .by_cases K:j=i
   .subst K;rw[hi]at l;cases l;rw[ZN J]at C;cases C;exact#[u,r,.inr #[.inl hk,c,hc,Y]]
   .rw[YY<|Xq K]at C;let#[u',r',q]:=hl j y v' l C e3;exact#[u',r',?_];rcases q with q|⟨k,c',e,z'⟩
    .exact .inl q
    .exact .inr #[k,c',e,z'.sameBut f ?_];rintro rfl;exact K<|pB hN l<|I.ok.inj _ _ _ e hc ▸ hi
  .by_cases U:c'=c
   .subst U;exact#[_,Y]
   .let#[w2,z2]:=I.cell y c' e;exact#[w2,z2.sameBut f U]
  .let#[e,n,ne,nf,d]:=I.pin p hp;exact#[(f.2 p.1 ?_).trans e,n,ne,nf,d];intro q;rw[q,S]at e;have q':oc=p.2:=YG e;exact d Z<|by rw[<-q'];exact R
def lK{E:Kv}(I:Inv X pz σ H s)(hN:X.N.Nodup)(hi:X.N[i]?=!x)(hx:Loc X.env.scope x)(r:RelV v u)(h:∀s',Inv X pz (σ.set i<|!v) H s'->Q PUnit.unit s')(a:FnL X x:=by trivial):wpAny M A (storeName X.env x u) Q E s:=
 qW I hN hi hx r (λs' b z=>h s' b) a
def Inv.call'(I:Inv X pz σ H s)(f:s'.os=s.os)(u:Un (frs X.stack) ch H H' s.heap s'.heap)(h:HOk X.prog X.w H' s'.heap)(g:AllBare s'.gens)(a:∀b∈ch,(b∈X.ex\/X.s₀.heap.objs.size<=b)/\b≠X.env.locals/\(∀x c,X.env.cells.lookup x=!c->c≠b)/\∀p∈X.pn++pz,p.1≠b):Inv X pz σ H' s':=by
 let#[i,g',d',t',o]:=s';let e:=f;subst e;exact I.call u h g a
end
abbrev XK:=Value->Option Addr->Hp->Prop
abbrev St:=List<|Option V
abbrev VK:=V->Hp->Prop
abbrev TE:=St->Hp->VK->Prop
abbrev TT:=St->Hp->(Bool->Hp->Prop)->Prop
abbrev TA:=St->Hp->(List V->Hp->Prop)->Prop
structure kJ where
 nx:St->Hp->Prop
 rt:VK
 bk:St->Hp->Prop:=λ_ _=>False
 ct:St->Hp->Prop:=λ_ _=>False
abbrev TS:=kJ->St->Hp->Prop
def EP(X:Cx)(pz:Kp)(σ:St)(Q:VK)(u:Value)(s':Shared):=∃v H,Inv X pz σ H s'/\RelV v u/\Q v H
def TP(X:Cx)(pz:Kp)(σ:St)(Q:Bool->Hp->Prop)(b:Bool)(s':Shared):=∃H,Inv X pz σ H s'/\Q b H
def AP(X:Cx)(pz:Kp)(σ:St)(Q:List V->Hp->Prop)(us:List Value)(s':Shared):=∃a H,Inv X pz σ H s'/\Vals a us/\Q a H
def SP(X:Cx)(pz:Kp)(D:kJ)(f:Flow)(s':Shared):=
 match f with
 |.next=>∃a H,Inv X pz a H s'/\D.nx a H
 |.brk=>∃a H,Inv X pz a H s'/\D.bk a H
 |.cont=>∃a H,Inv X pz a H s'/\D.ct a H
 |.ret u=>∃v a H,Inv X pz a H s'/\RelV v u/\D.rt v H
def PE(X:Cx)(e:Expr)(t:TE):=
 ∀(p:Kp) s (a:St) H Q,Inv X p a H s->t a H Q->wpAny (model X.prog X.w) X.A (eval e X.env) (EP X p a Q) X.xe s
def PT(X:Cx)(e:Expr)(t:TT):=
 ∀(p:Kp) s (a:St) H Q,Inv X p a H s->t a H Q->wpAny (model X.prog X.w) X.A (isTrue e X.env<|eval e X.env) (TP X p a Q) X.xe s
def PW(X:Cx)(e:Expr)(t:TT):=
 ∀a (p:Kp) s (b:St) H Q,Inv X p b H s->t b H Q->wpAny (model X.prog X.w) X.A (isTrue e X.env a) (TP X p b Q) X.xe s
def PW.pt(h:PW X e t):PT X e t:=h _
def PA(X:Cx)(es:List Expr)(t:TA):=
 ∀p (b:Kp) s (a:St) H Q,Inv X b a H s->t a H Q->wpAny (model X.prog X.w) X.A (spliced<|backTo p<|starEach es X.env) (AP X b a Q) X.xe s
def PS(X:Cx)(st:Stmt)(t:TS):=
 ∀(p:Kp) s (a:St) H D,Inv X p a H s->t D a H->wpAny (model X.prog X.w) X.A (exec st X.env) (SP X p D) X.xe s
def PSs(X:Cx)(st:List Stmt)(t:TS):=
 ∀(p:Kp) s (a:St) H D,Inv X p a H s->t D a H->wpAny (model X.prog X.w) X.A (execs st X.env) (SP X p D) X.xe s
def thn{M}{A}{E:Kv}{s}(h:wpAny M A t Q E s)(e:∀a s,Q a s->c a s):wpAny M A t c E s:=ZE h e λz z x=>x
def bh{α e:Type}{pz:Kp}{σ:St}{t}{R:α->e->Prop}{Q:α->Hp->Prop}{T}{E:Kv}(h:wpAny M A t (λu s1=>∃x H1,Inv X pz σ H1 s1/\R x u/\Q x H1) E s)(k:∀u s1 x H1,Inv X pz σ H1 s1->R x u->Q x H1->T u s1):wpAny M A t T E s:=
 thn h λu s1 z=>by let#[x,H1,a,b,c]:=z;exact k u s1 x H1 a b c
theorem un7{g f e i:Type}{B A Z:g->f->e->i->Prop}{C:Prop}(k:∀P F ρ d,B P F ρ d->A P F ρ d->Z P F ρ d->C)(h:∃P F ρ d,B P F ρ d/\A P F ρ d/\Z P F ρ d):C:=by grind
end L2
open PySem L2
variable{H H' P F':Hp}{X:Cx}{K:PySem.W.Frag}{s s':Shared}{σ:L2.St}{pos pos' p apos tpos cpos:Pos}{pz pl:List (Addr×Obj)}{a C f dx l:Addr}{A:Around}{E Q:Value->Shared->Prop}{e o c tg b iter value elt:Expr}{w:World}{x name m qual:Str}{u:Value}{i j t':Nat}{es ifs:List Expr}{y:V}{ta te tb tv td to:TE}{vs xs ys:List V}{us its:List Value}{prog:Program}{h base h':Heap}{scope:Scope}{ow ow':Addr->Prop}{CX:CXT}{ps N:List Str}{fd:FuncData}{sp:Sp}{env:Env}{mg mA:Str->Option Value}{st:Stmt}{body sts:List Stmt}{fp:List Addr}{tc:TT}{kw:List (Str×Value)}{cs:List (Str×Addr)}
namespace L2
open PySem PySem.Spec PyProof.Rows
section
def dM(i:Nat):TE:=λσ H Q=>∃v,σ[i]?=!!v/\Q v H
def tC(v:V):TE:=λz H Q=>Q v H
abbrev nDb(x:Str):=(x == ("__debug__"))=false
abbrev nDc(x:Str):=(x == ("__classdict__"))=false
def yd(hN:X.N[i]?=!x)(hv:Vis X.env.scope x)(hd:nDb x:=by decide)(hcd:nDc x:=by decide):PE X (.Name x pos) (dM i):=by
 intro p s f H Q I h;let#[v,e,h]:=h;let#[m,g,o]:=I.loc;let#[u,r,l]:=o i x v hN e hv;have fin:EP X p f Q u s:=#[v,H,I,r,h]
 rcases l with⟨hk,j⟩|⟨hk,c,b,a⟩
 .exact Up (VS I.ok.kind hk g j fin) hd
 .rcases hk with hk|hk
  .exact Up (wpAny_loadName_cell I.ok.kind hk b a fin) hd
  .exact Up (wpAny_loadName_free I.ok.kind hk b a fin hcd) hd
def JQ{i j pos}:PE X (.Constant (.int i) j pos) (tC (.int i)):=λz z z H z I h=>wpAny_Constant_int #[.int i,H,I.tok _,#[_,qx],h]
def Ng{b j pos}:PE X (.Constant (.bool b) j pos) (tC (.bl b)):=λz z z H z I h=>Constant_bool #[.bl b,H,I,qx,h]
def JJ{j pos}:PE X (.Constant .none j pos) (tC .non):=λz z z H z I h=>Constant_none #[.non,H,I,qx,h]
def yg{x j pos}:PE X (.Constant (.str x) j pos) (tC (.str x)):=λz z z H z I h=>Calls.Constant_str #[.str x,H,I.tok _,#[_,qx],h]
def Gl(X:Cx)(x:Str):=X.env.kindOf x=!.globalImplicit
def gB(I:Inv X pz σ H s)(b:Gl X x)(a:X.mg x=!u)(h:Q u s)(hd:nDb x:=by decide):wpAny (model X.prog X.w) X.A (eval (.Name x pos) X.env) Q E s:=
 Calls.Name_function_global I.ok.kind b (Calls.loadGlobal_global (by rw[I.ok.glob];exact I.mod.glob.keeps I.bk) a h) hd
def l_(I:Inv X pz σ H s)(c:Gl X x)(b:X.mg x=())(hv:bootBuiltins x=!u)(h:Q u s)(a:x ≠ "__name__":=by decide)(hd:nDb x:=by decide):wpAny (model X.prog X.w) X.A (eval (.Name x pos) X.env) Q E s:=by
 let#[m,f,e]:=I.mod.blt;exact Calls.Name_function_global I.ok.kind c (Calls.loadGlobal_builtin (by rw[I.ok.glob];exact I.mod.glob.keeps I.bk) b (by rw[I.ok.blt];exact f.keeps I.bk) ((e x a).trans hv) h) hd
def tY(b:Gl X x)(a:X.mg x=!u)(r:RelV v u)(hd:nDb x:=by decide):PE X (.Name x pos) (tC v):=
 λz z z H z I h=>gB I b a #[v,H,I,r,h] hd
def zz(c:Gl X x)(b:X.mg x=())(hv:bootBuiltins x=!u)(r:RelV v u)(a:x ≠ "__name__":=by decide)(hd:nDb x:=by decide):PE X (.Name x pos) (tC v):=
 λz z z H z I h=>l_ I c b hv #[v,H,I,r,h] a hd
variable{a:Expr}
def PC(X:Cx)(op:CmpOp)(a b:Expr)(t:TE):=
 ∀(p:Kp) s (f:St) H Q,Inv X p f H s->t f H Q->
  wpAny (model X.prog X.w) X.A (eval a X.env) (λv e=>wpAny (model X.prog X.w) X.A (eval b X.env) (λu c=>wpAny (model X.prog X.w) X.A (compareOp op v u) (EP X p f Q) X.xe c) X.xe e) X.xe s
def qF b(h:op≠.In)(h2:op≠.NotIn):behindInMarks op b=false:=by
 have a:(op == CmpOp.In)=false:=by cases op<;>first|rfl|exact absurd qx h
 have e:(op == CmpOp.NotIn)=false:=by cases op<;>first|rfl|exact absurd qx h2
 cases b<;>simp[behindInMarks,a,e]
instance (x:V):Decidable (x=.non):=by cases x<;>first|exact .isTrue rfl|exact .isFalse nofun
def NR(ta:TE):TE:=λa H Q=>ta a H λx b=>Q (.bl<|decide<|x=.non) b
def RelV.none_iff{x}(r:RelV x v):(v == Value.none)=decide (x=.non):=by
 cases x with
 |non=>cases r;rfl
 |bl _=>cases r;rfl
 |int _=>let#[t,rfl]:=r;rfl
 |str _=>let#[t,rfl]:=r;rfl
 |byt _=>let#[t,rfl]:=r;rfl
 |flt _=>let#[t,rfl]:=r;rfl
 |ref _=>cases r;rfl
 |ty _=>cases r;rfl
def JD{j pos'}(e:PE X a ta):PC X .Is a (.Constant .none j pos') (NR ta):=by intro p s b H Q I h;exact bh (e p s b H _ I h) λv i x g f c q=>?_;exact Constant_none<|is_none_gen #[.bl _,g,f,by rw[c.none_iff];rfl,q]
def tB(t:TE):TT:=λa H Q=>t a H λx b=>∃c,x=.bl c/\Q c b
def xz(h:PC X op a b t)(h1:behindInMarks op b=false:=by first|exact qF _ (by decide) (by decide)|rfl):PT X (.Compare a [op] [b] pos) (tB t):=by intro p s f H Q I j;exact wpAny_isTrue_Compare1 (thn (h p s f H _ I j) λv z h1=>thn h1 λu y l=>thn l λc w e=>?_) h1;let#[x,o,m,g,i]:=e;let#[d,rfl,q]:=i;cases g;exact ZH #[o,m,q]
def Jh(h:PE X e t)(he:∀w,isTrue e X.env w=(do let v <-w;standAt e.pos;holding [v] (truthy v)):=by intro _;rfl):PT X e (tB t):=by intro p s a H Q I f;exact isTrue_plain (bh (h p s a H _ I f) λv j x i g b c=>?_)<|he _;let#[d,rfl,q]:=c;cases b;exact ZH #[i,g,q]
variable{tA tB':TT}{bU:List Expr}
def Oj(t u:TT):TT:=λa H Q=>t a H λc b=>if c then u a b Q else Q false b
def tOr(t u:TT):TT:=λa H Q=>t a H λc b=>if c then Q true b else u a b Q
def Om(t:TT):TT:=λσ H Q=>t σ H λc H1=>Q ((not<|c)) H1
def FJ(f:PT X a tA):PW X (.BoolOp .And [a] pos) tA:=by
 intro w p s b H Q I h;exact isTrue_and<|thn (f p s b H Q I h) λc g e=>?_;cases c with
 |true=>exact isTrue_and_nil e
 |false=>exact e
def IU(f:PT X a tA):PW X (.BoolOp .Or [a] pos) tA:=by
 intro w p s b H Q I h;exact isTrue_or<|thn (f p s b H Q I h) λc g e=>?_;cases c with
 |false=>exact isTrue_or_nil e
 |true=>exact e
def JI(m:PT X a tA)(l:PW X (.BoolOp .And (b::bU) pos) tB'):PW X (.BoolOp .And (a::b::bU) pos) (Oj tA tB'):=by
 intro w p s f H Q I h;exact isTrue_and<|thn (m p s f H _ I h) λc j e=>?_;let#[i,g,q]:=e;cases c with
 |true=>exact l w p j f i Q g q
 |false=>exact#[i,g,q]
def LU(m:PT X a tA)(l:PW X (.BoolOp .Or (b::bU) pos) tB'):PW X (.BoolOp .Or (a::b::bU) pos) (tOr tA tB'):=by
 intro w p s f H Q I h;exact isTrue_or<|thn (m p s f H _ I h) λc j e=>?_;let#[i,g,q]:=e;cases c with
 |true=>exact#[i,g,q]
 |false=>exact l w p j f i Q g q
def KC(e:PT X a tA):PT X (.UnaryOp .Not a pos) (Om tA):=by intro p s b H Q I h;exact isTrue_not<|e p s b H _ I h
def MO(ta tb:TE):TE:=λa H Q=>ta a H λx b=>∃c,x=.bl c/\if c then tb a b Q else Q (.bl false) b
def Nh(ta:TE):TE:=λa H Q=>ta a H λx b=>∃c,x=.bl c/\Q (.bl<|(not<|c)) b
def KO{op}(h:PE X a t):PE X (.BoolOp op [a] pos) t:=λp s b H Q I c=>BoolOp_one<|h p s b H Q I c
def Lp(m:PE X a ta)(l:PE X (.BoolOp .And (b::bU) pos) tb):PE X (.BoolOp .And (a::b::bU) pos) (MO ta tb):=by
 intro p s e H Q I h;exact BoolOp_and<|bh (m p s e H _ I h) λv i x g f j q=>?_;let#[c,rfl,q]:=q;cases j;exact ZH ?_;cases c with
 |true=>exact l p i e g Q f q
 |false=>exact#[.bl false,g,f,qx,q]
def LD(f:PE X a ta):PE X (.UnaryOp .Not a pos) (Nh ta):=by intro p s b H Q I h;exact UnaryOp_<|bh (f p s b H _ I h) λv j x i g e q=>?_;let#[c,rfl,q]:=q;cases e;exact not_of<|ZH #[.bl<|(not<|c),i,g,qx,q]
def tIf(t:TT)(ta tb:TE):TE:=λa H Q=>t a H λc b=>if c then ta a b Q else tb a b Q
def Du(l:PT X c tA)(o:PE X a ta)(m:PE X b tb):PE X (.IfExp c a b pos) (tIf tA ta tb):=by
 intro p s e H Q I h;exact wpAny_IfExp<|thn (l p s e H _ I h) λd g f=>?_;let#[j,i,q]:=f;cases d with
 |true=>exact o p g e j Q i q
 |false=>exact m p g e j Q i q
end
def SqL(K:Kq)(H:Hp)(a:Addr)(xs:List V):=
 Rd H a (.lst xs) \/
  ∃(o:Obj) (i:Array Value) (n:Nat),K.lookup a=!o/\o.cls=.type "list"/\o.dict=()/\o.data=.seq i n/\i.size<=sizeLine/\Vals xs i.toList
def SqT(K:Kq)(H:Hp)(a:Addr)(xs:List V):=
 Rd H a (.tup xs) \/
  ∃(o:Obj) (i:Array Value) (n:Nat),K.lookup a=!o/\o.cls=.type "tuple"/\o.data=.seq i n/\i.size<=sizeLine/\Vals xs i.toList
def OJ:Value->Option V
 |.none=>!.non
 |.bool b=>some<|.bl b
 |.int i _=>some<|.int i
 |.str x _=>some<|.str x
 |.bytes b _=>some<|.byt b
 |.float b _=>some<|.flt b
 |.ref a=>some<|.ref a
 |.type n=>some<|.ty n
 |_=>()
def RelV.abs{x}(r:RelV x u):OJ u=!x:=by
 cases x with
 |non=>cases r;rfl
 |bl _=>cases r;rfl
 |int _=>let#[t,rfl]:=r;rfl
 |str _=>let#[t,rfl]:=r;rfl
 |byt _=>let#[t,rfl]:=r;rfl
 |flt _=>let#[t,rfl]:=r;rfl
 |ref _=>cases r;rfl
 |ty _=>cases r;rfl
def RelV.inj{x}(r:RelV x u)(q:RelV y u):x=y:=YG<|r.abs.symm.trans q.abs
def Vals.inj(h:Vals xs us):Vals ys us->xs=ys:=by
 induction h generalizing ys with
 |nil=>intro q;cases q;rfl
 |cons r _ ih=>
  intro q;cases q with
  |cons b a=>rw[r.inj b,ih a]
def SqL.of(h:H a=!.lst xs):SqL K H a xs:=.inl<|.inl h
def SqT.of(h:H a=!.tup xs):SqT K H a xs:=.inl<|.inl h
theorem Inv.list(I:Inv X pz σ H s)(h:SqL X.K H a xs):∃its:List Value,Vals xs its/\PlainL s.heap a its.toArray/\xs.length<=sizeLine:=by
 rcases h with h|⟨o,its,n,hk,hc,hd,hs,hz,r⟩
 .let#[z,its,n,r,e]:=h.ok I.hok;exact#[its,r,#[_,n,e,qx,qx,qx],z]
 .exact#[its.toList,r,#[o,n,I.kIn a o hk,hc,hd,by simpa using hs],?_];let e:=r.length;simp at e;lia
def Inv.tuple(I:Inv X pz σ H s)(h:SqT X.K H a xs):∃its:List Value,Vals xs its/\IsTup s.heap a its.toArray/\xs.length<=sizeLine:=by
 rcases h with h|⟨o,its,n,hk,hc,hs,hz,r⟩
 .let#[z,its,r,p,_]:=h.ok I.hok;exact#[its,r,p,z]
 .exact#[its.toList,r,#[o,I.kIn a o hk,hc,n,by simpa using hs],?_];let e:=r.length;simp at e;lia
def Inv.list_inj(I:Inv X pz σ H s)(h:SqL X.K H a xs)(h':SqL X.K H a ys):xs=ys:=by
 let#[b,r,#[o,n,e,_,_,d],_]:=I.list h;let#[i,g,#[j,l,c,_,_,f],_]:=I.list h';rw[e]at c;cases c;rw[d]at f;injection f with d1 _;have:b=i:=by simpa using YW Array.toList d1
 subst this;exact r.inj g
def Inv.tuple_inj(I:Inv X pz σ H s)(h:SqT X.K H a xs)(h':SqT X.K H a ys):xs=ys:=by
 let#[b,r,#[o,e,_,n,d],_]:=I.tuple h;let#[i,g,#[j,c,_,l,f],_]:=I.tuple h';rw[e]at c;cases c;rw[d]at f;injection f with d1 _;have:b=i:=by simpa using YW Array.toList d1
 subst this;exact r.inj g
noncomputable abbrev Cx.wish(X:Cx)(E:Kv):={X with xe:=E}
noncomputable abbrev Cx.nox(X:Cx):=X.wish λz z=>False
def Cx.Ok.wish(ok:X.Ok)E:(X.wish E).Ok:=
 #[ok.mod,ok.kind,ok.glob,ok.blt,ok.above,ok.inj,ok.has,ok.cab,ok.hd,ok.frames,ok.stk,ok.exf,ok.bs,ok.bsz,ok.noex,ok.exfs,ok.funs,ok.frf,ok.tab]
def Cx.Ok.unwish(ok:(X.wish E).Ok):X.Ok:=
 #[ok.mod,ok.kind,ok.glob,ok.blt,ok.above,ok.inj,ok.has,ok.cab,ok.hd,ok.frames,ok.stk,ok.exf,ok.bs,ok.bsz,ok.noex,ok.exfs,ok.funs,ok.frf,ok.tab]
def Inv.wish(I:Inv X pz σ H s)E:Inv (X.wish E) pz σ H s:=#[I.ok.wish E,I.os,I.bare,I.base,I.loc,I.cell,I.free,I.freeC,I.pin,I.hok,I.len]
def Inv.unwish(I:Inv (X.wish E) pz σ H s):Inv X pz σ H s:=#[I.ok.unwish,I.os,I.bare,I.base,I.loc,I.cell,I.free,I.freeC,I.pin,I.hok,I.len]
def SP.unwish{f}(h:SP (X.wish E) pz D f s'):SP X pz D f s':=by
 cases f with
 |next=>let#[a,H,I,q]:=h;exact#[a,H,I.unwish,q]
 |brk=>let#[a,H,I,q]:=h;exact#[a,H,I.unwish,q]
 |cont=>let#[a,H,I,q]:=h;exact#[a,H,I.unwish,q]
 |ret u=>let#[v,a,H,I,r,q]:=h;exact#[v,a,H,I.unwish,r,q]
def PSs.nox{st}(h:PSs X.nox st t):PSs X st t:=λp s a H D I b=>
 ZE (h p s a H D (I.wish _) b) (λy y q=>q.unwish) λy y z=>False.elim z
section
variable{bU:List Stmt}{t u:TS}
def LO:TS:=λD σ H=>D.nx σ H
def OC(t u:TS):TS:=λD σ H=>t {D with nx:=u D} σ H
def zc:PSs X [] LO:=λz z σ H z I h=>VX #[σ,H,I,h]
def vo(h1:PS X st t)(h2:PSs X bU u):PSs X (st::bU) (OC t u):=by
 intro p s b H D I h;exact wpAny_execs_cons<|thn (h1 p s b H {D with nx:=u D} I h) λf c q=>?_;cases f with
 |next=>
  let#[a,g,e,q]:=q;exact h2 p c a g D e q
 |ret v=>exact q
 |brk=>exact q
 |cont=>exact q
def tQ(h1:PS X st t):PSs X [st] t:=by
 intro p s a H D I h;exact wpAny_execs_cons<|thn (h1 p s a H D I h) λf b q=>?_;cases f with
 |next=>exact VX q
 |ret v=>exact q
 |brk=>exact q
 |cont=>exact q
def Inv.quiet(I:Inv X pz σ H s):interactive X.env=false:=by simp[interactive,I.ok.kind]
def LV(te:TE):TS:=λD σ H=>te σ H λz H1=>D.nx σ H1
def iP(he:PE X e te)(hs:swapsWith e () pos.line X.env=pure false:=by rfl):PS X (.Expr e pos) (LV te):=by intro p s a H D I h;exact wpAny_Expr_any (bh (he p s a H _ I h) λv f x c b g q=>#[a,c,b,q]) I.quiet hs
def OH(te:TE):TS:=λD σ H=>te σ H D.rt
def pJ(he:PE X e te):PS X (.Return (!e) pos) (OH te):=by intro p s a H D I h;exact wpAny_Return_some<|bh (he p s a H _ I h) λv g x f c b q=>#[x,a,f,c,b,q]
def OL(c:TT)(t u:TS):TS:=λD a H=>c a H λb e=>if b then t D a e else u D a e
def Iz{a b}(l:PT X c tc)(o:PSs X a t)(m:PSs X b u):PS X (.If c a b pos) (OL tc t u):=by
 intro p s e H D I h;exact wpAny_If<|thn (l p s e H _ I h) λd g f=>?_;let#[j,i,q]:=f;cases d with
 |true=>exact o p g e j D i q
 |false=>exact m p g e j D i q
def D1:TS:=λz z z=>False
def EV:PS X st D1:=λz z z z z z h=>h.elim
def Bw:PSs X sts D1:=λz z z z z z h=>h.elim
end
abbrev TG:=V->St->Hp->(St->Hp->Prop)->Prop
abbrev TGs:=List V->St->Hp->(St->Hp->Prop)->Prop
def PG(X:Cx)(a:Expr)(t:TG):=
 ∀(p:Kp) s (c:St) H v u Q,Inv X p c H s->RelV v u->t v c H Q->
  wpAny (model X.prog X.w) X.A (assign a X.env u) (λz f=>∃b e,Inv X p b e f/\Q b e) X.xe s
def PGs(X:Cx)(ts:List Expr)(t:TGs):=
 ∀(p:Kp) s (b:St) H c u Q,Inv X p b H s->Vals c u->t c b H Q->
  wpAny (model X.prog X.w) X.A (assignInOrder ((assignEach ts X.env).map (·.2)) u) (λz f=>∃a e,Inv X p a e f/\Q a e) X.xe s
abbrev Ln:=V->V->V->Hp->(Hp->Prop)->Prop
def Mx(X:Cx)(t:Ln):=
 ∀(p:Kp) s (a:St) H o i v b c u Q,Inv X p a H s->RelV o b->RelV i c->RelV v u->t o i v H Q->
  wpAny (model X.prog X.w) X.A (setItem b c u) (λz f=>∃e,Inv X p a e f/\Q e) X.xe s
abbrev TIp:=V->V->Hp->VK->Prop
def PIp(X:Cx)(op:Operator)(t:TIp):=
 ∀(p:Kp) s (a:St) H x y v u Q,Inv X p a H s->RelV x v->RelV y u->t x y H Q->
  wpAny (model X.prog X.w) X.A (inplaceOp op v u) (EP X p a Q) X.xe s
def ng(i:Nat):TG:=λv σ H Q=>Q (σ.set i<|!v) H
def yB(hN:X.N.Nodup)(hi:X.N[i]?=!x)(hx:Loc X.env.scope x)(a:FnL X x:=by trivial):PG X (.Name x pos) (ng i):=by intro p s c H v u Q I r h;exact wpAny_assign_Name<|lK I hN hi hx r (λe b=>#[_,H,b,h]) a
def LH:TGs:=λvs σ H Q=>vs=[]/\Q σ H
def IB(t:TG)(u:TGs):TGs:=λc b H Q=>∃v r,c=v::r/\t v b H λa e=>u r a e Q
def jL:PGs X [] LH:=by intro p s a H b u Q I r h;let#[e,h]:=h;subst e;exact assignInOrder_nil #[a,H,I,h]
def cb{u}(h1:PG X e t)(h2:PGs X es u)(hs:(assignEach (e::es) X.env).map (·.2)=assign e X.env::(assignEach es X.env).map (·.2):=by rfl):PGs X (e::es) (IB t u):=by
 intro p s c H m w Q I r h;let#[v,o,i,h]:=h;subst i;cases r with
 |cons r g=>
  rw[hs];exact assignInOrder_cons<|thn (h1 p s c H _ _ _ I r h) λz f b=>?_;let#[a,l,j,q]:=b;exact h2 p f a l _ _ Q j g q
def Ol(K:Kq)(n:Nat)(t:TGs):TG:=λv b H Q=>∃a x,v=.ref a/\SqT K H a x/\x.length=n/\t x b H Q
def Kk{k}(z:X.calm)(h:PGs X es t)(w:(assignEach es X.env).length=n:=by rfl)(f:(assignEach es X.env).findIdx? (·.1)=():=by rfl):PG X (.Tuple es k pos) (Ol X.K n t):=by
 intro p s g H v u Q I r c;let#[a,x,B,q,y,c]:=c;subst B;cases r;let#[j,i,m,E]:=I.tuple q;exact assign_Tuple_tuple (I.ok.hd z) m (by simp[w,<-y,i.length]) f λA l=>?_;let C:=I.kept (t':=s.toks) λb o e=>l b o (Yy<|Yv e) e
 exact h p _ g H x _ Q C (by simpa using i) c
def OI(to b:TE)(t:Ln):TG:=λv a H Q=>to a H λo f=>b a f λi e=>t o i v e λc=>Q a c
def LB{i}{f}(A:PE X o to)(hi:PE X i f)(hs:Mx X t)(B:∀v,assign (.Subscript o i pos) X.env v=(do
   let a <-holding [v]<|eval o X.env
   let b <-holding [v,a]<|eval i X.env
   standAt pos
   holding [v,a,b]<|setItem a b v
   release [v,a,b] []):=by intro _;rfl):PG X (.Subscript o i pos) (OI to f t):=by
 intro p s c H v u Q I r h;rw[B];exact Yd<|Zs<|bh (A p s c H _ I h) λa j x M J m z=>?_;exact Yd<|Zs<|bh (hi p j c M _ J z) λb g y L E l w=>?_;exact Yd<|wpAny_standAt<|Yd<|Zs<|thn (hs p g c L x y v a b u _ E m l r w) λn N e=>?_;let#[K,C,q]:=e;exact wpAny_release #[c,K,C,q]
def DK(te:TE)(g:TG):TS:=λD a H=>te a H λx b=>g x a b D.nx
def Lk(he:PE X e te)(i:PG X tg g)(hs:swapsWithSole [tg] e pos.line X.env=pure false:=by rfl)(hw:swappedStores [tg] e X.env=pure ():=by rfl)(h1:(assignEach [tg] X.env).map (·.2)=[assign tg X.env]:=by rfl):PS X (.Assign [tg] e pos) (DK te g):=by
 intro p s a H D I h;exact wpAny_Assign_stores (bh (he p s a H _ I h) λv b x l j c f=>?_) hs hw;rw[h1];exact thn (i p b a l x v _ j c f) λz m q=>q
def uL(hN:X.N.Nodup)(hi:X.N[i]?=!x)(hx:Loc X.env.scope x)(he:PE X e te)(hs:swapsWith e (!.Name x pos') pos.line X.env=pure false:=by rfl)(c:FnL X x:=by trivial):PS X (.Assign [.Name x pos'] e pos) (DK te<|ng i):=by
 intro p s a H D I h;exact wpAny_Assign_Name (bh (he p s a H _ I h) λv m y j g b q=>?_) hs;exact lK g hN hi hx b (λl f=>#[_,j,f,q]) c
def OF(i:Nat)(te:TE)(b:TIp):TS:=λD a H=>∃x,a[i]?=!!x/\te a H λy e=>b x y e λz c=>D.nx (a.set i<|!z) c
def Lq{o}(hN:X.N.Nodup)(hi:X.N[i]?=!x)(hx:Loc X.env.scope x)(he:PE X e te)(L:PIp X op o)(Q:FnL X x:=by trivial):PS X (.AugAssign (.Name x pos') op e pos) (OF i te o):=by
 intro p s j H D I h;let#[v,S,h]:=h;let#[m,M,P]:=I.loc;have g:Vis X.env.scope x:=by rcases hx with k|k;exact .inl k;exact .inr<|.inl k
 let#[u,r,l]:=P i x v hi S g;exact wpAny_AugAssign_Name ?_;have q:wpAny (model X.prog X.w) X.A (eval e X.env) (λw f=>wpAny (model X.prog X.w) X.A (inplaceOp op u w) (λr b=>wpAny (model X.prog X.w) X.A (storeName X.env x r) (λz=>SP X p D .next) X.xe b) X.xe f) X.xe s:=by exact bh (he p s j H _ I h) λw B y H1 Y E K=>?_;exact bh (L p B j H1 v y u w _ Y r E K) λz s2 zv Z U C J=>?_;exact lK U hN hi hx C (λs3 T=>#[_,Z,T,J]) Q
 rcases l with⟨hk,O⟩|⟨hk,c,R,a⟩
 .exact wpAny_loadName_local I.ok.kind hk M O q
 .rcases hk with hk|hk
  .exact wpAny_loadName_cell I.ok.kind hk R a q
  .rcases hx with k|k
   .have:X.env.scope.names.lookup x=!.free:=hk;rw[k]at this;cases this
   .have:X.env.scope.names.lookup x=!.free:=hk;rw[k]at this;cases this
def ipI(f:Int->Int->Int):TIp:=λx y H Q=>∃i j,x=.int i/\y=.int j/\Q (.int<|f i j) H
def Jm:PIp X .Add (ipI λi j=>i+j):=by intro p s f H x y v u Q I b a h;let#[i,j,c,e,q]:=h;subst c;subst e;let#[t,rfl]:=b;let#[g,rfl]:=a;exact iadd_int #[.int _,H,I.tok _,#[_,qx],q]
def KP(c:TT)(tb:TS):TS:=λD a H=>∃W:Nat->St->Hp->Prop,(∃m,W m a H)/\∀m a H,W m a H->
 c a H λb g=>if b then ∃N:St->Hp->Prop,(∀e h,N e h->∃f,f < m/\W f e h)/\tb {D with nx:=N,ct:=N,bk:=D.nx} a g else D.nx a g
def Ew{tb}(z:PassesOwn (model X.prog X.w) X.A X.env X.xe)(T:PT X c tc)(U:PSs X body tb):PS X (.While c body [] pos) (KP tc tb):=by
 intro p s L H D I h;let#[W,#[S,O],i]:=h;exact wpAny_While<|codeAny_whileLoop (λn R=>∃g K,Inv X p g K R/\W n g K) ?_ S #[L,H,I,O];rintro n Q ⟨e,J,Y,M⟩;exact Xv z<|thn (T p Q e J _ Y<|i n e J M) λb P x=>?_;let#[E,C,l]:=x;cases b with
 |true=>
  let#[N,B,l]:=l;exact Xv z<|thn (U p P e E _ C l) λf Z q=>?_;cases f with
  |next=>
   let#[a,j,y,n3]:=q;let#[o,u,m]:=B a j n3;exact#[o,u,a,j,y,m]
  |cont=>
   let#[a,j,y,n3]:=q;let#[o,u,m]:=B a j n3;exact#[o,u,a,j,y,m]
  |brk=>exact q
  |ret v=>exact q
 |false=>
  exact VX #[e,E,C,l]
structure It where
 go:Nat->Hp->Prop
 yld:Nat->Hp->V->Hp->Prop
 stop:Nat->Hp->Prop
def kt(X:Cx)(pz:Kp)(H:Hp)(b:Addr):=
 H b=()/\b≠X.env.locals/\b∉X.fs/\(b∈X.ex\/X.s₀.heap.objs.size<=b)/\(∀x c,X.env.cells.lookup x=!c->c≠b)/\∀p∈X.pn++pz,p.1≠b
def Inv.fpOk{b:Addr}(I:Inv X pz σ H s)(h:s.heap.objs.size<=b)(f:H' b=()):kt X pz H' b:=by
 exact#[f,Xc<|YA I.lt h,I.nofs h,.inr<|YF I.sz h,λx c e z=>?_,λp a z=>?_]
 .let#[v,q]:=I.cell x c e;exact absurd (YA q.lt<|by rwa[z])<|Zh _
 .exact absurd (YA (Yv (I.pin p a).1)<|by rwa[z])<|Zh _
structure Turn (P:Program) (w:World) (K:PySem.W.Frag) (tg:Expr) (J:It) (fp:List Addr) (it:Addr) (tn:Nat->Heap->Prop):Prop where
 mem:it∈fp
 obj:∀i h,tn i h->∀b∈fp,∃o,h.get? b=!o/\∀v,o.data≠.cell v
 keep:∀i h h',tn i h->(∀b∈fp,∀o,h.get? b=!o->h'.get? b=!o)->tn i h'
 item:∀(X:Cx),X.prog=P->X.w=w->X.K=K->X.calm=true->∀(i:Nat) (pz:Kp) (s:Shared) (σ:St) (H:Hp) (E:Kv),Inv X pz σ H s->(∀b∈fp,kt X pz H b)->tn i s.heap->J.go i H->
  wpAny (model P w) X.A (pyNext (.ref it)) (λr s1=>∃u,r=!u /\
   wpAny (model P w) X.A (letOwnedTupleGo tg (.ref it) u) (λ_ s2=>∃x H',Inv X pz σ H' s2/\RelV x u/\J.yld i H x H'/\tn (i+1) s2.heap/\∀b∈fp,H' b=none) E s1) E s
 done:∀(X:Cx),X.prog=P->X.w=w->X.K=K->X.calm=true->∀(i:Nat) (pz:Kp) (s:Shared) (σ:St) (H:Hp) (E:Kv),Inv X pz σ H s->(∀b∈fp,kt X pz H b)->tn i s.heap->J.stop i H->
  wpAny (model P w) X.A (pyNext (.ref it)) (λr s1=>r=none/\Inv X pz σ H s1) E s
 self:∀(A:Around) (i:Nat) (s:Shared) (Q:Kv) (E:Kv),tn i s.heap->Q (.ref it) s->wpAny (model P w) A (pyIter (.ref it)) Q E s
abbrev TI:=St->Hp->(It->Hp->Prop)->Prop
def PIE(X:Cx)(pz:Kp)(σ:St)(tg:Expr)(R:It->Hp->Prop)(i:Value)(s2:Shared):=
 ∃(c:Addr) (f:List Addr) (a:Nat->Heap->Prop) (J:It) (H:Hp),i=.ref c/\Inv X pz σ H s2/\Turn X.prog X.w X.K tg J f c a/\a 0 s2.heap/\(∀b∈f,kt X pz H b)/\R J H
def PI(X:Cx)(tg iter:Expr)(wi:TI):=
 ∀(p:Kp) s (a:St) H R,Inv X p a H s->wi a H R->
  wpAny (model X.prog X.w) X.A (eval iter X.env) (λv b=>wpAny (model X.prog X.w) X.A (pyIter v) (PIE X p a tg R) X.xe b) X.xe s
def Ag{o}{vs}{Q}(b:s.heap.get? it=!o)(e:o.cls=.type n)(hd:o.data=.fields vs)(c:["enumerate","zip","dict_itemiterator","dict_reverseitemiterator","odict_iterator","itertools.zip_longest","itertools.pairwise"].contains n=false)(a:Q PUnit.unit s):wpAny M A (letOwnedTupleGo tg (.ref it) u) Q E s:=by
 delta letOwnedTupleGo;cases tg<;>first
  |exact Yi a
  |(cases u<;>first
    |exact Yi a
    |(
     exact Yd<|wpAny_load b ?_;rw[e,hd];show wpAny M A (if(["enumerate","zip","dict_itemiterator","dict_reverseitemiterator","odict_iterator","itertools.zip_longest","itertools.pairwise"].contains n&&vs[0]? == !rawInt _) then _ else _) Q E s;rw[Ym<|by intro h;rw[c,XX]at h;cases h];exact Yi a))
def Itl(K:Kq)(a:Addr):It:=
 #[λi H=>∃b x,SqL K H a b/\b[i]?=!x,λi H x c=>c=H/\∀b,SqL K H a b->b[i]?=!x,λi H=>∃b,SqL K H a b/\b.length<=i]
def Itt(K:Kq)(a:Addr):It:=
 #[λi H=>∃b x,SqT K H a b/\b[i]?=!x,λi H x c=>c=H/\∀b,SqT K H a b->b[i]?=!x,λi H=>∃b,SqT K H a b/\b.length<=i]
def Itr(lo:Int)(n:Nat):It:=#[λi z=>i<n,λi H x a=>a=H/\x=.int (lo+i),λi z=>n<=i]
theorem AR{P}a it:Turn P w K tg (Itl K a) [it] it (λi h=>h.IsListIter it a i) where
 mem:=by simp
 obj:=λi h f b g=>by
  have e:b=it:=by simpa using g
  subst e;let#[o,e,c,d]:=f;exact#[o,e,λv z=>by rw[d]at z;cases z]
 keep:=λi h q f k=>f.at λo e=>k it (by simp) o e
 item:=by intro X L C M Y i U s T H E I m f J;subst L C M;let#[Z,x,l,B]:=J;let#[A,y,p,hz]:=I.list l;let#[u,hu,ru]:=y.get B;let#[S,R,f2,Q,O,N]:=m it (by simp);exact wpAny_pyNext_list_item f p.isList (by simpa using hu) λq j sb=>?_;let I1:=I.turned (t':=s.toks) (λb o g e=>(sb.2 b g).trans e) S R Q O N;let#[o,e,c,d]:=id j;exact#[u,qx,Ag e c d (by decide) #[x,H,I1,ru,#[rfl,λys hy=>by rwa[I.list_inj hy l]],j,λb g=>(m b g).1]]
 done:=by intro X L C M Y i U s T H E I m f J;subst L C M;let#[Z,l,B]:=J;let#[A,y,p,hz]:=I.list l;let#[S,R,f2,Q,O,N]:=m it (by simp);let hl:=y.length;exact wpAny_pyNext_list_end (I.ok.hd Y) f p.isList (by simp;lia) λq eb=>#[qx,I.turned (λb o g e=>eb b o g e) S R Q O N]
 self:=λv v v v v f h=>wpAny_pyIter_listiter f h
theorem wW{P}a it:Turn P w K tg (Itt K a) [it] it (λi h=>h.IsTupleIter it a i) where
 mem:=by simp
 obj:=λi h f b j=>by
  have e:b=it:=by simpa using j
  subst e;let#[o,e,c,d]:=f;exact#[o,e,λv z=>by rw[d]at z;cases z]
 keep:=λi h y f k=>f.at λo e=>k it (by simp) o e
 item:=by intro X L C M Y i U s T H E I q f J;subst L C M;let#[Z,x,m,B]:=J;let#[g,A,p,hz]:=I.tuple m;let#[u,hu,ru]:=A.get B;let#[S,R,f2,Q,O,N]:=q it (by simp);exact wpAny_pyNext_tuple_item f (show s.heap.IsTuple a g.toArray from p) (by simpa using hu) λy l sb=>?_;let I1:=I.turned (t':=s.toks) (λb o j e=>(sb.2 b j).trans e) S R Q O N;let#[o,e,c,d]:=id l;exact#[u,qx,Ag e c d (by decide) #[x,H,I1,ru,#[rfl,λys hy=>by rwa[I.tuple_inj hy m]],l,λb j=>(q b j).1]]
 done:=by intro X L C M Y i U s T H E I q f J;subst L C M;let#[Z,m,B]:=J;let#[g,A,p,hz]:=I.tuple m;let#[S,R,f2,Q,O,N]:=q it (by simp);let hl:=A.length;exact wpAny_pyNext_tuple_end (I.ok.hd Y) f (show s.heap.IsTuple a g.toArray from p) (by simp;lia) λy eb=>#[qx,I.turned (λb o j e=>eb b o j e) S R Q O N]
 self:=λv v v v v f h=>wpAny_pyIter_tupleiter f h
theorem yf{P}it lo n:Turn P w K tg (Itr lo n) [it] it (λi h=>IsRangeIter h it (lo+i*1) (n-i) 1) where
 mem:=by simp
 obj:=λi h a b c=>by
  have e:b=it:=by simpa using c
  subst e;exact#[_,a,λv z=>by
   let N:=z;cases N]
 keep:=λi h j a k=>k it (by simp) _ a
 item:=by intro X q l u p i M s J H E I g a m;subst q l u;let#[C,B,R,A,y,x]:=g it (by simp);let W:=Walks.range (prog:=X.prog) (w:=X.w) (I.ok.hd p) it lo 1 n;exact W.item i s _ _ m a λv j L Q f O=>?_;let#[t,rfl]:=Q;have T:Inv X M J H {s with heap:=j,toks:=L}:=I.turned (λb o c e=>O b o (by simpa using c) e) C B A y x;exact#[_,qx,Ag (n := "range_iterator") f qx qx (by decide) #[.int<|lo+i,H,T,#[t,?_],#[rfl,rfl],f,λb c=>(g b c).1]];rw[Int.mul_one]
 done:=by intro X q l u p i M s J H E I g a m;let#[C,B,R,A,y,x]:=g it (by simp);exact wpAny_pyNext_range_end (I.ok.hd p) a (by have:n<=i:=m;lia) λj S=>#[qx,I.turned (λb o c e=>S b o c e) C B A y x]
 self:=λv v v v v a h=>wpAny_pyIter_rangeiter a h
def Ms(K:Kq)(tl:TE):TI:=λc H R=>tl c H λx b=>∃a,x=.ref a/\(∃e,SqL K b a e)/\R (Itl K a) b
def OE(K:Kq)(tl:TE):TI:=λc H R=>tl c H λx b=>∃a,x=.ref a/\(∃e,SqT K b a e)/\R (Itt K a) b
def tm{l}(y:PE X l tl):PI X tg l (Ms X.K tl):=by
 intro m s g H R I h;exact bh (y m s g H _ I h) λv c x A f i j=>?_;let#[a,e,#[B,w],q]:=j;subst e;cases i;let#[u,C,p,E]:=f.list w;exact Vx p.isList ?_;exact#[c.heap.objs.size,[c.heap.objs.size],_,_,A,qx,f.kept λb o e=>Yf _ e,AR a _,#[_,Ys _ rfl,rfl,rfl],λb z=>?_,q];have e:b=c.heap.objs.size:=by simpa using z
 subst e;exact f.fpOk (Yp _)<|f.hok.fresh<|Yp _
def JU{l}(y:PE X l tl):PI X tg l (OE X.K tl):=by
 intro u s g H R I h;exact bh (y u s g H _ I h) λv c x A f j m=>?_;let#[a,e,#[B,w],q]:=m;subst e;cases j;let#[i,C,p,E]:=f.tuple w;exact wpAny_pyIter_tuple (show c.heap.IsTuple a i.toArray from p) ?_;exact#[c.heap.objs.size,[c.heap.objs.size],_,_,A,qx,f.kept λb o e=>Yf _ e,wW a _,#[_,Ys _ rfl,rfl,rfl],λb z=>?_,q];have e:b=c.heap.objs.size:=by simpa using z
 subst e;exact f.fpOk (Yp _)<|f.hok.fresh<|Yp _
theorem wk{lo hi}{t u v}(I:Inv X pz σ H s)(h1:-(2^62)<=lo)(h2:lo<2^62)(f:-(2^62)<=hi)(c:hi<2^62)(q:R (Itr lo (hi-lo).toNat) H):wpAny (model X.prog X.w) X.A (pyIter<|.ref s.heap.objs.size) (PIE X pz σ tg R) E {s with heap:=s.heap.push {cls:=.type "range",data:=.fields #[[.int lo t,.int hi u,.int 1 v]]},toks:=tk}:=by
 exact wpAny_pyIter_range (IsRange.new ..) (small_one h1 h2 f c) ?_;have a:Inv X pz σ H {s with heap:=s.heap.push {cls:=.type "range",data:=.fields #[[.int lo t,.int hi u,.int 1 v]]},toks:=tk}:=I.kept λb o e=>Yf _ e
 exact#[(s.heap.push {cls:=.type "range",data:=.fields #[[.int lo t,.int hi u,.int 1 v]]}).objs.size,[(s.heap.push {cls:=.type "range",data:=.fields #[[.int lo t,.int hi u,.int 1 v]]}).objs.size],_,_,H,qx,
  a.kept λb o e=>Yf _ e,yf _ lo (hi-lo).toNat,?_,λb h=>?_,q]
 .have i:lo+((0:Nat))*1=lo:=by simp
  have g:(((hi-lo).toNat))-((0:Nat))=Builtin.Range.rangeSize lo hi 1:=by rw[rangeSize_one];split<;>lia
  rw[i,g];exact Ys _ qx
 .have e:b=(s.heap.push {cls:=.type "range",data:=.fields #[[.int lo t,.int hi u,.int 1 v]]}).objs.size:=by simpa using h
  subst e;exact a.fpOk (Yp _)<|a.hok.fresh<|Yp _
def L7(ta:TA):TI:=λa H R=>ta a H λb c=>∃j:Int,b=[.int j]/\-(2^62)<=j/\j<2^62/\R (Itr 0 j.toNat) c
def Nc(ta:TA):TI:=λa H R=>ta a H λb c=>∃i j:Int,b=[.int i,.int j]/\(-(2^62)<=i/\i<2^62/\-(2^62)<=j/\j<2^62)/\R (Itr i (j-i).toNat) c
theorem AJ{a}{ta}(o:Gl X "range")(m:X.mg "range"=())(u:PA X [a] ta)(hs:starEach [a] X.env=[(false,eval a X.env)]:=by rfl):PI X tg (.Call (.Name "range" p) [a] [] pos) (L7 ta):=by
 intro l s c H R I h;exact Call_<|l_ I o m boot_range<|Xm (bh (u pos l s c H _ I h) λy z x A w g b=>?_) hs qx;let#[j,e,b,i,q]:=b;subst e;cases g with
 |cons r f=>
  cases f;let#[t,rfl]:=r;exact call_range_1<|wk w (by lia) (by lia) b i<|by simpa using q
def Ay{a}{ta}(A:Gl X "range")(z:X.mg "range"=())(B:PA X [a,b] ta)(hs:starEach [a,b] X.env=[(false,eval a X.env),(false,eval b X.env)]:=by rfl)(c:starEach [b] X.env=[(false,eval b X.env)]:=by rfl):PI X tg (.Call (.Name "range" p) [a,b] [] pos) (Nc ta):=by
 intro y s l H R I h;exact Call_<|l_ I A z boot_range<|Xm (bh (B pos y s l H _ I h) λJ L E M C m g=>?_) (by rw[hs,c]) (by rw[c];rfl);let#[i,j,e,#[g,x,w,u],q]:=g;subst e;cases m with
 |cons r f=>
  cases f with
  |cons o f=>
   cases f;let#[t,rfl]:=r;let#[K,rfl]:=o;exact call_range_2<|wk C g x w u q
def N2(wi:TI)(g:TG)(tb:TS):TS:=λD a H=>wi a H λJ j=>∃W:Nat->Nat->St->Hp->Prop,(∃m,W 0 m a j)/\∀i m a H,W i m a H->
 (J.stop i H/\D.nx a H)\/(J.go i H/\∃N:St->Hp->Prop,(∀b c,N b c->∃f,f < m/\W (i+1) f b c)/\∀x c,J.yld i H x c->g x a c λe h=>tb {D with nx:=N,ct:=N,bk:=D.nx} e h)
def o_(fp:List Addr)(h:Heap):=fp.filterMap λb=>(h.get? b).map λo=>(b,o)
def ip{b}{o}(a:b∈fp)(e:h.get? b=!o):(b,o)∈o_ fp h:=ZQ.mpr #[b,a,by rw[e];rfl]
theorem BC{p}(a:p∈o_ fp h):p.1∈fp/\h.get? p.1=!p.2:=by
 let#[b,c,e]:=ZQ.mp a;cases q:h.get? b with
 |none=>rw[q]at e;cases e
 |some o=>
  rw[q]at e;grind
theorem Inv.pinned(I:Inv X pz σ H s)(g:∀b∈fp,kt X pz H b)(f:∀b∈fp,∃o,s.heap.get? b=!o/\∀v,o.data≠.cell v):Inv X (pz++o_ fp s.heap) σ H s:=
 I.pins_of λp c=>(Zc.mp c).elim (λz=>I.pin p<|YE _ z) λz=>by
  let#[h,e]:=BC z;let#[l,j,i,_]:=g p.1 h;grind
def Inv.unpinned(I:Inv X (pz++pl) σ H s):Inv X pz σ H s:=I.pins_of λp h=>I.pin p<|YE _<|YL _ h
abbrev FsI(e:Expr)(X:Cx):=∀x,foldedSetIterable e X.env x=pure x
def Ly{tb}(R:PassesOwn (model X.prog X.w) X.A X.env X.xe)(hc:X.calm)(hi:PI X tg iter wi)(hg:PG X tg g)(p:PSs X body tb)(hs:FsI iter X:=by intro _;rfl):PS X (.For tg iter body [] pos) (N2 wi g tb):=by
 intro K s σ H D I h;exact wpAny_For (thn (hi K s σ H _ I h) λv s1 h1=>thn h1 λitv s2 h2=>?_) hs;let#[it,U,tn,J,H2,e,I2,T,st2,f2,W,#[m0,w0],M]:=h2;subst e
 have l:∀{B},(∀b∈U,B b=())->∀b∈U,kt X K B b:=λhn b p=>#[hn b p,(f2 b p).2]
 exact codeAny_forLoop_any (λn s'=>∃i j B,Inv X K j B s'/\tn i s'.heap/\(∀b∈U,B b=())/\W i n j B) ?_ m0 #[0,σ,H2,I2,st2,λb p=>(f2 b p).1,w0];rintro n s3 ⟨i,c,Y,I3,P,S,w3⟩;rcases M i n c Y w3 with⟨O,qn⟩|⟨go,N,hN,step⟩
 .exact Xv R<|thn (T.done X qx qx qx hc i K s3 c Y X.xe I3 (l S) P O) λr s4 #[hr,I4]=>?_;subst hr;exact VX #[c,Y,I4,qn]
 .exact Xv R<|thn (T.item X qx qx qx hc i K s3 c Y X.xe I3 (l S) P go) λr s4 #[u,hr,h4]=>?_;subst hr;exact Xv R<|thn h4 λt s5 L=>?_;let#[x,H5,I5,r5,y5,E,fr5]:=L;let I5':=I5.pinned (l fr5)<|T.obj _ _ E;exact Xv R<|thn (hg _ s5 c H5 x u _ I5' r5<|step x H5 y5) λt s6 L=>?_;let#[Z,H6,I6,q6]:=L;exact Xv R<|thn (p _ s6 Z H6 _ I6 q6) λf s7 C=>?_;have q:∀{a}{z},Inv X _ a z s7->N a z->∃m,m<n/\∃i j B,Inv X K j B s7/\tn i s7.heap/\(∀b∈U,B b=())/\W i m j B:=λ{a z} y Q=>by
   let#[m',hm,w7]:=hN a z Q;exact#[m',hm,i+1,a,z,y.unpinned,T.keep _ _ _ E λb p o e=>(y.pin (b,o)<|YE _<|YE _<|ip p e).1,λb p=>?_,w7];let#[o,e,d]:=T.obj _ _ E b p;exact(y.pin (b,o)<|YE _<|YE _<|ip p e).2.1
  cases f with
  |next=>let#[a,z,y,Q]:=C;exact q y Q
  |cont=>let#[a,z,y,Q]:=C;exact q y Q
  |brk=>let#[a,z,y,C]:=C;exact#[a,z,y.unpinned,C]
  |ret v=>let#[x7,a,z,y,r7,C]:=C;exact#[x7,a,z,y.unpinned,r7,C]
abbrev R2:=V->V->Hp->VK->Prop
def OpR(X:Cx)(f:Value->Value->Sem Value)(r:R2):=
 ∀(p:Kp) s (a:St) H x y v u Q,Inv X p a H s->RelV x v->RelV y u->r x y H Q->
  wpAny (model X.prog X.w) X.A (f v u) (EP X p a Q) X.xe s
def UnR(X:Cx)(f:Value->Sem Value)(r:V->Hp->VK->Prop):=
 ∀(p:Kp) s (a:St) H x v Q,Inv X p a H s->RelV x v->r x H Q->
  wpAny (model X.prog X.w) X.A (f v) (EP X p a Q) X.xe s
def CallR(X:Cx)(f:Value)(r:List V->Hp->VK->Prop):=
 ∀(p:Kp) s (a:St) H x u Q,Inv X p a H s->Vals x u->r x H Q->
  wpAny (model X.prog X.w) X.A (call f u) (EP X p a Q) X.xe s
def Ot(X:Cx)(r:V->Hp->(Bool->Hp->Prop)->Prop):=
 ∀(p:Kp) s (a:St) H x v Q,Inv X p a H s->RelV x v->r x H Q->
  wpAny (model X.prog X.w) X.A (truthy v) (TP X p a Q) X.xe s
def tOp(r:R2)(ta tb:TE):TE:=λa H Q=>ta a H λx c=>tb a c λy b=>r x y b Q
def tUn(r:V->Hp->VK->Prop)(ta:TE):TE:=λa H Q=>ta a H λx b=>r x b Q
def rI(C:Int->Int->Prop)(g:Int->Int->V):R2:=λx y H Q=>∃i j,x=.int i/\y=.int j/\C i j/\Q (g i j) H
def rI0(g:Int->Int->V):R2:=λx y H Q=>∃i j,x=.int i/\y=.int j/\Q (g i j) H
def rU(g:Int->V):V->Hp->VK->Prop:=λx H Q=>∃i,x=.int i/\Q (g i) H
section
variable{a:Expr}{tc:TE}
def Kw(z:PE X a ta)(p:PE X b tb){R:V->V->Hp->Prop}(I:Inv X pz σ H s)(h:ta σ H λx H1=>tb σ H1 λy H2=>R x y H2){f:Value->Value->Sem Value}(o:∀v u g x y H2,Inv X pz σ H2 g->RelV x v->RelV y u->R x y H2->wpAny (model X.prog X.w) X.A (f v u) Q X.xe g):wpAny (model X.prog X.w) X.A (eval a X.env) (λv e=>wpAny (model X.prog X.w) X.A (eval b X.env) (λu c=>wpAny (model X.prog X.w) X.A (f v u) Q X.xe c) X.xe e) X.xe s:=by
 exact bh (z pz s σ H _ I h) λv i x H1 C l m=>?_;exact bh (p pz i σ H1 _ C m) λu g y H2 B j q=>?_;exact o v u g x y H2 B l j q
def IE(i:OpR X (binaryOp op) r)(l:PE X a ta)(j:PE X b tb):PE X (.BinOp a op b pos) (tOp r ta tb):=by intro p s c H Q I h;exact wpAny_BinOp<|Kw l j I h λv u e x y o m g f q=>i p e c o x y v u Q m g f q
def MP(f:UnR X (unaryOp op) r)(g:PE X a ta):PE X (.UnaryOp op a pos) (tUn r ta):=by intro p s b H Q I h;exact UnaryOp_<|bh (g p s b H _ I h) λv c x j i e q=>f p c b j x v Q i e q
def opI{f}{C}{g:Int->Int->Int}(a:∀i j t u s (Q:Kv) (E:Kv),C i j->Q (.int (g i j) s.toks) {s with toks:=s.toks+1}->wpAny (model X.prog X.w) X.A (f (.int i t)<|.int j u) Q E s):OpR X f (rI C λi j=>.int<|g i j):=by
 intro p s m H x y v u Q I e c h;let#[i,j,rfl,rfl,l,q]:=h;let#[t,rfl]:=e;let#[b,rfl]:=c;exact a i j t b s _ _ l #[.int _,H,I.tok _,#[_,qx],q]
def MY{f}{g:Int->Int->Int}(a:∀i j t u s (Q:Kv) (E:Kv),Q (.int (g i j) s.toks) {s with toks:=s.toks+1}->wpAny (model X.prog X.w) X.A (f (.int i t)<|.int j u) Q E s):OpR X f (rI0 λi j=>.int<|g i j):=by
 intro p s l H x y v u Q I e c h;let#[i,j,rfl,rfl,q]:=h;let#[t,rfl]:=e;let#[b,rfl]:=c;exact a i j t b s _ _ #[.int _,H,I.tok _,#[_,qx],q]
def Lw{f}{g:Int->Int->Bool}(a:∀i j t u s (Q:Kv) (E:Kv),Q (.bool<|g i j) s->wpAny (model X.prog X.w) X.A (f (.int i t)<|.int j u) Q E s):OpR X f (rI0 λi j=>.bl<|g i j):=by
 intro p s l H x y v u Q I e c h;let#[i,j,rfl,rfl,q]:=h;let#[t,rfl]:=e;let#[b,rfl]:=c;exact a i j t b s _ _ #[.bl _,H,I,qx,q]
def Oc(i j:Int):=0<j/\j<1073741824
def NX(i j:Int):=0<=j/\j<=1000000/\i.natAbs<2^64
def CMul(i j:Int):=(-(2^64)<i/\i<2^64)\/(-(2^64)<j/\j<2^64)
def CMul.ok{i j}(h:CMul i j):IntMulOk i j:=by
 rcases h with⟨b,a⟩|⟨b,a⟩
 .exact .of_left<|intBits_le_64 b a
 .exact .of_right<|intBits_le_64 b a
def IV:OpR X (binaryOp .Add) (rI0 λi j=>.int (i+j)):=MY λz z z z z z z q=>add_int q
def JP:OpR X (binaryOp .Sub) (rI0 λi j=>.int (i-j)):=MY λz z z z z z z q=>sub_int q
def IT:OpR X (binaryOp .Mult) (rI CMul λi j=>.int (i*j)):=opI λz z z z z z z h q=>mul_int q h.ok
theorem GY:OpR X (binaryOp .FloorDiv) (rI Oc λi j=>.int (i/j)):=opI λi j z z z z z h q=>by
 let b:=h.1;let a:=h.2;exact floordiv_int (by lia) (by rwa[Int.fdiv_eq_ediv_of_nonneg i<|by lia])<|.inl<|PyProof.noPylong_small<|by lia
def JL:OpR X (binaryOp .Mod) (rI (λz j=>0<j) λi j=>.int (i%j)):=opI λi j z z z z z h q=>by
 exact mod_int' (by lia)<|by rwa[Int.fmod_eq_emod_of_nonneg i<|by lia]
def Kz:OpR X (binaryOp .Pow) (rI NX λi j=>.int (i^j.toNat)):=opI λz z z z z z z h q=>pow_int_small h.1 h.2.1 h.2.2 q
def unI{f}{g:Int->Int}(a:∀i t s (Q:Kv) (E:Kv),Q (.int (g i) s.toks) {s with toks:=s.toks+1}->wpAny (model X.prog X.w) X.A (f<|.int i t) Q E s):UnR X f (rU λi=>.int<|g i):=by
 intro p s c H x v Q I b h;let#[i,rfl,q]:=h;let#[t,rfl]:=b;exact a i t s _ _ #[.int<|g i,H,I.tok _,#[_,qx],q]
def J2:UnR X (unaryOp .USub) (rU λi=>.int (-i)):=unI λz z z z z q=>neg_int q
end
section
variable{a:Expr}{tc:TE}
def MM:OpR X (compareOp .Lt) (rI0 λi j=>.bl (decide (i<j))):=Lw λz z z z z z z q=>lt_int q
def Ir:OpR X (compareOp .LtE) (rI0 λi j=>.bl (decide (i<=j))):=Lw λz z z z z z z q=>le_int q
def M0:OpR X (compareOp .Gt) (rI0 λi j=>.bl (decide (j<i))):=Lw λz z z z z z z q=>gt_int q
def OpR.or{f}{r e}(h:OpR X f r)(h':OpR X f e):OpR X f (λx y H Q=>r x y H Q\/e x y H Q):=by
 intro p s a H x y v u Q I c b q;rcases q with q|q
 .exact h p s a H x y v u Q I c b q
 .exact h' p s a H x y v u Q I c b q
def kD b(h:op≠.In:=by decide)(h2:op≠.NotIn:=by decide):behindInMarks op b=false:=by
 have a:(op == CmpOp.In)=false:=by cases op<;>first|rfl|exact absurd qx h
 have e:(op == CmpOp.NotIn)=false:=by cases op<;>first|rfl|exact absurd qx h2
 cases b<;>simp[behindInMarks,a,e]
def Fx(i:OpR X (compareOp op) r)(m:PE X a ta)(l:PE X b tb)(j:behindInMarks op b=false):PE X (.Compare a [op] [b] pos) (tOp r ta tb):=by intro p s c H Q I h;exact wpAny_Compare1 (Kw m l I h λv u e x y w o g f q=>i p e c w x y v u Q o g f q) j
def ED(t:TE):TT:=λa H Q=>t a H λx b=>∃k,x=.bl k/\Q k b
def yH(A:OpR X (compareOp op) r)(E:PE X a ta)(C:PE X b tb)(B:behindInMarks op b=false):PT X (.Compare a [op] [b] pos) (ED (tOp r ta tb)):=by
 intro p s f H Q I h;exact wpAny_isTrue_Compare1 (bh (E p s f H _ I h) λv i x O L m w=>bh (C p i f O _ L w) λu g y N K l o=>
  bh (A p g f N x y v u _ K m l o) λc P z M J j #[k,e,q]=>?_) B
 subst e;cases j;exact ZH #[M,J,q]
def xk(r c:R2)(ta tb tc:TE):TE:=λa H Q=>ta a H λx g=>tb a g λy f=>r x y f λz b=>∃k,z=.bl k /\
 (if k then tc a b λw e=>c y w e Q else Q (.bl false) b)
def vv{op o}{r j}(R:OpR X (compareOp op) r)(g:OpR X (compareOp o) j)(Y:PE X a ta)(U:PE X b tb)(T:PE X c tc)(S:lastMarks [op,o] [b,c]=false:=by with_unfolding_all rfl):PE X (.Compare a [op,o] [b,c] pos) (xk r j ta tb tc):=by
 intro p s f H Q I h;exact Compare_chain (bh (Y p s f H _ I h) λv J x H1 I1 M P=>chain_link<|bh (U p J f H1 _ I1 P) λu E y H2 I2 i O=>
  bh (R p E f H2 x y v u _ I2 M i O) λd C z m l L #[k,e,q]=>?_) S
 subst e;cases L;exact ZH ?_;cases k with
 |false=>exact ite_ff #[.bl false,m,l,qx,q]
 |true=>exact ite_tt<|chain_last<|bh (T p C f m _ l q) λA B w H4 Z K N=>g p B f H4 y w u A Q Z i K N
def CD{op o}{r l}(Y:OpR X (compareOp op) r)(g:OpR X (compareOp o) l)(ha:PE X a ta)(hb:PE X b tb)(hc:PE X c tc)(Z:lastMarks [op,o] [b,c]=false:=by with_unfolding_all rfl):PT X (.Compare a [op,o] [b,c] pos) (ED<|xk r l ta tb tc):=by
 intro p s f H Q I h;exact isTrue_chain (bh (ha p s f H _ I h) λv K x H1 I1 O T=>test_link<|bh (hb p K f H1 _ I1 T) λu J y H2 I2 j S=>
  bh (Y p J f H2 x y v u _ I2 O j S) λd E z w m N #[k,e,q]=>?_) Z
 subst e;cases N;exact ZH ?_;cases k with
 |false=>
  let#[k',e',U]:=q;cases e';exact ite_ff #[w,m,U]
 |true=>
  exact ite_tt<|test_last<|bh (hc p E f w _ m q) λB C A H4 I4 M R=>bh (g p C f H4 y A u B _ I4 j M R) λd' s5 z2 H5 I5 L i=>?_;let#[k2,e2,P]:=i;subst e2;cases L;exact ZH #[H5,I5,P]
def Nk(K:Kq)(x:V)(H:Hp)(k:Bool):Prop:=
 match x with
 |.non=>k=false
 |.bl b=>k=b
 |.int i=>k=(i != 0)
 |.str y=>y.length<=sizeLine/\k=((y.length:Int) != 0)
 |.byt y=>y.size<=sizeLine/\k=((y.size:Int) != 0)
 |.ref p=>(∃a,SqL K H p a/\k=(not<|a.isEmpty))\/(∃a,SqT K H p a/\k=(not<|a.isEmpty))\/∃c,H p=!.dK c/\k=(not<|c.isEmpty)
 |_=>False
def xR{vs}(r:KV kvs vs):((not<|vs.isEmpty))=(not<|kvs.isEmpty):=by cases r<;>rfl
def qf(r:Vals xs its):((not<|its.toArray.isEmpty))=(not<|xs.isEmpty):=by cases r<;>simp
def kH:sizeLine<2^63:=by rw[YV];decide
theorem Jd:Ot X (λx H Q=>∃k,Nk X.K x H k/\Q k H):=by
 intro J s E H x v Q I j h;let#[k,e,q]:=h;let L:=YV;cases x with
 |non=>
  cases j;let a:=e;subst a;exact truthy_none #[H,I,q]
 |bl b=>
  cases j;let a:=e;subst a;exact ZH #[H,I,q]
 |int i=>
  let#[t,rfl]:=j;let a:=e;subst a;exact P.truthy_int #[H,I,q]
 |str y=>
  let#[t,rfl]:=j;obtain⟨B,a⟩:y.length<=sizeLine/\k=((y.length:Int) != 0):=e;subst a;exact P.truthy_str (by lia) #[H,I.tok _,q]
 |byt y=>
  let#[t,rfl]:=j;obtain⟨B,a⟩:y.size<=sizeLine/\k=((y.size:Int) != 0):=e;subst a;exact W.truthy_bytes (by lia) #[H,I.tok _,q]
 |ref p=>
  cases j;let a:=e;rcases a with⟨g,l,a⟩|⟨g,l,a⟩|⟨c,l,a⟩
  .subst a;let#[z,r,u,A]:=I.list l;let f:=r.length;exact wpAny_truthy_list u.isList (by simp;lia) #[H,I.tok _,by rwa[qf r]]
  .subst a;let#[z,r,u,A]:=I.tuple l;let f:=r.length;exact truthy_tuple u (by simp[YB];lia) #[H,I.tok _,by rwa[qf r]]
  .subst a;obtain⟨A,C,o,r,m⟩:c.length<=sizeLine/\(p == sysModules)=false/\∃o,KV c o/\s.heap.DictOf _ p o:=I.hok p _ l;let f:=VV r;exact wpAny_truthy_dict C m (by lia) #[H,I.tok _,by rwa[xR r]]
 |_=>exact(show False from e).elim
def Dr(e:PE X a ta)(he:∀w,isTrue a X.env w=(do let v <-w;standAt a.pos;holding [v] (truthy v))):PT X a (λσ H Q=>ta σ H λx H'=>∃k,Nk X.K x H' k/\Q k H'):=by
 intro p s σ H Q I h;exact isTrue_plain (bh (e p s σ H _ I h) λv b x g f c q=>Jd p b σ g x v Q f c q)<|he _
def yk:OpR X (binaryOp .Add) (λx y H Q=>∃i j,x=.str i/\y=.str j/\i.length+j.length<=sizeLine/\Q (.str (i++j)) H):=by intro p s f H x y v u Q I c b h;let#[i,j,rfl,rfl,e,q]:=h;let#[t,rfl]:=c;let#[a,rfl]:=b;exact add_str (λa g=>#[.str<|i++j,H,I.tok _,#[_,qx],q]) e
def fE{x}(r:Vals [x] us):∃u,us=[u]/\RelV x u:=by
 cases r with
 |cons b a=>cases a;exact#[_,qx,b]
def zZ{x}(r:Vals [x,y] us):∃u w,us=[u,w]/\RelV x u/\RelV y w:=by
 cases r with
 |cons e c=>
  cases c with
  |cons b a=>cases a;exact#[_,_,qx,e,b]
end
structure ObjM (h:Heap) (x dx C:Addr) (mA:Str->Option Value):Prop where
 obj:h.get? x=!PySem.W.instObj C dx
 ns:h.Ns1 dx mA
 ne:dx≠x
def Bj(n:h.Ns1 dx mA):∃od,h.get? dx=!od/\∀name,W.lookIn name od=!mA name:=by
 let#[o,c,p,g,l,j,_,i]:=n;exact#[o,g,λname=>?_];let e:=i name;delta nsFind findBy at e;rw[<-Array.find?_toList]at e;delta W.lookIn;rw[l];dsimp only;split
 .rename_i y q;rw[q]at e;exact YW some e
 .rename_i q;rw[q]at e;have a:c.toList.any (·.refKey)=false:=by rw[List.any_eq_false];intro y f;let#[z,t,b]:=j y<|Array.mem_toList_iff.mp f;simp[DictEntry.refKey,b]
  have m:¬c.toList.any (·.refKey):=by rw[a];exact Yj
  rw[Ym m];exact YW some e
def ObjM.look{x}(I:ObjM h x dx C mA):∃od,W.InstAt h x (W.instObj C dx) C (!od)/\∀name,W.lookIn name od=!mA name:=
 let #[od,ho,hl]:=Bj I.ns
 #[od,#[I.obj,qx,qx,ho],hl]
section
variable{x:Addr}{v:Value}
def Gh{e}(X:K.In s.heap)(I:ObjM s.heap x dx C mA)(f:W.plainGet K C name)(c:W.hasDictIn K C)(g:W.findIn K (.ref C) name=!())(hv:mA name=!v)(a:W.handedIn v)(h:Q v {s with toks:=s.toks+1}):wpAny (model prog w) A (getAttr (.ref x) name e) Q E s:=by
 let#[o,J,b]:=I.look;exact W.get_value X J (VY f).1 (W.findObj_own c g rfl<|by rw[b,hv]) a h
def Fa{pl}{Q}(X:K.In s.heap)(I:ObjM s.heap x dx C mA)(a:W.plainGet K C name)(e:W.findIn K (.ref C) name=!(some<|.ref f))(b:W.isFn K (.ref f))(hv:mA name=())(h:Q (.ref f,[.ref x]) s):wpAny (model prog w) A (getMethod (.ref x) name pl) Q E s:=by
 let#[o,J,c]:=I.look;exact W.method_fn X J (VY a).1 (VY a).2 e (Zk.mp b) (by show(W.lookIn name o).map _=!false;rw[c,hv];rfl) h
theorem Fz{Q}(X:K.In s.heap)(I:ObjM s.heap x dx C mA)(hs:W.findIn K (.ref C) "__setattr__"=!(some<|.builtin "object.__setattr__"))(o:W.plainOver K C)(m:W.takerIn K C name=!())(p:W.hasDictIn K C)(hw:Within mA ns)(hsz:ns.length<=sizeLine)(h:∀h',ObjM h' x dx C (λy=>if y=name then !v else mA y)->Heap.SameBut dx s.heap h'->Q PUnit.unit {s with heap:=h',toks:=s.toks+2}):wpAny (model prog w) A (setAttr (.ref x) name v) Q E s:=by
 let#[B,J,L]:=I.look;exact W.set_plain X J hs<|W.osa_open X J o m λb=>?_;let#[M,q,i]:=W.any_some p;let l:=I.obj;exact Yd<|Yi<|Yd<|Yd<|wpAny_loadPart l<|Yd<|W.Looks.here (W.looks_clsIn X q) ?_;rw[i];exact Yi<|Yd<|Yi<|Yd ?_;exact wpAny_nsSet1 I.ns λh' e c=>?_;let#[H,u,z,f,g,j]:=e.count<|Within.cons name v hw;exact Yd<|wpAny_lookBehind f (by rw[g];exact pastItsLine_dict<|YF j<|by rw[Yq];lia) ?_;exact Yi<|h _ #[(c.2 _<|Xq I.ne).trans I.obj,e,I.ne] c
def ET{R:Kr}{vs}(X:K.In s.heap)(b:W.makesIn K C)(hi:W.findIn K (.ref C) "__init__"=!(some<|.ref f))(c:W.typeIn K (.ref f)=!(.type "function"))(h:codeAny (model prog w) (A.under<|.builtin "type.__call__" #[.ref C::vs,kw]) (.call (.ref f) #[.ref (s.heap.objs.size+1)::vs,kw]) (W.InitBack (s.heap.objs.size+1) R)
   {s with heap:=(s.heap.push W.emptyDict).push<|W.instObj C s.heap.objs.size}):codeAny (model prog w) A (.call (.ref C) #[vs,kw]) R s:=by
 exact W.make_core (W.makes_of X b) (W.looks_findIn X hi) (λa=>W.bind_fn X a c) (.inl qx) h
end
def dX(f:Str)(v:V):List (Str×V)->List (Str×V)
 |[]=>[(f,v)]
 |(g,x)::r=>if g=f then(g,v)::r else(g,x)::dX f v r
theorem mP f g v:∀fs:List (Str×V),(dX f v fs).lookup g=if g=f then !v else fs.lookup g
 |[]=>by
  show List.lookup g [(f,v)]=_;by_cases h:g=f
  .let a:=Zk.mpr h;simp[List.lookup,a,Yk h]
  .let a:=ZB.mpr h;simp[List.lookup,a,Ym h]
 |(k,x)::r=>by
  let ih:=mP f g v r;rw[show dX f v _=(if k=f then(k,v)::r else(k,x)::dX f v r)from rfl];grind
theorem mI f v:∀fs:List (Str×V),f∈(dX f v fs).map (·.1)/\∀g,g∈fs.map (·.1)->g∈(dX f v fs).map (·.1)
 |[]=>#[by simp[dX],λg h=>by simp at h]
 |(k,x)::r=>by
  let#[b,i]:=mI f v r;rw[show dX f v _=(if k=f then(k,v)::r else(k,x)::dX f v r)from rfl];grind
theorem nc f v:∀fs:List (Str×V),(dX f v fs).length<=fs.length+1
 |[]=>by simp[dX]
 |(k,x)::r=>by
  let ih:=nc f v r;rw[show dX f v _=(if k=f then(k,v)::r else(k,x)::dX f v r)from rfl];grind
def RelO.some_of{o}(r:RelO (!v) o):∃u,o=!u/\RelV v u:=by
 cases o with
 |none=>exact(show False from r).elim
 |some u=>exact#[u,qx,r]
def RelO.none_of{o}(r:RelO () o):o=():=by
 cases o with
 |none=>rfl
 |some u=>exact(show False from r).elim
def Bg(r:RelV v u):W.handedIn u:=by
 cases v with
 |non=>cases(show u=Value.none from r);rfl
 |bl b=>cases(show u=Value.bool b from r);rfl
 |int i=>let#[t,e]:=(show ∃t,u=Value.int i t from r);cases e;rfl
 |str x=>let#[t,e]:=(show ∃t,u=Value.str x t from r);cases e;rfl
 |byt b=>let#[t,e]:=(show ∃t,u=Value.bytes b t from r);cases e;rfl
 |flt b=>let#[t,e]:=(show ∃t,u=Value.float b t from r);cases e;rfl
 |ref a=>cases(show u=Value.ref a from r);rfl
 |ty n=>cases(show u=Value.type n from r);rfl
section
variable{P:Program}{fs fs':List (Str×V)}
def uJ(b:HOk P w H h)(e:H a=!.ins C dx fs):∃mA,ObjM h a dx C mA/\(∀f,RelO (fs.lookup f) (mA f))/\Within mA (fs.map (·.1))/\fs.length<=1000/\H dx=!.own a:=by
 let#[d,z,c,o,mA,n,r,q]:=(show ObjOk P w H h a (.ins C dx fs)from b a _ e)
 exact#[mA,#[o,n,c],r,q,z,d]
end
structure Cls (K:PySem.W.Frag) (C:Addr):Prop where
 pg:PySem.W.plainGet K C Str.empty=true
 hd:PySem.W.hasDictIn K C=true
 po:PySem.W.plainOver K C=true
 sa:PySem.W.findIn K (.ref C) "__setattr__"=!!(.builtin "object.__setattr__")
def Cls.get(c:Cls K C)f:W.plainGet K C f:=c.pg
def NoAttr(K:Kq)(C:Addr)(f:Str):=W.findIn K (.ref C) f=!()
def NoAttr.taker{f}(n:NoAttr K C f):W.takerIn K C f=!():=by delta W.takerIn;rw[show W.findIn K _ f=!() from n];rfl
structure Meth (K:PySem.W.Frag) (C:Addr) (m:Str) (f:Addr):Prop where
 at_:PySem.W.findIn K (.ref C) m=!!.ref f
 fn:PySem.W.isFn K (.ref f)=true
 kp:PySem.W.keepIn K (.ref f)=true
section
variable{fs:List (Str×V)}{f:Str}{v:V}
def xX{b}(I:Inv X pz σ H s)(e:H a=!.ins C dx fs)(c:Cls X.K C)(n:NoAttr X.K C f)(l:fs.lookup f=!v)(h:∀u s',Inv X pz σ H s'->RelV v u->Q u s'):wpAny (model X.prog X.w) A (getAttr (.ref a) f b) Q E s:=by
 let#[m,O,r,_,_,_]:=uJ I.hok e;let#[u,i,g]:=RelO.some_of (v:=v) (o:=m f) (by rw[<-l];exact r f);exact Gh I.kIn O (c.get f) c.hd n i (Bg g)<|h u _ (I.tok _) g
def qw{pl}{Q}(I:Inv X pz σ H s)(e:H a=!.ins C dx fs)(c:Cls X.K C)(k:Meth X.K C m g)(l:fs.lookup m=())(h:Q (.ref g,[.ref a]) s):wpAny (model X.prog X.w) A (getMethod (.ref a) m pl) Q E s:=by
 let#[b,O,r,_,_,_]:=uJ I.hok e;let f:=RelO.none_of (by rw[<-l];exact r m);exact Fa I.kIn O (c.get m) k.at_ k.fn f h
theorem xJ{Q}(I:Inv X pz σ H s)(e:H a=!.ins C dx fs)(c:Cls X.K C)(n:NoAttr X.K C f)(R:fs.length<1000)(B:RelV y u)(h:∀s',Inv X pz σ (upd H a<|.ins C dx<|dX f y fs) s'->Q PUnit.unit s'):wpAny (model X.prog X.w) A (setAttr (.ref a) f u) Q E s:=by
 let#[m,O,r,j,_,l]:=uJ I.hok e;have J:(fs.map (·.1)).length<=sizeLine:=by rw[Yc,YV];lia
 exact Fz I.kIn O c.sa c.po n.taker c.hd j J λP i p=>h _ ?_;have M:∃o,P.get? dx=!o:=let #[o,_,_,e',_]:=i.ns;#[o,e']
 exact I.write (by rw[e];exact True.intro) (.inr l) (λb q N z=>(p.2 b N).trans z) M ?_;exact#[by rwa[az O.ne],?_,O.ne,i.obj,_,i.ns,λg=>?_,λg L=>?_]
 .have:=nc f y fs;lia
 .rw[mP];by_cases q:g=f
  .rwa[Yk q,Yk q]
  .rw[Ym q,Ym q];exact r g
 .by_cases q:g=f
  .rw[q];exact(mI f y fs).1
  .exact(mI f y fs).2 g<|j g λz=>L ?_;grind
def Inv.made(I:Inv X pz σ H s):Inv X pz σ (upd (upd H s.heap.objs.size (.own (s.heap.objs.size+1))) (s.heap.objs.size+1) (.ins C s.heap.objs.size []))
  {s with heap:=(s.heap.push W.emptyDict).push<|W.instObj C s.heap.objs.size}:=by
 have f:(s.heap.push W.emptyDict).get? s.heap.objs.size=!W.emptyDict:=Ys s.heap qx;have j:((s.heap.push W.emptyDict).push<|W.instObj C s.heap.objs.size).get? (s.heap.objs.size+1)=!W.instObj C s.heap.objs.size:=by
  have:=Ys (s.heap.push W.emptyDict) (o:=W.instObj C s.heap.objs.size) qx
  rwa [Xi]at this
 have i:(s.heap.push W.emptyDict).Ns s.heap.objs.size _:=#[W.emptyDict,#[[]],_,f,qx,(λe g=>absurd g<|by simp),λz=>rfl]
 let l:=I.laid (o:=.own<|s.heap.objs.size+1) (t':=s.toks) (λb u q=>Yf _ q) (Yp _) #[_,f];exact l.laid (λb u q=>Yf _ q) (Xj<|Xi _ _) ?_;have c:s.heap.objs.size≠s.heap.objs.size+1:=Yy<|ZV _;exact#[by rw[az c,aC],YQ _,c,j,λz=>(),(Heap.Ns1.of_empty i).at λo q=>Yf _ q,λz=>True.intro,λy h=>absurd qx h]
def Gc(b:attributeBase e f env (eval e env)=eval e env)(h:wpAny (model prog w) A (eval e env) (λo a=>wpAny (model prog w) A (getAttr o f true) Q E a) E s):wpAny (model prog w) A (eval (.Attribute e f pos) env) Q E s:=
 Attribute_any_ h<|by rw[arm_eval_Attribute,b]
end
def Op(K:Kq)(ta:TE)(f:Str):TE:=λc H Q=>ta c H λx b=>∃a C e fs v,x=.ref a/\b a=!.ins C e fs/\Cls K C/\NoAttr K C f/\fs.lookup f=!v/\Q v b
def OM(K:Kq)(ta tv:TE)(f:Str):TS:=λD b H=>tv b H λy g=>ta b g λx e=>∃a C c fs,x=.ref a/\e a=!.ins C c fs/\Cls K C/\NoAttr K C f/\fs.length<1000 /\
 D.nx b (upd e a<|.ins C c<|dX f y fs)
section
variable{f:Str}
def uM(he:PE X e ta)(m:attributeBase e f X.env (eval e X.env)=eval e X.env):PE X (.Attribute e f pos) (Op X.K ta f):=by intro p s g H Q I h;exact Gc m<|bh (he p s g H _ I h) λu J x A z i b=>?_;let#[a,C,L,fs,v,o,w,c,n,l,q]:=b;subst o;obtain rfl:u=Value.ref a:=i;exact xX z w c n l λB E y j=>#[v,A,y,j,q]
def tw(z:PE X o ta)(hv:PE X value tv)(hs:swapsWith value (!.Attribute o f pos') pos.line X.env=pure false):PS X (.Assign [.Attribute o f pos'] value pos) (OM X.K ta tv f):=by intro p s b H D I h;exact plainObj_wpAny_Assign_Attribute (bh (hv p s b H _ I h) λu g y M L i q=>bh (z p g b M _ L q) λw O x Q J j e=>?_) hs;let#[a,C,P,fs,A,B,c,n,l,m]:=e;subst A;obtain rfl:w=Value.ref a:=j;exact xJ J B c n l i λN E=>#[b,_,E,m]
end
structure Room (k:Nat) (A:Around):Prop where
 hd:A.handled=none
 dp:A.depth+3*k+5<recursionLimit
 un:A.units+16*k+200<cLine
theorem Room.mono(r:Room k A)(h:j<=k):Room j A:=#[r.hd,by have:=r.dp;lia,by have:=r.un;lia]
theorem Room.deeper(r:Room (k+1) A)env:Room k (A.deeper env):=
 #[r.hd,by have:=r.dp;show A.depth+1+3*k+5<_;lia,by have:=r.un;show A.units+3+16*k+200<_;lia]
def w_:(A.under (.builtin "type.__call__" #[.ref C::us,kw])).depth=A.depth+1:=by
 first|rfl|simp
def xv:(A.under (.builtin "type.__call__" #[.ref C::us,kw])).units=A.units+1:=by
 first|rfl|simp
theorem Room.make(r:Room (k+1) A)C us kw:Room k (A.under (.builtin "type.__call__" #[.ref C::us,kw])):=
 #[r.hd,by have:=r.dp;rw[w_];lia,by have:=r.un;rw[xv];lia]
theorem Room.depth(r:Room k A):A.depth<recursionLimit:=by have:=r.dp;lia
def sY:TA:=λz H Q=>Q [] H
def nj(ta:TE)(tr:TA):TA:=λa H Q=>ta a H λx e=>tr a e λb c=>Q (x::b) c
section
variable{t:TA}
def bf:PA X [] sY:=λz z z z H Q I h=>Vy #[[],H,I,.nil,h]
def aI(m:PE X e te)(l:PA X es t)(hs:starEach (e::es) X.env=(false,eval e X.env)::starEach es X.env:=by rfl):PA X (e::es) (nj te t):=by intro p b s a H Q I h;rw[hs];exact ZR<|bh (m b s a H _ I h) λu f x z w i j=>?_;exact bh (l p b f a z _ w j) λA B c y o g q=>#[x::c,y,o,.cons i g,q]
def Oa(t:TA):TE:=λb H Q=>t b H λx a=>x.length<=sizeLine/\∀p,a p=()->Q (.ref p) (upd a p<|.tup x)
def NW(t:TA):TE:=λb H Q=>t b H λx a=>x.length<=sizeLine/\∀p,a p=()->Q (.ref p) (upd a p<|.lst x)
def D_{x1}(h:PA X es t):PE X (.Tuple es x1 pos) (Oa t):=by intro p s g H Q I j;exact wpAny_Tuple_spliced<|bh (h pos p s g H _ I j) λi a x f c r #[z,q]=>#[by rwa[<-r.length],?_];let l:=c.hok.fresh<|Yp _;exact#[.ref a.heap.objs.size,upd f a.heap.objs.size _,c.laid (λb u e=>Yf _ e) (Yp _) ?_,qx,q _ l];exact#[z,i,r,#[_,Ys _ qx,qx,_,qx],_,Ys _ qx,qx]
def Ls(h:PA X es t):PE X (.List es pos) (NW t):=by intro p s g H Q I j;exact wpAny_List_spliced<|bh (h pos p s g H _ I j) λi a x f c r #[z,q]=>#[by rwa[<-r.length],?_];let l:=c.hok.fresh<|Yp _;exact#[.ref a.heap.objs.size,upd f a.heap.objs.size _,c.laid (λb u e=>Yf _ e) (Yp _) ?_,qx,q _ l];exact#[z,i,0,r,Ys _ qx]
end
abbrev Sp:=List V->Hp->VK->XK->Prop
abbrev CXT:=List Env->Hp->Shared->XK->Value->Shared->Prop
structure Env0 (P:Program) (w:World) (K:PySem.W.Frag) (mg:Str->Option Value) (base:Heap) (A:Around) (outer:List Env) (s:Shared) (H:Hp):Prop where
 frames:A.frames=!outer
 mod:Mod K mg base
 bs:∀b o,base.get? b=!o->s.heap.get? b=!o/\H b=none
 bsz:base.objs.size<=s.heap.objs.size
 funs:s.heap.FunFrames base outer
 frf:∀b∈frs outer,H b=none
 hok:HOk P w H s.heap
 bare:AllBare s.gens
 tab:∀t q p,e_ K t q p->H t=!.tbl q p
def CE(outer:List Env)(P:Program)(w:World)(H:Hp)(s:Shared)(Q:VK)(u:Value)(s':Shared):=
 ∃v a,s'.os=s.os/\AllBare s'.gens/\Un (frs outer) [] H a s.heap s'.heap/\HOk P w a s'.heap/\RelV v u/\Q v a
def CR(CX:CXT)(outer:List Env)(P:Program)(w:World)(H:Hp)(s:Shared)(Q:VK)(E:XK)(r:Result)(s':Shared):=
 match r with
 |.ok (.ret u)=>CE outer P w H s Q u s'
 |.ok _=>False
 |.error e=>CX outer H s E e s'
structure FnOk (P:Program) (w:World) (K:PySem.W.Frag) (mg:Str->Option Value) (base:Heap) (CX:CXT) (k:Nat) (f:Addr) (fd:FuncData) (ps:List Str) (sp:Sp):Prop where
 len:∀vs H Q E,sp vs H Q E->vs.length=ps.length
 run:∀(A:Around) (outer:List Env) (s:Shared) (H:Hp) (args:Args) (us:List Value) (vs:List V) (Q:VK) (E:XK),Room k A->Env0 P w K mg base A outer s H->BindsTo s fd args (ps.zip us)->Vals vs us->sp vs H Q E->
  codeAny (model P w) A (.call (.ref f) args) (CR CX outer P w H s Q E) s
def FnOk.imp{P}{a}(F:FnOk P w K mg base CX k f fd ps sp)(h:∀vs H Q E,a vs H Q E->sp vs H Q E):FnOk P w K mg base CX k f fd ps a:=
 #[λvs H Q E q=>F.len vs H Q E<|h _ _ _ _ q,λA o s H b u vs Q E g i j c e=>F.run A o s H b u vs Q E g i j c<|h _ _ _ _ e]
def Env0.make{P}(e:Env0 P w K mg base A outer s H)C us kw :
  Env0 P w K mg base (A.under<|.builtin "type.__call__" #[.ref C::us,kw]) outer s H:=#[by first|exact e.frames|(simpa[Around.under,Code.envs,Code.isFrame,pushEnvs]using e.frames),e.mod,e.bs,e.bsz,e.funs,e.frf,e.hok,e.bare,e.tab]
def Inv.env0(I:Inv X pz σ H s):Env0 X.prog X.w X.K X.mg X.base X.A X.stack s H:=
 #[I.ok.frames,I.ok.mod,I.bs,YF I.ok.bsz I.sz,I.stack,I.stkFree,I.hok,I.bare,I.tab]
def Inv.after{Q}(I:Inv X pz σ H s)(h:CE X.stack X.prog X.w H s Q u s'):EP X pz σ Q u s':=by let#[v,i,e,a,un,c,r,q]:=h;let#[f,g,d,t,o]:=s';obtain rfl:o=s.os:=e;exact#[v,i,I.call un c a λb z=>absurd z<|by simp,r,q]
def yJ(sp:Sp)(dvs:List V)(E:XK)(t:TA):TE:=λa H Q=>t a H λb c=>sp (b++dvs) c Q E
def wx(C:Addr)(m:Str)(sp:Sp)(dvs:List V)(E:XK)(ta:TE)(t:TA):TE:=λb H Q=>ta b H λx c=>∃a f fs,x=.ref a/\c a=!.ins C f fs/\fs.lookup m=() /\
 t b c λe g=>sp (x::(e++dvs)) g Q E
def Mq(C:Addr)(sp:Sp)(dvs:List V)(E:XK)(t:TA):TE:=λc H Q=>t c H λe b=>∀x a,b x=()->b a=()->a≠x->
 sp (.ref x::(e++dvs)) (upd (upd b a<|.own x) x<|.ins C a []) (λv f=>v=.non/\Q (.ref x) f) E
def Binds(K:Kq)(fd:FuncData)(ps:List Str)(ds:List Value):=
 ∀s u,K.In s.heap->(u++ds).length=ps.length->BindsTo s fd #[u,[]] (ps.zip<|u++ds)
def Binds.all(h:∀us:List Value,us.length=ps.length->bindArgs fd #[us,[]]=pure (ps.zip us)):Binds K fd ps []:=λs us z a=>by
 rw[YZ]at a ⊢;exact .of_eq<|h us a
def i8(CX:CXT)(X:Cx)(E:XK):=∀(p:Kp) (b:St) H s e a,Inv X p b H s->CX X.stack H s E e a->X.xe e a
section
variable{k:Nat}{dvs:List V}{ds:List Value}{E:XK}{t:TA}
def xM{Q}(F:FnOk X.prog X.w X.K X.mg X.base CX k f fd ps sp)(g:Room k X.A)(j:Binds X.K fd ps ds)(hd:Vals dvs ds)(hx:i8 CX X E)(I:Inv X pz σ H s)(r:Vals vs us)(h:sp (vs++dvs) H Q E):wpAny (model X.prog X.w) X.A (call (.ref f) us) (EP X pz σ Q) X.xe s:=by
 let b:=r.append hd;have i:(us++ds).length=ps.length:=by rw[<-b.length];exact F.len _ _ _ _ h
 exact Vh<|Xo (F.run X.A X.stack s H #[us,[]] _ _ Q E g I.env0 (j s us I.kIn i) b h) λr c a=>?_;cases r with
 |error e=>exact hx pz σ H s e c I a
 |ok l=>
  cases l with
  |ret u=>exact I.after a
  |next=>exact False.elim a
  |brk=>exact False.elim a
  |cont=>exact False.elim a
def kS(F:FnOk X.prog X.w X.K X.mg X.base CX k f fd ps sp)(j:Room k X.A)(o:Gl X x)(l:X.mg x=!.ref f)(m:W.keepIn X.K (.ref f))(u:Binds X.K fd ps ds)(hd:Vals dvs ds)(hx:i8 CX X E)(y:PA X (e::es) t)(b:nDb x:=by decide)(he:starEach (e::es) X.env=(false,eval e X.env)::starEach es X.env:=by rfl)(a:(backTo pos<|starEach es X.env).any (·.1)=false:=by rfl):PE X (.Call (.Name x p) (e::es) [] pos) (yJ sp dvs E t):=by
 intro i s g H Q I h;exact ZS<|gB I o l ?_ b;exact Vl I.ok.mod.kin m (bh (y pos i s g H _ I h) λB C z J c r q=>#[c.kIn,?_]) he a;exact xM F j u hd hx c r q
def zR{pl}(he:PE X o ta)(c:Cls X.K C)(z:Meth X.K C m f)(F:FnOk X.prog X.w X.K X.mg X.base CX k f fd ps sp)(P:Room k X.A)(R:Binds X.K fd ps ds)(hd:Vals dvs ds)(hx:i8 CX X E)(S:PA X (e::es) t)(b:starEach (e::es) X.env=(false,eval e X.env)::starEach es X.env:=by rfl)(g:(backTo pos<|starEach es X.env).any (·.1)=false:=by rfl)(O:eval (.Call (.Attribute o m apos) (e::es) [] pos) X.env=(do
   let y <-eval o X.env
   standAt apos.atName
   let (f,first) <-holding [y]<|getMethod y m pl
   callWith pos f first (backTo pos<|starEach (e::es) X.env)<|backToKw pos<|keywordEach [] X.env):=by rfl):PE X (.Call (.Attribute o m apos) (e::es) [] pos) (wx C m sp dvs E ta t):=by
 intro p s j H Q I h;exact W.methodCall_KW (bh (he p s j H _ I h) λu L x Y J M i=>?_) O;let#[a,dx,fs,T,U,l,q]:=i;subst T;obtain rfl:u=Value.ref a:=M;exact qw J U c z l ?_;exact Vl I.ok.mod.kin z.kp (bh (S pos p L j Y _ J q) λus Z vs H2 B r N=>#[B.kIn,?_]) b g;exact xM (vs:=.ref a::vs) F P R hd hx B (.cons qx r) N
def Fo{pl}(he:PE X o ta)(c:Cls X.K C)(i:Meth X.K C m f)(F:FnOk X.prog X.w X.K X.mg X.base CX k f fd ps sp)(B:Room k X.A)(J:Binds X.K fd ps ds)(hd:Vals dvs ds)(hx:i8 CX X E)(z:eval (.Call (.Attribute o m apos) [] [] pos) X.env=(do
   let g <-eval o X.env
   standAt apos.atName
   let (f,first) <-holding [g]<|getMethod g m pl
   callWith pos f first (backTo pos<|starEach [] X.env)<|backToKw pos<|keywordEach [] X.env):=by rfl):PE X (.Call (.Attribute o m apos) [] [] pos) (wx C m sp dvs E ta sY):=by
 intro y s j H Q I h;exact W.methodCall_KW (bh (he y s j H _ I h) λu N x P e p b=>?_) z;let#[a,O,fs,L,M,l,q]:=b;subst L;obtain rfl:u=Value.ref a:=p;exact qw e M c i l ?_;exact W.callWith_K0 e.kIn i.kp<|xM (vs:=[.ref a]) F B J hd hx e (.cons qx .nil) q
structure Mk (K:PySem.W.Frag) (C f:Addr):Prop where
 makes:PySem.W.makesIn K C=true
 init:PySem.W.findIn K (.ref C) "__init__"=!!.ref f
 fn:PySem.W.isFn K (.ref f)=true
 kp:PySem.W.keepIn K (.ref C)=true
def Da{Q}(M:Mk X.K C f)(F:FnOk X.prog X.w X.K X.mg X.base CX k f fd ps sp)(l:Room (k+1) X.A)(o:Binds X.K fd ps ds)(hd:Vals dvs ds)(hx:i8 CX X E)(I:Inv X pz σ H s)(r:Vals vs us)(h:∀x dx,H x=()->H dx=()->dx≠x->sp (.ref x::(vs++dvs)) (upd (upd H dx<|.own x) x<|.ins C dx []) (λv H2=>v=.non/\Q (.ref x) H2) E):wpAny (model X.prog X.w) X.A (call (.ref C) us) (EP X pz σ Q) X.xe s:=by
 let g:=h _ s.heap.objs.size (I.hok.fresh<|ZZ _) (I.hok.fresh<|Yp _)<|Yy<|ZV _;let b:=Inv.made (C:=C) I;have c:Vals (V.ref _::(vs++dvs)) (Value.ref (s.heap.objs.size+1)::(us++ds)):=.cons rfl<|r.append hd;have m:(Value.ref (s.heap.objs.size+1)::us++ds).length=ps.length:=by let e:=c.length;rw[F.len _ _ _ _ g]at e;exact e.symm
 exact Vh<|ET I.kIn M.makes M.init (Zk.mp M.fn)<|Xo (F.run _ X.stack _ _ #[Value.ref _::us,[]] _ _ _ E (l.make C us [])
  (b.env0.make C us []) (o _ _ b.kIn m) c g) λr i a=>?_
 cases r with
 |error e=>exact hx pz σ _ _ e i b a
 |ok p=>
  cases p with
  |ret u=>
   let#[v,B,z,j,y,q]:=b.after a;subst y;exact#[j,#[V.ref _,B,z,qx,q]]
  |next=>exact False.elim a
  |brk=>exact False.elim a
  |cont=>exact False.elim a
def yK(M:Mk X.K C f)(F:FnOk X.prog X.w X.K X.mg X.base CX k f fd ps sp)(j:Room (k+1) X.A)(m:Gl X x)(l:X.mg x=!.ref C)(o:Binds X.K fd ps ds)(hd:Vals dvs ds)(hx:i8 CX X E)(u:PA X (e::es) t)(b:nDb x:=by decide)(he:starEach (e::es) X.env=(false,eval e X.env)::starEach es X.env:=by rfl)(a:(backTo pos<|starEach es X.env).any (·.1)=false:=by rfl):PE X (.Call (.Name x p) (e::es) [] pos) (Mq C sp dvs E t):=by
 intro i s g H Q I h;exact ZS<|gB I m l ?_ b;exact Vl I.ok.mod.kin M.kp (bh (u pos i s g H _ I h) λz B y J c r q=>#[c.kIn,?_]) he a;exact Da M F j o hd hx c r q
end
structure FnScope (N P:List Str) (sc:Scope):Prop where
 kind:sc.kind=.function
 co:sc.isCoroutine=false
 gen:sc.isGenerator=false
 nd:N.Nodup
 pre:N.take P.length=P
 par:∀x∈P,sc.names.lookup x=!.local\/sc.names.lookup x=!.cell
 nofree:∀y∈sc.names,y.2≠.free
theorem si{a}:∀{binds}{m:Ks},(∀v,(x,v)∉binds)->bindL a binds m x=m x
 |[],_,_=>rfl
 |(n,v)::r,m,h=>by
  delta bindL;rw[si λw b=>h w<|Yb _ b];split
  .have:x≠n:=by rintro rfl;exact h v Ye
   simp[this]
  .rfl
theorem rA{a}:∀{binds}{m:Ks},(∀v,(x,v)∉binds)->bindC a binds m x=m x
 |[],_,_=>rfl
 |(n,v)::r,m,h=>by
  delta bindC;rw[rA λw b=>h w<|Yb _ b];split
  .rfl
  .have:x≠n:=by rintro rfl;exact h v Ye
   simp[this]
theorem rQ{a}{v}:∀{P:List Str}{vs}{i:Nat}{m:Ks},P.Nodup->P[i]?=!x->vs[i]?=!v->a x=!.local->
  bindL a (P.zip vs) m x=!v
 |[],_,_,_,_,h,_,_=>by simp at h
 |_::_,[],_,_,_,_,h,_=>by simp at h
 |p::P,w::vs,0,m,nd,h1,h2,hk=>by
  simp at h1 h2;subst h1;subst h2;show bindL a ((p,w)::P.zip vs) m p=_;delta bindL;rw[si λv b=>(Zd.mp nd).1 (VZ b).1,Yk hk];simp
 |p::P,w::vs,i+1,m,nd,h1,h2,hk=>by
  delta bindL;exact rQ (Zd.mp nd).2 (by simpa using h1) (by simpa using h2) hk
theorem rE{a}{v}:∀{P:List Str}{vs}{i:Nat}{m:Ks},P.Nodup->P[i]?=!x->vs[i]?=!v->a x≠!.local->
  bindC a (P.zip vs) m x=!v
 |[],_,_,_,_,h,_,_=>by simp at h
 |_::_,[],_,_,_,_,h,_=>by simp at h
 |p::P,w::vs,0,m,nd,h1,h2,hk=>by
  simp at h1 h2;subst h1;subst h2;show bindC a ((p,w)::P.zip vs) m p=_;delta bindC;rw[rA λv b=>(Zd.mp nd).1 (VZ b).1,Ym hk];simp
 |p::P,w::vs,i+1,m,nd,h1,h2,hk=>by
  delta bindC;exact rE (Zd.mp nd).2 (by simpa using h1) (by simpa using h2) hk
def start(N:List Str)(vs:List V):St:=vs.map some++List.replicate (N.length-vs.length) ()
def b7(CX:CXT)(P:Program)(w:World)(K:Kq)(mg:Ks)(base:Heap)(N:List Str)(qual:Str)(scope:Scope)(f:Addr)(cd:Value)(A:Around)(outer:List Env)(s:Shared)(H:Hp)(E:XK):Cx where
 prog:=P
 w:=w
 K:=K
 mg:=mg
 base:=base
 A:=A.deeper<|envOfC qual scope s.heap.objs.size f cd
 N:=N
 s₀:=s
 H₀:=H
 env:=envOfC qual scope s.heap.objs.size f cd
 outer:=outer
 stack:=envOfC qual scope s.heap.objs.size f cd::outer
 ex:=[]
 calm:=true
 fn:=λz=>true
 pn:=[]
 xe:=λe b=>wpAny (model P w) (A.deeper<|envOfC qual scope s.heap.objs.size f cd) (leaving (envOfC qual scope s.heap.objs.size f cd) e) (λz a=>CX outer H s E e a) (λc a=>CX outer H s E c a) b
def wR{s:Scope}(h:s.names.lookup x=!.cell):∃c,(cellsFrom n s.names []).lookup x=!c:=by let q:=XI s.names n []<|.inl h;exact Xe.mp q
theorem rO{P}{E}(S:FnScope N ps scope)(hd:A.handled=())(e0:Env0 P w K mg base A outer s H)(Q:vs.length=ps.length)(r:Vals vs us)(x:InCallC s s.heap.objs.size (bindL (envOfC qual scope s.heap.objs.size f cd).kindOf (ps.zip us) λt=>()) (cellsFrom (s.heap.objs.size+1) scope.names []) (bindC (envOfC qual scope s.heap.objs.size f cd).kindOf (ps.zip us) λt=>()) s1):Inv (b7 CX P w K mg base N qual scope f cd A outer s H E) [] (start N vs) H s1:=by
 have L:ps.length<=N.length:=by have:=YW List.length S.pre;rw[XE]at this;lia
 let#[B,O,rfl,I]:=x.done;have j:∀b:Addr,b∉(b7 CX P w K mg base N qual scope f cd A outer s H E).ex:=λb z=>absurd (show b∈([])from z)<|by simp
 exact#[#[e0.mod,S.kind,qx,qx,Yp _,λy z c B g=>?_,λy hy=>?_,λy c t h=>?_,λt=>hd,Around.frames_deeper e0.frames,.inr #[rfl,rfl],λb z=>absurd z<|j b,e0.bs,e0.bsz,λb t t=>j b,λb z=>absurd z<|j b,e0.funs,e0.frf,e0.tab],
  rfl,e0.bare,Un.kept I,#[_,x.toInCall.ns,λi y v B g R=>?_],λy c h=>#[_,x.cell y c h],e0.hok.fresh<|Yp _,λy c h=>?_,λp m=>absurd (show p∈([])from m)<|by simp,e0.hok.kept I,?_]
 .exact name_of_addr x.apart (Zf B)<|Zf g
 .let hy:=hy;rcases hy with hy|hy
  .exact wR hy
  .exact absurd rfl<|S.nofree _<|Zf hy
 .exact ZO<|x.above y c<|Zf h
 .have o:i<vs.length:=by
   delta start at g;by_cases o:i<vs.length
   .exact o
   .rw[ZA<|by simpa using o]at g;rw[Xz]at g;split at g<;>cases g
  have M:vs[i]?=!v:=by
   delta start at g;rw[ZD<|by simpa using o,Yw]at g;cases e:vs[i]? with
   |none=>rw[e]at g;cases g
   |some a=>rw[e]at g;cases g;rfl
  let#[u,C,J]:=r.get M;have m:ps[i]?=!y:=by rwa[<-S.pre,List.getElem?_take_of_lt<|by lia]
  have l:ps.Nodup:=by rw[<-S.pre];exact S.nd.sublist<|List.take_sublist _ _
  exact#[u,J,?_];rcases S.par y (YT m)with k|k
  .exact .inl #[k,rQ l m C k]
  .let#[c,e]:=wR (n:=s.heap.objs.size+1) k;exact .inr #[.inl k,c,e,?_];let q:=x.cell y c e;rwa[rE l m C<|by show scope.names.lookup y≠_;rw[k];decide]at q
 .exact e0.hok.fresh<|ZO<|x.above y c<|Zf h
 .delta start;show _=N.length;rw[Yr,Yc,YM];lia
def zM{P}{p}{L kV doc pm cdv ct oc}(T:K.lookup f=!#[oc,od,.func<|W.fnOf name qual p body scope L kV doc pm an cdv ct,osl])(hcd:W.codeIn K cdv qual)(S:FnScope N ps scope)(len:∀vs H Q E,sp vs H Q E->vs.length=ps.length)(c:∀A outer s H vs Q E,Room k (A.deeper<|envOfC qual scope s.heap.objs.size f cdv)->sp vs H Q E->
   ∃t,PSs (b7 CX P w K mg base N qual scope f cdv A outer s H E) body t/\t {nx:=λd H'=>Q .non H',rt:=Q} (start N vs) H):FnOk P w K mg base CX (k+1) f (W.fnOf name qual p body scope L kV doc pm an cdv ct) ps sp:=by
 exact#[len,λA outer s H M R vs Q E B j hb r i=>?_];let Z:=len _ _ _ _ i;let O:=j.mod.kin.keeps λb o e=>(j.bs b o e).1
 let z:=j.mod.nolimit.keeps λb o e=>(j.bs b o e).1
 have h:∀y∈ps.zip R,scope.names.lookup y.1=!.local\/(scope.names.lookup y.1=!.cell/\((cellsFrom (s.heap.objs.size+1) scope.names []).lookup y.1).isSome):=λ#[n,v] U=>by
  rcases S.par n (VZ U).1 with q|q
  .exact .inl q
  .exact .inr #[q,XI _ _ _<|.inl q]
 exact codeAny_call_function B.depth (O _ _ T) qx S.co S.gen qx (W.codeRec_of O hcd)<|hb _ _ _ _ ?_;exact wpAny_newFunctionEnv_cells S.kind h λenv he C x=>?_;subst he;exact#[z.keeps x.toInCall.keep,codeAny_func ?_];let#[t,X,Y]:=c A outer s H vs Q E (B.deeper _) i;have I:Inv (b7 CX P w K mg base N qual scope f cdv A outer s H E) [] _ H C:=rO S B.hd j Z r x;exact ZE (X [] C _ H _ I Y) (λfl l g=>?_) λe l g=>g;have fin:∀{a}{H'}{v}{u},Inv (b7 CX P w K mg base N qual scope f cdv A outer s H E) [] a H' l->RelV v u->Q v H'->CE outer P w H s Q u l:=
  λ{a H' v u} J m q=>#[v,H',J.os,J.bare,J.base,J.hok,m,q]
 cases fl with
 |ret u=>
  let#[v,a,H',J,m,q]:=g;exact fin J m q
 |next=>
  let#[a,H',J,q]:=g;exact fin (v:=V.non) J qx q
 |brk=>
  let#[_,_,_,q]:=g;exact False.elim q
 |cont=>
  let#[_,_,_,q]:=g;exact False.elim q
section
variable{t:TA}{id T:String}{r:List V->Hp->VK->Prop}
def tCB(r:List V->Hp->VK->Prop)(t:TA):TE:=λa H Q=>t a H λb c=>r b c Q
def dB(w:CallR X (.builtin id) r)(o:Gl X x)(m:X.mg x=())(hv:bootBuiltins x=!.builtin id)(y:PA X (e::es) t)(l:x ≠ "__name__":=by decide)(b:nDb x:=by decide)(he:starEach (e::es) X.env=(false,eval e X.env)::starEach es X.env:=by rfl)(a:(backTo pos<|starEach es X.env).any (·.1)=false:=by rfl):PE X (.Call (.Name x p) (e::es) [] pos) (tCB r t):=by
 intro f s c H Q I h;exact ZS<|l_ I o m hv ?_ l b;exact PyProof.Rows.callWith_builtin1 (bh (y pos f s c H _ I h) λu i g A z j q=>w f i c A g u Q z j q) he a
def eF(w:CallR X (.type T) r)(o:Gl X x)(m:X.mg x=())(hv:bootBuiltins x=!.type T)(y:PA X (e::es) t)(l:x ≠ "__name__":=by decide)(b:nDb x:=by decide)(he:starEach (e::es) X.env=(false,eval e X.env)::starEach es X.env:=by rfl)(a:(backTo pos<|starEach es X.env).any (·.1)=false:=by rfl):PE X (.Call (.Name x p) (e::es) [] pos) (tCB r t):=by
 intro f s c H Q I h;exact ZS<|l_ I o m hv ?_ l b;exact Xm (bh (y pos f s c H _ I h) λu i g A z j q=>w f i c A g u Q z j q) he a
end
end L2
namespace HT
open PySem PyProof.Rows
def rcLt_int A s a t c u prog w E Q(h:Q (.bool (decide (a<c))) s) :
  wpAny (model prog w) A (richCompare .Lt (.int a t)<|.int c u) Q E s:=
 PyProof.Rows.lt_int h
section
open PySem.SeqAt
open PySem.AutoSeq1 (wpAny_loadPart')
open PySem.MeetsSeq PySem.MeetsSeq2 PySem.MeetsSeq3
end
def cat_tup{t b}{vs a}(y:IsTup s.heap t vs.toArray)(z:IsTup s.heap b a.toArray)(hv:vs≠[])(h1:a=[]->Q (.ref t) s)(h2:a≠[]->Q (.ref s.heap.objs.size) {s with heap:=s.heap.push {cls:=.type "tuple",data:=.seq (vs++a).toArray} })(hsz:vs.length+a.length<=sizeLine):wpAny (model prog w) A (binaryOp .Add (.ref t)<|.ref b) Q E s:=by
 let#[#[cls,u,data,o],l,q,n,p]:=id y;let#[#[x,i,m,c],h,g,n2,f]:=id z;subst q p g f;have e:vs.toArray++a.toArray=(vs++a).toArray:=by simp
 by_cases j:a=[]
 .exact concat_meets #[_,l,qx] #[_,h,qx] noFill_tuple_add seq_tuple_add F.slot_tuple_add F.entry_tuple_add (F.args_tuple_add_2 _ _)
   (tuple_addW1 t b vs.toArray a.toArray n n2 u i o c (by simpa using hv)<|by simp[j]) #[l,h,h1 j]
 .exact concat_meets #[_,l,qx] #[_,h,qx] noFill_tuple_add seq_tuple_add F.slot_tuple_add F.entry_tuple_add (F.args_tuple_add_2 _ _)
   (tuple_addW2 t b vs.toArray a.toArray n n2 u i o c (by simpa using hv) (by simpa using j)<|by rwa[List.size_toArray,List.size_toArray]) #[l,h,?_]
  rw[e];exact h2 j
def sIx(n d:Nat):Option Int->Nat
 |none=>d
 |some v=>if v<0 then(v+n).toNat else min v.toNat n
end HT
namespace L2
open PySem PySem.Spec PyProof.Rows
abbrev TO:=St->Hp->(Option Int->Hp->Prop)->Prop
def PO(X:Cx)(e:Option Expr)(t:TO):=
 ∀(p:Kp) s (a:St) H Q,Inv X p a H s->t a H Q->
  wpAny (model X.prog X.w) X.A (evalPart e X.env) (λu c=>∃o b,Inv X p a b c/\IsPart u o/\Q o b) X.xe s
def HG:TO:=λz H Q=>Q () H
def M8(t:TE):TO:=λa H Q=>t a H λx b=>∃i,x=.int i/\Q (!i) b
section
variable{lo hi:Option Expr}{tl th:TO}{p2:Pos}
def G_:PO X () HG:=by intro p s a H Q I h;exact Yi #[(),H,I,.none,h]
def FG(h:PE X e te):PO X (!e) (M8 te):=by intro p s a H Q I f;exact bh (h p s a H _ I f) λu l x j g b c=>?_;let#[i,rfl,q]:=c;let#[t,rfl]:=b;exact#[!i,j,g,.int i t,q]
def SlR(X:Cx)(r:V->Option Int->Option Int->Hp->VK->Prop):=
 ∀(p:Kp) s (a:St) H x v c b lo h e Q,Inv X p a H s->RelV x v->s.heap.IsSliceOf e c b .none->IsPart c lo->IsPart b h->r x lo h H Q->
  ∃T i,typeLookup (.type T) "__getitem__"=pure (some<|.builtin i)/\s.TypeIs v T/\wpAny (model X.prog X.w) X.A (getItem v<|.ref e) (EP X p a Q) X.xe s
def tSl(r:V->Option Int->Option Int->Hp->VK->Prop)(te:TE)(tl th:TO):TE:=λa H Q=>te a H λx e=>tl a e λl c=>th a c λu b=>r x l u b Q
def wF(L:SlR X r)(he:PE X e te)(M:PO X lo tl)(J:PO X hi th):PE X (.Subscript e (.Slice lo hi () p2) pos) (tSl r te tl th):=by
 intro p s c H Q I h;exact Subscript_<|bh (he p s c H _ I h) λv m x Z U o B=>?_;exact wpAny_Slice<|bh (M p m c Z _ U B) λg j l Y S E z=>bh (J p j c Y _ S z) λf a u i R C y=>?_;exact Yi ?_;have P:Inv X p c i {a with heap:=a.heap.push {cls:=.type "slice",data:=.fields #[[g,f,.none]]} }:=R.kept λb ob q=>Yf _ q
 let#[T,id,O,K,N]:=L p {a with heap:=a.heap.push {cls:=.type "slice",data:=.fields #[[g,f,.none]]} } c i x v g f l u a.heap.objs.size Q P o (Heap.IsSliceOf.new ..) E C y;exact tail_any K O N<|by with_unfolding_all rfl
def Aq(xs:List V)(lo hi:Option Int):=(xs.drop<|HT.sIx xs.length 0 lo).take<|HT.sIx xs.length xs.length hi-HT.sIx xs.length 0 lo
theorem uX xs lo hi:(Aq xs lo hi).length<=xs.length:=by delta Aq;rw[XE,VI];lia
def Mc(K:Kq):R2:=λx y H Q=>∃a b e c,x=.ref a/\y=.ref b/\SqT K H a e/\SqT K H b c/\e≠[]/\e.length+c.length<=sizeLine /\
 (c=[]->Q (.ref a) H)/\(c≠[]->∀p,H p=()->Q (.ref p) (upd H p<|.tup<|e++c))
def Vals.nil_iff(r:Vals xs us):us=[]↔xs=[]:=by
 cases r with
 |nil=>simp
 |cons _ _=>simp
def GW:OpR X (binaryOp .Add) (Mc X.K):=by intro O s N H x y v u Q I m l h;let#[a,b,j,g,rfl,rfl,M,L,J,f,A,p]:=h;cases m;cases l;let#[E,e,C,_]:=I.tuple M;let#[i,c,B,_]:=I.tuple L;exact HT.cat_tup C B (λz=>J<|e.nil_iff.mp z) (λz=>#[.ref a,H,I,qx,A<|c.nil_iff.mp z]) (λz=>?_) (by rwa[<-e.length,<-c.length]);exact#[.ref s.heap.objs.size,_,I.laid (λb P q=>Yf _ q) (Yp _) ?_,qx,p (λw=>z<|c.nil_iff.mpr w) _<|I.hok.fresh<|Yp _];exact#[by rwa[Yr],_,e.append c,IsTup.new _ _,NoD.new _ _]
end
def ixN(n:Nat)(i:Int):=if 0<=i then(if i<n then !i.toNat else ())else if -n<=i then some (i+n).toNat else ()
def atI{α:Type}(xs:List α)(i:Int):=(ixN xs.length i).bind λj=>xs[j]?
theorem zE{i}(h:ixN n i=!j):seqIndex? i n=!j/\j<n/\-n<=i/\i<n:=by
 delta ixN at h;by_cases b:0<=i
 .rw[Yk b]at h;by_cases a:i<n
  .rw[Yk a]at h;let e:=YG h;exact#[by rw[seqIndex_of b a,e],by lia,by lia,a]
  .rw[Ym a]at h;cases h
 .rw[Ym b]at h;by_cases a:-n<=i
  .rw[Yk a]at h;let e:=YG h;exact#[by rw[seqIndex_neg (by lia) a,e],by lia,a,by lia]
  .rw[Ym a]at h;cases h
def uR{a}{xs}{i}{v:a}(h:atI xs i=!v):∃j,seqIndex? i xs.length=!j/\xs[j]?=!v/\j<xs.length/\-xs.length<=i/\i<xs.length:=by
 let#[j,e,h]:=Yx.mp h;let#[g,f,c,b]:=zE e;exact#[j,g,h,f,c,b]
theorem Hj{a}{xs}{v:a}(h:xs[j]?=!v):atI xs j=!v:=by
 let b:=(Yo.mp h).1;have e:ixN xs.length j=!j:=by delta ixN;rw[Yk<|by lia,Yk<|by lia];simp
 delta atI;rwa[e]
theorem qm{a}xs(v:a):atI (xs++[v]) (-1)=!v:=by
 have h:(xs++[v]).length=xs.length+1:=by simp
 have e:ixN (xs++[v]).length (-1)=!xs.length:=by
  delta ixN;rw[h,Ym<|by decide,Yk<|by lia]
  congr 1
  lia
 delta atI;rw[e];simp
def zp(b:Expr):=∀o i,subscripted b false o i=operate [o,i] (getItem o i)
def IxR(X:Cx)(r:R2):=
 ∀b a (p:Kp) s (c:St) H x y v u Q,Inv X p c H s->RelV x v->RelV y u->r x y H Q->
  subscripted a false v u=operate [v,u] (getItem v u)->wpAny (model X.prog X.w) X.A (subscriptTail b a v u) (EP X p c Q) X.xe s
def MtR(X:Cx)(id:String)(r:V->List V->Hp->VK->Prop):=
 ∀(p:Kp) s (a:St) H x b v u Q,Inv X p a H s->RelV x v->Vals b u->r x b H Q->
  wpAny (model X.prog X.w) X.A (call (.builtin id) (v::u)) (EP X p a Q) X.xe s
section
variable{a:Expr}
def IxR.or(h:IxR X r)(h':IxR X g):IxR X (λx y H Q=>r x y H Q\/g x y H Q):=by
 intro a b p s c H x y v u Q I f e q i;rcases q with q|q
 .exact h a b p s c H x y v u Q I f e q i
 .exact h' a b p s c H x y v u Q I f e q i
def LR(i:IxR X r)(l:PE X a ta)(j:PE X b tb)(hs:zp b):PE X (.Subscript a b pos) (tOp r ta tb):=by intro p s c H Q I h;exact Subscript_<|Kw l j I h λv u e x y o m g f q=>i a b p e c o x y v u Q m g f q<|hs _ _
def Ml(K:Kq):R2:=λx y H Q=>∃p a i v,x=.ref p/\y=.int i/\SqL K H p a/\atI a i=!v/\Q v H
def MC(K:Kq):R2:=λx y H Q=>∃p a i v,x=.ref p/\y=.int i/\SqT K H p a/\atI a i=!v/\Q v H
def Nm:R2:=λx y H Q=>∃z i c,x=.str z/\y=.int i/\z.length<=sizeLine/\atI z.cps.toList i=!c/\Q (.str #[#[[c]]]) H
theorem Gw:IxR X (Ml X.K):=by
 intro b c o s m H x y v u Q I L J h A;let#[p,T,i,z,rfl,rfl,M,O,q]:=h;cases L;let#[t,rfl]:=J;let#[g,r,f,U]:=I.list M;let#[j,a,S,Z,R,P]:=uR O;let#[w,C,e]:=r.get S;let N:=r.length;let Y:=kH;have fin:EP X o m Q w s:=#[z,H,I,e,q]
 by_cases B:0<=i
 .have l:i.toNat=j:=by rw[seqIndex_of B P]at a;exact YG a
  exact item_listR f.isList B (by lia) (by rw[l];simpa using C) fin A
 .have l:(i+g.toArray.size).toNat=j:=by rw[seqIndex_neg (by lia) R]at a;rw[YB,<-N];exact YG a
  exact subscriptTail_builtinR f.isList.typeIs slot_list_getitem.lookup
   (wpAny_getItem_list_neg f.isList (by lia) (by rw[YB]<;>lia) (by lia) (by rw[l];simpa using C) #[qx,fin]) A
def Lj:IxR X (MC X.K):=by
 intro a b f s e H x y v u Q I o m h B;let#[p,O,i,z,rfl,rfl,C,J,q]:=h;cases o;let#[t,rfl]:=m;let#[A,r,g,P]:=I.tuple C;let#[j,M,L,U,T,S]:=uR J;let#[w,N,c]:=r.get L;let E:=r.length;let R:=kH;have fin:EP X f e Q w s:=#[z,H,I,c,q]
 exact subscriptTail_builtinR g.typeIs slot_tuple_getitem.lookup
  (getItem_tuple g (by lia) (by lia) (by rwa[YB,<-E]) (by simpa using N) #[qx,fin]) B
theorem JX:IxR X Nm:=by
 intro a b K s E H x y v u Q I g f h l;let#[z,i,c,rfl,rfl,L,o,q]:=h;let#[t,rfl]:=g;let#[J,rfl]:=f;let#[j,e,A,N,w,p]:=uR o;have m:z.cps.toList.length=z.length:=by simp[Str.length]
 rw[m]at e w p;let M:=kH;exact tail_any (typeIs_str s z t) slot_str_getitem.lookup (getItem_str (by
  have C:decide (i < -(2^63))=false:=YD (by lia);have B:decide (i ≥ 2^63)=false:=YD (by lia);rw[C,B,XO]) (by rw[e];simpa using A) #[.str #[#[[c]]],H,I.tok _,#[_,qx],q]) l
def rIx(K:Kq):R2:=λx y H Q=>Ml K x y H Q\/MC K x y H Q\/Nm x y H Q
def I_:IxR X (rIx X.K):=Gw.or<|Lj.or JX
def xK(its:List Value)n j u:Obj.mapSeq (·.setIfInBounds j u) {cls:=.type "list",data:=.seq its.toArray n}={cls:=.type "list",data:=.seq (its.set j u).toArray n}:=by simp[Obj.mapSeq]
def Inv.lst{p}(I:Inv X pz σ H s)(h:H p=!.lst xs):∃(its:List Value) (n:Nat),Vals xs its/\s.heap.get? p=some {cls:=.type "list",data:=.seq its.toArray n}/\xs.length<=sizeLine:=by
 let#[z,its,n,r,e]:=I.hok p _ h;exact#[its,n,r,e,z]
def Inv.lstUpd{p}{n a}{f}(I:Inv X pz σ H s)(h:H p=!.lst xs)(g:s.heap.get? p=some {cls:=.type "list",data:=.seq its.toArray n})(c:f {cls:=.type "list",data:=.seq its.toArray n}={cls:=.type "list",data:=.seq its'.toArray a })(r:Vals ys its')(hz:ys.length<=sizeLine) t :
  Inv X pz σ (upd H p<|.lst ys) {s with heap:=s.heap.update p f,toks:=t}:=by
 have e:(s.heap.update p f).get? p=some {cls:=.type "list",data:=.seq its'.toArray a }:=by rw[Xp f g<|by rw[c]<;>rfl,c]
 exact I.write (by rw[h];trivial) (.inl qx) (λb u i q=>(Heap.get?_update_other _ _<|Xq i).trans q) #[_,e] ?_;exact#[hz,its',a,r,e]
def LZ:V->V->V->Hp->(Hp->Prop)->Prop:=λo i v H Q=>∃p x k j,o=.ref p/\i=.int k/\H p=!.lst x/\ixN x.length k=!j/\Q (upd H p<|.lst<|x.set j v)
theorem Dn:Mx X LZ:=by
 intro E s y H o i v L M u Q I B C A h;let#[p,z,k,j,rfl,rfl,g,K,q]:=h;cases B;let#[t,rfl]:=C;let#[a,n,r,c,J]:=I.lst g;let#[b,O,m,l]:=zE K;let e:=r.length;let N:=kH;let x:=
  I.lstUpd g c (xK a n j u) (r.set A j) (by rwa[Zp]) s.toks
 by_cases w:0<=k
 .have f:k.toNat=j:=by rw[seqIndex_of w l]at b;exact YG b
  exact W.ki_setAt c w (by lia) (by rwa[YB,<-e])<|by rw[f];exact#[_,x,q]
 .have f:(k+a.toArray.size).toNat=j:=by rw[seqIndex_neg (by lia) m]at b;rw[YB,<-e];exact YG b
  exact W.ki_setBack c (by lia) (by rwa[YB,<-e]) (by lia)<|by rw[f];exact#[_,x,q]
theorem uH lo hi n:(sliceBounds lo hi () n).1=(HT.sIx n 0 lo)/\(sliceBounds lo hi () n).2.1=(HT.sIx n n hi)/\(sliceBounds lo hi () n).2.2=1:=by
 exact#[?_,?_,qx]
 .cases lo with
  |none=>simp[sliceBounds,HT.sIx]
  |some i=>
   simp[sliceBounds,HT.sIx];by_cases h:i<0
   .simp[h]<;>lia
   .simp[h]<;>lia
 .cases hi with
  |none=>simp[sliceBounds,HT.sIx]
  |some i=>
   simp[sliceBounds,HT.sIx];by_cases h:i<0
   .simp[h]<;>lia
   .simp[h]<;>lia
def qK(its:List Value)lo hi:slicePick its.toArray lo hi ()=((its.drop (HT.sIx its.length 0 lo)).take (HT.sIx its.length its.length hi-HT.sIx its.length 0 lo)).toArray:=by let#[b,a,h]:=uH lo hi its.toArray.size;delta slicePick;rw[b,a,h];simp only[sliceRange_one,pick_run]<;>rfl
def NV(K:Kq):V->Option Int->Option Int->Hp->VK->Prop:=λx lo h H Q=>∃a b,x=.ref a/\SqL K H a b/\∀p,H p=()->Q (.ref p) (upd H p<|.lst<|Aq b lo h)
theorem Gj:SlR X (NV X.K):=by intro C s y H x v A z lo f B Q I i w j p h;let#[a,c,rfl,u,q]:=h;cases i;let#[l,r,g,m]:=I.list u;let e:=r.length;exact#["list",_,slot_list_getitem.lookup,g.isList.typeIs,?_];exact wpAny_getItem_list_slice g.isList w j p .none (by simp) ?_ (by rw[YB]<;>lia);rw[qK,<-e];exact#[.ref s.heap.objs.size,_,I.laid (λb E q=>Yf _ q) (Yp _) ?_,qx,q _<|I.hok.fresh<|Yp _];exact#[YF (uX c lo f) m,_,0,(r.drop _).take _,Ys _ qx]
theorem t7:CallR X (.builtin "len") (λxs H Q=>∃p ys,xs=[.ref p]/\(SqL X.K H p ys\/SqT X.K H p ys)/\Q (.int ys.length) H):=by
 intro l s g H xs j Q I r h;let#[p,ys,rfl,hq,q]:=h;let#[u,rfl,e]:=fE r;cases e;let m:=kH;rcases hq with hq|hq
 .let#[i,b,c,f]:=I.list hq;let a:=b.length;exact Calls.call_len_list c.isList (by simp<;>lia) #[.int ys.length,H,I.tok _,#[s.toks+1,by rw[YB,a]],q]
 .let#[i,b,c,f]:=I.tuple hq;let a:=b.length;exact len_tuple c (by simp<;>lia) #[.int ys.length,H,I.tok _,#[s.toks+1,by rw[YB,a]],q]
theorem sN:CallR X (.builtin "len") (λxs H Q=>∃z,xs=[.str z]/\z.length<=sizeLine/\Q (.int z.length) H):=by intro p s a H xs b Q I r h;let#[z,rfl,c,q]:=h;let#[u,rfl,t,rfl]:=fE r;let e:=kH;exact len_str (by lia) #[.int z.length,H,I.tok _,#[_,qx],q]
def CallR.or{f}{r c}(h:CallR X f r)(h':CallR X f c):CallR X f (λxs H Q=>r xs H Q\/c xs H Q):=by
 intro p s a H xs u Q I b q;rcases q with q|q
 .exact h p s a H xs u Q I b q
 .exact h' p s a H xs u Q I b q
def tV:CallR X (.type "list") (λxs H Q=>∃p ys,xs=[.ref p]/\(SqL X.K H p ys\/SqT X.K H p ys)/\∀l,H l=()->Q (.ref l) (upd H l (.lst ys))):=by
 intro J s C H xs L Q I r h;let#[p,ys,rfl,hq,q]:=h;let#[u,rfl,E]:=fE r;cases E;have fin:∀i,Vals ys i->ys.length<=sizeLine->∀a f,(∀b B,s.heap.get? b=!B->a.get? b=!B)->
   a.get? s.heap.objs.size=some {cls:=.type "list",dict:=(),data:=.seq i.toArray f,slots:=#[[]]}->EP X J C Q _ {s with heap:=a }:=λi c j a f g e=>
  #[.ref s.heap.objs.size,_,I.laid g (Yp _)<|show ObjOk X.prog X.w _ a _ (.lst ys)from#[j,i,f,c,e],qx,q _<|I.hok.fresh<|Yp _]
 rcases hq with hq|hq
 .let#[i,c,x,j]:=I.list hq;let m:=c.length;let#[o,y,A,n,z]:=x.isList;exact call_list_seq p (.inl qx) y A z (λa f g e=>fin i c j a f g e)<|by simp<;>lia
 .let#[i,c,x,j]:=I.tuple hq;let m:=c.length;let#[o,y,A,n,z]:=x;exact call_list_seq p (.inr qx) y A z (λa f g e=>fin i c j a f g e)<|by simp<;>lia
def qU:CallR X (.type "tuple") (λxs H Q=>∃p ys,xs=[.ref p]/\((SqL X.K H p ys/\∀l,H l=()->Q (.ref l) (upd H l (.tup ys)))\/(SqT X.K H p ys/\Q (.ref p) H))):=by
 intro m s j H xs E Q I r h;let#[p,ys,rfl,h]:=h;let#[u,rfl,A]:=fE r;cases A;rcases h with⟨g,q⟩|⟨g,q⟩
 .let#[i,c,f,x]:=I.list g;let y:=c.length;exact call_tuple_list f.isList (λa B=>?_) (by simp<;>lia);let z:=I.kept (t':=s.toks) B;let C:=
   z.laid (t':=s.toks) (λb o e=>Yf _ e) (Yp _)<|show ObjOk X.prog X.w _ _ _ (.tup ys)from#[x,i,c,IsTup.new _ _,NoD.new _ _]
  exact#[.ref a.objs.size,_,C,qx,q _<|z.hok.fresh<|Yp _]
 .let#[i,c,f,x]:=I.tuple g;exact call_tuple_same f #[.ref p,H,I,qx,q]
def tyV(K:Kq)(T:String)(x:V)(H:Hp):Prop:=match x with
 |.str _=>T = "str"
 |.int _=>T = "int"
 |.ref p=>(T = "list"/\∃b,SqL K H p b)\/(T = "tuple"/\∃o,K.lookup p=!o/\o.cls=.type "tuple"/\o.dict=()) \/
   (T = "dict"/\((∃a,H p=!.dK a)\/∃a,H p=!.dT a))\/(T = "set"/\∃S n,H p=!.set S n)
 |_=>False
def KN{x}(I:Inv X pz σ H s)(r:RelV x v)(ty:tyV X.K T x H):s.TypeIs v T/\∀a,v=.ref a->∃ob,s.heap.get? a=!ob/\ob.dict=():=by
 cases x with
 |str z=>
  let#[t,rfl]:=r;cases(show T = "str" from ty);exact#[typeIs_str s z t,λy e=>nomatch e]
 |int i=>
  let#[t,rfl]:=r;cases(show T = "int" from ty);exact#[typeIs_int s i t,λy e=>nomatch e]
 |ref p=>
  cases r;rcases ty with⟨rfl,w,q⟩|⟨rfl,o,h,u,g⟩|⟨rfl,h⟩|⟨rfl,S,n,h⟩
  .let#[m,_,l,_]:=I.list q;exact#[l.isList.typeIs,λa e=>?_];cases e;let#[o,n,e,c,g,_]:=l;exact#[o,e,g]
  .exact#[#[o,I.kIn p o h,u],λa e=>?_];cases e;exact#[o,I.kIn _ o h,g]
  .have z:∃o,s.heap.get? p=!o/\o.ExactDict:=by
    rcases h with⟨f,h⟩|⟨f,h⟩
    .let#[_,_,_,_,o,_,_,e,b,_]:=I.hok p _ h;exact#[o,e,b]
    .let#[_,_,_,_,o,_,_,e,b,_]:=I.hok p _ h;exact#[o,e,b]
   let#[o,e,b]:=z;exact#[#[o,e,b.1],λa j=>?_];cases j;exact#[o,e,b.2.1]
  .let#[o,_,_,_,e,b,_]:=I.hok p _ h;exact#[#[o,e,b.1],λa j=>?_];cases j;exact#[o,e,b.2.1]
 |_=>exact False.elim ty
def tBM(K:Kq)(T:String)(r:V->List V->Hp->VK->Prop)(to:TE)(t:TA):TE:=λa H Q=>to a H λx b=>tyV K T x b/\t a b λc e=>r x c e Q
variable{t:TA}{T id:String}{r:V->List V->Hp->VK->Prop}
def qq(E:PlainAttrs T)(slot:Slot T name id)(i:typeOf (.builtin id)=pure (.type "method_descriptor"))(L:MtR X id r)(J:PE X o to)(M:PA X (e::es) t)(c:attributeBase o name X.env (eval o X.env)=eval o X.env:=by rfl)(f:((backTo cpos<|starEach (e::es) X.env).all (λx=>(not<|x.1))&&(backToKw cpos<|keywordEach [] X.env).all (λx=>x.1.isSome)
   && decide ((e::es).length+([]:List Keyword).length+(if([]:List Keyword).isEmpty then 0 else 1)<30)):=by rfl)(b:(apos.endLine == cpos.line):=by rfl)(hs:starEach (e::es) X.env=(false,eval e X.env)::starEach es X.env:=by rfl)(a:(backTo cpos<|starEach es X.env).any (·.1)=false:=by rfl):PE X (.Call (.Attribute o name apos) (e::es) [] cpos) (tBM X.K T r to t):=by
 intro p s g H Q I h;exact wpAny_Call_method_late c f b rfl<|bh (J p s g H _ I h) λv z x S q l j=>?_;let#[ty,C]:=j;let#[O,N]:=KN q l ty;exact#[T,id,E,slot,i,O,N,?_];let m:=M cpos p z g S _ q C;rw[hs]at m ⊢;exact Calls.callWith_builtin (by simp_all)<|VT ?_;exact bh m λw y u R P A B=>L p y g R x u v w Q P l A B
end
def MtM(X:Cx)(id:String)(r:V->List V->Hp->VK->Prop):=
 ∀(p:Kp) s (a:St) H x b v u Q,Inv X p a H s->RelV x v->Vals b u->r x b H Q->
  wpAny (model X.prog X.w) X.A (call (.builtin id) (v::u)) (EP X p a Q) X.xe s
def Vals.one{x}(h:Vals [x] us):∃u,us=[u]/\RelV x u:=fE h
def Vals.two{x}(h:Vals [x,y] us):∃u v,us=[u,v]/\RelV x u/\RelV y v:=zZ h
theorem Vals.eraseIdx:∀{xs}{us} i,Vals xs us->Vals (xs.eraseIdx i) (us.eraseIdx i)
 |_,_,_,.nil=>.nil
 |_,_,0,.cons _ t=>t
 |_,_,i+1,.cons r t=>.cons r<|Vals.eraseIdx i t
theorem sg{a:Type}:∀(l:List a) i,(l.eraseIdx i).length<=l.length
 |[],_=>Yp _
 |_::_,0=>ZZ _
 |_::r,i+1=>VL<|sg r i
section
variable{b:Addr}{zs:List V}
def Inv.lset{f}(I:Inv X pz σ H s)(c:H l=!.lst xs)(e:s.heap.get? l=some {cls:=.type "list",data:=.seq its.toArray n})(a:f its.toArray=its'.toArray)(hv:Vals ys its')(hz:ys.length<=sizeLine):Inv X pz σ (upd H l<|.lst ys) {s with heap:=s.heap.update l<|Obj.mapSeq f,toks:=t' }:=by
 let q:=IsL.update e f;rw[a]at q;exact I.write (by rw[c];exact trivial) (.inl qx) (λg u b h=>(Heap.get?_update_other s.heap _<|Xq b).trans h) #[_,q] ?_;exact#[hz,its',_,hv,q]
def Inv.lnew(I:Inv X pz σ H s)(hv:Vals ys its)(hz:ys.length<=sizeLine):Inv X pz σ (upd H s.heap.objs.size<|.lst ys) {s with heap:=s.heap.push {cls:=.type "list",data:=.seq its.toArray},toks:=t' }:=
 I.laid (λz z q=>Yf _ q) (Yp _) #[hz,its,0,hv,Ys _ qx]
def Inv.fresh(I:Inv X pz σ H s):H s.heap.objs.size=():=I.hok.fresh<|Yp _
def Inv.lstM(I:Inv X pz σ H s)(h:H l=!.lst xs):xs.length<=sizeLine/\∃(its:List Value) (n:Nat),Vals xs its/\xs.length=its.length/\s.heap.get? l=some {cls:=.type "list",data:=.seq its.toArray n}:=by let#[z,its,n,r,e]:=I.hok l _ h;exact#[z,its,n,r,r.length,e]
theorem DM(h:n<=sizeLine):Builtin.List.listTooLong n=false:=by delta Builtin.List.listTooLong;exact YD<|by lia
end
def GF:V->List V->Hp->VK->Prop:=λx b H Q=>∃l a y,x=.ref l/\b=[y]/\H l=!.lst a/\a.length<sizeLine/\Q .non (upd H l<|.lst<|a++[y])
theorem jJ:MtM X "list.append" GF:=by intro p s g H x m v o Q I b c h;let#[l,j,y,rfl,rfl,a,w,q]:=h;cases b;let#[u,rfl,f]:=c.one;let#[z,i,n,r,A,e]:=I.lstM a;exact Uq Xw #[_,e,qx] F.entry_list_append (F.args_list_append_2 _ _) (list_append l i.toArray n u<|by rw[YB];lia) #[e,?_];exact#[.non,_,I.lset a e (by simp) (r.append<|.cons f .nil) ?_,qx,q];rw[Yr,YN];lia
def FY:V->List V->Hp->VK->Prop:=λx c H Q=>∃l b a z,x=.ref l/\c=[.ref b]/\H l=!.lst a/\H b=!.lst z/\a.length+z.length<=sizeLine/\Q .non (upd H l<|.lst<|a++z)
theorem BN:MtM X "list.extend" FY:=by
 intro M s B H x K v L Q I j m h;let#[l,b,J,C,rfl,rfl,g,y,N,q]:=h;cases j;let#[u,rfl,o]:=m.one;cases o;let#[z,a,n,r,O,e]:=I.lstM g;let#[E,i,n2,p,w,A]:=I.lstM y;have f:a.toArray.size+i.toArray.size<=sizeLine:=by rw[YB,YB];lia
 have c:¬((not<|a.toArray.isEmpty)&&Builtin.List.listTooLong (a.toArray.size+i.toArray.size)):=by rw[DM f,XY];exact Yj
 exact Uq F.slot_list_extend #[_,e,qx] F.entry_list_extend (F.args_list_extend_2 _ _)
  (AutoSeq1.list_extend_list_list_0 l a.toArray n b i.toArray n2 c (by rw[YB];lia)<|by lia) #[e,A,?_]
 exact#[.non,_,I.lset g e (by simp) (r.append p) ?_,qx,q];rw[Yr];lia
def EG:V->List V->Hp->VK->Prop:=λx b H Q=>∃l a i k y,x=.ref l/\b=[.int i]/\H l=!.lst a/\-(2^63)<=i/\i<2^63/\seqIndex? i a.length=!k/\a[k]?=!y/\Q y (upd H l<|.lst<|a.eraseIdx k)
theorem E4:MtM X "list.pop" EG:=by
 intro M s J H x K v L Q I g j h;let#[l,f,i,k,y,rfl,rfl,c,E,C,B,o,q]:=h;cases g;let#[u,rfl,m]:=j.one;let#[t,rfl]:=m;let#[z,a,n,r,A,e]:=I.lstM c;let#[w,p,b]:=r.get o;exact Uq F.slot_list_pop #[_,e,qx] F.entry_list_pop (F.args_list_pop_2 _ _)
  (MeetsSeq.list_pop_at l a.toArray n i t k w (fitsIndex_both E C) (by rwa[YB,<-A]) (by rwa[<-Zz])<|by rw[YB];lia) #[e,?_]
 exact#[y,_,I.lset c e ?_ (r.eraseIdx k) ?_,b,q]
 .rw[List.eraseIdxIfInBounds_toArray]
 .have:=sg f k;lia
end L2
namespace Att
open PySem PySem.W PySem.Calls PyProof.Rows
def nE{P}:∀ns vs,WellAll P h vs (ns.map WData.int)->IntsAre vs ns:=by
 intro ns;induction ns with
 |nil=>
  intro vs w;cases w;exact .nil
 |cons n ns ih=>
  intro vs w;cases w with
  |cons a b=>
   cases a;exact .cons _ _<|ih _ b
theorem AO{l:OpenLaw}(s:l.most=!n){P}{b}(c:l.row.toRowW.claim.pre args)(i:WellAll P h b args):∃a vs ns,b=[Value.ref a]/\args=[WData.list<|ns.map WData.int]/\h.get? a=some {cls:=.type "list",data:=.seq vs.toArray}/\IntsAre vs ns/\ns.length<=n:=by
 let j:=(pre_splitW c).1;have m:l.pre.holds [] {args:=args}:=(pre_splitW c).2;let#[d,r,rfl,y,x]:=hasAllW_cons j;obtain rfl:=hasAllW_nil x;let#[z,rfl,u]:=hasW_list y;let#[ns,rfl]:=items_int u;have e:ns.length<=n:=by
  have g:(WTm.not<|.lt (.lit<|.int n)<|.len<|.arg 0).holds [] {args:=[.list<|ns.map .int]}:=by let g:=(holds_andW m).1;rwa[s]at g
  let f:=condW_of g<|w_not<|w_lt w_lit<|w_len_list<|w_arg qx;exact Nat.le_of_not_lt λq=>?_
  first
   |(rw[decide_eq_true p]at f;exact absurd f _)
   |(simp at f;lia)
 cases i with
 |cons o w=>
  cases w;cases o with
  |list ho hall=>exact#[_,_,ns,qx,qx,ho,nE ns _ hall,e]
def Bu(l:OpenLaw)args:l.row.toRowW.claim.post args (.bool true) args:=
 postW_of 
  (show WShape.has [] _ .bool by first|rfl|decide|simp)
  (show(WTm.eq .res _).value [] {args:=args,res:=!_,after:=args}=!.bool _ from w_eq_bool (w_res qx) w_lit) qx
def attach_call{l:OpenLaw}{c}{X}{C}(J:l.most=!n)(u:d.params.defaults=[])(call:∀w b s mg m fa o pm cd doc a vs ns,
   Ground q c [] X w b mg m s.heap->C w s.heap->
   s.heap.get? fa=!o->o.data=.func (docDef d.name d.params d.body d.scope pm cd doc)->s.heap.CodeRec cd d.name->mg d.name=!.ref fa->
   s.heap.get? a=some {cls:=.type "list",data:=.seq vs.toArray}->IntsAre vs ns->ns.length<=n->s.gens=#[[]]->
   codeAny (model l.prog w) callerA (.call (.ref fa) #[[.ref a],[]]) (λr s'=>r=.ok (.ret<|.bool true)/\OldK s.heap s'.heap/\s'.os=s.os/\AllBare s'.gens) s):WalkO q c X C l.row.toRowW d [] (λf vs=>PySem.call f vs):=by
 intro w b s mg m G Y fa o pm cd doc R kV I N x A p M B y S e z E j L;obtain rfl:R=.none:=Dflts.none A u;obtain rfl:kV=.none:=Dflts.noKw A;let#[a,vs,ns,rfl,rfl,g,h,i]:=AO J e j;exact enter_call<|codeAny_mono (call w b s mg m fa o pm cd doc a vs ns G Y I (fd_plain N) x p g h i M) λr s' H=>?_;let#[rfl,Q,P,O]:=H;exact#[.inl #[.bool true,.bool true,[],qx,λv=>rfl,.bool true,Bu l _,λv=>#[List.Pairwise.nil,λv K=>(nomatch K)]],Q,P,O]
end Att
namespace L2
open PySem PySem.Spec PyProof.Rows
theorem sq:∀{vs}{ns},IntsAre vs ns->Vals (ns.map V.int) vs
 |_,_,.nil=>.nil
 |_,_,.cons n t h=>.cons #[t,qx]<|sq h
structure TabsOk (K:PySem.W.Frag) (t:Addr):Prop where
 out:K.lookup t=none
 st:t≠cStatics
 hd:∃c,PySem.W.codeHdIn K c t=true
def DY{P}{mb:Ks}{f}{vs}(KX:K.In f.heap)(B:f.heap.Ns mainGlobals mg)(i:f.heap.Ns builtinsNs mb)(hbb:∀x:Str,x ≠ "__name__"->mb x=bootBuiltins x)(Q:f.heap.NoLimit)(hg:f.gens=#[[]])(hmb:∃X ob,mg (Str.ofString "__builtins__")=!Value.ref X/\X≠builtinsNs/\f.heap.get? X=!ob/\ob.cls=Value.type "module"/\ob.dict=!builtinsNs/\ob.data=Data.plain)(E:∀t q p,e_ K t q p->f.heap.get? t=!W.tabObj #[[]]/\TabsOk K t)(R:f.heap.get? a=some {cls:=.type "list",data:=.seq vs.toArray})(hi:IntsAre vs ns)(hl:ns.length<=sizeLine)(hr:Room k callerA)(F:∀base:Heap,K.In base->base.Ns mainGlobals mg->FnOk P w K mg base CX k fa fd [x] sp)(C:∀s u,BindsTo s fd #[[u],[]] [(x,u)])(hsp:∀H:Hp,SqL K H a (ns.map V.int)->sp [.ref a] H (λv G=>v=.bl true) λG G G=>False)(hCX:∀H e s',CX [] H f (λG G G=>False) e s'->False):codeAny (model P w) callerA (.call (.ref fa) #[[.ref a],[]]) (λr s'=>r=.ok (.ret<|.bool true)/\OldK f.heap s'.heap/\s'.os=f.os/\AllBare s'.gens) f:=by
 let rv:=sq hi;let N:=hi.length;have at':∀q p,¬e_ K a q p:=λq p z=>by have:=(E a q p z).1;rw[R]at this;cases this
 have A:∀H:Hp,SqL K H a (ns.map V.int)->HOk P w H f.heap->(∀t q p,e_ K t q p->H t=!.tbl q p)->(∀b,H b=()\/(b=a/\K.lookup a=()/\∃o u,H b=!.frz o u)\/∃q p,e_ K b q p/\H b=!.tbl q p)->
   codeAny (model P w) callerA (.call (.ref fa) #[[.ref a],[]]) (λr s'=>r=.ok (.ret<|.bool true)/\OldK f.heap s'.heap/\s'.os=f.os/\AllBare s'.gens) f:=by
  intro H hS O hT hO;have g:∀{b}{o},f.heap.get? b=!o->H b=()->(tE f.heap H).get? b=!o:=λe n=>CA e n
  have J:∀{b}{o},f.heap.get? b=!o->(∀Z n,o.data≠.seq Z n)->(∀Z,o.data≠.fields Z)->H b=():=λ{b o} e d1 d2=>by
   rcases hO b with z|⟨e',_⟩|⟨q,p,z,_⟩
   .exact z
   .subst e';rw[R]at e;cases e;exact absurd rfl<|d1 _ _
   .rw[(E b q p z).1]at e;cases e;exact absurd rfl<|d2 _
  have j:∀{b}{m},f.heap.Ns b m->(tE f.heap H).Ns b m:=λ{b m} #[o,es,ep,e,d,r]=>#[o,es,ep,g e (J e (λG G z=>by rw[d]at z;cases z) λG z=>by rw[d]at z;cases z),d,r]
  let T:=λb o e=>g (KX b o e)<|by
   rcases hO b with z|⟨e',z,_⟩|⟨q,p,z,_⟩
   .exact z
   .subst e';rw[z]at e;cases e
   .rw[(E b q p z).2.out]at e;cases e
  have hM:Mod K mg _:=#[T,j B,#[mb,j i,hbb],let #[mc,h1,h2]:=Q;#[mc,j h1,h2],λt q p z=>by
   let#[X,ob,m1,m2,M,m4,m5,L]:=hmb;exact#[X,ob,m1,m2,λz=>?_,λI=>?_,g M (J M (λG G z=>by rw[L]at z;cases z) λG z=>by rw[L]at z;cases z),m4,m5,L]
   .let#[o,es,ep,e,d,_]:=B;rw[<-z,M]at e;cases e;rw[L]at d;cases d
   .rw[I,(E t q p z).1]at M;cases M;cases L]
  have e0:Env0 P w K mg _ callerA [] f H:=#[qx,hM,λb o e=>G4 e,Xj<|Bp _ _,trivial,λb i=>absurd (show b∈([])from i)<|by simp,O,.of_eq hg,hT]
  exact Xo ((F _ T<|j B).run callerA [] f H #[[.ref a],[]] [.ref a] [.ref a] _ _ hr e0 (C f _) (.cons qx .nil)<|hsp H hS) λr s' h=>?_;cases r with
  |error e=>exact(hCX H e s' h).elim
  |ok fl=>
   cases fl with
   |next=>exact False.elim h
   |brk=>exact False.elim h
   |cont=>exact False.elim h
   |ret u=>
    let#[v,H',os,Y,un,l,r',q]:=h;let q':=q;subst q';obtain rfl:u=Value.bool true:=r';exact#[qx,#[λb o e=>?_,λb o e=>un.there b o e<|by simp],os,Y];rcases hO b with z|⟨_,_,ob,Z,z⟩|⟨q,p,z1,z⟩
    .exact .inl<|un.keep b o e z (by intro z;exact absurd (show b∈([])from z)<|by simp)<|by simp
    .let#[e1,_]:=O b _ z;let#[U,_]:=l b _<|un.stl b _ qx z;rw[e]at e1;cases e1;exact .inl U
    .let#[t1,t2]:=E b q p z1;let#[ps,U,_]:=l b _<|un.stl b _ qx z;rw[e]at t1;cases t1;let#[c,hc]:=t2.hd;exact .inr<|.inl #[((W.codeHd_of_K KX hc).tab e).isCodeTable,qx,#[[]],ps,qx,by simpa using U]
 have S:∀b u,((fy K).lookup b).map (λr=>HO.tbl r.1 r.2)=!u->∃q p,e_ K b q p/\u=.tbl q p:=λb u e=>by
  let#[#[q,p],e1,U]:=YK.mp e;exact#[q,p,e1,U.symm]
 have okT:∀{H:Hp}{b:Addr}{u:HO},((fy K).lookup b).map (λr=>HO.tbl r.1 r.2)=!u->ObjOk P w H f.heap b u:=λ{H b u} e=>by
  let#[q,p,z,rfl]:=S b u e;exact#[#[[]],(E b q p z).1,trivial,.inl qx]
 have tb:∀t q p,e_ K t q p->((fy K).lookup t).map (λr=>HO.tbl r.1 r.2)=!.tbl q p:=λt q p z=>by
  have I:(fy K).lookup t=!(q,p):=z;rw[I];rfl
 have dj:∀b,((fy K).lookup b).map (λr=>HO.tbl r.1 r.2)=()\/∃q p,e_ K b q p/\((fy K).lookup b).map (λr=>HO.tbl r.1 r.2)=!.tbl q p:=λb=>by
  cases e:((fy K).lookup b).map (λr=>HO.tbl r.1 r.2)with
  |none=>exact .inl qx
  |some u=>let#[q,p,z,rfl]:=S b u e;exact .inr #[q,p,z,qx]
 cases hk:K.lookup a with
 |some o=>
  let e:=KX a o hk;rw[R]at e;cases e;exact A (λb=>((fy K).lookup b).map λr=>.tbl r.1 r.2) (.inr #[_,vs.toArray,_,hk,qx,qx,qx,by rw[YB,N];exact hl,by simpa using rv]) (λb u z=>okT z) tb λb=>(dj b).imp id .inr
 |none=>
  exact A (λb=>if b=a then !(.frz {cls:=.type "list",data:=.seq vs.toArray}<|.lst<|ns.map V.int)else((fy K).lookup b).map λr=>.tbl r.1 r.2) (.inl<|.inr #[{cls:=.type "list",data:=.seq vs.toArray},Yk qx]) (λb u z=>?_) (λt q p z=>?_) λb=>?_
  .by_cases i:b=a
   .let I:=(Yk i).symm.trans z;cases I;subst i;exact#[R,by rw[Yc];exact hl,vs,_,rv,R]
   .exact okT<|(Ym i).symm.trans z
  .exact(Ym λe=>by subst e;exact at' q p z).trans<|tb t q p z
  .by_cases i:b=a
   .exact .inr<|.inl #[i,hk,_,_,Yk i]
   .rcases dj b with z|⟨q,p,z,y⟩
    .exact .inl<|(Ym i).trans z
    .exact .inr<|.inr #[q,p,z,(Ym i).trans y]
def walk_ofK{l:W.OpenLaw}{i}{K:Params->W.Frag}{sp:W.Frag->Sp}(O:l.most=!n)(A:n<=sizeLine)(C:d.params.defaults=[])(N:Room k callerA)(S:∀w h,J w h->(K w.params).In h/\∀t q p,e_ (K w.params) t q p->h.get? t=!W.tabObj #[[]]/\TabsOk (K w.params) t)(F:∀w (mg:Ks) fa h,(K w.params).In h->h.Ns mainGlobals mg->mg d.name=!.ref fa->
   ∃fd:FuncData,(∀s u,BindsTo s fd #[[u],[]] [(x,u)]) /\
    ∀base:Heap,(K w.params).In base->base.Ns mainGlobals mg->FnOk l.prog w (K w.params) mg base CX k fa fd [x] (sp<|K w.params))(z:∀K H a (ns:List Int),ns.length<=n->SqL K H a (ns.map V.int)->sp K [.ref a] H (λv r=>v=.bl true) λr r r=>False)(E:∀H s e s',CX [] H s (λr r r=>False) e s'->False):W.WalkO q i XP J l.row.toRowW d [] (λf vs=>call f vs):=by
 exact Att.attach_call O C λw I m mg mb fa o pm cd Z a vs ns G Y ho hd Q B y j c P=>?_;let#[L,M]:=S w _ Y;let#[fd,R,X]:=F w mg fa _ L G.T.g B;exact DY L G.T.g G.T.b G.T.builtins G.T.nolimit P G.T.bmain M y j (YF c A) N X R (λH U=>z _ H a ns c U) λH e s'=>E H m e s'
def HH(s:Stmt)(j:Nat):=match s with
 |.ClassDef _ _ _ body _ _ _ _ _ _ _=>body.getD j<|.Pass #[0,0,0,0]
 |_=>.Pass #[0,0,0,0]
def defArgs(s:Stmt):=match s with
 |.FunctionDef _ a _ _ _ _ _ _ _ _=>a
 |_=>{posonlyargs:=[],args:=[],vararg:=(),kwonlyargs:=[],kw_defaults:=[],kwarg:=(),defaults:=[]}
def defBody(s:Stmt):=match s with
 |.FunctionDef _ _ b _ _ _ _ _ _ _=>b
 |_=>[]
def defScope(s:Stmt):=match s with
 |.FunctionDef _ _ _ _ _ _ sc _ _ _=>sc
 |_=>{kind:=.function,names:=[],isGenerator:=false,isCoroutine:=false}
abbrev CX0:CXT:=λz z z z z z=>False
abbrev E0:XK:=λz z z=>False
def k8:i8 CX0 X E0:=λz z z z z z z h=>h.elim
structure Fun (K:PySem.W.Frag) (x qual:Str) (st:Stmt) (f:Addr) (fd:FuncData):Prop where
 ex:∃(oc:Value) (od:Option Addr) (kV doc pm:Value) (an:Option Addr) (cdv ct:Value) (osl:Array (Option Value)),
  fd=PySem.W.fnOf x qual (defArgs st) (defBody st) (defScope st) .none kV doc pm an cdv ct/\K.lookup f=!#[oc,od,.func fd,osl]/\PySem.W.codeIn K cdv qual=true
 kp:PySem.W.keepIn K (.ref f)=true
section
variable{P:Program}
def Fun.ok(F:Fun K x qual st f fd)(S:FnScope N ps (defScope st))(len:∀vs H Q E,sp vs H Q E->vs.length=ps.length)(a:∀cdv A outer s H vs Q E,Room k (A.deeper<|envOfC qual (defScope st) s.heap.objs.size f cdv)->sp vs H Q E->
   ∃t,PSs (b7 CX0 P w K mg base N qual (defScope st) f cdv A outer s H E).nox (defBody st) t/\t {nx:=λz H'=>Q .non H',rt:=Q} (start N vs) H):FnOk P w K mg base CX0 (k+1) f fd ps sp:=by
 let#[j,i,kV,g,p,u,cdv,m,o,rfl,l,c]:=F.ex;exact zM l c S len λA outer s H vs Q E e b=>?_;let#[t,h,q]:=a cdv A outer s H vs Q E e b;exact#[t,h.nox,q]
def KW{kV doc pm cdv ct}(l:K.lookup f=!#[oc,od,.func (W.fnOf x qual (defArgs st) (defBody st) (defScope st) .none kV doc pm an cdv ct),osl])(c:W.codeIn K cdv qual)(k:W.keepIn K (.ref f)):Fun K x qual st f (W.fnOf x qual (defArgs st) (defBody st) (defScope st) .none kV doc pm an cdv ct):=#[#[oc,od,kV,doc,pm,an,cdv,ct,osl,qx,l,c],k]
end
def pv i(hN:X.N[i]?=!x:=by rfl)(hv:Vis X.env.scope x:=by trivial)(hd:nDb x:=by decide)
  (hcd:nDc x:=by decide):PE X (.Name x pos) (dM i):=yd hN hv hd hcd
def Same(H H':Hp):=∀b o,H b=!o->H' b=!o
def Same.refl H:Same H H:=λz z h=>h
def Same.trans(a:Same H H1)(b:Same H1 H2):Same H H2:=λc o h=>b c o<|a c o h
def Same.free(e:Same H H')(h:H' l=Option.none):H l=Option.none:=by
 cases q:H l with
 |none=>rfl
 |some o=>
  rw[e l o q]at h;cases h
def Same.seq(e:Same H H')(h:SqL K H a xs):SqL K H' a xs:=by
 rcases h with (h|⟨o,h⟩)|h
 .exact .inl<|.inl<|e _ _ h
 .exact .inl<|.inr #[o,e _ _ h]
 .exact .inr h
end L2
set_option maxHeartbeats 4000000
namespace L2
open PySem PySem.Spec PyProof.Rows
def dh(cs:List (Str×Addr)):List (Str×NameKind)->List (Str×Addr)->List (Str×Addr)
 |[],acc=>acc
 |(n,k)::r,acc=>if k == .free then dh cs r ((n,(cs.lookup n).getD 0)::acc)else dh cs r acc
theorem o8(h:∀x∈scope.names,x.2=.free->∃c,env.cells.lookup x.1=!c):closureFor scope env=pure (dh env.cells scope.names []):=by
 have key:∀a b f,
   (∀n k r,f (n,k) r=if k == .free then(cellOf env n>>=λc=>pure<|.yield ((n,c)::r))else pure<|.yield r)->
   (∀x∈a,x.2=.free->∃c,env.cells.lookup x.1=!c)->forIn a b f=pure (dh env.cells a b):=by
  intro a;induction a with
  |nil=>intro b f _ _;rfl
  |cons x r ih=>
   intro b f l j;let#[n,k]:=x;rw[List.forIn_cons,l];delta dh;by_cases g:(k == NameKind.free)
   .rw[Yk g,Yk g];let#[c,m]:=j (n,k) Ye (by simpa using g);have e:cellOf env n=pure c:=by delta cellOf;rw[m]
    rw[e,pure_bind,pure_bind,m];exact ih _ f l λy i=>j y<|Yb _ i
   .rw[Ym g,Ym g,pure_bind];exact ih _ f l λy i=>j y<|Yb _ i
 show(forIn scope.names _ _>>=λo=>pure o)=_;grind
theorem aY{a:Type}y n c(l:List (Str×a)):((n,c)::l).lookup y=if y=n then !c else l.lookup y:=by grind
theorem dO:∀names acc y c,
  (∀x∈names,x.2=.free->∃c,cs.lookup x.1=!c)->(∀y c,acc.lookup y=!c->cs.lookup y=!c)->(dh cs names acc).lookup y=!c->cs.lookup y=!c
 |[],acc,y,c,_,h,e=>h y c e
 |(n,k)::r,acc,y,c,hx,h,e=>by
  delta dh at e;let g:=λx i=>hx x<|Yb _ i
  by_cases b:(k == NameKind.free)
  .rw[Yk b]at e;exact dO r _ y c g (λz d a=>?_) e;let#[j,f]:=hx (n,k) Ye (by simpa using b);rw[aY]at a;split at a
   .rename_i q;subst q;cases a;rw[f];rfl
   .exact h z d a
  .rw[Ym b]at e;exact dO r acc y c g h e
theorem iC:∀names acc y c,
  (dh cs names acc).lookup y=!c->(y,NameKind.free)∈names\/acc.lookup y=!c
 |[],acc,y,c,e=>.inr e
 |(n,k)::r,acc,y,c,e=>by
  delta dh at e;by_cases a:(k == NameKind.free)
  .rw[Yk a]at e;have h:k=.free:=by simpa using a
   rcases iC r _ y c e with q|q
   .exact .inl<|Yb _ q
   .rw[aY]at q;split at q
    .rename_i z;subst z;subst h;exact .inl Ye
    .exact .inr q
  .rw[Ym a]at e;rcases iC r acc y c e with q|q
   .exact .inl<|Yb _ q
   .exact .inr q
theorem iI:∀names acc y,
  ((y,NameKind.free)∈names\/∃c,acc.lookup y=!c)->∃c,(dh cs names acc).lookup y=!c
 |[],acc,y,h=>h.elim (λz=>by cases z) id
 |(n,k)::r,acc,y,h=>by
  delta dh;by_cases a:(k == NameKind.free)
  .rw[Yk a];exact iI r _ y ?_;rcases h with h|⟨c,h⟩
   .rcases Yt.mp h with q|q
    .cases q;exact .inr #[_,by rw[aY,Yk qx]]
    .exact .inl q
   .exact .inr ?_;by_cases q:y=n
    .exact#[_,by rw[aY,Yk q]]
    .exact#[c,by rwa[aY,Ym q]]
  .rw[Ym a];exact iI r acc y ?_;rcases h with h|h
   .rcases Yt.mp h with q|q
    .cases q;exact absurd qx a
    .exact .inl q
   .exact .inr h
theorem uu:∀names (h:Heap) acc y c,(cellsFrom h.objs.size names acc).lookup y=!c->
  (h.objs.size<=c/\(pushCells h names).IsCell c ()/\(y,NameKind.cell)∈names)\/acc.lookup y=!c
 |[],_,_,_,_,e=>.inr e
 |(n,k)::r,h,acc,y,c,e=>by
  delta cellsFrom at e;delta pushCells;by_cases i:(k == NameKind.cell)
  .rw[Yk i]at e ⊢;have g:k=.cell:=by simpa using i
   have j:(h.push {cls:=.type "cell",data:=.cell ()}).objs.size=h.objs.size+1:=Xi ..;rw[<-j]at e;rcases uu r _ _ y c e with⟨f,b,a⟩|q
   .exact .inl #[by rw[j]at f;lia,b,Yb _ a]
   .rw[aY]at q;split at q
    .rename_i z;subst z;cases q;subst g;exact .inl #[Yp _,#[_,Ua r _ _ _<|Ys _ qx,qx],Ye]
    .exact .inr q
  .rw[Ym i]at e ⊢;rcases uu r h acc y c e with⟨f,b,a⟩|q
   .exact .inl #[f,b,Yb _ a]
   .exact .inr q
theorem w6{y}:∀names n acc,(∀k,(y,k)∈names->k≠.cell)->(cellsFrom n names acc).lookup y=acc.lookup y
 |[],_,_,_=>rfl
 |(m,k)::r,n,acc,h=>by
  delta cellsFrom;let b:=λk a=>h k<|Yb _ a
  by_cases a:(k == NameKind.cell)
  .rw[Yk a,w6 r _ _ b,aY,Ym];rintro rfl;exact h k Ye<|by simpa using a
  .rw[Ym a];exact w6 r n acc b
theorem xa:∀names (n:Nat) (acc:List (Str×Addr)),(∀y c,acc.lookup y=!c->c<n)->(∀y z c,acc.lookup y=!c->acc.lookup z=!c->y=z)->
  ∀y z c,(cellsFrom n names acc).lookup y=!c->(cellsFrom n names acc).lookup z=!c->y=z
 |[],_,_,_,h=>h
 |(m,k)::r,n,acc,hlt,h=>by
  delta cellsFrom;by_cases g:(k == NameKind.cell)
  .rw[Yk g];exact xa r (n+1) _ (λy c e=>?_) λy z c e f=>?_
   .rw[aY]at e;split at e
    .cases e;exact ZV _
    .exact ZP<|hlt y c e
   .rw[aY]at e f;split at e<;>split at f
    .rename_i a b;rw[a,b]
    .cases e;exact absurd (hlt z _ f)<|Zh _
    .cases f;exact absurd (hlt y _ e)<|Zh _
    .exact h y z c e f
  .rw[Ym g];exact xa r n acc hlt h
def jh(env:Env)(scope:Scope)(C:Addr):Env:=
 {scope:=relabel scope env,locals:=C,globals:=env.globals,cells:=cellsFrom (C+1) scope.names<|dh env.cells scope.names [],qual:=env.qual,func:=(),code:=env.code,frame:=env.frame,builtins:=env.builtins}
def blk(X:Cx)(scope:Scope)(N:List Str)(s:Shared)(H:Hp)(fp:List Addr)(pz:Kp):Cx where
 prog:=X.prog
 w:=X.w
 K:=X.K
 mg:=X.mg
 base:=X.base
 A:=X.A
 N:=N
 s₀:=s
 H₀:=H
 env:=jh X.env scope s.heap.objs.size
 outer:=X.stack
 stack:=X.stack
 ex:=fp
 fn:=λx=>scope.names.lookup x == some .local||scope.names.lookup x == !.cell
 calm:=X.calm
 pn:=X.pn++pz
 xe:=λz z=>False
structure BlkScope (X:Cx) (scope:Scope):Prop where
 kind:scope.kind=.function
 nd:(scope.names.map (·.1)).Nodup
 free:∀x∈scope.names,x.2=.free->X.env.kindOf x.1=!.cell\/X.env.kindOf x.1=!.free
theorem gO{b:Type}:∀{l:List (Str×b)}{n}{c},(l.map (·.1)).Nodup->(n,c)∈l->l.lookup n=!c
 |[],_,_,_,h=>by cases h
 |(k,v)::r,n,c,nd,h=>by
  rw[aY];rcases Yt.mp h with q|q
  .cases q;rw[Yk qx]
  .let a:=Zd.mp nd;rw[Ym]
   .exact gO a.2 q
   grind
theorem lu:∀(names:List (Str×NameKind)),
  (names.map λ(n,k)=>if(k == NameKind.free&&env.scope.kind == .function&&env.kindOf n == !.cell)then(n,NameKind.cell)else(n,k)).lookup x =
   (names.lookup x).map λk=>if(k == NameKind.free&&env.scope.kind == .function&&env.kindOf x == !.cell)then NameKind.cell else k
 |[]=>rfl
 |(n,k)::r=>by
  show List.lookup x ((if(k == NameKind.free&&env.scope.kind == .function&&env.kindOf n == !.cell) then(n,NameKind.cell)else(n,k))::_)=_;have e:(if(k == NameKind.free&&env.scope.kind == .function&&env.kindOf n == !.cell) then(n,NameKind.cell)else(n,k)) =
    (n,if(k == NameKind.free&&env.scope.kind == .function&&env.kindOf n == !.cell) then NameKind.cell else k):=by split<;>rfl
  rw[e,aY,aY];split
  .rename_i q;subst q;rfl
  .exact lu r
def qC x:(jh env scope C).kindOf x =
  (scope.names.lookup x).map λk=>if(k == NameKind.free&&env.scope.kind == .function&&env.kindOf x == !.cell)then NameKind.cell else k:=lu scope.names
def BlkScope.cl(b:BlkScope X scope)(ok:X.Ok):∀x∈scope.names,x.2=.free->∃c,X.env.cells.lookup x.1=!c:=λx h e=>ok.has x.1<|b.free x h e
theorem gT(b:BlkScope X scope)(I:Inv X pz σ H s){y}{c}(e:(jh X.env scope s.heap.objs.size).cells.lookup y=!c):(s.heap.objs.size<c/\(pushCells (s.heap.push {cls:=.type "dict",data:=.dict #[[]]}) scope.names).IsCell c ()/\(y,NameKind.cell)∈scope.names)\/(X.env.cells.lookup y=!c/\(y,NameKind.free)∈scope.names):=by
 have a:(s.heap.push {cls:=.type "dict",data:=.dict #[[]]}).objs.size=s.heap.objs.size+1:=Xi ..;have j:(cellsFrom (s.heap.push {cls:=.type "dict",data:=.dict #[[]]}).objs.size scope.names<|dh X.env.cells scope.names []).lookup y=!c:=by rwa[a]
 rcases uu _ _ _ _ _ j with⟨i,g,f⟩|h
 .exact .inl #[by rw[a]at i;lia,g,f]
 .exact .inr #[dO _ _ y c (b.cl I.ok) (λx x z=>by cases z) h,?_];rcases iC _ _ _ _ h with q|q
  .exact q
  .cases q
def Jc(b:BlkScope X scope)(I:Inv X pz σ H s)(j:∀a∈fp,kt X pz H a)(g:∀a∈fp,a<s.heap.objs.size):(blk X scope N s H fp pz).Ok:=by
 have m:∀y c,X.env.cells.lookup y=!c->c<s.heap.objs.size:=λy c e=>by let#[v,q]:=I.cell y c e;exact q.lt
 exact#[I.ok.mod,b.kind,I.ok.glob,I.ok.blt,Yp _,λx y c e C=>?_,λx l=>?_,λx c l e=>?_,I.ok.hd,I.ok.frames,.inl qx,λa f=>#[Yy<|g a f,λx c e=>?_],I.bs,YF I.ok.bsz I.sz,λa o e f=>?_,λa f=>?_,I.stack,I.stkFree,I.tab]
 .exact xa scope.names _ _ (λy c q=>?_) (λy z c q p=>?_) x y c e C
  .exact ZP<|m y c<|dO _ _ y c (b.cl I.ok) (λt t z=>by cases z) q
  .exact I.ok.inj y z c (dO _ _ y c (b.cl I.ok) (λt t z=>by cases z) q)<|dO _ _ z c (b.cl I.ok) (λt t z=>by cases z) p
 .have h:(jh X.env scope s.heap.objs.size).kindOf x=!.cell\/(jh X.env scope s.heap.objs.size).kindOf x=!.free:=l;rw[qC]at h;cases q:scope.names.lookup x with
  |none=>rw[q]at h;rcases h with z|z<;>cases z
  |some k=>
   let u:=Zf q;cases k with
   |cell=>exact Xe.mp<|XI scope.names _ _<|.inl q
   |free=>
    let#[c,w]:=iI (cs:=X.env.cells) scope.names [] x<|.inl u;exact Xe.mp<|XI scope.names _ _<|.inr<|by rw[w];rfl
   |_=>rw[q]at h;revert h;simp
 .rcases gT b I e with⟨i,_,_⟩|⟨_,B⟩
  .exact ZO i
  .exfalso;let q:=gO b.nd B;have h:(scope.names.lookup x == some .local||scope.names.lookup x == !.cell):=l;rw[q]at h;revert h;decide
 .rcases gT b I e with⟨i,_,_⟩|⟨i,_⟩
  .intro z;subst z;exact absurd (ZL (g _ f) i)<|Zh _
  .exact(j a f).2.2.2.2.1 x c i
 .let A:=(j a f).2.2.2.1;rcases A with z|z
  .exact I.ok.noex a o e z
  .exact absurd (YA (Yv e)<|YF I.ok.bsz z)<|Zh _
 .intro z;rcases Yt.mp (I.stkSub a z)with q|q
  .exact(j a f).2.1 q
  .exact(j a f).2.2.1 q
def eX(own:Nat)(ix:List Nat)(σ:St):St:=List.replicate own ()++ix.map λj=>(σ[j]?).join
def jT own ix σ:(eX own ix σ).length=own+ix.length:=by delta eX;rw[Yr,YM,Yc]
theorem sC(h:(eX own ix σ)[i]?=!!v):own<=i/\∃j,ix[i-own]?=!j/\σ[j]?=!!v:=by
 delta eX at h;grind
structure Caps (X:Cx) (scope:Scope) (N:List Str) (own:Nat) (ix:List Nat):Prop where
 len:N.length=own+ix.length
 cap:∀(i:Nat) (j:Nat) (x:Str),N[own+i]?=!x->ix[i]?=!j->X.N[j]?=!x/\scope.names.lookup x=!.free
theorem By(b:BlkScope X scope)(cp:Caps X scope N own ix)(I:Inv X pz σ H s)(Q:∀a∈fp,kt X pz H a)(A:∀a∈fp,a<s.heap.objs.size):Inv (blk X scope N s H fp pz) [] (eX own ix σ) H {s with heap:=pushCells (s.heap.push {cls:=.type "dict",data:=.dict #[[]]}) scope.names}:=by
 have f:∀a o,s.heap.get? a=!o->(pushCells (s.heap.push {cls:=.type "dict",data:=.dict #[[]]}) scope.names).get? a=!o:=λa o e=>Ua _ _ a o<|Yf _ e
 exact#[Jc b I Q A,qx,I.bare,Un.kept f,#[_,(Heap.Ns.new s.heap _).keeps<|Ua _ _,λi x v e1 Z e3=>?_],λy c e=>?_,I.fresh,λy c e=>?_,λp O=>?_,I.hok.kept f,?_]
 .let#[ho,j,U,T]:=sC Z;have E:N[own+(i-own)]?=!x:=by rwa[show own+(i-own)=i by lia]
  let#[R,h]:=cp.cap _ j x E U;let#[m,hn,P]:=I.loc;let C:=b.free _ (Zf h) qx;have M:Vis X.env.scope x:=C.elim (λz=>.inr<|.inl z) λz=>.inr<|.inr z
  let#[u,r,L]:=P j x v R T M;exact#[u,r,.inr #[?_,?_]]
  .show(jh X.env scope s.heap.objs.size).kindOf x=!.cell\/(jh X.env scope s.heap.objs.size).kindOf x=!.free;rw[qC,h];show some (if _ then NameKind.cell else NameKind.free)=!.cell\/some (if _ then NameKind.cell else NameKind.free)=!.free;split
   .exact .inl qx
   .exact .inr qx
  .rcases L with⟨k,_⟩|⟨_,c,Y,z⟩
   .rw[k]at C;rcases C with z|z<;>cases z
   .exact#[c,?_,z.keeps f];show(cellsFrom _ scope.names _).lookup x=!c;rw[w6]
    .let#[c',g]:=iI (cs:=X.env.cells) scope.names [] x<|.inl<|Zf h;have:=dO _ _ x c' (b.cl I.ok) (λt t z=>by cases z) g;rw[Y]at this;cases this;exact g
    .intro k B z;rw[gO b.nd B]at h;cases h;cases z
 .rcases gT b I e with⟨_,S,_⟩|⟨l,_⟩
  .exact#[_,S]
  .let#[v,z]:=I.cell y c l;exact#[v,z.keeps f]
 .rcases gT b I e with⟨l,_,_⟩|⟨l,_⟩
  .exact I.hok.fresh<|ZO l
  .exact I.freeC y c l
 .have w:p∈X.pn++pz:=by
   have:p∈(X.pn++pz)++[]:=O
   rwa [YZ]at this
  let#[e,n,K,J,d]:=I.pin p w;exact#[f _ _ e,n,Yy<|Yv e,λz=>?_,d];rcases Yt.mp (I.stkSub p.1 z)with q|q
  .exact K q
  .exact J q
 .rw[jT];exact cp.len.symm
def u8{b:St}(I:Inv X pz σ H s)(m:∀a∈fp,kt X pz H a)(J:Inv (blk X scope N s H fp pz) pl b H' s')(hs:Heap.SameBut s.heap.objs.size s'.heap h'):Inv X pz σ H' {s' with heap:=h' }:=by
 have i:H' s.heap.objs.size=():=J.free;have f:∀a o,s.heap.get? a=!o->a≠s.heap.objs.size:=λa o e=>Yy<|Yv e
 let u:=J.base;exact I.call' J.os #[λa o e n g h=>(hs.2 a<|f a o e).trans<|u.keep a o e n g h,λa o e n g h=>?_,λa o e n h=>u.free a o e n h,λa o e h=>?_,u.stl] (λa o e=>?_) J.bare λa p=>?_
 .let#[j,q]:=u.slot a o e n g h;exact#[j,(hs.2 a<|f a o e).trans q]
 .let#[l,q]:=u.there a o e h;exact#[l,(hs.2 a<|f a o e).trans q]
 .exact(J.hok a o e).stay (λc v hc q=>(hs.2 c ?_).trans q) (λz q=>q) λz z z q=>q;rintro rfl;rcases hc with rfl|hc
  .rw[i]at e;cases e
  .rw[i]at hc;cases hc
 .let#[_,h,_,y,x,w]:=m a p;exact#[y,h,x,w]
def CW{pl:Kp}{H'}(b:BlkScope X scope)(I:Inv X pz σ H s)(l:∀a∈fp,kt X pz H a)(h:∀a∈fp,a<s.heap.objs.size)(j:∀a∈fp,H' a=()):∀a∈fp,kt (blk X scope N s H fp pz) [] H' a:=λa f=>by
 let#[_,w,u,y,o,m]:=l a f;exact#[j a f,Yy<|h a f,λz=>?_,.inl f,λx c e=>?_,λp i=>?_]
 .rcases Yt.mp (I.stkSub a z)with q|q
  .exact w q
  .exact u q
 .rcases gT b I e with⟨q,_,_⟩|⟨q,_⟩
  .intro z;subst z;exact absurd (ZL (h _ f) q)<|Zh _
  .exact o x c q
 .have g:p∈X.pn++pz:=by
   have:p∈(X.pn++pz)++[]:=i
   rwa [YZ]at this
  exact m p g
def xF{Q}cl
  (h:∀c:Env,c={scope:=scope,locals:=s.heap.objs.size,globals:=env.globals,cells:=cellsFrom (s.heap.objs.size+1) scope.names cl,qual:=env.qual,func:=(),code:=env.code,frame:=env.frame,builtins:=env.builtins}->
   Q c {s with heap:=pushCells (s.heap.push {cls:=.type "dict",data:=.dict #[[]]}) scope.names}) :
  wpAny M A (newFunctionEnv scope env.globals cl [] env.qual () .none<|!env) Q E s:=by
 simp only[newFunctionEnv,Option.isSome_some,VJ];exact Yd<|wpAny_alloc ?_;exact Yd<|wpAny_layCells _ (λe a cells=>by cases b:a == NameKind.cell<;>simp) _ _ _ _ ?_;rw[show({s with heap:=s.heap.push {cls:=.type "dict",data:=.dict #[[]]} }:Shared).heap.objs.size=s.heap.objs.size+1 from Xi ..];exact Yd ?_;exact Yi<|Yi<|h _ qx
def AD{R:Kr}{a}(I:Nat->Shared->Prop)(turn:∀n s,I n s->wpAny (model prog w) A (pyNext it) (λr b=>match r with
   |none=>R (.ok .next) b
   |some v=>wpAny (model prog w) A (letOwnedTupleGo a it v) (λt b=>wpAny (model prog w) A (assign a env v) (λt l=>
     wpAny (model prog w) A (forIn ifs true λc r=>if r then do let ok <-isTrue c env<|eval c env;pure (ForInStep.yield ok)else pure<|ForInStep.yield r) (λok f=>
      if ok then wpAny (model prog w) A (eval elt env) (λx j=>
       wpAny (model prog w) A (call (.builtin "list.append") [q,x]) (λt i=>∃m,m<n/\I m i) (λt t=>False) j) (λt t=>False) f
      else ∃m,m<n/\I m f) (λt t=>False) l) (λt t=>False) b) (λt t=>False) b) (λt t=>False) s)
  n (h:I n s) :
  codeAny (model prog w) A (.compLoop (.ListComp elt [#[a,iter,ifs,0]] scope pos) 0 it q env) R s:=by
 exact codeAny_loop qx I (λn s C=>?_) n h;exact wpAny_noted ?_;rw[compTurn_list];exact Yd<|wpAny_standAt<|Yd<|ZE (turn n s C) (λr b o=>?_) λt t g=>g.elim;cases r with
 |none=>exact Yi o
 |some v=>
  exact Yd<|ZE o (λt B p=>?_) λt t g=>g.elim;exact Yd<|ZE p (λt l z=>Yd<|ZE z (λok f e=>?_) λt t g=>g.elim) λt t g=>g.elim;cases ok with
  |true=>
   rw[Yk qx]at e;simp only[VJ];exact Yd<|Yd<|ZE e (λx j y=>Yd<|ZE y (λt i u=>Yi<|Yi #[qx,u]) λt t g=>g.elim) λt t g=>g.elim
  |false=>
   rw[Ym Yj]at e;simp only[Xf,VB];exact Yi #[qx,e]
def Og:TT:=λz H Q=>Q true H
def p8(X:Cx)(ifs:List Expr)(t:TT):=
 ∀(p:Kp) s (a:St) H Q,Inv X p a H s->t a H Q->
  wpAny (model X.prog X.w) X.A (forIn ifs true λc r=>if r then do let ok <-isTrue c X.env<|eval c X.env;pure (ForInStep.yield ok)else pure<|ForInStep.yield r) (TP X p a Q) X.xe s
def Cp:p8 X [] Og:=λz z z H z I h=>Yi #[H,I,h]
def EA(h:PT X c t):p8 X [c] t:=λp s a H Q I q=>wpAny_tests_one<|h p s a H Q I q
def II(own:Nat)(ix:List Nat)(g:TG)(tc:TT)(te:TE)(σ:St)(Q:VK)(J:It)(H1:Hp):=∀a,H1 a=()->∃W:Nat->Nat->List V->Hp->Prop,
 (∃m,W 0 m []<|upd H1 a<|.lst [])/\∀i m c H,W i m c H->
  (J.stop i H/\Q (.ref a) H)\/(J.go i H/\∃N:List V->Hp->Prop,(∀e f,N e f->∃h,h < m/\W (i+1) h e f)/\∀x f,J.yld i H x f->g x (eX own ix σ) f λb p=>
   (b.length=own+ix.length/\∀(j:Nat) v,(eX own ix σ)[j]?=!!v->b[j]?=!!v) /\
   tc b p λok o=>if ok then te b o λy l=>l a=!.lst c/\c.length<sizeLine/\N (c++[y]) (upd l a<|.lst<|c++[y])else N c o)
def B6(own:Nat)(ix:List Nat)(wi:TI)(g:TG)(tc:TT)(te:TE):TE:=λa H Q=>wi a H<|II own ix g tc te a Q
section
variable{own:Nat}{ix:List Nat}{wi:TI}{g:TG}
theorem pT{Q:VK}{RR:Value->Addr->Result->Shared->Prop}(hcalm:X.calm)(b:BlkScope X scope)(cp:Caps X scope N own ix)(hg:∀s H fp pz,PG (blk X scope N s H fp pz) tg g)(hc:∀s H fp pz,p8 (blk X scope N s H fp pz) ifs tc)(he:∀s H fp pz,PE (blk X scope N s H fp pz) elt te)(hp:PIE X pz σ tg (λJ H1=>∀c,H1 c=()->∃W:Nat->Nat->List V->Hp->Prop,
   (∃m,W 0 m []<|upd H1 c<|.lst [])/\∀i m ys H,W i m ys H->
    (J.stop i H/\Q (.ref c) H)\/(J.go i H/\∃N:List V->Hp->Prop,(∀Z H',N Z H'->∃m',m' < m/\W (i+1) m' Z H')/\∀x H',J.yld i H x H'->g x (eX own ix σ) H' λK H2=>
     (K.length=own+ix.length/\∀(j:Nat) v,(eX own ix σ)[j]?=!!v->K[j]?=!!v) /\
     tc K H2 λok l=>if ok then te K l λy H4=>H4 c=!.lst ys/\ys.length<sizeLine/\N (ys++[y]) (upd H4 c<|.lst<|ys++[y])else N ys l)) itv s)(hR:∀(f:Shared) (l:Hp) (fp:List Addr) (c:Addr) (σ':St) (H':Hp) (s':Shared),Inv X pz σ l f->(∀a∈fp,kt X pz l a)->Inv (blk X scope N f l fp pz) [] σ' H' s'->Q (.ref c) H'->RR (.ref c) f.heap.objs.size (.ok .next) s'):wpAny (model X.prog X.w) X.A (newList []) (λc s₃=>wpAny (model X.prog X.w) X.A (newFunctionEnv scope X.env.globals (dh X.env.cells scope.names []) [] X.env.qual () .none<|!X.env) (λI s₄=>
   codeAny (model X.prog X.w) X.A (.compStart (.ListComp elt [#[tg,iter,ifs,0]] scope pos) 0 itv c {I with scope:=relabel scope X.env}) (RR c I.locals) s₄) E s₃) E s:=by
 let#[it,fp,tn,J,H1,rfl,I1,T,st1,f1,hacc]:=hp;exact XQ ?_
 -- the list
 have Y:Inv X pz σ (upd H1 s.heap.objs.size<|.lst []) {s with heap:=s.heap.push {cls:=.type "list",dict:=(),data:=.seq ([]:List Value).toArray} }:=I1.lnew (ys:=[]) (its:=[]) .nil<|YQ _;generalize hs3:({s with heap:=s.heap.push {cls:=.type "list",dict:=(),data:=.seq ([]:List Value).toArray} }:Shared)=f at Y ⊢;have kp3:∀a o,s.heap.get? a=!o->f.heap.get? a=!o:=λa o e=>by rw[<-hs3];exact Yf _ e
 have st3:tn 0 f.heap:=T.keep _ _ _ st1 λa t o e=>kp3 a o e
 have lt1:∀a∈fp,a<s.heap.objs.size:=λa B=>by let#[o,e,_]:=T.obj _ _ st1 a B;exact Yv e
 have U:∀a∈fp,kt X pz (upd H1 s.heap.objs.size<|.lst []) a:=λa B=>#[by rw[az<|Yy<|lt1 a B];exact(f1 a B).1,(f1 a B).2]
 have P:∀a∈fp,a<f.heap.objs.size:=λa B=>by let#[o,e,_]:=T.obj _ _ st3 a B;exact Yv e
 let#[W,#[m0,w0],L]:=hacc s.heap.objs.size I1.fresh;generalize hH3:upd H1 s.heap.objs.size (.lst [])=l at Y U w0;generalize hacc':s.heap.objs.size=c at w0 L ⊢;exact xF _ λI hc'=>?_;subst hc';let J0:=By (N:=N) (fp:=fp) b cp Y U P;have st4:tn 0 (pushCells (f.heap.push {cls:=.type "dict",data:=.dict #[[]]}) scope.names):=T.keep _ _ _ st3 λa t o e=>Ua _ _ a o<|Yf _ e
 generalize hs4:({f with heap:=pushCells (f.heap.push {cls:=.type "dict",data:=.dict #[[]]}) scope.names}:Shared)=s4 at J0 ⊢;have M:tn 0 s4.heap:=by rw[<-hs4];exact st4
 -- the C
 have C:codeAny (model X.prog X.w) X.A (.compLoop (.ListComp elt [#[tg,iter,ifs,0]] scope pos) 0 (.ref it) (.ref c)<|jh X.env scope f.heap.objs.size) (RR (.ref c) f.heap.objs.size) s4:=by
  exact AD (λn s'=>∃i ys H',Inv (blk X scope N f l fp pz) [] (eX own ix σ) H' s'/\tn i s'.heap/\(∀a∈fp,H' a=())/\W i n ys H') ?_ m0 #[0,[],l,J0,M,λa B=>(U a B).1,w0];rintro n s5 ⟨i,ys,H5,J5,st5,fr5,w5⟩;let fp5:=CW (pl:=[]) (N:=N) b Y U P fr5;rcases L i n ys H5 w5 with⟨stop,q⟩|⟨go,NN,hN,step⟩
  .exact thn (T.done (blk X scope N f l fp pz) qx qx qx hcalm i [] s5 _ H5 _ J5 fp5 st5 stop) λr s6 #[hr,J6]=>?_;subst hr;exact hR f l fp c _ H5 s6 Y U J6 q
  .exact thn (T.item (blk X scope N f l fp pz) qx qx qx hcalm i [] s5 _ H5 _ J5 fp5 st5 go) λr s6 #[u,hr,h6]=>?_;subst hr;exact thn h6 λt s7 h=>?_;let#[x,H7,J7,r7,y7,O,fr7]:=h;let fp7:=CW (pl:=[]) (N:=N) b Y U P fr7;let J7':=J7.pinned fp7<|T.obj _ _ O;have back:∀{p:St}{R:Hp}{S:Shared}{zs:List V},Inv (blk X scope N f l fp pz) ([]++o_ fp s7.heap) p R S->(p.length=own+ix.length/\∀(j:Nat) v,(eX own ix σ)[j]?=!!v->p[j]?=!!v)->NN zs R->
     ∃m,m<n/\∃i ys H',Inv (blk X scope N f l fp pz) [] (eX own ix σ) H' S/\tn i S.heap/\(∀a∈fp,H' a=())/\W i m ys H':=λ{p R S zs} J8 hw n8=>by
    let#[m',hm,w8]:=hN zs R n8;exact#[m',hm,i+1,zs,R,(J8.unpinned).weak (by rw[jT,hw.1]) hw.2,T.keep _ _ _ O λa B o e=>(J8.pin (a,o)<|YE _<|YE _<|ip B e).1,λa B=>?_,w8];let#[o,e,d]:=T.obj _ _ O a B;exact(J8.pin (a,o)<|YE _<|YE _<|ip B e).2.1
   exact thn (hg f l fp pz _ s7 _ H7 x u _ J7' r7 (step x H7 y7)) λt S h=>?_;let#[p,R,J8,hw,q8]:=h;exact thn (hc f l fp pz _ S p R _ J8 q8) λok s9 h=>?_;let#[H9,J9,q9]:=h;cases ok with
   |false=>
    rw[Ym Yj]at q9 ⊢;exact back J9 hw q9
   |true=>
    rw[Yk qx]at q9 ⊢;exact thn (he f l fp pz _ s9 p H9 _ J9 q9) λy s10 h=>?_;let#[z,H10,J10,rz,e10,hlt,n10]:=h;exact thn (jJ (X:=blk X scope N f l fp pz) _ s10 p H10 (.ref c) [z] (.ref c) [y] (λv H'=>v=.non/\H'=upd H10 c (.lst (ys++[z]))) J10 qx (.cons rz .nil) #[c,ys,z,qx,qx,e10,hlt,qx,qx]) λt s11 h=>?_;let#[_,H11,J11,_,_,e11]:=h;subst e11;exact back J11 hw n10
 subst hs4;exact codeAny_compStart_list C (T.self _ _ _ _ _ M C)
def zy(hcalm:X.calm)(b:BlkScope X scope)(cp:Caps X scope N own ix)(hi:PI X tg iter wi)(l:∀s H fp pz,PG (blk X scope N s H fp pz) tg g)(o:∀s H fp pz,p8 (blk X scope N s H fp pz) ifs tc)(he:∀s H fp pz,PE (blk X scope N s H fp pz) elt te)(hnames:∀y∈scope.names,y.2=.local->scope.names.lookup y.1=!.local:=by decide)(hs:FsI iter X:=by intro _;rfl):PE X (.ListComp elt [#[tg,iter,ifs,0]] scope pos) (B6 own ix wi g tc te):=by
 intro pz s e H Q I h;exact wpAny_comprehension_free qx hs (o8<|b.cl I.ok) b.kind hnames<|thn (hi pz s e H _ I h) λv L u=>thn u λi K p=>?_;exact pT hcalm b cp l o he p ?_;intro E P fp a f B M z x J q;let#[m,j,_]:=id J.loc;exact#[m,j,λO c=>#[.ref a,B,u8 z x J c,qx,q]]
def qy{y}{py spos}(hcalm:X.calm)(hN:X.N.Nodup)(hiN:X.N[i]?=!y)(hx:Loc X.env.scope y)(b:BlkScope X scope)(cp:Caps X scope N own ix)(hi:PI X tg iter wi)(hg:∀s H fp pz,PG (blk X scope N s H fp pz) tg g)(S:∀s H fp pz,p8 (blk X scope N s H fp pz) ifs tc)(he:∀s H fp pz,PE (blk X scope N s H fp pz) elt te)(K:swapsWith (.ListComp elt [#[tg,iter,ifs,0]] scope pos) (some<|.Name y py) spos.line X.env=pure true:=by rfl)(hnames:∀y∈scope.names,y.2=.local->scope.names.lookup y.1=!.local:=by decide)(hs:FsI iter X:=by intro _;rfl)(hf:FnL X y:=by trivial):PS X (.Assign [.Name y py] (.ListComp elt [#[tg,iter,ifs,0]] scope pos) spos) (DK (B6 own ix wi g tc te)<|ng i):=by
 intro pz s u H D I h;rw[exec_Assign_Name_used _ _ _ _ K];exact Yd<|wpAny_standAt<|Yd ?_;exact Yd<|ZE (wpAny_comprehension_free qx hs (o8<|b.cl I.ok) b.kind hnames
 <|thn (hi pz s u H _ I h) λv s1 h1=>thn h1 λZ s2 h2=>?_) (λw j hq=>Yi<|Yi hq) λw w e=>e
 exact pT (Q:=λx H1=>ng i x u H1 D.nx) hcalm b cp hg S he h2 ?_;intro B H3 fp f Y U j l f3 J q;let#[m,P,_]:=id J.loc;let I':=u8 l f3 J<|Heap.SameBut.refl ..;exact wpAny_assign_Name<|qW (v:=.ref f) I' hN hiN hx qx (λE T R=>?_) hf;let#[a,L,ha]:=R;have O:B.heap.objs.size≠a:=by
  rcases ha with ha|ha
  .rw[ha];exact Xc l.lt
  .let#[v,z]:=l.cell y a ha;exact Xc z.lt
 exact#[m,P.sameBut L O,λh' M=>?_];exact#[u.set i _,U,?_,q];exact T.turned (λc o S e=>(M.2 c S).trans e) J.free (Xc l.lt) (.inr l.sz) (λx c e=>by let#[v,z]:=l.cell x c e;exact Yy z.lt) λp hp=>Yy<|Yv (l.pin p hp).1
end
section
variable{κ:Type} [DecidableEq κ]
def dY(kvs:List (κ×V))(k:κ):=(kvs.find? λa=>decide<|a.1=k).map (·.2)
def ij(kvs:List (κ×V))(k:κ)(v:V):=
 if(kvs.any λa=>decide<|a.1=k) then kvs.map (λa=>if a.1=k then(a.1,v)else a)else kvs++[(k,v)]
def oY{p}{k:κ}(e:p.1=k):dY (p::r) k=!p.2:=by simp[dY,ZT,e]
def qD{p}{k:κ}(e:¬p.1=k):dY (p::r) k=dY r k:=by simp[dY,ZT,e]
theorem wC k:∀kvs:List (κ×V),(kvs.any λa=>decide (a.1=k))=(dY kvs k).isSome
 |[]=>rfl
 |p::r=>by
  rw[XA];by_cases e:p.1=k
  .simp[oY e,YR e]
  .rw[qD e,YD e,Bool.false_or];exact wC k r
theorem jp kvs(k:κ)v:(ij kvs k v).length<=kvs.length+1:=by
 delta ij;grind
def RelO.isSome_eq{o}{u}(r:RelO o u):o.isSome=u.isSome:=by
 cases o with
 |none=>cases u with
  |none=>rfl
  |some _=>exact(show False from r).elim
 |some _=>cases u with
  |none=>exact(show False from r).elim
  |some _=>rfl
def RelO.getD{o}{u}(r:RelO o u)(a:RelV d d'):RelV (o.getD d) (u.getD d'):=by
 cases o with
 |none=>cases u with
  |none=>exact a
  |some _=>exact(show False from r).elim
 |some _=>cases u with
  |none=>exact(show False from r).elim
  |some _=>exact r
def KV.val{vs}(r:KV kvs vs)(k:κ):RelO (dY kvs k) (valueAt vs k):=by
 induction r with
 |nil=>exact True.intro
 |@cons p q i a h t ih=>
  let#[f,g]:=h;by_cases e:p.1=k
  .let c:=f.symm.trans e;have b:valueAt (q::a) k=!q.2:=by simp[valueAt,c]
   rwa[oY e,b]
  .have c:¬q.1=k:=λz=>e<|f.trans z
   have b:valueAt (q::a) k=valueAt a k:=by simp[valueAt,c]
   rwa[qD e,b]
def KV.any{vs}(r:KV kvs vs)(k:κ):(kvs.any λa=>decide (a.1=k))=vs.any λa=>decide (a.1=k):=by
 induction r with
 |nil=>rfl
 |cons h t ih=>rw[XA,XA,ih,h.1]
theorem KV.repl{vs}(r:KV kvs vs)(k:κ)(c:RelV y u):KV (kvs.map λa=>if a.1=k then(a.1,y)else a) (vs.map λa=>if a.1=k then(a.1,u)else a):=by
 induction r with
 |nil=>exact .nil
 |@cons p q i g h t ih=>
  rw[YI,YI];exact .cons ?_ ih;grind
def KV.put{vs}(r:KV kvs vs)(k:κ)(a:RelV y u):KV (ij kvs k y) (stored vs k u):=by
 delta ij stored;rw[r.any];by_cases e:(vs.any λb=>decide<|b.1=k)
 .rw[Yk e,Yk e];exact r.repl k a
 .rw[Ym e,Ym e];exact Paired.snoc r #[qx,a]
def KV.length{vs}(r:KV kvs vs):kvs.length=vs.length:=VV r
end
def q_{P}(r:RelV (kV k) u):(aH P w).is k u:=by
 cases k with
 |inl i=>let#[t,e]:=(show ∃t,u=Value.int i t from r);subst e;exact v3 P w i t
 |inr x=>let#[t,e]:=(show ∃t,u=Value.str x t from r);subst e;exact vg P w x t
theorem sL{P}:∀{ks}{us},Vals (ks.map kV) us->ItemsAre (aH P w) ks us
 |[],_,r=>by rw[List.map_nil]at r;cases r;exact .nil
 |k::ks,_,r=>by
  cases r with
  |cons h t=>exact .cons (q_ h)<|sL t
abbrev KT(H:Hp):List (List Key×V)->List (List Key×Addr×Value)->Prop:=Paired λp q=>p.1=q.1/\H q.2.1=!(.tup<|p.1.map kV)/\RelV p.2 q.2.2
def KT.val{xs}(r:KT H kvs xs)k:RelO (dY kvs k) ((atKey xs k).map (·.2)):=by
 induction r with
 |nil=>exact True.intro
 |@cons p q i a h t ih=>
  let#[f,_,g]:=h;by_cases e:p.1=k
  .let c:=f.symm.trans e;have b:atKey (q::a) k=!q.2:=by simp[atKey,c]
   rwa[oY e,b]
  .have c:¬q.1=k:=λz=>e<|f.trans z
   have b:atKey (q::a) k=atKey a k:=by simp[atKey,c]
   rwa[qD e,b]
theorem KT.repl{xs}(r:KT H kvs xs)k(f:RelV y u) :
  KT H (kvs.map λb=>if b.1=k then(b.1,y)else b) (xs.map<|putAt k u):=by
 induction r with
 |nil=>exact .nil
 |@cons p q j i h t ih=>
  rw[YI,YI];exact .cons ?_ ih;let#[a,c,g]:=h;delta putAt;grind
def KT.put{xs}(r:KT H kvs xs)k{b}(h:H b=!.tup (k.map kV))(a:RelV y u) :
  KT H (ij kvs k y) (storedH xs k b u):=by
 have e:(kvs.any λc=>decide<|c.1=k)=(atKey xs k).isSome:=by rw[wC,(r.val k).isSome_eq,Option.isSome_map]
 delta ij storedH;rw[e];by_cases q:(atKey xs k).isSome
 .rw[Yk q,Yk q];exact r.repl k a
 .rw[Ym q,Ym q];exact Paired.snoc r #[qx,h,a]
def KT.keeps{xs}(r:KT H kvs xs)(h:∀b ys,H b=!.tup ys->H' b=!.tup ys):KT H' kvs xs:=
 Paired.mapP r λy y z=>#[z.1,h _ _ z.2.1,z.2.2]
section
variable{P:Program}
def IH{u}(ok:HOk P w H h)(e:Rd H a u):ObjOk P w H h a u:=e.ok ok
def rj(ok:HOk P w H h)(e:Rd H a (.dK kvs)):kvs.length<=sizeLine/\(a == sysModules)=false/\∃vs,KV kvs vs/\h.DictOf (aH P w) a vs:=
 show ObjOk P w H h a (.dK kvs)from IH ok e
def Mj(ok:HOk P w H h)(e:H a=!.dK kvs):kvs.length<=sizeLine/\(a == sysModules)=false/\∃vs,KV kvs vs/\h.DictOf (aH P w) a vs:=rj ok<|.inl e
def mG(ok:HOk P w H h)(e:H a=!.tup (ks.map kV)):(tupleKind (aH P w)).is h ks a:=by
 let#[_,i,r,#[o,f,c,n,b],_]:=(show ObjOk P w H h a (.tup _)from ok a _ e)
 exact#[o,i.toArray,n,f,c,b,by simpa using sL r]
def rN(ok:HOk P w H h)(e:Rd H a (.dT kvs)):kvs.length<=sizeLine/\(a == sysModules)=false /\
  ∃xs,KT H kvs xs/\h.DictOfH (tupleKind<|aH P w) a xs:=by
 let#[z,y,xs,r,o,s,u,j,i,g,f,c]:=(show ObjOk P w H h a (.dT kvs)from IH ok e)
 exact#[z,y,xs,r,o,s,u,j,i,g,f,λx hx=>?_,c];have all:∀{l}{m},KT H l m->∀x∈m,(tupleKind<|aH P w).is h x.1 x.2.1:=by
  intro l m q;induction q with
  |nil=>intro x hx;exact nomatch hx
  |@cons p q B A b t ih=>
   intro x hx;rcases Yt.mp hx with e|hx
   .subst e;exact mG ok<|by rw[<-b.1];exact b.2.1
   .exact ih x hx
 exact all r x hx
def MN(ok:HOk P w H h)(e:H a=!.dT kvs):kvs.length<=sizeLine/\(a == sysModules)=false /\
  ∃xs,KT H kvs xs/\h.DictOfH (tupleKind<|aH P w) a xs:=rN ok<|.inl e
end
def DGet(H:Hp)(a:Addr)(y:V)(r:Option V):=
 (∃c k,Rd H a (.dK c)/\y=kV k/\r=dY c k)\/∃c k b,Rd H a (.dT c)/\y=.ref b/\H b=!(.tup<|k.map kV)/\r=dY c k
def DPut(H:Hp)(a:Addr)(y v:V)(H':Hp):=
 (∃c k,H a=!.dK c/\y=kV k/\c.length<sizeLine/\H'=upd H a (.dK<|ij c k v)) \/
 ∃c k b,H a=!.dT c/\y=.ref b/\H b=!(.tup<|k.map kV)/\c.length<sizeLine/\H'=upd H a (.dT<|ij c k v)
def DGet.k{k}(e:H a=!.dK kvs):DGet H a (kV k) (dY kvs k):=.inl #[kvs,k,.inl e,qx,qx]
def DGet.t{b}{k}(e:H a=!.dT kvs)(c:H b=!.tup (k.map kV)):DGet H a (.ref b) (dY kvs k):=.inr #[kvs,k,b,.inl e,qx,c,qx]
def DPut.k{k}(e:H a=!.dK kvs)(h:kvs.length<sizeLine):DPut H a (kV k) v (upd H a (.dK (ij kvs k v))):=.inl #[kvs,k,e,qx,h,qx]
def DPut.t{b}{k}(e:H a=!.dT kvs)(c:H b=!.tup (k.map kV))(h:kvs.length<sizeLine):DPut H a (.ref b) v (upd H a<|.dT<|ij kvs k v):=.inr #[kvs,k,b,e,qx,c,h,qx]
section
variable{v:V}{r:Value}{o:Option V}
def Inv.big(I:Inv X pz σ H s):sysModules<s.heap.objs.size:=by let h:=(I.mod.glob.keeps I.bk).lt;exact ZL (by decide) h
def Bv(L:A.units+1<cLine)(I:Inv X pz σ H s)(g:DGet H a y (!v))(C:RelV y u)(h:∀i s',Inv X pz σ H s'->RelV v i->Q i s'):wpAny (model X.prog X.w) A (getItem (.ref a) u) Q E s:=by
 rcases g with⟨j,k,e,x,l⟩|⟨j,k,b,e,x,O,l⟩
 .subst x;let#[z,N,K,f,B]:=rj I.hok e;let#[i,m,c]:=RelO.some_of (v:=v) (o:=valueAt K k) (by rw[l];exact f.val k);exact wpAny_getItem_of (q_ C) B.mapOf m<|h i _ (I.tok _) c
 .subst x;cases(show u=Value.ref b from C);let#[z,N,J,f,B]:=rN I.hok e;let#[i,m,c]:=RelO.some_of (v:=v) (o:=(atKey J k).map (·.2)) (by rw[l];exact f.val k);let#[p,M,q]:=YK.mp m;exact wpAny_getItem_heap (Vm L) (mG I.hok O) B M ?_;rw[q];exact h i _ (I.tok _) c
def HP(x:A.units+1<cLine)(I:Inv X pz σ H s)(g:DGet H a y o)(p:RelV y u)(h:∀s',Inv X pz σ H s'->Q (.bool ((not<|o.isSome))) s'):wpAny (model X.prog X.w) A (compareOp .NotIn u<|.ref a) Q E s:=by
 rcases g with⟨f,k,e,j,l⟩|⟨f,k,b,e,j,B,l⟩
 .subst j;let#[z,i,J,c,m]:=rj I.hok e;exact wpAny_notIn_of (q_ p) i m.mapOf ?_;rw[<-(c.val k).isSome_eq,<-l];exact h _<|I.tok _
 .subst j;cases(show u=Value.ref b from p);let#[z,i,C,c,m]:=rN I.hok e;exact wpAny_notIn_heap (Vm x) (mG I.hok B) i m ?_;let q:=(c.val k).isSome_eq;rw[Option.isSome_map]at q;rw[<-q,<-l];exact h _<|I.tok _
def zD(I:Inv X pz σ H s)(m:Mut (H a))(hs:Heap.SameBut a s.heap h')(he:∃q,h'.get? a=!q)(new:ObjOk X.prog X.w (upd H a ob) h' a ob):Inv X pz σ (upd H a ob) {s with heap:=h',toks:=t' }:=
 I.write m (.inl qx) (λb q h z=>(hs.2 b h).trans z) he new
def DL{P}{vs}(z:kvs.length<=sizeLine)(hd:(a == sysModules)=false)(b:KV kvs vs)(dd:h'.DictOf (aH P w) a vs):ObjOk P w H' h' a (.dK kvs):=#[z,hd,vs,b,dd]
theorem BO{Q}(T:A.units+1<cLine)(I:Inv X pz σ H s)(g:DPut H a y v H')(L:RelV y u)(M:RelV v r)(h:∀s',Inv X pz σ H' s'->Q PUnit.unit s'):wpAny (model X.prog X.w) A (setItem (.ref a) u r) Q E s:=by
 rcases g with⟨i,k,e,C,l,J⟩|⟨i,k,b,e,C,P,l,J⟩
 .subst C J;let#[z,B,S,f,K]:=Mj I.hok e;have o:S.length<=sizeLine:=by rwa[<-f.length]
  have x:(ij i k v).length<=sizeLine:=by have:=jp i k v;lia
  exact wpAny_setItem_pairs (q_ L) K λN j p=>h _ ?_;have U:∃q,N.get? a=!q:=let #[q,_,_,m,_]:=j;#[q,m]
  exact zD I (by rw[e];exact True.intro) p U<|DL x B (f.put k M) j
 .subst C J;cases(show u=Value.ref b from L);let#[z,B,R,f,K]:=MN I.hok e;have o:R.length<=sizeLine:=by rwa[<-VV f]
  have x:(ij i k v).length<=sizeLine:=by have:=jp i k v;lia
  exact wpAny_setItem_heap (Vm T) (mG I.hok P) K λN j p=>h _ ?_;let#[q,es,ep,m,h2,h3,Z,_,Y]:=j;exact zD I (by rw[e];exact True.intro) p #[q,m] #[x,B,_,(f.put k P M).keeps λc ys O=>?_,q,es,ep,m,h2,h3,Z,Y];rwa[az<|Nw O e λz=>nomatch z]
end
def Lr(i:Expr):=∀o a,subscripted i false o a=operate [o,a] (getItem o a)
def F8{a}{T id}(m:typeLookup (.type T) "__getitem__"=pure (some<|.builtin id))(hs:Lr a)(h:wpAny (model prog w) A (eval value env) (λo f=>wpAny (model prog w) A (eval a env) (λi b=>b.TypeIs o T/\wpAny (model prog w) A (getItem o i) Q E b) E f) E s):wpAny (model prog w) A (eval (.Subscript value a pos) env) Q E s:=by
 exact Subscript_<|ZE h (λo f j=>ZE j (λi b c=>?_) λz z x=>x) λz z x=>x;let#[l,c]:=c;delta subscriptTail;exact Yd ?_;rw[getitemInPython_of_ne l.not_modules];exact Yd<|XN l m ?_;have fin:wpAny (model prog w) A (subscripted a false o i) (λr e=>wpAny (model prog w) A (letTemporaryGo value o r>>=λz=>pure r) Q E e) E b:=by rw[hs];exact wpAny_operating<|ZE c (λr e g=>Yd<|wpAny_letTemporaryGo<|Yi g) λz z x=>x
 first
  |exact Yi<|Yd fin
  |exact Yd _
  |exact Yd fin
def vH{o}(I:Inv X pz σ H s)(g:DGet H a y o):s.TypeIs (.ref a) "dict":=by
 rcases g with⟨c,k,e,_,_⟩|⟨c,k,b,e,_,_,_⟩
 .let#[_,_,h,_,f]:=rj I.hok e;exact f.typeIs
 .let#[_,_,x,_,f]:=rN I.hok e;exact f.typeIs
def M6(td ty:TE):TE:=λb H Q=>td b H λx e=>ty b e λy c=>∃a v,x=.ref a/\DGet c a y (!v)/\Q v c
def GK(ty td:TE):TE:=λb H Q=>ty b H λy e=>td b e λx c=>∃a o,x=.ref a/\DGet c a y o/\Q (.bl<|(not<|o.isSome)) c
def M3(td ty tv:TE):TS:=λD b H=>tv b H λv g=>td b g λx f=>ty b f λy e=>∃a c,x=.ref a/\DPut e a y v c/\D.nx b c
section
variable{i:Expr}{ty:TE}
def HF(z:X.A.units+1<cLine)(B:PE X o td)(hi:PE X i ty)(hs:Lr i):PE X (.Subscript o i pos) (M6 td ty):=by intro p s e H Q I h;exact F8 F.slot_dict_getitem.lookup hs<|bh (B p s e H _ I h) λu j x L J m w=>bh (hi p j e L _ J w) λP O y K f l c=>?_;let#[a,v,C,g,q]:=c;subst C;obtain rfl:u=Value.ref a:=m;exact#[vH f g,Bv z f g l λM N E b=>#[v,K,E,b,q]]
def rB(w:X.A.units+1<cLine)(hi:PE X i ty)(z:PE X o td):PC X .NotIn i o (GK ty td):=by intro p s c H Q I h;exact bh (hi p s c H _ I h) λO e y L J f l=>bh (z p e c L _ J l) λu N x K E j b=>?_;let#[a,m,B,g,q]:=b;subst B;obtain rfl:u=Value.ref a:=j;exact HP w E g f λM C=>#[.bl _,K,C,qx,q]
def zi(B:X.A.units+1<cLine)(C:PE X o td)(hi:PE X i ty)(hv:PE X value tv)(hs:swapsWith value (!.Subscript o i pos') pos.line X.env=pure false):PS X (.Assign [.Subscript o i pos'] value pos) (M3 td ty tv):=by
 intro p s b H D I h;exact wpAny_Assign_Subscript (bh (hv p s b H _ I h) λr f v P M m z=>bh (C p f b P _ M z) λu e x O L l w=>bh (hi p e b O _ L w) λS R y T K j c=>?_) hs;let#[a,N,E,g,q]:=c;subst E;obtain rfl:u=Value.ref a:=l;exact BO B K g j m λQ J=>#[b,N,J,q]
end
def Cc{P}(h:Heap)(a:sysModules<h.objs.size):ObjOk P w H (h.push {cls:=.type "dict",data:=.dict #[[]]}) h.objs.size (.dK []):=
 #[YQ _,ZB.mpr<|Xq<|Yy a,[],.nil,Heap.DictOf.new h]
def B3{P}(h:Heap)(a:sysModules<h.objs.size):ObjOk P w H (h.push {cls:=.type "dict",data:=.dict #[[]]}) h.objs.size (.dT []):=
 #[YQ _,ZB.mpr<|Xq<|Yy a,[],.nil,_,#[[]],0,Ys _ qx,#[qx,qx,qx],qx,qx,Ul]
def IW:TE:=λz H Q=>∀p,H p=()->Q (.ref p) (upd H p<|.dT [])
def CI:PE X (.Dict [] [] pos) IW:=λp s b H Q I h=>
 wpAny_Dict_empty #[.ref s.heap.objs.size,_,I.laid (λz z q=>Yf _ q) (Yp _)<|B3 s.heap I.big,qx,h _<|I.hok.fresh<|Yp _]
def iJ(kvs more:List (Key×V)):=more.foldl (λa b=>ij a b.1 b.2) kvs
structure M2 (X:Cx) (o:Expr) (m:Str) (apos:Pos) (e f:Expr) (cpos:Pos):Prop where
 base:attributeBase o m X.env (eval o X.env)=eval o X.env
 few:((backTo cpos (starEach [e,f] X.env)).all (λx=>(not<|x.1))&&(backToKw cpos (keywordEach [] X.env)).all (λx=>x.1.isSome)
  && decide (([e,f]:List Expr).length+([]:List Keyword).length+(if([]:List Keyword).isEmpty then 0 else 1)<30))=true
 line:(apos.endLine == cpos.line)=true
 trees:backTo cpos (starEach [e,f] X.env)=[(false,eval e X.env),(false,eval f X.env)]
def IsD(H:Hp)(a:Addr):=(∃b,Rd H a<|.dK b)\/∃b,Rd H a<|.dT b
def Lu(I:Inv X pz σ H s)(d:IsD H a):s.TypeIs (.ref a) "dict"/\(∀b,Value.ref a=.ref b->∃ob,s.heap.get? b=!ob/\ob.dict=())/\(a == sysModules)=false:=by
 rcases d with⟨f,e⟩|⟨f,e⟩
 .let#[_,h,j,_,c]:=rj I.hok e;exact#[c.typeIs,λb q=>?_,h];cases q;let#[ob,_,_,i,g,_]:=c;exact#[ob,i,g.2.1]
 .let#[_,h,x,_,c]:=rN I.hok e;exact#[c.typeIs,λb q=>?_,h];cases q;let#[ob,_,_,i,g,_]:=c;exact#[ob,i,g.2.1]
section
variable{d:V}{r:Value}{o:Option V}
def JZ(C:A.units+1<cLine)(I:Inv X pz σ H s)(g:DGet H a y o)(q:RelV y u)(x:RelV d r)(h:∀p s',Inv X pz σ H s'->RelV (o.getD d) p->Q p s'):wpAny (model X.prog X.w) A (call (.builtin "dict.get") [.ref a,u,r]) Q E s:=by
 rcases g with⟨i,k,e,m,l⟩|⟨i,k,b,e,m,J,l⟩
 .subst m;let#[z,j,K,c,f]:=rj I.hok e;exact call_meetsIn VC f.typeIs F.entry_dict_get (F.args_dict_get_3 _ _ _) (meets_dict_get_default _ a (q_ q) j r) #[_,f.mapOf,h _ _ (I.tok _) ?_];rw[l];exact(c.val k).getD x
 .subst m;cases(show u=Value.ref b from q);let#[z,j,B,c,f]:=rN I.hok e;exact call_meetsIn VC f.typeIs F.entry_dict_get (F.args_dict_get_3 _ _ _) (meetsH_dict_get_default _ a b j r) #[Vm C,k,B,mG I.hok J,f,h _ _ (I.tok _) ?_];rw[l];exact(c.val k).getD x
end
def Jg(td ty tx:TE):TE:=λb H Q=>td b H λx e=>∃a,x=.ref a/\IsD e a/\ty b e λy f=>tx b f λz c=>∃o,DGet c a y o/\Q (o.getD z) c
section
variable{f:Expr}{ty tx:TE}
def Fn(N:X.A.units+1<cLine)(O:PE X o td)(he:PE X e ty)(P:PE X f tx)(m:M2 X o "get" apos e f cpos):PE X (.Call (.Attribute o "get" apos) [e,f] [] cpos) (Jg td ty tx):=by
 intro p s b H Q I h;exact wpAny_Call_method m.base m.few m.line F.plainAttrs_dict VC F.type_dict_get<|bh (O p s b H _ I h) λu B x H1 j J i=>?_;let#[a,R,d,M]:=i;subst R;obtain rfl:u=Value.ref a:=J;let#[q,l,_]:=Lu j d;exact#[q,l,?_];rw[m.trees];exact Calls.callWith_builtin rfl<|VT<|ZR<|bh (he p B b H1 _ j M) λiv w y Z U E L=>
  ZR<|bh (P p w b Z _ U L) λfv s3 z Y T C #[ov,g,K]=>Vy ?_
 exact JZ N T g E C λw' s4 S c=>#[_,Y,S,c,K]
end
inductive D where
 |non|bl (b:Bool)|int (i:Int)|str (x:Str)
 |tup (xs:List D)|lst (xs:List D)
 |dT (kvs:List (List Key×D))|dK (kvs:List (Key×D))
 |ins (C:Addr) (fs:List (Str×D))
 |fn (a:Addr) (v:V) (d:D)
 |exn (C:Addr)|any
def ExA(a C:Addr)(h:Heap):=∃o,h.get? a=!o/\o.cls=.ref C
mutual
inductive Rep (K:PySem.W.Frag) (H:Hp):V->D->Prop
 |non:Rep K H .non .non
 |bl {b:Bool}:Rep K H (.bl b) (.bl b)
 |int {i:Int}:Rep K H (.int i) (.int i)
 |str {x:Str}:Rep K H (.str x) (.str x)
 |tup {a:Addr}{vs:List V}{ds:List D}:H a=!.tup vs->Reps K H vs ds->Rep K H (.ref a) (.tup ds)
 |lst {a:Addr}{vs:List V}{ds:List D}:SqL K H a vs->Reps K H vs ds->Rep K H (.ref a) (.lst ds)
 |dT {a:Addr}{vs:List (List Key×V)}{ds:List (List Key×D)}:H a=!.dT vs->RepsT K H vs ds->Rep K H (.ref a) (.dT ds)
 |dK {a:Addr}{vs:List (Key×V)}{ds:List (Key×D)}:H a=!.dK vs->RepsK K H vs ds->Rep K H (.ref a) (.dK ds)
 |ins {a C dx:Addr}{vs:List (Str×V)}{ds:List (Str×D)}:H a=!.ins C dx vs->RepsF K H vs ds->Rep K H (.ref a) (.ins C ds)
 /-- a lambda at a: what it takes from without is v -/
 |fn {a:Addr}{v:V}{d:D}:Rep K H v d->Rep K H (.ref a) (.fn a v d)
 |exn {a C:Addr}:H a=!.ext (ExA a C)->Rep K H (.ref a) (.exn C)
 /-- of it nothing is known -/
 |any {a:Addr}:Rep K H (.ref a) .any
inductive Reps (K:PySem.W.Frag) (H:Hp):List V->List D->Prop
 |nil:Reps K H [] []
 |cons {v:V}{d:D}{vs:List V}{ds:List D}:Rep K H v d->Reps K H vs ds->Reps K H (v::vs) (d::ds)
inductive RepsT (K:PySem.W.Frag) (H:Hp):List (List Key×V)->List (List Key×D)->Prop
 |nil:RepsT K H [] []
 |cons {k:List Key}{v:V}{d:D}{vs:List (List Key×V)}{ds:List (List Key×D)}:Rep K H v d->RepsT K H vs ds->RepsT K H ((k,v)::vs) ((k,d)::ds)
inductive RepsK (K:PySem.W.Frag) (H:Hp):List (Key×V)->List (Key×D)->Prop
 |nil:RepsK K H [] []
 |cons {k:Key}{v:V}{d:D}{vs:List (Key×V)}{ds:List (Key×D)}:Rep K H v d->RepsK K H vs ds->RepsK K H ((k,v)::vs) ((k,d)::ds)
inductive RepsF (K:PySem.W.Frag) (H:Hp):List (Str×V)->List (Str×D)->Prop
 |nil:RepsF K H [] []
 |cons {k:Str}{v:V}{d:D}{vs:List (Str×V)}{ds:List (Str×D)}:Rep K H v d->RepsF K H vs ds->RepsF K H ((k,v)::vs) ((k,d)::ds)
end
def Same.seqT(e:Same H H')(h:SqT K H a xs):SqT K H' a xs:=by
 rcases h with (h|⟨o,h⟩)|h
 .exact .inl<|.inl<|e _ _ h
 .exact .inl<|.inr #[o,e _ _ h]
 .exact .inr h
def Rep.same(e:Same H H')(h:Rep K H v d):Rep K H' v d:=
 Rep.rec .non .bl .int .str (λh z i=>.tup (e _ _ h) i) (λh z i=>.lst (e.seq h) i) (λh z i=>.dT (e _ _ h) i) (λh z i=>.dK (e _ _ h) i) (λh z i=>.ins (e _ _ h) i) (λz i=>.fn i) (λh=>.exn<|e _ _ h) .any .nil (λz z a b=>.cons a b) .nil (λz z a b=>.cons a b) .nil (λz z a b=>.cons a b) .nil (λz z a b=>.cons a b) h
def Reps.same(e:Same H H')(h:Reps K H v d):Reps K H' v d:=
 Reps.rec .non .bl .int .str (λh z i=>.tup (e _ _ h) i) (λh z i=>.lst (e.seq h) i) (λh z i=>.dT (e _ _ h) i) (λh z i=>.dK (e _ _ h) i) (λh z i=>.ins (e _ _ h) i) (λz i=>.fn i) (λh=>.exn<|e _ _ h) .any .nil (λz z a b=>.cons a b) .nil (λz z a b=>.cons a b) .nil (λz z a b=>.cons a b) .nil (λz z a b=>.cons a b) h
def RepsT.same(e:Same H H')(h:RepsT K H v d):RepsT K H' v d:=
 RepsT.rec .non .bl .int .str (λh z i=>.tup (e _ _ h) i) (λh z i=>.lst (e.seq h) i) (λh z i=>.dT (e _ _ h) i) (λh z i=>.dK (e _ _ h) i) (λh z i=>.ins (e _ _ h) i) (λz i=>.fn i) (λh=>.exn<|e _ _ h) .any .nil (λz z a b=>.cons a b) .nil (λz z a b=>.cons a b) .nil (λz z a b=>.cons a b) .nil (λz z a b=>.cons a b) h
def RepsK.same(e:Same H H')(h:RepsK K H v d):RepsK K H' v d:=
 RepsK.rec .non .bl .int .str (λh z i=>.tup (e _ _ h) i) (λh z i=>.lst (e.seq h) i) (λh z i=>.dT (e _ _ h) i) (λh z i=>.dK (e _ _ h) i) (λh z i=>.ins (e _ _ h) i) (λz i=>.fn i) (λh=>.exn<|e _ _ h) .any .nil (λz z a b=>.cons a b) .nil (λz z a b=>.cons a b) .nil (λz z a b=>.cons a b) .nil (λz z a b=>.cons a b) h
def RepsF.same(e:Same H H')(h:RepsF K H v d):RepsF K H' v d:=
 RepsF.rec .non .bl .int .str (λh z i=>.tup (e _ _ h) i) (λh z i=>.lst (e.seq h) i) (λh z i=>.dT (e _ _ h) i) (λh z i=>.dK (e _ _ h) i) (λh z i=>.ins (e _ _ h) i) (λz i=>.fn i) (λh=>.exn<|e _ _ h) .any .nil (λz z a b=>.cons a b) .nil (λz z a b=>.cons a b) .nil (λz z a b=>.cons a b) .nil (λz z a b=>.cons a b) h
def Reps.ind{M:List V->List D->Prop}(n:M [] [])(c:∀{v}{d}{vs}{ds},Rep K H v d->Reps K H vs ds->M vs ds->M (v::vs) (d::ds)){ds}(h:Reps K H vs ds):M vs ds:=
 Reps.rec (motive_1:=λz z z=>True) (motive_3:=λz z z=>True) (motive_4:=λz z z=>True) (motive_5:=λz z z=>True) trivial trivial trivial trivial (λz z z=>trivial) (λz z z=>trivial) (λz z z=>trivial) (λz z z=>trivial) (λz z z=>trivial) (λz z=>trivial) (λz=>trivial) trivial n (λh q z ih=>c h q ih) trivial (λz z z z=>trivial) trivial (λz z z z=>trivial) trivial (λz z z z=>trivial) h
def RepsT.ind{M:List (List Key×V)->List (List Key×D)->Prop}(n:M [] [])(c:∀{k}{v}{d}{vs}{ds},Rep K H v d->RepsT K H vs ds->M vs ds->M ((k,v)::vs) ((k,d)::ds)){vs}{ds}(h:RepsT K H vs ds):M vs ds:=
 RepsT.rec (motive_1:=λz z z=>True) (motive_2:=λz z z=>True) (motive_4:=λz z z=>True) (motive_5:=λz z z=>True) trivial trivial trivial trivial (λz z z=>trivial) (λz z z=>trivial) (λz z z=>trivial) (λz z z=>trivial) (λz z z=>trivial) (λz z=>trivial) (λz=>trivial) trivial trivial (λz z z z=>trivial) n (λh q z ih=>c h q ih) trivial (λz z z z=>trivial) trivial (λz z z z=>trivial) h
def RepsK.ind{M:List (Key×V)->List (Key×D)->Prop}(n:M [] [])(c:∀{k}{v}{d}{vs}{ds},Rep K H v d->RepsK K H vs ds->M vs ds->M ((k,v)::vs) ((k,d)::ds)){vs}{ds}(h:RepsK K H vs ds):M vs ds:=
 RepsK.rec (motive_1:=λz z z=>True) (motive_2:=λz z z=>True) (motive_3:=λz z z=>True) (motive_5:=λz z z=>True) trivial trivial trivial trivial (λz z z=>trivial) (λz z z=>trivial) (λz z z=>trivial) (λz z z=>trivial) (λz z z=>trivial) (λz z=>trivial) (λz=>trivial) trivial trivial (λz z z z=>trivial) trivial (λz z z z=>trivial) n (λh q z ih=>c h q ih) trivial (λz z z z=>trivial) h
def RepsF.ind{M:List (Str×V)->List (Str×D)->Prop}(n:M [] [])(c:∀{k}{v}{d}{vs}{ds},Rep K H v d->RepsF K H vs ds->M vs ds->M ((k,v)::vs) ((k,d)::ds)){vs}{ds}(h:RepsF K H vs ds):M vs ds:=
 RepsF.rec (motive_1:=λz z z=>True) (motive_2:=λz z z=>True) (motive_3:=λz z z=>True) (motive_4:=λz z z=>True) trivial trivial trivial trivial (λz z z=>trivial) (λz z z=>trivial) (λz z z=>trivial) (λz z z=>trivial) (λz z z=>trivial) (λz z=>trivial) (λz=>trivial) trivial trivial (λz z z z=>trivial) trivial (λz z z z=>trivial) trivial (λz z z z=>trivial) n (λh q z ih=>c h q ih) h
def Reps.length(h:Reps K H vs ds):vs.length=ds.length:=Reps.ind (M:=λvs ds=>vs.length=ds.length) qx (λz z ih=>YW Nat.succ ih) h
def Reps.get(h:Reps K H vs ds):ds[i]?=!d->∃v,vs[i]?=!v/\Rep K H v d:=
 Reps.ind (M:=λvs ds=>∀i:Nat,ds[i]?=!d->∃v,vs[i]?=!v/\Rep K H v d) (λz e=>nomatch e) (λr z ih i e=>by
  cases i with
  |zero=>obtain rfl:=YG e;exact#[_,qx,r]
  |succ i=>exact ih i e) h i
def Reps.getV(h:Reps K H vs ds):vs[i]?=!v->∃d,ds[i]?=!d/\Rep K H v d:=
 Reps.ind (M:=λvs ds=>∀i:Nat,vs[i]?=!v->∃d,ds[i]?=!d/\Rep K H v d) (λz e=>nomatch e) (λr z ih i e=>by
  cases i with
  |zero=>obtain rfl:=YG e;exact#[_,qx,r]
  |succ i=>exact ih i e) h i
def Reps.append{w}{ds es}(h:Reps K H vs ds)(s:Reps K H w es):Reps K H (vs++w) (ds++es):=Reps.ind (M:=λvs ds=>Reps K H (vs++w)<|ds++es) s (λr z ih=>.cons r ih) h
def Reps.take n(h:Reps K H vs ds):Reps K H (vs.take n) (ds.take n):=Reps.ind (M:=λvs ds=>∀n,Reps K H (vs.take n)<|ds.take n) (λn=>by cases n<;>exact .nil) (λr z ih n=>by
  cases n with
  |zero=>exact .nil
  |succ n=>exact .cons r<|ih n) h n
def Reps.drop n(h:Reps K H vs ds):Reps K H (vs.drop n) (ds.drop n):=Reps.ind (M:=λvs ds=>∀n,Reps K H (vs.drop n)<|ds.drop n) (λn=>by cases n<;>exact .nil) (λr q ih n=>by
  cases n with
  |zero=>exact .cons r q
  |succ n=>exact ih n) h n
def Reps.set(r:Rep K H v d)i(h:Reps K H vs ds):Reps K H (vs.set i v) (ds.set i d):=Reps.ind (M:=λvs ds=>∀i,Reps K H (vs.set i v)<|ds.set i d) (λz=>.nil) (λq t ih i=>by
  cases i with
  |zero=>exact .cons r t
  |succ i=>exact .cons q<|ih i) h i
def Reps.eraseIdx i(h:Reps K H vs ds):Reps K H (vs.eraseIdx i) (ds.eraseIdx i):=Reps.ind (M:=λvs ds=>∀i,Reps K H (vs.eraseIdx i)<|ds.eraseIdx i) (λz=>.nil) (λq t ih i=>by
  cases i with
  |zero=>exact t
  |succ i=>exact .cons q<|ih i) h i
def Reps.one(r:Rep K H v d):Reps K H [v] [d]:=.cons r .nil
inductive FO where
 |d (x:D)|lst (ds:List D)|dK (kvs:List (Key×D))
def FO.dat:FO->D
 |.d x=>x
 |.lst ds=>.lst ds
 |.dK kvs=>.dK kvs
inductive OD where
 |lst (ds:List D)|lst2 (dss:List (List D))|dT (kvs:List (List Key×D))|dK (kvs:List (Key×D))|ins (C:Addr) (fs:List (Str×D))|obj (C:Option Addr) (fs:List (Str×FO))
def OD.d:OD->D
 |.lst ds=>.lst ds
 |.lst2 dss=>.lst<|dss.map .lst
 |.dT kvs=>.dT kvs
 |.dK kvs=>.dK kvs
 |.ins C fs=>.ins C fs
 |.obj (!C) fs=>.ins C<|fs.map λp=>(p.1,p.2.dat)
 |.obj () fs=>.dK<|fs.map λp=>(Sum.inr p.1,p.2.dat)
def OD.flat:OD->Bool
 |.obj _ _=>false
 |.lst2 _=>false
 |_=>true
inductive All2 {α β:Type} (R:α->β->Prop):List α->List β->Prop
 |nil:All2 R [] []
 |cons {a:α}{b:β}{as:List α}{bs:List β}:R a b->All2 R as bs->All2 R (a::as) (b::bs)
def All2.imp{e c}{R S}(f:∀a b,R a b->S a b){as:List e}{bs:List c}(h:All2 R as bs):All2 S as bs:=by
 induction h with
 |nil=>exact .nil
 |cons h _ ih=>exact .cons (f _ _ h) ih
def All2.length{b a}{R}{as:List b}{bs:List a}(h:All2 R as bs):as.length=bs.length:=by
 induction h with
 |nil=>rfl
 |cons _ _ ih=>exact YW Nat.succ ih
def ORep1(K:Kq)(F:Hp):OD->HO->Prop
 |.lst ds,.lst vs=>Reps K F vs ds
 |.dT ds,.dT vs=>RepsT K F vs ds
 |.dK ds,.dK vs=>RepsK K F vs ds
 |.ins C fs,.ins C' _ vs=>C=C'/\RepsF K F vs fs
 |_,_=>False
def FRep(K:Kq)(F H:Hp)(ow:Addr->Prop):FO->V->Prop
 |.d d,v=>Rep K F v d
 |.lst ds,v=>∃b,v=.ref b/\ow b/\∃u,H b=!u/\ORep1 K F (.lst ds) u
 |.dK ds,v=>∃b,v=.ref b/\ow b/\∃u,H b=!u/\ORep1 K F (.dK ds) u
def qO:FO->V->List Addr
 |.d _,_=>[]
 |_,.ref b=>[b]
 |_,_=>[]
def bxO:Option Addr->Addr->List (Str×V)->HO
 |some C,dx,vs=>.ins C dx vs
 |none,_,vs=>.dK<|vs.map λp=>(Sum.inr p.1,p.2)
def gt(vs:List (Str×V))(fs:List (Str×FO)):=(vs.zip fs).flatMap λp=>qO p.2.2 p.1.2
def ORep(K:Kq)(F H:Hp)(ow:Addr->Prop):OD->Addr->Prop
 |.lst2 dss,a=>ow a/\∃bs,H a=!(.lst<|bs.map .ref)/\(a::bs).Nodup/\All2 (λb f=>ow b/\∃u,H b=!u/\ORep1 K F (.lst f) u) bs dss
 |.obj C fs,a=>ow a/\∃e c,H a=!bxO C e c/\(a::gt c fs).Nodup/\All2 (λp q=>p.1=q.1/\FRep K F H ow q.2 p.2) c fs
 |o,a=>ow a/\∃u,H a=!u/\ORep1 K F o u
def FRep.mono(e:Same F F')(k:∀b u,ow b->H b=!u->H' b=!u/\ow' b)(s:∀{o}{u},ORep1 K F o u->ORep1 K F' o u){o}(h:FRep K F H ow o v):FRep K F' H' ow' o v:=by
 cases o with
 |d x=>exact Rep.same e h
 |lst ds=>let#[b,rfl,c,u,a,f]:=h;exact#[b,qx,(k b u c a).2,u,(k b u c a).1,s f]
 |dK ds=>let#[b,rfl,c,u,a,f]:=h;exact#[b,qx,(k b u c a).2,u,(k b u c a).1,s f]
def ORep1.same(e:Same F F'){o}{u}(h:ORep1 K F o u):ORep1 K F' o u:=by cases o<;>cases u<;>first|exact h.elim|exact Reps.same e h|exact RepsT.same e h|exact RepsK.same e h|exact#[h.1,RepsF.same e h.2]
def ORep.flat{o}(f:o.flat):ORep K F H ow o a↔ow a/\∃u,H a=!u/\ORep1 K F o u:=by cases o<;>first|exact Iff.rfl|cases f
def ORep.mono{o}(e:Same F F')(k:∀b u,ow b->H b=!u->H' b=!u/\ow' b)(h:ORep K F H ow o a):ORep K F' H' ow' o a:=by
 by_cases f:o.flat
 .let#[l,u,j,i]:=(ORep.flat f).mp h;let#[g,c]:=k a u l j;exact(ORep.flat f).mpr #[c,u,g,i.same e]
 .cases o with
  |lst2 dss=>
   let#[l,bs,j,i,m]:=h;let#[g,c]:=k a _ l j;exact#[c,bs,g,i,m.imp λb J #[A,u,y,w]=>by let#[I,E]:=k b u A y;exact#[E,u,I,w.same e]]
  |obj C fs=>
   let#[l,B,s,j,i,m]:=h;let#[g,c]:=k a _ l j;exact#[c,B,s,g,i,m.imp λp q z=>#[z.1,z.2.mono e k λx=>x.same e]]
  |_=>exact absurd qx f
def FRep.rep(e:Same F G)(k:∀b u,ow b->H b=!u->G b=!u){o}(h:FRep K F H ow o v):Rep K G v o.dat:=by
 cases o with
 |d x=>exact Rep.same e h
 |lst ds=>let#[b,rfl,f,u,c,a]:=h;cases u with|lst vs=>exact .lst (SqL.of<|k b _ f c) (Reps.same e a)|_=>exact a.elim
 |dK ds=>let#[b,rfl,f,u,c,a]:=h;cases u with|dK vs=>exact .dK (k b _ f c) (RepsK.same e a)|_=>exact a.elim
def ORep1.rep{o}{u}(f:o.flat)(h:ORep1 K F o u)(b:H a=!u)(e:Same F H):Rep K H (.ref a) o.d:=by
 cases o with
 |lst ds=>cases u with|lst vs=>exact .lst (SqL.of b) (Reps.same e h)|_=>exact h.elim
 |dT ds=>cases u with|dT vs=>exact .dT b (RepsT.same e h)|_=>exact h.elim
 |dK ds=>cases u with|dK vs=>exact .dK b (RepsK.same e h)|_=>exact h.elim
 |ins C fs=>cases u with|ins C' dx vs=>(let#[rfl,h]:=h;exact .ins b<|RepsF.same e h)|_=>exact h.elim
 |obj _ _=>cases f
 |lst2 _=>cases f
def ORep.rep{o}(h:ORep K F H ow o a)(e:Same F G)(k:∀b u,ow b->H b=!u->G b=!u):Rep K G (.ref a) o.d:=by
 by_cases f:o.flat
 .let#[g,u,c,i]:=(ORep.flat f).mp h;exact i.rep f (k a u g c) e
 .cases o with
  |lst2 dss=>
   let#[g,bs,c,i,m]:=h;exact .lst (SqL.of<|k a _ g c) ?_;clear c g i f;induction m with
   |nil=>exact .nil
   |cons q r ih=>
    let#[l,u,j,s]:=q;exact .cons (s.rep qx (k _ u l j) e) ih
  |obj C fs=>
   let#[g,A,w,c,i,m]:=h;cases C with
   |some C=>
    exact .ins (k a _ g c) ?_;clear c g i f;induction m with
    |nil=>exact .nil
    |@cons p q _ _ z r ih=>
     let#[l,j]:=z;let#[x,v]:=p;let#[y,o]:=q;cases l;exact .cons (j.rep e k) ih
   |none=>
    exact .dK (k a _ g c) ?_;clear c g i f;induction m with
    |nil=>exact .nil
    |@cons p q _ _ z r ih=>
     let#[l,j]:=z;let#[x,v]:=p;let#[y,o]:=q;cases l;exact .cons (j.rep e k) ih
  |_=>exact absurd qx f
inductive DV where
 |v (d:D)|own (o:OD) (t:Option Addr)|bor (o:OD)
abbrev DF:=List<|Option DV
abbrev cI(n:Int):DF->Option D:=λz=>some<|.int n
@[simp] theorem OO n ρ:cI n ρ=!.int n:=rfl
abbrev nA:DF->Option (List DV):=λz=>![]
@[simp] theorem OQ ρ:nA ρ=![]:=rfl
def DVRep(K:Kq)(P F H:Hp)(ow:Addr->Prop):DV->V->Prop
 |.v d,x=>Rep K F x d
 |.own o t,x=>∃a,x=.ref a/\ORep K F H (λb=>F b=()/\P b=()/\ow b) o a/\∀b,t=!b->b=a
 |.bor o,x=>∃a,x=.ref a/\ORep K F P (λz=>True) o a
def vt:Addr->Prop:=λz=>True
structure DHp (P F H:Hp):Prop where
 sub:Same F H
 pro:Same P H
 dis:∀a o,P a=!o->F a=none
structure DInv (K:PySem.W.Frag) (P F H:Hp) (ρ:DF) (σ:St):Prop extends DHp P F H where
 len:ρ.length=σ.length
 rep:∃O:Addr->Option Nat,∀(i:Nat) (x:DV),ρ[i]?=!!x->∃v,σ[i]?=!!v/\DVRep K P F H (λb=>O b=!i) x v
structure Evo (P F H F' H':Hp):Prop where
 ext:Same F F'
 hp:DHp P F' H'
 keep:∀a o,H a=!o->F a=none->H' a=!o/\F' a=none
def Evo.same(h:DHp P F H)(e:Evo P F H F' H'):Same H H':=λa o q=>by
 cases c:F a with
 |none=>exact(e.keep a o q c).1
 |some u=>
  have:=h.sub a u c;rw[q]at this;cases this;exact e.hp.sub a o<|e.ext a o c
def DVRep.evo(e:Evo P F H F' H'){x}(r:DVRep K P F H ow x v):DVRep K P F' H' ow x v:=by
 cases x with
 |v d=>exact Rep.same e.ext r
 |own o t=>
  let#[a,rfl,h,m]:=r;exact#[a,qx,h.mono e.ext λb u #[i,g,f] c=>by(let#[l,j]:=e.keep b u c i;exact#[l,j,g,f]),m]
 |bor o=>
  let#[a,rfl,h]:=r;exact#[a,qx,h.mono e.ext λb u q c=>#[c,q]]
def DVRep.imp(f:∀b u,F b=()->P b=()->H b=!u->ow b->ow' b){x}(r:DVRep K P F H ow x v):DVRep K P F H ow' x v:=by
 cases x with
 |v d=>exact r
 |own o t=>
  let#[a,rfl,h,i]:=r;exact#[a,qx,h.mono (Same.refl _) λb u #[c,q,g] e=>#[e,c,q,f b u c q e g],i]
 |bor o=>exact r
def DInv.evo(I:DInv K P F H ρ σ)(e:Evo P F H F' H'):DInv K P F' H' ρ σ:=
 #[e.hp,I.len,by let#[O,h]:=I.rep;exact#[O,λi x a=>by let#[v,c,b]:=h i x a;exact#[v,c,b.evo e]]]
def DInv.at(I:DInv K P F H ρ σ){x}(h:ρ[i]?=!!x):∃v,σ[i]?=!!v/\DVRep K P F H vt x v:=by let#[O,k]:=I.rep;let#[v,b,a]:=k i x h;exact#[v,b,a.imp λz z z z z z=>trivial]
def Evo.refl(h:DHp P F H):Evo P F H F H:=#[Same.refl _,h,λz z a b=>#[a,b]]
def Evo.trans(a:Evo P F H F1 H1)(b:Evo P F1 H1 F2 H2):Evo P F H F2 H2:=
 #[a.ext.trans b.ext,b.hp,λc o h n=>by let#[e,n1]:=a.keep c o h n;exact b.keep c o e n1]
def Evo.laid(h:DHp P F H){o}(c:H a=()):Evo P F H (upd F a o) (upd H a o) where
 ext:=λb u e=>by rwa[az λz=>by subst z;rw[h.sub _ _ e]at c;cases c]
 hp:=#[λb u e=>by
   by_cases f:b=a
   .subst f;rw[aC]at e ⊢;exact e
   .rw[az f]at e ⊢;exact h.sub b u e,
  λb u e=>by rw[az λz=>by subst z;rw[h.pro _ _ e]at c;cases c];exact h.pro b u e,
  λb u e=>by rw[az λz=>by subst z;rw[h.pro _ _ e]at c;cases c];exact h.dis b u e]
 keep:=λb u e n=>by
  have f:b≠a:=λz=>by subst z;rw[e]at c;cases c
  rw[az f,az f];exact#[e,n]
def Evo.side(h:DHp P F H){o}(c:H a=()):Evo P F H F (upd H a o) where
 ext:=Same.refl _
 hp:=#[λb u e=>by rw[az λz=>by subst z;rw[h.sub _ _ e]at c;cases c];exact h.sub b u e,
  λb u e=>by rw[az λz=>by subst z;rw[h.pro _ _ e]at c;cases c];exact h.pro b u e,h.dis]
 keep:=λb u e n=>by
  have f:b≠a:=λz=>by subst z;rw[e]at c;cases c
  rw[az f];exact#[e,n]
def DHp.free(h:DHp P F H)(b:H a=()):F a=()/\P a=():=#[h.sub.free b,h.pro.free b]
def RepS(K:Kq)(H F:Hp)(v:V)(d:D):=
 Rep K F v d\/∃(a:Addr) (o:OD) (u:HO),v=.ref a/\F a=()/\H a=!u/\ORep1 K F o u/\o.flat/\d=o.d
def RepS.evo(r:RepS K H F v d)(e:Evo P F H F' H'):RepS K H' F' v d:=
 r.imp (Rep.same e.ext) λ#[a,o,u,g,b,h,f,c]=>#[a,o,u,g,(e.keep a u h b).2,(e.keep a u h b).1,f.same e.ext,c]
def DInv.slot(I:DInv K P F H ρ σ){o}(hv:σ[i]?=!!v)(h:(∃t,ρ[i]?=!!.own o t)\/ρ[i]?=!!.bor o):∃a,v=.ref a/\ORep K F H (λb=>F b=()) o a:=by
 rcases h with⟨t,h⟩|h
 .let#[g,c,a,rfl,f,_]:=I.at h;rw[hv]at c;cases c;exact#[a,qx,f.mono (Same.refl _) λb u q e=>#[e,q.1]]
 .let#[g,c,a,rfl,f]:=I.at h;rw[hv]at c;cases c;exact#[a,qx,f.mono (Same.refl _) λb u q e=>#[I.pro b u e,I.dis b u e]]
def RepS.now(I:Same F H)(r:RepS K H F v d):Rep K H v d:=by
 rcases r with r|⟨a,o,u,rfl,_,h3,h4,hfl,rfl⟩
 .exact r.same I
 .exact h4.rep hfl h3 I
def RepS.slot(I:DInv K P F H ρ σ){o}(hv:σ[i]?=!!v)(h:(∃t,ρ[i]?=!!.own o t)\/ρ[i]?=!!.bor o)(b:o.flat):RepS K H F v o.d:=by let#[a,rfl,g]:=I.slot hv h;let#[f,u,e,c]:=(ORep.flat b).mp g;exact .inr #[a,o,u,qx,f,e,c,b,qx]
def tD(K:Kq)(f:DF->Option D):TE:=λe H Q=>∃P F a d,f a=!d/\DInv K P F H a e/\∀v c b,Evo P F H c b->Rep K c v d->Q v b
def tR(K:Kq)(f:DF->Option D):TE:=λe H Q=>∃P F b d,f b=!d/\DInv K P F H b e/\∀v c a,Evo P F H c a->RepS K a c v d->Q v a
def tN(K:Kq)(f:DF->Option D):TE:=λc H Q=>∃P F b d,f b=!d/\DInv K P F H b c/\∀v e a,Evo P F H e a->Rep K a v d->Q v a
def tB'(K:Kq)(f:DF->Option Bool):TT:=λe H Q=>∃P F a b,f a=!b/\DInv K P F H a e/\∀g c,Evo P F H g c->Q b c
def tL(K:Kq)(f:DF->Option (List D)):TA:=λh H Q=>∃P F a c,f a=!c/\DInv K P F H a h/\∀b g e,Evo P F H g e->Reps K g b c->Q b e
def PDE(X:Cx)(e:Expr)(f:DF->Option D):=PE X e<|tD X.K f
def PDR(X:Cx)(e:Expr)(f:DF->Option D):=PE X e<|tR X.K f
def PDN(X:Cx)(e:Expr)(f:DF->Option D):=PE X e<|tN X.K f
def PDT(X:Cx)(e:Expr)(f:DF->Option Bool):=PT X e<|tB' X.K f
def PDA(X:Cx)(es:List Expr)(f:DF->Option (List D)):=PA X es<|tL X.K f
section
variable{a:Expr}
def PE.imp{t t'}(h:PE X e t)(i:∀σ H Q,t' σ H Q->t σ H Q):PE X e t':=λp s σ H Q I q=>h p s σ H Q I<|i σ H Q q
def PT.imp{t t'}(h:PT X e t)(i:∀σ H Q,t' σ H Q->t σ H Q):PT X e t':=λp s σ H Q I q=>h p s σ H Q I<|i σ H Q q
def PA.imp{t t'}(h:PA X es t)(i:∀σ H Q,t' σ H Q->t σ H Q):PA X es t':=λp a s σ H Q I q=>h p a s σ H Q I<|i σ H Q q
def getV(i:Nat)(ρ:DF):Option D:=match ρ[i]? with
 |some (some<|.v d)=>!d
 |_=>()
def am(i:Nat)(ρ:DF):Option D:=match ρ[i]? with
 |some (some<|.v d)=>!d
 |some (some<|.own o _)=>if o.flat then !o.d else ()
 |some (some<|.bor o)=>if o.flat then !o.d else ()
 |_=>()
def aw(i:Nat)(ρ:DF):Option D:=match ρ[i]? with
 |some (some<|.v d)=>!d
 |some (some<|.own o _)=>!o.d
 |some (some<|.bor o)=>!o.d
 |_=>()
theorem nU(h:getV i ρ=!d):ρ[i]?=!!.v d:=by
 delta getV at h;grind
def IQ i(h:PE X e (dM i)):PDE X e (getV i):=h.imp λf H Q=>un7 λP F g d a I k=>by
 let#[v,c,b]:=I.at<|nU a
 exact#[v,c,k v F H (Evo.refl I.toDHp) b]
def KQ i(h:PE X e (dM i)):PDR X e (am i):=h.imp λg H Q=>un7 λP F j d a I k=>by
 delta am at a;split at a
 .rename_i l q;cases a;let#[v,c,f]:=I.at q;exact#[v,c,k v F H (Evo.refl I.toDHp)<|.inl f]
 .rename_i o t q;split at a
  .rename_i b;cases a;let#[v,c,f]:=I.at q;exact#[v,c,k v F H (Evo.refl I.toDHp)<|RepS.slot I c (.inl #[t,q]) b]
  .cases a
 .rename_i o q;split at a
  .rename_i b;cases a;let#[v,c,f]:=I.at q;exact#[v,c,k v F H (Evo.refl I.toDHp)<|RepS.slot I c (.inr q) b]
  .cases a
 .cases a
def IX i(h:PE X e (dM i)):PDN X e (aw i):=h.imp λg H Q=>un7 λP F j d c I k=>by
 delta aw at c;split at c
 .rename_i l q;cases c;let#[v,b,f]:=I.at q;exact#[v,b,k v F H (Evo.refl I.toDHp)<|Rep.same I.sub f]
 .rename_i o t q;cases c;let#[v,b,_]:=I.at q;let#[a,rfl,f]:=I.slot b<|.inl #[t,q];exact#[_,b,k _ F H (Evo.refl I.toDHp)<|f.rep I.sub λ_ _ _ q=>q]
 .rename_i o q;cases c;let#[v,b,_]:=I.at q;let#[a,rfl,f]:=I.slot b<|.inr q;exact#[_,b,k _ F H (Evo.refl I.toDHp)<|f.rep I.sub λ_ _ _ q=>q]
 .cases c
def PDE.r{f}(h:PDE X e f):PDR X e f:=PE.imp h λj H Q=>un7 λP F a d b I k=>#[P,F,a,d,b,I,λv i g c r=>k v i g c<|.inl r]
def PDR.n{f}(h:PDR X e f):PDN X e f:=PE.imp h λj H Q=>un7 λP F b d c I k=>#[P,F,b,d,c,I,λv i g a r=>k v i g a<|r.now a.hp.sub]
def PDE.n{f}(h:PDE X e f):PDN X e f:=h.r.n
def wd(h:PE X e (tC v))(r:∀F,Rep X.K F v d):PDE X e (λz=>!d):=h.imp λb H Q=>un7 λP F c f a I k=>by
 cases a;exact k v F H (Evo.refl I.toDHp)<|r F
def ag{i j p}:PDE X (.Constant (.int i) j p) (λz=>!.int i):=wd JQ λz=>.int
def gu{i j p}:PDE X (.Constant (.bool i) j p) (λz=>!.bl i):=wd Ng λz=>.bl
def mH{i j p}:PDE X (.Constant (.str i) j p) (λz=>!.str i):=wd yg λz=>.str
def Ky{j p}:PDE X (.Constant .none j p) (λz=>!.non):=wd JJ λz=>.non
def OpN2(K:Kq)(r:R2)(f:D->D->Option D):=
 ∀P F H x y b a d Q,f b a=!d->DHp P F H->Rep K H x b->Rep K H y a->(∀v e c,Evo P F H e c->Rep K e v d->Q v c)->r x y H Q
def d2(f:D->D->Option D)(fa fb:DF->Option D):=λa=>(fa a).bind λx=>(fb a).bind λy=>f x y
def Em{f}{fa fb}(p:OpN2 K r f):∀σ H Q,tD K (d2 f fa fb) σ H Q->tOp r (tN K fa) (tN K fb) σ H Q:=λσ H Q=>un7 λP F a d h I k=>by
 delta d2 at h;cases c:fa a with
 |none=>rw[c]at h;cases h
 |some j=>
  rw[c]at h;cases b:fb a with
  |none=>rw[Ya,b]at h;cases h
  |some i=>
   rw[Ya,b,Ya]at h;exact#[P,F,a,j,c,I,λx A B g m=>#[P,A,a,i,b,I.evo g,λy z u e l=>?_]];exact p P z u x y j i d Q h e.hp (m.same<|e.same g.hp) l λv w s q o=>k v w s ((g.trans e).trans q) o
def yx{f}(h:OpR X (compareOp op) r)(e:OpN2 X.K r f)(i:PDN X a fa)(g:PDN X b fb)(c:behindInMarks op b=false):PDE X (.Compare a [op] [b] pos) (d2 f fa fb):=
 (Fx h i g c).imp<|Em e
def u3(K:Kq)(r:R2)(f:D->D->Option D):=
 ∀P F H h g x y b a d Q,f b a=!d->DInv K P F H h g->RepS K H F x b->RepS K H F y a->(∀v e c,Evo P F H e c->Rep K e v d->Q v c)->r x y H Q
def xN{f}{fa fb}(p:u3 K r f):∀σ H Q,tD K (d2 f fa fb) σ H Q->tOp r (tR K fa) (tR K fb) σ H Q:=λσ H Q=>un7 λP F a d h I k=>by
 delta d2 at h;cases c:fa a with
 |none=>rw[c]at h;cases h
 |some j=>
  rw[c]at h;cases b:fb a with
  |none=>rw[Ya,b]at h;cases h
  |some i=>
   rw[Ya,b,Ya]at h;exact#[P,F,a,j,c,I,λx A B g m=>#[P,A,a,i,b,I.evo g,λy z u e l=>?_]];exact p P z u a σ x y j i d Q h ((I.evo g).evo e) (m.evo e) l λv w s q o=>k v w s ((g.trans e).trans q) o
def kK{f}(h:OpR X (binaryOp op) r)(c:u3 X.K r f)(g:PDR X a fa)(e:PDR X b fb):PDE X (.BinOp a op b pos) (d2 f fa fb):=
 (IE h g e).imp<|xN c
def asB(f:DF->Option D):DF->Option Bool:=λa=>match f a with
 |some (.bl b)=>!b
 |_=>()
def xI{f}{b}(h:asB f ρ=!b):f ρ=!.bl b:=by
 delta asB at h;split at h
 .rename_i q;cases h;exact q
 .cases h
def kY{f}(h:∀σ H Q,tD K f σ H Q->t σ H Q):∀σ H Q,tB' K (asB f) σ H Q->ED t σ H Q:=λσ H Q=>un7 λP F a b c I k=>by
 exact h σ H _ #[P,F,a,.bl b,xI c,I,λv i g e r=>?_];cases r;exact#[b,qx,k i g e]
def Ah{f}(h:OpR X (compareOp op) r)(e:u3 X.K r f)(i:PDR X a fa)(g:PDR X b fb)(c:behindInMarks op b=false):PDT X (.Compare a [op] [b] pos) (asB (d2 f fa fb)):=
 (yH h i g c).imp<|kY<|xN e
def kO{f}(h:OpR X (compareOp op) r)(e:OpN2 X.K r f)(i:PDN X a fa)(g:PDN X b fb)(c:behindInMarks op b=false):PDT X (.Compare a [op] [b] pos) (asB (d2 f fa fb)):=
 (yH h i g c).imp<|kY<|Em e
def cV{f}(h:PDE X e f)(he:∀w,isTrue e X.env w=(do let v <-w;standAt e.pos;holding [v] (truthy v)):=by intro _;rfl):PDT X e (asB f):=
 (Jh h he).imp<|kY λz z z q=>q
open A in
def da{x}{i}(r:RepS K H F x (.int i)):x=.int i:=by
 rcases r with r|⟨_,o,_,_,_,_,_,_,z⟩
 .cases r;rfl
 .cases o<;>first|(cases z;done)|(rename_i C _;cases C<;>cases z)
open A in
def kU{x}{i}(r:RepS K H F x (.str i)):x=.str i:=by
 rcases r with r|⟨_,o,_,_,_,_,_,_,z⟩
 .cases r;rfl
 .cases o<;>first|(cases z;done)|(rename_i C _;cases C<;>cases z)
def dE{x}(I:DInv K P F H ρ σ)(r:RepS K H F x (.lst ds)):∃a vs,x=.ref a/\SqL K H a vs/\Reps K F vs ds:=by
 rcases r with r|⟨a,o,u,rfl,_,h3,h4,hfl,z⟩
 .cases r with|lst h q=>exact#[_,_,qx,I.sub.seq h,q]
 .cases o with
  |lst ds'=>
   cases z;cases u with
   |lst vs=>exact#[a,vs,qx,SqL.of h3,h4]
   |_=>exact h4.elim
  |obj _ _=>cases hfl
  |lst2 _=>cases hfl
  |_=>cases z
def kL{x}(I:DInv K P F H ρ σ)(r:RepS K H F x (.tup ds)):∃a vs,x=.ref a/\SqT K H a vs/\Reps K F vs ds:=by
 rcases r with r|⟨a,o,u,rfl,_,h3,h4,hfl,z⟩
 .cases r with|tup h q=>exact#[_,_,qx,SqT.of<|I.sub _ _ h,q]
 .cases o<;>first|(cases z;done)|cases hfl
def xY{x}(I:DInv K P F H ρ σ)(r:RepS K H F x (.dT ds)):∃a vs,x=.ref a/\H a=!.dT vs/\RepsT K F vs ds:=by
 rcases r with r|⟨a,o,u,rfl,_,h3,h4,hfl,z⟩
 .cases r with|dT h q=>exact#[_,_,qx,I.sub _ _ h,q]
 .cases o with
  |dT ds'=>
   cases z;cases u with
   |dT vs=>exact#[a,vs,qx,h3,h4]
   |_=>exact h4.elim
  |obj _ _=>cases hfl
  |lst2 _=>cases hfl
  |_=>cases z
def uG{x}(I:DInv K P F H ρ σ)(r:RepS K H F x (.ins C fs)):∃a dx vs,x=.ref a/\H a=!.ins C dx vs/\RepsF K F vs fs:=by
 rcases r with r|⟨a,o,u,rfl,_,h3,b,hfl,z⟩
 .cases r with|ins h q=>exact#[_,_,_,qx,I.sub _ _ h,q]
 .cases o with
  |ins C' fs'=>
   cases z;cases u with
   |ins C'' dx vs=>(let#[rfl,b]:=b;exact#[a,dx,vs,qx,h3,b])
   |_=>exact b.elim
  |obj _ _=>cases hfl
  |lst2 _=>cases hfl
  |_=>cases z
def fI(C:Int->Int->Bool)(g:Int->Int->D):D->D->Option D
 |.int i,.int j=>if C i j then !g i j else ()
 |_,_=>()
open A in
def ud{C}{a}(l:∀i j,a i j->C i j)(e:∀F i j,Rep K F (g i j) (g' i j)):u3 K (rI C g) (fI a g'):=by
 intro P F H o m x y q p d Q h I c b k;delta fI at h;split at h
 .rename_i i j;split at h
  .rename_i f;cases h;exact#[i,j,da c,da b,l i j f,k _ F H (Evo.refl I.toDHp)<|e F i j]
  .cases h
 .cases h
def fI0(g:Int->Int->D):D->D->Option D
 |.int i,.int j=>some<|g i j
 |_,_=>()
open A in
def t5(c:∀F i j,Rep K F (g i j) (g' i j)):u3 K (rI0 g) (fI0 g'):=by
 intro P F H f e x y m l d Q h I b a k;delta fI0 at h;split at h
 .rename_i i j;cases h;exact#[i,j,da b,da a,k _ F H (Evo.refl I.toDHp)<|c F i j]
 .cases h
def AB:=fI0 λi j=>.int<|i-j
def nD:=fI (λi j=>decide<|(-(2^64)<i/\i<2^64)\/(-(2^64)<j/\j<2^64)) λi j=>.int<|i*j
def rK:=fI (λz j=>decide<|0<j/\j<1073741824) λi j=>.int<|i/j
def eZ:=fI (λz j=>decide<|0<j) λi j=>.int<|i%j
def kB:=fI (λi j=>decide<|0<=j/\j<=1000000/\i.natAbs<2^64) λi j=>.int<|i^j.toNat
def ltI:=fI0 λi j=>.bl<|decide<|i<j
def leI:=fI0 λi j=>.bl<|decide<|i<=j
def gtI:=fI0 λi j=>.bl<|decide<|j<i
def xw(c:PDR X a fa)(h:PDR X b fb):PDE X (.BinOp a .Sub b pos) (d2 AB fa fb):=kK JP (t5 λz z z=>.int) c h
def uQ(e:PDR X a fa)(c:PDR X b fb):PDE X (.BinOp a .Mult b pos) (d2 nD fa fb):=kK IT (ud (λz z h=>by let q:=Yz h;exact q) λz z z=>.int) e c
def kX(e:PDR X a fa)(c:PDR X b fb):PDE X (.BinOp a .FloorDiv b pos) (d2 rK fa fb):=kK GY (ud (λz z h=>by let q:=Yz h;exact q) λz z z=>.int) e c
def ee(e:PDR X a fa)(c:PDR X b fb):PDE X (.BinOp a .Mod b pos) (d2 eZ fa fb):=kK JL (ud (λz z h=>by let q:=Yz h;exact q) λz z z=>.int) e c
def uF(e:PDR X a fa)(c:PDR X b fb):PDE X (.BinOp a .Pow b pos) (d2 kB fa fb):=kK Kz (ud (λz z h=>by let q:=Yz h;exact q) λz z z=>.int) e c
end
def tO(K:Kq)(f:DF->Option OD):TE:=λh H Q=>∃P F g o,f g=!o/\DInv K P F H g h /\
 ∀a e c,Evo P F H e c->ORep K e c (λb=>H b=()/\e b=()) o a->Q (.ref a) c
def PDO(X:Cx)(e:Expr)(f:DF->Option OD):=PE X e<|tO X.K f
def asO(f:DF->Option OD):=λa=>(f a).map OD.d
def Evo.back(h:DHp P F H)(e:Evo P F H F' H')(n:H' a=()):H a=():=by
 cases q:H a with
 |none=>rfl
 |some o=>rw[e.same h a o q]at n;cases n
open Classical in
def DE(F H:Hp)(ow:Addr->Prop):Hp:=λb=>if ow b then H b else F b
def eS{b}(h:ow b):DE F H ow b=H b:=Yk h
def iR{b}(h:¬ow b):DE F H ow b=F b:=Ym h
def cC(h:∀b,ow b->F b=()):Same F (DE F H ow):=λb u e=>by
 by_cases q:ow b
 .rw[h b q]at e;cases e
 .rwa[iR q]
def Evo.freeze(g:DHp P F H)(e:Evo P F H F' H')ow(a:∀b,ow b->H b=()/\F' b=()):Evo P F H (DE F' H' ow) H' where
 ext:=e.ext.trans<|cC λb q=>(a b q).2
 hp:=#[λb u h=>by
   by_cases q:ow b
   .rwa[eS q]at h
   .rw[iR q]at h;exact e.hp.sub b u h,e.hp.pro,λb u h=>by
   rw[iR λq=>by rw[(g.pro.free (a b q).1)]at h;cases h];exact e.hp.dis b u h]
 keep:=λb u h n=>by
  let#[f,c]:=e.keep b u h n;exact#[f,?_];rwa[iR λq=>by rw[(a b q).1]at h;cases h]
def jw{o}(h:F a=()):Same F (upd F a o):=λb u e=>by rwa[az<|aX e h]
section
variable{bU:List Stmt}
def PDO.v{f}(h:PDO X e f):PDE X e (asO f):=PE.imp h λw H Q=>un7 λP F i d c I k=>by
 let#[o,q,rfl]:=YK.mp c;exact#[P,F,i,o,q,I,λa g s p j=>?_];have l:∀b,(H b=()/\g b=())->H b=()/\g b=():=λz q=>q
 exact k _ _ s (p.freeze I.toDHp _ l)<|j.rep (cC λb q=>q.2) λb u q m=>by rwa[eS q]
def asL(f:DF->Option (List D)):DF->Option OD:=λa=>(f a).map .lst
inductive RES where
 |nx (ρ:DF)|rt (x:DV) (ρ:DF)|bk (ρ:DF)|ct (ρ:DF)
abbrev Dd:=DF->Option D
abbrev Dw:=DF->Option RES
abbrev Dk:=DF->Option Bool
abbrev Dv:=DF->Option (List DV)
abbrev Dl:=DF->Option (List D)
abbrev Dm:=List DV->Option DV
abbrev Dq:=D->DF->Option DF
abbrev Do:=DF->Option OD
abbrev Dz:=OD->List DV->Option (OD×D)
abbrev Dy:=D->D->Option D
def EndsD(K:Kq)(P F:Hp)(E:kJ):RES->Prop
 |.nx ρ=>∀b a H,Same F a->DInv K P a H ρ b->E.nx b H
 |.bk ρ=>∀b a H,Same F a->DInv K P a H ρ b->E.bk b H
 |.ct ρ=>∀b a H,Same F a->DInv K P a H ρ b->E.ct b H
 |.rt x ρ=>∀v b a H,Same F a->DInv K P a H ρ b->DVRep K P a H vt x v->E.rt v H
def EndsD.ext{E}(h:EndsD K P F E r)(e:Same F F1):EndsD K P F1 E r:=by
 cases r with
 |nx ρ=>exact λa c H b I=>h a c H (e.trans b) I
 |bk ρ=>exact λa c H b I=>h a c H (e.trans b) I
 |ct ρ=>exact λa c H b I=>h a c H (e.trans b) I
 |rt x ρ=>exact λv a c H b I r=>h v a c H (e.trans b) I r
def tS(K:Kq)(g:Dw):TS:=λE b H=>∃P F a r,g a=!r/\DInv K P F H a b/\EndsD K P F E r
def PD1(X:Cx)(st:Stmt)(g:Dw):=PS X st<|tS X.K g
def PDS(X:Cx)(sts:List Stmt)(g:Dw):=PSs X sts<|tS X.K g
def PS.imp{t t'}(h:PS X st t)(i:∀E σ H,t' E σ H->t E σ H):PS X st t':=λp s σ H E I q=>h p s σ H E I<|i E σ H q
def PSs.imp{t t'}(h:PSs X sts t)(i:∀E σ H,t' E σ H->t E σ H):PSs X sts t':=λp s σ H E I q=>h p s σ H E I<|i E σ H q
def dNx:DF->Option RES:=λρ=>some<|.nx ρ
def MV:∀E σ H,tS K dNx E σ H->E.nx σ H:=λE σ H=>un7 λP F a r h I k=>by
 cases h;exact k σ F H (Same.refl _) I
def aL:PDS X [] dNx:=PSs.imp zc MV
def aq(g h:Dw):DF->Option RES:=λa=>match g a with
 |some (.nx ρ')=>h ρ'
 |r=>r
open A in
def aa{g h}(h1:PD1 X st g)(h2:PDS X bU h):PDS X (st::bU) (aq g h):=PSs.imp (vo h1 h2) λE l H=>un7 λP F b r c I k=>by
 delta aq at c;split at c
 .rename_i a q;exact#[P,F,b,_,q,I,λf j m e i=>#[P,j,a,r,c,i,k.ext e]]
 .rename_i q;exact#[P,F,b,r,c,I,?_];cases r with
  |nx a=>exact absurd c<|q a
  |bk b=>exact k
  |ct b=>exact k
  |rt x b=>exact k
def af(h1:PD1 X st g):PDS X [st] g:=PSs.imp (tQ h1) λz z z q=>q
def br(f:Dd):DF->Option RES:=λa=>(f a).map λd=>.rt (.v d) a
def aS{f:Dd}(h:PDE X e f):PD1 X (.Return (!e) pos) (br f):=PS.imp (pJ h) λE g H=>un7 λP F b r a I k=>by
 let#[d,q,rfl]:=YK.mp a;exact#[P,F,b,d,q,I,λv l j c i=>k v g l j c.ext (I.evo c) i]
def bZ(f:Do):DF->Option RES:=λa=>(f a).map λo=>.rt (.own o ()) a
def bt{f:Do}(h:PDO X e f):PD1 X (.Return (!e) pos) (bZ f):=PS.imp (pJ h) λE j H=>un7 λP F g r c I k=>by
 let#[o,q,rfl]:=YK.mp c;exact#[P,F,g,o,q,I,λa s p i l=>k _ j s p i.ext (I.evo i) #[a,qx,l.mono (Same.refl _) λb u q m=>#[m,q.2,I.pro.free q.1,trivial],λy z=>nomatch z]]
def j9(i:Nat):DF->Option RES:=λa=>match a[i]? with
 |some (!x)=>some<|.rt x a
 |_=>()
def iu i(h:PE X e (dM i)):PD1 X (.Return (!e) pos) (j9 i):=PS.imp (pJ h) λE b H=>un7 λP F g r a I k=>by
 delta j9 at a;split at a
 .rename_i x q;cases a;let#[v,f,c]:=I.at q;exact#[v,f,k v b F H (Same.refl _) I c]
 .cases a
def gq{b:Type}{l:List b}{x y}(h:(l.set i x)[j]?=!y):(i=j/\y=x/\i<l.length)\/(i≠j/\l[j]?=!y):=by
 by_cases a:i=j
 .subst a;have c:i<l.length:=by have:=(Yo.mp h).1;rwa [Zp]at this
  rw[ZN c]at h;exact .inl #[qx,(YG h).symm,c]
 .rw[YY a]at h;exact .inr #[a,h]
def DInv.setO(I:DInv K P F H ρ σ)i{x}f(g:∀j y w (O:Addr->Option Nat),j≠i->ρ[j]?=!!y->DVRep K P F H (λb=>O b=!j) y w->DVRep K P F H (λb=>O b=!j/\¬f b) y w)(r:DVRep K P F H f x v) :
  DInv K P F H (ρ.set i<|!x) (σ.set i<|!v):=by
 let#[O,h]:=I.rep;exact#[I.toDHp,by rw[Zp,Zp];exact I.len,?_]
 classical
 exact#[λb=>if f b then !i else if O b=!i then () else O b,λj y m=>?_];rcases gq m with⟨rfl,e,l⟩|⟨a,c⟩
 .cases e;exact#[v,by rw[ZN<|by rwa[<-I.len]],r.imp λb u t t t q=>Yk q]
 .let#[w,p,o]:=h j y c;exact#[w,by rwa[YY a],(g j y w O (Xq a) c o).imp λb u t t t q=>?_];show(if f b then !i else if O b=!i then () else O b)=!j;rw[Ym q.2,Ym<|by rw[q.1];intro z;exact a (YG z).symm,q.1]
def DInv.setV(I:DInv K P F H ρ σ)i(r:Rep K F v d):DInv K P F H (ρ.set i (!.v d)) (σ.set i (!v)):=
 I.setO i (λx=>False) (λj y w O x x q=>q.imp λb u x x x z=>#[z,id]) r
def DInv.setN(I:DInv K P F H ρ σ)(l:Evo P F H F' H')i{o}(m:ORep K F' H' (λb=>H b=()/\F' b=()) o a):DInv K P F' H' (ρ.set i (!.own o ())) (σ.set i (!.ref a)):=by
 let#[O,h]:=I.rep;exact#[l.hp,by rw[Zp,Zp];exact I.len,?_]
 exact#[λb=>if H b=() then !i else if O b=!i then () else O b,λj y s=>?_];rcases gq s with⟨rfl,e,p⟩|⟨c,f⟩
 .cases e;exact#[.ref a,by rw[ZN<|by rwa[<-I.len]],a,qx,m.mono (Same.refl _) λb u q g=>#[g,q.2,I.pro.free q.1,Yk q.1],λv z=>nomatch z]
 .let#[w,B,A]:=h j y f;exact#[w,by rwa[YY c],?_];let x:=A.imp λb u v v g q=>by
   show(if H b=() then !i else if O b=!i then () else O b)=!j;rw[Ym<|by rw[g];simp,Ym<|by rw[q];intro z;exact c (YG z).symm,q]
  exact x.evo l
def setV(i:Nat)(d:D)(ρ:DF):Option DF:=some<|ρ.set i<|some<|.v d
def aW(i:Nat)(f:Dd):DF->Option RES:=λa=>(f a).map λd=>.nx<|a.set i<|some<|.v d
def Cm{f}:∀E σ H,tS K (aW i f) E σ H->DK (tD K f) (ng i) E σ H:=λE σ H=>un7 λP F a r h I k=>by
 delta aW at h;cases q:f a with
 |none=>rw[q]at h;cases h
 |some d=>
  rw[q]at h;cases h;exact#[P,F,a,d,q,I,λv g c e b=>k _ g c e.ext<|(I.evo e).setV i b]
def I8{f:Dd}(hN:X.N.Nodup)(hi:X.N[i]?=!x)(hx:Loc X.env.scope x)(he:PDE X e f)(hs:swapsWith e (!.Name x pos') pos.line X.env=pure false:=by rfl)(h:FnL X x:=by trivial):PD1 X (.Assign [.Name x pos'] e pos) (aW i f):=PS.imp (uL hN hi hx he hs h) Cm
def ck(i:Nat)(f:Do):DF->Option RES:=λa=>(f a).map λo=>.nx<|a.set i<|some<|.own o ()
def EK{f}:∀E σ H,tS K (ck i f) E σ H->DK (tO K f) (ng i) E σ H:=λE σ H=>un7 λP F b r h I k=>by
 delta ck at h;cases q:f b with
 |none=>rw[q]at h;cases h
 |some o=>
  rw[q]at h;cases h;exact#[P,F,b,o,q,I,λa j g e c=>k _ j g e.ext<|I.setN e i c]
def Hw{f:Do}(hN:X.N.Nodup)(hi:X.N[i]?=!x)(hx:Loc X.env.scope x)(he:PDO X e f)(hs:swapsWith e (!.Name x pos') pos.line X.env=pure false:=by rfl)(h:FnL X x:=by trivial):PD1 X (.Assign [.Name x pos'] e pos) (ck i f):=PS.imp (uL hN hi hx he hs h) EK
def BD(i:Nat)(g:Dw):DF->Option RES:=λa=>match a[i]? with
 |some (some<|.own o ())=>g<|a.set i<|some<|.v o.d
 |some (some<|.v d)=>g a
 |_=>()
def DInv.frz(I:DInv K P F H ρ σ){o}(h:ρ[i]?=!!.own o t):∃F',Same F F'/\DInv K P F' H (ρ.set i (!.v o.d)) σ:=by
 let#[O,x]:=I.rep;have f:∀b,(F b=()/\P b=()/\O b=!i)->F b=():=λb q=>q.1
 exact#[DE F H _,cC f,#[λb u q=>?_,I.pro,λb u q=>?_],by rw[Zp];exact I.len,O,λj y A=>?_]
 .by_cases c:F b=()/\P b=()/\O b=!i
  .rwa[eS c]at q
  .rw[iR c]at q;exact I.sub b u q
 .rw[iR λc=>by rw[c.2.1]at q;cases q];exact I.dis b u q
 .rcases gq A with⟨rfl,e,B⟩|⟨p,m⟩
  .cases e;let#[v,w,a,rfl,l,_]:=x i _ h;exact#[_,w,l.rep (cC f) λb u q g=>by rwa[eS q]]
  .let#[v,w,l]:=x j y m;exact#[v,w,?_];cases y with
   |v d=>exact Rep.same (cC f) l
   |own o' t'=>
    let#[a,rfl,s,z]:=l;exact#[a,qx,s.mono (cC f) λb u q g=>#[g,by
     rw[iR λc=>by rw[q.2.2]at c;exact p (YG c.2.2).symm];exact q.1,q.2],z]
   |bor o'=>
    let#[a,rfl,s]:=l;exact#[a,qx,s.mono (cC f) λb u q g=>#[g,q]]
def Ji:∀E σ H,tS K (BD i g) E σ H->tS K g E σ H:=λE σ H=>un7 λP F a r h I k=>by
 delta BD at h;split at h
 .rename_i o q;let#[c,e,b]:=I.frz q;exact#[P,c,_,r,h,b,k.ext e]
 .exact#[P,F,a,r,h,I,k]
 .cases h
def G2 i(h:PD1 X st g):PD1 X st (BD i g):=PS.imp h Ji
def j6:DF->Option RES:=λz=>()
def jn:PD1 X st j6:=PS.imp EV λ_ _ _ #[_,_,_,_,h,_]=>by cases h
def zb(f:Dd):DF->Option RES:=λρ=>(f ρ).map λz=>.nx ρ
def Ie{f:Dd}(h:PDE X e f)(hs:swapsWith e () pos.line X.env=pure false:=by rfl):PD1 X (.Expr e pos) (zb f):=PS.imp (iP h hs) λE g H=>un7 λP F b r a I k=>by
 let#[d,q,rfl]:=YK.mp a;exact#[P,F,b,d,q,I,λv j i c z=>k g j i c.ext<|I.evo c]
def dIf(c:Dk)(g h:Dw):=λa=>(c a).bind λb=>if b then g a else h a
def bJ{a b}{fc:Dk}{g h}(l:PDT X c fc)(o:PDS X a g)(m:PDS X b h):PD1 X (.If c a b pos) (dIf fc g h):=PS.imp (Iz l o m) λE p H=>un7 λP F f r e I k=>by
 let#[b,q,e]:=Yx.mp e;exact#[P,F,f,b,q,I,λj s i=>?_];cases b with
 |true=>
  exact#[P,j,f,r,e,I.evo i,k.ext i.ext]
 |false=>
  exact#[P,j,f,r,e,I.evo i,k.ext i.ext]
def uD(K:Kq)(P:Hp)(J:It)(F:Hp)(ds:List D):=
 ∀a H,Same F a->DHp P a H->∀i:Nat,(∀d,ds[i]?=!d->J.go i H/\∀x b,J.yld i H x b->∃c,Evo P a H c b/\Rep K c x d)/\(ds.length<=i->J.stop i H)
def tI(K:Kq)(f:Dl):TI:=λc H R=>∃P F a b,f a=!b/\DInv K P F H a c/\∀J F' H',Evo P F H F' H'->uD K P J F' b->R J H'
def PDI(X:Cx)(tg iter:Expr)(f:Dl):=PI X tg iter<|tI X.K f
def PI.imp{t t'}(h:PI X tg iter t)(i:∀σ H R,t' σ H R->t σ H R):PI X tg iter t':=λp s σ H R I q=>h p s σ H R I<|i σ H R q
def tG(K:Kq)(is:List Nat)(st:Dq):TG:=λv c H Q=>∃P F f d b,st d f=!b/\DInv K P F H f c/\Rep K F v d/\∀a g e,Evo P F H g e->DInv K P g e b a->a.length=c.length->(∀j,j∉is->a[j]?=c[j]?)->Q a e
def PDG(X:Cx)(tg:Expr)(is:List Nat)(st:Dq):=PG X tg<|tG X.K is st
def PG.imp{t t'}(h:PG X tg t)(i:∀v σ H Q,t' v σ H Q->t v σ H Q):PG X tg t':=λp s σ H v u Q I r q=>h p s σ H v u Q I r<|i v σ H Q q
def B0(hN:X.N.Nodup)(hi:X.N[i]?=!x)(hx:Loc X.env.scope x)(e:FnL X x:=by trivial):PDG X (.Name x pos) [i] (setV i):=
 PG.imp (yB hN hi hx e) λv f H Q h=>by
  let#[P,F,g,d,a,b,I,r,k]:=h;cases b;exact k _ F H (Evo.refl I.toDHp) (I.setV i r) (Zp ..) λj c=>by rw[YY λz=>c<|by rw[z];exact YO _]
def gX(st:Dq)(body:Dw):List D->DF->Option RES
 |[],ρ=>some<|.nx ρ
 |d::ds,ρ=>match st d ρ with
  |none=>()
  |some a=>match body a with
   |some (.nx ρ')=>gX st body ds ρ'
   |some (.ct ρ')=>gX st body ds ρ'
   |some (.bk ρ')=>some<|.nx ρ'
   |r=>r
def im(it:Dl)(st:Dq)(body:Dw):=λa=>(it a).bind λb=>gX st body b a
theorem Js{f}{st}(hp:PassesOwn (model X.prog X.w) X.A X.env X.xe)(hc:X.calm)(hi:PDI X tg iter f)(hg:PDG X tg is st)(hb:PDS X body g)(hs:FsI iter X:=by intro _;rfl):PD1 X (.For tg iter body [] pos) (im f st g):=PS.imp (Ly hp hc hi hg hb hs) λE σ H=>un7 λP F ρ r Q I k=>by
 delta im at Q;cases q:f ρ with
 |none=>rw[q]at Q;cases Q
 |some a=>
  rw[q,Ya]at Q;exact#[P,F,ρ,a,q,I,λJ F1 H1 S ok=>?_];exact#[λi m j Z=>m=a.length-i/\i<=a.length/\∃M c,Same F1 M/\DInv X.K P M Z c j/\gX st g (a.drop i) c=!r,#[_,qx,YQ _,F1,ρ,Same.refl _,I.evo S,Q],?_];rintro i m j Z ⟨rfl,hil,M,c,U,I',h⟩;let#[ok1,ok2]:=ok M Z U I'.toDHp i;by_cases p:i<a.length
  .let hd:=Yh p;let#[go,yl]:=ok1 _ hd;let u:=Xr p;rw[u]at h;delta gX at h;cases o:st a[i] c with
   |none=>rw[o]at h;cases h
   |some l=>
    rw[o]at h;dsimp only at h;let hE:=S.ext.trans U;exact .inr #[go,λN Y=>∃L e,Same F1 L/\DInv X.K P L Y e N/\gX st g _ e=!r,λN Y #[L,e,s2,I2,hf2]=>#[a.length-(i+1),by lia,rfl,p,L,e,s2,I2,hf2],λx Y hy=>?_];let#[L,R,rx]:=yl x Y hy;exact#[P,L,c,a[i],l,o,I'.evo R,rx,λσ3 F3 H3 ev3 I3 v v=>?_];let s:=U.trans<|R.ext.trans ev3.ext;cases y:g l with
    |none=>rw[y]at h;cases h
    |some O=>
     rw[y]at h;exact#[P,F3,l,O,y,I3,?_];cases O with
     |nx ρ4=>exact λb C T z B=>#[C,ρ4,s.trans z,B,h]
     |ct ρ4=>exact λb C T z B=>#[C,ρ4,s.trans z,B,h]
     |bk ρ4=>
      cases h;exact λb C T z B=>k b C T (S.ext.trans<|s.trans z) B
     |rt x4 ρ4=>
      cases h;exact λv4 b C T z B r4=>k v4 b C T (S.ext.trans<|s.trans z) B r4
  .have hz:a.drop i=[]:=Vv (by lia);rw[hz]at h;cases h;exact .inl #[ok2<|by lia,k j M Z (S.ext.trans U) I']
def c9(c:Dk)(body:Dw):Nat->DF->Option RES
 |0,_=>()
 |n+1,ρ=>match c ρ with
  |none=>()
  |some false=>some<|.nx ρ
  |some true=>match body ρ with
   |some (.nx ρ')=>c9 c body n ρ'
   |some (.ct ρ')=>c9 c body n ρ'
   |some (.bk ρ')=>some<|.nx ρ'
   |r=>r
def qt n{fc:Dk}(Y:PassesOwn (model X.prog X.w) X.A X.env X.xe)(Z:PDT X c fc)(hb:PDS X body g):PD1 X (.While c body [] pos) (c9 fc g n):=PS.imp (Ew Y Z hb) λE σ H=>un7 λP F R r U I k=>by
 exact#[λm j O=>∃C a,Same F C/\DInv X.K P C O a j/\c9 fc g m a=!r,#[n,F,R,Same.refl _,I,U],?_];rintro m j O ⟨C,a,M,J,e⟩;cases m with
 |zero=>cases e
 |succ m=>
  delta c9 at e;cases l:fc a with
  |none=>rw[l]at e;cases e
  |some b=>
   rw[l]at e;exact#[P,C,a,b,l,J,λL H2 i=>?_];cases b with
   |false=>
    rw[Ym Yj];cases e;exact k j L H2 (M.trans i.ext)<|J.evo i
   |true=>
    rw[Yk qx];exact#[λu N=>∃Q x,Same F Q/\DInv X.K P Q N x u/\c9 fc g m x=!r,λu N h=>#[m,ZV m,h],?_];let B:=M.trans i.ext;dsimp only at e;cases o:g a with
    |none=>rw[o]at e;cases e
    |some y=>
     rw[o]at e;exact#[P,L,a,y,o,J.evo i,?_];cases y with
     |nx ρ4=>exact λf s z p q=>#[s,ρ4,B.trans p,q,e]
     |ct ρ4=>exact λf s z p q=>#[s,ρ4,B.trans p,q,e]
     |bk ρ4=>
      cases e;exact λf s z p q=>k f s z (B.trans p) q
     |rt x4 ρ4=>
      cases e;exact λS f s z p q T=>k S f s z (B.trans p) q T
end
end L2
variable{ds as:List L2.D}{ρ ρ':DF}{ts:List T4}{fa fb fc fe fv fx f1 f4 gl:DF->Option L2.D}{ks ls:List Str}{q out tr q1:List Int}{g body:DF->Option RES}{W y dc dy S z d' dx:L2.D}{xs:List DV}{spos p2 p1 p' py pos2:Pos}{m Opn Od:List DV->Option DV}{mM Arr:OD->List DV->Option (OD×L2.D)}{outer:List Env}{mn er tn c1 c2:Str}{l e1 e2 e0 e3 e4:Expr}{k' mask kk ie ep it io:Nat}{I c' c0 f0 a0 A1 A2 f':Addr}{T R R':List (List Int)}{ob:Obj}{wr:List Addr}{kvs:List (List Key×L2.D)}{H1 F1 H2 F2:Hp}{o':OD}{cd pm uc doc cdv ct oc:Value}{elts:List Expr}{v0 vc:V}{gR:Addr->V->L2.D->DF->Option RES}{fo:DF->Option OD}{sd:Stmt}{x8 x9 x6 x7:Option DV}{B:Heap}{s2:Shared}{an od:Option Addr}{x0:DV}{sc:Bool}{rz:DF->Option Nat}{cs:List V}
namespace L2
open PySem PySem.Spec PyProof.Rows
def gd(F H:Hp):Hp:=λa=>match F a with
 |none=>H a
 |some _=>()
theorem jr{o}:gd F H a=!o↔F a=()/\H a=!o:=by
 delta gd;grind
def fF(s:Same F H):DHp (gd F H) F H:=#[s,λa o e=>(jr.mp e).2,λa o e=>(jr.mp e).1]
def DHp.gd(h:DHp P F H)(e:Same F F')(g:DHp (gd F H) F' H'):Evo P F H F' H' where
 ext:=e
 hp:=#[g.sub,λa o q=>g.pro a o<|jr.mpr #[h.dis a o q,h.pro a o q],λa o q=>g.dis a o<|jr.mpr #[h.dis a o q,h.pro a o q]]
 keep:=λa o q n=>#[g.pro a o<|jr.mpr #[n,q],g.dis a o<|jr.mpr #[n,q]]
def Evo.change{b F}(e:Evo P F H F' H')(h:DHp b F H):Evo b F H F' H':=
 #[e.ext,#[e.hp.sub,λa o q=>(e.keep a o (h.pro a o q)<|h.dis a o q).1,λa o q=>(e.keep a o (h.pro a o q)<|h.dis a o q).2],e.keep]
def Ii:DV->Bool
 |.own _ _=>true
 |_=>false
inductive DVs (K:PySem.W.Frag) (P F H:Hp):List DV->List V->Prop
 |nil:DVs K P F H [] []
 |cons {x:DV}{v:V}{xs:List DV}{vs:List V}:Ii x=false->DVRep K P F H vt x v->DVs K P F H xs vs->DVs K P F H (x::xs) (v::vs)
def DVs.length(h:DVs K P F H xs vs):xs.length=vs.length:=by
 induction h with
 |nil=>rfl
 |cons _ _ _ ih=>exact YW Nat.succ ih
def DVs.get{x}(h:DVs K P F H xs vs)(e:xs[i]?=!x):Ii x=false/\∃v,vs[i]?=!v/\DVRep K P F H vt x v:=by
 induction h generalizing i with
 |nil=>exact nomatch e
 |cons h r _ ih=>
  cases i with
  |zero=>obtain rfl:=YG e;exact#[h,_,qx,r]
  |succ i=>exact ih e
def spD(K:Kq)(m:Dm):Sp:=λe H Q z=>∃P F c x,m c=!x/\DHp P F H/\DVs K P F H c e/\∀v b a,Same F b->DHp P b a->DVRep K P b a vt x v->Q v a
def aK(n p:Nat)(xs:List DV):DF:=xs.map some++List.replicate (n-p) ()
def bv:Option RES->Option DV
 |some (.rt x _)=>!x
 |some (.nx _)=>some<|.v .non
 |_=>()
def mOf(n p:Nat)(g:Dw):=λx=>if x.length=p then bv (g<|aK n p x)else ()
theorem km{n p}{x}(h:(aK n p xs)[i]?=!!x):xs[i]?=!x:=by
 delta aK at h;grind
def g9(h:vs[i]?=!v):(start N vs)[i]?=!!v:=by delta start;let a:=(Yo.mp h).1;rw[ZD<|by simpa using a,Yw,h];rfl
def DInv.start N p(h:DHp P F H)(r:DVs K P F H xs vs)(b:xs.length=p):DInv K P F H (aK N.length p xs) (start N vs):=by
 exact#[h,?_,λz=>(),λi x e=>?_]
 .delta aK L2.start;rw[Yr,Yr,Yc,Yc,YM,YM,r.length,<-r.length,b]
 .let#[c,v,f,a]:=r.get<|km e;exact#[v,g9 f,?_];cases x with
  |own o t=>cases c
  |v d=>exact a
  |bor o=>exact a
def uS{n p}:∀vs H Q E,spD K (mOf n p g) vs H Q E->vs.length=p:=λvs H Q E b=>by
 let#[P,i,x,e,a,f,c,_]:=b;delta mOf at a;split at a
 .rename_i h;rwa[<-c.length]
 .cases a
def qE{p}{Q}{E}(h:spD K (mOf N.length p g) vs H Q E):tS K g {nx:=λ_ H'=>Q .non H',rt:=Q} (start N vs) H:=by
 let#[P,i,x,u,a,m,l,f]:=h;delta mOf at a;split at a
 .rename_i o;let I:=DInv.start N p m l o;cases q:g (aK N.length p x)with
  |none=>rw[q]at a;cases a
  |some r=>
   rw[q]at a;exact#[P,i,_,r,q,I,?_];cases r with
   |rt y ρ=>cases a;exact λv j c b e h r=>f v c b e h.toDHp r
   |nx ρ=>cases a;exact λj c b e s=>f .non c b e s.toDHp .non
   |bk ρ=>cases a
   |ct ρ=>cases a
 .cases a
def Fun.okD{P}(F:Fun K x qual st f fd)(S:FnScope N ps (defScope st))(a:∀cdv A outer s H E,Room k (A.deeper<|envOfC qual (defScope st) s.heap.objs.size f cdv)->
   PDS (b7 CX0 P w K mg base N qual (defScope st) f cdv A outer s H E).nox (defBody st) g):FnOk P w K mg base CX0 (k+1) f fd ps (spD K<|mOf N.length ps.length g):=
 F.ok S uS λcdv A outer s H c Q E b h=>#[_,a cdv A outer s H E b,qE h]
inductive ArgsS (K:PySem.W.Frag) (ρ:DF) (σ:St) (F:Hp):List DV->List V->Prop
 |nil:ArgsS K ρ σ F [] []
 |v {d:D}{v:V}{xs:List DV}{vs:List V}:Rep K F v d->ArgsS K ρ σ F xs vs->ArgsS K ρ σ F (.v d::xs) (v::vs)
 |b {o:OD}{v:V}{xs:List DV}{vs:List V} (i:Nat):σ[i]?=!!v->((∃t,ρ[i]?=!!.own o t)\/ρ[i]?=!!.bor o)->ArgsS K ρ σ F xs vs->ArgsS K ρ σ F (.bor o::xs) (v::vs)
def ArgsS.same(e:Same F F')(h:ArgsS K ρ σ F xs vs):ArgsS K ρ σ F' xs vs:=by
 induction h with
 |nil=>exact .nil
 |v h _ ih=>exact .v (h.same e) ih
 |b i h1 h2 _ ih=>exact .b i h1 h2 ih
def ArgsS.dvs(I:DInv K P F H ρ σ)(h:ArgsS K ρ σ F xs vs):DVs K (gd F H) F H xs vs:=by
 induction h with
 |nil=>exact .nil
 |v h _ ih=>exact .cons qx h ih
 |b i h1 h2 _ ih=>
  let#[a,rfl,e]:=I.slot h1 h2;exact .cons qx #[a,qx,e.mono (Same.refl _) λb u q c=>#[jr.mpr #[q,c],trivial]] ih
def tLV(K:Kq)(f:Dv):TA:=λb H Q=>∃P F a x,f a=!x/\DInv K P F H a b/\∀c g e,Evo P F H g e->ArgsS K a b g x c->Q c e
def i3(X:Cx)(es:List Expr)(f:Dv):=PA X es<|tLV X.K f
def ak:i3 X [] nA:=PA.imp bf λa H Q=>un7 λP F b x h I k=>by
 cases h;exact k [] F H (Evo.refl I.toDHp) .nil
def aV(f:Dd)(g:Dv):=λa=>(f a).bind λd=>(g a).map λx=>.v d::x
def ay{f:Dd}{g}(h:PDE X e f)(p:i3 X es g)(hs:starEach (e::es) X.env=(false,eval e X.env)::starEach es X.env:=by rfl):i3 X (e::es) (aV f g):=PA.imp (aI h p hs) λx H Q=>un7 λP F b z a I k=>by
 let#[d,q,a]:=Yx.mp a;let#[y,c,rfl]:=YK.mp a;exact#[P,F,b,d,q,I,λv w A j o=>#[P,w,b,y,c,I.evo j,λl u s i m=>k (v::l) u s (j.trans i)<|.v (o.same i.ext) m]]
def aB(i:Nat)(g:Dv):DF->Option (List DV):=λa=>match a[i]? with
 |some (some<|.own o _)=>(g a).map λx=>.bor o::x
 |some (some<|.bor o)=>(g a).map λx=>.bor o::x
 |some (some<|.v d)=>(g a).map λx=>.v d::x
 |_=>()
def Mi i{g}(h:PE X e (dM i))(x:i3 X es g)(hs:starEach (e::es) X.env=(false,eval e X.env)::starEach es X.env:=by rfl):i3 X (e::es) (aB i g):=PA.imp (aI h x hs) λz H Q=>un7 λP F j A a I k=>by
 delta aB at a;split at a
 .rename_i o t q;let#[v,f,w]:=I.at q;let#[y,c,rfl]:=YK.mp a;exact#[v,f,P,F,j,y,c,I,λm u s l p=>k (v::m) u s l<|.b i f (.inl #[t,q]) p]
 .rename_i o q;let#[v,f,w]:=I.at q;let#[y,c,rfl]:=YK.mp a;exact#[v,f,P,F,j,y,c,I,λm u s l p=>k (v::m) u s l<|.b i f (.inr q) p]
 .rename_i d q;let#[v,f,w]:=I.at q;let#[y,c,rfl]:=YK.mp a;exact#[v,f,P,F,j,y,c,I,λm u s l p=>k (v::m) u s l<|.v (Rep.same l.ext w) p]
 .cases a
def dvD:DV->Option D
 |.v d=>!d
 |.own o _=>!o.d
 |.bor _=>()
def aj(m:Dm)(g:Dv):=λa=>(g a).bind λx=>(m x).bind dvD
def dvO:DV->Option OD
 |.own o _=>!o
 |_=>()
def ni(m:Dm)(g:Dv):=λa=>(g a).bind λx=>(m x).bind dvO
def KJ(e:Same F F')(h1:F' a=())(h2:gd F H a=()):H a=():=by
 delta gd at h2;have:F a=():=by
  cases q:F a with
  |none=>rfl
  |some o=>rw[e a o q]at h1;cases h1
 rwa[this]at h2
def kP{o}(e2:Same F1 F2)(h:ORep K F2 H2 (λb=>F2 b=()/\gd F1 H1 b=()/\vt b) o a):ORep K F2 H2 (λb=>H1 b=()/\F2 b=()) o a:=
 h.mono (Same.refl _) λb u q c=>#[c,KJ e2 q.1 q.2.1,q.1]
def Hc{m}{g}{E}:∀σ H Q,tD K (aj m g) σ H Q->yJ (spD K m) [] E (tLV K g) σ H Q:=λσ H Q=>un7 λP F z d h I k=>by
 delta aj at h;cases q:g z with
 |none=>rw[q]at h;cases h
 |some e=>
  rw[q,Ya]at h;cases f:m e with
  |none=>rw[f]at h;cases h
  |some x=>
   rw[f,Ya]at h;exact#[P,F,z,e,q,I,λN y s l J=>?_];let c:=I.evo l;exact#[gd y s,y,e,x,f,fF c.sub,by rw[YZ];exact J.dvs c,λv w p C i A=>?_];let B:=c.toDHp.gd C i;cases x with
   |v d'=>cases h;exact k v w p (l.trans B) A
   |own o t=>
    cases h;let#[a,rfl,L,_]:=A;let j:=kP C L;exact k _ _ p (l.trans<|B.freeze c.toDHp _ λr q=>q)<|j.rep (cC λb q=>q.2) λb u q M=>by rwa[eS q]
   |bor o=>cases h
def G0{m}{g}{E}:∀σ H Q,tO K (ni m g) σ H Q->yJ (spD K m) [] E (tLV K g) σ H Q:=λσ H Q=>un7 λP F p d h I k=>by
 delta ni at h;cases q:g p with
 |none=>rw[q]at h;cases h
 |some c=>
  rw[q,Ya]at h;cases e:m c with
  |none=>rw[e]at h;cases h
  |some x=>
   rw[e,Ya]at h;exact#[P,F,p,c,q,I,λM l y i B=>?_];let j:=I.evo i;exact#[gd l y,l,c,x,e,fF j.sub,by rw[YZ];exact B.dvs j,λv z w s f A=>?_];let L:=j.toDHp.gd s f;cases x with
   |own o t=>
    cases h;let#[a,rfl,C,_]:=A;exact k a z w (i.trans L)<|(kP s C).mono (Same.refl _) λb u q J=>#[J,i.back I.toDHp q.1,q.2]
   |_=>cases h
section
variable{k:Nat}{g:Dv}
def tF(F:FnOk X.prog X.w X.K X.mg X.base CX0 k f fd ps (spD X.K m))(a:Room k X.A)(i:Gl X x)(b:X.mg x=!.ref f)(c:PySem.W.keepIn X.K (.ref f))(j:Binds X.K fd ps [])(l:i3 X (e::es) g)(hd:nDb x:=by decide)(he:starEach (e::es) X.env=(false,eval e X.env)::starEach es X.env:=by rfl)(h:(backTo pos<|starEach es X.env).any (·.1)=false:=by rfl):PDE X (.Call (.Name x p) (e::es) [] pos) (aj m g):=
 (kS F a i b c j .nil k8 l hd he h).imp Hc
def Fd(F:FnOk X.prog X.w X.K X.mg X.base CX0 k f fd ps (spD X.K m))(a:Room k X.A)(i:Gl X x)(b:X.mg x=!.ref f)(c:PySem.W.keepIn X.K (.ref f))(j:Binds X.K fd ps [])(l:i3 X (e::es) g)(hd:nDb x:=by decide)(he:starEach (e::es) X.env=(false,eval e X.env)::starEach es X.env:=by rfl)(h:(backTo pos<|starEach es X.env).any (·.1)=false:=by rfl):PDO X (.Call (.Name x p) (e::es) [] pos) (ni m g):=
 (kS F a i b c j .nil k8 l hd he h).imp G0
end
def oN:Option DV->Option DV
 |some (.v d)=>some<|.v d
 |some (.own o _)=>some<|.bor o
 |some (.bor o)=>some<|.bor o
 |_=>()
def jd(own:Nat)(ix:List Nat)(ρ:DF):DF:=List.replicate own ()++ix.map λj=>oN (ρ[j]?).join
def bO(st:Dq)(c:Dk)(e:Dd)(ρ:DF):List D->Option (List D)
 |[]=>![]
 |d::ds=>(st d ρ).bind λa=>(c a).bind λb=>if b then(e a).bind λy=>(bO st c e ρ ds).map λr=>y::r else bO st c e ρ ds
def aR(own:Nat)(ix:List Nat)(it:Dl)(st:Dq)(c:Dk)(e:Dd):=
 λa=>(it a).bind λb=>if b.length<=16777216 then bO st c e (jd own ix a) b else ()
def bi:DF->Option Bool:=λz=>!true
theorem vi{x}(h:(jd own ix ρ)[i]?=!!x):own<=i/\∃j y,ix[i-own]?=!j/\ρ[j]?=!!y/\oN (!y)=!x:=by
 delta jd at h;by_cases c:i<own
 .rw[ZD<|by rwa[YM],Xz,Yk c]at h;cases h
 .rw[ZA<|by rw[YM];lia,YM,Yw]at h;exact#[by lia,?_];cases q:ix[i-own]? with
  |none=>rw[q]at h;cases h
  |some j=>
   rw[q,ZF]at h;let a:=YG h;cases b:ρ[j]? with
   |none=>rw[b]at a;cases a
   |some o=>
    rw[b,Option.join_some]at a;cases o with
    |none=>cases a
    |some y=>exact#[j,y,qx,b,a]
def Eb(hi:own<=i)(h:ix[i-own]?=!j)(hv:σ[j]?=!!v):(eX own ix σ)[i]?=!!v:=by delta eX;rw[ZA<|by rwa[YM],YM,Yw,h,ZF,hv];rfl
def DInv.cap(I:DInv K P F H ρ σ)own ix:DInv K (gd F H) F H (jd own ix ρ) (eX own ix σ):=by
 exact#[fF I.sub,?_,λz=>(),λi x h=>?_]
 .rw[jT];delta jd;rw[Yr,YM,Yc]
 .let#[p,j,y,w,e,c]:=vi h;let#[v,f,l]:=I.at e;exact#[v,Eb p w f,?_];have g:∀o,((∃t,ρ[j]?=!_)\/ρ[j]?=!(some<|.bor o))->DVRep K _ F H (λb=>()=!i) (.bor o) v:=λo m=>by
   let#[a,rfl,c]:=I.slot f m;exact#[a,qx,c.mono (Same.refl _) λb u q s=>#[jr.mpr #[q,s],trivial]]
  cases y with
  |v d=>cases c;exact l
  |own o t=>cases c;exact g o<|.inl #[t,e]
  |bor o=>cases c;exact g o<|.inr e
def DH{f}(B:DInv K G F H (jd own ix ρ) f)(e:Same F F2)(m:DHp G F2 H2):DInv K G F2 H2 (jd own ix ρ) f:=by
 let#[O,h]:=B.rep;exact#[m,B.len,O,λi x g=>?_];let#[v,s,l]:=h i x g;exact#[v,s,?_];cases x with
 |v d=>exact Rep.same e l
 |bor o=>let#[a,rfl,c]:=l;exact#[a,qx,c.mono e λb u q p=>#[p,q]]
 |own o t=>(let#[_,j,y,_,_,c]:=vi g;cases y<;>cases c)
section
variable{own:Nat}{ix is:List Nat}{f:Dl}{st:Dq}{c:Dk}{e:Dd}
theorem zw(his:∀j∈is,j<own){out}{Q}(I:DInv K P F H ρ σ)(hlen:ds.length<=16777216)(hf:bO st c e (jd own ix ρ) ds=!out)(k:∀a F' H',Evo P F H F' H'->ORep K F' H' (λb=>H b=()/\F' b=()) (.lst out) a->Q (.ref a) H')(ev:Evo P F H F1 H1)(ok:uD K P J F1 ds):II own ix (tG K is st) (tB' K c) (tD K e) σ Q J H1:=λg l=>by
 let U:=I.evo ev;let hp1:=fF U.sub;have hg:gd F1 H1 g=():=by delta gd;rwa[U.sub.free l]
 let B1:=U.cap own ix;have hP:∀{F' H'},Same F1 F'->DHp _ F' H'->DHp P F' H':=λs h=>(U.toDHp.gd s h).hp
 exact#[λi m ys H'=>m=ds.length-i/\i<=ds.length/\∃F',Same F1 F'/\DHp _ F' H'/\F' g=()/\H' g=!.lst ys/\ys.length<=i/\∃p,Reps K F' ys p/\(bO st c e _<|ds.drop i).map (λr=>p++r)=!out,
  #[_,qx,YQ _,F1,Same.refl _,(Evo.side hp1 l).hp,U.sub.free l,aC,Yp _,[],.nil,by rw[List.drop_zero,hf];rfl],?_]
 rintro i m ys H' ⟨rfl,hi,F',T,M,fa,ha,hy,p,rp,f⟩;let#[ok1,ok2]:=ok F' H' T (hP T M) i;by_cases N:i<ds.length
 .let hd:=Yh N;let#[go,yl]:=ok1 _ hd;let O:=Xr N;rw[O]at f;delta bO at f;cases L:st ds[i] (jd own ix ρ)with
  |none=>rw[L]at f;cases f
  |some o=>
   rw[L,Ya]at f;exact .inr #[go,λw S=>∃C,Same F1 C/\DHp _ C S/\C g=()/\S g=!_/\w.length<=i+1/\∃A,Reps K C w A/\(bO st c e _ _).map _=!out,
    λw S h=>#[ds.length-(i+1),by lia,rfl,N,h],λx S hyl=>?_]
   let#[C,R,rx]:=yl x S hyl;let B:=R.change M;let#[a2,fa2]:=B.keep g _ ha fa;let B2:=DH B1 (T.trans R.ext) B.hp;exact#[gd F1 H1,C,jd own ix ρ,ds[i],o,L,B2,rx,λσ3 F3 H3 ev3 I3 hl3 hσ=>?_];exact#[#[?_,λj v hj=>?_],?_]
   .rw[hl3,jT]
   .rw[hσ]
    .exact hj
    .intro hj';let#[ho,_]:=sC hj;have:=his j hj';lia
   let#[a3,fa3]:=ev3.keep g _ a2 fa2;cases hc:c o with
   |none=>rw[hc]at f;cases f
   |some b=>
    rw[hc,Ya]at f;exact#[gd F1 H1,F3,o,b,hc,I3,λF4 H4 z=>?_];obtain⟨a4,fa4⟩:=z.keep g _ a3 fa3;let E:=R.ext.trans<|ev3.ext.trans z.ext;cases b with
    |false=>
     rw[Ym Yj]at f ⊢;exact#[F4,T.trans E,z.hp,fa4,a4,by lia,p,rp.same E,f]
    |true=>
     rw[Yk qx]at f ⊢;cases he:e o with
     |none=>rw[he]at f;cases f
     |some y=>
      rw[he,Ya]at f;exact#[gd F1 H1,F4,o,y,he,I3.evo z,λv F5 H5 q rv=>?_];let#[a5,Z]:=q.keep g _ a4 fa4;let X:=E.trans q.ext;exact#[a5,by rw[YV];lia,F5,T.trans X,#[λb u h=>by rw[az<|aX h Z];exact q.hp.sub b u h,λb u h=>by rw[az<|aX h hg];exact q.hp.pro b u h,q.hp.dis],Z,aC,by rw[Yr,YN];lia,p++[y],(rp.same X).append<|.one rv,?_];cases Y:bO st c e (jd own ix ρ) (ds.drop<|i+1)with
      |none=>rw[Y]at f;cases f
      |some r=>
       rw[Y]at f;simp only[ZF]at f ⊢;rw[Zv];exact f
 .have hz:ds.drop i=[]:=Vv (by lia);rw[hz]at f;delta bO at f;rw[ZF,YZ]at f;cases f;exact .inl #[ok2<|by lia,k g F' H' (ev.trans<|U.toDHp.gd T M) #[#[ev.back I.toDHp l,fa],_,ha,rp]]
def tH(his:∀j∈is,j<own):∀σ H Q,tO K (asL (aR own ix f st c e)) σ H Q->B6 own ix (tI K f) (tG K is st) (tB' K c) (tD K e) σ H Q:=λσ H Q=>un7 λP F g m i I k=>by
 let#[o,b,rfl]:=YK.mp i;delta aR at b;let#[l,q,a]:=Yx.mp b;split at a
 .rename_i h;exact#[P,F,g,l,q,I,λJ s p=>zw his I h a k]
 .cases a
def EH(hcalm:X.calm)(b:BlkScope X scope)(cp:Caps X scope N own ix)(his:∀j∈is,j<own)(hi:PDI X tg iter f)(h:∀s H fp pz,PDG (blk X scope N s H fp pz) tg is st)(a:∀s H fp pz,p8 (blk X scope N s H fp pz) ifs<|tB' X.K c)(he:∀s H fp pz,PDE (blk X scope N s H fp pz) elt e)(hnames:∀y∈scope.names,y.2=.local->scope.names.lookup y.1=!.local:=by decide)(hs:FsI iter X:=by intro _;rfl):PDO X (.ListComp elt [#[tg,iter,ifs,0]] scope pos) (asL<|aR own ix f st c e):=
 (zy (g:=tG X.K is st) (te:=tD X.K e) hcalm b cp hi h a he hnames hs).imp<|tH his
end
section
variable{a:Expr}
def Me(n:Nat)(f:Dl):=∀ρ ds,f ρ=!ds->ds.length=n
def PDL(X:Cx)(es:List Expr)(n:Nat)(f:Dl):=PDA X es f/\Me n f
def aP:DF->Option (List D):=λz=>![]
def ai(f:Dd)(g:Dl):=λa=>(f a).bind λd=>(g a).map λr=>d::r
def aG:PDL X [] 0 aP:=#[PA.imp bf λc H Q=>un7 λP F a x b I k=>by
 cases b;exact k [] F H (Evo.refl I.toDHp) .nil,λa e h=>by cases h;rfl]
def ar{f:Dd}{g}(h:PDE X e f)(i:PDL X es n g)(hs:starEach (e::es) X.env=(false,eval e X.env)::starEach es X.env:=by rfl):PDL X (e::es) (n+1) (ai f g):=
 #[PA.imp (aI h i.1 hs) λx H Q=>un7 λP F b z a I k=>by
  delta ai at a;cases q:f b with
  |none=>rw[q]at a;cases a
  |some d=>
   rw[q,Ya]at a;cases c:g b with
   |none=>rw[c]at a;cases a
   |some y=>
    rw[c]at a;cases a;exact#[P,F,b,d,q,I,λv w B l p=>#[P,w,b,y,c,I.evo l,λm u s j o=>k (v::m) u s (l.trans j)<|.cons (p.same j.ext) o]],λb A a=>by
  delta ai at a;cases q:f b with
  |none=>rw[q]at a;cases a
  |some d=>
   rw[q,Ya]at a;cases c:g b with
   |none=>rw[c]at a;cases a
   |some y=>
    rw[c]at a;cases a;rw[Yq,i.2 b y c]]
def asT(f:Dl):DF->Option D:=λρ=>(f ρ).map .tup
def bD{x1}{f}(h:PDL X es n f)(j:n<=16777216:=by decide):PDE X (.Tuple es x1 pos) (asT f):=(D_ h.1).imp λl H Q=>un7 λP F b d a I k=>by
 delta asT at a;cases q:f b with
 |none=>rw[q]at a;cases a
 |some i=>
  rw[q]at a;cases a;exact#[P,F,b,i,q,I,λm s o e c=>#[by rwa[c.length,h.2 b i q,YV],λp g=>?_]];exact k _ _ _ (e.trans<|Evo.laid e.hp g)<|.tup aC<|c.same<|jw (e.hp.free g).1
def cc{f}(h:PDL X es n f)(j:n<=16777216:=by decide):PDO X (.List es pos) (asL f):=(Ls h.1).imp λm H Q=>un7 λP F b s a I k=>by
 delta asL at a;cases q:f b with
 |none=>rw[q]at a;cases a
 |some i=>
 rw[q]at a;cases a;exact#[P,F,b,i,q,I,λo l u e g=>#[by rwa[g.length,h.2 b i q,YV],λp c=>?_]];exact k p l _ (e.trans<|Evo.side e.hp c) #[#[e.back I.toDHp c,(e.hp.free c).1],_,aC,g]
def Reps.atI{i}(r:Reps K F vs ds)(h:atI ds i=!d):∃v,atI vs i=!v/\Rep K F v d:=by
 delta L2.atI at h ⊢;rw[r.length];cases q:ixN ds.length i with
 |none=>rw[q]at h;cases h
 |some j=>
  rw[q,Ya]at h;let#[v,b,a]:=r.get h;exact#[v,b,a]
def ixD:D->D->Option D
 |.lst ds,.int i=>atI ds i
 |.tup ds,.int i=>atI ds i
 |.str z,.int i=>if z.length<=16777216 then(atI z.cps.toList i).map λc=>.str #[#[[c]]]else ()
 |_,_=>()
open A in
def LQ:u3 K (rIx K) ixD:=by
 intro P F H s o x y w u d Q h I e b k;delta ixD at h;split at h
 .let#[p,a,rfl,l,j]:=dE I e;let#[v,g,f]:=j.atI h;exact .inl #[p,a,_,v,qx,da b,l,g,k v F H (Evo.refl I.toDHp) f]
 .let#[p,a,rfl,l,j]:=kL I e;let#[v,g,f]:=j.atI h;exact .inr<|.inl #[p,a,_,v,qx,da b,l,g,k v F H (Evo.refl I.toDHp) f]
 .split at h
  .rename_i z i m;let#[c,q,rfl]:=YK.mp h;exact .inr<|.inr #[z,i,c,kU e,da b,by rwa[YV],q,k _ F H (Evo.refl I.toDHp) .str]
  .cases h
 .cases h
def bL(c:PDR X a fa)(h:PDR X b fb)(hs:zp b:=by exact λz z=>rfl):PDE X (.Subscript a b pos) (d2 ixD fa fb):=(LR I_ c h hs).imp<|xN LQ
def MQ:R2:=λx y H Q=>(∃i j,x=.int i/\y=.int j/\Q (.int<|i+j) H)\/∃i j,x=.str i/\y=.str j/\i.length+j.length<=sizeLine/\Q (.str<|i++j) H
def D5(c:PDR X a fa)(h:PDR X b fb):PDT X (.Compare a [.LtE] [b] pos) (asB (d2 leI fa fb)):=Ah Ir (t5 λz z z=>.bl) c h<|kD _
def mK(c:PDR X a fa)(h:PDR X b fb):PDT X (.Compare a [.Gt] [b] pos) (asB (d2 gtI fa fb)):=Ah M0 (t5 λz z z=>.bl) c h<|kD _
def eV(f g:Dk):=λa=>(f a).bind λb=>if b then g a else !false
def orT(f g:Dk):=λa=>(f a).bind λb=>if b then !true else g a
def cK(f:Dk):=λρ=>(f ρ).map λb=>(not<|b)
def PDW(X:Cx)(e:Expr)(f:Dk):=PW X e<|tB' X.K f
def PDW.t{f}(h:PDW X e f):PDT X e f:=PW.pt h
def PW.imp{t t'}(h:PW X e t)(i:∀σ H Q,t' σ H Q->t σ H Q):PW X e t':=λw p s σ H Q I q=>h w p s σ H Q I<|i σ H Q q
def cW{f:Dk}(h:PDT X a f):PDW X (.BoolOp .And [a] pos) f:=FJ h
def iO{f:Dk}(h:PDT X a f):PDW X (.BoolOp .Or [a] pos) f:=IU h
def d7{bU}{f g:Dk}(l:PDT X a f)(j:PDW X (.BoolOp .And (b::bU) pos) g):PDW X (.BoolOp .And (a::b::bU) pos) (eV f g):=PW.imp (JI l j) λu H Q=>un7 λP F c r h I k=>by
 let#[x,q,h]:=Yx.mp h;exact#[P,F,c,x,q,I,λi p e=>?_];cases x with
 |true=>rw[Yk qx]at h ⊢;exact#[P,i,c,r,h,I.evo e,λs o m=>k s o<|e.trans m]
 |false=>rw[Ym Yj]at h ⊢;cases h;exact k i p e
def kG{bU}{f g:Dk}(l:PDT X a f)(j:PDW X (.BoolOp .Or (b::bU) pos) g):PDW X (.BoolOp .Or (a::b::bU) pos) (orT f g):=PW.imp (LU l j) λu H Q=>un7 λP F c r h I k=>by
 let#[x,q,h]:=Yx.mp h;exact#[P,F,c,x,q,I,λi p e=>?_];cases x with
 |true=>rw[Yk qx]at h ⊢;cases h;exact k i p e
 |false=>rw[Ym Yj]at h ⊢;exact#[P,i,c,r,h,I.evo e,λs o m=>k s o<|e.trans m]
def df{f:Dk}(c:PDT X a f):PDT X (.UnaryOp .Not a pos) (cK f):=(KC c).imp λj H Q=>un7 λP F b r h I k=>by
 let#[x,q,rfl]:=YK.mp h;exact#[P,F,b,x,q,I,λi g e=>k i g e]
def wg(f g:Dd):DF->Option D:=λa=>match f a with
 |some (.bl true)=>g a
 |some (.bl false)=>some<|.bl false
 |_=>()
def Hk(f:Dd):DF->Option D:=λa=>match f a with
 |some (.bl b)=>some<|.bl<|(not<|b)
 |_=>()
def s_{op}{f:Dd}(h:PDE X a f):PDE X (.BoolOp op [a] pos) f:=KO h
def oP{bU}{f g:Dd}(p:PDE X a f)(o:PDE X (.BoolOp .And (b::bU) pos) g):PDE X (.BoolOp .And (a::b::bU) pos) (wg f g):=(Lp p o).imp λx H Q=>un7 λP F c r h I k=>by
 delta wg at h;split at h
 .rename_i q;exact#[P,F,c,_,q,I,λv j l e i=>?_];cases i;exact#[true,qx,by rw[Yk qx];exact#[P,j,c,r,h,I.evo e,λv w u s m=>k v w u (e.trans s) m]]
 .rename_i q;exact#[P,F,c,_,q,I,λv j l e i=>?_];cases i;cases h;exact#[false,qx,by rw[Ym Yj];exact k _ j l e .bl]
 .cases h
def E8{f:Dd}(e:PDE X a f):PDE X (.UnaryOp .Not a pos) (Hk f):=(LD e).imp λl H Q=>un7 λP F b r h I k=>by
 delta Hk at h;split at h
 .rename_i q;cases h;exact#[P,F,b,_,q,I,λv j i g c=>?_];cases c;exact#[_,qx,k _ j i g .bl]
 .cases h
def ifV(c:Dk)(f g:Dd):=λa=>(c a).bind λb=>if b then f a else g a
def xh{fc:Dk}{f g:Dd}(s:PDT X c fc)(w:PDE X a f)(u:PDE X b g):PDE X (.IfExp c a b pos) (ifV fc f g):=(Du s w u).imp λy H Q=>un7 λP F e r h I k=>by
 let#[x,q,h]:=Yx.mp h;exact#[P,F,e,x,q,I,λp z i=>?_];cases x with
 |true=>rw[Yk qx]at h ⊢;exact#[P,p,e,r,h,I.evo i,λv o m l j=>k v o m (i.trans l) j]
 |false=>rw[Ym Yj]at h ⊢;exact#[P,p,e,r,h,I.evo i,λv o m l j=>k v o m (i.trans l) j]
def Nd(K:Kq)(r:List V->Hp->VK->Prop)(f:D->Option D):=
 ∀P F H g e x a d Q,f a=!d->DInv K P F H g e->RepS K H F x a->(∀v c b,Evo P F H c b->Rep K c v d->Q v b)->r [x] H Q
def d1(f:D->Option D)(fa:Dd):=λa=>(fa a).bind f
def KM{f}(j:Nd K r f):∀σ H Q,tD K (d1 f fa) σ H Q->tCB r (nj (tR K fa) sY) σ H Q:=λσ H Q=>un7 λP F a d h I k=>by
 delta d1 at h;cases b:fa a with
 |none=>rw[b]at h;cases h
 |some c=>
  rw[b,Ya]at h;exact#[P,F,a,c,b,I,λx q o e g=>j P q o a σ x c d Q h (I.evo e) g λv p m l i=>k v p m (e.trans l) i]
def bN:D->Option D
 |.lst ds=>some<|.int ds.length
 |.tup ds=>some<|.int ds.length
 |.str z=>if z.length<=16777216 then !.int z.length else ()
 |_=>()
def Mh(K:Kq):List V->Hp->VK->Prop:=λx H Q=>(∃p y,x=[.ref p]/\(SqL K H p y\/SqT K H p y)/\Q (.int y.length) H)\/∃z,x=[.str z]/\z.length<=sizeLine/\Q (.int z.length) H
end
mutual
def bR:D->PyData
 |.non=>.none
 |.bl b=>.bool b
 |.int i=>.int i
 |.str x=>.str x
 |.tup xs=>.tuple (cP xs)
 |.lst xs=>.list (cP xs)
 |.dT _=>.none
 |.dK _=>.none
 |.ins _ _=>.none
 |.fn _ _ _=>.none
 |.exn _=>.none
 |.any=>.none
def cP:List D->List PyData
 |[]=>[]
 |d::ds=>bR d::cP ds
end
def okN:Nat->D->Bool
 |_,.non=>true
 |_,.bl _=>true
 |_,.int _=>true
 |_,.str x=>PyData.strOk x
 |n+1,.tup xs=>xs.all<|okN n
 |n+1,.lst xs=>xs.all<|okN n
 |_,_=>false
def bX:∀{ds:List D},ds.all (okN n)->∀d∈ds,okN n d:=λh d a=>Yl.mp h d a
theorem cy:∀n d,okN n d->(bR d).canLay0/\(bR d).depth<=n+1:=by
 intro n;induction n with
 |zero=>
  intro d h;cases d with
  |non=>exact#[qx,by simp[bR,PyData.depth]]
  |bl b=>exact#[qx,by simp[bR,PyData.depth]]
  |int b=>exact#[qx,by simp[bR,PyData.depth]]
  |str b=>exact#[h,by simp[bR,PyData.depth]]
  |_=>cases h
 |succ n ih=>
  have all:∀c:List D,c.all (okN n)->PyData.canLayAll0 (cP c)/\PyData.depthAll (cP c)<=n+1:=by
   intro c;induction c with
   |nil=>intro _;exact#[qx,by simp[cP,PyData.depthAll]]
   |cons x r i=>
    intro h;rw[List.all_cons,Yn]at h;let#[a,e]:=ih x h.1;let#[f,g]:=i h.2;exact#[?_,?_]
    .show(PyData.canLay0 (bR x)&&PyData.canLayAll0 (cP r));rw[a,f];rfl
    .show PyData.depthAll (bR x::cP r)<=n+1;simp[PyData.depthAll];lia
  intro d h;cases d with
  |non=>exact#[qx,by simp[bR,PyData.depth]]
  |bl b=>exact#[qx,by simp[bR,PyData.depth]]
  |int b=>exact#[qx,by simp[bR,PyData.depth]]
  |str b=>exact#[h,by simp[bR,PyData.depth]]
  |tup xs=>
   let#[a,e]:=all xs h;exact#[a,by simp[bR,PyData.depth];lia]
  |lst xs=>
   let#[a,e]:=all xs h;exact#[a,by simp[bR,PyData.depth];lia]
  |_=>cases h
def Reps.readsOf(ih:∀{v}{d}{u},Rep X.K H v d->okN n d->RelV v u->∃as,Reads s.heap u (bR d) as)(h:Reps X.K H vs ds):∀us:List Value,(∀d∈ds,okN n d)->Vals vs us->∃as,ReadsAll s.heap us (cP ds) as:=
 Reps.ind (M:=λvs ds=>∀us:List Value,(∀d∈ds,okN n d)->Vals vs us->∃as,ReadsAll s.heap us (cP ds) as) (λus z r=>by cases r;exact#[_,.nil]) (λh z i us a r=>by
  cases r with
  |cons r t=>
   let#[g,c]:=ih h (a _ Ye) r;let#[f,b]:=i _ (λd e=>a d<|Yb _ e) t;exact#[_,.cons c b]) h
def Rep.reads1(I:Inv X pz σ H s)n(ih:∀m,n=m+1->∀{v}{d}{u},Rep X.K H v d->okN m d->RelV v u->∃as,Reads s.heap u (bR d) as)(h:Rep X.K H v d)(a:okN n d)(r:RelV v u):∃as,Reads s.heap u (bR d) as:=by
 cases h with
 |non=>cases(show u=Value.none from r);exact#[_,.none]
 |bl=>cases(show u=Value.bool _ from r);exact#[_,.bool _]
 |int=>let#[t,rfl]:=(show ∃t,u=Value.int _ t from r);exact#[_,.int _ _]
 |str=>let#[t,rfl]:=(show ∃t,u=Value.str _ t from r);exact#[_,.str _ _]
 |tup h q=>
  cases n with
  |zero=>cases a
  |succ m=>
   cases(show u=Value.ref _ from r);let#[i,b,e,_]:=I.tuple<|SqT.of h;let#[as,c]:=Reps.readsOf (ih m qx) q _ (bX a) b;let#[o,j,g,m,f]:=e;exact#[_,.tuple j g f<|by simpa using c]
 |lst h q=>
  cases n with
  |zero=>cases a
  |succ m=>
   cases(show u=Value.ref _ from r);let#[i,b,e,_]:=I.list h;let#[as,c]:=Reps.readsOf (ih m qx) q _ (bX a) b;let#[o,m,j,g,_,f]:=e;exact#[_,.list j g f<|by simpa using c]
 |_=>cases n<;>cases a
def Rep.reads(I:Inv X pz σ H s)n:∀{v}{d}{u},Rep X.K H v d->okN n d->RelV v u->∃as,Reads s.heap u (bR d) as:=by
 induction n with
 |zero=>exact λh a r=>Rep.reads1 I 0 (λm e=>by cases e) h a r
 |succ n ih=>exact λh a r=>Rep.reads1 I (n+1) (λm e=>by cases e;exact ih) h a r
def eqd(x y:D):=PyData.eqv (bR x)<|bR y
def eqD(x y:D):Option D:=if(okN 30 x&&okN 30 y) then !(.bl<|eqd x y)else ()
def neD(x y:D):Option D:=if(okN 30 x&&okN 30 y) then !(.bl<|(not<|eqd x y))else ()
def FZ(K:Kq)(g:Bool->Bool):R2:=λx y H Q=>∃b a,Rep K H x b/\Rep K H y a/\okN 30 b/\okN 30 a/\Q (.bl<|g<|eqd b a) H
section
variable{a:Expr}
theorem Dg(j:X.A.units+64<cLine):OpR X (compareOp .Eq) (FZ X.K λb=>b):=by
 intro C s B H x y v u Q I e c h;let#[z,w,p,m,a,o,q]:=h;let#[M,g]:=p.reads I 30 a e;let#[L,f]:=m.reads I 30 o c;let#[i,J]:=cy 30 z a;let#[l,E]:=cy 30 w o;exact SeqAt.compareEq_shaped g f ?_ ?_ j #[.bl _,H,I,qx,q]
 .delta SeqAt.shaped;rw[i,Vn,YS];lia
 .delta SeqAt.shaped;rw[l,Vn,YS];lia
theorem E6(j:X.A.units+64<cLine):OpR X (compareOp .NotEq) (FZ X.K λb=>(not<|b)):=by
 intro C s B H x y v u Q I e c h;let#[z,w,p,m,a,o,q]:=h;let#[M,g]:=p.reads I 30 a e;let#[L,f]:=m.reads I 30 o c;let#[i,J]:=cy 30 z a;let#[l,E]:=cy 30 w o;exact SeqAt.compareNe_shaped g f ?_ ?_ j #[.bl _,H,I,qx,q]
 .delta SeqAt.shaped;rw[i,Vn,YS];lia
 .delta SeqAt.shaped;rw[l,Vn,YS];lia
def DC:OpN2 K (FZ K λb=>b) eqD:=by
 intro P F H x y i g d Q a f e c k;delta eqD at a;split at a
 .rename_i h;rw[Yn]at h;cases a;exact#[i,g,e,c,h.1,h.2,k _ F H (Evo.refl f) .bl]
 .cases a
def Co:OpN2 K (FZ K λb=>(not<|b)) neD:=by
 intro P F H x y i g d Q a f e c k;delta neD at a;split at a
 .rename_i h;rw[Yn]at h;cases a;exact#[i,g,e,c,h.1,h.2,k _ F H (Evo.refl f) .bl]
 .cases a
def wP(h:X.A.units+64<cLine)(e:PDN X a fa)(c:PDN X b fb):PDE X (.Compare a [.Eq] [b] pos) (d2 eqD fa fb):=yx (Dg h) DC e c<|kD _
def MD(h:X.A.units+64<cLine)(e:PDN X a fa)(c:PDN X b fb):PDE X (.Compare a [.NotEq] [b] pos) (d2 neD fa fb):=yx (E6 h) Co e c<|kD _
def fY(h:X.A.units+64<cLine)(e:PDN X a fa)(c:PDN X b fb):PDT X (.Compare a [.Eq] [b] pos) (asB (d2 eqD fa fb)):=kO (Dg h) DC e c<|kD _
def zB(h:X.A.units+64<cLine)(e:PDN X a fa)(c:PDN X b fb):PDT X (.Compare a [.NotEq] [b] pos) (asB (d2 neD fa fb)):=kO (E6 h) Co e c<|kD _
def dJ:D->Option (List D)
 |.lst ds=>!ds
 |.tup ds=>!ds
 |_=>()
def inD(x y:D):Option D:=(dJ y).bind λa=>if(okN 30 x&&a.all (okN 29)) then !(.bl<|a.any λz=>eqd z x)else ()
def lT(x y:D):Option D:=(dJ y).bind λa=>if(okN 30 x&&a.all (okN 29)) then !(.bl<|(not<|a.any λz=>eqd z x))else ()
def HY(K:Kq)(g:Bool->Bool):R2:=λx y H Q=>∃a c b,Rep K H x a/\Rep K H y c/\dJ c=!b/\okN 30 a/\b.all (okN 29)/\Q (.bl<|g<|b.any λz=>eqd z a) H
theorem g7 x:∀ds:List D,(cP ds).any (λy=>PyData.eqv y (bR x))=ds.any λz=>eqd z x
 |[]=>rfl
 |d::ds=>by
  show((PyData.eqv (bR d)<|bR x)||(cP ds).any _)=_;rw[g7];rfl
theorem BS(N:X.A.units+64<cLine):OpR X (compareOp .In) (HY X.K λb=>b):=by
 intro M s L H x y v u Q I w f h;let#[p,E,a,C,m,e,i,o,q]:=h;let#[P,g]:=C.reads I 30 i w;let#[j,B]:=cy 30 p i;cases E with
 |lst xs=>
  cases e;let#[J,c]:=m.reads I 30 o f;let#[l,z]:=cy 30 (.lst a) o;exact SeqAt.in_list_reads c g l j (by lia) #[.bl _,H,I,(by show Value.bool _=Value.bool _;rw[g7]),q]
 |tup xs=>
  cases e;let#[J,c]:=m.reads I 30 o f;let#[l,z]:=cy 30 (.tup a) o;exact SeqAt.in_tuple_reads c g l j (by lia) #[.bl _,H,I,(by show Value.bool _=Value.bool _;rw[g7]),q]
 |_=>cases e
theorem AE(M:X.A.units+64<cLine):OpR X (compareOp .NotIn) (HY X.K λb=>(not<|b)):=by
 intro L s J H x y v u Q I Pd f h;let#[p,C,a,B,m,e,i,o,q]:=h;let#[O,g]:=B.reads I 30 i Pd;let#[j,z]:=cy 30 p i;have N:min (PyData.depthAll<|cP a) (bR p).depth<=31:=YF (Nat.min_le_right _ _) z;cases C with
 |lst xs=>
  cases e;let#[E,c]:=m.reads I 30 o f;let#[l,w]:=cy 30 (.lst a) o;exact SeqAt.notIn_list_reads c g l j (by lia) #[.bl _,H,I,(by show Value.bool _=Value.bool _;rw[g7]),q]
 |tup xs=>
  cases e;let#[E,c]:=m.reads I 30 o f;let#[l,w]:=cy 30 (.tup a) o;exact SeqAt.notIn_tuple_reads c g l j (by lia) #[.bl _,H,I,(by show Value.bool _=Value.bool _;rw[g7]),q]
 |_=>cases e
def DT:OpN2 K (HY K λb=>b) inD:=by
 intro P F H x y i c d Q a g f e k;let#[j,q,a]:=Yx.mp a;split at a
 .rename_i h;rw[Yn]at h;cases a;exact#[i,c,j,f,e,q,h.1,h.2,k _ F H (Evo.refl g) .bl]
 .cases a
def Bc:OpN2 K (HY K λb=>(not<|b)) lT:=by
 intro P F H x y i c d Q a g f e k;delta lT at a;cases q:dJ c with
 |none=>rw[q]at a;cases a
 |some j=>
  rw[q,Ya]at a;split at a
  .rename_i h;rw[Yn]at h;cases a;exact#[i,c,j,f,e,q,h.1,h.2,k _ F H (Evo.refl g) .bl]
  .cases a
def L4(h:X.A.units+64<cLine)(f:PDN X a fa)(e:PDN X b fb)(c:behindInMarks .In b=false:=by with_unfolding_all rfl):PDE X (.Compare a [.In] [b] pos) (d2 inD fa fb):=yx (BS h) DT f e c
def MF(h:X.A.units+64<cLine)(f:PDN X a fa)(e:PDN X b fb)(c:behindInMarks .In b=false:=by with_unfolding_all rfl):PDT X (.Compare a [.In] [b] pos) (asB (d2 inD fa fb)):=kO (BS h) DT f e c
def Eo(h:X.A.units+64<cLine)(f:PDN X a fa)(e:PDN X b fb)(c:behindInMarks .NotIn b=false:=by with_unfolding_all rfl):PDT X (.Compare a [.NotIn] [b] pos) (asB (d2 lT fa fb)):=kO (AE h) Bc f e c
end
section
variable{a:Expr}
def dw(f:Dd):DF->Option (List D):=λa=>match f a with
 |some (.lst ds)=>!ds
 |_=>()
def zP(f:Dd):DF->Option (List D):=λa=>match f a with
 |some (.tup ds)=>!ds
 |_=>()
theorem EX{f}(h:dw f ρ=!ds):f ρ=!.lst ds:=by
 delta dw at h;grind
def CZ{f}(h:zP f ρ=!ds):f ρ=!.tup ds:=by
 delta zP at h;split at h
 .rename_i q;cases h;exact q
 .cases h
def ms{a}(h:SqL K F a vs)(r:Reps K F vs ds):uD K P (Itl K a) F ds:=by intro p H e c i;let b:=c.sub.seq<|e.seq h;exact#[λd m=>?_,λl=>#[vs,b,by rwa[r.length]]];let#[v,f,o]:=r.get m;exact#[#[vs,v,b,f],λx q g=>?_];let#[rfl,j]:=g;have:=j vs b;rw[f]at this;cases this;exact#[p,Evo.refl c,o.same e]
def E_{a}(h:SqT K F a vs)(r:Reps K F vs ds):uD K P (Itt K a) F ds:=by intro p H e c i;let b:=c.sub.seqT<|e.seqT h;exact#[λd m=>?_,λl=>#[vs,b,by rwa[r.length]]];let#[v,f,o]:=r.get m;exact#[#[vs,v,b,f],λx q g=>?_];let#[rfl,j]:=g;have:=j vs b;rw[f]at this;cases this;exact#[p,Evo.refl c,o.same e]
def ig{f:Dd}(h:PDE X l f):PDI X tg l (dw f):=PI.imp (tm h) λj H R=>un7 λP F a m c I k=>by
 exact#[P,F,a,_,EX c,I,λv i g e b=>?_];cases b with
 |lst h1 h2=>exact#[_,qx,#[_,e.hp.sub.seq h1],k _ i g e<|ms h1 h2]
def HZ{f:Dd}(h:PDE X l f):PDI X tg l (zP f):=PI.imp (JU h) λj H R=>un7 λP F a m c I k=>by
 exact#[P,F,a,_,CZ c,I,λv i g e b=>?_];cases b with
 |tup h1 h2=>exact#[_,qx,#[_,SqT.of<|e.hp.sub _ _ h1],k _ i g e<|E_ (SqT.of h1) h2]
def bY(i:Nat):DF->Option (List D):=λa=>match a[i]? with
 |some (some<|.bor<|.lst ds)=>!ds
 |some (some<|.v<|.lst ds)=>!ds
 |_=>()
def BU{a}(h:P a=!.lst vs)(r:Reps K F vs ds):uD K P (Itl K a) F ds:=by intro p H e c i;have b:SqL K H a vs:=SqL.of<|c.pro _ _ h;exact#[λd m=>?_,λl=>#[vs,b,by rwa[r.length]]];let#[v,f,o]:=r.get m;exact#[#[vs,v,b,f],λx q g=>?_];let#[rfl,j]:=g;have:=j vs b;rw[f]at this;cases this;exact#[p,Evo.refl c,o.same e]
def Hv i(h:PE X l (dM i)):PDI X tg l (bY i):=PI.imp (tm h) λm H R=>un7 λP F o p b I k=>by
 delta bY at b;split at b
 .rename_i g q;cases b;let#[v,f,a,rfl,_,u,c,e]:=I.at q;cases u with
  |lst vs=>exact#[_,f,a,qx,#[vs,SqL.of<|I.pro _ _ c],k _ F H (Evo.refl I.toDHp)<|BU c e]
  |_=>exact e.elim
 .rename_i g q;cases b;let#[v,f,j]:=I.at q;cases j with
  |lst c e=>exact#[_,f,_,qx,#[_,I.sub.seq c],k _ F H (Evo.refl I.toDHp)<|ms c e]
 .cases b
def d8(lo:Int)(n:Nat):List D:=(List.range n).map λi:Nat=>.int<|lo+i
theorem ye{lo}(h:(d8 lo n)[i]?=!d):i<n/\d=.int (lo+i):=by
 delta d8 at h;rw[Yw]at h;by_cases a:i<n
 .rw[Xa a,ZF]at h;cases h;exact#[a,qx]
 .rw[Zm<|by rw[Zw];lia]at h;cases h
def wV lo n:(d8 lo n).length=n:=by delta d8;rw[Yc,Zw]
def pG lo n:uD K P (Itr lo n) F (d8 lo n):=by intro g j e b i;exact#[λd f=>?_,λh=>by rwa[wV]at h];let#[c,rfl]:=ye f;exact#[c,λx H a=>?_];let#[rfl,rfl]:=a;exact#[g,Evo.refl b,.int]
def fP(f:Dd):DF->Option (List D):=λa=>match f a with
 |some (.int j)=>if -(2^62)<=j/\j<2^62 then !d8 0 j.toNat else ()
 |_=>()
def Lf(f g:Dd):DF->Option (List D):=λa=>match f a,g a with
 |some<|.int i,!.int j=>if -(2^62)<=i/\i<2^62/\-(2^62)<=j/\j<2^62 then !d8 i (j-i).toNat else ()
 |_,_=>()
open A in
def bu{f:Dd}(i:Gl X "range")(g:X.mg "range"=())(l:PDR X a f)(hs:starEach [a] X.env=[(false,eval a X.env)]:=by rfl):PDI X tg (.Call (.Name "range" p) [a] [] pos) (fP f):=
 PI.imp (AJ i g (aI l bf hs) hs) λu H R=>un7 λP F c w h I k=>by
  delta fP at h;split at h
  .rename_i j q;split at h
   .rename_i b;cases h;exact#[P,F,c,_,q,I,λv s o m e=>#[j,by rw[da e],b.1,b.2,k _ s o m<|pG 0 _]]
   .cases h
  .cases h
open A in
def xC{f g:Dd}(x:Gl X "range")(u:X.mg "range"=())(z:PDR X a f)(y:PDR X b g)(hs:starEach [a,b] X.env=[(false,eval a X.env),(false,eval b X.env)]:=by rfl)(h:starEach [b] X.env=[(false,eval b X.env)]:=by rfl):PDI X tg (.Call (.Name "range" p) [a,b] [] pos) (Lf f g):=
 PI.imp (Ay x u (aI z (aI y bf h)<|by rw[hs,h]) hs h) λJ H R=>un7 λP F e L c I k=>by
  delta Lf at c;split at c
  .rename_i i j s q;split at c
   .rename_i w;cases c;exact#[P,F,e,_,s,I,λv E M l o=>#[P,E,e,_,q,I.evo l,λK C B A m=>#[i,j,by rw[da o,da m],w,k _ C B (l.trans A)<|pG i _]]]
   .cases c
  .cases c
def Ak:List Nat->List D->DF->Option DF
 |[],[],ρ=>!ρ
 |i::is,d::ds,ρ=>Ak is ds<|ρ.set i<|some<|.v d
 |_,_,_=>()
def jU(is:List Nat)(d:D)(ρ:DF):=match d with
 |.tup ds=>Ak is ds ρ
 |_=>()
def yc:List Nat->TGs
 |[]=>LH
 |i::is=>IB (ng i)<|yc is
theorem rW{Q}:∀is vs ds ρ ρ' σ,Reps K F vs ds->Ak is ds ρ=!ρ'->DInv K P F H ρ σ->
  (∀a,DInv K P F H ρ' a->a.length=σ.length->(∀j,j∉is->a[j]?=σ[j]?)->Q a H)->yc is vs σ H Q
 |[],vs,ds,ρ,ρ',σ,r,hs,I,k=>by
  cases r with
  |nil=>cases hs;exact#[qx,k σ I qx λy y=>rfl]
  |cons _ _=>cases hs
 |i::is,vs,ds,ρ,ρ',σ,r,hs,I,k=>by
  cases r with
  |nil=>cases hs
  |cons h q=>
   exact#[_,_,qx,rW is _ _ _ ρ' _ q hs (I.setV i h) λa f c e=>k a f (by rw[c,Zp]) λj b=>?_];rw[e j λz=>b<|Yb _ z,YY λz=>b<|by rw[z];exact Ye]
theorem sJ:∀is ds ρ ρ',Ak is ds ρ=!ρ'->ds.length=is.length
 |[],[],_,_,_=>rfl
 |[],_::_,_,_,h=>by cases h
 |_::_,[],_,_,h=>by cases h
 |i::is,d::ds,ρ,ρ',h=>by rw[Yq,Yq,sJ is ds _ _ h]
def jP{k}(p:X.calm)(h:PGs X es (yc is))(l:(assignEach es X.env).length=is.length:=by rfl)(c:(assignEach es X.env).findIdx? (·.1)=():=by rfl):PDG X (.Tuple es k pos) is (jU is):=
 PG.imp (Kk p h l c) λv i H Q f=>by
  let#[P,F,g,d,a,e,I,r,j]:=f;cases d with
  |tup ds=>
   cases r with
   |tup h1 h2=>
    exact#[_,_,qx,SqT.of<|I.sub _ _ h1,by rw[h2.length];exact sJ is ds g a e,rW is _ ds g a i h2 e I λb q m o=>j b F H (Evo.refl I.toDHp) q m o]
  |_=>cases e
def Nj(is:List Nat)(f:Dd):DF->Option RES:=λa=>(f a).bind λd=>(jU is d a).map .nx
end
def DInv.mut(I:DInv K P F H ρ σ){o}{u}(h:ρ[i]?=!!.own o t)(L:o.flat)(p:o'.flat)(hs:σ[i]?=!!.ref a)(E:ORep1 K F o' u):DInv K P F (upd H a u) (ρ.set i<|some<|.own o' t) σ:=by
 let#[O,A]:=I.rep;let#[v,B,b,rfl,N,C]:=A i _ h;rw[hs]at B;cases B;let#[#[y,x,f],T,U,_]:=(ORep.flat L).mp N;exact#[#[λc w e=>by rw[az<|aX e y];exact I.sub c w e,λc w e=>by rw[az<|aX e x];exact I.pro c w e,I.dis],by rw[Zp];exact I.len,O,λj z J=>?_];rcases gq J with⟨rfl,e,X⟩|⟨m,l⟩
 .cases e;exact#[_,hs,a,qx,(ORep.flat p).mpr #[#[y,x,f],u,aC,E],C]
 .let#[w,R,s]:=A j z l;exact#[w,R,?_];cases z with
  |v d'=>exact s
  |own od t'=>(let#[c,rfl,Q,g]:=s;exact#[c,qx,Q.mono (Same.refl _) λb S q M=>#[by rwa[az λz=>by subst z;rw[q.2.2]at f;exact m (YG f).symm],q],g])
  |bor od=>exact s
def iT(i:Nat)(f:Dd):DF->Option RES:=λa=>match a[i]? with
 |some (some<|.own (.lst ds) t)=>(f a).bind λd=>if ds.length<16777216 then !(.nx<|a.set i<|some<|.own (.lst<|ds++[d]) t)else ()
 |_=>()
def mD(I:DInv K P F H ρ σ)(q:ρ[i]?=!!.own (.lst ds) t):∃a vs,σ[i]?=!!.ref a/\F a=()/\P a=()/\H a=!.lst vs/\Reps K F vs ds:=by
 let#[v,h,a,rfl,#[#[f,e,_],u,c,b],_]:=I.at q;cases u with
 |lst vs=>exact#[a,vs,h,f,e,c,b]
 |_=>exact b.elim
def fN i{f:Dd}(h:PE X o (dM i))(L:PDE X e f)(g:attributeBase o "append" X.env (eval o X.env)=eval o X.env:=by rfl)
  (j:((backTo cpos<|starEach [e] X.env).all (λx=>(not<|x.1))&&(backToKw cpos<|keywordEach [] X.env).all (λx=>x.1.isSome)
   && decide (([e]).length+([]:List Keyword).length+(if([]:List Keyword).isEmpty then 0 else 1)<30)):=by rfl)
  (c:(apos.endLine == cpos.line):=by rfl) (hs:starEach [e] X.env=[(false,eval e X.env)]:=by rfl) (p:swapsWith (.Call (.Attribute o "append" apos) [e] [] cpos) () pos.line X.env=pure false:=by rfl) :
  PD1 X (.Expr (.Call (.Attribute o "append" apos) [e] [] cpos) pos) (iT i f):=
 PS.imp (iP (qq ZI Xw Vi jJ h (aI L bf hs) g j c hs qx) p) λE B H=>un7 λP F s r b I k=>by
  delta iT at b;split at b
  .rename_i S t q;cases m:f s with
   |none=>rw[m]at b;cases b
   |some d=>
    rw[m,Ya]at b;split at b
    .rename_i K;cases b;let#[a,w,A,M,R,z,y]:=mD I q;exact#[_,A,.inl #[rfl,w,SqL.of z],P,F,s,d,m,I,λv O T l C=>?_];let#[J,Q]:=l.keep a _ z M;let N:=I.evo l;exact#[a,w,v,qx,qx,J,by rwa[YV,y.length],k B O _ l.ext ?_];exact N.mut q qx qx A<|(y.same l.ext).append<|.one C
    .cases b
  .cases b
def qo(i:Nat)(f g:Dd):DF->Option RES:=λa=>match a[i]? with
 |some (some<|.own (.lst ds) t)=>(g a).bind λd=>(f a).bind λ
  |.int k=>(ixN ds.length k).map λj=>.nx<|a.set i<|some<|.own (.lst<|ds.set j d) t
  |_=>()
 |_=>()
open A in
def C7 i{f g:Dd}(h:PE X o (dM i))(O:PDE X ix f)(N:PDE X e g)
  (Q:∀v,assign (.Subscript o ix apos) X.env v=(do
   let m <-holding [v]<|eval o X.env
   let y <-holding [v,m]<|eval ix X.env
   standAt apos
   holding [v,m,y]<|setItem m y v
   release [v,m,y] []):=by intro _;rfl) (hs:swapsWithSole [.Subscript o ix apos] e pos.line X.env=pure false:=by rfl) (hw:swappedStores [.Subscript o ix apos] e X.env=pure ():=by rfl)
  (h1:(assignEach [.Subscript o ix apos] X.env).map (·.2)=[assign (.Subscript o ix apos) X.env]:=by rfl) :
  PD1 X (.Assign [.Subscript o ix apos] e pos) (qo i f g):=
 PS.imp (Lk N (LB h O Dn Q) hs hw h1) λE C H=>un7 λP F l r b I k=>by
  delta qo at b;split at b
  .rename_i T t q;cases x:g l with
   |none=>rw[x]at b;cases b
   |some d=>
    rw[x,Ya]at b;cases s:f l with
    |none=>rw[s]at b;cases b
    |some U=>
     rw[s,Ya]at b;cases U with
     |int kk=>
      dsimp only at b;cases p:ixN T.length kk with
      |none=>rw[p]at b;cases b
      |some j=>
       rw[p]at b;cases b;let#[a,J,h1,S,h3,R,z]:=mD I q;exact#[P,F,l,d,x,I,λv Z H1 B L=>#[_,h1,P,Z,l,_,s,I.evo B,λw Y H2 A K=>?_]];cases K;let c:=B.trans A;let#[M,k2]:=c.keep a _ R S;exact#[a,J,kk,j,qx,qx,M,by rwa[z.length],k C Y _ c.ext ?_];exact(I.evo c).mut q qx qx h1<|(z.same c.ext).set (L.same A.ext) j
     |_=>cases b
  .cases b
mutual
noncomputable def ltD:D->D->Bool
 |.int i,.int j=>decide (i<j)
 |.bl a,.bl b=>(not<|a)&&b
 |.str x,.str y=>decide (x.cps.toList<y.cps.toList)
 |.tup xs,.tup ys=>dN xs ys
 |_,_=>false
noncomputable def dN:List D->List D->Bool
 |[],[]=>false
 |[],_::_=>true
 |_::_,[]=>false
 |x::xs,y::ys=>if eqd x y=true then dN xs ys else ltD x y
end
mutual
def aA:D->D->Bool
 |.int _,.int _=>true
 |.bl _,.bl _=>true
 |.str _,.str _=>true
 |.tup xs,.tup ys=>ba xs ys
 |_,_=>false
def ba:List D->List D->Bool
 |x::xs,y::ys=>aA x y&&ba xs ys
 |_,_=>true
end
def MJ i j:eqd (.int i) (.int j)=decide (i=j):=by show(i == j)=_;rfl
def opB:Bool->CmpOp
 |true=>.LtE
 |false=>.Lt
def zd{y}(h:x.cps.toList=y.cps.toList):x=y:=by
 cases x
 simp_all
def Gv x y:((not<|decide (y.cps.toList<x.cps.toList)))=(decide (x.cps.toList<y.cps.toList)||eqd (.str x) (.str y)):=by
 have e:eqd (.str x) (.str y)=decide (x=y):=by rw[Ub];simp[eqd,bR,PyData.eqv]
 rw[e];by_cases h:x.cps.toList<y.cps.toList
 .have:=List.lt_asymm h;simp[h,this]
 .by_cases a:y.cps.toList<x.cps.toList
  .have:x≠y:=λz=>by subst z;exact h a
   simp[a,h,this]
  .have:x=y:=zd<|List.le_antisymm a h;subst this;simp[h]
def rm(b:Bool)(A:Around)(s:Shared)(y x:Value)(r:Bool):=
 ∀p w (E:Kv) (Q:Kv),Q (.bool r) s->wpAny (model p w) A (richCompare (opB b) y x) Q E s
abbrev NO:=rm false
def leO(b:Bool)(d e:D):=ltD d e||(b&&eqd d e)
def h8(b:Bool)(xs ys:List D):=leO b (.tup xs)<|.tup ys
def nZ{b}:h8 b [] []=b:=by cases b<;>rfl
def zC{b}{c}{u}:h8 b [] (c::u):=by delta h8 leO;rfl
def zk{b}{c}{u}:h8 b (c::u) []=false:=by delta h8 leO;cases b<;>rfl
def vh x y xs ys:eqd (.tup (x::xs)) (.tup (y::ys))=(eqd x y&&eqd (.tup xs) (.tup ys)):=rfl
def Ed{b}{x}{xs ys}(h:eqd x y):h8 b (x::xs) (y::ys)=h8 b xs ys:=by delta h8 leO;rw[ltD,ltD,dN,Yk h,vh,h,Vn]
def EQ{b}{x}{xs ys}(h:eqd x y=false):h8 b (x::xs) (y::ys)=ltD x y:=by delta h8 leO;rw[ltD,dN,Ym<|by rw[h];exact Yj,vh,h,XX,XY,XO]
inductive LexOk (b:Bool) (A:Around) (s:Shared):List Value->List Value->List D->List D->Prop
 |nl {ws:List Value}{es:List D}:ws.length=es.length->LexOk b A s [] ws [] es
 |nr {vs:List Value}{ds:List D}:vs.length=ds.length->LexOk b A s vs [] ds []
 |cons {v w:Value}{d e:D}{vs ws:List Value}{ds es:List D}:SeqAt.EqAt A s v w (eqd d e)->(eqd d e=false->rm b A s v w (ltD d e))->LexOk b A s vs ws ds es->LexOk b A s (v::vs) (w::ws) (d::ds) (e::es)
def LexOk.len{b}{vs w}{es}(h:LexOk b A s vs w ds es):vs.length=ds.length/\w.length=es.length:=by
 induction h with
 |nl h=>exact#[qx,h]
 |nr h=>exact#[h,qx]
 |cons _ _ _ ih=>exact#[YW Nat.succ ih.1,YW Nat.succ ih.2]
section
open PySem.SeqAt
open PySem.AutoSeq1 (wpAny_loadPart')
open PySem.MeetsSeq PySem.MeetsSeq2 PySem.MeetsSeq3
def szB(b:Bool)(m n:Nat):=bif b then decide (m<=n)else decide<|m<n
def tcB:Bool->Builtin
 |true=>Builtin.«tuple.__le__»
 |false=>Builtin.«tuple.__lt__»
theorem lr(c:Bool)(l b:Addr)(items dm:Array Value)(n n2:Nat)(dd dd2:Option Addr)(sl Z:Array (Option Value))(ds es:List D):Meets (tcB c #[[.ref l,.ref b],[]])
   (λA R s=>LexOk c A.in1 s items.toList dm.toList ds es/\s.heap.get? l=some {cls:=.type "tuple",dict:=dd,data:=.seq items n,slots:=sl}/\s.heap.get? b=some {cls:=.type "tuple",dict:=dd2,data:=.seq dm n2,slots:=Z} /\
    R (.ok (.ret (.bool (h8 c ds es)))) s):=by
 cases c with
 |true=>
  exact .of_wp λp w A R s h=>by
   let#[z,g,d,m,o]:=s;let#[i,hl,hb,h]:=h;let f2:=AutoSeq1.sub_tuple_tuple;have z1:items.size=ds.length:=by rw[<-i.len.1];simp
   have z2:dm.size=es.length:=by rw[<-i.len.2];simp
   wp_walk using Uc hl,Uc hb,Vc _ (λbU b O=>b.1=()/\O=#[z,g,d,m,o]/\∃(N M:List Value) (f e:List D),bU=N.zip M /\
    LexOk true A.in1 #[z,g,d,m,o] N M f e/\f.length+dm.size=e.length+items.size/\R (.ok (.ret (.bool (h8 true f e)))) #[z,g,d,m,o]) _
   case turn=>
    rintro⟨y,x⟩ bU b O ⟨B,rfl,N,M,f,e,j,S,a,H⟩;cases S with
    |nl _=>rw[Ur]at j;cases j
    |nr _=>rw[Ui]at j;cases j
    |@cons v w' J I Y X L K he U P=>
     rw[XJ]at j;injection j with hyx hrest;injection hyx with hy hxx;subst hy hxx;simp only[Yq]at a;exact Yd (he p w _ _ ?_);cases q:eqd J I with
     |true=>
      have C:R (.ok (.ret (.bool (h8 true L K)))) #[z,g,d,m,o]:=by rw[Ed q]at H;exact H
      wp_walk
      exact#[qx,qx,_,_,_,_,hrest,P,by lia,C]
     |false=>
      have C:R (.ok (.ret (.bool (ltD J I)))) #[z,g,d,m,o]:=by rw[EQ q]at H;exact H
      have T:∀(E Q:Kv),Q (.bool (ltD J I)) #[z,g,d,m,o]->wpAny (model p w) A.in1 (richCompare .LtE y x) Q E #[z,g,d,m,o]:=U q p w
      wp_walk using T
      exact#[_,qx,by simpa using C]
   case fin=>
    rintro⟨b1,b2⟩ O ⟨B,rfl,N,M,f,e,j,S,a,H⟩;simp only at B;subst B;have hv:h8 true f e=szB true items.size dm.size:=by
     delta szB;cases S with
     |nl hw=>
      cases e with
      |nil=>rw[nZ];simp only[Ze]at a;simp;lia
      |cons c u=>rw[zC];simp only[Ze,Yq]at a;simp;lia
     |nr hw=>
      cases f with
      |nil=>rw[nZ];simp only[Ze]at a;simp;lia
      |cons c u=>rw[zk];simp only[Ze,Yq]at a;simp;lia
     |cons _ _ _=>
      rw[XJ]at j;cases j
    rw[hv]at H
    wp_walk
    exact#[_,qx,by simpa[Builtin.Tuple.tupleCompareSizes,szB]using H]
   case h=>
    exact#[qx,qx,items.toList,dm.toList,ds,es,qx,i,by lia,h]
 |false=>
  exact .of_wp λp w A R s h=>by
   let#[z,g,d,m,o]:=s;let#[i,hl,hb,h]:=h;let f2:=AutoSeq1.sub_tuple_tuple;have z1:items.size=ds.length:=by rw[<-i.len.1];simp
   have z2:dm.size=es.length:=by rw[<-i.len.2];simp
   wp_walk using Uc hl,Uc hb,Vc _ (λbU b O=>b.1=()/\O=#[z,g,d,m,o]/\∃(N M:List Value) (f e:List D),bU=N.zip M /\
    LexOk false A.in1 #[z,g,d,m,o] N M f e/\f.length+dm.size=e.length+items.size/\R (.ok (.ret (.bool (h8 false f e)))) #[z,g,d,m,o]) _
   case turn=>
    rintro⟨y,x⟩ bU b O ⟨B,rfl,N,M,f,e,j,S,a,H⟩;cases S with
    |nl _=>rw[Ur]at j;cases j
    |nr _=>rw[Ui]at j;cases j
    |@cons v w' J I Y X L K he U P=>
     rw[XJ]at j;injection j with hyx hrest;injection hyx with hy hxx;subst hy hxx;simp only[Yq]at a;exact Yd (he p w _ _ ?_);cases q:eqd J I with
     |true=>
      have C:R (.ok (.ret (.bool (h8 false L K)))) #[z,g,d,m,o]:=by rw[Ed q]at H;exact H
      wp_walk
      exact#[qx,qx,_,_,_,_,hrest,P,by lia,C]
     |false=>
      have C:R (.ok (.ret (.bool (ltD J I)))) #[z,g,d,m,o]:=by rw[EQ q]at H;exact H
      have T:∀(E Q:Kv),Q (.bool (ltD J I)) #[z,g,d,m,o]->wpAny (model p w) A.in1 (richCompare .Lt y x) Q E #[z,g,d,m,o]:=U q p w
      wp_walk using T
      exact#[_,qx,by simpa using C]
   case fin=>
    rintro⟨b1,b2⟩ O ⟨B,rfl,N,M,f,e,j,S,a,H⟩;simp only at B;subst B;have hv:h8 false f e=szB false items.size dm.size:=by
     delta szB;cases S with
     |nl hw=>
      cases e with
      |nil=>rw[nZ];simp only[Ze]at a;simp;lia
      |cons c u=>rw[zC];simp only[Ze,Yq]at a;simp;lia
     |nr hw=>
      cases f with
      |nil=>rw[nZ];simp only[Ze]at a;simp;lia
      |cons c u=>rw[zk];simp only[Ze,Yq]at a;simp;lia
     |cons _ _ _=>
      rw[XJ]at j;cases j
    rw[hv]at H
    wp_walk
    exact#[_,qx,by simpa[Builtin.Tuple.tupleCompareSizes,szB]using H]
   case h=>
    exact#[qx,qx,items.toList,dm.toList,ds,es,qx,i,by lia,h]
end
def AX{c}{l b}{es}(I:IsTup s.heap l items)(J:IsTup s.heap b dm)(hx:LexOk c A.in1 s items.toList dm.toList ds es)(q:A.units<cLine):rm c A s (.ref l) (.ref b) (h8 c ds es):=by
 intro p w E Q h;let#[#[K,B,C,o],j,y,n,u]:=id I;let#[#[H,i,m,e],a,g,n2,f]:=id J;simp at y u g f;subst y u g f;have z:Value.bool (h8 c ds es)≠Value.notImplemented/\Q _ s:=#[(λx=>nomatch x),h]
 cases c with
 |false=>exact richCompare_meets_room #[_,j,qx] #[_,a,qx] F.slot_tuple_lt F.entry_tuple_lt (F.args_tuple_lt_2 _ _) (lr false l b items dm n n2 B i o e ds es) #[hx,j,a,z] q
 |true=>exact richCompare_meets_room #[_,j,qx] #[_,a,qx] F.slot_tuple_le F.entry_tuple_le (F.args_tuple_le_2 _ _) (lr true l b items dm n n2 B i o e ds es) #[hx,j,a,z] q
def ju:D->Bool
 |.tup _=>true
 |_=>false
def Rep.ltS{c:Bool}(A:Around){x y:V}{d e:D}{w:Value}(h1:Rep X.K H x d)(h2:Rep X.K H y e)(k:aA d e=true)(hd:ju d=false)(g:RelV x u)(f:RelV y w):rm c A s u w (leO c d e):=by
 cases d with
 |int i=>
  cases e with
  |int j=>
   cases h1;cases h2;let#[t,rfl]:=(show ∃t,u=Value.int _ t from g)
   let#[b,rfl]:=(show ∃t,w=Value.int _ t from f)
   intro p a E Q h;cases c with
   |false=>exact HT.rcLt_int A s _ _ _ _ p a E Q (by delta leO at h;rw[ltD,XX,XO]at h;exact h)
   |true=>
    exact(richCompare_gives (op:=.LtE) (typeIs_int s _ t) (typeIs_int s _ b) PySem.F.slot_int_le PySem.F.entry_int_le (PySem.F.args_int_le_2 _ _) (gives_int_le _ _ t b) (λx=>nomatch x) ?_:wpAny (model p a) A (richCompare .LtE (.int i t) (.int j b)) Q E s);rw[show decide (i<=j)=leO true (.int i) (.int j)from ?_]
    .exact h
    .delta leO;rw[ltD,MJ];rcases Us i j with z|z|z
     .simp[z,Int.le_of_lt z]
     .simp[z]
     .have:¬i<=j:=Int.not_le.mpr z;have:¬i<j:=λq=>this (Int.le_of_lt q)
      have:¬i=j:=λq=>by subst q;exact Int.lt_irrefl _ z
      simp[*]
  |_=>exact absurd k Yj
 |bl b1=>
  cases e with
  |bl b2=>
   cases h1;cases h2;cases(show u=Value.bool _ from g);cases(show w=Value.bool _ from f);intro p a E Q h;cases c with
   |false=>exact(PyProof.Rows.lt_bool (by cases b1<;>cases b2<;>exact h):wpAny (model p a) A (compareOp .Lt (.bool b1) (.bool b2)) Q E s)
   |true=>exact(PyProof.Rows.le_bool (by cases b1<;>cases b2<;>exact h):wpAny (model p a) A (compareOp .LtE (.bool b1) (.bool b2)) Q E s)
  |_=>exact absurd k Yj
 |str x1=>
  cases e with
  |str x2=>
   cases h1;cases h2;let#[t,rfl]:=(show ∃t,u=Value.str _ t from g)
   let#[b,rfl]:=(show ∃t,w=Value.str _ t from f)
   intro p a E Q h;cases c with
   |false=>exact(PyProof.Rows.lt_str (by delta leO at h;rw[ltD,XX,XO]at h;exact h):wpAny (model p a) A (compareOp .Lt (.str x1 t) (.str x2 b)) Q E s)
   |true=>
    exact(PySem.P.le_str ?_:wpAny (model p a) A (compareOp .LtE (.str x1 t) (.str x2 b)) Q E s);rw[show((not<|decide (x2.cps.toList<x1.cps.toList)))=leO true (.str x1) (.str x2)from(Gv x1 x2).trans (by delta leO;rw[ltD,Vn])];exact h
  |_=>exact absurd k Yj
 |tup xs=>cases hd
 |_=>exact absurd k Yj
theorem Reps.lex{c}(I:Inv X pz σ H s)n A(U:A.units+n+2<cLine)
  (ih:∀{x y}{d e}{u w},Rep X.K H x d->Rep X.K H y e->okN n d->okN n e->aA d e->RelV x u->RelV y w->rm c A s u w (leO c d e)) :
  ∀{xs ys}{ds es}{us a},Reps X.K H xs ds->Reps X.K H ys es->(∀d∈ds,okN n d)->(∀d∈es,okN n d)->ba ds es->Vals xs us->Vals ys a->LexOk c A s us a ds es:=by
 intro xs ys ds;induction ds generalizing xs ys with
 |nil=>
  intro es us a i g _ _ _ f b;cases i;cases f;exact .nl<|by rw[<-b.length,g.length]
 |cons d ds j=>
  intro es us a i g C B k f b;cases es with
  |nil=>
   cases g;cases b;exact .nr<|by rw[<-f.length,i.length]
  |cons e es=>
   cases i with
   |cons h q=>
    cases g with
    |cons E L=>
     cases f with
     |cons r t=>
      cases b with
      |cons p J=>
       rw[ba,Yn]at k;let o:=C _ Ye;let m:=B _ Ye;let#[S,N]:=h.reads I n o r;let#[R,M]:=E.reads I n m p;let#[Q,O]:=cy n _ o;let#[P,T]:=cy n _ m;exact .cons (Vw _ _ A s _ _ _ _ N M Q P ?_) (λz=>by have:=ih h E o m k.1 r p;delta leO at this;rwa[z,XY,XO]at this)<|j q L (λd l=>C d<|Yb _ l) (λd l=>B d<|Yb _ l) k.2 t J;lia
theorem Rep.le{c}(I:Inv X pz σ H s):∀n A,A.units+n+2<cLine->∀{x y}{d e}{u w},Rep X.K H x d->Rep X.K H y e->okN n d->okN n e->aA d e->RelV x u->RelV y w->rm c A s u w (leO c d e):=by
 intro n;induction n with
 |zero=>
  intro A E x y d e u w a h o q k g f;exact a.ltS A h k ?_ g f;cases d<;>first|rfl|(simp[okN]at o)
 |succ n l=>
  intro A E x y d e u w a h o q k g f;cases C:ju d with
  |false=>exact a.ltS A h k C g f
  |true=>
   cases d with
   |tup ds=>
    cases e with
    |tup es=>
     cases a with
     |tup a q1=>
      cases h with
      |tup h q2=>
       cases(show u=Value.ref _ from g);cases(show w=Value.ref _ from f);let#[B,j,p,_]:=I.tuple<|SqT.of a;let#[z,i,m,_]:=I.tuple<|SqT.of h;have b:A.in1.units+n+2<cLine:=by show A.units+1+n+2<cLine;lia
       exact AX p m (Reps.lex I n A.in1 b (l A.in1 b) q1 q2 (bX o) (bX q) (by rwa[aA]at k) j i)<|by lia
    |_=>exact absurd k Yj
   |_=>cases C
def Rep.lt(I:Inv X pz σ H s)n A(h:A.units+n+2<cLine){x y}{d e}{w}(h1:Rep X.K H x d)(h2:Rep X.K H y e)(f:okN n d)(o:okN n e)(k:aA d e)(b:RelV x u)(a:RelV y w):NO A s u w (ltD d e):=by have:=Rep.le (c:=false) I n A h h1 h2 f o k b a;delta leO at this;rwa[XX,XO]at this
def ltd(x y:D):Option D:=if(okN 30 x&&okN 30 y&&aA x y) then !(.bl<|ltD x y)else ()
def MZ(K:Kq):R2:=λx y H Q=>∃b a,Rep K H x b/\Rep K H y a/\okN 30 b/\okN 30 a/\aA b a/\Q (.bl<|ltD b a) H
section
variable{a:Expr}
theorem K4(j:X.A.units+64<cLine):OpR X (compareOp .Lt) (MZ X.K):=by intro p s i H x y v u Q I b a h;let#[m,l,g,f,e,o,c,q]:=h;exact Rep.lt I 30 X.A (by lia) g f e o c b a X.prog X.w X.xe _ #[.bl _,H,I,qx,q]
def Jz:OpN2 K (MZ K) ltd:=by
 intro P F H x y g f d Q a e c b k;delta ltd at a;split at a
 .rename_i h;rw[Yn,Yn]at h;cases a;exact#[g,f,c,b,h.1.1,h.1.2,h.2,k _ F H (Evo.refl e) .bl]
 .cases a
def f7(h:X.A.units+64<cLine)(e:PDN X a fa)(c:PDN X b fb):PDT X (.Compare a [.Lt] [b] pos) (asB (d2 ltd fa fb)):=kO (K4 h) Jz e c<|kD _
def led(x y:D):Option D:=if(okN 30 x&&okN 30 y&&aA x y) then !(.bl<|leO true x y)else ()
end
open PySem.W
def kok(n:Nat)(lt:Nat->Nat->Bool):KasT α->(α->Prop)->Prop
 |.ret a,Q=>Q a
 |.ask i j k,Q=>i<n/\j<n/\kok n lt (k<|lt i j) Q
def jz{α b}{f}{Q:b->Prop}(t:KasT α):kok n lt t (λa=>kok n lt (f a) Q)->kok n lt (t.bind f) Q:=by
 induction t with
 |ret a=>exact λh=>h
 |ask i j k ih=>exact λh=>#[h.1,h.2.1,ih _ h.2.2]
def d3{Q b}(c:∀a,Q a->b a)(t:KasT α):kok n lt t Q->kok n lt t b:=by
 induction t with
 |ret a=>exact c a
 |ask i j k ih=>exact λh=>#[h.1,h.2.1,ih _ h.2.2]
def J3{c}{Q}{G}(b:∀i j C,i<n->j<n->C (lt i j) s->c i j C s)(e:∀a,Q a->G a s)(t:KasT α):kok n lt t Q->t.kasWp c G s:=by
 induction t with
 |ret a=>exact e a
 |ask i j k ih=>exact λh=>b i j _ h.1 h.2.1<|ih _ h.2.2
structure Ord (lt:Nat->Nat->Bool):Prop where
 asym:∀i j,lt i j=true->lt j i=false
 trans:∀i j k,lt j i=false->lt k j=false->lt k i=false
section
variable{n:Nat}{lt:Nat->Nat->Bool}
structure PermN (n:Nat) (p:Array Nat):Prop where
 size:p.size=n
 perm:p.toList.Perm (List.range n)
def PermN.bd{p}(h:PermN n p)(hi:i<n):p.getD i 0<n:=by
 have a:i<p.size:=by rwa[h.size]
 have e:p.getD i 0=p[i]:=by simp[a]
 rw[e];have b:p[i]∈p.toList:=by simp
 exact Zg.mp<|h.perm.mem_iff.mp b
def PermN.rev{p}(h:PermN n p)i j:PermN n (kas_rev p i j):=
 #[by delta kas_rev;rw[mirror_size,h.size],((Array.perm_iff_toList_perm.mp<|mirror_perm _ _ _ _).trans h.perm)]
def PermN.bub{p}(h:PermN n p)i j:PermN n (bubble p i j):=
 #[by rw[bubble_size,h.size],((Array.perm_iff_toList_perm.mp<|bubble_perm _ _ _).trans h.perm)]
def kW{p q:Array Nat}(h:p[i]?=q[j]?):p.getD i 0=q.getD j 0:=by simp[h]
def gA{p}(h:PermN n p)(a:j<=n)k:(kas_rev p i j).getD k 0=if i<=k/\k<j then p.getD (i+j-1-k) 0 else p.getD k 0:=by
 let e:=getElem?_mirror_all (i:=i) (by rwa[h.size]) k;split
 .rename_i q;rw[Yk q]at e;exact kW e
 .rename_i q;rw[Ym q]at e;exact kW e
def Ris(lt:Nat->Nat->Bool)(p:Array Nat)(b:Nat):=∀i j,i<=j->j<b->lt (p.getD j 0) (p.getD i 0)=false
def Fal(lt:Nat->Nat->Bool)(p:Array Nat)(b:Nat):=∀i j,i<=j->j<b->lt (p.getD i 0) (p.getD j 0)=false
def Eqs(lt:Nat->Nat->Bool)(p:Array Nat)(a b:Nat):=∀i j,a<=i->i<b->a<=j->j<b->lt (p.getD i 0) (p.getD j 0)=false
def Ord.irr(o:Ord lt)i:lt i i=false:=by
 cases q:lt i i with
 |false=>rfl
 |true=>have:=o.asym i i q;rw[q]at this;cases this
theorem nG{a b}(h:a<=i/\i<b):a<=a+b-1-i/\a+b-1-i<b:=by lia
def Cg(o:Ord lt){p}(w:PermN n p):∀f k,1<=k->k+f<=n->Ris lt p k->kok n lt (kas_asc p f k) (λm=>k<=m/\m<=k+f/\Ris lt p m/\(m=k+f\/lt (p.getD m 0) (p.getD (m-1) 0))):=by
 intro f;induction f with
 |zero=>exact λk v v a=>#[Yp _,Yp _,a,.inl qx]
 |succ f ih=>
  intro k z x a;let s:=YA (Vo<|VE f) x;let u:=Uz z Nat.one_pos;let q:=Vp k 1 f;exact#[w.bd s,w.bd<|ZL u s,?_];cases c:lt _ (p.getD (k-1) 0)with
  |true=>
   (try dsimp only)
   exact#[Yp _,XF _ _,a,.inr c]
  |false=>
   (try dsimp only)
   exact d3 (λm h=>#[XS h.1,YF h.2.1<|Xj q,h.2.2.1,h.2.2.2.imp (λe=>e.trans q) id]) _<|ih (k+1) (Xd 1 k) (YF (Xj q) x) λi j l y=>?_;by_cases b:j<k
   .exact a i j l b
   .have:j=k:=ZC (Zx y)<|ZW b;subst this;by_cases g:i=j
    .subst g;exact o.irr _
    .exact o.trans _ _ _ (a i (j-1) (Xu<|ZM l g) u) c
def zY{p}(l:PermN n p){a b}(q:b<=n)(he:Eqs lt p a b)(o:Ord lt)(m:Fal lt p b):Fal lt (kas_rev p a b) b:=by
 intro i j c f;rw[gA l q,gA l q];by_cases e:a<=i/\i<b
 .rw[Yk e];have h:a<=j/\j<b:=#[YF e.1 c,f]
  rw[Yk h];exact he _ _ (nG e).1 (nG e).2 (nG h).1 (nG h).2
 .rw[Ym e];let g:=Nat.lt_of_not_le λz=>e #[z,Xg c f]
  by_cases h:a<=j/\j<b
  .rw[Yk h];exact m _ _ (YF (ZO g) (nG h).1) (nG h).2
  .rw[Ym h];exact m i j c f
def pj(o:Ord lt){p'}(h1:1<=k)(c:Fal lt p' k)(f:lt (p'.getD (k-1) 0) (p'.getD k 0)=false):Fal lt p' (k+1):=by
 intro i j b e;by_cases h:j<k
 .exact c i j b h
 .have:j=k:=ZC (Zx e)<|ZW h;subst this;by_cases a:i=j
  .subst a;exact o.irr _
  .exact o.trans _ _ _ f<|c i (j-1) (Xu<|ZM b a)<|Uz h1 Nat.one_pos
def uw(o:Ord lt)p' k:Eqs lt p' (k+1-(0+1)) (k+1):=by intro i j g f c b;let a:=ZC (Zx f) g;let e:=ZC (Zx b) c;subst a;subst e;exact o.irr _
def D4(o:Ord lt){p}{k q}(a:k-(q+1)<=k-1/\k-1<k)(he:Eqs lt p (k-(q+1)) k)(c:lt (p.getD k 0) (p.getD (k-1) 0)=false)(d:lt (p.getD (k-1) 0) (p.getD k 0)=false):Eqs lt p (k+1-(q+1+1)) (k+1):=by
 have e:∀i,k+1-(q+1+1)<=i->i<k+1->lt (p.getD i 0) _=false/\lt _ (p.getD i 0)=false:=λi b1 b2=>by
  rw[Nat.add_sub_add_right]at b1;by_cases h:i=k
  .subst h;exact#[o.irr _,o.irr _]
  .let b:=ZM (Zx b2) h;exact#[o.trans _ _ _ d<|he i (k-1) b1 b a.1 a.2,o.trans _ _ _ (he (k-1) i a.1 a.2 b1 b) c]
 exact λi j m l g f=>o.trans _ _ _ (e j g f).2 (e i m l).1
def FD(o:Ord lt):∀f p k q,PermN n p->1<=k->k+f<=n->q+1<=k->Fal lt p k->Eqs lt p (k-(q+1)) k->
  kok n lt (kas_desc f p k q) (λr=>PermN n r.1/\k<=r.2.1/\r.2.1<=n/\r.2.2+1<=r.2.1/\Fal lt r.1 r.2.1/\Eqs lt r.1 (r.2.1-(r.2.2+1)) r.2.1):=by
 intro f;induction f with
 |zero=>exact λp k q a m u s g i=>#[a,Yp _,u,s,g,i]
 |succ f ih=>
  intro p k q a m u s g i;let b:=YA (Vo<|VE f) u;let w:=Uz m Nat.one_pos;let e:=YF (Xj<|Vp k 1 f) u;have j:k-(q+1)<=k-1/\k-1<k:=#[Nat.sub_le_sub_left (VL<|YQ q) k,w]
  exact#[a.bd b,a.bd<|ZL w b,?_];cases c:lt _ (p.getD (k-1) 0)with
  |true=>
   (try dsimp only)
   let A:=o.asym _ _ c;by_cases l:q > 0
   .rw[Yk l];let x:=zY a (ZO b) i o g;have y:lt ((kas_rev p (k-(q+1)) k).getD (k-1) 0) ((kas_rev p (k-(q+1)) k).getD k 0)=false:=by rw[gA a<|ZO b,gA a<|ZO b,Yk j,Ym λz=>Zh _ z.2];exact o.trans _ _ _ A<|i _ _ (nG j).1 (nG j).2 j.1 j.2
    exact d3 (λr h=>#[h.1,XS h.2.1,h.2.2]) _<|ih _ (k+1) 0 (a.rev _ _) (Xd 1 k) e (Xd 1 k) (pj o m x y)<|uw o _ k
   .rw[Ym l];exact d3 (λr h=>#[h.1,XS h.2.1,h.2.2]) _<|ih _ (k+1) 0 a (Xd 1 k) e (Xd 1 k) (pj o m g A)<|uw o _ k
  |false=>
   (try dsimp only)
   exact#[a.bd<|ZL w b,a.bd b,?_];cases d:lt _ (p.getD k 0)with
   |true=>
    (try dsimp only)
    exact#[a,Yp _,ZO b,s,g,i]
   |false=>
    (try dsimp only)
    exact d3 (λr h=>#[h.1,XS h.2.1,h.2.2]) _<|ih p (k+1) (q+1) a (Xd 1 k) e (VL s) (pj o m g d)<|D4 o j i c d
def GH{p}(a:PermN n p){b}(f:b<=n)(g:Fal lt p b):Ris lt (kas_rev p 0 b) b:=by
 intro i j h c;have e:0<=i/\i<b:=#[YQ _,Xg h c]
 rw[gA a f,gA a f,Yk #[YQ _,c],Yk e];exact g _ _ (Nat.sub_le_sub_left h _) (nG e).2
def vS(o:Ord lt){p}(a:PermN n p)(h1:1<=k)(b:k<=n)(c:Fal lt p k):kok n lt (kas_tail3 k n p) (λr=>1<=r.1/\r.1<=n/\PermN n r.2/\Ris lt r.2 r.1):=by delta kas_tail3;let e:=Xj<|Ve b;exact jz _<|d3 (λm h=>#[YF h1 h.1,YF h.2.1 e,a.rev _ _,h.2.2.1]) _<|Cg o (a.rev 0 k) (n-k) k h1 e<|GH a b c
def mR(o:Ord lt){p}(g:PermN n p)(h1:1<=k)(i:k<n)(j:Fal lt p (k+1)):kok n lt (kas_descPart k n p) (λr=>1<=r.1/\r.1<=n/\PermN n r.2/\Ris lt r.2 r.1):=by
 delta kas_descPart;exact jz _<|d3 ?_ _<|FD o _ p (k+1) 0 g (Xd 1 k) (Xj<|Ve i) (Xd 1 k) j<|uw o p k;intro r h;let#[c,m,b,q,f,l]:=h;let a:=YF (Xd 1 k) m;by_cases e:r.2.2 > 0
 .rw[Yk e];exact vS o (c.rev _ _) a b<|zY c b l o f
 .rw[Ym e];exact vS o c a b f
def n4(o:Ord lt){p}(f:PermN n p)(L:1<=n):kok n lt (kas_count n p) (λr=>1<=r.1/\r.1<=n/\PermN n r.2/\Ris lt r.2 r.1):=by
 let H:=Ve L;exact jz _<|d3 (λk C=>?_) _ (Cg o f (n-1) 1 (Yp _) (Xj H) λi j a l=>by
  let I:=Nat.lt_one_iff.mp l;subst I;let J:=Nat.le_zero.mp a;subst J;exact o.irr _)
 let#[s,m,w,P]:=C;let m:=YF m<|Xj H;by_cases B:(k == n)
 .rw[Yk B];exact#[s,m,f,w]
 .rw[Ym B];have q:k≠n:=by simpa using B
  let x:=ZM m q;let y:=Uz s Nat.one_pos;have A:lt (p.getD k 0) (p.getD (k-1) 0):=by
   rcases P with e|e
   .exact absurd (e.trans H) q
   .exact e
  let M:=o.asym _ _ A;by_cases E:k > 1
  .rw[Yk E];exact#[f.bd<|YA Nat.one_pos L,f.bd<|ZL y x,?_];cases c:lt _ (p.getD (k-1) 0)with
   |true=>
    (try dsimp only)
    exact#[s,m,f,w]
   |false=>
    (try dsimp only)
    let b:=λi j u l=>
     o.trans _ _ _ (o.trans _ _ _ (w j (k-1) (Xu l) y) c)<|w 0 i (YQ _) u
    exact mR o (f.rev _ _) s x λi j a l=>?_;rw[gA f m,gA f m];by_cases g:j<k
    .have u:0<=i/\i<k:=#[YQ _,Xg a g]
     rw[Yk u,Yk #[YQ _,g]];exact b _ _ (nG u).2 (nG #[YQ _,g]).2
    .let O:=ZC (Zx l)<|ZW g;subst O;rw[Ym (λz:0<=j/\j<j=>Zh _ z.2)];by_cases h:i<j
     .rw[Yk #[YQ _,h]];exact o.trans _ _ _ M<|b _ _ (nG #[YQ _,h]).2 y
     .rw[Ym λz=>h z.2];have:i=j:=ZC a<|ZW h;subst this;exact o.irr _
  .rw[Ym E];let N:=ZC (ZW E) s;subst N;exact mR o f (Yp _) x λi j a l=>?_;by_cases h:i=j
   .subst h;exact o.irr _
   .let K:=ZM a h;let I:=ZC (Zx l)<|Xg (YQ i) K;subst I;let J:=Nat.lt_one_iff.mp K;subst J;exact M
theorem n6(o:Ord lt){p}(w:PermN n p){k}(x:k<n)(u:Ris lt p k):∀f l r,l<=r->r<=k->r-l<=f->(∀i,i<l->lt (p.getD k 0) (p.getD i 0)=false)->(∀i,r<=i->i<k->lt (p.getD k 0) (p.getD i 0))->
  kok n lt (kas_place p k f l r) (λm=>m<=k/\(∀i,i<m->lt (p.getD k 0) (p.getD i 0)=false)/\∀i,m<=i->i<k->lt (p.getD k 0) (p.getD i 0)):=by
 intro f;induction f with
 |zero=>
  intro l r y h A g b;let e:=ZC y<|Nat.le_of_sub_eq_zero<|Nat.le_zero.mp A;subst e;exact#[h,g,b]
 |succ f ih=>
  intro l r y h A g b;delta kas_place;by_cases a:l ≥ r
  .rw[Yk a];let e:=ZC y a;subst e;exact#[h,g,b]
  .rw[Ym a];have s:l<=(l+r)/2/\(l+r)/2<r/\(l+r)/2-l<=f/\r-((l+r)/2+1)<=f:=by clear g b u w ih h x;lia
   let#[E,j,C,B]:=s;exact#[w.bd x,w.bd<|ZL (YA j h) x,?_];cases c:lt _ (p.getD _ 0)with
   |true=>
    (try dsimp only)
    exact ih l _ E (YF (ZO j) h) C g λi z H=>?_;cases q:lt _ (p.getD i 0)with
    |true=>rfl
    |false=>
     have:=o.trans _ _ _ (u _ i z H) q;rw[c]at this;cases this
   |false=>
    (try dsimp only)
    exact ih _ r j h B (λi z=>o.trans _ _ _ (u i _ (Zx z)<|YA j h) c) b
def zT{p}(b:PermN n p){k l}(f:k<n)(c:l<=k)i:(bubble p k (k-l)).getD i 0=if i=l then p.getD k 0 else if l<i/\i<=k then p.getD (i-1) 0 else p.getD i 0:=by
 let e:=getElem?_bubble (by rwa[b.size]) (k-l) (Nat.sub_le _ _) i;rw[Nat.sub_sub_self c]at e;by_cases a:i=l
 .rw[Yk a]at e ⊢;exact kW e
 .rw[Ym a]at e ⊢;by_cases h:l<i/\i<=k
  .rw[Yk h]at e ⊢;exact kW e
  .rw[Ym h]at e ⊢;exact kW e
def Gk(o:Ord lt){p}(w:PermN n p){k l}(s:k<n)(q:Ris lt p k)(a1:l<=k)(y:∀i,i<l->lt (p.getD k 0) (p.getD i 0)=false)(a3:∀i,l<=i->i<k->lt (p.getD k 0) (p.getD i 0)):Ris lt (bubble p k (k-l)) (k+1):=by
 intro i j h x;let b:=Zx x;let m:=λz=>YA (Uz (Xg (YQ l) z) Nat.one_pos) b
 rw[zT w s a1,zT w s a1];by_cases f:i=l
 .rw[Yk f];by_cases e:j=l
  .rw[Yk e];exact o.irr _
  .let a:=ZM (f ▸ h)<|Xq e;rw[Ym e,Yk #[a,b]];exact o.asym _ _<|a3 (j-1) (Xu a)<|m a
 .rw[Ym f];by_cases e:j=l
  .let u:=e ▸ h;rw[Yk e,Ym λz=>Zh _<|YA z.1 u];exact y i<|ZM u f
  .rw[Ym e];by_cases g:l<i/\i<=k
   .let a:=YA g.1 h;rw[Yk g,Yk #[a,b]];exact q _ _ (Nat.sub_le_sub_right h 1)<|m a
   .rw[Ym g];by_cases c:l<j/\j<=k
    .rw[Yk c];exact q _ _ (Xu<|Xg (ZW λz=>g #[z,YF h b]) c.1)<|m c.1
    .rw[Ym c];exact q _ _ h<|YA (ZM (ZW λz=>c #[z,b]) e) a1
def JG(o:Ord lt):∀f p k,PermN n p->k+f=n->Ris lt p k->kok n lt (kas_bin f p k) (λr=>PermN n r/\Ris lt r n):=by
 intro f;induction f with
 |zero=>exact λp k h b a=>#[h,by rwa[<-b]]
 |succ f ih=>
  intro p k h b a;let e:=b ▸ Vo<|VE f;exact jz _<|d3 (λl c=>?_) _<|n6 o h e a k 0 k (YQ _) (Yp _) (Yp _) (λi g=>absurd g<|Vq _) λi m j=>absurd j<|Nat.not_lt_of_le m;let#[u,s,q]:=c;exact ih _ (k+1) (h.bub _ _) ((Vp k 1 f).trans b)<|Gk o h e a u s q
def oV n:PermN n (List.toArray (List.range n)):=#[by simp,by simp]
def wv(o:Ord lt)(g:1<=n):kok n lt (kas_sort n) (λr=>PermN n r/\Ris lt r n):=by
 exact jz _<|d3 (λr a=>?_) _<|n4 o (oV n) g;let#[i,f,c,b]:=a;by_cases h:r.1<n
 .rw[Yk h];let e:=Nat.max_eq_left i;rw[e];exact JG o _ _ _ c (Ve f) b
 .rw[Ym h];let e:=ZC f<|ZW h;rw[e]at b;exact#[c,b]
end
def yR(vs:List Value)(p:Array Nat):=(p.toList.map λi=>vs.getD i Value.none).toArray
def Gq(prog:Program)(w:World)(A:Around)(E:Kv)(κ:SortKind)(vs:List Value)(a:Array Value->Prop)(s:Shared):=
 wpAny (model prog w) A (sortRuns'.run<|SortSt.mk' κ (vs.toArray.zip vs.toArray) #[[]] 7 ()) (λr b=>b=s/\failedOf r.2=()/\a ((arrOf r.2).map (·.2))) E s
def Srt(lt:Nat->Nat->Bool)(vs:List Value)(out:Array Value):=∃p,PermN vs.length p/\Ris lt p vs.length/\out=yR vs p
theorem Ez{vs}(o:Ord lt)(h2:2<=vs.length)(h64:vs.length<64)(h:∀i j C,i<vs.length->j<vs.length->C (lt i j) s->kas_ask prog w A κ vs i j C s):Gq prog w A E κ vs (Srt lt vs) s:=
 kat_run (Q:=λa b=>b=s/\failedOf a=()/\Srt lt vs _) (G:=λp b=>b=s/\PermN vs.length p/\Ris lt p vs.length)
  rfl h2 h64 (λp a b f e c #[b1,b2,b3]=>#[b1,c,p,b2,b3,kat_snds qx e])<|J3 h (λp #[b2,b3]=>#[qx,b2,b3]) _<|wv o<|by lia
theorem Bq{vs}(o:Ord lt)(h:vs.length<2):Srt lt vs vs.toArray:=by
 exact#[List.toArray<|List.range vs.length,oV _,λi j a b=>?_,?_]
 .have e:i=j:=by lia
  subst e;exact o.irr _
 .cases vs with
  |nil=>simp[yR]
  |cons v r=>
   cases r with
   |nil=>simp[yR,List.range,List.range.loop]
   |cons _ _=>simp at h;lia
theorem qM{vs}{P}(m:s.heap.get? a=!(seqObj "list" vs.toArray n))(hz:vs.length<=16777216)κ{l}(x:∀out,l out->out.size=vs.length)(h0:vs.length<2->l vs.toArray)
  (H:2<=vs.length->∀h',(∀b u,b≠a->s.heap.get? b=!u->h'.get? b=!u)->∀Q:SortKind->Shared->Prop,Q κ {s with heap:=h' }->wpAny (model prog w) A (keyKind' vs.toArray) Q E {s with heap:=h' })
  (C:2<=vs.length->∀h',(∀b u,b≠a->s.heap.get? b=!u->h'.get? b=!u)->Gq prog w A E κ vs l {s with heap:=h' })
  (h:∀out,l out->P (.done<|.ret .none) {s with heap:=sortedHeap s.heap a vs out}) :
  wpAny (model prog w) A (Builtin.«list.sort» #[[.ref a],[]]) P E s:=by
 rw[list_sort_plain];let z:=Yv m;exact Yd<|listItems_at m qx ?_;exact Yd<|listUpdate_at m qx ?_ (by rw[YB,YV];lia)<|YQ _;obtain⟨y,g⟩:∃y,(s.heap.update a _).get? a=some (seqObj "list" #[[]] y):=#[_,get?_update_seq m λv=>#[[]]]
 exact Yd<|seqEpoch_at g qx ?_;exact Yd<|wpAny_newTuple ?_ (by rw[YV];lia);exact Yd<|wpAny_newList ?_<|YQ _;exact Zs ?_;have c:(((s.heap.update a<|Obj.mapSeq λv=>(#[[]])).push<|seqObj "tuple" vs.toArray 0).push<|seqObj "list" #[[]] 0).get? a=!(seqObj "list" #[[]] y):=by rwa[XT _ _ _<|by rw[size_push',VN];exact Yy<|ZP z,XT _ _ _<|by rw[VN];exact Yy z]
 have kept:∀b u,b≠a->s.heap.get? b=!u->(((s.heap.update a<|Obj.mapSeq λv=>(#[[]])).push<|seqObj "tuple" vs.toArray 0).push<|seqObj "list" #[[]] 0).get? b=!u:=λb u J e=>by
  let i:=Yv e;rwa[XT _ _ _<|by rw[size_push',VN];exact Yy<|ZP i,XT _ _ _<|by rw[VN];exact Yy i,Xb _ _ _ _ J]
 dsimp only;have B:vs.toArray.size=vs.length:=by simp
 by_cases o:vs.toArray.size<2
 .rw[Yk o,Yk o];exact Yd<|Yi ?_;rw[StateT.run_pure];exact Yd<|Yi ?_;dsimp only;exact Yd<|seqEpoch_at c qx ?_;have e:(vs.toArray.zip vs.toArray).map (·.2)=vs.toArray:=by simp[List.map_snd_zip]
  exact Yd<|listUpdate_at c qx ?_ (YQ _) (by show((vs.toArray.zip vs.toArray).map (·.2)).size<=_;rw[e,YB,YV];lia);simp only[bne_self_eq_false,Xf,VB];let q:=h _<|h0 (by lia);rw[<-e]at q;exact Yi q
 .rw[Ym o,Ym o];have j:2<=vs.length:=by lia
  exact Yd<|H j _ kept _ ?_;exact Yd<|ZE (C j _ kept) ?_ λv v e=>e;rintro⟨⟨⟩,p⟩ K ⟨rfl,I,f⟩;dsimp only;exact Yd<|seqEpoch_at c qx ?_;exact Yd<|listUpdate_at c qx ?_ (YQ _) (by have:=x _ f;rw[show((arrOf p).map (·.2)).size=_ from this,YV];lia);rw[I];simp only[bne_self_eq_false,Xf,VB];exact Yi<|h _ f
mutual
theorem dD:∀x y:D,aA x y=true->(eqd x y=true↔x=y)
 |.int i,.int j,_=>by simp[eqd,bR,PyData.eqv]
 |.bl a,.bl b,_=>by simp[eqd,bR,PyData.eqv]
 |.str a,.str b,_=>by simp[eqd,bR,PyData.eqv]
 |.tup xs,.tup ys,h=>by
  have:=lM xs ys (by simpa[aA]using h);simp only[eqd,bR,PyData.eqv,D.tup.injEq];exact this
 |.non,y,h=>by cases y<;>simp[aA]at h
 |.lst _,y,h=>by cases y<;>simp[aA]at h
 |.dT _,y,h=>by cases y<;>simp[aA]at h
 |.dK _,y,h=>by cases y<;>simp[aA]at h
 |.ins _ _,y,h=>by cases y<;>simp[aA]at h
 |.int _,.non,h=>by simp[aA]at h
 |.int _,.bl _,h=>by simp[aA]at h
 |.int _,.str _,h=>by simp[aA]at h
 |.int _,.tup _,h=>by simp[aA]at h
 |.int _,.lst _,h=>by simp[aA]at h
 |.int _,.dT _,h=>by simp[aA]at h
 |.int _,.dK _,h=>by simp[aA]at h
 |.int _,.ins _ _,h=>by simp[aA]at h
 |.bl _,.non,h=>by simp[aA]at h
 |.bl _,.int _,h=>by simp[aA]at h
 |.bl _,.str _,h=>by simp[aA]at h
 |.bl _,.tup _,h=>by simp[aA]at h
 |.bl _,.lst _,h=>by simp[aA]at h
 |.bl _,.dT _,h=>by simp[aA]at h
 |.bl _,.dK _,h=>by simp[aA]at h
 |.bl _,.ins _ _,h=>by simp[aA]at h
 |.str _,.non,h=>by simp[aA]at h
 |.str _,.bl _,h=>by simp[aA]at h
 |.str _,.int _,h=>by simp[aA]at h
 |.str _,.tup _,h=>by simp[aA]at h
 |.str _,.lst _,h=>by simp[aA]at h
 |.str _,.dT _,h=>by simp[aA]at h
 |.str _,.dK _,h=>by simp[aA]at h
 |.str _,.ins _ _,h=>by simp[aA]at h
 |.tup _,.non,h=>by simp[aA]at h
 |.tup _,.bl _,h=>by simp[aA]at h
 |.tup _,.int _,h=>by simp[aA]at h
 |.tup _,.str _,h=>by simp[aA]at h
 |.tup _,.lst _,h=>by simp[aA]at h
 |.tup _,.dT _,h=>by simp[aA]at h
 |.tup _,.dK _,h=>by simp[aA]at h
 |.tup _,.ins _ _,h=>by simp[aA]at h
theorem lM:∀xs ys:List D,ba xs ys=true->(PyData.eqvAll (cP xs) (cP ys)=true↔xs=ys)
 |[],[],_=>by simp[cP,PyData.eqvAll]
 |[],_::_,_=>by simp[cP,PyData.eqvAll]
 |_::_,[],_=>by simp[cP,PyData.eqvAll]
 |x::xs,y::ys,h=>by
  rw[ba,Yn]at h;let a:=dD x y h.1;let b:=lM xs ys h.2;simp only[cP,PyData.eqvAll,Yn,List.cons.injEq];rw[b];delta eqd at a;rw[a]
end
structure Fc2 {α:Type} (l:α->α->Bool) (x y:α):Prop where
 as:l x y=true->l y x=false
 an:l x y=false->l y x=false->x=y
def Fc3{α:Type}(l:α->α->Bool)(x y z:α):=l x y->l y z->l x z
def bn{x}(h:aA x y):(∃i j,x=.int i/\y=.int j)\/(∃i j,x=.bl i/\y=.bl j)\/(∃i j,x=.str i/\y=.str j)\/∃i j,x=.tup i/\y=.tup j/\ba i j:=by
 cases x with
 |int i=>
  exact .inl ?_;cases y with
  |int j=>exact#[_,_,qx,qx]
  |_=>exact absurd h Yj
 |bl i=>
  exact .inr<|.inl ?_;cases y with
  |bl j=>exact#[_,_,qx,qx]
  |_=>exact absurd h Yj
 |str i=>
  exact .inr<|.inr<|.inl ?_;cases y with
  |str j=>exact#[_,_,qx,qx]
  |_=>exact absurd h Yj
 |tup i=>
  exact .inr<|.inr<|.inr ?_;cases y with
  |tup j=>exact#[_,_,qx,qx,h]
  |_=>exact absurd h Yj
 |_=>exact absurd h Yj
theorem AS{a b:List Nat}(h:a<b):¬b<a:=by grind
theorem lO{x}(h1:aA x y)(b:ju x=false):Fc2 ltD x y:=by
 rcases bn h1 with⟨i,j,rfl,rfl⟩|⟨i,j,rfl,rfl⟩|⟨i,j,rfl,rfl⟩|⟨i,j,rfl,rfl,_⟩
 .exact#[λh=>?_,λh a=>?_]
  .simp[ltD]at h ⊢;lia
  .simp[ltD]at h a;rw[show i=j by lia]
 .exact#[λh=>?_,λh a=>?_]
  .cases i<;>simp_all [ltD]
  .cases i<;>simp_all [ltD]
 .exact#[λh=>?_,λh a=>?_]
  .simp[ltD]at h ⊢;exact AS h
  .simp[ltD]at h a;rw[zd<|List.le_antisymm a h]
 .cases b
theorem lQ{x}(h1:aA x y)(h2:aA y z)(c:ju x=false):Fc3 ltD x y z:=by
 rcases bn h1 with⟨i,j,rfl,rfl⟩|⟨i,j,rfl,rfl⟩|⟨i,j,rfl,rfl⟩|⟨i,j,rfl,rfl,_⟩
 .rcases bn h2 with⟨a,k,e,rfl⟩|⟨a,k,e,rfl⟩|⟨a,k,e,rfl⟩|⟨a,k,e,rfl,_⟩<;>cases e;intro h b;simp[ltD]at h b ⊢;lia
 .rcases bn h2 with⟨a,k,e,rfl⟩|⟨a,k,e,rfl⟩|⟨a,k,e,rfl⟩|⟨a,k,e,rfl,_⟩<;>cases e;intro h b;cases i<;>simp_all [ltD]
 .rcases bn h2 with⟨a,k,e,rfl⟩|⟨a,k,e,rfl⟩|⟨a,k,e,rfl⟩|⟨a,k,e,rfl,_⟩<;>cases e;intro h b;simp[ltD]at h b ⊢;exact List.lt_trans h b
 .cases c
def AC n:∀x y:D,okN n x->aA x y->aA y x:=by
 induction n with
 |zero=>
  intro x y o h;rcases bn h with⟨i,j,rfl,rfl⟩|⟨i,j,rfl,rfl⟩|⟨i,j,rfl,rfl⟩|⟨i,j,rfl,rfl,_⟩
  .rfl
  .rfl
  .rfl
  .simp[okN]at o
 |succ n ih=>
  intro x y o h;rcases bn h with⟨i,j,rfl,rfl⟩|⟨i,j,rfl,rfl⟩|⟨i,j,rfl,rfl⟩|⟨i,j,rfl,rfl,c⟩
  .rfl
  .rfl
  .rfl
  .have key:∀b a,(∀d∈b,okN n d)->ba b a->ba a b:=by
    intro b;induction b with
    |nil=>intro a _ _;cases a<;>simp[ba]
    |cons x b e=>
     intro a f c;cases a with
     |nil=>simp[ba]
     |cons y a=>
      rw[ba,Yn]at c ⊢;exact#[ih x y (f x Ye) c.1,e a (λd g=>f d<|Yb _ g) c.2]
   exact key i j (bX o) c
def GT(ih:∀x y:D,okN n x->okN n y->aA x y->Fc2 ltD x y):∀xs ys,(∀d∈xs,okN n d)->(∀d∈ys,okN n d)->ba xs ys->Fc2 dN xs ys:=by
 intro xs;induction xs with
 |nil=>
  intro ys _ _ _;exact#[λh=>?_,λh c=>?_]
  .cases ys<;>simp_all [dN]
  .cases ys<;>simp_all [dN]
 |cons x xs i=>
  intro ys ox o f;cases ys with
  |nil=>
   exact#[λh=>?_,λh c=>?_]
   .simp[dN]at h
   .simp[dN]at c
  |cons y ys=>
   rw[ba,Yn]at f;let p:=ox x Ye;let j:=o y Ye;let b:=dD x y f.1;let e:=dD y x<|AC n x y p f.1;let G:=i ys (λd g=>ox d<|Yb _ g) (λd g=>o d<|Yb _ g) f.2;exact#[λh=>?_,λh c=>?_]
   .rw[dN]at h ⊢;by_cases a:x=y
    .rw[Yk<|b.mpr a]at h;rw[Yk<|e.mpr a.symm];exact G.as h
    .rw[Ym λq=>a<|b.mp q]at h;rw[Ym λq=>a (e.mp q).symm];exact(ih x y p j f.1).as h
   .rw[dN]at h c;by_cases a:x=y
    .rw[Yk<|b.mpr a]at h;rw[Yk<|e.mpr a.symm]at c;rw[a,G.an h c]
    .rw[Ym λq=>a<|b.mp q]at h;rw[Ym λq=>a (e.mp q).symm]at c;exact absurd ((ih x y p j f.1).an h c) a
def gD n:∀x y:D,okN n x->okN n y->aA x y->Fc2 ltD x y:=by
 induction n with
 |zero=>
  intro x y ox o c;exact lO c ?_;cases x<;>first|rfl|(simp[okN]at ox)
 |succ n ih=>
  intro x y ox o c;rcases bn c with⟨i,j,rfl,rfl⟩|⟨i,j,rfl,rfl⟩|⟨i,j,rfl,rfl⟩|⟨i,j,rfl,rfl,d1⟩
  iterate 3 exact lO c qx
  .let F:=GT ih i j (bX ox) (bX o) d1;exact#[λh=>?_,λh a=>?_]
   .rw[ltD]at h ⊢;exact F.as h
   .rw[ltD]at h a;rw[F.an h a]
def Hg(ih:∀x y z:D,okN n x->okN n y->okN n z->aA x y->aA y z->aA x z->Fc3 ltD x y z):∀xs ys zs,(∀d∈xs,okN n d)->(∀d∈ys,okN n d)->(∀d∈zs,okN n d)->ba xs ys->ba ys zs->ba xs zs->Fc3 dN xs ys zs:=by
 intro xs;induction xs with
 |nil=>
  intro ys zs _ _ _ _ _ _ h c;cases ys<;>cases zs<;>simp_all [dN]
 |cons x xs o=>
  intro ys zs ox A w j m l h c;cases ys with
  |nil=>simp[dN]at h
  |cons y ys=>
   rw[ba,Yn]at j;let u:=ox x Ye;let s:=A y Ye;let i:=dD x y j.1;cases zs with
   |nil=>simp[dN]at c
   |cons z zs=>
    rw[ba,Yn]at m l;let C:=w z Ye;let f:=dD y z m.1;let e:=dD x z l.1;let F:=ih x y z u s C j.1 m.1 l.1;rw[dN]at h c ⊢;by_cases b:x=y
    .rw[Yk<|i.mpr b]at h;by_cases a:y=z
     .rw[Yk<|f.mpr a]at c;rw[Yk<|e.mpr<|b.trans a];exact o ys zs (λd g=>ox d<|Yb _ g) (λd g=>A d<|Yb _ g) (λd g=>w d<|Yb _ g) j.2 m.2 l.2 h c
     .rw[Ym λq=>a<|f.mp q]at c;rw[Ym λq=>a<|b.symm.trans<|e.mp q];rwa[b]
    .rw[Ym λq=>b<|i.mp q]at h;by_cases a:y=z
     .rw[Ym λq=>b<|(e.mp q).trans a.symm];rwa[<-a]
     .rw[Ym λq=>a<|f.mp q]at c;let p:=F h c;by_cases B:x=z
      .subst B;have:=(gD n x y u s j.1).as h;rw[c]at this;cases this
      .rwa[Ym λq=>B<|e.mp q]
def Ab n:∀x y z:D,okN n x->okN n y->okN n z->aA x y->aA y z->aA x z->Fc3 ltD x y z:=by
 induction n with
 |zero=>
  intro x y z ox f o a c l;exact lQ a c ?_;cases x<;>first|rfl|(simp[okN]at ox)
 |succ n ih=>
  intro x y z ox f o a c l;rcases bn a with⟨i,j,rfl,rfl⟩|⟨i,j,rfl,rfl⟩|⟨i,j,rfl,rfl⟩|⟨i,j,rfl,rfl,d1⟩
  iterate 3 exact lQ a c qx
  .rcases bn c with⟨b,k,e,rfl⟩|⟨b,k,e,rfl⟩|⟨b,k,e,rfl⟩|⟨b,k,e,rfl,d2⟩<;>cases e;let F:=Hg ih i j k (bX ox) (bX f) (bX o) d1 d2 (by simpa[aA]using l);intro h g;exact F h g
def AY(x:D):List D->List D
 |[]=>[x]
 |y::r=>if ltD x y then x::y::r else y::AY x r
def aQ:List D->List D
 |[]=>[]
 |x::r=>AY x<|aQ r
theorem l9 x:∀l:List D,(AY x l).Perm (x::l)
 |[]=>.refl _
 |y::r=>by
  delta AY;split
  .exact .refl _
  .exact((l9 x r).cons y).trans<|.swap x y r
theorem a9:∀l:List D,(aQ l).Perm l
 |[]=>.refl _
 |x::r=>(l9 x<|aQ r).trans<|(a9 r).cons x
def Cmps(n:Nat)(ds:List D):=(∀d∈ds,okN n d)/\∀x∈ds,∀y∈ds,aA x y
def wm:∀{as bs},as.Perm bs->Cmps n as->as.Pairwise (λx y=>ltD y x=false)->bs.Pairwise (λx y=>ltD y x=false)->as=bs:=by
 intro as;induction as with
 |nil=>intro bs c _ _ _;exact(List.Perm.nil_eq c)
 |cons a as ih=>
  intro bs c f g p;cases bs with
  |nil=>exact absurd c.symm<|List.not_perm_nil_cons _ _
  |cons b bs=>
   let i:=c.mem_iff.mp Ye;let m:=c.mem_iff.mpr Ye;have e:a=b:=by
    rcases Yt.mp i with h|h
    .exact h
    .rcases Yt.mp m with h'|h'
     .exact h'.symm
     .let j:=(Zo.mp g).1 b h';let l:=(Zo.mp p).1 a h;exact(gD n a b (f.1 a Ye) (f.1 b m)<|f.2 a Ye b m).an l j
   subst e;rw[ih (List.Perm.cons_inv c) #[λd s=>f.1 d<|Yb _ s,λx q y o=>f.2 x (Yb _ q) y<|Yb _ o] (Zo.mp g).2 (Zo.mp p).2]
def Cmps.perm(h:Cmps n as)(p:as.Perm bs):Cmps n bs:=#[λd c=>h.1 d<|p.mem_iff.mpr c,λx b y a=>h.2 x (p.mem_iff.mpr b) y<|p.mem_iff.mpr a]
theorem rh{x}(ox:okN n x)(o:okN n y)(f:okN n z)(c:aA x y)(g:aA y z)(j:aA x z)(i:aA y x)(a:aA z y)(b:aA z x)(h1:ltD y x=false)(h2:ltD z y=false):ltD z x=false:=by
 cases q:ltD z x with
 |false=>rfl
 |true=>
  -- z<x
  by_cases h:ltD x y
  .have:=Ab n z x y f ox o b c a q h;rw[h2]at this;cases this
  .let e:=(gD n x y ox o c).an (by simpa using h) h1;grind
theorem nv{x}:∀{l},Cmps n (x::l)->l.Pairwise (λa b=>ltD b a=false)->(AY x l).Pairwise (λa b=>ltD b a=false)
 |[],_,_=>List.pairwise_singleton _ _
 |y::r,hc,hp=>by
  have m:x∈x::y::r:=Ye;have c:y∈x::y::r:=Yb _ Ye;let#[f,g]:=Zo.mp hp;delta AY;split
  .rename_i q;exact Zo.mpr #[λz hz=>?_,hp];let h:=(gD n x y (hc.1 x m) (hc.1 y c)<|hc.2 x m y c).as q;rcases Yt.mp hz with rfl|hz
   .exact h
   .have e:z∈x::y::r:=Yb _<|Yb _ hz;exact rh (hc.1 x m) (hc.1 y c) (hc.1 z e) (hc.2 x m y c) (hc.2 y c z e) (hc.2 x m z e) (hc.2 y c x m) (hc.2 z e y c) (hc.2 z e x m) h<|f z hz
  .rename_i q;exact Zo.mpr #[λz hz=>?_,nv #[λd hd=>hc.1 d ?_,λa ha b hb=>hc.2 a ?_ b ?_] g]
   .rcases Yt.mp ((l9 x r).mem_iff.mp hz)with rfl|hz
    .simpa using q
    .exact f z hz
   all_goals
    first
     |(
      rcases Yt.mp hd with rfl|hd
      .exact m
      .exact Yb _<|Yb _ hd)
     |(
      rcases Yt.mp ha with rfl|ha
      .exact m
      .exact Yb _<|Yb _ ha)
     |(
      rcases Yt.mp hb with rfl|hb
      .exact m
      .exact Yb _<|Yb _ hb)
def Cmps.sub(h:Cmps n bs)(k:∀x∈as,x∈bs):Cmps n as:=#[λd c=>h.1 d<|k d c,λx b y a=>h.2 x (k x b) y<|k y a]
theorem fK:∀{l},Cmps n l->(aQ l).Pairwise (λa b=>ltD b a=false)
 |[],_=>.nil
 |x::r,hc=>nv (hc.sub λy hy=>by
   rcases Yt.mp hy with rfl|hy
   .exact Ye
   .exact Yb _<|(a9 r).mem_iff.mp hy)<|fK<|hc.sub λy hy=>Yb _ hy
def qr(h:as.Perm bs)(a:Cmps n bs)(hs:as.Pairwise (λx y=>ltD y x=false)):as=aQ bs:=
 wm (h.trans (a9 bs).symm) (a.perm h.symm) hs<|fK a
def kh(h:as.Perm bs)(a:Cmps n bs):aQ as=aQ bs:=
 qr ((a9 as).trans h) a<|fK<|a.perm h.symm
end L2
namespace L2
open PySem PySem.Spec PyProof.Rows
section
variable{a:Expr}
def wb{x}{i}(r:Rep K H x (.int i)):x=.int i:=by cases r;rfl
def n9{x}{i}(r:Rep K H x (.str i)):x=.str i:=by cases r;rfl
open A in
def An{g}(e:∀F i j,Rep K F (g i j) (g' i j)):OpN2 K (rI0 g) (fI0 g'):=by
 intro P F H x y l f d Q h c b a k;delta fI0 at h;split at h
 .rename_i i j;cases h;exact#[i,j,wb b,wb a,k _ F H (Evo.refl c)<|e F i j]
 .cases h
def OpN2.or{r j}{f g:Dy}(h:OpN2 K r f)(h':OpN2 K j g):OpN2 K (λx y H Q=>r x y H Q\/j x y H Q) (λx y=>(f x y).or (g x y)):=by
 intro P F H x y c b d Q a l i e k;dsimp only at a;cases q:f c b with
 |some m=>rw[q]at a;let a:=YG a;subst a;exact .inl<|h P F H x y c b _ Q q l i e k
 |none=>rw[q]at a;exact .inr<|h' P F H x y c b d Q a l i e k
def leS:D->D->Option D
 |.str x,.str y=>some<|.bl<|(not<|decide (y.cps.toList<x.cps.toList))
 |_,_=>()
def GO:R2:=λx y H Q=>∃i j,x=.str i/\y=.str j/\Q (.bl<|(not<|decide (j.cps.toList<i.cps.toList))) H
def Ao:OpR X (compareOp .LtE) GO:=by intro p s c H x y v u Q I b a h;let#[i,j,rfl,rfl,q]:=h;let#[t,rfl]:=b;let#[e,rfl]:=a;exact PySem.P.le_str #[.bl _,H,I,qx,q]
def JH:OpN2 K GO leS:=by
 intro P F H x y f e d Q h c b a k;delta leS at h;split at h
 .cases h;exact#[_,_,n9 b,n9 a,k _ F H (Evo.refl c) .bl]
 .cases h
def leA(x y:D):=(leI x y).or<|leS x y
def pZ:OpR X (compareOp .LtE) (λx y H Q=>rI0 (λi j=>.bl (decide (i<=j))) x y H Q\/GO x y H Q):=Ir.or Ao
def o4:OpN2 K (λx y H Q=>rI0 (λi j=>.bl (decide (i<=j))) x y H Q\/GO x y H Q) leA:=(An λz z z=>.bl).or JH
def chD(f g:Dy)(fa fb fc:Dd):=λa=>(fa a).bind λx=>(fb a).bind λy=>match f x y with
 |some (.bl true)=>(fc a).bind λz=>g y z
 |some (.bl false)=>some<|.bl false
 |_=>()
def ou{f g:Dy}(N:OpN2 K r f)(w:OpN2 K M g):∀σ H Q,tD K (chD f g fa fb fc) σ H Q->xk r M (tN K fa) (tN K fb) (tN K fc) σ H Q:=λσ H Q=>un7 λP F a d h I k=>by
 delta chD at h;cases l:fa a with
 |none=>rw[l]at h;cases h
 |some s=>
 cases q:fb a with
 |none=>rw[l,Ya,q]at h;cases h
 |some o=>
 rw[l,Ya,q,Ya]at h;split at h
 .rename_i c;cases A:fc a with
  |none=>rw[A]at h;cases h
  |some O=>
   rw[A,Ya]at h;exact#[P,F,a,s,l,I,λx L Y i u=>#[P,L,a,o,q,I.evo i,λy J C e p=>?_]];exact N P J C x y s o _ _ c e.hp (u.same<|e.same i.hp) p λv E R m j=>?_;cases j;exact#[true,qx,?_];rw[Yk qx];let b:=(i.trans e).trans m;exact#[P,E,a,O,A,I.evo b,λz F4 X B S=>?_];exact w P F4 X y z o O d Q h B.hp ((p.same<|m.same e.hp).same<|B.same m.hp) S λv Z U T j=>k v Z U ((b.trans B).trans T) j
 .rename_i c;cases h;exact#[P,F,a,s,l,I,λx L Y i u=>#[P,L,a,o,q,I.evo i,λy J C e p=>?_]];exact N P J C x y s o _ _ c e.hp (u.same<|e.same i.hp) p λv E R m j=>?_;cases j;exact#[false,qx,?_];rw[Ym Yj];exact k _ E R ((i.trans e).trans m) .bl
 .cases h
def yX(g:PDN X a fa)(f:PDN X b fb)(e:PDN X c fc)(h:lastMarks [CmpOp.LtE,CmpOp.LtE] [b,c]=false:=by with_unfolding_all rfl):PDE X (.Compare a [.LtE,.LtE] [b,c] pos) (chD leA leA fa fb fc):=(vv pZ pZ g f e h).imp<|ou o4 o4
def sR(g:PDN X a fa)(f:PDN X b fb)(e:PDN X c fc)(h:lastMarks [CmpOp.LtE,CmpOp.Lt] [b,c]=false:=by with_unfolding_all rfl):PDE X (.Compare a [.LtE,.Lt] [b,c] pos) (chD leA ltI fa fb fc):=(vv pZ MM g f e h).imp<|ou o4<|An λz z z=>.bl
def FB(g:PDN X a fa)(f:PDN X b fb)(e:PDN X c fc)(h:lastMarks [CmpOp.LtE,CmpOp.LtE] [b,c]=false:=by with_unfolding_all rfl):PDT X (.Compare a [.LtE,.LtE] [b,c] pos) (asB (chD leA leA fa fb fc)):=(CD pZ pZ g f e h).imp<|kY<|ou o4 o4
def MS(K:Kq)(r:List V->Hp->VK->Prop)(f:D->Option D):=
 ∀P F H x a d Q,f a=!d->DHp P F H->Rep K H x a->(∀v c b,Evo P F H c b->Rep K c v d->Q v b)->r [x] H Q
def Ds{f}(j:MS K r f):∀σ H Q,tD K (d1 f fa) σ H Q->tCB r (nj (tN K fa) sY) σ H Q:=λσ H Q=>un7 λP F b d h I k=>by
 delta d1 at h;cases a:fa b with
 |none=>rw[a]at h;cases h
 |some c=>
  rw[a,Ya]at h;exact#[P,F,b,c,a,I,λx q o e g=>j P q o x c d Q h e.hp g λv p m l i=>k v p m (e.trans l) i]
def Jn:MS K (Mh K) bN:=by
 intro P F H x e d Q a c b k;delta bN at a;split at a
 .cases a;cases b with|lst h1 h2=>exact .inl #[_,_,qx,.inl h1,by rw[h2.length];exact k _ F H (Evo.refl c) .int]
 .cases a;cases b with|tup h1 h2=>exact .inl #[_,_,qx,.inr<|SqT.of h1,by rw[h2.length];exact k _ F H (Evo.refl c) .int]
 .split at a
  .rename_i h;cases a;exact .inr #[_,by rw[n9 b],by rwa[YV],k _ F H (Evo.refl c) .int]
  .cases a
 .cases a
def b_(b:Gl X "len")(a:X.mg "len"=())(c:PDN X e fa)(hs:starEach [e] X.env=[(false,eval e X.env)]:=by rfl)(h:(backTo pos (starEach [] X.env)).any (·.1)=false:=by rfl):PDE X (.Call (.Name "len" p) [e] [] pos) (d1 bN fa):=
 (dB (t7.or sN) b a boot_len (aI c bf hs) (by decide) (by decide) hs h).imp<|Ds Jn
def boot_int:bootBuiltins "int"=!(.type "int"):=by rfl
def rJ:bootBuiltins "list"=!(.type "list"):=by rfl
def xL:bootBuiltins "tuple"=!(.type "tuple"):=by rfl
def boot_bool:bootBuiltins "bool"=!(.type "bool"):=by rfl
def Eu:bootBuiltins "set"=!(.type "set"):=by rfl
def dG:bootBuiltins "isinstance"=!(.builtin "isinstance"):=by rfl
def CJ:bootBuiltins "all"=!(.builtin "all"):=by rfl
def Ei:bootBuiltins "min"=!(.builtin "min"):=by rfl
def ji:bootBuiltins "sorted"=!(.builtin "sorted"):=by rfl
def ki:D->Option D
 |.lst ds=>some<|.tup ds
 |.tup ds=>some<|.tup ds
 |_=>()
def Jw:Nd K (λxs H Q=>∃p ys,xs=[.ref p]/\((SqL K H p ys/\∀l,H l=()->Q (.ref l) (upd H l (.tup ys)))\/(SqT K H p ys/\Q (.ref p) H))) ki:=by
 intro P F H i g x j d Q h I a k;delta ki at h;split at h
 .cases h;let#[p,f,rfl,b,c]:=dE I a;exact#[p,f,qx,.inl #[b,λl e=>?_]];exact k _ _ _ (Evo.laid I.toDHp e)<|.tup aC<|c.same<|jw (I.toDHp.free e).1
 .cases h;rcases a with a|⟨_,ob,_,_,_,_,_,hfl,z⟩
  .cases a with|tup b c=>exact#[_,_,qx,.inr #[SqT.of<|I.sub _ _ b,k _ F H (Evo.refl I.toDHp)<|.tup b c]]
  .cases ob<;>first|(cases z;done)|cases hfl
 .cases h
def g8(a:Gl X "tuple")(h:X.mg "tuple"=())(b:PDR X e fa)(hs:starEach [e] X.env=[(false,eval e X.env)]:=by rfl):PDE X (.Call (.Name "tuple" p) [e] [] pos) (d1 ki fa):=
 (eF qU a h xL (aI b bf hs) (he:=hs)).imp<|KM Jw
def fq(f:Dd):=λρ=>(f ρ).bind dJ
def fQ(A:Gl X "list")(z:X.mg "list"=())(c:PDR X e fa)(hs:starEach [e] X.env=[(false,eval e X.env)]:=by rfl):PDO X (.Call (.Name "list" p) [e] [] pos) (asL<|fq fa):=
 (eF tV A z rJ (aI c bf hs) (he:=hs)).imp λC H Q=>un7 λP F o E h I k=>by
  delta asL fq at h;cases c:fa o with
  |none=>rw[c]at h;cases h
  |some m=>
   rw[c,Ya]at h;let#[B,b,rfl]:=YK.mp h;exact#[P,F,o,m,c,I,λx y w f s=>?_];let u:=I.evo f;have fin:∀a,Reps X.K y a B->∀l,w l=()->Q _ (upd w l<|.lst a):=λa r l g=>
    k l y _ (f.trans<|Evo.side f.hp g) #[#[f.back I.toDHp g,(f.hp.free g).1],_,aC,r]
   cases m with
   |lst ds'=>
    cases b;let#[q,a,rfl,j,i]:=dE u s;exact#[q,a,qx,.inl j,fin a i]
   |tup ds'=>
    cases b;let#[q,a,rfl,j,i]:=kL u s;exact#[q,a,qx,.inr j,fin a i]
   |_=>cases b
def Iw(K:Kq):R2:=λx y H Q=>∃l b a z,x=.ref l/\y=.ref b/\SqL K H l a/\SqL K H b z/\a.length+z.length<=sizeLine/\∀p,H p=()->Q (.ref p) (upd H p<|.lst<|a++z)
theorem y_:OpR X (binaryOp .Add) (Iw X.K):=by
 intro pz s Y H x y v u Q I L J h;let#[l,b,xs,Z,rfl,rfl,P,R,hz,q]:=h;cases L;cases J;let#[a,r,N,_]:=I.list P;let#[i,o,M,_]:=I.list R;let#[#[U,T,B,E],n,p,A,O,z]:=N;let#[#[C,j,m,g],n2,c,f,w,e]:=M;subst A z f e;let e1:=r.length;let e2:=o.length;exact concat_meets #[_,p,qx] #[_,c,qx] noFill_list_add seq_list_add F.slot_list_add F.entry_list_add (F.args_list_add_2 _ _) (list_addW l b a.toArray i.toArray n n2 T j E g<|by rw[YB,YB];lia) #[p,c,?_];have S:a.toArray++i.toArray=(a++i).toArray:=by simp
 rw[S];exact#[.ref _,_,I.lnew (r.append o)<|by rw[Yr];lia,qx,q _ I.fresh]
def Ge(fa fb:Dd):DF->Option (List D):=λa=>match fa a,fb a with
 |some<|.lst xs,!.lst ys=>if xs.length+ys.length<=16777216 then !(xs++ys)else ()
 |_,_=>()
def F7(L:PDR X a fa)(K:PDR X b fb):PDO X (.BinOp a .Add b pos) (asL (Ge fa fb)):=(IE y_ L K).imp λS H Q=>un7 λP F c Y h I k=>by
 delta asL at h;cases q:Ge fa fb c with
 |none=>rw[q]at h;cases h
 |some C=>
 rw[q]at h;cases h;delta Ge at q;split at q
 .rename_i U T B A;split at q
  .rename_i J;cases q;exact#[P,F,c,_,B,I,λx R H1 j z=>#[P,R,c,_,A,I.evo j,λy O Z i w=>?_]];let s:=(I.evo j).evo i;let#[l,u,rfl,N,o]:=dE s<|z.evo i;let#[E,f,rfl,M,m]:=dE s w;exact#[l,E,u,f,qx,qx,N,M,by rwa[o.length,m.length,YV],λp g=>?_];let e:=j.trans i;exact k p O _ (e.trans<|Evo.side e.hp g) #[#[e.back I.toDHp g,(e.hp.free g).1],_,aC,o.append m]
  .cases q
 .cases q
end
def spM(K:Kq)(f:Dz):Sp:=λi H Q z=>∃P F a b o x e d,i=.ref a::b/\f o x=!(e,d)/\DHp P F H/\F a=()/\P a=()/\o.flat/\(∃u,H a=!u/\ORep1 K F o u)/\DVs K P F H x b /\
 ∀v c g,Same F c->DHp P c g->c a=()->(∃h,g a=!h/\ORep1 K c e h)->e.flat->Rep K c v d->Q v g
def mS(a:Addr)(o':OD)(d:D):RES->Prop
 |.nx ρ=>ρ[0]?=!(some<|.own o'<|!a)/\d=.non
 |.rt x ρ=>x=.v d/\ρ[0]?=!(some<|.own o'<|!a)
 |_=>False
def DInv.startM{o}N p(h:DHp P F H)(q:F a=())(j:P a=())(fl:o.flat)(l:∃u,H a=!u/\ORep1 K F o u)(r:DVs K P F H xs vs)(m:xs.length+1=p) :
  DInv K P F H (aK N.length p (.own o (!a)::xs)) (L2.start N (.ref a::vs)):=by
 exact#[h,?_,λb=>if b=a then !0 else (),λi x e=>?_]
 .delta aK L2.start;rw[Yr,Yr,Yc,Yc,YM,YM,Yq,Yq,<-r.length,m]
 .let g:=km e;cases i with
  |zero=>
   cases g;exact#[.ref a,g9 qx,a,qx,(ORep.flat fl).mpr #[#[q,j,Yk rfl],l],λb z=>by cases z;rfl]
  |succ i=>
   let#[c,v,s,f]:=r.get g;exact#[v,g9<|by simpa using s,?_];cases x with
   |own o t=>cases c
   |v d=>exact f
   |bor o=>exact f
def Fun.okM{P}{m}(F:Fun K x qual st f fd)(S:FnScope N ps (defScope st))(T:∀a o xs o' d,m o xs=!(o',d)->xs.length+1=ps.length/\o'.flat/\∃r,g (aK N.length ps.length (.own o (!a)::xs))=!r/\mS a o' d r)(j:∀cdv A outer s H E,Room k (A.deeper<|envOfC qual (defScope st) s.heap.objs.size f cdv)->
   PDS (b7 CX0 P w K mg base N qual (defScope st) f cdv A outer s H E).nox (defBody st) g):FnOk P w K mg base CX0 (k+1) f fd ps (spM K m):=by
 exact F.ok S (λU H Q E L=>?_) λcdv A outer s H U Q E hr h=>?_
 .let#[O,R,a,B,o,xs,o',d,e,M,_,_,_,_,_,J,_]:=L;rw[e,Yq,<-J.length];exact(T 0 o xs o' d M).1
 .exact#[_,j cdv A outer s H E hr,?_];let#[O,R,a,B,o,xs,o',d,rfl,M,hp,hf,hP,fl,ho,J,hQ]:=h;let#[hl,y,r,hg,z]:=T a o xs o' d M;let I:=DInv.startM N ps.length hp hf hP fl ho J hl;exact#[O,R,_,r,hg,I,?_];have fin:∀b l c i v,b[0]?=!(some<|.own o'<|!a)->Same R c->DInv K O c i b l->Rep K c v d->Q v i:=λb l c i v q e p C=>by
   let#[v',_,a',rfl,h3,h4]:=p.at q;let ea:=h4 a qx;subst ea;let#[#[Z,q2,_],u,Y,X]:=(ORep.flat y).mp h3;exact hQ v c i e p.toDHp Z #[u,Y,X] y C
  cases r with
  |nx b=>(let#[q,rfl]:=z;exact λl c i e p=>fin b l c i .non q e p .non)
  |rt x b=>(let#[rfl,q]:=z;exact λv l c i e p C=>fin b l c i v q e p C)
  |bk b=>exact z.elim
  |ct b=>exact z.elim
def gdx(F H:Hp)(a:Addr):Hp:=λb=>if b=a then () else gd F H b
def sT{b}{o}:gdx F H a b=!o↔b≠a/\F b=()/\H b=!o:=by
 delta gdx;by_cases h:b=a
 .rw[Yk h];simp[h]
 .rw[Ym h,jr];simp[h]
def Ll(s:Same F H)a:DHp (gdx F H a) F H:=#[s,λb o e=>(sT.mp e).2.2,λb o e=>(sT.mp e).2.1]
def ArgsS.dvx(I:DInv K P F H ρ σ){o}{t}(hi:ρ[i]?=!!.own o t)(hs:σ[i]?=!!.ref a)(fl:o.flat):∀{xs}{vs},ArgsS K ρ σ F xs vs->(∀x∈xs,∃d,x=.v d)->DVs K (gdx F H a) F H xs vs:=by
 intro xs vs h;induction h with
 |nil=>exact λz=>.nil
 |v h _ ih=>exact λc=>.cons qx h<|ih λx m=>c x<|Yb _ m
 |b j h1 h2 _ ih=>
  intro c;simp_all
def HW(xs:List DV):=xs.all λx=>match x with
 |.v _=>true
 |_=>false
theorem Jk(h:HW xs):∀x∈xs,∃d,x=.v d:=λx m=>by
 have:=Yl.mp h x m;grind
def uB(K:Kq)(i:Nat)(m:Dz)(g:Dv):DF->Option (DF×D):=λa=>match a[i]? with
 |some (some<|.own o t)=>if o.flat then(g a).bind λx=>if HW x then(m o x).map λr=>(a.set i<|some<|.own r.1 t,r.2)else () else ()
 |_=>()
def jv(K:Kq)(i:Nat)(m:Dz)(g:Dv):DF->Option RES:=λa=>(uB K i m g a).map λr=>.nx r.1
def yh{o}(I:DInv K P F1 H1 ρ σ)(hi:ρ[i]?=!!.own o t)(hs:σ[i]?=!!.ref a)(fl:o.flat)(x:o'.flat)(e2:Same F1 F2)(h:DHp (gdx F1 H1 a) F2 H2)(f2:F2 a=())(N:∃B,H2 a=!B/\ORep1 K F2 o' B):DInv K P F2 H2 (ρ.set i<|some<|.own o' t) σ:=by
 let#[O,C]:=I.rep;let#[v,E,b,rfl,R,M]:=C i _ hi;rw[hs]at E;cases E;let#[#[U,l,g],u,T,_]:=(ORep.flat fl).mp R;have keep:∀b u,b≠a->F1 b=()->H1 b=!u->H2 b=!u/\F2 b=():=λb u f n q=>#[h.pro b u<|sT.mpr #[f,n,q],h.dis b u<|sT.mpr #[f,n,q]]
 exact#[#[h.sub,λb u q=>(keep b u (λz=>by subst z;rw[l]at q;cases q) (I.dis b u q)<|I.pro b u q).1,λb u q=>(keep b u (λz=>by subst z;rw[l]at q;cases q) (I.dis b u q)<|I.pro b u q).2],by rw[Zp];exact I.len,O,λj z Q=>?_];rcases gq Q with⟨rfl,e,X⟩|⟨s,p⟩
 .cases e;exact#[_,hs,a,qx,(ORep.flat x).mpr #[#[f2,l,g],N],M]
 .let#[w,S,A]:=C j z p;exact#[w,S,?_];cases z with
  |v d'=>exact Rep.same e2 A
  |own od t'=>
   let#[c,rfl,y,m]:=A;exact#[c,qx,y.mono e2 λb H q f=>?_,m];let#[L,J]:=keep b H (λz=>by subst z;rw[q.2.2]at g;exact s (YG g).symm) q.1 f;exact#[L,J,q.2]
  |bor od=>(let#[c,rfl,y]:=A;exact#[c,qx,y.mono e2 λb u q f=>#[f,q]])
section
variable{k:Nat}{g:Dv}
open A in
def wQ i(G:FnOk X.prog X.w X.K X.mg X.base CX0 k f fd ps (spM X.K mM))(h:Room k X.A)(hg:Gl X x)(Z:X.mg x=!.ref f)(hk:PySem.W.keepIn X.K (.ref f))(hb:Binds X.K fd ps [])(h0:PE X e (dM i))(ha:i3 X es g)
  (hd:nDb x:=by decide) (he:starEach (e::es) X.env=(false,eval e X.env)::starEach es X.env:=by rfl) (y:(backTo pos<|starEach es X.env).any (·.1)=false:=by rfl) (s:swapsWith (.Call (.Name x p) (e::es) [] pos) () spos.line X.env=pure false:=by rfl) :
  PD1 X (.Expr (.Call (.Name x p) (e::es) [] pos) spos) (jv X.K i mM g):=
 PS.imp (iP (kS G h hg Z hk hb .nil k8 (aI h0 ha he) hd he y) s) λE Q H=>un7 λP F L r h I k=>by
  delta jv uB at h;split at h
  .rename_i M t q;split at h
   .rename_i c;cases o:g L with
    |none=>rw[o]at h;cases h
    |some l=>
     rw[o,Ya]at h;split at h
     .rename_i av;cases m:mM M l with
      |none=>rw[m]at h;cases h
      |some b=>
       rw[m]at h;cases h;let#[v,B,a,rfl,h2,h3]:=I.at q;let#[#[a1,a2,_],u,a3,a4]:=(ORep.flat c).mp h2;exact#[_,B,P,F,L,l,o,I,λR O H1 j S=>?_];let J:=I.evo j;let#[U,T]:=j.keep a u a3 a1;exact#[gdx O H1 a,O,a,R,M,l,b.1,b.2,by simp,m,Ll J.sub a,T,by delta gdx;rw[Yk qx],c,#[u,U,a4.same j.ext],S.dvx J q B c<|Jk av,λv F2 H2 N z f2 Y C rv=>?_];exact k Q F2 H2 (j.ext.trans N)<|yh J q B c C N z f2 Y
     .cases h
   .cases h
  .cases h
def RepsF.look{vs}{ds}(h:RepsF K H vs ds):ds.lookup n=!d->∃v,vs.lookup n=!v/\Rep K H v d:=
 RepsF.ind (M:=λvs ds=>ds.lookup n=!d->∃v,vs.lookup n=!v/\Rep K H v d) (λe=>by cases e) (λh _ ih e=>by
  rw[aY]at e ⊢;split at e
  .rename_i q;cases e;rw[Yk q];exact#[_,qx,h]
  .rename_i q;rw[Ym q];exact ih e) h
def RepsF.no{vs}{ds}(h:RepsF K H vs ds):ds.lookup n=()->vs.lookup n=():=
 RepsF.ind (M:=λvs ds=>ds.lookup n=()->vs.lookup n=()) (λ_=>rfl) (λ_ _ ih e=>by
  rw[aY]at e ⊢;split at e
  .cases e
  .rename_i q;rw[Ym q];exact ih e) h
def gJ(C:Addr)(n:Str):D->Option D
 |.ins C' fs=>if C'=C then fs.lookup n else ()
 |_=>()
def gH(c:Cls X.K C)(o:NoAttr X.K C n)(h:PDR X e fa)(p:attributeBase e n X.env (eval e X.env)=eval e X.env:=by rfl):PDE X (.Attribute e n pos) (d1 (gJ C n) fa):=
 (uM h p).imp λE H Q=>un7 λP F i d f I k=>by
  let#[g,q,f]:=Yx.mp f;exact#[P,F,i,g,q,I,λy B A j m=>?_];cases g with
  |ins C' fs=>
   have b:(if C'=C then fs.lookup n else ())=!d:=f;split at b
   .rename_i s;subst s;let#[a,g,l,rfl,z,x]:=uG (I.evo j) m;let#[v,w,u]:=x.look b;exact#[a,C',g,l,v,qx,z,c,o,w,k v B A j u]
   .cases b
  |_=>cases f
def qu(f:Str)(v:D):List (Str×D)->List (Str×D)
 |[]=>[(f,v)]
 |(g,x)::r=>if g=f then(g,v)::r else(g,x)::qu f v r
def RepsF.put(a:Rep K H v d){vs}{ds}(h:RepsF K H vs ds):RepsF K H (dX n v vs) (qu n d ds):=
 RepsF.ind (M:=λvs ds=>RepsF K H (dX n v vs)<|qu n d ds) (.cons a .nil) (λ{k _ _ _ _} h r ih=>by
  delta dX qu;by_cases q:k=n
  .rw[Yk q,Yk q];exact .cons a r
  .rw[Ym q,Ym q];exact .cons h ih) h
def RepsF.length{vs}{ds}(h:RepsF K H vs ds):vs.length=ds.length:=RepsF.ind (M:=λvs ds=>vs.length=ds.length) qx (λz z ih=>YW Nat.succ ih) h
def rX(C:Addr)(i:Nat)(n:Str)(fv:Dd):DF->Option RES:=λa=>match a[i]? with
 |some (some<|.own (.ins C' fs) t)=>if C'=C then(fv a).bind λd=>if fs.length<1000 then !(.nx<|a.set i<|some<|.own (.ins C<|qu n d fs) t)else () else ()
 |_=>()
open A in
def tU i(c:Cls X.K C)(w:NoAttr X.K C n)(s:PE X o (dM i))(hv:PDE X value fv)(hs:swapsWith value (!.Attribute o n pos') pos.line X.env=pure false:=by rfl) :
  PD1 X (.Assign [.Attribute o n pos'] value pos) (rX C i n fv):=PS.imp (tw s hv hs) λE m H=>un7 λP F j r h I k=>by
 delta rX at h;split at h
 .rename_i g fs t q;split at h
  .rename_i z;subst z;cases f:fv j with
   |none=>rw[f]at h;cases h
   |some d=>
    rw[f,Ya]at h;split at h
    .rename_i x;cases h;let#[v,l,a,rfl,#[#[B,L,_],u,A,b],_]:=I.at q;cases u with
     |ins C'' dx vs=>
      let#[rfl,b]:=b;exact#[P,F,j,d,f,I,λy J M e p=>#[_,l,a,g,dx,vs,qx,(e.keep a _ A B).1,c,w,by rwa[b.length],k m J _ e.ext ?_]];exact(I.evo e).mut q qx qx l #[qx,(RepsF.same e.ext b).put p]
     |_=>exact b.elim
    .cases h
  .cases h
 .cases h
def zg(C:Addr):DV->Option (List (Str×D))
 |.v (.ins C' fs)=>if C'=C then !fs else ()
 |.bor (.ins C' fs)=>if C'=C then !fs else ()
 |.bor (.obj (!C') fs)=>if C'=C then !(fs.map λp=>(p.1,p.2.dat))else ()
 |_=>()
def mL(C:Addr)(mn:Str):List DV->Bool
 |x::_=>match zg C x with
  |some fs=>(fs.lookup mn).isNone
  |none=>false
 |[]=>false
def a8(C:Addr)(mn:Str)(m:Dm)(g:Dv):=λa=>(g a).bind λx=>if mL C mn x then(m x).bind dvD else ()
end
def DVs.heap(h:DVs K P F H xs vs):DVs K P F H' xs vs:=by
 induction h with
 |nil=>exact .nil
 |@cons x _ _ _ h r _ ih=>
  exact .cons h ?_ ih;cases x with
  |v d=>exact r
  |bor o=>exact r
  |own o t=>cases h
def bz(i:Nat):DF->Option DV:=λa=>match a[i]? with
 |some (some<|.own o _)=>some<|.bor o
 |some (some<|.bor o)=>some<|.bor o
 |some (some<|.v d)=>some<|.v d
 |_=>()
def bp(s:DF->Option DV)(g:Dv):=λa=>(s a).bind λx=>(g a).map λb=>x::b
def g0:DF->Option (List DV):=λz=>![]
def Self1(K:Kq)(ρ:DF)(σ:St)(F:Hp)(x:DV)(v:V):=ArgsS K ρ σ F [x] [v]
def Self1.cons{x}(h:Self1 K ρ σ F x v)(e:Same F F')(r:ArgsS K ρ σ F' xs vs):ArgsS K ρ σ F' (x::xs) (v::vs):=by
 cases h with
 |v h _=>exact .v (h.same e) r
 |b i h1 h2 _=>exact .b i h1 h2 r
def Ih{vs}(h:All2 (λp (q:Str×FO)=>p.1=q.1/\FRep K F H ow q.2 p.2) vs fs):(fs.map λp=>(p.1,p.2.dat)).lookup n=()->vs.lookup n=():=by
 induction h with
 |nil=>exact λ_=>rfl
 |@cons p q _ _ h _ ih=>
  let#[x,v]:=p;let#[y,o]:=q;let#[e,r]:=h;cases e;intro e;rw[YI,aY]at e;rw[aY];split at e
  .cases e
  .rename_i z;rw[Ym z];exact ih e
def Self1.ins{x}(I:DInv K P F H ρ σ)(h:Self1 K ρ σ F x v)(hi:zg C x=!fs):∃a dx vs,v=.ref a/\H a=!.ins C dx vs/\∀n,fs.lookup n=()->vs.lookup n=():=by
 cases h with
 |@v d _ _ _ h _=>
  cases d with
  |ins j fs'=>
   have c:(if j=C then !fs' else ())=!fs:=hi;split at c
   .rename_i g;subst g;cases c;let#[a,dx,vs,f,e,l]:=uG I<|.inl h;exact#[a,dx,vs,f,e,λn=>l.no]
   .cases c
  |_=>cases hi
 |@b o _ _ _ i f e _=>
  cases o with
  |ins j fs'=>
   have c:(if j=C then !fs' else ())=!fs:=hi;split at c
   .rename_i g;subst g;cases c;let#[a,dx,vs,f,e,l]:=uG I<|RepS.slot I f e qx;exact#[a,dx,vs,f,e,λn=>l.no]
   .cases c
  |obj C0 fs'=>
   cases C0 with
   |none=>cases hi
   |some j=>
   have c:(if j=C then !(fs'.map λp=>(p.1,p.2.dat))else ())=!fs:=hi;split at c
   .rename_i g;subst g;cases c;let#[a,rfl,_,dx,vs,m,_,q]:=I.slot f e;exact#[a,dx,vs,qx,m,λn=>Ih q]
   .cases c
  |_=>cases hi
def Dt(K:Kq)(s:DF->Option DV):TE:=λb H Q=>∃P F a x,s a=!x/\DInv K P F H a b/\∀v e c,Evo P F H e c->Self1 K a b e x v->Q v c
def t6(X:Cx)(e:Expr)(s:DF->Option DV):=PE X e<|Dt X.K s
section
variable{k:Nat}{g:Dv}{s:DF->Option DV}
def FT i(h:PE X e (dM i)):t6 X e (bz i):=PE.imp h λg H Q=>un7 λP F j x c I k=>by
 delta bz at c;split at c
 .rename_i o t q;cases c;let#[v,a,_]:=I.at q;exact#[v,a,k v F H (Evo.refl I.toDHp)<|.b i a (.inl #[t,q]) .nil]
 .rename_i o q;cases c;let#[v,a,_]:=I.at q;exact#[v,a,k v F H (Evo.refl I.toDHp)<|.b i a (.inr q) .nil]
 .rename_i d q;cases c;let#[v,a,f]:=I.at q;exact#[v,a,k v F H (Evo.refl I.toDHp)<|.v f .nil]
 .cases c
def xS{x}(h:mL C mn (x::xs)):∃fs,zg C x=!fs/\fs.lookup mn=():=by
 delta mL at h;cases q:zg C x with
 |none=>simp[q]at h
 |some fs=>exact#[fs,qx,by simpa[q]using h]
def Fh{E}{Q}{F}{y}(h:bp s g ρ=!xs)(hs:mL C mn xs)(A:m xs=!y)(I:DInv K P F H ρ σ)(k:∀v F1 H1 F2 H2,Evo P F H F1 H1->Same F1 F2->DHp (gd F1 H1) F2 H2->DVRep K (gd F1 H1) F2 H2 vt y v->Q v H2):wx C mn (spD K m) [] E (Dt K s) (tLV K g) σ H Q:=by
 delta bp at h;cases q:s ρ with
 |none=>rw[q]at h;cases h
 |some x=>
  rw[q,Ya]at h;cases b:g ρ with
  |none=>rw[b]at h;cases h
  |some i=>
   rw[b]at h;cases h;let#[fs,J,B]:=xS hs;exact#[P,F,ρ,x,q,I,λv F1 H1 l j=>?_];let f:=I.evo l;let#[a,O,p,rfl,M,L]:=j.ins f J;exact#[a,O,p,qx,M,L _ B,P,F1,ρ,i,b,f,λT F2 H2 e z=>?_];let o:=f.evo e;exact#[gd F2 H2,F2,x::i,y,A,fF o.sub,by rw[YZ];exact(j.cons e.ext z).dvs o,λw S R N c u=>k w F2 H2 S R (l.trans e) N c u]
def zx{E}:∀σ H Q,tD K (a8 C mn m (bp s g)) σ H Q->wx C mn (spD K m) [] E (Dt K s) (tLV K g) σ H Q:=λσ H Q=>un7 λP F B d h I k=>by
 delta a8 at h;cases q:bp s g B with
 |none=>rw[q]at h;cases h
 |some J=>
  rw[q,Ya]at h;split at h
  .rename_i L;cases c:m J with
   |none=>rw[c]at h;cases h
   |some y=>
    rw[c,Ya]at h;exact Fh q L c I λv O A l j i x e p=>?_;let z:=I.evo i;let w:=z.toDHp.gd x e;cases y with
    |v d'=>cases h;exact k v l j (i.trans w) p
    |own o t=>
     cases h;let#[a,rfl,M,_]:=p;let f:=kP x M;exact k _ _ j (i.trans<|w.freeze z.toDHp _ λ_ q=>q)<|f.rep (cC λb q=>q.2) λb u q N=>by rwa[eS q]
    |bor o=>cases h
  .cases h
def nN{pl}(he:t6 X o s)(c:Cls X.K C)(l:Meth X.K C mn f)(G:FnOk X.prog X.w X.K X.mg X.base CX0 k f fd ps (spD X.K m))(j:Room k X.A)(p:Binds X.K fd ps [])(q:i3 X (e::es) g)(h:starEach (e::es) X.env=(false,eval e X.env)::starEach es X.env:=by rfl)(a:(backTo pos<|starEach es X.env).any (·.1)=false:=by rfl)(i:eval (.Call (.Attribute o mn apos) (e::es) [] pos) X.env=(do
   let b <-eval o X.env
   standAt apos.atName
   let (f,first) <-holding [b]<|getMethod b mn pl
   callWith pos f first (backTo pos<|starEach (e::es) X.env)<|backToKw pos<|keywordEach [] X.env):=by rfl):PDE X (.Call (.Attribute o mn apos) (e::es) [] pos) (a8 C mn m<|bp s g):=
 (zR he c l G j p .nil k8 q h a i).imp zx
def h9{pl}(he:t6 X o s)(c:Cls X.K C)(y:Meth X.K C mn f)(G:FnOk X.prog X.w X.K X.mg X.base CX0 k f fd ps (spD X.K m))(u:Room k X.A)(z:Binds X.K fd ps [])(q:eval (.Call (.Attribute o mn apos) [] [] pos) X.env=(do
   let b <-eval o X.env
   standAt apos.atName
   let (f,first) <-holding [b]<|getMethod b mn pl
   callWith pos f first (backTo pos<|starEach [] X.env)<|backToKw pos<|keywordEach [] X.env):=by rfl):PDE X (.Call (.Attribute o mn apos) [] [] pos) (a8 C mn m<|bp s g0):=
 (Fo he c y G u z .nil k8 q).imp λg H Q h=>by
  have:=zx (E:=E0) g H Q h;let#[P,F,j,x,L,J,I]:=this;exact#[P,F,j,x,L,J,λv U e N r=>?_];let#[a,R,fs,M,O,l,Z,T,i,Y,p,S,B]:=I v U e N r;cases p;exact#[a,R,fs,M,O,l,B [] T e (Evo.refl S.toDHp) .nil]
def iY(C:Addr)(mM:Dz)(g:Dv):=λa=>(g a).bind λx=>match mM (.ins C []) x with
 |some (o',.non)=>if o'.flat then !o' else ()
 |_=>()
def wj(M:Mk X.K C f)(G:FnOk X.prog X.w X.K X.mg X.base CX0 k f fd ps (spM X.K mM))(U:Room (k+1) X.A)(hg:Gl X x)(hm:X.mg x=!.ref C)(hb:Binds X.K fd ps [])(ha:i3 X (e::es) g)(m:nDb x:=by decide)(he:starEach (e::es) X.env=(false,eval e X.env)::starEach es X.env:=by rfl)(i:(backTo pos<|starEach es X.env).any (·.1)=false:=by rfl):PDO X (.Call (.Name x p) (e::es) [] pos) (iY C mM g):=
 (yK M G U hg hm hb .nil k8 ha m he i).imp λσ H Q=>un7 λP F B T h I k=>by
  let#[E,q,h]:=Yx.mp h;split at h
  .rename_i o' S;split at h
   .rename_i fl;cases h;exact#[P,F,B,E,q,I,λN L s o R y J c l Z=>?_];let a:=I.evo o;have sm:Same s (upd (upd s J<|.own y) y<|.ins C J []):=λb u z=>by rwa[az<|aX z c,az<|aX z l]
    exact#[gd L s,L,y,N,.ins C [],E,T,.non,by simp,S,#[a.sub.trans sm,λb u z=>sm b u<|(fF a.sub).pro b u z,(fF a.sub).dis],a.sub.free c,(fF a.sub).pro.free c,qx,#[_,aC,qx,.nil],(R.dvs a).heap,λv F2 H2 e2 j f2 Y fl' O=>?_];cases O;exact#[qx,k y F2 H2 (o.trans<|a.toDHp.gd e2 j)<|(ORep.flat fl).mpr #[#[o.back I.toDHp c,f2],Y]]
   .cases h
  .cases h
end
section
variable{κ:Type} [DecidableEq κ]
def c_(kvs:List (κ×D))(k:κ):=(kvs.find? λa=>decide<|a.1=k).map (·.2)
def fm(kvs:List (κ×D))(k:κ)(v:D):=
 if(kvs.any λa=>decide<|a.1=k) then kvs.map (λa=>if a.1=k then(a.1,v)else a)else kvs++[(k,v)]
end
def BB{k k'}{vs:List (List Key×V)}:dY ((k',v)::vs) k=if k'=k then !v else dY vs k:=by delta dY;by_cases q:k'=k<;>simp[ZT,q]
def bQ [DecidableEq κ]{k k'}{vs:List (κ×D)}:c_ ((k',v)::vs) k=if k'=k then !v else c_ vs k:=by delta c_;by_cases q:k'=k<;>simp[ZT,q]
def RepsT.val{vs}{ds}(h:RepsT K H vs ds):(dY vs k=()/\c_ ds k=())\/∃v d,dY vs k=!v/\c_ ds k=!d/\Rep K H v d:=
 RepsT.ind (M:=λvs ds=>(dY vs k=()/\c_ ds k=())\/∃v d,dY vs k=!v/\c_ ds k=!d/\Rep K H v d) (.inl #[qx,qx]) (λ{a v d vs ds} h _ ih=>by
  rw[BB,bQ];by_cases q:a=k
  .rw[Yk q,Yk q];exact .inr #[v,d,qx,qx,h]
  .rwa[Ym q,Ym q]) h
def RepsT.any{vs}{ds}(h:RepsT K H vs ds):(vs.any λa=>decide (a.1=k))=ds.any λa=>decide (a.1=k):=
 RepsT.ind (M:=λvs ds=>(vs.any λa=>decide<|a.1=k)=ds.any λa=>decide<|a.1=k) qx (λz z ih=>by rw[XA,XA,ih]) h
def RepsT.map(f:Rep K H v d){vs}{ds}(h:RepsT K H vs ds):RepsT K H (vs.map λa=>if a.1=k then(a.1,v)else a) (ds.map λa=>if a.1=k then(a.1,d)else a):=
 RepsT.ind (M:=λvs ds=>RepsT K H (vs.map λa=>if a.1=k then(a.1,v)else a)<|ds.map λa=>if a.1=k then(a.1,d)else a) .nil (λ{b c e vs ds} h _ ih=>by
  rw[YI,YI];by_cases q:b=k
  .rw[Yk<|show(b,c).1=k from q,Yk<|show(b,e).1=k from q];exact .cons f ih
  .rw[Ym<|show ¬(b,c).1=k from q,Ym<|show ¬(b,e).1=k from q];exact .cons h ih) h
def RepsT.snoc(a:Rep K H v d){vs}{ds}(h:RepsT K H vs ds):RepsT K H (vs++[(k,v)]) (ds++[(k,d)]):=
 RepsT.ind (M:=λvs ds=>RepsT K H (vs++[(k,v)])<|ds++[(k,d)]) (.cons a .nil) (λh z ih=>.cons h ih) h
def RepsT.put{vs}{ds}(a:Rep K H v d)(r:RepsT K H vs ds):RepsT K H (ij vs k v) (fm ds k d):=by
 delta ij fm;rw[r.any];split
 .exact r.map a
 .exact r.snoc a
def RepsT.length{vs}{ds}(h:RepsT K H vs ds):vs.length=ds.length:=RepsT.ind (M:=λvs ds=>vs.length=ds.length) qx (λz z ih=>YW Nat.succ ih) h
def kd:D->Option Key
 |.int i=>some<|.inl i
 |.str x=>some<|.inr x
 |_=>()
def iz:List D->Option (List Key)
 |[]=>![]
 |d::ds=>(kd d).bind λk=>(iz ds).map λr=>k::r
def jf:D->Option (List Key)
 |.tup ds=>iz ds
 |_=>()
def Reps.keys{ks}(h:Reps K H vs ds):iz ds=!ks->vs=ks.map kV:=
 Reps.ind (M:=λvs ds=>∀ks:List Key,iz ds=!ks->vs=ks.map kV) (λks e=>by cases e;rfl) (λ{v d vs ds} h _ ih ks e=>by
  let#[k,q,e]:=Yx.mp e;let#[b,a,rfl]:=YK.mp e;rw[ih _ a,YI];cases d with
  |int i=>cases q;cases h;rfl
  |str i=>cases q;cases h;rfl
  |_=>cases q) h ks
def nP{y}{ks}(a:DHp P F H)(r:Rep K F y dy)(h:jf dy=!ks):∃b,y=.ref b/\H b=!.tup (ks.map kV):=by
 cases dy with
 |tup ds=>cases r with|tup h1 h2=>exact#[_,qx,by rw[a.sub _ _ h1,h2.keys h]]
 |_=>cases h
section
variable{a i f:Expr}{fd fk:Dd}
def k_(fd fk fx:Dd):DF->Option D:=λa=>match fd a with
 |some (.dT kvs)=>(fk a).bind λy=>(jf y).bind λk=>(fx a).map λx=>(c_ kvs k).getD x
 |_=>()
open A in
theorem uY(hu:X.A.units+64<cLine)(ho:PDR X o fd)(hi:PDE X e fk)(hx:PDE X f fx)(m:M2 X o "get" apos e f cpos:=by exact#[qx,qx,qx,qx]):PDE X (.Call (.Attribute o "get" apos) [e,f] [] cpos) (k_ fd fk fx):=(Fn (by lia) ho hi hx m).imp λσ H Q=>un7 λP F b d h I k=>by
 delta k_ at h;split at h
 .rename_i c Z;let#[dy,C,h]:=Yx.mp h;let#[E,B,h]:=Yx.mp h;cases w:fx b with
 |none=>rw[w]at h;cases h
 |some N=>
  rw[w]at h;cases h;exact#[P,F,b,_,Z,I,λx F1 H1 i M=>?_];let#[p,T,rfl,h1,h2]:=xY (I.evo i) M;exact#[p,qx,.inr #[T,.inl h1],P,F1,b,_,C,I.evo i,λy F2 H2 j Y=>#[P,F2,b,_,w,(I.evo i).evo j,λz l O g U=>?_]];let I3:=((I.evo i).evo j).evo g;let#[p',S,ep,L,J]:=xY I3<|(M.evo j).evo g;cases ep;let#[q,rfl,h3]:=nP g.hp (Y.same g.ext) B;exact#[_,DGet.t L h3,?_];let a:=(i.trans j).trans g;rcases J.val with⟨u,s⟩|⟨v,d',u,s,R⟩
  .rw[u];exact k _ l O a<|by rwa[s]
  .rw[u];exact k _ l O a<|by rwa[s]
 .cases h
def Ai(a:Bool):D->D->Option D
 |y,.dT kvs=>(jf y).map λk=>.bl<|xor a (c_ kvs k).isSome
 |_,_=>()
def As:PDO X (.Dict [] [] pos) (λz=>!.dT []):=CI.imp λb H Q=>un7 λP F c o a I k=>by
 cases a;exact λp h=>k p F _ (Evo.side I.toDHp h) #[#[h,(I.toDHp.free h).1],_,aC,.nil]
def o9(j:Nat)(fk fv:Dd):DF->Option RES:=λa=>match a[j]? with
 |some (some<|.own (.dT kvs) t)=>(fv a).bind λv=>(fk a).bind λy=>(jf y).bind λk=>if kvs.length<16777216 then !(.nx<|a.set j<|some<|.own (.dT<|fm kvs k v) t)else ()
 |_=>()
def zG j(Z:X.A.units+64<cLine)(L:PE X o (dM j))(hi:PDE X i fk)(hv:PDE X e fv)(hs:swapsWith e (!.Subscript o i pos') pos.line X.env=pure false:=by rfl):PD1 X (.Assign [.Subscript o i pos'] e pos) (o9 j fk fv):=
 PS.imp (zi (by lia) L hi hv hs) λE z H=>un7 λP F c r h I k=>by
  delta o9 at h;split at h
  .rename_i m t q;cases f:fv c with
   |none=>rw[f]at h;cases h
   |some dv=>
   rw[f,Ya]at h;cases l:fk c with
   |none=>rw[l]at h;cases h
   |some O=>
   rw[l,Ya]at h;cases g:jf O with
   |none=>rw[g]at h;cases h
   |some U=>
   rw[g,Ya]at h;split at h
   .rename_i M;cases h;let#[v,s,p,rfl,#[#[R,a2,_],u,Q,b],_]:=I.at q;cases u with
    |dT vs=>
     exact#[P,F,c,_,f,I,λv T H1 x C=>#[_,s,P,T,c,_,l,I.evo x,λy S H2 w B=>?_]];let a:=x.trans w;let#[J,Y]:=a.keep p _ Q R;let#[b',rfl,N]:=nP a.hp B g;exact#[p,_,qx,DPut.t J N<|by rwa[YV,b.length],k z S _ a.ext ?_];exact(I.evo a).mut q qx qx s<|(RepsT.same a.ext b).put<|C.same w.ext
    |_=>exact b.elim
   .cases h
  .cases h
end
open PySem.W
def nR(prog:Program)(w:World)(A:Around)(Q:Kv)(vs:List Value)(s1:Shared):=
 vs.length<=16777216/\∃(f:SortKind) (c:Array Value->Prop),(∀o,c o->o.size=vs.length)/\(vs.length<2->c vs.toArray) /\
  (2<=vs.length->∀h,(∀b u,s1.heap.get? b=!u->h.get? b=!u)->∀Q (E:Kv),Q f {s1 with heap:=h }->wpAny (model prog w) A.in1.in1 (keyKind' vs.toArray) Q E {s1 with heap:=h }) /\
  (2<=vs.length->∀h,(∀b u,s1.heap.get? b=!u->h.get? b=!u)->∀E,Gq prog w A.in1.in1 E f vs c {s1 with heap:=h }) /\
  ∀o,c o->∀(a:Addr) h e,(∀b u,s1.heap.get? b=!u->h.get? b=!u)->s1.heap.objs.size<=a->h.get? a=!(seqObj "list" o e)->Q (.ref a) {s1 with heap:=h }
def jC(j:wpAny (model prog w) A.in1 (collect v) (nR prog w A Q) E s):wpAny (model prog w) A (call (.builtin "sorted") [v]) Q E s:=by
 exact Calls.call_function_entry kind_sorted plain_sorted entry_sorted (args_sorted1 _) ?_;delta Builtin.«sorted»;exact Yd<|Yi ?_;exact Yd<|ZE j (λf a p=>?_) λt t e=>e;let#[h64,y,J,o,I,B,H,h]:=p;exact Yd<|wpAny_newList ?_ (by rw[YV];lia);have g:(a.heap.push _).get? a.heap.objs.size=!(seqObj "list" f.toArray 0):=Ys _ qx;have keep:∀b u,a.heap.get? b=!u->(a.heap.push<|seqObj "list" f.toArray 0).get? b=!u:=λb u q=>Yf _ q
 have l:∀c:Heap,(∀b u,b≠a.heap.objs.size->(a.heap.push _).get? b=!u->c.get? b=!u)->∀b u,a.heap.get? b=!u->c.get? b=!u:=λc k b u e=>
  k b u (Yy<|Yv e)<|keep b u e
 exact Yd<|Zs<|Vd slot_list_sort #[_,g,qx] entry_list_sort ?body<|args_list_sort _
 case body=>
  exact qM g h64 y o I (λx c k Q q=>B x c (l c k) Q _ q) (λx c k=>H x c (l c k) _) λout z=>#[_,qx,?_]
  let#[e,C]:=sortedHeap_at (out:=out) g;exact Yi #[_,qx,h out z a.heap.objs.size _ e (λb u q=>?_) (Yp _) C];let i:=Yv q;show(sortedHeap _ a.heap.objs.size f out).get? b=!u;rw[sortedHeap_old (Yy i)<|by rw[size_push'];exact ZP i];exact keep b u q
theorem qT{l}{vs}{Q:Kl}(e:IsTup s.heap l vs.toArray)(h:Q vs {s with heap:=(s.heap.push<|seqObj "list" #[[]] 0).update s.heap.objs.size<|Obj.mapSeq (·++vs.toArray)})(hsz:vs.length<=sizeLine):wpAny (model prog w) A (collect<|.ref l) Q E s:=by
 let#[o,c,g,n,f]:=id e;exact Yd<|wpAny_runValue<|Zy entry_proto_collect' ?_;exact Yd<|wpAny_newList<|Yi #[XL _<|by decide+kernel,Zy entry_list_iadd' ?_];show wpAny _ _ (Builtin.List.listExtendWith _ _ _) _ _ {s with heap:=s.heap.push _};have a:(s.heap.push<|seqObj "list" #[[]] 0).get? l=!o:=Yf _ c;exact Yd<|wpAny_typeOf (T := "tuple") #[o,a,g] ?_;have b:(Value.type "tuple" == Value.type "tuple"):=by rfl
 rw[Yk<|by rw[b];simp];exact Yd<|listItems_at a f ?_;exact Yd<|listItems_at (Ys _ qx) qx ?_;exact Yd<|listUpdate_at (Ys _ qx) qx ?_ (YQ _) (by show(#[[]]++vs.toArray).size<=sizeLine+1;simp;lia);exact Yi ?_
 exact Yd<|wpAny_load (get?_update_seq (Ys _ qx) _) ?_;show wpAny _ _ (pure ((#[[]])++vs.toArray).toList) Q E _;rw[show((#[[]]:Array Value)++vs.toArray).toList=vs by simp];exact Yi h
def je{vs:List Value}{b}{u}(q:h.get? b=!u):((h.push (seqObj "list" #[[]] 0)).update h.objs.size (Obj.mapSeq (·++vs.toArray))).get? b=!u:=by let a:=Yv q;rwa[Xb _ _ _ _<|Yy a,XT _ _ _<|Yy a]
def sk:D->Bool
 |.int _=>true
 |.str _=>true
 |.tup (_::_)=>true
 |_=>false
def fk:D->Bool
 |.int _=>true
 |.str _=>true
 |.tup _=>true
 |_=>false
def zj:D->Bool
 |.tup (d::_)=>fk d
 |_=>true
def bx(ds:List D):=decide (ds.length<64)&&ds.all (okN 28)&&(ds.all λx=>ds.all λy=>aA x y)&&ds.all sk&&ds.all zj
def mZ(ds:List D):=Cmps 28 ds/\(∀d∈ds,sk d)/\∀d∈ds,zj d
def kF(h:bx ds):ds.length<64/\mZ ds:=by delta bx at h;simp only[Yn,YS]at h;let#[#[#[#[j,i],g],f],e]:=h;exact#[j,#[λd a=>Yl.mp i d a,λx c y b=>Yl.mp (Yl.mp g x c) y b],λd a=>Yl.mp f d a,λd a=>Yl.mp e d a]
def dAt(ds:List D)(i:Nat):=ds.getD i<|ds.headD<|.int 0
theorem nV(h:ds≠[])i:dAt ds i∈ds:=by
 delta dAt;cases ds with
 |nil=>exact absurd qx h
 |cons d r=>
  rw[YU];grind
def ui(h:i<ds.length):ds[i]?=!dAt ds i:=by delta dAt;rw[YU,Yh h];rfl
def C1(a:Cmps n ds):Ord λi j=>ltD (dAt ds i) (dAt ds j):=by
 by_cases b:ds=[]
 .subst b;have e:∀i,dAt [] i=.int 0:=λi=>by simp[dAt]
  exact#[λi j h=>?_,λi j k f c=>?_]
  .rw[e,e]at h;simp[ltD]at h
  .rw[e,e];simp[ltD]
 .let m:=λi=>nV b i
  exact#[λi j h=>?_,λi j k f c=>?_]
  .exact(gD n _ _ (a.1 _<|m i) (a.1 _<|m j)<|a.2 _ (m i) _<|m j).as h
  .exact rh (a.1 _<|m i) (a.1 _<|m j) (a.1 _<|m k) (a.2 _ (m i) _<|m j) (a.2 _ (m j) _<|m k) (a.2 _ (m i) _<|m k) (a.2 _ (m j) _<|m i) (a.2 _ (m k) _<|m j) (a.2 _ (m k) _<|m i) f c
theorem yi(m:Cmps n ds){p}(b:PermN ds.length p)(l:Ris (λi j=>ltD (dAt ds i) (dAt ds j)) p ds.length):p.toList.map (dAt ds)=aQ ds:=by
 exact qr ?_ m ?_
 .have g:(p.toList.map _).Perm ((List.range ds.length).map<|dAt ds):=b.perm.map _;have o:(List.range ds.length).map (dAt ds)=ds:=by
   apply Xk;intro i;rw[Yw];by_cases h:i<ds.length
   .rw[Xa h,ZF,ui h]
   .rw[Zm<|by rw[Zw];lia,Zm<|by lia];rfl
  rwa[o]at g
 .rw[Xl,XZ];intro i j f c a;let q:=b.size;rw[Zi]at f c;have:=l i j (ZO a) (by lia);simp_all
theorem Reps.perm(r:Reps K H vs ds)(a:ds≠[]):∀(l:List Nat),(∀i∈l,i<ds.length)->Reps K H (l.map λi=>vs.getD i .non) (l.map (dAt ds))
 |[],_=>.nil
 |i::l,h=>by
  let#[v,f,c]:=r.get<|ui<|h i Ye;have e:vs.getD i .non=v:=by rw[YU,f];rfl
  rw[YI,YI];rw[e];exact .cons c<|Reps.perm r a l λj b=>h j<|Yb _ b
theorem Vals.perm(r:Vals vs us):∀(l:List Nat),(∀i∈l,i<vs.length)->Vals (l.map λi=>vs.getD i .non) (l.map λi=>us.getD i Value.none)
 |[],_=>.nil
 |i::l,h=>by
  let a:=h i Ye;let#[u,e,c]:=r.get<|Yh a;have g:vs.getD i .non=vs[i]:=by rw[YU,Yh];rfl
  have f:us.getD i Value.none=u:=by rw[YU,e];rfl
  rw[YI,YI];rw[g,f];exact .cons c<|Vals.perm r l λj b=>h j<|Yb _ b
def tyD:D->Value
 |.int _=>.type "int"
 |.str _=>.type "str"
 |_=>.type "tuple"
def Rep.ty(I:Inv X pz σ H s)(h:Rep X.K H v d)(c:fk d)(r:RelV v u)M:Looks M s.heap (typeOf u) (tyD d):=by
 cases d with
 |int i=>cases h;let#[t,rfl]:=(show ∃t,u=Value.int _ t from r);exact Looks.of_pure qx
 |str i=>cases h;let#[t,rfl]:=(show ∃t,u=Value.str _ t from r);exact Looks.of_pure qx
 |tup ds=>
  cases h with
  |tup h1 h2=>
   cases(show u=Value.ref _ from r);let#[a,g,#[o,b,e,n,j],_]:=I.tuple<|SqT.of h1;have:=(Looks.ld (M:=M) (part:=()) b).andThen (f:=λo=>pure o.cls) .now;rwa[e]at this
 |_=>cases c
def yq{x}(h:aA x y)(hx:fk x):tyD x=tyD y:=by
 rcases bn h with⟨i,j,rfl,rfl⟩|⟨i,j,rfl,rfl⟩|⟨i,j,rfl,rfl⟩|⟨i,j,rfl,rfl,_⟩
 .rfl
 .cases hx
 .rfl
 .rfl
def qz:List D->SortKind
 |.tup (d::_)::_=>tuples'<|tyD d != .type "tuple"
 |_=>oneType'
def xl(I:Inv X pz σ H s):∀{vs}{ds}{us},Reps X.K H vs ds->Vals vs us->(∀d∈ds,∃x r,d=.tup (x::r)/\fk x)->∀T:Value,(∀x r,.tup (x::r)∈ds->tyD x=T)->
  ∃fs:List Value,KatTups s.heap us fs/\fs.length=us.length/\∀M,∀v∈fs,Looks M s.heap (typeOf v) T:=by
 intro vs ds us h;exact Reps.ind (M:=λvs ds=>∀us:List Value,Vals vs us->(∀d∈ds,∃x r,d=.tup (x::r)/\fk x)->∀T:Value,(∀x r,.tup (x::r)∈ds->tyD x=T) ->     ∃fs:List Value,KatTups s.heap us fs/\fs.length=us.length/\∀M,∀v∈fs,Looks M s.heap (typeOf v) T) (λus r k k k=>by cases r;exact#[[],.nil,qx,λk k h=>by cases h]) (λh k ih us g b T c=>by
  cases g with
  |cons r t=>
  let#[x,f,rfl,l]:=b _ Ye;let#[fs,z,y,w]:=ih _ t (λd m=>b d<|Yb _ m) T λx r m=>c x r<|Yb _ m
  cases h with
  |tup h1 h2=>
   cases(show _=Value.ref _ from r);let#[j,e,#[o,p,q,n,a],_]:=I.tuple<|SqT.of h1;cases h2 with
   |cons u B=>
    cases e with
    |cons i A=>
     exact#[_::fs,KatTups.cons p q a (by simp;rfl) z,by rw[Yq,Yq,y],λM v hv=>?_];rcases Yt.mp hv with rfl|hv
     .rw[<-c x f Ye];exact u.ty I l i M
     .exact w M v hv) h us
def sS(h:sk d)(a:ju d=false):fk d:=by cases d<;>first|rfl|cases h|cases a
theorem zL(I:Inv X pz σ H s)(r:Reps X.K H vs ds)(q:Vals vs us)(ok:mZ ds)(h2:2<=us.length){Q}(w:Q (qz ds) s):wpAny M A (keyKind' us.toArray) Q E s:=by
 let#[L,p,C]:=ok;let R:=r.length;let l2:=q.length;cases ds with
 |nil=>rw[Ze]at R;lia
 |cons d B=>
  have f:d∈d::B:=Ye;cases g:ju d with
  |true=>
   cases d with
   |tup xs=>
    cases xs with
    |nil=>have:=p _ f;cases this
    |cons x O=>
     let S:=C _ f;have all:∀c∈(D.tup (x::O)::B),∃y b,c=.tup (y::b)/\fk y/\tyD y=tyD x:=λc m=>by
      let a:=L.2 _ f _ m;rcases bn a with⟨i,j,e,_⟩|⟨i,j,e,_⟩|⟨i,j,e,_⟩|⟨i,j,e,z,o⟩
      .cases e
      .cases e
      .cases e
      .cases e;subst z;cases j with
       |nil=>have:=p _ m;cases this
       |cons y b=>
        rw[ba,Yn]at o;exact#[y,b,qx,C _ m,(yq o.1 S).symm]
     let#[fs,f1,f2,Z]:=xl I r q (λc m=>by let#[y,b,e,h,_]:=all c m;exact#[y,b,e,h]) (tyD x) λy b m=>by
      let#[y',P,e,_,h]:=all _ m;cases e;exact h
     exact kat_kind f1 (by lia) (Z M) (by cases x<;>rfl) w
   |_=>cases g
  |false=>
   let J:=sS (p d f) g;have e:qz (d::B)=oneType':=by cases d<;>first|rfl|cases g
   rw[e]at w;have Y:∀u∈us,Looks M s.heap _ (tyD d):=λu T=>by
    let#[i,U,eu]:=Zj T;have l:i<vs.length:=by lia
    let#[u',N,z]:=q.get<|Yh l;rw[Yh U,eu]at N;cases N;let#[c,e3,e4]:=r.getV<|Yh l;let m:=YT e3;let a:=L.2 _ f _ m;rw[yq a J];exact e4.ty I ?_ z M;exact sS (p c m) ?_;rcases bn a with⟨i,j,rfl,rfl⟩|⟨i,j,rfl,rfl⟩|⟨i,j,rfl,rfl⟩|⟨i,j,rfl,rfl,_⟩
    .rfl
    .rfl
    .rfl
    .cases g
   exact kas_kind h2 Y ?_ ?_ w
   .cases d<;>first|rfl|(simp[fk]at J;done)|(simp[ju]at g;done)
   .cases d<;>rfl
theorem FF{b}{Q:Kb}{n1 n2}:∀{us f}{ds es} i,LexOk false A s us f ds es->(b=true->i=0->∀u j d e o wr y er,us=u::o->f=j::wr->ds=d::y->es=e::er->∀(Q:Kb) (E:Kv),Q (ltD d e) s->wpAny (model prog w) A (oneLt' true u j) Q E s)->
  us.length+n2=f.length+n1->Q (dN ds es) s->KatLex prog w A b (decide<|n1<n2) Q (us.zip f) i s:=by
 intro us f ds es i h;induction h generalizing i with
 |@nl f es hl=>
  intro _ g a;rw[Ze]at g;cases es with
  |nil=>
   rw[Ze]at hl;rwa[YD<|by lia]
  |cons c r=>
   rw[Yq]at hl;rwa[YR<|by lia]
 |@nr vs ds hl=>
  intro _ g a;rw[Ui];rw[Ze]at g;cases ds with
  |nil=>
   rwa[YD<|by lia]
  |cons c r=>
   rwa[YD<|by lia]
 |@cons v j d e _ _ _ _ p l B ih=>
  intro x g a;rw[Yq,Yq]at g;exact kat_cons<|p prog w _ _ ?_;cases q:eqd d e with
  |true=>
   rw[dN,Yk q]at a;exact kat_yes<|ih (i+1) (λt z=>by lia) (by lia) a
  |false=>
   rw[dN,Ym<|by rw[q];exact Yj]at a;exact kat_no ?_;cases m:(b&&i == 0)with
   |true=>
    rw[Yn]at m;exact x m.1 (by simpa using m.2) _ _ _ _ _ _ _ _ qx qx qx qx _ _ a
   |false=>exact kat_one _ _<|l q prog w _ _ a
def D7{x y}{d e}(h1:Rep X.K H x d)(h2:Rep X.K H y e)(c:aA d e)(hd:fk d)(g:ju d=false)(b:RelV x u)(a:RelV y v){Q:Kb}(h:Q (ltD d e) s):wpAny (model prog w) A (oneLt' true u v) Q E s:=by
 rcases bn c with⟨i,j,rfl,rfl⟩|⟨i,j,rfl,rfl⟩|⟨i,j,rfl,rfl⟩|⟨i,j,rfl,rfl,_⟩
 .cases h1;cases h2;let#[t,rfl]:=(show ∃t,u=Value.int _ t from b)
  let#[f,rfl]:=(show ∃t,v=Value.int _ t from a)
  exact oneLt_int<|by rw[ltD]at h;exact h
 .cases hd
 .cases h1;cases h2;let#[t,rfl]:=(show ∃t,u=Value.str _ t from b)
  let#[f,rfl]:=(show ∃t,v=Value.str _ t from a)
  exact oneLt_str<|by rw[ltD]at h;exact h
 .cases g
theorem D2(I:Inv X pz σ H s)(r:Reps X.K H vs ds)(B:Vals vs us)(ok:mZ ds)(hu:A.units+60<cLine){C:Kb}(hi:i<us.length)(hj:j<us.length)(P:C (ltD (dAt ds i) (dAt ds j)) s):kas_ask prog w A (qz ds) us i j C s:=by
 let#[l,J,hf]:=ok;let l1:=r.length;let l2:=B.length;let#[v,e1,T]:=r.get<|ui (show i<ds.length by lia);let#[v',e2,S]:=r.get<|ui (show j<ds.length by lia);let#[u,e3,Z]:=B.get e1;let#[R,e4,Y]:=B.get e2;have p:ds≠[]:=λz=>by rw[z,Ze]at l1;lia
 let m:=nV p i;let U:=nV p j;let g:=l.2 _ m _ U;delta kas_ask;have g1:us.getD i Value.none=u:=by rw[YU,e3];rfl
 have g2:us.getD j Value.none=R:=by rw[YU,e4];rfl
 rw[g1,g2];generalize hx:dAt ds i=x,hy:dAt ds j=y at *;cases o:ju x with
 |false=>
  have e:qz ds=oneType':=by
   cases ds with
   |nil=>exact absurd qx p
   |cons d dr=>
    have:=l.2 _ m d Ye;rcases bn this with⟨i,j,rfl,rfl⟩|⟨i,j,rfl,rfl⟩|⟨i,j,rfl,rfl⟩|⟨i,j,rfl,rfl,_⟩
    .rfl
    .rfl
    .rfl
    .cases o
  rw[e,keyLt'_oneType];exact D7 T S g (sS (J _ m) o) o Z Y P
 |true=>
  cases x with
  |tup xs=>
   cases xs with
   |nil=>have:=J _ m;cases this
   |cons q xr=>
    rcases bn g with⟨_,_,e,_⟩|⟨_,_,e,_⟩|⟨_,_,e,_⟩|⟨xs',ys,e,rfl,h⟩
    .cases e
    .cases e
    .cases e
    .cases e;have ek:qz ds=tuples' (tyD q != .type "tuple"):=by
      cases ds with
      |nil=>exact absurd qx p
      |cons d dr=>
       have:=l.2 _ m d Ye;rcases bn this with⟨_,_,e,_⟩|⟨_,_,e,_⟩|⟨_,_,e,_⟩|⟨_,zs,e,rfl,hz⟩
       .cases e
       .cases e
       .cases e
       .cases e;cases zs with
        |nil=>have:=J _ Ye;cases this
        |cons z0 zr=>
         rw[ba,Yn]at hz;show tuples' _=_;rw[yq hz.1<|hf _ m]
     rw[ek];cases T with
     |tup a1 a2=>
      cases S with
      |tup b1 b2=>
       cases(show u=Value.ref _ from Z);cases(show R=Value.ref _ from Y);let#[its1,b,#[o1,M,hc1,n1,O],_]:=I.tuple<|SqT.of a1;let#[its2,a,#[o2,L,hc2,n2,N],_]:=I.tuple<|SqT.of b1;let oi:=l.1 _ m;let oj:=l.1 _ U;let f:=Reps.lex I 27 A (by lia) (Rep.le (c:=false) I 27 A<|by lia) a2 b2 (bX oi) (bX oj) h b a;exact kat_lt M O L N ?_;simp[YB];exact FF 0 f (λhb t u0 w0 d0 e0 ur wr dr er q1 q2 q3 q4 Q E hq=>?_) (by lia) (by rwa[ltD]at P);subst q1 q2 q4;cases q3;cases a2 with
       |cons a3 a4=>
        cases b2 with
        |cons b3 b4=>
         cases b with
         |cons c1 c2=>
          cases a with
          |cons c3 c4=>
           rw[ba,Yn]at h;exact D7 a3 b3 h.1 (hf _ m) ?_ c1 c3 hq;cases q<;>first|rfl|(simp[tyD]at hb)
  |_=>cases o
theorem vd(I:Inv X pz σ H s)(r:Reps X.K H vs ds)(g:Vals vs us)(ok:bx ds)(U:X.A.units+64<cLine)(S:∀a (p:List Nat) s',H a=()->(∀i∈p,i<ds.length)->p.length=ds.length->p.map (dAt ds)=aQ ds->Inv X pz σ (upd H a<|.lst<|p.map λi=>vs.getD i .non) s'->Q (.ref a) s'):nR X.prog X.w X.A Q us s:=by
 let#[Y,ok]:=kF ok;let B:=ok.1;let m:=r.length;let L:=g.length;exact#[by lia,qz ds,Srt _ us,λo #[p,y,_,e]=>by rw[e,yR,YB,Yc,Zi,y.size],Bq<|C1 B,λJ M k Q E q=>zL (I.kept k) r g ok J q,λJ M k E=>Ez (C1 B) J (by lia) λi j C c R O=>?_,λo P a M e k b f=>?_]
 .have u:X.A.in1.in1.units+60<cLine:=by show X.A.units+1+1+60<cLine;lia
  exact D2 (I.kept k) r g ok u c R O
 .let#[p,y,N,rfl]:=P;have h:PermN ds.length p:=by rwa[<-m,L]
  have x:Ris (λi j=>ltD (dAt ds i)<|dAt ds j) p ds.length:=by rwa[<-m,L]
  let T:=yi B h x;have bd:∀i∈p.toList,i<ds.length:=λi c=>Zg.mp<|h.perm.mem_iff.mp c
  let z:=I.hok.fresh b;have l:p.toList.length=ds.length:=by rw[Zi];exact h.size
  exact S a p.toList _ z bd l T<|I.laid k b #[?_,p.toList.map λi=>us.getD i Value.none,e,Vals.perm g p.toList λi c=>by rw[m];exact bd i c,?_]
  .rw[Yc,l,YV];lia
  .exact f
def wO(y:X.A.units+64<cLine):CallR X (.builtin "sorted") (λxs H Q=>∃a vs ds,xs=[.ref a]/\(SqL X.K H a vs\/SqT X.K H a vs)/\Reps X.K H vs ds/\bx ds/\∀l (p:List Nat),H l=()->(∀i∈p,i<ds.length)->p.length=ds.length->p.map (dAt ds)=aQ ds->Q (.ref l) (upd H l (.lst (p.map λi=>vs.getD i .non)))):=by
 intro x s m H xs E Q I r h;let#[a,vs,ds,rfl,hq,z,ok,q]:=h;let#[u,rfl,o]:=fE r;cases o;exact jC ?_;have fin:∀c:List Value,Vals vs c->nR X.prog X.w X.A (EP X x m Q) c {s with heap:=(s.heap.push _).update s.heap.objs.size<|Obj.mapSeq (·++c.toArray)}:=λc f=>
  vd (I.kept λb u e=>je e) z f ok y λl p J B b1 b2 b3 C=>#[.ref l,_,C,qx,q l p B b1 b2 b3]
 rcases hq with hq|hq
 .let#[c,f,g,j]:=I.list hq;exact collect_list g.isList (fin c f)<|by rwa[<-f.length]
 .let#[c,f,g,j]:=I.tuple hq;exact qT g (fin c f)<|by rwa[<-f.length]
def nC(fa:Dd):=λb=>(fa b).bind λd=>(dJ d).bind λa=>if bx a then !aQ a else ()
def iB(J:X.A.units+64<cLine)(M:Gl X "sorted")(L:X.mg "sorted"=())(f:PDR X e fa)(hs:starEach [e] X.env=[(false,eval e X.env)]:=by rfl)(o:(backTo pos (starEach [] X.env)).any (·.1)=false:=by rfl):PDO X (.Call (.Name "sorted" p) [e] [] pos) (asL<|nC fa):=
 (dB (wO J) M L ji (aI f bf hs) (by decide) (by decide) hs o).imp λN H Q=>un7 λP F z O h I k=>by
  delta asL nC at h;cases f:fa z with
  |none=>rw[f]at h;cases h
  |some w=>
  rw[f,Ya]at h;cases c:dJ w with
  |none=>rw[c]at h;cases h
  |some b=>
  rw[c,Ya]at h;split at h
  .rename_i ok;cases h;exact#[P,F,z,w,f,I,λx y E j B=>?_];let m:=I.evo j;have fin:∀a,Reps X.K y a b->∀l (p:List Nat),E l=()->(∀i∈p,i<b.length)->p.length=b.length->p.map _=aQ b->Q _ (upd E l<|.lst<|p.map λi=>a.getD i .non):=λa r l p s b1 b2 b3=>by
    exact k l y _ (j.trans<|Evo.side j.hp s) #[#[j.back I.toDHp s,(j.hp.free s).1],_,aC,?_];by_cases C:b=[]
    .subst C;have:p=[]:=Zl.mp b2;rw[this];exact .nil
    .rw[<-b3];exact r.perm C p b1
   cases w with
   |lst ds'=>
    cases c;let#[q,a,rfl,u,g]:=dE m B;exact#[q,a,b,qx,.inl u,g.same m.sub,ok,fin a g]
   |tup ds'=>
    cases c;let#[q,a,rfl,u,g]:=kL m B;exact#[q,a,b,qx,.inr u,g.same m.sub,ok,fin a g]
   |_=>cases c
  .cases h
end L2
namespace L2
open PySem PySem.Spec PyProof.Rows
def jX{α:Type}(xs:List α)(lo hi:Option Int):=(xs.drop<|HT.sIx xs.length 0 lo).take<|HT.sIx xs.length xs.length hi-HT.sIx xs.length 0 lo
def Reps.cut(r:Reps K F vs ds)lo hi:Reps K F (Aq vs lo hi) (jX ds lo hi):=by delta Aq jX;rw[r.length];exact(r.drop _).take _
def tOI(K:Kq)(f:DF->Option (Option Int)):TO:=λe H Q=>∃P F a b,f a=!b/\DInv K P F H a e/\∀g c,Evo P F H g c->Q b c
def PDB(X:Cx)(e:Option Expr)(f:DF->Option (Option Int)):=PO X e<|tOI X.K f
def bNo:DF->Option (Option Int):=λz=>!()
def bI(f:Dd):DF->Option (Option Int):=λa=>match f a with
 |some (.int i)=>some<|!i
 |_=>()
section
variable{a:Expr}{lo hi:Option Expr}{fl fh:DF->Option (Option Int)}
def PO.imp{t t'}{e}(h:PO X e t)(i:∀σ H Q,t' σ H Q->t σ H Q):PO X e t':=λp s σ H Q I q=>h p s σ H Q I<|i σ H Q q
def uC:PDB X () bNo:=PO.imp G_ λa H Q=>un7 λP F c b h I k=>by
 cases h;exact k F H<|Evo.refl I.toDHp
open A in
def sG{f:Dd}(h:PDE X e f):PDB X (!e) (bI f):=PO.imp (FG h) λm H Q=>un7 λP F c b a I k=>by
 delta bI at a;split at a
 .rename_i i q;cases a;exact#[P,F,c,_,q,I,λv l j g r=>?_];cases r;exact#[i,qx,k l j g]
 .cases a
def slL(fe:Dd)(fl fh:DF->Option (Option Int)):DF->Option (List D):=λa=>match fe a with
 |some (.lst xs)=>(fl a).bind λl=>(fh a).map λh=>jX xs l h
 |_=>()
def mE(he:PDR X e fe)(A:PDB X lo fl)(B:PDB X hi fh):PDO X (.Subscript e (.Slice lo hi () p2) pos) (asL (slL fe fl fh)):=(wF Gj he A B).imp λM H Q=>un7 λP F b O c I k=>by
 delta asL at c;cases q:slL fe fl fh b with
 |none=>rw[q]at c;cases c
 |some y=>
 rw[q]at c;cases c;delta slL at q;split at q
 .rename_i N w;cases g:fl b with
  |none=>rw[g]at q;cases q
  |some l=>
  rw[g,Ya]at q;cases f:fh b with
  |none=>rw[f]at q;cases q
  |some h=>
  rw[f]at q;cases q;exact#[P,F,b,_,w,I,λx L T m u=>#[P,L,b,l,g,I.evo m,λK S j=>#[P,K,b,h,f,(I.evo m).evo j,λJ R o=>?_]]];let a:=(m.trans j).trans o;let#[z,s,rfl,E,C]:=dE (I.evo a)<|(u.evo j).evo o;exact#[z,s,qx,E,λp i=>k p J _ (a.trans<|Evo.side a.hp i) #[#[a.back I.toDHp i,(a.hp.free i).1],_,aC,C.cut l h]]
 .cases q
def Ow:V->Option Int->Option Int->Hp->VK->Prop:=λx lo h H Q=>∃z,x=.str z/\z.length<=sizeLine/\Q (.str<|Txt.slice z lo h) H
def yE{o}(h:IsPart v o):∃l:Option (Int×Tok),v=partValue l/\l.map (·.1)=o:=by
 cases h with
 |none=>exact#[(),qx,qx]
 |int i t=>exact#[!(i,t),qx,qx]
def KA:SlR X Ow:=by
 intro B s o H x v y w lo b A Q I Pd i f p h;let#[z,rfl,g,q]:=h;let a:=Txt.slice_le z lo b;let#[t,rfl]:=Pd;let#[l,rfl,m]:=yE f;let#[u,rfl,j]:=yE p;exact#["str",_,F.slot_str_getitem.lookup,typeIs_str s z t,wpAny_getItem_str_slice (st:=()) i qx ?_];have e:slicePicked z l u ()=Builtin.Str.strSliceIndices lo b 1 z.length:=by delta slicePicked;rw[m,j];rfl
 delta sliceMade;rw[e];delta Txt.slice at q a;show(if(1 == 1&&(Builtin.Str.strSliceIndices lo b 1 z.length).length == z.length) then Made.val (.str z t)else Made.str #[((Builtin.Str.strSliceIndices lo b 1 z.length).filterMap _).toArray]).post _ _;split
 .rename_i c;rw[Yk c]at q;exact#[.str z,H,I,#[t,qx],q]
 .rename_i c;rw[Ym c]at q a;exact#[YF a g,#[.str _,H,I.tok _,#[_,qx],q]]
def slS(fe:Dd)(fl fh:DF->Option (Option Int)):DF->Option D:=λa=>match fe a with
 |some (.str x)=>if x.length<=16777216 then(fl a).bind λl=>(fh a).map λh=>.str (Txt.slice x l h)else ()
 |_=>()
open A in
def rR(he:PDR X e fe)(m:PDB X lo fl)(o:PDB X hi fh):PDE X (.Subscript e (.Slice lo hi () p2) pos) (slS fe fl fh):=(wF KA he m o).imp λA H Q=>un7 λP F a d q I k=>by
 delta slS at q;split at q
 .rename_i x i;split at q
  rotate_left
  .cases q
  rename_i j;cases c:fl a with
  |none=>rw[c]at q;cases q
  |some l=>
  rw[c,Ya]at q;cases b:fh a with
  |none=>rw[b]at q;cases q
  |some h=>
  rw[b]at q;cases q;exact#[P,F,a,_,i,I,λy z C f Pd=>#[P,z,a,l,c,I.evo f,λw B g=>#[P,w,a,h,b,(I.evo f).evo g,λu s p=>?_]]];exact#[x,kU Pd,by rwa[YV],k _ u s ((f.trans g).trans p) .str]
 .cases q
def D9(K:Kq):R2:=λx y H Q=>∃a b c e,x=.ref a/\y=.ref b/\SqT K H a c/\SqT K H b e/\c.length+e.length<=sizeLine /\
 (c=[]->Q (.ref b) H)/\(c≠[]->e=[]->Q (.ref a) H)/\(c≠[]->e≠[]->∀p,H p=()->Q (.ref p) (upd H p<|.tup<|c++e))
def Ea:OpR X (binaryOp .Add) (D9 X.K):=by
 intro U s M H x y v u Q I w q h;let#[a,b,p,N,rfl,rfl,E,C,hz,T,S,R]:=h;by_cases e:p=[]
 .cases w;cases q;let#[c,P,Z,_]:=I.tuple E;let#[i,r2,Y,_]:=I.tuple C;let hi:=P.nil_iff.mpr e;let#[#[cls,dd,J,O],z,B,n,A]:=id Z;let#[#[L,m,o,l],f,j,n2,g]:=id Y;subst B A j g;exact concat_meets #[_,z,qx] #[_,f,qx] noFill_tuple_add seq_tuple_add F.slot_tuple_add F.entry_tuple_add (F.args_tuple_add_2 _ _)
   (tuple_addW0 a b c.toArray i.toArray n n2 dd m O l<|by simp[hi]) #[z,f,#[.ref b,H,I,qx,T e]]
 .exact GW U s M H _ _ v u Q I w q #[a,b,p,N,qx,qx,E,C,e,hz,S e,R e]
def bP:D->D->Option D
 |.int i,.int j=>some<|.int<|i+j
 |.str x,.str y=>if x.length+y.length<=16777216 then !(.str<|x++y)else ()
 |.lst xs,.lst ys=>if xs.length+ys.length<=16777216 then !(.lst<|xs++ys)else ()
 |.tup xs,.tup ys=>if xs.length+ys.length<=16777216 then !(.tup<|xs++ys)else ()
 |_,_=>()
def Reps.nil_iff(r:Reps K H vs ds):vs=[]↔ds=[]:=by
 cases r with
 |nil=>simp
 |cons _ _=>simp
open A in
def Hl:u3 K (λx y H Q=>MQ x y H Q\/(Iw K x y H Q\/D9 K x y H Q)) bP:=by
 intro P F H E C x y L J d Q a I g f k;delta bP at a;split at a
 .cases a;exact .inl<|.inl #[_,_,da g,da f,k _ F H (Evo.refl I.toDHp) .int]
 .split at a
  .rename_i h;cases a;exact .inl<|.inr #[_,_,kU g,kU f,by rwa[YV],k _ F H (Evo.refl I.toDHp) .str]
  .cases a
 .split at a
  .rename_i o;cases a;let#[l,j,rfl,s,e]:=dE I g;let#[m,b,rfl,q,c]:=dE I f;exact .inr<|.inl #[l,m,j,b,qx,qx,s,q,by rwa[e.length,c.length,YV],λp i=>k _ _ _ (Evo.laid I.toDHp i)<|.lst (SqL.of aC)<|(e.append c).same<|jw (I.toDHp.free i).1]
  .cases a
 .split at a
  .rename_i B A o;cases a;let#[l,j,rfl,s,e]:=kL I g;let#[m,b,rfl,q,c]:=kL I f;have u:∀{y}{w},RepS K H F y _->Rep K F y (.tup w):=λh=>by
    rcases h with h|⟨_,ob,_,_,_,_,_,hfl,z⟩
    .exact h
    .cases ob<;>first|(cases z;done)|cases hfl
   exact .inr<|.inr #[l,m,j,b,qx,qx,s,q,by rwa[e.length,c.length,YV],λz=>?_,λ_ z=>?_,λ_ _ p i=>?_]
   .have:B=[]:=e.nil_iff.mp z;subst this;exact k _ F H (Evo.refl I.toDHp)<|u f
   .have:A=[]:=c.nil_iff.mp z;subst this;rw[YZ]at k;exact k _ F H (Evo.refl I.toDHp)<|u g
   .exact k _ _ _ (Evo.laid I.toDHp i)<|.tup aC<|(e.append c).same<|jw (I.toDHp.free i).1
  .cases a
 .cases a
def bC(c:PDR X a fa)(h:PDR X b fb):PDE X (.BinOp a .Add b pos) (d2 bP fa fb):=kK ((IV.or yk).or<|y_.or Ea) Hl c h
def isT:String->D->Option Bool
 | "int",.int _=>!true
 | "bool",.int _=>!false
 |_,_=>()
def OK(K:Kq):List V->Hp->VK->Prop:=λa H Q=>∃x T d b,a=[x,.ty T]/\Rep K H x d/\isT T d=!b/\Q (.bl b) H
def ES:CallR X (.builtin "isinstance") (OK X.K):=by
 intro p s c H l m Q I r h;let#[x,T,d,b,rfl,g,a,q]:=h;let#[u,w,rfl,e,f]:=zZ r;cases(show w=Value.type T from f);have j:EP X p c Q _ s:=#[.bl b,H,I,qx,q]
 have i:EP X p c Q _ {s with toks:=s.toks+1}:=#[.bl b,H,I.tok _,qx,q]
 delta isT at a;split at a<;>cases a<;>cases g
 .let#[t,rfl]:=(show ∃t,u=Value.int _ t from e);exact IsiPair.int_int j
 .let#[t,rfl]:=(show ∃t,u=Value.int _ t from e);exact IsiPair.int_bool i
def G9(T:String)(d:D):Option D:=(isT T d).map .bl
def E5{T}(u:Gl X "isinstance")(s:X.mg "isinstance"=())(i:Gl X x)(g:X.mg x=())(hv:bootBuiltins x=!.type T)(w:PDN X a fa)(o:x ≠ "__name__":=by decide)(hd:nDb x:=by decide)(hs:starEach [a,.Name x p1] X.env=[(false,eval a X.env),(false,eval (.Name x p1) X.env)]:=by rfl)(c:starEach [.Name x p1] X.env=[(false,eval (.Name x p1) X.env)]:=by rfl)(f:(backTo pos<|starEach [.Name x p1] X.env).any (·.1)=false:=by rfl):PDE X (.Call (.Name "isinstance" p) [a,.Name x p1] [] pos) (d1 (G9 T) fa):=
 (dB ES u s dG (aI w (aI (zz (v:=.ty T) i g hv qx o hd) bf c)<|by rw[hs,c]) (by decide) (by decide) (by rw[hs,c]) f).imp λC H Q=>un7 λP F l d h I k=>by
  delta d1 G9 at h;cases q:fa l with
  |none=>rw[q]at h;cases h
  |some j=>
   rw[q,Ya]at h;cases e:isT T j with
   |none=>rw[e]at h;cases h
   |some b=>
    rw[e]at h;cases h;exact#[P,F,l,j,q,I,λy B A z m=>#[y,T,j,b,qx,m,e,k _ B A z .bl]]
end
theorem wa(I:Inv X pz σ H s){xs}(h1:SqT X.K H a xs)(h2:SqL X.K H a ys):False:=by let#[_,_,#[o,e,c,_],_]:=I.tuple h1;let#[_,_,#[g,n,b,f,_],_]:=I.list h2;grind
def Reps.detOf(ih:∀{v}{d d'},okN n d->okN n d'->Rep X.K H v d->Rep X.K H v d'->d=d')(h:Reps X.K H vs ds):∀b:List D,(∀d∈ds,okN n d)->(∀d∈b,okN n d)->Reps X.K H vs b->ds=b:=
 Reps.ind (M:=λvs ds=>∀b:List D,(∀d∈ds,okN n d)->(∀d∈b,okN n d)->Reps X.K H vs b->ds=b) (λb z z r=>by cases r;rfl) (λa z i b h c r=>by
  cases r with
  |cons f e=>rw[ih (h _ Ye) (c _ Ye) a f,i _ (λd m=>h d<|Yb _ m) (λd m=>c d<|Yb _ m) e]) h
def Rep.det1(I:Inv X pz σ H s)n(ih:∀m,n=m+1->∀{v}{d d'},okN m d->okN m d'->Rep X.K H v d->Rep X.K H v d'->d=d')(h:okN n d)(h':okN n d')(q:Rep X.K H v d)(r:Rep X.K H v d'):d=d':=by
 cases q with
 |non=>cases r;rfl
 |bl=>cases r;rfl
 |int=>cases r;rfl
 |str=>cases r;rfl
 |tup a1 a2=>
  cases r with
  |tup b1 b2=>
   rw[a1]at b1;cases b1;cases n with
   |zero=>cases h
   |succ n=>rw[Reps.detOf (ih n qx) a2 _ (bX h) (bX h') b2]
  |lst b1 b2=>exact(wa I (SqT.of a1) b1).elim
  |dT b1 b2=>rw[a1]at b1;cases b1
  |dK b1 b2=>rw[a1]at b1;cases b1
  |ins b1 b2=>rw[a1]at b1;cases b1
  |fn b=>cases n<;>cases h'
  |exn b=>cases n<;>cases h'
  |any=>cases n<;>cases h'
 |lst a1 a2=>
  cases r with
  |tup b1 b2=>exact(wa I (SqT.of b1) a1).elim
  |lst b1 b2=>
   let e:=I.list_inj a1 b1;subst e;cases n with
   |zero=>cases h
   |succ n=>rw[Reps.detOf (ih n qx) a2 _ (bX h) (bX h') b2]
  |_=>cases n<;>cases h'
 |_=>cases n<;>cases h
def Rep.det(I:Inv X pz σ H s)n:∀{v}{d d'},okN n d->okN n d'->Rep X.K H v d->Rep X.K H v d'->d=d':=by
 induction n with
 |zero=>exact λh a q r=>Rep.det1 I 0 (λm e=>by cases e) h a q r
 |succ n ih=>exact λh a q r=>Rep.det1 I (n+1) (λm e=>by cases e;exact ih) h a q r
def BX{v a}(h:RelV v u)(h':RelV a u):v=a:=RelV.inj h h'
open Classical in
def yt(us:List Value)(ds:List D)(dy:D)(u:Value):Bool:=decide (∃(i:Nat) (d:D),us[i]?=!u/\ds[i]?=!d/\eqd d dy=true)
open Classical in
def tz(I:Inv X pz σ H s){n:Nat}(r:Reps X.K H vs ds)(a:Vals vs us)(ok:∀d∈ds,okN n d=true){d:D}(h:us[i]?=!u)(hd:ds[i]?=!d):yt us ds dy u=eqd d dy:=by
 delta yt;cases q:eqd d dy with
 |true=>exact YR #[i,d,h,hd,q]
 |false=>
  exact YD ?_;rintro⟨j,m,l,b,g⟩;let#[v,x,w]:=r.get hd;let#[y,b1,b2]:=r.get b;let#[A,f,p]:=a.get x;let#[z,c,o]:=a.get b1;rw[h]at f;cases f;rw[l]at c;cases c;let e:=BX p o;subst e;have:=w.det I n (ok d (YT hd)) (ok m (YT b)) b2;rw[this,g]at q;cases q
theorem vn(I:Inv X pz σ H s){y}{e}(r:Reps X.K H vs ds)(a:Vals vs us)(ok:∀d∈ds,okN 29 d)(q:Rep X.K H y dy)(o:okN 30 dy)(C:RelV y e)(O:A.units+60<cLine):∀u∈us,SeqAt.EqAt A s u e (yt us ds dy u):=λu c=>by
 let#[i,g,j]:=Zj c;let M:=a.length;have h:i<vs.length:=by lia
 let#[J,p,E]:=a.get<|Yh h;rw[Yh g,j]at p;cases p;let#[d,m,w]:=r.getV<|Yh h;rw[tz I r a ok (by rw[Yh g,j]) m];let f:=ok d<|YT m;let#[Q,z]:=w.reads I 29 f E;let#[P,x]:=q.reads I 30 o C;let#[b,B]:=cy 29 d f;let#[l,L]:=cy 30 dy o;exact Vw _ _ A s _ _ _ _ z x b l ?_;lia
def i4(dy:D):List D->Option Nat
 |[]=>()
 |d::r=>if eqd d dy then !0 else(i4 dy r).map (· + 1)
theorem rg:∀{ds}{j},i4 dy ds=!j->(∃d,ds[j]?=!d/\eqd d dy)/\∀m,m<j->∃d,ds[m]?=!d/\eqd d dy=false
 |[],_,h=>by cases h
 |d::r,j,h=>by
  delta i4 at h;split at h
  .rename_i q;cases h;exact#[#[d,rfl,q],λm b=>by lia]
  .rename_i q;cases a:i4 dy r with
   |none=>rw[a]at h;cases h
   |some k=>
    rw[a]at h;let h:=YG h;let h:=h;subst h;let#[e,c]:=rg a;exact#[by simpa using e,λm b=>?_];cases m with
    |zero=>exact#[d,qx,by simpa using q]
    |succ m=>simpa using c m<|by lia
def Oy(K:Kq):V->List V->Hp->VK->Prop:=λx e H Q=>∃l c b y a j,x=.ref l/\e=[y]/\SqL K H l c/\Reps K H c b/\Rep K H y a/\b.all (okN 29)/\okN 30 a/\i4 a b=!j/\Q (.int j) H
def N7(K:Kq):V->List V->Hp->VK->Prop:=λx e H Q=>∃l c b y a,x=.ref l/\e=[y]/\SqL K H l c/\Reps K H c b/\Rep K H y a/\b.all (okN 29)/\okN 30 a/\Q (.int<|b.countP λd=>eqd d a) H
section
variable{a:Expr}
theorem Dh(hu:X.A.units+64<cLine):MtR X "list.index" (Oy X.K):=by
 intro pz s σ H x vs v us Q I P f h;let#[l,xs,e,y,B,j,rfl,rfl,Z,r,O,ok,T,hj,q]:=h;cases P;let#[u,rfl,R]:=f.one;let#[i,g,S,E]:=I.list Z;let#[#[cls,dd,M,N],n,J,L,hdd,c]:=S;simp at L c;subst L c;let#[#[d0,C,Y],U]:=rg hj;let l1:=r.length;let l2:=g.length;let hjl:=(Yo.mp C).1;have a:j<i.toArray.size:=by rw[YB];lia
 let o:=bX ok;have b:∀m (w:m<i.toArray.size) d,e[m]?=!d->yt i e B i.toArray[m]=eqd d B:=λm w d c=>tz I r g o (by simp) c
 exact Uq F.slot_list_index #[_,J,qx] F.entry_list_index (F.args_list_index_2 _ _)
  (SeqAt.list_indexAt l i.toArray n dd N u _ j a (by have:=YV;lia) (by rwa[b j a d0 C]) λm w p=>?_) #[J,λz E=>vn I r g o O T R (by show X.A.units+1+60<cLine;lia) z<|by simpa using E,#[.int j,H,I.tok _,#[_,qx],q]]
 let#[d,e1,e2]:=U m p;rwa[b m w d e1]
def xb{f}(a:us.length=ds.length)(h:∀(i:Nat) u d,us[i]?=!u->ds[i]?=!d->f u=eqd d dy):us.countP f=ds.countP (λd=>eqd d dy):=by
 induction us generalizing ds with
 |nil=>cases ds with|nil=>rfl|cons _ _=>simp at a
 |cons u us ih=>
  cases ds with
  |nil=>simp at a
  |cons d ds=>
   rw[List.countP_cons,List.countP_cons,ih (by simpa using a) λi u d c b=>h (i+1) u d (by simpa using c)<|by simpa using b,h 0 u d qx qx]
theorem Ex(hu:X.A.units+64<cLine):MtR X "list.count" (N7 X.K):=by
 intro pz s T H x Y v Z Q I C b h;let#[l,U,ds,y,m,rfl,rfl,M,r,B,ok,L,q]:=h;cases C;let#[u,rfl,E]:=b.one;let#[a,c,J,e]:=I.list M;let#[#[S,R,p,w],n,f,j,N,g]:=J;subst j g;let o:=bX ok;exact Uq F.slot_list_count #[_,f,qx] F.entry_list_count (F.args_list_count_2 _ _) (SeqAt.list_countAt l a.toArray n R w u _)
  #[f,λz e=>vn I r c o B L E (by show X.A.units+1+60<cLine;lia) z<|by simpa using e,?_]
 exact#[.int _,H,I.tok _,#[s.toks,?_],q];rw[xb (by rw[<-c.length,r.length]) λi u d P O=>tz I r c o P O]
def lw:D->D->Option D
 |.lst ds,y=>if(ds.all (okN 29)&&okN 30 y) then(i4 y ds).map (λ(j:Nat)=>D.int j)else ()
 |_,_=>()
def qS:D->D->Option D
 |.lst ds,y=>if(ds.all (okN 29)&&okN 30 y) then !(.int<|ds.countP λd=>eqd d y)else ()
 |_,_=>()
def C_{f:Dy}(p:∀dx dy d,f dx dy=!d->∃ds,dx=.lst ds)(o:∀P F H l vs y ds dy d Q,f (.lst ds) dy=!d->DHp P F H->SqL K H l vs->Reps K H vs ds->Rep K H y dy->(∀v F' H',Evo P F H F' H'->Rep K F' v d->Q v H')->r (.ref l) [y] H Q):∀σ H Q,tD K (d2 f fa fb) σ H Q->tBM K "list" r (tN K fa) (nj (tN K fb) sY) σ H Q:=λσ H Q=>un7 λP F a d h I k=>by
 delta d2 at h;cases c:fa a with
 |none=>rw[c]at h;cases h
 |some dx=>
  rw[c]at h;cases b:fb a with
  |none=>rw[Ya,b]at h;cases h
  |some dy=>
   rw[Ya,b,Ya]at h;let#[ds,rfl]:=p dx dy d h;exact#[P,F,a,_,c,I,λx A B g j=>?_];cases j with
   |lst h1 h2=>
    exact#[.inl #[rfl,_,h1],P,A,a,dy,b,I.evo g,λy z u e i=>?_];let sm:=e.same g.hp;exact o P z u _ _ y ds dy d Q h e.hp (sm.seq h1) (h2.same sm) i λv w s q m=>k v w s ((g.trans e).trans q) m
def pU(s:X.A.units+64<cLine)(w:PDN X o fa)(z:PDN X e fb)(f:attributeBase o "index" X.env (eval o X.env)=eval o X.env:=by rfl)(g:((backTo cpos<|starEach [e] X.env).all (λx=>(not<|x.1))&&(backToKw cpos<|keywordEach [] X.env).all (λx=>x.1.isSome)
   && decide (([e]).length+([]:List Keyword).length+(if([]:List Keyword).isEmpty then 0 else 1)<30)):=by rfl)(b:(apos.endLine == cpos.line):=by rfl)(hs:starEach [e] X.env=[(false,eval e X.env)]:=by rfl):PDE X (.Call (.Attribute o "index" apos) [e] [] cpos) (d2 lw fa fb):=
 (qq ZI F.slot_list_index F.type_list_index (Dh s) w (aI z bf hs) f g b hs qx).imp (C_ λI i d h=>by cases I<;>first|exact#[_,rfl]|cases h
  λP F H l p y m i d Q a u E C B k=>by
   have a:(if(m.all _&&okN 30 i) then(i4 i m).map (λj=>D.int _)else ())=!d:=a;split at a
   .rename_i c;rw[Yn]at c;let#[j,q,rfl]:=YK.mp a;exact#[l,p,m,y,i,j,qx,qx,E,C,B,c.1,c.2,q,k _ F H (Evo.refl u) .int]
   .cases a)
def vM(p:X.A.units+64<cLine)(s:PDN X o fa)(u:PDN X e fb)(b:attributeBase o "count" X.env (eval o X.env)=eval o X.env:=by rfl)(f:((backTo cpos<|starEach [e] X.env).all (λx=>(not<|x.1))&&(backToKw cpos<|keywordEach [] X.env).all (λx=>x.1.isSome)
   && decide (([e]).length+([]:List Keyword).length+(if([]:List Keyword).isEmpty then 0 else 1)<30)):=by rfl)(a:(apos.endLine == cpos.line):=by rfl)(hs:starEach [e] X.env=[(false,eval e X.env)]:=by rfl):PDE X (.Call (.Attribute o "count" apos) [e] [] cpos) (d2 qS fa fb):=
 (qq ZI F.slot_list_count F.type_list_count (Ex p) s (aI u bf hs) b f a hs qx).imp (C_ λC i d h=>by cases C<;>first|exact#[_,rfl]|cases h
  λP F H l m y j i d Q g q B z w k=>by
   have g:(if(j.all _&&okN 30 i) then !D.int _ else ())=!d:=g;split at g
   .rename_i c;rw[Yn]at c;cases g;exact#[l,m,j,y,i,qx,qx,B,z,w,c.1,c.2,k _ F H (Evo.refl q) .int]
   .cases g)
end
section
variable{a:Expr}
def xQ:D->Option D
 |.int i=>some<|.int<|-i
 |_=>()
def C4(h:PDE X a fa):PDE X (.UnaryOp .USub a pos) (d1 xQ fa):=(MP J2 h).imp λm H Q=>un7 λP F c d b I k=>by
 let#[g,q,b]:=Yx.mp b;cases g with
 |int i=>
  cases b;exact#[P,F,c,_,q,I,λv l j f e=>?_];cases e;exact#[i,qx,k _ l j f .int]
 |_=>cases b
def iE{i}(a:Gl X x)(h:X.mg x=!.int i t)(hd:nDb x:=by decide):PDE X (.Name x pos) (λz=>!.int i):=wd (tY a h (v:=.int i) #[t,qx] hd) λz=>.int
def xV:D->Bool
 |.bl _=>true
 |_=>false
def trD:D->Bool
 |.bl b=>b
 |_=>false
def BR:D->Option D
 |.lst ds=>if ds.all xV then !(.bl<|ds.all trD)else ()
 |_=>()
def N8(K:Kq):List V->Hp->VK->Prop:=λx H Q=>∃l b a,x=[.ref l]/\SqL K H l b/\Reps K H b a/\a.all xV/\Q (.bl<|a.all trD) H
theorem Bz:(List.range ds.length).all (λi=>trD (ds.getD i .non))=ds.all trD:=by
 rw[Bool.eq_iff_iff,Yl,Yl];constructor
 .intro h d b;let#[i,a,e]:=Zj b;have:=h i<|Zg.mpr a;rwa[YU,Yh a,e]at this
 grind
theorem BJ(N:X.calm):CallR X (.builtin "all") (N8 X.K):=by
 intro pz s Y H Z us Q I r h;let#[l,vs,g,rfl,M,y,O,q]:=h;let#[u,rfl,J]:=fE r;cases J;let#[a,x,L,hz]:=I.list M;let m:=L.isList;let l1:=y.length;let l2:=x.length;exact call_all_walk<|Vx m ?_;have p:l<s.heap.objs.size:=by let#[o,e,_]:=m;exact Yv e
 exact#[s.heap.objs.size,[s.heap.objs.size,l],[s.heap.objs.size],a.toArray.size,_,_,λi=>trD<|g.getD i .non,qx,Walks.list (by exact I.ok.hd N) s.heap.objs.size l (Yy p) a.toArray,#[#[_,Ys _ rfl,rfl,rfl],m.at λo e=>Yf _ e],λi v E U E' j c=>?_,λh' C k=>?_]
 .have j:a[i]?=!v:=by simpa using j
  let hi:=(Yo.mp j).1;have f:i<g.length:=by lia
  let#[w',T,S]:=y.get<|Yh f;let#[u',B,R]:=x.get T;rw[j]at B;cases B;let w:=Yl.mp O _<|Xh f;have P:g.getD i .non=g[i]:=by rw[YU,Yh];rfl
  have c:U (trD _) E:=c;rw[P]at c;generalize g[i]=d at *;cases d with
  |bl b=>cases S;cases(show v=Value.bool _ from R);exact ZH c
  |_=>cases w
 .have e:a.toArray.size=g.length:=by rw[YB];lia
  rw[e,Bz];exact#[.bl _,H,I.kept λb o e=>k b o (λz=>?_)<|Yf _ e,qx,q];have z:b=s.heap.objs.size:=by simpa using z
  rw[z]at e;exact absurd (Yv e)<|Zh _
def E9(i:X.calm)(g:Gl X "all")(f:X.mg "all"=())(l:PDN X e fa)(hs:starEach [e] X.env=[(false,eval e X.env)]:=by rfl)(a:(backTo pos (starEach [] X.env)).any (·.1)=false:=by rfl):PDE X (.Call (.Name "all" p) [e] [] pos) (d1 BR fa):=
 (dB (BJ i) g f CJ (aI l bf hs) (by decide) (by decide) hs a).imp (Ds λP F H x m d Q h c b k=>by
  cases m with
  |lst ds=>
   have h:(if ds.all xV then !D.bl _ else ())=!d:=h;split at h
   .rename_i j;cases h;cases b with|lst h1 h2=>exact#[_,_,ds,qx,h1,h2,j,k _ F H (Evo.refl c) .bl]
   .cases h
  |_=>cases h)
def Its(x:Str):It:=#[λi z=>i<x.cps.size,λi H v a=>a=H/\v=.str #[#[[x.cps.getD i 0]]],λi z=>x.cps.size<=i]
def BW{P}it x t ty(C:["enumerate","zip","dict_itemiterator","dict_reverseitemiterator","odict_iterator","itertools.zip_longest","itertools.pairwise"].contains ty=false)(W:∀A:Around,A.handled=()->Walks P w A it [it] [it] x.cps.size (SignAt x) (λi h=>h.IsStrIter it ty x t i))
  (g:∀A i s (Q:Kv) (E:Kv),s.heap.IsStrIter it ty x t i->Q (.ref it) s->wpAny (model P w) A (pyIter<|.ref it) Q E s):Turn P w K tg (Its x) [it] it (λi h=>h.IsStrIter it ty x t i/\i<=x.cps.size) where
 mem:=by simp
 obj:=λi h a b j=>by
  have e:b=it:=by simpa using j
  subst e;let#[#[o,e,c,d],_]:=a;exact#[o,e,λv z=>by rw[d]at z;cases z]
 keep:=λi h p a k=>by let#[#[o,e,r],hl]:=a;exact#[#[o,k it (by simp) o e,r],hl]
 item:=by
  intro X O B R N i pz s σ H E I m a f;let#[Z,Y,f2,U,T,S]:=m it (by simp);exact(W X.A<|I.ok.hd N).item i s _ _ f a.1 λv p q hv l y=>?_;let#[c,u,M,rfl]:=hv;have I1:Inv X pz σ H {s with heap:=p,toks:=q}:=I.turned (λb o j e=>y b o (by simpa using j) e) Z Y U T S;let#[o,ho,L,J]:=id l;have ec:x.cps.getD i 0=c:=by simp[M]
  exact#[_,qx,Ag ho L J C #[.str #[#[[c]]],H,I1,#[u,rfl],#[rfl,by rw[ec]],#[l,f],λb j=>(m b j).1]]
 done:=by intro X O B R N i pz s σ H E I m a f;let#[Z,Y,f2,U,T,S]:=m it (by simp);let hi:=ZC a.2 f;subst hi;exact(W X.A<|I.ok.hd N).done s _ _ a.1 λp q y=>#[qx,I.turned (λb o j e=>y b o (by simpa using j) e) Z Y U T S]
 self:=λA i s Q E a h=>g A i s Q E a.1 h
def NU(tl:TE):TI:=λa H R=>tl a H λx b=>∃z,x=.str z/\R (Its z) b
def JT(C:PE X l tl):PI X tg l (NU tl):=by
 intro u s p H R I h;exact bh (C u s p H _ I h) λv a x O m B g=>?_;let#[z,e,q]:=g;subst e;let#[t,rfl]:=B;have fin:∀f ty,["enumerate","zip","dict_itemiterator","dict_reverseitemiterator","odict_iterator","itertools.zip_longest","itertools.pairwise"].contains ty=false->(∀A:Around,A.handled=()->Walks X.prog X.w A a.heap.objs.size [a.heap.objs.size] [a.heap.objs.size] z.cps.size _ _)->
   _->
   (a.heap.push f).IsStrIter a.heap.objs.size ty z t 0->PIE X u p tg R _ {a with heap:=a.heap.push f}:=λf ty N M L K=>by
  exact#[a.heap.objs.size,[a.heap.objs.size],_,_,O,qx,m.kept λb o e=>Yf _ e,BW _ z t ty N M L,#[K,YQ _],λb J=>?_,q];have e:b=a.heap.objs.size:=by simpa using J
  subst e;exact m.fpOk (Yp _)<|m.hok.fresh<|Yp _
 cases y:z.cps.all _
 .exact wpAny_pyIter_wide y<|fin _ "str_iterator" (by decide) (λP j=>Walks.strWide j _ z t) (λA i s Q E c h=>wpAny_pyIter_striter_wide c h) #[_,Ys _ qx,qx,qx]
 .exact wpAny_pyIter_ascii y<|fin _ "str_ascii_iterator" (by decide) (λP j=>Walks.strAscii j _ z t) (λA i s Q E c h=>wpAny_pyIter_striter_ascii c h) #[_,Ys _ qx,qx,qx]
def signs(x:Str):List D:=x.cps.toList.map λc=>.str #[#[[c]]]
def sF(f:Dd):DF->Option (List D):=λa=>match f a with
 |some (.str x)=>some<|signs x
 |_=>()
open A in
def zX(h:PDE X l fa):PDI X tg l (sF fa):=PI.imp (JT h) λC H R=>un7 λP F j E f I k=>by
 delta sF at f;split at f
 .rename_i x q;cases f;exact#[P,F,j,_,q,I,λv A z w m=>?_];cases m;exact#[x,qx,k _ A z w λB K e p i=>#[λd a=>?_,λg=>?_]]
  .delta signs at a;rw[Yw]at a;cases b:x.cps.toList[i]? with
   |none=>rw[b]at a;cases a
   |some c=>
    rw[b]at a;cases a;have s:i<x.cps.size:=by have:=(Yo.mp b).1;simpa using this
    exact#[s,λy J o=>?_];let#[rfl,rfl]:=o;have u:x.cps.getD i 0=c:=by
     have:x.cps[i]?=!c:=by rwa[<-Zz]
     simp[this]
    rw[u];exact#[B,Evo.refl p,.str]
  .delta signs at g;rwa[Yc,Zi]at g
 .cases f
end
section
variable{a r:Expr}{apos' cpos':Pos}{f:Dd}
def AV:CallR X (.type "range") (λxs H Q=>∃j:Int,xs=[.int j]/\∀q,H q=()->Q (.ref q) (upd H q (.rng 0 j))):=by intro p s a H xs c Q I r h;let#[j,rfl,q]:=h;let#[u,rfl,t,rfl]:=fE r;exact call_range_1 #[.ref s.heap.objs.size,_,I.laid (o:=.rng 0 j) (λb e z=>Yf _ z) (Yp _) #[_,_,_,Ys _ qx],qx,q _<|I.hok.fresh<|Yp _]
def EU(lo:Int)(n:Nat):List V:=(List.range n).map λi:Nat=>.int<|lo+i
theorem E7:∀n lo vs,vs.length=n->(∀(j:Nat) v,vs[j]?=!v->∃t,v=Value.int (lo+j) t)->Vals ((List.range n).map λi:Nat=>V.int (lo+i)) vs:=by
 intro n;induction n with
 |zero=>intro lo vs h _;rw[Zl.mp h];exact .nil
 |succ n ih=>
  intro lo vs h a;cases vs with
  |nil=>simp at h
  |cons v vs=>
   rw[List.range_succ_eq_map,YI,YH];exact .cons ?_ ?_
   .let#[t,e]:=a 0 v qx;exact#[t,e]
   .have:=ih (lo+1) vs (by simpa using h) λj w b=>by
     let#[t,e]:=a (j+1) w (by simpa using b);exact#[t,by rw[e];congr 1;lia]
    have c:((λi:Nat=>V.int<|lo+i) ∘ Nat.succ)=λi:Nat=>V.int (lo+1+i):=by
     funext i;show V.int _=_
     congr 1;lia
    rwa[c]
theorem qJ(B:X.calm):CallR X (.type "list") (λxs H Q=>∃(q:Addr) (lo hi:Int),xs=[.ref q]/\H q=!.rng lo hi/\(-(2^62)<=lo/\lo<2^62/\-(2^62)<=hi/\hi<2^62)/\(hi-lo).toNat<=16777216/\∀l,H l=()->Q (.ref l) (upd H l (.lst (EU lo (hi-lo).toNat)))):=by
 intro O s M H xs N Q I r h;let#[q,lo,hi,rfl,x,#[K,J,E,C],z,k]:=h;let#[u,rfl,i]:=fE r;cases i;let#[t,u,v,y]:=I.hok q _ x;have c:Builtin.Range.rangeSize lo hi 1=((hi-lo).toNat):=by rw[rangeSize_one];split<;>lia
 exact call_list_range (I.ok.hd B) y (small_one K J E C) c (by lia) λP g b L m a f=>?_;exact#[.ref s.heap.objs.size,_,I.laid (o:=.lst _) m (Yp _) #[?_,b.toList,L,?_,?_],qx,k _<|I.hok.fresh<|Yp _]
 .delta EU;rwa[Yc,Zw,YV]
 .let#[w,p]:=f;exact E7 _ lo _ (by simpa using w) λj v A=>?_;let#[t,e]:=p j v (by rwa[<-Zz]);exact#[t,by rw[e];congr 1;lia]
 .simpa using a
def AQ lo n:Reps K F (EU lo n) (d8 lo n):=by
 delta EU d8;generalize List.range n=l;induction l with
 |nil=>exact .nil
 |cons i l ih=>exact .cons .int ih
def lF(f:Dd):DF->Option (List D):=λa=>match f a with
 |some (.int j)=>if j<16777216/\-(2^62)<=j then !d8 0 j.toNat else ()
 |_=>()
theorem j7(A:X.calm)(z:Gl X "list")(x:X.mg "list"=())(i:Gl X "range")(f:X.mg "range"=())(B:PDE X a fa)(b:starEach [a] X.env=[(false,eval a X.env)]:=by rfl)(hs:starEach [.Call (.Name "range" p') [a] [] cpos] X.env=[(false,eval (.Call (.Name "range" p') [a] [] cpos) X.env)]:=by rfl):PDO X (.Call (.Name "list" p) [.Call (.Name "range" p') [a] [] cpos] [] pos) (asL<|lF fa):=
 (eF (qJ A) z x rJ<|aI (eF AV i f boot_range (aI B bf b) (he:=b)) bf hs).imp λK H Q=>un7 λP F m L h I k=>by
  delta asL lF at h;cases q:fa m with
  |none=>rw[q]at h;cases h
  |some E=>
   rw[q]at h;cases E with
   |int j=>
    dsimp only at h;split at h
    .rename_i y;cases h;exact#[P,F,m,_,q,I,λv J M s u=>?_];cases u;exact#[j,qx,λw c=>#[w,0,j,qx,aC,#[by lia,by lia,y.2,by lia],by lia,λl g=>?_]];let e:=s.trans<|Evo.side s.hp (o:=.rng 0 j) c;have C:(j-0).toNat=j.toNat:=by lia
     rw[C];exact k l J _ (e.trans<|Evo.side e.hp g) #[#[e.back I.toDHp g,(e.hp.free g).1],_,aC,AQ 0 _]
    .cases h
   |_=>cases h
def Ba(i:Nat)(g:Dl):DF->Option RES:=λa=>match a[i]? with
 |some (some<|.own (.lst ds) t)=>(g a).bind λe=>if ds.length+e.length<=16777216 then !(.nx<|a.set i<|some<|.own (.lst<|ds++e) t)else ()
 |_=>()
def AU i{g:Dl}(h:PE X o (dM i))(S:PDO X e (asL g))(j:attributeBase o "extend" X.env (eval o X.env)=eval o X.env:=by rfl)
  (m:((backTo cpos<|starEach [e] X.env).all (λx=>(not<|x.1))&&(backToKw cpos<|keywordEach [] X.env).all (λx=>x.1.isSome)
   && decide (([e]).length+([]:List Keyword).length+(if([]:List Keyword).isEmpty then 0 else 1)<30)):=by rfl)
  (f:(apos.endLine == cpos.line):=by rfl) (hs:starEach [e] X.env=[(false,eval e X.env)]:=by rfl) (y:swapsWith (.Call (.Attribute o "extend" apos) [e] [] cpos) () pos.line X.env=pure false:=by rfl) :
  PD1 X (.Expr (.Call (.Attribute o "extend" apos) [e] [] cpos) pos) (Ba i g):=
 PS.imp (iP (qq ZI F.slot_list_extend F.type_list_extend BN h (aI S bf hs) j m f hs qx) y) λE M H=>un7 λP F z r c I k=>by
  delta Ba at c;split at c
  .rename_i ds t q;cases w:g z with
   |none=>rw[w]at c;cases c
   |some p=>
    rw[w,Ya]at c;split at c
    .rename_i R;cases c;let#[a,A,J,T,Z,C,B]:=mD I q;exact#[_,J,.inl #[qx,A,SqL.of C],P,F,z,.lst p,by delta asL;rw[w];rfl,I,λb L H1 s Q=>?_];let#[#[n1,n2],u,N,l]:=Q;cases u with
     |lst ws=>
      let#[O,Y]:=s.keep a _ C T;let U:=I.evo s;exact#[a,b,A,ws,qx,qx,O,N,by rwa[YV,B.length,l.length],k M L _ s.ext ?_];exact U.mut q qx qx J<|(B.same s.ext).append l
     |_=>exact l.elim
    .cases c
  .cases c
def yV(n:Nat):D->Option Nat
 |.int k=>if -(2^63)<=k/\k<2^63 then seqIndex? k n else ()
 |_=>()
def xt(j:Nat)(f:Dd):DF->Option (DF×D):=λa=>match a[j]? with
 |some (some<|.own (.lst ds) t)=>(f a).bind λb=>(yV ds.length b).bind λk=>(ds[k]?).map λd=>(a.set j<|some<|.own (.lst<|ds.eraseIdx k) t,d)
 |_=>()
open A in
def FP{Q}{F}{d}(h:xt j f ρ=!(ρ',d))(I:DInv K P F H ρ σ)(k:∀v F' H',Same F F'->DInv K P F' H' ρ' σ->Rep K F' v d->Q v H'):tBM K "list" EG (dM j) (nj (tD K f) sY) σ H Q:=by
 delta xt at h;split at h
 .rename_i o t q;cases m:f ρ with
  |none=>rw[m]at h;cases h
  |some B=>
   rw[m,Ya]at h;cases c:yV o.length B with
   |none=>rw[c]at h;cases h
   |some e=>
    rw[c,Ya]at h;cases l:o[e]? with
    |none=>rw[l]at h;cases h
    |some S=>
     rw[l]at h;cases h;cases B with
     |int i=>
      have b:(if -(2^63)<=i/\i<2^63 then seqIndex? i o.length else ())=!e:=c;split at b
      .rename_i w;let#[a,p,A,M,R,z,x]:=mD I q;exact#[_,A,.inl #[rfl,p,SqL.of z],P,F,ρ,_,m,I,λv N T g J=>?_];cases J;let#[L,O]:=g.keep a _ z M;let s:=x.same g.ext;let#[y,E,C]:=s.get l;exact#[a,p,i,e,y,qx,qx,L,w.1,w.2,by rwa[x.length],E,?_];exact k y N _ g.ext ((I.evo g).mut q qx qx A<|s.eraseIdx e) C
      .cases b
     |_=>cases c
 .cases h
def iM(i j:Nat)(f:Dd):DF->Option RES:=λa=>(xt j f a).bind λr=>match r.1[i]? with
 |some (some<|.own (.lst ds) t)=>if i≠j/\ds.length<16777216 then !(.nx<|r.1.set i<|some<|.own (.lst<|ds++[r.2]) t)else ()
 |_=>()
open A in
def AH i j(ho:PE X o (dM i))(hr:PE X r (dM j))(ha:PDE X e f)(p:attributeBase o "append" X.env (eval o X.env)=eval o X.env:=by rfl)(g:attributeBase r "pop" X.env (eval r X.env)=eval r X.env:=by rfl)
  (m:((backTo cpos'<|starEach [e] X.env).all (λx=>(not<|x.1))&&(backToKw cpos'<|keywordEach [] X.env).all (λx=>x.1.isSome)
   && decide (([e]).length+([]:List Keyword).length+(if([]:List Keyword).isEmpty then 0 else 1)<30)):=by rfl)
  (w:((backTo cpos<|starEach [.Call (.Attribute r "pop" apos') [e] [] cpos'] X.env).all (λx=>(not<|x.1))&&(backToKw cpos<|keywordEach [] X.env).all (λx=>x.1.isSome)
   && decide (([.Call (.Attribute r "pop" apos') [e] [] cpos']:List Expr).length+([]:List Keyword).length+(if([]:List Keyword).isEmpty then 0 else 1)<30)):=by rfl)
  (l:(apos.endLine == cpos.line):=by rfl) (c:(apos'.endLine == cpos'.line):=by rfl) (s:starEach [e] X.env=[(false,eval e X.env)]:=by rfl)
  (hs:starEach [.Call (.Attribute r "pop" apos') [e] [] cpos'] X.env=[(false,eval (.Call (.Attribute r "pop" apos') [e] [] cpos') X.env)]:=by rfl) (K:swapsWith (.Call (.Attribute o "append" apos) [.Call (.Attribute r "pop" apos') [e] [] cpos'] [] cpos) () pos.line X.env=pure false:=by rfl) :
  PD1 X (.Expr (.Call (.Attribute o "append" apos) [.Call (.Attribute r "pop" apos') [e] [] cpos'] [] cpos) pos) (iM i j f):=
 PS.imp (iP (qq ZI Xw Vi jJ ho (aI (qq ZI F.slot_list_pop F.type_list_pop E4 hr (aI ha bf s) g m c s qx) bf hs) p w l hs qx) K) λE U H=>un7 λP F B res h I k=>by
  let#[pr,q,h]:=Yx.mp h;split at h
  .rename_i ds t A;split at h
   .rename_i Q;cases h
    have J:B[i]?=!(some<|.own (.lst ds) t):=by
     let b:=q;delta xt at b;split at b
     .rename_i y t' qj;let#[dk,O,b]:=Yx.mp b;let#[kk,N,b]:=Yx.mp b;let#[d',M,rfl]:=YK.mp b;rwa[YY λz=>Q.1 z.symm]at A
     .cases b
    let#[a,Y,L,h2,h3,h4,h5]:=mD I J;exact#[_,L,.inl #[qx,Y,SqL.of h4],?_];exact FP q I λv F' H' e T Z=>?_;let#[a',C,S,g2,g3,g4,R]:=mD T A;rw[L]at S;cases S;exact#[a,C,v,qx,qx,g4,by rw[YV,R.length];exact Q.2,k U F' _ e ?_];exact T.mut A qx qx L<|R.append<|.one Z
   .cases h
  .cases h
end
def A9{k k'}{vs:List (Key×V)}:dY ((k',v)::vs) k=if k'=k then !v else dY vs k:=by delta dY;by_cases q:k'=k<;>simp[ZT,q]
def RepsK.val{vs}{ds}(h:RepsK K H vs ds):(dY vs k=()/\c_ ds k=())\/∃v d,dY vs k=!v/\c_ ds k=!d/\Rep K H v d:=
 RepsK.ind (M:=λvs ds=>(dY vs k=()/\c_ ds k=())\/∃v d,dY vs k=!v/\c_ ds k=!d/\Rep K H v d) (.inl #[qx,qx]) (λ{a v d vs ds} h _ ih=>by
  rw[A9,bQ];by_cases q:a=k
  .rw[Yk q,Yk q];exact .inr #[v,d,qx,qx,h]
  .rwa[Ym q,Ym q]) h
def RepsK.any{vs}{ds}(h:RepsK K H vs ds):(vs.any λa=>decide (a.1=k))=ds.any λa=>decide (a.1=k):=
 RepsK.ind (M:=λvs ds=>(vs.any λa=>decide<|a.1=k)=ds.any λa=>decide<|a.1=k) qx (λz z ih=>by rw[XA,XA,ih]) h
def RepsK.map(f:Rep K H v d){vs}{ds}(h:RepsK K H vs ds):RepsK K H (vs.map λa=>if a.1=k then(a.1,v)else a) (ds.map λa=>if a.1=k then(a.1,d)else a):=
 RepsK.ind (M:=λvs ds=>RepsK K H (vs.map λa=>if a.1=k then(a.1,v)else a)<|ds.map λa=>if a.1=k then(a.1,d)else a) .nil (λ{b c e vs ds} h _ ih=>by
  rw[YI,YI];by_cases q:b=k
  .rw[Yk<|show(b,c).1=k from q,Yk<|show(b,e).1=k from q];exact .cons f ih
  .rw[Ym<|show ¬(b,c).1=k from q,Ym<|show ¬(b,e).1=k from q];exact .cons h ih) h
def RepsK.snoc(a:Rep K H v d){vs}{ds}(h:RepsK K H vs ds):RepsK K H (vs++[(k,v)]) (ds++[(k,d)]):=
 RepsK.ind (M:=λvs ds=>RepsK K H (vs++[(k,v)])<|ds++[(k,d)]) (.cons a .nil) (λh z ih=>.cons h ih) h
def RepsK.put{vs}{ds}(a:Rep K H v d)(r:RepsK K H vs ds):RepsK K H (ij vs k v) (fm ds k d):=by
 delta ij fm;rw[r.any];split
 .exact r.map a
 .exact r.snoc a
def RepsK.length{vs}{ds}(h:RepsK K H vs ds):vs.length=ds.length:=RepsK.ind (M:=λvs ds=>vs.length=ds.length) qx (λz z ih=>YW Nat.succ ih) h
def HX{y}(r:Rep K F y dy)(h:kd dy=!k):y=kV k:=by
 cases dy with
 |int i=>cases h;cases r;rfl
 |str i=>cases h;cases r;rfl
 |_=>cases h
def KH{x}{ds}(I:DInv K P F H ρ σ)(r:RepS K H F x (.dK ds)):∃a vs,x=.ref a/\H a=!.dK vs/\RepsK K F vs ds:=by
 rcases r with r|⟨a,o,u,rfl,_,h3,h4,hfl,z⟩
 .cases r with|dK h q=>exact#[_,_,qx,I.sub _ _ h,q]
 .cases o with
  |dK ds'=>
   cases z;cases u with
   |dK vs=>exact#[a,vs,qx,h3,h4]
   |_=>exact h4.elim
  |lst2 _=>cases hfl
  |obj _ _=>cases hfl
  |_=>cases z
section
variable{a i f:Expr}{fd fk:Dd}
def oq(j:Nat)(fk fv:Dd):DF->Option RES:=λa=>match a[j]? with
 |some (some<|.own (.dK kvs) t)=>(fv a).bind λv=>(fk a).bind λy=>(kd y).bind λk=>if kvs.length<16777216 then !(.nx<|a.set j<|some<|.own (.dK<|fm kvs k v) t)else ()
 |_=>()
open A in
theorem BY j(Z:X.A.units+64<cLine)(L:PE X o (dM j))(hi:PDE X i fk)(hv:PDE X e fv)(hs:swapsWith e (!.Subscript o i pos') pos.line X.env=pure false:=by rfl):PD1 X (.Assign [.Subscript o i pos'] e pos) (oq j fk fv):=
 PS.imp (zi (by lia) L hi hv hs) λE z H=>un7 λP F c r h I k=>by
  delta oq at h;split at h
  .rename_i m t q;cases f:fv c with
   |none=>rw[f]at h;cases h
   |some dv=>
   rw[f,Ya]at h;cases l:fk c with
   |none=>rw[l]at h;cases h
   |some O=>
   rw[l,Ya]at h;cases g:kd O with
   |none=>rw[g]at h;cases h
   |some U=>
   rw[g,Ya]at h;split at h
   .rename_i M;cases h;let#[v,s,p,rfl,#[#[R,a2,_],u,Q,b],_]:=I.at q;cases u with
    |dK vs=>
     let b:=b;exact#[P,F,c,_,f,I,λv T H1 x C=>#[_,s,P,T,c,_,l,I.evo x,λy S H2 w B=>?_]];let a:=x.trans w;let#[J,Y]:=a.keep p _ Q R;let N:=HX B g;subst N;exact#[p,_,qx,DPut.k J<|by rwa[YV,b.length],k z S _ a.ext ?_];exact(I.evo a).mut q qx qx s<|(RepsK.same a.ext b).put<|C.same w.ext
    |_=>exact b.elim
   .cases h
  .cases h
end
theorem Room.h64(r:Room k A):A.units+64<cLine:=by have:=r.un;lia
def EE(sc0 scope:Scope):=scope.kind == .function&&(scope.names.map (·.1)).Nodup&&(scope.names.all λx=>x.2 != .free||(sc0.names.lookup x.1 == some .cell||sc0.names.lookup x.1 == !.free))
def zN s(e:X.env.scope=s)(h:EE s scope):BlkScope X scope:=by
 delta EE at h;simp only[Yn,YS]at h;let#[#[g,f],c]:=h;exact#[by simpa using g,f,λx a b=>?_];have:=Yl.mp c x a;rw[b]at this;have i:X.env.kindOf x.1=s.names.lookup x.1:=by show X.env.scope.names.lookup x.1=_;rw[e]
 rw[i];simpa using this
def D3(a:List Str)(scope:Scope)(N:List Str)(own:Nat)(ix:List Nat):=
 decide (N.length=own+ix.length)&&(List.range ix.length).all λi=>match N[own+i]?,ix[i]? with
  |some x,!j=>a[j]? == some x&&scope.names.lookup x == !.free
  |_,_=>true
def y9 b(e:X.N=b)(h:D3 b scope N own ix):Caps X scope N own ix:=by delta D3 at h;rw[Yn,YS]at h;exact#[h.1,λi j x f a=>?_];let c:=(Yo.mp a).1;have:=Yl.mp h.2 i<|Zg.mpr c;rw[f,a]at this;simp at this;rwa[e]
def cu:p8 X [] (tB' X.K bi):=λp s a H Q I h=>by
 let#[P,F,e,b,c,J,k]:=h;cases c;exact Cp p s a H Q I<|k F H<|Evo.refl J.toDHp
def wB{f:Dk}(h:PDT X c f):p8 X [c] (tB' X.K f):=EA h
def yA{is:List Nat}(h:(is.all λj=>decide (j<own))):∀j∈is,j<own:=λj m=>Yz<|Yl.mp h j m
def Hz{f:Do}:∀σ H Q,tD K (asO f) σ H Q->tO K f σ H Q:=λσ H Q=>un7 λP F c d h I k=>by
 delta asO at h;cases q:f c with
 |none=>rw[q]at h;cases h
 |some o=>
  rw[q]at h;cases h;exact#[P,F,c,o,q,I,λa l j i e=>?_];exact k _ _ j (i.freeze I.toDHp _ λz q=>q)<|e.rep (cC λb q=>q.2) λb u q g=>by rwa[eS q]
section
variable{own:Nat}{ix is:List Nat}{f:Dl}{st:Dq}{c:Dk}{e:Dd}
def vE{y}(hN:X.N.Nodup)(hiN:X.N[i]?=!y)(hx:Loc X.env.scope y)(hcalm:X.calm)(b:BlkScope X scope)(cp:Caps X scope N own ix)(his:∀j∈is,j<own)(hi:PDI X tg iter f)(l:∀s H fp pz,PDG (blk X scope N s H fp pz) tg is st)(o:∀s H fp pz,p8 (blk X scope N s H fp pz) ifs<|tB' X.K c)(he:∀s H fp pz,PDE (blk X scope N s H fp pz) elt e)(hnames:∀y∈scope.names,y.2=.local->scope.names.lookup y.1=!.local)(h:swapsWith (.ListComp elt [#[tg,iter,ifs,0]] scope pos) (some<|.Name y py) spos.line X.env=pure true:=by rfl)(hs:FsI iter X:=by intro _;rfl)(m:FnL X y:=by trivial):PD1 X (.Assign [.Name y py] (.ListComp elt [#[tg,iter,ifs,0]] scope pos) spos) (ck i<|asL<|aR own ix f st c e):=
 PS.imp (qy (g:=tG X.K is st) (te:=tD X.K e) hcalm hN hiN hx b cp hi l o he h hnames hs m) λE a H q=>tH his a H _<|EK E a H q
def yy{y}(hN:X.N.Nodup)(hiN:X.N[i]?=!y)(hx:Loc X.env.scope y)(hcalm:X.calm)(b:BlkScope X scope)(cp:Caps X scope N own ix)(his:∀j∈is,j<own)(hi:PDI X tg iter f)(l:∀s H fp pz,PDG (blk X scope N s H fp pz) tg is st)(o:∀s H fp pz,p8 (blk X scope N s H fp pz) ifs<|tB' X.K c)(he:∀s H fp pz,PDE (blk X scope N s H fp pz) elt e)(hnames:∀y∈scope.names,y.2=.local->scope.names.lookup y.1=!.local)(h:swapsWith (.ListComp elt [#[tg,iter,ifs,0]] scope pos) (some<|.Name y py) spos.line X.env=pure true:=by rfl)(hs:FsI iter X:=by intro _;rfl)(m:FnL X y:=by trivial):PD1 X (.Assign [.Name y py] (.ListComp elt [#[tg,iter,ifs,0]] scope pos) spos) (aW i<|asO<|asL<|aR own ix f st c e):=
 PS.imp (qy (g:=tG X.K is st) (te:=tD X.K e) hcalm hN hiN hx b cp hi l o he h hnames hs m) λE a H q=>tH his a H _<|Hz a H _<|Cm E a H q
end
def LS(n p:Nat)(g:Dw)(o:OD)(xs:List DV)(q:OD×D):=xs.length+1=p/\q.1.flat/\∀a,∃r,g (aK n p (.own o (!a)::xs))=!r/\mS a q.1 q.2 r
def yb(n p:Nat)(g:Dw)(o:OD)(xs:List DV):=
 open Classical in if h:∃q,LS n p g o xs q then !h.choose else ()
def Gf{n p}:∀a o xs o' d,yb n p g o xs=!(o',d)->xs.length+1=p/\o'.flat/\∃r,g (aK n p (.own o (!a)::xs))=!r/\mS a o' d r:=by
 intro a o xs o' d h;delta yb at h;split at h
 .rename_i e;let#[f,c,b]:=e.choose_spec;rw[YG h]at c b;exact#[f,c,b a]
 .cases h
def rC{o}(h:mS a o d r)(h':mS a o' d' r):(o,d)=(o',d'):=by
 cases r with
 |nx ρ=>let#[f,e]:=h;let#[b,c]:=h';rw[f]at b;cases b;rw[e,c]
 |rt x ρ=>let#[f,e]:=h;let#[b,c]:=h';rw[e]at c;cases c;rw[f]at b;cases b;rfl
 |bk ρ=>cases h
 |ct ρ=>cases h
def ze{n p}{o}(f:xs.length+1=p)(i:o'.flat)(h:∀a,∃r,g (aK n p (.own o (!a)::xs))=!r/\mS a o' d r):yb n p g o xs=!(o',d):=by
 have b:∃q,LS n p g o xs q:=#[(o',d),f,i,h]
 delta yb;rw[dif_pos b];let#[_,_,j]:=b.choose_spec;let#[r,e,q]:=j 0;let#[m,l,c]:=h 0;rw[l]at e;cases e;exact YW some<|rC q c
end L2
namespace L2
open PySem PySem.Spec PySem.Calls PySem.W PyProof.Rows Builtin Builtin.ObjectAttr Builtin.Getset_descriptor
def ExAt(e C:Addr)(h:Heap):=∃o,h.get? e=!o/\o.cls=.ref C
def ExAt.type{e}(x:ExAt e C h):Looks M h (typeOf (.ref e)) (.ref C):=by let#[o,b,a]:=x;exact a ▸ (Looks.ld b).andThen .now
structure ExC (K:PySem.W.Frag) (C:Addr):Prop where
 ga:findIn K (.ref C) "__getattribute__"=!!(.builtin "BaseException.__getattribute__")
 noga:findIn K (.ref C) "__getattr__"=!none
 ha:findIn K (.ref C) "__class__"=!!(.builtin "object.__class__")
 hn:specialIn K (.builtin "object.__class__") "__get__"=!!(.builtin "getset_descriptor.__get__")
 htk:takesIn K (.builtin "object.__class__")=!true
 hm:mroIn K C (.type "object")=!true
 hb:mroIn K C (.type "BaseException")=!true
section
variable{e:Addr}
def H_(X:K.In h)(x:ExC K C):Looks M h (find (.ref e) (.ref C) "__class__") (.bind (.builtin "getset_descriptor.__get__") (.builtin "object.__class__")):=by let b:=looks_findIn (M:=M) X x.ha;have a:Looks M h (getOf<|!_) _:=looks_specialIn X x.hn;let L:=looks_takesIn (M:=M) X x.htk;exact b.andThen<|a.andThen ?_;exact(show Looks M h _ (!_)from L.andThen .now).andThen<|Looks.tag .now
theorem JS{R:Kr}{a}(X:K.In s.heap)(x:ExC K C)(I:ExAt e C s.heap)(h:R (.ok (.ret (.ref C))) s):codeAny (model prog w) A (.call (.builtin "getset_descriptor.__get__") #[[.builtin "object.__class__",.ref e,a],[]]) R s:=by
 let#[c,g,f,t,o]:=s;let i:=I.type (M:=model prog w);let L:=looks_mroIn (M:=model prog w) X x.hm;exact XW KF.slot_gs.plain KF.entry_gs ?_;exact KF.slot_gs.check _ _ _ _ _ _ _ _ KF.type_class (KF.args_gs _ _ _) ?_
 (delta Builtin.«getset_descriptor.__get__» descrGet;rw[dga_obj];exact Yd<|Yi ?_)
 (delta descrGetter descrCheckInstance descrNameAndClass isInstance;simp[KF.owner_class];repeat lk)
 have b:Code.quiet (.builtin "object.__class__" #[[.ref e],[]]):=XL _<|by decide+kernel
 (exact#[b,Zy KF.entry_class ?_];delta Builtin.«object.__class__» shownTypeOf;repeat lk)
 exact h
theorem Di{a:Value}{M:Model}{Q:Unit->Shared->Prop}(X:K.In s.heap)(x:ExC K C)(I:ExAt e C s.heap)(b:Q PUnit.unit s):wpAny M A (checkBuiltinCall "BaseException.__getattribute__" #[[.ref e,a],[]]) Q E s:=by
 have c:builtinKind "BaseException.__getattribute__"=!.slot:=by decide+kernel
 have h:splitId "BaseException.__getattribute__"=!("BaseException","__getattribute__"):=by decide+kernel
 let j:=PySem.F.args_bexc_ga (.ref e) a;let#[i,g,l,t,o]:=s;let f:=I.type (M:=M);let L:=looks_mroIn (M:=M) X x.hb;simp only[checkBuiltinCall,c,h];exact Yd ?_
 .delta isInstance;exact Yd (f.at (L.at ?_))
  repeat (first|wp_step)
  exact b
def Ec{Q}(X:K.In s.heap)(x:ExC K C)(I:ExAt e C s.heap)(h:Q (.done (.ret (.ref C))) s):wpAny (model prog w) A (Builtin.«object.__getattribute__» #[[.ref e,.str "__class__" tk],[]]) Q E s:=by
 let b:=I.type (M:=model prog w);let L:=H_ (e:=e) (M:=model prog w) X x;exact Yd<|Yi<|Yd<|Yi<|Yd<|b.at<|Yd<|L.at ?_;exact Yd<|Zs<|Vh<|JS X x I<|Yi h
theorem Ev s:bindSpecial (.builtin "BaseException.__getattribute__") s=pure (.builtin "BaseException.__getattribute__",[s]):=by
 have b:builtinKind "BaseException.__getattribute__"=!.slot:=by decide+kernel
 have a:withoutEnding? "BaseException.__getattribute__" "#opaque"=():=by decide+kernel
 have h:withoutEnding? "BaseException.__getattribute__" "#data"=():=by decide+kernel
 rfl
theorem LX{f a}(X:K.In s.heap)(x:ExC K C)(I:ExAt e C s.heap)(j:Q (.ref C) s):wpAny (model prog w) A (getAttrBy (.ref e) (.str "__class__" tk) f a) Q E s:=by
 let m:=I.type (M:=model prog w);let l:=looks_findIn (M:=model prog w) X x.ga;let L:=looks_findIn (M:=model prog w) X x.noga;have c:(a&&onTheHeap (Value.builtin "BaseException.__getattribute__"))=false:=by cases a<;>rfl
 have h:(Value.builtin "BaseException.__getattribute__" == Value.builtin "object.__getattribute__")=false:=by decide+kernel
 have b:(onTheHeap (Value.ref C)&&Value.builtin "BaseException.__getattribute__" == Value.builtin "object.__getattribute__")=false:=by rw[h];rfl
 exact Zs<|Yd<|m.at<|Yd<|l.at ?_;dsimp only;exact Yd ?_;exact L.at<|Yd<|wpAny_attempt<|Zs ?_
 delta callGetattribute boundAndCalled;rw[c,Ym Yj,Ev];exact Vh<|XW (by decide+kernel) F.entry_bexc_ga<|Di X x I<|Ec X x I ?_;exact Yi j
def Mf{Q:Ko}(X:K.In s.heap)(x:ExC K C)(I:ExAt e C s.heap)(h:Q (!.ref C) {s with toks:=s.toks+1}):wpAny (model prog w) A (getAttr? (.ref e) "__class__") Q E s:=by let#[a,g,d,t,o]:=s;exact Yd<|wpAny_mkText<|Yd<|wpAny_attempt ?_;exact LX X x I<|Yi h
def wo(x:ExC K C):KitX K (.ref e) (.ref C) (ExAt e C) where
 ty:=λ_ _ _ p=>p.type
 it:=λ_ _ X _=>by
  let#[m,a,b]:=Yx.mp x.hm;delta clsIn at a;split at a
  .rename_i o l g s f;intro A Q E w k q;exact Yd<|wpAny_loadPart (k _ _<|X _ _ f)<|Yi q
  .cases a
 ne:=λh i y j n u X c=>by
  let#[m,a,b]:=Yx.mp x.hm;exact Ut.mpr λq=>?_;let e:=Value.ref.inj<|Zk.mp q;subst e;delta clsIn at a;split at a
  .rename_i o l g s f;rw[X _ _ f]at c;cases c
  .cases a
 ca:=λX p k=>Mf X x p k
end
end L2
namespace L2
open PySem PySem.Spec PySem.Calls PySem.W PyProof.Rows
def ObjOk.isAt{P}{o}(x:ObjOk P w H h a o):∃u,h.get? a=!u:=by
 cases o with
 |lst xs=>let#[_,_,_,_,e]:=x;exact#[_,e]
 |tup xs=>let#[_,_,_,#[_,e,_],_]:=x;exact#[_,e]
 |dK kvs=>let#[_,_,_,_,_,_,_,e,_]:=x;exact#[_,e]
 |dT kvs=>let#[_,_,_,_,_,_,_,e,_]:=x;exact#[_,e]
 |set S n=>let#[_,_,_,_,e,_]:=x;exact#[_,e]
 |ins C dx fs=>let#[_,_,_,e,_]:=x;exact#[_,e]
 |own y=>exact x
 |xd fs=>let#[_,#[_,_,_,e,_],_]:=x;exact#[_,e]
 |rng lo hi=>let#[_,_,_,e]:=x;exact#[_,e]
 |frz ob u=>let#[e,_]:=x;exact#[_,e]
 |tbl q p=>let#[_,e,_]:=x;exact#[_,e]
 |met f y=>exact#[_,(show h.get? a=!_ from x)]
 |ext φ=>exact x.2.1
def HOk.miss{P}(x:HOk P w H h)(n:h.get? a=()):H a=():=by
 cases q:H a with
 |none=>rfl
 |some o=>
  let#[u,e]:=(x a o q).isAt;rw[n]at e;cases e
structure Thr (P:Program) (w:World) (C:Addr) (outer:List Env) (H:Hp) (s:Shared) (a:Addr) (a0:Value) (B:Heap) (H':Hp) (s':Shared):Prop where
 os:s'.os=s.os
 bare:AllBare s'.gens
 keep:∀b o,s.heap.get? b=!o->H b=none->b∉frs outer->B.get? b=!o
 slot:∀b o,s.heap.get? b=!o->H b=none->b∈frs outer->(∀vs,o.data≠.fields vs)/\∃sl,s'.heap.get? b=some {o with slots:=sl}
 free:∀b o,s.heap.get? b=!o->H b=none->H' b=none
 there:∀b o,s.heap.get? b=!o->b∉frs outer->∃o',B.get? b=!o'
 stl:∀b u,u.stl=true->H b=!u->H' b=!u
 hok:HOk P w H' B
 fly:Heap.FlyingW B outer a (.ref C) a0 s'.heap
def Thr.un{P}{a0}(t:Thr P w C outer H s a a0 B H' s')(i:∀b∈frs outer,H b=())(m:B.StaysIn h)(hs:s'.heap.UpToSlots h):Un (frs outer) [] H H' s.heap h where
 keep:=λb o q n c z=>m _ _<|t.keep b o q n c
 slot:=λb o q n c z=>by
  let#[g,p,l]:=t.slot b o q n c;let#[f,j]:=hs b _ l g;exact#[f,j]
 free:=λb o q n z=>t.free b o q n
 there:=λb o q z=>by
  by_cases c:b∈frs outer
  .let#[g,p,l]:=t.slot b o q (i b c) c;let#[f,j]:=hs b _ l g;exact#[_,j]
  .let#[u,e]:=t.there b o q c;exact#[u,m _ _ e]
 stl:=t.stl
def EN:List Value:=[.type "ValueError",.type "Exception",.type "BaseException",.type "object"]
open A in
def HC(X:K.In h)(q:excIn K C EN "ValueError.__new__"):∃bm N nm qn bs hdct sn sub ab col dd k0 k1 k2 k3 k5 mN,h.get? C=!(excClassObj nm qn C N bs bm hdct sn sub ab col dd k0 k1 k2 k3 k5 "ValueError.__new__")/\h.Ns N mN/\mN "__init__"=()/\OwnTail h EN bm:=by
 delta excIn at q;split at q
 case h_1 dd cd sl ho=>
  split at q
  case h_1 C' bm k0 k1 k2 k3 n k5 hm hs=>
   (rw[Yn,Yn,Yn,Yn,Yn,Zk,Zk,Zk]at q;let#[#[#[#[#[rfl,rfl],e],f],a],c]:=q)
   rcases cd with⟨nm,bs,m,o,qn,p,sn,sub,ab,col,b⟩
   have j:m=.ref C'::bm:=hm;have i:b=false:=by cases b with|false=>rfl|true=>cases e
   have g:sl=#[[k0,k1,k2,k3,some<|.builtin "ValueError.__new__",k5]]:=by rcases sl with⟨l⟩;exact YW Array.mk hs
   rw[j,i,g]at ho;exact#[_,_,_,_,_,_,_,_,_,_,_,_,_,_,_,_,_,X _ _ ho,.of_isNs<|isNs_of_in X a,nsMap_none_of_in X a c,tail_of_in X f]
  case h_2=>cases q
 case h_2=>cases q
def wY(X:Cx)(C:Addr)(R:Hp->Prop):=∀(p:Kp) (a:St) H s h e b,Inv X p a H s->Heap.MadeExcOf s.heap h e (.ref C) b->R H->X.xe (.ref e) {s with heap:=h }
def Cq{t}{i np p2 cpos pos}{R}(B:X.calm)(E:wY X C R)(A:Gl X x)(z:X.mg x=!.ref C)(q:excIn X.K C EN "ValueError.__new__")(hd:nDb x:=by decide)(hs:starEach [.Constant (.str t) i p2] X.env=[(false,eval (.Constant (.str t) i p2) X.env)]:=by rfl):PS X (.Raise (some<|.Call (.Name x np) [.Constant (.str t) i p2] [] cpos) () pos) (λv v H=>R H):=by
 intro p s f H D I h;let#[bm,N,nm,qn,bs,hdct,sn,sub,ab,col,dd,k0,k1,k2,k3,k5,mN,L,J,b,T]:=HC I.mod.kin q;exact wpAny_Raise_call_subT (nm:=nm) (q:=qn) (N:=N) (bs:=bs) (hdct:=hdct) (sn:=sn) (sub:=sub) (ab:=ab) (col:=col) (dd:=dd) (k0:=k0) (k1:=k1) (k2:=k2) (k3:=k3) (k5:=k5) F.excBase_ValueError (T.hasType qx) (I.ok.hd B) (by rw[hs];rfl) b<|gB I A z #[qx,?_] hd;let w:=aI yg bf hs;let l:=w cpos p s f H (λg c=>g.length=1/\R c) I #[qx,h];rw[hs]at l ⊢;exact VT<|bh l λu m g c a o j=>#[qx,?_,a.bk _ _ L,J.keeps a.bk,T.keeps a.bk,λM e y=>E p f c m M e u a y j.2];rw[<-o.length,j.1];decide
def Cx.caught(X:Cx)(a:Addr)(ob:Obj):={X with A:=X.A.mark<|some<|.ref a,calm:=false,pn:=(a,ob)::X.pn,xe:=λz z=>False}
def Inv.caught(I:Inv X pz σ H s)(h1:s.heap.get? a=!ob)(h2:H a=())(e:a≠X.env.locals)(c:a∉X.fs)(b:∀v,ob.data≠.cell v):Inv (X.caught a ob) pz σ H s:=
  #[#[I.ok.mod,I.ok.kind,I.ok.glob,I.ok.blt,I.ok.above,I.ok.inj,I.ok.has,I.ok.cab,(λz=>nomatch z),I.ok.frames,I.ok.stk,I.ok.exf,I.ok.bs,I.ok.bsz,I.ok.noex,I.ok.exfs,I.ok.funs,I.ok.frf,I.ok.tab],
   I.os,I.bare,I.base,I.loc,I.cell,I.free,I.freeC,λp h=>(Yt.mp h).elim (λz=>z ▸ #[h1,h2,e,c,b])<|I.pin p,I.hok,I.len]
def Inv.uncaught(ok:X.Ok)(I:Inv (X.caught a ob) pz σ H s):Inv X pz σ H s:=#[ok,I.os,I.bare,I.base,I.loc,I.cell,I.free,I.freeC,λp h=>I.pin p<|Yb _ h,I.hok,I.len]
def Inv.atEx(I:Inv (X.caught a ob) pz σ H s):s.heap.get? a=!ob:=(I.pin (a,ob)<|Ye ..).1
def G3{Q}(I:Inv X pz σ H s)(hN:X.N.Nodup)(hi:X.N[i]?=!x)(hk:X.env.scope.names.lookup x=!.local)(h:∀s',Inv X pz (σ.set i ()) H s'->Q PUnit.unit s'):wpAny M A (do bindName X.env x .none;unbindBehindTheSuite X.env x pos) Q E s:=by
 let#[m,Z,hl]:=id I.loc;have w:(X.env.scope.kind == .class||(X.env.scope.kind == .module&&X.env.locals != X.env.globals))=false:=by rw[I.ok.kind];rfl
 exact wpAny_nameGoes_keeps hk Z w λh' v C a=>?_;have B:∀b o,X.s₀.heap.get? b=!o->b≠X.env.locals:=λb o e=>Yy<|YA (Yv e) I.ok.above
 exact h _ #[I.ok,I.os,I.bare,#[λb o e n J l=>(a.2 b<|B b o e).trans<|I.base.keep b o e n J l,λb o e n J l=>(I.base.slot b o e n J l).imp λsl g=>(a.2 b<|B b o e).trans g,I.base.free,λb o e l=>(I.base.there b o e l).imp λo' g=>(a.2 b<|B b o e).trans g,I.base.stl],
  #[_,C,λj y P g f e3=>?_],λy c e=>(I.cell y c e).imp λO z=>z.sameBut a<|I.cne y c e,I.free,I.freeC,λp Y=>?_,λb u q=>?_,by simpa using I.len]
 .have L:j≠i:=λz=>by
   subst z;rw[Uu]at f;split at f
   .split at f<;>cases f
   .rename_i z;exact z qx
  rw[YY<|Xq L]at f;let#[R,S,q]:=hl j y P g f e3;exact#[R,S,q.imp (λz=>#[z.1,?_]) λ#[k,c,e,z]=>#[k,c,e,z.sameBut a<|I.cne y c e]];have T:y≠x:=λe=>L<|pB hN g<|e ▸ hi
  show(if y=x then v else m y)=_;rw[Ym T];exact z.2
 .let#[e,n,K,U,d]:=I.pin p Y;exact#[(a.2 p.1 K).trans e,n,K,U,d]
 .exact(I.hok b u q).stay (λc O hc e=>(a.2 c ?_).trans e) (λ_ q=>q) λ_ _ _ q=>q;rintro rfl;rcases hc with rfl|hc
  .rw[I.free]at q;cases q
  .rw[I.free]at hc;cases hc
def DInv.other{a}(I:DInv K P F H ρ σ)(hi:ρ[i]?=!())(c:a.length=σ.length)(h:∀j,j≠i->a[j]?=σ[j]?):DInv K P F H ρ a:=
 #[I.toDHp,I.len.trans c.symm,by
  let#[O,k]:=I.rep;exact#[O,λj x b=>?_];let#[v,f,e]:=k j x b;exact#[v,(h j λz=>by subst z;rw[hi]at b;cases b).trans f,e]]
def CXc(P:Program)(w:World)(cl:Nat->Addr):CXT:=λo H s E e c=>∃k a f B b,e=.ref a/\Thr P w (cl k) o H s a f B b c/\E (.ref<|cl k) () b
section
variable{P:Program}{cl:Nat->Addr}{E:XK}
def Inv.throwsC{e}{vs}k(I:Inv (b7 (CXc P w cl) P w K mg base N qual scope f cd A outer s H E) pz σ H1 s2)(hx:Heap.MadeExcOf s2.heap h' e (.ref (cl k)) vs)(Q:E (.ref (cl k)) () H1) :
  (b7 (CXc P w cl) P w K mg base N qual scope f cd A outer s H E).xe (.ref e) {s2 with heap:=h' }:=by
 have a:∀b:Addr,b∉([]):=λb z=>absurd z<|by simp
 have y:∀env∈(b7 _ P w K mg base N qual scope f cd A outer s H E).stack,∀b,env.frame=!b->b∈frs (b7 (CXc P w cl) P w K mg base N qual scope f cd A outer s H E).stack:=λenv M b O=>ZQ.mpr #[env,M,O]
 have J:∀b o,s.heap.get? b=!o->b∉frs outer->b∉frs (b7 _ P w K mg base N qual scope f cd A outer s H E).stack:=λb o q g z=>by
  rcases Yt.mp (I.stkSub b z)with z|z
  .exact absurd z<|Yy<|YA (Yv q) I.ok.above
  .exact g z
 exact wpAny_leaves_madeW I.ok.frames qx (λb o q=>of_hideAll _ q) (funFrames_hide I.stack y) hx λR t B v v L=>?_;exact#[k,e,.ref t,_,H1,qx,#[I.os,I.bare,λb o q n g=>?_,λb o q n g=>?_,λb o q n=>I.base.free b o q n<|a b,λb o q g=>?_,I.base.stl,λb o q=>?_,B],Q]
 .exact hideAll_get _ (I.base.keep b o q n g<|a b)<|J b o q g
 .let#[T,l]:=I.base.slot b o q n g<|a b;let#[_,p,x,i]:=I.ok.funs.mem g;have j:s.heap.get? b=!p:=x;rw[q]at j;cases j;let#[m,S]:=L b _ (hx.keeps _ _ l) i;exact#[i,m,S]
 .let#[p,l]:=I.base.there b o q<|a b;exact#[p,hideAll_get _ l<|J b o q g]
 .exact(I.hok b o q).stay (λc u hc l=>hideAll_get _ l λz=>?_) (λv z=>z) λv v v z=>z;let C:=I.stkFree c z;rcases hc with rfl|hc
  .rw[C]at q;cases q
  .rw[C]at hc;cases hc
def Inv.passesC{a0}k(I:Inv (b7 (CXc P w cl) P w K mg base N qual scope f cd A outer s H E) pz σ H1 s1)(t:Thr P w (cl k) (b7 (CXc P w cl) P w K mg base N qual scope f cd A outer s H E).stack H1 s1 a a0 B H2 s2)(R:E (.ref (cl k)) () H2) :
  (b7 (CXc P w cl) P w K mg base N qual scope f cd A outer s H E).xe (.ref a) s2:=by
 have c:∀b:Addr,b∉([]):=λb z=>absurd z<|by simp
 have x:∀b o,s.heap.get? b=!o->b∉frs outer->b∉frs (b7 _ P w K mg base N qual scope f cd A outer s H E).stack:=λb o q g z=>by
  rcases Yt.mp (I.stkSub b z)with z|z
  .exact absurd z<|Yy<|YA (Yv q) I.ok.above
  .exact g z
 have M:∀b,b∈frs outer->b∈frs (b7 (CXc P w cl) P w K mg base N qual scope f cd A outer s H E).stack:=λb z=>by
  let#[e,O,Q]:=ZQ.mp z;exact ZQ.mpr #[e,Yb _ O,Q]
 have p:∀b o,s.heap.get? b=!o->H b=()->∃j,s1.heap.get? b=!j:=λb o q n=>by
  by_cases y:b∈frs outer
  .let#[L,h]:=I.base.slot b o q n y<|c b;exact#[_,h]
  .exact#[_,I.base.keep b o q n y<|c b]
 exact wpAny_leaves_onW I.ok.frames qx t.fly λU m C=>?_;exact#[k,a,a0,B,H2,qx,#[t.os.trans I.os,t.bare,λb o q n g=>?_,λb o q n g=>?_,λb o q n=>?_,λb o q g=>?_,λb u s e=>t.stl b u s<|I.base.stl b u s e,t.hok,m],R]
 .exact t.keep b o (I.base.keep b o q n g<|c b) (I.base.free b o q n<|c b)<|x b o q g
 .let#[L,h]:=I.base.slot b o q n g<|c b;let#[l,J,T]:=t.slot b _ h (I.base.free b o q n<|c b)<|M b g;let#[i,S]:=C b _ T l;exact#[l,i,S]
 .let#[j,h]:=p b o q n;exact t.free b j h<|I.base.free b o q n<|c b
 .let#[j,h]:=I.base.there b o q<|c b;exact t.there b j h<|x b o q g
def M4:i8 (CXc P w cl) (b7 (CXc P w cl) P w K mg base N qual scope f cd A outer s H E) E:=λz z z z z z I h=>by
 let#[k,a,c,B,e,rfl,t,b]:=h;exact I.passesC k t b
def Hi k:wY (b7 (CXc P w cl) P w K mg base N qual scope f cd A outer s H E) (cl k) λH'=>E (.ref (cl k)) () H':=λz z z z z z z I h a=>I.throwsC k h a
end
inductive XR where
 |go (r:RES)
 |ex (k:Nat)
def EndsX(K:Kq)(cl:Nat->Addr)(E:XK)(P F:Hp)(D:kJ):XR->Prop
 |.go r=>EndsD K P F D r
 |.ex k=>∀a H,Same F a->DHp P a H->E (.ref<|cl k) () H
def EndsX.ext{E}{D}(h:EndsX K cl E P F D r)(e:Same F F1):EndsX K cl E P F1 D r:=by
 cases r with
 |go r=>exact EndsD.ext h e
 |ex k=>exact λc H b a=>h c H (e.trans b) a
def tSX(K:Kq)(cl:Nat->Addr)(E:XK)(g:DF->Option XR):TS:=λD b H=>∃P F a r,g a=!r/\DInv K P F H a b/\EndsX K cl E P F D r
def PX1(X:Cx)(cl:Nat->Addr)(E:XK)(st:Stmt)(g:DF->Option XR):=PS X st<|tSX X.K cl E g
def PXS(X:Cx)(cl:Nat->Addr)(E:XK)(sts:List Stmt)(g:DF->Option XR):=PSs X sts<|tSX X.K cl E g
def xOf(g:Dw):DF->Option XR:=λρ=>(g ρ).map .go
def xNx:DF->Option XR:=λρ=>some<|.go<|.nx ρ
def xEx(k:Nat):DF->Option XR:=λz=>some<|.ex k
def vC(g h:DF->Option XR):DF->Option XR:=λa=>match g a with
 |some (.go<|.nx ρ')=>h ρ'
 |r=>r
def xIf(c:Dk)(g h:DF->Option XR):=λa=>(c a).bind λb=>if b then g a else h a
section
variable{cl:Nat->Addr}{E:XK}{bU:List Stmt}
def Ni(h:PD1 X st g):PX1 X cl E st (xOf g):=PS.imp h λD e H=>un7 λP F b r a I k=>by
 delta xOf at a;cases q:g b with
 |none=>rw[q]at a;cases a
 |some c=>
  rw[q]at a;cases a;exact#[P,F,b,c,q,I,k]
def Gs:PXS X cl E [] xNx:=PSs.imp zc λD a H=>un7 λP F b r h I k=>by
 cases h;exact k a F H (Same.refl _) I
open A in
def vN{g h}(h1:PX1 X cl E st g)(h2:PXS X cl E bU h):PXS X cl E (st::bU) (vC g h):=PSs.imp (vo h1 h2) λD l H=>un7 λP F b r c I k=>by
 delta vC at c;split at c
 .rename_i a q;exact#[P,F,b,_,q,I,λf j m e i=>#[P,j,a,r,c,i,k.ext e]]
 .rename_i q;exact#[P,F,b,r,c,I,?_];cases r with
  |ex k'=>exact k
  |go r=>
   cases r with
   |nx a=>exact absurd c<|q a
   |bk b=>exact k
   |ct b=>exact k
   |rt x b=>exact k
def yM{g}(h1:PX1 X cl E st g):PXS X cl E [st] g:=PSs.imp (tQ h1) λz z z q=>q
def Mt{a b}{fc:Dk}{g h}(l:PDT X c fc)(o:PXS X cl E a g)(m:PXS X cl E b h):PX1 X cl E (.If c a b pos) (xIf fc g h):=PS.imp (Iz l o m) λD p H=>un7 λP F f r e I k=>by
 delta xIf at e;cases q:fc f with
 |none=>rw[q]at e;cases e
 |some b=>
  rw[q,Ya]at e;exact#[P,F,f,b,q,I,λj s i=>?_];cases b with
  |true=>
   exact#[P,j,f,r,e,I.evo i,k.ext i.ext]
  |false=>
   exact#[P,j,f,r,e,I.evo i,k.ext i.ext]
def DP{t}{i np p2 cpos}(e:X.calm)(f:wY X (cl k) λH'=>E (.ref (cl k)) () H')(b:Gl X x)(h:X.mg x=!.ref (cl k))(q:excIn X.K (cl k) EN "ValueError.__new__")(hd:nDb x:=by decide)(hs:starEach [.Constant (.str t) i p2] X.env=[(false,eval (.Constant (.str t) i p2) X.env)]:=by rfl):PX1 X cl E (.Raise (some<|.Call (.Name x np) [.Constant (.str t) i p2] [] cpos) () pos) (xEx k):=PS.imp (Cq e f b h q hd hs) λD g H=>un7 λP F j r c I a=>by
 cases c;exact a F H (Same.refl _) I.toDHp
end
def v8(K:Kq)(cl:Nat->Addr)(rz:List DV->Option Nat):Sp:=λc H z E=>∃P F x k,rz x=!k/\DHp P F H/\DVs K P F H x c/\∀b a,Same F b->DHp P b a->E (.ref<|cl k) () a
def rzX(n p:Nat)(g:DF->Option XR):List DV->Option Nat:=λx=>if x.length=p then(match g (aK n p x)with|some (.ex k)=>!k|_=>())else ()
def Fun.thrX{P}{g}(F:Fun K x qual st f fd)(S:FnScope N ps (defScope st))(h:∀cdv A outer s H E,Room k (A.deeper<|envOfC qual (defScope st) s.heap.objs.size f cdv)->PXS (b7 (CXc P w cl) P w K mg base N qual (defScope st) f cdv A outer s H E) cl E (defBody st) g):FnOk P w K mg base (CXc P w cl) (k+1) f fd ps (v8 K cl<|rzX N.length ps.length g):=by
 have l:∀b H Q E,v8 K cl (rzX N.length ps.length g) b H Q E->b.length=ps.length:=λb H Q E z=>by
  let#[o,p,q,C,a,m,c,_]:=z;delta rzX at a;split at a
  .rename_i i;rwa[<-c.length]
  .cases a
 let#[R,O,kV,L,M,X,cdv,U,y,rfl,B,j]:=F.ex;exact zM B j S l λA outer s H b Q E I e=>#[_,h cdv A outer s H E I,?_]
 let#[o,p,q,C,a,m,c,J]:=e;delta rzX at a;split at a
 .rename_i i;split at a
  .rename_i T u;cases a;exact#[o,p,_,_,u,DInv.start N ps.length m c i,J]
  .cases a
 .cases a
def IG(g:Dv)(rz:List DV->Option Nat):DF->Option XR:=λa=>(g a).bind λx=>(rz x).map .ex
end L2
namespace L2
open PySem PySem.Spec PyProof.Rows
open PySem.Calls PySem.W PySem.Builtin PySem.Builtin.Str
end L2
namespace L2
open PySem PySem.Spec PySem.Calls PySem.W PyProof.Rows
def Md(X:Cx)(body:List Stmt)(cl:Nat->Addr)(rz:DF->Option Nat):=
 ∀(p:Kp) s (c:St) H P F f k Q (E:Kv),Inv X p c H s->rz f=!k->DInv X.K P F H f c->
  (∀a l B e b h j i g,Inv X p c b h->Evo P F H e b->Thr X.prog X.w (cl k) X.stack b h a l B i g->Same e j->DHp (gd e b) j i->E (.ref a) g)->wpAny (model X.prog X.w) X.A (execs body X.env) Q E s
def Aw{E}:PXS X cl E sts (λz=>()):=PSs.imp Bw λD a H h=>by
 let#[_,_,_,_,h,_]:=h;cases h
end L2
namespace L2
open PySem PySem.Spec PyProof.Rows
open PySem.Calls PySem.W
end L2
namespace L2
open PySem PySem.Spec PyProof.Rows
def isI:D->Bool
 |.int _=>true
 |_=>false
def toI:D->Int
 |.int i=>i
 |_=>0
def GG(h:Vals (ns.map V.int) us):IntsAre us ns:=by
 induction ns generalizing us with
 |nil=>cases h;exact .nil
 |cons n ns ih=>
  cases h with
  |cons r t=>
   let#[a,rfl]:=r;exact .cons n a<|ih t
def jQ:∀{vs}{ds},Reps K F vs ds->ds.all isI->vs=(ds.map toI).map V.int:=by
 intro vs ds h;exact Reps.ind (M:=λvs ds=>ds.all isI->vs=(ds.map toI).map V.int) (λz=>rfl) (λ{v d vs ds} r _ ih q=>?_) h;rw[List.all_cons,Yn]at q;cases d with
 |int i=>
  cases r;rw[ih q.2];rfl
 |_=>cases q.1
def gE:Stmt->Str
 |.FunctionDef n _ _ _ _ _ _ _ _ _=>n
 |_=>Str.empty
def dZ(s:Stmt):=(defArgs s).args.map (·.arg)
def Jf{α:Type}:Nat->(List α->Prop)->Prop
 |0,P=>P []
 |n+1,P=>∀a,Jf n λl=>P (a::l)
theorem En:∀{n}{P:List α->Prop},Jf n P->∀us,us.length=n->P us
 |0,_,h,us,e=>by rwa[Zl.mp e]
 |n+1,_,h,us,e=>by
  cases us with
  |nil=>cases e
  |cons a l=>exact En (h a) l<|VF e
def fnD(q:Str)(st:Stmt)(pm:Value)(c:Addr):=PySem.W.fnOf (gE st) q (defArgs st) (defBody st) (defScope st) .none .none .none pm () (.ref c) .none
def fO(q:Str)(st:Stmt)(pm:Value)(c:Addr):Obj:=#[.type "function",(),.func<|fnD q st pm c,#[[]]]
def LY(q:Str)(st:Stmt)(pm:Value)(c:Addr):=Jf (dZ st).length λu=>bindArgs (fnD q st pm c) #[u,[]]=pure ((dZ st).zip u)
structure Df (K:PySem.W.Frag) (q:Str) (st:Stmt) (f:Addr) (d:FuncData):Prop where
 fn:Fun K (gE st) q st f d
 bd:Binds K d (dZ st) []
def Nv{q}{c}(l:K.lookup f=!fO q st pm c)(h:PySem.W.codeIn K (.ref c) q)(k:PySem.W.keepIn K (.ref f))(b:LY q st pm c):Df K q st f (fnD q st pm c):=
 #[KW l h k,.all<|En b]
def xU(N P:List Str)(sc:Scope):=decide (sc.kind=.function)&&(not<|sc.isCoroutine)&&(not<|sc.isGenerator)&&decide N.Nodup&&decide (N.take P.length=P)&&(P.all λx=>sc.names.lookup x == some .local||sc.names.lookup x == !.cell)&&sc.names.all λy=>y.2 != .free
def scI N{P}{s}(h:xU N P s:=by kernel_rfl):FnScope N P s:=by delta xU at h;simp only[Yn,YS,Bool.not_eq_true',Yl,Bool.or_eq_true,Zk,bne_iff_ne]at h;let#[#[#[#[#[#[i,g],f],e],c],b],a]:=h;exact#[i,g,f,e,c,b,a]
section
variable{P:Program}{q:Str}{k:Nat}
def Df.okI(F:Df K q st f fd) N (b:∀{cdv}{A}{outer}{s}{H}{E},Room k (A.deeper (envOfC q (defScope st) s.heap.objs.size f cdv))->
      PDS (b7 CX0 P w K mg base N q (defScope st) f cdv A outer s H E).nox (defBody st) g) (h:xU N (dZ st) (defScope st):=by kernel_rfl):FnOk P w K mg base CX0 (k+1) f fd (dZ st) (spD K (mOf N.length (dZ st).length g)):=
  F.fn.okD (scI N h) λz z z z z z a=>b a
def Df.okJ(F:Df K q st f fd) N (b:∀{cdv}{A}{outer}{s}{H}{E},Room k (A.deeper (envOfC q (defScope st) s.heap.objs.size f cdv))->
      PDS (b7 CX0 P w K mg base N q (defScope st) f cdv A outer s H E).nox (defBody st) g) (h:xU N (dZ st) (defScope st):=by kernel_rfl):FnOk P w K mg base CX0 (k+1) f fd (dZ st) (spM K (yb N.length (dZ st).length g)):=
  F.fn.okM (scI N h) Gf λz z z z z z a=>b a
def Df.thrI{g}(F:Df K q st f fd) N (b:∀{cdv}{A}{outer}{s}{H}{E},Room k (A.deeper (envOfC q (defScope st) s.heap.objs.size f cdv))->
      PXS (b7 (CXc P w cl) P w K mg base N q (defScope st) f cdv A outer s H E) cl E (defBody st) g) (h:xU N (dZ st) (defScope st):=by kernel_rfl):FnOk P w K mg base (CXc P w cl) (k+1) f fd (dZ st) (v8 K cl (rzX N.length (dZ st).length g)):=
  F.fn.thrX (scI N h) λz z z z z z a=>b a
end
section
variable(i:Nat)
def ndI(h:decide N.Nodup:=by kernel_rfl):N.Nodup:=Yz h
section
variable(hN:X.N[i]?=!x:=by rfl) (hv:Vis X.env.scope x:=by trivial) (hd:nDb x:=by decide) (hcd:nDc x:=by decide)
include hN hv hd hcd
def aJ:PDE X (.Name x pos) (getV i):=IQ i<|pv i hN hv hd hcd
def aD:PDR X (.Name x pos) (am i):=KQ i<|pv i hN hv hd hcd
def a_:PDN X (.Name x pos) (aw i):=IX i<|pv i hN hv hd hcd
def qP:t6 X (.Name x pos) (bz i):=FT i<|pv i hN hv hd hcd
def jW:PDI X tg (.Name x pos) (bY i):=Hv i<|pv i hN hv hd hcd
end
def bg{g}(h:i3 X es g)(hN:X.N[i]?=!x:=by rfl)(hv:Vis X.env.scope x:=by trivial)(hd:nDb x:=by decide)(hcd:nDc x:=by decide)(hs:starEach (.Name x pos::es) X.env=(false,eval (.Name x pos) X.env)::starEach es X.env:=by rfl):i3 X (.Name x pos::es) (aB i g):=Mi i (pv i hN hv hd hcd) h hs
section
variable{f:Dd}
def cJ(he:PDE X e f)(hi:X.N[i]?=!x:=by rfl)(hx:Loc X.env.scope x:=by trivial)(hs:swapsWith e (!.Name x pos') pos.line X.env=pure false:=by rfl)(h:FnL X x:=by trivial)(hN:decide X.N.Nodup:=by kernel_rfl):PD1 X (.Assign [.Name x pos'] e pos) (aW i f):=I8 (ndI hN) hi hx he hs h
def l8(he:PDO X e fo)(hi:X.N[i]?=!x:=by rfl)(hx:Loc X.env.scope x:=by trivial)(hs:swapsWith e (!.Name x pos') pos.line X.env=pure false:=by rfl)(h:FnL X x:=by trivial)(hN:decide X.N.Nodup:=by kernel_rfl):PD1 X (.Assign [.Name x pos'] e pos) (ck i fo):=Hw (ndI hN) hi hx he hs h
end
def cD(hi:X.N[i]?=!x:=by rfl)(hx:Loc X.env.scope x:=by trivial)(h:FnL X x:=by trivial)(hN:decide X.N.Nodup:=by kernel_rfl):PDG X (.Name x pos) [i] (setV i):=B0 (ndI hN) hi hx h
def pgI(hi:X.N[i]?=!x:=by rfl)(hx:Loc X.env.scope x:=by trivial)(h:FnL X x:=by trivial)(hN:decide X.N.Nodup:=by kernel_rfl):PG X (.Name x pos) (ng i):=yB (ndI hN) hi hx h
end
section
variable{f:Dl}{st:Dq}{c:Dk}{e:Dd}{y:Str}(i:Nat) (N:List Str) (own:Nat) (ix is:List Nat) (hi:PDI X tg iter f)(hg:∀{s H fp pz},PDG (blk X scope N s H fp pz) tg is st) (hc:∀{s H fp pz},p8 (blk X scope N s H fp pz) ifs (tB' X.K c)) (he:∀{s H fp pz},PDE (blk X scope N s H fp pz) elt e)
section
variable(hcalm:X.calm=true:=by rfl) (hb:EE X.env.scope scope=true:=by kernel_rfl) (cp:D3 X.N scope N own ix=true:=by kernel_rfl) (his:(is.all λj=>decide (j < own))=true:=by kernel_rfl) (hnames:decide (∀y∈scope.names,y.2=.local->scope.names.lookup y.1=!.local)=true:=by kernel_rfl)(hs:FsI iter X:=by intro _;rfl)
include hi hg hc he hcalm hb cp his hnames hs
def eC:PDO X (.ListComp elt [#[tg,iter,ifs,0]] scope pos) (asL (aR own ix f st c e)):=
 EH hcalm (zN _ qx hb) (y9 _ qx cp) (yA his) hi (λz z z z=>hg) (λz z z z=>hc) (λz z z z=>he) (Yz hnames) hs
end
section
variable(hiN:X.N[i]?=!y:=by rfl) (hx:Loc X.env.scope y:=by trivial) (hN:decide X.N.Nodup=true:=by kernel_rfl) (hcalm:X.calm=true:=by rfl) (hb:EE X.env.scope scope=true:=by kernel_rfl) (cp:D3 X.N scope N own ix=true:=by kernel_rfl) (his:(is.all λj=>decide (j < own))=true:=by kernel_rfl) (hnames:decide (∀y∈scope.names,y.2=.local->scope.names.lookup y.1=!.local)=true:=by kernel_rfl)(hsw:swapsWith (.ListComp elt [#[tg,iter,ifs,0]] scope pos) (!.Name y py) spos.line X.env=pure true:=by rfl)(hs:FsI iter X:=by intro _;rfl) (hf:FnL X y:=by trivial)
include hf hiN hx hN hi hg hc he hcalm hb cp his hnames hs hsw
def Hs:PD1 X (.Assign [.Name y py] (.ListComp elt [#[tg,iter,ifs,0]] scope pos) spos) (aW i (asO (asL (aR own ix f st c e)))):=
 yy (ndI hN) hiN hx hcalm (zN _ qx hb) (y9 _ qx cp) (yA his) hi (λz z z z=>hg) (λz z z z=>hc) (λz z z z=>he) (Yz hnames) hsw hs hf
def NZ:PD1 X (.Assign [.Name y py] (.ListComp elt [#[tg,iter,ifs,0]] scope pos) spos) (ck i (asL (aR own ix f st c e))):=
 vE (ndI hN) hiN hx hcalm (zN _ qx hb) (y9 _ qx cp) (yA his) hi (λz z z z=>hg) (λz z z z=>hc) (λz z z z=>he) (Yz hnames) hsw hs hf
end
end
section
variable{k:Nat}{q:Str}{g:Dv}
def pcI(G:FnOk X.prog X.w X.K X.mg X.base CX0 k f fd (dZ sd) (spD X.K m))(D:Df X.K q sd f fd/\X.mg (gE sd)=!.ref f)(a:Room k' X.A)(i:i3 X (e::es) g)(hx:gE sd=x:=by rfl)(b:k<=k':=by first|decide|lia)(c:Gl X x:=by rfl)(hd:nDb x:=by decide)(he:starEach (e::es) X.env=(false,eval e X.env)::starEach es X.env:=by rfl)(h:(backTo pos<|starEach es X.env).any (·.1)=false:=by rfl):PDE X (.Call (.Name x p) (e::es) [] pos) (aj m g):=
 tF G (a.mono b) c (hx ▸ D.2) D.1.fn.kp D.1.bd i hd he h
def poI(G:FnOk X.prog X.w X.K X.mg X.base CX0 k f fd (dZ sd) (spD X.K m))(D:Df X.K q sd f fd/\X.mg (gE sd)=!.ref f)(a:Room k' X.A)(i:i3 X (e::es) g)(hx:gE sd=x:=by rfl)(b:k<=k':=by first|decide|lia)(c:Gl X x:=by rfl)(hd:nDb x:=by decide)(he:starEach (e::es) X.env=(false,eval e X.env)::starEach es X.env:=by rfl)(h:(backTo pos<|starEach es X.env).any (·.1)=false:=by rfl):PDO X (.Call (.Name x p) (e::es) [] pos) (ni m g):=
 Fd G (a.mono b) c (hx ▸ D.2) D.1.fn.kp D.1.bd i hd he h
end
def pfI{body}{f}{st}(hi:PDI X tg iter f)(a:PDG X tg is st)(c:PDS X body g)(h:PassesOwn (model X.prog X.w) X.A X.env X.xe:=by exact Ue)(b:X.calm:=by rfl)(hs:FsI iter X:=by intro _;rfl):PD1 X (.For tg iter body [] pos) (im f st g):=Js h b hi a c hs
structure Rw where
 (i a m t h c:Nat)
def lno:Stmt->Int
 |.FunctionDef _ _ _ _ _ _ _ _ _ p=>p.line
 |_=>0
def kE(P:Params)(x:Str)(t:Nat)(v:Value):DictEntry:=#[PyData.keyHash P x,.str x t,v]
def cO(n q:Str)(t:Nat)(l a:Int)(r:Nat)(c:Bool)(h:Nat)(f:Int):Obj:={cls:=.type "code",data:=.fields #[[.str n t,.str q<|t+1,.str "/claim/cut.py"<|t+2,.int l 0,.int a 0,.int 0 0,.int 0 0,.int 3 0,.ref r,.bool true,.int f 0,.ref<|r+1,.none,if c then .ref (r+2)else .none,if c then .ref (r+3)else .none,.ref<|if c then r+4 else r+2,.int h 0,.int l 0,.str "/claim/cut.py"<|h+1]]}
def eO(w a:Nat)(n:Str)(s x t u:Nat):Addr×Obj:=(a,{cls:=.type "type",data:=.cls {name:=n,bases:=[.ref w],mro:=[.ref a,.ref w,.type "ValueError",.type "Exception",.type "BaseException",.type "object"],ns:=s,qualname:=n},slots:=#[[some<|.ref x,(),some<|.str n t,some<|.str n u,some<|.builtin "ValueError.__new__",some<|.bool true]]})
abbrev DX:=DF->Option (D×DF)
def tX(K:Kq)(f:DX):TE:=λb H Q=>∃P F c r,f c=!r/\DInv K P F H c b/\∀v a e,Same F a->DInv K P a e r.2 b->Rep K a v r.1->Q v e
def PX(X:Cx)(e:Expr)(f:DX):=PE X e<|tX X.K f
def bW(f:Dd):DX:=λρ=>(f ρ).map (·,ρ)
def dn{e c:Type}{o}{f:e->c}{b}(h:o.map f=!b):∃a,o=!a/\b=f a:=by let#[a,i,g]:=YK.mp h;exact#[a,i,g.symm]
section
variable{f:DX}
def iG{g:Dd}(h:PDE X e g):PX X e (bW g):=PE.imp h λl H Q=>un7 λP F b r f I k=>by
 let#[d,q,rfl]:=dn f;exact#[P,F,b,d,q,I,λv j i a c=>k v j i a.ext (I.evo a) c]
def sj(i:Nat)(f:DX):DF->Option RES:=λa=>(f a).map λr=>.nx<|r.2.set i<|some<|.v r.1
def Oi i(he:PX X e f)(hi:X.N[i]?=!x:=by rfl)(hx:Loc X.env.scope x:=by trivial)(hs:swapsWith e (!.Name x pos') pos.line X.env=pure false:=by rfl)(c:FnL X x:=by trivial)(hN:decide X.N.Nodup:=by kernel_rfl) :
  PD1 X (.Assign [.Name x pos'] e pos) (sj i f):=PS.imp (uL (ndI hN) hi hx he hs c) λE o H=>un7 λP F a r h I k=>by
 let#[d,q,rfl]:=dn h;exact#[P,F,a,d,q,I,λv m l g j b=>k _ m l g<|j.setV i b]
def vJ(f:DX):DF->Option RES:=λa=>(f a).map λr=>.rt (.v r.1) r.2
def Gy(h:PX X e f):PD1 X (.Return (!e) pos) (vJ f):=PS.imp (pJ h) λE a H=>un7 λP F b r g I k=>by
 let#[d,q,rfl]:=dn g;exact#[P,F,b,d,q,I,λv m l i j c=>k v a m l i j c]
def jc(f:DX):DF->Option RES:=λa=>(f a).map λr=>.nx r.2
def uZ(h:PX X e f)(hs:swapsWith e () pos.line X.env=pure false:=by rfl):PD1 X (.Expr e pos) (jc f):=PS.imp (iP h hs) λE a H=>un7 λP F b r c I k=>by
 let#[d,q,rfl]:=dn c;exact#[P,F,b,d,q,I,λv l j g i z=>k a l j g i]
end
def spO(K:Kq)(f:Dz):Sp:=λi H Q z=>∃P F a c o x h d,i=.ref a::c/\f o x=!(h,d)/\DHp P F H/\ORep K F H (λb=>F b=()/\P b=()) o a/\DVs K P F H x c /\
 ∀v e g,Same F e->DHp P e g->ORep K e g (λb=>e b=()/\P b=()) h a->Rep K e v d->Q v g
def JA(n p:Nat)(g:Dw)(o:OD)(xs:List DV)(q:OD×D):=xs.length+1=p/\∀a,∃r,g (aK n p (.own o (!a)::xs))=!r/\mS a q.1 q.2 r
def qR(n p:Nat)(g:Dw)(o:OD)(xs:List DV):=
 open Classical in if h:∃q,JA n p g o xs q then !h.choose else ()
def z_{n p}{o}{q}(h:qR n p g o xs=!q):JA n p g o xs q:=by
 delta qR at h;split at h
 .rename_i a;rw[<-YG h];exact a.choose_spec
 .cases h
def k9{n p}{o}(f:xs.length+1=p)(h:∀a,∃r,g (aK n p (.own o (!a)::xs))=!r/\mS a o' d r):qR n p g o xs=!(o',d):=by
 have b:∃q,JA n p g o xs q:=#[(o',d),f,h]
 delta qR;rw[dif_pos b];let#[_,i]:=b.choose_spec;let#[r,e,q]:=i 0;let#[l,j,c]:=h 0;rw[j]at e;cases e;exact YW some<|rC q c
def DInv.startO{o}N p(h:DHp P F H)(j:ORep K F H (λb=>F b=()/\P b=()) o a)(r:DVs K P F H xs vs)(l:xs.length+1=p) :
  DInv K P F H (aK N.length p (.own o (!a)::xs)) (L2.start N (.ref a::vs)):=by
 exact#[h,?_,λy=>!0,λi x e=>?_]
 .delta aK L2.start;rw[Yr,Yr,Yc,Yc,YM,YM,Yq,Yq,<-r.length,l]
 .let g:=km e;cases i with
  |zero=>
   cases g;exact#[.ref a,g9 qx,a,qx,j.mono (Same.refl _) λb u q m=>#[m,q.1,q.2,rfl],λb z=>by cases z;rfl]
  |succ i=>
   let#[c,v,s,f]:=r.get g;exact#[v,g9<|by simpa using s,?_];cases x with
   |own o t=>cases c
   |v d=>exact f
   |bor o=>exact f
def Fun.okO{P}(F:Fun K x qual st f fd)(S:FnScope N ps (defScope st))(l:∀{cdv}{A}{outer}{s}{H}{E},Room k (A.deeper<|envOfC qual (defScope st) s.heap.objs.size f cdv)->
   PDS (b7 CX0 P w K mg base N qual (defScope st) f cdv A outer s H E).nox (defBody st) g):FnOk P w K mg base CX0 (k+1) f fd ps (spO K<|qR N.length ps.length g):=by
 exact F.ok S (λX H Q E L=>?_) λcdv A outer s H X Q E Y h=>?_
 .let#[O,R,a,B,o,U,T,d,e,M,_,_,J,_]:=L;rw[e,Yq,<-J.length];exact(z_ M).1
 .exact#[_,l Y,?_];let#[O,R,a,B,o,U,T,d,rfl,M,hp,ho,J,hQ]:=h;let#[hl,Z]:=z_ M;let#[r,hg,z]:=Z a;let I:=DInv.startO N ps.length hp ho J hl;exact#[O,R,_,r,hg,I,?_];have fin:∀c m i j v,c[0]?=!(some<|.own T<|!a)->Same R i->DInv K O i j c m->Rep K i v d->Q v j:=λc m i j v y e p C=>by
   let#[v',_,a',rfl,h3,h4]:=p.at y;let ea:=h4 a qx;subst ea;exact hQ v i j e p.toDHp (h3.mono (Same.refl _) λb u q hb=>#[hb,q.1,q.2.1]) C
  cases r with
  |nx c=>(let#[y,rfl]:=z;exact λm i j e p=>fin c m i j .non y e p .non)
  |rt x c=>(let#[rfl,y]:=z;exact λv m i j e p C=>fin c m i j v y e p C)
  |bk c=>exact z.elim
  |ct c=>exact z.elim
def Df.okO{P}{q}(F:Df K q st f fd) N (a:∀{cdv}{A}{outer}{s}{H}{E},Room k (A.deeper (envOfC q (defScope st) s.heap.objs.size f cdv))->
      PDS (b7 CX0 P w K mg base N q (defScope st) f cdv A outer s H E).nox (defBody st) g) (h:xU N (dZ st) (defScope st):=by kernel_rfl):FnOk P w K mg base CX0 (k+1) f fd (dZ st) (spO K (qR N.length (dZ st).length g)):=
  F.fn.okO (scI N h) a
def gdS(F H:Hp)(S:Addr->Prop):Hp:=λb=>open Classical in if S b then () else gd F H b
def pE{S}{b}{o}:gdS F H S b=!o↔¬S b/\F b=()/\H b=!o:=by
 delta gdS;by_cases h:S b
 .rw[Yk h];simp[h]
 .rw[Ym h,jr];simp[h]
def KR(s:Same F H)S:DHp (gdS F H S) F H:=#[s,λb o e=>(pE.mp e).2.2,λb o e=>(pE.mp e).2.1]
def DInv.hand{o}(I:DInv K P F H ρ σ)(hi:ρ[i]?=!!.own o t):∃(a:Addr) (S:Addr->Prop),σ[i]?=!(some<|.ref a)/\ORep K F H (λb=>F b=()/\gdS F H S b=()) o a/\DHp (gdS F H S) F H /\
   ∀{F2 H2}{o'},Same F F2->DHp (gdS F H S) F2 H2->ORep K F2 H2 (λb=>F2 b=()/\gdS F H S b=()) o' a->DInv K P F2 H2 (ρ.set i<|some<|.own o' t) σ:=by
 let#[O,B]:=I.rep;let#[v,C,a,rfl,R,M]:=B i _ hi;exact#[a,λb=>O b=!i/\P b=(),C,R.mono (Same.refl _) λb u q h=>#[h,q.1,?_],KR I.sub _,λ{F2 H2 o'} g f N=>?_]
 .delta gdS;exact Yk #[q.2.2,q.2.1]
 .have keep:∀b u,¬(O b=!i/\P b=())->F b=()->H b=!u->H2 b=!u/\F2 b=():=λb u h n q=>#[f.pro b u<|pE.mpr #[h,n,q],f.dis b u<|pE.mpr #[h,n,q]]
  let A:=λb u q=>keep b u (λz=>by rw[z.2]at q;cases q) (I.dis b u q)<|I.pro b u q
  exact#[#[f.sub,λb u q=>(A b u q).1,λb u q=>(A b u q).2],by rw[Zp];exact I.len,λb=>open Classical in if H b=() then !i else O b,λj z Q=>?_];rcases gq Q with⟨rfl,e,U⟩|⟨p,m⟩
  .cases e;exact#[_,C,a,qx,N.mono (Same.refl _) λb u q h=>#[h,q.1,?_],M];have n:F b=():=by
    cases c:F b with
    |none=>rfl
    |some w=>have:=g b w c;rw[q.1]at this;cases this
   cases c:H b with
   |none=>exact#[I.pro.free c,Yk c]
   |some w=>
    by_cases s:O b=!i/\P b=()
    .exact#[s.2,(Ym<|by rw[c];simp).trans s.1]
    .have:=(pE (S:=λb=>O b=!i/\P b=())).mpr #[s,n,c];rw[q.2]at this;cases this
  .let#[w,T,y]:=B j z m;exact#[w,T,?_];cases z with
   |v d'=>exact Rep.same g y
   |own od t'=>
    let#[c,rfl,x,l]:=y;exact#[c,qx,x.mono g λb E q h=>?_,l];let#[L,J]:=keep b E (λz=>by rw[q.2.2]at z;exact p (YG z.1).symm) q.1 h;exact#[L,J,q.2.1,(Ym<|by rw[h];simp).trans q.2.2]
   |bor od=>(let#[c,rfl,x]:=y;exact#[c,qx,x.mono g λb u q h=>#[h,q]])
def e8{vs}(h:All2 (λp (q:Str×FO)=>p.1=q.1/\FRep K F H ow q.2 p.2) vs fs):(fs.lookup n=()->vs.lookup n=())/\∀o,fs.lookup n=!o->∃v,vs.lookup n=!v/\FRep K F H ow o v:=by
 induction h with
 |nil=>exact#[λw=>rfl,λw e=>by cases e]
 |@cons p q _ _ h _ ih=>
  let#[x,v]:=p;let#[y,o]:=q;let#[e,r]:=h;cases e;simp[aY];by_cases e:n=x
  .rw[Yk e,Yk e];exact#[λz=>by(cases z),λa z=>by(cases z;exact#[v,qx,r])]
  .rwa[Ym e,Ym e]
def ge(n:Str)(o:FO):List (Str×FO)->List (Str×FO)
 |[]=>[(n,o)]
 |(m,x)::r=>if m=n then(m,o)::r else(m,x)::ge n o r
abbrev Kids(K:Kq)(F H:Hp)(ow:Addr->Prop)(vs:List (Str×V))(fs:List (Str×FO)):=All2 (λp q=>p.1=q.1/\FRep K F H ow q.2 p.2) vs fs
def FO.own:FO->Bool
 |.d _=>false
 |_=>true
section
variable{F:Hp}{n:Str}{vs:List (Str×V)}{fs:List (Str×FO)}{o o':FO}{v:V}{b:Addr}{u:HO}
def FRep.keep(h:FRep K F H ow o v)(k:∀c∈qO o v,H' c=H c):FRep K F H' ow o v:=by
 cases o with
 |d x=>exact h
 |lst ds=>let#[c,rfl,e,w,b,a]:=h;exact#[c,qx,e,w,(k c<|YO c).trans b,a]
 |dK ds=>let#[c,rfl,e,w,b,a]:=h;exact#[c,qx,e,w,(k c<|YO c).trans b,a]
def cz p q vs fs:gt (p::vs) (q::fs)=qO q.2 p.2++gt vs fs:=rfl
def Kids.keep(h:Kids K F H ow vs fs):(∀c∈gt vs fs,H' c=H c)->Kids K F H' ow vs fs:=by
 induction h with
 |nil=>exact λz=>.nil
 |cons r _ ih=>
  intro k;exact .cons #[r.1,r.2.keep λc m=>k c<|YL _ m]<|ih λc m=>k c<|YE _ m
def Kids.mem(h:Kids K F H ow vs fs):fs.lookup n=!o->vs.lookup n=!v->∀c∈qO o v,c∈gt vs fs:=by
 induction h with
 |nil=>exact λe=>by cases e
 |@cons p q _ _ r _ ih=>
  let#[x,w]:=p;let#[y,z]:=q;let#[e,r]:=r;cases e;intro b a c m;rw[aY]at b a;by_cases e:n=x
  .rw[Yk e]at b a;cases b;cases a;exact YL _ m
  .rw[Ym e]at b a;exact YE _<|ih b a c m
def Kids.upd(h:Kids K F H ow vs fs):(gt vs fs).Nodup->fs.lookup n=!o->o.own->vs.lookup n=!.ref b->FRep K F (upd H b u) ow o' (.ref b)->o'.own->Kids K F (L2.upd H b u) ow vs (ge n o' fs)/\gt vs (ge n o' fs)=gt vs fs:=by
 have j:∀{o},o.own->qO o (.ref b)=[b]:=λ{o} z=>by cases o<;>first|rfl|cases z
 induction h with
 |nil=>exact λv e=>by cases e
 |@cons p q vs fs r t ih=>
  let#[x,w]:=p;let#[y,z]:=q;let#[e,r]:=r;cases e;intro g f i a s l;rw[aY]at f a;rw[cz]at g ⊢;delta ge;by_cases e:n=x
  .rw[Yk e]at f a;cases f;cases a;rw[Yk e.symm,cz];rw[j i]at g ⊢;rw[j l];exact#[.cons #[qx,s]<|Kids.keep t λc m=>az λz=>by subst z;exact(Zd.mp g).1 m,qx]
  .rw[Ym e]at f a;rw[Ym λz=>e z.symm,cz];let#[C,B]:=ih (ZJ.mp g).2.1 f i a s l;let m:=Kids.mem t f a b (by rw[j i];exact YO b);exact#[.cons #[qx,r.keep λc A=>az λz=>by subst z;exact(ZJ.mp g).2.2 _ A _ m qx] C,by rw[B]]
def Kids.put{b}(h:Kids K F H ow vs fs):fs.lookup n=!.d d->Rep K F b d'->Kids K F H ow (dX n b vs) (ge n (.d d') fs)/\gt (dX n b vs) (ge n (.d d') fs)=gt vs fs:=by
 induction h with
 |nil=>exact λe=>by cases e
 |@cons p q vs fs r t ih=>
  let#[x,w]:=p;let#[y,z]:=q;let#[e,r]:=r;cases e;intro a c;rw[aY]at a;delta dX ge;by_cases e:n=x
  .rw[Yk e]at a;cases a;rw[Yk e.symm,Yk e.symm];exact#[.cons #[qx,c] t,qx]
  .rw[Ym e]at a;rw[Ym λz=>e z.symm,Ym λz=>e z.symm,cz,cz];let#[g,f]:=ih a c;exact#[.cons #[qx,r] g,by rw[f]]
end
section
variable{F:Hp}{C:Option Addr}{fs:List (Str×FO)}{t:Option Addr}{n:Str}
def DInv.one(I:DInv K P F H ρ σ){b}{u}{o}(hi:ρ[i]?=!!.own o t)(O:Addr->Option Nat)(p:∀j x,ρ[j]?=!!x->∃v,σ[j]?=!!v/\DVRep K P F H (λc=>O c=!j) x v)(J:F b=())(B:P b=())(s:O b=!i)(m:σ[i]?=!(some<|.ref a))(C:ORep K F (upd H b u) (λc=>F c=()/\P c=()/\O c=!i) o' a):DInv K P F (upd H b u) (ρ.set i<|some<|.own o' t) σ:=by
 exact#[#[λc w q=>?_,λc w q=>?_,I.dis],by rw[Zp];exact I.len,O,λj z E=>?_]
 .rw[az λz=>by subst z;rw[J]at q;cases q];exact I.sub c w q
 .rw[az λz=>by subst z;rw[B]at q;cases q];exact I.pro c w q
 .rcases gq E with⟨rfl,e,R⟩|⟨g,f⟩
  .cases e;let#[v,y,U,rfl,S,A]:=p i _ hi;rw[m]at y;cases y;exact#[_,m,a,qx,C,A]
  .let#[w,N,l]:=p j z f;exact#[w,N,?_];cases z with
   |v d=>exact l
   |own od t'=>
    let#[c,rfl,M,h]:=l;exact#[c,qx,M.mono (Same.refl _) λT Q q L=>#[by rwa[az λz=>by subst z;rw[q.2.2]at s;exact g (YG s).symm],q],h]
   |bor od=>exact l
def DInv.kid(I:DInv K P F H ρ σ)(hi:ρ[i]?=!!.own (.obj C fs) t){o}(h:o.own)(s:fs.lookup n=!o):∃a dx vs b,σ[i]?=!(some<|.ref a)/\H a=!bxO C dx vs/\F a=()/\vs.lookup n=!.ref b/\F b=()/\FRep K F H (λr=>True) o (.ref b) /\
   ∀u o',o'.own->(∀ow,ow b->FRep K F (upd H b u) ow o' (.ref b))->DInv K P F (upd H b u) (ρ.set i<|some<|.own (.obj C<|ge n o' fs) t) σ:=by
 let#[O,A]:=I.rep;let#[v,E,a,rfl,#[y,dx,vs,B,l,f],Q]:=A i _ hi;let#[w,m,j]:=(e8 f).2 o s;have N:∃b,w=.ref b/\(F b=()/\P b=()/\O b=!i):=by
  cases o with
  |d x=>cases h
  |lst ds=>let#[b,e,q,_]:=j;exact#[b,e,q]
  |dK ds=>let#[b,e,q,_]:=j;exact#[b,e,q]
 let#[b,rfl,g]:=N;have ad:qO o (.ref b)=[b]:=by cases o<;>first|rfl|cases h
 have J:b≠a:=λz=>(Zd.mp l).1<|z ▸ Kids.mem f s m b (by rw[ad];exact YO b)
 exact#[a,dx,vs,b,E,B,y.1,m,g.1,?_,λu o' p new=>?_]
 .cases o with
  |d x=>cases h
  |lst ds=>let#[c,e,_,q]:=j;exact#[c,e,trivial,q]
  |dK ds=>let#[c,e,_,q]:=j;exact#[c,e,trivial,q]
 .let#[M,L]:=Kids.upd f (Zd.mp l).2 s h m (new _ g) p;exact I.one hi O A g.1 g.2.1 g.2.2 E #[y,dx,vs,by rwa[az λz=>J z.symm],by rwa[L],M]
def DInv.fld(I:DInv K P F H ρ σ)(hi:ρ[i]?=!!.own (.obj C fs) t)(h:fs.lookup n=!.d d):∃a dx vs v,σ[i]?=!(some<|.ref a)/\H a=!bxO C dx vs/\F a=()/\vs.lookup n=!v/\Rep K F v d/\vs.length=fs.length /\
   ∀f d',Rep K F f d'->DInv K P F (upd H a<|bxO C dx<|dX n f vs) (ρ.set i<|some<|.own (.obj C<|ge n (.d d') fs) t) σ:=by
 let#[O,j]:=I.rep;let#[v,l,a,rfl,#[o,dx,vs,x,g,b],A]:=j i _ hi;let#[w,q,y]:=(e8 b).2 _ h;exact#[a,dx,vs,w,l,x,o.1,q,y,b.length,λf d' p=>?_];have e:Kids K F (upd H a<|bxO C dx<|dX n f vs) _ vs fs:=Kids.keep b λc m=>az λz=>by subst z;exact(Zd.mp g).1 m
 let#[u,s]:=Kids.put e h p;exact I.one hi O j o.1 o.2.1 o.2.2 l #[o,dx,dX n f vs,aC,by rwa[s],u]
end
def nn(C:Option Addr)(i:Nat)(ρ:DF):Option (List (Str×FO)):=match ρ[i]? with
 |some (some<|.own (.obj C' fs) _)=>if C'=C then !fs else ()
 |some (some<|.bor<|.obj C' fs)=>if C'=C then !fs else ()
 |_=>()
def Ef{C}(h:nn C i ρ=!fs):(∃t,ρ[i]?=!!.own (.obj C fs) t)\/ρ[i]?=!!.bor (.obj C fs):=by
 delta nn at h;split at h
 .rename_i a f t q;split at h
  .rename_i e;subst e;cases h;exact .inl #[t,q]
  .cases h
 .rename_i a f q;split at h
  .rename_i e;subst e;cases h;exact .inr q
  .cases h
 .cases h
def f8(C:Option Addr)(i:Nat)(n:Str):=λa=>(nn C i a).bind λfs=>match fs.lookup n with
 |some (.d d)=>!d
 |_=>()
def M5(C:Option Addr)(i:Nat)(n:Str):DF->Option D:=λa=>(nn C i a).bind λfs=>match fs.lookup n with
 |some (.lst ds)=>some<|.lst ds
 |some (.dK ds)=>some<|.dK ds
 |_=>()
def DInv.obj{C}(I:DInv K P F H ρ σ)(h:nn C i ρ=!fs):∃a dx vs,σ[i]?=!!.ref a/\H a=!bxO C dx vs/\F a=()/\Kids K F H (λb=>F b=()) vs fs:=by
 let f:=Ef h;have c:∃v,σ[i]?=!!v:=by
  rcases f with⟨t,q⟩|q
  .let#[v,e,_]:=I.at q;exact#[v,e]
  .let#[v,e,_]:=I.at q;exact#[v,e]
 let#[v,c]:=c;let#[a,rfl,o,dx,vs,j,_,g]:=I.slot c f;exact#[a,dx,vs,c,j,o,g]
section
variable{n:Str}
def pfB i(c:Cls X.K C)(j:NoAttr X.K C n)(h:PE X e (dM i))(m:attributeBase e n X.env (eval e X.env)=eval e X.env:=by rfl):PDE X (.Attribute e n pos) (f8 (!C) i n):=
 (uM h m).imp λy H Q=>un7 λP F z d b I k=>by
  let#[fs,q,b]:=Yx.mp b;split at b
  .rename_i A g;cases b;let#[a,x,f,s,p,_,o]:=I.obj q;let#[w,l,u]:=(e8 o).2 _ g;exact#[_,s,a,C,x,f,w,qx,p,c,j,l,k w F H (Evo.refl I.toDHp) u]
  .cases b
open A in
def prB i(c:Cls X.K C)(x:NoAttr X.K C n)(h:PE X e (dM i))(E:attributeBase e n X.env (eval e X.env)=eval e X.env:=by rfl):PDR X (.Attribute e n pos) (M5 (!C) i n):=
 (uM h E).imp λJ H Q=>un7 λP F L d f I k=>by
  let#[fs,q,f]:=Yx.mp f;let#[a,B,s,A,z,_,y]:=I.obj q;split at f
  .rename_i p l;cases f;let#[w,m,b,rfl,o,u,j,g]:=(e8 y).2 _ l;exact#[_,A,a,C,B,s,_,qx,z,c,x,m,k _ F H (Evo.refl I.toDHp)<|.inr #[b,.lst p,u,qx,o,j,g,qx,qx]]
  .rename_i p l;cases f;let#[w,m,b,rfl,o,u,j,g]:=(e8 y).2 _ l;exact#[_,A,a,C,B,s,_,qx,z,c,x,m,k _ F H (Evo.refl I.toDHp)<|.inr #[b,.dK p,u,qx,o,j,g,qx,qx]]
  .cases f
def mm(C:Option Addr)(i:Nat)(n:Str)(k:FO->Option FO):DF->Option DF:=λa=>match a[i]? with
 |some (some<|.own (.obj C' fs) t)=>if C'=C/\fs.length<1000 then(fs.lookup n).bind λo=>(k o).map λb=>a.set i (some<|.own (.obj C<|ge n b fs) t)else ()
 |_=>()
def sM{C}(h:mm C i n k ρ=!ρ'):∃fs t o o',ρ[i]?=!!.own (.obj C fs) t/\fs.lookup n=!o/\k o=!o'/\fs.length<1000/\ρ'=ρ.set i (!.own (.obj C (ge n o' fs)) t):=by
 delta mm at h;split at h
 .rename_i f fs t q;split at h
  .rename_i e;let#[rfl,c]:=e;let#[o,b,h]:=Yx.mp h;let#[o',a,rfl]:=dn h;exact#[fs,t,o,o',q,b,a,c,qx]
  .cases h
 .cases h
def F6{C}{dx f}{vs c}(h:bxO C dx vs=bxO C f c):vs=c:=by
 cases C with
 |some C=>injection h
 |none=>
  injection h with h;exact(List.map_inj_right (λa b e=>by let#[_,_]:=a;cases e;rfl)).mp h
def DInv.kid2{C}(I:DInv K P F H ρ σ)(hi:ρ[i]?=!!.own (.obj C fs) t){o}(h:o.own)(c:fs.lookup n=!o):∃a dx vs b,σ[i]?=!(some<|.ref a)/\H a=!bxO C dx vs/\vs.lookup n=!.ref b/\F b=()/\FRep K F H (λv=>True) o (.ref b)/\(∀{F1 H1},Evo P F H F1 H1->FRep K F1 H1 (λv=>True) o (.ref b) /\
   ∀u o',o'.own->(∀ow,ow b->FRep K F1 (upd H1 b u) ow o' (.ref b))->DInv K P F1 (upd H1 b u) (ρ.set i<|some<|.own (.obj C<|ge n o' fs) t) σ):=by
 let#[a,dx,vs,b,g,f,x,e,w,s,_]:=I.kid hi h c;exact#[a,dx,vs,b,g,f,e,w,s,λ{F1 H1} p=>?_];let#[B,z,q,A,m,l,_,j,_,y,back]:=(I.evo p).kid hi h c;rw[g]at m;cases m;rw[(p.keep a _ f x).1]at l;cases F6<|YG l;rw[e]at j;cases j;exact#[y,back]
def G1(d:D):FO->Option FO
 |.lst ds=>if ds.length<16777216 then !(.lst<|ds++[d])else ()
 |_=>()
def yF(C:Option Addr)(i:Nat)(n:Str)(f:Dd):DF->Option RES:=λa=>(f a).bind λd=>(mm C i n (G1 d) a).map .nx
def HA i{f:Dd}(c:Cls X.K C)(U:NoAttr X.K C n)(h:PE X o (dM i))(ha:PDE X e f)(Z:attributeBase o n X.env (eval o X.env)=eval o X.env:=by rfl)(j:attributeBase (.Attribute o n pos') "append" X.env (eval (.Attribute o n pos') X.env)=eval (.Attribute o n pos') X.env:=by rfl)
  (m:((backTo cpos<|starEach [e] X.env).all (λx=>(not<|x.1))&&(backToKw cpos<|keywordEach [] X.env).all (λx=>x.1.isSome)
   && decide (([e]).length+([]:List Keyword).length+(if([]:List Keyword).isEmpty then 0 else 1)<30)):=by rfl)
  (g:(apos.endLine == cpos.line):=by rfl) (hs:starEach [e] X.env=[(false,eval e X.env)]:=by rfl) (y:swapsWith (.Call (.Attribute (.Attribute o n pos') "append" apos) [e] [] cpos) () pos.line X.env=pure false:=by rfl) :
  PD1 X (.Expr (.Call (.Attribute (.Attribute o n pos') "append" apos) [e] [] cpos) pos) (yF (!C) i n f):=
 PS.imp (iP (qq ZI Xw Vi jJ (uM h Z) (aI ha bf hs) j m g hs qx) y) λE J H=>un7 λP F M r z I k=>by
  let#[d,Q,z]:=Yx.mp z;let#[L,q,rfl]:=dn z;let#[fs,t,o1,o2,S,R,l,_,rfl]:=sM q;delta G1 at l;split at l
  .rename_i A;split at l
   .rename_i Y;cases l;let#[a,dx,N,b,h1,h2,h4,h5,#[_,e0,_,u,B,p],w]:=I.kid2 S qx R;cases e0;cases u with
    |lst us=>
     exact#[_,h1,a,C,dx,N,_,qx,h2,c,U,h4,.inl #[rfl,us,SqL.of B],P,F,M,d,Q,I,λv F1 H1 s O=>?_];let#[_,back]:=w s;let p:=p;exact#[b,us,v,qx,qx,(s.keep b _ B h5).1,by rwa[YV,p.length],k J F1 _ s.ext ?_];exact back _ _ qx λow T=>#[b,qx,T,_,aC,(p.same s.ext).append<|.one O]
    |_=>exact p.elim
   .cases l
  .cases l
end
def Kids.add{vs}{fs}{o}{v}(h:Kids K F H ow vs fs):fs.lookup n=()->FRep K F H ow o v->Kids K F H ow (dX n v vs) (ge n o fs)/\gt (dX n v vs) (ge n o fs)=gt vs fs++qO o v:=by
 induction h with
 |nil=>exact λu r=>#[.cons #[qx,r] .nil,by show qO o v++[]=[]++qO o v;simp]
 |@cons p q vs fs r t ih=>
  let#[x,w]:=p;let#[y,z]:=q;let#[e,r]:=r;cases e;intro a b;rw[aY]at a;delta dX ge;by_cases e:n=x
  .rw[Yk e]at a;cases a
  .rw[Ym e]at a;rw[Ym λz=>e z.symm,Ym λz=>e z.symm,cz,cz];let#[f,c]:=ih a b;exact#[.cons #[qx,r] f,by rw[c,Zv]]
def Kids.mono{vs}(e:Same F F')(k:∀b u,ow b->H b=!u->H' b=!u/\ow' b)(h:Kids K F H ow vs fs):Kids K F' H' ow' vs fs:=h.imp λp q z=>#[z.1,z.2.mono e k λx=>x.same e]
def Kids.adr{vs}(h:Kids K F H ow vs fs):∀b∈gt vs fs,H b≠():=by
 induction h with
 |nil=>exact λz m=>nomatch m
 |@cons p q _ _ r _ ih=>
  intro b m;rcases Zc.mp m with m|m
  .let#[x,v]:=p;let#[y,o]:=q;cases o with
   |d x=>cases m
   |lst ds=>let#[_,c,rfl,_,u,a,_]:=r;cases Yu.mp m;rw[a];simp
   |dK ds=>let#[_,c,rfl,_,u,a,_]:=r;cases Yu.mp m;rw[a];simp
  .exact ih b m
def DInv.addF{C}{o}(I:DInv K P F H ρ σ)(ev:Evo P F H F1 H1)(hi:ρ[i]?=!!.own (.obj C fs) t)(T:fs.lookup n=())(hv:FRep K F1 H1 (λb=>H b=()/\F1 b=()) o v):∃a dx vs,σ[i]?=!(some<|.ref a)/\H1 a=!bxO C dx vs/\vs.length=fs.length/\DInv K P F1 (upd H1 a<|bxO C dx<|dX n v vs) (ρ.set i<|some<|.own (.obj C<|ge n o fs) t) σ:=by
 let#[O,L]:=I.rep;let#[w,M,a,rfl,#[p,dx,vs,B,N,e],ht]:=L i _ hi;let#[R,J]:=ev.keep a _ B p.1;exact#[a,dx,vs,M,R,e.length,?_];let I1:=I.evo ev
 let l:Addr->Option Nat:=λb=>open Classical in if H b=() then !i else O b
 have A:∀j x,ρ[j]?=!_->∃v,σ[j]?=!_/\DVRep K P F1 H1 (λc=>l c=!j) x v:=λj x S=>by
  let#[v,Z,Y]:=L j x S;exact#[v,Z,(Y.imp λb u r r h q=>(Ym<|by rw[h];simp).trans q).evo ev]
 have E:l a=!i:=(Ym<|by rw[B];simp).trans p.2.2;have f:Kids K F1 H1 (λc=>F1 c=()/\P c=()/\l c=!i) vs fs:=Kids.mono ev.ext (λb u q h=>#[(ev.keep b u h q.1).1,(ev.keep b u h q.1).2,q.2.1,(Ym<|by rw[h];simp).trans q.2.2]) e;have s:FRep K F1 H1 (λc=>F1 c=()/\P c=()/\l c=!i) o v:=FRep.mono (Same.refl _) (λb u q h=>#[h,q.2,I.pro.free q.1,Yk q.1]) (λx=>x) hv;have new:∀b∈qO o v,H b=():=λb m=>by
  cases o with
  |d x=>cases m
  |lst ds=>let#[c,rfl,q,_]:=hv;cases Yu.mp m;exact q.1
  |dK ds=>let#[c,rfl,q,_]:=hv;cases Yu.mp m;exact q.1
 let#[X,U]:=Kids.add f T s;have g:(a::gt (dX n v vs) (ge n o fs)).Nodup:=by
  rw[U,<-List.cons_append];exact ZJ.mpr #[N,?_,λx m y Q=>?_]
  .cases o with
   |d x=>exact Ul
   |lst ds=>let#[c,rfl,_]:=hv;exact Zd.mpr #[nofun,.nil]
   |dK ds=>let#[c,rfl,_]:=hv;exact Zd.mpr #[nofun,.nil]
  .rintro rfl;let z:=new _ Q;rcases Yt.mp m with rfl|m
   .rw[B]at z;cases z
   .exact Kids.adr e _ m z
 exact I1.one hi l A J p.2.1 E M #[#[J,p.2.1,E],dx,_,aC,g,Kids.keep X λc m=>az λz=>by subst z;exact(Zd.mp g).1 m]
def NS:OD->Option FO
 |.lst ds=>some<|.lst ds
 |.dK kvs=>some<|.dK kvs
 |_=>()
def addF(C:Option Addr)(i:Nat)(n:Str)(o:FO):DF->Option RES:=λa=>match a[i]? with
 |some (some<|.own (.obj C' fs) t)=>if C'=C/\fs.lookup n=()/\fs.length<1000 then !(.nx<|a.set i<|some<|.own (.obj C<|ge n o fs) t)else ()
 |_=>()
def zK{C}{o}(h:addF C i n o ρ=!r):∃fs t,ρ[i]?=!!.own (.obj C fs) t/\fs.lookup n=()/\fs.length<1000/\r=.nx (ρ.set i (!.own (.obj C (ge n o fs)) t)):=by
 delta addF at h;split at h
 .rename_i c fs t q;split at h
  .rename_i e;let#[rfl,b,a]:=e;cases h;exact#[fs,t,q,b,a,qx]
  .cases h
 .cases h
section
variable{n:Str}
def lg(C:Addr)(i:Nat)(n:Str)(f:Dd):=λa=>(f a).bind λd=>addF (!C) i n (.d d) a
def jK i{f:Dd}(c:Cls X.K C)(w:NoAttr X.K C n)(u:PE X o (dM i))(hv:PDE X value f)(hs:swapsWith value (!.Attribute o n pos') pos.line X.env=pure false:=by rfl) :
  PD1 X (.Assign [.Attribute o n pos'] value pos) (lg C i n f):=PS.imp (tw u hv hs) λE b H=>un7 λP F g r h I k=>by
 let#[d,q,h]:=Yx.mp h;let#[fs,t,s,p,m,rfl]:=zK h;exact#[P,F,g,d,q,I,λv B L e l=>?_];let#[a,A,j,z,y,x,J]:=I.addF e s p (o:=.d d) l;exact#[_,z,a,C,A,j,qx,y,c,w,by rwa[x],k b B _ e.ext J]
def xu(C:Addr)(i:Nat)(n:Str)(f:Do):=λa=>(f a).bind λo=>(NS o).bind λx=>addF (!C) i n x a
def EM i{f:Do}(c:Cls X.K C)(B:NoAttr X.K C n)(A:PE X o (dM i))(hv:PDO X value f)(hs:swapsWith value (!.Attribute o n pos') pos.line X.env=pure false:=by rfl) :
  PD1 X (.Assign [.Attribute o n pos'] value pos) (xu C i n f):=PS.imp (tw A hv hs) λE p H=>un7 λP F s r h I k=>by
 let#[l,q,h]:=Yx.mp h;let#[x,g,h]:=Yx.mp h;let#[fs,t,z,y,w,rfl]:=zK h;exact#[P,F,s,l,q,I,λb j R m e=>?_];have O:FRep X.K j R (λb=>H b=()/\j b=()) x (.ref b):=by
  cases l with
  |lst ds=>cases g;exact#[b,qx,e.1,e.2]
  |dK ds=>cases g;exact#[b,qx,e.1,e.2]
  |_=>cases g
 let#[a,Q,u,N,M,L,J]:=I.addF m z y O;exact#[_,N,a,C,Q,u,qx,M,c,B,by rwa[L],k p j _ m.ext J]
end
def wz(C:Addr)(m:Dz)(g:Dv):=λa=>(g a).bind λx=>match m (.obj (!C) []) x with
 |some (o',.non)=>!o'
 |_=>()
section
variable{k:Nat}{g:Dv}
def Bf(M:Mk X.K C f)(G:FnOk X.prog X.w X.K X.mg X.base CX0 k f fd ps (spO X.K mM))(hr:Room (k+1) X.A)(hg:Gl X x)(hm:X.mg x=!.ref C)(E:Binds X.K fd ps [])(ha:i3 X (e::es) g)(B:nDb x:=by decide)(he:starEach (e::es) X.env=(false,eval e X.env)::starEach es X.env:=by rfl)(m:(backTo pos<|starEach es X.env).any (·.1)=false:=by rfl):PDO X (.Call (.Name x p) (e::es) [] pos) (wz C mM g):=
 (yK M G hr hg hm E .nil k8 ha B he m).imp λσ H Q=>un7 λP F R Z h I k=>by
  let#[N,q,h]:=Yx.mp h;split at h
  .rename_i o' Y;cases h;exact#[P,F,R,N,q,I,λS j i J U y L l s hne=>?_];let a:=I.evo J;have sm:Same i (upd (upd i L<|.own y) y<|.ins C L []):=λb u z=>by rwa[az<|aX z l,az<|aX z s]
   exact#[gd j i,j,y,S,.obj _ [],N,Z,.non,by simp,Y,#[a.sub.trans sm,λb u z=>sm b u<|(fF a.sub).pro b u z,(fF a.sub).dis],#[#[a.sub.free l,(fF a.sub).pro.free l],L,[],aC,Zd.mpr #[nofun,.nil],.nil],(U.dvs a).heap,λv F2 H2 O o ho T=>?_];cases T;exact#[qx,k y F2 H2 (J.trans<|a.toDHp.gd O o)<|ho.mono (Same.refl _) λb u q E=>#[E,?_,q.1]];cases c:i b with
   |none=>exact J.back I.toDHp c
   |some w=>
    have n:j b=():=by
     cases d:j b with
     |none=>rfl
     |some z=>have:=O b z d;rw[q.1]at this;cases this
    have:=jr.mpr #[n,c];rw[q.2]at this;cases this
  .cases h
end
abbrev DXs:=DF->Option (List D×DF)
def tLX(K:Kq)(g:DXs):TA:=λb H Q=>∃P F c r,g c=!r/\DInv K P F H c b/\∀e a f,Same F a->DInv K P a f r.2 b->Reps K a e r.1->Q e f
def PAX(X:Cx)(es:List Expr)(g:DXs):=PA X es<|tLX X.K g
def lW:DXs:=λρ=>!([],ρ)
def bT(f:DX)(g:DXs):DXs:=λc=>(f c).bind λa=>(g a.2).map λb=>(a.1::b.1,b.2)
section
variable{f:DX}{g:DXs}
def nW:PAX X [] lW:=bf.imp λa H Q=>un7 λP F b r h I k=>by
 cases h;exact k [] F H (Same.refl _) I .nil
def eB(h:PX X e f)(t:PAX X es g)(hs:starEach (e::es) X.env=(false,eval e X.env)::starEach es X.env:=by rfl):PAX X (e::es) (bT f g):=PA.imp (aI h t hs) λA H Q=>un7 λP F j r c I k=>by
 let#[a,p,c]:=Yx.mp c;let#[b,q,rfl]:=dn c;exact#[P,F,j,a,p,I,λv z B s w o=>#[P,z,a.2,b,q,w,λl y x i u m=>k (v::l) y x (s.trans i) u<|.cons (o.same i) m]]
def Reps.dvs(h:Reps K F vs ds):DVs K P F H (ds.map .v) vs:=Reps.ind (M:=λvs ds=>DVs K P F H (ds.map .v) vs) .nil (λr z ih=>.cons qx r ih) h
def di(C:Addr)(mn:Str)(i:Nat)(m:Dz)(g:DXs):DX:=λb=>(nn (!C) i b).bind λfs=>if fs.lookup mn=() then(g b).bind λa=>match a.2[i]? with
  |some (some<|.own o t)=>(m o<|a.1.map .v).map λr=>(r.2,a.2.set i<|some<|.own r.1 t)
  |_=>() else ()
variable{k:Nat}
open A in
def C8{E}:∀σ H Q,tX K (di C mn i mM g) σ H Q->wx C mn (spO K mM) [] E (dM i) (tLX K g) σ H Q:=λσ H Q=>un7 λP F m r h I k=>by
 let#[fs,q,h]:=Yx.mp h;split at h
 .rename_i J;let#[a,z,h]:=Yx.mp h;split at h
  .rename_i A t y;let#[b,x,rfl]:=dn h;let#[p,T,o,e,M,_,L]:=I.obj q;exact#[_,e,p,T,o,qx,M,(e8 L).1 J,P,F,m,a,z,I,λu l Y R U w=>?_];let#[p',S,f,O,N,back]:=U.hand y;rw[e]at f;cases f;exact#[gdS l Y S,l,p,u,A,a.1.map .v,b.1,b.2,by simp,x,N,O,w.dvs,λv Z X j c B s=>?_];exact k v Z X (R.trans j) (back j c B) s
  .cases h
 .cases h
def G6 i{pl}(c:Cls X.K C)(m:Meth X.K C mn f')(G:FnOk X.prog X.w X.K X.mg X.base CX0 k f' fd ps (spO X.K mM))(l:Room k' X.A)(q:Binds X.K fd ps [])(he:PE X o (dM i))(s:PAX X (e::es) g)(p:k<=k':=by first|decide|lia)
  (h:starEach (e::es) X.env=(false,eval e X.env)::starEach es X.env:=by rfl) (a:(backTo pos<|starEach es X.env).any (·.1)=false:=by rfl)
  (j:eval (.Call (.Attribute o mn apos) (e::es) [] pos) X.env=(do
   let b <-eval o X.env
   standAt apos.atName
   let (f,first) <-holding [b]<|getMethod b mn pl
   callWith pos f first (backTo pos<|starEach (e::es) X.env)<|backToKw pos<|keywordEach [] X.env):=by rfl):PX X (.Call (.Attribute o mn apos) (e::es) [] pos) (di C mn i mM g):=
 (zR he c m G (l.mono p) q .nil k8 s h a j).imp C8
end
section
variable{σ:List (Option V)}
theorem Inv.turnedL(I:Inv X pz σ H s)(k:∀b o,b∉fp->s.heap.get? b=!o->h'.get? b=!o)(f:∀b∈fp,kt X pz H b):Inv X pz σ H {s with heap:=h',toks:=t' }:=by
 have a:∀b u,H b=!u->b∉fp:=λb u e z=>by rw[(f b z).1]at e;cases e
 exact I.step (λb j=>?_) (λb o t t h e t=>k b o h e) (λb o t t h e t=>#[o.slots,k b o h e]) (λt t t t n=>n)
  (λb o h e=>#[o,k b o h e]) (λt t t e=>e) (λm i=>?_) (λb u e=>?_) I.bare
 .let#[_,l,_,x,w,p]:=f b j;exact#[x,l,w,p]
 .let#[o,y,A,g,r]:=i;exact#[o,y,A,k _ o (λz=>(f _ z).2.1 qx) g,r]
 .exact(I.hok b u e).stay (λc v h q=>k c v ?_ q) (λt q=>q) λt t t q=>q;grind
def Inv.turnedLaid{o}(I:Inv X pz σ H s)(k:∀b o,b∉fp->s.heap.get? b=!o->h'.get? b=!o)(l:∀b∈fp,kt X pz H b)(p:s.heap.objs.size<=a)(new:ObjOk X.prog X.w (upd H a o) h' a o):Inv X pz σ (upd H a o) {s with heap:=h',toks:=t' }:=by
 let j:=I.hok.fresh p;have f:∀b u,H b=!u->b∉fp:=λb u e z=>by rw[(l b z).1]at e;cases e
 have i:∀b u,s.heap.get? b=!u->b≠a:=λb u q=>Yy<|YA (Yv q) p
 exact I.step (λb g=>?_) (λb o t t h e t=>k b o h e) (λb o t t h e t=>#[o.slots,k b o h e]) λb u t q n=>by rwa[az<|i b u q]
  (λb o h e=>#[o,k b o h e]) (λb t t e=>by rwa[az<|aX e j]) (λm y=>?_) (λb u e=>?_) I.bare
 .let#[_,A,_,E,C,B]:=l b g;exact#[E,A,C,B]
 .let#[o,J,K,x,r]:=y;exact#[o,J,K,k _ o (λz=>(l _ z).2.1 qx) x,r]
 .by_cases g:b=a
  .subst g;rw[aC]at e;cases e;exact new
  .rw[az g]at e;exact(I.hok b u e).stay (λc v h q=>k c v ?_ q) (λc q=>by rwa[az<|aX q j]) λc u t q=>by rwa[az<|aX q j]
   rcases h with z|z
   .rw[z];exact f b u e
   .exact f c _ z
end
def Ite(K:Kq)(a:Addr):It:=
 #[λi H=>∃b x,SqL K H a b/\b[i]?=!x,λi H x c=>∃p v,H p=()/\x=.ref p/\c=upd H p (.tup [.int i,v])/\∀b,SqL K H a b->b[i]?=!v,λi H=>∃b,SqL K H a b/\b.length<=i]
def Ax{P}a e it(C:e≠it):Turn P w K (.Tuple elts kk pos) (Ite K a) [e,it] e (λi h=>(∃f,IsEnum h e it i f)/\h.IsListIter it a i) where
 mem:=by simp
 obj:=λi h l b m=>by
  let#[#[f,j],o,eo,c,d]:=l;have B:b=e\/b=it:=by simpa using m
  rcases B with rfl|rfl
  .exact#[_,j,λv z=>by cases z]
  .exact#[o,eo,λv z=>by rw[d]at z;cases z]
 keep:=λi h h' l k=>by
  let#[#[f,j],g]:=l;exact#[#[f,k e (by simp) _ j],g.at λo x=>k it (by simp) o x]
 item:=by
  intro X hP Y hK hc i pz s σ H E I Q l Z;subst hP Y hK;let#[#[f,j],g]:=l;let#[xs,x,O,U]:=Z;let#[T,R,p,hz]:=I.list O;let#[u,hu,ru]:=R.get U;exact wpAny_pyNext_enum_item j g p.isList (by simpa using hu) C λh' ho J hT hsz hk=>?_;exact#[_,qx,wpAny_letOwnedTupleGo_enum ho λh2 he2 A=>?_];have S:∀b o,b∉[e,it]->s.heap.get? b=!o->h2.get? b=!o:=λb o m q=>by
   have M:b≠e:=λz=>m<|by simp[z]
   have hb2:b≠it:=λz=>m<|by simp[z]
   exact(A.2 b M).trans<|hk b o M hb2 q
  let y:=Yv j;have L:it<s.heap.objs.size:=by let#[_,x,_]:=g;exact Yv x
  let hTe:=Xc y;let N:=(A.2 _ hTe).trans hT;have I2:Inv X pz σ (upd H s.heap.objs.size<|.tup [.int _,x]) {s with heap:=h2,toks:=s.toks+1}:=
   I.turnedLaid S Q (Yp _) #[show 2<=sizeLine by decide,[.int i s.toks,u],.cons #[_,qx]<|.cons ru .nil,#[_,N,qx,_,qx],_,N,qx]
  let hn:=I.hok.fresh<|Yp _;exact#[.ref s.heap.objs.size,_,I2,qx,#[_,x,hn,rfl,rfl,λys hy=>by rwa[I.list_inj hy O]],#[#[_,by simpa using he2],J.at λo q=>(A.2 it<|Xq C).trans q],λb m=>?_];have B:b=e\/b=it:=by simpa using m
  rw[az<|by rcases B with rfl|rfl;exact Yy y;exact Yy L];exact(Q b m).1
 done:=by intro X hP Y hK hc i pz s σ H E I Q l Z;subst hP Y hK;let#[#[f,j],g]:=l;let#[xs,O,U]:=Z;let#[T,R,p,hz]:=I.list O;let hl:=R.length;exact wpAny_pyNext_enum_end (I.ok.hd hc) j g p.isList (by simp;lia) λh' eb=>#[qx,I.turnedL (λb o m q=>eb b o (λz=>m<|by simp[z]) q) Q]
 self:=λv v v v v l h=>by
  let#[#[f,j],_]:=l;exact wpAny_pyIter_enum j h
def Nn(K:Kq)(ta:TA):TI:=λc H R=>ta c H λe b=>∃a,e=[.ref a]/\(∃x,SqL K b a x)/\R (Ite K a) b
def qe:bootBuiltins "enumerate"=!(.type "enumerate"):=by rfl
def Aa{ta}(M:Gl X "enumerate")(L:X.mg "enumerate"=())(O:PA X [l] ta)(hs:starEach [l] X.env=[(false,eval l X.env)]:=by rfl):PI X (.Tuple elts kk tpos) (.Call (.Name "enumerate" p) [l] [] pos) (Nn X.K ta):=by
 intro m s j H R I h;exact Call_<|l_ I M L qe<|Xm (thn (O pos m s j H _ I h) λU c #[T,w,f,y,z]=>?_) hs qx;let#[a,e,#[S,J],q]:=z;subst e;let#[u,rfl,x]:=fE y;cases(show u=Value.ref a from x);let#[C,Y,A,Z]:=f.list J;exact call_enumerate_list A.isList λP o g E B=>?_;let Q:=f.kept (t':=c.toks) B;exact wpAny_pyIter_enum o ?_;exact#[c.heap.objs.size+1,[c.heap.objs.size+1,c.heap.objs.size],_,_,w,qx,Q,Ax a _ _<|Xc<|ZV _,#[#[_,o],g],λb N=>?_,q];have i:b=c.heap.objs.size+1\/b=c.heap.objs.size:=by simpa using N
 rcases i with rfl|rfl
 .exact f.fpOk (ZZ _)<|f.hok.fresh<|ZZ _
 .exact f.fpOk (Yp _)<|f.hok.fresh<|Yp _
def dq(ds:List D):List D:=ds.zipIdx.map λx=>.tup [.int x.2,x.1]
def n_(f:Dd):DF->Option (List D):=λa=>match f a with
 |some (.lst ds)=>some<|dq ds
 |_=>()
theorem jS(h:(dq ds)[i]?=!d):∃a,ds[i]?=!a/\d=.tup [.int i,a]:=by
 delta dq at h;grind
def sA(h:SqL K F a vs)(r:Reps K F vs ds):uD K P (Ite K a) F (dq ds):=by intro B H e f i;let b:=f.sub.seq<|e.seq h;exact#[λd u=>?_,λs=>#[vs,b,by rw[r.length];simpa[dq]using s]];let#[z,c,rfl]:=jS u;let#[v,g,w]:=r.get c;exact#[#[vs,v,b,g],λx A l=>?_];let#[q,y,p,rfl,rfl,m]:=l;have:=m vs b;rw[g]at this;cases this;let j:=Evo.laid f (o:=.tup [.int i,v]) p;exact#[_,j,.tup aC<|.cons .int<|.cons ((w.same e).same j.ext) .nil]
def EO{f:Dd}(i:Gl X "enumerate")(g:X.mg "enumerate"=())(h:PDE X l f)(hs:starEach [l] X.env=[(false,eval l X.env)]:=by rfl):PDI X (.Tuple elts kk tpos) (.Call (.Name "enumerate" p) [l] [] pos) (n_ f):=PI.imp (Aa i g (aI h bf hs) hs) λs H R #[P,F,b,u,a,I,k]=>by
 delta n_ at a;split at a
 .rename_i j q;cases a;exact#[P,F,b,_,q,I,λv o m e c=>?_];cases c with
  |lst h1 h2=>exact#[_,qx,#[_,e.hp.sub.seq h1],k _ o m e<|sA h1 h2]
 .cases a
def M_{a b}{j j' p p' x1 pos}:PDE X (.Tuple [.Constant (.int a) j p,.Constant (.int b) j' p'] x1 pos) (asT (ai (λz=>!.int a) (ai (λz=>!.int b) aP))):=bD<|ar ag<|ar ag aG
def kA{a b}{j j' p p' x1 pos}{g}(h:PDL X es n g):PDL X (.Tuple [.Constant (.int a) j p,.Constant (.int b) j' p'] x1 pos::es) (n+1) (ai (asT (ai (λz=>!.int a) (ai (λz=>!.int b) aP))) g):=ar M_ h
def pl7{a0 b0 ja0 pa0 jb0 pb0 x0 p0 a1 b1 ja1 pa1 jb1 pb1 x1 p1 a2 b2 ja2 pa2 jb2 pb2 x2 p2 a3 b3 ja3 pa3 jb3 pb3 x3 p3 a4 b4 ja4 pa4 jb4 pb4 x4 p4 a5 b5 ja5 pa5 jb5 pb5 x5 p5 a6 b6 ja6 pa6 jb6 pb6 x6 p6 pos}:PDO X (.List [.Tuple [.Constant (.int a0) ja0 pa0,.Constant (.int b0) jb0 pb0] x0 p0,.Tuple [.Constant (.int a1) ja1 pa1,.Constant (.int b1) jb1 pb1] x1 p1,.Tuple [.Constant (.int a2) ja2 pa2,.Constant (.int b2) jb2 pb2] x2 p2,.Tuple [.Constant (.int a3) ja3 pa3,.Constant (.int b3) jb3 pb3] x3 p3,.Tuple [.Constant (.int a4) ja4 pa4,.Constant (.int b4) jb4 pb4] x4 p4,.Tuple [.Constant (.int a5) ja5 pa5,.Constant (.int b5) jb5 pb5] x5 p5,.Tuple [.Constant (.int a6) ja6 pa6,.Constant (.int b6) jb6 pb6] x6 p6] pos) (asL (ai (asT (ai (λz=>!.int a0) (ai (λz=>!.int b0) aP))) (ai (asT (ai (λz=>!.int a1) (ai (λz=>!.int b1) aP))) (ai (asT (ai (λz=>!.int a2) (ai (λz=>!.int b2) aP))) (ai (asT (ai (λz=>!.int a3) (ai (λz=>!.int b3) aP))) (ai (asT (ai (λz=>!.int a4) (ai (λz=>!.int b4) aP))) (ai (asT (ai (λz=>!.int a5) (ai (λz=>!.int b5) aP))) (ai (asT (ai (λz=>!.int a6) (ai (λz=>!.int b6) aP))) aP)))))))):=by exact cc (n:=7) ?_;exact(kA<|kA<|kA<|kA<|kA<|kA<|kA aG)
def Cf{fc:Dk}{f:Do}(a:PDT X c fc)(h:PDO X e f):PD1 X (.If c [.Return (!e) p] [] pos) (dIf fc (bZ f) dNx):=bJ a (af<|bt h) aL
section
variable{a:Expr}
def wX(i:Nat):DF->Option Bool:=λa=>match a[i]? with
 |some (some<|.own _ _)=>!false
 |some (some<|.bor _)=>!false
 |some (some<|.v .non)=>!true
 |some (some<|.v _)=>!false
 |_=>()
open A in
def zf i{j p}(h:PE X a (dM i)):PDT X (.Compare a [.Is] [.Constant .none j p] pos) (wX i):=(xz<|JD h).imp λl H Q=>un7 λP F m d b I k=>by
 delta wX at b;split at b
 .rename_i o t q;cases b;let#[v,e,c,rfl,_]:=I.at q;exact#[_,e,false,qx,k F H<|Evo.refl I.toDHp]
 .rename_i o q;cases b;let#[v,e,c,rfl,_]:=I.at q;exact#[_,e,false,qx,k F H<|Evo.refl I.toDHp]
 .rename_i q;cases b;let#[v,e,f]:=I.at q;cases f;exact#[_,e,true,qx,k F H<|Evo.refl I.toDHp]
 .rename_i s g q;cases b;let#[v,e,f]:=I.at q;exact#[_,e,false,?_,k F H<|Evo.refl I.toDHp]
  congr 1
  exact YD λz=>?_;subst z;cases f;exact g qx
 .cases b
def gz(i:Nat)(g:Dk):DF->Option Bool:=λa=>match a[i]? with
 |some (some<|.own o _)=>g<|a.set i<|some<|.v o.d
 |_=>()
def ug i{g:Dk}(h:PDT X e g):PDT X e (gz i g):=PT.imp h λx H Q=>un7 λP F y b c I k=>by
 delta gz at c;split at c
 .rename_i o t q;let#[w,p,j]:=I.frz q;exact#[P,w,_,b,c,j,λz s f=>k F s #[Same.refl _,#[(p.trans f.ext).trans f.hp.sub,f.hp.pro,I.dis],λa u l m=>#[Evo.same j.toDHp f a u l,m]]]
 .cases c
end
open PySem.W
structure LamS where
 qual:Str
 params:Arguments
 body:Expr
 scope:Scope
 p:Str
 x:Str
 cell:Bool:=false
structure LamS.Ok (L:LamS):Prop where
 kind:L.scope.kind=.function
 co:L.scope.isCoroutine=false
 gen:L.scope.isGenerator=false
 par:L.scope.names.lookup L.p=!(if L.cell then .cell else .local)
 fre:L.scope.names.lookup L.x=!.free
 ne:(L.x == L.p)=false
 onc:∀y,L.scope.names.lookup y=!.cell->y=L.p/\L.cell=true
 noc:L.cell=false->∀y∈L.scope.names,y.2≠.cell
 cels:L.cell=true->∀n cl,cellsFrom n L.scope.names cl=(L.p,n)::cl
 psh:L.cell=true->∀h:Heap,pushCells h L.scope.names=h.push {cls:=.type "cell",data:=.cell none}
 only:∀y,L.scope.names.lookup y=!.free->y=L.x
 bind:∀(pm cdv ct u:Value) (cl:List (Str×Addr)),bindArgs (kla_fn "<lambda>" L.qual L.params L.body L.scope cl pm cdv ct) #[[u],[]]=pure [(L.p,u)]
def qV(L:LamS)(f c' c:Addr)(h:Heap):=∃p a,h.get? f=!(kla_obj "<lambda>" L.qual L.params L.body L.scope [(L.x,c)] p c' a)
def c7(L:LamS)(n:Nat)(c:Addr):List (Str×Addr):=if L.cell then[(L.p,n+1),(L.x,c)]else[(L.x,c)]
def eD(L:LamS)(s:Shared)(f c' c:Addr):=envX L.qual L.scope s.heap.objs.size f (.ref c')<|c7 L s.heap.objs.size c
def xg(S:L.Ok)n c:(c7 L n c).lookup L.x=!c:=by
 delta c7;split
 .rw[Zu,S.ne];rw[Zu,XG]
 .rw[Zu,XG]
def qH(h:L.cell)n c:(c7 L n c).lookup L.p=!(n+1):=by delta c7;rw[Yk h,Zu,XG]
def vR{c}{y}(e:(c7 L n c).lookup y=!d):(y=L.x/\d=c)\/(L.cell/\y=L.p/\d=n+1):=by
 have one:∀{e':([(L.x,c)]).lookup y=!d},y=L.x/\d=c:=λ{e'}=>by
  rw[Zu]at e';split at e'
  .rename_i q;cases e';exact#[eq_of_beq q,qx]
  .cases e'
 delta c7 at e;split at e
 .rename_i h;rw[Zu]at e;split at e
  .rename_i q;cases e;exact .inr #[h,eq_of_beq q,qx]
  .exact .inl<|one (e':=e)
 .exact .inl<|one (e':=e)
def jg(CX:CXT)(P:Program)(w:World)(K:Kq)(mg:Ks)(base:Heap)(L:LamS)(f c' c:Addr)(A:Around)(outer:List Env)(s:Shared)(H:Hp)(E:XK):Cx where
 prog:=P
 w:=w
 K:=K
 mg:=mg
 base:=base
 A:=A.deeper<|eD L s f c' c
 N:=[L.p,L.x]
 s₀:=s
 H₀:=H
 env:=eD L s f c' c
 outer:=outer
 stack:=eD L s f c' c::outer
 ex:=[]
 calm:=true
 fn:=λy=>y != L.x
 pn:=[]
 xe:=λe b=>wpAny (model P w) (A.deeper<|eD L s f c' c) (leaving (eD L s f c' c) e) (λz a=>CX outer H s E e a) (λg a=>CX outer H s E g a) b
def qY{P}{c}{E}{C}{m:Ks}(S:L.Ok)(hd:A.handled=())(e0:Env0 P w K mg base A outer s H)(Z:s.heap.IsCell c<|!uc)(R:H c=())(X:RelV U C)(rc:RelV vc uc)(ns:h'.Ns s.heap.objs.size m)(hm:L.cell=false->m L.p=!C)(J:L.cell->h'.IsCell (s.heap.objs.size+1) (!C))(Q:∀b o,s.heap.get? b=!o->h'.get? b=!o):Inv (jg CX P w K mg base L f c' c A outer s H E) [] [!U,!vc] H {heap:=h',gens:=s.gens,drawn:=s.drawn,toks:=tk,os:=s.os}:=by
 let T:=Z.lt;have cl:∀y d,(eD L s f c' c).cells.lookup y=!d->(y=L.x/\d=c)\/(L.cell/\y=L.p/\d=s.heap.objs.size+1):=λy d e=>vR e
 have O:(eD L s f c' c).cells.lookup L.x=!c:=xg S _ _;have B:∀b:Addr,b∉(jg CX P w K mg base L f c' c A outer s H E).ex:=λb z=>absurd (show b∈([])from z)<|by simp
 have Y:h'.IsCell c (!uc):=by let#[o,M,l]:=Z;exact#[o,Q c o M,l]
 have N:∀d:Addr,d=c->d=s.heap.objs.size+1->False:=λd a b=>by
  let q:=a.symm ▸ T;rw[b]at q;exact Zh _<|ZL q<|ZV _
 exact#[#[e0.mod,S.kind,qx,qx,Yp _,λy z d M l=>?_,λy hy=>?_,λy d hf h=>?_,λt=>hd,Around.frames_deeper e0.frames,.inr #[rfl,rfl],λb z=>absurd z<|B b,e0.bs,e0.bsz,λb t t=>B b,λb z=>absurd z<|B b,e0.funs,e0.frf,e0.tab],
  rfl,e0.bare,Un.kept Q,#[_,ns,λi y v M l h3=>?_],λy d h=>?_,e0.hok.fresh<|Yp _,λy d h=>?_,λp hp=>absurd (show p∈([])from hp)<|by simp,e0.hok.kept Q,qx]
 .rcases cl y d M with⟨u,j⟩|⟨_,u,j⟩<;>rcases cl z d l with⟨b1,b2⟩|⟨_,b1,b2⟩
  .exact u.trans b1.symm
  .exact(N d j b2).elim
  .exact(N d b2 j).elim
  .exact u.trans b1.symm
 .let hy:=hy;rcases hy with hy|hy
  .let#[a,b]:=S.onc y hy;rw[a];exact#[_,qH b _ _]
  .rw[S.only y hy];exact#[c,O]
 .have I:(y != L.x):=hf;rcases cl y d h with⟨u,j⟩|⟨_,u,j⟩
  .rw[u]at I;simp at I
  .rw[j];exact ZZ _
 .let g:=M
  match i,g,l with
  |0,g,l=>
   cases g;cases l;cases q:L.cell with
   |false=>exact#[C,X,.inl #[by have:=S.par;rwa[q]at this,hm q]]
   |true=>exact#[C,X,.inr #[.inl (by have:=S.par;rwa[q]at this),_,qH q _ _,J q]]
  |1,g,l=>
   cases g;cases l;exact#[uc,rc,.inr #[.inr S.fre,c,O,Y]]
  |i+2,g,l=>cases g
 .rcases cl y d h with⟨u,j⟩|⟨q,u,j⟩
  .rw[j];exact#[_,Y]
  .rw[j];exact#[_,J q]
 .rcases cl y d h with⟨u,j⟩|⟨q,u,j⟩
  .rwa[j]
  .rw[j];exact e0.hok.fresh<|ZZ _
def sW{M:Model}{globals:Addr}{cl:List (Str×Addr)}{p:Str}{func:Option Addr}{code:Value}{builtins:Addr}{Q:Env->Shared->Prop}(y:scope.kind=.function)(w:scope.names.lookup p=!.cell)(B:∀n cl,cellsFrom n scope.names cl=(p,n)::cl)(hs:∀h:Heap,pushCells h scope.names=h.push {cls:=.type "cell",data:=.cell ()})(C:∀h' tk,h'.Ns s.heap.objs.size (λv=>())->h'.IsCell (s.heap.objs.size+1) (!u)->(∀(b:Addr) (o:Obj),s.heap.get? b=!o->h'.get? b=!o)->
   Q (newEnv scope s.heap.objs.size globals ((p,s.heap.objs.size+1)::cl) qual func code () builtins) {s with heap:=h',toks:=tk}):wpAny M A (newFunctionEnv scope globals cl [(p,u)] qual func code () builtins) Q E s:=by
 simp only[newFunctionEnv,Option.isSome_none,Xf,VB];exact Yd (wpAny_alloc ?_);exact Yd (wpAny_layCells _ (λm a l=>by cases i:a == NameKind.cell<;>simp[i]) _ _ _ _ ?_);have z:(s.heap.push {cls:=.type "frame",data:=.dict #[[]]}).objs.size=s.heap.objs.size+1:=Xi ..;show wpAny M A _ Q E {s with heap:=pushCells (s.heap.push {cls:=.type "frame",data:=.dict #[[]]}) scope.names};rw[hs];show wpAny M A ((forIn [(p,u)] PUnit.unit λx r=>(storeName (newEnv scope s.heap.objs.size globals (cellsFrom (s.heap.push {cls:=.type "frame",data:=.dict #[[]]}).objs.size scope.names cl) qual func code () builtins) x.1 x.2)>>=λv=>pure (ForInStep.yield PUnit.unit))>>=λv=>pure (newEnv scope s.heap.objs.size globals (cellsFrom (s.heap.push {cls:=.type "frame",data:=.dict #[[]]}).objs.size scope.names cl) qual func code () builtins)) Q E _;rw[z,B];have q:((s.heap.push {cls:=.type "frame",data:=.dict #[[]]}).push {cls:=.type "cell",data:=.cell ()}).IsCell (s.heap.objs.size+1) ():=#[_,z ▸ Ys _ qx,qx]
 have g:((s.heap.push {cls:=.type "frame",data:=.dict #[[]]}).push {cls:=.type "cell",data:=.cell ()}).Ns s.heap.objs.size (λv=>()):=(Heap.Ns.new s.heap (.type "frame")).keeps λb o e=>Yf _ e
 exact Yd ?_;rw[List.forIn_cons];exact Yd (Yd (wpAny_storeName_cell (c:=s.heap.objs.size+1) y w (by show List.lookup p ((p,s.heap.objs.size+1)::cl)=_;rw[Zu,XG]) q λh' j f=>Yi ?_));show wpAny M A (forIn [] PUnit.unit _) _ _ _;rw[List.forIn_nil];exact Yi (Yi ?_);exact C h' _ (g.sameBut f (Yy (ZV _))) j λb o e=>?_;exact f.extBut b o (Yy (ZP (Yv e))) (Yf _ (Yf _ e))
def Gx{P}{c}{E}{B}{m}{Q}(S:L.Ok)(N:Room (k+1) A)(e0:Env0 P w K mg base A outer s H)(hl:qV L f c' c s.heap)(O:s.heap.CodeRec (.ref c') L.qual)(Y:s.heap.IsCell c<|!uc)(j:H c=())(X:RelV m B)(U:RelV vc uc)(hb:PE (jg CX P w K mg base L f c' c A outer s H E) L.body t)(ht:t [!m,!vc] H Q):codeAny (model P w) A (.call (.ref f) #[[B],[]]) (CR CX outer P w H s Q E) s:=by
 let#[pm,ctv,hf]:=hl;let l:=e0.mod.nolimit.keeps λb o e=>(e0.bs b o e).1
 exact kla_callFunE N.depth hf qx S.co S.gen qx O ?_;rw[S.bind];exact Yi ?_;have a:∀h tk,Inv _ [] [!m,!vc] H {heap:=h,gens:=s.gens,drawn:=s.drawn,toks:=tk,os:=s.os}->
   codeAny (model P w) A (.expr L.body _) (CR CX outer P w H s Q E) {heap:=h,gens:=s.gens,drawn:=s.drawn,toks:=tk,os:=s.os}:=λh tk I=>by
  exact kla_codeExpr ?_;exact ZE (hb [] _ [!m,!vc] H Q I ht) (λu s' M=>?_) λe s' M=>M;let#[v,H',J,rv,q]:=M;exact#[v,H',J.os,J.bare,J.base,J.hok,rv,q]
 cases q:L.cell with
 |false=>
  have T:c7 L s.heap.objs.size c=[(L.x,c)]:=by delta c7;rw[q];rfl
  exact wpAny_newFunctionEnv (S.noc q) (λy hy=>?_) (λh C Z=>?_) S.kind
  .rw[Yu.mp hy];have:=S.par;rwa[q]at this
  .have i:∀b o,s.heap.get? b=!o->h.get? b=!o:=λb o e=>by
    rw[Z.2 b<|Yy<|Yv e];exact Yf _ e
   let I:=qY (CX:=CX) (E:=E) (f:=f) (c':=c') (tk:=s.toks + [(L.p,B)].length) S N.hd e0 Y j X U C (λy=>by show List.lookup L.p [(L.p,B)]=_;rw[Zu,XG]) (λz=>by rw[q]at z;cases z) i;exact#[l.keeps i,?_];let g:=a _ _ I;delta eD at g;rwa[T]at g
 |true=>
  have T:c7 L s.heap.objs.size c=(L.p,s.heap.objs.size+1)::[(L.x,c)]:=by delta c7;rw[q];rfl
  exact sW S.kind (by have:=S.par;rwa[q]at this) (S.cels q) (S.psh q) λh tk C R i=>?_;let I:=qY (CX:=CX) (E:=E) (f:=f) (c':=c') (tk:=tk) S N.hd e0 Y j X U C (λz=>by rw[q]at z;cases z) (λy=>R) i;exact#[l.keeps i,?_];let g:=a _ _ I;delta eD at g;rwa[T]at g
structure LamIn (X:Cx) (L:LamS) (f c' c:Addr) (uc:Value):Prop where
 lam:qV L f c' c X.s₀.heap
 fH:X.H₀ f=none
 ff:f∉X.fs
 fe:f∉X.ex
 cl:X.s₀.heap.IsCell c (!uc)
 cH:X.H₀ c=none
 cf:c∉X.fs
 ce:c∉X.ex
 cd:∃o u,X.H₀ c'=!.frz o u/\∃vs t,o.data=.fields vs/\vs[1]?=!.str L.qual t
section
variable{L:LamS}{c:Addr}
def LamIn.now(h:LamIn X L f c' c uc)(I:Inv X pz σ H s):qV L f c' c s.heap/\s.heap.CodeRec (.ref c') L.qual/\s.heap.IsCell c (!uc)/\H c=():=by let#[p,b,l]:=h.lam;let#[a,e,m]:=h.cl;let#[o,u,j,i,t,w,q]:=h.cd;let#[g,_]:=I.hok c' _<|I.base.stl c' _ qx j;exact#[#[p,b,I.base.keep f _ l h.fH h.ff h.fe],#[c',o,i,t,qx,g,w,q],#[a,I.base.keep c a e h.cH h.cf h.ce,m],I.base.free c a e h.cH h.ce]
def Kh(i:Nat)(f:Addr)(te:TE)(vc:V)(t:TE):TE:=λa H Q=>a[i]?=!(some<|.ref f)/\nj te sY a H λc e=>∃b,c=[b]/\t [!b,!vc] e Q
def Ej(S:L.Ok)(a:LamIn X L f c' c uc)(U:RelV vc uc)(hr:Room (k+1) X.A)(hN:X.N[i]?=!x)(hv:Vis X.env.scope x)(ha:PE X e te)(hb:∀s H E,PE (jg CX0 X.prog X.w X.K X.mg X.base L f c' c X.A X.stack s H E) L.body t)(hd:nDb x:=by decide)(hcd:nDc x:=by decide)(he:starEach [e] X.env=(false,eval e X.env)::starEach [] X.env:=by rfl):PE X (.Call (.Name x p) [e] [] pos) (Kh i f te vc t):=by
 intro P s m H Q I h;let#[h1,h2]:=h;exact ZS<|bh (yd hN hv hd hcd P s m H (λv H'=>v=.ref f/\nj te sY m H' λJ C=>∃o,J=[o]/\t [!o,!vc] C Q) I #[_,h1,qx,h2]) λu O v C B r1 y=>?_;let#[rfl,y]:=y;cases r1;let#[#[pm,ctv,g],_]:=a.now B;exact callWith_def_at g qx (bh (aI ha bf he pos P O m C _ B y) λus M J H2 l Z q=>?_) he
 .let#[o,rfl,q]:=q;let#[g1,g2,g3,g4]:=a.now l;let#[z,j,g']:=g1;let#[u1,rfl,Y]:=Z.one;have gg:M.heap.get? f=O.heap.get? f:=by let#[pm0,T,R]:=a.lam;rw[l.base.keep f _ R a.fH a.ff a.fe,B.base.keep f _ R a.fH a.ff a.fe]
  exact#[gg.trans g,?_];exact Vh<|Xo (Gx S hr l.env0 #[z,j,g'] g2 g3 g4 Y U (hb M H2 E0) q) λr s' b=>?_;cases r with
  |error e=>exact False.elim b
  |ok fl=>
   cases fl with
   |ret u=>exact l.after b
   |next=>exact False.elim b
   |brk=>exact False.elim b
   |cont=>exact False.elim b
end
def HU:HO:=.ext λz=>True
structure LamW where
 L:LamS
 t:Addr
 pos:Pos
structure LamOk (X:Cx) (W:LamW) (c0 c:Addr) (j:Nat):Prop where
 tab:e_ X.K W.t W.L.qual W.pos
 hcl:closureFor W.L.scope X.env=pure [(W.L.x,c)]
 hcc:X.env.cells.lookup W.L.x=!c
 hck:X.env.kindOf W.L.x=!.cell
 hfn:X.fn W.L.x=true
 hj:X.N[j]?=!W.L.x
 hco:X.env.code=.ref c0
 hch:codeHdIn X.K c0 W.t=true
 hq:X.env.qual++Str.ofString "<lambda>"=W.L.qual
 hdf:defaultsOf W.L.params X.env=([],[])
section
variable{W:LamW}{c:Addr}
def wN(O:LamOk X W c0 c j)(I:Inv X pz σ H s)(h:∀f c' o u H' s',Inv X pz σ H' s'->H' f=()->qV W.L f c' c s'.heap->H' c'=!.frz o u->Ee o W.L.qual->(H'=H\/(H c'=()/\H'=upd H c' (.frz o u)))->s.heap.objs.size<=f->Q (.ref f) s'):wpAny (model X.prog X.w) X.A (eval (.Lambda W.L.params W.L.body W.L.scope W.pos) X.env) Q X.xe s:=by
 let S:=I.mod.glob.keeps I.bk;let p:=codeHd_of_K I.kIn O.hch;let q:=(I.mod.bat _ _ _ O.tab).keeps I.bk;let C:=I.tab _ _ _ O.tab;exact kla_eval O.hdf ?_;rw[O.hq];obtain⟨ps,T,K,m|⟨c',o,u,g3,fz,ho⟩⟩:=I.hok _ _ C
 .have nt:mainGlobals≠W.t:=λz=>by
   let#[a,es,ep,P,N,_]:=S;rw[z,T]at P;cases P;cases N
  exact kla_makeFunction O.hcl I.ok.glob S O.hco p T K m nt q λc' l J R ext lo hi cr tab=>?_;let M:=I.hok.fresh lo;have ct:c'≠W.t:=λz=>by subst z;rw[C]at M;cases M
  let#[c1,E,U,Y,P,N,e3,e4]:=cr;cases P;have kept:∀b a,s.heap.get? b=!a->b≠W.t->(J.push<|kla_obj "<lambda>" W.L.qual W.L.params W.L.body W.L.scope [(W.L.x,c)] ((X.mg<|Str.ofString "__name__").getD Value.none) c' l).get? b=!a:=λb a e n=>Yf _<|ext b a n e
  have g:∀b u,H b=!u->upd H c' (.frz E HU) b=!u:=λb u e=>by rwa[az<|aX e M]
  have Z:∀b,H b=()->b≠W.t:=λb n z=>by subst z;rw[C]at n;cases n
  let i:=ZO<|Xg lo hi;exact h _ c' E HU _ _ (I.un #[λb a e n k k=>kept b a e<|Z b n,λb a e n k k=>#[a.slots,kept b a e<|Z b n],λb a e n k=>?_,λb a e k=>?_,λb u k e=>g b u e] λb u e=>?_) ?_ #[_,l,Ys _ qx] aC #[U,Y,e3,e4] (.inr #[M,qx]) i
  .rwa[az λz=>by subst z;exact absurd (YA (Yv e) lo)<|Zh _]
  .by_cases B:b=W.t
   .subst B;exact#[_,Yf _ tab]
   .exact#[a,kept b a e B]
  .by_cases y:b=c'
   .subst y;rw[aC]at e;cases e;exact#[Yf _ N,trivial,#[_,Yf _ N],λk k k k=>trivial]
   .rw[az y]at e;by_cases B:b=W.t
    .subst B;rw[C]at e;cases e;exact#[_,Yf _ tab,?_,.inr #[c',E,HU,?_,aC,U,Y,e3,e4]]
     .rw[Array.toList_append];exact TriplesOk_snoc _ _ _ _ K
     .rw[Array.toList_append];exact codeAmong_snoc _ K m
    .exact(I.hok b u e).stay (λd v hd r=>kept d v r ?_) (λd r=>g d _ r) λd v k r=>g d v r;rcases hd with rfl|hd
     .exact B
     .rintro rfl;rw[C]at hd;cases hd
  .let z:=I.hok.fresh i;rwa[az<|Xc hi]
 .exact kla_makeFunctionHit O.hcl I.ok.glob S O.hco p T K g3 q λl J R kp i=>?_;have kept:∀b a,s.heap.get? b=!a->(J.push<|kla_obj "<lambda>" W.L.qual W.L.params W.L.body W.L.scope [(W.L.x,c)] ((X.mg<|Str.ofString "__name__").getD Value.none) c' l).get? b=!a:=λb a e=>Yf _<|kp b a e
  exact h _ c' o u H _ (I.kept kept) (I.hok.fresh i) #[_,l,Ys _ qx] fz ho (.inl qx) i
end
structure FunD (K:PySem.W.Frag) (x qual:Str) (st:Stmt) (f:Addr) (fd:FuncData):Prop where
 ex:∃(oc:Value) (od:Option Addr) (T:Addr) (kV doc pm:Value) (an:Option Addr) (cdv ct:Value) (osl:Array (Option Value)) (ot:Obj) (nt:Nat),
  fd=fnOf x qual (defArgs st) (defBody st) (defScope st) (.ref T) kV doc pm an cdv ct/\K.lookup f=!#[oc,od,.func fd,osl]/\codeIn K cdv qual=true/\K.lookup T=!ot/\ot.data=.seq #[[Value.none]] nt
 kp:keepIn K (.ref f)=true
def FunD.binds(F:FunD K x qual st f fd)(h:∀T kV doc pm an cdv ct us,us.length+1=ps.length->∃k:Option _->Sem _,bindArgs (fnOf x qual (defArgs st) (defBody st) (defScope st) (.ref T) kV doc pm an cdv ct) #[us,[]]=seqItems? (.ref T)>>=k/\k (!#[[Value.none]])=pure (ps.zip<|us++[Value.none])):Binds K fd ps [Value.none]:=by
 let#[m,l,T,kV,doc,pm,an,cdv,ct,o,j,p,rfl,q,b,lt,g]:=F.ex;intro s us i a;let#[k,e,c]:=h T kV doc pm an cdv ct us (by rwa[Yr,YN]at a);exact BindsTo.of_defaults qx (i _ _ lt) g e c
def yo(P:Program)(w:World)(K:Kq)(mg:Ks)(base:Heap)(k:Nat)(f:Addr)(fd:FuncData)(ps:List Str)(sp:List Env->Shared->Sp):=
 ∀A o s H a u b Q E,Room k A->Env0 P w K mg base A o s H->BindsTo s fd a (ps.zip u)->Vals b u->b.length=ps.length->sp o s b H Q E->
  codeAny (model P w) A (.call (.ref f) a) (CR CX0 o P w H s Q E) s
def Jq{P}{p}{body}{L kV}{sp}(T:K.lookup f=!#[oc,od,.func<|fnOf name qual p body scope L kV doc pm an cdv ct,osl])(hcd:codeIn K cdv qual)(S:FnScope N ps scope)(c:∀A outer s H vs Q E,Room k (A.deeper<|envOfC qual scope s.heap.objs.size f cdv)->sp outer s vs H Q E->
   ∃t,PSs (b7 CX0 P w K mg base N qual scope f cdv A outer s H E) body t/\t {nx:=λd H'=>Q .non H',rt:=Q} (start N vs) H):yo P w K mg base (k+1) f (fnOf name qual p body scope L kV doc pm an cdv ct) ps sp:=by
 intro A outer s H M R vs Q E B i hb r Z z;let O:=i.mod.kin.keeps λb o e=>(i.bs b o e).1
 let m:=i.mod.nolimit.keeps λb o e=>(i.bs b o e).1
 have h:∀y∈ps.zip R,scope.names.lookup y.1=!.local\/(scope.names.lookup y.1=!.cell/\((cellsFrom (s.heap.objs.size+1) scope.names []).lookup y.1).isSome):=λ#[n,v] U=>by
  rcases S.par n (VZ U).1 with q|q
  .exact .inl q
  .exact .inr #[q,cellsFrom_some _ _ _<|.inl q]
 exact codeAny_call_function B.depth (O _ _ T) qx S.co S.gen qx (codeRec_of O hcd)<|hb _ _ _ _ ?_;exact wpAny_newFunctionEnv_cells S.kind h λenv he C x=>?_;subst he;exact#[m.keeps x.toInCall.keep,codeAny_func ?_];let#[t,X,Y]:=c A outer s H vs Q E (B.deeper _) z;have I:Inv (b7 CX0 P w K mg base N qual scope f cdv A outer s H E) [] _ H C:=rO S B.hd i Z r x;exact ZE (X [] C _ H _ I Y) (λfl j g=>?_) λe j g=>g;have fin:∀{a}{H'}{v}{u},Inv (b7 CX0 P w K mg base N qual scope f cdv A outer s H E) [] a H' j->RelV v u->Q v H'->CE outer P w H s Q u j:=
  λ{a H' v u} J l q=>#[v,H',J.os,J.bare,J.base,J.hok,l,q]
 cases fl with
 |ret u=>
  let#[v,a,H',J,l,q]:=g;exact fin J l q
 |next=>
  let#[a,H',J,q]:=g;exact fin (v:=V.non) J qx q
 |brk=>
  let#[_,_,_,q]:=g;exact False.elim q
 |cont=>
  let#[_,_,_,q]:=g;exact False.elim q
structure LamNow (W:LamW) (f c' c:Addr) (uc:Value) (outer:List Env) (s:Shared) (H:Hp):Prop where
 lam:qV W.L f c' c s.heap
 fH:H f=none
 ff:f∉frs outer
 cl:s.heap.IsCell c (!uc)
 cH:H c=none
 cf:c∉frs outer
 cd:∃o u,H c'=!.frz o u/\∃vs t,o.data=.fields vs/\vs[1]?=!.str W.L.qual t
def spR(W:LamW)(K:Kq)(n:Nat)(gR:Addr->V->D->DF->Option RES):List Env->Shared->Sp:=λo s i H Q z=>∃f m c u a b l j h x2 x P F,i=[l,.ref f,j]/\LamNow W f m c u o s H/\RelV a u /\
 bv (gR f a b<|aK n 3 [h,.v<|.fn f a b,x2])=!x/\DHp P F H/\DVs K P F H [h,.v<|.fn f a b,x2] i/\∀v g e,Same F g->DHp P g e->DVRep K P g e vt x v->Q v e
def FunD.okR{W}{P}(F:FunD K x qual st f0 fd)(S:FnScope N ps (defScope st))(h3:ps.length=3)(b:∀cdv A outer s H E f c' c uc vc dc,Room k (A.deeper<|envOfC qual (defScope st) s.heap.objs.size f0 cdv)->
   LamIn (b7 CX0 P w K mg base N qual (defScope st) f0 cdv A outer s H E).nox W.L f c' c uc->RelV vc uc->PDS (b7 CX0 P w K mg base N qual (defScope st) f0 cdv A outer s H E).nox (defBody st) (gR f vc dc)):yo P w K mg base (k+1) f0 fd ps (spR W K N.length gR):=by
 let#[oc,od,T,kV,doc,pm,an,cdv,ct,O,ot,nt,rfl,R,g,lt,dt]:=F.ex;exact Jq R g S λA outer s H vs Q E Y h=>?_;let#[f,c',c,uc,vc,dc,J,C,m,x2,x,p,u,rfl,l,M,a,Z,X,o]:=h;have U:LamIn (b7 CX0 P w K mg base N qual (defScope st) f0 cdv A outer s H E).nox W.L f c' c uc:=#[l.lam,l.fH,l.ff,(λz=>absurd (show f∈([])from z)<|by simp),l.cl,l.cH,l.cf,(λz=>absurd (show c∈([])from z)<|by simp),l.cd]
 exact#[_,PSs.nox<|b cdv A outer s H E f c' c uc vc dc Y U M,?_];let I:=DInv.start N 3 Z X qx;cases q:gR f vc dc (aK N.length 3 [m,.v _,x2])with
 |none=>rw[q]at a;cases a
 |some r=>
  rw[q]at a;exact#[p,u,_,r,q,I,?_];cases r with
  |rt y ρ=>cases a;exact λv B j i e h r=>o v j i e h.toDHp r
  |nx ρ=>cases a;exact λB j i e h=>o .non j i e h.toDHp .non
  |bk ρ=>cases a
  |ct ρ=>cases a
def tX0(K:Kq)(g:DF->Option DV):TE:=λb H Q=>∃P F a x,g a=!x/\DInv K P F H a b/\∀v e c,Evo P F H e c->ArgsS K a b e [x] [v]->Q v c
def PX0(X:Cx)(e:Expr)(g:DF->Option DV):=PE X e<|tX0 X.K g
def lend(i:Nat)(ρ:DF):Option DV:=match ρ[i]? with
 |some (some<|.own o _)=>some<|.bor o
 |some (!x)=>!x
 |_=>()
def Ip{f:Dd}(h:PDE X e f):PX0 X e (λρ=>(f ρ).map .v):=PE.imp h λi H Q=>un7 λP F ρ x a I k=>by
 let#[d,q,rfl]:=YK.mp a;exact#[P,F,ρ,d,q,I,λv g c b r=>k v g c b<|.v r .nil]
open A in
def Np i(h:PE X e (dM i)):PX0 X e (lend i):=PE.imp h λj H Q=>un7 λP F l x c I k=>by
 delta lend at c;split at c
 .rename_i o t q;cases c;let#[v,a,f]:=I.at q;exact#[v,a,k v F H (Evo.refl I.toDHp)<|.b i a (.inl #[t,q]) .nil]
 .rename_i y g q;cases c;let#[v,a,f]:=I.at q;cases x with
  |v d=>exact#[v,a,k v F H (Evo.refl I.toDHp)<|.v f .nil]
  |bor o=>exact#[v,a,k v F H (Evo.refl I.toDHp)<|.b i a (.inr q) .nil]
  |own o t=>exact(g o t qx).elim
 .cases c
def lB(n:Nat)(gR:Addr->V->D->DF->Option RES)(dc:D)(x0:DV)(d2:D)(ds:List D):=∀f a,bv (gR f a dc<|aK n 3 [x0,.v<|.fn f a dc,.v d2])=!.own (.lst ds) ()
def eL(n:Nat)(gR:Addr->V->D->DF->Option RES)(dc:D)(x0:DV)(d2:D):=
 open Classical in if h:∃a:List D,lB n gR dc x0 d2 a then !h.choose else ()
def re{d2}(h:eL n gR dc x0 d2=!ds):lB n gR dc x0 d2 ds:=by
 delta eL at h;split at h
 .rename_i q;rw[<-YG h];exact q.choose_spec
 .cases h
def rG{d2}(h:lB n gR dc x0 d2 ds):eL n gR dc x0 d2=!ds:=by
 have q:∃ds:List D,lB n gR dc x0 d2 ds:=#[ds,h]
 delta eL;rw[dif_pos q];let z:=q.choose_spec 0 .non;rw[h]at z;exact YW some (OD.lst.inj (DV.own.inj<|YG z).1).symm
def CV{T:Kv}(hN:X.N[i]?=!x)(hv:Vis X.env.scope x)(I:Inv X pz σ H s)(e:σ[i]?=!!v)(h:∀u,RelV v u->T u s)(hd:nDb x:=by decide)(hcd:nDc x:=by decide):wpAny (model X.prog X.w) X.A (eval (.Name x pos) X.env) T X.xe s:=by
 let#[m,f,j]:=I.loc;let#[u,r,l]:=j i x v hN e hv;let fin:=h u r;rcases l with⟨hk,g⟩|⟨hk,c,b,a⟩
 .exact Up (VS I.ok.kind hk f g fin) hd
 .rcases hk with hk|hk
  .exact Up (wpAny_loadName_cell I.ok.kind hk b a fin) hd
  .exact Up (wpAny_loadName_free I.ok.kind hk b a fin hcd) hd
section
variable{W:LamW}{k n:Nat}{c:Addr}
def sE{Q}{d2}{u}{g}(O:LamOk X W c0 c j)(R:yo X.prog X.w X.K X.mg X.base k f0 fd ps<|spR W X.K n gR)(S:ps.length=3)(hr:Room k X.A)(D0:DInv X.K P F H ρ σ)(Y:σ[j]?=!!vc)(rep:Rep X.K F vc dc)(q2:lB n gR dc x0 d2 ds)(kk:∀a F' H',Evo P F H F' H'->ORep X.K F' H' (λb=>H b=()/\F' b=()) (.lst ds) a->Q (.ref a) H')(T:Inv X pz σ H1 s1)(r1:RelV v0 u0)(l:Evo P F H F1 H1)(ra:ArgsS X.K ρ σ F1 [x0] [v0])(I:Inv X pz σ H2 s2)(hf2:H2 f=())(la:qV W.L f c' c s2.heap)(fz:H2 c'=!.frz ob u)(N:Ee ob W.L.qual)(hH:H2=H1\/(H1 c'=()/\H2=upd H1 c' (.frz ob u)))(Z:s1.heap.objs.size<=f)(r2:RelV v2 u2)(B:Rep X.K F v2 d2)(J:Binds X.K fd ps g)(hu:us++g=[u0,.ref f,u2]):wpAny (model X.prog X.w) X.A (call (.ref f0) us) (EP X pz σ Q) X.xe s2:=by
 obtain⟨s,M⟩:∃s,Evo P F1 H1 s H2:=by
  rcases hH with rfl|⟨z,rfl⟩
  .exact#[F1,Evo.refl l.hp]
  .exact#[_,Evo.laid l.hp z]
 let p:=l.trans M;let#[m,hn,hl]:=I.loc;let#[U,rc,look]:=hl j W.L.x vc O.hj Y<|.inr<|.inl O.hck;have i:s2.heap.IsCell c (!U):=by
  rcases look with⟨z,_⟩|⟨_,c1,e1,e2⟩
  .rw[O.hck]at z;cases z
  .rw[O.hcc]at e1;cases e1;exact e2
 have C:∀b∈frs X.stack,b<s1.heap.objs.size/\(b=X.env.locals\/b<X.s₀.heap.objs.size):=λb J=>by
  rcases Yt.mp (T.stkSub b J)with z|z
  .subst z;exact#[T.lt,.inl qx]
  .let#[_,o,N,_]:=T.ok.funs.mem z;exact#[YA (Yv N) T.sz,.inr<|Yv N]
 have ln:LamNow W f c' c U X.stack s2 H2:=by
  exact#[la,hf2,λz=>absurd (YA (C f z).1 Z)<|Zh _,i,I.freeC _ _ O.hcc,λz=>?_,ob,u,fz,N];rcases(C c z).2 with y|y
  .exact I.cne _ _ O.hcc y
  .exact absurd (YA y<|I.ok.cab _ _ O.hfn O.hcc)<|Zh _
 have rv:Vals [v0,.ref f,v2] (us++g):=by rw[hu];exact .cons r1<|.cons rfl<|.cons r2 .nil
 have E:(us++g).length=ps.length:=by rw[hu];exact S.symm
 have dv:DVs X.K (gd s H2) s H2 [x0,.v<|.fn f vc dc,.v d2] [v0,.ref f,v2]:=by
  let z:=(ra.same M.ext).dvs<|D0.evo p;cases z with
  |cons z1 z2 _=>exact .cons z1 z2<|.cons qx (.fn<|Rep.same p.ext rep)<|.cons qx (Rep.same p.ext B) .nil
 exact Vh<|Xo (R X.A X.stack s2 H2 #[us,[]] _ [v0,.ref f,v2] Q E0 hr I.env0 (J s2 us I.kIn E) rv S.symm #[f,c',c,U,vc,dc,v0,v2,x0,.v d2,_,gd s H2,s,qx,ln,rc,q2 f vc,fF p.hp.sub,dv,λv F' H' e3 S r3=>?_]) λr s' h=>?_
 .let#[a,rfl,h5,_]:=r3;let ev3:=p.trans<|p.hp.gd e3 S;exact kk a F' H' ev3<|(kP e3 h5).mono (Same.refl _) λb u q J=>#[J,p.back D0.toDHp q.1,q.2]
 .cases r with
  |error e=>exact False.elim h
  |ok fl=>
   cases fl with
   |ret u=>exact I.after h
   |next=>exact False.elim h
   |brk=>exact False.elim h
   |cont=>exact False.elim h
def pP(n j:Nat)(gR:Addr->V->D->DF->Option RES)(g:DF->Option DV):=asL λa=>(g a).bind λx=>(getV j a).bind λb=>eL n gR b x .non
def yT(n j j2:Nat)(gR:Addr->V->D->DF->Option RES)(g:DF->Option DV):=asL λa=>(g a).bind λx=>(getV j a).bind λb=>(getV j2 a).bind λd2=>eL n gR b x d2
variable{g:DF->Option DV}
def r_(O:LamOk X W c0 c j)(R:yo X.prog X.w X.K X.mg X.base k f0 fd ps (spR W X.K n gR))(h3:ps.length=3)(hr:Room k X.A)(hg:Gl X x)(hm:X.mg x=!.ref f0)(hk:keepIn X.K (.ref f0))(hb:Binds X.K fd ps [Value.none])(ha:PX0 X e g)(hd:nDb x:=by decide)(he:starEach [e,.Lambda W.L.params W.L.body W.L.scope W.pos] X.env=(false,eval e X.env)::starEach [.Lambda W.L.params W.L.body W.L.scope W.pos] X.env:=by rfl)(B:starEach [.Lambda W.L.params W.L.body W.L.scope W.pos] X.env=(false,eval (.Lambda W.L.params W.L.body W.L.scope W.pos) X.env)::starEach [] X.env:=by rfl)(i:(backTo pos<|starEach [.Lambda W.L.params W.L.body W.L.scope W.pos] X.env).any (·.1)=false:=by rfl):PDO X (.Call (.Name x p) [e,.Lambda W.L.params W.L.body W.L.scope W.pos] [] pos) (pP n j gR g):=by
 intro pz s J H Q I h;let#[P,F,M,o,z,E,kk]:=h;let#[ds,y,rfl]:=YK.mp z;let#[N,q0,z]:=Yx.mp y;let#[dc,q1,q2]:=Yx.mp z;let#[vc,b,rep]:=E.at<|nU q1
 exact ZS<|gB I hg hm ?_ hd;exact callWith_K I.ok.mod.kin hk ?_ he i;rw[he];exact ZR<|bh (ha pz s J H (λv U=>∃a,Evo P F H a U/\ArgsS X.K M J a [N] [v]) I #[P,F,M,N,q0,E,λv a U ev r=>#[a,ev,r]]) λu0 Y v0 H1 T r1 q=>?_;let#[F1,C,Z]:=q;rw[B];exact ZR<|wN O T λf c' ob u H2 s2 S m la fz ho hH l=>?_;exact Vy #[S.kIn,sE O R h3 hr E b rep (re q2) kk T r1 C Z S m la fz ho hH l (v2:=.non) qx .non hb qx]
def xP(O:LamOk X W c0 c j)(Y:X.N[j2]?=!x2)(B:Vis X.env.scope x2)(R:yo X.prog X.w X.K X.mg X.base k f0 fd ps (spR W X.K n gR))(h3:ps.length=3)(hr:Room k X.A)(hg:Gl X x)(hm:X.mg x=!.ref f0)(hk:keepIn X.K (.ref f0))(hb:Binds X.K fd ps [])(ha:PX0 X e g)(hd:nDb x:=by decide)(U:nDb x2:=by decide)(l:nDc x2:=by decide)(he:starEach [e,.Lambda W.L.params W.L.body W.L.scope W.pos,.Name x2 p2] X.env=(false,eval e X.env)::starEach [.Lambda W.L.params W.L.body W.L.scope W.pos,.Name x2 p2] X.env:=by rfl)(T:starEach [.Lambda W.L.params W.L.body W.L.scope W.pos,.Name x2 p2] X.env=(false,eval (.Lambda W.L.params W.L.body W.L.scope W.pos) X.env)::starEach [.Name x2 p2] X.env:=by rfl)(S:starEach [.Name x2 p2] X.env=(false,eval (.Name x2 p2) X.env)::starEach [] X.env:=by rfl)(C:(backTo pos<|starEach [.Lambda W.L.params W.L.body W.L.scope W.pos,.Name x2 p2] X.env).any (·.1)=false:=by rfl):PDO X (.Call (.Name x p) [e,.Lambda W.L.params W.L.body W.L.scope W.pos,.Name x2 p2] [] pos) (yT n j j2 gR g):=by
 intro pz s σ H Q I h;let#[P,F,ρ,o,i,y,kk]:=h;let#[ds,M,rfl]:=YK.mp i;let#[x0,q0,i]:=Yx.mp M;let#[dc,q1,i]:=Yx.mp i;let#[d2,q3,q2]:=Yx.mp i;let#[v2,b,a]:=y.at<|nU q3
 let#[vc,z,rep]:=y.at<|nU q1
 exact ZS<|gB I hg hm ?_ hd;exact callWith_K I.ok.mod.kin hk ?_ he C;rw[he];exact ZR<|bh (ha pz s σ H (λv H'=>∃m,Evo P F H m H'/\ArgsS X.K ρ σ m [x0] [v]) I #[P,F,ρ,x0,q0,y,λv m H' ev r=>#[m,ev,r]]) λu0 s1 v0 H1 I1 r1 q=>?_;let#[F1,Z,ra]:=q;rw[T];exact ZR<|wN O I1 λf c' ob u H2 s2 I2 J la fz ho hH E=>?_;rw[S];exact ZR<|CV Y B I2 b (λu2 r2=>?_) U l;exact Vy #[I2.kIn,sE O R h3 hr y z rep (re q2) kk I1 r1 Z ra I2 J la fz ho hH E r2 a hb qx]
end
end L2
namespace L2
open PySem PySem.Spec PyProof.Rows
theorem kf:plainId "dict.update.loop":=by decide+kernel
def t8:entryFor table "dict.update.loop"=some Builtin.«dict.update.loop»:=entryFor_of_tree (by kernel_rfl)
section
theorem GJ{l:Addr}{its:Array Value}{n:Nat}{Q:Ko}(h:s.heap.get? l=some {cls:=.type "list",data:=.seq its n})(f:A.handled=())(q:∀h' tk,(∀b o,s.heap.get? b=!o->h'.get? b=!o)->Q () {s with heap:=h',toks:=tk}):wpAny (model prog w) A (getAttr? (.ref l) "keys") Q E s:=by
 have x:Shared.TypeIs s (.ref l) "list":=#[_,h,qx]
 have z:typeLookup (Value.type "list") "__getattribute__"=pure (!(.builtin "list.__getattribute__")):=PySem.F.slot_list_getattribute.lookup;have j:typeLookup (Value.type "list") "keys"=pure ():=by rfl
 have y:typeLookup (Value.type "list") "__getattr__"=pure ():=by rfl
 delta getAttr? getAttrBy? getAttrBy getAttrByItsOwn hookBefore callGetattribute
 wp_walk
 let i:=PySem.F.slot_list_getattribute.bind (.ref l);rw[i];exact Yi ?_;show wpAny _ _ (call (.builtin "list.__getattribute__") [.ref l,Value.str (Str.ofString "keys") s.toks]) _ _ _;exact Uq PySem.F.slot_list_getattribute (s:={s with toks:=s.toks+1}) #[_,h,qx] am_entry_list_getattribute (PySem.F.args_list_getattribute_2 _ _) (meets_getattribute_miss_list l its n #[[]] "keys" s.toks j (by decide)) #[h,f,λh' tk e a=>?_];let#[t,u,g]:=a.there;let c:=a.keeps;delta getattributeRaised hookBehind hookOrError attributeErrorLeaves;have p:Shared.TypeIs {s with heap:=h',toks:=tk} (.ref e) "AttributeError":=#[_,g,qx]
 have m:isSubtype (.type "AttributeError") (.type "AttributeError")=pure true:=sub_AttributeError
 wp_walk
 exact q h' tk c
def iN(prs:List (Key×Value)):=prs.foldl (λa p=>stored a p.1 p.2) []
theorem wL l p:iN (l++[p])=stored (iN l) p.1 p.2:=by delta iN;grind
def xB l(k:Key)v:(stored l k v).length<=l.length+1:=by delta stored;split<;>simp<;>lia
theorem xW l:(iN l).length<=l.length:=by
 have:∀(l a:List<|Key×Value),(l.foldl (λa p=>stored a p.1 p.2) a).length<=a.length+l.length:=by
  intro l;induction l with
  |nil=>intro a;simp
  |cons p r ih=>intro a;let c:=ih<|stored a p.1 p.2;let b:=xB a p.1 p.2;rw[Xx,Yq];lia
 let h:=this l [];rwa[Ze,ZX]at h
def qA{p}{a}{Q:Kl}(h:IsTup s.heap p #[[a,u]])(q:Q [a,u] s):wpAny (model prog w) A (Builtin.Dict.pairItems (.ref p)) Q E s:=by
 let#[o,c,b,n,e]:=h
 wp_walk
 rw[e];exact Yi<|Yi q
variable{G:Array GenState->Array GenState->Prop}{n:Nat}{P:Nat->Value->Prop}{St:Nat->Shared->Prop}{R:Kr}
theorem BE(W:WalksS prog w A.in1 I fp wr G n P St)d(J:d∉fp)O(c:∀b o,O.get? b=!o->b∉d::wr)prs(hn:prs.length=n)(hn2:n<=1000)
  (B:∀i v,P i v->∃k u p x,prs[i]?=!(k,u)/\v=.ref p/\IsTup O p #[[x,u]]/\(aH prog w).is k x) :
  ∀k i s j S,n-i=k->i<=n->St i s->(∀b o,O.get? b=!o->s.heap.get? b=!o)->Heap.DictOf (aH prog w) s.heap d (iN<|prs.take i)->
   (∀s',Moved (d::wr) G s s'->Heap.DictOf (aH prog w) s'.heap d (iN prs)->R (.ok<|.ret .none) s')->
   codeAny (model prog w) A (.builtin "dict.update.loop" #[[.ref d,.ref I,.int j S,.none],[]]) R s:=by
 let Y:=λh=>J<|W.sub _ h
 have a:∀b∈wr,b∈d::wr:=λb q=>Yb _ q
 have mv:∀{s s'}{l},Moved wr G s s'->Heap.DictOf _ s.heap d l->Heap.DictOf (aH prog w) s'.heap d l:=λm #[o,es,ep,e,r]=>#[o,es,ep,m.heap d o Y e,r]
 intro k;induction k with
 |zero=>
  intro i s j S hk hi g M N Z;have X:i=n:=by lia
  subst X;exact Zy t8 ?_;exact Yd<|W.done s _ _ g λs' y=>?_;exact Yi<|Z s' (y.mono a)<|mv y ?_;rwa[<-hn,XH]at N
 |succ k ih=>
  intro i s j S hk hi g M N Z;have H:i<n:=by lia
  exact Zy t8 ?_;exact Yd<|W.item i s _ _ H g λv s' hP C y=>?_;let#[ky,u,p,x,hd,rfl,Q,U]:=B i v hP;let f:=λb o e=>y.heap b o (λq=>c b o e<|a b q)<|M b o e
  have z:IsTup s'.heap p #[[x,u]]:=by let#[o,e1,e2]:=Q;exact#[o,f p o e1,e2]
  exact Yd<|Zs<|Yd<|wpAny_tryCatch<|qA z ?_;exact Zs<|wpAny_dictSet_pairs U (mv y N) (λh' K off=>?_) (by have:=xW<|prs.take i;rw[XE]at this;exact YF this<|YF (Ud _ _)<|YF (by lia)<|show 1000<=sizeLine by decide);have et:prs.take i++[(ky,u)]=prs.take (i+1):=by rw[Ux,hd];rfl
  rw[<-wL _ (ky,u),et]at K;exact Yi #[Vr kf _,ih (i+1) _ _ _ (by lia) H (W.frame _ s' _ _ C (ZZ _) λb q o e=>?_) (λb o e=>?_) K λT E L=>?_]
  .rwa[off.2 b (λh:b=d=>J<|by rw[<-h];exact q)]
  .show h'.get? b=!o;rw[off.2 b (λh:b=d=>c b o e<|by rw[h];exact Ye)];exact f b o e
  .exact Z T (Moved.trans W.gtrans ((y.mono a).then_heap (ZZ _) λb o q e=>?_) E) L;rw[off.2 b (λh:b=d=>q<|by rw[h];exact Ye)];exact e
end
abbrev oR(w:World):Obj:={cls:=.type "set",dict:=(),data:=.set #[[]] 0<|.fresh 0 0<|(not<|w.params.followText "set-order")}
abbrev Ap(l:Addr):Obj:={cls:=.type "list_iterator",data:=.fields #[[.ref l,.int 0 0]]}
def vW(x:Value){Q₁:Kv}(q:Q₁ (.ref s.heap.objs.size) {s with heap:=s.heap.push (oR w)}):codeAny (model prog w) A (.call (.builtin "set.__new__") #[[.type "set",x],[]]) (wants Q₁ E) s:=by
 exact codeAny_of_tree (Yd (m:=checkBuiltinCall "set.__new__" #[[.type "set",x],[]]) (wpAny_of_eq (PySem.F.newCall_set_1 x) (Yi #[Vr PySem.F.plain_set_new _,Zy PySem.F.entry_set_new ?_])));rw[ZK PySem.F.plain_set_new #[[.type "set",x],[]]];delta Builtin.«set.__new__» Builtin.Frozenset.newClass;let h:=sub_set_self;let#[b,g,c,a,o]:=s;dsimp only;wp_walk;exact wpAny_askSetting (Yi ?_);dsimp only;simp only[newObj];exact Yd (wpAny_alloc (Yi (Yi q)))
theorem uh{l:Addr}{items:Array Value}{Z:Heap->Prop}(J:s.heap.IsList l items)(j:∀R:Result->Shared->Prop,(∀h' tk,Z h'->(∀b o,s.heap.get? b=!o->h'.get? b=!o)->R (.ok (.ret .none)) {s with heap:=h',toks:=tk})->
   codeAny (model prog w) A.in1.in1 (.builtin "set.update.loop" #[[.ref s.heap.objs.size,.ref (s.heap.push (oR w)).objs.size],[]]) R {s with heap:=(s.heap.push (oR w)).push (Ap l)})(q:∀h' tk,Z h'->(∀b o,s.heap.get? b=!o->h'.get? b=!o)->Q (.ref s.heap.objs.size) {s with heap:=h',toks:=tk}):wpAny (model prog w) A (call (.type "set") [.ref l]) Q E s:=by
 let f:=PySem.F.called_set;let#[m0,mr,hm]:=f.mro;let y1:=f.made;let y2:=f.sub;let y3:=f.notType;let y4:=f.canCreate;let Y:=PySem.F.typeCall_set_1 (.ref l);exact Vh (codeAny_of_tree ?_);show wpAny _ _ (callAny (.type "set") #[[.ref l],[]]) _ _ _;exact Yi #[XL _ (by decide+kernel),Zy PySem.F.entry_type_call ?_];rw[Around.under_plain (weight_type_call_type "set" [.ref l] []) qx]
 repeat any_goals first|assumption|wp_step
 exact Xo (vW (.ref l) (E:=E) (Q₁:=λobj c=>obj=.ref s.heap.objs.size/\c={s with heap:=s.heap.push (oR w)}) #[qx,qx]) λr c m=>?_;cases r with
 |error e=>exact m
 |ok M=>
  cases M with
  |ret obj=>
   let#[rfl,rfl]:=m;have L:(s.heap.push (oR w)).get? s.heap.objs.size=!oR w:=Ys _ qx;have K:Shared.TypeIs {s with heap:=s.heap.push (oR w)} (.ref s.heap.objs.size) "set":=#[_,L,qx]
   let X:=f.init.lookup;let U:=f.init.bind (.ref s.heap.objs.size)
   repeat any_goals first|assumption|wp_step
   exact Xo (XW (R:=wants (λr a=>r=.none/\∃h' tk,a={s with heap:=h',toks:=tk}/\Z h'/\∀b o,s.heap.get? b=!o->h'.get? b=!o) E) f.init.plain PySem.F.entry_set_init (check_set_init_1 K ?_)) λi a h=>?_
   .let#[#[cl,O,dt,I],N,H,B,C]:=J;simp only at H C;subst H C;have z:(s.heap.push (oR w)).get? l=some {cls:=.type "list",dict:=O,data:=.seq items B,slots:=I}:=Yf _ N;let T:=PySem.F.sub_list_set;let S:=PySem.F.sub_list_frozenset;have P:(Value.type "list" == Value.type "dict")=false:=by decide
    have p:(s.heap.push (oR w)).IsList l items:=#[_,z,qx,B,qx]
    delta Builtin.«set.__init__» noKeywords Builtin.Frozenset.updateFrom;generalize y:pyIter=PI
    wp_walk
    subst y;exact Vx p (Yd (wpAny_runValue (j _ λh' tk x u=>?_)));show wpAny _ _ _ _ _ _;exact Yi (show wpAny _ _ (ret Value.none) _ _ _ from Yi #[qx,h',tk,qx,x,u])
   .cases i with
    |error e=>exact h
    |ok g=>
     cases g with
     |ret v=>
      let#[rfl,h',tk,rfl,x,u]:=h
      repeat any_goals first|assumption|wp_step
      exact q _ _ x u
     |_=>exact h.elim
  |_=>exact m.elim
abbrev jY:Obj:={cls:=.type "dict",data:=.dict #[[]]}
def j4{l:Addr}{items:Array Value}{x:Nat}{Z:Heap->Prop}(K:A.handled=())(J:s.heap.get? l=some {cls:=.type "list",data:=.seq items x})(p:∀(R:Kr) (h1:Heap) (g:Nat),(∀b o,(s.heap.push jY).get? b=!o->h1.get? b=!o)->(∀h' tk,Z h'->(∀b o,s.heap.get? b=!o->h'.get? b=!o)->R (.ok (.ret .none)) {s with heap:=h',toks:=tk})->
   codeAny (model prog w) A.in1 (.builtin "dict.update.loop" #[[.ref s.heap.objs.size,.ref h1.objs.size,.int 0 0,.none],[]]) R {s with heap:=h1.push (Ap l),toks:=g})(q:∀h' tk,Z h'->(∀b o,s.heap.get? b=!o->h'.get? b=!o)->Q (.ref s.heap.objs.size) {s with heap:=h',toks:=tk}):wpAny (model prog w) A (call (.type "dict") [.ref l]) Q E s:=by
 let f:=PySem.F.kt_called_dict;let#[m0,mr,hm]:=f.mro;let y1:=f.made;let Y:=f.sub;let X:=f.notType;let U:=f.canCreate;let T:=PySem.F.kt_typeCall_dict_1 (.ref l);exact Vh (codeAny_of_tree ?_);show wpAny _ _ (callAny (.type "dict") #[[.ref l],[]]) _ _ _;exact Yi #[XL _ (by decide+kernel),Zy PySem.F.entry_type_call ?_];rw[Around.under_plain (weight_type_call_type "dict" [.ref l] []) qx]
 repeat any_goals first|assumption|wp_step
 exact Xo (kt_code_dict_new (.ref l) (E:=E) (Q₁:=λobj c=>obj=.ref s.heap.objs.size/\c={s with heap:=s.heap.push jY}) #[qx,qx]) λr c y=>?_;cases r with
 |error e=>exact y
 |ok N=>
  cases N with
  |ret obj=>
   let#[rfl,rfl]:=y;have M:(s.heap.push jY).get? s.heap.objs.size=!jY:=Ys _ qx;have L:Shared.TypeIs {s with heap:=s.heap.push jY} (.ref s.heap.objs.size) "dict":=#[_,M,qx]
   let S:=f.init.lookup;let P:=f.init.bind (.ref s.heap.objs.size)
   repeat any_goals first|assumption|wp_step
   exact Xo (XW (R:=wants (λr a=>r=.none/\∃h' tk,a={s with heap:=h',toks:=tk}/\Z h'/\∀b o,s.heap.get? b=!o->h'.get? b=!o) E) f.init.plain PySem.F.entry_dict_init (f.init.check _ _ _ _ _ _ _ _ L (PySem.F.args_dict_init_2 _ _) ?_)) λm a h=>?_
   .have u:(s.heap.push jY).get? l=some {cls:=.type "list",data:=.seq items x}:=Yf _ J;delta Builtin.«dict.__init__» Builtin.Dict.selfAndRest Builtin.Dict.notOrdered;generalize i:Builtin.Dict.updateCommon=PI
    wp_walk
    subst i;show wpAny _ _ (Builtin.Dict.updateFrom "dict.__init__" s.heap.objs.size (.ref l) [] .none) _ _ _;delta Builtin.Dict.updateFrom;generalize H:getAttr?=GA,i:pyIter=PI;have O:(Value.type "list" != Value.type "dict")=true:=by decide
    wp_walk
    subst H;exact GJ u (by simpa using K) λh1 g I=>?_
    wp_walk
    subst i;have z:h1.IsList l items:=#[_,I _ _ u,qx,x,qx]
    exact Vx z (Yi ?_);exact#[Vr kf _,p _ h1 g I λh' tk C B=>#[qx,h',tk,qx,C,B]]
   .cases m with
    |error e=>exact h
    |ok j=>
     cases j with
     |ret v=>
      let#[rfl,h',tk,rfl,C,B]:=h
      repeat any_goals first|assumption|wp_step
      exact q _ _ C B
     |_=>exact h.elim
  |_=>exact y.elim
def pW:bootBuiltins "dict"=!(.type "dict"):=by rfl
inductive PairsV (H:Hp):List V->List (Key×V)->Prop
 |nil:PairsV H [] []
 |cons {p:Addr}{k:Key}{x:V}{vs:List V}{kvs:List (Key×V)}:H p=!.tup [kV k,x]->PairsV H vs kvs->PairsV H (.ref p::vs) ((k,x)::kvs)
def PairsV.length{kvs}(h:PairsV H vs kvs):vs.length=kvs.length:=by
 induction h with
 |nil=>rfl
 |cons _ _ ih=>exact YW Nat.succ ih
def EW{P}(ok:HOk P w H h){kvs}(m:PairsV H vs kvs):∀{its},Vals vs its->∃prs:List (Key×Value),KV kvs prs/\∀(i:Nat) v,its[i]?=!v->∃k u p a,prs[i]?=!(k,u)/\v=.ref p/\IsTup h p #[[a,u]]/\(aH P w).is k a:=by
 induction m with
 |nil=>intro its r;cases r;exact#[[],.nil,λi v e=>nomatch e]
 |cons o _ ih=>
  intro its r;cases r with
  |cons j g=>
   let#[prs,s,q]:=ih g;cases j;let#[_,x,c,l,_]:=ok _ _ o;let#[a,u,rfl,f,b]:=c.two;exact#[(_,u)::prs,.cons #[rfl,b] s,λi v e=>?_];cases i with
   |zero=>cases e;exact#[_,u,_,a,qx,qx,l,q_ f]
   |succ i=>exact q i v e
def Lb{kvs}(h:KV kvs prs):KV (iJ [] kvs) (iN prs):=by
 have:∀{kvs}{prs},KV kvs prs->∀{a}{b},KV a b->KV (iJ a kvs) (prs.foldl (λa p=>stored a p.1 p.2) b):=λh=>by
  induction h with
  |nil=>exact λh=>h
  |cons r _ ih=>
   intro a b c;exact ih (b:=stored b _ _) ?_;let#[f,e]:=r;rw[<-f];exact KV.put c _ e
 exact this h .nil
theorem xp a kvs:(iJ a kvs).length<=a.length+kvs.length:=by
 delta iJ;induction kvs generalizing a with
 |nil=>simp
 |cons p r ih=>let b:=ih<|ij a p.1 p.2;let h:=jp a p.1 p.2;rw[Xx,Yq];lia
def yv(hcalm:X.calm):CallR X (.type "dict") (λxs H Q=>∃a vs kvs,xs=[.ref a]/\H a=!.lst vs/\PairsV H vs kvs/\vs.length<=1000/\∀d,H d=()->Q (.ref d) (upd H d (.dK (iJ [] kvs)))):=by
 intro pz s σ H xs us Q I r h;let#[a,vs,kvs,rfl,ha,L,hl,q]:=h;let#[u,rfl,ru]:=fE r;cases ru;let#[_,f,n,B,M]:=I.hok _ _ ha;let#[prs,kv,Y]:=EW I.hok L B;have Mr:f.length=prs.length:=by rw[<-B.length,L.length];exact VV kv
 let hh:=I.ok.hd hcalm;exact j4 (Z:=λx=>Heap.DictOf (aH X.prog X.w) x s.heap.objs.size<|iN prs) hh M (λR l tk1 K hR=>?_) λx tk hZ hk=>?_
 .have hS:(s.heap.push jY).get? s.heap.objs.size=!jY:=Ys _ qx;let S:=K _ _ hS;let j:=Yv S;let m:=Yv M;let N:=Yy<|ZL m j;let c:=λb o e=>K b o<|Yf _ e
  have g:∀b o,s.heap.get? b=!o->b∉s.heap.objs.size::[l.objs.size]:=λb o e=>by
   have:=Yv e;simp;exact#[Yy this,Yy<|ZL this j]
  have O:(l.push<|Ap a).IsList a f.toArray:=Heap.IsList.push #[_,c _ _ M,qx,n,qx] _;have E:X.A.in1.in1.handled=():=by simpa using hh
  have T:Heap.DictOf (aH X.prog X.w) (l.push<|Ap a) s.heap.objs.size (iN<|prs.take 0):=by let#[_,_,vs0,J,o,es,ep,e,rr]:=Cc (P:=X.prog) (w:=X.w) (H:=H) s.heap I.big;cases J;exact#[o,es,ep,Yf _<|K _ _ e,rr]
  exact BE ((Walks.list E _ a N f.toArray).toS) s.heap.objs.size (by simp;exact#[Yy j,Xc m]) s.heap g prs (by rw[<-Mr,YB]) (by rwa[YB,<-B.length]) (λi v e=>Y i v<|by simpa using e) _ 0 _ 0 0 (by omega) (YQ _)
   #[#[_,Ys _ rfl,rfl,rfl],O] (λb o e=>Yf _<|c b o e) T λs' p U=>?_
  let#[x,g',d',y,C]:=s';let eg:=p.gens;let ed:=p.drawn;let eo:=p.os;subst eg ed eo;exact hR x y U λb o e=>p.heap b o (g b o e)<|Yf _<|c b o e
 .have z:(iJ [] kvs).length<=sizeLine:=YF (xp [] kvs) (by rw[Ze,ZX,<-L.length];exact YF hl<|by decide);exact#[.ref s.heap.objs.size,_,I.laid hk (Yp _)<|DL z (ZB.mpr<|Xq<|Yy I.big) (Lb kv) hZ,qx,q _<|I.hok.fresh<|Yp _]
open PySem.W
def gK:List D->Option (List (Key×D))
 |[]=>![]
 |.tup [k,v]::r=>(kd k).bind λa=>(gK r).map λl=>(a,v)::l
 |_=>()
def lY(a kvs:List (Key×D)):=kvs.foldl (λb p=>fm b p.1 p.2) a
def vq(r:Rep K F v d)(h:kd d=!k):v=kV k:=by
 cases d with
 |int i=>cases h;cases r;rfl
 |str x=>cases h;cases r;rfl
 |_=>cases h
def AT(s:Same F H):∀{vs}{ds}{kvs},Reps K F vs ds->gK ds=!kvs->∃l,PairsV H vs l/\RepsK K F l kvs:=by
 intro vs ds kvs r;exact Reps.ind (M:=λvs ds=>∀kvs,gK ds=!kvs->∃l,PairsV H vs l/\RepsK K F l kvs) (λkvs h=>by cases h;exact#[[],.nil,.nil]) (λ{v d vs ds} c _ ih kvs h=>?_) r kvs;delta gK at h;split at h
 .rename_i e;cases e
 .rename_i k x p e;cases e;let#[w,q,h]:=Yx.mp h;let#[l,a,rfl]:=YK.mp h;let#[u,m,j]:=ih l a;cases c with
 |tup e1 e2=>
  cases e2 with
  |cons i g=>
   cases g with
   |cons b f=>
    cases f;let o:=HX i q;subst o;exact#[_,.cons (s _ _ e1) m,.cons b j]
 .cases h
def xZ{l}{kvs}(h:RepsK K F l kvs){a}{b}(c:RepsK K F a b):RepsK K F (iJ a l) (lY b kvs):=
 RepsK.ind (M:=λl kvs=>∀a b,RepsK K F a b->RepsK K F (iJ a l) (lY b kvs)) (λz z h=>h) (λ{k v d e f} r _ ih a b c=>ih _ _<|RepsK.put r c) h a b c
def zq(f:Dl):DF->Option OD:=λc=>(f c).bind λb=>(gK b).bind λa=>if b.length<=1000 then !(.dK<|lY [] a)else ()
section
variable{i:Expr}{fk fd:Dd}
def A5{f:Dl}(hcalm:X.calm)(C:Gl X "dict")(A:X.mg "dict"=())(h:PDO X e (asL f))(hs:starEach [e] X.env=[(false,eval e X.env)]:=by rfl)(i:(backTo pos (starEach [] X.env)).any (·.1)=false:=by rfl):PDO X (.Call (.Name "dict" p) [e] [] pos) (zq f):=
 (eF (yv hcalm) C A pW (aI h bf hs) (by decide) (by decide) hs i).imp λM H Q=>un7 λP F o N b I k=>by
  delta zq at b;cases q:f o with
  |none=>rw[q]at b;cases b
  |some m=>
  cases g:gK m with
  |none=>rw[q,Ya,g]at b;cases b
  |some y=>
  rw[q,Ya,g,Ya]at b;split at b
  .rename_i B;cases b;exact#[P,F,o,.lst m,by delta asL;rw[q];rfl,I,λa x S c z=>?_];let#[#[R,O],u,L,w]:=z;cases u with
   |lst vs=>
    let s:=w;let#[l,J,E]:=AT c.hp.sub s g;exact#[a,vs,l,qx,L,J,by rwa[s.length],λd j=>?_];exact k d x _ (c.trans<|Evo.side c.hp j) #[#[c.back I.toDHp j,(c.hp.free j).1],_,aC,xZ E .nil]
   |_=>exact w.elim
  .cases b
def pI:D->D->Option D
 |y,.dK kvs=>(kd y).map λk=>.bl<|(not<|(c_ kvs k).isSome)
 |_,_=>()
theorem Ck(S:X.A.units+64<cLine)(hi:PDE X i fk)(C:PDR X o fd)(h1:behindInMarks .NotIn o=false:=by first|exact qF _ (by decide) (by decide)|rfl):PDT X (.Compare i [.NotIn] [o] pos) (asB (d2 pI fk fd)):=(xz (rB (by lia) hi C) h1).imp λO H Q=>un7 λP F c b h I k=>by
 let h:=xI h;delta d2 at h;cases q:fk c with
 |none=>rw[q]at h;cases h
 |some s=>
 cases g:fd c with
 |none=>rw[q,Ya,g]at h;cases h
 |some K=>
 rw[q,Ya,g,Ya]at h;cases K with
 |dK kvs=>
  have a:((kd s).map λk=>D.bl _)=!_:=h;let#[j,f,a]:=YK.mp a;cases a;exact#[P,F,c,_,q,I,λy N U m w=>#[P,N,c,_,g,I.evo m,λx M L l B=>?_]];let#[p,u,rfl,h1,E]:=KH ((I.evo m).evo l) B;let J:=HX (w.same l.ext) f;subst J;exact#[p,_,qx,DGet.k h1,_,qx,?_];have:(dY u j).isSome=(c_ kvs j).isSome:=by
   rcases E.val with⟨e,z⟩|⟨v,T,e,z,R⟩
   .rw[e,z];rfl
   .rw[e,z];rfl
  rw[this];exact k M L<|m.trans l
 |_=>cases h
def nu(i:Nat)(a0:Addr)(v0:V)(g:Dd)(fe:Dd):DF->Option D:=λb=>match b[i]? with
 |some (some<|.v<|.fn a v d)=>open Classical in if a=a0/\v=v0 then(fe b).bind λx=>g [some<|.v x,some<|.v d]else ()
 |_=>()
open A in
def wM{c}{j:Dd}(S:L.Ok)(M:LamIn X L a0 c' c uc)(B:RelV v0 uc)(J:Room (k+1) X.A)(hN:X.N[ix]?=!x)(hv:Vis X.env.scope x)(R:PDE X e fe)(O:∀s H E,PDE (jg CX0 X.prog X.w X.K X.mg X.base L a0 c' c X.A X.stack s H E) L.body j)(hd:nDb x:=by decide)(hcd:nDc x:=by decide)(he:starEach [e] X.env=(false,eval e X.env)::starEach [] X.env:=by rfl):PDE X (.Call (.Name x p) [e] [] pos) (nu ix a0 v0 j fe):=
 (Ej (t:=tD X.K j) S M B J hN hv R (λs H E=>O s H E) hd hcd he).imp λσ H Q=>un7 λP F l d h I k=>by
  delta nu at h;split at h
  .rename_i a v Z q;split at h
   .rename_i av;let#[rfl,rfl]:=av;cases g:fe l with
    |none=>rw[g]at h;cases h
    |some m=>
     rw[g,Ya]at h;let#[w,U,T]:=I.at q;cases T with
     |fn rv=>
      exact#[U,P,F,l,m,g,I,λo u H1 f r=>#[o,qx,gd u H1,u,[some<|.v m,some<|.v Z],d,h,#[fF f.hp.sub,rfl,λ_=>(),λi z b=>?_],λy F2 H2 Y C=>k y F2 H2 (f.trans<|Y.change f.hp) C]]
      match i,b with
      |0,b=>cases b;exact#[o,qx,r]
      |1,b=>cases b;exact#[_,qx,Rep.same f.ext rv]
      |i+2,b=>cases b
   .cases h
  .cases h
def Cu(i:Nat)(fe:Dd):DF->Option RES:=λc=>match c[i]?,fe c with
 |some<|some<|.v<|.int a,!.int b=>some<|.nx<|c.set i<|some<|.v<|.int<|a+b
 |_,_=>()
open A in
def CO(hN:X.N.Nodup)(hi:X.N[ix]?=!x)(hx:Loc X.env.scope x)(he:PDE X e fe)(i:FnL X x:=by trivial):PD1 X (.AugAssign (.Name x pos') .Add e pos) (Cu ix fe):=
 PS.imp (Lq hN hi hx he Jm i) λE p H=>un7 λP F f r h I k=>by
  delta Cu at h;split at h
  .rename_i a b q g;cases h;let#[v,l,j]:=I.at q;cases j;exact#[_,l,P,F,f,_,g,I,λy o m c r=>?_];cases r;exact#[a,b,qx,qx,k _ o m c.ext<|(I.evo c).setV ix .int]
  .cases h
end
end L2
namespace L2
open PySem PySem.Spec PyProof.Rows
abbrev GL:=List<|Str×Nat×Int×Nat
def glE(P:Params)(p:Str×Nat×Int×Nat):DictEntry:=#[PyData.keyHash P p.1,.str p.1 p.2.1,.int p.2.2.1 p.2.2.2]
structure KD (K:PySem.W.Frag) (P:Params) (d:Addr) (L:GL) (ep:Nat):Prop where
 look:K.lookup d=some {cls:=.type "dict",data:=.dict (L.map (glE P)).toArray ep}
 nd:(L.map (·.1)).Nodup
 ns:(d == sysModules)=false
abbrev AW:=Nat ⊕ D
abbrev MW:=List DV->Option (List DV×D)
abbrev DWs:=DF->Option (List AW×DF)
open PySem.W
def DInv.lend(I:DInv K P F H ρ σ){o}(fl:o.flat)(h:ρ[i]?=!!.own o t):∃T,DInv K T F H (ρ.set i (!.bor o)) σ:=by
 let#[O,p]:=I.rep;let#[_,L,a,rfl,J,_]:=p i _ h;let#[#[M,s,y],u,S,R]:=(ORep.flat fl).mp J;have A:∀{b}{m},O b=!m->i≠m->b≠a:=λh C z=>by subst z;rw[y]at h;exact C<|YG h
 exact#[upd P a u,#[I.sub,λb w e=>?_,λb w e=>?_],by rw[Zp];exact I.len,O,λm x E=>?_]
 .by_cases q:b=a
  .subst q;rw[aC]at e;cases e;exact S
  .rw[az q]at e;exact I.pro b w e
 .by_cases q:b=a
  .subst q;exact M
  .rw[az q]at e;exact I.dis b w e
 .rcases gq E with⟨rfl,e,U⟩|⟨g,f⟩
  .cases e;exact#[_,L,a,qx,(ORep.flat fl).mpr #[trivial,u,aC,R]]
  .let#[v,N,l]:=p m x f;exact#[v,N,?_];cases x with
   |v d=>exact l
   |own o' t'=>
    let#[b,rfl,j,B]:=l;exact#[b,qx,j.mono (Same.refl _) λQ w q c=>#[c,q.1,by rw[az<|A q.2.2 g];exact q.2.1,q.2.2],B]
   |bor o'=>
    let#[b,rfl,j]:=l;exact#[b,qx,j.mono (Same.refl _) λQ w q c=>#[by rwa[az λz=>by subst z;rw[s]at c;cases c],q]]
def sH(i:Nat)(f:Do):DF->Option OD:=λa=>match a[i]? with
 |some (some<|.own o _)=>if o.flat then f (a.set i<|some<|.bor o)else ()
 |_=>()
def wE i{f:Do}(h:PDO X e f):PDO X e (sH i f):=PE.imp h λu H Q=>un7 λP F w o b I k=>by
 delta sH at b;split at b
 .rename_i x t q;split at b
  .rename_i g;let#[l,m]:=I.lend g q;exact#[l,F,_,o,b,m,λa s p j c=>k a s p (j.change I.toDHp) c]
  .cases b
 .cases b
end L2
namespace L2
open PySem PySem.Spec PyProof.Rows
def lS(f:Dd):DF->Option Bool:=λa=>match f a with
 |some (.lst ds)=>some<|(not<|ds.isEmpty)
 |_=>()
def tW(a:PDR X e fa)(he:∀w,isTrue e X.env w=(do let v <-w;standAt e.pos;holding [v] (truthy v)):=by intro _;rfl):PDT X e (lS fa):=
 (Dr a he).imp λs H Q=>un7 λP F b d h I k=>by
  delta lS at h;cases a:fa b with
  |none=>rw[a]at h;cases h
  |some m=>
  rw[a]at h;cases m with
  |lst ds=>
   cases h;exact#[P,F,b,_,a,I,λx q p f g=>?_];let o:=I.evo f;let#[l,c,rfl,j,i]:=dE o g;exact#[(not<|ds.isEmpty),.inl #[c,j,?_],k q p f];have:=i.length;cases c<;>cases ds<;>first|rfl|cases this
  |_=>cases h
def nJ:List Int->Int
 |[]=>0
 |[a]=>a
 |a::b::r=>if a<=nJ (b::r)then a else nJ (b::r)
theorem tM:∀ns,ns≠[]->nJ ns∈ns/\∀a∈ns,nJ ns<=a
 |[],h=>absurd qx h
 |[a],_=>#[Yu.mpr qx,λb g=>by rw[Yu.mp g];exact Uy _]
 |a::b::r,_=>by
  let#[i,f]:=tM (b::r) (by simp);delta nJ;by_cases q:a<=nJ (b::r)
  .rw[Yk q];exact#[Ye,λc e=>?_];rcases Yt.mp e with z|z
   .rw[z];exact Uy _
   .exact Int.le_trans q<|f c z
  .rw[Ym q];exact#[Yb _ i,λc e=>?_];rcases Yt.mp e with z|z
   .rw[z];lia
   .exact f c z
def vY:D->Option D
 |.lst ds=>if(ds.all isI&&(not<|ds.isEmpty)) then !(.int<|nJ<|ds.map toI)else ()
 |_=>()
theorem Bb(hcalm:X.calm):CallR X (.builtin "min") (λxs H Q=>∃l ns,xs=[.ref l]/\SqL X.K H l (ns.map V.int)/\ns≠[]/\Q (.int (nJ ns)) H):=by
 intro T s R H xs S Q I r h;let#[l,ns,rfl,E,b,q]:=h;let#[u,rfl,y]:=fE r;cases y;let#[c,x,A,U]:=I.list E;let o:=GG x;let#[xs,e]:=o.allInts.items;have a:ns=xs.toList.map (·.1):=by rw[<-o.numsOf,<-nums_intItems,<-e]
 have f:0<xs.size:=by
  rcases Nat.eq_zero_or_pos xs.size with z|z
  .exact absurd (by rw[a,XB];exact Zl.mp<|by rwa[Zi]) b
  .exact z
 let g:=A.isList;rw[e]at g;exact min_intList (I.ok.hd hcalm) g f λv Z w C L=>?_;let#[t,rfl]:=intItems_at C;let#[Y,N]:=argBest_lt (numAt xs)<|xs.size-1;let#[m,B]:=tM ns b;have J:numAt xs (argBest (λi j=>decide<|numAt xs i<numAt xs j)<|xs.size-1)=nJ ns:=by
  have P:numAt xs (argBest (λi j=>decide<|numAt xs i<numAt xs j)<|xs.size-1)∈ns:=by rw[a,numAt_eq];exact getD_mem<|by rw[Yc,Zi];lia
  let a2:=B _ P;rw[a]at m;let#[j,M,O]:=mem_getD m;rw[Yc,Zi]at M;let p:=N j (by lia);rw[numAt_eq xs j]at p;rw[<-a]at O p;lia
 rw[J];exact#[.int _,H,I.kept L,#[t,qx],q]
def GS(_:X.A.units+64<cLine)(hcalm:X.calm)(o:Gl X "min")(m:X.mg "min"=())(a:PDR X e fa)(hs:starEach [e] X.env=[(false,eval e X.env)]:=by rfl)(b:(backTo pos<|starEach [] X.env).any (·.1)=false:=by rfl):PDE X (.Call (.Name "min" p) [e] [] pos) (d1 vY fa):=
 (dB (Bb hcalm) o m Ei (aI a bf hs) (by decide) (by decide) hs b).imp λy H Q=>un7 λP F c d h I k=>by
  delta d1 at h;cases a:fa c with
  |none=>rw[a]at h;cases h
  |some s=>
  rw[a,Ya]at h;cases s with
  |lst ds=>
   delta vY at h;dsimp only at h;split at h
   .rename_i ok;rw[Yn]at ok;cases h;exact#[P,F,c,_,a,I,λx w C g i=>?_];let u:=I.evo g;let#[l,B,rfl,f,q]:=dE u i;let j:=jQ q ok.1;rw[j]at f;exact#[l,ds.map toI,qx,f,λz=>?_,k _ w _ g .int];rw[XB]at z;rw[z]at ok;cases ok.2
   .cases h
  |_=>cases h
def Iv(d:D):FO->Option FO
 |.d _=>some<|.d d
 |_=>()
def iX(C:Addr)(i:Nat)(n:Str)(f:Dd):DF->Option RES:=λa=>(f a).bind λd=>(mm (!C) i n (Iv d) a).map .nx
def iy i{f:Dd}(c:Cls X.K C)(z:NoAttr X.K C n)(y:PE X o (dM i))(hv:PDE X value f)(hs:swapsWith value (!.Attribute o n pos') pos.line X.env=pure false:=by rfl) :
  PD1 X (.Assign [.Attribute o n pos'] value pos) (iX C i n f):=PS.imp (tw y hv hs) λE j H=>un7 λP F m r h I k=>by
 let#[d,q,h]:=Yx.mp h;let#[l,u,rfl]:=dn h;let#[fs,t,x,Q,B,A,e,b,rfl]:=sM u;exact#[P,F,m,d,q,I,λv O U g s=>?_];cases x with
 |d d0=>
  cases e;let#[a,N,p,w,M,L,T,S,R,J,back]:=(I.evo g).fld B A;exact#[_,M,a,C,N,p,qx,L,c,z,by rwa[J],k j O _ g.ext<|back v d s]
 |_=>cases e
section
variable{P:Program}{q:Str}{c:Addr}{k:Nat}
def Df.okC(F:Df K q st f fd) N (x:∀{A}{outer}{s}{H}{E},Room k (A.deeper (envOfC q (defScope st) s.heap.objs.size f (.ref c)))->
      PDS (b7 CX0 P w K mg base N q (defScope st) f (.ref c) A outer s H E).nox (defBody st) g) (e:fd=fnD q st pm c:=by kernel_rfl) (h:xU N (dZ st) (defScope st):=by kernel_rfl):FnOk P w K mg base CX0 (k+1) f fd (dZ st) (spD K (mOf N.length (dZ st).length g)):=by
  let#[J,I,kV,i,p,B,a,y,o,j,l,b]:=F.fn.ex;subst e;let z:=j;let u:=YW FuncData.code z;subst u;exact zM l b (scI N h) uS λA outer s H C Q E m h=>#[_,PSs.nox<|x m,qE h]
def FnOk.neverO:FnOk P w K mg base CX0 k f fd ps (spO K λy y=>()):=
 #[λy y y y z=>(by let#[_,_,_,_,_,_,_,_,_,e,_]:=z;cases e),λy y y y y y y y y y y y y z=>(by let#[_,_,_,_,_,_,_,_,_,e,_]:=z;cases e)]
end
def JM(x:Str)(n:Int):=if n<1 then Str.empty else if(n == 1||x.length == 0) then x else#[(List.replicate n.toNat x.cps).foldl (·++·) [].toArray]
def GX:D->D->Option D
 |.str x,.int n=>if -(2^62)<=n/\n<1000/\x.length<=1000 then !(.str<|JM x n)else ()
 |_,_=>()
def IA:R2:=λx y H Q=>∃z n,x=.str z/\y=.int n/\(-(2^62)<=n/\n<1000/\z.length<=1000)/\Q (.str<|JM z n) H
theorem wH c:∀k (acc:Array Nat),((List.replicate k c).foldl (·++·) acc).size=acc.size+k*c.size
 |0,acc=>by simp
 |k+1,acc=>by
  rw[List.replicate_succ,Xx,wH,Array.size_append,Nat.succ_mul];lia
section
variable{a:Expr}
theorem GQ:OpR X (binaryOp .Mult) IA:=by
 intro p s g H x y v u Q I f e h;let#[z,n,rfl,rfl,#[b1,b2,b3],q]:=h;let#[t,rfl]:=f;let#[i,rfl]:=e;exact P.mul_str (by rw[YD<|show ¬n < -(2^63)by lia,YD<|show ¬n ≥ 2^63 by lia];rfl) (λa _=>?_) (λa _=>?_) ?_
 .have c:1000<=(2^63-1)/n:=Int.le_ediv_of_mul_le (by lia) (by lia);lia
 .have c:z.length*n.toNat<=1000*1000:=Um b3 (by lia);show decide _=false;rw[ZU,YV];lia
 .delta JM at q;split
  .rename_i a;rw[Yk a]at q;exact#[by decide,#[.str Str.empty,H,I.tok _,#[_,qx],q]]
  .rename_i a;rw[Ym a]at q;split
   .rename_i b;rw[Yk b]at q;exact#[.str z,H,I,#[_,qx],q]
   .rename_i b;rw[Ym b]at q;exact#[?_,#[.str _,H,I.tok _,#[_,qx],q]];show((List.replicate n.toNat z.cps).foldl (·++·) [].toArray).size<=sizeLine;rw[wH,YV];have c:n.toNat*z.cps.size<=1000*1000:=Um (by lia) b3;show 0+n.toNat*z.cps.size<=_;lia
open A in
def Gr:u3 K IA GX:=by
 intro P F H f e x y i g d Q h I b a k;delta GX at h;split at h
 .rename_i z n;split at h
  .rename_i c;cases h;exact#[z,n,kU b,da a,c,k _ F H (Evo.refl I.toDHp) .str]
  .cases h
 .cases h
def HK(c:PDR X a fa)(h:PDR X b fb):PDE X (.BinOp a .Mult b pos) (d2 GX fa fb):=kK GQ Gr c h
end
end L2
namespace L2
open PySem PySem.SetTable
theorem pV{xs}{k}(h1:∀i,i<k->xs.getD i j<j)(h2:∀i,k<=i->¬xs.getD i j<j):∀f lo hi,lo<=k->k<=hi->hi-lo<=f->below.go xs j f lo hi=k
 |0,lo,hi,a,b,c=>by delta below.go;lia
 |f+1,lo,hi,a,b,c=>by
  delta below.go;split
  .dsimp only;split
   .rename_i q;exact pV h1 h2 f _ _ (Nat.lt_of_not_le λz=>h2 _ z q) b<|by lia
   .rename_i q;exact pV h1 h2 f _ _ a (ZW λz=>q<|h1 _ z)<|by lia
  .lia
def CQ{a b:List Nat}(e:∀x∈a,x<j)(c:∀x∈b,j<=x):below (a++b).toArray j=a.length:=by
 exact pV (λi h=>?_) (λi h=>?_) _ 0 _ (YQ _) (by simp)<|by simp
 .have:(a++b).toArray.getD i j=a[i]:=by simp[Zq,ZD h,h]
  rw[this];exact e _<|Xh h
 .simp only[Zq,VG,ZA h];cases q:b[i-a.length]? with
  |none=>exact Zh _
  |some x=>exact Nat.not_lt.mpr<|c x<|YT q
section
variable{α:Type}{en:α->Int×Value}
abbrev Rs(Z:List (Nat×α)):=Z.Pairwise λx y=>x.1<y.1
theorem oZ(r:Rs Z)j:∃a b,Z=a++b/\(∀z∈a,z.1<j)/\∀z∈b,j<=z.1:=by
 induction Z with
 |nil=>exact#[[],[],qx,by simp,by simp]
 |cons x l ih=>
  let#[e,c]:=Zo.mp r;by_cases h:x.1<j
  .let#[a,b,rfl,g,f]:=ih c;exact#[x::a,b,qx,by simpa using #[h,λu v m=>g (u,v) m],f]
  .exact#[[],x::l,qx,by simp,λz m=>by
    rcases Yt.mp m with rfl|m
    .lia
    .have:=e z m;lia]
structure Tb (en:α->Int×Value) (t:SetTable) (es:Array (Int×Value)) (Z:List (Nat×α)):Prop where
 pl:t.place=(Z.map (·.1)).toArray
 es:es=(Z.map λz=>en z.2).toArray
 nod:t.dummies=#[[]]
 rs:Rs Z
def Tb.below{es:Ka}{a b}(T:Tb en t es (a++b))(c:∀z∈a,z.1<j)(h:∀z∈b,j<=z.1):SetTable.below t.place j=a.length:=by
 rw[T.pl,Zt,CQ,Yc]
 .intro x m;let#[z,k,rfl]:=Yg.mp m;exact c z k
 .intro x m;let#[z,k,rfl]:=Yg.mp m;exact h z k
def Tb.slot_in{es:Ka}(T:Tb en t es Z){z}(m:z∈Z):∃i,t.slot z.1=.live i/\es[i]?=!en z.2:=by
 let#[a,b,rfl]:=List.append_of_mem m;let r:=VU.mp T.rs;let e:=T.below (λx m=>r.2.2 x m z Ye) λx m=>by
  rcases Yt.mp m with rfl|m
  .exact Yp _
  .exact ZO<|(Zo.mp r.2.1).1 x m
 exact#[a.length,?_,by rw[T.es];simp];delta slot;rw[e,T.pl];simp
theorem Tb.uniq{es:Ka}(T:Tb en t es Z){y z}(b:y∈Z)(m:z∈Z)(e:y.1=z.1):y=z:=by
 apply Za;intro c;let#[i,a,rfl]:=Zj b;let#[j,h,rfl]:=Zj m;let r:=XZ.mp T.rs;rcases Nat.lt_trichotomy i j with l|l|l
 .have:=r i j a h l;lia
 .subst l;exact c qx
 .have:=r j i h a l;lia
def Tb.slot_out{es:Ka}(T:Tb en t es Z)(h:∀z∈Z,z.1≠j):t.slot j=.empty:=by
 delta slot;have:∀i,t.place[i]?≠!j:=λi q=>by
  rw[T.pl]at q;let#[z,m,e]:=Yg.mp<|YT (by rwa [VG]at q);exact h z m e
 simp[this,T.nod,has]
def Tb.put{es:Ka}(T:Tb en t es Z)(h:∀z∈Z,z.1≠j)e:∃a b,Z=a++b/\Tb en (t.put j).1 (insertAt es (t.put j).2 (en e)) (a++(j,e)::b):=by
 let#[a,b,rfl,g,f]:=oZ T.rs j;have q:(t.put j).2=a.length:=T.below g f;let r:=VU.mp T.rs;exact#[a,b,qx,?_,?_,?_,?_]
 .show insertAt t.place _ j=_;rw[T.below g f,T.pl];apply VM.mp;rw[toList_insertAt];simp
 .rw[q,T.es];apply VM.mp;rw[toList_insertAt];simp
 .show(if has t.dummies j then _ else t.dummies)=_;rw[T.nod];rfl
 .exact VU.mpr #[r.1,Zo.mpr #[λz m=>ZM (f z m) λc=>h z (by simp[m]) c.symm,r.2.1],λx m y n=>?_];rcases Yt.mp n with rfl|n
  .exact g x m
  .exact r.2.2 x m y n
def pQ(mask:Nat)(p:Probe):=
 if p.more > 0 then{p with j:=p.j+1,more:=p.more-1}else
 {p with j:=(leap mask p.i p.perturb).1,more:=runEnd mask (leap mask p.i p.perturb).1-(leap mask p.i p.perturb).1,i:=(leap mask p.i p.perturb).1,perturb:=(leap mask p.i p.perturb).2}
def fB(mask:Nat)(x:Nat×Nat):Probe:={j:=x.1,more:=runEnd mask x.1-x.1,i:=x.1,perturb:=x.2,dummy:=()}
def cx(mask:Nat)(p:Probe):Nat->Probe
 |0=>p
 |n+1=>pQ mask<|cx mask p n
def st0(mask:Nat)(h:Int):=(bits h%(mask+1),bits h)
def at_(mask:Nat)(h:Int)(n:Nat):=(cx mask (fB mask<|st0 mask h) n).j
theorem l0 mask p m:∀n,cx mask p (m+n)=cx mask (cx mask p m) n
 |0=>rfl
 |n+1=>YW _<|l0 mask p m n
theorem nB mask x:∀n,(cx mask (fB mask x) n).dummy=()
 |0=>rfl
 |n+1=>by
  show(pQ mask _).dummy=_;delta pQ;split<;>exact nB mask x n
theorem l6 mask p:∀n,n<=p.more->cx mask p n={p with j:=p.j+n,more:=p.more-n}
 |0,_=>rfl
 |n+1,h=>by
  show pQ mask _=_;rw[l6 mask p n<|by lia];delta pQ;have:(p.more-n) > 0:=by lia
  grind
theorem rS mask x:cx mask (fB mask x) (runEnd mask x.1-x.1+1)=fB mask (leap mask x.1 x.2):=by show pQ mask _=_;rw[l6 mask _ (runEnd mask x.1-x.1)<|Yp _];delta pQ;rw[Ym<|by show ¬(runEnd mask x.1-x.1-(runEnd mask x.1-x.1) > 0);lia];rfl
theorem mw mask i:i<=runEnd mask i/\runEnd mask i<=i+9/\(i<=mask->runEnd mask i<=mask):=by delta runEnd;split<;>lia
theorem Db mask h n:at_ mask h n<=mask:=by
 have:∀n,(cx mask (fB mask<|st0 mask h) n).j+(cx mask (fB mask<|st0 mask h) n).more<=mask:=by
  have a:∀i,i<=mask->i+(runEnd mask i-i)<=mask:=λi b=>by have:=mw mask i;lia
  intro n;induction n with
  |zero=>exact a _<|Zx<|UA _<|VE _
  |succ n ih=>
   show(pQ mask _).j+(pQ mask _).more<=mask;generalize cx mask _ n=p at ih;delta pQ;split
   .show p.j+1+(p.more-1)<=mask;lia
   .exact a _<|Zx<|UA _<|VE _
 have:=this n;delta at_;lia
def dg(mask:Nat)(x:Nat×Nat):Nat->Nat×Nat
 |0=>x
 |k+1=>leap mask (dg mask x k).1 (dg mask x k).2
theorem mW mask x:∀k,∃n,n<=10*k/\cx mask (fB mask x) n=fB mask (dg mask x k)
 |0=>#[0,Yp _,qx]
 |k+1=>by
  let#[n,a,h]:=mW mask x k;have:=mw mask (dg mask x k).1;exact#[n+(runEnd mask (dg mask x k).1-(dg mask x k).1+1),by lia,by rw[l0,h,rS];rfl]
def lcg(m i:Nat):Nat->Nat
 |0=>i
 |k+1=>(lcg m i k*5+1)%m
theorem ME:∀i<8,∀j<8,∃k<8,lcg 8 i k=j:=by decide+kernel
theorem Lh:∀i<32,∀j<32,∃k<32,lcg 32 i k=j:=by decide+kernel
abbrev Msk(mask:Nat):=mask=7\/mask=31
theorem wT mask x:∀k,(dg mask x k).2=x.2/32^k
 |0=>by simp[dg]
 |k+1=>by
  show(dg mask x k).2/32=_;rw[wT,Nat.div_div_eq_div_mul,Nat.pow_succ]
theorem sB(F:Msk mask)h(f:j<=mask):∃k,k<turns mask/\(dg mask (st0 mask h) k).1=j:=by
 have pt:∀k,(dg mask (st0 mask h)<|12+k).2/32=0:=λk=>by
  rw[wT,Nat.div_div_eq_div_mul,<-Nat.pow_succ];let g:=XM h (by decide:(0:Int)<2^64);have:bits h<2^64:=by delta bits;have:=Vs h (by decide:(2^64:Int)≠0);lia
  have b:32^13<=32^(12+k).succ:=Nat.pow_le_pow_right (by decide) (by lia);exact Nat.div_eq_of_lt<|YA (ZL this<|by decide) b
 have l:∀k,(dg mask _<|12+k).1=lcg _ (dg mask _ 12).1 k:=λk=>by
  induction k with
  |zero=>rfl
  |succ k ih=>
   show((dg mask _<|12+k).1*5+1+(dg mask _<|12+k).2/32)%(mask+1)=_;rw[pt,ih];rfl
 have a:(dg mask (st0 mask h) 12).1<mask+1:=UA _<|VE _;obtain⟨k,c,e⟩:∃k<mask+1,lcg (mask+1) (dg mask (st0 mask h) 12).1 k=j:=by
  rcases F with rfl|rfl
  .exact ME _ a j<|by lia
  .exact Lh _ a j<|by lia
 exact#[12+k,by delta turns;lia,(l k).trans e]
theorem gap{P:List Nat}(h:P.length<=mask):∃j,j<=mask/\j∉P:=by
 apply Za;intro a;have:=List.nodup_range.length_le_of_subset (l₁:=List.range<|mask+1) λj b=>Za λq=>a #[j,by have:=Zg.mp b;lia,q]
 rw[Zw]at this;lia
theorem B_{P:Nat->Prop}n:P n->∃m,m<=n/\P m/\∀i,i<m->¬P i:=by
 induction n using Nat.strongRecOn with
 |_ n ih=>
  intro h;by_cases q:∃i,i<n/\P i
  .let#[i,b,a]:=q;let#[m,e,c]:=ih i b a;exact#[m,by lia,c]
  .exact#[n,Yp _,h,λi b a=>q #[i,b,a]]
def Reach(en:α->Int×Value)(mask:Nat)(Z:List (Nat×α)):=∀z∈Z,∃n,at_ mask (en z.2).1 n=z.1/\∀m,m<n->∃y∈Z,y.1=at_ mask (en z.2).1 m
def CK(mask:Nat)(Z:List (Nat×α))(h:Int)(N:Nat):=N<10*turns mask/\(∀z∈Z,z.1≠at_ mask h N)/\∀m,m<N->∃y∈Z,y.1=at_ mask h m
theorem Fq(F:Msk mask)(f:Z.length<=mask)h:∃N,CK mask Z h N:=by
 let#[j,s,p]:=gap (P:=Z.map (·.1)) (by simpa using f);let#[k,w,o]:=sB F h s;let#[n,u,l]:=mW mask (st0 mask h) k;let#[m,a,b,c]:=B_ (P:=λn=>∀z∈Z,z.1≠at_ mask h n) n λz m e=>p<|Yg.mpr #[z,m,by rw[e,<-o];delta at_;rw[l];rfl]
 exact#[m,by lia,b,λi g=>Za λq=>c i g λz m e=>q #[z,m,e]]
def Reach.put{N}{a b}{e}(R:Reach en mask (a++b))(hN:CK mask (a++b) (en e).1 N):Reach en mask (a++(at_ mask (en e).1 N,e)::b):=by
 have u:∀y:Nat×α,y∈a++b->y∈a++(at_ mask (en e).1 N,e)::b:=λy m=>by simp at m ⊢;rcases m with m|m<;>simp[m]
 have o:∀h n,(∀m,m<n->∃y∈a++b,y.1=at_ mask h m)->∀m,m<n->∃y∈a++(at_ mask (en e).1 N,e)::b,y.1=at_ mask h m:=λh n q m l=>by
  let#[y,g,i]:=q m l;exact#[y,u y g,i]
 intro z m;rcases Zc.mp m with m|m
 .let#[n,f,c]:=R z<|YL _ m;exact#[n,f,o _ n c]
 .rcases Yt.mp m with rfl|m
  .exact#[N,qx,o _ N hN.2.2]
  .let#[n,f,c]:=R z<|YE _ m;exact#[n,f,o _ n c]
theorem pD{es:Ka}{Z}(T:Tb en t es Z){hashAt}{h}{N}(hN:CK t.mask Z h N):∀f n,n<=N->N-n<f->∃m,n<=m/\m<=N/\(∀l,n<=l->l<m->∀z∈Z,z.1=at_ t.mask h l->∃i,es[i]?=!en z.2/\hashAt i≠h) /\
  (m=N/\probe.go t hashAt h f (cx t.mask (fB t.mask<|st0 t.mask h) n)=!.empty (at_ t.mask h N) () \/
  ∃i,∃z∈Z,m<N/\z.1=at_ t.mask h m/\t.slot z.1=.live i/\es[i]?=!en z.2/\hashAt i=h/\probe.go t hashAt h f (cx t.mask (fB t.mask<|st0 t.mask h) n)=!(.candidate z.1 i<|cx t.mask (fB t.mask<|st0 t.mask h)<|m+1))
 |0,n,_,h2=>by lia
 |f+1,n,h1,h2=>by
  by_cases A:n=N
  .subst A;exact#[n,Yp _,h1,λl a b=>by lia,.inl #[qx,?_]];delta probe.go;rw[show t.slot (cx t.mask _ n).j=.empty from T.slot_out hN.2.1];rw[nB];rfl
  .let#[z,m,e]:=hN.2.2 n (by lia);let#[i,s,x]:=T.slot_in m;have q:t.slot (cx t.mask (fB t.mask<|st0 t.mask h) n).j=.live i:=by rw[<-s,e];rfl
   by_cases g:hashAt i=h
   .exact#[n,Yp _,h1,λl a b=>by lia,.inr #[i,z,m,by lia,e,s,x,g,?_]];delta probe.go;rw[q,e];simp only[g,XG,VJ];rfl
   .have B:probe.go t hashAt h (f+1) (cx t.mask (fB t.mask<|st0 t.mask h) n)=probe.go t hashAt h f (cx t.mask (fB t.mask<|st0 t.mask h)<|n+1):=by
     conv=>lhs;unfold probe.go
     rw[q];simp[ZB.mpr g,Xf,VB];rfl
    let#[m,I,H,E,C]:=pD T (hashAt:=hashAt) hN f (n+1) (by lia) (by lia);exact#[m,by lia,H,λl a b y p u=>?_,by rwa[B]];by_cases c:l=n
    .subst c;let#[k,o,w]:=T.slot_in p;rw[u,<-e,s]at o;cases o;exact#[i,w,g]
    .exact E l (by lia) b y p u
end
theorem mV mask x:∀k,dg mask x (k+1)=dg mask (leap mask x.1 x.2) k
 |0=>rfl
 |k+1=>by
  show leap mask (dg mask x<|k+1).1 (dg mask x<|k+1).2=_;rw[mV];rfl
theorem yP owner:∀f x,(∃k,k<f/\owner.getD (dg mask x k).1 (!0)=())->
  ∃n,layClean.free mask owner f x.1 x.2=some (cx mask (fB mask x) n).j/\owner.getD (cx mask (fB mask x) n).j (!0)=()/\∀m,m<n->owner.getD (cx mask (fB mask x) m).j (!0)≠()
 |0,x,#[k,hk,_]=>by lia
 |f+1,x,#[k,hk,hn]=>by
  have a:∀m,m<=runEnd mask x.1-x.1->(cx mask _ m).j=x.1+m:=λm h=>by rw[l6 mask (fB mask x) m h];rfl
  let le:=(mw mask x.1).1;delta layClean.free;cases q:(List.range _).find? λk=>(owner.getD _ _).isNone with
  |some r=>
   let#[g,e,b]:=List.find?_range_eq_some.mp q;let u:=Zg.mp e;exact#[r,?_,?_,λm h=>?_]
   .rw[a r<|by lia]
   .rw[a r<|by lia];simpa using g
   .rw[a m<|by lia];exact λz=>by have:=b m h;rw[z]at this;cases this
  |none=>
   let b:=List.find?_range_eq_none.mp q;cases k with
   |zero=>have:=b 0 (by lia);rw[Nat.add_zero,show owner.getD x.1 _=() from hn]at this;cases this
   |succ k=>
    rw[mV]at hn;let#[n,p,o,i]:=yP owner f _ #[k,by lia,hn];have s:∀m,cx mask _ _=cx mask (fB mask<|leap mask x.1 x.2) m:=λm=>by rw[l0,rS]
    exact#[runEnd mask x.1-x.1+1+n,by rwa[s],by rwa[s],λm h=>?_];by_cases c:m<=runEnd mask x.1-x.1
    .rw[a m c];exact λz=>by have:=b m (by lia);rw[z]at this;cases this
    .obtain⟨l,rfl⟩:∃l,m=runEnd mask x.1-x.1+1+l:=#[m-(runEnd mask x.1-x.1+1),by lia]
     rw[s];exact i _<|by lia
def lv(owner:Array (Option Nat))(mask:Nat):=(List.range<|mask+1).filterMap λj=>(owner.getD j ()).map (j,·)
def kx{y}:y∈lv owner mask↔y.1<=mask/\owner.getD y.1 ()=!y.2:=by
 delta lv;rw[ZQ];constructor
 .rintro⟨i,h,e⟩;let#[a,f,rfl]:=YK.mp e;exact#[Zx<|Zg.mp h,f]
 .rintro⟨c,b⟩;exact#[y.1,Zg.mpr<|Nat.lt_succ_of_le c,by rw[b];rfl]
theorem g_{f g:α->Option β}:∀{l:List α},(∀x∈l,f x=g x)->l.filterMap f=l.filterMap g
 |[],_=>rfl
 |a::l,h=>by rw[Xy,Xy,h a Ye,g_ λx m=>h x<|Yb _ m]
theorem DJ{f g}{a:α}(h:∀i,i≠j->g i=f i)(h1:f j=())(h2:g j=!a):∀n,j<n->((List.range n).filterMap g).Perm (a::(List.range n).filterMap f)
 |0,l=>by lia
 |n+1,l=>by
  rw[List.range_succ,List.filterMap_append,List.filterMap_append];by_cases c:n=j
  .subst c;have:(List.range n).filterMap g=(List.range n).filterMap f:=g_ λi b=>h i<|Yy<|Zg.mp b
   rw[this];simp[h1,h2,XU]
  .have:=DJ h h1 h2 n (by lia);rw[show[n].filterMap g=[n].filterMap f from g_ λi b=>by rw[Yu.mp b];exact h n c];exact this.append_right _
structure LayInv (mask:Nat) (hs:List Int) (owner:Array (Option Nat)) (k:Nat):Prop where
 sz:owner.size=mask+1
 pm:((lv owner mask).map (·.2)).Perm (List.range k)
 rc:∀z∈lv owner mask,∃n,at_ mask (hs.getD z.2 0) n=z.1/\∀m,m<n->∃y∈lv owner mask,y.1=at_ mask (hs.getD z.2 0) m
theorem CL(F:Msk mask)(I:LayInv mask hs owner k)(U:k<=mask):∃j,layClean.free mask owner (turns mask) (st0 mask<|hs.getD k 0).1 (st0 mask<|hs.getD k 0).2=!j/\LayInv mask hs (owner.setIfInBounds j<|!k) (k+1):=by
 generalize R:hs.getD k 0=h;let#[C,o,B]:=gap (P:=(lv owner mask).map (·.1)) (mask:=mask) (by have:=I.pm.length_eq;simp at this ⊢;lia);have own:∀j,j<=mask->owner.getD j (!0)=owner.getD j ():=λj E=>by simp[Array.getD,show j<owner.size by have:=I.sz;lia]
 let#[r,O,S]:=sB F h o;let#[n,H,w,T]:=yP (mask:=mask) owner _ (st0 mask h) #[r,O,by
  rw[S,own _ o];cases q:owner.getD C () with
  |none=>rfl
  |some a=>exact absurd (Yg.mpr #[(C,a),kx.mpr #[o,q],qx]) B]
 let E:=Db mask h n;change layClean.free mask owner _ _ _=!at_ mask h n at H;change owner.getD (at_ mask h n) _=() at w;rw[own _ E]at w;have u:∀i,(owner.setIfInBounds (at_ mask h n)<|!k).getD i ()=if i=at_ mask h n then !k else owner.getD i ():=λi=>by
  have:=I.sz;by_cases c:i=at_ mask h n
  .subst c;simp[Array.getD,show at_ mask h n<owner.size by lia]
  .rw[Ym c];simp[Zq];rw[Array.getElem?_setIfInBounds_ne λz=>c z.symm]
 have keep:∀y∈lv owner mask,y∈lv _ mask:=λy A=>by
  let#[K,x]:=kx.mp A;exact kx.mpr #[K,?_];rwa[u,Ym λc=>by rw[c,w]at x;cases x]
 exact#[_,H,by rw[Vj];exact I.sz,?_,λz N=>?_]
 .let p:=DJ (f:=λj=>(owner.getD j ()).map (j,·)) (g:=λj=>((owner.setIfInBounds (at_ mask h n)<|!k).getD j ()).map (j,·)) (j:=at_ mask h n) (a:=(at_ mask h n,k)) (λi Q=>by simp[u,Ym Q]) (by simp[w]) (by simp[u]) (mask+1) (by lia);let L:=(p.map (λy:Nat×Nat=>y.2)).trans<|I.pm.cons k;rw[List.range_succ];exact L.trans (XU _ _).symm
 .let#[J,s]:=kx.mp N;rw[u]at s;split at s
  .rename_i c;cases s;rw[R];exact#[n,c.symm,λm l=>?_];let q:=T m l;change owner.getD (at_ mask h m) _≠() at q;rw[own _<|Db mask h m]at q;let#[b,e]:=Option.ne_none_iff_exists'.mp q;exact#[(at_ mask h m,b),keep _<|kx.mpr #[Db mask h m,e],qx]
  .let#[M,b3,b4]:=I.rc z<|kx.mpr #[J,s];exact#[M,b3,λm l=>let #[y,A,ey]:=b4 m l;#[y,keep y A,ey]]
theorem yQ(F:Msk mask){hs}(c:hs.length<=mask):∀bU owner k,hs.drop k=bU->LayInv mask hs owner k->k<=hs.length->
  ∃o,(bU.foldl (λa h=>do
   let (owner,k) <-a
   let j <-layClean.free mask owner (turns mask) (bits h%(mask+1))<|bits h
   pure (owner.setIfInBounds j<|!k,k+1))<|!(owner,k))=!(o,hs.length)/\LayInv mask hs o hs.length
 |[],owner,k,hd,I,hk=>by
  obtain rfl:k=hs.length:=by have:=YW List.length hd;simp at this;lia
  exact#[owner,qx,I]
 |h::bU,owner,k,hd,I,hk=>by
  have f:k<hs.length:=by have:=YW List.length hd;simp at this;lia
  have g:hs.getD k 0=h:=by have:=YW (·[0]?) hd;simp at this;simp[this]
  let#[j,e,l]:=CL F I (by lia);rw[g]at e;let#[o,i,b]:=yQ F c bU _ (k+1) (by have:=YW List.tail hd;rwa [List.tail_drop]at this) l f;exact#[o,?_,b];rw[Xx,<-i]
  congr 1
  show(layClean.free mask owner _ _ _).bind _=_;rw[show layClean.free mask owner _ (bits h%(mask+1)) (bits h)=!j from e];rfl
theorem Bn{t:SetTable}{es:Ka}{w}{l:List α}(he:es=(l.map en).toArray)(F:Msk mask)(J:sizeAbove w=mask+1)(K:es.size<=mask):∃t' order Z,t.relaid (es.map (·.1)) w=!(t',order)/\Tb en t' (order.filterMap (es[·]?)) Z/\Reach en mask Z/\(Z.map (·.2)).Perm l/\t'.mask=mask/\t'.led=t.led/\order.toList.Perm (List.range es.size):=by
 let#[o,e,I]:=yQ F (hs:=(es.map (·.1)).toList) (by simpa using K) _ (Array.replicate (mask+1) ()) 0 qx #[by simp,by
  rw[show lv _ mask=[]from List.filterMap_eq_nil_iff.mpr λj L=>by simp[Zq,Array.getElem?_replicate,Zg.mp L]];rfl,λz f=>by
  have:=(kx.mp f).2;simp[Zq,Array.getElem?_replicate]at this;split at this<;>cases this]<|YQ _
 have q:(es.map (·.1)).toList.length=es.size:=by simp
 rw[q]at I e;have g:es.size=l.length:=by rw[he];simp
 have i:∀y∈lv o mask,∃a,l[y.2]?=!a:=λy c=>by
  have:=Zg.mp<|I.pm.mem_iff.mp<|Vf c;exact#[_,Yh<|by lia]
 have get:∀k:Nat,es[k]?=(l[k]?).map en:=λk=>by rw[he];simp
 exact#[{mask:=mask,place:=((lv o mask).map (·.1)).toArray,dummies:=#[[]],finger:=t.finger,led:=t.led,moves:=t.movedTo mask,plain:=t.plain},((lv o mask).map (·.2)).toArray,(lv o mask).filterMap λy=>(l[y.2]?).map (y.1,·),?_,#[?_,?_,qx,?_],?_,?_,qx,qx,I.pm]
 .delta relaid laid layClean;rw[List.drop_zero]at e;rw[J,Nat.add_sub_cancel,<-Array.foldl_toList,e];rfl
 .rw[Uj,<-List.filterMap_eq_map];exact YW _ (g_ λy c=>by let#[a,e]:=i y c;rw[e];rfl)
 .rw[Uj];apply VM.mp;simp only[Array.toList_filterMap,List.filterMap_map];exact g_ λy r=>by rw[Function.comp,get,Option.map_map];rfl
 .delta Rs;rw[List.pairwise_filterMap,lv,List.pairwise_filterMap];exact List.Pairwise.imp ?_ List.pairwise_lt_range;intro a b s x C y B u H v E;let#[_,_,rfl]:=YK.mp C;let#[_,_,rfl]:=YK.mp B;let#[_,_,rfl]:=YK.mp H;let#[_,_,rfl]:=YK.mp E;exact s
 .intro z f;let#[y,c,e]:=ZQ.mp f;let#[a,P,rfl]:=YK.mp e;let#[n,b3,b4]:=I.rc y c;have N:(es.map (·.1)).toList.getD y.2 0=(en a).1:=by rw[YU,Zz,Array.getElem?_map,get,P];rfl
  rw[N]at b3 b4;exact#[n,b3,λm h=>by
   let#[x,A,M]:=b4 m h;let#[b,O]:=i x A;exact#[(x.1,b),ZQ.mpr #[x,A,by rw[O];rfl],M]]
 .let p:=I.pm.filterMap (l[·]?);rw[g,List.filterMap_getElem?_range_length,List.filterMap_map]at p;rw[Uj];exact(Uf<|g_ λy r=>by rw[Option.map_map];exact(Option.map_id').symm).symm.trans p
open PySem.Spec PyProof.Rows
mutual
def j5(w:World):D->Int
 |.int i=>hashInt i
 |.str x=>hashStr w x
 |.tup xs=>reduceHash (Builtin.Tuple.tupleHashOf (oX w xs))
 |_=>0
def oX(w:World):List D->List Int
 |[]=>[]
 |d::ds=>j5 w d::oX w ds
end
theorem pH w:∀ds,oX w ds=ds.map (j5 w)
 |[]=>rfl
 |d::ds=>by rw[YI,<-pH];rfl
def hkN:Nat->D->Bool
 |_,.int _=>true
 |n+1,.tup xs=>xs.all<|hkN n
 |_,_=>false
def rH{as}(r:Reads h u (bR (.tup ds)) as):∃a o vs n,u=.ref a/\h.get? a=!o/\o.cls=.type "tuple"/\o.data=.seq vs n/\ReadsAll h vs.toList (cP ds) as:=by
 cases r with
 |tuple h1 h2 h3 h4=>exact#[_,_,_,_,qx,h1,h2,h3,h4]
def gQ(h:hkN n d):(∃i,d=.int i)\/∃m ds,n=m+1/\d=.tup ds/\∀x∈ds,hkN m x:=by cases n<;>cases d<;>first|exact .inl #[_,rfl]|exact .inr #[_,_,rfl,rfl,Yl.mp h]|cases h
def uk{M:Nat->Value->D->Prop}(hi:∀m i t,M m (.int i t) (.int i))(p:∀m a o vs k ds,h.get? a=!o->o.cls=.type "tuple"->o.data=.seq vs k->Paired (M m) vs.toList ds->M (m+1) (.ref a) (.tup ds)) n:∀{d}{u}{as},hkN n d->Reads h u (bR d) as->M n u d:=by
 induction n with
 |zero=>intro d u as c r;obtain⟨i,rfl⟩|⟨_,_,e,_⟩:=gQ c;cases r;exact hi _ _ _;cases e
 |succ n ih=>
  intro d u as c r;obtain⟨i,rfl⟩|⟨m,ds,e,rfl,j⟩:=gQ c
  .cases r;exact hi _ _ _
  .cases e;clear c;let#[a,o,vs,k,rfl,w,s,q,g]:=rH r;exact p n a o vs k ds w s q ?_;clear r;generalize vs.toList=l at g;induction ds generalizing l as with
   |nil=>cases g;exact .nil
   |cons d ds f=>cases g with|cons a b=>exact .cons (ih (j d Ye) a)<|f (λx m=>j x<|Yb _ m) _ b
theorem He{as}{Q}(B:A.units+8<cLine)(K:hkN 8 d)(r:Reads s.heap u (bR d) as)(h:∀tk,s.toks<=tk->Q (j5 w d) {s with toks:=tk}):wpAny (model prog w) A (pyHash u) Q E s:=by
 exact uk (M:=λn u d=>∀A E k Q,A.units+n<cLine->(∀tk,k<=tk->Q (j5 w d) {s with toks:=tk})->wpAny _ A (pyHash u) Q E {s with toks:=k}) (λm i t A E k Q v h=>wpAny_pyHash_int<|h _<|ZZ _) (λn a o P m j H L y J A E k Q B h=>?_) 8 K r A E s.toks Q B h;have g:Shared.TypeIs {s with toks:=k} (.ref a) "tuple":=#[o,H,L]
 delta pyHash pyHashByItsType;exact Yd<|wpAny_cRoomFor_or (.inr<|by lia)<|Yd<|XN g F.slot_tuple_hash.lookup ?_;show wpAny _ _ (if(some (Value.builtin "tuple.__hash__") == !Value.none) then _ else _) Q E _;rw[Ym<|by rw[beq_builtin_none];exact Yj];exact Yd<|XN g F.slot_tuple_hash.lookup ?_;show wpAny _ _ (callSpecialIfBoundUnlessNone? (.ref a) "__hash__" _>>=_) Q E _;exact Yd<|wpAny_callSpecialIfBoundUnlessNone?_slot g F.slot_tuple_hash<|Vd F.slot_tuple_hash g F.entry_tuple_hash ?_<|F.args_tuple_hash_1 _;show wpAny _ _ (Builtin.Tuple.tupleItemsOf (.ref a)>>=_) _ _ _;exact Yd<|wpAny_tupleItemsOf H y<|Yd ?_;rw[<-Array.forIn_toList];exact Vc _ (λbU (b:Array Int) l=>∃left tk,b.toList++left.map (j5 w)=j.map (j5 w)/\Paired _ bU left/\k<=tk/\l={s with toks:=tk}) _ ?_ ?_ _ _ #[j,k,qx,J,Yp _,qx]
 .rintro x bU b l ⟨left,tk,e,p,f,rfl⟩;cases p with
  |cons O N=>
   exact Yd<|O _ _ tk _ (by show A.units+1+n<cLine;lia) λI q=>Yi #[_,_,?_,N,YF f q,qx];simpa using e
 .rintro b l ⟨left,tk,e,p,f,rfl⟩;cases p;rw[List.map_nil,YZ]at e;show wpAny _ _ (retInt<|Builtin.Tuple.tupleHashOf b.toList) _ _ _;rw[e,<-pH];exact wpAny_ret_mkInt ?_;change ∀tk,k<=tk->Q (reduceHash<|Builtin.Tuple.tupleHashOf<|oX w j) {s with toks:=tk}at h;generalize Builtin.Tuple.tupleHashOf (oX w j)=z at h;show wpAny _ _ (if(decide (-(2:Int)^63<=z)&&decide (z<2^63)) then _ else _) Q E _;delta reduceHash at h;have c:k<=tk+1:=by lia
  by_cases C:(decide (-(2:Int)^63<=z)&&decide (z<2^63))
  .rw[Yk C]at h ⊢;exact Yi<|h _<|by first|exact f|exact c
  .rw[Ym C]at h ⊢;exact Yd<|Vk<|Yi<|h _<|by first|exact f|exact c
def JR{g:Value->Sem Bool}{b}{vs:Array Value}(p:Paired (λu z=>∀Q,Q b s->wpAny (model prog w) A (g u) Q E s) vs.toList ds)(e:k b=pure (.yield ((),PUnit.unit))){Q:Option Bool×Unit->Shared->Prop}(h:Q ((),PUnit.unit) s):wpAny (model prog w) A (forIn vs ((),PUnit.unit) λu z=>g u>>=k) Q E s:=by
 rw[<-Array.forIn_toList];exact Vc _ (λbU r a=>r=((),PUnit.unit)/\a=s/\∃left:List D,Paired _ bU left) _ ?_ ?_ _ _ #[qx,qx,ds,p]
 .rintro x bU r a ⟨rfl,rfl,left,c⟩;cases c with
  |cons i f=>exact Yd<|i _<|by rw[e];exact Yi #[qx,qx,_,f]
 .rintro r a ⟨rfl,rfl,_⟩;exact h
def wf{as}{Q:Kb}(g:hkN 8 d)(r:Reads s.heap u (bR d) as)(h:Q true s):wpAny (model prog w) A (eqIsQuiet 8 u) Q E s:=by
 exact uk (M:=λn u z=>∀Q,Q true s->wpAny _ A (eqIsQuiet n u) Q E s) (λm i t Q h=>by rw[eqIsQuiet_byValue _ qx];exact Yi h) (λn a o f m l c j b p Q h=>?_) 8 g r Q h;have e:s.TypeIs (.ref a) "tuple":=#[o,c,j]
 delta eqIsQuiet;exact Yd<|XN e F.slot_tuple_eq.lookup ?_;exact Yd<|VP e isSubtype_tuple_tuple ?_;exact Yd<|wpAny_seqItems c b ?_;exact Yd<|JR p rfl<|Yi h
def Ce{as}{Q:Kb}(f:hkN 8 d)(r:Reads s.heap u (bR d) as)(h:Q true s):wpAny (model prog w) A (hashByValue 8 u) Q E s:=by
 exact uk (M:=λn u z=>∀Q,Q true s->wpAny _ A (hashByValue n u) Q E s) (λm i t Q h=>by rw[hashByValue_scannable _ qx];exact Yi h) (λn a o e m l c g b p Q h=>?_) 8 f r Q h;have j:s.TypeIs (.ref a) "tuple":=#[o,c,g]
 delta hashByValue;exact Yd<|XN j F.slot_tuple_hash.lookup ?_;exact Yd<|wpAny_seqItems c b ?_;exact Yd<|JR p rfl<|Yi h
def Cz{as}{Q:Kb}(f:hkN 8 d)(r:Reads s.heap u (bR d) as)(h:Q false s):wpAny (model prog w) A (ofAClassStatement 8 u) Q E s:=by
 exact uk (M:=λn u z=>∀Q,Q false s->wpAny _ A (ofAClassStatement n u) Q E s) (λm i t Q h=>by delta ofAClassStatement;exact Yi h) (λn a o e m l c g b p Q h=>?_) 8 f r Q h;have j:s.TypeIs (.ref a) "tuple":=#[o,c,g]
 delta ofAClassStatement;exact Yd<|wpAny_typeOf j ?_;show wpAny _ _ ((if("tuple" == "tuple") then pure true else isSubtype (.type "tuple")<|.type "tuple")>>=_) Q E s;rw[Yk<|by decide];exact Yd<|Yi ?_;exact Yd<|wpAny_seqItems c b ?_;exact Yd<|JR p rfl<|Yi h
def B4 n:∀{d e},hkN n d->hkN n e->eqd d e->d=e:=by
 induction n with
 |zero=>
  intro d e b a h;obtain⟨i,rfl⟩|⟨_,_,e,_⟩:=gQ b
  .obtain⟨j,rfl⟩|⟨_,_,e,_⟩:=gQ a
   .exact YW D.int<|eq_of_beq h
   .cases e
  .cases e
 |succ n ih=>
  intro d e b a h;obtain⟨i,rfl⟩|⟨_,f,q,rfl,l⟩:=gQ b<;>obtain⟨j,rfl⟩|⟨_,y,p,rfl,g⟩:=gQ a
  .exact YW D.int<|eq_of_beq h
  .cases h
  .cases h
  .cases q;cases p;clear b a;change PyData.eqvAll (cP f) (cP y) at h
   congr 1
   induction f generalizing y with
   |nil=>cases y with
    |nil=>rfl
    |cons _ _=>cases h
   |cons d s c=>cases y with
    |nil=>cases h
    |cons e o=>
     let h:=Bool.and_eq_true_iff.mp<|show(PyData.eqv (bR d) (bR e)&&PyData.eqvAll (cP s) (cP o)) from h;rw[ih (l d Ye) (g e Ye) h.1,c o (λx m=>l x<|Yb _ m) (λx m=>g x<|Yb _ m) h.2]
def u_(d:D):=hkN 8 d&&okN 8 d&&(match d with|.tup _=>true|_=>false)
def N4:D->Bool
 |.str _=>true
 |.int _=>true
 |_=>false
structure KeyAt (h:Heap) (u:Value) (d:D):Prop where
 hk:hkN 8 d=true
 ok:okN 8 d=true
 rf:∃a,u=.ref a
 rd:∃as,Reads h u (bR d) as
def KeyAt.mk'(k:u_ d)(r:∃as,Reads h u (bR d) as):KeyAt h u d:=by
 delta u_ at k;rw[Yn,Yn]at k;exact#[k.1.1,k.1.2,?_,r];let#[as,r]:=r;cases d with
 |tup xs=>let#[a,_,_,_,e,_]:=rH r;exact#[a,e]
 |_=>cases k.2
def KeyAt.keeps(k:KeyAt h u d)(a:∀b o,h.get? b=!o->h'.get? b=!o):KeyAt h' u d:=#[k.hk,k.ok,k.rf,let #[as,r]:=k.rd;#[as,PyProof.Rows.Reads.keeps a r]]
theorem I9{x y}{Q:Kb}(e:A.units+64<cLine)(hx:KeyAt s.heap x dx)(a:KeyAt s.heap y dy)(h:Q (eqd dx dy) s):wpAny (model prog w) A (eqBool x y) Q E s:=by let#[f,c]:=hx.rd;let#[bs,b]:=a.rd;let#[l,p]:=cy 8 dx hx.ok;exact Vw _ _ A s x y _ _ c b l (cy 8 dy a.ok).1 ?_ prog w E Q h;have:min (bR dx).depth (bR dy).depth<=(bR dx).depth:=Ud _ _;lia
def Hq{x}(hx:KeyAt s.heap x dx){Q:Kb}{a}(f:∀y∈a,∃d,KeyAt s.heap y d)(h:Q false s):wpAny (model prog w) A (searchCouldBeSeen x a) Q E s:=by
 let#[l,i]:=hx.rd;delta searchCouldBeSeen;exact Yd<|Vc _ (λbU r c=>r=((),PUnit.unit)/\c=s/\∀y∈bU,∃d,KeyAt s.heap y d) _ ?_ ?_ _ _ #[qx,qx,f]
 .rintro y bU r c ⟨rfl,rfl,j⟩;let#[d,e]:=j y Ye;let#[bs,g]:=e.rd;let b:=λy m=>j y<|Yb _ m
  dsimp only;split
  all_goals
   exact Ug (λz=>Yi #[qx,qx,b]) λz=>?_;exact Yd<|wf hx.hk i<|Yd<|wf e.hk g<|Yd<|Cz hx.hk i<|Yd<|Cz e.hk g<|Yi #[qx,qx,b]
 .rintro r c ⟨rfl,rfl,_⟩;exact Yi h
abbrev VD:=Value×D
abbrev Es:=Array<|Int×Value
def El(sc:Bool)(h:Heap)(u:VD):=if sc then(∃i t,u=(.int i t,.int i))\/∃x t,u=(.str x t,.str x)else KeyAt h u.1 u.2
def kOf:D->Key
 |.str x=>.inr x
 |.int i=>.inl i
 |_=>.inl 0
def El.is{u v}(a:El true h u)(b:El true h' v):kN (kOf v.2) u.1↔u.2=v.2:=by obtain⟨i,t,rfl⟩|⟨i,t,rfl⟩:=a<;>obtain⟨j,c,rfl⟩|⟨j,c,rfl⟩:=b<;>simp[kOf,kN,Value.isInt,Value.isStrOf]
open Classical in
def ins(L:List VD)(p:VD):List VD:=if p.2∈L.map (·.2)then L else L++[p]
abbrev en(w:World)(p:VD):=(j5 w p.2,p.1)
def TSe(w:World)(o:Obj)(L:List VD):=∃e a t Z,o.ExactSet/\o.data=.set e a t/\Tb (en w) t e Z/\Reach (en w) t.mask Z/\(t.mask=7/\Z.length<=4\/t.mask=31/\Z.length<=18)/\(w.params.followText "set-order"=false->t.led)/\(Z.map (·.2)).Perm L
section
variable{o:Obj}{es:Es}{t:SetTable}{Z:List (Nat×VD)}{L:List VD}{h0:Heap}
def Tb.siz(T:Tb (en w) t es Z):es.size=Z.length/\t.fill=Z.length:=by delta SetTable.fill;rw[T.pl,T.es,T.nod];simp
def Tb.fits(T:Tb (en w) t es Z)(h:Z.length<=t.mask):t.fits es.size:=by delta SetTable.fits;rw[T.siz.1,T.siz.2,T.pl];simpa using h
theorem Ob(T:Tb (en w) t es Z)(R:Reach (en w) t.mask Z)(h1:Z.length<=18)(h2:t.mask=7/\Z.length<=5\/t.mask=31):t.tooFull=false/\(t.mask=7/\Z.length<=4\/t.mask=31/\Z.length<=18)\/t.tooFull/\sizeAbove (grown es.size)=31+1/\∃t' order e,t.relaid (es.map (·.1)) (grown es.size)=!(t',order)/\Tb (en w) t' (order.filterMap (es[·]?)) e/\Reach (en w) t'.mask e/\(e.map (·.2)).Perm (Z.map (·.2))/\t'.mask=31/\t'.led=t.led/\order.toList.Perm (List.range es.size)/\e.length=es.size:=by
 delta tooFull;rw[T.siz.1,T.siz.2];by_cases c:t.mask=7/\Z.length=5
 .have f:sizeAbove (grown Z.length)=31+1:=by rw[c.2];decide+kernel
  let#[t',order,e,a,b,r,p,m,l,q]:=Bn (t:=t) (en:=en w) (l:=Z.map (·.2)) (T.es.trans<|by rw[YH];rfl) (.inr qx) f (by rw[T.siz.1,c.2];decide);exact .inr #[by rw[c.1,c.2];rfl,f,t',order,e,a,b,by rwa[m],p,m,l,by rwa[<-T.siz.1],by have:=p.length_eq;simpa using this]
 .exact .inl #[YD ?_,by lia];rcases h2 with⟨h,_⟩|h<;>rw[h]<;>lia
def lE(k1:h.get? a=!o)(k3:o.data=.set es ep t)(e:Es)t':(h.update a (Obj.putSet e t')).get? a=some {o with data:=.set e (ep+1) t' }:=by
 let z:=Xp (Obj.putSet e t') k1<|by rw[putSet_of e t' k3];rfl
 rwa [putSet_of e t' k3]at z
theorem mY{x}{N}(M:s.heap.get? a=!o)(hd:o.data=.set es ep t)(T:Tb (en w) t es Z)(q:t.mask%2=1)(P:t.fits es.size)(O:∀z∈Z,KeyAt s.heap z.2.1 z.2.2)(hx:KeyAt s.heap x.1 x.2)(hu:A.units+64<cLine)(hN:CK t.mask Z (en w x).1 N){Q}(q1:∀z∈Z,z.2.2=x.2->Q (.there ()) s)(S:(∀l,l<N->∀z∈Z,z.1=at_ t.mask (en w x).1 l->z.2.2≠x.2)->Q (.free (at_ t.mask (en w x).1 N) false) s):∀(f n:Nat) (st:Option Probe),st.getD (t.probeStart (en w x).1)=cx t.mask (fB t.mask<|st0 t.mask (en w x).1) n->n<=N->N-n<f->(∀l,l<n->∀z∈Z,z.1=at_ t.mask (en w x).1 l->z.2.2≠x.2)->
   wpAny (model prog w) A (setSearchFrom a x.1 (en w x).1 true f st) Q E s
 |0,n,st,_,_,h,_=>by lia
 |f+1,n,st,e,hn,hf',hg=>by
  delta setSearchFrom;exact Yd<|Zn M hd P ?_;dsimp only;rw[show t.gaveWay=false by delta SetTable.gaveWay;rw[q];rfl];simp only[Xf,VB];rw[e];let#[m,m1,m2,m3,H]:=pD T (hashAt:=λi=>(es[i]?.map (·.1)).getD 0) hN (10*turns t.mask) n hn (by have:=hN.1;lia);have g:∀l,l<m->∀z∈Z,z.1=at_ t.mask (en w x).1 l->z.2.2≠x.2:=λl hl z j ez=>by
   rcases Nat.lt_or_ge l n with c|c
   .exact hg l c z j ez
   .let#[i,i1,i2]:=m3 l c hl z j ez;exact λc=>i2<|by rw[i1];exact YW (j5 w) c
  obtain⟨rfl,H⟩|⟨i,z,j,m5,m6,m7,Y,m9,I⟩:=H
  .generalize K:t.probe _ (en w x).1 _=y;cases K.symm.trans H;exact Yi<|S g
  .generalize K:t.probe _ (en w x).1 _=y;cases K.symm.trans I;let d2:=O z j;let#[ra,R]:=d2.rf;have J:∀(U B:Sem SetFound),wpAny (model prog w) A B Q E s->wpAny (model prog w) A (if((not<|t.led)) then(do
     let b <-searchCouldBeSeen x.1 (List.map (λx=>x.snd) (Array.filter (λy=>y.fst == (en w x).1) es).toList)
     if b then U else B)else B) Q E s:=by
    intro U B hZ;split
    .exact Yd (Hq hx (λy hy=>?_) (by rw[Ym Yj];exact hZ));let#[p,hp,rfl]:=Yg.mp hy;let u:=(Array.mem_filter.mp (Array.mem_toList_iff.mp hp)).1;rw[T.es]at u;let#[z',C,rfl]:=Yg.mp (List.mem_toArray.mp u);exact#[_,O z' C]
    .exact hZ
   exact J _ _ ?_;rw[Y];dsimp only;exact Yd (Zs (I9 hu d2 hx (Yd (Zn M hd P ?_))));dsimp only;cases L:eqd z.2.2 x.2 with
   |true=>exact Yi (q1 z j (B4 8 d2.hk hx.hk L))
   |false=>
    rw[XY,Ym Yj,show t.sameMemory t.moves t.mask=!true by delta sameMemory;simp];dsimp only;rw[Yk qx,m7];dsimp only;rw[Y];dsimp only;rw[R];exact Yd (wpAny_isSame_ref_self (Yd (Yi ?_)));rw[Yk qx];dsimp only;rw[Ym Yj];exact mY M hd T q P O hx hu hN q1 S f (m+1) _ qx (by lia) (by lia) λl hl y X ey=>?_;rcases Nat.lt_or_ge l m with c|c
    .exact g l c y X ey
    .obtain rfl:l=m:=by lia
     intro c;obtain rfl:y=z:=T.uniq X j (ey.trans m6.symm);rw[c,show eqd x.2 x.2 from SeqAt.eqv_refl _ (cy 8 x.2 hx.ok).1]at L;cases L
theorem gI{x}{N}(T:Tb (en w) t es Z)(R:Reach (en w) t.mask Z)(hN:CK t.mask Z (en w x).1 N)b:∃c,Tb (en w) (if b=true then(t.put (at_ t.mask (en w x).1 N)).1 else{ (t.put (at_ t.mask (en w x).1 N)).1 with plain:=false}) (insertAt es (t.put (at_ t.mask (en w x).1 N)).2 (en w x)) c/\Reach (en w) t.mask c/\(c.map (·.2)).Perm (x::Z.map (·.2))/\c.length=Z.length+1:=by
 let#[u,v,rfl,a]:=T.put hN.2.1 x;exact#[_,?_,R.put hN,by simp,by simp;lia];cases b
 .exact#[a.pl,a.es,a.nod,a.rs]
 .exact a
structure Wrt (s:Shared) (a:Addr) (Q:Bool->Shared->Prop) (tk:Nat) (es1:Es) (t1:SetTable):Prop where
 z:es1.size<=18
 f:t1.fits es1.size=true
 d:t1.tooFull=false/\Q true {s with heap:=s.heap.update a (Obj.putSet es1 t1),toks:=tk}\/t1.tooFull=true/\sizeAbove (grown es1.size)=31+1/\∃t' order,t1.relaid (es1.map (·.1)) (grown es1.size)=!(t',order)/\(order.filterMap (es1[·]?)).size=es1.size/\t'.fits es1.size=true/\order.toList.Perm (List.range es1.size)/\Q true {s with heap:=(s.heap.update a (Obj.putSet es1 t1)).update a (Obj.putSet (order.filterMap (es1[·]?)) t'),toks:=tk}
theorem uz{x:VD}(X:s.heap.get? a=!o)(S:TSe w o L)(hL:∀p∈L,El sc h0 p)(hx:El sc h0 x)(old:∀b u,h0.get? b=!u->s.heap.get? b=!u)(hu:A.units+64<cLine)(hn:(ins L x).length<=18){Q:Kb}(q:∀b o' h' tk,s.toks<=tk->TSe w o' (ins L x)->h'.get? a=!o'->(∀c,c≠a->h'.get? c=s.heap.get? c)->Q b {s with heap:=h',toks:=tk}):wpAny (model prog w) A (setAdd a x.1) Q E s:=by
 let#[I,ep,t,Z,oe,Y,T,R,sz,led,pm]:=id S;have hm:Z.length+1<=t.mask/\t.mask<=31/\t.mask%2=1/\Msk t.mask:=by rcases sz with⟨h,_⟩|⟨h,_⟩<;>rw[h]<;>exact#[by lia,by decide,qx,by first|exact .inl rfl|exact .inr qx]
 let hf:=T.fits (by lia);have lz:Z.length=L.length:=by have:=pm.length_eq;simpa using this
 have mem:∀{z:Nat×VD},z∈Z->z.2∈L:=λm=>pm.mem_iff.mp (Vf m)
 have mem':∀{e:Int×Value},e∈I.toList->∃p∈L,e=en w p:=λ{e} m=>by
  rw[T.es]at m;let#[z,O,e]:=Yg.mp m;exact#[z.2,mem O,e.symm]
 let#[N,hN]:=Fq hm.2.2.2 (XS hm.1) (en w x).1;have P:∀p∈L,p.2=x.2->∀tk,s.toks<=tk->Q false {s with toks:=tk}:=λp J e tk H=>by
  have hi:ins L x=L:=Yk (Yg.mpr #[p,J,e]);exact q false o s.heap tk H (by rw[hi];exact S) X λc v=>rfl
 have new:(∀p∈L,p.2≠x.2)->∀tk,s.toks<=tk->∀b:Bool,Wrt s a Q tk (insertAt I (t.put (at_ t.mask (en w x).1 N)).2 (en w x)) (if b=true then(t.put (at_ t.mask (en w x).1 N)).1 else{ (t.put (at_ t.mask (en w x).1 N)).1 with plain:=false}):=λnw tk H b=>by
  have hi:ins L x=L++[x]:=Ym λm=>by let#[p,J,e]:=Yg.mp m;exact nw p J e
  rw[hi]at hn q;rw[Yr,YN]at hn;let#[Z1,T1,R1,p1,l1]:=gI T R hN b;have hmk:(if b=true then(t.put (at_ t.mask (en w x).1 N)).1 else{ (t.put (at_ t.mask (en w x).1 N)).1 with plain:=false}).mask=t.mask:=by cases b<;>rfl
  have hld:(if b=true then(t.put (at_ t.mask (en w x).1 N)).1 else{ (t.put (at_ t.mask (en w x).1 N)).1 with plain:=false}).led=t.led:=by cases b<;>rfl
  generalize (if b=true then(t.put (at_ t.mask (en w x).1 N)).1 else{ (t.put (at_ t.mask (en w x).1 N)).1 with plain:=false})=K at T1 hmk hld ⊢;generalize insertAt I (t.put (at_ t.mask (en w x).1 N)).2 (en w x)=g at T1 ⊢;have pL:∀{Z2:List (Nat×VD)},(Z2.map (·.2)).Perm (Z1.map (·.2))->(Z2.map (·.2)).Perm (L++[x]):=λp=>(p.trans (p1.trans (pm.cons _))).trans (XU _ _).symm
  exact#[by rw[T1.siz.1];lia,T1.fits (by lia),?_];have off:∀c,c≠a->(s.heap.update a (Obj.putSet g K)).get? c=s.heap.get? c:=λc hc=>Xb _ _ _ _ hc
  let g1:=lE X Y g K;rcases Ob T1 (by rw[hmk];exact R1) (by lia) (by rw[hmk];lia)with⟨c,sz1⟩|⟨c,sa,t',B,Z2,r1,T2,R2,p2,m2,l2,o2,z2⟩
  .exact .inl #[c,q true {o with data:=.set g (ep+1) K} _ tk H #[g,_,K,Z1,oe,qx,T1,by rw[hmk];exact R1,sz1,λh=>hld.trans (led h),pL (Va _)] g1 off]
  .have e2:(B.filterMap (g[·]?)).size=g.size:=T2.siz.1.trans z2;exact .inr #[c,sa,t',B,r1,e2,by rw[<-e2];exact T2.fits (by rw[m2,z2,T1.siz.1];lia),o2,q true {o with data:=.set (B.filterMap (g[·]?)) (ep+2) t' } _ tk H #[_,_,t',Z2,oe,rfl,T2,R2,.inr #[m2,by rw[z2,T1.siz.1];lia],λh=>l2.trans (hld.trans (led h)),pL p2] (lE g1 qx _ t') λc hc=>(Xb _ _ _ _ hc).trans (off c hc)]
 delta setAdd;exact Zs (Yd ?_);cases sc with
 |true=>
  have hk:kN (kOf x.2) x.1=true:=(hx.is hx).mpr qx;have hh:(aH prog w).hash (kOf x.2)=(en w x).1:=by obtain⟨i,t,rfl⟩|⟨i,t,rfl⟩:=hx<;>rfl
  have hsc:∀{u},El true h0 u->u.1.scannable=true:=λh=>by obtain⟨i,t,rfl⟩|⟨i,t,rfl⟩:=h<;>rfl
  have hel:ElemsOf (aH prog w) I.toList:=λe m=>by
   let#[p,J,rfl]:=mem' m;have:=hL p J;exact#[#[kOf p.2,(this.is this).mpr qx,by obtain⟨i,t,e⟩|⟨i,t,e⟩:=this<;>rw[e]<;>rfl],hsc this]
  exact(aH prog w).pyHash hk ?_;rw[hh];delta setAddHashed setAddHashedIn;exact Zs (Yd (Zn (s:={s with toks:=s.toks+1}) X Y hf ?_));dsimp only;rw[byScan_of (knd:=aH prog w) (hsc hx) (by rw[T.siz.1];delta scanBound;lia) hel,Yk qx];delta setAddByScan;exact Yd (Yd (Vk (Yd ?_)));let sn:=@wpAny_setScan_of prog w Key _ (aH prog w) A E {s with toks:=s.toks+1} a o I ep t x.1 (kOf x.2) true;rw[hh]at sn;exact sn hk X Y hf hel ?_;cases hr:List.findIdx? (λe=>(aH prog w).is (kOf x.2) e.2) I.toList with
  |some j=>
   let#[hj,hpj,_]:=List.findIdx?_eq_some_iff_getElem.mp hr;let#[p,J,e]:=mem' (Xh hj);rw[e]at hpj;exact Yi (Yi (P p J (((hL p J).is hx).mp hpj) _ (ZZ _)))
  |none=>
   have nw:∀p∈L,p.2≠x.2:=λp J c=>by
    let#[z,O,rfl]:=Yg.mp (pm.mem_iff.mpr J);have:=List.findIdx?_eq_none_iff.mp hr (en w z.2) (by rw[T.es];exact Yg.mpr #[z,O,qx]);rw[show(aH prog w).is (kOf x.2) z.2.1=true from((hL _ J).is hx).mpr c]at this;cases this
   let W:=new nw (s.toks+1) (ZZ _);have fs:t.freeSlot (en w x).1=!(at_ t.mask (en w x).1 N,false):=by
    obtain⟨m,m1,m2,m3,⟨rfl,m4⟩|⟨i,z,O,m5,m6,m7,m8,m9,_⟩⟩:=pD T (hashAt:=λv=>(en w x).1+1) hN (10*turns t.mask) 0 (YQ _) (by have:=hN.1;lia)
    .delta SetTable.freeSlot;rw[show t.probe (λv=>(en w x).1+1) (en w x).1 (t.probeStart (en w x).1)=_ from m4];rfl
    .lia
   have ly:layNew t I (en w x).1 x.1=(insertAt I (t.put (at_ t.mask (en w x).1 N)).2 (en w x),(t.put (at_ t.mask (en w x).1 N)).1,false,false):=by delta layNew;rw[fs];delta SetTable.orStandIn;let f:=(W true).f;rw[Yk qx]at f;dsimp only;rw[show(j5 w x.2,x.1)=en w x from rfl,f];rfl
   dsimp only;rw[ly];dsimp only;exact Yd (show wpAny _ _ (pure PUnit.unit) _ _ _ from Yi ?_);generalize insertAt I (t.put (at_ t.mask (en w x).1 N)).2 (en w x)=g,(t.put (at_ t.mask (en w x).1 N)).1=M at W ⊢;have C:∀b:Bool,wpAny (model prog w) A (do
     storeSet a g (if b=true then M else{M with plain:=false})
     if((not<|false)&&(if b=true then M else{M with plain:=false}).tooFull)=true then do
       (match(relayAll (if b=true then M else{M with plain:=false}) g (SetTable.grown g.size)).2.2 with|true=>rule "set.scan.the-table-gave-way" |false=>pure PUnit.unit)
       storeSet a (relayAll (if b=true then M else{M with plain:=false}) g (SetTable.grown g.size)).1 (relayAll (if b=true then M else{M with plain:=false}) g (SetTable.grown g.size)).2.1
       pure (!true)
      else pure (!true)) (λr s'=>wpAny (model prog w) A (match r with|some added=>pure added|none=>setAddHashedIn a x.1 (en w x).1 99999) Q E s') E {s with toks:=s.toks+1}:=by
    intro b;let#[z1,f1,fin]:=W b;generalize (if b=true then M else{M with plain:=false})=K at f1 fin ⊢;exact Yd (Vz (s:={s with toks:=s.toks+1}) X Y ?_ (by rw[YV];lia));rcases fin with⟨c,q⟩|⟨c,sa,t',B,r1,r2,r3,r4,q⟩
    .rw[c];exact Yi (Yi q)
    .have ra:relayAll K g (SetTable.grown g.size)=(B.filterMap (g[·]?),t',false):=by delta relayAll;rw[r1];dsimp only;rw[show coversAll B g.size=true from List.isPerm_iff.mpr r4,r2,r3];rfl
     rw[c,ra];exact Yd (Yi (Yd (Vz (s:={s with heap:=s.heap.update a (Obj.putSet g K),toks:=s.toks+1}) (lE X Y g K) qx (Yi (Yi q)) (by rw[YV];show(B.filterMap (g[·]?)).size<=_;lia))))
   split
   .exact Yd ?_;rw[hashByValue_scannable 8 (hsc hx)];exact Yi (C (plainKind x.1))
   .exact Yd (Yi (C true))
 |false=>
  have U:KeyAt s.heap x.1 x.2:=KeyAt.keeps hx old;let#[as,rx]:=U.rd;exact He (by lia) U.hk rx λtk H=>?_;let#[ax,er]:=U.rf;delta setAddHashed setAddHashedIn;exact Zs (Yd (Zn (s:={s with toks:=tk}) X Y hf ?_));dsimp only;rw[show byScan x.1 I=false by rw[er];rfl,Ym Yj];exact Yd ?_;delta setSearch;exact mY (s:={s with toks:=tk}) X Y T hm.2.2.1 hf (λz O=>KeyAt.keeps (hL _ (mem O)) old) U hu hN (λz O e=>?_) (λga=>?_) 100000 0 () qx (YQ _) (by have:=hN.1;delta turns at this;lia) (λl hl=>absurd hl (Vq _))
  .exact Yi (P _ (mem O) e tk H)
  .let W:=new (λp J c=>by
    let#[z,O,rfl]:=Yg.mp (pm.mem_iff.mpr J);let#[n,n1,n2]:=R z O;rw[show(en w z.2).1=(en w x).1 from YW (j5 w) c]at n1 n2;rcases Nat.lt_trichotomy n N with l|l|l
    .exact ga n l z O n1.symm c
    .exact hN.2.1 z O (by rw[<-l];exact n1.symm)
    .let#[y,my,ey]:=n2 N l;exact hN.2.1 y my ey) tk H
   exact Yd (Zn (s:={s with toks:=tk}) X Y hf ?_);dsimp only;have C:wpAny (model prog w) A (do
     storeSet a (insertAt I (t.put (at_ t.mask (en w x).1 N)).2 (en w x)) (if true=true then(t.put (at_ t.mask (en w x).1 N)).1 else{ (t.put (at_ t.mask (en w x).1 N)).1 with plain:=false})
     if((not<|false)&&(if true=true then(t.put (at_ t.mask (en w x).1 N)).1 else{ (t.put (at_ t.mask (en w x).1 N)).1 with plain:=false}).tooFull)=true then(do
      setRelay a (grown (I.size+1))
      pure true)else pure true) Q E {s with toks:=tk}:=by
    let#[z1,f1,fin]:=W true;have e6:(insertAt I (t.put (at_ t.mask (en w x).1 N)).2 (en w x)).size=I.size+1:=by let#[Z1,T1,_,_,l1]:=gI T R hN true;rw[T1.siz.1,T.siz.1,l1]
    generalize insertAt I (t.put (at_ t.mask (en w x).1 N)).2 (en w x)=g at z1 f1 fin e6 ⊢;generalize (if true=true then(t.put (at_ t.mask (en w x).1 N)).1 else{ (t.put (at_ t.mask (en w x).1 N)).1 with plain:=false})=K at f1 fin ⊢;rw[<-e6];exact Yd (Vz (s:={s with toks:=tk}) X Y ?_ (by rw[YV];lia));rcases fin with⟨c,q⟩|⟨c,sa,t',B,r1,r2,r3,r4,q⟩
    .rw[c];exact Yi q
    .rw[c];let g1:=lE X Y g K;exact Yd ?_;delta setRelay;exact Yd (Zn (s:={s with heap:=s.heap.update a (Obj.putSet g K),toks:=tk}) g1 qx f1 ?_);dsimp only;rw[Ym (by rw[sa];show ¬(32 > 2^24);decide),r1];exact Yd ?_;show wpAny _ _ (if((B.filterMap λk=>g[k]?).size != g.size)=true then _ else pure ((B.filterMap λk=>g[k]?),t')) _ _ _;rw[Ym (by rw[r2];simp)];exact Yi (Vz (s:={s with heap:=s.heap.update a (Obj.putSet g K),toks:=tk}) g1 qx (Yi q) (by rw[YV];show(B.filterMap (g[·]?)).size<=_;lia))
   split
   .exact Yd (Ce (s:={s with toks:=tk}) U.hk rx C)
   .exact Yd (Yi C)
end
def vZ{l:List α}h:(l[i]::l.eraseIdx i).Perm l:=by rw[List.eraseIdx_eq_take_drop_succ];exact List.perm_middle.symm.trans<|Uf ?_;rw[<-Xr,VH]
open A in
theorem zV next:∀f k left (out:Array α),left.length<=f->(pickOrder.go next f k left out).toList.Perm (out.toList++left)
 |0,k,left,out,h=>by
  obtain rfl:left=[]:=Zl.mp (by lia);rw[YZ];exact Va _
 |f+1,k,left,out,h=>by
  delta pickOrder.go;split
  .rename_i x a;let#[b,e]:=Yo.mp a;exact(zV next f (k+1) _ _<|by rw[List.length_eraseIdx_of_lt b];lia).trans ?_;rw[Array.toList_push,Zv,<-e];exact List.Perm.append_left _<|vZ b
  .rename_i a;obtain rfl:left=[]:=Zl.mp ((Nat.eq_zero_or_pos _).resolve_right λz=>by
    have:=Xs.mp a;have:=UA (next k) z;lia)
   rw[YZ]
def ya(a:n≠0){Q}(h:∀i d,i<n->Q i {s with drawn:=d}):wpAny M A (choose src n) Q E s:=
 λc p b=>#[a,h _ _<|UA _<|Nat.pos_of_ne_zero a]
theorem yG:∀n xs s (Q:List α->Shared->Prop),xs.length=n->(∀ys d,ys.Perm xs->Q ys {s with drawn:=d})->wpAny M A (drawOrder n xs) Q E s
 |0,xs,s,Q,hl,h=>by
  obtain rfl:=Zl.mp hl;exact Yi<|h [] s.drawn<|Va _
 |n+1,[],s,Q,hl,h=>nomatch hl
 |n+1,x::r,s,Q,hl,h=>by
  delta drawOrder;exact Yd<|ya (by simp) λi d a=>?_;rw[Yh a];exact Yd<|yG n _ _ _ (by rw[List.length_eraseIdx_of_lt a];simpa using hl) λys b p=>Yi<|h _ b<|(p.cons _).trans<|vZ a
theorem eA:Slot "set_iterator" "__next__" "set_iterator.__next__":=.of (owner := "set_iterator") (n := "__next__") (by rw[typeLookup_type,builtinLookup_eq_fast];kernel_rfl) (by decide+kernel) (by decide+kernel) (by decide+kernel) (by first|exact .inl (by decide+kernel)|exact .inr _)<|by rw[isSubtype_type];kernel_rfl
def qQ:entryFor table "set_iterator.__next__"=some Builtin.«set_iterator.__next__»:=entryFor_of_tree (by kernel_rfl)
def uP x:argsOk "set_iterator.__next__" #[[x],[]]:=by delta argsOk;kernel_rfl
theorem lC:Slot "set_iterator" "__iter__" "set_iterator.__iter__":=.of (owner := "set_iterator") (n := "__iter__") (by rw[typeLookup_type,builtinLookup_eq_fast];kernel_rfl) (by decide+kernel) (by decide+kernel) (by decide+kernel) (by first|exact .inl (by decide+kernel)|exact .inr _)<|by rw[isSubtype_type];kernel_rfl
theorem qL:entryFor table "set_iterator.__iter__"=some Builtin.«dict_keyiterator.__iter__»:=entryFor_alias (id' := "dict_keyiterator.__iter__") (by kernel_rfl) (by rfl) (by decide+kernel) (by kernel_rfl)
def tK x:argsOk "set_iterator.__iter__" #[[x],[]]:=by delta argsOk;kernel_rfl
theorem sX:entryFor table "set.__iter__"=some Builtin.«frozenset.__iter__»:=entryFor_alias (id' := "frozenset.__iter__") (by kernel_rfl) (by rfl) (by decide+kernel) (by kernel_rfl)
section
variable{S x:Addr}{o:Obj}{es:Es}{t:SetTable}{Z:List (Nat×VD)}{L:List VD}
structure Wk (w:World) (o:Obj) (es:Es) (ep:Nat) (t:SetTable) (Z:List (Nat×VD)):Prop where
 oe:o.ExactSet
 dt:o.data=.set es ep t
 tb:Tb (en w) t es Z
 ft:t.fits es.size=true
 led:w.params.followText "set-order"=false->t.led=true
 sm:es.size<=18
def tq{Q:Kb}(h:Q (w.params.followText "set-order") s):wpAny (model prog w) A setsByText Q E s:=Yd<|wpAny_askSetting<|Yi h
def Sl(w:World)(S:Addr)(es:Es)(ep:Nat)(t:SetTable)(us:List Value)(slot i:Nat):=w.params.followText "set-order"/\us=(pickOrder (w.params.setOrder S ep) es).toList.map (·.2)\/w.params.followText "set-order"=false/\((not<|t.plain)&&decide (es.size > 1))=false/\SetTable.below t.place slot=i/\us=es.toList.map (·.2)
def ItS(w:World)(S x I:Addr)(o:Obj)(es:Es)(ep:Nat)(t:SetTable)(us:List Value)(i:Nat)(h:Heap):=h.get? S=!o/\∃f b,h.get? I=!b/\b.cls=.type "set_iterator"/\b.data=.fields #[[f,.int i 0,.ref S,.int es.size 0,.int ep 0]]/\((∃slot:Nat,f=.int slot 0/\Sl w S es ep t us slot i)\/∃e c,∃a:List Nat,f=.ref x/\h.get? x=!e/\e.data=.seq (a.map λ(j:Nat)=>rawInt j).toArray c/\(∀j∈a,j<es.size)/\us=a.map λj=>(es.getD j (0,.none)).2)
def Ae{c}{Q:c->Shared->Prop}(f:A.handled=())(h:∀e h',(∃o,h'.get? e=!o/\o.cls=.type "StopIteration")->(∀b o,s.heap.get? b=!o->h'.get? b=!o)->E (.ref e) {s with heap:=h' }):wpAny (model prog w) A (newExc (.type "StopIteration") []>>=λe=>raiseNew e) Q E s:=by exact Yd ?_;simp[newExc,newTuple];exact Yd<|XQ (Yd<|wpAny_of_eq (by first|rfl|(simp[firstArgMember];rfl)) ?_) (by size_fits);exact XQ ?_ (by size_fits);simp only[raiseNew];exact Yd<|wpAny_handled ?_;rw[f];exact Yd<|Yi<|wpAny_throw<|h _ _ #[_,Ys _ rfl,rfl] λb o e=>Yf _<|Yf _ e
theorem Er(W:Wk w o es ep t Z)(f:s.heap.get? S=!o){slot}(D:Sl w S es ep t us slot i){Q}(h1:∀v a,us[i]?=!v->Sl w S es ep t us a (i+1)->Q (!(v,a)) s)(h2:us[i]?=()->Q () s):wpAny (model prog w) A (setNext S slot i ep) Q E s:=by
 exact Yd<|Zn f W.dt W.ft ?_;exact Yd<|tq ?_;rcases D with⟨h,rfl⟩|⟨h,l,B,rfl⟩
 .rw[h,Yk qx,Ym<|by simp];exact Yd ?_;exact Yd<|Zn f W.dt W.ft ?_;exact Yd<|tq ?_;rw[h,Yk qx];exact Yd<|wpAny_askSetting<|Yi<|Yi ?_;show Q (((pickOrder (w.params.setOrder S ep) es)[i]?).map λe=>(e.2,slot)) s;rw[Yw,Zz]at h1 h2;cases q:(pickOrder _ es)[i]? with
  |none=>exact h2<|by rw[q];rfl
  |some e=>exact h1 e.2 slot (by rw[q];rfl)<|.inl #[h,qx]
 .rw[h,Ym Yj];show wpAny _ _ (if(((not<|t.plain))&&decide _) then _ else _) _ _ _;rw[l,Ym Yj];exact Yd ?_;show wpAny _ _ (if(((not<|t.led))&&(not<|es.isEmpty)) then _ else _) _ _ _;rw[W.led h,Ym<|by simp];exact Yi ?_
  rw[B];exact Yi ?_;rw[Yw,Zz]at h1 h2;let T:=W.tb;have p:es[i]?=(Z[i]?).map λz=>en w z.2:=by rw[T.es];simp
  have C:t.place[i]?=(Z[i]?).map (·.1):=by rw[T.pl];simp
  rw[p]at h1 h2;rw[p,C];cases q:Z[i]? with
  |none=>exact h2<|by rw[q];rfl
  |some z=>
   exact h1 z.2.1 _ (by rw[q];rfl)<|.inr #[h,l,?_,qx];let#[b,rfl]:=Yo.mp q;have e:Z=Z.take (i+1)++Z.drop (i+1):=(VH _ _).symm;let r:=XZ.mp T.rs;let u:=T;rw[e]at u;rw[u.below (λy m=>?_) λy m=>?_,XE,Nat.min_eq_left b]
   .let#[k,g,rfl]:=Zj m;rw[List.getElem_take];rw[XE]at g;rcases Nat.lt_or_ge k i with c|c
    .exact ZP<|r k i _ b c
    .obtain rfl:k=i:=by lia
     exact ZV _
   .let#[k,g,rfl]:=Zj m;rw[List.getElem_drop];exact r i _ b _<|by lia
def yZ(nh:A.handled=())(W:Wk w o es ep t Z)(hS:S≠I)(hx:x≠I)(st:ItS w S x I o es ep t us i s.heap){Q:Ko}(q1:∀v h',us[i]?=!v->ItS w S x I o es ep t us (i+1) h'->(∀b,b≠I->h'.get? b=s.heap.get? b)->Q (!v) {s with heap:=h' })(N:us[i]?=()->∀h',(∀b o,b≠I->s.heap.get? b=!o->h'.get? b=!o)->Q () {s with heap:=h' }):wpAny (model prog w) A (pyNext<|.ref I) Q E s:=by
 let#[C,f,oI,l,U,m,D]:=st;have hT:s.TypeIs (.ref I) "set_iterator":=#[oI,l,U]
 have q:∀j v {M}{fs}{h:Heap},h.get? I=!M->M.data=.fields fs->∃u,(h.update I<|Obj.mapFields (·.setIfInBounds j v)).get? I=!u/\u.data=.fields _/\u.cls=M.cls/\∀b,b≠I->(h.update I<|Obj.mapFields (·.setIfInBounds j v)).get? b=h.get? b:=λj v M fs h e d=>
  #[_,Xp _ e<|Obj.isFreed_of_fields (Obj.data_mapFields d _),Obj.data_mapFields d _,Obj.cls_mapFields _ _,λb g=>Xb _ _ _ _ g]
 exact Yd (wpAny_attempt (wpAny_callSpecial?_slot hT eA (Vd eA hT qQ ?_ (uP _))));exact Yd (Yi (Yd (wpAny_fieldsOf l m ?_)));exact Yd (Yd (Zn C W.dt W.ft (Yi ?_)));rw[Ym (by simp)];rcases D with⟨slot,rfl,D⟩|⟨oT,c,p,rfl,B,H,g,rfl⟩
 .show wpAny _ _ (setNext S ((slot:Int).toNat) ((i:Int).toNat) ((ep:Int).toNat)>>=_) _ _ s;exact Yd (Er W C D (λv a hv D'=>?_) λhn=>?_)
  .show wpAny _ _ (setField (.ref I) 0 (rawInt (a:Nat))>>=_) _ _ s;exact Yd (Vb l m (by simp) ?_);let#[u,z,y,a3,K]:=q 0 (rawInt (a:Nat)) l m;exact Yd (Vb z y (by simp) ?_);let#[L,b1,b2,b3,b4]:=q 1 (rawInt ((i:Int)+1)) z y;have k:∀b,b≠I->_:=λb g=>(b4 b g).trans (K b g)
   exact Yi #[_,qx,Yi (q1 v _ hv #[(k S hS).trans C,.int a 0,L,b1,b3.trans (a3.trans U),b2.trans (by simp[rawInt]),.inl #[a,qx,D']] k)]
  .show wpAny _ _ (setField (.ref I) 2 .none>>=_) _ _ s;exact Yd (Vb l m (by simp) ?_);let#[u,z,y,a3,K]:=q 2 .none l m;exact Ae (s:={s with heap:=_}) (by simpa using nh) λe J #[O,Y,X] P=>?_;exact Yd (VP (s:={s with heap:=J}) (b:=true) (T := "StopIteration") #[O,Y,X] isSubtype_stop (Yi (N hn J λb o g e=>P b o ((K b g).trans e))))
 .show wpAny _ _ (seqItems? (.ref x)>>=_) _ _ s;exact Yd (wpAny_seqItems B H ?_);show wpAny _ _ (match(p.map λ(j:Nat)=>rawInt (j:Int)).toArray[((i:Int)).toNat]? with|_=>_) _ _ s;rw[Zr,VG,Yw];rw[Yw]at q1 N;cases R:p[i]? with
  |some j=>
   let hl:=g j (YT R);show wpAny _ _ (setNextDrawn S ((j:Int).toNat) ((ep:Int).toNat)>>=_) _ _ s;rw[Zr,Zr];delta setNextDrawn;exact Yd (Yd (Zn C W.dt W.ft ?_));dsimp only;rw[Ym (by simp),Xt hl];exact Yi (Yd (Vb l m (by simp) ?_));let#[L,b1,b2,b3,b4]:=q 1 (rawInt ((i:Int)+1)) l m;exact Yi #[_,qx,Yi (q1 _ _ (by rw[R];simp[Array.getD,hl]) #[(b4 S hS).trans C,.ref x,L,b1,b3.trans U,b2.trans (by simp[rawInt]),.inr #[oT,c,p,qx,(b4 x hx).trans B,H,g,qx]] b4)]
  |none=>
   show wpAny _ _ (setField (.ref I) 0 (rawInt 0)>>=_) _ _ s;exact Yd (Vb l m (by simp) ?_);let#[u,z,y,a3,K]:=q 0 (rawInt 0) l m;exact Yd (Vb z y (by simp) ?_);let#[L,b1,b2,b3,b4]:=q 2 .none z y;exact Ae (s:={s with heap:=_}) (by simpa using nh) λe J #[O,Y,X] P=>?_;exact Yd (VP (s:={s with heap:=J}) (b:=true) (T := "StopIteration") #[O,Y,X] isSubtype_stop (Yi (N (by rw[R];rfl) J λb o g e=>P b o (((b4 b g).trans (K b g)).trans e))))
def De(K:A.handled=())(W:Wk w o es ep t Z)(M:S≠I)(hx:x≠I):Walks prog w A I [I,S,x] [I] us.length (λi v=>us[i]?=!v) (ItS w S x I o es ep t us) where
 sub:=λb g=>by simp at g;simp[g]
 frame:=λi h l a B=>by
  let#[O,f,u,J,C,R,D]:=a;exact#[B S (by simp) _ O,f,u,B I (by simp) _ J,C,R,D.imp id ?_];rintro⟨N,c,q,e,y,r⟩;exact#[N,c,q,e,B x (by simp) _ y,r]
 item:=λi s Q E P a j=>yZ K W M hx a (λv l m p k=>j v l s.toks m p λb o g e=>(k b λz=>g<|by simp[z]).trans e) λL=>by rw[Yh P]at L;cases L
 done:=λs Q E a j=>yZ K W M hx a (λv l m=>by rw[Zm<|Yp _]at m;cases m) λn l k=>j l s.toks λb o g e=>k b o (λz=>g<|by simp[z]) e
 self:=λi s Q E a j=>by
  let#[_,f,u,J,C,_]:=a;have H:s.TypeIs (.ref I) "set_iterator":=#[u,J,C]
  exact wpAny_pyIter_slot H lC<|Vd lC H qL (show wpAny _ _ _ _ _ s from Yi #[_,qx,"set_iterator",_,H,eA.lookup,j])<|tK _
theorem HE(W:Wk w o es ep t Z)(c:s.heap.get? S=!o)(q:∀us x I h' d,us.Perm (es.toList.map (·.2))->(∀b o,s.heap.get? b=!o->h'.get? b=!o)->s.heap.objs.size<=I->x≠I->(x=S\/s.heap.objs.size<=x)->ItS w S x I o es ep t us 0 h'->Q (.ref I) {s with heap:=h',drawn:=d}):wpAny (model prog w) A (pyIter<|.ref S) Q E s:=by
 have B:s.TypeIs (.ref S) "set":=#[o,c,W.oe.1]
 let f:=Yv c;exact wpAny_pyIter_slot B F.slot_set_iter<|Vd F.slot_set_iter B sX ?_<|F.args_set_iter_1 _;delta Builtin.«frozenset.__iter__»;exact Yd<|Yd<|Yi<|Yi ?_;delta setEpoch setDrawn;exact Yd<|Yd<|Yd<|Zn c W.dt W.ft<|Yi<|Yi ?_;exact Yd<|Yd<|Zn c W.dt W.ft<|Yd<|tq<|Yi ?_;show wpAny _ _ (if((not<|w.params.followText "set-order")&&((not<|t.plain)&&decide _)) then _ else _) _ _ s;cases z:((not<|w.params.followText "set-order")&&((not<|t.plain)&&decide (es.size > 1)))with
 |false=>
  rw[Ym Yj];exact Yd<|Yi<|Yd<|Yd<|Zn c W.dt W.ft<|Yi ?_;exact Yd<|XQ<|Yi #[_,qx,"set_iterator",_,#[_,Ys _ qx,qx],eA.lookup,?_];have u:∀us,Sl w S es ep t us 0 0->ItS w S S s.heap.objs.size o es ep t us 0 (s.heap.push {cls:=.type "set_iterator",data:=.fields #[[.int 0 0,.int 0 0,.ref S,.int es.size 0,.int ep 0]]}):=λus h=>#[Yf _ c,.int 0 0,_,Ys _ qx,qx,qx,.inl #[0,qx,h]]
  cases l:w.params.followText "set-order" with
  |true=>exact q _ S _ _ s.drawn ((show(pickOrder _ es).toList.Perm es.toList by simpa[pickOrder]using zV _ es.size 0 es.toList #[[]]<|by simp).map _) (λb o e=>Yf _ e) (Yp _) (Yy f) (.inl qx)<|u _<|.inl #[l,qx]
  |false=>
   rw[l]at z;exact q _ S _ _ s.drawn (Va _) (λb o e=>Yf _ e) (Yp _) (Yy f) (.inl qx)<|u _<|.inr #[l,z,(show Tb (en w) t es ([]++Z)from W.tb).below (λv m=>nomatch m) λv v=>YQ _,qx]
 |true=>
  rw[Yk qx];exact Yd<|yG es.size (List.range es.size) _ _ (Zw) λa d p=>?_;exact Yd<|wpAny_newTuple (items:=a.map λ(j:Nat)=>rawInt (j:Int)) ?_ (by rw[Yc,p.length_eq,Zw];have:=W.sm;rw[YV];lia);exact Yd<|Yd<|Zn (s:={s with heap:=s.heap.push _,drawn:=d}) (Yf _ c) W.dt W.ft<|Yi ?_;exact Yd<|XQ<|Yi #[_,qx,"set_iterator",_,#[_,Ys _ qx,qx],eA.lookup,?_];have y:∀o,(s.heap.push o).objs.size=s.heap.objs.size+1:=λo=>Xi ..
  have g:∀j∈a,j<es.size:=λj m=>Zg.mp<|p.mem_iff.mp m
  exact q (a.map λj=>(es.getD j (0,.none)).2) s.heap.objs.size _ _ d ?_ (λb o e=>Yf _<|Yf _ e) (by rw[y];exact ZZ _) (by rw[y];exact Yy<|ZV _) (.inr<|Yp _) #[Yf _<|Yf _ c,.ref s.heap.objs.size,_,Ys _ qx,qx,qx,.inr #[_,_,a,qx,Yf _<|Ys _ qx,qx,g,qx]];exact(p.map _).trans<|Uf ?_;apply Xk;intro i;by_cases h:i<es.size<;>simp[h,Array.getD]
theorem FC(c:s.TypeIs (.ref S) "set"){Q:Kb}(h:Q false s):wpAny (model prog w) A (Builtin.List.listLengthHint (.ref S)) Q E s:=by
 delta Builtin.List.listLengthHint;exact Yd<|XN c F.slot_set_len.lookup ?_;generalize a:("set.__len__")=i
 wp_delta
 rw[show splitId i=!("set","__len__")from by subst a;decide+kernel];subst a;exact Yd<|VP (T := "set") c sub_set_self ?_;exact Ug (λz=>absurd z<|by decide) λy=>?_;exact Ug (λy=>?_) λz=>absurd (by decide+kernel) z;exact Yd<|wpAny_typeOf c<|Yi h
theorem yr(nh:A.handled=())(W:Wk w o es ep t Z)(T:s.heap.get? S=!o){Q:Kl}(q:∀us h' d tk,us.Perm (es.toList.map (·.2))->(∀b o,s.heap.get? b=!o->h'.get? b=!o)->Q us {s with heap:=h',drawn:=d,toks:=tk}):wpAny (model prog w) A (collect (.ref S)) Q E s:=by
 let h:=Yv T;delta collect;exact Yd (wpAny_runValue (Zy entry_proto_collect' ?_));exact Yd (m:=newList []) (wpAny_newList (Yi #[XL _ (by decide+kernel),Zy entry_list_iadd' ?_]));rw[ZK (show plainId "list.__iadd__"=true by decide+kernel) #[[.ref s.heap.objs.size,.ref S],[]]];show wpAny _ _ (Builtin.List.listExtendWith (.ref s.heap.objs.size) (.ref S) (.ref s.heap.objs.size)) _ _ _;have X:(s.heap.push (seqObj "list" #[[]] 0)).get? s.heap.objs.size=!(seqObj "list" #[[]] 0):=Ys _ qx;have M:(s.heap.push (seqObj "list" #[[]] 0)).get? S=!o:=Yf _ T;have hk:∀b u,s.heap.get? b=!u->(s.heap.push (seqObj "list" #[[]] 0)).get? b=!u:=λb u e=>Yf _ e
 have hsz:(s.heap.push (seqObj "list" #[[]] 0)).objs.size=s.heap.objs.size+1:=Xi ..;have hT:Shared.TypeIs {s with heap:=s.heap.push (seqObj "list" #[[]] 0)} (.ref S) "set":=#[o,M,W.oe.1]
 have K:∀b u,s.heap.get? b=!u->b<s.heap.objs.size:=λb u e=>Yv e
 have R:s.heap.objs.size≠S:=Xc h;change wpAny (model prog w) A.in1 _ _ _ {s with heap:=s.heap.push (seqObj "list" #[[]] 0)};generalize s.heap.push (seqObj "list" #[[]] 0)=hp,s.heap.objs.size=l at *;delta Builtin.List.listExtendWith;exact Yd (wpAny_typeOf hT ?_);have g1:Builtin.List.listSameRef (.ref l) (.ref S)=false:=by simp[Builtin.List.listSameRef,R]
 have g2:(Value.type "set" == Value.type "list")=false:=by decide
 have g3:(Value.type "set" == Value.type "tuple")=false:=by decide
 simp only[g1,g2,g3,XO,Xf,VB];exact Yd (HE (s:={s with heap:=hp}) W M λus x I C d p B hI hx H st=>?_);have g:l<I:=by have:hp.objs.size<=I:=hI;lia
 have J:x≠l:=by rcases H with z|z;exact λc=>R (c.symm.trans z);exact λc=>by have:hp.objs.size<=x:=z;lia
 exact Yd (Zs (FC (s:={s with heap:=C,drawn:=d}) #[o,B _ _ M,W.oe.1] ?_));exact Ug (λv=>?_) (λz=>absurd (by decide+kernel) z);exact Yd (Vk (Yd ?_));show wpAny _ _ (updateSeq l (·.push .none)>>=λv=>updateSeq l (·.pop)) _ _ _;exact Yd (wpAny_updateSeq (B _ _ X) qx ?_);let y:=Xp (Obj.mapSeq (·.push Value.none)) (B _ _ X) qx;exact wpAny_updateSeq (hz:=by seq_fits) y qx ?_;let N:=Xp (Obj.mapSeq (·.pop)) y qx;have oth:∀b,b≠l->((C.update l (Obj.mapSeq (·.push Value.none))).update l (Obj.mapSeq (·.pop))).get? b=C.get? b:=λb f=>by
  rw[Xb _ _ _ _ f,Xb _ _ _ _ f]
 exact Yi #[Vr PySem.F.plain_extend_loop _,?_];let Y:=De (prog:=prog) (A:=A.in1) (us:=us) (by simpa using nh) W (Yy (ZL h g)) hx;have P:∀b∈[I,S,x],b≠l:=λb f=>by
  simp only[Yt,VO,or_false]at f;rcases f with rfl|rfl|rfl
  .exact Xc g
  .exact Yy h
  .exact J
 have ul:us.length<=sizeLine:=by have:=p.length_eq;have:=W.sm;rw[YV];simp at *;lia
 exact codeAny_extend_loopS Y.toS ul l (λz=>P l z qx) (.ref l) us.length 0 _ #[[]] _ (Nat.sub_zero _) (YQ _) (Y.frame 0 _ _ st λb f u e=>(oth b (P b f)).trans e) N (ItemsOf.nil _) λO a c' U L j=>?_;exact Yd (wpAny_load L ?_);show wpAny _ _ (pure a.toList) _ _ _;have ea:a.toList=us:=by
  let#[C,h2]:=j;apply Xk;intro i;rw[Zz];by_cases hi:i<a.size
  .let e:=Xt hi;rw[e,h2 i _ e]
  .rw[Array.getElem?_eq_none (by lia),Zm (by lia)]
 rw[ea,Moved.eq_with U];exact Yi (q us O.heap d O.toks p λb o e=>U.heap b o (λz=>?_) ((oth b λc=>?_).trans (B b o (hk b o e))))
 .rcases Yt.mp z with rfl|z
  .exact Zh _ (K _ _ e)
  .rw[Yu.mp z]at e;exact Nat.lt_asymm g (K _ _ e)
 .subst c;exact Zh _ (K _ _ e)
end
end L2
namespace L2
open PySem PySem.Spec PyProof.Rows PySem.W PySem.SetTable
open Classical in
def stD(a:List D)(d:D):List D:=if d∈a then a else a++[d]
def bA(ds:List D):=ds.foldl stD []
theorem i6 ds:(bA ds).length<=ds.length:=by
 have:∀ds a:List D,(ds.foldl stD a).length<=a.length+ds.length:=by
  intro ds;induction ds with
  |nil=>intro a;exact Yp _
  |cons d ds ih=>
   intro a;exact YF (ih _) ?_;delta stD;split
   .rw[Yq];lia
   .simp;lia
 exact YF (this ds [])<|by simp
theorem zm:∀(xs L:List VD),(xs.foldl ins L).map (·.2)=(xs.map (·.2)).foldl stD (L.map (·.2))
 |[],L=>rfl
 |x::xs,L=>by
  rw[Xx,zm,YI,Xx]
  congr 1
  delta ins stD;split<;>simp
theorem uo:∀(xs L:List VD) {p},p∈xs.foldl ins L->p∈L\/p∈xs
 |[],L,p,h=>.inl h
 |x::xs,L,p,h=>by
  rcases uo xs _ h with h|h
  .delta ins at h;split at h
   .exact .inl h
   .rcases Zc.mp h with h|h
    .exact .inl h
    .rw[Yu.mp h];exact .inr Ye
  .exact .inr<|Yb _ h
theorem DU:∀(xs L:List VD),L.length<=(xs.foldl ins L).length
 |[],L=>Yp _
 |x::xs,L=>by
  exact YF ?_<|DU xs _;delta ins;split
  .exact Yp _
  .rw[Yr];exact XF _ _
section
variable{R:Kr}{G:Array GenState->Array GenState->Prop}{n:Nat}{P:Nat->Value->Prop}{St:Nat->Shared->Prop}
theorem Et(W:WalksS prog w A.in1 I fp wr G n P St)S(H:S∉fp)h0(c:∀b o,h0.get? b=!o->b∉S::wr)(xs:List VD)(hn:xs.length=n)(hx:∀p∈xs,El sc h0 p)(m:∀i v,P i v->∃p,xs[i]?=!p/\p.1=v)(L:(xs.foldl ins []).length<=18)(hu:A.units+70<cLine) :
  ∀k i s,n-i=k->i<=n->St i s->(∀b o,h0.get? b=!o->s.heap.get? b=!o)->(∃o,s.heap.get? S=!o/\TSe w o ((xs.take i).foldl ins []))->
   (∀s',Moved (S::wr) G s s'->(∃o,s'.heap.get? S=!o/\TSe w o (xs.foldl ins []))->R (.ok<|.ret .none) s')->
   codeAny (model prog w) A (.builtin "set.update.loop" #[[.ref S,.ref I],[]]) R s:=by
 let E:=λh=>H<|W.sub _ h
 have a:∀b∈wr,b∈S::wr:=λb l=>Yb _ l
 intro k;induction k with
 |zero=>
  intro i s hk hi j K #[o,Q,M] U;obtain rfl:i=n:=by lia
  exact Zy PyProof.Rows.F.entry_set_update_loop ?_;rw[ZK PyProof.Rows.F.plain_set_update_loop _];exact Yd<|W.done s _ _ j λs' L=>?_;exact Yi<|U s' (L.mono a) #[o,L.heap S o E Q,?_];rw[<-hn,XH]at M;exact M
 |succ k ih=>
  intro i s hk hi j K #[o,Q,M] U;have B:i<n:=by lia
  exact Zy PyProof.Rows.F.entry_set_update_loop ?_;rw[ZK PyProof.Rows.F.plain_set_update_loop _];show wpAny _ A.in1 (pyNext (.ref I)>>=_) _ _ s;exact Yd<|W.item i s _ _ B j λv s' hP x O=>?_;let#[p,X,rfl]:=m i v hP;have f:∀b o,h0.get? b=!o->s'.heap.get? b=!o:=λb o e=>O.heap b o (λl=>c b o e<|a b l)<|K b o e
  have Y:ins ((xs.take i).foldl ins []) p=(xs.take<|i+1).foldl ins []:=by rw[Ux,X,Uw];rfl
  have el:((xs.take<|i+1).foldl ins []).length<=18:=by exact YF (DU (xs.drop<|i+1) _) ?_;rw[<-Uw,VH];exact L
  show wpAny _ A.in1 (holding [p.1] (setAdd S p.1)>>=_) _ _ s';exact Yd<|Zs<|uz (O.heap S o E Q) M (λq mq=>hx q<|List.mem_of_mem_take<|(uo _ _ mq).resolve_left λz=>nomatch z) (hx p<|YT X) f (by show A.units+1+64<cLine;lia) (by rw[Y];exact el) λb Z h' tk u C T g=>?_;rw[Y]at C;exact Yi #[Vr PyProof.Rows.F.plain_set_update_loop _,ih (i+1) _ (by lia) B (W.frame _ s' _ _ x u λb l o e=>(g b λh=>H<|by rw[<-h];exact l).trans e) (λb o e=>(g b λh=>c b o e<|by rw[h];exact Ye).trans<|f b o e) #[Z,T,C] λN y J=>?_];exact U N (Moved.trans W.gtrans ((O.mono a).then_heap u λb o l e=>(g b λh=>l<|by rw[h];exact Ye).trans e) y) J
end
theorem Dx{l}{xs:List VD}(H:A.handled=())(y:s.heap.IsList l items)(hi:items.toList=xs.map (·.1))(hx:∀p∈xs,El sc s.heap p)(c:(xs.foldl ins []).length<=18)(S:A.units+80<cLine)(q:∀h' tk,(∃o,h'.get? s.heap.objs.size=!o/\TSe w o (xs.foldl ins []))->(∀b o,s.heap.get? b=!o->h'.get? b=!o)->Q (.ref s.heap.objs.size) {s with heap:=h',toks:=tk}):wpAny (model prog w) A (call (.type "set") [.ref l]) Q E s:=by
 exact uh y (λR J=>?_) q;let#[P,x,_]:=id y;let f:=Yv x;have a:(s.heap.push<|oR w).objs.size=s.heap.objs.size+1:=Xi ..;have h:∀b o,s.heap.get? b=!o->b∉s.heap.objs.size::[(s.heap.push<|oR w).objs.size]:=λb o e=>by
  have:=Yv e;rw[a];simp[Yt,VO,or_false,not_or];exact#[Yy this,Yy<|ZP this]
 have u:xs.length=items.size:=by have:=YW List.length hi;simpa using this.symm
 exact Et ((Walks.list (show A.in1.in1.in1.handled=() by simpa using H) _ l (by rw[a];exact Yy<|ZP f) items).toS) s.heap.objs.size (by rw[a];simp;exact Xc f) s.heap h xs u hx (λi v B=>?_) c (by show A.units+1+1+70<cLine;lia) (items.size-0) 0 _ (by lia) (YQ _)
  #[#[_,Ys _ rfl,rfl,rfl],(y.push _).push _] (λb o e=>Yf _<|Yf _ e) #[_,Yf _<|Ys _ rfl,#[[]],0,.fresh 0 0 _,[],#[rfl,rfl,rfl],rfl,#[rfl,rfl,rfl,.nil],(λt m=>nomatch m),.inl #[rfl,YQ _],(λz=>by show((not<|w.params.followText "set-order"));rw[z];rfl),.refl _] λC c I=>?_
 .rw[<-Zz,hi,Yw]at B;exact YK.mp B
 .let#[h',K,O,g,j]:=C;let M:=c.gens;let N:=c.drawn;let L:=c.os;subst M N L;exact J h' g I λb o e=>c.heap b o (h b o e)<|Yf _<|Yf _ e
def GN(w:World)(a:Addr)(vs:List V):Heap->Prop:=λh=>∃o L,h.get? a=!o/\TSe w o L/\Vals vs (L.map (·.1))
def sv(ds:List D):=(bA ds).length<=18/\((∀d∈ds,u_ d)\/∀d∈ds,N4 d)
def Bk{u}(p:us.Perm u):∀{vs}{ds},Vals vs u->Reps K H vs ds->∃a b,Vals a us/\Reps K H a b/\b.Perm ds:=by
 induction p with
 |nil=>
  intro vs ds e c;exact#[vs,ds,e,c,Va _]
 |cons x _ ih=>
  intro vs ds e c;cases e with
  |cons o f=>
   cases c with
   |cons b1 b2=>
    let#[a,b,j,i,h]:=ih f b2;exact#[_,_,.cons o j,.cons b1 i,h.cons _]
 |swap x y l=>
  intro vs ds e c;cases e with
  |cons o f=>
   cases f with
   |cons f z=>
    cases c with
    |cons b1 b2=>
     cases b2 with
     |cons b2 b3=>exact#[_,_,.cons f<|.cons o z,.cons b2<|.cons b1 b3,List.Perm.swap _ _ _]
 |trans _ _ ih1 ih2=>
  intro vs ds e c;let#[a,b,j,i,h]:=ih2 e c;let#[g,m,w,s,q]:=ih1 j i;exact#[g,m,w,s,q.trans h]
def pK{a:Type}{p}{as bs:List a}(h:as.Perm bs)(b:bs.all p):as.all p:=Yl.mpr λx m=>Yl.mp b x<|h.mem_iff.mp m
theorem wy(h:as.Perm bs)(ok:bx bs):bx as:=by delta bx at ok ⊢;simp only[Yn,YS]at ok ⊢;let#[#[#[#[i,g],f],e],c]:=ok;exact#[#[#[#[by rwa[h.length_eq],pK h g],?_],pK h e],pK h c];grind
def Inv.keptD{σ}{d'}(I:Inv X pz σ H s)(k:∀b u,s.heap.get? b=!u->h'.get? b=!u):Inv X pz σ H {s with heap:=h',drawn:=d',toks:=t' }:=by exact I.step (ch:=[]) (λy z=>nomatch z) (λb o y y y e y=>k b o e) (λb o y y y e y=>#[o.slots,k b o e]) (λy y y y n=>n) (λb o y e=>#[o,k b o e]) (λy y y e=>e) (λm a=>?_) (I.hok.kept k) I.bare;let#[o,c,f,h,r]:=a;exact#[o,c,f,k _ o h,r]
theorem AZ(hu:X.A.units+80<cLine)(hcalm:X.calm):CallR X (.type "set") (λxs H Q=>∃l vs ds j,xs=[.ref l]/\SqL X.K H l vs/\Same j H/\Reps X.K j vs ds/\sv ds /\
  ∀a e,H a=()->Reps X.K j e (bA ds)->Q (.ref a) (upd H a (.ext (GN X.w a e)))):=by
 intro pz s σ H xs us Q I r h;let#[l,vs,ds,j,rfl,R,hF,P,#[hn,ok],q]:=h;let#[u,rfl,Z]:=fE r;cases Z;let#[E,Y,O,hz]:=I.list R;have C:∃y:List VD,y.map (·.1)=E/\y.map (·.2)=ds/\∀p∈y,∃x,RelV x p.1/\Rep X.K j x p.2:=by
  clear ok hn R hz O q;induction Y generalizing ds with
  |nil=>cases P;exact#[[],qx,qx,λv m=>nomatch m]
  |cons a b ih=>
   cases P with
   |cons c d=>
    let#[y,rfl,rfl,h]:=ih _ d;exact#[(_,_)::y,qx,qx,λp m=>by
     rcases Yt.mp m with rfl|m
     .exact#[_,a,c]
     .exact h p m]
 let#[y,rfl,rfl,J]:=C;have T:(y.foldl ins []).map (·.2)=bA _:=zm y [];obtain⟨N,he⟩:∃N,∀p∈y,El N s.heap p:=by
  rcases ok with ok|ok
  .exact#[false,λp m=>?_];let#[x,g,f]:=J p m;let k:=ok _<|Vf m;exact KeyAt.mk' k<|Rep.reads I 8 (f.same hF) ?_ g;delta u_ at k;rw[Yn,Yn]at k;exact k.1.2
  .exact#[true,λp m=>?_];let#[x,g,f]:=J p m;let k:=ok _<|Vf m;let#[u,d]:=p;cases d with
   |int i=>cases f;let#[t,rfl]:=g;exact .inl #[_,_,qx]
   |str i=>cases f;let#[t,rfl]:=g;exact .inr #[_,_,qx]
   |_=>cases k
 exact Dx (I.ok.hd hcalm) O.isList qx he (by have:=YW List.length T;simp at this;lia) hu λh' U #[o,S,hT] kp=>?_;have B:∀L:List VD,(∀p∈L,p∈y)->∃e,Vals e (L.map (·.1))/\Reps X.K j e (L.map (·.2)):=by
  intro L;induction L with
  |nil=>exact λv=>#[[],.nil,.nil]
  |cons p L ih=>
   intro h;let#[x,g,f]:=J p<|h p Ye;let#[vs,h3,h4]:=ih λq m=>h q<|Yb _ m
   exact#[x::vs,.cons g h3,.cons f h4]
 let#[e,g,f]:=B (y.foldl ins []) λp m=>(uo _ _ m).resolve_left λz=>nomatch z
 rw[T]at f;exact#[.ref s.heap.objs.size,_,I.laid (o:=.ext _) kp (Yp _) #[#[o,_,S,hT,g],#[o,S],λha hb #[o',L,g1,g2,g3] M=>#[o',L,M _ g1,g2,g3]],qx,q _ e (I.hok.fresh<|Yp _) f]
theorem ue(O:X.A.units+64<cLine)(hcalm:X.calm):CallR X (.builtin "sorted") (λxs H Q=>∃a vs ds c,xs=[.ref a]/\H a=!.ext (GN X.w a vs)/\Same c H/\Reps X.K c vs ds/\bx ds /\
  ∀l f,H l=()->Reps X.K c f (aQ ds)->Q (.ref l) (upd H l (.lst f))):=by
 intro pz s σ H xs g Q I r h;let#[a,vs,ds,c,rfl,hH,hF,P,ok,q]:=h;let#[u,rfl,C]:=fE r;cases C;let#[#[o,L,S,#[es,ep,t,Z,M,Y,T,R,sz,led,E],B],_]:=I.hok a _ hH;let lz:=T.siz.1;exact jC<|yr (by have:=I.ok.hd hcalm;simpa using this) #[M,Y,T,T.fits<|by lia,led,by lia] S λg h' d z p N=>?_;have J:g.Perm (L.map (·.1)):=by exact p.trans<|List.Perm.trans (Uf ?_)<|E.map _;rw[T.es,YH];simp
 let#[y,b,h1,x,m]:=Bk J B P;let e:=kh m (kF ok).2.1;exact vd (I.keptD N) (x.same hF) h1 (wy m ok) O λl i s' U b1 b2 b3 I'=>#[.ref l,_,I',qx,q l _ U ?_]
 rw[<-e];by_cases j:b=[]
 .subst j;rw[show i=[]from Zl.mp b2];exact .nil
 .rw[<-b3];exact x.perm j i b1
def lI(fa:Dd):DF->Option (List D):=λa=>match fa a with
 |some (.lst ds)=>open Classical in if sv ds/\bx (bA ds) then !(aQ<|bA ds)else ()
 |_=>()
theorem vw(N:X.A.units+80<cLine)(hcalm:X.calm)(R:Gl X "sorted")(O:X.mg "sorted"=())(y:Gl X "set")(u:X.mg "set"=())(g:PDR X e fa)(hs:starEach [e] X.env=[(false,eval e X.env)]:=by rfl)(c:starEach [.Call (.Name "set" p2) [e] [] pos2] X.env=[(false,eval (.Call (.Name "set" p2) [e] [] pos2) X.env)]:=by rfl)(s:(backTo pos<|starEach [] X.env).any (·.1)=false:=by rfl)(f:(backTo pos2<|starEach [] X.env).any (·.1)=false:=by rfl):PDO X (.Call (.Name "sorted" p) [.Call (.Name "set" p2) [e] [] pos2] [] pos) (asL<|lI fa):=
 (dB (ue (by lia) hcalm) R O ji (aI (eF (AZ N hcalm) y u Eu (aI g bf hs) (by decide) (by decide) hs f) bf c) (by decide) (by decide) c s).imp λY H Q=>un7 λP F z ob h I k=>by
  delta asL lI at h;cases g:fa z with
  |none=>rw[g]at h;cases h
  |some U=>
  rw[g]at h;cases U with
  |lst ds=>
   dsimp only at h;split at h
   .rename_i ok;cases h;exact#[P,F,z,_,g,I,λx j C m J=>?_];let B:=I.evo m;let#[l,E,rfl,T,S]:=dE B J;exact#[l,E,ds,j,qx,T,B.sub,S,ok.1,λa b L K=>?_];have i:Evo P j C j (upd C a<|.ext<|GN X.w a b):=Evo.side m.hp L;exact#[a,b,_,j,qx,aC,i.hp.sub,K,ok.2,λM Z q o=>k M j _ ((m.trans i).trans<|Evo.side i.hp q) #[#[(m.trans i).back I.toDHp q,(i.hp.free q).1],_,aC,o]]
   .cases h
  |_=>cases h
end L2
namespace L2
open PySem PySem.Spec PyProof.Rows
theorem Room.h80(r:Room k A):A.units+80<cLine:=by have:=r.un;lia
def Cn(a:List D)(d:D):=open Classical in if d∈a then a else a++[d]
theorem Ey(ds:List D):∀acc:List D,(∀d,d∈ds.foldl Cn acc↔d∈acc\/d∈ds)/\(acc.Nodup->(ds.foldl Cn acc).Nodup):=by
 induction ds with
 |nil=>exact λacc=>#[λd=>by simp,λh=>h]
 |cons x r ih=>
  intro acc;rw[Xx];by_cases c:x∈acc
  .rw[show Cn acc x=acc from Yk c];let#[f,e]:=ih acc;exact#[λd=>(f d).trans #[λz=>z.imp id<|Yb _,λz=>?_],e];rcases z with z|z
   .exact .inl z
   .rcases Yt.mp z with rfl|z
    .exact .inl c
    .exact .inr z
  .rw[show Cn acc x=acc++[x]from Ym c];grind
def bS:d∈bA ds↔d∈ds:=by have:=(Ey ds []).1 d;rw[show bA ds=ds.foldl Cn []from rfl,this];simp
def iF ds:(bA ds).Nodup:=(Ey ds []).2 Ul
def rkD(L:List D)(d:D):=(L.filter λx=>ltD x d).length
def u4(p:L.Perm M)d:rkD L d=rkD M d:=(p.filter _).length_eq
theorem v5:∀{L},Cmps n L->L.Pairwise (λa b=>ltD b a=false)->L.Nodup->d∈L->i4 d L=!rkD L d
 |[],_,_,_,h=>by cases h
 |x::r,hc,hs,nd,h=>by
  let f:=hc.1 x Ye;let#[s,j]:=Zo.mp hs;let#[n1,n2]:=Zd.mp nd;have irr:ltD x x=false:=by
   cases q:ltD x x with
   |false=>rfl
   |true=>have:=(gD n x x f f<|hc.2 x Ye x Ye).as q;rw[q]at this;cases this
  delta i4 rkD;rcases Yt.mp h with rfl|hr
  .rw[Yk<|(dD _ _<|hc.2 _ Ye _ Ye).mpr qx,List.filter_cons_of_neg<|by rw[irr];exact Yj];rw[List.filter_eq_nil_iff.mpr λy e=>by rw[s y e];exact Yj];rfl
  .have c:x≠d:=λz=>n1<|z ▸ hr
   let g:=h;have i:ltD x d:=by
    cases q:ltD x d with
    |true=>rfl
    |false=>exact absurd ((gD n x d f (hc.1 d g)<|hc.2 x Ye d g).an q<|s d hr) c
   rw[Ym λz=>c<|(dD _ _<|hc.2 x Ye d g).mp z,List.filter_cons_of_pos (p:=λx=>ltD x d) i];rw[v5 (hc.sub λy e=>Yb _ e) j n2 hr];rfl
def zA(b:Cmps n ds)(hd:d∈ds):i4 d (aQ (bA ds))=!rkD (bA ds) d:=by
 let h:=b.sub λx a=>bS.mp a
 let p:=a9<|bA ds;rw[v5 (h.perm p.symm) (fK h) ((p.nodup_iff).mpr<|iF ds)<|p.mem_iff.mpr<|bS.mpr hd,u4 p]
def yj(h:P a=!.lst vs)(r:Reps K F vs ds):uD K P (Ite K a) F (dq ds):=by intro B H e f i;have b:SqL K H a vs:=SqL.of<|f.pro _ _ h;exact#[λd u=>?_,λs=>#[vs,b,by rw[r.length];simpa[dq]using s]];let#[z,c,rfl]:=jS u;let#[v,g,w]:=r.get c;exact#[#[vs,v,b,g],λx A l=>?_];let#[q,y,p,rfl,rfl,m]:=l;have:=m vs b;rw[g]at this;cases this;let j:=Evo.laid f (o:=.tup [.int i,v]) p;exact#[_,j,.tup aC<|.cons .int<|.cons ((w.same e).same j.ext) .nil]
def gG(i:Nat):=λρ=>(bY i ρ).map dq
def mF i(m:Gl X "enumerate")(j:X.mg "enumerate"=())(h:PE X l (dM i))(hs:starEach [l] X.env=[(false,eval l X.env)]:=by rfl):PDI X (.Tuple elts kk tpos) (.Call (.Name "enumerate" p) [l] [] pos) (gG i):=PI.imp (Aa m j (aI h bf hs) hs) λs H R=>un7 λP F w x b I k=>by
 delta gG bY at b;split at b
 .rename_i g q;cases b;let#[v,f,a,rfl,_,u,c,e]:=I.at q;cases u with
  |lst vs=>exact#[_,f,a,qx,#[vs,SqL.of<|I.pro _ _ c],k _ F H (Evo.refl I.toDHp)<|yj c e]
  |_=>exact e.elim
 .rename_i g q;cases b;let#[v,f,o]:=I.at q;cases o with
  |lst c e=>exact#[_,f,_,qx,#[_,I.sub.seq c],k _ F H (Evo.refl I.toDHp)<|sA c e]
 .cases b
open PySem.W
def bs{α b:Type}{o}{f:α->Option b}{y}(h:o.bind f=!y):∃a,o=!a/\f a=!y:=by
 cases o with
 |none=>cases h
 |some a=>exact#[a,qx,h]
section
variable{ek ev i:Expr}{fk fd:Dd}{tk:TE}
theorem EZ(S:X.A.units+64<cLine)(hi:PDE X i fk)(C:PDR X o fd)(h1:behindInMarks .NotIn o=false:=by first|exact qF _ (by decide) (by decide)|rfl):PDT X (.Compare i [.NotIn] [o] pos) (asB (d2 (Ai true) fk fd)):=(xz (rB (by lia) hi C) h1).imp λO H Q=>un7 λP F l b a I k=>by
 let a:=xI a;delta d2 at a;let#[m,w,a]:=bs a;let#[K,B,a]:=bs a;cases K with
 |dT kvs=>
  have h:((jf m).map λk=>D.bl _)=!_:=a;cases f:jf m with
  |none=>rw[f]at h;cases h
  |some g=>
   rw[f]at h;cases h;exact#[P,F,l,_,w,I,λy N U j u=>#[P,N,l,_,B,I.evo j,λx M L e Pd=>?_]];let#[p,s,rfl,h1,J]:=xY ((I.evo j).evo e) Pd;let#[q,rfl,E]:=nP e.hp (u.same e.ext) f;exact#[p,_,qx,DGet.t h1 E,_,qx,?_];have:((not<|(dY s g).isSome))=(true ^^ (c_ kvs g).isSome):=by
    rcases J.val with⟨c,z⟩|⟨v,T,c,z,R⟩
    .rw[c,z];rfl
    .rw[c,z];rfl
   rw[this];exact k M L<|j.trans e
 |_=>cases a
end
end L2
namespace L2
open PySem PySem.Spec PyProof.Rows
open PySem.W
section
variable{G:Array GenState->Array GenState->Prop}{P:Nat->Value->Prop}{St:Nat->Shared->Prop}{R:Kr}
def yz(W:WalksS prog w A.in1 I fp wr G 1 P St)(hu:A.units+1<cLine)d(H:d∉fp)h0(f:∀b o,h0.get? b=!o->b∉d::wr){ks}{b} 
  (z:∀v,P 0 v->∃p,v=.ref p/\IsTup h0 p #[[.ref b,u]]) (l:∀h:Heap,(∀b o,h0.get? b=!o->h.get? b=!o)->(tupleKind<|aH prog w).is h ks b) s j tj (T:St 0 s) (Z:∀b o,h0.get? b=!o->s.heap.get? b=!o)
  (hd:Heap.DictOfH (tupleKind<|aH prog w) s.heap d []) (hR:∀s',Moved (d::wr) G s s'->Heap.DictOfH (tupleKind<|aH prog w) s'.heap d [(ks,b,u)]->R (.ok<|.ret .none) s') :
  codeAny (model prog w) A (.builtin "dict.update.loop" #[[.ref d,.ref I,.int j tj,.none],[]]) R s:=by
 let E:=λh=>H<|W.sub _ h
 have a:∀b∈wr,b∈d::wr:=λb i=>Yb _ i
 exact Zy t8 ?_;rw[ZK kf _];show wpAny _ A.in1 (pyNext (.ref I)>>=_) _ _ s;exact Yd<|W.item 0 s _ _ Nat.one_pos T λv s' hP C U=>?_;let#[p,rfl,K]:=z v hP;have g:∀b o,h0.get? b=!o->s'.heap.get? b=!o:=λb o e=>U.heap b o (λi=>f b o e<|a b i)<|Z b o e
 have y:IsTup s'.heap p #[[.ref b,u]]:=by let#[o,e1,e2]:=K;exact#[o,g p o e1,e2]
 have X:Heap.DictOfH (tupleKind<|aH prog w) s'.heap d []:=by let#[o,es,ep,e,O,N,M,r4,L]:=hd;exact#[o,es,ep,U.heap d o E e,O,N,M,λx S=>(nomatch S),L]
 exact Yd<|Zs<|Yd<|wpAny_tryCatch<|qA y ?_;show wpAny _ A.in1 (holding [.ref b,u]<|dictSet d (.ref b) u) _ _ s';exact Zs<|wpAny_dictSet_heap (hsz:=YQ _) (knd:=tupleKind<|aH prog w) (by show A.units+1<cLine;exact hu) (l _ g) X λh' Y m=>?_;exact Yi #[Vr kf _,?_];have B:St 1 {s' with heap:=h',toks:=s'.toks+(tupleKind<|aH prog w).draws ks}:=W.frame _ s' _ _ C (XF _ _) λb i o e=>by
  rw[m.2 b (λh:b=d=>H<|by rw[<-h];exact i)];exact e
 exact Zy t8 ?_;rw[ZK kf _];show wpAny _ A.in1 (pyNext (.ref I)>>=_) _ _ _;exact Yd<|W.done _ _ _ B λJ q=>?_;show wpAny _ A.in1 (Builtin.Dict.addKeywords d []>>=λt=>ret Value.none) _ _ J;exact Yd<|show wpAny _ A.in1 (pure PUnit.unit) _ _ J from Yi ?_;have mv:Moved (d::wr) G s {s' with heap:=h',toks:=s'.toks+(tupleKind<|aH prog w).draws ks}:=(U.mono a).then_heap (XF _ _) λb o i e=>by
  rw[m.2 b (λh:b=d=>i<|by rw[h];exact Ye)];exact e
 exact Yi<|hR J (Moved.trans W.gtrans mv<|q.mono a) ?_;let#[o,es,ep,e,O,N,M,r4,L]:=Y;exact#[o,es,ep,q.heap d o E e,O,N,M,λx S=>?_,L];have Q:x=(ks,b,u):=by simpa[storedH,atKey]using S
 subst Q;exact l J.heap λc o e=>?_;exact q.heap c o (λi=>f c o e<|a c i) ?_;show h'.get? c=!o;rw[m.2 c (λh:c=d=>f c o e<|by rw[h];exact Ye)];exact g c o e
end
theorem yp(hu:X.A.units+64<cLine)(hcalm:X.calm):CallR X (.type "dict") (λxs H Q=>∃a t b ks x,xs=[.ref a]/\H a=!.lst [.ref t]/\H t=!.tup [.ref b,x]/\H b=!.tup (ks.map kV)/\∀d,H d=()->Q (.ref d) (upd H d (.dT [(ks,x)]))):=by
 intro pz s σ H xs us Q I r h;let#[a,t,b,ks,x,rfl,ha,ht,U,q]:=h;let#[u,rfl,ru]:=fE r;cases ru;let#[_,its,n,rv,M]:=I.hok _ _ ha;let#[ut,rfl,E]:=rv.one;cases E;let#[_,ts,E,it,_]:=I.hok _ _ ht;let#[ub,B,rfl,rb,rx]:=E.two;cases rb;let hh:=I.ok.hd hcalm;have L:∀h:Heap,(∀c o,s.heap.get? c=!o->h.get? c=!o)->(tupleKind _).is h ks b:=λh P=>by
  let#[o,vs,n,i,h2,h3,h4]:=mG I.hok U;exact#[o,vs,n,P b o i,h2,h3,h4]
 exact j4 (Z:=λy=>Heap.DictOfH (tupleKind<|aH X.prog X.w) y s.heap.objs.size [(ks,b,B)]) hh M (λR i tk1 k1 hR=>?_) λy tk hZ P=>?_
 .have hS:(s.heap.push jY).get? s.heap.objs.size=!jY:=Ys _ qx;let m:=k1 _ _ hS;let j:=Yv m;let l:=Yv M;let N:=Yy<|ZL l j;let f:=λb o e=>k1 b o<|Yf _ e
  have g:∀b o,s.heap.get? b=!o->b∉s.heap.objs.size::[i.objs.size]:=λb o e=>by
   have:=Yv e;simp[Yt,Yu,VO,or_false,not_or];exact#[Yy this,Yy<|ZL this j]
  have O:(i.push<|Ap a).IsList a #[[.ref t]]:=Heap.IsList.push #[_,f _ _ M,qx,n,qx] _;have K:X.A.in1.in1.handled=():=by simpa using hh
  have S:Heap.DictOfH (tupleKind<|aH X.prog X.w) (i.push<|Ap a) s.heap.objs.size []:=#[_,#[[]],0,Yf _ m,#[rfl,rfl,rfl],qx,qx,λx hx=>(nomatch hx),Ul]
  exact yz ((Walks.list K _ a N #[[.ref t]]).toS) (by show X.A.units+1+1<cLine;lia) s.heap.objs.size (by simp;exact#[Yy j,Xc l]) s.heap g (λv e=>#[t,by first|exact(YG e).symm|(cases e;rfl),it]) L _ 0 0
   #[#[_,Ys _ rfl,rfl,rfl],O] (λb o e=>Yf _<|f b o e) S λs' p Y=>?_
  let#[y,g',d',C,J]:=s';let eg:=p.gens;let ed:=p.drawn;let eo:=p.os;subst eg ed eo;exact hR y C Y λb o e=>p.heap b o (g b o e)<|Yf _<|f b o e
 .let#[o,es,ep,e,r1,r2,r3,r4,r5]:=hZ;have T:b≠s.heap.objs.size:=λz=>by
   let e1:=I.hok.fresh<|Yp _;rw[<-z,U]at e1;cases e1
  exact#[.ref s.heap.objs.size,_,I.laid (o:=.dT [(ks,x)]) P (Yp _) #[?_,ZB.mpr<|Xq<|Yy I.big,[(ks,b,B)],.cons #[qx,by rwa[az T],rx] .nil,o,es,ep,e,r1,r2,r3,r5],qx,q _<|I.hok.fresh<|Yp _];show 1<=sizeLine;decide
def om(f:Dl):DF->Option OD:=λa=>match f a with
 |some [.tup [y,x]]=>(jf y).map λk=>.dT [(k,x)]
 |_=>()
open A in
def xG{f:Dl}(M:X.A.units+64<cLine)(hcalm:X.calm)(R:Gl X "dict")(O:X.mg "dict"=())(h:PDO X e (asL f))(hs:starEach [e] X.env=[(false,eval e X.env)]:=by rfl)(l:(backTo pos (starEach [] X.env)).any (·.1)=false:=by rfl):PDO X (.Call (.Name "dict" p) [e] [] pos) (om f):=
 (eF (yp M hcalm) R O pW (aI h bf hs) (by decide) (by decide) hs l).imp λU H Q=>un7 λP F w Y c I k=>by
  delta om at c;split at c
  .rename_i y x q;cases j:jf y with
   |none=>rw[j]at c;cases c
   |some L=>
    rw[j]at c;cases c;exact#[P,F,w,.lst [.tup [y,x]],by delta asL;rw[q];rfl,I,λa s H1 g N=>?_];let#[#[a1,Z],u,T,o]:=N;cases u with
    |lst vs=>
     let C:=o;cases C with
     |cons J E=>
      cases E;cases J with
      |tup e1 e2=>
       cases e2 with
       |cons z i=>
        cases i with
        |cons B i=>
         cases i;let#[b,rfl,S]:=nP g.hp z j;exact#[a,_,b,L,_,qx,T,g.hp.sub _ _ e1,S,λd m=>?_];exact k d s _ (g.trans<|Evo.side g.hp m) #[#[g.back I.toDHp m,(g.hp.free m).1],_,aC,.cons B .nil]
    |_=>exact o.elim
  .cases c
def FunD.binds0(F:FunD K x qual st f fd)(h:∀T kV doc pm an cdv ct us,us.length=ps.length->∃k:Option _->Sem _,bindArgs (fnOf x qual (defArgs st) (defBody st) (defScope st) (.ref T) kV doc pm an cdv ct) #[us,[]]=seqItems? (.ref T)>>=k/\k (!#[[Value.none]])=pure (ps.zip us)):Binds K fd ps []:=by
 let#[m,l,T,kV,doc,pm,an,cdv,ct,o,j,p,rfl,q,b,lt,g]:=F.ex;intro s us i a;rw[YZ]at a ⊢;let#[k,e,c]:=h T kV doc pm an cdv ct us a;exact BindsTo.of_defaults qx (i _ _ lt) g e c
structure FunE (K:PySem.W.Frag) (x qual:Str) (st:Stmt) (f:Addr) (fd:FuncData) (c0:Addr):Prop where
 ex:∃(oc:Value) (od:Option Addr) (T:Addr) (kV doc pm:Value) (an:Option Addr) (ct:Value) (osl:Array (Option Value)) (ot:Obj) (nt:Nat),
  fd=fnOf x qual (defArgs st) (defBody st) (defScope st) (.ref T) kV doc pm an (.ref c0) ct/\K.lookup f=!#[oc,od,.func fd,osl]/\codeIn K (.ref c0) qual=true/\K.lookup T=!ot/\ot.data=.seq #[[Value.none]] nt
 kp:keepIn K (.ref f)=true
def FunE.d(F:FunE K x qual st f fd c0):FunD K x qual st f fd:=by let#[e,c,T,kV,a,p,j,i,o,b,g,h]:=F.ex;exact#[#[e,c,T,kV,a,p,j,.ref c0,i,o,b,g,h],F.kp]
section
variable{P:Program}{k:Nat}
def FunE.okE(F:FunE K x qual st f fd c0)(S:FnScope N ps (defScope st))(c:∀{A}{outer}{s}{H}{E},Room k (A.deeper (envOfC qual (defScope st) s.heap.objs.size f (.ref c0)))->
      PDS (b7 CX0 P w K mg base N qual (defScope st) f (.ref c0) A outer s H E).nox (defBody st) g):FnOk P w K mg base CX0 (k+1) f fd ps (spD K (mOf N.length ps.length g)):=by
  let#[q,m,T,kV,e,p,z,y,o,j,u,rfl,l,a,_]:=F.ex;exact zM l a S uS λA outer s H i Q E b h=>#[_,PSs.nox<|c b,qE h]
end
def FK(g:Dv):=λa=>(g a).map (·++[.v .non])
def DVs.snoc(h:DVs K P F H xs vs):DVs K P F H (xs++[.v .non]) (vs++[.non]):=by
 induction h with
 |nil=>exact .cons qx .non .nil
 |cons a b _ ih=>exact .cons a b ih
def C9{g}{E}:∀σ H Q,tD K (aj m (FK g)) σ H Q->yJ (spD K m) [.non] E (tLV K g) σ H Q:=λσ H Q=>un7 λP F z d h I k=>by
 delta aj FK at h;cases q:g z with
 |none=>rw[q]at h;cases h
 |some e=>
  rw[q,ZF,Ya]at h;cases f:m (e++[.v .non])with
  |none=>rw[f]at h;cases h
  |some x=>
   rw[f,Ya]at h;exact#[P,F,z,e,q,I,λN y s l J=>?_];let c:=I.evo l;exact#[gd y s,y,e++[.v .non],x,f,fF c.sub,(J.dvs c).snoc,λv w p C i A=>?_];let B:=c.toDHp.gd C i;cases x with
   |v d'=>cases h;exact k v w p (l.trans B) A
   |own o t=>
    cases h;let#[a,rfl,L,_]:=A;let j:=kP C L;exact k _ _ p (l.trans<|B.freeze c.toDHp _ λr q=>q)<|j.rep (cC λb q=>q.2) λb u q M=>by rwa[eS q]
   |bor o=>cases h
section
variable{k:Nat}{g:Dv}
def B5(F:FnOk X.prog X.w X.K X.mg X.base CX0 k f fd ps (spD X.K m))(a:Room k X.A)(i:Gl X x)(b:X.mg x=!.ref f)(c:PySem.W.keepIn X.K (.ref f))(j:Binds X.K fd ps [Value.none])(l:i3 X (e::es) g)(hd:nDb x:=by decide)(he:starEach (e::es) X.env=(false,eval e X.env)::starEach es X.env:=by rfl)(h:(backTo pos<|starEach es X.env).any (·.1)=false:=by rfl):PDE X (.Call (.Name x p) (e::es) [] pos) (aj m<|FK g):=
 (kS F a i b c j (dvs:=[.non]) (.cons qx .nil) k8 l hd he h).imp C9
end
abbrev Kd:=Array Keyed
def zo:Bool->Keyed->Kd->Nat->Nat->Nat->StateT SortSt Sem (Option Nat):=sortPriv% PySem.Builtin.gallop
def vm:Kd->Kd->StateT SortSt Sem Kd:=sortPriv% PySem.Builtin.mergeLo
def vz:Kd->Kd->StateT SortSt Sem Kd:=sortPriv% PySem.Builtin.mergeHi
section
variable{κ:SortKind}{G:Keyed->Prop}
def qI(prog:Program)(w:World)(A:Around)(E:Kv)(s:Shared)(κ:SortKind)(G:Keyed->Prop):=
 ∀x y (a:SortSt) Q,G x->G y->kindOf a=κ->(∀b,Q (!b) a)->wpS (model prog w) A E s (lt' x y) Q a
def AllG(G:Keyed->Prop)(a:Kd):=∀i (h:i<a.size),G a[i]
def aT{a}{st}{Q}(g:AllG G a)(hi:i<a.size)(h:∀x,G x->Q x st):wpS (model prog w) A E s (elem' a i) Q st:=by rw[elem'_eq,Xt hi];exact YJ<|h _<|g i hi
theorem BA(y:qI prog w A E s κ G){j}{a}{base m f}{st:SortSt}{Q}(l:kindOf st=κ)(C:G j)(L:AllG G a)(hz:base+m<=a.size)(K:f<m)(h:∀k,k<=m->Q (!k) st):wpS (model prog w) A E s (zo left j a base m f) Q st:=by
 have g:∀i,i<m->∀(st:SortSt) (Q:Option Bool->SortSt->Prop),kindOf st=κ->(∀b,Q (!b) st)->wpS (model prog w) A E s (elem' a (base+i)>>=λx=>if left=true then lt' x j else lt' j x>>=λr=>pure<|r.map ((not<|·))) Q st:=λi p st Q l u=>by
  exact YC<|aT L (by first|lia|(dsimp only;lia)) λx B=>?_;cases left with
  |true=>exact y _ _ _ _ B C l u
  |false=>exact YC<|y _ _ _ _ C B l λb=>YJ<|u _
 delta zo;exact YC<|g f K st _ l λb=>?_;dsimp only;split
 all_goals
  exact YC<|XC (ZG (I:=λ_ (c:Option (Option Nat)×Nat×Nat) e=>st=e/\c.1=()) (Q:=λ(c:Option (Option Nat)×Nat×Nat) e=>st=e/\c.1=()) ?_ (λv v z=>z) #[qx,qx]) ?_
  .rintro x ⟨q,H,of⟩ e _ J ⟨rfl,rfl⟩;dsimp only;split
   .exact YJ #[qx,qx]
   .exact YC<|g _ (by lia) _ _ l λb=>?_;dsimp only;split<;>exact YJ #[qx,qx]
  .rintro⟨q,H,of⟩ e ⟨rfl,rfl⟩;dsimp only;exact YC<|XC (ZG (I:=λ_ (c:Option (Option Nat)×Nat×Nat) e=>st=e/\c.1=()/\c.2.2<=m) (Q:=λ(c:Option (Option Nat)×Nat×Nat) e=>st=e/\c.1=()/\c.2.2<=m) ?_ (λv v z=>z) #[qx,qx,by dsimp only;lia]) ?_
   .rintro x ⟨q,lo,p⟩ e _ J ⟨rfl,rfl,o⟩;dsimp only at o ⊢;split
    .exact YJ #[qx,qx,o]
    .exact YC<|g _ (by lia) _ _ l λb=>?_;dsimp only;split<;>exact YJ #[qx,qx,by dsimp only;lia]
   .rintro⟨q,lo,p⟩ e ⟨rfl,rfl,o⟩;exact YJ<|h p o
structure SG (st st':SortSt):Prop where
 kind:kindOf st'=kindOf st
 arr:arrOf st'=arrOf st
 pend:pendingOf st'=pendingOf st
 fail:failedOf st'=failedOf st
def SG.refl st:SG st st:=#[qx,qx,qx,qx]
def IP:Nat->StateT SortSt Sem Unit:=sortPriv% PySem.Builtin.setMinGallop
def jM{g}{st b}{Q}(h:SG st b)(q:∀a,SG st a->Q PUnit.unit a):wpS (model prog w) A E s (IP g) Q b:=VA<|q _ #[h.kind,h.arr,h.pend,h.fail]
def aO{σ α}{c}[Decidable c]{m a}{Q:α->σ->Prop}{st}(h:c->wpS M A E s m Q st)(k:¬c->wpS M A E s a Q st):wpS M A E s (if c then m else a) Q st:=by
 split
 .exact h ‹_›
 .exact k ‹_›
def r8{σ α a:Type}{c}[DecidablePred c]{m f:a->StateT σ Sem α}{Q}{st}{v0}(P:a->Prop)(h:∀v,P v->wpS M A E s (f v) Q st)(h1:c v0->(∀v,P v->wpS M A E s (f v) Q st)->wpS M A E s (m v0) Q st)(h2:¬c v0->P v0):∀v,v0=v->wpS M A E s (if c v then m v else f v) Q st:=by
 rintro v rfl;by_cases q:c v0
 .rw[Yk q];exact h1 q h
 .rw[Ym q];exact h v0<|h2 q
def lG{σ α e b:Type}{c}[Decidable c]{m f:e->b->StateT σ Sem α}{Q}{st}{a}{v0}(P:e->b->Prop)(h:∀u v,P u v->wpS M A E s (f u v) Q st)(h1:c->(∀u v,P u v->wpS M A E s (f u v) Q st)->wpS M A E s (m a v0) Q st)(h2:¬c->P a v0):∀u,a=u->∀v,v0=v->wpS M A E s (if c then m u v else f u v) Q st:=by
 rintro u rfl v rfl;by_cases q:c
 .rw[Yk q];exact h1 q h
 .rw[Ym q];exact h a v0<|h2 q
def AllG.push{a}{x}(h:AllG G a)(g:G x):AllG G (a.push x):=λi b=>by
 rw[Array.getElem_push];split
 .exact h i _
 .exact g
def AllG.mem{a}:AllG G a↔∀x∈a,G x:=#[λh x m=>by let#[i,b,rfl]:=Array.getElem_of_mem m;exact h i b,λh i b=>h _<|Array.getElem_mem b]
def AllG.app{a b}(h:AllG G a)(k:AllG G b):AllG G (a++b):=AllG.mem.mpr λx m=>(Array.mem_append.mp m).elim (AllG.mem.mp h x)<|AllG.mem.mp k x
def AllG.cut{a}(h:AllG G a)i j:AllG G (a.extract i j):=λk b=>by
 rw[Array.getElem_extract];exact h _ _
def Gd(G:Keyed->Prop)(N:Nat)(r:Kd):=AllG G r/\r.size=N
def MGo(G:Keyed->Prop)(a b:Kd)(S:Nat)(r:Option Kd)(out:Kd)(c i:Nat):=
 (∃l,r=!l/\Gd G (a.size+b.size) l)\/(r=()/\Gd G (c+i) out/\c+1<a.size/\i<b.size/\S<=c+i)
theorem p5{P:α×β×γ×δ×ε->Prop}(h:∀a b c d e,P (a,b,c,d,e)):∀x,P x:=λz=>h ..
theorem p6{P:α×β×γ×δ×ε×ζ->Prop}(h:∀a b c d e f,P (a,b,c,d,e,f)):∀x,P x:=λz=>h ..
theorem p7{P:α×β×γ×δ×ε×ζ×η->Prop}(h:∀a b c d e f g,P (a,b,c,d,e,f,g)):∀x,P x:=λz=>h ..
theorem MGo.el{a b n r o p j}(h:MGo G a b n r o p j)(z:r=()):Gd G (p+j) o/\p+1<a.size/\j<b.size/\n<=p+j:=by
 rcases h with⟨l,y,_⟩|⟨_,h⟩
 .cases z.symm.trans y
 .exact h
theorem CB(hC:qI prog w A E s κ G){a b:Kd}{st:SortSt}{Q:Kd->SortSt->Prop}(hk:kindOf st=κ)(Y:AllG G a)(T:AllG G b)(la:1<=a.size)(lb:1<=b.size)(h:∀l e,Gd G (a.size+b.size) l->SG st e->Q l e):wpS (model prog w) A E s (vm a b) Q st:=by
 have C:∀{o:Kd}{p j:Nat},Gd G (p+j) o->p<=a.size->j<=b.size->Gd G (a.size+b.size) (o++a.extract p a.size++b.extract j b.size):=λ{o p j} g h1 h2=>#[(g.1.app (Y.cut _ _)).app (T.cut _ _),by have:=g.2;simp;lia]
 have K:∀{o:Kd}{p j:Nat},Gd G (p+j) o->p<=a.size->j<=b.size->Gd G (a.size+b.size) (o++b.extract j b.size++a.extract p a.size):=λ{o p j} g h1 h2=>#[(g.1.app (T.cut _ _)).app (Y.cut _ _),by have:=g.2;simp;lia]
 have pa:∀{o:Kd}{p j:Nat}{x:Keyed},Gd G (p+j) o->G x->Gd G (p+1+j) (o.push x):=λg gx=>#[g.1.push gx,by have:=g.2;simp;lia]
 have pb:∀{o:Kd}{p j:Nat}{x:Keyed},Gd G (p+j) o->G x->Gd G (p+(j+1)) (o.push x):=λg gx=>#[g.1.push gx,by have:=g.2;simp;lia]
 delta vm;exact YC (wpS_lift (Vk #[qx,?_]));exact YC (aT T (by lia) λx0 g0=>?_);have I0:Gd G (0+1) [x0].toArray:=#[AllG.mem.mpr λy m=>by rw[List.mem_toArray,Yu]at m;rw[m];exact g0,qx]
 exact aO (λ_=>YJ (h _ _ (C I0 (by lia) (by lia)) (SG.refl _))) λh1=>?_;exact aO (λ_=>YJ (h _ _ (K I0 (by lia) (by lia)) (SG.refl _))) λh2=>?_
 simp only[Zk]at h1 h2
 exact YC (wpS_get ?_);exact YC (XC (ZG (I:=λx (c:Option Kd×Kd×Nat×Nat×Nat) e=>SG st e/\c.1=()/\MGo G a b (x+1) c.1 c.2.1 c.2.2.1 c.2.2.2.1)
  (Q:=λ(c:Option Kd×Kd×Nat×Nat×Nat) e=>SG st e/\∃l,c.1=!l/\Gd G (a.size+b.size) l) ?_ (λc e z=>?_) #[SG.refl _,qx,.inr #[qx,I0,by dsimp only;lia,by dsimp only;lia,by dsimp only;lia]]) ?_)
 .intro x;exact p5 ?_;intro c0 o p j mg e _ hx q;let#[hG,z,N]:=q;dsimp only at N;let#[I,ha,hb,hS]:=N.el z;exact YC (XC (ZG (I:=λy (c:Option Kd×Kd×Nat×Nat×Nat×Nat) e=>SG st e/\c.1=()/\MGo G a b (x+1+y) c.1 c.2.1 c.2.2.1 c.2.2.2.1)
   (Q:=λ(c:Option Kd×Kd×Nat×Nat×Nat×Nat) e=>SG st e/\MGo G a b (x+2) c.1 c.2.1 c.2.2.1 c.2.2.2.1) ?_ (λc e z=>#[z.1,?_]) #[hG,qx,.inr #[qx,I,ha,hb,hS]]) ?_)
  .intro y;exact p6 ?_;intro d0 o ja jb ac bc st2 _ hy q;let#[i,z,N]:=q;dsimp only at N;let#[U,M,hb2,hS2]:=N.el z;exact YC (aT T hb2 λvb B=>YC (aT Y (by first|lia|(dsimp only;lia)) λva J=>YC (hC _ _ _ _ B J (i.kind.trans hk) λbw=>?_)));dsimp only;split
   .exact YC (aT T hb2 λv gv=>?_)
    split
    .rename_i q
     exact YJ #[i,.inl #[_,qx,C (pb U gv) (by lia) (by lia)]]
    .rename_i q
     simp only[Zk]at q;split
     .exact YJ #[i,.inr #[qx,pb U gv,M,by dsimp only;lia,by dsimp only;lia]]
     .exact YJ #[i,qx,.inr #[qx,pb U gv,M,by dsimp only;lia,by dsimp only;lia]]
   .exact YC (aT Y (by first|lia|(dsimp only;lia)) λv gv=>?_)
    split
    .exact YJ #[i,.inl #[_,qx,K (pa U gv) (by lia) (by lia)]]
    .rename_i q
     simp only[Zk]at q;split
     .exact YJ #[i,.inr #[qx,pa U gv,by dsimp only;lia,hb2,by dsimp only;lia]]
     .exact YJ #[i,qx,.inr #[qx,pa U gv,by dsimp only;lia,hb2,by dsimp only;lia]]
  .rcases z.2.2 with z|⟨z0,z2,z3,z4,z5⟩
   .exact .inl z
   .exact .inr #[z0,z2,z3,z4,by lia]
  .exact p6 ?_;intro d0 o ja jb ac bc st2 q;let#[i,N]:=q;dsimp only at N;rcases N with⟨l,rfl,g⟩|⟨rfl,N⟩
   .exact YJ #[i,l,qx,g]
   let#[U,M,hb2,hS2]:=N;exact YC (wpS_lift (Vk #[qx,?_]));exact YC (XC (ZG (I:=λy (c:Option Kd×Kd×Nat×Nat×Nat×Nat×Nat) e=>SG st e/\c.1=()/\MGo G a b (x+2) c.1 c.2.1 c.2.2.1 c.2.2.2.1)
    (Q:=λ(c:Option Kd×Kd×Nat×Nat×Nat×Nat×Nat) e=>SG st e/\MGo G a b (x+2) c.1 c.2.1 c.2.2.1 c.2.2.2.1) ?_ (λc e z=>#[z.1,z.2.2]) #[i,qx,.inr #[qx,U,M,hb2,hS2]]) ?_)
   .intro y;exact p7 ?_;intro f0 o ka X mg2 ac2 bc2 st3 _ hy q;let#[S,z,N]:=q;dsimp only at N;let#[I3,O,L,R]:=N.el z;dsimp only;generalize hmg:mg2=mg3;revert mg3 hmg;exact r8 (P:=λ_=>True) ?_ (λ_ H=>H _ trivial) (λ_=>trivial);intro mg3 _;exact YC (jM S λst4 f=>?_);exact YC (aT T L λvb B=>?_);exact YC (BA hC (f.kind.trans hk) B Y (by lia) (by lia) λk hk0=>?_);dsimp only;generalize hu:o=u;generalize hv:ka=v;revert u v hu hv;exact lG (P:=λu v=>Gd G (v+X) u/\v+1<a.size/\x+2<=v+X) ?_ ?_ ?_
    .rintro u v ⟨Z,ha4,hS4⟩
     exact YC (aT T L λvb B=>?_);exact aO (λ_=>YJ #[f,.inl #[_,qx,C (pb Z B) (by lia) (by lia)]]) λq=>?_;simp only[Zk]at q;exact YC (aT Y (by lia) λva J=>?_);exact YC (BA hC (f.kind.trans hk) J T (by lia) (by lia) λk2 hk2=>?_);dsimp only;generalize hu:u.push vb=u2;generalize hv:X+1=v2;revert u2 v2 hu hv;exact lG (P:=λu2 v2=>Gd G (v+v2) u2/\v2<b.size/\x+2<=v+v2) ?_ ?_ ?_
     .rintro u2 v2 ⟨I6,hb6,hS6⟩
      exact YC (aT Y (by lia) λva J=>?_);exact aO (λ_=>YJ #[f,.inl #[_,qx,K (pa I6 J) (by lia) (by lia)]]) λq=>?_;simp only[Zk]at q;exact aO (λ_=>YJ #[f,.inr #[qx,pa I6 J,by dsimp only;lia,by dsimp only;lia,by dsimp only;lia]]) λ_=>YJ #[f,qx,.inr #[qx,pa I6 J,by dsimp only;lia,by dsimp only;lia,by dsimp only;lia]]
     .intro _ H
      have I5:Gd G (v+(X+1+k2)) (u.push vb++b.extract (X+1) (X+1+k2)):=#[(pb Z B).1.app (T.cut _ _),by have:=(pb Z B).2;simp at *;lia]
      exact aO (λ_=>YJ #[f,.inl #[_,qx,C I5 (by lia) (by lia)]]) λq=>?_;simp only[Zk]at q;exact H _ _ #[I5,by lia,by lia]
     .exact λ_=>#[pb Z B,by lia,by lia]
    .intro _ H
     have Z:Gd G (ka+k+X) (o++a.extract ka (ka+k)):=#[I3.1.app (Y.cut _ _),by have:=I3.2;simp at *;lia]
     exact aO (λ_=>YJ #[f,.inl #[_,qx,K Z (by lia) (by lia)]]) λq=>?_;exact aO (λ_=>YJ #[f,.inl #[_,qx,C Z (by lia) (by lia)]]) λq2=>?_;simp only[Zk]at q q2;exact H _ _ #[Z,by lia,by lia]
    .exact λ_=>#[I3,O,R]
   .exact p7 ?_;intro f0 o ka X mg2 ac2 bc2 st3 q;let#[S,N]:=q;dsimp only at N;rcases N with⟨l,rfl,g⟩|⟨rfl,N⟩
    .exact YJ #[S,l,qx,g]
    exact YC (jM S λst4 f=>YJ #[f,qx,.inr #[qx,N]])
 .rcases z.2.2 with⟨l,z1,z2⟩|⟨z0,z2,z3,z4,z5⟩
  .exact#[z.1,l,z1,z2]
  .lia
 .rintro⟨c0,o,p,j,mg⟩ e ⟨hG,l,rfl,g⟩
  exact YJ (h l e g hG)
def MGh(G:Keyed->Prop)(a b:Kd)(S:Nat)(r:Option Kd)(out:Kd)(c nb:Nat):=
 (∃l,r=!l/\Gd G (a.size+b.size) l)\/(r=()/\AllG G out/\out.size+c+nb=a.size+b.size/\0<c/\c<=a.size/\1<nb/\nb<=b.size/\S<=out.size)
def AllG.rev{a}(h:AllG G a):AllG G a.reverse:=AllG.mem.mpr λx m=>AllG.mem.mp h x<|Array.mem_reverse.mp m
theorem MGh.el{a b S r o c d}(h:MGh G a b S r o c d)(z:r=()):AllG G o/\o.size+c+d=a.size+b.size/\0<c/\c<=a.size/\1<d/\d<=b.size/\S<=o.size:=by
 rcases h with⟨l,y,_⟩|⟨_,h⟩
 .cases z.symm.trans y
 .exact h
open A in
theorem Cj(hC:qI prog w A E s κ G){a b:Kd}{st:SortSt}{Q:Kd->SortSt->Prop}(hk:kindOf st=κ)(U:AllG G a)(X:AllG G b)(la:1<=a.size)(lb:1<=b.size)(h:∀l f,Gd G (a.size+b.size) l->SG st f->Q l f):wpS (model prog w) A E s (vz a b) Q st:=by
 have p:∀{o:Kd}{K J:Nat},AllG G o->o.size+K+J=a.size+b.size->K<=a.size->J<=b.size->Gd G (a.size+b.size) (a.extract 0 K++b.extract 0 J++o.reverse):=λ{o K J} g e h1 h2=>#[((U.cut _ _).app (X.cut _ _)).app g.rev,by simp;lia]
 have B:∀{o:Kd}{K J:Nat},AllG G o->o.size+K+J=a.size+b.size->K<=a.size->J<=b.size->Gd G (a.size+b.size) (b.extract 0 J++a.extract 0 K++o.reverse):=λ{o K J} g e h1 h2=>#[((X.cut _ _).app (U.cut _ _)).app g.rev,by simp;lia]
 delta vz;exact YC (wpS_lift (Vk #[qx,?_]));exact YC (aT U (by lia) λx0 g0=>?_);have I0:AllG G [x0].toArray:=AllG.mem.mpr λy m=>by rw[List.mem_toArray,Yu]at m;rw[m];exact g0
 have e0:([x0].toArray:Kd).size=1:=rfl;exact aO (λt=>YJ (h _ _ (p I0 (by lia) (by lia) (by lia)) (SG.refl _))) λh1=>?_;exact aO (λt=>YJ (h _ _ (B I0 (by lia) (by lia) (by lia)) (SG.refl _))) λh2=>?_;simp only[Zk]at h1 h2;exact YC (wpS_get ?_);exact YC (XC (ZG (I:=λx (c:Option Kd×Nat×Nat×Kd×Nat) f=>SG st f/\c.1=()/\MGh G a b (x+1) c.1 c.2.2.2.1 c.2.1 c.2.2.1)
  (Q:=λ(c:Option Kd×Nat×Nat×Kd×Nat) f=>SG st f/\∃l,c.1=!l/\Gd G (a.size+b.size) l) ?_ (λc f z=>?_) #[SG.refl _,qx,.inr #[qx,I0,by dsimp only;lia,by dsimp only;lia,by dsimp only;lia,by dsimp only;lia,by dsimp only;lia,by dsimp only;lia]]) ?_)
 .intro x;exact p5 ?_;intro c0 K J o mg f _ hx q;let#[hG,z,C]:=q;dsimp only at C;let#[I,hS,ha,ha',hb,hb',hz]:=C.el z;exact YC (XC (ZG (I:=λy (c:Option Kd×Nat×Nat×Kd×Nat×Nat) f=>SG st f/\c.1=()/\MGh G a b (x+1+y) c.1 c.2.2.2.1 c.2.1 c.2.2.1)
   (Q:=λ(c:Option Kd×Nat×Nat×Kd×Nat×Nat) f=>SG st f/\MGh G a b (x+2) c.1 c.2.2.2.1 c.2.1 c.2.2.1) ?_ (λc f z=>#[z.1,?_]) #[hG,qx,.inr #[qx,I,hS,ha,ha',hb,hb',hz]]) ?_)
  .intro y;exact p6 ?_;intro d0 ja jb o ac bc st2 _ hy q;let#[j,z,C]:=q;dsimp only at C;let#[I2,hS2,p1,p2,p3,p4,hz2]:=C.el z;exact YC (aT X (by first|lia|(dsimp only;lia)) λvb L=>YC (aT U (by first|lia|(dsimp only;lia)) λva M=>YC (hC _ _ _ _ L M (j.kind.trans hk) λbw=>?_)));dsimp only;split
   .exact YC (aT U (by lia) λv gv=>?_);let N:=I2.push gv;have e3:(o.push v).size=o.size+1:=Uh ..;exact aO (λt=>YJ #[j,.inl #[_,qx,p N (by lia) (by lia) (by lia)]]) λq=>?_;simp only[Zk]at q;have R:MGh G a b (x+1+(y+1)) () (o.push v) (ja-1) jb:=.inr #[qx,N,by lia,by lia,by lia,by lia,by lia,by lia];have R2:MGh G a b (x+2) () (o.push v) (ja-1) jb:=.inr #[qx,N,by lia,by lia,by lia,by lia,by lia,by lia];exact aO (λt=>YJ #[j,R2]) λt=>YJ #[j,qx,R]
   .exact YC (aT X (by lia) λv gv=>?_);let N:=I2.push gv;have e3:(o.push v).size=o.size+1:=Uh ..;exact aO (λt=>YJ #[j,.inl #[_,qx,B N (by lia) (by lia) (by lia)]]) λq=>?_;simp only[Zk]at q;have R:MGh G a b (x+1+(y+1)) () (o.push v) ja (jb-1):=.inr #[qx,N,by lia,by lia,by lia,by lia,by lia,by lia];have R2:MGh G a b (x+2) () (o.push v) ja (jb-1):=.inr #[qx,N,by lia,by lia,by lia,by lia,by lia,by lia];exact aO (λt=>YJ #[j,R2]) λt=>YJ #[j,qx,R]
  .rcases z.2.2 with z|⟨z0,O,z2,z3,z4,z5,z6,z7⟩
   .exact .inl z
   .exact .inr #[z0,O,z2,z3,z4,z5,z6,by lia]
  .exact p6 ?_;intro d0 ja jb o ac bc st2 q;let#[j,C]:=q;dsimp only at C;rcases C with⟨l,rfl,g⟩|⟨rfl,C⟩
   .exact YJ #[j,l,qx,g]
   let#[I2,hS2,p1,p2,p3,p4,hz2]:=C;exact YC (wpS_lift (Vk #[qx,?_]));exact YC (XC (ZG (I:=λy (c:Option Kd×Nat×Nat×Kd×Nat×Nat×Nat) f=>SG st f/\c.1=()/\MGh G a b (x+2) c.1 c.2.2.2.1 c.2.1 c.2.2.1)
    (Q:=λ(c:Option Kd×Nat×Nat×Kd×Nat×Nat×Nat) f=>SG st f/\MGh G a b (x+2) c.1 c.2.2.2.1 c.2.1 c.2.2.1) ?_ (λc f z=>#[z.1,z.2.2]) #[j,qx,.inr #[qx,I2,hS2,p1,p2,p3,p4,hz2]]) ?_)
   .intro y;exact p7 ?_;intro f0 ka Z o mg2 ac2 bc2 st3 _ hy q;let#[T,z,C]:=q;dsimp only at C;let#[N,hS3,r1,r2,r3,r4,hz3]:=C.el z;dsimp only;generalize hmg:mg2=mg3;revert mg3 hmg;exact r8 (P:=λt=>True) ?_ (λt H=>H _ trivial) (λt=>trivial);intro mg3 _;exact YC (jM T λst4 i=>?_);exact YC (aT X (by lia) λvb L=>?_);exact YC (BA hC (i.kind.trans hk) L U (by lia) (by lia) λk hk0=>?_);dsimp only;generalize hkk:ka-k=kk;generalize hu:ka=u;generalize hv:o=v;revert u hu v hv;exact lG (P:=λu v=>AllG G v/\v.size+u+Z=a.size+b.size/\0<u/\u<=a.size/\x+2<=v.size) ?_ ?_ ?_
    .rintro u v ⟨I4,e4,u0,u1,z4⟩;exact YC (aT X (by lia) λvb L=>?_);let I5:=I4.push L;have e5:(v.push vb).size=v.size+1:=Uh ..;exact aO (λt=>YJ #[i,.inl #[_,qx,B I5 (by lia) (by lia) (by lia)]]) λq=>?_;simp only[Zk]at q;exact YC (aT U (by lia) λva M=>?_);exact YC (BA hC (i.kind.trans hk) M X (by lia) (by lia) λk2 hk2=>?_);dsimp only;generalize hkk2:Z-1-k2=kk2;generalize hu2:Z-1=Y;generalize hv2:v.push vb=S;revert Y hu2 S hv2;exact lG (P:=λY S=>AllG G S/\S.size+u+Y=a.size+b.size/\1<Y/\Y<=b.size/\x+2<=S.size) ?_ ?_ ?_
     .rintro Y S ⟨I6,e6,w0,w1,z6⟩;exact YC (aT U (by lia) λva M=>?_);let I7:=I6.push M;have e7:(S.push va).size=S.size+1:=Uh ..;exact aO (λt=>YJ #[i,.inl #[_,qx,p I7 (by lia) (by lia) (by lia)]]) λq=>?_;simp only[Zk]at q;have R:MGh G a b (x+2) () (S.push va) (u-1) Y:=.inr #[qx,I7,by lia,by lia,by lia,by lia,by lia,by lia];exact aO (λt=>YJ #[i,R]) λt=>YJ #[i,qx,R]
     .intro _ H;have I6:AllG G (v.push vb++(b.extract k2 (Z-1)).reverse):=I5.app (X.cut _ _).rev;have e6:(v.push vb++(b.extract k2 (Z-1)).reverse).size=v.size+1+(Z-1-k2):=by simp;lia
      exact aO (λt=>YJ #[i,.inl #[_,qx,B I6 (by lia) (by lia) (by lia)]]) λq1=>?_;exact aO (λt=>YJ #[i,.inl #[_,qx,p I6 (by lia) (by lia) (by lia)]]) λq2=>?_;simp only[Zk]at q1 q2;exact H _ _ #[I6,by lia,by lia,by lia,by lia]
     .exact λt=>#[I5,by lia,by lia,by lia,by lia]
    .intro _ H;have I4:AllG G (o++(a.extract k ka).reverse):=N.app (U.cut _ _).rev;have e4:(o++(a.extract k ka).reverse).size=o.size+(ka-k):=by simp;lia
     exact aO (λt=>YJ #[i,.inl #[_,qx,p I4 (by lia) (by lia) (by lia)]]) λq=>?_;simp only[Zk]at q;exact H _ _ #[I4,by lia,by lia,by lia,by lia]
    .exact λt=>#[N,hS3,r1,r2,hz3]
   .exact p7 ?_;intro f0 ka Z o mg2 ac2 bc2 st3 q;let#[T,C]:=q;dsimp only at C;rcases C with⟨l,rfl,g⟩|⟨rfl,C⟩
    .exact YJ #[T,l,qx,g]
    exact YC (jM T λst4 i=>YJ #[i,qx,.inr #[qx,C]])
 .rcases z.2.2 with⟨l,O,z2⟩|⟨z0,O,z2,z3,z4,z5,z6,z7⟩
  .exact#[z.1,l,O,z2]
  .lia
 .rintro⟨c0,K,J,o,mg⟩ f ⟨hG,l,rfl,g⟩;exact YJ (h l f g hG)
end
section
variable{κ:SortKind}{G:Keyed->Prop}{N lo:Nat}{st0 st:SortSt}
def Gd.swap{a}(h:Gd G N a)(i j:Nat):Gd G N (a.swapIfInBounds i j):=by
 exact#[λk b=>?_,by rw[Array.size_swapIfInBounds];exact h.2];delta Array.swapIfInBounds;split
 .split
  .rw[Array.getElem_swap];split
   .exact h.1 _ _
   .split<;>exact h.1 _ _
  .exact h.1 _ _
 .exact h.1 _ _
theorem Gd.swaps(f g:Nat->Nat):∀(l:List Nat) {a},Gd G N a->Gd G N (l.foldl (λa k=>a.swapIfInBounds (f k) (g k)) a)
 |[],_,h=>h
 |k::l,_,h=>Gd.swaps f g l<|h.swap (f k)<|g k
structure SA (G:Keyed->Prop) (N:Nat) (st0 st:SortSt):Prop where
 kind:kindOf st=kindOf st0
 pend:pendingOf st=pendingOf st0
 fail:failedOf st=failedOf st0
 arr:Gd G N (arrOf st)
def gU(e:qI prog w A E s κ G)(a:kindOf st0=κ)(S:SA G N st0 st){Q}(hi:i<N)(c:j<N)(h:∀b,Q (!b) st):wpS (model prog w) A E s (ltAt' i j) Q st:=by rw[ltAt'_eq];exact YC<|wpS_get ?_;exact YC<|aT S.arr.1 (S.arr.2 ▸ hi) λx f=>YC<|aT S.arr.1 (S.arr.2 ▸ c) λy g=>e _ _ _ _ f g (S.kind.trans a) h
def jO(S:SA G N st0 st){Q}(h:∀a,SA G N st0 a->Q PUnit.unit a):wpS (model prog w) A E s (reverseSlice' i j) Q st:=by rw[reverseSlice'_eq];exact VA<|h _ #[S.kind,S.pend,S.fail,Gd.swaps _ _ _ S.arr]
def wZ(S:SA G N st0 st){Q}(h:∀a,SA G N st0 a->Q PUnit.unit a):wpS (model prog w) A E s (moveDown' i j) Q st:=by rw[moveDown'_eq];exact VA<|h _ #[S.kind,S.pend,S.fail,Gd.swaps _ _ _ S.arr]
theorem NY(j:qI prog w A E s κ G)(i:kindOf st0=κ){m ok}(B:lo+m<=N)(S0:SA G N st0 st){Q}(h:∀a,SA G N st0 a->Q true a):wpS (model prog w) A E s (binarySort' lo m ok) Q st:=by
 delta binarySort';exact YC<|XC (ZG (I:=λx c a=>c=((),PUnit.unit)/\SA G N st0 a) ?_ (λc a z=>z) #[qx,S0]) ?_
 .rintro k c f H C ⟨rfl,S⟩;exact YC<|XC (ZG (I:=λy c a=>c.1=()/\c.2.2<=k/\SA G N st0 a) (Q:=λc a=>c.1=()/\SA G N st0 a) ?_ (λc a z=>#[z.1,z.2.2]) #[qx,Yp _,S]) ?_
  .rintro y ⟨o,l,r⟩ a _ u ⟨rfl,q,S⟩;dsimp only at q ⊢;exact aO (λx=>YJ #[qx,S]) λg=>YC<|gU j i S (by lia) (by lia) λb=>?_;dsimp only;exact aO (λx=>YJ #[qx,by dsimp only;lia,S]) λx=>YJ #[qx,q,S]
  .rintro⟨o,l,r⟩ a ⟨rfl,S⟩;exact YC<|wZ S λe p=>YJ #[qx,p]
 .rintro c a ⟨rfl,S⟩;exact YJ<|h _ S
def r6{σ α}{c}[Decidable c]{m f}{Q:α->σ->Prop}{st}(P:σ->Prop)(h:∀a,P a->wpS M A E s f Q a)(h1:c->(∀a,P a->wpS M A E s f Q a)->wpS M A E s m Q st)(h2:¬c->P st):wpS M A E s (if c then m else f) Q st:=by
 by_cases q:c
 .rw[Yk q];exact h1 q h
 .rw[Ym q];exact h st<|h2 q
theorem JW(j:qI prog w A E s κ G)(i:kindOf st0=κ)(T:lo+M<=N)(h0:1<=M)(S0:SA G N st0 st){Q}(h:∀m a,1<=m->m<=M->SA G N st0 a->Q (!m) a):wpS (model prog w) A E s (countRun' lo M) Q st:=by
 delta countRun';exact YC<|XC (ZG (I:=λx c a=>SA G N st0 a/\c=((),x)/\1<=x/\x<=M) (Q:=λc a=>SA G N st0 a/\∃k,c=((),k)/\1<=k/\k<=M) ?_ (λc a z=>#[z.1,_,z.2.1,z.2.2.1,z.2.2.2]) #[S0,qx,by decide,h0]) ?_
 .rintro x c a f e ⟨S,rfl,u,p⟩;exact YC<|gU j i S (by dsimp only;lia) (by dsimp only;lia) λb=>?_;dsimp only;exact aO (λv=>YJ #[S,x,qx,u,p]) λv=>YJ #[S,qx,by lia,by lia]
 .rintro c a ⟨S,k,rfl,f,e⟩;exact aO (λv=>YJ<|h k _ f e S) λo=>?_;simp[Zk]at o;dsimp only;exact r6 (P:=SA G N st0) ?_ ?_ λv=>S
  .intro K R;exact YC<|wpS_lift<|Vk #[qx,?_];exact YC<|XC (ZG (I:=λx c a=>∃q,c=((),x,q)/\1<=x/\x<=M/\SA G N st0 a) (Q:=λc a=>∃x q,c=((),x,q)/\1<=x/\x<=M/\SA G N st0 a) ?_ (λc a z=>#[_,z]) #[0,qx,by lia,by lia,R]) ?_
   .rintro x c a X U ⟨q,rfl,B,y,S⟩;exact YC<|gU j i S (by dsimp only;lia) (by dsimp only;lia) λb=>?_;dsimp only;exact aO (λv=>?_) λv=>?_
    .exact aO (λv=>YC<|jO S λg l=>YJ #[0,qx,by lia,by lia,l]) λv=>YJ #[0,qx,by lia,by lia,S]
    .exact YC<|gU j i S (by lia) (by lia) λb=>?_;dsimp only;exact aO (λv=>YJ #[x,q,qx,B,y,S]) λv=>YJ #[q+1,qx,by lia,by lia,S]
   .rintro c a ⟨x,q,rfl,B,y,S⟩;dsimp only;exact r6 (P:=SA G N st0) ?_ (λv H=>YC<|jO S λg l=>H _ l) λv=>S;intro J O;exact YC<|jO O λC L=>?_;exact YC<|XC (ZG (I:=λx (c:Option (Option Nat)×Nat) a=>SA G N st0 a/\c=((),x)/\1<=x/\x<=M) (Q:=λ(c:Option (Option Nat)×Nat) a=>SA G N st0 a/\∃k,c=((),k)/\1<=k/\k<=M) ?_ (λc a z=>#[z.1,_,z.2.1,z.2.2.1,z.2.2.2]) #[L,qx,B,y]) ?_
    .rintro x c a f e ⟨S,rfl,u,p⟩;exact YC<|gU j i S (by dsimp only;lia) (by dsimp only;lia) λb=>?_;dsimp only;exact aO (λv=>YJ #[S,x,qx,u,p]) λv=>YJ #[S,qx,by lia,by lia]
    .rintro c a ⟨S,k,rfl,f,e⟩;exact YJ<|h k _ f e S
  .intro _ H;exact YC<|gU j i S (by lia) (by lia) λb=>?_;dsimp only;exact aO (λv=>YJ<|h k _ f e S) λv=>YC<|jO S λg l=>H _ l
end
section
variable{κ:SortKind}{G:Keyed->Prop}{N lo:Nat}{st0 st:SortSt}
def G5{σ}{Q}{st a}(h:Q #[] a):wpS M A E s (set a:StateT σ Sem PUnit) Q st:=by delta wpS;rw[StateT.run_set];exact Yi #[qx,h]
theorem Gd.put b:∀(L:List (Keyed×Nat)) {a},(∀p∈L,G p.1)->Gd G N a->Gd G N (L.foldl (λa x=>match x with|(p,j)=>a.setIfInBounds (b+j) p) a)
 |[],_,_,h=>h
 |(p,j)::L,a,g,h=>Gd.put b L (λq m=>g q<|Yb _ m) #[λk e=>by
   have c:k<a.size:=by simpa using e
   rw[Array.getElem_setIfInBounds c];split
   .exact g (p,j) Ye
   .exact h.1 _ _,by rw[Vj];exact h.2]
theorem C5(z:qI prog w A E s κ G){c f H nb B}{Q}(u:kindOf st=κ)(C:failedOf st=())(o:Gd G N (arrOf st))(h1:1<=f)(h2:1<=nb)(hN:c+f+nb<=N)(e1:(pendingOf st)[i]?=!(c,f,H))(e2:(pendingOf st)[i+1]?=!(c+f,nb,B))(h:∀b,PyProof.Rows.kindOf b=κ->failedOf b=()->Gd G N (arrOf b)->pendingOf b=((pendingOf st).setIfInBounds i (c,f+nb,H)).eraseIdxIfInBounds (i+1)->Q true b):wpS (model prog w) A E s (mergeAt' i) Q st:=by
 delta mergeAt';exact YC<|wpS_get ?_;dsimp only;change wpS _ _ _ _ _ _ _;rw[e1,e2];dsimp only;exact YC<|G5 ?_;let Z:=o.2;exact YC<|aT (a:=arrOf st) o.1 (by lia) λU g0=>?_;exact YC<|BA z (a:=arrOf st) u g0 o.1 (by lia) (by lia) λk M=>?_;dsimp only;exact aO (λx=>YJ<|h _ u C o qx) λq=>?_;simp[Zk]at q;exact YC<|aT (a:=arrOf st) o.1 (by lia) λT R=>?_;exact YC<|BA z (a:=arrOf st) u R o.1 (by lia) (by lia) λy L=>?_;dsimp only;exact aO (λx=>YJ<|h _ u C o qx) λK=>?_;simp[Zk]at K;let J:=o.1.cut (c+k)<|c+f;let I:=o.1.cut (c+f)<|c+f+y;have Y:((arrOf st).extract (c+k)<|c+f).size=f-k:=by simp;lia
 have X:((arrOf st).extract (c+f)<|c+f+y).size=y:=by simp;lia
 have fin:∀l b,AllG G l->Gd G N _->Gd G N (l.toList.zipIdx.foldl _<|arrOf b):=λl b O g=>Gd.put (c+k) _ (λp m=>AllG.mem.mp O _<|Array.mem_def.mpr<|List.fst_mem_of_mem_zipIdx m) g
 exact aO (λx=>YC<|CB z u J I (show 1<=((arrOf st).extract (c+k)<|c+f).size by lia) (show 1<=((arrOf st).extract (c+f)<|c+f+y).size by lia) λl b g S=>YC<|VA<|YC<|wpS_get ?_) λx=>YC<|Cj z u J I (show 1<=((arrOf st).extract (c+k)<|c+f).size by lia) (show 1<=((arrOf st).extract (c+f)<|c+f+y).size by lia) λl b g S=>YC<|VA<|YC<|wpS_get ?_
 all_goals
  have e:failedOf b=():=S.fail.trans C;have P:Gd G N (arrOf b):=by rw[S.arr];exact o
  exact YJ ?_;show Q (failedOf b).isNone _;rw[e];exact h _ (S.kind.trans u) e (fin l b g.1 P) S.pend
def Ch:Nat->List (Nat×Nat×Nat)->Nat->Prop
 |b,[],e=>b=e
 |b,(x,n,_)::r,e=>x=b/\1<=n/\Ch (b+n) r e
theorem Ch.len:∀{L}{b e},Ch b L e->b+L.length<=e
 |[],_,_,h=>Xj h
 |(x,n,p)::r,b,e,h=>by
  have:=Ch.len h.2.2;have:=h.2.1;rw[Yq];lia
theorem Ch.two:∀{L}{b e i},Ch b L e->i+1<L.length->∃s c f nb a,L[i]?=!(s,c,f)/\L[i+1]?=!(s+c,nb,a)/\1<=c/\1<=nb/\s+c+nb<=e/\Ch b ((L.set i (s,c+nb,f)).eraseIdx (i+1)) e
 |(x,n,p)::(y,m,q)::T,b,e,0,h,_=>by
  let#[rfl,j,rfl,g,l]:=h;exact#[x,n,p,m,q,qx,qx,j,g,YF (XF _ _) l.len,qx,by lia,by rwa[<-Nat.add_assoc]]
 |(x,n,p)::T,b,e,i+1,h,hi=>by
  let#[rfl,j,g]:=h;let#[s,c,f,nb,a,B,A,z,w,u,o]:=Ch.two (i:=i) g (by simpa using hi);exact#[s,c,f,nb,a,B,A,z,w,u,qx,j,o]
 |[_],_,_,0,_,h=>absurd h<|by simp
theorem Ch.snoc{x n p}:∀{L}{b},Ch b L x->1<=n->Ch b (L++[(x,n,p)]) (x+n)
 |[],_,h,hn=>by subst h;exact#[qx,hn,qx]
 |(_,_,_)::_,_,h,hn=>#[h.1,h.2.1,Ch.snoc h.2.2 hn]
theorem Ch.pow{f}(g:∀a b c,∃d,f (a,b,c)=(a,b,d)):∀{L}{b e} i,Ch b L e->Ch b (L.modify i f) e
 |[],_,_,i,h=>by rwa[List.modify_nil]
 |(x,n,p)::L,_,_,0,h=>by
  let#[d,q]:=g x n p;rwa[List.modify_zero_cons,q]
 |(x,n,p)::L,_,_,i+1,h=>by
  rw[List.modify_succ_cons];exact#[h.1,h.2.1,Ch.pow g i h.2.2]
structure SL (G:Keyed->Prop) (κ:SortKind) (N:Nat) (st:SortSt) (lo:Nat):Prop where
 kind:PyProof.Rows.kindOf st=κ
 fail:failedOf st=none
 arr:Gd G N (arrOf st)
 ch:Ch 0 (pendingOf st).toList lo
 le:lo<=N
theorem zI(q:qI prog w A E s κ G){Q}(S:SL G κ N st lo)(hi:i+1<(pendingOf st).size)(h:∀b,SL G κ N b lo->(pendingOf b).size+1=(pendingOf st).size->Q true b):wpS (model prog w) A E s (mergeAt' i) Q st:=by
 let#[u,z,x,y,o,c,e,m,l,j,g]:=S.ch.two (i:=i) (by simpa using hi);rw[Zz]at c e;exact C5 q S.kind S.fail S.arr m l (YF j S.le) c e λb k f a p=>h b #[k,f,a,?_,S.le] ?_
 .rw[p];simpa using g
 .rw[p,<-Zi,Array.toList_eraseIdxIfInBounds,List.length_eraseIdx,Zi,Vj,Yk hi];lia
def BQ{σ α b:Type}{c}[DecidablePred c]{m f:b->StateT σ Sem α}{Q}{st}{v0}(P:b->σ->Prop)(h:∀v a,P v a->wpS M A E s (f v) Q a)(h1:c v0->(∀v a,P v a->wpS M A E s (f v) Q a)->wpS M A E s (m v0) Q st)(h2:¬c v0->P v0 st):∀v,v0=v->wpS M A E s (if c v then m v else f v) Q st:=by
 rintro v rfl;by_cases q:c v0
 .rw[Yk q];exact h1 q h
 .rw[Ym q];exact h v0 st<|h2 q
def SL.of{s}(S:SL G κ N st lo)(T:SA G N st s):SL G κ N s lo:=#[T.kind.trans S.kind,T.fail.trans S.fail,T.arr,by rw[T.pend];exact S.ch,S.le]
theorem MG(q:qI prog w A E s κ G){it:Kd}(T:Gd G N it){g:Nat}{Q:Unit->SortSt->Prop}(h:∀e,Gd G N (arrOf e)->failedOf e=()->Q PUnit.unit e):wpS (model prog w) A E s sortRuns' Q (SortSt.mk' κ it #[[]] g ()):=by
 have S0:SL G κ N (SortSt.mk' κ it #[[]] g ()) 0:=#[qx,qx,T,qx,YQ _]
 have K:(arrOf (SortSt.mk' κ it #[[]] g ())).size=N:=T.2;generalize SortSt.mk' κ it #[[]] g ()=st0 at *;rw[sortRuns'_eq];exact YC (wpS_get ?_);rw[K];exact YC (XC (ZG (I:=λx (c:Option Unit×Nat) e=>c.1=()/\SL G κ N e c.2) (Q:=λ(c:Option Unit×Nat) e=>c.1=()/\∃lo,SL G κ N e lo) ?_ (λc e z=>#[z.1,_,z.2]) #[qx,S0]) ?_)
 .rintro x ⟨c0,lo⟩ o _ hx ⟨rfl,S⟩;dsimp only at S;exact aO (λt=>YJ #[qx,lo,S]) λhlo=>?_;exact YC (JW (st0:=o) q S.kind (by lia) (by lia) #[rfl,rfl,rfl,S.arr] λm Z m1 m2 U=>?_);dsimp only;generalize L:m=mv;revert mv L;exact BQ (P:=λv e=>SL G κ N e lo/\1<=v/\lo+v<=N) ?_ ?_ ?_
  .rintro v j ⟨u,Y,X⟩;exact YC (wpS_get ?_);have l:∀e,SL G κ N e lo->SL G κ N (setPending e ((pendingOf e).push (lo,v,0))) (lo+v):=λe B=>#[B.kind,B.fail,B.arr,by
    show Ch 0 ((pendingOf e).push (lo,v,0)).toList (lo+v);rw[Array.toList_push];exact B.ch.snoc Y,X]
   cases hb:(pendingOf j).back? with
   |none=>exact YC (VA (YJ #[qx,l j u]))
   |some b=>
    let#[O,n1,pw1]:=b;dsimp only;generalize power' N (2*O+n1) (2*O+n1+n1+v) N=R;exact YC (XC (ZG (I:=λy (c:Option Unit×Unit) e=>c=((),PUnit.unit)/\SL G κ N e lo) (Q:=λ(c:Option Unit×Unit) e=>c=((),PUnit.unit)/\SL G κ N e lo) ?_ (λc e z=>z) #[qx,u]) ?_)
    .rintro y c f _ _ ⟨rfl,i⟩;exact YC (wpS_get ?_);by_cases p:(pendingOf f).size > 1
     .rw[Yk p,Xt (by lia)];let#[f1,f2,J]:=(pendingOf f)[(pendingOf f).size-2]
      dsimp only;exact aO (λt=>YJ #[qx,i]) λt=>YC (zI q i (by lia) λC M t=>YJ #[qx,M])
     .rw[Ym p];exact YJ #[qx,i]
    .rintro c f ⟨rfl,i⟩;exact YC (VA (YC (VA (YJ #[qx,l _ #[i.kind,i.fail,i.arr,?_,i.le]]))));show Ch 0 ((pendingOf f).modify ((pendingOf f).size-1) λx=>match x with|(o,len,_)=>(o,len,R)).toList lo;rw[Array.toList_modify];exact i.ch.pow (λa b c=>#[R,qx]) _
  .intro hmr H;exact YC (wpS_lift (Vk #[qx,?_]));exact YC (NY (st0:=o) q S.kind (by lia) U λj u=>?_);exact H _ j #[S.of u,by lia,by lia]
  .exact λt=>#[S.of U,m1,by lia]
 .rintro⟨c0,lo⟩ o ⟨rfl,lo,S⟩;exact YC (XC (ZG (I:=λy (c:Option Unit×Unit) e=>c=((),PUnit.unit)/\SL G κ N e lo) (Q:=λ(c:Option Unit×Unit) e=>c=((),PUnit.unit)/\SL G κ N e lo) ?_ (λc e z=>z) #[qx,S]) ?_)
  .rintro y c f _ hy ⟨rfl,i⟩;exact YC (wpS_get ?_);exact aO (λt=>YJ #[qx,i]) λp=>?_;dsimp only;generalize hb:Option.any _ _=b;have hi:(if b then(pendingOf f).size-2-1 else(pendingOf f).size-2)+1<(pendingOf f).size:=by have p:¬(pendingOf f).size<=1:=p;split<;>lia
   exact YC (zI q i hi λC M t=>YJ #[qx,M])
  .rintro c f ⟨rfl,i⟩;exact YJ (h f i.arr i.fail)
end
section
variable{κ:SortKind}
def Ek(us:List Value)(out:Array Value):=out.size=us.length/\∀u∈out.toList,u∈us
def Hn(K:∀i j C,i<us.length->j<us.length->(∀b,C b s)->kas_ask prog w A κ us i j C s):Gq prog w A E κ us (Ek us) s:=by
 have ix:∀u∈us,∃i,i<us.length/\us.getD i Value.none=u:=λu h=>by
  let#[i,c,e]:=Zj h;exact#[i,c,by rw[YU,Yh c,e];rfl]
 have O:qI prog w A E s κ λp=>p.1∈us/\p.2∈us:=λx y S Q B o I h=>by
  let#[i,c,R]:=ix _ B.1;let#[j,J,P]:=ix _ o.1;rw[lt'_eq];exact YC<|wpS_get ?_;rw[I];let q:=K i j (λx l=>l=s) c J λx=>rfl
  delta kas_ask at q;rw[R,P]at q;exact YC<|wpS_lift<|wpAny_attempt<|ZE q (λb l L=>?_) λx x M=>M.elim;exact#[L,YJ<|h b]
 exact ZE (MG (N:=us.length) O #[λi h=>?_,by simp] (Q:=λx a=>failedOf a=()/\Ek us ((arrOf a).map (·.2))) λa g f=>#[f,by rw[Array.size_map];exact g.2,λu m=>?_]) (λr l z=>z) λx x z=>z
 .have c:i<us.length:=by simpa using h
  simp
 .rw[Array.toList_map]at m;let#[p,H,rfl]:=Yg.mp m;let#[i,c,e]:=Zj H;have:=(g.1 i<|by simpa using c).2;rwa[<-e,Array.getElem_toList]
end
theorem yN:∀out:List Value,(∀u∈out,u∈us)->∃l:List Nat,(∀i∈l,i<us.length)/\out=l.map λi=>us.getD i Value.none
 |[],_=>#[[],nofun,qx]
 |u::out,h=>by
  let#[l,c,rfl]:=yN out λu m=>h u<|Yb _ m
  let#[i,a,e]:=Zj<|h u Ye;exact#[i::l,λx b=>(Yt.mp b).elim (λz=>by rwa[z])<|c x,by rw[YI,YU,Yh a,e];rfl]
theorem Fj(I:Inv X pz σ H s)(r:Reps X.K H vs ds)(g:Vals vs us)(ok:mZ ds)(hz:ds.length<=16777216)(R:X.A.units+64<cLine)(N:∀a (p:List Nat) s',H a=()->(∀i∈p,i<ds.length)->p.length=ds.length->Inv X pz σ (upd H a<|.lst<|p.map λi=>vs.getD i .non) s'->Q (.ref a) s'):nR X.prog X.w X.A Q us s:=by
 let P:=r.length;let O:=g.length;exact#[by lia,qz ds,Ek us,λo h=>h.1,λv=>#[by simp,λu h=>h],λB J k Q E q=>zL (I.kept k) r g ok B q,λB J k E=>Hn λi j C c M L=>?_,λo z a J e k b f=>?_]
 .have m:X.A.in1.in1.units+60<cLine:=by show X.A.units+1+1+60<cLine;lia
  exact D2 (I.kept k) r g ok m c M<|L _
 .let#[l,y,x]:=yN o.toList z.2;have lo:l.length=us.length:=by rw[<-z.1,<-Zi,x,Yc]
  exact N a l _ (I.hok.fresh b) (λi c=>by have:=y i c;lia) (by lia)<|I.laid k b #[by rw[Yc,YV];lia,_,e,Vals.perm g l λi c=>by have:=y i c;lia,by rwa[<-x]]
def uv(o:X.A.units+64<cLine):CallR X (.builtin "sorted") (λxs H Q=>∃a vs ds,xs=[.ref a]/\SqL X.K H a vs/\Reps X.K H vs ds/\mZ ds/\ds.length<=16777216/\∀l (p:List Nat),H l=()->(∀i∈p,i<ds.length)->p.length=ds.length->Q (.ref l) (upd H l (.lst (p.map λi=>vs.getD i .non)))):=by intro N s J H xs L Q I r h;let#[a,vs,ds,rfl,x,w,ok,m,q]:=h;let#[u,rfl,f]:=fE r;cases f;let#[j,c,g,y]:=I.list x;exact jC<|collect_list g.isList (Fj (I.kept λb u e=>je e) w c ok m o λl p M C B z E=>#[.ref l,_,E,qx,q l p C B z])<|by rwa[<-c.length]
def tSA(K:Kq)(fa:Dd):TI:=λg H R=>∃P F c b,fa c=!.lst b/\b≠[]/\mZ b/\b.length<=16777216/\DInv K P F H c g/\∀J a f e,Evo P F H f e->uD K P J f a->a.length=b.length->(∀d∈a,d∈b)->R J e
def ym(y:X.A.units+64<cLine)(B:Gl X "sorted")(z:X.mg "sorted"=())(J:PDE X e fa)(hs:starEach [e] X.env=[(false,eval e X.env)]:=by rfl)(b:(backTo pos (starEach [] X.env)).any (·.1)=false:=by rfl):PI X tg (.Call (.Name "sorted" p) [e] [] pos) (tSA X.K fa):=
 PI.imp (tm<|dB (uv y) B z ji (aI J bf hs) (by decide) (by decide) hs b) λM H R h=>by
  let#[P,F,s,q,C,f,ok,w,I,k]:=h;exact#[P,F,s,_,C,I,λx L N a u=>?_];cases u with
  |@lst _ vs _ h1 h2=>
   exact#[_,_,q,qx,a.hp.sub.seq h1,h2.same a.hp.sub,ok,w,λl p g b1 b2=>?_];let j:=(I.evo a).toDHp;let m:=a.trans<|Evo.laid j (o:=.lst<|p.map λi=>vs.getD i .non) g;have c:SqL X.K (upd L l _) l (p.map λi=>vs.getD i .non):=.inl<|.inl aC;exact#[l,qx,#[_,m.hp.sub.seq c],k _ _ _ _ m (ms c<|(h2.perm f p b1).same<|jw (j.free g).1) (by rw[Yc,b2]) λd E=>by
    let#[i,_,rfl]:=Yg.mp E;exact nV f i]
open Classical in
def KY(fa:Dd):DF->Option (List D):=λa=>(fa a).bind λd=>match d with
 |.lst ds=>if ds≠[]/\mZ ds/\ds.length<=16777216/\∀d∈ds,ju d=true then !List.replicate ds.length .any else ()
 |_=>()
theorem zJ{f:Dd}:∀ds:List D,(∀d∈ds,ju d)->∃out,bO (setV 0) bi (asO (asL (fq (am 0)))) [()] ds=!out/\out.length=ds.length/\∀d∈out,∃xs,d=.lst xs
 |[],_=>#[[],qx,qx,nofun]
 |d::ds,h=>by
  let#[out,c,b,a]:=zJ (f:=f) ds λd m=>h d<|Yb _ m
  cases d with
  |tup xs=>
   exact#[.lst xs::out,?_,by rw[Yq,Yq,b],λd m=>(Yt.mp m).elim (λe=>#[xs,e])<|a d];show(bO _ _ _ _ ds).map _=_;rw[c];rfl
  |_=>cases h _ Ye
def Reps.toAny(h:Reps K F vs ds):(∀d∈ds,∃xs,d=.lst xs)->Reps K F vs (List.replicate ds.length .any):=
 Reps.ind (M:=λvs ds=>(∀d∈ds,∃xs,d=.lst xs)->Reps K F vs (List.replicate ds.length .any)) (λz=>.nil) (λr z ih h=>by
  let#[xs,rfl]:=h _ Ye;cases r with
  |lst a b=>exact .cons .any<|ih λd m=>h d<|Yb _ m) h
theorem Cr{q}N(T:X.A.units+64<cLine)(Z:Gl X "sorted")(Y:X.mg "sorted"=())(ha:PDE X e fa)
  (hd:∀{s H fp pz},PDG (blk X scope N s H fp pz) (.Name t q) [0]<|setV 0) (he:∀{s H fp pz},PDE (blk X scope N s H fp pz) elt<|asO<|asL<|fq<|am 0)
  (hcalm:X.calm:=by rfl) (hb:EE X.env.scope scope:=by kernel_rfl) (cp:D3 X.N scope N 1 []:=by kernel_rfl) (hnames:decide (∀y∈scope.names,y.2=.local->scope.names.lookup y.1=!.local):=by kernel_rfl)
  (i:∀x,foldedSetIterable (.Call (.Name "sorted" p) [e] [] pos) X.env x=pure x:=by intro _;rfl) (hs:starEach [e] X.env=[(false,eval e X.env)]:=by rfl) (j:(backTo pos<|starEach [] X.env).any (·.1)=false:=by rfl) :
  PDO X (.ListComp elt [#[.Name t q,.Call (.Name "sorted" p) [e] [] pos,[],0]] scope pos') (asL<|KY fa):=
 (zy (g:=tG X.K [0]<|setV 0) (tc:=tB' X.K bi) (te:=tD X.K _) hcalm (zN _ qx hb) (y9 _ qx cp) (ym T Z Y ha hs j) (λ_ _ _ _=>hd) (λ_ _ _ _=>cu) (λ_ _ _ _=>he) (Yz hnames) i).imp λσ H Q=>un7 λP F B ob hf I k=>by
  let#[as,h1,rfl]:=YK.mp hf;let#[d,h2,h]:=Yx.mp h1;cases d with
  |lst ds=>
   dsimp only at h;split at h
   .rename_i c;cases h;let#[c1,c2,c3,c4]:=c;exact#[P,F,B,ds,h2,c1,c2,c3,I,λJ l F' H' ev ok M L=>?_];let#[o,S,R,O]:=zJ (f:=fa) l λd hd=>c4 d<|L d hd
    exact zw (by simp) I (by lia) S (λa z H2 e2 U=>k a z H2 e2 ?_) ev ok;let#[E,u,C,m]:=U;cases u with
    |lst vs=>
     let w:=Reps.toAny (show Reps X.K z vs o from m) O;rw[R,M]at w;exact#[E,_,C,w]
    |_=>exact m.elim
   .cases h
  |_=>cases h
end L2
namespace L2
open PySem PySem.Spec PyProof.Rows
def x2(f:Dy)(fa fb:DX):DX:=λc=>(fa c).bind λa=>(fb a.2).bind λb=>(f a.1 b.1).map (·,b.2)
abbrev kM(vs:List (Str×V)):List (Key×V):=vs.map λp=>(Sum.inr p.1,p.2)
def FS x v r:kM ((x,v)::r)=(Sum.inr x,v)::kM r:=rfl
def Bh vs n:dY (kM vs) (Sum.inr n)=vs.lookup n:=by
 induction vs with
 |nil=>rfl
 |cons p r ih=>
  let#[x,v]:=p;rw[aY];delta dY at ih ⊢;rw[FS,ZT];by_cases e:n=x
  .rw[Yk e,show decide _ from by rw[e];simp];rfl
  .rwa[Ym e,show decide _=false from by rw[DS,YD λz=>e z.symm]]
section
variable{n:Str}
open A in
def prD{j kp}i(K:X.A.units+64<cLine)(h:PE X o (dM i))(hs:Lr (.Constant (.str n) j kp):=by exact λ_ _=>rfl):PDR X (.Subscript o (.Constant (.str n) j kp) pos) (M5 () i n):=
 (HF (by lia) h yg hs).imp λE H Q=>un7 λP F J d c I k=>by
  let#[fs,q,c]:=Yx.mp c;let#[a,L,B,z,C,_,y]:=I.obj q;have g:∀w,B.lookup n=!w->DGet H a _ _:=λw l=>by have:=DGet.k (k:=Sum.inr n) C;rwa[Bh,l]at this
  split at c
  .rename_i x m;cases c;let#[w,p,b,rfl,s,u,f,e]:=(e8 y).2 _ m;exact#[_,z,a,_,qx,g _ p,k _ F H (Evo.refl I.toDHp)<|.inr #[b,.lst x,u,qx,s,f,e,qx,qx]]
  .rename_i x m;cases c;let#[w,p,b,rfl,s,u,f,e]:=(e8 y).2 _ m;exact#[_,z,a,_,qx,g _ p,k _ F H (Evo.refl I.toDHp)<|.inr #[b,.dK x,u,qx,s,f,e,qx,qx]]
  .cases c
end
abbrev DB:=DF->Option (Bool×DF)
open PySem.MeetsSeq PySem.SeqAt
open PySem.AutoSeq1 (wpAny_loadPart')
end L2
namespace L2
open PySem PySem.Spec PyProof.Rows
open PySem.Calls PySem.W
def AL{k:Nat}{cl:Nat->Addr}{rz:List DV->Option Nat}{g:Dv}(hX:∀e s,X.xe e s->False)(F:FnOk X.prog X.w X.K X.mg X.base (CXc X.prog X.w cl) k f fd ps (v8 X.K cl rz))(hr:Room k X.A)(hg:Gl X x)(hm:X.mg x=!.ref f)(hk:PySem.W.keepIn X.K (.ref f))(hb:Binds X.K fd ps [])(ha:i3 X (e::es) g)(hd:nDb x:=by decide)(he:starEach (e::es) X.env=(false,eval e X.env)::starEach es X.env:=by rfl)(T:(backTo pos (starEach es X.env)).any (·.1)=false:=by rfl)(hs:swapsWith (.Call (.Name x p) (e::es) [] pos) () p2.line X.env=pure false:=by rfl):Md X [.Expr (.Call (.Name x p) (e::es) [] pos) p2] cl (λρ=>(g ρ).bind rz):=by
 intro pz s σ H P Fr ρ S Q E I h ID go;cases q:g ρ with
 |none=>simp only[q]at h;cases h
 |some O=>
  simp only[q,Ya]at h;let Z:=ha pos pz s σ H (λl i=>∃b,Evo P Fr H b i/\ArgsS X.K ρ σ b O l) I #[P,Fr,ρ,O,q,ID,λl b i e1 R=>#[b,e1,R]];exact wpAny_execs_cons (wpAny_Expr_any (ZS (gB I hg hm ?_ hd)) I.quiet hs);exact Vl (h₀:=X.base) I.ok.mod.kin hk (ZE Z (λL s1 z=>?_) λe s z=>(hX e s z).elim) he T;let#[l,i,M,rv,b,C,R]:=z;exact#[M.kIn,?_];let J:=ID.evo C;have m:v8 X.K cl rz l i (λv v=>False) (λc v N=>c=.ref (cl S)/\∃j,Same b j/\DHp (gd b i) j N):=#[gd b i,b,O,S,h,fF J.sub,R.dvs J,λj N e2 U=>#[qx,j,e2,U]]
  have hl:(L++[]).length=ps.length:=by rw[YZ,<-rv.length];exact F.len _ _ _ _ m
  let y:=hb s1 L M.kIn hl;rw[YZ]at y;exact Vh (Xo (F.run X.A X.stack s1 i #[L,[]] L l _ _ hr M.env0 y rv m) λrr s' o=>?_);cases rr with
  |ok fl=>
   cases fl with
   |ret u=>let#[_,_,_,_,_,_,_,z]:=o;exact z.elim
   |next=>exact False.elim o
   |brk=>exact False.elim o
   |cont=>exact False.elim o
  |error ev=>
   let#[k2,a,a0,B,N,rfl,t,Y,j,z1,z2]:=o;have ek:cl k2=cl S:=Value.ref.inj Y;rw[ek]at t;exact go a a0 B _ _ _ j N s' M C t z1 z2
def Thr.new{P:Program}{a0:Value}(t:Thr P w C outer H s a a0 B H' s')(f:∀b∈frs outer,H b=()):s.heap.get? a=():=by
 have j:B.get? a=():=t.fly.2.1;cases e:s.heap.get? a with
 |none=>rfl
 |some o=>
  by_cases c:a∈frs outer
  .let#[h,m,l]:=t.slot a o e (f a c) c;let#[p,i,g,_,d1,_]:=t.fly.first;rw[l]at g;cases g;exact absurd d1 (h i)
  .let#[q,h]:=t.there a o e c;rw[j]at h;cases h
def Je{P:Program}{o:Obj}(e:h.get? a=!o)(b:o.cls=.ref C):ObjOk P w H h a (.ext (ExA a C)):=
 #[#[o,e,b],#[o,e],λz z q k=>by let#[o,e,b]:=q;exact#[o,k o e,b]]
def Inv.lay{o:HO}(I:Inv X pz σ H s)(h:H a=())(h0:X.s₀.heap.get? a=()\/a∈X.ex)(l:a≠X.env.locals)(m:∀v,¬s.heap.IsCell a v)(j:∀p∈X.pn++pz,p.1≠a)(new:ObjOk X.prog X.w (upd H a o) s.heap a o):Inv X pz σ (upd H a o) s where
 ok:=I.ok
 os:=I.os
 bare:=I.bare
 base:=#[I.base.keep,I.base.slot,λb u q n f=>by
   have:b≠a:=λz=>by
    subst z;rcases h0 with h0|h0
    .rw[h0]at q;cases q
    .exact f h0
   rw[az this];exact I.base.free b u q n f,I.base.there,λb u s q=>by
   have:=I.base.stl b u s q;rw[az (aX this h)];exact this]
 loc:=I.loc
 cell:=I.cell
 free:=by rw[az (Xq l)];exact I.free
 freeC:=λx c e=>by
  have:c≠a:=λz=>by
   subst z;let#[v,i]:=I.cell x c e;exact m v i
  rw[az this];exact I.freeC x c e
 pin:=λp q=>by
  let#[B,A,y]:=I.pin p q;exact#[B,by rw[az (j p q)];exact A,y]
 hok:=λb u e=>by
  by_cases g:b=a
  .subst g;rw[aC]at e;cases e;exact new
  .rw[az g]at e;exact(I.hok b u e).stay (λt t t q=>q) (λc q=>by rw[az (aX q h)];exact q) λc u t q=>by rw[az (aX q h)];exact q
 len:=I.len
def LN(ie ic:Nat)(a:Addr):TS:=λD b H=>b[ie]?=!!.ref a/\D.nx (b.set ic (!.ref a)) H
def GM{ic:Nat}{c:Str}{l m:Pos}(hN:X.N.Nodup)(f:X.N[ie]?=!er)(g:X.N[ic]?=!c)(e:X.env.scope.names.lookup er=!.local)(b:X.env.scope.names.lookup c=!.local)(i:nDb er:=by decide)(j:nDc er:=by decide)(hs:swapsWith (.Name er m) (!.Name c l) apos.line X.env=pure false:=by rfl):PSs (X.caught a ob) [.Assign [.Name c l] (.Name er m) apos] (LN ie ic a):=
 PSs.imp (tQ (uL (X:=X.caught a ob) hN g (.inl b) (yd (X:=X.caught a ob) f (.inl e) i j) hs (.inr b))) λD o H h=>#[_,h.1,h.2]
def B9(rz:DF->Option Nat)(cl:Nat->Addr)(ie ic:Nat):DF->Option RES:=λa=>match rz a with
 |some k=>(match a[ie]? with|some ()=>!.nx (a.set ic (!.v (.exn (cl k))))|_=>())
 |none=>()
open A in
def GP{W:Addr}{cl:Nat->Addr}{wn:Str}{ic:Nat}{np hpos:Pos}{body:List Stmt}{b0:Stmt}{f:List Stmt}(hR:Md X body cl rz)(y:X.stack=X.env::X.outer)(hfr:X.env.frame=!X.env.locals)(hgw:Gl X wn)(hmw:X.mg wn=!.ref W)(hxm:∀k,exmOne X.K (.ref (cl k)) (.ref W)=!true)(hN:X.N.Nodup)(S:X.N[ie]?=!er)(Q:X.env.scope.names.lookup er=!.local)(hne:ie≠ic)(hsu:∀a ob,PSs (X.caught a ob) (b0::f) (LN ie ic a))(hdw:nDb wn:=by decide):PD1 X (.Try body [.ExceptHandler (!.Name wn np) (!er) (b0::f) hpos] [] [] tpos) (B9 rz cl ie ic):=by
 intro U s T H D I h;let#[P,Fr,ρ,r,Z,ID,kk]:=h;delta B9 at Z;split at Z
 .rename_i O hrz;split at Z
  .rename_i hne0;cases Z;exact wpAny_Try_except (hR U s T H P Fr ρ O _ _ I hrz ID λa a0 B F1 H1 s1 F2 q s' I1 ev1 t E hp2=>?_);let ID1:=ID.evo ev1;have fly:Heap.FlyingW B (X.env::X.outer) a (.ref (cl O)) a0 s'.heap:=y ▸ t.fly;have frf:∀b∈frs X.stack,H1 b=():=I1.stkFree;have L:s1.heap.get? a=():=t.new frf;have inv:∀(A:Heap),B.StaysIn A->s'.heap.UpToSlots A->Inv X U T q {s' with heap:=A}:=λA hb5 x=>
    I1.call' (s':={s' with heap:=A}) t.os (t.un frf hb5 x) (t.hok.kept hb5) t.bare (λ_ z=>nomatch z)
   have nb:q a=():=t.hok.miss fly.2.1;exact wpAny_looks_onW (by rw[I.ok.frames,y]) hfr fly λh4 held sm4=>?_;exact wpAny_landsW held λA l x=>?_;let J5:=inv A l.1 (sm4.trans x);have mk:∀(h:Heap) (ob:Obj),Inv X U T q {s' with heap:=h}->h.get? a=!ob->(∃vs,ob.data=.fields vs)->Inv (X.caught a ob) U T q {s' with heap:=h}:=λh ob J e1 E=>by
    let#[vs',E]:=E;exact J.caught e1 nb (λz=>?_) (λz=>?_) λv z=>by rw[E]at z;cases z
    .let#[m,#[o,es',ep',Y,hd',_],_]:=J.loc;have g:h.get? X.env.locals=!o:=Y;rw[<-z,e1]at g;cases g;rw[E]at hd';cases hd'
    .let#[_,o,Y,nf]:=J.funs.mem z;have g:h.get? a=!o:=Y;rw[e1]at g;cases g;exact nf _ E
   let#[oe5,vs5,g5,c5,d5,_]:=l.first;let K5:=mk A oe5 J5 g5 #[_,d5];exact wpAny_handleBy_cons (codeAny_handlers_test (gB K5 hgw hmw ?_ hdw)) (by intro z;cases z);exact(exm_one (M:=model X.prog X.w) (e:=a) K5.kIn (ExAt.type #[oe5,g5,c5]) (hxm O)).here ?_;exact codeAny_handlers_suite_as (lands_againW l λh6 C sm6=>?_);let#[c,vs6,g6,c6,d6,_]:=C.first;let K6:=mk h6 c (inv h6 C.1 ((sm4.trans x).trans sm6)) g6 #[_,d6];exact lK (X:=X.caught a c) (v:=.ref a) K6 hN S (.inl Q) qx (λs7 K7=>?_) (.inr Q);let su:=hsu a c U s7 (T.set ie (!.ref a)) q {nx:=λσ' H'=>σ'=(T.set ie (!.ref a)).set ic (!.ref a)/\H'=q,rt:=λ_ _=>False} K7
    #[ZN (by rw[I.len];exact(Yo.mp S).1),qx,qx]
   exact ZE su (λfl s8 z=>?_) λ_ _ z=>z.elim;cases fl with
   |ret u=>let#[_,_,_,_,_,z]:=z;exact z.elim
   |brk=>let#[_,_,_,z]:=z;exact z.elim
   |cont=>let#[_,_,_,z]:=z;exact z.elim
   |next=>
    let#[σ',H',K8,rfl,eH]:=z;rw[eH]at K8;exact G3 (X:=X.caught a c) K8 hN S Q λs9 K9=>?_;have e9:s9.heap.get? a=!c:=K9.atEx;let p9:=K9.pin (a,c) (Ye ..);let J9:=K9.uncaught I.ok;have J10:Inv X U _ (upd q a (.ext (ExA a (cl O)))) s9:=J9.lay nb (by
     by_cases hx:a∈X.ex
     .exact .inr hx
     .exact .inl ?_;cases e0:X.s₀.heap.get? a with
      |none=>rfl
      |some o=>
       let#[o',e1]:=I1.base.there a o e0 hx;rw[L]at e1;cases e1) p9.2.2.1 (λv #[o,Y,hd]=>by
      rw[e9]at Y;cases Y;exact p9.2.2.2.2 v hd) (λp hp z=>by
      have:=(I1.pin p hp).1;rw[z,L]at this;cases this) (Je e9 c6)
    exact#[_,_,J10,?_];have E2:Evo P F1 H1 F2 q:=ID1.toDHp.gd E hp2;let ID2:=ID1.evo E2;have EL:Evo P F2 q (upd F2 a (.ext (ExA a (cl O)))) (upd q a (.ext (ExA a (cl O)))):=Evo.laid ID2.toDHp nb;let ID3:=ID2.evo EL;exact kk _ _ _ (ev1.ext.trans (E.trans EL.ext)) ?_;let ID4:=ID3.setV ic (v:=.ref a) (d:=.exn (cl O)) (.exn aC);exact ID4.other (i:=ie) (by rw[YY (Xq hne)];exact hne0) (by simp) λj hj=>?_;rw[YY (Xq hj)];by_cases R:j=ic
    .subst R;simp only[Uu,Zp,VJ]
    .rw[YY (Xq R),YY (Xq hj),YY (Xq R)]
  .cases Z
 .cases Z
end L2
namespace L2
open PySem PySem.Spec PyProof.Rows
open PySem.Calls PySem.W
def isE(f:Addr->Option Bool):D->Option D
 |.exn C=>(f C).map .bl
 |_=>()
def fX(a b:Addr)(u v:Bool):=λC=>if C=a then !u else if C=b then !v else ()
def DO{b:Addr}{u v:Bool}{p:Addr->Bool->Prop}(h0:p a u)(h1:p b v):∀C w,fX a b u v C=!w->p C w:=λC w h=>by
 delta fX at h;split at h
 .rename_i e;cases h;rw[e];exact h0
 .split at h
  .rename_i e;cases h;rw[e];exact h1
  .cases h
section
variable{a:Expr}{f:Addr->Option Bool}
def vI{c:V}{g:Value}(o:∀C b,f C=!b->ExC X.K C/\kitOne X.K (.ref C) g=!b)(a:∀u,RelV c u->u=g):CallR X (.builtin "isinstance") (λxs H Q=>∃l C b,xs=[.ref l,c]/\H l=!.ext (ExA l C)/\f C=!b/\Q (.bl b) H):=by intro E s w H xs A Q I r h;let#[l,C,b,rfl,m,p,q]:=h;let#[u,y,rfl,j,i]:=zZ r;cases(show u=Value.ref l from j);cases a _ i;let#[x,e]:=o C b p;exact kia_one (wo x) I.kIn (show ObjOk _ _ H s.heap l (.ext (ExA l C))from I.hok l _ m).1 e (λz=>nomatch z) λB=>#[.bl b,H,I.tok _,qx,q]
def A6{cvs:List Value}(J:∀C b,f C=!b->ExC X.K C/\kitAny X.K (.ref C) cvs=!b)(c:∀us,Vals cs us->us=cvs):CallR X (.builtin "isinstance") (λxs H Q=>∃l a C b,xs=[.ref l,.ref a]/\H l=!.ext (ExA l C)/\H a=!.tup cs/\f C=!b/\Q (.bl b) H):=by
 intro S s P H xs us Q I r h;let#[l,a,C,b,rfl,E,B,L,q]:=h;let#[u,w,rfl,j,i]:=zZ r;cases(show u=Value.ref l from j);cases(show w=Value.ref a from i);let#[_,A,g,#[m,O,N,n,M],_]:=(show ObjOk _ _ H s.heap a (.tup cs)from I.hok a _ B)
 cases c _ g;rcases m with⟨y,T,o,p⟩
 cases(show y=_ from N);cases(show o=_ from M);let#[x,e]:=J C b L;exact kia_tup (wo x) I.kIn (show ObjOk _ _ H s.heap l (.ext (ExA l C))from I.hok l _ E).1 O e (λz=>nomatch z) λR=>#[.bl b,H,I.tok _,qx,q]
def xH{d:D}(h:isE f dx=!d):∃C b,dx=.exn C/\f C=!b/\d=.bl b:=by
 cases dx with
 |exn C=>let#[b,q,rfl]:=dn h;exact#[C,b,qx,q,qx]
 |_=>cases h
def KZ{g:Addr}(e:∀C b,f C=!b->ExC X.K C/\kitOne X.K (.ref C) (.ref g)=!b)(u:Gl X "isinstance")(s:X.mg "isinstance"=())(l:Gl X x)(j:X.mg x=!.ref g)(z:PDN X a fa)(hd:nDb x:=by decide)(hs:starEach [a,.Name x p1] X.env=[(false,eval a X.env),(false,eval (.Name x p1) X.env)]:=by rfl)(h:starEach [.Name x p1] X.env=[(false,eval (.Name x p1) X.env)]:=by rfl)(i:(backTo pos (starEach [.Name x p1] X.env)).any (·.1)=false:=by rfl):PDE X (.Call (.Name "isinstance" p) [a,.Name x p1] [] pos) (d1 (isE f) fa):=
 (dB (vI (c:=.ref g) e λy r=>r) u s dG (aI z (aI (tY (v:=.ref g) l j qx hd) bf h) (by rw[hs,h])) (by decide) (by decide) (by rw[hs,h]) i).imp λJ H Q=>un7 λP F m d e I k=>by
  let#[L,q,e]:=Yx.mp e;let#[C,b,rfl,w,rfl]:=xH e;exact#[P,F,m,_,q,I,λy E B A o=>?_];cases o with
  |exn h1=>exact#[_,C,b,qx,h1,w,k _ E B A .bl]
def FL(e:∀C b,f C=!b->ExC X.K C/\kitOne X.K (.ref C) (.type "ValueError")=!b)(u:Gl X "isinstance")(s:X.mg "isinstance"=())(l:Gl X "ValueError")(j:X.mg "ValueError"=())(x:PDN X a fa)(hs:starEach [a,.Name "ValueError" p1] X.env=[(false,eval a X.env),(false,eval (.Name "ValueError" p1) X.env)]:=by rfl)(h:starEach [.Name "ValueError" p1] X.env=[(false,eval (.Name "ValueError" p1) X.env)]:=by rfl)(i:(backTo pos (starEach [.Name "ValueError" p1] X.env)).any (·.1)=false:=by rfl)(g:bootBuiltins "ValueError"=!(.type "ValueError"):=by decide+kernel):PDE X (.Call (.Name "isinstance" p) [a,.Name "ValueError" p1] [] pos) (d1 (isE f) fa):=
 (dB (vI (c:=.ty "ValueError") e λy r=>r) u s dG (aI x (aI (zz (v:=.ty "ValueError") l j g qx (by decide) (by decide)) bf h) (by rw[hs,h])) (by decide) (by decide) (by rw[hs,h]) i).imp λE H Q=>un7 λP F m d e I k=>by
  let#[J,q,e]:=Yx.mp e;let#[C,b,rfl,w,rfl]:=xH e;exact#[P,F,m,_,q,I,λy B A z o=>?_];cases o with
  |exn h1=>exact#[_,C,b,qx,h1,w,k _ B A z .bl]
def HS{cvs:List Value}{ts:List Expr}{x1}(e:∀C b,f C=!b->ExC X.K C/\kitAny X.K (.ref C) cvs=!b)(j:∀us,Vals cs us->us=cvs)(m:cs.length<=sizeLine)(g:PA X ts (λσ H Q=>Q cs H))(A:Gl X "isinstance")(z:X.mg "isinstance"=())(E:PDN X a fa)(hs:starEach [a,.Tuple ts x1 p1] X.env=[(false,eval a X.env),(false,eval (.Tuple ts x1 p1) X.env)]:=by rfl)(h:starEach [.Tuple ts x1 p1] X.env=[(false,eval (.Tuple ts x1 p1) X.env)]:=by rfl)(i:(backTo pos (starEach [.Tuple ts x1 p1] X.env)).any (·.1)=false:=by rfl):PDE X (.Call (.Name "isinstance" p) [a,.Tuple ts x1 p1] [] pos) (d1 (isE f) fa):=
 (dB (A6 (cs:=cs) e j) A z dG (aI E (aI (D_ (x1:=x1) (pos:=p1) g) bf h) (by rw[hs,h])) (by decide) (by decide) (by rw[hs,h]) i).imp λσ H Q=>un7 λP F u d e I k=>by
  let#[M,q,e]:=Yx.mp e;let#[C,b,rfl,B,rfl]:=xH e;exact#[P,F,u,_,q,I,λy L J s x=>#[m,λw c=>?_]];cases x with
  |@exn l _ h1=>
   have o:J l=!.ext (ExA l C):=h1;exact#[l,w,C,b,qx,by rw[az (aX o c)];exact o,aC,B,k _ L _ (s.trans (Evo.side s.hp c)) .bl]
end
end L2
namespace L2
open PySem PySem.Spec PySem.W PyProof.Rows
def GU{P:Program}{cl:Nat->Addr}{E:XK}{k:Nat}{rz:List DV->Option Nat}{g:Dv}(F:FnOk P w K mg base (CXc P w cl) k f fd ps (v8 K cl rz))(B:Room k (b7 (CXc P w cl) P w K mg base N qual scope f0 cd A outer s H E).A)(L:Gl (b7 (CXc P w cl) P w K mg base N qual scope f0 cd A outer s H E) x)(C:mg x=!.ref f)(J:PySem.W.keepIn K (.ref f))(O:Binds K fd ps [])(Q:i3 (b7 (CXc P w cl) P w K mg base N qual scope f0 cd A outer s H E) (e::es) g)(hd:nDb x:=by decide)(he:starEach (e::es) (b7 (CXc P w cl) P w K mg base N qual scope f0 cd A outer s H E).env=(false,eval e (b7 (CXc P w cl) P w K mg base N qual scope f0 cd A outer s H E).env)::starEach es (b7 (CXc P w cl) P w K mg base N qual scope f0 cd A outer s H E).env:=by rfl)(h:(backTo pos (starEach es (b7 (CXc P w cl) P w K mg base N qual scope f0 cd A outer s H E).env)).any (·.1)=false:=by rfl):PX1 (b7 (CXc P w cl) P w K mg base N qual scope f0 cd A outer s H E) cl E (.Return (!.Call (.Name x p) (e::es) [] pos) p2) (IG g rz):=
 PS.imp (pJ (kS F B L C J O .nil M4 Q hd he h)) λD Z H'=>un7 λS Y m r M I y=>by
  let#[c,q,R]:=Yx.mp M;let#[z,u,rfl]:=YK.mp R;exact#[S,Y,m,c,q,I,λvs l U j o=>?_];let b:=I.evo j;exact#[gd l U,l,c,z,u,fF b.sub,by rw[YZ];exact o.dvs b,λX T i a=>y X T (j.ext.trans i) (b.toDHp.gd i a).hp]
end L2
namespace L2
open PySem PySem.Spec PyProof.Rows
theorem rM:∀(as:List Addr) (us:List Value),Vals (as.map V.ref) us->us=as.map Value.ref
 |[],_,.nil=>rfl
 |_::as,_,.cons r h=>by
  cases(show _=Value.ref _ from r);exact YW _ (rM as _ h)
def Nl:PA X [] (λz H Q=>Q [] H):=bf
def CF(c:Gl X x)(b:X.mg x=!.ref a)(h:PA X es (λz H Q=>Q cs H))(hd:nDb x:=by decide)(hs:starEach (.Name x p::es) X.env=(false,eval (.Name x p) X.env)::starEach es X.env:=by rfl):PA X (.Name x p::es) (λz H Q=>Q (.ref a::cs) H):=aI (tY (v:=.ref a) c b qx hd) h hs
end L2
namespace My
abbrev Qj:=List Int
open PySem PySem.Spec PyProof.Rows L2
noncomputable section
def Mg(i:Nat):=Challenge.pw_tieword_k19_turnings_counted.main.body.getD i (.Pass #[0,0,0,0])
def top(i:Nat):=if i<1000 then Mg i else HH (Mg (i/1000)) (i%1000)
def rT:List Rw:=[#[2,25,0,196,199,0],#[3,30,0,202,205,0],#[4,35,0,208,211,0],#[5,42,0,214,219,1],#[6,49,0,222,229,1],#[7,56,0,232,237,1],#[8,63,0,240,244,1],#[9,68,0,247,250,0],#[10,75,0,253,259,1],#[11,80,0,262,265,0],#[15,91,1,278,281,0],#[16,96,1,284,287,0],#[17,101,1,290,293,0],#[18,106,1,296,299,0],#[19000,120,1,314,319,1],#[19001,127,1,322,329,1],#[19002,134,1,332,339,1],#[19003,139,1,342,345,0],#[19004,146,1,348,353,1],#[19005,153,1,356,366,1],#[20,167,1,384,389,1],#[33,257,2,516,519,0],#[34,264,2,522,526,1],#[35,271,2,529,535,1],#[36,278,2,538,545,1],#[37,285,2,548,552,1],#[38,292,2,555,561,1],#[39,299,2,564,573,1],#[40000,311,2,588,591,0],#[40001,318,2,594,598,1],#[40002,325,2,601,607,1],#[43,346,3,633,637,1],#[44,351,3,640,643,0],#[46,364,3,657,660,0],#[47,371,3,663,672,1],#[49,378,4,677,681,1],#[50,385,4,684,688,1],#[51,392,4,691,695,1],#[52,399,4,698,702,1],#[54,406,5,707,712,1],#[55,413,5,715,721,1],#[56,418,5,724,727,0],#[57,423,5,730,733,0],#[58,428,5,736,739,0],#[59,435,5,742,747,1],#[60,440,5,750,753,0],#[61,447,5,756,765,1],#[62,454,5,768,772,1],#[63,461,5,775,781,1],#[64,468,5,784,790,1],#[65,473,5,793,796,0]]
def row(i:Nat):=rT.find? (·.i == i)
def qn(i:Nat):=(([(19000,"Search.__init__"),(19001,"Search.begin"),(19002,"Search.arrive"),(19003,"Search.left_out"),(19004,"Search.on_first"),(19005,"Search.go"),(40000,"Web.__init__"),(40001,"Web.size"),(40002,"Web.between")]:List (Nat×Str)).lookup i).getD (gE (top i))
def mdl(m:Nat):Value:=match m with
 |0=>.str "tieword.parting" 194
 |1=>.str "tieword.search" 276
 |2=>.str "tieword.webs" 508
 |3=>.str "tieword.turnings" 629
 |4=>.str "tieword.groups" 675
 |5=>.str "law_tieword_k19_turnings_counted" 705
 |_=>.str "tieword.reach" 268
def fA(i:Nat):Addr:=((row i).map (·.a+1)).getD 0
def dA(i:Nat):=((row i).map λr=>fnD (qn i) (top i) (mdl r.m) r.a).getD (fnD "" (top 0) .none 0)
def ae:Addr:=157
def fR:Addr:=87
def dR:=PySem.W.fnOf "reached" "reached" (defArgs (top 13)) (defBody (top 13)) (defScope (top 13)) (.ref 82) .none .none (mdl 6) () (.ref 86) .none
def fC:Addr:=360
def dC:=PySem.W.fnOf "come_of" "come_of" (defArgs (top 45)) (defBody (top 45)) (defScope (top 45)) (.ref 353) .none .none (mdl 3) () (.ref 359) .none
set_option genInjectivity false
set_option genSizeOf false
set_option genSizeOfSpec false
def eT:Addr:=239
def iA:Addr:=215
structure Adr where
 C:Addr
 tk_MOST_PLACES:Tok
 tk_MOST_TIES:Tok
 tk_MOST_LETTERS:Tok
 tk_MOST_TOLD:Tok
 x_WebError:Addr
 x_BadOrder:Addr
 x_BadText:Addr
 x_TooGreat:Addr
def cl2(a b:Addr):Nat->Addr
 |0=>a
 |_=>b
abbrev Adr.cl(t:Adr):=cl2 eT iA
structure Txt (K:PySem.W.Frag) (mg:Str->Option Value) (t:Adr):Prop where
 dd:∀i,(row i).isSome=true->Df K (qn i) (top i) (fA i) (dA i)/\(i<1000->mg (gE (top i))=!.ref (fA i))
 cl:Cls K t.C
 mkC:Mk K t.C (fA 40000)
 mgC:mg "Web"=!.ref t.C
 na_joins:NoAttr K t.C "joins"
 na_kinds:NoAttr K t.C "kinds"
 na_ties:NoAttr K t.C "ties"
 naR_best_row:NoAttr K ae "best_row"
 naR_first:NoAttr K ae "first"
 naR_first_row:NoAttr K ae "first_row"
 naR_least:NoAttr K ae "least"
 naR_turnings:NoAttr K ae "turnings"
 naR_way:NoAttr K ae "way"
 naR_web:NoAttr K ae "web"
 cl_Search:Cls K ae
 mk_Search:Mk K ae (fA 19000)
 mg_Search:mg "Search"=!.ref ae
 mt_Web_between:Meth K t.C "between" (fA 40002)
 mt_Search_begin:Meth K ae "begin" (fA 19001)
 mt_Search_arrive:Meth K ae "arrive" (fA 19002)
 mt_Search_left_out:Meth K ae "left_out" (fA 19003)
 mt_Web_size:Meth K t.C "size" (fA 40001)
 mt_Search_on_first:Meth K ae "on_first" (fA 19004)
 mt_Search_go:Meth K ae "go" (fA 19005)
 b_ValueError:mg "ValueError"=none
 b_all:mg "all"=none
 b_bool:mg "bool"=none
 b_dict:mg "dict"=none
 b_enumerate:mg "enumerate"=none
 b_int:mg "int"=none
 b_isinstance:mg "isinstance"=none
 b_len:mg "len"=none
 b_list:mg "list"=none
 b_min:mg "min"=none
 b_range:mg "range"=none
 b_set:mg "set"=none
 b_sorted:mg "sorted"=none
 b_tuple:mg "tuple"=none
 c_MOST_PLACES:mg "MOST_PLACES"=!.int 7 t.tk_MOST_PLACES
 c_MOST_TIES:mg "MOST_TIES"=!.int 12 t.tk_MOST_TIES
 c_MOST_LETTERS:mg "MOST_LETTERS"=!.int 3 t.tk_MOST_LETTERS
 c_MOST_TOLD:mg "MOST_TOLD"=!.int 720 t.tk_MOST_TOLD
 mx_WebError:mg "WebError"=!.ref t.x_WebError
 mx_TooMany:mg "TooMany"=!.ref eT
 mx_BadTie:mg "BadTie"=!.ref iA
 mx_BadOrder:mg "BadOrder"=!.ref t.x_BadOrder
 mx_BadText:mg "BadText"=!.ref t.x_BadText
 mx_TooGreat:mg "TooGreat"=!.ref t.x_TooGreat
 exC:∀k,ExC K (t.cl k)
 k0:∀k,PySem.W.kitOne K (.ref (t.cl k)) (.ref eT)=!decide (k=0)
 k1:∀k,PySem.W.kitOne K (.ref (t.cl k)) (.ref iA)=!decide (1<=k)
 k3:∀k,PySem.W.kitOne K (.ref (t.cl k)) (.type "ValueError")=!true
 k4:∀k,PySem.W.kitAny K (.ref (t.cl k)) [.ref t.x_BadOrder,.ref t.x_BadText,.ref t.x_TooGreat]=!false
 xm:∀k,PySem.W.exmOne K (.ref (t.cl k)) (.ref t.x_WebError)=!true
 xi:∀k,PySem.W.excIn K (t.cl k) EN "ValueError.__new__"=true
 fn_q2:FunD K "reached" "reached" (top 13) fR dR
 bd_q2:Binds K dR ["starts","onward","most"] [Value.none]
 bd0_reached:Binds K dR ["starts","onward","most"] []
 g_q2:mg "reached"=!.ref fR
 fn_come_of:FunE K "come_of" "come_of" (top 45) fC dC (nat_lit 359)
 bd_come_of:Binds K dC ["size","turnings","most"] []
 bdN_come_of:Binds K dC ["size","turnings","most"] [Value.none]
 g_come_of:mg "come_of"=!.ref fC
 ch0:PySem.W.codeHdIn K (nat_lit 139) (nat_lit 137)=true
 tb0:e_ K (nat_lit 137) "Search.left_out.<locals>.<lambda>" #[98,39,98,86]
 ch1:PySem.W.codeHdIn K (nat_lit 359) (nat_lit 355)=true
 tb1:e_ K (nat_lit 355) "come_of.<locals>.<lambda>" #[193,28,193,93]
 ch2:PySem.W.codeHdIn K (nat_lit 371) (nat_lit 367)=true
 tb2:e_ K (nat_lit 367) "orbits_of.<locals>.<lambda>" #[202,40,202,88]
def Lc(e:Expr):=match e with|.Lambda p _ _ _=>p|_=>defArgs (top 0)
def Kx(e:Expr):=match e with|.Lambda _ b _ _=>b|_=>e
def KG(e:Expr):=match e with|.Lambda _ _ s _=>s|_=>defScope (top 0)
def Cd:Expr:=match defBody (top 19003)with|[_,.Return (!.Compare _ _ [.Call _ [_,l] _ _] _) _]=>l|_=>.Constant .none 0 #[0,0,0,0]
def o0:LamS:=#["Search.left_out.<locals>.<lambda>",Lc Cd,Kx Cd,KG Cd,"at","leaving",true]
def MH:LamW:=#[o0,nat_lit 137,#[98,39,98,86]]
theorem HN:o0.Ok:=#[qx,qx,qx,qx,qx,qx,λy h=>#[(by decide+kernel:∀p∈o0.scope.names,p.2=.cell->p.1 = "at") _ (Zf h) rfl,rfl],nofun,λz z z=>rfl,λz z=>rfl,λy h=>(by decide+kernel:∀p∈o0.scope.names,p.2=.free->p.1 = "leaving") _ (Zf h) qx,λz z z z z=>rfl]
def EF:Expr:=match defBody (top 45)with|[_,.Return (!.Call _ [_,l,_] _ _) _]=>l|_=>.Constant .none 0 #[0,0,0,0]
def oU:LamS:=#["come_of.<locals>.<lambda>",Lc EF,Kx EF,KG EF,"made","turnings",true]
def Nf:LamW:=#[oU,nat_lit 355,#[193,28,193,93]]
theorem FN:oU.Ok:=#[qx,qx,qx,qx,qx,qx,λy h=>#[(by decide+kernel:∀p∈oU.scope.names,p.2=.cell->p.1 = "made") _ (Zf h) rfl,rfl],nofun,λz z z=>rfl,λz z=>rfl,λy h=>(by decide+kernel:∀p∈oU.scope.names,p.2=.free->p.1 = "turnings") _ (Zf h) qx,λz z z z z=>rfl]
def DI:Expr:=match defBody (top 47)with|[_,.For _ _ (.Assign _ (.Call _ [.Call _ [_,l] _ _] _ _) _::_) _ _,_]=>l|_=>.Constant .none 0 #[0,0,0,0]
def oQ:LamS:=#["orbits_of.<locals>.<lambda>",Lc DI,Kx DI,KG DI,"at","turnings",true]
def L9:LamW:=#[oQ,nat_lit 367,#[202,40,202,88]]
theorem FW:oQ.Ok:=#[qx,qx,qx,qx,qx,qx,λy h=>#[(by decide+kernel:∀p∈oQ.scope.names,p.2=.cell->p.1 = "at") _ (Zf h) rfl,rfl],nofun,λz z z=>rfl,λz z=>rfl,λy h=>(by decide+kernel:∀p∈oQ.scope.names,p.2=.free->p.1 = "turnings") _ (Zf h) qx,λz z z z z=>rfl]
def Txt.F(T:Txt K mg t)i(h:(row i).isSome:=by kernel_rfl):Df K (qn i) (top i) (fA i) (dA i):=(T.dd i h).1
def Txt.G(T:Txt K mg t)i(h:(row i).isSome:=by kernel_rfl)(h2:decide (i<1000):=by kernel_rfl):Df K (qn i) (top i) (fA i) (dA i)/\mg (gE (top i))=!.ref (fA i):=#[(T.dd i h).1,(T.dd i h).2<|Yz h2]
variable{P:Program}{t:Adr}
abbrev K0:PySem.W.Frag:=[]
abbrev Ok(P:Program)(w:World)(K:Kq)(mg:Ks)(base:Heap)(t:Adr)(i k:Nat)(m:Addr->List DV->Option DV):=FnOk P w K mg base CX0 k (fA i) (dA i) (dZ (top i)) (spD K (m t.C))
def DN(C:Addr):=
  (bZ (asL (aR 1 [1] (zP (getV 0)) (setV 0) bi (d2 ixD (am 1) (am 0)))))
def lU(C:Addr):=mOf 2 2 (DN C)
def nIq(i:Nat):List Str:=((defScope (top i)).names.filter λp=>match p.2 with|.globalImplicit=>false|_=>true).map (·.1)
seal PDE PDR PDN PDO PDT PDS PD1 i3 PDL PDI PDG PDW d2 d1 am getV aw asB asO asL asT ai aj aW ck aq dIf br im bP eZ rK AB nD kB ixD GX eqD neD ltd gtI
set_option hygiene false in
local macro_rules|`(tactic|ext)=>do
 let f:=Array.map Lean.mkIdent
 let a:=f #[[`ag,`aG,`ak,`aL,`cu,`gu,`mH,`uC]]
 let b:=f #[[`aD,`aJ,`a_,`pv,`cD,`pgI]]
 let c:=f #[[`bg,`cJ,`l8]]
 let d:=f #[[`ay,`aa,`bL,`ee,`bC,`kX,`xw,`uQ,`uF,`HK,`mK,`d7,`kG,`oP]]
 let e:=f #[[`af,`aS,`cW,`iO,`cV,`sG,`wB,`PDW.t,`df,`s_]]
 let g:=f #[[`bJ,`mE]]
 let i:=f #[[`fY,`zB,`f7,`wP,`pU]]
 let j:=f #[[`PDE.r,`PDE.n,`PDO.v]]
 `(tactic|first $[|exact $a]* $[|exact $b _]* $[|refine $c _ ?_<;>ext]* |(apply ar;ext;ext;rfl)$[|refine $d ?_ ?_<;>ext]* $[|refine $e ?_<;>ext]* $[|refine $g ?_ ?_ ?_<;>ext]* |refine fN _ ?_ ?_<;>ext|(apply bD;ext;decide)|refine b_ rfl T.b_len ?_<;>ext|(apply cc;ext;decide)$[|refine $i h.h64 ?_ ?_<;>ext]* |refine bu rfl T.b_range ?_<;>ext|refine fQ rfl T.b_list ?_<;>ext|refine g8 rfl T.b_tuple ?_<;>ext|refine iB h.h64 rfl T.b_sorted ?_<;>ext|refine bt ?_<;>ext|refine iu _ ?_<;>ext $[|refine $j ?_<;>ext]* |(intro _ _ _ _;ext))
def FI(T:Txt K mg t):Ok P w K mg base t 44 1 lU:=
 (T.F 44).okI (nIq 44) λh=>af<|bt<|eC ["place","other"] 1 [1] [0] (HZ<|aJ 0) (cD 0) cu<|by ext
def oS(C:Addr):=
  (br (d2 eZ (d2 eZ (d2 nD (d2 eZ (d2 bP (am 0) (cI 1)) (cI 2147483647)) (cI 48271)) (am 1)) (am 2)))
def aU(C:Addr):=mOf 3 3 (oS C)
def bj(T:Txt K mg t):Ok P w K mg base t 55 1 aU:=
 (T.F 55).okI (nIq 55) λh=>by ext
def kj(C:Addr):=
  (aq (dIf (asB (d2 ltd (aw 1) (d1 bN (aw 0)))) (br (d2 ixD (am 0) (am 1))) dNx)
  (br (cI 0)))
def aZ(C:Addr):=mOf 2 2 (kj C)
def bH(T:Txt K mg t):Ok P w K mg base t 54 1 aZ:=
 (T.F 54).okI (nIq 54) λh=>by ext
def oh(C:Addr):=
  (aq (dIf (eV (asB (d2 eqD (aw 1) (cI 7))) (asB (d2 eqD (aj (aU C) (aV (aj (aZ C) (aB 0 (aV (cI 0) nA))) (aV (cI 10099) (aV (cI 7) nA)))) (cI 5)))) (br (cI 7)) dNx)
  (br (d2 bP (cI 1) (aj (aU C) (aV (aj (aZ C) (aB 0 (aV (cI 0) nA))) (aV (cI 10061) (aB 1 nA)))))))
def iD(C:Addr):=mOf 2 2 (oh C)
def ww(T:Txt K mg t):Ok P w K mg base t 59 2 iD:=
 (T.F 59).okI (nIq 59) λh=>aa (bJ (PDW.t<|d7 (by ext)<|cW<|fY h.h64 (PDE.n<|pcI (bj T) (T.G 55) h<|ay (pcI (bH T) (T.G 54) h<|by ext)<|by ext)<|by ext) (by ext) aL)<|af<|aS<|bC (by ext)<|PDE.r<|pcI (bj T) (T.G 55) h<|ay (pcI (bH T) (T.G 54) h<|by ext)<|by ext
def v9(C:Addr):=
  (aq (aW 1 (d2 GX (d2 ixD (λz=>!(.str "abz")) (d2 eZ (am 0) (cI 3))) (d2 eZ (d2 rK (am 0) (cI 3)) (cI 3))))
  (aq (aW 2 (d2 eZ (d2 rK (am 0) (cI 9)) (d2 bP (d1 bN (aw 1)) (cI 1))))
  (bZ (asL (aR 1 [1,2] (sF (λz=>!(.str "cdx"))) (setV 0) bi (d2 bP (d2 bP (slS (am 1) bNo (bI (getV 2))) (am 0)) (slS (am 1) (bI (getV 2)) bNo)))))))
def cE(C:Addr):=mOf 3 1 (v9 C)
def uV(T:Txt K mg t):Ok P w K mg base t 56 1 cE:=
 (T.F 56).okI (nIq 56) λh=>aa (by ext)<|aa (by ext)<|af<|bt<|eC ["_law_sign","_law_base","_law_at"] 1 [1,2] [0] (zX mH) (cD 0) cu<|bC (PDE.r<|bC (PDE.r<|rR (aD 1) uC<|by ext)<|aD 0)<|PDE.r<|rR (aD 1) (by ext) uC
def mX(C:Addr):=
  (aq (aW 2 (aj (cE C) (aV (aj (aU C) (aV (aj (aZ C) (aB 0 (aV (cI 1) nA))) (aV (cI 10079) (aV (cI 324) nA)))) nA)))
  (aq (aW 3 (aj (aU C) (aV (aj (aZ C) (aB 0 (aV (cI 0) nA))) (aV (cI 10091) (aV (cI 4) nA)))))
  (aq (dIf (asB (d2 ltd (aw 3) (cI 2))) (bZ (asL (aR 1 [2] (fP (am 1)) (setV 0) bi (d2 ixD (am 1) (cI 0))))) dNx)
  (aq (dIf (asB (d2 eqD (aw 3) (cI 2))) (bZ (asL (aR 1 [2] (fP (am 1)) (setV 0) bi (d2 ixD (am 1) (d2 eZ (am 0) (cI 2)))))) dNx)
  (bZ (asL (aR 1 [2,0] (fP (am 1)) (setV 0) bi (d2 ixD (am 1) (aj (aU C) (aV (d2 bP (aj (aZ C) (aB 2 (aB 0 nA))) (am 0)) (aV (cI 10093) (aV (cI 2) nA))))))))))))
def gC(C:Addr):=mOf 4 2 (mX C)
def sZ(T:Txt K mg t):Ok P w K mg base t 57 2 gC:=
 (T.F 57).okI (nIq 57) λh=>aa (cJ 2<|pcI (uV T) (T.G 56) h<|ay (pcI (bj T) (T.G 55) h<|ay (pcI (bH T) (T.G 54) h<|by ext)<|by ext) ak)<|aa (cJ 3<|pcI (bj T) (T.G 55) h<|ay (pcI (bH T) (T.G 54) h<|by ext)<|by ext)<|aa (bJ (by ext) (af<|bt<|eC ["_law_k","_law_words_here"] 1 [2] [0] (by ext) (cD 0) cu<|by ext) aL)<|aa (bJ (by ext) (af<|bt<|eC ["_law_k","_law_words_here"] 1 [2] [0] (by ext) (cD 0) cu<|by ext) aL)<|af<|bt<|eC ["_law_k","_law_words_here","_law_cells"] 1 [2,0] [0] (by ext) (cD 0) cu<|bL (aD 1)<|PDE.r<|pcI (bj T) (T.G 55) h<|ay (bC (PDE.r<|pcI (bH T) (T.G 54) h<|by ext)<|aD 0)<|by ext
def v_(C:Addr):=
  (aq (aW 2 (d2 rK (am 1) (cI 2)))
  (aq (dIf (eV (asB (d2 eqD (aw 0) (cI 0))) (asB (d2 gtI (am 1) (cI 2)))) (bZ (asL (aR 1 [1] (fP (am 1)) (setV 0) bi (asT (ai (getV 0) (ai (d2 eZ (d2 bP (am 0) (cI 1)) (am 1)) aP)))))) dNx)
  (aq (dIf (asB (d2 eqD (aw 0) (cI 1))) (bZ (asL (aR 1 [] (Lf (cI 1) (am 1)) (setV 0) bi (asT (ai (cI 0) (ai (getV 0) aP)))))) dNx)
  (aq (dIf (asB (d2 eqD (aw 0) (cI 2))) (bZ (asL (Ge (asO (asL (aR 1 [] (fP (d2 AB (am 2) (cI 1))) (setV 0) bi (asT (ai (getV 0) (ai (d2 bP (am 0) (cI 1)) aP)))))) (asO (asL (aR 1 [2] (fP (d2 AB (am 2) (cI 1))) (setV 0) bi (asT (ai (d2 bP (am 1) (am 0)) (ai (d2 bP (d2 bP (am 1) (am 0)) (cI 1)) aP))))))))) dNx)
  (aq (dIf (asB (d2 eqD (aw 0) (cI 3))) (bZ (asL (aR 1 [2] (fP (am 2)) (setV 0) bi (asT (ai (getV 0) (ai (d2 bP (am 0) (am 1)) aP)))))) dNx)
  (aq (dIf (eV (asB (d2 eqD (aw 0) (cI 4))) (asB (d2 ltd (aw 1) (cI 6)))) (bZ (asL (aR 1 [1] (fP (d2 nD (am 1) (am 1))) (setV 0) (asB (d2 ltd (d2 rK (am 0) (am 1)) (d2 eZ (am 0) (am 1)))) (asT (ai (d2 rK (am 0) (am 1)) (ai (d2 eZ (am 0) (am 1)) aP)))))) dNx)
  (aq (dIf (eV (asB (d2 eqD (aw 0) (cI 5))) (asB (d2 eqD (aw 1) (cI 7)))) (bZ (asL (ai (asT (ai (cI 0) (ai (cI 1) aP))) (ai (asT (ai (cI 1) (ai (cI 2) aP))) (ai (asT (ai (cI 2) (ai (cI 0) aP))) (ai (asT (ai (cI 3) (ai (cI 4) aP))) (ai (asT (ai (cI 4) (ai (cI 5) aP))) (ai (asT (ai (cI 5) (ai (cI 6) aP))) (ai (asT (ai (cI 6) (ai (cI 3) aP))) aP))))))))) dNx)
  (bZ (asL aP)))))))))
def cF(C:Addr):=mOf 3 2 (v_ C)
def sU(T:Txt K mg t):Ok P w K mg base t 58 1 cF:=
 (T.F 58).okI (nIq 58) λh=>aa (by ext)<|aa (bJ (by ext) (af<|bt<|eC ["_law_k","_law_size_here"] 1 [1] [0] (by ext) (cD 0) cu<|by ext) aL)<|aa (bJ (by ext) (af<|bt<|eC ["_law_k"] 1 [] [0] (xC qx T.b_range (by ext)<|aD 1) (cD 0) cu<|by ext) aL)<|aa (bJ (by ext) (af<|bt<|F7 (PDE.r<|PDO.v<|eC ["_law_k"] 1 [] [0] (by ext) (cD 0) cu<|by ext)<|PDE.r<|PDO.v<|eC ["_law_k","_law_half"] 1 [2] [0] (by ext) (cD 0) cu<|by ext) aL)<|aa (bJ (by ext) (af<|bt<|eC ["_law_k","_law_half"] 1 [2] [0] (by ext) (cD 0) cu<|by ext) aL)<|aa (bJ (by ext) (af<|bt<|eC ["_law_k","_law_size_here"] 1 [1] [0] (by ext) (cD 0) (by ext)<|by ext) aL)<|aa (Cf (by ext)<|by with_reducible exact pl7)<|by ext
def pk(C:Addr):=
  (aq (aW 2 (asO (asL (ai (d2 eZ (aj (aZ C) (aB 0 (aV (cI 2) nA))) (d2 kB (cI 10) (cI 28))) (ai (d2 eZ (aj (aZ C) (aB 0 (aV (cI 3) nA))) (d2 kB (cI 10) (cI 28))) aP)))))
  (aq (aW 3 (aj (aU C) (aV (aj (aZ C) (aB 0 (aV (cI 0) nA))) (aV (cI 10099) (aV (cI 7) nA)))))
  (aq (aW 4 (d2 eqD (aj (aU C) (aV (aj (aZ C) (aB 0 (aV (cI 1) nA))) (aV (cI 10103) (aV (cI 2) nA)))) (cI 1)))
  (aq (ck 5 (asL (aR 2 [2,4] (dw (aj (cF C) (aB 3 (aB 1 nA)))) (jU [0,1]) bi (asT (ai (getV 0) (ai (getV 1) (ai (d2 ixD (am 2) (cI 0)) (ai (getV 3) aP))))))))
  (aq (aW 6 (aj (aU C) (aV (aj (aZ C) (aB 0 (aV (cI 1) nA))) (aV (cI 10111) (aV (cI 3) nA)))))
  (aq (dIf (eV (asB (d2 gtI (am 3) (cI 4))) (asB (d2 eqD (d1 bN (aw 5)) (cI 0)))) (aW 6 (cI 12)) dNx)
  (aq (im (dw (asO (asL (slL (am 0) (bI (cI 4)) (bI (d2 bP (cI 4) (am 6))))))) (setV 7) (dIf (eV (asB (d2 gtI (am 1) (cI 1))) (asB (d2 ltd (d1 bN (aw 5)) (cI 12)))) (aq (aW 8 (aj (aU C) (aB 7 (aV (cI 10007) (aB 1 nA)))))
  (aq (aW 9 (d2 eZ (d2 bP (d2 bP (am 8) (cI 1)) (aj (aU C) (aB 7 (aV (cI 10009) (aV (d2 AB (am 1) (cI 1)) nA))))) (am 1)))
  (iT 5 (asT (ai (getV 8) (ai (getV 9) (ai (d2 ixD (am 2) (aj (aU C) (aB 7 (aV (cI 10037) (aV (cI 2) nA))))) (ai (d2 eqD (aj (aU C) (aB 7 (aV (cI 10039) (aV (cI 3) nA)))) (cI 0)) aP)))))))) dNx))
  (j9 5))))))))
def iL(C:Addr):=mOf 10 2 (pk C)
def vj(T:Txt K mg t):Ok P w K mg base t 60 2 iL:=
 (T.F 60).okI ["_law_cells","_law_size_here","_law_tones","_law_pick","_law_oneway","_law_ties_here","_law_more","_law_cell_here","_law_one","_law_other"] λh=>aa (cJ 2<|PDO.v<|cc<|ar (ee (PDE.r<|pcI (bH T) (T.G 54) h<|by ext)<|by ext)<|ar (ee (PDE.r<|pcI (bH T) (T.G 54) h<|by ext)<|by ext) aG)<|aa (cJ 3<|pcI (bj T) (T.G 55) h<|ay (pcI (bH T) (T.G 54) h<|by ext)<|by ext)<|aa (cJ 4<|wP h.h64 (PDE.n<|pcI (bj T) (T.G 55) h<|ay (pcI (bH T) (T.G 54) h<|by ext)<|by ext)<|by ext)<|aa (NZ 5 ["_law_one","_law_other","_law_tones","_law_oneway"] 2 [2,4] [0,1] (ig<|pcI (sU T) (T.G 58) h<|by ext) (jP (is:=[0,1]) rfl<|cb (pgI 0)<|cb (pgI 1) jL) cu<|by ext)<|aa (cJ 6<|pcI (bj T) (T.G 55) h<|ay (pcI (bH T) (T.G 54) h<|by ext)<|by ext)<|aa (by ext)<|aa (pfI (ig<|by ext) (cD 7)<|af<|bJ (by ext) (aa (cJ 8<|pcI (bj T) (T.G 55) h<|by ext)<|aa (cJ 9<|ee (PDE.r<|bC (by ext)<|PDE.r<|pcI (bj T) (T.G 55) h<|by ext)<|aD 1)<|af<|fN 5 (pv 5)<|bD<|ar (aJ 8)<|ar (aJ 9)<|ar (bL (aD 2)<|PDE.r<|pcI (bj T) (T.G 55) h<|by ext)<|ar (wP h.h64 (PDE.n<|pcI (bj T) (T.G 55) h<|by ext)<|by ext) aG) aL)<|by ext
def iZ(C:Addr):=
  (aq (aW 1 (d1 BR (asO (asL (aR 1 [] (sF (getV 0)) (setV 0) bi (chD leA leA (λy=>!(.str "a")) (aw 0) (λy=>!(.str "z"))))))))
  (br (wg (getV 1) (chD leA leA (cI 1) (d1 bN (aw 0)) (cI 3)))))
def cS(C:Addr):=mOf 2 1 (iZ C)
def mf(T:Txt K mg t):Ok P w K mg base t 33 1 cS:=
 (T.F 33).okI (nIq 33) λh=>aa (cJ 1<|E9 qx qx T.b_all<|PDE.n<|PDO.v<|eC ["letter"] 1 [] [0] (zX<|aJ 0) (cD 0) cu<|yX (by ext) (a_ 0)<|by ext)<|af<|aS<|oP (aJ 1)<|s_<|yX (by ext) (by ext)<|PDE.n<|iE qx T.c_MOST_LETTERS
def j8(C:Addr):=
  (br (chD leA ltI (cI 0) (aw 0) (d2 kB (cI 10) (cI 30))))
def du(C:Addr):=mOf 1 1 (j8 C)
def oF(T:Txt K mg t):Ok P w K mg base t 34 1 du:=
 (T.F 34).okI (nIq 34) λh=>af<|aS<|sR (by ext) (a_ 0)<|by ext
def vf(C:Addr):=
  (aq (aW 2 (wg (chD leA ltI (cI 0) (d2 ixD (am 0) (cI 0)) (aw 1)) (chD leA ltI (cI 0) (d2 ixD (am 0) (cI 1)) (aw 1))))
  (br (wg (getV 2) (wg (d2 neD (d2 ixD (am 0) (cI 0)) (d2 ixD (am 0) (cI 1))) (aj (du C) (aV (d2 ixD (am 0) (cI 2)) nA))))))
def gP(C:Addr):=mOf 3 2 (vf C)
def A4(T:Txt K mg t):Ok P w K mg base t 35 2 gP:=
 (T.F 35).okI (nIq 35) λh=>aa (cJ 2<|oP (sR (by ext) (by ext)<|a_ 1)<|s_<|sR (by ext) (by ext)<|a_ 1)<|af<|aS<|oP (aJ 2)<|oP (MD h.h64 (by ext)<|by ext)<|s_<|pcI (oF T) (T.G 34) h<|by ext
def jD(C:Addr):=
  (aq (dIf (cK (asB (chD leA leA (cI 1) (d1 bN (aw 0)) (cI 7)))) j6 dNx)
  (aq (dIf (asB (d2 gtI (d1 bN (aw 1)) (cI 12))) j6 dNx)
  (aq (im (bY 0) (setV 2) (dIf (cK (asB (aj (cS C) (aV (getV 2) nA)))) j6 dNx))
  (im (bY 1) (setV 3) (dIf (cK (asB (aj (gP C) (aB 3 (aV (d1 bN (aw 0)) nA))))) j6 dNx)))))
def cZ(C:Addr):=mOf 4 2 (jD C)
def nF(T:Txt K mg t):Ok P w K mg base t 36 3 cZ:=
 (T.F 36).okI (nIq 36) λh=>aa (bJ (df<|FB (by ext) (by ext)<|PDE.n<|iE qx T.c_MOST_PLACES) (af jn) aL)<|aa (bJ (mK (by ext)<|PDE.r<|iE qx T.c_MOST_TIES) (af jn) aL)<|aa (pfI (jW 0) (cD 2)<|af<|bJ (df<|cV<|pcI (mf T) (T.G 33) h<|by ext) (af jn) aL)<|af<|pfI (jW 1) (cD 3)<|af<|bJ (df<|cV<|pcI (A4 T) (T.G 35) h<|by ext) (af jn) aL
def jm(C:Addr):=
  (aq (dIf (orT (asB (d2 ixD (am 0) (cI 3))) (asB (d2 ltd (d2 ixD (am 0) (cI 0)) (d2 ixD (am 0) (cI 1))))) (br (getV 0)) dNx)
  (br (asT (ai (d2 ixD (am 0) (cI 1)) (ai (d2 ixD (am 0) (cI 0)) (ai (d2 ixD (am 0) (cI 2)) (ai (d2 ixD (am 0) (cI 3)) aP)))))))
def c8(C:Addr):=mOf 1 1 (jm C)
def nI(T:Txt K mg t):Ok P w K mg base t 37 1 c8:=
 (T.F 37).okI (nIq 37) λh=>by ext
def pS(C:Addr):=
  (o9 0 (getV 1) (d1 ki (asO (asL (nC (d2 bP (k_ (am 0) (getV 1) (asT aP)) (asT (ai (getV 2) aP))))))))
def eR(C:Addr):=yb 3 3 (pS C)
def m_(T:Txt K mg t):FnOk P w K mg base CX0 1 (fA 38) (dA 38) (dZ (top 38)) (spM K (eR t.C)):=
 (T.F 38).okJ (nIq 38) λh=>af<|zG 0 h.h64 (pv 0) (aJ 1)<|g8 qx T.b_tuple<|PDE.r<|PDO.v<|iB h.h64 qx T.b_sorted<|PDE.r<|bC (PDE.r<|uY h.h64 (aD 0) (aJ 1)<|bD aG)<|by ext
def pM(C:Addr):=
  (aq (ck 1 (λz=>!.dT []))
  (aq (im (bY 0) (jU [2,3,4,5]) (aq (jv K0 1 (eR C) (aV (asT (ai (getV 2) (ai (getV 3) aP))) (aV (asT (ai (getV 4) (ai (ifV (asB (getV 5)) (cI 1) (cI 0)) aP))) nA)))
  (jv K0 1 (eR C) (aV (asT (ai (getV 3) (ai (getV 2) aP))) (aV (asT (ai (getV 4) (ai (ifV (asB (getV 5)) (cI 2) (cI 0)) aP))) nA)))))
  (j9 1)))
def fS(C:Addr):=mOf 6 1 (pM C)
def ve(T:Txt K mg t):Ok P w K mg base t 39 2 fS:=
 (T.F 39).okI (nIq 39) λh=>aa (l8 1 As)<|aa (pfI (jW 0) (jP (is:=[2,3,4,5]) rfl<|cb (pgI 2)<|cb (pgI 3)<|cb (pgI 4)<|cb (pgI 5) jL)<|aa (wQ 1 (m_ T) (h.mono<|by decide) qx (T.G 38).2 (T.F 38).fn.kp (T.F 38).bd (pv 1)<|ay (by ext)<|ay (bD<|ar (aJ 4)<|ar (xh (by ext) ag ag) aG) ak)<|af<|wQ 1 (m_ T) (h.mono<|by decide) qx (T.G 38).2 (T.F 38).fn.kp (T.F 38).bd (pv 1)<|ay (by ext)<|ay (bD<|ar (aJ 4)<|ar (xh (by ext) ag ag) aG) ak)<|by ext
def mU(C:Addr):=
  (aq (zb (aj (cZ C) (aB 1 (aB 2 nA))))
  (aq (rX C 0 "kinds" (asO (asL (fq (am 1)))))
  (aq (rX C 0 "ties" (asO (asL (nC (asO (asL (aR 1 [] (bY 2) (setV 0) bi (aj (c8 C) (aV (getV 0) nA)))))))))
  (rX C 0 "joins" (aj (fS C) (aV (d1 (gJ C "ties") (am 0)) nA))))))
def cL(C:Addr):=yb 3 3 (mU C)
def lD(T:Txt K mg t):FnOk P w K mg base CX0 4 (fA 40000) (dA 40000) (dZ (top 40000)) (spM K (cL t.C)):=
 (T.F 40000).okJ (nIq 40000) λh=>aa (Ie<|pcI (nF T) (T.G 36) h<|by ext)<|aa (tU 0 T.cl T.na_kinds (pv 0)<|by ext)<|aa (tU 0 T.cl T.na_ties (pv 0)<|PDO.v<|iB h.h64 qx T.b_sorted<|PDE.r<|PDO.v<|eC ["tie"] 1 [] [0] (jW 2) (cD 0) cu<|pcI (nI T) (T.G 37) h<|by ext)<|af<|tU 0 T.cl T.na_joins (pv 0)<|pcI (ve T) (T.G 39) h<|ay (gH T.cl T.na_ties<|aD 0) ak
def Fg(C:Addr):=
  (bZ (asL (lF (getV 0))))
def qB(C:Addr):=mOf 1 1 (Fg C)
def GI(T:Txt K mg t):Ok P w K mg base t 43 1 qB:=
 (T.F 43).okI (nIq 43) λh=>af<|bt<|j7 qx qx T.b_list qx T.b_range<|aJ 0
abbrev MA:List Str:=["starts","onward","most","found","known","done","at","thing"]
def d_(gl:Dd)(a0:Addr)(v0:V)(_:D):=
  (aq (ck 3 (asL (fq (am 0))))
  (aq (ck 4 (sH 3 (zq (aR 1 [] (bY 3) (setV 0) bi (asT (ai (getV 0) (ai (λz=>!.bl true) aP)))))))
  (aq (aW 5 (cI 0))
  (aq (c9 (eV (asB (d2 ltd (aw 5) (d1 bN (aw 3)))) (orT (wX 2) (asB (d2 leI (d1 bN (aw 3)) (am 2))))) (aq (aW 6 (d2 ixD (am 3) (am 5)))
  (aq (im (dw (nu 1 a0 v0 gl (getV 6))) (setV 7) (dIf (asB (d2 pI (getV 7) (am 4))) (aq (oq 4 (getV 7) (λz=>!.bl true))
  (iT 3 (getV 7))) dNx))
  (Cu 5 (cI 1)))) 10)
  (j9 3)))))
def rL(T:Txt K mg t){W:LamW}(S:W.L.Ok)(e:∀{A:Around}{outer:List Env}{s:Shared}{H:Hp}{E:XK}{f c' c:Addr},Room 2 A->PDE (jg CX0 P w K mg base W.L f c' c A outer s H E) W.L.body gl):yo P w K mg base 3 fR dR ["starts","onward","most"] (spR W K 8 (d_ gl)):=
 T.fn_q2.okR (scI MA) qx λg A outer s H E f c' c u a i h l b=>(aa (l8 3 (fQ qx T.b_list (aD 0))) (aa (l8 4 (wE 3 (A5 qx qx T.b_dict (eC ["thing"] 1 [] [0] (jW 3) (cD 0) cu (bD (ar (aJ 0) (ar gu aG))))))) (aa (cJ 5 ag) (aa (qt 10 Ue (PDW.t (d7 (f7 h.h64 (a_ 5) (PDE.n (b_ qx T.b_len (a_ 3)))) (cW (PDW.t (kG (zf 2 (pv 2)) (iO (D5 (PDE.r (b_ qx T.b_len (a_ 3))) (aD 2)))))))) (aa (cJ 6 (bL (aD 3) (aD 5))) (aa (pfI (ig (wM (v0:=a) (k:=1) S l b h qx (by first|exact Or.inl rfl|exact Or.inr (Or.inl qx)) (aJ 6) (λz z z=>e h))) (cD 7) (af (bJ (Ck h.h64 (aJ 7) (aD 4)) (aa (BY 4 h.h64 (pv 4) (aJ 7) gu) (af (fN 3 (pv 3) (aJ 7)))) aL))) (af (CO (ix:=5) ndI qx (.inl qx) ag))))) (af (iu 3 (pv 3)))))))
def gW(gl:Dd)(a0:Addr)(v0:V)(_:D):=
  (aq (ck 3 (asL (fq (am 0))))
  (aq (ck 4 (sH 3 (om (aR 1 [] (bY 3) (setV 0) bi (asT (ai (getV 0) (ai (λz=>!.bl true) aP)))))))
  (aq (aW 5 (cI 0))
  (aq (c9 (eV (asB (d2 ltd (aw 5) (d1 bN (aw 3)))) (orT (wX 2) (asB (d2 leI (d1 bN (aw 3)) (am 2))))) (aq (aW 6 (d2 ixD (am 3) (am 5)))
  (aq (im (dw (nu 1 a0 v0 gl (getV 6))) (setV 7) (dIf (asB (d2 (Ai true) (getV 7) (am 4))) (aq (o9 4 (getV 7) (λz=>!.bl true))
  (iT 3 (getV 7))) dNx))
  (Cu 5 (cI 1)))) 900000)
  (j9 3)))))
def A_(T:Txt K mg t){W:LamW}(S:W.L.Ok)(e:∀{A:Around}{outer:List Env}{s:Shared}{H:Hp}{E:XK}{f c' c:Addr},Room 2 A->PDE (jg CX0 P w K mg base W.L f c' c A outer s H E) W.L.body gl):yo P w K mg base 3 fR dR ["starts","onward","most"] (spR W K 8 (gW gl)):=
 T.fn_q2.okR (scI MA) qx λg A outer s H E f c' c u a i h l b=>(aa (l8 3 (fQ qx T.b_list (aD 0))) (aa (l8 4 (wE 3 (xG h.h64 qx qx T.b_dict (eC ["thing"] 1 [] [0] (jW 3) (cD 0) cu (bD (ar (aJ 0) (ar gu aG))))))) (aa (cJ 5 ag) (aa (qt 900000 Ue (PDW.t (d7 (f7 h.h64 (a_ 5) (PDE.n (b_ qx T.b_len (a_ 3)))) (cW (PDW.t (kG (zf 2 (pv 2)) (iO (D5 (PDE.r (b_ qx T.b_len (a_ 3))) (aD 2)))))))) (aa (cJ 6 (bL (aD 3) (aD 5))) (aa (pfI (ig (wM (v0:=a) (k:=1) S l b h qx (by first|exact Or.inl rfl|exact Or.inr (Or.inl qx)) (aJ 6) (λz z z=>e h))) (cD 7) (af (bJ (EZ h.h64 (aJ 7) (aD 4)) (aa (zG 4 h.h64 (pv 4) (aJ 7) gu) (af (fN 3 (pv 3) (aJ 7)))) aL))) (af (CO (ix:=5) ndI qx (.inl qx) ag))))) (af (iu 3 (pv 3)))))))
def gl1(C:Addr):=(asO (asL (aR 1 [0] (bY 1) (setV 0) bi (d1 ki (aj (lU C) (aV (getV 1) (aB 0 nA)))))))
def hb1(T:Txt K mg t){E:XK}{c:Addr}(h:Room 2 A):PDE (jg CX0 P w K mg base oU f c' c A outer s H E) oU.body (gl1 t.C):=
 let h:=Room.deeper (k:=1) h (eD oU s f c' c)
 (PDO.v (eC ["turning","made"] 1 [0] [0] (jW 1) (cD 0) cu (g8 qx T.b_tuple (PDE.r (pcI (FI T) (T.G 44) h (ay (aJ 1) (bg 0 ak)))))))
def g_come_of(C:Addr):=
  (aq (aW 3 (d1 ki (aj (qB C) (aV (getV 0) nA))))
  (br (asO (yT 8 1 2 (gW (gl1 C)) (λa=>((asO (asL (ai (getV 3) aP))) a).map .v)))))
def cT(C:Addr):=mOf 4 3 (g_come_of C)
def kg(T:Txt K mg t):FnOk P w K mg base CX0 4 fC dC ["size","turnings","most"] (spD K (cT t.C)):=
 T.fn_come_of.okE (scI ["size","turnings","most","start"]) λh=>aa (cJ 3<|g8 qx T.b_tuple<|PDE.r<|pcI (GI T) (T.G 43) h<|by ext)<|af<|aS<|PDO.v<|xP (W:=Nf) (j:=1) (j2:=2) #[T.tb1,qx,qx,qx,qx,qx,qx,T.ch1,qx,qx] qx (by first | exact Or.inl qx | exact Or.inr (Or.inl qx)) (A_ T FN<|hb1 T) qx (h.mono<|by decide) qx T.g_q2 T.fn_q2.kp T.bd0_reached<|Ip<|by ext
def gh(C:Addr):=
  (aq (lg ae 0 "web" (getV 1))
  (aq (lg ae 0 "way" (asO (asL aP)))
  (aq (lg ae 0 "first" (asO (asL aP)))
  (aq (lg ae 0 "first_row" (asT aP))
  (aq (lg ae 0 "least" (asO (asL aP)))
  (aq (lg ae 0 "best_row" (asT aP))
  (xu ae 0 "turnings" (asL aP))))))))
def dI(C:Addr):=qR 2 2 (gh C)
def nL(T:Txt K mg t):FnOk P w K mg base CX0 1 (fA 19000) (dA 19000) (dZ (top 19000)) (spO K (dI t.C)):=
 (T.F 19000).okO (nIq 19000) λh=>aa (jK 0 T.cl_Search T.naR_web (pv 0)<|aJ 1)<|aa (jK 0 T.cl_Search T.naR_way (pv 0)<|by ext)<|aa (jK 0 T.cl_Search T.naR_first (pv 0)<|by ext)<|aa (jK 0 T.cl_Search T.naR_first_row (pv 0)<|bD aG)<|aa (jK 0 T.cl_Search T.naR_least (pv 0)<|by ext)<|aa (jK 0 T.cl_Search T.naR_best_row (pv 0)<|bD aG)<|af<|EM 0 T.cl_Search T.naR_turnings (pv 0)<|cc aG
def kZ(C:Addr):=
  (aq (aW 1 (asO (asL (aR 1 [0] (bY 0) (setV 0) (asB (d2 gtI (d2 qS (aw 1) (aw 0)) (cI 1))) (getV 0)))))
  (aq (dIf (cK (lS (getV 1))) (bZ (asL aP)) dNx)
  (aq (aW 2 (d1 vY (am 1)))
  (bZ (asL (aR 2 [2] (gG 0) (jU [0,1]) (asB (d2 eqD (aw 1) (aw 2))) (getV 0)))))))
def de(C:Addr):=mOf 3 1 (kZ C)
def qN(T:Txt K mg t):Ok P w K mg base t 11 1 de:=
 (T.F 11).okI (nIq 11) λh=>aa (Hs 1 ["rank","parting"] 1 [0] [0] (jW 0) (cD 0) (wB<|mK (PDE.r<|vM h.h64 (a_ 1)<|a_ 0)<|by ext)<|aJ 0)<|aa (bJ (df<|tW<|by ext) (by ext) aL)<|aa (cJ 2<|GS h.h64 qx qx T.b_min<|aD 1)<|af<|bt<|eC ["place","rank","least"] 2 [2] [0,1] (mF 0 qx T.b_enumerate<|pv 0) (jP (is:=[0,1]) rfl<|cb (pgI 0)<|cb (pgI 1) jL) (by ext)<|aJ 0
def j_(C:Addr):=
  (br (k_ (d1 (gJ C "joins") (am 0)) (asT (ai (getV 1) (ai (getV 2) aP))) (asT aP)))
def cA(C:Addr):=mOf 3 3 (j_ C)
def jE(T:Txt K mg t):Ok P w K mg base t 40002 1 cA:=
 (T.F 40002).okI (nIq 40002) λh=>af<|aS<|uY h.h64 (PDE.r<|gH T.cl T.na_joins<|aD 0) (by ext)<|bD aG
def vy(C:Addr):=
  (aq (ck 2 (asL aP))
  (aq (im (gG 1) (jU [3,4]) (Ba 2 (aR 1 [0,4] (dw (asO (asL (slL (am 1) (bI (d2 bP (am 3) (cI 1))) bNo)))) (setV 0) bi (a8 C "between" (cA C) (bp (bz 1) (aV (getV 2) (aV (getV 0) nA)))))))
  (br (asT (ai (d1 ki (asO (asL (aR 1 [0] (bY 1) (setV 0) bi (d2 ixD (d1 (gJ C "kinds") (am 1)) (am 0)))))) (ai (d1 ki (am 2)) aP))))))
def jA(C:Addr):=mOf 5 2 (vy C)
def BP(T:Txt K mg t):Ok P w K mg base t 15 2 jA:=
 (T.F 15).okI (nIq 15) λh=>aa (by ext)<|aa (pfI (mF 1 qx T.b_enumerate<|pv 1) (jP (is:=[3,4]) rfl<|cb (pgI 3)<|cb (pgI 4) jL)<|af<|AU 2 (pv 2)<|eC ["other","web","place"] 1 [0,4] [0] (ig<|by ext) (cD 0) cu<|nN (qP 1) T.cl T.mt_Web_between (jE T) (h.mono<|by decide) (T.F 40002).bd<|by ext)<|af<|aS<|bD<|ar (g8 qx T.b_tuple<|PDE.r<|PDO.v<|eC ["place","web"] 1 [0] [0] (jW 1) (cD 0) cu<|bL (PDE.r<|gH T.cl T.na_kinds<|aD 1)<|aD 0)<|by ext
def gj(C:Addr):=
  (aq (iX ae 0 "way" (getV 1))
  (aq (iX ae 0 "first" (getV 2))
  (aq (iX ae 0 "first_row" (getV 3))
  (aq (iX ae 0 "least" (getV 2))
  (iX ae 0 "best_row" (getV 3))))))
def dF(C:Addr):=qR 4 4 (gj C)
def nK(T:Txt K mg t):FnOk P w K mg base CX0 1 (fA 19001) (dA 19001) (dZ (top 19001)) (spO K (dF t.C)):=
 (T.F 19001).okO (nIq 19001) λh=>aa (iy 0 T.cl_Search T.naR_way (pv 0)<|aJ 1)<|aa (iy 0 T.cl_Search T.naR_first (pv 0)<|aJ 2)<|aa (iy 0 T.cl_Search T.naR_first_row (pv 0)<|aJ 3)<|aa (iy 0 T.cl_Search T.naR_least (pv 0)<|aJ 2)<|af<|iy 0 T.cl_Search T.naR_best_row (pv 0)<|aJ 3
def qZ(C:Addr):=
  (bZ (asL (aR 1 [1,0] (fP (d1 bN (aw 0))) (setV 0) bi (d2 ixD (am 1) (d2 lw (aw 2) (aw 0))))))
def fM(C:Addr):=mOf 2 2 (qZ C)
def wU(T:Txt K mg t):Ok P w K mg base t 17 1 fM:=
 (T.F 17).okI (nIq 17) λh=>af<|bt<|eC ["place","end","first"] 1 [1,0] [0] (by ext) (cD 0) cu<|by ext
def fD(C:Addr):=
  (aq (aW 3 (aj (jA C) (aV (f8 (!ae) 0 "web") (aB 2 nA))))
  (aq (dIf (cK (lS (f8 (!ae) 0 "first"))) (aq (jc (di ae "begin" 0 (dF C) (bT (bW (getV 1)) (bT (bW (getV 2)) (bT (bW (getV 3)) lW)))))
  (br (λz=>!.bl false))) dNx)
  (aq (dIf (asB (d2 ltd (aw 3) (f8 (!ae) 0 "best_row"))) (aq (iX ae 0 "least" (getV 2))
  (iX ae 0 "best_row" (getV 3))) dNx)
  (aq (dIf (asB (d2 eqD (aw 3) (f8 (!ae) 0 "first_row"))) (aq (yF (!ae) 0 "turnings" (aj (fM C) (aV (f8 (!ae) 0 "first") (aB 2 nA))))
  (br (λz=>!.bl true))) dNx)
  (br (λz=>!.bl false))))))
def cB(C:Addr):=qR 4 3 (fD C)
def lV(T:Txt K mg t):FnOk P w K mg base CX0 3 (fA 19002) (dA 19002) (dZ (top 19002)) (spO K (cB t.C)):=
 (T.F 19002).okO (nIq 19002) λh=>aa (cJ 3<|pcI (BP T) (T.G 15) h<|ay (pfB 0 T.cl_Search T.naR_web<|pv 0)<|by ext)<|aa (bJ (df<|tW<|PDE.r<|pfB 0 T.cl_Search T.naR_first<|pv 0) (aa (uZ<|G6 0 T.cl_Search T.mt_Search_begin (nK T) h (T.F 19001).bd (pv 0)<|eB (iG<|aJ 1)<|eB (iG<|aJ 2)<|eB (iG<|aJ 3) nW)<|by ext) aL)<|aa (bJ (f7 h.h64 (a_ 3)<|PDE.n<|pfB 0 T.cl_Search T.naR_best_row<|pv 0) (aa (iy 0 T.cl_Search T.naR_least (pv 0)<|aJ 2)<|af<|iy 0 T.cl_Search T.naR_best_row (pv 0)<|aJ 3) aL)<|aa (bJ (fY h.h64 (a_ 3)<|PDE.n<|pfB 0 T.cl_Search T.naR_first_row<|pv 0) (aa (HA 0 T.cl_Search T.naR_turnings (pv 0)<|pcI (wU T) (T.G 17) h<|ay (pfB 0 T.cl_Search T.naR_first<|pv 0)<|by ext)<|by ext) aL)<|by ext
def qh(C:Addr):=
  (bZ (asL (aR 1 [0] (fP (d1 bN (aw 0))) (setV 0) bi (d2 lw (aw 1) (aw 0)))))
def eK(C:Addr):=mOf 1 1 (qh C)
def vT(T:Txt K mg t):Ok P w K mg base t 16 1 eK:=
 (T.F 16).okI (nIq 16) λh=>af<|bt<|eC ["rank","parting"] 1 [0] [0] (by ext) (cD 0) cu<|by ext
def vx(C:Addr):=
  (br (d1 BR (asO (asL (aR 1 [0] (bY 1) (setV 0) bi (d2 eqD (d2 ixD (am 1) (am 0)) (aw 0)))))))
def fV(C:Addr):=mOf 2 2 (vx C)
def A7(T:Txt K mg t):Ok P w K mg base t 18 1 fV:=
 (T.F 18).okI (nIq 18) λh=>af<|aS<|E9 qx qx T.b_all<|PDE.n<|PDO.v<|eC ["place","turning"] 1 [0] [0] (jW 1) (cD 0) cu<|by ext
def gl0(C:Addr):=(asO (asL (aR 1 [0] (bY 1) (setV 0) bi (d2 ixD (am 0) (am 1)))))
def hb0(T:Txt K mg t){E:XK}{c:Addr}(h:Room 2 A):PDE (jg CX0 P w K mg base o0 f c' c A outer s H E) o0.body (gl0 t.C):=
 let h:=Room.deeper (k:=1) h (eD o0 s f c' c)
 (PDO.v (eC ["turning","at"] 1 [0] [0] (jW 1) (cD 0) cu (bL (aD 0) (aD 1))))
def gw(C:Addr):=
  (aq (aW 4 (asO (asL (aR 1 [1] (dw (d1 (gJ ae "turnings") (getV 0))) (setV 0) (asB (aj (fV C) (aB 0 (aB 1 nA)))) (getV 0)))))
  (br (d2 inD (aw 3) (asO (pP 8 4 (d_ (gl0 C)) (lend 2))))))
def bK(C:Addr):=mOf 5 4 (gw C)
def kq(T:Txt K mg t):Ok P w K mg base t 19003 4 bK:=
 (T.F 19003).okC (c:=nat_lit 139) (pm:=mdl 1) ["self","way","tried","place","leaving"] λh=>aa (cJ 4<|PDO.v<|eC ["turning","way"] 1 [1] [0] (ig<|gH T.cl_Search T.naR_turnings<|by ext) (cD 0) (wB<|cV<|pcI (A7 T) (T.G 18) h<|by ext)<|aJ 0)<|af<|aS<|L4 h.h64 (a_ 3)<|PDE.n<|PDO.v<|r_ (W:=MH) (j:=4) #[T.tb0,qx,qx,qx,qx,qx,qx,T.ch0,qx,qx] (rL T HN<|hb0 T) qx (h.mono<|by decide) qx T.g_q2 T.fn_q2.kp T.bd_q2<|Np 2<|pv 2
def vK(C:Addr):=
  (aq (aW 1 (asO (asL (lI (am 0)))))
  (bZ (asL (aR 1 [1] (bY 0) (setV 0) bi (d2 lw (aw 1) (aw 0))))))
def fZ(C:Addr):=mOf 2 1 (vK C)
def rq(T:Txt K mg t):Ok P w K mg base t 2 1 fZ:=
 (T.F 2).okI (nIq 2) λh=>aa (cJ 1<|PDO.v<|vw h.h80 qx qx T.b_sorted qx T.b_set<|aD 0)<|af<|bt<|eC ["key","values"] 1 [1] [0] (jW 0) (cD 0) cu<|by ext
def oC(C:Addr):=
  (br (d1 bN (d1 (gJ C "kinds") (am 0))))
def be(C:Addr):=mOf 1 1 (oC C)
def dQ(T:Txt K mg t):Ok P w K mg base t 40001 1 be:=
 (T.F 40001).okI (nIq 40001) λh=>af<|aS<|b_ qx T.b_len<|PDE.n<|gH T.cl T.na_kinds<|aD 0
def vA(C:Addr):=
  (aq (aW 3 (asO (asL (aR 1 [2] (fP (a8 C "size" (be C) (bp (bz 0) g0))) (setV 0) (asB (d2 neD (aw 0) (aw 1))) (getV 0)))))
  (aq (aW 4 (asO (asL (aR 1 [1,0,2] (bY 3) (setV 0) bi (asT (ai (d2 ixD (am 1) (am 0)) (ai (a8 C "between" (cA C) (bp (bz 2) (aV (getV 3) (aV (getV 0) nA)))) aP)))))))
  (br (asT (ai (d2 ixD (am 1) (am 2)) (ai (d1 ki (asO (asL (nC (am 4))))) aP))))))
def jt(C:Addr):=mOf 5 3 (vA C)
def Bs(T:Txt K mg t):Ok P w K mg base t 3 2 jt:=
 (T.F 3).okI (nIq 3) λh=>aa (Hs 3 ["other","place"] 1 [2] [0] (bu qx T.b_range<|PDE.r<|h9 (qP 0) T.cl T.mt_Web_size (dQ T) (h.mono<|by decide) (T.F 40001).bd) (cD 0) (by ext)<|aJ 0)<|aa (Hs 4 ["other","parting","web","place"] 1 [1,0,2] [0] (jW 3) (cD 0) cu<|bD<|ar (by ext)<|ar (nN (qP 2) T.cl T.mt_Web_between (jE T) (h.mono<|by decide) (T.F 40002).bd<|by ext) aG)<|by ext
def sK(C:Addr):=
  (bZ (asL (aR 1 [0,1] (fP (a8 C "size" (be C) (bp (bz 0) g0))) (setV 0) bi (aj (jt C) (aB 1 (aB 2 (aV (getV 0) nA)))))))
def gY(C:Addr):=mOf 2 2 (sK C)
def xy(T:Txt K mg t):Ok P w K mg base t 4 3 gY:=
 (T.F 4).okI (nIq 4) λh=>af<|bt<|eC ["place","web","parting"] 1 [0,1] [0] (bu qx T.b_range<|PDE.r<|h9 (qP 0) T.cl T.mt_Web_size (dQ T) (h.mono<|by decide) (T.F 40001).bd) (cD 0) cu<|pcI (Bs T) (T.G 3) h<|by ext
def zl(C:Addr):=
  (bZ (ni (fZ C) (aV (aj (gY C) (aB 0 (aB 1 nA))) nA)))
def eN(C:Addr):=mOf 2 2 (zl C)
def vQ(T:Txt K mg t):Ok P w K mg base t 5 4 eN:=
 (T.F 5).okI (nIq 5) λh=>af<|bt<|poI (rq T) (T.G 2) h<|ay (pcI (xy T) (T.G 4) h<|by ext) ak
def mT(C:Addr):=
  (aq (ck 2 (asL (ai (asO (asL (fq (am 1)))) aP)))
  (aq (aW 3 (aj (eN C) (aB 0 (aB 1 nA))))
  (aq (c9 (asB (d2 neD (aw 3) (d2 ixD (am 2) (d1 xQ (cI 1))))) (aq (iT 2 (getV 3))
  (aW 3 (aj (eN C) (aB 0 (aB 3 nA))))) 100)
  (j9 2))))
def fi(C:Addr):=mOf 4 2 (mT C)
def tZ(T:Txt K mg t):Ok P w K mg base t 6 5 fi:=
 (T.F 6).okI (nIq 6) λh=>aa (by ext)<|aa (cJ 3<|pcI (vQ T) (T.G 5) h<|by ext)<|aa (qt 100 PassesOwn.never (zB h.h64 (a_ 3)<|PDE.n<|bL (aD 2)<|PDE.r<|C4 ag)<|aa (by ext)<|af<|cJ 3<|pcI (vQ T) (T.G 5) h<|by ext)<|by ext
def rP(C:Addr):=
  (br (d2 ixD (aj (fi C) (aB 0 (aB 1 nA))) (d1 xQ (cI 1))))
def db(C:Addr):=mOf 2 2 (rP C)
def pX(T:Txt K mg t):Ok P w K mg base t 7 6 db:=
 (T.F 7).okI (nIq 7) λh=>af<|aS<|bL (PDE.r<|pcI (tZ T) (T.G 6) h<|by ext)<|PDE.r<|C4 ag
def mQ(C:Addr):=
  (aq (aW 2 (d2 ixD (am 0) (am 1)))
  (aq (dIf (asB (d2 eqD (d2 qS (aw 0) (aw 2)) (cI 1))) (bZ (asL (fq (am 0)))) dNx)
  (bZ (asL (aR 2 [2,1] (gG 0) (jU [0,1]) bi (ifV (orT (asB (d2 ltd (aw 1) (aw 2))) (asB (d2 eqD (aw 0) (aw 3)))) (getV 1) (d2 bP (am 1) (cI 1))))))))
def eW(C:Addr):=mOf 3 2 (mQ C)
def uT(T:Txt K mg t):Ok P w K mg base t 9 1 eW:=
 (T.F 9).okI (nIq 9) λh=>aa (by ext)<|aa (bJ (fY h.h64 (PDE.n<|vM h.h64 (a_ 0)<|a_ 2)<|by ext) (by ext) aL)<|af<|bt<|eC ["at","rank","own","place"] 2 [2,1] [0,1] (mF 0 qx T.b_enumerate<|pv 0) (jP (is:=[0,1]) rfl<|cb (pgI 0)<|cb (pgI 1) jL) cu<|xh (by ext) (aJ 1)<|by ext
def wu(C:Addr):=
  (br (aj (db C) (aB 0 (aV (aj (eW C) (aB 1 (aB 2 nA))) nA))))
def gZ(C:Addr):=mOf 3 3 (wu C)
def Bx(T:Txt K mg t):Ok P w K mg base t 10 7 gZ:=
 (T.F 10).okI (nIq 10) λh=>af<|aS<|pcI (pX T) (T.G 7) h<|bg 0<|ay (pcI (uT T) (T.G 9) h<|by ext) ak
def gm(C:Addr):=
  (br (d2 eqD (asO (asL (slL (d1 (gJ ae "way") (getV 0)) bNo (bI (d1 bN (aw 1)))))) (aw 1)))
def bM(C:Addr):=mOf 2 2 (gm C)
def ko(T:Txt K mg t):Ok P w K mg base t 19004 1 bM:=
 (T.F 19004).okI (nIq 19004) λh=>af<|aS<|wP h.h64 (PDE.n<|PDO.v<|mE (PDE.r<|gH T.cl_Search T.naR_way<|by ext) uC<|by ext)<|a_ 1
def dW(C:Addr)(R:Dz):=
  (aq (aW 3 (aj (de C) (aB 2 nA)))
  (aq (dIf (cK (lS (getV 3))) (vJ (di ae "arrive" 0 (cB C) (bT (bW (getV 1)) (bT (bW (aj (eK C) (aB 2 nA))) lW)))) dNx)
  (aq (ck 4 (asL aP))
  (aq (im (bY 3) (setV 5) (dIf (gz 4 (gz 0 (cK (asB (a8 ae "left_out" (bK C) (bp (bz 0) (aB 1 (aB 4 (aB 5 nA))))))))) (aq (iT 4 (getV 5))
  (aq (sj 6 (di ae "go" 0 R (bT (bW (d2 bP (am 1) (asO (asL (ai (getV 5) aP))))) (bT (bW (aj (gZ C) (aV (f8 (!ae) 0 "web") (aB 2 (aB 5 nA))))) lW))))
  (dIf (gz 0 (eV (asB (getV 6)) (cK (asB (a8 ae "on_first" (bM C) (bp (bz 0) (aB 1 nA))))))) (br (λz=>!.bl true)) dNx))) dNx))
  (br (λz=>!.bl false))))))
def cw(C:Addr):Nat->OD->List DV->Option (OD×D)
 |0=>λz z=>()
 |n+1=>qR 7 3 (dW C (cw C n))
theorem k6(T:Txt K mg t):∀n:Nat,FnOk P w K mg base CX0 (7+n) (fA 19005) (dA 19005) (dZ (top 19005)) (spO K (cw t.C n))
 |0=>FnOk.neverO
 |n+1=>(T.F 19005).okO (k:=7+n) (g:=dW t.C (cw t.C n)) (nIq 19005) λh=>aa (cJ 3<|pcI (qN T) (T.G 11) h<|by ext)<|aa (bJ (df<|tW<|by ext) (af<|Gy<|G6 0 T.cl_Search T.mt_Search_arrive (lV T) h (T.F 19002).bd (pv 0)<|eB (iG<|aJ 1)<|eB (iG<|pcI (vT T) (T.G 16) h<|by ext) nW) aL)<|aa (by ext)<|aa (pfI (jW 3) (cD 5)<|af<|bJ (ug 4<|ug 0<|df<|cV<|nN (qP 0) T.cl_Search T.mt_Search_left_out (kq T) (h.mono<|by lia) (T.F 19003).bd<|by ext) (aa (by ext)<|aa (Oi 6<|G6 0 T.cl_Search T.mt_Search_go (k6 T n) h (T.F 19005).bd (pv 0)<|eB (iG<|by ext)<|eB (iG<|pcI (Bx T) (T.G 10) h<|ay (pfB 0 T.cl_Search T.naR_web<|pv 0)<|by ext) nW)<|af<|bJ (ug 0<|PDW.t<|d7 (by ext)<|cW<|df<|cV<|nN (qP 0) T.cl_Search T.mt_Search_on_first (ko T) (h.mono<|by lia) (T.F 19004).bd<|by ext) (by ext) aL) aL)<|by ext
def iW(C:Addr):=
  (br (aj (db C) (aB 0 (aV (aj (fZ C) (aV (d1 (gJ C "kinds") (am 0)) nA)) nA))))
def cQ(C:Addr):=mOf 1 1 (iW C)
def mC(T:Txt K mg t):Ok P w K mg base t 8 7 cQ:=
 (T.F 8).okI (nIq 8) λh=>af<|aS<|pcI (pX T) (T.G 7) h<|bg 0<|ay (pcI (rq T) (T.G 2) h<|ay (gH T.cl T.na_kinds<|aD 0) ak) ak
def pR(C:Addr):=
  (aq (ck 1 (wz ae (dI C) (aV (getV 0) nA)))
  (aq (jc (di ae "go" 1 (cw C 8) (bT (bW (asO (asL aP))) (bT (bW (aj (cQ C) (aB 0 nA))) lW))))
  (BD 1 (br (asT (ai (d1 (gJ ae "first") (getV 1)) (ai (asO (asL (fq (d1 (gJ ae "least") (getV 1))))) (ai (d1 (gJ ae "turnings") (getV 1)) aP))))))))
def f_(C:Addr):=mOf 2 1 (pR C)
def vp(T:Txt K mg t):Ok P w K mg base t 20 16 f_:=
 (T.F 20).okI (nIq 20) λh=>aa (l8 1<|Bf T.mk_Search (nL T) (h.mono<|by decide) qx T.mg_Search (T.F 19000).bd<|by ext)<|aa (uZ<|G6 1 T.cl_Search T.mt_Search_go (k6 T 8) h (T.F 19005).bd (pv 1)<|eB (iG<|by ext)<|eB (iG<|pcI (mC T) (T.G 8) h<|by ext) nW)<|af<|G2 1<|aS<|bD<|ar (gH T.cl_Search T.naR_first<|by ext)<|ar (PDO.v<|fQ qx T.b_list<|PDE.r<|gH T.cl_Search T.naR_least<|by ext)<|ar (gH T.cl_Search T.naR_turnings<|by ext) aG
def i_(C:Addr):=
  (br (d2 ixD (aj (f_ C) (aV (getV 0) nA)) (cI 2)))
def a7(C:Addr):=mOf 1 1 (i_ C)
def dH(T:Txt K mg t):Ok P w K mg base t 49 17 a7:=
 (T.F 49).okI (nIq 49) λh=>af<|aS<|bL (PDE.r<|pcI (vp T) (T.G 20) h<|by ext)<|by ext
def hV(C:Addr):=
  (br (d1 bN (aj (cT C) (FK (aV (a8 C "size" (be C) (bp (bz 0) g0)) (aV (aj (a7 C) (aV (getV 0) nA)) nA))))))
def bB(C:Addr):=mOf 1 1 (hV C)
def gn(T:Txt K mg t):Ok P w K mg base t 51 18 bB:=
 (T.F 51).okI (nIq 51) λh=>af<|aS<|b_ qx T.b_len<|PDE.n<|B5 (kg T) (h.mono<|by decide) qx T.g_come_of T.fn_come_of.kp T.bdN_come_of<|ay (h9 (qP 0) T.cl T.mt_Web_size (dQ T) (h.mono<|by decide) (T.F 40001).bd)<|ay (pcI (dH T) (T.G 49) h<|by ext) ak
def wt(C:Addr):=
  (br (wg (d1 (G9 "int") (aw 0)) (Hk (d1 (G9 "bool") (aw 0)))))
def eY(C:Addr):=mOf 1 1 (wt C)
def kQ(T:Txt K mg t):Ok P w K mg base t 62 1 eY:=
 (T.F 62).okI (nIq 62) λh=>af<|aS<|oP (E5 qx T.b_isinstance qx T.b_int L2.boot_int<|a_ 0)<|s_<|E8<|E5 qx T.b_isinstance qx T.b_bool L2.boot_bool<|a_ 0
abbrev MT:List Str:=["size","turnings","made"]
def LM(C:Addr):=
  (aq (aW 2 (aj (cT C) (aV (getV 0) (aB 1 (aV (cI 720) nA)))))
  (aq (dIf (asB (d2 gtI (d1 bN (aw 2)) (cI 720))) j6 dNx)
  (bZ (asL (KY (getV 2))))))
def Eh(C:Addr):=mOf 3 2 (LM C)
def Mn(T:Txt K mg t):Ok P w K mg base t 46 5 Eh:=
 (T.F 46).okI (nIq 46) λh=>aa (cJ 2<|tF (kg T) (h.mono<|by decide) qx T.g_come_of T.fn_come_of.kp T.bd_come_of<|ay (aJ 0)<|bg 1<|ay (iE qx T.c_MOST_TOLD) ak)<|aa (bJ (mK (by ext)<|PDE.r<|iE qx T.c_MOST_TOLD) (af jn) aL)<|af<|bt<|Cr ["turning"] h.h64 qx T.b_sorted (aJ 2) (cD 0)<|by ext
def f6(C:Addr):=rzX 3 2 (vC (xOf (aW 2 (aj (cT C) (aV (getV 0) (aB 1 (aV (cI 720) nA))))))
  (vC (xIf (asB (d2 gtI (d1 bN (aw 2)) (cI 720))) (xEx 0) xNx)
  (λz=>())))
def wS(T:Txt K mg t):FnOk P w K mg base (CXc P w t.cl) 5 (fA 46) (dA 46) (dZ (top 46)) (v8 K t.cl (f6 t.C)):=
 (T.F 46).thrI MT λh=>(vN (Ni (cJ 2 (tF (kg T) (h.mono (by decide)) qx T.g_come_of T.fn_come_of.kp T.bd_come_of (ay (aJ 0) (bg 1 (ay (iE qx T.c_MOST_TOLD) ak)))))) (vN (Mt (mK (PDE.r (b_ qx T.b_len (a_ 2))) (PDE.r (iE qx T.c_MOST_TOLD))) (yM (DP (k:=0) qx (Hi 0) qx T.mx_TooMany (T.xi 0))) Gs) Aw))
abbrev Mw:List Str:=["web"]
def Mm(C:Addr):=
  (br (aj (Eh C) (aV (a8 C "size" (be C) (bp (bz 0) g0)) (aV (aj (a7 C) (aV (getV 0) nA)) nA))))
def Hy(C:Addr):=mOf 1 1 (Mm C)
def Na(T:Txt K mg t):Ok P w K mg base t 50 18 Hy:=
 (T.F 50).okI (nIq 50) λh=>af<|aS<|pcI (Mn T) (T.G 46) h<|ay (h9 (qP 0) T.cl T.mt_Web_size (dQ T) (h.mono<|by decide) (T.F 40001).bd)<|ay (pcI (dH T) (T.G 49) h<|by ext) ak
def cN(C:Addr):=rzX 1 1 (IG (aV (a8 C "size" (be C) (bp (bz 0) g0)) (aV (aj (a7 C) (aV (getV 0) nA)) nA)) (f6 C))
def mB(T:Txt K mg t):FnOk P w K mg base (CXc P w t.cl) 18 (fA 50) (dA 50) (dZ (top 50)) (v8 K t.cl (cN t.C)):=
 (T.F 50).thrI Mw λh=>(yM (GU (wS T) (h.mono (by decide)) qx (T.G 46).2 (T.F 46).fn.kp (T.F 46).bd (ay (h9 (qP 0) T.cl T.mt_Web_size (dQ T) (h.mono (by decide)) (T.F 40001).bd) (ay (pcI (dH T) (T.G 49) h (ay (aJ 0) ak)) ak))))
def jZ(C:Addr):=
  (aq (aW 1 (λz=>!.non))
  (aq (B9 (λa=>((aV (getV 0) nA) a).bind (cN C)) (cl2 eT iA) 2 1)
  (aq (dIf (orT (cK (asB (d1 (isE (fX eT iA true false)) (aw 1)))) (cK (asB (d1 (isE (fX eT iA true true)) (aw 1))))) (br (λz=>!.bl false)) dNx)
  (br (Hk (d1 (isE (fX eT iA false false)) (aw 1)))))))
def eP(C:Addr):=mOf 3 1 (jZ C)
theorem pY(T:Txt K mg t):Ok P w K mg base t 64 19 eP:=
 (T.F 64).okI (nIq 64) λh=>(aa (cJ 1 Ky) (aa (GP (ie:=2) (ic:=1) (cl:=t.cl) (AL (λy y z=>z) (mB T) (h.mono (by decide)) qx (T.G 50).2 (T.F 50).fn.kp (T.F 50).bd (ay (aJ 0) ak)) qx qx qx T.mx_WebError T.xm ndI qx qx (by decide) (λa o=>GM ndI qx qx qx qx)) (aa (bJ (PDW.t (kG (df (cV (KZ (DO #[T.exC 0,T.k0 0] #[T.exC 1,T.k0 1]) qx T.b_isinstance qx T.mx_TooMany (a_ 1)))) (iO (df (cV (FL (DO #[T.exC 0,T.k3 0] #[T.exC 1,T.k3 1]) qx T.b_isinstance qx T.b_ValueError (a_ 1))))))) (af (aS gu)) aL) (af (aS (E8 (HS (cs:=[t.x_BadOrder,t.x_BadText,t.x_TooGreat].map .ref) (cvs:=[t.x_BadOrder,t.x_BadText,t.x_TooGreat].map .ref) (DO #[T.exC 0,T.k4 0] #[T.exC 1,T.k4 1]) (rM _) (show 3<=sizeLine from by decide) (CF qx T.mx_BadOrder (CF qx T.mx_BadText (CF qx T.mx_TooGreat Nl))) qx T.b_isinstance (a_ 1))))))))
def nq(C:Addr):=
  (aq (ck 3 (asL (lF (getV 1))))
  (aq (ck 4 (asL aP))
  (aq (im (fP (am 1)) (setV 5) (iM 4 3 (aj (aU C) (aV (d2 bP (aj (aZ C) (aB 0 (aB 5 nA))) (d2 nD (am 5) (am 5))) (aB 2 (aV (d1 bN (aw 3)) nA))))))
  (j9 4))))
def dS(C:Addr):=mOf 6 3 (nq C)
def tT(T:Txt K mg t):Ok P w K mg base t 61 2 dS:=
 (T.F 61).okI (nIq 61) λh=>aa (l8 3<|j7 qx qx T.b_list qx T.b_range<|aJ 1)<|aa (by ext)<|aa (pfI (by ext) (cD 5)<|af<|AH 4 3 (pv 4) (pv 3)<|pcI (bj T) (T.G 55) h<|ay (bC (PDE.r<|pcI (bH T) (T.G 54) h<|by ext)<|by ext)<|by ext)<|by ext
def gl2(C:Addr):=(asO (asL (aR 1 [0] (bY 1) (setV 0) bi (d2 ixD (am 0) (am 1)))))
def hb2(T:Txt K mg t){E:XK}{c:Addr}(h:Room 2 A):PDE (jg CX0 P w K mg base oQ f c' c A outer s H E) oQ.body (gl2 t.C):=
 let h:=Room.deeper (k:=1) h (eD oQ s f c' c)
 (PDO.v (eC ["turning","at"] 1 [0] [0] (jW 1) (cD 0) cu (bL (aD 0) (aD 1))))
def nk(C:Addr):=
  (aq (ck 2 (asL aP))
  (aq (im (fP (am 0)) (setV 3) (aq (aW 4 (asO (asL (nC (asO (pP 8 1 (d_ (gl2 C)) (λa=>((asO (asL (ai (getV 3) aP))) a).map .v)))))))
  (dIf (asB (d2 lT (aw 4) (aw 2))) (iT 2 (getV 4)) dNx)))
  (j9 2)))
def eQ(C:Addr):=mOf 5 2 (nk C)
def uI(T:Txt K mg t):Ok P w K mg base t 47 4 eQ:=
 (T.F 47).okC (c:=nat_lit 371) (pm:=mdl 3) ["size","turnings","found","place","orbit"] λh=>aa (by ext)<|aa (pfI (by ext) (cD 3)<|aa (cJ 4<|PDO.v<|iB h.h64 qx T.b_sorted<|PDE.r<|PDO.v<|r_ (W:=L9) (j:=1) #[T.tb2,qx,qx,qx,qx,qx,qx,T.ch2,qx,qx] (rL T FW<|hb2 T) qx (h.mono<|by decide) qx T.g_q2 T.fn_q2.kp T.bd_q2<|Ip<|by ext)<|af<|bJ (Eo h.h64 (a_ 4)<|a_ 2) (by ext) aL)<|by ext
def vO(C:Addr):=
  (br (aj (eQ C) (aV (a8 C "size" (be C) (bp (bz 0) g0)) (aV (aj (a7 C) (aV (getV 0) nA)) nA))))
def jx(C:Addr):=mOf 1 1 (vO C)
def Bm(T:Txt K mg t):Ok P w K mg base t 52 18 jx:=
 (T.F 52).okI (nIq 52) λh=>af<|aS<|pcI (uI T) (T.G 47) h<|ay (h9 (qP 0) T.cl T.mt_Web_size (dQ T) (h.mono<|by decide) (T.F 40001).bd)<|ay (pcI (dH T) (T.G 49) h<|by ext) ak
def jo(C:Addr):=
  (aq (im (dw (aj (jx C) (aV (getV 0) nA))) (setV 2) (dIf (asB (d2 inD (aw 1) (aw 2))) (br (d1 bN (aw 2))) dNx))
  (br (cI 0)))
def cY(C:Addr):=mOf 3 2 (jo C)
def nH(T:Txt K mg t):Ok P w K mg base t 63 19 cY:=
 (T.F 63).okI (nIq 63) λh=>aa (pfI (ig<|pcI (Bm T) (T.G 52) h<|by ext) (cD 2)<|af<|bJ (MF h.h64 (a_ 1)<|a_ 2) (by ext) aL)<|by ext
def IC(C:Addr):=
  (aq (aW 1 (asO (asL (aR 1 [] (bY 0) (setV 0) bi (d2 eZ (am 0) (d2 kB (cI 10) (cI 40)))))))
  (aq (aW 2 (aj (iD C) (aB 1 (aV (cI 7) nA))))
  (aq (ck 3 (ni (gC C) (aB 1 (aB 2 nA))))
  (aq (aW 4 (aj (iL C) (aB 1 (aB 2 nA))))
  (aq (aW 5 (asO (iY C (cL C) (aB 3 (aB 4 nA)))))
  (aq (aW 6 (aj (bB C) (aV (getV 5) nA)))
  (aq (dIf (orT (cK (asB (aj (eY C) (aB 6 nA)))) (asB (d2 ltd (aw 6) (cI 1)))) (br (λz=>!.bl false)) dNx)
  (aq (dIf (eV (asB (d2 gtI (am 6) (cI 720))) (cK (asB (aj (eP C) (aV (getV 5) nA))))) (br (λz=>!.bl false)) dNx)
  (aq (dIf (eV (asB (d2 leI (am 6) (cI 720))) (asB (d2 neD (d1 bN (aj (Hy C) (aV (getV 5) nA))) (aw 6)))) (br (λz=>!.bl false)) dNx)
  (aq (im (n_ (aj (dS C) (aB 1 (aV (getV 2) (aV (cI 10139) nA))))) (jU [7,8]) (aq (aW 9 (aj (cY C) (aV (getV 5) (aB 8 nA))))
  (aq (qo 3 (getV 8) (d2 bP (λz=>!(.str "q")) (d2 ixD (λz=>!(.str "qrstuvw")) (am 7))))
  (aq (aW 5 (asO (iY C (cL C) (aB 3 (aB 4 nA)))))
  (aq (aW 10 (aj (bB C) (aV (getV 5) nA)))
  (aq (dIf (orT (cK (asB (aj (eY C) (aB 10 nA)))) (asB (d2 neD (aw 6) (d2 nD (am 9) (am 10))))) (br (λz=>!.bl false)) dNx)
  (aW 6 (getV 10))))))))
  (br (d2 eqD (aw 6) (cI 1)))))))))))))
def Dj(C:Addr):=mOf 11 1 (IC C)
open A in
def Lx(T:Txt K mg t):Ok P w K mg base t 65 20 Dj:=
 (T.F 65).okI (nIq 65) λh=>aa (Hs 1 ["_law_cell_here"] 1 [] [0] (jW 0) (cD 0) cu<|by ext)<|aa (cJ 2<|pcI (ww T) (T.G 59) h<|by ext)<|aa (l8 3<|poI (sZ T) (T.G 57) h<|by ext)<|aa (cJ 4<|pcI (vj T) (T.G 60) h<|by ext)<|aa (cJ 5<|PDO.v<|wj T.mkC (lD T) (h.mono<|by decide) qx T.mgC (T.F 40000).bd<|by ext)<|aa (cJ 6<|pcI (gn T) (T.G 51) h<|by ext)<|aa (bJ (PDW.t<|kG (df<|cV<|pcI (kQ T) (T.G 62) h<|by ext)<|by ext) (by ext) aL)<|aa (bJ (PDW.t<|d7 (by ext)<|cW<|df<|cV<|pcI (pY T) (T.G 64) h<|by ext) (by ext) aL)<|aa (bJ (PDW.t<|d7 (D5 (aD 6)<|by ext)<|cW<|zB h.h64 (PDE.n<|b_ qx T.b_len<|PDE.n<|pcI (Na T) (T.G 50) h<|by ext)<|a_ 6) (by ext) aL)<|aa (pfI (EO qx T.b_enumerate<|pcI (tT T) (T.G 61) h<|by ext) (jP (is:=[7,8]) rfl<|cb (pgI 7)<|cb (pgI 8) jL)<|aa (cJ 9<|pcI (nH T) (T.G 63) h<|by ext)<|aa (C7 3 (pv 3) (aJ 8)<|by ext)<|aa (cJ 5<|PDO.v<|wj T.mkC (lD T) (h.mono<|by decide) qx T.mgC (T.F 40000).bd<|by ext)<|aa (cJ 10<|pcI (gn T) (T.G 51) h<|by ext)<|aa (bJ (PDW.t<|kG (df<|cV<|pcI (kQ T) (T.G 62) h<|by ext)<|by ext) (by ext) aL)<|by ext)<|by ext
end
abbrev sI(i:Int):Option DV:=!.v (.int i)
abbrev sV(d:D):Option DV:=!.v d
abbrev oW(o:OD)(t:Option Addr):Option DV:=!.own o t
theorem h_{st}(I:Nat->DF->Prop):∀ds k ρ,I k ρ->
  (∀j d ρ,ds[j]?=!d->I (k+j) ρ->∃ρ1,st d ρ=!ρ1/\∃ρ',body ρ1=!.nx ρ'/\I (k+j+1) ρ')->∃ρ',gX st body ds ρ=!.nx ρ'/\I (k+ds.length) ρ'
 |[],k,ρ,h,_=>#[ρ,qx,h]
 |d::ds,k,ρ,h,hs=>by
  let#[ρ1,m,ρ',l,g]:=hs 0 d ρ qx h;let#[a,i,f]:=h_ I ds (k+1) ρ' g λj o b c e=>by
   have:=hs (j+1) o b (by simpa using c)<|by rwa[<-Nat.add_assoc,Vp]
   rwa [show k+(j+1)+1=k+1+j+1 by lia]at this
  exact#[a,?_,by rwa[Yq,show k+(ds.length+1)=k+1+ds.length by lia]];delta gX;rw[m];simp[l];exact i
def ph{st}(I:DF->Prop)(h:I ρ)(hs:∀d∈ds,∀ρ,I ρ->∃ρ1,st d ρ=!ρ1/\∃ρ',body ρ1=!.nx ρ'/\I ρ'):∃ρ',gX st body ds ρ=!.nx ρ'/\I ρ':=
 h_ (λz=>I) ds 0 ρ h λj d ρ a b=>hs d (YT a) ρ b
theorem bF{st}{c}{e}{a:Type}f F:∀xs:List a,(∀x∈xs,∃ρ1,st (f x) ρ=!ρ1/\c ρ1=!true/\e ρ1=!F x)->bO st c e ρ (xs.map f)=!xs.map F
 |[],_=>rfl
 |x::xs,h=>by
  let#[ρ1,j,i,g]:=h x Ye;rw[YI];delta bO;rw[j,Ya,i,Ya,Yk qx,g,Ya,bF f F xs λy b=>h y<|Yb _ b];rfl
theorem jG{st:Dq}{c:Dk}{e:Dd}{α:Type}(f:α->D)(G:α->Prop):∀ds:List D,(∀d∈ds,∃ρ1,st d ρ=!ρ1/\c ρ1=!true/\∃y,e ρ1=!f y/\G y)->∃ys:List α,bO st c e ρ ds=!ys.map f/\ys.length=ds.length/\∀y∈ys,G y
 |[],_=>#[[],qx,qx,λw h=>by cases h]
 |x::xs,h=>by
  let#[ρ1,m,l,y,j,i]:=h x Ye;let#[ys,b,a,q]:=jG f G xs λy g=>h y (Yb _ g)
  exact#[y::ys,?_,by simp[a],λz hz=>?_]
  .delta bO;rw[m,Ya,l,Ya,Yk qx,j,Ya,b];rfl
  .rcases Yt.mp hz with rfl|hz
   .exact i
   .exact q z hz
def jR i j:eqd (.int i) (.int j)=decide (i=j):=by
 let h:=dD (.int i) (.int j) qx;by_cases e:i=j
 .rw[YR e,h,e]
 .rw[YD e];cases q:eqd _ (.int j)with
  |false=>rfl
  |true=>exact absurd (by simpa using h.mp q) e
def K_ i j:eqd (.bl i) (.bl j)=decide (i=j):=by
 let h:=dD (.bl i) (.bl j) qx;by_cases e:i=j
 .rw[YR e,h,e]
 .rw[YD e];cases q:eqd _ (.bl j)with
  |false=>rfl
  |true=>exact absurd (by simpa using h.mp q) e
@[simp] theorem zO i j:eqD (.int i) (.int j)=!.bl (decide (i=j)):=by delta eqD;rfl
@[simp] theorem N1 i j:eqD (.bl i) (.bl j)=!.bl (decide (i=j)):=by delta eqD;rfl
@[simp] theorem Fy i j:neD (.int i) (.int j)=!.bl ((not<|decide (i=j))):=by delta neD;rfl
@[simp] theorem NB i j:ltd (.int i) (.int j)=!.bl (decide (i<j)):=rfl
@[simp] theorem Ny i j:gtI (.int i) (.int j)=!.bl (decide (j<i)):=rfl
@[simp] theorem NI i j:leA (.int i) (.int j)=!.bl (decide (i<=j)):=rfl
@[simp] theorem NG i j:ltI (.int i) (.int j)=!.bl (decide (i<j)):=rfl
@[simp] theorem L_ i j:bP (.int i) (.int j)=!.int (i+j):=rfl
@[simp] theorem Nu i j:AB (.int i) (.int j)=!.int (i-j):=rfl
def pA i j(h:(-(2^64)<i/\i<2^64)\/(-(2^64)<j/\j<2^64)):nD (.int i) (.int j)=!.int (i*j):=Yk<|YR h
def fj i j(h:0<j):eZ (.int i) (.int j)=!.int (i%j):=Yk<|YR h
@[simp] theorem NJ:kB (.int 10) (.int 30)=!.int 1000000000000000000000000000000:=rfl
section
variable{f:Dd}{fl:Dl}{fv:Dv}{c c':Dk}{h:Dw}
@[simp] theorem t9:aq g h ρ=match g ρ with|some (.nx ρ')=>h ρ'|r=>r:=rfl
@[simp] theorem gr:aW i f ρ=(f ρ).map λd=>.nx (ρ.set i (sV d)):=rfl
@[simp] theorem Fm:ck i fo ρ=(fo ρ).map λo=>.nx (ρ.set i (oW o ())):=rfl
@[simp] theorem uW:br f ρ=(f ρ).map λd=>.rt (.v d) ρ:=rfl
@[simp] theorem d4:bZ fo ρ=(fo ρ).map λo=>.rt (.own o ()) ρ:=rfl
@[simp] theorem Nt:j9 i ρ=match ρ[i]? with|some (!x)=>!.rt x ρ|_=>():=rfl
@[simp] theorem eI:dIf c g h ρ=(c ρ).bind λb=>if b then g ρ else h ρ:=rfl
@[simp] theorem Of:dNx ρ=!.nx ρ:=rfl
@[simp] theorem MK:zb f ρ=(f ρ).map λz=>.nx ρ:=rfl
@[simp] theorem Il:d1 F fa ρ=(fa ρ).bind F:=rfl
@[simp] theorem sx{F:Dy}:d2 F fa fb ρ=(fa ρ).bind λx=>(fb ρ).bind λy=>F x y:=rfl
@[simp] theorem NA:getV i ρ=match ρ[i]? with|some (!.v d)=>!d|_=>():=rfl
@[simp] theorem NL:am i ρ=match ρ[i]? with|some (!.v d)=>!d|some (!.own o _)=>if o.flat then !o.d else ()|some (!.bor o)=>if o.flat then !o.d else ()|_=>():=rfl
@[simp] theorem Nz:aw i ρ=match ρ[i]? with|some (!.v d)=>!d|some (!.own o _)=>!o.d|some (!.bor o)=>!o.d|_=>():=rfl
@[simp] theorem Nr:aB i fv ρ=match ρ[i]? with|some (!.own o _)=>(fv ρ).map λxs=>.bor o::xs|some (!.bor o)=>(fv ρ).map λxs=>.bor o::xs|some (!.v d)=>(fv ρ).map λxs=>.v d::xs|_=>():=rfl
@[simp] theorem No:aV f fv ρ=(f ρ).bind λd=>(fv ρ).map λxs=>.v d::xs:=rfl
@[simp] theorem vF:aj m fv ρ=(fv ρ).bind λxs=>(m xs).bind dvD:=rfl
@[simp] theorem MU:ni m fv ρ=(fv ρ).bind λxs=>(m xs).bind dvO:=rfl
@[simp] theorem Ff:asB f ρ=match f ρ with|some (.bl b)=>!b|_=>():=rfl
@[simp] theorem cG:asL fl ρ=(fl ρ).map .lst:=rfl
@[simp] theorem fU:asO fo ρ=(fo ρ).map OD.d:=rfl
@[simp] theorem N3:asT fl ρ=(fl ρ).map .tup:=rfl
@[simp] theorem MX:ai f fl ρ=(f ρ).bind λd=>(fl ρ).map λr=>d::r:=rfl
@[simp] theorem NE:aP ρ=![]:=rfl
@[simp] theorem tP:cK c ρ=(c ρ).map λb=>(not<|b):=rfl
@[simp] theorem NH:bi ρ=!true:=rfl
@[simp] theorem Ht:setV i d ρ=!ρ.set i (sV d):=rfl
@[simp] theorem N6:ifV c f fa ρ=(c ρ).bind λb=>if b then f ρ else fa ρ:=rfl
@[simp] theorem BK:fq f ρ=(f ρ).bind dJ:=rfl
def oH:nC f ρ=(f ρ).bind λd=>(dJ d).bind λds=>if bx ds then !aQ ds else ():=rfl
def G7{it}{st}:im it st g ρ=(it ρ).bind λds=>gX st g ds ρ:=rfl
@[simp] theorem NF:BD i g ρ=match ρ[i]? with|some (!.own o ())=>g (ρ.set i (sV (o.d)))|some (!.v d)=>g ρ|_=>():=rfl
def bb{own:Nat}{ix:List Nat}{it:Dl}{st:Dq}{e:Dd}:aR own ix it st c e ρ=(it ρ).bind λds=>if ds.length<=16777216 then bO st c e (jd own ix ρ) ds else ():=rfl
@[simp] theorem ND:eV c c' ρ=(c ρ).bind λb=>if b then c' ρ else !false:=rfl
@[simp] theorem NP:orT c c' ρ=(c ρ).bind λb=>if b then !true else c' ρ:=rfl
@[simp] theorem NC:wg f fa ρ=match f ρ with|some (.bl true)=>fa ρ|some (.bl false)=>!.bl false|_=>():=rfl
@[simp] theorem OA{F G:Dy}:chD F G fa fb fc ρ=(fa ρ).bind λx=>(fb ρ).bind λy=>match F x y with|some (.bl true)=>(fc ρ).bind λz=>G y z|some (.bl false)=>!.bl false|_=>():=rfl
@[simp] theorem Fb:dw f ρ=match f ρ with|some (.lst ds)=>!ds|_=>():=rfl
@[simp] theorem Mz:bY i ρ=match ρ[i]? with|some (!.bor (.lst ds))=>!ds|some (!.v (.lst ds))=>!ds|_=>():=rfl
def Ib:fP f ρ=match f ρ with|some (.int j)=>if -(2^62)<=j/\j<2^62 then !d8 0 j.toNat else ()|_=>():=rfl
def JB{b a:DF->Option (Option Int)}:slL f b a ρ=match f ρ with|some (.lst xs)=>(b ρ).bind λl=>(a ρ).map λh=>jX xs l h|_=>():=rfl
@[simp] theorem Gu:iT i f ρ=match ρ[i]? with|some (!.own (.lst ds) t)=>(f ρ).bind λd=>if ds.length<16777216 then !.nx (ρ.set i (oW (.lst (ds++[d])) t)) else ()|_=>():=rfl
@[simp] theorem MR:Nj is f ρ=(f ρ).bind λd=>(jU is d ρ).map .nx:=rfl
@[simp] theorem OP:bI f ρ=match f ρ with|some (.int i)=>!!i|_=>():=rfl
@[simp] theorem Oz:bNo ρ=!():=rfl
end
@[simp] theorem O2:(OD.lst ds).d=.lst ds:=rfl
@[simp] theorem O7{ds:List (List Key×D)}:(OD.dT ds).d=.dT ds:=rfl
@[simp] theorem OT{ds:List (Key×D)}:(OD.dK ds).d=.dK ds:=rfl
@[simp] theorem OX{ds:List (Str×D)}:(OD.ins C ds).d=.ins C ds:=rfl
@[simp] theorem O1:(OD.lst ds).flat:=rfl
@[simp] theorem OS{ds:List (List Key×D)}:(OD.dT ds).flat:=rfl
@[simp] theorem OU{ds:List (Key×D)}:(OD.dK ds).flat:=rfl
@[simp] theorem O3{ds:List (Str×D)}:(OD.ins C ds).flat:=rfl
@[simp] theorem OR:dvD (.v d)=!d:=rfl
@[simp] theorem OZ{o:OD}{t:Option Addr}:dvD (.own o t)=!o.d:=rfl
@[simp] theorem O5{o:OD}{t:Option Addr}:dvO (.own o t)=!o:=rfl
@[simp] theorem O6{x}:bv (!.rt x ρ)=!x:=rfl
@[simp] theorem O4:bv (!.nx ρ)=sV (.non):=rfl
@[simp] theorem OY:oN (sV d)=sV d:=rfl
@[simp] theorem O0{o:OD}{t:Option Addr}:oN (oW o t)=!.bor o:=rfl
@[simp] theorem OW{o}:oN (!.bor o)=!.bor o:=rfl
@[simp] theorem NK{own:Nat}{ix:List Nat}:jd own ix ρ=List.replicate own ()++ix.map λj=>oN (ρ[j]?).join:=rfl
@[simp] theorem Ov:dJ (.lst ds)=!ds:=rfl
@[simp] theorem dm:dJ (.tup ds)=!ds:=rfl
@[simp] theorem Mr:bN (.lst ds)=!.int ds.length:=rfl
@[simp] theorem OV:bN (.tup ds)=!.int ds.length:=rfl
def ix1{i}:ixD (.lst ds) (.int i)=atI ds i:=rfl
def ix2{i}:ixD (.tup ds) (.int i)=atI ds i:=rfl
@[simp] theorem OB{n p}:mOf n p g xs=if xs.length=p then bv (g (aK n p xs))else ():=rfl
@[simp] theorem LG{n p}:aK n p xs=xs.map some++List.replicate (n-p) ():=rfl
def okW(x:Str):=1<=x.cps.size/\x.cps.size<=3/\∀c∈x.cps.toList,97<=c/\c<=122
theorem sr{a b:Type}(f:a->b):∀(l:List a) k,(l.map f).eraseIdx k=(l.eraseIdx k).map f
 |[],_=>rfl
 |_::_,0=>rfl
 |x::l,k+1=>by rw[YI,Vt,Vt,YI,sr]
theorem D8{n:Nat}{k:Int}(h:0<=k)(h1:k<n)(a:n<1000):yV n (.int k)=!k.toNat:=by
 show(if -(2^63)<=k/\k<2^63 then seqIndex? k n else ())=_;rw[Yk<|by lia];delta seqIndex?;have e:¬k<0:=by lia
 simp[e,h1]
theorem i5{a:Type}:∀(l:List a) k h,(l[k]::l.eraseIdx k).Perm l
 |x::l,0,_=>.refl _
 |x::l,k+1,h=>by
  have:=i5 l k (by simpa using h);exact(List.Perm.swap _ _ _).trans<|this.cons x
def ah(n:Int):=(List.range n.toNat).map λi:Nat=>(i:Int)
def aE n:(ah n).length=n.toNat:=by simp[ah]
theorem ap{n i}:i∈ah n↔0<=i/\i<n:=by
 delta ah;rw[Yg];constructor
 .rintro⟨k,h,rfl⟩;have:=Zg.mp h;lia
 .rintro⟨b,a⟩;exact#[i.toNat,Zg.mpr<|by lia,by lia]
theorem eJ n:(ah n).Nodup:=by delta ah;rw[List.Nodup,Xl];exact(List.nodup_range).imp λh e=>h<|by lia
def lX n:d8 0 n.toNat=(ah n).map D.int:=by delta d8 ah;simp
def dP(p:Int×Int):D:=.tup [.int p.1,.int p.2]
def okP(n:Int)(p:Int×Int):=0<=p.1/\p.1<n/\0<=p.2/\p.2<n/\p.1≠p.2
def iU{a}:mOf n 1 g [a]=bv (g (aK n 1 [a])):=rfl
def iV{a b}:mOf n 2 g [a,b]=bv (g (aK n 2 [a,b])):=rfl
def yD{a b c}:mOf n 3 g [a,b,c]=bv (g (aK n 3 [a,b,c])):=rfl
def FQ(h:((ah n).map D.int)[j]?=!d):d=.int j:=by
 delta ah at h;rw[Yw,Yw]at h;cases q:(List.range n.toNat)[j]? with
 |none=>rw[q]at h;cases h
 |some k=>
  rw[q]at h;let#[b,a]:=Yo.mp q;rw[List.getElem_range]at a;subst a;cases h;rfl
abbrev T4:=Int×Int×Int×Bool
def dT4(t:T4):D:=.tup [.int t.1,.int t.2.1,.int t.2.2.1,.bl t.2.2.2]
def okT(n:Int)(t:T4):=0<=t.1/\t.1<n/\0<=t.2.1/\t.2.1<n/\t.1≠t.2.1/\0<=t.2.2.1/\t.2.2.1<1000000000000000000000000000000
def JC{a}{l:List a}{i:Int}(h:0<=i)(h1:i<l.length):atI l i=l[i.toNat]?:=by delta atI ixN;rw[Yk h,Yk h1];rfl
theorem jF{a b:Type}{l:List a}(f:a->b){i:Int}(c:0<=i)(h1:i<l.length):∃x,l[i.toNat]?=!x/\atI (l.map f) i=!f x:=by
 have h:i.toNat<l.length:=by lia
 exact#[l[i.toNat],Yh h,?_];rw[JC c<|by rwa[Yc],Yw,Yh];rfl
theorem qm{a}l(x:a):atI (l++[x]) (-1)=!x:=by
 delta atI ixN;rw[Ym<|by decide,Yk<|by rw[Yr,YN];lia,Yr,YN];have:(-1+((l.length+1:Nat):Int)).toNat=l.length:=by lia
 rw[this,Ya,ZA<|Yp _,Nat.sub_self];rfl
theorem aN(a:1<=n)(p:out.Perm (ah n)):out.length=n/\out.Nodup/\∀x∈out,0<=x/\x<n:=
 #[by rw[p.length_eq,aE];lia,p.nodup_iff.mpr<|eJ n,λx h=>ap.mp<|p.mem_iff.mp h]
def L8(h:out.Nodup){x y}(hi:out[i]?=!x)(f:out[j]?=!y)(a:i≠j):x≠y:=by intro e;subst e;let#[l,c]:=Yo.mp hi;let#[g,b]:=Yo.mp f;exact a<|(List.getElem_inj h).mp<|c.trans b.symm
theorem iH{f}(h:f ρ=!.int n)(b:0<=n/\n<=1000):fP f ρ=!(ah n).map .int:=by
 have a:-(2^62)<=n/\n<2^62:=by lia
 rw[Ib,h];simp only;rw[Yk a,lX]
def ao{h}(e:g ρ=!.nx ρ'):aq g h ρ=h ρ':=by rw[t9,e]
def iK{h}{x}(e:g ρ=!.rt x ρ'):aq g h ρ=!.rt x ρ':=by rw[t9,e]
def lf(t:T4):=if t.2.2.2\/t.1<t.2.1 then t else(t.2.1,t.1,t.2.2.1,t.2.2.2)
def LI(h:okT n t):okT n (lf t):=by
 delta lf;split
 .exact h
 .let#[a,b,c,d,e,f]:=h;exact#[c,d,a,b,λq=>e q.symm,f]
def BH(ts:List T4)(h:ts.length<64):bx (ts.map dT4):=by
 delta bx;simp only[Yn,YS,Yl,Yc];exact#[#[#[#[h,?_],?_],?_],?_]
 .intro x a;let#[t,_,rfl]:=Yg.mp a;rfl
 .intro x a y b;let#[t,_,rfl]:=Yg.mp a;let#[u,_,rfl]:=Yg.mp b;rfl
 .intro x a;let#[t,_,rfl]:=Yg.mp a;rfl
 .intro x a;let#[t,_,rfl]:=Yg.mp a;rfl
def Ca(ts:Qj)(h:ts.length<64):bx (ts.map D.int):=by
 delta bx;simp only[Yn,YS,Yl,Yc];exact#[#[#[#[h,?_],?_],?_],?_]
 .intro x a;let#[t,_,rfl]:=Yg.mp a;rfl
 .intro x a y b;let#[t,_,rfl]:=Yg.mp a;let#[u,_,rfl]:=Yg.mp b;rfl
 .intro x a;let#[t,_,rfl]:=Yg.mp a;rfl
 .intro x a;let#[t,_,rfl]:=Yg.mp a;rfl
def fJ{b:Type}f(g:D->b)(c:∀a,g (f a)=a){l}{ts}(h:l.Perm (ts.map f)):∃us:List b,l=us.map f/\us.Perm ts:=by
 exact#[l.map g,?_,?_]
 .rw[YH]
  conv=>lhs;rw[<-XD l]
  exact Zb λx e=>?_;let#[t,_,rfl]:=Yg.mp<|h.mem_iff.mp e;show _=f _;rw[c];rfl
 .have:=h.map g;rwa[YH,show g ∘ f=id from funext c,XD]at this
def Oh:D->T4
 |.tup [.int a,.int b,.int k,.bl o]=>(a,b,k,o)
 |_=>(0,0,0,false)
def unI:D->Int
 |.int a=>a
 |_=>0
def Hb ts:∃us:List T4,aQ (ts.map dT4)=us.map dT4/\us.Perm ts:=fJ dT4 Oh (λz=>rfl)<|a9 _
def kAt(ks:List Str)(x:Int):=(ks[x.toNat]?).getD #[#[[]]]
def pN [DecidableEq κ]k k' v:∀kvs:List (κ×D),c_ (fm kvs k v) k'=if k=k' then !v else c_ kvs k':=by
 intro kvs;delta fm;split
 .rename_i h;induction kvs with
  |nil=>simp at h
  |cons x r ih=>
   let#[q,w]:=x;by_cases e:q=k
   .subst e;by_cases f:q=k'
    .simp[bQ,f]
    .have g:∀r:List<|κ×D,c_ (r.map λc=>if c.1=q then(c.1,v)else c) k'=c_ r k':=by
      intro r;induction r with
      |nil=>rfl
      |cons y r ih=>
       let#[a,b]:=y;by_cases i:a=q
       .subst i;simp[bQ,f,ih]
       .simp[bQ,i,ih]
     simp[bQ,f,g]
   .have l:(r.any λc=>decide<|c.1=k):=by simpa[e]using h
    have:=ih l;by_cases f:q=k'
    .subst f;simp[bQ,e,show ¬k=q from λz=>e z.symm]
    .simp[e,bQ,f];exact this
 .rename_i h;induction kvs with
  |nil=>simp[c_]
  |cons x r ih=>
   let#[q,w]:=x;have j:¬q=k:=by intro z;exact h<|by simp[z]
   have g:¬(r.any λc=>decide<|c.1=k):=λz=>h<|by simp[z]
   have:=ih g;rw[List.cons_append,bQ,bQ,this];by_cases e:k=k'
   .subst e;simp[j]
   .simp[e]
def vL [DecidableEq κ]k v(kvs:List (κ×D)):(fm kvs k v).length<=kvs.length+1:=by
 delta fm;split
 .simp
 .simp
theorem vD x:∀out:Qj,x∈out->i4 (.int x) (out.map .int)=!out.idxOf x
 |y::out,h=>by
  rw[YI];delta i4;rw[jR,List.idxOf_cons];by_cases e:y=x
  .simp[e]
  .have a:x∈out:=by rcases Yt.mp h with rfl|h;exact absurd qx e;exact h
   have b:(y == x)=false:=by simpa using e
   rw[vD x out a,Ym<|by simpa using e,b];rfl
def wp{c e}(f:c->e)l a b:jX (l.map f) a b=(jX l a b).map f:=by delta jX;rw[Yc,List.map_take,List.map_drop]
def okK(n:Int)(ks:List Str):=ks.length=n/\∀k∈ks,okW k
def okS(n:Int)(ts:List T4):=ts.length<=12/\∀t∈ts,okT n t
theorem js{c}q:∀xs:Qj,(∀x∈xs,c (ρ.set 0 (sI x))=!q x)->0<ρ.length->bO (setV 0) c (getV 0) ρ (xs.map .int)=!(xs.filter q).map .int
 |[],_,_=>rfl
 |x::xs,h,hl=>by
  let ih:=js q xs (λy a=>h y<|Yb _ a) hl;let b:=h x Ye;rw[YI];delta bO;rw[Ht,Ya,b,Ya,List.filter_cons];cases q x with
  |false=>rw[Ym<|by decide,Ym<|by decide,ih]
  |true=>
   have e:getV 0 (ρ.set 0<|sI x)=!.int x:=by delta getV;rw[ZN hl]
   rw[Yk qx,Yk qx,e,Ya,ih];rfl
theorem AF(l:List α)(h:0<=k):jX l (!k) ()=l.drop k.toNat:=by
 delta jX HT.sIx;simp;rw[Ym<|by lia];by_cases a:k.toNat<=l.length
 .rw[Nat.min_eq_left a,<-VI,XH]
 .rw[Nat.min_eq_right<|by lia,Nat.sub_self,List.take_zero,Vv<|by lia]
def EI xs ys(h:xs.length+ys.length<=16777216):bP (.lst xs) (.lst ys)=!.lst (xs++ys):=Yk h
def fL{it}{st}(h:it ρ=!ds)(e:gX st g ds ρ=!r):im it st g ρ=!r:=by rwa[G7,h]
theorem n6 C x(h:okW x):cS C [.v (.str x)]=sV (.bl true):=by
 let#[w,u,g]:=h;have p:bO (setV 0) bi (chD leA leA (λt=>some<|.str "a") (aw 0) λt=>some<|.str "z") [()] (L2.signs x)=!(x.cps.toList.map λt=>D.bl true):=by
  exact bF _ _ _ λc f=>?_;let#[z,y]:=g c f;have e:leA (.str "a") (.str #[#[[c]]])=!.bl true:=by
   show some (D.bl<|(not<|decide ([c] < [97])))=_;have:¬([c] < [97]):=λh=>by rcases List.cons_lt_cons_iff.mp h with h|⟨_,h⟩;lia;exact absurd h<|List.not_lt_nil _
   rw[YD this];rfl
  have l:leA (.str #[#[[c]]]) (.str "z")=!.bl true:=by
   show some (D.bl<|(not<|decide ([122] < [c])))=_;have:¬([122] < [c]):=λh=>by rcases List.cons_lt_cons_iff.mp h with h|⟨_,h⟩;lia;exact absurd h<|List.not_lt_nil _
   rw[YD this];rfl
  simp[e,l]
 have b:(L2.signs x).length<=16777216:=by delta L2.signs;rw[Yc,Zi];lia
 have o:BR (.lst<|x.cps.toList.map λt=>D.bl true)=!.bl true:=by
  have s:((x.cps.toList.map λt=>D.bl true).all xV):=by simp[xV]
  have q:((x.cps.toList.map λt=>D.bl true).all trD):=by simp[trD]
  show(if((x.cps.toList.map λt=>D.bl true).all xV) then !D.bl _ else ())=_;rw[Yk s,q]
 have m:bN (.str x)=!.int x.cps.size:=Yk (show x.cps.size<=16777216 by lia);have a:aR 1 [] (sF<|getV 0) (setV 0) bi (chD leA leA (λt=>some<|.str "a") (aw 0) λt=>some<|.str "z") [sV<|.str x,()]=!(x.cps.toList.map λt=>D.bl true):=by have:sF (getV 0) [sV<|.str x,()]=!_:=rfl;rwa[bb,this,Ya,Yk b]
 delta cS iZ;have j:1<=(x.cps.size:Int):=by lia
 have i:(x.cps.size:Int)<=3:=by lia
 simp[a,o,m,j,i]
def IZ C t n(h:okT n t):gP C [.v (dT4 t),.v (.int n)]=sV (.bl true):=by
 let#[a,b,k,o]:=t;let#[l,j,g,b1,i,e,c]:=h;have q:atI [D.int a,.int b,.int k,.bl o] 0=!_:=rfl;have p:atI [D.int a,.int b,.int k,.bl o] 1=!_:=rfl;have m:atI [D.int a,.int b,.int k,.bl o] 2=!_:=rfl;have f:du C [.v<|.int k]=sV (.bl true):=by simp[du,j8,e,c]
 delta gP vf;simp[dT4,ix2,q,p,m,l,j,g,b1,i,f]
theorem AK C ks ts n(e:1<=n/\n<=7)(f:okK n ks)(hs:okS n ts):cZ C [.bor (.lst (ks.map .str)),.v (.lst (ts.map dT4))]=sV (.non):=by
 let i:=n6 C;let g:=λt h=>IZ C t n h
 delta cZ jD;generalize cS C=P at i ⊢;generalize gP C=T at g ⊢;let b:=f.1;let m:=e.1;let l:=e.2;have j:¬12<(ts.length:Int):=by have:=hs.1;lia
 have q:∀G,(aq (dIf (cK<|asB<|chD leA leA (cI 1) (d1 bN<|aw 0)<|cI 7) j6 dNx)<|aq (dIf (asB<|d2 gtI (d1 bN<|aw 1)<|cI 12) j6 dNx) G) (aK 4 2 [.bor<|.lst<|ks.map .str,.v<|.lst<|ts.map dT4])=G [some<|.bor<|.lst<|ks.map .str,sV<|.lst<|ts.map dT4,(),()]:=by intro G;simp[b,m,l,j]
 let#[s,p,y,rfl]:=ph (st:=setV 2) (body:=(dIf (cK<|asB<|aj P<|aV (getV 2) nA) j6 dNx)) (λρ=>∃x2,ρ=[some<|.bor<|.lst<|ks.map .str,sV<|.lst<|ts.map dT4,x2,()]) (ds:=ks.map .str) (ρ:=[some<|.bor<|.lst<|ks.map .str,sV<|.lst<|ts.map dT4,(),()]) #[_,qx] (by
  rintro d c _ ⟨x2,rfl⟩;let#[k,a,rfl]:=Yg.mp c;have:=i k<|f.2 k a;exact#[[some<|.bor<|.lst<|ks.map .str,sV<|.lst<|ts.map dT4,sV<|.str k,()],qx,[some<|.bor<|.lst<|ks.map .str,sV<|.lst<|ts.map dT4,sV<|.str k,()],?_,_,qx];simp[this])
 let#[z,o,u,rfl]:=ph (st:=setV 3) (body:=(dIf (cK<|asB<|aj T<|aB 3<|aV (d1 bN<|aw 0) nA) j6 dNx)) (λρ=>∃x,ρ=[some<|.bor<|.lst<|ks.map .str,sV<|.lst<|ts.map dT4,y,x]) (ds:=ts.map dT4) (ρ:=[some<|.bor<|.lst<|ks.map .str,sV<|.lst<|ts.map dT4,y,()]) #[_,qx] (by
  rintro d c _ ⟨x2,rfl⟩;let#[k,a,rfl]:=Yg.mp c;have:=g k<|hs.2 k a;exact#[[some<|.bor<|.lst<|ks.map .str,sV<|.lst<|ts.map dT4,y,sV<|dT4 k],qx,[some<|.bor<|.lst<|ks.map .str,sV<|.lst<|ts.map dT4,y,sV<|dT4 k],?_,_,qx];simp[b,this])
 rw[iV,q,ao<|fL (ds:=ks.map D.str) qx p,fL (ds:=ts.map dT4) qx o];rfl
def BL C t:c8 C [.v (dT4 t)]=sV (dT4 (lf t)):=by
 let#[a,b,k,o]:=t;have g:atI [D.int a,.int b,.int k,.bl o] 0=!_:=rfl;have f:atI [D.int a,.int b,.int k,.bl o] 1=!_:=rfl;have c:atI [D.int a,.int b,.int k,.bl o] 2=!_:=rfl;have e:atI [D.int a,.int b,.int k,.bl o] 3=!_:=rfl;delta c8 jm;cases o with
 |true=>simp[dT4,ix2,e,lf]
 |false=>
  by_cases h:a<b
  .simp[dT4,ix2,g,f,e,lf,h]
  .simp[dT4,ix2,g,f,c,e,lf,h]
def Cb(ts:List (Int×Int))(h:ts.length<64):bx (ts.map dP):=by
 delta bx;simp only[Yn,YS,Yl,Yc];exact#[#[#[#[h,?_],?_],?_],?_]
 .intro x a;let#[t,_,rfl]:=Yg.mp a;rfl
 .intro x a y b;let#[t,_,rfl]:=Yg.mp a;let#[u,_,rfl]:=Yg.mp b;rfl
 .intro x a;let#[t,_,rfl]:=Yg.mp a;rfl
 .intro x a;let#[t,_,rfl]:=Yg.mp a;rfl
def unP:D->Int×Int
 |.tup [.int a,.int b]=>(a,b)
 |_=>(0,0)
def Eg{fk}:o9 j fk fv ρ=match ρ[j]? with
 |some (some<|.own (.dT kvs) t)=>(fv ρ).bind λv=>(fk ρ).bind λy=>(jf y).bind λk=>if kvs.length<16777216 then !(.nx<|ρ.set j<|oW (.dT<|fm kvs k v) t)else ()
 |_=>():=rfl
def qG{fd fk}:k_ fd fk fx ρ=match fd ρ with
 |some (.dT kvs)=>(fk ρ).bind λy=>(jf y).bind λk=>(fx ρ).map λx=>(c_ kvs k).getD x
 |_=>():=rfl
def wFs(ks:List Str)(T J:D):List (Str×D):=[("kinds",.lst<|ks.map .str),("ties",T),("joins",J)]
theorem n1:¬(("kinds":Str) = "ties"):=by decide+kernel
theorem n2:¬(("kinds":Str) = "joins"):=by decide+kernel
theorem n3:¬(("ties":Str) = "joins"):=by decide+kernel
theorem b1:(("ties":Str) == "kinds")=false:=by decide+kernel
theorem b2:(("size":Str) == "kinds")=false:=by decide+kernel
theorem b3:(("size":Str) == "ties")=false:=by decide+kernel
theorem b4:(("size":Str) == "joins")=false:=by decide+kernel
def uq:gJ C n (.ins C fs)=fs.lookup n:=Yk qx
def mh C ks T J:gJ C "kinds" (.ins C (wFs ks T J))=!.lst (ks.map .str):=by rw[uq];delta wFs;simp
def Ia ks T J:(wFs ks T J).lookup ("size":Str)=():=by delta wFs;simp[List.lookup,b2,b3,b4]
def EY:rX C i n fv ρ=match ρ[i]? with
 |some (some<|.own (.ins C' fs) t)=>if C'=C then(fv ρ).bind λd=>if fs.length<1000 then !(.nx<|ρ.set i<|oW (.ins C<|qu n d fs) t)else () else ()
 |_=>():=rfl
def srt(ts:List T4):=aQ<|(ts.map lf).map dT4
def wA(r:Qj):okN 30 (.lst (r.map .int)):=by show(r.map D.int).all _;rw[Yl];intro x h;let#[t,_,rfl]:=Yg.mp h;rfl
def Li r:∃u:Qj,aQ (r.map .int)=u.map .int/\u.Perm r:=fJ D.int unI (λz=>rfl)<|a9 _
theorem u7:∀a b:Qj,ba (a.map .int) (b.map .int)
 |[],_=>rfl
 |_::_,[]=>rfl
 |x::a,y::b=>by
  rw[YI,YI];show(aA _ _&&ba _ _);rw[u7];rfl
def wI{a b:Qj}(h:a.map D.int=b.map D.int):a=b:=by have:=YW (List.map unI) h;rwa[YH,YH,show unI ∘ D.int=id from rfl,XD,XD]at this
theorem Jv{r:Qj}(e:1<=n)(b:okK n ks)(p:r.Perm (ah n)):okK n (r.map (kAt ks)):=by
 let#[g,m,f]:=aN e p;exact#[by rwa[Yc],λk h=>?_];let#[x,c,rfl]:=Yg.mp h;let#[l,j]:=f x c;let i:=b.1;have a:x.toNat<ks.length:=by lia
 delta kAt;rw[Yh a];exact b.2 _<|Xh a
theorem f9{c:Type}f(h:∀x y,aA (f x) (f y)):∀a b:List c,ba (a.map f) (b.map f)
 |[],_=>rfl
 |_::_,[]=>rfl
 |x::a,y::b=>by
  show(aA (f x) (f y)&&ba _ _);rw[f9 f h a b,h];rfl
def Cs{b:Type}f(h:∀x y,aA (f x) (f y))(a:List b):eqd (.lst (a.map f)) (.lst (a.map f)):=(lM _ _<|f9 f h a a).mpr qx
def CG{x}(hx:okN 30 x)(h:okN 30 y):eqD x y=!.bl (eqd x y):=Yk<|by rw[hx,h];rfl
def J4{x}(hx:okN 30 x)(h:okN 30 y):neD x y=!.bl ((not<|eqd x y)):=Yk<|by rw[hx,h];rfl
def Jt(ps:List (Int×Int)):Cmps 28 (ps.map dP):=
 #[λx h=>by let#[t,_,rfl]:=Yg.mp h;rfl,λx h y a=>by let#[t,_,rfl]:=Yg.mp h;let#[u,_,rfl]:=Yg.mp a;rfl]
def prs(i j:Int)(t:T4):List (Int×Int):=(if t.1=i/\t.2.1=j then[(t.2.2.1,if t.2.2.2 then 1 else 0)]else[])++(if t.2.1=i/\t.1=j then[(t.2.2.1,if t.2.2.2 then 2 else 0)]else[])
def bq(i j:Int):List T4->List (Int×Int)
 |[]=>[]
 |t::ts=>prs i j t++bq i j ts
def srP(ps:List (Int×Int)):D:=.tup<|aQ<|ps.map dP
def lJ{ps q}(h:ps.Perm q):srP ps=srP q:=by delta srP;rw[kh (h.map dP)<|Jt _]
def BZ i j ts us:bq i j (ts++us)=bq i j ts++bq i j us:=by
 induction ts with
 |nil=>rfl
 |cons t ts ih=>
  show prs i j t++bq i j (ts++us)=prs i j t++bq i j ts++bq i j us;rw[ih,Zv]
def Dp i j ts t:bq i j (ts++[t])=bq i j ts++prs i j t:=by rw[BZ];show _++(prs i j t++[])=_;rw[YZ]
def BI{i j}{us}(h:ts.Perm us):(bq i j ts).Perm (bq i j us):=by
 induction h with
 |nil=>exact .refl _
 |cons t _ ih=>exact ih.append_left _
 |swap a b l=>
  show(prs i j b++(prs i j a++bq i j l)).Perm<|prs i j a++(prs i j b++bq i j l);rw[<-Zv,<-Zv];exact List.perm_append_comm.append_right _
 |trans _ _ h1 h2=>exact h1.trans h2
def Kn i j t(h:t.1≠t.2.1):prs i j (lf t)=prs i j t:=by
 let#[a,b,k,o]:=t;delta lf;split
 .rfl
 .rename_i q;have f:o=false:=by cases o with|false=>rfl|true=>exact absurd (Or.inl qx) q
  subst f;delta prs;by_cases e:a=i/\b=j
  .have c:¬(b=i/\a=j):=λz=>h<|by rw[e.1,<-z.1]
   simp[e];simp[e]at c;split
   .rename_i z;exact absurd z.2<|c z.1
   .rfl
  .by_cases c:b=i/\a=j
   .simp[c];simp[c]at e;split
    .rename_i z;exact absurd z.2<|e z.1
    .rfl
   .simp[c]
def F9 i j ts(h:∀t∈ts,t.1≠t.2.1):bq i j (ts.map lf)=bq i j ts:=by
 induction ts with
 |nil=>rfl
 |cons t ts ih=>
  show prs i j (lf t)++bq i j _=prs i j t++bq i j ts;rw[Kn i j t<|h t Ye,ih λu a=>h u<|Yb _ a]
theorem Hm i j t:(prs i j t).length<=2:=by
 delta prs;rw[Yr];have h:∀c [Decidable c] (x:Int×Int),(if c then[x]else[]).length<=1:=λc z x=>by split<;>simp
 have:=h (t.1=i/\t.2.1=j) (t.2.2.1,if t.2.2.2 then 1 else 0);have:=h (t.2.1=i/\t.1=j) (t.2.2.1,if t.2.2.2 then 2 else 0);lia
theorem vX i j ts:(bq i j ts).length<=2*ts.length:=by
 induction ts with
 |nil=>exact Yp _
 |cons t ts ih=>
  show(prs i j t++bq i j ts).length<=2*(ts.length+1);rw[Yr];have:=Hm i j t;lia
def JOk(kvs:List (List Key×D))(ts:List T4):=∀i j:Int,c_ kvs [.inl i,.inl j]=if bq i j ts=[]then () else some<|srP<|bq i j ts
def JOk.get(h:JOk kvs ts)i j:(c_ kvs [.inl i,.inl j]).getD (.tup [])=srP (bq i j ts):=by
 rw[h];split
 .rename_i q;rw[q];rfl
 .rfl
def yu{a b i j}(h:¬(a=i/\b=j)):¬([.inl a,.inl b]:List Key)=[.inl i,.inl j]:=by intro q;injection q with q1 q2;injection q2 with q2 _;exact h #[VW q1,VW q2]
theorem MB C kvs a b k f ps(l:(c_ kvs [.inl a,.inl b]).getD (.tup [])=srP ps)(pl:ps.length<=50)(j:kvs.length<1000) :
  eR C (.dT kvs) [.v<|.tup [.int a,.int b],.v<|.tup [.int k,.int f]]=!(.dT<|fm kvs [.inl a,.inl b]<|srP<|ps++[(k,f)],.non):=by
 let#[u,o,g]:=fJ dP unP (λz=>rfl)<|a9<|ps.map dP;let e:=l.trans<|YW D.tup o;have p:u.length<=50:=by rwa[g.length_eq]
 have m:bP (.tup<|u.map dP) (.tup [.tup [.int k,.int f]])=!(.tup<|(u++[(k,f)]).map dP):=by rw[Zt];exact Yk<|by rw[Yc];show u.length+1<=_;lia
 let c:=Cb (u++[(k,f)]) (by rw[Yr,YN];lia);have i:D.tup _=srP (ps++[(k,f)]):=lJ<|g.append_right _;rw[<-i];exact ze qx qx λad=>#[.nx [oW _ _,sV<|.tup [.int a,.int b],sV<|.tup [.int k,.int f]],?_,qx,qx]
 have h:kvs.length<16777216:=by lia
 generalize (u++[(k,f)]).map dP=L,u.map dP=q at *;delta pS;simp[Eg,qG,jf,iz,kd,e,m,oH,c,ki,h]
def Mb a b k o(h:a≠b):prs a b (a,b,k,o)=[(k,if o then 1 else 0)]:=by show(if a=a/\b=b then[(k,if o then 1 else 0)]else[])++(if b=a/\a=b then[(k,if o then 2 else 0)]else[])=_;rw[Yk<|#[qx,qx],Ym (λz:b=a/\a=b=>h z.2)];rfl
def LP a b k o(h:a≠b):prs b a (a,b,k,o)=[(k,if o then 2 else 0)]:=by show(if a=b/\b=a then[(k,if o then 1 else 0)]else[])++(if b=b/\a=a then[(k,if o then 2 else 0)]else[])=_;rw[Yk (#[qx,qx]:b=b/\a=a),Ym (λz:a=b/\b=a=>h z.1)];rfl
def LW i j a b k o(h1:¬(b=i/\a=j))(h2:¬(a=i/\b=j)):prs i j (a,b,k,o)=[]:=by show(if a=i/\b=j then[(k,if o then 1 else 0)]else[])++(if b=i/\a=j then[(k,if o then 2 else 0)]else[])=_;rw[Ym h2,Ym h1];rfl
def JOk.step(h:JOk kvs ts)a b k o(c:a≠b) :
  JOk (fm (fm kvs [.inl a,.inl b]<|srP<|bq a b ts++[(k,if o=true then 1 else 0)]) [.inl b,.inl a]<|srP<|bq b a ts++[(k,if o then 2 else 0)]) (ts++[(a,b,k,o)]):=by
 intro i j;rw[Dp,pN,pN];by_cases f:b=i/\a=j
 .let#[rfl,rfl]:=f;rw[LP a b k o c];generalize (k,if o then(2:Int)else 0)=q;rw[Yk qx,Ym<|by simp]
 .rw[Ym<|yu f];by_cases e:a=i/\b=j
  .let#[rfl,rfl]:=e;rw[Mb a b k o c];generalize (k,if o then(1:Int)else 0)=q;rw[Yk qx,Ym<|by simp]
  .rw[Ym<|yu e,h,LW i j a b k o f e,YZ]
def CY{a:Type}{l:List a}{x}(h:l[j]?=!x):l.take (j+1)=l.take j++[x]:=by rw[Ux,h];rfl
theorem FH C ts(S:ts.length<=12)(hd:∀t∈ts,t.1≠t.2.1):∃kvs,fS C [.v (.lst (ts.map dT4))]=oW (.dT kvs) ()/\JOk kvs ts:=by
 let m:=MB C;delta fS pM;generalize eR C=M at m ⊢;let#[z,e,kvs,R,Q,P,O,rfl,y,h]:=h_ (st:=jU [2,3,4,5]) (body:=(aq (jv K0 1 M<|aV (asT<|ai (getV 2)<|ai (getV 3) aP)<|aV (asT<|ai (getV 4)<|ai (ifV (asB<|getV 5) (cI 1)<|cI 0) aP) nA)
 <|jv K0 1 M<|aV (asT<|ai (getV 3)<|ai (getV 2) aP)<|aV (asT<|ai (getV 4)<|ai (ifV (asB<|getV 5) (cI 2)<|cI 0) aP) nA))
  (λj B=>∃(kvs:List _) (x2 w u x:Option DV),B=[sV _,oW (.dT kvs) (),x2,w,u,x]/\kvs.length<=2*j/\JOk kvs (ts.take j)) (ts.map dT4) 0
  [sV _,oW _ (),(),(),(),()] #[[],_,_,_,_,qx,Yp _,λr r=>rfl] (by
   rintro j d _ i ⟨kvs,x2,w,u,x,rfl,y,h⟩;rw[ZX]at y h ⊢;rw[Yw]at i;cases g:ts[j]? with
   |none=>rw[g]at i;cases i
   |some t=>
   rw[g]at i;cases i;let N:=(Yo.mp g).1;let#[a,b,k,o]:=t;let l:=hd _<|YT g;let L:=vX a b<|ts.take j;let K:=vX b a<|ts.take j;have J:(ts.take j).length<=12:=by rw[XE];lia
   let q:=m kvs a b k (if o then 1 else 0) _ (h.get a b) (by lia) (by lia);let I:=vL [.inl a,.inl b] (srP<|bq a b (ts.take j)++[(k,if o then 1 else 0)]) kvs;have A:(c_ (fm kvs [.inl a,.inl b]<|srP<|bq a b (ts.take j)++[(k,if o then 1 else 0)]) [.inl b,.inl a]).getD (.tup [])=srP (bq b a<|ts.take j):=by rw[pN,Ym<|yu λz=>l z.1];exact h.get b a
   let p:=m _ b a k (if o then 2 else 0) _ A (by lia) (by lia);let s:=h.step a b k o l;rw[<-CY g]at s;let H:=vL [.inl b,.inl a] (srP<|bq b a (ts.take j)++[(k,if o then 2 else 0)])<|fm kvs [.inl a,.inl b]<|srP<|bq a b (ts.take j)++[(k,if o then 1 else 0)];generalize fm kvs [.inl a,.inl b] (srP<|bq a b (ts.take j)++[(k,if o then 1 else 0)])=f at *;generalize fm f [.inl b,.inl a] (srP<|bq b a (ts.take j)++[(k,if o then 2 else 0)])=c at *;exact#[[sV<|.lst<|ts.map dT4,oW (.dT kvs) (),sI a,sI b,sI k,sV<|.bl o],qx,[sV<|.lst<|ts.map dT4,oW (.dT c) (),sI a,sI b,sI k,sV<|.bl o],?_,c,_,_,_,_,qx,by lia,s];clear A s h L K J I H m;cases o with
   |true=>
    simp only[VJ]at q p;simp[jv,uB,HW,q,p]
   |false=>
    simp at q p;simp[jv,uB,HW,q,p])
 rw[ZX,Yc,XH]at h;exact#[kvs,?_,h];rw[iU];have E:ck 1 (λr=>some<|.dT []) (aK 6 1 [.v<|.lst<|ts.map dT4])=!.nx [sV<|.lst<|ts.map dT4,oW (.dT []) (),(),(),(),()]:=rfl;rw[ao E,ao<|fL (ds:=ts.map dT4) qx e];rfl
def JOk.perm{us}(h:JOk kvs us)(p:∀i j,(bq i j us).Perm (bq i j ts)):JOk kvs ts:=by
 intro i j;let a:=p i j;rw[h,lJ a];by_cases q:bq i j us=[]
 .rw[q]at a;rw[Yk q,Yk a.symm.eq_nil]
 .rw[Ym q,Ym λz=>q<|by rw[z]at a;exact a.eq_nil]
theorem J1 C ks ts n(w:1<=n/\n<=7)(x:okK n ks)(hs:okS n ts):∃kvs,JOk kvs ts/\cL C (.ins C []) [.bor (.lst (ks.map .str)),.v (.lst (ts.map dT4))]=!(.ins C (wFs ks (.lst (srt ts)) (.dT kvs)),.non):=by
 let g:=AK C ks ts n w x hs;let l:=BL C;let#[a,o,b]:=Hb<|ts.map lf;let z:=λt h=>(hs.2 t h).2.2.2.2.1
 let#[kvs,m,B]:=FH C a (by rw[b.length_eq,Yc];exact hs.1) (λt h=>by
  let#[u,s,rfl]:=Yg.mp<|b.mem_iff.mp h;exact(LI<|hs.2 u s).2.2.2.2.1)
 let e:=BH (ts.map lf) (by rw[Yc];have:=hs.1;lia);exact#[kvs,B.perm λi j=>?_,ze qx qx λad=>#[.nx [oW _ _,some<|.bor<|.lst<|ks.map .str,sV<|.lst<|ts.map dT4],?_,qx,qx]]
 .have:=BI (i:=i) (j:=j) b
  rwa [F9 i j ts z]at this
 delta mU;generalize cZ C=R at g ⊢;generalize c8 C=L at l ⊢;generalize fS C=J at m ⊢;have c:srt ts=a.map dT4:=o;rw[c];have p:bO (setV 0) bi (aj L<|aV (getV 0) nA) [()] (ts.map dT4)=!(ts.map lf).map dT4:=by
  rw[YH];exact bF dT4 _ ts λt r=>#[[sV _],qx,qx,?_]
  simp[l]
 have q:ts.length<=16777216:=by have:=hs.1;lia
 generalize (aj L _)=E at p ⊢;generalize (ts.map lf).map dT4=X at *;have y:∀fs:List<|Str×D,gJ C "ties" (.ins C [("kinds",.lst<|ks.map .str),("ties",.lst<|a.map dT4)])=!(.lst<|a.map dT4):=by intro _;rw[uq];simp[List.lookup,b1]
 let f:=y [];generalize a.map dT4=Y,hX:ts.map dT4=Z at *;have A:Z.length<=16777216:=by rwa[<-hX,Yc]
 simp[g,EY,qu,oH,bb,A,p,e,o,f,m,n1,n2,n3,wFs]
def Kt C ks ts n(a:1<=n/\n<=7)(b:okK n ks)(hs:okS n ts):∃kvs,JOk kvs ts/\∀g ρ,g ρ=![.bor (.lst (ks.map .str)),.v (.lst (ts.map dT4))]->iY C (cL C) g ρ=!.ins C (wFs ks (.lst (srt ts)) (.dT kvs)):=by let#[J,h,e]:=J1 C ks ts n a b hs;exact#[J,h,λg ρ h=>?_];delta iY;rw[h,Ya,e];rfl
theorem b5:(("near":Str) == "kinds")=false:=by decide+kernel
theorem b6:(("near":Str) == "ties")=false:=by decide+kernel
theorem b8:(("between":Str) == "kinds")=false:=by decide+kernel
theorem b9:(("between":Str) == "ties")=false:=by decide+kernel
theorem b10:(("between":Str) == "joins")=false:=by decide+kernel
theorem b11:(("joins":Str) == "kinds")=false:=by decide+kernel
theorem b12:(("joins":Str) == "ties")=false:=by decide+kernel
def AI C ks T J:gJ C "joins" (.ins C (wFs ks T J))=!J:=by rw[uq];simp[wFs,List.lookup,b11,b12]
def pd ks T J:(wFs ks T J).lookup ("between":Str)=():=by simp[wFs,List.lookup,b8,b9,b10]
def sQ{T J}(h:(wFs ks T J).lookup mn=())xs:mL C mn (.v (.ins C (wFs ks T J))::xs):=by show(match(if C=C then !wFs ks T J else ())with|some fs=>(fs.lookup mn).isNone|none=>false)=true;rw[Yk qx];simp only;rw[h];rfl
def sP C ks T J n(b:ks.length=n)ρ(h:ρ[0]?=!sV (.ins C (wFs ks T J))):a8 C "size" (be C) (bp (bz 0) g0) ρ=!.int n:=by
 have c:be C [.v<|.ins C<|wFs ks T J]=sI n:=by have:=mh C ks T J;simp[be,oC,this,b]
 have a:bp (bz 0) g0 ρ=![.v<|.ins C<|wFs ks T J]:=by delta bp bz g0;rw[h];rfl
 delta a8;rw[a,Ya,Yk<|sQ (Ia ks T J) _,c];rfl
def nr(ts:List T4)(n p:Int):=(ah n).filter λo=>(not<|decide (bq p o ts=[]))
def pc C ks T kvs ts i j(b:JOk kvs ts) :
  cA C [.v<|.ins C<|wFs ks T<|.dT kvs,.v<|.int i,.v<|.int j]=sV (srP<|bq i j ts):=by
 let a:=AI C ks T<|.dT kvs;let h:=b.get i j;generalize wFs ks T _=F,srP _=R at *;simp[cA,j_,qG,a,jf,iz,kd,h]
theorem AM{f}{left order:Qj}(a:i≠j)(l:ρ[j]?=!oW (.lst (left.map .int)) ())(hi:ρ[i]?=!oW (.lst (order.map .int)) ())(o:f ρ=!.int k)(h0:0<=k)(h1:k<(left.length:Int))(g:left.length<1000)(p:order.length<1000):∃(m:Nat) (q:m<left.length),iM i j f ρ=!(.nx<|(ρ.set j<|oW (.lst<|(left.eraseIdx m).map .int) ()).set i<|oW (.lst<|(order++[left[m]]).map .int) ()):=by
 have c:k.toNat<left.length:=by lia
 let e:=D8 h0 h1 g;have b:(left.map D.int)[k.toNat]?=!.int left[k.toNat]:=by rw[Yw,Yh];rfl
 exact#[k.toNat,c,?_];have h:xt j f ρ=!(ρ.set j<|oW (.lst<|(left.eraseIdx k.toNat).map .int) (),.int left[k.toNat]):=by delta xt;rw[l];simp only[o,Ya,Yc,e,b,sr];rfl
 delta iM;rw[h,Ya];simp only;rw[YY<|Xq a,hi];simp only;rw[Yk #[a,by rw[Yc];lia],Zt];rfl
def ox(out:Qj)(i:Int):=(out[i.toNat]?).getD 0
def L6(b:1<=n)(p:out.Perm (ah n)){i}(h:0<=i/\i<n):atI (out.map D.int) i=!.int (ox out i)/\0<=ox out i/\ox out i<n:=by
 let#[f,_,c]:=aN b p;let#[x,a,e]:=jF (l:=out) D.int h.1 (by rw[f];exact h.2);have:ox out i=x:=by delta ox;rw[a];rfl
 rw[this];exact#[e,c x<|YT a]
def Ij(f:1<=n)(p:out.Perm (ah n)){i j}(hi:0<=i/\i<n)(a:0<=j/\j<n)(h:i≠j):ox out i≠ox out j:=by let#[e,g,_]:=aN f p;let#[x,c,_]:=jF (l:=out) D.int hi.1 (by rw[e];exact hi.2);let#[y,b,_]:=jF (l:=out) D.int a.1 (by rw[e];exact a.2);delta ox;rw[c,b];exact L8 g c b λz=>h<|by rw[<-Vg hi.1,z,Vg a.1]
def FX{g}{es}(h:ρ[i]?=!oW (.lst ds) t)(b:g ρ=!es)(a:ds.length+es.length<=16777216):Ba i g ρ=!.nx (ρ.set i (oW (.lst (ds++es)) t)):=by delta Ba;rw[h];simp;rw[b,Ya,Yk a]
def FV{f}(h:ρ[i]?=!oW (.lst ds) t)(b:f ρ=!d)(a:ds.length<16777216):iT i f ρ=!.nx (ρ.set i (oW (.lst (ds++[d])) t)):=by rw[Gu,h];simp;rw[b,Ya,Yk a]
def eU:Qj->List (Int×Int)
 |[]=>[]
 |x::xs=>xs.map (λy=>(x,y))++eU xs
def ik(ts:List T4)(p:Int×Int):=srP<|bq p.1 p.2 ts
theorem vG:∀r:Qj,(eU r).length<=r.length*r.length
 |[]=>Yp _
 |x::xs=>by
  have:=vG xs;show(xs.map _++eU xs).length<=(xs.length+1)*(xs.length+1);rw[Yr,Yc,Nat.succ_mul,Nat.mul_succ];lia
def FR{r:Qj}{x}(h:r[i]?=!x):r.drop i=x::r.drop (i+1):=by let#[a,e]:=Yo.mp h;rw[Xr a,e]
def rks(ds:List D):Qj:=ds.map λd=>(rkD (bA ds) d)
def lR ds:(rks ds).length=ds.length:=Yc ..
def Fe:∀n d,okN n d->okN (n+1) d:=by
 intro n;induction n with
 |zero=>
  intro d h;cases d with
  |tup xs=>cases xs with
   |nil=>rfl
   |cons x r=>cases h
  |lst xs=>cases xs with
   |nil=>rfl
   |cons x r=>cases h
  |_=>exact h
 |succ n ih=>
  intro d h;cases d with
  |tup xs=>exact Yl.mpr λx a=>ih x<|Yl.mp h x a
  |lst xs=>exact Yl.mpr λx a=>ih x<|Yl.mp h x a
  |_=>exact h
def pC{n m}(h:n<=m)(hd:okN n d):okN m d:=by
 induction h with
 |refl=>exact hd
 |step _ ih=>exact Fe _ _ ih
theorem rY C ds(m:sv ds)(hs:bx (bA ds))(i:Cmps 28 ds)(p:ds.length<=100):fZ C [.v (.lst ds)]=oW (.lst ((rks ds).map .int)) ():=by
 have l:∀d∈aQ<|bA ds,d∈ds:=λd h=>bS.mp<|(a9 _).mem_iff.mp h
 have b:(aQ _).all (okN 29):=Yl.mpr λd h=>pC (by decide)<|i.1 d<|l d h
 have g:∀d∈ds,lw (.lst _) d=!_:=λd h=>by
  show(if((aQ _).all _&&okN 30 d) then(i4 d<|aQ<|bA ds).map (λ(j:Nat)=>D.int _)else ())=_;rw[b,pC (by decide)<|i.1 d h,Bool.and_self,Yk qx,zA i h];rfl
 have o:bO (setV 0) bi (d2 lw (aw 1)<|aw 0) [(),sV<|.lst<|aQ<|bA ds] ds=!(rks ds).map .int:=by
  have:=bF (st:=setV 0) (c:=bi) (e:=d2 lw (aw 1)<|aw 0) (ρ:=[(),sV<|.lst _]) id _ ds λd h=>#[_,qx,qx,by
   exact g d h]
  rw[XD]at this;rw[this];delta rks;rw[YH];rfl
 have a:lI (am 0) [sV<|.lst ds,()]=!(aQ<|bA ds):=by show(open Classical in if sv ds/\bx _ then !aQ _ else ())=_;rw[Yk #[m,hs]]
 have f:ds.length<=16777216:=by lia
 delta fZ vK;rw[iU,show aK 2 1 [.v _]=[sV _,()]from rfl,t9,gr,fU,cG,a];show bv (bZ _ [sV _,sV _])=_;rw[d4,cG,bb];show bv ((((if ds.length<=16777216 then bO _ _ _ [(),sV<|.lst _] ds else ())).map OD.lst).map _)=_;rw[Yk f,o];rfl
def prD(ps:Qj)(ts:List T4)(i j:Int):D:=.tup [.int<|ox ps j,srP<|bq i j ts]
def oth(n i:Int):=(ah n).filter λj=>(not<|decide (j=i))
def kyD(ps:Qj)(ts:List T4)(n i:Int):D:=.tup [.int<|ox ps i,.tup<|aQ<|(oth n i).map<|prD ps ts i]
theorem CU{ps}{n i}(c:ps.length=n)(h:0<=i/\i<n):ixD (.lst (ps.map .int)) (.int i)=!.int (ox ps i):=by let#[x,b,a]:=jF (l:=ps) D.int h.1 (by lia);rw[ix1,a];delta ox;rw[b];rfl
def yY{n i j}:j∈oth n i↔(0<=j/\j<n)/\j≠i:=by delta oth;rw[YX,ap];simp
def Ad{m:Nat}(ps:List (Int×Int))(P:D->Prop)(h:∀p,P (dP p)):∀d∈aQ (ps.map dP),P d:=λd a=>by
 let#[p,_,rfl]:=Yg.mp<|(a9 _).mem_iff.mp a;exact h p
def GZ ps:okN 2 (srP ps):=Yl.mpr<|Ad (m:=0) ps _ λp=>rfl
def GR ps:hkN 2 (srP ps):=Yl.mpr<|Ad (m:=0) ps _ λp=>rfl
theorem kI:∀xs ys,(∀x∈xs,∀y∈ys,aA x y)->ba xs ys
 |[],_,_=>by simp[ba]
 |_::_,[],_=>by simp[ba]
 |x::xs,y::ys,h=>by
  rw[ba,Yn];exact#[h x Ye y Ye,kI xs ys λa e b c=>h a (Yb _ e) b<|Yb _ c]
def Av a b:aA (srP a) (srP b):=kI _ _ λx c y h=>by
 let#[p,_,rfl]:=Yg.mp<|(a9 _).mem_iff.mp c;let#[q,_,rfl]:=Yg.mp<|(a9 _).mem_iff.mp h;rfl
def yO ps ts i j:okN 3 (prD ps ts i j):=by show(true&&(okN 2 (srP _)&&true));rw[GZ];rfl
def Hr ps ts i j:hkN 3 (prD ps ts i j):=by show(true&&(hkN 2 (srP _)&&true));rw[GR];rfl
def rD ps ts i j b a:aA (prD ps ts i j) (prD ps ts b a):=by show(true&&(aA (srP _) _&&true));rw[Av];rfl
def t4{ps}{n i}(h:d∈aQ ((oth n i).map (prD ps ts i))):∃j,d=prD ps ts i j:=by let#[j,_,rfl]:=Yg.mp<|(a9 _).mem_iff.mp h;exact#[j,qx]
def zu ps ts n i:okN 5 (kyD ps ts n i):=by
 show(true&&(okN 4 (.tup _)&&true));have:okN 4 (.tup<|aQ<|(oth n i).map _):=Yl.mpr λd h=>by let#[j,rfl]:=t4 h;exact yO ps ts i j
 rw[this];rfl
def Gz ps ts n i:hkN 8 (kyD ps ts n i):=by
 have u:∀m d,hkN m d->hkN (m+1) d:=by
  intro m;induction m with
  |zero=>intro d h;cases d with
   |int x=>rfl
   |_=>cases h
  |succ m ih=>intro d h;cases d with
   |int x=>rfl
   |tup xs=>exact Yl.mpr λx a=>ih x<|Yl.mp h x a
   |_=>cases h
 have c:hkN 5 (kyD ps ts n i):=by
  show(true&&(hkN 4 _&&true));have:hkN 4 (.tup<|aQ<|(oth n i).map _):=Yl.mpr λd b=>by let#[j,rfl]:=t4 b;exact Hr ps ts i j
  rw[this];rfl
 exact u _ _<|u _ _<|u _ _ c
def AG ps ts n i j:aA (kyD ps ts n i) (kyD ps ts n j):=by
 show(true&&(ba (aQ _) _&&true));rw[kI _ _ λx c y h=>by
  let#[a,rfl]:=t4 c;let#[b,rfl]:=t4 h;exact rD ps ts i a j b]
 rfl
def kys(ps:Qj)(ts:List T4)(n:Int):=(ah n).map<|kyD ps ts n
theorem um ps ts n(h:1<=n/\n<=7):(kys ps ts n).length<=7:=by delta kys;rw[Yc,aE];lia
def jB ps ts n:Cmps 28 (kys ps ts n):=by
 exact#[λd b=>?_,λx a y h=>?_]
 .let#[i,_,rfl]:=Yg.mp b;exact pC (by decide)<|zu ps ts n i
 .let#[i,_,rfl]:=Yg.mp a;let#[j,_,rfl]:=Yg.mp h;exact AG ps ts n i j
def yn ps ts n(h:1<=n/\n<=7):sv (kys ps ts n):=by exact#[YF (i6 _)<|YF (um ps ts n h)<|by decide,.inl λd a=>?_];let#[i,_,rfl]:=Yg.mp a;delta u_;rw[Gz,pC (by decide)<|zu ps ts n i];rfl
def qX(e:ds.length<64)(a:Cmps 28 ds)(h1:∀d∈ds,∃(x:Int) (r:List D),d=.tup (.int x::r)):bx ds:=by
 delta bx;simp only[Yn,YS];exact#[#[#[#[e,Yl.mpr a.1],Yl.mpr λx c=>Yl.mpr λy b=>a.2 x c y b],Yl.mpr λd h=>?_],Yl.mpr λd h=>?_]
 .let#[x,r,rfl]:=h1 d h;rfl
 .let#[x,r,rfl]:=h1 d h;rfl
theorem xE ps ts n(a:1<=n/\n<=7):bx (bA (kys ps ts n)):=by let e:=um ps ts n a;let c:=i6<|kys ps ts n;exact qX (by lia) ((jB ps ts n).sub λx h=>bS.mp h) λd b=>?_;let#[i,_,rfl]:=Yg.mp<|bS.mp b;exact#[_,_,qx]
theorem yU n i(h:1<=n/\n<=7):(oth n i).length<=7:=by have:(oth n i).length<=(ah n).length:=List.length_filter_le _ _;rw[aE]at this;lia
theorem r9 ps ts n i(f:1<=n/\n<=7):bx ((oth n i).map (prD ps ts i)):=by
 have:=yU n i f;exact qX (by rw[Yc];lia) #[λd h=>?_,λx e y c=>?_] λd h=>?_
 .let#[j,_,rfl]:=Yg.mp h;exact pC (by decide)<|yO ps ts i j
 .let#[a,_,rfl]:=Yg.mp e;let#[b,_,rfl]:=Yg.mp c;exact rD ps ts i a i b
 .let#[j,_,rfl]:=Yg.mp h;exact#[_,_,qx]
abbrev kcE(C:Addr)(B:Dm):=(asT<|ai (d2 ixD (am 1)<|am 0)<|ai (a8 C "between" B<|bp (bz 2)<|aV (getV 3)<|aV (getV 0) nA) aP)
theorem AN C ks T kvs ts ps n i(g:1<=n/\n<=7)(y:ks.length=n)(u:ps.length=n)(hi:0<=i/\i<n)(H:JOk kvs ts) :
  jt C [.v<|.ins C<|wFs ks T<|.dT kvs,.v<|.lst<|ps.map .int,.v<|.int i]=sV (kyD ps ts n i):=by
 let l:=λj=>pc C ks T kvs ts i j H
 let E:=λm=>sQ (C:=C) (pd ks T<|.dT kvs) m
 let a:=λp o=>sP C ks T _ n y [sV<|.ins C<|wFs ks T<|.dT kvs,sV<|.lst<|ps.map .int,sI i,p,o] qx
 let c:=λj h=>CU (i:=j) u h
 let e:=r9 ps ts n i g;let w:=yU n i g;let f:=c i hi;delta jt vA;generalize cA C=B at l ⊢;generalize (a8 C "size" (be C) _)=S at a ⊢;generalize wFs ks T _=F at *;have N:aR 1 [2] (fP S) (setV 0) (asB<|d2 neD (aw 0)<|aw 1) (getV 0) [sV<|.ins C F,sV<|.lst<|ps.map .int,sI i,(),()]=!(oth n i).map .int:=by
  rw[bb,iH (a _ _)<|by lia,Ya,Yk<|by rw[Yc,aE];lia];exact js _ (ah n) (λx t=>by
   show(match neD (.int x) (.int i)with|some (.bl b)=>!b|_=>())=_;rw[Fy])<|by simp
 have M:bO (setV 0) bi (kcE C B) [(),sV<|.lst<|ps.map .int,sV<|.ins C F,sI i] ((oth n i).map .int)=!((oth n i).map<|prD ps ts i):=by
  exact bF D.int _ _ λj z=>#[[sI j,sV _,sV _,sI i],qx,qx,?_]
  let K:=l j;let J:=E [.v<|.int i,.v<|.int j];let I:=c j (yY.mp z).1;delta prD;simp[a8,bp,bz,J,K,I]
 rw[yD,show aK 5 3 [.v _,.v _,.v _]=[sV _,sV _,sI i,(),()]from rfl];have q:aW 3 (asO<|asL<|aR 1 [2] (fP S) (setV 0) (asB<|d2 neD (aw 0)<|aw 1)<|getV 0) [sV<|.ins C F,sV<|.lst<|ps.map .int,sI i,(),()]=!.nx [sV<|.ins C F,sV<|.lst<|ps.map .int,sI i,sV<|.lst<|(oth n i).map .int,()]:=by rw[gr,fU,cG,N];rfl
 have s:aW 4 (asO<|asL<|aR 1 [1,0,2] (bY 3) (setV 0) bi<|kcE C B) [sV<|.ins C F,sV<|.lst<|ps.map .int,sI i,sV<|.lst<|(oth n i).map .int,()]=!.nx [sV<|.ins C F,sV<|.lst<|ps.map .int,sI i,sV<|.lst<|(oth n i).map .int,sV<|.lst<|(oth n i).map<|prD ps ts i]:=by
  have A:aR 1 [1,0,2] (bY 3) (setV 0) bi (kcE C B) [sV<|.ins C F,sV<|.lst<|ps.map .int,sI i,sV<|.lst<|(oth n i).map .int,()]=!((oth n i).map<|prD ps ts i):=by rw[bb];show(if((oth n i).map D.int).length<=16777216 then bO _ bi _ [(),sV _,sV _,sI i] ((oth n i).map .int)else ())=_;rw[Yk<|by rw[Yc];lia,M]
  rw[gr,fU,cG,A];rfl
 rw[ao q,ao s];delta kyD;simp[oH,e,f,ki]
theorem Gm C ks T kvs ts ps n(f:1<=n/\n<=7)(b:ks.length=n)(e:ps.length=n)(l:JOk kvs ts) :
  gY C [.v<|.ins C<|wFs ks T<|.dT kvs,.v<|.lst<|ps.map .int]=oW (.lst<|kys ps ts n) ():=by
 let c:=λi h=>AN C ks T kvs ts ps n i f b e h l
 let a:=sP C ks T _ n b [sV<|.ins C<|wFs ks T<|.dT kvs,sV<|.lst<|ps.map .int] qx;delta gY sK;generalize jt C=K at c ⊢;generalize (a8 C "size" (be C) _)=S at a ⊢;generalize wFs ks T _=F at *;have o:bO (setV 0) bi (aj K<|aB 1<|aB 2<|aV (getV 0) nA) [(),sV<|.ins C F,sV<|.lst<|ps.map .int] ((ah n).map .int)=!kys ps ts n:=by
  exact bF D.int _ (ah n) λj g=>#[[sI j,sV _,sV _],qx,qx,?_]
  let m:=c j<|ap.mp g;generalize kyD ps ts n j=V,ps.map D.int=P at *;simp[m,dvD]
 rw[iV,show aK 2 2 [.v _,.v _]=[sV _,sV _]from rfl];rw[d4,cG,bb,iH a<|by lia,Ya,Yk<|by rw[Yc,aE];lia];show bv (((bO _ _ _ [(),sV _,sV _] _).map OD.lst).map _)=_;rw[o];rfl
theorem CM C ks T kvs ts ps n(h:1<=n/\n<=7)(e:ks.length=n)(c:ps.length=n)(f:JOk kvs ts) :
  eN C [.v<|.ins C<|wFs ks T<|.dT kvs,.v<|.lst<|ps.map .int]=oW (.lst<|(rks<|kys ps ts n).map .int) ():=by
 let b:=Gm C ks T kvs ts ps n h e c f;let a:=rY C _ (yn ps ts n h) (xE ps ts n h) (jB ps ts n) (by have:=um ps ts n h;lia);delta eN zl;generalize gY C=K at b ⊢;generalize fZ C=g at a ⊢;generalize wFs ks T _=F,kys ps ts n=L at *;generalize (rks L).map D.int=R,ps.map D.int=P at *;simp[b,a,dvD,dvO,OD.d]
def bV(ks:List Str)(ts:List T4)(r:Qj):D:=.tup [.tup<|(r.map<|kAt ks).map .str,.tup<|(eU r).map<|ik ts]
def xT{r:Qj}(f:1<=n)(i:(ks.length:Int)=n)(p:r.Perm (ah n)){E}(j:∀x s,atI (ks.map D.str) x=!.str s->E [sI x,F]=!.str s):bO (setV 0) bi E [(),F] (r.map .int)=!(r.map (kAt ks)).map .str:=by
 rw[YH];exact bF D.int _ r λx h=>#[[sI x,F],qx,qx,?_]
 let#[_,_,g]:=aN f p;let#[b,a]:=g x h;let#[s,c,e]:=jF (l:=ks) D.str b (by rwa[i]);have:(D.str ∘ kAt ks) x=.str s:=by show D.str _=_;delta kAt;rw[c];rfl
 rw[this];exact j x s e
abbrev roE(C:Addr)(B:Dm):=(a8 C "between" B<|bp (bz 1)<|aV (getV 2)<|aV (getV 0) nA)
abbrev roB(C:Addr)(B:Dm):=(Ba 2<|aR 1 [0,4] (dw<|asO<|asL<|slL (am 1) (bI<|d2 bP (am 3)<|cI 1) bNo) (setV 0) bi<|roE C B)
theorem Bd C ks T kvs ts r n(J:1<=n/\n<=7)(S:(ks.length:Int)=n)(p:r.Perm (ah n))(hJ:JOk kvs ts) :
  jA C [.v<|.ins C<|wFs ks T<|.dT kvs,.v<|.lst<|r.map .int]=sV (bV ks ts r):=by
 let L:=λi j=>pc C ks T kvs ts i j hJ
 let hS:=λN=>sQ (C:=C) (pd ks T<|.dT kvs) N
 let H:=mh C ks T<|.dT kvs;let Q:=(aN J.1 p).1;let hR:=vG r;have g:r.length<=7:=by lia
 let hRR:=Um g g;delta jA vy;generalize cA C=I at L ⊢;generalize wFs ks T _=F at *;have o:(dq<|r.map D.int).length=r.length:=by delta dq;rw[Yc,List.length_zipIdx,Yc]
 let#[z,e,b,w,u,rfl,a]:=h_ (st:=jU [3,4]) (body:=roB C I) (λm M=>∃b w u,M=[sV _,sV _,oW (.lst b) (),w,u]/\b++(eU<|r.drop m).map _=(eU r).map _) _ 0
  [sV _,sV _,oW _ (),(),()] #[[],_,_,qx,qx] (by
   rintro m d _ K ⟨b,w,u,rfl,a⟩;rw[ZX]at a ⊢;have hm:m<r.length:=by have:=(Yo.mp K).1;rwa [o]at this
   let#[d0,q,rfl]:=jS K;rw[Yw]at q;cases A:r[m]? with
   |none=>rw[A]at q;cases q
   |some x=>
   rw[A]at q;cases q;have hal:b.length<=500:=by have:=YW List.length a;rw[Yr,Yc,Yc]at this;lia
   have c1:bO (setV 0) bi (roE C I) [(),sV<|.ins C F,sI x] ((r.drop<|m+1).map .int)=!((r.drop<|m+1).map λy=>ik ts (x,y)):=by
    exact bF D.int _ _ λy t=>#[[sI y,sV _,sI x],qx,qx,?_]
    let h1:=L x y;let h2:=hS [.v<|.int x,.v<|.int y];show _=!srP _;simp[a8,bp,bz,h2,h1]
   have B:dw (asO<|asL<|slL (am 1) (bI<|d2 bP (am 3)<|cI 1) bNo) [sV<|.ins C F,sV<|.lst<|r.map .int,oW (.lst b) (),sI m,sI x]=!(r.drop<|m+1).map .int:=by
    have U:jX (r.map D.int) (some<|m+1) ()=(r.drop<|m+1).map D.int:=by
     rw[wp,AF _<|by lia]
     congr 2
    have Z:bI (d2 bP (am 3)<|cI 1) [sV<|.ins C F,sV<|.lst<|r.map .int,oW (.lst b) (),sI m,sI x]=!_:=rfl;show(match(Option.map OD.d<|Option.map OD.lst<|some<|jX _ _ ())with|some (.lst ds)=>!ds|_=>())=_;rw[U];rfl
   have f:aR 1 [0,4] (dw<|asO<|asL<|slL (am 1) (bI<|d2 bP (am 3)<|cI 1) bNo) (setV 0) bi (roE C I) [sV<|.ins C F,sV<|.lst<|r.map .int,oW (.lst b) (),sI m,sI x]=!((r.drop<|m+1).map λy=>ik ts (x,y)):=by rw[bb,B,Ya,Yk<|by rw[Yc,VI];lia];exact c1
   exact#[_,qx,_,FX qx f<|by rw[Yc,VI];lia,_,_,_,qx,?_];rw[<-a,FR A,Zv];exact YW (λl=>b++l) ?_;show _=((r.drop<|m+1).map (λy=>(x,y))++eU (r.drop<|m+1)).map (ik ts);rw[Zt,YH];rfl)
 rw[ZX,o,List.drop_length]at a;have a:b=(eU r).map (ik ts):=by simpa[eU]using a
 subst a;rw[iV];have O:ck 2 (asL aP) (aK 5 2 [.v<|.ins C F,.v<|.lst<|r.map .int])=!.nx [sV<|.ins C F,sV<|.lst<|r.map .int,oW (.lst []) (),(),()]:=rfl;rw[ao O,ao<|fL (ds:=dq<|r.map D.int) qx e];let c:=xT (E:=d2 ixD (d1 (gJ C "kinds")<|am 1)<|am 0) (F:=sV<|.ins C F) J.1 S p λx s h=>by
  simp[H,ix1,h]
 have P:(r.map D.int).length<=16777216:=by rw[Yc];lia
 delta bV;generalize (d2 ixD (d1 (gJ C "kinds")<|am 1)<|am 0)=E,(r.map<|kAt ks).map D.str=X,(eU r).map (ik ts)=Y,r.map D.int=R at *;simp[bb,P,c,ki]
def Ic{a b}(h:srP a=srP b):a.Perm b:=by let e:=D.tup.inj h;have c:(a.map dP).Perm (b.map dP):=(a9 _).symm.trans<|e ▸ a9 _;have:=c.map unP;rwa[YH,YH,show unP ∘ dP=id from rfl,XD,XD]at this
theorem u6{E:Type}(f:Int×Int->E):∀g c:Qj,g.length=c.length->((eU g).map f=(eU c).map f↔∀(i j:Nat) x1 s x q,i<j->g[i]?=!x1->g[j]?=!s->c[i]?=!x->c[j]?=!q->f (x1,s)=f (x,q))
 |[],[],_=>#[λy i j x1 s x q y h=>by simp at h,λy=>rfl]
 |x1::xs1,x::xs2,hl=>by
  let b:=VF hl;let ih:=u6 f xs1 xs2 b;show(xs1.map _++eU xs1).map f=(xs2.map _++eU xs2).map f↔_;rw[Zt,Zt];constructor
  .intro h i j B b1 A b2 w p a o e;let#[H,z]:=List.append_inj h (by rw[Yc,Yc,Yc,Yc,b]);cases j with
   |zero=>lia
   |succ j=>
    cases i with
    |zero=>
     obtain rfl:=YG p;obtain rfl:=YG o;have a:xs1[j]?=!b1:=a;have e:xs2[j]?=!b2:=e;have:=YW (λl=>l[j]?) H;simp only[Yw,a,e]at this;exact YG this
    |succ i=>exact ih.mp z i j B b1 A b2 (by lia) p a o e
  .intro h;let z:=ih.mpr λi j B b1 A b2 w p a o e=>h (i+1) (j+1) B b1 A b2 (by lia) p a o e
   congr 1
   rw[YH,YH];apply Xk;intro m;rw[Yw,Yw];cases u:xs1[m]? with
   |none=>
    have:xs2[m]?=():=by rw[Xs]at u ⊢;lia
    rw[this];rfl
   |some b1=>
    have:m<xs2.length:=by have:=(Yo.mp u).1;lia
    let C:=Yh this;rw[C];exact YW some<|h 0 (m+1) x1 b1 x _ (by lia) qx u qx C
def pF ps:∃us:List (Int×Int),srP ps=.tup (us.map dP):=by let#[us,e,u]:=fJ dP unP (λz=>rfl)<|a9<|ps.map dP;exact#[us,YW D.tup e]
theorem HI m(h:∀k∈ks,okW k):(ks.map D.str).all (okN m):=by
 rw[Yl];intro x a;let#[k,b,rfl]:=Yg.mp a;have:okN m (.str k)=PyData.strOk k:=by cases m<;>rfl
 rw[this];delta PyData.strOk;rw[<-Array.all_toList,Yl];intro c e;have:=(h k b).2.2 c e;exact YR<|by lia
def oM(b:1<=n)(c:okK n ks)(p:r.Perm (ah n)):okN 30 (bV ks ts r):=by
 show(okN 29 (.tup _)&&(okN 29 _&&true));have f:okN 29 (.tup _):=HI 28 (Jv b c p).2;have e:okN 29 (.tup<|(eU r).map<|ik ts):=by show((eU r).map _).all _;rw[Yl];intro x a;let#[q,_,rfl]:=Yg.mp a;let#[u,g]:=pF<|bq q.1 q.2 ts;show okN 28 (srP _);rw[g];show(u.map dP).all _;rw[Yl];intro y h;let#[z,_,rfl]:=Yg.mp h;rfl
 rw[f,e];rfl
def w9 ts p q:aA (ik ts p) (ik ts q):=by let#[u,b]:=pF<|bq p.1 p.2 ts;let#[a,e]:=pF<|bq q.1 q.2 ts;show aA (srP _) (srP _);rw[b,e];exact f9 dP (λz z=>rfl) u a
def oB ks ts b a:aA (bV ks ts b) (bV ks ts a):=by show(ba ((b.map<|kAt ks).map D.str) _&&(ba _ _&&true));rw[f9 D.str λz z=>rfl,f9 _<|w9 ts];rfl
def HR:∀a b:List Str,a.map D.str=b.map D.str->a=b:=λa b h=>by
 have:∀a:List Str,(a.map D.str).map (λd=>match d with|.str x=>x|_=>#[#[[]]])=a:=λa=>by rw[YH];exact List.map_id' a
 rw[<-this a,<-this b,h]
theorem bE{e:Type}:∀(l m:List e),l.Nodup->(∀x∈l,x∈m)->l.length<=m.length
 |[],_,_,_=>YQ _
 |x::l,m,nd,h=>by
  let#[n1,n2]:=Zd.mp nd;let#[a,b,rfl]:=List.append_of_mem<|h x Ye;have:=bE l (a++b) n2 λy c=>by
   rcases Zc.mp (h y<|Yb _ c)with z|z
   .exact YL _ z
   .rcases Yt.mp z with z|z
    .exact absurd (z ▸ c) n1
    .exact YE _ z
  simp at this ⊢;lia
theorem v7{e}:∀{L}{k},Cmps n (e::L)->i4 e L=!k->L[k]?=!e
 |[],k,_,h=>by cases h
 |x::r,k,hc,h=>by
  delta i4 at h;have a:e∈e::x::r:=Ye;have c:x∈e::x::r:=Yb _ Ye;by_cases q:eqd x e
  .rw[Yk q]at h;cases h;rw[(dD _ _<|hc.2 x c e a).mp q];rfl
  .rw[Ym q]at h;cases z:i4 e r with
   |none=>rw[z]at h;cases h
   |some j=>
    rw[z]at h;cases h;rw[List.getElem?_cons_succ];exact v7 (hc.sub λy b=>by
     rcases Yt.mp b with w|w
     .rwa[w]
     .exact Yb _<|Yb _ w) z
def oJ(h:Cmps n ds)(hd:d∈ds):(aQ (bA ds))[rkD (bA ds) d]?=!d:=by
 let p:=a9<|bA ds;exact v7 (h.sub λy a=>?_)<|zA h hd;rcases Yt.mp a with w|w
 .rwa[w]
 .exact bS.mp<|p.mem_iff.mp w
def CC{c:Type}{L:List c}(e:L.Nodup){x}(h1:L[i]?=!x)(h2:L[j]?=!x):i=j:=by let#[a,g]:=Yo.mp h1;let#[b,f]:=Yo.mp h2;exact(List.getElem_inj e).mp<|g.trans f.symm
def Can(ps:Qj):=(∀x∈ps,0<=x/\x<ps.length)/\∀x∈ps,∀r,0<=r->r<x->r∈ps
theorem Ho(b:Cmps n ds):Can (rks ds):=by
 let p:=a9<|bA ds;let g:=p.nodup_iff.mpr<|iF ds;have f:(aQ<|bA ds).length<=ds.length:=by rw[p.length_eq];exact i6 ds
 exact#[λx h=>?_,λx h r m l=>?_]
 .let#[d,a,rfl]:=Yg.mp h;let j:=(Yo.mp<|oJ b a).1;rw[lR];lia
 .let#[d,a,rfl]:=Yg.mp h;let j:=(Yo.mp<|oJ b a).1;have c:r.toNat<(aQ<|bA ds).length:=by lia
  let i:=Yh c;let e:=bS.mp<|p.mem_iff.mp<|Xh c;let o:=CC g i<|oJ b e;exact Yg.mpr #[_,e,?_];lia
def fin(ps:Qj)(ts:List T4)(n:Int):=rks<|kys ps ts n
def ir{ps}(h:1<=n):((fin ps ts n).length)=n:=by delta fin kys;rw[lR,Yc,aE];lia
def lN ps ts n:Can (fin ps ts n):=Ho<|jB ps ts n
theorem IL{ps}{n i j}(h:ox ps j<ox ps i):ltD (kyD ps ts n j) (kyD ps ts n i):=by
 have e:eqd (.int<|ox ps j) (.int<|ox ps i)=false:=by rw[jR,YD<|by lia]
 show(if eqd _ _ then _ else ltD _ _);rw[e,Ym Yj];exact YR h
theorem JN{ps}{n i}(b:ps.length=n)(h:0<=i/\i<n):ox ps i∈ps:=by
 delta ox;have a:i.toNat<ps.length:=by lia
 rw[Yh];exact Xh a
theorem Lm{ps}(b:ps.length=n)(h:r∈ps):∃j,(0<=j/\j<n)/\ox ps j=r:=by let#[k,a,e]:=Zj h;exact#[k,by lia,?_];delta ox;rw[Zr,Yh a,e];rfl
def oG{i}h:ox (rks ds) i=(rkD (bA ds) ds[i.toNat]):=by delta ox rks;rw[Yw,Yh];rfl
theorem oO{ps}{n i}(h:0<=i/\i<n):∃a:i.toNat<(kys ps ts n).length,(kys ps ts n)[i.toNat]=kyD ps ts n i:=by
 have a:i.toNat<(kys ps ts n).length:=by delta kys;rw[Yc,aE];lia
 exact#[a,?_];delta kys ah;simp;have:max i 0=i:=by lia
 rw[this]
theorem Ki{ps}{n i}(s:ps.length=n)(w:Can ps)(h:0<=i/\i<n):ox ps i<=ox (fin ps ts n) i:=by
 let#[z,C]:=oO (ps:=ps) (ts:=ts) h;delta fin;rw[oG z,C];let p:=JN s h;have u:∀r:Nat,r<ox ps i->∃j,(0<=j/\j<n)/\ox ps j=r:=λr g=>Lm s<|w.2 _ p _ (by lia) g
 have l:∃f:Nat->Int,∀r:Nat,r<ox ps i->(0<=f r/\f r<n)/\ox ps (f r)=r:=by
  exact#[λr=>if q:r<ox ps i then Classical.choose (u r q)else 0,λr g=>?_];simp[dif_pos g];exact Classical.choose_spec<|u r g
 let#[f,l]:=l;have m:((List.range (ox ps i).toNat).map λr=>kyD ps ts n<|f r).length<=((bA<|kys ps ts n).filter λx=>ltD x<|kyD ps ts n i).length:=by
  exact bE _ _ ?_ λd A=>?_
  .exact List.Pairwise.map _ (λr o c e=>?_)<|(List.nodup_range).imp_of_mem (S:=λa b:Nat=>a≠b/\a<(ox ps i).toNat/\b<(ox ps i).toNat) λy m c=>#[c,Zg.mp y,Zg.mp m];let L:=(l r<|by lia).2;let K:=(l o<|by lia).2;have J:ox ps (f r)=ox ps (f o):=by have:=YW (λd=>match d with|.tup (.int a::_)=>a|_=>0) e;exact this
   lia
  .let#[r,g,rfl]:=Yg.mp A;let g:=Zg.mp g;let#[B,I]:=l r (by lia);exact YX.mpr #[bS.mpr<|Yg.mpr #[f r,ap.mpr B,qx],IL<|by lia]
 rw[Yc,Zw]at m;delta rkD;lia
def sm(ps:Qj):=ps.foldr (· + ·) 0
theorem IM:∀a b,a.length=b.length->(∀(k:Nat) x y,a[k]?=!x->b[k]?=!y->x<=y)->sm a<=sm b/\(sm a=sm b->a=b)
 |[],[],_,_=>#[Int.le_refl _,λz=>rfl]
 |x::a,y::b,hl,h=>by
  let#[i,g]:=IM a b (VF hl) λk u v f c=>h (k+1) u v f c
  let j:=h 0 x y qx qx;have f:sm (x::a)=x+sm a:=rfl;have c:sm (y::b)=y+sm b:=rfl;exact#[by lia,λe=>?_];rw[g<|by lia,show x=y by lia]
theorem EC:∀a m,(∀x∈a,x<=m)->sm a<=a.length*m
 |[],m,_=>by simp[sm]
 |x::a,m,h=>by
  let f:=EC a m λy b=>h y<|Yb _ b
  let c:=h x Ye;have e:sm (x::a)=x+sm a:=rfl;rw[e,Yq,Int.natCast_add,Int.add_mul];lia
theorem Io:∀a,(∀x∈a,0<=x)->0<=sm a
 |[],_=>Int.le_refl _
 |x::a,h=>by
  let e:=Io a λy b=>h y<|Yb _ b
  let c:=h x Ye;have f:sm (x::a)=x+sm a:=rfl;lia
theorem DQ{ps}(b:1<=n/\n<=7)(c:(ps.length:Int)=n)(a:Can ps):0<=sm ps/\sm ps<=42:=by
 exact#[Io ps λx h=>(a.1 x h).1,?_];let e:=EC ps (n-1) λx h=>by have:=(a.1 x h).2;lia
 rw[c]at e;have:n*(n-1)<=7*6:=Int.mul_le_mul b.2 (by lia) (by lia) (by lia);lia
theorem LC{ps}(h:1<=n)(a:ps.length=n)(b:Can ps):sm ps<=sm (fin ps ts n)/\(sm ps=sm (fin ps ts n)->ps=fin ps ts n):=by let g:=ir (ps:=ps) (ts:=ts) h;exact IM _ _ (by lia) λk x y e c=>?_;let f:=(Yo.mp e).1;have:=Ki (ts:=ts) a b (i:=k) (by lia);delta ox at this;rwa[Zr,e,c]at this
end My
set_option maxHeartbeats 800000
namespace My
open PySem PySem.Spec PyProof.Rows L2
abbrev dL(ps:Qj):D:=.lst<|ps.map .int
def Af a b:eqd (dL a) (dL b)=decide (a=b):=by
 by_cases h:a=b
 .rw[h,YR qx];exact Cs D.int (λz z=>rfl) b
 .rw[YD h];cases q:eqd (dL a) (dL b)with
  |false=>rfl
  |true=>exact absurd (wI<|(lM _ _<|u7 a b).mp q) h
def ML a b:neD (dL a) (dL b)=!.bl ((not<|decide (a=b))):=by rw[J4 (wA a)<|wA b,Af]
def LJ a b:eqD (dL a) (dL b)=!.bl (decide (a=b)):=by rw[CG (wA a)<|wA b,Af]
def rl(ts:List T4)(n:Int):Nat->Qj->List Qj
 |0,q=>[q]
 |k+1,q=>if fin q ts n=q then[q]else q::rl ts n k (fin q ts n)
def stl(ts:List T4)(n:Int):Nat->Qj->Qj
 |0,q=>q
 |k+1,q=>if fin q ts n=q then q else stl ts n k<|fin q ts n
def kJ(ts:List T4)(n:Int):Nat->Qj->Prop
 |0,_=>False
 |k+1,q=>fin q ts n=q\/kJ ts n k (fin q ts n)
theorem zH ts n:∀k q,∃p,rl ts n k q=p++[stl ts n k q]
 |0,q=>#[[],qx]
 |k+1,q=>by
  delta rl stl;by_cases h:fin q ts n=q
  .rw[Yk h,Yk h];exact#[[],qx]
  .rw[Ym h,Ym h];let#[p,e]:=zH ts n k<|fin q ts n;exact#[q::p,by rw[e];rfl]
theorem uK ts n:∀k q,kJ ts n k q->fin (stl ts n k q) ts n=stl ts n k q
 |0,q,h=>h.elim
 |k+1,q,h=>by
  delta stl;by_cases z:fin q ts n=q
  .rwa[Yk z]
  .rw[Ym z];exact uK ts n k _<|h.resolve_left z
theorem uO ts n(a:1<=n):∀k q,q.length=n->((stl ts n k q).length)=n
 |0,q,h=>h
 |k+1,q,h=>by
  delta stl;by_cases z:fin q ts n=q
  .rwa[Yk z]
  .rw[Ym z];exact uO ts n a k _<|ir a
theorem wD ts n(a:1<=n/\n<=7):∀(k:Nat) q,q.length=n->Can q->43-sm q<=k->kJ ts n k q
 |0,q,hl,hc,h=>by have:=(DQ a hl hc).2;lia
 |k+1,q,hl,hc,h=>by
  by_cases z:fin q ts n=q
  .exact .inl z
  .let#[c,b]:=LC (ts:=ts) a.1 hl hc;exact .inr<|wD ts n a k _ (ir a.1) (lN q ts n) ?_;have:sm q≠sm _:=λe=>z (b e).symm
   lia
theorem o6 ts n(h:1<=n/\n<=7)q:kJ ts n 100 q:=
 .inr<|wD ts n h 99 _ (ir h.1) (lN q ts n) (by have:=(DQ h (ir h.1)<|lN q ts n).1;lia)
abbrev roF(w:D)(x1:Option DV)(R:List D)(f:D):DF:=[sV w,x1,oW (.lst R) (),sV f]
theorem lh{m}{w}{x1}{n}(o:1<=n)(u:∀ps:Qj,(ps.length:Int)=n->m [.v w,.v (dL ps)]=oW (.lst ((fin ps ts n).map .int)) ()):∀k p q,q.length=n->kJ ts n k q->p.length+k<=1000->∃f,c9 (asB<|d2 neD (aw 3)<|d2 ixD (am 2)<|d1 xQ<|cI 1) (aq (iT 2<|getV 3)
 <|aW 3<|aj m<|aB 0<|aB 3 nA) k (roF w x1 ((p++[q]).map dL)<|dL<|fin q ts n)=!(.nx<|roF w x1 ((p++rl ts n k q).map dL) f)
 |0,p,q,_,h,_=>h.elim
 |k+1,p,q,hl,h,hz=>by
  have i:atI ((p++[q]).map dL) (-1)=!dL q:=by rw[Zt];exact qm _ _
  have j:xQ (.int 1)=!_:=rfl;let g:=ML (fin q ts n) q;have x:∀R f,aw 3 (roF w x1 R f)=!f:=λt t=>rfl
  delta c9;have y:(asB<|d2 neD (aw 3)<|d2 ixD (am 2)<|d1 xQ<|cI 1) (roF w x1 ((p++[q]).map dL)<|dL<|fin q ts n)=!((not<|decide (fin q ts n=q))):=by
   generalize dL _=a at g ⊢;generalize dL q=b at g i
   generalize (p++[q]).map dL=R at i ⊢;simp[ix1,j,i,g]
  rw[y];by_cases z:fin q ts n=q
  .exact#[dL<|fin q ts n,?_];rw[YR z];delta rl;rw[Yk z];rfl
  .rw[YD z];have l:((fin q ts n).length)=n:=ir o;let s:=u _ l;let#[f,e]:=lh (x1:=x1) o u k (p++[q]) _ l (h.resolve_left z) (by rw[Yr,YN];lia);exact#[f,?_];have A:(aq (iT 2<|getV 3)
 <|aW 3<|aj m<|aB 0<|aB 3 nA) (roF w x1 ((p++[q]).map dL)<|dL<|fin q ts n)=!(.nx<|roF w x1 ((p++[q]++[fin q ts n]).map dL)<|dL<|fin (fin q ts n) ts n):=by
    have c:((p++[q]).map dL).length<16777216:=by rw[Yc,Yr,YN];lia
    rw[Zt (l₁:=p++[q])];show _=!(RES.nx<|roF w x1 ((p++[q]).map dL++[dL _]) _);generalize (p++[q]).map dL=R at c ⊢;have B:dL _=.lst ((fin (fin q ts n) ts n).map .int):=rfl;rw[B];generalize (fin _ ts n).map D.int=Y,dL _=a at s ⊢;simp[c,s]
   simp only[Bool.not_false,A];delta rl;rwa[Ym z,show p++q::rl ts n k _=p++[q]++rl ts n k (fin q ts n)by simp]
def BM{w}(b:1<=n/\n<=7)(h:∀ps:Qj,(ps.length:Int)=n->eN C [.v w,.v (dL ps)]=oW (.lst ((fin ps ts n).map .int)) ())ps(c:ps.length=n) :
  fi C [.v w,.v<|dL ps]=oW (.lst<|(rl ts n 100 ps).map dL) ():=by
 delta fi mT;let#[f,e]:=lh (x1:=sV<|dL ps) b.1 h 100 [] ps c (o6 ts n b ps) (by simp);rw[List.nil_append,List.nil_append,List.map_singleton]at e;let g:=h ps c;rw[iV,show aK 4 2 [.v w,.v _]=[sV w,sV _,(),()]from rfl,
  ao (ρ':=[sV w,sV<|dL ps,oW (.lst [dL ps]) (),()])<|by simp,
  ao (ρ':=roF w (sV<|dL ps) [dL ps]<|dL<|fin ps ts n) (by
   simp[g]),ao e]
 rfl
def oA{w}(f:1<=n/\n<=7)(i:∀ps:Qj,(ps.length:Int)=n->eN C [.v w,.v (dL ps)]=oW (.lst ((fin ps ts n).map .int)) ())ps(g:ps.length=n) :
  db C [.v w,.v<|dL ps]=sV (dL<|stl ts n 100 ps):=by
 let c:=BM f i ps g;let#[p,e]:=zH ts n 100 ps;have b:atI ((rl ts n 100 ps).map dL) (-1)=!(dL<|stl ts n 100 ps):=by rw[e,Zt];exact qm _ _
 have h:xQ (.int 1)=!_:=rfl;delta db rP;simp[c,h,ix1,b]
def Mp(h:okW x):okN 28 (.str x):=by show PyData.strOk x;delta PyData.strOk;rw[<-Array.all_toList,Yl];intro c a;have:=h.2.2 c a;simp;lia
def ER(h:okK n ks):Cmps 28 (ks.map D.str):=#[λd f=>by let#[x,c,rfl]:=Yg.mp f;exact Mp<|h.2 x c,λx c y e=>by let#[a,_,rfl]:=Yg.mp c;let#[b,_,rfl]:=Yg.mp e;rfl]
theorem DA(g:n<=7)(h:okK n ks):bx (bA (ks.map D.str)):=by
 let c:=(ER h).sub λd a=>bS.mp a
 have b:∀d∈bA<|ks.map D.str,∃x,d=.str x:=λd a=>by let#[x,_,rfl]:=Yg.mp<|bS.mp a;exact#[x,qx]
 let f:=i6<|ks.map D.str;rw[Yc]at f;have:=h.1;delta bx;simp only[Yn,YS];exact#[#[#[#[by lia,Yl.mpr c.1],Yl.mpr λx b=>Yl.mpr λy e=>c.2 x b y e],Yl.mpr λd a=>?_],Yl.mpr λd a=>?_]
 .let#[x,rfl]:=b d a;rfl
 .let#[x,rfl]:=b d a;rfl
theorem A8(b:n<=7)(h:okK n ks):sv (ks.map D.str):=#[YF (i6 _) (by rw[Yc];have:=h.1;lia),.inr λd a=>by let#[x,_,rfl]:=Yg.mp a;rfl]
def fpt(ks:List Str)(ts:List T4)(n:Int):=stl ts n 100<|rks<|ks.map D.str
theorem Fc{T J}(b:1<=n/\n<=7)(h:okK n ks)(g:∀ps:Qj,ps.length=n->eN C [.v (.ins C (wFs ks T J)),.v (dL ps)]=oW (.lst ((fin ps ts n).map .int)) ()):cQ C [.v<|.ins C<|wFs ks T J]=sV (dL<|fpt ks ts n):=by
 let c:=h.1;let f:=rY C _ (A8 b.2 h) (DA b.2 h) (ER h) (by rw[Yc];lia);let a:=oA b g (rks<|ks.map D.str) (by rwa[lR,Yc]);let fk:=mh C ks T J;delta cQ iW fpt;generalize wFs ks T J=F,stl ts n 100 _=z at *;have e:dL _=.lst ((rks<|ks.map D.str).map .int):=rfl;rw[e]at a;simp[fk,f,a]
def y8(a:1<=n/\n<=7)(b:okK n ks):((fpt ks ts n).length)=n/\Can (fpt ks ts n):=by let h:=b.1;exact#[uO ts n a.1 100 _<|by rwa[lR,Yc],?_];have:=uK ts n 100 (rks<|ks.map D.str)<|o6 ts n a _;delta fpt;rw[<-this];exact lN _ ts n
theorem lZ{st}{c}{e}{a:Type}f q F:∀xs:List a,(∀x∈xs,∃ρ1,st (f x) ρ=!ρ1/\c ρ1=!q x/\(q x->e ρ1=!F x))->bO st c e ρ (xs.map f)=!(xs.filter q).map F
 |[],_=>rfl
 |x::xs,h=>by
  let#[ρ1,l,j,i]:=h x Ye;let ih:=lZ f q F xs λy g=>h y<|Yb _ g
  rw[YI];delta bO;rw[l,Ya,j,Ya,ih];cases b:q x with
  |true=>rw[Yk qx,i b,List.filter_cons_of_pos b];rfl
  |false=>rw[Ym Yj,List.filter_cons_of_neg<|by rw[b];exact Yj]
def cnt(p:Qj)(x:Int):=p.countP λy=>decide<|y=x
def Iq p x:qS (dL p) (.int x)=!.int (cnt p x):=by
 have h:(p.map D.int).all (okN 29):=Yl.mpr λd a=>by let#[x,_,rfl]:=Yg.mp a;rfl
 show(if((p.map D.int).all _&&okN 30 _) then !D.int _ else ())=_;rw[h,Yk<|show(true&&okN 30 _) from rfl,List.countP_map]
 congr 3
theorem fW{p}(a:p.length=n):p=(ah n).map (ox p):=by
 apply Xk;intro k;delta ah;rw[YH,Yw];by_cases h:k<p.length
 .rw[Xa<|by lia,Yh];show _=!ox p _;delta ox;rw[Zr,Yh h];rfl
 .rw[Zm<|by lia,Zm<|by rw[Zw];lia];rfl
def rwC(p:Qj)(n r:Int):=(ah n).filter λk=>decide<|ox p k=r
def Aj{p}(h:p.length=n)r:(rwC p n r).length=cnt p r:=by delta cnt rwC;let e:=fW h;rw[e,List.countP_map,List.countP_eq_length_filter,<-e];rfl
def opn(p:Qj)(n:Int):Qj:=match(ah n).find? (λr=>decide<|1<cnt p r)with
 |some r=>rwC p n r
 |none=>[]
def za{p}(a:p.length=n):dq (p.map D.int)=(ah n).map λk=>.tup [.int k,.int (ox p k)]:=by
 apply Xk;intro k;delta dq ah;rw[Yw,List.getElem?_zipIdx,Yw,YH,Yw];by_cases h:k<p.length
 .rw[Xa<|by lia,Yh];show some _=!D.tup [.int _,.int _];delta ox;rw[Zr,Yh h,ZX];rfl
 .rw[Zm<|by lia,Zm<|by rw[Zw];lia];rfl
theorem C3{P}{n m}(h:0<=m)(h1:m<n)(a:P m)(b:∀r,0<=r->r<m->P r=false):(ah n).find? P=!m:=by
 delta ah;rw[List.find?_map];have:(List.range n.toNat).find? (P ∘ λi:Nat=>i)=!m.toNat:=by
  rw[List.find?_range_eq_some];exact#[?_,Zg.mpr<|by lia,λj c=>?_]
  .show P (m.toNat);rwa[Vg h]
  .show((not<|P _));rw[b j (by lia)<|by lia];rfl
 rw[this];show some (m.toNat:Int)=!m;rw[Vg h]
def Ma(h:Cmps n ds){x}(hx:x∈ds)(a:y∈ds)(hz:z∈ds)(h1:ltD x y)(h2:ltD y z):ltD x z:=
 (Ab n x y z (h.1 x hx) (h.1 y a) (h.1 z hz) (h.2 x hx y a) (h.2 y a z hz)<|h.2 x hx z hz) h1 h2
def LL(h:Cmps n ds){x}(hx:x∈ds):ltD x x=false:=by
 cases q:ltD x x with
 |false=>rfl
 |true=>exact absurd q<|by rw[(gD n x x (h.1 x hx) (h.1 x hx)<|h.2 x hx x hx).as q];exact Yj
def Ga{p}(h:p≠[]):∃m,vY (dL p)=!.int m/\m∈p/\∀a∈p,m<=a:=by
 exact#[nJ p,?_,tM p h];have e:(p.map D.int).all isI:=Yl.mpr λd b=>by let#[x,_,rfl]:=Yg.mp b;rfl
 have c:(p.map D.int).isEmpty=false:=by cases p with|nil=>exact absurd qx h|cons _ _=>rfl
 show(if((p.map D.int).all isI&&(not<|(p.map D.int).isEmpty)) then !D.int _ else ())=_;rw[e,c,Yk<|show(true&&(not<|false)) from rfl,YH,show toI ∘ D.int=id from rfl,XD]
def Jy(x:DV)(p:Qj):=x=.v (dL p)\/x=.bor (.lst<|p.map .int)
theorem HV C{p}{x}(X:n<=1000)(K:p.length=n)(N:Can p)(hx:Jy x p):(de C [x]).bind dvD=!dL (opn p n):=by
 have w:∀a b,bY 0 [!x,a,b]=!_:=λa b=>by rcases hx with rfl|rfl<;>rfl
 have M:∀a b,gG 0 [!x,a,b]=!_:=λa b=>by delta gG;rw[w];rfl
 have L:∀a,aw 1 [a,oN<|!x]=!dL p:=λa=>by rcases hx with rfl|rfl<;>rfl
 have Q:bO (setV 0) (asB<|d2 gtI (d2 qS (aw 1)<|aw 0)<|cI 1) (getV 0) [(),oN<|!x] (p.map .int)=!(p.filter λr=>decide<|1<cnt p r).map .int:=by
  exact js _ p (λr v=>?_)<|Nat.zero_lt_succ _;show asB _ [sI r,oN _]=_;have O:d2 qS (aw 1) (aw 0) [sI r,oN<|!x]=!(.int<|cnt p r):=by rw[sx,L,Ya];exact Iq p r
  rw[Ff,sx,O];exact YW some<|VQ.mpr<|by lia
 have l:(p.map D.int).length<=16777216:=by rw[Yc];lia
 have B:(aW 1<|asO<|asL<|aR 1 [0] (bY 0) (setV 0) (asB<|d2 gtI (d2 qS (aw 1)<|aw 0)<|cI 1)<|getV 0) [!x,(),()]=!.nx [!x,sV<|dL<|p.filter λr=>decide<|1<cnt p r,()]:=by rw[gr,fU,cG,bb,w,Ya,Yk l];show(((bO _ _ _ [(),oN<|!x] _).map OD.lst).map OD.d).map _=_;rw[Q];rfl
 delta de kZ;rw[iU,show aK 3 1 [x]=[!x,(),()]from rfl,ao B];by_cases q:(p.filter λr=>decide<|1<cnt p r)=[]
 .rw[q,iK qx];have:opn p n=[]:=by
   delta opn;have:(ah n).find? (λr=>decide<|1<cnt p r)=():=by rw[List.find?_eq_none];intro r _ c;let c:=Yz c;let o:=List.countP_pos_iff.mp (by show 0<cnt p r;lia);let#[y,i,e]:=o;let e:=Yz e;subst e;have h:y∈p.filter (λr=>decide<|1<cnt p r):=YX.mpr #[i,YR c];rw[q]at h;cases h
   rw[this]
  rw[this];rfl
 .let#[m,J,u,H]:=Ga q;generalize A:(p.filter λr=>decide<|1<cnt p r)=S at *;have s:S.map D.int≠[]:=λz=>q<|XB.mp z
  have j:lS (getV 1) [!x,sV<|dL S,()]=!true:=by
   show some ((not<|(S.map D.int).isEmpty))=_;cases z:S.map D.int with
   |nil=>exact absurd z s
   |cons _ _=>rfl
  rw[ao (ρ':=[!x,sV<|dL S,()])<|by rw[eI,tP,j];rfl,
   ao (ρ':=[!x,sV<|dL S,sI m])<|by
    show(d1 vY (am 1) _).map _=_;rw[Il,show am 1 [!x,sV<|dL S,()]=!dL S from rfl,Ya,J];rfl]
  rw[<-A]at u;let#[E,f]:=YX.mp u;let f:=Yz f;let#[R,Y]:=N.1 _ E;have I:opn p n=rwC p n m:=by
   delta opn;rw[C3 R (by lia) (YR f) λr U T=>by
    rw[YD];intro c;have o:∃y∈p,decide (y=r):=List.countP_pos_iff.mp (by show 0<cnt p r;lia);let#[y,i,e]:=o;let e:=Yz e;subst e;have g:y∈S:=by rw[<-A];exact YX.mpr #[i,YR c]
    have:=H y g;lia]
  rw[I];have P:bO (jU [0,1]) (asB<|d2 eqD (aw 1)<|aw 2) (getV 0) [(),(),sI m] ((ah n).map λk=>.tup [.int k,.int<|ox p k])=!(rwC p n m).map .int:=by
   exact lZ _ (λk=>decide<|ox p k=m) D.int (ah n) λk v=>#[[sI k,sI<|ox p k,sI m],qx,?_,λv=>rfl]
   simp
  rw[d4,cG,bb,M,Ya,za K,Yk<|by rw[Yc,aE];lia];show((bv<|((bO _ _ _ [(),(),sI m] _).map OD.lst).map _)).bind dvD=_;rw[P];rfl
def pah(p:Qj)(n k:Int):=if cnt p (ox p k)=1 then p else(ah n).map λj=>if ox p j<ox p k\/j=k then ox p j else ox p j+1
theorem lL{p}(a:0<=n)(h:p.length=n):((pah p n k).length)=n:=by
 delta pah;split
 .exact h
 .rw[Yc,aE];lia
theorem tf C{p}{x}(A:n<=1000)(g:p.length=n)(m:0<=k/\k<n)(hx:Jy x p):eW C [x,.v (.int k)]=oW (.lst ((pah p n k).map .int)) ():=by
 have i:∀a,am 0 [!x,sI k,a]=!dL p:=λa=>by rcases hx with rfl|rfl<;>rfl
 have f:∀a,aw 0 [!x,sI k,a]=!dL p:=λa=>by rcases hx with rfl|rfl<;>rfl
 have o:∀a b,gG 0 [!x,a,b]=!_:=λa b=>by rcases hx with rfl|rfl<;>rfl
 let l:=CU g m;let s:=Iq p<|ox p k;delta eW mQ pah;rw[iV,show aK 3 2 [x,.v _]=[!x,sI k,()]from rfl,
  ao (ρ':=[!x,sI k,sI _])<|by
   rw[gr,sx,i,Ya];show((!_).bind λy=>ixD (dL p) y).map _=_;rw[Ya,show ixD (dL p) _=!.int _ from l];rfl]
 have e:asB (d2 eqD (d2 qS (aw 0)<|aw 2)<|cI 1) [!x,sI k,sI<|ox p k]=!(decide<|cnt p (ox p k)=1):=by
  have u:d2 qS (aw 0) (aw 2) [!x,sI k,sI<|ox p k]=!(.int<|cnt p<|ox p k):=by rwa[sx,f,Ya]
  rw[Ff,sx,u,Ya,Ya,zO];exact YW some<|VQ.mpr<|by lia
 by_cases q:cnt p (ox p k)=1
 .rw[YR q]at e;rw[Yk q,iK<|by
   rw[eI,e,Ya,Yk qx,d4,cG,BK,i];rfl]
  rfl
 .rw[YD q]at e;rw[Ym q,ao<|by rw[eI,e];rfl];have w:bO (jU [0,1]) bi (ifV (orT (asB<|d2 ltd (aw 1)<|aw 2)<|asB<|d2 eqD (aw 0)<|aw 3) (getV 1)<|d2 bP (am 1)<|cI 1) [(),(),sI<|ox p k,sI k] ((ah n).map λj=>.tup [.int j,.int<|ox p j])=!((ah n).map λj=>if ox p j<ox p k\/j=k then ox p j else ox p j+1).map .int:=by
   rw[YH];exact bF _ _ (ah n) λj t=>#[[sI j,sI _,sI _,sI k],qx,qx,?_]
   show _=!(D.int<|if ox p j<ox p k\/j=k then ox p j else ox p j+1);by_cases h:ox p j<ox p k
   .rw[Yk<|.inl h];simp[h]
   .by_cases c:j=k
    .rw[Yk<|.inr c];simp[h,c]
    .rw[Ym<|by rintro (z|z);exact h z;exact c z];simp[h,c]
  rw[d4,cG,bb,o,Ya,za g,Yk<|by rw[Yc,aE];lia];show bv (((bO _ _ _ [(),(),sI<|ox p k,sI k] _).map OD.lst).map _)=_;rw[w];rfl
theorem BG{w}{p}{x}(o:1<=n/\n<=7)(a:p.length=n)(g:0<=k/\k<n)(hx:Jy x p)(j:∀ps:Qj,(ps.length:Int)=n->db C [.v w,.v (dL ps)]=sV (dL (stl ts n 100 ps))):gZ C [.v w,x,.v<|.int k]=sV (dL<|stl ts n 100<|pah p n k):=by
 let b:=tf C (by lia) a g hx;let h:=j (pah p n k)<|lL (by lia) a;have i:∀f:DF->Option _,aB 1 f [sV w,!x,sI k]=(f [sV w,!x,sI k]).map λc=>x::c:=λf=>by rcases hx with rfl|rfl<;>rfl
 delta gZ wu;generalize eW C=P at b ⊢;generalize db C=S at h ⊢;have e:dL _=.lst ((pah p n k).map .int):=rfl;rw[e]at h;generalize dL _=z,(pah p n k).map D.int=y at *;rw[yD,show aK 3 3 [.v w,x,.v _]=[sV w,!x,sI k]from rfl,uW];have m:aj P (aB 1<|aB 2 nA) [sV w,!x,sI k]=!.lst y:=by rw[vF,i];show(![x,.v _]).bind _=_;rw[Ya,b];rfl
 have l:aj S (aB 0<|aV (aj P<|aB 1<|aB 2 nA) nA) [sV w,!x,sI k]=!z:=by rw[vF,Nr,No,m];show(![DV.v w,.v _]).bind _=_;rw[Ya,h];rfl
 rw[l];rfl
def ix(out:Qj)(k:Int):Int:=out.idxOf k
section
variable{n:Int}
theorem vU(b:1<=n)(p:out.Perm (ah n))(h:0<=k/\k<n):(0<=ix out k/\ix out k<n)/\ox out (ix out k)=k:=by let#[f,g,e]:=aN b p;let c:=p.mem_iff.mpr<|ap.mpr h;let a:=List.idxOf_lt_length_iff.mpr c;exact#[by delta ix;lia,?_];delta ix ox;rw[Zr,Yh a,List.getElem_idxOf];rfl
def p_(c:1<=n)(p:out.Perm (ah n)){k i}(h:0<=k/\k<n)(hi:0<=i/\i<n):ix out k=i↔k=ox out i:=by
 let#[a,b]:=vU c p h;constructor
 .intro e;rw[<-e];exact b.symm
 .intro e;by_cases z:ix out k=i
  .exact z
  .exact absurd (b.trans e)<|Ij c p a hi z
def tu(out q:Qj):=out.map<|ox q
theorem n5{f:Int->Int}{i}(h:0<=i/\i<L.length):ox (L.map f) i=f (ox L i):=by
 delta ox;have a:i.toNat<L.length:=by lia
 rw[Yw,Yh a];rfl
theorem lH(a:1<=n)(p:out.Perm (ah n))q{i}(h:0<=i/\i<n):ox (tu out q) i=ox q (ox out i):=n5 (by have:=(aN a p).1;lia)
theorem iw{f}(h:0<=k/\k<n):ox ((ah n).map f) k=f k:=by
 have a:k<((ah n).length):=by rw[aE];lia
 rw[n5 #[h.1,a]]
 congr 1
 delta ox ah;rw[Yw,Xa<|by lia];show(k.toNat)=k;lia
def IY(h:1<=n)(p:out.Perm (ah n)){a b}(i:a.length=n)(g:b.length=n)(e:tu out a=tu out b):a=b:=by rw[fW i,fW g];exact Zb λk f=>?_;let#[c,x]:=vU h p<|ap.mp f;have:=YW (λl=>ox l<|ix out k) e;simp[lH h p _ c,x]at this;exact this
def zn(a:1<=n)(p:out.Perm (ah n))(h:q.length=n):(tu out q).Perm q:=by have:=p.map<|ox q;rwa[<-fW h]at this
def Twt(n:Int)(out:Qj)(us ts:List T4):=∀i j,0<=i/\i<n->0<=j/\j<n->(bq i j us).Perm (bq (ox out i) (ox out j) ts)
def M7(a:1<=n/\n<=7)(p:out.Perm (ah n)){us}(hs:Twt n out us ts)q{i}(hi:0<=i/\i<n):kyD (tu out q) us n i=kyD q ts n (ox out i):=by
 let b:=(aN a.1 p).1;have g:(oth n i).map (prD (tu out q) us i)=((oth n i).map<|ox out).map (prD q ts<|ox out i):=by rw[YH];exact Zb λj h=>?_;let#[h,_]:=yY.mp h;show prD _ us i j=prD q ts _ _;delta prD;rw[lH a.1 p q h,lJ<|hs i j hi h]
 have f:((oth n i).map<|ox out).Perm (oth n<|ox out i):=by
  have e:(oth n i).map (ox out)=out.filter λx=>(not<|decide (x=ox out i)):=by
   rw[fW b,List.filter_map,<-fW b]
   congr 1
   exact List.filter_congr λj h=>?_
   congr 1
   exact VQ.mpr #[λz=>by rw[z],λz=>?_];by_cases y:j=i
   .exact y
   .exact absurd z<|Ij a.1 p (ap.mp h) hi y
  rw[e];exact p.filter _
 let#[_,c,_,_]:=kF<|r9 q ts n (ox out i) a;delta kyD;rw[lH a.1 p q hi,g,kh (f.map _) c]
def Cw{bs}(h:as.Perm bs):(bA as).Perm (bA bs):=(XV (iF as)<|iF bs).mpr λx=>by rw[bS,bS,h.mem_iff]
def C2(h:1<=n)(p:out.Perm (ah n))f:rks (out.map f)=tu out (rks ((ah n).map f)):=by let c:=Cw<|p.map f;let a:=(aN h p).2.2;delta rks tu;rw[YH];exact Zb λk b=>?_;show(rkD _<|f k)=ox _ k;rw[YH,iw<|a k b,u4 c];rfl
def JV(h:1<=n/\n<=7)(p:out.Perm (ah n)){us}(hs:Twt n out us ts)q:fin (tu out q) us n=tu out (fin q ts n):=by
 let a:=(aN h.1 p).1;delta fin;have:kys (tu out q) us n=out.map (kyD q ts n):=by delta kys;rw[fW a,YH,<-fW a];exact Zb λi b=>M7 h p hs q<|ap.mp b
 rw[this,C2 h.1 p];rfl
theorem xo(h:1<=n/\n<=7)(p:out.Perm (ah n)){us}(hs:Twt n out us ts):∀k q,q.length=n->stl us n k (tu out q)=tu out (stl ts n k q)
 |0,q,_=>rfl
 |k+1,q,hq=>by
  delta stl;rw[JV h p hs q];have a:((fin q ts n).length)=n:=ir h.1;by_cases z:fin q ts n=q
  .rw[Yk z,z,Yk qx]
  .rw[Ym z,Ym λy=>z<|IY h.1 p a hq y,xo h p hs k _ a]
theorem Iy(a:okK n ks):ks.map D.str=(ah n).map λk=>D.str (kAt ks k):=by
 let b:=a.1;apply Xk;intro k;delta ah;rw[YH,Yw,Yw];by_cases h:k<ks.length
 .rw[Xa<|by lia,Yh];show some _=!D.str _;delta kAt;rw[Zr,Yh h];rfl
 .rw[Zm<|by lia,Zm<|by rw[Zw];lia];rfl
def Lz(h:1<=n/\n<=7)(p:out.Perm (ah n)){us}(c:okK n ls)(a:okK n ks)(b:∀i,0<=i/\i<n->kAt ls i=kAt ks (ox out i))(hs:Twt n out us ts):fpt ls us n=tu out (fpt ks ts n):=by
 delta fpt;have:rks (ls.map D.str)=tu out (rks<|ks.map D.str):=by
  rw[Iy a,<-C2 h.1 p,Iy c]
  rw[fW (aN h.1 p).1]
  rw[YH]
  congr 1
  exact Zb λi e=>by
   show D.str _=D.str _;rw[b i<|ap.mp e]
 rw[this];exact xo h p hs 100 _<|by rw[lR,Yc];exact a.1
def D6(a:1<=n)(p:out.Perm (ah n))(h:q.length=n)r:cnt (tu out q) r=cnt q r:=(zn a p h).countP_eq _
def Jj(h:1<=n)(p:out.Perm (ah n))(b:q.length=n):((opn (tu out q) n).map (ox out)).Perm (opn q n):=by
 let a:=(aN h p).1;delta opn;have e:(λr=>decide<|1<cnt _ r)=λr=>decide _:=funext λr=>by rw[D6 h p b]
 rw[e];split
 .rename_i r _;have f:(rwC (tu out q) n r).map (ox out)=out.filter λk=>decide (ox q k=r):=by
   rw[fW a,List.filter_map,<-fW a]
   congr 1
   exact List.filter_congr λj c=>?_;rw[lH h p q<|ap.mp c];rfl
  rw[f];exact p.filter _
 .exact Va _
def Ku(h:1<=n)(p:out.Perm (ah n))(e:q.length=n)(b:0<=k/\k<n):pah (tu out q) n (ix out k)=tu out (pah q n k):=by
 let#[c,x]:=vU h p b;let g:=(aN h p).1;delta pah;rw[lH h p q c,x,D6 h p e];by_cases z:cnt q (ox q k)=1
 .rw[Yk z,Yk z]
 .rw[Ym z,Ym z];let f:=(aN h p).2.2;have l:tu out ((ah n).map λj=>if ox q j<ox q k\/j=k then ox q j else ox q j+1)=out.map λj=>if ox q j<ox q k\/j=k then ox q j else ox q j+1:=by delta tu;exact Zb λj a=>iw<|f j a
  rw[l]
  conv=>rhs;rw[fW g]
  rw[YH];exact Zb λj a=>?_;let a:=ap.mp a;rw[lH h p q a];have i:(j=ix out k)↔(ox out j=k):=#[λy=>by rwa[y],λy=>((p_ h p b a).mpr y.symm).symm]
  simp[i]
end
def IR(a:Cmps n ds){d e}(hd:d∈ds)(he:e∈ds)(h:rkD (bA ds) d=rkD (bA ds) e):d=e:=by let b:=oJ a hd;let c:=oJ a he;rw[h,c]at b;cases b;rfl
theorem Jp{n i j}(hi:0<=i/\i<n)(b:0<=j/\j<n)(h:ox q i≠ox q j):ox (fin q ts n) i≠ox (fin q ts n) j:=by let#[f,c]:=oO (ps:=q) (ts:=ts) hi;let#[b1,b2]:=oO (ps:=q) (ts:=ts) b;delta fin;rw[oG f,oG b1,c,b2];intro z;let e:=IR (jB q ts n) (Yg.mpr #[i,ap.mpr hi,qx]) (Yg.mpr #[j,ap.mpr b,qx]) (by lia);have:=YW (λd=>match d with|.tup (.int a::_)=>a|_=>0) e;exact h this
theorem xD{n i j}(hi:0<=i/\i<n)(a:0<=j/\j<n):∀k q,ox q i≠ox q j->ox (stl ts n k q) i≠ox (stl ts n k q) j
 |0,q,h=>h
 |k+1,q,h=>by
  delta stl;by_cases z:fin q ts n=q
  .rwa[Yk z]
  .rw[Ym z];exact xD hi a k _<|Jp hi a h
def i7{n k i}(h:¬cnt q (ox q k)=1)(hi:0<=i/\i<n):ox (pah q n k) i=if ox q i<ox q k\/i=k then ox q i else ox q i+1:=by delta pah;rw[Ym h,iw hi]
theorem CN{α:Type}{R}(s:∀a b,R a b->R b a):∀{S:List α},S.Pairwise R->∀a∈S,∀b∈S,a≠b->R a b
 |[],_,a,ha,_,_,_=>by cases ha
 |x::S,h,a,ha,b,hb,ne=>by
  let#[c,e]:=Zo.mp h;rcases Yt.mp ha with ea|ha
  .rcases Yt.mp hb with eb|hb
   .exact absurd (ea.trans eb.symm) ne
   .rw[ea];exact c b hb
  .rcases Yt.mp hb with eb|hb
   .rw[eb];exact s _ _<|c a ha
   .exact CN s e a ha b hb ne
def we(n:Int)(q S:Qj):=(∀s∈S,0<=s/\s<n)/\S.Pairwise λa b=>ox q a≠ox q b
def wK{S}(h:we n q S):S.Nodup:=h.2.imp λz e=>z<|by rw[e]
theorem yw{n k m}{S}(h:we n q S)(w:0<=k/\k<n)(p:0<=m/\m<n)(u:m≠k)(he:ox q m=ox q k)(l:¬cnt q (ox q k)=1):∃x,we n (stl ts n 100 (pah q n k)) (x::S):=by
 have f:∀a b,(0<=a/\a<n)->(0<=b/\b<n)->ox q a≠ox q b->ox _ a≠ox _ b:=λa b g o j=>by
  rw[i7 l g,i7 l o];split<;>split<;>first|lia|(rename_i z y;rcases z with z|z<;>first|lia|(subst z;lia))|(rename_i z y;rcases y with y|y<;>first|lia|(subst y;lia))
 have i:∀a,(0<=a/\a<n)->a≠k->ox q a=ox q k->ox _ a≠ox _ k:=λa g A e=>by
  rw[i7 l g,i7 l w,Ym<|by rintro (z|z);lia;exact A z,Yk<|.inr qx];lia
 have key:∀x,(0<=x/\x<n)->(∀s∈S,ox _ x≠ox _ s)->we n (stl ts n 100<|pah q n k) (x::S):=λx B c=>by
  exact#[λs z=>?_,Zo.mpr #[λs z=>xD B (h.1 s z) 100 _<|c s z,?_]]
  .rcases Yt.mp z with z|z
   .rwa[z]
   .exact h.1 s z
  .exact h.2.imp_of_mem λ{a b} g o j=>xD (h.1 a g) (h.1 b o) 100 _<|f a b (h.1 a g) (h.1 b o) j
 by_cases C:k∈S
 .exact#[m,key m p λs c=>?_];by_cases z:s=k
  .rw[z];exact i m p u he
  .have:ox q s≠ox q k:=CN (λ_ _ z e=>z e.symm) h.2 s c k C z;exact f m s p (h.1 s c) λe=>this<|by rwa[<-e]
 .exact#[k,key k w λs c=>?_];by_cases z:ox q s=ox q k
  .exact λe=>i s (h.1 s c) (λy=>C<|y ▸ c) z e.symm
  .exact f k s w (h.1 s c) λe=>z e.symm
theorem Gb(o:(q.length:Int)=n)(e:Can q)(h:opn q n=[]):q.Perm (ah n):=by
 have c:∀r,0<=r->r<n->cnt q r<=1:=λr l j=>by
  exact Za λz=>?_;delta opn at h;cases y:(ah n).find? (λr=>decide<|1<cnt q r)with
  |none=>exact List.find?_eq_none.mp y r (ap.mpr #[l,j])<|YR<|by lia
  |some g=>
   rw[y]at h;let s:=List.find?_some y;let x:=Yz s;have p:(rwC q n g).length=0:=by rw[show rwC q n g=[]from h];rfl
   rw[Aj o]at p;lia
 have i:q.Nodup:=by
  rw[List.nodup_iff_count];intro a;by_cases b:a∈q
  .let#[u,A]:=e.1 a b;have:=c a u (by lia);exact YF (Xj ?_) this;exact YW (λf=>List.countP f q) (funext λy=>by
    by_cases z:y=a
    .subst z;simp
    .simp[z])
  .rw[List.count_eq_zero_of_not_mem b];exact YQ _
 exact(XV i<|eJ n).mpr λa=>#[λb=>?_,λb=>?_]
 .have:=e.1 a b;exact ap.mpr<|by lia
 .exact Za λz=>?_;have:=bE (a::q) (ah n) (Zd.mpr #[z,i]) λy m=>by
   rcases Yt.mp m with w|w
   .rwa[w]
   .have:=e.1 y w;exact ap.mpr<|by lia
  rw[Yq,aE]at this;lia
end My
set_option maxHeartbeats 1000000
namespace My
open PySem PySem.Spec PyProof.Rows L2
structure Twn (n:Int) (g:Qj) (ls:List Str) (us:List T4) (ks:List Str) (ts:List T4):Prop where
 p:g.Perm (ah n)
 k:∀i,0<=i/\i<n->kAt ls i=kAt ks (ox g i)
 t:Twt n g us ts
def In(n i:Int):=0<=i/\i<n
section
variable{n:Int}{g:Qj}{us:List T4}
def bG(a:1<=n)(p:g.Perm (ah n)){i}(h:In n i):In n (ox g i):=(L6 a p h).2
def gs(a:1<=n)(p:g.Perm (ah n)){i}(h:In n i):In n (ix g i):=(vU a p h).1
def d9(a:1<=n)(p:g.Perm (ah n)){i}(h:In n i):ox g (ix g i)=i:=(vU a p h).2
def cR(a:1<=n)(p:g.Perm (ah n)){i}(h:In n i):ix g (ox g i)=i:=(p_ a p (bG a p h) h).mpr qx
theorem Ft{L:Qj}(h1:L.Nodup)(h2:∀x∈L,x∈ah n)(a:L.length=n.toNat):L.Perm (ah n):=by
 exact(XV h1<|eJ n).mpr λx=>#[h2 x,λh=>Za λz=>?_]
 have:=bE (x::L) (ah n) (Zd.mpr #[z,h1]) λy hy=>by
  rcases Yt.mp hy with rfl|hy
  .exact h
  .exact h2 y hy
 rw[Yq,aE]at this;lia
def lq{f}(h1:∀i,In n i->In n (f i))(h2:∀i j,In n i->In n j->f i=f j->i=j):((ah n).map f).Perm (ah n):=by
 have b:((ah n).map f).Nodup:=by rw[List.Nodup,Xl];exact(eJ n).imp_of_mem λl g a e=>a<|h2 _ _ (ap.mp l) (ap.mp g) e
 exact Ft b (λx h=>?_) (by rw[Yc,aE]);let#[i,c,rfl]:=Yg.mp h;exact ap.mpr<|h1 i<|ap.mp c
def o7{a b}(f:a.length=n)(e:b.length=n)(h:∀i,In n i->ox a i=ox b i):a=b:=by rw[fW f,fW e];exact Zb λi c=>h i<|ap.mp c
theorem u9 f:∀r:Qj,eU (r.map f)=(eU r).map λp=>(f p.1,f p.2)
 |[]=>rfl
 |x::xs=>by
  show((xs.map f).map λy=>(f x,y))++eU _=((xs.map λy=>(x,y))++eU xs).map _;rw[u9,Zt,YH,YH];rfl
theorem wJ:∀{r}{p},p∈eU r->p.1∈r/\p.2∈r
 |[],p,h=>nomatch h
 |x::xs,p,h=>by
  rcases Zc.mp h with h|h
  .let#[y,c,rfl]:=Yg.mp h;exact#[Ye,Yb _ c]
  .let#[a,b]:=wJ h;exact#[Yb _ a,Yb _ b]
def Jb(T:Twn n g ls us ks ts)(h:∀x∈r,In n x):bV ls us r=bV ks ts (r.map (ox g)):=by
 delta bV;rw[u9,YH,YH,YH,YH,show r.map _=r.map ((D.str ∘ kAt ks) ∘ ox g)from Zb λx c=>by show D.str _=D.str _;rw[T.k x<|h x c]]
 congr 3
 exact YW D.tup<|Zb λp e=>?_;let#[a,b]:=wJ e;exact lJ<|T.t p.1 p.2 (h _ a)<|h _ b
def ch(ts:List T4)(n:Int)(q:Qj)(k:Int):=stl ts n 100<|pah q n k
def inv(n:Int)(q:Qj):=(ah n).map<|ix q
def lv(ts:List T4)(n:Int):Nat->Qj->List Qj
 |0,_=>[]
 |m+1,q=>if opn q n=[]then[inv n q]else(opn q n).flatMap λk=>lv ts n m<|ch ts n q k
def Pt(n:Int)(q:Qj):=q.length=n/\Can q
def Kc(h:1<=n/\n<=7)(a:q.length=n):Pt n (stl ts n 100 q):=
 #[uO ts n h.1 100 q a,uK ts n 100 q (o6 ts n h q) ▸ lN _ ts n]
def oE(a:1<=n/\n<=7)(h:Pt n q)k:Pt n (ch ts n q k):=Kc a<|lL (Int.le_trans (by decide) a.1) h.1
def nQ(h:Pt n q)(o:opn q n=[]):q.Perm (ah n):=Gb h.1 h.2 o
def gc(a:1<=n)(p:q.Perm (ah n)):(inv n q).Perm (ah n):=lq (λi h=>gs a p h) λi j c b e=>by
 rw[<-d9 a p c,e,d9 a p b]
def uf{i}(h:In n i):ox (inv n q) i=ix q i:=iw h
def JF(a:1<=n)(p:q.Perm (ah n)){i}(h:In n i):ix (inv n q) i=ox q i:=
 (p_ a (gc a p) h<|bG a p h).mpr<|by rw[uf<|bG a p h,cR a p h]
def cU(h:k∈opn q n):In n k:=by
 delta opn at h;split at h
 .exact ap.mp (YX.mp h).1
 .cases h
def v6(a:1<=n)(p:g.Perm (ah n))(h:q.Perm (ah n)):(tu g q).Perm (ah n):=(zn a p (aN a h).1).trans h
def Jl(h:1<=n)(p:g.Perm (ah n))(b:q.Perm (ah n)):(inv n (tu g q)).map (ox g)=inv n q:=by delta inv;rw[YH];exact Zb λr a=>?_;let a:=ap.mp a;let pt:=v6 h p b;let c:=gs h pt a;exact((p_ h b a<|bG h p c).mpr ?_).symm;rw[<-lH h p q c,d9 h pt a]
def yW(a:1<=n/\n<=7)(T:Twn n g ls us ks ts)(h:q.length=n)(b:In n k):ch us n (tu g q) (ix g k)=tu g (ch ts n q k):=by delta ch;rw[Ku a.1 T.p h b];exact xo a T.p T.t 100 _<|lL (Int.le_trans (by decide) a.1) h
theorem Fl(a:1<=n/\n<=7)(T:Twn n g ls us ks ts):∀m q,Pt n q->∀x,x∈(lv us n m (tu g q)).map (bV ls us)↔x∈(lv ts n m q).map (bV ks ts)
 |0,q,_,x=>Iff.rfl
 |m+1,q,h,x=>by
  let c:=Jj a.1 T.p h.1;have w:opn _ n=[]↔opn q n=[]:=#[λz=>by rw[z]at c;exact c.symm.eq_nil,λz=>by rw[z]at c;exact XB.mp c.eq_nil]
  delta lv;by_cases o:opn q n=[]
  .rw[Yk o,Yk<|w.mpr o];let s:=nQ h o;show x∈[bV ls us _]↔x∈[bV ks ts _];rw[Jb T λy A=>ap.mp<|(gc a.1<|v6 a.1 T.p s).mem_iff.mp A,Jl a.1 T.p s]
  .rw[Ym o,Ym λz=>o<|w.mp z,List.map_flatMap,List.map_flatMap,ZY,ZY];constructor
   .rintro⟨f,b,i⟩;let j:=cU b;exact#[ox g f,c.mem_iff.mp<|Yg.mpr #[f,b,qx],?_];let e:=yW a T h.1<|bG a.1 T.p j;rw[cR a.1 T.p j]at e;rw[e]at i;exact(Fl a T m _ (oE a h _) x).mp i
   .rintro⟨k,u,i⟩;let j:=cU u;let#[f,b,e]:=Yg.mp<|c.mem_iff.mpr u;subst e;let l:=cU b;exact#[f,b,?_];let e:=yW a T h.1 j;rw[cR a.1 T.p l]at e;rw[e];exact(Fl a T m _ (oE a h _) x).mpr i
abbrev Au(ks:List Str)(ts:List T4)(n:Int)(g:Qj):=Twn n g ks ts ks ts
def jV(n:Int)(a b:Qj):=(ah n).map λi=>ox b<|ix a i
def flp(p:Int×Int):=(p.1,if p.2=1 then 2 else if p.2=2 then 1 else p.2)
def FA{i j}(h:okT n t):prs j i t=(prs i j t).map flp:=by
 let#[a,b,k,o]:=t;let e:=h.2.2.2.2.1;have c:¬b=a:=λz=>e z.symm
 delta prs;by_cases g:a=i/\b=j
 .let#[rfl,rfl]:=g;cases o<;>simp[flp,c]
 .by_cases f:b=i/\a=j
  .let#[rfl,rfl]:=f;cases o<;>simp[flp,c]
  .have n2:¬(b=j/\a=i):=λz=>g #[z.2,z.1]
   have n1:¬(a=j/\b=i):=λz=>f #[z.2,z.1]
   simp[g,f,n2,n1]
theorem oK{i j}:∀{ts},(∀t∈ts,okT n t)->bq j i ts=(bq i j ts).map flp
 |[],_=>rfl
 |t::ts,h=>by
  show prs j i t++bq j i ts=(prs i j t++bq i j ts).map flp;rw[Zt,FA<|h t Ye,oK λu a=>h u<|Yb _ a]
theorem mJ{i}:∀{ts},(∀t∈ts,okT n t)->bq i i ts=[]
 |[],_=>rfl
 |t::ts,h=>by
  show prs i i t++bq i i ts=[]
  let a:=(h t Ye).2.2.2.2.1;rw[mJ λu b=>h u<|Yb _ b];delta prs;rw[Ym λz=>a<|z.1.trans z.2.symm,Ym λz=>a<|z.2.trans z.1.symm];rfl
theorem Cy(a:1<=n)(p:r.Perm (ah n)){x}(h:In n x):r[(ix r x).toNat]?=!x:=by
 let c:=gs a p h;let b:=d9 a p h;let e:=(aN a p).1;delta ox at b;have:(ix r x).toNat<r.length:=by have:=c.1;have:=c.2;lia
 rw[Yh this]at b ⊢;exact YW some b
def rZ(c:1<=n){a b}(p:a.Perm (ah n))(f:b.Perm (ah n)):(jV n a b).Perm (ah n):=lq (λi h=>bG c f<|gs c p h) λi j l g e=>by
 let o:=gs c p l;let m:=gs c p g;have:ix a i=ix a j:=by rw[<-cR c f o,e,cR c f m]
 rw[<-d9 c p l,this,d9 c p g]
theorem AA(e:1<=n)(hs:∀t∈ts,okT n t){a b}(p:a.Perm (ah n))(m:b.Perm (ah n))(h:bV ks ts a=bV ks ts b):Au ks ts n (jV n a b):=by
 let z:=(aN e p).1;let y:=(aN e m).1;let x:=D.tup.inj h;injection x with e1 e2;injection e2 with e2 _;let w:=HR _ _<|D.tup.inj e1;let s:=(u6 _ a b<|by lia).mp<|D.tup.inj e2;have o:∀i,In n i->ox (jV n a b) i=ox b _:=λi c=>iw c
 have g:∀i,In n i->b[(ix a i).toNat]?=!ox b _:=λi c=>by
  let q:=gs e p c;have:(ix a i).toNat<b.length:=by have:=q.1;have:=q.2;lia
  delta ox;rw[Yh this];rfl
 have u:∀i j,In n i->In n j->ix a i<ix a j->(bq i j ts).Perm _:=λi j c f A=>
  Ic<|s _ _ _ _ _ _ (by have:=(gs e p c).1;lia) (Cy e p c) (Cy e p f) (g i c)<|g j f
 exact#[rZ e p m,λi c=>?_,λi j c f=>?_]
 .rw[o i c];have:=YW (λl=>l[(ix a i).toNat]?) w;simp[Cy e p c,g i c]at this;exact this
 .rw[o i c,o j f];rcases Int.lt_trichotomy _ (ix a j)with l|l|l
  .exact u i j c f l
  .have:i=j:=by rw[<-d9 e p c,l,d9 e p f]
   subst this;rw[mJ hs,mJ hs]
  .rw[oK hs,oK (j:=ox b _) hs];exact(u j i f c l).map flp
end
def Ref(n:Int)(a b:Qj):=∀i j,In n i->In n j->ox a i<ox a j->ox b i<ox b j
section
variable{n:Int}{a b:Qj}
def Ref.trans{c}(h:Ref n a b)(k:Ref n b c):Ref n a c:=λi j f e l=>k i j f e<|h i j f e l
def Nq{m}(q:Cmps m ds){d e}(hd:d∈ds)(he:e∈ds)(h:ltD d e):rkD (bA ds) d<rkD (bA ds) e:=by
 let j:=q.sub λx b=>bS.mp b
 let f:=bS.mpr hd;let o:=bS.mpr he;have s:∀x∈bA ds,ltD x d->ltD x e:=λx b l=>Ma j b f o l h
 have a:∀L:List D,(∀x∈L,x∈bA ds)->(L.filter λx=>ltD x d).length<=(L.filter λx=>ltD x e).length/\(d∈L->(L.filter λx=>ltD x d).length<(L.filter λx=>ltD x e).length):=by
  intro L;induction L with
  |nil=>exact λw=>#[Yp _,λz=>nomatch z]
  |cons x L ih=>
   intro c;let#[i,g]:=ih λy p=>c y<|Yb _ p
   rw[List.filter_cons,List.filter_cons];by_cases z:ltD x d
   .rw[Yk z,Yk<|s x (c x Ye) z,Yq,Yq];exact#[VL i,λm=>Nat.succ_lt_succ<|g ?_];rcases Yt.mp m with e|m
    .rw[e,LL j<|c x Ye]at z;cases z
    .exact m
   .rw[Ym z];by_cases y:ltD x e
    .rw[Yk y,Yq];exact#[Nat.le_succ_of_le i,λw=>Nat.lt_succ_of_le i]
    .rw[Ym y];exact#[i,λm=>g ?_];rcases Yt.mp m with e'|m
     .rw[<-e']at y;exact absurd h y
     .exact m
 exact(a _ λw h=>h).2 f
theorem GC:Ref n q (fin q ts n):=λi j a h l=>by
 let#[c,b]:=oO (ps:=q) (ts:=ts) a;let#[b1,b2]:=oO (ps:=q) (ts:=ts) h;delta fin;rw[oG c,oG b1,b,b2];have:=Nq (jB q ts n) (Yg.mpr #[i,ap.mpr a,qx]) (Yg.mpr #[j,ap.mpr h,qx])<|IL l;lia
theorem kR:∀k q,Ref n q (stl ts n k q)
 |0,q=>λz z z z l=>l
 |k+1,q=>by
  delta stl;split
  .exact λz z z z l=>l
  .exact GC.trans<|kR k _
theorem uj k:Ref n q (pah q n k):=λi j g h l=>by
 by_cases z:cnt q (ox q k)=1
 .delta pah;rwa[Yk z]
 .rw[i7 z g,i7 z h];have f:i=k->ox q i=ox q k:=λe=>by rw[e]
  have c:j=k->ox q j=ox q k:=λe=>by rw[e]
  by_cases a:i=k<;>by_cases b:j=k<;>first|(have:=f a;lia)|(have:=f a;split<;>(subst a;lia))|(have:=c b;split<;>lia)|(split<;>lia)
def x_ k:Ref n q (ch ts n q k):=(uj k).trans<|kR 100 _
theorem DG(c:1<=n/\n<=7):∀m q,Pt n q->∀l∈lv ts n m q,∃b,b.Perm (ah n)/\l=inv n b/\Ref n q b
 |0,q,_,l,a=>nomatch a
 |m+1,q,h,l,a=>by
  delta lv at a;split at a
  .rename_i o;exact#[q,nQ h o,Yu.mp a,λ_ _ _ _ l=>l]
  .let#[k,i,a]:=ZY.mp a;let#[b,g,f,e]:=DG c m _ (oE c h k) l a;exact#[b,g,f,(x_ k).trans e]
theorem vk(c:1<=n)(p1:q1.Perm (ah n))(p2:q.Perm (ah n))(o:a.length=n)(w:b.length=n)(m:Ref n a q1)(u:Ref n b q)(p:a.Perm b)(i:In n r):ox a (ix q1 r)=ox b (ix q r):=by
 have srt:∀{a q1},q1.Perm (ah n)->Ref n a q1->((inv n q1).map<|ox a).Pairwise (·<=·):=λ{a q1} p1 m=>by
  delta inv;rw[YH,Xl];have:(ah n).Pairwise (· < ·):=by delta ah;rw[Xl];exact List.pairwise_lt_range.imp λh=>by lia
  exact this.imp_of_mem λ{x y} g f l=>Int.not_lt.mp λz=>?_;let g:=ap.mp g;let f:=ap.mp f;have:=m _ _ (gs c p1 f) (gs c p1 g) z;rw[d9 c p1 g,d9 c p1 f]at this;lia
 have s:∀{a q1},a.length=n->q1.Perm (ah n)->((inv n q1).map<|ox a).Perm a:=λ{a q1} o p1=>by
  have:=(gc c p1).map<|ox a;rwa[<-fW o]at this
 let e:=((s o p1).trans<|p.trans (s w p2).symm).eq_of_pairwise (λx y v v E C=>Int.le_antisymm E C) (srt p1 m)<|srt p2 u;let j:=YW (λl=>ox l r) e;let B:=(aN c<|gc c p1).1;let A:=(aN c<|gc c p2).1;rwa[n5<|by rwa[B],n5<|by rwa[A],uf i,uf i]at j
theorem Gi(o:q.length=n){f p}(m:In n f)(l:In n p)(e:ox q f=ox q p):(pah q n f).Perm (pah q n p):=by
 delta pah;rw[e];split
 .exact .refl _
 .by_cases z:f=p
  .rw[z]
  .have s:∀i,In n i->In n (if i=f then p else if i=p then f else i):=λi c=>by split;exact l;split;exact m;exact c
   let g:=lq s λi j y y h=>by
    by_cases a:i=f<;>by_cases b:i=p<;>lia
   have:=g.map λj=>if ox q j<ox q p\/j=p then ox q j else ox q j+1
   rw[YH]at this;exact List.Perm.trans (.of_eq<|Zb λi c=>?_) this;show(if ox q i<ox q p\/i=f then ox q i else ox q i+1)=(λj=>if ox q j<ox q p\/j=p then ox q j else ox q j+1) (if i=f then p else if i=p then f else i)
   by_cases a:i=f
   .subst a;simp;exact e
   .by_cases b:i=p
    .subst b;simp only[Ym a,VJ];rw[Ym λh=>h.elim (λh=>Int.lt_irrefl _ h) a,Ym λh=>h.elim (λh=>by rw[e]at h;exact Int.lt_irrefl _ h) λh=>a h.symm,e]
    .rw[Ym a,Ym b];simp[a,b]
def wc{f p}(h:f∈opn q n)(a:p∈opn q n):ox q f=ox q p:=by
 delta opn at h a;split at h
 .rename_i r b;rw[b]at a;exact(Yz (YX.mp h).2).trans (Yz (YX.mp a).2).symm
 .cases h
def Sim(ks:List Str)(ts:List T4)(n:Int)(m:Nat)(a b:Qj):=∀x,x∈(lv ts n m a).map (bV ks ts)↔x∈(lv ts n m b).map (bV ks ts)
def vV(a:1<=n/\n<=7){g}(A:Au ks ts n g)(h:Pt n q)(e:tu g q=q){u}(b:In n u)m:Sim ks ts n m (ch ts n q u) (ch ts n q (ox g u)):=by let c:=yW a A h.1<|bG a.1 A.p b;rw[cR a.1 A.p b,e]at c;intro x;rw[c];exact Fl a A m _ (oE a h _) x
inductive Node (ks:List Str) (ts:List T4) (n:Int):Qj->Qj->Prop
 |nil:Node ks ts n [] (fpt ks ts n)
 |cons {w q:Qj}{k:Int}:Node ks ts n w q->k∈opn q n->Node ks ts n (w++[k]) (ch ts n q k)
def Node.pt(a:1<=n/\n<=7)(b:okK n ks){w}(h:Node ks ts n w q):Pt n q:=by
 induction h with
 |nil=>exact y8 a b
 |cons _ _ ih=>exact oE a ih _
def Node.leaves(b:1<=n/\n<=7)(c:okK n ks){w g}(A:Au ks ts n g)(h:Node ks ts n w q):(∀x∈w,ox g x=x)->tu g q=q:=by
 induction h with
 |nil=>exact λz=>(Lz b A.p c c A.k A.t).symm
 |@cons w q k h l ih=>
  intro f;let e:=ih λx j=>f x<|YL _ j
  let a:=f k<|YE _<|YO k;let i:=cU l;have:=yW b A (h.pt b c).1 i;rw[<-this]
  congr 1
  rw[<-a,cR b.1 A.p i,a]
end
section
variable{α:Type} [DecidableEq α]
def kC(F xs:List α):=xs.foldl (λF x=>if x∈F then F else F++[x]) F
def jH F x(xs:List α):kC F (x::xs)=kC (if x∈F then F else F++[x]) xs:=rfl
theorem gf{y}:∀{xs F:List α},y∈kC F xs↔y∈F\/y∈xs
 |[],F=>by simp[kC]
 |x::xs,F=>by
  rw[jH,gf];by_cases h:x∈F
  .rw[Yk h,Yt];constructor
   .rintro (a|a);exact .inl a;exact .inr<|.inr a
   .rintro (a|rfl|a);exact .inl a;exact .inl h;exact .inr a
  .rw[Ym h,Zc,Yu,Yt,or_assoc]
theorem nM:∀{xs F:List α},F.Nodup->(kC F xs).Nodup
 |[],F,h=>h
 |x::xs,F,h=>by
  rw[jH];by_cases q:x∈F
  .rw[Yk q];exact nM h
  .rw[Ym q];exact nM<|ZJ.mpr #[h,by simp,λa e b c=>?_];rw[Yu]at c;subst c;exact λz=>q<|z ▸ e
theorem o5:∀(xs F:List α),∃s,kC F xs=F++s
 |[],F=>#[[],by simp[kC]]
 |x::xs,F=>by
  rw[jH];let#[s,e]:=o5 xs<|if x∈F then F else F++[x];rw[e];by_cases q:x∈F
  .rw[Yk q];exact#[s,qx]
  .rw[Ym q];exact#[x::s,by rw[Zv];rfl]
def gM(nb:α->List α)(st:List α->Bool):Nat->List α->Nat->List α
 |0,F,_=>F
 |k+1,F,d=>match F[d]? with
  |none=>F
  |some a=>if st F then F else gM nb st k (kC F<|nb a)<|d+1
variable{nb:α->List α}{st:List α->Bool}
theorem lP{P:α->Prop}(h:∀a,P a->∀b∈nb a,P b):∀k F d,(∀x∈F,P x)->∀x∈gM nb st k F d,P x
 |0,F,d,hF,x,hx=>hF x hx
 |k+1,F,d,hF,x,hx=>by
  delta gM at hx;split at hx
  .exact hF x hx
  .rename_i a q;split at hx
   .exact hF x hx
   .exact lP h k _ _ (λy c=>?_) x hx;rcases gf.mp c with z|z
    .exact hF y z
    .exact h a (hF a<|YT q) y z
theorem t_{M:List α}(o:∀a∈M,∀b∈nb a,b∈M):∀k F d,F.Nodup->(∀x∈F,x∈M)->M.length<d+k->(∀i a,i<d->F[i]?=!a->∀b∈nb a,b∈F)->
  (gM nb st k F d).Nodup/\(∀x∈F,x∈gM nb st k F d)/\(st (gM nb st k F d)\/∀x∈gM nb st k F d,∀b∈nb x,b∈gM nb st k F d)
 |0,F,d,nd,hF,hk,h=>#[nd,λ_ h=>h,.inr λx g b f=>by
  have g:x∈F:=g;let#[i,j,e]:=Zj g;have:=bE F M nd hF;exact h i x (by lia) (by rw[Yh j,e]) b f]
 |k+1,F,d,nd,hF,hk,h=>by
  delta gM;split
  .rename_i q;have:=Xs.mp q;exact#[nd,λ_ h=>h,.inr λx g b f=>?_];let#[i,j,e]:=Zj g;exact h i x (by lia) (by rw[Yh j,e]) b f
  .rename_i a q;split
   .rename_i z;exact#[nd,λ_ h=>h,.inl z]
   .let p:=hF a<|YT q;let#[E,y]:=o5 (nb a) F;let#[w,u,s]:=t_ o k _ (d+1) (nM nd) (λx g=>(gf.mp g).elim (hF x)<|o a p x) (by lia) λi c j m b f=>by
     let A:=(Yo.mp q).1;rw[y,ZD<|by lia]at m;rcases Nat.lt_succ_iff_lt_or_eq.mp j with l|l
     .exact gf.mpr<|.inl<|h i c l m b f
     .rw[l,q]at m;cases m;exact gf.mpr<|.inr f
    exact#[w,λx g=>u x<|gf.mpr<|.inl g,s]
end
abbrev bfs(nb:Int->Qj):=gM nb λz=>false
inductive Gen (n:Int) (T:List Qj):Qj->Prop
 |one:Gen n T (ah n)
 |on {a t:Qj}:Gen n T a->t∈T->Gen n T (a.map (ox t))
section
variable{n:Int}
def Gen.mono(h:∀t∈T,t∈U){a}(g:Gen n T a):Gen n U a:=by
 induction g with
 |one=>exact .one
 |on _ ht ih=>exact ih.on<|h _ ht
def u5(b:1<=n){a t:Qj}(p:a.Perm (ah n))(pt:t.Perm (ah n)):(a.map (ox t)).Perm (ah n):=
 (p.map<|ox t).trans<|lq (λi h=>bG b pt h) λi j f c e=>by rw[<-cR b pt f,e,cR b pt c]
def Gen.perm(h:1<=n)(b:∀t∈T,t.Perm (ah n)){a}(g:Gen n T a):a.Perm (ah n):=by
 induction g with
 |one=>exact .refl _
 |on _ ht ih=>exact u5 h ih<|b _ ht
def cM(b:1<=n){a t}(p:a.Perm (ah n)){i}(h:In n i):ox (a.map (ox t)) i=ox t (ox a i):=n5<|by rwa[(aN b p).1]
def eG{i}(h:In n i):ox (ah n) i=i:=by
 have:=iw (f:=id) h
 rwa [XD]at this
def Gen.mul(c:1<=n)(e:∀t∈T,t.Perm (ah n)){a b}(g:Gen n T a)(k:Gen n T b):Gen n T (b.map (ox a)):=by
 let p:=k.perm c e;induction g with
 |one=>
  have:=Zb (f:=ox<|ah n) (g:=id) λx h=>eG<|ap.mp<|p.mem_iff.mp h
  rwa[this,XD]
 |@on a t ga ht ih=>
  rw[show b.map _=(b.map<|ox a).map (ox t)by
   rw[YH];exact Zb λx h=>cM c (ga.perm c e)<|ap.mp<|p.mem_iff.mp h]
  exact ih.on ht
def Clo(n:Int)(T:List Qj)(P:Int->Prop):=∀t∈T,∀x,In n x->P x->P (ox t x)
def Few(n:Int)(T:List Qj):=∃(c:Int->Int) (L:Qj),(∀x,In n x->c x∈L)/\(L.length+T.length<=n)/\∀P,Clo n T P->∀x y,In n x->In n y->c x=c y->P x->P y
theorem HQ(a:1<=n):Few n []:=#[id,ah n,λx h=>ap.mpr h,by rw[aE];simp;lia,λP z x y z z e h=>by rwa[<-show x=y from e]]
theorem KB(b:1<=n)(h:Few n T):T.length<n:=by let#[c,L,a,e,_]:=h;have:=Xn<|a 0 #[Uy 0,by lia];lia
theorem CH(c:1<=n){g}(p:g.Perm (ah n)){P:Int->Prop}(h:∀x,In n x->P x->P (ox g x)){f}(u:In n f)(q:P (ox g f)):P f:=by
 classical
 exact Za λz=>?_;have inj:∀i j,In n i->In n j->ox g i=ox g j->i=j:=λi j b s e=>by rw[<-cR c p b,e,cR c p s]
 have m:(f::(ah n).filter λx=>P x).Nodup:=Zd.mpr #[λy=>z<|Yz (YX.mp y).2,(eJ n).sublist List.filter_sublist];have b:∀x∈f::(ah n).filter λx=>P x,In n x/\P _:=λx hx=>by
  rcases Yt.mp hx with rfl|hx
  .exact#[u,q]
  .let a:=YX.mp hx;exact#[ap.mp a.1,h x (ap.mp a.1)<|Yz a.2]
 have:=bE _ ((ah n).filter λx=>P x) (by
  rw[List.Nodup,Xl];exact m.imp_of_mem λA w l e=>l<|inj _ _ (b _ A).1 (b _ w).1 e) λy o=>by
  let#[x,hx,rfl]:=Yg.mp o;exact YX.mpr #[ap.mpr<|bG c p (b x hx).1,YR (b x hx).2]
 rw[Yc,Yq]at this;lia
theorem Ke(s:1<=n)(h:Few n T){g}(p:g.Perm (ah n)){f}(a:In n f){P}(E:Clo n T P)(h1:P f)(h2:¬P (ox g f)):Few n (T++[g]):=by
 let#[c,L,q,H,w]:=h;let l:=bG s p a;let B:=λe=>h2<|w P E f _ a l e h1
 exact#[λx=>if c x=c (ox g f)then c f else c x,L.erase<|c<|ox g f,λx i=>?_,?_,λQ u x y i m e o=>?_]
 .show(if _ then _ else _)∈_;split
  .exact(List.mem_erase_of_ne B).mpr<|q f a
  .rename_i z;exact(List.mem_erase_of_ne z).mpr<|q x i
 .rw[List.length_erase_of_mem<|q _ l,Yr,YN];have:=List.length_pos_of_mem<|q _ l;lia
 .let b:=w Q λt C=>u t<|YL _ C
  let j:=u g<|YE _<|YO g;have e:(if c x=c (ox g f)then c f else c x)=if c y=c (ox g f)then c f else c y:=e;split at e
  .rename_i z;split at e
   .rename_i A;exact b x y i m (z.trans A.symm) o
   .exact b f y a m e<|CH s p j a<|b x _ i l z o
  .split at e
   .rename_i z;exact b _ y l m z.symm<|j f a<|b x f i a e o
   .exact b x y i m e o
end
structure Sst where
 way:Qj
 fst:Qj
 frow:D
 lst:Qj
 brow:D
 trn:List Qj
def iQ(w g:Qj):=w.all λx=>decide<|ox g x=x
def nbs(T:List Qj)(a:Int):=T.map λg=>ox g a
def lo(S:Sst)(w tr:Qj)(p:Int):=decide<|p∈bfs (nbs<|S.trn.filter<|iQ w) 10 tr 0
def onf(S:Sst)(w:Qj):=decide<|S.way.take w.length=w
def arr(ks:List Str)(ts:List T4)(n:Int)(w e:Qj)(S:Sst):Bool×Sst:=if S.fst=[]then(false,#[w,e,bV ks ts e,e,bV ks ts e,S.trn])else
 if eqd (bV ks ts e) S.frow then(true,#[S.way,S.fst,S.frow,if ltD (bV ks ts e) S.brow then e else S.lst,if ltD (bV ks ts e) S.brow then bV ks ts e else S.brow,S.trn++[jV n S.fst e]])
 else(false,#[S.way,S.fst,S.frow,if ltD (bV ks ts e) S.brow then e else S.lst,if ltD (bV ks ts e) S.brow then bV ks ts e else S.brow,S.trn])
def lp(G:Int->Sst->Bool×Sst)(w:Qj):Qj->Qj->Sst->Bool×Sst
 |[],_,S=>(false,S)
 |p::r,tr,S=>if lo S w tr p then lp G w r tr S else if((G p S).1&&(not<|onf (G p S).2 w)) then(true,(G p S).2)else lp G w r (tr++[p]) (G p S).2
def goP(ks:List Str)(ts:List T4)(n:Int):Nat->Qj->Qj->Sst->Bool×Sst
 |0,_,_,S=>(false,S)
 |m+1,w,q,S=>if opn q n=[]then arr ks ts n w (inv n q) S else lp (λp S=>goP ks ts n m (w++[p]) (ch ts n q p) S) w (opn q n) [] S
section
variable{n:Int}
structure Cx3 (ks:List Str) (ts:List T4) (n:Int):Prop where
 hn:1<=n/\n<=7
 hk:okK n ks
 hs:∀t∈ts,okT n t
structure Good (ks:List Str) (ts:List T4) (n:Int) (S:Sst):Prop where
 l1:S.fst.Perm (ah n)
 l2:S.lst.Perm (ah n)
 r1:S.frow=bV ks ts S.fst
 r2:S.brow=bV ks ts S.lst
 au:∀g∈S.trn,Au ks ts n g
def Nx(S:Sst):=S.fst=[]/\S.trn=[]
structure Keep (S S':Sst):Prop where
 w:S'.way=S.way
 f:S'.fst=S.fst
 r:S'.frow=S.frow
def Keep.trans{S e c}(a:Keep S e)(b:Keep e c):Keep S c:=#[b.w.trans a.w,b.f.trans a.f,b.r.trans a.r]
def Fix(w g:Qj):=∀x∈w,ox g x=x
def Non(ks:List Str)(ts:List T4)(n:Int)(x:D)(m:Nat)(q:Qj):=∀l∈lv ts n m q,bV ks ts l≠x
def Non.sim{x}{m}{a b}(s:Sim ks ts n m a b)(c:Non ks ts n x m a):Non ks ts n x m b:=λl g e=>by
 let#[f,h,i]:=Yg.mp<|(s _).mpr<|Yg.mpr #[l,g,qx];exact c f h<|i.trans e
structure Tk (ks:List Str) (ts:List T4) (n:Int) (w:Qj) (T:List Qj):Prop where
 fx:∀g∈T,Fix w g
 mv:∀g∈T,∃x,In n x/\ox g x≠x
 w:Few n T
def All(ks:List Str)(ts:List T4)(n:Int)(w:Qj)(T:List Qj):=∀g,Au ks ts n g->Fix w g->Gen n T g
def GoS(ks:List Str)(ts:List T4)(n:Int)(m:Nat)(w q:Qj)(g:Sst->Bool×Sst):=
 (∀S,Nx S->(g S).1=false/\Good ks ts n (g S).2/\(g S).2.way.take w.length=w/\(∃a,a.Perm (ah n)/\(g S).2.fst=inv n a/\Ref n q a)/\(g S).2.fst∈lv ts n m q/\Tk ks ts n w (g S).2.trn/\All ks ts n w (g S).2.trn) /\
 ∀S,Good ks ts n S->onf S w=false->Good ks ts n (g S).2/\Keep S (g S).2/\(((g S).1=false/\(g S).2.trn=S.trn/\Non ks ts n S.frow m q)\/((g S).1/\∃l∈lv ts n m q,bV ks ts l=S.frow/\(g S).2.trn=S.trn++[jV n S.fst l]))
def uA:(opn q n).Nodup:=by
 delta opn;split
 .exact(eJ n).sublist List.filter_sublist
 .exact .nil
def zh{a r}{p}(e:opn q n=a++p::r):p∈opn q n/\p∉a/\opn q n=(a++[p])++r:=by let b:=uA (n:=n) (q:=q);rw[e]at b;exact#[by rw[e];exact YE _ Ye,λz=>(ZJ.mp b).2.2 p z p Ye qx,by rw[e,Zv];rfl]
def cX{a}{p x:Int}(h:x∈a++[p]):x∈a\/x=p:=(Zc.mp h).imp id Yu.mp
def Kg(X:Cx3 ks ts n){S}{m}{w}{p}(N:Node ks ts n w q)(g:Good ks ts n S)(c:∀t∈tr,In n t/\Non ks ts n S.frow m (ch ts n q t))(h:lo S w tr p):Non ks ts n S.frow m (ch ts n q p):=by
 exact(lP (λa f b j=>?_) 10 tr 0 c p<|Yz h).2;let#[t,c,rfl]:=Yg.mp j;let#[o,l]:=YX.mp c;let A:=g.au t o;let e:=N.leaves X.hn X.hk A λx i=>Yz<|Yl.mp l x i
 exact#[bG X.hn.1 A.p f.1,f.2.sim<|vV X.hn A (N.pt X.hn X.hk) e f.1 m]
def quo(n:Int)(h g:Qj):=(ah n).map λi=>ix h<|ox g i
def gN{h g}{i}(hi:In n i):ox (quo n h g) i=ix h (ox g i):=iw hi
def jy(f:1<=n){h g}(H:Au ks ts n h)(A:Au ks ts n g):Au ks ts n (quo n h g):=by
 have b:∀i,In n i->In n _:=λi a=>gs f H.p<|bG f A.p a
 have e:∀i,In n i->ox h _=ox g i:=λi a=>d9 f H.p<|bG f A.p a
 exact#[lq b λi j a c z=>?_,λi a=>?_,λi j a c=>?_]
 .have:=e i a;rw[z,e j c]at this;rw[<-cR f A.p a,<-this,cR f A.p c]
 .rw[gN a,H.k _<|b i a,e i a];exact A.k i a
 .rw[gN a,gN c];have:=H.t _ _ (b i a)<|b j c;rw[e i a,e j c]at this;exact(A.t i j a c).trans this.symm
def zU(b:1<=n){w h g}(hw:∀x∈w,In n x)(H:Au ks ts n h)(fh:Fix w h)(f:Fix w g):Fix w (quo n h g):=λx a=>by
 rw[gN<|hw x a,f x a];have:=cR b H.p<|hw x a
 rwa [fh x a]at this
def qp(c:1<=n){h g}(H:Au ks ts n h)(A:Au ks ts n g):Au ks ts n (g.map (ox h)):=by
 have b:∀i,In n i->In n _:=λi a=>bG c A.p a
 exact#[u5 c A.p H.p,λi a=>?_,λi j a e=>?_]
 .rw[cM c A.p a,<-H.k _<|b i a];exact A.k i a
 .rw[cM c A.p a,cM c A.p e];exact(A.t i j a e).trans<|H.t _ _ (b i a)<|b j e
def i9:Au ks ts n (ah n):=#[.refl _,λi h=>by rw[eG h],λi j h a=>by rw[eG h,eG a]]
def Gen.au(h:1<=n)(b:∀t∈T,Au ks ts n t){a}(g:Gen n T a):Au ks ts n a:=by
 induction g with
 |one=>exact i9
 |on _ ht ih=>exact qp h (b _ ht) ih
def Gen.fix(b:1<=n){w}(hw:∀x∈w,In n x)(e:∀t∈T,t.Perm (ah n))(c:∀t∈T,Fix w t){a}(g:Gen n T a):Fix w a:=by
 induction g with
 |one=>exact λx h=>eG<|hw x h
 |on ga ht ih=>exact λx h=>by rw[cM b (ga.perm b e)<|hw x h,ih x h,c _ ht x h]
def oZ(a:1<=n){w T}{h g}{f}(hw:∀x∈w++[f],In n x)(o:∀t∈T,Au ks ts n t)(s:∀t∈T,Fix w t)(y:All ks ts n (w++[f]) T)(A:Au ks ts n g)(u:Fix w g)(H:Gen n T h)(e:ox h f=ox g f):Gen n T g:=by
 let P:=λt q=>(o t q).p
 let b:=H.au a o;let j:=hw f<|YE _<|YO f;let c:=λx l=>hw x<|YL _ l
 let K:=y _ (jy a b A) λx l=>by
  rcases cX l with z|z
  .exact zU a c b (H.fix a c P s) u x z
  .rw[z,gN j,<-e,cR a b.p j]
 have:=H.mul a P K
 rwa [show(quo n h g).map (ox h)=g from o7 (by rw[Yc];exact(aN a (jy a b A).p).1) (aN a A.p).1 λi m=>by rw[cM a (jy a b A).p m,gN m,d9 a b.p<|bG a A.p m]]at this
def Node.In(c:1<=n/\n<=7){w}(N:Node ks ts n w q):∀x∈w,In n x:=by
 induction N with
 |nil=>exact λz h=>nomatch h
 |cons _ b ih=>exact λx a=>(cX a).elim (ih x) λe=>e ▸ cU b
theorem Am{p i}(c:¬cnt q (ox q p)=1)(hi:My.In n i)(e:ox (pah q n p) i=ox q p):i=p:=by
 rw[i7 c hi]at e;split at e
 .rename_i z;rcases z with z|z
  .lia
  .exact z
 .rename_i z;have:¬ox q i<ox q p:=λy=>z<|.inl y
  lia
open A in
theorem k7(g:q.length=n)(h:k∈opn q n):¬cnt q (ox q k)=1/\∃j,My.In n j/\j≠k/\ox q j=ox q k:=by
 let b:=uA (n:=n) (q:=q);delta opn at h b;split at h
 .rename_i r c;rw[c]at b;have l:1<cnt q r:=by simpa using List.find?_some c
  let e:=Yz (YX.mp h).2;exact#[by rw[e];lia,?_];let i:=Aj g r;have:∃j∈rwC q n r,j≠k:=Za λz=>by
   have:∀j∈rwC q n r,j∈[k]:=λj a=>Yu.mpr<|Za λy=>z #[j,a,y]
   have:=bE (rwC q n r) [k] b this;rw[YN]at this;lia
  let#[j,a,f]:=this;exact#[j,ap.mp (YX.mp a).1,f,(Yz (YX.mp a).2).trans e.symm]
 .cases h
def GV{f i}(h:f∈opn q n)(hi:My.In n i)(e:ox q i=ox q f):i∈opn q n:=by
 delta opn at h ⊢;split at h
 .rename_i r a;exact YX.mpr #[ap.mpr hi,YR<|e.trans<|Yz (YX.mp h).2]
 .cases h
theorem Fk{a b}(h:Ref n a b){i j}(hi:My.In n i)(c:My.In n j)(e:ox b i=ox b j):ox a i=ox a j:=by
 rcases Us _ (ox a j)with l|l|l
 .have:=h i j hi c l;lia
 .exact l
 .have:=h j i c hi l;lia
def vB{p}(c:¬cnt q (ox q p)=1)(h:My.In n p):ox (pah q n p) p=ox q p:=by rw[i7 c h,Yk<|.inr qx]
def Node.solo(X:Cx3 ks ts n){w}(N:Node ks ts n w q):∀x∈w,∀i,My.In n i->ox q i=ox q x->i=x:=by
 induction N with
 |nil=>exact λy h=>nomatch h
 |@cons w q k N b ih=>
  intro x g i a e;let f:=cU b;rcases cX g with z|z
  .exact ih x z i a<|Fk (x_ k) a (N.In X.hn x z) e
  .subst z;let c:=(k7 (N.pt X.hn X.hk).1 b).1;exact Am c a<|(Fk (kR 100 _) a f e).trans<|vB c f
def NQ(X:Cx3 ks ts n){w}(N:Node ks ts n w q){f p}(l:f∈opn q n)(j:p∈opn q n){e}(p1:q1.Perm (ah n))(p2:e.Perm (ah n))(o:Ref n (pah q n f) q1)(m:Ref n (pah q n p) e):Fix w (jV n (inv n q1)<|inv n e)/\ox (jV n (inv n q1)<|inv n e) f=p:=by
 let g:=X.hn.1;have y:0<=n:=Int.le_trans (by decide) g;let h:=N.pt X.hn X.hk;have u:∀i,My.In n i->ox _ i=ix e _:=λi c=>by
  rw[show ox (jV n _ _) i=ox _ (ix _ i)from iw c,JF g p1 c,uf<|bG g p1 c]
 have s:∀{a b},a.length=n->b.length=n->Ref n a q1->Ref n b e->a.Perm b->∀i,My.In n i->ox a i=ox b _:=λH E C B J i c=>by
  have:=vk g p1 p2 H E C B J<|bG g p1 c
  rwa [cR g p1 c]at this
 have z:∀i,My.In n i->My.In n _:=λi c=>gs g p2<|bG g p1 c
 exact#[λx A=>?_,?_]
 .let c:=N.In X.hn x A;rw[u x c];exact N.solo X x A _ (z x c) (s h.1 h.1 ((uj f).trans o) ((uj p).trans m) (.refl _) x c).symm
 .let c:=cU l;rw[u f c];let I:=(k7 h.1 l).1;have:=s (lL y h.1) (lL y h.1) o m (Gi h.1 c (cU j)<|wc l j) f c;rw[vB I c,wc l j]at this;exact Am (k7 h.1 j).1 (z f c) this.symm
section
variable{m:Nat}{w:Qj}{G:Int->Sst->Bool×Sst}
theorem IS(X:Cx3 ks ts n)(N:Node ks ts n w q)(A:∀p∈opn q n,GoS ks ts n m (w++[p]) (ch ts n q p) (G p)):∀r a tr S,opn q n=a++r->(∀t∈tr,t∈a)->Good ks ts n S->onf S w=false->(∀p∈a,Non ks ts n S.frow m (ch ts n q p))->
  Good ks ts n (lp G w r tr S).2/\Keep S (lp G w r tr S).2/\(((lp G w r tr S).1=false/\(lp G w r tr S).2.trn=S.trn/\∀p∈opn q n,Non ks ts n S.frow m<|ch ts n q p)\/((lp G w r tr S).1/\∃p∈opn q n,∃l∈lv ts n m<|ch ts n q p,bV ks ts l=S.frow/\(lp G w r tr S).2.trn=S.trn++[jV n S.fst l]))
 |[],a,tr,S,e,_,g,_,c=>#[g,#[qx,qx,qx],.inl #[qx,qx,λp s=>c p<|by rwa[e,YZ]at s]]
 |p::r,a,tr,S,e,ht,g,ho,c=>by
  let#[s,I,E]:=zh e;have inD:∀x∈a,x∈opn q n:=λx j=>by rw[e];exact YL _ j
  delta lp;split
  .rename_i y;exact IS X N A r _ tr S E (λt h=>YL _<|ht t h) g ho λx j=>by
    rcases cX j with h|h
    .exact c x h
    .rw[h];exact Kg X N g (λt h=>#[cU<|inD t<|ht t h,c t<|ht t h]) y
  .have u:onf S (w++[p])=false:=by exact YD λz=>of_decide_eq_false ho ?_;have:=YW (λl=>l.take w.length) z;simpa[Uo]using this
   let#[C,i,K]:=(A p s).2 S g u;have o:onf (G p S).2 w=false:=by delta onf;rwa[i.w]
   rw[o];rcases K with⟨b,B,L⟩|⟨b,l,J,H,B⟩
   .rw[b,Ym<|by decide];have:=IS X N A r _ _ _ E (λt h=>by
     rcases cX h with h|h
     .exact YL _<|ht t h
     .rw[h];exact YE _<|YO p) C o λx j=>by
     rw[i.r];rcases cX j with h|h
     .exact c x h
     .rwa[h]
    rw[i.r,i.f,B]at this;exact#[this.1,i.trans this.2.1,this.2.2]
   .rw[b,Yk<|by decide];exact#[C,i,.inr #[qx,p,s,l,J,H,B]]
theorem Kj(X:Cx3 ks ts n)(N:Node ks ts n w q)(hG:∀p∈opn q n,GoS ks ts n m (w++[p]) (ch ts n q p) (G p)){f}(p1:q1.Perm (ah n))(r1:Ref n (pah q n f) q1)(s:f∈opn q n):∀r j tr S,opn q n=j++r->tr.Nodup->(∀t∈tr,t∈j)->f∈tr->Good ks ts n S->S.way.take (w.length+1)=w++[f]->S.fst=inv n q1->S.fst∈lv ts n m (ch ts n q f)->
  Tk ks ts n w S.trn->All ks ts n (w++[f]) S.trn->(∀p∈j,(∃g,Au ks ts n g/\Fix w g/\ox g f=p)->∃h,Gen n S.trn h/\ox h f=p)->
  Good ks ts n (lp G w r tr S).2/\Keep S (lp G w r tr S).2/\(lp G w r tr S).1=false/\Tk ks ts n w (lp G w r tr S).2.trn/\All ks ts n w (lp G w r tr S).2.trn
 |[],j,tr,S,e,_,_,_,g,_,_,_,tk,al,c=>#[g,#[rfl,rfl,rfl],qx,tk,λa A Q=>by
  let E:=cU s;let eq:=N.leaves X.hn X.hk A Q;let Y:=GV s (bG X.hn.1 A.p E) (by rw[<-lH X.hn.1 A.p q E,eq]);rw[e,YZ]at Y;let#[h,H,eh]:=c _ Y #[a,A,Q,qx];exact oZ X.hn.1 (λx C=>(cX C).elim (N.In X.hn x) λz=>z ▸ E) g.au tk.fx al A Q H eh]
 |p::r,j,tr,S,e,nd,u,E,g,ho,hq,hl,tk,al,c=>by
  let#[Y,J,e']:=zh e;let I:=X.hn.1;let o:=cU s;delta lp;split
  .rename_i L;exact Kj X N hG p1 r1 s r _ tr S e' nd (λt h=>YL _<|u t h) E g ho hq hl tk al λx C=>?_;rcases cX C with h|h
   .exact c x h
   .rw[h];exact(lP (P:=λx=>My.In n x/\((∃g,Au ks ts n g/\Fix w g/\ox g f=x)->∃h,Gen n S.trn h/\ox h f=x)) (λa O b R=>?_) 10 tr 0 (λt h=>#[cU<|by rw[e];exact YL _<|u t h,c t<|u t h]) p<|Yz L).2;let#[t,u,rfl]:=Yg.mp R;let Z:=(YX.mp u).1;let A:=g.au t Z;exact#[bG I A.p O.1,λ#[b,B,fb,eb]=>?_];let#[k,K,ek]:=O.2 #[quo n t b,jy I A B,zU I (N.In X.hn) A (tk.fx t Z) fb,by rw[gN o,eb,cR I A.p O.1]];exact#[_,K.on Z,by rw[cM I (K.au I g.au).p o,ek]]
  .rename_i L;have ho':onf S (w++[p])=false:=by exact YD λz=>J ?_;rw[Yr,YN,ho]at z;have:=List.append_cancel_left z;injection this with h _;rw[<-h];exact u f E
   let#[g1,T,Z]:=(hG p Y).2 S g ho';have on1:onf (G p S).2 w:=by delta onf;rw[T.w];exact YR ?_;have:=YW (λl=>l.take w.length) ho;simpa[Uo]using this
   rw[on1,Bool.not_true,XY,Ym Yj];have go:(∀t∈S.trn,t∈(G p S).2.trn)/\Tk ks ts n w (G p S).2.trn/\((∃g,Au ks ts n g/\Fix w g/\ox g f=p)->∃h,Gen n (G p S).2.trn h/\ox h f=p):=by
    rcases Z with⟨_,et,cv⟩|⟨_,l,hl2,hr,et⟩
    .rw[et];exact#[λ_ h=>h,tk,λ#[a,A,Q,ea]=>?_];have:=vV X.hn A (N.pt X.hn X.hk) (N.leaves X.hn X.hk A Q) o m;rw[ea]at this;let#[l',hl',e']:=Yg.mp<|(this _).mp<|Yg.mpr #[_,hl,qx];exact absurd (e'.trans g.r1.symm)<|cv l' hl'
    .let#[q2,p2,rfl,r2]:=DG X.hn m _ (oE X.hn (N.pt X.hn X.hk) p) l hl2;let#[j1,j2]:=NQ X N s Y p1 p2 r1<|(kR 100 _).trans r2;rw[<-hq]at j1 j2;have A:Au ks ts n (jV n S.fst<|inv n q2):=by have:=g1.au (jV n S.fst<|inv n q2) (by rw[et];exact YE _<|YO _);exact this
     rw[et];exact#[λ_ h=>YL _ h,#[λt h=>?_,λt h=>?_,?_],λ_=>#[(ah n).map<|ox<|jV n S.fst<|inv n q2,Gen.one.on<|YE _<|YO _,by rw[iw o,j2]]]
     .rcases Zc.mp h with z|z
      .exact tk.fx t z
      .rw[Yu.mp z];exact j1
     .rcases Zc.mp h with z|z
      .exact tk.mv t z
      .rw[Yu.mp z];exact#[f,o,λz=>J<|by rw[<-j2,z];exact u f E]
     .let cl:=t_ (nb:=nbs<|S.trn.filter<|iQ w) (st:=λ_=>false) (M:=ah n) (λa O b R=>by
       let#[t,h',rfl]:=Yg.mp R;exact ap.mpr<|bG I (g.au t (YX.mp h').1).p<|ap.mp O) 10 tr 0 nd (λx C=>ap.mpr<|cU<|by rw[e];exact YL _<|u x C) (by rw[aE];have:=X.hn.2;lia) λi _ hi=>absurd hi<|Vq i
      exact Ke I tk.w A.p o (P:=λx=>x∈bfs (nbs<|S.trn.filter<|iQ w) 10 tr 0) (λt U x _ C=>?_) (cl.2.1 f E) ?_
      .exact cl.2.2.resolve_left Yj x C _<|Yg.mpr #[t,YX.mpr #[U,Yl.mpr λy hy=>YR<|tk.fx t U y hy],qx]
      .rw[j2];exact of_decide_eq_false<|Ut.mpr L
   let#[m1,t1,c1]:=go;let#[g2,k2,h2,h3]:=Kj X N hG p1 r1 s r (j++[p]) (tr++[p]) _ e' (ZJ.mpr #[nd,by simp,λa O b R z=>J<|by rw[Yu]at R;rw[<-R,<-z];exact u a O]) (λt h=>by
    rcases cX h with h|h
    .exact YL _<|u t h
    .rw[h];exact YE _<|YO p) (YL _ E) g1 (by rw[T.w];exact ho) (T.f.trans hq) (by rw[T.f];exact hl) t1 (λa A Q=>(al a A Q).mono m1) λx C=>by
    rcases cX C with h|h
    .exact λz=>(c x h z).imp λ_ y=>#[y.1.mono m1,y.2]
    .rw[h];exact c1
   exact#[g2,T.trans k2,h2,h3]
end
def Fu(n:Int)(m:Nat)(q:Qj):=∃A,we n q A/\n<A.length+m
theorem yC(b:1<=n):¬Fu n 0 q:=λ#[A,h,l]=>by
 have:=bE A (ah n) (wK h) λx a=>ap.mpr<|h.1 x a
 rw[aE]at this;lia
theorem zS{m}(g:q.length=n)(h:Fu n (m+1) q)(a:k∈opn q n):Fu n m (ch ts n q k):=by let#[A,h,l]:=h;let#[c,j,i,b,e]:=k7 g a;let#[x,f]:=yw (ts:=ts) h (cU a) i b e c;exact#[_,f,by rw[Yq];lia]
theorem zt(X:Cx3 ks ts n):∀m w q,Node ks ts n w q->Fu n m q->GoS ks ts n m w q (goP ks ts n m w q)
 |0,w,q,_,fu=>(yC X.hn.1 fu).elim
 |m+1,w,q,N,fu=>by
  let u:=N.pt X.hn X.hk;let j:=X.hn.1;by_cases o:opn q n=[]
  .have B:lv ts n (m+1) q=[inv n q]:=by delta lv;rw[Yk o]
   let I:=nQ u o;let J:=gc j I;rw[show goP ks ts n (m+1) w q=arr ks ts n w (inv n q)from funext λS=>Yk o];exact#[λS K=>?_,λS g ho=>?_]
   .delta arr;rw[Yk K.1,K.2];exact#[qx,#[J,J,qx,qx,λg R=>nomatch R],XH,#[q,I,qx,λv v v v l=>l],?_,#[nofun,nofun,HQ j],λa A fa=>?_]
    .rw[B];exact YO _
    .let eq:=N.leaves X.hn X.hk A fa;rw[show a=ah n from o7 (aN j A.p).1 (aN j<|.refl _).1 λi L=>by
      rw[eG L,<-cR j I<|bG j A.p L,<-lH j A.p q L,eq,cR j I L]]
     exact .one
   .have ne:¬S.fst=[]:=λz=>by
     have:=g.l1.length_eq;rw[z,aE]at this;simp[Ze]at *;lia
    have gb:∀P,(∀g∈P,Au ks ts n g)->Good ks ts n #[S.way,S.fst,S.frow,if ltD (bV ks ts<|inv n q) S.brow then inv n q else S.lst,if ltD (bV ks ts<|inv n q) S.brow then bV ks ts (inv n q)else S.brow,P]:=λP H=>by
     split
     .exact#[g.l1,J,g.r1,qx,H]
     .exact#[g.l1,g.l2,g.r1,g.r2,H]
    let e:=dD (bV ks ts<|inv n q) S.frow (by rw[g.r1];exact oB ..);delta arr;rw[Ym ne];by_cases y:eqd (bV ks ts<|inv n q) S.frow
    .rw[Yk y];let e:=e.mp y;exact#[gb _ λt ht=>?_,#[qx,qx,qx],.inr #[qx,inv n q,by rw[B];exact YO _,e,qx]];rcases Zc.mp ht with z|z
     .exact g.au t z
     .rw[Yu.mp z];exact AA j X.hs g.l1 J<|by rw[<-g.r1,e]
    .rw[Ym y];exact#[gb _ g.au,#[qx,qx,qx],.inl #[qx,qx,λl s z=>y<|e.mpr<|by rw[B,Yu]at s;rwa[<-s]]]
  .have B:lv ts n (m+1) q=(opn q n).flatMap λk=>lv ts n m (ch ts n q k):=by show(if opn q n=[]then _ else _)=_;rw[Ym o]
   have T:∀p∈opn q n,GoS ks ts n m _ _ _:=λp E=>zt X m _ _ (N.cons E)<|zS u.1 fu E
   rw[show goP ks ts n (m+1) w q=lp _ w _ []from funext λS=>Ym o];exact#[λS K=>?_,λS g ho=>?_]
   .obtain⟨f,r,e⟩:∃f r,opn q n=f::r:=by
     cases z:opn q n with
     |nil=>exact absurd z o
     |cons f r=>exact#[f,r,qx]
    have M:f∈opn q n:=by rw[e];exact Ye
    let#[b,g1,O,#[q1,p1,f1,Z],c1,Q,a1]:=(T f M).1 S K;have nl:lo S w [] f=false:=YD λz=>by
     have:bfs (nbs<|S.trn.filter<|iQ w) 10 [] 0=[]:=rfl;rw[this]at z;cases z
    have st:lp (λp S=>goP ks ts n m (w++[p]) (ch ts n q p) S) w (opn q n) [] S=lp (λp S=>goP ks ts n m (w++[p]) (ch ts n q p) S) w r ([]++[f]) (goP ks ts n m (w++[f]) (ch ts n q f) S).2:=by rw[e];show(if lo S w [] f then _ else _)=_;rw[nl,Ym Yj,b,XX,Ym Yj]
    rw[st];let#[Y,C,U,h3,h4]:=Kj X N T p1 ((kR 100 _).trans Z) M r [f] ([]++[f]) _ e (by simp) (λt h=>h) (YO f) g1 (by rwa[Yr]at O) f1 c1 #[λg R x hx=>Q.fx g R x<|YL _ hx,Q.mv,Q.w] a1 λp u v=>#[ah n,.one,by rw[Yu.mp u];exact eG<|cU M]
    exact#[U,Y,?_,#[q1,p1,C.f.trans f1,(x_ f).trans Z],?_,h3,h4]
    .rw[C.w];have:=YW (λl=>l.take w.length) O;simpa[Uo]using this
    .rw[C.f,B];exact ZY.mpr #[f,M,c1]
   .let#[Y,C,U]:=IS X N T _ [] [] S qx (λv h=>nomatch h) g ho λv h=>nomatch h
    exact#[Y,C,U.imp (λ#[a,b,c]=>#[a,b,λl s=>?_]) λ#[a,p,u,l,s,hr]=>#[a,l,by rw[B];exact ZY.mpr #[p,u,s],hr]];rw[B]at s;let#[p,u,s]:=ZY.mp s;exact c p u l s
end
section
variable{α:Type} [DecidableEq α] {nb:α->List α}{st:List α->Bool}{k:Nat}{F:List α}{d:Nat}{a:α}
def Jr(h:F[d]?=()):gM nb st (k+1) F d=F:=by delta gM;rw[h]
def JK(h:st F):gM nb st (k+1) F d=F:=by
 delta gM;split
 .rfl
 .rw[Yk h]
def JE(h:F[d]?=!a)(s:st F=false):gM nb st (k+1) F d=gM nb st k (kC F (nb a)) (d+1):=by show(match F[d]? with|none=>F|some a=>if st F then F else gM nb st k _<|d+1)=_;rw[h,s];rfl
end
def knw(F:Qj):List (Key×D):=F.map λx=>(.inl x,.bl true)
def HB F x:(c_ (knw F) (.inl x)).isSome=decide (x∈F):=by
 induction F with
 |nil=>rfl
 |cons y F ih=>
  delta knw at ih ⊢;rw[YI,bQ];by_cases h:(Sum.inl y:Key)=.inl x
  .rw[Yk h];have:y=x:=VW h;subst this;simp
  .rw[Ym h,ih];have:¬x=y:=λz=>h<|by rw[z]
   simp[this]
def yL F x(h:x∉F):fm (knw F) (.inl x) (.bl true)=knw (F++[x]):=by
 delta fm knw;rw[Ym,Zt]
 .rfl
 .intro z;let#[e,c,b]:=List.any_eq_true.mp z;let#[y,a,rfl]:=Yg.mp c;have:Sum.inl y=.inl x:=Yz b;exact h<|VW this ▸ a
def nY{st}(h:st d ρ=!ρ1)(a:body ρ1=!.nx ρ2):gX st body (d::ds) ρ=gX st body ds ρ2:=by rw[gX];simp[h,a]
def rV{c}(h:c ρ=!false):c9 c body (k+1) ρ=!.nx ρ:=by rw[c9];simp[h]
def Bl{c}(h:c ρ=!true)(a:body ρ=!.nx ρ'):c9 c body (k+1) ρ=c9 c body k ρ':=by rw[c9];simp[h,a]
section
variable{α:Type} [DecidableEq α]
def ad(F:List α)(x:α):=if x∈F then F else F++[x]
noncomputable abbrev rF(em:α->D)(kn:List α->OD)(S:D)(a0:Addr)(v0:V)(dc m:D)(F:List α)(d:Nat)(x6 x7:Option DV):DF:=[sV S,sV<|.fn a0 v0 dc,sV m,oW (.lst<|F.map em) (),oW (kn F) (),sI d,x6,x7]
variable{em:α->D}{kn:List α->OD}{m:D}{B:Dw}{L:Nat}
 (hB:∀(F:List α) (d:Nat) (x:α) (x6:Option DV),F.length<L->B (rF em kn S a0 v0 dc m F d x6 (sV (em x)))=!.nx (rF em kn S a0 v0 dc m (ad F x) d x6 (sV (em x))))
include hB
theorem Im:∀xs F x7,F.length+xs.length<=L->∃y,gX (setV 7) B (xs.map em) (rF em kn S a0 v0 dc m F d x6 x7)=!.nx (rF em kn S a0 v0 dc m (kC F xs) d x6 y)
 |[],F,x7,_=>#[x7,qx]
 |x::xs,F,x7,hl=>by
  rw[Yq]at hl;let#[y,e]:=Im xs (ad F x) _<|by
   delta ad;split
   .lia
   .rw[Yr,YN];lia
  exact#[y,by
   show _=!(RES.nx<|rF em kn S a0 v0 dc m (kC (ad F x) xs) d x6 y);rw[<-e,YI];exact nY rfl<|hB F d x x6<|by lia]
theorem xf{gl}{nb}{M:List α}{st}(c:∀F d x6 x7,orT (wX 2) (asB (d2 leI (d1 bN (aw 3)) (am 2))) (rF em kn S a0 v0 dc m F d x6 x7)=!((not<|st F)))(o:∀a∈M,∀b∈nb a,b∈M)(l:∀a∈M,M.length+(nb a).length<=L)(f:∀a∈M,gl [sV (em a),sV dc]=!.lst ((nb a).map em)):∀k F d x6 x7,F.Nodup->(∀x∈F,x∈M)->d<=F.length->M.length<d+k->∃d' u y,
  c9 (eV (asB<|d2 ltd (aw 5)<|d1 bN<|aw 3)<|orT (wX 2)<|asB<|d2 leI (d1 bN<|aw 3)<|am 2) (aq (aW 6<|d2 ixD (am 3)<|am 5)<|aq (im (dw<|nu 1 a0 v0 gl<|getV 6) (setV 7) B)<|Cu 5<|cI 1) k (rF em kn S a0 v0 dc m F d x6 x7)=!(.nx<|rF em kn S a0 v0 dc m (gM nb st k F d) d' u y)
 |0,F,d,x6,x7,hn,hF,hd,hl=>by have:=bE _ _ hn hF;lia
 |k+1,F,d,x6,x7,hn,hF,hd,hl=>by
  let len:=bE _ _ hn hF;have e:asB (d2 ltd (aw 5)<|d1 bN<|aw 3) (rF em kn S a0 v0 dc m F d x6 x7)=!(decide<|d<F.length):=by delta rF;simp
  have i:∀b,(decide _&&(not<|st F))=b->eV (asB _) (orT (wX 2) _) _=!b:=λb E=>by
   delta eV;rw[e,<-E];cases decide (d<F.length)with
   |false=>rfl
   |true=>exact c F d x6 x7
  cases q:F[d]? with
  |none=>
   have:=Xs.mp q;rw[Jr q];exact#[d,x6,x7,rV<|i false<|by rw[YD<|by lia];rfl]
  |some a=>
   let lt:=(Yo.mp q).1;cases g:st F with
   |true=>
    rw[JK g];exact#[d,x6,x7,rV<|i false<|by rw[g,Bool.not_true,XY]]
   |false=>
   let j:=hF a<|YT q;rw[JE q g];let#[y,e]:=Im hB (d:=d) (x6:=sV<|em a) (nb a) F x7 (by have:=l a j;lia);let#[d',p,z,I]:=xf c o l f k (kC F<|nb a) (d+1) (sV<|em a) y (nM hn) (λx A=>by
    rcases gf.mp A with h|h
    .exact hF x h
    .exact o a j x h) (by let#[s,H]:=o5 (nb a) F;rw[H,Yr];lia)<|by lia
   exact#[d',p,z,?_];rw[<-I];exact Bl (i true<|by rw[YR lt,g];rfl) ?_;have w:ixD (.lst<|F.map em) (.int d)=!em a:=by exact Hj<|by rw[Yw,q];rfl
   rw[ao (ρ':=rF em kn S a0 v0 dc m F d (sV<|em a) x7) (by
    delta rF;generalize kn F=K,F.map em=U at *;simp[w,dvD])]
   rw[ao (by
    rw[<-e];delta im;have C:dw (nu 1 a0 v0 gl<|getV 6) (rF em kn S a0 v0 dc m F d (sV<|em a) x7)=!(nb a).map em:=by
     have:nu 1 a0 v0 gl (getV 6) (rF em kn S a0 v0 dc m F d (sV<|em a) x7)=!(.lst<|(nb a).map em):=by delta nu;exact(Yk #[qx,qx]).trans<|f a j
     delta dw;rw[this]
    rw[C];rfl)]
   rfl
end
theorem hbK{m}F d x x6(g:F.length<7000000):(dIf (asB (d2 pI (getV 7) (am 4))) (aq (oq 4 (getV 7) (λz=>!.bl true)) (iT 3 (getV 7))) dNx) (rF .int (λF=>.dK (knw F)) S a0 v0 dc m F d x6 (sI x))=!.nx (rF .int (λF=>.dK (knw F)) S a0 v0 dc m (ad F x) d x6 (sI x)):=by
 let a:=HB F x;have b:(knw F).length<16777216:=by delta knw;rw[Yc];lia
 have l:(F.map D.int).length<16777216:=by rw[Yc];lia
 by_cases h:x∈F
 .rw[show ad F x=F from Yk h];rw[YR h]at a;let#[w,c]:=Xe.mp a;delta rF;dsimp only;simp[pI,kd,c]
 .rw[show ad F x=F++[x]from Ym h];rw[YD h,Option.isSome_eq_false_iff,Option.isNone_iff_eq_none]at a;let e:=yL F x h;have f:(F++[x]).map D.int=F.map D.int++[D.int x]:=by simp
  delta rF;dsimp only;rw[f,<-e];generalize knw F=K,F.map D.int=U at *;simp[pI,kd,a,oq,b,l]
theorem yI:∀tr F,(F++tr).Nodup->lY (knw F) (knw tr)=knw (F++tr)
 |[],F,_=>by rw[YZ];rfl
 |x::tr,F,h=>by
  show lY (fm _ _ _) (knw tr)=_;have e:F++x::tr=(F++[x])++tr:=by rw[Zv];rfl
  rw[yL F x λz=>(ZJ.mp h).2.2 x z x Ye qx,yI tr _<|e ▸ h,e]
theorem sf:∀tr:Qj,gK (tr.map λx=>D.tup [.int x,.bl true])=!knw tr
 |[]=>rfl
 |x::tr=>by
  show(gK _).map _=_;rw[sf];rfl
theorem IK{M:Qj}(q:∀a∈M,∀b∈nb a,b∈M)(u:M.length<=7)(l:∀a∈M,(nb a).length<=6000000)(g:∀a∈M,gl [sI a,sV dc]=!.lst ((nb a).map .int))(c:tr.Nodup)(i:∀x∈tr,x∈M):eL 8 (d_ gl) dc (.v<|dL tr) .non=!(bfs nb 10 tr 0).map .int:=rG λa0 v0=>by
 let z:=bE _ _ c i;have w:(tr.map D.int).length<=7:=by rw[Yc];lia
 let#[A,s,y,e]:=xf (S:=dL tr) (a0:=a0) (v0:=v0) (m:=.non) hbK (st:=λt=>false) (λt t t t=>rfl) q (λa h=>by have:=l a h;lia) g 10 tr 0 () () c i (YQ _) (by lia);delta d_;rw[ao (ρ':=[sV _,sV _,sV<|.non,oW _ (),(),(),(),()]) qx];rw[ao (by
  have o:bO (setV 0) bi (asT<|ai (getV 0)<|ai (λt=>!_) aP) [()] _=!_:=bF D.int (λx=>D.tup [.int x,.bl true]) tr λx t=>#[_,qx,qx,qx]
  have p:sH 3 (zq<|aR 1 [] (bY 3) (setV 0) bi<|asT<|ai (getV 0)<|ai (λt=>some<|.bl true) aP) [sV<|dL tr,sV<|.fn a0 v0 dc,sV<|.non,oW (.lst<|tr.map .int) (),(),(),(),()]=!(.dK<|knw tr):=by show((if(tr.map D.int).length<=16777216 then bO _ _ _ [()] (tr.map D.int)else ()).bind λj=>(gK j).bind λf=>if j.length<=1000 then !OD.dK _ else ())=_;rw[Yk<|by lia,o,Ya,sf,Ya,Yk<|by rw[Yc];lia];exact YW (λx=>!_)<|yI tr [] c
  show(sH 3 _ _).map _=_;rw[p];rfl)]
 rw[ao (ρ':=rF .int (λF=>.dK _) _ a0 v0 dc .non tr 0 () ()) qx];rw[ao e];rfl
section
variable{n:Int}
def uN(a:1<=n){g}(p:g.Perm (ah n)){i}(h:In n i):ixD (dL g) (.int i)=!.int (ox g i):=CU (aN a p).1 h
theorem yS(h:1<=n)(e:∀g∈T,g.Perm (ah n))(f:T.length<=6000000){a}(c:In n a):gl0 C [sI a,sV (.lst (T.map dL))]=!.lst ((nbs T a).map .int):=by delta gl0;show(((if(T.map dL).length<=16777216 then bO _ bi _ [(),sI a] (T.map dL)else ())).map OD.lst).map OD.d=_;rw[Yk<|by rw[Yc];lia,bF dL _ T λg b=>#[_,qx,qx,uN h (e g b) c]];show some (D.lst _)=!(.lst<|(T.map λg=>ox g a).map .int);rw[YH];rfl
theorem Br(b:1<=n){g w}(p:g.Perm (ah n))(hw:∀x∈w,In n x)(l:w.length<=7):fV C [.v (dL g),.v (dL w)]=sV (.bl (iQ w g)):=by
 delta fV vx;show bv (br _ [sV<|dL g,sV<|dL w])=_;have c:bO (setV 0) bi (d2 eqD (d2 ixD (am 1)<|am 0)<|aw 0) [(),sV<|dL g] (w.map D.int)=!(w.map λx=>decide<|ox g x=x).map .bl:=by
  rw[YH];exact bF D.int _ w λx a=>#[_,qx,qx,?_]
  show(ixD (dL g)<|.int x).bind _=_;rw[uN b p<|hw x a];show eqD (.int _) (.int x)=_;rfl
 have h:(w.map D.int).length<=16777216:=by rw[Yc];lia
 have f:aR 1 [0] (bY 1) (setV 0) bi (d2 eqD (d2 ixD (am 1)<|am 0)<|aw 0) [sV<|dL g,sV<|dL w]=!(w.map λx=>decide<|ox g x=x).map .bl:=by rw[bb];show(if(w.map D.int).length<=16777216 then bO _ _ _ [(),sV<|dL g] (w.map D.int)else ())=_;rw[Yk h,c]
 rw[uW,Il,fU,cG,f];show bv (((BR<|.lst _).map _))=_;have j:((w.map λx=>decide<|ox g x=x).map D.bl).all xV:=Yl.mpr λd e=>by let#[x,_,rfl]:=Yg.mp e;rfl
 have i:((w.map λx=>decide<|ox g x=x).map D.bl).all trD=iQ w g:=by delta iQ;rw[List.all_map,List.all_map];rfl
 rw[show BR (.lst _)=!.bl _ from(Yk j).trans<|by rw[i]];rfl
end
def sFs(W:D)(S:Sst):List (Str×FO):=[("web",.d W),("way",.d<|dL S.way),("first",.d<|dL S.fst),("first_row",.d S.frow),("least",.d<|dL S.lst),("best_row",.d S.brow),("turnings",.lst<|S.trn.map dL)]
abbrev sO(W:D)(S:Sst):OD:=.obj (!ae)<|sFs W S
noncomputable abbrev sD(W:D)(S:Sst):D:=.ins ae [("web",W),("way",dL S.way),("first",dL S.fst),("first_row",S.frow),("least",dL S.lst),("best_row",S.brow),("turnings",.lst<|S.trn.map dL)]
section
variable{n:Int}
def Ix p F:inD (.int p) (dL F)=!.bl (decide (p∈F)):=by
 have f:(F.map D.int).all (okN 29):=Yl.mpr λd b=>by let#[x,_,rfl]:=Yg.mp b;rfl
 have c:((F.map D.int).any λz=>eqd z<|.int p)=decide (p∈F):=by
  rw[List.any_map,Bool.eq_iff_iff,List.any_eq_true,YS];constructor
  .rintro⟨x,a,e⟩;have e:eqd _ _:=e;exact Yz e ▸ a
  .intro h;exact#[p,h,by show eqd _ _;exact YR qx]
 show(if(okN 30 _&&(F.map D.int).all _) then !D.bl _ else ())=_;rw[f,Yk<|show(okN 30 _&&true) from rfl,c]
theorem GB(e:1<=n/\n<=7){S}{w}{p}(i:∀g∈S.trn,g.Perm (ah n))(z:S.trn.length<=6000000)(hw:∀x∈w,In n x)(m:w.length<=7)(o:tr.Nodup)(s:∀x∈tr,In n x):bK C [.v<|sD W S,.v<|dL w,.v<|dL tr,.v<|.int p]=sV (.bl<|lo S w tr p):=by
 let E:=λg h=>Br (C:=C) e.1 (i g h) hw m
 have y:bO (setV 0) (asB<|aj (fV C)<|aB 0<|aB 1 nA) (getV 0) [(),sV<|dL w] _=!_:=lZ dL (iQ w) dL S.trn λg c=>#[[sV<|dL g,sV<|dL w],qx,by
  let h:=E g c;simp[h],λt=>rfl]
 have A:(aR 1 [1] (dw<|d1 (gJ ae "turnings")<|getV 0) (setV 0) (asB<|aj (fV C)<|aB 0<|aB 1 nA)<|getV 0) [sV<|sD W S,sV<|dL w,sV<|dL tr,sI p,()]=!(S.trn.filter<|iQ w).map dL:=by rw[bb];show(if(S.trn.map dL).length<=16777216 then bO _ _ _ [(),sV<|dL w] (S.trn.map dL)else ())=_;rw[Yk<|by rw[Yc];lia,y]
 have j:(S.trn.filter<|iQ w).length<=6000000:=YF (List.length_filter_le _ _) z;have l:∀g∈S.trn.filter<|iQ w,g.Perm (ah n):=λg c=>i g (YX.mp c).1
 let u:=IK (gl:=gl0 C) (λa f b B=>by
   let#[g,c,rfl]:=Yg.mp B;exact ap.mpr<|bG e.1 (l g c)<|ap.mp f) (by rw[aE];lia) (λa t=>by delta nbs;rwa[Yc]) (λa f=>yS e.1 l j<|ap.mp f) o λx q=>ap.mpr<|s x q
 show bv (aq _ _ [sV _,sV<|dL w,sV _,sI p,()])=_;rw[ao (ρ':=[sV<|sD W S,sV<|dL w,sV<|dL tr,sI p,sV<|.lst<|(S.trn.filter<|iQ w).map dL])<|by rw[gr,fU,cG,A];rfl];have H:asO (pP 8 4 (d_<|gl0 C)<|lend 2) [sV<|sD W S,sV<|dL w,sV<|dL tr,sI p,sV<|.lst<|(S.trn.filter<|iQ w).map dL]=!(dL<|bfs (nbs<|S.trn.filter<|iQ w) 10 tr 0):=by show((eL 8 (d_<|gl0 C) (.lst<|(S.trn.filter<|iQ w).map dL) (.v<|dL tr) .non).map OD.lst).map OD.d=_;rw[u];rfl
 rw[uW,sx,H];show bv (((inD (.int p)<|dL _)).map _)=_;rw[Ix];rfl
theorem KI(m k:Nat):HT.sIx m m (!k)=min k m:=by delta HT.sIx;simp;lia
def La{S}{w}:bM C [.v (sD W S),.v (dL w)]=sV (.bl (onf S w)):=by
 have h:jX (S.way.map D.int) () (some<|((w.map D.int).length))=(S.way.take w.length).map D.int:=by
  delta jX;rw[KI,Yc,Yc,show HT.sIx S.way.length 0 ()=0 from rfl,List.drop_zero,Nat.sub_zero,<-List.map_take]
  rw[<-Uo,XH]
 show bv (((eqD (.lst<|jX _ () _)<|dL w)).map _)=_;rw[h,LJ];rfl
def wG{e}{f}(b:n<=7)(h:∀i,In n i->e (ρ.set 0 (sI i))=!.int (f i)):bO (setV 0) bi e ρ ((ah n).map .int)=!((ah n).map f).map .int:=by rw[YH];exact bF D.int _ _ λi a=>#[_,qx,qx,h i<|ap.mp a]
end
section
variable{n:Int}
def CT{x}(h:x∈out):lw (dL out) (.int x)=!.int (ix out x):=by
 have b:(out.map D.int).all (okN 29):=Yl.mpr λd a=>by let#[y,_,rfl]:=Yg.mp a;rfl
 show(if((out.map D.int).all _&&okN 30 _) then(i4 _ _).map (λ(j:Nat)=>D.int _)else ())=_;rw[b,Yk<|show(true&&okN 30 _) from rfl,vD x out h];rfl
theorem Ja(h:1<=n/\n<=7)(p:q.Perm (ah n)):eK C [.v (dL q)]=oW (.lst ((inv n q).map .int)) ():=by
 let c:=(aN h.1 p).1;delta eK qh;have a:fP (d1 bN<|aw 0) [sV<|dL q]=!_:=iH (by show some _=_;rw[Yc,c]) (by lia);let b:=wG (e:=d2 lw (aw 1)<|aw 0) (ρ:=[(),sV<|dL q]) h.2 λi g=>CT<|p.mem_iff.mpr<|ap.mpr g
 rw[iU];show bv (bZ _ [sV<|dL q])=_;rw[d4,cG,bb,a,Ya,Yk<|by rw[Yc,aE];lia];show bv (((bO _ bi _ [(),sV<|dL q] _).map OD.lst).map _)=_;rw[b];rfl
theorem xj(h:1<=n/\n<=7){a b}(p:a.Perm (ah n))(g:b.Perm (ah n)):fM C [.v (dL a),.v (dL b)]=oW (.lst ((jV n a b).map .int)) ():=by
 let m:=(aN h.1 p).1;delta fM qZ;have j:fP (d1 bN<|aw 0) [sV<|dL a,sV<|dL b]=!_:=iH (by show some _=_;rw[Yc,m]) (by lia);let l:=wG (e:=d2 ixD (am 1)<|d2 lw (aw 2)<|aw 0) (ρ:=[(),sV<|dL b,sV<|dL a]) h.2 λi c=>by
  show(lw (dL a) _).bind _=_;rw[CT<|p.mem_iff.mpr<|ap.mpr c];exact uN h.1 g<|gs h.1 p c
 rw[iV];show bv (bZ _ [sV<|dL a,sV<|dL b])=_;rw[d4,cG,bb,j,Ya,Yk<|by rw[Yc,aE];lia];show bv (((bO _ bi _ [(),sV<|dL b,sV<|dL a] _).map OD.lst).map _)=_;rw[l];rfl
def DR{S}{o o'}(h:S[i]?=!oW (.obj (!ae) fs) t)(a:fs.length<1000)(h1:fs.lookup x=!o)(h2:k o=!o')(b:ge x o' fs=fs'):mm (!ae) i x k S=!S.set i (oW (.obj (!ae) fs') t):=by delta mm;rw[h];show(if some ae=!ae/\fs.length<1000 then _ else _)=_;rw[Yk #[qx,a],h1,Ya,h2,<-b];rfl
def gI{S S'}{f}{o}(h:ρ[0]?=!oW (sO W S) t)(a:f ρ=!d)(h1:(sFs W S).lookup x=!o)(h2:Iv d o=!.d d)(b:ge x (.d d) (sFs W S)=sFs W S'):iX ae 0 x f ρ=!.nx (ρ.set 0 (oW (sO W S') t)):=by delta iX;rw[a,Ya,DR h (show 7<1000 by decide) h1 h2 b];rfl
def B8{S}{w e}:dF C (sO W S) [.v (dL w),.v (dL e),.v r]=!(sO W #[w,e,r,e,r,S.trn],.non):=k9 qx λa=>by
 exact#[.nx [oW _ _,sV<|dL w,sV<|dL e,sV r],?_,qx,qx];delta gj
 rfl
end
section
variable{n:Int}
def nX{S}{m}{g}(h:ρ[i]?=!oW (sO W S) t)(h1:(sFs W S).lookup x=())(h2:g ρ=!(ds,ρ))(a:m (sO W S) (ds.map .v)=!(o',d)):di ae x i m g ρ=!(d,ρ.set i (oW o' t)):=by delta di;rw[show nn (!ae) i ρ=!sFs W S from by delta nn;rw[h];exact Yk qx,Ya,Yk h1,h2,Ya];rw[h];show(m _ _).map _=_;rw[a];rfl
def SG(ks:List Str)(ts:List T4)(n:Int)(S:Sst):=(S.fst=[]\/(S.fst.Perm (ah n)/\S.lst.Perm (ah n)/\S.frow=bV ks ts S.fst/\S.brow=bV ks ts S.lst))/\∀g∈S.trn,g.Perm<|ah n
abbrev aF(W:D)(S:Sst)(a:Addr)(w e R:D):DF:=[oW (sO W S)<|!a,sV w,sV e,sV R]
section
variable{Ro Le:Dm}{Be:Dz}{R w e ld:D}{S:Sst}
def Ox(h:Ro [.v W,.v e]=sV R):(aW 3 (aj Ro (aV (f8 (!ae) 0 "web") (aB 2 nA)))) [oW (sO W S) (!a),sV w,sV e,()]=!.nx (aF W S a w e R):=by show((Ro [.v W,.v e]).bind dvD).map _=_;rw[h];rfl
def L5(z:S.fst=[])(h:Be (sO W S) [.v w,.v e,.v R]=!(sO W S',.non)):(dIf (cK (lS (f8 (!ae) 0 "first"))) (aq (jc (di ae "begin" 0 Be (bT (bW (getV 1)) (bT (bW (getV 2)) (bT (bW (getV 3)) lW)))))
  (br (λy=>!.bl false))) dNx) (aF W S a w e R)=!.rt (.v (.bl false)) (aF W S' a w e R):=by
 have c:cK (lS<|f8 (!ae) 0 "first") (aF W S a w e R)=!true:=by show(!_).map _=_;rw[z];rfl
 rw[eI,c,Ya,Yk qx,ao<|by
  delta jc;rw[nX qx qx qx h];rfl]
 rfl
def LK(z:¬S.fst=[]):(dIf (cK (lS (f8 (!ae) 0 "first"))) (aq (jc (di ae "begin" 0 Be (bT (bW (getV 1)) (bT (bW (getV 2)) (bT (bW (getV 3)) lW)))))
  (br (λy=>!.bl false))) dNx) (aF W S a w e R)=!.nx (aF W S a w e R):=by
 have c:cK (lS<|f8 (!ae) 0 "first") (aF W S a w e R)=!false:=by
  show(!_).map _=_;cases q:S.fst with
  |nil=>exact absurd q z
  |cons _ _=>rfl
 rw[eI,c,Ya,Ym Yj];rfl
def Oq{e}(h:ltd R S.brow=!.bl (ltD R S.brow)):(dIf (asB (d2 ltd (aw 3) (f8 (!ae) 0 "best_row"))) (aq (iX ae 0 "least" (getV 2))
  (iX ae 0 "best_row" (getV 3))) dNx) (aF W S a w (dL e) R)=!.nx (aF W #[S.way,S.fst,S.frow,if ltD R S.brow then e else S.lst,if ltD R S.brow then R else S.brow,S.trn] a w (dL e) R):=by
 have c:asB (d2 ltd (aw 3)<|f8 (!ae) 0 "best_row") (aF W S a w (dL e) R)=!ltD R S.brow:=by show asB (λz=>ltd R S.brow) []=_;delta asB;rw[h]
 rw[eI,c,Ya];cases ltD R S.brow with
 |true=>
  rfl
 |false=>rfl
theorem OG{l}{b}(h:eqD R S.frow=!.bl b)(c:b->Le [.v (dL S.fst),.v e]=oW (.lst (l.map .int)) ()/\S.trn.length<=6000000):(aq (dIf (asB (d2 eqD (aw 3) (f8 (!ae) 0 "first_row"))) (aq (yF (!ae) 0 "turnings" (aj Le (aV (f8 (!ae) 0 "first") (aB 2 nA))))
  (br (λz=>!.bl true))) dNx)
  (br (λz=>!.bl false))) (aF W S a w e R)=!.rt (.v (.bl b)) (aF W #[S.way,S.fst,S.frow,S.lst,S.brow,if b then S.trn++[l]else S.trn] a w e R):=by
 have f:asB (d2 eqD (aw 3)<|f8 (!ae) 0 "first_row") (aF W S a w e R)=!b:=by show asB (λz=>eqD R S.frow) []=_;delta asB;rw[h]
 cases b with
 |true=>
  let#[c,j]:=c qx;have g:aj Le (aV (f8 (!ae) 0 "first")<|aB 2 nA) (aF W S a w e R)=!dL l:=by show(Le [.v _,.v e]).bind dvD=_;rw[c];rfl
  have i:G1 (dL l) (.lst<|S.trn.map dL)=!(.lst<|(S.trn++[l]).map dL):=by delta G1;dsimp only;rw[Yk<|by rw[Yc];lia,Zt];rfl
  exact iK ?_;rw[eI,f,Ya,Yk qx,ao<|by
   delta yF;rw[g,Ya,DR (fs:=sFs W S) qx (show 7<1000 by decide) qx i qx];rfl]
  rfl
 |false=>
  rw[ao<|by rw[eI,f,Ya,Ym Yj];rfl];rfl
end
def LA(h:1<=n/\n<=7)(c:okK n ks){T}(s:JOk kvs ts){S}{w e}(p:e.Perm (ah n))(f:SG ks ts n S)(j:S.trn.length<=6000000):cB C (sO (.ins C<|wFs ks T<|.dT kvs) S) [.v<|dL w,.v<|dL e]=!(sO (.ins C<|wFs ks T<|.dT kvs) (arr ks ts n w e S).2,.bl (arr ks ts n w e S).1):=k9 qx λa=>by
 let q:=Bd C ks T kvs ts e n h c.1 p s;let okE:=oM (ts:=ts) h.1 c p;let u:=λR=>B8 (C:=C) (W:=.ins C<|wFs ks T<|.dT kvs) (r:=R) (S:=S) (w:=w) (e:=e)
 let#[f,H]:=f;have x:¬S.fst=[]->ltd _ S.brow=!(.bl<|ltD _ S.brow)/\eqD _ S.frow=!(.bl<|eqd _ S.frow)/\fM C [.v _,.v<|dL e]=oW _ ():=λz=>by
  let#[g,i,m,o]:=f.resolve_left z;exact#[?_,?_,xj h g p]
  .delta ltd;rw[o,okE,oM h.1 c i,oB];rfl
  .rw[m];exact CG okE<|oM h.1 c g
 show ∃r,fD C [oW _ _,sV<|dL w,sV<|dL e,()]=!r/\_;delta fD arr;generalize D.ins C _=W,bV ks ts e=R,jA C=Ro,fM C=Le,dF C=I at *;rw[ao<|Ox q];by_cases z:S.fst=[]
 .rw[Yk z];exact#[_,iK<|L5 z<|u R,qx,qx]
 .rw[Ym z];let#[E,B,A]:=x z;have:=OG (W:=W) (w:=dL w) (a:=a) (S:=#[S.way,S.fst,S.frow,if ltD R S.brow then e else S.lst,if ltD R S.brow then R else S.brow,S.trn]) B λt=>#[A,j]
  exact#[_,(ao<|LK z).trans<|(ao<|Oq E).trans this,?_];by_cases y:eqd R S.frow
  .rw[Yk y,y];exact#[qx,qx]
  .rw[Ym y,Ut.mpr y];exact#[qx,qx]
end
section
variable{n:Int}
noncomputable abbrev gF(W:D)(S:Sst)(a:Addr)(w q chs:D)(tr:Qj)(x5 x6:Option DV):DF:=[oW (sO W S)<|!a,sV w,sV q,sV chs,oW (.lst<|tr.map .int) (),x5,x6]
section
variable{Lo On Chs:Dm}{R:Dz}{w q chs:D}{S:Sst}{x5:Option DV}{p:Int}{b:Bool}
def HJ{st}{x}(h:st d ρ=!ρ1)(a:body ρ1=!.rt x ρ2):gX st body (d::ds) ρ=!.rt x ρ2:=by rw[gX];simp[h,a]
def zQ(h:([("web",W),("way",dL S.way),("first",dL S.fst),("first_row",S.frow),("least",dL S.lst),("best_row",S.brow),("turnings",.lst (S.trn.map dL))]:List (Str×D)).lookup mn=())xs:mL ae mn (.v (sD W S)::xs):=by show(match(if ae=ae then !([("web",W),("way",dL S.way),("first",dL S.fst),("first_row",S.frow),("least",dL S.lst),("best_row",S.brow),("turnings",.lst _)]:List<|Str×D)else ())with|some fs=>(fs.lookup mn).isNone|none=>false);rw[Yk qx];simp only;rw[h];rfl
def Mu(h:Lo [.v (sD W S),.v w,.v (dL tr),.v (.int p)]=sV (.bl b)):(gz 4 (gz 0 (cK (asB (a8 ae "left_out" Lo (bp (bz 0) (aB 1 (aB 4 (aB 5 nA))))))))) (gF W S a w q chs tr (sI p) x6)=!((not<|b)):=by
 show cK _ [sV<|sD W S,sV w,sV q,sV chs,sV<|dL tr,sI p,x6]=_;have:a8 ae "left_out" Lo (bp (bz 0)<|aB 1<|aB 4<|aB 5 nA) [sV<|sD W S,sV w,sV q,sV chs,sV<|dL tr,sI p,x6]=!.bl b:=by show(if mL ae "left_out" [.v<|sD W S,.v w,.v<|dL tr,.v<|.int p] then(Lo [.v _,.v w,.v _,.v _]).bind dvD else ())=_;rw[Yk<|zQ qx _,h];rfl
 rw[tP];delta asB;rw[this];rfl
def MI(h:On [.v (sD W S),.v w]=sV (.bl b)):(gz 0 (eV (asB (getV 6)) (cK (asB (a8 ae "on_first" On (bp (bz 0) (aB 1 nA))))))) (gF W S a w q chs tr x5 (sV (.bl r)))=!(r&&(not<|b)):=by
 show eV _ _ [sV<|sD W S,sV w,sV q,sV chs,oW _ (),x5,sV _]=_;have:a8 ae "on_first" On (bp (bz 0)<|aB 1 nA) [sV<|sD W S,sV w,sV q,sV chs,oW (.lst<|tr.map .int) (),x5,sV<|.bl r]=!.bl b:=by show(if mL ae "on_first" [.v<|sD W S,.v w] then(On [.v _,.v w]).bind dvD else ())=_;rw[Yk<|zQ qx _,h];rfl
 delta eV;rw[tP];delta asB;rw[this];cases r<;>rfl
theorem HD{w}(g:w.length<=1000)(h:Chs [.v W,.v q,.v (.int p)]=sV cq)(c:R (sO W S) [.v (dL (w++[p])),.v cq]=!(sO W S',.bl b)):(sj 6 (di ae "go" 0 R (bT (bW (d2 bP (am 1) (asO (asL (ai (getV 5) aP))))) (bT (bW (aj Chs (aV (f8 (!ae) 0 "web") (aB 2 (aB 5 nA))))) lW)))) (gF W S a (dL w) q chs tr (sI p) x6)=!.nx (gF W S' a (dL w) q chs tr (sI p) (sV (.bl b))):=by
 delta sj;rw[nX (ds:=[dL _,cq]) qx qx ?_ c]
 .rfl
 .have f:d2 bP (am 1) (asO<|asL<|ai (getV 5) aP) (gF W S a (dL w) q chs tr (sI p) x6)=!(dL<|w++[p]):=by rw[show dL (w++[p])=.lst (w.map D.int++[.int p])from by simp];exact EI _ _<|by rw[Yc,YN];lia
  have e:aj Chs (aV (f8 (!ae) 0 "web")<|aB 2<|aB 5 nA) (gF W S a (dL w) q chs tr (sI p) x6)=!cq:=by show(Chs [.v W,.v q,.v _]).bind dvD=_;rw[h];rfl
  delta bT bW;rw[f];show(((aj Chs _ _).map λx=>(x,gF W S a (dL w) q chs tr (sI p) x6)).bind _).map _=_;rw[e];rfl
theorem KU(h:tr.length<=1000):(iT 4 (getV 5)) (gF W S a w q chs tr (sI p) x6)=!.nx (gF W S a w q chs (tr++[p]) (sI p) x6):=by rw[FV qx rfl<|by rw[Yc];lia];show some (RES.nx [_,_,_,_,oW _ (),_,_])=_;rw[show tr.map D.int++[D.int p]=(tr++[p]).map D.int from by simp]
theorem tJ{w b}{cq:Int->Qj}{SGd:Sst->Prop}{B}(e:∀S tr p,SGd S->S.trn.length<=6000000->tr.Nodup->(∀x∈tr,In n x)->Lo [.v<|sD W S,.v<|dL w,.v<|dL tr,.v<|.int p]=sV (.bl<|lo S w tr p))(c:∀S:Sst,On [.v<|sD W S,.v<|dL w]=sV (.bl<|onf S w))(s:w.length<=1000)(A:∀p,In n p->Chs [.v W,.v<|dL b,.v<|.int p]=sV (dL<|cq p)):∀r tr S x5 x6,(tr++r).Nodup->(∀x∈tr++r,In n x)->n<=7->(∀p∈r,∀S,SGd S->S.trn.length+B<=6000000->R (sO W S) [.v<|dL<|w++[p],.v<|dL<|cq p]=!(sO W (G p S).2,.bl (G p S).1)/\SGd (G p S).2/\(G p S).2.trn.length<=S.trn.length+B)->SGd S->S.trn.length+r.length*B<=6000000->
  (∃ρ',ρ'[0]?=!(oW (sO W (lp G w r tr S).2)<|!a)/\gX (setV 5) (dIf (gz 4<|gz 0<|cK<|asB<|a8 ae "left_out" Lo<|bp (bz 0)<|aB 1<|aB 4<|aB 5 nA) (aq (iT 4<|getV 5)
 <|aq (sj 6<|di ae "go" 0 R<|bT (bW<|d2 bP (am 1)<|asO<|asL<|ai (getV 5) aP)<|bT (bW<|aj Chs<|aV (f8 (!ae) 0 "web")<|aB 2<|aB 5 nA) lW)
 <|dIf (gz 0<|eV (asB<|getV 6)<|cK<|asB<|a8 ae "on_first" On (bp (bz 0) (aB 1 nA))) (br (λt=>!.bl true)) dNx) dNx) (r.map .int) (gF W S a (dL w) (dL b) chs tr x5 x6)=!(if(lp G w r tr S).1 then .rt (.v (.bl true)) ρ' else .nx ρ'))/\SGd (lp G w r tr S).2/\(lp G w r tr S).2.trn.length<=S.trn.length+r.length*B
 |[],tr,S,x5,x6,_,_,_,_,g,_=>#[#[_,qx,qx],g,XF _ _]
 |p::r,tr,S,x5,x6,nd,hi,hn,hR,g,hb=>by
  have I:tr++p::r=(tr++[p])++r:=by rw[Zv];rfl
  let u:=hi p (YE _ Ye);have l:∀x∈tr,In n x:=λx i=>hi x (YL _ i)
  let f:=(ZJ.mp nd).1;let K:=bE tr (ah n) f λx i=>ap.mpr (l x i)
  rw[aE]at K;rw[Yq,Nat.succ_mul]at hb;let j:=Mu (q:=dL b) (chs:=chs) (a:=a) (x6:=x6) (e S tr p g (by lia) f l);delta lp;rw[Yq,Nat.succ_mul,YI];cases z:lo S w tr p with
  |true=>
   rw[Yk qx,nY (ρ1:=gF W S a (dL w) (dL b) chs tr (sI p) x6) (ρ2:=gF W S a (dL w) (dL b) chs tr (sI p) x6) qx (by rw[eI,j,z];rfl)];have o:(tr++r).Nodup:=nd.sublist ((List.sublist_cons_self p r).append_left tr);let#[E,C,L]:=tJ e c s A r tr S (sI p) x6 o (λx i=>hi x ((Zc.mp i).elim (YL _) λy=>YE _ (Yb _ y))) hn (λm h=>hR m (Yb _ h)) g (by lia);exact#[E,C,by lia]
  |false=>
   let#[J,H,M]:=hR p Ye S g (by lia);have bd:(dIf (gz 4 (gz 0 (cK (asB (a8 ae "left_out" Lo (bp (bz 0) (aB 1 (aB 4 (aB 5 nA))))))))) (aq (iT 4 (getV 5))
  (aq (sj 6 (di ae "go" 0 R (bT (bW (d2 bP (am 1) (asO (asL (ai (getV 5) aP))))) (bT (bW (aj Chs (aV (f8 (!ae) 0 "web") (aB 2 (aB 5 nA))))) lW))))
  (dIf (gz 0 (eV (asB (getV 6)) (cK (asB (a8 ae "on_first" On (bp (bz 0) (aB 1 nA))))))) (br (λt=>!.bl true)) dNx))) dNx) (gF W S a (dL w) (dL b) chs tr (sI p) x6)=(if((G p S).1&&(not<|onf (G p S).2 w)) then br (λt=>!.bl true)else dNx) (gF W (G p S).2 a (dL w) (dL b) chs (tr++[p]) (sI p) (sV (.bl (G p S).1))):=by rw[eI,j,z,Ya,Yk (by decide),ao (KU (by lia)),ao (HD s (A p u) J),eI,MI (c _),Ya];split<;>rfl
   rw[Ym Yj];cases y:((G p S).1&&(not<|onf (G p S).2 w))with
   |true=>
    rw[y,Yk qx]at bd;rw[Yk qx,HJ (ρ1:=gF W S a (dL w) (dL b) chs tr (sI p) x6) qx (bd.trans qx)];exact#[#[_,qx,qx],H,by show(G p S).2.trn.length<=_;lia]
   |false=>
    rw[y,Ym Yj]at bd;rw[Ym Yj,nY (ρ1:=gF W S a (dL w) (dL b) chs tr (sI p) x6) qx (bd.trans qx)];let#[E,C,L]:=tJ e c s A r (tr++[p]) (G p S).2 (sI p) (sV (.bl (G p S).1)) (I ▸ nd) (I ▸ hi) hn (λm h=>hR m (Yb _ h)) H (by lia);exact#[E,C,by lia]
end
end
section
variable{n:Int}
def Lg{S}{w e}(i:1<=n)(p:e.Perm (ah n))(h:SG ks ts n S):SG ks ts n (arr ks ts n w e S).2/\(arr ks ts n w e S).2.trn.length<=S.trn.length+1:=by
 delta arr;let#[l,f]:=h;by_cases z:S.fst=[]
 .rw[Yk z];exact#[#[.inr #[p,p,qx,qx],f],ZZ _]
 .rw[Ym z];let#[a,b,c,d]:=l.resolve_left z;have q:(if ltD (bV ks ts e) S.brow then e else S.lst).Perm (ah n)/\(if ltD (bV ks ts e) S.brow then bV ks ts e else S.brow)=bV ks ts (if ltD (bV ks ts e) S.brow then e else S.lst):=by
   split
   .exact#[p,qx]
   .exact#[b,d]
  split
  .exact#[#[.inr #[a,q.1,c,q.2],λg j=>?_],by show(S.trn++[_]).length<=_;rw[Yr];exact Yp _];rcases Zc.mp j with y|y
   .exact f g y
   .rw[Yu.mp y];exact rZ i a p
  .exact#[#[.inr #[a,q.1,c,q.2],f],ZZ _]
def G8{w q e}{S S'}{b}(h1:(Opn [.v q]).bind dvD=!.lst [])(h2:Od [.v q]=oW e' ())(he:e'.d=e)(h:Arr (sO W S) [.v w,.v e]=!(sO W S',.bl b)):(aq (aW 3<|aj Opn<|aB 2 nA)<|aq (dIf (cK<|lS<|getV 3) (vJ<|di ae "arrive" 0 Arr<|bT (bW<|getV 1)<|bT (bW<|aj Od<|aB 2 nA) lW) dNx) G) [oW (sO W S)<|!a,sV w,sV q,(),(),(),()]=!.rt (.v<|.bl b) [oW (sO W S')<|!a,sV w,sV q,sV<|.lst [],(),(),()]:=by
 rw[ao (ρ':=[oW _ _,sV w,sV q,sV _,(),(),()])<|by
  show((Opn [.v q]).bind dvD).map _=_;rw[h1];rfl]
 exact iK ?_;rw[eI,show cK _ [oW _ _,sV w,sV q,sV _,(),(),()]=!true from rfl,Ya,Yk qx];delta vJ;rw[nX qx qx (by
  delta bT bW;show((!w).map _).bind _=_;show(((((Od [.v q]).bind dvD).map λx=>(x,_)).bind _).map _)=_;rw[h2];show(((!e'.d).map _).bind _).map _=_;rw[he];rfl) h]
 rfl
end
section
variable{n:Int}
def Fs{w q:D}{S:Sst}{chs:Qj}(b:¬chs=[])(h1:(Opn [.v q]).bind dvD=!dL chs):(aq (aW 3 (aj Opn (aB 2 nA))) (aq (dIf (cK (lS (getV 3))) (vJ (di ae "arrive" 0 Arr (bT (bW (getV 1)) (bT (bW (aj Od (aB 2 nA))) lW)))) dNx) (aq (ck 4 (asL aP)) G))) [oW (sO W S) (!a),sV w,sV q,(),(),(),()]=G (gF W S a w q (dL chs) [] () ()):=by
 rw[ao (ρ':=[oW (sO W S) (!a),sV w,sV q,sV (dL chs),(),(),()]) (by
  show((Opn [.v q]).bind dvD).map _=_;rw[h1];rfl)]
 rw[ao (ρ':=[oW (sO W S) (!a),sV w,sV q,sV (dL chs),(),(),()]) (by
  have:cK (lS (getV 3)) [oW (sO W S) (!a),sV w,sV q,sV (dL chs),(),(),()]=!false:=by
   cases chs with
   |nil=>exact absurd qx b
   |cons _ _=>rfl
  rw[eI,this];rfl)]
 rfl
theorem Fv(a:n<=7):(opn q n).length<=7:=by
 have:=bE (opn q n) (ah n) uA λx h=>ap.mpr (cU h)
 rw[aE]at this;lia
theorem Iu(c:1<=n/\n<=7)(H:okK n ks){T:D}(L:JOk kvs ts)(J:∀ps:Qj,(ps.length:Int)=n->db C [.v (.ins C (wFs ks T (.dT kvs))),.v (dL ps)]=sV (dL (stl ts n 100 ps))):∀(m:Nat) (w q:Qj) (S:Sst),(∀x∈w,In n x)->w.length+m<=8->Pt n q->Fu n m q->SG ks ts n S->S.trn.length+7^m<=6000000->
  cw C m (sO (.ins C (wFs ks T (.dT kvs))) S) [.v (dL w),.v (dL q)]=!(sO (.ins C (wFs ks T (.dT kvs))) (goP ks ts n m w q S).2,.bl (goP ks ts n m w q S).1)/\SG ks ts n (goP ks ts n m w q S).2/\(goP ks ts n m w q S).2.trn.length<=S.trn.length+7^m
 |0,w,q,S,_,_,_,fu,_,_=>(yC c.1 fu).elim
 |m+1,w,q,S,hw,wl,hp,fu,g,hb=>by
  have p7:1<=7^m:=Nat.one_le_pow _ _ (by decide);rw[Nat.pow_succ]at hb ⊢;let u:=HV C (x:=.v (dL q)) (by lia) hp.1 hp.2 (.inl qx);by_cases o:opn q n=[]
  .let z:=nQ hp o;let E:=gc c.1 z;rw[show goP ks ts n (m+1) w q S=arr ks ts n w (inv n q) S from Yk o];let#[Q,s2]:=Lg (ks:=ks) (ts:=ts) (w:=w) c.1 E g;exact#[k9 qx λa=>?_,Q,by lia];let X:=LA (C:=C) (w:=w) c H (T:=T) L E g (by lia);let Y:=Ja (C:=C) c z;rw[o]at u;show ∃r,dW C _ [oW (sO _ S) (!a),sV (dL w),sV (dL q),(),(),(),()]=!r/\_;delta dW;generalize D.ins C (wFs ks T (.dT kvs))=W,de C=Opn,eK C=Od,cB C=A at *;exact#[_,G8 u Y qx X,qx,qx]
  .rw[show goP ks ts n (m+1) w q S=lp (λp S=>goP ks ts n m (w++[p]) (ch ts n q p) S) w (opn q n) [] S from Ym o];let R:=Fv c.2 (q:=q);have lb:(opn q n).length*7^m<=7^m*7:=by rw[Nat.mul_comm];exact Nat.mul_le_mul_left _ R
   have K:∀p∈opn q n,∀S,SG ks ts n S->S.trn.length+7^m<=6000000->cw C m (sO (.ins C (wFs ks T (.dT kvs))) S) [.v (dL (w++[p])),.v (dL (ch ts n q p))]=!(sO (.ins C (wFs ks T (.dT kvs))) (goP ks ts n m (w++[p]) (ch ts n q p) S).2,.bl (goP ks ts n m (w++[p]) (ch ts n q p) S).1)/\SG ks ts n (goP ks ts n m (w++[p]) (ch ts n q p) S).2/\(goP ks ts n m (w++[p]) (ch ts n q p) S).2.trn.length<=S.trn.length+7^m:=λp f O g' y=>
    Iu c H L J m (w++[p]) (ch ts n q p) O (λx s=>by
     rcases cX s with h|h
     .exact hw x h
     .rw[h];exact cU f) (by rw[Yr,YN];lia) (oE c hp p) (zS hp.1 fu f) g' y
   have M:∀p,In n p->gZ C [.v (.ins C (wFs ks T (.dT kvs))),.v (dL q),.v (.int p)]=sV (dL (ch ts n q p)):=λp U=>BG c hp.1 U (.inl qx) J
   have j:∀(S:Sst) (e:Qj) (p:Int),SG ks ts n S->S.trn.length<=6000000->e.Nodup->(∀x∈e,In n x)->bK C [.v (sD (.ins C (wFs ks T (.dT kvs))) S),.v (dL w),.v (dL e),.v (.int p)]=sV (.bl (lo S w e p)):=λS e p g h1 h2 Z=>GB c g.2 h1 hw (by lia) h2 Z
   have i:∀S:Sst,bM C [.v (sD (.ins C (wFs ks T (.dT kvs))) S),.v (dL w)]=sV (.bl (onf S w)):=λS=>La
   let l:=λa=>tJ (W:=.ins C (wFs ks T (.dT kvs))) (a:=a) (chs:=dL (opn q n)) (n:=n) (G:=λp S=>goP ks ts n m (w++[p]) (ch ts n q p) S) (cq:=ch ts n q) (SGd:=SG ks ts n) (B:=7^m) j i (by lia) M (opn q n) [] S () () uA (λx s=>cU s) c.2 K g (by lia)
   exact#[k9 qx λa=>?_,(l 0).2.1,YF (l 0).2.2 (by lia)];let#[#[P,N,I],_]:=l a;clear l K M j i;show ∃r,dW C _ [oW (sO _ S) (!a),sV (dL w),sV (dL q),(),(),(),()]=!r/\_;delta dW;generalize cw C m=Rm,D.ins C (wFs ks T (.dT kvs))=W,gZ C=Chs,bK C=Lo,bM C=On,de C=Opn,eK C=Od,cB C=A at *;rw[Fs o u];generalize lp (λp S=>goP ks ts n m (w++[p]) (ch ts n q p) S) w (opn q n) [] S=x at *;let#[b,O]:=x;cases b with
   |true=>exact#[_,iK I,qx,N]
   |false=>exact#[_,(ao I).trans qx,qx,N]
end
section
variable{n:Int}
def S0:Sst:=#[[],[],.tup [],[],.tup [],[]]
def xx(ks:List Str)(ts:List T4)(n:Int):=(goP ks ts n 8 [] (fpt ks ts n) S0).2
def uz{fs fs':List (Str×FO)}{t:Option Addr}{o:FO}(h:ρ[0]?=!oW (.obj (!ae) fs) t)(h1:fs.lookup x=())(a:fs.length<1000)(h2:ge x o fs=fs'):addF (!ae) 0 x o ρ=!.nx (ρ.set 0 (oW (.obj (!ae) fs') t)):=by delta addF;rw[h];show(if some ae=!ae/\fs.lookup x=()/\fs.length<1000 then _ else _)=_;rw[Yk #[qx,h1,a],h2]
def jI{fs fs':List (Str×FO)}{t:Option Addr}{f:Dd}{d:D}(h:ρ[0]?=!oW (.obj (!ae) fs) t)(b:f ρ=!d)(h1:fs.lookup x=())(a:fs.length<1000)(h2:ge x (.d d) fs=fs'):lg ae 0 x f ρ=!.nx (ρ.set 0 (oW (.obj (!ae) fs') t)):=by delta lg;rw[b,Ya];exact uz h h1 a h2
def GE:dI C (.obj (!ae) []) [.v W]=!(sO W S0,.non):=k9 qx λa=>by
 exact#[.nx [oW (sO W S0) (!a),sV W],?_,qx,qx];show gh C [oW (.obj (!ae) []) (!a),sV W]=_;delta gh;rw[ao (jI (fs:=[]) (fs':=[("web",.d W)]) qx qx qx (show 0<1000 by decide) qx),
  ao (jI (fs:=[("web",.d W)]) (fs':=[("web",.d W),("way",.d (dL []))]) qx qx qx (show 1<1000 by decide) qx),
  ao (jI (fs:=[("web",.d W),("way",.d (dL []))]) (fs':=[("web",.d W),("way",.d (dL [])),("first",.d (dL []))]) qx qx qx (show 2<1000 by decide) qx),
  ao (jI (fs:=[("web",.d W),("way",.d (dL [])),("first",.d (dL []))]) (fs':=[("web",.d W),("way",.d (dL [])),("first",.d (dL [])),("first_row",.d (.tup []))]) qx qx qx (show 3<1000 by decide) qx),
  ao (jI (fs:=[("web",.d W),("way",.d (dL [])),("first",.d (dL [])),("first_row",.d (.tup []))]) (fs':=[("web",.d W),("way",.d (dL [])),("first",.d (dL [])),("first_row",.d (.tup [])),("least",.d (dL []))]) qx qx qx (show 4<1000 by decide) qx),
  ao (jI (fs:=[("web",.d W),("way",.d (dL [])),("first",.d (dL [])),("first_row",.d (.tup [])),("least",.d (dL []))]) (fs':=[("web",.d W),("way",.d (dL [])),("first",.d (dL [])),("first_row",.d (.tup [])),("least",.d (dL [])),("best_row",.d (.tup []))]) qx qx qx (show 5<1000 by decide) qx)]
 delta xu;show addF (!ae) 0 "turnings" (.lst []) [oW (.obj (!ae) [("web",.d W),("way",.d (dL [])),("first",.d (dL [])),("first_row",.d (.tup [])),("least",.d (dL [])),("best_row",.d (.tup []))]) (!a),sV W]=_;rw[uz (fs:=[("web",.d W),("way",.d (dL [])),("first",.d (dL [])),("first_row",.d (.tup [])),("least",.d (dL [])),("best_row",.d (.tup []))]) (fs':=sFs W S0) (t:=!a) qx qx (show 6<1000 by decide) qx];rfl
def Hf{a:Dm}{c I:Dz}{fp:D}{S S':Sst}{b:Bool}(h1:I (.obj (!ae) []) [.v W]=!(sO W S,.non))(h2:a [.v W]=sV fp)(h:c (sO W S) [.v (dL []),.v fp]=!(sO W S',.bl b)):bv ((aq (ck 1 (wz ae I (aV (getV 0) nA)))
  (aq (jc (di ae "go" 1 c (bT (bW (asO (asL aP))) (bT (bW (aj a (aB 0 nA))) lW))))
  (BD 1 (br (asT (ai (d1 (gJ ae "first") (getV 1)) (ai (asO (asL (fq (d1 (gJ ae "least") (getV 1))))) (ai (d1 (gJ ae "turnings") (getV 1)) aP)))))))) [sV W,()])=sV (.tup [dL S'.fst,dL S'.lst,.lst (S'.trn.map dL)]):=by
 rw[ao (ρ':=[sV W,oW (sO W S) ()]) (by
  have:wz ae I (aV (getV 0) nA) [sV W,()]=!sO W S:=by show(match I (.obj (!ae) []) [.v W]with|some (o',.non)=>!o'|_=>())=_;rw[h1]
  show(wz ae I (aV (getV 0) nA) [sV W,()]).map _=_;rw[this];rfl),
  ao (ρ':=[sV W,oW (sO W S') ()]) (by
  delta jc;rw[nX (W:=W) (S:=S) (ds:=[dL [],fp]) (o':=sO W S') (d:=.bl b) qx qx (by
   delta bT bW;show(((((a [.v W]).bind dvD).map λx=>(x,_)).bind _).map _)=_;rw[h2];rfl) h]
  rfl)]
 rfl
theorem Hd(a:1<=n/\n<=7)(b:okK n ks){T:D}(j:JOk kvs ts)(c:∀ps:Qj,(ps.length:Int)=n->eN C [.v (.ins C (wFs ks T (.dT kvs))),.v (dL ps)]=oW (.lst ((fin ps ts n).map .int)) ()):f_ C [.v (.ins C (wFs ks T (.dT kvs)))]=sV (.tup [dL (xx ks ts n).fst,dL (xx ks ts n).lst,.lst ((xx ks ts n).trn.map dL)]):=by
 let i:=λps h=>oA a c ps h
 let g:=Fc a b c;let f:=(Iu a b j i 8 [] (fpt ks ts n) S0 (λz h=>nomatch h) (by decide) (y8 a b) #[[],#[(λz h=>nomatch h),List.Pairwise.nil],by simp;lia] #[.inl qx,λz h=>nomatch h] (by decide)).1;delta f_ pR;rw[iU];let e:=GE (C:=C) (W:=.ins C (wFs ks T (.dT kvs)));show bv _=_;delta xx;generalize D.ins C (wFs ks T (.dT kvs))=W,cw C 8=Go,dI C=In0,cQ C=l at *;exact Hf e g f
end
theorem eM(C:Addr)(c p m:Int)(f:0<p)(h:0<m):∃r:Int,aU C [.v (.int c),.v (.int p),.v (.int m)]=sI r/\0<=r/\r<m:=by let e:=fj (c+1) 2147483647 (by decide);let u:=pA ((c+1)%2147483647) 48271 (.inr (by decide));let b:=fj ((c+1)%2147483647*48271) p f;let a:=fj ((c+1)%2147483647*48271%p) m h;exact#[(c+1)%2147483647*48271%p%m,by simp[aU,oS,e,u,b,a],Vs _ (by lia),XM _ h]
def fG(C:Addr)(ns:Qj)(k:Int)(a:0<=k):∃x:Int,aZ C [.v (.lst (ns.map .int)),.v (.int k)]=sI x:=by
 by_cases h:k<(ns.length:Int)
 .let#[x,_,e]:=jF (l:=ns) D.int a h;exact#[x,by simp[aZ,kj,h,ix1,e]]
 .exact#[0,by simp[aZ,kj,h]]
theorem Hx(C:Addr)(ns:Qj):∃n:Int,iD C [.v (.lst (ns.map .int)),.v (.int 7)]=sI n/\1<=n/\n<=7:=by
 let#[x,a]:=fG C ns 0 (by decide);let#[r,b,f,e]:=eM C x 10099 7 (by decide) (by decide);let#[q,c,i,g]:=eM C x 10061 7 (by decide) (by decide);delta iD oh;generalize aZ C=A at a ⊢;generalize aU C=S at b c ⊢;generalize ns.map D.int=N at *;by_cases h:r=5
 .exact#[7,by simp[a,b,h],by decide,by decide]
 .exact#[1+q,by simp[a,b,c,h],by lia,by lia]
def C6(x:Str):=decide (1<=x.cps.size)&&decide (x.cps.size<=3)&&(x.cps.toList.all λc=>decide (97<=c/\c<=122))&&(not<|x.cps.toList.contains 113)
def okQ(x:Str):=okW x/\x.cps.toList.contains 113=false
def xA(h:C6 x):okQ x:=by delta C6 at h;rw[Yn,Yn,Yn]at h;exact#[#[Yz h.1.1.1,Yz h.1.1.2,λc a=>by simpa using Yl.mp h.1.2 c a],Uv _ ▸ h.2]
def wdB:Option DV->Bool
 |some (.own (.lst [.str a,.str b,.str c]) ())=>C6 a&&C6 b&&C6 c
 |_=>false
theorem J_:∀s:Fin 324,wdB (cE 0 [.v (.int ((s:Nat):Int))])=true:=by decide+kernel
theorem DD(C:Addr)(s:Int)(h:0<=s/\s<324):∃a b c:Str,cE C [.v (.int s)]=oW (.lst [.str a,.str b,.str c]) ()/\okQ a/\okQ b/\okQ c:=by
 let#[m,rfl]:=Vu h.1;let k:=J_ #[m,by lia];rw[show cE C=cE 0 from rfl];simp only at k;generalize cE 0 [.v (.int (m:Int))]=X at k;delta wdB at k;split at k
 .rw[Yn,Yn]at k;exact#[_,_,_,qx,xA k.1.1,xA k.1.2,xA k.2]
 .cases k
theorem Ep(C:Addr)(ns:Qj)(n:Int)(hn:1<=n/\n<=7):∃ks:List Str,gC C [.v (.lst (ns.map .int)),.v (.int n)]=oW (.lst (ks.map .str)) ()/\(ks.length:Int)=n/\∀k∈ks,okQ k:=by
 let#[x1,f]:=fG C ns 1 (by decide);let#[s,m,s0,s1]:=eM C x1 10079 324 (by decide) (by decide);let#[a,b,c,w,z,M,oc]:=DD C s #[s0,s1];let#[x0,g]:=fG C ns 0 (by decide);let#[p,u,p0,p1]:=eM C x0 10091 4 (by decide) (by decide);let J:=fG C ns;let H:=λc=>eM C c 10093 2 (by decide) (by decide)
 delta gC mX;generalize aZ C=A at f g J ⊢;generalize aU C=S at m u H ⊢;generalize cE C=Wd at w ⊢;have len:((ah n).map D.int).length=n.toNat:=by rw[Yc,aE]
 have B:((ah n).map D.int).length<=16777216:=by lia
 have y:ixD (.lst [.str a,.str b,.str c]) (.int 0)=!.str a:=rfl;have K:ixD (.lst [.str a,.str b,.str c]) (.int 1)=!.str b:=rfl;generalize I:D.lst [.str a,.str b,.str c]=L at *;let g1:=jG (st:=setV 0) (c:=bi) (e:=d2 ixD (am 1) (cI 0)) (ρ:=[(),sV L]) D.str okQ ((ah n).map .int) (by
  intro d j;let#[i,E,rfl]:=Yg.mp j;exact#[[sI i,sV L],qx,qx,a,by simp[y],z])
 let g2:=jG (st:=setV 0) (c:=bi) (e:=d2 ixD (am 1) (d2 eZ (am 0) (cI 2))) (ρ:=[(),sV L]) D.str okQ ((ah n).map .int) (by
  intro d j;let#[i,E,rfl]:=Yg.mp j;let O:=fj i 2 (by decide);rcases(show i%2=0\/i%2=1 by lia)with h|h
  .exact#[[sI i,sV L],qx,qx,a,by simp[y,O,h],z]
  .exact#[[sI i,sV L],qx,qx,b,by simp[K,O,h],M])
 let g3:=jG (st:=setV 0) (c:=bi) (e:=d2 ixD (am 1) (aj S (aV (d2 bP (aj A (aB 2 (aB 0 nA))) (am 0)) (aV (cI 10093) (aV (cI 2) nA))))) (ρ:=[(),sV L,sV (.lst (ns.map .int))]) D.str okQ ((ah n).map .int) (by
  intro d j;let#[i,E,rfl]:=Yg.mp j;let#[i0,i1]:=ap.mp E;let#[x,T]:=J i i0;let#[r,o,r0,r1]:=H (x+i);generalize ns.map D.int=N at *;rcases(show r=0\/r=1 by lia)with h|h
  .exact#[[sI i,sV L,sV (.lst N)],qx,qx,a,by subst h;simp[y,T,o],z]
  .exact#[[sI i,sV L,sV (.lst N)],qx,qx,b,by subst h;simp[K,T,o],M])
 let#[R,e1,l1,o1]:=g1;let#[Q,e2,l2,o2]:=g2;let#[P,e3,l3,o3]:=g3;clear J H;generalize (d2 ixD (am 1) (aj S (aV (d2 bP (aj A (aB 2 (aB 0 nA))) (am 0)) (aV (cI 10093) (aV (cI 2) nA)))))=E3 at e3 ⊢;generalize (d2 ixD (am 1) (d2 eZ (am 0) (cI 2)))=E2 at e2 ⊢;generalize (d2 ixD (am 1) (cI 0))=E1 at e1 ⊢;have o:∀X:DF,X[1]?=!sI n->fP (am 1) X=!(ah n).map .int:=λX hX=>iH (by delta am;rw[hX]) #[by lia,by lia]
 generalize hU:(ah n).map D.int=U,ns.map D.int=N at *;let l:=o [sV (.lst N),sI n,sV L,sI p] qx;have j:∀q,OD.d (.lst q)=.lst q:=λt=>rfl
 by_cases Z:p<2
 .exact#[R,?_,by rw[l1,len];lia,o1];generalize R.map D.str=K1 at *;simp[f,m,w,I,j,g,u,Z,bb,l,B,e1]
 .by_cases Y:p=2
  .exact#[Q,?_,by rw[l2,len];lia,o2];subst Y;generalize Q.map D.str=K1 at *;simp[f,m,w,I,j,g,u,bb,l,B,e2]
  .exact#[P,?_,by rw[l3,len];lia,o3];generalize P.map D.str=K1 at *;simp[f,m,w,I,j,g,u,Z,Y,bb,l,B,e3]
def prB(n:Nat):D->Bool
 |.tup [.int a,.int b]=>decide (0<=a)&&decide (a<(n:Int))&&decide (0<=b)&&decide (b<(n:Int))&&(not<|decide (a=b))
 |_=>false
def M1(n:Nat):Option DV->Bool
 |some (.own (.lst ds) ())=>decide (ds.length<=12)&&ds.all (prB n)
 |_=>false
theorem Km:∀p n:Fin 7,M1 ((n:Nat)+1) (cF 0 [.v (.int ((p:Nat):Int)),.v (.int (((n:Nat)+1:Nat):Int))])=true:=by decide+kernel
open A in
theorem Ik{n:Nat}:∀ds:List D,ds.all (prB n)->∃ps:List (Int×Int),ds=ps.map dP/\∀q∈ps,okP n q
 |[],_=>#[[],qx,λ_ h=>by cases h]
 |d::ds,h=>by
  rw[List.all_cons,Yn]at h;let#[ps,rfl,e]:=Ik ds h.2;let c:=h.1;delta prB at c;split at c
  .rename_i a b;simp only[Yn,YS,Uv,ZU]at c;exact#[(a,b)::ps,qx,λq hq=>?_];rcases Yt.mp hq with rfl|hq
   .exact#[c.1.1.1.1,c.1.1.1.2,c.1.1.2,c.1.2,c.2]
   .exact e q hq
  .cases c
open A in
theorem DW(C:Addr)(p n:Int)(a:0<=p/\p<7)(c:1<=n/\n<=7):∃ps:List (Int×Int),cF C [.v (.int p),.v (.int n)]=oW (.lst (ps.map dP)) ()/\ps.length<=12/\∀q∈ps,okP n q:=by
 let#[p,rfl]:=Vu a.1;let#[n,rfl]:=Vu (show 0<=n by lia);let k:=Km #[p,by lia] #[n-1,by lia];simp only at k;rw[show n-1+1=n by lia]at k;rw[show cF C=cF 0 from rfl];generalize cF 0 [.v (.int (p:Int)),.v (.int (n:Int))]=X at k;delta M1 at k;split at k
 .rename_i b;rw[Yn]at k;let#[ps,rfl,h]:=Ik b k.2;exact#[ps,qx,by have:=Yz k.1;rwa [Yc]at this,h]
 .cases k
theorem xO(A S:Dm)(N:List D)(n f:Int)(j:Nat)(x r:Int)(left order:Qj)(q:j<=7)(hx:A [.v (.lst N),.v (.int (j:Int))]=sI x)(h:S [.v (.int (x+(j:Int)*(j:Int))),.v (.int f),.v (.int (left.length:Int))]=sI r)(b:0<=r)(a:r<(left.length:Int))(e:left.length<=7)(o:order.length<=7):∃(m:Nat) (p:m<left.length),iM 4 3 (aj S (aV (d2 bP (aj A (aB 0 (aB 5 nA))) (d2 nD (am 5) (am 5))) (aB 2 (aV (d1 bN (aw 3)) nA)))) [sV (.lst N),sI n,sI f,oW (.lst (left.map .int)) (),oW (.lst (order.map .int)) (),sI j]
   = !.nx [sV (.lst N),sI n,sI f,oW (.lst ((left.eraseIdx m).map .int)) (),oW (.lst ((order++[left[m]]).map .int)) (),sI j]:=by
 let u:=pA (j:Int) (j:Int) (.inl (by lia));have c:aj S (aV (d2 bP (aj A (aB 0 (aB 5 nA))) (d2 nD (am 5) (am 5))) (aB 2 (aV (d1 bN (aw 3)) nA))) [sV (.lst N),sI n,sI f,oW (.lst (left.map .int)) (),oW (.lst (order.map .int)) (),sI j]=!.int r:=by have l:(left.map D.int).length=left.length:=Yc ..;generalize left.map D.int=U at *;generalize order.map D.int=V;generalize (j:Int)=g at hx h u ⊢;simp -implicitDefEqProofs [hx,u,l,h]
 exact AM (i:=4) (j:=3) (left:=left) (order:=order) (by decide) qx qx c b a (by lia) (by lia)
theorem Ar(C:Addr)(ns:Qj)(n f:Int)(N:1<=n/\n<=7)(L:0<f):∃out:Qj,dS C [.v (.lst (ns.map .int)),.v (.int n),.v (.int f)]=oW (.lst (out.map .int)) ()/\out.Perm (ah n):=by
 let u:=fG C ns;let s:=λc (l:Int) b=>eM C c f l L b
 delta dS nq;generalize aZ C=A at u ⊢;generalize aU C=S at s ⊢;have O:((ah n).length:Int)=n:=by rw[aE];lia
 let#[z,e,left,o,i,rfl,a,b]:=h_ (st:=setV 5) (body:=iM 4 3 (aj S (aV (d2 bP (aj A (aB 0 (aB 5 nA))) (d2 nD (am 5) (am 5))) (aB 2 (aV (d1 bN (aw 3)) nA))))) (λj w=>∃left o i,w=[sV (.lst (ns.map .int)),sI n,sI f,oW (.lst (left.map .int)) (),oW (.lst (o.map .int)) (),i]/\(o++left).Perm (ah n)/\o.length=j) ((ah n).map .int) 0
  [sV (.lst (ns.map .int)),sI n,sI f,oW (.lst ((ah n).map .int)) (),oW (.lst []) (),()] #[ah n,[],_,qx,.refl _,qx] (by
   rintro j d _ q ⟨left,o,i,rfl,a,b⟩;rw[ZX]at b ⊢;have K:j<n.toNat:=by have:=(Yo.mp q).1;rwa [Yc,aE]at this
   rw[FQ q];let h:=a.length_eq;rw[Yr,aE]at h;let#[x,I]:=u (j:Int) (Uk j);let#[r,p,H,E]:=s (x+(j:Int)*(j:Int)) (left.length:Int) (by lia);let#[m,J,M]:=xO A S (ns.map .int) n f j x r left o (by lia) I p H E (by lia) (by lia);exact#[_,qx,_,M,left.eraseIdx m,o++[left[m]],_,qx,?_,by rw[Yr,YN,b]];exact List.Perm.trans ?_ a;rw[Zv];exact List.Perm.append_left _ (i5 _ m J))
 rw[ZX,Yc,aE]at b;let h:=a.length_eq;rw[Yr,aE]at h;have g:left=[]:=Zl.mp (by lia);subst g;rw[YZ]at a;exact#[o,?_,a];rw[yD];have p:lF (getV 1) (aK 6 3 [.v (.lst (ns.map .int)),.v (.int n),.v (.int f)])=!(ah n).map .int:=by show(if n<16777216/\-(2^62)<=n then !d8 0 n.toNat else ())=_;rw[Yk (by lia),lX]
 have B:ck 3 (asL (lF (getV 1))) (aK 6 3 [.v (.lst (ns.map .int)),.v (.int n),.v (.int f)])=!.nx [sV (.lst (ns.map .int)),sI n,sI f,oW (.lst ((ah n).map .int)) (),(),()]:=by rw[Fm,cG,p];rfl
 have y:ck 4 (asL aP) [sV (.lst (ns.map .int)),sI n,sI f,oW (.lst ((ah n).map .int)) (),(),()]=!.nx [sV (.lst (ns.map .int)),sI n,sI f,oW (.lst ((ah n).map .int)) (),oW (.lst []) (),()]:=rfl;rw[ao B,ao y,ao (fL (ds:=(ah n).map .int) (iH qx #[by lia,by lia]) e)];rfl
noncomputable abbrev tiF(N:List D)(n:Int)(L:D)(p:Int)(o:Bool)(ts:List D)(m:Int)(x7 x8 x9:Option DV):DF:=[sV (.lst N),sI n,sV L,sI p,sV (.bl o),oW (.lst ts) (),sI m,x7,x8,x9]
abbrev tiB(S:Dm):=(dIf (eV (asB (d2 gtI (am 1) (cI 1))) (asB (d2 ltd (d1 bN (aw 5)) (cI 12)))) (aq (aW 8 (aj S (aB 7 (aV (cI 10007) (aB 1 nA)))))
  (aq (aW 9 (d2 eZ (d2 bP (d2 bP (am 8) (cI 1)) (aj S (aB 7 (aV (cI 10009) (aV (d2 AB (am 1) (cI 1)) nA))))) (am 1)))
  (iT 5 (asT (ai (getV 8) (ai (getV 9) (ai (d2 ixD (am 2) (aj S (aB 7 (aV (cI 10037) (aV (cI 2) nA))))) (ai (d2 eqD (aj S (aB 7 (aV (cI 10039) (aV (cI 3) nA)))) (cI 0)) aP)))))))) dNx)
theorem Ig{S:Dm}{N:List D}{n p m c a b u w k:Int}{L:D}{o:Bool}(h1:1<n)(s:ts.length<12)(A:S [.v (.int c),.v (.int 10007),.v (.int n)]=sI a)(y:S [.v (.int c),.v (.int 10009),.v (.int (n-1))]=sI b)(j:S [.v (.int c),.v (.int 10037),.v (.int 2)]=sI u)(hw:S [.v (.int c),.v (.int 10039),.v (.int 3)]=sI w)(x:ixD L (.int u)=!.int k):∃f z,tiB S (tiF N n L p o (ts.map dT4) m (sI c) x8 x9)=!.nx (tiF N n L p o ((ts++[(a,(a+1+b)%n,k,decide (w=0))]).map dT4) m (sI c) f z):=by
 let g:=fj (a+1+b) n (by lia);have l:(ts.map dT4).length=ts.length:=Yc ..;have i:ts.length<16777216:=by lia
 have h:(ts.length:Int)<12:=by lia
 exact#[sI a,sI ((a+1+b)%n),?_];rw[Zt];have e:[(a,(a+1+b)%n,k,decide (w=0))].map dT4=[.tup [.int a,.int ((a+1+b)%n),.int k,.bl (decide (w=0))]]:=rfl;rw[e];generalize ts.map dT4=T,(a+1+b)%n=q at *;simp -implicitDefEqProofs [tiB,tiF,h1,l,i,s,h,A,y,j,hw,x,g]
theorem HL{S:Dm}{N:List D}{n p m:Int}{L:D}{o:Bool}(h:¬(1<n/\ts.length<12)):tiB S (tiF N n L p o (ts.map dT4) m x7 x8 x9)=!.nx (tiF N n L p o (ts.map dT4) m x7 x8 x9):=by
 have l:(ts.map dT4).length=ts.length:=Yc ..;have b:1<n->¬((ts.length:Int)<12):=λz q=>h #[z,by lia]
 generalize ts.map dT4=T at *;by_cases a:1<n
 .have:=b a;simp -implicitDefEqProofs [tiB,tiF,a,l,this]
 .simp -implicitDefEqProofs [tiB,tiF,a]
def toT(k:Int)(o:Bool)(q:Int×Int):T4:=(q.1,q.2,k,o)
def NT:kB (.int 10) (.int 28)=!.int 10000000000000000000000000000:=rfl
theorem GD{A S P:Dm}{N:List D}{n x0 x1 x2 x p w m:Int}{ps:List (Int×Int)}(h0:A [.v (.lst N),.v (.int 0)]=sI x0)(h1:A [.v (.lst N),.v (.int 1)]=sI x1)(h2:A [.v (.lst N),.v (.int 2)]=sI x2)(y:A [.v (.lst N),.v (.int 3)]=sI x)(g:S [.v (.int x0),.v (.int 10099),.v (.int 7)]=sI p)(hw:S [.v (.int x1),.v (.int 10103),.v (.int 2)]=sI w)(j:S [.v (.int x1),.v (.int 10111),.v (.int 3)]=sI m)(u:P [.v (.int p),.v (.int n)]=oW (.lst (ps.map dP)) ())(pl:ps.length<=12):∀G,
  (aq (aW 2 (asO (asL (ai (d2 eZ (aj A (aB 0 (aV (cI 2) nA))) (d2 kB (cI 10) (cI 28))) (ai (d2 eZ (aj A (aB 0 (aV (cI 3) nA))) (d2 kB (cI 10) (cI 28))) aP)))))
  (aq (aW 3 (aj S (aV (aj A (aB 0 (aV (cI 0) nA))) (aV (cI 10099) (aV (cI 7) nA)))))
  (aq (aW 4 (d2 eqD (aj S (aV (aj A (aB 0 (aV (cI 1) nA))) (aV (cI 10103) (aV (cI 2) nA)))) (cI 1)))
  (aq (ck 5 (asL (aR 2 [2,4] (dw (aj P (aB 3 (aB 1 nA)))) (jU [0,1]) bi (asT (ai (getV 0) (ai (getV 1) (ai (d2 ixD (am 2) (cI 0)) (ai (getV 3) aP))))))))
  (aq (aW 6 (aj S (aV (aj A (aB 0 (aV (cI 1) nA))) (aV (cI 10111) (aV (cI 3) nA)))))
  G))))) [sV (.lst N),sI n,(),(),(),(),(),(),(),()]
   = G (tiF N n (.lst [.int (x2%10000000000000000000000000000),.int (x%10000000000000000000000000000)]) p (decide (w=1)) ((ps.map (toT (x2%10000000000000000000000000000) (decide (w=1)))).map dT4) m () () ()):=by
 intro G;let f:=fj x2 10000000000000000000000000000 (by decide);let e:=fj x 10000000000000000000000000000 (by decide);generalize x2%10000000000000000000000000000=t0,x%10000000000000000000000000000=c at *;generalize a:D.lst [.int t0,.int c]=L;have b:ixD L (.int 0)=!.int t0:=by rw[<-a];rfl
 generalize i:decide (w=1)=o;have z:bO (jU [0,1]) bi (asT (ai (getV 0) (ai (getV 1) (ai (d2 ixD (am 2) (cI 0)) (ai (getV 3) aP))))) [(),(),sV L,sV (.bl o)] (ps.map dP)=!(ps.map (toT t0 o)).map dT4:=by
  rw[YH];exact bF dP _ ps λq t=>#[[sI (q.1),sI (q.2),sV L,sV (.bl o)],qx,qx,?_]
  show _=!D.tup [.int q.1,.int q.2,.int t0,.bl o];simp[b]
 have l:(ps.map dP).length<=16777216:=by rw[Yc];lia
 generalize (asT (ai (getV 0) (ai (getV 1) (ai (d2 ixD (am 2) (cI 0)) (ai (getV 3) aP)))))=E,(ps.map (toT t0 o)).map dT4=R,ps.map dP=Q at *;have h:∀q,OD.d (.lst q)=.lst q:=λt=>rfl
 have s:∀G,(aq (aW 2 (asO (asL (ai (d2 eZ (aj A (aB 0 (aV (cI 2) nA))) (d2 kB (cI 10) (cI 28))) (ai (d2 eZ (aj A (aB 0 (aV (cI 3) nA))) (d2 kB (cI 10) (cI 28))) aP))))) G) [sV (.lst N),sI n,(),(),(),(),(),(),(),()]=G [sV (.lst N),sI n,sV L,(),(),(),(),(),(),()]:=by intro G;simp -implicitDefEqProofs [h2,y,f,e,NT,h,a]
 rw[s];simp -implicitDefEqProofs [h0,h1,g,hw,j,u,h,i,bb,l,z,tiF]
theorem H0 C(ns:Qj)n(hn:1<=n/\n<=7)(hl:ns.length<=63):∃ts:List T4,iL C [.v (.lst (ns.map .int)),.v (.int n)]=oW (.lst (ts.map dT4)) ()/\okS n ts:=by
 let#[x0,h0]:=fG C ns 0 (by decide);let#[P,h1]:=fG C ns 1 (by decide);let#[x2,Z]:=fG C ns 2 (by decide);let#[l,Y]:=fG C ns 3 (by decide);let#[p,H,p0,p1]:=eM C x0 10099 7 (by decide) (by decide);let#[w,E,w0,w1]:=eM C P 10103 2 (by decide) (by decide);let#[m,I,U,m1]:=eM C P 10111 3 (by decide) (by decide);let#[Q,K,B,R]:=DW C p n #[p0,p1] hn;let i:=eM C;delta iL pk;generalize aU C=S at H E I i ⊢;rw[iV,show aK 10 2 [.v _,.v _]=[sV _,sI n,(),(),(),(),(),(),(),()]from rfl,GD h0 h1 Z Y H E I K B];have s:0<=x2%10000000000000000000000000000/\x2%10000000000000000000000000000<10000000000000000000000000000:=#[Vs _<|by decide,XM _<|by decide]
 have tb:0<=l%10000000000000000000000000000/\l%10000000000000000000000000000<10000000000000000000000000000:=#[Vs _<|by decide,XM _<|by decide]
 generalize x2%10000000000000000000000000000=t0,l%10000000000000000000000000000=h at *;generalize decide (w=1)=o;have X:okS n (Q.map<|toT t0 o):=#[by rwa[Yc],λt ht=>by
  let#[q,hq,rfl]:=Yg.mp ht;let#[O,M,b0,b1,ab]:=R q hq;exact#[O,M,b0,b1,ab,s.1,Int.lt_trans s.2<|by decide]]
 generalize Q.map _=ts at X;clear K R B H E I;have s6:∃f:Int,0<=f/\f<=12/\(dIf (eV (asB<|d2 gtI (am 3)<|cI 4)<|asB<|d2 eqD (d1 bN<|aw 5)<|cI 0) (aW 6<|cI 12) dNx) (tiF (ns.map .int) n (.lst [.int t0,.int h]) p o (ts.map dT4) m () () ())=!(.nx<|tiF (ns.map .int) n (.lst [.int t0,.int h]) p o (ts.map dT4) f () () ()):=by
  generalize ts.map dT4=T,ns.map D.int=N,D.lst [.int t0,.int h]=L;by_cases q:4<p
  .by_cases y:T=[]
   .exact#[12,by decide,by decide,by subst y;simp -implicitDefEqProofs [tiF,q]]
   .exact#[m,U,by lia,?_];have q3:¬(T.length=0):=by have:=List.length_pos_iff.mpr y;lia
    simp -implicitDefEqProofs [tiF,q,y,q3]
  .exact#[m,U,by lia,by simp -implicitDefEqProofs [tiF,q]]
 let#[f,m0',m1',e6]:=s6;rw[ao e6];have J:dw (asO<|asL<|slL (am 0) (bI<|cI 4)<|bI<|d2 bP (cI 4)<|am 6) (tiF (ns.map .int) n (.lst [.int t0,.int h]) p o (ts.map dT4) f () () ())=!(jX ns (!4)<|some<|4+f).map .int:=by rw[<-wp];generalize ns.map D.int=N,ts.map dT4=T;rfl
 let#[z,e,g,x,x8,x9,rfl,j]:=ph (st:=setV 7) (body:=tiB S) (λρ=>∃g x x8 x9,ρ=tiF (ns.map .int) n (.lst [.int t0,.int h]) p o (g.map dT4) f x x8 x9/\okS n g) (ds:=(jX ns (!4)<|some<|4+f).map .int) (ρ:=tiF (ns.map .int) n (.lst [.int t0,.int h]) p o (ts.map dT4) f () () ()) #[ts,_,_,_,qx,X] (by
  rintro d hd _ ⟨g,x,x8,x9,rfl,j⟩;let#[c,hc,rfl]:=Yg.mp hd;by_cases q:1<n/\g.length<12
  .let#[a,ea,O,M]:=i c 10007 n (by decide) (by lia);let#[b,eb,b0,b1]:=i c 10009 (n-1) (by decide) (by lia);let#[u,eu,u0,u1]:=i c 10037 2 (by decide) (by decide);let#[v,ev,v0,v1]:=i c 10039 3 (by decide) (by decide);have hk:∃k,ixD (.lst [.int t0,.int h]) (.int u)=!.int k/\0<=k/\k<10000000000000000000000000000:=by
    rcases(show u=0\/u=1 by lia)with rfl|rfl
    .exact#[t0,qx,s]
    .exact#[h,qx,tb]
   let#[k,ek,k0,k1]:=hk;let#[z8,z9,e]:=Ig (N:=ns.map .int) (p:=p) (m:=f) (o:=o) (x8:=x8) (x9:=x9) q.1 q.2 ea eb eu ev ek;exact#[_,qx,_,e,g++[(a,(a+1+b)%n,k,decide<|v=0)],_,_,_,qx,by rw[Yr,YN];lia,λt ht=>?_];rcases Zc.mp ht with ht|ht
   .exact j.2 t ht
   .rw[Yu.mp ht];let c0:=Vs (a+1+b) (show n≠0 by lia);let c1:=XM (a+1+b) (show 0<n by lia);exact#[O,M,c0,c1,?_,k0,Int.lt_trans k1<|by decide];show a≠(a+1+b)%n;by_cases z:a+1+b<n
    .rw[Int.emod_eq_of_lt (by lia) z];lia
    .have:(a+1+b)%n=a+1+b-n:=by rw[<-Int.sub_emod_right (a+1+b) n,Int.emod_eq_of_lt (by lia)<|by lia]
     lia
  .exact#[_,qx,_,HL q,g,_,_,_,qx,j])
 exact#[g,?_,j];rw[ao<|fL J e];rfl
section
variable{n:Int}
structure Fw (ks:List Str) (ts:List T4) (n:Int) (T:List Qj):Prop where
 au:∀g∈T,Au ks ts n g
 mv:∀g∈T,g≠ah n
 lt:(T.length:Int)<n
 a:∀g,Au ks ts n g->Gen n T g
theorem Gg(c:1<=n/\n<=7)(j:okK n ks)(i:okS n ts):Fw ks ts n (xx ks ts n).trn:=by let#[_,g,_,_,_,t,a]:=(zt #[c,j,i.2] 8 [] _ .nil #[[],#[(λz h=>nomatch h),List.Pairwise.nil],by simp;lia]).1 S0 #[qx,qx];exact#[g.au,λh l e=>?_,KB c.1 t.w,λh A=>a h A nofun];let#[x,f,b]:=t.mv h l;rw[e]at b;exact b<|eG f
def Jx(a:1<=n/\n<=7)(b:okK n ks){T}(c:JOk kvs ts):a7 C [.v (.ins C (wFs ks T (.dT kvs)))]=sV (.lst ((xx ks ts n).trn.map dL)):=by
 let h:=Hd a b c λp h=>CM C ks T kvs ts p n a b.1 h c
 delta a7 i_;generalize f_ C=S,D.ins C _=W at *;show bv (Option.map _<|Option.bind ((S [.v W]).bind dvD) _)=_;rw[h];rfl
end
def kT(t:Qj):List Key:=t.map .inl
def dU(t:Qj):D:=.tup<|t.map .int
def EJ{a b}(h:kT a=kT b):a=b:=(List.map_inj_right λz z e=>VW e).mp h
def xc t:jf (dU t)=!kT t:=by
 show iz _=_;induction t with
 |nil=>rfl
 |cons x t ih=>show(!_).bind _=_;rw[Ya,ih];rfl
def knT(F:List Qj):List (List Key×D):=F.map λx=>(kT x,.bl true)
def Hh F x:(c_ (knT F) (kT x)).isSome=decide (x∈F):=by
 induction F with
 |nil=>rfl
 |cons y F ih=>
  delta knT at ih ⊢;rw[YI,bQ];by_cases h:kT y=kT x
  .rw[Yk h];obtain rfl:=EJ h;simp
  .rw[Ym h,ih];have:¬x=y:=λz=>h<|by rw[z]
   simp[this]
def FE{x}(h:x∉F):fm (knT F) (kT x) (.bl true)=knT (F++[x]):=by
 delta fm;rw[Ym,knT,knT,Zt]
 .rfl
 .intro z;let#[p,b,e]:=List.any_eq_true.mp z;let#[y,a,rfl]:=Yg.mp b;exact h<|EJ (Yz e) ▸ a
def N_ b F x:Ai b (dU x) (.dT (knT F))=!.bl (xor b (decide (x∈F))):=by show((jf<|dU x).map λk=>D.bl _)=_;rw[xc,ZF,Hh]
section
variable{n:Int}
def nx(a:List Qj)(t:Qj):=a.map λr=>t.map<|ox r
def wds(n:Int):Nat->List Qj
 |0=>[[]]
 |k+1=>(ah n).flatMap λi=>(wds n k).map (i::·)
theorem jN:∀{k}{r},r∈wds n k↔r.length=k/\∀x∈r,x∈ah n
 |0,r=>by
  show r∈[[]]↔_;rw[Yu,Zl];exact#[λh=>#[h,by rw[h];nofun],λh=>h.1]
 |k+1,r=>by
  show r∈(ah n).flatMap _↔_;rw[ZY];constructor
  .rintro⟨i,g,h⟩;let#[w,f,rfl]:=Yg.mp h;let#[a,b]:=jN.mp f;exact#[by rw[Yq,a],λx c=>(Yt.mp c).elim (λe=>e ▸ g)<|b x]
  .rintro⟨a,b⟩;cases r with
   |nil=>cases a
   |cons i w=>exact#[i,b i Ye,Yg.mpr #[w,jN.mpr #[VF a,λx c=>b x<|Yb _ c],qx]]
theorem Dc(h:n<=7):∀k:Nat,(wds n k).length<=7^k
 |0=>Yp _
 |k+1=>by
  let ih:=Dc h k;have:∀L:Qj,(L.flatMap λi=>(wds n k).map (i::·)).length=L.length*(wds n k).length:=λL=>by
   induction L with
   |nil=>simp
   |cons x L ih=>rw[List.flatMap_cons,Yr,ih,Yc,Yq,Nat.add_mul,Nat.one_mul,Nat.add_comm]
  show((ah n).flatMap _).length<=7^(k+1);rw[this,aE,Nat.pow_succ,Nat.mul_comm];exact Um ih<|by lia
theorem Hu(h:n<=7):(wds n n.toNat).length<=823543:=YF (Dc h _)<|YF (Nat.pow_le_pow_right (by decide)<|show n.toNat<=7 by lia)<|by decide
def DZ(f:1<=n)(j:∀t∈T,t.Perm (ah n)){k}:∀a∈wds n k,∀b∈nx T a,b∈wds n k:=λa i b g=>by
 let#[t,e,rfl]:=Yg.mp g;let#[m,l]:=jN.mp i;exact jN.mpr #[by rw[Yc,m],λx c=>?_];let#[y,h,rfl]:=Yg.mp c;exact ap.mpr<|bG f (j t e)<|ap.mp<|l y h
theorem FM(b:1<=n){a t}(e:∀x∈a,x∈ah n)(f:a.length<=7)(pt:t.Perm (ah n)):lU C [.v (dU a),.v (dL t)]=oW (.lst ((a.map (ox t)).map .int)) ():=by
 have c:bO (setV 0) bi (d2 ixD (am 1)<|am 0) [(),sV<|dL t] (a.map .int)=!(a.map<|ox t).map .int:=by rw[YH];exact bF D.int _ a λx h=>#[_,qx,qx,uN b pt<|ap.mp<|e x h]
 delta lU DN;show bv (Option.map _<|Option.map _<|if(a.map D.int).length<=16777216 then bO _ _ _ [(),sV<|dL t] (a.map .int)else ())=_;rw[Yk<|by rw[Yc];lia,c];rfl
theorem KL(b:1<=n/\n<=7)(f:∀t∈T,t.Perm (ah n))(tl:T.length<=7){a}(e:a∈wds n n.toNat):gl1 C [sV (dU a),sV (.lst (T.map dL))]=!.lst ((nx T a).map dU):=by
 let#[i,g]:=jN.mp e;have c:∀t∈T,lU C [.v<|dU a,.v<|dL t]=oW _ ():=λt h=>FM b.1 g (by lia)<|f t h
 delta gl1;generalize lU C=B at *;show((if(T.map dL).length<=16777216 then bO _ bi _ [(),sV<|dU a] (T.map dL)else ()).map OD.lst).map OD.d=_;rw[Yk<|by rw[Yc];lia,bF dL _ T λt h=>#[_,qx,qx,by
  show(Option.bind (B [.v<|dU a,.v<|dL t]) _).bind ki=_;rw[c t h];rfl]]
 show some (D.lst _)=!(.lst<|(T.map λt=>a.map<|ox t).map dU);rw[YH];rfl
theorem hbT{m}F d x x6(g:F.length<7000000):(dIf (asB (d2 (Ai true) (getV 7) (am 4))) (aq (o9 4 (getV 7) (λz=>!.bl true)) (iT 3 (getV 7))) dNx) (rF dU (λF=>.dT (knT F)) S a0 v0 dc m F d x6 (sV (dU x)))=!.nx (rF dU (λF=>.dT (knT F)) S a0 v0 dc m (ad F x) d x6 (sV (dU x))):=by
 let a:=N_ true F x;let e:=xc x;have b:(knT F).length<16777216:=by delta knT;rw[Yc];lia
 have l:(F.map dU).length<16777216:=by rw[Yc];lia
 by_cases h:x∈F
 .rw[show ad F x=F from Yk h];rw[YR h]at a;delta rF;dsimp only;simp[a]
 .rw[show ad F x=F++[x]from Ym h];rw[YD h]at a;let c:=FE h;have f:(F++[x]).map dU=F.map dU++[dU x]:=by simp
  delta rF;dsimp only;rw[f,<-c];generalize knT F=K,F.map dU=U,dU x=u at *;simp[a,o9,e,b,l]
def Mo(m:D)(st:List Qj->Bool):=(m=.non/\st=λz=>false)\/(m=.int 720/\st=λF=>decide<|720<F.length)
theorem Gn(a:1<=n/\n<=7):qB C [.v (.int n)]=oW (.lst ((ah n).map .int)) ():=by
 have h:n<16777216/\-(2^62)<=n:=by lia
 have:lF (getV 0) [sI n]=!(ah n).map .int:=by delta lF;rw[show getV 0 [sI n]=!.int n from rfl];simp only;rw[Yk h,lX]
 delta qB Fg;show bv (Option.map _<|Option.map _<|lF _ [sI n])=_;rw[this];rfl
theorem Ac(l:1<=n/\n<=7)(o:∀t∈T,t.Perm (ah n))(tl:T.length<=7){f}{st}(w:Mo f st):∃R:List Qj,cT C [.v (.int n),.v (.lst (T.map dL)),.v f]=sV (.lst (R.map dU))/\R.Nodup/\(∀x∈R,Gen n T x)/\(st R\/∀x,Gen n T x->x∈R):=by
 let M:=Hu l.2;let p:=jN.mpr #[aE n,λx h=>h];let cl:=t_ (st:=st) (DZ l.1 o) 900000 [ah n] 0 (by simp) (λx j=>by rwa[Yu.mp j]) (by lia) λi r z=>absurd z<|Vq i
 let E:=lP (st:=st) (P:=Gen n T) (λa g b A=>by let#[t,q,rfl]:=Yg.mp A;exact g.on q) 900000 [ah n] 0 λx j=>by rw[Yu.mp j];exact .one
 have u:eL 8 (gW<|gl1 C) (.lst<|T.map dL) (.v<|.lst [dU<|ah n]) f=!(gM (nx T) st 900000 [ah n] 0).map dU:=rG λa0 v0=>by
  let#[N,I,H,e]:=xf (S:=.lst [dU<|ah n]) (a0:=a0) (v0:=v0) (m:=f) hbT (gl:=gl1 C) (st:=st) (λF d K J=>by
    rcases w with⟨rfl,rfl⟩|⟨rfl,rfl⟩
    .rfl
    .show(match leI (.int _) (.int 720)with|some (D.bl b)=>!b|_=>())=_;rw[Yc];show some _=some _
     congr 1
     rw[<-decide_not];exact VQ.mpr<|by lia) (DZ l.1 o) (λa r=>by delta nx;rw[Yc];lia) (λa B=>KL l o tl B) 900000 [ah n] 0 () () (by simp) (λx j=>by rwa[Yu.mp j]) (YQ _)<|by lia
  delta gW;rw[ao qx];rw[ao (by
   let y:=xc<|ah n;show Option.map _ ((jf _).map _)=_;rw[y];rfl)]
  rw[ao (ρ':=rF dU (λF=>.dT<|knT F) _ a0 v0 _ f [ah n] 0 () ()) qx];rw[ao e];rfl
 exact#[_,?_,cl.1,E,cl.2.2.imp id λc x g=>?_]
 .let s:=Gn (C:=C) l;generalize gM (nx T) st 900000 [ah n] 0=R at *;delta cT g_come_of;generalize qB C=Y,gW _=G at *;rw[yD,show aK 4 3 [.v _,.v _,.v f]=[sI n,sV _,sV f,()]from rfl,
   ao<|by
    show((Option.bind (Y [.v _]) _).bind ki).map _=_;rw[s];rfl]
  show bv (Option.map _<|Option.map _<|Option.map _<|eL 8 G _ (.v<|.lst [dU<|ah n]) f)=_;rw[u];rfl
 .induction g with
  |one=>exact cl.2.1 _<|YO _
  |on _ h ih=>exact c _ ih _<|Yg.mpr #[_,h,qx]
end
section
variable{n:Int}
structure Al (ks:List Str) (ts:List T4) (n:Int) (R:List Qj):Prop where
 nd:R.Nodup
 mem:∀g,g∈R↔Au ks ts n g
def Al.len(a:Al ks ts n R)(b:R'.Nodup)(h:∀g∈R',Au ks ts n g):R'.length<=R.length:=bE _ _ b λg c=>(a.mem g).mpr<|h g c
def Al.same(a:Al ks ts n R)(b:Al ks ts n R'):R.length=R'.length:=ZC (b.len a.nd λg h=>(a.mem g).mp h)<|a.len b.nd λg h=>(b.mem g).mp h
theorem Jo:∀a b:Qj,ba (a.map .int) (b.map .int)
 |[],_=>rfl
 |_::_,[]=>rfl
 |x::a,y::b=>by
  show(aA _ _&&ba _ _);rw[Jo];rfl
theorem F_(c:1<=n)(h:∀x∈R,x.Perm (ah n)):mZ (R.map dU):=by
 exact#[#[λd a=>?_,λd a e f=>?_],λd a=>?_,λd a=>?_]
 .let#[x,_,rfl]:=Yg.mp a;exact Yl.mpr λd a=>by let#[y,_,rfl]:=Yg.mp a;rfl
 .let#[x,_,rfl]:=Yg.mp a;let#[y,_,rfl]:=Yg.mp f;exact Jo x y
 all_goals
  let#[x,b,rfl]:=Yg.mp a;have:=(aN c<|h x b).1;cases x with
  |nil=>simp at this;lia
  |cons y r=>rfl
structure Wb (C:Addr) (ks:List Str) (ts:List T4) (n:Int) (W:D) (T:List Qj):Prop where
 few:a7 C [.v W]=sV (.lst (T.map dL))
 size:∀ρ:DF,ρ[0]?=!sV W->a8 C "size" (be C) (bp (bz 0) g0) ρ=!.int n
 fw:Fw ks ts n T
def Mv(b:1<=n/\n<=7)(a:okK n ks)(hs:okS n ts)(e:JOk kvs ts):Wb C ks ts n (.ins C (wFs ks (.lst (srt ts)) (.dT kvs))) (xx ks ts n).trn:=
 #[Jx b a e,λc h=>sP C ks _ _ n a.1 c h,Gg b a hs]
def Wb.gen(w:Wb C ks ts n W T)(b:1<=n/\n<=7)g:Gen n T g↔Au ks ts n g:=#[λh=>h.au b.1 w.fw.au,w.fw.a g]
def Wb.perm(w:Wb C ks ts n W T):∀t∈T,t.Perm (ah n):=λt h=>(w.fw.au t h).p
theorem Wb.le(w:Wb C ks ts n W T)(h:1<=n/\n<=7):T.length<=7:=by have:=w.fw.lt;lia
def n4(a:1<=n/\n<=7)(w:Wb C ks ts n W T):∃R,Al ks ts n R/\bB C [.v W]=sI (R.length):=by let#[R,e,b,j,i]:=Ac (C:=C) a w.perm (w.le a)<|.inl #[qx,qx];exact#[R,#[b,λg=>#[λh=>(w.gen a g).mp<|j g h,λh=>i.resolve_left Yj g<|(w.gen a g).mpr h]],?_];let c:=w.size [sV W] qx;let f:=w.few;delta bB hV;generalize cT C=G,a7 C=F,a8 C "size" (be C) _=Z at *;rw[iU];show bv (Option.map _<|Option.bind (Option.bind (Option.map _<|Option.bind (Z [sV W]) λx=>Option.map _<|Option.bind (Option.bind (F [.v W]) _) _) _) bN)=_;rw[c,Ya,f,Ya];show bv (Option.map _<|Option.bind (Option.bind (G [.v _,.v _,.v .non]) _) bN)=_;rw[e,Ya];show some _=_;rw[Yc]
theorem zW(b:1<=n/\n<=7)(w:Wb C ks ts n W T)(a:Al ks ts n R):∃R':List Qj,cT C [.v (.int n),.v (.lst (T.map dL)),.v (.int 720)]=sV (.lst (R'.map dU))/\(∀x∈R',x.Perm (ah n))/\(R.length<=720->R'.length=R.length)/\(720<R.length->720<R'.length):=by
 let#[R',e,f,j,i]:=Ac (C:=C) b w.perm (w.le b)<|.inr #[qx,qx];let c:=λg h=>(w.gen b g).mp<|j g h
 let l:=a.len f c;have m:720<R'.length\/R'.length=R.length:=by
  rcases i with h|h
  .exact .inl<|Yz h
  .exact .inr<|Al.same #[f,λg=>#[c g,λz=>h g<|(w.gen b g).mpr z]] a
 exact#[R',e,λx h=>(c x h).p,λh=>by lia,λh=>by lia]
theorem LF(g:1<=n/\n<=7)(w:Wb C ks ts n W T)(a:Al ks ts n R)(h:R.length<=720):∃ds:List D,ds.length=R.length/\Hy C [.v W]=sV (.lst ds):=by
 let#[b,e,q,c,_]:=zW g w a;let c:=c h;let i:=w.size [sV W] qx;let m:=w.few;let f:=Xn<|(a.mem _).mpr i9;have j:Eh C [.v<|.int n,.v<|.lst<|T.map dL]=oW (.lst<|List.replicate b.length .any) ():=by
  have p:KY (getV 2) [sI n,sV<|.lst<|T.map dL,sV<|.lst<|b.map dU]=!List.replicate b.length .any:=by
   exact(Yk #[λz=>?_,F_ g.1 q,?_,λd o=>?_]).trans<|by rw[Yc]
   .rw[XB.mp z]at c;rw[<-c]at f;cases f
   .rw[Yc];lia
   .let#[x,_,rfl]:=Yg.mp o;rfl
  delta Eh LM;generalize cT C=G at *;rw[iV,show aK 3 2 [.v _,.v _]=[sI n,sV _,()]from rfl,ao<|by
   show(Option.bind (G [.v _,.v _,.v _]) _).map _=_;rw[e];rfl,ao (ρ':=[sI n,sV<|.lst<|T.map dL,sV<|.lst<|b.map dU]) (by
   have l:¬(720:Int)<(b.map dU).length:=by rw[Yc];lia
   generalize b.map dU=U at *;simp[l]),d4,cG,p]
  rfl
 exact#[List.replicate b.length .any,by rw[YM,c],?_];delta Hy Mm;generalize Eh C=G,a7 C=F,a8 C "size" (be C) _=Z at *;show bv (Option.map _<|Option.bind (Option.bind (Z [sV W]) λx=>Option.map _<|Option.bind (Option.bind (F [.v W]) _) _) _)=_;rw[i,Ya,m,Ya];show bv (Option.map _<|Option.bind (G [.v _,.v _]) _)=_;rw[j];rfl
theorem xn(j:1<=n/\n<=7)(w:Wb C ks ts n W T)(a:Al ks ts n R)(h:720<R.length):eP C [.v W]=sV (.bl true):=by
 let#[c,e,s,_,b]:=zW j w a;let i:=w.size [sV W] qx;let o:=w.few;have m:f6 C [.v<|.int n,.v<|.lst<|T.map dL]=!0:=by
  delta f6;generalize cT C=G at *;have l:(720:Int)<(c.map dU).length:=by rw[Yc];lia
  generalize c.map dU=U at *;have q:(vC (xOf<|aW 2<|aj G<|aV (getV 0)<|aB 1<|aV (cI 720) nA)<|vC (xIf (asB<|d2 gtI (d1 bN<|aw 2)<|cI 720) (xEx 0) xNx) λz=>()) [sI n,sV<|.lst<|T.map dL,()]=!.ex 0:=by
   have g:aj G (aV (getV 0)<|aB 1<|aV (cI 720) nA) [sI n,sV<|.lst<|T.map dL,()]=!.lst U:=by show Option.bind (G [.v _,.v _,.v _]) _=_;rw[e];rfl
   delta vC xOf aW xIf;rw[g];simp[l,xEx]
  show(match vC _ _ [sI n,sV _,()]with|some (.ex k)=>!k|_=>())=_;rw[q]
 have p:cN C [.v W]=!0:=by delta cN;generalize f6 C=G,a7 C=F,a8 C "size" (be C) _=Z at *;show(match Option.bind (Option.bind (Z [sV W]) λx=>Option.map _<|Option.bind (Option.bind (F [.v W]) _) _) (λf=>(G f).map XR.ex)with|some (.ex k)=>!k|_=>())=_;rw[i,Ya,o,Ya];show(match(G [.v _,.v _]).map XR.ex with|some (.ex k)=>!k|_=>())=_;rw[m];rfl
 delta eP jZ;generalize cN C=G at *;rw[iU,show aK 3 1 [.v W]=[sV W,(),()]from rfl,ao qx,ao<|by
  show(match G [.v W]with|some k=>_|none=>())=_;rw[p];rfl]
 rfl
end
section
variable{n:Int}
abbrev orb(T:List Qj)(q:Int):=bfs (nbs T) 10 [q] 0
theorem Cv(c:1<=n/\n<=7)(w:Wb C ks ts n W T){q}(f:In n q):(orb T q).Nodup/\(∀x,x∈orb T q↔∃g,Au ks ts n g/\ox g q=x)/\eL 8 (d_ (gl2 C)) (.lst (T.map dL)) (.v (dL [q])) .non=!(orb T q).map .int:=by
 have s:∀a∈ah n,∀b∈nbs T a,b∈ah n:=λa o b m=>by
  let#[t,l,rfl]:=Yg.mp m;exact ap.mpr<|bG c.1 (w.perm t l)<|ap.mp o
 have u:∀x∈[q],x∈ah n:=λx j=>by rw[Yu.mp j];exact ap.mpr f
 have y:(ah n).length<=7:=by rw[aE];lia
 let E:=w.le c;let cl:=t_ (st:=λr=>false) s 10 [q] 0 (by simp) u (by lia) λi r z=>absurd z<|Vq i
 let B:=lP (st:=λr=>false) (P:=λx=>∃g,Au ks ts n g/\ox g q=x) (λa #[g,A,e] b m=>by
  let#[t,l,rfl]:=Yg.mp m;exact#[_,qp c.1 (w.fw.au t l) A,by rw[cM c.1 A.p f,e]]) 10 [q] 0 λx j=>#[ah n,i9,by rw[eG f,Yu.mp j]]
 exact#[cl.1,λx=>#[B x,λ#[g,A,e]=>?_],IK s y (λa r=>by delta nbs;rw[Yc];lia) (λa o=>yS (C:=C) c.1 w.perm (by lia)<|ap.mp o) (by simp) u];have:∀g,Gen n T g->ox g q∈orb T q:=λg G=>by
  induction G with
  |one=>rw[eG f];exact cl.2.1 q<|by simp
  |on G h ih=>
   rw[cM c.1 (G.perm c.1 w.perm) f];exact cl.2.2.resolve_left Yj _ ih _<|Yg.mpr #[_,h,qx]
 rw[<-e];exact this g<|(w.gen c g).mpr A
def HM O(a:List Qj):lT (dL O) (.lst (a.map dL))=!.bl ((not<|decide (O∈a))):=by
 have g:(a.map dL).all (okN 29):=Yl.mpr λd b=>by
  let#[x,_,rfl]:=Yg.mp b;exact Yl.mpr λd b=>by let#[y,_,rfl]:=Yg.mp b;rfl
 have f:((a.map dL).any λz=>eqd z<|dL O)=decide (O∈a):=by rw[List.any_map,Ub,VR,YS];exact#[λ#[x,c,e]=>by have e:eqd (dL x) (dL O):=e;rw[Af,YS]at e;exact e ▸ c,λh=>#[O,h,by show eqd (dL O)<|dL O;rw[Af];exact YR qx]]
 show(if(okN 30 (dL O)&&(a.map dL).all _) then !D.bl _ else ())=_;rw[g,f,wA];rfl
abbrev obF(n:Int)(T:D)(O:List Qj)(a x:Option DV):DF:=[sI n,sV T,oW (.lst<|O.map dL) (),a,x]
def M9{T}{a}{q}{F O:Qj}{x}(c:eL 8 G T (.v (dL [q])) .non=!F.map .int)(hs:bx (F.map .int))(he:aQ (F.map .int)=O.map .int)(e:a.length<16777216):(aq (aW 4 (asO<|asL<|nC<|asO<|pP 8 1 G λρ=>((asO<|asL<|ai (getV 3) aP) ρ).map .v) )<|dIf (asB<|d2 lT (aw 4)<|aw 2) (iT 2<|getV 4) dNx) (obF n T a (sI q) x)=!(.nx<|obF n T (ad a O) (sI q)<|sV<|dL O):=by
 rw[ao (ρ':=obF n T a (sI q)<|sV<|dL O)<|by
  show Option.map _ (Option.map _<|Option.map _<|Option.bind (Option.map _<|Option.map _<|eL 8 G T (.v<|dL [q]) .non) λd=>(dJ d).bind λb=>if bx b then !aQ b else ())=_;rw[c];show Option.map _ (Option.map _<|Option.map _<|if bx _ then !aQ _ else ())=_;rw[Yk hs,he];rfl]
 let h:=HM O a;have l:(a.map dL).length<16777216:=by rwa[Yc]
 by_cases z:O∈a
 .rw[show ad a O=a from Yk z];rw[YR z]at h;delta obF;simp[h]
 .rw[show ad a O=a++[O]from Ym z];rw[YD z]at h;delta obF;rw[show(a++[O]).map dL=a.map dL++[dL O]by simp];generalize a.map dL=U,dL O=u at *;simp[h,l]
theorem uE(J:1<=n/\n<=7)(w:Wb C ks ts n W T):∃c:List Qj,eQ C [.v (.int n),.v (.lst (T.map dL))]=oW (.lst (c.map dL)) ()/\(∀O∈c,∃q,In n q/\O.Perm (orb T q))/\∀q,In n q->∃O∈c,q∈O:=by
 delta eQ nk;rw[iV,show aK 5 2 [.v _,.v _]=[sI n,sV _,(),(),()]from rfl,ao (ρ':=obF n _ [] () ()) qx];let#[_,e,c,B,y,rfl,L,u,s]:=h_ (st:=setV 3) (λj N=>∃c B y,N=obF n (.lst<|T.map dL) c B y/\c.length<=j/\(∀O∈c,∃q,In n q/\O.Perm (orb T q))/\∀q,In n q->q<j->∃O∈c,q∈O) _ 0 _ #[[],(),(),qx,Yp _,nofun,λq m h=>absurd m.1<|by lia] (by
  rintro j d _ M ⟨c,B,y,rfl,L,u,s⟩;rw[ZX]at L s ⊢;rw[Yw]at M;let#[q,m,rfl]:=YK.mp M;have o:In n q:=ap.mp<|YT m;have S:q=j:=by delta ah at m;rw[Yw]at m;let#[i,H,rfl]:=YK.mp m;let lt:=(Yo.mp H).1;rw[Zw]at lt;rw[Xa lt]at H;cases H;rfl
  let#[P,K,R]:=Cv J w o;have lo:(orb T q).length<=7:=by
   have:=bE _ (ah n) P λx Q=>by let#[g,A,e]:=(K x).mp Q;rw[<-e];exact ap.mpr<|bG J.1 A.p o
   rw[aE]at this;lia
  let#[O,eO,I]:=Li<|orb T q;exact#[_,qx,_,M9 R (Ca _<|by lia) eO (by have:=o.2;lia),ad c O,_,_,qx,?_,λf h=>?_,λE i l=>?_]
  .delta ad;split
   .lia
   .rw[Yr,YN];lia
  .delta ad at h;split at h
   .exact u f h
   .rcases Zc.mp h with h|h
    .exact u f h
    .rw[Yu.mp h];exact#[q,o,I]
  .have sub:∀f,f∈c\/f=O->f∈ad c O:=λf h=>by
    delta ad;split
    .rename_i z;exact h.elim id λe=>e ▸ z
    .exact Zc.mpr<|h.imp id λe=>Yu.mpr e
   by_cases z:E=q
   .subst z;exact#[O,sub O<|.inr qx,I.mem_iff.mpr<|(K E).mpr #[ah n,i9,eG o]]
   .let#[f,a,b]:=s E i (by lia);exact#[f,sub f<|.inl a,b])
 rw[ZX,Yc,aE]at s;exact#[c,?_,u,λq i=>s q i (by have:=i.2;lia)];rw[ao<|fL (iH rfl<|by lia) e];rfl
def BF(c:1<=n/\n<=7)(w:Wb C ks ts n W T):∃a:List Qj,jx C [.v W]=sV (.lst (a.map dL))/\(∀O∈a,∃q,In n q/\O.Perm (orb T q))/\∀q,In n q->∃O∈a,q∈O:=by let#[a,e,h]:=uE c w;exact#[a,?_,h];let b:=w.size [sV W] qx;let f:=w.few;delta jx vO;generalize eQ C=G,a7 C=F,a8 C "size" (be C) _=Z at *;rw[iU];show bv (Option.map _<|Option.bind (Option.bind (Z [sV W]) λx=>Option.map _<|Option.bind (Option.bind (F [.v W]) _) _) _)=_;rw[b,Ya,f,Ya];show bv (Option.map _<|Option.bind (G [.v _,.v _]) _)=_;rw[e];rfl
theorem IF{p}:∀(c:List Qj) x2,(∃O∈c,p∈O)->∃O ρ,O∈c/\p∈O/\gX (setV 2) (dIf (asB (d2 inD (aw 1) (aw 2))) (br (d1 bN (aw 2))) dNx) (c.map dL) [sV W,sI p,x2]=!.rt (.v (.int O.length)) ρ
 |[],_,h=>by let#[_,h,_]:=h;cases h
 |O::c,x2,h=>by
  let f:=Ix p O;have i:∀r,(if p∈O then !RES.rt (.v<|.int O.length) [sV W,sI p,sV<|dL O] else some<|.nx [sV W,sI p,sV<|dL O])=r->(dIf (asB<|d2 inD (aw 1)<|aw 2) (br<|d1 bN<|aw 2) dNx) [sV W,sI p,sV<|dL O]=r:=λr l=>by
   rw[<-l];have m:bN (dL O)=!.int O.length:=by show some _=_;rw[Yc]
   by_cases z:p∈O
   .rw[Yk z];rw[YR z]at f;generalize dL O=u at *;simp[f,m]
   .rw[Ym z];rw[YD z]at f;generalize dL O=u at *;simp[f]
  by_cases z:p∈O
  .exact#[O,[sV W,sI p,sV<|dL O],Ye,z,?_];rw[YI,gX,show setV 2 (dL O) [sV W,sI p,x2]=![sV W,sI p,sV<|dL O]from rfl];simp only[i _<|Yk z]
  .let#[g,ρ,a,b,e]:=IF c _ (by
    let#[g,h1,j]:=h;rcases Yt.mp h1 with rfl|h1
    .exact absurd j z
    .exact#[g,h1,j])
   exact#[g,ρ,Yb _ a,b,by rw[<-e,YI];exact nY rfl<|i _<|Ym z]
def EB(h:1<=n/\n<=7)(w:Wb C ks ts n W T){p}(b:In n p):∃O:Qj,cY C [.v W,.v (.int p)]=sI (O.length)/\O.Nodup/\∀x,x∈O↔∃g,Au ks ts n g/\ox g p=x:=by
 let#[l,e,z,y]:=BF h w;let#[O,E,u,o,B]:=IF (W:=W) l ()<|y p b;let#[q,f,c]:=z O u;let#[s,i,_]:=Cv h w f;exact#[O,?_,c.nodup_iff.mpr s,λx=>?_]
 .delta cY jo;generalize jx C=G at *;rw[iV,show aK 3 2 [.v W,.v _]=[sV W,sI p,()]from rfl,iK<|fL (by
   delta dw;show(match Option.bind _ dvD with|some (D.lst ds)=>!ds|_=>())=_;rw[e];rfl) B]
  rfl
 .let#[g0,a,j]:=(i p).mp<|c.mem_iff.mp o;rw[c.mem_iff,i];have m:ix g0 p=q:=by rw[<-j,cR h.1 a.p f]
  constructor
  .rintro⟨g,A,e⟩;exact#[_,qp h.1 A<|jy h.1 a i9,?_];rw[cM h.1 (jy h.1 a i9).p b,gN b,eG b,m,e]
  .rintro⟨g,A,e⟩;exact#[_,qp h.1 A a,by rw[cM h.1 a.p f,j,e]]
end
section
variable{n:Int}{p:Int}{w:Str}
theorem uU(b:ks.length=n)(a:In n p){i}(hi:In n i):kAt (ks.set p.toNat w) i=if i=p then w else kAt ks i:=by
 let f:=a.1;let e:=a.2;let c:=hi.1;delta kAt;rw[Uu];by_cases h:i=p
 .subst h;rw[Yk qx,Yk<|by lia,Yk qx];rfl
 .rw[Ym<|by lia,Ym h]
def IN(b:1<=n)(c:ks.length=n)(a:In n p)(hw:∀i,In n i->i≠p->kAt ks i≠w)g:Au (ks.set p.toNat w) ts n g↔Au ks ts n g/\ox g p=p:=by
 have ks:∀{i},In n i->kAt _ i=if i=p then w else kAt ks i:=λh=>uU c a h
 have inj:∀{i},g.Perm (ah n)->ox g p=p->In n i->ox g i=p->i=p:=λq e h z=>(cR b q h).symm.trans<|(YW (ix g)<|z.trans e.symm).trans<|cR b q a
 constructor
 .intro A;let e:=Za λz=>by
   have:=A.k p a;rw[ks a,Yk qx,ks<|bG b A.p a,Ym z]at this;exact hw _ (bG b A.p a) z this.symm
  exact#[#[A.p,λi h=>?_,A.t],e];by_cases z:i=p
  .rw[z,e]
  .have:=A.k i h
   rwa [ks h,Ym z,ks<|bG b A.p h,Ym λy=>z<|inj A.p e h y]at this
 .rintro⟨A,e⟩;exact#[A.p,λi h=>?_,A.t];rw[ks h,ks<|bG b A.p h];by_cases z:i=p
  .rw[z,e]
  .rw[Ym z,Ym λy=>z<|inj A.p e h y];exact A.k i h
variable{h:Int->Qj}
def lds(R':List Qj)(h:Int->Qj)(O:Qj):=O.flatMap λo=>R'.map λs=>s.map<|ox<|h o
theorem BV(c:1<=n)(B:In n p)(y:R'.Nodup)(f:∀s∈R',s.Perm (ah n)/\ox s p=p):∀O:Qj,O.Nodup->(∀o∈O,(h o).Perm (ah n)/\ox (h o) p=o)->(lds R' h O).Nodup/\(lds R' h O).length=O.length*R'.length/\∀g∈lds R' h O,ox g p∈O
 |[],_,_=>#[.nil,by simp[lds],nofun]
 |o::O,no,ho=>by
  let#[n1,n2]:=Zd.mp no;let#[K,J,C]:=BV c B y f O n2 λx I=>ho x<|Yb _ I
  let#[w,E]:=ho o Ye;have e:lds R' h (o::O)=R'.map _++lds R' h O:=rfl;have q:∀g∈R'.map λs=>s.map<|ox<|h o,ox g p=o:=λg hg=>by
   let#[s,A,rfl]:=Yg.mp hg;rw[cM c (f s A).1 B,(f s A).2,E]
  rw[e];exact#[ZJ.mpr #[?_,K,λa m b j z=>n1 ?_],by rw[Yr,J,Yc,Yq,Nat.add_mul,Nat.one_mul,Nat.add_comm],λg hg=>?_]
  .rw[List.Nodup,Xl];exact y.imp_of_mem λ{a b} m j H z=>H<|o7 (aN c (f a m).1).1 (aN c (f b j).1).1 λi u=>?_;have:=YW (λl=>ox l i) z;have this:=this;rw[cM c (f a m).1 u,cM c (f b j).1 u]at this;rw[<-cR c w<|bG c (f a m).1 u,this,cR c w<|bG c (f b j).1 u]
  .rw[<-q a m,z];exact C b j
  .rcases Zc.mp hg with hg|hg
   .rw[q g hg];exact Ye
   .exact Yb _<|C g hg
def CP(c:1<=n)(E:ks.length=n)(l:In n p)(hw:∀i,In n i->i≠p->kAt ks i≠w)(a:Al ks ts n R)(b:Al (ks.set p.toNat w) ts n R'){O:Qj}(C:O.Nodup)(B:∀x,x∈O↔∃g,Au ks ts n g/\ox g p=x):R.length=O.length*R'.length:=by
 have ch:∃h:Int->Qj,∀o∈O,Au ks ts n (h o)/\ox (h o) p=o:=by exact#[λo=>open Classical in if z:∃g,Au ks ts n g/\ox g p=o then z.choose else[],λo f=>?_];let z:=(B o).mp f;dsimp only;rw[dif_pos];exact z.choose_spec
 let#[h,m]:=ch;let q:=λs=>(b.mem s).trans<|IN c E l hw s
 let#[J,I,K]:=BV c l b.nd (λs j=>#[((q s).mp j).1.p,((q s).mp j).2]) O C λo f=>#[(m o f).1.p,(m o f).2]
 rw[<-I];exact a.same #[J,λg=>#[λy=>?_,λA=>?_]]
 .let#[o,f,y]:=ZY.mp y;let#[s,j,rfl]:=Yg.mp y;exact qp c (m o f).1 ((q s).mp j).1
 .let f:=(B _).mpr #[g,A,qx];let#[H,e]:=m _ f;exact ZY.mpr #[ox g p,f,Yg.mpr #[quo n _ g,(q _).mpr #[jy c H A,?_],?_]]
  .rw[gN l];exact(YW _ e.symm).trans<|cR c H.p l
  .let Q:=jy c H A;exact o7 (by rw[Yc];exact(aN c Q.p).1) (aN c A.p).1 λi u=>?_;rw[cM c Q.p u,gN u,d9 c H.p<|bG c A.p u]
def wq(k:Nat):Str:=#[#[[113,113+k]]]
def B7(h:wq i=wq j):i=j:=by delta wq at h;injection h with h;have:=YW (λa:Array Nat=>a.toList) h;simpa using this
def wqB(k:Nat):Bool:=(match(d2 bP (λz=>some<|.str "q")<|d2 ixD (λz=>some<|.str "qrstuvw") λz=>some<|.int k) []with|some (.str x)=>decide (x=wq k)&&decide (1<=x.cps.size)&&decide (x.cps.size<=3)&&x.cps.toList.all λc=>decide (97<=c/\c<=122)|_=>false)
theorem FU:∀k:Fin 7,wqB k:=by decide+kernel
def IJ{k:Nat}(h:k<7):(d2 bP (λ_=>!(.str "q")) (d2 ixD (λ_=>!(.str "qrstuvw")) (λ_=>!.int k))) []=!.str (wq k)/\okW (wq k):=by
 have:=FU #[k,h];delta wqB at this;split at this
 .rename_i x q;rw[Yn,Yn,Yn]at this;let#[#[#[e,b],c],d]:=this;let e:=Yz e;subst e;exact#[q,Yz b,Yz c,λc a=>by simpa using Yl.mp d c a]
 .cases this
structure Mk (n:Int) (o:Qj) (j:Nat) (K:List Str):Prop where
 k:okK n K
 a:∀i,In n i->ix o i<j->kAt K i=wq (ix o i).toNat
 b:∀i,In n i->(j:Int)<=ix o i->(kAt K i).cps.toList.contains 113=false
def ON k:(wq k).cps.toList.contains 113:=by delta wq;simp
theorem Mk.new{o}{K}(m:Mk n o j K):∀i,In n i->ix o i≠j->kAt K i≠wq j:=λi h c z=>by
 rcases Int.lt_or_le _ j with l|l
 .rw[m.a i h l]at z;have:=B7 z;have e:0<=ix o i:=Uk _;lia
 .have:=m.b i h l;rw[z,ON]at this;cases this
theorem Mk.on{o}{K}(q:1<=n)(g:o.Perm (ah n))(m:Mk n o j K)(s:j<7)(f:In n p)(e:ix o p=j):Mk n o (j+1) (K.set p.toNat (wq j)):=by
 have inj:∀i,In n i->ix o i=j->i=p:=λi h z=>by rw[<-d9 q g h,z,<-e,d9 q g f]
 exact#[#[by rw[Zp];exact m.k.1,λx c=>?_],λi h l=>?_,λi h l=>?_]
 .rcases List.mem_or_eq_of_mem_set c with c|rfl
  .exact m.k.2 x c
  .exact(IJ s).2
 .rw[uU m.k.1 f h];by_cases z:i=p
  .rw[Yk z,z,e];rfl
  .rw[Ym z];exact m.a i h ?_;have:ix o i≠j:=λy=>z<|inj i h y
   lia
 .rw[uU m.k.1 f h,Ym λz=>by rw[z,e]at l;lia];exact m.b i h<|by lia
theorem Mk.one{o}{K}(c:1<=n)(f:o.Perm (ah n))(m:Mk n o n.toNat K)(a:Al K ts n R):R.length=1:=by
 have j:∀g∈R,g∈[ah n]:=λg b=>by
  let A:=(a.mem g).mp b;rw[Yu];exact o7 (aN c A.p).1 (by rw[aE];lia) λi h=>?_;let b:=bG c A.p h;have l:∀{i},In n i->0<=ix o i/\ix o i<n:=λh=>gs c f h
  let e:=A.k i h;rw[m.a i h (by have:=(l h).2;lia),m.a _ b (by have:=(l b).2;lia)]at e;let e:=B7 e;have e:ix o i=ix o (ox g i):=by have:=(l h).1;have:=(l b).1;lia
  rw[eG h,<-d9 c f b,<-e,d9 c f h]
 have:=bE R [ah n] a.nd j;have:1<=R.length:=Xn<|(a.mem _).mpr i9;simp at *;lia
end
def N5:kB (.int 10) (.int 40)=!.int 10000000000000000000000000000000000000000:=rfl
def odl q:OD.d (.lst q)=.lst q:=rfl
noncomputable abbrev zF(N CS:List D)(n:Int)(KS TS:List D)(W:D)(c:Nat)(x7 x8 x9 x10:Option DV):DF:=[sV<|.lst N,sV<|.lst CS,sI n,oW (.lst KS) (),sV<|.lst TS,sV W,sI c,x7,x8,x9,x10]
theorem Ci(ns:Qj)(h:ns.length<=63):(aW 1 (asO (asL (aR 1 [] (bY 0) (setV 0) bi (d2 eZ (am 0) (d2 kB (cI 10) (cI 40))))))) [sV (.lst (ns.map .int)),(),(),(),(),(),(),(),(),(),()]=!.nx [sV (.lst (ns.map .int)),sV (.lst ((ns.map (· % 10000000000000000000000000000000000000000)).map .int)),(),(),(),(),(),(),(),(),()]:=by
 have c:bO (setV 0) bi (d2 eZ (am 0)<|d2 kB (cI 10)<|cI 40) [()] (ns.map .int)=!(ns.map (· % 10000000000000000000000000000000000000000)).map .int:=by
  rw[YH];exact bF D.int _ ns λx z=>#[[sI x],qx,qx,?_]
  have:=fj x 10000000000000000000000000000000000000000 (by decide);simp -implicitDefEqProofs [N5,this]
 have l:(ns.map D.int).length<=16777216:=by rw[Yc];lia
 generalize (ns.map _).map D.int=CS,(d2 eZ (am 0) _)=E,ns.map D.int=N at *;simp -implicitDefEqProofs [bb,l,c,odl]
def vP C i:eY C [.v (.int i)]=sV (.bl true):=rfl
section
variable{N CS KS KS2 TS:List D}{n:Int}{W2:D}{x10:Option DV}{c c2 m:Nat}{p:Int}{w:Str}{Oo Ct Wh:Dm}{mk:Dz}
theorem Ju{f:List (Str×D)}(x:Oo [.v W,.v (.int p)]=sI m)(q:(d2 bP (λt=>!(.str "q")) (d2 ixD (λt=>!(.str "qrstuvw")) (λt=>!.int j))) []=!.str w)(l:0<=p/\p<KS.length)(y:KS.set p.toNat (.str w)=KS2)(h:∀(g:Dv) (ρ:DF),g ρ=![.bor (.lst KS2),.v (.lst TS)]->iY C mk g ρ=!.ins C f)(u:Ct [.v (.ins C f)]=sI c2)(hw:∀i,Wh [.v (.int i)]=sV (.bl true))(he:c=m*c2)(z:m<=7):(aq (aW 9 (aj Oo (aV (getV 5) (aB 8 nA))))
  (aq (qo 3 (getV 8) (d2 bP (λt=>!(.str "q")) (d2 ixD (λt=>!(.str "qrstuvw")) (am 7))))
  (aq (aW 5 (asO (iY C mk (aB 3 (aB 4 nA)))))
  (aq (aW 10 (aj Ct (aV (getV 5) nA)))
  (aq (dIf (orT (cK (asB (aj Wh (aB 10 nA)))) (asB (d2 neD (aw 6) (d2 nD (am 9) (am 10))))) (br (λt=>!.bl false)) dNx)
  (aW 6 (getV 10))))))) (zF N CS n KS TS W c (sI j) (sI p) x9 x10)=!.nx (zF N CS n KS2 TS (.ins C f) c2 (sI j) (sI p) (sI m) (sI c2)):=by
 rw[ao (ρ':=zF N CS n KS TS W c (sI j) (sI p) (sI m) x10) (by
   show(Option.bind (Oo [.v W,.v (.int p)]) _).map _=_;rw[x];rfl),
  ao (ρ':=zF N CS n KS2 TS W c (sI j) (sI p) (sI m) x10) (by
   have o:ixN KS.length p=!p.toNat:=by delta ixN;rw[Yk l.1,Yk l.2]
   show Option.bind ((d2 bP (λt=>!(.str "q")) (d2 ixD (λt=>!(.str "qrstuvw")) (λt=>!.int j))) []) (λd=>(ixN KS.length p).map _)=_;rw[q,Ya,o,<-y];rfl),
  ao (ρ':=zF N CS n KS2 TS (.ins C f) c (sI j) (sI p) (sI m) x10) (by rw[gr,fU,h _ _ qx];rfl),
  ao (ρ':=zF N CS n KS2 TS (.ins C f) c (sI j) (sI p) (sI m) (sI c2)) (by
   show(Option.bind (Ct [.v (.ins C f)]) _).map _=_;rw[u];rfl),
  ao (ρ':=zF N CS n KS2 TS (.ins C f) c (sI j) (sI p) (sI m) (sI c2)) (by
   have e:(c:Int)=(m:Int)*(c2:Int):=by rw[he];exact Int.natCast_mul m c2
   have s:nD (.int (m:Int)) (.int (c2:Int))=!.int ((m:Int)*c2):=pA _ _ (.inl #[by lia,by lia]);let hw:=hw c2;delta zF;generalize (c:Int)=a,(c2:Int)=a2,(m:Int)=b at *;simp -implicitDefEqProofs [hw,s,e])]
 rfl
theorem Ld{S K T R A:Dm}{b:List (Str×D)}{G:Dw}(s:S [.v (.lst CS),.v (.int 7)]=sI n)(u:K [.v (.lst CS),.v (.int n)]=oW (.lst KS) ())(p:T [.v (.lst CS),.v (.int n)]=oW (.lst TS) ())(j:∀(g:Dv) (ρ:DF),g ρ=![.bor (.lst KS),.v (.lst TS)]->iY C mk g ρ=!.ins C b)(o:Ct [.v (.ins C b)]=sI c)(hw:∀i,Wh [.v (.int i)]=sV (.bl true))(h1:1<=c)(h:720<c->R [.v (.ins C b)]=sV (.bl true))(m:c<=720->∃ds:List D,ds.length=c/\A [.v (.ins C b)]=sV (.lst ds)):(aq (aW 2 (aj S (aB 1 (aV (cI 7) nA))))
  (aq (ck 3 (ni K (aB 1 (aB 2 nA))))
  (aq (aW 4 (aj T (aB 1 (aB 2 nA))))
  (aq (aW 5 (asO (iY C mk (aB 3 (aB 4 nA)))))
  (aq (aW 6 (aj Ct (aV (getV 5) nA)))
  (aq (dIf (orT (cK (asB (aj Wh (aB 6 nA)))) (asB (d2 ltd (aw 6) (cI 1)))) (br (λz=>!.bl false)) dNx)
  (aq (dIf (eV (asB (d2 gtI (am 6) (cI 720))) (cK (asB (aj R (aV (getV 5) nA))))) (br (λz=>!.bl false)) dNx)
  (aq (dIf (eV (asB (d2 leI (am 6) (cI 720))) (asB (d2 neD (d1 bN (aj A (aV (getV 5) nA))) (aw 6)))) (br (λz=>!.bl false)) dNx)
  G)))))))) [sV (.lst N),sV (.lst CS),(),(),(),(),(),(),(),(),()]=G (zF N CS n KS TS (.ins C b) c () () () ()):=by
 rw[ao (ρ':=[sV (.lst N),sV (.lst CS),sI n,(),(),(),(),(),(),(),()]) (by simp -implicitDefEqProofs [s]),
  ao (ρ':=[sV (.lst N),sV (.lst CS),sI n,oW (.lst KS) (),(),(),(),(),(),(),()]) (by
   show(Option.bind (K [.v (.lst CS),.v (.int n)]) _).map _=_;rw[u];rfl),
  ao (ρ':=[sV (.lst N),sV (.lst CS),sI n,oW (.lst KS) (),sV (.lst TS),(),(),(),(),(),()]) (by
   show(Option.bind (T [.v (.lst CS),.v (.int n)]) _).map _=_;rw[p];rfl),
  ao (ρ':=[sV (.lst N),sV (.lst CS),sI n,oW (.lst KS) (),sV (.lst TS),sV (.ins C b),(),(),(),(),()]) (by rw[gr,fU,j _ _ qx];rfl),
  ao (ρ':=zF N CS n KS TS (.ins C b) c () () () ()) (by
   show(Option.bind (Ct [.v (.ins C b)]) _).map _=_;rw[o];rfl)]
 let hw:=hw c;have h1:¬(c:Int)<1:=by lia
 rw[ao (ρ':=zF N CS n KS TS (.ins C b) c () () () ()) (by
  delta zF;generalize (c:Int)=a at *;simp -implicitDefEqProofs [hw,h1])]
 by_cases q:720<c
 .let h:=h q;have f:(720:Int)<(c:Int):=by lia
  have e:¬(c:Int)<=720:=by lia
  delta zF;generalize (c:Int)=a at *;rw[ao (ρ':=[sV (.lst N),sV (.lst CS),sI n,oW (.lst KS) (),sV (.lst TS),sV (.ins C b),sI a,(),(),(),()]) (by simp -implicitDefEqProofs [f,h]),ao (ρ':=[sV (.lst N),sV (.lst CS),sI n,oW (.lst KS) (),sV (.lst TS),sV (.ins C b),sI a,(),(),(),()]) (by
   have:leI (.int a) (.int 720)=!.bl false:=by show some (D.bl (decide (a<=720)))=_;rw[YD e]
   simp -implicitDefEqProofs [this])]
 .let#[ds,l,m]:=m (by lia);have f:¬(720:Int)<(c:Int):=by lia
  have e:(c:Int)<=720:=by lia
  have l:(ds.length:Int)=(c:Int):=by rw[l]
  delta zF;generalize (c:Int)=a at *;rw[ao (ρ':=[sV (.lst N),sV (.lst CS),sI n,oW (.lst KS) (),sV (.lst TS),sV (.ins C b),sI a,(),(),(),()]) (by simp -implicitDefEqProofs [f]),ao (ρ':=[sV (.lst N),sV (.lst CS),sI n,oW (.lst KS) (),sV (.lst TS),sV (.ins C b),sI a,(),(),(),()]) (by
   have:leI (.int a) (.int 720)=!.bl true:=by show some (D.bl (decide (a<=720)))=_;rw[YR e]
   simp -implicitDefEqProofs [this,m,l])]
end
theorem law_true(C:Addr)(ns:Qj)(hl:ns.length<=63):Dj C [.v (.lst (ns.map L2.D.int))]=sV (.bl true):=by
 let hc:=Ci ns hl;have L:(ns.map (· % 10000000000000000000000000000000000000000)).length<=63:=by rw[Yc];exact hl
 generalize ns.map (· % 10000000000000000000000000000000000000000)=y at hc L;let#[n,hS,n1,n7]:=Hx C y;have b:1<=n/\n<=7:=#[n1,n7]
 let#[c,hK,kl,hQ]:=Ep C y n b;have I:okK n c:=#[kl,λk h=>(hQ k h).1]
 let#[l,hT,hs]:=H0 C y n b L;have Wx:∀c:List Str,okK n c->∃f R T,Al c l n R/\Wb C c l n (.ins C f) T/\bB C [.v (.ins C f)]=sI (R.length)/\∀(g:Dv) (J:DF),g J=![.bor (.lst (c.map .str)),.v (.lst (l.map dT4))]->iY C (cL C) g J=!.ins C f:=λc I=>by
  let#[kvs,hJ,B]:=Kt C c l n b I hs;let w:=Mv (C:=C) b I hs hJ;let#[R,a,e]:=n4 b w;exact#[_,R,_,a,w,e,B]
 let#[f,R,T,a,w,e,B]:=Wx c I;let#[o,hO,p]:=Ar C y n 10139 b (by decide);let L:=aN b.1 p;delta Dj IC;rw[iU,show aK 11 1 [.v (.lst (ns.map .int))]=[sV (.lst (ns.map .int)),(),(),(),(),(),(),(),(),(),()]from rfl,ao hc,Ld hS hK hT B e (vP C) (Xn ((a.mem _).mpr i9)) (λh=>xn b w a h) λh=>LF b w a h];let#[_,Y,K,Fi',R',T',P,N,M,u,rfl,m,a',_]:=h_ (st:=jU [7,8]) (body:=(aq (aW 9 (aj (cY C) (aV (getV 5) (aB 8 nA))))
  (aq (qo 3 (getV 8) (d2 bP (λt=>!(.str "q")) (d2 ixD (λt=>!(.str "qrstuvw")) (am 7))))
  (aq (aW 5 (asO (iY C (cL C) (aB 3 (aB 4 nA)))))
  (aq (aW 10 (aj (bB C) (aV (getV 5) nA)))
  (aq (dIf (orT (cK (asB (aj (eY C) (aB 10 nA)))) (asB (d2 neD (aw 6) (d2 nD (am 9) (am 10))))) (br (λt=>!.bl false)) dNx)
  (aW 6 (getV 10)))))))) (λj J=>∃K f R T P N M u,J=zF (ns.map .int) (y.map .int) n (K.map .str) (l.map dT4) (.ins C f) R.length P N M u/\Mk n o j K/\Al K l n R/\Wb C K l n (.ins C f) T) (dq (o.map .int)) 0 _ #[c,f,R,T,(),(),(),(),qx,#[I,λi E h=>absurd h (by have:0<=ix o i:=Uk _;lia),λi E t=>by
   let X:=E.1;let h1:=E.2;have:i.toNat<c.length:=by lia
   delta kAt;rw[Yh this];exact(hQ _ (Xh this)).2],a,w] (by
  rintro j d _ hj ⟨K,f,R,T,P,N,M,u,rfl,m,a,w⟩;rw[ZX]at m ⊢;let#[d0,X,rfl]:=jS hj;rw[Yw]at X;let#[q,S,rfl]:=YK.mp X;have s:In n q:=L.2.2 q (YT S);let jl:=(Yo.mp S).1;have Z:ix o q=j:=(p_ b.1 p s #[by lia,by lia]).mpr (by delta ox;rw[Zr,S];rfl);let m2:=m.on b.1 p (by lia) s Z;let#[Fi2,R2,T2,a2,w2,Y,H]:=Wx _ m2.k;let#[O,U,nO,mO]:=EB b w s;let st:=CP b.1 m.k.1 s (λi E ne=>m.new i E λz=>ne (by rw[<-d9 b.1 p E,z,<-Z,d9 b.1 p s])) a a2 nO mO;exact#[_,qx,_,Ju U (IJ (by lia)).1 (by rw[Yc];have:=m.k.1;have:=s.1;have:=s.2;lia) (by rw[<-List.map_set]) H Y (vP C) st (by
   have:=bE O (ah n) nO λx hx=>by let#[g,A,e]:=(mO x).mp hx;rw[<-e];exact ap.mpr (bG b.1 A.p s)
   rw[aE]at this;lia),_,_,_,_,_,_,_,_,qx,m2,a2,w2])
 have eO:n_ (aj (dS C) (aB 1 (aV (getV 2) (aV (cI 10139) nA)))) (zF (ns.map .int) (y.map .int) n (c.map .str) (l.map dT4) (.ins C f) R.length () () () ())=!dq (o.map .int):=by generalize dS C=Q at *;delta n_;show(match Option.bind (Q [.v (.lst (y.map .int)),.v (.int n),.v (.int 10139)]) dvD with|some (D.lst ds)=>!dq ds|_=>())=_;rw[hO];rfl
 rw[ao (fL eO Y)];rw[ZX,show(dq (o.map D.int)).length=n.toNat by delta dq;rw[Yc,List.length_zipIdx,Yc];lia]at m;have:=m.one b.1 p a';show bv (Option.map _ (eqD (.int (R'.length:Int)) (.int 1)))=_;rw[this];rfl
def spLaw(K:Kq):Sp:=λc H Q z=>∃(a:Addr) (b:Qj),c=[.ref a]/\SqL K H a (b.map V.int)/\b.length<=63/\∀e,Q (.bl true) e
theorem jQ:∀ns:Qj,Reps K H (ns.map V.int) (ns.map D.int)
 |[]=>.nil
 |_::ns=>.cons .int (jQ ns)
def Bi(h:∀ns:Qj,ns.length<=63->m [.v (.lst (ns.map D.int))]=!.v (.bl true)):∀vs H Q E,spLaw K vs H Q E->spD K m vs H Q E:=by rintro vs H Q E ⟨a,ns,rfl,c,b,f⟩;exact#[λz=>(),H,_,_,h ns b,#[λz z e=>e,λz z e=>(by cases e),λz z e=>(by cases e)],.cons qx (show Rep K H _ _ from .lst c (jQ ns)) .nil,λv i g z z r=>?_];cases r;exact f g
def gS(P:Params)(a n:Nat):=(((rT.filter (·.i<1000)).drop a).take n).map λr=>kE P (gE (top r.i)) (r.h+2) (.ref (r.a+1))
def kz:Str := "__doc__"
def KK:Params->PySem.W.Frag:=λP=>(λ(_:kz = "__doc__")=>[(nat_lit 3,{cls:=.type "dict",data:=.dict ([kE P "__name__" 165 (.str "law_tieword_k19_turnings_counted" 705),kE P "__doc__" 166 (.none),kE P "__package__" 167 (.none),kE P "__loader__" 168 (.builtin "__main__.__loader__#opaque"),kE P "__spec__" 169 (.none),kE P "__annotations__" 170 (.ref 6),kE P "__builtins__" 171 (.ref 4),kE P "__file__" 173 (.str "/claim/cut.py" 172),kE P "__cached__" 174 (.none),kE P "_wall" 193 (.ref 21)]++gS P 0 10++[kE P "reached" 275 (.ref 87)]++gS P 10 4++[kE P "Search" 383 (.ref 157)]++gS P 14 1++[kE P "WebError" 411 (.ref 178),kE P "TooGreat" 427 (.ref 191),kE P "BadPlace" 443 (.ref 203),kE P "BadTie" 459 (.ref 215),kE P "BadOrder" 475 (.ref 227),kE P "TooMany" 491 (.ref 239),kE P "BadText" 507 (.ref 251),kE P "MOST_PLACES" 511 (.int 7 510),kE P "MOST_TIES" 513 (.int 12 512),kE P "MOST_LETTERS" 515 (.int 3 514)]++gS P 15 7++[kE P "Web" 628 (.ref 336),kE P "MOST_TOLD" 632 (.int 720 631)]++gS P 22 2++[kE P "come_of" 656 (.ref 360)]++gS P 24 18).toArray 67}),
(nat_lit 82,{cls:=.type "tuple",data:=.seq #[[.none]]}),
(nat_lit 86,{cls:=.type "code",data:=.fields #[[.str "reached" 270,.str "reached" 271,.str "/claim/cut.py" 272,.int 41 0,.int 3 0,.int 0 0,.int 0 0,.int 3 0,.ref 83,.bool true,.int 181 0,.ref 84,.none,.none,.none,.ref 85,.int 273 0,.int 41 0,.str "/claim/cut.py" 274]]}),
(nat_lit 87,#[.type "function",(),.func dR,#[[]]]),
(nat_lit 156,{cls:=.type "dict",data:=.dict #[[kE P "__module__" 309 (.str "tieword.search" 276),kE P "__firstlineno__" 313 (.int 65 312),kE P "__init__" 321 (.ref 121),kE P "begin" 331 (.ref 128),kE P "arrive" 341 (.ref 135),kE P "left_out" 347 (.ref 140),kE P "on_first" 355 (.ref 147),kE P "go" 368 (.ref 154),kE P "__static_attributes__" 376 (.ref 155),kE P "__dict__" 378 (.ref 158),kE P "__weakref__" 380 (.ref 159),kE P "__doc__" 381 (.none)]] 4}),
(nat_lit 157,{cls:=.type "type",data:=.cls {name := "Search",bases:=[.type "object"],mro:=[.ref 157,.type "object"],ns:=156,qualname := "Search" },slots:=#[[(),(),!(.str "Search" 302),!(.str "Search" 310),!(.builtin "object.__new__"),!.bool true]]}),
(nat_lit 177,{cls:=.type "dict",data:=.dict #[[kE P "__module__" 401 (.str "tieword.errors" 392),kE P "__firstlineno__" 405 (.int 120 404),kE P "__static_attributes__" 406 (.ref 176),kE P "__weakref__" 408 (.ref 179),kE P "__doc__" 409 (.none)]] 3}),
(nat_lit 178,{cls:=.type "type",data:=.cls {name := "WebError",bases:=[.type "ValueError"],mro:=[.ref 178,.type "ValueError",.type "Exception",.type "BaseException",.type "object"],ns:=177,qualname := "WebError",subclasses:=[.ref 191,.ref 203,.ref 215,.ref 227,.ref 239,.ref 251]},slots:=#[[!.ref 169,(),!(.str "WebError" 394),!(.str "WebError" 402),!(.builtin "ValueError.__new__"),!.bool true]]}),
eO 178 191 "TooGreat" 190 182 412 420,
(nat_lit 214,{cls:=.type "dict",data:=.dict #[[kE P "__module__" 451 (.str "tieword.errors" 392),kE P "__firstlineno__" 455 (.int 126 454),kE P "__static_attributes__" 456 (.ref 213),kE P "__doc__" 457 (.none)]] 2}),
eO 178 215 "BadTie" 214 206 444 452,
eO 178 227 "BadOrder" 226 218 460 468,
(nat_lit 238,{cls:=.type "dict",data:=.dict #[[kE P "__module__" 483 (.str "tieword.errors" 392),kE P "__firstlineno__" 487 (.int 130 486),kE P "__static_attributes__" 488 (.ref 237),kE P "__doc__" 489 (.none)]] 2}),
eO 178 239 "TooMany" 238 230 476 484,
eO 178 251 "BadText" 250 242 492 500,
(nat_lit 335,{cls:=.type "dict",data:=.dict #[[kE P "__module__" 583 (.str "tieword.webs" 508),kE P "__firstlineno__" 587 (.int 169 586),kE P "__init__" 593 (.ref 312),kE P "size" 600 (.ref 319),kE P "between" 609 (.ref 326),kE P "near" 617 (.ref 333),kE P "__static_attributes__" 621 (.ref 334),kE P "__dict__" 623 (.ref 337),kE P "__weakref__" 625 (.ref 338),kE P "__doc__" 626 (.none)]] 4}),
(nat_lit 336,{cls:=.type "type",data:=.cls {name := "Web",bases:=[.type "object"],mro:=[.ref 336,.type "object"],ns:=335,qualname := "Web" },slots:=#[[(),(),!(.str "Web" 576),!(.str "Web" 584),!(.builtin "object.__new__"),!.bool true]]}),
(nat_lit 353,{cls:=.type "tuple",data:=.seq #[[.none]]}),
(nat_lit 359,{cls:=.type "code",data:=.fields #[[.str "come_of" 646,.str "come_of" 647,.str "/claim/cut.py" 648,.int 191 0,.int 3 0,.int 0 0,.int 0 0,.int 3 0,.ref 354,.bool true,.int 181 0,.ref 355,.none,.ref 356,.ref 357,.ref 358,.int 654 0,.int 191 0,.str "/claim/cut.py" 655]]}),
(nat_lit 360,#[.type "function",(),.func dC,#[[]]])]++rT.flatMap λr=>[(r.a,cO (gE (top r.i)) (qn r.i) r.t (lno (top r.i)) (dZ (top r.i)).length (if r.c == 1 then r.a-5 else r.a-3) (r.c == 1) r.h 181),(r.a+1,fO (qn r.i) (top r.i) (mdl r.m) r.a)]) qx
def tbR:PySem.W.Frag:=[(nat_lit 3,#[.str "Search.left_out.<locals>.<lambda>" 137,(),.fields #[[.int 98 0,.int 39 0,.int 98 0,.int 86 0]],#[[]]]),(nat_lit 3,#[.str "come_of.<locals>.<lambda>" 355,(),.fields #[[.int 193 0,.int 28 0,.int 193 0,.int 93 0]],#[[]]]),(nat_lit 3,#[.str "orbits_of.<locals>.<lambda>" 367,(),.fields #[[.int 202 0,.int 40 0,.int 202 0,.int 88 0]],#[[]]])]
def K2(P:Params):=KK P++tbR
def fnR(h1:K.lookup fR=!#[.type "function",(),.func dR,#[[]]])(h2:PySem.W.codeIn K (.ref 86) "reached")(a:K.lookup (nat_lit 82)=!#[.type "tuple",(),.seq #[[Value.none]] 0,#[[]]])(h:PySem.W.keepIn K (.ref fR)):FunD K "reached" "reached" (top 13) fR dR:=#[#[_,_,_,_,_,_,_,_,_,_,_,_,qx,h1,h2,a,qx],h]
def fnC(h1:K.lookup fC=!#[.type "function",(),.func dC,#[[]]])(h2:PySem.W.codeIn K (.ref 359) "come_of")(a:K.lookup (nat_lit 353)=!#[.type "tuple",(),.seq #[[Value.none]] 0,#[[]]])(h:PySem.W.keepIn K (.ref fC)):FunE K "come_of" "come_of" (top 45) fC dC (nat_lit 359):=#[#[_,_,_,_,_,_,_,_,_,_,_,qx,h1,h2,a,qx],h]
def lnB{α:Type}{us:List α}(h:us.length=2):∃a b,us=[a,b]:=by
 match us,h with
 |[a,b],_=>exact#[a,b,qx]
def lnC{α:Type}{us:List α}(h:us.length=3):∃a b c,us=[a,b,c]:=by
 match us,h with
 |[a,b,c],_=>exact#[a,b,c,qx]
def bdR(F:FunD K "reached" "reached" (top 13) fR dR):Binds K dR ["starts","onward","most"] [Value.none]:=F.binds λz z z z z z z u h=>by
 let#[b,a,rfl]:=lnB (VF h);exact#[_,qx,qx]
def NM(F:FunD K "reached" "reached" (top 13) fR dR):Binds K dR ["starts","onward","most"] []:=F.binds0 λz z z z z z z u h=>by
 let#[c,b,a,rfl]:=lnC h;exact#[_,qx,qx]
def bdC(F:FunD K "come_of" "come_of" (top 45) fC dC):Binds K dC ["size","turnings","most"] [Value.none]:=F.binds λz z z z z z z u h=>by
 let#[b,a,rfl]:=lnB (VF h);exact#[_,qx,qx]
def N9(F:FunD K "come_of" "come_of" (top 45) fC dC):Binds K dC ["size","turnings","most"] []:=F.binds0 λz z z z z z z u h=>by
 let#[c,b,a,rfl]:=lnC h;exact#[_,qx,qx]
def tbs(P:Params):fy (K2 P)=[((nat_lit 137:Addr),("Search.left_out.<locals>.<lambda>":Str),(#[98,39,98,86]:Pos)),((nat_lit 355:Addr),("come_of.<locals>.<lambda>":Str),(#[193,28,193,93]:Pos)),((nat_lit 367:Addr),("orbits_of.<locals>.<lambda>":Str),(#[202,40,202,88]:Pos))]:=by kernel_rfl
def k2_in{P:Params}(X:(KK P).In h):(K2 P).In h:=λb o e=>by
 delta K2 at e;rw[List.lookup_append]at e;cases q:(KK P).lookup b with
 |some u=>rw[q]at e;cases e;exact X b _ q
 |none=>
  rw[q]at e;by_cases z:b=3
  .subst z;have:((KK P).lookup 3).isSome:=by kernel_rfl
   rw[q]at this;cases this
  .have:tbR.lookup b=():=by delta tbR;simp only[Zu,show(b == (nat_lit 3:Nat))=false from ZB.mpr z];rfl
   rw[this]at e;cases e
def k2_tb{P:Params}(a:∀t∈([nat_lit 137,nat_lit 355,nat_lit 367]:List Addr),h.get? t=!PySem.W.tabObj #[[]]):∀t q p,e_ (K2 P) t q p->h.get? t=!PySem.W.tabObj #[[]]/\TabsOk (K2 P) t:=λt q p z=>by
 have z:(fy (K2 P)).lookup t=!(q,p):=z;rw[tbs]at z;rw[Zu]at z;split at z
 .rename_i e;let e:=eq_of_beq e;subst e;exact#[a _ (by simp),by kernel_rfl,by decide,nat_lit 139,by kernel_rfl]
 rw[Zu]at z;split at z
 .rename_i e;let e:=eq_of_beq e;subst e;exact#[a _ (by simp),by kernel_rfl,by decide,nat_lit 359,by kernel_rfl]
 rw[Zu]at z;split at z
 .rename_i e;let e:=eq_of_beq e;subst e;exact#[a _ (by simp),by kernel_rfl,by decide,nat_lit 371,by kernel_rfl]
 cases z
def lkA(P:Params):rT.map (λr=>((K2 P).lookup (r.a+1),PySem.W.codeIn (K2 P) (.ref r.a) (qn r.i),PySem.W.keepIn (K2 P) (.ref (r.a+1))))=rT.map λr=>(!fO (qn r.i) (top r.i) (mdl r.m) r.a,true,true):=by kernel_rfl
def glA(P:Params):rT.map (λr=>if r.i<1000 then PySem.W.nsIn (K2 P) mainGlobals (gE (top r.i))else ())=rT.map λr=>if r.i<1000 then !!.ref (r.a+1)  else ():=by kernel_rfl
def bdA:∀r∈rT,LY (qn r.i) (top r.i) (mdl r.m) r.a:=by
 delta rT
 repeat' exact List.forall_mem_cons.2 #[?_,?_]
 all_goals first|exact List.forall_mem_nil _|((repeat intro _);show _=_;kernel_rfl)
def dfA{P:Params}(X:(K2 P).In h)(G:h.Ns mainGlobals mg)(i:Nat)(hi:(row i).isSome):Df (K2 P) (qn i) (top i) (fA i) (dA i)/\(i<1000->mg (gE (top i))=!.ref (fA i)):=by let#[r,e]:=Xe.mp hi;let m:=List.mem_of_find?_eq_some e;have q:r.i=i:=Zk.mp (List.find?_some (p:=λx:Rw=>x.i == i) (l:=rT) e);subst q;let a:=List.map_inj_left.mp (lkA P) r m;let b:=List.map_inj_left.mp (glA P) r m;simp only[Prod.mk.injEq]at a;delta fA dA;rw[e];exact#[Nv a.1 a.2.1 a.2.2 (bdA r m),λz=>?_];rw[Yk z,Yk z]at b;exact PySem.W.mg_of X G b
def all_mk{l:PySem.W.OpenLaw}{P:Params}{fa:Addr}(X:(K2 P).In h)(G:h.Ns mainGlobals mg)(hfa:mg "law"=!.ref fa):∃fd:FuncData,(∀(s:Shared) (v:Value),BindsTo s fd #[[v],[]] [("_law_script",v)])/\∀base:Heap,(K2 P).In base->base.Ns mainGlobals mg->FnOk l.prog w (K2 P) mg base CX0 20 fa fd ["_law_script"] (spLaw (K2 P)):=by
 let e:=hfa.symm.trans ((dfA X G 65 qx).2 (by decide));cases e;have T:Txt (K2 P) mg #[336,510,512,514,631,178,227,251,191]:=by
  constructor
  .exact dfA X G
  all_goals first
   |exact fnR (by kernel_rfl) (by kernel_rfl) (by kernel_rfl) (by kernel_rfl)
   |exact fnC (by kernel_rfl) (by kernel_rfl) (by kernel_rfl) (by kernel_rfl)
   |exact bdR (fnR (by kernel_rfl) (by kernel_rfl) (by kernel_rfl) (by kernel_rfl))
   |exact NM (fnR (by kernel_rfl) (by kernel_rfl) (by kernel_rfl) (by kernel_rfl))
   |exact bdC (fnC (by kernel_rfl) (by kernel_rfl) (by kernel_rfl) (by kernel_rfl)).d
   |exact N9 (fnC (by kernel_rfl) (by kernel_rfl) (by kernel_rfl) (by kernel_rfl)).d
   |exact PySem.W.mg_none_of X G (by kernel_rfl)
   |exact PySem.W.mg_of X G (by kernel_rfl)
   |(delta NoAttr;kernel_rfl)
   |exact KD.mk (by kernel_rfl) (by decide) (by kernel_rfl)
   |(constructor<;>kernel_rfl)
   |kernel_rfl
   |(intro k;cases k<;>constructor<;>kernel_rfl)
   |(intro k;cases k<;>first|exact Eq.trans (b:=!true) (by kernel_rfl) (by simp)|exact Eq.trans (b:=!false) (by kernel_rfl) (by simp)|kernel_rfl)
 exact#[_,λs v=>.of_eq qx,λbase z z=>(Lx T).imp (Bi (law_true _))]
end My
end
local macro_rules|`(command|open B)=>do
 let p:=`PySem.Challenge.cw_tieword_k19_turnings_counted_holds
 let f n:=Lean.mkIdent (.mkSimple s!"tw{Lean.Name.hash n}")
 let a:=[("o_","45 46 49 53 55 56 57 60 61 62 65 66 67 70 71 72 73 75 77 78 79 82 84 85 86 89 91 92 93 96 98 99 100 103 104 105 108 110 111 112 115 116 117 121 122 123 126 127 128 129 133 134 135 138 139 140 143 144 145 146 150 153 154 157 159 160 161 164 166 167 168 171 173 174 175 178 179 180 183 185 186 187 190 192 193 194 195 196 197 198 199 200 201 202 206 207 208 209 210 211 213 216 217 218 219 220 221 222 223 224 226 229 232 233 234 235 236 237 238 239 241 242 244 247 248 250 251 252 253 254 256 258 259 262 263 265 266 267 268 269 271 273 274 275 277 278 280 281 282 283 284 286 289 292 293 294 295 296 297 298 299 301 303 304 307 308 310 311 312 313 316 317 318 321 322 323 324 325 328 330 331 332 335 337 338 339 342 344 345 346 347 351 353 354 355 356 358 360 361 362 365 368 369 372 373 374 377 379 380 381 382 384 385 386 387 388 391 392 393 394 395 396 397 398 399 400 401 402 403 407 408 409 410 411 412 414 415 416 417 420 421 422 423 424 427 428 429 432 433 434 435 436 439 441 442 443 446 448 449 450 453 455 456 457 460 461 462 463 464 467 469 470 471 474 476 477 478 481 482 483 486 487 488 489 493 494 495 498 500 501 502 505 506 507 510 512 513 514 517 518 519 520 521 524 526 527 528 531 533 534 535 538 539 540"),("tree_","47 128 145 201 223 238 253 268 283 298 346 402 488 540"),("heap_","46 541"),("sts_","49 129 146 202 224 239 254 269 284 299 347 403 489"),("view_","39")].toArray.flatMap λ(s,l)=>(l.splitOn.map λi=>f (p.str (s++i))).toArray
 `(command|structure $(Lean.mkIdent `PySem.W.Fast):ident:Prop where ($(f `PySem.Challenge.pw_tieword_k19_turnings_counted):ident $a*:True))
open B
open PySem PySem.W PyProof.Rows
set_option maxRecDepth 100000 in
set_option maxHeartbeats 0 in
theorem PySem.Challenge.cw_tieword_k19_turnings_counted_holds : PySem.Challenge.rw_tieword_k19_turnings_counted.Holds := by
  w_on; o_law; o_head (PySem.W.kmHook My.KK [3,82,86,87,156,157,177,178,191,214,215,227,238,239,251,335,336,353,359,360,25,26,30,31,35,36,42,43,49,50,56,57,63,64,68,69,75,76,80,81,91,92,96,97,101,102,106,107,120,121,127,128,134,135,139,140,146,147,153,154,167,168,257,258,264,265,271,272,278,279,285,286,292,293,299,300,311,312,318,319,325,326,346,347,351,352,364,365,371,372,378,379,385,386,392,393,399,400,406,407,413,414,418,419,423,424,428,429,435,436,440,441,447,448,454,455,461,462,468,469,473,474] (λy=>by kernel_rfl) [137,355,367]); (case hw=>w_witness2)
  k_fill
  exact L2.walk_ofK (l:=PySem.Challenge.rw_tieword_k19_turnings_counted) (n:=63) (k:=20) (x := "_law_script") (K:=My.K2) (CX:=L2.CX0) (sp:=My.spLaw) qx (by decide) qx #[qx,by decide,by decide] (λw h Y=>#[My.k2_in (PySem.W.km_in_of Y),My.k2_tb (PySem.W.km_tabs_of Y)]) ?F (λK H a ns hl hS=>#[a,ns,qx,hS,hl,λy=>rfl]) λy y y y z=>z
  case F=>
    intro w mg fa h KX G hmg
    exact My.all_mk KX G hmg
