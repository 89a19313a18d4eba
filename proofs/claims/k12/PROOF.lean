import PyProof.Rows.All
import Wide.All
import OpenK.AllK
import Wide.FinOn
import Lean
import PyProof.EqAt
import PyProof.EqKinds
import PyProof.TupleCall
import PyProof.ReprStr
import PyProof.Rows.FStr
import PyProof.Rows.SetFrom
import PyProof.EnumFor
import PyProof.EnumMake
import PyProof.ZipIter
import KE.KRevIter
import PyProof.ListRange
import PyProof.FactsAll.range_iterator_1
import PyProof.Rows.MinMaxN
import PyProof.StrOps2
import PySem.SetOps
import PyProof.SetScanFacts
import PyProof.SetRoads
import PyProof.CollectWalk
import PyProof.Rows.SortShell
import PyProof.Rows.TupDisplay
import KE.KDictList
import PySem.Challenge.RW_tieword_k12_a_search_walked
set_option Elab.async false
set_option linter.all false
set_option maxRecDepth 100000
set_option compiler.extract_closed false
set_option bootstrap.genMatcherCode false
set_option genSizeOf false
set_option genSizeOfSpec false
set_option tactic.hygienic false
set_option hygiene false
noncomputable section
local macro_rules|`(!$x)=>`(some $x)
local macro_rules|`(#[$x,*])=>`(⟨$x,*⟩)
local macro_rules|`(tactic|let#[$x,*]:=$e)=>do{let rec g(n:Nat)(t:Lean.Term):Lean.MacroM (Lean.TSyntax `rcasesPat):=match n with|0=>Lean.Macro.throwUnsupported|n+1=>match t with|`(#[$y,*])=>do{let z<-y.getElems.mapM λw=>do{let v<-g n w;`(Lean.Parser.Tactic.rcasesPatLo|$v:rcasesPat)};`(rcasesPat|⟨$z,*⟩)}|`(_)=>`(rcasesPat|_)|`($i:ident)=>`(rcasesPat|$i:ident)|_=>Lean.Macro.throwUnsupported;let p<-g 9 (<-`(#[$x,*]));`(tactic|obtain $p:rcasesPat:=$e)}
local macro_rules|`(tactic|let $x:ident:=$e)=>`(tactic|have $x:ident:=$e)
local macro_rules|`(command|open A in $c)=>`(command|set_option tactic.hygienic true in $c)
local macro_rules|`(tactic|trivial)=>`(tactic|first|exact .inl rfl|(apply Or.inr;trivial))
local macro_rules|`(tactic|exact $e)=>`(tactic|refine $e)
local macro_rules|`(tactic|let#[$x,*]:=$e)=>do
 let mut a:=x.getElems
 let mut s:=Array.empty
 for i in [:a.size] do
  if a[i]!.raw.getId==`rfl then
   let z:=Lean.mkIdent (.mkSimple s!"{i}h")
   a:=a.set! i z
   s:=s.push z
 if a.any λy=>not (y.raw.isIdent||y.raw.isOfKind ``Lean.Parser.Term.hole) then Lean.Macro.throwUnsupported
 let b:=x.getElems[1:].toArray
 let mut v:=Array.empty
 let mut r<-`(hz9)
 for _ in b do
  v:=v.push (<-`($r.1))
  r<-`($r.2)
 let c<-if e.raw.isIdent then `(tacticSeq|try clear $(Lean.mkIdent e.raw.getId):ident) else `(tacticSeq|skip)
 let y:=a[0]!
 let d<-if x.getElems[0]!.raw.getId==`rfl then `(tacticSeq|subst $y) else `(tacticSeq|skip)
 let o<-if b.size<2 then `(tacticSeq|fail) else `(tacticSeq|first|have hz9:_/\_:=$e;($c);refine(λ$y:term gz9=>?_) hz9.1 hz9.2;clear hz9;($d);let#[$b,*]:=gz9|refine Exists.elim $e ?_;($c);intro $y:term gz9;($d);let#[$b,*]:=gz9)
 `(tactic|first|have hz9:_/\_:=$e;($c);refine(λ$a:term*=>?_) $(v.push r)*;clear hz9;subst $s*|$o)
local macro_rules|`(tactic|delta $x*$[$l]?)=>`(tactic|unfold $x*$[$l]?)
def qx:=@rfl
local macro_rules|`(tactic|ext)=>do
 let f(s:String):=(s.splitOn.map λx=>Lean.mkIdent x.toName).toArray
 let a:=f "ae ay aq aL cJ db iE yg"
 let b:=f "aw aJ a_ pv b5 pgI"
 let c:=f "aW bN ir fW"
 let d:=f "aP aa aN bv aT bS lM mw uq t4 nD iR eM qu"
 let e:=f "ai aR gh e9 bW vF vQ PDW.t cw sZ cC"
 let g:=f "bn jy"
 let i:=f "eO gu lY vM kY"
 let j:=f "PDE.r PDE.n PDO.v"
 `(tactic|first $[|exact $a]* $[|exact $b _]* $[|refine $c _ ?_<;>ext]* |(apply af;ext;ext;rfl)$[|refine $d ?_ ?_<;>ext]* $[|refine $e ?_<;>ext]* $[|refine $g ?_ ?_ ?_<;>ext]* |(refine bH _ ?_ ?_<;>ext)|(apply aS;ext;decide)|(refine cD rfl T.b_len ?_<;>ext)|(apply bp;ext;decide)|(refine aX rfl T.b_range ?_<;>ext)|(refine gq rfl T.b_list ?_<;>ext)|(refine f9 rfl T.b_tuple ?_<;>ext)|(refine gc h.h64 rfl T.b_sorted ?_<;>ext)$[|refine $i h.h64 ?_ ?_<;>ext]* $[|refine $j ?_<;>ext]* |(intro _ _ _ _;ext))
local macro_rules|`(())=>`(none)
section
local macro_rules(kind:=Lean.Parser.Command.declaration)|x=>do
 let d:=x[1].isOfKind ``Lean.Parser.Command.definition
 if x[1][0].getPos?.isNone||not x[0][1].isNone||not d&&not (x[1].isOfKind ``Lean.Parser.Command.theorem) then Lean.Macro.throwUnsupported
 let y:=x.setArg 1 (x[1].setArg 0 (Lean.mkAtom x[1][0].getAtomVal))
 return if d then y.setArg 0 (x[0].setArg 4 (Lean.mkNullNode #[[Lean.mkNode ``Lean.Parser.Command.noncomputable #[[Lean.mkAtom ""]]]])) else y
namespace L2
def Ya:=@List.length_map
def Yb:=@Option.bind_some
def Yc:=@PySem.wpAny_bind
def Yd:=@List.mem_cons_of_mem
def Ye:=@List.mem_cons_self
def Yf:=@PySem.Heap.get?_push_of_some
def Yg:=@List.mem_map
def Yh:=@List.all_eq_true
def Yi:=@List.getElem?_eq_getElem
def Yj:=@PySem.wpAny_pure
def Yk:=@Bool.false_ne_true
def Yl:=@if_pos
def Ym:=@List.getElem?_eq_some_iff
def Yn:=@if_neg
def Yo:=@List.length_append
def Yp:=@Nat.le_refl
def Yq:=@PySem.Heap.get?_push_size
def Yr:=@Bool.and_eq_true
def Ys:=@List.mem_cons
def Yt:=@List.getElem?_map
def Yu:=@List.mem_singleton
def Yv:=@List.length_cons
def Yw:=@PySem.Heap.lt_size
def Yx:=@Nat.lt_of_lt_of_le
def Yy:=@List.size_toArray
def Yz:=@Nat.ne_of_lt
def YA:=@Nat.le_trans
def YB:=@decide_eq_false
def YC:=@List.mem_append_right
def YD:=@List.map_map
def YE:=@of_decide_eq_true
def YF:=@List.map_cons
def YG:=@Option.some.inj
def YH:=@List.mem_append_left
def YI:=@decide_eq_true
def YJ:=@List.mem_singleton_self
def YK:=@Option.bind_eq_some_iff
def YL:=@List.mem_filter
def YM:=@List.length_singleton
def YN:=@Nat.zero_le
def YO:=@List.mem_append
def YQ:=@decide_eq_true_eq
def YR:=@List.mem_of_getElem?
def YS:=@List.length_replicate
def YT:=@PySem.sizeLine_eq
def YU:=@congrArg
def YV:=@List.length_nil
def YW:=@List.map_append
def YX:=@List.nodup_cons
def YY:=@List.map_congr_left
def YZ:=@List.getD_eq_getElem?_getD
def Za:=@Classical.byContradiction
def Zb:=@PySem.F.plainAttrs_list
def Zc:=@List.append_nil
def Zd:=@Option.map_eq_some_iff
def Ze:=@Nat.lt_irrefl
def Zf:=@List.mem_range
def Zg:=@List.length_set
def Zh:=@List.append_assoc
def Zi:=@List.pairwise_cons
def Zj:=@Int.toNat_natCast
def Zk:=@Nat.zero_add
def Zl:=@List.getElem?_set_ne
def Zm:=@List.getElem?_eq_none
def Zn:=@PySem.wpAny_setState_of
def Zo:=@Int.emod_lt_of_pos
def Zp:=@Array.getD_eq_getD_getElem?
def Zq:=@List.length_eq_zero_iff
def Zr:=@Array.length_toList
def Zs:=@List.length_range
def Zt:=@Nat.le_of_lt_succ
def Zu:=@List.getElem?_append_right
def Zv:=@PySem.mem_of_lookup
def Zw:=@List.getElem_of_mem
def Zx:=@List.lookup_cons
def Zy:=@Option.map_some
def Zz:=@Int.emod_nonneg
def ZA:=@List.getElem?_append_left
def ZB:=@beq_eq_false_iff_ne
def ZC:=@Array.getElem?_toList
def ZD:=@Nat.le_antisymm
def ZE:=@PySem.wpAny_truthy_bool
def ZF:=@List.nodup_append
def ZG:=@Nat.le_of_lt
def ZH:=@Nat.lt_of_le_of_ne
def ZI:=@Nat.lt_of_le_of_lt
def ZJ:=@List.getElem?_set_self
def ZK:=@List.drop_eq_getElem_cons
def ZL:=@Nat.le_add_left
def ZM:=@PySem.codeAny_builtin
def ZN:=@PySem.F.slot_list_append
def ZO:=@Nat.lt_succ_of_lt
def ZP:=@Nat.le_succ
def ZQ:=@Bool.false_eq_true
def ZR:=@PySem.wpAny_mono
def ZS:=@Nat.lt_succ_self
def ZT:=@List.length_take
def ZU:=@Nat.lt_trans
def ZV:=@Nat.le_of_not_lt
def ZW:=@List.take_length
def ZX:=@List.drop_eq_nil_of_le
def ZY:=@PySem.Heap.get?_update_ne
def ZZ:=@List.pairwise_map
def Xa:=@PySem.wpAny_holding
def Xb:=@Nat.le_of_eq
def Xc:=@List.find?_cons
def Xd:=@Option.isSome_iff_exists
def Xe:=@PySem.F.type_list_append
def Xf:=@List.getElem_mem
def Xg:=@List.mem_flatMap
def Xh:=@PySem.Around.under_plainId
def Xi:=@List.all_cons
def Xj:=@decide_eq_false_iff_not
def Xk:=@Int.eq_ofNat_of_zero_le
def Xl:=@Nat.ne_of_gt
def Xm:=@PySem.Heap.size_push
def Xn:=@List.ext_getElem?
def Xo:=@PyProof.Rows.callWith_type1
def Xp:=@List.getElem?_range
def Xq:=@PySem.F.slot_dict_keyiterator_next
def Xr:=@PySem.wpAny_call_entry
def Xs:=@List.not_mem_nil
def Xt:=@PySem.wpAny_Call_Name_kw
def Xu:=@PySem.Heap.get?_update_self
def Xv:=@List.getElem?_eq_none_iff
def Xw:=@PySem.wpAny_setField
def Xx:=@Nat.le_sub_one_of_lt
def Xy:=@PySem.wpAny_passesOwn
def Xz:=@PySem.wpAny_newObj_type
def XA:=@List.foldl_cons
def XB:=@PySem.codeAny_mono
def XC:=@Int.le_trans
def XD:=@List.filterMap_cons
def XE:=@Ne.symm
def XF:=@List.getElem?_replicate
def XG:=@List.any_cons
def XH:=@List.map_id
def XI:=@Int.toNat_of_nonneg
def XJ:=@List.length_drop
def XL:=@beq_self_eq_true
def XM:=@PySem.wpAny_typeNameOfWhole_keyiter
def XN:=@PySem.W.cellsFrom_some
def XO:=@List.mem_filterMap
def XQ:=@PySem.Calls.spliced_cons
def XR:=@List.zip_cons_cons
def XS:=@PySem.wpAny_specialOf
def XT:=@Nat.min_le_left
def XU:=@Bool.or_false
def XV:=@if_false
def XW:=@Nat.le_of_succ_le
def XX:=@PySem.Heap.get?_push_ne
def XY:=@List.perm_append_singleton
def XZ:=@List.perm_ext_iff_of_nodup
def Va:=@Bool.false_and
def Vb:=@List.pairwise_iff_getElem
def Vc:=@List.Perm.refl
def Vd:=@Array.getElem?_eq_getElem
def Ve:=@PySem.wpAny_forIn_list
def Vf:=@Nat.le_add_right
def Vg:=@PySem.wpAny_isInstance
def Vh:=@Nat.add_sub_cancel'
def Vi:=@List.map_eq_nil_iff
def Vj:=@List.mem_map_of_mem
def Vk:=@beq_iff_eq
def Vl:=@PySem.F.slot_list_clear
def Vm:=@PySem.tupleKind_room_in1
def Vn:=@Bool.true_and
def Vo:=@Nat.lt_add_of_pos_right
def Vp:=@Nat.add_right_comm
def Vq:=@PySem.Code.quiet_builtin
def Vr:=@PySem.PassesOwn.never
def Vs:=@PySem.Obj.data_mapFields
def Vt:=@List.eraseIdx_cons_succ
def Vu:=@PySem.Calls.callWith_builtin
def Vv:=@PySem.SeqAt.eqAt_reads
def Vw:=@List.pairwise_lt_range
def Vx:=@PySem.wpAny_pyIter_list
def Vy:=@PySem.call_meets
def Vz:=@PySem.wpAny_storeSet_of
def VA:=@Bool.and_false
def VB:=@List.drop_zero
def VC:=@List.take_take
def VE:=@PySem.F.slot_dict_get
def VF:=@Nat.succ_pos
def VG:=@List.getElem?_toArray
def VH:=@List.take_append_drop
def VI:=@List.all_map
def VJ:=@Nat.succ_le_succ
def VL:=@Array.toList_inj
def VM:=@PySem.Heap.size_update
def VN:=@List.pairwise_append
def VO:=@PySem.Paired.length
def VP:=@PySem.plainId_quiet
def VQ:=@PySem.wpAny_execs_nil
def VR:=@PySem.W.plainGet_of
def VS:=@List.of_mem_zip
def VT:=@if_true
def VU:=@PySem.pushCells_keeps
def VV:=@Bool.eq_iff_iff
def VW:=@PySem.wpAny_loadPart'
def VX:=@Array.toList_append
def VY:=@List.Perm.of_eq
def VZ:=@PySem.wpAny_ite_split
def Ua:=@List.nil_append
def Ub:=@List.filter_sublist
def Uc:=@PySem.W.callWith_K
def Ud:=@List.zip_nil_right
def Ue:=@Nat.succ.inj
def Uf:=@or_false
def Ug:=@List.map_filterMap
def Uh:=@Int.lt_of_le_of_lt
def Ui:=@Nat.mul_le_mul
def Uj:=@PySem.wpAny_call
def Uk:=@List.zip_nil_left
def Ul:=@Int.lt_trichotomy
def Um:=@Array.size_append
def Uo:=@List.foldl_append
def Up:=@List.take_add_one
def Uq:=@List.filter_congr
def Ur:=@Sum.inl.inj
def Us:=@Int.le_refl
def Ut:=@Nat.sub_lt
def Uu:=@Nat.mod_lt
open PySem PySem.Spec PyProof.Rows
abbrev Kq:=W.Frag
abbrev Kv:=Value->Shared->Prop
abbrev Kp:=List<|Addr×Obj
abbrev Ks:=Str->Option Value
abbrev Ka:=Array<|Int×Value
abbrev Kb:=Bool->Shared->Prop
abbrev Ko:=Option Value->Shared->Prop
abbrev Kl:=List Value->Shared->Prop
abbrev Kr:=Result->Shared->Prop
abbrev Key:=Sum Int Str
def k4:Key->Value->Bool
 |.inl k,v=>Value.isInt k v
 |.inr x,v=>Value.isStrOf x v
def Mw(w:World):Key->Int
 |.inl k=>hashInt k
 |.inr x=>hashStr w x
def cA:∀{k}{v},k4 k v->(∃i t,k=Sum.inl i/\v=Value.int i t)\/(∃x t,k=Sum.inr x/\v=Value.str x t)
 |.inl i,v,h=>by
  let#[t,e]:=Value.isInt_shape h;exact .inl #[i,t,qx,e]
 |.inr x,v,h=>by
  let#[t,e]:=Value.isStrOf_shape h;exact .inr #[x,t,qx,e]
def Ab i t:k4 (.inl i) (.int i t):=by simp[k4,Value.isInt]
def AO x t:k4 (.inr x) (.str x t):=by simp[k4,Value.isStrOf]
theorem ID a b:decide ((Sum.inl a:Key)=Sum.inl b)=(a == b):=by grind
def HR a b:decide ((Sum.inr a:Key)=Sum.inr b)=decide (a=b):=by simp
def JE a b:decide ((Sum.inl a:Key)=Sum.inr b)=false:=YB λq=>nomatch q
def JS a b:decide ((Sum.inr a:Key)=Sum.inl b)=false:=YB λq=>nomatch q
def a8 prog w:KeyKind prog w Key where
 is:=k4
 hash:=Mw w
 inj:=λv a b l f=>by
  rcases cA l with⟨i,t,rfl,rfl⟩|⟨x,t,rfl,rfl⟩
  .rcases cA f with⟨j,u,rfl,e⟩|⟨y,u,rfl,e⟩
   .injection e with e1 _;rw[e1]
   .exact nomatch e
  .rcases cA f with⟨j,u,rfl,e⟩|⟨y,u,rfl,e⟩
   .exact nomatch e
   .injection e with e1 _;rw[e1]
 byValue:=λk v h=>by
  rcases cA h with⟨i,t,rfl,rfl⟩|⟨x,t,rfl,rfl⟩<;>rfl
 pyHash:=λc h=>by
  rcases cA c with⟨i,t,rfl,rfl⟩|⟨x,t,rfl,rfl⟩
  .exact wpAny_pyHash_int h
  .exact wpAny_pyHash_str h
 eqBool:=λg c h=>by
  rcases cA g with⟨i,t,rfl,rfl⟩|⟨x,t,rfl,rfl⟩
  .rcases cA c with⟨j,u,rfl,rfl⟩|⟨y,u,rfl,rfl⟩
   .rw[ID]at h;exact wpAny_eqBool_int h
   .rw[JE]at h;exact SeqAt.EqAt.int_str i t y u _ _ _ _ h
  .rcases cA c with⟨j,u,rfl,rfl⟩|⟨y,u,rfl,rfl⟩
   .rw[JS]at h;exact SeqAt.EqAt.str_int x t j u _ _ _ _ h
   .rw[HR]at h;exact wpAny_eqBool_str h
 «strs»:=λk x t v h=>by
  rcases cA h with⟨i,u,rfl,e⟩|⟨y,u,rfl,e⟩
  .exact nomatch e
  .injection e with e1 _;subst e1;cases v<;>rfl
def v_ prog w i t:(a8 prog w).is (.inl i) (.int i t):=Ab i t
def vY prog w x t:(a8 prog w).is (.inr x) (.str x t):=AO x t
inductive V where
 |non|bl (b:Bool)|int (i:Int)|str (x:Str)|byt (b:Array UInt8)|flt (b:UInt64)|ref (a:Addr)|ty (n:String)
def RelV:V->Value->Prop
 |.non,u=>u=Value.none
 |.bl b,u=>u=Value.bool b
 |.int i,u=>∃t,u=Value.int i t
 |.str x,u=>∃t,u=Value.str x t
 |.byt b,u=>∃t,u=Value.bytes b t
 |.flt b,u=>∃t,u=Value.float b t
 |.ref a,u=>u=Value.ref a
 |.ty n,u=>u=Value.type n
abbrev Vals:List V->List Value->Prop:=Paired RelV
def Vals.length(r:Vals xs us):xs.length=us.length:=VO r
theorem Vals.get:∀{xs}{us}{i:Nat}{x},Vals xs us->xs[i]?=!x->∃u,us[i]?=!u/\RelV x u
 |_,_,_,_,.nil,e=>by simp at e
 |_,_,0,_,.cons r _,e=>by simp at e;subst e;exact#[_,qx,r]
 |_,_,i+1,x,.cons _ t,e=>by
  let#[u,a,h]:=Vals.get (i:=i) (x:=x) t (by simpa using e);exact#[u,by simpa using a,h]
def Vals.append(h:Vals xs us)(s:Vals ys w):Vals (xs++ys) (us++w):=by
 induction h with
 |nil=>exact s
 |cons r _ ih=>exact .cons r ih
theorem Vals.take:∀{xs}{us} n,Vals xs us->Vals (xs.take n) (us.take n)
 |_,_,0,_=>.nil
 |_,_,_+1,.nil=>.nil
 |_,_,n+1,.cons r t=>.cons r<|Vals.take n t
theorem Vals.drop:∀{xs}{us} n,Vals xs us->Vals (xs.drop n) (us.drop n)
 |_,_,0,r=>r
 |_,_,_+1,.nil=>.nil
 |_,_,n+1,.cons _ t=>Vals.drop n t
def RelO:Option V->Option Value->Prop
 |some v,!u=>RelV v u
 |none,()=>True
 |_,_=>False
def KV:List (κ×V)->List (κ×Value)->Prop:=Paired λp q=>p.1=q.1/\RelV p.2 q.2
def kV:Key->V
 |.inl i=>.int i
 |.inr x=>.str x
inductive HO where
 /-- a list -/
 |lst (xs:List V)
 /-- a tuple (never changes) -/
 |tup (xs:List V)
 /-- a dict whose keys are ints and texts;one whose keys are tuples of ints and texts (the empty one is both) -/
 |dK (kvs:List (Key×V))|dT (kvs:List (List Key×V))
 /-- a set of ints: its members,its size -/
 |set (S:Int->Bool) (n:Nat)
 /-- an instance of the class at C,its dict at dx,its attributes -/
 |ins (C dx:Addr) (fs:List (Str×V))
 /-- the dict of the instance at x -/
 |own (x:Addr)
 /-- the dict of an exception -/
 |xd (fs:List (Str×V))
 /-- a bound method,f of x -/
 |met (f x:Addr)
 /-- a range object lo,lo+1,.. below hi -/
 |rng (lo hi:Int)
 /-- a thing that is known to the object (the script;a dict while a loop walks it): read,never written while it is so -/
 |frz (o:Obj) (u:HO)
 /-- a code object's table -/
 |tbl (q:Str) (pos:Pos)
 /-- any other thing,by what is true of its one object (a def of one's own: SetO a S n:=HO.ext λh=>..) -/
 |ext (φ:Heap->Prop)
abbrev Hp:=Addr->Option HO
def HO.stl:HO->Bool
 |.tup _=>true
 |.frz _ _=>true
 |.tbl _ _=>true
 |_=>false
def By(o:Obj)(q:Str):Prop:=∃a t,o.data=.fields a/\a[1]?=!.str q t
def LU(o:Obj):Option (Addr×Str×Pos):=match o with
 |#[.str q t,(),.fields #[[.int a _,.int b _,.int c _,.int d _]],_]=>!(t,q,#[a.toNat,b.toNat,c.toNat,d.toNat])
 |_=>()
def fN(K:Kq):List (Addr×Str×Pos):=K.filterMap λp=>LU p.2
def gt(K:Kq)(t:Addr)(q:Str)(p:Pos):Prop:=(fN K).lookup t=!(q,p)
def upd(H:Hp)(a:Addr)(o:HO):Hp:=λb=>if b=a then !o else H b
def aD:upd H a o a=!o:=by delta upd;rw[Yl qx]
def az(h:b≠a):upd H a o b=H b:=by delta upd;rw[Yn h]
def Lm{H:Hp}(h:H a=!o)(h':H b=!u)(d:o≠u):a≠b:=by intro e;subst e;rw[h]at h';exact d<|YG h'
def bc{H:Hp}(h:H a=!o)(h':H b=()):a≠b:=by intro e;subst e;rw[h]at h';cases h'
def NoD(h:Heap)(a:Addr):Prop:=∃o,h.get? a=!o/\o.dict=()
def NoD.new(h:Heap)items:NoD (h.push {cls:=.type "tuple",data:=.seq items}) h.objs.size:=#[_,Yq _ qx,qx]
section
variable(P:Program) (w:World)
def ObjOk(H:Hp)(h:Heap)(a:Addr):HO->Prop
 |.lst b=>b.length<=sizeLine/\∃(i:List Value) (n:Nat),Vals b i/\h.get? a=some {cls:=.type "list",data:=.seq i.toArray n}
 |.tup b=>b.length<=sizeLine/\∃i:List Value,Vals b i/\IsTup h a i.toArray/\NoD h a
 |.dK kvs=>kvs.length<=sizeLine/\(a == sysModules)=false/\∃g,KV kvs g/\h.DictOf (a8 P w) a g
 |.dT kvs=>kvs.length<=sizeLine/\(a == sysModules)=false/\∃b:List _,
   Paired (λp q=>p.1=q.1/\H q.2.1=!.tup (p.1.map kV)/\RelV p.2 q.2.2) kvs b /\
   ∃o s y,h.get? a=!o/\o.ExactDict/\o.data=.dict s y/\s.toList=b.map (entryOfKey<|tupleKind<|a8 P w)/\(b.map (·.1)).Nodup
 |.set S n=>h.SetOf (intKind P w) a S n
 |.ins C dx fs=>H dx=!.own a/\fs.length<=1000/\dx≠a/\h.get? a=!PySem.W.instObj C dx /\
   ∃m,h.Ns1 dx m/\(∀f,RelO (fs.lookup f)<|m f)/\Within m (fs.map (·.1))
 |.own _=>∃o,h.get? a=!o
 |.xd fs=>∃m,h.Ns1 a m/\∀f,RelO (fs.lookup f)<|m f
 |.rng lo hi=>∃t u v,h.get? a=some {cls:=.type "range",data:=.fields #[[.int lo t,.int hi u,.int 1 v]]}
 |.frz o u=>h.get? a=!o/\ObjOk H h a u
 |.tbl q pos=>∃e,h.get? a=!PySem.W.tabObj e/\TriplesOk e.toList/\(codeAmong pos e.toList=()\/∃c o u,codeAmong pos e.toList=!.ref c/\H c=!.frz o u/\By o q)
 |.met f x=>h.get? a=!PySem.W.methodObj (.ref f) (.ref x)
 |.ext φ=>φ h/\(∃o,h.get? a=!o)/\∀l j:Heap,φ l->(∀o,l.get? a=!o->j.get? a=!o)->φ j
def HOk(H:Hp)(h:Heap):Prop:=∀a o,H a=!o->ObjOk P w H h a o
end
section
variable{P:Program}{w:World}{H H':Hp}{h h':Heap}{a:Addr}{o:HO}
def ObjOk.lt(x:ObjOk P w H h a o):a<h.objs.size:=by
 cases o with
 |lst xs=>let#[_,_,_,_,e]:=x;exact Yw e
 |tup xs=>let#[_,_,_,p,_]:=x;exact p.lt
 |dK kvs=>let#[_,_,_,_,o,_,_,e,_]:=x;exact Yw e
 |dT kvs=>let#[_,_,_,_,o,_,_,e,_]:=x;exact Yw e
 |set S n=>let#[o,_,_,_,e,_]:=x;exact Yw e
 |ins C dx fs=>let#[_,_,_,e,_]:=x;exact Yw e
 |own y=>let#[_,e]:=x;exact Yw e
 |xd fs=>let#[_,#[_,_,_,e,_],_]:=x;exact Yw e
 |rng lo hi=>let#[_,_,_,e]:=x;exact Yw e
 |frz ob u=>let#[e,_]:=x;exact Yw e
 |tbl q p=>let#[_,e,_]:=x;exact Yw e
 |met f y=>exact Yw<|show h.get? a=!_ from x
 |ext φ=>let#[_,#[_,e],_]:=x;exact Yw e
def Paired.mapP{l₁:List e}{l}(h:Paired F l₁ l)(f:∀a b,F a b->G a b):Paired G l₁ l:=by
 induction h with
 |nil=>exact .nil
 |cons r _ ih=>exact .cons (f _ _ r) ih
def ObjOk.stay(x:ObjOk P w H h a o)(k:∀b u,(b=a\/H b=!.own a)->h.get? b=!u->h'.get? b=!u)(O:∀b,H b=!.own a->H' b=!.own a)(K:∀b u,u.stl->H b=!u->H' b=!u):ObjOk P w H' h' a o:=by
 induction o with
 |lst m=>let#[z,l,n,r,e]:=x;exact#[z,l,n,r,k _ _ (.inl qx) e]
 |tup m=>let#[z,l,r,#[g,e,c],A,E,I]:=x;exact#[z,l,r,#[g,k _ _ (.inl qx) e,c],A,k _ _ (.inl qx) E,I]
 |dK kvs=>let#[z,y,L,r,g,i,j,e,c]:=x;exact#[z,y,L,r,g,i,j,k _ _ (.inl qx) e,c]
 |dT kvs=>
  let#[z,y,m,r,g,i,j,e,c]:=x;exact#[z,y,m,Paired.mapP r λp q z=>#[z.1,K _ _ qx z.2.1,z.2.2],g,i,j,k _ _ (.inl qx) e,c]
 |set S n=>let#[g,i,j,t,e,c]:=x;exact#[g,i,j,t,k _ _ (.inl qx) e,c]
 |ins C dx fs=>
  let#[d,z,N,e,B,#[s,i,j,E,c],r]:=x;exact#[O _ d,z,N,k _ _ (.inl qx) e,B,#[s,i,j,k _ _ (.inr d) E,c],r]
 |own y=>let#[g,e]:=x;exact#[g,k _ _ (.inl qx) e]
 |xd fs=>let#[B,#[s,i,j,e,c],r]:=x;exact#[B,#[s,i,j,k _ _ (.inl qx) e,c],r]
 |rng lo hi=>let#[t,u,v,e]:=x;exact#[t,u,v,k _ _ (.inl qx) e]
 |frz g u ih=>let#[e,q]:=x;exact#[k _ _ (.inl qx) e,ih q]
 |tbl q p=>
  let#[M,e,z,c]:=x;exact#[M,k _ _ (.inl qx) e,z,c.imp id λ#[c,o,u,R,I,Q]=>#[c,o,u,R,K _ _ qx I,Q]]
 |met f y=>
  let e:=x;exact k a _ (.inl qx) e
 |ext φ=>let#[p,#[o,e],J]:=x;exact#[J _ _ p λo q=>k _ _ (.inl qx) q,#[o,k _ _ (.inl qx) e],J]
def HOk.lt(x:HOk P w H h)(e:H a=!o):a<h.objs.size:=(x a o e).lt
def HOk.fresh(x:HOk P w H h)(e:h.objs.size<=a):H a=():=by
 cases q:H a with
 |none=>rfl
 |some u=>exact absurd (Yx (x.lt q) e)<|Ze _
def HOk.kept(x:HOk P w H h)(k:∀b u,h.get? b=!u->h'.get? b=!u):HOk P w H h':=λa o e=>
 (x a o e).stay (λb u _ q=>k b u q) (λ_ q=>q) λ_ _ _ q=>q
def HOk.laid(x:HOk P w H h)(k:∀b u,h.get? b=!u->h'.get? b=!u)(i:h.objs.size<=a)(new:ObjOk P w (upd H a o) h' a o):HOk P w (upd H a o) h':=λb u e=>by
 let f:=x.fresh i;by_cases g:b=a
 .subst g;rw[aD]at e;cases e;exact new
 .rw[az g]at e;exact(x b u e).stay (λc v z q=>k c v q) (λc q=>by rwa[az<|bc q f]) λc u z q=>by rwa[az<|bc q f]
end
def Rd(H:Hp)(a:Addr)(u:HO):Prop:=H a=!u\/∃o,H a=!.frz o u
def Rd.ok(r:Rd H a u)(x:HOk P w H h):ObjOk P w H h a u:=by
 rcases r with r|⟨o,r⟩
 .exact x a u r
 .let#[_,q]:=x a _ r;exact q
def Mut:Option HO->Prop
 |some (.lst _)=>True
 |some (.dK _)=>True
 |some (.dT _)=>True
 |some (.set _ _)=>True
 |some (.ins _ _ _)=>True
 |some (.ext _)=>True
 |_=>False
section
variable{P:Program}{w:World}{H:Hp}{h h':Heap}{x e:Addr}{o':HO}
theorem HOk.write(ok:HOk P w H h)(m:Mut (H x))(he:e=x\/H e=!.own x)(k:∀b u,b≠e->h.get? b=!u->h'.get? b=!u)(j:∃u,h'.get? e=!u)(new:ObjOk P w (upd H x o') h' x o'):HOk P w (upd H x o') h':=λb u q=>by
 have f:∀c y,H c=!.own y->c≠x:=λc y r z=>by subst z;rwa[r]at m
 have g:∀c u,u.stl->H c=!u->c≠x:=λc u s r z=>by subst z;rw[r]at m;cases u<;>first|exact m|cases s
 by_cases i:b=x
 .subst i;rw[aD]at q;cases q;exact new
 .rw[az i]at q;by_cases a:b=e
  .have l:H b=!.own x:=by
    rcases he with z|z
    .exact absurd (a.trans z) i
    .rwa[a]
   rw[q]at l;cases l;let#[v,o]:=j;exact#[v,by rwa[a]]
  .exact(ok b u q).stay (λc v hc r=>k c v ?_ r) (λc r=>by rwa[az<|f c b r]) λc u s r=>by rwa[az<|g c u s r]
   rcases hc with rfl|hc
   .exact a
   .rintro rfl;grind
end
structure Un (fs ex:List Addr) (H H':Hp) (h h':Heap):Prop where
 keep:∀b o,h.get? b=!o->H b=none->b∉fs->b∉ex->h'.get? b=!o
 slot:∀b o,h.get? b=!o->H b=none->b∈fs->b∉ex->∃sl,h'.get? b=some {o with slots:=sl}
 free:∀b o,h.get? b=!o->H b=none->b∉ex->H' b=none
 there:∀b o,h.get? b=!o->b∉ex->∃o',h'.get? b=!o'
 stl:∀b u,u.stl=true->H b=!u->H' b=!u
section
variable{fs fs' ex ex':List Addr}{H H1 H2:Hp}{h h1 h2 h':Heap}{a x e:Addr}{o:HO}
def Un.any(u:Un fs ex H H1 h h1)(q:h.get? b=!ob)(n:H b=())(hx:b∉ex):∃s,h1.get? b=some {ob with slots:=s}:=by
 by_cases a:b∈fs
 .exact u.slot b ob q n a hx
 .exact#[ob.slots,u.keep b ob q n a hx]
def Un.kept(k:∀b u,h.get? b=!u->h'.get? b=!u):Un fs ex H H h h':=
 #[λb o q _ _ _=>k b o q,λb o q _ _ _=>#[o.slots,k b o q],λ_ _ _ n _=>n,λb o q _=>#[o,k b o q],λ_ _ _ q=>q]
def Un.refl:Un fs ex H H h h:=Un.kept λ_ _ q=>q
def Un.laid(k:∀b u,h.get? b=!u->h'.get? b=!u)(c:h.objs.size<=a)(e:H a=()):Un fs ex H (upd H a o) h h' where
 keep:=λb u q z z z=>k b u q
 slot:=λb u q z z z=>#[u.slots,k b u q]
 free:=λb u q n z=>by rwa[az<|Yz<|Yx (Yw q) c]
 there:=λb u q z=>#[u,k b u q]
 stl:=λb u z q=>by rwa[az<|bc q e]
theorem Un.write(m:Mut (H x))(he:e=x\/H e=!.own x)(k:∀b u,b≠e->h.get? b=!u->h'.get? b=!u)(c:∃u,h'.get? e=!u):Un fs ex H (upd H x o) h h':=by
 have f:∀b,H b=()->b≠x:=λb n z=>by subst z;rwa[n]at m
 have g:∀b,H b=()->b≠e:=λb n z=>by
  subst z;rcases he with r|r
  .exact f b n r
  .rw[n]at r;cases r
 have j:∀b u,H b=!u->¬Mut (!u)->b≠x:=λb u q i z=>by subst z;rw[q]at m;exact i m
 exact#[λb u q n y y=>k b u (g b n) q,λb u q n y y=>#[u.slots,k b u (g b n) q],λb u q n y=>by rwa[az<|f b n],λb u q y=>?_,
  λb u s q=>by rwa[az<|j b _ q λz=>by cases u<;>first|exact z|cases s]]
 grind
end
def trk(h:Heap)(H:Hp):List Addr:=(List.range h.objs.size).filter λa=>(H a).isSome
def sQ(h:Heap)(H:Hp):Heap:=W.hideAll h<|trk h H
def Ay h H:(sQ h H).objs.size=h.objs.size:=W.hideAll_size _ _
def Cv(e:h.get? b=!o)(n:H b=()):(sQ h H).get? b=!o:=
 W.hideAll_get _ e λa=>by
  have q:=(YL.mp a).2;rw[n]at q;simp at q
def Ga(e:(sQ h H).get? b=!o):h.get? b=!o/\H b=():=by
 let a:=W.of_hideAll _ e;exact#[a,?_];cases q:H b with
 |none=>rfl
 |some x=>
  have c:b∈trk h H:=YL.mpr #[Zf.mpr<|Yw a,by simp[q]];have z:(sQ h H).get? b=():=W.hideAll_none _ c;rw[z]at e;cases e
def FM(g h:Heap)(L:Addr):List (Addr×Obj):=(List.range h.objs.size).filterMap λa=>if a=L\/(g.get? a).isSome then () else(h.get? a).map λo=>(a,o)
def cx(g h:Heap)(L d:Addr):List (Addr×Obj):=(FM g h L).filter λp=>decide<|p.1≠d
structure Mod (K:PySem.W.Frag) (mg:Str->Option Value) (base:Heap):Prop where
 kin:K.In base
 glob:base.Ns mainGlobals mg
 blt:∃mb,base.Ns builtinsNs mb/\∀x:Str,x ≠ "__name__"->mb x=bootBuiltins x
 nolimit:base.NoLimit
 bat:∀t q p,gt K t q p->base.BuiltinsAt mg t
structure Cx where
 prog:Program
 w:World
 K:PySem.W.Frag
 mg:Str->Option Value
 base:Heap
 A:Around
 N:List Str
 s₀:Shared
 H₀:Hp
 env:Env
 outer:List Env
 stack:List Env
 ex:List Addr
 fn:Str->Bool
 calm:Bool
 pn:List (Addr×Obj)
 xe:Value->Shared->Prop
def frs(l:List Env):List Addr:=l.filterMap (·.frame)
abbrev Cx.fs(X:Cx):List Addr:=frs X.outer
def Vis(sc:Scope)(x:Str):Prop:=sc.names.lookup x=!.local\/sc.names.lookup x=!.cell\/sc.names.lookup x=!.free
def Loc(sc:Scope)(x:Str):Prop:=sc.names.lookup x=!.local\/sc.names.lookup x=!.cell
def MV(env:Env)(h:Heap)(m:Ks)(x:Str)(u:Value):Prop:=
 (env.kindOf x=!.local/\m x=!u)\/((env.kindOf x=!.cell\/env.kindOf x=!.free)/\∃c,env.cells.lookup x=!c/\h.IsCell c (!u))
structure Cx.Ok (X:Cx):Prop where
 mod:Mod X.K X.mg X.base
 kind:X.env.scope.kind=.function
 glob:X.env.globals=mainGlobals
 blt:X.env.builtins=builtinsNs
 above:X.s₀.heap.objs.size<=X.env.locals
 inj:∀x y c,X.env.cells.lookup x=!c->X.env.cells.lookup y=!c->x=y
 has:∀x,(X.env.kindOf x=!.cell\/X.env.kindOf x=!.free)->∃c,X.env.cells.lookup x=!c
 cab:∀x c,X.fn x=true->X.env.cells.lookup x=!c->X.s₀.heap.objs.size<=c
 hd:X.calm=true->X.A.handled=none
 frames:X.A.frames=!X.stack
 stk:X.stack=X.outer\/(X.stack=X.env::X.outer/\X.env.frame=!X.env.locals)
 exf:∀b∈X.ex,b≠X.env.locals/\∀x c,X.env.cells.lookup x=!c->c≠b
 bs:∀b o,X.base.get? b=!o->X.s₀.heap.get? b=!o/\X.H₀ b=none
 bsz:X.base.objs.size<=X.s₀.heap.objs.size
 noex:∀b o,X.base.get? b=!o->b∉X.ex
 exfs:∀b∈X.ex,b∉X.fs
 funs:X.s₀.heap.FunFrames X.base X.outer
 frf:∀b∈X.fs,X.H₀ b=none
 tab:∀t q p,gt X.K t q p->X.H₀ t=!.tbl q p
structure Inv (X:Cx) (pz:List (Addr×Obj)) (σ:List (Option V)) (H:Hp) (s:Shared):Prop where
 ok:X.Ok
 os:s.os=X.s₀.os
 bare:AllBare s.gens
 base:Un X.fs X.ex X.H₀ H X.s₀.heap s.heap
 loc:∃m,s.heap.Ns X.env.locals m/\∀(i:Nat) (x:Str) (v:V),X.N[i]?=!x->σ[i]?=!!v->Vis X.env.scope x->∃u,RelV v u/\MV X.env s.heap m x u
 cell:∀x c,X.env.cells.lookup x=!c->∃v,s.heap.IsCell c v
 free:H X.env.locals=none
 freeC:∀x c,X.env.cells.lookup x=!c->H c=none
 pin:∀p∈X.pn++pz,s.heap.get? p.1=!p.2/\H p.1=none/\p.1≠X.env.locals/\p.1∉X.fs/\∀v,p.2.data≠.cell v
 hok:HOk X.prog X.w H s.heap
 len:σ.length=X.N.length
section
variable{X:Cx}{pz:Kp}{σ:List (Option V)}{H H':Hp}{s:Shared}{h':Heap}
def Cx.Ok.nofr(ok:X.Ok)(e:X.base.get? b=!o):b∉X.fs:=λh=>by
 have:=(ok.funs.mem h).1;rw[e]at this;cases this
def Inv.bs(I:Inv X pz σ H s):∀b o,X.base.get? b=!o->s.heap.get? b=!o/\H b=():=λb o e=>
 #[I.base.keep b o (I.ok.bs b o e).1 (I.ok.bs b o e).2 (I.ok.nofr e)<|I.ok.noex b o e,I.base.free b o (I.ok.bs b o e).1 (I.ok.bs b o e).2<|I.ok.noex b o e]
def Inv.bk(I:Inv X pz σ H s):∀b o,X.base.get? b=!o->s.heap.get? b=!o:=λb o e=>(I.bs b o e).1
def Inv.mod(I:Inv X pz σ H s):Mod X.K X.mg X.base:=I.ok.mod
def Inv.kIn(I:Inv X pz σ H s):X.K.In s.heap:=I.ok.mod.kin.keeps I.bk
def Inv.lt(I:Inv X pz σ H s):X.env.locals<s.heap.objs.size:=let #[_,hn,_]:=I.loc;hn.lt
def Inv.sz(I:Inv X pz σ H s):X.s₀.heap.objs.size<=s.heap.objs.size:=YA I.ok.above<|ZG I.lt
def Inv.nofs(I:Inv X pz σ H s){a:Addr}(h:s.heap.objs.size<=a):a∉X.fs:=λc=>by
 let#[_,o,b,_]:=I.ok.funs.mem c;exact absurd (Yx (Yw b)<|YA I.sz h)<|Ze _
theorem Inv.cne(I:Inv X pz σ H s):∀x c,X.env.cells.lookup x=!c->c≠X.env.locals:=λx c e z=>by
 let#[v,o,b,f]:=I.cell x c e;let#[m,#[g,i,j,h,a,_],_]:=I.loc;grind
def Inv.tab(I:Inv X pz σ H s):∀t q p,gt X.K t q p->H t=!.tbl q p:=λt q p h=>I.base.stl _ _ rfl<|I.ok.tab t q p h
def Inv.funs(I:Inv X pz σ H s):s.heap.FunFrames X.base X.outer:=by
 have all:∀l,(∀b∈frs l,b∈X.fs)->X.s₀.heap.FunFrames X.base l->s.heap.FunFrames X.base l:=by
  intro l;induction l with
  |nil=>intro _ _;trivial
  |cons u r ih=>
   intro f m;let#[p,#[L,o,h,j,i,q],g]:=m;let c:=f L (by delta frs;rw[XD,h];exact Ye);let#[w,e]:=I.base.slot L o i (I.ok.frf L c) c λz=>I.ok.exfs L z c
   exact#[p,#[L,_,h,j,e,q],ih (λb a=>f b<|by delta frs;rw[XD,h];exact Yd _ a) g]
 exact all X.outer (λy a=>a) I.ok.funs
def Inv.stack(I:Inv X pz σ H s):s.heap.FunFrames X.base X.stack:=by
 rcases I.ok.stk with e|⟨e,hf⟩
 .rw[e];exact I.funs
 .rw[e];let#[m,h,_]:=I.loc;exact .cons (by rw[I.ok.kind];decide) hf h ?_ I.funs;exact Heap.get?_none_of_le<|YA I.ok.bsz I.ok.above
def Inv.stkSub(I:Inv X pz σ H s):∀b∈frs X.stack,b∈X.env.locals::X.fs:=λb h=>by
 rcases I.ok.stk with e|⟨e,hf⟩
 .rw[e]at h;exact Yd _ h
 .rw[e]at h;delta frs at h;rwa[XD,hf]at h
def Inv.stkFree(I:Inv X pz σ H s):∀b∈frs X.stack,H b=():=λb hb=>by
 rcases Ys.mp (I.stkSub b hb)with e|hb
 .rw[e];exact I.free
 .let#[_,o,h,_]:=I.ok.funs.mem hb;exact I.base.free b o h (I.ok.frf b hb) λz=>I.ok.exfs b z hb
def Inv.step{ch:List Addr}(I:Inv X pz σ H s)(f:∀b∈ch,(b∈X.ex\/X.s₀.heap.objs.size<=b)/\b≠X.env.locals/\(∀x c,X.env.cells.lookup x=!c->c≠b)/\∀p∈X.pn++pz,p.1≠b)(keep:∀b o,b≠X.env.locals->b∉X.fs->b∉ch->s.heap.get? b=!o->H b=()->h'.get? b=!o)(slot:∀b o,b≠X.env.locals->b∈X.fs->b∉ch->s.heap.get? b=!o->H b=()->∃K,h'.get? b=some {o with slots:=K})(free:∀b o,b∉ch->s.heap.get? b=!o->H b=()->H' b=())(y:∀b o,b∉ch->s.heap.get? b=!o->∃o',h'.get? b=!o')(stl:∀b u,u.stl->H b=!u->H' b=!u)(ns:∀m,s.heap.Ns X.env.locals m->h'.Ns X.env.locals m)(L:HOk X.prog X.w H' h')(U:AllBare g'):Inv X pz σ H' {s with heap:=h',gens:=g',drawn:=d',toks:=t' }:=by
 have E:∀b o,X.s₀.heap.get? b=!o->b≠X.env.locals:=λb o e=>Yz<|Yx (Yw e) I.ok.above
 have j:∀b o,X.s₀.heap.get? b=!o->b∉X.ex->b∉ch:=λb o e h A=>by
  rcases(f b A).1 with z|z
  .exact h z
  .exact absurd (Yx (Yw e) z)<|Ze _
 have g:∀x c,X.env.cells.lookup x=!c->∀v,s.heap.IsCell c v->h'.IsCell c v:=λx c e v M=>by
  let#[o,C,N]:=M;have a:=λz=>(f c z).2.2.1 x c e qx
  by_cases R:c∈X.fs
  .let#[K,q]:=slot c o (I.cne x c e) R a C<|I.freeC x c e;exact#[_,q,N]
  .exact#[o,keep c o (I.cne x c e) R a C<|I.freeC x c e,N]
 exact#[I.ok,I.os,U,#[λb o e n A h=>?_,λb o e n A h=>?_,λb o e n h=>?_,λb o e h=>?_,λb u s e=>stl b u s<|I.base.stl b u s e],?_,λx c e=>?_,?_,λx c e=>?_,λp Q=>?_,L,I.len]
 .exact keep b o (E b o e) A (j b o e h) (I.base.keep b o e n A h)<|I.base.free b o e n h
 .let#[K,B]:=I.base.slot b o e n A h;let#[J,O]:=slot b _ (E b o e) A (j b o e h) B<|I.base.free b o e n h;exact#[J,O]
 .let#[o',B]:=I.base.there b o e h;exact free b o' (j b o e h) B<|I.base.free b o e n h
 .let#[o',B]:=I.base.there b o e h;exact y b o' (j b o e h) B
 .let#[m,S,T]:=I.loc;exact#[m,ns m S,λi x v B O Y=>?_];let#[u,r,l]:=T i x v B O Y;exact#[u,r,?_];rcases l with l|⟨k,c,e,z⟩
  .exact .inl l
  .exact .inr #[k,c,e,g x c e _ z]
 .let#[v,z]:=I.cell x c e;exact#[v,g x c e v z]
 .let#[m,#[o,_,_,C,_],_]:=I.loc;exact free _ o (λz=>(f _ z).2.1 qx) C I.free
 .let#[v,o,C,N]:=I.cell x c e;exact free c o (λz=>(f c z).2.2.1 x c e qx) C<|I.freeC x c e
 .let#[e,n,P,nf,d]:=I.pin p Q;have a:=λz=>(f p.1 z).2.2.2 p Q qx
  exact#[keep p.1 p.2 P nf a e n,free p.1 p.2 a e n,P,nf,d]
def Inv.un(I:Inv X pz σ H s)(u:Un X.fs [] H H' s.heap h')(a:HOk X.prog X.w H' h'):Inv X pz σ H' {s with heap:=h',toks:=t' }:=by
 let#[m,#[o,A,B,i,r],_]:=id I.loc;let#[q,p]:=u.any i I.free (by simp);exact I.step (ch:=[]) (λy z=>nomatch z) (λb o y c y e n=>u.keep b o e n c<|by simp) (λb o y c y e n=>u.slot b o e n c<|by simp) (λb o y e n=>u.free b o e n<|by simp) (λb o y e=>u.there b o e<|by simp) u.stl (λy l=>by
  let#[x,f,g,h,j]:=l;rw[i]at h;cases h;exact#[_,f,g,p,j]) a I.bare
def Inv.call(I:Inv X pz σ H s)(u:Un (frs X.stack) ch H H' s.heap h')(g:HOk X.prog X.w H' h')(B:AllBare g')(f:∀b∈ch,(b∈X.ex\/X.s₀.heap.objs.size<=b)/\b≠X.env.locals/\(∀x c,X.env.cells.lookup x=!c->c≠b)/\∀p∈X.pn++pz,p.1≠b):Inv X pz σ H' {s with heap:=h',gens:=g',drawn:=d',toks:=t' }:=by
 let#[m,#[o,L,M,q,r],_]:=id I.loc;let#[E,i]:=u.any q I.free λz=>(f _ z).2.1 qx
 exact I.step f (λb o i C h e n=>u.keep b o e n (λz=>(Ys.mp<|I.stkSub b z).elim i C) h) (λb o _ _ h e n=>u.any e n h) (λb o h e n=>u.free b o e n h) (λb o h e=>u.there b o e h) u.stl (λK A=>by
  let#[J,j,l,a,y]:=A;rw[q]at a;cases a;exact#[_,j,l,i,y]) g B
def Inv.turned(I:Inv X pz σ H s)(k:∀b o,b≠it->s.heap.get? b=!o->h'.get? b=!o)(i:H it=())(f:it≠X.env.locals)(h1:it∈X.ex\/X.s₀.heap.objs.size<=it)(h2:∀x c,X.env.cells.lookup x=!c->c≠it)(w:∀p∈X.pn++pz,p.1≠it):Inv X pz σ H {s with heap:=h',toks:=t' }:=by
 have a:∀b u,H b=!u->b≠it:=λb u e z=>by rw[z,i]at e;cases e
 exact I.step (ch:=[it]) (λb l=>?_) (λb o _ _ h e _=>k b o (λz=>h<|by simp[z]) e) (λb o _ _ h e _=>#[o.slots,k b o (λz=>h<|by simp[z]) e]) (λ_ _ _ _ n=>n)
  (λb o h e=>#[o,k b o (λz=>h<|by simp[z]) e]) (λ_ _ _ e=>e) (λm j=>?_) (λb u e=>?_) I.bare
 .have e:b=it:=by simpa using l
  subst e;exact#[h1,f,h2,w]
 .let#[o,y,A,g,r]:=j;exact#[o,y,A,k _ o (XE f) g,r]
 .exact(I.hok b u e).stay (λc v h q=>k c v ?_ q) (λ_ q=>q) λ_ _ _ q=>q;rcases h with z|z
  .rw[z];exact a b u e
  .exact a c _ z
def Inv.tok(I:Inv X pz σ H s)t:Inv X pz σ H {s with toks:=t}:=I.un Un.refl I.hok
def Inv.kept(I:Inv X pz σ H s)(k:∀b u,s.heap.get? b=!u->h'.get? b=!u):Inv X pz σ H {s with heap:=h',toks:=t' }:=I.un (Un.kept k)<|I.hok.kept k
def Inv.laid{a:Addr}(I:Inv X pz σ H s)(k:∀b u,s.heap.get? b=!u->h'.get? b=!u)(h:s.heap.objs.size<=a)(new:ObjOk X.prog X.w (upd H a o) h' a o):Inv X pz σ (upd H a o) {s with heap:=h',toks:=t' }:=I.un (Un.laid k h<|I.hok.fresh h)<|I.hok.laid k h new
def Inv.write(I:Inv X pz σ H s)(m:Mut (H x))(he:e=x\/H e=!.own x)(k:∀b u,b≠e->s.heap.get? b=!u->h'.get? b=!u)(h:∃u,h'.get? e=!u)(new:ObjOk X.prog X.w (upd H x o) h' x o):Inv X pz σ (upd H x o) {s with heap:=h',toks:=t' }:=I.un (Un.write m he k h)<|I.hok.write m he k h new
def Inv.weak(I:Inv X pz σ H s)(h:a.length=σ.length)(w:∀(i:Nat) v,a[i]?=!!v->σ[i]?=!!v):Inv X pz a H s:=
 #[I.ok,I.os,I.bare,I.base,let #[m,hn,hl']:=I.loc;#[m,hn,λi x v c b e=>hl' i x v c (w i v b) e],I.cell,I.free,I.freeC,I.pin,I.hok,h.trans I.len]
def Inv.pins_of{a:Kp}(I:Inv X pz σ H s)(h:∀p∈a,s.heap.get? p.1=!p.2/\H p.1=()/\p.1≠X.env.locals/\p.1∉X.fs/\∀v,p.2.data≠.cell v):Inv X a σ H s:=
 #[I.ok,I.os,I.bare,I.base,I.loc,I.cell,I.free,I.freeC,λp b=>(YO.mp b).elim (λz=>I.pin p<|YH _ z)<|h p,I.hok,I.len]
def u9{N:List Str}(hN:N.Nodup){i j:Nat}(a:N[i]?=!x)(b:N[j]?=!x):i=j:=by let#[f,c]:=Ym.mp a;let#[h,e]:=Ym.mp b;exact(List.getElem_inj hN).mp<|c.trans e.symm
abbrev FnL(X:Cx)(x:Str):Prop:=X.fn x\/X.env.scope.names.lookup x=!.local
def rD{E:Kv}(I:Inv X pz σ H s)(hN:X.N.Nodup)(hi:X.N[i]?=!x)(hx:Loc X.env.scope x)(r:RelV v u)(h:∀s',Inv X pz (σ.set i<|!v) H s'->(∃a,Heap.SameBut a s.heap s'.heap/\(a=X.env.locals\/X.env.cells.lookup x=!a))->Q PUnit.unit s')(hf:FnL X x:=by first|exact .inl rfl|exact .inr rfl|assumption):wpAny M A (storeName X.env x u) Q E s:=by
 let#[m,hn,hl]:=id I.loc;have T:(X.env.scope.kind == .class||(X.env.scope.kind == .module&&X.env.locals != X.env.globals))=false:=by rw[I.ok.kind];rfl
 have J:i<σ.length:=by rw[I.len];exact(Ym.mp hi).1
 let cne:=I.cne;have g:∀{a}{P},(∃o,s.heap.get? a=!o/\H a=())->Heap.SameBut a s.heap P->HOk X.prog X.w H P:=λ{a P} ha f b ob e=>by
  let#[_,_,B]:=ha;exact(I.hok b ob e).stay (λc Z hc q=>(f.2 c ?_).trans q) (λ_ q=>q) λ_ _ _ q=>q;rintro rfl;rcases hc with rfl|hc
  .rw[B]at e;cases e
  .rw[B]at hc;cases hc
 rcases hx with hk|hk
 .exact wpAny_storeName_local hk hn (λP hn' f=>?_) T;let#[oL,_,_,hoL,_]:=id hn;exact h _ #[I.ok,I.os,I.bare,#[λb o e n O hx=>?_,λb o e n O hx=>?_,I.base.free,λb o e hx=>?_,I.base.stl],#[_,hn',λj y v' l C e3=>?_],λy c e=>?_,I.free,I.freeC,λp hp=>?_,g #[oL,hoL,I.free] f,by simpa using I.len] #[_,f,.inl qx]
  .exact(f.2 b<|Yz<|Yx (Yw e) I.ok.above).trans<|I.base.keep b o e n O hx
  .let#[sl,l]:=I.base.slot b o e n O hx;exact#[sl,(f.2 b<|Yz<|Yx (Yw e) I.ok.above).trans l]
  .let#[o',l]:=I.base.there b o e hx;exact#[o',(f.2 b<|Yz<|Yx (Yw e) I.ok.above).trans l]
  .by_cases K:j=i
   .subst K;rw[hi]at l;cases l;rw[ZJ J]at C;cases C;exact#[u,r,.inl #[hk,by simp]]
   .rw[Zl<|XE K]at C;let#[u',r',q]:=hl j y v' l C e3;exact#[u',r',?_];rcases q with⟨k,e⟩|⟨k,c,e,z⟩
    .exact .inl #[k,?_];have:y≠x:=λe=>K<|u9 hN l<|e ▸ hi
     simp[this,e]
    .exact .inr #[k,c,e,z.sameBut f<|cne y c e]
  .let#[Z,z]:=I.cell y c e;exact#[Z,z.sameBut f<|cne y c e]
  .let#[e,n,ne,nf,d]:=I.pin p hp;exact#[(f.2 p.1 ne).trans e,n,ne,nf,d]
 .have L:X.fn x:=by
   rcases hf with z|z
   .exact z
   .rw[z]at hk;cases hk
  let#[c,hc]:=I.ok.has x<|.inl hk;let#[Z,z]:=I.cell x c hc;exact wpAny_storeName_cell I.ok.kind hk hc z λP Y f=>?_;let#[oc,S,R]:=id z;exact h {s with heap:=P } #[I.ok,I.os,I.bare,#[λb o e n O hx=>?_,λb o e n O hx=>?_,I.base.free,λb o e hx=>?_,I.base.stl],#[m,hn.sameBut f<|XE<|cne x c hc,λj y v' l C e3=>?_],λy c' e=>?_,I.free,I.freeC,λp hp=>?_,g #[oc,S,I.freeC x c hc] f,by simpa using I.len] #[c,f,.inr hc]
  .exact(f.2 b<|Yz<|Yx (Yw e)<|I.ok.cab x c L hc).trans<|I.base.keep b o e n O hx
  .let#[sl,l]:=I.base.slot b o e n O hx;exact#[sl,(f.2 b<|Yz<|Yx (Yw e)<|I.ok.cab x c L hc).trans l]
  .let#[o',l]:=I.base.there b o e hx;exact#[o',(f.2 b<|Yz<|Yx (Yw e)<|I.ok.cab x c L hc).trans l]
  .by_cases K:j=i
   .subst K;rw[hi]at l;cases l;rw[ZJ J]at C;cases C;exact#[u,r,.inr #[.inl hk,c,hc,Y]]
   .rw[Zl<|XE K]at C;let#[u',r',q]:=hl j y v' l C e3;exact#[u',r',?_];rcases q with q|⟨k,c',e,z'⟩
    .exact .inl q
    .exact .inr #[k,c',e,z'.sameBut f ?_];rintro rfl;exact K<|u9 hN l<|I.ok.inj _ _ _ e hc ▸ hi
  .by_cases U:c'=c
   .subst U;exact#[_,Y]
   .let#[w2,z2]:=I.cell y c' e;exact#[w2,z2.sameBut f U]
  .let#[e,n,ne,nf,d]:=I.pin p hp;exact#[(f.2 p.1 ?_).trans e,n,ne,nf,d];intro q;rw[q,S]at e;have q':=YG e;exact d Z<|by rwa[<-q']
def pG{E:Kv}(I:Inv X pz σ H s)(hN:X.N.Nodup)(hi:X.N[i]?=!x)(hx:Loc X.env.scope x)(r:RelV v u)(h:∀s',Inv X pz (σ.set i<|!v) H s'->Q PUnit.unit s')(a:FnL X x:=by first|exact .inl rfl|exact .inr rfl|assumption):wpAny M A (storeName X.env x u) Q E s:=
 rD I hN hi hx r (λs' b _=>h s' b) a
def Inv.call'(I:Inv X pz σ H s)(f:s'.os=s.os)(u:Un (frs X.stack) ch H H' s.heap s'.heap)(h:HOk X.prog X.w H' s'.heap)(g:AllBare s'.gens)(a:∀b∈ch,(b∈X.ex\/X.s₀.heap.objs.size<=b)/\b≠X.env.locals/\(∀x c,X.env.cells.lookup x=!c->c≠b)/\∀p∈X.pn++pz,p.1≠b):Inv X pz σ H' s':=by
 let#[i,g',d',t',o]:=s';have e:=f;subst e;exact I.call u h g a
end
abbrev XK:=Value->Option Addr->Hp->Prop
abbrev St:=List<|Option V
abbrev VK:=V->Hp->Prop
abbrev TE:=St->Hp->VK->Prop
abbrev TT:=St->Hp->(Bool->Hp->Prop)->Prop
abbrev TA:=St->Hp->(List V->Hp->Prop)->Prop
structure j8 where
 nx:St->Hp->Prop
 rt:VK
 bk:St->Hp->Prop:=λ_ _=>False
 ct:St->Hp->Prop:=λ_ _=>False
abbrev TS:=j8->St->Hp->Prop
def EP(X:Cx)(pz:Kp)(σ:St)(Q:VK)(u:Value)(s':Shared):Prop:=∃v H,Inv X pz σ H s'/\RelV v u/\Q v H
def TP(X:Cx)(pz:Kp)(σ:St)(Q:Bool->Hp->Prop)(b:Bool)(s':Shared):Prop:=∃H,Inv X pz σ H s'/\Q b H
def AP(X:Cx)(pz:Kp)(σ:St)(Q:List V->Hp->Prop)(us:List Value)(s':Shared):Prop:=∃a H,Inv X pz σ H s'/\Vals a us/\Q a H
def SP(X:Cx)(pz:Kp)(D:j8)(f:Flow)(s':Shared):Prop:=
 match f with
 |.next=>∃a H,Inv X pz a H s'/\D.nx a H
 |.brk=>∃a H,Inv X pz a H s'/\D.bk a H
 |.cont=>∃a H,Inv X pz a H s'/\D.ct a H
 |.ret u=>∃v a H,Inv X pz a H s'/\RelV v u/\D.rt v H
def PE(X:Cx)(e:Expr)(t:TE):Prop:=
 ∀(p:Kp) s (a:St) H Q,Inv X p a H s->t a H Q->wpAny (model X.prog X.w) X.A (eval e X.env) (EP X p a Q) X.xe s
def PT(X:Cx)(e:Expr)(t:TT):Prop:=
 ∀(p:Kp) s (a:St) H Q,Inv X p a H s->t a H Q->wpAny (model X.prog X.w) X.A (isTrue e X.env<|eval e X.env) (TP X p a Q) X.xe s
def PW(X:Cx)(e:Expr)(t:TT):Prop:=
 ∀a (p:Kp) s (b:St) H Q,Inv X p b H s->t b H Q->wpAny (model X.prog X.w) X.A (isTrue e X.env a) (TP X p b Q) X.xe s
def PW.pt(h:PW X e t):PT X e t:=h _
def PA(X:Cx)(es:List Expr)(t:TA):Prop:=
 ∀p (b:Kp) s (a:St) H Q,Inv X b a H s->t a H Q->wpAny (model X.prog X.w) X.A (spliced<|backTo p<|starEach es X.env) (AP X b a Q) X.xe s
def PS(X:Cx)(st:Stmt)(t:TS):Prop:=
 ∀(p:Kp) s (a:St) H D,Inv X p a H s->t D a H->wpAny (model X.prog X.w) X.A (exec st X.env) (SP X p D) X.xe s
def PSs(X:Cx)(st:List Stmt)(t:TS):Prop:=
 ∀(p:Kp) s (a:St) H D,Inv X p a H s->t D a H->wpAny (model X.prog X.w) X.A (execs st X.env) (SP X p D) X.xe s
def thn{M}{A}{E:Kv}{s}(h:wpAny M A t Q E s)(e:∀a s,Q a s->c a s):wpAny M A t c E s:=ZR h e λz z x=>x
def bz{α e:Type}{pz:Kp}{σ:St}{t}{R:α->e->Prop}{Q:α->Hp->Prop}{T}{E:Kv}(h:wpAny M A t (λu s1=>∃x H1,Inv X pz σ H1 s1/\R x u/\Q x H1) E s)(k:∀u s1 x H1,Inv X pz σ H1 s1->R x u->Q x H1->T u s1):wpAny M A t T E s:=
 thn h λu s1 z=>by let#[x,H1,a,b,c]:=z;exact k u s1 x H1 a b c
theorem un7{g f e i:Type}{B A Z:g->f->e->i->Prop}{C:Prop}(k:∀P F ρ d,B P F ρ d->A P F ρ d->Z P F ρ d->C)(h:∃P F ρ d,B P F ρ d/\A P F ρ d/\Z P F ρ d):C:=by grind
end L2
open PySem L2
variable{H P H' F':Hp}{X:Cx}{K:PySem.W.Frag}{s s':Shared}{σ:L2.St}{pos pos' p apos tpos cpos:Pos}{pz pl:List (Addr×Obj)}{a C f dx l:Addr}{A:Around}{E Q:Value->Shared->Prop}{e c o b tg iter value elt:Expr}{w:World}{x name m qual:Str}{u:Value}{i j t':Nat}{es ifs:List Expr}{y:V}{ta te tb tv td:TE}{us its:List Value}{ow ow':Addr->Prop}{prog:Program}{vs xs ys:List V}{h base h':Heap}{scope:Scope}{CX:CXT}{ps N:List Str}{fd:FuncData}{sp:Sp}{env:Env}{mg mA:Str->Option Value}{st:Stmt}{body:List Stmt}{fp:List Addr}{tc:TT}{kw:List (Str×Value)}{cs:List (Str×Addr)}
namespace L2
open PySem PySem.Spec PyProof.Rows
section
def c7(i:Nat):TE:=λσ H Q=>∃v,σ[i]?=!!v/\Q v H
def tC(v:V):TE:=λ_ H Q=>Q v H
abbrev nDb(x:Str):Prop:=(x == ("__debug__"))=false
abbrev nDc(x:Str):Prop:=(x == ("__classdict__"))=false
def DC(hN:X.N[i]?=!x)(hv:Vis X.env.scope x)(hd:nDb x:=by decide)(hcd:nDc x:=by decide):PE X (.Name x pos) (c7 i):=by
 intro p s f H Q I h;let#[v,e,h]:=h;let#[m,g,o]:=I.loc;let#[u,r,l]:=o i x v hN e hv;have fin:EP X p f Q u s:=#[v,H,I,r,h]
 rcases l with⟨hk,j⟩|⟨hk,c,b,a⟩
 .exact wpAny_Name (wpAny_loadName_local I.ok.kind hk g j fin) hd
 .rcases hk with hk|hk
  .exact wpAny_Name (wpAny_loadName_cell I.ok.kind hk b a fin) hd
  .exact wpAny_Name (wpAny_loadName_free I.ok.kind hk b a fin hcd) hd
def lX{i j pos}:PE X (.Constant (.int i) j pos) (tC (.int i)):=λ_ _ _ H _ I h=>wpAny_Constant_int #[.int i,H,I.tok _,#[_,qx],h]
def Km{b j pos}:PE X (.Constant (.bool b) j pos) (tC (.bl b)):=λ_ _ _ H _ I h=>Constant_bool #[.bl b,H,I,qx,h]
def JM{x j pos}:PE X (.Constant (.str x) j pos) (tC (.str x)):=λ_ _ _ H _ I h=>Calls.Constant_str #[.str x,H,I.tok _,#[_,qx],h]
def Gl(X:Cx)(x:Str):Prop:=X.env.kindOf x=!.globalImplicit
def nW(I:Inv X pz σ H s)(b:Gl X x)(a:X.mg x=!u)(h:Q u s)(hd:nDb x:=by decide):wpAny (model X.prog X.w) X.A (eval (.Name x pos) X.env) Q E s:=
 Calls.Name_function_global I.ok.kind b (Calls.loadGlobal_global (by rw[I.ok.glob];exact I.mod.glob.keeps I.bk) a h) hd
def mI(I:Inv X pz σ H s)(c:Gl X x)(b:X.mg x=())(hv:bootBuiltins x=!u)(h:Q u s)(a:x ≠ "__name__":=by decide)(hd:nDb x:=by decide):wpAny (model X.prog X.w) X.A (eval (.Name x pos) X.env) Q E s:=by
 let#[m,f,e]:=I.mod.blt;exact Calls.Name_function_global I.ok.kind c (Calls.loadGlobal_builtin (by rw[I.ok.glob];exact I.mod.glob.keeps I.bk) b (by rw[I.ok.blt];exact f.keeps I.bk) ((e x a).trans hv) h) hd
def FX(b:Gl X x)(a:X.mg x=!u)(r:RelV v u)(hd:nDb x:=by decide):PE X (.Name x pos) (tC v):=
 λz z z H z I h=>nW I b a #[v,H,I,r,h] hd
def Gj(c:Gl X x)(b:X.mg x=())(hv:bootBuiltins x=!u)(r:RelV v u)(a:x ≠ "__name__":=by decide)(hd:nDb x:=by decide):PE X (.Name x pos) (tC v):=
 λz z z H z I h=>mI I c b hv #[v,H,I,r,h] a hd
variable{a:Expr}
def PC(X:Cx)(op:CmpOp)(a b:Expr)(t:TE):Prop:=
 ∀(p:Kp) s (f:St) H Q,Inv X p f H s->t f H Q->
  wpAny (model X.prog X.w) X.A (eval a X.env) (λv e=>wpAny (model X.prog X.w) X.A (eval b X.env) (λu c=>wpAny (model X.prog X.w) X.A (compareOp op v u) (EP X p f Q) X.xe c) X.xe e) X.xe s
def v5 b(h:op≠.In)(h2:op≠.NotIn):behindInMarks op b=false:=by
 have a:(op == CmpOp.In)=false:=by cases op<;>first|rfl|exact absurd qx h
 have e:(op == CmpOp.NotIn)=false:=by cases op<;>first|rfl|exact absurd qx h2
 cases b<;>simp[behindInMarks,a,e]
instance (x:V):Decidable (x=.non):=by cases x<;>first|exact .isTrue rfl|exact .isFalse nofun
def MB(ta:TE):TE:=λa H Q=>ta a H λx b=>Q (.bl<|decide<|x=.non) b
def RelV.none_iff{x}(r:RelV x v):(v == Value.none)=decide (x=.non):=by
 cases x with
 |non=>cases r;rfl
 |bl _=>cases r;rfl
 |int _=>let#[t,rfl]:=r;rfl
 |str _=>let#[t,rfl]:=r;rfl
 |byt _=>let#[t,rfl]:=r;rfl
 |flt _=>let#[t,rfl]:=r;rfl
 |ref _=>cases r;rfl
 |ty _=>cases r;rfl
def IS{j pos'}(e:PE X a ta):PC X .Is a (.Constant .none j pos') (MB ta):=by intro p s b H Q I h;exact bz (e p s b H _ I h) λv i x g f c q=>?_;exact Constant_none<|is_none_gen #[.bl _,g,f,by rw[c.none_iff];rfl,q]
def tB(t:TE):TT:=λa H Q=>t a H λx b=>∃c,x=.bl c/\Q c b
def DD(h:PC X op a b t)(h1:behindInMarks op b=false:=by first|exact v5 _ (by decide) (by decide)|rfl):PT X (.Compare a [op] [b] pos) (tB t):=by intro p s f H Q I j;exact wpAny_isTrue_Compare1 (thn (h p s f H _ I j) λv z h1=>thn h1 λu y l=>thn l λc w e=>?_) h1;let#[x,o,m,g,i]:=e;let#[d,rfl,q]:=i;cases g;exact ZE #[o,m,q]
def HY(h:PE X e t)(he:∀w,isTrue e X.env w=(do let v <-w;standAt e.pos;holding [v] (truthy v)):=by intro _;rfl):PT X e (tB t):=by intro p s a H Q I f;exact isTrue_plain (bz (h p s a H _ I f) λv j x i g b c=>?_)<|he _;let#[d,rfl,q]:=c;cases b;exact ZE #[i,g,q]
variable{tA tB':TT}{cx:List Expr}
def Mp(t u:TT):TT:=λa H Q=>t a H λc b=>if c then u a b Q else Q false b
def tOr(t u:TT):TT:=λa H Q=>t a H λc b=>if c then Q true b else u a b Q
def ML(t:TT):TT:=λσ H Q=>t σ H λc H1=>Q ((not<|c)) H1
def Fe(f:PT X a tA):PW X (.BoolOp .And [a] pos) tA:=by
 intro w p s b H Q I h;exact isTrue_and<|thn (f p s b H Q I h) λc g e=>?_;cases c with
 |true=>exact isTrue_and_nil e
 |false=>exact e
def JL(f:PT X a tA):PW X (.BoolOp .Or [a] pos) tA:=by
 intro w p s b H Q I h;exact isTrue_or<|thn (f p s b H Q I h) λc g e=>?_;cases c with
 |false=>exact isTrue_or_nil e
 |true=>exact e
def IC(m:PT X a tA)(l:PW X (.BoolOp .And (b::cx) pos) tB'):PW X (.BoolOp .And (a::b::cx) pos) (Mp tA tB'):=by
 intro w p s f H Q I h;exact isTrue_and<|thn (m p s f H _ I h) λc j e=>?_;let#[i,g,q]:=e;cases c with
 |true=>exact l w p j f i Q g q
 |false=>exact#[i,g,q]
def LB(m:PT X a tA)(l:PW X (.BoolOp .Or (b::cx) pos) tB'):PW X (.BoolOp .Or (a::b::cx) pos) (tOr tA tB'):=by
 intro w p s f H Q I h;exact isTrue_or<|thn (m p s f H _ I h) λc j e=>?_;let#[i,g,q]:=e;cases c with
 |true=>exact#[i,g,q]
 |false=>exact l w p j f i Q g q
def Ib(e:PT X a tA):PT X (.UnaryOp .Not a pos) (ML tA):=by intro p s b H Q I h;exact isTrue_not<|e p s b H _ I h
def LL(ta tb:TE):TE:=λa H Q=>ta a H λx b=>∃c,x=.bl c/\if c then tb a b Q else Q (.bl false) b
def Lx(ta:TE):TE:=λa H Q=>ta a H λx b=>∃c,x=.bl c/\Q (.bl<|(not<|c)) b
def Jx{op}(h:PE X a t):PE X (.BoolOp op [a] pos) t:=λp s b H Q I c=>BoolOp_one<|h p s b H Q I c
def Jo(m:PE X a ta)(l:PE X (.BoolOp .And (b::cx) pos) tb):PE X (.BoolOp .And (a::b::cx) pos) (LL ta tb):=by
 intro p s e H Q I h;exact BoolOp_and<|bz (m p s e H _ I h) λv i x g f j q=>?_;let#[c,rfl,q]:=q;cases j;exact ZE ?_;cases c with
 |true=>exact l p i e g Q f q
 |false=>exact#[.bl false,g,f,qx,q]
def Ia(f:PE X a ta):PE X (.UnaryOp .Not a pos) (Lx ta):=by intro p s b H Q I h;exact UnaryOp_<|bz (f p s b H _ I h) λv j x i g e q=>?_;let#[c,rfl,q]:=q;cases e;exact not_of<|ZE #[.bl<|(not<|c),i,g,qx,q]
def tIf(t:TT)(ta tb:TE):TE:=λa H Q=>t a H λc b=>if c then ta a b Q else tb a b Q
def Ds(l:PT X c tA)(o:PE X a ta)(m:PE X b tb):PE X (.IfExp c a b pos) (tIf tA ta tb):=by
 intro p s e H Q I h;exact wpAny_IfExp<|thn (l p s e H _ I h) λd g f=>?_;let#[j,i,q]:=f;cases d with
 |true=>exact o p g e j Q i q
 |false=>exact m p g e j Q i q
end
def SqL(K:Kq)(H:Hp)(a:Addr)(xs:List V):Prop:=
 Rd H a (.lst xs) \/
  ∃(o:Obj) (i:Array Value) (n:Nat),K.lookup a=!o/\o.cls=.type "list"/\o.dict=()/\o.data=.seq i n/\i.size<=sizeLine/\Vals xs i.toList
def SqT(K:Kq)(H:Hp)(a:Addr)(xs:List V):Prop:=
 Rd H a (.tup xs) \/
  ∃(o:Obj) (i:Array Value) (n:Nat),K.lookup a=!o/\o.cls=.type "tuple"/\o.data=.seq i n/\i.size<=sizeLine/\Vals xs i.toList
def MC:Value->Option V
 |.none=>!.non
 |.bool b=>!.bl b
 |.int i _=>!.int i
 |.str x _=>!.str x
 |.bytes b _=>!.byt b
 |.float b _=>!.flt b
 |.ref a=>!.ref a
 |.type n=>!.ty n
 |_=>()
def RelV.abs{x}(r:RelV x u):MC u=!x:=by
 cases x with
 |non=>cases r;rfl
 |bl _=>cases r;rfl
 |int _=>let#[t,rfl]:=r;rfl
 |str _=>let#[t,rfl]:=r;rfl
 |byt _=>let#[t,rfl]:=r;rfl
 |flt _=>let#[t,rfl]:=r;rfl
 |ref _=>cases r;rfl
 |ty _=>cases r;rfl
def RelV.inj{x}(r:RelV x u)(q:RelV y u):x=y:=YG<|r.abs.symm.trans q.abs
def Vals.inj(h:Vals xs us):Vals ys us->xs=ys:=by
 induction h generalizing ys with
 |nil=>intro q;cases q;rfl
 |cons r _ ih=>
  intro q;cases q with
  |cons b a=>rw[r.inj b,ih a]
def SqL.of(h:H a=!.lst xs):SqL K H a xs:=.inl<|.inl h
def SqT.of(h:H a=!.tup xs):SqT K H a xs:=.inl<|.inl h
theorem Inv.list(I:Inv X pz σ H s)(h:SqL X.K H a xs):∃its:List Value,Vals xs its/\PlainL s.heap a its.toArray/\xs.length<=sizeLine:=by
 rcases h with h|⟨o,its,n,hk,hc,hd,hs,hz,r⟩
 .let#[z,its,n,r,e]:=h.ok I.hok;exact#[its,r,#[_,n,e,qx,qx,qx],z]
 .exact#[its.toList,r,#[o,n,I.kIn a o hk,hc,hd,by simpa using hs],?_];let e:=r.length;simp at e;lia
def Inv.tuple(I:Inv X pz σ H s)(h:SqT X.K H a xs):∃its:List Value,Vals xs its/\IsTup s.heap a its.toArray/\xs.length<=sizeLine:=by
 rcases h with h|⟨o,its,n,hk,hc,hs,hz,r⟩
 .let#[z,its,r,p,_]:=h.ok I.hok;exact#[its,r,p,z]
 .exact#[its.toList,r,#[o,I.kIn a o hk,hc,n,by simpa using hs],?_];let e:=r.length;simp at e;lia
def Inv.list_inj(I:Inv X pz σ H s)(h:SqL X.K H a xs)(h':SqL X.K H a ys):xs=ys:=by
 let#[b,r,#[o,n,e,_,_,d],_]:=I.list h;let#[i,g,#[j,l,c,_,_,f],_]:=I.list h';rw[e]at c;cases c;rw[d]at f;injection f with d1 _;have:b=i:=by simpa using YU Array.toList d1
 subst this;exact r.inj g
abbrev Cx.wish(X:Cx)(E:Kv):Cx:={X with xe:=E}
abbrev Cx.nox(X:Cx):Cx:=X.wish λ_ _=>False
def Cx.Ok.wish(ok:X.Ok)E:(X.wish E).Ok:=
 #[ok.mod,ok.kind,ok.glob,ok.blt,ok.above,ok.inj,ok.has,ok.cab,ok.hd,ok.frames,ok.stk,ok.exf,ok.bs,ok.bsz,ok.noex,ok.exfs,ok.funs,ok.frf,ok.tab]
def Cx.Ok.unwish(ok:(X.wish E).Ok):X.Ok:=
 #[ok.mod,ok.kind,ok.glob,ok.blt,ok.above,ok.inj,ok.has,ok.cab,ok.hd,ok.frames,ok.stk,ok.exf,ok.bs,ok.bsz,ok.noex,ok.exfs,ok.funs,ok.frf,ok.tab]
def Inv.wish(I:Inv X pz σ H s)E:Inv (X.wish E) pz σ H s:=#[I.ok.wish E,I.os,I.bare,I.base,I.loc,I.cell,I.free,I.freeC,I.pin,I.hok,I.len]
def Inv.unwish(I:Inv (X.wish E) pz σ H s):Inv X pz σ H s:=#[I.ok.unwish,I.os,I.bare,I.base,I.loc,I.cell,I.free,I.freeC,I.pin,I.hok,I.len]
def SP.unwish{f}(h:SP (X.wish E) pz D f s'):SP X pz D f s':=by
 cases f with
 |next=>let#[a,H,I,q]:=h;exact#[a,H,I.unwish,q]
 |brk=>let#[a,H,I,q]:=h;exact#[a,H,I.unwish,q]
 |cont=>let#[a,H,I,q]:=h;exact#[a,H,I.unwish,q]
 |ret u=>let#[v,a,H,I,r,q]:=h;exact#[v,a,H,I.unwish,r,q]
def PSs.nox{st}(h:PSs X.nox st t):PSs X st t:=λp s a H D I b=>
 ZR (h p s a H D (I.wish _) b) (λ_ _ q=>q.unwish) λ_ _ z=>False.elim z
section
variable{cx:List Stmt}{t u:TS}
def Lz:TS:=λD σ H=>D.nx σ H
def M9(t u:TS):TS:=λD σ H=>t {D with nx:=u D} σ H
def zH:PSs X [] Lz:=λ_ _ σ H _ I h=>VQ #[σ,H,I,h]
def Ca(h1:PS X st t)(h2:PSs X cx u):PSs X (st::cx) (M9 t u):=by
 intro p s b H D I h;exact wpAny_execs_cons<|thn (h1 p s b H {D with nx:=u D} I h) λf c q=>?_;cases f with
 |next=>
  let#[a,g,e,q]:=q;exact h2 p c a g D e q
 |ret v=>exact q
 |brk=>exact q
 |cont=>exact q
def nZ(h1:PS X st t):PSs X [st] t:=by
 intro p s a H D I h;exact wpAny_execs_cons<|thn (h1 p s a H D I h) λf b q=>?_;cases f with
 |next=>exact VQ q
 |ret v=>exact q
 |brk=>exact q
 |cont=>exact q
def Inv.quiet(I:Inv X pz σ H s):interactive X.env=false:=by simp[interactive,I.ok.kind]
def K_(te:TE):TS:=λD σ H=>te σ H λ_ H1=>D.nx σ H1
def dU(he:PE X e te)(hs:swapsWith e () pos.line X.env=pure false:=by rfl):PS X (.Expr e pos) (K_ te):=by intro p s a H D I h;exact wpAny_Expr_any (bz (he p s a H _ I h) λv f x c b g q=>#[a,c,b,q]) I.quiet hs
def M1(te:TE):TS:=λD σ H=>te σ H D.rt
def mN(he:PE X e te):PS X (.Return (!e) pos) (M1 te):=by intro p s a H D I h;exact wpAny_Return_some<|bz (he p s a H _ I h) λv g x f c b q=>#[x,a,f,c,b,q]
def Nb(c:TT)(t u:TS):TS:=λD a H=>c a H λb e=>if b then t D a e else u D a e
def Hn{a b}(l:PT X c tc)(o:PSs X a t)(m:PSs X b u):PS X (.If c a b pos) (Nb tc t u):=by
 intro p s e H D I h;exact wpAny_If<|thn (l p s e H _ I h) λd g f=>?_;let#[j,i,q]:=f;cases d with
 |true=>exact o p g e j D i q
 |false=>exact m p g e j D i q
def Ik:TS:=λ_ _ _=>False
def DO:PS X st Ik:=λ_ _ _ _ _ _ h=>h.elim
end
abbrev TG:=V->St->Hp->(St->Hp->Prop)->Prop
abbrev TGs:=List V->St->Hp->(St->Hp->Prop)->Prop
def PG(X:Cx)(a:Expr)(t:TG):Prop:=
 ∀(p:Kp) s (c:St) H v u Q,Inv X p c H s->RelV v u->t v c H Q->
  wpAny (model X.prog X.w) X.A (assign a X.env u) (λ_ f=>∃b e,Inv X p b e f/\Q b e) X.xe s
def PGs(X:Cx)(ts:List Expr)(t:TGs):Prop:=
 ∀(p:Kp) s (b:St) H c u Q,Inv X p b H s->Vals c u->t c b H Q->
  wpAny (model X.prog X.w) X.A (assignInOrder ((assignEach ts X.env).map (·.2)) u) (λ_ f=>∃a e,Inv X p a e f/\Q a e) X.xe s
abbrev TIp:=V->V->Hp->VK->Prop
def PIp(X:Cx)(op:Operator)(t:TIp):Prop:=
 ∀(p:Kp) s (a:St) H x y v u Q,Inv X p a H s->RelV x v->RelV y u->t x y H Q->
  wpAny (model X.prog X.w) X.A (inplaceOp op v u) (EP X p a Q) X.xe s
def k8(i:Nat):TG:=λv σ H Q=>Q (σ.set i<|!v) H
def zu(hN:X.N.Nodup)(hi:X.N[i]?=!x)(hx:Loc X.env.scope x)(a:FnL X x:=by trivial):PG X (.Name x pos) (k8 i):=by intro p s c H v u Q I r h;exact wpAny_assign_Name<|pG I hN hi hx r (λe b=>#[_,H,b,h]) a
def LI:TGs:=λvs σ H Q=>vs=[]/\Q σ H
def Hu(t:TG)(u:TGs):TGs:=λc b H Q=>∃v r,c=v::r/\t v b H λa e=>u r a e Q
def iC:PGs X [] LI:=by intro p s a H b u Q I r h;let#[e,h]:=h;subst e;exact assignInOrder_nil #[a,H,I,h]
def bV{u}(h1:PG X e t)(h2:PGs X es u)(hs:(assignEach (e::es) X.env).map (·.2)=assign e X.env::(assignEach es X.env).map (·.2):=by rfl):PGs X (e::es) (Hu t u):=by
 intro p s c H m w Q I r h;let#[v,o,i,h]:=h;subst i;cases r with
 |cons r g=>
  rw[hs];exact assignInOrder_cons<|thn (h1 p s c H _ _ _ I r h) λz f b=>?_;let#[a,l,j,q]:=b;exact h2 p f a l _ _ Q j g q
def Nf(K:Kq)(n:Nat)(t:TGs):TG:=λv b H Q=>∃a x,v=.ref a/\SqT K H a x/\x.length=n/\t x b H Q
def CW{k}(z:X.calm)(h:PGs X es t)(w:(assignEach es X.env).length=n:=by rfl)(f:(assignEach es X.env).findIdx? (·.1)=():=by rfl):PG X (.Tuple es k pos) (Nf X.K n t):=by
 intro p s g H v u Q I r c;let#[a,x,B,q,y,c]:=c;subst B;cases r;let#[j,i,m,E]:=I.tuple q;exact assign_Tuple_tuple (I.ok.hd z) m (by simp[w,<-y,i.length]) f λA l=>?_;have C:=I.kept (t':=s.toks) λb o e=>l b o (Yz<|Yw e) e
 exact h p _ g H x _ Q C (by simpa using i) c
def Em(te:TE)(g:TG):TS:=λD a H=>te a H λx b=>g x a b D.nx
def Im(he:PE X e te)(i:PG X tg g)(hs:swapsWithSole [tg] e pos.line X.env=pure false:=by rfl)(hw:swappedStores [tg] e X.env=pure ():=by rfl)(h1:(assignEach [tg] X.env).map (·.2)=[assign tg X.env]:=by rfl):PS X (.Assign [tg] e pos) (Em te g):=by
 intro p s a H D I h;exact wpAny_Assign_stores (bz (he p s a H _ I h) λv b x l j c f=>?_) hs hw;rw[h1];exact thn (i p b a l x v _ j c f) λz m q=>q
def xf(hN:X.N.Nodup)(hi:X.N[i]?=!x)(hx:Loc X.env.scope x)(he:PE X e te)(hs:swapsWith e (!.Name x pos') pos.line X.env=pure false:=by rfl)(c:FnL X x:=by trivial):PS X (.Assign [.Name x pos'] e pos) (Em te<|k8 i):=by
 intro p s a H D I h;exact wpAny_Assign_Name (bz (he p s a H _ I h) λv m y j g b q=>?_) hs;exact pG g hN hi hx b (λl f=>#[_,j,f,q]) c
def Mz(i:Nat)(te:TE)(b:TIp):TS:=λD a H=>∃x,a[i]?=!!x/\te a H λy e=>b x y e λz c=>D.nx (a.set i<|!z) c
def IB{o}(hN:X.N.Nodup)(hi:X.N[i]?=!x)(hx:Loc X.env.scope x)(he:PE X e te)(L:PIp X op o)(Q:FnL X x:=by trivial):PS X (.AugAssign (.Name x pos') op e pos) (Mz i te o):=by
 intro p s j H D I h;let#[v,S,h]:=h;let#[m,M,P]:=I.loc;have g:Vis X.env.scope x:=by rcases hx with k|k;exact .inl k;exact .inr<|.inl k
 let#[u,r,l]:=P i x v hi S g;exact wpAny_AugAssign_Name ?_;have q:wpAny (model X.prog X.w) X.A (eval e X.env) (λw f=>wpAny (model X.prog X.w) X.A (inplaceOp op u w) (λr b=>wpAny (model X.prog X.w) X.A (storeName X.env x r) (λz=>SP X p D .next) X.xe b) X.xe f) X.xe s:=by exact bz (he p s j H _ I h) λw B y H1 Y E K=>?_;exact bz (L p B j H1 v y u w _ Y r E K) λz s2 zv Z U C J=>?_;exact pG U hN hi hx C (λs3 T=>#[_,Z,T,J]) Q
 rcases l with⟨hk,O⟩|⟨hk,c,R,a⟩
 .exact wpAny_loadName_local I.ok.kind hk M O q
 .rcases hk with hk|hk
  .exact wpAny_loadName_cell I.ok.kind hk R a q
  .rcases hx with k|k
   .have:X.env.scope.names.lookup x=!.free:=hk;rw[k]at this;cases this
   .have:X.env.scope.names.lookup x=!.free:=hk;rw[k]at this;cases this
def ipI(f:Int->Int->Int):TIp:=λx y H Q=>∃i j,x=.int i/\y=.int j/\Q (.int<|f i j) H
def I_:PIp X .Add (ipI λi j=>i+j):=by intro p s f H x y v u Q I b a h;let#[i,j,c,e,q]:=h;subst c;subst e;let#[t,rfl]:=b;let#[g,rfl]:=a;exact iadd_int #[.int _,H,I.tok _,#[_,qx],q]
def H0(c:TT)(tb:TS):TS:=λD a H=>∃W:Nat->St->Hp->Prop,(∃m,W m a H)/\∀m a H,W m a H->
 c a H λb g=>if b then ∃N:St->Hp->Prop,(∀e h,N e h->∃f,f < m/\W f e h)/\tb {D with nx:=N,ct:=N,bk:=D.nx} a g else D.nx a g
def DT{tb}(z:PassesOwn (model X.prog X.w) X.A X.env X.xe)(T:PT X c tc)(U:PSs X body tb):PS X (.While c body [] pos) (H0 tc tb):=by
 intro p s L H D I h;let#[W,#[S,O],i]:=h;exact wpAny_While<|codeAny_whileLoop (λn R=>∃g K,Inv X p g K R/\W n g K) ?_ S #[L,H,I,O];rintro n Q ⟨e,J,Y,M⟩;exact Xy z<|thn (T p Q e J _ Y<|i n e J M) λb P x=>?_;let#[E,C,l]:=x;cases b with
 |true=>
  let#[N,B,l]:=l;exact Xy z<|thn (U p P e E _ C l) λf Z q=>?_;cases f with
  |next=>
   let#[a,j,y,n3]:=q;let#[o,u,m]:=B a j n3;exact#[o,u,a,j,y,m]
  |cont=>
   let#[a,j,y,n3]:=q;let#[o,u,m]:=B a j n3;exact#[o,u,a,j,y,m]
  |brk=>exact q
  |ret v=>exact q
 |false=>
  exact VQ #[e,E,C,l]
structure It where
 go:Nat->Hp->Prop
 yld:Nat->Hp->V->Hp->Prop
 stop:Nat->Hp->Prop
def jX(X:Cx)(pz:Kp)(H:Hp)(b:Addr):Prop:=
 H b=()/\b≠X.env.locals/\b∉X.fs/\(b∈X.ex\/X.s₀.heap.objs.size<=b)/\(∀x c,X.env.cells.lookup x=!c->c≠b)/\∀p∈X.pn++pz,p.1≠b
def Inv.fpOk{b:Addr}(I:Inv X pz σ H s)(h:s.heap.objs.size<=b)(f:H' b=()):jX X pz H' b:=by
 exact#[f,Xl<|Yx I.lt h,I.nofs h,.inr<|YA I.sz h,λx c e z=>?_,λp a z=>?_]
 .let#[v,q]:=I.cell x c e;exact absurd (Yx q.lt<|by rwa[z])<|Ze _
 .exact absurd (Yx (Yw (I.pin p a).1)<|by rwa[z])<|Ze _
structure Turn (P:Program) (w:World) (K:PySem.W.Frag) (tg:Expr) (J:It) (fp:List Addr) (it:Addr) (tn:Nat->Heap->Prop):Prop where
 mem:it∈fp
 obj:∀i h,tn i h->∀b∈fp,∃o,h.get? b=!o/\∀v,o.data≠.cell v
 keep:∀i h h',tn i h->(∀b∈fp,∀o,h.get? b=!o->h'.get? b=!o)->tn i h'
 item:∀(X:Cx),X.prog=P->X.w=w->X.K=K->X.calm=true->∀(i:Nat) (pz:Kp) (s:Shared) (σ:St) (H:Hp) (E:Kv),Inv X pz σ H s->(∀b∈fp,jX X pz H b)->tn i s.heap->J.go i H->
  wpAny (model P w) X.A (pyNext (.ref it)) (λr s1=>∃u,r=!u /\
   wpAny (model P w) X.A (letOwnedTupleGo tg (.ref it) u) (λ_ s2=>∃x H',Inv X pz σ H' s2/\RelV x u/\J.yld i H x H'/\tn (i+1) s2.heap/\∀b∈fp,H' b=none) E s1) E s
 done:∀(X:Cx),X.prog=P->X.w=w->X.K=K->X.calm=true->∀(i:Nat) (pz:Kp) (s:Shared) (σ:St) (H:Hp) (E:Kv),Inv X pz σ H s->(∀b∈fp,jX X pz H b)->tn i s.heap->J.stop i H->
  wpAny (model P w) X.A (pyNext (.ref it)) (λr s1=>r=none/\Inv X pz σ H s1) E s
 self:∀(A:Around) (i:Nat) (s:Shared) (Q:Kv) (E:Kv),tn i s.heap->Q (.ref it) s->wpAny (model P w) A (pyIter (.ref it)) Q E s
abbrev TI:=St->Hp->(It->Hp->Prop)->Prop
def PIE(X:Cx)(pz:Kp)(σ:St)(tg:Expr)(R:It->Hp->Prop)(i:Value)(s:Shared):Prop:=
 ∃(c:Addr) (f:List Addr) (a:Nat->Heap->Prop) (J:It) (H:Hp),i=.ref c/\Inv X pz σ H s/\Turn X.prog X.w X.K tg J f c a/\a 0 s.heap/\(∀b∈f,jX X pz H b)/\R J H
def PI(X:Cx)(tg iter:Expr)(wi:TI):Prop:=
 ∀(p:Kp) s (a:St) H R,Inv X p a H s->wi a H R->
  wpAny (model X.prog X.w) X.A (eval iter X.env) (λv b=>wpAny (model X.prog X.w) X.A (pyIter v) (PIE X p a tg R) X.xe b) X.xe s
def D_{o}{vs}{Q}(b:s.heap.get? it=!o)(e:o.cls=.type n)(hd:o.data=.fields vs)(c:["enumerate","zip","dict_itemiterator","dict_reverseitemiterator","odict_iterator","itertools.zip_longest","itertools.pairwise"].contains n=false)(a:Q PUnit.unit s):wpAny M A (letOwnedTupleGo tg (.ref it) u) Q E s:=by
 delta letOwnedTupleGo;cases tg<;>first
  |exact Yj a
  |(cases u<;>first
    |exact Yj a
    |(
     exact Yc<|wpAny_load b ?_;rw[e,hd];show wpAny M A (if(["enumerate","zip","dict_itemiterator","dict_reverseitemiterator","odict_iterator","itertools.zip_longest","itertools.pairwise"].contains n&&vs[0]? == !rawInt _) then _ else _) Q E s;rw[Yn<|by intro h;rw[c,Va]at h;cases h];exact Yj a))
def Itl(K:Kq)(a:Addr):It:=
 #[λi H=>∃b x,SqL K H a b/\b[i]?=!x,λi H x c=>c=H/\∀b,SqL K H a b->b[i]?=!x,λi H=>∃b,SqL K H a b/\b.length<=i]
def Itr(lo:Int)(n:Nat):It:=#[λi _=>i<n,λi H x a=>a=H/\x=.int (lo+i),λi _=>n<=i]
theorem Bh{P}a it:Turn P w K tg (Itl K a) [it] it (λi h=>h.IsListIter it a i) where
 mem:=by simp
 obj:=λi h f b g=>by
  have e:b=it:=by simpa using g
  subst e;let#[o,e,c,d]:=f;exact#[o,e,λv z=>by rw[d]at z;cases z]
 keep:=λi h q f k=>f.at λo e=>k it (by simp) o e
 item:=by intro X L C M Y i U s T H E I m f J;subst L C M;let#[Z,x,l,B]:=J;let#[A,y,p,hz]:=I.list l;let#[u,hu,ru]:=y.get B;let#[S,R,f2,Q,O,N]:=m it (by simp);exact wpAny_pyNext_list_item f p.isList (by simpa using hu) λq j sb=>?_;let I1:=I.turned (t':=s.toks) (λb o g e=>(sb.2 b g).trans e) S R Q O N;let#[o,e,c,d]:=id j;exact#[u,qx,D_ e c d (by decide) #[x,H,I1,ru,#[rfl,λys hy=>by rwa[I.list_inj hy l]],j,λb g=>(m b g).1]]
 done:=by intro X L C M Y i U s T H E I m f J;subst L C M;let#[Z,l,B]:=J;let#[A,y,p,hz]:=I.list l;let#[S,R,f2,Q,O,N]:=m it (by simp);let hl:=y.length;exact wpAny_pyNext_list_end (I.ok.hd Y) f p.isList (by simp;lia) λq eb=>#[qx,I.turned (λb o g e=>eb b o g e) S R Q O N]
 self:=λv v v v v f h=>wpAny_pyIter_listiter f h
theorem xF{P}it lo n:Turn P w K tg (Itr lo n) [it] it (λi h=>IsRangeIter h it (lo+i*1) (n-i) 1) where
 mem:=by simp
 obj:=λi h a b c=>by
  have e:b=it:=by simpa using c
  subst e;exact#[_,a,λv z=>by
   let N:=z;cases N]
 keep:=λi h j a k=>k it (by simp) _ a
 item:=by intro X q l u p i M s J H E I g a m;subst q l u;let#[C,B,R,A,y,x]:=g it (by simp);let W:=Walks.range (prog:=X.prog) (w:=X.w) (I.ok.hd p) it lo 1 n;exact W.item i s _ _ m a λv j L Q f O=>?_;let#[t,rfl]:=Q;have T:Inv X M J H {s with heap:=j,toks:=L}:=I.turned (λb o c e=>O b o (by simpa using c) e) C B A y x;exact#[_,qx,D_ (n := "range_iterator") f qx qx (by decide) #[.int<|lo+i,H,T,#[t,?_],#[rfl,rfl],f,λb c=>(g b c).1]];rw[Int.mul_one]
 done:=by intro X q l u p i M s J H E I g a m;let#[C,B,R,A,y,x]:=g it (by simp);exact wpAny_pyNext_range_end (I.ok.hd p) a (by have:n<=i:=m;lia) λj S=>#[qx,I.turned (λb o c e=>S b o c e) C B A y x]
 self:=λv v v v v a h=>wpAny_pyIter_rangeiter a h
def Ly(K:Kq)(tl:TE):TI:=λc H R=>tl c H λx b=>∃a,x=.ref a/\(∃e,SqL K b a e)/\R (Itl K a) b
def nY{l}(y:PE X l tl):PI X tg l (Ly X.K tl):=by
 intro m s g H R I h;exact bz (y m s g H _ I h) λv c x A f i j=>?_;let#[a,e,#[B,w],q]:=j;subst e;cases i;let#[u,C,p,E]:=f.list w;exact Vx p.isList ?_;exact#[c.heap.objs.size,[c.heap.objs.size],_,_,A,qx,f.kept λb o e=>Yf _ e,Bh a _,#[_,Yq _ rfl,rfl,rfl],λb z=>?_,q];have e:b=c.heap.objs.size:=by simpa using z
 subst e;exact f.fpOk (Yp _)<|f.hok.fresh<|Yp _
def v9{lo hi}{t u v}(I:Inv X pz σ H s)(h1:-(2^62)<=lo)(h2:lo<2^62)(f:-(2^62)<=hi)(c:hi<2^62)(q:R (Itr lo (hi-lo).toNat) H):wpAny (model X.prog X.w) X.A (pyIter<|.ref s.heap.objs.size) (PIE X pz σ tg R) E {s with heap:=s.heap.push {cls:=.type "range",data:=.fields #[[.int lo t,.int hi u,.int 1 v]]},toks:=tk}:=by
 exact wpAny_pyIter_range (IsRange.new ..) (small_one h1 h2 f c) ?_;have a:Inv X pz σ H {s with heap:=s.heap.push {cls:=.type "range",data:=.fields #[[.int lo t,.int hi u,.int 1 v]]},toks:=tk}:=I.kept λb o e=>Yf _ e
 exact#[(s.heap.push {cls:=.type "range",data:=.fields #[[.int lo t,.int hi u,.int 1 v]]}).objs.size,[(s.heap.push {cls:=.type "range",data:=.fields #[[.int lo t,.int hi u,.int 1 v]]}).objs.size],_,_,H,qx,
  a.kept λb o e=>Yf _ e,xF _ lo (hi-lo).toNat,?_,λb h=>?_,q]
 .have i:lo+((0:Nat))*1=lo:=by simp
  have g:(((hi-lo).toNat))-((0:Nat))=Builtin.Range.rangeSize lo hi 1:=by rw[rangeSize_one];split<;>lia
  rw[i,g];exact Yq _ qx
 .have e:b=(s.heap.push {cls:=.type "range",data:=.fields #[[.int lo t,.int hi u,.int 1 v]]}).objs.size:=by simpa using h
  subst e;exact a.fpOk (Yp _)<|a.hok.fresh<|Yp _
def LV(ta:TA):TI:=λa H R=>ta a H λb c=>∃j:Int,b=[.int j]/\-(2^62)<=j/\j<2^62/\R (Itr 0 j.toNat) c
def Lk(ta:TA):TI:=λa H R=>ta a H λb c=>∃i j:Int,b=[.int i,.int j]/\(-(2^62)<=i/\i<2^62/\-(2^62)<=j/\j<2^62)/\R (Itr i (j-i).toNat) c
theorem Aa{a}{ta}(o:Gl X "range")(m:X.mg "range"=())(u:PA X [a] ta)(hs:starEach [a] X.env=[(false,eval a X.env)]:=by rfl):PI X tg (.Call (.Name "range" p) [a] [] pos) (LV ta):=by
 intro l s c H R I h;exact Call_<|mI I o m boot_range<|Xo (bz (u pos l s c H _ I h) λy z x A w g b=>?_) hs qx;let#[j,e,b,i,q]:=b;subst e;cases g with
 |cons r f=>
  cases f;let#[t,rfl]:=r;exact call_range_1<|v9 w (by lia) (by lia) b i<|by simpa using q
def As{a}{ta}(A:Gl X "range")(z:X.mg "range"=())(B:PA X [a,b] ta)(hs:starEach [a,b] X.env=[(false,eval a X.env),(false,eval b X.env)]:=by rfl)(c:starEach [b] X.env=[(false,eval b X.env)]:=by rfl):PI X tg (.Call (.Name "range" p) [a,b] [] pos) (Lk ta):=by
 intro y s l H R I h;exact Call_<|mI I A z boot_range<|Xo (bz (B pos y s l H _ I h) λJ L E M C m g=>?_) (by rw[hs,c]) (by rw[c];rfl);let#[i,j,e,#[g,x,w,u],q]:=g;subst e;cases m with
 |cons r f=>
  cases f with
  |cons o f=>
   cases f;let#[t,rfl]:=r;let#[K,rfl]:=o;exact call_range_2<|v9 C g x w u q
def MR(wi:TI)(g:TG)(tb:TS):TS:=λD a H=>wi a H λJ j=>∃W:Nat->Nat->St->Hp->Prop,(∃m,W 0 m a j)/\∀i m a H,W i m a H->
 (J.stop i H/\D.nx a H)\/(J.go i H/\∃N:St->Hp->Prop,(∀b c,N b c->∃f,f < m/\W (i+1) f b c)/\∀x c,J.yld i H x c->g x a c λe h=>tb {D with nx:=N,ct:=N,bk:=D.nx} e h)
def pI(fp:List Addr)(h:Heap):List (Addr×Obj):=fp.filterMap λb=>(h.get? b).map λo=>(b,o)
def iW{b}{o}(a:b∈fp)(e:h.get? b=!o):(b,o)∈pI fp h:=XO.mpr #[b,a,by rw[e];rfl]
theorem Aj{p}(a:p∈pI fp h):p.1∈fp/\h.get? p.1=!p.2:=by
 let#[b,c,e]:=XO.mp a;cases q:h.get? b with
 |none=>rw[q]at e;cases e
 |some o=>
  rw[q]at e;grind
theorem Inv.pinned(I:Inv X pz σ H s)(g:∀b∈fp,jX X pz H b)(f:∀b∈fp,∃o,s.heap.get? b=!o/\∀v,o.data≠.cell v):Inv X (pz++pI fp s.heap) σ H s:=
 I.pins_of λp c=>(YO.mp c).elim (λz=>I.pin p<|YC _ z) λz=>by
  let#[h,e]:=Aj z;let#[l,j,i,_]:=g p.1 h;grind
def Inv.unpinned(I:Inv X (pz++pl) σ H s):Inv X pz σ H s:=I.pins_of λp h=>I.pin p<|YC _<|YH _ h
abbrev FsI(e:Expr)(X:Cx):Prop:=∀x,foldedSetIterable e X.env x=pure x
def xI{tb}(R:PassesOwn (model X.prog X.w) X.A X.env X.xe)(hc:X.calm)(hi:PI X tg iter wi)(hg:PG X tg g)(p:PSs X body tb)(hs:FsI iter X:=by intro _;rfl):PS X (.For tg iter body [] pos) (MR wi g tb):=by
 intro K s σ H D I h;exact wpAny_For (thn (hi K s σ H _ I h) λv s1 h1=>thn h1 λitv s2 h2=>?_) hs;let#[it,U,tn,J,H2,e,I2,T,st2,f2,W,#[m0,w0],M]:=h2;subst e
 have l:∀{B},(∀b∈U,B b=())->∀b∈U,jX X K B b:=λhn b p=>#[hn b p,(f2 b p).2]
 exact codeAny_forLoop_any (λn s'=>∃i j B,Inv X K j B s'/\tn i s'.heap/\(∀b∈U,B b=())/\W i n j B) ?_ m0 #[0,σ,H2,I2,st2,λb p=>(f2 b p).1,w0];rintro n s3 ⟨i,c,Y,I3,P,S,w3⟩;rcases M i n c Y w3 with⟨O,qn⟩|⟨go,N,hN,step⟩
 .exact Xy R<|thn (T.done X qx qx qx hc i K s3 c Y X.xe I3 (l S) P O) λr s4 #[hr,I4]=>?_;subst hr;exact VQ #[c,Y,I4,qn]
 .exact Xy R<|thn (T.item X qx qx qx hc i K s3 c Y X.xe I3 (l S) P go) λr s4 #[u,hr,h4]=>?_;subst hr;exact Xy R<|thn h4 λt s5 L=>?_;let#[x,H5,I5,r5,y5,E,fr5]:=L;let I5':=I5.pinned (l fr5)<|T.obj _ _ E;exact Xy R<|thn (hg _ s5 c H5 x u _ I5' r5<|step x H5 y5) λt s6 L=>?_;let#[Z,H6,I6,q6]:=L;exact Xy R<|thn (p _ s6 Z H6 _ I6 q6) λf s7 C=>?_;have q:∀{a}{z},Inv X _ a z s7->N a z->∃m,m<n/\∃i j B,Inv X K j B s7/\tn i s7.heap/\(∀b∈U,B b=())/\W i m j B:=λ{a z} y Q=>by
   let#[m',hm,w7]:=hN a z Q;exact#[m',hm,i+1,a,z,y.unpinned,T.keep _ _ _ E λb p o e=>(y.pin (b,o)<|YC _<|YC _<|iW p e).1,λb p=>?_,w7];let#[o,e,d]:=T.obj _ _ E b p;exact(y.pin (b,o)<|YC _<|YC _<|iW p e).2.1
  cases f with
  |next=>let#[a,z,y,Q]:=C;exact q y Q
  |cont=>let#[a,z,y,Q]:=C;exact q y Q
  |brk=>let#[a,z,y,C]:=C;exact#[a,z,y.unpinned,C]
  |ret v=>let#[x7,a,z,y,r7,C]:=C;exact#[x7,a,z,y.unpinned,r7,C]
abbrev R2:=V->V->Hp->VK->Prop
def OpR(X:Cx)(f:Value->Value->Sem Value)(r:R2):Prop:=
 ∀(p:Kp) s (a:St) H x y v u Q,Inv X p a H s->RelV x v->RelV y u->r x y H Q->
  wpAny (model X.prog X.w) X.A (f v u) (EP X p a Q) X.xe s
def UnR(X:Cx)(f:Value->Sem Value)(r:V->Hp->VK->Prop):Prop:=
 ∀(p:Kp) s (a:St) H x v Q,Inv X p a H s->RelV x v->r x H Q->
  wpAny (model X.prog X.w) X.A (f v) (EP X p a Q) X.xe s
def CallR(X:Cx)(f:Value)(r:List V->Hp->VK->Prop):Prop:=
 ∀(p:Kp) s (a:St) H x u Q,Inv X p a H s->Vals x u->r x H Q->
  wpAny (model X.prog X.w) X.A (call f u) (EP X p a Q) X.xe s
def M7(X:Cx)(r:V->Hp->(Bool->Hp->Prop)->Prop):Prop:=
 ∀(p:Kp) s (a:St) H x v Q,Inv X p a H s->RelV x v->r x H Q->
  wpAny (model X.prog X.w) X.A (truthy v) (TP X p a Q) X.xe s
def tOp(r:R2)(ta tb:TE):TE:=λa H Q=>ta a H λx c=>tb a c λy b=>r x y b Q
def tUn(r:V->Hp->VK->Prop)(ta:TE):TE:=λa H Q=>ta a H λx b=>r x b Q
def rI(C:Int->Int->Prop)(g:Int->Int->V):R2:=λx y H Q=>∃i j,x=.int i/\y=.int j/\C i j/\Q (g i j) H
def rI0(g:Int->Int->V):R2:=λx y H Q=>∃i j,x=.int i/\y=.int j/\Q (g i j) H
def rU(g:Int->V):V->Hp->VK->Prop:=λx H Q=>∃i,x=.int i/\Q (g i) H
section
variable{a:Expr}{tc:TE}
def JQ(z:PE X a ta)(p:PE X b tb){R:V->V->Hp->Prop}(I:Inv X pz σ H s)(h:ta σ H λx H1=>tb σ H1 λy H2=>R x y H2){f:Value->Value->Sem Value}(o:∀v u g x y H2,Inv X pz σ H2 g->RelV x v->RelV y u->R x y H2->wpAny (model X.prog X.w) X.A (f v u) Q X.xe g):wpAny (model X.prog X.w) X.A (eval a X.env) (λv e=>wpAny (model X.prog X.w) X.A (eval b X.env) (λu c=>wpAny (model X.prog X.w) X.A (f v u) Q X.xe c) X.xe e) X.xe s:=by
 exact bz (z pz s σ H _ I h) λv i x H1 C l m=>?_;exact bz (p pz i σ H1 _ C m) λu g y H2 B j q=>?_;exact o v u g x y H2 B l j q
def LZ(i:OpR X (binaryOp op) r)(l:PE X a ta)(j:PE X b tb):PE X (.BinOp a op b pos) (tOp r ta tb):=by intro p s c H Q I h;exact wpAny_BinOp<|JQ l j I h λv u e x y o m g f q=>i p e c o x y v u Q m g f q
def Lj(f:UnR X (unaryOp op) r)(g:PE X a ta):PE X (.UnaryOp op a pos) (tUn r ta):=by intro p s b H Q I h;exact UnaryOp_<|bz (g p s b H _ I h) λv c x j i e q=>f p c b j x v Q i e q
def opI{f}{C}{g:Int->Int->Int}(a:∀i j t u s (Q:Kv) (E:Kv),C i j->Q (.int (g i j) s.toks) {s with toks:=s.toks+1}->wpAny (model X.prog X.w) X.A (f (.int i t)<|.int j u) Q E s):OpR X f (rI C λi j=>.int<|g i j):=by
 intro p s m H x y v u Q I e c h;let#[i,j,rfl,rfl,l,q]:=h;let#[t,rfl]:=e;let#[b,rfl]:=c;exact a i j t b s _ _ l #[.int _,H,I.tok _,#[_,qx],q]
def Kj{f}{g:Int->Int->Int}(a:∀i j t u s (Q:Kv) (E:Kv),Q (.int (g i j) s.toks) {s with toks:=s.toks+1}->wpAny (model X.prog X.w) X.A (f (.int i t)<|.int j u) Q E s):OpR X f (rI0 λi j=>.int<|g i j):=by
 intro p s l H x y v u Q I e c h;let#[i,j,rfl,rfl,q]:=h;let#[t,rfl]:=e;let#[b,rfl]:=c;exact a i j t b s _ _ #[.int _,H,I.tok _,#[_,qx],q]
def E7{f}{g:Int->Int->Bool}(a:∀i j t u s (Q:Kv) (E:Kv),Q (.bool<|g i j) s->wpAny (model X.prog X.w) X.A (f (.int i t)<|.int j u) Q E s):OpR X f (rI0 λi j=>.bl<|g i j):=by
 intro p s l H x y v u Q I e c h;let#[i,j,rfl,rfl,q]:=h;let#[t,rfl]:=e;let#[b,rfl]:=c;exact a i j t b s _ _ #[.bl _,H,I,qx,q]
def Na(i j:Int):Prop:=0<j/\j<1073741824
def M4(i j:Int):Prop:=0<=j/\j<=1000000/\i.natAbs<2^64
def CMul(i j:Int):Prop:=(-(2^64)<i/\i<2^64)\/(-(2^64)<j/\j<2^64)
def CMul.ok{i j}(h:CMul i j):IntMulOk i j:=by
 rcases h with⟨b,a⟩|⟨b,a⟩
 .exact .of_left<|intBits_le_64 b a
 .exact .of_right<|intBits_le_64 b a
def Iw:OpR X (binaryOp .Add) (rI0 λi j=>.int (i+j)):=Kj λ_ _ _ _ _ _ _ q=>add_int q
def JZ:OpR X (binaryOp .Sub) (rI0 λi j=>.int (i-j)):=Kj λ_ _ _ _ _ _ _ q=>sub_int q
def HL:OpR X (binaryOp .Mult) (rI CMul λi j=>.int (i*j)):=opI λ_ _ _ _ _ _ _ h q=>mul_int q h.ok
theorem F9:OpR X (binaryOp .FloorDiv) (rI Na λi j=>.int (i/j)):=opI λi j z z z z z h q=>by
 let b:=h.1;let a:=h.2;exact floordiv_int (by lia) (by rwa[Int.fdiv_eq_ediv_of_nonneg i<|by lia])<|.inl<|PyProof.noPylong_small<|by lia
def JY:OpR X (binaryOp .Mod) (rI (λz j=>0<j) λi j=>.int (i%j)):=opI λi j z z z z z h q=>by
 exact mod_int' (by lia)<|by rwa[Int.fmod_eq_emod_of_nonneg i<|by lia]
def HI:OpR X (binaryOp .Pow) (rI M4 λi j=>.int (i^j.toNat)):=opI λ_ _ _ _ _ _ _ h q=>pow_int_small h.1 h.2.1 h.2.2 q
def unI{f}{g:Int->Int}(a:∀i t s (Q:Kv) (E:Kv),Q (.int (g i) s.toks) {s with toks:=s.toks+1}->wpAny (model X.prog X.w) X.A (f<|.int i t) Q E s):UnR X f (rU λi=>.int<|g i):=by
 intro p s c H x v Q I b h;let#[i,rfl,q]:=h;let#[t,rfl]:=b;exact a i t s _ _ #[.int<|g i,H,I.tok _,#[_,qx],q]
def HV:UnR X (unaryOp .USub) (rU λi=>.int (-i)):=unI λ_ _ _ _ _ q=>neg_int q
end
section
variable{a:Expr}{tc:TE}
def KB:OpR X (compareOp .Lt) (rI0 λi j=>.bl (decide (i<j))):=E7 λ_ _ _ _ _ _ _ q=>lt_int q
def Hc:OpR X (compareOp .LtE) (rI0 λi j=>.bl (decide (i<=j))):=E7 λ_ _ _ _ _ _ _ q=>le_int q
def Ln:OpR X (compareOp .Gt) (rI0 λi j=>.bl (decide (j<i))):=E7 λ_ _ _ _ _ _ _ q=>gt_int q
def K7:OpR X (compareOp .GtE) (rI0 λi j=>.bl (decide (j<=i))):=E7 λ_ _ _ _ _ _ _ q=>ge_int q
def OpR.or{f}{r e}(h:OpR X f r)(h':OpR X f e):OpR X f (λx y H Q=>r x y H Q\/e x y H Q):=by
 intro p s a H x y v u Q I c b q;rcases q with q|q
 .exact h p s a H x y v u Q I c b q
 .exact h' p s a H x y v u Q I c b q
def jd b(h:op≠.In:=by decide)(h2:op≠.NotIn:=by decide):behindInMarks op b=false:=by
 have a:(op == CmpOp.In)=false:=by cases op<;>first|rfl|exact absurd qx h
 have e:(op == CmpOp.NotIn)=false:=by cases op<;>first|rfl|exact absurd qx h2
 cases b<;>simp[behindInMarks,a,e]
def Fk(i:OpR X (compareOp op) r)(m:PE X a ta)(l:PE X b tb)(j:behindInMarks op b=false):PE X (.Compare a [op] [b] pos) (tOp r ta tb):=by intro p s c H Q I h;exact wpAny_Compare1 (JQ m l I h λv u e x y w o g f q=>i p e c w x y v u Q o g f q) j
def D8(t:TE):TT:=λa H Q=>t a H λx b=>∃k,x=.bl k/\Q k b
def yJ(A:OpR X (compareOp op) r)(E:PE X a ta)(C:PE X b tb)(B:behindInMarks op b=false):PT X (.Compare a [op] [b] pos) (D8 (tOp r ta tb)):=by
 intro p s f H Q I h;exact wpAny_isTrue_Compare1 (bz (E p s f H _ I h) λv i x O L m w=>bz (C p i f O _ L w) λu g y N K l o=>
  bz (A p g f N x y v u _ K m l o) λc P z M J j #[k,e,q]=>?_) B
 subst e;cases j;exact ZE #[M,J,q]
def xT(r c:R2)(ta tb tc:TE):TE:=λa H Q=>ta a H λx g=>tb a g λy f=>r x y f λz b=>∃k,z=.bl k /\
 (if k then tc a b λw e=>c y w e Q else Q (.bl false) b)
def vJ{op o}{r j}(R:OpR X (compareOp op) r)(g:OpR X (compareOp o) j)(Y:PE X a ta)(U:PE X b tb)(T:PE X c tc)(S:lastMarks [op,o] [b,c]=false:=by with_unfolding_all rfl):PE X (.Compare a [op,o] [b,c] pos) (xT r j ta tb tc):=by
 intro p s f H Q I h;exact Compare_chain (bz (Y p s f H _ I h) λv J x H1 I1 M P=>chain_link<|bz (U p J f H1 _ I1 P) λu E y H2 I2 i O=>
  bz (R p E f H2 x y v u _ I2 M i O) λd C z m l L #[k,e,q]=>?_) S
 subst e;cases L;exact ZE ?_;cases k with
 |false=>exact ite_ff #[.bl false,m,l,qx,q]
 |true=>exact ite_tt<|chain_last<|bz (T p C f m _ l q) λA B w H4 Z K N=>g p B f H4 y w u A Q Z i K N
def CA{op o}{r l}(Y:OpR X (compareOp op) r)(g:OpR X (compareOp o) l)(ha:PE X a ta)(hb:PE X b tb)(hc:PE X c tc)(Z:lastMarks [op,o] [b,c]=false:=by with_unfolding_all rfl):PT X (.Compare a [op,o] [b,c] pos) (D8<|xT r l ta tb tc):=by
 intro p s f H Q I h;exact isTrue_chain (bz (ha p s f H _ I h) λv K x H1 I1 O T=>test_link<|bz (hb p K f H1 _ I1 T) λu J y H2 I2 j S=>
  bz (Y p J f H2 x y v u _ I2 O j S) λd E z w m N #[k,e,q]=>?_) Z
 subst e;cases N;exact ZE ?_;cases k with
 |false=>
  let#[k',e',U]:=q;cases e';exact ite_ff #[w,m,U]
 |true=>
  exact ite_tt<|test_last<|bz (hc p E f w _ m q) λB C A H4 I4 M R=>bz (g p C f H4 y A u B _ I4 j M R) λd' s5 z2 H5 I5 L i=>?_;let#[k2,e2,P]:=i;subst e2;cases L;exact ZE #[H5,I5,P]
def Kx(K:Kq)(x:V)(H:Hp)(k:Bool):Prop:=
 match x with
 |.non=>k=false
 |.bl b=>k=b
 |.int i=>k=(i != 0)
 |.str y=>y.length<=sizeLine/\k=((y.length:Int) != 0)
 |.byt y=>y.size<=sizeLine/\k=((y.size:Int) != 0)
 |.ref p=>(∃a,SqL K H p a/\k=(not<|a.isEmpty))\/(∃a,SqT K H p a/\k=(not<|a.isEmpty))\/∃c,H p=!.dK c/\k=(not<|c.isEmpty)
 |_=>False
def xH{vs}(r:KV kvs vs):((not<|vs.isEmpty))=(not<|kvs.isEmpty):=by cases r<;>rfl
def qz(r:Vals xs its):((not<|its.toArray.isEmpty))=(not<|xs.isEmpty):=by cases r<;>simp
def mf:sizeLine<2^63:=by rw[YT];decide
theorem JU:M7 X (λx H Q=>∃k,Kx X.K x H k/\Q k H):=by
 intro J s E H x v Q I j h;let#[k,e,q]:=h;let L:=YT;cases x with
 |non=>
  cases j;let a:=e;subst a;exact truthy_none #[H,I,q]
 |bl b=>
  cases j;let a:=e;subst a;exact ZE #[H,I,q]
 |int i=>
  let#[t,rfl]:=j;let a:=e;subst a;exact P.truthy_int #[H,I,q]
 |str y=>
  let#[t,rfl]:=j;obtain⟨B,a⟩:y.length<=sizeLine/\k=((y.length:Int) != 0):=e;subst a;exact P.truthy_str (by lia) #[H,I.tok _,q]
 |byt y=>
  let#[t,rfl]:=j;obtain⟨B,a⟩:y.size<=sizeLine/\k=((y.size:Int) != 0):=e;subst a;exact W.truthy_bytes (by lia) #[H,I.tok _,q]
 |ref p=>
  cases j;let a:=e;rcases a with⟨g,l,a⟩|⟨g,l,a⟩|⟨c,l,a⟩
  .subst a;let#[z,r,u,A]:=I.list l;let f:=r.length;exact wpAny_truthy_list u.isList (by simp;lia) #[H,I.tok _,by rwa[qz r]]
  .subst a;let#[z,r,u,A]:=I.tuple l;let f:=r.length;exact truthy_tuple u (by simp[Yy];lia) #[H,I.tok _,by rwa[qz r]]
  .subst a;obtain⟨A,C,o,r,m⟩:c.length<=sizeLine/\(p == sysModules)=false/\∃o,KV c o/\s.heap.DictOf _ p o:=I.hok p _ l;let f:=VO r;exact wpAny_truthy_dict C m (by lia) #[H,I.tok _,by rwa[xH r]]
 |_=>exact(show False from e).elim
def CB(e:PE X a ta)(he:∀w,isTrue a X.env w=(do let v <-w;standAt a.pos;holding [v] (truthy v))):PT X a (λσ H Q=>ta σ H λx H'=>∃k,Kx X.K x H' k/\Q k H'):=by
 intro p s σ H Q I h;exact isTrue_plain (bz (e p s σ H _ I h) λv b x g f c q=>JU p b σ g x v Q f c q)<|he _
def xc:OpR X (binaryOp .Add) (λx y H Q=>∃i j,x=.str i/\y=.str j/\i.length+j.length<=sizeLine/\Q (.str (i++j)) H):=by intro p s f H x y v u Q I c b h;let#[i,j,rfl,rfl,e,q]:=h;let#[t,rfl]:=c;let#[a,rfl]:=b;exact add_str (λa g=>#[.str<|i++j,H,I.tok _,#[_,qx],q]) e
def fB{x}(r:Vals [x] us):∃u,us=[u]/\RelV x u:=by
 cases r with
 |cons b a=>cases a;exact#[_,qx,b]
def Hy{x}(r:Vals [x,y] us):∃u w,us=[u,w]/\RelV x u/\RelV y w:=by
 cases r with
 |cons e c=>
  cases c with
  |cons b a=>cases a;exact#[_,_,qx,e,b]
def AX:CallR X (.type "int") (λxs H Q=>(∃i,xs=[.int i]/\Q (.int i) H)\/∃k,xs=[.bl k]/\Q (.int (if k then 1 else 0)) H):=by
 intro p s b H xs c Q I r h;rcases h with⟨i,rfl,q⟩|⟨k,rfl,q⟩
 .let#[u,rfl,t,rfl]:=fB r;exact call_int_int #[.int i,H,I,#[_,qx],q]
 .let#[u,rfl,a]:=fB r;cases a;exact call_int_bool #[.int _,H,I.tok _,#[_,qx],q]
end
structure ObjM (h:Heap) (x dx C:Addr) (mA:Str->Option Value):Prop where
 obj:h.get? x=!PySem.W.instObj C dx
 ns:h.Ns1 dx mA
 ne:dx≠x
def AE(n:h.Ns1 dx mA):∃od,h.get? dx=!od/\∀name,W.lookIn name od=!mA name:=by
 let#[o,c,p,g,l,j,_,i]:=n;exact#[o,g,λname=>?_];let e:=i name;delta nsFind findBy at e;rw[<-Array.find?_toList]at e;delta W.lookIn;rw[l];dsimp only;split
 .rename_i y q;rw[q]at e;exact YU some e
 .rename_i q;rw[q]at e;have a:c.toList.any (·.refKey)=false:=by rw[List.any_eq_false];intro y f;let#[z,t,b]:=j y<|Array.mem_toList_iff.mp f;simp[DictEntry.refKey,b]
  have m:¬c.toList.any (·.refKey):=by rw[a];exact Yk
  rw[Yn m];exact YU some e
def ObjM.look{x}(I:ObjM h x dx C mA):∃od,W.InstAt h x (W.instObj C dx) C (!od)/\∀name,W.lookIn name od=!mA name:=
 let #[od,ho,hl]:=AE I.ns
 #[od,#[I.obj,qx,qx,ho],hl]
section
variable{x:Addr}{v:Value}
def E4{e}(X:K.In s.heap)(I:ObjM s.heap x dx C mA)(f:W.plainGet K C name)(c:W.hasDictIn K C)(g:W.findIn K (.ref C) name=!())(hv:mA name=!v)(a:W.handedIn v)(h:Q v {s with toks:=s.toks+1}):wpAny (model prog w) A (getAttr (.ref x) name e) Q E s:=by
 let#[o,J,b]:=I.look;exact W.get_value X J (VR f).1 (W.findObj_own c g rfl<|by rw[b,hv]) a h
def DJ{pl}{Q}(X:K.In s.heap)(I:ObjM s.heap x dx C mA)(a:W.plainGet K C name)(e:W.findIn K (.ref C) name=!(some<|.ref f))(b:W.isFn K (.ref f))(hv:mA name=())(h:Q (.ref f,[.ref x]) s):wpAny (model prog w) A (getMethod (.ref x) name pl) Q E s:=by
 let#[o,J,c]:=I.look;exact W.method_fn X J (VR a).1 (VR a).2 e (Vk.mp b) (by show(W.lookIn name o).map _=!false;rw[c,hv];rfl) h
theorem FS{Q}(X:K.In s.heap)(I:ObjM s.heap x dx C mA)(hs:W.findIn K (.ref C) "__setattr__"=!(some<|.builtin "object.__setattr__"))(o:W.plainOver K C)(m:W.takerIn K C name=!())(p:W.hasDictIn K C)(hw:Within mA ns)(hsz:ns.length<=sizeLine)(h:∀h',ObjM h' x dx C (λy=>if y=name then !v else mA y)->Heap.SameBut dx s.heap h'->Q PUnit.unit {s with heap:=h',toks:=s.toks+2}):wpAny (model prog w) A (setAttr (.ref x) name v) Q E s:=by
 let#[B,J,L]:=I.look;exact W.set_plain X J hs<|W.osa_open X J o m λb=>?_;let#[M,q,i]:=W.any_some p;let l:=I.obj;exact Yc<|Yj<|Yc<|Yc<|wpAny_loadPart l<|Yc<|W.Looks.here (W.looks_clsIn X q) ?_;rw[i];exact Yj<|Yc<|Yj<|Yc ?_;exact wpAny_nsSet1 I.ns λh' e c=>?_;let#[H,u,z,f,g,j]:=e.count<|Within.cons name v hw;exact Yc<|wpAny_lookBehind f (by rw[g];exact pastItsLine_dict<|YA j<|by rw[Yv];lia) ?_;exact Yj<|h _ #[(c.2 _<|XE I.ne).trans I.obj,e,I.ne] c
def D4{R:Kr}{vs}(X:K.In s.heap)(b:W.makesIn K C)(hi:W.findIn K (.ref C) "__init__"=!(some<|.ref f))(c:W.typeIn K (.ref f)=!(.type "function"))(h:codeAny (model prog w) (A.under<|.builtin "type.__call__" #[.ref C::vs,kw]) (.call (.ref f) #[.ref (s.heap.objs.size+1)::vs,kw]) (W.InitBack (s.heap.objs.size+1) R)
   {s with heap:=(s.heap.push W.emptyDict).push<|W.instObj C s.heap.objs.size}):codeAny (model prog w) A (.call (.ref C) #[vs,kw]) R s:=by
 exact W.make_core (W.makes_of X b) (W.looks_findIn X hi) (λa=>W.bind_fn X a c) (.inl qx) h
end
def eG(f:Str)(v:V):List (Str×V)->List (Str×V)
 |[]=>[(f,v)]
 |(g,x)::r=>if g=f then(g,v)::r else(g,x)::eG f v r
theorem nk f g v:∀fs:List (Str×V),(eG f v fs).lookup g=if g=f then !v else fs.lookup g
 |[]=>by
  show List.lookup g [(f,v)]=_;by_cases h:g=f
  .let a:=Vk.mpr h;simp[List.lookup,a,Yl h]
  .let a:=ZB.mpr h;simp[List.lookup,a,Yn h]
 |(k,x)::r=>by
  let ih:=nk f g v r;rw[show eG f v _=(if k=f then(k,v)::r else(k,x)::eG f v r)from rfl];grind
theorem lP f v:∀fs:List (Str×V),f∈(eG f v fs).map (·.1)/\∀g,g∈fs.map (·.1)->g∈(eG f v fs).map (·.1)
 |[]=>#[by simp[eG],λg h=>by simp at h]
 |(k,x)::r=>by
  let#[b,i]:=lP f v r;rw[show eG f v _=(if k=f then(k,v)::r else(k,x)::eG f v r)from rfl];grind
theorem nE f v:∀fs:List (Str×V),(eG f v fs).length<=fs.length+1
 |[]=>by simp[eG]
 |(k,x)::r=>by
  let ih:=nE f v r;rw[show eG f v _=(if k=f then(k,v)::r else(k,x)::eG f v r)from rfl];grind
def RelO.some_of{o}(r:RelO (!v) o):∃u,o=!u/\RelV v u:=by
 cases o with
 |none=>exact(show False from r).elim
 |some u=>exact#[u,qx,r]
def RelO.none_of{o}(r:RelO () o):o=():=by
 cases o with
 |none=>rfl
 |some u=>exact(show False from r).elim
def A4(r:RelV v u):W.handedIn u:=by
 cases v with
 |non=>cases(show u=Value.none from r);rfl
 |bl b=>cases(show u=Value.bool b from r);rfl
 |int i=>let#[t,e]:=(show ∃t,u=Value.int i t from r);cases e;rfl
 |str x=>let#[t,e]:=(show ∃t,u=Value.str x t from r);cases e;rfl
 |byt b=>let#[t,e]:=(show ∃t,u=Value.bytes b t from r);cases e;rfl
 |flt b=>let#[t,e]:=(show ∃t,u=Value.float b t from r);cases e;rfl
 |ref a=>cases(show u=Value.ref a from r);rfl
 |ty n=>cases(show u=Value.type n from r);rfl
section
variable{P:Program}{fs fs':List (Str×V)}
def sT(b:HOk P w H h)(e:H a=!.ins C dx fs):∃mA,ObjM h a dx C mA/\(∀f,RelO (fs.lookup f) (mA f))/\Within mA (fs.map (·.1))/\fs.length<=1000/\H dx=!.own a:=by
 let#[d,z,c,o,mA,n,r,q]:=(show ObjOk P w H h a (.ins C dx fs)from b a _ e)
 exact#[mA,#[o,n,c],r,q,z,d]
end
structure Cls (K:PySem.W.Frag) (C:Addr):Prop where
 pg:PySem.W.plainGet K C Str.empty=true
 hd:PySem.W.hasDictIn K C=true
 po:PySem.W.plainOver K C=true
 sa:PySem.W.findIn K (.ref C) "__setattr__"=!!(.builtin "object.__setattr__")
def Cls.get(c:Cls K C)f:W.plainGet K C f:=c.pg
def NoAttr(K:Kq)(C:Addr)(f:Str):Prop:=W.findIn K (.ref C) f=!()
def NoAttr.taker{f}(n:NoAttr K C f):W.takerIn K C f=!():=by delta W.takerIn;rw[show W.findIn K _ f=!() from n];rfl
structure Meth (K:PySem.W.Frag) (C:Addr) (m:Str) (f:Addr):Prop where
 at_:PySem.W.findIn K (.ref C) m=!!.ref f
 fn:PySem.W.isFn K (.ref f)=true
 kp:PySem.W.keepIn K (.ref f)=true
section
variable{fs:List (Str×V)}{f:Str}{v:V}
def xm{b}(I:Inv X pz σ H s)(e:H a=!.ins C dx fs)(c:Cls X.K C)(n:NoAttr X.K C f)(l:fs.lookup f=!v)(h:∀u s',Inv X pz σ H s'->RelV v u->Q u s'):wpAny (model X.prog X.w) A (getAttr (.ref a) f b) Q E s:=by
 let#[m,O,r,_,_,_]:=sT I.hok e;let#[u,i,g]:=RelO.some_of (v:=v) (o:=m f) (by rw[<-l];exact r f);exact E4 I.kIn O (c.get f) c.hd n i (A4 g)<|h u _ (I.tok _) g
def pD{pl}{Q}(I:Inv X pz σ H s)(e:H a=!.ins C dx fs)(c:Cls X.K C)(k:Meth X.K C m g)(l:fs.lookup m=())(h:Q (.ref g,[.ref a]) s):wpAny (model X.prog X.w) A (getMethod (.ref a) m pl) Q E s:=by
 let#[b,O,r,_,_,_]:=sT I.hok e;let f:=RelO.none_of (by rw[<-l];exact r m);exact DJ I.kIn O (c.get m) k.at_ k.fn f h
theorem xA{Q}(I:Inv X pz σ H s)(e:H a=!.ins C dx fs)(c:Cls X.K C)(n:NoAttr X.K C f)(R:fs.length<1000)(B:RelV y u)(h:∀s',Inv X pz σ (upd H a<|.ins C dx<|eG f y fs) s'->Q PUnit.unit s'):wpAny (model X.prog X.w) A (setAttr (.ref a) f u) Q E s:=by
 let#[m,O,r,j,_,l]:=sT I.hok e;have J:(fs.map (·.1)).length<=sizeLine:=by rw[Ya,YT];lia
 exact FS I.kIn O c.sa c.po n.taker c.hd j J λP i p=>h _ ?_;have M:∃o,P.get? dx=!o:=let #[o,_,_,e',_]:=i.ns;#[o,e']
 exact I.write (by rw[e];exact True.intro) (.inr l) (λb q N z=>(p.2 b N).trans z) M ?_;exact#[by rwa[az O.ne],?_,O.ne,i.obj,_,i.ns,λg=>?_,λg L=>?_]
 .have:=nE f y fs;lia
 .rw[nk];by_cases q:g=f
  .rwa[Yl q,Yl q]
  .rw[Yn q,Yn q];exact r g
 .by_cases q:g=f
  .rw[q];exact(lP f y fs).1
  .exact(lP f y fs).2 g<|j g λz=>L ?_;grind
def Inv.made(I:Inv X pz σ H s):Inv X pz σ (upd (upd H s.heap.objs.size (.own (s.heap.objs.size+1))) (s.heap.objs.size+1) (.ins C s.heap.objs.size []))
  {s with heap:=(s.heap.push W.emptyDict).push<|W.instObj C s.heap.objs.size}:=by
 have f:(s.heap.push W.emptyDict).get? s.heap.objs.size=!W.emptyDict:=Yq s.heap qx;have j:((s.heap.push W.emptyDict).push<|W.instObj C s.heap.objs.size).get? (s.heap.objs.size+1)=!W.instObj C s.heap.objs.size:=by
  have:=Yq (s.heap.push W.emptyDict) (o:=W.instObj C s.heap.objs.size) qx
  rwa [Xm]at this
 have i:(s.heap.push W.emptyDict).Ns s.heap.objs.size _:=#[W.emptyDict,#[[]],_,f,qx,(λe g=>absurd g<|by simp),λz=>rfl]
 let l:=I.laid (o:=.own<|s.heap.objs.size+1) (t':=s.toks) (λb u q=>Yf _ q) (Yp _) #[_,f];exact l.laid (λb u q=>Yf _ q) (Xb<|Xm _ _) ?_;have c:s.heap.objs.size≠s.heap.objs.size+1:=Yz<|ZS _;exact#[by rw[az c,aD],YN _,c,j,λz=>(),(Heap.Ns1.of_empty i).at λo q=>Yf _ q,λz=>True.intro,λy h=>absurd qx h]
def Gr(b:attributeBase e f env (eval e env)=eval e env)(h:wpAny (model prog w) A (eval e env) (λo a=>wpAny (model prog w) A (getAttr o f true) Q E a) E s):wpAny (model prog w) A (eval (.Attribute e f pos) env) Q E s:=
 Attribute_any_ h<|by rw[arm_eval_Attribute,b]
end
def MU(K:Kq)(ta:TE)(f:Str):TE:=λc H Q=>ta c H λx b=>∃a C e fs v,x=.ref a/\b a=!.ins C e fs/\Cls K C/\NoAttr K C f/\fs.lookup f=!v/\Q v b
def Mn(K:Kq)(ta tv:TE)(f:Str):TS:=λD b H=>tv b H λy g=>ta b g λx e=>∃a C c fs,x=.ref a/\e a=!.ins C c fs/\Cls K C/\NoAttr K C f/\fs.length<1000 /\
 D.nx b (upd e a<|.ins C c<|eG f y fs)
section
variable{f:Str}
def pU(he:PE X e ta)(m:attributeBase e f X.env (eval e X.env)=eval e X.env):PE X (.Attribute e f pos) (MU X.K ta f):=by intro p s g H Q I h;exact Gr m<|bz (he p s g H _ I h) λu J x A z i b=>?_;let#[a,C,L,fs,v,o,w,c,n,l,q]:=b;subst o;obtain rfl:u=Value.ref a:=i;exact xm z w c n l λB E y j=>#[v,A,y,j,q]
def ui(z:PE X o ta)(hv:PE X value tv)(hs:swapsWith value (!.Attribute o f pos') pos.line X.env=pure false):PS X (.Assign [.Attribute o f pos'] value pos) (Mn X.K ta tv f):=by intro p s b H D I h;exact plainObj_wpAny_Assign_Attribute (bz (hv p s b H _ I h) λu g y M L i q=>bz (z p g b M _ L q) λw O x Q J j e=>?_) hs;let#[a,C,P,fs,A,B,c,n,l,m]:=e;subst A;obtain rfl:w=Value.ref a:=j;exact xA J B c n l i λN E=>#[b,_,E,m]
end
structure Room (k:Nat) (A:Around):Prop where
 hd:A.handled=none
 dp:A.depth+3*k+5<recursionLimit
 un:A.units+16*k+200<cLine
theorem Room.mono(r:Room k A)(h:j<=k):Room j A:=#[r.hd,by have:=r.dp;lia,by have:=r.un;lia]
theorem Room.deeper(r:Room (k+1) A)env:Room k (A.deeper env):=
 #[r.hd,by have:=r.dp;show A.depth+1+3*k+5<_;lia,by have:=r.un;show A.units+3+16*k+200<_;lia]
def ya:(A.under (.builtin "type.__call__" #[.ref C::us,kw])).depth=A.depth+1:=by
 first|rfl|simp
def yr:(A.under (.builtin "type.__call__" #[.ref C::us,kw])).units=A.units+1:=by
 first|rfl|simp
theorem Room.make(r:Room (k+1) A)C us kw:Room k (A.under (.builtin "type.__call__" #[.ref C::us,kw])):=
 #[r.hd,by have:=r.dp;rw[ya];lia,by have:=r.un;rw[yr];lia]
theorem Room.depth(r:Room k A):A.depth<recursionLimit:=by have:=r.dp;lia
def wu:TA:=λ_ H Q=>Q [] H
def ph(ta:TE)(tr:TA):TA:=λa H Q=>ta a H λx e=>tr a e λb c=>Q (x::b) c
section
variable{t:TA}
def bw:PA X [] wu:=λ_ _ _ _ H Q I h=>Calls.spliced_nil #[[],H,I,.nil,h]
def aQ(m:PE X e te)(l:PA X es t)(hs:starEach (e::es) X.env=(false,eval e X.env)::starEach es X.env:=by rfl):PA X (e::es) (ph te t):=by intro p b s a H Q I h;rw[hs];exact XQ<|bz (m b s a H _ I h) λu f x z w i j=>?_;exact bz (l p b f a z _ w j) λA B c y o g q=>#[x::c,y,o,.cons i g,q]
def MF(t:TA):TE:=λb H Q=>t b H λx a=>x.length<=sizeLine/\∀p,a p=()->Q (.ref p) (upd a p<|.tup x)
def MT(t:TA):TE:=λb H Q=>t b H λx a=>x.length<=sizeLine/\∀p,a p=()->Q (.ref p) (upd a p<|.lst x)
def BE{x1}(h:PA X es t):PE X (.Tuple es x1 pos) (MF t):=by intro p s g H Q I j;exact wpAny_Tuple_spliced<|bz (h pos p s g H _ I j) λi a x f c r #[z,q]=>#[by rwa[<-r.length],?_];let l:=c.hok.fresh<|Yp _;exact#[.ref a.heap.objs.size,upd f a.heap.objs.size _,c.laid (λb u e=>Yf _ e) (Yp _) ?_,qx,q _ l];exact#[z,i,r,#[_,Yq _ qx,qx,_,qx],_,Yq _ qx,qx]
def Jk(h:PA X es t):PE X (.List es pos) (MT t):=by intro p s g H Q I j;exact wpAny_List_spliced<|bz (h pos p s g H _ I j) λi a x f c r #[z,q]=>#[by rwa[<-r.length],?_];let l:=c.hok.fresh<|Yp _;exact#[.ref a.heap.objs.size,upd f a.heap.objs.size _,c.laid (λb u e=>Yf _ e) (Yp _) ?_,qx,q _ l];exact#[z,i,0,r,Yq _ qx]
end
abbrev Sp:=List V->Hp->VK->XK->Prop
abbrev CXT:=List Env->Hp->Shared->XK->Value->Shared->Prop
structure Env0 (P:Program) (w:World) (K:PySem.W.Frag) (mg:Str->Option Value) (base:Heap) (A:Around) (outer:List Env) (s:Shared) (H:Hp):Prop where
 frames:A.frames=!outer
 mod:Mod K mg base
 bs:∀b o,base.get? b=!o->s.heap.get? b=!o/\H b=none
 bsz:base.objs.size<=s.heap.objs.size
 funs:s.heap.FunFrames base outer
 frf:∀b∈frs outer,H b=none
 hok:HOk P w H s.heap
 bare:AllBare s.gens
 tab:∀t q p,gt K t q p->H t=!.tbl q p
def CE(outer:List Env)(P:Program)(w:World)(H:Hp)(s:Shared)(Q:VK)(u:Value)(s':Shared):Prop:=
 ∃v a,s'.os=s.os/\AllBare s'.gens/\Un (frs outer) [] H a s.heap s'.heap/\HOk P w a s'.heap/\RelV v u/\Q v a
def CR(CX:CXT)(outer:List Env)(P:Program)(w:World)(H:Hp)(s:Shared)(Q:VK)(E:XK)(r:Result)(s':Shared):Prop:=
 match r with
 |.ok (.ret u)=>CE outer P w H s Q u s'
 |.ok _=>False
 |.error e=>CX outer H s E e s'
structure FnOk (P:Program) (w:World) (K:PySem.W.Frag) (mg:Str->Option Value) (base:Heap) (CX:CXT) (k:Nat) (f:Addr) (fd:FuncData) (ps:List Str) (sp:Sp):Prop where
 len:∀vs H Q E,sp vs H Q E->vs.length=ps.length
 run:∀(A:Around) (outer:List Env) (s:Shared) (H:Hp) (args:Args) (us:List Value) (vs:List V) (Q:VK) (E:XK),Room k A->Env0 P w K mg base A outer s H->BindsTo s fd args (ps.zip us)->Vals vs us->sp vs H Q E->
  codeAny (model P w) A (.call (.ref f) args) (CR CX outer P w H s Q E) s
def FnOk.imp{P}{a}(F:FnOk P w K mg base CX k f fd ps sp)(h:∀vs H Q E,a vs H Q E->sp vs H Q E):FnOk P w K mg base CX k f fd ps a:=
 #[λvs H Q E q=>F.len vs H Q E<|h _ _ _ _ q,λA o s H b u vs Q E g i j c e=>F.run A o s H b u vs Q E g i j c<|h _ _ _ _ e]
def Env0.make{P}(e:Env0 P w K mg base A outer s H)C us kw :
  Env0 P w K mg base (A.under<|.builtin "type.__call__" #[.ref C::us,kw]) outer s H:=#[by first|exact e.frames|(simpa[Around.under,Code.envs,Code.isFrame,pushEnvs]using e.frames),e.mod,e.bs,e.bsz,e.funs,e.frf,e.hok,e.bare,e.tab]
def Inv.env0(I:Inv X pz σ H s):Env0 X.prog X.w X.K X.mg X.base X.A X.stack s H:=
 #[I.ok.frames,I.ok.mod,I.bs,YA I.ok.bsz I.sz,I.stack,I.stkFree,I.hok,I.bare,I.tab]
def Inv.after{Q}(I:Inv X pz σ H s)(h:CE X.stack X.prog X.w H s Q u s'):EP X pz σ Q u s':=by let#[v,i,e,a,un,c,r,q]:=h;let#[f,g,d,t,o]:=s';obtain rfl:o=s.os:=e;exact#[v,i,I.call un c a λb z=>absurd z<|by simp,r,q]
def B8(sp:Sp)(dvs:List V)(E:XK)(t:TA):TE:=λa H Q=>t a H λb c=>sp (b++dvs) c Q E
def w4(C:Addr)(m:Str)(sp:Sp)(dvs:List V)(E:XK)(ta:TE)(t:TA):TE:=λb H Q=>ta b H λx c=>∃a f fs,x=.ref a/\c a=!.ins C f fs/\fs.lookup m=() /\
 t b c λe g=>sp (x::(e++dvs)) g Q E
def Lf(C:Addr)(sp:Sp)(dvs:List V)(E:XK)(t:TA):TE:=λc H Q=>t c H λe b=>∀x a,b x=()->b a=()->a≠x->
 sp (.ref x::(e++dvs)) (upd (upd b a<|.own x) x<|.ins C a []) (λv f=>v=.non/\Q (.ref x) f) E
def Binds(K:Kq)(fd:FuncData)(ps:List Str)(ds:List Value):Prop:=
 ∀s u,K.In s.heap->(u++ds).length=ps.length->BindsTo s fd #[u,[]] (ps.zip<|u++ds)
def Binds.all(h:∀us:List Value,us.length=ps.length->bindArgs fd #[us,[]]=pure (ps.zip us)):Binds K fd ps []:=λs us z a=>by
 rw[Zc]at a ⊢;exact .of_eq<|h us a
def jV(CX:CXT)(X:Cx)(E:XK):Prop:=∀(p:Kp) (b:St) H s e a,Inv X p b H s->CX X.stack H s E e a->X.xe e a
section
variable{k:Nat}{dvs:List V}{ds:List Value}{E:XK}{t:TA}
def xj{Q}(F:FnOk X.prog X.w X.K X.mg X.base CX k f fd ps sp)(g:Room k X.A)(j:Binds X.K fd ps ds)(hd:Vals dvs ds)(hx:jV CX X E)(I:Inv X pz σ H s)(r:Vals vs us)(h:sp (vs++dvs) H Q E):wpAny (model X.prog X.w) X.A (call (.ref f) us) (EP X pz σ Q) X.xe s:=by
 let b:=r.append hd;have i:(us++ds).length=ps.length:=by rw[<-b.length];exact F.len _ _ _ _ h
 exact Uj<|XB (F.run X.A X.stack s H #[us,[]] _ _ Q E g I.env0 (j s us I.kIn i) b h) λr c a=>?_;cases r with
 |error e=>exact hx pz σ H s e c I a
 |ok l=>
  cases l with
  |ret u=>exact I.after a
  |next=>exact False.elim a
  |brk=>exact False.elim a
  |cont=>exact False.elim a
def uL(F:FnOk X.prog X.w X.K X.mg X.base CX k f fd ps sp)(j:Room k X.A)(o:Gl X x)(l:X.mg x=!.ref f)(m:W.keepIn X.K (.ref f))(u:Binds X.K fd ps ds)(hd:Vals dvs ds)(hx:jV CX X E)(y:PA X (e::es) t)(b:nDb x:=by decide)(he:starEach (e::es) X.env=(false,eval e X.env)::starEach es X.env:=by rfl)(a:(backTo pos<|starEach es X.env).any (·.1)=false:=by rfl):PE X (.Call (.Name x p) (e::es) [] pos) (B8 sp dvs E t):=by
 intro i s g H Q I h;exact Xt<|nW I o l ?_ b;exact Uc I.ok.mod.kin m (bz (y pos i s g H _ I h) λB C z J c r q=>#[c.kIn,?_]) he a;exact xj F j u hd hx c r q
def zV{pl}(he:PE X o ta)(c:Cls X.K C)(z:Meth X.K C m f)(F:FnOk X.prog X.w X.K X.mg X.base CX k f fd ps sp)(P:Room k X.A)(R:Binds X.K fd ps ds)(hd:Vals dvs ds)(hx:jV CX X E)(S:PA X (e::es) t)(b:starEach (e::es) X.env=(false,eval e X.env)::starEach es X.env:=by rfl)(g:(backTo pos<|starEach es X.env).any (·.1)=false:=by rfl)(O:eval (.Call (.Attribute o m apos) (e::es) [] pos) X.env=(do
   let y <-eval o X.env
   standAt apos.atName
   let (f,first) <-holding [y]<|getMethod y m pl
   callWith pos f first (backTo pos<|starEach (e::es) X.env)<|backToKw pos<|keywordEach [] X.env):=by rfl):PE X (.Call (.Attribute o m apos) (e::es) [] pos) (w4 C m sp dvs E ta t):=by
 intro p s j H Q I h;exact W.methodCall_KW (bz (he p s j H _ I h) λu L x Y J M i=>?_) O;let#[a,dx,fs,T,U,l,q]:=i;subst T;obtain rfl:u=Value.ref a:=M;exact pD J U c z l ?_;exact Uc I.ok.mod.kin z.kp (bz (S pos p L j Y _ J q) λus Z vs H2 B r N=>#[B.kIn,?_]) b g;exact xj (vs:=.ref a::vs) F P R hd hx B (.cons qx r) N
def Ee{pl}(he:PE X o ta)(c:Cls X.K C)(i:Meth X.K C m f)(F:FnOk X.prog X.w X.K X.mg X.base CX k f fd ps sp)(B:Room k X.A)(J:Binds X.K fd ps ds)(hd:Vals dvs ds)(hx:jV CX X E)(z:eval (.Call (.Attribute o m apos) [] [] pos) X.env=(do
   let g <-eval o X.env
   standAt apos.atName
   let (f,first) <-holding [g]<|getMethod g m pl
   callWith pos f first (backTo pos<|starEach [] X.env)<|backToKw pos<|keywordEach [] X.env):=by rfl):PE X (.Call (.Attribute o m apos) [] [] pos) (w4 C m sp dvs E ta wu):=by
 intro y s j H Q I h;exact W.methodCall_KW (bz (he y s j H _ I h) λu N x P e p b=>?_) z;let#[a,O,fs,L,M,l,q]:=b;subst L;obtain rfl:u=Value.ref a:=p;exact pD e M c i l ?_;exact W.callWith_K0 e.kIn i.kp<|xj (vs:=[.ref a]) F B J hd hx e (.cons qx .nil) q
structure Mk (K:PySem.W.Frag) (C f:Addr):Prop where
 makes:PySem.W.makesIn K C=true
 init:PySem.W.findIn K (.ref C) "__init__"=!!.ref f
 fn:PySem.W.isFn K (.ref f)=true
 kp:PySem.W.keepIn K (.ref C)=true
def Cn{Q}(M:Mk X.K C f)(F:FnOk X.prog X.w X.K X.mg X.base CX k f fd ps sp)(l:Room (k+1) X.A)(o:Binds X.K fd ps ds)(hd:Vals dvs ds)(hx:jV CX X E)(I:Inv X pz σ H s)(r:Vals vs us)(h:∀x dx,H x=()->H dx=()->dx≠x->sp (.ref x::(vs++dvs)) (upd (upd H dx<|.own x) x<|.ins C dx []) (λv H2=>v=.non/\Q (.ref x) H2) E):wpAny (model X.prog X.w) X.A (call (.ref C) us) (EP X pz σ Q) X.xe s:=by
 let g:=h _ s.heap.objs.size (I.hok.fresh<|ZP _) (I.hok.fresh<|Yp _)<|Yz<|ZS _;let b:=Inv.made (C:=C) I;have c:Vals (V.ref _::(vs++dvs)) (Value.ref (s.heap.objs.size+1)::(us++ds)):=.cons rfl<|r.append hd;have m:(Value.ref (s.heap.objs.size+1)::us++ds).length=ps.length:=by let e:=c.length;rw[F.len _ _ _ _ g]at e;exact e.symm
 exact Uj<|D4 I.kIn M.makes M.init (Vk.mp M.fn)<|XB (F.run _ X.stack _ _ #[Value.ref _::us,[]] _ _ _ E (l.make C us [])
  (b.env0.make C us []) (o _ _ b.kIn m) c g) λr i a=>?_
 cases r with
 |error e=>exact hx pz σ _ _ e i b a
 |ok p=>
  cases p with
  |ret u=>
   let#[v,B,z,j,y,q]:=b.after a;subst y;exact#[j,#[V.ref _,B,z,qx,q]]
  |next=>exact False.elim a
  |brk=>exact False.elim a
  |cont=>exact False.elim a
def yM(M:Mk X.K C f)(F:FnOk X.prog X.w X.K X.mg X.base CX k f fd ps sp)(j:Room (k+1) X.A)(m:Gl X x)(l:X.mg x=!.ref C)(o:Binds X.K fd ps ds)(hd:Vals dvs ds)(hx:jV CX X E)(u:PA X (e::es) t)(b:nDb x:=by decide)(he:starEach (e::es) X.env=(false,eval e X.env)::starEach es X.env:=by rfl)(a:(backTo pos<|starEach es X.env).any (·.1)=false:=by rfl):PE X (.Call (.Name x p) (e::es) [] pos) (Lf C sp dvs E t):=by
 intro i s g H Q I h;exact Xt<|nW I m l ?_ b;exact Uc I.ok.mod.kin M.kp (bz (u pos i s g H _ I h) λz B y J c r q=>#[c.kIn,?_]) he a;exact Cn M F j o hd hx c r q
end
structure FnScope (N P:List Str) (sc:Scope):Prop where
 kind:sc.kind=.function
 co:sc.isCoroutine=false
 gen:sc.isGenerator=false
 nd:N.Nodup
 pre:N.take P.length=P
 par:∀x∈P,sc.names.lookup x=!.local\/sc.names.lookup x=!.cell
 nofree:∀y∈sc.names,y.2≠.free
theorem rQ{a}:∀{binds}{m:Ks},(∀v,(x,v)∉binds)->bindL a binds m x=m x
 |[],_,_=>rfl
 |(n,v)::r,m,h=>by
  delta bindL;rw[rQ λw b=>h w<|Yd _ b];split
  .have:x≠n:=by rintro rfl;exact h v Ye
   simp[this]
  .rfl
theorem rL{a}:∀{binds}{m:Ks},(∀v,(x,v)∉binds)->bindC a binds m x=m x
 |[],_,_=>rfl
 |(n,v)::r,m,h=>by
  delta bindC;rw[rL λw b=>h w<|Yd _ b];split
  .rfl
  .have:x≠n:=by rintro rfl;exact h v Ye
   simp[this]
theorem r6{a}{v}:∀{P:List Str}{vs}{i:Nat}{m:Ks},P.Nodup->P[i]?=!x->vs[i]?=!v->a x=!.local->
  bindL a (P.zip vs) m x=!v
 |[],_,_,_,_,h,_,_=>by simp at h
 |_::_,[],_,_,_,_,h,_=>by simp at h
 |p::P,w::vs,0,m,nd,h1,h2,hk=>by
  simp at h1 h2;subst h1;subst h2;show bindL a ((p,w)::P.zip vs) m p=_;delta bindL;rw[rQ λv b=>(YX.mp nd).1 (VS b).1,Yl hk];simp
 |p::P,w::vs,i+1,m,nd,h1,h2,hk=>by
  delta bindL;exact r6 (YX.mp nd).2 (by simpa using h1) (by simpa using h2) hk
theorem rN{a}{v}:∀{P:List Str}{vs}{i:Nat}{m:Ks},P.Nodup->P[i]?=!x->vs[i]?=!v->a x≠!.local->
  bindC a (P.zip vs) m x=!v
 |[],_,_,_,_,h,_,_=>by simp at h
 |_::_,[],_,_,_,_,h,_=>by simp at h
 |p::P,w::vs,0,m,nd,h1,h2,hk=>by
  simp at h1 h2;subst h1;subst h2;show bindC a ((p,w)::P.zip vs) m p=_;delta bindC;rw[rL λv b=>(YX.mp nd).1 (VS b).1,Yn hk];simp
 |p::P,w::vs,i+1,m,nd,h1,h2,hk=>by
  delta bindC;exact rN (YX.mp nd).2 (by simpa using h1) (by simpa using h2) hk
def start(N:List Str)(vs:List V):St:=vs.map some++List.replicate (N.length-vs.length) ()
def gP(CX:CXT)(P:Program)(w:World)(K:Kq)(mg:Ks)(base:Heap)(N:List Str)(qual:Str)(scope:Scope)(f:Addr)(cd:Value)(A:Around)(outer:List Env)(s:Shared)(H:Hp)(E:XK):Cx where
 prog:=P
 w:=w
 K:=K
 mg:=mg
 base:=base
 A:=A.deeper<|envOfC qual scope s.heap.objs.size f cd
 N:=N
 s₀:=s
 H₀:=H
 env:=envOfC qual scope s.heap.objs.size f cd
 outer:=outer
 stack:=envOfC qual scope s.heap.objs.size f cd::outer
 ex:=[]
 calm:=true
 fn:=λ_=>true
 pn:=[]
 xe:=λe b=>wpAny (model P w) (A.deeper<|envOfC qual scope s.heap.objs.size f cd) (leaving (envOfC qual scope s.heap.objs.size f cd) e) (λ_ a=>CX outer H s E e a) (λc a=>CX outer H s E c a) b
def vw{s:Scope}(h:s.names.lookup x=!.cell):∃c,(cellsFrom n s.names []).lookup x=!c:=by let q:=XN s.names n []<|.inl h;exact Xd.mp q
theorem rZ{P}{E}(S:FnScope N ps scope)(hd:A.handled=())(e0:Env0 P w K mg base A outer s H)(Q:vs.length=ps.length)(r:Vals vs us)(x:InCallC s s.heap.objs.size (bindL (envOfC qual scope s.heap.objs.size f cd).kindOf (ps.zip us) λt=>()) (cellsFrom (s.heap.objs.size+1) scope.names []) (bindC (envOfC qual scope s.heap.objs.size f cd).kindOf (ps.zip us) λt=>()) s1):Inv (gP CX P w K mg base N qual scope f cd A outer s H E) [] (start N vs) H s1:=by
 have L:ps.length<=N.length:=by have:=YU List.length S.pre;rw[ZT]at this;lia
 let#[B,O,rfl,I]:=x.done;have j:∀b:Addr,b∉(gP CX P w K mg base N qual scope f cd A outer s H E).ex:=λb z=>absurd (show b∈([])from z)<|by simp
 exact#[#[e0.mod,S.kind,qx,qx,Yp _,λy z c B g=>?_,λy hy=>?_,λy c t h=>?_,λt=>hd,Around.frames_deeper e0.frames,.inr #[rfl,rfl],λb z=>absurd z<|j b,e0.bs,e0.bsz,λb t t=>j b,λb z=>absurd z<|j b,e0.funs,e0.frf,e0.tab],
  rfl,e0.bare,Un.kept I,#[_,x.toInCall.ns,λi y v B g R=>?_],λy c h=>#[_,x.cell y c h],e0.hok.fresh<|Yp _,λy c h=>?_,λp m=>absurd (show p∈([])from m)<|by simp,e0.hok.kept I,?_]
 .exact name_of_addr x.apart (Zv B)<|Zv g
 .let hy:=hy;rcases hy with hy|hy
  .exact vw hy
  .exact absurd rfl<|S.nofree _<|Zv hy
 .exact ZG<|x.above y c<|Zv h
 .have o:i<vs.length:=by
   delta start at g;by_cases o:i<vs.length
   .exact o
   .rw[Zu<|by simpa using o]at g;rw[XF]at g;split at g<;>cases g
  have M:vs[i]?=!v:=by
   delta start at g;rw[ZA<|by simpa using o,Yt]at g;cases e:vs[i]? with
   |none=>rw[e]at g;cases g
   |some a=>rw[e]at g;cases g;rfl
  let#[u,C,J]:=r.get M;have m:ps[i]?=!y:=by rwa[<-S.pre,List.getElem?_take_of_lt<|by lia]
  have l:ps.Nodup:=by rw[<-S.pre];exact S.nd.sublist<|List.take_sublist _ _
  exact#[u,J,?_];rcases S.par y (YR m)with k|k
  .exact .inl #[k,r6 l m C k]
  .let#[c,e]:=vw (n:=s.heap.objs.size+1) k;exact .inr #[.inl k,c,e,?_];let q:=x.cell y c e;rwa[rN l m C<|by show scope.names.lookup y≠_;rw[k];decide]at q
 .exact e0.hok.fresh<|ZG<|x.above y c<|Zv h
 .delta start;show _=N.length;rw[Yo,Ya,YS];lia
def He{P}{p}{L kV doc pm cdv ct oc}(T:K.lookup f=!#[oc,od,.func<|W.fnOf name qual p body scope L kV doc pm an cdv ct,osl])(hcd:W.codeIn K cdv qual)(S:FnScope N ps scope)(len:∀vs H Q E,sp vs H Q E->vs.length=ps.length)(c:∀A outer s H vs Q E,Room k (A.deeper<|envOfC qual scope s.heap.objs.size f cdv)->sp vs H Q E->
   ∃t,PSs (gP CX P w K mg base N qual scope f cdv A outer s H E) body t/\t {nx:=λd H'=>Q .non H',rt:=Q} (start N vs) H):FnOk P w K mg base CX (k+1) f (W.fnOf name qual p body scope L kV doc pm an cdv ct) ps sp:=by
 exact#[len,λA outer s H M R vs Q E B j hb r i=>?_];let Z:=len _ _ _ _ i;let O:=j.mod.kin.keeps λb o e=>(j.bs b o e).1
 let z:=j.mod.nolimit.keeps λb o e=>(j.bs b o e).1
 have h:∀y∈ps.zip R,scope.names.lookup y.1=!.local\/(scope.names.lookup y.1=!.cell/\((cellsFrom (s.heap.objs.size+1) scope.names []).lookup y.1).isSome):=λ#[n,v] U=>by
  rcases S.par n (VS U).1 with q|q
  .exact .inl q
  .exact .inr #[q,XN _ _ _<|.inl q]
 exact codeAny_call_function B.depth (O _ _ T) qx S.co S.gen qx (W.codeRec_of O hcd)<|hb _ _ _ _ ?_;exact wpAny_newFunctionEnv_cells S.kind h λenv he C x=>?_;subst he;exact#[z.keeps x.toInCall.keep,codeAny_func ?_];let#[t,X,Y]:=c A outer s H vs Q E (B.deeper _) i;have I:Inv (gP CX P w K mg base N qual scope f cdv A outer s H E) [] _ H C:=rZ S B.hd j Z r x;exact ZR (X [] C _ H _ I Y) (λfl l g=>?_) λe l g=>g;have fin:∀{a}{H'}{v}{u},Inv (gP CX P w K mg base N qual scope f cdv A outer s H E) [] a H' l->RelV v u->Q v H'->CE outer P w H s Q u l:=
  λ{a H' v u} J m q=>#[v,H',J.os,J.bare,J.base,J.hok,m,q]
 cases fl with
 |ret u=>
  let#[v,a,H',J,m,q]:=g;exact fin J m q
 |next=>
  let#[a,H',J,q]:=g;exact fin (v:=V.non) J qx q
 |brk=>
  let#[_,_,_,q]:=g;exact False.elim q
 |cont=>
  let#[_,_,_,q]:=g;exact False.elim q
section
variable{t:TA}{id T:String}{r:List V->Hp->VK->Prop}
def tCB(r:List V->Hp->VK->Prop)(t:TA):TE:=λa H Q=>t a H λb c=>r b c Q
def g_(w:CallR X (.builtin id) r)(o:Gl X x)(m:X.mg x=())(hv:bootBuiltins x=!.builtin id)(y:PA X (e::es) t)(l:x ≠ "__name__":=by decide)(b:nDb x:=by decide)(he:starEach (e::es) X.env=(false,eval e X.env)::starEach es X.env:=by rfl)(a:(backTo pos<|starEach es X.env).any (·.1)=false:=by rfl):PE X (.Call (.Name x p) (e::es) [] pos) (tCB r t):=by
 intro f s c H Q I h;exact Xt<|mI I o m hv ?_ l b;exact PyProof.Rows.callWith_builtin1 (bz (y pos f s c H _ I h) λu i g A z j q=>w f i c A g u Q z j q) he a
def eD(w:CallR X (.type T) r)(o:Gl X x)(m:X.mg x=())(hv:bootBuiltins x=!.type T)(y:PA X (e::es) t)(l:x ≠ "__name__":=by decide)(b:nDb x:=by decide)(he:starEach (e::es) X.env=(false,eval e X.env)::starEach es X.env:=by rfl)(a:(backTo pos<|starEach es X.env).any (·.1)=false:=by rfl):PE X (.Call (.Name x p) (e::es) [] pos) (tCB r t):=by
 intro f s c H Q I h;exact Xt<|mI I o m hv ?_ l b;exact Xo (bz (y pos f s c H _ I h) λu i g A z j q=>w f i c A g u Q z j q) he a
end
end L2
namespace HT
open PySem PyProof.Rows
def rcLt_int A s a t c u prog w E Q(h:Q (.bool (decide (a<c))) s) :
  wpAny (model prog w) A (richCompare .Lt (.int a t)<|.int c u) Q E s:=
 PyProof.Rows.lt_int h
section
open PySem.SeqAt
open PySem.AutoSeq1 (wpAny_loadPart')
open PySem.MeetsSeq PySem.MeetsSeq2 PySem.MeetsSeq3
end
def cat_tup{t b}{vs a}(y:IsTup s.heap t vs.toArray)(z:IsTup s.heap b a.toArray)(hv:vs≠[])(h1:a=[]->Q (.ref t) s)(h2:a≠[]->Q (.ref s.heap.objs.size) {s with heap:=s.heap.push {cls:=.type "tuple",data:=.seq (vs++a).toArray} })(hsz:vs.length+a.length<=sizeLine):wpAny (model prog w) A (binaryOp .Add (.ref t)<|.ref b) Q E s:=by
 let#[#[cls,u,data,o],l,q,n,p]:=id y;let#[#[x,i,m,c],h,g,n2,f]:=id z;subst q p g f;have e:vs.toArray++a.toArray=(vs++a).toArray:=by simp
 by_cases j:a=[]
 .exact concat_meets #[_,l,qx] #[_,h,qx] noFill_tuple_add seq_tuple_add F.slot_tuple_add F.entry_tuple_add (F.args_tuple_add_2 _ _)
   (tuple_addW1 t b vs.toArray a.toArray n n2 u i o c (by simpa using hv)<|by simp[j]) #[l,h,h1 j]
 .exact concat_meets #[_,l,qx] #[_,h,qx] noFill_tuple_add seq_tuple_add F.slot_tuple_add F.entry_tuple_add (F.args_tuple_add_2 _ _)
   (tuple_addW2 t b vs.toArray a.toArray n n2 u i o c (by simpa using hv) (by simpa using j)<|by rwa[List.size_toArray,List.size_toArray]) #[l,h,?_]
  rw[e];exact h2 j
def sIx(n d:Nat):Option Int->Nat
 |none=>d
 |some v=>if v<0 then(v+n).toNat else min v.toNat n
end HT
namespace L2
open PySem PySem.Spec PyProof.Rows
abbrev TO:=St->Hp->(Option Int->Hp->Prop)->Prop
def PO(X:Cx)(e:Option Expr)(t:TO):Prop:=
 ∀(p:Kp) s (a:St) H Q,Inv X p a H s->t a H Q->
  wpAny (model X.prog X.w) X.A (evalPart e X.env) (λu c=>∃o b,Inv X p a b c/\IsPart u o/\Q o b) X.xe s
def EZ:TO:=λ_ H Q=>Q () H
def Lh(t:TE):TO:=λa H Q=>t a H λx b=>∃i,x=.int i/\Q (!i) b
section
variable{lo hi:Option Expr}{tl th:TO}{p2:Pos}
def FW:PO X () EZ:=by intro p s a H Q I h;exact Yj #[(),H,I,.none,h]
def G8(h:PE X e te):PO X (!e) (Lh te):=by intro p s a H Q I f;exact bz (h p s a H _ I f) λu l x j g b c=>?_;let#[i,rfl,q]:=c;let#[t,rfl]:=b;exact#[!i,j,g,.int i t,q]
def SlR(X:Cx)(r:V->Option Int->Option Int->Hp->VK->Prop):Prop:=
 ∀(p:Kp) s (a:St) H x v c b lo h e Q,Inv X p a H s->RelV x v->s.heap.IsSliceOf e c b .none->IsPart c lo->IsPart b h->r x lo h H Q->
  ∃T i,typeLookup (.type T) "__getitem__"=pure (!.builtin i)/\s.TypeIs v T/\wpAny (model X.prog X.w) X.A (getItem v<|.ref e) (EP X p a Q) X.xe s
def tSl(r:V->Option Int->Option Int->Hp->VK->Prop)(te:TE)(tl th:TO):TE:=λa H Q=>te a H λx e=>tl a e λl c=>th a c λu b=>r x l u b Q
def Cz(L:SlR X r)(he:PE X e te)(M:PO X lo tl)(J:PO X hi th):PE X (.Subscript e (.Slice lo hi () p2) pos) (tSl r te tl th):=by
 intro p s c H Q I h;exact Subscript_<|bz (he p s c H _ I h) λv m x Z U o B=>?_;exact wpAny_Slice<|bz (M p m c Z _ U B) λg j l Y S E z=>bz (J p j c Y _ S z) λf a u i R C y=>?_;exact Yj ?_;have P:Inv X p c i {a with heap:=a.heap.push {cls:=.type "slice",data:=.fields #[[g,f,.none]]} }:=R.kept λb ob q=>Yf _ q
 let#[T,id,O,K,N]:=L p {a with heap:=a.heap.push {cls:=.type "slice",data:=.fields #[[g,f,.none]]} } c i x v g f l u a.heap.objs.size Q P o (Heap.IsSliceOf.new ..) E C y;exact tail_any K O N<|by with_unfolding_all rfl
def Aq(xs:List V)(lo hi:Option Int):List V:=(xs.drop<|HT.sIx xs.length 0 lo).take<|HT.sIx xs.length xs.length hi-HT.sIx xs.length 0 lo
theorem wN xs lo hi:(Aq xs lo hi).length<=xs.length:=by delta Aq;rw[ZT,XJ];lia
def KN(K:Kq):R2:=λx y H Q=>∃a b e c,x=.ref a/\y=.ref b/\SqT K H a e/\SqT K H b c/\e≠[]/\e.length+c.length<=sizeLine /\
 (c=[]->Q (.ref a) H)/\(c≠[]->∀p,H p=()->Q (.ref p) (upd H p<|.tup<|e++c))
def Vals.nil_iff(r:Vals xs us):us=[]↔xs=[]:=by
 cases r with
 |nil=>simp
 |cons _ _=>simp
def FY:OpR X (binaryOp .Add) (KN X.K):=by intro O s N H x y v u Q I m l h;let#[a,b,j,g,rfl,rfl,M,L,J,f,A,p]:=h;cases m;cases l;let#[E,e,C,_]:=I.tuple M;let#[i,c,B,_]:=I.tuple L;exact HT.cat_tup C B (λz=>J<|e.nil_iff.mp z) (λz=>#[.ref a,H,I,qx,A<|c.nil_iff.mp z]) (λz=>?_) (by rwa[<-e.length,<-c.length]);exact#[.ref s.heap.objs.size,_,I.laid (λb P q=>Yf _ q) (Yp _) ?_,qx,p (λw=>z<|c.nil_iff.mpr w) _<|I.hok.fresh<|Yp _];exact#[by rwa[Yo],_,e.append c,IsTup.new _ _,NoD.new _ _]
end
def ixN(n:Nat)(i:Int):Option Nat:=if 0<=i then(if i<n then !i.toNat else ())else if -n<=i then some (i+n).toNat else ()
def atI{α:Type}(xs:List α)(i:Int):Option α:=(ixN xs.length i).bind λj=>xs[j]?
theorem Gd{i}(h:ixN n i=!j):seqIndex? i n=!j/\j<n/\-n<=i/\i<n:=by
 delta ixN at h;by_cases b:0<=i
 .rw[Yl b]at h;by_cases a:i<n
  .rw[Yl a]at h;let e:=YG h;exact#[by rw[seqIndex_of b a,e],by lia,by lia,a]
  .rw[Yn a]at h;cases h
 .rw[Yn b]at h;by_cases a:-n<=i
  .rw[Yl a]at h;let e:=YG h;exact#[by rw[seqIndex_neg (by lia) a,e],by lia,a,by lia]
  .rw[Yn a]at h;cases h
def uh{a}{xs}{i}{v:a}(h:atI xs i=!v):∃j,seqIndex? i xs.length=!j/\xs[j]?=!v/\j<xs.length/\-xs.length<=i/\i<xs.length:=by
 let#[j,e,h]:=YK.mp h;let#[g,f,c,b]:=Gd e;exact#[j,g,h,f,c,b]
theorem iP{a}{xs}{v:a}(h:xs[j]?=!v):atI xs j=!v:=by
 let b:=(Ym.mp h).1;have e:ixN xs.length j=!j:=by delta ixN;rw[Yl<|by lia,Yl<|by lia];simp
 delta atI;rwa[e]
theorem pQ{a}xs(v:a):atI (xs++[v]) (-1)=!v:=by
 have h:(xs++[v]).length=xs.length+1:=by simp
 have e:ixN (xs++[v]).length (-1)=!xs.length:=by
  delta ixN;rw[h,Yn<|by decide,Yl<|by lia]
  congr 1
  lia
 delta atI;rw[e];simp
def iV(b:Expr):Prop:=∀o i,subscripted b false o i=operate [o,i] (getItem o i)
def IxR(X:Cx)(r:R2):Prop:=
 ∀b a (p:Kp) s (c:St) H x y v u Q,Inv X p c H s->RelV x v->RelV y u->r x y H Q->
  subscripted a false v u=operate [v,u] (getItem v u)->wpAny (model X.prog X.w) X.A (subscriptTail b a v u) (EP X p c Q) X.xe s
def MtR(X:Cx)(id:String)(r:V->List V->Hp->VK->Prop):Prop:=
 ∀(p:Kp) s (a:St) H x b v u Q,Inv X p a H s->RelV x v->Vals b u->r x b H Q->
  wpAny (model X.prog X.w) X.A (call (.builtin id) (v::u)) (EP X p a Q) X.xe s
section
variable{a:Expr}
def IxR.or(h:IxR X r)(h':IxR X g):IxR X (λx y H Q=>r x y H Q\/g x y H Q):=by
 intro a b p s c H x y v u Q I f e q i;rcases q with q|q
 .exact h a b p s c H x y v u Q I f e q i
 .exact h' a b p s c H x y v u Q I f e q i
def r_(i:IxR X r)(l:PE X a ta)(j:PE X b tb)(hs:iV b):PE X (.Subscript a b pos) (tOp r ta tb):=by intro p s c H Q I h;exact Subscript_<|JQ l j I h λv u e x y o m g f q=>i a b p e c o x y v u Q m g f q<|hs _ _
def KJ(K:Kq):R2:=λx y H Q=>∃p a i v,x=.ref p/\y=.int i/\SqL K H p a/\atI a i=!v/\Q v H
def K4(K:Kq):R2:=λx y H Q=>∃p a i v,x=.ref p/\y=.int i/\SqT K H p a/\atI a i=!v/\Q v H
def Ky:R2:=λx y H Q=>∃z i c,x=.str z/\y=.int i/\z.length<=sizeLine/\atI z.cps.toList i=!c/\Q (.str #[#[[c]]]) H
theorem Gm:IxR X (KJ X.K):=by
 intro b c o s m H x y v u Q I L J h A;let#[p,T,i,z,rfl,rfl,M,O,q]:=h;cases L;let#[t,rfl]:=J;let#[g,r,f,U]:=I.list M;let#[j,a,S,Z,R,P]:=uh O;let#[w,C,e]:=r.get S;let N:=r.length;let Y:=mf;have fin:EP X o m Q w s:=#[z,H,I,e,q]
 by_cases B:0<=i
 .have l:i.toNat=j:=by rw[seqIndex_of B P]at a;exact YG a
  exact item_listR f.isList B (by lia) (by rw[l];simpa using C) fin A
 .have l:(i+g.toArray.size).toNat=j:=by rw[seqIndex_neg (by lia) R]at a;rw[Yy,<-N];exact YG a
  exact subscriptTail_builtinR f.isList.typeIs slot_list_getitem.lookup
   (wpAny_getItem_list_neg f.isList (by lia) (by rw[Yy]<;>lia) (by lia) (by rw[l];simpa using C) #[qx,fin]) A
def JD:IxR X (K4 X.K):=by
 intro a b f s e H x y v u Q I o m h B;let#[p,O,i,z,rfl,rfl,C,J,q]:=h;cases o;let#[t,rfl]:=m;let#[A,r,g,P]:=I.tuple C;let#[j,M,L,U,T,S]:=uh J;let#[w,N,c]:=r.get L;let E:=r.length;let R:=mf;have fin:EP X f e Q w s:=#[z,H,I,c,q]
 exact subscriptTail_builtinR g.typeIs slot_tuple_getitem.lookup
  (getItem_tuple g (by lia) (by lia) (by rwa[Yy,<-E]) (by simpa using N) #[qx,fin]) B
theorem Je:IxR X Ky:=by
 intro a b K s E H x y v u Q I g f h l;let#[z,i,c,rfl,rfl,L,o,q]:=h;let#[t,rfl]:=g;let#[J,rfl]:=f;let#[j,e,A,N,w,p]:=uh o;have m:z.cps.toList.length=z.length:=by simp[Str.length]
 rw[m]at e w p;let M:=mf;exact tail_any (typeIs_str s z t) slot_str_getitem.lookup (getItem_str (by
  have C:decide (i < -(2^63))=false:=YB (by lia);have B:decide (i ≥ 2^63)=false:=YB (by lia);rw[C,B,XU]) (by rw[e];simpa using A) #[.str #[#[[c]]],H,I.tok _,#[_,qx],q]) l
def rIx(K:Kq):R2:=λx y H Q=>KJ K x y H Q\/K4 K x y H Q\/Ky x y H Q
def lT:IxR X (rIx X.K):=Gm.or<|JD.or Je
theorem uY lo hi n:(sliceBounds lo hi () n).1=(HT.sIx n 0 lo)/\(sliceBounds lo hi () n).2.1=(HT.sIx n n hi)/\(sliceBounds lo hi () n).2.2=1:=by
 exact#[?_,?_,qx]
 .cases lo with
  |none=>simp[sliceBounds,HT.sIx]
  |some i=>
   simp[sliceBounds,HT.sIx];by_cases h:i<0
   .simp[h]<;>lia
   .simp[h]<;>lia
 .cases hi with
  |none=>simp[sliceBounds,HT.sIx]
  |some i=>
   simp[sliceBounds,HT.sIx];by_cases h:i<0
   .simp[h]<;>lia
   .simp[h]<;>lia
def qS(its:List Value)lo hi:slicePick its.toArray lo hi ()=((its.drop (HT.sIx its.length 0 lo)).take (HT.sIx its.length its.length hi-HT.sIx its.length 0 lo)).toArray:=by let#[b,a,h]:=uY lo hi its.toArray.size;delta slicePick;rw[b,a,h];simp only[sliceRange_one,pick_run]<;>rfl
def M0(K:Kq):V->Option Int->Option Int->Hp->VK->Prop:=λx lo h H Q=>∃a b,x=.ref a/\SqL K H a b/\∀p,H p=()->Q (.ref p) (upd H p<|.lst<|Aq b lo h)
theorem Gf:SlR X (M0 X.K):=by intro C s y H x v A z lo f B Q I i w j p h;let#[a,c,rfl,u,q]:=h;cases i;let#[l,r,g,m]:=I.list u;let e:=r.length;exact#["list",_,slot_list_getitem.lookup,g.isList.typeIs,?_];exact wpAny_getItem_list_slice g.isList w j p .none (by simp) ?_ (by rw[Yy]<;>lia);rw[qS,<-e];exact#[.ref s.heap.objs.size,_,I.laid (λb E q=>Yf _ q) (Yp _) ?_,qx,q _<|I.hok.fresh<|Yp _];exact#[YA (wN c lo f) m,_,0,(r.drop _).take _,Yq _ qx]
theorem tq:CallR X (.builtin "len") (λxs H Q=>∃p ys,xs=[.ref p]/\(SqL X.K H p ys\/SqT X.K H p ys)/\Q (.int ys.length) H):=by
 intro l s g H xs j Q I r h;let#[p,ys,rfl,hq,q]:=h;let#[u,rfl,e]:=fB r;cases e;let m:=mf;rcases hq with hq|hq
 .let#[i,b,c,f]:=I.list hq;let a:=b.length;exact Calls.call_len_list c.isList (by simp<;>lia) #[.int ys.length,H,I.tok _,#[s.toks+1,by rw[Yy,a]],q]
 .let#[i,b,c,f]:=I.tuple hq;let a:=b.length;exact len_tuple c (by simp<;>lia) #[.int ys.length,H,I.tok _,#[s.toks+1,by rw[Yy,a]],q]
def uG:CallR X (.builtin "len") (λxs H Q=>∃z,xs=[.str z]/\z.length<=sizeLine/\Q (.int z.length) H):=by intro p s a H xs b Q I r h;let#[z,rfl,c,q]:=h;let#[u,rfl,t,rfl]:=fB r;let e:=mf;exact len_str (by lia) #[.int z.length,H,I.tok _,#[_,qx],q]
def CallR.or{f}{r c}(h:CallR X f r)(h':CallR X f c):CallR X f (λxs H Q=>r xs H Q\/c xs H Q):=by
 intro p s a H xs u Q I b q;rcases q with q|q
 .exact h p s a H xs u Q I b q
 .exact h' p s a H xs u Q I b q
def tm:CallR X (.type "list") (λxs H Q=>∃p ys,xs=[.ref p]/\(SqL X.K H p ys\/SqT X.K H p ys)/\∀l,H l=()->Q (.ref l) (upd H l (.lst ys))):=by
 intro J s C H xs L Q I r h;let#[p,ys,rfl,hq,q]:=h;let#[u,rfl,E]:=fB r;cases E;have fin:∀i,Vals ys i->ys.length<=sizeLine->∀a f,(∀b B,s.heap.get? b=!B->a.get? b=!B)->
   a.get? s.heap.objs.size=some {cls:=.type "list",dict:=(),data:=.seq i.toArray f,slots:=#[[]]}->EP X J C Q _ {s with heap:=a }:=λi c j a f g e=>
  #[.ref s.heap.objs.size,_,I.laid g (Yp _)<|show ObjOk X.prog X.w _ a _ (.lst ys)from#[j,i,f,c,e],qx,q _<|I.hok.fresh<|Yp _]
 rcases hq with hq|hq
 .let#[i,c,x,j]:=I.list hq;let m:=c.length;let#[o,y,A,n,z]:=x.isList;exact call_list_seq p (.inl qx) y A z (λa f g e=>fin i c j a f g e)<|by simp<;>lia
 .let#[i,c,x,j]:=I.tuple hq;let m:=c.length;let#[o,y,A,n,z]:=x;exact call_list_seq p (.inr qx) y A z (λa f g e=>fin i c j a f g e)<|by simp<;>lia
def qL:CallR X (.type "tuple") (λxs H Q=>∃p ys,xs=[.ref p]/\((SqL X.K H p ys/\∀l,H l=()->Q (.ref l) (upd H l (.tup ys)))\/(SqT X.K H p ys/\Q (.ref p) H))):=by
 intro m s j H xs E Q I r h;let#[p,ys,rfl,h]:=h;let#[u,rfl,A]:=fB r;cases A;rcases h with⟨g,q⟩|⟨g,q⟩
 .let#[i,c,f,x]:=I.list g;let y:=c.length;exact call_tuple_list f.isList (λa B=>?_) (by simp<;>lia);let z:=I.kept (t':=s.toks) B;let C:=
   z.laid (t':=s.toks) (λb o e=>Yf _ e) (Yp _)<|show ObjOk X.prog X.w _ _ _ (.tup ys)from#[x,i,c,IsTup.new _ _,NoD.new _ _]
  exact#[.ref a.objs.size,_,C,qx,q _<|z.hok.fresh<|Yp _]
 .let#[i,c,f,x]:=I.tuple g;exact call_tuple_same f #[.ref p,H,I,qx,q]
def tyV(K:Kq)(T:String)(x:V)(H:Hp):Prop:=match x with
 |.str _=>T = "str"
 |.int _=>T = "int"
 |.ref p=>(T = "list"/\∃b,SqL K H p b)\/(T = "tuple"/\∃o,K.lookup p=!o/\o.cls=.type "tuple"/\o.dict=()) \/
   (T = "dict"/\((∃a,H p=!.dK a)\/∃a,H p=!.dT a))\/(T = "set"/\∃S n,H p=!.set S n)
 |_=>False
def Ci{x}(I:Inv X pz σ H s)(r:RelV x v)(ty:tyV X.K T x H):s.TypeIs v T/\∀a,v=.ref a->∃ob,s.heap.get? a=!ob/\ob.dict=():=by
 cases x with
 |str z=>
  let#[t,rfl]:=r;cases(show T = "str" from ty);exact#[typeIs_str s z t,λ_ e=>nomatch e]
 |int i=>
  let#[t,rfl]:=r;cases(show T = "int" from ty);exact#[typeIs_int s i t,λ_ e=>nomatch e]
 |ref p=>
  cases r;rcases ty with⟨rfl,w,q⟩|⟨rfl,o,h,u,g⟩|⟨rfl,h⟩|⟨rfl,S,n,h⟩
  .let#[m,_,l,_]:=I.list q;exact#[l.isList.typeIs,λa e=>?_];cases e;let#[o,n,e,c,g,_]:=l;exact#[o,e,g]
  .exact#[#[o,I.kIn p o h,u],λa e=>?_];cases e;exact#[o,I.kIn _ o h,g]
  .have z:∃o,s.heap.get? p=!o/\o.ExactDict:=by
    rcases h with⟨f,h⟩|⟨f,h⟩
    .let#[_,_,_,_,o,_,_,e,b,_]:=I.hok p _ h;exact#[o,e,b]
    .let#[_,_,_,_,o,_,_,e,b,_]:=I.hok p _ h;exact#[o,e,b]
   let#[o,e,b]:=z;exact#[#[o,e,b.1],λa j=>?_];cases j;exact#[o,e,b.2.1]
  .let#[o,_,_,_,e,b,_]:=I.hok p _ h;exact#[#[o,e,b.1],λa j=>?_];cases j;exact#[o,e,b.2.1]
 |_=>exact False.elim ty
def Nd(K:Kq)(T:String)(r:V->List V->Hp->VK->Prop)(to:TE):TE:=λb H Q=>to b H λx a=>tyV K T x a/\r x [] a Q
def tBM(K:Kq)(T:String)(r:V->List V->Hp->VK->Prop)(to:TE)(t:TA):TE:=λa H Q=>to a H λx b=>tyV K T x b/\t a b λc e=>r x c e Q
variable{to:TE}{t:TA}{T id:String}{r:V->List V->Hp->VK->Prop}
def xL(l:PlainAttrs T)(slot:Slot T name id)(c:typeOf (.builtin id)=pure (.type "method_descriptor"))(u:MtR X id r)(m:PE X o to)(b:attributeBase o name X.env (eval o X.env)=eval o X.env:=by rfl)(a:(apos.endLine == cpos.line):=by rfl):PE X (.Call (.Attribute o name apos) [] [] cpos) (Nd X.K T r to):=by
 intro p s f H Q I h;exact wpAny_Call_method0_late b a<|bz (m p s f H _ I h) λv j x z i g e=>?_;let#[ty,q]:=e;let#[y,w]:=Ci i g ty;exact#[T,id,l,slot,c,y,w,Vu rfl<|PySem.evalArgs_none<|u p j f z x [] v [] Q i g .nil q]
def kU(E:PlainAttrs T)(slot:Slot T name id)(i:typeOf (.builtin id)=pure (.type "method_descriptor"))(L:MtR X id r)(J:PE X o to)(M:PA X (e::es) t)(c:attributeBase o name X.env (eval o X.env)=eval o X.env:=by rfl)(f:((backTo cpos<|starEach (e::es) X.env).all (λx=>(not<|x.1))&&(backToKw cpos<|keywordEach [] X.env).all (λx=>x.1.isSome)
   && decide ((e::es).length+([]:List Keyword).length+(if([]:List Keyword).isEmpty then 0 else 1)<30)):=by rfl)(b:(apos.endLine == cpos.line):=by rfl)(hs:starEach (e::es) X.env=(false,eval e X.env)::starEach es X.env:=by rfl)(a:(backTo cpos<|starEach es X.env).any (·.1)=false:=by rfl):PE X (.Call (.Attribute o name apos) (e::es) [] cpos) (tBM X.K T r to t):=by
 intro p s g H Q I h;exact wpAny_Call_method_late c f b rfl<|bz (J p s g H _ I h) λv z x S q l j=>?_;let#[ty,C]:=j;let#[O,N]:=Ci q l ty;exact#[T,id,E,slot,i,O,N,?_];let m:=M cpos p z g S _ q C;rw[hs]at m ⊢;exact Calls.callWith_builtin (by simp_all)<|Calls.evalArgs_plain ?_;exact bz m λw y u R P A B=>L p y g R x u v w Q P l A B
end
def MtM(X:Cx)(id:String)(r:V->List V->Hp->VK->Prop):Prop:=
 ∀(p:Kp) s (a:St) H x b v u Q,Inv X p a H s->RelV x v->Vals b u->r x b H Q->
  wpAny (model X.prog X.w) X.A (call (.builtin id) (v::u)) (EP X p a Q) X.xe s
def Vals.one{x}(h:Vals [x] us):∃u,us=[u]/\RelV x u:=fB h
def Vals.two{x}(h:Vals [x,y] us):∃u v,us=[u,v]/\RelV x u/\RelV y v:=Hy h
def Vals.zero:∀{us},Vals [] us->us=[]
 |_,.nil=>rfl
theorem Vals.eraseIdx:∀{xs}{us} i,Vals xs us->Vals (xs.eraseIdx i) (us.eraseIdx i)
 |_,_,_,.nil=>.nil
 |_,_,0,.cons _ t=>t
 |_,_,i+1,.cons r t=>.cons r<|Vals.eraseIdx i t
def Vals.reverse(h:Vals xs us):Vals xs.reverse us.reverse:=by
 induction h with
 |nil=>exact .nil
 |cons r t ih=>rw[List.reverse_cons,List.reverse_cons];exact Vals.append ih<|.cons r .nil
theorem re{a:Type}:∀(l:List a) i,(l.eraseIdx i).length<=l.length
 |[],_=>Yp _
 |_::_,0=>ZP _
 |_::r,i+1=>VJ<|re r i
section
variable{b:Addr}{zs:List V}
def Inv.lset{f}(I:Inv X pz σ H s)(c:H l=!.lst xs)(e:s.heap.get? l=some {cls:=.type "list",data:=.seq its.toArray n})(a:f its.toArray=its'.toArray)(hv:Vals ys its')(hz:ys.length<=sizeLine):Inv X pz σ (upd H l<|.lst ys) {s with heap:=s.heap.update l<|Obj.mapSeq f,toks:=t' }:=by
 let q:=IsL.update e f;rw[a]at q;exact I.write (by rw[c];exact trivial) (.inl qx) (λg u b h=>(Heap.get?_update_other s.heap _<|XE b).trans h) #[_,q] ?_;exact#[hz,its',_,hv,q]
def Inv.lnew(I:Inv X pz σ H s)(hv:Vals ys its)(hz:ys.length<=sizeLine):Inv X pz σ (upd H s.heap.objs.size<|.lst ys) {s with heap:=s.heap.push {cls:=.type "list",data:=.seq its.toArray},toks:=t' }:=
 I.laid (λz z q=>Yf _ q) (Yp _) #[hz,its,0,hv,Yq _ qx]
def Inv.fresh(I:Inv X pz σ H s):H s.heap.objs.size=():=I.hok.fresh<|Yp _
def Inv.lstM(I:Inv X pz σ H s)(h:H l=!.lst xs):xs.length<=sizeLine/\∃(its:List Value) (n:Nat),Vals xs its/\xs.length=its.length/\s.heap.get? l=some {cls:=.type "list",data:=.seq its.toArray n}:=by let#[z,its,n,r,e]:=I.hok l _ h;exact#[z,its,n,r,r.length,e]
theorem C1(h:n<=sizeLine):Builtin.List.listTooLong n=false:=by delta Builtin.List.listTooLong;exact YB<|by lia
end
def Gv:V->List V->Hp->VK->Prop:=λx b H Q=>∃l a y,x=.ref l/\b=[y]/\H l=!.lst a/\a.length<sizeLine/\Q .non (upd H l<|.lst<|a++[y])
theorem f7:MtM X "list.append" Gv:=by intro p s g H x m v o Q I b c h;let#[l,j,y,rfl,rfl,a,w,q]:=h;cases b;let#[u,rfl,f]:=c.one;let#[z,i,n,r,A,e]:=I.lstM a;exact Vy ZN #[_,e,qx] F.entry_list_append (F.args_list_append_2 _ _) (list_append l i.toArray n u<|by rw[Yy];lia) #[e,?_];exact#[.non,_,I.lset a e (by simp) (r.append<|.cons f .nil) ?_,qx,q];rw[Yo,YM];lia
def GD:V->List V->Hp->VK->Prop:=λx c H Q=>∃l b a z,x=.ref l/\c=[.ref b]/\H l=!.lst a/\H b=!.lst z/\a.length+z.length<=sizeLine/\Q .non (upd H l<|.lst<|a++z)
theorem A9:MtM X "list.extend" GD:=by
 intro M s B H x K v L Q I j m h;let#[l,b,J,C,rfl,rfl,g,y,N,q]:=h;cases j;let#[u,rfl,o]:=m.one;cases o;let#[z,a,n,r,O,e]:=I.lstM g;let#[E,i,n2,p,w,A]:=I.lstM y;have f:a.toArray.size+i.toArray.size<=sizeLine:=by rw[Yy,Yy];lia
 have c:¬((not<|a.toArray.isEmpty)&&Builtin.List.listTooLong (a.toArray.size+i.toArray.size)):=by rw[C1 f,VA];exact Yk
 exact Vy F.slot_list_extend #[_,e,qx] F.entry_list_extend (F.args_list_extend_2 _ _)
  (AutoSeq1.list_extend_list_list_0 l a.toArray n b i.toArray n2 c (by rw[Yy];lia)<|by lia) #[e,A,?_]
 exact#[.non,_,I.lset g e (by simp) (r.append p) ?_,qx,q];rw[Yo];lia
def Ew:V->List V->Hp->VK->Prop:=λx b H Q=>∃l a i k y,x=.ref l/\b=[.int i]/\H l=!.lst a/\-(2^63)<=i/\i<2^63/\seqIndex? i a.length=!k/\a[k]?=!y/\Q y (upd H l<|.lst<|a.eraseIdx k)
theorem Ej:MtM X "list.pop" Ew:=by
 intro M s J H x K v L Q I g j h;let#[l,f,i,k,y,rfl,rfl,c,E,C,B,o,q]:=h;cases g;let#[u,rfl,m]:=j.one;let#[t,rfl]:=m;let#[z,a,n,r,A,e]:=I.lstM c;let#[w,p,b]:=r.get o;exact Vy F.slot_list_pop #[_,e,qx] F.entry_list_pop (F.args_list_pop_2 _ _)
  (MeetsSeq.list_pop_at l a.toArray n i t k w (fitsIndex_both E C) (by rwa[Yy,<-A]) (by rwa[<-ZC])<|by rw[Yy];lia) #[e,?_]
 exact#[y,_,I.lset c e ?_ (r.eraseIdx k) ?_,b,q]
 .rw[List.eraseIdxIfInBounds_toArray]
 .have:=re f k;lia
def B4:V->List V->Hp->VK->Prop:=λx b H Q=>∃l a,x=.ref l/\b=[]/\H l=!.lst a/\Q .non (upd H l<|.lst a.reverse)
def xh:MtM X "list.reverse" B4:=by intro p s g H x m v u Q I c f h;let#[l,j,rfl,rfl,b,q]:=h;cases c;let a:=f.zero;subst a;let#[z,i,n,r,o,e]:=I.lstM b;exact Vy F.slot_list_reverse #[_,e,qx] F.entry_list_reverse (F.args_list_reverse_1 _) (AutoSeq1.list_reverse_list_0 l i.toArray n<|by rw[Yy];lia) #[e,?_];exact#[.non,_,I.lset b e (by simp) r.reverse ?_,qx,q];rw[List.length_reverse];lia
def Iz:V->List V->Hp->VK->Prop:=λx b H Q=>∃l a,x=.ref l/\b=[]/\H l=!.lst a/\Q .non (upd H l<|.lst [])
def wT:MtM X "list.clear" Iz:=by intro p s g H x m v u Q I c f h;let#[l,j,rfl,rfl,b,q]:=h;cases c;let a:=f.zero;subst a;let#[z,i,n,r,o,e]:=I.lstM b;exact Vy Vl #[_,e,qx] F.entry_list_clear (F.args_list_clear_1 _) (AutoSeq1.list_clear_list_0 l i.toArray n<|by rw[Yy];lia) #[e,?_];exact#[.non,_,I.lset b e qx .nil<|YN _,qx,q]
end L2
namespace Att
open PySem PySem.W PySem.Calls PyProof.Rows
def nR{P}:∀ns vs,WellAll P h vs (ns.map WData.int)->IntsAre vs ns:=by
 intro ns;induction ns with
 |nil=>
  intro vs w;cases w;exact .nil
 |cons n ns ih=>
  intro vs w;cases w with
  |cons a b=>
   cases a;exact .cons _ _<|ih _ b
def AI{l:OpenLaw}(s:l.most=!n){P}{b}(c:l.row.toRowW.claim.pre args)(i:WellAll P h b args):∃a vs ns,b=[Value.ref a]/\args=[WData.list<|ns.map WData.int]/\h.get? a=some {cls:=.type "list",data:=.seq vs.toArray}/\IntsAre vs ns/\ns.length<=n:=by
 have j:=(pre_splitW c).1;have m:l.pre.holds [] {args:=args}:=(pre_splitW c).2;let#[d,r,rfl,y,x]:=hasAllW_cons j;obtain rfl:=hasAllW_nil x;let#[z,rfl,u]:=hasW_list y;let#[ns,rfl]:=items_int u;have e:ns.length<=n:=by
  delta OpenLaw.pre at m;have g:(WTm.not<|.lt (.lit<|.int n)<|.len<|.arg 0).holds [] {args:=[.list<|ns.map .int]}:=by let g:=(holds_andW m).1;rwa[s]at g
  let f:=condW_of g<|w_not<|w_lt w_lit<|w_len_list<|w_arg qx;rw[List.length_map]at f;exact Nat.le_of_not_lt λq=>?_;have p:n<(ns.length):=by lia
  first
   |(rw[decide_eq_true p]at f;exact absurd f _)
   |(simp at f;lia)
 cases i with
 |cons o w=>
  cases w;cases o with
  |list ho hall=>exact#[_,_,ns,qx,qx,ho,nR ns _ hall,e]
def zZ(l:OpenLaw)args:l.row.toRowW.claim.post args (.bool true) args:=
 postW_of 
  (show WShape.has [] _ .bool by first|rfl|decide|simp)
  (show(WTm.eq .res _).value [] {args:=args,res:=!_,after:=args}=!.bool _ from w_eq_bool (w_res qx) w_lit) qx
def attach_call{l:OpenLaw}{c}{X}{C}(J:l.most=!n)(u:d.params.defaults=[])(call:∀w b s mg m fa o pm cd doc a vs ns,
   Ground q c [] X w b mg m s.heap->C w s.heap->
   s.heap.get? fa=!o->o.data=.func (docDef d.name d.params d.body d.scope pm cd doc)->s.heap.CodeRec cd d.name->mg d.name=!.ref fa->
   s.heap.get? a=some {cls:=.type "list",data:=.seq vs.toArray}->IntsAre vs ns->ns.length<=n->s.gens=#[[]]->
   codeAny (model l.prog w) callerA (.call (.ref fa) #[[.ref a],[]]) (λr s'=>r=.ok (.ret<|.bool true)/\OldK s.heap s'.heap/\s'.os=s.os/\AllBare s'.gens) s):WalkO q c X C l.row.toRowW d [] (λf vs=>PySem.call f vs):=by
 intro w b s mg m G Y fa o pm cd doc R kV I N x A p M B y S e z E j L;obtain rfl:R=.none:=Dflts.none A u;obtain rfl:kV=.none:=Dflts.noKw A;let#[a,vs,ns,rfl,rfl,g,h,i]:=AI J e j;exact enter_call<|codeAny_mono (call w b s mg m fa o pm cd doc a vs ns G Y I (fd_plain N) x p g h i M) λr s' H=>?_;let#[rfl,Q,P,O]:=H;exact#[.inl #[.bool true,.bool true,[],qx,λ_=>rfl,.bool true,zZ l _,λ_=>#[List.Pairwise.nil,λ_ K=>(nomatch K)]],Q,P,O]
end Att
namespace L2
open PySem PySem.Spec PyProof.Rows
theorem rq:∀{vs}{ns},IntsAre vs ns->Vals (ns.map V.int) vs
 |_,_,.nil=>.nil
 |_,_,.cons n t h=>.cons #[t,qx]<|rq h
structure TabsOk (K:PySem.W.Frag) (t:Addr):Prop where
 out:K.lookup t=none
 st:t≠cStatics
 hd:∃c,PySem.W.codeHdIn K c t=true
def EB{P}{mb:Ks}{f}{vs}(KX:K.In f.heap)(B:f.heap.Ns mainGlobals mg)(i:f.heap.Ns builtinsNs mb)(hbb:∀x:Str,x ≠ "__name__"->mb x=bootBuiltins x)(Q:f.heap.NoLimit)(hg:f.gens=#[[]])(hmb:∃X ob,mg (Str.ofString "__builtins__")=!Value.ref X/\X≠builtinsNs/\f.heap.get? X=!ob/\ob.cls=Value.type "module"/\ob.dict=!builtinsNs/\ob.data=Data.plain)(E:∀t q p,gt K t q p->f.heap.get? t=!PySem.W.tabObj #[[]]/\TabsOk K t)(R:f.heap.get? a=some {cls:=.type "list",data:=.seq vs.toArray})(hi:IntsAre vs ns)(hl:ns.length<=sizeLine)(hr:Room k callerA)(F:∀base:Heap,K.In base->base.Ns mainGlobals mg->FnOk P w K mg base CX k fa fd [x] sp)(C:∀s u,BindsTo s fd #[[u],[]] [(x,u)])(hsp:∀H:Hp,SqL K H a (ns.map V.int)->sp [.ref a] H (λv _=>v=.bl true) λ_ _ _=>False)(hCX:∀H e s',CX [] H f (λ_ _ _=>False) e s'->False):codeAny (model P w) callerA (.call (.ref fa) #[[.ref a],[]]) (λr s'=>r=.ok (.ret<|.bool true)/\OldK f.heap s'.heap/\s'.os=f.os/\AllBare s'.gens) f:=by
 let rv:=rq hi;let N:=hi.length;have at':∀q p,¬gt K a q p:=λq p z=>by have:=(E a q p z).1;rw[R]at this;cases this
 have A:∀H:Hp,SqL K H a (ns.map V.int)->HOk P w H f.heap->(∀t q p,gt K t q p->H t=!.tbl q p)->(∀b,H b=()\/(b=a/\K.lookup a=()/\∃o u,H b=!.frz o u)\/∃q p,gt K b q p/\H b=!.tbl q p)->
   codeAny (model P w) callerA (.call (.ref fa) #[[.ref a],[]]) (λr s'=>r=.ok (.ret<|.bool true)/\OldK f.heap s'.heap/\s'.os=f.os/\AllBare s'.gens) f:=by
  intro H hS O hT hO;have g:∀{b}{o},f.heap.get? b=!o->H b=()->(sQ f.heap H).get? b=!o:=λe n=>Cv e n
  have J:∀{b}{o},f.heap.get? b=!o->(∀Z n,o.data≠.seq Z n)->(∀Z,o.data≠.fields Z)->H b=():=λ{b o} e d1 d2=>by
   rcases hO b with z|⟨e',_⟩|⟨q,p,z,_⟩
   .exact z
   .subst e';rw[R]at e;cases e;exact absurd rfl<|d1 _ _
   .rw[(E b q p z).1]at e;cases e;exact absurd rfl<|d2 _
  have j:∀{b}{m},f.heap.Ns b m->(sQ f.heap H).Ns b m:=λ{b m} #[o,es,ep,e,d,r]=>#[o,es,ep,g e (J e (λ_ _ z=>by rw[d]at z;cases z) λ_ z=>by rw[d]at z;cases z),d,r]
  have T:=λb o e=>g (KX b o e)<|by
   rcases hO b with z|⟨e',z,_⟩|⟨q,p,z,_⟩
   .exact z
   .subst e';rw[z]at e;cases e
   .rw[(E b q p z).2.out]at e;cases e
  have hM:Mod K mg _:=#[T,j B,#[mb,j i,hbb],let #[mc,h1,h2]:=Q;#[mc,j h1,h2],λt q p z=>by
   let#[X,ob,m1,m2,M,m4,m5,L]:=hmb;exact#[X,ob,m1,m2,λz=>?_,λI=>?_,g M (J M (λ_ _ z=>by rw[L]at z;cases z) λ_ z=>by rw[L]at z;cases z),m4,m5,L]
   .let#[o,es,ep,e,d,_]:=B;rw[<-z,M]at e;cases e;rw[L]at d;cases d
   .rw[I,(E t q p z).1]at M;cases M;cases L]
  have e0:Env0 P w K mg _ callerA [] f H:=#[qx,hM,λb o e=>Ga e,Xb<|Ay _ _,trivial,λb i=>absurd (show b∈([])from i)<|by simp,O,.of_eq hg,hT]
  exact XB ((F _ T<|j B).run callerA [] f H #[[.ref a],[]] [.ref a] [.ref a] _ _ hr e0 (C f _) (.cons qx .nil)<|hsp H hS) λr s' h=>?_;cases r with
  |error e=>exact(hCX H e s' h).elim
  |ok fl=>
   cases fl with
   |next=>exact False.elim h
   |brk=>exact False.elim h
   |cont=>exact False.elim h
   |ret u=>
    let#[v,H',os,Y,un,l,r',q]:=h;have q':=q;subst q';obtain rfl:u=Value.bool true:=r';exact#[qx,#[λb o e=>?_,λb o e=>un.there b o e<|by simp],os,Y];rcases hO b with z|⟨_,_,ob,Z,z⟩|⟨q,p,z1,z⟩
    .exact .inl<|un.keep b o e z (by intro z;exact absurd (show b∈([])from z)<|by simp)<|by simp
    .let#[e1,_]:=O b _ z;let#[U,_]:=l b _<|un.stl b _ qx z;rw[e]at e1;cases e1;exact .inl U
    .let#[t1,t2]:=E b q p z1;let#[ps,U,_]:=l b _<|un.stl b _ qx z;rw[e]at t1;cases t1;let#[c,hc]:=t2.hd;exact .inr<|.inl #[((W.codeHd_of_K KX hc).tab e).isCodeTable,qx,#[[]],ps,qx,by simpa using U]
 have S:∀b u,((fN K).lookup b).map (λr=>HO.tbl r.1 r.2)=!u->∃q p,gt K b q p/\u=.tbl q p:=λb u e=>by
  let#[#[q,p],e1,U]:=Zd.mp e;exact#[q,p,e1,U.symm]
 have okT:∀{H}{b}{u},((fN K).lookup b).map _=!u->ObjOk P w H f.heap b u:=λ{H b u} e=>by
  let#[q,p,z,rfl]:=S b u e;exact#[#[[]],(E b q p z).1,trivial,.inl qx]
 have tb:∀t q p,gt K t q p->((fN K).lookup t).map (λr=>HO.tbl r.1 r.2)=!.tbl q p:=λt q p z=>by
  have I:=z;rw[I];rfl
 have dj:∀b,((fN K).lookup b).map _=()\/∃q p,gt K b q p/\((fN K).lookup b).map (λr=>HO.tbl r.1 r.2)=!.tbl q p:=λb=>by
  cases e:((fN K).lookup b).map (λr=>HO.tbl r.1 r.2)with
  |none=>exact .inl qx
  |some u=>let#[q,p,z,rfl]:=S b u e;exact .inr #[q,p,z,qx]
 cases hk:K.lookup a with
 |some o=>
  let e:=KX a o hk;rw[R]at e;cases e;exact A _ (.inr #[_,vs.toArray,_,hk,qx,qx,qx,by rw[Yy,N];exact hl,by simpa using rv]) (λb u z=>okT z) tb λb=>(dj b).imp id .inr
 |none=>
  exact A (λb=>if b=a then !.frz {cls:=.type "list",data:=.seq vs.toArray} (.lst<|ns.map V.int) else((fN K).lookup b).map λr=>.tbl r.1 r.2) (.inl<|.inr #[{cls:=.type "list",data:=.seq vs.toArray},Yl qx]) (λb u z=>?_) (λt q p z=>?_) λb=>?_
  .by_cases i:b=a
   .let I:=(Yl i).symm.trans z;cases I;subst i;exact#[R,by rw[Ya];exact hl,vs,_,rv,R]
   .exact okT<|(Yn i).symm.trans z
  .exact(Yn λe=>by subst e;exact at' q p z).trans<|tb t q p z
  .by_cases i:b=a
   .exact .inr<|.inl #[i,hk,_,_,Yl i]
   .rcases dj b with z|⟨q,p,z,y⟩
    .exact .inl<|(Yn i).trans z
    .exact .inr<|.inr #[q,p,z,(Yn i).trans y]
def walk_ofK{l:W.OpenLaw}{i}{K:Params->W.Frag}{sp:W.Frag->Sp}(O:l.most=!n)(A:n<=sizeLine)(C:d.params.defaults=[])(N:Room k callerA)(S:∀w h,J w h->(K w.params).In h/\∀t q p,gt (K w.params) t q p->h.get? t=!PySem.W.tabObj #[[]]/\TabsOk (K w.params) t)(F:∀w (mg:Ks) fa h,(K w.params).In h->h.Ns mainGlobals mg->mg d.name=!.ref fa->
   ∃fd:FuncData,(∀s u,BindsTo s fd #[[u],[]] [(x,u)]) /\
    ∀base:Heap,(K w.params).In base->base.Ns mainGlobals mg->FnOk l.prog w (K w.params) mg base CX k fa fd [x] (sp<|K w.params))(z:∀K H a (ns:List Int),ns.length<=n->SqL K H a (ns.map V.int)->sp K [.ref a] H (λv _=>v=.bl true) λ_ _ _=>False)(E:∀H s e s',CX [] H s (λ_ _ _=>False) e s'->False):W.WalkO q i XP J l.row.toRowW d [] (λf vs=>call f vs):=by
 exact Att.attach_call O C λw I m mg mb fa o pm cd Z a vs ns G Y ho hd Q B y j c P=>?_;let#[L,M]:=S w _ Y;let#[fd,R,X]:=F w mg fa _ L G.T.g B;exact EB L G.T.g G.T.b G.T.builtins G.T.nolimit P G.T.bmain M y j (YA c A) N X R (λH U=>z _ H a ns c U) λH e s'=>E H m e s'
def F7(s:Stmt)(j:Nat):Stmt:=match s with
 |.ClassDef _ _ _ body _ _ _ _ _ _ _=>body.getD j<|.Pass #[0,0,0,0]
 |_=>.Pass #[0,0,0,0]
def defArgs(s:Stmt):Arguments:=match s with
 |.FunctionDef _ a _ _ _ _ _ _ _ _=>a
 |_=>{posonlyargs:=[],args:=[],vararg:=(),kwonlyargs:=[],kw_defaults:=[],kwarg:=(),defaults:=[]}
def defBody(s:Stmt):List Stmt:=match s with
 |.FunctionDef _ _ b _ _ _ _ _ _ _=>b
 |_=>[]
def defScope(s:Stmt):Scope:=match s with
 |.FunctionDef _ _ _ _ _ _ sc _ _ _=>sc
 |_=>{kind:=.function,names:=[],isGenerator:=false,isCoroutine:=false}
abbrev CX0:CXT:=λ_ _ _ _ _ _=>False
abbrev E0:XK:=λ_ _ _=>False
def np:jV CX0 X E0:=λ_ _ _ _ _ _ _ h=>h.elim
structure Fun (K:PySem.W.Frag) (x qual:Str) (st:Stmt) (f:Addr) (fd:FuncData):Prop where
 ex:∃(oc:Value) (od:Option Addr) (kV doc pm:Value) (an:Option Addr) (cdv ct:Value) (osl:Array (Option Value)),
  fd=PySem.W.fnOf x qual (defArgs st) (defBody st) (defScope st) .none kV doc pm an cdv ct/\K.lookup f=!#[oc,od,.func fd,osl]/\PySem.W.codeIn K cdv qual=true
 kp:PySem.W.keepIn K (.ref f)=true
section
variable{P:Program}
def Fun.ok(F:Fun K x qual st f fd)(S:FnScope N ps (defScope st))(len:∀vs H Q E,sp vs H Q E->vs.length=ps.length)(a:∀cdv A outer s H vs Q E,Room k (A.deeper<|envOfC qual (defScope st) s.heap.objs.size f cdv)->sp vs H Q E->
   ∃t,PSs (gP CX0 P w K mg base N qual (defScope st) f cdv A outer s H E).nox (defBody st) t/\t {nx:=λz H'=>Q .non H',rt:=Q} (start N vs) H):FnOk P w K mg base CX0 (k+1) f fd ps sp:=by
 let#[j,i,kV,g,p,u,cdv,m,o,rfl,l,c]:=F.ex;exact He l c S len λA outer s H vs Q E e b=>?_;let#[t,h,q]:=a cdv A outer s H vs Q E e b;exact#[t,h.nox,q]
def HX{kV doc pm cdv ct}(l:K.lookup f=!#[oc,od,.func (W.fnOf x qual (defArgs st) (defBody st) (defScope st) .none kV doc pm an cdv ct),osl])(c:W.codeIn K cdv qual)(k:W.keepIn K (.ref f)):Fun K x qual st f (W.fnOf x qual (defArgs st) (defBody st) (defScope st) .none kV doc pm an cdv ct):=#[#[oc,od,kV,doc,pm,an,cdv,ct,osl,qx,l,c],k]
end
def pv i(hN:X.N[i]?=!x:=by rfl)(hv:Vis X.env.scope x:=by trivial)(hd:nDb x:=by decide)
  (hcd:nDc x:=by decide):PE X (.Name x pos) (c7 i):=DC hN hv hd hcd
def Same(H H':Hp):Prop:=∀b o,H b=!o->H' b=!o
def Same.refl H:Same H H:=λz z h=>h
def Same.trans(a:Same H H1)(b:Same H1 H2):Same H H2:=λc o h=>b c o<|a c o h
def Same.free(e:Same H H')(h:H' l=Option.none):H l=Option.none:=by
 cases q:H l with
 |none=>rfl
 |some o=>
  rw[e l o q]at h;cases h
def Same.seq(e:Same H H')(h:SqL K H a xs):SqL K H' a xs:=by
 rcases h with (h|⟨o,h⟩)|h
 .exact .inl<|.inl<|e _ _ h
 .exact .inl<|.inr #[o,e _ _ h]
 .exact .inr h
end L2
set_option maxHeartbeats 4000000
namespace L2
open PySem PySem.Spec PyProof.Rows
def dB(cs:List (Str×Addr)):List (Str×NameKind)->List (Str×Addr)->List (Str×Addr)
 |[],acc=>acc
 |(n,k)::r,acc=>if k == .free then dB cs r ((n,(cs.lookup n).getD 0)::acc)else dB cs r acc
theorem qq(h:∀x∈scope.names,x.2=.free->∃c,env.cells.lookup x.1=!c):closureFor scope env=pure (dB env.cells scope.names []):=by
 have key:∀a b f,
   (∀n k r,f (n,k) r=if k == .free then(cellOf env n>>=λc=>pure<|.yield ((n,c)::r))else pure<|.yield r)->
   (∀x∈a,x.2=.free->∃c,env.cells.lookup x.1=!c)->forIn a b f=pure (dB env.cells a b):=by
  intro a;induction a with
  |nil=>intro b f _ _;rfl
  |cons x r ih=>
   intro b f l j;let#[n,k]:=x;rw[List.forIn_cons,l];delta dB;by_cases g:(k == NameKind.free)
   .rw[Yl g,Yl g];let#[c,m]:=j (n,k) Ye (by simpa using g);have e:cellOf env n=pure c:=by delta cellOf;rw[m]
    rw[e,pure_bind,pure_bind,m];exact ih _ f l λy i=>j y<|Yd _ i
   .rw[Yn g,Yn g,pure_bind];exact ih _ f l λy i=>j y<|Yd _ i
 show(forIn scope.names _ _>>=λo=>pure o)=_;grind
theorem bb{a:Type}y n c(l:List (Str×a)):((n,c)::l).lookup y=if y=n then !c else l.lookup y:=by grind
theorem d8:∀names acc y c,
  (∀x∈names,x.2=.free->∃c,cs.lookup x.1=!c)->(∀y c,acc.lookup y=!c->cs.lookup y=!c)->(dB cs names acc).lookup y=!c->cs.lookup y=!c
 |[],acc,y,c,_,h,e=>h y c e
 |(n,k)::r,acc,y,c,hx,h,e=>by
  delta dB at e;let g:=λx i=>hx x<|Yd _ i
  by_cases b:(k == NameKind.free)
  .rw[Yl b]at e;exact d8 r _ y c g (λz d a=>?_) e;let#[j,f]:=hx (n,k) Ye (by simpa using b);rw[bb]at a;split at a
   .rename_i q;subst q;cases a;rw[f];rfl
   .exact h z d a
  .rw[Yn b]at e;exact d8 r acc y c g h e
theorem iF:∀names acc y c,
  (dB cs names acc).lookup y=!c->(y,NameKind.free)∈names\/acc.lookup y=!c
 |[],acc,y,c,e=>.inr e
 |(n,k)::r,acc,y,c,e=>by
  delta dB at e;by_cases a:(k == NameKind.free)
  .rw[Yl a]at e;have h:k=.free:=by simpa using a
   rcases iF r _ y c e with q|q
   .exact .inl<|Yd _ q
   .rw[bb]at q;split at q
    .rename_i z;subst z;subst h;exact .inl Ye
    .exact .inr q
  .rw[Yn a]at e;rcases iF r acc y c e with q|q
   .exact .inl<|Yd _ q
   .exact .inr q
theorem iK:∀names acc y,
  ((y,NameKind.free)∈names\/∃c,acc.lookup y=!c)->∃c,(dB cs names acc).lookup y=!c
 |[],acc,y,h=>h.elim (λz=>by cases z) id
 |(n,k)::r,acc,y,h=>by
  delta dB;by_cases a:(k == NameKind.free)
  .rw[Yl a];exact iK r _ y ?_;rcases h with h|⟨c,h⟩
   .rcases Ys.mp h with q|q
    .cases q;exact .inr #[_,by rw[bb,Yl qx]]
    .exact .inl q
   .exact .inr ?_;by_cases q:y=n
    .exact#[_,by rw[bb,Yl q]]
    .exact#[c,by rwa[bb,Yn q]]
  .rw[Yn a];exact iK r acc y ?_;rcases h with h|h
   .rcases Ys.mp h with q|q
    .cases q;exact absurd qx a
    .exact .inl q
   .exact .inr h
theorem sM:∀names (h:Heap) acc y c,(cellsFrom h.objs.size names acc).lookup y=!c->
  (h.objs.size<=c/\(pushCells h names).IsCell c ()/\(y,NameKind.cell)∈names)\/acc.lookup y=!c
 |[],_,_,_,_,e=>.inr e
 |(n,k)::r,h,acc,y,c,e=>by
  delta cellsFrom at e;delta pushCells;by_cases i:(k == NameKind.cell)
  .rw[Yl i]at e ⊢;have g:k=.cell:=by simpa using i
   have j:(h.push {cls:=.type "cell",data:=.cell ()}).objs.size=h.objs.size+1:=Xm ..;rw[<-j]at e;rcases sM r _ _ y c e with⟨f,b,a⟩|q
   .exact .inl #[by rw[j]at f;lia,b,Yd _ a]
   .rw[bb]at q;split at q
    .rename_i z;subst z;cases q;subst g;exact .inl #[Yp _,#[_,VU r _ _ _<|Yq _ qx,qx],Ye]
    .exact .inr q
  .rw[Yn i]at e ⊢;rcases sM r h acc y c e with⟨f,b,a⟩|q
   .exact .inl #[f,b,Yd _ a]
   .exact .inr q
theorem xM{y}:∀names n acc,(∀k,(y,k)∈names->k≠.cell)->(cellsFrom n names acc).lookup y=acc.lookup y
 |[],_,_,_=>rfl
 |(m,k)::r,n,acc,h=>by
  delta cellsFrom;let b:=λk a=>h k<|Yd _ a
  by_cases a:(k == NameKind.cell)
  .rw[Yl a,xM r _ _ b,bb,Yn];rintro rfl;exact h k Ye<|by simpa using a
  .rw[Yn a];exact xM r n acc b
theorem yk:∀names (n:Nat) (acc:List (Str×Addr)),(∀y c,acc.lookup y=!c->c<n)->(∀y z c,acc.lookup y=!c->acc.lookup z=!c->y=z)->
  ∀y z c,(cellsFrom n names acc).lookup y=!c->(cellsFrom n names acc).lookup z=!c->y=z
 |[],_,_,_,h=>h
 |(m,k)::r,n,acc,hlt,h=>by
  delta cellsFrom;by_cases g:(k == NameKind.cell)
  .rw[Yl g];exact yk r (n+1) _ (λy c e=>?_) λy z c e f=>?_
   .rw[bb]at e;split at e
    .cases e;exact ZS _
    .exact ZO<|hlt y c e
   .rw[bb]at e f;split at e<;>split at f
    .rename_i a b;rw[a,b]
    .cases e;exact absurd (hlt z _ f)<|Ze _
    .cases f;exact absurd (hlt y _ e)<|Ze _
    .exact h y z c e f
  .rw[Yn g];exact yk r n acc hlt h
def jb(env:Env)(scope:Scope)(C:Addr):Env:=
 {scope:=relabel scope env,locals:=C,globals:=env.globals,cells:=cellsFrom (C+1) scope.names<|dB env.cells scope.names [],qual:=env.qual,func:=(),code:=env.code,frame:=env.frame,builtins:=env.builtins}
def blk(X:Cx)(scope:Scope)(N:List Str)(s:Shared)(H:Hp)(fp:List Addr)(pz:Kp):Cx where
 prog:=X.prog
 w:=X.w
 K:=X.K
 mg:=X.mg
 base:=X.base
 A:=X.A
 N:=N
 s₀:=s
 H₀:=H
 env:=jb X.env scope s.heap.objs.size
 outer:=X.stack
 stack:=X.stack
 ex:=fp
 fn:=λx=>scope.names.lookup x == some .local||scope.names.lookup x == !.cell
 calm:=X.calm
 pn:=X.pn++pz
 xe:=λ_ _=>False
structure BlkScope (X:Cx) (scope:Scope):Prop where
 kind:scope.kind=.function
 nd:(scope.names.map (·.1)).Nodup
 free:∀x∈scope.names,x.2=.free->X.env.kindOf x.1=!.cell\/X.env.kindOf x.1=!.free
theorem gX{b:Type}:∀{l:List (Str×b)}{n}{c},(l.map (·.1)).Nodup->(n,c)∈l->l.lookup n=!c
 |[],_,_,_,h=>by cases h
 |(k,v)::r,n,c,nd,h=>by
  rw[bb];rcases Ys.mp h with q|q
  .cases q;rw[Yl qx]
  .let a:=YX.mp nd;rw[Yn]
   .exact gX a.2 q
   grind
theorem kJ:∀(names:List (Str×NameKind)),
  (names.map λ(n,k)=>if(k == NameKind.free&&env.scope.kind == .function&&env.kindOf n == !.cell)then(n,NameKind.cell)else(n,k)).lookup x =
   (names.lookup x).map λk=>if(k == NameKind.free&&env.scope.kind == .function&&env.kindOf x == !.cell)then NameKind.cell else k
 |[]=>rfl
 |(n,k)::r=>by
  show List.lookup x ((if(k == NameKind.free&&env.scope.kind == .function&&env.kindOf n == !.cell) then(n,NameKind.cell)else(n,k))::_)=_;have e:(if(k == NameKind.free&&env.scope.kind == .function&&env.kindOf n == !.cell) then(n,NameKind.cell)else(n,k)) =
    (n,if(k == NameKind.free&&env.scope.kind == .function&&env.kindOf n == !.cell) then NameKind.cell else k):=by split<;>rfl
  rw[e,bb,bb];split
  .rename_i q;subst q;rfl
  .exact kJ r
def o_ x:(jb env scope C).kindOf x =
  (scope.names.lookup x).map λk=>if(k == NameKind.free&&env.scope.kind == .function&&env.kindOf x == !.cell)then NameKind.cell else k:=kJ scope.names
def BlkScope.cl(b:BlkScope X scope)(ok:X.Ok):∀x∈scope.names,x.2=.free->∃c,X.env.cells.lookup x.1=!c:=λx h e=>ok.has x.1<|b.free x h e
theorem gZ(b:BlkScope X scope)(I:Inv X pz σ H s){y}{c}(e:(jb X.env scope s.heap.objs.size).cells.lookup y=!c):(s.heap.objs.size<c/\(pushCells (s.heap.push {cls:=.type "dict",data:=.dict #[[]]}) scope.names).IsCell c ()/\(y,NameKind.cell)∈scope.names)\/(X.env.cells.lookup y=!c/\(y,NameKind.free)∈scope.names):=by
 have a:(s.heap.push {cls:=.type "dict",data:=.dict #[[]]}).objs.size=s.heap.objs.size+1:=Xm ..;have j:(cellsFrom (s.heap.push {cls:=.type "dict",data:=.dict #[[]]}).objs.size scope.names<|dB X.env.cells scope.names []).lookup y=!c:=by rwa[a]
 rcases sM _ _ _ _ _ j with⟨i,g,f⟩|h
 .exact .inl #[by rw[a]at i;lia,g,f]
 .exact .inr #[d8 _ _ y c (b.cl I.ok) (λx x z=>by cases z) h,?_];rcases iF _ _ _ _ h with q|q
  .exact q
  .cases q
def Js(b:BlkScope X scope)(I:Inv X pz σ H s)(j:∀a∈fp,jX X pz H a)(g:∀a∈fp,a<s.heap.objs.size):(blk X scope N s H fp pz).Ok:=by
 have m:∀y c,X.env.cells.lookup y=!c->c<s.heap.objs.size:=λy c e=>by let#[v,q]:=I.cell y c e;exact q.lt
 exact#[I.ok.mod,b.kind,I.ok.glob,I.ok.blt,Yp _,λx y c e C=>?_,λx l=>?_,λx c l e=>?_,I.ok.hd,I.ok.frames,.inl qx,λa f=>#[Yz<|g a f,λx c e=>?_],I.bs,YA I.ok.bsz I.sz,λa o e f=>?_,λa f=>?_,I.stack,I.stkFree,I.tab]
 .exact yk scope.names _ _ (λy c q=>?_) (λy z c q p=>?_) x y c e C
  .exact ZO<|m y c<|d8 _ _ y c (b.cl I.ok) (λt t z=>by cases z) q
  .exact I.ok.inj y z c (d8 _ _ y c (b.cl I.ok) (λt t z=>by cases z) q)<|d8 _ _ z c (b.cl I.ok) (λt t z=>by cases z) p
 .have h:(jb X.env scope s.heap.objs.size).kindOf x=!.cell\/(jb X.env scope s.heap.objs.size).kindOf x=!.free:=l;rw[o_]at h;cases q:scope.names.lookup x with
  |none=>rw[q]at h;rcases h with z|z<;>cases z
  |some k=>
   let u:=Zv q;cases k with
   |cell=>exact Xd.mp<|XN scope.names _ _<|.inl q
   |free=>
    let#[c,w]:=iK (cs:=X.env.cells) scope.names [] x<|.inl u;exact Xd.mp<|XN scope.names _ _<|.inr<|by rw[w];rfl
   |_=>rw[q]at h;revert h;simp
 .rcases gZ b I e with⟨i,_,_⟩|⟨_,B⟩
  .exact ZG i
  .exfalso;let q:=gX b.nd B;have h:(scope.names.lookup x == some .local||scope.names.lookup x == !.cell):=l;rw[q]at h;revert h;decide
 .rcases gZ b I e with⟨i,_,_⟩|⟨i,_⟩
  .intro z;subst z;exact absurd (ZU (g _ f) i)<|Ze _
  .exact(j a f).2.2.2.2.1 x c i
 .let A:=(j a f).2.2.2.1;rcases A with z|z
  .exact I.ok.noex a o e z
  .exact absurd (Yx (Yw e)<|YA I.ok.bsz z)<|Ze _
 .intro z;rcases Ys.mp (I.stkSub a z)with q|q
  .exact(j a f).2.1 q
  .exact(j a f).2.2.1 q
def eI(own:Nat)(ix:List Nat)(σ:St):St:=List.replicate own ()++ix.map λj=>(σ[j]?).join
def iu own ix σ:(eI own ix σ).length=own+ix.length:=by delta eI;rw[Yo,YS,Ya]
theorem lH(h:(eI own ix σ)[i]?=!!v):own<=i/\∃j,ix[i-own]?=!j/\σ[j]?=!!v:=by
 delta eI at h;grind
structure Caps (X:Cx) (scope:Scope) (N:List Str) (own:Nat) (ix:List Nat):Prop where
 len:N.length=own+ix.length
 cap:∀(i:Nat) (j:Nat) (x:Str),N[own+i]?=!x->ix[i]?=!j->X.N[j]?=!x/\scope.names.lookup x=!.free
theorem Ah(b:BlkScope X scope)(cp:Caps X scope N own ix)(I:Inv X pz σ H s)(Q:∀a∈fp,jX X pz H a)(A:∀a∈fp,a<s.heap.objs.size):Inv (blk X scope N s H fp pz) [] (eI own ix σ) H {s with heap:=pushCells (s.heap.push {cls:=.type "dict",data:=.dict #[[]]}) scope.names}:=by
 have f:∀a o,s.heap.get? a=!o->(pushCells (s.heap.push {cls:=.type "dict",data:=.dict #[[]]}) scope.names).get? a=!o:=λa o e=>VU _ _ a o<|Yf _ e
 exact#[Js b I Q A,qx,I.bare,Un.kept f,#[_,(Heap.Ns.new s.heap _).keeps<|VU _ _,λi x v e1 Z e3=>?_],λy c e=>?_,I.fresh,λy c e=>?_,λp O=>?_,I.hok.kept f,?_]
 .let#[ho,j,U,T]:=lH Z;have E:N[own+(i-own)]?=!x:=by rwa[show own+(i-own)=i by lia]
  let#[R,h]:=cp.cap _ j x E U;let#[m,hn,P]:=I.loc;let C:=b.free _ (Zv h) qx;have M:Vis X.env.scope x:=C.elim (λz=>.inr<|.inl z) λz=>.inr<|.inr z
  let#[u,r,L]:=P j x v R T M;exact#[u,r,.inr #[?_,?_]]
  .show(jb X.env scope s.heap.objs.size).kindOf x=!.cell\/(jb X.env scope s.heap.objs.size).kindOf x=!.free;rw[o_,h];show some (if _ then NameKind.cell else NameKind.free)=!.cell\/some (if _ then NameKind.cell else NameKind.free)=!.free;split
   .exact .inl qx
   .exact .inr qx
  .rcases L with⟨k,_⟩|⟨_,c,Y,z⟩
   .rw[k]at C;rcases C with z|z<;>cases z
   .exact#[c,?_,z.keeps f];show(cellsFrom _ scope.names _).lookup x=!c;rw[xM]
    .let#[c',g]:=iK (cs:=X.env.cells) scope.names [] x<|.inl<|Zv h;have:=d8 _ _ x c' (b.cl I.ok) (λt t z=>by cases z) g;rw[Y]at this;cases this;exact g
    .intro k B z;rw[gX b.nd B]at h;cases h;cases z
 .rcases gZ b I e with⟨_,S,_⟩|⟨l,_⟩
  .exact#[_,S]
  .let#[v,z]:=I.cell y c l;exact#[v,z.keeps f]
 .rcases gZ b I e with⟨l,_,_⟩|⟨l,_⟩
  .exact I.hok.fresh<|ZG l
  .exact I.freeC y c l
 .have w:p∈X.pn++pz:=by
   have:p∈(X.pn++pz)++[]:=O
   rwa [Zc]at this
  let#[e,n,K,J,d]:=I.pin p w;exact#[f _ _ e,n,Yz<|Yw e,λz=>?_,d];rcases Ys.mp (I.stkSub p.1 z)with q|q
  .exact K q
  .exact J q
 .rw[iu];exact cp.len.symm
def ww{b:St}(I:Inv X pz σ H s)(m:∀a∈fp,jX X pz H a)(J:Inv (blk X scope N s H fp pz) pl b H' s')(hs:Heap.SameBut s.heap.objs.size s'.heap h'):Inv X pz σ H' {s' with heap:=h' }:=by
 have i:H' s.heap.objs.size=():=J.free;have f:∀a o,s.heap.get? a=!o->a≠s.heap.objs.size:=λa o e=>Yz<|Yw e
 let u:=J.base;exact I.call' J.os #[λa o e n g h=>(hs.2 a<|f a o e).trans<|u.keep a o e n g h,λa o e n g h=>?_,λa o e n h=>u.free a o e n h,λa o e h=>?_,u.stl] (λa o e=>?_) J.bare λa p=>?_
 .let#[j,q]:=u.slot a o e n g h;exact#[j,(hs.2 a<|f a o e).trans q]
 .let#[l,q]:=u.there a o e h;exact#[l,(hs.2 a<|f a o e).trans q]
 .exact(J.hok a o e).stay (λc v hc q=>(hs.2 c ?_).trans q) (λz q=>q) λz z z q=>q;rintro rfl;rcases hc with rfl|hc
  .rw[i]at e;cases e
  .rw[i]at hc;cases hc
 .let#[_,h,_,y,x,w]:=m a p;exact#[y,h,x,w]
def D5{pl:Kp}{H'}(b:BlkScope X scope)(I:Inv X pz σ H s)(l:∀a∈fp,jX X pz H a)(h:∀a∈fp,a<s.heap.objs.size)(j:∀a∈fp,H' a=()):∀a∈fp,jX (blk X scope N s H fp pz) [] H' a:=λa f=>by
 let#[_,w,u,y,o,m]:=l a f;exact#[j a f,Yz<|h a f,λz=>?_,.inl f,λx c e=>?_,λp i=>?_]
 .rcases Ys.mp (I.stkSub a z)with q|q
  .exact w q
  .exact u q
 .rcases gZ b I e with⟨q,_,_⟩|⟨q,_⟩
  .intro z;subst z;exact absurd (ZU (h _ f) q)<|Ze _
  .exact o x c q
 .have g:p∈X.pn++pz:=by
   have:p∈(X.pn++pz)++[]:=i
   rwa [Zc]at this
  exact m p g
def yt{Q}cl
  (h:∀c:Env,c={scope:=scope,locals:=s.heap.objs.size,globals:=env.globals,cells:=cellsFrom (s.heap.objs.size+1) scope.names cl,qual:=env.qual,func:=(),code:=env.code,frame:=env.frame,builtins:=env.builtins}->
   Q c {s with heap:=pushCells (s.heap.push {cls:=.type "dict",data:=.dict #[[]]}) scope.names}) :
  wpAny M A (newFunctionEnv scope env.globals cl [] env.qual () .none<|!env) Q E s:=by
 simp only[newFunctionEnv,Option.isSome_some,VT];exact Yc<|wpAny_alloc ?_;exact Yc<|wpAny_layCells _ (λe a cells=>by cases b:a == NameKind.cell<;>simp) _ _ _ _ ?_;rw[show({s with heap:=s.heap.push {cls:=.type "dict",data:=.dict #[[]]} }:Shared).heap.objs.size=s.heap.objs.size+1 from Xm ..];exact Yc ?_;exact Yj<|Yj<|h _ qx
def Ac{R:Kr}{a}(I:Nat->Shared->Prop)(turn:∀n s,I n s->wpAny (model prog w) A (pyNext it) (λr b=>match r with
   |none=>R (.ok .next) b
   |some v=>wpAny (model prog w) A (letOwnedTupleGo a it v) (λ_ b=>wpAny (model prog w) A (assign a env v) (λ_ l=>
     wpAny (model prog w) A (forIn ifs true λc r=>if r then do let ok <-isTrue c env<|eval c env;pure (ForInStep.yield ok)else pure<|ForInStep.yield r) (λok f=>
      if ok then wpAny (model prog w) A (eval elt env) (λx j=>
       wpAny (model prog w) A (call (.builtin "list.append") [q,x]) (λ_ i=>∃m,m<n/\I m i) (λ_ _=>False) j) (λ_ _=>False) f
      else ∃m,m<n/\I m f) (λ_ _=>False) l) (λ_ _=>False) b) (λ_ _=>False) b) (λ_ _=>False) s)
  n (h:I n s) :
  codeAny (model prog w) A (.compLoop (.ListComp elt [#[a,iter,ifs,0]] scope pos) 0 it q env) R s:=by
 exact codeAny_loop qx I (λn s C=>?_) n h;exact wpAny_noted ?_;rw[compTurn_list];exact Yc<|wpAny_standAt<|Yc<|ZR (turn n s C) (λr b o=>?_) λ_ _ g=>g.elim;cases r with
 |none=>exact Yj o
 |some v=>
  exact Yc<|ZR o (λ_ B p=>?_) λ_ _ g=>g.elim;exact Yc<|ZR p (λ_ l z=>Yc<|ZR z (λok f e=>?_) λ_ _ g=>g.elim) λ_ _ g=>g.elim;cases ok with
  |true=>
   rw[Yl qx]at e;simp only[VT];exact Yc<|Yc<|ZR e (λx j y=>Yc<|ZR y (λ_ i u=>Yj<|Yj #[qx,u]) λ_ _ g=>g.elim) λ_ _ g=>g.elim
  |false=>
   rw[Yn Yk]at e;simp[ZQ,XV];exact Yj #[qx,e]
def MN:TT:=λ_ H Q=>Q true H
def o0(X:Cx)(ifs:List Expr)(t:TT):Prop:=
 ∀(p:Kp) s (a:St) H Q,Inv X p a H s->t a H Q->
  wpAny (model X.prog X.w) X.A (forIn ifs true λc r=>if r then do let ok <-isTrue c X.env<|eval c X.env;pure (ForInStep.yield ok)else pure<|ForInStep.yield r) (TP X p a Q) X.xe s
def CP:o0 X [] MN:=λ_ _ _ H _ I h=>Yj #[H,I,h]
def CN(h:PT X c t):o0 X [c] t:=λp s a H Q I q=>wpAny_tests_one<|h p s a H Q I q
def Hq(own:Nat)(ix:List Nat)(g:TG)(tc:TT)(te:TE)(σ:St)(Q:VK)(J:It)(H1:Hp):Prop:=∀a,H1 a=()->∃W:Nat->Nat->List V->Hp->Prop,
 (∃m,W 0 m []<|upd H1 a<|.lst [])/\∀i m c H,W i m c H->
  (J.stop i H/\Q (.ref a) H)\/(J.go i H/\∃N:List V->Hp->Prop,(∀e f,N e f->∃h,h < m/\W (i+1) h e f)/\∀x f,J.yld i H x f->g x (eI own ix σ) f λb p=>
   (b.length=own+ix.length/\∀(j:Nat) v,(eI own ix σ)[j]?=!!v->b[j]?=!!v) /\
   tc b p λok o=>if ok then te b o λy l=>l a=!.lst c/\c.length<sizeLine/\N (c++[y]) (upd l a<|.lst<|c++[y])else N c o)
def zW(own:Nat)(ix:List Nat)(wi:TI)(g:TG)(tc:TT)(te:TE):TE:=λa H Q=>wi a H<|Hq own ix g tc te a Q
section
variable{own:Nat}{ix:List Nat}{wi:TI}{g:TG}
def oG{Q:VK}{RR:Value->Addr->Result->Shared->Prop}(hcalm:X.calm)(b:BlkScope X scope)(cp:Caps X scope N own ix)(hg:∀s H fp pz,PG (blk X scope N s H fp pz) tg g)(hc:∀s H fp pz,o0 (blk X scope N s H fp pz) ifs tc)(he:∀s H fp pz,PE (blk X scope N s H fp pz) elt te)(hp:PIE X pz σ tg (λJ H1=>∀c,H1 c=()->∃W:Nat->Nat->List V->Hp->Prop,
   (∃m,W 0 m []<|upd H1 c<|.lst [])/\∀i m ys H,W i m ys H->
    (J.stop i H/\Q (.ref c) H)\/(J.go i H/\∃N:List V->Hp->Prop,(∀Z H',N Z H'->∃m',m' < m/\W (i+1) m' Z H')/\∀x H',J.yld i H x H'->g x (eI own ix σ) H' λK H2=>
     (K.length=own+ix.length/\∀(j:Nat) v,(eI own ix σ)[j]?=!!v->K[j]?=!!v) /\
     tc K H2 λok l=>if ok then te K l λy H4=>H4 c=!.lst ys/\ys.length<sizeLine/\N (ys++[y]) (upd H4 c<|.lst<|ys++[y])else N ys l)) itv s)(hR:∀f l fp c (σ':St) H' s',Inv X pz σ l f->(∀a∈fp,jX X pz l a)->Inv (blk X scope N f l fp pz) [] σ' H' s'->Q (.ref c) H'->RR (.ref c) f.heap.objs.size (.ok .next) s'):wpAny (model X.prog X.w) X.A (newList []) (λc s₃=>wpAny (model X.prog X.w) X.A (newFunctionEnv scope X.env.globals (dB X.env.cells scope.names []) [] X.env.qual () .none<|!X.env) (λI s₄=>
   codeAny (model X.prog X.w) X.A (.compStart (.ListComp elt [#[tg,iter,ifs,0]] scope pos) 0 itv c {I with scope:=relabel scope X.env}) (RR c I.locals) s₄) E s₃) E s:=by
 let#[it,fp,tn,J,H1,rfl,I1,T,st1,f1,hacc]:=hp;exact Xz ?_
 -- the list
 have Y:Inv X pz σ _ {s with heap:=s.heap.push {cls:=.type "list",dict:=(),data:=.seq ([]).toArray} }:=I1.lnew .nil<|YN _;generalize hs3:({s with heap:=s.heap.push {cls:=.type "list",dict:=(),data:=.seq ([]).toArray} })=f at Y ⊢;have kp3:∀a o,s.heap.get? a=!o->f.heap.get? a=!o:=λa o e=>by rw[<-hs3];exact Yf _ e
 have st3:=T.keep _ _ _ st1 λa _ o e=>kp3 a o e
 have lt1:∀a∈fp,a<s.heap.objs.size:=λa B=>by let#[o,e,_]:=T.obj _ _ st1 a B;exact Yw e
 have U:∀a∈fp,jX X pz (upd H1 s.heap.objs.size<|.lst []) a:=λa B=>#[by rw[az<|Yz<|lt1 a B];exact(f1 a B).1,(f1 a B).2]
 have P:∀a∈fp,a<f.heap.objs.size:=λa B=>by let#[o,e,_]:=T.obj _ _ st3 a B;exact Yw e
 let#[W,#[m0,w0],L]:=hacc s.heap.objs.size I1.fresh;generalize hH3:upd H1 s.heap.objs.size _=l at Y U w0;generalize hacc':s.heap.objs.size=c at w0 L ⊢;exact yt _ λI hc'=>?_;subst hc';let J0:=Ah (fp:=fp) b cp Y U P;have st4:tn 0 (pushCells (f.heap.push {cls:=.type "dict",data:=.dict #[[]]}) scope.names):=T.keep _ _ _ st3 λa _ o e=>VU _ _ a o<|Yf _ e
 generalize hs4:({f with heap:=pushCells (f.heap.push {cls:=.type "dict",data:=.dict #[[]]}) scope.names}:Shared)=s4 at J0 ⊢;have M:tn 0 s4.heap:=by rw[<-hs4];exact st4
 -- the C
 have C:codeAny (model X.prog X.w) X.A (.compLoop (.ListComp elt [#[tg,iter,ifs,0]] scope pos) 0 (.ref it) (.ref c)<|jb X.env scope f.heap.objs.size) (RR (.ref c) f.heap.objs.size) s4:=by
  exact Ac (λn s'=>∃i ys H',Inv (blk X scope N f l fp pz) [] (eI own ix σ) H' s'/\tn i s'.heap/\(∀a∈fp,H' a=())/\W i n ys H') ?_ m0 #[0,[],l,J0,M,λa B=>(U a B).1,w0];rintro n s5 ⟨i,ys,H5,J5,st5,fr5,w5⟩;let fp5:=D5 (pl:=[]) (N:=N) b Y U P fr5;rcases L i n ys H5 w5 with⟨stop,q⟩|⟨go,NN,hN,step⟩
  .exact thn (T.done (blk X scope N f l fp pz) qx qx qx hcalm i [] s5 _ H5 _ J5 fp5 st5 stop) λr s6 #[hr,J6]=>?_;subst hr;exact hR f l fp c _ H5 s6 Y U J6 q
  .exact thn (T.item (blk X scope N f l fp pz) qx qx qx hcalm i [] s5 _ H5 _ J5 fp5 st5 go) λr s6 #[u,hr,h6]=>?_;subst hr;exact thn h6 λ_ s7 h=>?_;let#[x,H7,J7,r7,y7,O,fr7]:=h;let fp7:=D5 (pl:=[]) (N:=N) b Y U P fr7;let J7':=J7.pinned fp7<|T.obj _ _ O;have back:∀{p:St}{R:Hp}{S:Shared}{zs:List V},Inv (blk X scope N f l fp pz) ([]++pI fp s7.heap) p R S->(p.length=own+ix.length/\∀(j:Nat) v,(eI own ix σ)[j]?=!!v->p[j]?=!!v)->NN zs R->
     ∃m,m<n/\∃i ys H',Inv (blk X scope N f l fp pz) [] (eI own ix σ) H' S/\tn i S.heap/\(∀a∈fp,H' a=())/\W i m ys H':=λ{p R S zs} J8 hw n8=>by
    let#[m',hm,w8]:=hN zs R n8;exact#[m',hm,i+1,zs,R,(J8.unpinned).weak (by rw[iu,hw.1]) hw.2,T.keep _ _ _ O λa B o e=>(J8.pin (a,o)<|YC _<|YC _<|iW B e).1,λa B=>?_,w8];let#[o,e,d]:=T.obj _ _ O a B;exact(J8.pin (a,o)<|YC _<|YC _<|iW B e).2.1
   exact thn (hg f l fp pz _ s7 _ H7 x u _ J7' r7<|step x H7 y7) λ_ S h=>?_;let#[p,R,J8,hw,q8]:=h;exact thn (hc f l fp pz _ S p R _ J8 q8) λok s9 h=>?_;let#[H9,J9,q9]:=h;cases ok with
   |false=>
    rw[Yn Yk]at q9 ⊢;exact back J9 hw q9
   |true=>
    rw[Yl qx]at q9 ⊢;exact thn (he f l fp pz _ s9 p H9 _ J9 q9) λy s10 h=>?_;let#[z,H10,J10,rz,e10,hlt,n10]:=h;exact thn (f7 (X:=blk X scope N f l fp pz) _ s10 p H10 (.ref c) [z] (.ref c) [y] (λv H'=>v=.non/\H'=upd H10 c (.lst<|ys++[z])) J10 qx (.cons rz .nil) #[c,ys,z,qx,qx,e10,hlt,qx,qx]) λ_ s11 h=>?_;let#[_,H11,J11,_,_,e11]:=h;subst e11;exact back J11 hw n10
 subst hs4;exact codeAny_compStart_list C<|T.self _ _ _ _ _ M C
def yQ(hcalm:X.calm)(b:BlkScope X scope)(cp:Caps X scope N own ix)(hi:PI X tg iter wi)(l:∀s H fp pz,PG (blk X scope N s H fp pz) tg g)(o:∀s H fp pz,o0 (blk X scope N s H fp pz) ifs tc)(he:∀s H fp pz,PE (blk X scope N s H fp pz) elt te)(hnames:∀y∈scope.names,y.2=.local->scope.names.lookup y.1=!.local:=by decide)(hs:FsI iter X:=by intro _;rfl):PE X (.ListComp elt [#[tg,iter,ifs,0]] scope pos) (zW own ix wi g tc te):=by
 intro pz s e H Q I h;exact wpAny_comprehension_free qx hs (qq<|b.cl I.ok) b.kind hnames<|thn (hi pz s e H _ I h) λv L u=>thn u λi K p=>?_;exact oG hcalm b cp l o he p ?_;intro E P fp a f B M z x J q;let#[m,j,_]:=id J.loc;exact#[m,j,λO c=>#[.ref a,B,ww z x J c,qx,q]]
def yx{y}{py spos}(hcalm:X.calm)(hN:X.N.Nodup)(hiN:X.N[i]?=!y)(hx:Loc X.env.scope y)(b:BlkScope X scope)(cp:Caps X scope N own ix)(hi:PI X tg iter wi)(hg:∀s H fp pz,PG (blk X scope N s H fp pz) tg g)(S:∀s H fp pz,o0 (blk X scope N s H fp pz) ifs tc)(he:∀s H fp pz,PE (blk X scope N s H fp pz) elt te)(K:swapsWith (.ListComp elt [#[tg,iter,ifs,0]] scope pos) (some<|.Name y py) spos.line X.env=pure true:=by rfl)(hnames:∀y∈scope.names,y.2=.local->scope.names.lookup y.1=!.local:=by decide)(hs:FsI iter X:=by intro _;rfl)(hf:FnL X y:=by trivial):PS X (.Assign [.Name y py] (.ListComp elt [#[tg,iter,ifs,0]] scope pos) spos) (Em (zW own ix wi g tc te)<|k8 i):=by
 intro pz s u H D I h;rw[exec_Assign_Name_used _ _ _ _ K];exact Yc<|wpAny_standAt<|Yc ?_;exact Yc<|ZR (wpAny_comprehension_free qx hs (qq<|b.cl I.ok) b.kind hnames
 <|thn (hi pz s u H _ I h) λv s1 h1=>thn h1 λZ s2 h2=>?_) (λw j hq=>Yj<|Yj hq) λw w e=>e
 exact oG (Q:=λx H1=>k8 i x u H1 D.nx) hcalm b cp hg S he h2 ?_;intro B H3 fp f Y U j l f3 J q;let#[m,P,_]:=id J.loc;let I':=ww l f3 J<|Heap.SameBut.refl ..;exact wpAny_assign_Name<|rD (v:=.ref f) I' hN hiN hx qx (λE T R=>?_) hf;let#[a,L,ha]:=R;have O:B.heap.objs.size≠a:=by
  rcases ha with ha|ha
  .rw[ha];exact Xl l.lt
  .let#[v,z]:=l.cell y a ha;exact Xl z.lt
 exact#[m,P.sameBut L O,λh' M=>?_];exact#[u.set i _,U,?_,q];exact T.turned (λc o S e=>(M.2 c S).trans e) J.free (Xl l.lt) (.inr l.sz) (λx c e=>by let#[v,z]:=l.cell x c e;exact Yz z.lt) λp hp=>Yz<|Yw (l.pin p hp).1
end
section
variable{κ:Type} [DecidableEq κ]
def eY(kvs:List (κ×V))(k:κ):Option V:=(kvs.find? λa=>decide<|a.1=k).map (·.2)
def iB(kvs:List (κ×V))(k:κ)(v:V):List (κ×V):=
 if(kvs.any λa=>decide<|a.1=k) then kvs.map (λa=>if a.1=k then(a.1,v)else a)else kvs++[(k,v)]
def oP{p}{k:κ}(e:p.1=k):eY (p::r) k=!p.2:=by simp[eY,Xc,e]
def pS{p}{k:κ}(e:¬p.1=k):eY (p::r) k=eY r k:=by simp[eY,Xc,e]
theorem wx k:∀kvs:List (κ×V),(kvs.any λa=>decide (a.1=k))=(eY kvs k).isSome
 |[]=>rfl
 |p::r=>by
  rw[XG];by_cases e:p.1=k
  .simp[oP e,YI e]
  .rw[pS e,YB e,Bool.false_or];exact wx k r
theorem jp kvs(k:κ)v:(iB kvs k v).length<=kvs.length+1:=by
 delta iB;grind
def RelO.isSome_eq{o}{u}(r:RelO o u):o.isSome=u.isSome:=by
 cases o with
 |none=>cases u with
  |none=>rfl
  |some _=>exact(show False from r).elim
 |some _=>cases u with
  |none=>exact(show False from r).elim
  |some _=>rfl
def RelO.getD{o}{u}(r:RelO o u)(a:RelV d d'):RelV (o.getD d) (u.getD d'):=by
 cases o with
 |none=>cases u with
  |none=>exact a
  |some _=>exact(show False from r).elim
 |some _=>cases u with
  |none=>exact(show False from r).elim
  |some _=>exact r
def KV.val{vs}(r:KV kvs vs)(k:κ):RelO (eY kvs k) (valueAt vs k):=by
 induction r with
 |nil=>exact True.intro
 |@cons p q i a h t ih=>
  let#[f,g]:=h;by_cases e:p.1=k
  .let c:=f.symm.trans e;have b:valueAt (q::a) k=!q.2:=by simp[valueAt,c]
   rwa[oP e,b]
  .have c:¬q.1=k:=λz=>e<|f.trans z
   have b:valueAt (q::a) k=valueAt a k:=by simp[valueAt,c]
   rwa[pS e,b]
def KV.any{vs}(r:KV kvs vs)(k:κ):(kvs.any λa=>decide (a.1=k))=vs.any λa=>decide (a.1=k):=by
 induction r with
 |nil=>rfl
 |cons h t ih=>rw[XG,XG,ih,h.1]
theorem KV.repl{vs}(r:KV kvs vs)(k:κ)(c:RelV y u):KV (kvs.map λa=>if a.1=k then(a.1,y)else a) (vs.map λa=>if a.1=k then(a.1,u)else a):=by
 induction r with
 |nil=>exact .nil
 |@cons p q i g h t ih=>
  rw[YF,YF];exact .cons ?_ ih;grind
def KV.put{vs}(r:KV kvs vs)(k:κ)(a:RelV y u):KV (iB kvs k y) (stored vs k u):=by
 delta iB stored;rw[r.any];by_cases e:(vs.any λb=>decide<|b.1=k)
 .rw[Yl e,Yl e];exact r.repl k a
 .rw[Yn e,Yn e];exact Paired.snoc r #[qx,a]
def KV.length{vs}(r:KV kvs vs):kvs.length=vs.length:=VO r
end
def sf{P}(r:RelV (kV k) u):(a8 P w).is k u:=by
 cases k with
 |inl i=>let#[t,e]:=(show ∃t,u=Value.int i t from r);subst e;exact v_ P w i t
 |inr x=>let#[t,e]:=(show ∃t,u=Value.str x t from r);subst e;exact vY P w x t
theorem sJ{P}:∀{ks}{us},Vals (ks.map kV) us->ItemsAre (a8 P w) ks us
 |[],_,r=>by rw[List.map_nil]at r;cases r;exact .nil
 |k::ks,_,r=>by
  cases r with
  |cons h t=>exact .cons (sf h)<|sJ t
abbrev KT(H:Hp):List (List Key×V)->List (List Key×Addr×Value)->Prop:=Paired λp q=>p.1=q.1/\H q.2.1=!.tup (p.1.map kV)/\RelV p.2 q.2.2
def KT.val{xs}(r:KT H kvs xs)k:RelO (eY kvs k) ((atKey xs k).map (·.2)):=by
 induction r with
 |nil=>exact True.intro
 |@cons p q i a h t ih=>
  let#[f,_,g]:=h;by_cases e:p.1=k
  .let c:=f.symm.trans e;have b:atKey (q::a) k=!q.2:=by simp[atKey,c]
   rwa[oP e,b]
  .have c:¬q.1=k:=λz=>e<|f.trans z
   have b:atKey (q::a) k=atKey a k:=by simp[atKey,c]
   rwa[pS e,b]
theorem KT.repl{xs}(r:KT H kvs xs)k(f:RelV y u) :
  KT H (kvs.map λb=>if b.1=k then(b.1,y)else b) (xs.map<|putAt k u):=by
 induction r with
 |nil=>exact .nil
 |@cons p q j i h t ih=>
  rw[YF,YF];exact .cons ?_ ih;let#[a,c,g]:=h;delta putAt;grind
def KT.put{xs}(r:KT H kvs xs)k{b}(h:H b=!.tup (k.map kV))(a:RelV y u) :
  KT H (iB kvs k y) (storedH xs k b u):=by
 have e:(kvs.any λc=>decide<|c.1=k)=(atKey xs k).isSome:=by rw[wx,(r.val k).isSome_eq,Option.isSome_map]
 delta iB storedH;rw[e];by_cases q:(atKey xs k).isSome
 .rw[Yl q,Yl q];exact r.repl k a
 .rw[Yn q,Yn q];exact Paired.snoc r #[qx,h,a]
def KT.keeps{xs}(r:KT H kvs xs)(h:∀b ys,H b=!.tup ys->H' b=!.tup ys):KT H' kvs xs:=
 Paired.mapP r λy y z=>#[z.1,h _ _ z.2.1,z.2.2]
section
variable{P:Program}
def Hh{u}(ok:HOk P w H h)(e:Rd H a u):ObjOk P w H h a u:=e.ok ok
def sC(ok:HOk P w H h)(e:Rd H a (.dK kvs)):kvs.length<=sizeLine/\(a == sysModules)=false/\∃vs,KV kvs vs/\h.DictOf (a8 P w) a vs:=
 show ObjOk P w H h a (.dK kvs)from Hh ok e
def L3(ok:HOk P w H h)(e:H a=!.dK kvs):kvs.length<=sizeLine/\(a == sysModules)=false/\∃vs,KV kvs vs/\h.DictOf (a8 P w) a vs:=sC ok<|.inl e
def qe(ok:HOk P w H h)(e:H a=!.tup (ks.map kV)):(tupleKind (a8 P w)).is h ks a:=by
 let#[_,i,r,#[o,f,c,n,b],_]:=(show ObjOk P w H h a (.tup _)from ok a _ e)
 exact#[o,i.toArray,n,f,c,b,by simpa using sJ r]
def ro(ok:HOk P w H h)(e:Rd H a (.dT kvs)):kvs.length<=sizeLine/\(a == sysModules)=false /\
  ∃xs,KT H kvs xs/\h.DictOfH (tupleKind<|a8 P w) a xs:=by
 let#[z,y,xs,r,o,s,u,j,i,g,f,c]:=(show ObjOk P w H h a (.dT kvs)from Hh ok e)
 exact#[z,y,xs,r,o,s,u,j,i,g,f,λx hx=>?_,c];have all:∀{l}{m},KT H l m->∀x∈m,(tupleKind<|a8 P w).is h x.1 x.2.1:=by
  intro l m q;induction q with
  |nil=>intro x hx;exact nomatch hx
  |@cons p q B A b t ih=>
   intro x hx;rcases Ys.mp hx with e|hx
   .subst e;exact qe ok<|by rw[<-b.1];exact b.2.1
   .exact ih x hx
 exact all r x hx
def Ke(ok:HOk P w H h)(e:H a=!.dT kvs):kvs.length<=sizeLine/\(a == sysModules)=false /\
  ∃xs,KT H kvs xs/\h.DictOfH (tupleKind<|a8 P w) a xs:=ro ok<|.inl e
end
def DGet(H:Hp)(a:Addr)(y:V)(r:Option V):Prop:=
 (∃c k,Rd H a (.dK c)/\y=kV k/\r=eY c k)\/∃c k b,Rd H a (.dT c)/\y=.ref b/\H b=!.tup (k.map kV)/\r=eY c k
def DPut(H:Hp)(a:Addr)(y v:V)(H':Hp):Prop:=
 (∃c k,H a=!.dK c/\y=kV k/\c.length<sizeLine/\H'=upd H a (.dK<|iB c k v)) \/
 ∃c k b,H a=!.dT c/\y=.ref b/\H b=!.tup (k.map kV)/\c.length<sizeLine/\H'=upd H a (.dT<|iB c k v)
def DGet.k{k}(e:H a=!.dK kvs):DGet H a (kV k) (eY kvs k):=.inl #[kvs,k,.inl e,qx,qx]
def DGet.t{b}{k}(e:H a=!.dT kvs)(c:H b=!.tup (k.map kV)):DGet H a (.ref b) (eY kvs k):=.inr #[kvs,k,b,.inl e,qx,c,qx]
def DPut.k{k}(e:H a=!.dK kvs)(h:kvs.length<sizeLine):DPut H a (kV k) v (upd H a (.dK (iB kvs k v))):=.inl #[kvs,k,e,qx,h,qx]
def DPut.t{b}{k}(e:H a=!.dT kvs)(c:H b=!.tup (k.map kV))(h:kvs.length<sizeLine):DPut H a (.ref b) v (upd H a<|.dT<|iB kvs k v):=.inr #[kvs,k,b,e,qx,c,h,qx]
section
variable{v:V}{r:Value}{o:Option V}
def Inv.big(I:Inv X pz σ H s):sysModules<s.heap.objs.size:=by let h:=(I.mod.glob.keeps I.bk).lt;exact ZU (by decide) h
def AH(L:A.units+1<cLine)(I:Inv X pz σ H s)(g:DGet H a y (!v))(C:RelV y u)(h:∀i s',Inv X pz σ H s'->RelV v i->Q i s'):wpAny (model X.prog X.w) A (getItem (.ref a) u) Q E s:=by
 rcases g with⟨j,k,e,x,l⟩|⟨j,k,b,e,x,O,l⟩
 .subst x;let#[z,N,K,f,B]:=sC I.hok e;let#[i,m,c]:=RelO.some_of (v:=v) (o:=valueAt K k) (by rw[l];exact f.val k);exact wpAny_getItem_of (sf C) B.mapOf m<|h i _ (I.tok _) c
 .subst x;cases(show u=Value.ref b from C);let#[z,N,J,f,B]:=ro I.hok e;let#[i,m,c]:=RelO.some_of (v:=v) (o:=(atKey J k).map (·.2)) (by rw[l];exact f.val k);let#[p,M,q]:=Zd.mp m;exact wpAny_getItem_heap (Vm L) (qe I.hok O) B M ?_;rw[q];exact h i _ (I.tok _) c
def Fg(x:A.units+1<cLine)(I:Inv X pz σ H s)(g:DGet H a y o)(p:RelV y u)(h:∀s',Inv X pz σ H s'->Q (.bool ((not<|o.isSome))) s'):wpAny (model X.prog X.w) A (compareOp .NotIn u<|.ref a) Q E s:=by
 rcases g with⟨f,k,e,j,l⟩|⟨f,k,b,e,j,B,l⟩
 .subst j;let#[z,i,J,c,m]:=sC I.hok e;exact wpAny_notIn_of (sf p) i m.mapOf ?_;rw[<-(c.val k).isSome_eq,<-l];exact h _<|I.tok _
 .subst j;cases(show u=Value.ref b from p);let#[z,i,C,c,m]:=ro I.hok e;exact wpAny_notIn_heap (Vm x) (qe I.hok B) i m ?_;let q:=(c.val k).isSome_eq;rw[Option.isSome_map]at q;rw[<-q,<-l];exact h _<|I.tok _
def zR(I:Inv X pz σ H s)(m:Mut (H a))(hs:Heap.SameBut a s.heap h')(he:∃q,h'.get? a=!q)(new:ObjOk X.prog X.w (upd H a ob) h' a ob):Inv X pz σ (upd H a ob) {s with heap:=h',toks:=t' }:=
 I.write m (.inl qx) (λb q h z=>(hs.2 b h).trans z) he new
def Ct{P}{vs}(z:kvs.length<=sizeLine)(hd:(a == sysModules)=false)(b:KV kvs vs)(c:h'.DictOf (a8 P w) a vs):ObjOk P w H' h' a (.dK kvs):=#[z,hd,vs,b,c]
theorem Bo{Q}(T:A.units+1<cLine)(I:Inv X pz σ H s)(g:DPut H a y v H')(L:RelV y u)(M:RelV v r)(h:∀s',Inv X pz σ H' s'->Q PUnit.unit s'):wpAny (model X.prog X.w) A (setItem (.ref a) u r) Q E s:=by
 rcases g with⟨i,k,e,C,l,J⟩|⟨i,k,b,e,C,P,l,J⟩
 .subst C J;let#[z,B,S,f,K]:=L3 I.hok e;have o:S.length<=sizeLine:=by rwa[<-f.length]
  have x:(iB i k v).length<=sizeLine:=by have:=jp i k v;lia
  exact wpAny_setItem_pairs (sf L) K λN j p=>h _ ?_;have U:∃q,N.get? a=!q:=let #[q,_,_,m,_]:=j;#[q,m]
  exact zR I (by rw[e];exact True.intro) p U<|Ct x B (f.put k M) j
 .subst C J;cases(show u=Value.ref b from L);let#[z,B,R,f,K]:=Ke I.hok e;have o:R.length<=sizeLine:=by rwa[<-VO f]
  have x:(iB i k v).length<=sizeLine:=by have:=jp i k v;lia
  exact wpAny_setItem_heap (Vm T) (qe I.hok P) K λN j p=>h _ ?_;let#[q,es,ep,m,h2,h3,Z,_,Y]:=j;exact zR I (by rw[e];exact True.intro) p #[q,m] #[x,B,_,(f.put k P M).keeps λc ys O=>?_,q,es,ep,m,h2,h3,Z,Y];rwa[az<|Lm O e λz=>nomatch z]
end
def Jl(i:Expr):Prop:=∀o a,subscripted i false o a=operate [o,a] (getItem o a)
def Gb{a}{T id}(m:typeLookup (.type T) "__getitem__"=pure (some<|.builtin id))(hs:Jl a)(h:wpAny (model prog w) A (eval value env) (λo f=>wpAny (model prog w) A (eval a env) (λi b=>b.TypeIs o T/\wpAny (model prog w) A (getItem o i) Q E b) E f) E s):wpAny (model prog w) A (eval (.Subscript value a pos) env) Q E s:=by
 exact Subscript_<|ZR h (λo f j=>ZR j (λi b c=>?_) λz z x=>x) λz z x=>x;let#[l,c]:=c;delta subscriptTail;exact Yc ?_;rw[getitemInPython_of_ne l.not_modules];exact Yc<|XS l m ?_;have fin:wpAny (model prog w) A (subscripted a false o i) (λr e=>wpAny (model prog w) A (letTemporaryGo value o r>>=λz=>pure r) Q E e) E b:=by rw[hs];exact wpAny_operating<|ZR c (λr e g=>Yc<|wpAny_letTemporaryGo<|Yj g) λz z x=>x
 first
  |exact Yj<|Yc fin
  |exact Yc _
  |exact Yc fin
def wm{o}(I:Inv X pz σ H s)(g:DGet H a y o):s.TypeIs (.ref a) "dict":=by
 rcases g with⟨c,k,e,_,_⟩|⟨c,k,b,e,_,_,_⟩
 .let#[_,_,h,_,f]:=sC I.hok e;exact f.typeIs
 .let#[_,_,x,_,f]:=ro I.hok e;exact f.typeIs
def LR(td ty:TE):TE:=λb H Q=>td b H λx e=>ty b e λy c=>∃a v,x=.ref a/\DGet c a y (!v)/\Q v c
def GS(ty td:TE):TE:=λb H Q=>ty b H λy e=>td b e λx c=>∃a o,x=.ref a/\DGet c a y o/\Q (.bl<|(not<|o.isSome)) c
def LJ(td ty tv:TE):TS:=λD b H=>tv b H λv g=>td b g λx f=>ty b f λy e=>∃a c,x=.ref a/\DPut e a y v c/\D.nx b c
section
variable{i:Expr}{ty:TE}
def E8(z:X.A.units+1<cLine)(B:PE X o td)(hi:PE X i ty)(hs:Jl i):PE X (.Subscript o i pos) (LR td ty):=by intro p s e H Q I h;exact Gb F.slot_dict_getitem.lookup hs<|bz (B p s e H _ I h) λu j x L J m w=>bz (hi p j e L _ J w) λP O y K f l c=>?_;let#[a,v,C,g,q]:=c;subst C;obtain rfl:u=Value.ref a:=m;exact#[wm f g,AH z f g l λM N E b=>#[v,K,E,b,q]]
def Av(w:X.A.units+1<cLine)(hi:PE X i ty)(z:PE X o td):PC X .NotIn i o (GS ty td):=by intro p s c H Q I h;exact bz (hi p s c H _ I h) λO e y L J f l=>bz (z p e c L _ J l) λu N x K E j b=>?_;let#[a,m,B,g,q]:=b;subst B;obtain rfl:u=Value.ref a:=j;exact Fg w E g f λM C=>#[.bl _,K,C,qx,q]
def zk(B:X.A.units+1<cLine)(C:PE X o td)(hi:PE X i ty)(hv:PE X value tv)(hs:swapsWith value (!.Subscript o i pos') pos.line X.env=pure false):PS X (.Assign [.Subscript o i pos'] value pos) (LJ td ty tv):=by
 intro p s b H D I h;exact wpAny_Assign_Subscript (bz (hv p s b H _ I h) λr f v P M m z=>bz (C p f b P _ M z) λu e x O L l w=>bz (hi p e b O _ L w) λS R y T K j c=>?_) hs;let#[a,N,E,g,q]:=c;subst E;obtain rfl:u=Value.ref a:=l;exact Bo B K g j m λQ J=>#[b,N,J,q]
end
def DK{P}(h:Heap)(a:sysModules<h.objs.size):ObjOk P w H (h.push {cls:=.type "dict",data:=.dict #[[]]}) h.objs.size (.dK []):=
 #[YN _,ZB.mpr<|XE<|Yz a,[],.nil,Heap.DictOf.new h]
def Cc{P}(h:Heap)(a:sysModules<h.objs.size):ObjOk P w H (h.push {cls:=.type "dict",data:=.dict #[[]]}) h.objs.size (.dT []):=
 #[YN _,ZB.mpr<|XE<|Yz a,[],.nil,_,#[[]],0,Yq _ qx,#[qx,qx,qx],qx,qx,List.nodup_nil]
def JJ:TE:=λ_ H Q=>∀p,H p=()->Q (.ref p) (upd H p<|.dT [])
def BL:PE X (.Dict [] [] pos) JJ:=λp s b H Q I h=>
 wpAny_Dict_empty #[.ref s.heap.objs.size,_,I.laid (λz z q=>Yf _ q) (Yp _)<|Cc s.heap I.big,qx,h _<|I.hok.fresh<|Yp _]
def iN(kvs more:List (Key×V)):List (Key×V):=more.foldl (λa b=>iB a b.1 b.2) kvs
structure M2 (X:Cx) (o:Expr) (m:Str) (apos:Pos) (e f:Expr) (cpos:Pos):Prop where
 base:attributeBase o m X.env (eval o X.env)=eval o X.env
 few:((backTo cpos (starEach [e,f] X.env)).all (λx=>(not<|x.1))&&(backToKw cpos (keywordEach [] X.env)).all (λx=>x.1.isSome)
  && decide (([e,f]:List Expr).length+([]:List Keyword).length+(if([]:List Keyword).isEmpty then 0 else 1)<30))=true
 line:(apos.endLine == cpos.line)=true
 trees:backTo cpos (starEach [e,f] X.env)=[(false,eval e X.env),(false,eval f X.env)]
def IsD(H:Hp)(a:Addr):Prop:=(∃b,Rd H a<|.dK b)\/∃b,Rd H a<|.dT b
def HD(I:Inv X pz σ H s)(d:IsD H a):s.TypeIs (.ref a) "dict"/\(∀b,Value.ref a=.ref b->∃ob,s.heap.get? b=!ob/\ob.dict=())/\(a == sysModules)=false:=by
 rcases d with⟨f,e⟩|⟨f,e⟩
 .let#[_,h,j,_,c]:=sC I.hok e;exact#[c.typeIs,λb q=>?_,h];cases q;let#[ob,_,_,i,g,_]:=c;exact#[ob,i,g.2.1]
 .let#[_,h,x,_,c]:=ro I.hok e;exact#[c.typeIs,λb q=>?_,h];cases q;let#[ob,_,_,i,g,_]:=c;exact#[ob,i,g.2.1]
section
variable{d:V}{r:Value}{o:Option V}
def I9(C:A.units+1<cLine)(I:Inv X pz σ H s)(g:DGet H a y o)(q:RelV y u)(x:RelV d r)(h:∀p s',Inv X pz σ H s'->RelV (o.getD d) p->Q p s'):wpAny (model X.prog X.w) A (call (.builtin "dict.get") [.ref a,u,r]) Q E s:=by
 rcases g with⟨i,k,e,m,l⟩|⟨i,k,b,e,m,J,l⟩
 .subst m;let#[z,j,K,c,f]:=sC I.hok e;exact call_meetsIn VE f.typeIs F.entry_dict_get (F.args_dict_get_3 _ _ _) (meets_dict_get_default _ a (sf q) j r) #[_,f.mapOf,h _ _ (I.tok _) ?_];rw[l];exact(c.val k).getD x
 .subst m;cases(show u=Value.ref b from q);let#[z,j,B,c,f]:=ro I.hok e;exact call_meetsIn VE f.typeIs F.entry_dict_get (F.args_dict_get_3 _ _ _) (meetsH_dict_get_default _ a b j r) #[Vm C,k,B,qe I.hok J,f,h _ _ (I.tok _) ?_];rw[l];exact(c.val k).getD x
end
def Ir(td ty tx:TE):TE:=λb H Q=>td b H λx e=>∃a,x=.ref a/\IsD e a/\ty b e λy f=>tx b f λz c=>∃o,DGet c a y o/\Q (o.getD z) c
section
variable{f:Expr}{ty tx:TE}
def CD(N:X.A.units+1<cLine)(O:PE X o td)(he:PE X e ty)(P:PE X f tx)(m:M2 X o "get" apos e f cpos):PE X (.Call (.Attribute o "get" apos) [e,f] [] cpos) (Ir td ty tx):=by
 intro p s b H Q I h;exact wpAny_Call_method m.base m.few m.line F.plainAttrs_dict VE F.type_dict_get<|bz (O p s b H _ I h) λu B x H1 j J i=>?_;let#[a,R,d,M]:=i;subst R;obtain rfl:u=Value.ref a:=J;let#[q,l,_]:=HD j d;exact#[q,l,?_];rw[m.trees];exact Vu rfl<|Calls.evalArgs_plain<|XQ<|bz (he p B b H1 _ j M) λiv w y Z U E L=>
  XQ<|bz (P p w b Z _ U L) λfv s3 z Y T C #[ov,g,K]=>Calls.spliced_nil ?_
 exact I9 N T g E C λw' s4 S c=>#[_,Y,S,c,K]
end
inductive D where
 |non|bl (b:Bool)|int (i:Int)|str (x:Str)
 |tup (xs:List D)|lst (xs:List D)
 |dT (kvs:List (List Key×D))|dK (kvs:List (Key×D))
 |ins (C:Addr) (fs:List (Str×D))
 |fn (a:Addr) (v:V) (d:D)
mutual
inductive Rep (K:PySem.W.Frag) (H:Hp):V->D->Prop
 |non:Rep K H .non .non
 |bl {b:Bool}:Rep K H (.bl b) (.bl b)
 |int {i:Int}:Rep K H (.int i) (.int i)
 |str {x:Str}:Rep K H (.str x) (.str x)
 |tup {a:Addr}{vs:List V}{ds:List D}:H a=!.tup vs->Reps K H vs ds->Rep K H (.ref a) (.tup ds)
 |lst {a:Addr}{vs:List V}{ds:List D}:SqL K H a vs->Reps K H vs ds->Rep K H (.ref a) (.lst ds)
 |dT {a:Addr}{vs:List (List Key×V)}{ds:List (List Key×D)}:H a=!.dT vs->RepsT K H vs ds->Rep K H (.ref a) (.dT ds)
 |dK {a:Addr}{vs:List (Key×V)}{ds:List (Key×D)}:H a=!.dK vs->RepsK K H vs ds->Rep K H (.ref a) (.dK ds)
 |ins {a C dx:Addr}{vs:List (Str×V)}{ds:List (Str×D)}:H a=!.ins C dx vs->RepsF K H vs ds->Rep K H (.ref a) (.ins C ds)
 /-- a lambda at a: what it takes from without is v -/
 |fn {a:Addr}{v:V}{d:D}:Rep K H v d->Rep K H (.ref a) (.fn a v d)
inductive Reps (K:PySem.W.Frag) (H:Hp):List V->List D->Prop
 |nil:Reps K H [] []
 |cons {v:V}{d:D}{vs:List V}{ds:List D}:Rep K H v d->Reps K H vs ds->Reps K H (v::vs) (d::ds)
inductive RepsT (K:PySem.W.Frag) (H:Hp):List (List Key×V)->List (List Key×D)->Prop
 |nil:RepsT K H [] []
 |cons {k:List Key}{v:V}{d:D}{vs:List (List Key×V)}{ds:List (List Key×D)}:Rep K H v d->RepsT K H vs ds->RepsT K H ((k,v)::vs) ((k,d)::ds)
inductive RepsK (K:PySem.W.Frag) (H:Hp):List (Key×V)->List (Key×D)->Prop
 |nil:RepsK K H [] []
 |cons {k:Key}{v:V}{d:D}{vs:List (Key×V)}{ds:List (Key×D)}:Rep K H v d->RepsK K H vs ds->RepsK K H ((k,v)::vs) ((k,d)::ds)
inductive RepsF (K:PySem.W.Frag) (H:Hp):List (Str×V)->List (Str×D)->Prop
 |nil:RepsF K H [] []
 |cons {k:Str}{v:V}{d:D}{vs:List (Str×V)}{ds:List (Str×D)}:Rep K H v d->RepsF K H vs ds->RepsF K H ((k,v)::vs) ((k,d)::ds)
end
def Rep.same(e:Same H H')(h:Rep K H v d):Rep K H' v d:=
 Rep.rec .non .bl .int .str (λh _ i=>.tup (e _ _ h) i) (λh _ i=>.lst (e.seq h) i) (λh _ i=>.dT (e _ _ h) i) (λh _ i=>.dK (e _ _ h) i) (λh _ i=>.ins (e _ _ h) i) (λ_ i=>.fn i)  .nil (λ_ _ a b=>.cons a b) .nil (λ_ _ a b=>.cons a b) .nil (λ_ _ a b=>.cons a b) .nil (λ_ _ a b=>.cons a b) h
def Reps.same(e:Same H H')(h:Reps K H v d):Reps K H' v d:=
 Reps.rec .non .bl .int .str (λh _ i=>.tup (e _ _ h) i) (λh _ i=>.lst (e.seq h) i) (λh _ i=>.dT (e _ _ h) i) (λh _ i=>.dK (e _ _ h) i) (λh _ i=>.ins (e _ _ h) i) (λ_ i=>.fn i)  .nil (λ_ _ a b=>.cons a b) .nil (λ_ _ a b=>.cons a b) .nil (λ_ _ a b=>.cons a b) .nil (λ_ _ a b=>.cons a b) h
def RepsT.same(e:Same H H')(h:RepsT K H v d):RepsT K H' v d:=
 RepsT.rec .non .bl .int .str (λh _ i=>.tup (e _ _ h) i) (λh _ i=>.lst (e.seq h) i) (λh _ i=>.dT (e _ _ h) i) (λh _ i=>.dK (e _ _ h) i) (λh _ i=>.ins (e _ _ h) i) (λ_ i=>.fn i)  .nil (λ_ _ a b=>.cons a b) .nil (λ_ _ a b=>.cons a b) .nil (λ_ _ a b=>.cons a b) .nil (λ_ _ a b=>.cons a b) h
def RepsK.same(e:Same H H')(h:RepsK K H v d):RepsK K H' v d:=
 RepsK.rec .non .bl .int .str (λh _ i=>.tup (e _ _ h) i) (λh _ i=>.lst (e.seq h) i) (λh _ i=>.dT (e _ _ h) i) (λh _ i=>.dK (e _ _ h) i) (λh _ i=>.ins (e _ _ h) i) (λ_ i=>.fn i)  .nil (λ_ _ a b=>.cons a b) .nil (λ_ _ a b=>.cons a b) .nil (λ_ _ a b=>.cons a b) .nil (λ_ _ a b=>.cons a b) h
def RepsF.same(e:Same H H')(h:RepsF K H v d):RepsF K H' v d:=
 RepsF.rec .non .bl .int .str (λh _ i=>.tup (e _ _ h) i) (λh _ i=>.lst (e.seq h) i) (λh _ i=>.dT (e _ _ h) i) (λh _ i=>.dK (e _ _ h) i) (λh _ i=>.ins (e _ _ h) i) (λ_ i=>.fn i)  .nil (λ_ _ a b=>.cons a b) .nil (λ_ _ a b=>.cons a b) .nil (λ_ _ a b=>.cons a b) .nil (λ_ _ a b=>.cons a b) h
def Reps.ind{M:List V->List D->Prop}(n:M [] [])(c:∀{v}{d}{vs}{ds},Rep K H v d->Reps K H vs ds->M vs ds->M (v::vs) (d::ds)){ds}(h:Reps K H vs ds):M vs ds:=
 Reps.rec (motive_1:=λ_ _ _=>True) (motive_3:=λ_ _ _=>True) (motive_4:=λ_ _ _=>True) (motive_5:=λ_ _ _=>True) trivial trivial trivial trivial (λ_ _ _=>trivial) (λ_ _ _=>trivial) (λ_ _ _=>trivial) (λ_ _ _=>trivial) (λ_ _ _=>trivial) (λ_ _=>trivial) n (λh q _ ih=>c h q ih) trivial (λ_ _ _ _=>trivial) trivial (λ_ _ _ _=>trivial) trivial (λ_ _ _ _=>trivial) h
def RepsT.ind{M:List (List Key×V)->List (List Key×D)->Prop}(n:M [] [])(c:∀{k}{v}{d}{vs}{ds},Rep K H v d->RepsT K H vs ds->M vs ds->M ((k,v)::vs) ((k,d)::ds)){vs}{ds}(h:RepsT K H vs ds):M vs ds:=
 RepsT.rec (motive_1:=λ_ _ _=>True) (motive_2:=λ_ _ _=>True) (motive_4:=λ_ _ _=>True) (motive_5:=λ_ _ _=>True) trivial trivial trivial trivial (λ_ _ _=>trivial) (λ_ _ _=>trivial) (λ_ _ _=>trivial) (λ_ _ _=>trivial) (λ_ _ _=>trivial) (λ_ _=>trivial) trivial (λ_ _ _ _=>trivial) n (λh q _ ih=>c h q ih) trivial (λ_ _ _ _=>trivial) trivial (λ_ _ _ _=>trivial) h
def RepsK.ind{M:List (Key×V)->List (Key×D)->Prop}(n:M [] [])(c:∀{k}{v}{d}{vs}{ds},Rep K H v d->RepsK K H vs ds->M vs ds->M ((k,v)::vs) ((k,d)::ds)){vs}{ds}(h:RepsK K H vs ds):M vs ds:=
 RepsK.rec (motive_1:=λ_ _ _=>True) (motive_2:=λ_ _ _=>True) (motive_3:=λ_ _ _=>True) (motive_5:=λ_ _ _=>True) trivial trivial trivial trivial (λ_ _ _=>trivial) (λ_ _ _=>trivial) (λ_ _ _=>trivial) (λ_ _ _=>trivial) (λ_ _ _=>trivial) (λ_ _=>trivial) trivial (λ_ _ _ _=>trivial) trivial (λ_ _ _ _=>trivial) n (λh q _ ih=>c h q ih) trivial (λ_ _ _ _=>trivial) h
def RepsF.ind{M:List (Str×V)->List (Str×D)->Prop}(n:M [] [])(c:∀{k}{v}{d}{vs}{ds},Rep K H v d->RepsF K H vs ds->M vs ds->M ((k,v)::vs) ((k,d)::ds)){vs}{ds}(h:RepsF K H vs ds):M vs ds:=
 RepsF.rec (motive_1:=λ_ _ _=>True) (motive_2:=λ_ _ _=>True) (motive_3:=λ_ _ _=>True) (motive_4:=λ_ _ _=>True) trivial trivial trivial trivial (λ_ _ _=>trivial) (λ_ _ _=>trivial) (λ_ _ _=>trivial) (λ_ _ _=>trivial) (λ_ _ _=>trivial) (λ_ _=>trivial) trivial (λ_ _ _ _=>trivial) trivial (λ_ _ _ _=>trivial) trivial (λ_ _ _ _=>trivial) n (λh q _ ih=>c h q ih) h
def Reps.length(h:Reps K H vs ds):vs.length=ds.length:=Reps.ind (M:=λvs ds=>vs.length=ds.length) qx (λz z ih=>YU Nat.succ ih) h
def Reps.get(h:Reps K H vs ds):ds[i]?=!d->∃v,vs[i]?=!v/\Rep K H v d:=
 Reps.ind (M:=λvs ds=>∀i:Nat,ds[i]?=!d->∃v,vs[i]?=!v/\Rep K H v d) (λz e=>nomatch e) (λr z ih i e=>by
  cases i with
  |zero=>obtain rfl:=YG e;exact#[_,qx,r]
  |succ i=>exact ih i e) h i
def Reps.getV(h:Reps K H vs ds):vs[i]?=!v->∃d,ds[i]?=!d/\Rep K H v d:=
 Reps.ind (M:=λvs ds=>∀i:Nat,vs[i]?=!v->∃d,ds[i]?=!d/\Rep K H v d) (λz e=>nomatch e) (λr z ih i e=>by
  cases i with
  |zero=>obtain rfl:=YG e;exact#[_,qx,r]
  |succ i=>exact ih i e) h i
def Reps.append{w}{ds es}(h:Reps K H vs ds)(s:Reps K H w es):Reps K H (vs++w) (ds++es):=Reps.ind (M:=λvs ds=>Reps K H (vs++w)<|ds++es) s (λr z ih=>.cons r ih) h
def Reps.take n(h:Reps K H vs ds):Reps K H (vs.take n) (ds.take n):=Reps.ind (M:=λvs ds=>∀n,Reps K H (vs.take n)<|ds.take n) (λn=>by cases n<;>exact .nil) (λr z ih n=>by
  cases n with
  |zero=>exact .nil
  |succ n=>exact .cons r<|ih n) h n
def Reps.drop n(h:Reps K H vs ds):Reps K H (vs.drop n) (ds.drop n):=Reps.ind (M:=λvs ds=>∀n,Reps K H (vs.drop n)<|ds.drop n) (λn=>by cases n<;>exact .nil) (λr q ih n=>by
  cases n with
  |zero=>exact .cons r q
  |succ n=>exact ih n) h n
def Reps.eraseIdx i(h:Reps K H vs ds):Reps K H (vs.eraseIdx i) (ds.eraseIdx i):=Reps.ind (M:=λvs ds=>∀i,Reps K H (vs.eraseIdx i)<|ds.eraseIdx i) (λz=>.nil) (λq t ih i=>by
  cases i with
  |zero=>exact t
  |succ i=>exact .cons q<|ih i) h i
def Reps.one(r:Rep K H v d):Reps K H [v] [d]:=.cons r .nil
def Reps.ints:∀(ns:List Int),Reps K H (ns.map V.int) (ns.map D.int)
 |[]=>.nil
 |_::r=>.cons .int<|Reps.ints r
inductive FO where
 |d (x:D)|lst (ds:List D)|dK (kvs:List (Key×D))|lL (ts:List (List Int))
def vU(t:List Int):D:=.lst<|t.map .int
def FO.dat:FO->D
 |.d x=>x
 |.lst ds=>.lst ds
 |.dK kvs=>.dK kvs
 |.lL ts=>.lst<|ts.map vU
inductive OD where
 |lst (ds:List D)|lst2 (dss:List (List D))|dT (kvs:List (List Key×D))|dK (kvs:List (Key×D))|ins (C:Addr) (fs:List (Str×D))|obj (C:Option Addr) (fs:List (Str×FO))|t3 (z:Bool) (f l:List Int) (ts:List (List Int))
def OD.d:OD->D
 |.lst ds=>.lst ds
 |.lst2 dss=>.lst<|dss.map .lst
 |.dT kvs=>.dT kvs
 |.dK kvs=>.dK kvs
 |.ins C fs=>.ins C fs
 |.obj (!C) fs=>.ins C<|fs.map λp=>(p.1,p.2.dat)
 |.obj () fs=>.dK<|fs.map λp=>(Sum.inr p.1,p.2.dat)
 |.t3 _ f l ts=>.tup [vU f,vU l,.lst<|ts.map vU]
def OD.flat:OD->Bool
 |.obj _ _=>false
 |.lst2 _=>false
 |.t3 _ _ _ _=>false
 |_=>true
inductive All2 {α β:Type} (R:α->β->Prop):List α->List β->Prop
 |nil:All2 R [] []
 |cons {a:α}{b:β}{as:List α}{bs:List β}:R a b->All2 R as bs->All2 R (a::as) (b::bs)
def All2.imp{e c}{R S}(f:∀a b,R a b->S a b){as:List e}{bs:List c}(h:All2 R as bs):All2 S as bs:=by
 induction h with
 |nil=>exact .nil
 |cons h _ ih=>exact .cons (f _ _ h) ih
def All2.length{b a}{R}{as:List b}{bs:List a}(h:All2 R as bs):as.length=bs.length:=by
 induction h with
 |nil=>rfl
 |cons _ _ ih=>exact YU Nat.succ ih
def ORep1(K:Kq)(F:Hp):OD->HO->Prop
 |.lst ds,.lst vs=>Reps K F vs ds
 |.dT ds,.dT vs=>RepsT K F vs ds
 |.dK ds,.dK vs=>RepsK K F vs ds
 |.ins C fs,.ins C' _ vs=>C=C'/\RepsF K F vs fs
 |_,_=>False
abbrev ILs(H:Hp)(ow:Addr->Prop)(bs:List Addr)(ts:List (List Int)):Prop:=All2 (λc t=>ow c/\t≠[]/\H c=!.lst (t.map V.int)) bs ts
def ILs.mono(k:∀b u,ow b->H b=!u->H' b=!u/\ow' b)(h:ILs H ow bs ts):ILs H' ow' bs ts:=h.imp λc t #[a,e,q]=>#[(k c _ a q).2,e,(k c _ a q).1]
def ILs.rep(k:∀b u,ow b->H b=!u->G b=!u)(h:ILs H ow bs ts):Reps K G (bs.map .ref) (ts.map vU):=by
 induction h with
 |nil=>exact .nil
 |cons q r ih=>exact .cons (.lst (SqL.of<|k _ _ q.1 q.2.2)<|Reps.ints _) ih
def FRep(K:Kq)(F H:Hp)(ow:Addr->Prop):FO->V->Prop
 |.d d,v=>Rep K F v d
 |.lst ds,v=>∃b,v=.ref b/\ow b/\∃u,H b=!u/\ORep1 K F (.lst ds) u
 |.dK ds,v=>∃b,v=.ref b/\ow b/\∃u,H b=!u/\ORep1 K F (.dK ds) u
 |.lL ts,v=>∃b bs,v=.ref b/\ow b/\H b=!.lst (bs.map .ref)/\ILs H ow bs ts
def tM:FO->V->List Addr
 |.d _,_=>[]
 |_,.ref b=>[b]
 |_,_=>[]
def bxO:Option Addr->Addr->List (Str×V)->HO
 |some C,dx,vs=>.ins C dx vs
 |none,_,vs=>.dK<|vs.map λp=>(Sum.inr p.1,p.2)
def gB(vs:List (Str×V))(fs:List (Str×FO)):List Addr:=(vs.zip fs).flatMap λp=>tM p.2.2 p.1.2
def ORep(K:Kq)(F H:Hp)(ow:Addr->Prop):OD->Addr->Prop
 |.lst2 dss,a=>ow a/\∃bs,H a=!.lst (bs.map .ref)/\(a::bs).Nodup/\All2 (λb j=>ow b/\∃u,H b=!u/\ORep1 K F (.lst j) u) bs dss
 |.obj C fs,a=>ow a/\∃i h,H a=!bxO C i h/\(a::gB h fs).Nodup/\All2 (λp q=>p.1=q.1/\FRep K F H ow q.2 p.2) h fs
 |.t3 z f l ts,a=>ow a/\∃c g e bs,H a=!.tup [.ref c,.ref g,.ref e]/\(if z then SqL K F c (f.map V.int)else ow c/\H c=!.lst (f.map V.int))/\(ow g/\H g=!.lst (l.map V.int))/\(ow e/\H e=!.lst (bs.map .ref))/\ILs H ow bs ts/\c≠g/\c≠e/\c∉bs/\g≠e/\g∉bs/\e∉bs
 |o,a=>ow a/\∃u,H a=!u/\ORep1 K F o u
def FRep.mono(e:Same F F')(k:∀b u,ow b->H b=!u->H' b=!u/\ow' b)(s:∀{o}{u},ORep1 K F o u->ORep1 K F' o u){o}(h:FRep K F H ow o v):FRep K F' H' ow' o v:=by
 cases o with
 |d x=>exact Rep.same e h
 |lst ds=>let#[b,rfl,c,u,a,f]:=h;exact#[b,qx,(k b u c a).2,u,(k b u c a).1,s f]
 |dK ds=>let#[b,rfl,c,u,a,f]:=h;exact#[b,qx,(k b u c a).2,u,(k b u c a).1,s f]
 |lL ts=>let#[b,bs,rfl,c,a,f]:=h;exact#[b,bs,qx,(k b _ c a).2,(k b _ c a).1,f.mono k]
def ORep1.same(e:Same F F'){o}{u}(h:ORep1 K F o u):ORep1 K F' o u:=by cases o<;>cases u<;>first|exact h.elim|exact Reps.same e h|exact RepsT.same e h|exact RepsK.same e h|exact#[h.1,RepsF.same e h.2]
def ORep.flat{o}(f:o.flat):ORep K F H ow o a↔ow a/\∃u,H a=!u/\ORep1 K F o u:=by cases o<;>first|exact Iff.rfl|cases f
def ORep.mono{o}(e:Same F F')(k:∀b u,ow b->H b=!u->H' b=!u/\ow' b)(h:ORep K F H ow o a):ORep K F' H' ow' o a:=by
 by_cases f:o.flat
 .let#[j,u,i,c]:=(ORep.flat f).mp h;let#[s,m]:=k a u j i;exact(ORep.flat f).mpr #[m,u,s,c.same e]
 .cases o with
  |lst2 dss=>
   let#[j,bs,i,c,g]:=h;let#[s,m]:=k a _ j i;exact#[m,bs,s,c,g.imp λb R #[E,u,B,A]=>by let#[N,M]:=k b u E B;exact#[M,u,N,A.same e]]
  |obj C fs=>
   let#[j,L,y,i,c,g]:=h;let#[s,m]:=k a _ j i;exact#[m,L,y,s,c,g.imp λp q z=>#[z.1,z.2.mono e k λx=>x.same e]]
  |t3 z f l ts=>
   let#[j,Q,P,O,bs,i,c,g,w,J,I]:=h;exact#[(k a _ j i).2,Q,P,O,bs,(k a _ j i).1,?_,#[(k _ _ g.1 g.2).2,(k _ _ g.1 g.2).1],#[(k _ _ w.1 w.2).2,(k _ _ w.1 w.2).1],J.mono k,I];cases z with
   |true=>exact Same.seq e c
   |false=>exact#[(k _ _ c.1 c.2).2,(k _ _ c.1 c.2).1]
  |_=>exact absurd qx f
def FRep.rep(e:Same F G)(k:∀b u,ow b->H b=!u->G b=!u){o}(h:FRep K F H ow o v):Rep K G v o.dat:=by
 cases o with
 |d x=>exact Rep.same e h
 |lst ds=>let#[b,rfl,f,u,c,a]:=h;cases u with|lst vs=>exact .lst (SqL.of<|k b _ f c) (Reps.same e a)|_=>exact a.elim
 |dK ds=>let#[b,rfl,f,u,c,a]:=h;cases u with|dK vs=>exact .dK (k b _ f c) (RepsK.same e a)|_=>exact a.elim
 |lL ts=>let#[b,bs,rfl,f,c,a]:=h;exact .lst (SqL.of<|k b _ f c)<|a.rep k
def ORep1.rep{o}{u}(f:o.flat)(h:ORep1 K F o u)(b:H a=!u)(e:Same F H):Rep K H (.ref a) o.d:=by
 cases o with
 |lst ds=>cases u with|lst vs=>exact .lst (SqL.of b) (Reps.same e h)|_=>exact h.elim
 |dT ds=>cases u with|dT vs=>exact .dT b (RepsT.same e h)|_=>exact h.elim
 |dK ds=>cases u with|dK vs=>exact .dK b (RepsK.same e h)|_=>exact h.elim
 |ins C fs=>cases u with|ins C' dx vs=>(let#[rfl,h]:=h;exact .ins b<|RepsF.same e h)|_=>exact h.elim
 |obj _ _=>cases f
 |lst2 _=>cases f
 |t3 _ _ _ _=>cases f
def ORep.rep{o}(h:ORep K F H ow o a)(e:Same F G)(k:∀b u,ow b->H b=!u->G b=!u):Rep K G (.ref a) o.d:=by
 by_cases f:o.flat
 .let#[g,u,c,i]:=(ORep.flat f).mp h;exact i.rep f (k a u g c) e
 .cases o with
  |lst2 dss=>
   let#[g,bs,c,i,j]:=h;exact .lst (SqL.of<|k a _ g c) ?_;clear c g i f;induction j with
   |nil=>exact .nil
   |cons q r ih=>
    let#[s,u,m,A]:=q;exact .cons (A.rep qx (k _ u s m) e) ih
  |obj C fs=>
   let#[g,J,E,c,i,j]:=h;cases C with
   |some C=>
    exact .ins (k a _ g c) ?_;clear c g i f;induction j with
    |nil=>exact .nil
    |@cons p q _ _ z r ih=>
     let#[s,m]:=z;let#[x,v]:=p;let#[y,o]:=q;cases s;exact .cons (m.rep e k) ih
   |none=>
    exact .dK (k a _ g c) ?_;clear c g i f;induction j with
    |nil=>exact .nil
    |@cons p q _ _ z r ih=>
     let#[s,m]:=z;let#[x,v]:=p;let#[y,o]:=q;cases s;exact .cons (m.rep e k) ih
  |t3 z f l ts=>
   let#[g,N,M,L,bs,c,i,j,w,B,I]:=h;exact .tup (k a _ g c)<|.cons (.lst ?_<|Reps.ints _)<|.cons (.lst (SqL.of<|k _ _ j.1 j.2)<|Reps.ints _)<|.cons (.lst (SqL.of<|k _ _ w.1 w.2)<|B.rep k) .nil;cases z with
   |true=>exact Same.seq e i
   |false=>exact SqL.of<|k _ _ i.1 i.2
  |_=>exact absurd qx f
inductive DV where
 |v (d:D)|own (o:OD) (t:Option Addr)|bor (o:OD)
abbrev DF:=List<|Option DV
abbrev cI(n:Int):DF->Option D:=λ_=>!.int n
@[simp] theorem Nh n ρ:cI n ρ=!.int n:=rfl
abbrev nA:DF->Option (List DV):=λ_=>![]
@[simp] theorem Ni ρ:nA ρ=![]:=rfl
def DVRep(K:Kq)(P F H:Hp)(ow:Addr->Prop):DV->V->Prop
 |.v d,x=>Rep K F x d
 |.own o t,x=>∃a,x=.ref a/\ORep K F H (λb=>F b=()/\P b=()/\ow b) o a/\∀b,t=!b->b=a
 |.bor o,x=>∃a,x=.ref a/\ORep K F P (λ_=>True) o a
def nL:Addr->Prop:=λ_=>True
structure DHp (P F H:Hp):Prop where
 sub:Same F H
 pro:Same P H
 dis:∀a o,P a=!o->F a=none
structure DInv (K:PySem.W.Frag) (P F H:Hp) (ρ:DF) (σ:St):Prop extends DHp P F H where
 len:ρ.length=σ.length
 rep:∃O:Addr->Option Nat,∀(i:Nat) (x:DV),ρ[i]?=!!x->∃v,σ[i]?=!!v/\DVRep K P F H (λb=>O b=!i) x v
structure Evo (P F H F' H':Hp):Prop where
 ext:Same F F'
 hp:DHp P F' H'
 keep:∀a o,H a=!o->F a=none->H' a=!o/\F' a=none
def Evo.same(h:DHp P F H)(e:Evo P F H F' H'):Same H H':=λa o q=>by
 cases c:F a with
 |none=>exact(e.keep a o q c).1
 |some u=>
  have:=h.sub a u c;rw[q]at this;cases this;exact e.hp.sub a o<|e.ext a o c
def DVRep.evo(e:Evo P F H F' H'){x}(r:DVRep K P F H ow x v):DVRep K P F' H' ow x v:=by
 cases x with
 |v d=>exact Rep.same e.ext r
 |own o t=>
  let#[a,rfl,h,m]:=r;exact#[a,qx,h.mono e.ext λb u #[i,g,f] c=>by(let#[l,j]:=e.keep b u c i;exact#[l,j,g,f]),m]
 |bor o=>
  let#[a,rfl,h]:=r;exact#[a,qx,h.mono e.ext λb u q c=>#[c,q]]
def DVRep.imp(f:∀b u,F b=()->P b=()->H b=!u->ow b->ow' b){x}(r:DVRep K P F H ow x v):DVRep K P F H ow' x v:=by
 cases x with
 |v d=>exact r
 |own o t=>
  let#[a,rfl,h,i]:=r;exact#[a,qx,h.mono (Same.refl _) λb u #[c,q,g] e=>#[e,c,q,f b u c q e g],i]
 |bor o=>exact r
def DInv.evo(I:DInv K P F H ρ σ)(e:Evo P F H F' H'):DInv K P F' H' ρ σ:=
 #[e.hp,I.len,by let#[O,h]:=I.rep;exact#[O,λi x a=>by let#[v,c,b]:=h i x a;exact#[v,c,b.evo e]]]
def DInv.at(I:DInv K P F H ρ σ){x}(h:ρ[i]?=!!x):∃v,σ[i]?=!!v/\DVRep K P F H nL x v:=by let#[O,k]:=I.rep;let#[v,b,a]:=k i x h;exact#[v,b,a.imp λz z z z z z=>trivial]
def Evo.refl(h:DHp P F H):Evo P F H F H:=#[Same.refl _,h,λz z a b=>#[a,b]]
def Evo.trans(a:Evo P F H F1 H1)(b:Evo P F1 H1 F2 H2):Evo P F H F2 H2:=
 #[a.ext.trans b.ext,b.hp,λc o h n=>by let#[e,n1]:=a.keep c o h n;exact b.keep c o e n1]
def Evo.laid(h:DHp P F H){o}(c:H a=()):Evo P F H (upd F a o) (upd H a o) where
 ext:=λb u e=>by rwa[az λz=>by subst z;rw[h.sub _ _ e]at c;cases c]
 hp:=#[λb u e=>by
   by_cases f:b=a
   .subst f;rw[aD]at e ⊢;exact e
   .rw[az f]at e ⊢;exact h.sub b u e,
  λb u e=>by rw[az λz=>by subst z;rw[h.pro _ _ e]at c;cases c];exact h.pro b u e,
  λb u e=>by rw[az λz=>by subst z;rw[h.pro _ _ e]at c;cases c];exact h.dis b u e]
 keep:=λb u e n=>by
  have f:b≠a:=λz=>by subst z;rw[e]at c;cases c
  rw[az f,az f];exact#[e,n]
def Evo.side(h:DHp P F H){o}(c:H a=()):Evo P F H F (upd H a o) where
 ext:=Same.refl _
 hp:=#[λb u e=>by rw[az λz=>by subst z;rw[h.sub _ _ e]at c;cases c];exact h.sub b u e,
  λb u e=>by rw[az λz=>by subst z;rw[h.pro _ _ e]at c;cases c];exact h.pro b u e,h.dis]
 keep:=λb u e n=>by
  have f:b≠a:=λz=>by subst z;rw[e]at c;cases c
  rw[az f];exact#[e,n]
def DHp.free(h:DHp P F H)(b:H a=()):F a=()/\P a=():=#[h.sub.free b,h.pro.free b]
def RepS(K:Kq)(H F:Hp)(v:V)(d:D):Prop:=
 Rep K F v d\/∃(a:Addr) (o:OD) (u:HO),v=.ref a/\F a=()/\H a=!u/\ORep1 K F o u/\o.flat/\d=o.d
def RepS.evo(r:RepS K H F v d)(e:Evo P F H F' H'):RepS K H' F' v d:=
 r.imp (Rep.same e.ext) λ#[a,o,u,g,b,h,f,c]=>#[a,o,u,g,(e.keep a u h b).2,(e.keep a u h b).1,f.same e.ext,c]
def DInv.slot(I:DInv K P F H ρ σ){o}(hv:σ[i]?=!!v)(h:(∃t,ρ[i]?=!!.own o t)\/ρ[i]?=!!.bor o):∃a,v=.ref a/\ORep K F H (λb=>F b=()) o a:=by
 rcases h with⟨t,h⟩|h
 .let#[g,c,a,rfl,f,_]:=I.at h;rw[hv]at c;cases c;exact#[a,qx,f.mono (Same.refl _) λb u q e=>#[e,q.1]]
 .let#[g,c,a,rfl,f]:=I.at h;rw[hv]at c;cases c;exact#[a,qx,f.mono (Same.refl _) λb u q e=>#[I.pro b u e,I.dis b u e]]
def RepS.now(I:Same F H)(r:RepS K H F v d):Rep K H v d:=by
 rcases r with r|⟨a,o,u,rfl,_,h3,h4,hfl,rfl⟩
 .exact r.same I
 .exact h4.rep hfl h3 I
def RepS.slot(I:DInv K P F H ρ σ){o}(hv:σ[i]?=!!v)(h:(∃t,ρ[i]?=!!.own o t)\/ρ[i]?=!!.bor o)(b:o.flat):RepS K H F v o.d:=by let#[a,rfl,g]:=I.slot hv h;let#[f,u,e,c]:=(ORep.flat b).mp g;exact .inr #[a,o,u,qx,f,e,c,b,qx]
def tD(K:Kq)(f:DF->Option D):TE:=λe H Q=>∃P F a d,f a=!d/\DInv K P F H a e/\∀v c b,Evo P F H c b->Rep K c v d->Q v b
def tR(K:Kq)(f:DF->Option D):TE:=λe H Q=>∃P F b d,f b=!d/\DInv K P F H b e/\∀v c a,Evo P F H c a->RepS K a c v d->Q v a
def tN(K:Kq)(f:DF->Option D):TE:=λc H Q=>∃P F b d,f b=!d/\DInv K P F H b c/\∀v e a,Evo P F H e a->Rep K a v d->Q v a
def tB'(K:Kq)(f:DF->Option Bool):TT:=λe H Q=>∃P F a b,f a=!b/\DInv K P F H a e/\∀g c,Evo P F H g c->Q b c
def tL(K:Kq)(f:DF->Option (List D)):TA:=λh H Q=>∃P F a c,f a=!c/\DInv K P F H a h/\∀b g e,Evo P F H g e->Reps K g b c->Q b e
def PDE(X:Cx)(e:Expr)(f:DF->Option D):Prop:=PE X e<|tD X.K f
def PDR(X:Cx)(e:Expr)(f:DF->Option D):Prop:=PE X e<|tR X.K f
def PDN(X:Cx)(e:Expr)(f:DF->Option D):Prop:=PE X e<|tN X.K f
def PDT(X:Cx)(e:Expr)(f:DF->Option Bool):Prop:=PT X e<|tB' X.K f
def PDA(X:Cx)(es:List Expr)(f:DF->Option (List D)):Prop:=PA X es<|tL X.K f
section
variable{a:Expr}
def PE.imp{t t'}(h:PE X e t)(i:∀σ H Q,t' σ H Q->t σ H Q):PE X e t':=λp s σ H Q I q=>h p s σ H Q I<|i σ H Q q
def PT.imp{t t'}(h:PT X e t)(i:∀σ H Q,t' σ H Q->t σ H Q):PT X e t':=λp s σ H Q I q=>h p s σ H Q I<|i σ H Q q
def PA.imp{t t'}(h:PA X es t)(i:∀σ H Q,t' σ H Q->t σ H Q):PA X es t':=λp a s σ H Q I q=>h p a s σ H Q I<|i σ H Q q
def getV(i:Nat)(ρ:DF):Option D:=match ρ[i]? with
 |some (!.v d)=>!d
 |_=>()
def ac(i:Nat)(ρ:DF):Option D:=match ρ[i]? with
 |some (!.v d)=>!d
 |some (!.own o _)=>if o.flat then !o.d else ()
 |some (!.bor o)=>if o.flat then !o.d else ()
 |_=>()
def ap(i:Nat)(ρ:DF):Option D:=match ρ[i]? with
 |some (!.v d)=>!d
 |some (!.own o _)=>!o.d
 |some (!.bor o)=>!o.d
 |_=>()
theorem zC(h:getV i ρ=!d):ρ[i]?=!!.v d:=by
 delta getV at h;grind
def HC i(h:PE X e (c7 i)):PDE X e (getV i):=h.imp λf H Q=>un7 λP F g d a I k=>by
 let#[v,c,b]:=I.at<|zC a
 exact#[v,c,k v F H (Evo.refl I.toDHp) b]
def Iv i(h:PE X e (c7 i)):PDR X e (ac i):=h.imp λg H Q=>un7 λP F j d a I k=>by
 delta ac at a;split at a
 .rename_i l q;cases a;let#[v,c,f]:=I.at q;exact#[v,c,k v F H (Evo.refl I.toDHp)<|.inl f]
 .rename_i o t q;split at a
  .rename_i b;cases a;let#[v,c,f]:=I.at q;exact#[v,c,k v F H (Evo.refl I.toDHp)<|RepS.slot I c (.inl #[t,q]) b]
  .cases a
 .rename_i o q;split at a
  .rename_i b;cases a;let#[v,c,f]:=I.at q;exact#[v,c,k v F H (Evo.refl I.toDHp)<|RepS.slot I c (.inr q) b]
  .cases a
 .cases a
def Jq i(h:PE X e (c7 i)):PDN X e (ap i):=h.imp λg H Q=>un7 λP F j d c I k=>by
 delta ap at c;split at c
 .rename_i l q;cases c;let#[v,b,f]:=I.at q;exact#[v,b,k v F H (Evo.refl I.toDHp)<|Rep.same I.sub f]
 .rename_i o t q;cases c;let#[v,b,_]:=I.at q;let#[a,rfl,f]:=I.slot b<|.inl #[t,q];exact#[_,b,k _ F H (Evo.refl I.toDHp)<|f.rep I.sub λ_ _ _ q=>q]
 .rename_i o q;cases c;let#[v,b,_]:=I.at q;let#[a,rfl,f]:=I.slot b<|.inr q;exact#[_,b,k _ F H (Evo.refl I.toDHp)<|f.rep I.sub λ_ _ _ q=>q]
 .cases c
def PDE.r{f}(h:PDE X e f):PDR X e f:=PE.imp h λj H Q=>un7 λP F a d b I k=>#[P,F,a,d,b,I,λv i g c r=>k v i g c<|.inl r]
def PDR.n{f}(h:PDR X e f):PDN X e f:=PE.imp h λj H Q=>un7 λP F b d c I k=>#[P,F,b,d,c,I,λv i g a r=>k v i g a<|r.now a.hp.sub]
def PDE.n{f}(h:PDE X e f):PDN X e f:=h.r.n
def zO(h:PE X e (tC v))(r:∀F,Rep X.K F v d):PDE X e (λ_=>!d):=h.imp λb H Q=>un7 λP F c f a I k=>by
 cases a;exact k v F H (Evo.refl I.toDHp)<|r F
def ae{i j p}:PDE X (.Constant (.int i) j p) (λ_=>!.int i):=zO lX λ_=>.int
def db{i j p}:PDE X (.Constant (.bool i) j p) (λ_=>!.bl i):=zO Km λ_=>.bl
def iE{i j p}:PDE X (.Constant (.str i) j p) (λ_=>!.str i):=zO JM λ_=>.str
def OpN2(K:Kq)(r:R2)(f:D->D->Option D):Prop:=
 ∀P F H x y b a d Q,f b a=!d->DHp P F H->Rep K H x b->Rep K H y a->(∀v e c,Evo P F H e c->Rep K e v d->Q v c)->r x y H Q
def d2(f:D->D->Option D)(fa fb:DF->Option D):DF->Option D:=λa=>(fa a).bind λx=>(fb a).bind λy=>f x y
def Bs{f}{fa fb}(p:OpN2 K r f):∀σ H Q,tD K (d2 f fa fb) σ H Q->tOp r (tN K fa) (tN K fb) σ H Q:=λσ H Q=>un7 λP F a d h I k=>by
 delta d2 at h;cases c:fa a with
 |none=>rw[c]at h;cases h
 |some j=>
  rw[c]at h;cases b:fb a with
  |none=>rw[Yb,b]at h;cases h
  |some i=>
   rw[Yb,b,Yb]at h;exact#[P,F,a,j,c,I,λx A B g m=>#[P,A,a,i,b,I.evo g,λy z u e l=>?_]];exact p P z u x y j i d Q h e.hp (m.same<|e.same g.hp) l λv w s q o=>k v w s ((g.trans e).trans q) o
def yh{f}(h:OpR X (compareOp op) r)(e:OpN2 X.K r f)(i:PDN X a fa)(g:PDN X b fb)(c:behindInMarks op b=false):PDE X (.Compare a [op] [b] pos) (d2 f fa fb):=
 (Fk h i g c).imp<|Bs e
def vf(K:Kq)(r:R2)(f:D->D->Option D):Prop:=
 ∀P F H h g x y b a d Q,f b a=!d->DInv K P F H h g->RepS K H F x b->RepS K H F y a->(∀v e c,Evo P F H e c->Rep K e v d->Q v c)->r x y H Q
def xb{f}{fa fb}(p:vf K r f):∀σ H Q,tD K (d2 f fa fb) σ H Q->tOp r (tR K fa) (tR K fb) σ H Q:=λσ H Q=>un7 λP F a d h I k=>by
 delta d2 at h;cases c:fa a with
 |none=>rw[c]at h;cases h
 |some j=>
  rw[c]at h;cases b:fb a with
  |none=>rw[Yb,b]at h;cases h
  |some i=>
   rw[Yb,b,Yb]at h;exact#[P,F,a,j,c,I,λx A B g m=>#[P,A,a,i,b,I.evo g,λy z u e l=>?_]];exact p P z u a σ x y j i d Q h ((I.evo g).evo e) (m.evo e) l λv w s q o=>k v w s ((g.trans e).trans q) o
def jY{f}(h:OpR X (binaryOp op) r)(c:vf X.K r f)(g:PDR X a fa)(e:PDR X b fb):PDE X (.BinOp a op b pos) (d2 f fa fb):=
 (LZ h g e).imp<|xb c
def asB(f:DF->Option D):DF->Option Bool:=λa=>match f a with
 |some (.bl b)=>!b
 |_=>()
def Et{f}{b}(h:asB f ρ=!b):f ρ=!.bl b:=by
 delta asB at h;split at h
 .rename_i q;cases h;exact q
 .cases h
def lg{f}(h:∀σ H Q,tD K f σ H Q->t σ H Q):∀σ H Q,tB' K (asB f) σ H Q->D8 t σ H Q:=λσ H Q=>un7 λP F a b c I k=>by
 exact h σ H _ #[P,F,a,.bl b,Et c,I,λv i g e r=>?_];cases r;exact#[b,qx,k i g e]
def t5{f}(h:OpR X (compareOp op) r)(e:vf X.K r f)(i:PDR X a fa)(g:PDR X b fb)(c:behindInMarks op b=false):PDT X (.Compare a [op] [b] pos) (asB (d2 f fa fb)):=
 (yJ h i g c).imp<|lg<|xb e
def n9{f}(h:OpR X (compareOp op) r)(e:OpN2 X.K r f)(i:PDN X a fa)(g:PDN X b fb)(c:behindInMarks op b=false):PDT X (.Compare a [op] [b] pos) (asB (d2 f fa fb)):=
 (yJ h i g c).imp<|lg<|Bs e
def bW{f}(h:PDE X e f)(he:∀w,isTrue e X.env w=(do let v <-w;standAt e.pos;holding [v] (truthy v)):=by intro _;rfl):PDT X e (asB f):=
 (HY h he).imp<|lg λz z z q=>q
open A in
def dm{x}{i}(r:RepS K H F x (.int i)):x=.int i:=by
 rcases r with r|⟨_,o,_,_,_,_,_,_,z⟩
 .cases r;rfl
 .cases o<;>first|(cases z;done)|(rename_i C _;cases C<;>cases z)
open A in
def ou{x}{i}(r:RepS K H F x (.str i)):x=.str i:=by
 rcases r with r|⟨_,o,_,_,_,_,_,_,z⟩
 .cases r;rfl
 .cases o<;>first|(cases z;done)|(rename_i C _;cases C<;>cases z)
def e_{x}(I:DInv K P F H ρ σ)(r:RepS K H F x (.lst ds)):∃a vs,x=.ref a/\SqL K H a vs/\Reps K F vs ds:=by
 rcases r with r|⟨a,o,u,rfl,_,h3,h4,hfl,z⟩
 .cases r with|lst h q=>exact#[_,_,qx,I.sub.seq h,q]
 .cases o with
  |lst ds'=>
   cases z;cases u with
   |lst vs=>exact#[a,vs,qx,SqL.of h3,h4]
   |_=>exact h4.elim
  |obj _ _=>cases hfl
  |lst2 _=>cases hfl
  |t3 _ _ _ _=>cases hfl
  |_=>cases z
def kO{x}(I:DInv K P F H ρ σ)(r:RepS K H F x (.tup ds)):∃a vs,x=.ref a/\SqT K H a vs/\Reps K F vs ds:=by
 rcases r with r|⟨a,o,u,rfl,_,h3,h4,hfl,z⟩
 .cases r with|tup h q=>exact#[_,_,qx,SqT.of<|I.sub _ _ h,q]
 .cases o<;>first|(cases z;done)|cases hfl
def xn{x}(I:DInv K P F H ρ σ)(r:RepS K H F x (.dT ds)):∃a vs,x=.ref a/\H a=!.dT vs/\RepsT K F vs ds:=by
 rcases r with r|⟨a,o,u,rfl,_,h3,h4,hfl,z⟩
 .cases r with|dT h q=>exact#[_,_,qx,I.sub _ _ h,q]
 .cases o with
  |dT ds'=>
   cases z;cases u with
   |dT vs=>exact#[a,vs,qx,h3,h4]
   |_=>exact h4.elim
  |obj _ _=>cases hfl
  |lst2 _=>cases hfl
  |t3 _ _ _ _=>cases hfl
  |_=>cases z
def uO{x}(I:DInv K P F H ρ σ)(r:RepS K H F x (.ins C fs)):∃a dx vs,x=.ref a/\H a=!.ins C dx vs/\RepsF K F vs fs:=by
 rcases r with r|⟨a,o,u,rfl,_,h3,b,hfl,z⟩
 .cases r with|ins h q=>exact#[_,_,_,qx,I.sub _ _ h,q]
 .cases o with
  |ins C' fs'=>
   cases z;cases u with
   |ins C'' dx vs=>(let#[rfl,b]:=b;exact#[a,dx,vs,qx,h3,b])
   |_=>exact b.elim
  |obj _ _=>cases hfl
  |lst2 _=>cases hfl
  |t3 _ _ _ _=>cases hfl
  |_=>cases z
def fI(C:Int->Int->Bool)(g:Int->Int->D):D->D->Option D
 |.int i,.int j=>if C i j then !g i j else ()
 |_,_=>()
open A in
def ud{C}{a}(l:∀i j,a i j->C i j)(e:∀F i j,Rep K F (g i j) (g' i j)):vf K (rI C g) (fI a g'):=by
 intro P F H o m x y q p d Q h I c b k;delta fI at h;split at h
 .rename_i i j;split at h
  .rename_i f;cases h;exact#[i,j,dm c,dm b,l i j f,k _ F H (Evo.refl I.toDHp)<|e F i j]
  .cases h
 .cases h
def fI0(g:Int->Int->D):D->D->Option D
 |.int i,.int j=>!g i j
 |_,_=>()
open A in
def oA(c:∀F i j,Rep K F (g i j) (g' i j)):vf K (rI0 g) (fI0 g'):=by
 intro P F H f e x y m l d Q h I b a k;delta fI0 at h;split at h
 .rename_i i j;cases h;exact#[i,j,dm b,dm a,k _ F H (Evo.refl I.toDHp)<|c F i j]
 .cases h
def l8:=fI0 λi j=>.int<|i-j
def kB:=fI (λi j=>decide<|(-(2^64)<i/\i<2^64)\/(-(2^64)<j/\j<2^64)) λi j=>.int<|i*j
def bi:=fI (λ_ j=>decide<|0<j/\j<1073741824) λi j=>.int<|i/j
def bg:=fI (λ_ j=>decide<|0<j) λi j=>.int<|i%j
def qN:=fI (λi j=>decide<|0<=j/\j<=1000000/\i.natAbs<2^64) λi j=>.int<|i^j.toNat
def ltI:=fI0 λi j=>.bl<|decide<|i<j
def leI:=fI0 λi j=>.bl<|decide<|i<=j
def gtI:=fI0 λi j=>.bl<|decide<|j<i
def geI:=fI0 λi j=>.bl<|decide<|j<=i
def lM(c:PDR X a fa)(h:PDR X b fb):PDE X (.BinOp a .Sub b pos) (d2 l8 fa fb):=jY JZ (oA λz z z=>.int) c h
def mw(e:PDR X a fa)(c:PDR X b fb):PDE X (.BinOp a .Mult b pos) (d2 kB fa fb):=jY HL (ud (λz z h=>by let q:=YE h;exact q) λz z z=>.int) e c
def bS(e:PDR X a fa)(c:PDR X b fb):PDE X (.BinOp a .FloorDiv b pos) (d2 bi fa fb):=jY F9 (ud (λz z h=>by let q:=YE h;exact q) λz z z=>.int) e c
def bv(e:PDR X a fa)(c:PDR X b fb):PDE X (.BinOp a .Mod b pos) (d2 bg fa fb):=jY JY (ud (λz z h=>by let q:=YE h;exact q) λz z z=>.int) e c
def uq(e:PDR X a fa)(c:PDR X b fb):PDE X (.BinOp a .Pow b pos) (d2 qN fa fb):=jY HI (ud (λz z h=>by let q:=YE h;exact q) λz z z=>.int) e c
end
def tO(K:Kq)(f:DF->Option OD):TE:=λh H Q=>∃P F g o,f g=!o/\DInv K P F H g h /\
 ∀a e c,Evo P F H e c->ORep K e c (λb=>H b=()/\e b=()) o a->Q (.ref a) c
def PDO(X:Cx)(e:Expr)(f:DF->Option OD):=PE X e<|tO X.K f
def asO(f:DF->Option OD):=λa=>(f a).map OD.d
def Evo.back(h:DHp P F H)(e:Evo P F H F' H')(n:H' a=()):H a=():=by
 cases q:H a with
 |none=>rfl
 |some o=>rw[e.same h a o q]at n;cases n
open Classical in
def qO(F H:Hp)(ow:Addr->Prop):Hp:=λb=>if ow b then H b else F b
def de{b}(h:ow b):qO F H ow b=H b:=Yl h
def dQ{b}(h:¬ow b):qO F H ow b=F b:=Yn h
def b6(h:∀b,ow b->F b=()):Same F (qO F H ow):=λb u e=>by
 by_cases q:ow b
 .rw[h b q]at e;cases e
 .rwa[dQ q]
def Evo.freeze(g:DHp P F H)(e:Evo P F H F' H')ow(a:∀b,ow b->H b=()/\F' b=()):Evo P F H (qO F' H' ow) H' where
 ext:=e.ext.trans<|b6 λb q=>(a b q).2
 hp:=#[λb u h=>by
   by_cases q:ow b
   .rwa[de q]at h
   .rw[dQ q]at h;exact e.hp.sub b u h,e.hp.pro,λb u h=>by
   rw[dQ λq=>by rw[(g.pro.free (a b q).1)]at h;cases h];exact e.hp.dis b u h]
 keep:=λb u h n=>by
  let#[f,c]:=e.keep b u h n;exact#[f,?_];rwa[dQ λq=>by rw[(a b q).1]at h;cases h]
def lG{o}(h:F a=()):Same F (upd F a o):=λb u e=>by rwa[az<|bc e h]
section
variable{sts cx:List Stmt}
def PDO.v{f}(h:PDO X e f):PDE X e (asO f):=PE.imp h λw H Q=>un7 λP F i d c I k=>by
 let#[o,q,rfl]:=Zd.mp c;exact#[P,F,i,o,q,I,λa g s p j=>?_];have l:∀b,(H b=()/\g b=())->H b=()/\g b=():=λz q=>q
 exact k _ _ s (p.freeze I.toDHp _ l)<|j.rep (b6 λb q=>q.2) λb u q m=>by rwa[de q]
def asL(f:DF->Option (List D)):DF->Option OD:=λa=>(f a).map .lst
inductive RES where
 |nx (ρ:DF)|rt (x:DV) (ρ:DF)|bk (ρ:DF)|ct (ρ:DF)
abbrev Dd:=DF->Option D
abbrev Dw:=DF->Option RES
abbrev Dk:=DF->Option Bool
abbrev Dv:=DF->Option (List DV)
abbrev Dl:=DF->Option (List D)
abbrev Dm:=List DV->Option DV
abbrev Dq:=D->DF->Option DF
abbrev Do:=DF->Option OD
abbrev Dz:=OD->List DV->Option (OD×D)
abbrev Dy:=D->D->Option D
def EndsD(K:Kq)(P F:Hp)(E:j8):RES->Prop
 |.nx ρ=>∀b a H,Same F a->DInv K P a H ρ b->E.nx b H
 |.bk ρ=>∀b a H,Same F a->DInv K P a H ρ b->E.bk b H
 |.ct ρ=>∀b a H,Same F a->DInv K P a H ρ b->E.ct b H
 |.rt x ρ=>∀v b a H,Same F a->DInv K P a H ρ b->DVRep K P a H nL x v->E.rt v H
def EndsD.ext{E}(h:EndsD K P F E r)(e:Same F F1):EndsD K P F1 E r:=by
 cases r with
 |nx ρ=>exact λa c H b I=>h a c H (e.trans b) I
 |bk ρ=>exact λa c H b I=>h a c H (e.trans b) I
 |ct ρ=>exact λa c H b I=>h a c H (e.trans b) I
 |rt x ρ=>exact λv a c H b I r=>h v a c H (e.trans b) I r
def tS(K:Kq)(g:Dw):TS:=λE b H=>∃P F a r,g a=!r/\DInv K P F H a b/\EndsD K P F E r
def PD1(X:Cx)(st:Stmt)(g:Dw):=PS X st<|tS X.K g
def PDS(X:Cx)(sts:List Stmt)(g:Dw):=PSs X sts<|tS X.K g
def PS.imp{t t'}(h:PS X st t)(i:∀E σ H,t' E σ H->t E σ H):PS X st t':=λp s σ H E I q=>h p s σ H E I<|i E σ H q
def PSs.imp{t t'}(h:PSs X sts t)(i:∀E σ H,t' E σ H->t E σ H):PSs X sts t':=λp s σ H E I q=>h p s σ H E I<|i E σ H q
def dNx:DF->Option RES:=λρ=>!.nx ρ
def LA:∀E σ H,tS K dNx E σ H->E.nx σ H:=λE σ H=>un7 λP F a r h I k=>by
 cases h;exact k σ F H (Same.refl _) I
def aL:PDS X [] dNx:=PSs.imp zH LA
def am(g h:Dw):DF->Option RES:=λa=>match g a with
 |some (.nx ρ')=>h ρ'
 |r=>r
open A in
def aa{g h}(h1:PD1 X st g)(h2:PDS X cx h):PDS X (st::cx) (am g h):=PSs.imp (Ca h1 h2) λE l H=>un7 λP F b r c I k=>by
 delta am at c;split at c
 .rename_i a q;exact#[P,F,b,_,q,I,λf j m e i=>#[P,j,a,r,c,i,k.ext e]]
 .rename_i q;exact#[P,F,b,r,c,I,?_];cases r with
  |nx a=>exact absurd c<|q a
  |bk b=>exact k
  |ct b=>exact k
  |rt x b=>exact k
def ai(h1:PD1 X st g):PDS X [st] g:=PSs.imp (nZ h1) λz z z q=>q
def aY(f:Dd):DF->Option RES:=λa=>(f a).map λd=>.rt (.v d) a
def aR{f:Dd}(h:PDE X e f):PD1 X (.Return (!e) pos) (aY f):=PS.imp (mN h) λE g H=>un7 λP F b r a I k=>by
 let#[d,q,rfl]:=Zd.mp a;exact#[P,F,b,d,q,I,λv l j c i=>k v g l j c.ext (I.evo c) i]
def dg(f:Do):DF->Option RES:=λa=>(f a).map λo=>.rt (.own o ()) a
def cC{f:Do}(h:PDO X e f):PD1 X (.Return (!e) pos) (dg f):=PS.imp (mN h) λE j H=>un7 λP F g r c I k=>by
 let#[o,q,rfl]:=Zd.mp c;exact#[P,F,g,o,q,I,λa s p i l=>k _ j s p i.ext (I.evo i) #[a,qx,l.mono (Same.refl _) λb u q m=>#[m,q.2,I.pro.free q.1,trivial],λy z=>nomatch z]]
def iX(i:Nat):DF->Option RES:=λa=>match a[i]? with
 |some (!x)=>!.rt x a
 |_=>()
def fW i(h:PE X e (c7 i)):PD1 X (.Return (!e) pos) (iX i):=PS.imp (mN h) λE b H=>un7 λP F g r a I k=>by
 delta iX at a;split at a
 .rename_i x q;cases a;let#[v,f,c]:=I.at q;exact#[v,f,k v b F H (Same.refl _) I c]
 .cases a
def fj{b:Type}{l:List b}{x y}(h:(l.set i x)[j]?=!y):(i=j/\y=x/\i<l.length)\/(i≠j/\l[j]?=!y):=by
 by_cases a:i=j
 .subst a;have c:i<l.length:=by have:=(Ym.mp h).1;rwa [Zg]at this
  rw[ZJ c]at h;exact .inl #[qx,(YG h).symm,c]
 .rw[Zl a]at h;exact .inr #[a,h]
def DInv.setO(I:DInv K P F H ρ σ)i{x}f(g:∀j y w (O:Addr->Option Nat),j≠i->ρ[j]?=!!y->DVRep K P F H (λb=>O b=!j) y w->DVRep K P F H (λb=>O b=!j/\¬f b) y w)(r:DVRep K P F H f x v) :
  DInv K P F H (ρ.set i<|!x) (σ.set i<|!v):=by
 let#[O,h]:=I.rep;exact#[I.toDHp,by rw[Zg,Zg];exact I.len,?_]
 classical
 exact#[λb=>if f b then !i else if O b=!i then () else O b,λj y m=>?_];rcases fj m with⟨rfl,e,l⟩|⟨a,c⟩
 .cases e;exact#[v,by rw[ZJ<|by rwa[<-I.len]],r.imp λb u _ _ _ q=>Yl q]
 .let#[w,p,o]:=h j y c;exact#[w,by rwa[Zl a],(g j y w O (XE a) c o).imp λb u _ _ _ q=>?_];show(if f b then !i else if O b=!i then () else O b)=!j;rw[Yn q.2,Yn<|by rw[q.1];intro z;exact a (YG z).symm,q.1]
def DInv.setV(I:DInv K P F H ρ σ)i(r:Rep K F v d):DInv K P F H (ρ.set i (!.v d)) (σ.set i (!v)):=
 I.setO i (λ_=>False) (λj y w O _ _ q=>q.imp λb u _ _ _ z=>#[z,id]) r
def DInv.setN(I:DInv K P F H ρ σ)(l:Evo P F H F' H')i{o}(m:ORep K F' H' (λb=>H b=()/\F' b=()) o a):DInv K P F' H' (ρ.set i (!.own o ())) (σ.set i (!.ref a)):=by
 let#[O,h]:=I.rep;exact#[l.hp,by rw[Zg,Zg];exact I.len,?_]
 exact#[λb=>if H b=() then !i else if O b=!i then () else O b,λj y s=>?_];rcases fj s with⟨rfl,e,p⟩|⟨c,f⟩
 .cases e;exact#[.ref a,by rw[ZJ<|by rwa[<-I.len]],a,qx,m.mono (Same.refl _) λb u q g=>#[g,q.2,I.pro.free q.1,Yl q.1],λv z=>nomatch z]
 .let#[w,B,A]:=h j y f;exact#[w,by rwa[Zl c],?_];let x:=A.imp λb u v v g q=>by
   show(if H b=() then !i else if O b=!i then () else O b)=!j;rw[Yn<|by rw[g];simp,Yn<|by rw[q];intro z;exact c (YG z).symm,q]
  exact x.evo l
def setV(i:Nat)(d:D)(ρ:DF):Option DF:=!ρ.set i (!.v d)
def aC(i:Nat)(f:Dd):DF->Option RES:=λa=>(f a).map λd=>.nx<|a.set i<|!.v d
def Br{f}:∀E σ H,tS K (aC i f) E σ H->Em (tD K f) (k8 i) E σ H:=λE σ H=>un7 λP F a r h I k=>by
 delta aC at h;cases q:f a with
 |none=>rw[q]at h;cases h
 |some d=>
  rw[q]at h;cases h;exact#[P,F,a,d,q,I,λv g c e b=>k _ g c e.ext<|(I.evo e).setV i b]
def IV{f:Dd}(hN:X.N.Nodup)(hi:X.N[i]?=!x)(hx:Loc X.env.scope x)(he:PDE X e f)(hs:swapsWith e (!.Name x pos') pos.line X.env=pure false:=by rfl)(h:FnL X x:=by trivial):PD1 X (.Assign [.Name x pos'] e pos) (aC i f):=PS.imp (xf hN hi hx he hs h) Br
def bC(i:Nat)(f:Do):DF->Option RES:=λa=>(f a).map λo=>.nx<|a.set i<|!.own o ()
def IR{f}:∀E σ H,tS K (bC i f) E σ H->Em (tO K f) (k8 i) E σ H:=λE σ H=>un7 λP F b r h I k=>by
 delta bC at h;cases q:f b with
 |none=>rw[q]at h;cases h
 |some o=>
  rw[q]at h;cases h;exact#[P,F,b,o,q,I,λa j g e c=>k _ j g e.ext<|I.setN e i c]
def Gs{f:Do}(hN:X.N.Nodup)(hi:X.N[i]?=!x)(hx:Loc X.env.scope x)(he:PDO X e f)(hs:swapsWith e (!.Name x pos') pos.line X.env=pure false:=by rfl)(h:FnL X x:=by trivial):PD1 X (.Assign [.Name x pos'] e pos) (bC i f):=PS.imp (xf hN hi hx he hs h) IR
def M6(i:Nat)(g:Dw):DF->Option RES:=λa=>match a[i]? with
 |some (!.own o ())=>g<|a.set i<|!.v o.d
 |some (!.v d)=>g a
 |_=>()
def DInv.frzO(I:DInv K P F H ρ σ){o}(h:ρ[i]?=!!.own o t):∃(A:Addr->Prop) (a:Addr),σ[i]?=!!.ref a/\(∀b,A b->F b=()/\P b=())/\DInv K P (qO F H A) H (ρ.set i (!.v o.d)) σ/\ORep K F H A o a:=by
 let#[O,x]:=I.rep;let#[v,m,a,rfl,f,_]:=x i _ h;have l:∀b,(F b=()/\P b=()/\O b=!i)->F b=():=λb q=>q.1
 exact#[λb=>F b=()/\P b=()/\O b=!i,a,m,λb q=>#[q.1,q.2.1],#[#[λb u q=>?_,I.pro,λb u q=>?_],by rw[Zg];exact I.len,O,λj y B=>?_],f]
 .by_cases c:F b=()/\P b=()/\O b=!i
  .rw[de c]at q;exact q
  .rw[dQ c]at q;exact I.sub b u q
 .rw[dQ λc=>by rw[c.2.1]at q;cases q];exact I.dis b u q
 .rcases fj B with⟨rfl,e,C⟩|⟨s,p⟩
  .cases e;exact#[_,m,f.rep (b6 l) λb u q g=>by rw[de q];exact g]
  .let#[v,m,f]:=x j y p;exact#[v,m,?_];cases y with
   |v d=>exact Rep.same (b6 l) f
   |own o' t'=>
    let#[a,rfl,w,z]:=f;exact#[a,qx,w.mono (b6 l) λb u q g=>#[g,by
     rw[dQ λc=>by rw[q.2.2]at c;exact s (YG c.2.2).symm];exact q.1,q.2],z]
   |bor o'=>
    let#[a,rfl,w]:=f;exact#[a,qx,w.mono (b6 l) λb u q g=>#[g,q]]
def DInv.frz(I:DInv K P F H ρ σ){o}(h:ρ[i]?=!!.own o t):∃F',Same F F'/\DInv K P F' H (ρ.set i (!.v o.d)) σ:=by let#[A,a,_,c,e,_]:=I.frzO h;exact#[_,b6 λb q=>(c b q).1,e]
def kI:DF->Option RES:=λ_=>()
def kR:PD1 X st kI:=PS.imp DO λ_ _ _ #[_,_,_,_,h,_]=>by cases h
def zB(f:Dd):DF->Option RES:=λρ=>(f ρ).map λ_=>.nx ρ
def GC{f:Dd}(h:PDE X e f)(hs:swapsWith e () pos.line X.env=pure false:=by rfl):PD1 X (.Expr e pos) (zB f):=PS.imp (dU h hs) λE g H=>un7 λP F b r a I k=>by
 let#[d,q,rfl]:=Zd.mp a;exact#[P,F,b,d,q,I,λv j i c z=>k g j i c.ext<|I.evo c]
def dIf(c:Dk)(g h:Dw):DF->Option RES:=λa=>(c a).bind λb=>if b then g a else h a
def bn{a b}{fc:Dk}{g h}(l:PDT X c fc)(o:PDS X a g)(m:PDS X b h):PD1 X (.If c a b pos) (dIf fc g h):=PS.imp (Hn l o m) λE p H=>un7 λP F f r e I k=>by
 let#[b,q,e]:=YK.mp e;exact#[P,F,f,b,q,I,λj s i=>?_];cases b with
 |true=>
  exact#[P,j,f,r,e,I.evo i,k.ext i.ext]
 |false=>
  exact#[P,j,f,r,e,I.evo i,k.ext i.ext]
def xw(K:Kq)(P:Hp)(J:It)(F:Hp)(ds:List D):Prop:=
 ∀a H,Same F a->DHp P a H->∀i:Nat,(∀d,ds[i]?=!d->J.go i H/\∀x b,J.yld i H x b->∃c,Evo P a H c b/\Rep K c x d)/\(ds.length<=i->J.stop i H)
def tI(K:Kq)(f:Dl):TI:=λc H R=>∃P F a b,f a=!b/\DInv K P F H a c/\∀J F' H',Evo P F H F' H'->xw K P J F' b->R J H'
def PDI(X:Cx)(tg iter:Expr)(f:Dl):Prop:=PI X tg iter<|tI X.K f
def PI.imp{t t'}(h:PI X tg iter t)(i:∀σ H R,t' σ H R->t σ H R):PI X tg iter t':=λp s σ H R I q=>h p s σ H R I<|i σ H R q
def tG(K:Kq)(is:List Nat)(st:Dq):TG:=λv c H Q=>∃P F f d b,st d f=!b/\DInv K P F H f c/\Rep K F v d/\∀a g e,Evo P F H g e->DInv K P g e b a->a.length=c.length->(∀j,j∉is->a[j]?=c[j]?)->Q a e
def PDG(X:Cx)(tg:Expr)(is:List Nat)(st:Dq):Prop:=PG X tg<|tG X.K is st
def PG.imp{t t'}(h:PG X tg t)(i:∀v σ H Q,t' v σ H Q->t v σ H Q):PG X tg t':=λp s σ H v u Q I r q=>h p s σ H v u Q I r<|i v σ H Q q
def CK(hN:X.N.Nodup)(hi:X.N[i]?=!x)(hx:Loc X.env.scope x)(e:FnL X x:=by trivial):PDG X (.Name x pos) [i] (setV i):=
 PG.imp (zu hN hi hx e) λv f H Q h=>by
  let#[P,F,g,d,a,b,I,r,k]:=h;cases b;exact k _ F H (Evo.refl I.toDHp) (I.setV i r) (Zg ..) λj c=>by rw[Zl λz=>c<|by rw[z];exact YJ _]
def eV(st:Dq)(body:Dw):List D->DF->Option RES
 |[],ρ=>!.nx ρ
 |d::ds,ρ=>match st d ρ with
  |none=>()
  |some a=>match body a with
   |some (.nx ρ')=>eV st body ds ρ'
   |some (.ct ρ')=>eV st body ds ρ'
   |some (.bk ρ')=>!.nx ρ'
   |r=>r
def d5(it:Dl)(st:Dq)(body:Dw):DF->Option RES:=λa=>(it a).bind λb=>eV st body b a
def IN{f}{st}(hp:PassesOwn (model X.prog X.w) X.A X.env X.xe)(hc:X.calm)(hi:PDI X tg iter f)(hg:PDG X tg is st)(hb:PDS X body g)(hs:FsI iter X:=by intro _;rfl):PD1 X (.For tg iter body [] pos) (d5 f st g):=PS.imp (xI hp hc hi hg hb hs) λE σ H=>un7 λP F ρ r Q I k=>by
 delta d5 at Q;cases q:f ρ with
 |none=>rw[q]at Q;cases Q
 |some a=>
  rw[q,Yb]at Q;exact#[P,F,ρ,a,q,I,λJ F1 H1 S ok=>?_];exact#[λi m j Z=>m=a.length-i/\i<=a.length/\∃M c,Same F1 M/\DInv X.K P M Z c j/\eV st g (a.drop i) c=!r,#[_,qx,YN _,F1,ρ,Same.refl _,I.evo S,Q],?_];rintro i m j Z ⟨rfl,hil,M,c,U,I',h⟩;let#[ok1,ok2]:=ok M Z U I'.toDHp i;by_cases p:i<a.length
  .have hd:a[i]?=some a[i]:=Yi p;let#[go,yl]:=ok1 _ hd;have u:=ZK p;rw[u]at h;delta eV at h;cases o:st a[i] c with
   |none=>rw[o]at h;cases h
   |some l=>
    rw[o]at h;dsimp only at h;have hE:=S.ext.trans U;exact .inr #[go,λN Y=>∃L e,Same F1 L/\DInv X.K P L Y e N/\eV st g _ e=!r,λN Y #[L,e,s2,I2,hf2]=>#[a.length-(i+1),by lia,rfl,p,L,e,s2,I2,hf2],λx Y hy=>?_];let#[L,R,rx]:=yl x Y hy;exact#[P,L,c,a[i],l,o,I'.evo R,rx,λσ3 F3 H3 ev3 I3 _ _=>?_];have s:=U.trans<|R.ext.trans ev3.ext;cases y:g l with
    |none=>rw[y]at h;cases h
    |some O=>
     rw[y]at h;exact#[P,F3,l,O,y,I3,?_];cases O with
     |nx ρ4=>exact λb C T z B=>#[C,ρ4,s.trans z,B,h]
     |ct ρ4=>exact λb C T z B=>#[C,ρ4,s.trans z,B,h]
     |bk ρ4=>
      cases h;exact λb C T z B=>k b C T (S.ext.trans<|s.trans z) B
     |rt x4 ρ4=>
      cases h;exact λv4 b C T z B r4=>k v4 b C T (S.ext.trans<|s.trans z) B r4
  .have hz:a.drop i=[]:=ZX (by lia);rw[hz]at h;cases h;exact .inl #[ok2<|by lia,k j M Z (S.ext.trans U) I']
def dF(c:Dk)(body:Dw):Nat->DF->Option RES
 |0,_=>()
 |n+1,ρ=>match c ρ with
  |none=>()
  |some false=>!.nx ρ
  |some true=>match body ρ with
   |some (.nx ρ')=>dF c body n ρ'
   |some (.ct ρ')=>dF c body n ρ'
   |some (.bk ρ')=>!.nx ρ'
   |r=>r
def wP n{fc:Dk}(Y:PassesOwn (model X.prog X.w) X.A X.env X.xe)(Z:PDT X c fc)(hb:PDS X body g):PD1 X (.While c body [] pos) (dF fc g n):=PS.imp (DT Y Z hb) λE σ H=>un7 λP F R r U I k=>by
 exact#[λm j O=>∃C a,Same F C/\DInv X.K P C O a j/\dF fc g m a=!r,#[n,F,R,Same.refl _,I,U],?_];rintro m j O ⟨C,a,M,J,e⟩;cases m with
 |zero=>cases e
 |succ m=>
  delta dF at e;cases l:fc a with
  |none=>rw[l]at e;cases e
  |some b=>
   rw[l]at e;exact#[P,C,a,b,l,J,λL H2 i=>?_];cases b with
   |false=>
    rw[Yn Yk];cases e;exact k j L H2 (M.trans i.ext)<|J.evo i
   |true=>
    rw[Yl qx];exact#[λu N=>∃Q x,Same F Q/\DInv X.K P Q N x u/\dF fc g m x=!r,λu N h=>#[m,ZS m,h],?_];have B:=M.trans i.ext;dsimp only at e;cases o:g a with
    |none=>rw[o]at e;cases e
    |some y=>
     rw[o]at e;exact#[P,L,a,y,o,J.evo i,?_];cases y with
     |nx ρ4=>exact λf s z p q=>#[s,ρ4,B.trans p,q,e]
     |ct ρ4=>exact λf s z p q=>#[s,ρ4,B.trans p,q,e]
     |bk ρ4=>
      cases e;exact λf s z p q=>k f s z (B.trans p) q
     |rt x4 ρ4=>
      cases e;exact λS f s z p q T=>k S f s z (B.trans p) q T
end
end L2
variable{ρ ρ' ρ1 ρ2:DF}{ds KS as:List L2.D}{ts:List T4}{fa fb fc fe fv fx f0 f1 f4:DF->Option L2.D}{ks ls:List Str}{q l out aim tr q1:List Int}{g body:DF->Option RES}{W y tb dy R dc z d':L2.D}{st:L2.D->DF->Option DF}{xs:List DV}{spos p2 p1 p' ipos p3 pos2 rpos py lq fpos:Pos}{T:List (List Int)}{mM Arr:OD->List DV->Option (OD×L2.D)}{I c' A1 A2 f' c0 a0:Addr}{m Opn Od Ro Lo Op Ch:List DV->Option DV}{mn er tn on c1 c2:Str}{kvs:List (List Key×L2.D)}{Q:Bool->Shared->Prop}{e1 e2 e0 e3 e4:Expr}{k' kk mask ep ie it io:Nat}{wr:List Addr}{elts:List Expr}{ob:Obj}{H1 F1 F2 H2:Hp}{o':OD}{outer:List Env}{pm uc cd doc cdv ct oc:Value}{nb:Int->List Int}{gR:Addr->V->L2.D->DF->Option RES}{x5 x6:Option DV}{fo:DF->Option OD}{sd:Stmt}{sts:List Stmt}{vc v0:V}{an od:Option Addr}{sc:Bool}{dss:List (List L2.D)}
namespace L2
open PySem PySem.Spec PyProof.Rows
def gd(F H:Hp):Hp:=λa=>match F a with
 |none=>H a
 |some _=>()
theorem gx{o}:gd F H a=!o↔F a=()/\H a=!o:=by
 delta gd;grind
def ge(s:Same F H):DHp (gd F H) F H:=#[s,λa o e=>(gx.mp e).2,λa o e=>(gx.mp e).1]
def DHp.gd(h:DHp P F H)(e:Same F F')(g:DHp (gd F H) F' H'):Evo P F H F' H' where
 ext:=e
 hp:=#[g.sub,λa o q=>g.pro a o<|gx.mpr #[h.dis a o q,h.pro a o q],λa o q=>g.dis a o<|gx.mpr #[h.dis a o q,h.pro a o q]]
 keep:=λa o q n=>#[g.pro a o<|gx.mpr #[n,q],g.dis a o<|gx.mpr #[n,q]]
def Evo.change{b F}(e:Evo P F H F' H')(h:DHp b F H):Evo b F H F' H':=
 #[e.ext,#[e.hp.sub,λa o q=>(e.keep a o (h.pro a o q)<|h.dis a o q).1,λa o q=>(e.keep a o (h.pro a o q)<|h.dis a o q).2],e.keep]
def Hg:DV->Bool
 |.own _ _=>true
 |_=>false
inductive DVs (K:PySem.W.Frag) (P F H:Hp):List DV->List V->Prop
 |nil:DVs K P F H [] []
 |cons {x:DV}{v:V}{xs:List DV}{vs:List V}:Hg x=false->DVRep K P F H nL x v->DVs K P F H xs vs->DVs K P F H (x::xs) (v::vs)
def DVs.length(h:DVs K P F H xs vs):xs.length=vs.length:=by
 induction h with
 |nil=>rfl
 |cons _ _ _ ih=>exact YU Nat.succ ih
def DVs.get{x}(h:DVs K P F H xs vs)(e:xs[i]?=!x):Hg x=false/\∃v,vs[i]?=!v/\DVRep K P F H nL x v:=by
 induction h generalizing i with
 |nil=>exact nomatch e
 |cons h r _ ih=>
  cases i with
  |zero=>obtain rfl:=YG e;exact#[h,_,qx,r]
  |succ i=>exact ih e
def spD(K:Kq)(m:Dm):Sp:=λe H Q _=>∃P F c x,m c=!x/\DHp P F H/\DVs K P F H c e/\∀v b a,Same F b->DHp P b a->DVRep K P b a nL x v->Q v a
def aK(n p:Nat)(xs:List DV):DF:=xs.map some++List.replicate (n-p) ()
def bY:Option RES->Option DV
 |some (.rt x _)=>!x
 |some (.nx _)=>!.v .non
 |_=>()
def mOf(n p:Nat)(g:Dw):List DV->Option DV:=λx=>if x.length=p then bY (g<|aK n p x)else ()
theorem kb{n p}{x}(h:(aK n p xs)[i]?=!!x):xs[i]?=!x:=by
 delta aK at h;grind
def im(h:vs[i]?=!v):(start N vs)[i]?=!!v:=by delta start;let a:=(Ym.mp h).1;rw[ZA<|by simpa using a,Yt,h];rfl
def DInv.start N p(h:DHp P F H)(r:DVs K P F H xs vs)(b:xs.length=p):DInv K P F H (aK N.length p xs) (start N vs):=by
 exact#[h,?_,λz=>(),λi x e=>?_]
 .delta aK L2.start;rw[Yo,Yo,Ya,Ya,YS,YS,r.length,<-r.length,b]
 .let#[c,v,f,a]:=r.get<|kb e;exact#[v,im f,?_];cases x with
  |own o t=>cases c
  |v d=>exact a
  |bor o=>exact a
def yG{n p}:∀vs H Q E,spD K (mOf n p g) vs H Q E->vs.length=p:=λvs H Q E b=>by
 let#[P,i,x,e,a,f,c,_]:=b;delta mOf at a;split at a
 .rename_i h;rwa[<-c.length]
 .cases a
def vh{p}{Q}{E}(h:spD K (mOf N.length p g) vs H Q E):tS K g {nx:=λ_ H'=>Q .non H',rt:=Q} (start N vs) H:=by
 let#[P,i,x,u,a,m,l,f]:=h;delta mOf at a;split at a
 .rename_i o;let I:=DInv.start N p m l o;cases q:g (aK N.length p x)with
  |none=>rw[q]at a;cases a
  |some r=>
   rw[q]at a;exact#[P,i,_,r,q,I,?_];cases r with
   |rt y ρ=>cases a;exact λv j c b e h r=>f v c b e h.toDHp r
   |nx ρ=>cases a;exact λj c b e s=>f .non c b e s.toDHp .non
   |bk ρ=>cases a
   |ct ρ=>cases a
 .cases a
def Fun.okD{P}{st}(F:Fun K x qual st f fd)(S:FnScope N ps (defScope st))(a:∀cdv A outer s H E,Room k (A.deeper<|envOfC qual (defScope st) s.heap.objs.size f cdv)->
   PDS (gP CX0 P w K mg base N qual (defScope st) f cdv A outer s H E).nox (defBody st) g):FnOk P w K mg base CX0 (k+1) f fd ps (spD K<|mOf N.length ps.length g):=
 F.ok S yG λcdv A outer s H c Q E b h=>#[_,a cdv A outer s H E b,vh h]
inductive ArgsS (K:PySem.W.Frag) (ρ:DF) (σ:St) (F:Hp):List DV->List V->Prop
 |nil:ArgsS K ρ σ F [] []
 |v {d:D}{v:V}{xs:List DV}{vs:List V}:Rep K F v d->ArgsS K ρ σ F xs vs->ArgsS K ρ σ F (.v d::xs) (v::vs)
 |b {o:OD}{v:V}{xs:List DV}{vs:List V} (i:Nat):σ[i]?=!!v->((∃t,ρ[i]?=!!.own o t)\/ρ[i]?=!!.bor o)->ArgsS K ρ σ F xs vs->ArgsS K ρ σ F (.bor o::xs) (v::vs)
def ArgsS.same(e:Same F F')(h:ArgsS K ρ σ F xs vs):ArgsS K ρ σ F' xs vs:=by
 induction h with
 |nil=>exact .nil
 |v h _ ih=>exact .v (h.same e) ih
 |b i h1 h2 _ ih=>exact .b i h1 h2 ih
def ArgsS.dvs(I:DInv K P F H ρ σ)(h:ArgsS K ρ σ F xs vs):DVs K (gd F H) F H xs vs:=by
 induction h with
 |nil=>exact .nil
 |v h _ ih=>exact .cons qx h ih
 |b i h1 h2 _ ih=>
  let#[a,rfl,e]:=I.slot h1 h2;exact .cons qx #[a,qx,e.mono (Same.refl _) λb u q c=>#[gx.mpr #[q,c],trivial]] ih
def tLV(K:Kq)(f:Dv):TA:=λb H Q=>∃P F a x,f a=!x/\DInv K P F H a b/\∀c g e,Evo P F H g e->ArgsS K a b g x c->Q c e
def kf(X:Cx)(es:List Expr)(f:Dv):Prop:=PA X es<|tLV X.K f
def aq:kf X [] nA:=PA.imp bw λa H Q=>un7 λP F b x h I k=>by
 cases h;exact k [] F H (Evo.refl I.toDHp) .nil
def aV(f:Dd)(g:Dv):DF->Option (List DV):=λa=>(f a).bind λd=>(g a).map λx=>.v d::x
def aP{f:Dd}{g}(h:PDE X e f)(p:kf X es g)(hs:starEach (e::es) X.env=(false,eval e X.env)::starEach es X.env:=by rfl):kf X (e::es) (aV f g):=PA.imp (aQ h p hs) λx H Q=>un7 λP F b z a I k=>by
 let#[d,q,a]:=YK.mp a;let#[y,c,rfl]:=Zd.mp a;exact#[P,F,b,d,q,I,λv w A j o=>#[P,w,b,y,c,I.evo j,λl u s i m=>k (v::l) u s (j.trans i)<|.v (o.same i.ext) m]]
def aB(i:Nat)(g:Dv):DF->Option (List DV):=λa=>match a[i]? with
 |some (!.own o _)=>(g a).map λx=>.bor o::x
 |some (!.bor o)=>(g a).map λx=>.bor o::x
 |some (!.v d)=>(g a).map λx=>.v d::x
 |_=>()
def K6 i{g}(h:PE X e (c7 i))(x:kf X es g)(hs:starEach (e::es) X.env=(false,eval e X.env)::starEach es X.env:=by rfl):kf X (e::es) (aB i g):=PA.imp (aQ h x hs) λz H Q=>un7 λP F j A a I k=>by
 delta aB at a;split at a
 .rename_i o t q;let#[v,f,w]:=I.at q;let#[y,c,rfl]:=Zd.mp a;exact#[v,f,P,F,j,y,c,I,λm u s l p=>k (v::m) u s l<|.b i f (.inl #[t,q]) p]
 .rename_i o q;let#[v,f,w]:=I.at q;let#[y,c,rfl]:=Zd.mp a;exact#[v,f,P,F,j,y,c,I,λm u s l p=>k (v::m) u s l<|.b i f (.inr q) p]
 .rename_i d q;let#[v,f,w]:=I.at q;let#[y,c,rfl]:=Zd.mp a;exact#[v,f,P,F,j,y,c,I,λm u s l p=>k (v::m) u s l<|.v (Rep.same l.ext w) p]
 .cases a
def dvD:DV->Option D
 |.v d=>!d
 |.own o _=>!o.d
 |.bor _=>()
def aj(m:Dm)(g:Dv):DF->Option D:=λa=>(g a).bind λx=>(m x).bind dvD
def dvO:DV->Option OD
 |.own o _=>!o
 |_=>()
def eW(m:Dm)(g:Dv):DF->Option OD:=λa=>(g a).bind λx=>(m x).bind dvO
def JC(e:Same F F')(h1:F' a=())(h2:gd F H a=()):H a=():=by
 delta gd at h2;have:F a=():=by
  cases q:F a with
  |none=>rfl
  |some o=>rw[e a o q]at h1;cases h1
 rwa[this]at h2
def n_{o}(e2:Same F1 F2)(h:ORep K F2 H2 (λb=>F2 b=()/\gd F1 H1 b=()/\nL b) o a):ORep K F2 H2 (λb=>H1 b=()/\F2 b=()) o a:=
 h.mono (Same.refl _) λb u q c=>#[c,JC e2 q.1 q.2.1,q.1]
def EY{g}{E}:∀σ H Q,tD K (aj m g) σ H Q->B8 (spD K m) [] E (tLV K g) σ H Q:=λσ H Q=>un7 λP F z d h I k=>by
 delta aj at h;cases q:g z with
 |none=>rw[q]at h;cases h
 |some e=>
  rw[q,Yb]at h;cases f:m e with
  |none=>rw[f]at h;cases h
  |some x=>
   rw[f,Yb]at h;exact#[P,F,z,e,q,I,λN y s l J=>?_];let c:=I.evo l;exact#[gd y s,y,e,x,f,ge c.sub,by rw[Zc];exact J.dvs c,λv w p C i A=>?_];have B:=c.toDHp.gd C i;cases x with
   |v d'=>cases h;exact k v w p (l.trans B) A
   |own o t=>
    cases h;let#[a,rfl,L,_]:=A;let j:=n_ C L;exact k _ _ p (l.trans<|B.freeze c.toDHp _ λ_ q=>q)<|j.rep (b6 λb q=>q.2) λb u q M=>by rwa[de q]
   |bor o=>cases h
def G6{g}{E}:∀σ H Q,tO K (eW m g) σ H Q->B8 (spD K m) [] E (tLV K g) σ H Q:=λσ H Q=>un7 λP F p d h I k=>by
 delta eW at h;cases q:g p with
 |none=>rw[q]at h;cases h
 |some c=>
  rw[q,Yb]at h;cases e:m c with
  |none=>rw[e]at h;cases h
  |some x=>
   rw[e,Yb]at h;exact#[P,F,p,c,q,I,λM l y i B=>?_];let j:=I.evo i;exact#[gd l y,l,c,x,e,ge j.sub,by rw[Zc];exact B.dvs j,λv z w s f A=>?_];have L:=j.toDHp.gd s f;cases x with
   |own o t=>
    cases h;let#[a,rfl,C,_]:=A;exact k a z w (i.trans L)<|(n_ s C).mono (Same.refl _) λb u q J=>#[J,i.back I.toDHp q.1,q.2]
   |_=>cases h
section
variable{k:Nat}{g:Dv}
def Gy(F:FnOk X.prog X.w X.K X.mg X.base CX0 k f fd ps (spD X.K m))(a:Room k X.A)(i:Gl X x)(b:X.mg x=!.ref f)(c:PySem.W.keepIn X.K (.ref f))(j:Binds X.K fd ps [])(l:kf X (e::es) g)(hd:nDb x:=by decide)(he:starEach (e::es) X.env=(false,eval e X.env)::starEach es X.env:=by rfl)(h:(backTo pos<|starEach es X.env).any (·.1)=false:=by rfl):PDE X (.Call (.Name x p) (e::es) [] pos) (aj m g):=
 (uL F a i b c j .nil np l hd he h).imp EY
def Ep(F:FnOk X.prog X.w X.K X.mg X.base CX0 k f fd ps (spD X.K m))(a:Room k X.A)(i:Gl X x)(b:X.mg x=!.ref f)(c:PySem.W.keepIn X.K (.ref f))(j:Binds X.K fd ps [])(l:kf X (e::es) g)(hd:nDb x:=by decide)(he:starEach (e::es) X.env=(false,eval e X.env)::starEach es X.env:=by rfl)(h:(backTo pos<|starEach es X.env).any (·.1)=false:=by rfl):PDO X (.Call (.Name x p) (e::es) [] pos) (eW m g):=
 (uL F a i b c j .nil np l hd he h).imp G6
end
def pR:Option DV->Option DV
 |some (.v d)=>!.v d
 |some (.own o _)=>!.bor o
 |some (.bor o)=>!.bor o
 |_=>()
def fU(own:Nat)(ix:List Nat)(ρ:DF):DF:=List.replicate own ()++ix.map λj=>pR (ρ[j]?).join
def bO(st:Dq)(c:Dk)(e:Dd)(ρ:DF):List D->Option (List D)
 |[]=>![]
 |d::ds=>(st d ρ).bind λa=>(c a).bind λb=>if b then(e a).bind λy=>(bO st c e ρ ds).map λr=>y::r else bO st c e ρ ds
def aI(own:Nat)(ix:List Nat)(it:Dl)(st:Dq)(c:Dk)(e:Dd):DF->Option (List D):=
 λa=>(it a).bind λb=>if b.length<=16777216 then bO st c e (fU own ix a) b else ()
def bf:DF->Option Bool:=λ_=>!true
theorem wC{x}(h:(fU own ix ρ)[i]?=!!x):own<=i/\∃j y,ix[i-own]?=!j/\ρ[j]?=!!y/\pR (!y)=!x:=by
 delta fU at h;by_cases c:i<own
 .rw[ZA<|by rwa[YS],XF,Yl c]at h;cases h
 .rw[Zu<|by rw[YS];lia,YS,Yt]at h;exact#[by lia,?_];cases q:ix[i-own]? with
  |none=>rw[q]at h;cases h
  |some j=>
   rw[q,Zy]at h;let a:=YG h;cases b:ρ[j]? with
   |none=>rw[b]at a;cases a
   |some o=>
    rw[b,Option.join_some]at a;cases o with
    |none=>cases a
    |some y=>exact#[j,y,qx,b,a]
def Db(hi:own<=i)(h:ix[i-own]?=!j)(hv:σ[j]?=!!v):(eI own ix σ)[i]?=!!v:=by delta eI;rw[Zu<|by rwa[YS],YS,Yt,h,Zy,hv];rfl
def DInv.cap(I:DInv K P F H ρ σ)own ix:DInv K (gd F H) F H (fU own ix ρ) (eI own ix σ):=by
 exact#[ge I.sub,?_,λz=>(),λi x h=>?_]
 .rw[iu];delta fU;rw[Yo,YS,Ya]
 .let#[p,j,y,w,e,c]:=wC h;let#[v,f,l]:=I.at e;exact#[v,Db p w f,?_];have g:∀o,((∃t,ρ[j]?=!_)\/ρ[j]?=!(some<|.bor o))->DVRep K _ F H (λb=>()=!i) (.bor o) v:=λo m=>by
   let#[a,rfl,c]:=I.slot f m;exact#[a,qx,c.mono (Same.refl _) λb u q s=>#[gx.mpr #[q,s],trivial]]
  cases y with
  |v d=>cases c;exact l
  |own o t=>cases c;exact g o<|.inl #[t,e]
  |bor o=>cases c;exact g o<|.inr e
def wv{f}(B:DInv K G F H (fU own ix ρ) f)(e:Same F F2)(m:DHp G F2 H2):DInv K G F2 H2 (fU own ix ρ) f:=by
 let#[O,h]:=B.rep;exact#[m,B.len,O,λi x g=>?_];let#[v,s,l]:=h i x g;exact#[v,s,?_];cases x with
 |v d=>exact Rep.same e l
 |bor o=>let#[a,rfl,c]:=l;exact#[a,qx,c.mono e λb u q p=>#[p,q]]
 |own o t=>(let#[_,j,y,_,_,c]:=wC g;cases y<;>cases c)
section
variable{own:Nat}{ix is:List Nat}{f:Dl}{c:Dk}{e:Dd}
def Fy(his:∀j∈is,j<own){out}{Q}(I:DInv K P F H ρ σ)(hlen:ds.length<=16777216)(hf:bO st c e (fU own ix ρ) ds=!out)(k:∀a F' H',Evo P F H F' H'->ORep K F' H' (λb=>H b=()/\F' b=()) (.lst out) a->Q (.ref a) H')(ev:Evo P F H F1 H1)(ok:xw K P J F1 ds):Hq own ix (tG K is st) (tB' K c) (tD K e) σ Q J H1:=λg l=>by
 let U:=I.evo ev;have hp1:=ge U.sub;have hg:gd F1 H1 g=():=by delta gd;rwa[U.sub.free l]
 have B1:=U.cap own ix;have hP:∀{F' H'},Same F1 F'->DHp _ F' H'->DHp P F' H':=λs h=>(U.toDHp.gd s h).hp
 exact#[λi m ys H'=>m=ds.length-i/\i<=ds.length/\∃F',Same F1 F'/\DHp _ F' H'/\F' g=()/\H' g=!.lst ys/\ys.length<=i/\∃p,Reps K F' ys p/\(bO st c e _<|ds.drop i).map (λr=>p++r)=!out,
  #[_,qx,YN _,F1,Same.refl _,(Evo.side hp1 l).hp,U.sub.free l,aD,Yp _,[],.nil,by rw[VB,hf];rfl],?_]
 rintro i m ys H' ⟨rfl,hi,F',T,M,fa,ha,hy,p,rp,f⟩;obtain⟨ok1,ok2⟩:=ok F' H' T (hP T M) i;by_cases N:i<ds.length
 .have hd:ds[i]?=some ds[i]:=Yi N;obtain⟨go,yl⟩:=ok1 _ hd;have O:=ZK N;rw[O]at f;delta bO at f;cases L:st ds[i] (fU own ix ρ)with
  |none=>rw[L]at f;cases f
  |some o=>
   rw[L,Yb]at f;exact .inr #[go,λw S=>∃C,Same F1 C/\DHp _ C S/\C g=()/\S g=!.lst w/\w.length<=i+1/\∃A,Reps K C w A/\(bO st c e _ _).map _=!out,
    λw S h=>#[ds.length-(i+1),by lia,rfl,N,h],λx S hyl=>?_]
   obtain⟨C,R,rx⟩:=yl x S hyl;have B:=R.change M;obtain⟨a2,fa2⟩:=B.keep g _ ha fa;have B2:=wv B1 (T.trans R.ext) B.hp;exact#[gd F1 H1,C,fU own ix ρ,ds[i],o,L,B2,rx,λσ3 F3 H3 ev3 I3 hl3 hσ=>?_];exact#[#[?_,λj v hj=>?_],?_]
   .rw[hl3,iu]
   .rw[hσ j]
    .exact hj
    .intro hj';obtain⟨ho,_⟩:=lH hj;have:=his j hj';lia
   obtain⟨a3,fa3⟩:=ev3.keep g _ a2 fa2;cases hc:c o with
   |none=>rw[hc]at f;cases f
   |some b=>
    rw[hc,Yb]at f;exact#[gd F1 H1,F3,o,b,hc,I3,λF4 H4 z=>?_];obtain⟨a4,fa4⟩:=z.keep g _ a3 fa3;have E:=R.ext.trans<|ev3.ext.trans z.ext;cases b with
    |false=>
     rw[Yn Yk]at f ⊢;exact#[F4,T.trans E,z.hp,fa4,a4,by lia,p,rp.same E,f]
    |true=>
     rw[Yl qx]at f ⊢;cases he:e o with
     |none=>rw[he]at f;cases f
     |some y=>
      rw[he,Yb]at f;exact#[gd F1 H1,F4,o,y,he,I3.evo z,λv F5 H5 q rv=>?_];obtain⟨a5,Z⟩:=q.keep g _ a4 fa4;have X:=E.trans q.ext;exact#[a5,by rw[YT];lia,F5,T.trans X,#[λb u h=>by rw[az<|bc h Z];exact q.hp.sub b u h,λb u h=>by rw[az<|bc h hg];exact q.hp.pro b u h,q.hp.dis],Z,aD,by rw[Yo,YM];lia,p++[y],(rp.same X).append<|.one rv,?_];cases Y:bO st c e _ (ds.drop<|i+1)with
      |none=>rw[Y]at f;cases f
      |some r=>
       rw[Y]at f;simp only[Zy]at f ⊢;rwa[Zh]
 .have hz:ds.drop i=[]:=ZX (by lia);rw[hz]at f;delta bO at f;rw[Zy,Zc]at f;cases f;exact .inl #[ok2<|by lia,k g F' H' (ev.trans<|U.toDHp.gd T M) #[#[ev.back I.toDHp l,fa],_,ha,rp]]
def zT(his:∀j∈is,j<own):∀σ H Q,tO K (asL (aI own ix f st c e)) σ H Q->zW own ix (tI K f) (tG K is st) (tB' K c) (tD K e) σ H Q:=λσ H Q=>un7 λP F g m i I k=>by
 let#[o,b,rfl]:=Zd.mp i;delta aI at b;let#[l,q,a]:=YK.mp b;split at a
 .rename_i h;exact#[P,F,g,l,q,I,λJ s p=>Fy his I h a k]
 .cases a
def BJ(hcalm:X.calm)(b:BlkScope X scope)(cp:Caps X scope N own ix)(his:∀j∈is,j<own)(hi:PDI X tg iter f)(h:∀s H fp pz,PDG (blk X scope N s H fp pz) tg is st)(a:∀s H fp pz,o0 (blk X scope N s H fp pz) ifs<|tB' X.K c)(he:∀s H fp pz,PDE (blk X scope N s H fp pz) elt e)(hnames:∀y∈scope.names,y.2=.local->scope.names.lookup y.1=!.local:=by decide)(hs:FsI iter X:=by intro _;rfl):PDO X (.ListComp elt [#[tg,iter,ifs,0]] scope pos) (asL<|aI own ix f st c e):=
 (yQ (g:=tG X.K is st) (te:=tD X.K e) hcalm b cp hi h a he hnames hs).imp<|zT his
end
section
variable{a:Expr}
def J4(n:Nat)(f:Dl):Prop:=∀ρ ds,f ρ=!ds->ds.length=n
def PDL(X:Cx)(es:List Expr)(n:Nat)(f:Dl):Prop:=PDA X es f/\J4 n f
def aE:DF->Option (List D):=λ_=>![]
def ag(f:Dd)(g:Dl):DF->Option (List D):=λa=>(f a).bind λd=>(g a).map λr=>d::r
def ay:PDL X [] 0 aE:=#[PA.imp bw λc H Q=>un7 λP F a x b I k=>by
 cases b;exact k [] F H (Evo.refl I.toDHp) .nil,λa e h=>by cases h;rfl]
def af{f:Dd}{g}(h:PDE X e f)(i:PDL X es n g)(hs:starEach (e::es) X.env=(false,eval e X.env)::starEach es X.env:=by rfl):PDL X (e::es) (n+1) (ag f g):=
 #[PA.imp (aQ h i.1 hs) λx H Q=>un7 λP F b z a I k=>by
  delta ag at a;cases q:f b with
  |none=>rw[q]at a;cases a
  |some d=>
   rw[q,Yb]at a;cases c:g b with
   |none=>rw[c]at a;cases a
   |some y=>
    rw[c]at a;cases a;exact#[P,F,b,d,q,I,λv w B l p=>#[P,w,b,y,c,I.evo l,λm u s j o=>k (v::m) u s (l.trans j)<|.cons (p.same j.ext) o]],λb A a=>by
  delta ag at a;cases q:f b with
  |none=>rw[q]at a;cases a
  |some d=>
   rw[q,Yb]at a;cases c:g b with
   |none=>rw[c]at a;cases a
   |some y=>
    rw[c]at a;cases a;rw[Yv,i.2 b y c]]
def asT(f:Dl):DF->Option D:=λρ=>(f ρ).map .tup
def aS{x1}{f}(h:PDL X es n f)(j:n<=16777216:=by decide):PDE X (.Tuple es x1 pos) (asT f):=(BE h.1).imp λl H Q=>un7 λP F b d a I k=>by
 delta asT at a;cases q:f b with
 |none=>rw[q]at a;cases a
 |some i=>
  rw[q]at a;cases a;exact#[P,F,b,i,q,I,λm s o e c=>#[by rwa[c.length,h.2 b i q,YT],λp g=>?_]];exact k _ _ _ (e.trans<|Evo.laid e.hp g)<|.tup aD<|c.same<|lG (e.hp.free g).1
def bp{f}(h:PDL X es n f)(j:n<=16777216:=by decide):PDO X (.List es pos) (asL f):=(Jk h.1).imp λm H Q=>un7 λP F b s a I k=>by
 delta asL at a;cases q:f b with
 |none=>rw[q]at a;cases a
 |some i=>
 rw[q]at a;cases a;exact#[P,F,b,i,q,I,λo l u e g=>#[by rwa[g.length,h.2 b i q,YT],λp c=>?_]];exact k p l _ (e.trans<|Evo.side e.hp c) #[#[e.back I.toDHp c,(e.hp.free c).1],_,aD,g]
def Reps.atI{i}(r:Reps K F vs ds)(h:atI ds i=!d):∃v,atI vs i=!v/\Rep K F v d:=by
 delta L2.atI at h ⊢;rw[r.length];cases q:ixN ds.length i with
 |none=>rw[q]at h;cases h
 |some j=>
  rw[q,Yb]at h;let#[v,b,a]:=r.get h;exact#[v,b,a]
def ixD:D->D->Option D
 |.lst ds,.int i=>atI ds i
 |.tup ds,.int i=>atI ds i
 |.str z,.int i=>if z.length<=16777216 then(atI z.cps.toList i).map λc=>.str #[#[[c]]]else ()
 |_,_=>()
open A in
def Kt:vf K (rIx K) ixD:=by
 intro P F H s o x y w u d Q h I e b k;delta ixD at h;split at h
 .let#[p,a,rfl,l,j]:=e_ I e;let#[v,g,f]:=j.atI h;exact .inl #[p,a,_,v,qx,dm b,l,g,k v F H (Evo.refl I.toDHp) f]
 .let#[p,a,rfl,l,j]:=kO I e;let#[v,g,f]:=j.atI h;exact .inr<|.inl #[p,a,_,v,qx,dm b,l,g,k v F H (Evo.refl I.toDHp) f]
 .split at h
  .rename_i z i m;let#[c,q,rfl]:=Zd.mp h;exact .inr<|.inr #[z,i,c,ou e,dm b,by rwa[YT],q,k _ F H (Evo.refl I.toDHp) .str]
  .cases h
 .cases h
def aN(c:PDR X a fa)(h:PDR X b fb)(hs:iV b:=by exact λz z=>rfl):PDE X (.Subscript a b pos) (d2 ixD fa fb):=(r_ lT c h hs).imp<|xb Kt
def KW:R2:=λx y H Q=>(∃i j,x=.int i/\y=.int j/\Q (.int<|i+j) H)\/∃i j,x=.str i/\y=.str j/\i.length+j.length<=sizeLine/\Q (.str<|i++j) H
def Ki(c:PDR X a fa)(h:PDR X b fb):PDT X (.Compare a [.LtE] [b] pos) (asB (d2 leI fa fb)):=t5 Hc (oA λ_ _ _=>.bl) c h<|jd _
def nD(c:PDR X a fa)(h:PDR X b fb):PDT X (.Compare a [.Gt] [b] pos) (asB (d2 gtI fa fb)):=t5 Ln (oA λ_ _ _=>.bl) c h<|jd _
def KP(c:PDR X a fa)(h:PDR X b fb):PDT X (.Compare a [.GtE] [b] pos) (asB (d2 geI fa fb)):=t5 K7 (oA λ_ _ _=>.bl) c h<|jd _
def fV(f g:Dk):DF->Option Bool:=λa=>(f a).bind λb=>if b then g a else !false
def orT(f g:Dk):DF->Option Bool:=λa=>(f a).bind λb=>if b then !true else g a
def bE(f:Dk):DF->Option Bool:=λρ=>(f ρ).map λb=>(not<|b)
def PDW(X:Cx)(e:Expr)(f:Dk):Prop:=PW X e<|tB' X.K f
def PDW.t{f}(h:PDW X e f):PDT X e f:=PW.pt h
def PW.imp{t t'}(h:PW X e t)(i:∀σ H Q,t' σ H Q->t σ H Q):PW X e t':=λw p s σ H Q I q=>h w p s σ H Q I<|i σ H Q q
def gh{f:Dk}(h:PDT X a f):PDW X (.BoolOp .And [a] pos) f:=Fe h
def e9{f:Dk}(h:PDT X a f):PDW X (.BoolOp .Or [a] pos) f:=JL h
def iR{cx}{f g:Dk}(l:PDT X a f)(j:PDW X (.BoolOp .And (b::cx) pos) g):PDW X (.BoolOp .And (a::b::cx) pos) (fV f g):=PW.imp (IC l j) λu H Q=>un7 λP F c r h I k=>by
 let#[x,q,h]:=YK.mp h;exact#[P,F,c,x,q,I,λi p e=>?_];cases x with
 |true=>rw[Yl qx]at h ⊢;exact#[P,i,c,r,h,I.evo e,λs o m=>k s o<|e.trans m]
 |false=>rw[Yn Yk]at h ⊢;cases h;exact k i p e
def eM{cx}{f g:Dk}(l:PDT X a f)(j:PDW X (.BoolOp .Or (b::cx) pos) g):PDW X (.BoolOp .Or (a::b::cx) pos) (orT f g):=PW.imp (LB l j) λu H Q=>un7 λP F c r h I k=>by
 let#[x,q,h]:=YK.mp h;exact#[P,F,c,x,q,I,λi p e=>?_];cases x with
 |true=>rw[Yl qx]at h ⊢;cases h;exact k i p e
 |false=>rw[Yn Yk]at h ⊢;exact#[P,i,c,r,h,I.evo e,λs o m=>k s o<|e.trans m]
def cw{f:Dk}(c:PDT X a f):PDT X (.UnaryOp .Not a pos) (bE f):=(Ib c).imp λj H Q=>un7 λP F b r h I k=>by
 let#[x,q,rfl]:=Zd.mp h;exact#[P,F,b,x,q,I,λi g e=>k i g e]
def wA(f g:Dd):DF->Option D:=λa=>match f a with
 |some (.bl true)=>g a
 |some (.bl false)=>!.bl false
 |_=>()
def Ju(f:Dd):DF->Option D:=λa=>match f a with
 |some (.bl b)=>!.bl ((not<|b))
 |_=>()
def sZ{op}{f:Dd}(h:PDE X a f):PDE X (.BoolOp op [a] pos) f:=Jx h
def qu{cx}{f g:Dd}(p:PDE X a f)(o:PDE X (.BoolOp .And (b::cx) pos) g):PDE X (.BoolOp .And (a::b::cx) pos) (wA f g):=(Jo p o).imp λx H Q=>un7 λP F c r h I k=>by
 delta wA at h;split at h
 .rename_i q;exact#[P,F,c,_,q,I,λv j l e i=>?_];cases i;exact#[true,qx,by rw[Yl qx];exact#[P,j,c,r,h,I.evo e,λv w u s m=>k v w u (e.trans s) m]]
 .rename_i q;exact#[P,F,c,_,q,I,λv j l e i=>?_];cases i;cases h;exact#[false,qx,by rw[Yn Yk];exact k _ j l e .bl]
 .cases h
def IJ{f:Dd}(e:PDE X a f):PDE X (.UnaryOp .Not a pos) (Ju f):=(Ia e).imp λl H Q=>un7 λP F b r h I k=>by
 delta Ju at h;split at h
 .rename_i q;cases h;exact#[P,F,b,_,q,I,λv j i g c=>?_];cases c;exact#[_,qx,k _ j i g .bl]
 .cases h
def ifV(c:Dk)(f g:Dd):DF->Option D:=λa=>(c a).bind λb=>if b then f a else g a
def yq{fc:Dk}{f g:Dd}(s:PDT X c fc)(w:PDE X a f)(u:PDE X b g):PDE X (.IfExp c a b pos) (ifV fc f g):=(Ds s w u).imp λy H Q=>un7 λP F e r h I k=>by
 let#[x,q,h]:=YK.mp h;exact#[P,F,e,x,q,I,λp z i=>?_];cases x with
 |true=>rw[Yl qx]at h ⊢;exact#[P,p,e,r,h,I.evo i,λv o m l j=>k v o m (i.trans l) j]
 |false=>rw[Yn Yk]at h ⊢;exact#[P,p,e,r,h,I.evo i,λv o m l j=>k v o m (i.trans l) j]
def LG(K:Kq)(r:List V->Hp->VK->Prop)(f:D->Option D):Prop:=
 ∀P F H g e x a d Q,f a=!d->DInv K P F H g e->RepS K H F x a->(∀v c b,Evo P F H c b->Rep K c v d->Q v b)->r [x] H Q
def d1(f:D->Option D)(fa:Dd):DF->Option D:=λa=>(fa a).bind f
def Ic{f}(j:LG K r f):∀σ H Q,tD K (d1 f fa) σ H Q->tCB r (ph (tR K fa) wu) σ H Q:=λσ H Q=>un7 λP F a d h I k=>by
 delta d1 at h;cases b:fa a with
 |none=>rw[b]at h;cases h
 |some c=>
  rw[b,Yb]at h;exact#[P,F,a,c,b,I,λx q o e g=>j P q o a σ x c d Q h (I.evo e) g λv p m l i=>k v p m (e.trans l) i]
def bU:D->Option D
 |.lst ds=>!.int ds.length
 |.tup ds=>!.int ds.length
 |.str z=>if z.length<=16777216 then !.int z.length else ()
 |_=>()
def KI(K:Kq):List V->Hp->VK->Prop:=λx H Q=>(∃p y,x=[.ref p]/\(SqL K H p y\/SqT K H p y)/\Q (.int y.length) H)\/∃z,x=[.str z]/\z.length<=sizeLine/\Q (.int z.length) H
end
mutual
def b7:D->PyData
 |.non=>.none
 |.bl b=>.bool b
 |.int i=>.int i
 |.str x=>.str x
 |.tup xs=>.tuple (c5 xs)
 |.lst xs=>.list (c5 xs)
 |.dT _=>.none
 |.dK _=>.none
 |.ins _ _=>.none
 |.fn _ _ _=>.none
def c5:List D->List PyData
 |[]=>[]
 |d::ds=>b7 d::c5 ds
end
def okN:Nat->D->Bool
 |_,.non=>true
 |_,.bl _=>true
 |_,.int _=>true
 |_,.str x=>PyData.strOk x
 |n+1,.tup xs=>xs.all<|okN n
 |n+1,.lst xs=>xs.all<|okN n
 |_,_=>false
def cu:∀{ds:List D},ds.all (okN n)->∀d∈ds,okN n d:=λh d a=>Yh.mp h d a
theorem cU:∀n d,okN n d->(b7 d).canLay0/\(b7 d).depth<=n+1:=by
 intro n;induction n with
 |zero=>
  intro d h;cases d with
  |non=>exact#[qx,by simp[b7,PyData.depth]]
  |bl b=>exact#[qx,by simp[b7,PyData.depth]]
  |int b=>exact#[qx,by simp[b7,PyData.depth]]
  |str b=>exact#[h,by simp[b7,PyData.depth]]
  |_=>cases h
 |succ n ih=>
  have all:∀c:List D,c.all (okN n)->PyData.canLayAll0 (c5 c)/\PyData.depthAll (c5 c)<=n+1:=by
   intro c;induction c with
   |nil=>intro _;exact#[qx,by simp[c5,PyData.depthAll]]
   |cons x r i=>
    intro h;rw[List.all_cons,Yr]at h;let#[a,e]:=ih x h.1;let#[f,g]:=i h.2;exact#[?_,?_]
    .show(PyData.canLay0 (b7 x)&&PyData.canLayAll0 (c5 r));rw[a,f];rfl
    .show PyData.depthAll (b7 x::c5 r)<=n+1;simp[PyData.depthAll];lia
  intro d h;cases d with
  |non=>exact#[qx,by simp[b7,PyData.depth]]
  |bl b=>exact#[qx,by simp[b7,PyData.depth]]
  |int b=>exact#[qx,by simp[b7,PyData.depth]]
  |str b=>exact#[h,by simp[b7,PyData.depth]]
  |tup xs=>
   let#[a,e]:=all xs h;exact#[a,by simp[b7,PyData.depth];lia]
  |lst xs=>
   let#[a,e]:=all xs h;exact#[a,by simp[b7,PyData.depth];lia]
  |_=>cases h
def Reps.readsOf(ih:∀{v}{d}{u},Rep X.K H v d->okN n d->RelV v u->∃as,Reads s.heap u (b7 d) as)(h:Reps X.K H vs ds):∀us:List Value,(∀d∈ds,okN n d)->Vals vs us->∃as,ReadsAll s.heap us (c5 ds) as:=
 Reps.ind (M:=λvs ds=>∀us:List Value,(∀d∈ds,okN n d)->Vals vs us->∃as,ReadsAll s.heap us (c5 ds) as) (λus z r=>by cases r;exact#[_,.nil]) (λh z i us a r=>by
  cases r with
  |cons r t=>
   let#[g,c]:=ih h (a _ Ye) r;let#[f,b]:=i _ (λd e=>a d<|Yd _ e) t;exact#[_,.cons c b]) h
def Rep.reads1(I:Inv X pz σ H s)n(ih:∀m,n=m+1->∀{v}{d}{u},Rep X.K H v d->okN m d->RelV v u->∃as,Reads s.heap u (b7 d) as)(h:Rep X.K H v d)(a:okN n d)(r:RelV v u):∃as,Reads s.heap u (b7 d) as:=by
 cases h with
 |non=>cases(show u=Value.none from r);exact#[_,.none]
 |bl=>cases(show u=Value.bool _ from r);exact#[_,.bool _]
 |int=>let#[t,rfl]:=(show ∃t,u=Value.int _ t from r);exact#[_,.int _ _]
 |str=>let#[t,rfl]:=(show ∃t,u=Value.str _ t from r);exact#[_,.str _ _]
 |tup h q=>
  cases n with
  |zero=>cases a
  |succ m=>
   cases(show u=Value.ref _ from r);let#[i,b,e,_]:=I.tuple<|SqT.of h;let#[as,c]:=Reps.readsOf (ih m qx) q _ (cu a) b;let#[o,j,g,m,f]:=e;exact#[_,.tuple j g f<|by simpa using c]
 |lst h q=>
  cases n with
  |zero=>cases a
  |succ m=>
   cases(show u=Value.ref _ from r);let#[i,b,e,_]:=I.list h;let#[as,c]:=Reps.readsOf (ih m qx) q _ (cu a) b;let#[o,m,j,g,_,f]:=e;exact#[_,.list j g f<|by simpa using c]
 |_=>cases n<;>cases a
def Rep.reads(I:Inv X pz σ H s)n:∀{v}{d}{u},Rep X.K H v d->okN n d->RelV v u->∃as,Reads s.heap u (b7 d) as:=by
 induction n with
 |zero=>exact λh a r=>Rep.reads1 I 0 (λm e=>by cases e) h a r
 |succ n ih=>exact λh a r=>Rep.reads1 I (n+1) (λm e=>by cases e;exact ih) h a r
def eqd(x y:D):Bool:=PyData.eqv (b7 x)<|b7 y
def eqD(x y:D):Option D:=if(okN 30 x&&okN 30 y) then !.bl (eqd x y) else ()
def neD(x y:D):Option D:=if(okN 30 x&&okN 30 y) then !.bl ((not<|eqd x y)) else ()
def E_(K:Kq)(g:Bool->Bool):R2:=λx y H Q=>∃b a,Rep K H x b/\Rep K H y a/\okN 30 b/\okN 30 a/\Q (.bl<|g<|eqd b a) H
section
variable{a:Expr}
theorem Cb(j:X.A.units+64<cLine):OpR X (compareOp .Eq) (E_ X.K λb=>b):=by
 intro C s B H x y v u Q I e c h;let#[z,w,p,m,a,o,q]:=h;let#[M,g]:=p.reads I 30 a e;let#[L,f]:=m.reads I 30 o c;let#[i,J]:=cU 30 z a;let#[l,E]:=cU 30 w o;exact SeqAt.compareEq_shaped g f ?_ ?_ j #[.bl _,H,I,qx,q]
 .delta SeqAt.shaped;rw[i,Vn,YQ];lia
 .delta SeqAt.shaped;rw[l,Vn,YQ];lia
theorem CF(j:X.A.units+64<cLine):OpR X (compareOp .NotEq) (E_ X.K λb=>(not<|b)):=by
 intro C s B H x y v u Q I e c h;let#[z,w,p,m,a,o,q]:=h;let#[M,g]:=p.reads I 30 a e;let#[L,f]:=m.reads I 30 o c;let#[i,J]:=cU 30 z a;let#[l,E]:=cU 30 w o;exact SeqAt.compareNe_shaped g f ?_ ?_ j #[.bl _,H,I,qx,q]
 .delta SeqAt.shaped;rw[i,Vn,YQ];lia
 .delta SeqAt.shaped;rw[l,Vn,YQ];lia
def Ed:OpN2 K (E_ K λb=>b) eqD:=by
 intro P F H x y i g d Q a f e c k;delta eqD at a;split at a
 .rename_i h;rw[Yr]at h;cases a;exact#[i,g,e,c,h.1,h.2,k _ F H (Evo.refl f) .bl]
 .cases a
def Dn:OpN2 K (E_ K λb=>(not<|b)) neD:=by
 intro P F H x y i g d Q a f e c k;delta neD at a;split at a
 .rename_i h;rw[Yr]at h;cases a;exact#[i,g,e,c,h.1,h.2,k _ F H (Evo.refl f) .bl]
 .cases a
def vM(h:X.A.units+64<cLine)(e:PDN X a fa)(c:PDN X b fb):PDE X (.Compare a [.Eq] [b] pos) (d2 eqD fa fb):=yh (Cb h) Ed e c<|jd _
def L4(h:X.A.units+64<cLine)(e:PDN X a fa)(c:PDN X b fb):PDE X (.Compare a [.NotEq] [b] pos) (d2 neD fa fb):=yh (CF h) Dn e c<|jd _
def eO(h:X.A.units+64<cLine)(e:PDN X a fa)(c:PDN X b fb):PDT X (.Compare a [.Eq] [b] pos) (asB (d2 eqD fa fb)):=n9 (Cb h) Ed e c<|jd _
def gu(h:X.A.units+64<cLine)(e:PDN X a fa)(c:PDN X b fb):PDT X (.Compare a [.NotEq] [b] pos) (asB (d2 neD fa fb)):=n9 (CF h) Dn e c<|jd _
def fK:D->Option (List D)
 |.lst ds=>!ds
 |.tup ds=>!ds
 |_=>()
def inD(x y:D):Option D:=(fK y).bind λa=>if(okN 30 x&&a.all (okN 29)) then !.bl (a.any λz=>eqd z x) else ()
def L1(K:Kq)(g:Bool->Bool):R2:=λx y H Q=>∃a c b,Rep K H x a/\Rep K H y c/\fK c=!b/\okN 30 a/\b.all (okN 29)/\Q (.bl<|g<|b.any λz=>eqd z a) H
theorem mJ x:∀ds:List D,(c5 ds).any (λy=>PyData.eqv y (b7 x))=ds.any λz=>eqd z x
 |[]=>rfl
 |d::ds=>by
  show((PyData.eqv (b7 d)<|b7 x)||(c5 ds).any _)=_;rw[mJ];rfl
theorem BF(N:X.A.units+64<cLine):OpR X (compareOp .In) (L1 X.K λb=>b):=by
 intro M s L H x y v u Q I w f h;let#[p,E,a,C,m,e,i,o,q]:=h;let#[P,g]:=C.reads I 30 i w;let#[j,B]:=cU 30 p i;cases E with
 |lst xs=>
  cases e;let#[J,c]:=m.reads I 30 o f;let#[l,z]:=cU 30 (.lst a) o;exact SeqAt.in_list_reads c g l j (by lia) #[.bl _,H,I,(by show Value.bool _=Value.bool _;rw[mJ]),q]
 |tup xs=>
  cases e;let#[J,c]:=m.reads I 30 o f;let#[l,z]:=cU 30 (.tup a) o;exact SeqAt.in_tuple_reads c g l j (by lia) #[.bl _,H,I,(by show Value.bool _=Value.bool _;rw[mJ]),q]
 |_=>cases e
def CC:OpN2 K (L1 K λb=>b) inD:=by
 intro P F H x y i c d Q a g f e k;let#[j,q,a]:=YK.mp a;split at a
 .rename_i h;rw[Yr]at h;cases a;exact#[i,c,j,f,e,q,h.1,h.2,k _ F H (Evo.refl g) .bl]
 .cases a
def KZ(h:X.A.units+64<cLine)(f:PDN X a fa)(e:PDN X b fb)(c:behindInMarks .In b=false:=by with_unfolding_all rfl):PDE X (.Compare a [.In] [b] pos) (d2 inD fa fb):=yh (BF h) CC f e c
def LQ(h:X.A.units+64<cLine)(f:PDN X a fa)(e:PDN X b fb)(c:behindInMarks .In b=false:=by with_unfolding_all rfl):PDT X (.Compare a [.In] [b] pos) (asB (d2 inD fa fb)):=n9 (BF h) CC f e c
end
section
variable{a l:Expr}
def cQ(f:Dd):DF->Option (List D):=λa=>match f a with
 |some (.lst ds)=>!ds
 |_=>()
theorem CT{f}(h:cQ f ρ=!ds):f ρ=!.lst ds:=by
 delta cQ at h;grind
def qZ{a}(h:SqL K F a vs)(r:Reps K F vs ds):xw K P (Itl K a) F ds:=by intro p H e c i;let b:=c.sub.seq<|e.seq h;exact#[λd m=>?_,λl=>#[vs,b,by rwa[r.length]]];let#[v,f,o]:=r.get m;exact#[#[vs,v,b,f],λx q g=>?_];let#[rfl,j]:=g;have:=j vs b;rw[f]at this;cases this;exact#[p,Evo.refl c,o.same e]
def jH{f:Dd}(h:PDE X l f):PDI X tg l (cQ f):=PI.imp (nY h) λj H R=>un7 λP F a m c I k=>by
 exact#[P,F,a,_,CT c,I,λv i g e b=>?_];cases b with
 |lst h1 h2=>exact#[_,qx,#[_,e.hp.sub.seq h1],k _ i g e<|qZ h1 h2]
def bu(i:Nat):DF->Option (List D):=λa=>match a[i]? with
 |some (!.bor (.lst ds))=>!ds
 |some (!.v (.lst ds))=>!ds
 |_=>()
def BR{a}(h:P a=!.lst vs)(r:Reps K F vs ds):xw K P (Itl K a) F ds:=by intro p H e c i;have b:SqL K H a vs:=SqL.of<|c.pro _ _ h;exact#[λd m=>?_,λl=>#[vs,b,by rwa[r.length]]];let#[v,f,o]:=r.get m;exact#[#[vs,v,b,f],λx q g=>?_];let#[rfl,j]:=g;have:=j vs b;rw[f]at this;cases this;exact#[p,Evo.refl c,o.same e]
def Ft i(h:PE X l (c7 i)):PDI X tg l (bu i):=PI.imp (nY h) λm H R=>un7 λP F o p b I k=>by
 delta bu at b;split at b
 .rename_i g q;cases b;let#[v,f,a,rfl,_,u,c,e]:=I.at q;cases u with
  |lst vs=>exact#[_,f,a,qx,#[vs,SqL.of<|I.pro _ _ c],k _ F H (Evo.refl I.toDHp)<|BR c e]
  |_=>exact e.elim
 .rename_i g q;cases b;let#[v,f,j]:=I.at q;cases j with
  |lst c e=>exact#[_,f,_,qx,#[_,I.sub.seq c],k _ F H (Evo.refl I.toDHp)<|qZ c e]
 .cases b
def cS(lo:Int)(n:Nat):List D:=(List.range n).map λi:Nat=>.int<|lo+i
def qr{lo}(h:(cS lo n)[i]?=!d):i<n/\d=.int (lo+i):=by
 delta cS at h;rw[Yt]at h;by_cases a:i<n
 .rw[Xp a,Zy]at h;cases h;exact#[a,qx]
 .rw[Zm<|by rw[Zs];lia]at h;cases h
def yd lo n:(cS lo n).length=n:=by delta cS;rw[Ya,Zs]
def pK lo n:xw K P (Itr lo n) F (cS lo n):=by intro g j e b i;exact#[λd f=>?_,λh=>by rwa[yd]at h];let#[c,rfl]:=qr f;exact#[c,λx H a=>?_];let#[rfl,rfl]:=a;exact#[g,Evo.refl b,.int]
def cZ(f:Dd):DF->Option (List D):=λa=>match f a with
 |some (.int j)=>if -(2^62)<=j/\j<2^62 then !cS 0 j.toNat else ()
 |_=>()
def wI(f g:Dd):DF->Option (List D):=λa=>match f a,g a with
 |some<|.int i,!.int j=>if -(2^62)<=i/\i<2^62/\-(2^62)<=j/\j<2^62 then !cS i (j-i).toNat else ()
 |_,_=>()
open A in
def aX{f:Dd}(i:Gl X "range")(g:X.mg "range"=())(l:PDR X a f)(hs:starEach [a] X.env=[(false,eval a X.env)]:=by rfl):PDI X tg (.Call (.Name "range" p) [a] [] pos) (cZ f):=
 PI.imp (Aa i g (aQ l bw hs) hs) λu H R=>un7 λP F c w h I k=>by
  delta cZ at h;split at h
  .rename_i j q;split at h
   .rename_i b;cases h;exact#[P,F,c,_,q,I,λv s o m e=>#[j,by rw[dm e],b.1,b.2,k _ s o m<|pK 0 _]]
   .cases h
  .cases h
open A in
def j9{f g:Dd}(x:Gl X "range")(u:X.mg "range"=())(z:PDR X a f)(y:PDR X b g)(hs:starEach [a,b] X.env=[(false,eval a X.env),(false,eval b X.env)]:=by rfl)(h:starEach [b] X.env=[(false,eval b X.env)]:=by rfl):PDI X tg (.Call (.Name "range" p) [a,b] [] pos) (wI f g):=
 PI.imp (As x u (aQ z (aQ y bw h)<|by rw[hs,h]) hs h) λJ H R=>un7 λP F e L c I k=>by
  delta wI at c;split at c
  .rename_i i j s q;split at c
   .rename_i w;cases c;exact#[P,F,e,_,s,I,λv E M l o=>#[P,E,e,_,q,I.evo l,λK C B A m=>#[i,j,by rw[dm o,dm m],w,k _ C B (l.trans A)<|pK i _]]]
   .cases c
  .cases c
def wj:List Nat->List D->DF->Option DF
 |[],[],ρ=>!ρ
 |i::is,d::ds,ρ=>wj is ds<|ρ.set i<|!.v d
 |_,_,_=>()
def gT(is:List Nat)(d:D)(ρ:DF):Option DF:=match d with
 |.tup ds=>wj is ds ρ
 |_=>()
def sU:List Nat->TGs
 |[]=>LI
 |i::is=>Hu (k8 i)<|sU is
def lJ{Q}:∀is vs ds ρ ρ' σ,Reps K F vs ds->wj is ds ρ=!ρ'->DInv K P F H ρ σ->
  (∀a,DInv K P F H ρ' a->a.length=σ.length->(∀j,j∉is->a[j]?=σ[j]?)->Q a H)->sU is vs σ H Q
 |[],vs,ds,ρ,ρ',σ,r,hs,I,k=>by
  cases r with
  |nil=>cases hs;exact#[qx,k σ I qx λ_ _=>rfl]
  |cons _ _=>cases hs
 |i::is,vs,ds,ρ,ρ',σ,r,hs,I,k=>by
  cases r with
  |nil=>cases hs
  |cons h q=>
   exact#[_,_,qx,lJ is _ _ _ ρ' _ q hs (I.setV i h) λa f c e=>k a f (by rw[c,Zg]) λj b=>?_];rw[e j λz=>b<|Yd _ z,Zl λz=>b<|by rw[z];exact Ye]
theorem mE:∀is ds ρ ρ',wj is ds ρ=!ρ'->ds.length=is.length
 |[],[],_,_,_=>rfl
 |[],_::_,_,_,h=>by cases h
 |_::_,[],_,_,h=>by cases h
 |i::is,d::ds,ρ,ρ',h=>by rw[Yv,Yv,mE is ds _ _ h]
def jA{k}(p:X.calm)(h:PGs X es (sU is))(l:(assignEach es X.env).length=is.length:=by rfl)(c:(assignEach es X.env).findIdx? (·.1)=():=by rfl):PDG X (.Tuple es k pos) is (gT is):=
 PG.imp (CW p h l c) λv i H Q f=>by
  let#[P,F,g,d,a,e,I,r,j]:=f;cases d with
  |tup ds=>
   cases r with
   |tup h1 h2=>
    exact#[_,_,qx,SqT.of<|I.sub _ _ h1,by rw[h2.length];exact mE is ds g a e,lJ is _ ds g a i h2 e I λb q m o=>j b F H (Evo.refl I.toDHp) q m o]
  |_=>cases e
def vp(is:List Nat)(f:Dd):DF->Option RES:=λa=>(f a).bind λd=>(gT is d a).map .nx
def G2{f:Dd}(m:PDG X (.Tuple es k pos') is (gT is))(he:PDE X e f)(hs:swapsWithSole [.Tuple es k pos'] e pos.line X.env=pure false:=by rfl)(hw:swappedStores [.Tuple es k pos'] e X.env=pure ():=by rfl)(h1:(assignEach [.Tuple es k pos'] X.env).map (·.2)=[assign (.Tuple es k pos') X.env]:=by rfl):PD1 X (.Assign [.Tuple es k pos'] e pos) (vp is f):=PS.imp (Im he m hs hw h1) λE x H=>un7 λP F a r h I l=>by
 delta vp at h;cases q:f a with
 |none=>rw[q]at h;cases h
 |some d=>
  rw[q,Yb]at h;cases g:gT is d a with
  |none=>rw[g]at h;cases h
  |some c=>
   rw[g]at h;cases h;exact#[P,F,a,d,q,I,λv w y i j=>#[P,w,a,d,c,g,I.evo i,j,λb u s o p _ _=>l b u s (i.ext.trans o.ext) p]]
end
def DInv.mut(I:DInv K P F H ρ σ){o}{u}(h:ρ[i]?=!!.own o t)(L:o.flat)(p:o'.flat)(hs:σ[i]?=!!.ref a)(E:ORep1 K F o' u):DInv K P F (upd H a u) (ρ.set i<|!.own o' t) σ:=by
 let#[O,A]:=I.rep;let#[v,B,b,rfl,N,C]:=A i _ h;rw[hs]at B;cases B;let#[#[y,x,f],T,U,_]:=(ORep.flat L).mp N;exact#[#[λc w e=>by rw[az<|bc e y];exact I.sub c w e,λc w e=>by rw[az<|bc e x];exact I.pro c w e,I.dis],by rw[Zg];exact I.len,O,λj z J=>?_];rcases fj J with⟨rfl,e,X⟩|⟨m,l⟩
 .cases e;exact#[_,hs,a,qx,(ORep.flat p).mpr #[#[y,x,f],u,aD,E],C]
 .let#[w,R,s]:=A j z l;exact#[w,R,?_];cases z with
  |v d'=>exact s
  |own od t'=>(let#[c,rfl,Q,g]:=s;exact#[c,qx,Q.mono (Same.refl _) λb S q M=>#[by rwa[az λz=>by subst z;rw[q.2.2]at f;exact m (YG f).symm],q],g])
  |bor od=>exact s
def du(i:Nat)(f:Dd):DF->Option RES:=λa=>match a[i]? with
 |some (!.own (.lst ds) t)=>(f a).bind λd=>if ds.length<16777216 then !.nx (a.set i<|!.own (.lst<|ds++[d]) t) else ()
 |_=>()
def mH(I:DInv K P F H ρ σ)(q:ρ[i]?=!!.own (.lst ds) t):∃a vs,σ[i]?=!!.ref a/\F a=()/\P a=()/\H a=!.lst vs/\Reps K F vs ds:=by
 let#[v,h,a,rfl,#[#[f,e,_],u,c,b],_]:=I.at q;cases u with
 |lst vs=>exact#[a,vs,h,f,e,c,b]
 |_=>exact b.elim
def bH i{f:Dd}(h:PE X o (c7 i))(L:PDE X e f)(g:attributeBase o "append" X.env (eval o X.env)=eval o X.env:=by rfl)
  (j:((backTo cpos<|starEach [e] X.env).all (λx=>(not<|x.1))&&(backToKw cpos<|keywordEach [] X.env).all (λx=>x.1.isSome)
   && decide (([e]).length+([]:List Keyword).length+(if([]:List Keyword).isEmpty then 0 else 1)<30)):=by rfl)
  (c:(apos.endLine == cpos.line):=by rfl) (hs:starEach [e] X.env=[(false,eval e X.env)]:=by rfl) (p:swapsWith (.Call (.Attribute o "append" apos) [e] [] cpos) () pos.line X.env=pure false:=by rfl) :
  PD1 X (.Expr (.Call (.Attribute o "append" apos) [e] [] cpos) pos) (du i f):=
 PS.imp (dU (kU Zb ZN Xe f7 h (aQ L bw hs) g j c hs qx) p) λE B H=>un7 λP F s r b I k=>by
  delta du at b;split at b
  .rename_i S t q;cases m:f s with
   |none=>rw[m]at b;cases b
   |some d=>
    rw[m,Yb]at b;split at b
    .rename_i K;cases b;let#[a,w,A,M,R,z,y]:=mH I q;exact#[_,A,.inl #[rfl,w,SqL.of z],P,F,s,d,m,I,λv O T l C=>?_];let#[J,Q]:=l.keep a _ z M;let N:=I.evo l;exact#[a,w,v,qx,qx,J,by rwa[YT,y.length],k B O _ l.ext ?_];exact N.mut q qx qx A<|(y.same l.ext).append<|.one C
    .cases b
  .cases b
def ES(i:Nat):DF->Option RES:=λa=>match a[i]? with
 |some (!.own (.lst _) t)=>!.nx (a.set i<|!.own (.lst []) t)
 |_=>()
def BK i(h:PE X o (c7 i))(c:attributeBase o "clear" X.env (eval o X.env)=eval o X.env:=by rfl)(b:(apos.endLine == cpos.line):=by rfl)(f:swapsWith (.Call (.Attribute o "clear" apos) [] [] cpos) () pos.line X.env=pure false:=by rfl) :
  PD1 X (.Expr (.Call (.Attribute o "clear" apos) [] [] cpos) pos) (ES i):=
 PS.imp (dU (xL Zb Vl F.type_list_clear wT h c b) f) λE m H=>un7 λP F p r e I k=>by
  delta ES at e;split at e
  .rename_i y t q;cases e;let#[a,g,l,x,w,j,s]:=mH I q;exact#[_,l,.inl #[qx,g,SqL.of j],a,g,qx,qx,j,k m F _ (Same.refl _)<|I.mut q qx qx l .nil]
  .cases e
mutual
def ltD:D->D->Bool
 |.int i,.int j=>decide (i<j)
 |.bl a,.bl b=>(not<|a)&&b
 |.str x,.str y=>decide (x.cps.toList<y.cps.toList)
 |.tup xs,.tup ys=>d6 xs ys
 |_,_=>false
def d6:List D->List D->Bool
 |[],[]=>false
 |[],_::_=>true
 |_::_,[]=>false
 |x::xs,y::ys=>if eqd x y=true then d6 xs ys else ltD x y
end
mutual
def aH:D->D->Bool
 |.int _,.int _=>true
 |.bl _,.bl _=>true
 |.str _,.str _=>true
 |.tup xs,.tup ys=>bh xs ys
 |_,_=>false
def bh:List D->List D->Bool
 |x::xs,y::ys=>aH x y&&bh xs ys
 |_,_=>true
end
def LY i j:eqd (.int i) (.int j)=decide (i=j):=by show(i == j)=_;rfl
def opB:Bool->CmpOp
 |true=>.LtE
 |false=>.Lt
def y0{y}(h:x.cps.toList=y.cps.toList):x=y:=by
 cases x
 simp_all
def GZ x y:((not<|decide (y.cps.toList<x.cps.toList)))=(decide (x.cps.toList<y.cps.toList)||eqd (.str x) (.str y)):=by
 have e:eqd (.str x) (.str y)=decide (x=y):=by rw[VV];simp[eqd,b7,PyData.eqv]
 rw[e];by_cases h:x.cps.toList<y.cps.toList
 .have:=List.lt_asymm h;simp[h,this]
 .by_cases a:y.cps.toList<x.cps.toList
  .have:x≠y:=λz=>by subst z;exact h a
   simp[a,h,this]
  .have:x=y:=y0<|List.le_antisymm a h;subst this;simp[h]
def sK(b:Bool)(A:Around)(s:Shared)(y x:Value)(r:Bool):Prop:=
 ∀p w (E:Kv) (Q:Kv),Q (.bool r) s->wpAny (model p w) A (richCompare (opB b) y x) Q E s
abbrev M3:=sK false
def leO(b:Bool)(d e:D):Bool:=ltD d e||(b&&eqd d e)
def ij(b:Bool)(xs ys:List D):Bool:=leO b (.tup xs)<|.tup ys
def nX{b}:ij b [] []=b:=by cases b<;>rfl
def zI{b}{c}{u}:ij b [] (c::u):=by delta ij leO;rfl
def zd{b}{c}{u}:ij b (c::u) []=false:=by delta ij leO;cases b<;>rfl
def wY x y xs ys:eqd (.tup (x::xs)) (.tup (y::ys))=(eqd x y&&eqd (.tup xs) (.tup ys)):=rfl
def Cf{b}{x}{xs ys}(h:eqd x y):ij b (x::xs) (y::ys)=ij b xs ys:=by delta ij leO;rw[ltD,ltD,d6,Yl h,wY,h,Vn]
def Eg{b}{x}{xs ys}(h:eqd x y=false):ij b (x::xs) (y::ys)=ltD x y:=by delta ij leO;rw[ltD,d6,Yn<|by rw[h];exact Yk,wY,h,Va,VA,XU]
inductive LexOk (b:Bool) (A:Around) (s:Shared):List Value->List Value->List D->List D->Prop
 |nl {ws:List Value}{es:List D}:ws.length=es.length->LexOk b A s [] ws [] es
 |nr {vs:List Value}{ds:List D}:vs.length=ds.length->LexOk b A s vs [] ds []
 |cons {v w:Value}{d e:D}{vs ws:List Value}{ds es:List D}:SeqAt.EqAt A s v w (eqd d e)->(eqd d e=false->sK b A s v w (ltD d e))->LexOk b A s vs ws ds es->LexOk b A s (v::vs) (w::ws) (d::ds) (e::es)
def LexOk.len{b}{vs w}{es}(h:LexOk b A s vs w ds es):vs.length=ds.length/\w.length=es.length:=by
 induction h with
 |nl h=>exact#[qx,h]
 |nr h=>exact#[h,qx]
 |cons _ _ _ ih=>exact#[YU Nat.succ ih.1,YU Nat.succ ih.2]
section
open PySem.SeqAt
open PySem.AutoSeq1 (wpAny_loadPart')
open PySem.MeetsSeq PySem.MeetsSeq2 PySem.MeetsSeq3
def szB(b:Bool)(m n:Nat):Bool:=bif b then decide (m<=n)else decide<|m<n
def tcB:Bool->Builtin
 |true=>Builtin.«tuple.__le__»
 |false=>Builtin.«tuple.__lt__»
def km(c:Bool)(l b:Addr)(items dE:Array Value)(n n2:Nat)(dd dd2:Option Addr)(sl Z:Array (Option Value))(ds es:List D):Meets (tcB c #[[.ref l,.ref b],[]])
   (λA R s=>LexOk c A.in1 s items.toList dE.toList ds es/\s.heap.get? l=some {cls:=.type "tuple",dict:=dd,data:=.seq items n,slots:=sl}/\s.heap.get? b=some {cls:=.type "tuple",dict:=dd2,data:=.seq dE n2,slots:=Z} /\
    R (.ok (.ret (.bool (ij c ds es)))) s):=by
 cases c with
 |true=>
  exact .of_wp λp w A R s h=>by
   let#[z,g,d,m,o]:=s;let#[i,hl,hb,h]:=h;let f2:=AutoSeq1.sub_tuple_tuple;have z1:items.size=ds.length:=by rw[<-i.len.1];simp
   have z2:dE.size=es.length:=by rw[<-i.len.2];simp
   wp_walk using VW hl,VW hb,Ve _ (λcx b O=>b.1=()/\O=#[z,g,d,m,o]/\∃(N M:List Value) (f e:List D),cx=N.zip M /\
    LexOk true A.in1 #[z,g,d,m,o] N M f e/\f.length+dE.size=e.length+items.size/\R (.ok (.ret (.bool (ij true f e)))) #[z,g,d,m,o]) _
   case turn=>
    rintro⟨y,x⟩ cx b O ⟨B,rfl,N,M,f,e,j,S,a,H⟩;cases S with
    |nl _=>rw[Uk]at j;cases j
    |nr _=>rw[Ud]at j;cases j
    |@cons v w' J I Y X L K he U P=>
     rw[XR]at j;injection j with hyx hrest;injection hyx with hy hxx;subst hy hxx;simp only[Yv]at a;exact Yc (he p w _ _ ?_);cases q:eqd J I with
     |true=>
      have C:R (.ok (.ret (.bool (ij true L K)))) #[z,g,d,m,o]:=by rw[Cf q]at H;exact H
      wp_walk
      exact#[qx,qx,_,_,_,_,hrest,P,by lia,C]
     |false=>
      have C:R (.ok (.ret (.bool (ltD J I)))) #[z,g,d,m,o]:=by rw[Eg q]at H;exact H
      have T:∀(E Q:Kv),Q (.bool (ltD J I)) #[z,g,d,m,o]->wpAny (model p w) A.in1 (richCompare .LtE y x) Q E #[z,g,d,m,o]:=U q p w
      wp_walk using T
      exact#[_,qx,by simpa using C]
   case fin=>
    rintro⟨b1,b2⟩ O ⟨B,rfl,N,M,f,e,j,S,a,H⟩;simp only at B;subst B;have hv:ij true f e=szB true items.size dE.size:=by
     delta szB;cases S with
     |nl hw=>
      cases e with
      |nil=>rw[nX];simp only[YV]at a;simp;lia
      |cons c u=>rw[zI];simp only[YV,Yv]at a;simp;lia
     |nr hw=>
      cases f with
      |nil=>rw[nX];simp only[YV]at a;simp;lia
      |cons c u=>rw[zd];simp only[YV,Yv]at a;simp;lia
     |cons _ _ _=>
      rw[XR]at j;cases j
    rw[hv]at H
    wp_walk
    exact#[_,qx,by simpa[Builtin.Tuple.tupleCompareSizes,szB]using H]
   case h=>
    exact#[qx,qx,items.toList,dE.toList,ds,es,qx,i,by lia,h]
 |false=>
  exact .of_wp λp w A R s h=>by
   let#[z,g,d,m,o]:=s;let#[i,hl,hb,h]:=h;let f2:=AutoSeq1.sub_tuple_tuple;have z1:items.size=ds.length:=by rw[<-i.len.1];simp
   have z2:dE.size=es.length:=by rw[<-i.len.2];simp
   wp_walk using VW hl,VW hb,Ve _ (λcx b O=>b.1=()/\O=#[z,g,d,m,o]/\∃(N M:List Value) (f e:List D),cx=N.zip M /\
    LexOk false A.in1 #[z,g,d,m,o] N M f e/\f.length+dE.size=e.length+items.size/\R (.ok (.ret (.bool (ij false f e)))) #[z,g,d,m,o]) _
   case turn=>
    rintro⟨y,x⟩ cx b O ⟨B,rfl,N,M,f,e,j,S,a,H⟩;cases S with
    |nl _=>rw[Uk]at j;cases j
    |nr _=>rw[Ud]at j;cases j
    |@cons v w' J I Y X L K he U P=>
     rw[XR]at j;injection j with hyx hrest;injection hyx with hy hxx;subst hy hxx;simp only[Yv]at a;exact Yc (he p w _ _ ?_);cases q:eqd J I with
     |true=>
      have C:R (.ok (.ret (.bool (ij false L K)))) #[z,g,d,m,o]:=by rw[Cf q]at H;exact H
      wp_walk
      exact#[qx,qx,_,_,_,_,hrest,P,by lia,C]
     |false=>
      have C:R (.ok (.ret (.bool (ltD J I)))) #[z,g,d,m,o]:=by rw[Eg q]at H;exact H
      have T:∀(E Q:Kv),Q (.bool (ltD J I)) #[z,g,d,m,o]->wpAny (model p w) A.in1 (richCompare .Lt y x) Q E #[z,g,d,m,o]:=U q p w
      wp_walk using T
      exact#[_,qx,by simpa using C]
   case fin=>
    rintro⟨b1,b2⟩ O ⟨B,rfl,N,M,f,e,j,S,a,H⟩;simp only at B;subst B;have hv:ij false f e=szB false items.size dE.size:=by
     delta szB;cases S with
     |nl hw=>
      cases e with
      |nil=>rw[nX];simp only[YV]at a;simp;lia
      |cons c u=>rw[zI];simp only[YV,Yv]at a;simp;lia
     |nr hw=>
      cases f with
      |nil=>rw[nX];simp only[YV]at a;simp;lia
      |cons c u=>rw[zd];simp only[YV,Yv]at a;simp;lia
     |cons _ _ _=>
      rw[XR]at j;cases j
    rw[hv]at H
    wp_walk
    exact#[_,qx,by simpa[Builtin.Tuple.tupleCompareSizes,szB]using H]
   case h=>
    exact#[qx,qx,items.toList,dE.toList,ds,es,qx,i,by lia,h]
end
def Ax{c}{l b}{es}(I:IsTup s.heap l items)(J:IsTup s.heap b dE)(hx:LexOk c A.in1 s items.toList dE.toList ds es)(q:A.units<cLine):sK c A s (.ref l) (.ref b) (ij c ds es):=by
 intro p w E Q h;let#[#[K,B,C,o],j,y,n,u]:=id I;let#[#[H,i,m,e],a,g,n2,f]:=id J;simp at y u g f;subst y u g f;have z:Value.bool (ij c ds es)≠Value.notImplemented/\Q _ s:=#[(λx=>nomatch x),h]
 cases c with
 |false=>exact richCompare_meets_room #[_,j,qx] #[_,a,qx] F.slot_tuple_lt F.entry_tuple_lt (F.args_tuple_lt_2 _ _) (km false l b items dE n n2 B i o e ds es) #[hx,j,a,z] q
 |true=>exact richCompare_meets_room #[_,j,qx] #[_,a,qx] F.slot_tuple_le F.entry_tuple_le (F.args_tuple_le_2 _ _) (km true l b items dE n n2 B i o e ds es) #[hx,j,a,z] q
def kL:D->Bool
 |.tup _=>true
 |_=>false
def Rep.ltS{c:Bool}(A:Around){x y:V}{d e:D}{w:Value}(h1:Rep X.K H x d)(h2:Rep X.K H y e)(k:aH d e)(hd:kL d=false)(g:RelV x u)(f:RelV y w):sK c A s u w (leO c d e):=by
 cases d with
 |int i=>
  cases e with
  |int j=>
   cases h1;cases h2;let#[t,rfl]:=(show ∃t,u=Value.int _ t from g)
   let#[b,rfl]:=(show ∃t,w=Value.int _ t from f)
   intro p a E Q h;cases c with
   |false=>exact HT.rcLt_int A s _ _ _ _ p a E Q (by delta leO at h;rw[ltD,Va,XU]at h;exact h)
   |true=>
    exact(richCompare_gives (op:=.LtE) (typeIs_int s _ t) (typeIs_int s _ b) F.slot_int_le F.entry_int_le (F.args_int_le_2 _ _) (gives_int_le _ _ t b) (λx=>nomatch x) ?_:wpAny (model p a) A (richCompare .LtE (.int i t) (.int j b)) Q E s);rw[show decide (i<=j)=leO true (.int i) (.int j)from ?_]
    .exact h
    .delta leO;rw[ltD,LY];rcases Ul i j with z|z|z
     .simp[z,Int.le_of_lt z]
     .simp[z]
     .have:¬i<=j:=Int.not_le.mpr z;have:¬i<j:=λq=>this (Int.le_of_lt q)
      have:¬i=j:=λq=>by subst q;exact Int.lt_irrefl _ z
      simp[*]
  |_=>exact absurd k Yk
 |bl b1=>
  cases e with
  |bl b2=>
   cases h1;cases h2;cases(show u=Value.bool _ from g);cases(show w=Value.bool _ from f);intro p a E Q h;cases c with
   |false=>exact(PyProof.Rows.lt_bool (by cases b1<;>cases b2<;>exact h):wpAny (model p a) A (compareOp .Lt (.bool b1) (.bool b2)) Q E s)
   |true=>exact(PyProof.Rows.le_bool (by cases b1<;>cases b2<;>exact h):wpAny (model p a) A (compareOp .LtE (.bool b1) (.bool b2)) Q E s)
  |_=>exact absurd k Yk
 |str x1=>
  cases e with
  |str x2=>
   cases h1;cases h2;let#[t,rfl]:=(show ∃t,u=Value.str _ t from g)
   let#[b,rfl]:=(show ∃t,w=Value.str _ t from f)
   intro p a E Q h;cases c with
   |false=>exact(PyProof.Rows.lt_str (by delta leO at h;rw[ltD,Va,XU]at h;exact h):wpAny (model p a) A (compareOp .Lt (.str x1 t) (.str x2 b)) Q E s)
   |true=>
    exact(PySem.P.le_str ?_:wpAny (model p a) A (compareOp .LtE (.str x1 t) (.str x2 b)) Q E s);rw[show((not<|decide (x2.cps.toList<x1.cps.toList)))=leO true (.str x1) (.str x2)from(GZ x1 x2).trans (by delta leO;rw[ltD,Vn])];exact h
  |_=>exact absurd k Yk
 |tup xs=>cases hd
 |_=>exact absurd k Yk
theorem Reps.lex{c}(I:Inv X pz σ H s)n A(U:A.units+n+2<cLine)
  (ih:∀{x y}{d e}{u w},Rep X.K H x d->Rep X.K H y e->okN n d->okN n e->aH d e->RelV x u->RelV y w->sK c A s u w (leO c d e)) :
  ∀{xs ys}{ds es}{us a},Reps X.K H xs ds->Reps X.K H ys es->(∀d∈ds,okN n d)->(∀d∈es,okN n d)->bh ds es->Vals xs us->Vals ys a->LexOk c A s us a ds es:=by
 intro xs ys ds;induction ds generalizing xs ys with
 |nil=>
  intro es us a i g _ _ _ f b;cases i;cases f;exact .nl<|by rw[<-b.length,g.length]
 |cons d ds j=>
  intro es us a i g C B k f b;cases es with
  |nil=>
   cases g;cases b;exact .nr<|by rw[<-f.length,i.length]
  |cons e es=>
   cases i with
   |cons h q=>
    cases g with
    |cons E L=>
     cases f with
     |cons r t=>
      cases b with
      |cons p J=>
       rw[bh,Yr]at k;let o:=C _ Ye;let m:=B _ Ye;let#[S,N]:=h.reads I n o r;let#[R,M]:=E.reads I n m p;let#[Q,O]:=cU n _ o;let#[P,T]:=cU n _ m;exact .cons (Vv _ _ A s _ _ _ _ N M Q P ?_) (λz=>by have:=ih h E o m k.1 r p;delta leO at this;rwa[z,VA,XU]at this)<|j q L (λd l=>C d<|Yd _ l) (λd l=>B d<|Yd _ l) k.2 t J;lia
theorem Rep.le{c}(I:Inv X pz σ H s):∀n A,A.units+n+2<cLine->∀{x y}{d e}{u w},Rep X.K H x d->Rep X.K H y e->okN n d->okN n e->aH d e->RelV x u->RelV y w->sK c A s u w (leO c d e):=by
 intro n;induction n with
 |zero=>
  intro A E x y d e u w a h o q k g f;exact a.ltS A h k ?_ g f;cases d<;>first|rfl|(simp[okN]at o)
 |succ n l=>
  intro A E x y d e u w a h o q k g f;cases C:kL d with
  |false=>exact a.ltS A h k C g f
  |true=>
   cases d with
   |tup ds=>
    cases e with
    |tup es=>
     cases a with
     |tup a q1=>
      cases h with
      |tup h q2=>
       cases(show u=Value.ref _ from g);cases(show w=Value.ref _ from f);let#[B,j,p,_]:=I.tuple<|SqT.of a;let#[z,i,m,_]:=I.tuple<|SqT.of h;have b:A.in1.units+n+2<cLine:=by show A.units+1+n+2<cLine;lia
       exact Ax p m (Reps.lex I n A.in1 b (l A.in1 b) q1 q2 (cu o) (cu q) (by rwa[aH]at k) j i)<|by lia
    |_=>exact absurd k Yk
   |_=>cases C
def Rep.lt(I:Inv X pz σ H s)n A(h:A.units+n+2<cLine){x y}{d e}{w}(h1:Rep X.K H x d)(h2:Rep X.K H y e)(f:okN n d)(o:okN n e)(k:aH d e)(b:RelV x u)(a:RelV y w):M3 A s u w (ltD d e):=by have:=Rep.le (c:=false) I n A h h1 h2 f o k b a;delta leO at this;rwa[Va,XU]at this
def ltd(x y:D):Option D:=if(okN 30 x&&okN 30 y&&aH x y) then !.bl (ltD x y) else ()
def KQ(K:Kq):R2:=λx y H Q=>∃b a,Rep K H x b/\Rep K H y a/\okN 30 b/\okN 30 a/\aH b a/\Q (.bl<|ltD b a) H
section
variable{a:Expr}
def IE(j:X.A.units+64<cLine):OpR X (compareOp .Lt) (KQ X.K):=by intro p s i H x y v u Q I b a h;let#[m,l,g,f,e,o,c,q]:=h;exact Rep.lt I 30 X.A (by lia) g f e o c b a X.prog X.w X.xe _ #[.bl _,H,I,qx,q]
def IA:OpN2 K (KQ K) ltd:=by
 intro P F H x y g f d Q a e c b k;delta ltd at a;split at a
 .rename_i h;rw[Yr,Yr]at h;cases a;exact#[g,f,c,b,h.1.1,h.1.2,h.2,k _ F H (Evo.refl e) .bl]
 .cases a
def lY(h:X.A.units+64<cLine)(e:PDN X a fa)(c:PDN X b fb):PDT X (.Compare a [.Lt] [b] pos) (asB (d2 ltd fa fb)):=n9 (IE h) IA e c<|jd _
def led(x y:D):Option D:=if(okN 30 x&&okN 30 y&&aH x y) then !.bl (leO true x y) else ()
end
open PySem.W
def kok(n:Nat)(lt:Nat->Nat->Bool):KasT α->(α->Prop)->Prop
 |.ret a,Q=>Q a
 |.ask i j k,Q=>i<n/\j<n/\kok n lt (k<|lt i j) Q
def jw{α b}{f}{Q:b->Prop}(t:KasT α):kok n lt t (λa=>kok n lt (f a) Q)->kok n lt (t.bind f) Q:=by
 induction t with
 |ret a=>exact λh=>h
 |ask i j k ih=>exact λh=>#[h.1,h.2.1,ih _ h.2.2]
def eK{Q b}(c:∀a,Q a->b a)(t:KasT α):kok n lt t Q->kok n lt t b:=by
 induction t with
 |ret a=>exact c a
 |ask i j k ih=>exact λh=>#[h.1,h.2.1,ih _ h.2.2]
def HE{c}{Q}{G}(b:∀i j C,i<n->j<n->C (lt i j) s->c i j C s)(e:∀a,Q a->G a s)(t:KasT α):kok n lt t Q->t.kasWp c G s:=by
 induction t with
 |ret a=>exact e a
 |ask i j k ih=>exact λh=>b i j _ h.1 h.2.1<|ih _ h.2.2
structure Ord (lt:Nat->Nat->Bool):Prop where
 asym:∀i j,lt i j=true->lt j i=false
 trans:∀i j k,lt j i=false->lt k j=false->lt k i=false
section
variable{n:Nat}{lt:Nat->Nat->Bool}
structure PermN (n:Nat) (p:Array Nat):Prop where
 size:p.size=n
 perm:p.toList.Perm (List.range n)
def PermN.bd{p}(h:PermN n p)(hi:i<n):p.getD i 0<n:=by
 have a:i<p.size:=by rwa[h.size]
 have e:p.getD i 0=p[i]:=by simp[a]
 rw[e];have b:p[i]∈p.toList:=by simp
 exact Zf.mp<|h.perm.mem_iff.mp b
def PermN.rev{p}(h:PermN n p)i j:PermN n (kas_rev p i j):=
 #[by delta kas_rev;rw[mirror_size,h.size],((Array.perm_iff_toList_perm.mp<|mirror_perm _ _ _ _).trans h.perm)]
def PermN.bub{p}(h:PermN n p)i j:PermN n (bubble p i j):=
 #[by rw[bubble_size,h.size],((Array.perm_iff_toList_perm.mp<|bubble_perm _ _ _).trans h.perm)]
def kW{p q:Array Nat}(h:p[i]?=q[j]?):p.getD i 0=q.getD j 0:=by simp[h]
def gK{p}(h:PermN n p)(a:j<=n)k:(kas_rev p i j).getD k 0=if i<=k/\k<j then p.getD (i+j-1-k) 0 else p.getD k 0:=by
 let e:=getElem?_mirror_all (i:=i) (by rwa[h.size]) k;split
 .rename_i q;rw[Yl q]at e;exact kW e
 .rename_i q;rw[Yn q]at e;exact kW e
def Ris(lt:Nat->Nat->Bool)(p:Array Nat)(b:Nat):Prop:=∀i j,i<=j->j<b->lt (p.getD j 0) (p.getD i 0)=false
def Fal(lt:Nat->Nat->Bool)(p:Array Nat)(b:Nat):Prop:=∀i j,i<=j->j<b->lt (p.getD i 0) (p.getD j 0)=false
def Eqs(lt:Nat->Nat->Bool)(p:Array Nat)(a b:Nat):Prop:=∀i j,a<=i->i<b->a<=j->j<b->lt (p.getD i 0) (p.getD j 0)=false
def Ord.irr(o:Ord lt)i:lt i i=false:=by
 cases q:lt i i with
 |false=>rfl
 |true=>have:=o.asym i i q;rw[q]at this;cases this
theorem nN{a b}(h:a<=i/\i<b):a<=a+b-1-i/\a+b-1-i<b:=by lia
def Dj(o:Ord lt){p}(w:PermN n p):∀f k,1<=k->k+f<=n->Ris lt p k->kok n lt (kas_asc p f k) (λm=>k<=m/\m<=k+f/\Ris lt p m/\(m=k+f\/lt (p.getD m 0) (p.getD (m-1) 0))):=by
 intro f;induction f with
 |zero=>exact λk v v a=>#[Yp _,Yp _,a,.inl qx]
 |succ f ih=>
  intro k z x a;let s:=Yx (Vo<|VF f) x;let u:=Ut z Nat.one_pos;let q:=Vp k 1 f;exact#[w.bd s,w.bd<|ZU u s,?_];cases c:lt _ (p.getD (k-1) 0)with
  |true=>
   (try dsimp only)
   exact#[Yp _,Vf _ _,a,.inr c]
  |false=>
   (try dsimp only)
   exact eK (λm h=>#[XW h.1,YA h.2.1<|Xb q,h.2.2.1,h.2.2.2.imp (λe=>e.trans q) id]) _<|ih (k+1) (ZL 1 k) (YA (Xb q) x) λi j l y=>?_;by_cases b:j<k
   .exact a i j l b
   .have:j=k:=ZD (Zt y)<|ZV b;subst this;by_cases g:i=j
    .subst g;exact o.irr _
    .exact o.trans _ _ _ (a i (j-1) (Xx<|ZH l g) u) c
def zE{p}(l:PermN n p){a b}(q:b<=n)(he:Eqs lt p a b)(o:Ord lt)(m:Fal lt p b):Fal lt (kas_rev p a b) b:=by
 intro i j c f;rw[gK l q,gK l q];by_cases e:a<=i/\i<b
 .rw[Yl e];have h:a<=j/\j<b:=#[YA e.1 c,f]
  rw[Yl h];exact he _ _ (nN e).1 (nN e).2 (nN h).1 (nN h).2
 .rw[Yn e];let g:=Nat.lt_of_not_le λz=>e #[z,ZI c f]
  by_cases h:a<=j/\j<b
  .rw[Yl h];exact m _ _ (YA (ZG g) (nN h).1) (nN h).2
  .rw[Yn h];exact m i j c f
def qy(o:Ord lt){p'}(h1:1<=k)(c:Fal lt p' k)(f:lt (p'.getD (k-1) 0) (p'.getD k 0)=false):Fal lt p' (k+1):=by
 intro i j b e;by_cases h:j<k
 .exact c i j b h
 .have:j=k:=ZD (Zt e)<|ZV h;subst this;by_cases a:i=j
  .subst a;exact o.irr _
  .exact o.trans _ _ _ f<|c i (j-1) (Xx<|ZH b a)<|Ut h1 Nat.one_pos
def u4(o:Ord lt)p' k:Eqs lt p' (k+1-(0+1)) (k+1):=by intro i j g f c b;let a:=ZD (Zt f) g;let e:=ZD (Zt b) c;subst a;subst e;exact o.irr _
def BX(o:Ord lt){p}{k q}(a:k-(q+1)<=k-1/\k-1<k)(he:Eqs lt p (k-(q+1)) k)(c:lt (p.getD k 0) (p.getD (k-1) 0)=false)(d:lt (p.getD (k-1) 0) (p.getD k 0)=false):Eqs lt p (k+1-(q+1+1)) (k+1):=by
 have e:∀i,k+1-(q+1+1)<=i->i<k+1->lt (p.getD i 0) _=false/\lt _ (p.getD i 0)=false:=λi b1 b2=>by
  rw[Nat.add_sub_add_right]at b1;by_cases h:i=k
  .subst h;exact#[o.irr _,o.irr _]
  .let b:=ZH (Zt b2) h;exact#[o.trans _ _ _ d<|he i (k-1) b1 b a.1 a.2,o.trans _ _ _ (he (k-1) i a.1 a.2 b1 b) c]
 exact λi j m l g f=>o.trans _ _ _ (e j g f).2 (e i m l).1
def GF(o:Ord lt):∀f p k q,PermN n p->1<=k->k+f<=n->q+1<=k->Fal lt p k->Eqs lt p (k-(q+1)) k->
  kok n lt (kas_desc f p k q) (λr=>PermN n r.1/\k<=r.2.1/\r.2.1<=n/\r.2.2+1<=r.2.1/\Fal lt r.1 r.2.1/\Eqs lt r.1 (r.2.1-(r.2.2+1)) r.2.1):=by
 intro f;induction f with
 |zero=>exact λp k q a m u s g i=>#[a,Yp _,u,s,g,i]
 |succ f ih=>
  intro p k q a m u s g i;let b:=Yx (Vo<|VF f) u;let w:=Ut m Nat.one_pos;let e:=YA (Xb<|Vp k 1 f) u;have j:k-(q+1)<=k-1/\k-1<k:=#[Nat.sub_le_sub_left (VJ<|YN q) k,w]
  exact#[a.bd b,a.bd<|ZU w b,?_];cases c:lt _ (p.getD (k-1) 0)with
  |true=>
   (try dsimp only)
   let A:=o.asym _ _ c;by_cases l:q > 0
   .rw[Yl l];let x:=zE a (ZG b) i o g;have y:lt ((kas_rev p (k-(q+1)) k).getD (k-1) 0) ((kas_rev p (k-(q+1)) k).getD k 0)=false:=by rw[gK a<|ZG b,gK a<|ZG b,Yl j,Yn λz=>Ze _ z.2];exact o.trans _ _ _ A<|i _ _ (nN j).1 (nN j).2 j.1 j.2
    exact eK (λr h=>#[h.1,XW h.2.1,h.2.2]) _<|ih _ (k+1) 0 (a.rev _ _) (ZL 1 k) e (ZL 1 k) (qy o m x y)<|u4 o _ k
   .rw[Yn l];exact eK (λr h=>#[h.1,XW h.2.1,h.2.2]) _<|ih _ (k+1) 0 a (ZL 1 k) e (ZL 1 k) (qy o m g A)<|u4 o _ k
  |false=>
   (try dsimp only)
   exact#[a.bd<|ZU w b,a.bd b,?_];cases d:lt _ (p.getD k 0)with
   |true=>
    (try dsimp only)
    exact#[a,Yp _,ZG b,s,g,i]
   |false=>
    (try dsimp only)
    exact eK (λr h=>#[h.1,XW h.2.1,h.2.2]) _<|ih p (k+1) (q+1) a (ZL 1 k) e (VJ s) (qy o m g d)<|BX o j i c d
def ED{p}(a:PermN n p){b}(f:b<=n)(g:Fal lt p b):Ris lt (kas_rev p 0 b) b:=by
 intro i j h c;have e:0<=i/\i<b:=#[YN _,ZI h c]
 rw[gK a f,gK a f,Yl #[YN _,c],Yl e];exact g _ _ (Nat.sub_le_sub_left h _) (nN e).2
def vV(o:Ord lt){p}(a:PermN n p)(h1:1<=k)(b:k<=n)(c:Fal lt p k):kok n lt (kas_tail3 k n p) (λr=>1<=r.1/\r.1<=n/\PermN n r.2/\Ris lt r.2 r.1):=by delta kas_tail3;let e:=Xb<|Vh b;exact jw _<|eK (λm h=>#[YA h1 h.1,YA h.2.1 e,a.rev _ _,h.2.2.1]) _<|Dj o (a.rev 0 k) (n-k) k h1 e<|ED a b c
def mY(o:Ord lt){p}(g:PermN n p)(h1:1<=k)(i:k<n)(j:Fal lt p (k+1)):kok n lt (kas_descPart k n p) (λr=>1<=r.1/\r.1<=n/\PermN n r.2/\Ris lt r.2 r.1):=by
 delta kas_descPart;exact jw _<|eK ?_ _<|GF o _ p (k+1) 0 g (ZL 1 k) (Xb<|Vh i) (ZL 1 k) j<|u4 o p k;intro r h;let#[c,m,b,q,f,l]:=h;let a:=YA (ZL 1 k) m;by_cases e:r.2.2 > 0
 .rw[Yl e];exact vV o (c.rev _ _) a b<|zE c b l o f
 .rw[Yn e];exact vV o c a b f
def Cm(o:Ord lt){p}(f:PermN n p)(L:1<=n):kok n lt (kas_count n p) (λr=>1<=r.1/\r.1<=n/\PermN n r.2/\Ris lt r.2 r.1):=by
 let H:=Vh L;exact jw _<|eK (λk C=>?_) _ (Dj o f (n-1) 1 (Yp _) (Xb H) λi j a l=>by
  let I:=Nat.lt_one_iff.mp l;subst I;let J:=Nat.le_zero.mp a;subst J;exact o.irr _)
 let#[s,m,w,P]:=C;let m:=YA m<|Xb H;by_cases B:(k == n)
 .rw[Yl B];exact#[s,m,f,w]
 .rw[Yn B];have q:k≠n:=by simpa using B
  let x:=ZH m q;let y:=Ut s Nat.one_pos;have A:lt (p.getD k 0) (p.getD (k-1) 0):=by
   rcases P with e|e
   .exact absurd (e.trans H) q
   .exact e
  let M:=o.asym _ _ A;by_cases E:k > 1
  .rw[Yl E];exact#[f.bd<|Yx Nat.one_pos L,f.bd<|ZU y x,?_];cases c:lt _ (p.getD (k-1) 0)with
   |true=>
    (try dsimp only)
    exact#[s,m,f,w]
   |false=>
    (try dsimp only)
    let b:=λi j u l=>
     o.trans _ _ _ (o.trans _ _ _ (w j (k-1) (Xx l) y) c)<|w 0 i (YN _) u
    exact mY o (f.rev _ _) s x λi j a l=>?_;rw[gK f m,gK f m];by_cases g:j<k
    .have u:0<=i/\i<k:=#[YN _,ZI a g]
     rw[Yl u,Yl #[YN _,g]];exact b _ _ (nN u).2 (nN #[YN _,g]).2
    .let O:=ZD (Zt l)<|ZV g;subst O;rw[Yn (λz:0<=j/\j<j=>Ze _ z.2)];by_cases h:i<j
     .rw[Yl #[YN _,h]];exact o.trans _ _ _ M<|b _ _ (nN #[YN _,h]).2 y
     .rw[Yn λz=>h z.2];have:i=j:=ZD a<|ZV h;subst this;exact o.irr _
  .rw[Yn E];let N:=ZD (ZV E) s;subst N;exact mY o f (Yp _) x λi j a l=>?_;by_cases h:i=j
   .subst h;exact o.irr _
   .let K:=ZH a h;let I:=ZD (Zt l)<|ZI (YN i) K;subst I;let J:=Nat.lt_one_iff.mp K;subst J;exact M
theorem p_(o:Ord lt){p}(w:PermN n p){k}(x:k<n)(u:Ris lt p k):∀f l r,l<=r->r<=k->r-l<=f->(∀i,i<l->lt (p.getD k 0) (p.getD i 0)=false)->(∀i,r<=i->i<k->lt (p.getD k 0) (p.getD i 0))->
  kok n lt (kas_place p k f l r) (λm=>m<=k/\(∀i,i<m->lt (p.getD k 0) (p.getD i 0)=false)/\∀i,m<=i->i<k->lt (p.getD k 0) (p.getD i 0)):=by
 intro f;induction f with
 |zero=>
  intro l r y h A g b;let e:=ZD y<|Nat.le_of_sub_eq_zero<|Nat.le_zero.mp A;subst e;exact#[h,g,b]
 |succ f ih=>
  intro l r y h A g b;delta kas_place;by_cases a:l ≥ r
  .rw[Yl a];let e:=ZD y a;subst e;exact#[h,g,b]
  .rw[Yn a];have s:l<=(l+r)/2/\(l+r)/2<r/\(l+r)/2-l<=f/\r-((l+r)/2+1)<=f:=by clear g b u w ih h x;lia
   let#[E,j,C,B]:=s;exact#[w.bd x,w.bd<|ZU (Yx j h) x,?_];cases c:lt _ (p.getD _ 0)with
   |true=>
    (try dsimp only)
    exact ih l _ E (YA (ZG j) h) C g λi z H=>?_;cases q:lt _ (p.getD i 0)with
    |true=>rfl
    |false=>
     have:=o.trans _ _ _ (u _ i z H) q;rw[c]at this;cases this
   |false=>
    (try dsimp only)
    exact ih _ r j h B (λi z=>o.trans _ _ _ (u i _ (Zt z)<|Yx j h) c) b
def zJ{p}(b:PermN n p){k l}(f:k<n)(c:l<=k)i:(bubble p k (k-l)).getD i 0=if i=l then p.getD k 0 else if l<i/\i<=k then p.getD (i-1) 0 else p.getD i 0:=by
 let e:=getElem?_bubble (by rwa[b.size]) (k-l) (Nat.sub_le _ _) i;rw[Nat.sub_sub_self c]at e;by_cases a:i=l
 .rw[Yl a]at e ⊢;exact kW e
 .rw[Yn a]at e ⊢;by_cases h:l<i/\i<=k
  .rw[Yl h]at e ⊢;exact kW e
  .rw[Yn h]at e ⊢;exact kW e
def Fz(o:Ord lt){p}(w:PermN n p){k l}(s:k<n)(q:Ris lt p k)(a1:l<=k)(y:∀i,i<l->lt (p.getD k 0) (p.getD i 0)=false)(a3:∀i,l<=i->i<k->lt (p.getD k 0) (p.getD i 0)):Ris lt (bubble p k (k-l)) (k+1):=by
 intro i j h x;let b:=Zt x;let m:=λz=>Yx (Ut (ZI (YN l) z) Nat.one_pos) b
 rw[zJ w s a1,zJ w s a1];by_cases f:i=l
 .rw[Yl f];by_cases e:j=l
  .rw[Yl e];exact o.irr _
  .let a:=ZH (f ▸ h)<|XE e;rw[Yn e,Yl #[a,b]];exact o.asym _ _<|a3 (j-1) (Xx a)<|m a
 .rw[Yn f];by_cases e:j=l
  .let u:=e ▸ h;rw[Yl e,Yn λz=>Ze _<|Yx z.1 u];exact y i<|ZH u f
  .rw[Yn e];by_cases g:l<i/\i<=k
   .let a:=Yx g.1 h;rw[Yl g,Yl #[a,b]];exact q _ _ (Nat.sub_le_sub_right h 1)<|m a
   .rw[Yn g];by_cases c:l<j/\j<=k
    .rw[Yl c];exact q _ _ (Xx<|ZI (ZV λz=>g #[z,YA h b]) c.1)<|m c.1
    .rw[Yn c];exact q _ _ h<|Yx (ZH (ZV λz=>c #[z,b]) e) a1
def Jh(o:Ord lt):∀f p k,PermN n p->k+f=n->Ris lt p k->kok n lt (kas_bin f p k) (λr=>PermN n r/\Ris lt r n):=by
 intro f;induction f with
 |zero=>exact λp k h b a=>#[h,by rwa[<-b]]
 |succ f ih=>
  intro p k h b a;let e:=b ▸ Vo<|VF f;exact jw _<|eK (λl c=>?_) _<|p_ o h e a k 0 k (YN _) (Yp _) (Yp _) (λi g=>absurd g<|Nat.not_lt_zero _) λi m j=>absurd j<|Nat.not_lt_of_le m;let#[u,s,q]:=c;exact ih _ (k+1) (h.bub _ _) ((Vp k 1 f).trans b)<|Fz o h e a u s q
def o8 n:PermN n (List.toArray (List.range n)):=#[by simp,by simp]
def vD(o:Ord lt)(g:1<=n):kok n lt (kas_sort n) (λr=>PermN n r/\Ris lt r n):=by
 exact jw _<|eK (λr a=>?_) _<|Cm o (o8 n) g;let#[i,f,c,b]:=a;by_cases h:r.1<n
 .rw[Yl h];let e:=Nat.max_eq_left i;rw[e];exact Jh o _ _ _ c (Vh f) b
 .rw[Yn h];let e:=ZD f<|ZV h;rw[e]at b;exact#[c,b]
end
def mR(vs:List Value)(p:Array Nat):Array Value:=(p.toList.map λi=>vs.getD i Value.none).toArray
def Af vs(h:vs.length<2):mR vs (List.toArray (List.range vs.length))=(vs.toArray.zip vs.toArray).map (·.2):=by
 cases vs with
 |nil=>simp[mR]
 |cons v r=>
  cases r with
  |nil=>simp[mR,List.range,List.range.loop]
  |cons _ _=>simp at h;lia
def qX{vs}{P}(B:s.heap.get? a=!(seqObj "list" vs.toArray n))(h64:vs.length<64)κ lt(o:Ord lt)
  (N:2<=vs.length->∀h',(∀b u,b≠a->s.heap.get? b=!u->h'.get? b=!u)->∀Q:SortKind->Shared->Prop,Q κ {s with heap:=h' }->wpAny (model prog w) A (keyKind' vs.toArray) Q E {s with heap:=h' })
  (S:∀h',(∀b u,b≠a->s.heap.get? b=!u->h'.get? b=!u)->∀i j C,i<vs.length->j<vs.length->C (lt i j) {s with heap:=h' }->kas_ask prog w A κ vs i j C {s with heap:=h' })
  (h:∀p,PermN vs.length p->Ris lt p vs.length->P (.done<|.ret .none) {s with heap:=sortedHeap s.heap a vs<|mR vs p}) :
  wpAny (model prog w) A (Builtin.«list.sort» #[[.ref a],[]]) P E s:=by
 rw[list_sort_plain];have K:=Yw B;exact Yc<|listItems_at B qx ?_;exact Yc<|listUpdate_at B qx ?_ (by rw[Yy,YT];lia)<|YN _;obtain⟨z,m⟩:∃z,(s.heap.update a _).get? a=some (seqObj "list" #[[]] z):=#[_,get?_update_seq B λ_=>#[[]]]
 exact Yc<|seqEpoch_at m qx ?_;exact Yc<|wpAny_newTuple ?_ (by show vs.length<=_;rw[YT];lia);exact Yc<|wpAny_newList ?_<|YN _;exact Xa ?_;have f:(((s.heap.update a<|Obj.mapSeq λ_=>(#[[]])).push<|seqObj "tuple" vs.toArray 0).push<|seqObj "list" #[[]] 0).get? a=!(seqObj "list" #[[]] z):=by rwa[XX _ _ _<|by rw[size_push',VM];exact Yz<|ZO K,XX _ _ _<|by rw[VM];exact Yz K]
 have kept:∀b u,b≠a->s.heap.get? b=!u->(((s.heap.update a<|Obj.mapSeq λ_=>(#[[]])).push<|seqObj "tuple" vs.toArray 0).push<|seqObj "list" #[[]] 0).get? b=!u:=λb u T e=>by
  have x:=Yw e;rwa[XX _ _ _<|by rw[size_push',VM];exact Yz<|ZO x,XX _ _ _<|by rw[VM];exact Yz x,ZY _ _ _ _ T]
 dsimp only;have L:vs.toArray.size=vs.length:=by simp
 by_cases H:vs.toArray.size<2
 .rw[Yl H,Yl H];exact Yc<|Yj ?_;rw[StateT.run_pure];exact Yc<|Yj ?_;dsimp only;exact Yc<|seqEpoch_at f qx ?_;exact Yc<|listUpdate_at f qx ?_ (YN _) (by rw[Array.size_map];show(pairsOf vs).size<=_;rw[pairsOf_size,YT];lia);simp only[bne_self_eq_false,ZQ,XV];let q:=h _ (o8 _) (λi j O Y=>by
   have z:i=j:=by lia
   subst z;exact o.irr _)
  have e:mR vs (List.toArray<|List.range vs.length)=(vs.toArray.zip vs.toArray).map (·.2):=by exact Af vs<|by lia
  rw[e]at q;exact Yj q
 .rw[Yn H,Yn H];have y:2<=vs.length:=by lia
  exact Yc<|N y _ kept _ ?_;exact Yc<|ZR (kat_run (Q:=λc g=>g={s with heap:=((s.heap.update a _).push _).push _}/\∃p:Array Nat,PermN vs.length p/\Ris lt p vs.length/\arrOf c=p.map _/\failedOf c=())
   (G:=λp g=>g={s with heap:=((s.heap.update a _).push _).push _}/\PermN vs.length p/\Ris lt p vs.length)
   rfl y h64 (λp c g Z X U #[b1,b2,b3]=>#[b1,p,b2,b3,X,U])<|HE (S _ kept) (λp #[b2,b3]=>#[qx,b2,b3]) _<|vD o<|by lia) ?_ λ_ _ e=>e
  rintro⟨⟨⟩,c⟩ g ⟨rfl,p,J,M,I,R⟩;dsimp only;let l:=kat_snds qx I;rw[l];exact Yc<|seqEpoch_at f qx ?_;exact Yc<|listUpdate_at f qx ?_ (YN _) (by rw[Yy,Ya,Zr,J.size,YT];lia);rw[R];simp[bne_self_eq_false,ZQ,XV];exact Yj<|h p J M
mutual
theorem c6:∀x y:D,aH x y=true->(eqd x y=true↔x=y)
 |.tup xs,y,h=>by
  cases y with
  |tup ys=>have:=kC xs ys (by simpa[aH]using h);simp only[eqd,b7,PyData.eqv,D.tup.injEq];exact this
  |_=>simp[aH]at h
 |.int _,y,h=>by cases y<;>first|(simp[aH]at h;done)|simp[eqd,b7,PyData.eqv]
 |.bl _,y,h=>by cases y<;>first|(simp[aH]at h;done)|simp[eqd,b7,PyData.eqv]
 |.str _,y,h=>by cases y<;>first|(simp[aH]at h;done)|simp[eqd,b7,PyData.eqv]
 |.non,y,h=>by cases y<;>simp[aH]at h
 |.lst _,y,h=>by cases y<;>simp[aH]at h
 |.dT _,y,h=>by cases y<;>simp[aH]at h
 |.dK _,y,h=>by cases y<;>simp[aH]at h
 |.ins _ _,y,h=>by cases y<;>simp[aH]at h
 |.fn _ _ _,y,h=>by cases y<;>simp[aH]at h
theorem kC:∀xs ys:List D,bh xs ys=true->(PyData.eqvAll (c5 xs) (c5 ys)=true↔xs=ys)
 |[],ys,_=>by cases ys<;>simp[c5,PyData.eqvAll]
 |x::xs,ys,h=>by
  cases ys with
  |nil=>simp[c5,PyData.eqvAll]
  |cons y ys=>rw[bh,Yr]at h;let a:=c6 x y h.1;let b:=kC xs ys h.2;simp only[c5,PyData.eqvAll,Yr,List.cons.injEq];rw[b];delta eqd at a;rw[a]
end
structure Fc2 {α:Type} (l:α->α->Bool) (x y:α):Prop where
 as:l x y=true->l y x=false
 an:l x y=false->l y x=false->x=y
def Fc3{α:Type}(l:α->α->Bool)(x y z:α):Prop:=l x y->l y z->l x z
def bB{x}(h:aH x y):(∃i j,x=.int i/\y=.int j)\/(∃i j,x=.bl i/\y=.bl j)\/(∃i j,x=.str i/\y=.str j)\/∃i j,x=.tup i/\y=.tup j/\bh i j:=by
 cases x with
 |int i=>
  exact .inl ?_;cases y with
  |int j=>exact#[_,_,qx,qx]
  |_=>exact absurd h Yk
 |bl i=>
  exact .inr<|.inl ?_;cases y with
  |bl j=>exact#[_,_,qx,qx]
  |_=>exact absurd h Yk
 |str i=>
  exact .inr<|.inr<|.inl ?_;cases y with
  |str j=>exact#[_,_,qx,qx]
  |_=>exact absurd h Yk
 |tup i=>
  exact .inr<|.inr<|.inr ?_;cases y with
  |tup j=>exact#[_,_,qx,qx,h]
  |_=>exact absurd h Yk
 |_=>exact absurd h Yk
theorem AA{a b:List Nat}(h:a<b):¬b<a:=by grind
theorem kN{x}(h1:aH x y)(b:kL x=false):Fc2 ltD x y:=by
 rcases bB h1 with⟨i,j,rfl,rfl⟩|⟨i,j,rfl,rfl⟩|⟨i,j,rfl,rfl⟩|⟨i,j,rfl,rfl,_⟩
 .exact#[λh=>?_,λh a=>?_]
  .simp[ltD]at h ⊢;lia
  .simp[ltD]at h a;rw[show i=j by lia]
 .exact#[λh=>?_,λh a=>?_]
  .cases i<;>simp_all [ltD]
  .cases i<;>simp_all [ltD]
 .exact#[λh=>?_,λh a=>?_]
  .simp[ltD]at h ⊢;exact AA h
  .simp[ltD]at h a;rw[y0<|List.le_antisymm a h]
 .cases b
theorem kt{x}(h1:aH x y)(h2:aH y z)(c:kL x=false):Fc3 ltD x y z:=by
 rcases bB h1 with⟨i,j,rfl,rfl⟩|⟨i,j,rfl,rfl⟩|⟨i,j,rfl,rfl⟩|⟨i,j,rfl,rfl,_⟩
 .rcases bB h2 with⟨a,k,e,rfl⟩|⟨a,k,e,rfl⟩|⟨a,k,e,rfl⟩|⟨a,k,e,rfl,_⟩<;>cases e;intro h b;simp[ltD]at h b ⊢;lia
 .rcases bB h2 with⟨a,k,e,rfl⟩|⟨a,k,e,rfl⟩|⟨a,k,e,rfl⟩|⟨a,k,e,rfl,_⟩<;>cases e;intro h b;cases i<;>simp_all [ltD]
 .rcases bB h2 with⟨a,k,e,rfl⟩|⟨a,k,e,rfl⟩|⟨a,k,e,rfl⟩|⟨a,k,e,rfl,_⟩<;>cases e;intro h b;simp[ltD]at h b ⊢;exact List.lt_trans h b
 .cases c
def Bp n:∀x y:D,okN n x->aH x y->aH y x:=by
 induction n with
 |zero=>
  intro x y o h;rcases bB h with⟨i,j,rfl,rfl⟩|⟨i,j,rfl,rfl⟩|⟨i,j,rfl,rfl⟩|⟨i,j,rfl,rfl,_⟩
  .rfl
  .rfl
  .rfl
  .simp[okN]at o
 |succ n ih=>
  intro x y o h;rcases bB h with⟨i,j,rfl,rfl⟩|⟨i,j,rfl,rfl⟩|⟨i,j,rfl,rfl⟩|⟨i,j,rfl,rfl,c⟩
  .rfl
  .rfl
  .rfl
  .have key:∀b a,(∀d∈b,okN n d)->bh b a->bh a b:=by
    intro b;induction b with
    |nil=>intro a _ _;cases a<;>simp[bh]
    |cons x b e=>
     intro a f c;cases a with
     |nil=>simp[bh]
     |cons y a=>
      rw[bh,Yr]at c ⊢;exact#[ih x y (f x Ye) c.1,e a (λd g=>f d<|Yd _ g) c.2]
   exact key i j (cu o) c
def EC(ih:∀x y:D,okN n x->okN n y->aH x y->Fc2 ltD x y):∀xs ys,(∀d∈xs,okN n d)->(∀d∈ys,okN n d)->bh xs ys->Fc2 d6 xs ys:=by
 intro xs;induction xs with
 |nil=>
  intro ys _ _ _;exact#[λh=>?_,λh c=>?_]
  .cases ys<;>simp_all [d6]
  .cases ys<;>simp_all [d6]
 |cons x xs i=>
  intro ys ox o f;cases ys with
  |nil=>
   exact#[λh=>?_,λh c=>?_]
   .simp[d6]at h
   .simp[d6]at c
  |cons y ys=>
   rw[bh,Yr]at f;let p:=ox x Ye;let j:=o y Ye;let b:=c6 x y f.1;let e:=c6 y x<|Bp n x y p f.1;let G:=i ys (λd g=>ox d<|Yd _ g) (λd g=>o d<|Yd _ g) f.2;exact#[λh=>?_,λh c=>?_]
   .rw[d6]at h ⊢;by_cases a:x=y
    .rw[Yl<|b.mpr a]at h;rw[Yl<|e.mpr a.symm];exact G.as h
    .rw[Yn λq=>a<|b.mp q]at h;rw[Yn λq=>a (e.mp q).symm];exact(ih x y p j f.1).as h
   .rw[d6]at h c;by_cases a:x=y
    .rw[Yl<|b.mpr a]at h;rw[Yl<|e.mpr a.symm]at c;rw[a,G.an h c]
    .rw[Yn λq=>a<|b.mp q]at h;rw[Yn λq=>a (e.mp q).symm]at c;exact absurd ((ih x y p j f.1).an h c) a
def gG n:∀x y:D,okN n x->okN n y->aH x y->Fc2 ltD x y:=by
 induction n with
 |zero=>
  intro x y ox o c;exact kN c ?_;cases x<;>first|rfl|(simp[okN]at ox)
 |succ n ih=>
  intro x y ox o c;rcases bB c with⟨i,j,rfl,rfl⟩|⟨i,j,rfl,rfl⟩|⟨i,j,rfl,rfl⟩|⟨i,j,rfl,rfl,d1⟩
  iterate 3 exact kN c qx
  .let F:=EC ih i j (cu ox) (cu o) d1;exact#[λh=>?_,λh a=>?_]
   .rw[ltD]at h ⊢;exact F.as h
   .rw[ltD]at h a;rw[F.an h a]
def FQ(ih:∀x y z:D,okN n x->okN n y->okN n z->aH x y->aH y z->aH x z->Fc3 ltD x y z):∀xs ys zs,(∀d∈xs,okN n d)->(∀d∈ys,okN n d)->(∀d∈zs,okN n d)->bh xs ys->bh ys zs->bh xs zs->Fc3 d6 xs ys zs:=by
 intro xs;induction xs with
 |nil=>
  intro ys zs _ _ _ _ _ _ h c;cases ys<;>cases zs<;>simp_all [d6]
 |cons x xs o=>
  intro ys zs ox A w j m l h c;cases ys with
  |nil=>simp[d6]at h
  |cons y ys=>
   rw[bh,Yr]at j;let u:=ox x Ye;let s:=A y Ye;let i:=c6 x y j.1;cases zs with
   |nil=>simp[d6]at c
   |cons z zs=>
    rw[bh,Yr]at m l;let C:=w z Ye;let f:=c6 y z m.1;let e:=c6 x z l.1;let F:=ih x y z u s C j.1 m.1 l.1;rw[d6]at h c ⊢;by_cases b:x=y
    .rw[Yl<|i.mpr b]at h;by_cases a:y=z
     .rw[Yl<|f.mpr a]at c;rw[Yl<|e.mpr<|b.trans a];exact o ys zs (λd g=>ox d<|Yd _ g) (λd g=>A d<|Yd _ g) (λd g=>w d<|Yd _ g) j.2 m.2 l.2 h c
     .rw[Yn λq=>a<|f.mp q]at c;rw[Yn λq=>a<|b.symm.trans<|e.mp q];rwa[b]
    .rw[Yn λq=>b<|i.mp q]at h;by_cases a:y=z
     .rw[Yn λq=>b<|(e.mp q).trans a.symm];rwa[<-a]
     .rw[Yn λq=>a<|f.mp q]at c;let p:=F h c;by_cases B:x=z
      .subst B;have:=(gG n x y u s j.1).as h;rw[c]at this;cases this
      .rwa[Yn λq=>B<|e.mp q]
def zM n:∀x y z:D,okN n x->okN n y->okN n z->aH x y->aH y z->aH x z->Fc3 ltD x y z:=by
 induction n with
 |zero=>
  intro x y z ox f o a c l;exact kt a c ?_;cases x<;>first|rfl|(simp[okN]at ox)
 |succ n ih=>
  intro x y z ox f o a c l;rcases bB a with⟨i,j,rfl,rfl⟩|⟨i,j,rfl,rfl⟩|⟨i,j,rfl,rfl⟩|⟨i,j,rfl,rfl,d1⟩
  iterate 3 exact kt a c qx
  .rcases bB c with⟨b,k,e,rfl⟩|⟨b,k,e,rfl⟩|⟨b,k,e,rfl⟩|⟨b,k,e,rfl,d2⟩<;>cases e;let F:=FQ ih i j k (cu ox) (cu f) (cu o) d1 d2 (by simpa[aH]using l);intro h g;exact F h g
def A7(x:D):List D->List D
 |[]=>[x]
 |y::r=>if ltD x y then x::y::r else y::A7 x r
def aZ:List D->List D
 |[]=>[]
 |x::r=>A7 x<|aZ r
def mo x:∀l:List D,(A7 x l).Perm (x::l)
 |[]=>.refl _
 |y::r=>by
  delta A7;split
  .exact .refl _
  .exact((mo x r).cons y).trans<|.swap x y r
def be:∀l:List D,(aZ l).Perm l
 |[]=>.refl _
 |x::r=>(mo x<|aZ r).trans<|(be r).cons x
def Cmps(n:Nat)(ds:List D):Prop:=(∀d∈ds,okN n d)/\∀x∈ds,∀y∈ds,aH x y
def v8:∀{as bs},as.Perm bs->Cmps n as->as.Pairwise (λx y=>ltD y x=false)->bs.Pairwise (λx y=>ltD y x=false)->as=bs:=by
 intro as;induction as with
 |nil=>intro bs c _ _ _;exact(List.Perm.nil_eq c)
 |cons a as ih=>
  intro bs c f g p;cases bs with
  |nil=>exact absurd c.symm<|List.not_perm_nil_cons _ _
  |cons b bs=>
   let i:=c.mem_iff.mp Ye;let m:=c.mem_iff.mpr Ye;have e:a=b:=by
    rcases Ys.mp i with h|h
    .exact h
    .rcases Ys.mp m with h'|h'
     .exact h'.symm
     .let j:=(Zi.mp g).1 b h';let l:=(Zi.mp p).1 a h;exact(gG n a b (f.1 a Ye) (f.1 b m)<|f.2 a Ye b m).an l j
   subst e;rw[ih (List.Perm.cons_inv c) #[λd s=>f.1 d<|Yd _ s,λx q y o=>f.2 x (Yd _ q) y<|Yd _ o] (Zi.mp g).2 (Zi.mp p).2]
def Cmps.perm(h:Cmps n as)(p:as.Perm bs):Cmps n bs:=#[λd c=>h.1 d<|p.mem_iff.mpr c,λx b y a=>h.2 x (p.mem_iff.mpr b) y<|p.mem_iff.mpr a]
theorem rY{x}(ox:okN n x)(o:okN n y)(f:okN n z)(c:aH x y)(g:aH y z)(j:aH x z)(i:aH y x)(a:aH z y)(b:aH z x)(h1:ltD y x=false)(h2:ltD z y=false):ltD z x=false:=by
 cases q:ltD z x with
 |false=>rfl
 |true=>
  -- z<x
  by_cases h:ltD x y
  .have:=zM n z x y f ox o b c a q h;rw[h2]at this;cases this
  .let e:=(gG n x y ox o c).an (by simpa using h) h1;grind
theorem mV{x}:∀{l},Cmps n (x::l)->l.Pairwise (λa b=>ltD b a=false)->(A7 x l).Pairwise (λa b=>ltD b a=false)
 |[],_,_=>List.pairwise_singleton _ _
 |y::r,hc,hp=>by
  have m:x∈x::y::r:=Ye;have c:y∈x::y::r:=Yd _ Ye;let#[f,g]:=Zi.mp hp;delta A7;split
  .rename_i q;exact Zi.mpr #[λz hz=>?_,hp];let h:=(gG n x y (hc.1 x m) (hc.1 y c)<|hc.2 x m y c).as q;rcases Ys.mp hz with rfl|hz
   .exact h
   .have e:z∈x::y::r:=Yd _<|Yd _ hz;exact rY (hc.1 x m) (hc.1 y c) (hc.1 z e) (hc.2 x m y c) (hc.2 y c z e) (hc.2 x m z e) (hc.2 y c x m) (hc.2 z e y c) (hc.2 z e x m) h<|f z hz
  .rename_i q;exact Zi.mpr #[λz hz=>?_,mV #[λd hd=>hc.1 d ?_,λa ha b hb=>hc.2 a ?_ b ?_] g]
   .rcases Ys.mp ((mo x r).mem_iff.mp hz)with rfl|hz
    .simpa using q
    .exact f z hz
   all_goals
    first
     |(
      rcases Ys.mp hd with rfl|hd
      .exact m
      .exact Yd _<|Yd _ hd)
     |(
      rcases Ys.mp ha with rfl|ha
      .exact m
      .exact Yd _<|Yd _ ha)
     |(
      rcases Ys.mp hb with rfl|hb
      .exact m
      .exact Yd _<|Yd _ hb)
def Cmps.sub(h:Cmps n bs)(k:∀x∈as,x∈bs):Cmps n as:=#[λd c=>h.1 d<|k d c,λx b y a=>h.2 x (k x b) y<|k y a]
theorem fX:∀{l},Cmps n l->(aZ l).Pairwise (λa b=>ltD b a=false)
 |[],_=>.nil
 |x::r,hc=>mV (hc.sub λy hy=>by
   rcases Ys.mp hy with rfl|hy
   .exact Ye
   .exact Yd _<|(be r).mem_iff.mp hy)<|fX<|hc.sub λy hy=>Yd _ hy
def qG(h:as.Perm bs)(a:Cmps n bs)(hs:as.Pairwise (λx y=>ltD y x=false)):as=aZ bs:=
 v8 (h.trans (be bs).symm) (a.perm h.symm) hs<|fX a
def iQ(h:as.Perm bs)(a:Cmps n bs):aZ as=aZ bs:=
 qG ((be as).trans h) a<|fX<|a.perm h.symm
end L2
namespace L2
open PySem PySem.Spec PyProof.Rows
section
variable{a:Expr}
def wU{x}{i}(r:Rep K H x (.int i)):x=.int i:=by cases r;rfl
def pV{x}{i}(r:Rep K H x (.str i)):x=.str i:=by cases r;rfl
open A in
def zU{g}(e:∀F i j,Rep K F (g i j) (g' i j)):OpN2 K (rI0 g) (fI0 g'):=by
 intro P F H x y l f d Q h c b a k;delta fI0 at h;split at h
 .rename_i i j;cases h;exact#[i,j,wU b,wU a,k _ F H (Evo.refl c)<|e F i j]
 .cases h
def OpN2.or{r j}{f g:Dy}(h:OpN2 K r f)(h':OpN2 K j g):OpN2 K (λx y H Q=>r x y H Q\/j x y H Q) (λx y=>(f x y).or (g x y)):=by
 intro P F H x y c b d Q a l i e k;dsimp only at a;cases q:f c b with
 |some m=>rw[q]at a;let a:=YG a;subst a;exact .inl<|h P F H x y c b _ Q q l i e k
 |none=>rw[q]at a;exact .inr<|h' P F H x y c b d Q a l i e k
def leS:D->D->Option D
 |.str x,.str y=>!.bl ((not<|decide<|y.cps.toList<x.cps.toList))
 |_,_=>()
def G7:R2:=λx y H Q=>∃i j,x=.str i/\y=.str j/\Q (.bl<|(not<|decide<|j.cps.toList<i.cps.toList)) H
def Bk:OpR X (compareOp .LtE) G7:=by intro p s c H x y v u Q I b a h;let#[i,j,rfl,rfl,q]:=h;let#[t,rfl]:=b;let#[e,rfl]:=a;exact PySem.P.le_str #[.bl _,H,I,qx,q]
def IH:OpN2 K G7 leS:=by
 intro P F H x y f e d Q h c b a k;delta leS at h;split at h
 .cases h;exact#[_,_,pV b,pV a,k _ F H (Evo.refl c) .bl]
 .cases h
def leA(x y:D):Option D:=(leI x y).or<|leS x y
def oH:OpR X (compareOp .LtE) (λx y H Q=>rI0 (λi j=>.bl (decide (i<=j))) x y H Q\/G7 x y H Q):=Hc.or Bk
def qf:OpN2 K (λx y H Q=>rI0 (λi j=>.bl (decide (i<=j))) x y H Q\/G7 x y H Q) leA:=(zU λ_ _ _=>.bl).or IH
def chD(f g:Dy)(fa fb fc:Dd):DF->Option D:=λa=>(fa a).bind λx=>(fb a).bind λy=>match f x y with
 |some (.bl true)=>(fc a).bind λz=>g y z
 |some (.bl false)=>!.bl false
 |_=>()
def pH{f g:Dy}(N:OpN2 K r f)(w:OpN2 K M g):∀σ H Q,tD K (chD f g fa fb fc) σ H Q->xT r M (tN K fa) (tN K fb) (tN K fc) σ H Q:=λσ H Q=>un7 λP F a d h I k=>by
 delta chD at h;cases l:fa a with
 |none=>rw[l]at h;cases h
 |some s=>
 cases q:fb a with
 |none=>rw[l,Yb,q]at h;cases h
 |some o=>
 rw[l,Yb,q,Yb]at h;split at h
 .rename_i c;cases A:fc a with
  |none=>rw[A]at h;cases h
  |some O=>
   rw[A,Yb]at h;exact#[P,F,a,s,l,I,λx L Y i u=>#[P,L,a,o,q,I.evo i,λy J C e p=>?_]];exact N P J C x y s o _ _ c e.hp (u.same<|e.same i.hp) p λv E R m j=>?_;cases j;exact#[true,qx,?_];rw[Yl qx];let b:=(i.trans e).trans m;exact#[P,E,a,O,A,I.evo b,λz F4 X B S=>?_];exact w P F4 X y z o O d Q h B.hp ((p.same<|m.same e.hp).same<|B.same m.hp) S λv Z U T j=>k v Z U ((b.trans B).trans T) j
 .rename_i c;cases h;exact#[P,F,a,s,l,I,λx L Y i u=>#[P,L,a,o,q,I.evo i,λy J C e p=>?_]];exact N P J C x y s o _ _ c e.hp (u.same<|e.same i.hp) p λv E R m j=>?_;cases j;exact#[false,qx,?_];rw[Yn Yk];exact k _ E R ((i.trans e).trans m) .bl
 .cases h
def yz(g:PDN X a fa)(f:PDN X b fb)(e:PDN X c fc)(h:lastMarks [CmpOp.LtE,CmpOp.LtE] [b,c]=false:=by with_unfolding_all rfl):PDE X (.Compare a [.LtE,.LtE] [b,c] pos) (chD leA leA fa fb fc):=(vJ oH oH g f e h).imp<|pH qf qf
def sP(g:PDN X a fa)(f:PDN X b fb)(e:PDN X c fc)(h:lastMarks [CmpOp.LtE,CmpOp.Lt] [b,c]=false:=by with_unfolding_all rfl):PDE X (.Compare a [.LtE,.Lt] [b,c] pos) (chD leA ltI fa fb fc):=(vJ oH KB g f e h).imp<|pH qf<|zU λz z z=>.bl
def EU(g:PDN X a fa)(f:PDN X b fb)(e:PDN X c fc)(h:lastMarks [CmpOp.LtE,CmpOp.LtE] [b,c]=false:=by with_unfolding_all rfl):PDT X (.Compare a [.LtE,.LtE] [b,c] pos) (asB (chD leA leA fa fb fc)):=(CA oH oH g f e h).imp<|lg<|pH qf qf
def HK(K:Kq)(r:List V->Hp->VK->Prop)(f:D->Option D):Prop:=
 ∀P F H x a d Q,f a=!d->DHp P F H->Rep K H x a->(∀v c b,Evo P F H c b->Rep K c v d->Q v b)->r [x] H Q
def xo{f}(j:HK K r f):∀σ H Q,tD K (d1 f fa) σ H Q->tCB r (ph (tN K fa) wu) σ H Q:=λσ H Q=>un7 λP F b d h I k=>by
 delta d1 at h;cases a:fa b with
 |none=>rw[a]at h;cases h
 |some c=>
  rw[a,Yb]at h;exact#[P,F,b,c,a,I,λx q o e g=>j P q o x c d Q h e.hp g λv p m l i=>k v p m (e.trans l) i]
def JX:HK K (KI K) bU:=by
 intro P F H x e d Q a c b k;delta bU at a;split at a
 .cases a;cases b with|lst h1 h2=>exact .inl #[_,_,qx,.inl h1,by rw[h2.length];exact k _ F H (Evo.refl c) .int]
 .cases a;cases b with|tup h1 h2=>exact .inl #[_,_,qx,.inr<|SqT.of h1,by rw[h2.length];exact k _ F H (Evo.refl c) .int]
 .split at a
  .rename_i h;cases a;exact .inr #[_,by rw[pV b],by rwa[YT],k _ F H (Evo.refl c) .int]
  .cases a
 .cases a
def cD(b:Gl X "len")(a:X.mg "len"=())(c:PDN X e fa)(hs:starEach [e] X.env=[(false,eval e X.env)]:=by rfl)(h:(backTo pos (starEach [] X.env)).any (·.1)=false:=by rfl):PDE X (.Call (.Name "len" p) [e] [] pos) (d1 bU fa):=
 (g_ (tq.or uG) b a boot_len (aQ c bw hs) (by decide) (by decide) hs h).imp<|xo JX
def vX:D->Option D
 |.int i=>!.int i
 |.bl k=>!.int (if k then 1 else 0)
 |_=>()
def FK:HK K (λxs H Q=>(∃i,xs=[.int i]/\Q (.int i) H)\/∃k,xs=[.bl k]/\Q (.int (if k then 1 else 0)) H) vX:=by
 intro P F H x c d Q h b a k;delta vX at h;split at h
 .cases h;cases a;exact .inl #[_,qx,k _ F H (Evo.refl b) .int]
 .cases h;cases a;exact .inr #[_,qx,k _ F H (Evo.refl b) .int]
 .cases h
def boot_int:bootBuiltins "int"=!(.type "int"):=by rfl
def boot_list:bootBuiltins "list"=!(.type "list"):=by rfl
def boot_tuple:bootBuiltins "tuple"=!(.type "tuple"):=by rfl
def boot_bool:bootBuiltins "bool"=!(.type "bool"):=by rfl
def CL:bootBuiltins "set"=!(.type "set"):=by rfl
def nK:bootBuiltins "isinstance"=!(.builtin "isinstance"):=by rfl
def DY:bootBuiltins "all"=!(.builtin "all"):=by rfl
def Eo:bootBuiltins "min"=!(.builtin "min"):=by rfl
def mX:bootBuiltins "sorted"=!(.builtin "sorted"):=by rfl
def zi(a:Gl X "int")(h:X.mg "int"=())(b:PDN X e fa)(hs:starEach [e] X.env=[(false,eval e X.env)]:=by rfl):PDE X (.Call (.Name "int" p) [e] [] pos) (d1 vX fa):=
 (eD AX a h boot_int (aQ b bw hs) (he:=hs)).imp<|xo FK
def ki:D->Option D
 |.lst ds=>!.tup ds
 |.tup ds=>!.tup ds
 |_=>()
def IP:LG K (λxs H Q=>∃p ys,xs=[.ref p]/\((SqL K H p ys/\∀l,H l=()->Q (.ref l) (upd H l (.tup ys)))\/(SqT K H p ys/\Q (.ref p) H))) ki:=by
 intro P F H i g x j d Q h I a k;delta ki at h;split at h
 .cases h;let#[p,f,rfl,b,c]:=e_ I a;exact#[p,f,qx,.inl #[b,λl e=>?_]];exact k _ _ _ (Evo.laid I.toDHp e)<|.tup aD<|c.same<|lG (I.toDHp.free e).1
 .cases h;rcases a with a|⟨_,ob,_,_,_,_,_,hfl,z⟩
  .cases a with|tup b c=>exact#[_,_,qx,.inr #[SqT.of<|I.sub _ _ b,k _ F H (Evo.refl I.toDHp)<|.tup b c]]
  .cases ob<;>first|(cases z;done)|cases hfl
 .cases h
def f9(a:Gl X "tuple")(h:X.mg "tuple"=())(b:PDR X e fa)(hs:starEach [e] X.env=[(false,eval e X.env)]:=by rfl):PDE X (.Call (.Name "tuple" p) [e] [] pos) (d1 ki fa):=
 (eD qL a h boot_tuple (aQ b bw hs) (he:=hs)).imp<|Ic IP
def cY(f:Dd):DF->Option (List D):=λρ=>(f ρ).bind fK
def gq(A:Gl X "list")(z:X.mg "list"=())(c:PDR X e fa)(hs:starEach [e] X.env=[(false,eval e X.env)]:=by rfl):PDO X (.Call (.Name "list" p) [e] [] pos) (asL<|cY fa):=
 (eD tm A z boot_list (aQ c bw hs) (he:=hs)).imp λC H Q=>un7 λP F o E h I k=>by
  delta asL cY at h;cases c:fa o with
  |none=>rw[c]at h;cases h
  |some m=>
   rw[c,Yb]at h;let#[B,b,rfl]:=Zd.mp h;exact#[P,F,o,m,c,I,λx y w f s=>?_];let u:=I.evo f;have fin:∀a,Reps X.K y a B->∀l,w l=()->Q _ (upd w l<|.lst a):=λa r l g=>
    k l y _ (f.trans<|Evo.side f.hp g) #[#[f.back I.toDHp g,(f.hp.free g).1],_,aD,r]
   cases m with
   |lst ds'=>
    cases b;let#[q,a,rfl,j,i]:=e_ u s;exact#[q,a,qx,.inl j,fin a i]
   |tup ds'=>
    cases b;let#[q,a,rfl,j,i]:=kO u s;exact#[q,a,qx,.inr j,fin a i]
   |_=>cases b
def Hk(K:Kq):R2:=λx y H Q=>∃l b a z,x=.ref l/\y=.ref b/\SqL K H l a/\SqL K H b z/\a.length+z.length<=sizeLine/\∀p,H p=()->Q (.ref p) (upd H p<|.lst<|a++z)
theorem FV:OpR X (binaryOp .Add) (Hk X.K):=by
 intro pz s Y H x y v u Q I L J h;let#[l,b,xs,Z,rfl,rfl,P,R,hz,q]:=h;cases L;cases J;let#[a,r,N,_]:=I.list P;let#[i,o,M,_]:=I.list R;let#[#[U,T,B,E],n,p,A,O,z]:=N;let#[#[C,j,m,g],n2,c,f,w,e]:=M;subst A z f e;let e1:=r.length;let e2:=o.length;exact concat_meets #[_,p,qx] #[_,c,qx] noFill_list_add seq_list_add F.slot_list_add F.entry_list_add (F.args_list_add_2 _ _) (list_addW l b a.toArray i.toArray n n2 T j E g<|by rw[Yy,Yy];lia) #[p,c,?_];have S:a.toArray++i.toArray=(a++i).toArray:=by simp
 rw[S];exact#[.ref _,_,I.lnew (r.append o)<|by rw[Yo];lia,qx,q _ I.fresh]
end
def spM(K:Kq)(f:Dz):Sp:=λi H Q z=>∃P F a b o x e d,i=.ref a::b/\f o x=!(e,d)/\DHp P F H/\F a=()/\P a=()/\o.flat/\(∃u,H a=!u/\ORep1 K F o u)/\DVs K P F H x b /\
 ∀v c g,Same F c->DHp P c g->c a=()->(∃h,g a=!h/\ORep1 K c e h)->e.flat->Rep K c v d->Q v g
def nq(a:Addr)(o':OD)(d:D):RES->Prop
 |.nx ρ=>ρ[0]?=!!.own o' (!a)/\d=.non
 |.rt x ρ=>x=.v d/\ρ[0]?=!!.own o' (!a)
 |_=>False
def DInv.startM{o}N p(h:DHp P F H)(q:F a=())(j:P a=())(fl:o.flat)(l:∃u,H a=!u/\ORep1 K F o u)(r:DVs K P F H xs vs)(m:xs.length+1=p) :
  DInv K P F H (aK N.length p (.own o (!a)::xs)) (L2.start N (.ref a::vs)):=by
 exact#[h,?_,λb=>if b=a then !0 else (),λi x e=>?_]
 .delta aK L2.start;rw[Yo,Yo,Ya,Ya,YS,YS,Yv,Yv,<-r.length,m]
 .let g:=kb e;cases i with
  |zero=>
   cases g;exact#[.ref a,im qx,a,qx,(ORep.flat fl).mpr #[#[q,j,Yl rfl],l],λb z=>by cases z;rfl]
  |succ i=>
   let#[c,v,s,f]:=r.get g;exact#[v,im<|by simpa using s,?_];cases x with
   |own o t=>cases c
   |v d=>exact f
   |bor o=>exact f
def Fun.okM{P}{st}{m}(F:Fun K x qual st f fd)(S:FnScope N ps (defScope st))(T:∀a o xs o' d,m o xs=!(o',d)->xs.length+1=ps.length/\o'.flat/\∃r,g (aK N.length ps.length (.own o (!a)::xs))=!r/\nq a o' d r)(j:∀cdv A outer s H E,Room k (A.deeper<|envOfC qual (defScope st) s.heap.objs.size f cdv)->
   PDS (gP CX0 P w K mg base N qual (defScope st) f cdv A outer s H E).nox (defBody st) g):FnOk P w K mg base CX0 (k+1) f fd ps (spM K m):=by
 exact F.ok S (λU H Q E L=>?_) λcdv A outer s H U Q E hr h=>?_
 .let#[O,R,a,B,o,xs,o',d,e,M,_,_,_,_,_,J,_]:=L;rw[e,Yv,<-J.length];exact(T 0 o xs o' d M).1
 .exact#[_,j cdv A outer s H E hr,?_];let#[O,R,a,B,o,xs,o',d,rfl,M,hp,hf,hP,fl,ho,J,hQ]:=h;let#[hl,y,r,hg,z]:=T a o xs o' d M;let I:=DInv.startM N ps.length hp hf hP fl ho J hl;exact#[O,R,_,r,hg,I,?_];have fin:∀b l c i v,b[0]?=!!.own o' (!a)->Same R c->DInv K O c i b l->Rep K c v d->Q v i:=λb l c i v q e p C=>by
   let#[v',_,a',rfl,h3,h4]:=p.at q;let ea:=h4 a qx;subst ea;let#[#[Z,q2,_],u,Y,X]:=(ORep.flat y).mp h3;exact hQ v c i e p.toDHp Z #[u,Y,X] y C
  cases r with
  |nx b=>(let#[q,rfl]:=z;exact λl c i e p=>fin b l c i .non q e p .non)
  |rt x b=>(let#[rfl,q]:=z;exact λv l c i e p C=>fin b l c i v q e p C)
  |bk b=>exact z.elim
  |ct b=>exact z.elim
def gdx(F H:Hp)(a:Addr):Hp:=λb=>if b=a then () else gd F H b
def uu{b}{o}:gdx F H a b=!o↔b≠a/\F b=()/\H b=!o:=by
 delta gdx;by_cases h:b=a
 .rw[Yl h];simp[h]
 .rw[Yn h,gx];simp[h]
def Ix(s:Same F H)a:DHp (gdx F H a) F H:=#[s,λb o e=>(uu.mp e).2.2,λb o e=>(uu.mp e).2.1]
def ArgsS.dvx(I:DInv K P F H ρ σ){o}{t}(hi:ρ[i]?=!!.own o t)(hs:σ[i]?=!!.ref a)(fl:o.flat):∀{xs}{vs},ArgsS K ρ σ F xs vs->(∀x∈xs,∃d,x=.v d)->DVs K (gdx F H a) F H xs vs:=by
 intro xs vs h;induction h with
 |nil=>exact λz=>.nil
 |v h _ ih=>exact λc=>.cons qx h<|ih λx m=>c x<|Yd _ m
 |b j h1 h2 _ ih=>
  intro c;simp_all
def GK(xs:List DV):Bool:=xs.all λx=>match x with
 |.v _=>true
 |_=>false
theorem Ji(h:GK xs):∀x∈xs,∃d,x=.v d:=λx m=>by
 have:=Yh.mp h x m;grind
def uW(K:Kq)(i:Nat)(m:Dz)(g:Dv):DF->Option (DF×D):=λa=>match a[i]? with
 |some (!.own o t)=>if o.flat then(g a).bind λx=>if GK x then(m o x).map λr=>(a.set i<|!.own r.1 t,r.2)else () else ()
 |_=>()
def jf(K:Kq)(i:Nat)(m:Dz)(g:Dv):DF->Option RES:=λa=>(uW K i m g a).map λr=>.nx r.1
def xt{o}(I:DInv K P F1 H1 ρ σ)(hi:ρ[i]?=!!.own o t)(hs:σ[i]?=!!.ref a)(fl:o.flat)(x:o'.flat)(e2:Same F1 F2)(h:DHp (gdx F1 H1 a) F2 H2)(f2:F2 a=())(N:∃B,H2 a=!B/\ORep1 K F2 o' B):DInv K P F2 H2 (ρ.set i<|!.own o' t) σ:=by
 let#[O,C]:=I.rep;let#[v,E,b,rfl,R,M]:=C i _ hi;rw[hs]at E;cases E;let#[#[U,l,g],u,T,_]:=(ORep.flat fl).mp R;have keep:∀b u,b≠a->F1 b=()->H1 b=!u->H2 b=!u/\F2 b=():=λb u f n q=>#[h.pro b u<|uu.mpr #[f,n,q],h.dis b u<|uu.mpr #[f,n,q]]
 exact#[#[h.sub,λb u q=>(keep b u (λz=>by subst z;rw[l]at q;cases q) (I.dis b u q)<|I.pro b u q).1,λb u q=>(keep b u (λz=>by subst z;rw[l]at q;cases q) (I.dis b u q)<|I.pro b u q).2],by rw[Zg];exact I.len,O,λj z Q=>?_];rcases fj Q with⟨rfl,e,X⟩|⟨s,p⟩
 .cases e;exact#[_,hs,a,qx,(ORep.flat x).mpr #[#[f2,l,g],N],M]
 .let#[w,S,A]:=C j z p;exact#[w,S,?_];cases z with
  |v d'=>exact Rep.same e2 A
  |own od t'=>
   let#[c,rfl,y,m]:=A;exact#[c,qx,y.mono e2 λb H q f=>?_,m];let#[L,J]:=keep b H (λz=>by subst z;rw[q.2.2]at g;exact s (YG g).symm) q.1 f;exact#[L,J,q.2]
  |bor od=>(let#[c,rfl,y]:=A;exact#[c,qx,y.mono e2 λb u q f=>#[f,q]])
section
variable{k:Nat}{g:Dv}
open A in
def vK i(G:FnOk X.prog X.w X.K X.mg X.base CX0 k f fd ps (spM X.K mM))(h:Room k X.A)(hg:Gl X x)(Z:X.mg x=!.ref f)(hk:PySem.W.keepIn X.K (.ref f))(hb:Binds X.K fd ps [])(h0:PE X e (c7 i))(ha:kf X es g)
  (hd:nDb x:=by decide) (he:starEach (e::es) X.env=(false,eval e X.env)::starEach es X.env:=by rfl) (y:(backTo pos<|starEach es X.env).any (·.1)=false:=by rfl) (s:swapsWith (.Call (.Name x p) (e::es) [] pos) () spos.line X.env=pure false:=by rfl) :
  PD1 X (.Expr (.Call (.Name x p) (e::es) [] pos) spos) (jf X.K i mM g):=
 PS.imp (dU (uL G h hg Z hk hb .nil np (aQ h0 ha he) hd he y) s) λE Q H=>un7 λP F L r h I k=>by
  delta jf uW at h;split at h
  .rename_i M t q;split at h
   .rename_i c;cases o:g L with
    |none=>rw[o]at h;cases h
    |some l=>
     rw[o,Yb]at h;split at h
     .rename_i av;cases m:mM M l with
      |none=>rw[m]at h;cases h
      |some b=>
       rw[m]at h;cases h;let#[v,B,a,rfl,h2,h3]:=I.at q;let#[#[a1,a2,_],u,a3,a4]:=(ORep.flat c).mp h2;exact#[_,B,P,F,L,l,o,I,λR O H1 j S=>?_];let J:=I.evo j;let#[U,T]:=j.keep a u a3 a1;exact#[gdx O H1 a,O,a,R,M,l,b.1,b.2,by simp,m,Ix J.sub a,T,by delta gdx;rw[Yl qx],c,#[u,U,a4.same j.ext],S.dvx J q B c<|Ji av,λv F2 H2 N z f2 Y C rv=>?_];exact k Q F2 H2 (j.ext.trans N)<|xt J q B c C N z f2 Y
     .cases h
   .cases h
  .cases h
def RepsF.look{vs}{ds}(h:RepsF K H vs ds):ds.lookup n=!d->∃v,vs.lookup n=!v/\Rep K H v d:=
 RepsF.ind (M:=λvs ds=>ds.lookup n=!d->∃v,vs.lookup n=!v/\Rep K H v d) (λe=>by cases e) (λh _ ih e=>by
  rw[bb]at e ⊢;split at e
  .rename_i q;cases e;rw[Yl q];exact#[_,qx,h]
  .rename_i q;rw[Yn q];exact ih e) h
def RepsF.no{vs}{ds}(h:RepsF K H vs ds):ds.lookup n=()->vs.lookup n=():=
 RepsF.ind (M:=λvs ds=>ds.lookup n=()->vs.lookup n=()) (λ_=>rfl) (λ_ _ ih e=>by
  rw[bb]at e ⊢;split at e
  .cases e
  .rename_i q;rw[Yn q];exact ih e) h
def jU(C:Addr)(n:Str):D->Option D
 |.ins C' fs=>if C'=C then fs.lookup n else ()
 |_=>()
def jW(c:Cls X.K C)(o:NoAttr X.K C n)(h:PDR X e fa)(p:attributeBase e n X.env (eval e X.env)=eval e X.env:=by rfl):PDE X (.Attribute e n pos) (d1 (jU C n) fa):=
 (pU h p).imp λE H Q=>un7 λP F i d f I k=>by
  let#[g,q,f]:=YK.mp f;exact#[P,F,i,g,q,I,λy B A j m=>?_];cases g with
  |ins C' fs=>
   have b:(if C'=C then fs.lookup n else ())=!d:=f;split at b
   .rename_i s;subst s;let#[a,g,l,rfl,z,x]:=uO (I.evo j) m;let#[v,w,u]:=x.look b;exact#[a,C',g,l,v,qx,z,c,o,w,k v B A j u]
   .cases b
  |_=>cases f
def pN(f:Str)(v:D):List (Str×D)->List (Str×D)
 |[]=>[(f,v)]
 |(g,x)::r=>if g=f then(g,v)::r else(g,x)::pN f v r
def RepsF.put(a:Rep K H v d){vs}{ds}(h:RepsF K H vs ds):RepsF K H (eG n v vs) (pN n d ds):=
 RepsF.ind (M:=λvs ds=>RepsF K H (eG n v vs)<|pN n d ds) (.cons a .nil) (λ{k _ _ _ _} h r ih=>by
  delta eG pN;by_cases q:k=n
  .rw[Yl q,Yl q];exact .cons a r
  .rw[Yn q,Yn q];exact .cons h ih) h
def RepsF.length{vs}{ds}(h:RepsF K H vs ds):vs.length=ds.length:=RepsF.ind (M:=λvs ds=>vs.length=ds.length) qx (λz z ih=>YU Nat.succ ih) h
def sg(C:Addr)(i:Nat)(n:Str)(fv:Dd):DF->Option RES:=λa=>match a[i]? with
 |some (!.own (.ins C' fs) t)=>if C'=C then(fv a).bind λd=>if fs.length<1000 then !.nx (a.set i<|!.own (.ins C<|pN n d fs) t) else () else ()
 |_=>()
open A in
def ug i(c:Cls X.K C)(w:NoAttr X.K C n)(s:PE X o (c7 i))(hv:PDE X value fv)(hs:swapsWith value (!.Attribute o n pos') pos.line X.env=pure false:=by rfl) :
  PD1 X (.Assign [.Attribute o n pos'] value pos) (sg C i n fv):=PS.imp (ui s hv hs) λE m H=>un7 λP F j r h I k=>by
 delta sg at h;split at h
 .rename_i g fs t q;split at h
  .rename_i z;subst z;cases f:fv j with
   |none=>rw[f]at h;cases h
   |some d=>
    rw[f,Yb]at h;split at h
    .rename_i x;cases h;let#[v,l,a,rfl,#[#[B,L,_],u,A,b],_]:=I.at q;cases u with
     |ins C'' dx vs=>
      let#[rfl,b]:=b;exact#[P,F,j,d,f,I,λy J M e p=>#[_,l,a,g,dx,vs,qx,(e.keep a _ A B).1,c,w,by rwa[b.length],k m J _ e.ext ?_]];exact(I.evo e).mut q qx qx l #[qx,(RepsF.same e.ext b).put p]
     |_=>exact b.elim
    .cases h
  .cases h
 .cases h
def zX(C:Addr):DV->Option (List (Str×D))
 |.v (.ins C' fs)=>if C'=C then !fs else ()
 |.bor (.ins C' fs)=>if C'=C then !fs else ()
 |.bor (.obj (!C') fs)=>if C'=C then !(fs.map λp=>(p.1,p.2.dat))else ()
 |_=>()
def mT(C:Addr)(mn:Str):List DV->Bool
 |x::_=>match zX C x with
  |some fs=>(fs.lookup mn).isNone
  |none=>false
 |[]=>false
def bF(C:Addr)(mn:Str)(m:Dm)(g:Dv):DF->Option D:=λa=>(g a).bind λx=>if mT C mn x then(m x).bind dvD else ()
end
def DVs.heap(h:DVs K P F H xs vs):DVs K P F H' xs vs:=by
 induction h with
 |nil=>exact .nil
 |@cons x _ _ _ h r _ ih=>
  exact .cons h ?_ ih;cases x with
  |v d=>exact r
  |bor o=>exact r
  |own o t=>cases h
def cG(i:Nat):DF->Option DV:=λa=>match a[i]? with
 |some (!.own o _)=>!.bor o
 |some (!.bor o)=>!.bor o
 |some (!.v d)=>!.v d
 |_=>()
def ck(s:DF->Option DV)(g:Dv):DF->Option (List DV):=λa=>(s a).bind λx=>(g a).map λb=>x::b
def g0:DF->Option (List DV):=λ_=>![]
def Self1(K:Kq)(ρ:DF)(σ:St)(F:Hp)(x:DV)(v:V):Prop:=ArgsS K ρ σ F [x] [v]
def Self1.cons{x}(h:Self1 K ρ σ F x v)(e:Same F F')(r:ArgsS K ρ σ F' xs vs):ArgsS K ρ σ F' (x::xs) (v::vs):=by
 cases h with
 |v h _=>exact .v (h.same e) r
 |b i h1 h2 _=>exact .b i h1 h2 r
def FE{vs}(h:All2 (λp (q:Str×FO)=>p.1=q.1/\FRep K F H ow q.2 p.2) vs fs):(fs.map λp=>(p.1,p.2.dat)).lookup n=()->vs.lookup n=():=by
 induction h with
 |nil=>exact λ_=>rfl
 |@cons p q _ _ h _ ih=>
  let#[x,v]:=p;let#[y,o]:=q;let#[e,r]:=h;cases e;intro e;rw[YF,bb]at e;rw[bb];split at e
  .cases e
  .rename_i z;rw[Yn z];exact ih e
def Self1.ins{x}(I:DInv K P F H ρ σ)(h:Self1 K ρ σ F x v)(hi:zX C x=!fs):∃a dx vs,v=.ref a/\H a=!.ins C dx vs/\∀n,fs.lookup n=()->vs.lookup n=():=by
 cases h with
 |@v d _ _ _ h _=>
  cases d with
  |ins j fs'=>
   have c:(if j=C then !fs' else ())=!fs:=hi;split at c
   .rename_i g;subst g;cases c;let#[a,dx,vs,f,e,l]:=uO I<|.inl h;exact#[a,dx,vs,f,e,λn=>l.no]
   .cases c
  |_=>cases hi
 |@b o _ _ _ i f e _=>
  cases o with
  |ins j fs'=>
   have c:(if j=C then !fs' else ())=!fs:=hi;split at c
   .rename_i g;subst g;cases c;let#[a,dx,vs,f,e,l]:=uO I<|RepS.slot I f e qx;exact#[a,dx,vs,f,e,λn=>l.no]
   .cases c
  |obj C0 fs'=>
   cases C0 with
   |none=>cases hi
   |some j=>
   have c:(if j=C then !(fs'.map λp=>(p.1,p.2.dat))else ())=!fs:=hi;split at c
   .rename_i g;subst g;cases c;let#[a,rfl,_,dx,vs,m,_,q]:=I.slot f e;exact#[a,dx,vs,qx,m,λn=>FE q]
   .cases c
  |_=>cases hi
def Dg(K:Kq)(s:DF->Option DV):TE:=λb H Q=>∃P F a x,s a=!x/\DInv K P F H a b/\∀v e c,Evo P F H e c->Self1 K a b e x v->Q v c
def u5(X:Cx)(e:Expr)(s:DF->Option DV):Prop:=PE X e<|Dg X.K s
section
variable{k:Nat}{g:Dv}{s:DF->Option DV}
def GO i(h:PE X e (c7 i)):u5 X e (cG i):=PE.imp h λg H Q=>un7 λP F j x c I k=>by
 delta cG at c;split at c
 .rename_i o t q;cases c;let#[v,a,_]:=I.at q;exact#[v,a,k v F H (Evo.refl I.toDHp)<|.b i a (.inl #[t,q]) .nil]
 .rename_i o q;cases c;let#[v,a,_]:=I.at q;exact#[v,a,k v F H (Evo.refl I.toDHp)<|.b i a (.inr q) .nil]
 .rename_i d q;cases c;let#[v,a,f]:=I.at q;exact#[v,a,k v F H (Evo.refl I.toDHp)<|.v f .nil]
 .cases c
def yj{x}(h:mT C mn (x::xs)):∃fs,zX C x=!fs/\fs.lookup mn=():=by
 delta mT at h;cases q:zX C x with
 |none=>simp[q]at h
 |some fs=>exact#[fs,qx,by simpa[q]using h]
def D1{E}{Q}{F}{y}(h:ck s g ρ=!xs)(hs:mT C mn xs)(A:m xs=!y)(I:DInv K P F H ρ σ)(k:∀v F1 H1 F2 H2,Evo P F H F1 H1->Same F1 F2->DHp (gd F1 H1) F2 H2->DVRep K (gd F1 H1) F2 H2 nL y v->Q v H2):w4 C mn (spD K m) [] E (Dg K s) (tLV K g) σ H Q:=by
 delta ck at h;cases q:s ρ with
 |none=>rw[q]at h;cases h
 |some x=>
  rw[q,Yb]at h;cases b:g ρ with
  |none=>rw[b]at h;cases h
  |some i=>
   rw[b]at h;cases h;let#[fs,J,B]:=yj hs;exact#[P,F,ρ,x,q,I,λv F1 H1 l j=>?_];let f:=I.evo l;let#[a,O,p,rfl,M,L]:=j.ins f J;exact#[a,O,p,qx,M,L _ B,P,F1,ρ,i,b,f,λT F2 H2 e z=>?_];let o:=f.evo e;exact#[gd F2 H2,F2,x::i,y,A,ge o.sub,by rw[Zc];exact(j.cons e.ext z).dvs o,λw S R N c u=>k w F2 H2 S R (l.trans e) N c u]
def zQ{E}:∀σ H Q,tD K (bF C mn m (ck s g)) σ H Q->w4 C mn (spD K m) [] E (Dg K s) (tLV K g) σ H Q:=λσ H Q=>un7 λP F B d h I k=>by
 delta bF at h;cases q:ck s g B with
 |none=>rw[q]at h;cases h
 |some J=>
  rw[q,Yb]at h;split at h
  .rename_i L;cases c:m J with
   |none=>rw[c]at h;cases h
   |some y=>
    rw[c,Yb]at h;exact D1 q L c I λv O A l j i x e p=>?_;let z:=I.evo i;let w:=z.toDHp.gd x e;cases y with
    |v d'=>cases h;exact k v l j (i.trans w) p
    |own o t=>
     cases h;let#[a,rfl,M,_]:=p;let f:=n_ x M;exact k _ _ j (i.trans<|w.freeze z.toDHp _ λ_ q=>q)<|f.rep (b6 λb q=>q.2) λb u q N=>by rwa[de q]
    |bor o=>cases h
  .cases h
def oq{pl}(he:u5 X o s)(c:Cls X.K C)(l:Meth X.K C mn f)(G:FnOk X.prog X.w X.K X.mg X.base CX0 k f fd ps (spD X.K m))(j:Room k X.A)(p:Binds X.K fd ps [])(q:kf X (e::es) g)(h:starEach (e::es) X.env=(false,eval e X.env)::starEach es X.env:=by rfl)(a:(backTo pos<|starEach es X.env).any (·.1)=false:=by rfl)(i:eval (.Call (.Attribute o mn apos) (e::es) [] pos) X.env=(do
   let b <-eval o X.env
   standAt apos.atName
   let (f,first) <-holding [b]<|getMethod b mn pl
   callWith pos f first (backTo pos<|starEach (e::es) X.env)<|backToKw pos<|keywordEach [] X.env):=by rfl):PDE X (.Call (.Attribute o mn apos) (e::es) [] pos) (bF C mn m<|ck s g):=
 (zV he c l G j p .nil np q h a i).imp zQ
def wE{pl}(he:u5 X o s)(c:Cls X.K C)(y:Meth X.K C mn f)(G:FnOk X.prog X.w X.K X.mg X.base CX0 k f fd ps (spD X.K m))(u:Room k X.A)(z:Binds X.K fd ps [])(q:eval (.Call (.Attribute o mn apos) [] [] pos) X.env=(do
   let b <-eval o X.env
   standAt apos.atName
   let (f,first) <-holding [b]<|getMethod b mn pl
   callWith pos f first (backTo pos<|starEach [] X.env)<|backToKw pos<|keywordEach [] X.env):=by rfl):PDE X (.Call (.Attribute o mn apos) [] [] pos) (bF C mn m<|ck s g0):=
 (Ee he c y G u z .nil np q).imp λg H Q h=>by
  have:=zQ (E:=E0) g H Q h;let#[P,F,j,x,L,J,I]:=this;exact#[P,F,j,x,L,J,λv U e N r=>?_];let#[a,R,fs,M,O,l,Z,T,i,Y,p,S,B]:=I v U e N r;cases p;exact#[a,R,fs,M,O,l,B [] T e (Evo.refl S.toDHp) .nil]
def oK(C:Addr)(mM:Dz)(g:Dv):DF->Option OD:=λa=>(g a).bind λx=>match mM (.ins C []) x with
 |some (o',.non)=>if o'.flat then !o' else ()
 |_=>()
def Cg(M:Mk X.K C f)(G:FnOk X.prog X.w X.K X.mg X.base CX0 k f fd ps (spM X.K mM))(U:Room (k+1) X.A)(hg:Gl X x)(hm:X.mg x=!.ref C)(hb:Binds X.K fd ps [])(ha:kf X (e::es) g)(m:nDb x:=by decide)(he:starEach (e::es) X.env=(false,eval e X.env)::starEach es X.env:=by rfl)(i:(backTo pos<|starEach es X.env).any (·.1)=false:=by rfl):PDO X (.Call (.Name x p) (e::es) [] pos) (oK C mM g):=
 (yM M G U hg hm hb .nil np ha m he i).imp λσ H Q=>un7 λP F B T h I k=>by
  let#[E,q,h]:=YK.mp h;split at h
  .rename_i o' S;split at h
   .rename_i fl;cases h;exact#[P,F,B,E,q,I,λN L s o R y J c l Z=>?_];let a:=I.evo o;have sm:Same s (upd (upd s J<|.own y) y<|.ins C J []):=λb u z=>by rwa[az<|bc z c,az<|bc z l]
    exact#[gd L s,L,y,N,.ins C [],E,T,.non,by simp,S,#[a.sub.trans sm,λb u z=>sm b u<|(ge a.sub).pro b u z,(ge a.sub).dis],a.sub.free c,(ge a.sub).pro.free c,qx,#[_,aD,qx,.nil],(R.dvs a).heap,λv F2 H2 e2 j f2 Y fl' O=>?_];cases O;exact#[qx,k y F2 H2 (o.trans<|a.toDHp.gd e2 j)<|(ORep.flat fl).mpr #[#[o.back I.toDHp c,f2],Y]]
   .cases h
  .cases h
end
section
variable{κ:Type} [DecidableEq κ]
def dq(kvs:List (κ×D))(k:κ):Option D:=(kvs.find? λa=>decide<|a.1=k).map (·.2)
def eS(kvs:List (κ×D))(k:κ)(v:D):List (κ×D):=
 if(kvs.any λa=>decide<|a.1=k) then kvs.map (λa=>if a.1=k then(a.1,v)else a)else kvs++[(k,v)]
end
def AF{k k'}{vs:List (List Key×V)}:eY ((k',v)::vs) k=if k'=k then !v else eY vs k:=by delta eY;by_cases q:k'=k<;>simp[Xc,q]
def cy [DecidableEq κ]{k k'}{vs:List (κ×D)}:dq ((k',v)::vs) k=if k'=k then !v else dq vs k:=by delta dq;by_cases q:k'=k<;>simp[Xc,q]
def RepsT.val{vs}{ds}(h:RepsT K H vs ds):(eY vs k=()/\dq ds k=())\/∃v d,eY vs k=!v/\dq ds k=!d/\Rep K H v d:=
 RepsT.ind (M:=λvs ds=>(eY vs k=()/\dq ds k=())\/∃v d,eY vs k=!v/\dq ds k=!d/\Rep K H v d) (.inl #[qx,qx]) (λ{a v d vs ds} h _ ih=>by
  rw[AF,cy];by_cases q:a=k
  .rw[Yl q,Yl q];exact .inr #[v,d,qx,qx,h]
  .rwa[Yn q,Yn q]) h
def RepsT.any{vs}{ds}(h:RepsT K H vs ds):(vs.any λa=>decide (a.1=k))=ds.any λa=>decide (a.1=k):=
 RepsT.ind (M:=λvs ds=>(vs.any λa=>decide<|a.1=k)=ds.any λa=>decide<|a.1=k) qx (λz z ih=>by rw[XG,XG,ih]) h
def RepsT.map(f:Rep K H v d){vs}{ds}(h:RepsT K H vs ds):RepsT K H (vs.map λa=>if a.1=k then(a.1,v)else a) (ds.map λa=>if a.1=k then(a.1,d)else a):=
 RepsT.ind (M:=λvs ds=>RepsT K H (vs.map λa=>if a.1=k then(a.1,v)else a)<|ds.map λa=>if a.1=k then(a.1,d)else a) .nil (λ{b c e vs ds} h _ ih=>by
  rw[YF,YF];by_cases q:b=k
  .rw[Yl<|show(b,c).1=k from q,Yl<|show(b,e).1=k from q];exact .cons f ih
  .rw[Yn<|show ¬(b,c).1=k from q,Yn<|show ¬(b,e).1=k from q];exact .cons h ih) h
def RepsT.snoc(a:Rep K H v d){vs}{ds}(h:RepsT K H vs ds):RepsT K H (vs++[(k,v)]) (ds++[(k,d)]):=
 RepsT.ind (M:=λvs ds=>RepsT K H (vs++[(k,v)])<|ds++[(k,d)]) (.cons a .nil) (λh _ ih=>.cons h ih) h
def RepsT.put{vs}{ds}(a:Rep K H v d)(r:RepsT K H vs ds):RepsT K H (iB vs k v) (eS ds k d):=by
 delta iB eS;rw[r.any];split
 .exact r.map a
 .exact r.snoc a
def RepsT.length{vs}{ds}(h:RepsT K H vs ds):vs.length=ds.length:=RepsT.ind (M:=λvs ds=>vs.length=ds.length) qx (λz z ih=>YU Nat.succ ih) h
def ja:D->Option Key
 |.int i=>!.inl i
 |.str x=>!.inr x
 |_=>()
def gW:List D->Option (List Key)
 |[]=>![]
 |d::ds=>(ja d).bind λk=>(gW ds).map λr=>k::r
def k7:D->Option (List Key)
 |.tup ds=>gW ds
 |_=>()
def Reps.keys{ks}(h:Reps K H vs ds):gW ds=!ks->vs=ks.map kV:=
 Reps.ind (M:=λvs ds=>∀ks:List Key,gW ds=!ks->vs=ks.map kV) (λks e=>by cases e;rfl) (λ{v d vs ds} h _ ih ks e=>by
  let#[k,q,e]:=YK.mp e;let#[b,a,rfl]:=Zd.mp e;rw[ih _ a,YF];cases d with
  |int i=>cases q;cases h;rfl
  |str i=>cases q;cases h;rfl
  |_=>cases q) h ks
def uA{y}{ks}(a:DHp P F H)(r:Rep K F y dy)(h:k7 dy=!ks):∃b,y=.ref b/\H b=!.tup (ks.map kV):=by
 cases dy with
 |tup ds=>cases r with|tup h1 h2=>exact#[_,qx,by rw[a.sub _ _ h1,h2.keys h]]
 |_=>cases h
section
variable{a i f:Expr}{fd fk:Dd}
def gn:D->D->Option D
 |.dT kvs,y=>(k7 y).bind λk=>dq kvs k
 |_,_=>()
def uw(U:X.A.units+64<cLine)(E:PDR X o fd)(hi:PDE X i fk)(hs:Jl i:=by exact λ_ _=>rfl):PDE X (.Subscript o i pos) (d2 gn fd fk):=(E8 (by lia) E hi hs).imp λS H Q=>un7 λP F b d a I k=>by
 delta d2 at a;cases c:fd b with
 |none=>rw[c]at a;cases a
 |some M=>
 cases g:fk b with
 |none=>rw[c,Yb,g]at a;cases a
 |some l=>
 rw[c,Yb,g,Yb]at a;cases M with
 |dT kvs=>
  have h:((k7 l).bind λk=>dq kvs k)=!d:=a;cases f:k7 l with
  |none=>rw[f]at h;cases h
  |some C=>
   rw[f,Yb]at h;exact#[P,F,b,_,c,I,λx R Z j B=>#[P,R,b,_,g,I.evo j,λy O N e w=>?_]];let#[p,T,rfl,L,K]:=xn ((I.evo j).evo e)<|B.evo e;let#[q,rfl,J]:=uA e.hp w f;rcases K.val with⟨_,z⟩|⟨v,Y,u,s,m⟩
   .rw[z]at h;cases h
   .rw[s]at h;cases h;exact#[p,v,qx,by have:=DGet.t L J;rwa[u]at this,k v O N (j.trans e) m]
 |_=>cases a
def lx(fd fk fx:Dd):DF->Option D:=λa=>match fd a with
 |some (.dT kvs)=>(fk a).bind λy=>(k7 y).bind λk=>(fx a).map λx=>(dq kvs k).getD x
 |_=>()
open A in
theorem vP(hu:X.A.units+64<cLine)(ho:PDR X o fd)(hi:PDE X e fk)(hx:PDE X f fx)(m:M2 X o "get" apos e f cpos:=by exact#[qx,qx,qx,qx]):PDE X (.Call (.Attribute o "get" apos) [e,f] [] cpos) (lx fd fk fx):=(CD (by lia) ho hi hx m).imp λσ H Q=>un7 λP F b d h I k=>by
 delta lx at h;split at h
 .rename_i c Z;let#[dy,C,h]:=YK.mp h;let#[E,B,h]:=YK.mp h;cases w:fx b with
 |none=>rw[w]at h;cases h
 |some N=>
  rw[w]at h;cases h;exact#[P,F,b,_,Z,I,λx F1 H1 i M=>?_];let#[p,T,rfl,h1,h2]:=xn (I.evo i) M;exact#[p,qx,.inr #[T,.inl h1],P,F1,b,_,C,I.evo i,λy F2 H2 j Y=>#[P,F2,b,_,w,(I.evo i).evo j,λz l O g U=>?_]];let I3:=((I.evo i).evo j).evo g;let#[p',S,ep,L,J]:=xn I3<|(M.evo j).evo g;cases ep;let#[q,rfl,h3]:=uA g.hp (Y.same g.ext) B;exact#[_,DGet.t L h3,?_];let a:=(i.trans j).trans g;rcases J.val with⟨u,s⟩|⟨v,d',u,s,R⟩
  .rw[u];exact k _ l O a<|by rwa[s]
  .rw[u];exact k _ l O a<|by rwa[s]
 .cases h
def rP:PDO X (.Dict [] [] pos) (λ_=>!.dT []):=BL.imp λb H Q=>un7 λP F c o a I k=>by
 cases a;exact λp h=>k p F _ (Evo.side I.toDHp h) #[#[h,(I.toDHp.free h).1],_,aD,.nil]
def sx(j:Nat)(fk fv:Dd):DF->Option RES:=λa=>match a[j]? with
 |some (!.own (.dT kvs) t)=>(fv a).bind λv=>(fk a).bind λy=>(k7 y).bind λk=>if kvs.length<16777216 then !.nx (a.set j<|!.own (.dT<|eS kvs k v) t) else ()
 |_=>()
def y_ j(Z:X.A.units+64<cLine)(L:PE X o (c7 j))(hi:PDE X i fk)(hv:PDE X e fv)(hs:swapsWith e (!.Subscript o i pos') pos.line X.env=pure false:=by rfl):PD1 X (.Assign [.Subscript o i pos'] e pos) (sx j fk fv):=
 PS.imp (zk (by lia) L hi hv hs) λE z H=>un7 λP F c r h I k=>by
  delta sx at h;split at h
  .rename_i m t q;cases f:fv c with
   |none=>rw[f]at h;cases h
   |some dv=>
   rw[f,Yb]at h;cases l:fk c with
   |none=>rw[l]at h;cases h
   |some O=>
   rw[l,Yb]at h;cases g:k7 O with
   |none=>rw[g]at h;cases h
   |some U=>
   rw[g,Yb]at h;split at h
   .rename_i M;cases h;let#[v,s,p,rfl,#[#[R,a2,_],u,Q,b],_]:=I.at q;cases u with
    |dT vs=>
     exact#[P,F,c,_,f,I,λv T H1 x C=>#[_,s,P,T,c,_,l,I.evo x,λy S H2 w B=>?_]];let a:=x.trans w;let#[J,Y]:=a.keep p _ Q R;let#[b',rfl,N]:=uA a.hp B g;exact#[p,_,qx,DPut.t J N<|by rwa[YT,b.length],k z S _ a.ext ?_];exact(I.evo a).mut q qx qx s<|(RepsT.same a.ext b).put<|C.same w.ext
    |_=>exact b.elim
   .cases h
  .cases h
end
open PySem.W
def uT(prog:Program)(w:World)(A:Around)(Q:Kv)(vs:List Value)(s1:Shared):Prop:=
 vs.length<64/\∃(c:SortKind) (lt:Nat->Nat->Bool),Ord lt /\
  (2<=vs.length->∀h,(∀b u,s1.heap.get? b=!u->h.get? b=!u)->∀Q (E:Kv),Q c {s1 with heap:=h }->wpAny (model prog w) A.in1.in1 (keyKind' vs.toArray) Q E {s1 with heap:=h }) /\
  (∀h,(∀b u,s1.heap.get? b=!u->h.get? b=!u)->∀i j C,i<vs.length->j<vs.length->C (lt i j) {s1 with heap:=h }->kas_ask prog w A.in1.in1 c vs i j C {s1 with heap:=h }) /\
  ∀p,PermN vs.length p->Ris lt p vs.length->∀(a:Addr) h e,(∀b u,s1.heap.get? b=!u->h.get? b=!u)->s1.heap.objs.size<=a->h.get? a=!(seqObj "list" (mR vs p) e)->Q (.ref a) {s1 with heap:=h }
def nv{Q}(j:wpAny (model prog w) A.in1 (collect v) (uT prog w A Q) E s):wpAny (model prog w) A (call (.builtin "sorted") [v]) Q E s:=by
 exact Calls.call_function_entry kind_sorted plain_sorted entry_sorted (args_sorted1 _) ?_;delta Builtin.«sorted»;exact Yc<|Yj ?_;exact Yc<|ZR j (λc a x=>?_) λ_ _ e=>e;let#[h64,y,lt,o,C,I,h]:=x;exact Yc<|wpAny_newList ?_ (by rw[YT];lia);have g:(a.heap.push _).get? a.heap.objs.size=!(seqObj "list" c.toArray 0):=Yq _ qx;have keep:∀b u,a.heap.get? b=!u->(a.heap.push<|seqObj "list" c.toArray 0).get? b=!u:=λb u q=>Yf _ q
 have l:∀f:Heap,(∀b u,b≠a.heap.objs.size->(a.heap.push _).get? b=!u->f.get? b=!u)->∀b u,a.heap.get? b=!u->f.get? b=!u:=λf k b u e=>
  k b u (Yz<|Yw e)<|keep b u e
 exact Yc<|Xa<|Xr slot_list_sort #[_,g,qx] entry_list_sort ?body<|args_list_sort _
 case body=>
  exact qX g h64 y lt o (λJ f k Q q=>C J f (l f k) Q _ q) (λf k=>I f<|l f k) λp B z=>#[_,qx,?_]
  let#[e,H]:=sortedHeap_at g;exact Yj #[_,qx,h p B z a.heap.objs.size _ e (λb u q=>?_) (Yp _) H];have i:=Yw q;show(sortedHeap _ a.heap.objs.size c _).get? b=!u;rw[sortedHeap_old (Yz i)<|by rw[size_push'];exact ZO i];exact keep b u q
theorem qY{l}{vs}{Q:Kl}(e:IsTup s.heap l vs.toArray)(h:Q vs {s with heap:=(s.heap.push<|seqObj "list" #[[]] 0).update s.heap.objs.size<|Obj.mapSeq (·++vs.toArray)})(hsz:vs.length<=sizeLine):wpAny (model prog w) A (collect<|.ref l) Q E s:=by
 let#[o,c,g,n,f]:=id e;exact Yc<|wpAny_runValue<|ZM entry_proto_collect' ?_;exact Yc<|wpAny_newList<|Yj #[Vq _<|by decide+kernel,ZM entry_list_iadd' ?_];show wpAny _ _ (Builtin.List.listExtendWith _ _ _) _ _ {s with heap:=s.heap.push _};have a:(s.heap.push<|seqObj "list" #[[]] 0).get? l=!o:=Yf _ c;exact Yc<|wpAny_typeOf (T := "tuple") #[o,a,g] ?_;have b:(Value.type "tuple" == Value.type "tuple"):=by rfl
 rw[Yl<|by rw[b];simp];exact Yc<|listItems_at a f ?_;exact Yc<|listItems_at (Yq _ qx) qx ?_;exact Yc<|listUpdate_at (Yq _ qx) qx ?_ (YN _) (by show(#[[]]++vs.toArray).size<=sizeLine+1;simp;lia);exact Yj ?_
 exact Yc<|wpAny_load (get?_update_seq (Yq _ qx) _) ?_;show wpAny _ _ (pure ((#[[]])++vs.toArray).toList) Q E _;rw[show((#[[]]:Array Value)++vs.toArray).toList=vs by simp];exact Yj h
def pW{vs:List Value}{b}{u}(q:h.get? b=!u):((h.push (seqObj "list" #[[]] 0)).update h.objs.size (Obj.mapSeq (·++vs.toArray))).get? b=!u:=by let a:=Yw q;rwa[ZY _ _ _ _<|Yz a,XX _ _ _<|Yz a]
def sk:D->Bool
 |.int _=>true
 |.str _=>true
 |.tup (_::_)=>true
 |_=>false
def fk:D->Bool
 |.int _=>true
 |.str _=>true
 |.tup _=>true
 |_=>false
def zb:D->Bool
 |.tup (d::_)=>fk d
 |_=>true
def bL(ds:List D):Bool:=decide (ds.length<64)&&ds.all (okN 28)&&(ds.all λx=>ds.all λy=>aH x y)&&ds.all sk&&ds.all zb
def gw(h:bL ds):ds.length<64/\Cmps 28 ds/\(∀d∈ds,sk d)/\∀d∈ds,zb d:=by delta bL at h;simp only[Yr,YQ]at h;let#[#[#[#[j,i],g],f],e]:=h;exact#[j,#[λd a=>Yh.mp i d a,λx c y b=>Yh.mp (Yh.mp g x c) y b],λd a=>Yh.mp f d a,λd a=>Yh.mp e d a]
def dAt(ds:List D)(i:Nat):D:=ds.getD i<|ds.headD<|.int 0
theorem uV(h:ds≠[])i:dAt ds i∈ds:=by
 delta dAt;cases ds with
 |nil=>exact absurd qx h
 |cons d r=>
  rw[YZ];grind
def uU(h:i<ds.length):ds[i]?=!dAt ds i:=by delta dAt;rw[YZ,Yi h];rfl
def I8(a:Cmps n ds):Ord λi j=>ltD (dAt ds i) (dAt ds j):=by
 by_cases b:ds=[]
 .subst b;have e:∀i,dAt [] i=.int 0:=λi=>by simp[dAt]
  exact#[λi j h=>?_,λi j k f c=>?_]
  .rw[e,e]at h;simp[ltD]at h
  .rw[e,e];simp[ltD]
 .let m:=λi=>uV b i
  exact#[λi j h=>?_,λi j k f c=>?_]
  .exact(gG n _ _ (a.1 _<|m i) (a.1 _<|m j)<|a.2 _ (m i) _<|m j).as h
  .exact rY (a.1 _<|m i) (a.1 _<|m j) (a.1 _<|m k) (a.2 _ (m i) _<|m j) (a.2 _ (m j) _<|m k) (a.2 _ (m i) _<|m k) (a.2 _ (m j) _<|m i) (a.2 _ (m k) _<|m j) (a.2 _ (m k) _<|m i) f c
theorem yi(m:Cmps n ds){p}(b:PermN ds.length p)(l:Ris (λi j=>ltD (dAt ds i) (dAt ds j)) p ds.length):p.toList.map (dAt ds)=aZ ds:=by
 exact qG ?_ m ?_
 .have g:(p.toList.map _).Perm ((List.range ds.length).map<|dAt ds):=b.perm.map _;have o:(List.range ds.length).map (dAt ds)=ds:=by
   apply Xn;intro i;rw[Yt];by_cases h:i<ds.length
   .rw[Xp h,Zy,uU h]
   .rw[Zm<|by rw[Zs];lia,Zm<|by lia];rfl
  rwa[o]at g
 .rw[ZZ,Vb];intro i j f c a;let q:=b.size;rw[Zr]at f c;have:=l i j (ZG a) (by lia);simp_all
theorem Reps.perm(r:Reps K H vs ds)(a:ds≠[]):∀(l:List Nat),(∀i∈l,i<ds.length)->Reps K H (l.map λi=>vs.getD i .non) (l.map (dAt ds))
 |[],_=>.nil
 |i::l,h=>by
  let#[v,f,c]:=r.get<|uU<|h i Ye;have e:vs.getD i .non=v:=by rw[YZ,f];rfl
  rw[YF,YF];rw[e];exact .cons c<|Reps.perm r a l λj b=>h j<|Yd _ b
theorem Vals.perm(r:Vals vs us):∀(l:List Nat),(∀i∈l,i<vs.length)->Vals (l.map λi=>vs.getD i .non) (l.map λi=>us.getD i Value.none)
 |[],_=>.nil
 |i::l,h=>by
  let a:=h i Ye;let#[u,e,c]:=r.get<|Yi a;have g:vs.getD i .non=vs[i]:=by rw[YZ,Yi];rfl
  have f:us.getD i Value.none=u:=by rw[YZ,e];rfl
  rw[YF,YF];rw[g,f];exact .cons c<|Vals.perm r l λj b=>h j<|Yd _ b
def tyD:D->Value
 |.int _=>.type "int"
 |.str _=>.type "str"
 |_=>.type "tuple"
def Rep.ty(I:Inv X pz σ H s)(h:Rep X.K H v d)(c:fk d)(r:RelV v u)M:Looks M s.heap (typeOf u) (tyD d):=by
 cases d with
 |int i=>cases h;let#[t,rfl]:=(show ∃t,u=Value.int _ t from r);exact Looks.of_pure qx
 |str i=>cases h;let#[t,rfl]:=(show ∃t,u=Value.str _ t from r);exact Looks.of_pure qx
 |tup ds=>
  cases h with
  |tup h1 h2=>
   cases(show u=Value.ref _ from r);let#[a,g,#[o,b,e,n,j],_]:=I.tuple<|SqT.of h1;have:=(Looks.ld (M:=M) (part:=()) b).andThen (f:=λo=>pure o.cls) .now;rwa[e]at this
 |_=>cases c
def yc{x}(h:aH x y)(hx:fk x):tyD x=tyD y:=by
 rcases bB h with⟨i,j,rfl,rfl⟩|⟨i,j,rfl,rfl⟩|⟨i,j,rfl,rfl⟩|⟨i,j,rfl,rfl,_⟩
 .rfl
 .cases hx
 .rfl
 .rfl
def rJ:List D->SortKind
 |.tup (d::_)::_=>tuples'<|tyD d != .type "tuple"
 |_=>oneType'
def xC(I:Inv X pz σ H s):∀{vs}{ds}{us},Reps X.K H vs ds->Vals vs us->(∀d∈ds,∃x r,d=.tup (x::r)/\fk x)->∀T:Value,(∀x r,.tup (x::r)∈ds->tyD x=T)->
  ∃fs:List Value,KatTups s.heap us fs/\fs.length=us.length/\∀M,∀v∈fs,Looks M s.heap (typeOf v) T:=by
 intro vs ds us h;exact Reps.ind (M:=λvs ds=>∀us:List Value,Vals vs us->(∀d∈ds,∃x r,d=.tup (x::r)/\fk x)->∀T:Value,(∀x r,.tup (x::r)∈ds->tyD x=T) ->     ∃fs:List Value,KatTups s.heap us fs/\fs.length=us.length/\∀M,∀v∈fs,Looks M s.heap (typeOf v) T) (λus r k k k=>by cases r;exact#[[],.nil,qx,λk k h=>by cases h]) (λh k ih us g b T c=>by
  cases g with
  |cons r t=>
  let#[x,f,rfl,l]:=b _ Ye;let#[fs,z,y,w]:=ih _ t (λd m=>b d<|Yd _ m) T λx r m=>c x r<|Yd _ m
  cases h with
  |tup h1 h2=>
   cases(show _=Value.ref _ from r);let#[j,e,#[o,p,q,n,a],_]:=I.tuple<|SqT.of h1;cases h2 with
   |cons u B=>
    cases e with
    |cons i A=>
     exact#[_::fs,KatTups.cons p q a (by simp;rfl) z,by rw[Yv,Yv,y],λM v hv=>?_];rcases Ys.mp hv with rfl|hv
     .rw[<-c x f Ye];exact u.ty I l i M
     .exact w M v hv) h us
def tT(h:sk d)(a:kL d=false):fk d:=by cases d<;>first|rfl|cases h|cases a
def FC(I:Inv X pz σ H s)(r:Reps X.K H vs ds)(q:Vals vs us)(ok:bL ds)(h2:2<=us.length){Q}(w:Q (rJ ds) s):wpAny M A (keyKind' us.toArray) Q E s:=by
 let#[hl,L,p,C]:=gw ok;let R:=r.length;let l2:=q.length;cases ds with
 |nil=>rw[YV]at R;lia
 |cons d B=>
  have f:d∈d::B:=Ye;cases g:kL d with
  |true=>
   cases d with
   |tup xs=>
    cases xs with
    |nil=>have:=p _ f;cases this
    |cons x O=>
     have S:=C _ f;have all:∀c∈(D.tup (x::O)::B),∃y b,c=.tup (y::b)/\fk y/\tyD y=tyD x:=λc m=>by
      let a:=L.2 _ f _ m;rcases bB a with⟨i,j,e,_⟩|⟨i,j,e,_⟩|⟨i,j,e,_⟩|⟨i,j,e,z,o⟩
      .cases e
      .cases e
      .cases e
      .cases e;subst z;cases j with
       |nil=>have:=p _ m;cases this
       |cons y b=>
        rw[bh,Yr]at o;exact#[y,b,qx,C _ m,(yc o.1 S).symm]
     let#[fs,f1,f2,Z]:=xC I r q (λc m=>by let#[y,b,e,h,_]:=all c m;exact#[y,b,e,h]) _ λy b m=>by
      let#[y',P,e,_,h]:=all _ m;cases e;exact h
     exact kat_kind f1 (by lia) (Z M) (by cases x<;>rfl) w
   |_=>cases g
  |false=>
   have J:=tT (p d f) g;have e:rJ (d::B)=oneType':=by cases d<;>first|rfl|cases g
   rw[e]at w;have Y:∀u∈us,Looks M s.heap _ (tyD d):=λu T=>by
    let#[i,U,eu]:=Zw T;have l:i<vs.length:=by lia
    let#[u',N,z]:=q.get<|Yi l;rw[Yi U,eu]at N;cases N;let#[c,e3,e4]:=r.getV<|Yi l;let m:=YR e3;let a:=L.2 _ f _ m;rw[yc a J];exact e4.ty I ?_ z M;exact tT (p c m) ?_;rcases bB a with⟨i,j,rfl,rfl⟩|⟨i,j,rfl,rfl⟩|⟨i,j,rfl,rfl⟩|⟨i,j,rfl,rfl,_⟩
    .rfl
    .rfl
    .rfl
    .cases g
   exact kas_kind h2 Y ?_ ?_ w
   .cases d<;>first|rfl|(simp[fk]at J;done)|(simp[kL]at g;done)
   .cases d<;>rfl
def FG{b}{n1 n2}:∀{us f}{ds es} i,LexOk false A s us f ds es->(b=true->i=0->∀u j d e o wr y er,us=u::o->f=j::wr->ds=d::y->es=e::er->∀(Q:Kb) (E:Kv),Q (ltD d e) s->wpAny (model prog w) A (oneLt' true u j) Q E s)->
  us.length+n2=f.length+n1->Q (d6 ds es) s->KatLex prog w A b (decide<|n1<n2) Q (us.zip f) i s:=by
 intro us f ds es i h;induction h generalizing i with
 |@nl f es hl=>
  intro _ g a;rw[Uk];exact kat_nil ?_;rw[YV]at g;cases es with
  |nil=>
   rw[YV]at hl;rw[show d6 [] []=false by simp[d6]]at a;rwa[YB<|by lia]
  |cons c r=>
   rw[Yv]at hl;rw[show d6 [] (c::r) by simp[d6]]at a;rwa[YI<|by lia]
 |@nr vs ds hl=>
  intro _ g a;rw[Ud];exact kat_nil ?_;rw[YV]at g;cases ds with
  |nil=>
   rw[YV]at hl;rw[show d6 [] []=false by simp[d6]]at a;rwa[YB<|by lia]
  |cons c r=>
   rw[Yv]at hl;rw[show d6 (c::r) []=false by simp[d6]]at a;rwa[YB<|by lia]
 |@cons v j d e _ _ _ _ p l B ih=>
  intro x g a;rw[XR];rw[Yv,Yv]at g;exact kat_cons<|p prog w _ _ ?_;cases q:eqd d e with
  |true=>
   rw[d6,Yl q]at a;exact kat_yes<|ih (i+1) (λ_ z=>by lia) (by lia) a
  |false=>
   rw[d6,Yn<|by rw[q];exact Yk]at a;exact kat_no ?_;cases m:(b&&i == 0)with
   |true=>
    rw[Yr]at m;exact x m.1 (by simpa using m.2) _ _ _ _ _ _ _ _ qx qx qx qx _ _ a
   |false=>exact kat_one _ _<|l q prog w _ _ a
def Dt{x y}{d e}(h1:Rep X.K H x d)(h2:Rep X.K H y e)(c:aH d e)(hd:fk d)(g:kL d=false)(b:RelV x u)(a:RelV y v)(h:Q (ltD d e) s):wpAny (model prog w) A (oneLt' true u v) Q E s:=by
 rcases bB c with⟨i,j,rfl,rfl⟩|⟨i,j,rfl,rfl⟩|⟨i,j,rfl,rfl⟩|⟨i,j,rfl,rfl,_⟩
 .cases h1;cases h2;let#[t,rfl]:=(show ∃t,u=Value.int _ t from b)
  let#[f,rfl]:=(show ∃t,v=Value.int _ t from a)
  exact oneLt_int<|by rwa[ltD]at h
 .cases hd
 .cases h1;cases h2;let#[t,rfl]:=(show ∃t,u=Value.str _ t from b)
  let#[f,rfl]:=(show ∃t,v=Value.str _ t from a)
  exact oneLt_str<|by rwa[ltD]at h
 .cases g
def JV(I:Inv X pz σ H s)(r:Reps X.K H vs ds)(B:Vals vs us)(ok:bL ds)(hu:A.units+60<cLine){C:Kb}(hi:i<us.length)(hj:j<us.length)(P:C (ltD (dAt ds i) (dAt ds j)) s):kas_ask prog w A (rJ ds) us i j C s:=by
 let#[hl,l,J,hf]:=gw ok;let l1:=r.length;let l2:=B.length;let#[v,e1,T]:=r.get<|uU (show i<ds.length by lia);let#[v',e2,S]:=r.get<|uU (show j<ds.length by lia);let#[u,e3,Z]:=B.get e1;let#[R,e4,Y]:=B.get e2;have p:ds≠[]:=λz=>by rw[z,YV]at l1;lia
 let m:=uV p i;let U:=uV p j;let g:=l.2 _ m _ U;delta kas_ask;have g1:us.getD i Value.none=u:=by rw[YZ,e3];rfl
 have g2:us.getD j Value.none=R:=by rw[YZ,e4];rfl
 rw[g1,g2];generalize hx:dAt ds i=x,hy:dAt ds j=y at *;cases o:kL x with
 |false=>
  have e:rJ ds=oneType':=by
   cases ds with
   |nil=>exact absurd qx p
   |cons d dr=>
    have:=l.2 _ m d Ye;rcases bB this with⟨i,j,rfl,rfl⟩|⟨i,j,rfl,rfl⟩|⟨i,j,rfl,rfl⟩|⟨i,j,rfl,rfl,_⟩
    .rfl
    .rfl
    .rfl
    .cases o
  rw[e,keyLt'_oneType];exact Dt T S g (tT (J _ m) o) o Z Y P
 |true=>
  cases x with
  |tup xs=>
   cases xs with
   |nil=>have:=J _ m;cases this
   |cons q xr=>
    rcases bB g with⟨_,_,e,_⟩|⟨_,_,e,_⟩|⟨_,_,e,_⟩|⟨xs',ys,e,rfl,h⟩
    .cases e
    .cases e
    .cases e
    .cases e;have ek:rJ ds=tuples' (tyD q != .type "tuple"):=by
      cases ds with
      |nil=>exact absurd qx p
      |cons d dr=>
       have:=l.2 _ m d Ye;rcases bB this with⟨_,_,e,_⟩|⟨_,_,e,_⟩|⟨_,_,e,_⟩|⟨_,zs,e,rfl,hz⟩
       .cases e
       .cases e
       .cases e
       .cases e;cases zs with
        |nil=>have:=J _ Ye;cases this
        |cons z0 zr=>
         rw[bh,Yr]at hz;show tuples' _=_;rw[yc hz.1<|hf _ m]
     rw[ek];cases T with
     |tup a1 a2=>
      cases S with
      |tup b1 b2=>
       cases(show u=Value.ref _ from Z);cases(show R=Value.ref _ from Y);let#[its1,b,#[o1,M,hc1,n1,O],_]:=I.tuple<|SqT.of a1;let#[its2,a,#[o2,L,hc2,n2,N],_]:=I.tuple<|SqT.of b1;have oi:=l.1 _ m;have oj:=l.1 _ U;let f:=Reps.lex I 27 A (by lia) (Rep.le (c:=false) I 27 A<|by lia) a2 b2 (cu oi) (cu oj) h b a;exact kat_lt M O L N ?_;simp[Yy];exact FG 0 f (λhb _ u0 w0 d0 e0 ur wr dr er q1 q2 q3 q4 Q E hq=>?_) (by lia) (by rwa[ltD]at P);subst q1 q2 q4;cases q3;cases a2 with
       |cons a3 a4=>
        cases b2 with
        |cons b3 b4=>
         cases b with
         |cons c1 c2=>
          cases a with
          |cons c3 c4=>
           rw[bh,Yr]at h;exact Dt a3 b3 h.1 (hf _ m) ?_ c1 c3 hq;cases q<;>first|rfl|(simp[tyD]at hb)
  |_=>cases o
def vi(I:Inv X pz σ H s)(r:Reps X.K H vs ds)(g:Vals vs us)(ok:bL ds)(S:X.A.units+64<cLine){Q}(O:∀a (p:List Nat) s',H a=()->(∀i∈p,i<ds.length)->p.length=ds.length->p.map (dAt ds)=aZ ds->Inv X pz σ (upd H a<|.lst<|p.map λi=>vs.getD i .non) s'->Q (.ref a) s'):uT X.prog X.w X.A Q us s:=by
 let#[T,z,_,_]:=gw ok;let m:=r.length;let y:=g.length;exact#[by lia,rJ ds,_,I8 z,λP B k Q E q=>FC (I.kept k) r g ok P q,λB k i j C c N L=>?_,λp M J a B e k b f=>?_]
 .have o:X.A.in1.in1.units+60<cLine:=by show X.A.units+1+1+60<cLine;lia
  exact JV (I.kept k) r g ok o c N L
 .have h:PermN ds.length p:=by rwa[<-m,y]
  have u:Ris (λi j=>ltD (dAt ds i)<|dAt ds j) p ds.length:=by rwa[<-m,y]
  let R:=yi z h u;have bd:∀i∈p.toList,i<ds.length:=λi c=>Zf.mp<|h.perm.mem_iff.mp c
  have x:=I.hok.fresh b;have l:p.toList.length=ds.length:=by rw[Zr];exact h.size
  exact O a p.toList _ x bd l R<|I.laid k b #[?_,p.toList.map λi=>us.getD i Value.none,e,Vals.perm g p.toList λi c=>by rw[m];exact bd i c,?_]
  .rw[Ya,l,YT];lia
  .exact f
def vS(y:X.A.units+64<cLine):CallR X (.builtin "sorted") (λxs H Q=>∃a vs ds,xs=[.ref a]/\(SqL X.K H a vs\/SqT X.K H a vs)/\Reps X.K H vs ds/\bL ds/\∀l (p:List Nat),H l=()->(∀i∈p,i<ds.length)->p.length=ds.length->p.map (dAt ds)=aZ ds->Q (.ref l) (upd H l (.lst (p.map λi=>vs.getD i .non)))):=by
 intro x s m H xs E Q I r h;let#[a,vs,ds,rfl,hq,z,ok,q]:=h;let#[u,rfl,o]:=fB r;cases o;exact nv ?_;have fin:∀c:List Value,Vals vs c->uT X.prog X.w X.A (EP X x m Q) c {s with heap:=(s.heap.push _).update s.heap.objs.size<|Obj.mapSeq (·++c.toArray)}:=λc f=>
  vi (I.kept λb u e=>pW e) z f ok y λl p J B b1 b2 b3 C=>#[.ref l,_,C,qx,q l p B b1 b2 b3]
 rcases hq with hq|hq
 .let#[c,f,g,j]:=I.list hq;exact collect_list g.isList (fin c f)<|by rwa[<-f.length]
 .let#[c,f,g,j]:=I.tuple hq;exact qY g (fin c f)<|by rwa[<-f.length]
def nj(fa:Dd):DF->Option (List D):=λb=>(fa b).bind λd=>(fK d).bind λa=>if bL a then !aZ a else ()
def gc(J:X.A.units+64<cLine)(M:Gl X "sorted")(L:X.mg "sorted"=())(f:PDR X e fa)(hs:starEach [e] X.env=[(false,eval e X.env)]:=by rfl)(o:(backTo pos (starEach [] X.env)).any (·.1)=false:=by rfl):PDO X (.Call (.Name "sorted" p) [e] [] pos) (asL<|nj fa):=
 (g_ (vS J) M L mX (aQ f bw hs) (by decide) (by decide) hs o).imp λN H Q=>un7 λP F z O h I k=>by
  delta asL nj at h;cases f:fa z with
  |none=>rw[f]at h;cases h
  |some w=>
  rw[f,Yb]at h;cases c:fK w with
  |none=>rw[c]at h;cases h
  |some b=>
  rw[c,Yb]at h;split at h
  .rename_i ok;cases h;exact#[P,F,z,w,f,I,λx y E j B=>?_];let m:=I.evo j;have fin:∀a,Reps X.K y a b->∀l (p:List Nat),E l=()->(∀i∈p,i<b.length)->p.length=b.length->p.map _=aZ b->Q _ (upd E l<|.lst<|p.map λi=>a.getD i .non):=λa r l p s b1 b2 b3=>by
    exact k l y _ (j.trans<|Evo.side j.hp s) #[#[j.back I.toDHp s,(j.hp.free s).1],_,aD,?_];by_cases C:b=[]
    .subst C;have:p=[]:=Zq.mp b2;rw[this];exact .nil
    .rw[<-b3];exact r.perm C p b1
   cases w with
   |lst ds'=>
    cases c;let#[q,a,rfl,u,g]:=e_ m B;exact#[q,a,b,qx,.inl u,g.same m.sub,ok,fin a g]
   |tup ds'=>
    cases c;let#[q,a,rfl,u,g]:=kO m B;exact#[q,a,b,qx,.inr u,g.same m.sub,ok,fin a g]
   |_=>cases c
  .cases h
end L2
namespace L2
open PySem PySem.Spec PyProof.Rows
def gU{α:Type}(xs:List α)(lo hi:Option Int):List α:=(xs.drop<|HT.sIx xs.length 0 lo).take<|HT.sIx xs.length xs.length hi-HT.sIx xs.length 0 lo
def Reps.cut(r:Reps K F vs ds)lo hi:Reps K F (Aq vs lo hi) (gU ds lo hi):=by delta Aq gU;rw[r.length];exact(r.drop _).take _
def tOI(K:Kq)(f:DF->Option (Option Int)):TO:=λe H Q=>∃P F a b,f a=!b/\DInv K P F H a e/\∀g c,Evo P F H g c->Q b c
def PDB(X:Cx)(e:Option Expr)(f:DF->Option (Option Int)):Prop:=PO X e<|tOI X.K f
def bNo:DF->Option (Option Int):=λ_=>!()
def bI(f:Dd):DF->Option (Option Int):=λa=>match f a with
 |some (.int i)=>!!i
 |_=>()
section
variable{a:Expr}{lo hi:Option Expr}{fl fh:DF->Option (Option Int)}
def PO.imp{t t'}{e}(h:PO X e t)(i:∀σ H Q,t' σ H Q->t σ H Q):PO X e t':=λp s σ H Q I q=>h p s σ H Q I<|i σ H Q q
def yg:PDB X () bNo:=PO.imp FW λa H Q=>un7 λP F c b h I k=>by
 cases h;exact k F H<|Evo.refl I.toDHp
open A in
def vF{f:Dd}(h:PDE X e f):PDB X (!e) (bI f):=PO.imp (G8 h) λm H Q=>un7 λP F c b a I k=>by
 delta bI at a;split at a
 .rename_i i q;cases a;exact#[P,F,c,_,q,I,λv l j g r=>?_];cases r;exact#[i,qx,k l j g]
 .cases a
def slL(fe:Dd)(fl fh:DF->Option (Option Int)):DF->Option (List D):=λa=>match fe a with
 |some (.lst xs)=>(fl a).bind λl=>(fh a).map λh=>gU xs l h
 |_=>()
def jy(he:PDR X e fe)(A:PDB X lo fl)(B:PDB X hi fh):PDO X (.Subscript e (.Slice lo hi () p2) pos) (asL (slL fe fl fh)):=(Cz Gf he A B).imp λM H Q=>un7 λP F b O c I k=>by
 delta asL at c;cases q:slL fe fl fh b with
 |none=>rw[q]at c;cases c
 |some y=>
 rw[q]at c;cases c;delta slL at q;split at q
 .rename_i N w;cases g:fl b with
  |none=>rw[g]at q;cases q
  |some l=>
  rw[g,Yb]at q;cases f:fh b with
  |none=>rw[f]at q;cases q
  |some h=>
  rw[f]at q;cases q;exact#[P,F,b,_,w,I,λx L T m u=>#[P,L,b,l,g,I.evo m,λK S j=>#[P,K,b,h,f,(I.evo m).evo j,λJ R o=>?_]]];let a:=(m.trans j).trans o;let#[z,s,rfl,E,C]:=e_ (I.evo a)<|(u.evo j).evo o;exact#[z,s,qx,E,λp i=>k p J _ (a.trans<|Evo.side a.hp i) #[#[a.back I.toDHp i,(a.hp.free i).1],_,aD,C.cut l h]]
 .cases q
def C4(K:Kq):R2:=λx y H Q=>∃a b c e,x=.ref a/\y=.ref b/\SqT K H a c/\SqT K H b e/\c.length+e.length<=sizeLine /\
 (c=[]->Q (.ref b) H)/\(c≠[]->e=[]->Q (.ref a) H)/\(c≠[]->e≠[]->∀p,H p=()->Q (.ref p) (upd H p<|.tup<|c++e))
def Eh:OpR X (binaryOp .Add) (C4 X.K):=by
 intro U s M H x y v u Q I w q h;let#[a,b,p,N,rfl,rfl,E,C,hz,T,S,R]:=h;by_cases e:p=[]
 .cases w;cases q;let#[c,P,Z,_]:=I.tuple E;let#[i,r2,Y,_]:=I.tuple C;let hi:=P.nil_iff.mpr e;let#[#[cls,dd,J,O],z,B,n,A]:=id Z;let#[#[L,m,o,l],f,j,n2,g]:=id Y;subst B A j g;exact concat_meets #[_,z,qx] #[_,f,qx] noFill_tuple_add seq_tuple_add F.slot_tuple_add F.entry_tuple_add (F.args_tuple_add_2 _ _)
   (tuple_addW0 a b c.toArray i.toArray n n2 dd m O l<|by simp[hi]) #[z,f,#[.ref b,H,I,qx,T e]]
 .exact FY U s M H _ _ v u Q I w q #[a,b,p,N,qx,qx,E,C,e,hz,S e,R e]
def aU:D->D->Option D
 |.int i,.int j=>!.int (i+j)
 |.str x,.str y=>if x.length+y.length<=16777216 then !.str (x++y) else ()
 |.lst xs,.lst ys=>if xs.length+ys.length<=16777216 then !.lst (xs++ys) else ()
 |.tup xs,.tup ys=>if xs.length+ys.length<=16777216 then !.tup (xs++ys) else ()
 |_,_=>()
def Reps.nil_iff(r:Reps K H vs ds):vs=[]↔ds=[]:=by
 cases r with
 |nil=>simp
 |cons _ _=>simp
open A in
def Fh:vf K (λx y H Q=>KW x y H Q\/(Hk K x y H Q\/C4 K x y H Q)) aU:=by
 intro P F H E C x y L J d Q a I g f k;delta aU at a;split at a
 .cases a;exact .inl<|.inl #[_,_,dm g,dm f,k _ F H (Evo.refl I.toDHp) .int]
 .split at a
  .rename_i h;cases a;exact .inl<|.inr #[_,_,ou g,ou f,by rwa[YT],k _ F H (Evo.refl I.toDHp) .str]
  .cases a
 .split at a
  .rename_i o;cases a;let#[l,j,rfl,s,e]:=e_ I g;let#[m,b,rfl,q,c]:=e_ I f;exact .inr<|.inl #[l,m,j,b,qx,qx,s,q,by rwa[e.length,c.length,YT],λp i=>k _ _ _ (Evo.laid I.toDHp i)<|.lst (SqL.of aD)<|(e.append c).same<|lG (I.toDHp.free i).1]
  .cases a
 .split at a
  .rename_i B A o;cases a;let#[l,j,rfl,s,e]:=kO I g;let#[m,b,rfl,q,c]:=kO I f;have u:∀{y}{w},RepS K H F y _->Rep K F y (.tup w):=λh=>by
    rcases h with h|⟨_,ob,_,_,_,_,_,hfl,z⟩
    .exact h
    .cases ob<;>first|(cases z;done)|cases hfl
   exact .inr<|.inr #[l,m,j,b,qx,qx,s,q,by rwa[e.length,c.length,YT],λz=>?_,λ_ z=>?_,λ_ _ p i=>?_]
   .have:B=[]:=e.nil_iff.mp z;subst this;exact k _ F H (Evo.refl I.toDHp)<|u f
   .have:A=[]:=c.nil_iff.mp z;subst this;rw[Zc]at k;exact k _ F H (Evo.refl I.toDHp)<|u g
   .exact k _ _ _ (Evo.laid I.toDHp i)<|.tup aD<|(e.append c).same<|lG (I.toDHp.free i).1
  .cases a
 .cases a
def aT(c:PDR X a fa)(h:PDR X b fb):PDE X (.BinOp a .Add b pos) (d2 aU fa fb):=jY ((Iw.or xc).or<|FV.or Eh) Fh c h
def isT:String->D->Option Bool
 | "int",.int _=>!true
 | "bool",.int _=>!false
 | "list",.lst _=>!true
 | "tuple",.tup _=>!true
 |_,_=>()
def MK(K:Kq):List V->Hp->VK->Prop:=λa H Q=>∃x T d b,a=[x,.ty T]/\Rep K H x d/\isT T d=!b/\Q (.bl b) H
open A in
def Bu:CallR X (.builtin "isinstance") (MK X.K):=by
 intro p s j H z A Q I r h;let#[x,T,d,b,rfl,m,f,q]:=h;let#[u,w,rfl,a,l]:=Hy r;cases(show w=Value.type T from l);have i:EP X p j Q _ s:=#[.bl b,H,I,qx,q]
 have y:EP X p j Q _ {s with toks:=s.toks+1}:=#[.bl b,H,I.tok _,qx,q]
 delta isT at f;split at f<;>cases f<;>cases m
 .let#[t,rfl]:=(show ∃t,u=Value.int _ t from a);exact IsiPair.int_int i
 .let#[t,rfl]:=(show ∃t,u=Value.int _ t from a);exact IsiPair.int_bool y
 .cases(show u=Value.ref _ from a);rename_i g _;let#[_,_,#[o,n,e,c,_],_]:=I.list g;exact IsiPair.list_list e c i
 .cases(show u=Value.ref _ from a);rename_i g _;let#[_,_,#[o,e,c,_],_]:=I.tuple<|SqT.of g;exact IsiPair.tuple_tuple e c i
def jM(T:String)(d:D):Option D:=(isT T d).map .bl
def lK{T}(u:Gl X "isinstance")(s:X.mg "isinstance"=())(i:Gl X x)(g:X.mg x=())(hv:bootBuiltins x=!.type T)(w:PDN X a fa)(o:x ≠ "__name__":=by decide)(hd:nDb x:=by decide)(hs:starEach [a,.Name x p1] X.env=[(false,eval a X.env),(false,eval (.Name x p1) X.env)]:=by rfl)(c:starEach [.Name x p1] X.env=[(false,eval (.Name x p1) X.env)]:=by rfl)(f:(backTo pos<|starEach [.Name x p1] X.env).any (·.1)=false:=by rfl):PDE X (.Call (.Name "isinstance" p) [a,.Name x p1] [] pos) (d1 (jM T) fa):=
 (g_ Bu u s nK (aQ w (aQ (Gj (v:=.ty T) i g hv qx o hd) bw c)<|by rw[hs,c]) (by decide) (by decide) (by rw[hs,c]) f).imp λC H Q=>un7 λP F l d h I k=>by
  delta d1 jM at h;cases q:fa l with
  |none=>rw[q]at h;cases h
  |some j=>
   rw[q,Yb]at h;cases e:isT T j with
   |none=>rw[e]at h;cases h
   |some b=>
    rw[e]at h;cases h;exact#[P,F,l,j,q,I,λy B A z m=>#[y,T,j,b,qx,m,e,k _ B A z .bl]]
end
theorem wM(I:Inv X pz σ H s){xs}(h1:SqT X.K H a xs)(h2:SqL X.K H a ys):False:=by let#[_,_,#[o,e,c,_],_]:=I.tuple h1;let#[_,_,#[g,n,b,f,_],_]:=I.list h2;grind
def Reps.detOf(ih:∀{v}{d d'},okN n d->okN n d'->Rep X.K H v d->Rep X.K H v d'->d=d')(h:Reps X.K H vs ds):∀b:List D,(∀d∈ds,okN n d)->(∀d∈b,okN n d)->Reps X.K H vs b->ds=b:=
 Reps.ind (M:=λvs ds=>∀b:List D,(∀d∈ds,okN n d)->(∀d∈b,okN n d)->Reps X.K H vs b->ds=b) (λb z z r=>by cases r;rfl) (λa z i b h c r=>by
  cases r with
  |cons f e=>rw[ih (h _ Ye) (c _ Ye) a f,i _ (λd m=>h d<|Yd _ m) (λd m=>c d<|Yd _ m) e]) h
def Rep.det1(I:Inv X pz σ H s)n(ih:∀m,n=m+1->∀{v}{d d'},okN m d->okN m d'->Rep X.K H v d->Rep X.K H v d'->d=d')(h:okN n d)(h':okN n d')(q:Rep X.K H v d)(r:Rep X.K H v d'):d=d':=by
 cases q with
 |non=>cases r;rfl
 |bl=>cases r;rfl
 |int=>cases r;rfl
 |str=>cases r;rfl
 |tup a1 a2=>
  cases r with
  |tup b1 b2=>
   rw[a1]at b1;cases b1;cases n with
   |zero=>cases h
   |succ n=>rw[Reps.detOf (ih n qx) a2 _ (cu h) (cu h') b2]
  |lst b1 b2=>exact(wM I (SqT.of a1) b1).elim
  |dT b1 b2=>rw[a1]at b1;cases b1
  |dK b1 b2=>rw[a1]at b1;cases b1
  |ins b1 b2=>rw[a1]at b1;cases b1
  |fn b=>cases n<;>cases h'
 |lst a1 a2=>
  cases r with
  |tup b1 b2=>exact(wM I (SqT.of b1) a1).elim
  |lst b1 b2=>
   let e:=I.list_inj a1 b1;subst e;cases n with
   |zero=>cases h
   |succ n=>rw[Reps.detOf (ih n qx) a2 _ (cu h) (cu h') b2]
  |_=>cases n<;>cases h'
 |_=>cases n<;>cases h
def Rep.det(I:Inv X pz σ H s)n:∀{v}{d d'},okN n d->okN n d'->Rep X.K H v d->Rep X.K H v d'->d=d':=by
 induction n with
 |zero=>exact λh a q r=>Rep.det1 I 0 (λm e=>by cases e) h a q r
 |succ n ih=>exact λh a q r=>Rep.det1 I (n+1) (λm e=>by cases e;exact ih) h a q r
def CG{v a}(h:RelV v u)(h':RelV a u):v=a:=RelV.inj h h'
open Classical in
def xN(us:List Value)(ds:List D)(dy:D)(u:Value):Bool:=decide (∃(i:Nat) (d:D),us[i]?=!u/\ds[i]?=!d/\eqd d dy=true)
open Classical in
def tK(I:Inv X pz σ H s){n:Nat}(r:Reps X.K H vs ds)(a:Vals vs us)(ok:∀d∈ds,okN n d=true){d:D}(h:us[i]?=!u)(hd:ds[i]?=!d):xN us ds dy u=eqd d dy:=by
 delta xN;cases q:eqd d dy with
 |true=>exact YI #[i,d,h,hd,q]
 |false=>
  exact YB ?_;rintro⟨j,m,l,b,g⟩;let#[v,x,w]:=r.get hd;let#[y,b1,b2]:=r.get b;let#[A,f,p]:=a.get x;let#[z,c,o]:=a.get b1;rw[h]at f;cases f;rw[l]at c;cases c;let e:=CG p o;subst e;have:=w.det I n (ok d (YR hd)) (ok m (YR b)) b2;rw[this,g]at q;cases q
theorem wn(I:Inv X pz σ H s){y}{e}(r:Reps X.K H vs ds)(a:Vals vs us)(ok:∀d∈ds,okN 29 d)(q:Rep X.K H y dy)(o:okN 30 dy)(C:RelV y e)(O:A.units+60<cLine):∀u∈us,SeqAt.EqAt A s u e (xN us ds dy u):=λu c=>by
 let#[i,g,j]:=Zw c;let M:=a.length;have h:i<vs.length:=by lia
 let#[J,p,E]:=a.get<|Yi h;rw[Yi g,j]at p;cases p;let#[d,m,w]:=r.getV<|Yi h;rw[tK I r a ok (by rw[Yi g,j]) m];let f:=ok d<|YR m;let#[Q,z]:=w.reads I 29 f E;let#[P,x]:=q.reads I 30 o C;let#[b,B]:=cU 29 d f;let#[l,L]:=cU 30 dy o;exact Vv _ _ A s _ _ _ _ z x b l ?_;lia
def i7(dy:D):List D->Option Nat
 |[]=>()
 |d::r=>if eqd d dy then !0 else(i7 dy r).map (· + 1)
theorem sB:∀{ds}{j},i7 dy ds=!j->(∃d,ds[j]?=!d/\eqd d dy)/\∀m,m<j->∃d,ds[m]?=!d/\eqd d dy=false
 |[],_,h=>by cases h
 |d::r,j,h=>by
  delta i7 at h;split at h
  .rename_i q;cases h;exact#[#[d,rfl,q],λm b=>by lia]
  .rename_i q;cases a:i7 dy r with
   |none=>rw[a]at h;cases h
   |some k=>
    rw[a]at h;let h:=YG h;let h:=h;subst h;let#[e,c]:=sB a;exact#[by simpa using e,λm b=>?_];cases m with
    |zero=>exact#[d,qx,by simpa using q]
    |succ m=>simpa using c m<|by lia
def MS(K:Kq):V->List V->Hp->VK->Prop:=λx e H Q=>∃l c b y a j,x=.ref l/\e=[y]/\SqL K H l c/\Reps K H c b/\Rep K H y a/\b.all (okN 29)/\okN 30 a/\i7 a b=!j/\Q (.int j) H
def Mq(K:Kq):V->List V->Hp->VK->Prop:=λx e H Q=>∃l c b y a,x=.ref l/\e=[y]/\SqL K H l c/\Reps K H c b/\Rep K H y a/\b.all (okN 29)/\okN 30 a/\Q (.int<|b.countP λd=>eqd d a) H
section
variable{a:Expr}
theorem Da(hu:X.A.units+64<cLine):MtR X "list.index" (MS X.K):=by
 intro pz s σ H x vs v us Q I P f h;let#[l,xs,e,y,B,j,rfl,rfl,Z,r,O,ok,T,hj,q]:=h;cases P;let#[u,rfl,R]:=f.one;let#[i,g,S,E]:=I.list Z;let#[#[cls,dd,M,N],n,J,L,hdd,c]:=S;simp at L c;subst L c;let#[#[d0,C,Y],U]:=sB hj;let l1:=r.length;let l2:=g.length;let hjl:=(Ym.mp C).1;have a:j<i.toArray.size:=by rw[Yy];lia
 let o:=cu ok;have b:∀m (w:m<i.toArray.size) d,e[m]?=!d->xN i e B i.toArray[m]=eqd d B:=λm w d c=>tK I r g o (by simp) c
 exact Vy F.slot_list_index #[_,J,qx] F.entry_list_index (F.args_list_index_2 _ _)
  (SeqAt.list_indexAt l i.toArray n dd N u _ j a (by have:=YT;lia) (by rwa[b j a d0 C]) λm w p=>?_) #[J,λz E=>wn I r g o O T R (by show X.A.units+1+60<cLine;lia) z<|by simpa using E,#[.int j,H,I.tok _,#[_,qx],q]]
 let#[d,e1,e2]:=U m p;rwa[b m w d e1]
def yn{f}(a:us.length=ds.length)(h:∀(i:Nat) u d,us[i]?=!u->ds[i]?=!d->f u=eqd d dy):us.countP f=ds.countP (λd=>eqd d dy):=by
 induction us generalizing ds with
 |nil=>cases ds with|nil=>rfl|cons _ _=>simp at a
 |cons u us ih=>
  cases ds with
  |nil=>simp at a
  |cons d ds=>
   rw[List.countP_cons,List.countP_cons,ih (by simpa using a) λi u d c b=>h (i+1) u d (by simpa using c)<|by simpa using b,h 0 u d qx qx]
theorem D2(hu:X.A.units+64<cLine):MtR X "list.count" (Mq X.K):=by
 intro pz s T H x Y v Z Q I C b h;let#[l,U,ds,y,m,rfl,rfl,M,r,B,ok,L,q]:=h;cases C;let#[u,rfl,E]:=b.one;let#[a,c,J,e]:=I.list M;let#[#[S,R,p,w],n,f,j,N,g]:=J;subst j g;let o:=cu ok;exact Vy F.slot_list_count #[_,f,qx] F.entry_list_count (F.args_list_count_2 _ _) (SeqAt.list_countAt l a.toArray n R w u _)
  #[f,λz e=>wn I r c o B L E (by show X.A.units+1+60<cLine;lia) z<|by simpa using e,?_]
 exact#[.int _,H,I.tok _,#[s.toks,?_],q];rw[yn (by rw[<-c.length,r.length]) λi u d P O=>tK I r c o P O]
def jL:D->D->Option D
 |.lst ds,y=>if(ds.all (okN 29)&&okN 30 y) then(i7 y ds).map (λ(j:Nat)=>D.int j)else ()
 |_,_=>()
def qT:D->D->Option D
 |.lst ds,y=>if(ds.all (okN 29)&&okN 30 y) then !.int (ds.countP λd=>eqd d y) else ()
 |_,_=>()
def DZ{f:Dy}(p:∀dx dy d,f dx dy=!d->∃ds,dx=.lst ds)(o:∀P F H l vs y ds dy d Q,f (.lst ds) dy=!d->DHp P F H->SqL K H l vs->Reps K H vs ds->Rep K H y dy->(∀v F' H',Evo P F H F' H'->Rep K F' v d->Q v H')->r (.ref l) [y] H Q):∀σ H Q,tD K (d2 f fa fb) σ H Q->tBM K "list" r (tN K fa) (ph (tN K fb) wu) σ H Q:=λσ H Q=>un7 λP F a d h I k=>by
 delta d2 at h;cases c:fa a with
 |none=>rw[c]at h;cases h
 |some dx=>
  rw[c]at h;cases b:fb a with
  |none=>rw[Yb,b]at h;cases h
  |some dy=>
   rw[Yb,b,Yb]at h;let#[ds,rfl]:=p dx dy d h;exact#[P,F,a,_,c,I,λx A B g j=>?_];cases j with
   |lst h1 h2=>
    exact#[.inl #[rfl,_,h1],P,A,a,dy,b,I.evo g,λy z u e i=>?_];let sm:=e.same g.hp;exact o P z u _ _ y ds dy d Q h e.hp (sm.seq h1) (h2.same sm) i λv w s q m=>k v w s ((g.trans e).trans q) m
def kY(s:X.A.units+64<cLine)(w:PDN X o fa)(z:PDN X e fb)(f:attributeBase o "index" X.env (eval o X.env)=eval o X.env:=by rfl)(g:((backTo cpos<|starEach [e] X.env).all (λx=>(not<|x.1))&&(backToKw cpos<|keywordEach [] X.env).all (λx=>x.1.isSome)
   && decide (([e]).length+([]:List Keyword).length+(if([]:List Keyword).isEmpty then 0 else 1)<30)):=by rfl)(b:(apos.endLine == cpos.line):=by rfl)(hs:starEach [e] X.env=[(false,eval e X.env)]:=by rfl):PDE X (.Call (.Attribute o "index" apos) [e] [] cpos) (d2 jL fa fb):=
 (kU Zb F.slot_list_index F.type_list_index (Da s) w (aQ z bw hs) f g b hs qx).imp (DZ λI i d h=>by cases I<;>first|exact#[_,rfl]|cases h
  λP F H l p y m i d Q a u E C B k=>by
   have a:(if(m.all _&&okN 30 i) then(i7 i m).map (λj=>D.int _)else ())=!d:=a;split at a
   .rename_i c;rw[Yr]at c;let#[j,q,rfl]:=Zd.mp a;exact#[l,p,m,y,i,j,qx,qx,E,C,B,c.1,c.2,q,k _ F H (Evo.refl u) .int]
   .cases a)
def xa(p:X.A.units+64<cLine)(s:PDN X o fa)(u:PDN X e fb)(b:attributeBase o "count" X.env (eval o X.env)=eval o X.env:=by rfl)(f:((backTo cpos<|starEach [e] X.env).all (λx=>(not<|x.1))&&(backToKw cpos<|keywordEach [] X.env).all (λx=>x.1.isSome)
   && decide (([e]).length+([]:List Keyword).length+(if([]:List Keyword).isEmpty then 0 else 1)<30)):=by rfl)(a:(apos.endLine == cpos.line):=by rfl)(hs:starEach [e] X.env=[(false,eval e X.env)]:=by rfl):PDE X (.Call (.Attribute o "count" apos) [e] [] cpos) (d2 qT fa fb):=
 (kU Zb F.slot_list_count F.type_list_count (D2 p) s (aQ u bw hs) b f a hs qx).imp (DZ λC i d h=>by cases C<;>first|exact#[_,rfl]|cases h
  λP F H l m y j i d Q g q B z w k=>by
   have g:(if(j.all _&&okN 30 i) then !D.int _ else ())=!d:=g;split at g
   .rename_i c;rw[Yr]at c;cases g;exact#[l,m,j,y,i,qx,qx,B,z,w,c.1,c.2,k _ F H (Evo.refl q) .int]
   .cases g)
end
section
variable{a l:Expr}
def xi:D->Option D
 |.int i=>!.int (-i)
 |_=>()
def BI(h:PDE X a fa):PDE X (.UnaryOp .USub a pos) (d1 xi fa):=(Lj HV h).imp λm H Q=>un7 λP F c d b I k=>by
 let#[g,q,b]:=YK.mp b;cases g with
 |int i=>
  cases b;exact#[P,F,c,_,q,I,λv l j f e=>?_];cases e;exact#[i,qx,k _ l j f .int]
 |_=>cases b
def tV{i}(a:Gl X x)(h:X.mg x=!.int i t)(hd:nDb x:=by decide):PDE X (.Name x pos) (λ_=>!.int i):=zO (FX a h (v:=.int i) #[t,qx] hd) λ_=>.int
def um:D->Bool
 |.bl _=>true
 |_=>false
def trD:D->Bool
 |.bl b=>b
 |_=>false
def qF:D->Option D
 |.lst ds=>if ds.all um then !.bl (ds.all trD) else ()
 |_=>()
def MM(K:Kq):List V->Hp->VK->Prop:=λx H Q=>∃l b a,x=[.ref l]/\SqL K H l b/\Reps K H b a/\a.all um/\Q (.bl<|a.all trD) H
theorem Bn:(List.range ds.length).all (λi=>trD (ds.getD i .non))=ds.all trD:=by
 rw[Bool.eq_iff_iff,Yh,Yh];constructor
 .intro h d b;let#[i,a,e]:=Zw b;have:=h i<|Zf.mpr a;rwa[YZ,Yi a,e]at this
 grind
theorem An(N:X.calm):CallR X (.builtin "all") (MM X.K):=by
 intro pz s Y H Z us Q I r h;let#[l,vs,g,rfl,M,y,O,q]:=h;let#[u,rfl,J]:=fB r;cases J;let#[a,x,L,hz]:=I.list M;let m:=L.isList;let l1:=y.length;let l2:=x.length;exact call_all_walk<|Vx m ?_;have p:l<s.heap.objs.size:=by let#[o,e,_]:=m;exact Yw e
 exact#[s.heap.objs.size,[s.heap.objs.size,l],[s.heap.objs.size],a.toArray.size,_,_,λi=>trD<|g.getD i .non,qx,Walks.list (by exact I.ok.hd N) s.heap.objs.size l (Yz p) a.toArray,#[#[_,Yq _ rfl,rfl,rfl],m.at λo e=>Yf _ e],λi v E U E' j c=>?_,λh' C k=>?_]
 .have j:a[i]?=!v:=by simpa using j
  let hi:=(Ym.mp j).1;have f:i<g.length:=by lia
  let#[w',T,S]:=y.get<|Yi f;let#[u',B,R]:=x.get T;rw[j]at B;cases B;let w:=Yh.mp O _<|Xf f;have P:g.getD i .non=g[i]:=by rw[YZ,Yi];rfl
  have c:U (trD _) E:=c;rw[P]at c;generalize g[i]=d at *;cases d with
  |bl b=>cases S;cases(show v=Value.bool _ from R);exact ZE c
  |_=>cases w
 .have e:a.toArray.size=g.length:=by rw[Yy];lia
  rw[e,Bn];exact#[.bl _,H,I.kept λb o e=>k b o (λz=>?_)<|Yf _ e,qx,q];have z:b=s.heap.objs.size:=by simpa using z
  rw[z]at e;exact absurd (Yw e)<|Ze _
def uD(i:X.calm)(g:Gl X "all")(f:X.mg "all"=())(l:PDN X e fa)(hs:starEach [e] X.env=[(false,eval e X.env)]:=by rfl)(a:(backTo pos (starEach [] X.env)).any (·.1)=false:=by rfl):PDE X (.Call (.Name "all" p) [e] [] pos) (d1 qF fa):=
 (g_ (An i) g f DY (aQ l bw hs) (by decide) (by decide) hs a).imp (xo λP F H x m d Q h c b k=>by
  cases m with
  |lst ds=>
   have h:(if ds.all um then !D.bl _ else ())=!d:=h;split at h
   .rename_i j;cases h;cases b with|lst h1 h2=>exact#[_,_,ds,qx,h1,h2,j,k _ F H (Evo.refl c) .bl]
   .cases h
  |_=>cases h)
def Its(x:Str):It:=#[λi _=>i<x.cps.size,λi H v a=>a=H/\v=.str #[#[[x.cps.getD i 0]]],λi _=>x.cps.size<=i]
def Du{P}it x t ty(C:["enumerate","zip","dict_itemiterator","dict_reverseitemiterator","odict_iterator","itertools.zip_longest","itertools.pairwise"].contains ty=false)(W:∀A:Around,A.handled=()->Walks P w A it [it] [it] x.cps.size (SignAt x) (λi h=>h.IsStrIter it ty x t i))
  (g:∀A i s (Q:Kv) (E:Kv),s.heap.IsStrIter it ty x t i->Q (.ref it) s->wpAny (model P w) A (pyIter<|.ref it) Q E s):Turn P w K tg (Its x) [it] it (λi h=>h.IsStrIter it ty x t i/\i<=x.cps.size) where
 mem:=by simp
 obj:=λi h a b j=>by
  have e:b=it:=by simpa using j
  subst e;let#[#[o,e,c,d],_]:=a;exact#[o,e,λv z=>by rw[d]at z;cases z]
 keep:=λi h p a k=>by let#[#[o,e,r],hl]:=a;exact#[#[o,k it (by simp) o e,r],hl]
 item:=by
  intro X O B R N i pz s σ H E I m a f;let#[Z,Y,f2,U,T,S]:=m it (by simp);exact(W X.A<|I.ok.hd N).item i s _ _ f a.1 λv p q hv l y=>?_;let#[c,u,M,rfl]:=hv;have I1:Inv X pz σ H {s with heap:=p,toks:=q}:=I.turned (λb o j e=>y b o (by simpa using j) e) Z Y U T S;let#[o,ho,L,J]:=id l;have ec:x.cps.getD i 0=c:=by simp[M]
  exact#[_,qx,D_ ho L J C #[.str #[#[[c]]],H,I1,#[u,rfl],#[rfl,by rw[ec]],#[l,f],λb j=>(m b j).1]]
 done:=by intro X O B R N i pz s σ H E I m a f;let#[Z,Y,f2,U,T,S]:=m it (by simp);let hi:=ZD a.2 f;subst hi;exact(W X.A<|I.ok.hd N).done s _ _ a.1 λp q y=>#[qx,I.turned (λb o j e=>y b o (by simpa using j) e) Z Y U T S]
 self:=λA i s Q E a h=>g A i s Q E a.1 h
def M8(tl:TE):TI:=λa H R=>tl a H λx b=>∃z,x=.str z/\R (Its z) b
def Jj(C:PE X l tl):PI X tg l (M8 tl):=by
 intro u s p H R I h;exact bz (C u s p H _ I h) λv a x O m B g=>?_;let#[z,e,q]:=g;subst e;let#[t,rfl]:=B;have fin:∀f ty,["enumerate","zip","dict_itemiterator","dict_reverseitemiterator","odict_iterator","itertools.zip_longest","itertools.pairwise"].contains ty=false->(∀A:Around,A.handled=()->Walks X.prog X.w A a.heap.objs.size [a.heap.objs.size] [a.heap.objs.size] z.cps.size _ _)->
   _->
   (a.heap.push f).IsStrIter a.heap.objs.size ty z t 0->PIE X u p tg R _ {a with heap:=a.heap.push f}:=λf ty N M L K=>by
  exact#[a.heap.objs.size,[a.heap.objs.size],_,_,O,qx,m.kept λb o e=>Yf _ e,Du _ z t ty N M L,#[K,YN _],λb J=>?_,q];have e:b=a.heap.objs.size:=by simpa using J
  subst e;exact m.fpOk (Yp _)<|m.hok.fresh<|Yp _
 cases y:z.cps.all _
 .exact wpAny_pyIter_wide y<|fin _ "str_iterator" (by decide) (λP j=>Walks.strWide j _ z t) (λA i s Q E c h=>wpAny_pyIter_striter_wide c h) #[_,Yq _ qx,qx,qx]
 .exact wpAny_pyIter_ascii y<|fin _ "str_ascii_iterator" (by decide) (λP j=>Walks.strAscii j _ z t) (λA i s Q E c h=>wpAny_pyIter_striter_ascii c h) #[_,Yq _ qx,qx,qx]
def signs(x:Str):List D:=x.cps.toList.map λc=>.str #[#[[c]]]
def vt(f:Dd):DF->Option (List D):=λa=>match f a with
 |some (.str x)=>!signs x
 |_=>()
open A in
def Gu(h:PDE X l fa):PDI X tg l (vt fa):=PI.imp (Jj h) λC H R=>un7 λP F j E f I k=>by
 delta vt at f;split at f
 .rename_i x q;cases f;exact#[P,F,j,_,q,I,λv A z w m=>?_];cases m;exact#[x,qx,k _ A z w λB K e p i=>#[λd a=>?_,λg=>?_]]
  .delta signs at a;rw[Yt]at a;cases b:x.cps.toList[i]? with
   |none=>rw[b]at a;cases a
   |some c=>
    rw[b]at a;cases a;have s:i<x.cps.size:=by have:=(Ym.mp b).1;simpa using this
    exact#[s,λy J o=>?_];let#[rfl,rfl]:=o;have u:x.cps.getD i 0=c:=by
     have:x.cps[i]?=!c:=by rwa[<-ZC]
     simp[this]
    rw[u];exact#[B,Evo.refl p,.str]
  .delta signs at g;rwa[Ya,Zr]at g
 .cases f
end
section
variable{a l r:Expr}{apos' cpos':Pos}{f:Dd}
def Ba:CallR X (.type "range") (λxs H Q=>∃j:Int,xs=[.int j]/\∀q,H q=()->Q (.ref q) (upd H q (.rng 0 j))):=by intro p s a H xs c Q I r h;let#[j,rfl,q]:=h;let#[u,rfl,t,rfl]:=fB r;exact call_range_1 #[.ref s.heap.objs.size,_,I.laid (o:=.rng 0 j) (λb e z=>Yf _ z) (Yp _) #[_,_,_,Yq _ qx],qx,q _<|I.hok.fresh<|Yp _]
def Bq(lo:Int)(n:Nat):List V:=(List.range n).map λi:Nat=>.int<|lo+i
theorem Dh:∀n lo vs,vs.length=n->(∀(j:Nat) v,vs[j]?=!v->∃t,v=Value.int (lo+j) t)->Vals ((List.range n).map λi:Nat=>V.int (lo+i)) vs:=by
 intro n;induction n with
 |zero=>intro lo vs h _;rw[Zq.mp h];exact .nil
 |succ n ih=>
  intro lo vs h a;cases vs with
  |nil=>simp at h
  |cons v vs=>
   rw[List.range_succ_eq_map,YF,YD];exact .cons ?_ ?_
   .let#[t,e]:=a 0 v qx;exact#[t,e]
   .have:=ih (lo+1) vs (by simpa using h) λj w b=>by
     let#[t,e]:=a (j+1) w (by simpa using b);exact#[t,by rw[e];congr 1;lia]
    have c:((λi:Nat=>V.int<|lo+i) ∘ Nat.succ)=λi:Nat=>V.int (lo+1+i):=by
     funext i;show V.int _=_
     congr 1;lia
    rwa[c]
theorem qW(B:X.calm):CallR X (.type "list") (λxs H Q=>∃(q:Addr) (lo hi:Int),xs=[.ref q]/\H q=!.rng lo hi/\(-(2^62)<=lo/\lo<2^62/\-(2^62)<=hi/\hi<2^62)/\(hi-lo).toNat<=16777216/\∀l,H l=()->Q (.ref l) (upd H l (.lst (Bq lo (hi-lo).toNat)))):=by
 intro O s M H xs N Q I r h;let#[q,lo,hi,rfl,x,#[K,J,E,C],z,k]:=h;let#[u,rfl,i]:=fB r;cases i;let#[t,u,v,y]:=I.hok q _ x;have c:Builtin.Range.rangeSize lo hi 1=((hi-lo).toNat):=by rw[rangeSize_one];split<;>lia
 exact call_list_range (I.ok.hd B) y (small_one K J E C) c (by lia) λP g b L m a f=>?_;exact#[.ref s.heap.objs.size,_,I.laid (o:=.lst _) m (Yp _) #[?_,b.toList,L,?_,?_],qx,k _<|I.hok.fresh<|Yp _]
 .delta Bq;rwa[Ya,Zs,YT]
 .let#[w,p]:=f;exact Dh _ lo _ (by simpa using w) λj v A=>?_;let#[t,e]:=p j v (by rwa[<-ZC]);exact#[t,by rw[e];congr 1;lia]
 .simpa using a
def Ae lo n:Reps K F (Bq lo n) (cS lo n):=by
 delta Bq cS;generalize List.range n=l;induction l with
 |nil=>exact .nil
 |cons i l ih=>exact .cons .int ih
def eC(f:Dd):DF->Option (List D):=λa=>match f a with
 |some (.int j)=>if j<16777216/\-(2^62)<=j then !cS 0 j.toNat else ()
 |_=>()
theorem e8(A:X.calm)(z:Gl X "list")(x:X.mg "list"=())(i:Gl X "range")(f:X.mg "range"=())(B:PDE X a fa)(b:starEach [a] X.env=[(false,eval a X.env)]:=by rfl)(hs:starEach [.Call (.Name "range" p') [a] [] cpos] X.env=[(false,eval (.Call (.Name "range" p') [a] [] cpos) X.env)]:=by rfl):PDO X (.Call (.Name "list" p) [.Call (.Name "range" p') [a] [] cpos] [] pos) (asL<|eC fa):=
 (eD (qW A) z x boot_list<|aQ (eD Ba i f boot_range (aQ B bw b) (he:=b)) bw hs).imp λK H Q=>un7 λP F m L h I k=>by
  delta asL eC at h;cases q:fa m with
  |none=>rw[q]at h;cases h
  |some E=>
   rw[q]at h;cases E with
   |int j=>
    dsimp only at h;split at h
    .rename_i y;cases h;exact#[P,F,m,_,q,I,λv J M s u=>?_];cases u;exact#[j,qx,λw c=>#[w,0,j,qx,aD,#[by lia,by lia,y.2,by lia],by lia,λl g=>?_]];let e:=s.trans<|Evo.side s.hp (o:=.rng 0 j) c;have C:(j-0).toNat=j.toNat:=by lia
     rw[C];exact k l J _ (e.trans<|Evo.side e.hp g) #[#[e.back I.toDHp g,(e.hp.free g).1],_,aD,Ae 0 _]
    .cases h
   |_=>cases h
def Am(i:Nat)(g:Dl):DF->Option RES:=λa=>match a[i]? with
 |some (!.own (.lst ds) t)=>(g a).bind λe=>if ds.length+e.length<=16777216 then !.nx (a.set i<|!.own (.lst<|ds++e) t) else ()
 |_=>()
def AN i{g:Dl}(h:PE X o (c7 i))(S:PDO X e (asL g))(j:attributeBase o "extend" X.env (eval o X.env)=eval o X.env:=by rfl)
  (m:((backTo cpos<|starEach [e] X.env).all (λx=>(not<|x.1))&&(backToKw cpos<|keywordEach [] X.env).all (λx=>x.1.isSome)
   && decide (([e]).length+([]:List Keyword).length+(if([]:List Keyword).isEmpty then 0 else 1)<30)):=by rfl)
  (f:(apos.endLine == cpos.line):=by rfl) (hs:starEach [e] X.env=[(false,eval e X.env)]:=by rfl) (y:swapsWith (.Call (.Attribute o "extend" apos) [e] [] cpos) () pos.line X.env=pure false:=by rfl) :
  PD1 X (.Expr (.Call (.Attribute o "extend" apos) [e] [] cpos) pos) (Am i g):=
 PS.imp (dU (kU Zb F.slot_list_extend F.type_list_extend A9 h (aQ S bw hs) j m f hs qx) y) λE M H=>un7 λP F z r c I k=>by
  delta Am at c;split at c
  .rename_i ds t q;cases w:g z with
   |none=>rw[w]at c;cases c
   |some p=>
    rw[w,Yb]at c;split at c
    .rename_i R;cases c;let#[a,A,J,T,Z,C,B]:=mH I q;exact#[_,J,.inl #[qx,A,SqL.of C],P,F,z,.lst p,by delta asL;rw[w];rfl,I,λb L H1 s Q=>?_];let#[#[n1,n2],u,N,l]:=Q;cases u with
     |lst ws=>
      let#[O,Y]:=s.keep a _ C T;let U:=I.evo s;exact#[a,b,A,ws,qx,qx,O,N,by rwa[YT,B.length,l.length],k M L _ s.ext ?_];exact U.mut q qx qx J<|(B.same s.ext).append l
     |_=>exact l.elim
    .cases c
  .cases c
def za(n:Nat):D->Option Nat
 |.int k=>if -(2^63)<=k/\k<2^63 then seqIndex? k n else ()
 |_=>()
def xP(j:Nat)(f:Dd):DF->Option (DF×D):=λa=>match a[j]? with
 |some (!.own (.lst ds) t)=>(f a).bind λb=>(za ds.length b).bind λk=>(ds[k]?).map λd=>(a.set j<|!.own (.lst<|ds.eraseIdx k) t,d)
 |_=>()
open A in
def GU{Q}{F}{d}(h:xP j f ρ=!(ρ',d))(I:DInv K P F H ρ σ)(k:∀v F' H',Same F F'->DInv K P F' H' ρ' σ->Rep K F' v d->Q v H'):tBM K "list" Ew (c7 j) (ph (tD K f) wu) σ H Q:=by
 delta xP at h;split at h
 .rename_i o t q;cases m:f ρ with
  |none=>rw[m]at h;cases h
  |some B=>
   rw[m,Yb]at h;cases c:za o.length B with
   |none=>rw[c]at h;cases h
   |some e=>
    rw[c,Yb]at h;cases l:o[e]? with
    |none=>rw[l]at h;cases h
    |some S=>
     rw[l]at h;cases h;cases B with
     |int i=>
      have b:(if -(2^63)<=i/\i<2^63 then seqIndex? i o.length else ())=!e:=c;split at b
      .rename_i w;let#[a,p,A,M,R,z,x]:=mH I q;exact#[_,A,.inl #[rfl,p,SqL.of z],P,F,ρ,_,m,I,λv N T g J=>?_];cases J;let#[L,O]:=g.keep a _ z M;let s:=x.same g.ext;let#[y,E,C]:=s.get l;exact#[a,p,i,e,y,qx,qx,L,w.1,w.2,by rwa[x.length],E,?_];exact k y N _ g.ext ((I.evo g).mut q qx qx A<|s.eraseIdx e) C
      .cases b
     |_=>cases c
 .cases h
def iI(i j:Nat)(f:Dd):DF->Option RES:=λa=>(xP j f a).bind λr=>match r.1[i]? with
 |some (!.own (.lst ds) t)=>if i≠j/\ds.length<16777216 then !.nx (r.1.set i<|!.own (.lst<|ds++[r.2]) t) else ()
 |_=>()
open A in
def AY i j(ho:PE X o (c7 i))(hr:PE X r (c7 j))(ha:PDE X e f)(p:attributeBase o "append" X.env (eval o X.env)=eval o X.env:=by rfl)(g:attributeBase r "pop" X.env (eval r X.env)=eval r X.env:=by rfl)
  (m:((backTo cpos'<|starEach [e] X.env).all (λx=>(not<|x.1))&&(backToKw cpos'<|keywordEach [] X.env).all (λx=>x.1.isSome)
   && decide (([e]).length+([]:List Keyword).length+(if([]:List Keyword).isEmpty then 0 else 1)<30)):=by rfl)
  (w:((backTo cpos<|starEach [.Call (.Attribute r "pop" apos') [e] [] cpos'] X.env).all (λx=>(not<|x.1))&&(backToKw cpos<|keywordEach [] X.env).all (λx=>x.1.isSome)
   && decide (([.Call (.Attribute r "pop" apos') [e] [] cpos']:List Expr).length+([]:List Keyword).length+(if([]:List Keyword).isEmpty then 0 else 1)<30)):=by rfl)
  (l:(apos.endLine == cpos.line):=by rfl) (c:(apos'.endLine == cpos'.line):=by rfl) (s:starEach [e] X.env=[(false,eval e X.env)]:=by rfl)
  (hs:starEach [.Call (.Attribute r "pop" apos') [e] [] cpos'] X.env=[(false,eval (.Call (.Attribute r "pop" apos') [e] [] cpos') X.env)]:=by rfl) (K:swapsWith (.Call (.Attribute o "append" apos) [.Call (.Attribute r "pop" apos') [e] [] cpos'] [] cpos) () pos.line X.env=pure false:=by rfl) :
  PD1 X (.Expr (.Call (.Attribute o "append" apos) [.Call (.Attribute r "pop" apos') [e] [] cpos'] [] cpos) pos) (iI i j f):=
 PS.imp (dU (kU Zb ZN Xe f7 ho (aQ (kU Zb F.slot_list_pop F.type_list_pop Ej hr (aQ ha bw s) g m c s qx) bw hs) p w l hs qx) K) λE U H=>un7 λP F B res h I k=>by
  let#[pr,q,h]:=YK.mp h;split at h
  .rename_i ds t A;split at h
   .rename_i Q;cases h
    have J:B[i]?=!(some<|.own (.lst ds) t):=by
     let b:=q;delta xP at b;split at b
     .rename_i y t' qj;let#[dk,O,b]:=YK.mp b;let#[kk,N,b]:=YK.mp b;let#[d',M,rfl]:=Zd.mp b;rwa[Zl λz=>Q.1 z.symm]at A
     .cases b
    let#[a,Y,L,h2,h3,h4,h5]:=mH I J;exact#[_,L,.inl #[qx,Y,SqL.of h4],?_];exact GU q I λv F' H' e T Z=>?_;let#[a',C,S,g2,g3,g4,R]:=mH T A;rw[L]at S;cases S;exact#[a,C,v,qx,qx,g4,by rw[YT,R.length];exact Q.2,k U F' _ e ?_];exact T.mut A qx qx L<|R.append<|.one Z
   .cases h
  .cases h
end
def AK{k k'}{vs:List (Key×V)}:eY ((k',v)::vs) k=if k'=k then !v else eY vs k:=by delta eY;by_cases q:k'=k<;>simp[Xc,q]
def RepsK.val{vs}{ds}(h:RepsK K H vs ds):(eY vs k=()/\dq ds k=())\/∃v d,eY vs k=!v/\dq ds k=!d/\Rep K H v d:=
 RepsK.ind (M:=λvs ds=>(eY vs k=()/\dq ds k=())\/∃v d,eY vs k=!v/\dq ds k=!d/\Rep K H v d) (.inl #[qx,qx]) (λ{a v d vs ds} h _ ih=>by
  rw[AK,cy];by_cases q:a=k
  .rw[Yl q,Yl q];exact .inr #[v,d,qx,qx,h]
  .rwa[Yn q,Yn q]) h
def RepsK.any{vs}{ds}(h:RepsK K H vs ds):(vs.any λa=>decide (a.1=k))=ds.any λa=>decide (a.1=k):=
 RepsK.ind (M:=λvs ds=>(vs.any λa=>decide<|a.1=k)=ds.any λa=>decide<|a.1=k) qx (λz z ih=>by rw[XG,XG,ih]) h
def RepsK.map(f:Rep K H v d){vs}{ds}(h:RepsK K H vs ds):RepsK K H (vs.map λa=>if a.1=k then(a.1,v)else a) (ds.map λa=>if a.1=k then(a.1,d)else a):=
 RepsK.ind (M:=λvs ds=>RepsK K H (vs.map λa=>if a.1=k then(a.1,v)else a)<|ds.map λa=>if a.1=k then(a.1,d)else a) .nil (λ{b c e vs ds} h _ ih=>by
  rw[YF,YF];by_cases q:b=k
  .rw[Yl<|show(b,c).1=k from q,Yl<|show(b,e).1=k from q];exact .cons f ih
  .rw[Yn<|show ¬(b,c).1=k from q,Yn<|show ¬(b,e).1=k from q];exact .cons h ih) h
def RepsK.snoc(a:Rep K H v d){vs}{ds}(h:RepsK K H vs ds):RepsK K H (vs++[(k,v)]) (ds++[(k,d)]):=
 RepsK.ind (M:=λvs ds=>RepsK K H (vs++[(k,v)])<|ds++[(k,d)]) (.cons a .nil) (λh _ ih=>.cons h ih) h
def RepsK.put{vs}{ds}(a:Rep K H v d)(r:RepsK K H vs ds):RepsK K H (iB vs k v) (eS ds k d):=by
 delta iB eS;rw[r.any];split
 .exact r.map a
 .exact r.snoc a
def RepsK.length{vs}{ds}(h:RepsK K H vs ds):vs.length=ds.length:=RepsK.ind (M:=λvs ds=>vs.length=ds.length) qx (λz z ih=>YU Nat.succ ih) h
def G1{y}(r:Rep K F y dy)(h:ja dy=!k):y=kV k:=by
 cases dy with
 |int i=>cases h;cases r;rfl
 |str i=>cases h;cases r;rfl
 |_=>cases h
def IU{x}{ds}(I:DInv K P F H ρ σ)(r:RepS K H F x (.dK ds)):∃a vs,x=.ref a/\H a=!.dK vs/\RepsK K F vs ds:=by
 rcases r with r|⟨a,o,u,rfl,_,h3,h4,hfl,z⟩
 .cases r with|dK h q=>exact#[_,_,qx,I.sub _ _ h,q]
 .cases o with
  |dK ds'=>
   cases z;cases u with
   |dK vs=>exact#[a,vs,qx,h3,h4]
   |_=>exact h4.elim
  |lst2 _=>cases hfl
  |obj _ _=>cases hfl
  |_=>cases z
section
variable{a i f:Expr}{fd fk:Dd}
def mF(j:Nat)(fk fv:Dd):DF->Option RES:=λa=>match a[j]? with
 |some (!.own (.dK kvs) t)=>(fv a).bind λv=>(fk a).bind λy=>(ja y).bind λk=>if kvs.length<16777216 then !.nx (a.set j<|!.own (.dK<|eS kvs k v) t) else ()
 |_=>()
open A in
theorem BO j(Z:X.A.units+64<cLine)(L:PE X o (c7 j))(hi:PDE X i fk)(hv:PDE X e fv)(hs:swapsWith e (!.Subscript o i pos') pos.line X.env=pure false:=by rfl):PD1 X (.Assign [.Subscript o i pos'] e pos) (mF j fk fv):=
 PS.imp (zk (by lia) L hi hv hs) λE z H=>un7 λP F c r h I k=>by
  delta mF at h;split at h
  .rename_i m t q;cases f:fv c with
   |none=>rw[f]at h;cases h
   |some dv=>
   rw[f,Yb]at h;cases l:fk c with
   |none=>rw[l]at h;cases h
   |some O=>
   rw[l,Yb]at h;cases g:ja O with
   |none=>rw[g]at h;cases h
   |some U=>
   rw[g,Yb]at h;split at h
   .rename_i M;cases h;let#[v,s,p,rfl,#[#[R,a2,_],u,Q,b],_]:=I.at q;cases u with
    |dK vs=>
     let b:=b;exact#[P,F,c,_,f,I,λv T H1 x C=>#[_,s,P,T,c,_,l,I.evo x,λy S H2 w B=>?_]];let a:=x.trans w;let#[J,Y]:=a.keep p _ Q R;let N:=G1 B g;subst N;exact#[p,_,qx,DPut.k J<|by rwa[YT,b.length],k z S _ a.ext ?_];exact(I.evo a).mut q qx qx s<|(RepsK.same a.ext b).put<|C.same w.ext
    |_=>exact b.elim
   .cases h
  .cases h
end
theorem Room.h64(r:Room k A):A.units+64<cLine:=by have:=r.un;lia
def FR(sc0 scope:Scope):Bool:=scope.kind == .function&&(scope.names.map (·.1)).Nodup&&(scope.names.all λx=>x.2 != .free||(sc0.names.lookup x.1 == some .cell||sc0.names.lookup x.1 == !.free))
def CY s(e:X.env.scope=s)(h:FR s scope):BlkScope X scope:=by
 delta FR at h;simp only[Yr,YQ]at h;let#[#[g,f],c]:=h;exact#[by simpa using g,f,λx a b=>?_];have:=Yh.mp c x a;rw[b]at this;have i:X.env.kindOf x.1=s.names.lookup x.1:=by show X.env.scope.names.lookup x.1=_;rw[e]
 rw[i];simpa using this
def ER(a:List Str)(scope:Scope)(N:List Str)(own:Nat)(ix:List Nat):Bool:=
 decide (N.length=own+ix.length)&&(List.range ix.length).all λi=>match N[own+i]?,ix[i]? with
  |some x,!j=>a[j]? == some x&&scope.names.lookup x == !.free
  |_,_=>true
def DN b(e:X.N=b)(h:ER b scope N own ix):Caps X scope N own ix:=by delta ER at h;rw[Yr,YQ]at h;exact#[h.1,λi j x f a=>?_];let c:=(Ym.mp a).1;have:=Yh.mp h.2 i<|Zf.mpr c;rw[f,a]at this;simp at this;rwa[e]
def cJ:o0 X [] (tB' X.K bf):=λp s a H Q I h=>by
 let#[P,F,e,b,c,J,k]:=h;cases c;exact CP p s a H Q I<|k F H<|Evo.refl J.toDHp
def vQ{f:Dk}(h:PDT X c f):o0 X [c] (tB' X.K f):=CN h
def xy{is:List Nat}(h:(is.all λj=>decide (j<own))):∀j∈is,j<own:=λj m=>YE<|Yh.mp h j m
def FJ{f:Do}:∀σ H Q,tD K (asO f) σ H Q->tO K f σ H Q:=λσ H Q=>un7 λP F c d h I k=>by
 delta asO at h;cases q:f c with
 |none=>rw[q]at h;cases h
 |some o=>
  rw[q]at h;cases h;exact#[P,F,c,o,q,I,λa l j i e=>?_];exact k _ _ j (i.freeze I.toDHp _ λ_ q=>q)<|e.rep (b6 λb q=>q.2) λb u q g=>by rwa[de q]
section
variable{own:Nat}{ix is:List Nat}{f:Dl}{c:Dk}{e:Dd}
def xK{y}(hN:X.N.Nodup)(hiN:X.N[i]?=!y)(hx:Loc X.env.scope y)(hcalm:X.calm)(b:BlkScope X scope)(cp:Caps X scope N own ix)(his:∀j∈is,j<own)(hi:PDI X tg iter f)(l:∀s H fp pz,PDG (blk X scope N s H fp pz) tg is st)(o:∀s H fp pz,o0 (blk X scope N s H fp pz) ifs<|tB' X.K c)(he:∀s H fp pz,PDE (blk X scope N s H fp pz) elt e)(hnames:∀y∈scope.names,y.2=.local->scope.names.lookup y.1=!.local)(h:swapsWith (.ListComp elt [#[tg,iter,ifs,0]] scope pos) (some<|.Name y py) spos.line X.env=pure true:=by rfl)(hs:FsI iter X:=by intro _;rfl)(m:FnL X y:=by trivial):PD1 X (.Assign [.Name y py] (.ListComp elt [#[tg,iter,ifs,0]] scope pos) spos) (aC i<|asO<|asL<|aI own ix f st c e):=
 PS.imp (yx (g:=tG X.K is st) (te:=tD X.K e) hcalm hN hiN hx b cp hi l o he h hnames hs m) λE a H q=>zT his a H _<|FJ a H _<|Br E a H q
end
def Lp(n p:Nat)(g:Dw)(o:OD)(xs:List DV)(q:OD×D):Prop:=xs.length+1=p/\q.1.flat/\∀a,∃r,g (aK n p (.own o (!a)::xs))=!r/\nq a q.1 q.2 r
def yv(n p:Nat)(g:Dw)(o:OD)(xs:List DV):Option (OD×D):=
 open Classical in if h:∃q,Lp n p g o xs q then !h.choose else ()
def F_{n p}:∀a o xs o' d,yv n p g o xs=!(o',d)->xs.length+1=p/\o'.flat/\∃r,g (aK n p (.own o (!a)::xs))=!r/\nq a o' d r:=by
 intro a o xs o' d h;delta yv at h;split at h
 .rename_i e;let#[f,c,b]:=e.choose_spec;rw[YG h]at c b;exact#[f,c,b a]
 .cases h
def su{o}(h:nq a o d r)(h':nq a o' d' r):(o,d)=(o',d'):=by
 cases r with
 |nx ρ=>let#[f,e]:=h;let#[b,c]:=h';rw[f]at b;cases b;rw[e,c]
 |rt x ρ=>let#[f,e]:=h;let#[b,c]:=h';rw[e]at c;cases c;rw[f]at b;cases b;rfl
 |bk ρ=>cases h
 |ct ρ=>cases h
def zq{n p}{o}(f:xs.length+1=p)(i:o'.flat)(h:∀a,∃r,g (aK n p (.own o (!a)::xs))=!r/\nq a o' d r):yv n p g o xs=!(o',d):=by
 have b:∃q,Lp n p g o xs q:=#[(o',d),f,i,h]
 delta yv;rw[dif_pos b];let#[_,_,j]:=b.choose_spec;let#[r,e,q]:=j 0;let#[m,l,c]:=h 0;rw[l]at e;cases e;exact YU some<|su q c
end L2
namespace L2
open PySem PySem.Spec PySem.Calls PySem.W PyProof.Rows Builtin Builtin.ObjectAttr Builtin.Getset_descriptor
end L2
namespace L2
open PySem PySem.Spec PySem.Calls PySem.W PyProof.Rows
end L2
namespace L2
open PySem PySem.Spec PyProof.Rows
open PySem.Calls PySem.W PySem.Builtin PySem.Builtin.Str
end L2
namespace L2
open PySem PySem.Spec PySem.Calls PySem.W PyProof.Rows
end L2
namespace L2
open PySem PySem.Spec PyProof.Rows
open PySem.Calls PySem.W
end L2
namespace L2
open PySem PySem.Spec PyProof.Rows
def isI:D->Bool
 |.int _=>true
 |_=>false
def toI:D->Int
 |.int i=>i
 |_=>0
def G_(h:Vals (ns.map V.int) us):IntsAre us ns:=by
 induction ns generalizing us with
 |nil=>cases h;exact .nil
 |cons n ns ih=>
  cases h with
  |cons r t=>
   let#[a,rfl]:=r;exact .cons n a<|ih t
def jJ:∀{vs}{ds},Reps K F vs ds->ds.all isI->vs=(ds.map toI).map V.int:=by
 intro vs ds h;exact Reps.ind (M:=λvs ds=>ds.all isI->vs=(ds.map toI).map V.int) (λz=>rfl) (λ{v d vs ds} r _ ih q=>?_) h;rw[List.all_cons,Yr]at q;cases d with
 |int i=>
  cases r;rw[ih q.2];rfl
 |_=>cases q.1
def gH:Stmt->Str
 |.FunctionDef n _ _ _ _ _ _ _ _ _=>n
 |_=>Str.empty
def eU(s:Stmt):List Str:=(defArgs s).args.map (·.arg)
def HZ{α:Type}:Nat->(List α->Prop)->Prop
 |0,P=>P []
 |n+1,P=>∀a,HZ n λl=>P (a::l)
def C_:∀{n}{P:List α->Prop},HZ n P->∀us,us.length=n->P us
 |0,_,h,us,e=>by rwa[Zq.mp e]
 |n+1,_,h,us,e=>by
  cases us with
  |nil=>cases e
  |cons a l=>exact C_ (h a) l<|Ue e
def fnD(q:Str)(st:Stmt)(pm:Value)(c:Addr):FuncData:=PySem.W.fnOf (gH st) q (defArgs st) (defBody st) (defScope st) .none .none .none pm () (.ref c) .none
def fO(q:Str)(st:Stmt)(pm:Value)(c:Addr):Obj:=#[.type "function",(),.func<|fnD q st pm c,#[[]]]
def LD(q:Str)(st:Stmt)(pm:Value)(c:Addr):Prop:=HZ (eU st).length λu=>bindArgs (fnD q st pm c) #[u,[]]=pure ((eU st).zip u)
structure Df (K:PySem.W.Frag) (q:Str) (st:Stmt) (f:Addr) (d:FuncData):Prop where
 fn:Fun K (gH st) q st f d
 bd:Binds K d (eU st) []
def LK{q}{st}{c}(l:K.lookup f=!fO q st pm c)(h:PySem.W.codeIn K (.ref c) q)(k:PySem.W.keepIn K (.ref f))(b:LD q st pm c):Df K q st f (fnD q st pm c):=
 #[HX l h k,.all<|C_ b]
def xl(N P:List Str)(sc:Scope):Bool:=decide (sc.kind=.function)&&(not<|sc.isCoroutine)&&(not<|sc.isGenerator)&&decide N.Nodup&&decide (N.take P.length=P)&&(P.all λx=>sc.names.lookup x == some .local||sc.names.lookup x == !.cell)&&sc.names.all λy=>y.2 != .free
def scI N{P}{s}(h:xl N P s:=by kernel_rfl):FnScope N P s:=by delta xl at h;simp only[Yr,YQ,Bool.not_eq_true',Yh,Bool.or_eq_true,Vk,bne_iff_ne]at h;let#[#[#[#[#[#[i,g],f],e],c],b],a]:=h;exact#[i,g,f,e,c,b,a]
section
variable{P:Program}{q:Str}{st:Stmt}{k:Nat}
def Df.okI(F:Df K q st f fd) N (b:∀{cdv}{A}{outer}{s}{H}{E},Room k (A.deeper (envOfC q (defScope st) s.heap.objs.size f cdv))->
      PDS (gP CX0 P w K mg base N q (defScope st) f cdv A outer s H E).nox (defBody st) g) (h:xl N (eU st) (defScope st):=by kernel_rfl):FnOk P w K mg base CX0 (k+1) f fd (eU st) (spD K (mOf N.length (eU st).length g)):=
  F.fn.okD (scI N h) λz z z z z z a=>b a
def Df.okJ(F:Df K q st f fd) N (b:∀{cdv}{A}{outer}{s}{H}{E},Room k (A.deeper (envOfC q (defScope st) s.heap.objs.size f cdv))->
      PDS (gP CX0 P w K mg base N q (defScope st) f cdv A outer s H E).nox (defBody st) g) (h:xl N (eU st) (defScope st):=by kernel_rfl):FnOk P w K mg base CX0 (k+1) f fd (eU st) (spM K (yv N.length (eU st).length g)):=
  F.fn.okM (scI N h) F_ λz z z z z z a=>b a
end
section
variable(i:Nat)
def ndI(h:decide N.Nodup:=by kernel_rfl):N.Nodup:=YE h
section
variable(hN:X.N[i]?=!x:=by rfl) (hv:Vis X.env.scope x:=by first|exact Or.inl rfl|exact Or.inr (Or.inl rfl)|exact Or.inr (Or.inr rfl)) (hd:nDb x:=by decide) (hcd:nDc x:=by decide)
include hN hv hd hcd
def aJ:PDE X (.Name x pos) (getV i):=HC i<|pv i hN hv hd hcd
def aw:PDR X (.Name x pos) (ac i):=Iv i<|pv i hN hv hd hcd
def a_:PDN X (.Name x pos) (ap i):=Jq i<|pv i hN hv hd hcd
def A6:u5 X (.Name x pos) (cG i):=GO i<|pv i hN hv hd hcd
def iA:PDI X tg (.Name x pos) (bu i):=Ft i<|pv i hN hv hd hcd
end
def aW{g}(h:kf X es g)(hN:X.N[i]?=!x:=by rfl)(hv:Vis X.env.scope x:=by trivial)(hd:nDb x:=by decide)(hcd:nDc x:=by decide)(hs:starEach (.Name x pos::es) X.env=(false,eval (.Name x pos) X.env)::starEach es X.env:=by rfl):kf X (.Name x pos::es) (aB i g):=K6 i (pv i hN hv hd hcd) h hs
section
variable{f:Dd}
def bN(he:PDE X e f)(hi:X.N[i]?=!x:=by rfl)(hx:Loc X.env.scope x:=by trivial)(hs:swapsWith e (!.Name x pos') pos.line X.env=pure false:=by rfl)(h:FnL X x:=by trivial)(hN:decide X.N.Nodup:=by kernel_rfl):PD1 X (.Assign [.Name x pos'] e pos) (aC i f):=IV (ndI hN) hi hx he hs h
def ir(he:PDO X e fo)(hi:X.N[i]?=!x:=by rfl)(hx:Loc X.env.scope x:=by trivial)(hs:swapsWith e (!.Name x pos') pos.line X.env=pure false:=by rfl)(h:FnL X x:=by trivial)(hN:decide X.N.Nodup:=by kernel_rfl):PD1 X (.Assign [.Name x pos'] e pos) (bC i fo):=Gs (ndI hN) hi hx he hs h
end
def b5(hi:X.N[i]?=!x:=by rfl)(hx:Loc X.env.scope x:=by trivial)(h:FnL X x:=by trivial)(hN:decide X.N.Nodup:=by kernel_rfl):PDG X (.Name x pos) [i] (setV i):=CK (ndI hN) hi hx h
def pgI(hi:X.N[i]?=!x:=by rfl)(hx:Loc X.env.scope x:=by trivial)(h:FnL X x:=by trivial)(hN:decide X.N.Nodup:=by kernel_rfl):PG X (.Name x pos) (k8 i):=zu (ndI hN) hi hx h
end
section
variable{f:Dl}{c:Dk}{e:Dd}{y:Str}(i:Nat) (N:List Str) (own:Nat) (ix is:List Nat) (hi:PDI X tg iter f)(hg:∀{s H fp pz},PDG (blk X scope N s H fp pz) tg is st) (hc:∀{s H fp pz},o0 (blk X scope N s H fp pz) ifs (tB' X.K c)) (he:∀{s H fp pz},PDE (blk X scope N s H fp pz) elt e)
section
variable(hcalm:X.calm=true:=by rfl) (hb:FR X.env.scope scope=true:=by kernel_rfl) (cp:ER X.N scope N own ix=true:=by kernel_rfl) (his:(is.all λj=>decide (j < own))=true:=by kernel_rfl) (hnames:decide (∀y∈scope.names,y.2=.local->scope.names.lookup y.1=!.local)=true:=by kernel_rfl)(hs:FsI iter X:=by intro _;rfl)
include hi hg hc he hcalm hb cp his hnames hs
def fJ:PDO X (.ListComp elt [#[tg,iter,ifs,0]] scope pos) (asL (aI own ix f st c e)):=
 BJ hcalm (CY _ qx hb) (DN _ qx cp) (xy his) hi (λ_ _ _ _=>hg) (λ_ _ _ _=>hc) (λ_ _ _ _=>he) (YE hnames) hs
end
section
variable(hiN:X.N[i]?=!y:=by rfl) (hx:Loc X.env.scope y:=by first|exact .inl rfl|exact .inr rfl) (hN:decide X.N.Nodup=true:=by kernel_rfl) (hcalm:X.calm=true:=by rfl) (hb:FR X.env.scope scope=true:=by kernel_rfl) (cp:ER X.N scope N own ix=true:=by kernel_rfl) (his:(is.all λj=>decide (j < own))=true:=by kernel_rfl) (hnames:decide (∀y∈scope.names,y.2=.local->scope.names.lookup y.1=!.local)=true:=by kernel_rfl)(hsw:swapsWith (.ListComp elt [#[tg,iter,ifs,0]] scope pos) (!.Name y py) spos.line X.env=pure true:=by rfl)(hs:FsI iter X:=by intro _;rfl) (hf:FnL X y:=by first|exact .inl rfl|exact .inr rfl|assumption)
include hf hiN hx hN hi hg hc he hcalm hb cp his hnames hs hsw
def xU:PD1 X (.Assign [.Name y py] (.ListComp elt [#[tg,iter,ifs,0]] scope pos) spos) (aC i (asO (asL (aI own ix f st c e)))):=
 xK (ndI hN) hiN hx hcalm (CY _ qx hb) (DN _ qx cp) (xy his) hi (λ_ _ _ _=>hg) (λ_ _ _ _=>hc) (λ_ _ _ _=>he) (YE hnames) hsw hs hf
end
end
section
variable{k:Nat}{q:Str}{g:Dv}
def pcI(G:FnOk X.prog X.w X.K X.mg X.base CX0 k f fd (eU sd) (spD X.K m))(D:Df X.K q sd f fd/\X.mg (gH sd)=!.ref f)(a:Room k' X.A)(i:kf X (e::es) g)(hx:gH sd=x:=by rfl)(b:k<=k':=by first|decide|lia)(c:Gl X x:=by rfl)(hd:nDb x:=by decide)(he:starEach (e::es) X.env=(false,eval e X.env)::starEach es X.env:=by rfl)(h:(backTo pos<|starEach es X.env).any (·.1)=false:=by rfl):PDE X (.Call (.Name x p) (e::es) [] pos) (aj m g):=
 Gy G (a.mono b) c (hx ▸ D.2) D.1.fn.kp D.1.bd i hd he h
def poI(G:FnOk X.prog X.w X.K X.mg X.base CX0 k f fd (eU sd) (spD X.K m))(D:Df X.K q sd f fd/\X.mg (gH sd)=!.ref f)(a:Room k' X.A)(i:kf X (e::es) g)(hx:gH sd=x:=by rfl)(b:k<=k':=by first|decide|lia)(c:Gl X x:=by rfl)(hd:nDb x:=by decide)(he:starEach (e::es) X.env=(false,eval e X.env)::starEach es X.env:=by rfl)(h:(backTo pos<|starEach es X.env).any (·.1)=false:=by rfl):PDO X (.Call (.Name x p) (e::es) [] pos) (eW m g):=
 Ep G (a.mono b) c (hx ▸ D.2) D.1.fn.kp D.1.bd i hd he h
end
def pfI{body}{f}(hi:PDI X tg iter f)(a:PDG X tg is st)(c:PDS X body g)(h:PassesOwn (model X.prog X.w) X.A X.env X.xe:=by exact Vr)(b:X.calm:=by rfl)(hs:FsI iter X:=by intro _;rfl):PD1 X (.For tg iter body [] pos) (d5 f st g):=IN h b hi a c hs
structure Rw where
 (i a m t h c:Nat)
def lno:Stmt->Int
 |.FunctionDef _ _ _ _ _ _ _ _ _ p=>p.line
 |_=>0
def kE(P:Params)(x:Str)(t:Nat)(v:Value):DictEntry:=#[PyData.keyHash P x,.str x t,v]
def cO(n q:Str)(t:Nat)(l a:Int)(r:Nat)(c:Bool)(h:Nat)(f:Int):Obj:={cls:=.type "code",data:=.fields #[[.str n t,.str q<|t+1,.str "/claim/cut.py"<|t+2,.int l 0,.int a 0,.int 0 0,.int 0 0,.int 3 0,.ref r,.bool true,.int f 0,.ref<|r+1,.none,if c then .ref (r+2)else .none,if c then .ref (r+3)else .none,.ref<|if c then r+4 else r+2,.int h 0,.int l 0,.str "/claim/cut.py"<|h+1]]}
abbrev DX:=DF->Option (D×DF)
def tX(K:Kq)(f:DX):TE:=λb H Q=>∃P F c r,f c=!r/\DInv K P F H c b/\∀v a e,Same F a->DInv K P a e r.2 b->Rep K a v r.1->Q v e
def PX(X:Cx)(e:Expr)(f:DX):Prop:=PE X e<|tX X.K f
def cn(f:Dd):DX:=λρ=>(f ρ).map (·,ρ)
def dI{e c:Type}{o}{f:e->c}{b}(h:o.map f=!b):∃a,o=!a/\b=f a:=by let#[a,i,g]:=Zd.mp h;exact#[a,i,g.symm]
section
variable{f:DX}
def iO{g:Dd}(h:PDE X e g):PX X e (cn g):=PE.imp h λl H Q=>un7 λP F b r f I k=>by
 let#[d,q,rfl]:=dI f;exact#[P,F,b,d,q,I,λv j i a c=>k v j i a.ext (I.evo a) c]
def rj(i:Nat)(f:DX):DF->Option RES:=λa=>(f a).map λr=>.nx<|r.2.set i<|!.v r.1
def MO i(he:PX X e f)(hi:X.N[i]?=!x:=by rfl)(hx:Loc X.env.scope x:=by trivial)(hs:swapsWith e (!.Name x pos') pos.line X.env=pure false:=by rfl)(c:FnL X x:=by trivial)(hN:decide X.N.Nodup:=by kernel_rfl) :
  PD1 X (.Assign [.Name x pos'] e pos) (rj i f):=PS.imp (xf (ndI hN) hi hx he hs c) λE o H=>un7 λP F a r h I k=>by
 let#[d,q,rfl]:=dI h;exact#[P,F,a,d,q,I,λv m l g j b=>k _ m l g<|j.setV i b]
def wX(f:DX):DF->Option RES:=λa=>(f a).map λr=>.rt (.v r.1) r.2
def GT(h:PX X e f):PD1 X (.Return (!e) pos) (wX f):=PS.imp (mN h) λE a H=>un7 λP F b r g I k=>by
 let#[d,q,rfl]:=dI g;exact#[P,F,b,d,q,I,λv m l i j c=>k v a m l i j c]
def i_(f:DX):DF->Option RES:=λa=>(f a).map λr=>.nx r.2
def vI(h:PX X e f)(hs:swapsWith e () pos.line X.env=pure false:=by rfl):PD1 X (.Expr e pos) (i_ f):=PS.imp (dU h hs) λE a H=>un7 λP F b r c I k=>by
 let#[d,q,rfl]:=dI c;exact#[P,F,b,d,q,I,λv l j g i _=>k a l j g i]
end
def spO(K:Kq)(f:Dz):Sp:=λi H Q _=>∃P F a c o x h d,i=.ref a::c/\f o x=!(h,d)/\DHp P F H/\ORep K F H (λb=>F b=()/\P b=()) o a/\DVs K P F H x c /\
 ∀v e g,Same F e->DHp P e g->ORep K e g (λb=>e b=()/\P b=()) h a->Rep K e v d->Q v g
def IY(n p:Nat)(g:Dw)(o:OD)(xs:List DV)(q:OD×D):Prop:=xs.length+1=p/\∀a,∃r,g (aK n p (.own o (!a)::xs))=!r/\nq a q.1 q.2 r
def qP(n p:Nat)(g:Dw)(o:OD)(xs:List DV):Option (OD×D):=
 open Classical in if h:∃q,IY n p g o xs q then !h.choose else ()
def yD{n p}{o}{q}(h:qP n p g o xs=!q):IY n p g o xs q:=by
 delta qP at h;split at h
 .rename_i a;rw[<-YG h];exact a.choose_spec
 .cases h
def lB{n p}{o}(f:xs.length+1=p)(h:∀a,∃r,g (aK n p (.own o (!a)::xs))=!r/\nq a o' d r):qP n p g o xs=!(o',d):=by
 have b:∃q,IY n p g o xs q:=#[(o',d),f,h]
 delta qP;rw[dif_pos b];let#[_,i]:=b.choose_spec;let#[r,e,q]:=i 0;let#[l,j,c]:=h 0;rw[j]at e;cases e;exact YU some<|su q c
def DInv.startO{o}N p(h:DHp P F H)(j:ORep K F H (λb=>F b=()/\P b=()) o a)(r:DVs K P F H xs vs)(l:xs.length+1=p) :
  DInv K P F H (aK N.length p (.own o (!a)::xs)) (L2.start N (.ref a::vs)):=by
 exact#[h,?_,λy=>!0,λi x e=>?_]
 .delta aK L2.start;rw[Yo,Yo,Ya,Ya,YS,YS,Yv,Yv,<-r.length,l]
 .let g:=kb e;cases i with
  |zero=>
   cases g;exact#[.ref a,im qx,a,qx,j.mono (Same.refl _) λb u q m=>#[m,q.1,q.2,rfl],λb z=>by cases z;rfl]
  |succ i=>
   let#[c,v,s,f]:=r.get g;exact#[v,im<|by simpa using s,?_];cases x with
   |own o t=>cases c
   |v d=>exact f
   |bor o=>exact f
def Fun.okO{P}{st}(F:Fun K x qual st f fd)(S:FnScope N ps (defScope st))(l:∀{cdv}{A}{outer}{s}{H}{E},Room k (A.deeper<|envOfC qual (defScope st) s.heap.objs.size f cdv)->
   PDS (gP CX0 P w K mg base N qual (defScope st) f cdv A outer s H E).nox (defBody st) g):FnOk P w K mg base CX0 (k+1) f fd ps (spO K<|qP N.length ps.length g):=by
 exact F.ok S (λX H Q E L=>?_) λcdv A outer s H X Q E Y h=>?_
 .let#[O,R,a,B,o,U,T,d,e,M,_,_,J,_]:=L;rw[e,Yv,<-J.length];exact(yD M).1
 .exact#[_,l Y,?_];let#[O,R,a,B,o,U,T,d,rfl,M,hp,ho,J,hQ]:=h;let#[hl,Z]:=yD M;let#[r,hg,z]:=Z a;let I:=DInv.startO N ps.length hp ho J hl;exact#[O,R,_,r,hg,I,?_];have fin:∀c m i j v,c[0]?=!!.own T (!a)->Same R i->DInv K O i j c m->Rep K i v d->Q v j:=λc m i j v y e p C=>by
   let#[v',_,a',rfl,h3,h4]:=p.at y;let ea:=h4 a qx;subst ea;exact hQ v i j e p.toDHp (h3.mono (Same.refl _) λb u q hb=>#[hb,q.1,q.2.1]) C
  cases r with
  |nx c=>(let#[y,rfl]:=z;exact λm i j e p=>fin c m i j .non y e p .non)
  |rt x c=>(let#[rfl,y]:=z;exact λv m i j e p C=>fin c m i j v y e p C)
  |bk c=>exact z.elim
  |ct c=>exact z.elim
def Df.okO{P}{q}{st}(F:Df K q st f fd) N (a:∀{cdv}{A}{outer}{s}{H}{E},Room k (A.deeper (envOfC q (defScope st) s.heap.objs.size f cdv))->
      PDS (gP CX0 P w K mg base N q (defScope st) f cdv A outer s H E).nox (defBody st) g) (h:xl N (eU st) (defScope st):=by kernel_rfl):FnOk P w K mg base CX0 (k+1) f fd (eU st) (spO K (qP N.length (eU st).length g)):=
  F.fn.okO (scI N h) a
def gdS(F H:Hp)(S:Addr->Prop):Hp:=λb=>open Classical in if S b then () else gd F H b
def qm{S}{b}{o}:gdS F H S b=!o↔¬S b/\F b=()/\H b=!o:=by
 delta gdS;by_cases h:S b
 .rw[Yl h];simp[h]
 .rw[Yn h,gx];simp[h]
def Jd(s:Same F H)S:DHp (gdS F H S) F H:=#[s,λb o e=>(qm.mp e).2.2,λb o e=>(qm.mp e).2.1]
def DInv.hand{o}(I:DInv K P F H ρ σ)(hi:ρ[i]?=!!.own o t):∃(a:Addr) (S:Addr->Prop),σ[i]?=!!.ref a/\ORep K F H (λb=>F b=()/\gdS F H S b=()) o a/\DHp (gdS F H S) F H /\
   ∀{F2 H2}{o'},Same F F2->DHp (gdS F H S) F2 H2->ORep K F2 H2 (λb=>F2 b=()/\gdS F H S b=()) o' a->DInv K P F2 H2 (ρ.set i<|!.own o' t) σ:=by
 let#[O,B]:=I.rep;let#[v,C,a,rfl,R,M]:=B i _ hi;exact#[a,λb=>O b=!i/\P b=(),C,R.mono (Same.refl _) λb u q h=>#[h,q.1,?_],Jd I.sub _,λ{F2 H2 o'} g f N=>?_]
 .delta gdS;exact Yl #[q.2.2,q.2.1]
 .have keep:∀b u,¬(O b=!i/\P b=())->F b=()->H b=!u->H2 b=!u/\F2 b=():=λb u h n q=>#[f.pro b u<|qm.mpr #[h,n,q],f.dis b u<|qm.mpr #[h,n,q]]
  have A:=λb u q=>keep b u (λz=>by rw[z.2]at q;cases q) (I.dis b u q)<|I.pro b u q
  exact#[#[f.sub,λb u q=>(A b u q).1,λb u q=>(A b u q).2],by rw[Zg];exact I.len,λb=>open Classical in if H b=() then !i else O b,λj z Q=>?_];rcases fj Q with⟨rfl,e,U⟩|⟨p,m⟩
  .cases e;exact#[_,C,a,qx,N.mono (Same.refl _) λb u q h=>#[h,q.1,?_],M];have n:F b=():=by
    cases c:F b with
    |none=>rfl
    |some w=>have:=g b w c;rw[q.1]at this;cases this
   cases c:H b with
   |none=>exact#[I.pro.free c,Yl c]
   |some w=>
    by_cases s:O b=!i/\P b=()
    .exact#[s.2,(Yn<|by rw[c];simp).trans s.1]
    .have:=(qm (S:=λb=>O b=!i/\P b=())).mpr #[s,n,c];rw[q.2]at this;cases this
  .let#[w,T,y]:=B j z m;exact#[w,T,?_];cases z with
   |v d'=>exact Rep.same g y
   |own od t'=>
    let#[c,rfl,x,l]:=y;exact#[c,qx,x.mono g λb E q h=>?_,l];let#[L,J]:=keep b E (λz=>by rw[q.2.2]at z;exact p (YG z.1).symm) q.1 h;exact#[L,J,q.2.1,(Yn<|by rw[h];simp).trans q.2.2]
   |bor od=>(let#[c,rfl,x]:=y;exact#[c,qx,x.mono g λb u q h=>#[h,q]])
def iq{vs}(h:All2 (λp (q:Str×FO)=>p.1=q.1/\FRep K F H ow q.2 p.2) vs fs):(fs.lookup n=()->vs.lookup n=())/\∀o,fs.lookup n=!o->∃v,vs.lookup n=!v/\FRep K F H ow o v:=by
 induction h with
 |nil=>exact#[λ_=>rfl,λ_ e=>by cases e]
 |@cons p q _ _ h _ ih=>
  let#[x,v]:=p;let#[y,o]:=q;let#[e,r]:=h;cases e;simp[bb];by_cases e:n=x
  .rw[Yl e,Yl e];exact#[λz=>by(cases z),λa z=>by(cases z;exact#[v,qx,r])]
  .rw[Yn e,Yn e];exact ih
def fS(n:Str)(o:FO):List (Str×FO)->List (Str×FO)
 |[]=>[(n,o)]
 |(m,x)::r=>if m=n then(m,o)::r else(m,x)::fS n o r
abbrev Kids(K:Kq)(F H:Hp)(ow:Addr->Prop)(vs:List (Str×V))(fs:List (Str×FO)):Prop:=All2 (λp q=>p.1=q.1/\FRep K F H ow q.2 p.2) vs fs
def FO.own:FO->Bool
 |.d _=>false
 |_=>true
section
variable{F:Hp}{n:Str}{vs:List (Str×V)}{fs:List (Str×FO)}{o o':FO}{v:V}{b:Addr}{u:HO}
def FRep.keep(h:FRep K F H ow o v)(k:∀c∈tM o v,H' c=H c)(l:∀c i w,H c=!.lst (.int i::w)->H' c=H c):FRep K F H' ow o v:=by
 cases o with
 |d x=>exact h
 |lst ds=>let#[c,rfl,f,w,e,a]:=h;exact#[c,qx,f,w,(k c<|YJ c).trans e,a]
 |dK ds=>let#[c,rfl,f,w,e,a]:=h;exact#[c,qx,f,w,(k c<|YJ c).trans e,a]
 |lL ts=>let#[c,bs,rfl,f,e,a]:=h;exact#[c,bs,qx,f,(k c<|YJ c).trans e,a.imp λb t #[j,g,q]=>#[j,g,by
   cases t with
   |nil=>exact absurd qx g
   |cons i t=>exact(l b i _ q).trans q]]
def cE p q vs fs:gB (p::vs) (q::fs)=tM q.2 p.2++gB vs fs:=rfl
def Kids.keep(a:∀c i w,H c=!.lst (.int i::w)->H' c=H c)(h:Kids K F H ow vs fs):(∀c∈gB vs fs,H' c=H c)->Kids K F H' ow vs fs:=by
 induction h with
 |nil=>exact λ_=>.nil
 |cons r _ ih=>
  intro k;rw[cE]at k;exact .cons #[r.1,r.2.keep (λc m=>k c<|YH _ m) a]<|ih λc m=>k c<|YC _ m
def Kids.mem(h:Kids K F H ow vs fs):fs.lookup n=!o->vs.lookup n=!v->∀c∈tM o v,c∈gB vs fs:=by
 induction h with
 |nil=>exact λe=>by cases e
 |@cons p q _ _ r _ ih=>
  let#[x,w]:=p;let#[y,z]:=q;let#[e,r]:=r;cases e;intro b a c m;rw[bb]at b a;by_cases e:n=x
  .rw[Yl e]at b a;cases b;cases a;exact YH _ m
  .rw[Yn e]at b a;exact YC _<|ih b a c m
def Kids.upd(h:Kids K F H ow vs fs)(kk:∀c i w,H c=!.lst (.int i::w)->L2.upd H b u c=H c):(gB vs fs).Nodup->fs.lookup n=!o->o.own->vs.lookup n=!.ref b->FRep K F (upd H b u) ow o' (.ref b)->o'.own->Kids K F (L2.upd H b u) ow vs (fS n o' fs)/\gB vs (fS n o' fs)=gB vs fs:=by
 have l:∀{o},o.own->tM o (.ref b)=[b]:=λ{o} z=>by cases o<;>first|rfl|cases z
 induction h with
 |nil=>exact λ_ e=>by cases e
 |@cons p q vs fs r t ih=>
  let#[x,w]:=p;let#[y,z]:=q;let#[e,r]:=r;cases e;intro g f j a A s;rw[bb]at f a;rw[cE]at g ⊢;delta fS;by_cases e:n=x
  .rw[Yl e]at f a;cases f;cases a;rw[Yl e.symm,cE];rw[l j]at g ⊢;rw[l s];exact#[.cons #[qx,A]<|Kids.keep kk t λc m=>az λz=>by subst z;exact(YX.mp g).1 m,qx]
  .rw[Yn e]at f a;rw[Yn λz=>e z.symm,cE];let#[E,C]:=ih (ZF.mp g).2.1 f j a A s;let m:=Kids.mem t f a b (by rw[l j];exact YJ b);exact#[.cons #[qx,r.keep (λc B=>az λz=>by subst z;exact(ZF.mp g).2.2 _ B _ m qx) kk] E,by rw[C]]
def Kids.put{b}(h:Kids K F H ow vs fs):fs.lookup n=!.d d->Rep K F b d'->Kids K F H ow (eG n b vs) (fS n (.d d') fs)/\gB (eG n b vs) (fS n (.d d') fs)=gB vs fs:=by
 induction h with
 |nil=>exact λe=>by cases e
 |@cons p q vs fs r t ih=>
  let#[x,w]:=p;let#[y,z]:=q;let#[e,r]:=r;cases e;intro a c;rw[bb]at a;delta eG fS;by_cases e:n=x
  .rw[Yl e]at a;cases a;rw[Yl e.symm,Yl e.symm];exact#[.cons #[qx,c] t,qx]
  .rw[Yn e]at a;rw[Yn λz=>e z.symm,Yn λz=>e z.symm,cE,cE];let#[g,f]:=ih a c;exact#[.cons #[qx,r] g,by rw[f]]
end
section
variable{F:Hp}{C:Option Addr}{fs:List (Str×FO)}{t:Option Addr}{n:Str}
def DInv.one(I:DInv K P F H ρ σ){b}{u}{o}(hi:ρ[i]?=!!.own o t)(O:Addr->Option Nat)(p:∀j x,ρ[j]?=!!x->∃v,σ[j]?=!!v/\DVRep K P F H (λc=>O c=!j) x v)(J:F b=())(B:P b=())(s:O b=!i)(m:σ[i]?=!(some<|.ref a))(C:ORep K F (upd H b u) (λc=>F c=()/\P c=()/\O c=!i) o' a):DInv K P F (upd H b u) (ρ.set i<|some<|.own o' t) σ:=by
 exact#[#[λc w q=>?_,λc w q=>?_,I.dis],by rw[Zg];exact I.len,O,λj z E=>?_]
 .rw[az λz=>by subst z;rw[J]at q;cases q];exact I.sub c w q
 .rw[az λz=>by subst z;rw[B]at q;cases q];exact I.pro c w q
 .rcases fj E with⟨rfl,e,R⟩|⟨g,f⟩
  .cases e;let#[v,y,U,rfl,S,A]:=p i _ hi;rw[m]at y;cases y;exact#[_,m,a,qx,C,A]
  .let#[w,N,l]:=p j z f;exact#[w,N,?_];cases z with
   |v d=>exact l
   |own od t'=>
    let#[c,rfl,M,h]:=l;exact#[c,qx,M.mono (Same.refl _) λT Q q L=>#[by rwa[az λz=>by subst z;rw[q.2.2]at s;exact g (YG s).symm],q],h]
   |bor od=>exact l
def DInv.fld(I:DInv K P F H ρ σ)(hi:ρ[i]?=!!.own (.obj C fs) t)(j:fs.lookup n=!.d d):∃a dx vs v,σ[i]?=!!.ref a/\H a=!bxO C dx vs/\F a=()/\vs.lookup n=!v/\Rep K F v d/\vs.length=fs.length /\
   ∀g d',Rep K F g d'->DInv K P F (upd H a<|bxO C dx<|eG n g vs) (ρ.set i<|!.own (.obj C<|fS n (.d d') fs) t) σ:=by
 let#[O,l]:=I.rep;let#[v,q,a,rfl,#[o,dx,vs,p,h,b],B]:=l i _ hi;let#[w,u,A]:=(iq b).2 _ j;exact#[a,dx,vs,w,q,p,o.1,u,A,b.length,λg d' s=>?_];have f:Kids K F (upd H a<|bxO C dx<|eG n g vs) _ vs fs:=Kids.keep (λc i w e=>az λz=>by subst z;rw[p]at e;cases C<;>cases e) b λc m=>az λz=>by subst z;exact(YX.mp h).1 m
 let#[y,x]:=Kids.put f j s;exact I.one hi O l o.1 o.2.1 o.2.2 q #[o,dx,eG n g vs,aD,by rwa[x],y]
end
def o9(C:Option Addr)(i:Nat)(ρ:DF):Option (List (Str×FO)):=match ρ[i]? with
 |some (!.own (.obj C' fs) _)=>if C'=C then !fs else ()
 |some (!.bor (.obj C' fs))=>if C'=C then !fs else ()
 |_=>()
def Co{C}(h:o9 C i ρ=!fs):(∃t,ρ[i]?=!!.own (.obj C fs) t)\/ρ[i]?=!!.bor (.obj C fs):=by
 delta o9 at h;split at h
 .rename_i a f t q;split at h
  .rename_i e;subst e;cases h;exact .inl #[t,q]
  .cases h
 .rename_i a f q;split at h
  .rename_i e;subst e;cases h;exact .inr q
  .cases h
 .cases h
def fP(C:Option Addr)(i:Nat)(n:Str):DF->Option D:=λa=>(o9 C i a).bind λfs=>match fs.lookup n with
 |some (.d d)=>!d
 |_=>()
def DInv.obj{C}(I:DInv K P F H ρ σ)(h:o9 C i ρ=!fs):∃a dx vs,σ[i]?=!!.ref a/\H a=!bxO C dx vs/\F a=()/\Kids K F H (λb=>F b=()) vs fs:=by
 let f:=Co h;have c:∃v,σ[i]?=!!v:=by
  rcases f with⟨t,q⟩|q
  .let#[v,e,_]:=I.at q;exact#[v,e]
  .let#[v,e,_]:=I.at q;exact#[v,e]
 let#[v,c]:=c;let#[a,rfl,o,dx,vs,j,_,g]:=I.slot c f;exact#[a,dx,vs,c,j,o,g]
section
variable{n:Str}
def pfB i(c:Cls X.K C)(j:NoAttr X.K C n)(h:PE X e (c7 i))(m:attributeBase e n X.env (eval e X.env)=eval e X.env:=by rfl):PDE X (.Attribute e n pos) (fP (!C) i n):=
 (pU h m).imp λy H Q=>un7 λP F z d b I k=>by
  let#[fs,q,b]:=YK.mp b;split at b
  .rename_i A g;cases b;let#[a,x,f,s,p,_,o]:=I.obj q;let#[w,l,u]:=(iq o).2 _ g;exact#[_,s,a,C,x,f,w,qx,p,c,j,l,k w F H (Evo.refl I.toDHp) u]
  .cases b
def oQ(C:Option Addr)(i:Nat)(n:Str)(k:FO->Option FO):DF->Option DF:=λa=>match a[i]? with
 |some (!.own (.obj C' fs) t)=>if C'=C/\fs.length<1000 then(fs.lookup n).bind λo=>(k o).map λb=>a.set i (!.own (.obj C<|fS n b fs) t)else ()
 |_=>()
def Bj{C}(h:oQ C i n k ρ=!ρ'):∃fs t o o',ρ[i]?=!!.own (.obj C fs) t/\fs.lookup n=!o/\k o=!o'/\fs.length<1000/\ρ'=ρ.set i (!.own (.obj C (fS n o' fs)) t):=by
 delta oQ at h;split at h
 .rename_i f fs t q;split at h
  .rename_i e;let#[rfl,c]:=e;let#[o,b,h]:=YK.mp h;let#[o',a,rfl]:=dI h;exact#[fs,t,o,o',q,b,a,c,qx]
  .cases h
 .cases h
end
def Kids.add{vs}{fs}{o}{v}(h:Kids K F H ow vs fs):fs.lookup n=()->FRep K F H ow o v->Kids K F H ow (eG n v vs) (fS n o fs)/\gB (eG n v vs) (fS n o fs)=gB vs fs++tM o v:=by
 induction h with
 |nil=>exact λu r=>#[.cons #[qx,r] .nil,by show tM o v++[]=[]++tM o v;simp]
 |@cons p q vs fs r t ih=>
  let#[x,w]:=p;let#[y,z]:=q;let#[e,r]:=r;cases e;intro a b;rw[bb]at a;delta eG fS;by_cases e:n=x
  .rw[Yl e]at a;cases a
  .rw[Yn e]at a;rw[Yn λz=>e z.symm,Yn λz=>e z.symm,cE,cE];let#[f,c]:=ih a b;exact#[.cons #[qx,r] f,by rw[c,Zh]]
def Kids.mono{vs}(e:Same F F')(k:∀b u,ow b->H b=!u->H' b=!u/\ow' b)(h:Kids K F H ow vs fs):Kids K F' H' ow' vs fs:=h.imp λp q z=>#[z.1,z.2.mono e k λx=>x.same e]
def Kids.adr{vs}(h:Kids K F H ow vs fs):∀b∈gB vs fs,H b≠():=by
 induction h with
 |nil=>exact λ_ m=>nomatch m
 |@cons p q _ _ r _ ih=>
  intro b m;rw[cE]at m;rcases YO.mp m with m|m
  .let#[x,v]:=p;let#[y,o]:=q;cases o with
   |d x=>cases m
   |lst ds=>let#[_,c,rfl,_,u,a,_]:=r;cases Yu.mp m;rw[a];simp
   |dK ds=>let#[_,c,rfl,_,u,a,_]:=r;cases Yu.mp m;rw[a];simp
   |lL ts=>let#[_,c,bs,rfl,_,a,_]:=r;cases Yu.mp m;rw[a];simp
  .exact ih b m
def DInv.addF{C}{o}(I:DInv K P F H ρ σ)(ev:Evo P F H F1 H1)(hi:ρ[i]?=!!.own (.obj C fs) t)(U:fs.lookup n=())(hv:FRep K F1 H1 (λb=>H b=()/\F1 b=()) o v):∃a dx vs,σ[i]?=!!.ref a/\H1 a=!bxO C dx vs/\vs.length=fs.length/\DInv K P F1 (upd H1 a<|bxO C dx<|eG n v vs) (ρ.set i<|!.own (.obj C<|fS n o fs) t) σ:=by
 let#[O,N]:=I.rep;let#[w,Q,a,rfl,#[s,dx,vs,E,R,f],ht]:=N i _ hi;let#[M,L]:=ev.keep a _ E s.1;exact#[a,dx,vs,Q,M,f.length,?_];let I1:=I.evo ev
 let p:Addr->Option Nat:=λb=>open Classical in if H b=() then !i else O b
 have B:∀j x,ρ[j]?=!!x->∃v,σ[j]?=!!v/\DVRep K P F1 H1 (λc=>p c=!j) x v:=λj x T=>by
  let#[v,e1,Z]:=N j x T;exact#[v,e1,(Z.imp λb u _ _ h q=>(Yn<|by rw[h];simp).trans q).evo ev]
 have J:p a=!i:=(Yn<|by rw[E];simp).trans s.2.2;have g:Kids K F1 H1 (λc=>F1 c=()/\P c=()/\p c=!i) vs fs:=Kids.mono ev.ext (λb u q h=>#[(ev.keep b u h q.1).1,(ev.keep b u h q.1).2,q.2.1,(Yn<|by rw[h];simp).trans q.2.2]) f;have A:FRep K F1 H1 (λc=>F1 c=()/\P c=()/\p c=!i) o v:=FRep.mono (Same.refl _) (λb u q h=>#[h,q.2,I.pro.free q.1,Yl q.1]) (λx=>x) hv;have new:∀b∈tM o v,H b=():=λb m=>by
  cases o with
  |d x=>cases m
  |lst ds=>let#[c,rfl,q,_]:=hv;cases Yu.mp m;exact q.1
  |dK ds=>let#[c,rfl,q,_]:=hv;cases Yu.mp m;exact q.1
  |lL ts=>let#[c,bs,rfl,q,_]:=hv;cases Yu.mp m;exact q.1
 let#[Y,X]:=Kids.add g U A;have l:(a::gB (eG n v vs) (fS n o fs)).Nodup:=by
  rw[X,<-List.cons_append];exact ZF.mpr #[R,?_,λx m y S=>?_]
  .cases o with
   |d x=>exact List.nodup_nil
   |lst ds=>let#[c,rfl,_]:=hv;exact YX.mpr #[nofun,.nil]
   |dK ds=>let#[c,rfl,_]:=hv;exact YX.mpr #[nofun,.nil]
   |lL ts=>let#[c,bs,rfl,_]:=hv;exact YX.mpr #[nofun,.nil]
  .rintro rfl;let z:=new _ S;rcases Ys.mp m with rfl|m
   .rw[E]at z;cases z
   .exact Kids.adr f _ m z
 exact I1.one hi p B L s.2.1 J Q #[#[L,s.2.1,J],dx,_,aD,l,Kids.keep (λc i w e=>az λz=>by subst z;rw[M]at e;cases C<;>cases e) Y λc m=>az λz=>by subst z;exact(YX.mp l).1 m]
def Mv:OD->Option FO
 |.lst []=>!.lL []
 |.dK kvs=>!.dK kvs
 |_=>()
def addF(C:Option Addr)(i:Nat)(n:Str)(o:FO):DF->Option RES:=λa=>match a[i]? with
 |some (!.own (.obj C' fs) t)=>if C'=C/\fs.lookup n=()/\fs.length<1000 then !.nx (a.set i<|!.own (.obj C<|fS n o fs) t) else ()
 |_=>()
def zx{C}{o}(h:addF C i n o ρ=!r):∃fs t,ρ[i]?=!!.own (.obj C fs) t/\fs.lookup n=()/\fs.length<1000/\r=.nx (ρ.set i (!.own (.obj C (fS n o fs)) t)):=by
 delta addF at h;split at h
 .rename_i c fs t q;split at h
  .rename_i e;let#[rfl,b,a]:=e;cases h;exact#[fs,t,q,b,a,qx]
  .cases h
 .cases h
section
variable{n:Str}
def k5(C:Addr)(i:Nat)(n:Str)(f:Dd):DF->Option RES:=λa=>(f a).bind λd=>addF (!C) i n (.d d) a
def jC i{f:Dd}(c:Cls X.K C)(w:NoAttr X.K C n)(u:PE X o (c7 i))(hv:PDE X value f)(hs:swapsWith value (!.Attribute o n pos') pos.line X.env=pure false:=by rfl) :
  PD1 X (.Assign [.Attribute o n pos'] value pos) (k5 C i n f):=PS.imp (ui u hv hs) λE b H=>un7 λP F g r h I k=>by
 let#[d,q,h]:=YK.mp h;let#[fs,t,s,p,m,rfl]:=zx h;exact#[P,F,g,d,q,I,λv B L e l=>?_];let#[a,A,j,z,y,x,J]:=I.addF e s p (o:=.d d) l;exact#[_,z,a,C,A,j,qx,y,c,w,by rwa[x],k b B _ e.ext J]
def xW(C:Addr)(i:Nat)(n:Str)(f:Do):DF->Option RES:=λa=>(f a).bind λo=>(Mv o).bind λx=>addF (!C) i n x a
def DM i{f:Do}(c:Cls X.K C)(N:NoAttr X.K C n)(M:PE X o (c7 i))(hv:PDO X value f)(hs:swapsWith value (!.Attribute o n pos') pos.line X.env=pure false:=by rfl) :
  PD1 X (.Assign [.Attribute o n pos'] value pos) (xW C i n f):=PS.imp (ui M hv hs) λE p H=>un7 λP F s r h I k=>by
 let#[l,q,h]:=YK.mp h;let#[x,e,h]:=YK.mp h;let#[fs,t,A,z,y,rfl]:=zx h;exact#[P,F,s,l,q,I,λb j U m g=>?_];have S:FRep X.K j U (λb=>H b=()/\j b=()) x (.ref b):=by
  cases l with
  |lst ds=>
   cases ds with
   |nil=>
    cases e;let#[B,u,L,h]:=g;cases u with
    |lst us=>cases h;exact#[b,[],qx,B,L,.nil]
    |_=>exact h.elim
   |_=>cases e
  |dK ds=>cases e;exact#[b,qx,g.1,g.2]
  |_=>cases e
 let#[a,T,w,R,Q,O,J]:=I.addF m A z S;exact#[_,R,a,C,T,w,qx,Q,c,N,by rwa[O],k p j _ m.ext J]
end
def wg(C:Addr)(m:Dz)(g:Dv):DF->Option OD:=λa=>(g a).bind λx=>match m (.obj (!C) []) x with
 |some (o',.non)=>!o'
 |_=>()
section
variable{k:Nat}{g:Dv}
def AC(M:Mk X.K C f)(G:FnOk X.prog X.w X.K X.mg X.base CX0 k f fd ps (spO X.K mM))(hr:Room (k+1) X.A)(hg:Gl X x)(hm:X.mg x=!.ref C)(E:Binds X.K fd ps [])(ha:kf X (e::es) g)(B:nDb x:=by decide)(he:starEach (e::es) X.env=(false,eval e X.env)::starEach es X.env:=by rfl)(m:(backTo pos<|starEach es X.env).any (·.1)=false:=by rfl):PDO X (.Call (.Name x p) (e::es) [] pos) (wg C mM g):=
 (yM M G hr hg hm E .nil np ha B he m).imp λσ H Q=>un7 λP F R Z h I k=>by
  let#[N,q,h]:=YK.mp h;split at h
  .rename_i o' Y;cases h;exact#[P,F,R,N,q,I,λS j i J U y L l s hne=>?_];let a:=I.evo J;have sm:Same i (upd (upd i L<|.own y) y<|.ins C L []):=λb u z=>by rwa[az<|bc z l,az<|bc z s]
   exact#[gd j i,j,y,S,.obj _ [],N,Z,.non,by simp,Y,#[a.sub.trans sm,λb u z=>sm b u<|(ge a.sub).pro b u z,(ge a.sub).dis],#[#[a.sub.free l,(ge a.sub).pro.free l],L,[],aD,YX.mpr #[nofun,.nil],.nil],(U.dvs a).heap,λv F2 H2 O o ho T=>?_];cases T;exact#[qx,k y F2 H2 (J.trans<|a.toDHp.gd O o)<|ho.mono (Same.refl _) λb u q E=>#[E,?_,q.1]];cases c:i b with
   |none=>exact J.back I.toDHp c
   |some w=>
    have n:j b=():=by
     cases d:j b with
     |none=>rfl
     |some z=>have:=O b z d;rw[q.1]at this;cases this
    have:=gx.mpr #[n,c];rw[q.2]at this;cases this
  .cases h
end
abbrev DXs:=DF->Option (List D×DF)
def tLX(K:Kq)(g:DXs):TA:=λb H Q=>∃P F c r,g c=!r/\DInv K P F H c b/\∀e a f,Same F a->DInv K P a f r.2 b->Reps K a e r.1->Q e f
def PAX(X:Cx)(es:List Expr)(g:DXs):Prop:=PA X es<|tLX X.K g
def mC:DXs:=λρ=>!([],ρ)
def cg(f:DX)(g:DXs):DXs:=λc=>(f c).bind λa=>(g a.2).map λb=>(a.1::b.1,b.2)
section
variable{f:DX}{g:DXs}
def nV:PAX X [] mC:=bw.imp λa H Q=>un7 λP F b r h I k=>by
 cases h;exact k [] F H (Same.refl _) I .nil
def eQ(h:PX X e f)(t:PAX X es g)(hs:starEach (e::es) X.env=(false,eval e X.env)::starEach es X.env:=by rfl):PAX X (e::es) (cg f g):=PA.imp (aQ h t hs) λA H Q=>un7 λP F j r c I k=>by
 let#[a,p,c]:=YK.mp c;let#[b,q,rfl]:=dI c;exact#[P,F,j,a,p,I,λv z B s w o=>#[P,z,a.2,b,q,w,λl y x i u m=>k (v::l) y x (s.trans i) u<|.cons (o.same i) m]]
def Reps.dvs(h:Reps K F vs ds):DVs K P F H (ds.map .v) vs:=Reps.ind (M:=λvs ds=>DVs K P F H (ds.map .v) vs) .nil (λr z ih=>.cons qx r ih) h
def dD(C:Addr)(mn:Str)(i:Nat)(m:Dz)(g:DXs):DX:=λb=>(o9 (!C) i b).bind λfs=>if fs.lookup mn=() then(g b).bind λa=>match a.2[i]? with
  |some (!.own o t)=>(m o<|a.1.map .v).map λr=>(r.2,a.2.set i<|!.own r.1 t)
  |_=>() else ()
variable{k:Nat}
open A in
def De{E}:∀σ H Q,tX K (dD C mn i mM g) σ H Q->w4 C mn (spO K mM) [] E (c7 i) (tLX K g) σ H Q:=λσ H Q=>un7 λP F m r h I k=>by
 let#[fs,q,h]:=YK.mp h;split at h
 .rename_i J;let#[a,z,h]:=YK.mp h;split at h
  .rename_i A t y;let#[b,x,rfl]:=dI h;let#[p,T,o,e,M,_,L]:=I.obj q;exact#[_,e,p,T,o,qx,M,(iq L).1 J,P,F,m,a,z,I,λu l Y R U w=>?_];let#[p',S,f,O,N,back]:=U.hand y;rw[e]at f;cases f;exact#[gdS l Y S,l,p,u,A,a.1.map .v,b.1,b.2,by simp,x,N,O,w.dvs,λv Z X j c B s=>?_];exact k v Z X (R.trans j) (back j c B) s
  .cases h
 .cases h
def GG i{pl}(c:Cls X.K C)(m:Meth X.K C mn f')(G:FnOk X.prog X.w X.K X.mg X.base CX0 k f' fd ps (spO X.K mM))(l:Room k' X.A)(q:Binds X.K fd ps [])(he:PE X o (c7 i))(s:PAX X (e::es) g)(p:k<=k':=by first|decide|lia)
  (h:starEach (e::es) X.env=(false,eval e X.env)::starEach es X.env:=by rfl) (a:(backTo pos<|starEach es X.env).any (·.1)=false:=by rfl)
  (j:eval (.Call (.Attribute o mn apos) (e::es) [] pos) X.env=(do
   let b <-eval o X.env
   standAt apos.atName
   let (f,first) <-holding [b]<|getMethod b mn pl
   callWith pos f first (backTo pos<|starEach (e::es) X.env)<|backToKw pos<|keywordEach [] X.env):=by rfl):PX X (.Call (.Attribute o mn apos) (e::es) [] pos) (dD C mn i mM g):=
 (zV he c m G (l.mono p) q .nil np s h a j).imp De
end
abbrev AW:=Nat ⊕ D
abbrev MW:=List DV->Option (List DV×D)
abbrev DWs:=DF->Option (List AW×DF)
section
variable{σ:List (Option V)}
theorem Inv.turnedL(I:Inv X pz σ H s)(k:∀b o,b∉fp->s.heap.get? b=!o->h'.get? b=!o)(f:∀b∈fp,jX X pz H b):Inv X pz σ H {s with heap:=h',toks:=t' }:=by
 have a:∀b u,H b=!u->b∉fp:=λb u e z=>by rw[(f b z).1]at e;cases e
 exact I.step (λb j=>?_) (λb o t t h e t=>k b o h e) (λb o t t h e t=>#[o.slots,k b o h e]) (λt t t t n=>n)
  (λb o h e=>#[o,k b o h e]) (λt t t e=>e) (λm i=>?_) (λb u e=>?_) I.bare
 .let#[_,l,_,x,w,p]:=f b j;exact#[x,l,w,p]
 .let#[o,y,A,g,r]:=i;exact#[o,y,A,k _ o (λz=>(f _ z).2.1 qx) g,r]
 .exact(I.hok b u e).stay (λc v h q=>k c v ?_ q) (λt q=>q) λt t t q=>q;grind
def Inv.turnedLaid{o}(I:Inv X pz σ H s)(k:∀b o,b∉fp->s.heap.get? b=!o->h'.get? b=!o)(l:∀b∈fp,jX X pz H b)(p:s.heap.objs.size<=a)(new:ObjOk X.prog X.w (upd H a o) h' a o):Inv X pz σ (upd H a o) {s with heap:=h',toks:=t' }:=by
 let j:=I.hok.fresh p;have f:∀b u,H b=!u->b∉fp:=λb u e z=>by rw[(l b z).1]at e;cases e
 have i:∀b u,s.heap.get? b=!u->b≠a:=λb u q=>Yz<|Yx (Yw q) p
 exact I.step (λb g=>?_) (λb o t t h e t=>k b o h e) (λb o t t h e t=>#[o.slots,k b o h e]) λb u t q n=>by rwa[az<|i b u q]
  (λb o h e=>#[o,k b o h e]) (λb t t e=>by rwa[az<|bc e j]) (λm y=>?_) (λb u e=>?_) I.bare
 .let#[_,A,_,E,C,B]:=l b g;exact#[E,A,C,B]
 .let#[o,J,K,x,r]:=y;exact#[o,J,K,k _ o (λz=>(l _ z).2.1 qx) x,r]
 .by_cases g:b=a
  .subst g;rw[aD]at e;cases e;exact new
  .rw[az g]at e;exact(I.hok b u e).stay (λc v h q=>k c v ?_ q) (λc q=>by rwa[az<|bc q j]) λc u t q=>by rwa[az<|bc q j]
   rcases h with z|z
   .rw[z];exact f b u e
   .exact f c _ z
end
def Ite(K:Kq)(a:Addr):It:=
 #[λi H=>∃b x,SqL K H a b/\b[i]?=!x,λi H x c=>∃p v,H p=()/\x=.ref p/\c=upd H p (.tup [.int i,v])/\∀b,SqL K H a b->b[i]?=!v,λi H=>∃b,SqL K H a b/\b.length<=i]
def z9{P}a e it(C:e≠it):Turn P w K (.Tuple elts kk pos) (Ite K a) [e,it] e (λi h=>(∃f,IsEnum h e it i f)/\h.IsListIter it a i) where
 mem:=by simp
 obj:=λi h l b m=>by
  let#[#[f,j],o,eo,c,d]:=l;have B:b=e\/b=it:=by simpa using m
  rcases B with rfl|rfl
  .exact#[_,j,λv z=>by cases z]
  .exact#[o,eo,λv z=>by rw[d]at z;cases z]
 keep:=λi h h' l k=>by
  let#[#[f,j],g]:=l;exact#[#[f,k e (by simp) _ j],g.at λo x=>k it (by simp) o x]
 item:=by
  intro X hP Y hK hc i pz s σ H E I Q l Z;subst hP Y hK;let#[#[f,j],g]:=l;let#[xs,x,O,U]:=Z;let#[T,R,p,hz]:=I.list O;let#[u,hu,ru]:=R.get U;exact wpAny_pyNext_enum_item j g p.isList (by simpa using hu) C λh' ho J hT hsz hk=>?_;exact#[_,qx,wpAny_letOwnedTupleGo_enum ho λh2 he2 A=>?_];have S:∀b o,b∉[e,it]->s.heap.get? b=!o->h2.get? b=!o:=λb o m q=>by
   have M:b≠e:=λz=>m<|by simp[z]
   have hb2:b≠it:=λz=>m<|by simp[z]
   exact(A.2 b M).trans<|hk b o M hb2 q
  let y:=Yw j;have L:it<s.heap.objs.size:=by let#[_,x,_]:=g;exact Yw x
  let hTe:=Xl y;let N:=(A.2 _ hTe).trans hT;have I2:Inv X pz σ (upd H s.heap.objs.size<|.tup [.int _,x]) {s with heap:=h2,toks:=s.toks+1}:=
   I.turnedLaid S Q (Yp _) #[show 2<=sizeLine by decide,[.int i s.toks,u],.cons #[_,qx]<|.cons ru .nil,#[_,N,qx,_,qx],_,N,qx]
  let hn:=I.hok.fresh<|Yp _;exact#[.ref s.heap.objs.size,_,I2,qx,#[_,x,hn,rfl,rfl,λys hy=>by rwa[I.list_inj hy O]],#[#[_,by simpa using he2],J.at λo q=>(A.2 it<|XE C).trans q],λb m=>?_];have B:b=e\/b=it:=by simpa using m
  rw[az<|by rcases B with rfl|rfl;exact Yz y;exact Yz L];exact(Q b m).1
 done:=by intro X hP Y hK hc i pz s σ H E I Q l Z;subst hP Y hK;let#[#[f,j],g]:=l;let#[xs,O,U]:=Z;let#[T,R,p,hz]:=I.list O;let hl:=R.length;exact wpAny_pyNext_enum_end (I.ok.hd hc) j g p.isList (by simp;lia) λh' eb=>#[qx,I.turnedL (λb o m q=>eb b o (λz=>m<|by simp[z]) q) Q]
 self:=λv v v v v l h=>by
  let#[#[f,j],_]:=l;exact wpAny_pyIter_enum j h
section
variable{l:Expr}
def Ll(K:Kq)(ta:TA):TI:=λc H R=>ta c H λe b=>∃a,e=[.ref a]/\(∃x,SqL K b a x)/\R (Ite K a) b
def pT:bootBuiltins "enumerate"=!(.type "enumerate"):=by rfl
def yP{ta}(M:Gl X "enumerate")(L:X.mg "enumerate"=())(O:PA X [l] ta)(hs:starEach [l] X.env=[(false,eval l X.env)]:=by rfl):PI X (.Tuple elts kk tpos) (.Call (.Name "enumerate" p) [l] [] pos) (Ll X.K ta):=by
 intro m s j H R I h;exact Call_<|mI I M L pT<|Xo (thn (O pos m s j H _ I h) λU c #[T,w,f,y,z]=>?_) hs qx;let#[a,e,#[S,J],q]:=z;subst e;let#[u,rfl,x]:=fB y;cases(show u=Value.ref a from x);let#[C,Y,A,Z]:=f.list J;exact call_enumerate_list A.isList λP o g E B=>?_;let Q:=f.kept (t':=c.toks) B;exact wpAny_pyIter_enum o ?_;exact#[c.heap.objs.size+1,[c.heap.objs.size+1,c.heap.objs.size],_,_,w,qx,Q,z9 a _ _<|Xl<|ZS _,#[#[_,o],g],λb N=>?_,q];have i:b=c.heap.objs.size+1\/b=c.heap.objs.size:=by simpa using N
 rcases i with rfl|rfl
 .exact f.fpOk (ZP _)<|f.hok.fresh<|ZP _
 .exact f.fpOk (Yp _)<|f.hok.fresh<|Yp _
def eB(ds:List D):List D:=ds.zipIdx.map λx=>.tup [.int x.2,x.1]
def pM(f:Dd):DF->Option (List D):=λa=>match f a with
 |some (.lst ds)=>!eB ds
 |_=>()
theorem jK(h:(eB ds)[i]?=!d):∃a,ds[i]?=!a/\d=.tup [.int i,a]:=by
 delta eB at h;grind
def rm(h:SqL K F a vs)(r:Reps K F vs ds):xw K P (Ite K a) F (eB ds):=by intro B H e f i;let b:=f.sub.seq<|e.seq h;exact#[λd u=>?_,λs=>#[vs,b,by rw[r.length];simpa[eB]using s]];let#[z,c,rfl]:=jK u;let#[v,g,w]:=r.get c;exact#[#[vs,v,b,g],λx A l=>?_];let#[q,y,p,rfl,rfl,m]:=l;have:=m vs b;rw[g]at this;cases this;let j:=Evo.laid f (o:=.tup [.int i,v]) p;exact#[_,j,.tup aD<|.cons .int<|.cons ((w.same e).same j.ext) .nil]
def CI{f:Dd}(i:Gl X "enumerate")(g:X.mg "enumerate"=())(h:PDE X l f)(hs:starEach [l] X.env=[(false,eval l X.env)]:=by rfl):PDI X (.Tuple elts kk tpos) (.Call (.Name "enumerate" p) [l] [] pos) (pM f):=PI.imp (yP i g (aQ h bw hs) hs) λs H R #[P,F,b,u,a,I,k]=>by
 delta pM at a;split at a
 .rename_i j q;cases a;exact#[P,F,b,_,q,I,λv o m e c=>?_];cases c with
  |lst h1 h2=>exact#[_,qx,#[_,e.hp.sub.seq h1],k _ o m e<|rm h1 h2]
 .cases a
end
def AZ{f}{O:Addr->Option Nat}{A:Addr->Prop}(g:DHp P F H)(C:∀i x,ρ[i]?=!!x->∃v,σ[i]?=!!v/\DVRep K P F H (λb=>O b=!i) x v)(l:∀a,A a->F a=()/\P a=()/\(O a=()\/O a=!ia\/O a=!ib))(j:∀a,¬A a->H' a=H a)(h:∀i x,ρ'[i]?=!!x->ρ[i]?=!!x/\i≠ia/\i≠ib/\f[i]?=σ[i]?)(s:ρ'.length=f.length):DInv K P F H' ρ' f:=by
 exact#[#[λa u e=>?_,λa u e=>?_,g.dis],s,O,λi x p=>?_]
 .rw[j a λz=>by rw[(l a z).1]at e;cases e];exact g.sub a u e
 .rw[j a λz=>by rw[(l a z).2.1]at e;cases e];exact g.pro a u e
 .let#[L,J,I,E]:=h i x p;let#[v,Q,m]:=C i x L;exact#[v,E.trans Q,?_];cases x with
  |v d=>exact m
  |bor o=>exact m
  |own o t=>
   let#[c,rfl,N,M]:=m;exact#[c,qx,N.mono (Same.refl _) λb w q B=>#[?_,q],M];rw[j b λz=>?_]
   .exact B
   .rcases(l b z).2.2 with y|y|y
    .rw[q.2.2]at y;cases y
    .rw[q.2.2]at y;cases y;exact J qx
    .rw[q.2.2]at y;cases y;exact I qx
def All2.mem{α c}{R}{as}{bs:List c}(h:All2 R as bs){a:α}(ha:a∈as):∃b∈bs,R a b:=by
 induction h with
 |nil=>cases ha
 |cons q _ ih=>
  rcases Ys.mp ha with rfl|ha
  .exact#[_,Ye,q]
  .let#[b,f,e]:=ih ha;exact#[b,Yd _ f,e]
section
variable{a:Expr}
def DL(i:Nat):DF->Option Bool:=λa=>match a[i]? with
 |some (!.own _ _)=>!false
 |some (!.bor _)=>!false
 |some (!.v .non)=>!true
 |some (!.v _)=>!false
 |_=>()
open A in
def EO i{j p}(h:PE X a (c7 i)):PDT X (.Compare a [.Is] [.Constant .none j p] pos) (DL i):=(DD<|IS h).imp λl H Q=>un7 λP F m d b I k=>by
 delta DL at b;split at b
 .rename_i o t q;cases b;let#[v,e,c,rfl,_]:=I.at q;exact#[_,e,false,qx,k F H<|Evo.refl I.toDHp]
 .rename_i o q;cases b;let#[v,e,c,rfl,_]:=I.at q;exact#[_,e,false,qx,k F H<|Evo.refl I.toDHp]
 .rename_i q;cases b;let#[v,e,f]:=I.at q;cases f;exact#[_,e,true,qx,k F H<|Evo.refl I.toDHp]
 .rename_i s g q;cases b;let#[v,e,f]:=I.at q;exact#[_,e,false,?_,k F H<|Evo.refl I.toDHp]
  congr 1
  exact YB λz=>?_;subst z;cases f;exact g qx
 .cases b
def cK(i:Nat)(g:Dk):DF->Option Bool:=λa=>match a[i]? with
 |some (!.own o _)=>g<|a.set i<|!.v o.d
 |_=>()
def iL i{g:Dk}(h:PDT X e g):PDT X e (cK i g):=PT.imp h λx H Q=>un7 λP F y b c I k=>by
 delta cK at c;split at c
 .rename_i o t q;let#[w,p,j]:=I.frz q;exact#[P,w,_,b,c,j,λz s f=>k F s #[Same.refl _,#[(p.trans f.ext).trans f.hp.sub,f.hp.pro,I.dis],λa u l m=>#[Evo.same j.toDHp f a u l,m]]]
 .cases c
end
open PySem.W
structure LamS where
 qual:Str
 params:Arguments
 body:Expr
 scope:Scope
 p:Str
 x:Str
 cell:Bool:=false
structure LamS.Ok (L:LamS):Prop where
 kind:L.scope.kind=.function
 co:L.scope.isCoroutine=false
 gen:L.scope.isGenerator=false
 par:L.scope.names.lookup L.p=!(if L.cell then .cell else .local)
 fre:L.scope.names.lookup L.x=!.free
 ne:(L.x == L.p)=false
 onc:∀y,L.scope.names.lookup y=!.cell->y=L.p/\L.cell=true
 noc:L.cell=false->∀y∈L.scope.names,y.2≠.cell
 cels:L.cell=true->∀n cl,cellsFrom n L.scope.names cl=(L.p,n)::cl
 psh:L.cell=true->∀h:Heap,pushCells h L.scope.names=h.push {cls:=.type "cell",data:=.cell none}
 only:∀y,L.scope.names.lookup y=!.free->y=L.x
 bind:∀(pm cdv ct u:Value) (cl:List (Str×Addr)),bindArgs (kla_fn "<lambda>" L.qual L.params L.body L.scope cl pm cdv ct) #[[u],[]]=pure [(L.p,u)]
def wO(L:LamS)(f c' c:Addr)(h:Heap):Prop:=∃p a,h.get? f=!(kla_obj "<lambda>" L.qual L.params L.body L.scope [(L.x,c)] p c' a)
def dh(L:LamS)(n:Nat)(c:Addr):List (Str×Addr):=if L.cell then[(L.p,n+1),(L.x,c)]else[(L.x,c)]
def gf(L:LamS)(s:Shared)(f c' c:Addr):Env:=envX L.qual L.scope s.heap.objs.size f (.ref c')<|dh L s.heap.objs.size c
def xY(S:L.Ok)n c:(dh L n c).lookup L.x=!c:=by
 delta dh;split
 .rw[Zx,S.ne];rw[Zx,XL]
 .rw[Zx,XL]
def pP(h:L.cell)n c:(dh L n c).lookup L.p=!(n+1):=by delta dh;rw[Yl h,Zx,XL]
def vg{c}{y}(e:(dh L n c).lookup y=!d):(y=L.x/\d=c)\/(L.cell/\y=L.p/\d=n+1):=by
 have one:∀{e':([(L.x,c)]).lookup y=!d},y=L.x/\d=c:=λ{e'}=>by
  rw[Zx]at e';split at e'
  .rename_i q;cases e';exact#[eq_of_beq q,qx]
  .cases e'
 delta dh at e;split at e
 .rename_i h;rw[Zx]at e;split at e
  .rename_i q;cases e;exact .inr #[h,eq_of_beq q,qx]
  .exact .inl<|one (e':=e)
 .exact .inl<|one (e':=e)
def rR(CX:CXT)(P:Program)(w:World)(K:Kq)(mg:Ks)(base:Heap)(L:LamS)(f c' c:Addr)(A:Around)(outer:List Env)(s:Shared)(H:Hp)(E:XK):Cx where
 prog:=P
 w:=w
 K:=K
 mg:=mg
 base:=base
 A:=A.deeper<|gf L s f c' c
 N:=[L.p,L.x]
 s₀:=s
 H₀:=H
 env:=gf L s f c' c
 outer:=outer
 stack:=gf L s f c' c::outer
 ex:=[]
 calm:=true
 fn:=λy=>y != L.x
 pn:=[]
 xe:=λe b=>wpAny (model P w) (A.deeper<|gf L s f c' c) (leaving (gf L s f c' c) e) (λ_ a=>CX outer H s E e a) (λg a=>CX outer H s E g a) b
def sE{P}{c}{E}{C}{m:Ks}(S:L.Ok)(hd:A.handled=())(e0:Env0 P w K mg base A outer s H)(Z:s.heap.IsCell c<|!uc)(R:H c=())(X:RelV U C)(rc:RelV vc uc)(ns:h'.Ns s.heap.objs.size m)(hm:L.cell=false->m L.p=!C)(J:L.cell->h'.IsCell (s.heap.objs.size+1) (!C))(Q:∀b o,s.heap.get? b=!o->h'.get? b=!o):Inv (rR CX P w K mg base L f c' c A outer s H E) [] [!U,!vc] H {heap:=h',gens:=s.gens,drawn:=s.drawn,toks:=tk,os:=s.os}:=by
 have T:=Z.lt;have cl:∀y d,(gf L s f c' c).cells.lookup y=!d->(y=L.x/\d=c)\/(L.cell/\y=L.p/\d=s.heap.objs.size+1):=λy d e=>vg e
 have O:(gf L s f c' c).cells.lookup L.x=!c:=xY S _ _;have B:∀b:Addr,b∉(rR CX P w K mg base L f c' c A outer s H E).ex:=λb z=>absurd (show b∈([])from z)<|by simp
 have Y:h'.IsCell c (!uc):=by let#[o,M,l]:=Z;exact#[o,Q c o M,l]
 have N:∀d:Addr,d=c->d=s.heap.objs.size+1->False:=λd a b=>by
  have q:=a.symm ▸ T;rw[b]at q;exact Ze _<|ZU q<|ZS _
 exact#[#[e0.mod,S.kind,qx,qx,Yp _,λy z d M l=>?_,λy hy=>?_,λy d hf h=>?_,λ_=>hd,Around.frames_deeper e0.frames,.inr #[rfl,rfl],λb z=>absurd z<|B b,e0.bs,e0.bsz,λb _ _=>B b,λb z=>absurd z<|B b,e0.funs,e0.frf,e0.tab],
  rfl,e0.bare,Un.kept Q,#[_,ns,λi y v M l h3=>?_],λy d h=>?_,e0.hok.fresh<|Yp _,λy d h=>?_,λp hp=>absurd (show p∈([])from hp)<|by simp,e0.hok.kept Q,qx]
 .rcases cl y d M with⟨u,j⟩|⟨_,u,j⟩<;>rcases cl z d l with⟨b1,b2⟩|⟨_,b1,b2⟩
  .exact u.trans b1.symm
  .exact(N d j b2).elim
  .exact(N d b2 j).elim
  .exact u.trans b1.symm
 .have hy:L.scope.names.lookup y=!.cell\/L.scope.names.lookup y=!.free:=hy;rcases hy with hy|hy
  .let#[a,b]:=S.onc y hy;rw[a];exact#[_,pP b _ _]
  .rw[S.only y hy];exact#[c,O]
 .have I:(y != L.x):=hf;rcases cl y d h with⟨u,j⟩|⟨_,u,j⟩
  .rw[u]at I;simp at I
  .rw[j];exact ZP _
 .have g:[L.p,L.x][i]?=!y:=M
  match i,g,l with
  |0,g,l=>
   cases g;cases l;cases q:L.cell with
   |false=>exact#[C,X,.inl #[by have:=S.par;rwa[q]at this,hm q]]
   |true=>exact#[C,X,.inr #[.inl (by have:=S.par;rwa[q]at this),_,pP q _ _,J q]]
  |1,g,l=>
   cases g;cases l;exact#[uc,rc,.inr #[.inr S.fre,c,O,Y]]
  |i+2,g,l=>cases g
 .rcases cl y d h with⟨u,j⟩|⟨q,u,j⟩
  .rw[j];exact#[_,Y]
  .rw[j];exact#[_,J q]
 .rcases cl y d h with⟨u,j⟩|⟨q,u,j⟩
  .rw[j];exact R
  .rw[j];exact e0.hok.fresh<|ZP _
def t9{M:Model}{globals:Addr}{cl:List (Str×Addr)}{p:Str}{func:Option Addr}{code:Value}{builtins:Addr}{Q:Env->Shared->Prop}(y:scope.kind=.function)(w:scope.names.lookup p=!.cell)(B:∀n cl,cellsFrom n scope.names cl=(p,n)::cl)(hs:∀h:Heap,pushCells h scope.names=h.push {cls:=.type "cell",data:=.cell ()})(C:∀h' tk,h'.Ns s.heap.objs.size (λv=>())->h'.IsCell (s.heap.objs.size+1) (!u)->(∀(b:Addr) (o:Obj),s.heap.get? b=!o->h'.get? b=!o)->
   Q (newEnv scope s.heap.objs.size globals ((p,s.heap.objs.size+1)::cl) qual func code () builtins) {s with heap:=h',toks:=tk}):wpAny M A (newFunctionEnv scope globals cl [(p,u)] qual func code () builtins) Q E s:=by
 simp only[newFunctionEnv,Option.isSome_none,ZQ,XV];exact Yc (wpAny_alloc ?_);exact Yc (wpAny_layCells _ (λm a l=>by cases i:a == NameKind.cell<;>simp[i]) _ _ _ _ ?_);have z:(s.heap.push {cls:=.type "frame",data:=.dict #[[]]}).objs.size=s.heap.objs.size+1:=Xm ..;show wpAny M A _ Q E {s with heap:=pushCells (s.heap.push {cls:=.type "frame",data:=.dict #[[]]}) scope.names};rw[hs];show wpAny M A ((forIn [(p,u)] PUnit.unit λx r=>(storeName (newEnv scope s.heap.objs.size globals (cellsFrom (s.heap.push {cls:=.type "frame",data:=.dict #[[]]}).objs.size scope.names cl) qual func code () builtins) x.1 x.2)>>=λv=>pure (ForInStep.yield PUnit.unit))>>=λv=>pure (newEnv scope s.heap.objs.size globals (cellsFrom (s.heap.push {cls:=.type "frame",data:=.dict #[[]]}).objs.size scope.names cl) qual func code () builtins)) Q E _;rw[z,B];have q:((s.heap.push {cls:=.type "frame",data:=.dict #[[]]}).push {cls:=.type "cell",data:=.cell ()}).IsCell (s.heap.objs.size+1) ():=#[_,z ▸ Yq _ qx,qx]
 have g:((s.heap.push {cls:=.type "frame",data:=.dict #[[]]}).push {cls:=.type "cell",data:=.cell ()}).Ns s.heap.objs.size (λv=>()):=(Heap.Ns.new s.heap (.type "frame")).keeps λb o e=>Yf _ e
 exact Yc ?_;rw[List.forIn_cons];exact Yc (Yc (wpAny_storeName_cell (c:=s.heap.objs.size+1) y w (by show List.lookup p ((p,s.heap.objs.size+1)::cl)=_;rw[Zx,XL]) q λh' j f=>Yj ?_));show wpAny M A (forIn [] PUnit.unit _) _ _ _;rw[List.forIn_nil];exact Yj (Yj ?_);exact C h' _ (g.sameBut f (Yz (ZS _))) j λb o e=>?_;exact f.extBut b o (Yz (ZO (Yw e))) (Yf _ (Yf _ e))
def ET{P}{c}{E}{m}{Q}(S:L.Ok)(N:Room (k+1) A)(e0:Env0 P w K mg base A outer s H)(hl:wO L f c' c s.heap)(O:s.heap.CodeRec (.ref c') L.qual)(Y:s.heap.IsCell c<|!uc)(j:H c=())(X:RelV m B)(U:RelV vc uc)(hb:PE (rR CX P w K mg base L f c' c A outer s H E) L.body t)(ht:t [!m,!vc] H Q):codeAny (model P w) A (.call (.ref f) #[[B],[]]) (CR CX outer P w H s Q E) s:=by
 let#[pm,ctv,hf]:=hl;have l:=e0.mod.nolimit.keeps λb o e=>(e0.bs b o e).1
 exact kla_callFunE N.depth hf qx S.co S.gen qx O ?_;rw[S.bind];exact Yj ?_;have a:∀h tk,Inv _ [] [!m,!vc] H {heap:=h,gens:=s.gens,drawn:=s.drawn,toks:=tk,os:=s.os}->
   codeAny (model P w) A (.expr L.body _) (CR CX outer P w H s Q E) {heap:=h,gens:=s.gens,drawn:=s.drawn,toks:=tk,os:=s.os}:=λh tk I=>by
  exact kla_codeExpr ?_;exact ZR (hb [] _ [!m,!vc] H Q I ht) (λu s' M=>?_) λe s' M=>M;let#[v,H',J,rv,q]:=M;exact#[v,H',J.os,J.bare,J.base,J.hok,rv,q]
 cases q:L.cell with
 |false=>
  have T:dh L s.heap.objs.size c=[(L.x,c)]:=by delta dh;rw[q];rfl
  exact wpAny_newFunctionEnv (S.noc q) (λy hy=>?_) (λh C Z=>?_) S.kind
  .rw[Yu.mp hy];have:=S.par;rwa[q]at this
  .have i:∀b o,s.heap.get? b=!o->h.get? b=!o:=λb o e=>by
    rw[Z.2 b<|Yz<|Yw e];exact Yf _ e
   let I:=sE (CX:=CX) (E:=E) (f:=f) (c':=c') (tk:=s.toks + [(L.p,B)].length) S N.hd e0 Y j X U C (λ_=>by show List.lookup L.p [(L.p,B)]=_;rw[Zx,XL]) (λz=>by rw[q]at z;cases z) i;exact#[l.keeps i,?_];let g:=a _ _ I;delta gf at g;rwa[T]at g
 |true=>
  have T:dh L s.heap.objs.size c=(L.p,s.heap.objs.size+1)::[(L.x,c)]:=by delta dh;rw[q];rfl
  exact t9 S.kind (by have:=S.par;rwa[q]at this) (S.cels q) (S.psh q) λh tk C R i=>?_;let I:=sE (CX:=CX) (E:=E) (f:=f) (c':=c') (tk:=tk) S N.hd e0 Y j X U C (λz=>by rw[q]at z;cases z) (λ_=>R) i;exact#[l.keeps i,?_];let g:=a _ _ I;delta gf at g;rwa[T]at g
structure LamIn (X:Cx) (L:LamS) (f c' c:Addr) (uc:Value):Prop where
 lam:wO L f c' c X.s₀.heap
 fH:X.H₀ f=none
 ff:f∉X.fs
 fe:f∉X.ex
 cl:X.s₀.heap.IsCell c (!uc)
 cH:X.H₀ c=none
 cf:c∉X.fs
 ce:c∉X.ex
 cd:∃o u,X.H₀ c'=!.frz o u/\∃vs t,o.data=.fields vs/\vs[1]?=!.str L.qual t
section
variable{L:LamS}{c:Addr}
def LamIn.now(h:LamIn X L f c' c uc)(I:Inv X pz σ H s):wO L f c' c s.heap/\s.heap.CodeRec (.ref c') L.qual/\s.heap.IsCell c (!uc)/\H c=():=by let#[p,b,l]:=h.lam;let#[a,e,m]:=h.cl;let#[o,u,j,i,t,w,q]:=h.cd;let#[g,_]:=I.hok c' _<|I.base.stl c' _ qx j;exact#[#[p,b,I.base.keep f _ l h.fH h.ff h.fe],#[c',o,i,t,qx,g,w,q],#[a,I.base.keep c a e h.cH h.cf h.ce,m],I.base.free c a e h.cH h.ce]
def Ij(i:Nat)(f:Addr)(te:TE)(vc:V)(t:TE):TE:=λa H Q=>a[i]?=!!.ref f/\ph te wu a H λc e=>∃b,c=[b]/\t [!b,!vc] e Q
def B6(S:L.Ok)(a:LamIn X L f c' c uc)(U:RelV vc uc)(hr:Room (k+1) X.A)(hN:X.N[i]?=!x)(hv:Vis X.env.scope x)(ha:PE X e te)(hb:∀s H E,PE (rR CX0 X.prog X.w X.K X.mg X.base L f c' c X.A X.stack s H E) L.body t)(hd:nDb x:=by decide)(hcd:nDc x:=by decide)(he:starEach [e] X.env=(false,eval e X.env)::starEach [] X.env:=by rfl):PE X (.Call (.Name x p) [e] [] pos) (Ij i f te vc t):=by
 intro P s m H Q I h;let#[h1,h2]:=h;exact Xt<|bz (DC hN hv hd hcd P s m H (λv H'=>v=.ref f/\ph te wu m H' λJ C=>∃o,J=[o]/\t [!o,!vc] C Q) I #[_,h1,qx,h2]) λu O v C B r1 y=>?_;let#[rfl,y]:=y;cases r1;let#[#[pm,ctv,g],_]:=a.now B;exact callWith_def_at g qx (bz (aQ ha bw he pos P O m C _ B y) λus M J H2 l Z q=>?_) he
 .let#[o,rfl,q]:=q;let#[g1,g2,g3,g4]:=a.now l;let#[z,j,g']:=g1;let#[u1,rfl,Y]:=Z.one;have gg:M.heap.get? f=O.heap.get? f:=by let#[pm0,T,R]:=a.lam;rw[l.base.keep f _ R a.fH a.ff a.fe,B.base.keep f _ R a.fH a.ff a.fe]
  exact#[gg.trans g,?_];exact Uj<|XB (ET S hr l.env0 #[z,j,g'] g2 g3 g4 Y U (hb M H2 E0) q) λr s' b=>?_;cases r with
  |error e=>exact False.elim b
  |ok fl=>
   cases fl with
   |ret u=>exact l.after b
   |next=>exact False.elim b
   |brk=>exact False.elim b
   |cont=>exact False.elim b
end
def E3:HO:=.ext λ_=>True
structure LamW where
 L:LamS
 t:Addr
 pos:Pos
structure LamOk (X:Cx) (W:LamW) (c0 c:Addr) (j:Nat):Prop where
 tab:gt X.K W.t W.L.qual W.pos
 hcl:closureFor W.L.scope X.env=pure [(W.L.x,c)]
 hcc:X.env.cells.lookup W.L.x=!c
 hck:X.env.kindOf W.L.x=!.cell
 hfn:X.fn W.L.x=true
 hj:X.N[j]?=!W.L.x
 hco:X.env.code=.ref c0
 hch:codeHdIn X.K c0 W.t=true
 hq:X.env.qual++Str.ofString "<lambda>"=W.L.qual
 hdf:defaultsOf W.L.params X.env=([],[])
section
variable{W:LamW}{c:Addr}{Q:Kv}
def D9(O:LamOk X W c0 c j)(I:Inv X pz σ H s)(h:∀f c' o u H' s',Inv X pz σ H' s'->H' f=()->wO W.L f c' c s'.heap->H' c'=!.frz o u->By o W.L.qual->(H'=H\/(H c'=()/\H'=upd H c' (.frz o u)))->s.heap.objs.size<=f->Q (.ref f) s'):wpAny (model X.prog X.w) X.A (eval (.Lambda W.L.params W.L.body W.L.scope W.pos) X.env) Q X.xe s:=by
 let S:=I.mod.glob.keeps I.bk;let p:=codeHd_of_K I.kIn O.hch;let q:=(I.mod.bat _ _ _ O.tab).keeps I.bk;let C:=I.tab _ _ _ O.tab;exact kla_eval O.hdf ?_;rw[O.hq];obtain⟨ps,T,K,m|⟨c',o,u,g3,fz,ho⟩⟩:=I.hok _ _ C
 .have nt:mainGlobals≠W.t:=λz=>by
   let#[a,es,ep,P,N,_]:=S;rw[z,T]at P;cases P;cases N
  exact kla_makeFunction O.hcl I.ok.glob S O.hco p T K m nt q λc' l J R ext lo hi cr tab=>?_;let M:=I.hok.fresh lo;have ct:c'≠W.t:=λz=>by subst z;rw[C]at M;cases M
  let#[c1,E,U,Y,P,N,e3,e4]:=cr;cases P;have kept:∀b a,s.heap.get? b=!a->b≠W.t->(J.push<|kla_obj "<lambda>" W.L.qual W.L.params W.L.body W.L.scope [(W.L.x,c)] ((X.mg<|Str.ofString "__name__").getD Value.none) c' l).get? b=!a:=λb a e n=>Yf _<|ext b a n e
  have g:∀b u,H b=!u->upd H c' (.frz E E3) b=!u:=λb u e=>by rwa[az<|bc e M]
  have Z:∀b,H b=()->b≠W.t:=λb n z=>by subst z;rw[C]at n;cases n
  let i:=ZG<|ZI lo hi;exact h _ c' E E3 _ _ (I.un #[λb a e n k k=>kept b a e<|Z b n,λb a e n k k=>#[a.slots,kept b a e<|Z b n],λb a e n k=>?_,λb a e k=>?_,λb u k e=>g b u e] λb u e=>?_) ?_ #[_,l,Yq _ qx] aD #[U,Y,e3,e4] (.inr #[M,qx]) i
  .rwa[az λz=>by subst z;exact absurd (Yx (Yw e) lo)<|Ze _]
  .by_cases B:b=W.t
   .subst B;exact#[_,Yf _ tab]
   .exact#[a,kept b a e B]
  .by_cases y:b=c'
   .subst y;rw[aD]at e;cases e;exact#[Yf _ N,trivial,#[_,Yf _ N],λk k k k=>trivial]
   .rw[az y]at e;by_cases B:b=W.t
    .subst B;rw[C]at e;cases e;exact#[_,Yf _ tab,?_,.inr #[c',E,E3,?_,aD,U,Y,e3,e4]]
     .rw[Array.toList_append];exact TriplesOk_snoc _ _ _ _ K
     .rw[Array.toList_append];exact codeAmong_snoc _ K m
    .exact(I.hok b u e).stay (λd v hd r=>kept d v r ?_) (λd r=>g d _ r) λd v k r=>g d v r;rcases hd with rfl|hd
     .exact B
     .rintro rfl;rw[C]at hd;cases hd
  .let z:=I.hok.fresh i;rwa[az<|Xl hi]
 .exact kla_makeFunctionHit O.hcl I.ok.glob S O.hco p T K g3 q λl J R kp i=>?_;have kept:∀b a,s.heap.get? b=!a->(J.push<|kla_obj "<lambda>" W.L.qual W.L.params W.L.body W.L.scope [(W.L.x,c)] ((X.mg<|Str.ofString "__name__").getD Value.none) c' l).get? b=!a:=λb a e=>Yf _<|kp b a e
  exact h _ c' o u H _ (I.kept kept) (I.hok.fresh i) #[_,l,Yq _ qx] fz ho (.inl qx) i
end
structure FunD (K:PySem.W.Frag) (x qual:Str) (st:Stmt) (f:Addr) (fd:FuncData):Prop where
 ex:∃(oc:Value) (od:Option Addr) (T:Addr) (kV doc pm:Value) (an:Option Addr) (cdv ct:Value) (osl:Array (Option Value)) (ot:Obj) (nt:Nat),
  fd=fnOf x qual (defArgs st) (defBody st) (defScope st) (.ref T) kV doc pm an cdv ct/\K.lookup f=!#[oc,od,.func fd,osl]/\codeIn K cdv qual=true/\K.lookup T=!ot/\ot.data=.seq #[[Value.none]] nt
 kp:keepIn K (.ref f)=true
def FunD.binds{st}(F:FunD K x qual st f fd)(h:∀T kV doc pm an cdv ct us,us.length+1=ps.length->∃k:Option _->Sem _,bindArgs (fnOf x qual (defArgs st) (defBody st) (defScope st) (.ref T) kV doc pm an cdv ct) #[us,[]]=seqItems? (.ref T)>>=k/\k (!#[[Value.none]])=pure (ps.zip<|us++[Value.none])):Binds K fd ps [Value.none]:=by
 let#[m,l,T,kV,doc,pm,an,cdv,ct,o,j,p,rfl,q,b,lt,g]:=F.ex;intro s us i a;let#[k,e,c]:=h T kV doc pm an cdv ct us (by rwa[Yo,YM]at a);exact BindsTo.of_defaults qx (i _ _ lt) g e c
def GM(P:Program)(w:World)(K:Kq)(mg:Ks)(base:Heap)(k:Nat)(f:Addr)(fd:FuncData)(ps:List Str)(sp:List Env->Shared->Sp):Prop:=
 ∀A o s H a u b Q E,Room k A->Env0 P w K mg base A o s H->BindsTo s fd a (ps.zip u)->Vals b u->b.length=ps.length->sp o s b H Q E->
  codeAny (model P w) A (.call (.ref f) a) (CR CX0 o P w H s Q E) s
def HF{P}{p}{body}{L kV}{sp}(T:K.lookup f=!#[oc,od,.func<|fnOf name qual p body scope L kV doc pm an cdv ct,osl])(hcd:codeIn K cdv qual)(S:FnScope N ps scope)(c:∀A outer s H vs Q E,Room k (A.deeper<|envOfC qual scope s.heap.objs.size f cdv)->sp outer s vs H Q E->
   ∃t,PSs (gP CX0 P w K mg base N qual scope f cdv A outer s H E) body t/\t {nx:=λ_ H'=>Q .non H',rt:=Q} (start N vs) H):GM P w K mg base (k+1) f (fnOf name qual p body scope L kV doc pm an cdv ct) ps sp:=by
 intro A outer s H M R vs Q E B i hb r Z z;have O:=i.mod.kin.keeps λb o e=>(i.bs b o e).1
 have m:=i.mod.nolimit.keeps λb o e=>(i.bs b o e).1
 have h:∀y∈ps.zip R,scope.names.lookup y.1=!.local\/(scope.names.lookup y.1=!.cell/\((cellsFrom (s.heap.objs.size+1) scope.names []).lookup y.1).isSome):=λ#[n,v] U=>by
  rcases S.par n (VS U).1 with q|q
  .exact .inl q
  .exact .inr #[q,cellsFrom_some _ _ _<|.inl q]
 exact codeAny_call_function B.depth (O _ _ T) qx S.co S.gen qx (codeRec_of O hcd)<|hb _ _ _ _ ?_;exact wpAny_newFunctionEnv_cells S.kind h λenv he C x=>?_;subst he;exact#[m.keeps x.toInCall.keep,codeAny_func ?_];let#[t,X,Y]:=c A outer s H vs Q E (B.deeper _) z;have I:Inv (gP CX0 P w K mg base N qual scope f cdv A outer s H E) [] _ H C:=rZ S B.hd i Z r x;exact ZR (X [] C _ H _ I Y) (λfl j g=>?_) λe j g=>g;have fin:∀{a}{H'}{v}{u},Inv (gP CX0 P w K mg base N qual scope f cdv A outer s H E) [] a H' j->RelV v u->Q v H'->CE outer P w H s Q u j:=
  λ{a H' v u} J l q=>#[v,H',J.os,J.bare,J.base,J.hok,l,q]
 cases fl with
 |ret u=>
  let#[v,a,H',J,l,q]:=g;exact fin J l q
 |next=>
  let#[a,H',J,q]:=g;exact fin (v:=V.non) J qx q
 |brk=>
  let#[_,_,_,q]:=g;exact False.elim q
 |cont=>
  let#[_,_,_,q]:=g;exact False.elim q
structure LamNow (W:LamW) (f c' c:Addr) (uc:Value) (outer:List Env) (s:Shared) (H:Hp):Prop where
 lam:wO W.L f c' c s.heap
 fH:H f=none
 ff:f∉frs outer
 cl:s.heap.IsCell c (!uc)
 cH:H c=none
 cf:c∉frs outer
 cd:∃o u,H c'=!.frz o u/\∃vs t,o.data=.fields vs/\vs[1]?=!.str W.L.qual t
def spR(W:LamW)(K:Kq)(n:Nat)(gR:Addr->V->D->DF->Option RES):List Env->Shared->Sp:=λo s j H Q _=>∃f p c u a b m l i h x P F,j=[m,.ref f,l]/\LamNow W f p c u o s H/\RelV a u /\
 bY (gR f a b<|aK n 3 [i,.v<|.fn f a b,h])=!x/\DHp P F H/\DVs K P F H [i,.v<|.fn f a b,h] j/\∀v g e,Same F g->DHp P g e->DVRep K P g e nL x v->Q v e
def FunD.okR{W}{P}{st}{f0}(F:FunD K x qual st f0 fd)(S:FnScope N ps (defScope st))(h3:ps.length=3)(b:∀cdv A outer s H E f c' c uc vc dc,Room k (A.deeper<|envOfC qual (defScope st) s.heap.objs.size f0 cdv)->
   LamIn (gP CX0 P w K mg base N qual (defScope st) f0 cdv A outer s H E).nox W.L f c' c uc->RelV vc uc->PDS (gP CX0 P w K mg base N qual (defScope st) f0 cdv A outer s H E).nox (defBody st) (gR f vc dc)):GM P w K mg base (k+1) f0 fd ps (spR W K N.length gR):=by
 let#[oc,od,T,kV,doc,pm,an,cdv,ct,R,ot,nt,rfl,U,g,lt,dt]:=F.ex;exact HF U g S λA outer s H vs Q E Z h=>?_;let#[f,c',c,uc,vc,dc,M,J,o,m,x,u,B,rfl,l,O,a,hp,Y,p]:=h;have X:LamIn (gP CX0 P w K mg base N qual (defScope st) f0 cdv A outer s H E).nox W.L f c' c uc:=#[l.lam,l.fH,l.ff,(λz=>absurd (show f∈([])from z)<|by simp),l.cl,l.cH,l.cf,(λz=>absurd (show c∈([])from z)<|by simp),l.cd]
 exact#[_,PSs.nox<|b cdv A outer s H E f c' c uc vc dc Z X O,?_];have I:=DInv.start N 3 hp Y qx;cases q:gR f vc dc (aK N.length 3 [o,.v _,m])with
 |none=>rw[q]at a;cases a
 |some r=>
  rw[q]at a;exact#[u,B,_,r,q,I,?_];cases r with
  |rt y ρ=>cases a;exact λv C j i e h r=>p v j i e h.toDHp r
  |nx ρ=>cases a;exact λC j i e h=>p .non j i e h.toDHp .non
  |bk ρ=>cases a
  |ct ρ=>cases a
def tX0(K:Kq)(g:DF->Option DV):TE:=λb H Q=>∃P F a x,g a=!x/\DInv K P F H a b/\∀v e c,Evo P F H e c->ArgsS K a b e [x] [v]->Q v c
def PX0(X:Cx)(e:Expr)(g:DF->Option DV):Prop:=PE X e<|tX0 X.K g
def lend(i:Nat)(ρ:DF):Option DV:=match ρ[i]? with
 |some (!.own o _)=>!.bor o
 |some (!x)=>!x
 |_=>()
open A in
def LS i(h:PE X e (c7 i)):PX0 X e (lend i):=PE.imp h λj H Q=>un7 λP F l x c I k=>by
 delta lend at c;split at c
 .rename_i o t q;cases c;let#[v,a,f]:=I.at q;exact#[v,a,k v F H (Evo.refl I.toDHp)<|.b i a (.inl #[t,q]) .nil]
 .rename_i y g q;cases c;let#[v,a,f]:=I.at q;cases x with
  |v d=>exact#[v,a,k v F H (Evo.refl I.toDHp)<|.v f .nil]
  |bor o=>exact#[v,a,k v F H (Evo.refl I.toDHp)<|.b i a (.inr q) .nil]
  |own o t=>exact(g o t qx).elim
 .cases c
def nU(n:Nat)(gR:Addr->V->D->DF->Option RES)(dc:D)(x:DV)(ds:List D):Prop:=∀f a,bY (gR f a dc<|aK n 3 [x,.v<|.fn f a dc,.v .non])=!.own (.lst ds) ()
def jZ(n:Nat)(gR:Addr->V->D->DF->Option RES)(dc:D)(x:DV):Option (List D):=
 open Classical in if h:∃a:List D,nU n gR dc x a then !h.choose else ()
def Ak{x}(h:jZ n gR dc x=!ds):nU n gR dc x ds:=by
 delta jZ at h;split at h
 .rename_i q;rw[<-YG h];exact q.choose_spec
 .cases h
def Bm{x}(h:nU n gR dc x ds):jZ n gR dc x=!ds:=by
 have q:∃ds:List D,nU n gR dc x ds:=#[ds,h]
 delta jZ;rw[dif_pos q];let z:=q.choose_spec 0 .non;rw[h]at z;exact YU some (OD.lst.inj (DV.own.inj<|YG z).1).symm
def yy(n j:Nat)(gR:Addr->V->D->DF->Option RES)(g:DF->Option DV):DF->Option OD:=asL λa=>(g a).bind λx=>(getV j a).bind λb=>jZ n gR b x
section
variable{W:LamW}{k n:Nat}{f0 c:Addr}{g:DF->Option DV}
def Ai(O:LamOk X W c0 c j)(R:GM X.prog X.w X.K X.mg X.base k f0 fd ps (spR W X.K n gR))(h3:ps.length=3)(hr:Room k X.A)(hg:Gl X x)(hm:X.mg x=!.ref f0)(hk:keepIn X.K (.ref f0))(U:Binds X.K fd ps [Value.none])(ha:PX0 X e g)(hd:nDb x:=by decide)(he:starEach [e,.Lambda W.L.params W.L.body W.L.scope W.pos] X.env=(false,eval e X.env)::starEach [.Lambda W.L.params W.L.body W.L.scope W.pos] X.env:=by rfl)(he1:starEach [.Lambda W.L.params W.L.body W.L.scope W.pos] X.env=(false,eval (.Lambda W.L.params W.L.body W.L.scope W.pos) X.env)::starEach [] X.env:=by rfl)(hpl:(backTo pos<|starEach [.Lambda W.L.params W.L.body W.L.scope W.pos] X.env).any (·.1)=false:=by rfl):PDO X (.Call (.Name x p) [e,.Lambda W.L.params W.L.body W.L.scope W.pos] [] pos) (yy n j gR g):=by
 intro pz s σ H Q I h;let#[P,F,ρ,o,hf,D0,kk]:=h;let#[ds,hf',rfl]:=Zd.mp hf;let#[x0,q0,hf]:=YK.mp hf';let#[dc,q1,q2]:=YK.mp hf;let#[vc,hσ,rep]:=D0.at<|zC q1
 exact Xt<|nW I hg hm ?_ hd;exact callWith_K I.ok.mod.kin hk ?_ he hpl;rw[he];exact XQ<|bz (ha pz s σ H (λv H'=>∃N,Evo P F H N H'/\ArgsS X.K ρ σ N [x0] [v]) I #[P,F,ρ,x0,q0,D0,λv N H' l r=>#[N,l,r]]) λu0 s1 v0 H1 Z r1 q=>?_;let#[F1,E,ra]:=q;rw[he1];exact XQ<|D9 O Z λf c' ob u J s2 B hf2 la fz ho hH hfs=>?_;exact Calls.spliced_nil #[B.kIn,?_];obtain⟨M,Y⟩:∃M,Evo P F1 H1 M J:=by
  rcases hH with rfl|⟨z,rfl⟩
  .exact#[F1,Evo.refl E.hp]
  .exact#[_,Evo.laid E.hp z]
 let l:=E.trans Y;let#[m,hn,hl]:=B.loc;let#[uc,rc,look]:=hl j W.L.x vc O.hj hσ<|.inr<|.inl O.hck;have C:s2.heap.IsCell c (!uc):=by
  rcases look with⟨z,_⟩|⟨_,c1,e1,e2⟩
  .rw[O.hck]at z;cases z
  .rw[O.hcc]at e1;cases e1;exact e2
 have S:∀b∈frs X.stack,b<s1.heap.objs.size/\(b=X.env.locals\/b<X.s₀.heap.objs.size):=λb U=>by
  rcases Ys.mp (Z.stkSub b U)with z|z
  .subst z;exact#[Z.lt,.inl qx]
  .let#[_,o,ho,_]:=Z.ok.funs.mem z;exact#[Yx (Yw ho) Z.sz,.inr<|Yw ho]
 have ln:LamNow W f c' c uc X.stack s2 J:=by
  exact#[la,hf2,λz=>absurd (Yx (S f z).1 hfs)<|Ze _,C,B.freeC _ _ O.hcc,λz=>?_,ob,u,fz,ho];rcases(S c z).2 with y|y
  .exact B.cne _ _ O.hcc y
  .exact absurd (Yx y<|B.ok.cab _ _ O.hfn O.hcc)<|Ze _
 have rv:Vals [v0,.ref f,.non] _:=.cons r1<|.cons rfl<|.cons qx .nil;have T:=h3.symm;have dv:DVs X.K (gd M J) M J [x0,.v<|.fn f vc dc,.v .non] [v0,.ref f,.non]:=by
  let z:=(ra.same Y.ext).dvs<|D0.evo l;cases z with
  |cons z1 z2 _=>exact .cons z1 z2<|.cons qx (.fn<|Rep.same l.ext rep)<|.cons qx .non .nil
 exact Uj<|XB (R X.A X.stack s2 J #[[u0,.ref f],[]] _ [v0,.ref f,.non] Q E0 hr B.env0 (U s2 [u0,.ref f] B.kIn T) rv h3.symm #[f,c',c,uc,vc,dc,v0,.non,x0,.v .non,_,gd M J,M,qx,ln,rc,Ak q2 f vc,ge l.hp.sub,dv,λv N H' e3 h3 r3=>?_]) λr s' i=>?_
 .let#[a,rfl,h5,_]:=r3;let ev3:=l.trans<|l.hp.gd e3 h3;exact kk a N H' ev3<|(n_ e3 h5).mono (Same.refl _) λb u q U=>#[U,l.back D0.toDHp q.1,q.2]
 .cases r with
  |error e=>exact False.elim i
  |ok fl=>
   cases fl with
   |ret u=>exact B.after i
   |next=>exact False.elim i
   |brk=>exact False.elim i
   |cont=>exact False.elim i
end
end L2
namespace L2
open PySem PySem.Spec PyProof.Rows
theorem t7:plainId "dict.update.loop":=by decide+kernel
def Bz:entryFor table "dict.update.loop"=some Builtin.«dict.update.loop»:=entryFor_of_tree (by kernel_rfl)
section
def Ff{l:Addr}{its:Array Value}{n:Nat}{Q:Ko}(h:s.heap.get? l=some {cls:=.type "list",data:=.seq its n})(f:A.handled=())(q:∀h' tk,(∀b o,s.heap.get? b=!o->h'.get? b=!o)->Q () {s with heap:=h',toks:=tk}):wpAny (model prog w) A (getAttr? (.ref l) "keys") Q E s:=by
 have x:Shared.TypeIs s (.ref l) "list":=#[_,h,qx]
 have z:typeLookup (Value.type "list") "__getattribute__"=pure (!(.builtin "list.__getattribute__")):=PySem.F.slot_list_getattribute.lookup;have j:typeLookup (Value.type "list") "keys"=pure ():=by rfl
 have y:typeLookup (Value.type "list") "__getattr__"=pure ():=by rfl
 delta getAttr? getAttrBy? getAttrBy getAttrByItsOwn hookBefore callGetattribute
 wp_walk
 let i:=PySem.F.slot_list_getattribute.bind (.ref l);rw[i];exact Yj ?_;show wpAny _ _ (call (.builtin "list.__getattribute__") [.ref l,Value.str (Str.ofString "keys") s.toks]) _ _ _;exact Vy PySem.F.slot_list_getattribute (s:={s with toks:=s.toks+1}) #[_,h,qx] am_entry_list_getattribute (PySem.F.args_list_getattribute_2 _ _) (meets_getattribute_miss_list l its n #[[]] "keys" s.toks j (by decide)) #[h,f,λh' tk e a=>?_];let#[t,u,g]:=a.there;let c:=a.keeps;delta getattributeRaised hookBehind hookOrError attributeErrorLeaves;have p:Shared.TypeIs {s with heap:=h',toks:=tk} (.ref e) "AttributeError":=#[_,g,qx]
 have m:isSubtype (.type "AttributeError") (.type "AttributeError")=pure true:=sub_AttributeError
 wp_walk
 exact q h' tk c
def iH(prs:List (Key×Value)):List (Key×Value):=prs.foldl (λa p=>stored a p.1 p.2) []
theorem wD l p:iH (l++[p])=stored (iH l) p.1 p.2:=by delta iH;grind
def xV l(k:Key)v:(stored l k v).length<=l.length+1:=by delta stored;split<;>simp<;>lia
theorem xq l:(iH l).length<=l.length:=by
 have:∀(l a:List<|Key×Value),(l.foldl (λa p=>stored a p.1 p.2) a).length<=a.length+l.length:=by
  intro l;induction l with
  |nil=>intro a;simp
  |cons p r ih=>intro a;let c:=ih<|stored a p.1 p.2;let b:=xV a p.1 p.2;rw[XA,Yv];lia
 let h:=this l [];rwa[YV,Zk]at h
def yf{p}{a}{Q:Kl}(h:IsTup s.heap p #[[a,u]])(q:Q [a,u] s):wpAny (model prog w) A (Builtin.Dict.pairItems (.ref p)) Q E s:=by
 let#[o,c,b,n,e]:=h
 wp_walk
 rw[e];exact Yj<|Yj q
variable{G:Array GenState->Array GenState->Prop}{n:Nat}{P:Nat->Value->Prop}{St:Nat->Shared->Prop}{R:Kr}
theorem Aw(W:WalksS prog w A.in1 I fp wr G n P St)d(J:d∉fp)O(c:∀b o,O.get? b=!o->b∉d::wr)prs(hn:prs.length=n)(hn2:n<=1000)
  (B:∀i v,P i v->∃k u p x,prs[i]?=!(k,u)/\v=.ref p/\IsTup O p #[[x,u]]/\(a8 prog w).is k x) :
  ∀k i s j S,n-i=k->i<=n->St i s->(∀b o,O.get? b=!o->s.heap.get? b=!o)->Heap.DictOf (a8 prog w) s.heap d (iH<|prs.take i)->
   (∀s',Moved (d::wr) G s s'->Heap.DictOf (a8 prog w) s'.heap d (iH prs)->R (.ok<|.ret .none) s')->
   codeAny (model prog w) A (.builtin "dict.update.loop" #[[.ref d,.ref I,.int j S,.none],[]]) R s:=by
 let Y:=λh=>J<|W.sub _ h
 have a:∀b∈wr,b∈d::wr:=λb q=>Yd _ q
 have mv:∀{s s'}{l},Moved wr G s s'->Heap.DictOf _ s.heap d l->Heap.DictOf (a8 prog w) s'.heap d l:=λm #[o,es,ep,e,r]=>#[o,es,ep,m.heap d o Y e,r]
 intro k;induction k with
 |zero=>
  intro i s j S hk hi g M N Z;have X:i=n:=by lia
  subst X;exact ZM Bz ?_;exact Yc<|W.done s _ _ g λs' y=>?_;exact Yj<|Z s' (y.mono a)<|mv y ?_;rwa[<-hn,ZW]at N
 |succ k ih=>
  intro i s j S hk hi g M N Z;have H:i<n:=by lia
  exact ZM Bz ?_;exact Yc<|W.item i s _ _ H g λv s' hP C y=>?_;let#[ky,u,p,x,hd,rfl,Q,U]:=B i v hP;let f:=λb o e=>y.heap b o (λq=>c b o e<|a b q)<|M b o e
  have z:IsTup s'.heap p #[[x,u]]:=by let#[o,e1,e2]:=Q;exact#[o,f p o e1,e2]
  exact Yc<|Xa<|Yc<|wpAny_tryCatch<|yf z ?_;exact Xa<|wpAny_dictSet_pairs U (mv y N) (λh' K off=>?_) (by have:=xq<|prs.take i;rw[ZT]at this;exact YA this<|YA (XT _ _)<|YA (by lia)<|show 1000<=sizeLine by decide);have et:prs.take i++[(ky,u)]=prs.take (i+1):=by rw[Up,hd];rfl
  rw[<-wD _ (ky,u),et]at K;exact Yj #[VP t7 _,ih (i+1) _ _ _ (by lia) H (W.frame _ s' _ _ C (ZP _) λb q o e=>?_) (λb o e=>?_) K λT E L=>?_]
  .rwa[off.2 b (λh:b=d=>J<|by rw[<-h];exact q)]
  .show h'.get? b=!o;rw[off.2 b (λh:b=d=>c b o e<|by rw[h];exact Ye)];exact f b o e
  .exact Z T (Moved.trans W.gtrans ((y.mono a).then_heap (ZP _) λb o q e=>?_) E) L;rw[off.2 b (λh:b=d=>q<|by rw[h];exact Ye)];exact e
end
abbrev qh(w:World):Obj:={cls:=.type "set",dict:=(),data:=.set #[[]] 0<|.fresh 0 0<|(not<|w.params.followText "set-order")}
abbrev GL(l:Addr):Obj:={cls:=.type "list_iterator",data:=.fields #[[.ref l,.int 0 0]]}
def wR(x:Value){Q₁:Kv}(q:Q₁ (.ref s.heap.objs.size) {s with heap:=s.heap.push (qh w)}):codeAny (model prog w) A (.call (.builtin "set.__new__") #[[.type "set",x],[]]) (wants Q₁ E) s:=by
 exact codeAny_of_tree (Yc (m:=checkBuiltinCall "set.__new__" #[[.type "set",x],[]]) (wpAny_of_eq (F.newCall_set_1 x) (Yj #[VP F.plain_set_new _,ZM F.entry_set_new ?_])));rw[Xh F.plain_set_new #[[.type "set",x],[]]];delta Builtin.«set.__new__» Builtin.Frozenset.newClass;let h:=sub_set_self;let#[b,g,c,a,o]:=s;dsimp only;wp_walk;exact wpAny_askSetting (Yj ?_);dsimp only;simp only[newObj];exact Yc (wpAny_alloc (Yj (Yj q)))
def uj{l:Addr}{items:Array Value}{Z:Heap->Prop}{Q:Kv}(J:s.heap.IsList l items)(j:∀R:Result->Shared->Prop,(∀h' tk,Z h'->(∀b o,s.heap.get? b=!o->h'.get? b=!o)->R (.ok (.ret .none)) {s with heap:=h',toks:=tk})->
   codeAny (model prog w) A.in1.in1 (.builtin "set.update.loop" #[[.ref s.heap.objs.size,.ref (s.heap.push (qh w)).objs.size],[]]) R {s with heap:=(s.heap.push (qh w)).push (GL l)})(q:∀h' tk,Z h'->(∀b o,s.heap.get? b=!o->h'.get? b=!o)->Q (.ref s.heap.objs.size) {s with heap:=h',toks:=tk}):wpAny (model prog w) A (call (.type "set") [.ref l]) Q E s:=by
 let f:=PySem.F.called_set;let#[m0,mr,hm]:=f.mro;let y1:=f.made;let y2:=f.sub;let y3:=f.notType;let y4:=f.canCreate;let Y:=PySem.F.typeCall_set_1 (.ref l);exact Uj (codeAny_of_tree ?_);show wpAny _ _ (callAny (.type "set") #[[.ref l],[]]) _ _ _;exact Yj #[Vq _ (by decide+kernel),ZM PySem.F.entry_type_call ?_];rw[Around.under_plain (weight_type_call_type "set" [.ref l] []) qx]
 repeat any_goals first|assumption|wp_step
 exact XB (wR (.ref l) (E:=E) (Q₁:=λobj c=>obj=.ref s.heap.objs.size/\c={s with heap:=s.heap.push (qh w)}) #[qx,qx]) λr c m=>?_;cases r with
 |error e=>exact m
 |ok M=>
  cases M with
  |ret obj=>
   let#[rfl,rfl]:=m;have L:(s.heap.push (qh w)).get? s.heap.objs.size=!qh w:=Yq _ qx;have K:Shared.TypeIs {s with heap:=s.heap.push (qh w)} (.ref s.heap.objs.size) "set":=#[_,L,qx]
   let X:=f.init.lookup;let U:=f.init.bind (.ref s.heap.objs.size)
   repeat any_goals first|assumption|wp_step
   exact XB (codeAny_call_builtin (R:=wants (λr a=>r=.none/\∃h' tk,a={s with heap:=h',toks:=tk}/\Z h'/\∀b o,s.heap.get? b=!o->h'.get? b=!o) E) f.init.plain PySem.F.entry_set_init (check_set_init_1 K ?_)) λi a h=>?_
   .let#[#[cl,O,dt,I],N,H,B,C]:=J;simp only at H C;subst H C;have z:(s.heap.push (qh w)).get? l=some {cls:=.type "list",dict:=O,data:=.seq items B,slots:=I}:=Yf _ N;let T:=PySem.F.sub_list_set;let S:=PySem.F.sub_list_frozenset;have P:(Value.type "list" == Value.type "dict")=false:=by decide
    have p:(s.heap.push (qh w)).IsList l items:=#[_,z,qx,B,qx]
    delta Builtin.«set.__init__» noKeywords Builtin.Frozenset.updateFrom;generalize y:pyIter=PI
    wp_walk
    subst y;exact Vx p (Yc (wpAny_runValue (j _ λh' tk x u=>?_)));show wpAny _ _ _ _ _ _;exact Yj (show wpAny _ _ (ret Value.none) _ _ _ from Yj #[qx,h',tk,qx,x,u])
   .cases i with
    |error e=>exact h
    |ok g=>
     cases g with
     |ret v=>
      let#[rfl,h',tk,rfl,x,u]:=h
      repeat any_goals first|assumption|wp_step
      exact q _ _ x u
     |_=>exact h.elim
  |_=>exact m.elim
abbrev mS:Obj:={cls:=.type "dict",data:=.dict #[[]]}
def qQ{l:Addr}{items:Array Value}{x:Nat}{Z:Heap->Prop}{Q:Kv}(K:A.handled=())(J:s.heap.get? l=some {cls:=.type "list",data:=.seq items x})(p:∀(R:Kr) (h1:Heap) (g:Nat),(∀b o,(s.heap.push mS).get? b=!o->h1.get? b=!o)->(∀h' tk,Z h'->(∀b o,s.heap.get? b=!o->h'.get? b=!o)->R (.ok (.ret .none)) {s with heap:=h',toks:=tk})->
   codeAny (model prog w) A.in1 (.builtin "dict.update.loop" #[[.ref s.heap.objs.size,.ref h1.objs.size,.int 0 0,.none],[]]) R {s with heap:=h1.push (GL l),toks:=g})(q:∀h' tk,Z h'->(∀b o,s.heap.get? b=!o->h'.get? b=!o)->Q (.ref s.heap.objs.size) {s with heap:=h',toks:=tk}):wpAny (model prog w) A (call (.type "dict") [.ref l]) Q E s:=by
 let f:=PySem.F.kt_called_dict;let#[m0,mr,hm]:=f.mro;let y1:=f.made;let Y:=f.sub;let X:=f.notType;let U:=f.canCreate;let T:=PySem.F.kt_typeCall_dict_1 (.ref l);exact Uj (codeAny_of_tree ?_);show wpAny _ _ (callAny (.type "dict") #[[.ref l],[]]) _ _ _;exact Yj #[Vq _ (by decide+kernel),ZM PySem.F.entry_type_call ?_];rw[Around.under_plain (weight_type_call_type "dict" [.ref l] []) qx]
 repeat any_goals first|assumption|wp_step
 exact XB (kt_code_dict_new (.ref l) (E:=E) (Q₁:=λobj c=>obj=.ref s.heap.objs.size/\c={s with heap:=s.heap.push mS}) #[qx,qx]) λr c y=>?_;cases r with
 |error e=>exact y
 |ok N=>
  cases N with
  |ret obj=>
   let#[rfl,rfl]:=y;have M:(s.heap.push mS).get? s.heap.objs.size=!mS:=Yq _ qx;have L:Shared.TypeIs {s with heap:=s.heap.push mS} (.ref s.heap.objs.size) "dict":=#[_,M,qx]
   let S:=f.init.lookup;let P:=f.init.bind (.ref s.heap.objs.size)
   repeat any_goals first|assumption|wp_step
   exact XB (codeAny_call_builtin (R:=wants (λr a=>r=.none/\∃h' tk,a={s with heap:=h',toks:=tk}/\Z h'/\∀b o,s.heap.get? b=!o->h'.get? b=!o) E) f.init.plain PySem.F.entry_dict_init (f.init.check _ _ _ _ _ _ _ _ L (PySem.F.args_dict_init_2 _ _) ?_)) λm a h=>?_
   .have u:(s.heap.push mS).get? l=some {cls:=.type "list",data:=.seq items x}:=Yf _ J;delta Builtin.«dict.__init__» Builtin.Dict.selfAndRest Builtin.Dict.notOrdered;generalize i:Builtin.Dict.updateCommon=PI
    wp_walk
    subst i;show wpAny _ _ (Builtin.Dict.updateFrom "dict.__init__" s.heap.objs.size (.ref l) [] .none) _ _ _;delta Builtin.Dict.updateFrom;generalize H:getAttr?=GA,i:pyIter=PI;have O:(Value.type "list" != Value.type "dict")=true:=by decide
    wp_walk
    subst H;exact Ff u (by simpa using K) λh1 g I=>?_
    wp_walk
    subst i;have z:h1.IsList l items:=#[_,I _ _ u,qx,x,qx]
    exact Vx z (Yj ?_);exact#[VP t7 _,p _ h1 g I λh' tk C B=>#[qx,h',tk,qx,C,B]]
   .cases m with
    |error e=>exact h
    |ok j=>
     cases j with
     |ret v=>
      let#[rfl,h',tk,rfl,C,B]:=h
      repeat any_goals first|assumption|wp_step
      exact q _ _ C B
     |_=>exact h.elim
  |_=>exact y.elim
def xJ:bootBuiltins "dict"=!(.type "dict"):=by rfl
inductive PairsV (H:Hp):List V->List (Key×V)->Prop
 |nil:PairsV H [] []
 |cons {p:Addr}{k:Key}{x:V}{vs:List V}{kvs:List (Key×V)}:H p=!.tup [kV k,x]->PairsV H vs kvs->PairsV H (.ref p::vs) ((k,x)::kvs)
def PairsV.length{kvs}(h:PairsV H vs kvs):vs.length=kvs.length:=by
 induction h with
 |nil=>rfl
 |cons _ _ ih=>exact YU Nat.succ ih
def Bv{P}(ok:HOk P w H h){kvs}(m:PairsV H vs kvs):∀{its},Vals vs its->∃prs:List (Key×Value),KV kvs prs/\∀(i:Nat) v,its[i]?=!v->∃k u p a,prs[i]?=!(k,u)/\v=.ref p/\IsTup h p #[[a,u]]/\(a8 P w).is k a:=by
 induction m with
 |nil=>intro its r;cases r;exact#[[],.nil,λi v e=>nomatch e]
 |cons o _ ih=>
  intro its r;cases r with
  |cons j g=>
   let#[prs,s,q]:=ih g;cases j;let#[_,x,c,l,_]:=ok _ _ o;let#[a,u,rfl,f,b]:=c.two;exact#[(_,u)::prs,.cons #[rfl,b] s,λi v e=>?_];cases i with
   |zero=>cases e;exact#[_,u,_,a,qx,qx,l,sf f]
   |succ i=>exact q i v e
def Ja{kvs}(h:KV kvs prs):KV (iN [] kvs) (iH prs):=by
 have:∀{kvs}{prs},KV kvs prs->∀{a}{b},KV a b->KV (iN a kvs) (prs.foldl (λa p=>stored a p.1 p.2) b):=λh=>by
  induction h with
  |nil=>exact λh=>h
  |cons r _ ih=>
   intro a b c;exact ih (b:=stored b _ _) ?_;let#[f,e]:=r;rw[<-f];exact KV.put c _ e
 exact this h .nil
theorem xR a kvs:(iN a kvs).length<=a.length+kvs.length:=by
 delta iN;induction kvs generalizing a with
 |nil=>simp
 |cons p r ih=>let b:=ih<|iB a p.1 p.2;let h:=jp a p.1 p.2;rw[XA,Yv];lia
def xv(hcalm:X.calm):CallR X (.type "dict") (λxs H Q=>∃a vs kvs,xs=[.ref a]/\H a=!.lst vs/\PairsV H vs kvs/\vs.length<=1000/\∀d,H d=()->Q (.ref d) (upd H d (.dK (iN [] kvs)))):=by
 intro pz s σ H xs us Q I r h;let#[a,vs,kvs,rfl,ha,L,hl,q]:=h;let#[u,rfl,ru]:=fB r;cases ru;let#[_,f,n,B,M]:=I.hok _ _ ha;let#[prs,kv,Y]:=Bv I.hok L B;have Kh:f.length=prs.length:=by rw[<-B.length,L.length];exact VO kv
 let hh:=I.ok.hd hcalm;exact qQ (Z:=λx=>Heap.DictOf (a8 X.prog X.w) x s.heap.objs.size<|iH prs) hh M (λR l tk1 K hR=>?_) λx tk hZ hk=>?_
 .have hS:(s.heap.push mS).get? s.heap.objs.size=!mS:=Yq _ qx;let S:=K _ _ hS;have j:=Yw S;have m:=Yw M;have N:=Yz<|ZU m j;have c:=λb o e=>K b o<|Yf _ e
  have g:∀b o,s.heap.get? b=!o->b∉s.heap.objs.size::[l.objs.size]:=λb o e=>by
   have:=Yw e;simp[Ys,Yu,Xs,Uf,not_or];exact#[Yz this,Yz<|ZU this j]
  have O:(l.push<|GL a).IsList a f.toArray:=Heap.IsList.push #[_,c _ _ M,qx,n,qx] _;have E:X.A.in1.in1.handled=():=by simpa using hh
  have T:Heap.DictOf (a8 X.prog X.w) (l.push<|GL a) s.heap.objs.size (iH<|prs.take 0):=by let#[_,_,vs0,J,o,es,ep,e,rr]:=DK (H:=H) s.heap I.big;cases J;exact#[o,es,ep,Yf _<|K _ _ e,rr]
  exact Aw ((Walks.list E _ a N f.toArray).toS) s.heap.objs.size (by simp;exact#[Yz j,Xl m]) s.heap g prs (by rw[<-Kh,Yy]) (by rwa[Yy,<-B.length]) (λi v e=>Y i v<|by simpa using e) _ 0 _ 0 0 (by omega) (YN _)
   #[#[_,Yq _ rfl,rfl,rfl],O] (λb o e=>Yf _<|c b o e) T λs' p U=>?_
  let#[x,g',d',y,C]:=s';have eg:=p.gens;have ed:=p.drawn;have eo:=p.os;subst eg ed eo;exact hR x y U λb o e=>p.heap b o (g b o e)<|Yf _<|c b o e
 .have z:(iN [] kvs).length<=sizeLine:=YA (xR [] kvs) (by rw[YV,Zk,<-L.length];exact YA hl<|by decide);exact#[.ref s.heap.objs.size,_,I.laid hk (Yp _)<|Ct z (ZB.mpr<|XE<|Yz I.big) (Ja kv) hZ,qx,q _<|I.hok.fresh<|Yp _]
open PySem.W
def gO:List D->Option (List (Key×D))
 |[]=>![]
 |.tup [k,v]::r=>(ja k).bind λa=>(gO r).map λl=>(a,v)::l
 |_=>()
def l6(a kvs:List (Key×D)):List (Key×D):=kvs.foldl (λb p=>eS b p.1 p.2) a
def vC(r:Rep K F v d)(h:ja d=!k):v=kV k:=by
 cases d with
 |int i=>cases h;cases r;rfl
 |str x=>cases h;cases r;rfl
 |_=>cases h
def A0(s:Same F H):∀{vs}{ds}{kvs},Reps K F vs ds->gO ds=!kvs->∃l,PairsV H vs l/\RepsK K F l kvs:=by
 intro vs ds kvs r;exact Reps.ind (M:=λvs ds=>∀kvs,gO ds=!kvs->∃l,PairsV H vs l/\RepsK K F l kvs) (λkvs h=>by cases h;exact#[[],.nil,.nil]) (λ{v d vs ds} c _ ih kvs h=>?_) r kvs;delta gO at h;split at h
 .rename_i e;cases e
 .rename_i k x p e;cases e;let#[w,q,h]:=YK.mp h;let#[l,a,rfl]:=Zd.mp h;let#[u,m,j]:=ih l a;cases c with
 |tup e1 e2=>
  cases e2 with
  |cons i g=>
   cases g with
   |cons b f=>
    cases f;let o:=G1 i q;subst o;exact#[_,.cons (s _ _ e1) m,.cons b j]
 .cases h
def xB{l}{kvs}(h:RepsK K F l kvs){a}{b}(c:RepsK K F a b):RepsK K F (iN a l) (l6 b kvs):=
 RepsK.ind (M:=λl kvs=>∀a b,RepsK K F a b->RepsK K F (iN a l) (l6 b kvs)) (λz z h=>h) (λ{k v d e f} r _ ih a b c=>ih _ _<|RepsK.put r c) h a b c
def zD(f:Dl):DF->Option OD:=λc=>(f c).bind λb=>(gO b).bind λa=>if b.length<=1000 then !.dK (l6 [] a) else ()
section
variable{i:Expr}{fk fd:Dd}
def AU{f:Dl}(hcalm:X.calm)(C:Gl X "dict")(A:X.mg "dict"=())(h:PDO X e (asL f))(hs:starEach [e] X.env=[(false,eval e X.env)]:=by rfl)(i:(backTo pos (starEach [] X.env)).any (·.1)=false:=by rfl):PDO X (.Call (.Name "dict" p) [e] [] pos) (zD f):=
 (eD (xv hcalm) C A xJ (aQ h bw hs) (by decide) (by decide) hs i).imp λM H Q=>un7 λP F o N b I k=>by
  delta zD at b;cases q:f o with
  |none=>rw[q]at b;cases b
  |some m=>
  cases g:gO m with
  |none=>rw[q,Yb,g]at b;cases b
  |some y=>
  rw[q,Yb,g,Yb]at b;split at b
  .rename_i B;cases b;exact#[P,F,o,.lst m,by delta asL;rw[q];rfl,I,λa x S c z=>?_];let#[#[R,O],u,L,w]:=z;cases u with
   |lst vs=>
    let s:=w;let#[l,J,E]:=A0 c.hp.sub s g;exact#[a,vs,l,qx,L,J,by rwa[s.length],λd j=>?_];exact k d x _ (c.trans<|Evo.side c.hp j) #[#[c.back I.toDHp j,(c.hp.free j).1],_,aD,xB E .nil]
   |_=>exact w.elim
  .cases b
def mD:D->D->Option D
 |y,.dK kvs=>(ja y).map λk=>.bl<|(not<|(dq kvs k).isSome)
 |_,_=>()
theorem DH(S:X.A.units+64<cLine)(hi:PDE X i fk)(C:PDR X o fd)(h1:behindInMarks .NotIn o=false:=by first|exact v5 _ (by decide) (by decide)|rfl):PDT X (.Compare i [.NotIn] [o] pos) (asB (d2 mD fk fd)):=(DD (Av (by lia) hi C) h1).imp λO H Q=>un7 λP F c b h I k=>by
 let h:=Et h;delta d2 at h;cases q:fk c with
 |none=>rw[q]at h;cases h
 |some s=>
 cases g:fd c with
 |none=>rw[q,Yb,g]at h;cases h
 |some K=>
 rw[q,Yb,g,Yb]at h;cases K with
 |dK kvs=>
  have a:((ja s).map λk=>D.bl _)=!_:=h;let#[j,f,a]:=Zd.mp a;cases a;exact#[P,F,c,_,q,I,λy N U m w=>#[P,N,c,_,g,I.evo m,λx M L l B=>?_]];let#[p,u,rfl,h1,E]:=IU ((I.evo m).evo l) B;let J:=G1 (w.same l.ext) f;subst J;exact#[p,_,qx,DGet.k h1,_,qx,?_];have:(eY u j).isSome=(dq kvs j).isSome:=by
   rcases E.val with⟨e,z⟩|⟨v,T,e,z,R⟩
   .rw[e,z];rfl
   .rw[e,z];rfl
  rw[this];exact k M L<|m.trans l
 |_=>cases h
def oF(i:Nat)(a0:Addr)(v0:V)(g:Dd)(fe:Dd):DF->Option D:=λb=>match b[i]? with
 |some (!.v (.fn a v d))=>open Classical in if a=a0/\v=v0 then(fe b).bind λx=>g [!.v x,!.v d]else ()
 |_=>()
open A in
def Cd{c}{j:Dd}(S:L.Ok)(M:LamIn X L a0 c' c uc)(B:RelV v0 uc)(J:Room (k+1) X.A)(hN:X.N[ix]?=!x)(hv:Vis X.env.scope x)(R:PDE X e fe)(O:∀s H E,PDE (rR CX0 X.prog X.w X.K X.mg X.base L a0 c' c X.A X.stack s H E) L.body j)(hd:nDb x:=by decide)(hcd:nDc x:=by decide)(he:starEach [e] X.env=(false,eval e X.env)::starEach [] X.env:=by rfl):PDE X (.Call (.Name x p) [e] [] pos) (oF ix a0 v0 j fe):=
 (B6 (t:=tD X.K j) S M B J hN hv R (λs H E=>O s H E) hd hcd he).imp λσ H Q=>un7 λP F l d h I k=>by
  delta oF at h;split at h
  .rename_i a v Z q;split at h
   .rename_i av;let#[rfl,rfl]:=av;cases g:fe l with
    |none=>rw[g]at h;cases h
    |some m=>
     rw[g,Yb]at h;let#[w,U,T]:=I.at q;cases T with
     |fn rv=>
      exact#[U,P,F,l,m,g,I,λo u H1 f r=>#[o,qx,gd u H1,u,[!.v m,!.v Z],d,h,#[ge f.hp.sub,rfl,λ_=>(),λi z b=>?_],λy F2 H2 Y C=>k y F2 H2 (f.trans<|Y.change f.hp) C]]
      match i,b with
      |0,b=>cases b;exact#[o,qx,r]
      |1,b=>cases b;exact#[_,qx,Rep.same f.ext rv]
      |i+2,b=>cases b
   .cases h
  .cases h
def GN(i:Nat)(fe:Dd):DF->Option RES:=λc=>match c[i]?,fe c with
 |some<|!.v (.int a),!.int b=>!.nx (c.set i<|!.v (.int<|a+b))
 |_,_=>()
open A in
def JP(hN:X.N.Nodup)(hi:X.N[ix]?=!x)(hx:Loc X.env.scope x)(he:PDE X e fe)(i:FnL X x:=by trivial):PD1 X (.AugAssign (.Name x pos') .Add e pos) (GN ix fe):=
 PS.imp (IB hN hi hx he I_ i) λE p H=>un7 λP F f r h I k=>by
  delta GN at h;split at h
  .rename_i a b q g;cases h;let#[v,l,j]:=I.at q;cases j;exact#[_,l,P,F,f,_,g,I,λy o m c r=>?_];cases r;exact#[a,b,qx,qx,k _ o m c.ext<|(I.evo c).setV ix .int]
  .cases h
end
def DInv.lend(I:DInv K P F H ρ σ){o}(fl:o.flat)(h:ρ[i]?=!!.own o t):∃T,DInv K T F H (ρ.set i (!.bor o)) σ:=by
 let#[O,p]:=I.rep;let#[_,L,a,rfl,J,_]:=p i _ h;let#[#[M,s,y],u,S,R]:=(ORep.flat fl).mp J;have A:∀{b}{m},O b=!m->i≠m->b≠a:=λh C z=>by subst z;rw[y]at h;exact C<|YG h
 exact#[upd P a u,#[I.sub,λb w e=>?_,λb w e=>?_],by rw[Zg];exact I.len,O,λm x E=>?_]
 .by_cases q:b=a
  .subst q;rw[aD]at e;cases e;exact S
  .rw[az q]at e;exact I.pro b w e
 .by_cases q:b=a
  .subst q;exact M
  .rw[az q]at e;exact I.dis b w e
 .rcases fj E with⟨rfl,e,U⟩|⟨g,f⟩
  .cases e;exact#[_,L,a,qx,(ORep.flat fl).mpr #[trivial,u,aD,R]]
  .let#[v,N,l]:=p m x f;exact#[v,N,?_];cases x with
   |v d=>exact l
   |own o' t'=>
    let#[b,rfl,j,B]:=l;exact#[b,qx,j.mono (Same.refl _) λQ w q c=>#[c,q.1,by rw[az<|A q.2.2 g];exact q.2.1,q.2.2],B]
   |bor o'=>
    let#[b,rfl,j]:=l;exact#[b,qx,j.mono (Same.refl _) λQ w q c=>#[by rwa[az λz=>by subst z;rw[s]at c;cases c],q]]
def vW(i:Nat)(f:Do):DF->Option OD:=λa=>match a[i]? with
 |some (!.own o _)=>if o.flat then f (a.set i<|!.bor o)else ()
 |_=>()
def BW i{f:Do}(h:PDO X e f):PDO X e (vW i f):=PE.imp h λu H Q=>un7 λP F w o b I k=>by
 delta vW at b;split at b
 .rename_i x t q;split at b
  .rename_i g;let#[l,m]:=I.lend g q;exact#[l,F,_,o,b,m,λa s p j c=>k a s p (j.change I.toDHp) c]
  .cases b
 .cases b
end L2
namespace L2
open PySem PySem.Spec PyProof.Rows
def kM(f:Dd):DF->Option Bool:=λa=>match f a with
 |some (.lst ds)=>!((not<|ds.isEmpty))
 |_=>()
def uB(a:PDR X e fa)(he:∀w,isTrue e X.env w=(do let v <-w;standAt e.pos;holding [v] (truthy v)):=by intro _;rfl):PDT X e (kM fa):=
 (CB a he).imp λs H Q=>un7 λP F b d h I k=>by
  delta kM at h;cases a:fa b with
  |none=>rw[a]at h;cases h
  |some m=>
  rw[a]at h;cases m with
  |lst ds=>
   cases h;exact#[P,F,b,_,a,I,λx q p f g=>?_];let o:=I.evo f;let#[l,c,rfl,j,i]:=e_ o g;exact#[(not<|ds.isEmpty),.inl #[c,j,?_],k q p f];have:=i.length;cases c<;>cases ds<;>first|rfl|cases this
  |_=>cases h
def nP:List Int->Int
 |[]=>0
 |[a]=>a
 |a::b::r=>if a<=nP (b::r)then a else nP (b::r)
theorem uH:∀ns,ns≠[]->nP ns∈ns/\∀a∈ns,nP ns<=a
 |[],h=>absurd qx h
 |[a],_=>#[Yu.mpr qx,λb g=>by rw[Yu.mp g];exact Us _]
 |a::b::r,_=>by
  let#[i,f]:=uH (b::r) (by simp);delta nP;by_cases q:a<=nP (b::r)
  .rw[Yl q];exact#[Ye,λc e=>?_];rcases Ys.mp e with z|z
   .rw[z];exact Us _
   .exact Int.le_trans q<|f c z
  .rw[Yn q];exact#[Yd _ i,λc e=>?_];rcases Ys.mp e with z|z
   .rw[z];lia
   .exact f c z
def wB:D->Option D
 |.lst ds=>if(ds.all isI&&(not<|ds.isEmpty)) then !.int (nP<|ds.map toI) else ()
 |_=>()
theorem z_(hcalm:X.calm):CallR X (.builtin "min") (λxs H Q=>∃l ns,xs=[.ref l]/\SqL X.K H l (ns.map V.int)/\ns≠[]/\Q (.int (nP ns)) H):=by
 intro T s R H xs S Q I r h;let#[l,ns,rfl,E,b,q]:=h;let#[u,rfl,y]:=fB r;cases y;let#[c,x,A,U]:=I.list E;let o:=G_ x;let#[xs,e]:=o.allInts.items;have a:ns=xs.toList.map (·.1):=by rw[<-o.numsOf,<-nums_intItems,<-e]
 have f:0<xs.size:=by
  rcases Nat.eq_zero_or_pos xs.size with z|z
  .exact absurd (by rw[a,Vi];exact Zq.mp<|by rwa[Zr]) b
  .exact z
 let g:=A.isList;rw[e]at g;exact min_intList (I.ok.hd hcalm) g f λv Z w C L=>?_;let#[t,rfl]:=intItems_at C;let#[Y,N]:=argBest_lt (numAt xs)<|xs.size-1;let#[m,B]:=uH ns b;have J:numAt xs (argBest (λi j=>decide<|numAt xs i<numAt xs j)<|xs.size-1)=nP ns:=by
  have P:numAt xs (argBest (λi j=>decide<|numAt xs i<numAt xs j)<|xs.size-1)∈ns:=by rw[a,numAt_eq];exact getD_mem<|by rw[Ya,Zr];lia
  let a2:=B _ P;rw[a]at m;let#[j,M,O]:=mem_getD m;rw[Ya,Zr]at M;let p:=N j (by lia);rw[numAt_eq xs j]at p;rw[<-a]at O p;lia
 rw[J];exact#[.int _,H,I.kept L,#[t,qx],q]
def G0(_:X.A.units+64<cLine)(hcalm:X.calm)(o:Gl X "min")(m:X.mg "min"=())(a:PDR X e fa)(hs:starEach [e] X.env=[(false,eval e X.env)]:=by rfl)(b:(backTo pos<|starEach [] X.env).any (·.1)=false:=by rfl):PDE X (.Call (.Name "min" p) [e] [] pos) (d1 wB fa):=
 (g_ (z_ hcalm) o m Eo (aQ a bw hs) (by decide) (by decide) hs b).imp λy H Q=>un7 λP F c d h I k=>by
  delta d1 at h;cases a:fa c with
  |none=>rw[a]at h;cases h
  |some s=>
  rw[a,Yb]at h;cases s with
  |lst ds=>
   delta wB at h;dsimp only at h;split at h
   .rename_i ok;rw[Yr]at ok;cases h;exact#[P,F,c,_,a,I,λx w C g i=>?_];let u:=I.evo g;let#[l,B,rfl,f,q]:=e_ u i;let j:=jJ q ok.1;rw[j]at f;exact#[l,ds.map toI,qx,f,λz=>?_,k _ w _ g .int];rw[Vi]at z;rw[z]at ok;cases ok.2
   .cases h
  |_=>cases h
def Hs(d:D):FO->Option FO
 |.d _=>!.d d
 |_=>()
def i6(C:Addr)(i:Nat)(n:Str)(f:Dd):DF->Option RES:=λa=>(f a).bind λd=>(oQ (!C) i n (Hs d) a).map .nx
def iJ i{f:Dd}(c:Cls X.K C)(z:NoAttr X.K C n)(y:PE X o (c7 i))(hv:PDE X value f)(hs:swapsWith value (!.Attribute o n pos') pos.line X.env=pure false:=by rfl) :
  PD1 X (.Assign [.Attribute o n pos'] value pos) (i6 C i n f):=PS.imp (ui y hv hs) λE j H=>un7 λP F m r h I k=>by
 let#[d,q,h]:=YK.mp h;let#[l,u,rfl]:=dI h;let#[fs,t,x,Q,B,A,e,b,rfl]:=Bj u;exact#[P,F,m,d,q,I,λv O U g s=>?_];cases x with
 |d d0=>
  cases e;let#[a,N,p,w,M,L,T,S,R,J,back]:=(I.evo g).fld B A;exact#[_,M,a,C,N,p,qx,L,c,z,by rwa[J],k j O _ g.ext<|back v d s]
 |_=>cases e
section
variable{P:Program}{q:Str}{st:Stmt}{c:Addr}{k:Nat}
def Df.okC(F:Df K q st f fd) N (x:∀{A}{outer}{s}{H}{E},Room k (A.deeper (envOfC q (defScope st) s.heap.objs.size f (.ref c)))->
      PDS (gP CX0 P w K mg base N q (defScope st) f (.ref c) A outer s H E).nox (defBody st) g) (e:fd=fnD q st pm c:=by kernel_rfl) (h:xl N (eU st) (defScope st):=by kernel_rfl):FnOk P w K mg base CX0 (k+1) f fd (eU st) (spD K (mOf N.length (eU st).length g)):=by
  let#[J,I,kV,i,p,B,a,y,o,j,l,b]:=F.fn.ex;subst e;let z:=j;let u:=YU FuncData.code z;subst u;exact He l b (scI N h) yG λA outer s H C Q E m h=>#[_,PSs.nox<|x m,vh h]
def FnOk.neverO:FnOk P w K mg base CX0 k f fd ps (spO K λ_ _=>()):=
 #[λ_ _ _ _ z=>(by let#[_,_,_,_,_,_,_,_,_,e,_]:=z;cases e),λ_ _ _ _ _ _ _ _ _ _ _ _ _ z=>(by let#[_,_,_,_,_,_,_,_,_,e,_]:=z;cases e)]
end
def Ar(x:Str)(n:Int):Str:=if n<1 then Str.empty else if(n == 1||x.length == 0) then x else#[(List.replicate n.toNat x.cps).foldl (·++·) [].toArray]
def lU:D->D->Option D
 |.str x,.int n=>if -(2^62)<=n/\n<1000/\x.length<=1000 then !.str (Ar x n) else ()
 |_,_=>()
def Hm:R2:=λx y H Q=>∃z n,x=.str z/\y=.int n/\(-(2^62)<=n/\n<1000/\z.length<=1000)/\Q (.str<|Ar z n) H
def wH c:∀k (a:Array Nat),((List.replicate k c).foldl (·++·) a).size=a.size+k*c.size
 |0,a=>by simp
 |k+1,a=>by
  rw[List.replicate_succ,XA,wH,Um,Nat.succ_mul];lia
section
variable{a:Expr}
theorem G5:OpR X (binaryOp .Mult) Hm:=by
 intro p s g H x y v u Q I f e h;let#[z,n,rfl,rfl,#[b1,b2,b3],q]:=h;let#[t,rfl]:=f;let#[i,rfl]:=e;exact P.mul_str (by rw[YB<|show ¬n < -(2^63)by lia,YB<|show ¬n ≥ 2^63 by lia];rfl) (λa _=>?_) (λa _=>?_) ?_
 .have c:1000<=(2^63-1)/n:=Int.le_ediv_of_mul_le (by lia) (by lia);lia
 .have c:z.length*n.toNat<=1000*1000:=Ui b3 (by lia);show decide _=false;rw[Xj,YT];lia
 .delta Ar at q;split
  .rename_i a;rw[Yl a]at q;exact#[by decide,#[.str Str.empty,H,I.tok _,#[_,qx],q]]
  .rename_i a;rw[Yn a]at q;split
   .rename_i b;rw[Yl b]at q;exact#[.str z,H,I,#[_,qx],q]
   .rename_i b;rw[Yn b]at q;exact#[?_,#[.str _,H,I.tok _,#[_,qx],q]];show((List.replicate n.toNat z.cps).foldl (·++·) [].toArray).size<=sizeLine;rw[wH,YT];have c:n.toNat*z.cps.size<=1000*1000:=Ui (by lia) b3;show 0+n.toNat*z.cps.size<=_;lia
open A in
def EV:vf K Hm lU:=by
 intro P F H f e x y i g d Q h I b a k;delta lU at h;split at h
 .rename_i z n;split at h
  .rename_i c;cases h;exact#[z,n,ou b,dm a,c,k _ F H (Evo.refl I.toDHp) .str]
  .cases h
 .cases h
def t4(c:PDR X a fa)(h:PDR X b fb):PDE X (.BinOp a .Mult b pos) (d2 lU fa fb):=jY G5 EV c h
end
end L2
namespace L2
open PySem PySem.SetTable
theorem pO{xs}{k}(h1:∀i,i<k->xs.getD i j<j)(h2:∀i,k<=i->¬xs.getD i j<j):∀f lo hi,lo<=k->k<=hi->hi-lo<=f->below.go xs j f lo hi=k
 |0,lo,hi,a,b,c=>by delta below.go;lia
 |f+1,lo,hi,a,b,c=>by
  delta below.go;split
  .dsimp only;split
   .rename_i q;exact pO h1 h2 f _ _ (Nat.lt_of_not_le λz=>h2 _ z q) b<|by lia
   .rename_i q;exact pO h1 h2 f _ _ a (ZV λz=>q<|h1 _ z)<|by lia
  .lia
def Ce{a b:List Nat}(e:∀x∈a,x<j)(c:∀x∈b,j<=x):below (a++b).toArray j=a.length:=by
 exact pO (λi h=>?_) (λi h=>?_) _ 0 _ (YN _) (by simp)<|by simp
 .have:(a++b).toArray.getD i j=a[i]:=by simp[Zp,ZA h,h]
  rw[this];exact e _<|Xf h
 .simp only[Zp,VG,Zu h];cases q:b[i-a.length]? with
  |none=>exact Ze _
  |some x=>exact Nat.not_lt.mpr<|c x<|YR q
section
variable{α:Type}{en:α->Int×Value}
abbrev Rs(Z:List (Nat×α)):Prop:=Z.Pairwise λx y=>x.1<y.1
theorem qC(r:Rs Z)j:∃a b,Z=a++b/\(∀z∈a,z.1<j)/\∀z∈b,j<=z.1:=by
 induction Z with
 |nil=>exact#[[],[],qx,by simp,by simp]
 |cons x l ih=>
  let#[e,c]:=Zi.mp r;by_cases h:x.1<j
  .let#[a,b,rfl,g,f]:=ih c;exact#[x::a,b,qx,by simpa using #[h,λu v m=>g (u,v) m],f]
  .exact#[[],x::l,qx,by simp,λz m=>by
    rcases Ys.mp m with rfl|m
    .lia
    .have:=e z m;lia]
structure Tb (en:α->Int×Value) (t:SetTable) (es:Array (Int×Value)) (Z:List (Nat×α)):Prop where
 pl:t.place=(Z.map (·.1)).toArray
 es:es=(Z.map λz=>en z.2).toArray
 nod:t.dummies=#[[]]
 rs:Rs Z
def Tb.below{es:Ka}{a b}(T:Tb en t es (a++b))(c:∀z∈a,z.1<j)(h:∀z∈b,j<=z.1):SetTable.below t.place j=a.length:=by
 rw[T.pl,YW,Ce,Ya]
 .intro x m;let#[z,k,rfl]:=Yg.mp m;exact c z k
 .intro x m;let#[z,k,rfl]:=Yg.mp m;exact h z k
def Tb.slot_in{es:Ka}(T:Tb en t es Z){z}(m:z∈Z):∃i,t.slot z.1=.live i/\es[i]?=!en z.2:=by
 let#[a,b,rfl]:=List.append_of_mem m;let r:=VN.mp T.rs;have e:=T.below (λx m=>r.2.2 x m z Ye) λx m=>by
  rcases Ys.mp m with rfl|m
  .exact Yp _
  .exact ZG<|(Zi.mp r.2.1).1 x m
 exact#[a.length,?_,by rw[T.es];simp];delta slot;rw[e,T.pl];simp
def Tb.uniq{es:Ka}(T:Tb en t es Z){y z}(b:y∈Z)(m:z∈Z)(e:y.1=z.1):y=z:=by
 apply Za;intro c;let#[i,a,rfl]:=Zw b;let#[j,h,rfl]:=Zw m;let r:=Vb.mp T.rs;rcases Nat.lt_trichotomy i j with l|l|l
 .have:=r i j a h l;lia
 .subst l;exact c qx
 .have:=r j i h a l;lia
def Tb.slot_out{es:Ka}(T:Tb en t es Z)(h:∀z∈Z,z.1≠j):t.slot j=.empty:=by
 delta slot;have:∀i,t.place[i]?≠!j:=λi q=>by
  rw[T.pl]at q;let#[z,m,e]:=Yg.mp<|YR (by rwa [VG]at q);exact h z m e
 simp[this,T.nod,has]
def Tb.put{es:Ka}(T:Tb en t es Z)(h:∀z∈Z,z.1≠j)e:∃a b,Z=a++b/\Tb en (t.put j).1 (insertAt es (t.put j).2 (en e)) (a++(j,e)::b):=by
 let#[a,b,rfl,g,f]:=qC T.rs j;have q:(t.put j).2=a.length:=T.below g f;let r:=VN.mp T.rs;exact#[a,b,qx,?_,?_,?_,?_]
 .show insertAt t.place _ j=_;rw[T.below g f,T.pl];apply VL.mp;rw[toList_insertAt];simp
 .rw[q,T.es];apply VL.mp;rw[toList_insertAt];simp
 .show(if has t.dummies j then _ else t.dummies)=_;rw[T.nod];rfl
 .exact VN.mpr #[r.1,Zi.mpr #[λz m=>ZH (f z m) λc=>h z (by simp[m]) c.symm,r.2.1],λx m y n=>?_];rcases Ys.mp n with rfl|n
  .exact g x m
  .exact r.2.2 x m y n
def oZ(mask:Nat)(p:Probe):Probe:=
 if p.more > 0 then{p with j:=p.j+1,more:=p.more-1}else
 {p with j:=(leap mask p.i p.perturb).1,more:=runEnd mask (leap mask p.i p.perturb).1-(leap mask p.i p.perturb).1,i:=(leap mask p.i p.perturb).1,perturb:=(leap mask p.i p.perturb).2}
def fL(mask:Nat)(x:Nat×Nat):Probe:={j:=x.1,more:=runEnd mask x.1-x.1,i:=x.1,perturb:=x.2,dummy:=()}
def cB(mask:Nat)(p:Probe):Nat->Probe
 |0=>p
 |n+1=>oZ mask<|cB mask p n
def st0(mask:Nat)(h:Int):Nat×Nat:=(bits h%(mask+1),bits h)
def at_(mask:Nat)(h:Int)(n:Nat):Nat:=(cB mask (fL mask<|st0 mask h) n).j
theorem l9 mask p m:∀n,cB mask p (m+n)=cB mask (cB mask p m) n
 |0=>rfl
 |n+1=>YU _<|l9 mask p m n
theorem ni mask x:∀n,(cB mask (fL mask x) n).dummy=()
 |0=>rfl
 |n+1=>by
  show(oZ mask _).dummy=_;delta oZ;split<;>exact ni mask x n
theorem lQ mask p:∀n,n<=p.more->cB mask p n={p with j:=p.j+n,more:=p.more-n}
 |0,_=>rfl
 |n+1,h=>by
  show oZ mask _=_;rw[lQ mask p n<|by lia];delta oZ;have:(p.more-n) > 0:=by lia
  grind
theorem rH mask x:cB mask (fL mask x) (runEnd mask x.1-x.1+1)=fL mask (leap mask x.1 x.2):=by show oZ mask _=_;rw[lQ mask _ (runEnd mask x.1-x.1)<|Yp _];delta oZ;rw[Yn<|by show ¬(runEnd mask x.1-x.1-(runEnd mask x.1-x.1) > 0);lia];rfl
theorem lZ mask i:i<=runEnd mask i/\runEnd mask i<=i+9/\(i<=mask->runEnd mask i<=mask):=by delta runEnd;split<;>lia
theorem BG mask h n:at_ mask h n<=mask:=by
 have:∀n,(cB mask (fL mask<|st0 mask h) n).j+(cB mask (fL mask<|st0 mask h) n).more<=mask:=by
  have a:∀i,i<=mask->i+(runEnd mask i-i)<=mask:=λi b=>by have:=lZ mask i;lia
  intro n;induction n with
  |zero=>exact a _<|Zt<|Uu _<|VF _
  |succ n ih=>
   show(oZ mask _).j+(oZ mask _).more<=mask;generalize cB mask _ n=p at ih;delta oZ;split
   .show p.j+1+(p.more-1)<=mask;lia
   .exact a _<|Zt<|Uu _<|VF _
 have:=this n;delta at_;lia
def dw(mask:Nat)(x:Nat×Nat):Nat->Nat×Nat
 |0=>x
 |k+1=>leap mask (dw mask x k).1 (dw mask x k).2
theorem mZ mask x:∀k,∃n,n<=10*k/\cB mask (fL mask x) n=fL mask (dw mask x k)
 |0=>#[0,Yp _,qx]
 |k+1=>by
  let#[n,a,h]:=mZ mask x k;have:=lZ mask (dw mask x k).1;exact#[n+(runEnd mask (dw mask x k).1-(dw mask x k).1+1),by lia,by rw[l9,h,rH];rfl]
def lcg(m i:Nat):Nat->Nat
 |0=>i
 |k+1=>(lcg m i k*5+1)%m
def Lg:∀i<8,∀j<8,∃k<8,lcg 8 i k=j:=by decide+kernel
def Jt:∀i<32,∀j<32,∃k<32,lcg 32 i k=j:=by decide+kernel
abbrev Msk(mask:Nat):Prop:=mask=7\/mask=31
theorem w6 mask x:∀k,(dw mask x k).2=x.2/32^k
 |0=>by simp[dw]
 |k+1=>by
  show(dw mask x k).2/32=_;rw[w6,Nat.div_div_eq_div_mul,Nat.pow_succ]
theorem rM(F:Msk mask)h(f:j<=mask):∃k,k<turns mask/\(dw mask (st0 mask h) k).1=j:=by
 have pt:∀k,(dw mask (st0 mask h)<|12+k).2/32=0:=λk=>by
  rw[w6,Nat.div_div_eq_div_mul,<-Nat.pow_succ];let g:=Zo h (by decide:(0:Int)<2^64);have:bits h<2^64:=by delta bits;have:=Zz h (by decide:(2^64:Int)≠0);lia
  have b:32^13<=32^(12+k).succ:=Nat.pow_le_pow_right (by decide) (by lia);exact Nat.div_eq_of_lt<|Yx (ZU this<|by decide) b
 have l:∀k,(dw mask _<|12+k).1=lcg _ (dw mask _ 12).1 k:=λk=>by
  induction k with
  |zero=>rfl
  |succ k ih=>
   show((dw mask _<|12+k).1*5+1+(dw mask _<|12+k).2/32)%(mask+1)=_;rw[pt,ih];rfl
 have a:(dw mask (st0 mask h) 12).1<mask+1:=Uu _<|VF _;obtain⟨k,c,e⟩:∃k<mask+1,lcg (mask+1) (dw mask (st0 mask h) 12).1 k=j:=by
  rcases F with rfl|rfl
  .exact Lg _ a j<|by lia
  .exact Jt _ a j<|by lia
 exact#[12+k,by delta turns;lia,(l k).trans e]
theorem gap{P:List Nat}(h:P.length<=mask):∃j,j<=mask/\j∉P:=by
 apply Za;intro a;have:=List.nodup_range.length_le_of_subset (l₁:=List.range<|mask+1) λj b=>Za λq=>a #[j,by have:=Zf.mp b;lia,q]
 rw[Zs]at this;lia
theorem CO{P:Nat->Prop}n:P n->∃m,m<=n/\P m/\∀i,i<m->¬P i:=by
 induction n using Nat.strongRecOn with
 |_ n ih=>
  intro h;by_cases q:∃i,i<n/\P i
  .let#[i,b,a]:=q;let#[m,e,c]:=ih i b a;exact#[m,by lia,c]
  .exact#[n,Yp _,h,λi b a=>q #[i,b,a]]
def Reach(en:α->Int×Value)(mask:Nat)(Z:List (Nat×α)):Prop:=∀z∈Z,∃n,at_ mask (en z.2).1 n=z.1/\∀m,m<n->∃y∈Z,y.1=at_ mask (en z.2).1 m
def BC(mask:Nat)(Z:List (Nat×α))(h:Int)(N:Nat):Prop:=N<10*turns mask/\(∀z∈Z,z.1≠at_ mask h N)/\∀m,m<N->∃y∈Z,y.1=at_ mask h m
theorem GX(F:Msk mask)(f:Z.length<=mask)h:∃N,BC mask Z h N:=by
 let#[j,s,p]:=gap (P:=Z.map (·.1)) (by simpa using f);let#[k,w,o]:=rM F h s;let#[n,u,l]:=mZ mask (st0 mask h) k;let#[m,a,b,c]:=CO (P:=λn=>∀z∈Z,z.1≠at_ mask h n) n λz m e=>p<|Yg.mpr #[z,m,by rw[e,<-o];delta at_;rw[l];rfl]
 exact#[m,by lia,b,λi g=>Za λq=>c i g λz m e=>q #[z,m,e]]
def Reach.put{N}{a b}{e}(R:Reach en mask (a++b))(hN:BC mask (a++b) (en e).1 N):Reach en mask (a++(at_ mask (en e).1 N,e)::b):=by
 have u:∀y:Nat×α,y∈a++b->y∈a++(at_ mask (en e).1 N,e)::b:=λy m=>by simp at m ⊢;rcases m with m|m<;>simp[m]
 have o:∀h n,(∀m,m<n->∃y∈a++b,y.1=at_ mask h m)->∀m,m<n->∃y∈a++(at_ mask (en e).1 N,e)::b,y.1=at_ mask h m:=λh n q m l=>by
  let#[y,g,i]:=q m l;exact#[y,u y g,i]
 intro z m;rcases YO.mp m with m|m
 .let#[n,f,c]:=R z<|YH _ m;exact#[n,f,o _ n c]
 .rcases Ys.mp m with rfl|m
  .exact#[N,qx,o _ N hN.2.2]
  .let#[n,f,c]:=R z<|YC _ m;exact#[n,f,o _ n c]
theorem oO{es:Ka}{Z}(T:Tb en t es Z){hashAt}{h}{N}(hN:BC t.mask Z h N):∀f n,n<=N->N-n<f->∃m,n<=m/\m<=N/\(∀l,n<=l->l<m->∀z∈Z,z.1=at_ t.mask h l->∃i,es[i]?=!en z.2/\hashAt i≠h) /\
  (m=N/\probe.go t hashAt h f (cB t.mask (fL t.mask<|st0 t.mask h) n)=!.empty (at_ t.mask h N) () \/
  ∃i,∃z∈Z,m<N/\z.1=at_ t.mask h m/\t.slot z.1=.live i/\es[i]?=!en z.2/\hashAt i=h/\probe.go t hashAt h f (cB t.mask (fL t.mask<|st0 t.mask h) n)=!(.candidate z.1 i<|cB t.mask (fL t.mask<|st0 t.mask h)<|m+1))
 |0,n,_,h2=>by lia
 |f+1,n,h1,h2=>by
  by_cases A:n=N
  .subst A;exact#[n,Yp _,h1,λl a b=>by lia,.inl #[qx,?_]];delta probe.go;rw[show t.slot (cB t.mask _ n).j=.empty from T.slot_out hN.2.1];rw[ni];rfl
  .let#[z,m,e]:=hN.2.2 n (by lia);let#[i,s,x]:=T.slot_in m;have q:t.slot (cB t.mask (fL t.mask<|st0 t.mask h) n).j=.live i:=by rw[<-s,e];rfl
   by_cases g:hashAt i=h
   .exact#[n,Yp _,h1,λl a b=>by lia,.inr #[i,z,m,by lia,e,s,x,g,?_]];delta probe.go;rw[q,e];simp only[g,XL,VT];rfl
   .have B:probe.go t hashAt h (f+1) (cB t.mask (fL t.mask<|st0 t.mask h) n)=probe.go t hashAt h f (cB t.mask (fL t.mask<|st0 t.mask h)<|n+1):=by
     conv=>lhs;unfold probe.go
     rw[q];simp[ZB.mpr g,ZQ,XV];rfl
    let#[m,I,H,E,C]:=oO T (hashAt:=hashAt) hN f (n+1) (by lia) (by lia);exact#[m,by lia,H,λl a b y p u=>?_,by rwa[B]];by_cases c:l=n
    .subst c;let#[k,o,w]:=T.slot_in p;rw[u,<-e,s]at o;cases o;exact#[i,w,g]
    .exact E l (by lia) b y p u
end
theorem nu mask x:∀k,dw mask x (k+1)=dw mask (leap mask x.1 x.2) k
 |0=>rfl
 |k+1=>by
  show leap mask (dw mask x<|k+1).1 (dw mask x<|k+1).2=_;rw[nu];rfl
theorem y9 owner:∀f x,(∃k,k<f/\owner.getD (dw mask x k).1 (!0)=())->
  ∃n,layClean.free mask owner f x.1 x.2=some (cB mask (fL mask x) n).j/\owner.getD (cB mask (fL mask x) n).j (!0)=()/\∀m,m<n->owner.getD (cB mask (fL mask x) m).j (!0)≠()
 |0,x,#[k,hk,_]=>by lia
 |f+1,x,#[k,hk,hn]=>by
  have a:∀m,m<=runEnd mask x.1-x.1->(cB mask _ m).j=x.1+m:=λm h=>by rw[lQ mask (fL mask x) m h];rfl
  let le:=(lZ mask x.1).1;delta layClean.free;cases q:(List.range _).find? λk=>(owner.getD _ _).isNone with
  |some r=>
   let#[g,e,b]:=List.find?_range_eq_some.mp q;let u:=Zf.mp e;exact#[r,?_,?_,λm h=>?_]
   .rw[a r<|by lia]
   .rw[a r<|by lia];simpa using g
   .rw[a m<|by lia];exact λz=>by have:=b m h;rw[z]at this;cases this
  |none=>
   let b:=List.find?_range_eq_none.mp q;cases k with
   |zero=>have:=b 0 (by lia);rw[Nat.add_zero,show owner.getD x.1 _=() from hn]at this;cases this
   |succ k=>
    rw[nu]at hn;let#[n,p,o,i]:=y9 owner f _ #[k,by lia,hn];have s:∀m,cB mask _ _=cB mask (fL mask<|leap mask x.1 x.2) m:=λm=>by rw[l9,rH]
    exact#[runEnd mask x.1-x.1+1+n,by rwa[s],by rwa[s],λm h=>?_];by_cases c:m<=runEnd mask x.1-x.1
    .rw[a m c];exact λz=>by have:=b m (by lia);rw[z]at this;cases this
    .obtain⟨l,rfl⟩:∃l,m=runEnd mask x.1-x.1+1+l:=#[m-(runEnd mask x.1-x.1+1),by lia]
     rw[s];exact i _<|by lia
def lv(owner:Array (Option Nat))(mask:Nat):List (Nat×Nat):=(List.range<|mask+1).filterMap λj=>(owner.getD j ()).map (j,·)
def j5{y}:y∈lv owner mask↔y.1<=mask/\owner.getD y.1 ()=!y.2:=by
 delta lv;rw[XO];constructor
 .rintro⟨i,h,e⟩;let#[a,f,rfl]:=Zd.mp e;exact#[Zt<|Zf.mp h,f]
 .rintro⟨c,b⟩;exact#[y.1,Zf.mpr<|Nat.lt_succ_of_le c,by rw[b];rfl]
def ig{f g:α->Option β}:∀{l:List α},(∀x∈l,f x=g x)->l.filterMap f=l.filterMap g
 |[],_=>rfl
 |a::l,h=>by rw[XD,XD,h a Ye,ig λx m=>h x<|Yd _ m]
theorem Eb{f g}{a:α}(h:∀i,i≠j->g i=f i)(h1:f j=())(h2:g j=!a):∀n,j<n->((List.range n).filterMap g).Perm (a::(List.range n).filterMap f)
 |0,l=>by lia
 |n+1,l=>by
  rw[List.range_succ,List.filterMap_append,List.filterMap_append];by_cases c:n=j
  .subst c;have:(List.range n).filterMap g=(List.range n).filterMap f:=ig λi b=>h i<|Yz<|Zf.mp b
   rw[this];simp[h1,h2,XY]
  .have:=Eb h h1 h2 n (by lia);rw[show[n].filterMap g=[n].filterMap f from ig λi b=>by rw[Yu.mp b];exact h n c];exact this.append_right _
structure LayInv (mask:Nat) (hs:List Int) (owner:Array (Option Nat)) (k:Nat):Prop where
 sz:owner.size=mask+1
 pm:((lv owner mask).map (·.2)).Perm (List.range k)
 rc:∀z∈lv owner mask,∃n,at_ mask (hs.getD z.2 0) n=z.1/\∀m,m<n->∃y∈lv owner mask,y.1=at_ mask (hs.getD z.2 0) m
def Ei(F:Msk mask)(I:LayInv mask hs owner k)(U:k<=mask):∃j,layClean.free mask owner (turns mask) (st0 mask<|hs.getD k 0).1 (st0 mask<|hs.getD k 0).2=!j/\LayInv mask hs (owner.setIfInBounds j<|!k) (k+1):=by
 generalize R:hs.getD k 0=h;let#[C,o,B]:=gap (P:=(lv owner mask).map (·.1)) (mask:=mask) (by have:=I.pm.length_eq;simp at this ⊢;lia);have own:∀j,j<=mask->owner.getD j (!0)=owner.getD j ():=λj E=>by simp[Array.getD,show j<owner.size by have:=I.sz;lia]
 let#[r,O,S]:=rM F h o;let#[n,H,w,T]:=y9 owner _ _ #[r,O,by
  rw[S,own _ o];cases q:owner.getD C () with
  |none=>rfl
  |some a=>exact absurd (Yg.mpr #[(C,a),j5.mpr #[o,q],qx]) B]
 let E:=BG mask h n;change layClean.free mask owner _ _ _=!at_ mask h n at H;change owner.getD (at_ mask h n) (!0)=() at w;rw[own _ E]at w;have u:∀i,(owner.setIfInBounds (at_ mask h n)<|!k).getD i ()=if i=at_ mask h n then !k else owner.getD i ():=λi=>by
  have:=I.sz;by_cases c:i=at_ mask h n
  .subst c;simp[Array.getD,show at_ mask h n<owner.size by lia]
  .rw[Yn c];simp[Zp];rw[Array.getElem?_setIfInBounds_ne λz=>c z.symm]
 have keep:∀y∈lv owner mask,y∈lv _ mask:=λy A=>by
  let#[K,x]:=j5.mp A;exact j5.mpr #[K,?_];rwa[u,Yn λc=>by rw[c,w]at x;cases x]
 exact#[_,H,by rw[Array.size_setIfInBounds];exact I.sz,?_,λz N=>?_]
 .let p:=Eb (f:=λj=>(owner.getD j ()).map (j,·)) (g:=λj=>((owner.setIfInBounds (at_ mask h n)<|!k).getD j ()).map (j,·)) (j:=at_ mask h n) (a:=(at_ mask h n,k)) (λi Q=>by simp[u,Yn Q]) (by simp[w]) (by simp[u]) (mask+1) (by lia);let L:=(p.map (λy:Nat×Nat=>y.2)).trans<|I.pm.cons k;rw[List.range_succ];exact L.trans (XY _ _).symm
 .let#[J,s]:=j5.mp N;rw[u]at s;split at s
  .rename_i c;cases s;rw[R];exact#[n,c.symm,λm l=>?_];let q:=T m l;change owner.getD (at_ mask h m) (!0)≠() at q;rw[own _<|BG mask h m]at q;let#[b,e]:=Option.ne_none_iff_exists'.mp q;exact#[(at_ mask h m,b),keep _<|j5.mpr #[BG mask h m,e],qx]
  .let#[M,b3,b4]:=I.rc z<|j5.mpr #[J,s];exact#[M,b3,λm l=>let #[y,A,ey]:=b4 m l;#[y,keep y A,ey]]
theorem zm(F:Msk mask){hs}(c:hs.length<=mask):∀cx owner k,hs.drop k=cx->LayInv mask hs owner k->k<=hs.length->
  ∃o,(cx.foldl (λa h=>do
   let (owner,k) <-a
   let j <-layClean.free mask owner (turns mask) (bits h%(mask+1))<|bits h
   pure (owner.setIfInBounds j<|!k,k+1))<|!(owner,k))=!(o,hs.length)/\LayInv mask hs o hs.length
 |[],owner,k,hd,I,hk=>by
  obtain rfl:k=hs.length:=by have:=YU List.length hd;simp at this;lia
  exact#[owner,qx,I]
 |h::cx,owner,k,hd,I,hk=>by
  have f:k<hs.length:=by have:=YU List.length hd;simp at this;lia
  have g:hs.getD k 0=h:=by have:=YU (·[0]?) hd;simp at this;simp[this]
  let#[j,e,l]:=Ei F I (by lia);rw[g]at e;let#[o,i,b]:=zm F c cx _ (k+1) (by have:=YU List.tail hd;rwa [List.tail_drop]at this) l f;exact#[o,?_,b];rw[XA,<-i]
  congr 1
  show(layClean.free mask owner _ _ _).bind _=_;rw[show layClean.free mask owner _ (bits h%(mask+1)) (bits h)=!j from e];rfl
theorem AG{t:SetTable}{es:Ka}{w}{l:List α}(he:es=(l.map en).toArray)(F:Msk mask)(J:sizeAbove w=mask+1)(K:es.size<=mask):∃t' order Z,t.relaid (es.map (·.1)) w=!(t',order)/\Tb en t' (order.filterMap (es[·]?)) Z/\Reach en mask Z/\(Z.map (·.2)).Perm l/\t'.mask=mask/\t'.led=t.led/\order.toList.Perm (List.range es.size):=by
 let#[o,e,I]:=zm F (hs:=(es.map (·.1)).toList) (by simpa using K) _ (Array.replicate (mask+1) ()) 0 qx #[by simp,by
  rw[show lv _ mask=[]from List.filterMap_eq_nil_iff.mpr λj L=>by simp[Zp,Array.getElem?_replicate,Zf.mp L]];rfl,λz f=>by
  have:=(j5.mp f).2;simp[Zp,Array.getElem?_replicate]at this;split at this<;>cases this]<|YN _
 have q:(es.map (·.1)).toList.length=es.size:=by simp
 rw[q]at I e;have g:es.size=l.length:=by rw[he];simp
 have i:∀y∈lv o mask,∃a,l[y.2]?=!a:=λy c=>by
  have:=Zf.mp<|I.pm.mem_iff.mp<|Vj c;exact#[_,Yi<|by lia]
 have get:∀k:Nat,es[k]?=(l[k]?).map en:=λk=>by rw[he];simp
 exact#[{mask:=mask,place:=((lv o mask).map (·.1)).toArray,dummies:=#[[]],finger:=t.finger,led:=t.led,moves:=t.movedTo mask,plain:=t.plain},((lv o mask).map (·.2)).toArray,(lv o mask).filterMap λy=>(l[y.2]?).map (y.1,·),?_,#[?_,?_,qx,?_],?_,?_,qx,qx,I.pm]
 .delta relaid laid layClean;rw[List.drop_zero]at e;rw[J,Nat.add_sub_cancel,<-Array.foldl_toList,e];rfl
 .rw[Ug,<-List.filterMap_eq_map];exact YU _ (ig λy c=>by let#[a,e]:=i y c;rw[e];rfl)
 .rw[Ug];apply VL.mp;simp only[Array.toList_filterMap,List.filterMap_map];exact ig λy r=>by rw[Function.comp,get,Option.map_map];rfl
 .delta Rs;rw[List.pairwise_filterMap,lv,List.pairwise_filterMap];exact List.Pairwise.imp ?_ List.pairwise_lt_range;intro a b s x C y B u H v E;let#[_,_,rfl]:=Zd.mp C;let#[_,_,rfl]:=Zd.mp B;let#[_,_,rfl]:=Zd.mp H;let#[_,_,rfl]:=Zd.mp E;exact s
 .intro z f;let#[y,c,e]:=XO.mp f;let#[a,P,rfl]:=Zd.mp e;let#[n,b3,b4]:=I.rc y c;have N:(es.map (·.1)).toList.getD y.2 0=(en a).1:=by rw[YZ,ZC,Array.getElem?_map,get,P];rfl
  rw[N]at b3 b4;exact#[n,b3,λm h=>by
   let#[x,A,M]:=b4 m h;let#[b,O]:=i x A;exact#[(x.1,b),XO.mpr #[x,A,by rw[O];rfl],M]]
 .let p:=I.pm.filterMap (l[·]?);rw[g,List.filterMap_getElem?_range_length,List.filterMap_map]at p;rw[Ug];exact(VY<|ig λy r=>by rw[Option.map_map];exact(Option.map_id').symm).symm.trans p
open PySem.Spec PyProof.Rows
mutual
def jT(w:World):D->Int
 |.int i=>hashInt i
 |.str x=>hashStr w x
 |.tup xs=>reduceHash (Builtin.Tuple.tupleHashOf (qH w xs))
 |_=>0
def qH(w:World):List D->List Int
 |[]=>[]
 |d::ds=>jT w d::qH w ds
end
theorem qA w:∀ds,qH w ds=ds.map (jT w)
 |[]=>rfl
 |d::ds=>by rw[YF,<-qA];rfl
def hkN:Nat->D->Bool
 |_,.int _=>true
 |n+1,.tup xs=>xs.all<|hkN n
 |_,_=>false
def si{as}(r:Reads h u (b7 (.tup ds)) as):∃a o vs n,u=.ref a/\h.get? a=!o/\o.cls=.type "tuple"/\o.data=.seq vs n/\ReadsAll h vs.toList (c5 ds) as:=by
 cases r with
 |tuple h1 h2 h3 h4=>exact#[_,_,_,_,qx,h1,h2,h3,h4]
def hV(h:hkN n d):(∃i,d=.int i)\/∃m ds,n=m+1/\d=.tup ds/\∀x∈ds,hkN m x:=by cases n<;>cases d<;>first|exact .inl #[_,rfl]|exact .inr #[_,_,rfl,rfl,Yh.mp h]|cases h
def t8{M:Nat->Value->D->Prop}(hi:∀m i t,M m (.int i t) (.int i))(p:∀m a o vs k ds,h.get? a=!o->o.cls=.type "tuple"->o.data=.seq vs k->Paired (M m) vs.toList ds->M (m+1) (.ref a) (.tup ds)) n:∀{d}{u}{as},hkN n d->Reads h u (b7 d) as->M n u d:=by
 induction n with
 |zero=>intro d u as c r;obtain⟨i,rfl⟩|⟨_,_,e,_⟩:=hV c;cases r;exact hi _ _ _;cases e
 |succ n ih=>
  intro d u as c r;obtain⟨i,rfl⟩|⟨m,ds,e,rfl,j⟩:=hV c
  .cases r;exact hi _ _ _
  .cases e;clear c;let#[a,o,vs,k,rfl,w,s,q,g]:=si r;exact p n a o vs k ds w s q ?_;clear r;generalize vs.toList=l at g;induction ds generalizing l as with
   |nil=>cases g;exact .nil
   |cons d ds f=>cases g with|cons a b=>exact .cons (ih (j d Ye) a)<|f (λx m=>j x<|Yd _ m) _ b
def Gq{as}{Q}(B:A.units+8<cLine)(K:hkN 8 d)(r:Reads s.heap u (b7 d) as)(h:∀tk,s.toks<=tk->Q (jT w d) {s with toks:=tk}):wpAny (model prog w) A (pyHash u) Q E s:=by
 exact t8 (M:=λn u d=>∀A E k Q,A.units+n<cLine->(∀tk,k<=tk->Q (jT w d) {s with toks:=tk})->wpAny _ A (pyHash u) Q E {s with toks:=k}) (λm i t A E k Q _ h=>wpAny_pyHash_int<|h _<|ZP _) (λn a o P m j H L y J A E k Q B h=>?_) 8 K r A E s.toks Q B h;have g:Shared.TypeIs {s with toks:=k} (.ref a) "tuple":=#[o,H,L]
 delta pyHash pyHashByItsType;exact Yc<|wpAny_cRoomFor_or (.inr<|by lia)<|Yc<|XS g F.slot_tuple_hash.lookup ?_;rw[Yn<|by rw[beq_builtin_none];exact Yk];exact Yc<|XS g F.slot_tuple_hash.lookup ?_;exact Yc<|wpAny_callSpecialIfBoundUnlessNone?_slot g F.slot_tuple_hash<|Xr F.slot_tuple_hash g F.entry_tuple_hash ?_<|F.args_tuple_hash_1 _;show wpAny _ _ (Builtin.Tuple.tupleItemsOf _>>=_) _ _ _;exact Yc<|wpAny_tupleItemsOf H y<|Yc ?_;rw[<-Array.forIn_toList];exact Ve _ (λcx b l=>∃left tk,b.toList++left.map (jT w)=j.map (jT w)/\Paired _ cx left/\k<=tk/\l={s with toks:=tk}) _ ?_ ?_ _ _ #[j,k,qx,J,Yp _,qx]
 .rintro x cx b l ⟨left,tk,e,p,f,rfl⟩;cases p with
  |cons O N=>
   exact Yc<|O _ _ tk _ (by show A.units+1+n<cLine;lia) λI q=>Yj #[_,_,?_,N,YA f q,qx];simpa using e
 .rintro b l ⟨left,tk,e,p,f,rfl⟩;cases p;rw[List.map_nil,Zc]at e;show wpAny _ _ (retInt _) _ _ _;rw[e,<-qA];exact wpAny_ret_mkInt ?_;change ∀tk,k<=tk->Q (reduceHash _) {s with toks:=tk}at h;generalize Builtin.Tuple.tupleHashOf _=z at h;show wpAny _ _ (if(decide _&&decide _) then _ else _) Q E _;delta reduceHash at h;have c:k<=tk+1:=by lia
  by_cases C:(decide (-(2:Int)^63<=z)&&decide (z<2^63))=true
  .rw[Yl C]at h ⊢;exact Yj<|h _<|by first|exact f|exact c
  .rw[Yn C]at h ⊢;exact Yc<|wpAny_rule<|Yj<|h _<|by first|exact f|exact c
def Iq{g:Value->Sem Bool}{k:Bool->Sem (ForInStep (Option Bool×Unit))}{b}{vs:Array Value}(p:Paired (λu _=>∀Q,Q b s->wpAny (model prog w) A (g u) Q E s) vs.toList ds)(e:k b=pure (.yield ((),PUnit.unit))){Q:Option Bool×Unit->Shared->Prop}(h:Q ((),PUnit.unit) s):wpAny (model prog w) A (forIn vs ((),PUnit.unit) λu _=>g u>>=k) Q E s:=by
 rw[<-Array.forIn_toList];exact Ve _ (λcx r a=>r=((),PUnit.unit)/\a=s/\∃left:List D,Paired _ cx left) _ ?_ ?_ _ _ #[qx,qx,ds,p]
 .rintro x cx r a ⟨rfl,rfl,left,c⟩;cases c with
  |cons i f=>exact Yc<|i _<|by rw[e];exact Yj #[qx,qx,_,f]
 .rintro r a ⟨rfl,rfl,_⟩;exact h
def wz{as}(g:hkN 8 d)(r:Reads s.heap u (b7 d) as)(h:Q true s):wpAny (model prog w) A (eqIsQuiet 8 u) Q E s:=by
 exact t8 (M:=λn u _=>∀Q,Q true s->wpAny _ A (eqIsQuiet n u) Q E s) (λm i t Q h=>by rw[eqIsQuiet_byValue _ qx];exact Yj h) (λn a o f m l c j b p Q h=>?_) 8 g r Q h;have e:s.TypeIs (.ref a) "tuple":=#[o,c,j]
 delta eqIsQuiet;exact Yc<|XS e F.slot_tuple_eq.lookup ?_;exact Yc<|Vg e isSubtype_tuple_tuple ?_;exact Yc<|wpAny_seqItems c b ?_;exact Yc<|Iq p rfl<|Yj h
def B5{as}(f:hkN 8 d)(r:Reads s.heap u (b7 d) as)(h:Q true s):wpAny (model prog w) A (hashByValue 8 u) Q E s:=by
 exact t8 (M:=λn u _=>∀Q,Q true s->wpAny _ A (hashByValue n u) Q E s) (λm i t Q h=>by rw[hashByValue_scannable _ qx];exact Yj h) (λn a o e m l c g b p Q h=>?_) 8 f r Q h;have j:s.TypeIs (.ref a) "tuple":=#[o,c,g]
 delta hashByValue;exact Yc<|XS j F.slot_tuple_hash.lookup ?_;exact Yc<|wpAny_seqItems c b ?_;exact Yc<|Iq p rfl<|Yj h
def Eu{as}(f:hkN 8 d)(r:Reads s.heap u (b7 d) as)(h:Q false s):wpAny (model prog w) A (ofAClassStatement 8 u) Q E s:=by
 exact t8 (M:=λn u _=>∀Q,Q false s->wpAny _ A (ofAClassStatement n u) Q E s) (λm i t Q h=>by delta ofAClassStatement;exact Yj h) (λn a o e m l c g b p Q h=>?_) 8 f r Q h;have j:s.TypeIs (.ref a) "tuple":=#[o,c,g]
 delta ofAClassStatement;exact Yc<|wpAny_typeOf j ?_;show wpAny _ _ ((if("tuple" == "tuple") then pure true else isSubtype (.type "tuple")<|.type "tuple")>>=_) Q E s;rw[Yl<|by decide];exact Yc<|Yj ?_;exact Yc<|wpAny_seqItems c b ?_;exact Yc<|Iq p rfl<|Yj h
def Cr n:∀{d e},hkN n d->hkN n e->eqd d e->d=e:=by
 induction n with
 |zero=>
  intro d e b a h;obtain⟨i,rfl⟩|⟨_,_,e,_⟩:=hV b
  .obtain⟨j,rfl⟩|⟨_,_,e,_⟩:=hV a
   .exact YU D.int<|eq_of_beq h
   .cases e
  .cases e
 |succ n ih=>
  intro d e b a h;obtain⟨i,rfl⟩|⟨_,f,q,rfl,l⟩:=hV b<;>obtain⟨j,rfl⟩|⟨_,y,p,rfl,g⟩:=hV a
  .exact YU D.int<|eq_of_beq h
  .cases h
  .cases h
  .cases q;cases p;clear b a;change PyData.eqvAll (c5 f) (c5 y) at h
   congr 1
   induction f generalizing y with
   |nil=>cases y with
    |nil=>rfl
    |cons _ _=>cases h
   |cons d s c=>cases y with
    |nil=>cases h
    |cons e o=>
     let h:=Bool.and_eq_true_iff.mp<|show(PyData.eqv (b7 d) (b7 e)&&PyData.eqvAll (c5 s) (c5 o)) from h;rw[ih (l d Ye) (g e Ye) h.1,c o (λx m=>l x<|Yd _ m) (λx m=>g x<|Yd _ m) h.2]
def wy(d:D):Bool:=hkN 8 d&&okN 8 d&&(match d with|.tup _=>true|_=>false)
def Mx:D->Bool
 |.str _=>true
 |.int _=>true
 |_=>false
structure KeyAt (h:Heap) (u:Value) (d:D):Prop where
 hk:hkN 8 d=true
 ok:okN 8 d=true
 rf:∃a,u=.ref a
 rd:∃as,Reads h u (b7 d) as
def KeyAt.mk'(k:wy d)(r:∃as,Reads h u (b7 d) as):KeyAt h u d:=by
 delta wy at k;rw[Yr,Yr]at k;exact#[k.1.1,k.1.2,?_,r];let#[as,r]:=r;cases d with
 |tup xs=>let#[a,_,_,_,e,_]:=si r;exact#[a,e]
 |_=>cases k.2
def KeyAt.keeps(k:KeyAt h u d)(a:∀b o,h.get? b=!o->h'.get? b=!o):KeyAt h' u d:=#[k.hk,k.ok,k.rf,let #[as,r]:=k.rd;#[as,PyProof.Rows.Reads.keeps a r]]
def JW{x y}{dx}(e:A.units+64<cLine)(hx:KeyAt s.heap x dx)(a:KeyAt s.heap y dy)(h:Q (eqd dx dy) s):wpAny (model prog w) A (eqBool x y) Q E s:=by let#[f,c]:=hx.rd;let#[bs,b]:=a.rd;let#[l,p]:=cU 8 dx hx.ok;exact Vv _ _ A s x y _ _ c b l (cU 8 dy a.ok).1 ?_ prog w E Q h;have:min (b7 dx).depth (b7 dy).depth<=(b7 dx).depth:=XT _ _;lia
def FL{x}{dx}(hx:KeyAt s.heap x dx){a}(f:∀y∈a,∃d,KeyAt s.heap y d)(h:Q false s):wpAny (model prog w) A (searchCouldBeSeen x a) Q E s:=by
 let#[l,i]:=hx.rd;delta searchCouldBeSeen;exact Yc<|Ve _ (λcx r c=>r=((),PUnit.unit)/\c=s/\∀y∈cx,∃d,KeyAt s.heap y d) _ ?_ ?_ _ _ #[qx,qx,f]
 .rintro y cx r c ⟨rfl,rfl,j⟩;let#[d,e]:=j y Ye;let#[bs,g]:=e.rd;have b:=λy m=>j y<|Yd _ m
  dsimp only;split
  all_goals
   exact VZ (λ_=>Yj #[qx,qx,b]) λ_=>?_;exact Yc<|wz hx.hk i<|Yc<|wz e.hk g<|Yc<|Eu hx.hk i<|Yc<|Eu e.hk g<|Yj #[qx,qx,b]
 .rintro r c ⟨rfl,rfl,_⟩;exact Yj h
abbrev VD:=Value×D
abbrev Es:=Array<|Int×Value
def El(sc:Bool)(h:Heap)(u:VD):Prop:=if sc then(∃i t,u=(.int i t,.int i))\/∃x t,u=(.str x t,.str x)else KeyAt h u.1 u.2
def kOf:D->Key
 |.str x=>.inr x
 |.int i=>.inl i
 |_=>.inl 0
def El.is{u v}(a:El true h u)(b:El true h' v):k4 (kOf v.2) u.1↔u.2=v.2:=by obtain⟨i,t,rfl⟩|⟨i,t,rfl⟩:=a<;>obtain⟨j,c,rfl⟩|⟨j,c,rfl⟩:=b<;>simp[kOf,k4,Value.isInt,Value.isStrOf]
open Classical in
def ins(L:List VD)(p:VD):List VD:=if p.2∈L.map (·.2)then L else L++[p]
abbrev en(w:World)(p:VD):Int×Value:=(jT w p.2,p.1)
def TSe(w:World)(o:Obj)(L:List VD):Prop:=∃e a t Z,o.ExactSet/\o.data=.set e a t/\Tb (en w) t e Z/\Reach (en w) t.mask Z/\(t.mask=7/\Z.length<=4\/t.mask=31/\Z.length<=18)/\(w.params.followText "set-order"=false->t.led)/\(Z.map (·.2)).Perm L
section
variable{o:Obj}{es:Es}{t:SetTable}{Z:List (Nat×VD)}{L:List VD}{h0:Heap}
def Tb.siz(T:Tb (en w) t es Z):es.size=Z.length/\t.fill=Z.length:=by delta SetTable.fill;rw[T.pl,T.es,T.nod];simp
def Tb.fits(T:Tb (en w) t es Z)(h:Z.length<=t.mask):t.fits es.size:=by delta SetTable.fits;rw[T.siz.1,T.siz.2,T.pl];simpa using h
theorem Mj(T:Tb (en w) t es Z)(R:Reach (en w) t.mask Z)(h1:Z.length<=18)(h2:t.mask=7/\Z.length<=5\/t.mask=31):t.tooFull=false/\(t.mask=7/\Z.length<=4\/t.mask=31/\Z.length<=18)\/t.tooFull/\sizeAbove (grown es.size)=31+1/\∃t' order e,t.relaid (es.map (·.1)) (grown es.size)=!(t',order)/\Tb (en w) t' (order.filterMap (es[·]?)) e/\Reach (en w) t'.mask e/\(e.map (·.2)).Perm (Z.map (·.2))/\t'.mask=31/\t'.led=t.led/\order.toList.Perm (List.range es.size)/\e.length=es.size:=by
 delta tooFull;rw[T.siz.1,T.siz.2];by_cases c:t.mask=7/\Z.length=5
 .have f:sizeAbove (grown Z.length)=31+1:=by rw[c.2];decide+kernel
  let#[t',order,e,a,b,r,p,m,l,q]:=AG (t:=t) (en:=en w) (l:=Z.map (·.2)) (T.es.trans<|by rw[YD];rfl) (.inr qx) f (by rw[T.siz.1,c.2];decide);exact .inr #[by rw[c.1,c.2];rfl,f,t',order,e,a,b,by rwa[m],p,m,l,by rwa[<-T.siz.1],by have:=p.length_eq;simpa using this]
 .exact .inl #[YB ?_,by lia];rcases h2 with⟨h,_⟩|h<;>rw[h]<;>lia
def lA(k1:h.get? a=!o)(k3:o.data=.set es ep t)(e:Es)t':(h.update a (Obj.putSet e t')).get? a=some {o with data:=.set e (ep+1) t' }:=by
 let z:=Xu (Obj.putSet e t') k1<|by rw[putSet_of e t' k3];rfl
 rwa [putSet_of e t' k3]at z
theorem nF{x}{N}(M:s.heap.get? a=!o)(hd:o.data=.set es ep t)(T:Tb (en w) t es Z)(q:t.mask%2=1)(P:t.fits es.size)(O:∀z∈Z,KeyAt s.heap z.2.1 z.2.2)(hx:KeyAt s.heap x.1 x.2)(hu:A.units+64<cLine)(hN:BC t.mask Z (en w x).1 N){Q}(q1:∀z∈Z,z.2.2=x.2->Q (.there ()) s)(S:(∀l,l<N->∀z∈Z,z.1=at_ t.mask (en w x).1 l->z.2.2≠x.2)->Q (.free (at_ t.mask (en w x).1 N) false) s):∀(f n:Nat) (st:Option Probe),st.getD (t.probeStart (en w x).1)=cB t.mask (fL t.mask<|st0 t.mask (en w x).1) n->n<=N->N-n<f->(∀l,l<n->∀z∈Z,z.1=at_ t.mask (en w x).1 l->z.2.2≠x.2)->
   wpAny (model prog w) A (setSearchFrom a x.1 (en w x).1 true f st) Q E s
 |0,n,st,_,_,h,_=>by lia
 |f+1,n,st,e,hn,hf',hg=>by
  delta setSearchFrom;exact Yc<|Zn M hd P ?_;dsimp only;rw[show t.gaveWay=false by delta SetTable.gaveWay;rw[q];rfl];simp only[ZQ,XV];rw[e];let#[m,m1,m2,m3,H]:=oO T (hashAt:=λi=>(es[i]?.map (·.1)).getD 0) hN (10*turns t.mask) n hn (by have:=hN.1;lia);have g:∀l,l<m->∀z∈Z,z.1=at_ t.mask (en w x).1 l->z.2.2≠x.2:=λl hl z j ez=>by
   rcases Nat.lt_or_ge l n with c|c
   .exact hg l c z j ez
   .let#[i,i1,i2]:=m3 l c hl z j ez;exact λc=>i2<|by rw[i1];exact YU (jT w) c
  obtain⟨rfl,H⟩|⟨i,z,j,m5,m6,m7,Y,m9,I⟩:=H
  .generalize K:t.probe _ (en w x).1 _=y;cases K.symm.trans H;exact Yj<|S g
  .generalize K:t.probe _ (en w x).1 _=y;cases K.symm.trans I;let d2:=O z j;let#[ra,R]:=d2.rf;have J:∀(U B:Sem SetFound),wpAny (model prog w) A B Q E s->wpAny (model prog w) A (if((not<|t.led)) then(do
     let b <-searchCouldBeSeen x.1 (List.map (λx=>x.snd) (Array.filter (λy=>y.fst == (en w x).1) es).toList)
     if b then U else B)else B) Q E s:=by
    intro U B hZ;split
    .exact Yc (FL hx (λy hy=>?_) (by rw[Yn Yk];exact hZ));let#[p,hp,rfl]:=Yg.mp hy;let u:=(Array.mem_filter.mp (Array.mem_toList_iff.mp hp)).1;rw[T.es]at u;let#[z',C,rfl]:=Yg.mp (List.mem_toArray.mp u);exact#[_,O z' C]
    .exact hZ
   exact J _ _ ?_;rw[Y];dsimp only;exact Yc (Xa (JW hu d2 hx (Yc (Zn M hd P ?_))));dsimp only;cases L:eqd z.2.2 x.2 with
   |true=>exact Yj (q1 z j (Cr 8 d2.hk hx.hk L))
   |false=>
    rw[VA,Yn Yk,show t.sameMemory t.moves t.mask=!true by delta sameMemory;simp];dsimp only;rw[Yl qx,m7];dsimp only;rw[Y];dsimp only;rw[R];exact Yc (wpAny_isSame_ref_self (Yc (Yj ?_)));rw[Yl qx];dsimp only;rw[Yn Yk];exact nF M hd T q P O hx hu hN q1 S f (m+1) _ qx (by lia) (by lia) λl hl y X ey=>?_;rcases Nat.lt_or_ge l m with c|c
    .exact g l c y X ey
    .obtain rfl:l=m:=by lia
     intro c;obtain rfl:y=z:=T.uniq X j (ey.trans m6.symm);rw[c,show eqd x.2 x.2 from SeqAt.eqv_refl _ (cU 8 x.2 hx.ok).1]at L;cases L
theorem gQ{x}{N}(T:Tb (en w) t es Z)(R:Reach (en w) t.mask Z)(hN:BC t.mask Z (en w x).1 N)b:∃c,Tb (en w) (if b=true then(t.put (at_ t.mask (en w x).1 N)).1 else{ (t.put (at_ t.mask (en w x).1 N)).1 with plain:=false}) (insertAt es (t.put (at_ t.mask (en w x).1 N)).2 (en w x)) c/\Reach (en w) t.mask c/\(c.map (·.2)).Perm (x::Z.map (·.2))/\c.length=Z.length+1:=by
 let#[u,v,rfl,a]:=T.put hN.2.1 x;exact#[_,?_,R.put hN,by simp,by simp;lia];cases b
 .exact#[a.pl,a.es,a.nod,a.rs]
 .exact a
structure Wrt (s:Shared) (a:Addr) (Q:Bool->Shared->Prop) (tk:Nat) (es1:Es) (t1:SetTable):Prop where
 z:es1.size<=18
 f:t1.fits es1.size=true
 d:t1.tooFull=false/\Q true {s with heap:=s.heap.update a (Obj.putSet es1 t1),toks:=tk}\/t1.tooFull=true/\sizeAbove (grown es1.size)=31+1/\∃t' order,t1.relaid (es1.map (·.1)) (grown es1.size)=!(t',order)/\(order.filterMap (es1[·]?)).size=es1.size/\t'.fits es1.size=true/\order.toList.Perm (List.range es1.size)/\Q true {s with heap:=(s.heap.update a (Obj.putSet es1 t1)).update a (Obj.putSet (order.filterMap (es1[·]?)) t'),toks:=tk}
def ue{x}(X:s.heap.get? a=!o)(S:TSe w o L)(hL:∀p∈L,El sc h0 p)(hx:El sc h0 x)(old:∀b u,h0.get? b=!u->s.heap.get? b=!u)(hu:A.units+64<cLine)(hn:(ins L x).length<=18)(q:∀b o' h' tk,s.toks<=tk->TSe w o' (ins L x)->h'.get? a=!o'->(∀c,c≠a->h'.get? c=s.heap.get? c)->Q b {s with heap:=h',toks:=tk}):wpAny (model prog w) A (setAdd a x.1) Q E s:=by
 let#[I,ep,t,Z,oe,Y,T,R,sz,led,pm]:=id S;have hm:Z.length+1<=t.mask/\t.mask<=31/\t.mask%2=1/\Msk t.mask:=by rcases sz with⟨h,_⟩|⟨h,_⟩<;>rw[h]<;>exact#[by lia,by decide,qx,by first|exact .inl rfl|exact .inr qx]
 let hf:=T.fits (by lia);have lz:Z.length=L.length:=by have:=pm.length_eq;simpa using this
 have mem:∀{z},z∈Z->z.2∈L:=λm=>pm.mem_iff.mp<|Vj m
 have mem':∀{e},e∈I.toList->∃p∈L,e=en w p:=λ{e} m=>by
  rw[T.es]at m;let#[z,O,e]:=Yg.mp m;exact#[z.2,mem O,e.symm]
 let#[N,hN]:=GX hm.2.2.2 (XW hm.1) (en w x).1;have P:=λp J e tk H=>by
  have hi:ins L x=L:=Yl<|Yg.mpr #[p,J,e];exact q false o s.heap tk H (by rwa[hi]) X λc _=>rfl
 have new:(∀p∈L,p.2≠x.2)->∀tk,s.toks<=tk->∀b:Bool,Wrt s a Q tk (insertAt I (t.put _).2 _) (if b then(t.put<|at_ t.mask (en w x).1 N).1 else{ (t.put<|at_ t.mask (en w x).1 N).1 with plain:=false}):=λnw tk H b=>by
  have hi:ins L x=L++[x]:=Yn λm=>by let#[p,J,e]:=Yg.mp m;exact nw p J e
  rw[hi]at hn q;rw[Yo,YM]at hn;let#[Z1,T1,R1,p1,l1]:=gQ T R hN b;have hmk:(if b=true then(t.put<|at_ t.mask (en w x).1 N).1 else{ (t.put<|at_ t.mask (en w x).1 N).1 with plain:=false}).mask=t.mask:=by cases b<;>rfl
  have hld:(if b=true then(t.put<|at_ t.mask (en w x).1 N).1 else{ (t.put<|at_ t.mask (en w x).1 N).1 with plain:=false}).led=t.led:=by cases b<;>rfl
  generalize (if b=true then(t.put<|at_ t.mask (en w x).1 N).1 else{ (t.put<|at_ t.mask (en w x).1 N).1 with plain:=false})=K at T1 hmk hld ⊢;generalize insertAt I (t.put<|at_ t.mask (en w x).1 N).2 (en w x)=g at T1 ⊢;have pL:∀{Z2:List<|Nat×VD},(Z2.map (·.2)).Perm (Z1.map (·.2))->(Z2.map (·.2)).Perm (L++[x]):=λp=>(p.trans<|p1.trans<|pm.cons _).trans (XY _ _).symm
  exact#[by rw[T1.siz.1];lia,T1.fits<|by lia,?_];have off:∀c,c≠a->(s.heap.update a<|Obj.putSet g K).get? c=s.heap.get? c:=λc hc=>ZY _ _ _ _ hc
  let g1:=lA X Y g K;rcases Mj T1 (by rw[hmk];exact R1) (by lia) (by rw[hmk];lia)with⟨c,sz1⟩|⟨c,sa,t',B,Z2,r1,T2,R2,p2,m2,l2,o2,z2⟩
  .exact .inl #[c,q true {o with data:=.set g (ep+1) K} _ tk H #[g,_,K,Z1,oe,qx,T1,by rw[hmk];exact R1,sz1,λh=>hld.trans<|led h,pL<|Vc _] g1 off]
  .have e2:(B.filterMap (g[·]?)).size=g.size:=T2.siz.1.trans z2;exact .inr #[c,sa,t',B,r1,e2,by rw[<-e2];exact T2.fits (by rw[m2,z2,T1.siz.1];lia),o2,q true {o with data:=.set (B.filterMap (g[·]?)) (ep+2) t' } _ tk H #[_,_,t',Z2,oe,rfl,T2,R2,.inr #[m2,by rw[z2,T1.siz.1];lia],λh=>l2.trans (hld.trans (led h)),pL p2] (lA g1 qx _ t') λc hc=>(ZY _ _ _ _ hc).trans (off c hc)]
 delta setAdd;exact Xa (Yc ?_);cases sc with
 |true=>
  have hk:k4 (kOf x.2) x.1=true:=(hx.is hx).mpr qx;have hh:(a8 prog w).hash (kOf x.2)=(en w x).1:=by obtain⟨i,t,rfl⟩|⟨i,t,rfl⟩:=hx<;>rfl
  have hsc:∀{u},El true h0 u->u.1.scannable=true:=λh=>by obtain⟨i,t,rfl⟩|⟨i,t,rfl⟩:=h<;>rfl
  have hel:ElemsOf (a8 prog w) I.toList:=λe m=>by
   let#[p,J,rfl]:=mem' m;have:=hL p J;exact#[#[kOf p.2,(this.is this).mpr qx,by obtain⟨i,t,e⟩|⟨i,t,e⟩:=this<;>rw[e]<;>rfl],hsc this]
  exact(a8 prog w).pyHash hk ?_;rw[hh];delta setAddHashed setAddHashedIn;exact Xa (Yc (Zn (s:={s with toks:=s.toks+1}) X Y hf ?_));dsimp only;rw[byScan_of (knd:=a8 prog w) (hsc hx) (by rw[T.siz.1];delta scanBound;lia) hel,Yl qx];delta setAddByScan;exact Yc (Yc (wpAny_rule (Yc ?_)));let sn:=@wpAny_setScan_of prog w Key _ (a8 prog w) A E {s with toks:=s.toks+1} a o I ep t x.1 (kOf x.2) true;rw[hh]at sn;exact sn hk X Y hf hel ?_;cases hr:List.findIdx? (λe=>(a8 prog w).is (kOf x.2) e.2) I.toList with
  |some j=>
   let#[hj,hpj,_]:=List.findIdx?_eq_some_iff_getElem.mp hr;let#[p,J,e]:=mem' (Xf hj);rw[e]at hpj;exact Yj (Yj (P p J (((hL p J).is hx).mp hpj) _ (ZP _)))
  |none=>
   have nw:∀p∈L,p.2≠x.2:=λp J c=>by
    let#[z,O,rfl]:=Yg.mp (pm.mem_iff.mpr J);have:=List.findIdx?_eq_none_iff.mp hr (en w z.2) (by rw[T.es];exact Yg.mpr #[z,O,qx]);rw[show(a8 prog w).is (kOf x.2) z.2.1=true from((hL _ J).is hx).mpr c]at this;cases this
   let W:=new nw (s.toks+1) (ZP _);have fs:t.freeSlot (en w x).1=!(at_ t.mask (en w x).1 N,false):=by
    obtain⟨m,m1,m2,m3,⟨rfl,m4⟩|⟨i,z,O,m5,m6,m7,m8,m9,_⟩⟩:=oO T (hashAt:=λ_=>(en w x).1+1) hN (10*turns t.mask) 0 (YN _) (by have:=hN.1;lia)
    .delta SetTable.freeSlot;rw[show t.probe (λ_=>(en w x).1+1) (en w x).1 (t.probeStart (en w x).1)=_ from m4];rfl
    .lia
   have ly:layNew t I (en w x).1 x.1=(insertAt I (t.put (at_ t.mask (en w x).1 N)).2 (en w x),(t.put (at_ t.mask (en w x).1 N)).1,false,false):=by delta layNew;rw[fs];delta SetTable.orStandIn;let f:=(W true).f;rw[Yl qx]at f;dsimp only;rw[show(jT w x.2,x.1)=en w x from rfl,f];rfl
   dsimp only;rw[ly];dsimp only;exact Yc (show wpAny _ _ (pure PUnit.unit) _ _ _ from Yj ?_);generalize insertAt I (t.put (at_ t.mask (en w x).1 N)).2 (en w x)=g,(t.put (at_ t.mask (en w x).1 N)).1=M at W ⊢;have C:∀b:Bool,wpAny (model prog w) A (do
     storeSet a g (if b=true then M else{M with plain:=false})
     if((not<|false)&&(if b=true then M else{M with plain:=false}).tooFull)=true then do
       (match(relayAll (if b=true then M else{M with plain:=false}) g (SetTable.grown g.size)).2.2 with|true=>rule "set.scan.the-table-gave-way" |false=>pure PUnit.unit)
       storeSet a (relayAll (if b=true then M else{M with plain:=false}) g (SetTable.grown g.size)).1 (relayAll (if b=true then M else{M with plain:=false}) g (SetTable.grown g.size)).2.1
       pure (!true)
      else pure (!true)) (λr s'=>wpAny (model prog w) A (match r with|some added=>pure added|none=>setAddHashedIn a x.1 (en w x).1 99999) Q E s') E {s with toks:=s.toks+1}:=by
    intro b;let#[z1,f1,fin]:=W b;generalize (if b=true then M else{M with plain:=false})=K at f1 fin ⊢;exact Yc (Vz (s:={s with toks:=s.toks+1}) X Y ?_ (by rw[YT];lia));rcases fin with⟨c,q⟩|⟨c,sa,t',B,r1,r2,r3,r4,q⟩
    .rw[c];exact Yj (Yj q)
    .have ra:relayAll K g (SetTable.grown g.size)=(B.filterMap (g[·]?),t',false):=by delta relayAll;rw[r1];dsimp only;rw[show coversAll B g.size=true from List.isPerm_iff.mpr r4,r2,r3];rfl
     rw[c,ra];exact Yc (Yj (Yc (Vz (s:={s with heap:=s.heap.update a (Obj.putSet g K),toks:=s.toks+1}) (lA X Y g K) qx (Yj (Yj q)) (by rw[YT];show(B.filterMap (g[·]?)).size<=_;lia))))
   split
   .exact Yc ?_;rw[hashByValue_scannable 8 (hsc hx)];exact Yj (C (plainKind x.1))
   .exact Yc (Yj (C true))
 |false=>
  have U:KeyAt s.heap x.1 x.2:=KeyAt.keeps hx old;let#[as,rx]:=U.rd;exact Gq (by lia) U.hk rx λtk H=>?_;let#[ax,er]:=U.rf;delta setAddHashed setAddHashedIn;exact Xa (Yc (Zn (s:={s with toks:=tk}) X Y hf ?_));dsimp only;rw[show byScan x.1 I=false by rw[er];rfl,Yn Yk];exact Yc ?_;delta setSearch;exact nF (s:={s with toks:=tk}) X Y T hm.2.2.1 hf (λz O=>KeyAt.keeps (hL _ (mem O)) old) U hu hN (λz O e=>?_) (λga=>?_) 100000 0 () qx (YN _) (by have:=hN.1;delta turns at this;lia) (λl hl=>absurd hl (Nat.not_lt_zero _))
  .exact Yj (P _ (mem O) e tk H)
  .let W:=new (λp J c=>by
    let#[z,O,rfl]:=Yg.mp (pm.mem_iff.mpr J);let#[n,n1,n2]:=R z O;rw[show(en w z.2).1=(en w x).1 from YU (jT w) c]at n1 n2;rcases Nat.lt_trichotomy n N with l|l|l
    .exact ga n l z O n1.symm c
    .exact hN.2.1 z O (by rw[<-l];exact n1.symm)
    .let#[y,my,ey]:=n2 N l;exact hN.2.1 y my ey) tk H
   exact Yc (Zn (s:={s with toks:=tk}) X Y hf ?_);dsimp only;have C:wpAny (model prog w) A (do
     storeSet a (insertAt I (t.put (at_ t.mask (en w x).1 N)).2 (en w x)) (if true=true then(t.put (at_ t.mask (en w x).1 N)).1 else{ (t.put (at_ t.mask (en w x).1 N)).1 with plain:=false})
     if((not<|false)&&(if true=true then(t.put (at_ t.mask (en w x).1 N)).1 else{ (t.put (at_ t.mask (en w x).1 N)).1 with plain:=false}).tooFull)=true then(do
      setRelay a (grown (I.size+1))
      pure true)else pure true) Q E {s with toks:=tk}:=by
    let#[z1,f1,fin]:=W true;have e6:(insertAt I (t.put (at_ t.mask (en w x).1 N)).2 (en w x)).size=I.size+1:=by let#[Z1,T1,_,_,l1]:=gQ T R hN true;rw[T1.siz.1,T.siz.1,l1]
    generalize insertAt I (t.put (at_ t.mask (en w x).1 N)).2 (en w x)=g at z1 f1 fin e6 ⊢;generalize (if true=true then(t.put (at_ t.mask (en w x).1 N)).1 else{ (t.put (at_ t.mask (en w x).1 N)).1 with plain:=false})=K at f1 fin ⊢;rw[<-e6];exact Yc (Vz (s:={s with toks:=tk}) X Y ?_ (by rw[YT];lia));rcases fin with⟨c,q⟩|⟨c,sa,t',B,r1,r2,r3,r4,q⟩
    .rw[c];exact Yj q
    .rw[c];let g1:=lA X Y g K;exact Yc ?_;delta setRelay;exact Yc (Zn (s:={s with heap:=s.heap.update a (Obj.putSet g K),toks:=tk}) g1 qx f1 ?_);dsimp only;rw[Yn (by rw[sa];show ¬(32 > 2^24);decide),r1];exact Yc ?_;show wpAny _ _ (if((B.filterMap λk=>g[k]?).size != g.size)=true then _ else pure ((B.filterMap λk=>g[k]?),t')) _ _ _;rw[Yn (by rw[r2];simp)];exact Yj (Vz (s:={s with heap:=s.heap.update a (Obj.putSet g K),toks:=tk}) g1 qx (Yj q) (by rw[YT];show(B.filterMap (g[·]?)).size<=_;lia))
   split
   .exact Yc (B5 (s:={s with toks:=tk}) U.hk rx C)
   .exact Yc (Yj C)
end
def vo{l:List α}h:(l[i]::l.eraseIdx i).Perm l:=by rw[List.eraseIdx_eq_take_drop_succ];exact List.perm_middle.symm.trans<|VY ?_;rw[<-ZK,VH]
open A in
theorem zP next:∀f k left (out:Array α),left.length<=f->(pickOrder.go next f k left out).toList.Perm (out.toList++left)
 |0,k,left,out,h=>by
  obtain rfl:left=[]:=Zq.mp (by lia);rw[Zc];exact Vc _
 |f+1,k,left,out,h=>by
  delta pickOrder.go;split
  .rename_i x a;let#[b,e]:=Ym.mp a;exact(zP next f (k+1) _ _<|by rw[List.length_eraseIdx_of_lt b];lia).trans ?_;rw[Array.toList_push,Zh,<-e];exact List.Perm.append_left _<|vo b
  .rename_i a;obtain rfl:left=[]:=Zq.mp ((Nat.eq_zero_or_pos _).resolve_right λz=>by
    have:=Xv.mp a;have:=Uu (next k) z;lia)
   rw[Zc]
def xG(a:n≠0){Q}(h:∀i d,i<n->Q i {s with drawn:=d}):wpAny M A (choose src n) Q E s:=
 λc p b=>#[a,h _ _<|Uu _<|Nat.pos_of_ne_zero a]
theorem zh:∀n xs s (Q:List α->Shared->Prop),xs.length=n->(∀ys d,ys.Perm xs->Q ys {s with drawn:=d})->wpAny M A (drawOrder n xs) Q E s
 |0,xs,s,Q,hl,h=>by
  obtain rfl:=Zq.mp hl;exact Yj<|h [] s.drawn<|Vc _
 |n+1,[],s,Q,hl,h=>nomatch hl
 |n+1,x::r,s,Q,hl,h=>by
  delta drawOrder;exact Yc<|xG (by simp) λi d a=>?_;rw[Yi a];exact Yc<|zh n _ _ _ (by rw[List.length_eraseIdx_of_lt a];simpa using hl) λys b p=>Yj<|h _ b<|(p.cons _).trans<|vo a
theorem eJ:Slot "set_iterator" "__next__" "set_iterator.__next__":=.of (owner := "set_iterator") (n := "__next__") (by rw[typeLookup_type,builtinLookup_eq_fast];kernel_rfl) (by decide+kernel) (by decide+kernel) (by decide+kernel) (by first|exact .inl (by decide+kernel)|exact .inr _)<|by rw[isSubtype_type];kernel_rfl
def qK:entryFor table "set_iterator.__next__"=some Builtin.«set_iterator.__next__»:=entryFor_of_tree (by kernel_rfl)
def tQ x:argsOk "set_iterator.__next__" #[[x],[]]:=by delta argsOk;kernel_rfl
theorem lE:Slot "set_iterator" "__iter__" "set_iterator.__iter__":=.of (owner := "set_iterator") (n := "__iter__") (by rw[typeLookup_type,builtinLookup_eq_fast];kernel_rfl) (by decide+kernel) (by decide+kernel) (by decide+kernel) (by first|exact .inl (by decide+kernel)|exact .inr _)<|by rw[isSubtype_type];kernel_rfl
def qU:entryFor table "set_iterator.__iter__"=some Builtin.«dict_keyiterator.__iter__»:=entryFor_alias (id' := "dict_keyiterator.__iter__") (by kernel_rfl) (by rfl) (by decide+kernel) (by kernel_rfl)
def uJ x:argsOk "set_iterator.__iter__" #[[x],[]]:=by delta argsOk;kernel_rfl
def sL:entryFor table "set.__iter__"=some Builtin.«frozenset.__iter__»:=entryFor_alias (id' := "frozenset.__iter__") (by kernel_rfl) (by rfl) (by decide+kernel) (by kernel_rfl)
section
variable{S x:Addr}{o:Obj}{es:Es}{t:SetTable}{Z:List (Nat×VD)}{L:List VD}
structure Wk (w:World) (o:Obj) (es:Es) (ep:Nat) (t:SetTable) (Z:List (Nat×VD)):Prop where
 oe:o.ExactSet
 dt:o.data=.set es ep t
 tb:Tb (en w) t es Z
 ft:t.fits es.size=true
 led:w.params.followText "set-order"=false->t.led=true
 sm:es.size<=18
def uP(h:Q (w.params.followText "set-order") s):wpAny (model prog w) A setsByText Q E s:=Yc<|wpAny_askSetting<|Yj h
def Sl(w:World)(S:Addr)(es:Es)(ep:Nat)(t:SetTable)(us:List Value)(slot i:Nat):Prop:=w.params.followText "set-order"/\us=(pickOrder (w.params.setOrder S ep) es).toList.map (·.2)\/w.params.followText "set-order"=false/\((not<|t.plain)&&decide (es.size > 1))=false/\SetTable.below t.place slot=i/\us=es.toList.map (·.2)
def ItS(w:World)(S x I:Addr)(o:Obj)(es:Es)(ep:Nat)(t:SetTable)(us:List Value)(i:Nat)(h:Heap):Prop:=h.get? S=!o/\∃f b,h.get? I=!b/\b.cls=.type "set_iterator"/\b.data=.fields #[[f,.int i 0,.ref S,.int es.size 0,.int ep 0]]/\((∃slot:Nat,f=.int slot 0/\Sl w S es ep t us slot i)\/∃e c,∃a:List Nat,f=.ref x/\h.get? x=!e/\e.data=.seq (a.map λ(j:Nat)=>rawInt j).toArray c/\(∀j∈a,j<es.size)/\us=a.map λj=>(es.getD j (0,.none)).2)
def uQ{c}{Q:c->Shared->Prop}(f:A.handled=())(h:∀e h',(∃o,h'.get? e=!o/\o.cls=.type "StopIteration")->(∀b o,s.heap.get? b=!o->h'.get? b=!o)->E (.ref e) {s with heap:=h' }):wpAny (model prog w) A (newExc (.type "StopIteration") []>>=λe=>raiseNew e) Q E s:=by exact Yc ?_;simp[newExc,newTuple];exact Yc<|Xz (Yc<|wpAny_of_eq (by first|rfl|(simp[firstArgMember];rfl)) ?_) (by size_fits);exact Xz ?_ (by size_fits);simp only[raiseNew];exact Yc<|wpAny_handled ?_;rw[f];exact Yc<|Yj<|wpAny_throw<|h _ _ #[_,Yq _ rfl,rfl] λb o e=>Yf _<|Yf _ e
theorem Dc(W:Wk w o es ep t Z)(f:s.heap.get? S=!o){slot}(D:Sl w S es ep t us slot i){Q}(h1:∀v a,us[i]?=!v->Sl w S es ep t us a (i+1)->Q (!(v,a)) s)(h2:us[i]?=()->Q () s):wpAny (model prog w) A (setNext S slot i ep) Q E s:=by
 exact Yc<|Zn f W.dt W.ft ?_;exact Yc<|uP ?_;rcases D with⟨h,rfl⟩|⟨h,l,B,rfl⟩
 .rw[h,Yl qx,Yn<|by simp];exact Yc ?_;exact Yc<|Zn f W.dt W.ft ?_;exact Yc<|uP ?_;rw[h,Yl qx];exact Yc<|wpAny_askSetting<|Yj<|Yj ?_;show Q (((pickOrder (w.params.setOrder S ep) es)[i]?).map λe=>(e.2,slot)) s;rw[Yt,ZC]at h1 h2;cases q:(pickOrder _ es)[i]? with
  |none=>exact h2<|by rw[q];rfl
  |some e=>exact h1 e.2 slot (by rw[q];rfl)<|.inl #[h,qx]
 .rw[h,Yn Yk];show wpAny _ _ (if(((not<|t.plain))&&decide _) then _ else _) _ _ _;rw[l,Yn Yk];exact Yc ?_;show wpAny _ _ (if(((not<|t.led))&&(not<|es.isEmpty)) then _ else _) _ _ _;rw[W.led h,Yn<|by simp];exact Yj ?_
  rw[B];exact Yj ?_;rw[Yt,ZC]at h1 h2;let T:=W.tb;have p:es[i]?=(Z[i]?).map λz=>en w z.2:=by rw[T.es];simp
  have C:t.place[i]?=(Z[i]?).map (·.1):=by rw[T.pl];simp
  rw[p]at h1 h2;rw[p,C];cases q:Z[i]? with
  |none=>exact h2<|by rw[q];rfl
  |some z=>
   exact h1 z.2.1 _ (by rw[q];rfl)<|.inr #[h,l,?_,qx];let#[b,rfl]:=Ym.mp q;have e:Z=Z.take (i+1)++Z.drop (i+1):=(VH _ _).symm;let r:=Vb.mp T.rs;let u:=T;rw[e]at u;rw[u.below (λy m=>?_) λy m=>?_,ZT,Nat.min_eq_left b]
   .let#[k,g,rfl]:=Zw m;rw[List.getElem_take];rw[ZT]at g;rcases Nat.lt_or_ge k i with c|c
    .exact ZO<|r k i _ b c
    .obtain rfl:k=i:=by lia
     exact ZS _
   .let#[k,g,rfl]:=Zw m;rw[List.getElem_drop];exact r i _ b _<|by lia
def yK(nh:A.handled=())(W:Wk w o es ep t Z)(hS:S≠I)(hx:x≠I)(st:ItS w S x I o es ep t us i s.heap){Q:Ko}(q1:∀v h',us[i]?=!v->ItS w S x I o es ep t us (i+1) h'->(∀b,b≠I->h'.get? b=s.heap.get? b)->Q (!v) {s with heap:=h' })(N:us[i]?=()->∀h',(∀b o,b≠I->s.heap.get? b=!o->h'.get? b=!o)->Q () {s with heap:=h' }):wpAny (model prog w) A (pyNext<|.ref I) Q E s:=by
 let#[C,f,oI,l,U,m,D]:=st;have hT:s.TypeIs (.ref I) "set_iterator":=#[oI,l,U]
 have q:∀j v {M}{fs}{h:Heap},h.get? I=!M->M.data=.fields fs->∃u,(h.update I<|Obj.mapFields (·.setIfInBounds j v)).get? I=!u/\u.data=.fields _/\u.cls=M.cls/\∀b,b≠I->(h.update I<|Obj.mapFields (·.setIfInBounds j v)).get? b=h.get? b:=λj v M fs h e d=>
  #[_,Xu _ e<|Obj.isFreed_of_fields (Obj.data_mapFields d _),Obj.data_mapFields d _,Obj.cls_mapFields _ _,λb g=>ZY _ _ _ _ g]
 exact Yc (wpAny_attempt (wpAny_callSpecial?_slot hT eJ (Xr eJ hT qK ?_ (tQ _))));exact Yc (Yj (Yc (wpAny_fieldsOf l m ?_)));exact Yc (Yc (Zn C W.dt W.ft (Yj ?_)));rw[Yn (by simp)];rcases D with⟨slot,rfl,D⟩|⟨oT,c,p,rfl,B,H,g,rfl⟩
 .show wpAny _ _ (setNext S ((slot:Int).toNat) ((i:Int).toNat) ((ep:Int).toNat)>>=_) _ _ s;exact Yc (Dc W C D (λv a hv D'=>?_) λhn=>?_)
  .show wpAny _ _ (setField (.ref I) 0 (rawInt (a:Nat))>>=_) _ _ s;exact Yc (Xw l m (by simp) ?_);let#[u,z,y,a3,K]:=q 0 (rawInt (a:Nat)) l m;exact Yc (Xw z y (by simp) ?_);let#[L,b1,b2,b3,b4]:=q 1 (rawInt ((i:Int)+1)) z y;have k:∀b,b≠I->_:=λb g=>(b4 b g).trans (K b g)
   exact Yj #[_,qx,Yj (q1 v _ hv #[(k S hS).trans C,.int a 0,L,b1,b3.trans (a3.trans U),b2.trans (by simp[rawInt]),.inl #[a,qx,D']] k)]
  .show wpAny _ _ (setField (.ref I) 2 .none>>=_) _ _ s;exact Yc (Xw l m (by simp) ?_);let#[u,z,y,a3,K]:=q 2 .none l m;exact uQ (s:={s with heap:=_}) (by simpa using nh) λe J #[O,Y,X] P=>?_;exact Yc (Vg (s:={s with heap:=J}) (b:=true) (T := "StopIteration") #[O,Y,X] isSubtype_stop (Yj (N hn J λb o g e=>P b o ((K b g).trans e))))
 .show wpAny _ _ (seqItems? (.ref x)>>=_) _ _ s;exact Yc (wpAny_seqItems B H ?_);show wpAny _ _ (match(p.map λ(j:Nat)=>rawInt (j:Int)).toArray[((i:Int)).toNat]? with|_=>_) _ _ s;rw[Zj,VG,Yt];rw[Yt]at q1 N;cases R:p[i]? with
  |some j=>
   let hl:=g j (YR R);show wpAny _ _ (setNextDrawn S ((j:Int).toNat) ((ep:Int).toNat)>>=_) _ _ s;rw[Zj,Zj];delta setNextDrawn;exact Yc (Yc (Zn C W.dt W.ft ?_));dsimp only;rw[Yn (by simp),Vd hl];exact Yj (Yc (Xw l m (by simp) ?_));let#[L,b1,b2,b3,b4]:=q 1 (rawInt ((i:Int)+1)) l m;exact Yj #[_,qx,Yj (q1 _ _ (by rw[R];simp[Array.getD,hl]) #[(b4 S hS).trans C,.ref x,L,b1,b3.trans U,b2.trans (by simp[rawInt]),.inr #[oT,c,p,qx,(b4 x hx).trans B,H,g,qx]] b4)]
  |none=>
   show wpAny _ _ (setField (.ref I) 0 (rawInt 0)>>=_) _ _ s;exact Yc (Xw l m (by simp) ?_);let#[u,z,y,a3,K]:=q 0 (rawInt 0) l m;exact Yc (Xw z y (by simp) ?_);let#[L,b1,b2,b3,b4]:=q 2 .none z y;exact uQ (s:={s with heap:=_}) (by simpa using nh) λe J #[O,Y,X] P=>?_;exact Yc (Vg (s:={s with heap:=J}) (b:=true) (T := "StopIteration") #[O,Y,X] isSubtype_stop (Yj (N (by rw[R];rfl) J λb o g e=>P b o (((b4 b g).trans (K b g)).trans e))))
def CJ(K:A.handled=())(W:Wk w o es ep t Z)(M:S≠I)(hx:x≠I):Walks prog w A I [I,S,x] [I] us.length (λi v=>us[i]?=!v) (ItS w S x I o es ep t us) where
 sub:=λb g=>by simp at g;simp[g]
 frame:=λi h l a B=>by
  let#[O,f,u,J,C,R,D]:=a;exact#[B S (by simp) _ O,f,u,B I (by simp) _ J,C,R,D.imp id ?_];rintro⟨N,c,q,e,y,r⟩;exact#[N,c,q,e,B x (by simp) _ y,r]
 item:=λi s Q E P a j=>yK K W M hx a (λv l m p k=>j v l s.toks m p λb o g e=>(k b λz=>g<|by simp[z]).trans e) λL=>by rw[Yi P]at L;cases L
 done:=λs Q E a j=>yK K W M hx a (λv l m=>by rw[Zm<|Yp _]at m;cases m) λn l k=>j l s.toks λb o g e=>k b o (λz=>g<|by simp[z]) e
 self:=λi s Q E a j=>by
  let#[_,f,u,J,C,_]:=a;have H:s.TypeIs (.ref I) "set_iterator":=#[u,J,C]
  exact wpAny_pyIter_slot H lE<|Xr lE H qU (show wpAny _ _ _ _ _ s from Yj #[_,qx,"set_iterator",_,H,eJ.lookup,j])<|uJ _
def EW(W:Wk w o es ep t Z)(c:s.heap.get? S=!o){Q:Kv}(q:∀us x I h' d,us.Perm (es.toList.map (·.2))->(∀b o,s.heap.get? b=!o->h'.get? b=!o)->s.heap.objs.size<=I->x≠I->(x=S\/s.heap.objs.size<=x)->ItS w S x I o es ep t us 0 h'->Q (.ref I) {s with heap:=h',drawn:=d}):wpAny (model prog w) A (pyIter<|.ref S) Q E s:=by
 have B:s.TypeIs (.ref S) "set":=#[o,c,W.oe.1]
 let f:=Yw c;exact wpAny_pyIter_slot B F.slot_set_iter<|Xr F.slot_set_iter B sL ?_<|F.args_set_iter_1 _;delta Builtin.«frozenset.__iter__»;exact Yc<|Yc<|Yj<|Yj ?_;delta setEpoch setDrawn;exact Yc<|Yc<|Yc<|Zn c W.dt W.ft<|Yj<|Yj ?_;exact Yc<|Yc<|Zn c W.dt W.ft<|Yc<|uP<|Yj ?_;show wpAny _ _ (if((not<|w.params.followText "set-order")&&((not<|t.plain)&&decide _)) then _ else _) _ _ s;cases z:((not<|w.params.followText "set-order")&&((not<|t.plain)&&decide (es.size > 1)))with
 |false=>
  rw[Yn Yk];exact Yc<|Yj<|Yc<|Yc<|Zn c W.dt W.ft<|Yj ?_;exact Yc<|Xz<|Yj #[_,qx,"set_iterator",_,#[_,Yq _ qx,qx],eJ.lookup,?_];have u:∀us,Sl w S es ep t us 0 0->ItS w S S s.heap.objs.size o es ep t us 0 (s.heap.push {cls:=.type "set_iterator",data:=.fields #[[.int 0 0,.int 0 0,.ref S,.int es.size 0,.int ep 0]]}):=λus h=>#[Yf _ c,.int 0 0,_,Yq _ qx,qx,qx,.inl #[0,qx,h]]
  cases l:w.params.followText "set-order" with
  |true=>exact q _ S _ _ s.drawn ((show(pickOrder _ es).toList.Perm es.toList by simpa[pickOrder]using zP _ es.size 0 es.toList #[[]]<|by simp).map _) (λb o e=>Yf _ e) (Yp _) (Yz f) (.inl qx)<|u _<|.inl #[l,qx]
  |false=>
   rw[l]at z;exact q _ S _ _ s.drawn (Vc _) (λb o e=>Yf _ e) (Yp _) (Yz f) (.inl qx)<|u _<|.inr #[l,z,(show Tb (en w) t es ([]++Z)from W.tb).below (λ_ m=>nomatch m) λ_ _=>YN _,qx]
 |true=>
  rw[Yl qx];exact Yc<|zh es.size (List.range es.size) _ _ (Zs) λa d p=>?_;exact Yc<|wpAny_newTuple ?_ (by rw[Ya,p.length_eq,Zs];have:=W.sm;rw[YT];lia);exact Yc<|Yc<|Zn (Yf _ c) W.dt W.ft<|Yj ?_;exact Yc<|Xz<|Yj #[_,qx,"set_iterator",_,#[_,Yq _ qx,qx],eJ.lookup,?_];have y:∀o,(s.heap.push o).objs.size=s.heap.objs.size+1:=λo=>Xm ..
  have g:∀j∈a,j<es.size:=λj m=>Zf.mp<|p.mem_iff.mp m
  exact q _ s.heap.objs.size _ _ d ?_ (λb o e=>Yf _<|Yf _ e) (by rw[y];exact ZP _) (by rw[y];exact Yz<|ZS _) (.inr<|Yp _) #[Yf _<|Yf _ c,.ref s.heap.objs.size,_,Yq _ qx,qx,qx,.inr #[_,_,a,qx,Yf _<|Yq _ qx,qx,g,qx]];exact(p.map _).trans<|VY ?_;apply Xn;intro i;by_cases h:i<es.size<;>simp[h,Array.getD]
def FT(c:s.TypeIs (.ref S) "set")(h:Q false s):wpAny (model prog w) A (Builtin.List.listLengthHint (.ref S)) Q E s:=by
 delta Builtin.List.listLengthHint;exact Yc<|XS c F.slot_set_len.lookup ?_;generalize a:("set.__len__")=i
 wp_delta
 rw[show splitId i=!("set","__len__")from by subst a;decide+kernel];subst a;exact Yc<|Vg (T := "set") c sub_set_self ?_;exact VZ (λz=>absurd z<|by decide) λ_=>?_;exact VZ (λ_=>?_) λz=>absurd (by decide+kernel) z;exact Yc<|wpAny_typeOf c<|Yj h
theorem yw(nh:A.handled=())(W:Wk w o es ep t Z)(T:s.heap.get? S=!o){Q:Kl}(q:∀us h' d tk,us.Perm (es.toList.map (·.2))->(∀b o,s.heap.get? b=!o->h'.get? b=!o)->Q us {s with heap:=h',drawn:=d,toks:=tk}):wpAny (model prog w) A (collect (.ref S)) Q E s:=by
 let h:=Yw T;delta collect;exact Yc (wpAny_runValue (ZM entry_proto_collect' ?_));exact Yc (m:=newList []) (wpAny_newList (Yj #[Vq _ (by decide+kernel),ZM entry_list_iadd' ?_]));rw[Xh (show plainId "list.__iadd__" by decide+kernel) #[[.ref s.heap.objs.size,.ref S],[]]];show wpAny _ _ (Builtin.List.listExtendWith (.ref s.heap.objs.size) (.ref S) (.ref s.heap.objs.size)) _ _ _;have X:(s.heap.push (seqObj "list" #[[]] 0)).get? s.heap.objs.size=!(seqObj "list" #[[]] 0):=Yq _ qx;have M:(s.heap.push (seqObj "list" #[[]] 0)).get? S=!o:=Yf _ T;have hk:∀b u,s.heap.get? b=!u->(s.heap.push (seqObj "list" #[[]] 0)).get? b=!u:=λb u e=>Yf _ e
 have hsz:(s.heap.push (seqObj "list" #[[]] 0)).objs.size=s.heap.objs.size+1:=Xm ..;have hT:Shared.TypeIs {s with heap:=s.heap.push (seqObj "list" #[[]] 0)} (.ref S) "set":=#[o,M,W.oe.1]
 have K:∀b u,s.heap.get? b=!u->b<s.heap.objs.size:=λb u e=>Yw e
 have R:s.heap.objs.size≠S:=Xl h;change wpAny (model prog w) A.in1 _ _ _ {s with heap:=s.heap.push (seqObj "list" #[[]] 0)};generalize s.heap.push (seqObj "list" #[[]] 0)=hp,s.heap.objs.size=l at *;delta Builtin.List.listExtendWith;exact Yc (wpAny_typeOf hT ?_);have g1:Builtin.List.listSameRef (.ref l) (.ref S)=false:=by simp[Builtin.List.listSameRef,R]
 have g2:(Value.type "set" == Value.type "list")=false:=by decide
 have g3:(Value.type "set" == Value.type "tuple")=false:=by decide
 simp only[g1,g2,g3,XU,ZQ,XV];exact Yc (EW (s:={s with heap:=hp}) W M λus x I C d p B hI hx H st=>?_);have g:l<I:=by have:hp.objs.size<=I:=hI;lia
 have J:x≠l:=by rcases H with z|z;exact λc=>R (c.symm.trans z);exact λc=>by have:hp.objs.size<=x:=z;lia
 exact Yc (Xa (FT (s:={s with heap:=C,drawn:=d}) #[o,B _ _ M,W.oe.1] ?_));exact VZ (λv=>?_) (λz=>absurd (by decide+kernel) z);exact Yc (wpAny_rule (Yc ?_));show wpAny _ _ (updateSeq l (·.push .none)>>=λv=>updateSeq l (·.pop)) _ _ _;exact Yc (wpAny_updateSeq (B _ _ X) qx ?_);let y:=Xu (Obj.mapSeq (·.push Value.none)) (B _ _ X) qx;exact wpAny_updateSeq (hz:=by seq_fits) y qx ?_;let N:=Xu (Obj.mapSeq (·.pop)) y qx;have oth:∀b,b≠l->((C.update l (Obj.mapSeq (·.push Value.none))).update l (Obj.mapSeq (·.pop))).get? b=C.get? b:=λb f=>by
  rw[ZY _ _ _ _ f,ZY _ _ _ _ f]
 exact Yj #[VP F.plain_extend_loop _,?_];let Y:=CJ (prog:=prog) (A:=A.in1) (us:=us) (by simpa using nh) W (Yz (ZU h g)) hx;have P:∀b∈[I,S,x],b≠l:=λb f=>by
  simp only[Ys,Xs,or_false]at f;rcases f with rfl|rfl|rfl
  .exact Xl g
  .exact Yz h
  .exact J
 have ul:us.length<=sizeLine:=by have:=p.length_eq;have:=W.sm;rw[YT];simp at *;lia
 exact codeAny_extend_loopS Y.toS ul l (λz=>P l z qx) (.ref l) us.length 0 _ #[[]] _ (Nat.sub_zero _) (YN _) (Y.frame 0 _ _ st λb f u e=>(oth b (P b f)).trans e) N (ItemsOf.nil _) λO a c' U L j=>?_;exact Yc (wpAny_load L ?_);show wpAny _ _ (pure a.toList) _ _ _;have ea:a.toList=us:=by
  let#[C,h2]:=j;apply Xn;intro i;rw[ZC];by_cases hi:i<a.size
  .let e:=Vd hi;rw[e,h2 i _ e]
  .rw[Array.getElem?_eq_none (by lia),Zm (by lia)]
 rw[ea,Moved.eq_with U];exact Yj (q us O.heap d O.toks p λb o e=>U.heap b o (λz=>?_) ((oth b λc=>?_).trans (B b o (hk b o e))))
 .rcases Ys.mp z with rfl|z
  .exact Ze _ (K _ _ e)
  .rw[Yu.mp z]at e;exact Nat.lt_asymm g (K _ _ e)
 .subst c;exact Ze _ (K _ _ e)
end
end L2
namespace L2
open PySem PySem.Spec PyProof.Rows PySem.W PySem.SetTable
open Classical in
def stD(a:List D)(d:D):List D:=if d∈a then a else a++[d]
def bG(ds:List D):List D:=ds.foldl stD []
theorem jr ds:(bG ds).length<=ds.length:=by
 have:∀ds a:List D,(ds.foldl stD a).length<=a.length+ds.length:=by
  intro ds;induction ds with
  |nil=>intro a;exact Yp _
  |cons d ds ih=>
   intro a;exact YA (ih _) ?_;delta stD;split
   .rw[Yv];lia
   .simp;lia
 exact YA (this ds [])<|by simp
def zL:∀(xs L:List VD),(xs.foldl ins L).map (·.2)=(xs.map (·.2)).foldl stD (L.map (·.2))
 |[],L=>rfl
 |x::xs,L=>by
  rw[XA,zL,YF,XA]
  congr 1
  delta ins stD;split<;>simp
def tz:∀(xs L:List VD) {p},p∈xs.foldl ins L->p∈L\/p∈xs
 |[],L,p,h=>.inl h
 |x::xs,L,p,h=>by
  rcases tz xs _ h with h|h
  .delta ins at h;split at h
   .exact .inl h
   .rcases YO.mp h with h|h
    .exact .inl h
    .rw[Yu.mp h];exact .inr Ye
  .exact .inr<|Yd _ h
def DI:∀(xs L:List VD),L.length<=(xs.foldl ins L).length
 |[],L=>Yp _
 |x::xs,L=>by
  exact YA ?_<|DI xs _;delta ins;split
  .exact Yp _
  .rw[Yo];exact Vf _ _
section
variable{R:Kr}{G:Array GenState->Array GenState->Prop}{n:Nat}{P:Nat->Value->Prop}{St:Nat->Shared->Prop}
theorem BA(W:WalksS prog w A.in1 I fp wr G n P St)S(H:S∉fp)h0(c:∀b o,h0.get? b=!o->b∉S::wr)(xs:List VD)(hn:xs.length=n)(hx:∀p∈xs,El sc h0 p)(m:∀i v,P i v->∃p,xs[i]?=!p/\p.1=v)(L:(xs.foldl ins []).length<=18)(hu:A.units+70<cLine) :
  ∀k i s,n-i=k->i<=n->St i s->(∀b o,h0.get? b=!o->s.heap.get? b=!o)->(∃o,s.heap.get? S=!o/\TSe w o ((xs.take i).foldl ins []))->
   (∀s',Moved (S::wr) G s s'->(∃o,s'.heap.get? S=!o/\TSe w o (xs.foldl ins []))->R (.ok<|.ret .none) s')->
   codeAny (model prog w) A (.builtin "set.update.loop" #[[.ref S,.ref I],[]]) R s:=by
 let E:=λh=>H<|W.sub _ h
 have a:∀b∈wr,b∈S::wr:=λb l=>Yd _ l
 intro k;induction k with
 |zero=>
  intro i s hk hi j K #[o,Q,M] U;obtain rfl:i=n:=by lia
  exact ZM PyProof.Rows.F.entry_set_update_loop ?_;rw[Xh PyProof.Rows.F.plain_set_update_loop _];exact Yc<|W.done s _ _ j λs' L=>?_;exact Yj<|U s' (L.mono a) #[o,L.heap S o E Q,?_];rw[<-hn,ZW]at M;exact M
 |succ k ih=>
  intro i s hk hi j K #[o,Q,M] U;have B:i<n:=by lia
  exact ZM PyProof.Rows.F.entry_set_update_loop ?_;rw[Xh PyProof.Rows.F.plain_set_update_loop _];show wpAny _ A.in1 (pyNext (.ref I)>>=_) _ _ s;exact Yc<|W.item i s _ _ B j λv s' hP x O=>?_;let#[p,X,rfl]:=m i v hP;have f:∀b o,h0.get? b=!o->s'.heap.get? b=!o:=λb o e=>O.heap b o (λl=>c b o e<|a b l)<|K b o e
  have Y:ins ((xs.take i).foldl ins []) p=(xs.take<|i+1).foldl ins []:=by rw[Up,X,Uo];rfl
  have el:((xs.take<|i+1).foldl ins []).length<=18:=by exact YA (DI (xs.drop<|i+1) _) ?_;rw[<-Uo,VH];exact L
  show wpAny _ A.in1 (holding [p.1] (setAdd S p.1)>>=_) _ _ s';exact Yc<|Xa<|ue (O.heap S o E Q) M (λq mq=>hx q<|List.mem_of_mem_take<|(tz _ _ mq).resolve_left λz=>nomatch z) (hx p<|YR X) f (by show A.units+1+64<cLine;lia) (by rw[Y];exact el) λb Z h' tk u C T g=>?_;rw[Y]at C;exact Yj #[VP PyProof.Rows.F.plain_set_update_loop _,ih (i+1) _ (by lia) B (W.frame _ s' _ _ x u λb l o e=>(g b λh=>H<|by rw[<-h];exact l).trans e) (λb o e=>(g b λh=>c b o e<|by rw[h];exact Ye).trans<|f b o e) #[Z,T,C] λN y J=>?_];exact U N (Moved.trans W.gtrans ((O.mono a).then_heap u λb o l e=>(g b λh=>l<|by rw[h];exact Ye).trans e) y) J
end
def BD{l}{xs:List VD}{Q:Kv}(H:A.handled=())(y:s.heap.IsList l items)(hi:items.toList=xs.map (·.1))(hx:∀p∈xs,El sc s.heap p)(c:(xs.foldl ins []).length<=18)(S:A.units+80<cLine)(q:∀h' tk,(∃o,h'.get? s.heap.objs.size=!o/\TSe w o (xs.foldl ins []))->(∀b o,s.heap.get? b=!o->h'.get? b=!o)->Q (.ref s.heap.objs.size) {s with heap:=h',toks:=tk}):wpAny (model prog w) A (call (.type "set") [.ref l]) Q E s:=by
 exact uj y (λR J=>?_) q;let#[P,x,_]:=id y;have f:=Yw x;have a:(s.heap.push<|qh w).objs.size=s.heap.objs.size+1:=Xm ..;have h:∀b o,s.heap.get? b=!o->b∉s.heap.objs.size::[(s.heap.push<|qh w).objs.size]:=λb o e=>by
  have:=Yw e;rw[a];simp[Ys,Xs,Uf,not_or];exact#[Yz this,Yz<|ZO this]
 have u:xs.length=items.size:=by have:=YU List.length hi;simpa using this.symm
 exact BA ((Walks.list (show A.in1.in1.in1.handled=() by simpa using H) _ l (by rw[a];exact Yz<|ZO f) items).toS) s.heap.objs.size (by rw[a];simp;exact Xl f) s.heap h xs u hx (λi v B=>?_) c (by show A.units+1+1+70<cLine;lia) (items.size-0) 0 _ (by lia) (YN _)
  #[#[_,Yq _ rfl,rfl,rfl],(y.push _).push _] (λb o e=>Yf _<|Yf _ e) #[_,Yf _<|Yq _ rfl,#[[]],0,.fresh 0 0 _,[],#[rfl,rfl,rfl],rfl,#[rfl,rfl,rfl,.nil],(λ_ m=>nomatch m),.inl #[rfl,YN _],(λz=>by show((not<|w.params.followText "set-order"));rw[z];rfl),.refl _] λC c I=>?_
 .rw[<-ZC,hi,Yt]at B;exact Zd.mp B
 .let#[h',K,O,g,j]:=C;have M:=c.gens;have N:=c.drawn;have L:=c.os;subst M N L;exact J h' g I λb o e=>c.heap b o (h b o e)<|Yf _<|Yf _ e
def GY(w:World)(a:Addr)(vs:List V):Heap->Prop:=λh=>∃o L,h.get? a=!o/\TSe w o L/\Vals vs (L.map (·.1))
def rh(ds:List D):Prop:=(bG ds).length<=18/\((∀d∈ds,wy d)\/∀d∈ds,Mx d)
def At{u}(p:us.Perm u):∀{vs}{ds},Vals vs u->Reps K H vs ds->∃a b,Vals a us/\Reps K H a b/\b.Perm ds:=by
 induction p with
 |nil=>
  intro vs ds e c;exact#[vs,ds,e,c,Vc _]
 |cons x _ ih=>
  intro vs ds e c;cases e with
  |cons o f=>
   cases c with
   |cons b1 b2=>
    let#[a,b,j,i,h]:=ih f b2;exact#[_,_,.cons o j,.cons b1 i,h.cons _]
 |swap x y l=>
  intro vs ds e c;cases e with
  |cons o f=>
   cases f with
   |cons f z=>
    cases c with
    |cons b1 b2=>
     cases b2 with
     |cons b2 b3=>exact#[_,_,.cons f<|.cons o z,.cons b2<|.cons b1 b3,List.Perm.swap _ _ _]
 |trans _ _ ih1 ih2=>
  intro vs ds e c;let#[a,b,j,i,h]:=ih2 e c;let#[g,m,w,s,q]:=ih1 j i;exact#[g,m,w,s,q.trans h]
def p5{a:Type}{p}{as bs:List a}(h:as.Perm bs)(b:bs.all p):as.all p:=Yh.mpr λx m=>Yh.mp b x<|h.mem_iff.mp m
theorem vk(h:as.Perm bs)(ok:bL bs):bL as:=by delta bL at ok ⊢;simp only[Yr,YQ]at ok ⊢;let#[#[#[#[i,g],f],e],c]:=ok;exact#[#[#[#[by rwa[h.length_eq],p5 h g],?_],p5 h e],p5 h c];grind
def Inv.keptD{σ}{d'}(I:Inv X pz σ H s)(k:∀b u,s.heap.get? b=!u->h'.get? b=!u):Inv X pz σ H {s with heap:=h',drawn:=d',toks:=t' }:=by exact I.step (ch:=[]) (λy z=>nomatch z) (λb o y y y e y=>k b o e) (λb o y y y e y=>#[o.slots,k b o e]) (λy y y y n=>n) (λb o y e=>#[o,k b o e]) (λy y y e=>e) (λm a=>?_) (I.hok.kept k) I.bare;let#[o,c,f,h,r]:=a;exact#[o,c,f,k _ o h,r]
theorem AQ(hu:X.A.units+80<cLine)(hcalm:X.calm):CallR X (.type "set") (λxs H Q=>∃l vs ds j,xs=[.ref l]/\SqL X.K H l vs/\Same j H/\Reps X.K j vs ds/\rh ds /\
  ∀a e,H a=()->Reps X.K j e (bG ds)->Q (.ref a) (upd H a (.ext (GY X.w a e)))):=by
 intro pz s σ H xs us Q I r h;let#[l,vs,ds,j,rfl,R,hF,P,#[hn,ok],q]:=h;let#[u,rfl,Z]:=fB r;cases Z;let#[E,Y,O,hz]:=I.list R;have C:∃y:List VD,y.map (·.1)=E/\y.map (·.2)=ds/\∀p∈y,∃x,RelV x p.1/\Rep X.K j x p.2:=by
  clear ok hn R hz O q;induction Y generalizing ds with
  |nil=>cases P;exact#[[],qx,qx,λv m=>nomatch m]
  |cons a b ih=>
   cases P with
   |cons c d=>
    let#[y,rfl,rfl,h]:=ih _ d;exact#[(_,_)::y,qx,qx,λp m=>by
     rcases Ys.mp m with rfl|m
     .exact#[_,a,c]
     .exact h p m]
 let#[y,rfl,rfl,J]:=C;have T:(y.foldl ins []).map (·.2)=bG _:=zL y [];obtain⟨N,he⟩:∃N,∀p∈y,El N s.heap p:=by
  rcases ok with ok|ok
  .exact#[false,λp m=>?_];let#[x,g,f]:=J p m;let k:=ok _<|Vj m;exact KeyAt.mk' k<|Rep.reads I 8 (f.same hF) ?_ g;delta wy at k;rw[Yr,Yr]at k;exact k.1.2
  .exact#[true,λp m=>?_];let#[x,g,f]:=J p m;let k:=ok _<|Vj m;let#[u,d]:=p;cases d with
   |int i=>cases f;let#[t,rfl]:=g;exact .inl #[_,_,qx]
   |str i=>cases f;let#[t,rfl]:=g;exact .inr #[_,_,qx]
   |_=>cases k
 exact BD (I.ok.hd hcalm) O.isList qx he (by have:=YU List.length T;simp at this;lia) hu λh' U #[o,S,hT] kp=>?_;have B:∀L:List VD,(∀p∈L,p∈y)->∃e,Vals e (L.map (·.1))/\Reps X.K j e (L.map (·.2)):=by
  intro L;induction L with
  |nil=>exact λv=>#[[],.nil,.nil]
  |cons p L ih=>
   intro h;let#[x,g,f]:=J p<|h p Ye;let#[vs,h3,h4]:=ih λq m=>h q<|Yd _ m
   exact#[x::vs,.cons g h3,.cons f h4]
 let#[e,g,f]:=B (y.foldl ins []) λp m=>(tz _ _ m).resolve_left λz=>nomatch z
 rw[T]at f;exact#[.ref s.heap.objs.size,_,I.laid (o:=.ext _) kp (Yp _) #[#[o,_,S,hT,g],#[o,S],λha hb #[o',L,g1,g2,g3] M=>#[o',L,M _ g1,g2,g3]],qx,q _ e (I.hok.fresh<|Yp _) f]
theorem tJ(O:X.A.units+64<cLine)(hcalm:X.calm):CallR X (.builtin "sorted") (λxs H Q=>∃a vs ds c,xs=[.ref a]/\H a=!.ext (GY X.w a vs)/\Same c H/\Reps X.K c vs ds/\bL ds /\
  ∀l f,H l=()->Reps X.K c f (aZ ds)->Q (.ref l) (upd H l (.lst f))):=by
 intro pz s σ H xs g Q I r h;let#[a,vs,ds,c,rfl,hH,hF,P,ok,q]:=h;let#[u,rfl,C]:=fB r;cases C;let#[#[o,L,S,#[es,ep,t,Z,M,Y,T,R,sz,led,E],B],_]:=I.hok a _ hH;let lz:=T.siz.1;exact nv<|yw (by have:=I.ok.hd hcalm;simpa using this) #[M,Y,T,T.fits<|by lia,led,by lia] S λg h' d z p N=>?_;have J:g.Perm (L.map (·.1)):=by exact p.trans<|List.Perm.trans (VY ?_)<|E.map _;rw[T.es,YD];simp
 let#[y,b,h1,x,m]:=At J B P;let e:=iQ m (gw ok).2.1;exact vi (I.keptD N) (x.same hF) h1 (vk m ok) O λl i s' U b1 b2 b3 I'=>#[.ref l,_,I',qx,q l _ U ?_]
 rw[<-e];by_cases j:b=[]
 .subst j;rw[show i=[]from Zq.mp b2];exact .nil
 .rw[<-b3];exact x.perm j i b1
def kq(fa:Dd):DF->Option (List D):=λa=>match fa a with
 |some (.lst ds)=>open Classical in if rh ds/\bL (bG ds) then !aZ (bG ds) else ()
 |_=>()
theorem vq(N:X.A.units+80<cLine)(hcalm:X.calm)(R:Gl X "sorted")(O:X.mg "sorted"=())(y:Gl X "set")(u:X.mg "set"=())(g:PDR X e fa)(hs:starEach [e] X.env=[(false,eval e X.env)]:=by rfl)(c:starEach [.Call (.Name "set" p2) [e] [] pos2] X.env=[(false,eval (.Call (.Name "set" p2) [e] [] pos2) X.env)]:=by rfl)(s:(backTo pos<|starEach [] X.env).any (·.1)=false:=by rfl)(f:(backTo pos2<|starEach [] X.env).any (·.1)=false:=by rfl):PDO X (.Call (.Name "sorted" p) [.Call (.Name "set" p2) [e] [] pos2] [] pos) (asL<|kq fa):=
 (g_ (tJ (by lia) hcalm) R O mX (aQ (eD (AQ N hcalm) y u CL (aQ g bw hs) (by decide) (by decide) hs f) bw c) (by decide) (by decide) c s).imp λY H Q=>un7 λP F z ob h I k=>by
  delta asL kq at h;cases g:fa z with
  |none=>rw[g]at h;cases h
  |some U=>
  rw[g]at h;cases U with
  |lst ds=>
   dsimp only at h;split at h
   .rename_i ok;cases h;exact#[P,F,z,_,g,I,λx j C m J=>?_];let B:=I.evo m;let#[l,E,rfl,T,S]:=e_ B J;exact#[l,E,ds,j,qx,T,B.sub,S,ok.1,λa b L K=>?_];have i:Evo P j C j (upd C a<|.ext<|GY X.w a b):=Evo.side m.hp L;exact#[a,b,_,j,qx,aD,i.hp.sub,K,ok.2,λM Z q o=>k M j _ ((m.trans i).trans<|Evo.side i.hp q) #[#[(m.trans i).back I.toDHp q,(i.hp.free q).1],_,aD,o]]
   .cases h
  |_=>cases h
end L2
namespace L2
open PySem PySem.Spec PyProof.Rows
theorem Room.h80(r:Room k A):A.units+80<cLine:=by have:=r.un;lia
def CV(a:List D)(d:D):List D:=open Classical in if d∈a then a else a++[d]
theorem C8(ds:List D):∀acc:List D,(∀d,d∈ds.foldl CV acc↔d∈acc\/d∈ds)/\(acc.Nodup->(ds.foldl CV acc).Nodup):=by
 induction ds with
 |nil=>exact λacc=>#[λd=>by simp,λh=>h]
 |cons x r ih=>
  intro acc;rw[XA];by_cases c:x∈acc
  .rw[show CV acc x=acc from Yl c];let#[f,e]:=ih acc;exact#[λd=>(f d).trans #[λz=>z.imp id<|Yd _,λz=>?_],e];rcases z with z|z
   .exact .inl z
   .rcases Ys.mp z with rfl|z
    .exact .inl c
    .exact .inr z
  .rw[show CV acc x=acc++[x]from Yn c];grind
def b_:d∈bG ds↔d∈ds:=by have:=(C8 ds []).1 d;rw[show bG ds=ds.foldl CV []from rfl,this];simp
def iT ds:(bG ds).Nodup:=(C8 ds []).2 List.nodup_nil
def rkD(L:List D)(d:D):Nat:=(L.filter λx=>ltD x d).length
def w9(p:L.Perm M)d:rkD L d=rkD M d:=(p.filter _).length_eq
theorem w_:∀{L},Cmps n L->L.Pairwise (λa b=>ltD b a=false)->L.Nodup->d∈L->i7 d L=!rkD L d
 |[],_,_,_,h=>by cases h
 |x::r,hc,hs,nd,h=>by
  let f:=hc.1 x Ye;let#[s,j]:=Zi.mp hs;let#[n1,n2]:=YX.mp nd;have irr:ltD x x=false:=by
   cases q:ltD x x with
   |false=>rfl
   |true=>have:=(gG n x x f f<|hc.2 x Ye x Ye).as q;rw[q]at this;cases this
  delta i7 rkD;rcases Ys.mp h with rfl|hr
  .rw[Yl<|(c6 _ _<|hc.2 _ Ye _ Ye).mpr qx,List.filter_cons_of_neg<|by rw[irr];exact Yk];rw[List.filter_eq_nil_iff.mpr λy e=>by rw[s y e];exact Yk];rfl
  .have c:x≠d:=λz=>n1<|z ▸ hr
   let g:=h;have i:ltD x d:=by
    cases q:ltD x d with
    |true=>rfl
    |false=>exact absurd ((gG n x d f (hc.1 d g)<|hc.2 x Ye d g).an q<|s d hr) c
   rw[Yn λz=>c<|(c6 _ _<|hc.2 x Ye d g).mp z,List.filter_cons_of_pos (p:=λx=>ltD x d) i];rw[w_ (hc.sub λy e=>Yd _ e) j n2 hr];rfl
def yA(b:Cmps n ds)(hd:d∈ds):i7 d (aZ (bG ds))=!rkD (bG ds) d:=by
 have h:=b.sub λx a=>b_.mp a
 let p:=be<|bG ds;rw[w_ (h.perm p.symm) (fX h) ((p.nodup_iff).mpr<|iT ds)<|p.mem_iff.mpr<|b_.mpr hd,w9 p]
section
variable{l:Expr}
def yp(h:P a=!.lst vs)(r:Reps K F vs ds):xw K P (Ite K a) F (eB ds):=by intro B H e f i;have b:SqL K H a vs:=SqL.of<|f.pro _ _ h;exact#[λd u=>?_,λs=>#[vs,b,by rw[r.length];simpa[eB]using s]];let#[z,c,rfl]:=jK u;let#[v,g,w]:=r.get c;exact#[#[vs,v,b,g],λx A l=>?_];let#[q,y,p,rfl,rfl,m]:=l;have:=m vs b;rw[g]at this;cases this;let j:=Evo.laid f (o:=.tup [.int i,v]) p;exact#[_,j,.tup aD<|.cons .int<|.cons ((w.same e).same j.ext) .nil]
def gz(i:Nat):DF->Option (List D):=λρ=>(bu i ρ).map eB
def mK i(m:Gl X "enumerate")(j:X.mg "enumerate"=())(h:PE X l (c7 i))(hs:starEach [l] X.env=[(false,eval l X.env)]:=by rfl):PDI X (.Tuple elts kk tpos) (.Call (.Name "enumerate" p) [l] [] pos) (gz i):=PI.imp (yP m j (aQ h bw hs) hs) λs H R=>un7 λP F w x b I k=>by
 delta gz bu at b;split at b
 .rename_i g q;cases b;let#[v,f,a,rfl,_,u,c,e]:=I.at q;cases u with
  |lst vs=>exact#[_,f,a,qx,#[vs,SqL.of<|I.pro _ _ c],k _ F H (Evo.refl I.toDHp)<|yp c e]
  |_=>exact e.elim
 .rename_i g q;cases b;let#[v,f,o]:=I.at q;cases o with
  |lst c e=>exact#[_,f,_,qx,#[_,I.sub.seq c],k _ F H (Evo.refl I.toDHp)<|rm c e]
 .cases b
end
open PySem.W
def bs{α b:Type}{o}{f:α->Option b}{y}(h:o.bind f=!y):∃a,o=!a/\f a=!y:=by
 cases o with
 |none=>cases h
 |some a=>exact#[a,qx,h]
end L2
namespace L2
open PySem PySem.Spec PyProof.Rows
open PySem.W
def EX:List D->Option (List (List D))
 |[]=>![]
 |.lst d::r=>(EX r).map λl=>d::l
 |_=>()
def wt dss:EX (dss.map .lst)=!dss:=by
 induction dss with
 |nil=>rfl
 |cons d r ih=>show(EX _).map _=_;rw[ih];rfl
def tU(g:Dl):DF->Option OD:=λa=>(g a).bind λo=>(EX o).map .lst2
def All2.snoc{α c}{R}{as}{bs}{a:α}{b:c}(h:All2 R as bs)(r:R a b):All2 R (as++[a]) (bs++[b]):=by
 induction h with
 |nil=>exact .cons r .nil
 |cons q _ ih=>exact .cons q ih
def News(K:Kq)(H1 F H:Hp)(bs:List Addr)(dss:List (List D)):Prop:=All2 (λb a=>H1 b=()/\F b=()/\∃u,H b=!u/\ORep1 K F (.lst a) u) bs dss
def News.evo{bs}(h:News K H1 F H bs dss)(e:Evo P F H F' H'):News K H1 F' H' bs dss:=
 All2.imp (λb j #[f,c,u,a,q]=>by let#[i,g]:=e.keep b u a c;exact#[f,g,u,i,ORep1.same e.ext q]) h
def News.upd{bs}(h:News K H1 F H bs dss)(c:∀b∈bs,b≠a):News K H1 F (L2.upd H a v) bs dss:=by
 delta News at h ⊢;induction h with
 |nil=>exact .nil
 |cons q _ ih=>
  let#[i,g,u,f,e]:=q;exact .cons #[i,g,u,by rwa[az<|c _ Ye],e]<|ih λb j=>c b<|Yd _ j
def News.at{bs}(h:News K H1 F H bs dss){b}(a:b∈bs):∃u,H b=!u:=by let#[_,_,_,_,u,q,_]:=All2.mem h a;exact#[u,q]
section
variable{own:Nat}{ix is:List Nat}{f:Dl}{c:Dk}{e:Dl}
def Ck(his:∀j∈is,j<own):∀σ H Q,tO K (tU (aI own ix f st c λρ=>(e ρ).map .lst)) σ H Q->zW own ix (tI K f) (tG K is st) (tB' K c) (tO K (asL e)) σ H Q:=λσ H Q=>un7 λP F ρ ob S I k=>by
 delta tU at S;obtain⟨out,S,ho⟩:=bs S;delta aI at S;obtain⟨B,q,S⟩:=bs S;split at S
 rotate_left
 .cases S
 rename_i hlen;exact#[P,F,ρ,B,q,I,λJ l o ev ok a A=>?_];let I1:=I.evo ev;have hp1:=ge I1.sub;have hg:gd l o a=():=by delta gd;rwa[I1.sub.free A]
 have B1:=I1.cap own ix;have hP:∀{p C},Same l p->DHp _ p C->DHp P p C:=λs h=>(I1.toDHp.gd s h).hp
 have back:∀{p C}{b},Same l p->DHp _ p C->C b=()->o b=():=λ{p C b} s h hb=>by
  cases z:o b with
  |none=>rfl
  |some u=>
   cases y:l b with
   |none=>have:=h.pro b u<|gx.mpr #[y,z];rw[hb]at this;cases this
   |some w=>have:=h.sub b w<|s b w y;rw[hb]at this;cases this
 exact#[λi m ys C=>m=B.length-i/\i<=B.length/\∃p bs,ys=bs.map .ref/\Same l p/\DHp _ p C/\p a=()/\C a=!.lst ys/\ys.length<=i/\(a::bs).Nodup/\∃N,News K o p C bs N/\(bO st c _ _<|B.drop i).map (λr=>N.map .lst++r)=!out,
  #[_,qx,YN _,l,[],qx,Same.refl _,(Evo.side hp1 A).hp,I1.sub.free A,aD,Yp _,by simp,[],.nil,by rw[VB,S];rfl],?_]
 rintro i m ys C ⟨rfl,hi,p,bs,rfl,Y,hp',fa,ha,hy,nd,N,rp,g⟩;obtain⟨ok1,ok2⟩:=ok p C Y (hP Y hp') i;by_cases hlt:i<B.length
 .have hd:B[i]?=some B[i]:=Yi hlt;obtain⟨go,yl⟩:=ok1 _ hd;have hdrop:=ZK hlt;rw[hdrop]at g;delta bO at g;cases hst:st B[i] (fU own ix ρ)with
  |none=>rw[hst]at g;cases g
  |some M=>
   rw[hst,Yb]at g;exact .inr #[go,λR U=>∃X bs',R=bs'.map .ref/\Same l X/\DHp _ X U/\X a=()/\U a=!.lst R/\R.length<=i+1/\(a::bs').Nodup/\∃T,News K o X U bs' T/\(bO st c _ _ _).map _=!out,
    λR U h=>#[B.length-(i+1),by lia,rfl,hlt,h],λx U hyl=>?_]
   obtain⟨X,ev2,rx⟩:=yl x U hyl;have O:=ev2.change hp';obtain⟨a2,fa2⟩:=O.keep a _ ha fa;have B2:=wv B1 (Y.trans ev2.ext) O.hp;exact#[gd l o,X,fU own ix ρ,B[i],M,hst,B2,rx,λσ3 F3 H3 ev3 I3 hl3 hσ=>?_];exact#[#[?_,λj v hj=>?_],?_]
   .rw[hl3,iu]
   .rw[hσ j]
    .exact hj
    .intro hj';obtain⟨ho,_⟩:=lH hj;have:=his j hj';lia
   obtain⟨a3,fa3⟩:=ev3.keep a _ a2 fa2;cases hc:c M with
   |none=>rw[hc]at g;cases g
   |some b=>
    rw[hc,Yb]at g;exact#[gd l o,F3,M,b,hc,I3,λF4 H4 L=>?_];obtain⟨a4,fa4⟩:=L.keep a _ a3 fa3;have Z:=ev2.ext.trans<|ev3.ext.trans L.ext;let rp4:=((rp.evo O).evo ev3).evo L;cases b with
    |false=>
     rw[Yn Yk]at g ⊢;exact#[F4,bs,qx,Y.trans Z,L.hp,fa4,a4,by lia,nd,N,rp4,g]
    |true=>
     rw[Yl qx]at g ⊢;cases he:e M with
     |none=>rw[he]at g;cases g
     |some y=>
      rw[he,Zy,Yb]at g;exact#[gd l o,F4,M,.lst y,by delta asL;rw[he];rfl,I3.evo L,λv F5 H5 E rv=>?_];obtain⟨a5,fa5⟩:=E.keep a _ a4 fa4;have s15:=Z.trans E.ext;let#[#[v1,v2],u,v3,v4]:=rv;have va:v≠a:=λz=>by subst z;rw[a4]at v1;cases v1
      have vb:v∉bs:=λz=>by obtain⟨w,hw⟩:=rp4.at z;rw[v1]at hw;cases hw
      have ba:∀b∈bs,b≠a:=λb hb z=>(YX.mp nd).1<|by rwa[<-z]
      have h1v:=back (Y.trans Z) L.hp v1;exact#[a5,by rw[YT];lia,F5,bs++[v],by simp,Y.trans s15,#[λb u h=>by rw[az<|bc h fa5];exact E.hp.sub b u h,λb u h=>by rw[az<|bc h hg];exact E.hp.pro b u h,E.hp.dis],fa5,aD,by rw[Yo,YM];lia,?_,N++[y],?_,?_]
      .obtain⟨n1,n2⟩:=YX.mp nd;exact YX.mpr #[λz=>?_,?_]
       .rcases YO.mp z with z|z
        .exact n1 z
        .exact va (Yu.mp z).symm
       .rw[ZF];exact#[n2,by simp,λx hx z hz e=>vb<|by rwa[<-Yu.mp hz,<-e]]
      .exact All2.snoc ((rp4.evo E).upd ba) #[h1v,v2,u,by rwa[az va],v4]
      .cases hmm:bO st c _ _ (B.drop<|i+1)with
       |none=>rw[hmm]at g;cases g
       |some r=>
        rw[hmm]at g;simp only[Zy]at g ⊢;rwa[YW,Zh]
 .have hz:B.drop i=[]:=ZX (by lia);rw[hz]at g;delta bO at g;rw[Zy,Zc]at g;cases g;rw[wt]at ho;cases ho;let evf:=ev.trans<|I1.toDHp.gd Y hp';exact .inl #[ok2<|by lia,k a p C evf #[#[ev.back I.toDHp A,fa],bs,ha,nd,All2.imp (λb B #[z1,z2,u,z3,z4]=>#[#[ev.back I.toDHp z1,z2],u,z3,z4]) rp]]
def AV(hcalm:X.calm)(b:BlkScope X scope)(cp:Caps X scope N own ix)(his:∀j∈is,j<own)(hi:PDI X tg iter f)(h:∀s H fp pz,PDG (blk X scope N s H fp pz) tg is st)(a:∀s H fp pz,o0 (blk X scope N s H fp pz) ifs<|tB' X.K c)(he:∀s H fp pz,PDO (blk X scope N s H fp pz) elt<|asL e)(hnames:∀y∈scope.names,y.2=.local->scope.names.lookup y.1=!.local:=by decide)(hs:FsI iter X:=by intro _;rfl):PDO X (.ListComp elt [#[tg,iter,ifs,0]] scope pos) (tU<|aI own ix f st c λρ=>(e ρ).map .lst):=
 (yQ (g:=tG X.K is st) (te:=tO X.K _) hcalm b cp hi h a he hnames hs).imp<|Ck his
end
end L2
namespace L2
open PySem PySem.Spec PyProof.Rows
def All2.memR{α c}{R}{as:List α}{bs:List c}(h:All2 R as bs):All2 (λa b=>a∈as/\R a b) as bs:=by
 induction h with
 |nil=>exact .nil
 |cons q r ih=>exact .cons #[Ye,q]<|ih.imp λa b z=>#[Yd _ z.1,z.2]
def All2.memL{α c}{R}{as}{bs:List c}(h:All2 R as bs){a:α}(ha:a∈as):∃b,R a b:=by
 induction h with
 |nil=>cases ha
 |cons q _ ih=>
  rcases Ys.mp ha with rfl|ha
  .exact#[_,q]
  .exact ih ha
section
variable{F:Hp}{f:List Int}{ts:List (List Int)}{t:Option Addr}{A:Addr->Prop}
def DInv.frz3(I:DInv K P F H ρ σ)(h:ρ[i]?=!!.own (.t3 false f l ts) t):∃(A:Addr->Prop) (a0 p o:Addr),(∀b,A b->F b=()/\P b=()/\((∃xs,H b=!.lst xs)\/H b=!.tup [.ref a0,.ref p,.ref o]))/\A a0/\(∃xs,H a0=!.lst xs)/\DInv K P (qO F H A) H (ρ.set i<|!.v (OD.t3 false f l ts).d) σ:=by
 let#[O,L]:=I.rep;let#[v,Z,a,rfl,#[#[fa,S,T],a0,p,o,bs,N,m,C,B,M,Y],ht]:=L i _ h;have m:=m
 let A:Addr->Prop:=λb=>b=a\/b=a0\/b=p\/b=o\/b∈bs
 have g:∀b,A b->(F b=()/\P b=()/\O b=!i)/\((∃xs,H b=!.lst xs)\/H b=!.tup [.ref a0,.ref p,.ref o]):=λb hb=>by
  rcases hb with rfl|rfl|rfl|rfl|hb
  .exact#[#[fa,S,T],.inr N]
  .exact#[m.1,.inl #[_,m.2]]
  .exact#[C.1,.inl #[_,C.2]]
  .exact#[B.1,.inl #[_,B.2]]
  .let#[t,R,_,Q]:=M.memL hb;exact#[R,.inl #[_,Q]]
 have s:Same F (qO F H A):=b6 λb q=>(g b q).1.1
 exact#[A,a0,p,o,λb q=>#[(g b q).1.1,(g b q).1.2.1,(g b q).2],.inr<|.inl qx,#[_,m.2],#[λb u q=>?_,I.pro,λb u q=>?_],by rw[Zg];exact I.len,O,λj y X=>?_]
 .by_cases c:A b
  .rw[de c]at q;exact q
  .rw[dQ c]at q;exact I.sub b u q
 .rw[dQ λc=>by rw[(g b c).1.2.1]at q;cases q];exact I.dis b u q
 .rcases fj X with⟨rfl,e,hl⟩|⟨z,x⟩
  .cases e;have U:ORep K F H A (.t3 false f l ts) a:=#[.inl qx,a0,p,o,bs,N,#[.inr<|.inl rfl,m.2],#[.inr<|.inr<|.inl rfl,C.2],#[.inr<|.inr<|.inr<|.inl rfl,B.2],M.memR.imp λc t q=>#[.inr<|.inr<|.inr<|.inr q.1,q.2.2],Y]
   exact#[_,Z,U.rep s λb u q hb=>by rw[de q];exact hb]
  .let#[v,e1,J]:=L j y x;exact#[v,e1,?_];cases y with
   |v d=>exact Rep.same s J
   |own o' t'=>
    let#[c,rfl,E,w]:=J;exact#[c,qx,E.mono s λb u q hb=>#[hb,by rw[dQ λc=>z<|YG<|(g b c).1.2.2.symm.trans q.2.2];exact q.1,q.2],w]
   |bor o'=>
    let#[c,rfl,E]:=J;exact#[c,qx,E.mono s λb u q hb=>#[hb,q]]
def Evo.thaw(h0:DHp P F H)(h:∀b,A b->F b=())(ev:Evo P (qO F H A) H F' H'):Evo P F H F H' where
 ext:=Same.refl _
 hp:=#[λb u e=>ev.hp.sub b u<|ev.ext b u<|b6 h b u e,ev.hp.pro,h0.dis]
 keep:=λb u e n=>#[by
  by_cases c:A b
  .exact ev.hp.sub b u<|ev.ext b u<|by rwa[de c]
  .exact(ev.keep b u e<|by rwa[dQ c]).1,n]
def jg(F H F':Hp):Hp:=λb=>match F b with
 |some u=>!u
 |none=>match H b with
  |some _=>()
  |none=>F' b
def C6{b}{u}(h:jg F H F' b=!u):F b=!u\/(F b=()/\H b=()/\F' b=!u):=by
 delta jg at h;cases c:F b with
 |some w=>rw[c]at h;cases h;exact .inl qx
 |none=>
  rw[c]at h;cases e:H b with
  |some w=>rw[e]at h;cases h
  |none=>rw[e]at h;exact .inr #[qx,qx,h]
def rE{b}{w}(h:F b=())(e:H b=!w):jg F H F' b=():=by delta jg;rw[h,e]
def Bf{b}(h:F b=())(e:H b=()):jg F H F' b=F' b:=by delta jg;rw[h,e]
def Evo.thawN(h0:DHp P F H)(h:∀b,A b->F b=())(ev:Evo P (qO F H A) H F' H'):Evo P F H (jg F H F') H' where
 ext:=λb u e=>by delta jg;rw[e]
 hp:=#[λb u e=>(C6 e).elim (λz=>(ev.thaw h0 h).hp.sub b u z) λz=>ev.hp.sub b u z.2.2,ev.hp.pro,λb u e=>rE (h0.dis b u e)<|h0.pro b u e]
 keep:=λb u e n=>#[((ev.thaw h0 h).keep b u e n).1,rE n e]
end
def noL:Nat->D->Bool
 |_,.non=>true
 |_,.bl _=>true
 |_,.int _=>true
 |_,.str _=>true
 |n+1,.tup xs=>xs.all<|noL n
 |_,_=>false
def Rep.thaw{A}{E C}(p:∀b,A b->F b=()/\P b=()/\((∃xs,H b=!.lst xs)\/H b=!.tup [.ref a0,.ref E,.ref C]))(h0:A a0)(y:∃xs,H a0=!.lst xs)(ev:Evo P (qO F H A) H F' H'):∀n {v}{d},noL n d->Rep K F' v d->Rep K (jg F H F') v d:=λn=>by
 induction n with
 |zero=>intro v d h r;cases r<;>first|exact .non|exact .bl|exact .int|exact .str|cases h
 |succ n ih=>
  intro v d h r;cases r with
  |non=>exact .non
  |bl=>exact .bl
  |int=>exact .int
  |str=>exact .str
  |@tup a m j e r=>
   exact .tup ?_<|Reps.ind (M:=λm j=>j.all _->Reps K _ m j) (λ_=>.nil) (λq _ i h=>by
    rw[Xi,Yr]at h;exact .cons (ih h.1 q)<|i h.2) r h
   have o:=λb w c q=>ev.ext b w<|by rwa[de c]
   cases c:F a with
   |some u=>
    have:=ev.ext a u<|b6 (λb q=>(p b q).1) a u c;rw[e]at this;cases this;delta jg;rw[c]
   |none=>
    cases g:H a with
    |none=>rwa[Bf c g]
    |some w=>
     exfalso;by_cases l:A a
     .let z:=o a w l g;rw[e]at z;cases z;rcases(p a l).2.2 with⟨xs,q⟩|q
      .rw[g]at q;cases q
      .rw[g]at q;cases q;let#[xs,x]:=y;let B:=o a0 _ h0 x;cases r with
       |@cons _ s _ j q _=>
        have f:noL n s:=by have:(s::j).all _:=h;rw[Xi,Yr]at this;exact this.1
        cases q with
        |tup z _=>rw[B]at z;cases z
        |lst _ _=>cases n<;>cases f
        |dT _ _=>cases n<;>cases f
        |dK _ _=>cases n<;>cases f
        |ins _ _=>cases n<;>cases f
        |fn _=>cases n<;>cases f
     .let z:=(ev.keep a w g<|by rwa[dQ l]).2;rw[e]at z;cases z
  |_=>cases h
def thF(i:Nat)(ρ:DF):Option DF:=match ρ[i]? with
 |some (!.own (.t3 false f l ts) _)=>!ρ.set i (!.v (OD.t3 false f l ts).d)
 |_=>()
open A in
def H_(h:thF i ρ=!ρ'):∃f l ts t,ρ[i]?=!!.own (.t3 false f l ts) t/\ρ'=ρ.set i (!.v (OD.t3 false f l ts).d):=by
 delta thF at h;split at h
 .rename_i f l ts t q;cases h;exact#[f,l,ts,t,q,qx]
 .cases h
def thG{α:Type}(i:Nat)(c:α->Bool)(f:DF->Option α):DF->Option α:=λb=>(thF i b).bind λa=>(f a).bind λx=>if c x then !x else ()
def BZ{c}{f}{x:α}(h:thG i c f ρ=!x):∃a b ts t,ρ[i]?=!!.own (.t3 false a b ts) t/\f (ρ.set i (!.v (OD.t3 false a b ts).d))=!x/\c x:=by
 let#[e,q,h]:=YK.mp h;let#[y,j,h]:=YK.mp h;split at h
 .rename_i l;cases h;let#[a,b,ts,t,g,rfl]:=H_ q;exact#[a,b,ts,t,g,j,l]
 .cases h
def LN:D->Bool
 |.int _=>true
 |_=>false
def iM:List D->Bool:=λds=>ds.all LN
def Reps.ints_any(h:Reps K F vs ds):iM ds->Reps K F' vs ds:=Reps.ind (M:=λvs ds=>iM ds->Reps K F' vs ds) (λ_=>.nil) (λ{v d vs ds} q _ i h=>by
 have h:(LN d&&iM ds):=h;rw[Yr]at h;exact .cons ?_<|i h.2;cases q<;>first|exact .int|cases h.1) h
def thO:OD->Bool
 |.lst ds=>iM ds
 |.lst2 dss=>dss.all iM
 |_=>false
def EH i{f:Dd}(h:PDE X e f):PDE X e (thG i (noL 6) f):=h.imp λw H Q=>un7 λP F x d m I k=>by
 let#[a,b,y,t,q,j,o]:=BZ m;let#[A,E,C,B,c,p,l,s]:=I.frz3 q;exact#[P,_,_,d,j,s,λv J u g r=>k v _ u (g.thawN I.toDHp λb z=>(c b z).1)<|Rep.thaw c p l g 6 o r]
def D7 i{f:Do}(h:PDO X e f):PDO X e (thG i thO f):=h.imp λR H Q=>un7 λP F S o L I k=>by
 let#[a,b,T,t,q,m,j]:=BZ L;let#[A,Z,Y,U,M,_,_,O]:=I.frz3 q;exact#[P,_,_,o,m,O,λp l C N r=>k p F C (N.thaw I.toDHp λb z=>(M b z).1) ?_];have nf:∀b,H b=()/\l b=()->H b=()/\F b=():=λb z=>#[z.1,I.sub.free z.1]
 have one:∀{g}{u},iM g->ORep1 X.K l (.lst g) u->ORep1 X.K F (.lst g) u:=λ{g u} z y=>by
  cases u with
  |lst vs=>exact Reps.ints_any y z
  |_=>exact y.elim
 cases o with
 |lst g=>
  let#[B,u,x,w]:=r;exact#[nf _ B,u,x,one j w]
 |lst2 c=>
  let#[B,bs,x,w,s]:=r;exact#[nf _ B,bs,x,w,?_];have all:∀{bs}{c},All2 (λb g=>(H b=()/\l b=())/\∃u,C b=!u/\ORep1 X.K l (.lst g) u) bs c->c.all iM->All2 (λb g=>(H b=()/\F b=())/\∃u,C b=!u/\ORep1 X.K F (.lst g) u) bs c:=λ{bs c} s=>by
   induction s with
   |nil=>exact λ_=>.nil
   |cons q _ ih=>
    intro j;rw[Xi,Yr]at j;let#[J,u,m,E]:=q;exact .cons #[nf _ J,u,m,one j.1 E]<|ih j.2
  exact all s j
 |_=>cases j
def ILs.int{bs}{ts}(h:ILs H ow bs ts){b}(a:b∈bs):∃i w,H b=!.lst (.int i::w):=by
 let#[t,_,q,e]:=h.memL a;cases t with
 |nil=>exact absurd qx q
 |cons i t=>exact#[i,_,e]
def sX{bs:List Addr}{i}{w}(h:some (HO.lst (bs.map .ref))=!.lst (.int i::w)):False:=by cases bs<;>cases h
def ILs.snoc{bs}{ts}{c}(h:ILs H ow bs ts)(k:∀b u,ow b->H b=!u->b∈bs->H' b=!u/\ow' b)(a:ow' c/\t≠[]/\H' c=!.lst (t.map V.int)):ILs H' ow' (bs++[c]) (ts++[t]):=by
 induction h with
 |nil=>exact .cons a .nil
 |cons q _ ih=>exact .cons #[(k _ _ q.1 q.2.2 Ye).2,q.2.1,(k _ _ q.1 q.2.2 Ye).1]<|ih λb u o e m=>k b u o e<|Yd _ m
section
variable{F:Hp}{C:Option Addr}{fs:List (Str×FO)}{t:Option Addr}{n:Str}{ts:List (List Int)}
def DInv.kidL(I:DInv K P F H ρ σ)(hi:ρ[i]?=!!.own (.obj C fs) t)(Q:fs.lookup n=!.lL ts):∃a dx vs b bs,σ[i]?=!!.ref a/\H a=!bxO C dx vs/\vs.lookup n=!.ref b/\F b=()/\H b=!.lst (bs.map .ref)/\bs.length=ts.length /\
   ∀{F1 H1},Evo P F H F1 H1->∀{c}{t'},H c=()->F1 c=()->H1 c=!.lst (t'.map V.int)->t'≠[]->
    H1 b=!.lst (bs.map .ref)/\DInv K P F1 (upd H1 b<|.lst<|(bs++[c]).map .ref) (ρ.set i<|!.own (.obj C<|fS n (.lL<|ts++[t']) fs) t) σ:=by
 let#[O,X]:=I.rep;let#[v,Z,a,rfl,#[oa,dx,vs,Y,E,f],ht]:=X i _ hi;let#[w,J,b,bs,rfl,T,A,M]:=(iq f).2 _ Q;exact#[a,dx,vs,b,bs,Z,Y,J,T.1,A,M.length,λ{F1 H1} h {c t'} s fc S N=>?_]
 let l:Addr->Option Nat:=λd=>open Classical in if H d=() then !i else O d
 have o:∀d u j,F d=()/\P d=()/\O d=!j->H d=!u->H1 d=!u/\F1 d=()/\P d=()/\l d=!j:=λd u j q e=>
  #[(h.keep d u e q.1).1,(h.keep d u e q.1).2,q.2.1,(Yn<|by rw[e];simp).trans q.2.2]
 have R:∀j x,ρ[j]?=!!x->∃v,σ[j]?=!!v/\DVRep K P F1 H1 (λc=>l c=!j) x v:=λj x hx=>by
  let#[v,e1,e2]:=X j x hx;exact#[v,e1,(e2.imp λd u _ _ hd q=>(Yn<|by rw[hd];simp).trans q).evo h]
 let#[U,p]:=o b _ i T A;let#[g1,g2]:=o a _ i oa Y;have g:=Kids.mono h.ext (λd u q e=>o d u i q e) f;have ne:b≠a:=λz=>(YX.mp E).1<|z ▸ Kids.mem f Q J b (YJ b)
 have cb:c≠b:=λz=>by subst z;rw[A]at s;cases s
 have L:=M.mono λd u q e=>o d u i q e
 have B:∀d∈bs,d≠b:=λd m z=>by
  let#[x,y,e]:=M.int m;subst z;rw[A]at e;exact sX e
 let#[m1,m2]:=Kids.upd (o':=.lL _) g (λd x y e=>az λz=>by subst z;rw[U]at e;exact sX e) (YX.mp E).2 Q qx J
  #[b,bs++[c],qx,p,aD,L.snoc (λd u q e m=>#[by rwa[az<|B d m],q]) #[#[fc,I.pro.free s,Yl s],N,by rw[az cb];exact S]] qx
 exact#[U,(I.evo h).one hi l R p.1 p.2.1 p.2.2 Z #[g2,dx,vs,by rwa[az<|XE ne],by rwa[m2],m1]]
end
def i4:List D->Option (List Int)
 |[]=>![]
 |.int i::r=>(i4 r).map (i::·)
 |_=>()
def kA(h:Reps K F vs ds):∀{ns},i4 ds=!ns->vs=ns.map V.int/\ds=ns.map D.int:=Reps.ind (M:=λvs ds=>∀{ns},i4 ds=!ns->vs=ns.map V.int/\ds=ns.map D.int) (λe=>by cases e;exact#[qx,qx]) (λ{v d vs ds} q _ i ns e=>by
 cases q with
 |int=>
  let#[r,a,rfl]:=dI e;let#[rfl,rfl]:=i a;exact#[qx,qx]
 |_=>cases e) h
def lO ns:i4 (ns.map .int)=!ns:=by
 induction ns with
 |nil=>rfl
 |cons i r ih=>show(i4 _).map (i::·)=_;rw[ih];rfl
section
variable{n:Str}
def pJ(C:Addr)(i:Nat)(n:Str)(f:Do):DF->Option RES:=λa=>match a[i]?,f a with
 |some<|!.own (.obj (!C') fs) t,!.lst ds=>match fs.lookup n,i4 ds with
  |some<|.lL ts,!(x::y)=>if C'=C/\ts.length<16777216 then !.nx (a.set i<|!.own (.obj (!C)<|fS n (.lL<|ts++[x::y]) fs) t) else ()
  |_,_=>()
 |_,_=>()
open A in
def Cq i{f:Do}(c:Cls X.K C)(hn:NoAttr X.K C n)(h:PE X o (c7 i))(ha:PDO X e f)(hb:attributeBase o n X.env (eval o X.env)=eval o X.env:=by rfl)(l:attributeBase (.Attribute o n pos') "append" X.env (eval (.Attribute o n pos') X.env)=eval (.Attribute o n pos') X.env:=by rfl)
  (m:((backTo cpos<|starEach [e] X.env).all (λx=>(not<|x.1))&&(backToKw cpos<|keywordEach [] X.env).all (λx=>x.1.isSome)
   && decide (([e]).length+([]:List Keyword).length+(if([]:List Keyword).isEmpty then 0 else 1)<30)):=by rfl)
  (j:(apos.endLine == cpos.line):=by rfl) (hs:starEach [e] X.env=[(false,eval e X.env)]:=by rfl) (s:swapsWith (.Call (.Attribute (.Attribute o n pos') "append" apos) [e] [] cpos) () pos.line X.env=pure false:=by rfl) :
  PD1 X (.Expr (.Call (.Attribute (.Attribute o n pos') "append" apos) [e] [] cpos) pos) (pJ C i n f):=
 PS.imp (dU (kU Zb ZN Xe f7 (pU h hb) (aQ ha bw hs) l m j hs qx) s) λE J H=>un7 λP F L r g I k=>by
  delta pJ at g;split at g
  .rename_i C' fs t ds S O;split at g
   .rename_i ts x y R Q;split at g
    .rename_i w;let#[rfl,w]:=w;cases g;let#[a,dx,N,b,bs,h1,h2,h3,h4,h5,h6,q]:=I.kidL S R;exact#[_,h1,a,C',dx,N,_,qx,h2,c,hn,h3,.inl #[qx,_,SqL.of h5],P,F,L,.lst ds,O,I,λp F1 H1 B Z=>?_];let#[#[Y,U],u,T,A]:=Z;cases u with
     |lst us=>
      let#[e1,_]:=kA A Q;subst e1;let#[M,z]:=q B Y U T (by simp);exact#[b,_,.ref p,qx,qx,M,by rwa[YT,Ya,h6],k J F1 _ B.ext ?_];rwa[YW]at z
     |_=>exact A.elim
    .cases g
   .cases g
  .cases g
end
def HOk.ghost{P}{o}{xs}(ok:HOk P w H h)(e:H a=!.frz o (.lst xs)):HOk P w (upd H a (.lst xs)) h:=λb u q=>by
 by_cases j:b=a
 .subst j;rw[aD]at q;cases q;exact(ok b _ e).2
 .rw[az j]at q;let x:=ok b u q;have g:∀{c}{v},H c=!v->(∀o,v≠.frz o (.lst xs))->upd H a (.lst xs) c=!v:=λ{c v} z k=>by
   rwa[az λy=>by subst y;rw[e]at z;exact k o (YG z).symm]
  clear q;induction u with
  |dT kvs=>
   let#[z,y,xs,r,w]:=x;exact#[z,y,xs,Paired.mapP r λp q z=>#[z.1,g z.2.1 λ_=>nofun,z.2.2],w]
  |ins C dx fs=>
   let#[d,z]:=x;exact#[g d λ_=>nofun,z]
  |frz ob u ih=>
   let#[e,q]:=x;exact#[e,ih q]
  |tbl q p=>
   let#[s,I,z,c]:=x;exact#[s,I,z,c.imp id λ#[c,A,u,J,f,m]=>#[c,A,u,J,?_,m]];by_cases i:c=a
   .subst i;rw[e]at f;cases f;let#[E,_,B,n,_,l]:=ok c _ e;rw[E]at l;cases l;exact absurd m<|by simp[By]
   .rw[az i];exact f
  |_=>exact x
def Inv.ghost{o}{xs}(I:Inv X pz σ H s)(h:H a=!.frz o (.lst xs))(h0:∀u,X.H₀ a=!u->u.stl=false):Inv X pz σ (upd H a (.lst xs)) s:=by
 have f:∀{c},H c=()->upd H a (.lst xs) c=():=λ{c} z=>by rwa[az λy=>by subst y;rw[h]at z;cases z]
 exact#[I.ok,I.os,I.bare,#[I.base.keep,I.base.slot,λb o e n q=>f<|I.base.free b o e n q,I.base.there,λb u g e=>by
   rw[az λy=>by subst y;rw[h0 u e]at g;cases g];exact I.base.stl b u g e],I.loc,I.cell,f I.free,λx c e=>f<|I.freeC x c e,λp m=>by let#[l,j,i]:=I.pin p m;exact#[l,f j,i],I.hok.ghost h,I.len]
def gRt(X:Cx)(E:j8):j8:={E with rt:=λv H=>E.rt v H\/∃a o x,H a=!.frz o (.lst x)/\(∀u,X.H₀ a=!u->u.stl=false)/\E.rt v (upd H a<|.lst x)}
def PSs.ghost(h:PSs X sts t):PSs X sts (λE σ H=>t (gRt X E) σ H):=λp s σ H E I q=>thn (h p s σ H _ I q) λf j z=>by
 cases f with
 |next=>exact z
 |brk=>exact z
 |cont=>exact z
 |ret u=>
  obtain⟨v,b,i,c,r,k|⟨a,o,x,e,g,k⟩⟩:=z
  .exact#[v,b,i,c,r,k]
  .exact#[v,b,_,c.ghost e g,r,k]
def v6(K:Kq):Bool:=K.all λp=>match p.2.cls with
 |.type s=>s != "list"
 |_=>true
def vm{xs}(h:v6 K)(s:SqL K F a xs):Rd F a (.lst xs):=by
 rcases s with s|⟨o,its,n,hk,hc,_⟩
 .exact s
 .have c:(a,o)∈K:=by
   clear h;induction K with
   |nil=>cases hk
   |cons p r ih=>
    let#[b,u]:=p;rw[Zx]at hk;split at hk
    .rename_i e;cases hk;rw[Vk.mp e];exact Ye
    .exact Yd _<|ih hk
  let z:=Yh.mp h _ c;dsimp only at z;rw[hc]at z;exact absurd z<|by decide
def pC:HO->Bool
 |.lst (.int _::_)=>true
 |.frz _ (.lst (.int _::_))=>true
 |_=>false
def noN:Nat->D->Bool
 |_,.non=>true
 |_,.bl _=>true
 |_,.int _=>true
 |_,.str _=>true
 |n+1,.tup xs=>xs.all<|noN n
 |n+1,.lst xs=>xs.all (noN n)&&(not<|(match xs with|.int _::_=>true|_=>false))
 |n+1,.dT kvs=>kvs.all λp=>noN n p.2
 |n+1,.ins _ fs=>fs.all λp=>noN n p.2
 |_,_=>false
def nf(F:Hp):Hp:=λb=>(F b).bind λu=>if pC u then () else !u
def nI{b}{u}:nf F b=!u↔F b=!u/\pC u=false:=by
 delta nf;cases F b with
 |none=>simp
 |some w=>cases h:pC w<;>simp[h]<;>rintro rfl<;>simp[h]
def Rep.nf:∀n {v}{d},noN n d->Rep K F v d->Rep K (nf F) v d:=λn=>by
 induction n with
 |zero=>intro v d h r;cases r<;>first|exact .non|exact .bl|exact .int|exact .str|(cases h;done)
 |succ n ih=>
  have f:∀{e}{c},Reps K F e c->c.all _->Reps K _ e c:=λ{e c} r=>Reps.ind (M:=λe c=>c.all _->Reps K _ e c) (λ_=>.nil) (λq _ i h=>by
   rw[Xi,Yr]at h;exact .cons (ih h.1 q)<|i h.2) r
  intro v d h r;cases r with
  |non=>exact .non
  |bl=>exact .bl
  |int=>exact .int
  |str=>exact .str
  |tup a b=>exact .tup (nI.mpr #[a,qx])<|f b h
  |lst a b=>
   let#[l,j]:=Bool.and_eq_true_iff.mp h;have g:∀e c,Reps K F e c->((not<|(match c with|D.int _::_=>true|_=>false)))->∀o,pC (.lst e)=false/\pC (.frz o<|.lst e)=false:=λe c r z o=>by
    cases r with
    |nil=>exact#[qx,qx]
    |cons q _=>cases q<;>first|(cases z;done)|exact#[qx,qx]
   exact .lst (a.imp (λa=>a.imp (λa=>nI.mpr #[a,(g _ _ b j default).1]) λ#[o,a]=>#[o,nI.mpr #[a,(g _ _ b j o).2]]) id)<|f b l
  |dT a b=>exact .dT (nI.mpr #[a,qx])<|RepsT.ind (M:=λe c=>(c.all λp=>noN n p.2)->RepsT K _ e c) (λ_=>.nil) (λq _ i h=>by
    rw[Xi,Yr]at h;exact .cons (ih h.1 q)<|i h.2) b h
  |ins a b=>exact .ins (nI.mpr #[a,qx])<|RepsF.ind (M:=λe c=>(c.all λp=>noN n p.2)->RepsF K _ e c) (λ_=>.nil) (λq _ i h=>by
    rw[Xi,Yr]at h;exact .cons (ih h.1 q)<|i h.2) b h
  |_=>cases h
def DInv.clrN(I:DInv K P F H ρ σ)i:DInv K P F H (ρ.set i ()) σ:=
 #[I.toDHp,by rw[Zg];exact I.len,by
  let#[O,h]:=I.rep;exact#[O,λj x a=>h j x<|by
   rcases fj a with⟨_,e,_⟩|⟨_,e⟩
   .cases e
   .exact e]]
def yT(C:Addr)(i:Nat)(nx nz:Str)(g:Dl):DF->Option RES:=λa=>match a[i]? with
 |some (!.own (.obj (!C') fs) _)=>if C'=C then match fs.lookup nx,g a,fs.lookup nz with
  |some<|.d<|.lst d0,!d1,!.lL ts=>(i4 d0).bind λf=>(i4 d1).map λl=>.rt (.own (.t3 true f l ts) ())<|a.set i ()
  |_,_,_=>() else ()
 |_=>()
section
variable{nx nz:Str}{o3:Expr}{x1:Nat}
def Gw i{g:Dl}(hK:v6 X.K)(c:Cls X.K C)(hx:NoAttr X.K C nx)(hz:NoAttr X.K C nz)(h:PE X o (c7 i))(h3:PE X o3 (c7 i))(h2:PDO X e2 (asL g))(B:attributeBase o nx X.env (eval o X.env)=eval o X.env:=by rfl)(hb3:attributeBase o3 nz X.env (eval o3 X.env)=eval o3 X.env:=by rfl)
  (hs:starEach [.Attribute o nx p1,e2,.Attribute o3 nz p3] X.env=(false,eval (.Attribute o nx p1) X.env)::starEach [e2,.Attribute o3 nz p3] X.env:=by rfl) (Z:starEach [e2,.Attribute o3 nz p3] X.env=(false,eval e2 X.env)::starEach [.Attribute o3 nz p3] X.env:=by rfl) (Y:starEach [.Attribute o3 nz p3] X.env=(false,eval (.Attribute o3 nz p3) X.env)::starEach [] X.env:=by rfl) :
  PD1 X (.Return (!.Tuple [.Attribute o nx p1,e2,.Attribute o3 nz p3] x1 tpos) pos) (yT C i nx nz g):=
 PS.imp (mN<|BE<|aQ (pU h B) (aQ h2 (aQ (pU h3 hb3) bw Y) Z) hs) λE σ H=>un7 λP F ρ r j I k=>by
  delta yT at j;split at j
  .rename_i C' fs t q;split at j
   .rename_i ec;subst ec;split at j
    .rename_i d0 d1 ts q0 q1 q2;let#[f,e0,j]:=YK.mp j;let#[l,e1,rfl]:=dI j;let#[O,hR]:=I.rep;let#[v,s1,a,rfl,#[oa,dx,vs,s2,nd,A],_]:=hR i _ q;let#[w,l1,b,bs,rfl,R,B,U]:=(iq A).2 _ q2;let#[w0,l0,r0]:=(iq A).2 _ q0;cases r0 with
     |@lst a0 us _ sq ru=>
      let#[rfl,rfl]:=kA ru e0;let rd:=vm hK sq;have N:∀b,F b=()->a0≠b:=λb B z=>by
       subst z;rcases rd with z|⟨_,z⟩<;>(rw[B]at z;cases z)
      exact#[_,s1,a,C',dx,vs,_,qx,s2,c,hx,l0,P,F,ρ,.lst d1,by delta asL;rw[q1];rfl,I,λb1 F1 H1 s ho=>?_];let#[#[o1,o2],u,M,o4]:=ho;cases u with
      |lst us=>
       let#[rfl,rfl]:=kA o4 e1;exact#[_,s1,a,C',dx,vs,_,qx,(s.keep a _ s2 oa.1).1,c,hz,l1,by rw[YT];exact(show 3<=16777216 by decide),λp L=>?_];let ev2:=Evo.side (o:=.tup [.ref a0,.ref b1,.ref b]) s.hp L;have S:∀d u,(F d=()/\P d=()/\O d=!i)->H d=!u->upd H1 p (.tup [.ref a0,.ref b1,.ref b]) d=!u/\(F1 d=()/\P d=()/\nL d):=λd u z e=>by
        let#[T,k2]:=s.keep d u e z.1;exact#[by rwa[az λy=>by subst y;rw[L]at T;cases T],k2,z.2.1,trivial]
       have Q:b1≠p:=λz=>by subst z;rw[M]at L;cases L
       have n1:∀d,H d≠()->b1≠d:=λd z y=>z<|by rwa[<-y]
       have fF:∀d,F1 d=()->a0≠d:=λd z y=>by
        subst y;rcases rd with z'|⟨_,z'⟩<;>(rw[s.ext _ _ z']at z;cases z)
       exact k _ σ F1 _ s.ext (((I.evo s).evo ev2).clrN i) #[p,qx,#[#[(s.hp.free L).1,(s.hp.free L).2,trivial],?_],λ_ z=>nomatch z];have J:∀d∈bs,H d≠()/\b≠d/\F d=():=λd m=>by
        let#[x,y,e]:=U.int m;let#[_,z,_,_]:=U.memL m;exact#[by rw[e];simp,λz=>by subst z;rw[B]at e;exact sX e,z.1]
       exact#[a0,b1,b,bs,aD,Same.seq s.ext sq,#[#[o2,I.pro.free o1,trivial],by rw[az Q];exact M],#[(S b _ R B).2,(S b _ R B).1],U.mono S,fF _ o2,N _ R.1,λm=>N _ (J _ m).2.2 qx,n1 b<|by rw[B];simp,λm=>n1 _ (J _ m).1 qx,λm=>(J _ m).2.1 qx]
      |_=>exact o4.elim
    .cases j
   .cases j
  .cases j
end
def Jz:DV->Bool
 |.v d=>noN 6 d
 |_=>false
def xX(n p:Nat)(g:Dw):List DV->Option DV:=λa=>if a.length=p/\a.all Jz then match g (aK n p a)with
 |some (.rt (.own (.t3 true (x::y) l ts) ()) _)=>!.own (.t3 false (x::y) l ts) ()
 |_=>() else ()
open A in
def Fun.okT{P}{st}(F:Fun K x qual st f fd)(S:FnScope N ps (defScope st))(hK:v6 K)(L:∀{cdv}{A}{outer}{s}{H}{E},Room k (A.deeper<|envOfC qual (defScope st) s.heap.objs.size f cdv)->
   PDS (gP CX0 P w K mg base N qual (defScope st) f cdv A outer s H E).nox (defBody st) g):FnOk P w K mg base CX0 (k+1) f fd ps (spD K<|xX N.length ps.length g):=by
 have len:∀O H Q E,spD K (xX N.length ps.length g) O H Q E->O.length=ps.length:=λO H Q E hh_=>by
  let#[U,i,xs,x',B,m,hv,_]:=hh_;delta xX at B;split at B
  .rename_i h;rw[<-hv.length];exact h.1
  .cases B
 exact F.ok S len λcdv A outer s H O Q E hr h=>#[_,PSs.ghost<|L hr,?_]
 let#[U,i,xs,x',B,m,hv,hQ]:=h;delta xX at B;split at B
 .rename_i hl;let#[hl,hN]:=hl;split at B
  .rename_i x y l ts ρ q;cases B;have sF:Same (nf i) i:=λb u e=>(nI.mp e).1
   have hpn:=ge<|sF.trans m.sub;have hvn:DVs K (gd (nf i) H) (nf i) H xs O:=by
    clear hl q;induction hv with
    |nil=>exact .nil
    |@cons x v xs O h1 h2 _ ih=>
     rw[Xi,Yr]at hN;cases x with
     |v d=>exact .cons qx (Rep.nf 6 hN.1 h2)<|ih hN.2
     |_=>cases hN.1
   let I:=DInv.start N ps.length hpn hvn hl;exact#[_,_,_,_,q,I,λv σ F2 M e X rv=>?_];let#[a,rfl,#[oa,j,a1,a2,bs,z2,z3,z4,Z,z6,z7],_]:=rv;have new:∀b,F2 b=()->gd (nf i) H b=()->H b=()/\i b=()/\U b=():=λb f2 p2=>by
    have n1:nf i b=():=by
     cases c:nf i b with
     |none=>rfl
     |some u=>rw[e b u c]at f2;cases f2
    have n2:H b=():=by
     cases c:H b with
     |none=>rfl
     |some u=>rw[gx.mpr #[n1,c]]at p2;cases p2
    exact#[n2,m.sub.free n2,m.pro.free n2]
   have kp:=λb u n z=>X.pro b u<|gx.mpr #[n,z]
   have sub:Same i M:=λb u z=>by
    by_cases R:pC u
    .have n1:nf i b=():=by delta nf;rw[z];simp[R]
     exact kp b u n1<|m.sub b u z
    .exact X.sub b u<|e b u<|nI.mpr #[z,by simpa using R]
   have nn:∀b,i b=()->nf i b=():=λb z=>by delta nf;rw[z];rfl
   have T:DHp U i M:=#[sub,λb u z=>kp b u (nn b<|m.dis b u z)<|m.pro b u z,m.dis]
   let rd:=vm hK z3;have p:∀u,pC u->F2 j=!u->H j=():=λu R z=>by
    have n1:nf i j=():=by
     cases c:nf i j with
     |none=>rfl
     |some u'=>
      have:=e j u' c;rw[z]at this;cases this;rw[(nI.mp c).2]at R;cases R
    cases c:H j with
    |none=>rfl
    |some w=>have:=X.dis j w<|gx.mpr #[n1,c];rw[z]at this;cases this
   have mk:∀Y,H j=()->Y j=!.lst ((x::y).map V.int)->(∀b,b≠j->Y b=M b)->DVRep K U i Y nL (.own (.t3 false (x::y) l ts) ()) _:=λY J e0 off=>by
    have ne:∀b,F2 b=()->b≠j:=λb z y=>by
     subst y;rcases rd with o|⟨_,o⟩<;>(rw[z]at o;cases o)
    have C:∀b u,(F2 b=()/\gd (nf i) H b=()/\nL b)->M b=!u->Y b=!u/\(i b=()/\U b=()/\nL b):=λb u q z=>#[by rwa[off b<|ne b q.1],(new b q.1 q.2.1).2.1,(new b q.1 q.2.1).2.2,trivial]
    exact#[a,qx,#[(C a _ oa z2).2,j,a1,a2,bs,(C a _ oa z2).1,#[#[m.sub.free J,m.pro.free J,trivial],e0],#[(C a1 _ z4.1 z4.2).2,(C a1 _ z4.1 z4.2).1],#[(C a2 _ Z.1 Z.2).2,(C a2 _ Z.1 Z.2).1],z6.mono C,z7],λ_ z=>nomatch z]
   rcases rd with z|⟨ob,z⟩
   .exact .inl<|hQ _ i M (Same.refl _) T<|mk M (p _ qx z) (X.sub _ _ z) λ_ _=>rfl
   .let J:=p _ qx z;exact .inr #[j,ob,_,X.sub _ _ z,λu hu=>?_,hQ _ i _ (Same.refl _) #[λb u o=>?_,λb u o=>?_,m.dis]<|mk _ J aD λb hb=>az hb]
    .have:H j=!u:=hu;rw[J]at this;cases this
    .rw[az λy=>by subst y;rw[m.sub.free J]at o;cases o];exact sub b u o
    .rw[az λy=>by subst y;rw[m.pro.free J]at o;cases o];exact T.pro b u o
  .cases B
 .cases B
def Df.okT{P}{q}{st}(F:Df K q st f fd) N (b:v6 K) (a:∀{cdv}{A}{outer}{s}{H}{E},Room k (A.deeper (envOfC q (defScope st) s.heap.objs.size f cdv))->
      PDS (gP CX0 P w K mg base N q (defScope st) f cdv A outer s H E).nox (defBody st) g) (h:xl N (eU st) (defScope st):=by kernel_rfl):FnOk P w K mg base CX0 (k+1) f fd (eU st) (spD K (xX N.length (eU st).length g)):=
  F.fn.okT (scI N h) b a
section
variable{F:Hp}{f:List Int}{ts:List (List Int)}{t:Option Addr}
def DInv.mut3(I:DInv K P F H ρ σ)(h:ρ[i]?=!!.own (.t3 false f l ts) t):∃a a0 w s bs,σ[i]?=!!.ref a/\H a=!.tup [.ref a0,.ref w,.ref s] /\
  (F a0=()/\H a0=!.lst (f.map V.int)/\∀f',DInv K P F (upd H a0<|.lst<|f'.map V.int) (ρ.set i<|!.own (.t3 false f' l ts) t) σ) /\
  (F w=()/\H w=!.lst (l.map V.int)/\∀U,DInv K P F (upd H w<|.lst<|U.map V.int) (ρ.set i<|!.own (.t3 false f U ts) t) σ) /\
  F s=()/\H s=!.lst (bs.map .ref)/\bs.length=ts.length /\
   ∀{F1 H1},Evo P F H F1 H1->∀{c}{t'},H c=()->F1 c=()->H1 c=!.lst (t'.map V.int)->t'≠[]->
    H1 s=!.lst (bs.map .ref)/\DInv K P F1 (upd H1 s<|.lst<|(bs++[c]).map .ref) (ρ.set i<|!.own (.t3 false f l<|ts++[t']) t) σ:=by
 let#[O,M]:=I.rep;let#[v,N,a,rfl,#[S,a0,w,s,bs,C,g,o,p,h6,n1,n2,n3,y,L,J],ht]:=M i _ h;have g:=g;have T:∀{b xs},H b=!.lst xs->a≠b:=λ{b xs} e z=>by subst z;rw[C]at e;cases e
 have st:∀{d}{u},d∉bs->ILs (upd H d u) _ bs ts:=λ{d u} Z=>h6.memR.imp λb t q=>#[q.2.1,q.2.2.1,by rw[az λz=>Z<|by rw[<-z];exact q.1];exact q.2.2.2]
 exact#[a,a0,w,s,bs,N,C,#[g.1.1,g.2,λf'=>?_],#[o.1.1,o.2,λU=>?_],p.1.1,p.2,h6.length,λ{F1 H1} Q {c t'} hc fc h1c Y=>?_]
 .exact I.one h O M g.1.1 g.1.2.1 g.1.2.2 N #[S,a0,w,s,bs,by rwa[az<|T g.2],#[g.1,aD],#[o.1,by rw[az<|XE n1];exact o.2],#[p.1,by rw[az<|XE n2];exact p.2],st n3,n1,n2,n3,y,L,J]
 .exact I.one h O M o.1.1 o.1.2.1 o.1.2.2 N #[S,a0,w,s,bs,by rwa[az<|T o.2],#[g.1,by rw[az n1];exact g.2],#[o.1,aD],#[p.1,by rw[az<|XE y];exact p.2],st L,n1,n2,n3,y,L,J]
 .let R:Addr->Option Nat:=λd=>open Classical in if H d=() then !i else O d
  have A:∀d u j,F d=()/\P d=()/\O d=!j->H d=!u->H1 d=!u/\F1 d=()/\P d=()/\R d=!j:=λd u j q e=>
   #[(Q.keep d u e q.1).1,(Q.keep d u e q.1).2,q.2.1,(Yn<|by rw[e];simp).trans q.2.2]
  have hR':∀j x,ρ[j]?=!!x->∃v,σ[j]?=!!v/\DVRep K P F1 H1 (λc=>R c=!j) x v:=λj x hx=>by
   let#[v,e1,e2]:=M j x hx;exact#[v,e1,(e2.imp λd u _ _ Z q=>(Yn<|by rw[Z];simp).trans q).evo Q]
  let k0:=A a0 _ i g.1 g.2;let k1:=A w _ i o.1 o.2;let B:=A s _ i p.1 p.2;let ka:=A a _ i S C;have E:∀{d u},H d=!u->c≠d:=λ{d u} e z=>by subst z;rw[hc]at e;cases e
  have X:=h6.mono λd u q e=>A d u i q e
  exact#[B.1,(I.evo Q).one h R hR' B.2.1 B.2.2.1 B.2.2.2 N #[ka.2,a0,w,s,bs++[c],by rw[az<|T p.2];exact ka.1,#[k0.2,by rw[az n2];exact k0.1],#[k1.2,by rw[az y];exact k1.1],#[B.2,aD],
   X.snoc (λd u q e m=>#[by rwa[az λz=>J<|by rwa[<-z]],q]) #[#[fc,I.pro.free hc,Yl hc],Y,by rw[az<|E p.2];exact h1c],n1,n2,?_,y,?_,?_]]
  .exact λm=>(YO.mp m).elim n3 λm=>E g.2 (Yu.mp m).symm
  .exact λm=>(YO.mp m).elim L λm=>E o.2 (Yu.mp m).symm
  .exact λm=>(YO.mp m).elim J λm=>E p.2 (Yu.mp m).symm
end
section
variable{k0}
def zK(i:Nat)(f:Dd):DF->Option RES:=λb=>match b[i]?,f b with
 |some<|!.own (.t3 false a l ts) t,!.int n=>if a.length<16777216 then !.nx (b.set i<|!.own (.t3 false (a++[n]) l ts) t) else ()
 |_,_=>()
open A in
def Fs i{f:Dd}(h:PE X o (c7 i))(R:PDE X e f)(O:iV (.Constant (.int 0) k0 p):=by exact λ_ _=>rfl)(g:attributeBase (.Subscript o (.Constant (.int 0) k0 p) ipos) "append" X.env (eval (.Subscript o (.Constant (.int 0) k0 p) ipos) X.env)=eval (.Subscript o (.Constant (.int 0) k0 p) ipos) X.env:=by rfl)
  (m:((backTo cpos<|starEach [e] X.env).all (λx=>(not<|x.1))&&(backToKw cpos<|keywordEach [] X.env).all (λx=>x.1.isSome)
   && decide (([e]).length+([]:List Keyword).length+(if([]:List Keyword).isEmpty then 0 else 1)<30)):=by rfl)
  (c:(apos.endLine == cpos.line):=by rfl) (hs:starEach [e] X.env=[(false,eval e X.env)]:=by rfl) (s:swapsWith (.Call (.Attribute (.Subscript o (.Constant (.int 0) k0 p) ipos) "append" apos) [e] [] cpos) () pos.line X.env=pure false:=by rfl) :
  PD1 X (.Expr (.Call (.Attribute (.Subscript o (.Constant (.int 0) k0 p) ipos) "append" apos) [e] [] cpos) pos) (zK i f):=
 PS.imp (dU (kU Zb ZN Xe f7 (r_ lT h lX O) (aQ R bw hs) g m c hs qx) s) λE J H=>un7 λP F K r j I k=>by
  delta zK at j;split at j
  .rename_i a l ts t n q N;split at j
   .rename_i Q;cases j;let#[b,C,a1,a2,bs,u,z,#[h3,S,_],_]:=I.mut3 q;exact#[_,u,.inr<|.inl #[b,_,_,.ref C,qx,qx,SqT.of z,iP qx,?_]];exact#[.inl #[qx,_,SqL.of S],P,F,K,.int n,N,I,λv F1 H1 w M=>?_];cases M;let#[b',a0',a1',a2',Z,B,A,#[g3,U,T],_]:=(I.evo w).mut3 q;rw[u]at B;cases B;have Y:F b=():=by let#[v,y,y2,rfl,#[#[L,_],_],_]:=I.at q;rw[u]at y;cases y;exact L
    rw[(w.keep b _ z Y).1]at A;cases A;exact#[C,_,.int n,qx,qx,U,by rwa[YT,Ya],k J F1 _ w.ext ?_];have:=T<|a++[n];rwa[YW]at this
   .cases j
  .cases j
def zz(i:Nat):DF->Option RES:=λb=>match b[i]? with
 |some (!.own (.t3 false a _ ts) t)=>!.nx (b.set i<|!.own (.t3 false a [] ts) t)
 |_=>()
def Fm i(h:PE X o (c7 i))(u:iV (.Constant (.int 1) k0 p):=by exact λ_ _=>rfl)(e:attributeBase (.Subscript o (.Constant (.int 1) k0 p) ipos) "clear" X.env (eval (.Subscript o (.Constant (.int 1) k0 p) ipos) X.env)=eval (.Subscript o (.Constant (.int 1) k0 p) ipos) X.env:=by rfl)
  (c:(apos.endLine == cpos.line):=by rfl) (g:swapsWith (.Call (.Attribute (.Subscript o (.Constant (.int 1) k0 p) ipos) "clear" apos) [] [] cpos) () pos.line X.env=pure false:=by rfl) :
  PD1 X (.Expr (.Call (.Attribute (.Subscript o (.Constant (.int 1) k0 p) ipos) "clear" apos) [] [] cpos) pos) (zz i):=
 PS.imp (dU (xL Zb Vl F.type_list_clear wT (r_ lT h lX u) e c) g) λE s H=>un7 λP F z r f I k=>by
  delta zz at f;split at f
  .rename_i a l A t q;cases f;let#[b,J,m,C,bs,y,x,_,#[B,j,w],_]:=I.mut3 q;exact#[_,y,.inr<|.inl #[b,_,_,.ref m,qx,qx,SqT.of x,iP qx,?_]];exact#[.inl #[qx,_,SqL.of j],m,_,qx,qx,j,k s F _ (Same.refl _)<|w []]
  .cases f
def tE(i:Nat)(f:Do):DF->Option RES:=λb=>match b[i]?,f b with
 |some<|!.own (.t3 false a l ts) t,!.lst ds=>match i4 ds with
  |some (x::y)=>if ts.length<16777216 then !.nx (b.set i<|!.own (.t3 false a l<|ts++[x::y]) t) else ()
  |_=>()
 |_,_=>()
open A in
def Ex i{f:Do}(h:PE X o (c7 i))(Z:PDO X e f)(T:iV (.Constant (.int 2) k0 p):=by exact λ_ _=>rfl)(m:attributeBase (.Subscript o (.Constant (.int 2) k0 p) ipos) "append" X.env (eval (.Subscript o (.Constant (.int 2) k0 p) ipos) X.env)=eval (.Subscript o (.Constant (.int 2) k0 p) ipos) X.env:=by rfl)
  (s:((backTo cpos<|starEach [e] X.env).all (λx=>(not<|x.1))&&(backToKw cpos<|keywordEach [] X.env).all (λx=>x.1.isSome)
   && decide (([e]).length+([]:List Keyword).length+(if([]:List Keyword).isEmpty then 0 else 1)<30)):=by rfl)
  (j:(apos.endLine == cpos.line):=by rfl) (hs:starEach [e] X.env=[(false,eval e X.env)]:=by rfl) (z:swapsWith (.Call (.Attribute (.Subscript o (.Constant (.int 2) k0 p) ipos) "append" apos) [e] [] cpos) () pos.line X.env=pure false:=by rfl) :
  PD1 X (.Expr (.Call (.Attribute (.Subscript o (.Constant (.int 2) k0 p) ipos) "append" apos) [e] [] cpos) pos) (tE i f):=
 PS.imp (dU (kU Zb ZN Xe f7 (r_ lT h lX T) (aQ Z bw hs) m s j hs qx) z) λE K H=>un7 λP F L r g I k=>by
  delta tE at g;split at g
  .rename_i a l ts t ds q O;split at g
   .rename_i x y N;split at g
    .rename_i Y;cases g;let#[b,a0,a1,J,bs,h1,h2,_,_,h3,h4,h5,w]:=I.mut3 q;exact#[_,h1,.inr<|.inl #[b,_,_,.ref J,qx,qx,SqT.of h2,iP qx,?_]];exact#[.inl #[qx,_,SqL.of h4],P,F,L,.lst ds,O,I,λc F1 H1 C U=>?_];let#[#[S,R],u,Q,B]:=U;cases u with
     |lst us=>
      let#[rfl,_]:=kA B N;let#[M,A]:=w C S R Q (by simp);exact#[J,_,.ref c,qx,qx,M,by rwa[YT,Ya,h5],k K F1 _ C.ext ?_];rwa[YW]at A
     |_=>exact B.elim
    .cases g
   .cases g
  .cases g
def BV(f:Do):DF->Option OD:=λa=>match f a with
 |some (.t3 false _ l _)=>!.lst (l.map .int)
 |_=>()
def Di{f:Do}(h:PDO X e f)(j:iV (.Constant (.int 1) k0 p):=by exact λ_ _=>rfl):PDO X (.Subscript e (.Constant (.int 1) k0 p) pos) (BV f):=(r_ lT h lX j).imp λx H Q=>un7 λP F i d b I k=>by
 delta BV at b;split at b
 .rename_i B l y q;cases b;exact#[P,F,i,_,q,I,λa w u s m=>?_];let#[z,E,g,C,bs,o,A,c,_]:=m;exact .inr<|.inl #[a,_,_,.ref g,qx,qx,SqT.of o,iP qx,k g w u s #[c.1,_,c.2,Reps.ints _]]
 .cases b
end
open PySem.W
section
variable{d:Addr}{es:Array DictEntry}
def DAt(d:Addr)(es:Array DictEntry)(ep:Nat)(h:Heap):Prop:=∃o,h.get? d=!o/\o.ExactDict/\o.data=.dict es ep
def DAt.type(x:DAt d es ep s.heap):s.TypeIs (.ref d) "dict":=let #[o,h,c,_]:=x;#[o,h,c.1]
def G3(lo:(d == sysModules)=false)(x:DAt d es ep s.heap){Q:Kv}(q:Q (.ref s.heap.objs.size) {s with heap:=s.heap.push {cls:=.type "dict_keyiterator",data:=.fields #[[.ref d,.int 0 0,.int es.size 0,.int ep 0]]} }):wpAny (model prog w) A (pyIter<|.ref d) Q E s:=by
 let h:=x.type;let#[o,a,c,b]:=x;exact wpAny_pyIter_slot h F.slot_dict_iter<|Xr F.slot_dict_iter h F.entry_dict_iter ?_<|F.args_dict_iter_1 _;delta Builtin.«dict.__iter__»;exact Yc ?_;delta Builtin.Dict.dictSlotNone;exact Yc<|wpAny_notOrdered_dict h ?_;exact Yj ?_;show wpAny _ _ (Builtin.Dict.showsAll d>>=_) _ _ s;delta Builtin.Dict.showsAll;rw[Yn<|by rw[lo];exact Yk];exact Yc<|Yj<|Yc<|wpAny_dictEntries a b<|Yc<|wpAny_dictEpoch a b<|Yc<|Xz<|Yj #[_,qx,"dict_keyiterator",_,#[_,Yq _ qx,qx],Xq.lookup,by simpa[rawInt]using q]
def zS(u:A.handled=())(x:DAt d es ep s.heap)(h:s.heap.IsKeyIter I d i es.size ep){Q:Ko}(q1:∀hi h',h'.IsKeyIter I d (i+1) es.size ep->(∀b o,b≠I->s.heap.get? b=!o->h'.get? b=!o)->Q (some es[i].key) {s with heap:=h' })(q:es.size<=i->∀h',(∀b o,b≠I->s.heap.get? b=!o->h'.get? b=!o)->Q () {s with heap:=h' }):wpAny (model prog w) A (pyNext<|.ref I) Q E s:=by
 let#[o,l,B,j]:=id h;let#[K,f,z,g]:=x;delta pyNext;exact Yc<|wpAny_attempt<|wpAny_callSpecial?_slot h.typeIs Xq<|Xr Xq h.typeIs F.entry_dict_keyiterator_next ?_<|F.args_dict_keyiterator_next_1 _;exact Yc<|Yj<|Yc<|Yc ?_;exact Yc<|XM h.typeIs<|Yj ?_;exact Yc<|wpAny_fieldsOf l j ?_;have c:Builtin.Dict_items.ownsTuple "dict_keyiterator"=false:=by decide
 simp only[c,ZQ,XV];show wpAny _ _ (if(Value.ref d == Value.none) then _ else _) _ _ s;rw[Yn<|show ¬((Value.ref d == Value.none))from Yk];exact Yc<|Yj<|Yc<|wpAny_dictEntries f g ?_;rw[Yn<|by simp];exact Yc<|Yj<|Yc<|wpAny_dictEpoch f g ?_;rw[Yn<|by simp];exact Yj ?_;rcases Nat.lt_or_ge i es.size with hi|hi
 .simp only[show ¬(i<0)from by lia,XV,Zj,Vd hi];exact Yc<|Yc<|XM h.typeIs<|Yj ?_;exact Yc<|wpAny_isOneOf_keyiter h.typeIs ?_;show wpAny _ _ (setField _ 1 _>>=_) _ _ s;exact Yc<|Xw l j (by simp) ?_;have a:(s.heap.update I<|Obj.mapFields (·.setIfInBounds 1<|rawInt<|i+1)).IsKeyIter I d (i+1) es.size ep:=
   #[_,Xu _ l<|Obj.isFreed_of_fields<|Vs j _,(Obj.cls_mapFields ..).trans B,by rw[Vs j];simp[rawInt]]
  exact Yc<|Xa<|Yc<|wpAny_isOneOf_keyiter a.typeIs ?_;exact Yj<|Yj #[_,qx,Yj<|q1 hi _ a (Heap.SameBut.update ..).extBut]
 .simp only[show ¬(i<0)from by lia,XV,Zj,Array.getElem?_eq_none hi];exact Yc<|Yc<|XM h.typeIs<|Yj ?_;show wpAny _ _ (setField (.ref I) 0 .none>>=_) _ _ s;exact Yc<|Xw l j (by simp) ?_;exact uQ (s:={s with heap:=_}) (by simpa using u) λe m #[p,J,H] y=>?_;exact Yc<|Vg (s:={s with heap:=m}) (b:=true) (T := "StopIteration") #[p,J,H] isSubtype_stop<|Yj<|q hi m λb o C e=>y b o<|(Heap.SameBut.update ..).extBut b o C e
def Jm(lo:(d == sysModules)=false):KdlSrc prog w "dict" d d es.size (λi v=>∃hi:i<es.size,v=es[i].key) (DAt d es ep) where
 type:=λ_ x=>x.type
 there:=λ_ x=>let #[_,h,_]:=x;#[Yw h,Yw h]
 keep:=λ_ _ x k=>let #[o,h,r]:=x;#[o,k d (.inl qx) o h,r]
 notList:=by decide
 notTuple:=by decide
 hint:=λ_ _ _ _ x q=>kdl_hint_dict x.type q
 iter:=λA s m x=>#[_,λi h=>DAt d es ep h/\h.IsKeyIter s.heap.objs.size d i es.size ep,λ_ _ q=>G3 lo x q,by
  have g:=let #[_,h,_]:=x;Yz<|Yw h
  generalize s.heap.objs.size=I at g;exact{
   sub:=λb f=>by simp at f;simp[f]
   frame:=λi h l c k=>by
    let#[#[o,a,r],u,b,p]:=c;exact#[#[o,k d (by simp) _ a,r],u,k I (by simp) _ b,p]
   item:=λi s Q E hi c j=>zS m c.1 c.2 (λhi l y k=>j _ l s.toks #[hi,rfl] #[let #[o,a,r]:=c.1;#[o,k d o g a,r],y] λb o f e=>k b o (λz=>f<|by simp[z]) e) λz=>absurd hi<|Nat.not_lt.mpr z
   done:=λs Q E c j=>zS m c.1 c.2 (λhi=>absurd hi<|Ze _) λ_ l k=>j l s.toks λb o f e=>k b o (λz=>f<|by simp[z]) e
   self:=λi s Q E c j=>wpAny_pyIter_keyiter c.2 j},
  #[let #[o,h,r]:=x;#[o,Yf _ h,r],_,Yq _ qx,qx,qx]]
end
section
variable{lp:Pos}
def wo:∀bs:List Addr,Vals (bs.map V.ref) (bs.map Value.ref)
 |[]=>.nil
 |_::r=>.cons rfl<|wo r
def xz(R:X.calm=true):CallR X (.type "list") (λxs H Q=>∃a,∃vs:List (List Key×V),xs=[.ref a]/\H a=!.dT vs/\∀l (bs:List Addr),H l=()->bs.length=vs.length->(vs.map (·.1)).Nodup->(∀(j:Nat) (k:List Key),(vs.map (·.1))[j]?=!k->∃b,bs[j]?=!b/\H b=!.tup (k.map kV))->Q (.ref l) (upd H l (.lst (bs.map .ref)))):=by
 intro pz s σ H xs us Q I r h;let#[a,vs,rfl,x,k]:=h;let#[u,rfl,B]:=fB r;cases B;let#[z,lo,xs,r,o,q,ep,U,T,S,p,y]:=(show ObjOk X.prog X.w H s.heap a (.dT vs)from I.hok a _ x)
 have P:vs.length=xs.length/\vs.map (·.1)=xs.map (·.1)/\∀(j:Nat) (k:List Key),(vs.map (·.1))[j]?=!k->∃b,(xs.map (·.2.1))[j]?=!b/\H b=!.tup (k.map kV):=by
  clear p y z k x;induction r with
  |nil=>exact#[qx,qx,λj k h=>by cases h]
  |cons h _ ih=>
   let#[M,L,K]:=ih;exact#[YU Nat.succ M,by rw[YF,YF,L,h.1],λj k e=>?_];cases j with
   |zero=>cases e;exact#[_,qx,h.2.1]
   |succ j=>exact K j k e
 let#[g,E,C]:=P;have le:q.size=xs.length:=by rw[<-Zr,p,Ya]
 exact PySem.W.kdl_call (Jm lo) (I.ok.hd R) #[o,U,T,S] (by rw[le,<-g];exact z) λh' A c Z J f m=>?_;exact#[.ref s.heap.objs.size,_,I.laid (t':=A) (o:=.lst ((xs.map (·.2.1)).map .ref)) J (Yp _) #[by rw[Ya,Ya,<-g];exact z,c.toList,Z,?_,by simpa using f],qx,k _ _ (I.hok.fresh (Yp _)) (by rw[Ya,g]) (by rw[E];exact y) C];have:c.toList=(xs.map (·.2.1)).map Value.ref:=by
  let#[O,N]:=m;apply List.ext_getElem (by simp[O,le]);intro i a1 a2;let#[b1,b2]:=N i c[i] (by simp);have Y:q[i]=q.toList[i]:=by simp
  simp only[Array.getElem_toList,b2,Y,p,List.getElem_map];rfl
 rw[this];exact wo _
end
def kD:Key->D
 |.inl i=>.int i
 |.inr s=>.str s
def Reps.key:∀k:List Key,Reps K F (k.map kV) (k.map kD)
 |[]=>.nil
 |.inl _::r=>.cons .int<|Reps.key r
 |.inr _::r=>.cons .str<|Reps.key r
def RepsT.keys{vs}{ds}(h:RepsT K H vs ds):vs.map (·.1)=ds.map (·.1):=RepsT.ind (M:=λvs ds=>vs.map (·.1)=ds.map (·.1)) qx (λ_ _ ih=>by rw[YF,YF,ih]) h
def Hr(f:Dd):DF->Option (List D):=λa=>match f a with
 |some (.dT kvs)=>!(kvs.map λp=>.tup<|p.1.map kD)
 |_=>()
def GR{x}(r:Rep K H x (.dT kvs)):∃a vs,x=.ref a/\H a=!.dT vs/\vs.map (·.1)=kvs.map (·.1):=by cases r with|dT h q=>exact#[_,_,qx,h,q.keys]
def B7(f:Dd)(is:List Nat)(c:Dk)(v:Dd):DF->Option RES:=d5 (Hr f) (gT is)<|dIf c (aY v) dNx
open A in
def F6{tc tv}{k0}{tp lp ip rp}{f v:Dd}{c:Dk}(hp:PassesOwn (model X.prog X.w) X.A X.env X.xe)(hc:X.calm)(hg:Gl X "list")(hm:X.mg "list"=())(h1:PDN X o f)(hgs:PGs X es<|sU is)(htc:PDT X tc c)(htv:PDE X tv v)(hn:(assignEach es X.env).length=is.length:=by rfl)(hst:(assignEach es X.env).findIdx? (·.1)=():=by rfl)(U:starEach [o] X.env=[(false,eval o X.env)]:=by rfl)(hf:∀y,foldedSetIterable (.Call (.Name "list" lp) [o] [] lq) X.env y=pure y:=by intro _;rfl):PD1 X (.For (.Tuple es k0 tp) (.Call (.Name "list" lp) [o] [] lq) [.If tc [.Return (!tv) rp] [] ip] [] fpos) (B7 f is c v):=
 PS.imp (xI hp hc (nY<|eD (xz hc) hg hm boot_list (aQ h1 bw U) (he:=U)) (CW hc hgs hn hst)
  (nZ<|Hn htc (nZ<|mN htv) zH) hf) λE σ H=>un7 λP F ρ r O I k=>by
  let#[ds,qd,O]:=YK.mp O;delta Hr at qd;split at qd
  .rename_i g q;cases qd;exact#[P,F,ρ,.dT g,q,I,λx F1 H1 ev rx=>?_];let#[a,vs,rfl,ha,hk]:=GR rx;exact#[a,vs,qx,ha,λl bs hl bl nd bt=>#[l,qx,#[_,SqL.of aD],?_]];rw[hk]at bt nd;have lk:bs.length=g.length:=by rw[bl];have:=YU List.length hk;rwa [Ya,Ya]at this
   let ev1:=Evo.side (o:=.lst<|bs.map .ref) (I.evo ev).toDHp hl;exact#[λj m L S=>m=g.length-j/\j<=g.length/\∃F' s,Same F F'/\DInv X.K P F' S s L/\eV _ _ ((g.map λp=>D.tup<|p.1.map kD).drop j) s=!r/\S l=!.lst _/\(∀j (k:List Key),(g.map (·.1))[j]?=!k->∃b,bs[j]?=!b/\S b=!.tup (k.map kV)),
    #[_,qx,YN _,F1,ρ,ev.ext,(I.evo ev).evo ev1,O,aD,λj k e=>by
     let#[b,b1,b2]:=bt j k e;exact#[b,b1,by rw[az λz=>by rw[z,hl]at b2;cases b2];exact b2]],?_]
   rintro j m L S ⟨rfl,hj,F',s,sF,J,h,hL,hT⟩;by_cases Q:j<g.length
   .have e0:(g.map (·.1))[j]?=!g[j].1:=by rw[Yt,Yi];rfl
    have hd:(g.map λp=>D.tup<|p.1.map kD).drop j=D.tup (g[j].1.map kD)::(g.map λp=>D.tup<|p.1.map kD).drop (j+1):=by rw[ZK<|by rwa[Ya],List.getElem_map]
    rw[hd]at h;generalize g[j].1=ky at e0 h;let#[b,b1,b2]:=hT _ _ e0;have Z:(bs.map V.ref)[j]?=!.ref b:=by rw[Yt,b1];rfl
    delta eV at h;cases C:gT is _ s with
    |none=>rw[C]at h;cases h
    |some i=>
     rw[C]at h;exact .inr #[#[_,_,SqL.of hL,Z],λN H2=>∃R M,Same F R/\DInv X.K P R H2 M N/\eV (gT is) (dIf c (aY v) dNx) ((g.map λp=>D.tup<|p.1.map kD).drop<|j+1) M=!r/\Same S H2,
      λN H2 #[R,M,c1,c2,c3,c4]=>#[g.length-(j+1),by lia,rfl,Q,R,M,c1,c2,c3,c4 _ _ hL,λj k e=>by
       let#[b,x1,x2]:=hT j k e;exact#[b,x1,c4 _ _ x2]],λu H3 hy=>?_]
     let#[rfl,hy2]:=hy;let t':=hy2 _<|SqL.of hL;rw[Z]at t';cases t';have Y:wj is (ky.map kD) s=!i:=C;exact#[b,_,qx,SqT.of b2,by have:=mE is _ _ _ Y;rw[Ya]at this ⊢;exact this,lJ is _ (ky.map kD) s i L (Reps.key ky) Y J λN J2 _ _=>?_];dsimp only at h;cases T:c i with
     |none=>simp only[dIf,T,Option.bind_none]at h;cases h
     |some tb=>
      exact#[P,F',i,tb,T,J2,λR H2 B=>?_];cases tb with
      |true=>
       rw[Yl qx];cases qv:v i with
       |none=>simp[dIf,T,aY,qv]at h
       |some d=>
        have O:some (RES.rt (.v d) i)=!r:=by simpa[dIf,T,aY,qv]using h
        cases O;exact#[P,R,i,d,qv,J2.evo B,λw F3 H3 ev3 rw3=>k w _ F3 H3 (sF.trans<|B.ext.trans ev3.ext) ((J2.evo B).evo ev3) rw3]
      |false=>
       rw[Yn Yk];have O:eV (gT is) (dIf c (aY v) dNx) ((g.map λp=>D.tup<|p.1.map kD).drop<|j+1) i=!r:=by simpa[dIf,T,dNx]using h
       exact#[R,i,sF.trans B.ext,J2.evo B,O,B.same J2.toDHp]
   .have e1:(g.map λp=>D.tup<|p.1.map kD).drop j=[]:=ZX (by rw[Ya];lia);rw[e1]at h;cases h;exact .inl #[#[_,SqL.of hL,by rw[Ya];lia],k L F' S sF J]
  .cases qd
end L2
namespace L2
open PySem PySem.Spec PyProof.Rows
def zA(i ix:Nat):DF->Option RES:=λa=>match a[i]? with
 |some (!.own (.t3 false _ _ _) _)=>if ix<a.length then !.nx ((a.set i ()).set ix ()) else ()
 |_=>()
def Fx{k0}{B}i ix(hp:PassesOwn (model X.prog X.w) X.A X.env X.xe)(U:X.calm)
  (h1:PE X o<|c7 i) (hg:PG X (.Name x p1)<|k8 ix) (hx:PE X (.Name x p2)<|c7 ix) (hpl:iV (.Constant (.int 2) k0 p):=by exact λ_ _=>rfl)
  (Q:attributeBase (.Name x p2) "reverse" X.env (eval (.Name x p2) X.env)=eval (.Name x p2) X.env:=by rfl)
  (M:(apos.endLine == cpos.line):=by rfl) (hsw:swapsWith (.Call (.Attribute (.Name x p2) "reverse" apos) [] [] cpos) () B.line X.env=pure false:=by rfl)
  (hf:∀y,foldedSetIterable (.Subscript o (.Constant (.int 2) k0 p) ipos) X.env y=pure y:=by intro _;rfl) :
  PD1 X (.For (.Name x p1) (.Subscript o (.Constant (.int 2) k0 p) ipos) [.Expr (.Call (.Attribute (.Name x p2) "reverse" apos) [] [] cpos) B] [] pos) (zA i ix):=
 PS.imp (xI hp U (nY<|r_ lT h1 lX hpl) hg
  (nZ<|dU (xL Zb F.slot_list_reverse F.type_list_reverse xh hx Q M) hsw) hf) λE σ H=>un7 λP F ρ r T I k=>by
  delta zA at T;split at T
  .rename_i f l ts t q;split at T
   .rename_i l0;cases T;let#[O,hR]:=I.rep;let#[_,s1,a,rfl,#[oa,a0,a1,a2,bs,h2,h3,h4,h5,h6,n1,n2,n3,n4,n5,n6],_]:=hR i _ q;exact#[_,s1,.inr<|.inl #[a,_,_,.ref a2,qx,qx,SqT.of h2,iP qx,a2,qx,#[_,SqL.of h5.2],?_]];exact#[λj m b H'=>m=bs.length-j/\j<=bs.length/\b.length=σ.length/\(∀n,n≠ix->b[n]?=σ[n]?)/\(∀c,¬c∈bs->H' c=H c)/\∀g∈bs,∃S,H' g=!.lst S,
     #[_,qx,YN _,qx,λ_ _=>rfl,λ_ _=>rfl,λg h=>by let#[t,_,_,e]:=h6.memL h;exact#[_,e]],?_]
    rintro j m b H' ⟨rfl,hj,s,Y,J,sz⟩;have K:H' a2=!.lst (bs.map .ref):=by rw[J a2 n6];exact h5.2
    by_cases L:j<bs.length
    .have hgj:bs[j]?=some bs[j]:=Yi L;have h:=Xf L;generalize bs[j]=g at hgj h;have hg':(bs.map V.ref)[j]?=!.ref g:=by rw[Yt,hgj];rfl
     exact .inr #[#[_,_,SqL.of K,hg'],λC R=>C.length=σ.length/\(∀n,n≠ix->C[n]?=σ[n]?)/\(∀c,¬c∈bs->R c=H c)/\∀g∈bs,∃S,R g=!.lst S,
      λC R hh2=>#[bs.length-(j+1),by lia,rfl,L,hh2],λu H3 hy=>?_]
     let#[rfl,hy2]:=hy;let t:=hy2 _<|SqL.of K;rw[hg']at t;cases t;let#[S,y1]:=sz g h;have hset:ix<b.length:=by rwa[s,<-I.len]
     exact#[.ref g,by rw[ZJ hset],.inl #[qx,S,SqL.of y1],g,S,qx,qx,y1,?_];exact#[by rwa[Zg],λn hn=>by rw[Zl<|XE hn];exact Y n hn,λc U=>by rw[az (λz:c=g=>U<|by rwa[z])];exact J c U,λw' hw=>?_];by_cases Z:w'=g
     .subst Z;exact#[_,aD]
     .let#[zs,z1]:=sz w' hw;exact#[zs,by rw[az Z];exact z1]
    .exact .inl #[#[_,SqL.of K,by rw[Ya];lia],k b F H' (Same.refl _) ?_];exact AZ (ia:=i) (ib:=i) I.toDHp hR (λc U=>?_) J (λm x hx=>?_)<|by rw[Zg,Zg,s];exact I.len
     .let#[t,#[z1,z2,z3],_]:=h6.memL U;exact#[z1,z2,.inr<|.inl z3]
     .have hi:m≠ix:=λz=>by subst z;rw[List.getElem?_set]at hx;split at hx<;>first|(split at hx<;>cases hx)|exact absurd qx ‹_›
      rw[Zl<|XE hi]at hx;have N:m≠i:=λz=>by subst z;rw[List.getElem?_set]at hx;split at hx<;>first|(split at hx<;>cases hx)|exact absurd qx ‹_›
      rw[Zl<|XE N]at hx;exact#[hx,N,N,Y m hi]
   .cases T
  .cases T
end L2
namespace My
abbrev Qj:=List Int
open PySem PySem.Spec PyProof.Rows L2
noncomputable section
def KF(i:Nat):Stmt:=Challenge.pw_tieword_k12_a_search_walked.main.body.getD i<|.Pass #[0,0,0,0]
def top(i:Nat):Stmt:=if i<1000 then KF i else F7 (KF<|i/1000)<|i%1000
def rT:List Rw:=[#[2,25,0,196,199,0],#[3,30,0,202,205,0],#[4,35,0,208,211,0],#[5,42,0,214,219,1],#[6,49,0,222,229,1],#[7,56,0,232,237,1],#[8,63,0,240,244,1],#[9,68,0,247,250,0],#[10,75,0,253,259,1],#[11,80,0,262,265,0],#[15,91,1,278,281,0],#[16,96,1,284,287,0],#[17,101,1,290,293,0],#[18,106,1,296,299,0],#[19000,120,1,314,319,1],#[19001,127,1,322,329,1],#[19002,134,1,332,339,1],#[19003,139,1,342,345,0],#[19004,146,1,348,353,1],#[19005,153,1,356,366,1],#[20,167,1,384,389,1],#[21,174,1,392,396,1],#[22,181,1,399,403,1],#[32,235,2,482,485,0],#[33,242,2,488,492,1],#[34,249,2,495,501,1],#[35,256,2,504,511,1],#[36,263,2,514,518,1],#[37,270,2,521,527,1],#[38,277,2,530,539,1],#[39000,289,2,554,557,0],#[39001,296,2,560,564,1],#[39002,303,2,567,573,1],#[41,324,3,597,602,1],#[42,331,3,605,610,1],#[43,338,3,613,617,1],#[45,350,3,626,633,1],#[46,357,3,636,650,1],#[47,364,3,653,660,1],#[48,371,3,663,669,1],#[49,376,3,672,675,0],#[50,383,3,678,690,1],#[51,390,3,693,703,1],#[52,395,3,706,709,0],#[53,400,3,712,715,0],#[54,407,3,718,726,1],#[55,414,3,729,737,1],#[56,419,3,740,743,0],#[57,424,3,746,749,0],#[58,429,3,752,755,0],#[59,434,3,758,761,0],#[60,439,3,764,767,0],#[61,444,3,770,773,0]]
def row(i:Nat):Option Rw:=rT.find? (·.i == i)
def qn(i:Nat):Str:=(([(19000,"Search.__init__"),(19001,"Search.begin"),(19002,"Search.arrive"),(19003,"Search.left_out"),(19004,"Search.on_first"),(19005,"Search.go"),(39000,"Web.__init__"),(39001,"Web.size"),(39002,"Web.between")]:List<|Nat×Str).lookup i).getD<|gH<|top i
def mdl(m:Nat):Value:=match m with
 |0=>.str "tieword.parting" 194
 |1=>.str "tieword.search" 276
 |2=>.str "tieword.webs" 474
 |3=>.str "law_tieword_k12_a_search_walked" 595
 |_=>.str "tieword.reach" 268
def fA(i:Nat):Addr:=((row i).map (·.a+1)).getD 0
def dA(i:Nat):FuncData:=((row i).map λr=>fnD (qn i) (top i) (mdl r.m) r.a).getD<|fnD "" (top 0) .none 0
def ah:Addr:=157
def fR:Addr:=87
def dR:FuncData:=PySem.W.fnOf "reached" "reached" (defArgs<|top 13) (defBody<|top 13) (defScope<|top 13) (.ref 82) .none .none (mdl 4) () (.ref 86) .none
set_option genInjectivity false
set_option genSizeOf false
set_option genSizeOfSpec false
structure Adr where
 C:Addr
 tk_MOST_PLACES:Tok
 tk_MOST_TIES:Tok
 tk_MOST_LETTERS:Tok
structure Txt (K:PySem.W.Frag) (mg:Str->Option Value) (t:Adr):Prop where
 dd:∀i,(row i).isSome=true->Df K (qn i) (top i) (fA i) (dA i)/\(i<1000->mg (gH (top i))=!.ref (fA i))
 nol:v6 K=true
 cl:Cls K t.C
 mkC:Mk K t.C (fA 39000)
 mgC:mg "Web"=!.ref t.C
 na_joins:NoAttr K t.C "joins"
 na_kinds:NoAttr K t.C "kinds"
 na_ties:NoAttr K t.C "ties"
 naR_best_row:NoAttr K ah "best_row"
 naR_first:NoAttr K ah "first"
 naR_first_row:NoAttr K ah "first_row"
 naR_least:NoAttr K ah "least"
 naR_turnings:NoAttr K ah "turnings"
 naR_way:NoAttr K ah "way"
 naR_web:NoAttr K ah "web"
 cl_Search:Cls K ah
 mk_Search:Mk K ah (fA 19000)
 mg_Search:mg "Search"=!.ref ah
 mt_Web_between:Meth K t.C "between" (fA 39002)
 mt_Search_begin:Meth K ah "begin" (fA 19001)
 mt_Search_arrive:Meth K ah "arrive" (fA 19002)
 fn_reached:FunD K "reached" "reached" (top 13) fR dR
 bd_reached:Binds K dR ["starts","onward","most"] [Value.none]
 g_reached:mg "reached"=!.ref fR
 mt_Search_left_out:Meth K ah "left_out" (fA 19003)
 mt_Web_size:Meth K t.C "size" (fA 39001)
 mt_Search_on_first:Meth K ah "on_first" (fA 19004)
 mt_Search_go:Meth K ah "go" (fA 19005)
 b_all:mg "all"=none
 b_bool:mg "bool"=none
 b_dict:mg "dict"=none
 b_enumerate:mg "enumerate"=none
 b_int:mg "int"=none
 b_isinstance:mg "isinstance"=none
 b_len:mg "len"=none
 b_list:mg "list"=none
 b_min:mg "min"=none
 b_range:mg "range"=none
 b_set:mg "set"=none
 b_sorted:mg "sorted"=none
 b_tuple:mg "tuple"=none
 c_MOST_PLACES:mg "MOST_PLACES"=!.int 7 t.tk_MOST_PLACES
 c_MOST_TIES:mg "MOST_TIES"=!.int 12 t.tk_MOST_TIES
 c_MOST_LETTERS:mg "MOST_LETTERS"=!.int 3 t.tk_MOST_LETTERS
 ch:PySem.W.codeHdIn K (nat_lit 139) (nat_lit 137)=true
 tb:gt K (nat_lit 137) "Search.left_out.<locals>.<lambda>" #[98,39,98,86]
def FP:Expr:=match defBody (top 19003)with|[_,.Return (!.Compare _ _ [.Call _ [_,l] _ _] _) _]=>l|_=>.Constant .none 0 #[0,0,0,0]
def Ml:Arguments:=match FP with|.Lambda p _ _ _=>p|_=>defArgs<|top 19003
def Mm:Expr:=match FP with|.Lambda _ b _ _=>b|_=>FP
def Ie:Scope:=match FP with|.Lambda _ _ s _=>s|_=>defScope<|top 19003
def Mr:Pos:=#[98,39,98,86]
def I0:LamS:=#["Search.left_out.<locals>.<lambda>",Ml,Mm,Ie,"at","leaving",true]
def LH:LamW:=#[I0,nat_lit 137,Mr]
def Iu:I0.Ok:=#[qx,qx,qx,qx,qx,qx,λy h=>#[(by decide+kernel:∀p∈Ie.names,p.2=.cell->p.1 = "at") _ (Zv h) rfl,rfl],nofun,λ_ _ _=>rfl,λ_ _=>rfl,λy h=>(by decide+kernel:∀p∈Ie.names,p.2=.free->p.1 = "leaving") _ (Zv h) qx,λ_ _ _ _ _=>rfl]
def Txt.F(T:Txt K mg t)i(h:(row i).isSome:=by kernel_rfl):Df K (qn i) (top i) (fA i) (dA i):=(T.dd i h).1
def Txt.G(T:Txt K mg t)i(h:(row i).isSome:=by kernel_rfl)(h2:decide (i<1000):=by kernel_rfl):Df K (qn i) (top i) (fA i) (dA i)/\mg (gH (top i))=!.ref (fA i):=#[(T.dd i h).1,(T.dd i h).2<|YE h2]
variable{P:Program}{t:Adr}
abbrev K0:PySem.W.Frag:=[]
abbrev Ok(P:Program)(w:World)(K:Kq)(mg:Ks)(base:Heap)(t:Adr)(i k:Nat)(m:Addr->List DV->Option DV):Prop:=FnOk P w K mg base CX0 k (fA i) (dA i) (eU<|top i)<|spD K<|m t.C
def kH(C:Addr):DF->Option RES:=
  (aY<|d2 bg (d2 kB (d2 aU (d2 bg (ac 0)<|cI 2147483647)<|cI 1)<|ac 1)<|cI 2147483647)
def bx(C:Addr):List DV->Option DV:=mOf 2 2<|kH C
def nIq(i:Nat):List Str:=((defScope<|top i).names.filter λp=>match p.2 with|.globalImplicit=>false|_=>true).map (·.1)
seal PDE PDR PDN PDO PDT PDS PD1 kf PDL PDI PDG PDW d2 d1 ac getV ap asB asO asL asT ag aj aC bC am dIf aY d5 aU bg bi l8 kB qN ixD eqD neD ltd gtI
def dO(T:Txt K mg t):Ok P w K mg base t 42 1 bx:=
 (T.F 42).okI (nIq 42) λh=>by ext
def qD(C:Addr):DF->Option RES:=
  (am (dIf (asB<|d2 ltd (ap 1)<|d1 bU<|ap 0) (aY<|d2 ixD (ac 0)<|ac 1) dNx)
 <|aY<|cI 0)
def dM(C:Addr):List DV->Option DV:=mOf 2 2<|qD C
def lI(T:Txt K mg t):Ok P w K mg base t 41 1 dM:=
 (T.F 41).okI (nIq 41) λh=>by ext
def oE(C:Addr):DF->Option RES:=
  (am (aC 2<|cI 0)
 <|am (d5 (bu 0) (setV 3)<|aC 2<|d2 bg (d2 aU (d2 kB (ac 2)<|cI 1000003)<|ac 3)<|ac 1)
 <|aY<|getV 2)
def gi(C:Addr):List DV->Option DV:=mOf 4 2<|oE C
def vL(T:Txt K mg t):Ok P w K mg base t 45 1 gi:=
 (T.F 45).okI (nIq 45) λh=>aa (by ext)<|aa (pfI (iA 0) (b5 3)<|by ext)<|by ext
def nG(C:Addr):DF->Option RES:=
  (am (bC 3<|asL<|eC<|getV 1)
 <|am (bC 4<|asL aE)
 <|am (d5 (cZ<|ac 1) (setV 5)<|am (aC 6<|aj (bx C)<|aV (d2 aU (aj (dM C)<|aB 0<|aB 5 nA)<|d2 kB (ac 5)<|ac 5)<|aB 2 nA)
 <|iI 4 3<|d2 bg (d2 bi (ac 6)<|cI 3)<|d1 bU<|ap 3)
 <|iX 4)
def da(C:Addr):List DV->Option DV:=mOf 7 3<|nG C
def kT(T:Txt K mg t):Ok P w K mg base t 51 2 da:=
 (T.F 51).okI (nIq 51) λh=>aa (ir 3<|e8 qx qx T.b_list qx T.b_range<|aJ 1)<|aa (by ext)<|aa (pfI (by ext) (b5 5)<|aa (bN 6<|pcI (dO T) (T.G 42) h<|aP (aT (PDE.r<|pcI (lI T) (T.G 41) h<|by ext)<|by ext)<|by ext)<|ai<|AY 4 3 (pv 4) (pv 3)<|by ext)<|by ext
def mU(C:Addr):DF->Option RES:=
  (am (aC 2<|aj (bx C)<|aV (aj (dM C)<|aB 0<|aV (cI 1) nA)<|aV (cI 1207959571) nA)
 <|am (aC 3<|d2 aU (cI 1)<|d2 bg (ac 2)<|cI 3)
 <|am (aC 4<|d2 bg (d2 bi (ac 2)<|cI 3)<|ac 3)
 <|am (aC 5<|d2 bg (d2 bi (ac 2)<|cI 9)<|cI 11)
 <|am (bC 6<|asL aE)
 <|am (d5 (cZ<|cI 2) (setV 7)<|am (aC 8<|d2 ixD (λ_=>!(.str "abcdefghijkl"))<|d2 aU (ac 5)<|ac 7)
 <|du 6<|d2 aU (d2 aU (d2 lU (λ_=>!(.str "m"))<|ac 4)<|ac 8)<|d2 lU (λ_=>!(.str "m"))<|d2 l8 (d2 l8 (ac 3)<|cI 1)<|ac 4)
 <|am (du 6<|d2 lU (λ_=>!(.str "m"))<|ac 3)
 <|am (dIf (asB<|d2 eqD (d2 bg (d2 bi (ac 2)<|cI 396)<|cI 3)<|cI 0) (am (aC 8<|d2 ixD (λ_=>!(.str "abcdefghijkl"))<|ac 5)
 <|bC 6<|asL<|ag (d2 ixD (λ_=>!(.str "abcdefghijkl"))<|d2 aU (ac 5)<|cI 1)<|ag (d2 aU (ac 8) λ_=>!(.str "m"))<|ag (getV 8) aE) dNx)
 <|am (aC 9<|d2 ixD (asO<|asL<|ag (cI 1)<|ag (cI 1)<|ag (cI 2)<|ag (cI 3) aE)<|d2 bg (d2 bi (ac 2)<|cI 99)<|cI 4)
 <|am (bC 10<|asL aE)
 <|am (d5 (cZ<|ac 1) (setV 7)<|du 10<|d2 ixD (ac 6)<|d2 bg (d2 bi (aj (bx C)<|aV (d2 aU (ac 2)<|d2 kB (ac 7)<|ac 7)<|aV (cI 1618033989) nA)<|cI 7)<|ac 9)
 <|iX 10)
def cR(C:Addr):List DV->Option DV:=mOf 11 2<|mU C
def lF(T:Txt K mg t):Ok P w K mg base t 46 2 cR:=
 (T.F 46).okI (nIq 46) λh=>aa (bN 2<|pcI (dO T) (T.G 42) h<|aP (pcI (lI T) (T.G 41) h<|by ext)<|by ext)<|aa (by ext)<|aa (by ext)<|aa (by ext)<|aa (by ext)<|aa (pfI (by ext) (b5 7)<|by ext)<|aa (by ext)<|aa (by ext)<|aa (by ext)<|aa (by ext)<|aa (pfI (by ext) (b5 7)<|ai<|bH 10 (pv 10)<|aN (aw 6)<|PDE.r<|bv (PDE.r<|bS (PDE.r<|pcI (dO T) (T.G 42) h<|by ext)<|by ext)<|aw 9)<|by ext
def nH(C:Addr):DF->Option RES:=
  (am (aC 5<|asO<|asL<|aI 1 [2,3] (cZ<|cI 6) (setV 0) bf<|asT<|ag (getV 0)<|ag (d2 bg (d2 aU (ac 0)<|cI 1)<|cI 6)<|ag (getV 1)<|ag (getV 2) aE)
 <|am (aC 6<|cI 6)
 <|am (dIf (fV (asB<|d2 gtI (ac 4)<|cI 6)<|asB<|d2 eqD (d2 bg (ac 1)<|cI 2)<|cI 0) (am (aC 5<|asO<|asL<|aI 1 [2,3] (cZ<|cI 3) (setV 0) bf<|asT<|ag (getV 0)<|ag (d2 bg (d2 aU (ac 0)<|cI 1)<|cI 3)<|ag (getV 1)<|ag (getV 2) aE)
 <|am (aC 5<|d2 aU (ac 5)<|asO<|asL<|aI 1 [2,3] (cZ<|cI 4) (setV 0) bf<|asT<|ag (d2 aU (cI 3)<|ac 0)<|ag (d2 aU (cI 3)<|d2 bg (d2 aU (ac 0)<|cI 1)<|cI 4)<|ag (getV 1)<|ag (getV 2) aE)
 <|aC 6<|cI 7)<|am (aC 7<|d2 bg (d2 aU (ac 2)<|cI 1)<|d2 qN (cI 10)<|cI 30)
 <|aC 5<|d2 aU (ac 5)<|asO<|asL<|ag (asT<|ag (cI 0)<|ag (cI 2)<|ag (getV 7)<|ag (λ_=>!.bl false) aE)<|ag (asT<|ag (cI 3)<|ag (cI 5)<|ag (getV 7)<|ag (λ_=>!.bl false) aE)<|ag (asT<|ag (cI 1)<|ag (cI 4)<|ag (getV 7)<|ag (λ_=>!.bl false) aE) aE)
 <|am (aC 8<|aj (da C)<|aB 0<|aV (getV 6)<|aV (cI 742938285) nA)
 <|am (aC 9<|asO<|asL<|aI 1 [0] (cZ<|ac 6) (setV 0) bf<|d2 ixD (aj (cR C)<|aB 1<|aV (cI 1) nA)<|cI 0)
 <|aY<|asT<|ag (getV 9)<|ag (asO<|asL<|aI 1 [8] (bu 5) (setV 0) bf<|asT<|ag (d2 ixD (ac 1)<|d2 ixD (ac 0)<|cI 0)<|ag (d2 ixD (ac 1)<|d2 ixD (ac 0)<|cI 1)<|ag (d2 ixD (ac 0)<|cI 2)<|ag (d2 ixD (ac 0)<|cI 3) aE) aE)
def fG(C:Addr):List DV->Option DV:=mOf 10 5<|nH C
def uC(T:Txt K mg t):Ok P w K mg base t 52 3 fG:=
 (T.F 52).okI (nIq 52) λh=>aa (xU 5 ["_law_k","_law_kind","_law_oneway"] 1 [2,3] [0] (by ext) (b5 0) cJ<|by ext)<|aa (by ext)<|aa (bn (by ext) (aa (xU 5 ["_law_k","_law_kind","_law_oneway"] 1 [2,3] [0] (by ext) (b5 0) cJ<|by ext)<|aa (bN 5<|aT (aw 5)<|PDE.r<|PDO.v<|fJ ["_law_k","_law_kind","_law_oneway"] 1 [2,3] [0] (by ext) (b5 0) cJ<|by ext)<|by ext)<|by ext)<|aa (bN 8<|pcI (kT T) (T.G 51) h<|by ext)<|aa (xU 9 ["_law_place","_law_script"] 1 [0] [0] (by ext) (b5 0) cJ<|aN (PDE.r<|pcI (lF T) (T.G 46) h<|by ext)<|by ext)<|ai<|aR<|aS<|af (aJ 9)<|af (PDO.v<|fJ ["_law_tie","_law_order_here"] 1 [8] [0] (iA 5) (b5 0) cJ<|by ext) ay
def iy(C:Addr):DF->Option RES:=
  (am (bC 2<|asL aE)
 <|am (d5 (pM<|asO<|asL<|slL (ac 0) (bI<|cI 2)<|bI<|cI 14) (gT [3,4])<|am (aC 5<|aj (bx C)<|aB 4<|aV (cI 1530421987) nA)
 <|dIf (fV (asB<|d2 gtI (ac 1)<|cI 1)<|asB<|d2 gtI (d2 bg (ac 5)<|cI 4)<|cI 0) (am (aC 6<|d2 bg (d2 bi (ac 5)<|cI 4)<|ac 1)
 <|am (aC 7<|d2 bg (d2 aU (d2 aU (ac 6)<|cI 1)<|d2 bg (d2 bi (ac 5)<|cI 28)<|d2 l8 (ac 1)<|cI 1)<|ac 1)
 <|am (aC 8<|d2 bg (d2 bi (ac 5)<|cI 168)<|cI 2)
 <|am (dIf (asB<|d2 eqD (d2 bg (d2 bi (ac 5)<|cI 336)<|cI 2)<|cI 0) (aC 8<|d2 bg (d2 aU (ac 4)<|ac 3)<|d2 qN (cI 10)<|cI 30) dNx)
 <|du 2<|asT<|ag (getV 6)<|ag (getV 7)<|ag (getV 8)<|ag (d2 eqD (d2 bg (d2 bi (ac 5)<|cI 672)<|cI 2)<|cI 1) aE) dNx)
 <|iX 2)
def bZ(C:Addr):List DV->Option DV:=mOf 9 2<|iy C
def gI(T:Txt K mg t):Ok P w K mg base t 50 2 bZ:=
 (T.F 50).okI (nIq 50) λh=>aa (by ext)<|aa (pfI (CI qx T.b_enumerate<|by ext) (jA (is:=[3,4]) rfl<|bV (pgI 3)<|bV (pgI 4) iC)<|aa (bN 5<|pcI (dO T) (T.G 42) h<|by ext)<|by ext)<|by ext
def tW(C:Addr):DF->Option RES:=
  (am (bC 1<|asL aE)
 <|am (d5 (cZ<|d2 l8 (ac 0)<|cI 1) (setV 2)<|am (du 1<|asT<|ag (getV 2)<|ag (d2 aU (ac 2)<|cI 1) aE)
 <|du 1<|asT<|ag (d2 aU (ac 0)<|ac 2)<|ag (d2 aU (d2 aU (ac 0)<|ac 2)<|cI 1) aE)
 <|am (dIf (asB<|d2 gtI (ac 0)<|cI 2) (am (du 1<|asT<|ag (d2 l8 (ac 0)<|cI 1)<|ag (cI 0) aE)
 <|du 1<|asT<|ag (d2 l8 (d2 kB (cI 2)<|ac 0)<|cI 1)<|ag (getV 0) aE) dNx)
 <|iX 1)
def k9(C:Addr):List DV->Option DV:=mOf 3 1<|tW C
def qV(T:Txt K mg t):Ok P w K mg base t 48 1 k9:=
 (T.F 48).okI (nIq 48) λh=>aa (by ext)<|aa (pfI (by ext) (b5 2)<|by ext)<|by ext
def qM(C:Addr):DF->Option RES:=
  (am (bC 1<|asL aE)
 <|am (d5 (cZ<|d2 bi (ac 0)<|cI 2) (setV 2)<|d5 (wI (d2 bi (ac 0)<|cI 2)<|ac 0) (setV 3)<|du 1<|asT<|ag (getV 2)<|ag (getV 3) aE)
 <|iX 1)
def jO(C:Addr):List DV->Option DV:=mOf 4 1<|qM C
def qE(T:Txt K mg t):Ok P w K mg base t 47 1 jO:=
 (T.F 47).okI (nIq 47) λh=>aa (by ext)<|aa (pfI (by ext) (b5 2)<|ai<|pfI (j9 qx T.b_range (by ext)<|aw 0) (b5 3)<|by ext)<|by ext
def v7(C:Addr):DF->Option RES:=
  (am (dIf (fV (asB<|d2 eqD (ap 1)<|cI 1)<|asB<|d2 gtI (ac 0)<|cI 2) (dg<|asL<|aI 1 [0] (cZ<|ac 0) (setV 0) bf<|asT<|ag (getV 0)<|ag (d2 bg (d2 aU (ac 0)<|cI 1)<|ac 1) aE) dNx)
 <|am (dIf (asB<|d2 eqD (ap 1)<|cI 2) (dg<|asL<|aI 1 [] (wI (cI 1)<|ac 0) (setV 0) bf<|asT<|ag (cI 0)<|ag (getV 0) aE) dNx)
 <|am (dIf (asB<|d2 eqD (ap 1)<|cI 3) (dg<|eW (k9 C)<|aV (d2 bi (ac 0)<|cI 2) nA) dNx)
 <|am (dIf (fV (asB<|d2 eqD (ap 1)<|cI 4)<|asB<|d2 eqD (ap 0)<|cI 5) (dg<|asL<|aI 1 [] (cZ<|cI 10) (setV 0) bf<|asT<|ag (d2 bg (ac 0)<|cI 5)<|ag (d2 bg (d2 aU (d2 aU (ac 0)<|cI 1)<|d2 bi (ac 0)<|cI 5)<|cI 5) aE) dNx)
 <|am (dIf (asB<|d2 eqD (ap 1)<|cI 5) (dg<|eW (jO C)<|aB 0 nA) dNx)
 <|dg<|asL aE)
def gD(C:Addr):List DV->Option DV:=mOf 2 2<|v7 C
def uf(T:Txt K mg t):Ok P w K mg base t 49 2 gD:=
 (T.F 49).okI (nIq 49) λh=>aa (bn (by ext) (ai<|cC<|fJ ["_law_k","_law_size"] 1 [0] [0] (by ext) (b5 0) cJ<|by ext) aL)<|aa (bn (by ext) (ai<|cC<|fJ ["_law_k"] 1 [] [0] (j9 qx T.b_range (by ext)<|aw 0) (b5 0) cJ<|by ext) aL)<|aa (bn (by ext) (ai<|cC<|poI (qV T) (T.G 48) h<|by ext) aL)<|aa (bn (by ext) (ai<|cC<|fJ ["_law_k"] 1 [] [0] (by ext) (b5 0) cJ<|by ext) aL)<|aa (bn (by ext) (ai<|cC<|poI (qE T) (T.G 47) h<|by ext) aL)<|by ext
def rW(C:Addr):DF->Option RES:=
  (am (aC 3<|aj (bx C)<|aV (aj (dM C)<|aB 0<|aV (cI 0) nA)<|aV (cI 1873046521) nA)
 <|am (aC 4<|d2 aU (cI 1)<|d2 bg (ac 3)<|ac 1)
 <|am (aC 5<|d2 bg (d2 bi (ac 3)<|cI 7)<|cI 9)
 <|am (aC 6<|aj (gi C)<|aB 0<|aV (d2 qN (cI 10)<|cI 30) nA)
 <|am (aC 7<|d2 eqD (d2 bg (d2 bi (ac 3)<|cI 56)<|cI 2)<|cI 1)
 <|am (dIf (asB<|d2 eqD (d2 bg (ac 5)<|cI 8)<|cI 0) (aY<|aj (fG C)<|aB 0<|aV (d2 bi (ac 3)<|cI 112)<|aV (getV 6)<|aV (getV 7)<|aB 2 nA) dNx)
 <|am (aC 8<|aj (cR C)<|aB 0<|aB 4 nA)
 <|am (dIf (asB<|d2 gtI (ac 5)<|cI 5) (aY<|asT<|ag (getV 8)<|ag (aj (bZ C)<|aB 0<|aB 4 nA) aE) dNx)
 <|am (aC 9<|aj (da C)<|aB 0<|aV (getV 4)<|aV (cI 742938285) nA)
 <|am (aC 10<|asO<|asL<|aI 1 [9,6,7] (cQ<|aj (gD C)<|aB 4<|aB 5 nA) (setV 0) bf<|asT<|ag (d2 ixD (ac 1)<|d2 ixD (ac 0)<|cI 0)<|ag (d2 ixD (ac 1)<|d2 ixD (ac 0)<|cI 1)<|ag (getV 2)<|ag (getV 3) aE)
 <|am (dIf (asB<|d2 eqD (d2 bg (d2 bi (ac 3)<|cI 112)<|cI 3)<|cI 0) (aC 10<|asO<|asL<|slL (d2 aU (ac 10)<|aj (bZ C)<|aB 0<|aB 4 nA) bNo<|bI<|cI 12) dNx)
 <|am (dIf (fV (asB<|d2 eqD (d2 bg (d2 bi (ac 3)<|cI 112)<|cI 3)<|cI 1)<|asB<|d2 ltd (d1 bU<|ap 10)<|cI 7) (aC 10<|d2 aU (ac 10)<|ac 10) dNx)
 <|aY<|asT<|ag (getV 8)<|ag (getV 10) aE)
def g8(C:Addr):List DV->Option DV:=mOf 11 3<|rW C
def xg(T:Txt K mg t):Ok P w K mg base t 53 4 g8:=
 (T.F 53).okI (nIq 53) λh=>aa (bN 3<|pcI (dO T) (T.G 42) h<|aP (pcI (lI T) (T.G 41) h<|by ext)<|by ext)<|aa (by ext)<|aa (by ext)<|aa (bN 6<|pcI (vL T) (T.G 45) h<|by ext)<|aa (by ext)<|aa (bn (by ext) (ai<|aR<|pcI (uC T) (T.G 52) h<|by ext) aL)<|aa (bN 8<|pcI (lF T) (T.G 46) h<|by ext)<|aa (bn (by ext) (ai<|aR<|aS<|af (aJ 8)<|af (pcI (gI T) (T.G 50) h<|by ext) ay) aL)<|aa (bN 9<|pcI (kT T) (T.G 51) h<|by ext)<|aa (xU 10 ["_law_pair","_law_order_here","_law_kind","_law_oneway"] 1 [9,6,7] [0] (jH<|pcI (uf T) (T.G 49) h<|by ext) (b5 0) cJ<|by ext)<|aa (bn (by ext) (ai<|bN 10<|PDO.v<|jy (PDE.r<|aT (aw 10)<|PDE.r<|pcI (gI T) (T.G 50) h<|by ext) yg<|vF ae) aL)<|by ext
def jQ(C:Addr):DF->Option RES:=
  (am (bC 3<|asL aE)
 <|am (d5 (bu 0) (setV 4)<|am (dIf (asB<|d2 eqD (asT<|ag (d2 ixD (ac 4)<|cI 0)<|ag (d2 ixD (ac 4)<|cI 1) aE)<|asT<|ag (getV 1)<|ag (getV 2) aE) (du 3<|asT<|ag (d2 ixD (ac 4)<|cI 2)<|ag (d1 vX<|d2 ixD (ac 4)<|cI 3) aE) dNx)
 <|dIf (asB<|d2 eqD (asT<|ag (d2 ixD (ac 4)<|cI 1)<|ag (d2 ixD (ac 4)<|cI 0) aE)<|asT<|ag (getV 1)<|ag (getV 2) aE) (du 3<|asT<|ag (d2 ixD (ac 4)<|cI 2)<|ag (d2 kB (cI 2)<|d1 vX<|d2 ixD (ac 4)<|cI 3) aE) dNx)
 <|aY<|d1 ki<|asO<|asL<|nj<|ac 3)
def dN(C:Addr):List DV->Option DV:=mOf 5 3<|jQ C
def qB(T:Txt K mg t):Ok P w K mg base t 54 1 dN:=
 (T.F 54).okI (nIq 54) λh=>aa (by ext)<|aa (pfI (iA 0) (b5 4)<|aa (bn (by ext) (ai<|bH 3 (pv 3)<|aS<|af (by ext)<|af (zi qx T.b_int<|by ext) ay) aL)<|ai<|bn (by ext) (ai<|bH 3 (pv 3)<|aS<|af (by ext)<|af (mw (by ext)<|PDE.r<|zi qx T.b_int<|by ext) ay) aL)<|by ext
def mP(C:Addr):DF->Option RES:=
  (am (bC 2 λ_=>!.dT [])
 <|am (d5 (cZ<|ac 1) (setV 3)<|d5 (cZ<|ac 1) (setV 4)<|dIf (asB<|d2 neD (ap 3)<|ap 4) (sx 2 (asT<|ag (getV 3)<|ag (getV 4) aE)<|aj (dN C)<|aB 0<|aV (getV 3)<|aV (getV 4) nA) dNx)
 <|iX 2)
def ee(C:Addr):List DV->Option DV:=mOf 5 2<|mP C
def tH(T:Txt K mg t):Ok P w K mg base t 55 2 ee:=
 (T.F 55).okI (nIq 55) λh=>aa (ir 2 rP)<|aa (pfI (by ext) (b5 3)<|ai<|pfI (by ext) (b5 4)<|ai<|bn (by ext) (ai<|y_ 2 h.h64 (pv 2) (by ext)<|pcI (qB T) (T.G 54) h<|by ext) aL)<|by ext
def iY(C:Addr):DF->Option RES:=
  (am (aC 1<|d1 qF<|asO<|asL<|aI 1 [] (vt<|getV 0) (setV 0) bf<|chD leA leA (λ_=>!(.str "a")) (ap 0) λ_=>!(.str "z"))
 <|aY<|wA (getV 1)<|chD leA leA (cI 1) (d1 bU<|ap 0)<|cI 3)
def cV(C:Addr):List DV->Option DV:=mOf 2 1<|iY C
def lN(T:Txt K mg t):Ok P w K mg base t 32 1 cV:=
 (T.F 32).okI (nIq 32) λh=>aa (bN 1<|uD qx qx T.b_all<|PDE.n<|PDO.v<|fJ ["letter"] 1 [] [0] (Gu<|aJ 0) (b5 0) cJ<|yz (by ext) (a_ 0)<|by ext)<|ai<|aR<|qu (aJ 1)<|sZ<|yz (by ext) (by ext)<|PDE.n<|tV qx T.c_MOST_LETTERS
def jP(C:Addr):DF->Option RES:=
  (aY<|chD leA ltI (cI 0) (ap 0)<|d2 qN (cI 10)<|cI 30)
def dH(C:Addr):List DV->Option DV:=mOf 1 1<|jP C
def oX(T:Txt K mg t):Ok P w K mg base t 33 1 dH:=
 (T.F 33).okI (nIq 33) λh=>ai<|aR<|sP (by ext) (a_ 0)<|by ext
def vG(C:Addr):DF->Option RES:=
  (am (aC 2<|wA (chD leA ltI (cI 0) (d2 ixD (ac 0)<|cI 0)<|ap 1)<|chD leA ltI (cI 0) (d2 ixD (ac 0)<|cI 1)<|ap 1)
 <|aY<|wA (getV 2)<|wA (d2 neD (d2 ixD (ac 0)<|cI 0)<|d2 ixD (ac 0)<|cI 1)<|aj (dH C)<|aV (d2 ixD (ac 0)<|cI 2) nA)
def ik(C:Addr):List DV->Option DV:=mOf 3 2<|vG C
def zY(T:Txt K mg t):Ok P w K mg base t 34 2 ik:=
 (T.F 34).okI (nIq 34) λh=>aa (bN 2<|qu (sP (by ext) (by ext)<|a_ 1)<|sZ<|sP (by ext) (by ext)<|a_ 1)<|ai<|aR<|qu (aJ 2)<|qu (L4 h.h64 (by ext)<|by ext)<|sZ<|pcI (oX T) (T.G 33) h<|by ext
def jo(C:Addr):DF->Option RES:=
  (am (dIf (bE<|asB<|chD leA leA (cI 1) (d1 bU<|ap 0)<|cI 7) kI dNx)
 <|am (dIf (asB<|d2 gtI (d1 bU<|ap 1)<|cI 12) kI dNx)
 <|am (d5 (bu 0) (setV 2)<|dIf (bE<|asB<|aj (cV C)<|aV (getV 2) nA) kI dNx)
 <|d5 (bu 1) (setV 3)<|dIf (bE<|asB<|aj (ik C)<|aB 3<|aV (d1 bU<|ap 0) nA) kI dNx)
def c9(C:Addr):List DV->Option DV:=mOf 4 2<|jo C
def nM(T:Txt K mg t):Ok P w K mg base t 35 3 c9:=
 (T.F 35).okI (nIq 35) λh=>aa (bn (cw<|EU (by ext) (by ext)<|PDE.n<|tV qx T.c_MOST_PLACES) (ai kR) aL)<|aa (bn (nD (by ext)<|PDE.r<|tV qx T.c_MOST_TIES) (ai kR) aL)<|aa (pfI (iA 0) (b5 2)<|ai<|bn (cw<|bW<|pcI (lN T) (T.G 32) h<|by ext) (ai kR) aL)<|ai<|pfI (iA 1) (b5 3)<|ai<|bn (cw<|bW<|pcI (zY T) (T.G 34) h<|by ext) (ai kR) aL
def ju(C:Addr):DF->Option RES:=
  (am (dIf (orT (asB<|d2 ixD (ac 0)<|cI 3)<|asB<|d2 ltd (d2 ixD (ac 0)<|cI 0)<|d2 ixD (ac 0)<|cI 1) (aY<|getV 0) dNx)
 <|aY<|asT<|ag (d2 ixD (ac 0)<|cI 1)<|ag (d2 ixD (ac 0)<|cI 0)<|ag (d2 ixD (ac 0)<|cI 2)<|ag (d2 ixD (ac 0)<|cI 3) aE)
def c_(C:Addr):List DV->Option DV:=mOf 1 1<|ju C
def nQ(T:Txt K mg t):Ok P w K mg base t 36 1 c_:=
 (T.F 36).okI (nIq 36) λh=>by ext
def qp(C:Addr):DF->Option RES:=
  (sx 0 (getV 1)<|d1 ki<|asO<|asL<|nj<|d2 aU (lx (ac 0) (getV 1)<|asT aE)<|asT<|ag (getV 2) aE)
def fm(C:Addr):OD->List DV->Option (OD×D):=yv 3 3<|qp C
def mO(T:Txt K mg t):FnOk P w K mg base CX0 1 (fA 37) (dA 37) (eU (top 37)) (spM K (fm t.C)):=
 (T.F 37).okJ (nIq 37) λh=>ai<|y_ 0 h.h64 (pv 0) (aJ 1)<|f9 qx T.b_tuple<|PDE.r<|PDO.v<|gc h.h64 qx T.b_sorted<|PDE.r<|aT (PDE.r<|vP h.h64 (aw 0) (aJ 1)<|aS ay)<|by ext
def oM(C:Addr):DF->Option RES:=
  (am (bC 1 λ_=>!.dT [])
 <|am (d5 (bu 0) (gT [2,3,4,5])<|am (jf K0 1 (fm C)<|aV (asT<|ag (getV 2)<|ag (getV 3) aE)<|aV (asT<|ag (getV 4)<|ag (ifV (asB<|getV 5) (cI 1)<|cI 0) aE) nA)
 <|jf K0 1 (fm C)<|aV (asT<|ag (getV 3)<|ag (getV 2) aE)<|aV (asT<|ag (getV 4)<|ag (ifV (asB<|getV 5) (cI 2)<|cI 0) aE) nA)
 <|iX 1)
def f8(C:Addr):List DV->Option DV:=mOf 6 1<|oM C
def vE(T:Txt K mg t):Ok P w K mg base t 38 2 f8:=
 (T.F 38).okI (nIq 38) λh=>aa (ir 1 rP)<|aa (pfI (iA 0) (jA rfl<|bV (pgI 2)<|bV (pgI 3)<|bV (pgI 4)<|bV (pgI 5) iC)<|aa (vK 1 (mO T) (h.mono<|by decide) qx (T.G 37).2 (T.F 37).fn.kp (T.F 37).bd (pv 1)<|aP (by ext)<|aP (aS<|af (aJ 4)<|af (yq (by ext) ae ae) ay) aq)<|ai<|vK 1 (mO T) (h.mono<|by decide) qx (T.G 37).2 (T.F 37).fn.kp (T.F 37).bd (pv 1)<|aP (by ext)<|aP (aS<|af (aJ 4)<|af (yq (by ext) ae ae) ay) aq)<|by ext
def mW(C:Addr):DF->Option RES:=
  (am (zB<|aj (c9 C)<|aB 1<|aB 2 nA)
 <|am (sg C 0 "kinds"<|asO<|asL<|cY<|ac 1)
 <|am (sg C 0 "ties"<|asO<|asL<|nj<|asO<|asL<|aI 1 [] (bu 2) (setV 0) bf<|aj (c_ C)<|aV (getV 0) nA)
 <|sg C 0 "joins"<|aj (f8 C)<|aV (d1 (jU C "ties")<|ac 0) nA)
def eT(C:Addr):OD->List DV->Option (OD×D):=yv 3 3<|mW C
def sS(T:Txt K mg t):FnOk P w K mg base CX0 4 (fA 39000) (dA 39000) (eU (top 39000)) (spM K (eT t.C)):=
 (T.F 39000).okJ (nIq 39000) λh=>aa (GC<|pcI (nM T) (T.G 35) h<|by ext)<|aa (ug 0 T.cl T.na_kinds (pv 0)<|by ext)<|aa (ug 0 T.cl T.na_ties (pv 0)<|PDO.v<|gc h.h64 qx T.b_sorted<|PDE.r<|PDO.v<|fJ ["tie"] 1 [] [0] (iA 2) (b5 0) cJ<|pcI (nQ T) (T.G 36) h<|by ext)<|ai<|ug 0 T.cl T.na_joins (pv 0)<|pcI (vE T) (T.G 38) h<|aP (jW T.cl T.na_ties<|aw 0) aq
def gk(C:Addr):DF->Option RES:=
  (am (k5 ah 0 "web"<|getV 1)
 <|am (k5 ah 0 "way"<|asO<|asL aE)
 <|am (k5 ah 0 "first"<|asO<|asL aE)
 <|am (k5 ah 0 "first_row"<|asT aE)
 <|am (k5 ah 0 "least"<|asO<|asL aE)
 <|am (k5 ah 0 "best_row"<|asT aE)
 <|xW ah 0 "turnings"<|asL aE)
def dZ(C:Addr):OD->List DV->Option (OD×D):=qP 2 2<|gk C
def nS(T:Txt K mg t):FnOk P w K mg base CX0 1 (fA 19000) (dA 19000) (eU (top 19000)) (spO K (dZ t.C)):=
 (T.F 19000).okO (nIq 19000) λh=>aa (jC 0 T.cl_Search T.naR_web (pv 0)<|aJ 1)<|aa (jC 0 T.cl_Search T.naR_way (pv 0)<|by ext)<|aa (jC 0 T.cl_Search T.naR_first (pv 0)<|by ext)<|aa (jC 0 T.cl_Search T.naR_first_row (pv 0)<|aS ay)<|aa (jC 0 T.cl_Search T.naR_least (pv 0)<|by ext)<|aa (jC 0 T.cl_Search T.naR_best_row (pv 0)<|aS ay)<|ai<|DM 0 T.cl_Search T.naR_turnings (pv 0)<|bp ay
def kQ(C:Addr):DF->Option RES:=
  (am (aC 1<|asO<|asL<|aI 1 [0] (bu 0) (setV 0) (asB<|d2 gtI (d2 qT (ap 1)<|ap 0)<|cI 1)<|getV 0)
 <|am (dIf (bE<|kM<|getV 1) (dg<|asL aE) dNx)
 <|am (aC 2<|d1 wB<|ac 1)
 <|dg<|asL<|aI 2 [2] (gz 0) (gT [0,1]) (asB<|d2 eqD (ap 1)<|ap 2)<|getV 0)
def bX(C:Addr):List DV->Option DV:=mOf 3 1<|kQ C
def jR(T:Txt K mg t):Ok P w K mg base t 11 1 bX:=
 (T.F 11).okI (nIq 11) λh=>aa (xU 1 ["rank","parting"] 1 [0] [0] (iA 0) (b5 0) (vQ<|nD (PDE.r<|xa h.h64 (a_ 1)<|a_ 0)<|by ext)<|aJ 0)<|aa (bn (cw<|uB<|by ext) (by ext) aL)<|aa (bN 2<|G0 h.h64 qx qx T.b_min<|aw 1)<|ai<|cC<|fJ ["place","rank","least"] 2 [2] [0,1] (mK 0 qx T.b_enumerate<|pv 0) (jA rfl<|bV (pgI 0)<|bV (pgI 1) iC) (by ext)<|aJ 0
def jS(C:Addr):DF->Option RES:=
  (aY<|lx (d1 (jU C "joins")<|ac 0) (asT<|ag (getV 1)<|ag (getV 2) aE)<|asT aE)
def cF(C:Addr):List DV->Option DV:=mOf 3 3<|jS C
def jh(T:Txt K mg t):Ok P w K mg base t 39002 1 cF:=
 (T.F 39002).okI (nIq 39002) λh=>ai<|aR<|vP h.h64 (PDE.r<|jW T.cl T.na_joins<|aw 0) (by ext)<|aS ay
def wf(C:Addr):DF->Option RES:=
  (am (bC 2<|asL aE)
 <|am (d5 (gz 1) (gT [3,4])<|Am 2<|aI 1 [0,4] (cQ<|asO<|asL<|slL (ac 1) (bI<|d2 aU (ac 3)<|cI 1) bNo) (setV 0) bf<|bF C "between" (cF C)<|ck (cG 1)<|aV (getV 2)<|aV (getV 0) nA)
 <|aY<|asT<|ag (d1 ki<|asO<|asL<|aI 1 [0] (bu 1) (setV 0) bf<|d2 ixD (d1 (jU C "kinds")<|ac 1)<|ac 0)<|ag (d1 ki<|ac 2) aE)
def dG(C:Addr):List DV->Option DV:=mOf 5 2<|wf C
def mh(T:Txt K mg t):Ok P w K mg base t 15 2 dG:=
 (T.F 15).okI (nIq 15) λh=>aa (by ext)<|aa (pfI (mK 1 qx T.b_enumerate<|pv 1) (jA rfl<|bV (pgI 3)<|bV (pgI 4) iC)<|ai<|AN 2 (pv 2)<|fJ ["other","web","place"] 1 [0,4] [0] (jH<|by ext) (b5 0) cJ<|oq (A6 1) T.cl T.mt_Web_between (jh T) (h.mono<|by decide) (T.F 39002).bd<|by ext)<|ai<|aR<|aS<|af (f9 qx T.b_tuple<|PDE.r<|PDO.v<|fJ ["place","web"] 1 [0] [0] (iA 1) (b5 0) cJ<|aN (PDE.r<|jW T.cl T.na_kinds<|aw 1)<|aw 0)<|by ext
def gv(C:Addr):DF->Option RES:=
  (am (i6 ah 0 "way"<|getV 1)
 <|am (i6 ah 0 "first"<|getV 2)
 <|am (i6 ah 0 "first_row"<|getV 3)
 <|am (i6 ah 0 "least"<|getV 2)
 <|i6 ah 0 "best_row"<|getV 3)
def dY(C:Addr):OD->List DV->Option (OD×D):=qP 4 4<|gv C
def nO(T:Txt K mg t):FnOk P w K mg base CX0 1 (fA 19001) (dA 19001) (eU (top 19001)) (spO K (dY t.C)):=
 (T.F 19001).okO (nIq 19001) λh=>aa (iJ 0 T.cl_Search T.naR_way (pv 0)<|aJ 1)<|aa (iJ 0 T.cl_Search T.naR_first (pv 0)<|aJ 2)<|aa (iJ 0 T.cl_Search T.naR_first_row (pv 0)<|aJ 3)<|aa (iJ 0 T.cl_Search T.naR_least (pv 0)<|aJ 2)<|ai<|iJ 0 T.cl_Search T.naR_best_row (pv 0)<|aJ 3
def rS(C:Addr):DF->Option RES:=
  (dg<|asL<|aI 1 [1,0] (cZ<|d1 bU<|ap 0) (setV 0) bf<|d2 ixD (ac 1)<|d2 jL (ap 2)<|ap 0)
def f6(C:Addr):List DV->Option DV:=mOf 2 2<|rS C
def xk(T:Txt K mg t):Ok P w K mg base t 17 1 f6:=
 (T.F 17).okI (nIq 17) λh=>ai<|cC<|fJ ["place","end","first"] 1 [1,0] [0] (by ext) (b5 0) cJ<|by ext
def fM(C:Addr):DF->Option RES:=
  (am (aC 3<|aj (dG C)<|aV (fP (!ah) 0 "web")<|aB 2 nA)
 <|am (dIf (bE<|kM<|fP (!ah) 0 "first") (am (i_<|dD ah "begin" 0 (dY C)<|cg (cn<|getV 1)<|cg (cn<|getV 2)<|cg (cn<|getV 3) mC)
 <|aY λ_=>!.bl false) dNx)
 <|am (dIf (asB<|d2 ltd (ap 3)<|fP (!ah) 0 "best_row") (am (i6 ah 0 "least"<|getV 2)
 <|i6 ah 0 "best_row"<|getV 3) dNx)
 <|am (dIf (asB<|d2 eqD (ap 3)<|fP (!ah) 0 "first_row") (am (pJ ah 0 "turnings"<|eW (f6 C)<|aV (fP (!ah) 0 "first")<|aB 2 nA)
 <|aY λ_=>!.bl true) dNx)
 <|aY λ_=>!.bl false)
def cN(C:Addr):OD->List DV->Option (OD×D):=qP 4 3<|fM C
def mG(T:Txt K mg t):FnOk P w K mg base CX0 3 (fA 19002) (dA 19002) (eU (top 19002)) (spO K (cN t.C)):=
 (T.F 19002).okO (nIq 19002) λh=>aa (bN 3<|pcI (mh T) (T.G 15) h<|aP (pfB 0 T.cl_Search T.naR_web<|pv 0)<|by ext)<|aa (bn (cw<|uB<|PDE.r<|pfB 0 T.cl_Search T.naR_first<|pv 0) (aa (vI<|GG 0 T.cl_Search T.mt_Search_begin (nO T) h (T.F 19001).bd (pv 0)<|eQ (iO<|aJ 1)<|eQ (iO<|aJ 2)<|eQ (iO<|aJ 3) nV)<|by ext) aL)<|aa (bn (lY h.h64 (a_ 3)<|PDE.n<|pfB 0 T.cl_Search T.naR_best_row<|pv 0) (aa (iJ 0 T.cl_Search T.naR_least (pv 0)<|aJ 2)<|ai<|iJ 0 T.cl_Search T.naR_best_row (pv 0)<|aJ 3) aL)<|aa (bn (eO h.h64 (a_ 3)<|PDE.n<|pfB 0 T.cl_Search T.naR_first_row<|pv 0) (aa (Cq 0 T.cl_Search T.naR_turnings (pv 0)<|poI (xk T) (T.G 17) h<|aP (pfB 0 T.cl_Search T.naR_first<|pv 0)<|by ext)<|by ext) aL)<|by ext
def pc(C:Addr):DF->Option RES:=
  (dg<|asL<|aI 1 [0] (cZ<|d1 bU<|ap 0) (setV 0) bf<|d2 jL (ap 1)<|ap 0)
def e7(C:Addr):List DV->Option DV:=mOf 1 1<|pc C
def wL(T:Txt K mg t):Ok P w K mg base t 16 1 e7:=
 (T.F 16).okI (nIq 16) λh=>ai<|cC<|fJ ["rank","parting"] 1 [0] [0] (by ext) (b5 0) cJ<|by ext
def wp(C:Addr):DF->Option RES:=
  (aY<|d1 qF<|asO<|asL<|aI 1 [0] (bu 1) (setV 0) bf<|d2 eqD (d2 ixD (ac 1)<|ac 0)<|ap 0)
def f_(C:Addr):List DV->Option DV:=mOf 2 2<|wp C
def Ao(T:Txt K mg t):Ok P w K mg base t 18 1 f_:=
 (T.F 18).okI (nIq 18) λh=>ai<|aR<|uD qx qx T.b_all<|PDE.n<|PDO.v<|fJ ["place","turning"] 1 [0] [0] (iA 1) (b5 0) cJ<|by ext
def nJ(C:Addr):DF->Option D:=(asO<|asL<|aI 1 [0] (bu 1) (setV 0) bf<|d2 ixD (ac 0)<|ac 1)
def g_reached(C:Addr)(a0:Addr)(v0:V)(_:D):DF->Option RES:=
  (am (bC 3<|asL<|cY<|ac 0)
 <|am (bC 4<|vW 3<|zD<|aI 1 [] (bu 3) (setV 0) bf<|asT<|ag (getV 0)<|ag (λ_=>!.bl true) aE)
 <|am (aC 5<|cI 0)
 <|am (dF (fV (asB<|d2 ltd (ap 5)<|d1 bU<|ap 3)<|orT (DL 2)<|asB<|d2 leI (d1 bU<|ap 3)<|ac 2) (am (aC 6<|d2 ixD (ac 3)<|ac 5)
 <|am (d5 (cQ<|oF 1 a0 v0 (nJ C)<|getV 6) (setV 7)<|dIf (asB<|d2 mD (getV 7)<|ac 4) (am (mF 4 (getV 7) λ_=>!.bl true)
 <|du 3<|getV 7) dNx)
 <|GN 5<|cI 1) 10)
 <|iX 3)
def xZ(T:Txt K mg t):GM P w K mg base 2 fR dR ["starts","onward","most"] (spR LH K 8 (g_reached t.C)):=
 T.fn_reached.okR (scI ["starts","onward","most","found","known","done","at","thing"]) qx λg A o s H E f i c u a j h l e=>(aa (ir 3<|gq qx T.b_list<|aw 0)<|aa (ir 4<|BW 3<|AU qx qx T.b_dict<|fJ ["thing"] 1 [] [0] (iA 3) (b5 0) cJ<|aS<|af (aJ 0)<|af db ay)<|aa (bN 5 ae)<|aa (wP 10 Vr (PDW.t<|iR (lY h.h64 (a_ 5)<|PDE.n<|cD qx T.b_len<|a_ 3)<|gh<|PDW.t<|eM (EO 2<|pv 2)<|e9<|Ki (PDE.r<|cD qx T.b_len<|a_ 3)<|aw 2)<|aa (bN 6<|aN (aw 3)<|aw 5)<|aa (pfI (jH<|Cd (k:=0) Iu l e (h.mono<|by decide) qx (by first|exact Or.inl rfl|exact Or.inr _) (aJ 6) (λb _ _=>let h:=Room.deeper (k:=0) (h.mono<|by decide)<|gf I0 b f i c;(PDO.v<|fJ ["turning","at"] 1 [0] [0] (iA 1) (b5 0) cJ<|aN (aw 0)<|aw 1))) (b5 7)<|ai<|bn (DH h.h64 (aJ 7)<|aw 4) (aa (BO 4 h.h64 (pv 4) (aJ 7) db)<|ai<|bH 3 (pv 3)<|aJ 7) aL)<|ai<|JP ndI qx (.inl qx) ae)<|ai<|fW 3<|pv 3)
def gA(C:Addr):DF->Option RES:=
  (am (aC 4<|asO<|asL<|aI 1 [1] (cQ<|d1 (jU ah "turnings")<|getV 0) (setV 0) (asB<|aj (f_ C)<|aB 0<|aB 1 nA)<|getV 0)
 <|aY<|d2 inD (ap 3)<|asO<|yy 8 4 (g_reached C)<|lend 2)
def bR(C:Addr):List DV->Option DV:=mOf 5 4<|gA C
def j6(T:Txt K mg t):Ok P w K mg base t 19003 3 bR:=
 (T.F 19003).okC (pm:=mdl 1) ["self","way","tried","place","leaving"] λh=>aa (bN 4<|PDO.v<|fJ ["turning","way"] 1 [1] [0] (jH<|jW T.cl_Search T.naR_turnings<|by ext) (b5 0) (vQ<|bW<|pcI (Ao T) (T.G 18) h<|by ext)<|aJ 0)<|ai<|aR<|KZ h.h64 (a_ 3)<|PDE.n<|PDO.v<|Ai ⟨T.tb,qx,qx,qx,qx,qx,qx,T.ch,qx,qx⟩ (xZ T) qx (h.mono<|by decide) qx T.g_reached T.fn_reached.kp T.bd_reached<|LS 2<|pv 2
def vz(C:Addr):DF->Option RES:=
  (am (aC 1<|asO<|asL<|kq<|ac 0)
 <|dg<|asL<|aI 1 [1] (bu 0) (setV 0) bf<|d2 jL (ap 1)<|ap 0)
def gj(C:Addr):List DV->Option DV:=mOf 2 1<|vz C
def sv(T:Txt K mg t):Ok P w K mg base t 2 1 gj:=
 (T.F 2).okI (nIq 2) λh=>aa (bN 1<|PDO.v<|vq h.h80 qx qx T.b_sorted qx T.b_set<|aw 0)<|ai<|cC<|fJ ["key","values"] 1 [1] [0] (iA 0) (b5 0) cJ<|by ext
def p9(C:Addr):DF->Option RES:=
  (aY<|d1 bU<|d1 (jU C "kinds")<|ac 0)
def c8(C:Addr):List DV->Option DV:=mOf 1 1 (p9 C)
def nB(T:Txt K mg t):Ok P w K mg base t 39001 1 c8:=
 (T.F 39001).okI (nIq 39001) λh=>ai<|aR<|cD qx T.b_len<|PDE.n<|jW T.cl T.na_kinds<|aw 0
def wZ(C:Addr):DF->Option RES:=
  (am (aC 3 (asO (asL (aI 1 [2] (cZ (bF C "size" (c8 C) (ck (cG 0) g0))) (setV 0) (asB (d2 neD (ap 0) (ap 1))) (getV 0)))))
  (am (aC 4 (asO (asL (aI 1 [1,0,2] (bu 3) (setV 0) bf (asT (ag (d2 ixD (ac 1) (ac 0)) (ag (bF C "between" (cF C) (ck (cG 2) (aV (getV 3) (aV (getV 0) nA)))) aE)))))))
  (aY (asT (ag (d2 ixD (ac 1) (ac 2)) (ag (d1 ki (asO (asL (nj (ac 4))))) aE))))))
def jv(C:Addr):List DV->Option DV:=mOf 5 3 (wZ C)
def Al(T:Txt K mg t):Ok P w K mg base t 3 2 jv:=
 (T.F 3).okI (nIq 3) λh=>aa (xU 3 ["other","place"] 1 [2] [0] (aX qx T.b_range<|PDE.r<|wE (A6 0) T.cl T.mt_Web_size (nB T) (h.mono<|by decide) (T.F 39001).bd) (b5 0) (by ext)<|aJ 0)<|aa (xU 4 ["other","parting","web","place"] 1 [1,0,2] [0] (iA 3) (b5 0) cJ<|aS<|af (by ext)<|af (oq (A6 2) T.cl T.mt_Web_between (jh T) (h.mono<|by decide) (T.F 39002).bd<|by ext) ay)<|by ext
def rB(C:Addr):DF->Option RES:=
  (dg (asL (aI 1 [0,1] (cZ (bF C "size" (c8 C) (ck (cG 0) g0))) (setV 0) bf (aj (jv C) (aB 1 (aB 2 (aV (getV 0) nA)))))))
def h9(C:Addr):List DV->Option DV:=mOf 2 2 (rB C)
def xx(T:Txt K mg t):Ok P w K mg base t 4 3 h9:=
 (T.F 4).okI (nIq 4) λh=>ai<|cC<|fJ ["place","web","parting"] 1 [0,1] [0] (aX qx T.b_range<|PDE.r<|wE (A6 0) T.cl T.mt_Web_size (nB T) (h.mono<|by decide) (T.F 39001).bd) (b5 0) cJ<|pcI (Al T) (T.G 3) h<|by ext
def zt(C:Addr):DF->Option RES:=
  (dg (eW (gj C) (aV (aj (h9 C) (aB 0 (aB 1 nA))) nA)))
def eP(C:Addr):List DV->Option DV:=mOf 2 2 (zt C)
def wQ(T:Txt K mg t):Ok P w K mg base t 5 4 eP:=
 (T.F 5).okI (nIq 5) λh=>ai<|cC<|poI (sv T) (T.G 2) h<|aP (pcI (xx T) (T.G 4) h<|by ext) aq
def m_(C:Addr):DF->Option RES:=
  (am (bC 2 (asL (ag (asO (asL (cY (ac 1)))) aE)))
  (am (aC 3 (aj (eP C) (aB 0 (aB 1 nA))))
  (am (dF (asB (d2 neD (ap 3) (d2 ixD (ac 2) (d1 xi (cI 1))))) (am (du 2 (getV 3))
  (aC 3 (aj (eP C) (aB 0 (aB 3 nA))))) 100)
  (iX 2))))
def fy(C:Addr):List DV->Option DV:=mOf 4 2 (m_ C)
def tw(T:Txt K mg t):Ok P w K mg base t 6 5 fy:=
 (T.F 6).okI (nIq 6) λh=>aa (by ext)<|aa (bN 3<|pcI (wQ T) (T.G 5) h<|by ext)<|aa (wP 100 PassesOwn.never (gu h.h64 (a_ 3)<|PDE.n<|aN (aw 2)<|PDE.r<|BI ae)<|aa (by ext)<|ai<|bN 3<|pcI (wQ T) (T.G 5) h<|by ext)<|by ext
def rO(C:Addr):DF->Option RES:=
  (aY (d2 ixD (aj (fy C) (aB 0 (aB 1 nA))) (d1 xi (cI 1))))
def cX(C:Addr):List DV->Option DV:=mOf 2 2 (rO C)
def pF(T:Txt K mg t):Ok P w K mg base t 7 6 cX:=
 (T.F 7).okI (nIq 7) λh=>ai<|aR<|aN (PDE.r<|pcI (tw T) (T.G 6) h<|by ext)<|PDE.r<|BI ae
def ng(C:Addr):DF->Option RES:=
  (am (aC 2 (d2 ixD (ac 0) (ac 1)))
  (am (dIf (asB (d2 eqD (d2 qT (ap 0) (ap 2)) (cI 1))) (dg (asL (cY (ac 0)))) dNx)
  (dg (asL (aI 2 [2,1] (gz 0) (gT [0,1]) bf (ifV (orT (asB (d2 ltd (ap 1) (ap 2))) (asB (d2 eqD (ap 0) (ap 3)))) (getV 1) (d2 aU (ac 1) (cI 1))))))))
def fC(C:Addr):List DV->Option DV:=mOf 3 2 (ng C)
def u3(T:Txt K mg t):Ok P w K mg base t 9 1 fC:=
 (T.F 9).okI (nIq 9) λh=>aa (by ext)<|aa (bn (eO h.h64 (PDE.n<|xa h.h64 (a_ 0)<|a_ 2)<|by ext) (by ext) aL)<|ai<|cC<|fJ ["at","rank","own","place"] 2 [2,1] [0,1] (mK 0 qx T.b_enumerate<|pv 0) (jA (is:=[0,1]) rfl<|bV (pgI 0)<|bV (pgI 1) iC) cJ<|yq (by ext) (aJ 1)<|by ext
def vn(C:Addr):DF->Option RES:=
  (aY (aj (cX C) (aB 0 (aV (aj (fC C) (aB 1 (aB 2 nA))) nA))))
def eN(C:Addr):List DV->Option DV:=mOf 3 3 (vn C)
def rV(T:Txt K mg t):Ok P w K mg base t 10 7 eN:=
 (T.F 10).okI (nIq 10) λh=>ai<|aR<|pcI (pF T) (T.G 7) h<|aW 0<|aP (pcI (u3 T) (T.G 9) h<|by ext) aq
def gM(C:Addr):DF->Option RES:=
  (aY (d2 eqD (asO (asL (slL (d1 (jU ah "way") (getV 0)) bNo (bI (d1 bU (ap 1)))))) (ap 1)))
def bT(C:Addr):List DV->Option DV:=mOf 2 2 (gM C)
def j_(T:Txt K mg t):Ok P w K mg base t 19004 1 bT:=
 (T.F 19004).okI (nIq 19004) λh=>ai<|aR<|vM h.h64 (PDE.n<|PDO.v<|jy (PDE.r<|jW T.cl_Search T.naR_way<|by ext) yg<|by ext)<|a_ 1
def eA(C:Addr)(R:Dz):DF->Option RES:=
  (am (aC 3 (aj (bX C) (aB 2 nA)))
  (am (dIf (bE (kM (getV 3))) (wX (dD ah "arrive" 0 (cN C) (cg (cn (getV 1)) (cg (cn (aj (e7 C) (aB 2 nA))) mC)))) dNx)
  (am (bC 4 (asL aE))
  (am (d5 (bu 3) (setV 5) (dIf (cK 4 (cK 0 (bE (asB (bF ah "left_out" (bR C) (ck (cG 0) (aB 1 (aB 4 (aB 5 nA))))))))) (am (du 4 (getV 5))
  (am (rj 6 (dD ah "go" 0 R (cg (cn (d2 aU (ac 1) (asO (asL (ag (getV 5) aE))))) (cg (cn (aj (eN C) (aV (fP (!ah) 0 "web") (aB 2 (aB 5 nA))))) mC))))
  (dIf (cK 0 (fV (asB (getV 6)) (bE (asB (bF ah "on_first" (bT C) (ck (cG 0) (aB 1 nA))))))) (aY (λ_=>!.bl true)) dNx))) dNx))
  (aY (λ_=>!.bl false))))))
def cz(C:Addr):Nat->OD->List DV->Option (OD×D)
 |0=>λ_ _=>()
 |n+1=>qP 7 3 (eA C (cz C n))
def kG(T:Txt K mg t):∀n:Nat,FnOk P w K mg base CX0 (7+n) (fA 19005) (dA 19005) (eU (top 19005)) (spO K (cz t.C n))
 |0=>FnOk.neverO
 |n+1=>(T.F 19005).okO (k:=7+n) (g:=eA t.C (cz t.C n)) (nIq 19005) λh=>aa (bN 3<|pcI (jR T) (T.G 11) h<|by ext)<|aa (bn (cw<|uB<|by ext) (ai<|GT<|GG 0 T.cl_Search T.mt_Search_arrive (mG T) h (T.F 19002).bd (pv 0)<|eQ (iO<|aJ 1)<|eQ (iO<|pcI (wL T) (T.G 16) h<|by ext) nV) aL)<|aa (by ext)<|aa (pfI (iA 3) (b5 5)<|ai<|bn (iL 4<|iL 0<|cw<|bW<|oq (A6 0) T.cl_Search T.mt_Search_left_out (j6 T) (h.mono<|by lia) (T.F 19003).bd<|by ext) (aa (by ext)<|aa (MO 6<|GG 0 T.cl_Search T.mt_Search_go (kG T n) h (T.F 19005).bd (pv 0)<|eQ (iO<|by ext)<|eQ (iO<|pcI (rV T) (T.G 10) h<|aP (pfB 0 T.cl_Search T.naR_web<|pv 0)<|by ext) nV)<|ai<|bn (iL 0<|PDW.t<|iR (by ext)<|gh<|cw<|bW<|oq (A6 0) T.cl_Search T.mt_Search_on_first (j_ T) (h.mono<|by lia) (T.F 19004).bd<|by ext) (by ext) aL) aL)<|by ext
def iZ(C:Addr):DF->Option RES:=
  (aY (aj (cX C) (aB 0 (aV (aj (gj C) (aV (d1 (jU C "kinds") (ac 0)) nA)) nA))))
def bD(C:Addr):List DV->Option DV:=mOf 1 1 (iZ C)
def g6(T:Txt K mg t):Ok P w K mg base t 8 7 bD:=
 (T.F 8).okI (nIq 8) λh=>ai<|aR<|pcI (pF T) (T.G 7) h<|aW 0<|aP (pcI (sv T) (T.G 2) h<|aP (jW T.cl T.na_kinds<|aw 0) aq) aq
def qt(C:Addr):DF->Option RES:=
  (am (bC 1 (wg ah (dZ C) (aV (getV 0) nA)))
  (am (i_ (dD ah "go" 1 (cz C 8) (cg (cn (asO (asL aE))) (cg (cn (aj (bD C) (aB 0 nA))) mC))))
  (yT ah 1 "first" "turnings" (cY (fP (!ah) 1 "least")))))
def cT(C:Addr):List DV->Option DV:=xX 2 1 (qt C)
def i9(T:Txt K mg t):Ok P w K mg base t 20 16 cT:=
 (T.F 20).okT ["web","search"] T.nol λh=>aa (ir 1<|AC T.mk_Search (nS T) (h.mono<|by decide) qx T.mg_Search (T.F 19000).bd<|by ext)<|aa (vI<|GG 1 T.cl_Search T.mt_Search_go (kG T 8) h (T.F 19005).bd (pv 1)<|eQ (iO<|by ext)<|eQ (iO<|pcI (g6 T) (T.G 8) h<|by ext) nV)<|ai<|Gw 1 T.nol T.cl_Search T.naR_first T.naR_turnings (pv 1) (pv 1)<|gq qx T.b_list<|PDE.r<|pfB 1 T.cl_Search T.naR_least<|pv 1
def wb(C:Addr):DF->Option RES:=
  (aY (wA (d1 (jM "int") (ap 0)) (Ju (d1 (jM "bool") (ap 0)))))
def gC(C:Addr):List DV->Option DV:=mOf 1 1 (wb C)
def u7(T:Txt K mg t):Ok P w K mg base t 43 1 gC:=
 (T.F 43).okI (nIq 43) λh=>ai<|aR<|qu (lK qx T.b_isinstance qx T.b_int L2.boot_int<|a_ 0)<|sZ<|IJ<|lK qx T.b_isinstance qx T.b_bool L2.boot_bool<|a_ 0
def jq(C:Addr):DF->Option RES:=
  (am (dIf (orT (bE (asB (d1 (jM "list") (ap 0)))) (bE (asB (d1 qF (asO (asL (aI 1 [] (bu 0) (setV 0) bf (aj (gC C) (aB 0 nA))))))))) (aY (λ_=>!.bl false)) dNx)
  (aY (d2 eqD (asO (asL (nj (ac 0)))) (asO (asL (eC (getV 1)))))))
def br(C:Addr):List DV->Option DV:=mOf 2 2 (jq C)
def dX(T:Txt K mg t):Ok P w K mg base t 58 2 br:=
 (T.F 58).okI (nIq 58) λh=>aa (bn (PDW.t<|eM (cw<|bW<|lK qx T.b_isinstance qx T.b_list L2.boot_list<|a_ 0)<|e9<|cw<|bW<|uD qx qx T.b_all<|PDE.n<|PDO.v<|fJ ["_law_place"] 1 [] [0] (iA 0) (b5 0) cJ<|pcI (u7 T) (T.G 43) h<|by ext) (by ext) aL)<|ai<|aR<|vM h.h64 (by ext)<|PDE.n<|PDO.v<|e8 qx qx T.b_list qx T.b_range<|aJ 1
def rG(C:Addr):DF->Option RES:=
  (am (aC 2 (aj (bD C) (aB 0 nA)))
  (am (aC 3 (d1 bU (ap 2)))
  (am (d5 (cZ (ac 3)) (setV 4) (am (aC 5 (aj (bX C) (aB 2 nA)))
  (dIf (asB (d2 neD (ap 5) (asO (asL aE)))) (am (aC 6 (d2 ixD (asO (asL (aI 1 [5] (bu 1) (setV 0) (asB (d2 inD (ap 0) (ap 1))) (getV 0)))) (cI 0)))
  (aC 2 (aj (eN C) (aB 0 (aB 2 (aB 6 nA)))))) dNx)))
  (dg (asL (aI 1 [2] (cZ (ac 3)) (setV 0) bf (d2 jL (ap 1) (ap 0))))))))
def dn(C:Addr):List DV->Option DV:=mOf 7 2 (rG C)
def j7(T:Txt K mg t):Ok P w K mg base t 57 8 dn:=
 (T.F 57).okI (nIq 57) λh=>aa (bN 2<|pcI (g6 T) (T.G 8) h<|by ext)<|aa (by ext)<|aa (pfI (by ext) (b5 4)<|aa (bN 5<|pcI (jR T) (T.G 11) h<|by ext)<|ai<|bn (by ext) (aa (bN 6<|aN (PDE.r<|PDO.v<|fJ ["_law_one","_law_places"] 1 [5] [0] (iA 1) (b5 0) (vQ<|LQ h.h64 (a_ 0)<|a_ 1)<|aJ 0)<|by ext)<|ai<|bN 2<|pcI (rV T) (T.G 10) h<|by ext) aL)<|ai<|cC<|fJ ["_law_rank","_law_parting"] 1 [2] [0] (by ext) (b5 0) cJ<|by ext
def mQ(C:Addr):DF->Option RES:=
  (am (aC 3 (d1 bU (ap 0)))
  (am (dIf (orT (bE (asB (aj (br C) (aB 2 (aV (getV 3) nA))))) (asB (d2 eqD (ap 2) (asO (asL (eC (getV 3))))))) (aY (λ_=>!.bl false)) dNx)
  (am (dIf (asB (d2 neD (asO (asL (aI 1 [0] (bu 2) (setV 0) bf (d2 ixD (ac 1) (ac 0))))) (ap 0))) (aY (λ_=>!.bl false)) dNx)
  (am (B7 (ap 1) [4,5] (asB (d2 neD (d2 gn (ac 1) (asT (ag (d2 ixD (ac 2) (ac 4)) (ag (d2 ixD (ac 2) (ac 5)) aE)))) (d2 gn (ac 1) (asT (ag (getV 4) (ag (getV 5) aE)))))) (λ_=>!.bl false))
  (aY (λ_=>!.bl true))))))
def fD(C:Addr):List DV->Option DV:=mOf 6 3 (mQ C)
def uX(T:Txt K mg t):Ok P w K mg base t 59 3 fD:=
 (T.F 59).okI (nIq 59) λh=>aa (by ext)<|aa (bn (PDW.t<|eM (cw<|bW<|pcI (dX T) (T.G 58) h<|by ext)<|e9<|eO h.h64 (a_ 2)<|PDE.n<|PDO.v<|e8 qx qx T.b_list qx T.b_range<|aJ 3) (by ext) aL)<|aa (bn (gu h.h64 (PDE.n<|PDO.v<|fJ ["_law_place","_law_kinds_here"] 1 [0] [0] (iA 2) (b5 0) cJ<|by ext)<|a_ 0) (by ext) aL)<|aa (F6 (is:=[4,5]) PassesOwn.never qx qx T.b_list (a_ 1) (bV (pgI 4)<|bV (pgI 5) iC) (gu h.h64 (PDE.n<|uw h.h64 (aw 1)<|by ext)<|PDE.n<|uw h.h64 (aw 1)<|by ext) db)<|by ext
def ny(C:Addr):DF->Option RES:=
  (am (aC 4 (d1 bU (ap 1)))
  (am (dIf (orT (bE (asB (d1 (jM "tuple") (ap 3)))) (orT (asB (d2 neD (d1 bU (ap 3)) (cI 3))) (bE (asB (d1 (jM "list") (d2 ixD (ac 3) (cI 2))))))) (aY (λ_=>!.bl false)) dNx)
  (am (dIf (orT (bE (asB (aj (br C) (aV (d2 ixD (ac 3) (cI 0)) (aV (getV 4) nA))))) (asB (d2 neD (d2 ixD (ac 3) (cI 0)) (aj (dn C) (aB 0 (aV (asO (asL (eC (getV 4)))) nA)))))) (aY (λ_=>!.bl false)) dNx)
  (am (dIf (orT (bE (asB (aj (br C) (aV (d2 ixD (ac 3) (cI 1)) (aV (getV 4) nA))))) (orT (asB (d2 neD (d2 ixD (ac 3) (cI 1)) (aj (dn C) (aB 0 (aV (d2 ixD (ac 3) (cI 1)) nA))))) (asB (d2 geI (d1 bU (d2 ixD (ac 3) (cI 2))) (ac 4))))) (aY (λ_=>!.bl false)) dNx)
  (aY (d1 qF (asO (asL (aI 1 [1,2] (cQ (d2 ixD (ac 3) (cI 2))) (setV 0) bf (aj (fD C) (aB 1 (aB 2 (aB 0 nA)))))))))))))
def d_(C:Addr):List DV->Option DV:=mOf 5 4 (ny C)
def lC(T:Txt K mg t):Ok P w K mg base t 60 9 d_:=
 (T.F 60).okI (nIq 60) λh=>aa (by ext)<|aa (bn (PDW.t<|eM (cw<|bW<|lK qx T.b_isinstance qx T.b_tuple L2.boot_tuple<|a_ 3)<|eM (by ext)<|e9<|cw<|bW<|lK qx T.b_isinstance qx T.b_list L2.boot_list<|by ext) (by ext) aL)<|aa (bn (PDW.t<|eM (cw<|bW<|pcI (dX T) (T.G 58) h<|by ext)<|e9<|gu h.h64 (by ext)<|PDE.n<|pcI (j7 T) (T.G 57) h<|aW 0<|aP (PDO.v<|e8 qx qx T.b_list qx T.b_range<|aJ 4) aq) (by ext) aL)<|aa (bn (PDW.t<|eM (cw<|bW<|pcI (dX T) (T.G 58) h<|by ext)<|eM (gu h.h64 (by ext)<|PDE.n<|pcI (j7 T) (T.G 57) h<|by ext)<|e9<|KP (by ext)<|aw 4) (by ext) aL)<|ai<|aR<|uD qx qx T.b_all<|PDE.n<|PDO.v<|fJ ["_law_turning","_law_kinds_here","_law_table_here"] 1 [1,2] [0] (jH<|by ext) (b5 0) cJ<|pcI (uX T) (T.G 59) h<|by ext
def sH(C:Addr):DF->Option RES:=
  (am (bC 3 (asL aE))
  (am (d5 (cZ (d1 bU (ap 2))) (setV 4) (d5 (wI (d2 aU (ac 4) (cI 1)) (d1 bU (ap 2))) (setV 5) (du 3 (d2 gn (ac 1) (asT (ag (d2 ixD (ac 2) (ac 4)) (ag (d2 ixD (ac 2) (ac 5)) aE)))))))
  (aY (asT (ag (d1 ki (asO (asL (aI 1 [0] (bu 2) (setV 0) bf (d2 ixD (ac 1) (ac 0)))))) (ag (d1 ki (ac 3)) aE))))))
def fZ(C:Addr):List DV->Option DV:=mOf 6 3 (sH C)
def pE(T:Txt K mg t):Ok P w K mg base t 56 1 fZ:=
 (T.F 56).okI (nIq 56) λh=>aa (by ext)<|aa (pfI (by ext) (b5 4)<|ai<|pfI (j9 qx T.b_range (by ext)<|by ext) (b5 5)<|ai<|bH 3 (pv 3)<|uw h.h64 (aw 1)<|by ext)<|ai<|aR<|aS<|af (f9 qx T.b_tuple<|PDE.r<|PDO.v<|fJ ["_law_place","_law_kinds_here"] 1 [0] [0] (iA 2) (b5 0) cJ<|by ext)<|by ext
def jN(C:Addr):DF->Option RES:=
  (dg (BV (eW (cT C) (aV (getV 0) nA))))
def bP(C:Addr):List DV->Option DV:=mOf 1 1 (jN C)
def gs(T:Txt K mg t):Ok P w K mg base t 21 17 bP:=
 (T.F 21).okI (nIq 21) λh=>ai<|cC<|Di<|poI (i9 T) (T.G 20) h<|by ext
def nC(C:Addr):DF->Option RES:=
  (aY (aj (dG C) (aB 0 (aV (aj (bP C) (aV (getV 0) nA)) nA))))
def fq(C:Addr):List DV->Option DV:=mOf 1 1 (nC C)
def sY(T:Txt K mg t):Ok P w K mg base t 22 18 fq:=
 (T.F 22).okI (nIq 22) λh=>ai<|aR<|pcI (mh T) (T.G 15) h<|aW 0<|aP (pcI (gs T) (T.G 21) h<|by ext) aq
abbrev Kk:List Str:=["_law_script","_law_kinds_here","_law_ties","_law_size","_law_table_here","_law_web_here","_law_told","_law_row_here","_law_kept","_law_least","_law_found_here","_law_turning"]
def LO(C:Addr):DF->Option RES:=
  (am (vp [1,2] (aj (g8 C) (aB 0 (aV (cI 7) (aV (cI 7) nA)))))
  (am (aC 3 (d1 bU (ap 1)))
  (am (aC 4 (aj (ee C) (aB 2 (aB 3 nA))))
  (am (aC 5 (asO (oK C (eT C) (aB 1 (aB 2 nA)))))
  (am (bC 6 (eW (cT C) (aV (getV 5) nA)))
  (am (dIf (cK 6 (bE (asB (aj (d_ C) (aB 5 (aB 1 (aB 4 (aB 6 nA)))))))) (aY (λ_=>!.bl false)) dNx)
  (am (aC 7 (thG 6 (noL 6) (aj (fZ C) (aB 1 (aB 4 (aV (d2 ixD (ac 6) (cI 1)) nA))))))
  (am (aC 8 (asO (asL (ag (asO (thG 6 thO (asL (cY (d2 ixD (ac 6) (cI 1)))))) (ag (asO (thG 6 thO (tU (aI 1 [] (cQ (d2 ixD (ac 6) (cI 2))) (setV 0) bf λa=>((cY (ac 0)) a).map .lst)))) aE)))))
  (am (zK 6 (cI 9))
  (am (dIf (cK 6 (asB (d2 neD (asO (asL (ag (d2 ixD (ac 6) (cI 1)) (ag (d2 ixD (ac 6) (cI 2)) aE)))) (ap 8)))) (aY (λ_=>!.bl false)) dNx)
  (am (zz 6)
  (am (dIf (cK 6 (asB (d2 neD (d2 ixD (ac 6) (cI 2)) (d2 ixD (ac 8) (cI 1))))) (aY (λ_=>!.bl false)) dNx)
  (am (tE 6 (asL (ag (cI 9) aE)))
  (am (bC 9 (eW (bP C) (aV (getV 5) nA)))
  (am (dIf (cK 9 (orT (bE (asB (aj (br C) (aB 9 (aV (getV 3) nA))))) (orT (asB (d2 neD (ap 9) (aj (dn C) (aB 5 (aB 9 nA))))) (asB (d2 neD (aj (fZ C) (aB 1 (aB 4 (aB 9 nA)))) (ap 7)))))) (aY (λ_=>!.bl false)) dNx)
  (am (aC 10 (aj (fq C) (aV (getV 5) nA)))
  (am (ES 9)
  (am (dIf (orT (bE (asB (d1 (jM "tuple") (ap 10)))) (orT (asB (d2 neD (ap 10) (ap 7))) (asB (d2 neD (aj (dG C) (aB 5 (aV (aj (bP C) (aV (getV 5) nA)) nA))) (ap 7))))) (aY (λ_=>!.bl false)) dNx)
  (am (zA 6 11)
  (aY (aj (d_ C) (aB 5 (aB 1 (aB 4 (aV (aj (cT C) (aV (getV 5) nA)) nA)))))))))))))))))))))))))
def IT(C:Addr):List DV->Option DV:=mOf 12 1 (LO C)
def L5(T:Txt K mg t):Ok P w K mg base t 61 19 IT:=
 (T.F 61).okI ["_law_script","_law_kinds_here","_law_ties","_law_size","_law_table_here","_law_web_here","_law_told","_law_row_here","_law_kept","_law_least","_law_found_here","_law_turning"] λh=>(aa (G2 (jA (is:=[1,2]) qx (bV (pgI 1) (bV (pgI 2) iC))) (pcI (xg T) (T.G 53) h (aW 0 (aP ae (aP ae aq))))) (aa (bN 3 (cD qx T.b_len (a_ 1))) (aa (bN 4 (pcI (tH T) (T.G 55) h (aW 2 (aW 3 aq)))) (aa (bN 5 (PDO.v (Cg T.mkC (sS T) (h.mono (by decide)) qx T.mgC (T.F 39000).bd (aW 1 (aW 2 aq))))) (aa (ir 6 (poI (i9 T) (T.G 20) h (aP (aJ 5) aq))) (aa (bn (iL 6 (cw (bW (pcI (lC T) (T.G 60) h (aW 5 (aW 1 (aW 4 (aW 6 aq)))))))) (ai (aR db)) aL) (aa (bN 7 (EH 6 (pcI (pE T) (T.G 56) h (aW 1 (aW 4 (aP (aN (aw 6) (PDE.r ae)) aq)))))) (aa (bN 8 (PDO.v (bp (af (PDO.v (D7 6 (gq qx T.b_list (PDE.r (aN (aw 6) (PDE.r ae)))))) (af (PDO.v (D7 6 (AV (N:=["_law_turning"]) (own:=1) (ix:=[]) (is:=[0]) qx (CY (defScope (top 61)) qx (by decide+kernel)) (DN Kk qx (by decide+kernel)) (xy (by decide)) (jH (aN (aw 6) (PDE.r ae))) (λ_ _ _ _=>(b5 0)) (λ_ _ _ _=>cJ) (λ_ _ _ _=>(gq qx T.b_list (aw 0))) (by decide+kernel)))) ay))))) (aa (Fs 6 (pv 6) ae) (aa (bn (iL 6 (gu h.h64 (PDE.n (PDO.v (bp (af (aN (aw 6) (PDE.r ae)) (af (aN (aw 6) (PDE.r ae)) ay))))) (a_ 8))) (ai (aR db)) aL) (aa (Fm 6 (pv 6)) (aa (bn (iL 6 (gu h.h64 (PDE.n (aN (aw 6) (PDE.r ae))) (PDE.n (aN (aw 8) (PDE.r ae))))) (ai (aR db)) aL) (aa (Ex 6 (pv 6) (bp (af ae ay))) (aa (ir 9 (poI (gs T) (T.G 21) h (aP (aJ 5) aq))) (aa (bn (iL 9 (PDW.t (eM (cw (bW (pcI (dX T) (T.G 58) h (aW 9 (aP (aJ 3) aq))))) (eM (gu h.h64 (a_ 9) (PDE.n (pcI (j7 T) (T.G 57) h (aW 5 (aW 9 aq))))) (e9 (gu h.h64 (PDE.n (pcI (pE T) (T.G 56) h (aW 1 (aW 4 (aW 9 aq))))) (a_ 7))))))) (ai (aR db)) aL) (aa (bN 10 (pcI (sY T) (T.G 22) h (aP (aJ 5) aq))) (aa (BK 9 (pv 9)) (aa (bn (PDW.t (eM (cw (bW (lK qx T.b_isinstance qx T.b_tuple L2.boot_tuple (a_ 10)))) (eM (gu h.h64 (a_ 10) (a_ 7)) (e9 (gu h.h64 (PDE.n (pcI (mh T) (T.G 15) h (aW 5 (aP (pcI (gs T) (T.G 21) h (aP (aJ 5) aq)) aq)))) (a_ 7)))))) (ai (aR db)) aL) (aa (Fx 6 11 Vr qx (pv 6) (pgI 11) (pv 11)) (ai (aR (pcI (lC T) (T.G 60) h (aW 5 (aW 1 (aW 4 (aP (pcI (i9 T) (T.G 20) h (aP (aJ 5) aq)) aq))))))))))))))))))))))))))
end
abbrev sI(i:Int):Option DV:=!.v (.int i)
abbrev sV(d:D):Option DV:=!.v d
abbrev oW(o:OD)(t:Option Addr):Option DV:=!.own o t
theorem dW{st}(I:Nat->DF->Prop):∀ds k ρ,I k ρ->
  (∀j d ρ,ds[j]?=!d->I (k+j) ρ->∃ρ1,st d ρ=!ρ1/\∃ρ',body ρ1=!.nx ρ'/\I (k+j+1) ρ')->∃ρ',eV st body ds ρ=!.nx ρ'/\I (k+ds.length) ρ'
 |[],k,ρ,h,_=>#[ρ,qx,h]
 |d::ds,k,ρ,h,hs=>by
  let#[ρ1,m,ρ',l,g]:=hs 0 d ρ qx h;let#[a,i,f]:=dW I ds (k+1) ρ' g λj o b c e=>by
   have:=hs (j+1) o b (by simpa using c)<|by rwa[<-Nat.add_assoc,Vp]
   rwa [show k+(j+1)+1=k+1+j+1 by lia]at this
  exact#[a,?_,by rwa[Yv,show k+(ds.length+1)=k+1+ds.length by lia]];delta eV;rw[m];simp[l];exact i
def kK(I:DF->Prop)(h:I ρ)(hs:∀d∈ds,∀ρ,I ρ->∃ρ1,st d ρ=!ρ1/\∃ρ',body ρ1=!.nx ρ'/\I ρ'):∃ρ',eV st body ds ρ=!.nx ρ'/\I ρ':=
 dW (λ_=>I) ds 0 ρ h λj d ρ a b=>hs d (YR a) ρ b
def bq{c}{e}{α:Type}f F:∀xs:List α,(∀x∈xs,∃ρ1,st (f x) ρ=!ρ1/\c ρ1=!true/\e ρ1=!F x)->bO st c e ρ (xs.map f)=!xs.map F
 |[],_=>rfl
 |x::xs,h=>by
  let#[ρ1,i,g,b]:=h x Ye;rw[YF];delta bO;rw[i,Yb,g,Yb,Yl qx,b,Yb,bq f F xs λy a=>h y<|Yd _ a];rfl
def jD i j:eqd (.int i) (.int j)=decide (i=j):=by
 let h:=c6 (.int i) (.int j) qx;by_cases e:i=j
 .rw[YI e,h,e]
 .rw[YB e];cases q:eqd _ (.int j)with
  |false=>rfl
  |true=>exact absurd (by simpa using h.mp q) e
def HG i j:eqd (.bl i) (.bl j)=decide (i=j):=by
 let h:=c6 (.bl i) (.bl j) qx;by_cases e:i=j
 .rw[YI e,h,e]
 .rw[YB e];cases q:eqd _ (.bl j)with
  |false=>rfl
  |true=>exact absurd (by simpa using h.mp q) e
@[simp] theorem zN i j:eqD (.int i) (.int j)=!.bl (decide (i=j)):=by delta eqD;rfl
@[simp] theorem MP i j:eqD (.bl i) (.bl j)=!.bl (decide (i=j)):=by delta eqD;rfl
@[simp] theorem Gc i j:neD (.int i) (.int j)=!.bl ((not<|decide (i=j))):=by delta neD;rfl
@[simp] theorem L7 i j:ltd (.int i) (.int j)=!.bl (decide (i<j)):=rfl
@[simp] theorem Mb i j:gtI (.int i) (.int j)=!.bl (decide (j<i)):=rfl
@[simp] theorem Mh i j:leA (.int i) (.int j)=!.bl (decide (i<=j)):=rfl
@[simp] theorem L_ i j:ltI (.int i) (.int j)=!.bl (decide (i<j)):=rfl
@[simp] theorem KH i j:aU (.int i) (.int j)=!.int (i+j):=rfl
@[simp] theorem LM i j:l8 (.int i) (.int j)=!.int (i-j):=rfl
def jm i j(h:(-(2^64)<i/\i<2^64)\/(-(2^64)<j/\j<2^64)):kB (.int i) (.int j)=!.int (i*j):=Yl<|YI h
def bj i j(h:0<j):bg (.int i) (.int j)=!.int (i%j):=Yl<|YI h
def bM i j(h:0<j/\j<1073741824):bi (.int i) (.int j)=!.int (i/j):=Yl<|YI h
@[simp] theorem Mc:qN (.int 10) (.int 30)=!.int 1000000000000000000000000000000:=rfl
section
variable{f:Dd}{fl:Dl}{fv:Dv}{c c':Dk}{h:Dw}
@[simp] theorem ux:am g h ρ=match g ρ with|some (.nx ρ')=>h ρ'|r=>r:=rfl
@[simp] theorem fi:aC i f ρ=(f ρ).map λd=>.nx (ρ.set i (sV d)):=rfl
@[simp] theorem C3:bC i fo ρ=(fo ρ).map λo=>.nx (ρ.set i (oW o ())):=rfl
@[simp] theorem lD:aY f ρ=(f ρ).map λd=>.rt (.v d) ρ:=rfl
@[simp] theorem fE:dg fo ρ=(fo ρ).map λo=>.rt (.own o ()) ρ:=rfl
@[simp] theorem Kg:iX i ρ=match ρ[i]? with|some (!x)=>!.rt x ρ|_=>():=rfl
@[simp] theorem bJ:dIf c g h ρ=(c ρ).bind λb=>if b then g ρ else h ρ:=rfl
@[simp] theorem M5:dNx ρ=!.nx ρ:=rfl
@[simp] theorem Kc:zB f ρ=(f ρ).map λ_=>.nx ρ:=rfl
@[simp] theorem DB:d1 F fa ρ=(fa ρ).bind F:=rfl
@[simp] theorem r8{F:Dy}:d2 F fa fb ρ=(fa ρ).bind λx=>(fb ρ).bind λy=>F x y:=rfl
@[simp] theorem Mi:getV i ρ=match ρ[i]? with|some (!.v d)=>!d|_=>():=rfl
@[simp] theorem Md:ac i ρ=match ρ[i]? with|some (!.v d)=>!d|some (!.own o _)=>if o.flat then !o.d else ()|some (!.bor o)=>if o.flat then !o.d else ()|_=>():=rfl
@[simp] theorem L8:ap i ρ=match ρ[i]? with|some (!.v d)=>!d|some (!.own o _)=>!o.d|some (!.bor o)=>!o.d|_=>():=rfl
@[simp] theorem KL:aB i fv ρ=match ρ[i]? with|some (!.own o _)=>(fv ρ).map λxs=>.bor o::xs|some (!.bor o)=>(fv ρ).map λxs=>.bor o::xs|some (!.v d)=>(fv ρ).map λxs=>.v d::xs|_=>():=rfl
@[simp] theorem LF:aV f fv ρ=(f ρ).bind λd=>(fv ρ).map λxs=>.v d::xs:=rfl
@[simp] theorem vj:aj m fv ρ=(fv ρ).bind λxs=>(m xs).bind dvD:=rfl
@[simp] theorem KU:eW m fv ρ=(fv ρ).bind λxs=>(m xs).bind dvO:=rfl
@[simp] theorem BU:asB f ρ=match f ρ with|some (.bl b)=>!b|_=>():=rfl
@[simp] theorem cP:asL fl ρ=(fl ρ).map .lst:=rfl
@[simp] theorem eR:asO fo ρ=(fo ρ).map OD.d:=rfl
@[simp] theorem MH:asT fl ρ=(fl ρ).map .tup:=rfl
@[simp] theorem Lc:ag f fl ρ=(f ρ).bind λd=>(fl ρ).map λr=>d::r:=rfl
@[simp] theorem Ma:aE ρ=![]:=rfl
@[simp] theorem t_:bE c ρ=(c ρ).map λb=>(not<|b):=rfl
@[simp] theorem Mg:bf ρ=!true:=rfl
@[simp] theorem Fc:setV i d ρ=!ρ.set i (sV d):=rfl
@[simp] theorem ME:ifV c f fa ρ=(c ρ).bind λb=>if b then f ρ else fa ρ:=rfl
@[simp] theorem AL:cY f ρ=(f ρ).bind fK:=rfl
def jn:nj f ρ=(f ρ).bind λd=>(fK d).bind λds=>if bL ds then !aZ ds else ():=rfl
def GV{it}:d5 it st g ρ=(it ρ).bind λds=>eV st g ds ρ:=rfl
@[simp] theorem L6:M6 i g ρ=match ρ[i]? with|some (!.own o ())=>g (ρ.set i (sV (o.d)))|some (!.v d)=>g ρ|_=>():=rfl
def a9{it}{e}:aI own ix it st c e ρ=(it ρ).bind λds=>if ds.length<=16777216 then bO st c e (fU own ix ρ) ds else ():=rfl
@[simp] theorem L9:fV c c' ρ=(c ρ).bind λb=>if b then c' ρ else !false:=rfl
@[simp] theorem Ng:orT c c' ρ=(c ρ).bind λb=>if b then !true else c' ρ:=rfl
@[simp] theorem Mf:wA f fa ρ=match f ρ with|some (.bl true)=>fa ρ|some (.bl false)=>!.bl false|_=>():=rfl
@[simp] theorem Nc:chD F G fa fb fc ρ=(fa ρ).bind λx=>(fb ρ).bind λy=>match F x y with|some (.bl true)=>(fc ρ).bind λz=>G y z|some (.bl false)=>!.bl false|_=>():=rfl
@[simp] theorem CU:cQ f ρ=match f ρ with|some (.lst ds)=>!ds|_=>():=rfl
@[simp] theorem KR:bu i ρ=match ρ[i]? with|some (!.bor (.lst ds))=>!ds|some (!.v (.lst ds))=>!ds|_=>():=rfl
def Fn:cZ f ρ=match f ρ with|some (.int j)=>if -(2^62)<=j/\j<2^62 then !cS 0 j.toNat else ()|_=>():=rfl
def Cs{b a}:slL f b a ρ=match f ρ with|some (.lst xs)=>(b ρ).bind λl=>(a ρ).map λh=>gU xs l h|_=>():=rfl
@[simp] theorem F8:du i f ρ=match ρ[i]? with|some (!.own (.lst ds) t)=>(f ρ).bind λd=>if ds.length<16777216 then !.nx (ρ.set i (oW (.lst (ds++[d])) t)) else ()|_=>():=rfl
@[simp] theorem CZ:vp is f ρ=(f ρ).bind λd=>(gT is d ρ).map .nx:=rfl
@[simp] theorem Nj:bI f ρ=match f ρ with|some (.int i)=>!!i|_=>():=rfl
@[simp] theorem MY:bNo ρ=!():=rfl
end
@[simp] theorem Nu:(OD.lst ds).d=.lst ds:=rfl
@[simp] theorem Nq{ds}:(OD.dT ds).d=.dT ds:=rfl
@[simp] theorem No{ds}:(OD.dK ds).d=.dK ds:=rfl
@[simp] theorem Nv{ds}:(OD.ins C ds).d=.ins C ds:=rfl
@[simp] theorem Np:(OD.lst ds).flat:=rfl
@[simp] theorem Nk{ds:List (List Key×D)}:(OD.dT ds).flat:=rfl
@[simp] theorem Nw{ds:List (Key×D)}:(OD.dK ds).flat:=rfl
@[simp] theorem Nm{ds:List (Str×D)}:(OD.ins C ds).flat:=rfl
@[simp] theorem Nl:dvD (.v d)=!d:=rfl
@[simp] theorem Ny{o}:dvD (.own o t)=!o.d:=rfl
@[simp] theorem Nn{o}:dvO (.own o t)=!o:=rfl
@[simp] theorem NA{x}:bY (!.rt x ρ)=!x:=rfl
@[simp] theorem Nx:bY (!.nx ρ)=sV (.non):=rfl
@[simp] theorem Nr:pR (sV d)=sV d:=rfl
@[simp] theorem Nt{o}:pR (oW o t)=!.bor o:=rfl
@[simp] theorem Nz{o}:pR (!.bor o)=!.bor o:=rfl
@[simp] theorem Me{own:Nat}{ix:List Nat}:fU own ix ρ=List.replicate own ()++ix.map λj=>pR (ρ[j]?).join:=rfl
@[simp] theorem MQ:fK (.lst ds)=!ds:=rfl
@[simp] theorem dE:fK (.tup ds)=!ds:=rfl
@[simp] theorem Kh:bU (.lst ds)=!.int ds.length:=rfl
@[simp] theorem NB:bU (.tup ds)=!.int ds.length:=rfl
def ix1{i}:ixD (.lst ds) (.int i)=atI ds i:=rfl
def ix2{i}:ixD (.tup ds) (.int i)=atI ds i:=rfl
@[simp] theorem MG{n p}:mOf n p g xs=if xs.length=p then bY (g (aK n p xs))else ():=rfl
@[simp] theorem J3{n p}:aK n p xs=xs.map some++List.replicate (n-p) ():=rfl
def BQ{x:Int}(h:1<=x/\x<8):x=1\/x=2\/x=3\/x=4\/x=5\/x=6\/x=7:=by
 let#[m,a]:=Xk (show 0<=x-1 by lia);have key:∀m:Fin 7,(m:Int)+1=1\/(m:Int)+1=2\/(m:Int)+1=3\/(m:Int)+1=4\/(m:Int)+1=5\/(m:Int)+1=6\/(m:Int)+1=7:=by decide
 have:=key #[m,by lia]
 rwa [show(m)+1=x by lia]at this
def okW(x:Str):Prop:=1<=x.cps.size/\x.cps.size<=3/\∀c∈x.cps.toList,97<=c/\c<=122
theorem ri{a b:Type}(f:a->b):∀(l:List a) k,(l.map f).eraseIdx k=(l.eraseIdx k).map f
 |[],_=>rfl
 |_::_,0=>rfl
 |x::l,k+1=>by rw[YF,Vt,Vt,YF,ri]
theorem CH{n:Nat}{k:Int}(h:0<=k)(h1:k<n)(a:n<1000):za n (.int k)=!k.toNat:=by
 show(if -(2^63)<=k/\k<2^63 then seqIndex? k n else ())=_;rw[Yl<|by lia];delta seqIndex?;have e:¬k<0:=by lia
 simp[e,h1]
theorem ji{a:Type}:∀(l:List a) k h,(l[k]::l.eraseIdx k).Perm l
 |x::l,0,_=>.refl _
 |x::l,k+1,h=>by
  have:=ji l k (by simpa using h);exact(List.Perm.swap _ _ _).trans<|this.cons x
def ao(n:Int):Qj:=(List.range n.toNat).map λi:Nat=>i
def aG n:(ao n).length=n.toNat:=by simp[ao]
theorem aA{n i}:i∈ao n↔0<=i/\i<n:=by
 delta ao;rw[Yg];constructor
 .rintro⟨k,h,rfl⟩;have:=Zf.mp h;lia
 .rintro⟨b,a⟩;exact#[i.toNat,Zf.mpr<|by lia,by lia]
theorem eX n:(ao n).Nodup:=by delta ao;rw[List.Nodup,ZZ];exact(List.nodup_range).imp λh e=>h<|by lia
def ms n:cS 0 n.toNat=(ao n).map D.int:=by delta cS ao;simp
def dP(p:Int×Int):D:=.tup [.int p.1,.int p.2]
def okP(n:Int)(p:Int×Int):Prop:=0<=p.1/\p.1<n/\0<=p.2/\p.2<n/\p.1≠p.2
def p8{a}:mOf n 1 g [a]=bY (g (aK n 1 [a])):=rfl
def g9{a b}:mOf n 2 g [a,b]=bY (g (aK n 2 [a,b])):=rfl
def pj{a b c}:mOf n 3 g [a,b,c]=bY (g (aK n 3 [a,b,c])):=rfl
def J_{a b c d}:mOf n 4 g [a,b,c,d]=bY (g (aK n 4 [a,b,c,d])):=rfl
def lw(h:((ao n).map D.int)[j]?=!d):d=.int j:=by
 delta ao at h;rw[Yt,Yt]at h;cases q:(List.range n.toNat)[j]? with
 |none=>rw[q]at h;cases h
 |some k=>
  rw[q]at h;let#[b,a]:=Ym.mp q;rw[List.getElem_range]at a;subst a;cases h;rfl
abbrev T4:=Int×Int×Int×Bool
def dT4(t:T4):D:=.tup [.int t.1,.int t.2.1,.int t.2.2.1,.bl t.2.2.2]
def okT(n:Int)(t:T4):Prop:=0<=t.1/\t.1<n/\0<=t.2.1/\t.2.1<n/\t.1≠t.2.1/\0<=t.2.2.1/\t.2.2.1<1000000000000000000000000000000
def lR{a}{l:List a}{i:Int}(h:0<=i)(h1:i<l.length):atI l i=l[i.toNat]?:=by delta atI ixN;rw[Yl h,Yl h1];rfl
theorem gE{a b:Type}{l:List a}(f:a->b){i:Int}(c:0<=i)(h1:i<l.length):∃x,l[i.toNat]?=!x/\atI (l.map f) i=!f x:=by
 have h:i.toNat<l.length:=by lia
 exact#[l[i.toNat],Yi h,?_];rw[lR c<|by rwa[Ya],Yt,Yi];rfl
theorem pQ{a}l(x:a):atI (l++[x]) (-1)=!x:=by
 delta atI ixN;rw[Yn<|by decide,Yl<|by rw[Yo,YM];lia,Yo,YM];have:(-1+((l.length+1:Nat):Int)).toNat=l.length:=by lia
 rw[this,Yb,Zu<|Yp _,Nat.sub_self];rfl
theorem aO(a:1<=n)(p:out.Perm (ao n)):out.length=n/\out.Nodup/\∀x∈out,0<=x/\x<n:=
 #[by rw[p.length_eq,aG];lia,p.nodup_iff.mpr<|eX n,λx h=>aA.mp<|p.mem_iff.mp h]
def Hi(h:out.Nodup){x y}(hi:out[i]?=!x)(f:out[j]?=!y)(a:i≠j):x≠y:=by intro e;subst e;let#[l,c]:=Ym.mp hi;let#[g,b]:=Ym.mp f;exact a<|(List.getElem_inj h).mp<|c.trans b.symm
def dS{f}(h:f ρ=!.int n)(b:0<=n/\n<=1000):cZ f ρ=!(ao n).map .int:=by
 have a:-(2^62)<=n/\n<2^62:=by lia
 rw[Fn,h];simp only;rw[Yl a,ms]
def ak{h}(e:g ρ=!.nx ρ'):am g h ρ=h ρ':=by rw[ux,e]
def gN{h}{x}(e:g ρ=!.rt x ρ'):am g h ρ=!.rt x ρ':=by rw[ux,e]
def lf(t:T4):T4:=if t.2.2.2\/t.1<t.2.1 then t else(t.2.1,t.1,t.2.2.1,t.2.2.2)
def Kz(h:okT n t):okT n (lf t):=by
 delta lf;split
 .exact h
 .let#[a,b,c,d,e,f]:=h;exact#[c,d,a,b,λq=>e q.symm,f]
def AT(ts:List T4)(h:ts.length<64):bL (ts.map dT4):=by
 delta bL;simp only[Yr,YQ,Yh,Ya];exact#[#[#[#[h,?_],?_],?_],?_]
 .intro x a;let#[t,_,rfl]:=Yg.mp a;rfl
 .intro x a y b;let#[t,_,rfl]:=Yg.mp a;let#[u,_,rfl]:=Yg.mp b;rfl
 .intro x a;let#[t,_,rfl]:=Yg.mp a;rfl
 .intro x a;let#[t,_,rfl]:=Yg.mp a;rfl
def Bw(ts:Qj)(h:ts.length<64):bL (ts.map D.int):=by
 delta bL;simp only[Yr,YQ,Yh,Ya];exact#[#[#[#[h,?_],?_],?_],?_]
 .intro x a;let#[t,_,rfl]:=Yg.mp a;rfl
 .intro x a y b;let#[t,_,rfl]:=Yg.mp a;let#[u,_,rfl]:=Yg.mp b;rfl
 .intro x a;let#[t,_,rfl]:=Yg.mp a;rfl
 .intro x a;let#[t,_,rfl]:=Yg.mp a;rfl
def fY{b:Type}f(g:D->b)(c:∀a,g (f a)=a){l}{ts}(h:l.Perm (ts.map f)):∃us:List b,l=us.map f/\us.Perm ts:=by
 exact#[l.map g,?_,?_]
 .rw[YD]
  conv=>lhs;rw[<-XH l]
  exact YY λx e=>?_;let#[t,_,rfl]:=Yg.mp<|h.mem_iff.mp e;show _=f _;rw[c];rfl
 .have:=h.map g;rwa[YD,show g ∘ f=id from funext c,XH]at this
def Mt:D->T4
 |.tup [.int a,.int b,.int k,.bl o]=>(a,b,k,o)
 |_=>(0,0,0,false)
def unI:D->Int
 |.int a=>a
 |_=>0
def zj ts:∃us:List T4,aZ (ts.map dT4)=us.map dT4/\us.Perm ts:=fY dT4 Mt (λz=>rfl)<|be _
def kAt(ks:List Str)(x:Int):Str:=(ks[x.toNat]?).getD #[#[[]]]
def kZ [DecidableEq κ]k k' v:∀kvs:List (κ×D),dq (eS kvs k v) k'=if k=k' then !v else dq kvs k':=by
 intro kvs;delta eS;split
 .rename_i h;induction kvs with
  |nil=>simp at h
  |cons x r ih=>
   let#[q,w]:=x;by_cases e:q=k
   .subst e;by_cases f:q=k'
    .simp[cy,f]
    .have g:∀r:List<|κ×D,dq (r.map λc=>if c.1=q then(c.1,v)else c) k'=dq r k':=by
      intro r;induction r with
      |nil=>rfl
      |cons y r ih=>
       let#[a,b]:=y;by_cases i:a=q
       .subst i;simp[cy,f,ih]
       .simp[cy,i,ih]
     simp[cy,f,g]
   .have l:(r.any λc=>decide<|c.1=k):=by simpa[e]using h
    have:=ih l;by_cases f:q=k'
    .subst f;simp[cy,e,show ¬k=q from λz=>e z.symm]
    .simp[e,cy,f];exact this
 .rename_i h;induction kvs with
  |nil=>simp[dq]
  |cons x r ih=>
   let#[q,w]:=x;have j:¬q=k:=by intro z;exact h<|by simp[z]
   have g:¬(r.any λc=>decide<|c.1=k):=λz=>h<|by simp[z]
   have:=ih g;rw[List.cons_append,cy,cy,this];by_cases e:k=k'
   .subst e;simp[j]
   .simp[e]
def oV [DecidableEq κ]k v(kvs:List (κ×D)):(eS kvs k v).length<=kvs.length+1:=by
 delta eS;split
 .simp
 .simp
def vy x:∀out:Qj,x∈out->i7 (.int x) (out.map .int)=!out.idxOf x
 |y::out,h=>by
  rw[YF];delta i7;rw[jD,List.idxOf_cons];by_cases e:y=x
  .simp[e]
  .have a:x∈out:=by rcases Ys.mp h with rfl|h;exact absurd qx e;exact h
   have b:(y == x)=false:=by simpa using e
   rw[vy x out a,Yn<|by simpa using e,b];rfl
def oY{c e}(f:c->e)l a b:gU (l.map f) a b=(gU l a b).map f:=by delta gU;rw[Ya,List.map_take,List.map_drop]
def okK(n:Int)(ks:List Str):Prop:=ks.length=n/\∀k∈ks,okW k
def okS(n:Int)(ts:List T4):Prop:=ts.length<=12/\∀t∈ts,okT n t
def je{c}q:∀xs:Qj,(∀x∈xs,c (ρ.set 0 (sI x))=!q x)->0<ρ.length->bO (setV 0) c (getV 0) ρ (xs.map .int)=!(xs.filter q).map .int
 |[],_,_=>rfl
 |x::xs,h,hl=>by
  let ih:=je q xs (λy a=>h y<|Yd _ a) hl;let b:=h x Ye;rw[YF];delta bO;rw[Fc,Yb,b,Yb,List.filter_cons];cases q x with
  |false=>rw[Yn<|by decide,Yn<|by decide,ih]
  |true=>
   have e:getV 0 (ρ.set 0<|sI x)=!.int x:=by delta getV;rw[ZJ hl]
   rw[Yl qx,Yl qx,e,Yb,ih];rfl
def EK(l:List α)(h:0<=k):gU l () (!k)=l.take k.toNat:=by delta gU HT.sIx;simp only[VB,Nat.sub_zero];rw[Yn<|by lia,<-VC,ZW]
def Bc(l:List α)(h:0<=k):gU l (!k) ()=l.drop k.toNat:=by
 delta gU HT.sIx;simp;rw[Yn<|by lia];by_cases a:k.toNat<=l.length
 .rw[Nat.min_eq_left a,<-XJ,ZW]
 .rw[Nat.min_eq_right<|by lia,Nat.sub_self,List.take_zero,ZX<|by lia]
def wa xs ys(h:xs.length+ys.length<=16777216):aU (.lst xs) (.lst ys)=!.lst (xs++ys):=Yl h
def cL{it}(h:it ρ=!ds)(e:eV st g ds ρ=!r):d5 it st g ρ=!r:=by rwa[GV,h]
theorem p_ C x(h:okW x):cV C [.v (.str x)]=sV (.bl true):=by
 let#[w,u,g]:=h;have p:bO (setV 0) bf (chD leA leA (λt=>some<|.str "a") (ap 0) λt=>some<|.str "z") [()] (L2.signs x)=!(x.cps.toList.map λt=>D.bl true):=by
  exact bq _ _ _ λc f=>?_;let#[z,y]:=g c f;have e:leA (.str "a") (.str #[#[[c]]])=!.bl true:=by
   show some (D.bl<|(not<|decide ([c] < [97])))=_;have:¬([c] < [97]):=λh=>by rcases List.cons_lt_cons_iff.mp h with h|⟨_,h⟩;lia;exact absurd h<|List.not_lt_nil _
   rw[YB this];rfl
  have l:leA (.str #[#[[c]]]) (.str "z")=!.bl true:=by
   show some (D.bl<|(not<|decide ([122] < [c])))=_;have:¬([122] < [c]):=λh=>by rcases List.cons_lt_cons_iff.mp h with h|⟨_,h⟩;lia;exact absurd h<|List.not_lt_nil _
   rw[YB this];rfl
  simp[e,l]
 have b:(L2.signs x).length<=16777216:=by delta L2.signs;rw[Ya,Zr];lia
 have o:qF (.lst<|x.cps.toList.map λt=>D.bl true)=!.bl true:=by
  have s:((x.cps.toList.map λt=>D.bl true).all um):=by simp[um]
  have q:((x.cps.toList.map λt=>D.bl true).all trD):=by simp[trD]
  show(if((x.cps.toList.map λt=>D.bl true).all um) then !D.bl _ else ())=_;rw[Yl s,q]
 have m:bU (.str x)=!.int x.cps.size:=Yl (show x.cps.size<=16777216 by lia);have a:aI 1 [] (vt<|getV 0) (setV 0) bf (chD leA leA (λt=>some<|.str "a") (ap 0) λt=>some<|.str "z") [sV<|.str x,()]=!(x.cps.toList.map λt=>D.bl true):=by have:vt (getV 0) [sV<|.str x,()]=!_:=rfl;rwa[a9,this,Yb,Yl b]
 delta cV iY;have j:1<=(x.cps.size:Int):=by lia
 have i:(x.cps.size:Int)<=3:=by lia
 simp[a,o,m,j,i]
def IX C t n(h:okT n t):ik C [.v (dT4 t),.v (.int n)]=sV (.bl true):=by
 let#[a,b,k,o]:=t;let#[l,j,g,b1,i,e,c]:=h;have q:atI [D.int a,.int b,.int k,.bl o] 0=!_:=rfl;have p:atI [D.int a,.int b,.int k,.bl o] 1=!_:=rfl;have m:atI [D.int a,.int b,.int k,.bl o] 2=!_:=rfl;have f:dH C [.v<|.int k]=sV (.bl true):=by simp[dH,jP,e,c]
 delta ik vG;simp[dT4,ix2,q,p,m,l,j,g,b1,i,f]
def Ad C ks ts n(e:1<=n/\n<=7)(f:okK n ks)(hs:okS n ts):c9 C [.v (.lst (ks.map .str)),.v (.lst (ts.map dT4))]=sV (.non):=by
 let i:=p_ C;have g:=λt h=>IX C t n h
 delta c9 jo;generalize cV C=P at i ⊢;generalize ik C=T at g ⊢;have b:=f.1;have o:=e.1;have m:=e.2;have l:¬12<(ts.length:Int):=by have:=hs.1;lia
 have q:∀G,(am (dIf (bE<|asB<|chD leA leA (cI 1) (d1 bU<|ap 0)<|cI 7) kI dNx)<|am (dIf (asB<|d2 gtI (d1 bU<|ap 1)<|cI 12) kI dNx) G) (aK 4 2 [.v<|.lst<|ks.map .str,.v<|.lst<|ts.map dT4])=G [sV<|.lst<|ks.map .str,sV<|.lst<|ts.map dT4,(),()]:=by intro G;simp[b,o,m,l]
 let#[u,s,y,rfl]:=kK (st:=setV 2) (body:=(dIf (bE<|asB<|aj P<|aV (getV 2) nA) kI dNx)) (λρ=>∃x,ρ=[sV _,sV _,x,()]) (ρ:=[sV _,sV _,(),()]) #[_,qx] (by
  rintro d c _ ⟨x,rfl⟩;let#[k,a,rfl]:=Yg.mp c;have:=i k<|f.2 k a;exact#[[sV _,sV _,sV<|.str k,()],qx,[sV<|.lst<|ks.map .str,sV<|.lst<|ts.map dT4,sV<|.str k,()],?_,_,qx];simp[this])
 let#[z,p,w,rfl]:=kK (st:=setV 3) (body:=(dIf (bE<|asB<|aj T<|aB 3<|aV (d1 bU<|ap 0) nA) kI dNx)) (λρ=>∃j,ρ=[sV _,sV _,y,j]) (ρ:=[sV _,sV _,y,()]) #[_,qx] (by
  rintro d c _ ⟨x,rfl⟩;let#[k,a,rfl]:=Yg.mp c;have:=g k<|hs.2 k a;exact#[[sV _,sV _,y,sV<|dT4 k],qx,[sV<|.lst<|ks.map .str,sV<|.lst<|ts.map dT4,y,sV<|dT4 k],?_,_,qx];simp[b,this])
 rw[g9,q,ak<|cL qx s,cL qx p];rfl
def AR C t:c_ C [.v (dT4 t)]=sV (dT4 (lf t)):=by
 let#[a,b,k,o]:=t;have g:atI [D.int a,.int b,.int k,.bl o] 0=!_:=rfl;have f:atI [D.int a,.int b,.int k,.bl o] 1=!_:=rfl;have c:atI [D.int a,.int b,.int k,.bl o] 2=!_:=rfl;have e:atI [D.int a,.int b,.int k,.bl o] 3=!_:=rfl;delta c_ ju;cases o with
 |true=>simp[dT4,ix2,e,lf]
 |false=>
  by_cases h:a<b
  .simp[dT4,ix2,g,f,e,lf,h]
  .simp[dT4,ix2,g,f,c,e,lf,h]
def ve(ts:List (Int×Int))(h:ts.length<64):bL (ts.map dP):=by
 delta bL;simp only[Yr,YQ,Yh,Ya];exact#[#[#[#[h,?_],?_],?_],?_]
 .intro x a;let#[t,_,rfl]:=Yg.mp a;rfl
 .intro x a y b;let#[t,_,rfl]:=Yg.mp a;let#[u,_,rfl]:=Yg.mp b;rfl
 .intro x a;let#[t,_,rfl]:=Yg.mp a;rfl
 .intro x a;let#[t,_,rfl]:=Yg.mp a;rfl
def unP:D->Int×Int
 |.tup [.int a,.int b]=>(a,b)
 |_=>(0,0)
def wc{fk}:sx j fk fv ρ=match ρ[j]? with
 |some (some<|.own (.dT kvs) t)=>(fv ρ).bind λv=>(fk ρ).bind λy=>(k7 y).bind λk=>if kvs.length<16777216 then !(.nx<|ρ.set j<|oW (.dT<|eS kvs k v) t)else ()
 |_=>():=rfl
def oN{fd fk}:lx fd fk fx ρ=match fd ρ with
 |some (.dT kvs)=>(fk ρ).bind λy=>(k7 y).bind λk=>(fx ρ).map λx=>(dq kvs k).getD x
 |_=>():=rfl
def wFs(ks:List Str)(T J:D):List (Str×D):=[("kinds",.lst<|ks.map .str),("ties",T),("joins",J)]
def n1:¬(("kinds":Str) = "ties"):=by decide+kernel
def n2:¬(("kinds":Str) = "joins"):=by decide+kernel
def n3:¬(("ties":Str) = "joins"):=by decide+kernel
def b1:(("ties":Str) == "kinds")=false:=by decide+kernel
def b2:(("size":Str) == "kinds")=false:=by decide+kernel
def b3:(("size":Str) == "ties")=false:=by decide+kernel
def b4:(("size":Str) == "joins")=false:=by decide+kernel
def tZ:jU C n (.ins C fs)=fs.lookup n:=Yl qx
def l_ C ks T J:jU C "kinds" (.ins C (wFs ks T J))=!.lst (ks.map .str):=by rw[tZ];delta wFs;simp
def Gz ks T J:(wFs ks T J).lookup ("size":Str)=():=by delta wFs;simp[List.lookup,b2,b3,b4]
def Ey:sg C i n fv ρ=match ρ[i]? with
 |some (some<|.own (.ins C' fs) t)=>if C'=C then(fv ρ).bind λd=>if fs.length<1000 then !(.nx<|ρ.set i<|oW (.ins C<|pN n d fs) t)else () else ()
 |_=>():=rfl
def srt(ts:List T4):List D:=aZ<|(ts.map lf).map dT4
def yE(r:Qj):okN 30 (.lst (r.map .int)):=by show(r.map D.int).all _;rw[Yh];intro x h;let#[t,_,rfl]:=Yg.mp h;rfl
def wF:∀a b:Qj,bh (a.map .int) (b.map .int)
 |[],_=>rfl
 |_::_,[]=>rfl
 |x::a,y::b=>by
  rw[YF,YF];show(aH _ _&&bh _ _);rw[wF];rfl
def vN{a b:Qj}(h:a.map D.int=b.map D.int):a=b:=by have:=YU (List.map unI) h;rwa[YD,YD,show unI ∘ D.int=id from rfl,XH,XH]at this
def JB{r:Qj}(e:1<=n)(b:okK n ks)(p:r.Perm (ao n)):okK n (r.map (kAt ks)):=by
 let#[g,m,f]:=aO e p;exact#[by rwa[Ya],λk h=>?_];let#[x,c,rfl]:=Yg.mp h;let#[l,j]:=f x c;let i:=b.1;have a:x.toNat<ks.length:=by lia
 delta kAt;rw[Yi a];exact b.2 _<|Xf a
theorem eZ{c:Type}f(h:∀x y,aH (f x) (f y)):∀a b:List c,bh (a.map f) (b.map f)
 |[],_=>rfl
 |_::_,[]=>rfl
 |x::a,y::b=>by
  show(aH (f x) (f y)&&bh _ _);rw[eZ f h a b,h];rfl
def wq{b:Type}f(h:∀x y,aH (f x) (f y))(a:List b):eqd (.lst (a.map f)) (.lst (a.map f)):=(kC _ _<|eZ f h a a).mpr qx
def xD{x}(hx:okN 30 x)(h:okN 30 y):eqD x y=!.bl (eqd x y):=Yl<|by rw[hx,h];rfl
def tf{x}(hx:okN 30 x)(h:okN 30 y):neD x y=!.bl ((not<|eqd x y)):=Yl<|by rw[hx,h];rfl
def Jf(ps:List (Int×Int)):Cmps 28 (ps.map dP):=
 #[λx h=>by let#[t,_,rfl]:=Yg.mp h;rfl,λx h y a=>by let#[t,_,rfl]:=Yg.mp h;let#[u,_,rfl]:=Yg.mp a;rfl]
def prs(i j:Int)(t:T4):List (Int×Int):=(if t.1=i/\t.2.1=j then[(t.2.2.1,if t.2.2.2 then 1 else 0)]else[])++(if t.2.1=i/\t.1=j then[(t.2.2.1,if t.2.2.2 then 2 else 0)]else[])
def a7(i j:Int):List T4->List (Int×Int)
 |[]=>[]
 |t::ts=>prs i j t++a7 i j ts
def srP(ps:List (Int×Int)):D:=.tup<|aZ<|ps.map dP
def i8{ps q}(h:ps.Perm q):srP ps=srP q:=by delta srP;rw[iQ (h.map dP)<|Jf _]
def B_ i j ts us:a7 i j (ts++us)=a7 i j ts++a7 i j us:=by
 induction ts with
 |nil=>rfl
 |cons t ts ih=>
  show prs i j t++a7 i j (ts++us)=prs i j t++a7 i j ts++a7 i j us;rw[ih,Zh]
def vv i j ts t:a7 i j (ts++[t])=a7 i j ts++prs i j t:=by rw[B_];show _++(prs i j t++[])=_;rw[Zc]
def A_{i j}{us}(h:ts.Perm us):(a7 i j ts).Perm (a7 i j us):=by
 induction h with
 |nil=>exact .refl _
 |cons t _ ih=>exact ih.append_left _
 |swap a b l=>
  show(prs i j b++(prs i j a++a7 i j l)).Perm<|prs i j a++(prs i j b++a7 i j l);rw[<-Zh,<-Zh];exact List.perm_append_comm.append_right _
 |trans _ _ h1 h2=>exact h1.trans h2
def Jp i j t(h:t.1≠t.2.1):prs i j (lf t)=prs i j t:=by
 let#[a,b,k,o]:=t;delta lf;split
 .rfl
 .rename_i q;have f:o=false:=by cases o with|false=>rfl|true=>exact absurd (Or.inl qx) q
  subst f;delta prs;by_cases e:a=i/\b=j
  .have c:¬(b=i/\a=j):=λz=>h<|by rw[e.1,<-z.1]
   simp[e];simp[e]at c;split
   .rename_i z;exact absurd z.2<|c z.1
   .rfl
  .by_cases c:b=i/\a=j
   .simp[c];simp[c]at e;split
    .rename_i z;exact absurd z.2<|e z.1
    .rfl
   .simp[c]
def FA i j ts(h:∀t∈ts,t.1≠t.2.1):a7 i j (ts.map lf)=a7 i j ts:=by
 induction ts with
 |nil=>rfl
 |cons t ts ih=>
  show prs i j (lf t)++a7 i j _=prs i j t++a7 i j ts;rw[Jp i j t<|h t Ye,ih λu a=>h u<|Yd _ a]
theorem FU i j t:(prs i j t).length<=2:=by
 delta prs;rw[Yo];have h:∀c [Decidable c] (x:Int×Int),(if c then[x]else[]).length<=1:=λc z x=>by split<;>simp
 have:=h (t.1=i/\t.2.1=j) (t.2.2.1,if t.2.2.2 then 1 else 0);have:=h (t.2.1=i/\t.1=j) (t.2.2.1,if t.2.2.2 then 2 else 0);lia
theorem kX i j ts:(a7 i j ts).length<=2*ts.length:=by
 induction ts with
 |nil=>exact Yp _
 |cons t ts ih=>
  show(prs i j t++a7 i j ts).length<=2*(ts.length+1);rw[Yo];have:=FU i j t;lia
def JOk(kvs:List (List Key×D))(ts:List T4):Prop:=∀i j:Int,dq kvs [.inl i,.inl j]=if a7 i j ts=[]then () else !srP (a7 i j ts)
def JOk.get(h:JOk kvs ts)i j:(dq kvs [.inl i,.inl j]).getD (.tup [])=srP (a7 i j ts):=by
 rw[h];split
 .rename_i q;rw[q];rfl
 .rfl
def uN{a b i j}(h:¬(a=i/\b=j)):¬([.inl a,.inl b]:List Key)=[.inl i,.inl j]:=by intro q;injection q with q1 q2;injection q2 with q2 _;exact h #[Ur q1,Ur q2]
theorem Kw C kvs a b k f ps(l:(dq kvs [.inl a,.inl b]).getD (.tup [])=srP ps)(pl:ps.length<=50)(j:kvs.length<1000) :
  fm C (.dT kvs) [.v<|.tup [.int a,.int b],.v<|.tup [.int k,.int f]]=!(.dT<|eS kvs [.inl a,.inl b]<|srP<|ps++[(k,f)],.non):=by
 let#[u,o,g]:=fY dP unP (λz=>rfl)<|be<|ps.map dP;let e:=l.trans<|YU D.tup o;have p:u.length<=50:=by rwa[g.length_eq]
 have m:aU (.tup<|u.map dP) (.tup [.tup [.int k,.int f]])=!(.tup<|(u++[(k,f)]).map dP):=by rw[YW];exact Yl<|by rw[Ya];show u.length+1<=_;lia
 let c:=ve (u++[(k,f)]) (by rw[Yo,YM];lia);have i:D.tup _=srP (ps++[(k,f)]):=i8<|g.append_right _;rw[<-i];exact zq qx qx λad=>#[.nx [oW _ _,sV<|.tup [.int a,.int b],sV<|.tup [.int k,.int f]],?_,qx,qx]
 have h:kvs.length<16777216:=by lia
 generalize (u++[(k,f)]).map dP=L,u.map dP=q at *;delta qp;simp[wc,oN,k7,gW,ja,e,m,jn,c,ki,h]
def K5 a b k o(h:a≠b):prs a b (a,b,k,o)=[(k,if o then 1 else 0)]:=by show(if a=a/\b=b then[(k,if o then 1 else 0)]else[])++(if b=a/\a=b then[(k,if o then 2 else 0)]else[])=_;rw[Yl<|#[qx,qx],Yn (λz:b=a/\a=b=>h z.2)];rfl
def Ku a b k o(h:a≠b):prs b a (a,b,k,o)=[(k,if o then 2 else 0)]:=by show(if a=b/\b=a then[(k,if o then 1 else 0)]else[])++(if b=b/\a=a then[(k,if o then 2 else 0)]else[])=_;rw[Yl (#[qx,qx]:b=b/\a=a),Yn (λz:a=b/\b=a=>h z.1)];rfl
def KY i j a b k o(h1:¬(b=i/\a=j))(h2:¬(a=i/\b=j)):prs i j (a,b,k,o)=[]:=by show(if a=i/\b=j then[(k,if o then 1 else 0)]else[])++(if b=i/\a=j then[(k,if o then 2 else 0)]else[])=_;rw[Yn h2,Yn h1];rfl
def JOk.step(h:JOk kvs ts)a b k o(c:a≠b) :
  JOk (eS (eS kvs [.inl a,.inl b]<|srP<|a7 a b ts++[(k,if o=true then 1 else 0)]) [.inl b,.inl a]<|srP<|a7 b a ts++[(k,if o then 2 else 0)]) (ts++[(a,b,k,o)]):=by
 intro i j;rw[vv,kZ,kZ];by_cases f:b=i/\a=j
 .let#[rfl,rfl]:=f;rw[Ku a b k o c];generalize (k,if o then(2:Int)else 0)=q;rw[Yl qx,Yn<|by simp]
 .rw[Yn<|uN f];by_cases e:a=i/\b=j
  .let#[rfl,rfl]:=e;rw[K5 a b k o c];generalize (k,if o then(1:Int)else 0)=q;rw[Yl qx,Yn<|by simp]
  .rw[Yn<|uN e,h,KY i j a b k o f e,Zc]
def qI{a:Type}{l:List a}{x}(h:l[j]?=!x):l.take (j+1)=l.take j++[x]:=by rw[Up,h];rfl
def Jn(kvs:List (List Key×D)):Prop:=∀p∈kvs,noN 4 p.2
def Jn.put(h:Jn kvs)(hv:noN 4 v):Jn (eS kvs k v):=λp a=>by
 delta eS at a;split at a
 .let#[q,b,rfl]:=Yg.mp a;split
  .exact hv
  .exact h q b
 .rcases YO.mp a with z|z
  .exact h p z
  .rw[Yu.mp z];exact hv
def Hd ps:noN 4 (srP ps):=by let#[u,e,_]:=fY dP unP (λ_=>rfl)<|be _;show noN 4<|.tup _;rw[e];show(u.map dP).all _;rw[VI];exact Yh.mpr λ_ _=>rfl
def FN C ts(Y:ts.length<=12)(hd:∀t∈ts,t.1≠t.2.1):∃kvs,f8 C [.v (.lst (ts.map dT4))]=oW (.dT kvs) ()/\JOk kvs ts/\Jn kvs:=by
 let s:=Kw C;delta f8 oM;generalize fm C=M at s ⊢;let#[z,e,kvs,X,U,T,S,rfl,H,f,q]:=dW (st:=gT [2,3,4,5]) (body:=(am (jf K0 1 M<|aV (asT<|ag (getV 2)<|ag (getV 3) aE)<|aV (asT<|ag (getV 4)<|ag (ifV (asB<|getV 5) (cI 1)<|cI 0) aE) nA)
 <|jf K0 1 M<|aV (asT<|ag (getV 3)<|ag (getV 2) aE)<|aV (asT<|ag (getV 4)<|ag (ifV (asB<|getV 5) (cI 2)<|cI 0) aE) nA))
  (λj J=>∃(kvs:List _) (E B A y:Option DV),J=[sV _,oW (.dT kvs) (),E,B,A,y]/\kvs.length<=2*j/\JOk kvs (ts.take j)/\Jn kvs) (ts.map dT4) 0
  [sV _,oW _ (),(),(),(),()] #[[],_,_,_,_,qx,Yp _,λ_ _=>rfl,λ_ h=>nomatch h] (by
   rintro j d _ m ⟨kvs,E,B,A,y,rfl,H,f,q⟩;rw[Zk]at H f ⊢;rw[Yt]at m;cases i:ts[j]? with
   |none=>rw[i]at m;cases m
   |some t=>
   rw[i]at m;cases m;have R:=(Ym.mp i).1;let#[a,b,k,o]:=t;have p:=hd _<|YR i;let Q:=kX a b<|ts.take j;let P:=kX b a<|ts.take j;have O:(ts.take j).length<=12:=by rw[ZT];lia
   let w:=s kvs a b k (if o then 1 else 0) _ (f.get a b) (by lia) (by lia);let N:=oV [.inl a,.inl b] (srP<|a7 a b (ts.take j)++[(k,if o then 1 else 0)]) kvs;have I:(dq (eS kvs [.inl a,.inl b]<|srP<|a7 a b (ts.take j)++[(k,if o then 1 else 0)]) [.inl b,.inl a]).getD (.tup [])=srP (a7 b a<|ts.take j):=by rw[kZ,Yn<|uN λz=>p z.1];exact f.get b a
   let u:=s _ b a k (if o then 2 else 0) _ I (by lia) (by lia);let x:=f.step a b k o p;rw[<-qI i]at x;let l:=(q.put (k:=[.inl a,.inl b])<|Hd<|a7 a b (ts.take j)++[(k,if o then 1 else 0)]).put (k:=[.inl b,.inl a])<|Hd<|a7 b a (ts.take j)++[(k,if o then 2 else 0)];let L:=oV [.inl b,.inl a] (srP<|a7 b a (ts.take j)++[(k,if o then 2 else 0)])<|eS kvs [.inl a,.inl b]<|srP<|a7 a b (ts.take j)++[(k,if o then 1 else 0)];generalize eS kvs [.inl a,.inl b] _=g at *;generalize eS g [.inl b,.inl a] _=c at *;exact#[[sV _,oW _ (),sI a,sI b,sI k,sV _],qx,[sV<|.lst<|ts.map dT4,oW _ (),sI a,sI b,sI k,sV<|.bl o],?_,c,_,_,_,_,qx,by lia,x,l];clear I x f l q Q P O N L s;cases o with
   |true=>
    simp[VT]at w u;simp[jf,uW,GK,w,u]
   |false=>
    simp at w u;simp[jf,uW,GK,w,u])
 rw[Zk,Ya,ZW]at f;exact#[kvs,?_,f,q];rw[p8];have K:bC 1 (λ_=>!.dT []) (aK 6 1 [.v _])=!.nx [sV<|.lst<|ts.map dT4,oW (.dT []) (),(),(),(),()]:=rfl;rw[ak K,ak<|cL (ds:=ts.map dT4) qx e];rfl
def JOk.perm{us}(h:JOk kvs us)(p:∀i j,(a7 i j us).Perm (a7 i j ts)):JOk kvs ts:=by
 intro i j;let a:=p i j;rw[h,i8 a];by_cases q:a7 i j us=[]
 .rw[q]at a;rw[Yl q,Yl a.symm.eq_nil]
 .rw[Yn q,Yn λz=>q<|by rw[z]at a;exact a.eq_nil]
def IK C ks ts n(w:1<=n/\n<=7)(x:okK n ks)(hs:okS n ts):∃kvs,JOk kvs ts/\eT C (.ins C []) [.v (.lst (ks.map .str)),.v (.lst (ts.map dT4))]=!(.ins C (wFs ks (.lst (srt ts)) (.dT kvs)),.non)/\Jn kvs:=by
 let g:=Ad C ks ts n w x hs;let l:=AR C;let#[a,o,b]:=zj _;have z:=λt h=>(hs.2 t h).2.2.2.2.1
 let#[kvs,m,B,H]:=FN C a (by rw[b.length_eq,Ya];exact hs.1) (λt h=>by
  let#[u,s,rfl]:=Yg.mp<|b.mem_iff.mp h;exact(Kz<|hs.2 u s).2.2.2.2.1)
 let e:=AT (ts.map lf) (by rw[Ya];have:=hs.1;lia);exact#[kvs,B.perm λi j=>?_,zq qx qx λI=>#[.nx [oW _<|!I,sV<|.lst<|ks.map .str,sV<|.lst<|ts.map dT4],?_,qx,qx],H]
 .have:=A_ (i:=i) (j:=j) b
  rwa [FA i j ts z]at this
 delta mW;generalize c9 C=R at g ⊢;generalize c_ C=L at l ⊢;generalize f8 C=J at m ⊢;have c:srt ts=a.map dT4:=o;rw[c];have p:bO (setV 0) bf (aj L<|aV (getV 0) nA) [()] (ts.map dT4)=!(ts.map lf).map dT4:=by
  rw[YD];exact bq dT4 _ ts λt _=>#[[sV _],qx,qx,?_]
  simp[l]
 have q:ts.length<=16777216:=by have:=hs.1;lia
 generalize (aj L _)=E at p ⊢;generalize (ts.map lf).map dT4=X at *;have y:∀fs:List<|Str×D,jU C "ties" (.ins C [("kinds",.lst<|ks.map .str),("ties",.lst<|a.map dT4)])=!.lst (a.map dT4):=by intro _;rw[tZ];simp[List.lookup,b1]
 let f:=y [];generalize a.map dT4=Y,hX:ts.map dT4=Z at *;have A:Z.length<=16777216:=by rwa[<-hX,Ya]
 simp[g,Ey,pN,jn,a9,A,p,e,o,f,m,n1,n2,n3,wFs]
def JK C ks ts n(a:1<=n/\n<=7)(b:okK n ks)(hs:okS n ts):∃kvs,JOk kvs ts/\Jn kvs/\∀g ρ,g ρ=![.v (.lst (ks.map .str)),.v (.lst (ts.map dT4))]->oK C (eT C) g ρ=!.ins C (wFs ks (.lst (srt ts)) (.dT kvs)):=by let#[J,h,e,c]:=IK C ks ts n a b hs;exact#[J,h,c,λg ρ h=>?_];delta oK;rw[h,Yb,e];rfl
def Hf a b i j:eqD (.tup [.int a,.int b]) (.tup [.int i,.int j])=!.bl (decide (a=i/\b=j)):=by
 rw[xD qx qx];let h:=c6 (.tup [.int a,.int b]) (.tup [.int i,.int j]) qx;by_cases e:a=i/\b=j
 .rw[YI e,h.mpr<|by rw[e.1,e.2]]
 .rw[YB e];cases q:eqd _ (.tup [.int i,.int j])with
  |false=>rfl
  |true=>exact absurd (by simpa using h.mp q) e
def EF o:vX (.bl o)=!.int (if o then 1 else 0):=rfl
abbrev tbS(ts:List T4)(kvs:List (List Key×D))(S:Int->Int->Prop):Prop:=∀a b,S a b->dq kvs [.inl a,.inl b]=!srP (a7 a b ts)
def Il(h:tbS ts kvs S)i j(hs:∀a b,S' a b->S a b\/(i=a/\j=b)):tbS ts (eS kvs [.inl i,.inl j] (srP (a7 i j ts))) S':=by
 intro a b q;rw[kZ];by_cases e:i=a/\j=b
 .let#[rfl,rfl]:=e;rw[Yl qx]
 .rw[Yn<|uN e];rcases hs a b q with z|z
  .exact h a b z
  .exact absurd z e
def b8:(("between":Str) == "kinds")=false:=by decide+kernel
def b9:(("between":Str) == "ties")=false:=by decide+kernel
def b10:(("between":Str) == "joins")=false:=by decide+kernel
def b11:(("joins":Str) == "kinds")=false:=by decide+kernel
def b12:(("joins":Str) == "ties")=false:=by decide+kernel
def AM C ks T J:jU C "joins" (.ins C (wFs ks T J))=!J:=by rw[tZ];simp[wFs,List.lookup,b11,b12]
def oU ks T J:(wFs ks T J).lookup ("between":Str)=():=by simp[wFs,List.lookup,b8,b9,b10]
def uo{T J}(h:(wFs ks T J).lookup mn=())xs:mT C mn (.v (.ins C (wFs ks T J))::xs):=by show(match(if C=C then !wFs ks T J else ())with|some fs=>(fs.lookup mn).isNone|none=>false)=true;rw[Yl qx];simp only;rw[h];rfl
def yI C ks T J n(b:ks.length=n)ρ(h:ρ[0]?=!sV (.ins C (wFs ks T J))):bF C "size" (c8 C) (ck (cG 0) g0) ρ=!.int n:=by
 have c:c8 C [.v<|.ins C<|wFs ks T J]=sI n:=by have:=l_ C ks T J;simp[c8,p9,this,b]
 have a:ck (cG 0) g0 ρ=![.v<|.ins C<|wFs ks T J]:=by delta ck cG g0;rw[h];rfl
 delta bF;rw[a,Yb,Yl<|uo (Gz ks T J) _,c];rfl
def nr(ts:List T4)(n p:Int):Qj:=(ao n).filter λo=>(not<|decide<|a7 p o ts=[])
def o5 C ks T kvs ts i j(b:JOk kvs ts) :
  cF C [.v<|.ins C<|wFs ks T<|.dT kvs,.v<|.int i,.v<|.int j]=sV (srP<|a7 i j ts):=by
 let a:=AM C ks T<|.dT kvs;let h:=b.get i j;generalize wFs ks T _=F,srP _=R at *;simp[cF,jS,oN,a,k7,gW,ja,h]
def g7 C c f(h:0<=f/\f<9223372036854775808):∃r:Int,bx C [.v (.int c),.v (.int f)]=sI r/\0<=r/\r<2147483647:=by let a:=bj c 2147483647 (by decide);let u:=jm (c%2147483647+1) f<|.inr (by lia);let m:=bj ((c%2147483647+1)*f) 2147483647 (by decide);exact#[(c%2147483647+1)*f%2147483647,by simp[bx,kH,a,u,m],Zz _<|by decide,Zo _<|by decide]
def C9 C(ns:Qj)k(a:0<=k):∃x:Int,dM C [.v (.lst (ns.map .int)),.v (.int k)]=sI x:=by
 by_cases h:k<ns.length
 .let#[x,_,e]:=gE D.int a h;exact#[x,by simp[dM,qD,h,ix1,e]]
 .exact#[0,by simp[dM,qD,h]]
def G9 C(ns:Qj):∃r:Int,gi C [.v (.lst (ns.map .int)),.v (.int 1000000000000000000000000000000)]=sI r/\0<=r/\r<1000000000000000000000000000000:=by
 let#[z,e,r,x,b,a,rfl]:=kK (st:=setV 3) (body:=(aC 2<|d2 bg (d2 aU (d2 kB (ac 2)<|cI 1000003)<|ac 3)<|ac 1)) (λρ=>∃r x,0<=r/\r<1000000000000000000000000000000/\ρ=[sV _,sI 1000000000000000000000000000000,sI r,x]) (ds:=ns.map .int)
  (ρ:=[sV _,sI 1000000000000000000000000000000,sI 0,()]) #[0,_,by decide,by decide,qx] (by
   rintro d h _ ⟨r,x,b,a,rfl⟩;let#[c,_,rfl]:=Yg.mp h;let u:=jm r 1000003<|.inr (by decide);let m:=bj (r*1000003+c) 1000000000000000000000000000000 (by decide);exact#[_,qx,[sV<|.lst<|ns.map .int,sI 1000000000000000000000000000000,sI<|(r*1000003+c)%1000000000000000000000000000000,sI c],?_,_,_,Zz _<|by decide,Zo _<|by decide,qx];generalize ns.map D.int=N;simp[u,m])
 exact#[r,?_,b,a];delta gi oE;rw[g9];have s:aC 2 (cI 0) (aK 4 2 [.v _,.v _])=!.nx [sV<|.lst<|ns.map .int,sI 1000000000000000000000000000000,sI 0,()]:=rfl;rw[ak s,ak<|cL qx e];rfl
def Ag{f}{left order:Qj}(a:i≠j)(l:ρ[j]?=!oW (.lst (left.map .int)) ())(hi:ρ[i]?=!oW (.lst (order.map .int)) ())(o:f ρ=!.int k)(h0:0<=k)(h1:k<(left.length:Int))(g:left.length<1000)(p:order.length<1000):∃(m:Nat) (q:m<left.length),iI i j f ρ=!.nx ((ρ.set j<|oW (.lst<|(left.eraseIdx m).map .int) ()).set i<|oW (.lst<|(order++[left[m]]).map .int) ()):=by
 have c:k.toNat<left.length:=by lia
 let e:=CH h0 h1 g;have b:(left.map D.int)[k.toNat]?=!.int left[k.toNat]:=by rw[Yt,Yi];rfl
 exact#[k.toNat,c,?_];have h:xP j f ρ=!(ρ.set j<|oW (.lst<|(left.eraseIdx k.toNat).map .int) (),.int left[k.toNat]):=by delta xP;rw[l];simp only[o,Yb,Ya,e,b,ri];rfl
 delta iI;rw[h,Yb];simp only;rw[Zl<|XE a,hi];simp only;rw[Yl #[a,by rw[Ya];lia],YW];rfl
def DE A S N n f(j:Nat)x r(left order:Qj)x6(w:j<=7)(hx:A [.v (.lst N),.v (.int j)]=sI x)(h:S [.v (.int (x+j*j)),.v (.int f)]=sI r)(lp:0<left.length)(p:left.length<=7)(o:order.length<=7) :
  ∃(m:Nat) (a:m<left.length),(am (aC 6<|aj S<|aV (d2 aU (aj A<|aB 0<|aB 5 nA)<|d2 kB (ac 5)<|ac 5)<|aB 2 nA)
 <|iI 4 3<|d2 bg (d2 bi (ac 6)<|cI 3)<|d1 bU<|ap 3) [sV<|.lst N,sI n,sI f,oW (.lst<|left.map .int) (),oW (.lst<|order.map .int) (),sI j,x6]
   = !.nx [sV<|.lst N,sI n,sI f,oW (.lst<|(left.eraseIdx m).map .int) (),oW (.lst<|(order++[left[m]]).map .int) (),sI j,sI r]:=by
 let u:=jm j j<|.inl (by lia);let g:=bM r 3 (by decide);let b:=bj (r/3) left.length (by lia);have s:aC 6 (aj S<|aV (d2 aU (aj A<|aB 0<|aB 5 nA)<|d2 kB (ac 5)<|ac 5)<|aB 2 nA) [sV<|.lst N,sI n,sI f,oW (.lst<|left.map .int) (),oW (.lst<|order.map .int) (),sI j,x6]
   = !.nx [sV<|.lst N,sI n,sI f,oW (.lst<|left.map .int) (),oW (.lst<|order.map .int) (),sI j,sI r]:=by
  generalize left.map D.int=U,order.map D.int=V;generalize _=q at hx h u ⊢;simp -implicitDefEqProofs [hx,u,h]
 have c:d2 bg (d2 bi (ac 6)<|cI 3) (d1 bU<|ap 3) [sV<|.lst N,sI n,sI f,oW (.lst<|left.map .int) (),oW (.lst<|order.map .int) (),sI j,sI r]=!.int (r/3%left.length):=by have l:(left.map D.int).length=left.length:=Ya ..;generalize left.map D.int=U at *;simp[g,l,b]
 let#[m,a,e]:=Ag (i:=4) (j:=3) (by decide) qx qx c (Zz _<|by lia) (Zo _<|by lia) (by lia) (by lia);exact#[m,a,(ak s).trans e]
def lW C(ns:Qj)n f(N:1<=n/\n<=7)(J:0<=f/\f<9223372036854775808):∃out:Qj,da C [.v (.lst (ns.map .int)),.v (.int n),.v (.int f)]=oW (.lst (out.map .int)) ()/\out.Perm (ao n):=by
 let u:=C9 C ns;let s:=λc=>g7 C c f J
 delta da nG;generalize dM C=A at u ⊢;generalize bx C=S at s ⊢;have O:((ao n).length)=n:=by rw[aG];lia
 let#[z,e,left,o,l,g,rfl,a,i]:=dW (st:=setV 5) (λj w=>∃left o l g,w=[sV _,sI n,sI f,oW (.lst<|left.map .int) (),oW (.lst<|o.map .int) (),l,g]/\(o++left).Perm (ao n)/\o.length=j) _ 0
  [sV _,sI n,sI f,oW _ (),oW (.lst []) (),(),()] #[ao n,[],_,_,qx,.refl _,qx] (by
   rintro j d _ q ⟨left,o,l,g,rfl,a,i⟩;rw[Zk]at i ⊢;have I:j<n.toNat:=by have:=(Ym.mp q).1;rwa [Ya,aG]at this
   rw[lw q];let h:=a.length_eq;rw[Yo,aG]at h;let#[x,E]:=u _<|Int.natCast_nonneg j;let#[r,p,M,L]:=s _;let#[m,H,K]:=DE A S _ n f j x r left o g (by lia) E p (by lia) (by lia) (by lia);exact#[_,qx,_,K,left.eraseIdx m,o++[left[m]],_,_,qx,?_,by rw[Yo,YM,i]];exact List.Perm.trans ?_ a;rw[Zh];exact List.Perm.append_left _<|ji _ m H)
 rw[Zk,Ya,aG]at i;let h:=a.length_eq;rw[Yo,aG]at h;have b:left=[]:=Zq.mp (by lia);subst b;rw[Zc]at a;exact#[o,?_,a];rw[pj];have p:eC (getV 1) (aK 7 3 [.v<|.lst<|ns.map .int,.v<|.int n,.v<|.int f])=!(ao n).map .int:=by show(if n<16777216/\-(2^62)<=n then !cS 0 n.toNat else ())=_;rw[Yl<|by lia,ms]
 have B:bC 3 (asL<|eC<|getV 1) (aK 7 3 [.v<|.lst<|ns.map .int,.v<|.int n,.v<|.int f])=!.nx [sV<|.lst<|ns.map .int,sI n,sI f,oW (.lst<|(ao n).map .int) (),(),(),()]:=by rw[C3,cP,p];rfl
 have y:bC 4 (asL aE) [sV _,sI n,sI f,oW _ (),(),(),()]=!.nx [sV<|.lst<|ns.map .int,sI n,sI f,oW (.lst<|(ao n).map .int) (),oW _ (),(),()]:=rfl;rw[ak B,ak y,ak<|cL (dS qx #[by lia,by lia]) e];rfl
def Ms{x:Int}(h:0<=x/\x<4):x=0\/x=1\/x=2\/x=3:=by
 let#[m,rfl]:=Xk h.1;have key:∀m:Fin 4,(m:Int)=0\/(m:Int)=1\/(m:Int)=2\/(m:Int)=3:=by decide
 exact key #[m,Int.ofNat_lt.mp h.2]
def MX{x:Int}(h:0<=x/\x<9):x=0\/x=1\/x=2\/x=3\/x=4\/x=5\/x=6\/x=7\/x=8:=by
 let#[m,rfl]:=Xk h.1;have key:∀m:Fin 9,(m:Int)=0\/(m:Int)=1\/(m:Int)=2\/(m:Int)=3\/(m:Int)=4\/(m:Int)=5\/(m:Int)=6\/(m:Int)=7\/(m:Int)=8:=by decide
 exact key #[m,Int.ofNat_lt.mp h.2]
def rK(h1:st d ρ=!ρ1)(h2:body ρ1=!.nx ρ2):eV st body (d::ds) ρ=eV st body ds ρ2:=by
 conv=>lhs;unfold eV
 rw[h1];simp[h2]
def okL(m:Nat)(x:Str):Prop:=x.cps.size=m/\∀c∈x.cps.toList,97<=c/\c<=122
def u8{m k}{y}(hx:okL m x)(a:okL k y)(h:m+k<=100):aU (.str x) (.str y)=!.str (x++y)/\okL (m+k) (x++y):=by
 have e:(x++y).cps=x.cps++y.cps:=rfl;exact#[Yl ?_,?_,?_]
 .show x.cps.size+y.cps.size<=_;rw[hx.1,a.1];lia
 .rw[e,Um,hx.1,a.1]
 .intro c hc;rw[e,VX]at hc;rcases YO.mp hc with hc|hc
  .exact hx.2 c hc
  .exact a.2 c hc
def CS k(h:0<=k/\k<5):∃x,lU (.str "m") (.int k)=!.str x/\okL k.toNat x:=by
 have f:("m").length<=1000:=by decide
 have e:∀j:Int,0<=j/\j<5->lU (.str "m") (.int j)=!.str _:=λj i=>Yl #[by lia,by lia,f]
 exact#[_,e k h,?_];let#[m,rfl]:=Xk h.1;have key:∀m:Fin 5,(Ar "m"<|m).cps.size=m/\((Ar "m"<|m).cps.toList.all λc=>decide<|97<=c/\c<=122):=by decide+kernel
 let#[b,a]:=key #[m,by lia];exact#[b,λc g=>?_];simpa using Yh.mp a c g
def uz i(h:0<=i/\i<12):∃x,ixD (.str "abcdefghijkl") (.int i)=!.str x/\okL 1 x:=by
 let#[m,rfl]:=Xk h.1;have key:∀j:Fin 12,(atI ("abcdefghijkl":Str).cps.toList<|j)=!(97+(j:Nat)):=by decide+kernel
 let a:=key #[m,by lia];exact#[#[#[[97+m]]],?_,qx,λc b=>?_]
 .show(if("abcdefghijkl").length<=16777216 then(atI ("abcdefghijkl":Str).cps.toList _).map λc=>D.str #[#[[c]]]else ())=_;rw[show atI ("abcdefghijkl":Str).cps.toList _=!(97+m)from a];rfl
 .have:c=97+m:=by simpa using b
  lia
def wK{m}(h:okL m x)(a:1<=m/\m<=3):okW x:=#[by rw[h.1];exact a.1,by rw[h.1];exact a.2,h.2]
abbrev kdF(N:List D)(n r L a g:Int)(x6 c b x9 x:Option DV):DF:=[sV<|.lst N,sI n,sI r,sI L,sI a,sI g,x6,c,b,x9,x]
def yU N n r L a g k b q x9 x(I:1<=L/\L<=3)(O:0<=a/\a<L)(H:0<=g/\g<=10)(E:0<=k/\k<=1)(hw:b.length<=10):∃(w:Str) (y:Option DV),okW w /\
  (am (aC 8<|d2 ixD (λ_=>!(.str "abcdefghijkl"))<|d2 aU (ac 5)<|ac 7)
 <|du 6<|d2 aU (d2 aU (d2 lU (λ_=>!(.str "m"))<|ac 4)<|ac 8)<|d2 lU (λ_=>!(.str "m"))<|d2 l8 (d2 l8 (ac 3)<|cI 1)<|ac 4)
   (kdF N n r L a g (oW (.lst<|b.map .str) ()) (sI k) q x9 x)=!.nx (kdF N n r L a g (oW (.lst<|(b++[w]).map .str) ()) (sI k) y x9 x):=by
 let#[u,m,h]:=CS a (by lia);let#[c,j,f]:=uz (g+k) (by lia);let#[s,i,o]:=CS (L-1-a) (by lia);have e:a.toNat+1+(L-1-a).toNat=L.toNat:=by clear m j i h f o H E hw;lia
 have l:=Int.toNat_le.mpr I.2;have B:1<=L.toNat:=by rw[<-e];exact YA (ZL 1 _)<|Vf _ _
 have b2:a.toNat+1+(L-1-a).toNat<=100:=YA (Xb e)<|YA l (by decide);let#[K,z]:=u8 h f<|YA (Vf _ _) b2;let#[J,p]:=u8 z o b2;rw[e]at p;have C:b.length<16777216:=ZI hw (by decide);exact#[u++c++s,sV<|.str c,wK p #[B,l],?_];rw[YW];have A:(b.map D.str).length=b.length:=Ya ..;generalize b.map D.str=M,("abcdefghijkl")=abc12,("m")=P at *;simp[m,j,i,K,J,A,C]
def vO C(ns:Qj)n(Z:0<=n/\n<=7):∃ks:List Str,cR C [.v (.lst (ns.map .int)),.v (.int n)]=oW (.lst (ks.map .str)) ()/\ks.length=n/\∀k∈ks,okW k:=by
 let#[x,hx]:=C9 C ns 1 (by decide);let#[r,hr,r0,r1]:=g7 C x 1207959571 (by decide);let hS:=λc=>g7 C c 1618033989<|by decide
 delta cR mU;generalize dM C=A at hx ⊢;generalize bx C=S at hr hS ⊢;generalize ns.map D.int=N at *;obtain⟨L,eL⟩:∃L,1+r%3=L:=#[_,qx]
 have f:1<=L/\L<=3:=by lia
 obtain⟨a,ea⟩:∃a,r/3%L=a:=#[_,qx]
 have ha:0<=a/\a<L:=by rw[<-ea];exact#[Zz _<|Int.ne_of_gt f.1,Zo _ f.1]
 obtain⟨g,eg⟩:∃g,r/9%11=g:=#[_,qx]
 have H:0<=g/\g<=10:=by lia
 let m3:=bj r 3 (by decide);let d3:=bM r 3 (by decide);let mL:=bj (r/3) L f.1;let d9:=bM r 9 (by decide);let R:=bj (r/9) 11 (by decide);rw[ea]at mL;rw[eg]at R;have s1:∀G,(am (aC 2<|aj S<|aV (aj A<|aB 0<|aV (cI 1) nA)<|aV (cI 1207959571) nA)
 <|am (aC 3<|d2 aU (cI 1)<|d2 bg (ac 2)<|cI 3)
 <|am (aC 4<|d2 bg (d2 bi (ac 2)<|cI 3)<|ac 3)
 <|am (aC 5<|d2 bg (d2 bi (ac 2)<|cI 9)<|cI 11)
 <|am (bC 6<|asL aE) G) [sV<|.lst N,sI n,(),(),(),(),(),(),(),(),()]=G (kdF N n r L a g (oW (.lst []) ()) () () () ()):=by
  intro G;simp -implicitDefEqProofs [hx,hr,m3,eL,d3,mL,d9,R]
 rw[g9];have st:aK 11 2 [.v _,.v _]=[sV<|.lst N,sI n,(),(),(),(),(),(),(),(),()]:=rfl;rw[st,s1];let#[B,y8,ow0,e0]:=yU N n r L a g 0 [] () () () f ha H (by decide) (by decide);let#[J,I,ow1,e1]:=yU N n r L a g 1 [B] y8 () () f ha H (by decide) (by simp);have f1:d5 (cZ<|cI 2) (setV 7) (am (aC 8<|d2 ixD (λ_=>!(.str "abcdefghijkl"))<|d2 aU (ac 5)<|ac 7)
 <|du 6<|d2 aU (d2 aU (d2 lU (λ_=>!(.str "m"))<|ac 4)<|ac 8)<|d2 lU (λ_=>!(.str "m"))<|d2 l8 (d2 l8 (ac 3)<|cI 1)<|ac 4) (kdF N n r L a g (oW (.lst []) ()) () () () ())
   = !.nx (kdF N n r L a g (oW (.lst<|[B,J].map .str) ()) (sI 1) I () ()):=by
  exact cL (ds:=[.int 0,.int 1]) qx ?_;rw[rK qx e0,rK qx e1];rfl
 rw[ak f1];let#[w2,ew2,ow2]:=CS L #[XC (by decide) f.1,Uh f.2<|by decide];have f2:du 6 (d2 lU (λ_=>!(.str "m"))<|ac 3) (kdF N n r L a g (oW (.lst<|[B,J].map .str) ()) (sI 1) I () ())=!.nx (kdF N n r L a g (oW (.lst<|[B,J,w2].map .str) ()) (sI 1) I () ()):=by generalize _=em at *;simp[ew2]
 rw[ak f2];have f3:∃(b:List Str) (p:Option DV),b.length=3/\(∀w∈b,okW w)/\dIf (asB<|d2 eqD (d2 bg (d2 bi (ac 2)<|cI 396)<|cI 3)<|cI 0) (am (aC 8 (d2 ixD (λ_=>!(.str "abcdefghijkl")) (ac 5)))
  (bC 6 (asL (ag (d2 ixD (λ_=>!(.str "abcdefghijkl")) (d2 aU (ac 5) (cI 1))) (ag (d2 aU (ac 8) (λ_=>!(.str "m"))) (ag (getV 8) aE)))))) dNx (kdF N n r L a g (oW (.lst ([B,J,w2].map .str)) ()) (sI 1) I () ())
   = !.nx (kdF N n r L a g (oW (.lst (b.map .str)) ()) (sI 1) p () ()):=by
  let o:=bM r 396 (by decide);let X:=bj (r/396) 3 (by decide);let#[T,ev0,Q]:=uz g #[H.1,Uh H.2 (by decide)];let#[v1,ev1,ov1]:=uz (g+1) #[XC H.1 (Int.le_add_of_nonneg_right (by decide)),Uh (Int.add_le_add_right H.2 1) (by decide)];have om:okL 1 "m":=#[qx,by decide]
  let#[c1,p1]:=u8 Q om (by decide);let K:=wK ow2 #[(Int.le_toNat (XC (by decide) f.1)).mpr f.1,Int.toNat_le.mpr f.2];let P:=wK Q (by decide);let O:=wK ov1 (by decide);let p1':=wK p1 (by decide);by_cases hz:r/396%3=0
  .exact#[[v1,T ++ "m",T],sV (.str T),qx,?_,?_]
   .intro w s;simp only[Ys,Xs,Uf]at s;rcases s with rfl|rfl|rfl
    .exact O
    .exact p1'
    .exact P
   .generalize ("abcdefghijkl":Str)=abc12,T ++ "m"=v0m,("m":Str)=em at *;simp[o,X,hz,ev0,ev1,c1]
  .exact#[[B,J,w2],I,qx,?_,?_]
   .intro w s;simp only[Ys,Xs,Uf]at s;rcases s with rfl|rfl|rfl
    .exact ow0
    .exact ow1
    .exact K
   .simp[o,X,hz]
 let#[b,p,hw3,hwo,f3]:=f3;rw[ak f3];have f4:∃m:Int,1<=m/\m<=3/\∀G,(am (aC 9 (d2 ixD (asO (asL (ag (cI 1) (ag (cI 1) (ag (cI 2) (ag (cI 3) aE)))))) (d2 bg (d2 bi (ac 2) (cI 99)) (cI 4))))
  (am (bC 10 (asL aE)) G)) (kdF N n r L a g (oW (.lst (b.map .str)) ()) (sI 1) p () ())=G (kdF N n r L a g (oW (.lst (b.map .str)) ()) (sI 1) p (sI m) (oW (.lst []) ())):=by
  let i:=bM r 99 (by decide);let Y:=bj (r/99) 4 (by decide);let h4:=Ms (x:=r/99%4) #[Zz _ (by decide),Zo _ (by decide)];generalize r/99%4=q at *;rcases h4 with rfl|rfl|rfl|rfl
  .exact#[1,by decide,by decide,λG=>by simp[i,Y,ix1,lR]]
  .exact#[1,by decide,by decide,λG=>by simp[i,Y,ix1,lR]]
  .exact#[2,by decide,by decide,λG=>by simp[i,Y,ix1,lR]]
  .exact#[3,by decide,by decide,λG=>by simp[i,Y,ix1,lR]]
 let#[m,m1,m2,f4]:=f4;rw[f4];let#[z,e,ks,y7,rfl,E,y]:=dW (st:=setV 7) (body:=(du 10 (d2 ixD (ac 6) (d2 bg (d2 bi (aj S (aV (d2 aU (ac 2) (d2 kB (ac 7) (ac 7))) (aV (cI 1618033989) nA))) (cI 7)) (ac 9)))))
  (λj ρ=>∃ks y7,ρ=kdF N n r L a g (oW (.lst (b.map .str)) ()) y7 p (sI m) (oW (.lst (ks.map .str)) ())/\ks.length=j/\∀k∈ks,okW k) ((ao n).map .int) 0 (kdF N n r L a g (oW (.lst (b.map .str)) ()) (sI 1) p (sI m) (oW (.lst []) ())) #[[],_,qx,qx,λ_ h=>by cases h] (by
   rintro j d _ hj ⟨ks,y7,rfl,E,y⟩;rw[Zk]at E ⊢;have hjn:j<n.toNat:=by have:=(Ym.mp hj).1;rwa [Ya,aG]at this
   rw[lw hj];let#[q,hq,q0,q1]:=hS (r+(j:Int)*(j:Int));let u:=jm (j:Int) (j:Int) (.inl (by lia));let d7:=bM q 7 (by decide);let X:=bj (q/7) m m1;have i0:0<=q/7%m:=Zz _ (Int.ne_of_gt m1);have i1:q/7%m<m:=Zo _ m1;let#[w,s,ew]:=gE (l:=b) D.str i0 (by rw[hw3];exact Int.lt_of_lt_of_le i1 m2);have hl:ks.length<16777216:=by rw[E];exact Yx hjn (YA (Int.toNat_le.mpr Z.2) (by decide))
   exact#[_,qx,kdF N n r L a g (oW (.lst (b.map .str)) ()) (sI j) p (sI m) (oW (.lst ((ks++[w]).map .str)) ()),?_,_,_,qx,by rw[Yo,YM,E],λx hx=>?_]
   .rw[YW];have lm:(ks.map D.str).length=ks.length:=Ya ..;generalize ks.map D.str=M,b.map D.str=U,(j:Int)=jj at *;simp -implicitDefEqProofs [u,hq,d7,X,ix1,ew,lm,hl]
   .rcases YO.mp hx with hx|hx
    .exact y x hx
    .rw[Yu.mp hx];exact hwo w (YR s))
 rw[Zk,Ya,aG]at E;exact#[ks,?_,by rw[E];exact XI Z.1,y];rw[ak (cL (ds:=(ao n).map .int) (dS qx #[Z.1,XC Z.2 (by decide)]) e)];rfl
def bA{ps:List (Int×Int)}(h:(ps.all λp=>decide (0<=p.1/\p.1<n/\0<=p.2/\p.2<n/\p.1≠p.2))):∀p∈ps,okP n p:=λp a=>by
 let c:=YE<|Yh.mp h p a;exact c
def A5 C n f(h:n=1\/n=2\/n=3\/n=4\/n=5\/n=6\/n=7)(a:f=0\/f=1\/f=2\/f=3\/f=4\/f=5\/f=6\/f=7\/f=8):∃ps:List (Int×Int),gD C [.v (.int n),.v (.int f)]=oW (.lst (ps.map dP)) ()/\ps.length<=12/\∀p∈ps,okP n p:=by
 rcases a with rfl|rfl|rfl|rfl|rfl|rfl|rfl|rfl|rfl<;>rcases h with rfl|rfl|rfl|rfl|rfl|rfl|rfl
 iterate 9 exact#[[],qx,by decide,bA qx]
 .exact#[[(0,1),(1,2),(2,0)],qx,by decide,bA qx]
 .exact#[[(0,1),(1,2),(2,3),(3,0)],qx,by decide,bA qx]
 .exact#[[(0,1),(1,2),(2,3),(3,4),(4,0)],qx,by decide,bA qx]
 .exact#[[(0,1),(1,2),(2,3),(3,4),(4,5),(5,0)],qx,by decide,bA qx]
 .exact#[[(0,1),(1,2),(2,3),(3,4),(4,5),(5,6),(6,0)],qx,by decide,bA qx]
 .exact#[[],qx,by decide,bA qx]
 .exact#[[(0,1)],qx,by decide,bA qx]
 .exact#[[(0,1),(0,2)],qx,by decide,bA qx]
 .exact#[[(0,1),(0,2),(0,3)],qx,by decide,bA qx]
 .exact#[[(0,1),(0,2),(0,3),(0,4)],qx,by decide,bA qx]
 .exact#[[(0,1),(0,2),(0,3),(0,4),(0,5)],qx,by decide,bA qx]
 .exact#[[(0,1),(0,2),(0,3),(0,4),(0,5),(0,6)],qx,by decide,bA qx]
 iterate 3 exact#[[],qx,by decide,bA qx]
 .exact#[[(0,1),(2,3)],qx,by decide,bA qx]
 .exact#[[(0,1),(2,3)],qx,by decide,bA qx]
 .exact#[[(0,1),(3,4),(1,2),(4,5),(2,0),(5,3)],qx,by decide,bA qx]
 .exact#[[(0,1),(3,4),(1,2),(4,5),(2,0),(5,3)],qx,by decide,bA qx]
 iterate 4 exact#[[],qx,by decide,bA qx]
 .exact#[[(0,1),(1,2),(2,3),(3,4),(4,0),(0,2),(1,3),(2,4),(3,0),(4,1)],qx,by decide,bA qx]
 iterate 3 exact#[[],qx,by decide,bA qx]
 .exact#[[(0,1)],qx,by decide,bA qx]
 .exact#[[(0,1),(0,2)],qx,by decide,bA qx]
 .exact#[[(0,2),(0,3),(1,2),(1,3)],qx,by decide,bA qx]
 .exact#[[(0,2),(0,3),(0,4),(1,2),(1,3),(1,4)],qx,by decide,bA qx]
 .exact#[[(0,3),(0,4),(0,5),(1,3),(1,4),(1,5),(2,3),(2,4),(2,5)],qx,by decide,bA qx]
 .exact#[[(0,3),(0,4),(0,5),(0,6),(1,3),(1,4),(1,5),(1,6),(2,3),(2,4),(2,5),(2,6)],qx,by decide,bA qx]
 iterate 21 exact#[[],qx,by decide,bA qx]
def KC(ns:Qj):(gU ns (!2) (!14)).length<=12:=by
 show((ns.drop _).take<|min 14 ns.length-min 2 ns.length).length<=12;exact YA (List.length_take_le _ _)<|Nat.sub_le_of_le_add ?_;rcases Nat.le_total 2 ns.length with h|h
 .rw[Nat.min_eq_left h];exact XT 14 _
 .rw[Nat.min_eq_right h];exact YA (Nat.min_le_right _ _)<|ZL _ 12
def Kn{a g n b:Int}(e:1<n)(a0:0<=a)(i:a<n)(g0:0<=g)(f:g<n-1)(c:(a+1+g)%n=b):a≠b:=by
 by_cases h:a+1+g<n
 .rw[Int.emod_eq_of_lt (by lia) h]at c;lia
 .have:(a+1+g)%n=a+1+g-n:=by rw[<-Int.sub_emod_right,Int.emod_eq_of_lt (by lia)<|by lia]
  lia
abbrev dwC:DF->Option Bool:=(fV (asB<|d2 gtI (ac 1)<|cI 1)<|asB<|d2 gtI (d2 bg (ac 5)<|cI 4)<|cI 0)
abbrev dwA:DF->Option RES:=(am (aC 6<|d2 bg (d2 bi (ac 5)<|cI 4)<|ac 1)
 <|am (aC 7<|d2 bg (d2 aU (d2 aU (ac 6)<|cI 1)<|d2 bg (d2 bi (ac 5)<|cI 28)<|d2 l8 (ac 1)<|cI 1)<|ac 1)
 <|am (aC 8<|d2 bg (d2 bi (ac 5)<|cI 168)<|cI 2)
 <|am (dIf (asB<|d2 eqD (d2 bg (d2 bi (ac 5)<|cI 336)<|cI 2)<|cI 0) (aC 8<|d2 bg (d2 aU (ac 4)<|ac 3)<|d2 qN (cI 10)<|cI 30) dNx)
 <|du 2<|asT<|ag (getV 6)<|ag (getV 7)<|ag (getV 8)<|ag (d2 eqD (d2 bg (d2 bi (ac 5)<|cI 672)<|cI 2)<|cI 1) aE)
abbrev dwF(N:List D)(n:Int)(ts:List T4)(c b x5 x6 a x:Option DV):DF:=[sV<|.lst N,sI n,oW (.lst<|ts.map dT4) (),c,b,x5,x6,a,x]
def xE S N n k c r ts x5 x6 l j(hn:1<=n/\n<=7)(hl:ts.length<=12)(E:∀t∈ts,okT n t)(hr:0<=r)(Y:S [.v (.int c),.v (.int 1530421987)]=sI r) :
  ∃i Q P O L,(am (aC 5<|aj S<|aB 4<|aV (cI 1530421987) nA)<|dIf dwC dwA dNx) (dwF N n ts (sI k) (sI c) x5 x6 l j)=!.nx (dwF N n i (sI k) (sI c) Q P O L)/\i.length<=ts.length+1/\∀t∈i,okT n t:=by
 have R:∀G,(am (aC 5<|aj S<|aB 4<|aV (cI 1530421987) nA) G) (dwF N n ts (sI k) (sI c) x5 x6 l j)=G (dwF N n ts (sI k) (sI c) (sI r) x6 l j):=by intro G;simp[Y]
 rw[R,bJ];have X:dwC (dwF N n ts (sI k) (sI c) (sI r) x6 l j)=!(decide (1<n)&&decide (0<r%4)):=by let T:=bj r 4 (by decide);by_cases a:1<n<;>by_cases b:0<r%4<;>simp[T,a,b]
 rw[X,Yb];by_cases q:(decide (1<n)&&decide (0<r%4))
 .rw[Yl q];simp[Yr,YQ]at q;let n1:=q.1;let H:=bM r 4 (by decide);let p:=bM r 28 (by decide);let g:=bM r 168 (by decide);let f:=bM r 336 (by decide);let e:=bM r 672 (by decide);let z:=λx=>bj x n<|by lia
  let m:=λx=>bj x (n-1)<|by lia
  let B:=λx=>bj x 2<|by decide
  let A:=bj (c+k) 1000000000000000000000000000000 (by decide);generalize s:r/4%n=a;have g0:0<=r/28%(n-1):=Zz _ (by lia);have Z:r/28%(n-1)<n-1:=Zo _ (by lia);generalize o:(a+1+r/28%(n-1))%n=b;have J:0<=a:=by rw[<-s];exact Zz _<|by lia
  have I:a<n:=by rw[<-s];exact Zo _<|by lia
  have b0:0<=b:=by rw[<-o];exact Zz _<|by lia
  have b1:b<n:=by rw[<-o];exact Zo _<|by lia
  let ab:=Kn n1 J I g0 Z o;have U:0<=r/168%2/\r/168%2<2:=#[Zz _<|by decide,Zo _<|by decide]
  have B0:0<=(c+k)%1000000000000000000000000000000:=Zz _ (by decide);have B1:(c+k)%1000000000000000000000000000000<1000000000000000000000000000000:=Zo _ (by decide);have h:ts.length<16777216:=by lia
  obtain⟨K,K0,K1,w⟩:∃K:Int,0<=K/\K<1000000000000000000000000000000/\(if r/336%2=0 then(c+k)%1000000000000000000000000000000 else r/168%2)=K:=by
   split
   .exact#[_,B0,B1,qx]
   .exact#[_,U.1,by lia,qx]
  exact#[ts++[(a,b,K,decide<|r/672%2=1)],sI r,sI a,sI b,sI K,?_,Xb<|by rw[Yo,YM],?_]
  .have C:(ts.map dT4).length=ts.length:=Ya ..;have dt:dT4 (a,b,K,decide _)=.tup [.int a,.int b,.int K,.bl<|decide<|r/672%2=1]:=rfl;show dwA [sV _,sI n,oW _ (),sI k,sI c,sI r,x6,l,j]=!.nx [sV _,sI n,oW _ (),_,_,_,_,_,_];rw[YW,List.map_singleton,dt];generalize ts.map dT4=M at *;by_cases y:r/336%2=0
   .rw[Yl y]at w;simp[dwA,H,p,g,f,e,z,m,B,A,s,o,y,w,C,h]
   .rw[Yn y]at w;simp[dwA,H,p,g,f,e,z,m,B,A,s,o,y,w,C,h]
  .intro u hu;rcases YO.mp hu with hu|hu
   .exact E u hu
   .rw[Yu.mp hu];exact#[J,I,b0,b1,ab,K0,K1]
 .rw[Yn q];exact#[ts,_,_,_,_,qx,ZP _,E]
def C2 C(ns:Qj)n(M:1<=n/\n<=7):∃ts:List T4,bZ C [.v (.lst (ns.map .int)),.v (.int n)]=oW (.lst (ts.map dT4)) ()/\ts.length<=12/\∀t∈ts,okT n t:=by
 let B:=λc=>g7 C c 1530421987<|by decide
 delta bZ iy;generalize bx C=S at B ⊢;have a:gU _ (!2) (!14)=(gU ns (!2)<|!14).map D.int:=oY _ _ _ _;let w:=KC ns;generalize gU ns (!2) (!14)=b at a w;have f:(eB<|b.map D.int).length=b.length:=by delta eB;rw[Ya,List.length_zipIdx,Ya]
 let#[z,e,ts,p,o,m,l,i,y,rfl,u,s]:=dW (st:=gT [3,4]) 
  (λj E=>∃ts p o m l i y,E=dwF _ n ts p o m l i y/\ts.length<=j/\∀t∈ts,okT n t) _ 0 (dwF _ n [] () () () () () ()) #[[],_,_,_,_,_,_,qx,Yp _,λ_ h=>by cases h] (by
   rintro j d _ x ⟨ts,p,o,m,l,i,y,rfl,u,s⟩;rw[Zk]at u ⊢;have N:j<b.length:=by have:=(Ym.mp x).1;rwa [f]at this
   let#[U,g,rfl]:=jK x;rw[Yt]at g;cases A:b[j]? with
   |none=>rw[A]at g;cases g
   |some c=>
   rw[A]at g;cases g;let#[r,L,I,_]:=B c;let#[q,R,Q,P,O,e,T,J]:=xE S (ns.map .int) n j c r ts m l i y M (by lia) s I L;exact#[_,qx,_,e,q,_,_,_,_,_,_,qx,by lia,J])
 rw[Zk,f]at u;exact#[ts,?_,by lia,s];rw[g9];have H:bC 2 (asL aE) (aK 9 2 [.v _,.v _])=!.nx (dwF (ns.map .int) n [] () () () () () ()):=rfl;have K:pM (asO<|asL<|slL (ac 0) (bI<|cI 2)<|bI<|cI 14) (dwF (ns.map .int) n [] () () () () () ())=!eB (b.map D.int):=by
  have:asO (asL<|slL (ac 0) (bI<|cI 2)<|bI<|cI 14) (dwF (ns.map .int) n [] () () () () () ())=!.lst (b.map .int):=by rw[<-a];rfl
  delta pM;rw[this]
 rw[ak H,ak<|cL K e];rfl
def ox(out:Qj)(i:Int):Int:=(out[i.toNat]?).getD 0
def k_(b:1<=n)(p:out.Perm (ao n)){i}(h:0<=i/\i<n):atI (out.map D.int) i=!.int (ox out i)/\0<=ox out i/\ox out i<n:=by
 let#[f,_,c]:=aO b p;let#[x,a,e]:=gE (l:=out) D.int h.1 (by rw[f];exact h.2);have:ox out i=x:=by delta ox;rw[a];rfl
 rw[this];exact#[e,c x<|YR a]
def yV(f:1<=n)(p:out.Perm (ao n)){i j}(hi:0<=i/\i<n)(a:0<=j/\j<n)(h:i≠j):ox out i≠ox out j:=by let#[e,g,_]:=aO f p;let#[x,c,_]:=gE (l:=out) D.int hi.1 (by rw[e];exact hi.2);let#[y,b,_]:=gE (l:=out) D.int a.1 (by rw[e];exact a.2);delta ox;rw[c,b];exact Hi g c b λz=>h<|by rw[<-XI hi.1,z,XI a.1]
def oxT(out:Qj)(t:T4):T4:=(ox out t.1,ox out t.2.1,t.2.2.1,t.2.2.2)
def HA(a:1<=n)(p:out.Perm (ao n))(h:okT n t):okT n (oxT out t):=by let#[g,f,e,b1,i,k]:=h;let c:=k_ a p #[g,f];let b:=k_ a p #[e,b1];exact#[c.2.1,c.2.2,b.2.1,b.2.2,yV a p #[g,f] #[e,b1] i,k]
abbrev oxE:DF->Option D:=(asT<|ag (d2 ixD (ac 1)<|d2 ixD (ac 0)<|cI 0)<|ag (d2 ixD (ac 1)<|d2 ixD (ac 0)<|cI 1)<|ag (d2 ixD (ac 0)<|cI 2)<|ag (d2 ixD (ac 0)<|cI 3) aE)
def Gx(a:1<=n)(p:out.Perm (ao n))(ts:List T4)(b:∀t∈ts,okT n t):bO (setV 0) bf oxE [(),sV (.lst (out.map .int))] (ts.map dT4)=!(ts.map (oxT out)).map dT4:=by rw[YD];exact bq dT4 _ ts λt h=>?_;let#[q,o,m,b1,_]:=b t h;let e:=(k_ a p #[q,o]).1;let c:=(k_ a p #[m,b1]).1;have l:ixD (dT4 t) (.int 0)=!.int t.1:=rfl;have j:ixD (dT4 t) (.int 1)=!.int t.2.1:=rfl;have i:ixD (dT4 t) (.int 2)=!.int t.2.2.1:=rfl;have g:ixD (dT4 t) (.int 3)=!.bl t.2.2.2:=rfl;have f:(dT4 ∘ oxT out) t=.tup [.int<|ox out t.1,.int<|ox out t.2.1,.int t.2.2.1,.bl t.2.2.2]:=rfl;exact#[[sV _,sV _],qx,qx,?_];rw[f];generalize dT4 t=T,out.map D.int=O at *;simp[l,j,i,g,ix1,e,c]
abbrev flF(N:List D)(q b:Int)(o:Bool)(x5 x6 a x x9:Option DV):DF:=[sV<|.lst N,sI q,sI b,sV<|.bl o,sI 7,x5,x6,a,x,x9]
def sj f K N q b n o(ts:List T4)a(out:Qj)k0(e:1<=n/\n<=7)(w:ts.length<=12)(c:∀t∈ts,okT n t)(p:out.Perm (ao n))(C:f [.v (.lst N),.v (.int n),.v (.int 742938285)]=oW (.lst (out.map .int)) ())
  (E:K [.v<|.lst N,.v<|.int 1]=oW (.lst [.str k0]) ()) (ok:okW k0):∃(ks:List Str) (us:List T4) (z:DF),okK n ks/\okS n us /\
  (am (aC 8<|aj f<|aB 0<|aV (getV 6)<|aV (cI 742938285) nA)
 <|am (aC 9<|asO<|asL<|aI 1 [0] (cZ<|ac 6) (setV 0) bf<|d2 ixD (aj K<|aB 1<|aV (cI 1) nA)<|cI 0)
 <|aY<|asT<|ag (getV 9)<|ag (asO<|asL<|aI 1 [8] (bu 5) (setV 0) bf oxE) aE)
   (flF N q b o (sV<|.lst<|ts.map dT4) (sI n) a () ())=!.rt (.v<|.tup [.lst<|ks.map .str,.lst<|us.map dT4]) z:=by
 let J:=Gx e.1 p ts c;have I:bO (setV 0) bf (d2 ixD (aj K<|aB 1<|aV (cI 1) nA)<|cI 0) [(),sV<|.lst N] ((ao n).map .int)=!((ao n).map λ_=>k0).map .str:=by
  rw[YD];exact bq D.int _ (ao n) λx _=>#[[sI x,sV _],qx,qx,?_]
  have H:ixD (.lst [.str k0]) (.int 0)=!.str k0:=rfl;simp[E,H]
 have j:(ts.map dT4).length<=16777216:=by rw[Ya];lia
 have l:((ao n).map D.int).length<=16777216:=by rw[Ya,aG];lia
 have s:∀i g,cZ (ac 6) (flF N q b o (sV<|.lst<|ts.map dT4) (sI n) a i g)=!(ao n).map .int:=λ_ _=>dS qx #[by lia,by lia]
 exact#[(ao n).map λ_=>k0,ts.map<|oxT out,flF N q b o (sV<|.lst<|ts.map dT4) (sI n) a (sV<|.lst<|out.map .int)<|sV<|.lst<|((ao n).map λ_=>k0).map .str,#[by rw[Ya,aG];lia,λk y=>?_],#[by rwa[Ya],λt h=>?_],?_]
 .let#[_,_,rfl]:=Yg.mp y;exact ok
 .let#[u,m,rfl]:=Yg.mp h;exact HA e.1 p<|c u m
 .generalize _=E2,hE:oxE=E1,((ao n).map λ_=>k0).map D.str=A,(ts.map _).map dT4=B,ts.map dT4=T,out.map D.int=O,(ao n).map D.int=R at *;simp[C,a9,s,j,l,J,I]
def Ez(a b:List T4)(h:a.length+b.length<=1000):aU (.lst (a.map dT4)) (.lst (b.map dT4))=!.lst ((a++b).map dT4):=by rw[wa _ _<|by rw[Ya,Ya];lia,YW]
abbrev flI:DF->Option RES:=(dIf (fV (asB<|d2 gtI (ac 4)<|cI 6)<|asB<|d2 eqD (d2 bg (ac 1)<|cI 2)<|cI 0) (am (aC 5<|asO<|asL<|aI 1 [2,3] (cZ<|cI 3) (setV 0) bf<|asT<|ag (getV 0)<|ag (d2 bg (d2 aU (ac 0)<|cI 1)<|cI 3)<|ag (getV 1)<|ag (getV 2) aE)
 <|am (aC 5<|d2 aU (ac 5)<|asO<|asL<|aI 1 [2,3] (cZ<|cI 4) (setV 0) bf<|asT<|ag (d2 aU (cI 3)<|ac 0)<|ag (d2 aU (cI 3)<|d2 bg (d2 aU (ac 0)<|cI 1)<|cI 4)<|ag (getV 1)<|ag (getV 2) aE)
 <|aC 6<|cI 7)<|am (aC 7<|d2 bg (d2 aU (ac 2)<|cI 1)<|d2 qN (cI 10)<|cI 30)
 <|aC 5<|d2 aU (ac 5)<|asO<|asL<|ag (asT<|ag (cI 0)<|ag (cI 2)<|ag (getV 7)<|ag (λ_=>!.bl false) aE)<|ag (asT<|ag (cI 3)<|ag (cI 5)<|ag (getV 7)<|ag (λ_=>!.bl false) aE)<|ag (asT<|ag (cI 1)<|ag (cI 4)<|ag (getV 7)<|ag (λ_=>!.bl false) aE) aE)
def sW{n a b k}{o}(h:0<=a/\a<n/\0<=b/\b<n/\a≠b)(c:0<=k/\k<1000000000000000000000000000000):okT n (a,b,k,o):=#[h.1,h.2.1,h.2.2.1,h.2.2.2.1,h.2.2.2.2,c.1,c.2]
def K9{a b c d e}:mOf n 5 g [a,b,c,d,e]=bY (g (aK n 5 [a,b,c,d,e])):=rfl
def D6 C(ns:Qj)q a o(x:0<=a/\a<1000000000000000000000000000000):∃(n:Int) (ks:List Str) (us:List T4),(1<=n/\n<=7)/\okK n ks/\okS n us/\fG C [.v (.lst (ns.map .int)),.v (.int q),.v (.int a),.v (.bl o),.v (.int 7)]=sV (.tup [.lst (ks.map .str),.lst (us.map dT4)]):=by
 let#[I,g,E]:=lW C ns 6 742938285 (by decide) (by decide);let#[H,c,B]:=lW C ns 7 742938285 (by decide) (by decide);let#[M,i,S,L]:=vO C ns 1 (by decide);obtain⟨b,rfl⟩:∃b,M=[b]:=List.length_eq_one_iff.mp (by lia);let ok:=L b Ye;have i:=i;delta fG nH;generalize da C=O at g c ⊢;generalize cR C=K at i ⊢;generalize ns.map D.int=N at *;let u:=bj q 2 (by decide);let J:=bj (a+1) 1000000000000000000000000000000<|by decide
 let R:List T4:=[(0,1,a,o),(1,2,a,o),(2,3,a,o),(3,4,a,o),(4,5,a,o),(5,0,a,o)]
 let p:List T4:=[(0,1,a,o),(1,2,a,o),(2,0,a,o),(3,4,a,o),(4,5,a,o),(5,6,a,o),(6,3,a,o)]
 have Q:0<=(a+1)%1000000000000000000000000000000:=Zz _ (by decide);have P:(a+1)%1000000000000000000000000000000<1000000000000000000000000000000:=Zo _ (by decide);generalize T:(a+1)%1000000000000000000000000000000=f at *
 let X:List T4:=[(0,2,f,false),(3,5,f,false),(1,4,f,false)]
 have A:∀G,(am (aC 5<|asO<|asL<|aI 1 [2,3] (cZ<|cI 6) (setV 0) bf<|asT<|ag (getV 0)<|ag (d2 bg (d2 aU (ac 0)<|cI 1)<|cI 6)<|ag (getV 1)<|ag (getV 2) aE)
 <|am (aC 6<|cI 6) G) (flF N q a o () () () () ())=G (flF N q a o (sV<|.lst<|R.map dT4) (sI 6) () () ()):=λG=>rfl
 rw[K9,show aK 10 5 [.v _,.v _,.v _,.v _,.v _]=flF N q a o () () () () () from rfl,A];by_cases w:q%2=0
 .have s:flI (flF N q a o (sV<|.lst<|R.map dT4) (sI 6) () () ())
   = !.nx (flF N q a o (sV<|.lst<|p.map dT4) (sI 7) () () ()):=by
   have j:fV (asB<|d2 gtI (ac 4)<|cI 6) (asB<|d2 eqD (d2 bg (ac 1)<|cI 2)<|cI 0) (flF N q a o (sV<|.lst<|R.map dT4) (sI 6) () () ())=!true:=by simp[u,w]
   delta flI;rw[bJ,j,Yb,Yl qx];rfl
  rw[ak s];let#[ks,us,z,m,l,e]:=sj O K N q a 7 o p () H b (by decide) (by show 7<=12;decide) (λt h=>by
   simp[p,Ys,Xs,Uf]at h;rcases h with rfl|rfl|rfl|rfl|rfl|rfl|rfl<;>exact sW (by decide) x) B c i ok
  exact#[7,ks,us,by decide,m,l,?_];rw[e];rfl
 .have s:flI (flF N q a o (sV<|.lst<|R.map dT4) (sI 6) () () ())
   = !.nx (flF N q a o (sV<|.lst<|(R++X).map dT4) (sI 6) (sI f) () ()):=by
   have j:fV (asB<|d2 gtI (ac 4)<|cI 6) (asB<|d2 eqD (d2 bg (ac 1)<|cI 2)<|cI 0) (flF N q a o (sV<|.lst<|R.map dT4) (sI 6) () () ())=!false:=by simp[u,w]
   delta flI;rw[bJ,j,Yb,Yn Yk];have y:aC 7 (d2 bg (d2 aU (ac 2)<|cI 1)<|d2 qN (cI 10)<|cI 30) (flF N q a o (sV<|.lst<|R.map dT4) (sI 6) () () ())=!.nx (flF N q a o (sV<|.lst<|R.map dT4) (sI 6) (sI f) () ()):=by generalize R.map dT4=U;simp[J]
   rw[ak y];rfl
  rw[ak s];let#[ks,us,z,m,l,e]:=sj O K N q a 6 o (R++X) (sI f) I b (by decide) (by show 9<=12;decide) (λt h=>by
   simp[R,X,List.cons_append,Ua,Ys,Xs,Uf]at h;rcases h with rfl|rfl|rfl|rfl|rfl|rfl|rfl|rfl|rfl<;>first|exact sW (by decide) x|exact sW (by decide) #[Q,P]) E g i ok
  exact#[6,ks,us,by decide,m,l,?_];rw[e];rfl
abbrev wxF(N:List D)(r n f K:Int)(o:Bool)(a x9 x:Option DV):DF:=[sV<|.lst N,sI 7,sI 7,sI r,sI n,sI f,sI K,sV<|.bl o,a,x9,x]
def M_{A S b}{N}{x r n f K}(hx:A [.v (.lst N),.v (.int 0)]=sI x)(h:S [.v (.int x),.v (.int 1873046521)]=sI r)(c:bg (.int r) (.int 7)=!.int (r%7))(en:1+r%7=n)(i:bi (.int r) (.int 7)=!.int (r/7))(m:bg (.int (r/7)) (.int 9)=!.int f)(g:b [.v<|.lst N,.v<|.int 1000000000000000000000000000000]=sI K)(a:bi (.int r) (.int 56)=!.int (r/56))(e:bg (.int<|r/56) (.int 2)=!.int (r/56%2)) G :
  (am (aC 3<|aj S<|aV (aj A<|aB 0<|aV (cI 0) nA)<|aV (cI 1873046521) nA)
 <|am (aC 4<|d2 aU (cI 1)<|d2 bg (ac 3)<|ac 1)
 <|am (aC 5<|d2 bg (d2 bi (ac 3)<|cI 7)<|cI 9)
 <|am (aC 6<|aj b<|aB 0<|aV (d2 qN (cI 10)<|cI 30) nA)
 <|am (aC 7<|d2 eqD (d2 bg (d2 bi (ac 3)<|cI 56)<|cI 2)<|cI 1)
  G) [sV<|.lst N,sI 7,sI 7,(),(),(),(),(),(),(),()]=G (wxF N r n f K (decide<|r/56%2=1) () () ()):=by
 simp[hx,h,c,en,i,m,g,a,e]
def MI{N}{r n f K}{o}{ks}{ds}{i}(B:1<=n/\n<=7)(e:okS n ts)(hd:okS n ds)(s:i [.v (.lst N),.v (.int n)]=oW (.lst (ds.map dT4)) ()):∃(us:List T4) (z:DF),okS n us /\
  (am (dIf (asB<|d2 eqD (d2 bg (d2 bi (ac 3)<|cI 112)<|cI 3)<|cI 0) (aC 10<|asO<|asL<|slL (d2 aU (ac 10)<|aj i<|aB 0<|aB 4 nA) bNo<|bI<|cI 12) dNx)
 <|am (dIf (fV (asB<|d2 eqD (d2 bg (d2 bi (ac 3)<|cI 112)<|cI 3)<|cI 1)<|asB<|d2 ltd (d1 bU<|ap 10)<|cI 7) (aC 10<|d2 aU (ac 10)<|ac 10) dNx)
 <|aY<|asT<|ag (getV 8)<|ag (getV 10) aE) (wxF N r n f K o (sV<|.lst ks) x9<|sV<|.lst<|ts.map dT4)=!.rt (.v<|.tup [.lst ks,.lst<|us.map dT4]) z:=by
 let a:=bM r 112 (by decide);let m:=bj (r/112) 3 (by decide);have w:∃us:List T4,okS n us/\(dIf (asB<|d2 eqD (d2 bg (d2 bi (ac 3)<|cI 112)<|cI 3)<|cI 0) (aC 10<|asO<|asL<|slL (d2 aU (ac 10)<|aj i<|aB 0<|aB 4 nA) bNo<|bI<|cI 12) dNx) (wxF N r n f K o (sV<|.lst ks) x9<|sV<|.lst<|ts.map dT4)=!.nx (wxF N r n f K o (sV<|.lst ks) x9<|sV<|.lst<|us.map dT4)/\(r/112%3=1->us=ts):=by
  by_cases h:r/112%3=0
  .let g:=Ez ts ds (by have:=e.1;have:=hd.1;lia);have q:gU ((ts++ds).map dT4) () (!12)=((ts++ds).take 12).map dT4:=by rw[oY,EK _<|by decide];rfl
   exact#[(ts++ds).take 12,#[by rw[ZT];lia,λt h=>?_],?_,λz=>by lia]
   .rcases YO.mp (List.mem_of_mem_take h)with h|h
    .exact e.2 t h
    .exact hd.2 t h
   .generalize ((ts++ds).take 12).map dT4=W,(ts++ds).map dT4=V,ds.map dT4=Y,ts.map dT4=X at *;simp[a,m,h,s,g,Cs,q]
  .exact#[ts,e,?_,λ_=>rfl];generalize ts.map dT4=X at *;simp[a,m,h]
 let#[us,c,A,y]:=w;rw[ak A];have u:∃b:List T4,okS n b/\(dIf (fV (asB<|d2 eqD (d2 bg (d2 bi (ac 3)<|cI 112)<|cI 3)<|cI 1)<|asB<|d2 ltd (d1 bU<|ap 10)<|cI 7) (aC 10<|d2 aU (ac 10)<|ac 10) dNx) (wxF N r n f K o (sV<|.lst ks) x9<|sV<|.lst<|us.map dT4)=!.nx (wxF N r n f K o (sV<|.lst ks) x9<|sV<|.lst<|b.map dT4):=by
  have l:(us.map dT4).length=us.length:=Ya ..;by_cases h:r/112%3=1
  .by_cases j:(us.length:Int)<7
   .let g:=Ez us us (by lia);exact#[us++us,#[by rw[Yo];lia,λt h=>?_],?_]
    .rcases YO.mp h with h|h
     .exact c.2 t h
     .exact c.2 t h
    .generalize (us++us).map dT4=V,us.map dT4=X at *;simp[a,m,h,l,j,g]
   .exact#[us,c,?_];generalize us.map dT4=X at *;simp[a,m,h,l,j]
  .exact#[us,c,?_];generalize us.map dT4=X at *;simp[a,m,h]
 let#[b,p,x]:=u;rw[ak x];exact#[b,_,p,qx]
abbrev pxE:DF->Option D:=(asT<|ag (d2 ixD (ac 1)<|d2 ixD (ac 0)<|cI 0)<|ag (d2 ixD (ac 1)<|d2 ixD (ac 0)<|cI 1)<|ag (getV 2)<|ag (getV 3) aE)
def pxT(out:Qj)(K:Int)(o:Bool)(p:Int×Int):T4:=(ox out p.1,ox out p.2,K,o)
def Gp{n K}{o}(a:1<=n)(p:out.Perm (ao n))(ps:List (Int×Int))(b:∀q∈ps,okP n q):bO (setV 0) bf pxE [(),sV (.lst (out.map .int)),sI K,sV (.bl o)] (ps.map dP)=!(ps.map (pxT out K o)).map dT4:=by rw[YD];exact bq dP _ ps λq h=>?_;let#[m,l,j,b1,_]:=b q h;let e:=(k_ a p #[m,l]).1;let c:=(k_ a p #[j,b1]).1;have i:ixD (dP q) (.int 0)=!.int q.1:=rfl;have g:ixD (dP q) (.int 1)=!.int q.2:=rfl;have f:(dT4 ∘ pxT out K o) q=.tup [.int<|ox out q.1,.int<|ox out q.2,.int K,.bl o]:=rfl;exact#[[sV<|dP q,sV _,sI K,sV _],qx,qx,?_];rw[f];generalize dP q=T,out.map D.int=O at *;simp[i,g,ix1,e,c]
def Mu{N}{r n f K}{o}{ks}{a P}{ps:List (Int×Int)}(b:1<=n/\n<=7)(p:out.Perm (ao n))(h:∀q∈ps,okP n q)(i:ps.length<=12)(e:a [.v<|.lst N,.v<|.int n,.v<|.int 742938285]=oW (.lst<|out.map .int) ())(c:P [.v<|.int n,.v<|.int f]=oW (.lst<|ps.map dP) ()) G :
  (am (aC 9<|aj a<|aB 0<|aV (getV 4)<|aV (cI 742938285) nA)
 <|am (aC 10<|asO<|asL<|aI 1 [9,6,7] (cQ<|aj P<|aB 4<|aB 5 nA) (setV 0) bf pxE)
  G) (wxF N r n f K o (sV<|.lst ks) () ())=G (wxF N r n f K o (sV<|.lst ks) (sV<|.lst<|out.map .int)<|sV<|.lst<|(ps.map<|pxT out K o).map dT4):=by
 let g:=Gp (K:=K) (o:=o) b.1 p ps h;have l:(ps.map dP).length<=16777216:=by rw[Ya];lia
 generalize j:pxE=E1,(ps.map _).map dT4=B,ps.map dP=T,out.map D.int=O at *;simp[e,c,a9,l,g]
def EN C(ns:Qj):∃(n:Int) (ks:List Str) (us:List T4),(1<=n/\n<=7)/\okK n ks/\okS n us/\g8 C [.v (.lst (ns.map .int)),.v (.int 7),.v (.int 7)]=sV (.tup [.lst (ks.map .str),.lst (us.map dT4)]):=by
 let#[x,T]:=C9 C ns 0 (by decide);let#[r,U,r0,_]:=g7 C x 1873046521 (by decide);let#[K,Z,K0,K1]:=G9 C ns;have a:1<=1+r%7/\1+r%7<=7:=by lia
 obtain⟨n,en⟩:∃n,1+r%7=n:=#[_,qx]
 rw[en]at a;have i:0<=r/7%9/\r/7%9<9:=by lia
 obtain⟨f,ef⟩:∃f,r/7%9=f:=#[_,qx]
 rw[ef]at i;let O:=bj (r/7) 9 (by decide);rw[ef]at O;let s:=λq o=>D6 C ns q K o #[K0,K1]
 let#[ks,m,R,Q]:=vO C ns n (by lia);let#[J,c,dl,dk]:=C2 C ns n a;let#[g,l,p]:=lW C ns n 742938285 a (by decide);let#[ps,j,L,M]:=A5 C n f (BQ #[a.1,Int.lt_add_one_of_le a.2])<|MX i;delta g8 rW;generalize bx C=S at U ⊢;generalize dM C=A at T ⊢;generalize gi C=Fo at Z ⊢;generalize fG C=Fa at s ⊢;generalize cR C=Kd at m ⊢;generalize bZ C=Dr at c ⊢;generalize da C=Or at l ⊢;generalize gD C=Pr at j ⊢;generalize ns.map D.int=N at *;rw[pj,show aK 11 3 [.v _,.v _,.v _]=[sV _,sI 7,sI 7,(),(),(),(),(),(),(),()]from rfl,M_ T U (bj _ _<|by decide) en (bM _ _<|by decide) O Z (bM _ _<|by decide)<|bj _ _<|by decide];generalize decide (r/56%2=1)=o at *;let P:=bj f 8 (by decide);let w:=bM r 112 (by decide);by_cases h8:f%8=0
 .let#[n',b,u,H,I,E,e]:=s (r/112) o;exact#[n',b,u,H,I,E,?_];have B:(dIf (asB<|d2 eqD (d2 bg (ac 5)<|cI 8)<|cI 0) (aY<|aj Fa<|aB 0<|aV (d2 bi (ac 3)<|cI 112)<|aV (getV 6)<|aV (getV 7)<|aB 2 nA) dNx) (wxF N r n f K o () () ())=!.rt (.v<|.tup [.lst<|b.map .str,.lst<|u.map dT4]) (wxF N r n f K o () () ()):=by generalize b.map D.str=X at *;generalize u.map dT4=Y at *;simp[P,h8,w,e]
  rw[gN B];rfl
 .have B:(dIf (asB<|d2 eqD (d2 bg (ac 5)<|cI 8)<|cI 0) (aY<|aj Fa<|aB 0<|aV (d2 bi (ac 3)<|cI 112)<|aV (getV 6)<|aV (getV 7)<|aB 2 nA) dNx) (wxF N r n f K o () () ())=!.nx (wxF N r n f K o () () ()):=by simp[P,h8]
  have s2:(aC 8<|aj Kd<|aB 0<|aB 4 nA) (wxF N r n f K o () () ())=!.nx (wxF N r n f K o (sV<|.lst<|ks.map .str) () ()):=by generalize ks.map D.str=X at *;simp[m]
  rw[ak B,ak s2];by_cases h5:5<f
  .exact#[n,ks,J,a,#[R,Q],#[dl,dk],?_];have y:(dIf (asB<|d2 gtI (ac 5)<|cI 5) (aY<|asT<|ag (getV 8)<|ag (aj Dr<|aB 0<|aB 4 nA) aE) dNx) (wxF N r n f K o (sV<|.lst<|ks.map .str) () ())=!.rt (.v<|.tup [.lst<|ks.map .str,.lst<|J.map dT4]) (wxF N r n f K o (sV<|.lst<|ks.map .str) () ()):=by generalize ks.map D.str=X at *;generalize J.map dT4=Y at *;simp[h5,c]
   rw[gN y];rfl
  .have y:(dIf (asB<|d2 gtI (ac 5)<|cI 5) (aY<|asT<|ag (getV 8)<|ag (aj Dr<|aB 0<|aB 4 nA) aE) dNx) (wxF N r n f K o (sV<|.lst<|ks.map .str) () ())=!.nx (wxF N r n f K o (sV<|.lst<|ks.map .str) () ()):=by simp[h5]
   have ht:okS n (ps.map<|pxT g K o):=#[by rw[Ya];exact L,λt h=>by
    let#[q,hq,rfl]:=Yg.mp h;let#[a0,a1,b0,b1,ab]:=M q hq;let h1:=k_ a.1 p #[a0,a1];let h2:=k_ a.1 p #[b0,b1];exact#[h1.2.1,h1.2.2,h2.2.1,h2.2.2,yV a.1 p #[a0,a1] #[b0,b1] ab,K0,K1]]
   let#[us,z,hu,e]:=MI (N:=N) (r:=r) (f:=f) (K:=K) (o:=o) (ks:=ks.map .str) (x9:=sV<|.lst<|g.map .int) a ht #[dl,dk] c;exact#[n,ks,us,a,#[R,Q],hu,?_];rw[ak y,Mu a p M L l j,e];rfl
def GI{g}{es}(h:ρ[i]?=!oW (.lst ds) t)(b:g ρ=!es)(a:ds.length+es.length<=16777216):Am i g ρ=!.nx (ρ.set i (oW (.lst (ds++es)) t)):=by delta Am;rw[h];simp;rw[b,Yb,Yl a]
def Hb{f}(h:ρ[i]?=!oW (.lst ds) t)(b:f ρ=!d)(a:ds.length<16777216):du i f ρ=!.nx (ρ.set i (oW (.lst (ds++[d])) t)):=by rw[F8,h];simp;rw[b,Yb,Yl a]
abbrev btB:DF->Option RES:=(am (dIf (asB<|d2 eqD (asT<|ag (d2 ixD (ac 4)<|cI 0)<|ag (d2 ixD (ac 4)<|cI 1) aE)<|asT<|ag (getV 1)<|ag (getV 2) aE) (du 3<|asT<|ag (d2 ixD (ac 4)<|cI 2)<|ag (d1 vX<|d2 ixD (ac 4)<|cI 3) aE) dNx)
 <|dIf (asB<|d2 eqD (asT<|ag (d2 ixD (ac 4)<|cI 1)<|ag (d2 ixD (ac 4)<|cI 0) aE)<|asT<|ag (getV 1)<|ag (getV 2) aE) (du 3<|asT<|ag (d2 ixD (ac 4)<|cI 2)<|ag (d2 kB (cI 2)<|d1 vX<|d2 ixD (ac 4)<|cI 3) aE) dNx)
def EQ TS i j t L(B:L.length<=100) :
  btB [sV<|.lst TS,sI i,sI j,oW (.lst<|L.map dP) (),sV<|dT4 t]=!.nx [sV<|.lst TS,sI i,sI j,oW (.lst<|(L++prs i j t).map dP) (),sV<|dT4 t]:=by
 let#[a,b,k,o]:=t;have u:L.length<16777216:=by lia
 have s:L.length+1<16777216:=by lia
 let m:=jm 2 (if o then 1 else 0)<|.inl (by decide);have l:(2:Int)*(if o then 1 else 0)=if o then 2 else 0:=by cases o<;>rfl
 rw[l]at m;let c:=Hf a b i j;let e:=Hf b a i j;have y:prs i j (a,b,k,o)=(if decide (a=i/\b=j) then[(k,if o then 1 else 0)]else[])++(if decide (b=i/\a=j) then[(k,if o then 2 else 0)]else[]):=by simp[YQ];rfl
 rw[y];generalize decide (a=i/\b=j)=A at c ⊢;generalize decide (b=i/\a=j)=z at e ⊢;let x:=EF o;generalize (if o then(1:Int)else 0)=w1,(if o then(2:Int)else 0)=w at *;have h:ixD (dT4 (a,b,k,o)) (.int 0)=!.int a:=rfl;have g:ixD (dT4 (a,b,k,o)) (.int 1)=!.int b:=rfl;have f:ixD (dT4 (a,b,k,o)) (.int 2)=!.int k:=rfl;have q:ixD (dT4 (a,b,k,o)) (.int 3)=!.bl o:=rfl;have d1:dP (k,w1)=.tup [.int k,.int w1]:=rfl;have d2:dP (k,w)=.tup [.int k,.int w]:=rfl;have p:(L.map dP).length=L.length:=Ya ..;rw[YW];generalize L.map dP=M,dT4 _=T at *;cases A<;>cases z<;>simp[btB,c,e,x,m,u,s,p,d1,d2,h,g,f,q]
def IQ C ts(g:ts.length<=12)i j:dN C [.v (.lst (ts.map dT4)),.v (.int i),.v (.int j)]=sV (srP (a7 i j ts)):=by
 let#[z,e,y,rfl]:=dW (st:=setV 4) (λm c=>∃y,c=[sV _,sI i,sI j,oW (.lst<|(a7 i j<|ts.take m).map dP) (),y]) _ 0
  [sV _,sI i,sI j,oW (.lst []) (),()] #[_,qx] (by
   rintro m d _ h ⟨y,rfl⟩;rw[Zk];rw[Yt]at h;cases a:ts[m]? with
   |none=>rw[a]at h;cases h
   |some t=>
   rw[a]at h;cases h;rw[qI a,vv];let l:=kX i j<|ts.take m;have f:(ts.take m).length<=12:=by rw[ZT];lia
   exact#[_,qx,_,EQ (ts.map dT4) i j t _<|by lia,_,qx])
 rw[Zk,Ya,ZW]at e;let l:=kX i j ts;let b:=ve (a7 i j ts) (by lia);delta dN jQ;rw[pj];have s:bC 3 (asL aE) (aK 5 3 [.v _,.v _,.v _])=!.nx [sV<|.lst<|ts.map dT4,sI i,sI j,oW _ (),()]:=rfl;rw[ak s,ak<|cL qx e];delta srP;generalize (a7 i j ts).map dP=L,ts.map dT4=T at *;simp[jn,b,ki]
abbrev ttB(B:Dm):DF->Option RES:=(dIf (asB<|d2 neD (ap 3)<|ap 4) (sx 2 (asT<|ag (getV 3)<|ag (getV 4) aE)<|aj B<|aB 0<|aV (getV 3)<|aV (getV 4) nA) dNx)
abbrev ttF(TS:List D)(n:Int)(kvs:List (List Key×D))(a x:Option DV):DF:=[sV<|.lst TS,sI n,oW (.dT kvs) (),a,x]
def JG B n kvs i j ts(c:kvs.length<1000)(b:B [.v (.lst (ts.map dT4)),.v (.int i),.v (.int j)]=sV (srP (a7 i j ts))) :
  ttB B (ttF (ts.map dT4) n kvs (sI i)<|sI j)=!.nx (ttF (ts.map dT4) n (if i=j then kvs else eS kvs [.inl i,.inl j]<|srP<|a7 i j ts) (sI i)<|sI j):=by
 have a:kvs.length<16777216:=by lia
 generalize srP _=R,ts.map dT4=T at *;by_cases h:i=j
 .rw[Yl h];simp[ttB,h]
 .rw[Yn h];simp[ttB,h,wc,k7,gW,ja,b,a]
def KO(n:Int)(kvs:List (List Key×D)):Prop:=∀p∈kvs,∃a b:Int,p.1=[.inl a,.inl b]/\(0<=a/\a<n/\0<=b/\b<n)/\a≠b
def KO.put(h:KO n kvs){a b}(f:(0<=a/\a<n/\0<=b/\b<n)/\a≠b):KO n (eS kvs [.inl a,.inl b] v):=λp c=>by
 delta eS at c;split at c
 .let#[q,g,rfl]:=Yg.mp c;split
  .rename_i e;exact#[a,b,e,f]
  .exact h q g
 .rcases YO.mp c with z|z
  .exact h p z
  .rw[Yu.mp z];exact#[a,b,qx,f]
def HP B n(H:1<=n/\n<=7)kvs(i:Nat)(hi:i<7)(u:(i:Int)<n)(C:KO n kvs)ts(E:∀i j:Int,B [.v (.lst (ts.map dT4)),.v (.int i),.v (.int j)]=sV (srP (a7 i j ts)))(s:kvs.length<=7*i)x(A:tbS ts kvs λa b=>(0<=a/\a<i/\0<=b/\b<n)/\a≠b) :
  ∃c y,eV (setV 4) (ttB B) ((ao n).map .int) (ttF (ts.map dT4) n kvs (sI i) x)=!.nx (ttF (ts.map dT4) n c (sI i) y)/\c.length<=7*(i+1) /\
   (tbS ts c λa b=>(0<=a/\a<((i+1:Nat))/\0<=b/\b<n)/\a≠b)/\KO n c:=by
 let#[z,e,c,y,rfl,g,h,f]:=dW (st:=setV 4) (λm p=>∃c y,p=ttF _ n c (sI i) y/\c.length<=7*i+m /\
   (tbS ts c λa b=>((0<=a/\a<i/\0<=b/\b<n)\/(a=i/\0<=b/\b<m))/\a≠b)/\KO n c) _ 0 (ttF _ n kvs (sI i) x)
   #[kvs,_,qx,s,λa b q=>by
    rcases q.1 with z|z
    .exact A a b #[z,q.2]
    .have:=z.2.1;have:=z.2.2;lia,C] (by
   rintro m d _ o ⟨c,y,rfl,g,h,f⟩;rw[Zk]at g h ⊢;have I:m<n.toNat:=by have:=(Ym.mp o).1;rwa [Ya,aG]at this
   rw[lw o];let e:=JG B n c i m ts (by lia)<|E i m;let l:=oV [.inl i,.inl m] (srP<|a7 i m ts) c;exact#[_,qx,_,e,_,_,qx,?_,?_,?_]
   .split<;>lia
   .split
    .rename_i w;intro a b q;exact h a b #[?_,q.2];rcases q.1 with z|⟨z1,z2,z3⟩
     .exact .inl z
     .exact .inr #[z1,z2,?_];have:=q.2;lia
    .exact Il h i m λa b q=>?_;rcases q.1 with z|⟨z1,z2,z3⟩
     .exact .inl #[.inl z,q.2]
     .by_cases z:b=m
      .exact .inr #[z1.symm,z.symm]
      .exact .inl #[.inr #[z1,z2,by lia],q.2]
   .split
    .exact f
    .exact f.put #[by lia,by assumption])
 rw[Zk,Ya,aG]at g h;exact#[c,y,e,by lia,λa b q=>h a b #[?_,q.2],f];by_cases z:a=i
 .exact .inr #[z,q.1.2.2.1,by lia]
 .exact .inl #[q.1.1,by lia,q.1.2.2.1,q.1.2.2.2]
def Bg C n ts(u:1<=n/\n<=7)(w:ts.length<=12):∃kvs,ee C [.v (.lst (ts.map dT4)),.v (.int n)]=oW (.dT kvs) ()/\(tbS ts kvs λa b=>(0<=a/\a<n/\0<=b/\b<n)/\a≠b)/\KO n kvs:=by
 let o:=IQ C ts w;delta ee mP;generalize dN C=B at o ⊢;let#[z,e,kvs,g,y,rfl,j,f,i]:=dW (st:=setV 3) (body:=d5 (cZ<|ac 1) _ _) (λm p=>∃kvs g y,p=ttF _ n kvs g y/\kvs.length<=7*m /\
   (tbS ts kvs λa b=>(0<=a/\a<m/\0<=b/\b<n)/\a≠b)/\KO n kvs) _ 0 (ttF _ n [] () ())
   #[[],_,_,qx,Yp _,λa b q=>by have:=q.1.1;have:=q.1.2.1;lia,λ_ h=>nomatch h] (by
   rintro m d _ l ⟨kvs,g,y,rfl,j,f,i⟩;rw[Zk]at j f ⊢;have H:m<n.toNat:=by have:=(Ym.mp l).1;rwa [Ya,aG]at this
   rw[lw l];let#[c,E,e,A,x]:=HP B n u kvs m (by lia) (by lia) i ts o j y f;exact#[_,qx,_,cL (dS qx #[by lia,by lia]) e,c,_,_,qx,A,x])
 rw[Zk,Ya,aG]at f;exact#[kvs,?_,λa b q=>f a b #[#[q.1.1,by lia,q.1.2.2],q.2],i];rw[g9];have s:bC 2 (λ_=>!.dT []) (aK 5 2 [.v _,.v _])=!.nx (ttF (ts.map dT4) n [] () ()):=rfl;rw[ak s,ak<|cL (dS qx #[by lia,by lia]) e];rfl
def di:Qj->List (Int×Int)
 |[]=>[]
 |x::xs=>xs.map (λy=>(x,y))++di xs
def dC(ts:List T4)(p:Int×Int):D:=srP<|a7 p.1 p.2 ts
def qJ:∀r:Qj,(di r).length<=r.length*r.length
 |[]=>Yp _
 |x::xs=>by
  have:=qJ xs;show(xs.map _++di xs).length<=(xs.length+1)*(xs.length+1);rw[Yo,Ya,Nat.succ_mul,Nat.mul_succ];lia
def yR{r:Qj}{x}(h:r[i]?=!x):r.drop i=x::r.drop (i+1):=by let#[a,e]:=Ym.mp h;rw[ZK a,e]
def rks(ds:List D):Qj:=ds.map λd=>(rkD (bG ds) d)
def k6 ds:(rks ds).length=ds.length:=Ya ..
def DQ:∀n d,okN n d->okN (n+1) d:=by
 intro n;induction n with
 |zero=>
  intro d h;cases d with
  |tup xs=>cases xs with
   |nil=>rfl
   |cons x r=>cases h
  |lst xs=>cases xs with
   |nil=>rfl
   |cons x r=>cases h
  |_=>exact h
 |succ n ih=>
  intro d h;cases d with
  |tup xs=>exact Yh.mpr λx a=>ih x<|Yh.mp h x a
  |lst xs=>exact Yh.mpr λx a=>ih x<|Yh.mp h x a
  |_=>exact h
def pX{n m}(h:n<=m)(hd:okN n d):okN m d:=by
 induction h with
 |refl=>exact hd
 |step _ ih=>exact DQ _ _ ih
def rA C ds(m:rh ds)(hs:bL (bG ds))(i:Cmps 28 ds)(p:ds.length<=100):gj C [.v (.lst ds)]=oW (.lst ((rks ds).map .int)) ():=by
 have l:∀d∈aZ<|bG ds,d∈ds:=λd h=>b_.mp<|(be _).mem_iff.mp h
 have b:(aZ _).all (okN 29):=Yh.mpr λd h=>pX (by decide)<|i.1 d<|l d h
 have g:∀d∈ds,jL (.lst _) d=!.int _:=λd h=>by
  show(if((aZ _).all _&&okN 30 d) then(i7 d<|aZ<|bG ds).map (λ(j:Nat)=>D.int _)else ())=_;rw[b,pX (by decide)<|i.1 d h,Bool.and_self,Yl qx,yA i h];rfl
 have o:bO (setV 0) bf (d2 jL (ap 1)<|ap 0) [(),sV<|.lst<|aZ<|bG ds] ds=!(rks ds).map .int:=by
  have:=bq (st:=setV 0) (c:=bf) (e:=d2 jL (ap 1)<|ap 0) (ρ:=[(),sV<|.lst _]) id _ ds λd h=>#[_,qx,qx,by
   exact g d h]
  rw[XH]at this;rw[this];delta rks;rw[YD];rfl
 have a:kq (ac 0) [sV<|.lst ds,()]=!aZ (bG ds):=by show(open Classical in if rh ds/\bL _ then !aZ _ else ())=_;rw[Yl #[m,hs]]
 have f:ds.length<=16777216:=by lia
 delta gj vz;rw[p8,show aK 2 1 [.v _]=[sV _,()]from rfl,ux,fi,eR,cP,a];show bY (dg _ [sV _,sV _])=_;rw[fE,cP,a9];show bY ((((if ds.length<=16777216 then bO _ _ _ [(),sV<|.lst _] ds else ())).map OD.lst).map _)=_;rw[Yl f,o];rfl
def prD(ps:Qj)(ts:List T4)(i j:Int):D:=.tup [.int<|ox ps j,srP<|a7 i j ts]
def oth(n i:Int):Qj:=(ao n).filter λj=>(not<|decide<|j=i)
def kyD(ps:Qj)(ts:List T4)(n i:Int):D:=.tup [.int<|ox ps i,.tup<|aZ<|(oth n i).map<|prD ps ts i]
theorem Bx{ps}{n i}(c:ps.length=n)(h:0<=i/\i<n):ixD (.lst (ps.map .int)) (.int i)=!.int (ox ps i):=by let#[x,b,a]:=gE (l:=ps) D.int h.1 (by lia);rw[ix1,a];delta ox;rw[b];rfl
def zg{n i j}:j∈oth n i↔(0<=j/\j<n)/\j≠i:=by delta oth;rw[YL,aA];simp
def zy{m:Nat}(ps:List (Int×Int))(P:D->Prop)(h:∀p,P (dP p)):∀d∈aZ (ps.map dP),P d:=λd a=>by
 let#[p,_,rfl]:=Yg.mp<|(be _).mem_iff.mp a;exact h p
def Fb ps:okN 2 (srP ps):=Yh.mpr<|zy (m:=0) ps _ λp=>rfl
def Ge ps:hkN 2 (srP ps):=Yh.mpr<|zy (m:=0) ps _ λp=>rfl
theorem j4:∀xs ys,(∀x∈xs,∀y∈ys,aH x y)->bh xs ys
 |[],_,_=>by simp[bh]
 |_::_,[],_=>by simp[bh]
 |x::xs,y::ys,h=>by
  rw[bh,Yr];exact#[h x Ye y Ye,j4 xs ys λa e b c=>h a (Yd _ e) b<|Yd _ c]
def Bl a b:aH (srP a) (srP b):=j4 _ _ λx c y h=>by
 let#[p,_,rfl]:=Yg.mp<|(be _).mem_iff.mp c;let#[q,_,rfl]:=Yg.mp<|(be _).mem_iff.mp h;rfl
def yW ps ts i j:okN 3 (prD ps ts i j):=by show(true&&(okN 2 (srP _)&&true));rw[Fb];rfl
def GW ps ts i j:hkN 3 (prD ps ts i j):=by show(true&&(hkN 2 (srP _)&&true));rw[Ge];rfl
def sr ps ts i j b a:aH (prD ps ts i j) (prD ps ts b a):=by show(true&&(aH (srP _) _&&true));rw[Bl];rfl
def t6{ps}{n i}(h:d∈aZ ((oth n i).map (prD ps ts i))):∃j,d=prD ps ts i j:=by let#[j,_,rfl]:=Yg.mp<|(be _).mem_iff.mp h;exact#[j,qx]
def yS ps ts n i:okN 5 (kyD ps ts n i):=by
 show(true&&(okN 4 (.tup _)&&true));have:okN 4 (.tup<|aZ<|(oth n i).map _):=Yh.mpr λd h=>by let#[j,rfl]:=t6 h;exact yW ps ts i j
 rw[this];rfl
def Fv ps ts n i:hkN 8 (kyD ps ts n i):=by
 have u:∀m d,hkN m d->hkN (m+1) d:=by
  intro m;induction m with
  |zero=>intro d h;cases d with
   |int x=>rfl
   |_=>cases h
  |succ m ih=>intro d h;cases d with
   |int x=>rfl
   |tup xs=>exact Yh.mpr λx a=>ih x<|Yh.mp h x a
   |_=>cases h
 have c:hkN 5 (kyD ps ts n i):=by
  show(true&&(hkN 4 _&&true));have:hkN 4 (.tup<|aZ<|(oth n i).map _):=Yh.mpr λd b=>by let#[j,rfl]:=t6 b;exact GW ps ts i j
  rw[this];rfl
 exact u _ _<|u _ _<|u _ _ c
def AB ps ts n i j:aH (kyD ps ts n i) (kyD ps ts n j):=by
 show(true&&(bh (aZ _) _&&true));rw[j4 _ _ λx c y h=>by
  let#[a,rfl]:=t6 c;let#[b,rfl]:=t6 h;exact sr ps ts i a j b]
 rfl
def kys(ps:Qj)(ts:List T4)(n:Int):List D:=(ao n).map<|kyD ps ts n
theorem ub ps ts n(h:1<=n/\n<=7):(kys ps ts n).length<=7:=by delta kys;rw[Ya,aG];lia
def jt ps ts n:Cmps 28 (kys ps ts n):=by
 exact#[λd b=>?_,λx a y h=>?_]
 .let#[i,_,rfl]:=Yg.mp b;exact pX (by decide)<|yS ps ts n i
 .let#[i,_,rfl]:=Yg.mp a;let#[j,_,rfl]:=Yg.mp h;exact AB ps ts n i j
def xQ ps ts n(h:1<=n/\n<=7):rh (kys ps ts n):=by exact#[YA (jr _)<|YA (ub ps ts n h)<|by decide,.inl λd a=>?_];let#[i,_,rfl]:=Yg.mp a;delta wy;rw[Fv,pX (by decide)<|yS ps ts n i];rfl
def q_(e:ds.length<64)(a:Cmps 28 ds)(h1:∀d∈ds,∃(x:Int) (r:List D),d=.tup (.int x::r)):bL ds:=by
 delta bL;simp only[Yr,YQ];exact#[#[#[#[e,Yh.mpr a.1],Yh.mpr λx c=>Yh.mpr λy b=>a.2 x c y b],Yh.mpr λd h=>?_],Yh.mpr λd h=>?_]
 .let#[x,r,rfl]:=h1 d h;rfl
 .let#[x,r,rfl]:=h1 d h;rfl
theorem ye ps ts n(a:1<=n/\n<=7):bL (bG (kys ps ts n)):=by let e:=ub ps ts n a;let c:=jr<|kys ps ts n;exact q_ (by lia) ((jt ps ts n).sub λx h=>b_.mp h) λd b=>?_;let#[i,_,rfl]:=Yg.mp<|b_.mp b;exact#[_,_,qx]
theorem yL n i(h:1<=n/\n<=7):(oth n i).length<=7:=by have:(oth n i).length<=(ao n).length:=List.length_filter_le _ _;rw[aG]at this;lia
theorem sA ps ts n i(f:1<=n/\n<=7):bL ((oth n i).map (prD ps ts i)):=by
 have:=yL n i f;exact q_ (by rw[Ya];lia) #[λd h=>?_,λx e y c=>?_] λd h=>?_
 .let#[j,_,rfl]:=Yg.mp h;exact pX (by decide)<|yW ps ts i j
 .let#[a,_,rfl]:=Yg.mp e;let#[b,_,rfl]:=Yg.mp c;exact sr ps ts i a i b
 .let#[j,_,rfl]:=Yg.mp h;exact#[_,_,qx]
abbrev kcE(C:Addr)(B:Dm):DF->Option D:=(asT<|ag (d2 ixD (ac 1)<|ac 0)<|ag (bF C "between" B<|ck (cG 2)<|aV (getV 3)<|aV (getV 0) nA) aE)
theorem AJ C ks T kvs ts ps n i(g:1<=n/\n<=7)(y:ks.length=n)(u:ps.length=n)(hi:0<=i/\i<n)(H:JOk kvs ts) :
  jv C [.v<|.ins C<|wFs ks T<|.dT kvs,.v<|.lst<|ps.map .int,.v<|.int i]=sV (kyD ps ts n i):=by
 let l:=λj=>o5 C ks T kvs ts i j H
 let E:=λm=>uo (C:=C) (oU ks T<|.dT kvs) m
 let a:=λp o=>yI C ks T _ n y [sV<|.ins C<|wFs ks T<|.dT kvs,sV<|.lst<|ps.map .int,sI i,p,o] qx
 let c:=λj h=>Bx (i:=j) u h
 let e:=sA ps ts n i g;let w:=yL n i g;let f:=c i hi;delta jv wZ;generalize cF C=B at l ⊢;generalize (bF C "size" (c8 C) _)=S at a ⊢;generalize wFs ks T _=F at *;have N:aI 1 [2] (cZ S) (setV 0) (asB<|d2 neD (ap 0)<|ap 1) (getV 0) [sV<|.ins C F,sV<|.lst<|ps.map .int,sI i,(),()]=!(oth n i).map .int:=by
  rw[a9,dS (a _ _)<|by lia,Yb,Yl<|by rw[Ya,aG];lia];exact je _ (ao n) (λx t=>by
   show(match neD (.int x) (.int i)with|some (.bl b)=>!b|_=>())=_;rw[Gc])<|by simp
 have M:bO (setV 0) bf (kcE C B) [(),sV<|.lst<|ps.map .int,sV<|.ins C F,sI i] ((oth n i).map .int)=!((oth n i).map<|prD ps ts i):=by
  exact bq D.int _ _ λj z=>#[[sI j,sV _,sV _,sI i],qx,qx,?_]
  let K:=l j;let J:=E [.v<|.int i,.v<|.int j];let I:=c j (zg.mp z).1;delta prD;simp[bF,ck,cG,J,K,I]
 rw[pj,show aK 5 3 [.v _,.v _,.v _]=[sV _,sV _,sI i,(),()]from rfl];have q:aC 3 (asO<|asL<|aI 1 [2] (cZ S) (setV 0) (asB<|d2 neD (ap 0)<|ap 1)<|getV 0) [sV<|.ins C F,sV<|.lst<|ps.map .int,sI i,(),()]=!.nx [sV<|.ins C F,sV<|.lst<|ps.map .int,sI i,sV<|.lst<|(oth n i).map .int,()]:=by rw[fi,eR,cP,N];rfl
 have s:aC 4 (asO<|asL<|aI 1 [1,0,2] (bu 3) (setV 0) bf<|kcE C B) [sV<|.ins C F,sV<|.lst<|ps.map .int,sI i,sV<|.lst<|(oth n i).map .int,()]=!.nx [sV<|.ins C F,sV<|.lst<|ps.map .int,sI i,sV<|.lst<|(oth n i).map .int,sV<|.lst<|(oth n i).map<|prD ps ts i]:=by
  have A:aI 1 [1,0,2] (bu 3) (setV 0) bf (kcE C B) [sV<|.ins C F,sV<|.lst<|ps.map .int,sI i,sV<|.lst<|(oth n i).map .int,()]=!((oth n i).map<|prD ps ts i):=by rw[a9];show(if((oth n i).map D.int).length<=16777216 then bO _ bf _ [(),sV _,sV _,sI i] ((oth n i).map .int)else ())=_;rw[Yl<|by rw[Ya];lia,M]
  rw[fi,eR,cP,A];rfl
 rw[ak q,ak s];delta kyD;simp[jn,e,f,ki]
theorem Gn C ks T kvs ts ps n(f:1<=n/\n<=7)(b:ks.length=n)(e:ps.length=n)(l:JOk kvs ts) :
  h9 C [.v<|.ins C<|wFs ks T<|.dT kvs,.v<|.lst<|ps.map .int]=oW (.lst<|kys ps ts n) ():=by
 let c:=λi h=>AJ C ks T kvs ts ps n i f b e h l
 let a:=yI C ks T _ n b [sV<|.ins C<|wFs ks T<|.dT kvs,sV<|.lst<|ps.map .int] qx;delta h9 rB;generalize jv C=K at c ⊢;generalize (bF C "size" (c8 C) _)=S at a ⊢;generalize wFs ks T _=F at *;have o:bO (setV 0) bf (aj K<|aB 1<|aB 2<|aV (getV 0) nA) [(),sV<|.ins C F,sV<|.lst<|ps.map .int] ((ao n).map .int)=!kys ps ts n:=by
  exact bq D.int _ (ao n) λj g=>#[[sI j,sV _,sV _],qx,qx,?_]
  let m:=c j<|aA.mp g;generalize kyD ps ts n j=V,ps.map D.int=P at *;simp[m,dvD]
 rw[g9,show aK 2 2 [.v _,.v _]=[sV _,sV _]from rfl];rw[fE,cP,a9,dS a<|by lia,Yb,Yl<|by rw[Ya,aG];lia];show bY (((bO _ _ _ [(),sV _,sV _] _).map OD.lst).map _)=_;rw[o];rfl
theorem BH C ks T kvs ts ps n(h:1<=n/\n<=7)(e:ks.length=n)(c:ps.length=n)(f:JOk kvs ts) :
  eP C [.v<|.ins C<|wFs ks T<|.dT kvs,.v<|.lst<|ps.map .int]=oW (.lst<|(rks<|kys ps ts n).map .int) ():=by
 let b:=Gn C ks T kvs ts ps n h e c f;let a:=rA C _ (xQ ps ts n h) (ye ps ts n h) (jt ps ts n) (by have:=ub ps ts n h;lia);delta eP zt;generalize h9 C=K at b ⊢;generalize gj C=g at a ⊢;generalize wFs ks T _=F,kys ps ts n=L at *;generalize (rks L).map D.int=R,ps.map D.int=P at *;simp[b,a,dvD,dvO,OD.d]
def bQ(ks:List Str)(ts:List T4)(r:Qj):D:=.tup [.tup<|(r.map<|kAt ks).map .str,.tup<|(di r).map<|dC ts]
def pB{r:Qj}(f:1<=n)(i:(ks.length:Int)=n)(p:r.Perm (ao n)){E}(j:∀x s,atI (ks.map D.str) x=!.str s->E [sI x,F]=!.str s):bO (setV 0) bf E [(),F] (r.map .int)=!(r.map (kAt ks)).map .str:=by
 rw[YD];exact bq D.int _ r λx h=>#[[sI x,F],qx,qx,?_]
 let#[_,_,g]:=aO f p;let#[b,a]:=g x h;let#[s,c,e]:=gE D.str b (by rwa[i]);have:(D.str ∘ kAt ks) x=.str s:=by show D.str _=_;delta kAt;rw[c];rfl
 rw[this];exact j x s e
def yH{r:Qj}(a:1<=n)(p:r.Perm (ao n)){x}(h:r[i]?=!x):ixD (.lst (r.map .int)) (.int i)=!.int x/\0<=x/\x<n:=by let#[_,_,b]:=aO a p;let c:=(Ym.mp h).1;exact#[?_,b x<|YR h];rw[ix1,lR (Int.natCast_nonneg i)<|by rw[Ya];lia,Zj,Yt,h];rfl
abbrev lrF(KS:List D)(tb:List (List Key×D))(R a:List D)(x x5:Option DV):DF:=[sV<|.lst KS,sV<|.dT tb,sV<|.lst R,oW (.lst a) (),x,x5]
abbrev lrI:DF->Option RES:=du 3<|d2 gn (ac 1)<|asT<|ag (d2 ixD (ac 2)<|ac 4)<|ag (d2 ixD (ac 2)<|ac 5) aE
def Fl{c}{tb}{r:Qj}{x y}(h:1<=n)(p:r.Perm (ao n))(m:tbS ts tb λa b=>(0<=a/\a<n/\0<=b/\b<n)/\a≠b)(hi:r[i]?=!x)(g:r[j]?=!y)(f:i≠j)(A:c.length<1000):lrI (lrF KS tb (r.map .int) c (sI i)<|sI j)=!.nx (lrF KS tb (r.map .int) (c++[dC ts (x,y)]) (sI i)<|sI j):=by
 let#[q,w,u]:=yH h p hi;let#[o,s,b1]:=yH h p g;have l:dq tb [.inl x,.inl y]=!dC ts (x,y):=m x y #[#[w,u,s,b1],Hi (aO h p).2.1 hi g f];have e:c.length<16777216:=by lia
 generalize dC ts (x,y)=V,r.map D.int=R,i=ii,j=z at *;simp[lrI,q,o,gn,k7,gW,ja,l,e]
def DW{c}{tb}{r:Qj}{x}(q:1<=n/\n<=7)(p:r.Perm (ao n))(C:tbS ts tb λa b=>(0<=a/\a<n/\0<=b/\b<n)/\a≠b)(hi:r[i]?=!x)(B:c.length<=500):∃f,eV (setV 5) lrI (cS (i+1) (n-(i+1)).toNat) (lrF KS tb (r.map .int) c (sI i) x5)=!.nx (lrF KS tb (r.map .int) (c++(r.drop<|i+1).map λy=>dC ts (x,y)) (sI i) f):=by
 have g:=(aO q.1 p).1;have o:=Int.ofNat_le.mp<|XC (Int.le_of_eq g) q.2;have h:(cS (i+1) (n-(i+1)).toNat).length=(r.drop<|i+1).length:=by delta cS;rw[Ya,Zs,XJ,<-g];exact Int.toNat_sub r.length<|i+1
 let#[z,e,f,rfl]:=dW (st:=setV 5) (λm A=>∃f,A=lrF KS tb _ (c++((r.drop<|i+1).take m).map λy=>dC ts (x,y)) (sI i) f) _ 0
  (lrF KS tb _ c (sI i) x5) #[_,by rw[List.take_zero,List.map_nil,Zc]] (by
   rintro m d _ w ⟨f,rfl⟩;rw[Zk];have s:m<(r.drop<|i+1).length:=by have:=(Ym.mp w).1;rwa [h]at this
   let#[_,rfl]:=qr w;have l:=Yi s;generalize (r.drop<|i+1)[m]=y at l;have j:r[i+1+m]?=!y:=by rwa[<-List.getElem?_drop]
   have E:i+1+m=((i+1+m:Nat):Int):=rfl;rw[E];have u:(c++((r.drop<|i+1).take m).map λy=>dC ts (x,y)).length<1000:=by rw[Yo,Ya,ZT];rw[XJ]at s;exact ZI (Nat.add_le_add B<|YA (XT _ _)<|YA (ZG s)<|YA (Nat.sub_le _ _) o)<|by decide
   exact#[_,qx,_,Fl q.1 p C hi j (by lia) u,sI<|(i+1+m),?_];rw[qI l,YW,Zh];rfl)
 rw[Zk,h,ZW]at e;exact#[f,e]
def Gg C ks tb ts r n(A:1<=n/\n<=7)(L:ks.length=n)(p:r.Perm (ao n))(M:tbS ts tb λa b=>(0<=a/\a<n/\0<=b/\b<n)/\a≠b) :
  fZ C [.v<|.lst<|ks.map .str,.v<|.dT tb,.v<|.lst<|r.map .int]=sV (bQ ks ts r):=by
 have j:=(aO A.1 p).1;let T:=qJ r;have o:r.length<=7:=by lia
 have N:=Ui o o;let#[z,e,g,q,i,rfl,f]:=dW (st:=setV 4) (λm I=>∃g q i,I=lrF _ tb _ g q i/\g++(di<|r.drop m).map _=(di r).map _) _ 0
  (lrF _ tb _ [] () ()) #[[],_,_,qx,qx] (by
   rintro m d _ H ⟨g,q,i,rfl,f⟩;rw[Zk]at f ⊢;have S:m<n.toNat:=by have:=(Ym.mp H).1;rwa [Ya,aG]at this
   rw[lw H];have w:r[m]?=!(r[m]'(by lia)):=Yi _;generalize r[m]'(by lia)=x at w;have B:g.length<=500:=by have:=YU List.length f;rw[Yo,Ya,Ya]at this;lia
   let#[Q,e]:=DW A p M w B;have u:wI (d2 aU (ac 4)<|cI 1) (d1 bU<|ap 2) (lrF (ks.map .str) tb (r.map .int) g (sI m) i)=!cS (m+1) (n-(m+1)).toNat:=by
    have P:d2 aU (ac 4) (cI 1) (lrF (ks.map .str) tb (r.map .int) g (sI m) i)=!.int _:=rfl;have O:d1 bU (ap 2) (lrF (ks.map .str) tb (r.map .int) g (sI m) i)=!.int n:=by show some _=_;rw[Ya,j]
    delta wI;rw[P,O];simp only;rw[Yl #[by lia,by lia,by lia,by lia]]
   exact#[_,qx,_,cL u e,_,_,_,qx,?_];rw[<-f,yR w,Zh];exact YU _ ?_;show _=((r.drop<|m+1).map _++di _).map (dC ts);rw[YW,YD];rfl)
 rw[Zk,Ya,aG,ZX<|by lia]at f;have f:g=(di r).map (dC ts):=by simpa[di]using f
 subst f;delta fZ sH;rw[pj];have J:bC 3 (asL aE) (aK 6 3 [.v _,.v _,.v _])=!.nx (lrF (ks.map .str) tb (r.map .int) [] () ()):=rfl;have u:cZ (d1 bU<|ap 2) (lrF (ks.map .str) tb _ [] () ())=!(ao n).map .int:=dS (by
  show some (D.int<|((r.map D.int).length))=_;rw[Ya,j]) #[by lia,by lia]
 rw[ak J,ak<|cL u e];let c:=pB (E:=d2 ixD (ac 1)<|ac 0) (F:=sV<|.lst<|ks.map .str) A.1 L p λx s h=>by
  generalize ks.map D.str=KS at *;simp[ix1,h]
 have K:(r.map D.int).length<=16777216:=by rw[Ya];lia
 delta bQ;generalize (d2 ixD (ac 1)<|ac 0)=E,(r.map<|kAt ks).map D.str=X,(di r).map (dC ts)=Y,r.map D.int=R,ks.map D.str=KS at *;simp[a9,K,c,ki]
abbrev roE(C:Addr)(B:Dm):DF->Option D:=(bF C "between" B<|ck (cG 1)<|aV (getV 2)<|aV (getV 0) nA)
abbrev roB(C:Addr)(B:Dm):DF->Option RES:=(Am 2<|aI 1 [0,4] (cQ<|asO<|asL<|slL (ac 1) (bI<|d2 aU (ac 3)<|cI 1) bNo) (setV 0) bf<|roE C B)
theorem rX C ks T kvs ts r n(J:1<=n/\n<=7)(S:(ks.length:Int)=n)(p:r.Perm (ao n))(hJ:JOk kvs ts) :
  dG C [.v<|.ins C<|wFs ks T<|.dT kvs,.v<|.lst<|r.map .int]=sV (bQ ks ts r):=by
 let L:=λi j=>o5 C ks T kvs ts i j hJ
 let hS:=λN=>uo (C:=C) (oU ks T<|.dT kvs) N
 let H:=l_ C ks T<|.dT kvs;let Q:=(aO J.1 p).1;let hR:=qJ r;have g:r.length<=7:=by lia
 let hRR:=Ui g g;delta dG wf;generalize cF C=I at L ⊢;generalize wFs ks T _=F at *;have o:(eB<|r.map D.int).length=r.length:=by delta eB;rw[Ya,List.length_zipIdx,Ya]
 let#[z,e,b,w,u,rfl,a]:=dW (st:=gT [3,4]) (body:=roB C I) (λm M=>∃b w u,M=[sV _,sV _,oW (.lst b) (),w,u]/\b++(di<|r.drop m).map _=(di r).map _) _ 0
  [sV _,sV _,oW _ (),(),()] #[[],_,_,qx,qx] (by
   rintro m d _ K ⟨b,w,u,rfl,a⟩;rw[Zk]at a ⊢;have hm:m<r.length:=by have:=(Ym.mp K).1;rwa [o]at this
   let#[d0,q,rfl]:=jK K;rw[Yt]at q;cases A:r[m]? with
   |none=>rw[A]at q;cases q
   |some x=>
   rw[A]at q;cases q;have hal:b.length<=500:=by have:=YU List.length a;rw[Yo,Ya,Ya]at this;lia
   have c1:bO (setV 0) bf (roE C I) [(),sV<|.ins C F,sI x] ((r.drop<|m+1).map .int)=!((r.drop<|m+1).map λy=>dC ts (x,y)):=by
    exact bq D.int _ _ λy t=>#[[sI y,sV _,sI x],qx,qx,?_]
    let h1:=L x y;let h2:=hS [.v<|.int x,.v<|.int y];show _=!srP _;simp[bF,ck,cG,h2,h1]
   have B:cQ (asO<|asL<|slL (ac 1) (bI<|d2 aU (ac 3)<|cI 1) bNo) [sV<|.ins C F,sV<|.lst<|r.map .int,oW (.lst b) (),sI m,sI x]=!(r.drop<|m+1).map .int:=by
    have U:gU (r.map D.int) (some<|m+1) ()=(r.drop<|m+1).map D.int:=by
     rw[oY,Bc _<|by lia]
     congr 2
    have Z:bI (d2 aU (ac 3)<|cI 1) [sV<|.ins C F,sV<|.lst<|r.map .int,oW (.lst b) (),sI m,sI x]=!_:=rfl;show(match(Option.map OD.d<|Option.map OD.lst<|some<|gU _ _ ())with|some (.lst ds)=>!ds|_=>())=_;rw[U];rfl
   have f:aI 1 [0,4] (cQ<|asO<|asL<|slL (ac 1) (bI<|d2 aU (ac 3)<|cI 1) bNo) (setV 0) bf (roE C I) [sV<|.ins C F,sV<|.lst<|r.map .int,oW (.lst b) (),sI m,sI x]=!((r.drop<|m+1).map λy=>dC ts (x,y)):=by rw[a9,B,Yb,Yl<|by rw[Ya,XJ];lia];exact c1
   exact#[_,qx,_,GI qx f<|by rw[Ya,XJ];lia,_,_,_,qx,?_];rw[<-a,yR A,Zh];exact YU (λl=>b++l) ?_;show _=((r.drop<|m+1).map (λy=>(x,y))++di (r.drop<|m+1)).map (dC ts);rw[YW,YD];rfl)
 rw[Zk,o,List.drop_length]at a;have a:b=(di r).map (dC ts):=by simpa[di]using a
 subst a;rw[g9];have O:bC 2 (asL aE) (aK 5 2 [.v<|.ins C F,.v<|.lst<|r.map .int])=!.nx [sV<|.ins C F,sV<|.lst<|r.map .int,oW (.lst []) (),(),()]:=rfl;rw[ak O,ak<|cL (ds:=eB<|r.map D.int) qx e];let c:=pB (E:=d2 ixD (d1 (jU C "kinds")<|ac 1)<|ac 0) (F:=sV<|.ins C F) J.1 S p λx s h=>by
  simp[H,ix1,h]
 have P:(r.map D.int).length<=16777216:=by rw[Ya];lia
 delta bQ;generalize (d2 ixD (d1 (jU C "kinds")<|ac 1)<|ac 0)=E,(r.map<|kAt ks).map D.str=X,(di r).map (dC ts)=Y,r.map D.int=R at *;simp[a9,P,c,ki]
def EM{a b}(h:srP a=srP b):a.Perm b:=by let e:=D.tup.inj h;have c:(a.map dP).Perm (b.map dP):=(be _).symm.trans<|e ▸ be _;have:=c.map unP;rwa[YD,YD,show unP ∘ dP=id from rfl,XH,XH]at this
def vB{E:Type}(f:Int×Int->E):∀g c:Qj,g.length=c.length->((di g).map f=(di c).map f↔∀(i j:Nat) x1 s x q,i<j->g[i]?=!x1->g[j]?=!s->c[i]?=!x->c[j]?=!q->f (x1,s)=f (x,q))
 |[],[],_=>#[λ_ i j x1 s x q _ h=>by simp at h,λ_=>rfl]
 |x1::xs1,x::xs2,hl=>by
  have b:=Ue hl;let ih:=vB f xs1 xs2 b;show(xs1.map _++di xs1).map f=(xs2.map _++di xs2).map f↔_;rw[YW,YW];constructor
  .intro h i j B b1 A b2 w p a o e;let#[H,z]:=List.append_inj h (by rw[Ya,Ya,Ya,Ya,b]);cases j with
   |zero=>lia
   |succ j=>
    cases i with
    |zero=>
     obtain rfl:=YG p;obtain rfl:=YG o;have a:xs1[j]?=!b1:=a;have e:xs2[j]?=!b2:=e;have:=YU (λl=>l[j]?) H;simp only[Yt,a,e,Zy]at this;exact YG this
    |succ i=>exact ih.mp z i j B b1 A b2 (by lia) p a o e
  .intro h;let z:=ih.mpr λi j B b1 A b2 w p a o e=>h (i+1) (j+1) B b1 A b2 (by lia) p a o e
   rw[z]
   congr 1
   rw[YD,YD];apply Xn;intro m;rw[Yt,Yt];cases u:xs1[m]? with
   |none=>
    have:xs2[m]?=():=by rw[Xv]at u ⊢;lia
    rw[this];rfl
   |some b1=>
    have:m<xs2.length:=by have:=(Ym.mp u).1;lia
    have C:=Yi this;rw[C];exact YU some<|h 0 (m+1) x1 b1 x _ (by lia) qx u qx C
def iw ps:∃us:List (Int×Int),srP ps=.tup (us.map dP):=by let#[us,e,u]:=fY dP unP (λz=>rfl)<|be<|ps.map dP;exact#[us,YU D.tup e]
theorem zo m(h:∀k∈ks,okW k):(ks.map D.str).all (okN m):=by
 rw[Yh];intro x a;let#[k,b,rfl]:=Yg.mp a;have:okN m (.str k)=PyData.strOk k:=by cases m<;>rfl
 rw[this];delta PyData.strOk;rw[<-Array.all_toList,Yh];intro c e;have:=(h k b).2.2 c e;exact YI<|by lia
def kP(b:1<=n)(c:okK n ks)(p:r.Perm (ao n)):okN 30 (bQ ks ts r):=by
 show(okN 29 (.tup _)&&(okN 29 _&&true));have f:okN 29 (.tup _):=zo 28 (JB b c p).2;have e:okN 29 (.tup<|(di r).map<|dC ts):=by show((di r).map _).all _;rw[Yh];intro x a;let#[q,_,rfl]:=Yg.mp a;let#[u,g]:=iw<|a7 q.1 q.2 ts;show okN 28 (srP _);rw[g];show(u.map dP).all _;rw[Yh];intro y h;let#[z,_,rfl]:=Yg.mp h;rfl
 rw[f,e];rfl
def x_ ts p q:aH (dC ts p) (dC ts q):=by let#[u,b]:=iw<|a7 p.1 p.2 ts;let#[a,e]:=iw<|a7 q.1 q.2 ts;show aH (srP _) (srP _);rw[b,e];exact eZ dP (λz z=>rfl) u a
def pZ ks ts b a:aH (bQ ks ts b) (bQ ks ts a):=by show(bh ((b.map<|kAt ks).map D.str) _&&(bh _ _&&true));rw[eZ D.str λz z=>rfl,eZ _<|x_ ts];rfl
def E9:∀a b:List Str,a.map D.str=b.map D.str->a=b:=λa b h=>by
 have:∀a:List Str,(a.map D.str).map (λd=>match d with|.str x=>x|_=>#[#[[]]])=a:=λa=>by rw[YD];exact List.map_id' a
 rw[<-this a,<-this b,h]
theorem cM{e:Type}:∀(l m:List e),l.Nodup->(∀x∈l,x∈m)->l.length<=m.length
 |[],_,_,_=>YN _
 |x::l,m,nd,h=>by
  let#[n1,n2]:=YX.mp nd;let#[a,b,rfl]:=List.append_of_mem<|h x Ye;have:=cM l (a++b) n2 λy c=>by
   rcases YO.mp (h y<|Yd _ c)with z|z
   .exact YH _ z
   .rcases Ys.mp z with z|z
    .exact absurd (z ▸ c) n1
    .exact YC _ z
  simp at this ⊢;lia
theorem wW{e}:∀{L}{k},Cmps n (e::L)->i7 e L=!k->L[k]?=!e
 |[],k,_,h=>by cases h
 |x::r,k,hc,h=>by
  delta i7 at h;have a:e∈e::x::r:=Ye;have c:x∈e::x::r:=Yd _ Ye;by_cases q:eqd x e
  .rw[Yl q]at h;cases h;rw[(c6 _ _<|hc.2 x c e a).mp q];rfl
  .rw[Yn q]at h;cases z:i7 e r with
   |none=>rw[z]at h;cases h
   |some j=>
    rw[z]at h;cases h;rw[List.getElem?_cons_succ];exact wW (hc.sub λy b=>by
     rcases Ys.mp b with w|w
     .rwa[w]
     .exact Yd _<|Yd _ w) z
def qo(h:Cmps n ds)(hd:d∈ds):(aZ (bG ds))[rkD (bG ds) d]?=!d:=by
 let p:=be<|bG ds;exact wW (h.sub λy a=>?_)<|yA h hd;rcases Ys.mp a with w|w
 .rwa[w]
 .exact b_.mp<|p.mem_iff.mp w
def B3{c:Type}{L:List c}(e:L.Nodup){x}(h1:L[i]?=!x)(h2:L[j]?=!x):i=j:=by let#[a,g]:=Ym.mp h1;let#[b,f]:=Ym.mp h2;exact(List.getElem_inj e).mp<|g.trans f.symm
def Can(ps:Qj):Prop:=(∀x∈ps,0<=x/\x<ps.length)/\∀x∈ps,∀r,0<=r->r<x->r∈ps
theorem Gi(b:Cmps n ds):Can (rks ds):=by
 let p:=be<|bG ds;let g:=p.nodup_iff.mpr<|iT ds;have f:(aZ<|bG ds).length<=ds.length:=by rw[p.length_eq];exact jr ds
 exact#[λx h=>?_,λx h r m l=>?_]
 .let#[d,a,rfl]:=Yg.mp h;let j:=(Ym.mp<|qo b a).1;rw[k6];lia
 .let#[d,a,rfl]:=Yg.mp h;let j:=(Ym.mp<|qo b a).1;have c:r.toNat<(aZ<|bG ds).length:=by lia
  let i:=Yi c;let e:=b_.mp<|p.mem_iff.mp<|Xf c;let o:=B3 g i<|qo b e;exact Yg.mpr #[_,e,?_];lia
def fin(ps:Qj)(ts:List T4)(n:Int):Qj:=rks<|kys ps ts n
def iz{ps}(h:1<=n):((fin ps ts n).length)=n:=by delta fin kys;rw[k6,Ya,aG];lia
def lh ps ts n:Can (fin ps ts n):=Gi<|jt ps ts n
theorem Hw{ps}{n i j}(h:ox ps j<ox ps i):ltD (kyD ps ts n j) (kyD ps ts n i):=by
 have e:eqd (.int<|ox ps j) (.int<|ox ps i)=false:=by rw[jD,YB<|by lia]
 show(if eqd _ _ then _ else ltD _ _);rw[e,Yn Yk];exact YI h
theorem HN{ps}{n i}(b:ps.length=n)(h:0<=i/\i<n):ox ps i∈ps:=by
 delta ox;have a:i.toNat<ps.length:=by lia
 rw[Yi];exact Xf a
def Ig{ps}(b:ps.length=n)(h:r∈ps):∃j,(0<=j/\j<n)/\ox ps j=r:=by let#[k,a,e]:=Zw h;exact#[k,by lia,?_];delta ox;rw[Zj,Yi a,e];rfl
def pd{i}h:ox (rks ds) i=(rkD (bG ds) ds[i.toNat]):=by delta ox rks;rw[Yt,Yi];rfl
theorem oR{ps}{n i}(h:0<=i/\i<n):∃a:i.toNat<(kys ps ts n).length,(kys ps ts n)[i.toNat]=kyD ps ts n i:=by
 have a:i.toNat<(kys ps ts n).length:=by delta kys;rw[Ya,aG];lia
 exact#[a,?_];delta kys ao;simp;have:max i 0=i:=by lia
 rw[this]
theorem IM{ps}{n i}(s:ps.length=n)(w:Can ps)(h:0<=i/\i<n):ox ps i<=ox (fin ps ts n) i:=by
 let#[z,C]:=oR (ps:=ps) (ts:=ts) h;delta fin;rw[pd z,C];let p:=HN s h;have u:∀r:Nat,r<ox ps i->∃j,(0<=j/\j<n)/\ox ps j=r:=λr g=>Ig s<|w.2 _ p _ (by lia) g
 have l:∃f:Nat->Int,∀r:Nat,r<ox ps i->(0<=f r/\f r<n)/\ox ps (f r)=r:=by
  exact#[λr=>if q:r<ox ps i then Classical.choose (u r q)else 0,λr g=>?_];simp[dif_pos g];exact Classical.choose_spec<|u r g
 let#[f,l]:=l;have m:((List.range (ox ps i).toNat).map λr=>kyD ps ts n<|f r).length<=((bG<|kys ps ts n).filter λx=>ltD x<|kyD ps ts n i).length:=by
  exact cM _ _ ?_ λd A=>?_
  .exact List.Pairwise.map _ (λr o c e=>?_)<|(List.nodup_range).imp_of_mem (S:=λa b:Nat=>a≠b/\a<(ox ps i).toNat/\b<(ox ps i).toNat) λy m c=>#[c,Zf.mp y,Zf.mp m];let L:=(l r<|by lia).2;let K:=(l o<|by lia).2;have J:ox ps (f r)=ox ps (f o):=by have:=YU (λd=>match d with|.tup (.int a::_)=>a|_=>0) e;exact this
   lia
  .let#[r,g,rfl]:=Yg.mp A;let g:=Zf.mp g;let#[B,I]:=l r (by lia);exact YL.mpr #[b_.mpr<|Yg.mpr #[f r,aA.mpr B,qx],Hw<|by lia]
 rw[Ya,Zs]at m;delta rkD;lia
def sm(ps:Qj):Int:=ps.foldr (· + ·) 0
theorem Hv:∀a b,a.length=b.length->(∀(k:Nat) x y,a[k]?=!x->b[k]?=!y->x<=y)->sm a<=sm b/\(sm a=sm b->a=b)
 |[],[],_,_=>#[Int.le_refl _,λz=>rfl]
 |x::a,y::b,hl,h=>by
  let#[i,g]:=Hv a b (Ue hl) λk u v f c=>h (k+1) u v f c
  let j:=h 0 x y qx qx;have f:sm (x::a)=x+sm a:=rfl;have c:sm (y::b)=y+sm b:=rfl;exact#[by lia,λe=>?_];rw[g<|by lia,show x=y by lia]
theorem Dp:∀a m,(∀x∈a,x<=m)->sm a<=a.length*m
 |[],m,_=>by simp[sm]
 |x::a,m,h=>by
  let f:=Dp a m λy b=>h y<|Yd _ b
  let c:=h x Ye;have e:sm (x::a)=x+sm a:=rfl;rw[e,Yv,Int.natCast_add,Int.add_mul];lia
theorem Hl:∀a,(∀x∈a,0<=x)->0<=sm a
 |[],_=>Int.le_refl _
 |x::a,h=>by
  let e:=Hl a λy b=>h y<|Yd _ b
  let c:=h x Ye;have f:sm (x::a)=x+sm a:=rfl;lia
def D3{ps}(b:1<=n/\n<=7)(c:(ps.length:Int)=n)(a:Can ps):0<=sm ps/\sm ps<=42:=by
 exact#[Hl ps λx h=>(a.1 x h).1,?_];let e:=Dp ps (n-1) λx h=>by have:=(a.1 x h).2;lia
 rw[c]at e;have:n*(n-1)<=7*6:=Int.mul_le_mul b.2 (by lia) (by lia) (by lia);lia
def IW{ps}(h:1<=n)(a:ps.length=n)(b:Can ps):sm ps<=sm (fin ps ts n)/\(sm ps=sm (fin ps ts n)->ps=fin ps ts n):=by let g:=iz (ps:=ps) (ts:=ts) h;exact Hv _ _ (by lia) λk x y e c=>?_;let f:=(Ym.mp e).1;have:=IM (ts:=ts) a b (i:=k) (by lia);delta ox at this;rwa[Zj,e,c]at this
end My
set_option maxHeartbeats 800000
namespace My
open PySem PySem.Spec PyProof.Rows L2
abbrev dL(ps:Qj):D:=.lst<|ps.map .int
def Hz a b:eqd (dL a) (dL b)=decide (a=b):=by
 by_cases h:a=b
 .rw[h,YI qx];exact wq D.int (λz z=>rfl) b
 .rw[YB h];cases q:eqd (dL a) (dL b)with
  |false=>rfl
  |true=>exact absurd (vN<|(kC _ _<|wF a b).mp q) h
def wk a b:neD (dL a) (dL b)=!.bl ((not<|decide (a=b))):=by rw[tf (yE a)<|yE b,Hz]
def BS a b:eqD (dL a) (dL b)=!.bl (decide (a=b)):=by rw[xD (yE a)<|yE b,Hz]
def rl(ts:List T4)(n:Int):Nat->Qj->List Qj
 |0,q=>[q]
 |k+1,q=>if fin q ts n=q then[q]else q::rl ts n k (fin q ts n)
def stl(ts:List T4)(n:Int):Nat->Qj->Qj
 |0,q=>q
 |k+1,q=>if fin q ts n=q then q else stl ts n k<|fin q ts n
def j8(ts:List T4)(n:Int):Nat->Qj->Prop
 |0,_=>False
 |k+1,q=>fin q ts n=q\/j8 ts n k (fin q ts n)
theorem zG ts n:∀k q,∃p,rl ts n k q=p++[stl ts n k q]
 |0,q=>#[[],qx]
 |k+1,q=>by
  delta rl stl;by_cases h:fin q ts n=q
  .rw[Yl h,Yl h];exact#[[],qx]
  .rw[Yn h,Yn h];let#[p,e]:=zG ts n k<|fin q ts n;exact#[q::p,by rw[e];rfl]
theorem uI ts n:∀k q,j8 ts n k q->fin (stl ts n k q) ts n=stl ts n k q
 |0,q,h=>h.elim
 |k+1,q,h=>by
  delta stl;by_cases z:fin q ts n=q
  .rwa[Yl z]
  .rw[Yn z];exact uI ts n k _<|h.resolve_left z
theorem uK ts n(a:1<=n):∀k q,q.length=n->((stl ts n k q).length)=n
 |0,q,h=>h
 |k+1,q,h=>by
  delta stl;by_cases z:fin q ts n=q
  .rwa[Yl z]
  .rw[Yn z];exact uK ts n a k _<|iz a
theorem vZ ts n(a:1<=n/\n<=7):∀(k:Nat) q,q.length=n->Can q->43-sm q<=k->j8 ts n k q
 |0,q,hl,hc,h=>by have:=(D3 a hl hc).2;lia
 |k+1,q,hl,hc,h=>by
  by_cases z:fin q ts n=q
  .exact .inl z
  .let#[c,b]:=IW (ts:=ts) a.1 hl hc;exact .inr<|vZ ts n a k _ (iz a.1) (lh q ts n) ?_;have:sm q≠sm _:=λe=>z (b e).symm
   lia
theorem oS ts n(h:1<=n/\n<=7)q:j8 ts n 100 q:=
 .inr<|vZ ts n h 99 _ (iz h.1) (lh q ts n) (by have:=(D3 h (iz h.1)<|lh q ts n).1;lia)
abbrev roF(w:D)(x1:Option DV)(R:List D)(f:D):DF:=[sV w,x1,oW (.lst R) (),sV f]
def lr{m}{w}{x1}{n}(o:1<=n)(u:∀ps:Qj,(ps.length:Int)=n->m [.v w,.v (dL ps)]=oW (.lst ((fin ps ts n).map .int)) ()):∀k p q,q.length=n->j8 ts n k q->p.length+k<=1000->∃f,dF (asB<|d2 neD (ap 3)<|d2 ixD (ac 2)<|d1 xi<|cI 1) (am (du 2<|getV 3)
 <|aC 3<|aj m<|aB 0<|aB 3 nA) k (roF w x1 ((p++[q]).map dL)<|dL<|fin q ts n)=!.nx (roF w x1 ((p++rl ts n k q).map dL) f)
 |0,p,q,_,h,_=>h.elim
 |k+1,p,q,hl,h,hz=>by
  have i:atI ((p++[q]).map dL) (-1)=!dL q:=by rw[YW];exact pQ _ _
  have j:xi (.int 1)=!.int (-1):=rfl;let g:=wk (fin q ts n) q;have x:∀R f,ap 3 (roF w x1 R f)=!f:=λ_ _=>rfl
  delta dF;have y:(asB<|d2 neD (ap 3)<|d2 ixD (ac 2)<|d1 xi<|cI 1) (roF w x1 ((p++[q]).map dL)<|dL<|fin q ts n)=!((not<|decide<|fin q ts n=q)):=by
   generalize dL _=a at g ⊢;generalize dL q=b at g i
   generalize (p++[q]).map dL=R at i ⊢;simp[ix1,j,i,g]
  rw[y];by_cases z:fin q ts n=q
  .exact#[dL<|fin q ts n,?_];rw[YI z];delta rl;rw[Yl z];rfl
  .rw[YB z];have l:((fin q ts n).length)=n:=iz o;let s:=u _ l;let#[f,e]:=lr (x1:=x1) o u k (p++[q]) _ l (h.resolve_left z) (by rw[Yo,YM];lia);exact#[f,?_];have A:(am (du 2<|getV 3)
 <|aC 3<|aj m<|aB 0<|aB 3 nA) (roF w x1 ((p++[q]).map dL)<|dL<|fin q ts n)=!.nx (roF w x1 ((p++[q]++[fin q ts n]).map dL)<|dL<|fin (fin q ts n) ts n):=by
    have c:((p++[q]).map dL).length<16777216:=by rw[Ya,Yo,YM];lia
    rw[YW (l₁:=p++[q])];show _=!RES.nx (roF w x1 ((p++[q]).map dL++[dL _]) _);generalize (p++[q]).map dL=R at c ⊢;have B:dL _=.lst ((fin (fin q ts n) ts n).map .int):=rfl;rw[B];generalize (fin _ ts n).map D.int=Y,dL _=a at s ⊢;simp[c,s]
   simp only[Bool.not_false,A];delta rl;rwa[Yn z,show p++q::rl ts n k _=p++[q]++rl ts n k (fin q ts n)by simp]
def AS{w}(b:1<=n/\n<=7)(h:∀ps:Qj,(ps.length:Int)=n->eP C [.v w,.v (dL ps)]=oW (.lst ((fin ps ts n).map .int)) ())ps(c:ps.length=n) :
  fy C [.v w,.v<|dL ps]=oW (.lst<|(rl ts n 100 ps).map dL) ():=by
 delta fy m_;generalize eP C=i at h ⊢;let#[f,e]:=lr b.1 h 100 [] ps c (oS ts n b ps) (by simp);rw[Ua,Ua,List.map_singleton]at e;let g:=h ps c;rw[g9,show aK 4 2 [.v w,.v _]=[sV w,sV _,(),()]from rfl,
  ak (ρ':=[sV w,sV<|dL ps,oW (.lst [dL ps]) (),()])<|by simp,
  ak (ρ':=roF w (sV<|dL ps) [dL ps]<|dL<|fin ps ts n) (by
   generalize fin ps ts n=q,dL ps=a at g ⊢;simp[g]),ak e]
 rfl
def kg{w}(f:1<=n/\n<=7)(i:∀ps:Qj,(ps.length:Int)=n->eP C [.v w,.v (dL ps)]=oW (.lst ((fin ps ts n).map .int)) ())ps(g:ps.length=n) :
  cX C [.v w,.v<|dL ps]=sV (dL<|stl ts n 100 ps):=by
 let c:=AS f i ps g;let#[p,e]:=zG ts n 100 ps;have b:atI ((rl ts n 100 ps).map dL) (-1)=!dL (stl ts n 100 ps):=by rw[e,YW];exact pQ _ _
 have h:xi (.int 1)=!.int (-1):=rfl;delta cX rO;generalize fy C=j at c ⊢;generalize (rl ts n 100 ps).map dL=R,dL _=z,dL ps=a at *;simp[c,h,ix1,b]
def LX(h:okW x):okN 28 (.str x):=by show PyData.strOk x;delta PyData.strOk;rw[<-Array.all_toList,Yh];intro c a;have:=h.2.2 c a;simp;lia
def Cj(h:okK n ks):Cmps 28 (ks.map D.str):=#[λd f=>by let#[x,c,rfl]:=Yg.mp f;exact LX<|h.2 x c,λx c y e=>by let#[a,_,rfl]:=Yg.mp c;let#[b,_,rfl]:=Yg.mp e;rfl]
theorem Ea(g:n<=7)(h:okK n ks):bL (bG (ks.map D.str)):=by
 let c:=(Cj h).sub λd a=>b_.mp a
 have b:∀d∈bG<|ks.map D.str,∃x,d=.str x:=λd a=>by let#[x,_,rfl]:=Yg.mp<|b_.mp a;exact#[x,qx]
 let f:=jr<|ks.map D.str;rw[Ya]at f;have:=h.1;delta bL;simp only[Yr,YQ];exact#[#[#[#[by lia,Yh.mpr c.1],Yh.mpr λx b=>Yh.mpr λy e=>c.2 x b y e],Yh.mpr λd a=>?_],Yh.mpr λd a=>?_]
 .let#[x,rfl]:=b d a;rfl
 .let#[x,rfl]:=b d a;rfl
theorem Bb(b:n<=7)(h:okK n ks):rh (ks.map D.str):=#[YA (jr _) (by rw[Ya];have:=h.1;lia),.inr λd a=>by let#[x,_,rfl]:=Yg.mp a;rfl]
def fpt(ks:List Str)(ts:List T4)(n:Int):Qj:=stl ts n 100<|rks<|ks.map D.str
def vH{T J}(b:1<=n/\n<=7)(h:okK n ks)(g:∀ps:Qj,ps.length=n->eP C [.v (.ins C (wFs ks T J)),.v (dL ps)]=oW (.lst ((fin ps ts n).map .int)) ()):bD C [.v<|.ins C<|wFs ks T J]=sV (dL<|fpt ks ts n):=by
 let c:=h.1;let f:=rA C _ (Bb b.2 h) (Ea b.2 h) (Cj h) (by rw[Ya];lia);let a:=kg b g (rks<|ks.map D.str) (by rwa[k6,Ya]);let fk:=l_ C ks T J;delta bD iZ fpt;generalize gj C=i at f ⊢;generalize cX C=S at a ⊢;generalize wFs ks T J=F,stl ts n 100 _=z at *;have e:dL _=.lst ((rks<|ks.map D.str).map .int):=rfl;rw[e]at a;generalize (rks _).map D.int=R at *;generalize ks.map D.str=K,dL z=y at *;simp[fk,f,a]
def oB(a:1<=n/\n<=7)(b:okK n ks):((fpt ks ts n).length)=n/\Can (fpt ks ts n):=by let h:=b.1;exact#[uK ts n a.1 100 _<|by rwa[k6,Ya],?_];have:=uI ts n 100 (rks<|ks.map D.str)<|oS ts n a _;delta fpt;rw[<-this];exact lh _ ts n
def jE{c}{e}{α:Type}f q F:∀xs:List α,(∀x∈xs,∃ρ1,st (f x) ρ=!ρ1/\c ρ1=!q x/\(q x->e ρ1=!F x))->bO st c e ρ (xs.map f)=!(xs.filter q).map F
 |[],_=>rfl
 |x::xs,h=>by
  let#[ρ1,j,i,g]:=h x Ye;let ih:=jE f q F xs λy b=>h y<|Yd _ b
  rw[YF];delta bO;rw[j,Yb,i,Yb,ih];cases a:q x with
  |true=>rw[Yl qx,g a,List.filter_cons_of_pos a];rfl
  |false=>rw[Yn Yk,List.filter_cons_of_neg<|by rw[a];exact Yk]
def cnt(p:Qj)(x:Int):Nat:=p.countP λy=>decide<|y=x
def Ho p x:qT (dL p) (.int x)=!.int (cnt p x):=by
 have h:(p.map D.int).all (okN 29):=Yh.mpr λd a=>by let#[x,_,rfl]:=Yg.mp a;rfl
 show(if((p.map D.int).all _&&okN 30 _) then !D.int _ else ())=_;rw[h,Yl<|show(true&&okN 30 _) from rfl,List.countP_map]
 congr 3
def fQ{p}(a:p.length=n):p=(ao n).map (ox p):=by
 apply Xn;intro k;delta ao;rw[YD,Yt];by_cases h:k<p.length
 .rw[Xp<|by lia,Yi h];show _=!ox p _;delta ox;rw[Zj,Yi];rfl
 .rw[Zm<|by lia,Zm<|by rw[Zs];lia];rfl
def rwC(p:Qj)(n r:Int):Qj:=(ao n).filter λk=>decide<|ox p k=r
def yX{p}(h:p.length=n)r:(rwC p n r).length=cnt p r:=by delta cnt rwC;let e:=fQ h;rw[e,List.countP_map,List.countP_eq_length_filter,<-e];rfl
def opn(p:Qj)(n:Int):Qj:=match(ao n).find? (λr=>decide<|1<cnt p r)with
 |some r=>rwC p n r
 |none=>[]
def yF{p}(a:p.length=n):eB (p.map D.int)=(ao n).map λk=>.tup [.int k,.int (ox p k)]:=by
 apply Xn;intro k;delta eB ao;rw[Yt,List.getElem?_zipIdx,Yt,YD,Yt];by_cases h:k<p.length
 .rw[Xp<|by lia,Yi h];show some _=!D.tup [.int _,.int _];delta ox;rw[Zj,Yi,Zk];rfl
 .rw[Zm<|by lia,Zm<|by rw[Zs];lia];rfl
theorem DP{P}{n m}(h:0<=m)(h1:m<n)(a:P m)(b:∀r,0<=r->r<m->P r=false):(ao n).find? P=!m:=by
 delta ao;rw[List.find?_map];have:(List.range n.toNat).find? (P ∘ λi:Nat=>i)=!m.toNat:=by
  rw[List.find?_range_eq_some];exact#[?_,Zf.mpr<|by lia,λj c=>?_]
  .show P (m.toNat);rwa[XI h]
  .show((not<|P _));rw[b j (by lia)<|by lia];rfl
 rw[this];show some (m.toNat:Int)=!m;rw[XI h]
def Li(h:Cmps n ds){x}(hx:x∈ds)(a:y∈ds)(hz:z∈ds)(h1:ltD x y)(h2:ltD y z):ltD x z:=
 (zM n x y z (h.1 x hx) (h.1 y a) (h.1 z hz) (h.2 x hx y a) (h.2 y a z hz)<|h.2 x hx z hz) h1 h2
def Lb(h:Cmps n ds){x}(hx:x∈ds):ltD x x=false:=by
 cases q:ltD x x with
 |false=>rfl
 |true=>exact absurd q<|by rw[(gG n x x (h.1 x hx) (h.1 x hx)<|h.2 x hx x hx).as q];exact Yk
def EG{p}(h:p≠[]):∃m,wB (dL p)=!.int m/\m∈p/\∀a∈p,m<=a:=by
 exact#[nP p,?_,uH p h];have e:(p.map D.int).all isI:=Yh.mpr λd b=>by let#[x,_,rfl]:=Yg.mp b;rfl
 have c:(p.map D.int).isEmpty=false:=by cases p with|nil=>exact absurd qx h|cons _ _=>rfl
 show(if((p.map D.int).all isI&&(not<|(p.map D.int).isEmpty)) then !D.int _ else ())=_;rw[e,c,Yl<|show(true&&(not<|false)) from rfl,YD,show toI ∘ D.int=id from rfl,XH]
def IZ(x:DV)(p:Qj):Prop:=x=.v (dL p)\/x=.bor (.lst<|p.map .int)
def yY C{p}{x}(X:n<=1000)(K:p.length=n)(N:Can p)(hx:IZ x p):(bX C [x]).bind dvD=!dL (opn p n):=by
 have w:∀a b,bu 0 [!x,a,b]=!p.map .int:=λa b=>by rcases hx with rfl|rfl<;>rfl
 have M:∀a b,gz 0 [!x,a,b]=!eB _:=λa b=>by delta gz;rw[w];rfl
 have L:∀a,ap 1 [a,pR<|!x]=!dL p:=λa=>by rcases hx with rfl|rfl<;>rfl
 have Q:bO (setV 0) (asB<|d2 gtI (d2 qT (ap 1)<|ap 0)<|cI 1) (getV 0) [(),pR<|!x] (p.map .int)=!(p.filter λr=>decide<|1<cnt p r).map .int:=by
  exact je _ p (λr _=>?_)<|Nat.zero_lt_succ _;show asB _ [sI r,pR<|!x]=_;have O:d2 qT (ap 1) (ap 0) [sI r,pR<|!x]=!.int (cnt p r):=by rw[r8,L,Yb];exact Ho p r
  rw[BU,r8,O];exact YU some<|decide_eq_decide.mpr<|by lia
 have l:(p.map D.int).length<=16777216:=by rw[Ya];lia
 have B:(aC 1<|asO<|asL<|aI 1 [0] (bu 0) (setV 0) (asB<|d2 gtI (d2 qT (ap 1)<|ap 0)<|cI 1)<|getV 0) [!x,(),()]=!.nx [!x,sV<|dL<|p.filter λr=>decide<|1<cnt p r,()]:=by rw[fi,eR,cP,a9,w,Yb,Yl l];show(((bO _ _ _ [(),pR<|!x] _).map OD.lst).map OD.d).map _=_;rw[Q];rfl
 delta bX kQ;rw[p8,show aK 3 1 [x]=[!x,(),()]from rfl,ak B];by_cases q:(p.filter λr=>decide<|1<cnt p r)=[]
 .rw[q,gN qx];have:opn p n=[]:=by
   delta opn;have:(ao n).find? (λr=>decide<|1<cnt p r)=():=by rw[List.find?_eq_none];intro r _ c;let c:=YE c;have o:=List.countP_pos_iff.mp (by show 0<cnt p r;lia);let#[y,i,e]:=o;let e:=YE e;subst e;have h:y∈p.filter (λr=>decide<|1<cnt p r):=YL.mpr #[i,YI c];rw[q]at h;cases h
   rw[this]
  rw[this];rfl
 .let#[m,J,u,H]:=EG q;generalize A:(p.filter λr=>decide<|1<cnt p r)=S at *;have s:S.map D.int≠[]:=λz=>q<|Vi.mp z
  have j:kM (getV 1) [!x,sV<|dL S,()]=!true:=by
   show some _=_;cases z:S.map D.int with
   |nil=>exact absurd z s
   |cons _ _=>rfl
  rw[ak<|by rw[bJ,t_,j];rfl,
   ak (ρ':=[!x,sV<|dL S,sI m])<|by
    show(d1 wB (ac 1) _).map _=_;rw[DB,show ac 1 [!x,sV<|dL S,()]=!dL S from rfl,Yb,J];rfl]
  rw[<-A]at u;let#[E,f]:=YL.mp u;let f:=YE f;let#[R,Y]:=N.1 _ E;have I:opn p n=rwC p n m:=by
   delta opn;rw[DP R (by lia) (YI f) λr U T=>by
    rw[YB];intro c;have o:=List.countP_pos_iff.mp (by show 0<cnt p r;lia);let#[y,i,e]:=o;let e:=YE e;subst e;have g:y∈S:=by rw[<-A];exact YL.mpr #[i,YI c]
    have:=H y g;lia]
  rw[I];have P:bO (gT [0,1]) (asB<|d2 eqD (ap 1)<|ap 2) (getV 0) [(),(),sI m] ((ao n).map λk=>.tup [.int k,.int<|ox p k])=!(rwC p n m).map .int:=by
   exact jE _ _ D.int (ao n) λk _=>#[[sI k,sI _,sI m],qx,?_,λ_=>rfl]
   simp
  rw[fE,cP,a9,M,Yb,yF K,Yl<|by rw[Ya,aG];lia];show((bY<|((bO _ _ _ [(),(),sI m] _).map OD.lst).map _)).bind dvD=_;rw[P];rfl
def pah(p:Qj)(n k:Int):Qj:=if cnt p (ox p k)=1 then p else(ao n).map λj=>if ox p j<ox p k\/j=k then ox p j else ox p j+1
def kS{p}(a:0<=n)(h:p.length=n):((pah p n k).length)=n:=by
 delta pah;split
 .exact h
 .rw[Ya,aG];lia
def uZ C{p}{x}(A:n<=1000)(g:p.length=n)(m:0<=k/\k<n)(hx:IZ x p):fC C [x,.v (.int k)]=oW (.lst ((pah p n k).map .int)) ():=by
 have i:∀a,ac 0 [!x,sI k,a]=!dL p:=λa=>by rcases hx with rfl|rfl<;>rfl
 have f:∀a,ap 0 [!x,sI k,a]=!dL p:=λa=>by rcases hx with rfl|rfl<;>rfl
 have o:∀a b,gz 0 [!x,a,b]=!eB _:=λa b=>by rcases hx with rfl|rfl<;>rfl
 let l:=Bx g m;let s:=Ho p<|ox p k;delta fC ng pah;rw[g9,show aK 3 2 [x,.v _]=[!x,sI k,()]from rfl,
  ak (ρ':=[!x,sI k,sI _])<|by
   rw[fi,r8,i,Yb];show((!D.int k).bind λy=>ixD (dL p) y).map _=_;rw[Yb,show ixD (dL p) _=!.int _ from l];rfl]
 have e:asB (d2 eqD (d2 qT (ap 0)<|ap 2)<|cI 1) [!x,sI k,sI<|ox p k]=!decide (cnt p (ox p k)=1):=by
  have u:d2 qT (ap 0) (ap 2) [!x,sI k,sI<|ox p k]=!.int (cnt p<|ox p k):=by rwa[r8,f,Yb]
  rw[BU,r8,u,Yb,Yb,zN];exact YU some<|decide_eq_decide.mpr<|by lia
 by_cases q:cnt p (ox p k)=1
 .rw[YI q]at e;rw[Yl q,gN<|by
   rw[bJ,e,Yb,Yl qx,fE,cP,AL,i];rfl]
  rfl
 .rw[YB q]at e;rw[Yn q,ak<|by rw[bJ,e];rfl];have w:bO (gT [0,1]) bf (ifV (orT (asB<|d2 ltd (ap 1)<|ap 2)<|asB<|d2 eqD (ap 0)<|ap 3) (getV 1)<|d2 aU (ac 1)<|cI 1) [(),(),sI<|ox p k,sI k] ((ao n).map λj=>.tup [.int j,.int<|ox p j])=!((ao n).map λj=>if ox p j<ox p k\/j=k then ox p j else ox p j+1).map .int:=by
   rw[YD];exact bq _ _ (ao n) λj _=>#[[sI j,sI _,sI _,sI k],qx,qx,?_]
   show _=!D.int (if ox p j<ox p k\/j=k then ox p j else ox p j+1);by_cases h:ox p j<ox p k
   .rw[Yl<|.inl h];simp[h]
   .by_cases c:j=k
    .rw[Yl<|.inr c];simp[h,c]
    .rw[Yn<|by rintro (z|z);exact h z;exact c z];simp[h,c]
  rw[fE,cP,a9,o,Yb,yF g,Yl<|by rw[Ya,aG];lia];show bY (((bO _ _ _ [(),(),sI _,sI k] _).map OD.lst).map _)=_;rw[w];rfl
def rC{w}{p}{x}(o:1<=n/\n<=7)(a:p.length=n)(g:0<=k/\k<n)(hx:IZ x p)(j:∀ps:Qj,(ps.length:Int)=n->cX C [.v w,.v (dL ps)]=sV (dL (stl ts n 100 ps))):eN C [.v w,x,.v<|.int k]=sV (dL<|stl ts n 100<|pah p n k):=by
 let b:=uZ C (by lia) a g hx;let h:=j (pah p n k)<|kS (by lia) a;have i:∀f:DF->Option _,aB 1 f [sV w,!x,sI k]=(f [sV w,!x,sI k]).map λc=>x::c:=λf=>by rcases hx with rfl|rfl<;>rfl
 delta eN vn;generalize fC C=P at b ⊢;generalize cX C=S at h ⊢;have e:dL _=.lst ((pah p n k).map .int):=rfl;rw[e]at h;generalize dL _=z,(pah p n k).map D.int=y at *;rw[pj,show aK 3 3 [.v w,x,.v _]=[sV w,!x,sI k]from rfl,lD];have m:aj P (aB 1<|aB 2 nA) [sV w,!x,sI k]=!.lst y:=by rw[vj,i];show(![x,.v _]).bind _=_;rw[Yb,b];rfl
 have l:aj S (aB 0<|aV (aj P<|aB 1<|aB 2 nA) nA) [sV w,!x,sI k]=!z:=by rw[vj,KL,LF,m];show(![DV.v w,.v _]).bind _=_;rw[Yb,h];rfl
 rw[l];rfl
def ix(out:Qj)(k:Int):Int:=out.idxOf k
section
variable{n:Int}
def wd(b:1<=n)(p:out.Perm (ao n))(h:0<=k/\k<n):(0<=ix out k/\ix out k<n)/\ox out (ix out k)=k:=by let#[f,g,e]:=aO b p;have c:=p.mem_iff.mpr<|aA.mpr h;have a:=List.idxOf_lt_length_iff.mpr c;exact#[by delta ix;lia,?_];delta ix ox;rw[Zj,Yi a,List.getElem_idxOf];rfl
def sR(c:1<=n)(p:out.Perm (ao n)){k i}(h:0<=k/\k<n)(hi:0<=i/\i<n):ix out k=i↔k=ox out i:=by
 let#[a,b]:=wd c p h;constructor
 .intro e;rw[<-e];exact b.symm
 .intro e;by_cases z:ix out k=i
  .exact z
  .exact absurd (b.trans e)<|yV c p a hi z
def tu(out q:Qj):Qj:=out.map<|ox q
theorem pY{f:Int->Int}{i}(h:0<=i/\i<L.length):ox (L.map f) i=f (ox L i):=by
 delta ox;have a:i.toNat<L.length:=by lia
 rw[Yt,Yi a];rfl
theorem kx(a:1<=n)(p:out.Perm (ao n))q{i}(h:0<=i/\i<n):ox (tu out q) i=ox q (ox out i):=pY (by have:=(aO a p).1;lia)
def iD{f}(h:0<=k/\k<n):ox ((ao n).map f) k=f k:=by
 have a:k<((ao n).length):=by rw[aG];lia
 rw[pY #[h.1,a]]
 congr 1
 delta ox ao;rw[Yt,Xp<|by lia];show(k.toNat)=k;lia
def IG(h:1<=n)(p:out.Perm (ao n)){a b}(i:a.length=n)(g:b.length=n)(e:tu out a=tu out b):a=b:=by rw[fQ i,fQ g];exact YY λk f=>?_;let#[c,x]:=wd h p<|aA.mp f;have:=YU (λl=>ox l<|ix out k) e;simp[kx h p _ c,x]at this;exact this
def yN(a:1<=n)(p:out.Perm (ao n))(h:q.length=n):(tu out q).Perm q:=by have:=p.map<|ox q;rwa[<-fQ h]at this
def Twt(n:Int)(out:Qj)(us ts:List T4):Prop:=∀i j,0<=i/\i<n->0<=j/\j<n->(a7 i j us).Perm (a7 (ox out i) (ox out j) ts)
def Ls(a:1<=n/\n<=7)(p:out.Perm (ao n)){us}(hs:Twt n out us ts)q{i}(hi:0<=i/\i<n):kyD (tu out q) us n i=kyD q ts n (ox out i):=by
 let b:=(aO a.1 p).1;have g:(oth n i).map (prD (tu out q) us i)=((oth n i).map<|ox out).map (prD q ts<|ox out i):=by rw[YD];exact YY λj h=>?_;let#[h,_]:=zg.mp h;show prD _ us i j=prD q ts _ _;delta prD;rw[kx a.1 p q h,i8<|hs i j hi h]
 have f:((oth n i).map<|ox out).Perm (oth n<|ox out i):=by
  have e:(oth n i).map (ox out)=out.filter λx=>(not<|decide (x=ox out i)):=by
   rw[fQ b,List.filter_map,<-fQ b]
   congr 1
   exact List.filter_congr λj h=>?_
   congr 1
   exact decide_eq_decide.mpr #[λz=>by rw[z],λz=>?_];by_cases y:j=i
   .exact y
   .exact absurd z<|yV a.1 p (aA.mp h) hi y
  rw[e];exact p.filter _
 let#[_,c,_,_]:=gw<|sA q ts n (ox out i) a;delta kyD;rw[kx a.1 p q hi,g,iQ (f.map _) c]
def Ef{bs}(h:as.Perm bs):(bG as).Perm (bG bs):=(XZ (iT as)<|iT bs).mpr λx=>by rw[b_,b_,h.mem_iff]
def Cy(h:1<=n)(p:out.Perm (ao n))f:rks (out.map f)=tu out (rks ((ao n).map f)):=by let c:=Ef<|p.map f;let a:=(aO h p).2.2;delta rks tu;rw[YD];exact YY λk b=>?_;show(rkD _<|f k)=ox _ k;rw[YD,iD<|a k b,w9 c];rfl
def IL(h:1<=n/\n<=7)(p:out.Perm (ao n)){us}(hs:Twt n out us ts)q:fin (tu out q) us n=tu out (fin q ts n):=by
 let a:=(aO h.1 p).1;delta fin;have:kys (tu out q) us n=out.map (kyD q ts n):=by delta kys;rw[fQ a,YD,<-fQ a];exact YY λi b=>Ls h p hs q<|aA.mp b
 rw[this,Cy h.1 p];rfl
theorem xp(h:1<=n/\n<=7)(p:out.Perm (ao n)){us}(hs:Twt n out us ts):∀k q,q.length=n->stl us n k (tu out q)=tu out (stl ts n k q)
 |0,q,_=>rfl
 |k+1,q,hq=>by
  delta stl;rw[IL h p hs q];have a:((fin q ts n).length)=n:=iz h.1;by_cases z:fin q ts n=q
  .rw[Yl z,z,Yl qx]
  .rw[Yn z,Yn λy=>z<|IG h.1 p a hq y,xp h p hs k _ a]
theorem DR(a:okK n ks):ks.map D.str=(ao n).map λk=>D.str (kAt ks k):=by
 let b:=a.1;apply Xn;intro k;delta ao;rw[YD,Yt,Yt];by_cases h:k<ks.length
 .rw[Xp<|by lia,Yi];show some _=!D.str _;delta kAt;rw[Zj,Yi h];rfl
 .rw[Zm<|by lia,Zm<|by rw[Zs];lia];rfl
def J1(h:1<=n/\n<=7)(p:out.Perm (ao n)){us}(c:okK n ls)(a:okK n ks)(b:∀i,0<=i/\i<n->kAt ls i=kAt ks (ox out i))(hs:Twt n out us ts):fpt ls us n=tu out (fpt ks ts n):=by
 delta fpt;have:rks (ls.map D.str)=tu out (rks<|ks.map D.str):=by
  rw[DR a,<-Cy h.1 p,DR c]
  rw[fQ (aO h.1 p).1]
  rw[YD]
  congr 1
  exact YY λi e=>by
   show D.str _=D.str _;rw[b i<|aA.mp e]
 rw[this];exact xp h p hs 100 _<|by rw[k6,Ya];exact a.1
def DU(a:1<=n)(p:out.Perm (ao n))(h:q.length=n)r:cnt (tu out q) r=cnt q r:=(yN a p h).countP_eq _
def Jb(h:1<=n)(p:out.Perm (ao n))(b:q.length=n):((opn (tu out q) n).map (ox out)).Perm (opn q n):=by
 let a:=(aO h p).1;delta opn;have e:(λr=>decide<|1<cnt _ r)=λr=>decide _:=funext λr=>by rw[DU h p b]
 rw[e];split
 .rename_i r _;have f:(rwC (tu out q) n r).map (ox out)=out.filter λk=>decide (ox q k=r):=by
   rw[fQ a,List.filter_map,<-fQ a]
   congr 1
   exact List.filter_congr λj c=>?_;rw[kx h p q<|aA.mp c];rfl
  rw[f];exact p.filter _
 .exact Vc _
def II(h:1<=n)(p:out.Perm (ao n))(e:q.length=n)(b:0<=k/\k<n):pah (tu out q) n (ix out k)=tu out (pah q n k):=by
 let#[c,x]:=wd h p b;let g:=(aO h p).1;delta pah;rw[kx h p q c,x,DU h p e];by_cases z:cnt q (ox q k)=1
 .rw[Yl z,Yl z]
 .rw[Yn z,Yn z];have f:=(aO h p).2.2;have l:tu out ((ao n).map λj=>if ox q j<ox q k\/j=k then ox q j else ox q j+1)=out.map λj=>if ox q j<ox q k\/j=k then ox q j else ox q j+1:=by delta tu;exact YY λj a=>iD<|f j a
  rw[l]
  conv=>rhs;rw[fQ g]
  rw[YD];exact YY λj a=>?_;let a:=aA.mp a;show(if ox _ j<ox q k\/j=ix out k then ox _ j else ox _ j+1)=if ox q _<ox q k\/ox out j=k then ox q (ox out j)else ox q _+1;rw[kx h p q a];have i:(j=ix out k)↔(ox out j=k):=#[λy=>by rwa[y],λy=>((sR h p b a).mpr y.symm).symm]
  simp[i]
end
def HH(a:Cmps n ds){d e}(hd:d∈ds)(he:e∈ds)(h:rkD (bG ds) d=rkD (bG ds) e):d=e:=by let b:=qo a hd;let c:=qo a he;rw[h,c]at b;cases b;rfl
theorem HM{n i j}(hi:0<=i/\i<n)(b:0<=j/\j<n)(h:ox q i≠ox q j):ox (fin q ts n) i≠ox (fin q ts n) j:=by let#[f,c]:=oR (ps:=q) (ts:=ts) hi;let#[b1,b2]:=oR (ps:=q) (ts:=ts) b;delta fin;rw[pd f,pd b1,c,b2];intro z;let e:=HH (jt q ts n) (Yg.mpr #[i,aA.mpr hi,qx]) (Yg.mpr #[j,aA.mpr b,qx]) (by lia);have:=YU (λd=>match d with|.tup (.int a::_)=>a|_=>0) e;exact h this
theorem ym{n i j}(hi:0<=i/\i<n)(a:0<=j/\j<n):∀k q,ox q i≠ox q j->ox (stl ts n k q) i≠ox (stl ts n k q) j
 |0,q,h=>h
 |k+1,q,h=>by
  delta stl;by_cases z:fin q ts n=q
  .rwa[Yl z]
  .rw[Yn z];exact ym hi a k _<|HM hi a h
def gY{n k i}(h:¬cnt q (ox q k)=1)(hi:0<=i/\i<n):ox (pah q n k) i=if ox q i<ox q k\/i=k then ox q i else ox q i+1:=by delta pah;rw[Yn h,iD hi]
def Ek{α:Type}{R}(s:∀a b,R a b->R b a):∀{S:List α},S.Pairwise R->∀a∈S,∀b∈S,a≠b->R a b
 |[],_,a,ha,_,_,_=>by cases ha
 |x::S,h,a,ha,b,hb,ne=>by
  let#[c,e]:=Zi.mp h;rcases Ys.mp ha with ea|ha
  .rcases Ys.mp hb with eb|hb
   .exact absurd (ea.trans eb.symm) ne
   .rw[ea];exact c b hb
  .rcases Ys.mp hb with eb|hb
   .rw[eb];exact s _ _<|c a ha
   .exact Ek s e a ha b hb ne
def we(n:Int)(q S:Qj):Prop:=(∀s∈S,0<=s/\s<n)/\S.Pairwise λa b=>ox q a≠ox q b
def vA{S}(h:we n q S):S.Nodup:=h.2.imp λz e=>z<|by rw[e]
theorem yo{n k m}{S}(h:we n q S)(w:0<=k/\k<n)(p:0<=m/\m<n)(u:m≠k)(he:ox q m=ox q k)(l:¬cnt q (ox q k)=1):∃x,we n (stl ts n 100 (pah q n k)) (x::S):=by
 have f:∀a b,(0<=a/\a<n)->(0<=b/\b<n)->ox q a≠ox q b->ox _ a≠ox _ b:=λa b g o j=>by
  rw[gY l g,gY l o];split<;>split<;>first|lia|(rename_i z y;rcases z with z|z<;>first|lia|(subst z;lia))|(rename_i z y;rcases y with y|y<;>first|lia|(subst y;lia))
 have i:∀a,(0<=a/\a<n)->a≠k->ox q a=ox q k->ox _ a≠ox _ k:=λa g A e=>by
  rw[gY l g,gY l w,Yn<|by rintro (z|z);lia;exact A z,Yl<|.inr qx];lia
 have key:∀x,(0<=x/\x<n)->(∀s∈S,ox _ x≠ox _ s)->we n (stl ts n 100<|pah q n k) (x::S):=λx B c=>by
  exact#[λs z=>?_,Zi.mpr #[λs z=>ym B (h.1 s z) 100 _<|c s z,?_]]
  .rcases Ys.mp z with z|z
   .rwa[z]
   .exact h.1 s z
  .exact h.2.imp_of_mem λ{a b} g o j=>ym (h.1 a g) (h.1 b o) 100 _<|f a b (h.1 a g) (h.1 b o) j
 by_cases C:k∈S
 .exact#[m,key m p λs c=>?_];by_cases z:s=k
  .rw[z];exact i m p u he
  .have:ox q s≠ox q k:=Ek (λ_ _ z e=>z e.symm) h.2 s c k C z;exact f m s p (h.1 s c) λe=>this<|by rwa[<-e]
 .exact#[k,key k w λs c=>?_];by_cases z:ox q s=ox q k
  .exact λe=>i s (h.1 s c) (λy=>C<|y ▸ c) z e.symm
  .exact f k s w (h.1 s c) λe=>z e.symm
theorem GP(o:(q.length:Int)=n)(e:Can q)(h:opn q n=[]):q.Perm (ao n):=by
 have c:∀r,0<=r->r<n->cnt q r<=1:=λr l j=>by
  exact Za λz=>?_;delta opn at h;cases y:(ao n).find? (λr=>decide<|1<cnt q r)with
  |none=>exact List.find?_eq_none.mp y r (aA.mpr #[l,j])<|YI<|by lia
  |some g=>
   rw[y]at h;let s:=List.find?_some y;let x:=YE s;have p:(rwC q n g).length=0:=by rw[show rwC q n g=[]from h];rfl
   rw[yX o]at p;lia
 have i:q.Nodup:=by
  rw[List.nodup_iff_count];intro a;by_cases b:a∈q
  .let#[u,A]:=e.1 a b;have:=c a u (by lia);exact YA (Xb ?_) this;exact YU (λf=>List.countP f q) (funext λy=>by
    by_cases z:y=a
    .subst z;simp
    .simp[z])
  .rw[List.count_eq_zero_of_not_mem b];exact YN _
 exact(XZ i<|eX n).mpr λa=>#[λb=>?_,λb=>?_]
 .have:=e.1 a b;exact aA.mpr<|by lia
 .exact Za λz=>?_;have:=cM (a::q) (ao n) (YX.mpr #[z,i]) λy m=>by
   rcases Ys.mp m with w|w
   .rwa[w]
   .have:=e.1 y w;exact aA.mpr<|by lia
  rw[Yv,aG]at this;lia
end My
set_option maxHeartbeats 1000000
namespace My
open PySem PySem.Spec PyProof.Rows L2
structure Twn (n:Int) (g:Qj) (ls:List Str) (us:List T4) (ks:List Str) (ts:List T4):Prop where
 p:g.Perm (ao n)
 k:∀i,0<=i/\i<n->kAt ls i=kAt ks (ox g i)
 t:Twt n g us ts
def In(n i:Int):Prop:=0<=i/\i<n
section
variable{n:Int}{g:Qj}{us:List T4}
def cW(a:1<=n)(p:g.Perm (ao n)){i}(h:In n i):In n (ox g i):=(k_ a p h).2
def h_(a:1<=n)(p:g.Perm (ao n)){i}(h:In n i):In n (ix g i):=(wd a p h).1
def gJ(a:1<=n)(p:g.Perm (ao n)){i}(h:In n i):ox g (ix g i)=i:=(wd a p h).2
def dJ(a:1<=n)(p:g.Perm (ao n)){i}(h:In n i):ix g (ox g i)=i:=(sR a p (cW a p h) h).mpr qx
def E6{L:Qj}(h1:L.Nodup)(h2:∀x∈L,x∈ao n)(a:L.length=n.toNat):L.Perm (ao n):=by
 exact(XZ h1<|eX n).mpr λx=>#[h2 x,λh=>Za λz=>?_]
 have:=cM (x::L) (ao n) (YX.mpr #[z,h1]) λy hy=>by
  rcases Ys.mp hy with rfl|hy
  .exact h
  .exact h2 y hy
 rw[Yv,aG]at this;lia
def kF{f}(h1:∀i,In n i->In n (f i))(h2:∀i j,In n i->In n j->f i=f j->i=j):((ao n).map f).Perm (ao n):=by
 have b:((ao n).map f).Nodup:=by rw[List.Nodup,ZZ];exact(eX n).imp_of_mem λl g a e=>a<|h2 _ _ (aA.mp l) (aA.mp g) e
 exact E6 b (λx h=>?_) (by rw[Ya,aG]);let#[i,c,rfl]:=Yg.mp h;exact aA.mpr<|h1 i<|aA.mp c
def Dx{a b}(f:a.length=n)(e:b.length=n)(h:∀i,In n i->ox a i=ox b i):a=b:=by rw[fQ f,fQ e];exact YY λi c=>h i<|aA.mp c
def wV f:∀r:Qj,di (r.map f)=(di r).map λp=>(f p.1,f p.2)
 |[]=>rfl
 |x::xs=>by
  show((xs.map f).map λy=>(f x,y))++di _=((xs.map λy=>(x,y))++di xs).map _;rw[wV,YW,YD,YD];rfl
theorem wG:∀{r}{p},p∈di r->p.1∈r/\p.2∈r
 |[],p,h=>nomatch h
 |x::xs,p,h=>by
  rcases YO.mp h with h|h
  .let#[y,c,rfl]:=Yg.mp h;exact#[Ye,Yd _ c]
  .let#[a,b]:=wG h;exact#[Yd _ a,Yd _ b]
def Jy(T:Twn n g ls us ks ts)(h:∀x∈r,In n x):bQ ls us r=bQ ks ts (r.map (ox g)):=by
 delta bQ;rw[wV,YD,YD,YD,YD,show r.map _=r.map ((D.str ∘ kAt ks) ∘ ox g)from YY λx c=>by show D.str _=D.str _;rw[T.k x<|h x c]]
 congr 3
 exact YU D.tup<|YY λp e=>?_;let#[a,b]:=wG e;exact i8<|T.t p.1 p.2 (h _ a)<|h _ b
def ch(ts:List T4)(n:Int)(q:Qj)(k:Int):Qj:=stl ts n 100<|pah q n k
def inv(n:Int)(q:Qj):Qj:=(ao n).map<|ix q
def lv(ts:List T4)(n:Int):Nat->Qj->List Qj
 |0,_=>[]
 |m+1,q=>if opn q n=[]then[inv n q]else(opn q n).flatMap λk=>lv ts n m<|ch ts n q k
def Pt(n:Int)(q:Qj):Prop:=q.length=n/\Can q
def HS(h:1<=n/\n<=7)(a:q.length=n):Pt n (stl ts n 100 q):=
 #[uK ts n h.1 100 q a,uI ts n 100 q (oS ts n h q) ▸ lh _ ts n]
def i5(a:1<=n/\n<=7)(h:Pt n q)k:Pt n (ch ts n q k):=HS a<|kS (XC (by decide) a.1) h.1
def kj(h:Pt n q)(o:opn q n=[]):q.Perm (ao n):=GP h.1 h.2 o
def fw(a:1<=n)(p:q.Perm (ao n)):(inv n q).Perm (ao n):=kF (λi h=>h_ a p h) λi j c b e=>by
 rw[<-gJ a p c,e,gJ a p b]
def uE{i}(h:In n i):ox (inv n q) i=ix q i:=iD h
def HB(a:1<=n)(p:q.Perm (ao n)){i}(h:In n i):ix (inv n q) i=ox q i:=
 (sR a (fw a p) h<|cW a p h).mpr<|by rw[uE<|cW a p h,dJ a p h]
def bK(h:k∈opn q n):In n k:=by
 delta opn at h;split at h
 .exact aA.mp (YL.mp h).1
 .cases h
def vd(a:1<=n)(p:g.Perm (ao n))(h:q.Perm (ao n)):(tu g q).Perm (ao n):=(yN a p (aO a h).1).trans h
def HU(h:1<=n)(p:g.Perm (ao n))(b:q.Perm (ao n)):(inv n (tu g q)).map (ox g)=inv n q:=by delta inv;rw[YD];exact YY λr a=>?_;let a:=aA.mp a;let pt:=vd h p b;let c:=h_ h pt a;exact((sR h b a<|cW h p c).mpr ?_).symm;rw[<-kx h p q c,gJ h pt a]
def yB(a:1<=n/\n<=7)(T:Twn n g ls us ks ts)(h:q.length=n)(b:In n k):ch us n (tu g q) (ix g k)=tu g (ch ts n q k):=by delta ch;rw[II a.1 T.p h b];exact xp a T.p T.t 100 _<|kS (XC (by decide) a.1) h
theorem Cw(a:1<=n/\n<=7)(T:Twn n g ls us ks ts):∀m q,Pt n q->∀x,x∈(lv us n m (tu g q)).map (bQ ls us)↔x∈(lv ts n m q).map (bQ ks ts)
 |0,q,_,x=>Iff.rfl
 |m+1,q,h,x=>by
  let c:=Jb a.1 T.p h.1;have w:opn _ n=[]↔opn q n=[]:=#[λz=>by rw[z]at c;exact c.symm.eq_nil,λz=>by rw[z]at c;exact Vi.mp c.eq_nil]
  delta lv;by_cases o:opn q n=[]
  .rw[Yl o,Yl<|w.mpr o];let s:=kj h o;show x∈[bQ ls us _]↔x∈[bQ ks ts _];rw[Jy T λy A=>aA.mp<|(fw a.1<|vd a.1 T.p s).mem_iff.mp A,HU a.1 T.p s]
  .rw[Yn o,Yn λz=>o<|w.mp z,List.map_flatMap,List.map_flatMap,Xg,Xg];constructor
   .rintro⟨f,b,i⟩;let j:=bK b;exact#[ox g f,c.mem_iff.mp<|Yg.mpr #[f,b,qx],?_];let e:=yB a T h.1<|cW a.1 T.p j;rw[dJ a.1 T.p j]at e;rw[e]at i;exact(Cw a T m _ (i5 a h _) x).mp i
   .rintro⟨k,u,i⟩;let j:=bK u;let#[f,b,e]:=Yg.mp<|c.mem_iff.mpr u;subst e;let l:=bK b;exact#[f,b,?_];let e:=yB a T h.1 j;rw[dJ a.1 T.p l]at e;rw[e];exact(Cw a T m _ (i5 a h _) x).mpr i
abbrev Au(ks:List Str)(ts:List T4)(n:Int)(g:Qj):Prop:=Twn n g ks ts ks ts
def jx(n:Int)(a b:Qj):Qj:=(ao n).map λi=>ox b<|ix a i
def flp(p:Int×Int):Int×Int:=(p.1,if p.2=1 then 2 else if p.2=2 then 1 else p.2)
def FZ{i j}(h:okT n t):prs j i t=(prs i j t).map flp:=by
 let#[a,b,k,o]:=t;have e:=h.2.2.2.2.1;have c:¬b=a:=λz=>e z.symm
 delta prs;by_cases g:a=i/\b=j
 .let#[rfl,rfl]:=g;cases o<;>simp[flp,e,c]
 .by_cases f:b=i/\a=j
  .let#[rfl,rfl]:=f;cases o<;>simp[flp,e,c]
  .have n2:¬(b=j/\a=i):=λz=>g #[z.2,z.1]
   have n1:¬(a=j/\b=i):=λz=>f #[z.2,z.1]
   simp[g,f,n2,n1,XV,Ua,List.map_nil]
theorem pA{i j}:∀{ts},(∀t∈ts,okT n t)->a7 j i ts=(a7 i j ts).map flp
 |[],_=>rfl
 |t::ts,h=>by
  show prs j i t++a7 j i ts=(prs i j t++a7 i j ts).map flp;rw[YW,FZ<|h t Ye,pA λu a=>h u<|Yd _ a]
theorem lV{i}:∀{ts},(∀t∈ts,okT n t)->a7 i i ts=[]
 |[],_=>rfl
 |t::ts,h=>by
  show prs i i t++a7 i i ts=[]
  let a:=(h t Ye).2.2.2.2.1;rw[lV λu b=>h u<|Yd _ b];delta prs;rw[Yn λz=>a<|z.1.trans z.2.symm,Yn λz=>a<|z.2.trans z.1.symm];rfl
def Ev(a:1<=n)(p:r.Perm (ao n)){x}(h:In n x):r[(ix r x).toNat]?=!x:=by
 let c:=h_ a p h;let b:=gJ a p h;let e:=(aO a p).1;delta ox at b;have:(ix r x).toNat<r.length:=by have:=c.1;have:=c.2;lia
 rw[Yi this]at b ⊢;exact YU some b
def rg(c:1<=n){a b}(p:a.Perm (ao n))(f:b.Perm (ao n)):(jx n a b).Perm (ao n):=kF (λi h=>cW c f<|h_ c p h) λi j l g e=>by
 let o:=h_ c p l;let m:=h_ c p g;have:ix a i=ix a j:=by rw[<-dJ c f o,e,dJ c f m]
 rw[<-gJ c p l,this,gJ c p g]
theorem Ap(e:1<=n)(hs:∀t∈ts,okT n t){a b}(p:a.Perm (ao n))(m:b.Perm (ao n))(h:bQ ks ts a=bQ ks ts b):Au ks ts n (jx n a b):=by
 let z:=(aO e p).1;let y:=(aO e m).1;let x:=D.tup.inj h;injection x with e1 e2;injection e2 with e2 _;let w:=E9 _ _<|D.tup.inj e1;let s:=(vB _ a b<|by lia).mp<|D.tup.inj e2;have o:∀i,In n i->ox (jx n a b) i=ox b _:=λi c=>iD c
 have g:∀i,In n i->b[(ix a i).toNat]?=!ox b _:=λi c=>by
  let q:=h_ e p c;have:(ix a i).toNat<b.length:=by have:=q.1;have:=q.2;lia
  delta ox;rw[Yi this];rfl
 have u:∀i j,In n i->In n j->ix a i<ix a j->(a7 i j ts).Perm _:=λi j c f A=>
  EM<|s _ _ _ _ _ _ (by have:=(h_ e p c).1;lia) (Ev e p c) (Ev e p f) (g i c)<|g j f
 exact#[rg e p m,λi c=>?_,λi j c f=>?_]
 .rw[o i c];have:=YU (λl=>l[(ix a i).toNat]?) w;simp[Ev e p c,g i c]at this;exact this
 .rw[o i c,o j f];rcases Int.lt_trichotomy _ (ix a j)with l|l|l
  .exact u i j c f l
  .have:i=j:=by rw[<-gJ e p c,l,gJ e p f]
   subst this;rw[lV hs,lV hs]
  .rw[pA hs,pA (j:=ox b _) hs];exact(u j i f c l).map flp
end
def Ref(n:Int)(a b:Qj):Prop:=∀i j,In n i->In n j->ox a i<ox a j->ox b i<ox b j
section
variable{n:Int}{a b:Qj}
def Ref.trans{c}(h:Ref n a b)(k:Ref n b c):Ref n a c:=λi j f e l=>k i j f e<|h i j f e l
def LP{m}(q:Cmps m ds){d e}(hd:d∈ds)(he:e∈ds)(h:ltD d e):rkD (bG ds) d<rkD (bG ds) e:=by
 let j:=q.sub λx b=>b_.mp b
 let f:=b_.mpr hd;let o:=b_.mpr he;have s:∀x∈bG ds,ltD x d->ltD x e:=λx b l=>Li j b f o l h
 have a:∀L:List D,(∀x∈L,x∈bG ds)->(L.filter λx=>ltD x d).length<=(L.filter λx=>ltD x e).length/\(d∈L->(L.filter λx=>ltD x d).length<(L.filter λx=>ltD x e).length):=by
  intro L;induction L with
  |nil=>exact λw=>#[Yp _,λz=>nomatch z]
  |cons x L ih=>
   intro c;let#[i,g]:=ih λy p=>c y<|Yd _ p
   rw[List.filter_cons,List.filter_cons];by_cases z:ltD x d
   .rw[Yl z,Yl<|s x (c x Ye) z,Yv,Yv];exact#[VJ i,λm=>Nat.succ_lt_succ<|g ?_];rcases Ys.mp m with e|m
    .rw[e,Lb j<|c x Ye]at z;cases z
    .exact m
   .rw[Yn z];by_cases y:ltD x e
    .rw[Yl y,Yv];exact#[Nat.le_succ_of_le i,λw=>Nat.lt_succ_of_le i]
    .rw[Yn y];exact#[i,λm=>g ?_];rcases Ys.mp m with e'|m
     .rw[<-e']at y;exact absurd h y
     .exact m
 exact(a _ λw h=>h).2 f
theorem FH:Ref n q (fin q ts n):=λi j a h l=>by
 let#[c,b]:=oR (ps:=q) (ts:=ts) a;let#[b1,b2]:=oR (ps:=q) (ts:=ts) h;delta fin;rw[pd c,pd b1,b,b2];have:=LP (jt q ts n) (Yg.mpr #[i,aA.mpr a,qx]) (Yg.mpr #[j,aA.mpr h,qx])<|Hw l;lia
theorem jB:∀k q,Ref n q (stl ts n k q)
 |0,q=>λz z z z l=>l
 |k+1,q=>by
  delta stl;split
  .exact λz z z z l=>l
  .exact FH.trans<|jB k _
theorem uv k:Ref n q (pah q n k):=λi j g h l=>by
 by_cases z:cnt q (ox q k)=1
 .delta pah;rwa[Yl z]
 .rw[gY z g,gY z h];have f:i=k->ox q i=ox q k:=λe=>by rw[e]
  have c:j=k->ox q j=ox q k:=λe=>by rw[e]
  by_cases a:i=k<;>by_cases b:j=k<;>first|(have:=f a;lia)|(have:=f a;split<;>(subst a;lia))|(have:=c b;split<;>lia)|(split<;>lia)
def xu k:Ref n q (ch ts n q k):=(uv k).trans<|jB 100 _
theorem yb(c:1<=n/\n<=7):∀m q,Pt n q->∀l∈lv ts n m q,∃b,b.Perm (ao n)/\l=inv n b/\Ref n q b
 |0,q,_,l,a=>nomatch a
 |m+1,q,h,l,a=>by
  delta lv at a;split at a
  .rename_i o;exact#[q,kj h o,Yu.mp a,λ_ _ _ _ l=>l]
  .let#[k,i,a]:=Xg.mp a;let#[b,g,f,e]:=yb c m _ (i5 c h k) l a;exact#[b,g,f,(xu k).trans e]
def wS(c:1<=n)(p1:q1.Perm (ao n))(p2:q.Perm (ao n))(o:a.length=n)(w:b.length=n)(m:Ref n a q1)(u:Ref n b q)(p:a.Perm b)(i:In n r):ox a (ix q1 r)=ox b (ix q r):=by
 have srt:∀{a q1},q1.Perm (ao n)->Ref n a q1->((inv n q1).map<|ox a).Pairwise (·<=·):=λ{a q1} p1 m=>by
  delta inv;rw[YD,ZZ];have:(ao n).Pairwise (· < ·):=by delta ao;rw[ZZ];exact Vw.imp λh=>by lia
  exact this.imp_of_mem λ{x y} g f l=>Int.not_lt.mp λz=>?_;let g:=aA.mp g;let f:=aA.mp f;have:=m _ _ (h_ c p1 f) (h_ c p1 g) z;rw[gJ c p1 g,gJ c p1 f]at this;lia
 have s:∀{a q1},a.length=n->q1.Perm (ao n)->((inv n q1).map<|ox a).Perm a:=λ{a q1} o p1=>by
  have:=(fw c p1).map<|ox a;rwa[<-fQ o]at this
 have e:=((s o p1).trans<|p.trans (s w p2).symm).eq_of_pairwise (λx y _ _ E C=>Int.le_antisymm E C) (srt p1 m)<|srt p2 u;let j:=YU (λl=>ox l r) e;let B:=(aO c<|fw c p1).1;let A:=(aO c<|fw c p2).1;have j:=j;rwa[pY<|by rwa[B],pY<|by rwa[A],uE i,uE i]at j
theorem EJ(o:q.length=n){f p}(m:In n f)(l:In n p)(e:ox q f=ox q p):(pah q n f).Perm (pah q n p):=by
 delta pah;rw[e];split
 .exact .refl _
 .by_cases z:f=p
  .rw[z]
  .have s:∀i,In n i->In n (if i=f then p else if i=p then f else i):=λi c=>by split;exact l;split;exact m;exact c
   let g:=kF s λi j y y h=>by
    by_cases a:i=f<;>by_cases b:i=p<;>lia
   have:=g.map λj=>if ox q j<ox q p\/j=p then ox q j else ox q j+1
   rw[YD]at this;exact List.Perm.trans (.of_eq<|YY λi c=>?_) this;show(if ox q i<ox q p\/i=f then ox q i else ox q i+1)=(λj=>if ox q j<ox q p\/j=p then ox q j else ox q j+1) (if i=f then p else if i=p then f else i)
   by_cases a:i=f
   .subst a;simp;exact e
   .by_cases b:i=p
    .subst b;simp only[Yn a,VT];rw[Yn λh=>h.elim (λh=>Int.lt_irrefl _ h) a,Yn λh=>h.elim (λh=>by rw[e]at h;exact Int.lt_irrefl _ h) λh=>a h.symm,e]
    .rw[Yn a,Yn b];simp[a,b]
def oJ{f p}(h:f∈opn q n)(a:p∈opn q n):ox q f=ox q p:=by
 delta opn at h a;split at h
 .rename_i r b;rw[b]at a;exact(YE (YL.mp h).2).trans (YE (YL.mp a).2).symm
 .cases h
def Sim(ks:List Str)(ts:List T4)(n:Int)(m:Nat)(a b:Qj):Prop:=∀x,x∈(lv ts n m a).map (bQ ks ts)↔x∈(lv ts n m b).map (bQ ks ts)
def vR(a:1<=n/\n<=7){g}(A:Au ks ts n g)(h:Pt n q)(e:tu g q=q){u}(b:In n u)m:Sim ks ts n m (ch ts n q u) (ch ts n q (ox g u)):=by let c:=yB a A h.1<|cW a.1 A.p b;rw[dJ a.1 A.p b,e]at c;intro x;rw[c];exact Cw a A m _ (i5 a h _) x
inductive Node (ks:List Str) (ts:List T4) (n:Int):Qj->Qj->Prop
 |nil:Node ks ts n [] (fpt ks ts n)
 |cons {w q:Qj}{k:Int}:Node ks ts n w q->k∈opn q n->Node ks ts n (w++[k]) (ch ts n q k)
def Node.pt(a:1<=n/\n<=7)(b:okK n ks){w}(h:Node ks ts n w q):Pt n q:=by
 induction h with
 |nil=>exact oB a b
 |cons _ _ ih=>exact i5 a ih _
def Node.leaves(b:1<=n/\n<=7)(c:okK n ks){w g}(A:Au ks ts n g)(h:Node ks ts n w q):(∀x∈w,ox g x=x)->tu g q=q:=by
 induction h with
 |nil=>exact λz=>(J1 b A.p c c A.k A.t).symm
 |@cons w q k h l ih=>
  intro f;let e:=ih λx j=>f x<|YH _ j
  let a:=f k<|YC _<|YJ k;let i:=bK l;have:=yB b A (h.pt b c).1 i;rw[<-this]
  congr 1
  rw[<-a,dJ b.1 A.p i,a]
end
section
variable{α:Type} [DecidableEq α]
def lu(F xs:List α):List α:=xs.foldl (λF x=>if x∈F then F else F++[x]) F
def jz F x(xs:List α):lu F (x::xs)=lu (if x∈F then F else F++[x]) xs:=rfl
def gr{y}:∀{xs F:List α},y∈lu F xs↔y∈F\/y∈xs
 |[],F=>by simp[lu]
 |x::xs,F=>by
  rw[jz,gr];by_cases h:x∈F
  .rw[Yl h,Ys];constructor
   .rintro (a|a);exact .inl a;exact .inr<|.inr a
   .rintro (a|rfl|a);exact .inl a;exact .inl h;exact .inr a
  .rw[Yn h,YO,Yu,Ys,or_assoc]
def oC:∀{xs F:List α},F.Nodup->(lu F xs).Nodup
 |[],F,h=>h
 |x::xs,F,h=>by
  rw[jz];by_cases q:x∈F
  .rw[Yl q];exact oC h
  .rw[Yn q];exact oC<|ZF.mpr #[h,by simp,λa e b c=>?_];rw[Yu]at c;subst c;exact λz=>q<|z ▸ e
def qw:∀(xs F:List α),∃s,lu F xs=F++s
 |[],F=>#[[],by simp[lu]]
 |x::xs,F=>by
  rw[jz];let#[s,e]:=qw xs _;rw[e];by_cases q:x∈F
  .rw[Yl q];exact#[s,qx]
  .rw[Yn q];exact#[x::s,by rw[Zh];rfl]
end
def bfs(nb:Int->Qj):Nat->Qj->Nat->Qj
 |0,F,_=>F
 |k+1,F,d=>match F[d]? with
  |none=>F
  |some a=>bfs nb k (lu F<|nb a)<|d+1
open A in
def tY{P:Int->Prop}(h:∀a,P a->∀b∈nb a,P b):∀k F d,(∀x∈F,P x)->∀x∈bfs nb k F d,P x
 |0,F,d,hF,x,hx=>hF x hx
 |k+1,F,d,hF,x,hx=>by
  delta bfs at hx;split at hx
  .exact hF x hx
  .rename_i a q;exact tY h k _ _ (λy c=>?_) x hx;rcases gr.mp c with z|z
   .exact hF y z
   .exact h a (hF a<|YR q) y z
open A in
def BB(o:∀a∈ao n,∀b∈nb a,b∈ao n):∀(k:Nat) F (d:Nat),F.Nodup->(∀x∈F,x∈ao n)->n<d+k->(∀i a,i<d->F[i]?=!a->∀b∈nb a,b∈F)->
  (∀x∈F,x∈bfs nb k F d)/\∀x∈bfs nb k F d,∀b∈nb x,b∈bfs nb k F d
 |0,F,d,nd,hF,hk,h=>#[λ_ h=>h,λx g b f=>by
  have g:x∈F:=g;let#[i,j,e]:=Zw g;have:=cM F (ao n) nd hF;rw[aG]at this;exact h i x (by lia) (by rw[Yi j,e]) b f]
 |k+1,F,d,nd,hF,hk,h=>by
  delta bfs;split
  .rename_i q;have:=Xv.mp q;exact#[λ_ h=>h,λx g b f=>?_];let#[i,j,e]:=Zw g;exact h i x (by lia) (by rw[Yi j,e]) b f
  .rename_i a q;let p:=hF a<|YR q;let#[E,w]:=qw (nb a) F;let#[u,s]:=BB o k _ (d+1) (oC nd) (λx g=>(gr.mp g).elim (hF x)<|o a p x) (by lia) λi c j m b f=>by
    let y:=(Ym.mp q).1;rw[w,ZA<|by lia]at m;rcases Nat.lt_succ_iff_lt_or_eq.mp j with l|l
    .exact gr.mpr<|.inl<|h i c l m b f
    .rw[l,q]at m;cases m;exact gr.mpr<|.inr f
   exact#[λx g=>u x<|gr.mpr<|.inl g,s]
inductive Gen (n:Int) (T:List Qj):Qj->Prop
 |one:Gen n T (ao n)
 |on {a t:Qj}:Gen n T a->t∈T->Gen n T (a.map (ox t))
section
variable{n:Int}
def Gen.mono(h:∀t∈T,t∈U){a}(g:Gen n T a):Gen n U a:=by
 induction g with
 |one=>exact .one
 |on _ ht ih=>exact ih.on<|h _ ht
def vx(b:1<=n){a t:Qj}(p:a.Perm (ao n))(pt:t.Perm (ao n)):(a.map (ox t)).Perm (ao n):=
 (p.map<|ox t).trans<|kF (λi h=>cW b pt h) λi j f c e=>by rw[<-dJ b pt f,e,dJ b pt c]
def Gen.perm(h:1<=n)(b:∀t∈T,t.Perm (ao n)){a}(g:Gen n T a):a.Perm (ao n):=by
 induction g with
 |one=>exact .refl _
 |on _ ht ih=>exact vx h ih<|b _ ht
def iS(b:1<=n){a t}(p:a.Perm (ao n)){i}(h:In n i):ox (a.map (ox t)) i=ox t (ox a i):=pY<|by rwa[(aO b p).1]
def js{i}(h:In n i):ox (ao n) i=i:=by
 have:=iD (f:=id) h
 rwa [XH]at this
def Gen.mul(c:1<=n)(e:∀t∈T,t.Perm (ao n)){a b}(g:Gen n T a)(k:Gen n T b):Gen n T (b.map (ox a)):=by
 let p:=k.perm c e;induction g with
 |one=>
  have:=YY (f:=ox<|ao n) (g:=id) λx h=>js<|aA.mp<|p.mem_iff.mp h
  rwa[this,XH]
 |@on a t ga ht ih=>
  rw[show b.map _=(b.map<|ox a).map (ox t)by
   rw[YD];exact YY λx h=>iS c (ga.perm c e)<|aA.mp<|p.mem_iff.mp h]
  exact ih.on ht
def Clo(n:Int)(T:List Qj)(P:Int->Prop):Prop:=∀t∈T,∀x,In n x->P x->P (ox t x)
def Few(n:Int)(T:List Qj):Prop:=∃(c:Int->Int) (L:Qj),(∀x,In n x->c x∈L)/\(L.length+T.length<=n)/\∀P,Clo n T P->∀x y,In n x->In n y->c x=c y->P x->P y
theorem Gh(a:1<=n):Few n []:=#[id,ao n,λx h=>aA.mpr h,by rw[aG];simp;lia,λP z x y z z e h=>by rwa[<-show x=y from e]]
theorem Jw(b:1<=n)(h:Few n T):T.length<n:=by let#[c,L,a,e,_]:=h;have:=List.length_pos_of_mem<|a 0 #[Us 0,by lia];lia
def CQ(c:1<=n){g}(p:g.Perm (ao n)){P:Int->Prop}(h:∀x,In n x->P x->P (ox g x)){f}(u:In n f)(q:P (ox g f)):P f:=by
 classical
 exact Za λz=>?_;have inj:∀i j,In n i->In n j->ox g i=ox g j->i=j:=λi j b s e=>by rw[<-dJ c p b,e,dJ c p s]
 have m:(f::(ao n).filter λx=>P x).Nodup:=YX.mpr #[λy=>z<|YE (YL.mp y).2,(eX n).sublist Ub];have b:∀x∈f::(ao n).filter λx=>P x,In n x/\P _:=λx hx=>by
  rcases Ys.mp hx with rfl|hx
  .exact#[u,q]
  .let a:=YL.mp hx;exact#[aA.mp a.1,h x (aA.mp a.1)<|YE a.2]
 have:=cM _ ((ao n).filter λx=>P x) (by
  rw[List.Nodup,ZZ];exact m.imp_of_mem λA w l e=>l<|inj _ _ (b _ A).1 (b _ w).1 e) λy o=>by
  let#[x,hx,rfl]:=Yg.mp o;exact YL.mpr #[aA.mpr<|cW c p (b x hx).1,YI (b x hx).2]
 rw[Ya,Yv]at this;lia
theorem IF(s:1<=n)(h:Few n T){g}(p:g.Perm (ao n)){f}(a:In n f){P}(E:Clo n T P)(h1:P f)(h2:¬P (ox g f)):Few n (T++[g]):=by
 let#[c,L,q,H,w]:=h;let l:=cW s p a;let B:=λe=>h2<|w P E f _ a l e h1
 exact#[λx=>if c x=c (ox g f)then c f else c x,L.erase<|c<|ox g f,λx i=>?_,?_,λQ u x y i m e o=>?_]
 .show(if _ then _ else _)∈_;split
  .exact(List.mem_erase_of_ne B).mpr<|q f a
  .rename_i z;exact(List.mem_erase_of_ne z).mpr<|q x i
 .rw[List.length_erase_of_mem<|q _ l,Yo,YM];have:=List.length_pos_of_mem<|q _ l;lia
 .let b:=w Q λt C=>u t<|YH _ C
  let j:=u g<|YC _<|YJ g;have e:(if c x=c (ox g f)then c f else c x)=if c y=c (ox g f)then c f else c y:=e;split at e
  .rename_i z;split at e
   .rename_i A;exact b x y i m (z.trans A.symm) o
   .exact b f y a m e<|CQ s p j a<|b x _ i l z o
  .split at e
   .rename_i z;exact b _ y l m z.symm<|j f a<|b x f i a e o
   .exact b x y i m e o
end
structure Sst where
 way:Qj
 fst:Qj
 frow:D
 lst:Qj
 brow:D
 trn:List Qj
def hU(w g:Qj):Bool:=w.all λx=>decide<|ox g x=x
def nbs(T:List Qj)(a:Int):Qj:=T.map λg=>ox g a
def lo(S:Sst)(w tr:Qj)(p:Int):Bool:=decide<|p∈bfs (nbs<|S.trn.filter<|hU w) 10 tr 0
def onf(S:Sst)(w:Qj):Bool:=decide<|S.way.take w.length=w
def arr(ks:List Str)(ts:List T4)(n:Int)(w e:Qj)(S:Sst):Bool×Sst:=if S.fst=[]then(false,#[w,e,bQ ks ts e,e,bQ ks ts e,S.trn])else
 if eqd (bQ ks ts e) S.frow then(true,#[S.way,S.fst,S.frow,if ltD (bQ ks ts e) S.brow then e else S.lst,if ltD (bQ ks ts e) S.brow then bQ ks ts e else S.brow,S.trn++[jx n S.fst e]])
 else(false,#[S.way,S.fst,S.frow,if ltD (bQ ks ts e) S.brow then e else S.lst,if ltD (bQ ks ts e) S.brow then bQ ks ts e else S.brow,S.trn])
def lp(G:Int->Sst->Bool×Sst)(w:Qj):Qj->Qj->Sst->Bool×Sst
 |[],_,S=>(false,S)
 |p::r,tr,S=>if lo S w tr p then lp G w r tr S else if((G p S).1&&(not<|onf (G p S).2 w)) then(true,(G p S).2)else lp G w r (tr++[p]) (G p S).2
def goP(ks:List Str)(ts:List T4)(n:Int):Nat->Qj->Qj->Sst->Bool×Sst
 |0,_,_,S=>(false,S)
 |m+1,w,q,S=>if opn q n=[]then arr ks ts n w (inv n q) S else lp (λp S=>goP ks ts n m (w++[p]) (ch ts n q p) S) w (opn q n) [] S
section
variable{n:Int}
structure Cx3 (ks:List Str) (ts:List T4) (n:Int):Prop where
 hn:1<=n/\n<=7
 hk:okK n ks
 hs:∀t∈ts,okT n t
structure Good (ks:List Str) (ts:List T4) (n:Int) (S:Sst):Prop where
 l1:S.fst.Perm (ao n)
 l2:S.lst.Perm (ao n)
 r1:S.frow=bQ ks ts S.fst
 r2:S.brow=bQ ks ts S.lst
 au:∀g∈S.trn,Au ks ts n g
def Lq(S:Sst):Prop:=S.fst=[]/\S.trn=[]
structure Keep (S S':Sst):Prop where
 w:S'.way=S.way
 f:S'.fst=S.fst
 r:S'.frow=S.frow
def Keep.trans{S e c}(a:Keep S e)(b:Keep e c):Keep S c:=#[b.w.trans a.w,b.f.trans a.f,b.r.trans a.r]
def Fix(w g:Qj):Prop:=∀x∈w,ox g x=x
def Non(ks:List Str)(ts:List T4)(n:Int)(x:D)(m:Nat)(q:Qj):Prop:=∀l∈lv ts n m q,bQ ks ts l≠x
def Non.sim{x}{m}{a b}(s:Sim ks ts n m a b)(c:Non ks ts n x m a):Non ks ts n x m b:=λl g e=>by
 let#[f,h,i]:=Yg.mp<|(s _).mpr<|Yg.mpr #[l,g,qx];exact c f h<|i.trans e
structure Tk (ks:List Str) (ts:List T4) (n:Int) (w:Qj) (T:List Qj):Prop where
 fx:∀g∈T,Fix w g
 mv:∀g∈T,∃x,In n x/\ox g x≠x
 w:Few n T
def All(ks:List Str)(ts:List T4)(n:Int)(w:Qj)(T:List Qj):Prop:=∀g,Au ks ts n g->Fix w g->Gen n T g
def GoS(ks:List Str)(ts:List T4)(n:Int)(m:Nat)(w q:Qj)(g:Sst->Bool×Sst):Prop:=
 (∀S,Lq S->(g S).1=false/\Good ks ts n (g S).2/\(g S).2.way.take w.length=w/\(∃a,a.Perm (ao n)/\(g S).2.fst=inv n a/\Ref n q a)/\(g S).2.fst∈lv ts n m q/\Tk ks ts n w (g S).2.trn/\All ks ts n w (g S).2.trn) /\
 ∀S,Good ks ts n S->onf S w=false->Good ks ts n (g S).2/\Keep S (g S).2/\(((g S).1=false/\(g S).2.trn=S.trn/\Non ks ts n S.frow m q)\/((g S).1/\∃l∈lv ts n m q,bQ ks ts l=S.frow/\(g S).2.trn=S.trn++[jx n S.fst l]))
def ut:(opn q n).Nodup:=by
 delta opn;split
 .exact(eX n).sublist Ub
 .exact .nil
def zl{a r}{p}(e:opn q n=a++p::r):p∈opn q n/\p∉a/\opn q n=(a++[p])++r:=by let b:=ut (n:=n) (q:=q);rw[e]at b;exact#[by rw[e];exact YC _ Ye,λz=>(ZF.mp b).2.2 p z p Ye qx,by rw[e,Zh];rfl]
def df{a}{p x:Int}(h:x∈a++[p]):x∈a\/x=p:=(YO.mp h).imp id Yu.mp
def Ih(X:Cx3 ks ts n){S}{m}{w}{p}(N:Node ks ts n w q)(g:Good ks ts n S)(c:∀t∈tr,In n t/\Non ks ts n S.frow m (ch ts n q t))(h:lo S w tr p):Non ks ts n S.frow m (ch ts n q p):=by
 exact(tY (λa f b j=>?_) 10 tr 0 c p<|YE h).2;let#[t,c,rfl]:=Yg.mp j;let#[o,l]:=YL.mp c;let A:=g.au t o;let e:=N.leaves X.hn X.hk A λx i=>YE<|Yh.mp l x i
 exact#[cW X.hn.1 A.p f.1,f.2.sim<|vR X.hn A (N.pt X.hn X.hk) e f.1 m]
def quo(n:Int)(h g:Qj):Qj:=(ao n).map λi=>ix h<|ox g i
def kh{h g}{i}(hi:In n i):ox (quo n h g) i=ix h (ox g i):=iD hi
def uk(f:1<=n){h g}(H:Au ks ts n h)(A:Au ks ts n g):Au ks ts n (quo n h g):=by
 have b:∀i,In n i->In n _:=λi a=>h_ f H.p<|cW f A.p a
 have e:∀i,In n i->ox h _=ox g i:=λi a=>gJ f H.p<|cW f A.p a
 exact#[kF b λi j a c z=>?_,λi a=>?_,λi j a c=>?_]
 .have:=e i a;rw[z,e j c]at this;rw[<-dJ f A.p a,<-this,dJ f A.p c]
 .rw[kh a,H.k _<|b i a,e i a];exact A.k i a
 .rw[kh a,kh c];have:=H.t _ _ (b i a)<|b j c;rw[e i a,e j c]at this;exact(A.t i j a c).trans this.symm
def zp(b:1<=n){w h g}(hw:∀x∈w,In n x)(H:Au ks ts n h)(fh:Fix w h)(f:Fix w g):Fix w (quo n h g):=λx a=>by
 rw[kh<|hw x a,f x a];have:=dJ b H.p<|hw x a
 rwa [fh x a]at this
def HQ(c:1<=n){h g}(H:Au ks ts n h)(A:Au ks ts n g):Au ks ts n (g.map (ox h)):=by
 have b:∀i,In n i->In n _:=λi a=>cW c A.p a
 exact#[vx c A.p H.p,λi a=>?_,λi j a e=>?_]
 .rw[iS c A.p a,<-H.k _<|b i a];exact A.k i a
 .rw[iS c A.p a,iS c A.p e];exact(A.t i j a e).trans<|H.t _ _ (b i a)<|b j e
def JF:Au ks ts n (ao n):=#[.refl _,λi h=>by rw[js h],λi j h a=>by rw[js h,js a]]
def Gen.au(h:1<=n)(b:∀t∈T,Au ks ts n t){a}(g:Gen n T a):Au ks ts n a:=by
 induction g with
 |one=>exact JF
 |on _ ht ih=>exact HQ h (b _ ht) ih
def Gen.fix(b:1<=n){w}(hw:∀x∈w,In n x)(e:∀t∈T,t.Perm (ao n))(c:∀t∈T,Fix w t){a}(g:Gen n T a):Fix w a:=by
 induction g with
 |one=>exact λx h=>js<|hw x h
 |on ga ht ih=>exact λx h=>by rw[iS b (ga.perm b e)<|hw x h,ih x h,c _ ht x h]
def qC(a:1<=n){w T}{h g}{f}(hw:∀x∈w++[f],In n x)(o:∀t∈T,Au ks ts n t)(s:∀t∈T,Fix w t)(y:All ks ts n (w++[f]) T)(A:Au ks ts n g)(u:Fix w g)(H:Gen n T h)(e:ox h f=ox g f):Gen n T g:=by
 let P:=λt q=>(o t q).p
 let b:=H.au a o;let j:=hw f<|YC _<|YJ f;let c:=λx l=>hw x<|YH _ l
 let K:=y _ (uk a b A) λx l=>by
  rcases df l with z|z
  .exact zp a c b (H.fix a c P s) u x z
  .rw[z,kh j,<-e,dJ a b.p j]
 have:=H.mul a P K
 rwa [show(quo n h g).map (ox h)=g from Dx (by rw[Ya];exact(aO a (uk a b A).p).1) (aO a A.p).1 λi m=>by rw[iS a (uk a b A).p m,kh m,gJ a b.p<|cW a A.p m]]at this
def Node.In(c:1<=n/\n<=7){w}(N:Node ks ts n w q):∀x∈w,In n x:=by
 induction N with
 |nil=>exact λz h=>nomatch h
 |cons _ b ih=>exact λx a=>(df a).elim (ih x) λe=>e ▸ bK b
theorem zf{p i}(c:¬cnt q (ox q p)=1)(hi:My.In n i)(e:ox (pah q n p) i=ox q p):i=p:=by
 rw[gY c hi]at e;split at e
 .rename_i z;rcases z with z|z
  .lia
  .exact z
 .rename_i z;have:¬ox q i<ox q p:=λy=>z<|.inl y
  lia
def jc(g:q.length=n)(h:k∈opn q n):¬cnt q (ox q k)=1/\∃j,My.In n j/\j≠k/\ox q j=ox q k:=by
 let b:=ut (n:=n) (q:=q);delta opn at h b;split at h
 .rename_i r c;rw[c]at b;have l:1<cnt q r:=by simpa using List.find?_some c
  let e:=YE (YL.mp h).2;exact#[by rw[e];lia,?_];let i:=yX g r;have:∃j∈rwC q n r,j≠k:=Za λz=>by
   have:∀j∈rwC q n r,j∈[k]:=λj a=>Yu.mpr<|Za λy=>z #[j,a,y]
   have:=cM (rwC q n r) [k] b this;rw[YM]at this;lia
  let#[j,a,f]:=this;exact#[j,aA.mp (YL.mp a).1,f,(YE (YL.mp a).2).trans e.symm]
 .cases h
def EE{f i}(h:f∈opn q n)(hi:My.In n i)(e:ox q i=ox q f):i∈opn q n:=by
 delta opn at h ⊢;split at h
 .rename_i r a;exact YL.mpr #[aA.mpr hi,YI<|e.trans<|YE (YL.mp h).2]
 .cases h
theorem Cp{a b}(h:Ref n a b){i j}(hi:My.In n i)(c:My.In n j)(e:ox b i=ox b j):ox a i=ox a j:=by
 rcases Ul _ (ox a j)with l|l|l
 .have:=h i j hi c l;lia
 .exact l
 .have:=h j i c hi l;lia
def vT{p}(c:¬cnt q (ox q p)=1)(h:My.In n p):ox (pah q n p) p=ox q p:=by rw[gY c h,Yl<|.inr qx]
def Node.solo(X:Cx3 ks ts n){w}(N:Node ks ts n w q):∀x∈w,∀i,My.In n i->ox q i=ox q x->i=x:=by
 induction N with
 |nil=>exact λy h=>nomatch h
 |@cons w q k N b ih=>
  intro x g i a e;let f:=bK b;rcases df g with z|z
  .exact ih x z i a<|Cp (xu k) a (N.In X.hn x z) e
  .subst z;let c:=(jc (N.pt X.hn X.hk).1 b).1;exact zf c a<|(Cp (jB 100 _) a f e).trans<|vT c f
def MD(X:Cx3 ks ts n){w}(N:Node ks ts n w q){f p}(l:f∈opn q n)(j:p∈opn q n){e}(p1:q1.Perm (ao n))(p2:e.Perm (ao n))(o:Ref n (pah q n f) q1)(m:Ref n (pah q n p) e):Fix w (jx n (inv n q1)<|inv n e)/\ox (jx n (inv n q1)<|inv n e) f=p:=by
 let g:=X.hn.1;have y:0<=n:=Int.le_trans (by decide) g;let h:=N.pt X.hn X.hk;have u:∀i,My.In n i->ox _ i=ix e _:=λi c=>by
  rw[show ox (jx n _ _) i=ox _ (ix _ i)from iD c,HB g p1 c,uE<|cW g p1 c]
 have s:∀{a b},a.length=n->b.length=n->Ref n a q1->Ref n b e->a.Perm b->∀i,My.In n i->ox a i=ox b _:=λH E C B J i c=>by
  have:=wS g p1 p2 H E C B J<|cW g p1 c
  rwa [dJ g p1 c]at this
 have z:∀i,My.In n i->My.In n _:=λi c=>h_ g p2<|cW g p1 c
 exact#[λx A=>?_,?_]
 .let c:=N.In X.hn x A;rw[u x c];exact N.solo X x A _ (z x c) (s h.1 h.1 ((uv f).trans o) ((uv p).trans m) (.refl _) x c).symm
 .let c:=bK l;rw[u f c];let I:=(jc h.1 l).1;have:=s (kS y h.1) (kS y h.1) o m (EJ h.1 c (bK j)<|oJ l j) f c;rw[vT I c,oJ l j]at this;exact zf (jc h.1 j).1 (z f c) this.symm
section
variable{m:Nat}{w:Qj}{G:Int->Sst->Bool×Sst}
theorem Ii(X:Cx3 ks ts n)(N:Node ks ts n w q)(A:∀p∈opn q n,GoS ks ts n m (w++[p]) (ch ts n q p) (G p)):∀r a tr S,opn q n=a++r->(∀t∈tr,t∈a)->Good ks ts n S->onf S w=false->(∀p∈a,Non ks ts n S.frow m (ch ts n q p))->
  Good ks ts n (lp G w r tr S).2/\Keep S (lp G w r tr S).2/\(((lp G w r tr S).1=false/\(lp G w r tr S).2.trn=S.trn/\∀p∈opn q n,Non ks ts n S.frow m<|ch ts n q p)\/((lp G w r tr S).1/\∃p∈opn q n,∃l∈lv ts n m<|ch ts n q p,bQ ks ts l=S.frow/\(lp G w r tr S).2.trn=S.trn++[jx n S.fst l]))
 |[],a,tr,S,e,_,g,_,c=>#[g,#[qx,qx,qx],.inl #[qx,qx,λp s=>c p<|by rwa[e,Zc]at s]]
 |p::r,a,tr,S,e,ht,g,ho,c=>by
  let#[s,I,E]:=zl e;have inD:∀x∈a,x∈opn q n:=λx j=>by rw[e];exact YH _ j
  delta lp;split
  .rename_i y;exact Ii X N A r _ tr S E (λt h=>YH _<|ht t h) g ho λx j=>by
    rcases df j with h|h
    .exact c x h
    .rw[h];exact Ih X N g (λt h=>#[bK<|inD t<|ht t h,c t<|ht t h]) y
  .have u:onf S (w++[p])=false:=by exact YB λz=>of_decide_eq_false ho ?_;have:=YU (λl=>l.take w.length) z;simpa[VC]using this
   let#[C,i,K]:=(A p s).2 S g u;have o:onf (G p S).2 w=false:=by delta onf;rwa[i.w]
   rw[o];rcases K with⟨b,B,L⟩|⟨b,l,J,H,B⟩
   .rw[b,Yn<|by decide];have:=Ii X N A r _ _ _ E (λt h=>by
     rcases df h with h|h
     .exact YH _<|ht t h
     .rw[h];exact YC _<|YJ p) C o λx j=>by
     rw[i.r];rcases df j with h|h
     .exact c x h
     .rwa[h]
    rw[i.r,i.f,B]at this;exact#[this.1,i.trans this.2.1,this.2.2]
   .rw[b,Yl<|by decide];exact#[C,i,.inr #[qx,p,s,l,J,H,B]]
def JO(X:Cx3 ks ts n)(N:Node ks ts n w q)(hG:∀p∈opn q n,GoS ks ts n m (w++[p]) (ch ts n q p) (G p)){f}(p1:q1.Perm (ao n))(r1:Ref n (pah q n f) q1)(s:f∈opn q n):∀r j tr S,opn q n=j++r->tr.Nodup->(∀t∈tr,t∈j)->f∈tr->Good ks ts n S->S.way.take (w.length+1)=w++[f]->S.fst=inv n q1->S.fst∈lv ts n m (ch ts n q f)->
  Tk ks ts n w S.trn->All ks ts n (w++[f]) S.trn->(∀p∈j,(∃g,Au ks ts n g/\Fix w g/\ox g f=p)->∃h,Gen n S.trn h/\ox h f=p)->
  Good ks ts n (lp G w r tr S).2/\Keep S (lp G w r tr S).2/\(lp G w r tr S).1=false/\Tk ks ts n w (lp G w r tr S).2.trn/\All ks ts n w (lp G w r tr S).2.trn
 |[],j,tr,S,e,_,_,_,g,_,_,_,tk,al,c=>#[g,#[rfl,rfl,rfl],qx,tk,λa A O=>by
  let E:=bK s;let eq:=N.leaves X.hn X.hk A O;have U:=EE s (cW X.hn.1 A.p E) (by rw[<-kx X.hn.1 A.p q E,eq]);rw[e,Zc]at U;let#[h,H,eh]:=c _ U #[a,A,O,qx];exact qC X.hn.1 (λx C=>(df C).elim (N.In X.hn x) λz=>z ▸ E) g.au tk.fx al A O H eh]
 |p::r,j,tr,S,e,nd,u,E,g,ho,hq,hl,tk,al,c=>by
  let#[U,J,e']:=zl e;let I:=X.hn.1;let o:=bK s;delta lp;split
  .rename_i L;exact JO X N hG p1 r1 s r _ tr S e' nd (λt h=>YH _<|u t h) E g ho hq hl tk al λx C=>?_;rcases df C with h|h
   .exact c x h
   .rw[h];exact(tY (P:=λx=>My.In n x/\((∃g,Au ks ts n g/\Fix w g/\ox g f=x)->∃h,Gen n S.trn h/\ox h f=x)) (λa M b Q=>?_) 10 tr 0 (λt h=>#[bK<|by rw[e];exact YH _<|u t h,c t<|u t h]) p<|YE L).2;let#[t,u,rfl]:=Yg.mp Q;let Y:=(YL.mp u).1;let A:=g.au t Y;exact#[cW I A.p M.1,λ#[b,B,fb,eb]=>?_];let#[k,K,ek]:=M.2 #[quo n t b,uk I A B,zp I (N.In X.hn) A (tk.fx t Y) fb,by rw[kh o,eb,dJ I A.p M.1]];exact#[_,K.on Y,by rw[iS I (K.au I g.au).p o,ek]]
  .rename_i L;have ho':onf S (w++[p])=false:=by exact YB λz=>J ?_;rw[Yo,YM,ho]at z;have:=List.append_cancel_left z;injection this with h _;rw[<-h];exact u f E
   let#[g1,R,Y]:=(hG p U).2 S g ho';have on1:onf (G p S).2 w:=by delta onf;rw[R.w];exact YI ?_;have:=YU (λl=>l.take w.length) ho;simpa[VC]using this
   rw[on1,Bool.not_true,VA,Yn Yk];have go:(∀t∈S.trn,t∈(G p S).2.trn)/\Tk ks ts n w (G p S).2.trn/\((∃g,Au ks ts n g/\Fix w g/\ox g f=p)->∃h,Gen n (G p S).2.trn h/\ox h f=p):=by
    rcases Y with⟨_,et,cv⟩|⟨_,l,hl2,hr,et⟩
    .rw[et];exact#[λ_ h=>h,tk,λ#[a,A,O,ea]=>?_];have:=vR X.hn A (N.pt X.hn X.hk) (N.leaves X.hn X.hk A O) o m;rw[ea]at this;let#[l',hl',e']:=Yg.mp<|(this _).mp<|Yg.mpr #[_,hl,qx];exact absurd (e'.trans g.r1.symm)<|cv l' hl'
    .let#[q2,p2,rfl,r2]:=yb X.hn m _ (i5 X.hn (N.pt X.hn X.hk) p) l hl2;let#[j1,Z]:=MD X N s U p1 p2 r1<|(jB 100 _).trans r2;rw[<-hq]at j1 Z;have A:Au ks ts n (jx n S.fst<|inv n q2):=by have:=g1.au _ (by rw[et];exact YC _<|YJ _);exact this
     rw[et];exact#[λ_ h=>YH _ h,#[λt h=>?_,λt h=>?_,?_],λ_=>#[(ao n).map _,Gen.one.on<|YC _<|YJ _,by rw[iD o,Z]]]
     .rcases YO.mp h with z|z
      .exact tk.fx t z
      .rw[Yu.mp z];exact j1
     .rcases YO.mp h with z|z
      .exact tk.mv t z
      .rw[Yu.mp z];exact#[f,o,λz=>J<|by rw[<-Z,z];exact u f E]
     .let cl:=BB (nb:=nbs<|S.trn.filter<|hU w) (λa M b Q=>by
       let#[t,h',rfl]:=Yg.mp Q;exact aA.mpr<|cW I (g.au t (YL.mp h').1).p<|aA.mp M) 10 tr 0 nd (λx C=>aA.mpr<|bK<|by rw[e];exact YH _<|u x C) (by have:=X.hn.2;lia) λi _ hi=>absurd hi<|Nat.not_lt_zero i
      exact IF I tk.w A.p o (λt T x _ C=>?_) (cl.1 f E) ?_
      .exact cl.2 x C _<|Yg.mpr #[t,YL.mpr #[T,Yh.mpr λy hy=>YI<|tk.fx t T y hy],qx]
      .rw[Z];exact of_decide_eq_false<|Bool.eq_false_iff.mpr L
   let#[m1,t1,c1]:=go;let#[g2,k2,h2,h3]:=JO X N hG p1 r1 s r _ (tr++[p]) _ e' (ZF.mpr #[nd,by simp,λa M b Q z=>J<|by rw[Yu]at Q;rw[<-Q,<-z];exact u a M]) (λt h=>by
    rcases df h with h|h
    .exact YH _<|u t h
    .rw[h];exact YC _<|YJ p) (YH _ E) g1 (by rwa[R.w]) (R.f.trans hq) (by rwa[R.f]) t1 (λa A O=>(al a A O).mono m1) λx C=>by
    rcases df C with h|h
    .exact λz=>(c x h z).imp λ_ y=>#[y.1.mono m1,y.2]
    .rw[h];exact c1
   exact#[g2,R.trans k2,h2,h3]
end
def Fu(n:Int)(m:Nat)(q:Qj):Prop:=∃A,we n q A/\n<A.length+m
def iU(b:1<=n):¬Fu n 0 q:=λ#[A,h,l]=>by
 have:=cM A (ao n) (vA h) λx a=>aA.mpr<|h.1 x a
 rw[aG]at this;lia
def iG{m}(g:q.length=n)(h:Fu n (m+1) q)(a:k∈opn q n):Fu n m (ch ts n q k):=by let#[A,h,l]:=h;let#[c,j,i,b,e]:=jc g a;let#[x,f]:=yo h (bK a) i b e c;exact#[_,f,by rw[Yv];lia]
theorem ze(X:Cx3 ks ts n):∀m w q,Node ks ts n w q->Fu n m q->GoS ks ts n m w q (goP ks ts n m w q)
 |0,w,q,_,fu=>(iU X.hn.1 fu).elim
 |m+1,w,q,N,fu=>by
  let u:=N.pt X.hn X.hk;let j:=X.hn.1;by_cases o:opn q n=[]
  .have B:lv ts n (m+1) q=[inv n q]:=by delta lv;rw[Yl o]
   let I:=kj u o;let J:=fw j I;rw[show goP ks ts n (m+1) w q=arr ks ts n w (inv n q)from funext λS=>Yl o];exact#[λS K=>?_,λS g ho=>?_]
   .delta arr;rw[Yl K.1,K.2];exact#[qx,#[J,J,qx,qx,λg R=>nomatch R],ZW,#[q,I,qx,λv v v v l=>l],?_,#[nofun,nofun,Gh j],λa A fa=>?_]
    .rw[B];exact YJ _
    .let eq:=N.leaves X.hn X.hk A fa;rw[show a=ao n from Dx (aO j A.p).1 (aO j<|.refl _).1 λi L=>by
      rw[js L,<-dJ j I<|cW j A.p L,<-kx j A.p q L,eq,dJ j I L]]
     exact .one
   .have ne:¬S.fst=[]:=λz=>by
     have:=g.l1.length_eq;rw[z,aG]at this;simp[YV]at *;lia
    have gb:∀P,(∀g∈P,Au ks ts n g)->Good ks ts n #[S.way,S.fst,S.frow,if ltD (bQ ks ts<|inv n q) S.brow then inv n q else S.lst,if ltD (bQ ks ts<|inv n q) S.brow then bQ ks ts (inv n q)else S.brow,P]:=λP H=>by
     split
     .exact#[g.l1,J,g.r1,qx,H]
     .exact#[g.l1,g.l2,g.r1,g.r2,H]
    let e:=c6 (bQ ks ts<|inv n q) S.frow (by rw[g.r1];exact pZ ..);delta arr;rw[Yn ne];by_cases y:eqd (bQ ks ts<|inv n q) S.frow
    .rw[Yl y];let e:=e.mp y;exact#[gb _ λt ht=>?_,#[qx,qx,qx],.inr #[qx,inv n q,by rw[B];exact YJ _,e,qx]];rcases YO.mp ht with z|z
     .exact g.au t z
     .rw[Yu.mp z];exact Ap j X.hs g.l1 J<|by rw[<-g.r1,e]
    .rw[Yn y];exact#[gb _ g.au,#[qx,qx,qx],.inl #[qx,qx,λl s z=>y<|e.mpr<|by rw[B,Yu]at s;rwa[<-s]]]
  .have B:lv ts n (m+1) q=(opn q n).flatMap λk=>lv ts n m (ch ts n q k):=by show(if opn q n=[]then _ else _)=_;rw[Yn o]
   have T:∀p∈opn q n,GoS ks ts n m _ _ _:=λp E=>ze X m _ _ (N.cons E)<|iG u.1 fu E
   rw[show goP ks ts n (m+1) w q=lp _ w _ []from funext λS=>Yn o];exact#[λS K=>?_,λS g ho=>?_]
   .obtain⟨f,r,e⟩:∃f r,opn q n=f::r:=by
     cases z:opn q n with
     |nil=>exact absurd z o
     |cons f r=>exact#[f,r,qx]
    have M:f∈opn q n:=by rw[e];exact Ye
    let#[b,g1,O,#[q1,p1,f1,Z],c1,Q,a1]:=(T f M).1 S K;have nl:lo S w [] f=false:=YB λz=>by
     have:bfs (nbs<|S.trn.filter<|hU w) 10 [] 0=[]:=rfl;rw[this]at z;cases z
    have st:lp (λp S=>goP ks ts n m (w++[p]) (ch ts n q p) S) w (opn q n) [] S=lp (λp S=>goP ks ts n m (w++[p]) (ch ts n q p) S) w r ([]++[f]) (goP ks ts n m (w++[f]) (ch ts n q f) S).2:=by rw[e];show(if lo S w [] f then _ else _)=_;rw[nl,Yn Yk,b,Va,Yn Yk]
    rw[st];let#[Y,C,U,h3,h4]:=JO X N T p1 ((jB 100 _).trans Z) M r [f] ([]++[f]) _ e (by simp) (λt h=>h) (YJ f) g1 (by rwa[Yo]at O) f1 c1 #[λg R x hx=>Q.fx g R x<|YH _ hx,Q.mv,Q.w] a1 λp u v=>#[ao n,.one,by rw[Yu.mp u];exact js<|bK M]
    exact#[U,Y,?_,#[q1,p1,C.f.trans f1,(xu f).trans Z],?_,h3,h4]
    .rw[C.w];have:=YU (λl=>l.take w.length) O;simpa[VC]using this
    .rw[C.f,B];exact Xg.mpr #[f,M,c1]
   .let#[Y,C,U]:=Ii X N T _ [] [] S qx (λv h=>nomatch h) g ho λv h=>nomatch h
    exact#[Y,C,U.imp (λ#[a,b,c]=>#[a,b,λl s=>?_]) λ#[a,p,u,l,s,hr]=>#[a,l,by rw[B];exact Xg.mpr #[p,u,s],hr]];rw[B]at s;let#[p,u,s]:=Xg.mp s;exact c p u l s
end
def Jv(h:F[d]?=()):bfs nb (k+1) F d=F:=by delta bfs;rw[h]
def JN{a}(h:F[d]?=!a):bfs nb (k+1) F d=bfs nb k (lu F (nb a)) (d+1):=by show(match F[d]? with|none=>F|some a=>bfs nb k _<|d+1)=_;rw[h]
def knw(F:Qj):List (Key×D):=F.map λx=>(.inl x,.bl true)
def GQ F x:(dq (knw F) (.inl x)).isSome=decide (x∈F):=by
 induction F with
 |nil=>rfl
 |cons y F ih=>
  delta knw at ih ⊢;rw[YF,cy];by_cases h:(Sum.inl y:Key)=.inl x
  .rw[Yl h];have:y=x:=Ur h;subst this;simp
  .rw[Yn h,ih];have:¬x=y:=λz=>h<|by rw[z]
   simp[this]
def zw F x(h:x∉F):eS (knw F) (.inl x) (.bl true)=knw (F++[x]):=by
 delta eS knw;rw[Yn,YW]
 .rfl
 .intro z;let#[e,c,b]:=List.any_eq_true.mp z;let#[y,a,rfl]:=Yg.mp c;have:Sum.inl y=.inl x:=YE b;exact h<|Ur this ▸ a
def jI(h:st d ρ=!ρ1)(a:body ρ1=!.nx ρ2):eV st body (d::ds) ρ=eV st body ds ρ2:=by rw[eV];simp[h,a]
def AD{c}(h:c ρ=!false):dF c body (k+1) ρ=!.nx ρ:=by rw[dF];simp[h]
def A8{c}(h:c ρ=!true)(a:body ρ=!.nx ρ'):dF c body (k+1) ρ=dF c body k ρ':=by rw[dF];simp[h,a]
abbrev rF(S:D)(a0:Addr)(v0:V)(dc:D)(F:Qj)(d:Nat)(x6 x:Option DV):DF:=[sV S,sV<|.fn a0 v0 dc,sV<|.non,oW (.lst<|F.map .int) (),oW (.dK<|knw F) (),sI d,x6,x]
def Ec:∀xs F a,F.length+xs.length<=7000000->∃y,
  eV (setV 7) (dIf (asB<|d2 mD (getV 7)<|ac 4) (am (mF 4 (getV 7) λ_=>!.bl true)
 <|du 3<|getV 7) dNx) (xs.map .int) (rF S a0 v0 dc F d x6 a)=!.nx (rF S a0 v0 dc (lu F xs) d x6 y)
 |[],F,a,_=>#[a,qx]
 |x::xs,F,a,hl=>by
  rw[jz];rw[Yv]at hl;have b:=GQ F x;have c:(knw F).length<16777216:=by delta knw;rw[Ya];lia
  have l:(F.map D.int).length<16777216:=by rw[Ya];lia
  by_cases h:x∈F
  .let#[y,e]:=Ec xs F (sI x) (by lia);exact#[y,?_];rw[Yl h,<-e];rw[YI h]at b;let#[w,f]:=Xd.mp b;rw[YF];exact jI qx ?_;delta rF;generalize knw F=K at *;simp[mD,ja,f]
  .let#[y,e]:=Ec xs (F++[x]) (sI x) (by rw[Yo];simp;lia);exact#[y,?_];rw[Yn h,<-e];rw[YB h,Option.isSome_eq_false_iff,Option.isNone_iff_eq_none]at b;rw[YF];exact jI qx ?_;let g:=zw F x h;have i:(F++[x]).map D.int=F.map D.int++[D.int x]:=by simp
   delta rF;rw[i,<-g];generalize knw F=K,F.map D.int=U at *;simp[mD,ja,b,mF,c,l]
def Cu{a0}{v0}{dc}{nb}{M:Qj}(l:∀a∈M,∀b∈nb a,b∈M)(p:M.length<=7)(i:∀a∈M,(nb a).length<=6000000)(f:∀a∈M,nJ C [sI a,sV dc]=!.lst ((nb a).map .int)):∀k F d x6 c,F.Nodup->(∀x∈F,x∈M)->d<=F.length->M.length<d+k->∃d' o y,
  dF (fV (asB<|d2 ltd (ap 5)<|d1 bU<|ap 3)<|orT (DL 2)<|asB<|d2 leI (d1 bU<|ap 3)<|ac 2) (am (aC 6<|d2 ixD (ac 3)<|ac 5)
 <|am (d5 (cQ<|oF 1 a0 v0 (nJ C)<|getV 6) (setV 7)<|dIf (asB<|d2 mD (getV 7)<|ac 4) (am (mF 4 (getV 7) λ_=>!.bl true)
 <|du 3<|getV 7) dNx)
 <|GN 5<|cI 1) k (rF S a0 v0 dc F d x6 c)=!.nx (rF S a0 v0 dc (bfs nb k F d) d' o y)
 |0,F,d,x6,c,hn,hF,hd,hl=>by have:=cM _ _ hn hF;lia
 |k+1,F,d,x6,c,hn,hF,hd,hl=>by
  let len:=cM _ _ hn hF;have j:∀b,decide (d<F.length)=b->(fV (asB _)<|orT (DL 2)<|asB<|d2 leI (d1 bU<|ap 3)<|ac 2) _=!b:=λb B=>by
   have e:asB (d2 ltd (ap 5)<|d1 bU<|ap 3) (rF S a0 v0 dc F d x6 c)=!b:=by rw[<-B];delta rF;simp
   delta fV;rw[e];cases b with
   |false=>rfl
   |true=>rfl
  cases q:F[d]? with
  |none=>
   have:=Xv.mp q;rw[Jv q];exact#[d,x6,c,AD<|j false<|YB<|by lia]
  |some a=>
   let lt:=(Ym.mp q).1;let g:=hF a<|YR q;rw[JN q];let#[y,e]:=Ec (nb a) F c (by have:=i a g;lia);let#[d',m,z,H]:=Cu l p i f k _ (d+1) (sI a) y (oC hn) (λx w=>by
    rcases gr.mp w with h|h
    .exact hF x h
    .exact l a g x h) (by let#[s,E]:=qw (nb a) F;rw[E,Yo];lia)<|by lia
   exact#[d',m,z,?_];rw[<-H];exact A8 (j true<|YI lt) ?_;have u:ixD (.lst<|F.map .int) (.int d)=!.int a:=by exact iP<|by rw[Yt,q];rfl
   rw[ak (ρ':=rF S a0 v0 dc F d (sI a) c) (by
    delta rF;generalize knw F=K,F.map D.int=U at *;simp[u,dvD])]
   rw[ak (by
    rw[<-e];delta d5;have A:cQ (oF 1 a0 v0 (nJ C)<|getV 6) (rF S a0 v0 dc F d (sI a) c)=!(nb a).map .int:=by
     have:oF 1 a0 v0 (nJ C) (getV 6) (rF S a0 v0 dc F d (sI a) c)=!.lst ((nb a).map .int):=by delta oF;exact(Yl #[qx,qx]).trans<|f a g
     delta cQ;rw[this]
    rw[A];rfl)]
   rfl
theorem zc:∀tr F,(F++tr).Nodup->l6 (knw F) (knw tr)=knw (F++tr)
 |[],F,_=>by rw[Zc];rfl
 |x::tr,F,h=>by
  show l6 (eS _ _ _) (knw tr)=_;have e:F++x::tr=(F++[x])++tr:=by rw[Zh];rfl
  rw[zw F x λz=>(ZF.mp h).2.2 x z x Ye qx,zc tr _<|e ▸ h,e]
def sG:∀tr:Qj,gO (tr.map λx=>D.tup [.int x,.bl true])=!knw tr
 |[]=>rfl
 |x::tr=>by
  show(gO _).map _=_;rw[sG];rfl
def LC{M:Qj}(p:∀a∈M,∀b∈nb a,b∈M)(m:M.length<=7)(j:∀a∈M,(nb a).length<=6000000)(h:∀a∈M,nJ C [sI a,sV dc]=!.lst ((nb a).map .int))(c:tr.Nodup)(g:∀x∈tr,x∈M):jZ 8 (g_reached C) dc (.v<|dL tr)=!(bfs nb 10 tr 0).map .int:=Bm λa0 v0=>by
 let u:=cM _ _ c g;have s:(tr.map D.int).length<=7:=by rw[Ya];lia
 let#[w,q,y,e]:=Cu p m j h 10 tr 0 () () c g (YN _) (by lia);delta g_reached;rw[ak (ρ':=[sV _,sV _,sV<|.non,oW _ (),(),(),(),()]) qx];rw[ak (by
  have l:bO (setV 0) bf (asT<|ag (getV 0)<|ag (λ_=>!.bl true) aE) [()] _=!(tr.map λx=>D.tup [.int x,.bl true]):=bq D.int _ tr λx _=>#[_,qx,qx,qx]
  have o:vW 3 (zD<|aI 1 [] (bu 3) (setV 0) bf<|asT<|ag (getV 0)<|ag (λ_=>!.bl true) aE) [sV<|dL tr,sV<|.fn a0 v0 dc,sV<|.non,oW (.lst<|tr.map .int) (),(),(),(),()]=!.dK (knw tr):=by show((if(tr.map D.int).length<=16777216 then bO _ _ _ [()] (tr.map D.int)else ()).bind λi=>(gO i).bind λf=>if i.length<=1000 then !OD.dK _ else ())=_;rw[Yl<|by lia,l,Yb,sG,Yb,Yl<|by rw[Ya];lia];exact YU (λx=>!OD.dK x)<|zc tr [] c
  show(vW 3 _ _).map _=_;rw[o];rfl)]
 rw[ak (ρ':=rF _ a0 v0 dc tr 0 () ()) qx];rw[ak e];rfl
section
variable{n:Int}
def qg(a:1<=n){g}(p:g.Perm (ao n)){i}(h:In n i):ixD (dL g) (.int i)=!.int (ox g i):=Bx (aO a p).1 h
def G4(h:1<=n)(e:∀g∈T,g.Perm (ao n))(f:T.length<=6000000){a}(c:In n a):nJ C [sI a,sV (.lst (T.map dL))]=!.lst ((nbs T a).map .int):=by delta nJ;rw[eR,cP,a9];show(((if(T.map dL).length<=16777216 then bO _ bf _ [(),sI a] (T.map dL)else ())).map OD.lst).map OD.d=_;rw[Yl<|by rw[Ya];lia,bq dL _ T λg b=>#[_,qx,qx,qg h (e g b) c]];show some (D.lst _)=!.lst ((T.map λg=>ox g a).map .int);rw[YD];rfl
theorem Bi(b:1<=n){g w}(p:g.Perm (ao n))(hw:∀x∈w,In n x)(l:w.length<=7):f_ C [.v (dL g),.v (dL w)]=sV (.bl (hU w g)):=by
 delta f_ wp;show bY (aY _ [sV<|dL g,sV<|dL w])=_;have c:bO (setV 0) bf (d2 eqD (d2 ixD (ac 1)<|ac 0)<|ap 0) [(),sV<|dL g] (w.map D.int)=!(w.map λx=>decide<|ox g x=x).map .bl:=by
  rw[YD];exact bq D.int _ w λx a=>#[_,qx,qx,?_]
  show(ixD (dL g)<|.int x).bind _=_;rw[qg b p<|hw x a];show eqD (.int _) (.int x)=_;rfl
 have h:(w.map D.int).length<=16777216:=by rw[Ya];lia
 have f:aI 1 [0] (bu 1) (setV 0) bf (d2 eqD (d2 ixD (ac 1)<|ac 0)<|ap 0) [sV<|dL g,sV<|dL w]=!(w.map λx=>decide<|ox g x=x).map .bl:=by rw[a9];show(if(w.map D.int).length<=16777216 then bO _ _ _ [(),sV<|dL g] (w.map D.int)else ())=_;rw[Yl h,c]
 rw[lD,DB,eR,cP,f];show bY (((qF<|.lst _).map _))=_;have j:((w.map λx=>decide<|ox g x=x).map D.bl).all um:=Yh.mpr λd e=>by let#[x,_,rfl]:=Yg.mp e;rfl
 have i:((w.map λx=>decide<|ox g x=x).map D.bl).all trD=hU w g:=by delta hU;rw[List.all_map,List.all_map];rfl
 rw[show qF (.lst _)=!.bl _ from(Yl j).trans<|by rw[i]];rfl
end
def sFs(W:D)(S:Sst):List (Str×FO):=[("web",.d W),("way",.d<|dL S.way),("first",.d<|dL S.fst),("first_row",.d S.frow),("least",.d<|dL S.lst),("best_row",.d S.brow),("turnings",.lL S.trn)]
abbrev sO(W:D)(S:Sst):OD:=.obj (!ah)<|sFs W S
abbrev sD(W:D)(S:Sst):D:=.ins ah [("web",W),("way",dL S.way),("first",dL S.fst),("first_row",S.frow),("least",dL S.lst),("best_row",S.brow),("turnings",.lst<|S.trn.map dL)]
section
variable{n:Int}
def Hj p F:inD (.int p) (dL F)=!.bl (decide (p∈F)):=by
 have f:(F.map D.int).all (okN 29):=Yh.mpr λd b=>by let#[x,_,rfl]:=Yg.mp b;rfl
 have c:((F.map D.int).any λz=>eqd z<|.int p)=decide (p∈F):=by
  rw[List.any_map,Bool.eq_iff_iff,List.any_eq_true,YQ];constructor
  .rintro⟨x,a,e⟩;have e:eqd _ _:=e;exact YE e ▸ a
  .intro h;exact#[p,h,by show eqd _ _;exact YI qx]
 show(if(okN 30 _&&(F.map D.int).all _) then !D.bl _ else ())=_;rw[f,Yl<|show(okN 30 _&&true) from rfl,c]
def Gk(e:1<=n/\n<=7){w}{p}(i:∀g∈S.trn,g.Perm (ao n))(z:S.trn.length<=6000000)(hw:∀x∈w,In n x)(m:w.length<=7)(o:tr.Nodup)(s:∀x∈tr,In n x):bR C [.v<|sD W S,.v<|dL w,.v<|dL tr,.v<|.int p]=sV (.bl<|lo S w tr p):=by
 delta bR gA;let E:=λg h=>Bi (C:=C) e.1 (i g h) hw m
 have y:bO (setV 0) (asB<|aj (f_ C)<|aB 0<|aB 1 nA) (getV 0) [(),sV<|dL w] _=!(S.trn.filter<|hU w).map dL:=jE dL (hU w) dL S.trn λg c=>#[[sV<|dL g,sV<|dL w],qx,by
  let h:=E g c;generalize f_ C=L at h ⊢;simp[h,asB],λ_=>rfl]
 have A:(aI 1 [1] (cQ<|d1 (jU ah "turnings")<|getV 0) (setV 0) (asB<|aj (f_ C)<|aB 0<|aB 1 nA)<|getV 0) [sV<|sD W S,sV<|dL w,sV<|dL tr,sI p,()]=!(S.trn.filter<|hU w).map dL:=by rw[a9];show(if(S.trn.map dL).length<=16777216 then bO _ _ _ [(),sV<|dL w] (S.trn.map dL)else ())=_;rw[Yl<|by rw[Ya];lia,y]
 have j:(S.trn.filter<|hU w).length<=6000000:=YA (List.length_filter_le _ _) z;have l:∀g∈S.trn.filter<|hU w,g.Perm (ao n):=λg c=>i g (YL.mp c).1
 let u:=LC (C:=C) (λa f b B=>by
   let#[g,c,rfl]:=Yg.mp B;exact aA.mpr<|cW e.1 (l g c)<|aA.mp f) (by rw[aG];lia) (λa _=>by delta nbs;rwa[Ya]) (λa f=>G4 e.1 l j<|aA.mp f) o λx q=>aA.mpr<|s x q
 show bY (am _ _ [sV _,sV<|dL w,sV _,sI p,()])=_;rw[ak (ρ':=[sV _,sV<|dL w,sV _,sI p,sV<|.lst _])<|by rw[fi,eR,cP,A];rfl];have H:asO (yy 8 4 (g_reached C)<|lend 2) [sV<|sD W S,sV<|dL w,sV<|dL tr,sI p,sV<|.lst<|(S.trn.filter<|hU w).map dL]=!dL (bfs (nbs<|S.trn.filter<|hU w) 10 tr 0):=by show((jZ 8 _ _ _).map OD.lst).map OD.d=_;rw[u];rfl
 rw[lD,r8,H];show bY (((inD _<|dL _)).map _)=_;rw[Hj];rfl
theorem Jr(m k:Nat):HT.sIx m m (!k)=min k m:=by delta HT.sIx;simp;lia
def JH{S}{w}:bT C [.v (sD W S),.v (dL w)]=sV (.bl (onf S w)):=by
 have h:gU (S.way.map D.int) () (some<|((w.map D.int).length))=(S.way.take w.length).map D.int:=by
  delta gU;rw[Jr,Ya,Ya,show HT.sIx S.way.length 0 ()=0 from rfl,List.drop_zero,Nat.sub_zero,<-List.map_take]
  rw[<-VC,ZW]
 show bY (((eqD (.lst<|gU _ () _)<|dL w)).map _)=_;rw[h,BS];rfl
def wJ{e}{f}(b:n<=7)(h:∀i,In n i->e (ρ.set 0 (sI i))=!.int (f i)):bO (setV 0) bf e ρ ((ao n).map .int)=!((ao n).map f).map .int:=by rw[YD];exact bq D.int _ _ λi a=>#[_,qx,qx,h i<|aA.mp a]
end
section
variable{n:Int}
def yu{x}(h:x∈out):jL (dL out) (.int x)=!.int (ix out x):=by
 have b:(out.map D.int).all (okN 29):=Yh.mpr λd a=>by let#[y,_,rfl]:=Yg.mp a;rfl
 show(if((out.map D.int).all _&&okN 30 _) then(i7 _ _).map (λ(j:Nat)=>D.int _)else ())=_;rw[b,Yl<|show(true&&okN 30 _) from rfl,vy x out h];rfl
theorem Iy(h:1<=n/\n<=7)(p:q.Perm (ao n)):e7 C [.v (dL q)]=oW (.lst ((inv n q).map .int)) ():=by
 let c:=(aO h.1 p).1;delta e7 pc;have a:cZ (d1 bU<|ap 0) [sV<|dL q]=!_:=dS (by show some _=_;rw[Ya,c]) (by lia);let b:=wJ (e:=d2 jL (ap 1)<|ap 0) (ρ:=[(),sV<|dL q]) h.2 λi g=>yu<|p.mem_iff.mpr<|aA.mpr g
 rw[p8];show bY (dg _ [sV<|dL q])=_;rw[fE,cP,a9,a,Yb,Yl<|by rw[Ya,aG];lia];show bY (((bO _ bf _ [(),sV<|dL q] _).map OD.lst).map _)=_;rw[b];rfl
theorem xO(h:1<=n/\n<=7){a b}(p:a.Perm (ao n))(g:b.Perm (ao n)):f6 C [.v (dL a),.v (dL b)]=oW (.lst ((jx n a b).map .int)) ():=by
 let m:=(aO h.1 p).1;delta f6 rS;have j:cZ (d1 bU<|ap 0) [sV<|dL a,sV<|dL b]=!_:=dS (by show some _=_;rw[Ya,m]) (by lia);let l:=wJ (e:=d2 ixD (ac 1)<|d2 jL (ap 2)<|ap 0) (ρ:=[(),sV<|dL b,sV<|dL a]) h.2 λi c=>by
  show(jL (dL a) _).bind _=_;rw[yu<|p.mem_iff.mpr<|aA.mpr c];exact qg h.1 g<|h_ h.1 p c
 rw[g9];show bY (dg _ [sV<|dL a,sV<|dL b])=_;rw[fE,cP,a9,j,Yb,Yl<|by rw[Ya,aG];lia];show bY (((bO _ bf _ [(),sV<|dL b,sV<|dL a] _).map OD.lst).map _)=_;rw[l];rfl
def JI{o o'}(h:S[i]?=!oW (.obj (!ah) fs) t)(a:fs.length<1000)(h1:fs.lookup x=!o)(h2:k o=!o')(b:fS x o' fs=fs'):oQ (!ah) i x k S=!S.set i (oW (.obj (!ah) fs') t):=by delta oQ;rw[h];show(if some ah=!ah/\fs.length<1000 then _ else _)=_;rw[Yl #[qx,a],h1,Yb,h2,<-b];rfl
def gQ{f}{o}(h:ρ[0]?=!oW (sO W S) t)(a:f ρ=!d)(h1:(sFs W S).lookup x=!o)(h2:Hs d o=!.d d)(b:fS x (.d d) (sFs W S)=sFs W S'):i6 ah 0 x f ρ=!.nx (ρ.set 0 (oW (sO W S') t)):=by delta i6;rw[a,Yb,JI h (show 7<1000 by decide) h1 h2 b];rfl
def Er{S}{w e}:dY C (sO W S) [.v (dL w),.v (dL e),.v r]=!(sO W #[w,e,r,e,r,S.trn],.non):=lB qx λa=>by
 exact#[.nx [oW _ _,sV<|dL w,sV<|dL e,sV r],?_,qx,qx];delta gv
 rfl
end
section
variable{n:Int}
def oh{m}{g}(h:ρ[i]?=!oW (sO W S) t)(h1:(sFs W S).lookup x=())(h2:g ρ=!(ds,ρ))(a:m (sO W S) (ds.map .v)=!(o',d)):dD ah x i m g ρ=!(d,ρ.set i (oW o' t)):=by delta dD;rw[show o9 (!ah) i ρ=!sFs W S from by delta o9;rw[h];exact Yl qx,Yb,Yl h1,h2,Yb];show(match ρ[i]? with|some (!.own o t)=>(m o _).map λ(r:OD×D)=>(r.2,ρ.set i _)|_=>())=_;rw[h];show(m _ _).map _=_;rw[a];rfl
def SG(ks:List Str)(ts:List T4)(n:Int)(S:Sst):Prop:=(S.fst=[]\/(S.fst.Perm (ao n)/\S.lst.Perm (ao n)/\S.frow=bQ ks ts S.fst/\S.brow=bQ ks ts S.lst))/\∀g∈S.trn,g.Perm<|ao n
abbrev aF(W:D)(S:Sst)(a:Addr)(w e R:D):DF:=[oW (sO W S)<|!a,sV w,sV e,sV R]
section
variable{Le:Dm}{Be:Dz}{w e ld:D}{S:Sst}
def Mo(h:Ro [.v W,.v e]=sV R):(aC 3 (aj Ro (aV (fP (!ah) 0 "web") (aB 2 nA)))) [oW (sO W S) (!a),sV w,sV e,()]=!.nx (aF W S a w e R):=by show((Ro [.v W,.v e]).bind dvD).map _=_;rw[h];rfl
def Ld(z:S.fst=[])(h:Be (sO W S) [.v w,.v e,.v R]=!(sO W S',.non)):(dIf (bE (kM (fP (!ah) 0 "first"))) (am (i_ (dD ah "begin" 0 Be (cg (cn (getV 1)) (cg (cn (getV 2)) (cg (cn (getV 3)) mC)))))
  (aY (λ_=>!.bl false))) dNx) (aF W S a w e R)=!.rt (.v (.bl false)) (aF W S' a w e R):=by
 have c:bE (kM<|fP (!ah) 0 "first") (aF W S a w e R)=!true:=by show(!((not<|((S.fst.map D.int).isEmpty)))).map _=_;rw[z];rfl
 rw[bJ,c,Yb,Yl qx,ak<|by
  delta i_;rw[oh qx qx qx h];rfl]
 rfl
def KM(z:¬S.fst=[]):(dIf (bE (kM (fP (!ah) 0 "first"))) (am (i_ (dD ah "begin" 0 Be (cg (cn (getV 1)) (cg (cn (getV 2)) (cg (cn (getV 3)) mC)))))
  (aY (λ_=>!.bl false))) dNx) (aF W S a w e R)=!.nx (aF W S a w e R):=by
 have c:bE (kM<|fP (!ah) 0 "first") (aF W S a w e R)=!false:=by
  show(!((not<|((S.fst.map D.int).isEmpty)))).map _=_;cases q:S.fst with
  |nil=>exact absurd q z
  |cons _ _=>rfl
 rw[bJ,c,Yb,Yn Yk];rfl
def MA{e}(h:ltd R S.brow=!.bl (ltD R S.brow)):(dIf (asB (d2 ltd (ap 3) (fP (!ah) 0 "best_row"))) (am (i6 ah 0 "least" (getV 2))
  (i6 ah 0 "best_row" (getV 3))) dNx) (aF W S a w (dL e) R)=!.nx (aF W #[S.way,S.fst,S.frow,if ltD R S.brow then e else S.lst,if ltD R S.brow then R else S.brow,S.trn] a w (dL e) R):=by
 have c:asB (d2 ltd (ap 3)<|fP (!ah) 0 "best_row") (aF W S a w (dL e) R)=!ltD R S.brow:=by show asB (λ_=>ltd R S.brow) []=_;delta asB;rw[h]
 rw[bJ,c,Yb];cases ltD R S.brow with
 |true=>
  rw[Yl qx,ak<|gQ (S':=#[S.way,S.fst,S.frow,e,S.brow,S.trn]) qx qx qx qx qx,gQ (S':=#[S.way,S.fst,S.frow,e,R,S.trn]) qx qx qx qx qx];rfl
 |false=>rfl
def MJ{b}(h:eqD R S.frow=!.bl b)(f:b->Le [.v (dL S.fst),.v e]=oW (.lst (l.map .int)) ()/\S.trn.length<=6000000/\l≠[]):(am (dIf (asB (d2 eqD (ap 3) (fP (!ah) 0 "first_row"))) (am (pJ ah 0 "turnings" (eW Le (aV (fP (!ah) 0 "first") (aB 2 nA))))
  (aY (λ_=>!.bl true))) dNx)
  (aY (λ_=>!.bl false))) (aF W S a w e R)=!.rt (.v (.bl b)) (aF W #[S.way,S.fst,S.frow,S.lst,S.brow,if b then S.trn++[l]else S.trn] a w e R):=by
 have g:asB (d2 eqD (ap 3)<|fP (!ah) 0 "first_row") (aF W S a w e R)=!b:=by show asB (λ_=>eqD R S.frow) []=_;delta asB;rw[h]
 cases b with
 |true=>
  let#[f,j,c]:=f qx;let#[x,y,rfl]:=List.exists_cons_of_ne_nil c;have i:eW Le (aV (fP (!ah) 0 "first")<|aB 2 nA) (aF W S a w e R)=!.lst ((x::y).map .int):=by show(Le [.v _,.v e]).bind dvO=_;rw[f];rfl
  exact gN ?_;rw[bJ,g,Yb,Yl qx,ak (ρ':=aF W #[S.way,S.fst,S.frow,S.lst,S.brow,S.trn++[x::y]] a w e R)<|by
   delta pJ;rw[i];show(match(!FO.lL S.trn),i4 ((x::y).map .int)with|some<|.lL ts,!(x::y)=>(if ah=ah/\ts.length<16777216 then !RES.nx _ else ())|_,_=>())=_;rw[lO];show(if ah=ah/\S.trn.length<16777216 then _ else _)=_;rw[Yl #[qx,by lia]];rfl]
  rfl
 |false=>
  rw[ak<|by rw[bJ,g,Yb,Yn Yk];rfl];rfl
end
def JR(h:1<=n/\n<=7)(c:okK n ks){T}(u:JOk kvs ts){w e}(p:e.Perm (ao n))(f:SG ks ts n S)(j:S.trn.length<=6000000):cN C (sO (.ins C<|wFs ks T<|.dT kvs) S) [.v<|dL w,.v<|dL e]=!(sO (.ins C<|wFs ks T<|.dT kvs) (arr ks ts n w e S).2,.bl (arr ks ts n w e S).1):=lB qx λa=>by
 let s:=rX C ks T kvs ts e n h c.1 p u;let o:=kP (ts:=ts) h.1 c p;let x:=λR=>Er (C:=C) (W:=.ins C<|wFs ks T<|.dT kvs) (r:=R) (S:=S) (w:=w) (e:=e)
 let#[f,I]:=f;have A:¬S.fst=[]->ltd _ S.brow=!.bl (ltD _ S.brow)/\eqD _ S.frow=!.bl (eqd _ S.frow)/\f6 C [.v _,.v<|dL e]=oW _ ():=λz=>by
  let#[g,i,m,q]:=f.resolve_left z;exact#[?_,?_,xO h g p]
  .delta ltd;rw[q,o,kP h.1 c i,pZ];rfl
  .rw[m];exact xD o<|kP h.1 c g
 show ∃r,fM C [oW _<|!a,sV<|dL w,sV<|dL e,()]=!r/\_;delta fM arr;generalize D.ins C _=W,bQ ks ts e=R,dG C=Ro,f6 C=Le,dY C=J at *;rw[ak<|Mo s];by_cases z:S.fst=[]
 .rw[Yl z];exact#[_,gN<|Ld z<|x R,qx,qx]
 .rw[Yn z];let#[H,E,B]:=A z;have:=MJ (W:=W) (w:=dL w) (a:=a) (S:=#[S.way,S.fst,S.frow,if ltD R S.brow then e else S.lst,if ltD R S.brow then R else S.brow,S.trn]) E λ_=>#[B,j,λz=>by have:=YU List.length z;delta jx at this;rw[Ya,aG,YV]at this;lia]
  exact#[_,(ak<|KM z).trans<|(ak<|MA H).trans this,?_];by_cases y:eqd R S.frow
  .rw[Yl y,y];exact#[qx,qx]
  .rw[Yn y,Bool.eq_false_iff.mpr y];exact#[qx,qx]
end
section
variable{n:Int}
abbrev gF(W:D)(S:Sst)(a:Addr)(w q chs:D)(tr:Qj)(x5 x6:Option DV):DF:=[oW (sO W S)<|!a,sV w,sV q,sV chs,oW (.lst<|tr.map .int) (),x5,x6]
section
variable{On Chs:Dm}{R:Dz}{w q chs:D}{S:Sst}{p:Int}{b:Bool}
def GE{x}(h:st d ρ=!ρ1)(a:body ρ1=!.rt x ρ2):eV st body (d::ds) ρ=!.rt x ρ2:=by rw[eV];simp[h,a]
def yC(h:([("web",W),("way",dL S.way),("first",dL S.fst),("first_row",S.frow),("least",dL S.lst),("best_row",S.brow),("turnings",.lst (S.trn.map dL))]:List (Str×D)).lookup mn=())xs:mT ah mn (.v (sD W S)::xs):=by show(match(if ah=ah then !([("web",W),("way",dL S.way),("first",dL S.fst),("first_row",S.frow),("least",dL S.lst),("best_row",S.brow),("turnings",.lst _)]:List<|Str×D)else ())with|some fs=>(fs.lookup mn).isNone|none=>false);rw[Yl qx];simp only;rw[h];rfl
def Lu(h:Lo [.v (sD W S),.v w,.v (dL tr),.v (.int p)]=sV (.bl b)):(cK 4 (cK 0 (bE (asB (bF ah "left_out" Lo (ck (cG 0) (aB 1 (aB 4 (aB 5 nA))))))))) (gF W S a w q chs tr (sI p) x6)=!((not<|b)):=by
 show bE _ [sV<|sD W S,sV w,sV q,sV chs,sV<|dL tr,sI p,x6]=_;have:bF ah "left_out" Lo (ck (cG 0)<|aB 1<|aB 4<|aB 5 nA) [sV<|sD W S,sV w,sV q,sV chs,sV<|dL tr,sI p,x6]=!.bl b:=by show(if mT ah "left_out" [.v<|sD W S,.v w,.v<|dL tr,.v<|.int p] then(Lo [.v _,.v w,.v _,.v _]).bind dvD else ())=_;rw[Yl<|yC qx _,h];rfl
 rw[t_];delta asB;rw[this];rfl
def K8(h:On [.v (sD W S),.v w]=sV (.bl b)):(cK 0 (fV (asB (getV 6)) (bE (asB (bF ah "on_first" On (ck (cG 0) (aB 1 nA))))))) (gF W S a w q chs tr x5 (sV (.bl r)))=!(r&&(not<|b)):=by
 show fV _ _ [sV<|sD W S,sV w,sV q,sV chs,oW _ (),x5,sV _]=_;have:bF ah "on_first" On (ck (cG 0)<|aB 1 nA) [sV<|sD W S,sV w,sV q,sV chs,oW (.lst<|tr.map .int) (),x5,sV<|.bl r]=!.bl b:=by show(if mT ah "on_first" [.v<|sD W S,.v w] then(On [.v _,.v w]).bind dvD else ())=_;rw[Yl<|yC qx _,h];rfl
 delta fV;rw[t_];delta asB;rw[this];cases r<;>rfl
def GB{w}(g:w.length<=1000)(h:Chs [.v W,.v q,.v (.int p)]=sV cq)(c:R (sO W S) [.v (dL (w++[p])),.v cq]=!(sO W S',.bl b)):(rj 6 (dD ah "go" 0 R (cg (cn (d2 aU (ac 1) (asO (asL (ag (getV 5) aE))))) (cg (cn (aj Chs (aV (fP (!ah) 0 "web") (aB 2 (aB 5 nA))))) mC)))) (gF W S a (dL w) q chs tr (sI p) x6)=!.nx (gF W S' a (dL w) q chs tr (sI p) (sV (.bl b))):=by
 delta rj;rw[oh (ds:=[dL _,cq]) qx qx ?_ c]
 .rfl
 .have f:d2 aU (ac 1) (asO<|asL<|ag (getV 5) aE) (gF W S a (dL w) q chs tr (sI p) x6)=!dL (w++[p]):=by rw[show dL (w++[p])=.lst (w.map D.int++[.int p])from by simp];exact wa _ _<|by rw[Ya,YM];lia
  have e:aj Chs (aV (fP (!ah) 0 "web")<|aB 2<|aB 5 nA) (gF W S a (dL w) q chs tr (sI p) x6)=!cq:=by show(Chs [.v W,.v q,.v _]).bind dvD=_;rw[h];rfl
  delta cg cn;rw[f];show(((aj Chs _ _).map λx=>(x,gF W S a (dL w) q chs tr (sI p) x6)).bind _).map _=_;rw[e];rfl
theorem JT(h:tr.length<=1000):(du 4 (getV 5)) (gF W S a w q chs tr (sI p) x6)=!.nx (gF W S a w q chs (tr++[p]) (sI p) x6):=by rw[Hb qx rfl<|by rw[Ya];lia];show some (RES.nx [_,_,_,_,oW _ (),_,_])=_;rw[show tr.map D.int++[D.int p]=(tr++[p]).map D.int from by simp]
def sN{w b}{cq:Int->Qj}{SGd:Sst->Prop}{B}(e:∀S tr p,SGd S->S.trn.length<=6000000->tr.Nodup->(∀x∈tr,In n x)->Lo [.v<|sD W S,.v<|dL w,.v<|dL tr,.v<|.int p]=sV (.bl<|lo S w tr p))(c:∀S:Sst,On [.v<|sD W S,.v<|dL w]=sV (.bl<|onf S w))(s:w.length<=1000)(A:∀p,In n p->Chs [.v W,.v<|dL b,.v<|.int p]=sV (dL<|cq p)):∀r tr S x5 x6,(tr++r).Nodup->(∀x∈tr++r,In n x)->n<=7->(∀p∈r,∀S,SGd S->S.trn.length+B<=6000000->R (sO W S) [.v<|dL<|w++[p],.v<|dL<|cq p]=!(sO W (G p S).2,.bl (G p S).1)/\SGd (G p S).2/\(G p S).2.trn.length<=S.trn.length+B)->SGd S->S.trn.length+r.length*B<=6000000->
  (∃ρ',ρ'[0]?=!oW (sO W (lp G w r tr S).2) (!a)/\eV (setV 5) (dIf (cK 4<|cK 0<|bE<|asB<|bF ah "left_out" Lo<|ck (cG 0)<|aB 1<|aB 4<|aB 5 nA) (am (du 4<|getV 5)
 <|am (rj 6<|dD ah "go" 0 R<|cg (cn<|d2 aU (ac 1)<|asO<|asL<|ag (getV 5) aE)<|cg (cn<|aj Chs<|aV (fP (!ah) 0 "web")<|aB 2<|aB 5 nA) mC)
 <|dIf (cK 0<|fV (asB<|getV 6)<|bE<|asB<|bF ah "on_first" On<|ck (cG 0)<|aB 1 nA) (aY λ_=>!.bl true) dNx) dNx) (r.map .int) (gF W S a (dL w) (dL b) chs tr x5 x6)=!(if(lp G w r tr S).1 then .rt (.v<|.bl true) ρ' else .nx ρ'))/\SGd (lp G w r tr S).2/\(lp G w r tr S).2.trn.length<=S.trn.length+r.length*B
 |[],tr,S,x5,x6,_,_,_,_,g,_=>#[#[_,qx,qx],g,Vf _ _]
 |p::r,tr,S,x5,x6,nd,hi,hn,hR,g,hb=>by
  have I:tr++p::r=(tr++[p])++r:=by rw[Zh];rfl
  let u:=hi p<|YC _ Ye;have l:=λx i=>hi x<|YH _ i
  let f:=(ZF.mp nd).1;let K:=cM tr (ao n) f λx i=>aA.mpr<|l x i
  rw[aG]at K;rw[Yv,Nat.succ_mul]at hb;let j:=Lu (q:=dL b) (chs:=chs) (a:=a) (x6:=x6)<|e S tr p g (by lia) f l;delta lp;rw[Yv,Nat.succ_mul,YF];cases z:lo S w tr p with
  |true=>
   rw[Yl qx,jI (ρ1:=gF W S a (dL w) (dL b) chs tr (sI p) x6) rfl<|by rw[bJ,j,z];rfl];have o:=nd.sublist<|(List.sublist_cons_self p r).append_left tr;let#[E,C,L]:=sN e c s A r tr S (sI p) x6 o (λx i=>hi x<|(YO.mp i).elim (YH _) λy=>YC _<|Yd _ y) hn (λm h=>hR m<|Yd _ h) g (by lia);exact#[E,C,by lia]
  |false=>
   let#[J,H,M]:=hR p Ye S g (by lia);have bd:(dIf (cK 4<|cK 0<|bE<|asB<|bF ah "left_out" Lo<|ck (cG 0)<|aB 1<|aB 4<|aB 5 nA) (am (du 4<|getV 5)
 <|am (rj 6<|dD ah "go" 0 R<|cg (cn<|d2 aU (ac 1)<|asO<|asL<|ag (getV 5) aE)<|cg (cn<|aj Chs<|aV (fP (!ah) 0 "web")<|aB 2<|aB 5 nA) mC)
 <|dIf (cK 0<|fV (asB<|getV 6)<|bE<|asB<|bF ah "on_first" On<|ck (cG 0)<|aB 1 nA) (aY λ_=>!.bl true) dNx) dNx) (gF W S a (dL w) (dL b) chs tr (sI p) x6)=(if((G p S).1&&(not<|onf (G p S).2 w))=true then aY (λ_=>!.bl true)else dNx) (gF W (G p S).2 a (dL w) (dL b) chs (tr++[p]) (sI p)<|sV<|.bl (G p S).1):=by rw[bJ,j,z,Yb,Yl<|by decide,ak<|JT<|by lia,ak<|GB s (A p u) J,bJ,K8<|c _,Yb];split<;>rfl
   rw[Yn Yk];cases y:((G p S).1&&(not<|onf (G p S).2 w))with
   |true=>
    rw[y,Yl qx]at bd;rw[Yl qx,GE (ρ1:=gF W S a (dL w) (dL b) chs tr (sI p) x6) rfl<|bd.trans qx];exact#[#[_,qx,qx],H,by show(G p S).2.trn.length<=_;lia]
   |false=>
    rw[y,Yn Yk]at bd;rw[Yn Yk,jI (ρ1:=gF W S a (dL w) (dL b) chs tr (sI p) x6) rfl<|bd.trans qx];let#[E,C,L]:=sN e c s A r (tr++[p]) (G p S).2 (sI p) (sV<|.bl (G p S).1) (I ▸ nd) (I ▸ hi) hn (λm h=>hR m<|Yd _ h) H (by lia);exact#[E,C,by lia]
end
end
section
variable{n:Int}
def HJ{S}{w e}(i:1<=n)(p:e.Perm (ao n))(h:SG ks ts n S):SG ks ts n (arr ks ts n w e S).2/\(arr ks ts n w e S).2.trn.length<=S.trn.length+1:=by
 delta arr;let#[l,f]:=h;by_cases z:S.fst=[]
 .rw[Yl z];exact#[#[.inr #[p,p,qx,qx],f],ZP _]
 .rw[Yn z];let#[a,b,c,d]:=l.resolve_left z;have q:(if ltD (bQ ks ts e) S.brow then e else S.lst).Perm (ao n)/\(if ltD (bQ ks ts e) S.brow then bQ ks ts e else S.brow)=bQ ks ts (if ltD (bQ ks ts e) S.brow then e else S.lst):=by
   split
   .exact#[p,qx]
   .exact#[b,d]
  split
  .exact#[#[.inr #[a,q.1,c,q.2],λg j=>?_],by show(S.trn++[_]).length<=_;rw[Yo];exact Yp _];rcases YO.mp j with y|y
   .exact f g y
   .rw[Yu.mp y];exact rg i a p
  .exact#[#[.inr #[a,q.1,c,q.2],f],ZP _]
def EI{w q e}{S S'}{b}(h1:(Opn [.v q]).bind dvD=!.lst [])(h2:Od [.v q]=oW e' ())(he:e'.d=e)(h:Arr (sO W S) [.v w,.v e]=!(sO W S',.bl b)):(am (aC 3<|aj Opn<|aB 2 nA)<|am (dIf (bE<|kM<|getV 3) (wX<|dD ah "arrive" 0 Arr<|cg (cn<|getV 1)<|cg (cn<|aj Od<|aB 2 nA) mC) dNx) G) [oW (sO W S)<|!a,sV w,sV q,(),(),(),()]=!.rt (.v<|.bl b) [oW (sO W S')<|!a,sV w,sV q,sV<|.lst [],(),(),()]:=by
 rw[ak (ρ':=[oW _ _,sV w,sV q,sV _,(),(),()])<|by
  show((Opn [.v q]).bind dvD).map _=_;rw[h1];rfl]
 exact gN ?_;rw[bJ,show bE _ [oW _ _,sV w,sV q,sV _,(),(),()]=!true from rfl,Yb,Yl qx];delta wX;rw[oh qx qx (by
  delta cg cn;show((!w).map _).bind _=_;show(((((Od [.v q]).bind dvD).map λx=>(x,_)).bind _).map _)=_;rw[h2];show(((!e'.d).map _).bind _).map _=_;rw[he];rfl) h]
 rfl
end
section
variable{n:Int}
def GJ{w q}(b:¬chs=[])(h1:(Opn [.v q]).bind dvD=!dL chs):(am (aC 3<|aj Opn<|aB 2 nA)<|am (dIf (bE<|kM<|getV 3) (wX<|dD ah "arrive" 0 Arr<|cg (cn<|getV 1)<|cg (cn<|aj Od<|aB 2 nA) mC) dNx)<|am (bC 4<|asL aE) G) [oW (sO W S)<|!a,sV w,sV q,(),(),(),()]=G (gF W S a w q (dL chs) [] () ()):=by
 rw[ak (ρ':=[oW _<|!a,sV w,sV q,sV _,(),(),()])<|by
  show((Opn [.v q]).bind dvD).map _=_;rw[h1];rfl]
 rw[ak (by
  have:bE (kM<|getV 3) [oW (sO W S)<|!a,sV w,sV q,sV<|dL chs,(),(),()]=!false:=by
   cases chs with
   |nil=>exact absurd qx b
   |cons _ _=>rfl
  rw[bJ,this];rfl)]
 rfl
def FD(a:n<=7):(opn q n).length<=7:=by
 have:=cM (opn q n) (ao n) ut λx h=>aA.mpr<|bK h
 rw[aG]at this;lia
def Ht(c:1<=n/\n<=7)(H:okK n ks){T}(L:JOk kvs ts)(J:∀ps:Qj,ps.length=n->cX C [.v (.ins C (wFs ks T (.dT kvs))),.v (dL ps)]=sV (dL (stl ts n 100 ps))):∀m w q S,(∀x∈w,In n x)->w.length+m<=8->Pt n q->Fu n m q->SG ks ts n S->S.trn.length+7^m<=6000000->
  cz C m (sO (.ins C<|wFs ks T<|.dT kvs) S) [.v<|dL w,.v<|dL q]=!(sO (.ins C<|wFs ks T<|.dT kvs) (goP ks ts n m w q S).2,.bl (goP ks ts n m w q S).1)/\SG ks ts n (goP ks ts n m w q S).2/\(goP ks ts n m w q S).2.trn.length<=S.trn.length+7^m
 |0,w,q,S,_,_,_,fu,_,_=>(iU c.1 fu).elim
 |m+1,w,q,S,hw,wl,hp,fu,g,hb=>by
  have p7:1<=7^m:=Nat.one_le_pow _ _ (by decide);rw[Nat.pow_succ]at hb ⊢;let u:=yY C (by lia) hp.1 hp.2<|.inl qx;by_cases o:opn q n=[]
  .let z:=kj hp o;let E:=fw c.1 z;rw[show goP ks ts n (m+1) w q S=arr ks ts n w _ S from Yl o];let#[Q,s2]:=HJ c.1 E g;exact#[lB qx λa=>?_,Q,by lia];let X:=JR (C:=C) (w:=w) c H (T:=T) L E g (by lia);let Y:=Iy (C:=C) c z;rw[o]at u;delta eA;generalize D.ins C _=W,bX C=Opn,e7 C=Od,cN C=A at *;exact#[_,EI u Y qx X,qx,qx]
  .rw[show goP ks ts n (m+1) w q S=lp _ w _ [] S from Yn o];let R:=FD c.2 (q:=q);have lb:(opn q n).length*7^m<=7^m*7:=by rw[Nat.mul_comm];exact Nat.mul_le_mul_left _ R
   have K:=λp f O g' y=>
    Ht c H L J m _ (ch ts n q p) O (λx s=>by
     rcases df s with h|h
     .exact hw x h
     .rw[h];exact bK f) (by rw[Yo,YM];lia) (i5 c hp p) (iG hp.1 fu f) g' y
   have M:∀p,In n p->eN C [.v _,.v<|dL q,.v _]=sV _:=λp U=>rC c hp.1 U (.inl qx) J
   have j:∀S e p,SG ks ts n S->S.trn.length<=6000000->e.Nodup->(∀x∈e,In n x)->bR C [.v<|sD (.ins C<|wFs ks T<|.dT kvs) S,.v<|dL w,.v<|dL e,.v _]=sV (.bl<|lo S w e p):=λS e p g h1 h2 Z=>Gk c g.2 h1 hw (by lia) h2 Z
   have i:∀S:Sst,bT C [.v<|sD (.ins C<|wFs ks T<|.dT kvs) S,.v<|dL w]=sV _:=λS=>JH
   let l:=λa=>sN (a:=a) (chs:=dL<|opn q n) j i (by lia) M (opn q n) [] S () () ut (λx s=>bK s) c.2 K g<|by lia
   exact#[lB qx λa=>?_,(l 0).2.1,YA (l 0).2.2<|by lia];let#[#[P,N,I],_]:=l a;clear l K M j i;show ∃r,eA C _ [oW _<|!a,sV<|dL w,sV<|dL q,(),(),(),()]=!r/\_;delta eA;generalize cz C m=Rm,D.ins C _=W,eN C=Chs,bR C=Lo,bT C=On,bX C=Opn,e7 C=Od,cN C=A at *;rw[GJ o u];generalize lp _ w _ [] S=x at *;let#[b,O]:=x;cases b with
   |true=>exact#[_,gN I,qx,N]
   |false=>exact#[_,(ak I).trans qx,qx,N]
end
section
variable{n:Int}
def S0:Sst:=#[[],[],.tup [],[],.tup [],[]]
def lS(ks:List Str)(ts:List T4)(n:Int):Sst:=(goP ks ts n 8 [] (fpt ks ts n) S0).2
def ue{o}(h:ρ[0]?=!oW (.obj (!ah) fs) t)(h1:fs.lookup x=())(a:fs.length<1000)(h2:fS x o fs=fs'):addF (!ah) 0 x o ρ=!.nx (ρ.set 0 (oW (.obj (!ah) fs') t)):=by delta addF;rw[h];show(if some ah=!ah/\fs.lookup x=()/\fs.length<1000 then _ else _)=_;rw[Yl #[qx,h1,a],h2]
def jF{f}(h:ρ[0]?=!oW (.obj (!ah) fs) t)(b:f ρ=!d)(h1:fs.lookup x=())(a:fs.length<1000)(h2:fS x (.d d) fs=fs'):k5 ah 0 x f ρ=!.nx (ρ.set 0 (oW (.obj (!ah) fs') t)):=by delta k5;rw[b,Yb];exact ue h h1 a h2
def Fq:dZ C (.obj (!ah) []) [.v W]=!(sO W S0,.non):=lB qx λa=>by
 exact#[.nx [oW _<|!a,sV W],?_,qx,qx];delta gk;rw[ak<|jF (fs:=[]) qx qx qx (show 0<1000 by decide) qx,
  ak<|jF (fs:=[("web",.d W)]) qx qx qx (show 1<1000 by decide) qx,
  ak<|jF (fs:=[("web",.d W),("way",.d _)]) qx qx qx (show 2<1000 by decide) qx,
  ak<|jF (fs:=[("web",.d W),("way",.d _),("first",.d _)]) qx qx qx (show 3<1000 by decide) qx,
  ak<|jF (fs:=[("web",.d W),("way",.d _),("first",.d _),("first_row",.d _)]) qx qx qx (show 4<1000 by decide) qx,
  ak<|jF (fs:=[("web",.d W),("way",.d _),("first",.d _),("first_row",.d _),("least",.d _)]) qx qx qx (show 5<1000 by decide) qx]
 delta xW;show addF (!ah) 0 "turnings" _ [oW (.obj (!ah) [("web",.d W),("way",.d _),("first",.d _),("first_row",.d _),("least",.d _),("best_row",.d _)])<|!a,sV W]=_;rw[ue (fs:=[("web",.d W),("way",.d _),("first",.d _),("first_row",.d _),("least",.d _),("best_row",.d _)]) qx qx (show 6<1000 by decide) qx];rfl
def GH{a}{c I}{fp}{b}(h1:I (.obj (!ah) []) [.v W]=!(sO W S,.non))(h2:a [.v W]=sV fp)(h:c (sO W S) [.v (dL []),.v fp]=!(sO W S',.bl b)):(am (bC 1<|wg ah I<|aV (getV 0) nA)
 <|am (i_<|dD ah "go" 1 c<|cg (cn<|asO<|asL aE)<|cg (cn<|aj a<|aB 0 nA) mC)
 <|yT ah 1 "first" "turnings"<|cY<|fP (!ah) 1 "least") [sV W,()]=!.rt (.own (.t3 true S'.fst S'.lst S'.trn) ()) [sV W,()]:=by
 rw[ak (by
  have:wg ah I (aV (getV 0) nA) [sV W,()]=!sO W S:=by show(match I _ [.v W]with|some (o',.non)=>!o'|_=>())=_;rw[h1]
  show(wg ah I _ [sV W,()]).map _=_;rw[this];rfl),
  ak<|by
  delta i_;rw[oh qx qx (by
   delta cg cn;show(((((a [.v W]).bind dvD).map λx=>(x,_)).bind _).map _)=_;rw[h2];rfl) h]
  rfl]
 show(if ah=ah then((i4 _).bind λf=>(i4 _).map λl=>RES.rt _ _)else ())=_;rw[Yl qx,lO,lO];rfl
def E5{T:List T4}(h:Jn kvs):noN 6 (.ins C (wFs ks (.lst (T.map dT4)) (.dT kvs))):=by
 have c:(ks.map D.str).all (noN 4):=by rw[VI];exact Yh.mpr λ_ _=>rfl
 have b:(T.map dT4).all (noN 4):=by rw[VI];exact Yh.mpr λ_ _=>rfl
 have a:=Yh.mpr h;have f:noN 5 (.lst<|ks.map .str):=by show((ks.map D.str).all _&&_);rw[c];cases ks<;>rfl
 have e:noN 5 (.lst<|T.map dT4):=by show((T.map dT4).all _&&_);rw[b];cases T<;>rfl
 show(noN 5 _&&(noN 5 _&&(noN 5 _&&true)));rw[f,e,show noN 5 (.dT kvs) from a];rfl
def EL(g:1<=n/\n<=7)(i:okK n ks){T}(s:JOk kvs ts)(hN:noN 6 (.ins C (wFs ks T (.dT kvs))))(j:(lS ks ts n).fst≠[])(l:∀ps:Qj,ps.length=n->eP C [.v (.ins C (wFs ks T (.dT kvs))),.v (dL ps)]=oW (.lst ((fin ps ts n).map .int)) ()):cT C [.v<|.ins C<|wFs ks T<|.dT kvs]=oW (.t3 false (lS ks ts n).fst (lS ks ts n).lst (lS ks ts n).trn) ():=by
 let q:=λps h=>kg g l ps h
 let p:=vH g i l;let o:=(Ht g i s q 8 [] (fpt ks ts n) S0 (λ_ h=>nomatch h) (by decide) (oB g i) #[[],#[(λ_ h=>nomatch h),List.Pairwise.nil],by simp;lia] #[.inl qx,λ_ h=>nomatch h]<|by decide).1;delta cT qt xX;let m:=Fq (C:=C) (W:=.ins C<|wFs ks T<|.dT kvs);have u:([DV.v<|.ins C<|wFs ks T<|.dT kvs]).all Jz:=by rw[Xi,show Jz (.v<|.ins C _) from hN];rfl
 rw[Yl #[qx,u]];delta lS at j ⊢;generalize D.ins C _=W,cz C 8=Go,dZ C=In0,bD C=w at *;rw[show aK 2 1 [.v W]=[sV W,()]from rfl,GH m p o];generalize (goP ks ts n 8 [] _ S0).2=S at *;let#[a,b,c,d,e,f]:=S;cases b with
 |nil=>exact absurd qx j
 |cons x y=>rfl
end
section
variable{n:Int}
def u6{w}(a:∀p S,S.fst≠[]->(G p S).2.fst=S.fst):∀r tr S,S.fst≠[]->(lp G w r tr S).2.fst=S.fst
 |[],_,_,_=>rfl
 |p::r,tr,S,h=>by
  delta lp;let e:=a p S h;split
  .exact u6 a r tr S h
  .split
   .exact e
   .rw[u6 a r _ _<|by rwa[e],e]
def BN:∀m w q S,S.fst≠[]->(goP ks ts n m w q S).2.fst=S.fst
 |0,_,_,_,_=>rfl
 |m+1,w,q,S,h=>by
  delta goP;split
  .delta arr;rw[Yn h];split<;>rfl
  .exact u6 (λp S h=>BN m _ _ S h) _ _ S h
def lft(ts:List T4)(n:Int):Nat->Qj->Qj
 |0,_=>[]
 |m+1,q=>match opn q n with
  |[]=>inv n q
  |f::_=>lft ts n m<|ch ts n q f
def DG:∀m w q S,S.fst=[]->lft ts n m q≠[]->(goP ks ts n m w q S).2.fst=lft ts n m q
 |0,_,_,_,_,h=>absurd qx h
 |m+1,w,q,S,hS,h=>by
  delta lft at h ⊢;delta goP;cases e:opn q n with
  |nil=>
   rw[Yl qx];delta arr;rw[Yl hS]
  |cons f r=>
   rw[e]at h;let ih:=DG m (w++[f]) _ S hS h;rw[Yn<|by simp];delta lp;have a:lo S w [] f=false:=YB λz=>by
    have:bfs (nbs<|S.trn.filter<|hU w) 10 [] 0=[]:=rfl;rw[this]at z;cases z
   rw[a,Yn Yk];split
   .exact ih
   .rw[u6 (λp S h=>BN m _ _ S h) _ _ _<|by rwa[ih]];exact ih
def xS{w}{L:Qj->Prop}:∀r tr S,(∀p∈r,∀S,(S.fst=[]\/L S.lst)->((G p S).2.fst=[]\/L (G p S).2.lst))->(S.fst=[]\/L S.lst)->((lp G w r tr S).2.fst=[]\/L (lp G w r tr S).2.lst)
 |[],_,_,_,h=>h
 |p::r,tr,S,hG,h=>by
  delta lp;let e:=hG p Ye S h;have a:=λx b=>hG x<|Yd _ b
  split
  .exact xS r tr S a h
  .split
   .exact e
   .exact xS r _ _ a e
def CM{L:Qj->Prop}:∀m w q S,(∀l∈lv ts n m q,L l)->(S.fst=[]\/L S.lst)->((goP ks ts n m w q S).2.fst=[]\/L (goP ks ts n m w q S).2.lst)
 |0,_,_,_,_,h=>h
 |m+1,w,q,S,hl,h=>by
  delta goP;by_cases o:opn q n=[]
  .rw[Yl o];have b:=hl _ (by delta lv;rw[Yl o];exact YJ _);delta arr;split
   .exact .inr b
   .rename_i e;let c:=h.resolve_left e;split
    .exact .inr ?_;split
     .exact b
     .exact c
    .exact .inr ?_;split
     .exact b
     .exact c
  .rw[Yn o];exact xS _ _ S (λp f S h=>CM m _ _ S (λl a=>hl l<|by delta lv;rw[Yn o];exact Xg.mpr #[p,f,a]) h) h
def qR(aim o:Qj):Int:=(aim.filter λx=>decide<|x∈o).headD 0
def gy(ts:List T4)(n:Int)(aim:Qj):Nat->Qj->Qj
 |0,q=>q
 |k+1,q=>gy ts n aim k<|if opn q n=[]then q else ch ts n q<|qR aim<|opn q n
def jG(o:opn q n=[]):∀k,gy ts n aim k q=q
 |0=>rfl
 |k+1=>by delta gy;rw[Yl o];exact jG o k
def C7{f}(e:opn q n=f::r):qR (ao n) (opn q n)=f:=by
 have:(ao n).filter (λx=>decide<|x∈opn q n)=opn q n:=by
  have h:∃P:Int->Bool,opn q n=(ao n).filter P:=by
   delta opn;split
   .exact#[_,qx]
   .exact#[λ_=>false,by rw[List.filter_eq_nil_iff.mpr λ_ _=>Yk]]
  let#[P,h]:=h;rw[h];exact Uq λx a=>?_;rw[VV,YQ,YL];exact#[λz=>z.2,λz=>#[a,z]]
 delta qR;rw[this,e];rfl
def yZ(a:1<=n/\n<=7):∀k m q,Pt n q->Fu n k q->Fu n m q->inv n (gy ts n (ao n) k q)=lft ts n m q
 |0,_,_,_,h,_=>(iU a.1 h).elim
 |_+1,0,_,_,_,h=>(iU a.1 h).elim
 |k+1,m+1,q,hq,h1,h2=>by
  delta gy lft;cases e:opn q n with
  |nil=>rw[Yl qx,jG e]
  |cons f r=>
   have b:f∈opn q n:=by rw[e];exact Ye
   let p:=C7 e;rw[e]at p;rw[Yn<|by simp,p];exact yZ a k m _ (i5 a hq f) (iG hq.1 h1 b)<|iG hq.1 h2 b
def Ip n:(ao n).Pairwise (· < ·):=by delta ao;rw[ZZ];exact Vw.imp λh=>Int.ofNat_lt.mpr h
def EA(m:1<=n/\n<=7){b}(y:Pt n q){p}(f:p∈opn q n)(p':b.Perm (ao n))(r:Ref n (ch ts n q p) b):qR (inv n b) (opn q n)=p:=by
 have lt:∀j∈opn q n,j≠p->ox b p<ox b j:=λj i l=>by
  let c:=(jc y.1 f).1;let e:=oJ i f;exact r p j (bK f) (bK i)<|jB 100 _ p j (bK f) (bK i) ?_;rw[gY c<|bK f,gY c<|bK i,Yl<|.inr qx,Yn<|by rw[e];lia,e];lia
 have w:(inv n b).Pairwise λu v=>ox b u<ox b v:=by delta inv;rw[ZZ];exact(Ip n).imp_of_mem λo A h=>by rwa[gJ m.1 p'<|aA.mp o,gJ m.1 p'<|aA.mp A]
 have g:p∈(inv n b).filter λx=>decide _:=YL.mpr #[(fw m.1 p').mem_iff.mpr<|aA.mpr<|bK f,YI f]
 let s:=w.sublist (l₁:=(inv n b).filter λx=>decide<|x∈opn q n) Ub;delta qR;cases e:(inv n b).filter λx=>decide (x∈opn q n)with
 |nil=>rw[e]at g;cases g
 |cons a F=>
  exact Za λl=>?_;rw[e]at g s;have o:=YE (YL.mp<|show a∈(inv n b).filter λx=>decide (x∈opn q n)by rw[e];exact Ye).2;let C:=lt a o l;let B:=(Zi.mp s).1 p<|(Ys.mp g).resolve_left λz=>l z.symm;lia
def B9(b:1<=n/\n<=7):∀k m q x,Pt n q->Fu n k q->Fu n m q->x∈lv ts n m q->inv n (gy ts n x k q)=x
 |0,_,_,_,_,h,_,_=>(iU b.1 h).elim
 |_+1,0,_,_,_,_,h,_=>(iU b.1 h).elim
 |k+1,m+1,q,x,hq,h1,h2,a=>by
  delta lv at a;delta gy;by_cases o:opn q n=[]
  .rw[Yl o]at a ⊢;rw[jG o];exact(Yu.mp a).symm
  .rw[Yn o]at a ⊢;let#[p,c,a]:=Xg.mp a;let#[g,f,e,r]:=yb b m _ (i5 b hq p) x a;rw[show qR x _=p by rw[e];exact EA b hq c f r];exact B9 b k m _ x (i5 b hq p) (iG hq.1 h1 c) (iG hq.1 h2 c) a
def JA(a:1<=n/\n<=7):Fu n n.toNat q:=#[[0],#[λs h=>by rw[Yu.mp h];lia,List.pairwise_singleton _ _],by simp;lia]
def La(h:1<=n/\n<=7):Fu n 8 q:=#[[],#[nofun,.nil],by simp;lia]
structure Told (ks:List Str) (ts:List T4) (n:Int) (f l:Qj) (T:List Qj):Prop where
 pf:f.Perm (ao n)
 pl:l.Perm (ao n)
 ef:inv n (gy ts n (ao n) n.toNat (fpt ks ts n))=f
 el:inv n (gy ts n l n.toNat (fpt ks ts n))=l
 au:∀g∈T,Au ks ts n g
 mv:∀g∈T,g≠ao n
 lt:(T.length:Int)<n
def Az(b:1<=n/\n<=7)(i:okK n ks)(hs:okS n ts):Told ks ts n (lS ks ts n).fst (lS ks ts n).lst (lS ks ts n).trn:=by
 let j:=oB (ts:=ts) b i;let#[_,g,_,_,_,t,a]:=(ze #[b,i,hs.2] 8 [] _ .nil #[[],#[(λ_ h=>nomatch h),List.Pairwise.nil],by simp;lia]).1 S0 #[qx,qx];have c:(lS ks ts n).fst≠[]:=λz=>by
  have:=g.l1.length_eq;rw[show(goP ks ts n 8 [] _ S0).2.fst=[]from z,aG,YV]at this;lia
 let f:=yZ (ts:=ts) b n.toNat 8 _ j (JA b)<|La b;have m:lft ts n 8 _≠[]:=λz=>by
  rw[z]at f;have:=YU List.length f;delta inv at this;rw[Ya,aG,YV]at this;lia
 let s:=DG (ks:=ks) 8 [] _ S0 qx m;let q:=(CM 8 [] _ S0 (λ_ h=>h)<|.inl qx).resolve_left c;exact#[g.l1,g.l2,f.trans s.symm,B9 b n.toNat 8 _ _ j (JA b) (La b) q,g.au,λh p e=>?_,Jw b.1 t.w];let#[x,o,c]:=t.mv h p;rw[e]at c;exact c<|js o
end
def BP{r:Qj}(a:1<=n/\n<=7)(p:r.Perm (ao n)):aZ (r.map D.int)=(ao n).map D.int:=by rw[iQ (n:=28) (p.map D.int) #[λx h=>by let#[t,_,rfl]:=Yg.mp h;rfl,λx h y b=>by let#[t,_,rfl]:=Yg.mp h;let#[u,_,rfl]:=Yg.mp b;rfl]];rcases BQ #[a.1,Int.lt_add_one_of_le a.2]with rfl|rfl|rfl|rfl|rfl|rfl|rfl<;>rfl
section
variable{n:Int}
def tP{f}(b:1<=n/\n<=7)(h:f ρ=!.int n):eC f ρ=!(ao n).map .int:=by
 delta eC;rw[h];have a:n<16777216/\-(2^62)<=n:=by lia
 simp only;rw[Yl a,ms]
def DA C i:gC C [.v (.int i)]=sV (.bl true):=rfl
def r9{α:Type}(l:List α):qF (.lst (l.map λ_=>.bl true))=!.bl true:=by
 have h:∀f:D->Bool,f _->(l.map λ_=>D.bl true).all f:=λf e=>Yh.mpr λx a=>by let#[_,_,rfl]:=Yg.mp a;exact e
 show(if(l.map λ_=>D.bl true).all um then !D.bl _ else ())=_;rw[Yl<|h um qx,h trD qx]
def uS C(a:1<=n/\n<=7)(p:r.Perm (ao n)):br C [.v (dL r),.v (.int n)]=sV (.bl true):=by
 let j:=DA C;delta br jq;generalize gC C=W at *;rw[g9,show aK 2 2 [.v<|dL r,.v _]=[sV<|dL r,sI n]from rfl];let m:=(aO a.1 p).1;have l:aI 1 [] (bu 0) (setV 0) bf (aj W<|aB 0 nA) [sV<|dL r,sI n]=!(r.map λ_=>.bl true):=by
  rw[a9];show(if(r.map D.int).length<=16777216 then bO _ _ _ [()] (r.map .int)else ())=_;rw[Yl<|by rw[Ya];lia];exact bq D.int _ r λx _=>#[[sI x],qx,qx,?_]
  show(W [.v _]).bind dvD=_;rw[j];rfl
 have c:jM "list" (dL r)=!.bl true:=rfl;let h:=Bw r (by lia);let g:=tP (f:=getV 1) (ρ:=[sV<|dL r,sI n]) a qx;let e:=BP a p;let i:=r9 r;let b:=BS (ao n)<|ao n;rw[YI qx]at b;generalize aI 1 [] (bu 0) _ bf _=E at *;delta dL at *;generalize (ao n).map D.int=R,(r.map λ_=>D.bl true)=B,r.map D.int=U at *;simp[l,c,i,jn,h,g,e,b]
abbrev eF(W aim:D)(n:Int)(q:Qj)(x x5 x6:Option DV):DF:=[sV W,sV aim,sV<|dL q,sI n,x,x5,x6]
def Jg{p}{o}{c}(u:aim.length<=7)(i:(Op [.v (dL q)]).bind dvD=!dL o)(g:o≠[])(h:(aim.filter λx=>decide (x∈o)).head?=!p)(l:Ch [.v W,.v (dL q),.v (.int p)]=sV cq):(am (aC 5<|aj Op<|aB 2 nA)
 <|dIf (asB<|d2 neD (ap 5)<|asO<|asL aE) (am (aC 6<|d2 ixD (asO<|asL<|aI 1 [5] (bu 1) (setV 0) (asB<|d2 inD (ap 0)<|ap 1)<|getV 0)<|cI 0)
 <|aC 2<|aj Ch<|aB 0<|aB 2<|aB 6 nA) dNx) (eF W (dL aim) n q c x5 x6)=!.nx [sV W,sV<|dL aim,sV cq,sI n,c,sV<|dL o,sI p]:=by
 rw[ak (ρ':=eF W _ n q c _ x6)<|by
  show((Op [.v<|dL q]).bind dvD).map _=_;rw[i];rfl]
 have f:asB (d2 neD (ap 5)<|asO<|asL aE) (eF W (dL aim) n q c (sV<|dL o) x6)=!true:=by have:neD (dL o) _=!.bl true:=(wk o []).trans (by rw[YB g];rfl);show(match neD (dL o) (dL [])with|some (.bl b)=>!b|_=>())=_;rw[this]
 have s:aI 1 [5] (bu 1) (setV 0) (asB<|d2 inD (ap 0)<|ap 1) (getV 0) (eF W (dL aim) n q c (sV<|dL o) x6)=!(aim.filter λx=>decide<|x∈o).map .int:=by
  rw[a9];show(if(aim.map D.int).length<=16777216 then bO _ _ _ [(),sV<|dL o] (aim.map .int)else ())=_;rw[Yl<|by rw[Ya];lia];exact jE D.int _ _ aim λx _=>#[[sI x,sV<|dL o],qx,?_,λ_=>rfl]
  show(match inD _ (dL o)with|some (.bl b)=>!b|_=>())=_;rw[Hj]
 have m:aC 6 (d2 ixD (asO<|asL<|aI 1 [5] (bu 1) (setV 0) (asB<|d2 inD (ap 0)<|ap 1)<|getV 0)<|cI 0) (eF W (dL aim) n q c (sV<|dL o) x6)=!.nx (eF W (dL aim) n q c (sV<|dL o)<|sI p):=by
  rw[fi];show((((asO _) _).bind λx=>ixD x _)).map _=_;rw[eR,cP,s];cases e:aim.filter λx=>decide (x∈o)with
  |nil=>rw[e]at h;cases h
  |cons a F=>
   rw[e]at h;cases h;have z:ixD (.lst<|(p::F).map .int) (.int 0)=!.int p:=iP qx;show((ixD (.lst _)<|.int 0).map _)=_;rw[z];rfl
 rw[bJ,f,Yb,Yl qx,ak m];show((Ch [.v W,.v<|dL q,.v _]).bind dvD).map _=_;rw[l];rfl
def LW{aim}{x}(h:(Op [.v (dL q)]).bind dvD=!dL []):(am (aC 5<|aj Op<|aB 2 nA)
 <|dIf (asB<|d2 neD (ap 5)<|asO<|asL aE) (am (aC 6<|d2 ixD (asO<|asL<|aI 1 [5] (bu 1) (setV 0) (asB<|d2 inD (ap 0)<|ap 1)<|getV 0)<|cI 0)
 <|aC 2<|aj Ch<|aB 0<|aB 2<|aB 6 nA) dNx) (eF W aim n q x x5 x6)=!.nx (eF W aim n q x (sV<|dL []) x6):=by
 rw[ak<|by
  show((Op [.v<|dL q]).bind dvD).map _=_;rw[h];rfl]
 rfl
def zn(c:aim.Perm (ao n))(o:¬opn q n=[]):∃p,(aim.filter λx=>decide (x∈opn q n)).head?=!p/\p∈opn q n/\qR aim (opn q n)=p:=by
 delta qR;cases e:aim.filter λx=>decide (x∈opn q n)with
 |nil=>
  let#[f,r,b]:=List.exists_cons_of_ne_nil o;have:f∈aim.filter λx=>decide (x∈opn q n):=YL.mpr #[c.mem_iff.mpr<|aA.mpr<|bK<|by rw[b];exact Ye,YI<|by rw[b];exact Ye]
  rw[e]at this;cases this
 |cons a F=>
  have:a∈aim.filter λx=>decide (x∈opn q n):=by rw[e];exact Ye
  exact#[a,qx,YE (YL.mp this).2,qx]
def u_(a:1<=n/\n<=7)(b:aim.Perm (ao n)):∀k q,Pt n q->Fu n k q->opn (gy ts n aim k q) n=[]
 |0,_,_,h=>(iU a.1 h).elim
 |k+1,q,hq,h=>by
  by_cases o:opn q n=[]
  .rw[jG o];exact o
  .let#[p,_,e,c]:=zn b o;delta gy;rw[Yn o,c];exact u_ a b k _ (i5 a hq p)<|iG hq.1 h e
def uR(g:1<=n/\n<=7)(c:aim.Perm (ao n))(f:∀q,Pt n q->(Op [.v (dL q)]).bind dvD=!dL (opn q n))(i:∀q p,Pt n q->In n p->Ch [.v W,.v (dL q),.v (.int p)]=sV (dL (ch ts n q p))):∀(L:Qj) q x x5 x6,Pt n q->∃b a y,eV (setV 4) (am (aC 5<|aj Op<|aB 2 nA)
 <|dIf (asB<|d2 neD (ap 5)<|asO<|asL aE) (am (aC 6<|d2 ixD (asO<|asL<|aI 1 [5] (bu 1) (setV 0) (asB<|d2 inD (ap 0)<|ap 1)<|getV 0)<|cI 0)
 <|aC 2<|aj Ch<|aB 0<|aB 2<|aB 6 nA) dNx) (L.map .int) (eF W (dL aim) n q x x5 x6)=!.nx (eF W (dL aim) n (gy ts n aim L.length q) b a y)/\Pt n (gy ts n aim L.length q)
 |[],q,x,x5,x6,hq=>#[x,x5,x6,qx,hq]
 |k::L,q,x,x5,x6,hq=>by
  have u:aim.length<=7:=by have:=(aO g.1 c).1;lia
  by_cases o:opn q n=[]
  .let#[b,a,y,e,h]:=uR g c f i L q (sI k) _ x6 hq;have s:gy ts n aim (k::L).length q=gy ts n aim L.length q:=by show gy ts n aim L.length _=_;rw[Yl o]
   rw[s];exact#[b,a,y,(jI rfl<|LW<|by rw[f q hq,o]).trans e,h]
  .let#[p,m,l,j]:=zn c o;let#[b,a,y,e,h]:=uR g c f i L _ (sI k) _ (sI p)<|i5 g hq p;have s:gy ts n aim (k::L).length q=gy ts n aim L.length (ch ts n q p):=by show gy ts n aim L.length _=_;rw[Yn o,j]
   rw[s];exact#[b,a,y,(jI rfl<|Jg u (f q hq) o m<|i q p hq<|bK l).trans e,h]
def Jc C(a:1<=n/\n<=7)(o:okK n ks)(c:aim.Perm (ao n))(u:bD C [.v W]=sV (dL (fpt ks ts n)))(s:∀ps:Qj,ps.length=n->cX C [.v W,.v (dL ps)]=sV (dL (stl ts n 100 ps))) :
  dn C [.v W,.v<|dL aim]=oW (.lst<|(inv n<|gy ts n aim n.toNat<|fpt ks ts n).map .int) ():=by
 have m:∀q,Pt n q->(bX C [.v<|dL q]).bind dvD=!dL _:=λq h=>yY C (by lia) h.1 h.2<|.inl qx
 have w:∀q p,Pt n q->In n p->eN C [.v W,.v<|dL q,.v _]=sV _:=λq p h l=>rC a h.1 l (.inl qx) s
 let b:=oB (ts:=ts) a o;delta dn rG;generalize bX C=Op,eN C=Ch,bD C=A at *;rw[g9,show aK 7 2 [.v W,.v _]=[sV W,sV _,(),(),(),(),()]from rfl,
  ak<|by
   show((A [.v W]).bind dvD).map _=_;rw[u];rfl,
  ak (by
   have:(((fpt ks ts n).map D.int).length)=n:=by rw[Ya];exact b.1
   show some (RES.nx [_,_,_,sI _,_,_,_])=_;rw[this])]
 let#[g,f,y,e,h]:=uR a c m w (ao n) _ () () () b;rw[aG]at e h;let i:=kj h<|u_ a c n.toNat _ b<|JA a;rw[ak<|cL (dS rfl<|by lia) e];generalize gy ts n aim n.toNat _=q at *;have z:aI 1 [2] (cZ<|ac 3) (setV 0) bf (d2 jL (ap 1)<|ap 0) (eF W (dL aim) n q g f y)=!(inv n q).map .int:=by rw[a9,dS rfl<|by lia,Yb,Yl<|by rw[Ya,aG];lia];delta inv;rw[YD];exact bq D.int _ (ao n) λx j=>#[[sI x,sV<|dL q],qx,qx,yu<|i.mem_iff.mpr j]
 rw[fE,cP,z];rfl
abbrev tF(ks:List Str)(tb:List (List Key×D))(g:Qj)(n:Int)(x x5:Option DV):DF:=[sV<|.lst<|ks.map .str,sV<|.dT tb,sV<|dL g,sI n,x,x5]
def Lw(h:1<=n)(a:okK n ks){g}(A:Au ks ts n g):g.map (λx=>D.str (kAt ks x))=ks.map D.str:=by
 rw[DR a]
 conv=>lhs;rw[fQ (aO h A.p).1]
 rw[YD];exact YY λi b=>?_;show D.str _=D.str _;rw[A.k i<|aA.mp b]
def BY{tb}(f:tbS ts tb λa b=>(0<=a/\a<n/\0<=b/\b<n)/\a≠b){a b}(c:In n a)(h:In n b)(e:a≠b):gn (.dT tb) (.tup [.int a,.int b])=!srP (a7 a b ts):=f a b #[#[c.1,c.2,h.1,h.2],e]
def HW ps:neD (srP ps) (srP ps)=!.bl false:=by
 have h:okN 30 (srP ps):=by let#[u,e]:=iw ps;rw[e];show(u.map dP).all _;rw[VI];exact Yh.mpr λ_ _=>rfl
 have c:aH (srP ps) (srP ps):=by let#[u,e]:=iw ps;rw[e];exact eZ dP (λ_ _=>rfl) u u
 rw[tf h h,(c6 _ _ c).mpr qx];rfl
def DS C(h:1<=n/\n<=7)(m:okK n ks){tb}(B:tbS ts tb λa b=>(0<=a/\a<n/\0<=b/\b<n)/\a≠b)(S:KO n tb){g}(A:Au ks ts n g)(M:g≠ao n) :
  fD C [.v<|.lst<|ks.map .str,.v<|.dT tb,.v<|dL g]=sV (.bl true):=by
 let T:=uS C h A.p;have s:((ks.map D.str).length)=n:=by rw[Ya];exact m.1
 let gl:=(aO h.1 A.p).1;let H:=(aO h.1 A.p).2.2;delta fD mQ;generalize br C=I at *;rw[pj,show aK 6 3 [.v _,.v _,.v<|dL g]=[sV _,sV _,sV<|dL g,(),(),()]from rfl,
  ak<|by
   show some (RES.nx [_,_,_,sI _,_,_])=_;rw[s]]
 have K:orT (bE<|asB<|aj I<|aB 2<|aV (getV 3) nA) (asB<|d2 eqD (ap 2)<|asO<|asL<|eC<|getV 3) (tF ks tb g n () ())=!false:=by
  have e1:aj I (aB 2<|aV (getV 3) nA) (tF ks tb g n () ())=!.bl true:=by show(I [.v<|dL g,.v _]).bind dvD=_;rw[T];rfl
  have e2:d2 eqD (ap 2) (asO<|asL<|eC<|getV 3) (tF ks tb g n () ())=!.bl false:=by show(!dL g).bind (λx=>(((eC _ _).map OD.lst).map OD.d).bind λy=>eqD x y)=_;rw[tP h qx];show eqD (dL g) (dL<|ao n)=_;rw[BS,YB M]
  delta orT bE asB;rw[e1,e2];rfl
 rw[ak<|by rw[bJ,K];rfl];have c1:aI 1 [0] (bu 2) (setV 0) bf (d2 ixD (ac 1)<|ac 0) (tF ks tb g n () ())=!ks.map .str:=by
  rw[a9,<-Lw h.1 m A];show(if(g.map D.int).length<=16777216 then bO _ _ _ [(),sV _] (g.map .int)else ())=_;rw[Yl<|by rw[Ya];lia];exact bq D.int _ g λx w=>#[[sI x,sV _],qx,qx,?_]
  show atI _ x=_;let#[y,O,Z]:=gE (l:=ks) D.str (H x w).1 (by have:=m.1;have:=(H x w).2;lia);rw[Z];delta kAt;rw[O];rfl
 have N:neD (.lst<|ks.map .str) (.lst<|ks.map .str)=!.bl false:=by
  have E:okN 30 (.lst<|ks.map .str):=by show(ks.map D.str).all _;exact zo 29 m.2
  rw[tf E E,wq D.str (λ_ _=>rfl) ks];rfl
 rw[ak (by
  have:d2 neD (asO<|asL<|aI 1 [0] (bu 2) (setV 0) bf<|d2 ixD (ac 1)<|ac 0) (ap 0) (tF ks tb g n () ())=!.bl false:=by show(((aI 1 [0] (bu 2) _ bf _ _).map OD.lst).map OD.d).bind _=_;rwa[c1]
  rw[bJ];delta asB;rw[this];rfl)]
 let#[_,e,q,o,rfl]:=kK (st:=gT [4,5]) (body:=dIf (asB _) (aY _) dNx) (λρ=>∃q o,ρ=tF ks tb g n q o) (ds:=tb.map λp=>.tup<|p.1.map kD) #[(),(),qx] (by
  rintro d Q _ ⟨q,o,rfl⟩;let#[p,P,rfl]:=Yg.mp Q;let#[a,b,e,j,u]:=S p P;have f:In n a:=#[j.1,j.2.1]
  have c:In n b:=#[j.2.2.1,j.2.2.2]
  exact#[tF ks tb g n (sI a)<|sI b,by rw[e];rfl,tF ks tb g n (sI a)<|sI b,?_,_,_,qx];let X:=qg h.1 A.p f;let U:=qg h.1 A.p c;let Y:=BY B (cW h.1 A.p f) (cW h.1 A.p c) λz=>u<|by rw[<-dJ h.1 A.p f,z,dJ h.1 A.p c]
  let J:=BY B f c u;rw[i8<|A.t a b f c]at J;let L:=HW<|a7 (ox g a) (ox g b) ts;generalize srP _=R at *;have cc:(asB<|d2 neD (d2 gn (ac 1)<|asT<|ag (d2 ixD (ac 2)<|ac 4)<|ag (d2 ixD (ac 2)<|ac 5) aE)<|d2 gn (ac 1)<|asT<|ag (getV 4)<|ag (getV 5) aE) (tF ks tb g n (sI a)<|sI b)=!false:=by delta tF;generalize dL g=G at *;simp -implicitDefEqProofs [X,U,Y,J,L]
  rw[bJ,cc];rfl)
 delta B7;rw[ak<|cL qx e];rfl
abbrev uF(W:D)(KS:List D)(tb a b:D)(T:List D)(n:Int):DF:=[sV W,sV<|.lst KS,sV tb,sV<|.tup [a,b,.lst T],sI n]
def FF{I E a}{f}(u:1<=n/\n<=7)(h:KS.length=n)(p:I [.v (dL f),.v (.int n)]=sV (.bl true))(o:I [.v (dL l),.v (.int n)]=sV (.bl true))(e1:E [.v W,.v<|dL<|ao n]=oW (.lst<|f.map .int) ())(e2:E [.v W,.v<|dL l]=oW (.lst<|l.map .int) ())(lt:T.length<n)(b:∀g∈T,a [.v<|.lst KS,.v tb,.v<|dL g]=sV (.bl true)):bY ((am (aC 4<|d1 bU<|ap 1)
 <|am (dIf (orT (bE<|asB<|d1 (jM "tuple")<|ap 3)<|orT (asB<|d2 neD (d1 bU<|ap 3)<|cI 3)<|bE<|asB<|d1 (jM "list")<|d2 ixD (ac 3)<|cI 2) (aY λ_=>!.bl false) dNx)
 <|am (dIf (orT (bE<|asB<|aj I<|aV (d2 ixD (ac 3)<|cI 0)<|aV (getV 4) nA)<|asB<|d2 neD (d2 ixD (ac 3)<|cI 0)<|aj E<|aB 0<|aV (asO<|asL<|eC<|getV 4) nA) (aY λ_=>!.bl false) dNx)
 <|am (dIf (orT (bE<|asB<|aj I<|aV (d2 ixD (ac 3)<|cI 1)<|aV (getV 4) nA)<|orT (asB<|d2 neD (d2 ixD (ac 3)<|cI 1)<|aj E<|aB 0<|aV (d2 ixD (ac 3)<|cI 1) nA)<|asB<|d2 geI (d1 bU<|d2 ixD (ac 3)<|cI 2)<|ac 4) (aY λ_=>!.bl false) dNx)
 <|aY<|d1 qF<|asO<|asL<|aI 1 [1,2] (cQ<|d2 ixD (ac 3)<|cI 2) (setV 0) bf<|aj a<|aB 1<|aB 2<|aB 0 nA) [sV W,sV<|.lst KS,sV tb,sV<|.tup [dL f,dL l,.lst<|T.map dL],()])=sV (.bl true):=by
 rw[ak<|by
  show some _=_;rw[h]]
 have n1:neD (dL f) (dL f)=!.bl false:=(wk f f).trans (by rw[YI qx];rfl);have n2:neD (dL l) (dL l)=!.bl false:=(wk l l).trans (by rw[YI qx];rfl);have A:aI 1 [1,2] (cQ<|d2 ixD (ac 3)<|cI 2) (setV 0) bf (aj a<|aB 1<|aB 2<|aB 0 nA) (uF W KS tb (dL f) (dL l) (T.map dL) n)=!(T.map λ_=>.bl true):=by
  rw[a9];show(if(T.map dL).length<=16777216 then bO _ _ _ [(),sV _,sV tb] (T.map dL)else ())=_;rw[Yl<|by rw[Ya];lia];exact bq dL _ T λg w=>#[[sV<|dL g,sV _,sV tb],qx,qx,?_]
  show(a [.v _,.v tb,.v<|dL g]).bind dvD=_;rw[b g w];rfl
 have s:eC (getV 4) (uF W KS tb (dL f) (dL l) (T.map dL) n)=!(ao n).map .int:=tP u qx;let z:=r9 T;have m:aj I (aV (d2 ixD (ac 3)<|cI 0)<|aV (getV 4) nA) (uF W KS tb (dL f) (dL l) (T.map dL) n)=!.bl true:=by show(I [.v<|dL f,.v<|.int n]).bind dvD=_;rw[p];rfl
 have j:aj I (aV (d2 ixD (ac 3)<|cI 1)<|aV (getV 4) nA) (uF W KS tb (dL f) (dL l) (T.map dL) n)=!.bl true:=by show(I [.v<|dL l,.v<|.int n]).bind dvD=_;rw[o];rfl
 have i:d2 neD (d2 ixD (ac 3)<|cI 0) (aj E<|aB 0<|aV (asO<|asL<|eC<|getV 4) nA) (uF W KS tb (dL f) (dL l) (T.map dL) n)=!.bl false:=by
  have:aj E (aB 0<|aV (asO<|asL<|eC<|getV 4) nA) (uF W KS tb (dL f) (dL l) (T.map dL) n)=!dL f:=by
   have:aB 0 (aV (asO<|asL<|eC<|getV 4) nA) (uF W KS tb (dL f) (dL l) (T.map dL) n)=![.v W,.v<|dL<|ao n]:=by show((((eC (getV 4)<|uF W KS tb (dL f) (dL l) (T.map dL) n).map OD.lst).map OD.d).bind λd=>(![]).map λc=>DV.v d::c).map _=_;rw[s];rfl
   delta aj;rw[this];show(E [.v W,.v<|dL<|ao n]).bind dvD=_;rw[e1];rfl
  show(!dL f).bind (λx=>(aj E (aB 0<|aV (asO<|asL<|eC<|getV 4) nA)<|uF W KS tb (dL f) (dL l) (T.map dL) n).bind λy=>neD x y)=_;rw[this];exact n1
 have e:d2 neD (d2 ixD (ac 3)<|cI 1) (aj E<|aB 0<|aV (d2 ixD (ac 3)<|cI 1) nA) (uF W KS tb (dL f) (dL l) (T.map dL) n)=!.bl false:=by show(!dL l).bind (λx=>((E [.v W,.v<|dL l]).bind dvD).bind λy=>neD x y)=_;rw[e2];exact n2
 have q:d2 geI (d1 bU<|d2 ixD (ac 3)<|cI 2) (ac 4) (uF W KS tb (dL f) (dL l) (T.map dL) n)=!.bl false:=by show some (D.bl<|decide<|n<=(((T.map dL).length:Nat):Int))=_;rw[Ya,YB<|by lia]
 rw[ak (ρ':=uF W KS tb (dL f) (dL l) (T.map dL) n)<|by rfl,
  ak (ρ':=uF W KS tb (dL f) (dL l) (T.map dL) n)<|by
   rw[bJ];delta orT bE asB;rw[m,i];rfl,
  ak (ρ':=uF W KS tb (dL f) (dL l) (T.map dL) n)<|by
   rw[bJ];delta orT bE asB;rw[j,e,q];rfl]
 rw[lD,DB,eR,cP,A];show bY (((qF<|.lst<|T.map λ_=>.bl true)).map _)=_;rw[z];rfl
def C5 C(h:1<=n/\n<=7)(i:okK n ks){tb}(u:tbS ts tb λa b=>(0<=a/\a<n/\0<=b/\b<n)/\a≠b)(w:KO n tb){f}(X:Told ks ts n f l T)
  (m:∀aim:Qj,aim.Perm (ao n)->dn C [.v W,.v<|dL aim]=oW (.lst<|(inv n<|gy ts n aim n.toNat<|fpt ks ts n).map .int) ()) :
  d_ C [.v W,.v<|.lst<|ks.map .str,.v<|.dT tb,.v<|.tup [dL f,dL l,.lst<|T.map dL]]=sV (.bl true):=by
 let s:=uS C h X.pf;let q:=uS C h X.pl;let p:=m (ao n)<|.refl _;let o:=m l X.pl;rw[X.ef]at p;rw[X.el]at o;let e:=λg j=>DS C h i u w (X.au g j)<|X.mv g j
 have c:((ks.map D.str).length)=n:=by rw[Ya];exact i.1
 delta d_ ny;generalize br C=Io,dn C=En,fD C=x at *;rw[J_,show aK 5 4 [.v W,.v _,.v _,.v _]=[sV W,sV _,sV _,sV _,()]from rfl];exact FF h c s q p o X.lt e
end
def FI(h:okN n d):eqd d d:=SeqAt.eqv_refl _ (cU n d h).1
def uM(h:okN 30 d):neD d d=!.bl false:=by rw[tf h h,FI h];rfl
def Hx m l:okN (m+2) (dL l):=by show(l.map D.int).all _;exact Yh.mpr λd h=>by let#[x,_,rfl]:=Yg.mp h;rfl
def BM m(T:List Qj):okN (m+3) (.lst (T.map dL)):=by show(T.map dL).all _;exact Yh.mpr λd h=>by let#[x,_,rfl]:=Yg.mp h;exact Hx m x
def yO(l:Qj):iM (l.map .int):=Yh.mpr λd h=>by let#[x,_,rfl]:=Yg.mp h;rfl
def Fj ks ts r:noL 6 (bQ ks ts r):=by
 show(noL 5 (.tup<|(r.map<|kAt ks).map .str)&&(noL 5 _&&true));have b:noL 5 (.tup<|(r.map<|kAt ks).map .str):=by show((r.map _).map D.str).all _;exact Yh.mpr λd h=>by let#[x,_,rfl]:=Yg.mp h;rfl
 have a:noL 5 (.tup<|(di r).map<|dC ts):=by show((di r).map _).all _;exact Yh.mpr λd h=>?_;let#[x,_,rfl]:=Yg.mp h;let#[u,e]:=iw _;show noL 4<|srP _;rw[e];show(u.map dP).all _;exact Yh.mpr λd h=>by let#[x,_,rfl]:=Yg.mp h;rfl
 rw[b,a];rfl
section
variable{n:Int}
def KG{f}(h:cT C [.v W]=oW (.t3 false f l T) ()):bP C [.v W]=oW (.lst (l.map .int)) ():=by
 delta bP jN;generalize cT C=S at *;rw[p8];show bY ((BV _ [sV W]).map _)=_;have:eW S (aV (getV 0) nA) [sV W]=!.t3 false f l T:=by show(S [.v W]).bind dvO=_;rw[h];rfl
 delta BV;rw[this];rfl
def KA(h:bP C [.v W]=oW (.lst (l.map .int)) ())(a:dG C [.v W,.v (dL l)]=sV r):fq C [.v W]=sV r:=by
 delta fq nC;generalize bP C=Lo,dG C=R at *;rw[p8];have:aB 0 (aV (aj Lo<|aV (getV 0) nA) nA) [sV W]=![.v W,.v<|dL l]:=by show((((Lo [.v W]).bind dvD).bind λd=>(![]).map λx=>DV.v d::x)).map _=_;rw[h];rfl
 show bY (((aj R _ [sV W])).map _)=_;rw[show aj R _ [!DV.v W]=_ from YU (λz:Option _=>z.bind λx=>(R x).bind dvD) this];show bY (((R [.v W,.v<|dL l]).bind dvD).map _)=_;rw[a];rfl
abbrev zF(N KS TS:List D)(n:Int)(tb W:D)(x6 b a x9 x:Option DV):DF:=[sV<|.lst N,sV<|.lst KS,sV<|.lst TS,sI n,sV tb,sV W,x6,b,a,x9,x,()]
abbrev tO(f l:Qj)(T:List Qj):Option DV:=oW (.t3 false f l T) ()
abbrev kD3(l:Qj)(T:List Qj):D:=.lst [dL l,.lst<|T.map dL]
def z_a{b Tb S}{m}{N TS}{a}{f}(e:b [.v<|.lst N,.v<|.int 7,.v<|.int 7]=sV (.tup [.lst KS,.lst TS]))(c:KS.length=n)(i:(Tb [.v<|.lst TS,.v<|.int n]).bind dvD=!tb)(h:∀g ρ,g ρ=![.v<|.lst KS,.v<|.lst TS]->oK C m g ρ=!.ins C a)(j:S [.v<|.ins C a]=oW (.t3 false f l T) ()):(am (vp [1,2]<|aj b<|aB 0<|aV (cI 7)<|aV (cI 7) nA)
 <|am (aC 3<|d1 bU<|ap 1)
 <|am (aC 4<|aj Tb<|aB 2<|aB 3 nA)
 <|am (aC 5<|asO<|oK C m<|aB 1<|aB 2 nA)
 <|am (bC 6<|eW S<|aV (getV 5) nA)
  G) [sV<|.lst N,(),(),(),(),(),(),(),(),(),(),()]=G (zF N KS TS n tb (.ins C a) (tO f l T) () () () ()):=by
 rw[ak<|by
   rw[CZ,show aj b _ [sV _,(),(),(),(),(),(),(),(),(),(),()]=!.tup [.lst KS,.lst TS] by
    show(b [.v _,.v _,.v _]).bind dvD=_;rw[e];rfl]
   rfl,
  ak<|by
   show some _=_;rw[c],
  ak<|by
   show((Tb [.v _,.v _]).bind dvD).map _=_;rw[i];rfl,
  ak<|by
   rw[fi,eR,h _ _ qx];rfl,
  ak (ρ':=zF N KS TS n tb (.ins C a) _ () () () ())<|by
   show((S [.v<|.ins C a]).bind dvO).map _=_;rw[j];rfl]
def z_5{a}{N TS}{f}(h:a [.v W,.v (.lst KS),.v tb,.v (.tup [dL f,dL l,.lst (T.map dL)])]=sV (.bl true)):(dIf (cK 6<|bE<|asB<|aj a<|aB 5<|aB 1<|aB 4<|aB 6 nA) (aY λ_=>!.bl false) dNx) (zF N KS TS n tb W (tO f l T) () () () ())=!.nx (zF N KS TS n tb W (tO f l T) () () () ()):=by
 have:cK 6 (bE<|asB<|aj a<|aB 5<|aB 1<|aB 4<|aB 6 nA) (zF N KS TS n tb W (tO f l T) () () () ())=!false:=by show bE (asB λ_=>(a [.v W,.v _,.v tb,.v<|.tup [dL f,dL l,.lst<|T.map dL]]).bind dvD) []=_;rw[h];rfl
 rw[bJ,this];rfl
def z_6{N TS}{f}(h:L [.v (.lst KS),.v tb,.v (dL l)]=sV R)(a:noL 6 R):(aC 7<|thG 6 (noL 6)<|aj L<|aB 1<|aB 4<|aV (d2 ixD (ac 6)<|cI 1) nA) (zF N KS TS n tb W (tO f l T) () () () ())=!.nx (zF N KS TS n tb W (tO f l T) (sV R) () () ()):=by
 have:thG 6 (noL 6) (aj L<|aB 1<|aB 4<|aV (d2 ixD (ac 6)<|cI 1) nA) (zF N KS TS n tb W (tO f l T) () () () ())=!R:=by show((L [.v _,.v tb,.v<|dL l]).bind dvD).bind _=_;rw[h];show(if noL 6 R then !R else ())=_;rw[Yl a]
 rw[fi,this];rfl
def z_7{N TS}{f}(tl:T.length<=7):(aC 8<|asO<|asL<|ag (asO<|thG 6 thO<|asL<|cY<|d2 ixD (ac 6)<|cI 1)<|ag (asO<|thG 6 thO<|tU<|aI 1 [] (cQ<|d2 ixD (ac 6)<|cI 2) (setV 0) bf λρ=>((cY<|ac 0) ρ).map .lst) aE) (zF N KS TS n tb W (tO f l T) (sV R) () () ())=!.nx (zF N KS TS n tb W (tO f l T) (sV R) (sV<|kD3 l T) () ()):=by
 have g:thG 6 thO (asL<|cY<|d2 ixD (ac 6)<|cI 1) (zF N KS TS n tb W (tO f l T) (sV R) () () ())=!.lst (l.map .int):=by show(if thO _ then !OD.lst _ else ())=_;rw[Yl<|show thO (.lst _) from yO l]
 have b:thG 6 thO (tU<|aI 1 [] (cQ<|d2 ixD (ac 6)<|cI 2) (setV 0) bf λρ=>((cY<|ac 0) ρ).map .lst) (zF N KS TS n tb W (tO f l T) (sV R) () () ())=!.lst2 (T.map λt=>t.map .int):=by
  have c:∀ρ:DF,ρ[6]?=!sV _->aI 1 [] (cQ _) (setV 0) bf (λρ=>((cY<|ac 0) ρ).map .lst) ρ=!(T.map λt=>t.map D.int).map .lst:=λρ h=>by
   rw[a9];have:cQ (d2 ixD (ac 6)<|cI 2) ρ=!T.map dL:=by
    have:ac 6 ρ=!.tup [dL f,dL l,.lst<|T.map dL]:=by delta ac;rw[h]
    delta cQ d2;rw[this];rfl
   rw[this,Yb,Yl<|by rw[Ya];lia,YD];exact bq dL _ T λt _=>#[[sV<|dL t],qx,qx,qx]
  show(tU _ [_,_,_,_,_,_,sV _,_,_,_,_,_]).bind _=_;delta tU;rw[c _ qx,Yb,wt];show(if(T.map λt=>t.map D.int).all iM then !OD.lst2 _ else ())=_;rw[Yl (Yh.mpr λd a=>by let#[x,_,rfl]:=Yg.mp a;exact yO x)]
 rw[fi,eR,cP];have e:ag (asO<|thG 6 thO<|asL<|cY<|d2 ixD (ac 6)<|cI 1) (ag (asO<|thG 6 thO<|tU<|aI 1 [] (cQ<|d2 ixD (ac 6)<|cI 2) (setV 0) bf λρ=>((cY<|ac 0) ρ).map .lst) aE) (zF N KS TS n tb W (tO f l T) (sV R) () () ())=![dL l,.lst<|T.map dL]:=by delta ag;rw[eR,eR,g,b];show some [D.lst _,D.lst _]=_;rw[YD];rfl
 rw[e];rfl
def z_9{N TS}{f}:(dIf (cK 6<|asB<|d2 neD (asO<|asL<|ag (d2 ixD (ac 6)<|cI 1)<|ag (d2 ixD (ac 6)<|cI 2) aE)<|ap 8) (aY λ_=>!.bl false) dNx) (zF N KS TS n tb W (tO f l T) (sV R) (sV<|kD3 l T) () ())=!.nx (zF N KS TS n tb W (tO f l T) (sV R) (sV<|kD3 l T) () ()):=by
 have ok:okN 30 (kD3 l T):=by show(okN 29 (dL l)&&(okN 29 _&&true));rw[Hx,BM];rfl
 have:cK 6 (asB<|d2 neD (asO<|asL<|ag (d2 ixD (ac 6)<|cI 1)<|ag (d2 ixD (ac 6)<|cI 2) aE)<|ap 8) (zF N KS TS n tb W (tO f l T) (sV R) (sV<|kD3 l T) () ())=!false:=by show asB (λ_=>neD (kD3 l T) _) []=_;rw[uM ok];rfl
 rw[bJ,this];rfl
def MZ{N TS}{f m}:(dIf (cK 6<|asB<|d2 neD (d2 ixD (ac 6)<|cI 2)<|d2 ixD (ac 8)<|cI 1) (aY λ_=>!.bl false) dNx) (zF N KS TS n tb W (tO f m T) (sV R) (sV<|kD3 l T) () ())=!.nx (zF N KS TS n tb W (tO f m T) (sV R) (sV<|kD3 l T) () ()):=by
 have:cK 6 (asB<|d2 neD (d2 ixD (ac 6)<|cI 2)<|d2 ixD (ac 8)<|cI 1) (zF N KS TS n tb W (tO f m T) (sV R) (sV<|kD3 l T) () ())=!false:=by show asB (λ_=>neD (.lst<|T.map dL) _) []=_;rw[uM<|BM 27 T];rfl
 rw[bJ,this];rfl
def z_b{A I E L b S}{N TS}{f}(fl:f.length<=7)(tl:T.length<=7)(a:Lo [.v W]=oW (.lst<|l.map .int) ())(j:A [.v W]=sV R)(o:I [.v<|dL l,.v<|.int n]=sV (.bl true))(s:E [.v W,.v<|dL l]=oW (.lst<|l.map .int) ())(m:L [.v<|.lst KS,.v tb,.v<|dL l]=sV R)(i:Ro [.v W,.v<|dL l]=sV R)(h:neD R R=!.bl false)(B:jM "tuple" R=!.bl true)(g:S [.v W]=oW (.t3 false f l T) ())(p:b [.v W,.v<|.lst KS,.v tb,.v<|.tup [dL f,dL l,.lst<|T.map dL]]=sV (.bl true)):bY ((am (zK 6<|cI 9)
 <|am (dIf (cK 6<|asB<|d2 neD (asO<|asL<|ag (d2 ixD (ac 6)<|cI 1)<|ag (d2 ixD (ac 6)<|cI 2) aE)<|ap 8) (aY λ_=>!.bl false) dNx)
 <|am (zz 6)
 <|am (dIf (cK 6<|asB<|d2 neD (d2 ixD (ac 6)<|cI 2)<|d2 ixD (ac 8)<|cI 1) (aY λ_=>!.bl false) dNx)
 <|am (tE 6<|asL<|ag (cI 9) aE)
 <|am (bC 9<|eW Lo<|aV (getV 5) nA)
 <|am (dIf (cK 9<|orT (bE<|asB<|aj I<|aB 9<|aV (getV 3) nA)<|orT (asB<|d2 neD (ap 9)<|aj E<|aB 5<|aB 9 nA)<|asB<|d2 neD (aj L<|aB 1<|aB 4<|aB 9 nA)<|ap 7) (aY λ_=>!.bl false) dNx)
 <|am (aC 10<|aj A<|aV (getV 5) nA)
 <|am (ES 9)
 <|am (dIf (orT (bE<|asB<|d1 (jM "tuple")<|ap 10)<|orT (asB<|d2 neD (ap 10)<|ap 7)<|asB<|d2 neD (aj Ro<|aB 5<|aV (aj Lo<|aV (getV 5) nA) nA)<|ap 7) (aY λ_=>!.bl false) dNx)
 <|am (zA 6 11)
 <|aY<|aj b<|aB 5<|aB 1<|aB 4<|aV (aj S<|aV (getV 5) nA) nA)<|zF N KS TS n tb W (tO f l T) (sV R) (sV<|kD3 l T) () ())=sV (.bl true):=by
 have n2:neD (dL l) (dL l)=!.bl false:=(wk l l).trans (by rw[YI qx];rfl);rw[ak (ρ':=zF N KS TS n tb W (tO (f++[9]) l T) (sV R) (sV<|kD3 l T) () ())<|by
   show(if f.length<16777216 then !RES.nx (zF N KS TS n tb W (tO (f++[9]) l T) (sV R) (sV<|kD3 l T) () ()) else ())=_;rw[Yl<|by lia],
  ak z_9,
  ak (ρ':=zF N KS TS n tb W (tO (f++[9]) [] T) (sV R) (sV<|kD3 l T) () ()) qx,
  ak MZ,
  ak (ρ':=zF N KS TS n tb W (tO (f++[9]) []<|T++[[9]]) (sV R) (sV<|kD3 l T) () ())<|by
   show(if T.length<16777216 then !RES.nx (zF N KS TS n tb W (tO (f++[9]) []<|T++[[9]]) (sV R) (sV<|kD3 l T) () ()) else ())=_;rw[Yl<|by lia],
  ak (ρ':=zF N KS TS n tb W (tO (f++[9]) []<|T++[[9]]) (sV R) (sV<|kD3 l T) (oW (.lst<|l.map .int) ()) ())<|by
   show((Lo [.v W]).bind dvO).map _=_;rw[a];rfl]
 generalize kD3 l T=K;have e:cK 9 (orT (bE (asB (aj I (aB 9 (aV (getV 3) nA))))) (orT (asB (d2 neD (ap 9) (aj E (aB 5 (aB 9 nA))))) (asB (d2 neD (aj L (aB 1 (aB 4 (aB 9 nA)))) (ap 7))))) (zF N KS TS n tb W (tO (f++[9]) [] (T++[[9]])) (sV R) (sV K) (oW (.lst (l.map .int)) ()) ())=!false:=by
  show orT _ _ (zF N KS TS n tb W (tO (f++[9]) [] (T++[[9]])) (sV R) (sV K) (sV (dL l)) ())=_;have z:aj I (aB 9 (aV (getV 3) nA)) (zF N KS TS n tb W (tO (f++[9]) [] (T++[[9]])) (sV R) (sV K) (sV (dL l)) ())=!.bl true:=by show(I [.v (dL l),.v (.int n)]).bind dvD=_;rw[o];rfl
  have w:d2 neD (ap 9) (aj E (aB 5 (aB 9 nA))) (zF N KS TS n tb W (tO (f++[9]) [] (T++[[9]])) (sV R) (sV K) (sV (dL l)) ())=!.bl false:=by show(!dL l).bind (λx=>((E [.v W,.v (dL l)]).bind dvD).bind λy=>neD x y)=_;rw[s];exact n2
  have u:d2 neD (aj L (aB 1 (aB 4 (aB 9 nA)))) (ap 7) (zF N KS TS n tb W (tO (f++[9]) [] (T++[[9]])) (sV R) (sV K) (sV (dL l)) ())=!.bl false:=by show((L [.v (.lst KS),.v tb,.v (dL l)]).bind dvD).bind (λx=>neD x R)=_;rw[m];exact h
  delta orT bE asB;rw[z,w,u];rfl
 rw[ak (ρ':=zF N KS TS n tb W (tO (f++[9]) [] (T++[[9]])) (sV R) (sV K) (oW (.lst (l.map .int)) ()) ()) (by rw[bJ,e];rfl),
  ak (ρ':=zF N KS TS n tb W (tO (f++[9]) [] (T++[[9]])) (sV R) (sV K) (oW (.lst (l.map .int)) ()) (sV R)) (by
   show((A [.v W]).bind dvD).map _=_;rw[j];rfl),
  ak (ρ':=zF N KS TS n tb W (tO (f++[9]) [] (T++[[9]])) (sV R) (sV K) (oW (.lst []) ()) (sV R)) qx]
 have q:orT (bE (asB (d1 (jM "tuple") (ap 10)))) (orT (asB (d2 neD (ap 10) (ap 7))) (asB (d2 neD (aj Ro (aB 5 (aV (aj Lo (aV (getV 5) nA)) nA))) (ap 7)))) (zF N KS TS n tb W (tO (f++[9]) [] (T++[[9]])) (sV R) (sV K) (oW (.lst []) ()) (sV R))=!false:=by
  have z:d1 (jM "tuple") (ap 10) (zF N KS TS n tb W (tO (f++[9]) [] (T++[[9]])) (sV R) (sV K) (oW (.lst []) ()) (sV R))=!.bl true:=B;have w:d2 neD (ap 10) (ap 7) (zF N KS TS n tb W (tO (f++[9]) [] (T++[[9]])) (sV R) (sV K) (oW (.lst []) ()) (sV R))=!.bl false:=h;have u:aj Ro (aB 5 (aV (aj Lo (aV (getV 5) nA)) nA)) (zF N KS TS n tb W (tO (f++[9]) [] (T++[[9]])) (sV R) (sV K) (oW (.lst []) ()) (sV R))=!R:=by
   have:aB 5 (aV (aj Lo (aV (getV 5) nA)) nA) (zF N KS TS n tb W (tO (f++[9]) [] (T++[[9]])) (sV R) (sV K) (oW (.lst []) ()) (sV R))=![.v W,.v (dL l)]:=by show((((Lo [.v W]).bind dvD).bind λd=>(![]).map λc=>DV.v d::c)).map _=_;rw[a];rfl
   delta aj at this ⊢;rw[this];show(Ro [.v W,.v (dL l)]).bind dvD=_;rw[i];rfl
  have H:d2 neD (aj Ro (aB 5 (aV (aj Lo (aV (getV 5) nA)) nA))) (ap 7) (zF N KS TS n tb W (tO (f++[9]) [] (T++[[9]])) (sV R) (sV K) (oW (.lst []) ()) (sV R))=!.bl false:=by delta d2;rw[u];exact h
  delta orT bE asB;rw[z,w,H];rfl
 rw[ak (ρ':=zF N KS TS n tb W (tO (f++[9]) [] (T++[[9]])) (sV R) (sV K) (oW (.lst []) ()) (sV R)) (by rw[bJ,q];rfl),
  ak (ρ':=zF N KS TS n tb W () (sV R) (sV K) (oW (.lst []) ()) (sV R)) qx]
 have C:aj b (aB 5 (aB 1 (aB 4 (aV (aj S (aV (getV 5) nA)) nA)))) (zF N KS TS n tb W () (sV R) (sV K) (oW (.lst []) ()) (sV R))=!.bl true:=by
  have:aB 5 (aB 1 (aB 4 (aV (aj S (aV (getV 5) nA)) nA))) (zF N KS TS n tb W () (sV R) (sV K) (oW (.lst []) ()) (sV R))=![.v W,.v (.lst KS),.v tb,.v (.tup [dL f,dL l,.lst (T.map dL)])]:=by show((((((S [.v W]).bind dvD).bind λd=>(![]).map λc=>DV.v d::c)).map _).map _).map _=_;rw[g];rfl
  delta aj at this ⊢;rw[this];show(b [.v W,.v (.lst KS),.v tb,.v (.tup [dL f,dL l,.lst (T.map dL)])]).bind dvD=_;rw[p];rfl
 rw[lD,C];rfl
def FB(h:1<=n)(b:okK n ks){a}(p:a.Perm (ao n)):neD (bQ ks ts a) (bQ ks ts a)=!.bl false:=uM<|kP h b p
def law_true C(ns:Qj)(hl:ns.length<=63):IT C [.v (.lst (ns.map L2.D.int))]=sV (.bl true):=by
 let#[n,ks,ts,h,b,w,hW]:=EN C ns;let#[M,O,c,Q]:=Bg C n ts h w.1;let#[a,s,S,B]:=JK C ks ts n h b w;let X:=Az h b w;have u:=λp x=>BH C ks (.lst<|srt ts) a ts p n h b.1 x s
 have i:noN 6 (.ins C<|wFs ks (.lst<|srt ts)<|.dT a):=by let#[U,eu,_]:=zj _;rw[show srt ts=U.map dT4 from eu];exact E5 S
 have N:(lS ks ts n).fst≠[]:=λz=>by
  have:=(aO h.1 X.pf).1;rw[z,YV]at this;lia
 let e:=EL h b s i N u;generalize (lS ks ts n).fst=f,(lS ks ts n).lst=l,(lS ks ts n).trn=T at *;let P:=λp x=>kg h u p x
 let K:=λaim Y=>Jc C (aim:=aim) h b Y (vH h b u) P
 let o:=C5 C h b c Q X K;let m:=KG e;let g:=rX C ks (.lst<|srt ts) a ts l n h b.1 X.pl s;let I:=KA m g;let j:=Gg C ks M ts l n h b.1 X.pl c;let J:=uS C h X.pl;let q:=K l X.pl;rw[X.el]at q;have E:((ks.map D.str).length)=n:=by rw[Ya];exact b.1
 have H:(ee C [.v<|.lst<|ts.map dT4,.v<|.int n]).bind dvD=!.dT M:=by rw[O];rfl
 let A:=FB (ts:=ts) h.1 b X.pl;let y:=Fj ks ts l;have Z:jM "tuple" (bQ ks ts l)=!.bl true:=rfl;have fl:f.length<=7:=by have:=(aO h.1 X.pf).1;lia
 have L:T.length<=7:=by have:=X.lt;lia
 clear K P u S i O s c Q X N;delta IT LO;generalize wFs ks _ _=Fw,bQ ks ts l=R,fZ C=Lr,g8 C=Wb,ee C=Tb,eT C=mk,cT C=Se,bP C=Lo,fq C=Lt,d_ C=Fd,br C=Io,dn C=En,dG C=Ro at *;rw[p8,show aK 12 1 [.v _]=[sV _,(),(),(),(),(),(),(),(),(),(),()]from rfl];rw[z_a hW E H B e,ak<|z_5 o,ak<|z_6 j y,ak<|z_7 L];exact z_b fl L m I J q j g A Z e o
end
def spLaw(K:Kq):Sp:=λc H Q _=>∃(a:Addr) (b:Qj),c=[.ref a]/\SqL K H a (b.map V.int)/\b.length<=63/\∀e,Q (.bl true) e
def jJ:∀ns:Qj,Reps K H (ns.map V.int) (ns.map D.int)
 |[]=>.nil
 |_::ns=>.cons .int<|jJ ns
def Bd(h:∀ns:Qj,ns.length<=63->m [.v (.lst (ns.map D.int))]=!.v (.bl true)):∀vs H Q E,spLaw K vs H Q E->spD K m vs H Q E:=by rintro vs H Q E ⟨a,ns,rfl,c,b,f⟩;exact#[λ_=>(),H,_,_,h ns b,#[λ_ _ e=>e,λ_ _ e=>(by cases e),λ_ _ e=>(by cases e)],.cons qx (show Rep K H _ _ from .lst c<|jJ ns) .nil,λv i g _ _ r=>?_];cases r;exact f g
def gS(P:Params)(a n:Nat):List DictEntry:=(((rT.filter (·.i<1000)).drop a).take n).map λr=>kE P (gH<|top r.i) (r.h+2)<|.ref<|r.a+1
def kz:Str := "__doc__"
def KK:Params->PySem.W.Frag:=λP=>(λ(_:kz = "__doc__")=>[(nat_lit 3,{cls:=.type "dict",data:=.dict ([kE P "__name__" 165<|.str "law_tieword_k12_a_search_walked" 595,kE P "__doc__" 166<|.none,kE P "__package__" 167<|.none,kE P "__loader__" 168<|.builtin "__main__.__loader__#opaque",kE P "__spec__" 169<|.none,kE P "__annotations__" 170<|.ref 6,kE P "__builtins__" 171<|.ref 4,kE P "__file__" 173<|.str "/claim/cut.py" 172,kE P "__cached__" 174<|.none,kE P "_wall" 193<|.ref 21]++gS P 0 10++[kE P "reached" 275<|.ref 87]++gS P 10 4++[kE P "Search" 383<|.ref 157]++gS P 14 3++[kE P "WebError" 425<|.ref 192,kE P "TooGreat" 441<|.ref 205,kE P "BadPlace" 457<|.ref 217,kE P "BadTie" 473<|.ref 229,kE P "MOST_PLACES" 477<|.int 7 476,kE P "MOST_TIES" 479<|.int 12 478,kE P "MOST_LETTERS" 481<|.int 3 480]++gS P 17 7++[kE P "Web" 594<|.ref 314]++gS P 24 3++[kE P "_law_numbers" 625<|.ref 344]++gS P 27 17).toArray 65}),
(nat_lit 82,{cls:=.type "tuple",data:=.seq #[[.none]]}),
(nat_lit 86,{cls:=.type "code",data:=.fields #[[.str "reached" 270,.str "reached" 271,.str "/claim/cut.py" 272,.int 41 0,.int 3 0,.int 0 0,.int 0 0,.int 3 0,.ref 83,.bool true,.int 181 0,.ref 84,.none,.none,.none,.ref 85,.int 273 0,.int 41 0,.str "/claim/cut.py" 274]]}),
(nat_lit 87,#[.type "function",(),.func dR,#[[]]]),
(nat_lit 156,{cls:=.type "dict",data:=.dict #[[kE P "__module__" 309<|.str "tieword.search" 276,kE P "__firstlineno__" 313<|.int 65 312,kE P "__init__" 321<|.ref 121,kE P "begin" 331<|.ref 128,kE P "arrive" 341<|.ref 135,kE P "left_out" 347<|.ref 140,kE P "on_first" 355<|.ref 147,kE P "go" 368<|.ref 154,kE P "__static_attributes__" 376<|.ref 155,kE P "__dict__" 378<|.ref 158,kE P "__weakref__" 380<|.ref 159,kE P "__doc__" 381<|.none]] 4}),
(nat_lit 157,{cls:=.type "type",data:=.cls {name := "Search",bases:=[.type "object"],mro:=[.ref 157,.type "object"],ns:=156,qualname := "Search" },slots:=#[[(),(),!(.str "Search" 302),!(.str "Search" 310),!(.builtin "object.__new__"),!.bool true]]}),
(nat_lit 313,{cls:=.type "dict",data:=.dict #[[kE P "__module__" 549<|.str "tieword.webs" 474,kE P "__firstlineno__" 553<|.int 167 552,kE P "__init__" 559<|.ref 290,kE P "size" 566<|.ref 297,kE P "between" 575<|.ref 304,kE P "near" 583<|.ref 311,kE P "__static_attributes__" 587<|.ref 312,kE P "__dict__" 589<|.ref 315,kE P "__weakref__" 591<|.ref 316,kE P "__doc__" 592<|.none]] 4}),
(nat_lit 314,{cls:=.type "type",data:=.cls {name := "Web",bases:=[.type "object"],mro:=[.ref 314,.type "object"],ns:=313,qualname := "Web" },slots:=#[[(),(),!(.str "Web" 542),!(.str "Web" 550),!(.builtin "object.__new__"),!.bool true]]})]++rT.flatMap λr=>[(r.a,cO (gH<|top r.i) (qn r.i) r.t (lno<|top r.i) (eU<|top r.i).length (if r.c == 1 then r.a-5 else r.a-3) (r.c == 1) r.h 181),(r.a+1,fO (qn r.i) (top r.i) (mdl r.m) r.a)]) qx
def tbR:Addr×Obj:=(nat_lit 3,#[.str "Search.left_out.<locals>.<lambda>" 137,(),.fields #[[.int 98 0,.int 39 0,.int 98 0,.int 86 0]],#[[]]])
def K2(P:Params):PySem.W.Frag:=KK P++[tbR]
def fnR(h1:K.lookup fR=!#[.type "function",(),.func dR,#[[]]])(h2:PySem.W.codeIn K (.ref 86) "reached")(a:K.lookup (nat_lit 82)=!#[.type "tuple",(),.seq #[[Value.none]] 0,#[[]]])(h:PySem.W.keepIn K (.ref fR)):FunD K "reached" "reached" (top 13) fR dR:=#[#[_,_,_,_,_,_,_,_,_,_,_,_,qx,h1,h2,a,qx],h]
def bdR(F:FunD K "reached" "reached" (top 13) fR dR):Binds K dR ["starts","onward","most"] [Value.none]:=F.binds λ_ _ _ _ _ _ _ u h=>by
 obtain⟨c,l,rfl⟩:∃a l,u=a::l:=by cases u with|nil=>cases h|cons a l=>exact#[a,l,qx]
 obtain⟨b,rfl⟩:∃a,l=[a]:=List.length_eq_one_iff.mp<|Ue<|Ue h;exact#[_,qx,qx]
def tbs P:fN (K2 P)=[(nat_lit 137,("Search.left_out.<locals>.<lambda>":Str),(#[98,39,98,86]))]:=by kernel_rfl
def k2_in{P}(X:(KK P).In h):(K2 P).In h:=λb o e=>by
 delta K2 at e;rw[List.lookup_append]at e;cases q:(KK P).lookup b with
 |some u=>rw[q]at e;cases e;exact X b _ q
 |none=>
  rw[q]at e;by_cases z:b=3
  .subst z;have:((KK P).lookup 3).isSome:=by kernel_rfl
   rw[q]at this;cases this
  .have:[tbR].lookup b=():=by delta tbR;rw[Zx,show(b == _)=false from ZB.mpr z];rfl
   rw[this]at e;cases e
def k2_tb{P}(a:h.get? (nat_lit 137)=!PySem.W.tabObj #[[]]):∀t q p,gt (K2 P) t q p->h.get? t=!PySem.W.tabObj #[[]]/\TabsOk (K2 P) t:=λt q p z=>by
 have z:(fN<|K2 P).lookup t=!(q,p):=z;rw[tbs,Zx]at z;split at z
 .rename_i e;let e:=eq_of_beq e;subst e;exact#[a,by kernel_rfl,by decide,nat_lit 139,by kernel_rfl]
 .cases z
def lkA P:rT.map (λr=>((K2 P).lookup (r.a+1),PySem.W.codeIn (K2 P) (.ref r.a) (qn r.i),PySem.W.keepIn (K2 P) (.ref (r.a+1))))=rT.map λr=>(!fO (qn r.i) (top r.i) (mdl r.m) r.a,true,true):=by kernel_rfl
def glA P:rT.map (λr=>if r.i<1000 then PySem.W.nsIn (K2 P) mainGlobals (gH (top r.i))else ())=rT.map λr=>if r.i<1000 then !!.ref (r.a+1)  else ():=by kernel_rfl
def bdA:∀r∈rT,LD (qn r.i) (top r.i) (mdl r.m) r.a:=by
 delta rT
 repeat' exact List.forall_mem_cons.2 #[?_,?_]
 all_goals first|exact List.forall_mem_nil _|((repeat intro _);show _=_;kernel_rfl)
def dfA{P:Params}(X:(K2 P).In h)(G:h.Ns mainGlobals mg)(i:Nat)(hi:(row i).isSome):Df (K2 P) (qn i) (top i) (fA i) (dA i)/\(i<1000->mg (gH (top i))=!.ref (fA i)):=by let#[r,e]:=Xd.mp hi;let m:=List.mem_of_find?_eq_some e;have q:r.i=i:=Vk.mp (List.find?_some (p:=λx:Rw=>x.i == i) (l:=rT) e);subst q;let a:=List.map_inj_left.mp (lkA P) r m;let b:=List.map_inj_left.mp (glA P) r m;simp only[Prod.mk.injEq]at a;delta fA dA;rw[e];exact#[LK a.1 a.2.1 a.2.2 (bdA r m),λz=>?_];rw[Yl z,Yl z]at b;exact PySem.W.mg_of X G b
def all_mk{l:PySem.W.OpenLaw}{P:Params}{fa:Addr}(X:(K2 P).In h)(G:h.Ns mainGlobals mg)(hfa:mg "law"=!.ref fa):∃fd:FuncData,(∀(s:Shared) (v:Value),BindsTo s fd #[[v],[]] [("_law_script",v)])/\∀base:Heap,(K2 P).In base->base.Ns mainGlobals mg->FnOk l.prog w (K2 P) mg base CX0 19 fa fd ["_law_script"] (spLaw (K2 P)):=by
 let e:=hfa.symm.trans ((dfA X G 61 qx).2 (by decide));cases e;have T:Txt (K2 P) mg #[314,476,478,480]:=by
  constructor
  .exact dfA X G
  all_goals first
   |exact fnR (by kernel_rfl) (by kernel_rfl) (by kernel_rfl) (by kernel_rfl)
   |exact bdR (fnR (by kernel_rfl) (by kernel_rfl) (by kernel_rfl) (by kernel_rfl))
   |exact PySem.W.mg_none_of X G (by kernel_rfl)
   |exact PySem.W.mg_of X G (by kernel_rfl)
   |(delta NoAttr;kernel_rfl)
   |exact KD.mk (by kernel_rfl) (by decide) (by kernel_rfl)
   |(constructor<;>kernel_rfl)
   |kernel_rfl
   |(intro k;cases k<;>constructor<;>kernel_rfl)
   |(intro k;cases k<;>first|exact Eq.trans (b:=!true) (by kernel_rfl) (by simp)|exact Eq.trans (b:=!false) (by kernel_rfl) (by simp)|kernel_rfl)
 exact#[_,λs v=>.of_eq qx,λbase _ _=>(L5 T).imp (Bd (law_true _))]
end My
end
local macro_rules|`(command|open B)=>do
 let p:=`PySem.Challenge.cw_tieword_k12_a_search_walked_holds
 let f n:=Lean.mkIdent (.mkSimple s!"tw{Lean.Name.hash n}")
 let a:=[("heap_","46 503"),("tree_","47 128 145 201 237 252 267 315 371 456 502"),("view_","39"),("sts_","49 129 146 202 238 253 268 316 372 457"),("o_","45 46 49 53 55 56 57 60 61 62 65 66 67 70 71 72 75 77 78 79 82 84 85 86 89 91 92 93 96 98 99 100 103 104 105 108 110 111 112 115 116 117 121 122 123 126 127 128 129 133 134 135 138 139 140 141 143 144 145 146 150 153 154 157 159 160 161 164 166 167 168 171 173 174 175 178 179 180 183 185 186 187 190 192 193 194 195 196 197 198 199 201 202 206 208 209 210 213 215 216 217 220 222 223 224 225 227 230 231 233 234 235 237 238 240 243 246 247 249 250 251 252 253 255 258 261 262 264 265 267 268 270 272 273 276 277 279 280 282 285 286 287 290 292 293 294 297 299 300 301 304 306 307 308 311 313 314 315 316 320 322 323 324 327 329 330 331 334 337 338 341 342 343 346 348 349 350 353 355 356 357 360 362 363 364 365 366 367 368 369 370 371 372 376 378 379 380 383 385 386 387 390 392 393 394 397 398 399 402 404 405 406 409 411 412 413 416 418 419 420 423 425 426 427 430 431 432 435 437 438 439 442 444 445 446 449 450 451 454 455 456 457 461 463 464 465 468 470 471 472 475 476 477 480 481 482 485 486 487 490 491 492 495 496 497 500 501 502")].toArray.flatMap λ(s,l)=>(l.splitOn.map λi=>f (p.str (s++i))).toArray
 `(command|structure $(Lean.mkIdent `PySem.W.Fast):ident:Prop where ($(f `PySem.Challenge.pw_tieword_k12_a_search_walked):ident $a*:True))
open B
open PySem PySem.W PyProof.Rows
set_option maxRecDepth 100000 in
set_option maxHeartbeats 0 in
theorem PySem.Challenge.cw_tieword_k12_a_search_walked_holds : PySem.Challenge.rw_tieword_k12_a_search_walked.Holds := by
  w_on; o_law; o_head (PySem.W.kmHook My.KK [3,82,86,87,156,157,313,314,25,26,30,31,35,36,42,43,49,50,56,57,63,64,68,69,75,76,80,81,91,92,96,97,101,102,106,107,120,121,127,128,134,135,139,140,146,147,153,154,167,168,174,175,181,182,235,236,242,243,249,250,256,257,263,264,270,271,277,278,289,290,296,297,303,304,324,325,331,332,338,339,350,351,357,358,364,365,371,372,376,377,383,384,390,391,395,396,400,401,407,408,414,415,419,420,424,425,429,430,434,435,439,440,444,445] (λ_=>by kernel_rfl) [137]); (case hw=>w_witness2)
  k_fill
  exact L2.walk_ofK (l:=PySem.Challenge.rw_tieword_k12_a_search_walked) (n:=63) (k:=19) (x := "_law_script") (K:=My.K2) (CX:=L2.CX0) (sp:=My.spLaw) qx (by decide) qx #[qx,by decide,by decide] (λw h Y=>#[My.k2_in (PySem.W.km_in_of Y),My.k2_tb (PySem.W.km_tabs_of Y _ (List.mem_singleton.2 qx))]) ?F (λK H a ns hl hS=>#[a,ns,qx,hS,hl,λ_=>rfl]) λ_ _ _ _ z=>z
  case F=>
    intro w mg fa h KX G hmg
    exact My.all_mk KX G hmg
