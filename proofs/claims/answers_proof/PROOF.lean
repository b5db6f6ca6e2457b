import PyProof.Rows.All
import Wide.All
import OpenK.AllK
import Wide.FinOn
import PyProof.EqAt
import PyProof.EqKinds
import PyProof.TupleCall
import KE.BitLaws
import Open.SpecLaws
import KE.OsHead
import KE.OsGo
import KE.KTabLook
import PySem.Challenge.RW_motionbank_s01_answers
set_option Elab.async false
set_option linter.all false
set_option maxRecDepth 100000
set_option maxHeartbeats 8000000
abbrev z6:=@Array.getElem?_eq_getElem
abbrev z7:=@Array.getElem?_eq_none
abbrev z8:=@Array.getElem?_toList
abbrev z9:=@Array.length_toList
abbrev za:=@Bool.and_eq_true
abbrev zc:=@Bool.and_false
abbrev zd:=@Bool.and_true
abbrev ze:=@Bool.eq_false_iff
abbrev zf:=@Bool.eq_iff_iff
abbrev zg:=@Bool.false_and
abbrev zh:=@Bool.false_eq_true
abbrev zi:=@Bool.false_ne_true
abbrev zj:=@Bool.false_or
abbrev zk:=@Bool.not_eq_false
abbrev zl:=@Bool.not_eq_false'
abbrev zm:=@Bool.not_eq_true'
abbrev zo:=@Bool.not_false
abbrev zp:=@Bool.true_and
abbrev zq:=@Function.comp_def
abbrev zt:=@Int.toNat_natCast
abbrev zu:=@List.Perm.refl
abbrev zw:=@List.all_cons
abbrev zx:=@List.all_eq_true
abbrev zy:=@List.all_map
abbrev zz:=@List.any_cons
abbrev zA:=@List.any_eq_false
abbrev zB:=@List.any_eq_true
abbrev zC:=@List.any_map
abbrev zD:=@List.append_assoc
abbrev zE:=@List.append_nil
abbrev zF:=@List.cons_append
abbrev zG:=@List.contains_eq_mem
abbrev zH:=@List.contains_iff_mem
abbrev zI:=@List.count_cons
abbrev zJ:=@List.drop_drop
abbrev zK:=@List.drop_eq_nil_of_le
abbrev zL:=@List.drop_length
abbrev zM:=@List.drop_zero
abbrev zN:=@List.eq_nil_of_length_eq_zero
abbrev zO:=@List.eraseIdxIfInBounds_toArray
abbrev zP:=@List.ext_getElem?
abbrev zQ:=@List.filterMap_append
abbrev zR:=@List.filterMap_cons
abbrev zS:=@List.filter_append
abbrev zT:=@List.filter_congr
abbrev zU:=@List.filter_cons
abbrev zV:=@List.filter_nil
abbrev zW:=@List.find?_append
abbrev zX:=@List.find?_cons
abbrev zY:=@List.find?_eq_none
abbrev zZ:=@List.find?_some
abbrev y0:=@List.flatMap_cons
abbrev y1:=@List.flatMap_nil
abbrev y2:=@List.flatten_cons
abbrev y3:=@List.foldl_cons
abbrev y4:=@List.getD_eq_getElem?_getD
abbrev y6:=@List.getElem?_append_left
abbrev y8:=@List.getElem?_cons_succ
abbrev y9:=@List.getElem?_cons_zero
abbrev ya:=@List.getElem?_dropLast
abbrev yb:=@List.getElem?_eq_getElem
abbrev yc:=@List.getElem?_eq_none
abbrev yd:=@List.getElem?_map
abbrev ye:=@List.getElem?_mapIdx
abbrev yf:=@List.getElem?_modify
abbrev yg:=@List.getElem?_of_mem
abbrev yh:=@List.getElem?_range
abbrev yi:=@List.getElem?_set
abbrev yj:=@List.getElem?_set_ne
abbrev yk:=@List.getElem?_set_self
abbrev yl:=@List.getElem?_zipIdx
abbrev ym:=@List.getElem_idxOf
abbrev yn:=@List.getElem_inj
abbrev yo:=@List.getElem_mem
abbrev yp:=@List.getLast?_eq_none_iff
abbrev yq:=@List.isEmpty_eq_false_iff
abbrev yr:=@List.isEmpty_iff_length_eq_zero
abbrev yt:=@List.length_append
abbrev yu:=@List.length_cons
abbrev yw:=@List.length_drop
abbrev yx:=@List.length_dropLast
abbrev yy:=@List.length_eraseIdx
abbrev yz:=@List.length_filter_le
abbrev yA:=@List.length_map
abbrev yB:=@List.length_nil
abbrev yC:=@List.length_range
abbrev yD:=@List.length_set
abbrev yE:=@List.length_singleton
abbrev yF:=@List.length_take
abbrev yG:=@List.lookup_cons
abbrev yH:=@List.map_append
abbrev yI:=@List.map_congr_left
abbrev yJ:=@List.map_cons
abbrev yK:=@List.map_drop
abbrev yL:=@List.map_id'
abbrev yM:=@List.map_inj_right
abbrev yN:=@List.map_map
abbrev yO:=@List.map_nil
abbrev yP:=@List.map_set
abbrev yQ:=@List.map_take
abbrev yR:=@List.mem_append_left
abbrev yS:=@List.mem_append_right
abbrev yT:=@List.mem_cons
abbrev yU:=@List.mem_cons_of_mem
abbrev yV:=@List.mem_cons_self
abbrev yW:=@List.mem_filterMap
abbrev yX:=@List.mem_of_find?_eq_some
abbrev yY:=@List.mem_of_getElem?
abbrev yZ:=@List.mem_of_mem_drop
abbrev x6:=@List.mem_of_mem_take
abbrev x8:=@List.mem_or_eq_of_mem_set
abbrev x9:=@List.nil_append
abbrev xa:=@List.nodup_cons
abbrev xb:=@List.nodup_iff_pairwise_ne
abbrev xc:=@List.not_mem_nil
abbrev xf:=@List.of_mem_zip
abbrev xg:=@List.pairwise_iff_getElem
abbrev xh:=@List.pairwise_map
abbrev xi:=@List.range_succ
abbrev xj:=@List.range_succ_eq_map
abbrev xk:=@List.replicate_succ
abbrev xl:=@List.size_toArray
abbrev xm:=@List.take_length
abbrev xo:=@List.take_of_length_le
abbrev xp:=@List.take_zero
abbrev xt:=@List.toList_toArray
abbrev xu:=@Nat.add_assoc
abbrev xw:=@Nat.add_zero
abbrev xx:=@Nat.le_of_ble_eq_true
abbrev xy:=@Nat.le_of_eq
abbrev xA:=@Nat.le_of_lt
abbrev xB:=@Nat.le_of_succ_le
abbrev xC:=@Nat.le_refl
abbrev xD:=@Nat.le_succ
abbrev xE:=@Nat.le_trans
abbrev xF:=@Nat.lt_irrefl
abbrev xG:=@Nat.lt_of_le_of_lt
abbrev xH:=@Nat.lt_of_lt_of_le
abbrev xI:=@Nat.lt_succ_of_lt
abbrev xJ:=@Nat.lt_succ_self
abbrev xK:=@Nat.mul_comm
abbrev xM:=@Nat.mul_le_mul_right
abbrev xN:=@Nat.ne_of_lt
abbrev xO:=@Nat.succ_mul
abbrev xP:=@Nat.zero_add
abbrev xQ:=@Nat.zero_le
abbrev xR:=@Ne.symm
abbrev xS:=@Option.bind_some
abbrev xT:=@Option.getD_none
abbrev xU:=@Option.map_eq_none_iff
abbrev xV:=@Option.map_none
abbrev xW:=@Option.map_some
abbrev xX:=@Option.some.inj
abbrev xY:=@Prod.ext
abbrev xZ:=@PyProof.Rows.callWith_type1
abbrev Z0:=@PySem.F.args_dict_get_3
abbrev Z1:=@PySem.F.args_list_index_2
abbrev Z2:=@PySem.F.entry_dict_get
abbrev Z3:=@PySem.F.entry_list_index
abbrev Z4:=@PySem.F.entry_min_loop
abbrev Z5:=@PySem.F.plainAttrs_list
abbrev Z6:=@PySem.F.plain_min_loop
abbrev Z7:=@PySem.F.slot_dict_get
abbrev Z8:=@PySem.F.slot_dict_getitem
abbrev Z9:=@PySem.F.slot_list_count
abbrev Za:=@PySem.F.slot_list_extend
abbrev Zb:=@PySem.F.slot_list_index
abbrev Zc:=@PySem.F.slot_list_pop
abbrev Zd:=@PySem.F.type_list_extend
abbrev Ze:=@PySem.F.type_list_index
abbrev Zf:=@PySem.F.type_list_pop
abbrev Zg:=@PySem.W.cellsFrom_some
abbrev Zh:=@PySem.W.length_le_weightAllW
abbrev Zi:=@PySem.W.mg_none_of
abbrev Zj:=@PySem.W.mg_of
abbrev Zk:=@PySem.mem_of_lookup
abbrev Zl:=@Sum.inl.inj
abbrev Zm:=@beq_iff_eq
abbrev Zn:=@bne_iff_ne
abbrev Zo:=@congrArg
abbrev Zp:=@decide_eq_decide
abbrev Zq:=@decide_eq_false
abbrev Zr:=@decide_eq_false_iff_not
abbrev Zs:=@decide_eq_true
abbrev Zt:=@decide_eq_true_eq
abbrev Zu:=@decide_eq_true_iff
abbrev Zv:=@if_false
abbrev Zw:=@if_neg
abbrev Zx:=@if_pos
abbrev Zy:=@if_true
abbrev Zz:=@of_decide_eq_false
abbrev ZA:=@of_decide_eq_true
abbrev ZC:=@or_false
theorem ZD {p:Prop}(h:p:=by omega):p:=h
theorem ZE {p:Prop}(h:p:=by decide):p:=h
theorem ZF {α:Sort u}{a b:α}(h:a=b:=by kernel_rfl):a=b:=h
set_option tactic.hygienic false
set_option bootstrap.genMatcherCode false
namespace Mb
open PySem PySem.W PyProof.Rows
theorem JB:PySem.Challenge.rw_motionbank_s01_answers.wellSaid=true:=ZF
noncomputable abbrev pg:Program:=PySem.Challenge.pw_motionbank_s01_answers
@[irreducible] noncomputable def Cv:List Obj->Nat->BT->BT
 | [],_,t=>t
 |o::l,n,t=>Cv l (n+1) (t.ins n o)
noncomputable def jN (l:List Value):Obj:=⟨.type "tuple",none,.seq l.toArray 0,#[]⟩
noncomputable def ja (c:Value) (l:List Value):Obj:=⟨c,none,.fields l.toArray,#[]⟩
noncomputable def eI (n:Nat):Value:= .int n 0
noncomputable def Cw:List Str->Nat->List Value
 | [],_=> []
 |x::l,t=> .str x t::Cw l (t+1)
noncomputable def gA (P:Params) (x:Str) (t:Nat) (v:Value):DictEntry:=⟨PyData.keyHash P x,.str x t,v⟩
noncomputable def wj:Str:="/claim/cut.py"
noncomputable def Cy (name qual:Str) (line So fl t a q:Nat) (Sq:Bool) (x y r:Value):Obj:=
 ja (.type "code") [.str name t,.str qual (t+1),.str wj (t+2),eI line,eI So,eI 0,eI 0,eI fl,.ref a,.bool Sq,eI 181,.ref (a+1),.none,x,y,r,eI q,eI line,.str wj (q+1)]
noncomputable def JC (name qual:Str) (p:Arguments) (sc:Scope) (bd:List Stmt) (line n t:Nat) (m:Value):List Obj×Nat:=
 let fd:FuncData:={name:=name,qualname:=qual,params:=p,body:= .stmts bd,scope:=sc,globals:=0,closure:= [],defaults:= .none,kwdefaults:= .none}
 match localNames p sc (.stmts bd) with
 |some l=>([jN [],ja .none [],jN (Cw l.1 (t+3)),jN [],⟨.none,none,.func fd,#[]⟩,Cy name qual line p.args.length 3 t n (t+3+l.1.length) true (.ref (n+2)) (.ref (n+3)) (.ref (n+4)),⟨.type "function",none,.func {fd with globals:=3,pyModule:=m,code:= .ref (n+5)},#[]⟩],t+5+l.1.length)
 |none=>([jN [],ja .none [],⟨.none,none,.func fd,#[]⟩,Cy name qual line p.args.length 3 t n (t+3) true .none .none (.ref (n+2)),⟨.type "function",none,.func {fd with globals:=3,pyModule:=m,code:= .ref (n+3)},#[]⟩],t+5)
structure Bl where
 n:Nat
 t:Nat
 o:BT
 e:List DictEntry
 f:List Value
 m:Value
noncomputable def Bl.add (b:Bl) (l:List Obj) (t:Nat) (e:DictEntry) (f:List Value):Bl:=⟨b.n+l.length,t,Cv l b.n b.o,e::b.e,f++b.f,b.m⟩
noncomputable def JD:PySem.Expr->Nat->Value
 | .Constant (.int v) _ _,t=> .int v t
 | .Constant (.str x) _ _,t=> .str x t
 |_,_=> .none
noncomputable def wk:List PySem.Expr->Nat->List Value
 | [],_=> []
 |x::l,t=>JD x t::wk l (t+1)
noncomputable def JE (P:Params):List (Option PySem.Expr)->List PySem.Expr->Nat->List DictEntry
 |some (.Constant (.str x) _ _)::ks,v::vs,t=>gA P x t (JD v (t+1))::JE P ks vs (t+2)
 |_,_,_=> []
noncomputable def Cz (es:List DictEntry) (n:Nat):Obj:=⟨.type "dict",none,.dict es.toArray n,#[]⟩
@[irreducible] noncomputable def wm (P:Params) (b:Bl):Stmt->Bl
 | .Assign [.Name x _] (.Constant (.int v) _ _) _=>b.add [] (b.t+2) (gA P x (b.t+1) (.int v b.t)) []
 | .Assign [.Name _ _] (.Constant (.str s) _ _) _=>{b with t:=b.t+2,m:= .str s b.t}
 | .Assign [.Name x _] (.UnaryOp _ (.Constant (.int v) _ _) _) _=>b.add [] (b.t+3) (gA P x (b.t+2) (.int (-v) (b.t+1))) []
 | .Assign [.Name x _] (.Tuple l _ _) _=>b.add [jN (wk l b.t)] (b.t+l.length+1) (gA P x (b.t+l.length) (.ref b.n)) []
 | .Assign [.Name x _] (.Dict ks [.Tuple l _ _,.Tuple r _ _] _) _=>b.add [⟨.type "dict",none,.dict #[⟨2,.int 2 b.t,.ref (b.n+1)⟩,⟨4,.int 4 (b.t+3),.ref (b.n+2)⟩] 2,#[]⟩,jN (wk l (b.t+1)),jN (wk r (b.t+4))] (b.t+14) (gA P x (b.t+13) (.ref b.n)) []
 | .Assign [.Name x _] (.Dict ks vs _) _=>b.add [Cz (JE P ks vs b.t) 6] (b.t+19) (gA P x (b.t+18) (.ref b.n)) []
 | .FunctionDef name p bd _ _ _ sc _ _ pos=>match JC name name p sc bd pos.line b.n b.t b.m with
  |(l,q)=>b.add l (q+1) (gA P name q (.ref (b.n+l.length - 1))) [.ref (b.n+l.length - 2),eI 0,eI pos.line]
 | .ClassDef name _ _ [.FunctionDef CA p bd _ _ _ sc _ _ JF] _ _ _ _ _ at_ pos=>match JC CA (name++(".":Str)++CA) p sc bd JF.line (b.n+7) (b.t+12) b.m with
  |(l,q)=>
   let t1:=q+1;let s:=at_.length;let a:=b.n+7+l.length;let C:=a+2;let mo:=gA P "__module__" (b.t+7) b.m;let li:=gA P "__firstlineno__" (b.t+11) (.int pos.line (b.t+10));let JG:=gA P CA q (.ref (a - 1));let JH:=gA P "__static_attributes__" (t1+s) (.ref a)
   b.add ([jN [],ja (.type "builtin_function_or_method") [.builtin "type.__prepare__",.type "type"],Cz [mo,gA P "__qualname__" (b.t+9) (.str name (b.t+8)),li,JG,JH] 5,
    jN [],ja .none [eI JF.line,eI 4,.ref (a - 2)],Cy name name pos.line 0 0 (b.t+2) (b.n+3) (b.t+5) false .none .none .none,
    ⟨.type "frame",none,.plain,#[some (.ref (b.n+5)),some (.ref 3),some (.ref (b.n+2)),none,some b.m,none,some (.ref 0)]⟩]++l++
    [jN (Cw at_ t1),Cz [mo,li,JG,JH,gA P "__dict__" (t1+s+2) (.ref (C+1)),gA P "__weakref__" (t1+s+4) (.ref (C+2)),gA P "__doc__" (t1+s+5) .none] 4,
    ⟨.type "type",none,.cls {name:=name,bases:= [.type "object"],mro:= [.ref C,.type "object"],ns:=a+1,qualname:=name},#[none,none,some (.str name b.t),some (.str name (b.t+8)),some (.builtin "object.__new__"),some (.bool true)]⟩,
    ja (.type "getset_descriptor") [.str "__dict__" (t1+s+1),.ref C,.builtin "function.__dict__",.builtin "function.__dict__#set"],ja (.type "getset_descriptor") [.str "__weakref__" (t1+s+3),.ref C,.builtin "ExceptionGroup.__weakref__",.none],
    ja (.type "super") [.ref C,.ref C,.ref C],ja (.type "builtin_function_or_method") [.builtin "object.__init_subclass__",.ref C]]) (t1+s+8) (gA P name (t1+s+7) (.ref C)) [.ref (b.n+5),eI 0,eI pos.line]
 |_=>b
@[irreducible] noncomputable def Sr (P:Params):Bl:=⟨15,187,Cv ((boot_heap P).objs.toList++ [jN [],ja .none [],ja (.type "code") [.str "<module>" 182,.str "<module>" 183,.str wj 184,eI 1,eI 0,eI 0,eI 0,eI 0,.ref 11,.bool false,eI 181,.ref 12,.none,.none,.none,.none,eI 185,eI 1,.str wj 186],
 ⟨.type "frame",none,.plain,#[some (.ref 13),some (.ref 3),some (.ref 3),none,some (.str "__main__" 164),none,some (.ref 0)]⟩]) 0 .nil,[],[],.str "__main__" 164⟩
@[irreducible] noncomputable def mO:List Stmt:=behindTheImports pg
@[irreducible] noncomputable def bl (k:Nat) (P:Params):Bl:=(mO.take k).foldl (wm P) (Sr P)
noncomputable def Ss (b:Bl) (o:Obj):Obj:=match o with
 |⟨c,d,.dict es n,s⟩=>match es.toList with
  |x::r=>⟨c,d,.dict (⟨x.hash,x.key,b.m⟩::r++b.e.reverse).toArray (n+b.e.length),s⟩
  | []=>o
 |o=>o
noncomputable def Bl.tree (b:Bl):BT:=(b.o.set 3 (Ss b)).set 12 λ_a=>ja .none b.f.reverse
@[irreducible] noncomputable def sT (k:Nat) (w:World) (os:OsState):SharedT:=⟨(bl k w.params).tree,(bl k w.params).n,{},#[],{},(bl k w.params).t,os⟩
@[irreducible] noncomputable def eC:PySem.Env:={scope:=pg.main.scope,locals:=mainNs,globals:=mainNs,cells:= [],code:= .ref 13,frame:=some 14}
noncomputable abbrev cK:Code:= .body mO eC
noncomputable abbrev B0:List Frame:= [topFrame ⟨0,0,0,0⟩]
@[irreducible] noncomputable def cU:Nat->Pos
 |0=>⟨0,0,0,0⟩
 |k+1=>match mO[k]? with
  |some (.Assign [.Name _ p] _ _)=>p
  |some (.FunctionDef _ _ _ _ _ _ _ _ _ p)=>p
  |some (.ClassDef _ _ _ _ _ _ _ _ _ _ p)=>p
  |_=>⟨0,0,0,0⟩
@[irreducible] noncomputable def cx (a b:Nat):List Stmt:=(mO.drop a).take (b - a)
theorem Su (w:World) (os:OsState):segRunT treeTable pg w 11 (some (.ref 6)) 1 389 (sT 0 w os) (piecesOf (cx 0 21) eC cK (cU 0) B0)=some (.next,sT 21 w os,cK,cU 21):=ZF
theorem Sv:∀(w:World) (os:OsState),segRunT treeTable pg w 11 (some (.ref 6)) 1 301 (sT 21 w os) (piecesOf (cx 21 24) eC cK (cU 21) B0)=some (.next,sT 24 w os,cK,cU 24):=byRow2 (P:=λw=>∀os:OsState,segRunT treeTable pg w 11 (some (.ref 6)) 1 301 (sT 21 w os) (piecesOf (cx 21 24) eC cK (cU 21) B0)=some (.next,sT 24 w os,cK,cU 24)) "special-get-raises" (λw os=>by kernel_rfl) (λw os=>by kernel_rfl)
theorem Sw (w:World) (os:OsState):segRunT treeTable pg w 11 (some (.ref 6)) 1 435 (sT 24 w os) (piecesOf (cx 24 38) eC cK (cU 24) B0)=some (.next,sT 38 w os,cK,cU 38):=ZF
theorem Sx (w:World) (os:OsState):segRunT treeTable pg w 11 (some (.ref 6)) 1 326 (sT 38 w os) (piecesOf (cx 38 50) eC cK (cU 38) B0)=some (.next,sT 50 w os,cK,cU 50):=ZF
theorem Sy (w:World) (os:OsState):segRunT treeTable pg w 11 (some (.ref 6)) 1 228 (sT 50 w os) (piecesOf (cx 50 51) eC cK (cU 50) B0)=some (.next,sT 51 w os,cK,cU 51):=ZF
theorem Sz (w:World) (os:OsState):segRunT treeTable pg w 11 (some (.ref 6)) 1 432 (sT 51 w os) (piecesOf (cx 51 59) eC cK (cU 51) B0)=some (.next,sT 59 w os,cK,cU 59):=ZF
theorem SA (w:World) (os:OsState):segRunT treeTable pg w 11 (some (.ref 6)) 1 450 (sT 59 w os) (piecesOf (cx 59 82) eC cK (cU 59) B0)=some (.next,sT 82 w os,cK,cU 82):=ZF
theorem SD (w:World) (os:OsState):segRunT treeTable pg w 11 (some (.ref 6)) 1 435 (sT 82 w os) (piecesOf (cx 82 94) eC cK (cU 82) B0)=some (.next,sT 94 w os,cK,cU 94):=ZF
theorem SE (w:World) (os:OsState):segRunT treeTable pg w 11 (some (.ref 6)) 1 440 (sT 94 w os) (piecesOf (cx 94 115) eC cK (cU 94) B0)=some (.next,sT 115 w os,cK,cU 115):=ZF
theorem SF (w:World) (os:OsState):segRunT treeTable pg w 11 (some (.ref 6)) 1 419 (sT 115 w os) (piecesOf (cx 115 129) eC cK (cU 115) B0)=some (.next,sT 129 w os,cK,cU 129):=ZF
theorem SG:∀(w:World) (os:OsState),segRunT treeTable pg w 11 (some (.ref 6)) 1 48 (sT 129 w os) (piecesOf (cx 129 130) eC cK (cU 129) B0)=some (.next,sT 130 w os,cK,cU 130):=byRow2 (P:=λw=>∀os:OsState,segRunT treeTable pg w 11 (some (.ref 6)) 1 48 (sT 129 w os) (piecesOf (cx 129 130) eC cK (cU 129) B0)=some (.next,sT 130 w os,cK,cU 130)) "special-get-raises" (λw os=>by kernel_rfl) (λw os=>by kernel_rfl)
theorem SH (w:World) (os:OsState):segRunT treeTable pg w 11 (some (.ref 6)) 1 430 (sT 130 w os) (piecesOf (cx 130 148) eC cK (cU 130) B0)=some (.next,sT 148 w os,cK,cU 148):=ZF
theorem SI (w:World) (os:OsState):segRunT treeTable pg w 11 (some (.ref 6)) 1 361 (sT 148 w os) (piecesOf (cx 148 176) eC cK (cU 148) B0)=some (.next,sT 176 w os,cK,cU 176):=ZF
theorem SJ (w:World) (os:OsState):segRunT treeTable pg w 11 (some (.ref 6)) 1 392 (sT 176 w os) (piecesOf (cx 176 182) eC cK (cU 176) B0)=some (.next,sT 182 w os,cK,cU 182):=ZF
@[irreducible] noncomputable def H1 (P:Params):Heap:=absHeap (bl 182 P).tree 733 {}
noncomputable abbrev s1 (w:World) (os:OsState):Shared:=⟨H1 w.params,#[],{},1421,os⟩
@[irreducible] noncomputable def q0:Program:={pg with main:={pg.main with body:=cx 181 182}}
noncomputable def SK:Stmt->Option Str
 | .Assign [.Name _ _] (.Constant (.str _) _ _) _=>none
 | .Assign [.Name x _] _ _=>some x
 | .FunctionDef n _ _ _ _ _ _ _ _ _=>some n
 | .ClassDef n _ _ _ _ _ _ _ _ _ _=>some n
 |_=>none
@[irreducible] noncomputable def ku:List Str:=(mO.take 181).filterMap SK
noncomputable def mds:List Str:=importedModules pg.main.body
noncomputable def CB (s:Shared):Bool:=xlAt q0 [] s&&recOk [] s
noncomputable def Kc (P:Params):Frag:=(List.range 733).map λa=>(a,((bl 182 P).tree.get a).getD default)
theorem hsz (w:World):((boot_heap w.params).isNs mainGlobals&&(#[]:Array GenState).size==0,(boot_heap w.params).objs.size,(boot_heap w.params).nsMap mainGlobals "__annotations__")=(true,11,some (.ref 6)):=ZF
theorem CD (w:World) (os:OsState):topGo treeTable pg w 11 (some (.ref 6)) 12 ⟨boot_heap w.params,#[],boot_drawn,boot_toks,os⟩ (topStub pg)=some ((sT 0 w os).abs,⟨denote treeTable cK,cK,⟨0,0,0,0⟩,B0⟩):=ZF
theorem SM (w:World) (os:OsState):segRun treeTable pg w 11 (some (.ref 6)) 1 1 (sT 0 w os).abs (blockOf mO eC cK ⟨0,0,0,0⟩ B0)=some (.next,(sT 0 w os).abs,cK,cU 0):=ZF
theorem qp (w:World) (os:OsState):topRun treeTable pg w 11 (some (.ref 6)) 2 (sT 182 w os).abs (restOf [] eC cK (cU 182) B0)=some (s1 w os):=ZF
theorem SN:mO=(cx 0 21++(cx 21 24++(cx 24 38++(cx 38 50++(cx 50 51++(cx 51 59++(cx 59 82++(cx 82 94++(cx 94 115++(cx 115 129++(cx 129 130++(cx 130 148++(cx 148 176++(cx 176 182++ [])))))))))))))):=ZF
theorem SO (w:World):(fencedOpening treeTable pg w 10270).map (λs=>(s.heap,s.gens,s.drawn,s.toks))=some (boot_heap w.params,Array.mk [],boot_drawn,boot_toks):=boot_open (by kernel_rfl) ZE (by intro s;kernel_rfl) w
theorem jb {b:List Stmt}(e:b=(cx 0 21++(cx 21 24++(cx 24 38++(cx 38 50++(cx 50 51++(cx 51 59++(cx 59 82++(cx 82 94++(cx 94 115++(cx 115 129++(cx 129 130++(cx 130 148++(cx 148 176++(cx 176 182++ []))))))))))))))) (w:World) (os:OsState):topRun treeTable pg w 11 (some (.ref 6)) (389+(301+(435+(326+(228+(432+(450+(435+(440+(419+(48+(430+(361+(392+2)))))))))))))) (sT 0 w os).abs (restOf b eC cK (cU 0) B0)=some (s1 w os):=by subst e;exact piece_app (segRun_of (Su w os)) (piece_app (segRun_of (Sv w os)) (piece_app (segRun_of (Sw w os)) (piece_app (segRun_of (Sx w os)) (piece_app (segRun_of (Sy w os)) (piece_app (segRun_of (Sz w os)) (piece_app (segRun_of (SA w os)) (piece_app (segRun_of (SD w os)) (piece_app (segRun_of (SE w os)) (piece_app (segRun_of (SF w os)) (piece_app (segRun_of (SG w os)) (piece_app (segRun_of (SH w os)) (piece_app (segRun_of (SI w os)) (piece_app (segRun_of (SJ w os)) (qp w os))))))))))))))
theorem SQ (w:World) (os:OsState):topRun treeTable pg w 11 (some (.ref 6)) (12+(1+(389+(301+(435+(326+(228+(432+(450+(435+(440+(419+(48+(430+(361+(392+2)))))))))))))))) ⟨boot_heap w.params,#[],boot_drawn,boot_toks,os⟩ (topStub pg)=some (s1 w os):=
 go_top (CD w os) (piece_block (b:=mO) (SM w os) (jb SN w os))
theorem aT {a b:Bool}(h:a=true) (k:b=true):(a&&b)=true:=by rw[h,k];rfl
theorem SR (w:World) (os:OsState):gensDone (s1 w os)=true:=ZF
theorem SS (w:World):staticsOk (importedModules pg.main.body) (boot_heap w.params) (H1 w.params)=true:=ZF
theorem SU (w:World):namesBound pg (H1 w.params)=true:=ZF
theorem SV (w:World):laidKept (boot_heap w.params) (H1 w.params)=true:=ZF
theorem SW (w:World) (os:OsState):seen ((recsOf q0).map (·.name)) (ownsOf q0) [] {s1 w os with gens:=#[]}=expectedOf q0:=ZF
theorem SX (w:World) (os:OsState):(s1 w os).heap.bltView=bltViewBooted:=ZF
theorem SY (w:World) (os:OsState):(s1 w os).heap.keysOk (looseW q0 ku) ((recsOf q0).map (·.name)) ((litsOf q0).map (·.1)) ((clssOf q0 (looseW q0 ku)).map (·.name))=true:=ZF
theorem S0 (w:World) (os:OsState):(s1 w os).heap.accountedOkI (importedModules pg.main.body)=true:=ZF
theorem S1 (w:World) (os:OsState):tablesOk q0 (s1 w os).heap=true:=ZF
theorem S2 (w:World) (os:OsState):CB (s1 w os)=true:=ZF
theorem S3 (w:World) (os:OsState):tabsOk q0 (s1 w os)=true:=ZF
theorem S4 (w:World) (os:OsState):pinSeenD q0 (drecsOf q0) (s1 w os)=pinGoodD (drecsOf q0):=ZF
theorem S5 (w:World) (os:OsState):plainSeenE q0 (looseW q0 ku) (s1 w os)=plainGoodE q0 (looseW q0 ku):=ZF
theorem S6 (w:World) (os:OsState):plainSeenD q0 ku (s1 w os)=plainGoodD q0 ku:=ZF
theorem S7 (w:World) (os:OsState):wideSeen q0 (s1 w os)=wideGood q0:=ZF
theorem S8 (w:World) (os:OsState):clsSeenW q0 ku (s1 w os)=clsGoodW q0 ku:=ZF
noncomputable def CF (t:BT) (a:Nat):Bool:=match t.get a with
 |some o=>(alive o).isSome
 |none=>false
theorem S9 (P:Params):(List.range 733).all (CF (bl 182 P).tree)=true:=ZF
theorem Ta {t:BT}{n a:Nat}{l:Life}(hn:a<n) (h:CF t a=true):(absHeap t n l).get? a=some ((t.get a).getD default):=by
 unfold CF at h;cases e:t.get a with
 |none=>rw[e]at h;cases h
 |some o=>rw[e]at h;rw[abs_get hn e];obtain ⟨c,d,x,y⟩:=o;cases x<;>first|rfl|cases h
theorem Tb (w:World) (os:OsState):(List.range 733).map (s1 w os).heap.get? =(Kc w.params).map λp=>some p.2:=by show (List.range 733).map (H1 w.params).get? =_;unfold Kc H1;rw[yN];exact yI λa ha=>Ta (List.mem_range.mp ha) (zx.mp (S9 w.params) a ha)
theorem Tc:LeftO pg q0 ku CB (λs=>(List.range 733).map s.heap.get?) (λw=>(Kc w.params).map λp=>some p.2) 10270:=
 LeftO.of_pieces (H₀:=boot_heap) (H₁:=H1) (gs₀:=#[]) (gs₁:=#[]) (d₀:=boot_drawn) (d₁:={}) (k₀:=boot_toks) (k₁:=1421) SO hsz SQ ZE λw=>funext λos=>
  looks_pair (aT (aT (aT (SS w) (SU w)) (SR w os)) (SV w)) (looks_pair (looks_pair (SW w os) (looks_pair (SX w os) (looks_pair (aT (aT (aT (aT (aT (aT (SY w os) (S0 w os)) (by kernel_rfl)) (by kernel_rfl)) (S1 w os)) (S2 w os)) (by kernel_rfl))
   (looks_pair (S3 w os) (looks_pair (S4 w os) (looks_pair (S5 w os) (looks_pair (S6 w os) (looks_pair (S7 w os) (S8 w os))))))))) (Tb w os))
theorem CG (P:Params):List.range 733=(Kc P).map (·.1):=by unfold Kc;rw[yN];exact (List.map_id _).symm
end Mb
namespace Mb
open Vbdbag
inductive Kd where
 |rounds|offer|gap|unlike|size|seed|levels|topics|release
 deriving DecidableEq
noncomputable def Kd.name:Kd->String
 | .rounds=>"ROUNDS"| .offer=>"OFFER"| .gap=>"GAP"| .unlike=>"UNLIKE"| .size=>"SIZE"| .seed=>"SEED"
 | .levels=>"LEVELS"| .topics=>"TOPICS"| .release=>"RELEASE"
noncomputable def Kd.bytes (k:Kd):Bytes:=text k.name
noncomputable def Kd.all:List Kd:= [.rounds,.offer,.gap,.unlike,.size,.seed,.levels,.topics,.release]
noncomputable def Kd.fL:Kd->Bool
 | .levels=>false| .topics=>false| .release=>false|_=>true
noncomputable def Kd.wq:Kd->Nat
 | .rounds=>5| .offer=>3| .gap=>1| .unlike=>1| .size=>4|_=>0
noncomputable def Kd.kx:Kd->Nat
 | .rounds=>1| .offer=>1| .size=>2|_=>0
noncomputable def Kd.most:Kd->Nat
 | .rounds=>9| .offer=>5| .gap=>9| .unlike=>1| .size=>4|_=>99999
inductive dH where
 |bb (l:List Nat)
 |cE (l:List Bytes)
 deriving DecidableEq
noncomputable abbrev fM:=(Kd×Nat)×dH
noncomputable abbrev aQ:=List fM
noncomputable def bC (w:Bytes):Int:=if (!w.isEmpty&&(decide (w.length<=5)&&w.all isDigit))=true then (number w:Int) else -1
noncomputable def de (lo hi:Int) (w:Bytes):Bool:=decide (lo<=bC w)&&decide (bC w<=hi)
noncomputable def jc (w:Bytes):Option Kd:=Kd.all.find? λk=>k.bytes==w
noncomputable def kz (k:Kd) (ws:List Bytes):Option (Nat×dH):=match ws with
 | [w]=>if de k.kx k.most w=true then (if k= .size/\(bC w).toNat % 2=1 then none else some (0,.bb [(bC w).toNat])) else none
 |_=>none
noncomputable def kC (ws:List Bytes):Option (Nat×dH):=match ws with
 | [n,a,b]=>if (de 1 9 n&&(de 1 5 a&&de (bC a) 5 b))=true then some ((bC n).toNat,.bb [(bC a).toNat,(bC b).toNat]) else none
 |_=>none
noncomputable def jd (ws:List Bytes):Option (Nat×dH):=match ws with
 |n::t::ts=>if (de 1 9 n&&((t::ts).all λw=>isName w&& !decide (1<(t::ts).count w)))=true then some ((bC n).toNat,.cE (t::ts)) else none
 |_=>none
noncomputable def kD (ws:List Bytes):Option (Nat×dH):=match ws with
 | [n,a]=>if (de 1 9 n&&de 0 99999 a)=true then some ((bC n).toNat,.bb [(bC a).toNat]) else none
 |_=>none
noncomputable def jO (k:Kd) (ws:List Bytes):Option (Nat×dH):=match k with
 | .levels=>kC ws
 | .topics=>jd ws
 | .release=>kD ws
 |k=>kz k ws
noncomputable def has (T:aQ) (k:Kd×Nat):Bool:=T.any λe=>e.1==k
noncomputable def dS (T:aQ) (ws:List Bytes):Except Nat aQ:=match ws with
 | []=> .ok T
 |w::r=>match jc w with
  |none=> .error 1
  |some k=>match jO k r with
   |none=> .error 2
   |some (n,v)=>if has T (k,n)=true then .error 3 else .ok (T++ [((k,n),v)])
noncomputable def fi:Nat->List Bytes->aQ->Except (Nat×Nat) aQ
 |_,[],T=> .ok T
 |n,l::r,T=>match dS T (words l) with
  | .error e=> .error (e,n)
  | .ok T'=>fi (n+1) r T'
noncomputable def cZ (T:aQ) (k:Kd×Nat):Option dH:=(T.find? λe=>e.1==k).map λe=>e.2
noncomputable def aG (T:aQ) (k:Kd):Nat:=match cZ T (k,0) with
 |some (.bb (v::_))=>v
 |_=>k.wq
noncomputable def gb (t:Bytes):Except (Nat×Nat) aQ:=match fi 1 (cut 10 t) []with
 | .error e=> .error e
 | .ok T=>if (T.any λe=>decide (aG T .rounds<e.1.2))=true then .error (4,(cut 10 t).length+1) else .ok T
noncomputable def qr:fM->Prop
 |((k,n),.bb l)=>match k with
  | .levels=>1<=n/\n<=9/\∃a b,l= [a,b]/\1<=a/\a<=b/\b<=5
  | .topics=>False
  | .release=>1<=n/\n<=9/\∃a,l= [a]/\a<=99999
  |k=>n=0/\∃v,l= [v]/\k.kx<=v/\v<=k.most/\(k= .size->v % 2=0)
 |((k,n),.cE l)=>k= .topics/\1<=n/\n<=9/\l≠ []/\l.all isName=true
structure cv (T:aQ):Prop where
 dk:∀e∈T,qr e
 once:(T.map λe=>e.1).Nodup
noncomputable def gB:fM->Option (Nat×Nat×Nat)
 |((.levels,n),.bb (a::b::_))=>some (n,a,b)
 |_=>none
noncomputable def gC:fM->Option (Nat×List Bytes)
 |((.topics,n),.cE l)=>some (n,l)
 |_=>none
noncomputable def gD:fM->Option (Nat×Nat)
 |((.release,n),.bb (a::_))=>some (n,a)
 |_=>none
noncomputable def cb (T:aQ):Rules where
 rounds:=aG T .rounds
 offer:=aG T .offer
 gap:=aG T .gap
 unlike:=aG T .unlike
 size:=aG T .size
 seed:=aG T .seed
 levels:=T.filterMap gB
 topics:=T.filterMap gC
 releases:=T.filterMap gD
noncomputable def iN (T:aQ):List Bytes:=(T.filterMap λe=>if e.1.1.fL=true then some e.1.1.bytes else none).reverse
theorem JI {k k':Kd}(h:k.bytes=k'.bytes):k=k':=by cases k<;>cases k'<;>first|rfl|exact absurd h ZE
theorem JJ (k:Kd):jc k.bytes=some k:=by cases k<;>decide
theorem Td {w:Bytes}{k:Kd}(h:jc w=some k):w=k.bytes:=by have:=zZ h;exact (eq_of_beq this).symm
theorem Te {w:Bytes}(h:jc w=none) (k:Kd):w≠k.bytes:=by intro e;rw[e,JJ]at h;cases h
theorem tH (lo hi:Nat) (w:Bytes):numberIn lo hi w=if de lo hi w=true then some (bC w).toNat else none:=by
 unfold numberIn de bC;by_cases h:(!w.isEmpty&&(decide (w.length<=5)&&w.all isDigit))=true
 ·rw[Zx h];have h':=h;simp only[za]at h';obtain ⟨h1,h2,h3⟩:=h';rw[h1,h2,h3];simp only[zp,zt];have e1:decide ((lo:Int)<=(number w:Int))=decide (lo<=number w):=by rw[Zp];omega
  have e2:decide ((number w:Int)<=(hi:Int))=decide (number w<=hi):=by rw[Zp];omega
  rw[e1,e2]
 ·rw[Zw h];rw[Zw,Zw]
  ·intro z;simp only[za,Zt]at z;omega
  ·intro z;apply h;simp only[za]at z⊢;exact ⟨z.1,z.2.1,z.2.2.1⟩
theorem fN {lo hi:Int}{w:Bytes}(h:de lo hi w=true):lo<=bC w/\bC w<=hi:=by unfold de at h;simpa using h
theorem JK:∀(l:List Bytes),unlikeNames l=l.all λw=> !decide (1<l.count w)
 | []=>rfl
 |a::r=>by
  have ih:=JK r;show (!r.contains a&&unlikeNames r)=_;rw[ih,zf];simp only[za,zm,zx,Zr,Nat.not_lt,yT,zG,zI,Zm];constructor
  ·rintro ⟨h1,h2⟩ x hx;rcases hx with rfl|hx
   ·have:r.count x=0:=List.count_eq_zero.mpr (by simpa using h1);simp[this]
   ·have h3:=h2 x hx;have:a≠x:=by rintro rfl;simp[hx]at h1
    simp[this,h3]
  ·intro h;constructor
   ·have:=h a (.inl rfl);simp at this;have h0:r.count a=0:=by omega
    simpa using List.count_eq_zero.mp h0
   ·intro x hx;have:=h x (.inr hx);split at this<;>omega
theorem CH {α:Type}(p q:α->Bool):∀l:List α,(l.all λx=>p x&&q x)=(l.all p&&l.all q)
 | []=>rfl
 |a::r=>by rw[zw,zw,zw,CH p q r];cases p a<;>cases q a<;>cases r.all p<;>cases r.all q<;>rfl
theorem Tf {T:aQ}{k:Kd×Nat}:has T k=true ↔ k∈T.map λe=>e.1:=by unfold has;simp[zB]
theorem JL {T:aQ}{k:Kd×Nat}(h:has T k=false):cZ T k=none:=by
 unfold cZ;unfold has at h;have:T.find? (λe=>e.1==k)=none:=by rw[zY];intro e he;simp only[zA]at h;exact h e he
 rw[this];rfl
theorem Tg (T:aQ) (e:fM) (k:Kd×Nat) (h:e.1≠k):cZ (T++ [e]) k=cZ T k:=by
 unfold cZ;rw[zW];have: [e].find? (λe=>e.1==k)=none:=by have hb:(e.1==k)=false:=beq_eq_false_iff_ne.mpr h;simp[List.find?,hb]
 rw[this];simp
theorem Th (T:aQ) (e:fM) (h:has T e.1=false):cZ (T++ [e]) e.1=some e.2:=by
 have h1:=JL h;unfold cZ at h1⊢;rw[zW];have:T.find? (λx=>x.1==e.1)=none:=by
  cases q:T.find? (λx=>x.1==e.1) with
  |none=>rfl
  |some z=>rw[q]at h1;cases h1
 rw[this];simp
theorem wu (T:aQ) (e:fM) (k:Kd) (h:e.1≠(k,0)):aG (T++ [e]) k=aG T k:=by unfold aG;rw[Tg T e (k,0) h]
theorem Ti (T:aQ) (k:Kd) (v:Nat) (h:has T (k,0)=false):aG (T++ [((k,0),.bb [v])]) k=v:=by unfold aG;rw[Th T ((k,0),.bb [v]) h]
theorem Tj {T:aQ}(W:cv T) (n:Nat):((T.filterMap gB).any λy=>y.1==n)=has T (.levels,n):=by
 rw[zf];unfold has;simp only[zB,yW];constructor
 ·rintro ⟨y,⟨e,he,hy⟩,hn⟩;refine ⟨e,he,?_⟩;unfold gB at hy;split at hy
  ·cases hy;have:_=n:=eq_of_beq hn;subst this;simp
  ·cases hy
 ·rintro ⟨e,he,hk⟩;have je:=eq_of_beq hk;have w:=W.dk e he;obtain ⟨⟨k,m⟩,v⟩:=e;have e1:k= .levels:=Zo Prod.fst je;have e2:m=n:=Zo Prod.snd je;subst e1 e2;cases v with
  |bb l=>obtain ⟨_,_,a,b,rfl,_⟩:=w;exact ⟨(m,a,b),⟨_,he,rfl⟩,by simp⟩
  |cE l=>exact absurd w.1 ZE
theorem Tn {T:aQ}(W:cv T) (n:Nat):((T.filterMap gC).any λy=>y.1==n)=has T (.topics,n):=by
 rw[zf];unfold has;simp only[zB,yW];constructor
 ·rintro ⟨y,⟨e,he,hy⟩,hn⟩;refine ⟨e,he,?_⟩;unfold gC at hy;split at hy
  ·cases hy;have:_=n:=eq_of_beq hn;subst this;simp
  ·cases hy
 ·rintro ⟨e,he,hk⟩;have je:=eq_of_beq hk;have w:=W.dk e he;obtain ⟨⟨k,m⟩,v⟩:=e;have e1:k= .topics:=Zo Prod.fst je;have e2:m=n:=Zo Prod.snd je;subst e1 e2;cases v with
  |bb l=>exact w.elim
  |cE l=>exact ⟨(m,l),⟨_,he,rfl⟩,by simp⟩
theorem To {T:aQ}(W:cv T) (n:Nat):((T.filterMap gD).any λy=>y.1==n)=has T (.release,n):=by
 rw[zf];unfold has;simp only[zB,yW];constructor
 ·rintro ⟨y,⟨e,he,hy⟩,hn⟩;refine ⟨e,he,?_⟩;unfold gD at hy;split at hy
  ·cases hy;have:_=n:=eq_of_beq hn;subst this;simp
  ·cases hy
 ·rintro ⟨e,he,hk⟩;have je:=eq_of_beq hk;have w:=W.dk e he;obtain ⟨⟨k,m⟩,v⟩:=e;have e1:k= .release:=Zo Prod.fst je;have e2:m=n:=Zo Prod.snd je;subst e1 e2;cases v with
  |bb l=>obtain ⟨_,_,a,rfl,_⟩:=w;exact ⟨(m,a),⟨_,he,rfl⟩,by simp⟩
  |cE l=>exact absurd w.1 ZE
set_option tactic.hygienic true in
theorem Tp {T:aQ}(W:cv T) (k:Kd) (hk:k.fL=true):(iN T).contains k.bytes=has T (k,0):=by
 rw[zf];unfold has iN;simp only[zG,Zt,List.mem_reverse,yW,zB];constructor
 ·rintro ⟨e,he,h⟩;refine ⟨e,he,?_⟩;split at h
  ·rename_i hs;have h1:=JI (xX h);have w:=W.dk e he;obtain ⟨⟨k',m⟩,v⟩:=e;have h1:k'=k:=h1;subst h1;cases v with
   |bb l=>cases k'<;>first|(cases hk;done)|(obtain ⟨rfl,_⟩:=w;simp)
   |cE l=>obtain ⟨rfl,_⟩:=w;cases hk
  ·cases h
 ·rintro ⟨e,he,h⟩;have h':=eq_of_beq h;refine ⟨e,he,?_⟩;rw[h'];simp[hk]
theorem wx (T:aQ) (e:fM):cb (T++ [e])={rounds:=aG (T++ [e]) .rounds,offer:=aG (T++ [e]) .offer,gap:=aG (T++ [e]) .gap,unlike:=aG (T++ [e]) .unlike,size:=aG (T++ [e]) .size,«seed»:=aG (T++ [e]) .seed,levels:=T.filterMap gB++ [e].filterMap gB,topics:=T.filterMap gC++ [e].filterMap gC,releases:=T.filterMap gD++ [e].filterMap gD}:=by unfold cb;rw[zQ,zQ,zQ]
theorem wy (T:aQ) (e:fM):iN (T++ [e])=if e.1.1.fL=true then e.1.1.bytes::iN T else iN T:=by
 unfold iN;rw[zQ,List.reverse_append];by_cases h:e.1.1.fL=true
 ·simp[h]
 ·simp[h]
theorem Tq (T:aQ) (n a b:Nat):cb (T++ [((.levels,n),.bb [a,b])])={cb T with levels:=(cb T).levels++ [(n,a,b)]}:=by
 rw[wx];have hs:∀k:Kd,k≠ .levels->aG (T++ [((.levels,n),.bb [a,b])]) k=aG T k:=λk hk=>wu T _ k (by intro e;exact hk (Zo Prod.fst e).symm)
 rw[hs _ ZE,hs _ ZE,hs _ ZE,hs _ ZE,hs _ ZE,hs _ ZE];simp[cb,gB,gC,gD]
theorem Tr (T:aQ) (n:Nat) (l:List Bytes):cb (T++ [((.topics,n),.cE l)])={cb T with topics:=(cb T).topics++ [(n,l)]}:=by
 rw[wx];have hs:∀k:Kd,k≠ .topics->aG (T++ [((.topics,n),.cE l)]) k=aG T k:=λk hk=>wu T _ k (by intro e;exact hk (Zo Prod.fst e).symm)
 rw[hs _ ZE,hs _ ZE,hs _ ZE,hs _ ZE,hs _ ZE,hs _ ZE];simp[cb,gB,gC,gD]
theorem Ts (T:aQ) (n a:Nat):cb (T++ [((.release,n),.bb [a])])={cb T with releases:=(cb T).releases++ [(n,a)]}:=by
 rw[wx];have hs:∀k:Kd,k≠ .release->aG (T++ [((.release,n),.bb [a])]) k=aG T k:=λk hk=>wu T _ k (by intro e;exact hk (Zo Prod.fst e).symm)
 rw[hs _ ZE,hs _ ZE,hs _ ZE,hs _ ZE,hs _ ZE,hs _ ZE];simp[cb,gB,gC,gD]
theorem cv.snoc {T:aQ}(W:cv T) {e:fM}(h:qr e) (hn:has T e.1=false):cv (T++ [e]):=by
 refine ⟨λx hx=>?_,?_⟩
 ·rcases List.mem_append.mp hx with h1|h1
  ·exact W.dk x h1
  ·rw[List.mem_singleton.mp h1];exact h
 ·rw[yH,List.nodup_append];refine ⟨W.once,by simp,?_⟩;intro a ha b hb;have e1:b=e.1:=by simpa using hb
  subst e1;rintro rfl;have:=Tf.mpr ha;rw[hn]at this;cases this
noncomputable def jf (k:Kd) (w:Bytes):Option Nat:=if de k.kx k.most w=true then (if k= .size/\(bC w).toNat % 2=1 then none else some (bC w).toNat) else none
theorem CI (k:Kd) (w:Bytes):kz k [w]=(jf k w).map λv=>(0,.bb [v]):=by
 unfold kz jf;simp only;split
 ·split<;>rfl
 ·rfl
set_option tactic.hygienic true in
theorem CJ (k:Kd) (ws:List Bytes) (h:∀w,ws≠ [w]):kz k ws=none:=by
 unfold kz;split
 ·rename_i w;exact absurd rfl (h w)
 ·rfl
set_option tactic.hygienic true in
theorem Tt {k:Kd}{w:Bytes}{v:Nat}(h:jf k w=some v):k.kx<=v/\v<=k.most/\(k= .size->v % 2=0):=by
 unfold jf at h;split at h
 ·rename_i hi;split at h
  ·cases h
  ·rename_i hs;cases h;have:=fN hi;refine ⟨by omega,by omega,λe=>?_⟩;have:¬(bC w).toNat % 2=1:=λq=>hs ⟨e,q⟩
   omega
 ·cases h
set_option tactic.hygienic true in
theorem JM {k:Kd}{ws:List Bytes}{n:Nat}{v:dH}(h:jO k ws=some (n,v)):qr ((k,n),v):=by
 have st:∀{k:Kd},k.fL=true->kz k ws=some (n,v)->qr ((k,n),v):=by
  intro k hk h
  match ws,h with
  | [w],h=>
   rw[CI]at h;cases e:jf k w with
   |none=>rw[e]at h;cases h
   |some x=>rw[e]at h;cases h;obtain ⟨h1,h2,h3⟩:=Tt e;have g:(0:Nat)=0/\∃v,[x]= [v]/\k.kx<=v/\v<=k.most/\(k= .size->v % 2=0):=⟨rfl,x,rfl,h1,h2,h3⟩;cases k<;>first|exact g|cases hk
 cases k with
 |levels=>
  have h:kC ws=some (n,v):=h;unfold kC at h;split at h
  ·rename_i m a b;split at h
   ·rename_i hi;cases h;simp only[za]at hi;have h1:=fN hi.1;have h2:=fN hi.2.1;have h3:=fN hi.2.2;exact ⟨by omega,by omega,_,_,rfl,by omega,by omega,by omega⟩
   ·cases h
  ·cases h
 |topics=>
  have h:jd ws=some (n,v):=h;unfold jd at h;split at h
  ·rename_i m t ts;split at h
   ·rename_i hi;cases h;rw[za,CH,za]at hi;have h1:=fN hi.1;exact ⟨rfl,by omega,by omega,by simp,hi.2.1⟩
   ·cases h
  ·cases h
 |release=>
  have h:kD ws=some (n,v):=h;unfold kD at h;split at h
  ·rename_i m a;split at h
   ·rename_i hi;cases h;simp only[za]at hi;have h1:=fN hi.1;have h2:=fN hi.2;exact ⟨by omega,by omega,_,rfl,by omega⟩
   ·cases h
  ·cases h
 |rounds=>exact st rfl h
 |offer=>exact st rfl h
 |gap=>exact st rfl h
 |unlike=>exact st rfl h
 |size=>exact st rfl h
 |seed=>exact st rfl h
set_option tactic.hygienic true in
theorem CK {T T':aQ}{ws:List Bytes}(W:cv T) (h:dS T ws= .ok T'):cv T':=by
 unfold dS at h;split at h
 ·cases h;exact W
 ·rename_i w r;cases e1:jc w with
  |none=>rw[e1]at h;cases h
  |some k=>
   rw[e1]at h;simp only at h;cases e2:jO k r with
   |none=>rw[e2]at h;cases h
   |some p=>
    obtain ⟨n,v⟩:=p;rw[e2]at h;simp only at h;split at h
    ·cases h
    ·rename_i hn;cases h;exact W.snoc (JM e2) (by simpa using hn)
noncomputable def spec (T:aQ):Rules×List Bytes:=(cb T,iN T)
noncomputable def tI (x:Except Nat aQ):Except Nat (Rules×List Bytes):=match x with
 | .error e=> .error e
 | .ok T=> .ok (spec T)
theorem qt {T:aQ}(W:cv T) (k:Kd) (hk:k.fL=true) (r:List Bytes) (gE:Nat->Rules) (sp:Bytes->Option Rules)
  (CL:∀v,has T (k,0)=false->cb (T++ [((k,0),.bb [v])])=gE v)
  (iq:∀w,sp w=(jf k w).map gE):
  (match r with
   | [a]=>match sp a with
    |some y=>if (iN T).contains k.bytes=true then Except.error 3 else .ok (y,k.bytes::iN T)
    |none=> .error 2
   |_=> .error 2)=tI (match kz k r with
   |none=> .error 2
   |some (n,v)=>if has T (k,n)=true then .error 3 else .ok (T++ [((k,n),v)])):=by
 match r with
 | []=>rw[CJ k [] (by simp)];rfl
 | [a]=>
  show (match sp a with
    |some y=>if (iN T).contains k.bytes=true then Except.error 3 else .ok (y,k.bytes::iN T)
    |none=> .error 2)=_
  rw[iq a,Tp W k hk,CI];cases e:jf k a with
  |none=>rfl
  |some v=>
   show (if has T (k,0)=true then Except.error 3 else .ok (gE v,k.bytes::iN T))=tI (if has T (k,0)=true then .error 3 else .ok (T++ [((k,0),.bb [v])]));cases hh:has T (k,0) with
   |true=>rfl
   |false=>show Except.ok (gE v,k.bytes::iN T)=Except.ok (spec (T++ [((k,0),.bb [v])]));unfold spec;rw[CL v hh,wy];simp[hk]
 |a::b::c=>rw[CJ k _ (by simp)];rfl
theorem qu {T:aQ}(k:Kd) (v:Nat) (hn:has T (k,0)=false) (hk:k.fL=true):cb (T++ [((k,0),.bb [v])])=
  {rounds:=if k= .rounds then v else aG T .rounds,offer:=if k= .offer then v else aG T .offer,gap:=if k= .gap then v else aG T .gap,unlike:=if k= .unlike then v else aG T .unlike,size:=if k= .size then v else aG T .size,«seed»:=if k= .seed then v else aG T .seed,levels:=(cb T).levels,topics:=(cb T).topics,releases:=(cb T).releases}:=by
 have hs:∀k':Kd,aG (T++ [((k,0),.bb [v])]) k'=if k=k' then v else aG T k':=by
  intro k';by_cases e:k=k'
  ·subst e;rw[Zx rfl,Ti T k v hn]
  ·rw[Zw e,wu T _ k' (by intro z;exact e (Zo Prod.fst z))]
 rw[wx,hs,hs,hs,hs,hs,hs];have e1: [((k,0),dH.bb [v])].filterMap gB= []:=by cases k<;>first|rfl|cases hk
 have e2: [((k,0),dH.bb [v])].filterMap gC= []:=by cases k<;>first|rfl|cases hk
 have e3: [((k,0),dH.bb [v])].filterMap gD= []:=by cases k<;>first|rfl|cases hk
 rw[e1,e2,e3,zE,zE,zE];rfl
theorem tJ (k:Kd) (w:Bytes) (h:k≠ .size):jf k w=numberIn k.kx k.most w:=by
 rw[tH];unfold jf;split
 ·rw[Zw (λz=>h z.1)]
 ·rfl
theorem Tu (w:Bytes):jf .size w=(numberIn 2 4 w).bind λn=>if n=3 then none else some n:=by
 rw[tH];unfold jf;show (if de 2 4 w=true then _ else _)=_;by_cases h:de 2 4 w=true
 ·rw[Zx h];show _=(if de 2 4 w=true then some (bC w).toNat else none).bind _;rw[Zx h];have:=fN h;show _=if (bC w).toNat=3 then none else some (bC w).toNat;by_cases h3:(bC w).toNat=3
  ·rw[Zx h3,Zx ⟨rfl,by omega⟩]
  ·rw[Zw h3,Zw (by intro z;omega)]
 ·rw[Zw h];show _=(if de 2 4 w=true then some (bC w).toNat else none).bind _;rw[Zw h];rfl
theorem CN (w:Bytes):numberIn 1 9 w=if de 1 9 w=true then some (bC w).toNat else none:=tH 1 9 w
theorem Tv (w:Bytes):numberIn 1 5 w=if de 1 5 w=true then some (bC w).toNat else none:=tH 1 5 w
theorem Tw (w:Bytes):numberIn 0 99999 w=if de 0 99999 w=true then some (bC w).toNat else none:=tH 0 99999 w
theorem JN {lo hi:Int}{w:Bytes}(h1:lo<=bC w) (h2:bC w<=hi):de lo hi w=true:=by unfold de;simp only[za,Zt];exact ⟨h1,h2⟩
theorem JO {lo hi:Int}{w:Bytes}(h:¬(lo<=bC w/\bC w<=hi)):de lo hi w=false:=by
 cases e:de lo hi w with
 |false=>rfl
 |true=>exact absurd (fN e) h
noncomputable def gE (T:aQ) (k:Kd) (o:Option (Nat×dH)):Except Nat (Rules×List Bytes):=match o with
 |none=> .error 2
 |some (n,v)=>if has T (k,n)=true then .error 3 else .ok (spec (T++ [((k,n),v)]))
theorem CO (T:aQ) (k:Kd) (o:Option (Nat×dH)):tI (match o with|none=> .error 2|some (n,v)=>if has T (k,n)=true then .error 3 else .ok (T++ [((k,n),v)]))=gE T k o:=by
 cases o with
 |none=>rfl
 |some p=>obtain ⟨n,v⟩:=p;show tI (if has T (k,n)=true then .error 3 else .ok (T++ [((k,n),v)]))=if has T (k,n)=true then .error 3 else .ok (spec (T++ [((k,n),v)]));cases has T (k,n)<;>rfl
theorem Tx {T:aQ}(W:cv T) (r:List Bytes):(match r with
   | [n,a,b]=>match numberIn 1 9 n,numberIn 1 5 a,numberIn 1 5 b with
    |some n,some a,some b=>if b<a then Except.error 2 else if ((spec T).1.levels.any λy=>y.1==n)=true then .error 3 else .ok ({(spec T).1 with levels:=(spec T).1.levels++ [(n,a,b)]},(spec T).2)
    |_,_,_=> .error 2
   |_=> .error 2)=gE T .levels (kC r):=by
 match r with
 | []=>rfl
 | [_]=>rfl
 | [_,_]=>rfl
 |_::_::_::_::_=>rfl
 | [n,a,b]=>
  simp only[CN,Tv,kC];cases h1:de 1 9 n with
  |false=>rfl
  |true=>
   cases h2:de 1 5 a with
   |false=>rfl
   |true=>
    have g2:=fN h2;cases h3:de 1 5 b with
    |false=>
     have h4:de (bC a) 5 b=false:=JO λz=>by have:=JN (lo:=1) (hi:=5) (w:=b) ZD z.2;rw[h3]at this;cases this
     rw[h4];rfl
    |true=>
     have g3:=fN h3;simp only[Zy];by_cases h6:(bC b).toNat<(bC a).toNat
     ·rw[Zx h6,JO (lo:=bC a) (hi:=5) (w:=b) ZD];rfl
     ·rw[Zw h6,JN (lo:=bC a) (hi:=5) (w:=b) ZD g3.2];show (if ((T.filterMap gB).any λy=>y.1==(bC n).toNat)=true then _ else _)=gE T .levels (some ((bC n).toNat,.bb [(bC a).toNat,(bC b).toNat]));rw[Tj W];show _=if has T (.levels,(bC n).toNat)=true then Except.error 3 else .ok (spec (T++ [((.levels,(bC n).toNat),.bb [(bC a).toNat,(bC b).toNat])]));unfold spec;rw[Tq,wy];rfl
theorem Tz {T:aQ}(W:cv T) (r:List Bytes):(match r with
   |n::t::ts=>match numberIn 1 9 n with
    |some n=>if ((t::ts).all isName&&unlikeNames (t::ts))=false then Except.error 2 else if ((spec T).1.topics.any λy=>y.1==n)=true then .error 3 else .ok ({(spec T).1 with topics:=(spec T).1.topics++ [(n,t::ts)]},(spec T).2)
    |none=> .error 2
   |_=> .error 2)=gE T .topics (jd r):=by
 match r with
 | []=>rfl
 | [_]=>rfl
 |n::t::ts=>
  simp only[CN,jd];cases h1:de 1 9 n with
  |false=>rfl
  |true=>
   simp only[Zy,zp];rw[CH,JK];cases h2:((t::ts).all isName&&(t::ts).all λw=> !decide (1<(t::ts).count w)) with
   |false=>rfl
   |true=>rw[Zw ZE];show (if ((T.filterMap gC).any λy=>y.1==(bC n).toNat)=true then _ else _)=gE T .topics (some ((bC n).toNat,.cE (t::ts)));rw[Tn W];show _=if has T (.topics,(bC n).toNat)=true then Except.error 3 else .ok (spec (T++ [((.topics,(bC n).toNat),.cE (t::ts))]));unfold spec;rw[Tr,wy];rfl
theorem TC {T:aQ}(W:cv T) (r:List Bytes):(match r with
   | [n,a]=>match numberIn 1 9 n,numberIn 0 99999 a with
    |some n,some a=>if ((spec T).1.releases.any λy=>y.1==n)=true then Except.error 3 else .ok ({(spec T).1 with releases:=(spec T).1.releases++ [(n,a)]},(spec T).2)
    |_,_=> .error 2
   |_=> .error 2)=gE T .release (kD r):=by
 match r with
 | []=>rfl
 | [_]=>rfl
 |_::_::_::_=>rfl
 | [n,a]=>
  simp only[CN,Tw,kD];cases h1:de 1 9 n with
  |false=>rfl
  |true=>
   cases h2:de 0 99999 a with
   |false=>rfl
   |true=>simp only[Zy];show (if ((T.filterMap gD).any λy=>y.1==(bC n).toNat)=true then _ else _)=gE T .release (some ((bC n).toNat,.bb [(bC a).toNat]));rw[To W];show _=if has T (.release,(bC n).toNat)=true then Except.error 3 else .ok (spec (T++ [((.release,(bC n).toNat),.bb [(bC a).toNat])]));unfold spec;rw[Ts,wy];rfl
theorem TF {T:aQ}(W:cv T) (l:Bytes):lineOf (spec T) l=tI (dS T (words l)):=by
 unfold lineOf dS;cases words l with
 |nil=>rfl
 |cons w r=>
  simp only;cases e:jc w with
  |none=>
   have n:=Te e;rw[Zw (show ¬w=text "LEVELS" from n .levels),Zw (show ¬w=text "TOPICS" from n .topics),Zw (show ¬w=text "RELEASE" from n .release)];rw[Zx]
   ·rfl
   ·rw[zA];intro x hx;simp only[KINDS,yT,xc,ZC]at hx;simp only[Zm];rcases hx with rfl|rfl|rfl|rfl|rfl|rfl
    ·exact λz=>n .rounds z.symm
    ·exact λz=>n .offer z.symm
    ·exact λz=>n .gap z.symm
    ·exact λz=>n .unlike z.symm
    ·exact λz=>n .size z.symm
    ·exact λz=>n .seed z.symm
  |some k=>
   have hw:=Td e;subst hw;simp only;have sc:k.fL=true->¬k.bytes=text "LEVELS"/\¬k.bytes=text "TOPICS"/\¬k.bytes=text "RELEASE"/\¬(KINDS.any λw=>text w==k.bytes)=false/\jO k r=kz k r:=by intro hk;cases k<;>first|exact ⟨by decide,by decide,by decide,by decide,rfl⟩|cases hk
   cases k with
   |levels=>rw[Zx (show Kd.levels.bytes=text "LEVELS" from rfl)];exact (Tx W r).trans (CO T .levels (kC r)).symm
   |topics=>rw[Zw (show ¬Kd.topics.bytes=text "LEVELS" by decide),Zx (show Kd.topics.bytes=text "TOPICS" from rfl)];exact (Tz W r).trans (CO T .topics (jd r)).symm
   |release=>rw[Zw (show ¬Kd.release.bytes=text "LEVELS" by decide),Zw (show ¬Kd.release.bytes=text "TOPICS" by decide),Zx (show Kd.release.bytes=text "RELEASE" from rfl)];exact (TC W r).trans (CO T .release (kD r)).symm
   |rounds=>
    obtain ⟨h1,h2,h3,h4,h5⟩:=sc rfl;rw[Zw h1,Zw h2,Zw h3,Zw h4,h5];refine qt W .rounds rfl r (λn=>{cb T with rounds:=n}) _ (λv hv=>qu .rounds v hv rfl) λw=>?_
    rw[tJ _ _ ZE,Zx (show Kd.rounds.bytes=text "ROUNDS" from rfl)];rfl
   |offer=>
    obtain ⟨h1,h2,h3,h4,h5⟩:=sc rfl;rw[Zw h1,Zw h2,Zw h3,Zw h4,h5];refine qt W .offer rfl r (λn=>{cb T with offer:=n}) _ (λv hv=>qu .offer v hv rfl) λw=>?_
    rw[tJ _ _ ZE,Zw ZE,Zx (show Kd.offer.bytes=text "OFFER" from rfl)];rfl
   |gap=>
    obtain ⟨h1,h2,h3,h4,h5⟩:=sc rfl;rw[Zw h1,Zw h2,Zw h3,Zw h4,h5];refine qt W .gap rfl r (λn=>{cb T with gap:=n}) _ (λv hv=>qu .gap v hv rfl) λw=>?_
    rw[tJ _ _ ZE,Zw ZE,Zw ZE,Zx (show Kd.gap.bytes=text "GAP" from rfl)];rfl
   |unlike=>
    obtain ⟨h1,h2,h3,h4,h5⟩:=sc rfl;rw[Zw h1,Zw h2,Zw h3,Zw h4,h5];refine qt W .unlike rfl r (λn=>{cb T with unlike:=n}) _ (λv hv=>qu .unlike v hv rfl) λw=>?_
    rw[tJ _ _ ZE,Zw ZE,Zw ZE,Zw ZE,Zx (show Kd.unlike.bytes=text "UNLIKE" from rfl)];rfl
   |size=>
    obtain ⟨h1,h2,h3,h4,h5⟩:=sc rfl;rw[Zw h1,Zw h2,Zw h3,Zw h4,h5];refine qt W .size rfl r (λn=>{cb T with size:=n}) _ (λv hv=>qu .size v hv rfl) λw=>?_
    rw[Tu,Zw ZE,Zw ZE,Zw ZE,Zw ZE,Zx (show Kd.size.bytes=text "SIZE" from rfl)];cases numberIn 2 4 w with
    |none=>rfl
    |some n=>show (if n=3 then none else some _)=(if n=3 then none else some n).map _;split<;>rfl
   |seed=>
    obtain ⟨h1,h2,h3,h4,h5⟩:=sc rfl;rw[Zw h1,Zw h2,Zw h3,Zw h4,h5];refine qt W .seed rfl r (λn=>{cb T with «seed»:=n}) _ (λv hv=>qu .seed v hv rfl) λw=>?_
    rw[tJ _ _ ZE,Zw ZE,Zw ZE,Zw ZE,Zw ZE,Zw ZE];rfl
theorem JP:∀(ls:List Bytes) (n:Nat) (T:aQ),cv T->linesOf n ls (spec T)=(match fi n ls T with| .error e=> .error e| .ok T'=> .ok (cb T'))
 | [],n,T,_=>rfl
 |l::r,n,T,W=>by
  unfold linesOf fi;rw[TF W l];cases e:dS T (words l) with
  |error c=>rfl
  |ok T'=>exact JP r (n+1) T' (CK W e)
theorem CP:∀(ls:List Bytes) (n:Nat) (T T':aQ),cv T->fi n ls T= .ok T'->cv T'
 | [],n,T,T',W,h=>by cases h;exact W
 |l::r,n,T,T',W,h=>by
  unfold fi at h;cases e:dS T (words l) with
  |error c=>rw[e]at h;cases h
  |ok T2=>rw[e]at h;exact CP r (n+1) T2 T' (CK W e) h
theorem tK:cv []:=⟨λ_a h=>absurd h (by simp),by simp⟩
theorem TH {T:aQ}(W:cv T):(((cb T).levels.map (λy=>y.1)++((cb T).topics.map (λy=>y.1)++(cb T).releases.map λy=>y.1)).any λn=>decide ((cb T).rounds<n))=
  T.any λe=>decide (aG T .rounds<e.1.2):=by
 rw[zf];simp only[List.any_append,zC,zB,Bool.or_eq_true,cb,yW,zq,Zt];constructor
 ·rintro (⟨y,⟨e,he,hy⟩,h⟩|⟨y,⟨e,he,hy⟩,h⟩|⟨y,⟨e,he,hy⟩,h⟩)
  ·refine ⟨e,he,?_⟩;unfold gB at hy;split at hy
   ·cases hy;exact ZA h
   ·cases hy
  ·refine ⟨e,he,?_⟩;unfold gC at hy;split at hy
   ·cases hy;exact ZA h
   ·cases hy
  ·refine ⟨e,he,?_⟩;unfold gD at hy;split at hy
   ·cases hy;exact ZA h
   ·cases hy
 ·rintro ⟨e,he,h⟩;have w:=W.dk e he;obtain ⟨⟨k,m⟩,v⟩:=e;cases v with
  |bb l=>
   cases k with
   |levels=>obtain ⟨_,_,a,b,rfl,_⟩:=w;exact .inl ⟨(m,a,b),⟨_,he,rfl⟩,Zs h⟩
   |release=>obtain ⟨_,_,a,rfl,_⟩:=w;exact .inr (.inr ⟨(m,a),⟨_,he,rfl⟩,Zs h⟩)
   |topics=>exact w.elim
   |_=>obtain ⟨rfl,_⟩:=w;have h:aG T .rounds<0:=h;omega
  |cE l=>obtain ⟨rfl,_⟩:=w;exact .inr (.inl ⟨(m,l),⟨_,he,rfl⟩,Zs h⟩)
theorem TJ (t:Bytes):rulesOf t=(match gb t with| .error e=> .error e| .ok T=> .ok (cb T)):=by
 unfold rulesOf gb;have h:=JP (cut 10 t) 1 [] tK;have e0:spec []=(noRules,[]):=rfl;rw[e0]at h;rw[h];cases e:fi 1 (cut 10 t) []with
 |error c=>rfl
 |ok T=>have W:=CP _ _ _ _ tK e;simp only;rw[TH W];cases (T.any λe=>decide (aG T .rounds<e.1.2))<;>rfl
set_option tactic.hygienic true in
theorem JQ {t:Bytes}{T:aQ}(h:gb t= .ok T):cv T/\∀e∈T,e.1.2<=aG T .rounds:=by
 unfold gb at h;cases e:fi 1 (cut 10 t) []with
 |error c=>rw[e]at h;cases h
 |ok T'=>
  rw[e]at h;simp only at h;split at h
  ·cases h
  ·rename_i hn;cases h;refine ⟨CP _ _ _ _ tK e,λx hx=>?_⟩;rw[Bool.not_eq_true,zA]at hn;have:=hn x hx;simp only[Zt]at this;omega
theorem wz {α:Type}(f:fM->Option (Nat×α)) (k:Kd) (r:Nat):∀(T:aQ),(∀e∈T,e.1.1=k->∃a,f e=some (e.1.2,a))->(∀e∈T,e.1.1≠k->f e=none)->
  ((T.filterMap f).find? λy=>y.1==r)=(T.find? λe=>e.1==(k,r)).bind f
 | [],_,_=>rfl
 |e::T,h1,h2=>by
  have ih:=wz f k r T (λx hx=>h1 x (yU _ hx)) (λx hx=>h2 x (yU _ hx));by_cases hk:e.1.1=k
  ·obtain ⟨a,ha⟩:=h1 e yV hk;rw[zR,ha];simp only[zX];by_cases hr:e.1.2=r
   ·have e1:(e.1.2==r)=true:=Zm.mpr hr;have e2:(e.1==(k,r))=true:=Zm.mpr (xY hk hr);rw[e1,e2];show some (e.1.2,a)=f e;rw[ha]
   ·have e1:(e.1.2==r)=false:=beq_eq_false_iff_ne.mpr hr;have e2:(e.1==(k,r))=false:=beq_eq_false_iff_ne.mpr λz=>hr (Zo Prod.snd z)
    rw[e1,e2];exact ih
  ·rw[zR,h2 e yV hk,zX];have e2:(e.1==(k,r))=false:=beq_eq_false_iff_ne.mpr λz=>hk (Zo Prod.fst z)
   rw[e2];exact ih
theorem TK {T:aQ}(W:cv T) (r:Nat):((cb T).levels.find? λy=>y.1==r)=(T.find? λe=>e.1==(Kd.levels,r)).bind gB:=by
 refine wz gB .levels r T (λe he hk=>?_) (λe he hk=>?_)
 ·have w:=W.dk e he;obtain ⟨⟨k,m⟩,v⟩:=e;have hk:k= .levels:=hk;subst hk;cases v with
  |bb l=>obtain ⟨_,_,a,b,rfl,_⟩:=w;exact ⟨(a,b),rfl⟩
  |cE l=>exact absurd w.1 ZE
 ·unfold gB;split
  ·exact absurd rfl hk
  ·rfl
theorem TM {T:aQ}(W:cv T) (r:Nat):((cb T).topics.find? λy=>y.1==r)=(T.find? λe=>e.1==(Kd.topics,r)).bind gC:=by
 refine wz gC .topics r T (λe he hk=>?_) (λe he hk=>?_)
 ·have w:=W.dk e he;obtain ⟨⟨k,m⟩,v⟩:=e;have hk:k= .topics:=hk;subst hk;cases v with
  |bb l=>exact w.elim
  |cE l=>exact ⟨l,rfl⟩
 ·unfold gC;split
  ·exact absurd rfl hk
  ·rfl
theorem TN {T:aQ}(W:cv T) (r:Nat):((cb T).releases.find? λy=>y.1==r)=(T.find? λe=>e.1==(Kd.release,r)).bind gD:=by
 refine wz gD .release r T (λe he hk=>?_) (λe he hk=>?_)
 ·have w:=W.dk e he;obtain ⟨⟨k,m⟩,v⟩:=e;have hk:k= .release:=hk;subst hk;cases v with
  |bb l=>obtain ⟨_,_,a,rfl,_⟩:=w;exact ⟨a,rfl⟩
  |cE l=>exact absurd w.1 ZE
 ·unfold gD;split
  ·exact absurd rfl hk
  ·rfl
theorem lD {T:aQ}{k:Kd×Nat}{v:dH}(h:cZ T k=some v):T.find? (λe=>e.1==k)=some (k,v)/\(k,v)∈T:=by
 unfold cZ at h;cases e:T.find? (λe=>e.1==k) with
 |none=>rw[e]at h;cases h
 |some x=>
  rw[e]at h;have h1:x.2=v:=xX h;have h2:x.1=k:=by have z:=zZ e;exact eq_of_beq z
  have h3:x=(k,v):=xY h2 h1;subst h3;exact ⟨rfl,yX e⟩
theorem wA {T:aQ}{k:Kd×Nat}(h:cZ T k=none):T.find? (λe=>e.1==k)=none:=by
 unfold cZ at h;cases e:T.find? (λe=>e.1==k) with
 |none=>rfl
 |some x=>rw[e]at h;cases h
noncomputable def iu (T:aQ) (r:Nat):Nat×Nat:=match cZ T (.levels,r) with
 |some (.bb [a,b])=>(a,b)
 |_=>(1,5)
noncomputable def cB (T:aQ) (r:Nat):Nat:=match cZ T (.release,r) with
 |some (.bb (a::_))=>a
 |_=>0
noncomputable def iO (T:aQ) (r:Nat):List Bytes:=match cZ T (.topics,r) with
 |some (.cE l)=>l
 |_=> []
theorem TQ {T:aQ}(W:cv T) (r:Nat):((planOf (cb T) r).lo,(planOf (cb T) r).hi)=iu T r:=by
 unfold planOf iu;simp only[TK W];cases e:cZ T (.levels,r) with
 |none=>rw[wA e];rfl
 |some v=>
  obtain ⟨h1,h2⟩:=lD e;have w:=W.dk _ h2;rw[h1];cases v with
  |bb l=>obtain ⟨_,_,a,b,rfl,_⟩:=w;rfl
  |cE l=>exact absurd w.1 ZE
theorem qv {T:aQ}(W:cv T) (r:Nat):(planOf (cb T) r).release=cB T r:=by
 unfold planOf cB;simp only[TN W];cases e:cZ T (.release,r) with
 |none=>rw[wA e];rfl
 |some v=>
  obtain ⟨h1,h2⟩:=lD e;have w:=W.dk _ h2;rw[h1];cases v with
  |bb l=>obtain ⟨_,_,a,rfl,_⟩:=w;rfl
  |cE l=>exact absurd w.1 ZE
theorem TR {T:aQ}(W:cv T) (r:Nat):(planOf (cb T) r).topics=iO T r:=by
 unfold planOf iO;simp only[TM W];cases e:cZ T (.topics,r) with
 |none=>rw[wA e];rfl
 |some v=>
  obtain ⟨h1,h2⟩:=lD e;have w:=W.dk _ h2;rw[h1];cases v with
  |bb l=>exact w.elim
  |cE l=>rfl
theorem oI {T:aQ}(W:cv T) (k:Kd) (hk:k.fL=true):k.kx<=aG T k/\aG T k<=k.most:=by
 unfold aG;cases e:cZ T (k,0) with
 |none=>cases k<;>first|exact ⟨by decide,by decide⟩|cases hk
 |some v=>
  obtain ⟨h1,h2⟩:=lD e;have w:=W.dk _ h2;cases v with
  |bb l=>
   have:(0=0)/\∃v,l= [v]/\k.kx<=v/\v<=k.most/\(k= .size->v % 2=0):=by cases k<;>first|exact w|cases hk
   obtain ⟨_,v,rfl,h3,h4,_⟩:=this;exact ⟨h3,h4⟩
  |cE l=>have:=w.1;subst this;cases hk
theorem tL {T:aQ}(W:cv T):aG T .size=2\/aG T .size=4:=by
 have h:=oI W .size rfl;have h2:aG T .size % 2=0:=by
  unfold aG;cases e:cZ T (.size,0) with
  |none=>rfl
  |some v=>
   obtain ⟨h1,h2⟩:=lD e;have w:=W.dk _ h2;cases v with
   |bb l=>obtain ⟨_,v,rfl,_,_,h5⟩:=w;exact h5 rfl
   |cE l=>exact absurd w.1 ZE
 have h3:2<=aG T .size/\aG T .size<=4:=h;omega
noncomputable def dz:dH->List Bytes
 | .bb l=>l.map decimal
 | .cE l=>l
noncomputable def iw (T:aQ):List Bytes:=([Kd.rounds,.offer,.gap,.unlike,.size,.seed].map λk=>joined 32 [k.bytes,decimal (aG T k)])++
 ([Kd.levels,.topics,.release].flatMap λk=>(T.filter λe=>e.1.1==k).map λe=>joined 32 (k.bytes::decimal e.1.2::dz e.2))
theorem wC {α:Type}(f:fM->Option α) (g:α->Bytes) (k:Kd):∀(T:aQ),(∀e∈T,e.1.1=k->∃a,f e=some a/\g a=joined 32 (k.bytes::decimal e.1.2::dz e.2))->(∀e∈T,e.1.1≠k->f e=none)->
  (T.filterMap f).map g=(T.filter λe=>e.1.1==k).map λe=>joined 32 (k.bytes::decimal e.1.2::dz e.2)
 | [],_,_=>rfl
 |e::T,h1,h2=>by
  have ih:=wC f g k T (λx hx=>h1 x (yU _ hx)) (λx hx=>h2 x (yU _ hx));by_cases hk:e.1.1=k
  ·obtain ⟨a,ha,hg⟩:=h1 e yV hk;have e1:(e.1.1==k)=true:=Zm.mpr hk;rw[zR,ha,zU,e1];simp only[Zy,yJ];rw[ih,hg]
  ·have e1:(e.1.1==k)=false:=beq_eq_false_iff_ne.mpr hk;rw[zR,h2 e yV hk,zU,e1];simpa using ih
theorem TU {T:aQ}(W:cv T):shownRules (cb T)=iw T:=by
 unfold shownRules iw;have h1:((cb T).levels.map λy=>joined 32 [text "LEVELS",decimal y.1,decimal y.2.1,decimal y.2.2])=(T.filter λe=>e.1.1== .levels).map λe=>joined 32 (Kd.levels.bytes::decimal e.1.2::dz e.2):=by
  refine wC gB _ .levels T (λe he hk=>?_) (λe he hk=>?_)
  ·have w:=W.dk e he;obtain ⟨⟨k,m⟩,v⟩:=e;have hk:k= .levels:=hk;subst hk;cases v with
   |bb l=>obtain ⟨_,_,a,b,rfl,_⟩:=w;exact ⟨(m,a,b),rfl,rfl⟩
   |cE l=>exact absurd w.1 ZE
  ·unfold gB;split
   ·exact absurd rfl hk
   ·rfl
 have h2:((cb T).topics.map λy=>joined 32 (text "TOPICS"::decimal y.1::y.2))=(T.filter λe=>e.1.1== .topics).map λe=>joined 32 (Kd.topics.bytes::decimal e.1.2::dz e.2):=by
  refine wC gC _ .topics T (λe he hk=>?_) (λe he hk=>?_)
  ·have w:=W.dk e he;obtain ⟨⟨k,m⟩,v⟩:=e;have hk:k= .topics:=hk;subst hk;cases v with
   |bb l=>exact w.elim
   |cE l=>exact ⟨(m,l),rfl,rfl⟩
  ·unfold gC;split
   ·exact absurd rfl hk
   ·rfl
 have h3:((cb T).releases.map λy=>joined 32 [text "RELEASE",decimal y.1,decimal y.2])=(T.filter λe=>e.1.1== .release).map λe=>joined 32 (Kd.release.bytes::decimal e.1.2::dz e.2):=by
  refine wC gD _ .release T (λe he hk=>?_) (λe he hk=>?_)
  ·have w:=W.dk e he;obtain ⟨⟨k,m⟩,v⟩:=e;have hk:k= .release:=hk;subst hk;cases v with
   |bb l=>obtain ⟨_,_,a,rfl,_⟩:=w;exact ⟨(m,a),rfl,rfl⟩
   |cE l=>exact absurd w.1 ZE
  ·unfold gD;split
   ·exact absurd rfl hk
   ·rfl
 rw[h1,h2,h3];simp only[y0,y1,zE];rfl
theorem wD (s:Nat) {n:Nat}(h:0<n):below s n<n:=Nat.mod_lt _ h
theorem JR (f s:Nat) (l:List Nat) (x:Nat) (h:l[below (nextState s) l.length]? =some x):shuffled (f+1) s l=x::shuffled f (nextState s) (l.eraseIdx (below (nextState s) l.length)):=by
 have bQ:l.isEmpty=false:=by
  cases l with
  |nil=>simp at h
  |cons=>rfl
 rw[shuffled];simp only[bQ,zh,Zv,h]
set_option tactic.hygienic true in
theorem wF:∀(f s:Nat) (l:List Nat) (x:Nat),x∈shuffled f s l->x∈l
 |0,_,_,_,h=>by simp[shuffled]at h
 |f+1,s,l,x,h=>by
  unfold shuffled at h;split at h
  ·simp at h
  ·simp only at h;split at h
   ·simp at h
   ·rename_i y hy;rcases yT.mp h with e|h
    ·subst e;exact yY hy
    ·exact List.mem_of_mem_eraseIdx (wF f _ _ x h)
theorem TV {l:List Nat}(hn:l.Nodup) {k x:Nat}(h:l[k]? =some x):¬x∈l.eraseIdx k:=by intro hx;rw[List.mem_eraseIdx_iff_getElem?]at hx;obtain ⟨i,hi,e⟩:=hx;have h1:=List.getElem?_eq_some_iff.mp h;have h2:=List.getElem?_eq_some_iff.mp e;obtain ⟨a,ha⟩:=h1;obtain ⟨b,hb⟩:=h2;exact hi ((yn hn).mp (hb.trans ha.symm))
set_option tactic.hygienic true in
theorem JS:∀(f s:Nat) (l:List Nat),l.Nodup->(shuffled f s l).Nodup
 |0,_,_,_=>by simp[shuffled]
 |f+1,s,l,hn=>by
  unfold shuffled;split
  ·simp
  ·simp only;split
   ·simp
   ·rename_i y hy;refine xa.mpr ⟨λh=>TV hn hy (wF _ _ _ _ h),JS f _ _ (hn.sublist (List.eraseIdx_sublist _ _))⟩
noncomputable def bb (n:Nat):List Nat:=(List.range n).map λi=>i+1
theorem TX (n:Nat):(bb n).Nodup:=by unfold bb;rw[xb,xh];exact List.nodup_range.imp λh e=>h ZD
theorem CQ {n x:Nat}:x∈bb n ↔ 1<=x/\x<=n:=by
 unfold bb;simp only[List.mem_map,List.mem_range];constructor
 ·rintro ⟨a,h,rfl⟩;omega
 ·rintro ⟨h1,h2⟩;exact ⟨x - 1,by omega,by omega⟩
theorem oJ (n:Nat):(bb n).length=n:=by simp[bb]
theorem TY {h:House}{r x:Nat}(hx:x∈lotOf h r):1<=x/\x<=h.motions.length:=CQ.mp (wF _ _ _ _ hx)
theorem TZ (h:House) (r:Nat):(lotOf h r).Nodup:=JS _ _ _ (TX _)
theorem wG {h:House}{m:Nat}(h1:1<=m):motion h m=h.motions[m - 1]? :=by unfold motion;rw[Zw ZD]
theorem T1 {h:House}{m:Nat}{x:Motion}(h1:1<=m) (e:h.motions[m - 1]? =some x):topicOf h m=x.topic:=by unfold topicOf;rw[wG h1,e];rfl
noncomputable def pick (h:House) (offer:Nat):List Nat->List Nat->List Nat
 | [],bo=>bo
 |m::l,bo=>if bo.length=offer then bo else if (h.rules.unlike==0|| !(bo.any λg=>topicOf h g==topicOf h m))=true then pick h offer l (bo++ [m]) else pick h offer l bo
theorem T3 (h:House) (offer:Nat) (l bo:List Nat) (e:bo.length=offer):pick h offer l bo=bo:=by
 cases l with
 |nil=>rfl
 |cons m l=>unfold pick;rw[Zx e]
theorem oK (h:House) (rs:List Round) (r:Nat):∀(l:List Nat) (n:Nat) (bo:List Nat),taken h rs r n l bo=pick h (bo.length+n) (l.filter (may h rs r)) bo
 |l,0,bo=>by rw[T3 h _ _ _ ZD];cases l<;>rfl
 | [],n+1,bo=>rfl
 |m::l,n+1,bo=>by
  unfold taken;rw[zU];cases e:may h rs r m with
  |false=>simp only[zg,zh,Zv];exact oK h rs r l (n+1) bo
  |true=>
   simp only[zp,Zy];have e0:bo.length≠bo.length+(n+1):=by omega
   have e1:pick h (bo.length+(n+1)) (m::l.filter (may h rs r)) bo=if (h.rules.unlike==0|| !(bo.any λg=>topicOf h g==topicOf h m))=true then pick h (bo.length+(n+1)) (l.filter (may h rs r)) (bo++ [m]) else pick h (bo.length+(n+1)) (l.filter (may h rs r)) bo:=by rw[pick,Zw e0]
   rw[e1];have e2:(bo++ [m]).length+n=bo.length+(n+1):=by rw[yt,yE];omega
   rw[oK h rs r l n (bo++ [m]),oK h rs r l (n+1) bo,e2]
theorem CS (h:House) (offer:Nat):∀(l bo:List Nat) (x:Nat),x∈pick h offer l bo->x∈bo\/x∈l
 | [],bo,x,hx=> .inl hx
 |m::l,bo,x,hx=>by
  unfold pick at hx;split at hx
  ·exact .inl hx
  ·split at hx
   ·rcases CS h offer l _ x hx with z|z
    ·rcases List.mem_append.mp z with z|z
     ·exact .inl z
     ·exact .inr (by rw[List.mem_singleton.mp z];exact yV)
    ·exact .inr (yU _ z)
   ·rcases CS h offer l _ x hx with z|z
    ·exact .inl z
    ·exact .inr (yU _ z)
theorem CT (h:House) (offer:Nat):∀(l bo:List Nat),(bo++l).Nodup->(pick h offer l bo).Nodup
 | [],bo,hn=>by rw[zE]at hn;exact hn
 |m::l,bo,hn=>by
  have h1:(bo++ [m]++l).Nodup:=by simpa using hn
  have h2:(bo++l).Nodup:=by refine hn.sublist ?_;exact List.Sublist.append (List.Sublist.refl _) (List.sublist_cons_self _ _)
  unfold pick;split
  ·exact (List.nodup_append.mp hn).1
  ·split
   ·exact CT h offer l _ h1
   ·exact CT h offer l _ h2
theorem CU (h:House) (offer:Nat):∀(l bo:List Nat),bo.length<=offer->(pick h offer l bo).length<=offer
 | [],bo,hl=>hl
 |m::l,bo,hl=>by
  unfold pick;split
  ·omega
  ·split
   ·exact CU h offer l _ (by rw[yt,yE];omega)
   ·exact CU h offer l _ hl
theorem JT {α:Type}(p:α->Bool):∀l:List α,l.find? p=(l.filter p).head?
 | []=>rfl
 |a::l=>by
  rw[zX,zU];cases p a with
  |true=>rfl
  |false=>exact JT p l
inductive lE:List Int->List (List (List Int))->Prop
 |nil:lE [] []
 |cons {p:Int}{r t:List Int}{c:List (List Int)}{cs:List (List (List Int))}:PyFlat.call PyVbdbag.shape (p::r)=some (c,t)->lE t cs->lE (p::r) (c::cs)
theorem JU:∀(f:Nat) (l:List Int) (cs:List (List (List Int))),PyFlat.calls PyVbdbag.shape f l=some cs->lE l cs
 |_,[],cs,h=>by unfold PyFlat.calls at h;cases h;exact .nil
 |0,_::_,cs,h=>by unfold PyFlat.calls at h;cases h
 |f+1,p::r,cs,h=>by
  unfold PyFlat.calls at h;cases e:PyFlat.call PyVbdbag.shape (p::r) with
  |none=>rw[e]at h;cases h
  |some x=>
   obtain ⟨c,t⟩:=x;rw[e]at h;simp only at h;cases e2:PyFlat.calls PyVbdbag.shape f t with
   |none=>rw[e2]at h;cases h
   |some ys=>rw[e2]at h;cases h;exact .cons e (JU f t ys e2)
set_option tactic.hygienic true in
theorem JV {p:Int}{r t:List Int}{c:List (List Int)}(h:PyFlat.call PyVbdbag.shape (p::r)=some (c,t)):
  ∃n k xs,PyVbdbag.shape p=some (n,k)/\n<=r.length/\PyFlat.rows k (r.drop n)=some (xs,t)/\c=(p::r.take n)::xs:=by
 unfold PyFlat.call at h;simp only at h;cases e:PyVbdbag.shape p with
 |none=>rw[e]at h;cases h
 |some x=>
  obtain ⟨n,k⟩:=x;rw[e]at h;simp only at h;split at h
  ·cases h
  ·rename_i hn;cases e2:PyFlat.rows k (r.drop n) with
   |none=>rw[e2]at h;cases h
   |some y=>obtain ⟨xs,t'⟩:=y;rw[e2]at h;cases h;exact ⟨n,k,xs,rfl,by omega,e2,rfl⟩
theorem CV {r t:List Int}{xs:List (List Int)}(h:PyFlat.rows 0 r=some (xs,t)):xs= []/\t=r:=by unfold PyFlat.rows at h;cases h;exact ⟨rfl,rfl⟩
set_option tactic.hygienic true in
theorem CW {k:Nat}{r t:List Int}{xs:List (List Int)}(h:PyFlat.rows (k+1) r=some (xs,t)):
  ∃n r' ys,r=n::r'/\0<=n/\n.toNat<=r'.length/\xs=r'.take n.toNat::ys/\PyFlat.rows k (r'.drop n.toNat)=some (ys,t):=by
 unfold PyFlat.rows at h;cases e:PyFlat.row r with
 |none=>rw[e]at h;cases h
 |some x=>
  obtain ⟨x1,s⟩:=x;rw[e]at h;simp only at h;cases e2:PyFlat.rows k s with
  |none=>rw[e2]at h;cases h
  |some y=>
   obtain ⟨ys,t'⟩:=y;rw[e2]at h;cases h;unfold PyFlat.row at e;cases r with
   |nil=>cases e
   |cons n r'=>
    simp only at e;split at e
    ·rename_i hh;cases e;exact ⟨n,r',ys,rfl,hh.1,hh.2,rfl,e2⟩
    ·cases e
noncomputable def wH:List Nat:= [0,0,0,1,1,1,0,2,0,1,2,4,3,2,2,1,1,1,1,2,1,0]
noncomputable def wI:List Nat:= [0,1,0,2,0,0,0,0,0,0,0,0,1,0,1,0,0,0,0,0,0,0]
noncomputable def bV:Vbdbag.Call->Int×List Int×List (List Int)
 | .clear=>(0,[],[])
 | .rules t=>(1,[],[t])
 | .shown=>(2,[],[])
 | .motion l t w=>(3,[l],[t,w])
 | .strike m=>(4,[m],[])
 | .restore m=>(5,[m],[])
 | .choose=>(6,[],[])
 | .appeal r m=>(7,[r,m],[])
 | .undo=>(8,[],[])
 | .now n=>(9,[n],[])
 | .see z n=>(10,[z,n],[])
 | .read r m z n=>(11,[r,m,z,n],[])
 | .order r m s l=>(12,[r,m,s],[l])
 | .debate r m=>(13,[r,m],[])
 | .result r m l=>(14,[r,m],[l])
 | .offered r=>(15,[r],[])
 | .may r=>(16,[r],[])
 | .told m=>(17,[m],[])
 | .even m=>(18,[m],[])
 | .ways n a=>(19,[n,a],[])
 | .lot r=>(20,[r],[])
 | .counts=>(21,[],[])
noncomputable def qw (c:Vbdbag.Call):List (List Int):=((bV c).1::(bV c).2.1)::(bV c).2.2
noncomputable def wJ:Vbdbag.Call->Prop
 | .rules t=>t.length<=1600
 | .motion _ t w=>t.length<=20/\w.length<=120
 | .order _ _ _ l=>l.length<=10
 | .result _ _ l=>l.length<=10
 |_=>True
noncomputable def sh:List (Int×Nat×Nat)->Int->Option (Nat×Nat)
 | [],_=>none
 |(a,b)::r,p=>if p=a then some b else sh r p
noncomputable def TB:List (Int×Nat×Nat):= [(0,0,0),(1,0,1),(2,0,0),(3,1,2),(4,1,0),(5,1,0),(6,0,0),(7,2,0),(8,0,0),(9,1,0),(10,2,0),(11,4,0),(12,3,1),(13,2,0),(14,2,1),(15,1,0),(16,1,0),(17,1,0),(18,1,0),(19,2,0),(20,1,0),(21,0,0)]
theorem JW {p:Int}{x:Nat×Nat}:∀{l:List (Int×Nat×Nat)},sh l p=some x->(p,x)∈l
 | [],h=>by cases h
 |(a,b)::r,h=>by
  unfold sh at h;by_cases e:p=a
  ·rw[Zx e]at h;cases h;rw[e];exact yV
  ·rw[Zw e]at h;exact yU _ (JW h)
theorem JX {p:Int}{n k:Nat}(h:PyVbdbag.shape p=some (n,k)):(p,n,k)∈TB:=JW (show sh TB p=some (n,k) from h)
theorem T4 {p:Int}{n k:Nat}(h:PyVbdbag.shape p=some (n,k)):0<=p/\p<=21/\wH[p.toNat]? =some n/\wI[p.toNat]? =some k:=
 (by decide:∀e∈TB,0<=e.1/\e.1<=21/\wH[e.1.toNat]? =some e.2.1/\wI[e.1.toNat]? =some e.2.2) _ (JX h)
theorem dU {α:Type}{l:List α}(h:l.length=0):l= []:=zN h
theorem wK {α:Type}{l:List α}{n:Nat}(h:l.length=n+1):∃a r,l=a::r/\r.length=n:=by
 cases l with
 |nil=>cases h
 |cons a r=>exact ⟨a,r,rfl,Nat.succ.inj h⟩
theorem iy {α:Type}{l:List α}(h:l.length=1):∃a,l= [a]:=by obtain ⟨a,r,rfl,g⟩:=wK h;rw[dU g];exact ⟨a,rfl⟩
theorem oM {α:Type}{l:List α}(h:l.length=2):∃a b,l= [a,b]:=by obtain ⟨a,r,rfl,g⟩:=wK h;obtain ⟨b,rfl⟩:=iy g;exact ⟨a,b,rfl⟩
theorem JY {α:Type}{l:List α}(h:l.length=3):∃a b c,l= [a,b,c]:=by obtain ⟨a,r,rfl,g⟩:=wK h;obtain ⟨b,c,rfl⟩:=oM g;exact ⟨a,b,c,rfl⟩
theorem T5 {α:Type}{l:List α}(h:l.length=4):∃a b c d,l= [a,b,c,d]:=by obtain ⟨a,r,rfl,g⟩:=wK h;obtain ⟨b,c,d,rfl⟩:=JY g;exact ⟨a,b,c,d,rfl⟩
theorem T6:∀e∈TB,∀(xs:List Int) (rs:List (List Int)),xs.length=e.2.1->rs.length=e.2.2->∃call,(e.1::xs)::rs=qw call:=by
 refine List.forall_mem_cons.mpr ⟨λxs rs hx hr=>?_,?_⟩
 ·rw[dU hx];rw[dU hr];exact ⟨.clear,rfl⟩
 refine List.forall_mem_cons.mpr ⟨λxs rs hx hr=>?_,?_⟩
 ·rw[dU hx];obtain ⟨u,rfl⟩:=iy hr;exact ⟨.rules u,rfl⟩
 refine List.forall_mem_cons.mpr ⟨λxs rs hx hr=>?_,?_⟩
 ·rw[dU hx];rw[dU hr];exact ⟨.shown,rfl⟩
 refine List.forall_mem_cons.mpr ⟨λxs rs hx hr=>?_,?_⟩
 ·obtain ⟨a,rfl⟩:=iy hx;obtain ⟨u,v,rfl⟩:=oM hr;exact ⟨.motion a u v,rfl⟩
 refine List.forall_mem_cons.mpr ⟨λxs rs hx hr=>?_,?_⟩
 ·obtain ⟨a,rfl⟩:=iy hx;rw[dU hr];exact ⟨.strike a,rfl⟩
 refine List.forall_mem_cons.mpr ⟨λxs rs hx hr=>?_,?_⟩
 ·obtain ⟨a,rfl⟩:=iy hx;rw[dU hr];exact ⟨.restore a,rfl⟩
 refine List.forall_mem_cons.mpr ⟨λxs rs hx hr=>?_,?_⟩
 ·rw[dU hx];rw[dU hr];exact ⟨.choose,rfl⟩
 refine List.forall_mem_cons.mpr ⟨λxs rs hx hr=>?_,?_⟩
 ·obtain ⟨a,b,rfl⟩:=oM hx;rw[dU hr];exact ⟨.appeal a b,rfl⟩
 refine List.forall_mem_cons.mpr ⟨λxs rs hx hr=>?_,?_⟩
 ·rw[dU hx];rw[dU hr];exact ⟨.undo,rfl⟩
 refine List.forall_mem_cons.mpr ⟨λxs rs hx hr=>?_,?_⟩
 ·obtain ⟨a,rfl⟩:=iy hx;rw[dU hr];exact ⟨.now a,rfl⟩
 refine List.forall_mem_cons.mpr ⟨λxs rs hx hr=>?_,?_⟩
 ·obtain ⟨a,b,rfl⟩:=oM hx;rw[dU hr];exact ⟨.see a b,rfl⟩
 refine List.forall_mem_cons.mpr ⟨λxs rs hx hr=>?_,?_⟩
 ·obtain ⟨a,b,c,d,rfl⟩:=T5 hx;rw[dU hr];exact ⟨.read a b c d,rfl⟩
 refine List.forall_mem_cons.mpr ⟨λxs rs hx hr=>?_,?_⟩
 ·obtain ⟨a,b,c,rfl⟩:=JY hx;obtain ⟨u,rfl⟩:=iy hr;exact ⟨.order a b c u,rfl⟩
 refine List.forall_mem_cons.mpr ⟨λxs rs hx hr=>?_,?_⟩
 ·obtain ⟨a,b,rfl⟩:=oM hx;rw[dU hr];exact ⟨.debate a b,rfl⟩
 refine List.forall_mem_cons.mpr ⟨λxs rs hx hr=>?_,?_⟩
 ·obtain ⟨a,b,rfl⟩:=oM hx;obtain ⟨u,rfl⟩:=iy hr;exact ⟨.result a b u,rfl⟩
 refine List.forall_mem_cons.mpr ⟨λxs rs hx hr=>?_,?_⟩
 ·obtain ⟨a,rfl⟩:=iy hx;rw[dU hr];exact ⟨.offered a,rfl⟩
 refine List.forall_mem_cons.mpr ⟨λxs rs hx hr=>?_,?_⟩
 ·obtain ⟨a,rfl⟩:=iy hx;rw[dU hr];exact ⟨.may a,rfl⟩
 refine List.forall_mem_cons.mpr ⟨λxs rs hx hr=>?_,?_⟩
 ·obtain ⟨a,rfl⟩:=iy hx;rw[dU hr];exact ⟨.told a,rfl⟩
 refine List.forall_mem_cons.mpr ⟨λxs rs hx hr=>?_,?_⟩
 ·obtain ⟨a,rfl⟩:=iy hx;rw[dU hr];exact ⟨.even a,rfl⟩
 refine List.forall_mem_cons.mpr ⟨λxs rs hx hr=>?_,?_⟩
 ·obtain ⟨a,b,rfl⟩:=oM hx;rw[dU hr];exact ⟨.ways a b,rfl⟩
 refine List.forall_mem_cons.mpr ⟨λxs rs hx hr=>?_,?_⟩
 ·obtain ⟨a,rfl⟩:=iy hx;rw[dU hr];exact ⟨.lot a,rfl⟩
 refine List.forall_mem_cons.mpr ⟨λxs rs hx hr=>?_,?_⟩
 ·rw[dU hx];rw[dU hr];exact ⟨.counts,rfl⟩
 exact λe h=>nomatch h
theorem T7 {p:Int}{n k:Nat}{xs:List Int}{rs:List (List Int)}(h:PyVbdbag.shape p=some (n,k)) (hx:xs.length=n) (hr:rs.length=k):∃call,(p::xs)::rs=qw call:=T6 _ (JX h) xs rs hx hr
theorem JZ:∀{k:Nat}{r t:List Int}{xs:List (List Int)},PyFlat.rows k r=some (xs,t)->xs.length=k
 |0,r,t,xs,h=>by rw[(CV h).1];rfl
 |k+1,r,t,xs,h=>by obtain ⟨n,r',ys,_,_,_,rfl,g⟩:=CW h;exact Zo (·+1) (JZ g)
theorem J0 {p:Int}{r t:List Int}{c:List (List Int)}(h:PyFlat.call PyVbdbag.shape (p::r)=some (c,t)):∃call,c=qw call:=by obtain ⟨n,k,xs,h1,h2,h3,rfl⟩:=JV h;exact T7 h1 (by rw[yF];omega) (JZ h3)
theorem T8 (call:Vbdbag.Call):PyVbdbag.whole (qw call)=qw call:=by cases call<;>rfl
theorem J1 {l:List Int}{cs:List (List (List Int))}(h:lE l cs):cs.map PyVbdbag.whole=cs:=by
 induction h with
 |nil=>rfl
 |cons e _ ih=>obtain ⟨call,rfl⟩:=J0 e;rw[yJ,T8,ih]
theorem T9 {l:List Int}(h:PyVbdbag.answers_asked l=true):∃cs,lE l cs/\VbdbagNeutral.asked cs=true/\PyVbdbag.answers l=PyFlat.told (PyFlat.played VbdbagNeutral.step VbdbagNeutral.start cs)/\(PyVbdbag.answers l).length<=10000000:=by
 unfold PyVbdbag.answers_asked at h;cases e:PyFlat.calls PyVbdbag.shape l.length l with
 |none=>rw[e]at h;cases h
 |some Ua=>
  rw[e]at h;simp only[za]at h;obtain ⟨⟨⟨_,_⟩,h2⟩,h3⟩:=h;have hP:=JU _ _ _ e;rw[J1 hP]at h2;refine ⟨Ua,hP,h2,?_,?_⟩
  ·unfold PyVbdbag.answers PyVbdbag.calls;rw[e];simp only[J1 hP]
  ·unfold PyFlat.short at h3;simpa using h3
noncomputable def dh (lo hi:Int) (l:List Int):Bool:=l.all λz=>decide (lo<=z)&&decide (z<=hi)
noncomputable def jP (l:List Int):Bool:=decide (1<=(l.length:Int))&&(decide ((l.length:Int)<=8)&&dh 65 90 l)
noncomputable def qx (l:List Int):Int:=l.foldl (λv c=>10*v+c - 48) 0
noncomputable def qy (l:List Int):Int:=if (decide (1<=(l.length:Int))&&(decide ((l.length:Int)<=5)&&dh 48 57 l))=true then qx l else -1
noncomputable def cR (m:Int):List Int->List (List Int)
 | []=> [[]]
 |c::r=>if c=m then []::cR m r else match cR m r with
  | []=> [[c]]
  |x::l=>(c::x)::l
noncomputable def lF (p:List Int):List (List Int)->List (List Int)
 | []=> [p]
 |x::l=>(p++x)::l
theorem J2 (m:Int):∀l,cR m l≠ []
 | []=>by simp[cR]
 |c::r=>by
  unfold cR;split
  ·simp
  ·split<;>simp
theorem J3 (m:Int) (l:List Int):lF [] (cR m l)=cR m l:=by
 cases e:cR m l with
 |nil=>exact absurd e (J2 m l)
 |cons x r=>rfl
theorem Ub (m:Int) (p r:List Int):lF p (cR m (m::r))=p::cR m r:=by simp[cR,lF]
theorem Uc (m c:Int) (p r:List Int) (h:¬c=m):lF p (cR m (c::r))=lF (p++ [c]) (cR m r):=by
 rw[cR,Zw h];cases e:cR m r with
 |nil=>exact absurd e (J2 m r)
 |cons x l=>simp[lF]
theorem wL {a b:List Nat}(h:Vbdbag.«ints» a=Vbdbag.«ints» b):a=b:=by unfold Vbdbag.«ints» at h;exact (yM λx y e=>Int.ofNat.inj e).mp h
theorem bR (b:List Nat):(Vbdbag.«ints» b).length=b.length:=by simp[Vbdbag.«ints»]
theorem tM (a b:List Nat):Vbdbag.«ints» (a++b)=Vbdbag.«ints» a++Vbdbag.«ints» b:=by simp[Vbdbag.«ints»]
theorem CY (m:Nat):∀b:Bytes,cR m (Vbdbag.«ints» b)=(cut m b).map Vbdbag.«ints»
 | []=>rfl
 |c::r=>by
  have ih:=CY m r;show cR m ((c:Int)::Vbdbag.«ints» r)=_;unfold cR cut;rw[ih];by_cases h:c=m
  ·subst h;rw[Zx rfl,Zx rfl];rfl
  ·rw[Zw ZD,Zw h];cases cut m r with
   |nil=>rfl
   |cons x l=>rfl
theorem J4 (lo hi:Nat) (b:Bytes):dh lo hi (Vbdbag.«ints» b)=b.all λc=>decide (lo<=c)&&decide (c<=hi):=by
 unfold dh Vbdbag.«ints»;rw[zy];congr 1;funext c;simp only[zq];have e1:decide ((lo:Int)<=(c:Int))=decide (lo<=c):=by rw[Zp];omega
 have e2:decide ((c:Int)<=(hi:Int))=decide (c<=hi):=by rw[Zp];omega
 rw[e1,e2]
theorem J5 (b:Bytes):decide (1<=((Vbdbag.«ints» b).length:Int))= !b.isEmpty:=by
 rw[bR];cases b with
 |nil=>rfl
 |cons a r=>simp only[List.isEmpty_cons,zo,Zt,yu];omega
theorem J6 (b:Bytes) (n:Nat):decide (((Vbdbag.«ints» b).length:Int)<=(n:Int))=decide (b.length<=n):=by rw[bR,Zp];omega
theorem CZ (b:Bytes):jP (Vbdbag.«ints» b)=isName b:=by unfold jP isName;rw[J5,show ((8:Int))=((8:Nat):Int) from rfl,J6];rw[show (65:Int)=((65:Nat):Int) from rfl,show (90:Int)=((90:Nat):Int) from rfl,J4]
theorem J7:∀(b:Bytes) (v:Nat),b.all isDigit=true->(Vbdbag.«ints» b).foldl (λv c=>10*v+c - 48) (v:Int)=((b.foldl (λn c=>10*n+(c - 48)) v:Nat):Int)
 | [],v,_=>rfl
 |c::r,v,h=>by rw[zw,za]at h;have h1:=h.1;unfold isDigit at h1;simp only[za,Zt]at h1;show (Vbdbag.«ints» r).foldl _ (10*(v:Int)+(c:Int) - 48)=((r.foldl _ (10*v+(c - 48)):Nat):Int);rw[←J7 r (10*v+(c - 48)) h.2];congr 1;omega
theorem Ud (b:Bytes):dh 48 57 (Vbdbag.«ints» b)=b.all isDigit:=by rw[show (48:Int)=((48:Nat):Int) from rfl,show (57:Int)=((57:Nat):Int) from rfl,J4];rfl
theorem tN (b:Bytes):qy (Vbdbag.«ints» b)=bC b:=by
 unfold qy bC;rw[J5,show ((5:Int))=((5:Nat):Int) from rfl,J6,Ud];by_cases h:(!b.isEmpty&&(decide (b.length<=5)&&b.all isDigit))=true
 ·rw[Zx h,Zx h];simp only[za]at h;exact J7 b 0 h.2.2
 ·rw[Zw h,Zw h]
theorem Ue (b:Bytes):(cR 32 (Vbdbag.«ints» b)).filter (λw=>decide (0<(w.length:Int)))=(words b).map Vbdbag.«ints»:=by
 have:=CY 32 b;rw[show ((32:Nat):Int)=32 from rfl]at this;rw[this];unfold words;rw[List.filter_map];congr 1;congr 1;funext w;simp only[zq,bR];cases w with
 |nil=>rfl
 |cons a r=>simp only[List.isEmpty_cons,zo,Zt,yu];omega
theorem J8 (n:Nat):decimal n=(Nat.toDigits 10 n).map λc=>c.toNat:=by unfold decimal;rw[Nat.toString_eq_repr,Nat.toList_repr]
theorem tO {n k:Nat}(h:0<k) (hn:n<10^k):(decimal n).length<=k:=by rw[J8,yA];exact (Nat.length_toDigits_le_iff ZE h).mpr hn
theorem C0 (n:Nat):decimal n≠ []:=by rw[J8];intro e;exact Nat.toDigits_ne_nil (List.map_eq_nil_iff.mp e)
theorem C1 (gF:Nat):∀(l:List Bytes) (w:Bytes),joined gF (l++ [w])=if l= [] then w else joined gF l++gF::w
 | [],w=>rfl
 | [a],w=>rfl
 |a::b::r,w=>by have ih:=C1 gF (b::r) w;rw[Zw (by simp)]at ih⊢;show a++(gF::joined gF (b::r++ [w]))=a++(gF::joined gF (b::r))++gF::w;rw[ih];simp
noncomputable def jl:List Bytes->Nat
 | []=>0
 |w::r=>w.length+1+jl r
theorem wM (gF:Nat):∀l:List Bytes,(joined gF l).length<=jl l
 | []=>xC _
 | [a]=>by simp[joined,jl]
 |a::b::r=>by have ih:=wM gF (b::r);show (a++(gF::joined gF (b::r))).length<=a.length+1+jl (b::r);simp only[yt,yu];omega
theorem Ug {l:List Bytes}{i:Nat}{w:Bytes}(h:l[i]? =some w):jl (l.take i)+w.length+1<=jl l:=by
 induction l generalizing i with
 |nil=>simp at h
 |cons a r ih=>
  cases i with
  |zero=>have e:a=w:=xX h;subst e;simp[jl]
  |succ i=>have:=ih (i:=i) h;simp only[List.take_succ_cons,jl];omega
theorem Uh (gF:Nat):∀(l:List Bytes),l≠ []->(∀w∈l,w≠ [])->joined gF l≠ []
 | [],h,_=>absurd rfl h
 | [a],_,h=>h a (by simp)
 |a::b::r,_,_=>by simp[joined]
theorem Ui {T:aQ}(W:cv T) {k:Kd}(hk:k.fL=true) {v:dH}(h:cZ T (k,0)=some v):∃x,v= .bb [x]/\aG T k=x:=by
 obtain ⟨h1,h2⟩:=lD h;have w:=W.dk _ h2;unfold aG;rw[h];cases v with
 |bb l=>
  have:(0=0)/\∃v,l= [v]/\k.kx<=v/\v<=k.most/\(k= .size->v % 2=0):=by cases k<;>first|exact w|cases hk
  obtain ⟨_,x,rfl,_⟩:=this;exact ⟨x,rfl,rfl⟩
 |cE l=>have:=w.1;subst this;cases hk
theorem Uj {T:aQ}{k:Kd}(h:cZ T (k,0)=none):aG T k=k.wq:=by unfold aG;rw[h]
theorem Uk {T:aQ}(W:cv T) {r:Nat}{v:dH}(h:cZ T (.levels,r)=some v):∃a b,v= .bb [a,b]/\iu T r=(a,b):=by
 obtain ⟨h1,h2⟩:=lD h;have w:=W.dk _ h2;unfold iu;rw[h];cases v with
 |bb l=>obtain ⟨_,_,a,b,rfl,_⟩:=w;exact ⟨a,b,rfl,rfl⟩
 |cE l=>exact absurd w.1 ZE
theorem Ul {T:aQ}(W:cv T) {r:Nat}{v:dH}(h:cZ T (.release,r)=some v):∃a,v= .bb [a]/\cB T r=a:=by
 obtain ⟨h1,h2⟩:=lD h;have w:=W.dk _ h2;unfold cB;rw[h];cases v with
 |bb l=>obtain ⟨_,_,a,rfl,_⟩:=w;exact ⟨a,rfl,rfl⟩
 |cE l=>exact absurd w.1 ZE
theorem Um {T:aQ}(W:cv T) {r:Nat}{v:dH}(h:cZ T (.topics,r)=some v):∃l,v= .cE l/\iO T r=l/\l≠ []:=by
 obtain ⟨h1,h2⟩:=lD h;have w:=W.dk _ h2;unfold iO;rw[h];cases v with
 |bb l=>exact w.elim
 |cE l=>exact ⟨l,rfl,rfl,w.2.2.2.1⟩
noncomputable abbrev nI (b:List Nat):List Int:=Vbdbag.«ints» b
set_option tactic.hygienic true in
theorem wN (m:Nat):∀b:Bytes,jl (cut m b)=b.length+1
 | []=>by simp[cut,jl]
 |c::r=>by
  have ih:=wN m r;rw[cut];split
  ·simp only[jl,yu,yB];omega
  ·split
   ·rename_i e;rw[e]at ih;simp[jl]at ih
   ·rename_i x l e;rw[e]at ih;simp only[jl,yu]at ih⊢;omega
theorem J9 (p:Bytes->Bool):∀l:List Bytes,jl (l.filter p)<=jl l
 | []=>xC _
 |a::r=>by
  have:=J9 p r;rw[zU];split
  ·simp only[jl];omega
  ·simp only[jl];omega
theorem Uo (b:Bytes):jl (words b)<=b.length+1:=by rw[←wN 32 b];exact J9 _ _
theorem C2 {l:List Nat}(h1:l.length<=2) (h2:∀n∈l,n<=99999):jl (dz (.bb l))<=12:=by
 have d:∀n,n<=99999->(decimal n).length<=5:=λn hn=>tO ZE ZD
 match l,h1 with
 | [],_=>simp[dz,jl]
 | [a],_=>have:=d a (h2 a (by simp));simp only[dz,yJ,yO,jl];omega
 | [a,b],_=>have:=d a (h2 a (by simp));have:=d b (h2 b (by simp));simp only[dz,yJ,yO,jl];omega
theorem Up {k:Kd}{ws:List Bytes}{n:Nat}{v:dH}(h:jO k ws=some (n,v)):jl (dz v)<=jl ws+12:=by
 have w:=JM h;cases v with
 |cE ts=>
  obtain ⟨rfl,_⟩:=w;have h:jd ws=some (n,.cE ts):=h;unfold jd at h;split at h
  ·split at h
   ·cases h;simp only[dz,jl];omega
   ·cases h
  ·cases h
 |bb l=>
  have:jl (dz (.bb l))<=12:=by
   cases k with
   |topics=>exact w.elim
   |levels=>
    obtain ⟨_,_,a,b,rfl,_,_,_⟩:=w;refine C2 (by simp) λm hm=>?_
    simp at hm;omega
   |release=>
    obtain ⟨_,_,a,rfl,_⟩:=w;refine C2 (by simp) λm hm=>?_
    simp at hm;omega
   |rounds|offer|gap|unlike|size|seed=>
    obtain ⟨_,x,rfl,_,h4,_⟩:=w;refine C2 (by simp) λm hm=>?_
    have e:m=x:=by simpa using hm
    subst e;exact xE h4 ZE
  omega
set_option tactic.hygienic true in
theorem Uq {T T':aQ}{ws:List Bytes}{N:Nat}(h:dS T ws= .ok T') (hs:∀e∈T,jl (dz e.2)<=N) (hw:jl ws+12<=N):T'.length<=T.length+1/\∀e∈T',jl (dz e.2)<=N:=by
 unfold dS at h;split at h
 ·cases h;exact ⟨by omega,hs⟩
 ·rename_i w r;cases e1:jc w with
  |none=>rw[e1]at h;cases h
  |some k=>
   rw[e1]at h;simp only at h;cases e2:jO k r with
   |none=>rw[e2]at h;cases h
   |some nv=>
    obtain ⟨n,v⟩:=nv;rw[e2]at h;simp only at h;split at h
    ·cases h
    ·cases h;refine ⟨by rw[yt,yE];omega,λe he=>?_⟩;rcases List.mem_append.mp he with z|z
     ·exact hs e z
     ·rw[List.mem_singleton.mp z];have:=Up e2;simp only[jl]at hw;show jl (dz v)<=N;omega
theorem Ka {N:Nat}:∀(ls:List Bytes) (n:Nat) (T T':aQ),fi n ls T= .ok T'->(∀e∈T,jl (dz e.2)<=N)->(∀l∈ls,l.length+13<=N)->T'.length<=T.length+ls.length/\∀e∈T',jl (dz e.2)<=N
 | [],n,T,T',h,hs,_=>by cases h;exact ⟨by simp,hs⟩
 |l::r,n,T,T',h,hs,hl=>by
  unfold fi at h;cases e:dS T (words l) with
  |error c=>rw[e]at h;cases h
  |ok T2=>rw[e]at h;have h1:=Uo l;have h2:=hl l yV;obtain ⟨g1,g2⟩:=Uq e hs ZD;obtain ⟨g3,g4⟩:=Ka r (n+1) T2 T' h g2 (λx hx=>hl x (yU _ hx));exact ⟨by simp only[yu];omega,g4⟩
theorem Ur (m:Nat) (b:Bytes):(cut m b).length<=b.length+1:=by
 have h1:=wN m b;have h2:∀l:List Bytes,l.length<=jl l:=by
  intro l;induction l with
  |nil=>simp[jl]
  |cons a r ih=>simp only[yu,jl];omega
 have:=h2 (cut m b);omega
theorem Us (m:Nat) (b l:Bytes) (h:l∈cut m b):l.length<=b.length:=by
 have h1:=wN m b;have h2:∀ls:List Bytes,l∈ls->l.length+1<=jl ls:=by
  intro ls;induction ls with
  |nil=>intro h;simp at h
  |cons a r ih=>
   intro h;simp only[jl];rcases yT.mp h with rfl|h
   ·omega
   ·have:=ih h;omega
 have:=h2 _ h;omega
theorem Ut {t:Bytes}{T:aQ}(h:gb t= .ok T) (ht:t.length<=1500):T.length<=2000/\∀e∈T,jl (dz e.2)<=5000:=by
 unfold gb at h;cases e:fi 1 (cut 10 t) []with
 |error c=>rw[e]at h;cases h
 |ok T'=>
  rw[e]at h;simp only at h;split at h
  ·cases h
  ·cases h;have h1:=Ur 10 t;obtain ⟨g1,g2⟩:=Ka (N:=5000) _ _ _ _ e (by simp) (λl hl=>by have:=Us 10 t l hl;omega);exact ⟨by simp only[yB]at g1;omega,g2⟩
structure Rm where
 one:List Nat
 two:List Nat
 result:List Nat
noncomputable abbrev c9:=List ((Nat×Nat)×Rm)
structure bc where
 T:aQ
 ms:List Motion
 rs:List (List Nat)
 rooms:c9
 now:Nat
noncomputable def Rm.room (m:Nat) (x:Rm):Room:=⟨m,x.one,x.two,x.result⟩
noncomputable def b7 (R:c9) (r:Nat):List Room:=(R.filter λe=>e.1.1==r).map λe=>e.2.room e.1.2
noncomputable def ak (B:bc):House:=⟨cb B.T,B.ms,B.rs.mapIdx λi l=>⟨l,b7 B.rooms (i+1)⟩,B.now⟩
noncomputable def jQ:bc:=⟨[],[],[],[],0⟩
structure qz (l:List Nat) (size:Nat) (x:Rm):Prop where
 one:x.one= []\/x.one.Perm l
 two:x.two= []\/x.two.Perm l
 res:x.result= []\/(x.result.Perm (List.range size)/\x.one≠ []/\x.two≠ [])
structure Ok (B:bc):Prop where
 wt:cv B.T
 sm:B.T.length<=2000/\∀e∈B.T,jl (dz e.2)<=5000
 nm:B.ms.length<=40
 mo:∀m∈B.ms,m.topic.length<=8/\m.words_.length<=100
 nr:B.rs.length<=aG B.T .rounds
 ro:∀l∈B.rs,l.Nodup/\l.length=aG B.T .offer/\∀n∈l,1<=n/\n<=B.ms.length
 gk:(B.rooms.map λe=>e.1).Nodup
 ge:∀e∈B.rooms,1<=e.1.1/\e.1.2<=99/\cB B.T e.1.1<=B.now/\∃l,B.rs[e.1.1 - 1]? =some l/\qz l (aG B.T .size) e.2
 gn:∀r,(b7 B.rooms r).length<=30
 nw:B.now<=200000
noncomputable def iP (a:Answer):List Int:=a.value::(a.more++a.rows.flatMap λr=>(r.length:Int)::r)
theorem Kb:Ok jQ where
 wt:=tK
 sm:=⟨by decide,λe h=>absurd h (by simp[jQ])⟩
 nm:=by decide
 mo:=λ_a h=>absurd h (by simp[jQ])
 nr:=xQ _
 ro:=λ_a h=>absurd h (by simp[jQ])
 gk:=by simp[jQ]
 ge:=λ_a h=>absurd h (by simp[jQ])
 gn:=λr=>by simp[jQ,b7]
 nw:=xQ _
section
variable {B:bc}
theorem Ok.jR (O:Ok B):B.rs.length<=9:=xE O.nr (oI O.wt .rounds rfl).2
theorem Ok.jS (O:Ok B) {l:List Nat}(h:l∈B.rs):1<=l.length/\l.length<=5:=by have h1:=(O.ro l h).2.1;have h2:=oI O.wt .offer rfl;have h3:1<=aG B.T .offer/\aG B.T .offer<=5:=h2;omega
theorem lG (r:Nat):(ak B).rounds[r]? =(B.rs[r]?).map λl=>⟨l,b7 B.rooms (r+1)⟩:=by unfold ak;simp only[ye]
theorem fO:(ak B).rounds.length=B.rs.length:=by unfold ak;simp
theorem tP:(ak B).rounds.map (λx=>x.offered)=B.rs:=by apply zP;intro i;rw[yd,lG];cases B.rs[i]? <;>rfl
theorem wO (L:List Round):offeredIn L=(L.map λx=>x.offered).flatten:=by unfold offeredIn;rw[List.flatMap_def]
theorem Uu (k:Nat):offeredIn ((ak B).rounds.take k)=(B.rs.take k).flatten:=by rw[wO,yQ,tP]
theorem Uv:offeredIn (ak B).rounds=B.rs.flatten:=by rw[wO,tP]
theorem Uw (k:Nat):offeredIn (((ak B).rounds.take k).drop (((ak B).rounds.take k).length - (ak B).rules.gap))=((B.rs.take k).drop (min k B.rs.length - aG B.T .gap)).flatten:=by rw[wO,yK,yQ,tP,yF,fO];rfl
theorem Ux (k:Nat):offeredIn (((ak B).rounds.drop k).take (ak B).rules.gap)=((B.rs.drop k).take (aG B.T .gap)).flatten:=by rw[wO,yQ,yK,tP];rfl
theorem qA {z:Int}(h:¬(1<=z/\z<=(B.rs.length:Int))) (f:Round->Nat->House×Answer):withRound (ak B) z f=no (ak B) (-6):=by
 unfold withRound;by_cases h1:z<1
 ·rw[Zx h1]
 ·rw[Zw h1,lG,yc ZD];rfl
theorem fP {k:Nat}{l:List Nat}(h1:1<=k) (h:B.rs[k - 1]? =some l) (f:Round->Nat->House×Answer):withRound (ak B) (k:Int) f=f ⟨l,b7 B.rooms k⟩ k:=by unfold withRound;rw[Zw ZD,zt,lG,h];simp only[xW];rw[show k - 1+1=k by omega]
theorem wQ {z:Int}(h:¬(1<=z/\z<=(B.ms.length:Int))) (f:Motion->Nat->House×Answer):withMotion (ak B) z f=no (ak B) (-6):=by
 unfold withMotion;by_cases h1:z<1
 ·rw[Zx h1]
 ·have e:(ak B).motions[z.toNat - 1]? =none:=yc (by show B.ms.length<=_;omega);rw[Zw h1,e]
theorem wR {k:Nat}{m:Motion}(h1:1<=k) (h:B.ms[k - 1]? =some m) (f:Motion->Nat->House×Answer):withMotion (ak B) (k:Int) f=f m k:=by have e:(ak B).motions[k - 1]? =some m:=h;unfold withMotion;rw[Zw ZD,zt,e]
theorem mP {z:Int}{n:Nat}(h:1<=z/\z<=(n:Int)):∃k:Nat,z=(k:Int)/\1<=k/\k - 1<n:=⟨z.toNat,by omega,by omega,by omega⟩
theorem Uy (R:c9) (n:Nat):(R.filter λe=>decide (1<=e.1.1/\e.1.1<=n+1)).length=(R.filter λe=>decide (1<=e.1.1/\e.1.1<=n)).length+(R.filter λe=>e.1.1==n+1).length:=by
 induction R with
 |nil=>rfl
 |cons e R ih=>
  simp only[zU];by_cases h1:e.1.1=n+1
  ·have a:decide (1<=e.1.1/\e.1.1<=n+1)=true:=Zs ZD;have b:decide (1<=e.1.1/\e.1.1<=n)=false:=Zq ZD;have c:(e.1.1==n+1)=true:=Zm.mpr h1;rw[a,b,c];simp only[Zy,zh,Zv,yu,ih];omega
  ·have c:(e.1.1==n+1)=false:=beq_eq_false_iff_ne.mpr h1;rw[c];by_cases h2:1<=e.1.1/\e.1.1<=n
   ·have a:decide (1<=e.1.1/\e.1.1<=n+1)=true:=Zs ZD;rw[a,Zs h2];simp only[Zy,zh,Zv,yu,ih];omega
   ·have a:decide (1<=e.1.1/\e.1.1<=n+1)=false:=Zq ZD;rw[a,Zq h2];simp only[zh,Zv,ih]
theorem Ke (R:c9) (r:Nat):(b7 R r).length=(R.filter λe=>e.1.1==r).length:=by unfold b7;rw[yA]
theorem Kf (a b:List Nat):total (a++b)=total a+total b:=by
 induction a with
 |nil=>simp[total]
 |cons x a ih=>show x+total (a++b)=x+total a+total b;rw[ih];omega
theorem Kg (R:c9):∀n:Nat,total ((List.range n).map λi=>(b7 R (i+1)).length)=(R.filter λe=>decide (1<=e.1.1/\e.1.1<=n)).length
 |0=>by
  have e:(R.filter λe=>decide (1<=e.1.1/\e.1.1<=0))= []:=List.filter_eq_nil_iff.mpr λe _a=>by simp;omega
  rw[e];rfl
 |n+1=>by rw[xi,yH,Kf,Kg R n,Uy,←Ke];show _+((b7 R (n+1)).length+0)=_;omega
theorem Kh (O:Ok B):total ((ak B).rounds.map λx=>x.rooms.length)=B.rooms.length:=by
 have e:((ak B).rounds.map λx=>x.rooms.length)=(List.range B.rs.length).map λi=>(b7 B.rooms (i+1)).length:=by
  apply zP;intro i;rw[yd,lG,yd];by_cases h:i<B.rs.length
  ·rw[yb h,yh h];rfl
  ·rw[yc ZD,yc (by rw[yC];omega)];rfl
 rw[e,Kg];congr 1;refine List.filter_eq_self.mpr λx hx=>Zs ?_
 obtain ⟨h1,_,_,l,h2,_⟩:=O.ge x hx;have:=(List.getElem?_eq_some_iff.mp h2).1;omega
theorem Ki {l:List Nat}{c:Nat}(h:∀x∈l,x<=c):total l<=l.length*c:=by
 induction l with
 |nil=>simp[total]
 |cons x l ih=>
  have h1:=h x yV;have h2:=ih λy hy=>h y (yU _ hy)
  show x+total l<=_;rw[yu,xO];omega
theorem Ok.qB (O:Ok B):B.rooms.length<=270:=by
 rw[←Kh O];have h:=Ki (l:=(ak B).rounds.map λx=>x.rooms.length) (c:=30) (λx hx=>by
  obtain ⟨r,hr,rfl⟩:=List.mem_map.mp hx;obtain ⟨i,hi⟩:=yg hr;rw[lG]at hi;cases e:B.rs[i]? with
  |none=>rw[e]at hi;cases hi
  |some l=>rw[e]at hi;cases hi;exact O.gn _)
 rw[yA,fO]at h;have:=O.jR;have:B.rs.length*30<=9*30:=xM _ this;omega
theorem mQ (O:Ok B) (k:Nat):released (ak B) k=decide (cB B.T k<=B.now):=by unfold released;rw[show (ak B).rules=cb B.T from rfl,qv O.wt];rfl
theorem Uz (O:Ok B) {k:Nat}(h:¬cB B.T k<=B.now):(B.rooms.filter λe=>e.1.1==k)= []:=by
 refine List.filter_eq_nil_iff.mpr λe he z=>h ?_
 have e1:e.1.1=k:=by simpa using z
 have:=(O.ge e he).2.2.1;rwa[e1]at this
theorem Kj (O:Ok B) (w:Int):open_ (ak B) w=(bb B.rs.length).filter λr=>decide ((cB B.T r:Int)<=w):=by
 unfold open_;rw[fO];refine zT λr _a=>?_
 rw[show (ak B).rules=cb B.T from rfl,qv O.wt]
end
section
variable {B:bc}
theorem C3 {lo hi:Int}{l:List Int}:dh lo hi l=true ↔ ∀z∈l,lo<=z/\z<=hi:=by unfold dh;simp[zx]
theorem qC {l:List Int}{lo hi:Int}(h:dh lo hi l=true) (h0:0<=lo):«ints» (l.map Int.toNat)=l:=by
 unfold «ints»;rw[yN];have:∀z∈l,((λ(n:Nat)=>(n:Int))∘Int.toNat) z=z:=λz hz=>by have:=(C3.mp h z hz).1;simp only[zq];omega
 rw[yI this,yL]
theorem tQ (k:Nat) (t:List Int):bytesOf k t=if (decide (t.length<=k)&&dh 0 255 t)=true then some (t.map Int.toNat) else none:=rfl
theorem UA {t:List Int}(h:(decide (t.length<=1500)&&dh 0 255 t)=false):step (ak B) (.rules t)=no (ak B) (-1):=by rw[step];simp only[tQ,h,zh,Zv]
theorem UB {t:List Int}(h:(decide (t.length<=1500)&&dh 0 255 t)=true) (hb:B.ms≠ []\/B.rs≠ []\/B.now≠0):step (ak B) (.rules t)=no (ak B) (-3):=by
 rw[step];simp only[tQ,h,Zy];rw[Zx];have e:(ak B).motions=B.ms:=rfl;have e2:(ak B).now=B.now:=rfl;have e3:(ak B).rounds.isEmpty=B.rs.isEmpty:=by rw[zf,yr,yr,fO]
 rw[e,e2,e3];rcases hb with h|h|h
 ·cases z:B.ms with
  |nil=>exact absurd z h
  |cons=>rfl
 ·cases z:B.rs with
  |nil=>exact absurd z h
  |cons=>simp
 ·have:(B.now==0)=false:=by simpa using h
  simp[this]
theorem UC {t:List Int}(O:Ok B) (h:(decide (t.length<=1500)&&dh 0 255 t)=true) (h1:B.ms= []) (h2:B.rs= []) (h3:B.now=0):
  step (ak B) (.rules t)=(match gb (t.map Int.toNat) with| .error e=>(ak B,{value:=1,more:=«ints» [e.1,e.2]})| .ok T=>(ak {B with T:=T},{value:=0,more:=«ints» [aG T .rounds,aG T .offer,aG T .size]})):=by
 rw[step];simp only[tQ,h,Zy];rw[Zw,TJ]
 ·cases gb (t.map Int.toNat) with
  |error e=>rfl
  |ok T=>simp only;unfold ak;rw[h1,h2,h3];rfl
 ·have e:(ak B).motions=B.ms:=rfl;have e2:(ak B).now=B.now:=rfl;have e3:(ak B).rounds.isEmpty=B.rs.isEmpty:=by rw[zf,yr,yr,fO]
  rw[e,e2,e3,h1,h2,h3];decide
theorem Kk (O:Ok B) (h:B.rs= []):B.rooms= []:=by
 cases e:B.rooms with
 |nil=>rfl
 |cons x r=>obtain ⟨_,_,_,l,h2,_⟩:=O.ge x (by rw[e];exact yV);rw[h]at h2;simp at h2
theorem UD (O:Ok B) {b:Bytes}{T:aQ}(hb:b.length<=1500) (h:gb b= .ok T) (h1:B.ms= []) (h2:B.rs= []):Ok {B with T:=T}:=by
 have hr:=Kk O h2;refine ⟨(JQ h).1,Ut h hb,O.nm,O.mo,?_,?_,O.gk,?_,O.gn,O.nw⟩
 ·show B.rs.length<=_;rw[h2];exact xQ _
 ·intro l hl;have hl:l∈B.rs:=hl;rw[h2]at hl;cases hl
 ·intro e he;have he:e∈B.rooms:=he;rw[hr]at he;cases he
theorem UE (O:Ok B):step (ak B) .shown=(ak B,{value:=((iw B.T).length:Int),rows:=(iw B.T).map «ints»}):=by rw[step];rw[show (ak B).rules=cb B.T from rfl,TU O.wt]
theorem UG {l:Int}{t w:List Int}(h:(decide (1<=l)&&decide (l<=5)&&jP t&&(decide (w.length<=100)&&dh 0 255 w))=false):step (ak B) (.motion l t w)=no (ak B) (-1):=by
 rw[step];simp only[tQ];cases e1:(decide (t.length<=8)&&dh 0 255 t) with
 |false=>simp
 |true=>
  cases e2:(decide (w.length<=100)&&dh 0 255 w) with
  |false=>simp
  |true=>
   simp only[Zy];rw[e2,zd]at h;have e3:isName (t.map Int.toNat)=jP t:=by rw[←CZ,qC (Bool.and_eq_true_iff.mp e1).2 ZE]
   have e4:within l 1 5=(decide (1<=l)&&decide (l<=5)):=rfl;rw[e3,e4,Zx h]
theorem Kl {t:List Int}(h:jP t=true):(decide (t.length<=8)&&dh 0 255 t)=true/\isName (t.map Int.toNat)=true/\«ints» (t.map Int.toNat)=t:=by
 unfold jP at h;simp only[za,Zt]at h;obtain ⟨h1,h2,h3⟩:=h;have h4:dh 0 255 t=true:=C3.mpr λz hz=>by have:=C3.mp h3 z hz;omega
 have h5:=qC h4 ZE;refine ⟨by simp[h4];omega,?_,h5⟩;rw[←CZ,h5];unfold jP;simp[h1,h2,h3]
theorem UH {l:Int}{t w:List Int}(h1:1<=l/\l<=5) (h2:jP t=true) (h3:(decide (w.length<=100)&&dh 0 255 w)=true):
  step (ak B) (.motion l t w)=if 40<=B.ms.length then no (ak B) (-9) else if B.rs≠ [] then no (ak B) (-4) else (ak {B with ms:=B.ms++ [⟨l.toNat,t.map Int.toNat,w.map Int.toNat,false⟩]},{value:=(B.ms.length:Int)+1}):=by
 obtain ⟨e1,e2,e3⟩:=Kl h2;rw[step];simp only[tQ,e1,h3,Zy];have e4:(within l 1 5&&isName (t.map Int.toNat))=true:=by rw[e2,zd];unfold within;simp;omega
 rw[Zw (by rw[e4];decide)];have e5:(ak B).motions=B.ms:=rfl;have e6:(ak B).rounds.isEmpty=B.rs.isEmpty:=by rw[zf,yr,yr,fO]
 rw[e5,e6];show (if 40<=B.ms.length then _ else _)=_;by_cases a:40<=B.ms.length
 ·rw[Zx a,Zx a]
 ·rw[Zw a,Zw a];cases z:B.rs with
  |cons x r=>rfl
  |nil=>rw[Zw ZE,Zw (by simp)];unfold ak;rw[z]
theorem UI (O:Ok B) {m:Motion}(h:¬40<=B.ms.length) (hr:B.rs= []) (h1:m.topic.length<=8) (h2:m.words_.length<=100):Ok {B with ms:=B.ms++ [m]}:=by
 refine ⟨O.wt,O.sm,?_,?_,O.nr,?_,O.gk,O.ge,O.gn,O.nw⟩
 ·show (B.ms++ [m]).length<=40;rw[yt,yE];omega
 ·intro x hx;have hx:x∈B.ms++ [m]:=hx;rcases List.mem_append.mp hx with z|z
  ·exact O.mo x z
  ·rw[List.mem_singleton.mp z];exact ⟨h1,h2⟩
 ·intro l hl;have hl:l∈B.rs:=hl;rw[hr]at hl;cases hl
noncomputable def iQ (ms:List Motion):Nat:=(ms.filter λy=>y.struck).length
theorem C4 {s:Bool}:∀{ms:List Motion}{k:Nat}{x:Motion},ms[k]? =some x->x.struck= !s->((iQ (ms.set k {x with struck:=s}):Nat):Int)=(iQ ms:Int)+(if s=true then 1 else -1)
 | [],k,x,h,_=>by simp at h
 |a::r,0,x,h,hs=>by have e:a=x:=xX h;subst e;unfold iQ;rw[List.set_cons_zero,zU,zU,hs];cases s<;>simp<;>omega
 |a::r,k+1,x,h,hs=>by have ih:=C4 (ms:=r) (k:=k) h hs;unfold iQ at ih⊢;rw[List.set_cons_succ,zU,zU];cases a.struck<;>simp<;>omega
theorem UJ {k:Nat}{x:Motion}(h1:1<=k) (h:B.ms[k - 1]? =some x) (s:Bool):
  (if s=true then step (ak B) (.strike k) else step (ak B) (.restore k))=if x.struck=s then no (ak B) (-7) else (ak {B with ms:=B.ms.set (k - 1) {x with struck:=s}},{value:=(iQ (B.ms.set (k - 1) {x with struck:=s}):Int)}):=by
 have e5:(ak B).motions=B.ms:=rfl;cases s with
 |true=>
  rw[Zx rfl];rw[step];rw[wR h1 h];cases hs:x.struck with
  |true=>rfl
  |false=>rw[Zw ZE,Zw ZE,C4 h (by rw[hs];rfl)];rfl
 |false=>
  rw[Zw ZE];rw[step];rw[wR h1 h];cases hs:x.struck with
  |false=>rfl
  |true=>rw[Zw ZE,Zw ZE,C4 h (by rw[hs];rfl)];rfl
theorem UK {z:Int}(h:¬(1<=z/\z<=(B.ms.length:Int))) (s:Bool):(if s=true then step (ak B) (.strike z) else step (ak B) (.restore z))=no (ak B) (-6):=by
 cases s with
 |true=>rw[Zx rfl];rw[step];exact wQ h _
 |false=>rw[Zw ZE];rw[step];exact wQ h _
theorem UL (O:Ok B) {k:Nat}{x:Motion}{s:Bool}(h:B.ms[k]? =some x):Ok {B with ms:=B.ms.set k {x with struck:=s}}:=by
 have hx:=O.mo x (yY h);refine ⟨O.wt,O.sm,?_,?_,O.nr,?_,O.gk,O.ge,O.gn,O.nw⟩
 ·show (B.ms.set _ _).length<=40;rw[yD];exact O.nm
 ·intro y hy;rcases x8 hy with z|z
  ·exact O.mo y z
  ·subst z;exact hx
 ·intro l hl;have:=O.ro l hl;refine ⟨this.1,this.2.1,?_⟩;show ∀n∈l,1<=n/\n<=(B.ms.set _ _).length;rw[yD];exact this.2.2
theorem Km {n:Int}(h:¬((B.now:Int)<=n/\n<=200000)):step (ak B) (.now n)=no (ak B) (-1):=by
 rw[step];rw[Zx];have e:(ak B).now=B.now:=rfl;have e2:within n 0 LAST=(decide ((0:Int)<=n)&&decide (n<=200000)):=rfl;rw[e,e2];by_cases a:(B.now:Int)<=n
 ·have:¬n<=200000:=λz=>h ⟨a,z⟩
  simp[this]
 ·simp[a]
theorem Kn (O:Ok B) {n:Int}(h:(B.now:Int)<=n/\n<=200000):step (ak B) (.now n)=(ak {B with now:=n.toNat},{value:=(((bb B.rs.length).filter λr=>decide ((cB B.T r:Int)<=n)).length:Int)}):=by
 rw[step];rw[Zw,Kj O]
 ·rfl
 ·have e:(ak B).now=B.now:=rfl;have e2:within n 0 LAST=(decide ((0:Int)<=n)&&decide (n<=200000)):=rfl;rw[e,e2];have:(0:Int)<=n:=by omega
  simp[h,this]
theorem UM (O:Ok B) {n:Int}(h:(B.now:Int)<=n/\n<=200000):Ok {B with now:=n.toNat}:=by
 refine ⟨O.wt,O.sm,O.nm,O.mo,O.nr,O.ro,O.gk,?_,O.gn,?_⟩
 ·intro e he;obtain ⟨h1,h2,h3,h4⟩:=O.ge e he;refine ⟨h1,h2,?_,h4⟩;show cB B.T e.1.1<=n.toNat;omega
 ·show n.toNat<=200000;omega
noncomputable def jT (z n:Int):Bool:=decide (-900<=z)&&decide (z<=900)&&(decide (-1000<=n)&&decide (n<=201000))
theorem oN (z n:Int):(decide (-900<=z)&&(decide (z<=900)&&(decide (-1000<=n)&&decide (n<=(LAST:Int)+1000))))=jT z n:=by unfold jT;rw[Bool.and_assoc];rfl
noncomputable def jU (rs:List (List Nat)) (r:Nat):List Nat:=(rs[r - 1]?).getD []
theorem UN {z n:Int}(h:jT z n=false):step (ak B) (.see z n)=no (ak B) (-1):=by rw[step];rw[Zx (by rw[oN];exact h)]
theorem UO {z n:Int}(h:jT z n=true) (h2:(B.now:Int)<n - z):step (ak B) (.see z n)=no (ak B) (-4):=by rw[step];rw[Zw (by rw[oN,h];decide)];exact Zx h2
theorem UP (O:Ok B) {z n:Int}(h:jT z n=true) (h2:¬(B.now:Int)<n - z):
  step (ak B) (.see z n)=(ak B,{value:=(((bb B.rs.length).filter λr=>decide ((cB B.T r:Int)<=n - z)).length:Int),rows:=((bb B.rs.length).filter λr=>decide ((cB B.T r:Int)<=n - z)).map λr=>«ints» (r::jU B.rs r)}):=by
 rw[step];rw[Zw (by rw[oN,h];decide)];show (if (B.now:Int)<n - z then _ else _)=_;rw[Zw h2];simp only;rw[show world z n=n - z from rfl,Kj O];congr 2;refine yI λr _a=>?_
 unfold jU;rw[lG];cases B.rs[r - 1]? <;>rfl
theorem UQ {z a b c:Int}(h:¬(1<=z/\z<=(B.rs.length:Int))):step (ak B) (.read z a b c)=no (ak B) (-6):=by rw[step];exact qA h _
theorem UR {k:Nat}{l:List Nat}(h1:1<=k) (h:B.rs[k - 1]? =some l) {a b c:Int}(hc:jT b c=false):step (ak B) (.read k a b c)=no (ak B) (-1):=by rw[step];rw[fP h1 h,Zx (by rw[oN];exact hc)]
theorem US (O:Ok B) {k:Nat}{l:List Nat}(h1:1<=k) (h:B.rs[k - 1]? =some l) {a b c:Int}(hc:jT b c=true) (he:¬((cB B.T k:Int)<=c - b/\c - b<=(B.now:Int))):step (ak B) (.read k a b c)=no (ak B) (-4):=by rw[step];rw[fP h1 h,Zw (by rw[oN,hc];decide),show (ak B).rules=cb B.T from rfl,qv O.wt];refine Zx ?_;show (B.now:Int)<c - b\/c - b<_;omega
theorem UT (O:Ok B) {k:Nat}{l:List Nat}(h1:1<=k) (h:B.rs[k - 1]? =some l) {a b c:Int}(hc:jT b c=true) (he:(cB B.T k:Int)<=c - b/\c - b<=(B.now:Int)) (hp:¬(0<=a/\a<(l.length:Int))):step (ak B) (.read k a b c)=no (ak B) (-6):=by
 rw[step];rw[fP h1 h,Zw (by rw[oN,hc];decide),show (ak B).rules=cb B.T from rfl,qv O.wt];rw[show (ak B).now=B.now from rfl,show world b c=c - b from rfl,Zw (show ¬((B.now:Int)<c - b\/c - b<(cB B.T k:Int)) by omega)];by_cases ha:a<0
 ·simp only[Zx ha]
 ·simp only[Zw ha];rw[yc (show l.length<=a.toNat by omega)]
theorem UU (O:Ok B) {k:Nat}{l:List Nat}(h1:1<=k) (h:B.rs[k - 1]? =some l) {p n:Nat}{b c:Int}{m:Motion}(hc:jT b c=true) (he:(cB B.T k:Int)<=c - b/\c - b<=(B.now:Int)) (hp:l[p]? =some n) (Ko:1<=n) (hm:B.ms[n - 1]? =some m):
  step (ak B) (.read k p b c)=(ak B,{value:=(n:Int),more:= [(m.level:Int)],rows:= [«ints» m.topic,«ints» m.words_]}):=by
 rw[step];rw[fP h1 h,Zw (by rw[oN,hc];decide),show (ak B).rules=cb B.T from rfl,qv O.wt];rw[show (ak B).now=B.now from rfl,show world b c=c - b from rfl,Zw (show ¬((B.now:Int)<c - b\/c - b<(cB B.T k:Int)) by omega)];have Kp:(ak B).motions[n - 1]? =some m:=hm;simp only[Zw (show ¬(p:Int)<0 by omega),zt,hp,T1 Ko Kp,wG Ko,Kp,xW,Option.getD_some]
theorem UW (O:Ok B) {k:Nat}{l:List Nat}(h1:1<=k) (h:B.rs[k - 1]? =some l):step (ak B) (.offered k)=(ak B,{value:=(l.length:Int),more:= [(cB B.T k:Int),((b7 B.rooms k).length:Int)],rows:= [«ints» l]}):=by rw[step];rw[fP h1 h,show (ak B).rules=cb B.T from rfl,qv O.wt];rfl
theorem UX {z:Int}(h:¬(1<=z/\z<=(B.rs.length:Int))):step (ak B) (.offered z)=no (ak B) (-6):=by rw[step];exact qA h _
noncomputable def mR (rs:List (List Nat)) (n:Nat):Nat:=match rs.findIdx? λl=>l.contains n with
 |none=>0
 |some i=>i+1
theorem UY (n:Nat):roundWith (ak B) n=mR B.rs n:=by
 unfold roundWith mR;have e:(ak B).rounds.findIdx? (λr=>r.offered.contains n)=B.rs.findIdx? λl=>l.contains n:=by have:=List.findIdx?_map (f:=λ(x:Round)=>x.offered) (l:=(ak B).rounds) (p:=λl=>l.contains n);rw[tP]at this;rw[this];rfl
 rw[e];cases B.rs.findIdx? λl=>l.contains n<;>rfl
theorem UZ {k:Nat}{m:Motion}(h1:1<=k) (h:B.ms[k - 1]? =some m):step (ak B) (.told k)=(ak B,{value:=(m.level:Int),more:= [if m.struck=true then 1 else 0,(mR B.rs k:Int)],rows:= [«ints» m.topic]}):=by rw[step];rw[wR h1 h,UY];cases m.struck<;>rfl
theorem U0 {z:Int}(h:¬(1<=z/\z<=(B.ms.length:Int))):step (ak B) (.told z)=no (ak B) (-6):=by rw[step];exact wQ h _
theorem Kq {z:Int}(h:¬(1<=z/\z<=9)):step (ak B) (.lot z)=no (ak B) (-1):=by
 rw[step];have e:within z 1 9=(decide ((1:Int)<=z)&&decide (z<=9)):=rfl;have e2:within z 1 9=false:=by
  rw[e];by_cases a:1<=z
  ·have:¬z<=9:=λx=>h ⟨a,x⟩
   simp[this]
  ·simp[a]
 simp[e2]
noncomputable def fj (T:aQ) (n r:Nat):List Nat:=shuffled n (100*aG T .seed+r) (bb n)
theorem Kr (r:Nat):lotOf (ak B) r=fj B.T B.ms.length r:=rfl
theorem Ks:∀(f s:Nat) (l:List Nat),l.length<=f->(shuffled f s l).length=l.length
 |0,s,l,h=>by have:l= []:=List.length_eq_zero_iff.mp ZD;subst this;rfl
 |f+1,s,l,h=>by
  cases hl:l with
  |nil=>rfl
  |cons a r=>
   rw[←hl];have hp:0<l.length:=by rw[hl];simp
   have hk:=wD (nextState s) hp;rw[JR f s l _ (yb hk),yu,Ks f _ _ (by rw[yy,Zx hk];omega),yy,Zx hk];omega
theorem C5 (T:aQ) (n r:Nat):(fj T n r).length=n:=by unfold fj;rw[Ks _ _ _ (by rw[oJ];exact xC _),oJ]
theorem U1 {k:Nat}(h:1<=k/\k<=9):step (ak B) (.lot k)=(ak B,{value:=(B.ms.length:Int),rows:= [«ints» (fj B.T B.ms.length k)]}):=by
 rw[step];have e:within (k:Int) 1 9=true:=by show (decide ((1:Int)<=k)&&decide ((k:Int)<=9))=true;simp;omega
 rw[Zw (by rw[e];decide)];rfl
theorem U2 (O:Ok B):step (ak B) .counts=(ak B,{value:=(B.ms.length:Int),more:= [(iQ B.ms:Int),(B.rs.length:Int),(B.now:Int),(B.rooms.length:Int)]}):=by rw[step];rw[Kh O,fO];rfl
end
noncomputable def tR (T:aQ) (r:Nat) (mo:Motion):Bool:= !mo.struck&&(decide ((iu T r).1<=mo.level)&&decide (mo.level<=(iu T r).2))&&((iO T r).isEmpty||(iO T r).contains mo.topic)
noncomputable def dB (ms:List Motion) (n:Nat):Bytes:=((ms[n - 1]?).map λx=>x.topic).getD []
noncomputable def tS (B:bc) (r:Nat):List Nat:=(B.rs.take (r - 1)).flatten
noncomputable def mS (B:bc) (r:Nat):List Nat:=((B.rs.take (r - 1)).drop (r - 1 - aG B.T .gap)).flatten
noncomputable def iz (B:bc) (r n:Nat):Bool:=match B.ms[n - 1]? with
 |none=>false
 |some mo=>tR B.T r mo&&(!(tS B r).contains n&& !((mS B r).map (dB B.ms)).contains mo.topic)
noncomputable def eJ (B:bc) (r:Nat):List Nat:=(fj B.T B.ms.length r).filter (iz B r)
section
variable {B:bc}
theorem C6 {g:Nat}(h:1<=g):topicOf (ak B) g=dB B.ms g:=by unfold topicOf dB;rw[wG h];rfl
theorem C7 {l:List Nat}(h:∀g∈l,1<=g) (t:Bytes):(l.any λg=>topicOf (ak B) g==t)=(l.map (dB B.ms)).contains t:=by
 induction l with
 |nil=>rfl
 |cons a l ih=>rw[zz,yJ,List.contains_cons,ih λg hg=>h g (yU _ hg),C6 (h a yV)];congr 1;rw[zf,Zm,Zm];exact eq_comm
theorem Ok.flat (O:Ok B) {n:Nat}(h:n∈B.rs.flatten):1<=n/\n<=B.ms.length:=by obtain ⟨l,hl,hn⟩:=List.mem_flatten.mp h;exact (O.ro l hl).2.2 n hn
theorem Kt {j k n:Nat}(h:n∈((B.rs.take k).drop j).flatten):n∈B.rs.flatten:=by obtain ⟨l,hl,hn⟩:=List.mem_flatten.mp h;exact List.mem_flatten.mpr ⟨l,x6 (yZ hl),hn⟩
theorem Ku {j k n:Nat}(h:n∈((B.rs.drop k).take j).flatten):n∈B.rs.flatten:=by obtain ⟨l,hl,hn⟩:=List.mem_flatten.mp h;exact List.mem_flatten.mpr ⟨l,yZ (x6 hl),hn⟩
theorem U3 (O:Ok B) {r n:Nat}(hr:r<=B.rs.length+1) (h1:1<=n):may (ak B) ((ak B).rounds.take (r - 1)) r n=iz B r n:=by
 unfold may iz;rw[wG h1,show (ak B).motions=B.ms from rfl];cases e:B.ms[n - 1]? with
 |none=>rfl
 |some x=>simp only;rw[Uu,Uw,C7 (λg hg=>(O.flat (Kt hg)).1),show min (r - 1) B.rs.length=r - 1 by omega];have p1:=TQ O.wt r;have p2:=TR O.wt r;have e1:(planOf (ak B).rules r).lo=(iu B.T r).1:=Zo Prod.fst p1;have e2:(planOf (ak B).rules r).hi=(iu B.T r).2:=Zo Prod.snd p1;have e3:(planOf (ak B).rules r).topics=iO B.T r:=p2;rw[e1,e2,e3];unfold tR tS mS;cases x.struck<;>cases decide ((iu B.T r).1<=x.level)<;>cases decide (x.level<=(iu B.T r).2)<;>cases ((iO B.T r).isEmpty||(iO B.T r).contains x.topic)<;>simp
theorem wU {T:aQ}{n r x:Nat}(h:x∈fj T n r):1<=x/\x<=n:=CQ.mp (wF _ _ _ _ h)
theorem C8 (O:Ok B) {r:Nat}(hr:r<=B.rs.length+1):(lotOf (ak B) r).filter (may (ak B) ((ak B).rounds.take (r - 1)) r)=eJ B r:=by unfold eJ;rw[Kr];exact zT λn hn=>U3 O hr (wU hn).1
theorem wV {r n:Nat}(h:n∈eJ B r):1<=n/\n<=B.ms.length:=wU (List.mem_filter.mp h).1
theorem C9 (r:Nat):(eJ B r).length<=B.ms.length:=by have:=yz (iz B r) (fj B.T B.ms.length r);rw[C5]at this;exact this
theorem Kv {z:Int}(h:¬(1<=z/\z<=(B.rs.length:Int)+1)):step (ak B) (.may z)=no (ak B) (-6):=by rw[step,fO];refine Zx ?_;unfold within;rw[ze];intro e;simp only[za,Zt]at e;exact h ZD
theorem U4 (O:Ok B) {k:Nat}(h:1<=k/\k<=B.rs.length+1):step (ak B) (.may k)=(ak B,{value:=((eJ B k).length:Int),rows:= [«ints» (eJ B k)]}):=by
 rw[step,fO,Zw]
 ·simp only[zt];rw[C8 O h.2]
 ·unfold within;rw[zk,za,Zt,Zt];omega
noncomputable def gY (B:bc) (bo:List Nat):List Bytes:=if aG B.T .unlike=0 then [] else bo.map (dB B.ms)
noncomputable def mT (B:bc):List Nat->List Nat->List Nat
 | [],bo=>bo
 |m::l,bo=>if bo.length=aG B.T .offer then bo else if (gY B bo).contains (dB B.ms m)=false then mT B l (bo++ [m]) else mT B l bo
theorem Kw {bo:List Nat}{m:Nat}(hg:∀g∈bo,1<=g) (hm:1<=m):((ak B).rules.unlike==0|| !(bo.any λg=>topicOf (ak B) g==topicOf (ak B) m))= !(gY B bo).contains (dB B.ms m):=by
 rw[C7 hg,C6 hm];unfold gY;rw[show (ak B).rules.unlike=aG B.T .unlike from rfl];by_cases h:aG B.T .unlike=0
 ·rw[Zx h,h];rfl
 ·rw[Zw h];have:(aG B.T .unlike==0)=false:=by simpa using h
  rw[this,zj]
theorem Dc:∀(l bo:List Nat),(∀g∈bo,1<=g)->(∀g∈l,1<=g)->pick (ak B) (aG B.T .offer) l bo=mT B l bo
 | [],bo,_,_=>rfl
 |m::l,bo,hg,hl=>by
  have hm:=hl m yV;have kF:∀g∈l,1<=g:=λg z=>hl g (yU _ z)
  unfold pick mT;rw[Kw hg hm,Dc l bo hg kF,Dc l (bo++ [m]) (λg z=>by
   rcases List.mem_append.mp z with z|z
   ·exact hg g z
   ·rw[List.mem_singleton.mp z];exact hm) kF]
  cases (gY B bo).contains (dB B.ms m)<;>rfl
noncomputable def dW (B:bc):List Nat:=mT B (eJ B (B.rs.length+1)) []
theorem wW (O:Ok B):taken (ak B) (ak B).rounds ((ak B).rounds.length+1) (ak B).rules.offer (lotOf (ak B) ((ak B).rounds.length+1)) []=dW B:=by
 rw[oK];have e:(ak B).rounds=(ak B).rounds.take (B.rs.length+1 - 1):=by rw[xo];rw[fO];omega
 rw[fO];have h:=C8 O (r:=B.rs.length+1) (xC _);rw[←e]at h;rw[h,show ([]:List Nat).length+(ak B).rules.offer=aG B.T .offer from xP _,Dc _ _ (λ_a z=>absurd z (by simp)) λg hg=>(wV hg).1];rfl
theorem Kx (O:Ok B):(dW B).length<=aG B.T .offer:=by rw[←wW O,oK];have:=CU (ak B) (([]:List Nat).length+(ak B).rules.offer) ((lotOf (ak B) ((ak B).rounds.length+1)).filter (may (ak B) (ak B).rounds ((ak B).rounds.length+1))) [] (by simp);rw[show ([]:List Nat).length+(ak B).rules.offer=aG B.T .offer from xP _]at this⊢;exact this
theorem U5 (O:Ok B):(dW B).Nodup:=by rw[←wW O,oK];refine CT _ _ _ _ ?_;rw[x9];exact (TZ _ _).sublist List.filter_sublist
theorem U6 (O:Ok B) {n:Nat}(h:n∈dW B):1<=n/\n<=B.ms.length:=by
 rw[←wW O,oK]at h;rcases CS _ _ _ _ _ h with z|z
 ·cases z
 ·exact TY (List.mem_filter.mp z).1
theorem U7 (h:aG B.T .rounds<=B.rs.length):step (ak B) .choose=no (ak B) (-9):=by rw[step,fO];exact Zx h
theorem U8 (O:Ok B):b7 B.rooms (B.rs.length+1)= []:=by
 unfold b7;rw[List.map_eq_nil_iff];refine List.filter_eq_nil_iff.mpr λe he z=>?_
 have e1:e.1.1=B.rs.length+1:=by simpa using z
 obtain ⟨_,_,_,l,h,_⟩:=O.ge e he;have:=(List.getElem?_eq_some_iff.mp h).1;omega
theorem Ky (O:Ok B) (h:¬aG B.T .rounds<=B.rs.length):step (ak B) .choose=if (dW B).length<aG B.T .offer then no (ak B) (-7) else (ak {B with rs:=B.rs++ [dW B]},{value:=(B.rs.length:Int)+1}):=by
 rw[step,Zw (by rw[fO];exact h)];unfold chosen;simp only[wW O];have hl:=Kx O;by_cases h2:(dW B).length<aG B.T .offer
 ·rw[Zx h2,Zw (show ¬(dW B).length=(ak B).rules.offer from λz=>by have:(dW B).length=aG B.T .offer:=z;omega)]
 ·rw[Zw h2,Zx (show (dW B).length=(ak B).rules.offer by show (dW B).length=aG B.T .offer;omega)];simp only[fO];congr 1;unfold ak;simp only[List.mapIdx_append,List.mapIdx_cons,List.mapIdx_nil,xP,U8 O]
theorem U9 (O:Ok B) (h:¬aG B.T .rounds<=B.rs.length) (h2:¬(dW B).length<aG B.T .offer):Ok {B with rs:=B.rs++ [dW B]}:=by
 refine ⟨O.wt,O.sm,O.nm,O.mo,?_,?_,O.gk,?_,O.gn,O.nw⟩
 ·show (B.rs++ [dW B]).length<=aG B.T .rounds;rw[yt,yE];omega
 ·intro l hl;have hl:l∈B.rs++ [dW B]:=hl;rcases List.mem_append.mp hl with z|z
  ·exact O.ro l z
  ·rw[List.mem_singleton.mp z];exact ⟨U5 O,by have:=Kx O;show (dW B).length=aG B.T .offer;omega,λn hn=>U6 O hn⟩
 ·intro e he;obtain ⟨h1,h3,h4,l,h5,h6⟩:=O.ge e he;refine ⟨h1,h3,h4,l,?_,h6⟩;show (B.rs++ [dW B])[e.1.1 - 1]? =some l;rw[y6 (List.getElem?_eq_some_iff.mp h5).1];exact h5
noncomputable def mU (B:bc) (r:Nat):List Nat:=((B.rs.drop r).take (aG B.T .gap)).flatten
noncomputable def kG (B:bc) (r:Nat) (l:List Nat) (m:Nat):List Nat:=(eJ B r).filter λn=> !(B.rs.flatten.contains n)&& !(((mU B r).map (dB B.ms)++gY B (l.filter λn=>n !=m)).contains (dB B.ms n))
theorem Va {α:Type}(p q:α->Bool) (l:List α):(l.filter q).filter p=l.filter λx=>q x&&p x:=by
 rw[List.filter_filter];refine zT λx _a=>?_
 rw[Bool.and_comm]
theorem Vb (a b:List Bytes) (t:Bytes):(a++b).contains t=(a.contains t||b.contains t):=by simp[zf]
theorem Vc (O:Ok B) {k m:Nat}{l:List Nat}(h1:1<=k) (h:B.rs[k - 1]? =some l) (hm:m∈l):instead (ak B) k m=(kG B k l m).head? :=by
 have hk:=(List.getElem?_eq_some_iff.mp h).1;unfold instead kG;rw[lG,h];simp only[xW];rw[JT,←C8 O ZD,Va,Kr];congr 1;refine zT λn hn=>?_
 have gc:=(wU hn).1;have Dd:m∈B.rs.flatten:=List.mem_flatten.mpr ⟨l,yY h,hm⟩;have qD:∀g∈l.filter (λn=>n !=m),1<=g:=λg hg=>((O.ro l (yY h)).2.2 g (List.mem_filter.mp hg).1).1
 rw[Kw qD gc,Uv,Ux,C7 (λg hg=>(O.flat (Ku hg)).1),C6 gc,Vb];unfold mU;by_cases e:n=m
 ·subst e;have:B.rs.flatten.contains n=true:=by simpa using Dd
  rw[this];simp
 ·have e1:(n !=m)=true:=by simpa using e
  rw[e1];cases may (ak B) ((ak B).rounds.take (k - 1)) k n<;>simp
theorem Vd {k m:Nat}{l:List Nat}{n:Nat}(h:n∈kG B k l m):(1<=n/\n<=B.ms.length)/\¬n∈B.rs.flatten:=by
 obtain ⟨h1,h2⟩:=List.mem_filter.mp h;refine ⟨wV h1,λz=>?_⟩;have:B.rs.flatten.contains n=true:=by simpa using z
 rw[this]at h2;simp at h2
theorem Ve {z a:Int}(h:¬(1<=z/\z<=(B.rs.length:Int))):step (ak B) (.appeal z a)=no (ak B) (-6):=by rw[step];exact qA h _
theorem Vf (O:Ok B) {k:Nat}{l:List Nat}(h1:1<=k) (h:B.rs[k - 1]? =some l) {a:Int}(hr:cB B.T k<=B.now):step (ak B) (.appeal k a)=no (ak B) (-4):=by rw[step,fP h1 h,Zx (by rw[mQ O];exact Zs hr)]
theorem Vg (O:Ok B) {k:Nat}{l:List Nat}(h1:1<=k) (h:B.rs[k - 1]? =some l) {a:Int}(hr:¬cB B.T k<=B.now) (ha:¬a∈«ints» l):step (ak B) (.appeal k a)=no (ak B) (-6):=by
 rw[step,fP h1 h,Zw (by rw[mQ O,Zq hr];decide)];refine Zx ?_;by_cases a0:a<0
 ·simp[a0]
 ·have:l.contains a.toNat=false:=by rw[ze];intro z;refine ha ?_;unfold «ints»;refine List.mem_map.mpr ⟨a.toNat,by simpa using z,by omega⟩
  rw[this];simp
theorem Vh (O:Ok B) {k m:Nat}{l:List Nat}(h1:1<=k) (h:B.rs[k - 1]? =some l) (hr:¬cB B.T k<=B.now) (hm:m∈l):
  step (ak B) (.appeal k m)=match kG B k l m with| []=>no (ak B) (-7)|n::_=>(ak {B with rs:=B.rs.set (k - 1) (l.set (l.idxOf m) n)},{value:=0}):=by
 rw[step,fP h1 h,Zw (by rw[mQ O,Zq hr];decide),Zw (by
  have:l.contains m=true:=by simpa using hm
  simp only[zt];rw[this];simp),zt,Vc O h1 h hm]
 cases e:kG B k l m with
 |nil=>rfl
 |cons n r=>
  have hk:=(List.getElem?_eq_some_iff.mp h).1;have oO:b7 B.rooms k= []:=by unfold b7;rw[Uz O hr];rfl
  have eK:=(O.ro l (yY h)).1;simp only[List.head?_cons,oO,yB];have es:(l.map λa=>if a=m then n else a)=l.set (l.idxOf m) n:=by
   apply zP;intro i;rw[yd,yi];by_cases hi:l.idxOf m=i
   ·have cC:i<l.length:=by rw[←hi];exact List.idxOf_lt_length_iff.mpr hm
    rw[Zx hi,Zx (by rw[hi];exact cC),yb cC];have:l[i]=m:=by have q:=ym (List.idxOf_lt_length_iff.mpr hm);simp only[hi]at q;exact q
    simp[this]
   ·rw[Zw hi];cases hx:l[i]? with
    |none=>rfl
    |some x=>
     have Vi:x≠m:=λz=>hi (by subst z;obtain ⟨cC,Vj⟩:=List.getElem?_eq_some_iff.mp hx;rw[←Vj];have q:=ym (List.idxOf_lt_length_iff.mpr (yo cC));exact (yn eK).mp q)
     simp[Vi]
  congr 1;unfold setRound;have er:(ak {B with rs:=B.rs.set (k - 1) (l.set (l.idxOf m) n)})={ak B with rounds:=(ak B).rounds.modify (k - 1) λx=>{offered:=x.offered.map λa=>if a=m then n else a,rooms:= []}}:=by
   unfold ak;congr 1;apply zP;intro i;rw[yf,ye,ye,yi];by_cases hi:k - 1=i
   ·subst hi;rw[Zx rfl,Zx hk,h];simp[es];rw[show k - 1+1=k by omega,oO]
   ·rw[Zw hi];cases B.rs[i]? with
    |none=>rfl
    |some x=>simp[hi]
  rw[er]
theorem Vk (O:Ok B) {k m n:Nat}{l:List Nat}(h1:1<=k) (h:B.rs[k - 1]? =some l) (hr:¬cB B.T k<=B.now) (hn:(1<=n/\n<=B.ms.length)/\¬n∈B.rs.flatten):Ok {B with rs:=B.rs.set (k - 1) (l.set (l.idxOf m) n)}:=by
 have hl:=O.ro l (yY h);have hk:=(List.getElem?_eq_some_iff.mp h).1;refine ⟨O.wt,O.sm,O.nm,O.mo,?_,?_,O.gk,?_,O.gn,O.nw⟩
 ·show (B.rs.set _ _).length<=_;rw[yD];exact O.nr
 ·intro x hx;have hx:x∈B.rs.set (k - 1) (l.set (l.idxOf m) n):=hx;rcases x8 hx with z|z
  ·exact O.ro x z
  ·subst z;have De:¬n∈l:=λz=>hn.2 (List.mem_flatten.mpr ⟨l,yY h,z⟩)
   refine ⟨?_,by rw[yD];exact hl.2.1,λy hy=>?_⟩
   ·rw[xb,xg];intro i j hi hj oP;rw[yD]at hi hj;rw[List.getElem_set,List.getElem_set];by_cases a:l.idxOf m=i
    ·rw[Zx a,Zw ZD];exact λz=>De (z▸yo hj)
    ·rw[Zw a];by_cases b:l.idxOf m=j
     ·rw[Zx b];exact λz=>De (z▸yo hi)
     ·rw[Zw b];have hp:=hl.1;rw[xb,xg]at hp;exact hp i j hi hj oP
   ·rcases x8 hy with z|z
    ·exact hl.2.2 y z
    ·subst z;exact hn.1
 ·intro e he;obtain ⟨a1,a2,a3,l',a4,a5⟩:=O.ge e he;refine ⟨a1,a2,a3,l',?_,a5⟩;show (B.rs.set (k - 1) _)[e.1.1 - 1]? =some l';rw[yi,Zw]
  ·exact a4
  ·intro z;have:e.1.1=k:=by omega
   rw[this]at a3;exact hr a3
theorem Vl (h:B.rs= []):step (ak B) .undo=no (ak B) (-6):=by
 have:(ak B).rounds= []:=by unfold ak;rw[h];rfl
 rw[step,this];rfl
theorem Vm (O:Ok B) (h:B.rs≠ []) (hr:cB B.T B.rs.length<=B.now):step (ak B) .undo=no (ak B) (-4):=by
 rw[step];cases e:(ak B).rounds.getLast? with
 |none=>rw[yp]at e;have:=Zo List.length e;rw[fO]at this;exact absurd (List.length_eq_zero_iff.mp this) h
 |some x=>simp only;rw[fO,mQ O,Zx (Zs hr)]
theorem Kz (O:Ok B) (h:B.rs≠ []) (hr:¬cB B.T B.rs.length<=B.now):step (ak B) .undo=(ak {B with rs:=B.rs.dropLast},{value:=(B.rs.length:Int) - 1}):=by
 rw[step];cases e:(ak B).rounds.getLast? with
 |none=>rw[yp]at e;have:=Zo List.length e;rw[fO]at this;exact absurd (List.length_eq_zero_iff.mp this) h
 |some x=>
  simp only;rw[fO,mQ O,Zq hr,Zw ZE];congr 1;unfold ak;congr 1;apply zP;intro i;rw[ya,ye,ye,ya,List.length_mapIdx];by_cases hi:i<B.rs.length - 1
  ·rw[Zx hi,Zx hi]
  ·rw[Zw hi,Zw hi];rfl
theorem Vn (O:Ok B) (hr:¬cB B.T B.rs.length<=B.now):Ok {B with rs:=B.rs.dropLast}:=by
 refine ⟨O.wt,O.sm,O.nm,O.mo,?_,?_,O.gk,?_,O.gn,O.nw⟩
 ·show B.rs.dropLast.length<=_;rw[yx];have:=O.nr;show _<=aG B.T .rounds;omega
 ·intro l hl;exact O.ro l (List.dropLast_subset _ hl)
 ·intro e he;obtain ⟨a1,a2,a3,l',a4,a5⟩:=O.ge e he;refine ⟨a1,a2,a3,l',?_,a5⟩;show B.rs.dropLast[e.1.1 - 1]? =some l';have cC:=(List.getElem?_eq_some_iff.mp a4).1;rw[ya,Zx]
  ·exact a4
  ·by_cases z:e.1.1=B.rs.length
   ·rw[z]at a3;exact absurd a3 hr
   ·omega
end
noncomputable def bF (R:c9) (k:Nat×Nat):Option Rm:=(R.find? λe=>e.1==k).map λe=>e.2
noncomputable def cM (R:c9) (k:Nat×Nat) (g:Rm->Rm):c9:=match bF R k with
 |some _=>R.map λe=>if e.1=k then (e.1,g e.2) else e
 |none=>R++ [(k,g ⟨[],[],[]⟩)]
theorem KA (r m:Nat):∀R:c9,(b7 R r).find? (λy=>y.number==m)=(bF R (r,m)).map λx=>x.room m
 | []=>rfl
 |e::R=>by
  have ih:=KA r m R;unfold b7 bF at ih⊢;rw[zU,zX];by_cases h1:e.1.1=r
  ·have e1:(e.1.1==r)=true:=Zm.mpr h1;rw[e1,Zx rfl,yJ,zX];have e2:(e.2.room e.1.2).number=e.1.2:=rfl;rw[e2];by_cases h2:e.1.2=m
   ·have e3:(e.1.2==m)=true:=Zm.mpr h2;have e4:(e.1==(r,m))=true:=Zm.mpr (xY h1 h2);rw[e3,e4,h2];rfl
   ·have e3:(e.1.2==m)=false:=beq_eq_false_iff_ne.mpr h2;have e4:(e.1==(r,m))=false:=beq_eq_false_iff_ne.mpr λz=>h2 (Zo Prod.snd z)
    rw[e3,e4];exact ih
  ·have e1:(e.1.1==r)=false:=beq_eq_false_iff_ne.mpr h1;have e4:(e.1==(r,m))=false:=beq_eq_false_iff_ne.mpr λz=>h1 (Zo Prod.fst z)
   rw[e1,e4,Zw ZE];exact ih
theorem kH (R:c9) (l:List Nat) (r m:Nat):roomAt ⟨l,b7 R r⟩ m=(bF R (r,m)).map λx=>x.room m:=KA r m R
theorem mV {R:c9}{k:Nat×Nat}{x:Rm}(h:bF R k=some x):(k,x)∈R:=by
 unfold bF at h;cases e:R.find? (λe=>e.1==k) with
 |none=>rw[e]at h;cases h
 |some y=>rw[e]at h;have h1:y.2=x:=xX h;have h2:y.1=k:=eq_of_beq (zZ (p:=λ(e:(Nat×Nat)×Rm)=>e.1==k) e);have:y=(k,x):=xY h2 h1;subst this;exact yX e
theorem qE {R:c9}{k:Nat×Nat}(h:bF R k=none):∀e∈R,e.1≠k:=by
 unfold bF at h;cases e:R.find? (λe=>e.1==k) with
 |some y=>rw[e]at h;cases h
 |none=>intro x hx z;have:=zY.mp e x hx;simp[z]at this
theorem Vo (R:c9) (k:Nat×Nat) (g:Rm->Rm):(R.map λe=>if e.1=k then (e.1,g e.2) else e).map (λe=>e.1)=R.map λe=>e.1:=by
 rw[yN];refine yI λe _a=>?_
 simp only[zq];split<;>rfl
theorem Vp (r m:Nat) (g:Rm->Rm) (f:Room->Room) (hf:∀x,f (x.room m)=(g x).room m) (R:c9):b7 (R.map λe=>if e.1=(r,m) then (e.1,g e.2) else e) r=(b7 R r).map λy=>if y.number=m then f y else y:=by
 induction R with
 |nil=>rfl
 |cons e R ih=>
  unfold b7 at ih⊢;rw[yJ,zU,zU];by_cases h1:e.1.1=r
  ·have e1:(e.1.1==r)=true:=Zm.mpr h1;by_cases h2:e.1.2=m
   ·have e4:e.1=(r,m):=xY h1 h2;have e5:((if e.1=(r,m) then (e.1,g e.2) else e).1.1==r)=true:=by rw[Zx e4];exact e1
    have e6:(e.2.room e.1.2).number=m:=h2;rw[e5,e1,Zx rfl,Zx rfl,yJ,yJ,yJ,ih,Zx e4,Zx e6];congr 1;show (g e.2).room e.1.2=f (e.2.room e.1.2);rw[h2,hf]
   ·have e4:¬e.1=(r,m):=λz=>h2 (Zo Prod.snd z)
    have e5:((if e.1=(r,m) then (e.1,g e.2) else e).1.1==r)=true:=by rw[Zw e4];exact e1
    have e6:¬(e.2.room e.1.2).number=m:=h2;rw[e5,e1,Zx rfl,Zx rfl,yJ,yJ,yJ,ih,Zw e4,Zw e6]
  ·have e1:(e.1.1==r)=false:=beq_eq_false_iff_ne.mpr h1;have e4:¬e.1=(r,m):=λz=>h1 (Zo Prod.fst z)
   have e5:((if e.1=(r,m) then (e.1,g e.2) else e).1.1==r)=false:=by rw[Zw e4];exact e1
   rw[e5,e1,Zw ZE,Zw ZE];exact ih
theorem Vq (r r' m:Nat) (hr:r'≠r) (g:Rm->Rm) (R:c9):b7 (R.map λe=>if e.1=(r,m) then (e.1,g e.2) else e) r'=b7 R r':=by
 induction R with
 |nil=>rfl
 |cons e R ih=>
  unfold b7 at ih⊢;rw[yJ,zU,zU];by_cases h:e.1=(r,m)
  ·rw[Zx h];have e1:(e.1.1==r')=false:=beq_eq_false_iff_ne.mpr λz=>hr (by rw[←z,h])
   rw[show ((e.1,g e.2).1.1==r')=false from e1,Zw ZE,Zw ZE];exact ih
  ·rw[Zw h];cases (e.1.1==r') with
   |false=>rw[Zw ZE,Zw ZE];exact ih
   |true=>rw[Zx rfl,Zx rfl,yJ,yJ,ih]
theorem Vr (R:c9) (r r' m:Nat) (x:Rm):b7 (R++ [((r,m),x)]) r'=if r=r' then b7 R r'++ [x.room m] else b7 R r':=by
 unfold b7;rw[zS,yH,zU];by_cases h:r=r'
 ·have e:(r==r')=true:=Zm.mpr h;rw[Zx h,show (((r,m),x).1.1==r')=true from e,Zx rfl];rfl
 ·have e:(r==r')=false:=beq_eq_false_iff_ne.mpr h;rw[Zw h,show (((r,m),x).1.1==r')=false from e,Zw ZE];simp
theorem Df (R:c9) (r m r':Nat) (l:List Nat) (g:Rm->Rm) (f:Room->Room) (hf:∀x,f (x.room m)=(g x).room m):b7 (cM R (r,m) g) r'=if r=r' then (setRoom ⟨l,b7 R r⟩ m f).rooms else b7 R r':=by
 unfold cM setRoom;rw[kH];cases e:bF R (r,m) with
 |some x=>
  simp only[xW];by_cases h:r=r'
  ·subst h;rw[Zx rfl,Vp r m g f hf]
  ·rw[Zw h,Vq r r' m (xR h)]
 |none=>
  simp only[xV];rw[Vr];by_cases h:r=r'
  ·subst h;rw[Zx rfl,Zx rfl,←hf];rfl
  ·rw[Zw h,Zw h]
section
variable {B:bc}
theorem KC {k m:Nat}{l:List Nat}(h1:1<=k) (h:B.rs[k - 1]? =some l) (g:Rm->Rm) (f:Room->Room) (hf:∀x,f (x.room m)=(g x).room m):setRound (ak B) k (λx=>setRoom x m f)=ak {B with rooms:=cM B.rooms (k,m) g}:=by
 unfold setRound;unfold ak;congr 1;apply zP;intro i;rw[yf,ye,ye];cases e:B.rs[i]? with
 |none=>rfl
 |some l'=>
  show some _=some _;congr 1;by_cases hi:k - 1=i
  ·subst hi;have:l'=l:=by rw[h]at e;exact (xX e).symm
   subst this;simp only[xW,Zy];rw[Df B.rooms k m (k - 1+1) l' g f hf,Zx ZD];have e2:setRoom ⟨l',b7 B.rooms (k - 1+1)⟩ m f=setRoom ⟨l',b7 B.rooms k⟩ m f:=by rw[show k - 1+1=k by omega]
   rw[e2];have e3:(setRoom ⟨l',b7 B.rooms k⟩ m f).offered=l':=by unfold setRoom;split<;>rfl
   cases e4:setRoom ⟨l',b7 B.rooms k⟩ m f with
   |mk o rr=>rw[e4]at e3;simp only at e3;rw[e3]
  ·simp only[Zw hi];rw[Df B.rooms k m (i+1) l g f hf,Zw ZD]
theorem Dg (R:c9) (k:Nat×Nat) (g:Rm->Rm):bF (cM R k g) k=some (g ((bF R k).getD ⟨[],[],[]⟩)):=by
 unfold cM;cases e:bF R k with
 |some x=>
  simp only[Option.getD_some];induction R with
  |nil=>cases e
  |cons a R ih=>
   unfold bF at e ih⊢;rw[yJ,zX];rw[zX]at e;by_cases h:a.1=k
   ·have e1:(a.1==k)=true:=Zm.mpr h;rw[Zx h,show ((a.1,g a.2).1==k)=true from e1];rw[e1]at e;have:a.2=x:=xX e;rw[←this];rfl
   ·have e1:(a.1==k)=false:=beq_eq_false_iff_ne.mpr h;rw[Zw h,e1];rw[e1]at e;exact ih e
 |none=>
  simp only[xT];unfold bF;rw[zW];have:R.find? (λe=>e.1==k)=none:=zY.mpr λx hx z=>qE e x hx (by simpa using z)
  rw[this];simp
theorem Vs {R:c9}{k:Nat×Nat}{g:Rm->Rm}{e:(Nat×Nat)×Rm}(h:e∈cM R k g):e∈R\/(e.1=k/\e.2=g ((bF R k).getD ⟨[],[],[]⟩)/\True)\/(e.1=k/\∃x,(k,x)∈R/\e.2=g x):=by
 unfold cM at h;cases e1:bF R k with
 |some x=>
  rw[e1]at h;obtain ⟨y,hy,rfl⟩:=List.mem_map.mp h;by_cases hk:y.1=k
  ·rw[Zx hk];exact .inr (.inr ⟨hk,y.2,by rw[←hk];exact hy,rfl⟩)
  ·rw[Zw hk];exact .inl hy
 |none=>
  rw[e1]at h;rcases List.mem_append.mp h with z|z
  ·exact .inl z
  ·rw[List.mem_singleton.mp z];exact .inr (.inl ⟨rfl,rfl,trivial⟩)
set_option tactic.hygienic true in
theorem KD (O:Ok B) {k m:Nat}{l:List Nat}{g:Rm->Rm}(h1:1<=k) (h:B.rs[k - 1]? =some l) (hm:m<=99) (hr:cB B.T k<=B.now) (hn:bF B.rooms (k,m)=none->(b7 B.rooms k).length<30)
  (hg:∀x,qz l (aG B.T .size) x->(bF B.rooms (k,m)=none->x=⟨[],[],[]⟩)->(∀y,bF B.rooms (k,m)=some y->x=y)->qz l (aG B.T .size) (g x)):Ok {B with rooms:=cM B.rooms (k,m) g}:=by
 have Dh:=O.gk;have tT:∀x,((k,m),x)∈B.rooms->∀y,bF B.rooms (k,m)=some y->x=y:=by
  intro x hx y hy;have hy:=mV hy;have hp:=Dh;obtain ⟨i,hi⟩:=yg hx;obtain ⟨j,hj⟩:=yg hy;have ei:(B.rooms.map λe=>e.1)[i]? =some (k,m):=by rw[yd,hi];rfl
  have ej:(B.rooms.map λe=>e.1)[j]? =some (k,m):=by rw[yd,hj];rfl
  obtain ⟨li,ei⟩:=List.getElem?_eq_some_iff.mp ei;obtain ⟨lj,ej⟩:=List.getElem?_eq_some_iff.mp ej;have:i=j:=(yn hp).mp (ei.trans ej.symm);subst this;rw[hi]at hj;exact Zo Prod.snd (xX hj)
 refine ⟨O.wt,O.sm,O.nm,O.mo,O.nr,O.ro,?_,?_,?_,O.nw⟩
 ·show ((cM B.rooms (k,m) g).map λe=>e.1).Nodup;unfold cM;cases e:bF B.rooms (k,m) with
  |some x=>simp only;rw[Vo];exact Dh
  |none=>simp only[yH,yJ,yO];rw[List.nodup_append];refine ⟨Dh,by simp,λa ha b hb=>?_⟩;obtain ⟨x,hx,rfl⟩:=List.mem_map.mp ha;rw[List.mem_singleton.mp hb];exact qE e x hx
 ·intro e he;have he:e∈cM B.rooms (k,m) g:=he;rcases Vs he with z|⟨z1,z2,_⟩|⟨z1,x,hx,z2⟩
  ·exact O.ge e z
  ·have a:e.1.1=k:=by rw[z1]
   have b:e.1.2=m:=by rw[z1]
   rw[a,b,z2];refine ⟨h1,hm,hr,l,h,hg _ ?_ ?_ ?_⟩
   ·cases e1:bF B.rooms (k,m) with
    |none=>exact ⟨.inl rfl,.inl rfl,.inl rfl⟩
    |some y=>
     obtain ⟨_,_,_,l',h',hx⟩:=O.ge _ (mV e1);have:l'=l:=by have qF:B.rs[k - 1]? =some l':=h';rw[h]at qF;exact (xX qF).symm
     subst this;exact hx
   ·intro e1;rw[e1];rfl
   ·intro y e1;rw[e1];rfl
  ·have a:e.1.1=k:=by rw[z1]
   have b:e.1.2=m:=by rw[z1]
   rw[a,b,z2];refine ⟨h1,hm,hr,l,h,hg _ ?_ ?_ ?_⟩
   ·obtain ⟨_,_,_,l',h',hx⟩:=O.ge _ hx;have:l'=l:=by have qF:B.rs[k - 1]? =some l':=h';rw[h]at qF;exact (xX qF).symm
    subst this;exact hx
   ·intro e1;exact absurd rfl (qE e1 _ hx)
   ·exact tT x hx
 ·intro r;show (b7 (cM B.rooms (k,m) g) r).length<=30;rw[Df B.rooms k m r l g (λy=>(g ⟨y.one,y.two,y.result⟩).room m) (λx=>rfl)];split
  ·rename_i Vt;subst Vt;unfold setRoom;rw[kH];cases e:bF B.rooms (k,m) with
   |some x=>simp only[xW,yA];exact O.gn k
   |none=>simp only[xV,yt,yE];have:=hn e;omega
  ·exact O.gn r
end
noncomputable def wo (l:List Nat) (x:Nat):List Nat:=l.filter λn=>n !=x
noncomputable def di (one two:List Nat):List Nat:=
 let a:=if 1<one.length then wo one (one.getLastD 0) else one
 if 1<a.length then wo a (two.getLastD 0) else a
theorem Vu {l:List Nat}(h:l≠ []):l.getLast? =some (l.getLastD 0):=by
 cases e:l.getLast? with
 |none=>exact absurd (yp.mp e) h
 |some x=>rw[List.getLastD_eq_getLast?,e];rfl
theorem KG {l one:List Nat}(h:one≠ []):(l.filter λm=>some m !=one.getLast?)=wo l (one.getLastD 0):=by
 unfold wo;refine zT λm _a=>?_
 rw[Vu h,zf];simp
theorem KH {one two:List Nat}(h1:one≠ []) (h2:two≠ []):left one two=di one two:=by
 unfold left di;simp only[KG h1,KG h2];by_cases a:one.length<2
 ·rw[Zx a,Zx a,Zw (show ¬1<one.length by omega),Zw (show ¬1<one.length by omega)]
 ·rw[Zw a,Zx (show 1<one.length by omega)];by_cases b:(wo one (one.getLastD 0)).length<2
  ·rw[Zx b,Zw (show ¬1<(wo one (one.getLastD 0)).length by omega)]
  ·rw[Zw b,Zx (show 1<(wo one (one.getLastD 0)).length by omega)]
theorem KI {l:List Nat}(hn:l.Nodup) (x:Nat):l.length - 1<=(wo l x).length:=by
 unfold wo;induction l with
 |nil=>simp
 |cons a l ih=>
  rw[xa]at hn;rw[zU];by_cases h:a=x
  ·subst h;have:(a !=a)=false:=by simp
   rw[this,Zw ZE];have e:l.filter (λn=>n !=a)=l:=List.filter_eq_self.mpr λn Di=>by simp only[Zn,ne_eq];intro z;exact hn.1 (z▸Di)
   rw[e];simp
  ·have:(a !=x)=true:=by simpa using h
   rw[this,Zx rfl,yu,yu];have:=ih hn.2;omega
theorem oQ (l:List Nat) (x:Nat):(wo l x).Sublist l:=List.filter_sublist
theorem wX (one two:List Nat):(di one two).Sublist one:=by
 unfold di;simp only;by_cases a:1<one.length
 ·rw[Zx a];split
  ·exact (oQ _ _).trans (oQ _ _)
  ·exact oQ _ _
 ·rw[Zw a];split
  ·exact oQ _ _
  ·exact List.Sublist.refl _
theorem KJ {one:List Nat}(two:List Nat) (h:one≠ []) (hn:one.Nodup):di one two≠ []:=by
 have hp:0<one.length:=List.length_pos_iff.mpr h;unfold di;simp only;by_cases a:1<one.length
 ·rw[Zx a];have h1:=KI hn (one.getLastD 0);by_cases b:1<(wo one (one.getLastD 0)).length
  ·rw[Zx b];have h2:=KI (hn.sublist (oQ one (one.getLastD 0))) (two.getLastD 0);intro z;rw[z,yB]at h2;omega
  ·rw[Zw b];intro z;rw[z,yB]at h1;omega
 ·rw[Zw a,Zw a];exact h
noncomputable def fC (one two:List Nat) (c m:Nat):List Nat:=placesOf one two c m
noncomputable def gG (one two:List Nat) (c:Nat) (l:List Nat):Nat->Nat
 |0=>0
 |k+1=>if lessRow (fC one two c (l.getD (k+1) 0)) (fC one two c (l.getD (gG one two c l k) 0))=true then k+1 else gG one two c l k
theorem KL (one two:List Nat) (c:Nat) (l:List Nat):∀k,k<l.length->gG one two c l k<=k/\(l.take (k+1)).foldl (λ(b:Option Nat) m=>match b with
  |none=>some m
  |some n=>if lessRow (placesOf one two c m) (placesOf one two c n)=true then some m else some n) none=some (l.getD (gG one two c l k) 0)
 |0,h=>by
  refine ⟨xC _,?_⟩;cases l with
  |nil=>simp at h
  |cons a l=>rfl
 |k+1,h=>by
  obtain ⟨ih1,KN⟩:=KL one two c l k ZD;rw[List.take_add_one,yb h,Option.toList_some,List.foldl_append,KN];simp only[y3,List.foldl_nil];have e:l.getD (k+1) 0=l[k+1]:=by rw[y4,yb h];rfl
  have eb:gG one two c l (k+1)=if lessRow (placesOf one two c l[k+1]) (placesOf one two c (l.getD (gG one two c l k) 0))=true then k+1 else gG one two c l k:=by rw[gG,e];rfl
  rw[eb];split
  ·refine ⟨xC _,?_⟩;rw[e]
  ·exact ⟨by omega,rfl⟩
theorem Vv {one two:List Nat}(c:Nat) (h1:one≠ []) (h2:two≠ []) (hn:one.Nodup):debated one two c=some ((di one two).getD (gG one two c (di one two) ((di one two).length - 1)) 0)/\gG one two c (di one two) ((di one two).length - 1)<(di one two).length:=by have hl:0<(di one two).length:=List.length_pos_iff.mpr (KJ two h1 hn);obtain ⟨a,b⟩:=KL one two c (di one two) ((di one two).length - 1) ZD;refine ⟨?_,by omega⟩;unfold debated;rw[KH h1 h2];rw[show (di one two).length - 1+1=(di one two).length by omega,xm]at b;exact b
theorem Vw {one two:List Nat}{c m n:Nat}(hc:c<2) (m1:m∈one) (n1:n∈one) (m2:m∈two) (n2:n∈two) (h:fC one two c m=fC one two c n):m=n:=by
 have idx:∀l:List Nat,m∈l->n∈l->l.idxOf m=l.idxOf n->m=n:=λl hm hn e=>by have a:=ym (List.idxOf_lt_length_iff.mpr hm);have b:=ym (List.idxOf_lt_length_iff.mpr hn);rw[←a,←b];simp only[e]
 unfold fC placesOf at h;simp only[List.cons.injEq,and_true]at h;by_cases z:c=0
 ·rw[Zx z,Zx z]at h;exact idx one m1 n1 h.2.2
 ·rw[Zw z,Zw z]at h;exact idx two m2 n2 h.2.2
noncomputable def mW (B:bc) (r m:Nat) (x:Rm):Nat:=(di x.one x.two).getD (gG x.one x.two (coin (ak B) r m) (di x.one x.two) ((di x.one x.two).length - 1)) 0
section
variable {B:bc}
theorem Vx (h:House) (r m:Nat):coin h r m<2:=wD _ ZE
noncomputable def fk (x:Rm):Bool:= !x.one.isEmpty&& !x.two.isEmpty
theorem oR {r m:Nat}{x:Rm}(hn:x.one.Nodup):decided (ak B) r (x.room m)=if fk x=true then some (mW B r m x) else none:=by
 unfold decided fk;show (if (x.one.isEmpty||x.two.isEmpty)=true then none else debated x.one x.two (coin (ak B) r m))=_;cases e1:x.one with
 |nil=>rfl
 |cons a r1=>
  cases e2:x.two with
  |nil=>rfl
  |cons b r2=>rw[Zw (by simp),Zx (by simp)];have:=(Vv (one:=x.one) (two:=x.two) (coin (ak B) r m) (by rw[e1];simp) (by rw[e2];simp) hn).1;rw[←e1,←e2,this];rfl
theorem qz.nd {l:List Nat}{s:Nat}{x:Rm}(h:qz l s x) (hl:l.Nodup):x.one.Nodup/\x.two.Nodup:=by
 constructor
 ·rcases h.one with z|z
  ·rw[z];simp
  ·exact z.nodup_iff.mpr hl
 ·rcases h.two with z|z
  ·rw[z];simp
  ·exact z.nodup_iff.mpr hl
theorem Ok.room (O:Ok B) {k m:Nat}{x:Rm}(h:bF B.rooms (k,m)=some x):1<=k/\m<=99/\∃l,B.rs[k - 1]? =some l/\l.Nodup/\qz l (aG B.T .size) x:=by obtain ⟨h1,h2,_,l,h3,h4⟩:=O.ge _ (mV h);exact ⟨h1,h2,l,h3,(O.ro l (yY h3)).1,h4⟩
theorem Vy {z a:Int}(h:¬(1<=z/\z<=(B.rs.length:Int))):step (ak B) (.debate z a)=no (ak B) (-6):=by rw[step];exact qA h _
noncomputable def gZ (R:c9) (k:Nat) (a:Int):Option Rm:=if a<0 then none else bF R (k,a.toNat)
theorem Vz {k:Nat}{l:List Nat}(h1:1<=k) (h:B.rs[k - 1]? =some l) {a:Int}(hz:gZ B.rooms k a=none):step (ak B) (.debate k a)=no (ak B) (-6):=by
 rw[step,fP h1 h,kH];unfold gZ at hz;by_cases ha:a<0
 ·simp only[Zx ha]
 ·rw[Zw ha]at hz;simp only[Zw ha,hz,xV]
theorem VA {R:c9}{k:Nat}{a:Int}{x:Rm}(h:gZ R k a=some x):∃m:Nat,a=m/\bF R (k,m)=some x:=by
 unfold gZ at h;by_cases ha:a<0
 ·rw[Zx ha]at h;cases h
 ·rw[Zw ha]at h;exact ⟨a.toNat,by omega,h⟩
theorem KO (O:Ok B) {k m:Nat}{l:List Nat}{x:Rm}(h1:1<=k) (h:B.rs[k - 1]? =some l) (hx:bF B.rooms (k,m)=some x):
  step (ak B) (.debate k m)=if fk x=true then (ak B,{value:=(mW B k m x:Int),more:= [(coin (ak B) k m:Int)],rows:= [«ints» (di x.one x.two)]}) else no (ak B) (-5):=by
 obtain ⟨_,_,l',kF,eK,aO⟩:=O.room hx;rw[step,fP h1 h,kH];simp only[Zw (show ¬(m:Int)<0 by omega),zt,hx,xW];rw[oR (aO.nd eK).1];cases e:fk x with
 |false=>rfl
 |true=>simp only[Zy];unfold fk at e;simp only[za,zm,yq]at e;rw[show (x.room m).one=x.one from rfl,show (x.room m).two=x.two from rfl,KH e.1 e.2];rfl
theorem tU:∀l:List Nat,once l=true ↔ l.Nodup
 | []=>by simp[once]
 |a::r=>by rw[once,za,tU r,xa];simp
noncomputable def g7 (n:Nat):List Int:=«ints» (List.range n)
theorem Dj (l:List Int) (h:∀z∈l,0<=z):«ints» (l.map Int.toNat)=l:=by
 unfold «ints»;rw[yN];have:∀z∈l,((λ(n:Nat)=>(n:Int))∘Int.toNat) z=z:=λz hz=>by have:=h z hz;simp only[zq];omega
 rw[yI this,yL]
theorem wY (l:List Nat):(«ints» l).map Int.toNat=l:=by
 unfold «ints»;rw[yN];have:(Int.toNat∘λ(n:Nat)=>(n:Int))=id:=by funext n;simp
 rw[this,List.map_id]
theorem Dk:∀{l m:List Nat},l.Nodup->(∀x∈l,x∈m)->l.length=m.length->m.Nodup->l.Perm m
 | [],m,_,_,bW,_=>by have:m= []:=List.length_eq_zero_iff.mp bW.symm;subst this;exact zu _
 |a::l,m,hl,hs,bW,hm=>by
  rw[xa]at hl;have ha:=hs a yV;refine List.Perm.trans (List.Perm.cons a (Dk (m:=m.erase a) hl.2 (λx hx=>?_) ?_ (hm.sublist List.erase_sublist))) (List.perm_cons_erase ha).symm
  ·have bQ:x≠a:=λz=>hl.1 (z▸hx)
   exact (List.mem_erase_of_ne bQ).mpr (hs x (yU _ hx))
  ·rw[List.length_erase_of_mem ha];rw[yu]at bW;omega
theorem KP (n:Nat) (l:List Int):(l.length==n&&(once (l.map Int.toNat)&&l.all λz=>within z 0 (n - 1)))=true ↔ l.Perm (g7 n):=by
 constructor
 ·intro h;simp only[za,Zm]at h;obtain ⟨h1,h2,h3⟩:=h;have h3:=zx.mp h3;have hz:∀z∈l,0<=z/\z<=((n - 1:Nat):Int):=λz hz=>by have:=h3 z hz;unfold within at this;simp only[za,Zt]at this;omega
  have hb:=Dj l λz hx=>(hz z hx).1
  rw[←hb];refine List.Perm.map _ (Dk ((tU _).mp h2) (λx hx=>?_) (by simp[h1]) List.nodup_range);obtain ⟨z,KQ,rfl⟩:=List.mem_map.mp hx;rw[List.mem_range];have:=hz z KQ;have:0<l.length:=List.length_pos_of_mem KQ;omega
 ·intro h;have hl:=h.length_eq;have iA:∀z∈l,∃k:Nat,k<n/\z=k:=λz hz=>by have:=h.mem_iff.mp hz;unfold g7 «ints» at this;obtain ⟨k,hk,rfl⟩:=List.mem_map.mp this;exact ⟨k,List.mem_range.mp hk,rfl⟩
  have hb:=Dj l λz hz=>by obtain ⟨k,_,rfl⟩:=iA z hz;omega
  simp only[za,Zm];refine ⟨?_,(tU _).mpr ?_,zx.mpr λz hz=>?_⟩
  ·rw[hl];unfold g7;rw[bR,yC]
  ·have hp:=h.map Int.toNat;unfold g7 at hp;rw[wY]at hp;exact hp.nodup_iff.mpr List.nodup_range
  ·obtain ⟨k,hk,rfl⟩:=iA z hz;unfold within;simp only[za,Zt];omega
theorem KR {x l:List Nat}(hx:x.Nodup) {o:List Int}(ho:dh 0 99 o=true):(o.length==x.length&&(once (o.map Int.toNat)&&o.all λz=>x.contains z.toNat))=true ↔ o.Perm («ints» x):=by
 have hb:=qC ho ZE;constructor
 ·intro h;simp only[za,Zm]at h;obtain ⟨h1,h2,h3⟩:=h;have h3:=zx.mp h3;rw[←hb];refine List.Perm.map _ (Dk ((tU _).mp h2) (λy hy=>?_) (by simp[h1]) hx);obtain ⟨z,hz,rfl⟩:=List.mem_map.mp hy;simpa using h3 z hz
 ·intro h;have hl:=h.length_eq;rw[bR]at hl;have hp:=h.map Int.toNat;rw[wY]at hp;simp only[za,Zm];refine ⟨hl,(tU _).mpr (hp.nodup_iff.mpr hx),zx.mpr λz hz=>?_⟩;have:=hp.mem_iff.mp (List.mem_map.mpr ⟨z,hz,rfl⟩);simpa using this
theorem VB {z a:Int}{p:List Int}(h:¬(1<=z/\z<=(B.rs.length:Int))):step (ak B) (.result z a p)=no (ak B) (-6):=by rw[step];exact qA h _
theorem VC {k:Nat}{l:List Nat}(h1:1<=k) (h:B.rs[k - 1]? =some l) {a:Int}{p:List Int}(hz:gZ B.rooms k a=none):step (ak B) (.result k a p)=no (ak B) (-6):=by
 rw[step,fP h1 h,kH];unfold gZ at hz;by_cases ha:a<0
 ·simp only[Zx ha]
 ·rw[Zw ha]at hz;simp only[Zw ha,hz,xV]
theorem VD (O:Ok B) {k m:Nat}{l:List Nat}{x:Rm}{p:List Int}(h1:1<=k) (h:B.rs[k - 1]? =some l) (hx:bF B.rooms (k,m)=some x) (hb:fk x=false):step (ak B) (.result k m p)=no (ak B) (-5):=by obtain ⟨_,_,l',kF,eK,aO⟩:=O.room hx;rw[step,fP h1 h,kH];simp only[Zw (show ¬(m:Int)<0 by omega),zt,hx,xW];rw[oR (aO.nd eK).1,hb];rfl
theorem VE (O:Ok B) {k m:Nat}{l:List Nat}{x:Rm}{p:List Int}(h1:1<=k) (h:B.rs[k - 1]? =some l) (hx:bF B.rooms (k,m)=some x) (hb:fk x=true) (hp:¬p.Perm (g7 (aG B.T .size))):step (ak B) (.result k m p)=no (ak B) (-1):=by obtain ⟨_,_,l',kF,eK,aO⟩:=O.room hx;rw[step,fP h1 h,kH];simp only[Zw (show ¬(m:Int)<0 by omega),zt,hx,xW];rw[oR (aO.nd eK).1,hb,Zw (by simp),Zx];rw[ze];exact λz=>hp ((KP _ _).mp z)
theorem VF (O:Ok B) {k m:Nat}{l:List Nat}{x:Rm}{p:List Int}(h1:1<=k) (h:B.rs[k - 1]? =some l) (hx:bF B.rooms (k,m)=some x) (hb:fk x=true) (hp:p.Perm (g7 (aG B.T .size))):
  step (ak B) (.result k m p)=(ak {B with rooms:=cM B.rooms (k,m) λy=>{y with result:=p.map Int.toNat}},{value:=(firstHalf (aG B.T .size) (p.map Int.toNat):Int)}):=by
 obtain ⟨_,_,l',kF,eK,aO⟩:=O.room hx;rw[step,fP h1 h,kH];simp only[Zw (show ¬(m:Int)<0 by omega),zt,hx,xW];rw[oR (aO.nd eK).1,hb,Zw (by simp),Zw]
 ·rw[KC h1 h (λy=>{y with result:=p.map Int.toNat}) _ λx=>rfl];rfl
 ·rw[zk];exact (KP _ _).mpr hp
theorem VG (O:Ok B) {k m:Nat}{x:Rm}{p:List Int}(hx:bF B.rooms (k,m)=some x) (hb:fk x=true) (hp:p.Perm (g7 (aG B.T .size))):Ok {B with rooms:=cM B.rooms (k,m) λy=>{y with result:=p.map Int.toNat}}:=by
 obtain ⟨h1,h2,l',kF,eK,aO⟩:=O.room hx;have hr:=(O.ge _ (mV hx)).2.2.1;refine KD O h1 kF h2 hr (λz=>by rw[hx]at z;cases z) λy hy _a Dl=>?_
 have:=Dl x hx;subst this;unfold fk at hb;simp only[za,zm,yq]at hb;refine ⟨hy.one,hy.two,.inr ⟨?_,hb.1,hb.2⟩⟩;have q:=hp.map Int.toNat;unfold g7 at q;rw[wY]at q;exact q
noncomputable def dI (s:Int) (o:List Nat) (y:Rm):Rm:=if s=0 then {y with one:=o} else {y with two:=o}
theorem VH {z a s:Int}{o:List Int}(h:¬(1<=z/\z<=(B.rs.length:Int))):step (ak B) (.order z a s o)=no (ak B) (-6):=by rw[step];exact qA h _
noncomputable def iR (a s:Int) (o:List Int):Bool:=decide (0<=a)&&decide (a<=99)&&(decide (0<=s)&&decide (s<=1))&&(decide (o.length<=5)&&dh 0 99 o)
theorem wZ (a s:Int) (o:List Int):(within a 0 99&&(within s 0 1&&(decide (o.length<=5)&&o.all λz=>within z 0 99)))=iR a s o:=by unfold iR;rw[Bool.and_assoc];rfl
theorem VI {k:Nat}{l:List Nat}(h1:1<=k) (h:B.rs[k - 1]? =some l) {a s:Int}{o:List Int}(ho:iR a s o=false):step (ak B) (.order k a s o)=no (ak B) (-1):=by rw[step,fP h1 h,Zx (by rw[wZ];exact ho)]
theorem VJ (O:Ok B) {k:Nat}{l:List Nat}(h1:1<=k) (h:B.rs[k - 1]? =some l) {a s:Int}{o:List Int}(ho:iR a s o=true) (hr:¬cB B.T k<=B.now):step (ak B) (.order k a s o)=no (ak B) (-4):=by rw[step,fP h1 h,Zw (by rw[wZ,ho];decide),Zx (by rw[mQ O];exact Zq hr)]
theorem Dm {a s:Int}{o:List Int}(h:iR a s o=true):dh 0 99 o=true:=by unfold iR at h;simp only[za]at h;exact h.2.2
theorem VL (O:Ok B) {k:Nat}{l:List Nat}(h1:1<=k) (h:B.rs[k - 1]? =some l) {a s:Int}{o:List Int}(ho:iR a s o=true) (hr:cB B.T k<=B.now) (hp:¬o.Perm («ints» l)):step (ak B) (.order k a s o)=no (ak B) (-7):=by rw[step,fP h1 h,Zw (by rw[wZ,ho];decide),Zw (by rw[mQ O,Zs hr];decide),Zx];rw[ze];exact λz=>hp ((KR (l:= []) (O.ro l (yY h)).1 (Dm ho)).mp z)
theorem KS (O:Ok B) {k m:Nat}{l:List Nat}(h1:1<=k) (h:B.rs[k - 1]? =some l) {s:Int}{o:List Int}(ho:iR m s o=true) (hr:cB B.T k<=B.now) (hp:o.Perm («ints» l)):
  step (ak B) (.order k m s o)=if bF B.rooms (k,m)=none/\30<=(b7 B.rooms k).length then no (ak B) (-9)
   else if ((bF B.rooms (k,m)).any λy=> !y.result.isEmpty)=true then no (ak B) (-5)
   else (ak {B with rooms:=cM B.rooms (k,m) (dI s (o.map Int.toNat))},{value:=(((bF (cM B.rooms (k,m) (dI s (o.map Int.toNat))) (k,m)).bind λx=>decided (ak {B with rooms:=cM B.rooms (k,m) (dI s (o.map Int.toNat))}) k (x.room m)).getD 0:Int)}):=by
 rw[step,fP h1 h,Zw (by rw[wZ,ho];decide),Zw (by rw[mQ O,Zs hr];decide),Zw (by rw[zk];exact (KR (l:= []) (O.ro l (yY h)).1 (Dm ho)).mpr hp)];simp only[zt,kH];have e1:(decide (30<=(b7 B.rooms k).length)&&((bF B.rooms (k,m)).map λx=>x.room m).isNone)=decide (bF B.rooms (k,m)=none/\30<=(b7 B.rooms k).length):=by rw[zf];cases bF B.rooms (k,m)<;>simp
 rw[e1];by_cases c1:bF B.rooms (k,m)=none/\30<=(b7 B.rooms k).length
 ·rw[Zx (Zs c1),Zx c1]
 ·rw[Zw (by rw[Zq c1];decide),Zw c1];have e2:(((bF B.rooms (k,m)).map λx=>x.room m).any λy=> !y.result.isEmpty)=(bF B.rooms (k,m)).any λy=> !y.result.isEmpty:=by cases bF B.rooms (k,m)<;>rfl
  rw[e2];split
  ·rfl
  ·have hg:setRound (ak B) k (λx=>setRoom x m λy=>if s=0 then {y with one:=o.map Int.toNat} else {y with two:=o.map Int.toNat})=ak {B with rooms:=cM B.rooms (k,m) (dI s (o.map Int.toNat))}:=by
    refine KC h1 h (dI s (o.map Int.toNat)) _ λx=>?_
    unfold dI;split<;>rfl
   rw[hg];congr 2;rw[lG,show ({B with rooms:=cM B.rooms (k,m) (dI s (o.map Int.toNat))}:bc).rs=B.rs from rfl,h];simp only[xW,xS];rw[show k - 1+1=k by omega,kH];cases bF (cM B.rooms (k,m) (dI s (o.map Int.toNat))) (k,m) with
   |none=>rfl
   |some x=>simp only[xW,xS]
theorem VM (O:Ok B) {k m:Nat}{l:List Nat}(h1:1<=k) (h:B.rs[k - 1]? =some l) {s:Int}{o:List Int}(hm:m<=99) (hr:cB B.T k<=B.now) (hp:o.Perm («ints» l)) (hf:¬(bF B.rooms (k,m)=none/\30<=(b7 B.rooms k).length)) (hd:((bF B.rooms (k,m)).any λy=> !y.result.isEmpty)=false):
  Ok {B with rooms:=cM B.rooms (k,m) (dI s (o.map Int.toNat))}:=by
 have q:=hp.map Int.toNat;rw[wY]at q;refine KD O h1 h hm hr (λz=>?_) λx hx h0 hy=>?_
 ·exact Nat.lt_of_not_le λz2=>hf ⟨z,z2⟩
 ·have tV:x.result= []:=by
   cases e:bF B.rooms (k,m) with
   |none=>rw[h0 e]
   |some y=>rw[e]at hd;rw[hy y e];simpa using hd
  unfold dI;split
  ·exact ⟨.inr q,hx.two,.inl tV⟩
  ·exact ⟨hx.one,.inr q,.inl tV⟩
end
noncomputable def S (n:Nat) (f:Nat->Nat):Nat:=total ((List.range n).map f)
theorem w8 (f:Nat->Nat):S 0 f=0:=rfl
theorem fD (n:Nat) (f:Nat->Nat):S (n+1) f=S n f+f n:=by unfold S;rw[xi,yH,Kf];show _+(f n+0)=_;omega
theorem kI {n:Nat}{f g:Nat->Nat}(h:∀i,i<n->f i=g i):S n f=S n g:=by unfold S;congr 1;exact yI λi hi=>h i (List.mem_range.mp hi)
theorem KU (n:Nat) (f:Nat->Nat):S (n+1) f=f 0+S n λi=>f (i+1):=by
 induction n with
 |zero=>rw[fD,w8,w8];omega
 |succ n ih=>rw[fD,ih,fD];omega
theorem KW:∀(n:Nat) (f:Nat->Nat),S (n+1) f=S (n+1) λi=>f (n - i)
 |0,f=>rfl
 |n+1,f=>by
  rw[fD,KW n f,KU (n+1) λi=>f (n+1 - i)];have:S (n+1) (λi=>f (n+1 - (i+1)))=S (n+1) λi=>f (n - i):=kI λi _a=>by rw[show n+1 - (i+1)=n - i by omega]
  rw[this];show _+f (n+1)=f (n+1)+_;omega
theorem lH {n:Nat}{f:Nat->Nat}:∀{m:Nat},n<=m->(∀i,n<=i->i<m->f i=0)->S m f=S n f
 |0,h,_=>by
  have:n=0:=by omega
  rw[this]
 |m+1,h,hz=>by
  by_cases e:n=m+1
  ·rw[e]
  ·rw[fD,lH (m:=m) ZD (λi h1 h2=>hz i h1 ZD),hz m ZD ZD];rfl
theorem VN (n:Nat) (f g:Nat->Nat):S n (λi=>f i+g i)=S n f+S n g:=by
 induction n with
 |zero=>rfl
 |succ n ih=>rw[fD,ih,fD,fD];omega
theorem KY (n c:Nat) (f:Nat->Nat):S n (λi=>c*f i)=c*S n f:=by
 induction n with
 |zero=>rfl
 |succ n ih=>rw[fD,ih,fD,Nat.mul_add]
theorem Dn (n:Nat):S n (λ_a=>0)=0:=by
 induction n with
 |zero=>rfl
 |succ n ih=>rw[fD,ih]
theorem VO (n m:Nat) (f:Nat->Nat->Nat):S n (λi=>S m (f i))=S m λj=>S n λi=>f i j:=by
 induction n with
 |zero=>exact (Dn m).symm
 |succ n ih=>rw[fD,ih,←VN];exact kI λj _a=>by rw[fD]
theorem KZ {n:Nat}{f g:Nat->Nat}(h:∀i,i<n->f i<=g i):S n f<=S n g:=by
 induction n with
 |zero=>exact xC _
 |succ n ih=>
  rw[fD,fD];have:=ih λi hi=>h i ZD
  have:=h n ZD;omega
theorem K0:∀(x n:Nat) (g:Nat->Nat),S (x+n) (λk=>if x<=k then g (k - x) else 0)=S n g
 |x,0,g=>by rw[w8,lH (n:=0) (xQ _) λi _a h=>by rw[Zw ZD]];rfl
 |x,n+1,g=>by rw[show x+(n+1)=(x+n)+1 from rfl,fD,K0 x n g,fD,Zx ZD,show x+n - x=n by omega]
theorem tW (l:List Nat):total l=S l.length λi=>l.getD i 0:=by
 induction l with
 |nil=>rfl
 |cons a l ih=>rw[yu,KU];show a+total l=_;rw[ih];rfl
theorem jg {l:List Nat}{i:Nat}(h:l.length<=i):l.getD i 0=0:=by rw[y4,yc h];rfl
theorem tX (l:List Nat) (p:Nat->Bool) (f:Nat->Nat):total ((l.filter p).map f)=total (l.map λx=>if p x=true then f x else 0):=by
 induction l with
 |nil=>rfl
 |cons a l ih=>
  rw[zU,yJ];show _=(if p a=true then f a else 0)+total (l.map λx=>if p x=true then f x else 0);cases e:p a with
  |true=>simp only[Zy];show f a+total ((l.filter p).map f)=_;rw[ih]
  |false=>simpa using ih
theorem K1 (l:List Nat):l.zipIdx=(List.range l.length).map λi=>(l.getD i 0,i):=by
 apply zP;intro i;rw[yl,yd];by_cases h:i<l.length
 ·rw[yb h,yh h];simp[y4,h]
 ·rw[yc ZD,yc (by rw[yC];omega)];rfl
noncomputable def fQ (l:List Nat):Nat:=total (((List.range l.length).filter λp=>decide (l.getD p 0<l.length/2)).map λp=>l.length - 1 - p)
theorem K2 {size:Nat}{l:List Nat}(h:l.length=size):firstHalf size l=fQ l:=by
 unfold firstHalf fQ;rw[K1,yN,tX,h];congr 1;refine yI λi _a=>?_
 simp only[zq,Zt]
theorem VP {l:List Nat}(h:l.length=2\/l.length=4):fQ l<=l.length*(l.length - 1)/2:=by
 have e:fQ l=S l.length λp=>if decide (l.getD p 0<l.length/2)=true then l.length - 1 - p else 0:=by unfold fQ S;rw[tX]
 rw[e];refine xE (KZ (g:=λp=>l.length - 1 - p) λi _a=>by split<;>omega) ?_;rcases h with h|h<;>rw[h]<;>decide
noncomputable def iS (size:Nat):List Nat:=if size=2 then [1,1] else [0,4,4,8,4,4,0]
noncomputable def conv (a b:List Nat):List Nat:=(List.range (a.length+b.length - 1)).map λk=>S a.length λx=>if x<=k then a.getD x 0*b.getD (k - x) 0 else 0
noncomputable def wB (size:Nat):Nat->List Nat
 |0=> [1]
 |n+1=>conv (wB size n) (iS size)
theorem K3 (a b:List Nat):(conv a b).length=a.length+b.length - 1:=by simp[conv]
theorem K4 (n:Nat) (f:Nat->Nat) (k:Nat):((List.range n).map f).getD k 0=if k<n then f k else 0:=by
 rw[y4,yd];by_cases h:k<n
 ·rw[Zx h,yh h];rfl
 ·rw[Zw h,yc (by rw[yC];omega)];rfl
theorem VQ (a b:List Nat) (ha:0<a.length) (hb:0<b.length) (k:Nat):(conv a b).getD k 0=S (k+1) λi=>a.getD i 0*b.getD (k - i) 0:=by
 unfold conv
 rw[K4];have h1:S a.length (λx=>if x<=k then a.getD x 0*b.getD (k - x) 0 else 0)=S (a.length+k+1) λx=>if x<=k then a.getD x 0*b.getD (k - x) 0 else 0:=
  (lH ZD λi h _a=>by rw[jg h];simp).symm
 have h2:S (k+1) (λi=>a.getD i 0*b.getD (k - i) 0)=S (a.length+k+1) λx=>if x<=k then a.getD x 0*b.getD (k - x) 0 else 0:=by rw[lH (n:=k+1) (m:=a.length+k+1) ZD λi h _a=>by rw[Zw ZD]];exact kI λi hi=>by rw[Zx ZD]
 by_cases hk:k<a.length+b.length - 1
 ·rw[Zx hk,h1,h2]
 ·rw[Zw hk,h2];refine ((kI λi _a=>?_).trans (Dn _)).symm;by_cases hi:i<a.length
  ·rw[Zx ZD,jg (l:=b) ZD];rfl
  ·rw[jg (l:=a) ZD];simp
theorem VR (a b:List Nat) (ha:0<a.length) (hb:0<b.length) (k:Nat):(times a b).getD k 0=S (k+1) λi=>a.getD i 0*b.getD (k - i) 0:=by
 unfold times;rw[K4];by_cases hk:k<a.length+b.length - 1
 ·rw[Zx hk];rfl
 ·rw[Zw hk];refine ((kI λi _a=>?_).trans (Dn _)).symm;by_cases hi:i<a.length
  ·rw[jg (l:=b) ZD];rfl
  ·rw[jg (l:=a) ZD];simp
theorem VS (size k:Nat):(iS size).getD k 0=(waysOf size).getD k 0:=by
 unfold iS waysOf;split
 ·rfl
 ·match k with
  |0|1|2|3|4|5=>rfl
  |6=>rfl
  |k+7=>rfl
theorem oS (size:Nat):0<(iS size).length/\0<(waysOf size).length:=by unfold iS waysOf;split<;>exact ⟨by decide,by decide⟩
theorem qG (size:Nat):∀n,0<(wB size n).length/\0<(waysAll size n).length
 |0=>⟨Nat.zero_lt_one,Nat.zero_lt_one⟩
 |n+1=>by
  have ih:=qG size n;have h:=oS size;refine ⟨?_,?_⟩
  ·rw[wB,K3];omega
  ·rw[waysAll];unfold times;rw[yA,yC];omega
theorem Aa (size:Nat):∀n k,(wB size n).getD k 0=(waysAll size n).getD k 0
 |0,k=>rfl
 |n+1,k=>by
  rw[wB,waysAll,VQ _ _ (qG size n).1 (oS size).1,VR _ _ (oS size).2 (qG size n).2,KW];refine kI λi hi=>?_
  rw[Aa size n,show k - (k - i)=i by omega,VS,xK]
noncomputable def gf (size:Nat):Nat:=(iS size).length - 1
theorem Ab (size:Nat):∀n,(wB size n).length=n*gf size+1
 |0=>by simp[wB]
 |n+1=>by have h:=(oS size).1;rw[wB,K3,Ab size n,xO];unfold gf;omega
theorem VT (a b:List Nat) (ha:0<a.length) (hb:0<b.length):total (conv a b)=total a*total b:=by
 unfold conv
 show S (a.length+b.length - 1) (λk=>S a.length λx=>if x<=k then a.getD x 0*b.getD (k - x) 0 else 0)=_;rw[VO];have:S a.length (λj=>S (a.length+b.length - 1) λi=>if j<=i then a.getD j 0*b.getD (i - j) 0 else 0)=S a.length λj=>total b*a.getD j 0:=by
  refine kI λj hj=>?_
  have e:=K0 j (a.length+b.length - 1 - j) λi=>a.getD j 0*b.getD i 0
  rw[show j+(a.length+b.length - 1 - j)=a.length+b.length - 1 by omega]at e;rw[e,KY,xK];congr 1;rw[tW,lH (n:=b.length) ZD λi h _a=>jg h]
 rw[this,KY,tW a,xK]
theorem K5 (size:Nat):∀n,total (wB size n)=total (iS size)^n
 |0=>rfl
 |n+1=>by rw[wB,VT _ _ (qG size n).1 (oS size).1,K5 size n,Nat.pow_succ]
theorem VU (size:Nat):total (iS size)<=24/\0<total (iS size):=by unfold iS;split<;>exact ⟨by decide,by decide⟩
theorem K6 {n:Nat}(size:Nat) (h:n<=300):total (wB size n)<10^500:=by rw[K5];have h1:total (iS size)^n<=24^n:=Nat.pow_le_pow_left (VU size).1 n;have h2:24^n<=24^300:=Nat.pow_le_pow_right ZE h;exact xG (xE h1 h2) (by decide +kernel)
noncomputable def fo (w:List Nat) (a:Nat):Nat:=(2*(a:Int) - ((w.length:Int) - 1)).natAbs
theorem tY {size:Nat}(h:size=2\/size=4):inRoom size=gf size:=by rcases h with h|h<;>subst h<;>rfl
theorem Dq {size n:Nat}(h:size=2\/size=4) (a:Nat):fo (wB size n) a=off size n a:=by unfold fo off;rw[Ab,tY h,xK (gf size) n];generalize n*gf size=q;split<;>omega
noncomputable def jV (w:List Nat) (a:Nat):Nat:=total (((List.range w.length).filter λo=>decide (fo w a<=fo w o)).map λo=>w.getD o 0)
theorem VV (size n:Nat):total (waysAll size n)=total (wB size n):=by
 rw[tW,tW];have e1:=lH (f:=λi=>(waysAll size n).getD i 0) (n:=(waysAll size n).length) (m:=(waysAll size n).length+(wB size n).length) ZD λi h _a=>jg h
 have e2:=lH (f:=λi=>(wB size n).getD i 0) (n:=(wB size n).length) (m:=(waysAll size n).length+(wB size n).length) ZD λi h _a=>jg h
 rw[←e1,←e2];exact kI λi _a=>(Aa size n i).symm
theorem K7 {size n:Nat}(h:size=2\/size=4) (a:Nat):asFar size n a=(jV (wB size n) a,total (wB size n)):=by
 unfold asFar;simp only;rw[VV];congr 1;have q:∀w:List Nat,total ((w.zipIdx.filter λy=>decide (off size n a<=off size n y.2)).map λy=>y.1)=S w.length λi=>if decide (off size n a<=off size n i)=true then w.getD i 0 else 0:=by intro w;rw[K1,List.filter_map,yN];exact tX (List.range w.length) (λi=>decide (off size n a<=off size n i)) λi=>w.getD i 0
 rw[q];unfold jV;rw[tX];show _=S (wB size n).length λi=>if decide (fo (wB size n) a<=fo (wB size n) i)=true then (wB size n).getD i 0 else 0
 have e1:=lH (f:=λi=>if decide (off size n a<=off size n i)=true then (waysAll size n).getD i 0 else 0) (n:=(waysAll size n).length) (m:=(waysAll size n).length+(wB size n).length) ZD λi h _a=>by rw[jg h];simp
 have e2:=lH (f:=λi=>if decide (fo (wB size n) a<=fo (wB size n) i)=true then (wB size n).getD i 0 else 0) (n:=(wB size n).length) (m:=(waysAll size n).length+(wB size n).length) ZD λi h _a=>by rw[jg h];simp
 rw[←e1,←e2];refine kI λi _a=>?_
 rw[Dq h,Dq h,Aa]
theorem K8 (w:List Nat) (a:Nat):jV w a<=total w:=by unfold jV;rw[tX,tW w];exact KZ λi _a=>by split<;>omega
theorem VW (w:List Nat) (k:Nat):w.getD k 0<=total w:=by
 induction w generalizing k with
 |nil=>exact xQ _
 |cons a w ih=>
  show _<=a+total w;cases k with
  |zero=>show a<=_;omega
  |succ k=>have:=ih k;show w.getD k 0<=_;omega
section
variable {B:bc}
theorem VX {n a:Int}(hs:aG B.T .size=2\/aG B.T .size=4) (h:¬(0<=n/\n<=40/\0<=a/\a<=40*(gf (aG B.T .size):Int))):step (ak B) (.ways n a)=no (ak B) (-1):=by rw[step,show (ak B).rules.size=aG B.T .size from rfl,tY hs];refine Zx ?_;unfold within;rw[ze];intro e;simp only[za,Zt]at e;refine h ⟨by omega,by omega,by omega,?_⟩;have:=e.2.2;rw[Int.natCast_mul]at this;omega
theorem VY {n a:Nat}(hs:aG B.T .size=2\/aG B.T .size=4) (h:n<=40/\a<=40*gf (aG B.T .size)):step (ak B) (.ways n a)=
  (ak B,{value:=(fo (wB (aG B.T .size) n) a:Int),rows:= [«ints» (decimal ((wB (aG B.T .size) n).getD a 0)),«ints» (decimal (jV (wB (aG B.T .size) n) a)),«ints» (decimal (total (wB (aG B.T .size) n)))]}):=by
 rw[step,show (ak B).rules.size=aG B.T .size from rfl,tY hs,Zw]
 ·simp only[zt,K7 hs,Dq hs,Aa]
 ·unfold within;rw[zk];simp only[za,Zt];omega
noncomputable def eV (B:bc) (m:Nat) (e:(Nat×Nat)×Rm):Bool:= !e.2.result.isEmpty&&mW B e.1.1 e.1.2 e.2==m
noncomputable def fq (B:bc) (m:Nat):c9:=B.rooms.filter (eV B m)
theorem wsum (R:c9) (w:(Nat×Nat)×Rm->Nat):∀n:Nat,S n (λi=>total ((R.filter λe=>e.1.1==i+1).map w))=total ((R.filter λe=>decide (1<=e.1.1/\e.1.1<=n)).map w)
 |0=>by
  have e:(R.filter λe=>decide (1<=e.1.1/\e.1.1<=0))= []:=List.filter_eq_nil_iff.mpr λe _a=>by simp;omega
  rw[e];rfl
 |n+1=>by
  rw[fD,wsum R w n];induction R with
  |nil=>rfl
  |cons e R ih=>
   simp only[zU];by_cases h1:e.1.1=n+1
   ·have a:decide (1<=e.1.1/\e.1.1<=n+1)=true:=Zs ZD;have b:decide (1<=e.1.1/\e.1.1<=n)=false:=Zq ZD;have c:(e.1.1==n+1)=true:=Zm.mpr h1;rw[a,b,c];simp only[Zy,zh,Zv];show _+(w e+total _)=w e+total _;rw[←ih];omega
   ·have c:(e.1.1==n+1)=false:=beq_eq_false_iff_ne.mpr h1;rw[c];by_cases h2:1<=e.1.1/\e.1.1<=n
    ·have a:decide (1<=e.1.1/\e.1.1<=n+1)=true:=Zs ZD;rw[a,Zs h2];simp only[Zy,zh,Zv];show w e+total _+_=w e+total _;rw[←ih];omega
    ·have a:decide (1<=e.1.1/\e.1.1<=n+1)=false:=Zq ZD;rw[a,Zq h2];simp only[zh,Zv];exact ih
theorem K9 (P:Room->Prop) [DecidablePred P] (v:Room->Nat):∀(L:List Room) (z:Nat×Nat),L.foldl (λz y=>if P y then (z.1+1,z.2+v y) else z) z=(z.1+total (L.map λy=>if P y then 1 else 0),z.2+total (L.map λy=>if P y then v y else 0))
 | [],z=>by simp[total]
 |y::L,z=>by
  rw[y3,K9 P v L];by_cases h:P y
  ·simp only[Zx h,yJ];show (z.1+1+_,z.2+v y+_)=(z.1+(1+total _),z.2+(v y+total _));rw[xu,xu]
  ·simp only[Zw h,yJ];show _=(z.1+(0+total _),z.2+(0+total _));rw[xP,xP]
theorem La {α:Type}(a b:α->Nat):∀(L:List α) (z:Nat×Nat),L.foldl (λz x=>(z.1+a x,z.2+b x)) z=(z.1+total (L.map a),z.2+total (L.map b))
 | [],z=>by simp[total]
 |y::L,z=>by rw[y3,La a b L];show (z.1+a y+_,z.2+b y+_)=(z.1+(a y+total _),z.2+(b y+total _));rw[xu,xu]
theorem Lb {α:Type}(p:α->Bool) (f:α->Nat):∀L:List α,total (L.map λe=>if p e=true then f e else 0)=total ((L.filter p).map f)
 | []=>rfl
 |a::L=>by
  rw[yJ,zU];show (if p a=true then f a else 0)+total _=_;rw[Lb p f L];cases p a with
  |true=>rfl
  |false=>simp
theorem Lc {α:Type}:∀L:List α,total (L.map λ_a=>1)=L.length
 | []=>rfl
 |a::L=>by show 1+total (L.map λ_a=>1)=_;rw[Lc L,yu];omega
theorem Ok.qH (O:Ok B) {e:(Nat×Nat)×Rm}(h:e∈B.rooms):e.2.one.Nodup/\e.2.two.Nodup/\(e.2.result≠ []->fk e.2=true/\e.2.result.length=aG B.T .size)/\1<=e.1.1/\e.1.1<=B.rs.length:=by
 obtain ⟨h1,_,_,l,h2,h3⟩:=O.ge e h;have eK:=(O.ro l (yY h2)).1;have cC:=(List.getElem?_eq_some_iff.mp h2).1;refine ⟨(h3.nd eK).1,(h3.nd eK).2,λhr=>?_,h1,by omega⟩;rcases h3.res with z|⟨z1,z2,z3⟩
 ·exact absurd z hr
 ·refine ⟨?_,by rw[z1.length_eq,yC]⟩;unfold fk;simp only[za,zm,yq];exact ⟨z2,z3⟩
theorem VZ (O:Ok B) (m:Nat):tallied (ak B) m=((fq B m).length,total ((fq B m).map λe=>fQ e.2.result)):=by
 have key:∀e∈B.rooms,(decided (ak B) e.1.1 (e.2.room e.1.2)=some m/\(e.2.room e.1.2).result≠ []) ↔ eV B m e=true:=by
  intro e he;obtain ⟨h1,h2,h3,h4⟩:=O.qH he;rw[oR h1];unfold eV;show (_/\e.2.result≠ []) ↔ _;simp only[za,zm,yq,Zm];constructor
  ·rintro ⟨a,b⟩;rw[Zx (h3 b).1]at a;exact ⟨b,xX a⟩
  ·rintro ⟨b,a⟩;rw[Zx (h3 b).1,a];exact ⟨rfl,b⟩
 have zr:(ak B).rounds.zipIdx=(List.range B.rs.length).map λi=>((⟨(B.rs[i]?).getD [],b7 B.rooms (i+1)⟩:Round),i):=by
  apply zP;intro i;rw[yl,lG,yd];by_cases h:i<B.rs.length
  ·rw[yb h,yh h];simp[yb h]
  ·rw[yc ZD,yc (by rw[yC];omega)];rfl
 unfold tallied;rw[zr];have V0:∀(z:Nat×Nat) (x:Round×Nat),(x.1.rooms.foldl (λz y=>if decided (ak B) (x.2+1) y=some m/\y.result≠ [] then (z.1+1,z.2+firstHalf (ak B).rules.size y.result) else z) z)=
   (z.1+total (x.1.rooms.map λy=>if decided (ak B) (x.2+1) y=some m/\y.result≠ [] then 1 else 0),z.2+total (x.1.rooms.map λy=>if decided (ak B) (x.2+1) y=some m/\y.result≠ [] then firstHalf (ak B).rules.size y.result else 0)):=
  λz x=>K9 (λy=>decided (ak B) (x.2+1) y=some m/\y.result≠ []) (λy=>firstHalf (ak B).rules.size y.result) x.1.rooms z
 simp only[V0];rw[La];rw[yN,yN,xP,xP];have Ld:∀(v:Room->Nat) (u:(Nat×Nat)×Rm->Nat),(∀e∈B.rooms,eV B m e=true->v (e.2.room e.1.2)=u e)->
   total ((List.range B.rs.length).map ((λx:Round×Nat=>total (x.1.rooms.map λy=>if decided (ak B) (x.2+1) y=some m/\y.result≠ [] then v y else 0))∘λi=>((⟨(B.rs[i]?).getD [],b7 B.rooms (i+1)⟩:Round),i)))=total ((fq B m).map u):=by
  intro v u hv;have e1:∀i,i<B.rs.length->((λx:Round×Nat=>total (x.1.rooms.map λy=>if decided (ak B) (x.2+1) y=some m/\y.result≠ [] then v y else 0))∘λi=>((⟨(B.rs[i]?).getD [],b7 B.rooms (i+1)⟩:Round),i)) i=total ((B.rooms.filter λe=>e.1.1==i+1).map λe=>if eV B m e=true then u e else 0):=by
   intro i _;simp only[zq];unfold b7;rw[yN];congr 1;refine yI λe he=>?_
   obtain ⟨qI,oT⟩:=List.mem_filter.mp he;have oT:e.1.1=i+1:=by simpa using oT
   simp only[zq];have k:=key e qI;rw[oT]at k;by_cases hk:eV B m e=true
   ·rw[Zx (k.mpr hk),Zx hk];exact hv e qI hk
   ·rw[Zw (λz=>hk (k.mp z)),Zw hk]
  show S B.rs.length _=_;rw[kI e1,wsum];have e2:(B.rooms.filter λe=>decide (1<=e.1.1/\e.1.1<=B.rs.length))=B.rooms:=List.filter_eq_self.mpr λe he=>Zs (by have:=(O.qH he).2.2.2;exact this)
  rw[e2,Lb];rfl
 have p1:=Ld (λ_a=>1) (λ_a=>1) (λ_a _a _a=>rfl);have p2:=Ld (λy=>firstHalf (ak B).rules.size y.result) (λe=>fQ e.2.result) (λe he hk=>by
  have hr:e.2.result≠ []:=by unfold eV at hk;simp only[za,zm,yq]at hk;exact hk.1
  exact K2 ((O.qH he).2.2.1 hr).2)
 rw[p1,p2,Lc]
theorem Le (O:Ok B) (m:Nat):total ((fq B m).map λe=>fQ e.2.result)<=(fq B m).length*gf (aG B.T .size):=by
 have hs:=tL O.wt;have:=Ki (l:=(fq B m).map λe=>fQ e.2.result) (c:=gf (aG B.T .size)) (λx hx=>by
  obtain ⟨e,he,rfl⟩:=List.mem_map.mp hx;obtain ⟨qI,hk⟩:=List.mem_filter.mp he;have hr:e.2.result≠ []:=by unfold eV at hk;simp only[za,zm,yq]at hk;exact hk.1
  have hl:=((O.qH qI).2.2.1 hr).2;have:=VP (l:=e.2.result) (by rw[hl];exact hs);rw[hl]at this;have e3:aG B.T .size*(aG B.T .size - 1)/2=gf (aG B.T .size):=tY hs;rw[e3]at this;exact this)
 rw[yA]at this;exact this
theorem V1 {z:Int}(h:¬(1<=z/\z<=(B.ms.length:Int))):step (ak B) (.even z)=no (ak B) (-6):=by rw[step];exact wQ h _
theorem V2 (O:Ok B) {k:Nat}{mo:Motion}(h1:1<=k) (h:B.ms[k - 1]? =some mo):step (ak B) (.even k)=
  (ak B,{value:=((fq B k).length:Int),more:= [(total ((fq B k).map λe=>fQ e.2.result):Int),((fq B k).length:Int)*(gf (aG B.T .size):Int) - (total ((fq B k).map λe=>fQ e.2.result):Int)],rows:= [«ints» (decimal (jV (wB (aG B.T .size) (fq B k).length) (total ((fq B k).map λe=>fQ e.2.result)))),«ints» (decimal (total (wB (aG B.T .size) (fq B k).length)))]}):=by
 have hs:=tL O.wt;rw[step,wR h1 h];simp only[VZ O,show (ak B).rules.size=aG B.T .size from rfl,K7 hs,tY hs];have Dr:=Le O k;have e:(((gf (aG B.T .size)*(fq B k).length - total ((fq B k).map λe=>fQ e.2.result):Nat)):Int)=((fq B k).length:Int)*(gf (aG B.T .size):Int) - (total ((fq B k).map λe=>fQ e.2.result):Int):=by rw[Int.ofNat_sub (by rw[xK];exact Dr),Int.natCast_mul,Int.mul_comm]
 unfold «ints»;simp only[yJ,yO];rw[e]
theorem V4 (O:Ok B) (m:Nat):(fq B m).length<=270:=xE (yz _ _) O.qB
end
noncomputable def gH (rs:List (List Nat)) (f l:Int):List (List Nat):=(rs.drop (max f 1 - 1).toNat).take (min l (rs.length:Int)+1 - max f 1).toNat
noncomputable def jW (rs:List (List Nat)) (f l:Int):List Nat:=(gH rs f l).flatten
theorem V5 {B:bc}{r:Nat}(h1:1<=r) (h2:r<=B.rs.length+1):jW B.rs 1 ((r:Int) - 1)=tS B r:=by unfold jW gH tS;rw[show (max (1:Int) 1 - 1).toNat=0 by omega,zM,show (min ((r:Int) - 1) (B.rs.length:Int)+1 - max 1 1).toNat=r - 1 by omega]
theorem Lg {B:bc}{r:Nat}(h1:1<=r) (h2:r<=B.rs.length+1):jW B.rs ((r:Int) - (aG B.T .gap:Int)) ((r:Int) - 1)=mS B r:=by unfold jW gH mS;rw[List.drop_take];generalize aG B.T .gap=g;rw[show (max ((r:Int) - (g:Int)) 1 - 1).toNat=r - 1 - g by omega];congr 2;omega
theorem V6 {B:bc}:jW B.rs 1 (B.rs.length:Int)=B.rs.flatten:=by unfold jW gH;rw[show (max (1:Int) 1 - 1).toNat=0 by omega,zM,show (min (B.rs.length:Int) (B.rs.length:Int)+1 - max 1 1).toNat=B.rs.length by omega,xm]
theorem Lh {B:bc}{r:Nat}(h1:1<=r) (h2:r<=B.rs.length):jW B.rs ((r:Int)+1) ((r:Int)+(aG B.T .gap:Int))=mU B r:=by
 unfold jW gH mU;generalize aG B.T .gap=g;rw[show (max ((r:Int)+1) 1 - 1).toNat=r by omega];by_cases h:r+g<=B.rs.length
 ·rw[show (min ((r:Int)+(g:Int)) (B.rs.length:Int)+1 - max ((r:Int)+1) 1).toNat=g by omega]
 ·rw[xo (by rw[yw];omega),xo (by rw[yw];omega)]
theorem Li (rs:List (List Nat)) (f l:Int):(gH rs f l).length<=rs.length:=by unfold gH;rw[yF,yw];omega
theorem Lj {rs:List (List Nat)}{f l:Int}{x:List Nat}(h:x∈gH rs f l):x∈rs:=yZ (x6 h)
theorem Ds {c:Nat}:∀{ls:List (List Nat)},(∀l∈ls,l.length<=c)->ls.flatten.length<=ls.length*c
 | [],_=>by simp
 |l::ls,h=>by
  have h1:=h l yV;have h2:=Ds (ls:=ls) λx hx=>h x (yU _ hx)
  rw[y2,yt,yu,xO];omega
theorem Ok.Lk {B:bc}(O:Ok B) (f l:Int):(jW B.rs f l).length<=45:=by
 have h:=Ds (ls:=gH B.rs f l) (c:=5) λx hx=>(O.jS (Lj hx)).2
 have h1:=Li B.rs f l;have h2:=O.jR;have:(gH B.rs f l).length*5<=9*5:=xM _ ZD;unfold jW;omega
theorem V7 (ls:List (List Nat)) (l:List Nat):(ls++ [l]).flatten=ls.flatten++l:=by simp
noncomputable def lI (B:bc) (w:Int):List Nat:=(bb B.rs.length).filter λr=>decide ((cB B.T r:Int)<=w)
theorem Ll {B:bc}{w:Int}{r:Nat}:r∈lI B w ↔ (1<=r/\r<=B.rs.length)/\(cB B.T r:Int)<=w:=by unfold lI;rw[List.mem_filter,CQ,Zt]
theorem V8 (B:bc) (w:Int):(lI B w).length<=B.rs.length:=by have:=yz (λr=>decide ((cB B.T r:Int)<=w)) (bb B.rs.length);rw[oJ]at this;exact this
noncomputable def lJ (a b:List Nat) (i j k:Nat):Nat:=S i (λx=>if x<=k then a.getD x 0*b.getD (k - x) 0 else 0)+(if i<=k/\k - i<j then a.getD i 0*b.getD (k - i) 0 else 0)
noncomputable def fR (a b:List Nat) (i j:Nat):List Nat:=(List.range (a.length+b.length - 1)).map (lJ a b i j)
theorem Lm (a b:List Nat) (i j:Nat):(fR a b i j).length=a.length+b.length - 1:=by simp[fR]
theorem V9 (a b:List Nat):fR a b 0 0=List.replicate (a.length+b.length - 1) 0:=by unfold fR;rw[List.eq_replicate_iff];refine ⟨by simp,λx hx=>?_⟩;obtain ⟨k,_,rfl⟩:=List.mem_map.mp hx;unfold lJ;rw[w8,Zw ZD]
theorem Wa (a b:List Nat) (i:Nat):fR a b i b.length=fR a b (i+1) 0:=by
 unfold fR;refine yI λk _a=>?_
 unfold lJ;rw[fD,Zw (show ¬(i+1<=k/\k - (i+1)<0) by omega),xw];congr 1;by_cases h1:i<=k
 ·by_cases h2:k - i<b.length
  ·rw[Zx ⟨h1,h2⟩,Zx h1]
  ·rw[Zw ZD,Zx h1,jg (l:=b) ZD,Nat.mul_zero]
 ·rw[Zw ZD,Zw h1]
theorem Wb (a b:List Nat):fR a b a.length 0=conv a b:=by
 unfold fR conv
 refine yI λk _a=>?_
 unfold lJ;rw[Zw (show ¬(a.length<=k/\k - a.length<0) by omega),xw]
theorem Wc (a b:List Nat) {i j:Nat}(h:i+j<a.length+b.length - 1):(fR a b i j)[i+j]? =some (lJ a b i j (i+j)):=by unfold fR;rw[yd,yh h];rfl
theorem Wd (a b:List Nat) {i j:Nat}(h:i+j<a.length+b.length - 1):fR a b i (j+1)=(fR a b i j).set (i+j) (lJ a b i j (i+j)+a.getD i 0*b.getD j 0):=by
 apply zP;intro k;rw[yi];by_cases hk:i+j=k
 ·subst hk;rw[Zx rfl,Zx (by rw[Lm];exact h)];unfold fR;rw[yd,yh h];show some _=some _;congr 1;unfold lJ;rw[Zx (show i<=i+j/\i+j - i<j+1 by omega),Zw (show ¬(i<=i+j/\i+j - i<j) by omega),show i+j - i=j by omega,xw]
 ·rw[Zw hk];unfold fR;rw[yd,yd];cases e:(List.range (a.length+b.length - 1))[k]? with
  |none=>rfl
  |some x=>
   have hx:x=k:=by obtain ⟨h1,h2⟩:=List.getElem?_eq_some_iff.mp e;rw[←h2,List.getElem_range]
   subst hx;show some _=some _;congr 1;unfold lJ;congr 1;by_cases h1:i<=x/\x - i<j
   ·rw[Zx h1,Zx ZD]
   ·rw[Zw h1,Zw ZD]
theorem getD_some {l:List Nat}{i:Nat}(h:i<l.length):l[i]? =some (l.getD i 0):=by rw[y4,yb h];rfl
theorem getD_mem {l:List Nat}{i:Nat}(h:i<l.length):l.getD i 0∈l:=yY (getD_some h)
theorem Ac (p:Nat->Bool) (i:Nat):(List.range (i+1)).filter p=(List.range i).filter p++if p i=true then [i] else []:=by rw[xi,zS,zU,zV]
theorem qJ:∀l:List Nat,(«ints» l).sum=((total l:Nat):Int)
 | []=>rfl
 |a::l=>by have:=qJ l;unfold «ints» at this⊢;rw[yJ,List.sum_cons,this];show (a:Int)+_=((a+total l:Nat):Int);omega
theorem We {p:Int}{r t:List Int}{c:List (List Int)}(hc:PyFlat.call PyVbdbag.shape (p::r)=some (c,t)) (h:VbdbagNeutral.asked1 c=true):∃call,c=qw call/\VbdbagNeutral.callOf c=some call/\wJ call:=by
 obtain ⟨call,rfl⟩:=J0 hc;refine ⟨call,rfl,by cases call<;>rfl,?_⟩;cases call with
 |rules t=>have h:(decide (t.length<=1600)&&t.all λz=>VbdbagNeutral.whole60 z)=true:=h;simp only[za,Zt]at h;exact h.1
 |motion l a b=>have h:(VbdbagNeutral.whole60 l&&((decide (a.length<=20)&&a.all λz=>VbdbagNeutral.whole60 z)&&(decide (b.length<=120)&&b.all λz=>VbdbagNeutral.whole60 z)))=true:=h;simp only[za,Zt]at h;exact ⟨h.2.1.1,h.2.2.1⟩
 |order a b c l=>have h:(VbdbagNeutral.whole60 a&&(VbdbagNeutral.whole60 b&&(VbdbagNeutral.whole60 c&&(decide (l.length<=10)&&l.all λz=>VbdbagNeutral.whole60 z))))=true:=h;simp only[za,Zt]at h;exact h.2.2.2.1
 |result a b l=>have h:(VbdbagNeutral.whole60 a&&(VbdbagNeutral.whole60 b&&(decide (l.length<=10)&&l.all λz=>VbdbagNeutral.whole60 z)))=true:=h;simp only[za,Zt]at h;exact h.2.2.1
 |_=>trivial
theorem Wf {cs:List (List (List Int))}(h:VbdbagNeutral.asked cs=true):∀c∈cs,VbdbagNeutral.asked1 c=true:=by unfold VbdbagNeutral.asked at h;rw[za]at h;exact zx.mp h.1
noncomputable def qK (h:House) (cs:List (List (List Int))):List Int:=PyFlat.told (PyFlat.played VbdbagNeutral.step h cs)
theorem Wg (h:House):qK h []= []:=rfl
theorem Wh {h:House}{c:List (List Int)}{cs:List (List (List Int))}{call:Vbdbag.Call}(e:VbdbagNeutral.callOf c=some call):qK h (c::cs)=(((iP (step h call).2).length:Int)::iP (step h call).2)++qK (step h call).1 cs:=by
 have e1:VbdbagNeutral.step h c=((step h call).1,iP (step h call).2):=by unfold VbdbagNeutral.step;rw[e];rfl
 unfold qK;rw[PyFlat.played,e1];unfold PyFlat.told;rw[y0]
theorem Ln:∀(k:Nat) {r t:List Int}{xs:List (List Int)},PyFlat.rows k r=some (xs,t)->∃d,t=r.drop d
 |0,r,t,xs,h=>by obtain ⟨_,e⟩:=CV h;exact ⟨0,by rw[e,zM]⟩
 |k+1,r,t,xs,h=>by obtain ⟨n,r',ys,rfl,_,_,_,h'⟩:=CW h;obtain ⟨d,e⟩:=Ln k h';exact ⟨1+n.toNat+d,by rw[e,zJ,←zJ (i:=d) (j:=1+n.toNat),←zJ (i:=n.toNat) (j:=1),zJ];rfl⟩
theorem Wi {l:List Int}{i d:Nat}(h:l.drop i≠ []):∃j,l.drop (i+1+d)=l.drop j/\i<j/\j<=l.length:=by
 have hi:i<l.length:=by
  by_cases z:i<l.length
  ·exact z
  ·exact absurd (zK ZD) h
 by_cases z:i+1+d<=l.length
 ·exact ⟨i+1+d,rfl,by omega,z⟩
 ·refine ⟨l.length,?_,hi,xC _⟩;rw[zK ZD,zL]
end Mb
namespace L2
open PySem PySem.Spec PyProof.Rows
noncomputable abbrev bp:=Sum Int Str
noncomputable def mX:bp->Value->Bool
 | .inl k,v=>Value.isInt k v
 | .inr x,v=>Value.isStrOf x v
noncomputable def Wj (w:World):bp->Int
 | .inl k=>hashInt k
 | .inr x=>hashStr w x
theorem kJ:∀{k:bp}{v:Value},mX k v=true->(∃i t,k=Sum.inl i/\v=Value.int i t)\/(∃x t,k=Sum.inr x/\v=Value.str x t)
 | .inl i,v,h=>by obtain ⟨t,e⟩:=Value.isInt_shape (k:=i) (v:=v) h;exact .inl ⟨i,t,rfl,e⟩
 | .inr x,v,h=>by obtain ⟨t,e⟩:=Value.isStrOf_shape (x:=x) (v:=v) h;exact .inr ⟨x,t,rfl,e⟩
theorem Wk (i:Int) (t:Tok):mX (.inl i) (.int i t)=true:=by simp[mX,Value.isInt]
theorem Wl (x:Str) (t:Tok):mX (.inr x) (.str x t)=true:=by simp[mX,Value.isStrOf]
theorem Wm (a b:Int):decide ((Sum.inl a:bp)=Sum.inl b)=(a==b):=by
 by_cases e:a=b
 ·subst e;simp
 ·have h:¬(Sum.inl a:bp)=Sum.inl b:=λq=>e (Zl q)
  rw[Zq h];exact (beq_eq_false_iff_ne.mpr e).symm
theorem Wn (a b:Str):decide ((Sum.inr a:bp)=Sum.inr b)=decide (a=b):=by
 by_cases e:a=b
 ·subst e;simp
 ·have h:¬(Sum.inr a:bp)=Sum.inr b:=λq=>e (Sum.inr.inj q)
  rw[Zq h,Zq e]
theorem Wo (a:Int) (b:Str):decide ((Sum.inl a:bp)=Sum.inr b)=false:=Zq (λq=>nomatch q)
theorem Wq (a:Str) (b:Int):decide ((Sum.inr a:bp)=Sum.inl b)=false:=Zq (λq=>nomatch q)
noncomputable def gI (prog:Program) (w:World):PySem.KeyKind prog w bp where
 is:=mX
 hash:=Wj w
 inj:=λv a b ha hb=>by
  rcases kJ ha with ⟨i,t,rfl,rfl⟩|⟨x,t,rfl,rfl⟩
  ·rcases kJ hb with ⟨j,u,rfl,e⟩|⟨y,u,rfl,e⟩
   ·injection e with e1 _;rw[e1]
   ·exact nomatch e
  ·rcases kJ hb with ⟨j,u,rfl,e⟩|⟨y,u,rfl,e⟩
   ·exact nomatch e
   ·injection e with e1 _;rw[e1]
 byValue:=λk v h=>by rcases kJ h with ⟨i,t,rfl,rfl⟩|⟨x,t,rfl,rfl⟩<;>rfl
 pyHash:=λhv h=>by
  rcases kJ hv with ⟨i,t,rfl,rfl⟩|⟨x,t,rfl,rfl⟩
  ·exact wpAny_pyHash_int h
  ·exact wpAny_pyHash_str h
 eqBool:=λhu hv h=>by
  rcases kJ hu with ⟨i,t,rfl,rfl⟩|⟨x,t,rfl,rfl⟩
  ·rcases kJ hv with ⟨j,u,rfl,rfl⟩|⟨y,u,rfl,rfl⟩
   ·rw[Wm]at h;exact wpAny_eqBool_int h
   ·rw[Wo]at h;exact SeqAt.EqAt.int_str i t y u _ _ _ _ h
  ·rcases kJ hv with ⟨j,u,rfl,rfl⟩|⟨y,u,rfl,rfl⟩
   ·rw[Wq]at h;exact SeqAt.EqAt.str_int x t j u _ _ _ _ h
   ·rw[Wn]at h;exact wpAny_eqBool_str h
 «strs»:=λk x t v h=>by
  rcases kJ h with ⟨i,u,rfl,e⟩|⟨y,u,rfl,e⟩
  ·exact nomatch e
  ·injection e with e1 _;subst e1;cases v<;>rfl
theorem Wr (prog:Program) (w:World) (i:Int) (t:Tok):(gI prog w).is (.inl i) (.int i t)=true:=Wk i t
theorem Ws (prog:Program) (w:World) (x:Str) (t:Tok):(gI prog w).is (.inr x) (.str x t)=true:=Wl x t
inductive V where
 |bT|bl (b:Bool)|int (i:Int)|str (x:Str)|gJ (b:Array UInt8)|Ae (b:UInt64)|ref (a:Addr)|ty (n:String)
 deriving DecidableEq
noncomputable def bw:V->Value->Prop
 | .bT,u=>u=Value.none
 | .bl b,u=>u=Value.bool b
 | .int i,u=>∃t,u=Value.int i t
 | .str x,u=>∃t,u=Value.str x t
 | .gJ b,u=>∃t,u=Value.bytes b t
 | .Ae b,u=>∃t,u=Value.float b t
 | .ref a,u=>u=Value.ref a
 | .ty n,u=>u=Value.type n
noncomputable abbrev aV:List V->List Value->Prop:=Paired bw
theorem aV.length {xs:List V}{us:List Value}(r:aV xs us):xs.length=us.length:=Paired.length r
theorem aV.get:∀{xs:List V}{us:List Value}{i:Nat}{x:V},aV xs us->xs[i]? =some x->∃u,us[i]? =some u/\bw x u
 |_,_,_,_,.nil,e=>by simp at e
 |_,_,0,_,.cons r _,e=>by simp at e;subst e;exact ⟨_,rfl,r⟩
 |_,_,i+1,x,.cons _ t,e=>by obtain ⟨u,h1,h2⟩:=aV.get (i:=i) (x:=x) t (by simpa using e);exact ⟨u,by simpa using h1,h2⟩
theorem aV.set {x:V}{u:Value}(r:bw x u):∀{xs:List V}{us:List Value}(i:Nat),aV xs us->aV (xs.set i x) (us.set i u)
 |_,_,_,.nil=> .nil
 |_,_,0,.cons _ t=> .cons r t
 |_,_,i+1,.cons q t=> .cons q (aV.set r i t)
theorem aV.append:∀{xs ys:List V}{us ws:List Value},aV xs us->aV ys ws->aV (xs++ys) (us++ws)
 |_,_,_,_,.nil,s=>s
 |_,_,_,_,.cons r t,s=> .cons r (aV.append t s)
theorem aV.take:∀{xs:List V}{us:List Value}(n:Nat),aV xs us->aV (xs.take n) (us.take n)
 |_,_,0,_=> .nil
 |_,_,_+1,.nil=> .nil
 |_,_,n+1,.cons r t=> .cons r (aV.take n t)
theorem aV.drop:∀{xs:List V}{us:List Value}(n:Nat),aV xs us->aV (xs.drop n) (us.drop n)
 |_,_,0,r=>r
 |_,_,_+1,.nil=> .nil
 |_,_,n+1,.cons _ t=>aV.drop n t
noncomputable def g8:Option V->Option Value->Prop
 |some v,some u=>bw v u
 |none,none=>True
 |_,_=>False
noncomputable def KV {κ:Type}:List (κ×V)->List (κ×Value)->Prop:=Paired λ(p:κ×V) (q:κ×Value)=>p.1=q.1/\bw p.2 q.2
noncomputable def kV:bp->V
 | .inl i=> .int i
 | .inr x=> .str x
inductive HO where
 |lst (xs:List V)
 |bP (xs:List V)
 |dK (af:List (bp×V))|dT (af:List (List bp×V))
 |set (S:Int->Bool) (n:Nat)
 |ins (C dx:Addr) (fs:List (Str×V))
 |own (x:Addr)
 |xd (fs:List (Str×V))
 |Dt (f x:Addr)
 |gK (lo hi:Int)
 |bI (o:Obj) (u:HO)
 |oU (ps:Array Value)
 |ext (φ:Heap->Prop)
noncomputable abbrev Hp:=Addr->Option HO
noncomputable def aj (H:Hp) (a:Addr) (o:HO):Hp:=λb=>if b=a then some o else H b
theorem ao {H:Hp}{a:Addr}{o:HO}:aj H a o a=some o:=by unfold aj;rw[Zx rfl]
theorem aA {H:Hp}{a b:Addr}{o:HO}(h:b≠a):aj H a o b=H b:=by unfold aj;rw[Zw h]
theorem Wt {H:Hp}{a b:Addr}{o u:HO}(h:H a=some o) (h':H b=some u) (d:o≠u):a≠b:=by intro e;subst e;rw[h]at h';exact d (xX h')
theorem b8 {H:Hp}{a b:Addr}{o:HO}(h:H a=some o) (h':H b=none):a≠b:=by intro e;subst e;rw[h]at h';cases h'
section
variable (P:Program) (w:World)
noncomputable def dM (H:Hp) (h:Heap) (a:Addr):HO->Prop
 | .lst xs=>xs.length<=sizeLine/\∃(ay:List Value) (n:Nat),aV xs ay/\h.get? a=some {cls:= .type "list",data:= .seq ay.toArray n}
 | .bP xs=>xs.length<=sizeLine/\∃ay:List Value,aV xs ay/\IsTup h a ay.toArray
 | .dK af=>af.length<=sizeLine/\(a==sysModules)=false/\∃vs,KV af vs/\h.DictOf (gI P w) a vs
 | .dT af=>af.length<=sizeLine/\(a==sysModules)=false/\∃xs:List (List bp×Addr×Value),
   Paired (λ(p:List bp×V) (q:List bp×Addr×Value)=>p.1=q.1/\H q.2.1=some (.bP (p.1.map kV))/\bw p.2 q.2.2) af xs/\
   ∃o es ep,h.get? a=some o/\o.ExactDict/\o.data= .dict es ep/\es.toList=xs.map (entryOfKey (tupleKind (gI P w)))/\(xs.map (·.1)).Nodup
 | .set S n=>h.SetOf (intKind P w) a S n
 | .ins C dx fs=>H dx=some (.own a)/\fs.length<=1000/\dx≠a/\h.get? a=some (PySem.W.instObj C dx)/\
   ∃mA,h.Ns1 dx mA/\(∀f,g8 (fs.lookup f) (mA f))/\PySem.Within mA (fs.map (·.1))
 | .own _=>∃o,h.get? a=some o
 | .xd fs=>∃mA,h.Ns1 a mA/\∀f,g8 (fs.lookup f) (mA f)
 | .gK lo hi=>∃t u v,h.get? a=some {cls:= .type "range",data:= .fields #[.int lo t,.int hi u,.int 1 v]}
 | .bI o u=>h.get? a=some o/\dM H h a u
 | .oU ps=>h.get? a=some {cls:= .none,data:= .fields ps}
 | .Dt f x=>h.get? a=some (PySem.W.methodObj (.ref f) (.ref x))
 | .ext φ=>φ h/\(∃o,h.get? a=some o)/\∀h1 h2:Heap,φ h1->(∀o,h1.get? a=some o->h2.get? a=some o)->φ h2
noncomputable def cS (H:Hp) (h:Heap):Prop:=∀a o,H a=some o->dM P w H h a o
end
section
variable {P:Program}{w:World}{H H':Hp}{h h':Heap}{a:Addr}{o:HO}
theorem dM.lt (x:dM P w H h a o):a<h.objs.size:=by
 cases o with
 |lst xs=>obtain ⟨_,_,_,_,e⟩:=x;exact Heap.lt_size e
 |bP xs=>obtain ⟨_,_,_,p⟩:=x;exact p.lt
 |dK af=>obtain ⟨_,_,_,_,o,_,_,e,_⟩:=x;exact Heap.lt_size e
 |dT af=>obtain ⟨_,_,_,_,o,_,_,e,_⟩:=x;exact Heap.lt_size e
 |set S n=>obtain ⟨o,_,_,_,e,_⟩:=x;exact Heap.lt_size e
 |ins C dx fs=>obtain ⟨_,_,_,e,_⟩:=x;exact Heap.lt_size e
 |own y=>obtain ⟨_,e⟩:=x;exact Heap.lt_size e
 |xd fs=>obtain ⟨_,⟨_,_,_,e,_⟩,_⟩:=x;exact Heap.lt_size e
 |gK lo hi=>obtain ⟨_,_,_,e⟩:=x;exact Heap.lt_size e
 |bI ob u=>obtain ⟨e,_⟩:=x;exact Heap.lt_size e
 |oU ps=>exact Heap.lt_size (show h.get? a=some _ from x)
 |Dt f y=>exact Heap.lt_size (show h.get? a=some _ from x)
 |ext φ=>obtain ⟨_,⟨_,e⟩,_⟩:=x;exact Heap.lt_size e
theorem Paired.Du {α β:Type}{F G:α->β->Prop}:∀{l₁:List α}{l₂:List β},Paired F l₁ l₂->(∀a b,F a b->G a b)->Paired G l₁ l₂
 |_,_,.nil,_=> .nil
 |_,_,.cons r t,f=> .cons (f _ _ r) (Paired.Du t f)
theorem dM.mY (x:dM P w H h a o) (k:∀b u,(b=a\/H b=some (.own a))->h.get? b=some u->h'.get? b=some u)
  (ho:∀b,H b=some (.own a)->H' b=some (.own a)) (ht:∀b xs,H b=some (.bP xs)->H' b=some (.bP xs)):dM P w H' h' a o:=by
 induction o with
 |lst xs=>obtain ⟨z,ay,n,r,e⟩:=x;exact ⟨z,ay,n,r,k _ _ (.inl rfl) e⟩
 |bP xs=>obtain ⟨z,ay,r,ob,e,c⟩:=x;exact ⟨z,ay,r,ob,k _ _ (.inl rfl) e,c⟩
 |dK af=>obtain ⟨z,y,vs,r,ob,es,ep,e,c⟩:=x;exact ⟨z,y,vs,r,ob,es,ep,k _ _ (.inl rfl) e,c⟩
 |dT af=>obtain ⟨z,y,xs,r,ob,es,ep,e,c⟩:=x;exact ⟨z,y,xs,Paired.Du r λp q z=>⟨z.1,ht _ _ z.2.1,z.2.2⟩,ob,es,ep,k _ _ (.inl rfl) e,c⟩
 |set S n=>obtain ⟨ob,es,ep,t,e,c⟩:=x;exact ⟨ob,es,ep,t,k _ _ (.inl rfl) e,c⟩
 |ins C dx fs=>obtain ⟨d,z,ne,e,mA,⟨od,es,ep,e2,c⟩,r⟩:=x;exact ⟨ho _ d,z,ne,k _ _ (.inl rfl) e,mA,⟨od,es,ep,k _ _ (.inr d) e2,c⟩,r⟩
 |own y=>obtain ⟨ob,e⟩:=x;exact ⟨ob,k _ _ (.inl rfl) e⟩
 |xd fs=>obtain ⟨mA,⟨od,es,ep,e,c⟩,r⟩:=x;exact ⟨mA,⟨od,es,ep,k _ _ (.inl rfl) e,c⟩,r⟩
 |gK lo hi=>obtain ⟨t,u,v,e⟩:=x;exact ⟨t,u,v,k _ _ (.inl rfl) e⟩
 |bI ob u ih=>obtain ⟨e,q⟩:=x;exact ⟨k _ _ (.inl rfl) e,ih q⟩
 |oU ps=>have e:h.get? a=some {cls:= .none,data:= .fields ps}:=x;show h'.get? a=some {cls:= .none,data:= .fields ps};exact k a _ (.inl rfl) e
 |Dt f y=>have e:h.get? a=some (PySem.W.methodObj (.ref f) (.ref y)):=x;show h'.get? a=some (PySem.W.methodObj (.ref f) (.ref y));exact k a _ (.inl rfl) e
 |ext φ=>obtain ⟨p,⟨o,e⟩,st⟩:=x;exact ⟨st _ _ p λo q=>k _ _ (.inl rfl) q,⟨o,k _ _ (.inl rfl) e⟩,st⟩
theorem cS.lt (x:cS P w H h) (e:H a=some o):a<h.objs.size:=(x a o e).lt
theorem cS.fresh (x:cS P w H h) (e:h.objs.size<=a):H a=none:=by
 cases q:H a with
 |none=>rfl
 |some u=>exact absurd (xH (x.lt q) e) (xF _)
theorem cS.dX (x:cS P w H h) (k:∀b u,h.get? b=some u->h'.get? b=some u):cS P w H h':=λa o e=>
 (x a o e).mY (λb u _a q=>k b u q) (λ_a q=>q) λ_a _a q=>q
theorem cS.fS (x:cS P w H h) (k:∀b u,h.get? b=some u->h'.get? b=some u) (hp:h.objs.size<=a) (new:dM P w (aj H a o) h' a o):cS P w (aj H a o) h':=λb u e=>by
 have hn:=x.fresh hp;by_cases hb:b=a
 ·subst hb;rw[ao]at e;cases e;exact new
 ·rw[aA hb]at e;exact (x b u e).mY (λc v _a q=>k c v q) (λc q=>by rw[aA (b8 q hn)];exact q) λc xs q=>by rw[aA (b8 q hn)];exact q
end
noncomputable def Rd (H:Hp) (a:Addr) (u:HO):Prop:=H a=some u\/∃o,H a=some (.bI o u)
theorem Rd.ok {P:Program}{w:World}{H:Hp}{h:Heap}{a:Addr}{u:HO}(r:Rd H a u) (x:cS P w H h):dM P w H h a u:=by
 rcases r with r|⟨o,r⟩
 ·exact x a u r
 ·obtain ⟨_,q⟩:=x a _ r;exact q
noncomputable def lK:Option HO->Prop
 |some (.lst _)=>True
 |some (.dK _)=>True
 |some (.dT _)=>True
 |some (.set _ _)=>True
 |some (.ins _ _ _)=>True
 |some (.ext _)=>True
 |_=>False
section
variable {P:Program}{w:World}{H:Hp}{h h':Heap}{x e:Addr}{o':HO}
theorem cS.kK (ok:cS P w H h) (mu:lK (H x)) (he:e=x\/H e=some (.own x)) (k:∀b u,b≠e->h.get? b=some u->h'.get? b=some u) (qL:∃u,h'.get? e=some u)
  (new:dM P w (aj H x o') h' x o'):cS P w (aj H x o') h':=λb u q=>by
 have Lo:∀c y,H c=some (.own y)->c≠x:=λc y r z=>by subst z;rw[r]at mu;exact mu
 have Wu:∀c xs,H c=some (.bP xs)->c≠x:=λc xs r z=>by subst z;rw[r]at mu;exact mu
 by_cases hb:b=x
 ·subst hb;rw[ao]at q;cases q;exact new
 ·rw[aA hb]at q;by_cases oV:b=e
  ·have q':H b=some (.own x):=by
    rcases he with z|z
    ·exact absurd (oV.trans z) hb
    ·rw[oV];exact z
   rw[q]at q';cases q';obtain ⟨v,hv⟩:=qL;exact ⟨v,by rw[oV];exact hv⟩
  ·refine (ok b u q).mY (λc v hc r=>k c v ?_ r) (λc r=>by rw[aA (Lo c b r)];exact r) λc xs r=>by rw[aA (Wu c xs r)];exact r
   rcases hc with rfl|hc
   ·exact oV
   ·rintro rfl;rcases he with z|z
    ·exact Lo c b hc z
    ·rw[hc]at z;cases z;exact hb rfl
end
structure Un (fs ex:List Addr) (H H':Hp) (h h':Heap):Prop where
 keep:∀b o,h.get? b=some o->H b=none->b∉fs->b∉ex->h'.get? b=some o
 fE:∀b o,h.get? b=some o->H b=none->b∈fs->b∉ex->∃sl,h'.get? b=some {o with slots:=sl}
 free:∀b o,h.get? b=some o->H b=none->b∉ex->H' b=none
 there:∀b o,h.get? b=some o->b∉ex->∃o',h'.get? b=some o'
 lL:∀b xs,H b=some (.bP xs)->H' b=some (.bP xs)
 jh:∀b o u,H b=some (.bI o u)->H' b=some (.bI o u)
 lM:∀b ps,H b=some (.oU ps)->∃more,H' b=some (.oU (ps++more))
section
variable {fs Wv ex ex':List Addr}{H H1 H2:Hp}{h h1 h2 h':Heap}{a x e:Addr}{o:HO}
theorem Un.any (u:Un fs ex H H1 h h1) {b:Addr}{ob:Obj}(q:h.get? b=some ob) (n:H b=none) (hx:b∉ex):∃sl,h1.get? b=some {ob with slots:=sl}:=by
 by_cases hb:b∈fs
 ·exact u.fE b ob q n hb hx
 ·exact ⟨ob.slots,u.keep b ob q n hb hx⟩
theorem Un.dX (k:∀b u,h.get? b=some u->h'.get? b=some u):Un fs ex H H h h':=
 ⟨λb ob q _a _a _a=>k b ob q,λb ob q _a _a _a=>⟨ob.slots,k b ob q⟩,λ_a _a _a n _a=>n,λb ob q _a=>⟨ob,k b ob q⟩,λ_a _a q=>q,λ_a _a _a q=>q,λ_a ps q=>⟨#[],by rw[q];simp⟩⟩
theorem Un.refl:Un fs ex H H h h:=Un.dX λ_a _a q=>q
theorem Un.fS (k:∀b u,h.get? b=some u->h'.get? b=some u) (hp:h.objs.size<=a) (hn:H a=none):Un fs ex H (aj H a o) h h' where
 keep:=λb u q _a _a _a=>k b u q
 fE:=λb u q _a _a _a=>⟨u.slots,k b u q⟩
 free:=λb u q n _a=>by rw[aA (xN (xH (Heap.lt_size q) hp))];exact n
 there:=λb u q _a=>⟨u,k b u q⟩
 lL:=λb xs q=>by rw[aA (b8 q hn)];exact q
 jh:=λb u xs q=>by rw[aA (b8 q hn)];exact q
 lM:=λb ps q=>⟨#[],by rw[aA (b8 q hn),q];simp⟩
theorem Un.kK (mu:lK (H x)) (he:e=x\/H e=some (.own x)) (k:∀b u,b≠e->h.get? b=some u->h'.get? b=some u) (qL:∃u,h'.get? e=some u):Un fs ex H (aj H x o) h h':=by
 have hx:∀b,H b=none->b≠x:=λb n z=>by subst z;rw[n]at mu;exact mu
 have hb:∀b,H b=none->b≠e:=λb n z=>by
  subst z;rcases he with r|r
  ·exact hx b n r
  ·rw[n]at r;cases r
 have hm:∀b u,H b=some u->¬lK (some u)->b≠x:=λb u q nm z=>by subst z;rw[q]at mu;exact nm mu
 refine ⟨λb u q n _a _a=>k b u (hb b n) q,λb u q n _a _a=>⟨u.slots,k b u (hb b n) q⟩,λb u q n _a=>by rw[aA (hx b n)];exact n,λb u q _a=>?_,
  λb xs q=>by rw[aA (hm b _ q λz=>z)];exact q,λb u xs q=>by rw[aA (hm b _ q λz=>z)];exact q,λb ps q=>⟨#[],by rw[aA (hm b _ q λz=>z),q];simp⟩⟩
 by_cases oV:b=e
 ·subst oV;exact qL
 ·exact ⟨u,k b u oV q⟩
end
noncomputable def Af (h:Heap) (H:Hp):List Addr:=(List.range h.objs.size).filter λa=>(H a).isSome
noncomputable def iB (h:Heap) (H:Hp):Heap:=PySem.W.hideAll h (Af h H)
theorem Lp (h:Heap) (H:Hp):(iB h H).objs.size=h.objs.size:=PySem.W.hideAll_size _ _
theorem Lr {h:Heap}{H:Hp}{b:Addr}{o:Obj}(e:h.get? b=some o) (n:H b=none):(iB h H).get? b=some o:=
 PySem.W.hideAll_get _ e λhm=>by have q:(H b).isSome=true:=(List.mem_filter.mp hm).2;rw[n]at q;simp at q
theorem Lu {h:Heap}{H:Hp}{b:Addr}{o:Obj}(e:(iB h H).get? b=some o):h.get? b=some o/\H b=none:=by
 have e':h.get? b=some o:=PySem.W.of_hideAll (Af h H) e;refine ⟨e',?_⟩;cases q:H b with
 |none=>rfl
 |some x=>have hm:b∈Af h H:=List.mem_filter.mpr ⟨List.mem_range.mpr (Heap.lt_size e'),by simp[q]⟩;have z:(iB h H).get? b=none:=PySem.W.hideAll_none (Af h H) hm;rw[z]at e;cases e
noncomputable def Ww (g h:Heap) (L:Addr):List (Addr×Obj):=(List.range h.objs.size).filterMap λa=>if a=L\/(g.get? a).isSome=true then none else (h.get? a).map λo=>(a,o)
noncomputable def rest (g h:Heap) (L d:Addr):List (Addr×Obj):=(Ww g h L).filter λp=>decide (p.1≠d)
structure Mod (K:PySem.W.Frag) (mg:Str->Option Value) (base:Heap):Prop where
 tZ:K.In base
 lN:base.Ns mainGlobals mg
 qM:∃mb,base.Ns builtinsNs mb/\∀x:Str,x≠"__name__"->mb x=bootBuiltins x
 nolimit:base.NoLimit
structure Cx where
 prog:Program
 w:World
 K:PySem.W.Frag
 mg:Str->Option Value
 base:Heap
 A:Around
 N:List Str
 ft:Shared
 oW:Hp
 ah:Env
 aJ:List Env
 fT:List Env
 ex:List Addr
 fn:Str->Bool
 eD:Bool
 pn:List (Addr×Obj)
 xe:Value->Shared->Prop
noncomputable def jX (l:List Env):List Addr:=l.filterMap (·.frame)
noncomputable abbrev Cx.fs (X:Cx):List Addr:=jX X.aJ
noncomputable def qN (sc:Scope) (x:Str):Prop:=sc.names.lookup x=some .local\/sc.names.lookup x=some .cell\/sc.names.lookup x=some .free
noncomputable def mZ (sc:Scope) (x:Str):Prop:=sc.names.lookup x=some .local\/sc.names.lookup x=some .cell
noncomputable def Wx (ah:Env) (h:Heap) (m:Str->Option Value) (x:Str) (u:Value):Prop:=
 (ah.kindOf x=some .local/\m x=some u)\/((ah.kindOf x=some .cell\/ah.kindOf x=some .free)/\∃c,ah.cells.lookup x=some c/\h.IsCell c (some u))
structure Cx.Ok (X:Cx):Prop where
 mod:Mod X.K X.mg X.base
 kind:X.ah.scope.kind= .function
 lN:X.ah.globals=mainGlobals
 qM:X.ah.builtins=builtinsNs
 above:X.ft.heap.objs.size<=X.ah.locals
 inj:∀x y c,X.ah.cells.lookup x=some c->X.ah.cells.lookup y=some c->x=y
 has:∀x,(X.ah.kindOf x=some .cell\/X.ah.kindOf x=some .free)->∃c,X.ah.cells.lookup x=some c
 t5:∀x c,X.fn x=true->X.ah.cells.lookup x=some c->X.ft.heap.objs.size<=c
 hd:X.eD=true->X.A.handled=none
 frames:X.A.frames=some X.fT
 Ag:X.fT=X.aJ\/(X.fT=X.ah::X.aJ/\X.ah.frame=some X.ah.locals)
 Ah:∀b∈X.ex,b≠X.ah.locals/\∀x c,X.ah.cells.lookup x=some c->c≠b
 bs:∀b o,X.base.get? b=some o->X.ft.heap.get? b=some o/\X.oW b=none
 kL:X.base.objs.size<=X.ft.heap.objs.size
 t6:∀b o,X.base.get? b=some o->b∉X.ex
 t7:∀b∈X.ex,b∉X.fs
 ji:X.ft.heap.FunFrames X.base X.aJ
 oX:∀b∈X.fs,X.oW b=none
structure az (X:Cx) (ae:List (Addr×Obj)) (σ:List (Option V)) (H:Hp) (s:Shared):Prop where
 ok:X.Ok
 os:s.os=X.ft.os
 eL:AllBare s.gens
 base:Un X.fs X.ex X.oW H X.ft.heap s.heap
 fU:∃m,s.heap.Ns X.ah.locals m/\∀(i:Nat) (x:Str) (v:V),X.N[i]? =some x->σ[i]? =some (some v)->qN X.ah.scope x->∃u,bw v u/\Wx X.ah s.heap m x u
 cell:∀x c,X.ah.cells.lookup x=some c->∃v,s.heap.IsCell c v
 free:H X.ah.locals=none
 iT:∀x c,X.ah.cells.lookup x=some c->H c=none
 iC:∀p∈X.pn++ae,s.heap.get? p.1=some p.2/\H p.1=none/\p.1≠X.ah.locals/\p.1∉X.fs/\∀v,p.2.data≠ .cell v
 aO:cS X.prog X.w H s.heap
 len:σ.length=X.N.length
section
variable {X:Cx}{ae:List (Addr×Obj)}{σ:List (Option V)}{H H':Hp}{s:Shared}{h':Heap}
theorem Cx.Ok.Wy (ok:X.Ok) {b:Addr}{o:Obj}(e:X.base.get? b=some o):b∉X.fs:=λhb=>by have:=(ok.ji.mem hb).1;rw[e]at this;cases this
theorem az.bs (I:az X ae σ H s):∀b o,X.base.get? b=some o->s.heap.get? b=some o/\H b=none:=λb o e=>
 ⟨I.base.keep b o (I.ok.bs b o e).1 (I.ok.bs b o e).2 (I.ok.Wy e) (I.ok.t6 b o e),I.base.free b o (I.ok.bs b o e).1 (I.ok.bs b o e).2 (I.ok.t6 b o e)⟩
theorem az.bk (I:az X ae σ H s):∀b o,X.base.get? b=some o->s.heap.get? b=some o:=λb o e=>(I.bs b o e).1
theorem az.mod (I:az X ae σ H s):Mod X.K X.mg X.base:=I.ok.mod
theorem az.gg (I:az X ae σ H s):X.K.In s.heap:=I.ok.mod.tZ.keeps I.bk
theorem az.fr (I:az X ae σ H s):∃m,Fr X.base X.ah.locals s.heap m:=
 let ⟨m,hn,_⟩:=I.fU
 ⟨m,hn,I.bk,xE I.ok.kL I.ok.above⟩
theorem az.lt (I:az X ae σ H s):X.ah.locals<s.heap.objs.size:=let ⟨_,hn,_⟩:=I.fU;hn.lt
theorem az.sz (I:az X ae σ H s):X.ft.heap.objs.size<=s.heap.objs.size:=xE I.ok.above (xA I.lt)
theorem az.Wz (I:az X ae σ H s) {a:Addr}(h:s.heap.objs.size<=a):a∉X.fs:=λhb=>by obtain ⟨_,o,ho,_⟩:=I.ok.ji.mem hb;exact absurd (xH (Heap.lt_size ho) (xE I.sz h)) (xF _)
theorem az.oY (I:az X ae σ H s):∀x c,X.ah.cells.lookup x=some c->c≠X.ah.locals:=λx c e z=>by obtain ⟨v,o,ho,hd⟩:=I.cell x c e;obtain ⟨m,⟨o',es,ep,iD,Dv,_⟩,_⟩:=I.fU;rw[z,iD]at ho;cases ho;rw[Dv]at hd;cases hd
theorem az.ji (I:az X ae σ H s):s.heap.FunFrames X.base X.aJ:=by
 have all:∀(l:List Env),(∀b∈jX l,b∈X.fs)->X.ft.heap.FunFrames X.base l->s.heap.FunFrames X.base l:=by
  intro l;induction l with
  |nil=>intro _ _;trivial
  |cons ah r ih=>
   intro hs hl;obtain ⟨hk,⟨L,o,hf,hn,ho,hd⟩,hr⟩:=hl;have hL:L∈X.fs:=hs L (by unfold jX;rw[zR,hf];exact yV);obtain ⟨sl,e⟩:=I.base.fE L o ho (I.ok.oX L hL) hL λz=>I.ok.t7 L z hL
   exact ⟨hk,⟨L,_,hf,hn,e,hd⟩,ih (λb hb=>hs b (by unfold jX;rw[zR,hf];exact yU _ hb)) hr⟩
 exact all X.aJ (λ_a hb=>hb) I.ok.ji
theorem az.fT (I:az X ae σ H s):s.heap.FunFrames X.base X.fT:=by
 rcases I.ok.Ag with e|⟨e,hf⟩
 ·rw[e];exact I.ji
 ·rw[e];obtain ⟨m,hn,_⟩:=I.fU;refine .cons (by rw[I.ok.kind];decide) hf hn ?_ I.ji;exact Heap.get?_none_of_le (xE I.ok.kL I.ok.above)
theorem az.Dx (I:az X ae σ H s):∀b∈jX X.fT,b∈X.ah.locals::X.fs:=λb hb=>by
 rcases I.ok.Ag with e|⟨e,hf⟩
 ·rw[e]at hb;exact yU _ hb
 ·rw[e]at hb;unfold jX at hb;rw[zR,hf]at hb;exact hb
theorem az.Lv (I:az X ae σ H s):∀b∈jX X.fT,H b=none:=λb hb=>by
 rcases yT.mp (I.Dx b hb) with e|hb
 ·rw[e];exact I.free
 ·obtain ⟨_,o,ho,_⟩:=I.ok.ji.mem hb;exact I.base.free b o ho (I.ok.oX b hb) λz=>I.ok.t7 b z hb
theorem az.step {g':Array GenState}{t':Nat}{d':Drawn}{ch:List Addr}(I:az X ae σ H s)
  (jb:∀b∈ch,(b∈X.ex\/X.ft.heap.objs.size<=b)/\b≠X.ah.locals/\(∀x c,X.ah.cells.lookup x=some c->c≠b)/\∀p∈X.pn++ae,p.1≠b)
  (keep:∀b o,b≠X.ah.locals->b∉X.fs->b∉ch->s.heap.get? b=some o->H b=none->h'.get? b=some o)
  (fE:∀b o,b≠X.ah.locals->b∈X.fs->b∉ch->s.heap.get? b=some o->H b=none->∃sl,h'.get? b=some {o with slots:=sl}) (free:∀b o,b∉ch->s.heap.get? b=some o->H b=none->H' b=none)
  (there:∀b o,b∉ch->s.heap.get? b=some o->∃o',h'.get? b=some o')
  (lL:∀b xs,H b=some (.bP xs)->H' b=some (.bP xs)) (jh:∀b o u,H b=some (.bI o u)->H' b=some (.bI o u)) (lM:∀b ps,H b=some (.oU ps)->∃more,H' b=some (.oU (ps++more)))
  (ns:∀m,s.heap.Ns X.ah.locals m->h'.Ns X.ah.locals m) (aO:cS X.prog X.w H' h') (hg:AllBare g'):
  az X ae σ H' {s with heap:=h',gens:=g',drawn:=d',toks:=t'}:=by
 have Lw:∀b o,X.ft.heap.get? b=some o->b≠X.ah.locals:=λb o e=>xN (xH (Heap.lt_size e) I.ok.above)
 have Ai:∀b o,X.ft.heap.get? b=some o->b∉X.ex->b∉ch:=λb o e hx hb=>by
  rcases (jb b hb).1 with z|z
  ·exact hx z
  ·exact absurd (xH (Heap.lt_size e) z) (xF _)
 have Lx:∀x c,X.ah.cells.lookup x=some c->∀v,s.heap.IsCell c v->h'.IsCell c v:=λx c e v ⟨o,ho,hd⟩=>by
  have t8:c∉ch:=λz=>(jb c z).2.2.1 x c e rfl
  by_cases hc:c∈X.fs
  ·obtain ⟨sl,q⟩:=fE c o (I.oY x c e) hc t8 ho (I.iT x c e);exact ⟨_,q,hd⟩
  ·exact ⟨o,keep c o (I.oY x c e) hc t8 ho (I.iT x c e),hd⟩
 refine ⟨I.ok,I.os,hg,⟨λb o e n hb hx=>?_,λb o e n hb hx=>?_,λb o e n hx=>?_,λb o e hx=>?_,λb xs e=>lL b xs (I.base.lL b xs e),λb o xs e=>jh b o xs (I.base.jh b o xs e),λb ps e=>?_⟩,?_,λx c e=>?_,?_,λx c e=>?_,λp hp=>?_,aO,I.len⟩
 ·exact keep b o (Lw b o e) hb (Ai b o e hx) (I.base.keep b o e n hb hx) (I.base.free b o e n hx)
 ·obtain ⟨sl,e1⟩:=I.base.fE b o e n hb hx;obtain ⟨WA,e2⟩:=fE b _ (Lw b o e) hb (Ai b o e hx) e1 (I.base.free b o e n hx);exact ⟨WA,e2⟩
 ·obtain ⟨o',e1⟩:=I.base.there b o e hx;exact free b o' (Ai b o e hx) e1 (I.base.free b o e n hx)
 ·obtain ⟨o',e1⟩:=I.base.there b o e hx;exact there b o' (Ai b o e hx) e1
 ·obtain ⟨m1,e1⟩:=I.base.lM b ps e;obtain ⟨m2,e2⟩:=lM b _ e1;exact ⟨m1++m2,by rw[e2,Array.append_assoc]⟩
 ·obtain ⟨m,hn,hl⟩:=I.fU;refine ⟨m,ns m hn,λi x v e1 e2 e3=>?_⟩;obtain ⟨u,r,l⟩:=hl i x v e1 e2 e3;refine ⟨u,r,?_⟩;rcases l with l|⟨k,c,e,z⟩
  ·exact .inl l
  ·exact .inr ⟨k,c,e,Lx x c e _ z⟩
 ·obtain ⟨v,z⟩:=I.cell x c e;exact ⟨v,Lx x c e v z⟩
 ·obtain ⟨m,⟨o,_,_,ho,_⟩,_⟩:=I.fU;exact free _ o (λz=>(jb _ z).2.1 rfl) ho I.free
 ·obtain ⟨v,o,ho,hd⟩:=I.cell x c e;exact free c o (λz=>(jb c z).2.2.1 x c e rfl) ho (I.iT x c e)
 ·obtain ⟨e,n,ne,nf,d⟩:=I.iC p hp;have t8:p.1∉ch:=λz=>(jb p.1 z).2.2.2 p hp rfl
  exact ⟨keep p.1 p.2 ne nf t8 e n,free p.1 p.2 t8 e n,ne,nf,d⟩
theorem az.un {t':Nat}(I:az X ae σ H s) (u:Un X.fs [] H H' s.heap h') (aO:cS X.prog X.w H' h'):az X ae σ H' {s with heap:=h',toks:=t'}:=by obtain ⟨m,⟨o,es,ep,ho,r⟩,_⟩:=id I.fU;obtain ⟨sl,hL⟩:=u.any ho I.free (by simp);exact I.step (g':=s.gens) (d':=s.drawn) (ch:= []) (λ_a z=>nomatch z) (λb o _a hb _a e n=>u.keep b o e n hb (by simp)) (λb o _a hb _a e n=>u.fE b o e n hb (by simp)) (λb o _a e n=>u.free b o e n (by simp)) (λb o _a e=>u.there b o e (by simp)) u.lL u.jh u.lM (λm' hm=>by obtain ⟨o',kM,kN,iD,r'⟩:=hm;rw[ho]at iD;cases iD;exact ⟨_,kM,kN,hL,r'⟩) aO I.eL
theorem az.call {g':Array GenState}{t':Nat}{d':Drawn}{ch:List Addr}(I:az X ae σ H s) (u:Un (jX X.fT) ch H H' s.heap h') (aO:cS X.prog X.w H' h') (hg:AllBare g')
  (jb:∀b∈ch,(b∈X.ex\/X.ft.heap.objs.size<=b)/\b≠X.ah.locals/\(∀x c,X.ah.cells.lookup x=some c->c≠b)/\∀p∈X.pn++ae,p.1≠b):
  az X ae σ H' {s with heap:=h',gens:=g',drawn:=d',toks:=t'}:=by
 obtain ⟨m,⟨o,es,ep,ho,r⟩,_⟩:=id I.fU;obtain ⟨sl,hL⟩:=u.any ho I.free λz=>(jb _ z).2.1 rfl
 exact I.step (ch:=ch) jb (λb o hL hb hc e n=>u.keep b o e n (λz=>(yT.mp (I.Dx b z)).elim hL hb) hc) (λb o _a _a hc e n=>u.any e n hc) (λb o hc e n=>u.free b o e n hc) (λb o hc e=>u.there b o e hc) u.lL u.jh u.lM (λm' hm=>by obtain ⟨o',kM,kN,iD,r'⟩:=hm;rw[ho]at iD;cases iD;exact ⟨_,kM,kN,hL,r'⟩) aO hg
theorem az.gh {t':Nat}{it:Addr}(I:az X ae σ H s) (k:∀b o,b≠it->s.heap.get? b=some o->h'.get? b=some o) (hn:H it=none) (hL:it≠X.ah.locals)
  (h1:it∈X.ex\/X.ft.heap.objs.size<=it) (h2:∀x c,X.ah.cells.lookup x=some c->c≠it) (h3:∀p∈X.pn++ae,p.1≠it):az X ae σ H {s with heap:=h',toks:=t'}:=by
 have Ly:∀b u,H b=some u->b≠it:=λb u e z=>by rw[z,hn]at e;cases e
 refine I.step (g':=s.gens) (d':=s.drawn) (ch:= [it]) (λb hb=>?_) (λb o _a _a hc e _a=>k b o (λz=>hc (by simp[z])) e) (λb o _a _a hc e _a=>⟨o.slots,k b o (λz=>hc (by simp[z])) e⟩) (λ_a _a _a _a n=>n)
  (λb o hc e=>⟨o,k b o (λz=>hc (by simp[z])) e⟩) (λ_a _a e=>e) (λ_a _a _a e=>e) (λb ps e=>⟨#[],by rw[e];simp⟩) (λm hm=>?_) (λb u e=>?_) I.eL
 ·have e:b=it:=by simpa using hb
  subst e;exact ⟨h1,hL,h2,h3⟩
 ·obtain ⟨o,es,ep,ho,r⟩:=hm;exact ⟨o,es,ep,k _ o (xR hL) ho,r⟩
 ·refine (I.aO b u e).mY (λc v hc q=>k c v ?_ q) (λ_a q=>q) λ_a _a q=>q
  rcases hc with z|z
  ·rw[z];exact Ly b u e
  ·exact Ly c _ z
theorem az.eg (I:az X ae σ H s) (t:Nat):az X ae σ H {s with toks:=t}:=I.un (h':=s.heap) (t':=t) Un.refl I.aO
theorem az.dX {t':Nat}(I:az X ae σ H s) (k:∀b u,s.heap.get? b=some u->h'.get? b=some u):az X ae σ H {s with heap:=h',toks:=t'}:=I.un (Un.dX k) (I.aO.dX k)
theorem az.fS {a:Addr}{o:HO}{t':Nat}(I:az X ae σ H s) (k:∀b u,s.heap.get? b=some u->h'.get? b=some u) (hp:s.heap.objs.size<=a) (new:dM X.prog X.w (aj H a o) h' a o):
  az X ae σ (aj H a o) {s with heap:=h',toks:=t'}:=I.un (Un.fS k hp (I.aO.fresh hp)) (I.aO.fS k hp new)
theorem az.kK {x e:Addr}{o:HO}{t':Nat}(I:az X ae σ H s) (mu:lK (H x)) (he:e=x\/H e=some (.own x)) (k:∀b u,b≠e->s.heap.get? b=some u->h'.get? b=some u) (qL:∃u,h'.get? e=some u)
  (new:dM X.prog X.w (aj H x o) h' x o):az X ae σ (aj H x o) {s with heap:=h',toks:=t'}:=I.un (Un.kK mu he k qL) (I.aO.kK mu he k qL new)
theorem az.WB {bu:List (Option V)}(I:az X ae σ H s) (hl:bu.length=σ.length) (w:∀(i:Nat) v,bu[i]? =some (some v)->σ[i]? =some (some v)):az X ae bu H s:=
 ⟨I.ok,I.os,I.eL,I.base,let ⟨m,hn,kF⟩:=I.fU;⟨m,hn,λi x v e1 e2 e3=>kF i x v e1 (w i v e2) e3⟩,I.cell,I.free,I.iT,I.iC,I.aO,hl.trans I.len⟩
theorem az.Lz {LA:List (Addr×Obj)}(I:az X ae σ H s) (h:∀p∈LA,s.heap.get? p.1=some p.2/\H p.1=none/\p.1≠X.ah.locals/\p.1∉X.fs/\∀v,p.2.data≠ .cell v):az X LA σ H s:=
 ⟨I.ok,I.os,I.eL,I.base,I.fU,I.cell,I.free,I.iT,λp hp=>(List.mem_append.mp hp).elim (λz=>I.iC p (yR _ z)) (h p),I.aO,I.len⟩
theorem Dy {N:List Str}(hN:N.Nodup) {i j:Nat}{x:Str}(a:N[i]? =some x) (b:N[j]? =some x):i=j:=by obtain ⟨h1,e1⟩:=List.getElem?_eq_some_iff.mp a;obtain ⟨h2,e2⟩:=List.getElem?_eq_some_iff.mp b;exact (yn hN).mp (e1.trans e2.symm)
theorem LB {M:Model}{A:Around}{E:Value->Shared->Prop}{i:Nat}{x:Str}{v:V}{u:Value}{Q:Unit->Shared->Prop}(I:az X ae σ H s) (hN:X.N.Nodup) (hi:X.N[i]? =some x) (hx:mZ X.ah.scope x) (r:bw v u)
  (h:∀s',az X ae (σ.set i (some v)) H s'->(∃a,Heap.SameBut a s.heap s'.heap/\(a=X.ah.locals\/X.ah.cells.lookup x=some a))->Q () s') (hf:X.fn x=true\/X.ah.scope.names.lookup x=some .local:=by first|exact .inl rfl|exact .inr rfl|assumption):wpAny M A (storeName X.ah x u) Q E s:=by
 obtain ⟨m,hn,hl⟩:=id I.fU;have WC:(X.ah.scope.kind== .class||(X.ah.scope.kind== .module&&X.ah.locals !=X.ah.globals))=false:=by rw[I.ok.kind];rfl
 have LC:i<σ.length:=by rw[I.len];exact (List.getElem?_eq_some_iff.mp hi).1
 have oY:=I.oY;have LD:∀{a:Addr}{h':Heap},(∃o,s.heap.get? a=some o/\H a=none)->Heap.SameBut a s.heap h'->cS X.prog X.w H h':=fun {a h'} ha hs b ob e=>by
  obtain ⟨_,_,qO⟩:=ha;refine (I.aO b ob e).mY (λc w' hc q=>(hs.2 c ?_).trans q) (λ_a q=>q) λ_a _a q=>q
  rintro rfl;rcases hc with rfl|hc
  ·rw[qO]at e;cases e
  ·rw[qO]at hc;cases hc
 rcases hx with hk|hk
 ·refine wpAny_storeName_local hk hn (λh' Di hs=>?_) WC;obtain ⟨oL,_,_,WD,_⟩:=id hn;refine h _ ⟨I.ok,I.os,I.eL,⟨λb o e n hb hx=>?_,λb o e n hb hx=>?_,I.base.free,λb o e hx=>?_,I.base.lL,I.base.jh,I.base.lM⟩,⟨_,Di,λj y v' e1 e2 e3=>?_⟩,λy c e=>?_,I.free,I.iT,λp hp=>?_,LD ⟨oL,WD,I.free⟩ hs,by simpa using I.len⟩ ⟨_,hs,.inl rfl⟩
  ·exact (hs.2 b (xN (xH (Heap.lt_size e) I.ok.above))).trans (I.base.keep b o e n hb hx)
  ·obtain ⟨sl,e1⟩:=I.base.fE b o e n hb hx;exact ⟨sl,(hs.2 b (xN (xH (Heap.lt_size e) I.ok.above))).trans e1⟩
  ·obtain ⟨o',e1⟩:=I.base.there b o e hx;exact ⟨o',(hs.2 b (xN (xH (Heap.lt_size e) I.ok.above))).trans e1⟩
  ·by_cases hj:j=i
   ·subst hj;rw[hi]at e1;cases e1;rw[yk LC]at e2;cases e2;exact ⟨u,r,.inl ⟨hk,by simp⟩⟩
   ·rw[yj (xR hj)]at e2;obtain ⟨u',r',q⟩:=hl j y v' e1 e2 e3;refine ⟨u',r',?_⟩;rcases q with ⟨k,e⟩|⟨k,c,e,z⟩
    ·refine .inl ⟨k,?_⟩;have:y≠x:=λe=>hj (Dy hN e1 (e▸hi))
     simp[this,e]
    ·exact .inr ⟨k,c,e,z.sameBut hs (oY y c e)⟩
  ·obtain ⟨w',z⟩:=I.cell y c e;exact ⟨w',z.sameBut hs (oY y c e)⟩
  ·obtain ⟨e,n,ne,nf,d⟩:=I.iC p hp;exact ⟨(hs.2 p.1 ne).trans e,n,ne,nf,d⟩
 ·have Dz:X.fn x=true:=by
   rcases hf with z|z
   ·exact z
   ·rw[z]at hk;cases hk
  obtain ⟨c,hc⟩:=I.ok.has x (.inl hk);obtain ⟨w',z⟩:=I.cell x c hc;refine wpAny_storeName_cell I.ok.kind hk hc z (λh' LF hs=>?_);obtain ⟨oc,DA,WE⟩:=id z;refine h {s with heap:=h'} ⟨I.ok,I.os,I.eL,⟨λb o e n hb hx=>?_,λb o e n hb hx=>?_,I.base.free,λb o e hx=>?_,I.base.lL,I.base.jh,I.base.lM⟩,⟨m,hn.sameBut hs (xR (oY x c hc)),λj y v' e1 e2 e3=>?_⟩,λy c' e=>?_,I.free,I.iT,λp hp=>?_,LD ⟨oc,DA,I.iT x c hc⟩ hs,by simpa using I.len⟩ ⟨c,hs,.inr hc⟩
  ·exact (hs.2 b (xN (xH (Heap.lt_size e) (I.ok.t5 x c Dz hc)))).trans (I.base.keep b o e n hb hx)
  ·obtain ⟨sl,e1⟩:=I.base.fE b o e n hb hx;exact ⟨sl,(hs.2 b (xN (xH (Heap.lt_size e) (I.ok.t5 x c Dz hc)))).trans e1⟩
  ·obtain ⟨o',e1⟩:=I.base.there b o e hx;exact ⟨o',(hs.2 b (xN (xH (Heap.lt_size e) (I.ok.t5 x c Dz hc)))).trans e1⟩
  ·by_cases hj:j=i
   ·subst hj;rw[hi]at e1;cases e1;rw[yk LC]at e2;cases e2;exact ⟨u,r,.inr ⟨.inl hk,c,hc,LF⟩⟩
   ·rw[yj (xR hj)]at e2;obtain ⟨u',r',q⟩:=hl j y v' e1 e2 e3;refine ⟨u',r',?_⟩;rcases q with q|⟨k,c',e,z'⟩
    ·exact .inl q
    ·refine .inr ⟨k,c',e,z'.sameBut hs ?_⟩;rintro rfl;exact hj (Dy hN e1 (I.ok.inj _ _ _ e hc▸hi))
  ·by_cases LG:c'=c
   ·subst LG;exact ⟨_,LF⟩
   ·obtain ⟨w2,z2⟩:=I.cell y c' e;exact ⟨w2,z2.sameBut hs LG⟩
  ·obtain ⟨e,n,ne,nf,d⟩:=I.iC p hp;refine ⟨(hs.2 p.1 ?_).trans e,n,ne,nf,d⟩;intro q;rw[q,DA]at e;have q':oc=p.2:=xX e;exact d w' (by rw[←q'];exact WE)
theorem DB {M:Model}{A:Around}{E:Value->Shared->Prop}{i:Nat}{x:Str}{v:V}{u:Value}{Q:Unit->Shared->Prop}(I:az X ae σ H s) (hN:X.N.Nodup) (hi:X.N[i]? =some x) (hx:mZ X.ah.scope x) (r:bw v u)
  (h:∀s',az X ae (σ.set i (some v)) H s'->Q () s') (hf:X.fn x=true\/X.ah.scope.names.lookup x=some .local:=by first|exact .inl rfl|exact .inr rfl|assumption):wpAny M A (storeName X.ah x u) Q E s:=
 LB I hN hi hx r (λs' I' _a=>h s' I') hf
theorem az.WG {s':Shared}{ch:List Addr}(I:az X ae σ H s) (ho:s'.os=s.os) (u:Un (jX X.fT) ch H H' s.heap s'.heap) (aO:cS X.prog X.w H' s'.heap) (hg:AllBare s'.gens)
  (jb:∀b∈ch,(b∈X.ex\/X.ft.heap.objs.size<=b)/\b≠X.ah.locals/\(∀x c,X.ah.cells.lookup x=some c->c≠b)/\∀p∈X.pn++ae,p.1≠b):az X ae σ H' s':=by
 obtain ⟨h',g',d',t',o'⟩:=s';have e:o'=s.os:=ho;subst e;exact I.call (g':=g') (t':=t') (d':=d') u aO hg jb
end
noncomputable abbrev XK:=Value->Option Addr->Hp->Prop
noncomputable abbrev St:=List (Option V)
noncomputable abbrev VK:=V->Hp->Prop
noncomputable abbrev TE:=St->Hp->VK->Prop
noncomputable abbrev TT:=St->Hp->(Bool->Hp->Prop)->Prop
noncomputable abbrev TA:=St->Hp->(List V->Hp->Prop)->Prop
structure lO where
 nx:St->Hp->Prop
 rt:VK
 bk:St->Hp->Prop:=λ_a _a=>False
 ct:St->Hp->Prop:=λ_a _a=>False
noncomputable abbrev TS:=lO->St->Hp->Prop
noncomputable def EP (X:Cx) (ae:List (Addr×Obj)) (σ:St) (Q:VK) (u:Value) (s':Shared):Prop:=∃v H',az X ae σ H' s'/\bw v u/\Q v H'
noncomputable def TP (X:Cx) (ae:List (Addr×Obj)) (σ:St) (Q:Bool->Hp->Prop) (b:Bool) (s':Shared):Prop:=∃H',az X ae σ H' s'/\Q b H'
noncomputable def AP (X:Cx) (ae:List (Addr×Obj)) (σ:St) (Q:List V->Hp->Prop) (us:List Value) (s':Shared):Prop:=∃vs H',az X ae σ H' s'/\aV vs us/\Q vs H'
noncomputable def SP (X:Cx) (ae:List (Addr×Obj)) (D:lO) (f:Flow) (s':Shared):Prop:=
 match f with
 | .next=>∃bu H',az X ae bu H' s'/\D.nx bu H'
 | .brk=>∃bu H',az X ae bu H' s'/\D.bk bu H'
 | .cont=>∃bu H',az X ae bu H' s'/\D.ct bu H'
 | .ret u=>∃v bu H',az X ae bu H' s'/\bw v u/\D.rt v H'
noncomputable def PE (X:Cx) (e:Expr) (t:TE):Prop:=
 ∀(ae:List (Addr×Obj)) (s:Shared) (σ:St) (H:Hp) (Q:VK),az X ae σ H s->t σ H Q->wpAny (model X.prog X.w) X.A (eval e X.ah) (EP X ae σ Q) X.xe s
noncomputable def PT (X:Cx) (e:Expr) (t:TT):Prop:=
 ∀(ae:List (Addr×Obj)) (s:Shared) (σ:St) (H:Hp) (Q:Bool->Hp->Prop),az X ae σ H s->t σ H Q->wpAny (model X.prog X.w) X.A (isTrue e X.ah (eval e X.ah)) (TP X ae σ Q) X.xe s
noncomputable def PW (X:Cx) (e:Expr) (t:TT):Prop:=
 ∀(whole:Sem Value) (ae:List (Addr×Obj)) (s:Shared) (σ:St) (H:Hp) (Q:Bool->Hp->Prop),az X ae σ H s->t σ H Q->wpAny (model X.prog X.w) X.A (isTrue e X.ah whole) (TP X ae σ Q) X.xe s
theorem PW.pt {X:Cx}{e:Expr}{t:TT}(h:PW X e t):PT X e t:=h _
noncomputable def PA (X:Cx) (es:List Expr) (t:TA):Prop:=
 ∀(pos:Pos) (ae:List (Addr×Obj)) (s:Shared) (σ:St) (H:Hp) (Q:List V->Hp->Prop),az X ae σ H s->t σ H Q->wpAny (model X.prog X.w) X.A (spliced (backTo pos (starEach es X.ah))) (AP X ae σ Q) X.xe s
noncomputable def PS (X:Cx) (st:Stmt) (t:TS):Prop:=
 ∀(ae:List (Addr×Obj)) (s:Shared) (σ:St) (H:Hp) (D:lO),az X ae σ H s->t D σ H->wpAny (model X.prog X.w) X.A (exec st X.ah) (SP X ae D) X.xe s
noncomputable def gL (X:Cx) (st:List Stmt) (t:TS):Prop:=
 ∀(ae:List (Addr×Obj)) (s:Shared) (σ:St) (H:Hp) (D:lO),az X ae σ H s->t D σ H->wpAny (model X.prog X.w) X.A (execs st X.ah) (SP X ae D) X.xe s
theorem aY {α:Type}{t:Sem α}{Q Q':α->Shared->Prop}{M:Model}{A:Around}{E:Value->Shared->Prop}{s:Shared}(h:wpAny M A t Q E s) (hQ:∀a s,Q a s->Q' a s):wpAny M A t Q' E s:=wpAny_mono h hQ λ_a _a x=>x
section
variable {X:Cx}
theorem bin {a b:Expr}{ta tb:TE}(ha:PE X a ta) (hb:PE X b tb) {ae:List (Addr×Obj)}{s:Shared}{σ:St}{H:Hp}{R:V->V->Hp->Prop}(I:az X ae σ H s) (h:ta σ H λx H1=>tb σ H1 λy H2=>R x y H2)
  {α:Type}{Q:α->Shared->Prop}{f:Value->Value->Sem α}
  (hf:∀v u s2 x y H2,az X ae σ H2 s2->bw x v->bw y u->R x y H2->wpAny (model X.prog X.w) X.A (f v u) Q X.xe s2):
  wpAny (model X.prog X.w) X.A (eval a X.ah) (λv bB=>wpAny (model X.prog X.w) X.A (eval b X.ah) (λu eM=>wpAny (model X.prog X.w) X.A (f v u) Q X.xe eM) X.xe bB) X.xe s:=by
 refine aY (ha ae s σ H _ I h) λv s1 ⟨x,H1,I1,r1,q1⟩=>?_
 refine aY (hb ae s1 σ H1 _ I1 q1) λu s2 ⟨y,H2,I2,r2,q2⟩=>?_
 exact hf v u s2 x y H2 I2 r1 r2 q2
noncomputable def lP (i:Nat):TE:=λσ H Q=>∃v,σ[i]? =some (some v)/\Q v H
noncomputable def tC (v:V):TE:=λ_a H Q=>Q v H
theorem WH {i:Nat}{x:Str}{pos:Pos}(hN:X.N[i]? =some x) (hv:qN X.ah.scope x) (hd:(x==("__debug__":Str))=false:=by decide) (lQ:(x==("__classdict__":Str))=false:=by decide):PE X (.Name x pos) (lP i):=by
 intro ae s σ H Q I h;obtain ⟨v,e,h⟩:=h;obtain ⟨m,hn,hl⟩:=I.fU;obtain ⟨u,r,l⟩:=hl i x v hN e hv;have fin:EP X ae σ Q u s:=⟨v,H,I,r,h⟩;rcases l with ⟨hk,hm⟩|⟨hk,c,hc,Aj⟩
 ·exact wpAny_Name (wpAny_loadName_local I.ok.kind hk hn hm fin) hd
 ·rcases hk with hk|hk
  ·exact wpAny_Name (wpAny_loadName_cell I.ok.kind hk hc Aj fin) hd
  ·exact wpAny_Name (wpAny_loadName_free I.ok.kind hk hc Aj fin lQ) hd
theorem aH {i j pos}:PE X (.Constant (.int i) j pos) (tC (.int i)):=λ_a _a _a H _a I h=>wpAny_Constant_int ⟨.int i,H,I.eg _,⟨_,rfl⟩,h⟩
theorem Ak {b j pos}:PE X (.Constant (.bool b) j pos) (tC (.bl b)):=λ_a _a _a H _a I h=>Constant_bool ⟨.bl b,H,I,rfl,h⟩
theorem dY {x j pos}:PE X (.Constant (.str x) j pos) (tC (.str x)):=λ_a _a _a H _a I h=>Calls.Constant_str ⟨.str x,H,I.eg _,⟨_,rfl⟩,h⟩
noncomputable def Gl (X:Cx) (x:Str):Prop:=X.ah.kindOf x=some .globalImplicit
theorem qP {E:Value->Shared->Prop}{ae:List (Addr×Obj)}{s:Shared}{σ:St}{H:Hp}{x:Str}{u:Value}{pos:Pos}{Q:Value->Shared->Prop}(I:az X ae σ H s) (hg:Gl X x) (hm:X.mg x=some u) (h:Q u s)
  (hd:(x==("__debug__":Str))=false:=by decide):wpAny (model X.prog X.w) X.A (eval (.Name x pos) X.ah) Q E s:=
 Calls.Name_function_global I.ok.kind hg (Calls.loadGlobal_global (by rw[I.ok.lN];exact I.mod.lN.keeps I.bk) hm h) hd
theorem Al {E:Value->Shared->Prop}{ae:List (Addr×Obj)}{s:Shared}{σ:St}{H:Hp}{x:Str}{u:Value}{pos:Pos}{Q:Value->Shared->Prop}(I:az X ae σ H s) (hg:Gl X x) (hm:X.mg x=none) (hv:bootBuiltins x=some u) (h:Q u s)
  (hn:x≠"__name__":=by decide) (hd:(x==("__debug__":Str))=false:=by decide):wpAny (model X.prog X.w) X.A (eval (.Name x pos) X.ah) Q E s:=by
 obtain ⟨mb,h1,h2⟩:=I.mod.qM;exact Calls.Name_function_global I.ok.kind hg (Calls.loadGlobal_builtin (by rw[I.ok.lN];exact I.mod.lN.keeps I.bk) hm (by rw[I.ok.qM];exact h1.keeps I.bk) ((h2 x hn).trans hv) h) hd
theorem LH {x:Str}{v:V}{u:Value}{pos:Pos}(hg:Gl X x) (hm:X.mg x=some u) (r:bw v u) (hd:(x==("__debug__":Str))=false:=by decide):PE X (.Name x pos) (tC v):=
 λ_a _a _a H _a I h=>qP I hg hm ⟨v,H,I,r,h⟩ hd
variable {a b:Expr}{ta tb:TE}{pos:Pos}
noncomputable def PC (X:Cx) (op:CmpOp) (a b:Expr) (t:TE):Prop:=
 ∀(ae:List (Addr×Obj)) (s:Shared) (σ:St) (H:Hp) (Q:VK),az X ae σ H s->t σ H Q->
  wpAny (model X.prog X.w) X.A (eval a X.ah) (λv bB=>wpAny (model X.prog X.w) X.A (eval b X.ah) (λu eM=>wpAny (model X.prog X.w) X.A (compareOp op v u) (EP X ae σ Q) X.xe eM) X.xe bB) X.xe s
theorem LI (b:Expr) {op:CmpOp}(h:op≠ .In) (h2:op≠ .NotIn):behindInMarks op b=false:=by
 have e1:(op==CmpOp.In)=false:=by cases op<;>first|rfl|exact absurd rfl h
 have e2:(op==CmpOp.NotIn)=false:=by cases op<;>first|rfl|exact absurd rfl h2
 cases b<;>simp[behindInMarks,e1,e2]
noncomputable def tB (t:TE):TT:=λσ H Q=>t σ H λx H1=>∃c,x= .bl c/\Q c H1
theorem WI {op:CmpOp}{t:TE}(h:PC X op a b t) (h1:behindInMarks op b=false:=by first|exact LI _ ZE ZE|rfl):PE X (.Compare a [op] [b] pos) t:=λae s σ H Q I hw=>wpAny_Compare1 (h ae s σ H Q I hw) h1
theorem WJ {op:CmpOp}{t:TE}(h:PC X op a b t) (h1:behindInMarks op b=false:=by first|exact LI _ ZE ZE|rfl):PT X (.Compare a [op] [b] pos) (tB t):=by intro ae s σ H Q I hw;refine wpAny_isTrue_Compare1 (aY (h ae s σ H _ I hw) λv s1 h1=>aY h1 λu s2 h2=>aY h2 λc s3 ⟨x,H1,I1,r1,q1⟩=>?_) h1;obtain ⟨d,rfl,q⟩:=q1;cases r1;exact wpAny_truthy_bool ⟨H1,I1,q⟩
theorem cN {e:Expr}{t:TE}(h:PE X e t) (he:∀whole,isTrue e X.ah whole=(do let v ←whole;standAt e.pos;holding [v] (truthy v)):=by intro _;rfl):PT X e (tB t):=by intro ae s σ H Q I hw;refine isTrue_plain (aY (h ae s σ H _ I hw) λv s1 ⟨x,H1,I1,r1,q1⟩=>?_) (he _);obtain ⟨d,rfl,q⟩:=q1;cases r1;exact wpAny_truthy_bool ⟨H1,I1,q⟩
variable {tA Am:TT}{rest:List Expr}
noncomputable def WK (t u:TT):TT:=λσ H Q=>t σ H λc H1=>if c=true then u σ H1 Q else Q false H1
noncomputable def WL (t u:TT):TT:=λσ H Q=>t σ H λc H1=>if c=true then Q true H1 else u σ H1 Q
noncomputable def WM (t:TT):TT:=λσ H Q=>t σ H λc H1=>Q (!c) H1
theorem qQ (ha:PT X a tA):PW X (.BoolOp .And [a] pos) tA:=by
 intro wh ae s σ H Q I h;refine isTrue_and (aY (ha ae s σ H Q I h) λc s1 e=>?_);cases c with
 |true=>exact isTrue_and_nil e
 |false=>exact e
theorem iE (ha:PT X a tA):PW X (.BoolOp .Or [a] pos) tA:=by
 intro wh ae s σ H Q I h;refine isTrue_or (aY (ha ae s σ H Q I h) λc s1 e=>?_);cases c with
 |false=>exact isTrue_or_nil e
 |true=>exact e
theorem oZ (ha:PT X a tA) (hb:PW X (.BoolOp .And (b::rest) pos) Am):PW X (.BoolOp .And (a::b::rest) pos) (WK tA Am):=by
 intro wh ae s σ H Q I h;refine isTrue_and (aY (ha ae s σ H _ I h) λc s1 ⟨H1,I1,q1⟩=>?_);cases c with
 |true=>exact hb wh ae s1 σ H1 Q I1 q1
 |false=>exact ⟨H1,I1,q1⟩
theorem gM (ha:PT X a tA) (hb:PW X (.BoolOp .Or (b::rest) pos) Am):PW X (.BoolOp .Or (a::b::rest) pos) (WL tA Am):=by
 intro wh ae s σ H Q I h;refine isTrue_or (aY (ha ae s σ H _ I h) λc s1 ⟨H1,I1,q1⟩=>?_);cases c with
 |true=>exact ⟨H1,I1,q1⟩
 |false=>exact hb wh ae s1 σ H1 Q I1 q1
theorem cJ (ha:PT X a tA):PT X (.UnaryOp .Not a pos) (WM tA):=by intro ae s σ H Q I h;exact isTrue_not (ha ae s σ H (λc H1=>Q (!c) H1) I h)
noncomputable def WN (ta tb:TE):TE:=λσ H Q=>ta σ H λx H1=>∃c,x= .bl c/\if c=true then tb σ H1 Q else Q (.bl false) H1
theorem DC {op} {t:TE}(h:PE X a t):PE X (.BoolOp op [a] pos) t:=λae s σ H Q I hw=>BoolOp_one (h ae s σ H Q I hw)
theorem DD (ha:PE X a ta) (hb:PE X (.BoolOp .And (b::rest) pos) tb):PE X (.BoolOp .And (a::b::rest) pos) (WN ta tb):=by
 intro ae s σ H Q I h;refine BoolOp_and (aY (ha ae s σ H _ I h) λv s1 ⟨x,H1,I1,r1,q1⟩=>?_);obtain ⟨c,rfl,q1⟩:=q1;cases r1;refine wpAny_truthy_bool ?_;cases c with
 |true=>exact hb ae s1 σ H1 Q I1 q1
 |false=>exact ⟨.bl false,H1,I1,rfl,q1⟩
noncomputable def WO (t:TT) (ta tb:TE):TE:=λσ H Q=>t σ H λc H1=>if c=true then ta σ H1 Q else tb σ H1 Q
theorem DE {c:Expr}(hc:PT X c tA) (ha:PE X a ta) (hb:PE X b tb):PE X (.IfExp c a b pos) (WO tA ta tb):=by
 intro ae s σ H Q I h;refine wpAny_IfExp (aY (hc ae s σ H _ I h) λd s1 ⟨H1,I1,q1⟩=>?_);cases d with
 |true=>exact ha ae s1 σ H1 Q I1 q1
 |false=>exact hb ae s1 σ H1 Q I1 q1
end
noncomputable def ag (K:PySem.W.Frag) (H:Hp) (a:Addr) (xs:List V):Prop:=
 Rd H a (.lst xs)\/
  ∃(o:Obj) (ay:Array Value) (n:Nat),K.lookup a=some o/\o.cls= .type "list"/\o.dict=none/\o.data= .seq ay n/\ay.size<=sizeLine/\aV xs ay.toList
noncomputable def cu (K:PySem.W.Frag) (H:Hp) (a:Addr) (xs:List V):Prop:=
 Rd H a (.bP xs)\/
  ∃(o:Obj) (ay:Array Value) (n:Nat),K.lookup a=some o/\o.cls= .type "tuple"/\o.data= .seq ay n/\ay.size<=sizeLine/\aV xs ay.toList
noncomputable def lR:Value->Option V
 | .none=>some .bT
 | .bool b=>some (.bl b)
 | .int i _=>some (.int i)
 | .str x _=>some (.str x)
 | .bytes b _=>some (.gJ b)
 | .float b _=>some (.Ae b)
 | .ref a=>some (.ref a)
 | .type n=>some (.ty n)
 |_=>none
theorem bw.abs {x:V}{u:Value}(r:bw x u):lR u=some x:=by
 cases x with
 |bT=>cases r;rfl
 |bl _=>cases r;rfl
 |int _=>obtain ⟨t,rfl⟩:=r;rfl
 |str _=>obtain ⟨t,rfl⟩:=r;rfl
 |gJ _=>obtain ⟨t,rfl⟩:=r;rfl
 |Ae _=>obtain ⟨t,rfl⟩:=r;rfl
 |ref _=>cases r;rfl
 |ty _=>cases r;rfl
theorem bw.inj {x y:V}{u:Value}(r:bw x u) (q:bw y u):x=y:=xX (r.abs.symm.trans q.abs)
theorem aV.inj:∀{xs ys:List V}{us:List Value},aV xs us->aV ys us->xs=ys
 |_,_,_,.nil,.nil=>rfl
 |_,_,_,.cons r t,.cons r' t'=>by rw[r.inj r',aV.inj t t']
section
variable {X:Cx}{ae:List (Addr×Obj)}{σ:St}{H:Hp}{s:Shared}{a:Addr}{xs ys:List V}
theorem ag.of {K:PySem.W.Frag}(h:H a=some (.lst xs)):ag K H a xs:= .inl (.inl h)
theorem cu.of {K:PySem.W.Frag}(h:H a=some (.bP xs)):cu K H a xs:= .inl (.inl h)
theorem az.list (I:az X ae σ H s) (h:ag X.K H a xs):∃ay:List Value,aV xs ay/\PlainL s.heap a ay.toArray/\xs.length<=sizeLine:=by
 rcases h with h|⟨o,ay,n,hk,hc,hd,hs,hz,r⟩
 ·obtain ⟨z,ay,n,r,e⟩:=h.ok I.aO;exact ⟨ay,r,⟨_,n,e,rfl,rfl,rfl⟩,z⟩
 ·refine ⟨ay.toList,r,⟨o,n,I.gg a o hk,hc,hd,by simpa using hs⟩,?_⟩;have e:=r.length;simp only[z9]at e;omega
theorem az.tuple (I:az X ae σ H s) (h:cu X.K H a xs):∃ay:List Value,aV xs ay/\IsTup s.heap a ay.toArray/\xs.length<=sizeLine:=by
 rcases h with h|⟨o,ay,n,hk,hc,hs,hz,r⟩
 ·obtain ⟨z,ay,r,p⟩:=h.ok I.aO;exact ⟨ay,r,p,z⟩
 ·refine ⟨ay.toList,r,⟨o,I.gg a o hk,hc,n,by simpa using hs⟩,?_⟩;have e:=r.length;simp only[z9]at e;omega
theorem az.DF (I:az X ae σ H s) (h:ag X.K H a xs) (h':ag X.K H a ys):xs=ys:=by
 obtain ⟨ay,r,⟨o,n,e,_,_,d⟩,_⟩:=I.list h;obtain ⟨gN,r',⟨o',n',e',_,_,d'⟩,_⟩:=I.list h';rw[e]at e';cases e';rw[d]at d';injection d' with d1 _;have:ay=gN:=by simpa using Zo Array.toList d1
 subst this;exact r.inj r'
theorem az.DG (I:az X ae σ H s) (h:cu X.K H a xs) (h':cu X.K H a ys):xs=ys:=by
 obtain ⟨ay,r,⟨o,e,_,n,d⟩,_⟩:=I.tuple h;obtain ⟨gN,r',⟨o',e',_,n',d'⟩,_⟩:=I.tuple h';rw[e]at e';cases e';rw[d]at d';injection d' with d1 _;have:ay=gN:=by simpa using Zo Array.toList d1
 subst this;exact r.inj r'
end
noncomputable abbrev Cx.kP (X:Cx) (E:Value->Shared->Prop):Cx:={X with xe:=E}
noncomputable abbrev Cx.o5 (X:Cx):Cx:=X.kP λ_a _a=>False
theorem Cx.Ok.kP {X:Cx}(ok:X.Ok) (E:Value->Shared->Prop):(X.kP E).Ok:=
 ⟨ok.mod,ok.kind,ok.lN,ok.qM,ok.above,ok.inj,ok.has,ok.t5,ok.hd,ok.frames,ok.Ag,ok.Ah,ok.bs,ok.kL,ok.t6,ok.t7,ok.ji,ok.oX⟩
theorem Cx.Ok.ng {X:Cx}{E:Value->Shared->Prop}(ok:(X.kP E).Ok):X.Ok:=
 ⟨ok.mod,ok.kind,ok.lN,ok.qM,ok.above,ok.inj,ok.has,ok.t5,ok.hd,ok.frames,ok.Ag,ok.Ah,ok.bs,ok.kL,ok.t6,ok.t7,ok.ji,ok.oX⟩
section
variable {X:Cx}{ae:List (Addr×Obj)}{σ:St}{H:Hp}{s:Shared}{E:Value->Shared->Prop}
theorem az.kP (I:az X ae σ H s) (E:Value->Shared->Prop):az (X.kP E) ae σ H s:=⟨I.ok.kP E,I.os,I.eL,I.base,I.fU,I.cell,I.free,I.iT,I.iC,I.aO,I.len⟩
theorem az.ng (I:az (X.kP E) ae σ H s):az X ae σ H s:=⟨I.ok.ng,I.os,I.eL,I.base,I.fU,I.cell,I.free,I.iT,I.iC,I.aO,I.len⟩
set_option tactic.hygienic true in
theorem SP.ng {D:lO}{f:Flow}{s':Shared}(h:SP (X.kP E) ae D f s'):SP X ae D f s':=by
 cases f with
 |next=>obtain ⟨bu,H',I,q⟩:=h;exact ⟨bu,H',I.ng,q⟩
 |brk=>obtain ⟨bu,H',I,q⟩:=h;exact ⟨bu,H',I.ng,q⟩
 |cont=>obtain ⟨bu,H',I,q⟩:=h;exact ⟨bu,H',I.ng,q⟩
 |ret u=>obtain ⟨v,bu,H',I,r,q⟩:=h;exact ⟨v,bu,H',I.ng,r,q⟩
theorem gL.o5 {st:List Stmt}{t:TS}(h:gL X.o5 st t):gL X st t:=λae s σ H D I hw=>
 wpAny_mono (h ae s σ H D (I.kP _) hw) (λ_a _a q=>q.ng) λ_a _a z=>False.elim z
end
section
variable {X:Cx}{st:Stmt}{rest:List Stmt}{t u:TS}{e:Expr}{te:TE}{pos:Pos}
noncomputable def WQ:TS:=λD σ H=>D.nx σ H
noncomputable def WR (t u:TS):TS:=λD σ H=>t {D with nx:=u D} σ H
theorem aZ:gL X [] WQ:=λ_a _a σ H _a I h=>wpAny_execs_nil ⟨σ,H,I,h⟩
set_option tactic.hygienic true in
theorem aB (h1:PS X st t) (h2:gL X rest u):gL X (st::rest) (WR t u):=by
 intro ae s σ H D I h;refine wpAny_execs_cons (aY (h1 ae s σ H {D with nx:=u D} I h) λf s1 q=>?_);cases f with
 |next=>obtain ⟨bu,H',I',q⟩:=q;exact h2 ae s1 bu H' D I' q
 |ret v=>exact q
 |brk=>exact q
 |cont=>exact q
set_option tactic.hygienic true in
theorem aC (h1:PS X st t):gL X [st] t:=by
 intro ae s σ H D I h;refine wpAny_execs_cons (aY (h1 ae s σ H D I h) λf s1 q=>?_);cases f with
 |next=>exact wpAny_execs_nil q
 |ret v=>exact q
 |brk=>exact q
 |cont=>exact q
theorem az.quiet {ae:List (Addr×Obj)}{σ:St}{H:Hp}{s:Shared}(I:az X ae σ H s):interactive X.ah=false:=by simp[interactive,I.ok.kind]
noncomputable def LJ (te:TE):TS:=λD σ H=>te σ H λ_a H1=>D.nx σ H1
theorem fu (he:PE X e te) (hs:swapsWith e none pos.line X.ah=pure false:=by rfl):PS X (.Expr e pos) (LJ te):=by intro ae s σ H D I h;exact wpAny_Expr_any (aY (he ae s σ H _ I h) λv s1 ⟨x,H1,I1,r1,q1⟩=>⟨σ,H1,I1,q1⟩) I.quiet hs
noncomputable def DH (te:TE):TS:=λD σ H=>te σ H D.rt
theorem aF (he:PE X e te):PS X (.Return (some e) pos) (DH te):=by intro ae s σ H D I h;exact wpAny_Return_some (aY (he ae s σ H _ I h) λv s1 ⟨x,H1,I1,r1,q1⟩=>⟨x,σ,H1,I1,r1,q1⟩)
noncomputable def WS (c:TT) (t u:TS):TS:=λD σ H=>c σ H λb H1=>if b=true then t D σ H1 else u D σ H1
theorem aX {c:Expr}{a b:List Stmt}{tc:TT}(hc:PT X c tc) (ha:gL X a t) (hb:gL X b u):PS X (.If c a b pos) (WS tc t u):=by
 intro ae s σ H D I h;refine wpAny_If (aY (hc ae s σ H _ I h) λd s1 ⟨H1,I1,q1⟩=>?_);cases d with
 |true=>exact ha ae s1 σ H1 D I1 q1
 |false=>exact hb ae s1 σ H1 D I1 q1
end
noncomputable abbrev TG:=V->St->Hp->(St->Hp->Prop)->Prop
noncomputable def PG (X:Cx) (target:Expr) (t:TG):Prop:=
 ∀(ae:List (Addr×Obj)) (s:Shared) (σ:St) (H:Hp) (v:V) (u:Value) (Q:St->Hp->Prop),az X ae σ H s->bw v u->t v σ H Q->
  wpAny (model X.prog X.w) X.A (assign target X.ah u) (λ_a s'=>∃bu H',az X ae bu H' s'/\Q bu H') X.xe s
noncomputable abbrev t9:=V->V->V->Hp->(Hp->Prop)->Prop
noncomputable def DI (X:Cx) (t:t9):Prop:=
 ∀(ae:List (Addr×Obj)) (s:Shared) (σ:St) (H:Hp) (o i v:V) (ov iv u:Value) (Q:Hp->Prop),az X ae σ H s->bw o ov->bw i iv->bw v u->t o i v H Q->
  wpAny (model X.prog X.w) X.A (setItem ov iv u) (λ_a s'=>∃H',az X ae σ H' s'/\Q H') X.xe s
noncomputable abbrev o6:=V->V->Hp->VK->Prop
noncomputable def An (X:Cx) (op:Operator) (t:o6):Prop:=
 ∀(ae:List (Addr×Obj)) (s:Shared) (σ:St) (H:Hp) (x y:V) (v u:Value) (Q:VK),az X ae σ H s->bw x v->bw y u->t x y H Q->
  wpAny (model X.prog X.w) X.A (inplaceOp op v u) (EP X ae σ Q) X.xe s
section
variable {X:Cx}{pos:Pos}
noncomputable def lS (i:Nat):TG:=λv σ H Q=>Q (σ.set i (some v)) H
theorem WT {i:Nat}{x:Str}(hN:X.N.Nodup) (hi:X.N[i]? =some x) (hx:mZ X.ah.scope x) (hf:X.fn x=true\/X.ah.scope.names.lookup x=some .local:=by first|exact .inl rfl|exact .inr rfl|assumption):PG X (.Name x pos) (lS i):=by intro ae s σ H v u Q I r h;exact wpAny_assign_Name (DB I hN hi hx r (λs' I'=>⟨_,H,I',h⟩) hf)
noncomputable def WU (to ti:TE) (t:t9):TG:=λv σ H Q=>to σ H λo H1=>ti σ H1 λi H2=>t o i v H2 λH3=>Q σ H3
theorem LK {o i:Expr}{to ti:TE}{t:t9}(ho:PE X o to) (hi:PE X i ti) (hs:DI X t)
  (ha:∀v,assign (.Subscript o i pos) X.ah v=(do
   let ov ←holding [v] (eval o X.ah);let iv ←holding [v,ov] (eval i X.ah)
   standAt pos
   holding [v,ov,iv] (setItem ov iv v)
   release [v,ov,iv] []):=by intro _;rfl):PG X (.Subscript o i pos) (WU to ti t):=by
 intro ae s σ H v u Q I r h;rw[ha];refine wpAny_bind (wpAny_holding (aY (ho ae s σ H _ I h) λov s1 ⟨x,H1,I1,r1,q1⟩=>?_));refine wpAny_bind (wpAny_holding (aY (hi ae s1 σ H1 _ I1 q1) λiv s2 ⟨y,H2,I2,r2,q2⟩=>?_));refine wpAny_bind (wpAny_standAt (wpAny_bind (wpAny_holding (aY (hs ae s2 σ H2 x y v ov iv u _ I2 r1 r2 r q2) λ_a s3 ⟨H3,I3,q3⟩=>?_))));exact wpAny_release ⟨σ,H3,I3,q3⟩
noncomputable def ub (te:TE) (g:TG):TS:=λD σ H=>te σ H λx H1=>g x σ H1 D.nx
theorem LL {tg e:Expr}{te:TE}{g:TG}(he:PE X e te) (hg:PG X tg g) (hs:swapsWithSole [tg] e pos.line X.ah=pure false:=by rfl) (hw:swappedStores [tg] e X.ah=pure none:=by rfl)
  (h1:(assignEach [tg] X.ah).map (·.2)= [assign tg X.ah]:=by rfl):PS X (.Assign [tg] e pos) (ub te g):=by
 intro ae s σ H D I h;refine wpAny_Assign_stores (aY (he ae s σ H _ I h) λv s1 ⟨x,H1,I1,r1,q1⟩=>?_) hs hw;rw[h1];exact aY (hg ae s1 σ H1 x v _ I1 r1 q1) λ_a s2 q=>q
theorem WV {i:Nat}{x:Str}{e:Expr}{te:TE}{gj:Pos}(hN:X.N.Nodup) (hi:X.N[i]? =some x) (hx:mZ X.ah.scope x) (he:PE X e te) (hs:swapsWith e (some (.Name x gj)) pos.line X.ah=pure false:=by rfl) (hf:X.fn x=true\/X.ah.scope.names.lookup x=some .local:=by first|exact .inl rfl|exact .inr rfl|assumption):
  PS X (.Assign [.Name x gj] e pos) (ub te (lS i)):=by
 intro ae s σ H D I h;refine wpAny_Assign_Name (aY (he ae s σ H _ I h) λv s1 ⟨y,H1,I1,r1,q1⟩=>?_) hs;exact DB I1 hN hi hx r1 (λs2 I2=>⟨_,H1,I2,q1⟩) hf
noncomputable def LM (i:Nat) (te:TE) (ti:o6):TS:=λD σ H=>∃x,σ[i]? =some (some x)/\te σ H λy H1=>ti x y H1 λz H2=>D.nx (σ.set i (some z)) H2
theorem WW {i:Nat}{x:Str}{e:Expr}{te:TE}{op:Operator}{ti:o6}{gj:Pos}(hN:X.N.Nodup) (hi:X.N[i]? =some x) (hx:mZ X.ah.scope x) (he:PE X e te) (ho:An X op ti) (hf:X.fn x=true\/X.ah.scope.names.lookup x=some .local:=by first|exact .inl rfl|exact .inr rfl|assumption):
  PS X (.AugAssign (.Name x gj) op e pos) (LM i te ti):=by
 intro ae s σ H D I h;obtain ⟨v,e1,h⟩:=h;obtain ⟨m,hn,hl⟩:=I.fU;have WX:qN X.ah.scope x:=by rcases hx with k|k;exact .inl k;exact .inr (.inl k)
 obtain ⟨u,r,l⟩:=hl i x v hi e1 WX;refine wpAny_AugAssign_Name ?_;have go:wpAny (model X.prog X.w) X.A (eval e X.ah) (λw eM=>wpAny (model X.prog X.w) X.A (inplaceOp op u w) (λr nh=>wpAny (model X.prog X.w) X.A (storeName X.ah x r) (λ_a=>SP X ae D .next) X.xe nh) X.xe eM) X.xe s:=by
  refine aY (he ae s σ H _ I h) λw s1 ⟨y,H1,I1,r1,q1⟩=>?_
  refine aY (ho ae s1 σ H1 v y u w _ I1 r r1 q1) λz s2 ⟨zv,H2,I2,r2,q2⟩=>?_
  exact DB I2 hN hi hx r2 (λs3 I3=>⟨_,H2,I3,q2⟩) hf
 rcases l with ⟨hk,hm⟩|⟨hk,c,hc,Aj⟩
 ·exact wpAny_loadName_local I.ok.kind hk hn hm go
 ·rcases hk with hk|hk
  ·exact wpAny_loadName_cell I.ok.kind hk hc Aj go
  ·rcases hx with k|k
   ·have:X.ah.scope.names.lookup x=some .free:=hk;rw[k]at this;cases this
   ·have:X.ah.scope.names.lookup x=some .free:=hk;rw[k]at this;cases this
noncomputable def WY (to ti te:TE) (Ao:V->V->Hp->VK->Prop) (Ap:o6) (Aq:t9):TS:=λD σ H=>to σ H λo H1=>ti σ H1 λi H2=>Ao o i H2 λx H3=>te σ H3 λy H4=>Ap x y H4 λz H5=>Aq o i z H5 λH6=>D.nx σ H6
noncomputable def LN (X:Cx) (t:V->V->Hp->VK->Prop):Prop:=
 ∀(ae:List (Addr×Obj)) (s:Shared) (σ:St) (H:Hp) (o i:V) (ov iv:Value) (Q:VK),az X ae σ H s->bw o ov->bw i iv->t o i H Q->
  wpAny (model X.prog X.w) X.A (getItem ov iv) (EP X ae σ Q) X.xe s
theorem WZ {o i e:Expr}{to ti te:TE}{Ao:V->V->Hp->VK->Prop}{Ap:o6}{Aq:t9}{op:Operator}{DJ:Pos}(ho:PE X o to) (hi:PE X i ti) (hg:LN X Ao) (he:PE X e te) (hp:An X op Ap) (hs:DI X Aq)
  (ha:∀ov iv new,augStore i ov iv new=(do holding [new,ov,iv] (setItem ov iv new);release [new,ov,iv] [];pure .next):=by intros;rfl):PS X (.AugAssign (.Subscript o i DJ) op e pos) (WY to ti te Ao Ap Aq):=by
 intro ae s σ H D I h;refine wpAny_AugAssign_SubscriptAny (aY (ho ae s σ H _ I h) λov s1 ⟨x1,H1,I1,r1,q1⟩=>?_) ha;refine aY (hi ae s1 σ H1 _ I1 q1) λiv s2 ⟨x2,H2,I2,r2,q2⟩=>?_
 refine aY (hg ae s2 σ H2 x1 x2 ov iv _ I2 r1 r2 q2) λuc s3 ⟨x3,H3,I3,r3,q3⟩=>?_
 refine aY (he ae s3 σ H3 _ I3 q3) λv s4 ⟨x4,H4,I4,r4,q4⟩=>?_
 refine aY (hp ae s4 σ H4 x3 x4 uc v _ I4 r3 r4 q4) λnew s5 ⟨x5,H5,I5,r5,q5⟩=>?_
 exact aY (hs ae s5 σ H5 x1 x2 x5 ov iv new _ I5 r1 r2 r5 q5) λ_a s6 ⟨H6,I6,q6⟩=>⟨σ,H6,I6,q6⟩
noncomputable def W0 (f:Int->Int->Int):o6:=λx y H Q=>∃i j,x= .int i/\y= .int j/\Q (.int (f i j)) H
theorem LO:An X .Add (W0 λi j=>i+j):=by intro ae s σ H x y v u Q I r1 r2 h;obtain ⟨i,j,e1,e2,q⟩:=h;subst e1;subst e2;obtain ⟨t,rfl⟩:=r1;obtain ⟨t',rfl⟩:=r2;exact iadd_int ⟨.int _,H,I.eg _,⟨_,rfl⟩,q⟩
end
section
variable {X:Cx}{pos:Pos}
noncomputable def W2 (c:TT) (tb:TS):TS:=λD σ H=>∃W:Nat->St->Hp->Prop,(∃m,W m σ H)/\∀m σ H,W m σ H->
 c σ H λb H1=>if b=true then ∃N:St->Hp->Prop,(∀bu H',N bu H'->∃m',m'<m/\W m' bu H')/\tb {D with nx:=N,ct:=N,bk:=D.nx} σ H1 else D.nx σ H1
set_option tactic.hygienic true in
theorem LP {c:Expr}{body:List Stmt}{tc:TT}{tb:TS}(hp:PassesOwn (model X.prog X.w) X.A X.ah X.xe) (hc:PT X c tc) (hb:gL X body tb):PS X (.While c body [] pos) (W2 tc tb):=by
 intro ae s σ H D I h;obtain ⟨W,⟨m0,w0⟩,turn⟩:=h;refine wpAny_While (codeAny_whileLoop (λn s'=>∃bu H',az X ae bu H' s'/\W n bu H') ?_ m0 ⟨σ,H,I,w0⟩);rintro n s1 ⟨Ar,H1,I1,w1⟩;refine wpAny_passesOwn hp (aY (hc ae s1 Ar H1 _ I1 (turn n Ar H1 w1)) λb s2 ⟨H2,I2,q2⟩=>?_);cases b with
 |true=>
  obtain ⟨N,hN,q2⟩:=q2;rw[Zx rfl];refine wpAny_passesOwn hp (aY (hb ae s2 Ar H2 _ I2 q2) λf s3 q3=>?_);cases f with
  |next=>obtain ⟨jY,H3,I3,n3⟩:=q3;obtain ⟨m',hm,w3⟩:=hN jY H3 n3;exact ⟨m',hm,jY,H3,I3,w3⟩
  |cont=>obtain ⟨jY,H3,I3,n3⟩:=q3;obtain ⟨m',hm,w3⟩:=hN jY H3 n3;exact ⟨m',hm,jY,H3,I3,w3⟩
  |brk=>exact q3
  |ret v=>exact q3
 |false=>rw[Zw zi];exact wpAny_execs_nil ⟨Ar,H2,I2,q2⟩
end
structure It where
 go:Nat->Hp->Prop
 iU:Nat->Hp->V->Hp->Prop
 stop:Nat->Hp->Prop
noncomputable def kQ (X:Cx) (ae:List (Addr×Obj)) (H:Hp) (b:Addr):Prop:=
 H b=none/\b≠X.ah.locals/\b∉X.fs/\(b∈X.ex\/X.ft.heap.objs.size<=b)/\(∀x c,X.ah.cells.lookup x=some c->c≠b)/\∀p∈X.pn++ae,p.1≠b
theorem az.ue {X:Cx}{ae:List (Addr×Obj)}{σ:St}{H H':Hp}{s:Shared}{b:Addr}(I:az X ae σ H s) (hb:s.heap.objs.size<=b) (hn:H' b=none):kQ X ae H' b:=by
 refine ⟨hn,Nat.ne_of_gt (xH I.lt hb),I.Wz hb,.inr (xE I.sz hb),λx c e z=>?_,λp hp z=>?_⟩
 ·obtain ⟨v,q⟩:=I.cell x c e;exact absurd (xH q.lt (by rw[z];exact hb)) (xF _)
 ·exact absurd (xH (Heap.lt_size (I.iC p hp).1) (by rw[z];exact hb)) (xF _)
structure lT (P:Program) (w:World) (K:PySem.W.Frag) (tg:Expr) (J:It) (fp:List Addr) (it:Addr) (tn:Nat->Heap->Prop):Prop where
 mem:it∈fp
 obj:∀i h,tn i h->∀b∈fp,∃o,h.get? b=some o/\∀v,o.data≠ .cell v
 keep:∀i h h',tn i h->(∀b∈fp,∀o,h.get? b=some o->h'.get? b=some o)->tn i h'
 item:∀(X:Cx),X.prog=P->X.w=w->X.K=K->X.eD=true->∀(i:Nat) (ae:List (Addr×Obj)) (s:Shared) (σ:St) (H:Hp) (E:Value->Shared->Prop),az X ae σ H s->(∀b∈fp,kQ X ae H b)->tn i s.heap->J.go i H->
  wpAny (model P w) X.A (pyNext (.ref it)) (λr s1=>∃u,r=some u/\
   wpAny (model P w) X.A (letOwnedTupleGo tg (.ref it) u) (λ_a s2=>∃x H',az X ae σ H' s2/\bw x u/\J.iU i H x H'/\tn (i+1) s2.heap/\∀b∈fp,H' b=none) E s1) E s
 done:∀(X:Cx),X.prog=P->X.w=w->X.K=K->X.eD=true->∀(i:Nat) (ae:List (Addr×Obj)) (s:Shared) (σ:St) (H:Hp) (E:Value->Shared->Prop),az X ae σ H s->(∀b∈fp,kQ X ae H b)->tn i s.heap->J.stop i H->
  wpAny (model P w) X.A (pyNext (.ref it)) (λr s1=>r=none/\az X ae σ H s1) E s
 self:∀(A:Around) (i:Nat) (s:Shared) (Q:Value->Shared->Prop) (E:Value->Shared->Prop),tn i s.heap->Q (.ref it) s->wpAny (model P w) A (pyIter (.ref it)) Q E s
noncomputable abbrev TI:=St->Hp->(It->Hp->Prop)->Prop
noncomputable def DK (X:Cx) (ae:List (Addr×Obj)) (σ:St) (tg:Expr) (R:It->Hp->Prop) (DL:Value) (s2:Shared):Prop:=
 ∃(it:Addr) (fp:List Addr) (tn:Nat->Heap->Prop) (J:It) (H':Hp),DL= .ref it/\az X ae σ H' s2/\lT X.prog X.w X.K tg J fp it tn/\tn 0 s2.heap/\(∀b∈fp,kQ X ae H' b)/\R J H'
noncomputable def PI (X:Cx) (tg iter:Expr) (wi:TI):Prop:=
 ∀(ae:List (Addr×Obj)) (s:Shared) (σ:St) (H:Hp) (R:It->Hp->Prop),az X ae σ H s->wi σ H R->
  wpAny (model X.prog X.w) X.A (eval iter X.ah) (λv s1=>wpAny (model X.prog X.w) X.A (pyIter v) (DK X ae σ tg R) X.xe s1) X.xe s
theorem o7 {M:Model}{A:Around}{E:Value->Shared->Prop}{s:Shared}{tg:Expr}{it:Addr}{u:Value}{o:Obj}{n:String}{vs:Array Value}{Q:Unit->Shared->Prop}(ho:s.heap.get? it=some o) (hc:o.cls= .type n) (hd:o.data= .fields vs)
  (hn: ["enumerate","zip","dict_itemiterator","dict_reverseitemiterator","odict_iterator","itertools.zip_longest","itertools.pairwise"].contains n=false) (hQ:Q () s):wpAny M A (letOwnedTupleGo tg (.ref it) u) Q E s:=by
 unfold letOwnedTupleGo;cases tg<;>first
  |exact wpAny_pure hQ
  |(cases u<;>first
    |exact wpAny_pure hQ
    |(refine wpAny_bind (wpAny_load ho ?_)
      rw[hc,hd];show wpAny M A (if (["enumerate","zip","dict_itemiterator","dict_reverseitemiterator","odict_iterator","itertools.zip_longest","itertools.pairwise"].contains n&&vs[0]? ==some (rawInt _))=true then _ else _) Q E s;rw[Zw (by intro h;rw[hn,zg]at h;cases h)];exact wpAny_pure hQ))
noncomputable def jZ (K:PySem.W.Frag) (a:Addr):It:=
 ⟨λi H=>∃xs x,ag K H a xs/\xs[i]? =some x,λi H x H'=>H'=H/\∀xs,ag K H a xs->xs[i]? =some x,λi H=>∃xs,ag K H a xs/\xs.length<=i⟩
noncomputable def uf (K:PySem.W.Frag) (a:Addr):It:=
 ⟨λi H=>∃xs x,cu K H a xs/\xs[i]? =some x,λi H x H'=>H'=H/\∀xs,cu K H a xs->xs[i]? =some x,λi H=>∃xs,cu K H a xs/\xs.length<=i⟩
noncomputable def kR (lo:Int) (n:Nat):It:=⟨λi _a=>i<n,λi H x H'=>H'=H/\x= .int (lo+i),λi _a=>n<=i⟩
theorem W3 {P:Program}{w:World}{K:PySem.W.Frag}{tg:Expr}(a it:Addr):lT P w K tg (jZ K a) [it] it (λi h=>h.IsListIter it a i) where
 mem:=by simp
 obj:=λi h st b hb=>by
  have e:b=it:=by simpa using hb
  subst e;obtain ⟨o,e,c,d⟩:=st;exact ⟨o,e,λv z=>by rw[d]at z;cases z⟩
 keep:=λi h h' st k=>st.at λo e=>k it (by simp) o e
 item:=by
  intro X hP hw hK hc i ae s σ H E I hf st hg;subst hP hw hK;obtain ⟨xs,x,hq,hx⟩:=hg;obtain ⟨ay,rv,p,hz⟩:=I.list hq;obtain ⟨u,hu,ru⟩:=rv.get hx;obtain ⟨f0,f1,f2,f3,f4,f5⟩:=hf it (by simp);refine wpAny_pyNext_list_item st p.isList (x:=u) (by simpa using hu) λh' eh sb=>?_
  have I1:az X ae σ H {s with heap:=h'}:=I.gh (t':=s.toks) (λb o hb e=>(sb.2 b hb).trans e) f0 f1 f3 f4 f5;obtain ⟨o,e,c,d⟩:=id eh;exact ⟨u,rfl,o7 (s:={s with heap:=h'}) e c d ZE ⟨x,H,I1,ru,⟨rfl,λys hy=>by rw[I.DF hy hq];exact hx⟩,eh,λb hb=>(hf b hb).1⟩⟩
 done:=by intro X hP hw hK hc i ae s σ H E I hf st hg;subst hP hw hK;obtain ⟨xs,hq,hx⟩:=hg;obtain ⟨ay,rv,p,hz⟩:=I.list hq;obtain ⟨f0,f1,f2,f3,f4,f5⟩:=hf it (by simp);have hl:=rv.length;exact wpAny_pyNext_list_end (I.ok.hd hc) st p.isList (by simp;omega) λh' eb=>⟨rfl,I.gh (t':=s.toks) (λb o hb e=>eb b o hb e) f0 f1 f3 f4 f5⟩
 self:=λ_a _a _a _a _a st h=>wpAny_pyIter_listiter st h
theorem W4 {P:Program}{w:World}{K:PySem.W.Frag}{tg:Expr}(a it:Addr):lT P w K tg (uf K a) [it] it (λi h=>h.IsTupleIter it a i) where
 mem:=by simp
 obj:=λi h st b hb=>by
  have e:b=it:=by simpa using hb
  subst e;obtain ⟨o,e,c,d⟩:=st;exact ⟨o,e,λv z=>by rw[d]at z;cases z⟩
 keep:=λi h h' st k=>st.at λo e=>k it (by simp) o e
 item:=by
  intro X hP hw hK hc i ae s σ H E I hf st hg;subst hP hw hK;obtain ⟨xs,x,hq,hx⟩:=hg;obtain ⟨ay,rv,p,hz⟩:=I.tuple hq;obtain ⟨u,hu,ru⟩:=rv.get hx;obtain ⟨f0,f1,f2,f3,f4,f5⟩:=hf it (by simp);refine wpAny_pyNext_tuple_item st (show s.heap.IsTuple a ay.toArray from p) (x:=u) (by simpa using hu) λh' eh sb=>?_
  have I1:az X ae σ H {s with heap:=h'}:=I.gh (t':=s.toks) (λb o hb e=>(sb.2 b hb).trans e) f0 f1 f3 f4 f5;obtain ⟨o,e,c,d⟩:=id eh;exact ⟨u,rfl,o7 (s:={s with heap:=h'}) e c d ZE ⟨x,H,I1,ru,⟨rfl,λys hy=>by rw[I.DG hy hq];exact hx⟩,eh,λb hb=>(hf b hb).1⟩⟩
 done:=by intro X hP hw hK hc i ae s σ H E I hf st hg;subst hP hw hK;obtain ⟨xs,hq,hx⟩:=hg;obtain ⟨ay,rv,p,hz⟩:=I.tuple hq;obtain ⟨f0,f1,f2,f3,f4,f5⟩:=hf it (by simp);have hl:=rv.length;exact wpAny_pyNext_tuple_end (I.ok.hd hc) st (show s.heap.IsTuple a ay.toArray from p) (by simp;omega) λh' eb=>⟨rfl,I.gh (t':=s.toks) (λb o hb e=>eb b o hb e) f0 f1 f3 f4 f5⟩
 self:=λ_a _a _a _a _a st h=>wpAny_pyIter_tupleiter st h
theorem W5 {P:Program}{w:World}{K:PySem.W.Frag}{tg:Expr}(it:Addr) (lo:Int) (n:Nat):lT P w K tg (kR lo n) [it] it (λi h=>IsRangeIter h it (lo+(i:Nat)*1) ((n:Int) - (i:Nat)) 1) where
 mem:=by simp
 obj:=λi h st b hb=>by
  have e:b=it:=by simpa using hb
  subst e;exact ⟨_,st,λv z=>by have z':Data.fields _=Data.cell v:=z;cases z'⟩
 keep:=λi h h' st k=>k it (by simp) _ st
 item:=by
  intro X hP hw hK hc i ae s σ H E I hf st hg;subst hP hw hK;obtain ⟨f0,f1,f2,f3,f4,f5⟩:=hf it (by simp);have W:=Walks.range (prog:=X.prog) (w:=X.w) (I.ok.hd hc) it lo 1 n;refine W.item i s _ _ hg st λv h' tk hv eh kk=>?_
  obtain ⟨t,rfl⟩:=hv;have I1:az X ae σ H {s with heap:=h',toks:=tk}:=I.gh (λb o hb e=>kk b o (by simpa using hb) e) f0 f1 f3 f4 f5;refine ⟨_,rfl,o7 (s:={s with heap:=h',toks:=tk}) (n:="range_iterator") eh rfl rfl ZE ⟨.int (lo+i),H,I1,⟨t,?_⟩,⟨rfl,rfl⟩,eh,λb hb=>(hf b hb).1⟩⟩;rw[Int.mul_one]
 done:=by intro X hP hw hK hc i ae s σ H E I hf st hg;subst hP hw hK;obtain ⟨f0,f1,f2,f3,f4,f5⟩:=hf it (by simp);exact wpAny_pyNext_range_end (I.ok.hd hc) st (by have:n<=i:=hg;omega) λh' eb=>⟨rfl,I.gh (t':=s.toks) (λb o hb e=>eb b o hb e) f0 f1 f3 f4 f5⟩
 self:=λ_a _a _a _a _a st h=>wpAny_pyIter_rangeiter st h
section
variable {X:Cx}{tg:Expr}
noncomputable def W6 (K:PySem.W.Frag) (tl:TE):TI:=λσ H R=>tl σ H λx H1=>∃a,x= .ref a/\(∃xs,ag K H1 a xs)/\R (jZ K a) H1
noncomputable def W7 (K:PySem.W.Frag) (tl:TE):TI:=λσ H R=>tl σ H λx H1=>∃a,x= .ref a/\(∃xs,cu K H1 a xs)/\R (uf K a) H1
theorem dZ {l:Expr}{tl:TE}(hl:PE X l tl):PI X tg l (W6 X.K tl):=by
 intro ae s σ H R I h;refine aY (hl ae s σ H _ I h) λv s1 ⟨x,H1,I1,r1,q1⟩=>?_
 obtain ⟨a,e,⟨xs,hq⟩,q⟩:=q1;subst e;cases r1;obtain ⟨ay,rv,p,hz⟩:=I1.list hq;refine wpAny_pyIter_list p.isList ?_;refine ⟨s1.heap.objs.size,[s1.heap.objs.size],_,_,H1,rfl,I1.dX (t':=s1.toks) λb o e=>Heap.get?_push_of_some _ e,W3 a _,⟨_,Heap.get?_push_size _ rfl,rfl,rfl⟩,λb hb=>?_,q⟩;have e:b=s1.heap.objs.size:=by simpa using hb
 subst e;exact I1.ue (xC _) (I1.aO.fresh (xC _))
theorem W8 {l:Expr}{tl:TE}(hl:PE X l tl):PI X tg l (W7 X.K tl):=by
 intro ae s σ H R I h;refine aY (hl ae s σ H _ I h) λv s1 ⟨x,H1,I1,r1,q1⟩=>?_
 obtain ⟨a,e,⟨xs,hq⟩,q⟩:=q1;subst e;cases r1;obtain ⟨ay,rv,p,hz⟩:=I1.tuple hq;refine wpAny_pyIter_tuple (show s1.heap.IsTuple a ay.toArray from p) ?_;refine ⟨s1.heap.objs.size,[s1.heap.objs.size],_,_,H1,rfl,I1.dX (t':=s1.toks) λb o e=>Heap.get?_push_of_some _ e,W4 a _,⟨_,Heap.get?_push_size _ rfl,rfl,rfl⟩,λb hb=>?_,q⟩;have e:b=s1.heap.objs.size:=by simpa using hb
 subst e;exact I1.ue (xC _) (I1.aO.fresh (xC _))
theorem LQ {ae:List (Addr×Obj)}{σ:St}{H:Hp}{s:Shared}{R:It->Hp->Prop}{E:Value->Shared->Prop}{lo hi:Int}{t u v:Tok}{tk:Nat}(I:az X ae σ H s) (h1: -(2^62)<=lo) (h2:lo<2^62) (h3: -(2^62)<=hi) (h4:hi<2^62)
  (q:R (kR lo (hi - lo).toNat) H):wpAny (model X.prog X.w) X.A (pyIter (.ref s.heap.objs.size)) (DK X ae σ tg R) E {s with heap:=s.heap.push {cls:= .type "range",data:= .fields #[.int lo t,.int hi u,.int 1 v]},toks:=tk}:=by
 refine wpAny_pyIter_range (IsRange.new ..) (small_one h1 h2 h3 h4) ?_;have I1:az X ae σ H {s with heap:=s.heap.push {cls:= .type "range",data:= .fields #[.int lo t,.int hi u,.int 1 v]},toks:=tk}:=I.dX λb o e=>Heap.get?_push_of_some _ e
 refine ⟨(s.heap.push {cls:= .type "range",data:= .fields #[.int lo t,.int hi u,.int 1 v]}).objs.size,[(s.heap.push {cls:= .type "range",data:= .fields #[.int lo t,.int hi u,.int 1 v]}).objs.size],_,_,H,rfl,
  I1.dX (t':=tk) λb o e=>Heap.get?_push_of_some _ e,W5 _ lo (hi - lo).toNat,?_,λb hb=>?_,q⟩
 ·have e1:lo+((0:Nat):Int)*1=lo:=by simp
  have e2:(((hi - lo).toNat:Nat):Int) - ((0:Nat):Int)=Builtin.Range.rangeSize lo hi 1:=by rw[rangeSize_one];split<;>omega
  show IsRangeIter _ _ (lo+((0:Nat):Int)*1) ((((hi - lo).toNat:Nat):Int) - ((0:Nat):Int)) 1;rw[e1,e2];exact Heap.get?_push_size _ rfl
 ·have e:b=(s.heap.push {cls:= .type "range",data:= .fields #[.int lo t,.int hi u,.int 1 v]}).objs.size:=by simpa using hb
  subst e;exact I1.ue (xC _) (I1.aO.fresh (xC _))
noncomputable def W9 (ta:TA):TI:=λσ H R=>ta σ H λvs H1=>∃j:Int,vs= [.int j]/\ -(2^62)<=j/\j<2^62/\R (kR 0 j.toNat) H1
noncomputable def Xa (ta:TA):TI:=λσ H R=>ta σ H λvs H1=>∃i j:Int,vs= [.int i,.int j]/\(-(2^62)<=i/\i<2^62/\ -(2^62)<=j/\j<2^62)/\R (kR i (j - i).toNat) H1
theorem qR {a:Expr}{ta:TA}{p pos:Pos}(hg:Gl X "range") (hm:X.mg "range"=none) (ha:PA X [a] ta) (hs:starEach [a] X.ah= [(false,eval a X.ah)]:=by rfl):PI X tg (.Call (.Name "range" p) [a] [] pos) (W9 ta):=by
 intro ae s σ H R I h;refine Call_ (Al I hg hm boot_range (xZ (aY (ha pos ae s σ H _ I h) λus s1 ⟨vs,H1,I1,r1,q1⟩=>?_) hs rfl));obtain ⟨j,e,q1,q2,q⟩:=q1;subst e;cases r1 with
 |cons r rr=>cases rr;obtain ⟨t,rfl⟩:=r;exact call_range_1 (LQ I1 ZD ZD q1 q2 (by simpa using q))
theorem DM {a b:Expr}{ta:TA}{p pos:Pos}(hg:Gl X "range") (hm:X.mg "range"=none) (ha:PA X [a,b] ta) (hs:starEach [a,b] X.ah= [(false,eval a X.ah),(false,eval b X.ah)]:=by rfl) (lU:starEach [b] X.ah= [(false,eval b X.ah)]:=by rfl):
  PI X tg (.Call (.Name "range" p) [a,b] [] pos) (Xa ta):=by
 intro ae s σ H R I h;refine Call_ (Al I hg hm boot_range (xZ (aY (ha pos ae s σ H _ I h) λus s1 ⟨vs,H1,I1,r1,q1⟩=>?_) (by rw[hs,lU]) (by rw[lU];rfl)));obtain ⟨i,j,e,⟨q1,q2,q3,q4⟩,q⟩:=q1;subst e;cases r1 with
 |cons r rr=>
  cases rr with
  |cons r' rr=>cases rr;obtain ⟨t,rfl⟩:=r;obtain ⟨t',rfl⟩:=r';exact call_range_2 (LQ I1 q1 q2 q3 q4 q)
noncomputable def Xb (wi:TI) (g:TG) (tb:TS):TS:=λD σ H=>wi σ H λJ H1=>∃W:Nat->Nat->St->Hp->Prop,(∃m,W 0 m σ H1)/\∀i m σ H,W i m σ H->
 (J.stop i H/\D.nx σ H)\/(J.go i H/\∃N:St->Hp->Prop,(∀bu H',N bu H'->∃m',m'<m/\W (i+1) m' bu H')/\∀x H',J.iU i H x H'->g x σ H' λbM H2=>tb {D with nx:=N,ct:=N,bk:=D.nx} bM H2)
noncomputable def ug (fp:List Addr) (h:Heap):List (Addr×Obj):=fp.filterMap λb=>(h.get? b).map λo=>(b,o)
theorem DN {fp:List Addr}{h:Heap}{b:Addr}{o:Obj}(hb:b∈fp) (e:h.get? b=some o):(b,o)∈ug fp h:=yW.mpr ⟨b,hb,by rw[e];rfl⟩
theorem Xc {fp:List Addr}{h:Heap}{p:Addr×Obj}(hp:p∈ug fp h):p.1∈fp/\h.get? p.1=some p.2:=by
 obtain ⟨b,hb,e⟩:=yW.mp hp;cases q:h.get? b with
 |none=>rw[q]at e;cases e
 |some o=>rw[q]at e;have e':(b,o)=p:=xX e;subst e';exact ⟨hb,q⟩
theorem az.LR {ae:List (Addr×Obj)}{σ:St}{H:Hp}{s:Shared}{fp:List Addr}(I:az X ae σ H s) (hf:∀b∈fp,kQ X ae H b) (ho:∀b∈fp,∃o,s.heap.get? b=some o/\∀v,o.data≠ .cell v):az X (ae++ug fp s.heap) σ H s:=
 I.Lz λp hp=>(List.mem_append.mp hp).elim (λz=>I.iC p (yS _ z)) λz=>by obtain ⟨hb,e⟩:=Xc z;obtain ⟨f0,f1,f2,_⟩:=hf p.1 hb;obtain ⟨o,e',d⟩:=ho p.1 hb;rw[e]at e';cases e';exact ⟨e,f0,f1,f2,d⟩
theorem az.As {ae pl:List (Addr×Obj)}{σ:St}{H:Hp}{s:Shared}(I:az X (ae++pl) σ H s):az X ae σ H s:=I.Lz λp hp=>I.iC p (yS _ (yR _ hp))
set_option tactic.hygienic true in
theorem eW {iter:Expr}{body:List Stmt}{wi:TI}{g:TG}{tb:TS}{pos:Pos}(hp:PassesOwn (model X.prog X.w) X.A X.ah X.xe) (hc:X.eD=true) (hi:PI X tg iter wi) (hg:PG X tg g) (hb:gL X body tb)
  (hs:∀x,foldedSetIterable iter X.ah x=pure x:=by intro _;rfl):PS X (.For tg iter body [] pos) (Xb wi g tb):=by
 intro ae s σ H D I h;refine wpAny_For (aY (hi ae s σ H _ I h) λv s1 h1=>aY h1 λDL s2 h2=>?_) hs;obtain ⟨it,fp,tn,J,H2,e,I2,T,qS,f2,W,⟨m0,w0⟩,turn⟩:=h2;subst e;have o8:∀{H':Hp},(∀b∈fp,H' b=none)->∀b∈fp,kQ X ae H' b:=λhn b hb=>⟨hn b hb,(f2 b hb).2⟩
 refine codeAny_forLoop_any (λn s'=>∃i bu H',az X ae bu H' s'/\tn i s'.heap/\(∀b∈fp,H' b=none)/\W i n bu H') ?_ m0 ⟨0,σ,H2,I2,qS,λb hb=>(f2 b hb).1,w0⟩;rintro n s3 ⟨i,jY,H3,I3,Au,ni,w3⟩;rcases turn i n jY H3 w3 with ⟨stop,qn⟩|⟨go,N,hN,step⟩
 ·refine wpAny_passesOwn hp (aY (T.done X rfl rfl rfl hc i ae s3 jY H3 X.xe I3 (o8 ni) Au stop) λr s4 ⟨hr,I4⟩=>?_);subst hr;exact wpAny_execs_nil ⟨jY,H3,I4,qn⟩
 ·refine wpAny_passesOwn hp (aY (T.item X rfl rfl rfl hc i ae s3 jY H3 X.xe I3 (o8 ni) Au go) λr s4 ⟨u,hr,h4⟩=>?_);subst hr;refine wpAny_passesOwn hp (aY h4 λ_a s5 ⟨x,H5,I5,r5,y5,qT,qU⟩=>?_);have Xd:=I5.LR (o8 qU) (T.obj _ _ qT);refine wpAny_passesOwn hp (aY (hg _ s5 jY H5 x u _ Xd r5 (step x H5 y5)) λ_a s6 ⟨Xe,H6,I6,q6⟩=>?_);refine wpAny_passesOwn hp (aY (hb _ s6 Xe H6 _ I6 q6) λf s7 q7=>?_);have again:∀{j0:St}{H7:Hp},az X (ae++ug fp s5.heap) j0 H7 s7->N j0 H7->∃m,m<n/\∃i bu H',az X ae bu H' s7/\tn i s7.heap/\(∀b∈fp,H' b=none)/\W i m bu H':=fun {j0 H7} I7 n7=>by obtain ⟨m',hm,w7⟩:=hN j0 H7 n7;refine ⟨m',hm,i+1,j0,H7,I7.As,T.keep _ _ _ qT λb hb o e=>(I7.iC (b,o) (yS _ (yS _ (DN hb e)))).1,λb hb=>?_,w7⟩;obtain ⟨o,e,d⟩:=T.obj _ _ qT b hb;exact (I7.iC (b,o) (yS _ (yS _ (DN hb e)))).2.1
  cases f with
  |next=>obtain ⟨j0,H7,I7,n7⟩:=q7;exact again I7 n7
  |cont=>obtain ⟨j0,H7,I7,n7⟩:=q7;exact again I7 n7
  |brk=>obtain ⟨j0,H7,I7,q7⟩:=q7;exact ⟨j0,H7,I7.As,q7⟩
  |ret v=>obtain ⟨x7,j0,H7,I7,r7,q7⟩:=q7;exact ⟨x7,j0,H7,I7.As,r7,q7⟩
end
theorem jj {K:PySem.W.Frag}{a:Addr}{xs:List V}{g:TG}{tb:TS}{D:lO}{σ:St}{H:Hp}(Pv:Nat->St->Hp->Prop) (h0:Pv 0 σ H) (hl:∀i σ H,i<=xs.length->Pv i σ H->ag K H a xs)
  (hs:∀i x σ H,xs[i]? =some x->Pv i σ H->g x σ H λbM H2=>tb {D with nx:=Pv (i+1),ct:=Pv (i+1),bk:=D.nx} bM H2) (hd:∀σ H,Pv xs.length σ H->D.nx σ H):
  ∃W:Nat->Nat->St->Hp->Prop,(∃m,W 0 m σ H)/\∀i m σ H,W i m σ H->
   ((jZ K a).stop i H/\D.nx σ H)\/((jZ K a).go i H/\∃N:St->Hp->Prop,(∀bu H',N bu H'->∃m',m'<m/\W (i+1) m' bu H')/\∀x H',(jZ K a).iU i H x H'->g x σ H' λbM H2=>tb {D with nx:=N,ct:=N,bk:=D.nx} bM H2):=by
 refine ⟨λi m σ H=>m=xs.length - i/\i<=xs.length/\Pv i σ H,⟨xs.length,by simp,xQ _,h0⟩,?_⟩;rintro i m σ H ⟨rfl,hi,p⟩;have q:=hl i σ H hi p;by_cases cC:i<xs.length
 ·refine .inr ⟨⟨xs,xs[i],q,by simp[cC]⟩,Pv (i+1),λbu H' p'=>⟨xs.length - (i+1),by omega,rfl,cC,p'⟩,λx H' y=>?_⟩;obtain ⟨e,y⟩:=y;subst e;exact hs i x σ _ (y xs q) p
 ·have e:i=xs.length:=by omega
  subst e;exact .inl ⟨⟨xs,q,xC _⟩,hd σ H p⟩
theorem Xf {K:PySem.W.Frag}{a:Addr}{xs:List V}{g:TG}{tb:TS}{D:lO}{σ:St}{H:Hp}(Pv:Nat->St->Hp->Prop) (h0:Pv 0 σ H) (hl:∀i σ H,i<=xs.length->Pv i σ H->cu K H a xs)
  (hs:∀i x σ H,xs[i]? =some x->Pv i σ H->g x σ H λbM H2=>tb {D with nx:=Pv (i+1),ct:=Pv (i+1),bk:=D.nx} bM H2) (hd:∀σ H,Pv xs.length σ H->D.nx σ H):
  ∃W:Nat->Nat->St->Hp->Prop,(∃m,W 0 m σ H)/\∀i m σ H,W i m σ H->
   ((uf K a).stop i H/\D.nx σ H)\/((uf K a).go i H/\∃N:St->Hp->Prop,(∀bu H',N bu H'->∃m',m'<m/\W (i+1) m' bu H')/\∀x H',(uf K a).iU i H x H'->g x σ H' λbM H2=>tb {D with nx:=N,ct:=N,bk:=D.nx} bM H2):=by
 refine ⟨λi m σ H=>m=xs.length - i/\i<=xs.length/\Pv i σ H,⟨xs.length,by simp,xQ _,h0⟩,?_⟩;rintro i m σ H ⟨rfl,hi,p⟩;have q:=hl i σ H hi p;by_cases cC:i<xs.length
 ·refine .inr ⟨⟨xs,xs[i],q,by simp[cC]⟩,Pv (i+1),λbu H' p'=>⟨xs.length - (i+1),by omega,rfl,cC,p'⟩,λx H' y=>?_⟩;obtain ⟨e,y⟩:=y;subst e;exact hs i x σ _ (y xs q) p
 ·have e:i=xs.length:=by omega
  subst e;exact .inl ⟨⟨xs,q,xC _⟩,hd σ H p⟩
theorem qV {lo:Int}{n:Nat}{g:TG}{tb:TS}{D:lO}{σ:St}{H:Hp}(Pv:Nat->St->Hp->Prop) (h0:Pv 0 σ H)
  (hs:∀i σ H,i<n->Pv i σ H->g (.int (lo+i)) σ H λbM H2=>tb {D with nx:=Pv (i+1),ct:=Pv (i+1),bk:=D.nx} bM H2) (hd:∀σ H,Pv n σ H->D.nx σ H):
  ∃W:Nat->Nat->St->Hp->Prop,(∃m,W 0 m σ H)/\∀i m σ H,W i m σ H->
   ((kR lo n).stop i H/\D.nx σ H)\/((kR lo n).go i H/\∃N:St->Hp->Prop,(∀bu H',N bu H'->∃m',m'<m/\W (i+1) m' bu H')/\∀x H',(kR lo n).iU i H x H'->g x σ H' λbM H2=>tb {D with nx:=N,ct:=N,bk:=D.nx} bM H2):=by
 refine ⟨λi m σ H=>m=n - i/\i<=n/\Pv i σ H,⟨n,by simp,xQ _,h0⟩,?_⟩;rintro i m σ H ⟨rfl,hi,p⟩;by_cases cC:i<n
 ·refine .inr ⟨cC,Pv (i+1),λbu H' p'=>⟨n - (i+1),by omega,rfl,cC,p'⟩,λx H' y=>?_⟩;obtain ⟨e,y⟩:=y;subst e y;exact hs i σ _ cC p
 ·have e:i=n:=by omega
  subst e;exact .inl ⟨xC _,hd σ H p⟩
noncomputable abbrev R2:=V->V->Hp->VK->Prop
noncomputable def cV (X:Cx) (f:Value->Value->Sem Value) (r:R2):Prop:=
 ∀(ae:List (Addr×Obj)) (s:Shared) (σ:St) (H:Hp) (x y:V) (v u:Value) (Q:VK),az X ae σ H s->bw x v->bw y u->r x y H Q->
  wpAny (model X.prog X.w) X.A (f v u) (EP X ae σ Q) X.xe s
noncomputable def DO (X:Cx) (f:Value->Sem Value) (r:V->Hp->VK->Prop):Prop:=
 ∀(ae:List (Addr×Obj)) (s:Shared) (σ:St) (H:Hp) (x:V) (v:Value) (Q:VK),az X ae σ H s->bw x v->r x H Q->
  wpAny (model X.prog X.w) X.A (f v) (EP X ae σ Q) X.xe s
noncomputable def dJ (X:Cx) (f:Value) (r:List V->Hp->VK->Prop):Prop:=
 ∀(ae:List (Addr×Obj)) (s:Shared) (σ:St) (H:Hp) (xs:List V) (us:List Value) (Q:VK),az X ae σ H s->aV xs us->r xs H Q->
  wpAny (model X.prog X.w) X.A (call f us) (EP X ae σ Q) X.xe s
noncomputable def kS (r:R2) (ta tb:TE):TE:=λσ H Q=>ta σ H λx H1=>tb σ H1 λy H2=>r x y H2 Q
noncomputable def Xg (r:V->Hp->VK->Prop) (ta:TE):TE:=λσ H Q=>ta σ H λx H1=>r x H1 Q
noncomputable def rI (C:Int->Int->Prop) (g:Int->Int->V):R2:=λx y H Q=>∃i j,x= .int i/\y= .int j/\C i j/\Q (g i j) H
noncomputable def kT (g:Int->Int->V):R2:=λx y H Q=>∃i j,x= .int i/\y= .int j/\Q (g i j) H
noncomputable def rU (g:Int->V):V->Hp->VK->Prop:=λx H Q=>∃i,x= .int i/\Q (g i) H
section
variable {X:Cx}{a b c:Expr}{ta tb tc:TE}{pos:Pos}
theorem DP (ha:PE X a ta) (hb:PE X b tb) {ae:List (Addr×Obj)}{s:Shared}{σ:St}{H:Hp}{R:V->V->Hp->Prop}(I:az X ae σ H s)
  (h:ta σ H λx H1=>tb σ H1 λy H2=>R x y H2) {Q:Value->Shared->Prop}{f:Value->Value->Sem Value}
  (hf:∀v u s2 x y H2,az X ae σ H2 s2->bw x v->bw y u->R x y H2->wpAny (model X.prog X.w) X.A (f v u) Q X.xe s2):
  wpAny (model X.prog X.w) X.A (eval a X.ah) (λv bB=>wpAny (model X.prog X.w) X.A (eval b X.ah) (λu eM=>wpAny (model X.prog X.w) X.A (f v u) Q X.xe eM) X.xe bB) X.xe s:=by
 refine aY (ha ae s σ H _ I h) λv s1 ⟨x,H1,I1,r1,q1⟩=>?_
 refine aY (hb ae s1 σ H1 _ I1 q1) λu s2 ⟨y,H2,I2,r2,q2⟩=>?_
 exact hf v u s2 x y H2 I2 r1 r2 q2
theorem bx {op:Operator}{r:R2}(ho:cV X (binaryOp op) r) (ha:PE X a ta) (hb:PE X b tb):PE X (.BinOp a op b pos) (kS r ta tb):=by intro ae s σ H Q I h;exact wpAny_BinOp (DP ha hb I h λv u s2 x y H2 I2 rx ry q=>ho ae s2 σ H2 x y v u Q I2 rx ry q)
theorem DQ {op:UnaryOp}{r:V->Hp->VK->Prop}(ho:DO X (unaryOp op) r) (ha:PE X a ta):PE X (.UnaryOp op a pos) (Xg r ta):=by intro ae s σ H Q I h;exact UnaryOp_ (aY (ha ae s σ H _ I h) λv s1 ⟨x,H1,I1,r1,q1⟩=>ho ae s1 σ H1 x v Q I1 r1 q1)
theorem DR {f:Value->Value->Sem Value}{C:Int->Int->Prop}{g:Int->Int->Int}
  (rule:∀(i j:Int) (t u:Tok) (s:Shared) (Q:Value->Shared->Prop) (E:Value->Shared->Prop),C i j->Q (.int (g i j) s.toks) {s with toks:=s.toks+1}->wpAny (model X.prog X.w) X.A (f (.int i t) (.int j u)) Q E s):
  cV X f (rI C λi j=> .int (g i j)):=by
 intro ae s σ H x y v u Q I rx ry h;obtain ⟨i,j,rfl,rfl,hc,q⟩:=h;obtain ⟨t,rfl⟩:=rx;obtain ⟨t',rfl⟩:=ry;exact rule i j t t' s _ _ hc ⟨.int (g i j),H,I.eg _,⟨_,rfl⟩,q⟩
theorem LS {f:Value->Value->Sem Value}{g:Int->Int->Int}
  (rule:∀(i j:Int) (t u:Tok) (s:Shared) (Q:Value->Shared->Prop) (E:Value->Shared->Prop),Q (.int (g i j) s.toks) {s with toks:=s.toks+1}->wpAny (model X.prog X.w) X.A (f (.int i t) (.int j u)) Q E s):
  cV X f (kT λi j=> .int (g i j)):=by
 intro ae s σ H x y v u Q I rx ry h;obtain ⟨i,j,rfl,rfl,q⟩:=h;obtain ⟨t,rfl⟩:=rx;obtain ⟨t',rfl⟩:=ry;exact rule i j t t' s _ _ ⟨.int (g i j),H,I.eg _,⟨_,rfl⟩,q⟩
theorem Av {f:Value->Value->Sem Value}{g:Int->Int->Bool}
  (rule:∀(i j:Int) (t u:Tok) (s:Shared) (Q:Value->Shared->Prop) (E:Value->Shared->Prop),Q (.bool (g i j)) s->wpAny (model X.prog X.w) X.A (f (.int i t) (.int j u)) Q E s):
  cV X f (kT λi j=> .bl (g i j)):=by
 intro ae s σ H x y v u Q I rx ry h;obtain ⟨i,j,rfl,rfl,q⟩:=h;obtain ⟨t,rfl⟩:=rx;obtain ⟨t',rfl⟩:=ry;exact rule i j t t' s _ _ ⟨.bl (g i j),H,I,rfl,q⟩
noncomputable def Xh (i j:Int):Prop:=0<j/\j<1073741824
noncomputable def DS (i j:Int):Prop:=(-(2^64)<i/\i<2^64)\/(-(2^64)<j/\j<2^64)
theorem DS.ok {i j:Int}(h:DS i j):IntMulOk i j:=by
 rcases h with ⟨h1,h2⟩|⟨h1,h2⟩
 ·exact .of_left (intBits_le_64 h1 h2)
 ·exact .of_right (intBits_le_64 h1 h2)
theorem eN:cV X (binaryOp .Add) (kT λi j=> .int (i+j)):=LS λ_a _a _a _a _a _a _a q=>add_int q
theorem eO:cV X (binaryOp .Sub) (kT λi j=> .int (i - j)):=LS λ_a _a _a _a _a _a _a q=>sub_int q
theorem lV:cV X (binaryOp .Mult) (rI DS λi j=> .int (i*j)):=DR λ_a _a _a _a _a _a _a hc q=>mul_int q hc.ok
theorem LU:cV X (binaryOp .FloorDiv) (rI Xh λi j=> .int (i/j)):=DR λi j _a _a _a _a _a hc q=>by have h1:(0:Int)<j:=hc.1;have h2:j<1073741824:=hc.2;exact floordiv_int ZD (by rw[Int.fdiv_eq_ediv_of_nonneg i ZD];exact q) (.inl (PyProof.noPylong_small ZD))
theorem DT:cV X (binaryOp .Mod) (rI (λ_a j=>0<j) λi j=> .int (i % j)):=DR λi j _a _a _a _a _a hc q=>by have h1:(0:Int)<j:=hc;exact mod_int' ZD (by rw[Int.fmod_eq_emod_of_nonneg i ZD];exact q)
theorem Xi {f:Value->Sem Value}{g:Int->Int}
  (rule:∀(i:Int) (t:Tok) (s:Shared) (Q:Value->Shared->Prop) (E:Value->Shared->Prop),Q (.int (g i) s.toks) {s with toks:=s.toks+1}->wpAny (model X.prog X.w) X.A (f (.int i t)) Q E s):
  DO X f (rU λi=> .int (g i)):=by
 intro ae s σ H x v Q I rx h;obtain ⟨i,rfl,q⟩:=h;obtain ⟨t,rfl⟩:=rx;exact rule i t s _ _ ⟨.int (g i),H,I.eg _,⟨_,rfl⟩,q⟩
theorem DU:DO X (unaryOp .USub) (rU λi=> .int (-i)):=Xi λ_a _a _a _a _a q=>neg_int q
end
noncomputable def jk:V->V->Bool
 | .bT,.bT=>true| .bT,.int _=>true| .int _,.bT=>true| .bT,.bl _=>true| .bl _,.bT=>true| .bT,.str _=>true| .str _,.bT=>true
 | .int _,.int _=>true| .bl _,.bl _=>true| .str _,.str _=>true| .gJ _,.gJ _=>true
 | .int _,.str _=>true| .str _,.int _=>true| .bl _,.str _=>true| .str _,.bl _=>true
 |_,_=>false
noncomputable def Xj:R2:=λx y H Q=>jk x y=true/\Q (.bl (decide (x=y))) H
noncomputable def Xk:R2:=λx y H Q=>jk x y=true/\Q (.bl (!decide (x=y))) H
theorem LV {i j:Int}:decide (V.int i=V.int j)=(i==j):=by rw[zf];simp
theorem LW {i j:Bool}:decide (V.bl i=V.bl j)=(i==j):=by rw[zf];simp
theorem LX {i j:Str}:decide (V.str i=V.str j)=(i==j):=by rw[zf];simp
theorem LY {i j:Array UInt8}:decide (V.gJ i=V.gJ j)=(i.toList==j.toList):=by rw[zf];cases i;cases j;simp
section
variable {X:Cx}{a b c:Expr}{ta tb tc:TE}{pos:Pos}
theorem dt {ae:List (Addr×Obj)}{σ:St}{H:Hp}{s:Shared}{Q:VK}{k k':Bool}(I:az X ae σ H s) (q:Q (.bl k) H) (e:k=k'):EP X ae σ Q (.bool k') s:=by subst e;exact ⟨.bl k,H,I,rfl,q⟩
theorem cF:cV X (compareOp .Eq) Xj:=by
 intro ae s σ H x y v u Q I rx ry h;obtain ⟨hs,q⟩:=h;cases x with
 |bT=>
  cases rx;cases y with
  |bT=>cases ry;exact PySem.EqNone.eq_none_none (dt I q (by simp))
  |bl j=>cases ry;exact PySem.EqNone.eq_none_bool (dt I q (by simp))
  |int j=>obtain ⟨t',rfl⟩:=ry;exact PySem.EqNone.eq_none_int (dt I q (by simp))
  |str j=>obtain ⟨t',rfl⟩:=ry;exact PySem.EqNone.eq_none_str (dt I q (by simp))
  |_=>exact absurd (show false=true from hs) zi
 |bl i=>
  cases rx;cases y with
  |bT=>cases ry;exact PySem.EqNone.eq_bool_none (dt I q (by simp))
  |bl j=>cases ry;exact eq_bool (dt I q LW)
  |str j=>obtain ⟨t',rfl⟩:=ry;exact PySem.EqMixed.eq_bool_str (dt I q (by simp))
  |_=>exact absurd (show false=true from hs) zi
 |int i=>
  obtain ⟨t,rfl⟩:=rx;cases y with
  |bT=>cases ry;exact PySem.EqNone.eq_int_none (dt I q (by simp))
  |int j=>obtain ⟨t',rfl⟩:=ry;exact eq_int (dt I q LV)
  |str j=>obtain ⟨t',rfl⟩:=ry;exact PySem.EqMixed.eq_int_str (dt I q (by simp))
  |_=>exact absurd (show false=true from hs) zi
 |str i=>
  obtain ⟨t,rfl⟩:=rx;cases y with
  |bT=>cases ry;exact PySem.EqNone.eq_str_none (dt I q (by simp))
  |bl j=>cases ry;exact PySem.EqMixed.eq_str_bool (dt I q (by simp))
  |int j=>obtain ⟨t',rfl⟩:=ry;exact PySem.EqMixed.eq_str_int (dt I q (by simp))
  |str j=>obtain ⟨t',rfl⟩:=ry;exact eq_str (dt I q LX)
  |_=>exact absurd (show false=true from hs) zi
 |gJ i=>
  obtain ⟨t,rfl⟩:=rx;cases y with
  |gJ j=>obtain ⟨t',rfl⟩:=ry;exact PySem.W.eq_bytes (dt I q LY)
  |_=>exact absurd (show false=true from hs) zi
 |_=>cases y<;>exact absurd (show false=true from hs) zi
theorem nj:cV X (compareOp .NotEq) Xk:=by
 intro ae s σ H x y v u Q I rx ry h;obtain ⟨hs,q⟩:=h;cases x with
 |bT=>
  cases rx;cases y with
  |bT=>cases ry;exact PySem.EqNone.ne_none_none (dt I q (by simp))
  |bl j=>cases ry;exact PySem.EqNone.ne_none_bool (dt I q (by simp))
  |int j=>obtain ⟨t',rfl⟩:=ry;exact PySem.EqNone.ne_none_int (dt I q (by simp))
  |str j=>obtain ⟨t',rfl⟩:=ry;exact PySem.EqNone.ne_none_str (dt I q (by simp))
  |_=>exact absurd (show false=true from hs) zi
 |bl i=>
  cases rx;cases y with
  |bT=>cases ry;exact PySem.EqNone.ne_bool_none (dt I q (by simp))
  |bl j=>cases ry;exact ne_bool (dt I q (Zo not LW))
  |str j=>obtain ⟨t',rfl⟩:=ry;exact PySem.EqMixed.ne_bool_str (dt I q (by simp))
  |_=>exact absurd (show false=true from hs) zi
 |int i=>
  obtain ⟨t,rfl⟩:=rx;cases y with
  |bT=>cases ry;exact PySem.EqNone.ne_int_none (dt I q (by simp))
  |int j=>obtain ⟨t',rfl⟩:=ry;exact ne_int (dt I q (Zo not LV))
  |str j=>obtain ⟨t',rfl⟩:=ry;exact PySem.EqMixed.ne_int_str (dt I q (by simp))
  |_=>exact absurd (show false=true from hs) zi
 |str i=>
  obtain ⟨t,rfl⟩:=rx;cases y with
  |bT=>cases ry;exact PySem.EqNone.ne_str_none (dt I q (by simp))
  |bl j=>cases ry;exact PySem.EqMixed.ne_str_bool (dt I q (by simp))
  |int j=>obtain ⟨t',rfl⟩:=ry;exact PySem.EqMixed.ne_str_int (dt I q (by simp))
  |str j=>obtain ⟨t',rfl⟩:=ry;exact ne_str (dt I q (Zo not LX))
  |_=>exact absurd (show false=true from hs) zi
 |gJ i=>
  obtain ⟨t,rfl⟩:=rx;cases y with
  |gJ j=>obtain ⟨t',rfl⟩:=ry;exact PySem.W.ne_bytes (dt I q (Zo not LY))
  |_=>exact absurd (show false=true from hs) zi
 |_=>cases y<;>exact absurd (show false=true from hs) zi
theorem o9:cV X (compareOp .Lt) (kT λi j=> .bl (decide (i<j))):=Av λ_a _a _a _a _a _a _a q=>lt_int q
theorem cO:cV X (compareOp .LtE) (kT λi j=> .bl (decide (i<=j))):=Av λ_a _a _a _a _a _a _a q=>le_int q
theorem fF:cV X (compareOp .Gt) (kT λi j=> .bl (decide (j<i))):=Av λ_a _a _a _a _a _a _a q=>gt_int q
theorem Xl:cV X (compareOp .GtE) (kT λi j=> .bl (decide (j<=i))):=Av λ_a _a _a _a _a _a _a q=>ge_int q
theorem LZ (b:Expr) {op:CmpOp}(h:op≠ .In:=by decide) (h2:op≠ .NotIn:=by decide):behindInMarks op b=false:=by
 have e1:(op==CmpOp.In)=false:=by cases op<;>first|rfl|exact absurd rfl h
 have e2:(op==CmpOp.NotIn)=false:=by cases op<;>first|rfl|exact absurd rfl h2
 cases b<;>simp[behindInMarks,e1,e2]
theorem DV {op:CmpOp}{r:R2}(ho:cV X (compareOp op) r) (ha:PE X a ta) (hb:PE X b tb) (hm:behindInMarks op b=false):PE X (.Compare a [op] [b] pos) (kS r ta tb):=by intro ae s σ H Q I h;exact wpAny_Compare1 (DP ha hb I h λv u s2 x y H2 I2 rx ry q=>ho ae s2 σ H2 x y v u Q I2 rx ry q) hm
noncomputable def DW (t:TE):TT:=λσ H Q=>t σ H λx H'=>∃k,x= .bl k/\Q k H'
theorem nu {op:CmpOp}{r:R2}(ho:cV X (compareOp op) r) (ha:PE X a ta) (hb:PE X b tb) (hm:behindInMarks op b=false):PT X (.Compare a [op] [b] pos) (DW (kS r ta tb)):=by
 intro ae s σ H Q I h;refine wpAny_isTrue_Compare1 (aY (ha ae s σ H _ I h) λv s1 ⟨x,H1,I1,r1,q1⟩=>aY (hb ae s1 σ H1 _ I1 q1) λu s2 ⟨y,H2,I2,r2,q2⟩=>
  aY (ho ae s2 σ H2 x y v u _ I2 r1 r2 q2) λc s3 ⟨z,H3,I3,r3,k,e,q3⟩=>?_) hm
 subst e;cases r3;exact wpAny_truthy_bool ⟨H3,I3,q3⟩
noncomputable def DX (r r':R2) (ta tb tc:TE):TE:=λσ H Q=>ta σ H λx H1=>tb σ H1 λy H2=>r x y H2 λz H3=>∃k,z= .bl k/\
 (if k=true then tc σ H3 λw' H4=>r' y w' H4 Q else Q (.bl false) H3)
theorem ny {op pf:CmpOp}{r r':R2}(ho:cV X (compareOp op) r) (iD:cV X (compareOp pf) r') (ha:PE X a ta) (hb:PE X b tb) (hc:PE X c tc)
  (hm:lastMarks [op,pf] [b,c]=false:=by with_unfolding_all rfl):PE X (.Compare a [op,pf] [b,c] pos) (DX r r' ta tb tc):=by
 intro ae s σ H Q I h;refine Compare_chain (aY (ha ae s σ H _ I h) λv s1 ⟨x,H1,I1,r1,q1⟩=>chain_link (aY (hb ae s1 σ H1 _ I1 q1) λu s2 ⟨y,H2,I2,r2,q2⟩=>
  aY (ho ae s2 σ H2 x y v u _ I2 r1 r2 q2) λd s3 ⟨z,H3,I3,r3,k,e,q3⟩=>?_)) hm
 subst e;cases r3;refine wpAny_truthy_bool ?_;cases k with
 |false=>exact ite_ff ⟨.bl false,H3,I3,rfl,q3⟩
 |true=>exact ite_tt (chain_last (aY (hc ae s3 σ H3 _ I3 q3) λw' s4 ⟨z',H4,I4,r4,q4⟩=>iD ae s4 σ H4 y z' u w' Q I4 r2 r4 q4))
theorem j1 {op pf:CmpOp}{r r':R2}(ho:cV X (compareOp op) r) (iD:cV X (compareOp pf) r') (ha:PE X a ta) (hb:PE X b tb) (hc:PE X c tc)
  (hm:lastMarks [op,pf] [b,c]=false:=by with_unfolding_all rfl):PT X (.Compare a [op,pf] [b,c] pos) (DW (DX r r' ta tb tc)):=by
 intro ae s σ H Q I h;refine isTrue_chain (aY (ha ae s σ H _ I h) λv s1 ⟨x,H1,I1,r1,q1⟩=>test_link (aY (hb ae s1 σ H1 _ I1 q1) λu s2 ⟨y,H2,I2,r2,q2⟩=>
  aY (ho ae s2 σ H2 x y v u _ I2 r1 r2 q2) λd s3 ⟨z,H3,I3,r3,k,e,q3⟩=>?_)) hm
 subst e;cases r3;refine wpAny_truthy_bool ?_;cases k with
 |false=>obtain ⟨k',e',q'⟩:=q3;cases e';exact ite_ff ⟨H3,I3,q'⟩
 |true=>refine ite_tt (test_last (aY (hc ae s3 σ H3 _ I3 q3) λw' s4 ⟨z',H4,I4,r4,q4⟩=>aY (iD ae s4 σ H4 y z' u w' _ I4 r2 r4 q4) λd' s5 ⟨z2,H5,I5,r5,k2,e2,q5⟩=>?_));subst e2;cases r5;exact wpAny_truthy_bool ⟨H5,I5,q5⟩
theorem uh:(sizeLine:Nat)<2^63:=by rw[sizeLine_eq];decide
theorem lW {x:V}{us:List Value}(r:aV [x] us):∃u,us= [u]/\bw x u:=by
 cases r with
 |cons r1 r2=>cases r2;exact ⟨_,rfl,r1⟩
theorem DY {x y:V}{us:List Value}(r:aV [x,y] us):∃u w',us= [u,w']/\bw x u/\bw y w':=by
 cases r with
 |cons r1 r2=>
  cases r2 with
  |cons r3 r4=>cases r4;exact ⟨_,_,rfl,r1,r3⟩
theorem Xm:dJ X (.builtin "abs") (λxs H Q=>∃i,xs= [.int i]/\Q (.int (if i<0 then -i else i)) H):=by intro ae s σ H xs us Q I r h;obtain ⟨i,rfl,q⟩:=h;obtain ⟨u,rfl,t,rfl⟩:=lW r;exact call_abs_int λu tk=>⟨.int (if i<0 then -i else i),H,I.eg _,⟨_,rfl⟩,q⟩
theorem Xn (hc:X.eD=true):dJ X (.builtin "max") (λxs H Q=>∃i j,xs= [.int i,.int j]/\Q (.int (if j>i then j else i)) H):=by
 intro ae s σ H xs us Q I r h;obtain ⟨i,j,rfl,q⟩:=h;obtain ⟨u,w',rfl,⟨t,rfl⟩,⟨t',rfl⟩⟩:=DY r;refine max_two_ints (I.ok.hd hc) λh' tk k=>⟨_,H,I.dX k,?_,q⟩
 by_cases hj:j>i
 ·rw[Zx hj,Zx hj];exact ⟨_,rfl⟩
 ·rw[Zw hj,Zw hj];exact ⟨_,rfl⟩
theorem Xo (hc:X.eD=true):dJ X (.builtin "min") (λxs H Q=>∃i j,xs= [.int i,.int j]/\Q (.int (if j<i then j else i)) H):=by
 intro ae s σ H xs us Q I r h;obtain ⟨i,j,rfl,q⟩:=h;obtain ⟨u,w',rfl,⟨t,rfl⟩,⟨t',rfl⟩⟩:=DY r;refine min_two_ints (I.ok.hd hc) λh' tk k=>⟨_,H,I.dX k,?_,q⟩
 by_cases hj:j<i
 ·rw[Zx hj,Zx hj];exact ⟨_,rfl⟩
 ·rw[Zw hj,Zw hj];exact ⟨_,rfl⟩
theorem Xp:dJ X (.type "str") (λxs H Q=>∃i,xs= [.int i]/\i.natAbs.log2<1920/\Q (.str (toString i)) H):=by intro ae s σ H xs us Q I r h;obtain ⟨i,rfl,hz,q⟩:=h;obtain ⟨u,rfl,t,rfl⟩:=lW r;exact PySem.P.str_of_int hz ⟨.str _,H,I.eg _,⟨_,rfl⟩,q⟩
theorem Xq:dJ X (.builtin "ord") (λxs H Q=>∃x,xs= [.str x]/\x.length=1/\Q (.int (x.cps.getD 0 0:Nat)) H):=by intro ae s σ H xs us Q I r h;obtain ⟨x,rfl,hz,q⟩:=h;obtain ⟨u,rfl,t,rfl⟩:=lW r;exact ord_of_one hz ⟨.int _,H,I.eg _,⟨_,rfl⟩,q⟩
end
structure qW (h:Heap) (x dx C:Addr) (mA:Str->Option Value):Prop where
 obj:h.get? x=some (PySem.W.instObj C dx)
 ns:h.Ns1 dx mA
 ne:dx≠x
set_option tactic.hygienic true in
theorem Xr {h:Heap}{dx:Addr}{mA:Str->Option Value}(n:h.Ns1 dx mA):∃od,h.get? dx=some od/\∀name,PySem.W.lookIn name od=some (mA name):=by
 obtain ⟨o,es,ep,ho,hd,hk,_,hm⟩:=n;refine ⟨o,ho,λname=>?_⟩;have e:=hm name;unfold nsFind findBy at e;rw[←Array.find?_toList]at e;unfold PySem.W.lookIn;rw[hd];dsimp only;split
 ·rename_i y q;rw[q]at e;exact Zo some e
 ·rename_i q;rw[q]at e;have a:es.toList.any (·.refKey)=false:=by rw[zA];intro y hy;obtain ⟨z,t,ui⟩:=hk y (Array.mem_toList_iff.mp hy);simp[DictEntry.refKey,ui]
  have a':¬es.toList.any (·.refKey)=true:=by rw[a];exact zi
  rw[Zw a'];exact Zo some e
theorem qW.look {h:Heap}{x dx C:Addr}{mA:Str->Option Value}(I:qW h x dx C mA):∃od,PySem.W.InstAt h x (PySem.W.instObj C dx) C (some od)/\∀name,PySem.W.lookIn name od=some (mA name):=
 let ⟨od,ho,hl⟩:=Xr I.ns
 ⟨od,⟨I.obj,rfl,rfl,ho⟩,hl⟩
section
variable {prog:Program}{w:World}{A:Around}{E:Value->Shared->Prop}{s:Shared}{K:PySem.W.Frag}{x dx C f:Addr}{mA:Str->Option Value}{name:Str}{v:Value}
theorem cD {Xs:Bool}{Q:Value->Shared->Prop}(X:K.In s.heap) (I:qW s.heap x dx C mA) (hg:PySem.W.plainGet K C name=true) (hh:PySem.W.hasDictIn K C=true)
  (ha:PySem.W.findIn K (.ref C) name=some none) (hv:mA name=some v) (lX:PySem.W.handedIn v=true) (h:Q v {s with toks:=s.toks+1}):
  wpAny (model prog w) A (getAttr (.ref x) name Xs) Q E s:=by
 obtain ⟨od,J,hl⟩:=I.look;exact PySem.W.get_value X J (PySem.W.plainGet_of hg).1 (PySem.W.findObj_own hh ha rfl (by rw[hl,hv])) lX h
theorem Xu {ns:List Str}{Q:Unit->Shared->Prop}(X:K.In s.heap) (I:qW s.heap x dx C mA)
  (hs:PySem.W.findIn K (.ref C) "__setattr__"=some (some (.builtin "object.__setattr__"))) (hp:PySem.W.plainOver K C=true) (ht:PySem.W.takerIn K C name=some none) (hh:PySem.W.hasDictIn K C=true)
  (hw:PySem.Within mA ns) (hsz:ns.length<=sizeLine)
  (h:∀h',qW h' x dx C (λy=>if y=name then some v else mA y)->Heap.SameBut dx s.heap h'->Q () {s with heap:=h',toks:=s.toks+2}):
  wpAny (model prog w) A (setAttr (.ref x) name v) Q E s:=by
 obtain ⟨od,J,hl⟩:=I.look;refine PySem.W.set_plain X J hs (PySem.W.osa_open (s:={s with toks:=s.toks+1}) (r:=none) X J hp ht λb=>?_);obtain ⟨cd,hc,Dv⟩:=PySem.W.any_some hh;have hx:s.heap.get? x=some ⟨.ref C,some dx,.plain,#[]⟩:=I.obj;refine wpAny_bind (wpAny_pure (wpAny_bind (wpAny_bind (wpAny_loadPart hx (wpAny_bind (PySem.W.Looks.here (s:={s with toks:=s.toks+1}) (PySem.W.looks_clsIn X hc) ?_))))));rw[Dv];refine wpAny_pure (a:=some dx) (wpAny_bind (wpAny_pure (wpAny_bind ?_)));refine wpAny_nsSet1 (s:={s with toks:=s.toks+1}) I.ns λh' j2 lU=>?_
 obtain ⟨oD,esD,epD,Xv,Xw,Xx⟩:=j2.count (PySem.Within.cons name v hw);refine wpAny_bind (wpAny_lookBehind Xv (by rw[Xw];exact pastItsLine_dict (xE Xx (by rw[yu];omega))) ?_);exact wpAny_pure (h _ ⟨(lU.2 _ (xR I.ne)).trans I.obj,j2,I.ne⟩ lU)
theorem Xy {R:Result->Shared->Prop}{vs:List Value}{kw:List (Str×Value)}(X:K.In s.heap) (hm:PySem.W.makesIn K C=true)
  (hi:PySem.W.findIn K (.ref C) "__init__"=some (some (.ref f))) (hf:PySem.W.typeIn K (.ref f)=some (.type "function"))
  (h:codeAny (model prog w) (A.under (.builtin "type.__call__" ⟨.ref C::vs,kw⟩)) (.call (.ref f) ⟨.ref (s.heap.objs.size+1)::vs,kw⟩) (PySem.W.InitBack (s.heap.objs.size+1) R)
   {s with heap:=(s.heap.push PySem.W.emptyDict).push (PySem.W.instObj C s.heap.objs.size)}):
  codeAny (model prog w) A (.call (.ref C) ⟨vs,kw⟩) R s:=by
 obtain ⟨hh,g,d,t,os⟩:=s;exact PySem.W.make_core (PySem.W.makes_of X hm) (PySem.W.looks_findIn X hi) (λself=>PySem.W.bind_fn X self hf) (.inl rfl) h
end
noncomputable def cT (f:Str) (v:V):List (Str×V)->List (Str×V)
 | []=> [(f,v)]
 |(g,x)::r=>if g=f then (g,v)::r else (g,x)::cT f v r
theorem cw (f g:Str) (v:V):∀fs:List (Str×V),(cT f v fs).lookup g=if g=f then some v else fs.lookup g
 | []=>by
  show List.lookup g [(f,v)]=_;by_cases h:g=f
  ·have hb:(g==f)=true:=Zm.mpr h;simp only[List.lookup,hb,Zx h]
  ·have hb:(g==f)=false:=beq_eq_false_iff_ne.mpr h;simp only[List.lookup,hb,Zw h]
 |(k,x)::r=>by
  have ih:=cw f g v r;rw[show cT f v ((k,x)::r)=(if k=f then (k,v)::r else (k,x)::cT f v r) from rfl];by_cases hk:k=f
  ·rw[Zx hk];by_cases h:g=k
   ·have hb:(g==k)=true:=Zm.mpr h;simp only[List.lookup,hb,Zx (h.trans hk)]
   ·have hb:(g==k)=false:=beq_eq_false_iff_ne.mpr h;simp only[List.lookup,hb,Zw (λe:g=f=>h (e.trans hk.symm))]
  ·rw[Zw hk];by_cases h:g=k
   ·have hb:(g==k)=true:=Zm.mpr h;simp only[List.lookup,hb,Zw (λe:g=f=>hk (h.symm.trans e))]
   ·have hb:(g==k)=false:=beq_eq_false_iff_ne.mpr h;simp only[List.lookup,hb];exact ih
theorem DZ (f:Str) (v:V):∀fs:List (Str×V),f∈(cT f v fs).map (·.1)/\∀g,g∈fs.map (·.1)->g∈(cT f v fs).map (·.1)
 | []=>⟨by simp[cT],λg h=>by simp at h⟩
 |(k,x)::r=>by
  obtain ⟨i1,i2⟩:=DZ f v r;rw[show cT f v ((k,x)::r)=(if k=f then (k,v)::r else (k,x)::cT f v r) from rfl];by_cases hk:k=f
  ·rw[Zx hk];subst hk;exact ⟨by simp,λg h=>by simpa using h⟩
  ·rw[Zw hk];refine ⟨?_,λg h=>?_⟩
   ·rw[yJ];exact yU _ i1
   ·rw[yJ]at h⊢;rcases yT.mp h with e|e
    ·exact yT.mpr (.inl e)
    ·exact yU _ (i2 g e)
theorem L0 (f:Str) (v:V):∀fs:List (Str×V),(cT f v fs).length<=fs.length+1
 | []=>by simp[cT]
 |(k,x)::r=>by
  have ih:=L0 f v r;rw[show cT f v ((k,x)::r)=(if k=f then (k,v)::r else (k,x)::cT f v r) from rfl];by_cases hk:k=f
  ·rw[Zx hk,yu,yu];omega
  ·rw[Zw hk,yu,yu];omega
theorem g8.D0 {v:V}{o:Option Value}(r:g8 (some v) o):∃u,o=some u/\bw v u:=by
 cases o with
 |none=>exact (show False from r).elim
 |some u=>exact ⟨u,rfl,r⟩
theorem Xz {v:V}{u:Value}(r:bw v u):PySem.W.handedIn u=true:=by
 cases v with
 |bT=>cases (show u=Value.none from r);rfl
 |bl b=>cases (show u=Value.bool b from r);rfl
 |int i=>obtain ⟨t,e⟩:=(show ∃t,u=Value.int i t from r);cases e;rfl
 |str x=>obtain ⟨t,e⟩:=(show ∃t,u=Value.str x t from r);cases e;rfl
 |gJ b=>obtain ⟨t,e⟩:=(show ∃t,u=Value.bytes b t from r);cases e;rfl
 |Ae b=>obtain ⟨t,e⟩:=(show ∃t,u=Value.float b t from r);cases e;rfl
 |ref a=>cases (show u=Value.ref a from r);rfl
 |ty n=>cases (show u=Value.type n from r);rfl
section
variable {P:Program}{w:World}{H H':Hp}{h h':Heap}{a C dx:Addr}{fs Wv:List (Str×V)}
theorem L1 (aO:cS P w H h) (e:H a=some (.ins C dx fs)):∃mA,qW h a dx C mA/\(∀f,g8 (fs.lookup f) (mA f))/\PySem.Within mA (fs.map (·.1))/\fs.length<=1000/\H dx=some (.own a):=by obtain ⟨d,z,ne,ob,mA,n,r,q⟩:=(show dM P w H h a (.ins C dx fs) from aO a _ e);exact ⟨mA,⟨ob,n,ne⟩,r,q,z,d⟩
end
structure jm (K:PySem.W.Frag) (C:Addr):Prop where
 pg:PySem.W.plainGet K C Str.empty=true
 hd:PySem.W.hasDictIn K C=true
 po:PySem.W.plainOver K C=true
 sa:PySem.W.findIn K (.ref C) "__setattr__"=some (some (.builtin "object.__setattr__"))
theorem jm.get {K:PySem.W.Frag}{C:Addr}(c:jm K C) (f:Str):PySem.W.plainGet K C f=true:=c.pg
noncomputable def et (K:PySem.W.Frag) (C:Addr) (f:Str):Prop:=PySem.W.findIn K (.ref C) f=some none
theorem et.XA {K:PySem.W.Frag}{C:Addr}{f:Str}(n:et K C f):PySem.W.takerIn K C f=some none:=by unfold PySem.W.takerIn;rw[show PySem.W.findIn K (.ref C) f=some none from n];rfl
section
variable {X:Cx}{ae:List (Addr×Obj)}{σ:St}{H:Hp}{s:Shared}{a C dx:Addr}{fs:List (Str×V)}{f:Str}{v:V}{A:Around}{E:Value->Shared->Prop}
theorem XB {b:Bool}{Q:Value->Shared->Prop}(I:az X ae σ H s) (e:H a=some (.ins C dx fs)) (c:jm X.K C) (n:et X.K C f) (l:fs.lookup f=some v)
  (h:∀u s',az X ae σ H s'->bw v u->Q u s'):wpAny (model X.prog X.w) A (getAttr (.ref a) f b) Q E s:=by
 obtain ⟨mA,O,r,_,_,_⟩:=L1 I.aO e;obtain ⟨u,hu,ru⟩:=g8.D0 (v:=v) (o:=mA f) (by rw[←l];exact r f);exact cD I.gg O (c.get f) c.hd n hu (Xz ru) (h u _ (I.eg _) ru)
theorem XC {y:V}{u:Value}{Q:Unit->Shared->Prop}(I:az X ae σ H s) (e:H a=some (.ins C dx fs)) (c:jm X.K C) (n:et X.K C f) (hl:fs.length<1000) (ry:bw y u)
  (h:∀s',az X ae σ (aj H a (.ins C dx (cT f y fs))) s'->Q () s'):wpAny (model X.prog X.w) A (setAttr (.ref a) f u) Q E s:=by
 obtain ⟨mA,O,r,wi,_,ho⟩:=L1 I.aO e;have hz:(fs.map (·.1)).length<=sizeLine:=by rw[yA,sizeLine_eq];omega
 refine Xu I.gg O c.sa c.po n.XA c.hd wi hz λh' O' sb=>h _ ?_
 have hd:∃o,h'.get? dx=some o:=let ⟨o,_,_,e',_⟩:=O'.ns;⟨o,e'⟩;refine I.kK (x:=a) (e:=dx) (by rw[e];exact True.intro) (.inr ho) (λb q hb z=>(sb.2 b hb).trans z) hd ?_;refine ⟨by rw[aA O.ne];exact ho,?_,O.ne,O'.obj,_,O'.ns,λg=>?_,λg hg=>?_⟩
 ·have:=L0 f y fs;omega
 ·show g8 ((cT f y fs).lookup g) (if g=f then some u else mA g);rw[cw];by_cases q:g=f
  ·rw[Zx q,Zx q];exact ry
  ·rw[Zw q,Zw q];exact r g
 ·by_cases q:g=f
  ·rw[q];exact (DZ f y fs).1
  ·refine (DZ f y fs).2 g (wi g λz=>hg ?_);show (if g=f then some u else mA g)=none;rw[Zw q];exact z
theorem az.XD (I:az X ae σ H s):az X ae σ (aj (aj H s.heap.objs.size (.own (s.heap.objs.size+1))) (s.heap.objs.size+1) (.ins C s.heap.objs.size []))
  {s with heap:=(s.heap.push PySem.W.emptyDict).push (PySem.W.instObj C s.heap.objs.size)}:=by
 have e1:(s.heap.push PySem.W.emptyDict).get? s.heap.objs.size=some PySem.W.emptyDict:=Heap.get?_push_size s.heap rfl;have e2:((s.heap.push PySem.W.emptyDict).push (PySem.W.instObj C s.heap.objs.size)).get? (s.heap.objs.size+1)=some (PySem.W.instObj C s.heap.objs.size):=by have:=Heap.get?_push_size (s.heap.push PySem.W.emptyDict) (o:=PySem.W.instObj C s.heap.objs.size) rfl;rwa[Heap.size_push]at this
 have e3:(s.heap.push PySem.W.emptyDict).Ns s.heap.objs.size (λ_a=>none):=⟨PySem.W.emptyDict,#[],_,e1,rfl,(λe he=>absurd he (by simp)),λ_a=>rfl⟩;have I1:=I.fS (a:=s.heap.objs.size) (o:= .own (s.heap.objs.size+1)) (h':=s.heap.push PySem.W.emptyDict) (t':=s.toks) (λb u q=>Heap.get?_push_of_some _ q) (xC _) ⟨_,e1⟩;refine I1.fS (a:=s.heap.objs.size+1) (o:= .ins C s.heap.objs.size []) (t':=s.toks) (λb u q=>Heap.get?_push_of_some _ q) (xy (Heap.size_push _ _)) ?_;have ne:s.heap.objs.size≠s.heap.objs.size+1:=xN (xJ _);refine ⟨by rw[aA ne,ao],xQ _,ne,e2,λ_a=>none,(Heap.Ns1.of_empty e3).at λo q=>Heap.get?_push_of_some _ q,λ_a=>True.intro,λy hy=>absurd rfl hy⟩
theorem XE {prog:Program}{w:World}{ah:Env}{e:Expr}{f:Str}{pos:Pos}{s:Shared}{Q:Value->Shared->Prop}(hb:attributeBase e f ah (eval e ah)=eval e ah)
  (h:wpAny (model prog w) A (eval e ah) (λo bB=>wpAny (model prog w) A (getAttr o f true) Q E bB) E s):wpAny (model prog w) A (eval (.Attribute e f pos) ah) Q E s:=
 Attribute_any_ h (by rw[arm_eval_Attribute,hb])
end
noncomputable def D1 (K:PySem.W.Frag) (ta:TE) (f:Str):TE:=λσ H Q=>ta σ H λx H1=>∃a C dx fs v,x= .ref a/\H1 a=some (.ins C dx fs)/\jm K C/\et K C f/\fs.lookup f=some v/\Q v H1
noncomputable def XF (K:PySem.W.Frag) (ta tv:TE) (f:Str):TS:=λD σ H=>tv σ H λy H1=>ta σ H1 λx H2=>∃a C dx fs,x= .ref a/\H2 a=some (.ins C dx fs)/\jm K C/\et K C f/\fs.length<1000/\
 D.nx σ (aj H2 a (.ins C dx (cT f y fs)))
section
variable {X:Cx}{o e value:Expr}{f:Str}{pos gj DJ:Pos}{ta tv:TE}
theorem XG (he:PE X e ta) (hb:attributeBase e f X.ah (eval e X.ah)=eval e X.ah):PE X (.Attribute e f pos) (D1 X.K ta f):=by intro ae s σ H Q I h;refine XE hb (aY (he ae s σ H _ I h) λu s1 ⟨x,H1,I1,rx,a,C,dx,fs,v,ex,ea,c,n,l,q⟩=>?_);subst ex;obtain rfl:u=Value.ref a:=rx;exact XB I1 ea c n l λu' s2 I2 ru=>⟨v,H1,I2,ru,q⟩
theorem eP (ha:PE X o ta) (hv:PE X value tv) (hs:swapsWith value (some (.Attribute o f gj)) pos.line X.ah=pure false):PS X (.Assign [.Attribute o f gj] value pos) (XF X.K ta tv f):=by intro ae s σ H D I h;refine plainObj_wpAny_Assign_Attribute (aY (hv ae s σ H _ I h) λu s1 ⟨y,H1,I1,ry,q⟩=>aY (ha ae s1 σ H1 _ I1 q) λov s2 ⟨x,H2,I2,rx,a,C,dx,fs,ex,ea,c,n,l,q2⟩=>?_) hs;subst ex;obtain rfl:ov=Value.ref a:=rx;exact XC I2 ea c n l ry λs3 I3=>⟨σ,_,I3,q2⟩
end
structure Room (k:Nat) (A:Around):Prop where
 hd:A.handled=none
 dp:A.depth+3*k+5<recursionLimit
 un:A.units+16*k+200<cLine
theorem Room.mono {j k:Nat}{A:Around}(r:Room k A) (h:j<=k):Room j A:=⟨r.hd,by have:=r.dp;omega,by have:=r.un;omega⟩
theorem Room.deeper {k:Nat}{A:Around}(r:Room (k+1) A) (ah:Env):Room k (A.deeper ah):=
 ⟨r.hd,by have:=r.dp;show A.depth+1+3*k+5<_;omega,by have:=r.un;show A.units+3+16*k+200<_;omega⟩
theorem XH {A:Around}{C:Addr}{us:List Value}{kw:List (Str×Value)}:(A.under (.builtin "type.__call__" ⟨.ref C::us,kw⟩)).depth=A.depth+1:=by
 first|rfl|simp[Around.under,Code.weight,Code.isCreation,Code.isGuard,Code.isCaller,Code.frames,Code.isFrame,guardIds]
theorem XI {A:Around}{C:Addr}{us:List Value}{kw:List (Str×Value)}:(A.under (.builtin "type.__call__" ⟨.ref C::us,kw⟩)).units=A.units+1:=by
 first|rfl|simp[Around.under,Code.cUnits,Code.frames,Code.isFrame]
theorem Room.D2 {k:Nat}{A:Around}(r:Room (k+1) A) (C:Addr) (us:List Value) (kw:List (Str×Value)):Room k (A.under (.builtin "type.__call__" ⟨.ref C::us,kw⟩)):=
 ⟨r.hd,by have:=r.dp;rw[XH];omega,by have:=r.un;rw[XI];omega⟩
theorem Room.depth {k:Nat}{A:Around}(r:Room k A):A.depth<recursionLimit:=by have:=r.dp;omega
theorem Room.units {k:Nat}{A:Around}(r:Room k A):A.units+64<cLine:=by have:=r.un;omega
noncomputable def kU:TA:=λ_a H Q=>Q [] H
noncomputable def nz (ta:TE) (tr:TA):TA:=λσ H Q=>ta σ H λx H1=>tr σ H1 λxs H2=>Q (x::xs) H2
section
variable {X:Cx}{e:Expr}{es:List Expr}{te:TE}{t:TA}{pos:Pos}
theorem cW:PA X [] kU:=λ_a _a _a _a H Q I h=>Calls.spliced_nil ⟨[],H,I,.nil,h⟩
theorem au (ha:PE X e te) (hr:PA X es t) (hs:starEach (e::es) X.ah=(false,eval e X.ah)::starEach es X.ah:=by rfl):PA X (e::es) (nz te t):=by intro pos ae s σ H Q I h;rw[hs];show wpAny _ _ (spliced ((false,eval e X.ah)::backTo pos (starEach es X.ah))) _ _ s;refine Calls.spliced_cons (aY (ha ae s σ H _ I h) λu s1 ⟨x,H1,I1,r1,q1⟩=>?_);exact aY (hr pos ae s1 σ H1 _ I1 q1) λus s2 ⟨xs,H2,I2,r2,q2⟩=>⟨x::xs,H2,I2,.cons r1 r2,q2⟩
noncomputable def XJ (t:TA):TE:=λσ H Q=>t σ H λxs H1=>xs.length<=sizeLine/\∀p,H1 p=none->Q (.ref p) (aj H1 p (.bP xs))
noncomputable def L3 (t:TA):TE:=λσ H Q=>t σ H λxs H1=>xs.length<=sizeLine/\∀p,H1 p=none->Q (.ref p) (aj H1 p (.lst xs))
theorem lY {x1} (h:PA X es t):PE X (.Tuple es x1 pos) (XJ t):=by intro ae s σ H Q I hq;refine wpAny_Tuple_spliced (aY (h pos ae s σ H _ I hq) λus s1 ⟨xs,H1,I1,r,z,q⟩=>⟨by rw[←r.length];exact z,?_⟩);have hf:H1 s1.heap.objs.size=none:=I1.aO.fresh (xC _);refine ⟨.ref s1.heap.objs.size,aj H1 s1.heap.objs.size (.bP xs),I1.fS (t':=s1.toks) (λb u e=>Heap.get?_push_of_some _ e) (xC _) ?_,rfl,q _ hf⟩;exact ⟨z,us,r,⟨_,Heap.get?_push_size _ rfl,rfl,_,rfl⟩⟩
theorem aW (h:PA X es t):PE X (.List es pos) (L3 t):=by intro ae s σ H Q I hq;refine wpAny_List_spliced (aY (h pos ae s σ H _ I hq) λus s1 ⟨xs,H1,I1,r,z,q⟩=>⟨by rw[←r.length];exact z,?_⟩);have hf:H1 s1.heap.objs.size=none:=I1.aO.fresh (xC _);refine ⟨.ref s1.heap.objs.size,aj H1 s1.heap.objs.size (.lst xs),I1.fS (t':=s1.toks) (λb u e=>Heap.get?_push_of_some _ e) (xC _) ?_,rfl,q _ hf⟩;exact ⟨z,us,0,r,Heap.get?_push_size _ rfl⟩
end
noncomputable abbrev Sp:=List V->Hp->VK->XK->Prop
noncomputable abbrev jn:=List Env->Hp->Shared->XK->Value->Shared->Prop
structure nA (P:Program) (w:World) (K:PySem.W.Frag) (mg:Str->Option Value) (base:Heap) (A:Around) (aJ:List Env) (s:Shared) (H:Hp):Prop where
 frames:A.frames=some aJ
 mod:Mod K mg base
 bs:∀b o,base.get? b=some o->s.heap.get? b=some o/\H b=none
 kL:base.objs.size<=s.heap.objs.size
 ji:s.heap.FunFrames base aJ
 oX:∀b∈jX aJ,H b=none
 aO:cS P w H s.heap
 eL:AllBare s.gens
noncomputable def CE (aJ:List Env) (P:Program) (w:World) (H:Hp) (s:Shared) (Q:VK) (u:Value) (s':Shared):Prop:=
 ∃v H',s'.os=s.os/\AllBare s'.gens/\Un (jX aJ) [] H H' s.heap s'.heap/\cS P w H' s'.heap/\bw v u/\Q v H'
noncomputable def CR (CX:jn) (aJ:List Env) (P:Program) (w:World) (H:Hp) (s:Shared) (Q:VK) (E:XK) (r:Result) (s':Shared):Prop:=
 match r with
 | .ok (.ret u)=>CE aJ P w H s Q u s'
 | .ok _=>False
 | .error e=>CX aJ H s E e s'
structure gO (P:Program) (w:World) (K:PySem.W.Frag) (mg:Str->Option Value) (base:Heap) (CX:jn) (k:Nat) (f:Addr) (fd:FuncData) (ps:List Str) (sp:Sp):Prop where
 len:∀vs H Q E,sp vs H Q E->vs.length=ps.length
 run:∀(A:Around) (aJ:List Env) (s:Shared) (H:Hp) (args:Args) (us:List Value) (vs:List V) (Q:VK) (E:XK),Room k A->nA P w K mg base A aJ s H->BindsTo s fd args (ps.zip us)->aV vs us->sp vs H Q E->
  codeAny (model P w) A (.call (.ref f) args) (CR CX aJ P w H s Q E) s
theorem nA.D2 {P:Program}{w:World}{K:PySem.W.Frag}{mg:Str->Option Value}{base:Heap}{A:Around}{aJ:List Env}{s:Shared}{H:Hp}(e:nA P w K mg base A aJ s H) (C:Addr) (us:List Value) (kw:List (Str×Value)):
  nA P w K mg base (A.under (.builtin "type.__call__" ⟨.ref C::us,kw⟩)) aJ s H:=⟨by first|exact e.frames|(simpa [Around.under,Code.envs,Code.isFrame,pushEnvs]using e.frames),e.mod,e.bs,e.kL,e.ji,e.oX,e.aO,e.eL⟩
section
variable {X:Cx}{ae:List (Addr×Obj)}{σ:St}{H:Hp}{s s':Shared}
theorem az.eC (I:az X ae σ H s):nA X.prog X.w X.K X.mg X.base X.A X.fT s H:=
 ⟨I.ok.frames,I.ok.mod,I.bs,xE I.ok.kL I.sz,I.fT,I.Lv,I.aO,I.eL⟩
theorem az.L4 {Q:VK}{u:Value}(I:az X ae σ H s) (h:CE X.fT X.prog X.w H s Q u s'):EP X ae σ Q u s':=by obtain ⟨v,H',os,eL,un,aO,r,q⟩:=h;obtain ⟨hh,g,d,t,XM⟩:=s';obtain rfl:XM=s.os:=os;exact ⟨v,H',I.call (h':=hh) (g':=g) (d':=d) (t':=t) (ch:= []) un aO eL (λb z=>absurd z (by simp)),r,q⟩
end
noncomputable def Aw (sp:Sp) (gp:List V) (E:XK) (t:TA):TE:=λσ H Q=>t σ H λvs H1=>sp (vs++gp) H1 Q E
noncomputable def qX (C:Addr) (sp:Sp) (gp:List V) (E:XK) (t:TA):TE:=λσ H Q=>t σ H λvs H1=>∀x dx,H1 x=none->H1 dx=none->dx≠x->
 sp (.ref x::(vs++gp)) (aj (aj H1 dx (.own x)) x (.ins C dx [])) (λv H2=>v= .bT/\Q (.ref x) H2) E
noncomputable def kW (K:PySem.W.Frag) (fd:FuncData) (ps:List Str) (ds:List Value):Prop:=
 ∀(s:Shared) (us:List Value),K.In s.heap->(us++ds).length=ps.length->BindsTo s fd ⟨us,[]⟩ (ps.zip (us++ds))
theorem kW.all {K:PySem.W.Frag}{fd:FuncData}{ps:List Str}(h:∀us:List Value,us.length=ps.length->bindArgs fd ⟨us,[]⟩=pure (ps.zip us)):kW K fd ps []:=λs us _a hl=>by rw[zE]at hl⊢;exact .of_eq (h us hl)
noncomputable def jo (CX:jn) (X:Cx) (E:XK):Prop:=∀(ae:List (Addr×Obj)) (σ:St) (H:Hp) (s:Shared) (e:Value) (s':Shared),az X ae σ H s->CX X.fT H s E e s'->X.xe e s'
section
variable {X:Cx}{CX:jn}{k:Nat}{f C:Addr}{fd:FuncData}{ps:List Str}{sp:Sp}{gp:List V}{ds:List Value}{E:XK}{x m:Str}{p pos fG:Pos}{e o:Expr}{es:List Expr}{ta:TE}{t:TA}
set_option tactic.hygienic true in
theorem XN {ae:List (Addr×Obj)}{σ:St}{H:Hp}{s:Shared}{Q:VK}{us:List Value}{vs:List V}(F:gO X.prog X.w X.K X.mg X.base CX k f fd ps sp) (hr:Room k X.A) (hb:kW X.K fd ps ds) (hd:aV gp ds) (hx:jo CX X E)
  (I:az X ae σ H s) (r:aV vs us) (h:sp (vs++gp) H Q E):wpAny (model X.prog X.w) X.A (call (.ref f) us) (EP X ae σ Q) X.xe s:=by
 have r2:aV (vs++gp) (us++ds):=r.append hd;have hl:(us++ds).length=ps.length:=by rw[←r2.length];exact F.len _ _ _ _ h
 refine wpAny_call (codeAny_mono (F.run X.A X.fT s H ⟨us,[]⟩ (us++ds) (vs++gp) Q E hr I.eC (hb s us I.gg hl) r2 h) λr s' hq=>?_);cases r with
 |error e=>exact hx ae σ H s e s' I hq
 |ok fl=>
  cases fl with
  |ret u=>exact I.L4 hq
  |next=>exact False.elim hq
  |brk=>exact False.elim hq
  |cont=>exact False.elim hq
theorem XO (F:gO X.prog X.w X.K X.mg X.base CX k f fd ps sp) (hr:Room k X.A) (hg:Gl X x) (hm:X.mg x=some (.ref f)) (hk:PySem.W.keepIn X.K (.ref f)=true) (hb:kW X.K fd ps ds) (hd:aV gp ds) (hx:jo CX X E)
  (ha:PA X (e::es) t) (eX:(x==("__debug__":Str))=false:=by decide) (he:starEach (e::es) X.ah=(false,eval e X.ah)::starEach es X.ah:=by rfl) (dj:(backTo pos (starEach es X.ah)).any (·.1)=false:=by rfl):
  PE X (.Call (.Name x p) (e::es) [] pos) (Aw sp gp E t):=by
 intro ae s σ H Q I h;refine wpAny_Call_Name_kw (qP I hg hm ?_ eX);refine PySem.W.callWith_K (h₀:=X.base) I.ok.mod.tZ hk (aY (ha pos ae s σ H _ I h) λus s1 ⟨vs,H1,I1,r,q⟩=>⟨I1.gg,?_⟩) he dj;exact XN F hr hb hd hx I1 r q
structure Mk (K:PySem.W.Frag) (C f:Addr):Prop where
 XQ:PySem.W.makesIn K C=true
 XR:PySem.W.findIn K (.ref C) "__init__"=some (some (.ref f))
 fn:PySem.W.isFn K (.ref f)=true
 kp:PySem.W.keepIn K (.ref C)=true
set_option tactic.hygienic true in
theorem L5 {ae:List (Addr×Obj)}{σ:St}{H:Hp}{s:Shared}{Q:VK}{us:List Value}{vs:List V}(M:Mk X.K C f) (F:gO X.prog X.w X.K X.mg X.base CX k f fd ps sp) (hr:Room (k+1) X.A) (hb:kW X.K fd ps ds) (hd:aV gp ds)
  (hx:jo CX X E) (I:az X ae σ H s) (r:aV vs us)
  (h:∀x dx,H x=none->H dx=none->dx≠x->sp (.ref x::(vs++gp)) (aj (aj H dx (.own x)) x (.ins C dx [])) (λv H2=>v= .bT/\Q (.ref x) H2) E):
  wpAny (model X.prog X.w) X.A (call (.ref C) us) (EP X ae σ Q) X.xe s:=by
 have hq:=h (s.heap.objs.size+1) s.heap.objs.size (I.aO.fresh (xD _)) (I.aO.fresh (xC _)) (xN (xJ _));have I2:=az.XD (C:=C) I;have r2:aV (V.ref (s.heap.objs.size+1)::(vs++gp)) (Value.ref (s.heap.objs.size+1)::(us++ds)):= .cons rfl (r.append hd);have hl:(Value.ref (s.heap.objs.size+1)::us++ds).length=ps.length:=by have e:=r2.length;rw[F.len _ _ _ _ hq]at e;exact e.symm
 refine wpAny_call (Xy (f:=f) I.gg M.XQ M.XR (Zm.mp M.fn) (codeAny_mono (F.run _ X.fT _ _ ⟨Value.ref (s.heap.objs.size+1)::us,[]⟩ (Value.ref (s.heap.objs.size+1)::(us++ds)) _ _ E (hr.D2 C us [])
  (I2.eC.D2 C us []) (hb _ (Value.ref (s.heap.objs.size+1)::us) I2.gg hl) r2 hq) λr s' j3=>?_))
 cases r with
 |error e=>exact hx ae σ _ _ e s' I2 j3
 |ok fl=>
  cases fl with
  |ret u=>obtain ⟨v,H',I3,rv,ev,q3⟩:=I2.L4 j3;subst ev;exact ⟨rv,⟨V.ref (s.heap.objs.size+1),H',I3,rfl,q3⟩⟩
  |next=>exact False.elim j3
  |brk=>exact False.elim j3
  |cont=>exact False.elim j3
theorem XS (M:Mk X.K C f) (F:gO X.prog X.w X.K X.mg X.base CX k f fd ps sp) (hr:Room (k+1) X.A) (hg:Gl X x) (hm:X.mg x=some (.ref C)) (hb:kW X.K fd ps ds) (hd:aV gp ds) (hx:jo CX X E)
  (ha:PA X (e::es) t) (eX:(x==("__debug__":Str))=false:=by decide) (he:starEach (e::es) X.ah=(false,eval e X.ah)::starEach es X.ah:=by rfl) (dj:(backTo pos (starEach es X.ah)).any (·.1)=false:=by rfl):
  PE X (.Call (.Name x p) (e::es) [] pos) (qX C sp gp E t):=by
 intro ae s σ H Q I h;refine wpAny_Call_Name_kw (qP I hg hm ?_ eX);refine PySem.W.callWith_K (h₀:=X.base) I.ok.mod.tZ M.kp (aY (ha pos ae s σ H _ I h) λus s1 ⟨vs,H1,I1,r,q⟩=>⟨I1.gg,?_⟩) he dj;exact L5 M F hr hb hd hx I1 r q
theorem XT (M:Mk X.K C f) (F:gO X.prog X.w X.K X.mg X.base CX k f fd ps sp) (hr:Room (k+1) X.A) (hg:Gl X x) (hm:X.mg x=some (.ref C)) (hb:kW X.K fd ps ds) (hd:aV gp ds) (hx:jo CX X E)
  (eX:(x==("__debug__":Str))=false:=by decide):PE X (.Call (.Name x p) [] [] pos) (qX C sp gp E kU):=by
 intro ae s σ H Q I h;refine wpAny_Call_Name_kw (qP I hg hm ?_ eX);exact PySem.W.callWith_K0 I.gg M.kp (L5 (us:= []) M F hr hb hd hx I .nil h)
end
structure jq (N P:List Str) (sc:Scope):Prop where
 kind:sc.kind= .function
 co:sc.isCoroutine=false
 gen:sc.isGenerator=false
 nd:N.Nodup
 pre:N.take P.length=P
 Ax:∀x∈P,sc.names.lookup x=some .local\/sc.names.lookup x=some .cell
 XU:∀y∈sc.names,y.2≠ .free
theorem L6 {kindOf:Str->Option NameKind}{x:Str}:∀{nB:List (Str×Value)}{m:Str->Option Value},(∀v,(x,v)∉nB)->bindL kindOf nB m x=m x
 | [],_,_=>rfl
 |(n,v)::r,m,h=>by
  unfold bindL;rw[L6 λw hw=>h w (yU _ hw)];split
  ·have:x≠n:=by rintro rfl;exact h v yV
   simp[this]
  ·rfl
theorem L7 {kindOf:Str->Option NameKind}{x:Str}:∀{nB:List (Str×Value)}{m:Str->Option Value},(∀v,(x,v)∉nB)->bindC kindOf nB m x=m x
 | [],_,_=>rfl
 |(n,v)::r,m,h=>by
  unfold bindC;rw[L7 λw hw=>h w (yU _ hw)];split
  ·rfl
  ·have:x≠n:=by rintro rfl;exact h v yV
   simp[this]
theorem L8 {kindOf:Str->Option NameKind}{x:Str}{v:Value}:∀{P:List Str}{vs:List Value}{i:Nat}{m:Str->Option Value},P.Nodup->P[i]? =some x->vs[i]? =some v->kindOf x=some .local->
  bindL kindOf (P.zip vs) m x=some v
 | [],_,_,_,_,h,_,_=>by simp at h
 |_::_,[],_,_,_,_,h,_=>by simp at h
 |p::P,w::vs,0,m,nd,h1,h2,hk=>by simp at h1 h2;subst h1;subst h2;show bindL kindOf ((p,w)::P.zip vs) m p=_;unfold bindL;rw[L6 λv hv=>(xa.mp nd).1 (xf hv).1,Zx hk];simp
 |p::P,w::vs,i+1,m,nd,h1,h2,hk=>by show bindL kindOf ((p,w)::P.zip vs) m x=_;unfold bindL;exact L8 (i:=i) (xa.mp nd).2 (by simpa using h1) (by simpa using h2) hk
theorem L9 {kindOf:Str->Option NameKind}{x:Str}{v:Value}:∀{P:List Str}{vs:List Value}{i:Nat}{m:Str->Option Value},P.Nodup->P[i]? =some x->vs[i]? =some v->kindOf x≠some .local->
  bindC kindOf (P.zip vs) m x=some v
 | [],_,_,_,_,h,_,_=>by simp at h
 |_::_,[],_,_,_,_,h,_=>by simp at h
 |p::P,w::vs,0,m,nd,h1,h2,hk=>by simp at h1 h2;subst h1;subst h2;show bindC kindOf ((p,w)::P.zip vs) m p=_;unfold bindC;rw[L7 λv hv=>(xa.mp nd).1 (xf hv).1,Zw hk];simp
 |p::P,w::vs,i+1,m,nd,h1,h2,hk=>by show bindC kindOf ((p,w)::P.zip vs) m x=_;unfold bindC;exact L9 (i:=i) (xa.mp nd).2 (by simpa using h1) (by simpa using h2) hk
noncomputable def start (N:List Str) (vs:List V):St:=vs.map some++List.replicate (N.length - vs.length) none
noncomputable def lZ (CX:jn) (P:Program) (w:World) (K:PySem.W.Frag) (mg:Str->Option Value) (base:Heap) (N:List Str) (qual:Str) (scope:Scope) (f:Addr) (cd:Value) (A:Around) (aJ:List Env) (s:Shared) (H:Hp) (E:XK):Cx where
 prog:=P
 w:=w
 K:=K
 mg:=mg
 base:=base
 A:=A.deeper (envOfC qual scope s.heap.objs.size f cd)
 N:=N
 ft:=s
 oW:=H
 ah:=envOfC qual scope s.heap.objs.size f cd
 aJ:=aJ
 fT:=envOfC qual scope s.heap.objs.size f cd::aJ
 ex:= []
 eD:=true
 fn:=λ_a=>true
 pn:= []
 xe:=λe s'=>wpAny (model P w) (A.deeper (envOfC qual scope s.heap.objs.size f cd)) (leaving (envOfC qual scope s.heap.objs.size f cd) e) (λ_a D3=>CX aJ H s E e D3) (λe' D3=>CX aJ H s E e' D3) s'
theorem Ma {sc:Scope}{n:Nat}{x:Str}(h:sc.names.lookup x=some .cell):∃c,(cellsFrom n sc.names []).lookup x=some c:=by have q:=Zg sc.names n [] (.inl h);exact Option.isSome_iff_exists.mp q
theorem XW {CX:jn}{P:Program}{w:World}{K:PySem.W.Frag}{mg:Str->Option Value}{base:Heap}{N ps:List Str}{qual:Str}{scope:Scope}{f:Addr}{cd:Value}{A:Around}{aJ:List Env}{s s1:Shared}{H:Hp}{E:XK}{us:List Value}{vs:List V}
  (S:jq N ps scope) (hd:A.handled=none) (e0:nA P w K mg base A aJ s H) (hl:vs.length=ps.length) (r:aV vs us)
  (x:InCallC s s.heap.objs.size (bindL (envOfC qual scope s.heap.objs.size f cd).kindOf (ps.zip us) λ_a=>none) (cellsFrom (s.heap.objs.size+1) scope.names []) (bindC (envOfC qual scope s.heap.objs.size f cd).kindOf (ps.zip us) λ_a=>none) s1):
  az (lZ CX P w K mg base N qual scope f cd A aJ s H E) [] (start N vs) H s1:=by
 have dj:ps.length<=N.length:=by have:=Zo List.length S.pre;rw[yF]at this;omega
 obtain ⟨h1,tk,rfl,hk⟩:=x.done;have nE:∀b:Addr,b∉(lZ CX P w K mg base N qual scope f cd A aJ s H E).ex:=λb z=>absurd (show b∈([]:List Addr) from z) (by simp)
 refine ⟨⟨e0.mod,S.kind,rfl,rfl,xC _,λy z c h1 h2=>?_,λy hy=>?_,λy c _a h=>?_,λ_a=>hd,Around.frames_deeper e0.frames,.inr ⟨rfl,rfl⟩,λb z=>absurd z (nE b),e0.bs,e0.kL,λb _a _a=>nE b,λb z=>absurd z (nE b),e0.ji,e0.oX⟩,
  rfl,e0.eL,Un.dX hk,⟨_,x.toInCall.ns,λi y v h1 h2 h3=>?_⟩,λy c h=>⟨_,x.cell y c h⟩,e0.aO.fresh (xC _),λy c h=>?_,λp hp=>absurd (show p∈([]:List (Addr×Obj)) from hp) (by simp),e0.aO.dX hk,?_⟩
 ·exact name_of_addr x.apart (Zk h1) (Zk h2)
 ·have hy:scope.names.lookup y=some .cell\/scope.names.lookup y=some .free:=hy;rcases hy with hy|hy
  ·exact Ma hy
  ·exact absurd rfl (S.XU _ (Zk hy))
 ·exact xA (x.above y c (Zk h))
 ·have hi:i<vs.length:=by
   unfold start at h2;by_cases hi:i<vs.length
   ·exact hi
   ·rw[List.getElem?_append_right (by simpa using hi)]at h2;rw[List.getElem?_replicate]at h2;split at h2<;>cases h2
  have ha:vs[i]? =some v:=by
   unfold start at h2;rw[y6 (by simpa using hi),yd]at h2;cases e:vs[i]? with
   |none=>rw[e]at h2;cases h2
   |some a=>rw[e]at h2;cases h2;rfl
  obtain ⟨u,hu,rv⟩:=r.get ha;have hp:ps[i]? =some y:=by rw[←S.pre,List.getElem?_take_of_lt ZD];exact h1
  have Mc:ps.Nodup:=by rw[←S.pre];exact S.nd.sublist (List.take_sublist _ _)
  refine ⟨u,rv,?_⟩;rcases S.Ax y (yY hp) with k|k
  ·exact .inl ⟨k,L8 Mc hp hu k⟩
  ·obtain ⟨c,e⟩:=Ma (n:=s.heap.objs.size+1) k;refine .inr ⟨.inl k,c,e,?_⟩;have q:=x.cell y c e;rw[L9 Mc hp hu (by show scope.names.lookup y≠_;rw[k];decide)]at q;exact q
 ·exact e0.aO.fresh (xA (x.above y c (Zk h)))
 ·unfold start;show _=N.length;rw[yt,yA,List.length_replicate];omega
set_option tactic.hygienic true in
theorem XX {CX:jn}{P:Program}{w:World}{K:PySem.W.Frag}{mg:Str->Option Value}{base:Heap}{k:Nat}{f:Addr}{name qual:Str}{params:Arguments}{body:List Stmt}{scope:Scope}{dV kV doc pm aK ct oc:Value}{an od:Option Addr}
  {iV:Array (Option Value)}{N ps:List Str}{sp:Sp}(lk:K.lookup f=some ⟨oc,od,.func (PySem.W.fnOf name qual params body scope dV kV doc pm an aK ct),iV⟩) (lQ:PySem.W.codeIn K aK qual=true) (S:jq N ps scope)
  (len:∀vs H Q E,sp vs H Q E->vs.length=ps.length)
  (l4:∀(A:Around) (aJ:List Env) (s:Shared) (H:Hp) (vs:List V) (Q:VK) (E:XK),Room k (A.deeper (envOfC qual scope s.heap.objs.size f aK))->sp vs H Q E->
   ∃t,gL (lZ CX P w K mg base N qual scope f aK A aJ s H E) body t/\t {nx:=λ_a H'=>Q .bT H',rt:=Q} (start N vs) H):
  gO P w K mg base CX (k+1) f (PySem.W.fnOf name qual params body scope dV kV doc pm an aK ct) ps sp:=by
 refine ⟨len,λA aJ s H args us vs Q E hr e0 hb r iq=>?_⟩;have hl:=len _ _ _ _ iq;have KX:K.In s.heap:=e0.mod.tZ.keeps λb o e=>(e0.bs b o e).1
 have XY:s.heap.NoLimit:=e0.mod.nolimit.keeps λb o e=>(e0.bs b o e).1
 have XZ:∀y∈ps.zip us,scope.names.lookup y.1=some .local\/(scope.names.lookup y.1=some .cell/\((cellsFrom (s.heap.objs.size+1) scope.names []).lookup y.1).isSome=true):=λ⟨n,v⟩ hy=>by
  rcases S.Ax n (xf hy).1 with q|q
  ·exact .inl q
  ·exact .inr ⟨q,Zg _ _ _ (.inl q)⟩
 refine codeAny_call_function hr.depth (KX _ _ lk) rfl S.co S.gen rfl (PySem.W.codeRec_of KX lQ) (hb _ _ _ _ ?_);refine wpAny_newFunctionEnv_cells S.kind XZ λah he s1 x=>?_
 subst he;refine ⟨XY.keeps x.toInCall.keep,codeAny_func ?_⟩;obtain ⟨t,ht,hq⟩:=l4 A aJ s H vs Q E (hr.deeper _) iq;have I:az (lZ CX P w K mg base N qual scope f aK A aJ s H E) [] (start N vs) H s1:=XW S hr.hd e0 hl r x;refine wpAny_mono (ht [] s1 (start N vs) H _ I hq) (λfl s' hs=>?_) λe s' hs=>hs
 have fin:∀{bu:St}{H':Hp}{v:V}{u:Value},az (lZ CX P w K mg base N qual scope f aK A aJ s H E) [] bu H' s'->bw v u->Q v H'->CE aJ P w H s Q u s':=
  fun {bu H' v u} J rv q=>⟨v,H',J.os,J.eL,J.base,J.aO,rv,q⟩
 cases fl with
 |ret u=>obtain ⟨v,bu,H',J,rv,q⟩:=hs;exact fin J rv q
 |next=>obtain ⟨bu,H',J,q⟩:=hs;exact fin (v:=V.bT) (u:=Value.none) J rfl q
 |brk=>obtain ⟨_,_,_,q⟩:=hs;exact False.elim q
 |cont=>obtain ⟨_,_,_,q⟩:=hs;exact False.elim q
section
variable {X:Cx}{x:Str}{p pos:Pos}{e:Expr}{es:List Expr}{t:TA}{id T:String}{r:List V->Hp->VK->Prop}
noncomputable def D4 (r:List V->Hp->VK->Prop) (t:TA):TE:=λσ H Q=>t σ H λvs H1=>r vs H1 Q
theorem fw (hc:dJ X (.builtin id) r) (hg:Gl X x) (hm:X.mg x=none) (hv:bootBuiltins x=some (.builtin id)) (ha:PA X (e::es) t) (hn:x≠"__name__":=by decide) (eX:(x==("__debug__":Str))=false:=by decide)
  (he:starEach (e::es) X.ah=(false,eval e X.ah)::starEach es X.ah:=by rfl) (dj:(backTo pos (starEach es X.ah)).any (·.1)=false:=by rfl):PE X (.Call (.Name x p) (e::es) [] pos) (D4 r t):=by
 intro ae s σ H Q I h;refine wpAny_Call_Name_kw (Al I hg hm hv ?_ hn eX);exact PyProof.Rows.callWith_builtin1 (aY (ha pos ae s σ H _ I h) λus s1 ⟨vs,H1,I1,r1,q1⟩=>hc ae s1 σ H1 vs us Q I1 r1 q1) he dj
theorem nF (hc:dJ X (.type T) r) (hg:Gl X x) (hm:X.mg x=none) (hv:bootBuiltins x=some (.type T)) (ha:PA X (e::es) t) (hn:x≠"__name__":=by decide) (eX:(x==("__debug__":Str))=false:=by decide)
  (he:starEach (e::es) X.ah=(false,eval e X.ah)::starEach es X.ah:=by rfl) (dj:(backTo pos (starEach es X.ah)).any (·.1)=false:=by rfl):PE X (.Call (.Name x p) (e::es) [] pos) (D4 r t):=by
 intro ae s σ H Q I h;refine wpAny_Call_Name_kw (Al I hg hm hv ?_ hn eX);exact xZ (aY (ha pos ae s σ H _ I h) λus s1 ⟨vs,H1,I1,r1,q1⟩=>hc ae s1 σ H1 vs us Q I1 r1 q1) he dj
end
end L2
namespace HT
open PySem PyProof.Rows
noncomputable def gP:List Int->List Int->Bool
 | [],[]=>false
 | [],_::_=>true
 |_::_,[]=>false
 |x::xs,y::ys=>if x=y then gP xs ys else decide (x<y)
theorem Md (x y:Int) (xs ys:List Int):gP (x::xs) (y::ys)=if x=y then gP xs ys else decide (x<y):=rfl
theorem Me:gP [] []=false:=rfl
theorem X0 (y:Int) (ys:List Int):gP [] (y::ys)=true:=rfl
theorem X1 (x:Int) (xs:List Int):gP (x::xs) []=false:=rfl
theorem X2 (A:Around) (s:Shared) (a:Int) (t:Tok) (c:Int) (u:Tok):∃e,SeqAt.EqAt A s (.int a t) (.int c u) e/\(e=true ↔ a=c):=
 ⟨(a==c),SeqAt.EqAt.int_int a t c u,by simp⟩
theorem X3 (A:Around) (s:Shared) (a:Int) (t:Tok) (c:Int) (u:Tok) (prog:Program) (w:World) (E:Value->Shared->Prop) (Q:Value->Shared->Prop) (h:Q (.bool (decide (a<c))) s):
  wpAny (model prog w) A (richCompare .Lt (.int a t) (.int c u)) Q E s:=
 (PyProof.Rows.lt_int h:wpAny (model prog w) A (compareOp .Lt (.int a t) (.int c u)) Q E s)
section
open PySem.SeqAt
open PySem.AutoSeq1 (wpAny_loadPart')
open PySem.MeetsSeq PySem.MeetsSeq2 PySem.MeetsSeq3
set_option tactic.hygienic true in
theorem X4 (l b:Addr) (items kX:Array Value) (n n2:Nat) (dd D5:Option Addr) (sl D6:Array (Option Value)) (ns ms:List Int) (hi:IntsAre items.toList ns) (hj:IntsAre kX.toList ms):
  Meets (Builtin.«tuple.__lt__» ⟨[.ref l,.ref b],[]⟩)
   (λ_a R s=>s.heap.get? l=some {cls:= .type "tuple",dict:=dd,data:= .seq items n,slots:=sl}/\s.heap.get? b=some {cls:= .type "tuple",dict:=D5,data:= .seq kX n2,slots:=D6}/\
    R (.ok (.ret (.bool (gP ns ms)))) s):=
 .of_wp λprog w A R s h=>by
  obtain ⟨hp,g,d,tk,os⟩:=s;obtain ⟨hl,hb,h⟩:=h;have f2:=AutoSeq1.sub_tuple_tuple;have z1:items.size=ns.length:=by rw[←hi.length];simp
  have z2:kX.size=ms.length:=by rw[←hj.length];simp
  wp_walk using wpAny_loadPart' hl,wpAny_loadPart' hb,wpAny_forIn_list _ (λrest b s'=>b.1=none/\s'=⟨hp,g,d,tk,os⟩/\∃(vs ws:List Value) (iF qY:List Int),rest=vs.zip ws/\
   IntsAre vs iF/\IntsAre ws qY/\iF.length+kX.size=qY.length+items.size/\R (.ok (.ret (.bool (gP iF qY)))) ⟨hp,g,d,tk,os⟩) _
  case turn=>
   rintro ⟨y,x⟩ rest b s' ⟨g9,rfl,vs,ws,iF,qY,hz,D7,l8,bW,hR⟩;cases D7 with
   |nil=>rw[List.zip_nil_left]at hz;cases hz
   |cons a t X5=>
    cases l8 with
    |nil=>rw[List.zip_nil_right]at hz;cases hz
    |cons c u X6=>
     rw[List.zip_cons_cons]at hz;injection hz with Dl D8;injection Dl with hy hx;subst hy hx;rw[Md]at hR;simp only[yu]at bW;obtain ⟨e,he,Mf⟩:=X2 A.in1 ⟨hp,g,d,tk,os⟩ a t c u;refine wpAny_bind (he prog w _ _ ?_);cases e with
     |true=>
      rw[Zx (Mf.mp rfl)]at hR
      wp_walk
      exact ⟨rfl,rfl,_,_,_,_,D8,X5,X6,by omega,hR⟩
     |false=>
      rw[Zw (λq=>absurd (Mf.mpr q) zi)]at hR;have X7:=X3 A.in1 ⟨hp,g,d,tk,os⟩ a t c u prog w
      wp_walk using X7
      exact ⟨_,rfl,by simpa using hR⟩
  case fin=>
   rintro ⟨b1,b2⟩ s' ⟨g9,rfl,vs,ws,iF,qY,hz,D7,l8,bW,hR⟩;simp only at g9;subst g9;have hv:gP iF qY=decide (items.size<kX.size):=by
    cases D7 with
    |nil=>
     cases l8 with
     |nil=>simp only[yB]at bW;rw[Me];exact (Zq ZD).symm
     |cons c u hw=>simp only[yB,yu]at bW;rw[X0];exact (Zs ZD).symm
    |cons a t hv=>
     cases l8 with
     |nil=>simp only[yB,yu]at bW;rw[X1];exact (Zq ZD).symm
     |cons c u hw=>rw[List.zip_cons_cons]at hz;cases hz
   rw[hv]at hR
   wp_walk
   exact ⟨_,rfl,by simpa [Builtin.Tuple.tupleCompareSizes]using hR⟩
  case h=>exact ⟨rfl,rfl,items.toList,kX.toList,ns,ms,rfl,hi,hj,by omega,h⟩
end
section
variable {prog:Program}{w:World}{A:Around}{E:Value->Shared->Prop}{s:Shared}
theorem X8 {l b:Addr}{items kX:Array Value}{ns ms:List Int}{Q:Value->Shared->Prop}(hl:IsTup s.heap l items) (hb:IsTup s.heap b kX) (hi:IntsAre items.toList ns) (hj:IntsAre kX.toList ms)
  (hu:A.units<cLine) (h:Q (.bool (gP ns ms)) s):wpAny (model prog w) A (compareOp .Lt (.ref l) (.ref b)) Q E s:=by
 obtain ⟨⟨cls,dd,data,sl⟩,ho,hc,n,hd⟩:=id hl;obtain ⟨⟨amS,D5,amT,D6⟩,Mg,Mh,n2,l9⟩:=id hb;simp only at hc hd Mh l9;subst hc hd Mh l9;exact richCompare_meets_room (op:= .Lt) ⟨_,ho,rfl⟩ ⟨_,Mg,rfl⟩ PySem.F.slot_tuple_lt PySem.F.entry_tuple_lt (PySem.F.args_tuple_lt_2 _ _) (X4 l b items kX n n2 dd D5 sl D6 ns ms hi hj)
  ⟨ho,Mg,show Value.bool (gP ns ms)≠Value.notImplemented/\Q (.bool (gP ns ms)) s from ⟨(λx=>nomatch x),h⟩⟩ hu
noncomputable def eY (n d:Nat):Option Int->Nat
 |none=>d
 |some v=>if v<0 then (v+(n:Int)).toNat else min v.toNat n
theorem D9 (n d k:Nat):eY n d (some (k:Int))=min k n:=by show (if (k:Int)<0 then ((k:Int)+(n:Int)).toNat else min (k:Int).toNat n)=min k n;rw[Zw ZD,zt]
end
end HT
namespace L2
open PySem PySem.Spec PyProof.Rows
noncomputable abbrev TO:=St->Hp->(Option Int->Hp->Prop)->Prop
noncomputable def PO (X:Cx) (e:Option Expr) (t:TO):Prop:=
 ∀(ae:List (Addr×Obj)) (s:Shared) (σ:St) (H:Hp) (Q:Option Int->Hp->Prop),az X ae σ H s->t σ H Q->
  wpAny (model X.prog X.w) X.A (evalPart e X.ah) (λu s'=>∃o H',az X ae σ H' s'/\IsPart u o/\Q o H') X.xe s
noncomputable def X9:TO:=λ_a H Q=>Q none H
noncomputable def Ya (t:TE):TO:=λσ H Q=>t σ H λx H1=>∃i,x= .int i/\Q (some i) H1
theorem Yb {ns:List Int}:∀{us:List Value},aV (ns.map V.int) us->IntsAre us ns:=by
 induction ns with
 |nil=>intro us r;rw[yO]at r;cases r;exact .nil
 |cons n ns ih=>
  intro us r;rw[yJ]at r;cases r with
  |cons r1 r2=>obtain ⟨t,e⟩:=r1;subst e;exact .cons n t (ih r2)
section
variable {X:Cx}{e:Expr}{te:TE}{lo hi:Option Expr}{tl th:TO}{pos p2:Pos}
theorem Ea:PO X none X9:=by intro ae s σ H Q I h;rw[evalPart_none];exact wpAny_pure ⟨none,H,I,.none,h⟩
theorem ph (h:PE X e te):PO X (some e) (Ya te):=by
 intro ae s σ H Q I hw;rw[evalPart_some];refine aY (h ae s σ H _ I hw) λu s1 ⟨x,H1,I1,r1,q1⟩=>?_
 obtain ⟨i,rfl,q⟩:=q1;obtain ⟨t,rfl⟩:=r1;exact ⟨some i,H1,I1,.int i t,q⟩
noncomputable def Eb (X:Cx) (r:V->Option Int->Option Int->Hp->VK->Prop):Prop:=
 ∀(ae:List (Addr×Obj)) (s:Shared) (σ:St) (H:Hp) (x:V) (v vl vu:Value) (lo hi:Option Int) (sl:Addr) (Q:VK),az X ae σ H s->bw x v->s.heap.IsSliceOf sl vl vu .none->IsPart vl lo->IsPart vu hi->r x lo hi H Q->
  ∃T id,typeLookup (.type T) "__getitem__"=pure (some (.builtin id))/\s.TypeIs v T/\wpAny (model X.prog X.w) X.A (getItem v (.ref sl)) (EP X ae σ Q) X.xe s
noncomputable def Yc (r:V->Option Int->Option Int->Hp->VK->Prop) (te:TE) (tl th:TO):TE:=λσ H Q=>te σ H λx H1=>tl σ H1 λl H2=>th σ H2 λu H3=>r x l u H3 Q
theorem uj {r:V->Option Int->Option Int->Hp->VK->Prop}(hr:Eb X r) (he:PE X e te) (hl:PO X lo tl) (hu:PO X hi th):PE X (.Subscript e (.Slice lo hi none p2) pos) (Yc r te tl th):=by
 intro ae s σ H Q I h;refine Subscript_ (aY (he ae s σ H _ I h) λv s1 ⟨x,H1,I1,r1,q1⟩=>?_);refine wpAny_Slice (aY (hl ae s1 σ H1 _ I1 q1) λvl s2 ⟨l,H2,I2,pl,q2⟩=>aY (hu ae s2 σ H2 _ I2 q2) λvu s3 ⟨u,H3,I3,pu,q3⟩=>?_);rw[evalPart_none];refine wpAny_pure ?_;have I4:az X ae σ H3 {s3 with heap:=s3.heap.push {cls:= .type "slice",data:= .fields #[vl,vu,.none]}}:=I3.dX (t':=s3.toks) λb ob q=>Heap.get?_push_of_some _ q
 obtain ⟨T,id,hT,ht,hg⟩:=hr ae {s3 with heap:=s3.heap.push {cls:= .type "slice",data:= .fields #[vl,vu,.none]}} σ H3 x v vl vu l u s3.heap.objs.size Q I4 r1 (Heap.IsSliceOf.new ..) pl pu q3;show wpAny (model X.prog X.w) X.A (subscriptTail e (.Slice lo hi none p2) v (.ref s3.heap.objs.size)) (EP X ae σ Q) X.xe {s3 with heap:=s3.heap.push {cls:= .type "slice",data:= .fields #[vl,vu,.none]}};exact tail_any (ops:= [.ref s3.heap.objs.size,v]) ht hT hg (by with_unfolding_all rfl)
noncomputable def nG (xs:List V) (lo hi:Option Int):List V:=(xs.drop (HT.eY xs.length 0 lo)).take (HT.eY xs.length xs.length hi - HT.eY xs.length 0 lo)
theorem Yd (xs:List V) (lo hi:Option Int):(nG xs lo hi).length<=xs.length:=by unfold nG;rw[yF,yw];omega
end
noncomputable def jr (n:Nat) (i:Int):Option Nat:=if 0<=i then (if i<n then some i.toNat else none) else if -(n:Int)<=i then some (i+n).toNat else none
noncomputable def hG {α:Type}(xs:List α) (i:Int):Option α:=(jr xs.length i).bind λj=>xs[j]?
theorem Mi {n:Nat}{i:Int}{j:Nat}(h:jr n i=some j):seqIndex? i n=some j/\j<n/\ -(n:Int)<=i/\i<n:=by
 unfold jr at h;by_cases h0:0<=i
 ·rw[Zx h0]at h;by_cases h1:i<n
  ·rw[Zx h1]at h;have e:i.toNat=j:=xX h;exact ⟨by rw[seqIndex_of h0 h1,e],by omega,by omega,h1⟩
  ·rw[Zw h1]at h;cases h
 ·rw[Zw h0]at h;by_cases h1: -(n:Int)<=i
  ·rw[Zx h1]at h;have e:(i+n).toNat=j:=xX h;exact ⟨by rw[seqIndex_neg ZD h1,e],by omega,h1,by omega⟩
  ·rw[Zw h1]at h;cases h
theorem Ec {α:Type}{xs:List α}{i:Int}{v:α}(h:hG xs i=some v):∃j,seqIndex? i xs.length=some j/\xs[j]? =some v/\j<xs.length/\ -(xs.length:Int)<=i/\i<xs.length:=by
 unfold hG at h;cases e:jr xs.length i with
 |none=>rw[e]at h;cases h
 |some j=>rw[e]at h;obtain ⟨h1,h2,h3,h4⟩:=Mi e;exact ⟨j,h1,h,h2,h3,h4⟩
theorem ck {α:Type}{xs:List α}{j:Nat}{v:α}(h:xs[j]? =some v):hG xs (j:Int)=some v:=by
 have hj:j<xs.length:=(List.getElem?_eq_some_iff.mp h).1;have e:jr xs.length (j:Int)=some j:=by unfold jr;rw[Zx ZD,Zx ZD];simp
 unfold hG;rw[e];exact h
theorem Ye {α:Type}(xs:List α) (v:α):hG (xs++ [v]) (-1)=some v:=by
 have hl:(xs++ [v]).length=xs.length+1:=by simp
 have e:jr (xs++ [v]).length (-1)=some xs.length:=by unfold jr;rw[hl,Zw ZE,Zx ZD];congr 1;omega
 unfold hG;rw[e];show (xs++ [v])[xs.length]? =some v;simp
noncomputable def Ed (b:Expr):Prop:=∀o i,subscripted b false o i=operate [o,i] (getItem o i)
noncomputable def uk (X:Cx) (r:R2):Prop:=
 ∀(value ma:Expr) (ae:List (Addr×Obj)) (s:Shared) (σ:St) (H:Hp) (x y:V) (v u:Value) (Q:VK),az X ae σ H s->bw x v->bw y u->r x y H Q->
  subscripted ma false v u=operate [v,u] (getItem v u)->wpAny (model X.prog X.w) X.A (subscriptTail value ma v u) (EP X ae σ Q) X.xe s
noncomputable def nH (X:Cx) (id:String) (r:V->List V->Hp->VK->Prop):Prop:=
 ∀(ae:List (Addr×Obj)) (s:Shared) (σ:St) (H:Hp) (x:V) (xs:List V) (v:Value) (us:List Value) (Q:VK),az X ae σ H s->bw x v->aV xs us->r x xs H Q->
  wpAny (model X.prog X.w) X.A (call (.builtin id) (v::us)) (EP X ae σ Q) X.xe s
section
variable {X:Cx}{a b:Expr}{ta tb:TE}{pos:Pos}
theorem Mj {r:R2}(hr:uk X r) (ha:PE X a ta) (hb:PE X b tb) (hs:Ed b):PE X (.Subscript a b pos) (kS r ta tb):=by intro ae s σ H Q I h;exact Subscript_ (DP ha hb I h λv u s2 x y H2 I2 rx ry q=>hr a b ae s2 σ H2 x y v u Q I2 rx ry q (hs _ _))
noncomputable def qZ (K:PySem.W.Frag):R2:=λx y H Q=>∃p xs i v,x= .ref p/\y= .int i/\ag K H p xs/\hG xs i=some v/\Q v H
noncomputable def Ee (K:PySem.W.Frag):R2:=λx y H Q=>∃p xs i v,x= .ref p/\y= .int i/\cu K H p xs/\hG xs i=some v/\Q v H
theorem Yf:uk X (qZ X.K):=by
 intro value ma ae s σ H x y v u Q I rx ry h hs;obtain ⟨p,xs,i,z,rfl,rfl,hq,he,q⟩:=h;cases rx;obtain ⟨t,rfl⟩:=ry;obtain ⟨ay,r,pl,hz⟩:=I.list hq;obtain ⟨j,h1,h2,h3,h4,h5⟩:=Ec he;obtain ⟨w,ew,eE⟩:=r.get h2;have hl:=r.length;have hn:=uh;have fin:EP X ae σ Q w s:=⟨z,H,I,eE,q⟩;by_cases h0:0<=i
 ·have hj:i.toNat=j:=by rw[seqIndex_of h0 h5]at h1;exact xX h1
  exact item_listR pl.isList h0 ZD (by rw[hj];simpa using ew) fin hs
 ·have hj:(i+(ay.toArray.size:Int)).toNat=j:=by rw[seqIndex_neg ZD h4]at h1;rw[xl,←hl];exact xX h1
  exact subscriptTail_builtinR (x:=w) pl.isList.typeIs slot_list_getitem.lookup
   (wpAny_getItem_list_neg (Q:=λr s'=>r=w/\EP X ae σ Q r s') pl.isList ZD (by rw[xl]<;>omega) ZD (by rw[hj];simpa using ew) ⟨rfl,fin⟩) hs
theorem Yg:uk X (Ee X.K):=by
 intro value ma ae s σ H x y v u Q I rx ry h hs;obtain ⟨p,xs,i,z,rfl,rfl,hq,he,q⟩:=h;cases rx;obtain ⟨t,rfl⟩:=ry;obtain ⟨ay,r,pl,hz⟩:=I.tuple hq;obtain ⟨j,h1,h2,h3,h4,h5⟩:=Ec he;obtain ⟨w,ew,eE⟩:=r.get h2;have hl:=r.length;have hn:=uh;have fin:EP X ae σ Q w s:=⟨z,H,I,eE,q⟩;exact subscriptTail_builtinR (x:=w) pl.typeIs slot_tuple_getitem.lookup
  (getItem_tuple (j:=j) (Q:=λr s'=>r=w/\EP X ae σ Q r s') pl ZD ZD (by rw[xl,←hl];exact h1) (by simpa using ew) ⟨rfl,fin⟩) hs
theorem Yh (ay:List Value) (n j:Nat) (u:Value):Obj.mapSeq (·.setIfInBounds j u) {cls:= .type "list",data:= .seq ay.toArray n}={cls:= .type "list",data:= .seq (ay.set j u).toArray n}:=by simp[Obj.mapSeq]
theorem az.lst {ae:List (Addr×Obj)}{σ:St}{H:Hp}{s:Shared}{p:Addr}{xs:List V}(I:az X ae σ H s) (h:H p=some (.lst xs)):
  ∃(ay:List Value) (n:Nat),aV xs ay/\s.heap.get? p=some {cls:= .type "list",data:= .seq ay.toArray n}/\xs.length<=sizeLine:=by
 obtain ⟨z,ay,n,r,e⟩:=I.aO p _ h;exact ⟨ay,n,r,e,z⟩
theorem az.Yi {ae:List (Addr×Obj)}{σ:St}{H:Hp}{s:Shared}{p:Addr}{xs ys:List V}{ay gN:List Value}{n n':Nat}{f:Obj->Obj}(I:az X ae σ H s) (h:H p=some (.lst xs))
  (ho:s.heap.get? p=some {cls:= .type "list",data:= .seq ay.toArray n}) (hf:f {cls:= .type "list",data:= .seq ay.toArray n}={cls:= .type "list",data:= .seq gN.toArray n'}) (r:aV ys gN) (hz:ys.length<=sizeLine) (t:Nat):
  az X ae σ (aj H p (.lst ys)) {s with heap:=s.heap.update p f,toks:=t}:=by
 have e:(s.heap.update p f).get? p=some {cls:= .type "list",data:= .seq gN.toArray n'}:=by rw[Heap.get?_update_self f ho (by rw[hf]<;>rfl),hf]
 refine I.kK (x:=p) (e:=p) (by rw[h];trivial) (.inl rfl) (λb u hb q=>(Heap.get?_update_other _ _ (xR hb)).trans q) ⟨_,e⟩ ?_;exact ⟨hz,gN,n',r,e⟩
noncomputable def Yj:V->V->V->Hp->(Hp->Prop)->Prop:=λo i v H Q=>∃p xs k j,o= .ref p/\i= .int k/\H p=some (.lst xs)/\jr xs.length k=some j/\Q (aj H p (.lst (xs.set j v)))
theorem Ef:DI X Yj:=by
 intro ae s σ H o i v ov iv u Q I ro ri rv h;obtain ⟨p,xs,k,j,rfl,rfl,hp,hj,q⟩:=h;cases ro;obtain ⟨t,rfl⟩:=ri;obtain ⟨ay,n,r,ho,hz⟩:=I.lst hp;obtain ⟨h1,h2,h3,h4⟩:=Mi hj;have hl:=r.length;have hn:=uh;have I':az X ae σ (aj H p (.lst (xs.set j v))) {s with heap:=s.heap.update p (Obj.mapSeq (·.setIfInBounds j u))}:=
  I.Yi hp ho (Yh ay n j u) (r.set rv j) (by rw[yD];exact hz) s.toks
 by_cases h0:0<=k
 ·have hk:k.toNat=j:=by rw[seqIndex_of h0 h4]at h1;exact xX h1
  exact PySem.W.ki_setAt ho h0 ZD (by rw[xl,←hl];exact h4) (by rw[hk];exact ⟨_,I',q⟩)
 ·have hk:(k+(ay.toArray.size:Int)).toNat=j:=by rw[seqIndex_neg ZD h3]at h1;rw[xl,←hl];exact xX h1
  exact PySem.W.ki_setBack ho ZD (by rw[xl,←hl];exact h3) ZD (by rw[hk];exact ⟨_,I',q⟩)
theorem Yk (lo hi:Option Int) (n:Nat):(sliceBounds lo hi none n).1=((HT.eY n 0 lo:Nat):Int)/\(sliceBounds lo hi none n).2.1=((HT.eY n n hi:Nat):Int)/\(sliceBounds lo hi none n).2.2=1:=by
 refine ⟨?_,?_,rfl⟩
 ·cases lo with
  |none=>simp[sliceBounds,HT.eY]
  |some i=>
   simp only[sliceBounds,HT.eY,xT,show (1:Int)>0 by decide,Zy];by_cases h:i<0
   ·simp only[h,Zy]<;>omega
   ·simp only[h,Zv]<;>omega
 ·cases hi with
  |none=>simp[sliceBounds,HT.eY]
  |some i=>
   simp only[sliceBounds,HT.eY,xT,show (1:Int)>0 by decide,Zy];by_cases h:i<0
   ·simp only[h,Zy]<;>omega
   ·simp only[h,Zv]<;>omega
theorem Yl (ay:List Value) (lo hi:Option Int):slicePick ay.toArray lo hi none=((ay.drop (HT.eY ay.length 0 lo)).take (HT.eY ay.length ay.length hi - HT.eY ay.length 0 lo)).toArray:=by obtain ⟨h1,h2,h3⟩:=Yk lo hi ay.toArray.size;unfold slicePick;rw[h1,h2,h3];simp only[sliceRange_one,pick_run,xl]<;>rfl
noncomputable def Ml (K:PySem.W.Frag):V->Option Int->Option Int->Hp->VK->Prop:=λx lo hi H Q=>∃a xs,x= .ref a/\ag K H a xs/\∀p,H p=none->Q (.ref p) (aj H p (.lst (nG xs lo hi)))
theorem Ym:Eb X (Ml X.K):=by intro ae s σ H x v vl vu lo hi sl Q I rx hs pl pu h;obtain ⟨a,xs,rfl,hx,q⟩:=h;cases rx;obtain ⟨ay,r,ht,hz⟩:=I.list hx;have bW:=r.length;refine ⟨"list",_,slot_list_getitem.lookup,ht.isList.typeIs,?_⟩;refine wpAny_getItem_list_slice ht.isList hs pl pu .none (by simp) ?_ (by rw[xl]<;>omega);rw[Yl,←bW];refine ⟨.ref s.heap.objs.size,_,I.fS (t':=s.toks) (o:= .lst (nG xs lo hi)) (λb ob q=>Heap.get?_push_of_some _ q) (xC _) ?_,rfl,q _ (I.aO.fresh (xC _))⟩;exact ⟨xE (Yd xs lo hi) hz,_,0,(r.drop (HT.eY xs.length 0 lo)).take (HT.eY xs.length xs.length hi - HT.eY xs.length 0 lo),Heap.get?_push_size _ rfl⟩
noncomputable def iW:V->Bool
 | .bT=>true
 | .bl _=>true
 | .int _=>true
 | .str _=>true
 |_=>false
noncomputable def js:V->V->Bool
 | .bT,.bT=>true
 | .bl a,.bl b=>a==b
 | .bl a,.int b=>(if a then 1 else 0)==b
 | .int a,.bl b=>a==(if b then 1 else 0)
 | .int a,.int b=>a==b
 | .str a,.str b=>a==b
 |_,_=>false
theorem Yn {A:Around}{s:Shared}{y x:V}{u v:Value}(ry:bw y u) (rx:bw x v) (fy:iW y=true) (fx:iW x=true):SeqAt.EqAt A s u v (js y x):=by
 cases y with
 |bT=>
  cases ry;cases x with
  |bT=>cases rx;exact SeqAt.EqAt.same _
  |bl b=>cases rx;exact SeqAt.EqAt.none_bool b
  |int b=>obtain ⟨t,rfl⟩:=rx;exact SeqAt.EqAt.none_int b t
  |str b=>obtain ⟨t,rfl⟩:=rx;exact SeqAt.EqAt.none_str b t
  |_=>exact absurd (show false=true from fx) zi
 |bl a=>
  cases ry;cases x with
  |bT=>cases rx;exact SeqAt.EqAt.bool_none a
  |bl b=>cases rx;exact SeqAt.EqAt.bool_bool a b
  |int b=>obtain ⟨t,rfl⟩:=rx;exact SeqAt.EqAt.bool_int a b t
  |str b=>obtain ⟨t,rfl⟩:=rx;exact SeqAt.EqAt.bool_str a b t
  |_=>exact absurd (show false=true from fx) zi
 |int a=>
  obtain ⟨t',rfl⟩:=ry;cases x with
  |bT=>cases rx;exact SeqAt.EqAt.int_none a t'
  |bl b=>cases rx;exact SeqAt.EqAt.int_bool a t' b
  |int b=>obtain ⟨t,rfl⟩:=rx;exact SeqAt.EqAt.int_int a t' b t
  |str b=>obtain ⟨t,rfl⟩:=rx;exact SeqAt.EqAt.int_str a t' b t
  |_=>exact absurd (show false=true from fx) zi
 |str a=>
  obtain ⟨t',rfl⟩:=ry;cases x with
  |bT=>cases rx;exact SeqAt.EqAt.str_none a t'
  |bl b=>cases rx;exact SeqAt.EqAt.str_bool a t' b
  |int b=>obtain ⟨t,rfl⟩:=rx;exact SeqAt.EqAt.str_int a t' b t
  |str b=>obtain ⟨t,rfl⟩:=rx;exact SeqAt.EqAt.str_str a t' b t
  |_=>exact absurd (show false=true from fx) zi
 |_=>exact absurd (show false=true from fy) zi
noncomputable def gQ (x:V) (u:Value):Bool:=match u with
 | .none=>js .bT x
 | .bool b=>js (.bl b) x
 | .int i _=>js (.int i) x
 | .str z _=>js (.str z) x
 |_=>false
theorem Ay {x y:V}{u:Value}(r:bw y u) (f:iW y=true):gQ x u=js y x:=by
 cases y with
 |bT=>cases r;rfl
 |bl b=>cases r;rfl
 |int i=>obtain ⟨t,rfl⟩:=r;rfl
 |str z=>obtain ⟨t,rfl⟩:=r;rfl
 |_=>exact absurd (show false=true from f) zi
theorem um {x:V}:∀{xs:List V}{us:List Value},aV xs us->xs.all iW=true->us.any (gQ x)=xs.any λy=>js y x
 |_,_,.nil,_=>rfl
 |y::xs,u::us,.cons r t,f=>by rw[zw,za]at f;rw[zz,zz,Ay r f.1,um t f.2]
theorem rb {A:Around}{s:Shared}{x:V}{v:Value}(rx:bw x v) (fx:iW x=true):∀{xs:List V}{us:List Value},aV xs us->xs.all iW=true->∀u∈us,SeqAt.EqAt A s u v (gQ x u)
 |_,_,.nil,_=>λu hu=>by cases hu
 |y::xs,u::us,.cons r t,f=>λu' hu=>by
  rw[zw,za]at f;rcases yT.mp hu with rfl|hu
  ·rw[Ay r f.1];exact Yn r rx f.1 fx
  ·exact rb rx fx t f.2 u' hu
noncomputable def Az (x:V) (xs:List V):Bool:=xs.any λy=>js y x
noncomputable def AA (K:PySem.W.Frag) (neg:Bool):R2:=λx y H Q=>∃p xs,y= .ref p/\(ag K H p xs\/cu K H p xs)/\iW x=true/\xs.all iW=true/\Q (.bl (if neg then !Az x xs else Az x xs)) H
theorem Yo:cV X (compareOp .In) (AA X.K false):=by
 intro ae s σ H x y v u Q I rx ry h;obtain ⟨p,xs,rfl,hq,fx,fs,q⟩:=h;cases ry;rcases hq with hq|hq
 ·obtain ⟨ay,r,pl,hz⟩:=I.list hq;refine SeqAt.in_listAt (gQ x) pl.isList (λw hw=>rb rx fx r fs w (by simpa using hw)) ⟨.bl _,H,I,rfl,?_⟩;rw[show ay.toArray.any (gQ x)=ay.any (gQ x) by simp,um r fs];exact q
 ·obtain ⟨ay,r,pl,hz⟩:=I.tuple hq;refine SeqAt.in_tupleAt (gQ x) pl (λw hw=>rb rx fx r fs w (by simpa using hw)) ⟨.bl _,H,I,rfl,?_⟩;rw[show ay.toArray.any (gQ x)=ay.any (gQ x) by simp,um r fs];exact q
theorem Yp:cV X (compareOp .NotIn) (AA X.K true):=by
 intro ae s σ H x y v u Q I rx ry h;obtain ⟨p,xs,rfl,hq,fx,fs,q⟩:=h;cases ry;rcases hq with hq|hq
 ·obtain ⟨ay,r,pl,hz⟩:=I.list hq;refine SeqAt.notIn_listAt (gQ x) pl.isList (λw hw=>rb rx fx r fs w (by simpa using hw)) ⟨.bl _,H,I,rfl,?_⟩;rw[show ay.toArray.any (gQ x)=ay.any (gQ x) by simp,um r fs];exact q
 ·obtain ⟨ay,r,pl,hz⟩:=I.tuple hq;refine SeqAt.notIn_tupleAt (gQ x) pl (λw hw=>rb rx fx r fs w (by simpa using hw)) ⟨.bl _,H,I,rfl,?_⟩;rw[show ay.toArray.any (gQ x)=ay.any (gQ x) by simp,um r fs];exact q
theorem Yq:dJ X (.builtin "len") (λxs H Q=>∃p ys,xs= [.ref p]/\(ag X.K H p ys\/cu X.K H p ys)/\Q (.int ys.length) H):=by
 intro ae s σ H xs us Q I r h;obtain ⟨p,ys,rfl,hq,q⟩:=h;obtain ⟨u,rfl,rx⟩:=lW r;cases rx;have hn:=uh;rcases hq with hq|hq
 ·obtain ⟨ay,r',pl,hz⟩:=I.list hq;have bW:=r'.length;exact Calls.call_len_list pl.isList (by simp only[xl]<;>omega) ⟨.int ys.length,H,I.eg _,⟨s.toks+1,by rw[xl,bW]⟩,q⟩
 ·obtain ⟨ay,r',pl,hz⟩:=I.tuple hq;have bW:=r'.length;exact len_tuple pl (by simp only[xl]<;>omega) ⟨.int ys.length,H,I.eg _,⟨s.toks+1,by rw[xl,bW]⟩,q⟩
theorem Yr:dJ X (.type "list") (λxs H Q=>∃p ys,xs= [.ref p]/\(ag X.K H p ys\/cu X.K H p ys)/\∀l,H l=none->Q (.ref l) (aj H l (.lst ys))):=by
 intro ae s σ H xs us Q I r h;obtain ⟨p,ys,rfl,hq,q⟩:=h;obtain ⟨u,rfl,rx⟩:=lW r;cases rx;have fin:∀(ay:List Value),aV ys ay->ys.length<=sizeLine->∀(h':Heap) (c':Nat),(∀b o',s.heap.get? b=some o'->h'.get? b=some o')->
   h'.get? s.heap.objs.size=some {cls:= .type "list",dict:=none,data:= .seq ay.toArray c',slots:=#[]}->EP X ae σ Q (.ref s.heap.objs.size) {s with heap:=h'}:=λay r' hz h' c' kp e=>
  ⟨.ref s.heap.objs.size,_,I.fS (t':=s.toks) kp (xC _) (show dM X.prog X.w _ h' _ (.lst ys) from ⟨hz,ay,c',r',e⟩),rfl,q _ (I.aO.fresh (xC _))⟩
 rcases hq with hq|hq
 ·obtain ⟨ay,r',pl,hz⟩:=I.list hq;have bW:=r'.length;obtain ⟨o,ho,hc,n,hd⟩:=pl.isList;exact call_list_seq p (.inl rfl) ho hc hd (λh' c' kp e=>fin ay r' hz h' c' kp e) (by simp only[xl]<;>omega)
 ·obtain ⟨ay,r',pl,hz⟩:=I.tuple hq;have bW:=r'.length;obtain ⟨o,ho,hc,n,hd⟩:=pl;exact call_list_seq p (.inr rfl) ho hc hd (λh' c' kp e=>fin ay r' hz h' c' kp e) (by simp only[xl]<;>omega)
noncomputable def Eg (K:PySem.W.Frag) (T:String) (x:V) (H:Hp):Prop:=match x with
 | .str _=>T="str"
 | .int _=>T="int"
 | .ref p=>(T="list"/\∃xs,ag K H p xs)\/(T="tuple"/\∃o,K.lookup p=some o/\o.cls= .type "tuple"/\o.dict=none)\/
   (T="dict"/\((∃af,H p=some (.dK af))\/∃af,H p=some (.dT af)))\/(T="set"/\∃S n,H p=some (.set S n))
 |_=>False
theorem Mm {ae:List (Addr×Obj)}{σ:St}{H:Hp}{s:Shared}{T:String}{x:V}{v:Value}(I:az X ae σ H s) (r:bw x v) (ty:Eg X.K T x H):
  s.TypeIs v T/\∀a,v= .ref a->∃ob,s.heap.get? a=some ob/\ob.dict=none:=by
 cases x with
 |str z=>obtain ⟨t,rfl⟩:=r;cases (show T="str" from ty);exact ⟨typeIs_str s z t,λ_a e=>nomatch e⟩
 |int i=>obtain ⟨t,rfl⟩:=r;cases (show T="int" from ty);exact ⟨typeIs_int s i t,λ_a e=>nomatch e⟩
 |ref p=>
  cases r;rcases ty with ⟨rfl,xs,hq⟩|⟨rfl,o,hk,hc,hd⟩|⟨rfl,hk⟩|⟨rfl,S,n,hk⟩
  ·obtain ⟨ay,_,pl,_⟩:=I.list hq;refine ⟨pl.isList.typeIs,λa e=>?_⟩;cases e;obtain ⟨o,n,e,c,hd,_⟩:=pl;exact ⟨o,e,hd⟩
  ·refine ⟨⟨o,I.gg p o hk,hc⟩,λa e=>?_⟩;cases e;exact ⟨o,I.gg _ o hk,hd⟩
  ·have z:∃o,s.heap.get? p=some o/\o.ExactDict:=by
    rcases hk with ⟨af,hk⟩|⟨af,hk⟩
    ·obtain ⟨_,_,_,_,o,_,_,e,ex,_⟩:=I.aO p _ hk;exact ⟨o,e,ex⟩
    ·obtain ⟨_,_,_,_,o,_,_,e,ex,_⟩:=I.aO p _ hk;exact ⟨o,e,ex⟩
   obtain ⟨o,e,ex⟩:=z;refine ⟨⟨o,e,ex.1⟩,λa e2=>?_⟩;cases e2;exact ⟨o,e,ex.2.1⟩
  ·obtain ⟨o,_,_,_,e,ex,_⟩:=I.aO p _ hk;refine ⟨⟨o,e,ex.1⟩,λa e2=>?_⟩;cases e2;exact ⟨o,e,ex.2.1⟩
 |_=>exact False.elim ty
noncomputable def Mn (K:PySem.W.Frag) (T:String) (r:V->List V->Hp->VK->Prop) (to:TE):TE:=λσ H Q=>to σ H λx H1=>Eg K T x H1/\r x [] H1 Q
noncomputable def AB (K:PySem.W.Frag) (T:String) (r:V->List V->Hp->VK->Prop) (to:TE) (t:TA):TE:=λσ H Q=>to σ H λx H1=>Eg K T x H1/\t σ H1 λxs H2=>r x xs H2 Q
variable {o e:Expr}{es:List Expr}{to:TE}{t:TA}{name:Str}{fG dN:Pos}{T id:String}{r:V->List V->Hp->VK->Prop}
theorem Ys (pa:PlainAttrs T) (fE:Slot T name id) (jt:typeOf (.builtin id)=pure (.type "method_descriptor")) (hm:nH X id r) (ho:PE X o to)
  (md:attributeBase o name X.ah (eval o X.ah)=eval o X.ah:=by rfl) (me:(fG.endLine==dN.line)=true:=by rfl):PE X (.Call (.Attribute o name fG) [] [] dN) (Mn X.K T r to):=by
 intro ae s σ H Q I h;refine wpAny_Call_method0_late md me (aY (ho ae s σ H _ I h) λv s1 ⟨x,H1,I1,r1,ty,q1⟩=>?_);obtain ⟨h1,h2⟩:=Mm I1 r1 ty;exact ⟨T,id,pa,fE,jt,h1,h2,Calls.callWith_builtin rfl (PySem.evalArgs_none (hm ae s1 σ H1 x [] v [] Q I1 r1 .nil q1))⟩
theorem Yt (pa:PlainAttrs T) (fE:Slot T name id) (jt:typeOf (.builtin id)=pure (.type "method_descriptor")) (hm:nH X id r) (ho:PE X o to) (ha:PA X (e::es) t)
  (md:attributeBase o name X.ah (eval o X.ah)=eval o X.ah:=by rfl)
  (uo:((backTo dN (starEach (e::es) X.ah)).all (λx=> !x.1)&&(backToKw dN (keywordEach [] X.ah)).all (λx=>x.1.isSome)
   &&decide ((e::es).length+([]:List Keyword).length+(if ([]:List Keyword).isEmpty then 0 else 1)<30))=true:=by rfl)
  (me:(fG.endLine==dN.line)=true:=by rfl) (hs:starEach (e::es) X.ah=(false,eval e X.ah)::starEach es X.ah:=by rfl) (uq:(backTo dN (starEach es X.ah)).any (·.1)=false:=by rfl):
  PE X (.Call (.Attribute o name fG) (e::es) [] dN) (AB X.K T r to t):=by
 intro ae s σ H Q I h;refine wpAny_Call_method_late md uo me rfl (aY (ho ae s σ H _ I h) λv s1 ⟨x,H1,I1,r1,ty,q1⟩=>?_);obtain ⟨h1,h2⟩:=Mm I1 r1 ty;refine ⟨T,id,pa,fE,jt,h1,h2,?_⟩;have hA:=ha dN ae s1 σ H1 _ I1 q1;rw[hs]at hA⊢;refine Calls.callWith_builtin (by show (false||(backTo dN (starEach es X.ah)).any (·.1))=false;rw[uq]<;>rfl) (Calls.evalArgs_plain ?_);exact aY hA λus s2 ⟨vs,H2,I2,r2,q2⟩=>hm ae s2 σ H2 x vs v us Q I2 r1 r2 q2
end
noncomputable def AD (X:Cx) (id:String) (r:V->List V->Hp->VK->Prop):Prop:=
 ∀(ae:List (Addr×Obj)) (s:Shared) (σ:St) (H:Hp) (x:V) (xs:List V) (v:Value) (us:List Value) (Q:VK),az X ae σ H s->bw x v->aV xs us->r x xs H Q->
  wpAny (model X.prog X.w) X.A (call (.builtin id) (v::us)) (EP X ae σ Q) X.xe s
theorem aV.one:∀{x:V}{us:List Value},aV [x] us->∃u,us= [u]/\bw x u
 |_,_,.cons r .nil=>⟨_,rfl,r⟩
theorem aV.zero:∀{us:List Value},aV [] us->us= []
 |_,.nil=>rfl
theorem aV.dropLast {xs:List V}{us:List Value}(h:aV xs us):aV xs.dropLast us.dropLast:=by
 induction h with
 |nil=>exact .nil
 |cons r t ih=>
  cases t with
  |nil=>exact .nil
  |cons q t'=>exact .cons r ih
theorem aV.eraseIdx:∀{xs:List V}{us:List Value}(i:Nat),aV xs us->aV (xs.eraseIdx i) (us.eraseIdx i)
 |_,_,_,.nil=> .nil
 |_,_,0,.cons _ t=>t
 |_,_,i+1,.cons r t=> .cons r (aV.eraseIdx i t)
theorem aV.Mo {xs:List V}{us:List Value}(h:aV xs us):∀k:Nat,aV (List.replicate k xs).flatten (List.replicate k us).flatten
 |0=> .nil
 |k+1=>by rw[xk,xk,y2,y2];exact aV.append h (aV.Mo h k)
theorem Yu {α:Type}(l:List α):l.eraseIdx (l.length - 1)=l.dropLast:=by
 induction l with
 |nil=>rfl
 |cons a r ih=>
  cases r with
  |nil=>rfl
  |cons b r=>
   have e:(a::b::r).length - 1=((b::r).length - 1)+1:=by have h1:(a::b::r).length=r.length+2:=rfl;have h2:(b::r).length=r.length+1:=rfl;omega
   rw[e,List.eraseIdx_cons_succ,ih]
   all_goals rfl
theorem Mp {α:Type}:∀(l:List α) (i:Nat),(l.eraseIdx i).length<=l.length
 | [],_=>xC _
 |_::_,0=>xD _
 |_::r,i+1=>Nat.succ_le_succ (Mp r i)
theorem Mq (ay:List Value):∀(k:Nat) (acc:List Value),
  List.foldl (λx1 x2=>x1++x2) acc.toArray (List.replicate k ay.toArray)=(acc++(List.replicate k ay).flatten).toArray
 |0,acc=>by simp
 |k+1,acc=>by
  have e:acc.toArray++ay.toArray=(acc++ay).toArray:=by simp
  have e2:(acc++ay)++(List.replicate k ay).flatten=acc++(List.replicate (k+1) ay).flatten:=by rw[xk,y2,zD]
  rw[←e2,←Mq ay k (acc++ay),←e,xk,y3]
section
variable {X:Cx}{ae:List (Addr×Obj)}{σ:St}{H:Hp}{s:Shared}{l b:Addr}{xs ys zs:List V}
theorem az.AE {ay gN:List Value}{n:Nat}{f:Array Value->Array Value}{t':Nat}(I:az X ae σ H s) (hH:H l=some (.lst xs))
  (e:s.heap.get? l=some {cls:= .type "list",data:= .seq ay.toArray n}) (hf:f ay.toArray=gN.toArray) (hv:aV ys gN) (hz:ys.length<=sizeLine):
  az X ae σ (aj H l (.lst ys)) {s with heap:=s.heap.update l (Obj.mapSeq f),toks:=t'}:=by
 have q:=PySem.IsL.update e f;rw[hf]at q;refine I.kK (x:=l) (e:=l) (by rw[hH];exact trivial) (.inl rfl) (λb' u hb hu=>(Heap.get?_update_other s.heap (Obj.mapSeq f) (xR hb)).trans hu) ⟨_,q⟩ ?_;exact ⟨hz,gN,_,hv,q⟩
theorem az.Mr {ay:List Value}{t':Nat}(I:az X ae σ H s) (hv:aV ys ay) (hz:ys.length<=sizeLine):
  az X ae σ (aj H s.heap.objs.size (.lst ys)) {s with heap:=s.heap.push {cls:= .type "list",data:= .seq ay.toArray},toks:=t'}:=
 I.fS (λ_a _a q=>Heap.get?_push_of_some _ q) (xC _) ⟨hz,ay,0,hv,Heap.get?_push_size _ rfl⟩
theorem az.fresh (I:az X ae σ H s):H s.heap.objs.size=none:=I.aO.fresh (xC _)
theorem az.nJ (I:az X ae σ H s) (hH:H l=some (.lst xs)):xs.length<=sizeLine/\∃(ay:List Value) (n:Nat),aV xs ay/\xs.length=ay.length/\s.heap.get? l=some {cls:= .type "list",data:= .seq ay.toArray n}:=by obtain ⟨z,ay,n,r,e⟩:=I.aO l _ hH;exact ⟨z,ay,n,r,r.length,e⟩
theorem Ms {n:Nat}(h:n<=sizeLine):Builtin.List.listTooLong n=false:=by unfold Builtin.List.listTooLong;exact Zq ZD
end
section
variable {X:Cx}
noncomputable def Mt:V->List V->Hp->VK->Prop:=λx vs H Q=>∃l xs y,x= .ref l/\vs= [y]/\H l=some (.lst xs)/\xs.length<sizeLine/\Q .bT (aj H l (.lst (xs++ [y])))
theorem Yv:AD X "list.append" Mt:=by intro ae s σ H x vs v us Q I rx rv h;obtain ⟨l,xs,y,rfl,rfl,hH,hz,q⟩:=h;cases rx;obtain ⟨u,rfl,ru⟩:=rv.one;obtain ⟨z,ay,n,r,hl,e⟩:=I.nJ hH;refine call_meets F.slot_list_append ⟨_,e,rfl⟩ F.entry_list_append (F.args_list_append_2 _ _) (PySem.list_append l ay.toArray n u (by rw[xl];omega)) ⟨e,?_⟩;refine ⟨.bT,_,I.AE (gN:=ay++ [u]) hH e (by simp) (r.append (.cons ru .nil)) ?_,rfl,q⟩;rw[yt,yE];omega
noncomputable def Mu:V->List V->Hp->VK->Prop:=λx vs H Q=>∃l b xs zs,x= .ref l/\vs= [.ref b]/\H l=some (.lst xs)/\H b=some (.lst zs)/\xs.length+zs.length<=sizeLine/\Q .bT (aj H l (.lst (xs++zs)))
theorem uu:AD X "list.extend" Mu:=by
 intro ae s σ H x vs v us Q I rx rv h;obtain ⟨l,b,xs,zs,rfl,rfl,hH,hB,hz,q⟩:=h;cases rx;obtain ⟨u,rfl,ru⟩:=rv.one;cases ru;obtain ⟨z,ay,n,r,hl,e⟩:=I.nJ hH;obtain ⟨z2,hJ,n2,r2,kY,e2⟩:=I.nJ hB;have hsz:ay.toArray.size+hJ.toArray.size<=sizeLine:=by rw[xl,xl];omega
 have Eh:¬(!ay.toArray.isEmpty&&Builtin.List.listTooLong (ay.toArray.size+hJ.toArray.size))=true:=by rw[Ms hsz,zc];exact zi
 refine call_meets F.slot_list_extend ⟨_,e,rfl⟩ F.entry_list_extend (F.args_list_extend_2 _ _)
  (AutoSeq1.list_extend_list_list_0 l ay.toArray n b hJ.toArray n2 Eh (by rw[xl];omega) ZD) ⟨e,e2,?_⟩
 refine ⟨.bT,_,I.AE (gN:=ay++hJ) hH e (by simp) (r.append r2) ?_,rfl,q⟩;rw[yt];omega
noncomputable def Yw:V->List V->Hp->VK->Prop:=λx vs H Q=>∃l xs y,x= .ref l/\vs= []/\H l=some (.lst xs)/\xs[xs.length - 1]? =some y/\Q y (aj H l (.lst xs.dropLast))
theorem Yx:AD X "list.pop" Yw:=by
 intro ae s σ H x vs v us Q I rx rv h;obtain ⟨l,xs,y,rfl,rfl,hH,hy,q⟩:=h;cases rx;have Yy:=rv.zero;subst Yy;obtain ⟨z,ay,n,r,hl,e⟩:=I.nJ hH;obtain ⟨u,hu,ru⟩:=r.get hy;have pj:ay.toArray[ay.toArray.size - 1]? =some u:=by show ay.toArray[ay.length - 1]? =some u;rw[←z8,←hl];exact hu
 refine call_meets F.slot_list_pop ⟨_,e,rfl⟩ F.entry_list_pop (F.args_list_pop_1 _) (MeetsSeq.list_pop_last l ay.toArray n u pj (by rw[xl];omega)) ⟨e,?_⟩;refine ⟨y,_,I.AE (gN:=ay.dropLast) hH e ?_ r.dropLast ?_,ru,q⟩
 ·show ay.toArray.eraseIdxIfInBounds (ay.toArray.size - 1)=ay.dropLast.toArray;rw[xl,zO,Yu]
 ·rw[yx];omega
noncomputable def Yz:V->List V->Hp->VK->Prop:=λx vs H Q=>∃l xs i k y,x= .ref l/\vs= [.int i]/\H l=some (.lst xs)/\ -(2^63)<=i/\i<2^63/\seqIndex? i xs.length=some k/\xs[k]? =some y/\Q y (aj H l (.lst (xs.eraseIdx k)))
theorem YA:AD X "list.pop" Yz:=by
 intro ae s σ H x vs v us Q I rx rv h;obtain ⟨l,xs,i,k,y,rfl,rfl,hH,h1,h2,hk,hy,q⟩:=h;cases rx;obtain ⟨u,rfl,ru⟩:=rv.one;obtain ⟨t,rfl⟩:=ru;obtain ⟨z,ay,n,r,hl,e⟩:=I.nJ hH;obtain ⟨w,hw,eE⟩:=r.get hy;refine call_meets F.slot_list_pop ⟨_,e,rfl⟩ F.entry_list_pop (F.args_list_pop_2 _ _)
  (MeetsSeq.list_pop_at l ay.toArray n i t k w (fitsIndex_both h1 h2) (by rw[xl,←hl];exact hk) (by rw[←z8];exact hw) (by rw[xl];omega)) ⟨e,?_⟩
 refine ⟨y,_,I.AE (gN:=ay.eraseIdx k) hH e ?_ (r.eraseIdx k) ?_,eE,q⟩
 ·show ay.toArray.eraseIdxIfInBounds k=(ay.eraseIdx k).toArray;rw[zO]
 ·have:=Mp xs k;omega
noncomputable def YB:R2:=λx y H Q=>∃l b xs zs,x= .ref l/\y= .ref b/\H l=some (.lst xs)/\H b=some (.lst zs)/\xs.length+zs.length<=sizeLine/\∀p,H p=none->Q (.ref p) (aj H p (.lst (xs++zs)))
theorem fV:cV X (binaryOp .Add) YB:=by
 intro ae s σ H x y v u Q I rx ry h;obtain ⟨l,b,xs,zs,rfl,rfl,hH,hB,hz,q⟩:=h;cases rx;cases ry;obtain ⟨z,ay,n,r,hl,e⟩:=I.nJ hH;obtain ⟨z2,hJ,n2,r2,kY,e2⟩:=I.nJ hB;refine PySem.P.add_list e e2 ?_ (by rw[xl,xl];omega);have ea:ay.toArray++hJ.toArray=(ay++hJ).toArray:=by simp
 rw[ea];exact ⟨.ref _,_,I.Mr (t':=s.toks) (r.append r2) (by rw[yt];omega),rfl,q _ I.fresh⟩
noncomputable def YC:R2:=λx y H Q=>∃l k xs,x= .ref l/\y= .int k/\H l=some (.lst xs)/\ -(2^63)<=k/\k<2^63/\xs.length*k.toNat<=sizeLine/\
 ∀p,H p=none->Q (.ref p) (aj H p (.lst (List.replicate k.toNat xs).flatten))
theorem YD {α:Type}(xs:List α) (k:Nat):(List.replicate k xs).flatten.length=k*xs.length:=by
 induction k with
 |zero=>simp
 |succ k ih=>rw[xk,y2,yt,ih,xO,Nat.add_comm]
theorem YE:cV X (binaryOp .Mult) YC:=by
 intro ae s σ H x y v u Q I rx ry h;obtain ⟨l,k,xs,rfl,rfl,hH,h1,h2,hz,q⟩:=h;cases rx;obtain ⟨t,rfl⟩:=ry;obtain ⟨z,ay,n,r,hl,e⟩:=I.nJ hH;have bW:ay.toArray.size*k.toNat<=sizeLine:=by rw[xl,←hl];exact hz
 have YF:¬ay.toArray.size*k.toNat>(2^63 - 1)/8:=by
  have:(sizeLine:Nat)<=(2^63 - 1)/8:=by decide
  omega
 have YG:¬(!Builtin.List.listFitsIndex k)=true:=by rw[fitsIndex_both h1 h2];exact zi
 have Eh:¬Builtin.List.listTooLong (ay.toArray.size*k.toNat)=true:=by rw[Ms bW];exact zi
 have YH:List.foldl (λx1 x2=>x1++x2) #[] (List.replicate (if ay.toArray.isEmpty=true then 0 else k.toNat) ay.toArray)=(List.replicate k.toNat ay).flatten.toArray:=by
  have f0:∀m:Nat,List.foldl (λx1 x2=>x1++x2) #[] (List.replicate m ay.toArray)=(List.replicate m ay).flatten.toArray:=λm=>by have:=Mq ay m [];rw[x9]at this;exact this
  rw[f0];cases ay with
  |nil=>simp
  |cons a r'=>rw[Zw (by simp)]
 refine wpAny_binaryOp_repeat_ref (T:="list") (U:="int") ZE ⟨_,e,rfl⟩ (λs'=>typeIs_int s' k t) noFill_list_mul F.fills_int_mul F.slot_int_rmul repeat_list F.slot_int_index.lookup
  (call_meets F.slot_int_rmul (typeIs_int s k t) F.entry_int_rmul (F.args_int_rmul_2 _ _) (int___rmul___int_list k t l ay.toArray n)
   ⟨e,rfl,⟨_,e,rfl⟩,call_meets F.slot_list_mul ⟨_,e,rfl⟩ F.entry_list_mul (F.args_list_mul_2 _ _) (AutoListH.list___mul___list_int_3 l ay.toArray n k t YG YF Eh) ⟨e,?_⟩⟩)
 rw[YH];exact ⟨.ref _,_,I.Mr (t':=s.toks) (r.Mo k.toNat) (by rw[YD,xK];exact hz),rfl,q _ I.fresh⟩
end
section
variable {prog:Program}{w:World}{A:Around}{E:Value->Shared->Prop}{s:Shared}
set_option maxRecDepth 100000 in
end
theorem aV.ints:∀{ns:List Int}{us:List Value},aV (ns.map V.int) us->IntsAre us ns
 | [],us,h=>by rw[yO]at h;cases h;exact IntsAre.nil
 |n::ns,us,h=>by
  rw[yJ]at h;cases h with
  |cons r t=>obtain ⟨k,rfl⟩:=r;exact IntsAre.cons n k (aV.ints t)
theorem Mv:∀{us:List Value}{ns:List Int},IntsAre us ns->aV (ns.map V.int) us
 |_,_,.nil=>by rw[yO];exact Paired.nil
 |_,_,.cons n t h=>by rw[yJ];exact Paired.cons (show bw (V.int n) (Value.int n t) from ⟨t,rfl⟩) (Mv h)
theorem aV.Ei:∀{bs:List Bool}{us:List Value},aV (bs.map V.bl) us->us=bs.map Value.bool
 | [],us,h=>by rw[yO]at h;cases h;rfl
 |b::bs,us,h=>by
  rw[yJ]at h;cases h with
  |cons r t=>cases r;rw[aV.Ei t,yJ]
theorem aV.rf {a:Addr}{us:List Value}(r:aV [V.ref a] us):us= [Value.ref a]:=by
 cases r with
 |cons r t=>cases t;cases r;rfl
section
variable {prog:Program}{w:World}{A:Around}{E:Value->Shared->Prop}{s:Shared}{l:Addr}{ay:List Value}{ns:List Int}{Q:Value->Shared->Prop}
theorem YI (hh:A.handled=none) (hl:s.heap.IsList l ay.toArray) (hi:IntsAre ay ns)
  (h:∀h' tk t',(∀b o,s.heap.get? b=some o->h'.get? b=some o)->Q (.int ns.sum t') {s with heap:=h',toks:=tk}):wpAny (model prog w) A (call (.builtin "sum") [.ref l]) Q E s:=by
 obtain ⟨xs,e⟩:=hi.allInts.items;have hn:numsOf (intItems xs).toList=ns:=by rw[←e];exact hi.numsOf
 rw[nums_intItems]at hn;rw[e]at hl;refine PySem.sum_intListG hh hl λh' tk t' hk=>?_
 have:=h h' tk t' hk;rw[preSum_eq,xo (by simp),hn];exact this
theorem YJ (hh:A.handled=none) (hl:s.heap.IsList l ay.toArray) (hi:IntsAre ay ns) (bQ:0<ns.length)
  (h:∀h' tk M t',(∀b o,s.heap.get? b=some o->h'.get? b=some o)->M∈ns->(∀a,a∈ns->a<=M)->Q (.int M t') {s with heap:=h',toks:=tk}):wpAny (model prog w) A (call (.builtin "max") [.ref l]) Q E s:=by
 obtain ⟨xs,e⟩:=hi.allInts.items;have hn:numsOf (intItems xs).toList=ns:=by rw[←e];exact hi.numsOf
 rw[nums_intItems]at hn;subst hn;rw[e]at hl;have hsz:0<xs.size:=by simpa using bQ
 refine PySem.max_intList hh hl hsz λv h' tk hv hk=>?_
 obtain ⟨t,rfl⟩:=intItems_at hv;obtain ⟨h1,h2⟩:=argBest_gt (numAt xs) (xs.size - 1);refine h h' tk _ t hk ?_ λa ha=>?_
 ·rw[numAt_eq];exact PySem.getD_mem (by rw[yA,z9];omega)
 ·obtain ⟨j,hj,rfl⟩:=mem_getD ha;rw[yA,z9]at hj;rw[←numAt_eq];exact h2 j ZD
end
section
variable {X:Cx}
noncomputable def Mw (K:PySem.W.Frag):List V->Hp->VK->Prop:=λvs H Q=>∃(a:Addr) (ns:List Int),vs= [V.ref a]/\ag K H a (ns.map V.int)/\Q (.int ns.sum) H
noncomputable def Mx (K:PySem.W.Frag):List V->Hp->VK->Prop:=λvs H Q=>∃(a:Addr) (ns:List Int),vs= [V.ref a]/\ag K H a (ns.map V.int)/\0<ns.length/\∀m,m∈ns->(∀y,y∈ns->y<=m)->Q (.int m) H
theorem YK (hc:X.eD=true):dJ X (.builtin "sum") (Mw X.K):=by intro ae s σ H vs us Q I r h;obtain ⟨a,ns,rfl,hs,q⟩:=h;obtain ⟨ay,rv,hl,_⟩:=I.list hs;rw[aV.rf r];exact YI (I.ok.hd hc) hl.isList rv.ints λh' tk t' hk=>⟨.int _,H,I.dX hk,⟨_,rfl⟩,q⟩
theorem YL (hc:X.eD=true):dJ X (.builtin "max") (Mx X.K):=by intro ae s σ H vs us Q I r h;obtain ⟨a,ns,rfl,hs,bQ,q⟩:=h;obtain ⟨ay,rv,hl,_⟩:=I.list hs;rw[aV.rf r];exact YJ (I.ok.hd hc) hl.isList rv.ints bQ λh' tk m t' hk h1 h2=>⟨.int _,H,I.dX hk,⟨_,rfl⟩,q m h1 h2⟩
noncomputable def My (K:PySem.W.Frag):List V->Hp->VK->Prop:=λvs H Q=>∃(a:Addr) (ns:List Int),vs= [V.ref a]/\ag K H a (ns.map V.int)/\ns.length<64/\
 ∀(iF:List Int) (p:Addr),iF.Perm ns->iF.Pairwise (·<= ·)->H p=none->Q (.ref p) (aj H p (.lst (iF.map V.int)))
theorem YM {n:Nat}(h:n<64):n<=sizeLine:=by rw[sizeLine_eq];omega
theorem YN:dJ X (.builtin "sorted") (My X.K):=by
 intro ae s σ H vs us Q I r h;obtain ⟨a,ns,rfl,hs,Mz,q⟩:=h;obtain ⟨ay,rv,hl,_⟩:=I.list hs;rw[aV.rf r];have hi:=rv.ints;refine PyProof.Rows.sorted_ints hl.isList hi (by rw[hi.length];exact Mz) λju iF h1 h2 h3=>?_
 obtain ⟨ep,Ej⟩:=PyProof.Rows.sortedAll_at s.heap ay ju;have bW:(iF.map V.int).length<=sizeLine:=by rw[yA,h2.length_eq];exact YM Mz
 exact ⟨.ref _,aj H (s.heap.objs.size+1) (.lst (iF.map V.int)),I.fS (t':=s.toks) (λ_a _a=>PyProof.Rows.sortedAll_old) (xD _) ⟨bW,ju.toList,ep,Mv h1,Ej⟩,rfl,q iF _ h2 h3 (I.aO.fresh (xD _))⟩
end
section
variable {X:Cx}
noncomputable def MA (K:PySem.W.Frag):V->List V->Hp->VK->Prop:=λx xs H Q=>∃(a:Addr) (ys:List V) (y:V) (j:Nat) (z:V),x=V.ref a/\xs= [y]/\ag K H a ys/\iW y=true/\ys.all iW=true/\ys[j]? =some z/\js z y=true/\
 (∀(m:Nat) (z':V),m<j->ys[m]? =some z'->js z' y=false)/\Q (.int (j:Nat)) H
theorem MB {ys:List V}(f:ys.all iW=true) {j:Nat}{z:V}(h:ys[j]? =some z):iW z=true:=zx.mp f z (yY h)
set_option tactic.hygienic true in
theorem YO:nH X "list.index" (MA X.K):=by
 intro ae s σ H x xs v us Q I rx Ek h;obtain ⟨a,ys,y,j,z,rfl,rfl,hs,fy,El,hz,YQ,uv,q⟩:=h;cases rx;cases Ek with
 |cons ry rt=>
  rename_i uy ut;cases rt;obtain ⟨ay,rv,⟨⟨cls,dd,data,sl⟩,n,ho,hc,MC,hd⟩,bW⟩:=I.list hs;simp only at hc hd;subst hc hd;obtain ⟨u,hu,ru⟩:=rv.get hz;obtain ⟨nL,YR⟩:=List.getElem?_eq_some_iff.mp hu;have hvl:=rv.length;have hj:j<ay.toArray.size:=by simpa using nL
  have MD:=sizeLine_eq;refine call_meets Zb ⟨_,ho,rfl⟩ Z3 (Z1 _ _)
   (SeqAt.list_indexAt a ay.toArray n dd sl uy (gQ y) j hj ZD ?_ ?_) ⟨ho,λu' pk=>rb ry fy rv El u' (by simpa using pk),?_⟩
  ·have e1:ay.toArray[j]=u:=by simpa using YR
   rw[e1,Ay ru (MB El hz)];exact YQ
  ·intro m hm Em;have Dd:m<ay.length:=by simpa using hm
   have YS:m<ys.length:=by omega
   have pj:ys[m]? =some ys[m]:=yb YS;obtain ⟨u2,uw,YT⟩:=rv.get pj;obtain ⟨_,YU⟩:=List.getElem?_eq_some_iff.mp uw;have e1:ay.toArray[m]=u2:=by simpa using YU
   rw[e1,Ay YT (MB El pj)];exact uv m _ Em pj
  ·exact ⟨.int (j:Nat),H,I.eg _,⟨_,rfl⟩,q⟩
end
theorem ME {prog:Program}{w:World}{A:Around}{E:Value->Shared->Prop}{s:Shared}{l:Addr}{items:Array Value}{Q:Value->Shared->Prop}(hl:s.heap.IsList l items)
  (h:∀eM:Shared,eM={s with heap:=s.heap.push {cls:= .type "list_iterator",data:= .fields #[.ref l,.int 0 0]}}->
   (eM.heap.IsListIter s.heap.objs.size l 0/\eM.heap.IsList l items)->l≠s.heap.objs.size->Q (.ref s.heap.objs.size) eM):wpAny (model prog w) A (pyIter (.ref l)) Q E s:=by
 have cC:l<s.heap.objs.size:=by obtain ⟨_,e,_⟩:=hl;exact Heap.lt_size e
 exact wpAny_pyIter_list hl (h _ rfl ⟨⟨_,Heap.get?_push_size _ rfl,rfl,rfl⟩,hl.push _⟩ (xN cC))
theorem MF {prog:Program}{w:World}{A:Around}{bs:List Bool}{ay:List Value}(e:ay=bs.map Value.bool):
  TruthOf prog w A (λi v=>ay.toArray[i]? =some v) (λi=>bs.getD i false):=λi v s Q E hv hq=>by
 have lX:ay[i]? =some v:=by simpa using hv
 rw[e,yd]at lX;obtain ⟨b,hb,rfl⟩:=Option.map_eq_some_iff.mp lX;have hg:bs.getD i false=b:=by rw[y4,hb]<;>rfl
 have j3:Q (bs.getD i false) s:=hq;rw[hg]at j3;exact wpAny_truthy_bool j3
theorem MG:∀bs:List Bool,(List.range bs.length).any (λi=>bs.getD i false)=bs.any id
 | []=>rfl
 |b::bs=>by
  rw[yu,xj,zz,zC,zz,←MG bs]
  all_goals rfl
theorem MH:∀bs:List Bool,(List.range bs.length).all (λi=>bs.getD i false)=bs.all id
 | []=>rfl
 |b::bs=>by
  rw[yu,xj,zw,zy,zw,←MH bs]
  all_goals rfl
section
variable {X:Cx}
noncomputable def MI (K:PySem.W.Frag):List V->Hp->VK->Prop:=λvs H Q=>∃(a:Addr) (bs:List Bool),vs= [V.ref a]/\ag K H a (bs.map V.bl)/\Q (.bl (bs.any id)) H
noncomputable def MJ (K:PySem.W.Frag):List V->Hp->VK->Prop:=λvs H Q=>∃(a:Addr) (bs:List Bool),vs= [V.ref a]/\ag K H a (bs.map V.bl)/\Q (.bl (bs.all id)) H
theorem YV (hc:X.eD=true):dJ X (.builtin "any") (MI X.K):=by
 intro ae s σ H vs us Q I r h;obtain ⟨a,bs,rfl,hs,q⟩:=h;obtain ⟨ay,rv,hl,_⟩:=I.list hs;rw[aV.rf r];have hb:=rv.Ei;refine call_any_walk (ME hl.isList λeM e2 st bQ=>?_);subst e2;refine ⟨_,_,_,_,_,_,_,rfl,Walks.list (A:=X.A.in1) (I.ok.hd hc) _ a bQ ay.toArray,st,MF hb,λh' tk hk=>?_⟩;refine ⟨.bl _,H,I.dX λb o eo=>hk b o (λiA=>?_) (Heap.get?_push_of_some _ eo),?_,q⟩
 ·rcases yT.mp iA with e1|iA
  ·exact absurd (e1▸Heap.lt_size eo) (xF _)
  ·cases iA
 ·show Value.bool _=Value.bool _;rw[←MG,hb,xl,yA]
theorem YW (hc:X.eD=true):dJ X (.builtin "all") (MJ X.K):=by
 intro ae s σ H vs us Q I r h;obtain ⟨a,bs,rfl,hs,q⟩:=h;obtain ⟨ay,rv,hl,_⟩:=I.list hs;rw[aV.rf r];have hb:=rv.Ei;refine call_all_walk (ME hl.isList λeM e2 st bQ=>?_);subst e2;refine ⟨_,_,_,_,_,_,_,rfl,Walks.list (A:=X.A.in1) (I.ok.hd hc) _ a bQ ay.toArray,st,MF hb,λh' tk hk=>?_⟩;refine ⟨.bl _,H,I.dX λb o eo=>hk b o (λiA=>?_) (Heap.get?_push_of_some _ eo),?_,q⟩
 ·rcases yT.mp iA with e1|iA
  ·exact absurd (e1▸Heap.lt_size eo) (xF _)
  ·cases iA
 ·show Value.bool _=Value.bool _;rw[←MH,hb,xl,yA]
end
mutual
inductive Dp (K:PySem.W.Frag) (H:Hp):V->PyData->Prop
 |bT:Dp K H .bT .none
 |bl (b:Bool):Dp K H (.bl b) (.bool b)
 |int (i:Int):Dp K H (.int i) (.int i)
 |str (x:Str):Dp K H (.str x) (.str x)
 |lst {a:Addr}{xs:List V}{ds:List PyData}:ag K H a xs->pq K H xs ds->Dp K H (.ref a) (.list ds)
 |bP {a:Addr}{xs:List V}{ds:List PyData}:cu K H a xs->pq K H xs ds->Dp K H (.ref a) (.tuple ds)
inductive pq (K:PySem.W.Frag) (H:Hp):List V->List PyData->Prop
 |nil:pq K H [] []
 |cons {v:V}{vs:List V}{d:PyData}{ds:List PyData}:Dp K H v d->pq K H vs ds->pq K H (v::vs) (d::ds)
end
section
variable {X:Cx}{ae:List (Addr×Obj)}{σ:St}{H:Hp}{s:Shared}
mutual
theorem Dp.rh (I:az X ae σ H s):∀(d:PyData) (v:V) (u:Value),Dp X.K H v d->bw v u->∃as,Reads s.heap u d as
 | .none,_,_,h,r=>by cases h;cases r;exact ⟨_,Reads.none⟩
 | .bool b,_,_,h,r=>by cases h;cases r;exact ⟨_,Reads.bool b⟩
 | .int i,_,_,h,r=>by cases h;obtain ⟨t,rfl⟩:=r;exact ⟨_,Reads.int i t⟩
 | .str x,_,_,h,r=>by cases h;obtain ⟨t,rfl⟩:=r;exact ⟨_,Reads.str x t⟩
 | .list ds,_,_,h,r=>by
  cases h with
  |lst hs ha=>cases r;obtain ⟨ay,rv,⟨o,n,ho,hc,_,hd⟩,_⟩:=I.list hs;obtain ⟨as,hr⟩:=Dp.pz I ds _ ay ha rv;exact ⟨_,Reads.list ho hc hd hr⟩
 | .tuple ds,_,_,h,r=>by
  cases h with
  |bP hs ha=>cases r;obtain ⟨ay,rv,⟨o,ho,hc,n,hd⟩,_⟩:=I.tuple hs;obtain ⟨as,hr⟩:=Dp.pz I ds _ ay ha rv;exact ⟨_,Reads.tuple ho hc hd hr⟩
 | .dict _,_,_,h,_=>by cases h
theorem Dp.pz (I:az X ae σ H s):∀(ds:List PyData) (vs:List V) (us:List Value),pq X.K H vs ds->aV vs us->∃as,ReadsAll s.heap us ds as
 | [],_,_,h,r=>by cases h;cases r;exact ⟨_,ReadsAll.nil⟩
 |d::ds,_,_,h,r=>by
  cases h with
  |cons h1 h2=>
   cases r with
   |cons r1 r2=>obtain ⟨as,q1⟩:=Dp.rh I d _ _ h1 r1;obtain ⟨bs,q2⟩:=Dp.pz I ds _ _ h2 r2;exact ⟨_,ReadsAll.cons q1 q2⟩
end
end
section
variable {X:Cx}
noncomputable def YX (K:PySem.W.Frag):R2:=λx y H Q=>∃d e,Dp K H x d/\Dp K H y e/\SeqAt.shaped d=true/\SeqAt.shaped e=true/\Q (.bl (!PyData.eqv d e)) H
theorem YY (hu:X.A.units+64<cLine):cV X (compareOp .NotEq) (YX X.K):=by intro ae s σ H x y v u Q I rx ry h;obtain ⟨d,e,hd,he,sd,se,q⟩:=h;obtain ⟨as,r1⟩:=Dp.rh I d x v hd rx;obtain ⟨bs,r2⟩:=Dp.rh I e y u he ry;exact SeqAt.compareNe_shaped r1 r2 sd se hu ⟨.bl _,H,I,rfl,q⟩
end
noncomputable abbrev MK (h:Heap) (c:Addr) (v:Option Value):Prop:=h.IsCell c v
noncomputable def YZ (scope sc:Scope):Scope:=
 {scope with names:=scope.names.map λ(n,k)=>if (k== .free&&sc.kind== .function&&sc.names.lookup n==some .cell) then (n,.cell) else (n,k)}
noncomputable def eZ (cells:List (Str×Addr)):List (Str×NameKind)->List (Str×Addr)->List (Str×Addr)
 | [],acc=>acc
 |(n,k)::r,acc=>if k== .free then eZ cells r ((n,(cells.lookup n).getD 0)::acc) else eZ cells r acc
theorem ML (ah:Env) (f:Str×NameKind->List (Str×Addr)->Sem (ForInStep (List (Str×Addr))))
  (hf:∀n k c,f (n,k) c=if k== .free then (do let a ←cellOf ah n;pure (.yield ((n,a)::c))) else pure (.yield c)):
  ∀(names:List (Str×NameKind)) (acc:List (Str×Addr)),(∀y∈names,y.2= .free->∃c,ah.cells.lookup y.1=some c)->forIn names acc f=pure (eZ ah.cells names acc)
 | [],acc,_=>by rw[List.forIn_nil];rfl
 |(n,k)::r,acc,h=>by
  rw[List.forIn_cons,hf];have ih:=λacc=>ML ah f hf r acc λy hy=>h y (yU _ hy)
  unfold eZ;by_cases hk:(k==NameKind.free)=true
  ·rw[Zx hk,Zx hk];obtain ⟨c,hc⟩:=h (n,k) yV (by simpa using hk);have e:cellOf ah n=pure c:=by unfold cellOf;rw[hc]
   rw[e];have e2:(ah.cells.lookup n).getD 0=c:=by rw[hc];rfl
   rw[e2];exact ih _
  ·rw[Zw hk,Zw hk];exact ih _
theorem Y0 {scope:Scope}{ah:Env}(h:∀y∈scope.names,y.2= .free->∃c,ah.cells.lookup y.1=some c):closureFor scope ah=pure (eZ ah.cells scope.names []):=by simp only[closureFor];rw[ML ah _ (λn k c=>rfl) scope.names [] h];rfl
theorem Eo {α:Type}:∀{l:List (Str×α)}{n:Str}{c:α},(n,c)∈l->∃c',l.lookup n=some c'
 |(k,v)::r,n,c,h=>by
  rw[yG];cases hb:n==k with
  |true=>exact ⟨_,rfl⟩
  |false=>
   rcases yT.mp h with e|h
   ·cases e;simp at hb
   ·exact Eo h
set_option tactic.hygienic true in
theorem AF {cells:List (Str×Addr)}:∀{names:List (Str×NameKind)}{acc:List (Str×Addr)}{n:Str}{c:Addr},(n,c)∈eZ cells names acc->(n,c)∈acc\/((n,.free)∈names/\c=(cells.lookup n).getD 0)
 | [],_,_,_,h=> .inl h
 |(m,k)::r,acc,n,c,h=>by
  unfold eZ at h;split at h
  ·rename_i hk;have hk:k= .free:=by simpa using hk
   rcases AF h with h|⟨h1,h2⟩
   ·rcases yT.mp h with e|h
    ·cases e;exact .inr ⟨hk▸yV,rfl⟩
    ·exact .inl h
   ·exact .inr ⟨yU _ h1,h2⟩
  ·rcases AF h with h|⟨h1,h2⟩
   ·exact .inl h
   ·exact .inr ⟨yU _ h1,h2⟩
theorem Ep {cells:List (Str×Addr)}:∀{names:List (Str×NameKind)}{acc:List (Str×Addr)}{p:Str×Addr},p∈acc->p∈eZ cells names acc
 | [],_,_,h=>h
 |(m,k)::r,acc,p,h=>by
  unfold eZ;split
  ·exact Ep (yU _ h)
  ·exact Ep h
theorem Er {cells:List (Str×Addr)}:∀{names:List (Str×NameKind)}{acc:List (Str×Addr)}{n:Str},(n,.free)∈names->(n,(cells.lookup n).getD 0)∈eZ cells names acc
 |(m,k)::r,acc,n,h=>by
  unfold eZ;rcases yT.mp h with e|h
  ·cases e;exact Ep yV
  ·split
   ·exact Er h
   ·exact Er h
set_option tactic.hygienic true in
theorem ux:∀{names:List (Str×NameKind)}{h:Heap}{acc:List (Str×Addr)}{x:Str}{c:Addr},(x,c)∈cellsFrom h.objs.size names acc->
  (x,c)∈acc\/((x,.cell)∈names/\h.objs.size<=c/\MK (pushCells h names) c none)
 | [],_,_,_,_,h=> .inl h
 |(n,k)::r,h,acc,x,c,hm=>by
  unfold cellsFrom at hm;unfold pushCells;split at hm
  ·rename_i hk;rw[Zx hk];have hk:k= .cell:=by simpa using hk
   rw[←Heap.size_push h {cls:= .type "cell",data:= .cell none}]at hm;rcases ux hm with hm|⟨h1,h2,h3⟩
   ·rcases yT.mp hm with e|hm
    ·cases e;exact .inr ⟨hk▸yV,xC _,_,pushCells_keeps r _ _ _ (Heap.get?_push_size _ rfl),rfl⟩
    ·exact .inl hm
   ·rw[Heap.size_push]at h2;exact .inr ⟨yU _ h1,xB h2,h3⟩
  ·rename_i hk;rw[Zw hk];rcases ux hm with hm|⟨h1,h2,h3⟩
   ·exact .inl hm
   ·exact .inr ⟨yU _ h1,h2,h3⟩
theorem AG:∀{names:List (Str×NameKind)}{n:Nat}{acc:List (Str×Addr)}{p:Str×Addr},p∈acc->p∈cellsFrom n names acc
 | [],_,_,_,h=>h
 |(m,k)::r,n,acc,p,h=>by
  unfold cellsFrom;split
  ·exact AG (yU _ h)
  ·exact AG h
theorem Es:∀{names:List (Str×NameKind)}{n:Nat}{acc:List (Str×Addr)}{x:Str},(x,.cell)∈names->∃c,(x,c)∈cellsFrom n names acc
 |(m,k)::r,n,acc,x,h=>by
  unfold cellsFrom;rcases yT.mp h with e|h
  ·cases e;exact ⟨n,AG yV⟩
  ·split
   ·exact Es h
   ·exact Es h
set_option tactic.hygienic true in
theorem Et:∀{names:List (Str×NameKind)}{h:Heap}{acc:List (Str×Addr)}{x y:Str}{c:Addr},(∀p∈acc,p.2<h.objs.size)->(∀x y c,(x,c)∈acc->(y,c)∈acc->x=y)->
  (x,c)∈cellsFrom h.objs.size names acc->(y,c)∈cellsFrom h.objs.size names acc->x=y
 | [],_,_,_,_,_,_,hi,h1,h2=>hi _ _ _ h1 h2
 |(n,k)::r,h,acc,x,y,c,hl,hi,h1,h2=>by
  unfold cellsFrom at h1 h2;split at h1
  ·rename_i hk;rw[Zx hk]at h2;rw[←Heap.size_push h {cls:= .type "cell",data:= .cell none}]at h1 h2;refine Et (h:=h.push _) (λp hp=>?_) (λx y c a b=>?_) h1 h2
   ·rw[Heap.size_push];rcases yT.mp hp with rfl|hp
    ·exact xJ _
    ·exact xI (hl p hp)
   ·rcases yT.mp a with e|a<;>rcases yT.mp b with e'|b
    ·cases e;cases e';rfl
    ·cases e;exact absurd (hl _ b) (xF _)
    ·cases e';exact absurd (hl _ a) (xF _)
    ·exact hi _ _ _ a b
  ·rename_i hk;rw[Zw hk]at h2;exact Et hl hi h1 h2
theorem Y1 {M:Model}{A:Around}{E:Value->Shared->Prop}{s:Shared}{scope:Scope}{globals:Addr}{closure:List (Str×Addr)}{qual:Str}{func:Option Addr}{code:Value}{MM:Env}{builtins:Addr}{Q:Env->Shared->Prop}
  (h:Q (newEnv scope s.heap.objs.size globals (cellsFrom (s.heap.objs.size+1) scope.names closure) qual func code (some MM) builtins)
   {s with heap:=pushCells (s.heap.push {cls:= .type "dict",data:= .dict #[]}) scope.names}):
  wpAny M A (newFunctionEnv scope globals closure [] qual func code (some MM) builtins) Q E s:=by
 simp only[newFunctionEnv,Option.isSome_some,Zy];refine wpAny_bind (wpAny_alloc ?_);refine wpAny_bind (wpAny_layCells _ (λn k c=>rfl) scope.names closure _ _ ?_);rw[show ({s with heap:=s.heap.push {cls:= .type "dict",data:= .dict #[]}}:Shared).heap.objs.size=s.heap.objs.size+1 from Heap.size_push ..];rw[List.forIn_nil];exact wpAny_bind (wpAny_pure (wpAny_pure h))
theorem Eu {sc:Scope}:∀{names:List (Str×NameKind)}{x:Str}{k:NameKind},
  (names.map λ(n,k)=>if (k==NameKind.free&&sc.kind== .function&&sc.names.lookup n==some .cell) then (n,NameKind.cell) else (n,k)).lookup x=some k->
  ∃k',names.lookup x=some k'/\(k=k'\/(k'= .free/\k= .cell))
 | [],_,_,h=>by simp at h
 |(n,k₀)::r,x,k,h=>by
  have ih:= @Eu sc r x k;have h':List.lookup x ((if (k₀==NameKind.free&&sc.kind== .function&&sc.names.lookup n==some .cell)=true then (n,NameKind.cell) else (n,k₀))::(r.map _))=some k:=h;cases hx:x==n with
  |true=>
   simp only[yG,hx];by_cases hc:(k₀==NameKind.free&&sc.kind== .function&&sc.names.lookup n==some .cell)=true
   ·rw[Zx hc]at h';simp only[yG,hx]at h';cases h';simp only[za,Zm]at hc;exact ⟨k₀,rfl,.inr ⟨hc.1.1,rfl⟩⟩
   ·rw[Zw hc]at h';simp only[yG,hx]at h';cases h';exact ⟨_,rfl,.inl rfl⟩
  |false=>
   simp only[yG,hx];by_cases hc:(k₀==NameKind.free&&sc.kind== .function&&sc.names.lookup n==some .cell)=true
   ·rw[Zx hc]at h';simp only[yG,hx]at h';exact ih h'
   ·rw[Zw hc]at h';simp only[yG,hx]at h';exact ih h'
structure uz (N:List Str) (sc scope:Scope) (own:List (Str×Nat)):Prop where
 kind:scope.kind= .function
 tT:∀y∈scope.names,scope.names.lookup y.1=some y.2
 ix:∀p∈own,N[p.2]? =some p.1
 free:∀y∈scope.names,y.2= .free->sc.names.lookup y.1=some .cell\/sc.names.lookup y.1=some .free
 own:∀y∈scope.names,y.2= .local\/y.2= .cell->y.1∈own.map (·.1)\/y.1∉N
noncomputable def cg (σ:St):List Nat->St
 | []=>σ
 |v::vs=>(cg σ vs).set v none
theorem Ew (σ:St):∀vs:List Nat,(cg σ vs).length=σ.length
 | []=>rfl
 |v::vs=>by unfold cg;rw[yD,Ew σ vs]
theorem Ex {σ:St}{i:Nat}{x:V}:∀{vs:List Nat},(cg σ vs)[i]? =some (some x)->σ[i]? =some (some x)/\i∉vs
 | [],h=>⟨h,by simp⟩
 |v::vs,h=>by
  unfold cg at h;by_cases hi:v=i
  ·subst hi;by_cases hv:v<(cg σ vs).length
   ·rw[yk hv]at h;cases h
   ·rw[yc (by simpa using hv)]at h;cases h
  ·rw[yj hi]at h;obtain ⟨h1,h2⟩:=Ex h;exact ⟨h1,by simp only[yT,not_or];exact ⟨λe=>hi e.symm,h2⟩⟩
noncomputable abbrev Cx.d5 (X:Cx) (s:Shared) (H:Hp) (scope:Scope) (du:Env) (fp:List Addr):Cx:={X with ft:=s,oW:=H,ah:=du,aJ:=X.fT,ex:=fp,fn:=λx=>scope.names.lookup x==some .cell,pn:= [],xe:=λ_a _a=>False}
section
variable {X:Cx}{ae:List (Addr×Obj)}{σ:St}{H:Hp}{s:Shared}
theorem Y2 {scope:Scope}{own:List (Str×Nat)}{fp:List Addr}(I:az X ae σ H s) (ok:uz X.N X.ah.scope scope own) (hN:X.N.Nodup) (rj:∀b∈fp,kQ X ae H b/\b<s.heap.objs.size):
  az (X.d5 s H scope (compEnvC scope (cellsFrom (s.heap.objs.size+1) scope.names (eZ X.ah.cells scope.names [])) s.heap.objs.size X.ah) fp) [] (cg σ (own.map (·.2))) H {s with heap:=pushCells (s.heap.push {cls:= .type "dict",data:= .dict #[]}) scope.names}:=by
 have qO:∀y∈scope.names,y.2= .free->∃c,X.ah.cells.lookup y.1=some c:=λy hy e=>by
  rcases ok.free y hy e with k|k
  ·exact I.ok.has _ (.inl k)
  ·exact I.ok.has _ (.inr k)
 generalize uA:compEnvC scope (cellsFrom (s.heap.objs.size+1) scope.names (eZ X.ah.cells scope.names [])) s.heap.objs.size X.ah=du;have kp:∀b o,s.heap.get? b=some o->(pushCells (s.heap.push {cls:= .type "dict",data:= .dict #[]}) scope.names).get? b=some o:=λb o e=>pushCells_keeps _ _ _ _ (Heap.get?_push_of_some _ e)
 have hL:du.locals=s.heap.objs.size:=by rw[←uA];rfl
 have fW:du.cells=cellsFrom (s.heap.objs.size+1) scope.names (eZ X.ah.cells scope.names []):=by rw[←uA];rfl
 have Ey:du.scope=YZ scope X.ah.scope:=by rw[←uA];rfl
 rw[←Heap.size_push s.heap {cls:= .type "dict",data:= .dict #[]}]at fW;have cm:∀{y c},(y,c)∈eZ X.ah.cells scope.names []->X.ah.cells.lookup y=some c/\c<s.heap.objs.size:=fun {y c} hm=>by
  rcases AF hm with hm|⟨h1,rfl⟩
  ·cases hm
  ·obtain ⟨c,hc⟩:=qO _ h1 rfl;rw[hc];obtain ⟨w,z⟩:=I.cell _ _ hc;exact ⟨rfl,z.lt⟩
 have mem:∀{y c},du.cells.lookup y=some c->(X.ah.cells.lookup y=some c/\c<s.heap.objs.size)\/(s.heap.objs.size+1<=c/\MK (pushCells (s.heap.push {cls:= .type "dict",data:= .dict #[]}) scope.names) c none):=fun {y c} e=>by
  rw[fW]at e;rcases ux (Zk e) with hm|⟨_,h2,h3⟩
  ·exact .inl (cm hm)
  ·rw[Heap.size_push]at h2;exact .inr ⟨h2,h3⟩
 have look:∀{y},scope.names.lookup y=some .free->∃c,du.cells.lookup y=some c/\X.ah.cells.lookup y=some c:=fun {y} hl=>by
  have hy:(y,NameKind.free)∈scope.names:=Zk hl;obtain ⟨c',e'⟩:=Eo (AG (names:=scope.names) (n:=(s.heap.push {cls:= .type "dict",data:= .dict #[]}).objs.size) (Er (cells:=X.ah.cells) (acc:= []) hy));rw[←fW]at e';refine ⟨c',e',?_⟩;rw[fW]at e';rcases ux (Zk e') with hm|⟨h1,_,_⟩
  ·exact (cm hm).1
  ·have:=ok.tT _ h1;rw[hl]at this;cases this
 have Y3:(X.d5 s H scope du fp).Ok:=by
  refine ⟨I.ok.mod,by show du.scope.kind=_;rw[Ey];exact ok.kind,by show du.globals=_;rw[←uA];exact I.ok.lN,by show du.builtins=_;rw[←uA];exact I.ok.qM,by show s.heap.objs.size<=du.locals;rw[hL];exact xC _,
   λy z c e1 e2=>?_,λy hy=>?_,λy c z e=>?_,I.ok.hd,I.ok.frames,.inl rfl,λb hb=>⟨?_,λy c e z=>?_⟩,I.bs,xE I.ok.kL I.sz,λb o e hb=>?_,λb hb z=>?_,I.fT,I.Lv⟩
  ·have e1:du.cells.lookup y=some c:=e1;have e2:du.cells.lookup z=some c:=e2;rw[fW]at e1 e2;refine Et (λp hp=>?_) (λy z c a b=>I.ok.inj y z c (cm a).1 (cm b).1) (Zk e1) (Zk e2);rw[Heap.size_push];exact xI (cm (y:=p.1) (c:=p.2) hp).2
  ·show ∃c,du.cells.lookup y=some c;have key:∀k,du.kindOf y=some k->(k= .cell\/k= .free)->∃c,du.cells.lookup y=some c:=λk hk je=>by
    unfold Env.kindOf at hk;rw[Ey]at hk;obtain ⟨k',e,r⟩:=Eu hk;have:k'= .cell\/k'= .free:=by
     rcases r with rfl|⟨rfl,_⟩
     ·exact je
     ·exact .inr rfl
    rcases this with rfl|rfl
    ·obtain ⟨c,hm⟩:=Es (n:=(s.heap.push {cls:= .type "dict",data:= .dict #[]}).objs.size) (acc:=eZ X.ah.cells scope.names []) (Zk e);obtain ⟨c',e'⟩:=Eo hm;exact ⟨c',by rw[fW];exact e'⟩
    ·obtain ⟨c,h1,_⟩:=look e;exact ⟨c,h1⟩
   rcases hy with hy|hy
   ·exact key _ hy (.inl rfl)
   ·exact key _ hy (.inr rfl)
  ·have z:(scope.names.lookup y==some NameKind.cell)=true:=z;have z:scope.names.lookup y=some .cell:=by simpa using z
   have e:du.cells.lookup y=some c:=e;rw[fW]at e;rcases ux (Zk e) with hm|⟨_,h2,_⟩
   ·rcases AF hm with hm|⟨h1,_⟩
    ·cases hm
    ·have q:=ok.tT _ h1;rw[z]at q;cases q
   ·rw[Heap.size_push]at h2;exact xB h2
  ·show b≠du.locals;rw[hL];exact xN (rj b hb).2
  ·have e:du.cells.lookup y=some c:=e;rcases mem e with ⟨h1,_⟩|⟨h1,_⟩
   ·exact (rj b hb).1.2.2.2.2.1 y c h1 z
   ·have h2:s.heap.objs.size+1<=b:=by rw[←z];exact h1
    exact absurd (xH (rj b hb).2 (xB h2)) (xF _)
  ·rcases (rj b hb).1.2.2.2.1 with z|z
   ·exact I.ok.t6 b o e z
   ·exact absurd (xH (Heap.lt_size e) (xE I.ok.kL z)) (xF _)
  ·rcases yT.mp (I.Dx b z) with z|z
   ·exact (rj b hb).1.2.1 z
   ·exact (rj b hb).1.2.2.1 z
 refine ⟨Y3,rfl,I.eL,Un.dX kp,⟨λ_a=>none,?_,λi y av e1 e2 e3=>?_⟩,λy c e=>?_,?_,λy c e=>?_,λp hp=>?_,I.aO.dX kp,by rw[Ew];exact I.len⟩
 ·show Heap.Ns _ du.locals _;rw[hL];exact Heap.Ns.keeps (Heap.Ns.new ..) λb o e=>pushCells_keeps _ _ _ _ e
 ·obtain ⟨e2,bQ⟩:=Ex e2;have j4:scope.names.lookup y=some .free/\(du.kindOf y=some .cell\/du.kindOf y=some .free):=by
   have key:∀k,du.scope.names.lookup y=some k->k= .local\/k= .cell\/k= .free->scope.names.lookup y=some .free/\(du.kindOf y=some .cell\/du.kindOf y=some .free):=λk hk je=>by
    have MN:=hk;rw[Ey]at hk;obtain ⟨k',e,r⟩:=Eu hk;have no:¬(k'= .local\/k'= .cell):=λhh=>by
     rcases ok.own _ (Zk e) hh with e'|e'
     ·obtain ⟨p,hp,Y4⟩:=List.mem_map.mp e';have e3:=ok.ix p hp;have:p.1=y:=Y4;rw[this]at e3;exact bQ (List.mem_map.mpr ⟨p,hp,Dy hN e3 e1⟩)
     ·exact e' (yY e1)
    rcases r with rfl|⟨rfl,rfl⟩
    ·rcases je with rfl|rfl|rfl
     ·exact absurd (.inl rfl) no
     ·exact absurd (.inr rfl) no
     ·exact ⟨e,.inr MN⟩
    ·exact ⟨e,.inl MN⟩
   have e3:qN du.scope y:=e3;rcases e3 with e3|e3|e3
   ·exact key _ e3 (.inl rfl)
   ·exact key _ e3 (.inr (.inl rfl))
   ·exact key _ e3 (.inr (.inr rfl))
  obtain ⟨m,hn,hl⟩:=I.fU;have Y5:qN X.ah.scope y:=(ok.free _ (Zk j4.1) rfl).elim (λk=> .inr (.inl k)) (λk=> .inr (.inr k));obtain ⟨w,r,q⟩:=hl i y av e1 e2 Y5;refine ⟨w,r,.inr ⟨j4.2,?_⟩⟩;obtain ⟨c,h1,h2⟩:=look j4.1;rcases q with ⟨k,_⟩|⟨_,c',e',z⟩
  ·have k:X.ah.scope.names.lookup y=some .local:=k;rcases ok.free _ (Zk j4.1) rfl with k'|k'<;>rw[show X.ah.scope.names.lookup y=_ from k']at k<;>cases k
  ·rw[h2]at e';cases e';exact ⟨c,h1,z.keeps kp⟩
 ·have e:du.cells.lookup y=some c:=e;rcases mem e with ⟨h1,_⟩|⟨_,z⟩
  ·obtain ⟨w,z⟩:=I.cell y c h1;exact ⟨w,z.keeps kp⟩
  ·exact ⟨_,z⟩
 ·show H du.locals=none;rw[hL];exact I.aO.fresh (xC _)
 ·have e:du.cells.lookup y=some c:=e;rcases mem e with ⟨h1,_⟩|⟨h1,_⟩
  ·exact I.iT y c h1
  ·exact I.aO.fresh (xB h1)
 ·exact absurd (show p∈([]:List (Addr×Obj))++ [] from hp) (by simp)
theorem Y6 {E:Value->Shared->Prop}{D:Addr}{xs:List V}{y:V}{v:Value}{Q:Value->Shared->Prop}(I:az X ae σ H s) (hD:H D=some (.lst xs)) (hz:xs.length<sizeLine) (r:bw y v)
  (h:∀s',az X ae σ (aj H D (.lst (xs++ [y]))) s'->Q .none s'):wpAny (model X.prog X.w) X.A (call (.builtin "list.append") [.ref D,v]) Q E s:=by
 obtain ⟨hz',ay,n,ri,e⟩:=I.aO D _ hD;have hl:=ri.length;refine append_at (hsz:=by rw[xl];omega) e λh' sb iD=>?_
 refine h {s with heap:=h'} (I.kK (t':=s.toks) (by rw[hD];trivial) (.inl rfl) (λb u hb q=>(sb.2 b hb).trans q) ⟨_,iD⟩ ⟨by rw[yt];exact hz,ay++ [v],n+1,ri.append (.cons r .nil),?_⟩);rw[iD];simp
noncomputable def pA (X:Cx) (d6:List Expr) (t:TT):Prop:=
 ∀(ae:List (Addr×Obj)) (s:Shared) (σ:St) (H:Hp) (Q:Bool->Hp->Prop),az X ae σ H s->t σ H Q->
  wpAny (model X.prog X.w) X.A (forIn d6 true λc r=>if r=true then do let ok ←isTrue c X.ah (eval c X.ah);pure (ForInStep.yield ok) else pure (ForInStep.yield r)) (TP X ae σ Q) X.xe s
noncomputable def MO:TT:=λ_a H Q=>Q true H
theorem jv:pA X [] MO:=λ_a _a _a H _a I h=>wpAny_tests_nil ⟨H,I,h⟩
theorem nM {c:Expr}{t:TT}(h:PT X c t):pA X [c] t:=λae s σ H Q I hw=>wpAny_tests_one (h ae s σ H Q I hw)
end
theorem rk {α:Type}{t:Sem α}{Q Q':α->Shared->Prop}{M:Model}{A:Around}{E:Value->Shared->Prop}{s:Shared}(h:wpAny M A t Q (λ_a _a=>False) s) (hQ:∀a s,Q a s->Q' a s):wpAny M A t Q' E s:=wpAny_mono h hQ λ_a _a z=>False.elim z
theorem Y7 {prog:Program}{w:World}{A:Around}{R:Result->Shared->Prop}{s:Shared}{ez target iter:Expr}{d6:List Expr}{scope:Scope}{pos:Pos}{it acc:Value}{ah:Env}(I:Nat->Shared->Prop)
  (turn:∀n s,I n s->wpAny (model prog w) A (pyNext it) (λr bB=>match r with
   |none=>R (.ok .next) bB
   |some v=>wpAny (model prog w) A (letOwnedTupleGo target it v) (λ_a MP=>wpAny (model prog w) A (assign target ah v) (λ_a eM=>
     wpAny (model prog w) A (forIn d6 true λc r=>if r=true then do let ok ←isTrue c ah (eval c ah);pure (ForInStep.yield ok) else pure (ForInStep.yield r)) (λok nh=>
      if ok=true then wpAny (model prog w) A (eval ez ah) (λx MQ=>
       wpAny (model prog w) A (call (.builtin "list.append") [acc,x]) (λ_a MR=>∃m,m<n/\I m MR) (notedBy (model prog w) A ah λe s'=>R (.error e) s') MQ) (notedBy (model prog w) A ah λe s'=>R (.error e) s') nh
      else ∃m,m<n/\I m nh) (notedBy (model prog w) A ah λe s'=>R (.error e) s') eM) (notedBy (model prog w) A ah λe s'=>R (.error e) s') MP) (notedBy (model prog w) A ah λe s'=>R (.error e) s') bB) (notedBy (model prog w) A ah λe s'=>R (.error e) s') s)
  (n:Nat) (h:I n s):
  codeAny (model prog w) A (.compLoop (.ListComp ez [⟨target,iter,d6,0⟩] scope pos) 0 it acc ah) R s:=by
 refine codeAny_loop rfl I (λn s hI=>?_) n h;show wpAny _ A ((compTurn (.ListComp ez [⟨target,iter,d6,0⟩] scope pos) 0 it acc ah).onRaise (λx=>do noteFrame x ah;theTreesLotGoes x)) _ _ s;refine wpAny_noted ?_;rw[compTurn_list];refine wpAny_bind (wpAny_standAt (wpAny_bind (wpAny_mono (turn n s hI) (λr bB rn=>?_) λ_a _a h'=>h')));cases r with
 |none=>exact wpAny_pure rn
 |some v=>
  refine wpAny_bind (wpAny_mono rn (λ_a MP Y8=>?_) λ_a _a h'=>h');refine wpAny_bind (wpAny_mono Y8 (λ_a eM uB=>wpAny_bind (wpAny_mono uB (λok nh AH=>?_) λ_a _a h'=>h')) λ_a _a h'=>h');cases ok with
  |false=>exact wpAny_pure ⟨rfl,AH⟩
  |true=>exact wpAny_bind (wpAny_bind (wpAny_mono AH (λx MQ Y9=>wpAny_bind (wpAny_mono Y9 (λ_a MR ZG=>wpAny_pure (wpAny_pure ⟨rfl,ZG⟩)) λ_a _a h'=>h')) λ_a _a h'=>h'))
section
variable {X:Cx}
noncomputable def rp (wi:TI) (g:TG) (tt:TT) (te:TE) (vs:List Nat):TE:=λσ H Q=>wi σ H λJ H1=>∀D,H1 D=none->∃W:Nat->Nat->Hp->Prop,(∃m,W 0 m (aj H1 D (.lst [])))/\∀i m H,W i m H->
 (J.stop i H/\Q (.ref D) H)\/(J.go i H/\∃Nx:Hp->Prop,(∀H',Nx H'->∃m',m'<m/\W (i+1) m' H')/\∀x H',J.iU i H x H'->g x (cg σ vs) H' λbM H2=>cg bM vs=cg σ vs/\tt bM H2 λb H3=>
  if b=true then te bM H3 λy H4=>∃acc,H4 D=some (.lst acc)/\acc.length<sizeLine/\Nx (aj H4 D (.lst (acc++ [y]))) else Nx H3)
theorem MS {ae:List (Addr×Obj)}{s:Shared}{σ:St}{H:Hp}{Q:VK}{ez tg iter:Expr}{d6:List Expr}{scope:Scope}{own:List (Str×Nat)}{pos gj:Pos}{wi:TI}{g:TG}{tt:TT}{te:TE}{use:Option (Value->Sem Unit)}{Qf:Value->Shared->Prop}
  (hc:X.eD=true) (hN:X.N.Nodup) (I:az X ae σ H s) (hi:PI X tg iter wi) (ok:uz X.N X.ah.scope scope own)
  (hg:∀(s:Shared) (H:Hp) (C:Addr) (cl:List (Str×Addr)) (fp:List Addr),PG (X.d5 s H scope (compEnvC scope cl C X.ah) fp) tg g) (ht:∀(s:Shared) (H:Hp) (C:Addr) (cl:List (Str×Addr)) (fp:List Addr),pA (X.d5 s H scope (compEnvC scope cl C X.ah) fp) d6 tt)
  (he:∀(s:Shared) (H:Hp) (C:Addr) (cl:List (Str×Addr)) (fp:List Addr),PE (X.d5 s H scope (compEnvC scope cl C X.ah) fp) ez te) (hs:∀x,foldedSetIterable iter X.ah x=pure x)
  (h:rp wi g tt te (own.map (·.2)) σ H Q)
  (ZH:∀D C s' m H',az X ae σ H' s'->Q (.ref D) H'->s'.heap.Ns C m->kQ X ae H' C->compPost (model X.prog X.w) X.A X.xe use Qf (.ref D) C (.ok .next) s'):
  wpAny (model X.prog X.w) X.A (comprehension (.ListComp ez [⟨tg,iter,d6,0⟩] scope pos) scope X.ah gj (newList []) false (eval iter X.ah) use) Qf X.xe s:=by
 have qO:∀y∈scope.names,y.2= .free->∃c,X.ah.cells.lookup y.1=some c:=λy hy e=>by
  rcases ok.free y hy e with k|k
  ·exact I.ok.has _ (.inl k)
  ·exact I.ok.has _ (.inr k)
 refine wpAny_comprehension_free (use:=use) rfl hs (Y0 qO) ok.kind (λy hy e=>by rw[ok.tT y hy,e])
  (aY (hi ae s σ H _ I h) λxv s1 hx=>aY hx λDL s2 h2=>?_)
 obtain ⟨it,fp,tn,J,H2,e,I2,T,qS,f2,q⟩:=h2;subst e;refine wpAny_newObj_type (Y1 ?_) (by show 0<=sizeLine;decide);generalize hD:s2.heap.objs.size=D;have ZI:H2 D=none:=I2.aO.fresh (xy hD);obtain ⟨W,⟨m0,w0⟩,turn⟩:=q D ZI;generalize MT:({s2 with heap:=s2.heap.push {cls:= .type "list",data:= .seq ([]:List Value).toArray}}:Shared)=s3;have I3:az X ae σ (aj H2 D (.lst [])) s3:=by rw[←MT];refine I2.fS (t':=s2.toks) (λb o e=>Heap.get?_push_of_some _ e) (xy hD) ⟨xQ _,[],0,.nil,?_⟩;rw[←hD];exact Heap.get?_push_size _ rfl
 have h3:s3.heap=s2.heap.push {cls:= .type "list",data:= .seq ([]:List Value).toArray}:=by rw[←MT]
 have sz:∀b∈fp,b<s2.heap.objs.size:=λb hb=>by obtain ⟨o,e,_⟩:=T.obj _ _ qS b hb;exact Heap.lt_size e
 have f3:∀b∈fp,kQ X ae (aj H2 D (.lst [])) b/\b<s3.heap.objs.size:=λb hb=>by have cC:=sz b hb;refine ⟨⟨?_,(f2 b hb).2⟩,by rw[h3,Heap.size_push];exact xI cC⟩;rw[aA (by rw[←hD];exact xN cC)];exact (f2 b hb).1
 have Au:tn 0 s3.heap:=T.keep _ _ _ qS λb _a o e=>by rw[h3];exact Heap.get?_push_of_some _ e
 have I4:=Y2 I3 ok hN f3;have pg:=hg s3 (aj H2 D (.lst [])) s3.heap.objs.size (cellsFrom (s3.heap.objs.size+1) scope.names (eZ X.ah.cells scope.names [])) fp;have pt:=ht s3 (aj H2 D (.lst [])) s3.heap.objs.size (cellsFrom (s3.heap.objs.size+1) scope.names (eZ X.ah.cells scope.names [])) fp;have pe:=he s3 (aj H2 D (.lst [])) s3.heap.objs.size (cellsFrom (s3.heap.objs.size+1) scope.names (eZ X.ah.cells scope.names [])) fp;show codeAny _ _ (.compStart (.ListComp ez [⟨tg,iter,d6,0⟩] scope pos) 0 (.ref it) (.ref D) (compEnvC scope (cellsFrom (s3.heap.objs.size+1) scope.names (eZ X.ah.cells scope.names [])) s3.heap.objs.size X.ah)) (compPost (model X.prog X.w) X.A X.xe use Qf (.ref D) s3.heap.objs.size) {s3 with heap:=pushCells (s3.heap.push {cls:= .type "dict",data:= .dict #[]}) scope.names};have MU:∀b∈fp,(aj H2 D (.lst [])) b=none:=λb hb=>(f3 b hb).1.1
 generalize ZJ:compEnvC scope (cellsFrom (s3.heap.objs.size+1) scope.names (eZ X.ah.cells scope.names [])) s3.heap.objs.size X.ah=ce at I4 pg pt pe⊢;have cL:ce.locals=s3.heap.objs.size:=by subst ZJ;rfl
 generalize hH3:aj H2 D (.lst [])=H3 at I3 I4 pg pt pe w0 MU f3;generalize ZK:({s3 with heap:=pushCells (s3.heap.push {cls:= .type "dict",data:= .dict #[]}) scope.names}:Shared)=s4 at I4⊢;have MV:tn 0 s4.heap:=T.keep _ _ _ Au λb _a o e=>by rw[←ZK];exact pushCells_keeps _ _ _ _ (Heap.get?_push_of_some _ e)
 have o8:∀{bu:St}{H':Hp}{s':Shared},az (X.d5 s3 H3 scope ce fp) [] bu H' s'->(∀b∈fp,H' b=none)->∀b∈fp,kQ (X.d5 s3 H3 scope ce fp) [] H' b:=fun {bu H' s'} I' hn b hb=>
  ⟨hn b hb,(I'.ok.Ah b hb).1,I'.ok.t7 b hb,.inl hb,λx c e=>(I'.ok.Ah b hb).2 x c e,λp hp=>absurd (show p∈([]:List (Addr×Obj))++ [] from hp) (by simp)⟩
 have MW:codeAny (model X.prog X.w) X.A (.compLoop (.ListComp ez [⟨tg,iter,d6,0⟩] scope pos) 0 (.ref it) (.ref D) ce) (compPost (model X.prog X.w) X.A X.xe use Qf (.ref D) s3.heap.objs.size) s4:=by
  refine Y7 (λn s'=>∃i H',az (X.d5 s3 H3 scope ce fp) [] (cg σ (own.map (·.2))) H' s'/\tn i s'.heap/\(∀b∈fp,H' b=none)/\W i n H') ?_ m0 ⟨0,H3,I4,MV,MU,w0⟩;rintro n s5 ⟨i,H5,I5,qT,n5,w5⟩;rcases turn i n H5 w5 with ⟨stop,qq⟩|⟨go,Nx,ZL,step⟩
  ·have td:=T.done (X.d5 s3 H3 scope ce fp) rfl rfl rfl hc i [] s5 _ H5 (λ_a _a=>False) I5 (o8 I5 n5) qT stop;refine rk td λr s6 ⟨hr,I6⟩=>?_
   subst hr;have I7:az X ae σ H5 s6:=I3.WG (ch:=fp) I6.os I6.base I6.aO I6.eL λb hb=>⟨(f3 b hb).1.2.2.2.1,(f3 b hb).1.2.1,(f3 b hb).1.2.2.2.2.1,(f3 b hb).1.2.2.2.2.2⟩
   have nC:H5 s3.heap.objs.size=none:=by have z:H5 ce.locals=none:=I6.free;rw[cL]at z;exact z
   obtain ⟨m,hn,_⟩:=I6.fU;have hn:s6.heap.Ns ce.locals m:=hn;rw[cL]at hn;exact ZH D s3.heap.objs.size s6 m H5 I7 qq hn (I3.ue (xC _) nC)
  ·have ti:=T.item (X.d5 s3 H3 scope ce fp) rfl rfl rfl hc i [] s5 _ H5 (λ_a _a=>False) I5 (o8 I5 n5) qT go;refine rk ti λr s6 ⟨u,hr,h6⟩=>?_
   subst hr;refine rk h6 λ_a s7 ⟨x,H7,I7,r7,y7,Ez,n7⟩=>?_
   have ZM:=I7.LR (o8 I7 n7) (T.obj _ _ Ez);refine rk (pg _ s7 _ H7 x u _ ZM r7 (step x H7 y7)) λ_a s8 ⟨AI,H8,I8,MX,q8⟩=>?_
   refine rk (pt _ s8 AI H8 _ I8 q8) λb s9 ⟨H9,I9,q9⟩=>?_
   have fin:∀{s':Shared}{H':Hp},az (X.d5 s3 H3 scope ce fp) ([]++ug fp s7.heap) AI H' s'->Nx H'->∃m,m<n/\∃i H',az (X.d5 s3 H3 scope ce fp) [] (cg σ (own.map (·.2))) H' s'/\tn i s'.heap/\(∀b∈fp,H' b=none)/\W i m H':=fun {s' H'} I' nx=>by
    obtain ⟨m',hm,w'⟩:=ZL H' nx;have MY:∀b∈fp,∀o,s7.heap.get? b=some o->s'.heap.get? b=some o/\H' b=none:=λb hb o e=>
     let z:=I'.iC (b,o) (yS _ (yS _ (DN hb e)))
     ⟨z.1,z.2.1⟩
    have hl:(cg σ (own.map (·.2))).length=AI.length:=by rw[←MX,Ew]
    refine ⟨m',hm,i+1,H',(I'.As (ae:= [])).WB hl (λj v e=>?_),T.keep _ _ _ Ez λb hb o e=>(MY b hb o e).1,λb hb=>?_,w'⟩
    ·rw[←MX]at e;exact (Ex e).1
    ·obtain ⟨o,e,_⟩:=T.obj _ _ Ez b hb;exact (MY b hb o e).2
   cases b with
   |false=>simp only[zh,Zv]at q9⊢;exact fin I9 q9
   |true=>
    simp only[Zy]at q9⊢;refine rk (pe _ s9 AI H9 _ I9 q9) λz jw ⟨yv,MZ,ZN,ZO,acc,ZP,ZQ,nx⟩=>?_
    exact Y6 (X:=X.d5 s3 H3 scope ce fp) ZN ZP ZQ ZO λuC ZR=>fin ZR nx
 exact codeAny_compStart_list MW (T.self X.A 0 _ _ _ MV MW)
theorem ZS {ez tg iter:Expr}{d6:List Expr}{scope:Scope}{own:List (Str×Nat)}{pos:Pos}{wi:TI}{g:TG}{tt:TT}{te:TE}(hc:X.eD=true) (hN:X.N.Nodup) (hi:PI X tg iter wi) (ok:uz X.N X.ah.scope scope own)
  (hg:∀(s:Shared) (H:Hp) (C:Addr) (cl:List (Str×Addr)) (fp:List Addr),PG (X.d5 s H scope (compEnvC scope cl C X.ah) fp) tg g) (ht:∀(s:Shared) (H:Hp) (C:Addr) (cl:List (Str×Addr)) (fp:List Addr),pA (X.d5 s H scope (compEnvC scope cl C X.ah) fp) d6 tt)
  (he:∀(s:Shared) (H:Hp) (C:Addr) (cl:List (Str×Addr)) (fp:List Addr),PE (X.d5 s H scope (compEnvC scope cl C X.ah) fp) ez te) (hs:∀x,foldedSetIterable iter X.ah x=pure x:=by intro _;rfl):
  PE X (.ListComp ez [⟨tg,iter,d6,0⟩] scope pos) (rp wi g tt te (own.map (·.2))):=by
 intro ae s σ H Q I h;rw[eval_ListComp];refine MS hc hN I hi ok hg ht he hs h λD C s' m H' I' q hn f=>⟨m,hn,λqF sb=>?_⟩
 obtain ⟨f0,f1,f2,f3,f4,f5⟩:=f;exact ⟨.ref D,H',I'.gh (t':=s'.toks) (λb o hb e=>(sb.2 b hb).trans e) f0 f1 f3 f4 f5,rfl,q⟩
theorem ZT {i:Nat}{y:Str}{py:Pos}{ez tg iter:Expr}{d6:List Expr}{scope:Scope}{own:List (Str×Nat)}{pos AJ:Pos}{wi:TI}{g:TG}{tt:TT}{te:TE}(hc:X.eD=true) (hN:X.N.Nodup) (hy:X.N[i]? =some y) (uD:X.ah.scope.names.lookup y=some .local)
  (ZU:swapsWith (.ListComp ez [⟨tg,iter,d6,0⟩] scope pos) (some (.Name y py)) AJ.line X.ah=pure true) (hi:PI X tg iter wi) (ok:uz X.N X.ah.scope scope own)
  (hg:∀(s:Shared) (H:Hp) (C:Addr) (cl:List (Str×Addr)) (fp:List Addr),PG (X.d5 s H scope (compEnvC scope cl C X.ah) fp) tg g) (ht:∀(s:Shared) (H:Hp) (C:Addr) (cl:List (Str×Addr)) (fp:List Addr),pA (X.d5 s H scope (compEnvC scope cl C X.ah) fp) d6 tt)
  (he:∀(s:Shared) (H:Hp) (C:Addr) (cl:List (Str×Addr)) (fp:List Addr),PE (X.d5 s H scope (compEnvC scope cl C X.ah) fp) ez te) (hs:∀x,foldedSetIterable iter X.ah x=pure x:=by intro _;rfl):
  PS X (.Assign [.Name y py] (.ListComp ez [⟨tg,iter,d6,0⟩] scope pos) AJ) (ub (rp wi g tt te (own.map (·.2))) (lS i)):=by
 intro ae s σ H D I h;rw[exec_Assign_Name_used _ _ _ _ ZU];refine wpAny_bind (wpAny_standAt (wpAny_bind ?_));show wpAny _ X.A (do let _ ←comprehension (.ListComp ez [⟨tg,iter,d6,0⟩] scope pos) scope X.ah (firstIterPos [⟨tg,iter,d6,0⟩] pos) (newList []) false (eval iter X.ah) (some (assign (.Name y py) X.ah))) _ _ s;have h:rp wi g tt te (own.map (·.2)) σ H (λx H1=>lS i x σ H1 D.nx):=h;refine wpAny_bind (aY (MS (Qf:=λ_a s'=>SP X ae D .next s') hc hN I hi ok hg ht he hs h λL C s' m H' I' q hn f=>?_) λ_a s' hq=>wpAny_pure (wpAny_pure hq));show wpAny _ _ (assign (.Name y py) X.ah (.ref L)) _ _ _;refine wpAny_assign_Name (LB (v:=V.ref L) I' hN hy (.inl uD) rfl (λs2 I2 ⟨a,sb,ha⟩=>?_) (.inr uD));obtain ⟨f0,f1,f2,f3,f4,f5⟩:=f;have ZV:C≠a:=by
  rcases ha with z|z
  ·rw[z];exact f1
  ·exact λe=>f4 y a z e.symm
 refine ⟨m,hn.sameBut sb ZV,λh3 ZW=>?_⟩;exact ⟨_,H',I2.gh (t':=s2.toks) (λb o hb e=>(ZW.2 b hb).trans e) f0 f1 f3 f4 f5,q⟩
theorem ZX {ez:Expr}{gs:List Comprehension}{scope:Scope}{pos py:Pos}{y:Str}{l:Nat}{ah:Env}(hk:ah.scope.kind= .function) (hy:ah.scope.names.lookup y=some .local) (hl:(py.line==pos.line)=true)
  (ha:(scope.names.any λ(n,k)=>n==y&&(k== .local||k== .cell))=false):swapsWith (.ListComp ez gs scope pos) (some (.Name y py)) l ah=pure true:=by
 have ky:ah.kindOf y=some .local:=hy;have hb:ah.blockKind= .function:=by unfold Env.blockKind;rw[hk];rfl
 unfold swapsWith;simp only[hb,ky,ha,Expr.pos,hl];rfl
end
theorem EA {lo:Int}{n:Nat}{g:TG}{tt:TT}{te:TE}{vs:List Nat}{σ:St}{H1:Hp}{D:Addr}{Qd:Hp->Prop}(Pv:Nat->Hp->Prop) (h0:Pv 0 (aj H1 D (.lst [])))
  (hs:∀i H,i<n->Pv i H->g (.int (lo+i)) (cg σ vs) H λbM H2=>cg bM vs=cg σ vs/\tt bM H2 λb H3=>
   if b=true then te bM H3 λy H4=>∃acc,H4 D=some (.lst acc)/\acc.length<sizeLine/\Pv (i+1) (aj H4 D (.lst (acc++ [y]))) else Pv (i+1) H3) (hd:∀H,Pv n H->Qd H):
  ∃W:Nat->Nat->Hp->Prop,(∃m,W 0 m (aj H1 D (.lst [])))/\∀i m H,W i m H->
   ((kR lo n).stop i H/\Qd H)\/((kR lo n).go i H/\∃Nx:Hp->Prop,(∀H',Nx H'->∃m',m'<m/\W (i+1) m' H')/\∀x H',(kR lo n).iU i H x H'->g x (cg σ vs) H' λbM H2=>cg bM vs=cg σ vs/\tt bM H2 λb H3=>
    if b=true then te bM H3 λy H4=>∃acc,H4 D=some (.lst acc)/\acc.length<sizeLine/\Nx (aj H4 D (.lst (acc++ [y]))) else Nx H3):=by
 refine ⟨λi m H=>m=n - i/\i<=n/\Pv i H,⟨n,by simp,xQ _,h0⟩,?_⟩;rintro i m H ⟨rfl,hi,p⟩;by_cases cC:i<n
 ·refine .inr ⟨cC,Pv (i+1),λH' p'=>⟨n - (i+1),by omega,rfl,cC,p'⟩,λx H' y=>?_⟩;obtain ⟨e,y⟩:=y;subst e y;exact hs i _ cC p
 ·have e:i=n:=by omega
  subst e;exact .inl ⟨xC _,hd H p⟩
theorem jx {K:PySem.W.Frag}{a:Addr}{xs:List V}{g:TG}{tt:TT}{te:TE}{vs:List Nat}{σ:St}{H1:Hp}{D:Addr}{Qd:Hp->Prop}(Pv:Nat->Hp->Prop) (h0:Pv 0 (aj H1 D (.lst []))) (hl:∀i H,i<=xs.length->Pv i H->ag K H a xs)
  (hs:∀i x H,xs[i]? =some x->Pv i H->g x (cg σ vs) H λbM H2=>cg bM vs=cg σ vs/\tt bM H2 λb H3=>
   if b=true then te bM H3 λy H4=>∃acc,H4 D=some (.lst acc)/\acc.length<sizeLine/\Pv (i+1) (aj H4 D (.lst (acc++ [y]))) else Pv (i+1) H3) (hd:∀H,Pv xs.length H->Qd H):
  ∃W:Nat->Nat->Hp->Prop,(∃m,W 0 m (aj H1 D (.lst [])))/\∀i m H,W i m H->
   ((jZ K a).stop i H/\Qd H)\/((jZ K a).go i H/\∃Nx:Hp->Prop,(∀H',Nx H'->∃m',m'<m/\W (i+1) m' H')/\∀x H',(jZ K a).iU i H x H'->g x (cg σ vs) H' λbM H2=>cg bM vs=cg σ vs/\tt bM H2 λb H3=>
    if b=true then te bM H3 λy H4=>∃acc,H4 D=some (.lst acc)/\acc.length<sizeLine/\Nx (aj H4 D (.lst (acc++ [y]))) else Nx H3):=by
 refine ⟨λi m H=>m=xs.length - i/\i<=xs.length/\Pv i H,⟨xs.length,by simp,xQ _,h0⟩,?_⟩;rintro i m H ⟨rfl,hi,p⟩;have q:=hl i H hi p;by_cases cC:i<xs.length
 ·refine .inr ⟨⟨xs,xs[i],q,by simp[cC]⟩,Pv (i+1),λH' p'=>⟨xs.length - (i+1),by omega,rfl,cC,p'⟩,λx H' y=>?_⟩;obtain ⟨e,y⟩:=y;subst e;exact hs i x _ (y xs q) p
 ·have e:i=xs.length:=by omega
  subst e;exact .inl ⟨⟨xs,q,xC _⟩,hd H p⟩
noncomputable def AK (N:List Str) (sc scope:Scope) (own:List (Str×Nat)):Bool:=
 (match scope.kind with| .function=>true|_=>false)&&(scope.names.all λy=>decide (scope.names.lookup y.1=some y.2))&&(own.all λp=>decide (N[p.2]? =some p.1))&&
  (scope.names.all λy=>match y.2 with
   | .free=>(match sc.names.lookup y.1 with|some .cell=>true|some .free=>true|_=>false)
   | .local=>decide (y.1∈own.map (·.1))||decide (y.1∉N)
   | .cell=>decide (y.1∈own.map (·.1))||decide (y.1∉N)
   |_=>true)
theorem M0 {N:List Str}{sc scope:Scope}{own:List (Str×Nat)}(h:AK N sc scope own=true):uz N sc scope own:=by
 unfold AK at h;simp only[za,zx,Zt]at h;obtain ⟨⟨⟨h1,h2⟩,h3⟩,h4⟩:=h;refine ⟨?_,h2,h3,λy hy e=>?_,λy hy e=>?_⟩
 ·split at h1
  ·assumption
  ·cases h1
 ·have q:=h4 y hy;simp only[e]at q;split at q<;>first|exact .inl (by assumption)|exact .inr (by assumption)|cases q
 ·have q:=h4 y hy;rcases e with e|e<;>(simp only[e,Bool.or_eq_true,Zt]at q;exact q)
section
variable {κ:Type} [DecidableEq κ]
noncomputable def cn (af:List (κ×V)) (k:κ):Option V:=(af.find? λkv=>decide (kv.1=k)).map (·.2)
noncomputable def dC (af:List (κ×V)) (k:κ) (v:V):List (κ×V):=
 if (af.any λkv=>decide (kv.1=k))=true then af.map (λkv=>if kv.1=k then (kv.1,v) else kv) else af++ [(k,v)]
theorem EB {p:κ×V}{r:List (κ×V)}{k:κ}(e:p.1=k):cn (p::r) k=some p.2:=by simp[cn,zX,e]
theorem EC {p:κ×V}{r:List (κ×V)}{k:κ}(e:¬p.1=k):cn (p::r) k=cn r k:=by simp[cn,zX,e]
theorem ED (k:κ):∀af:List (κ×V),(af.any λkv=>decide (kv.1=k))=(cn af k).isSome
 | []=>rfl
 |p::r=>by
  rw[zz];by_cases e:p.1=k
  ·simp only[EB e,Zs e,Bool.true_or,Option.isSome_some]
  ·rw[EC e,Zq e,zj];exact ED k r
theorem M1 (af:List (κ×V)) (k:κ) (v:V):(dC af k v).length<=af.length+1:=by
 unfold dC;split
 ·rw[yA];omega
 ·rw[yt,yu,yB];omega
theorem ZY {af:List (κ×V)}{k:κ}(v:V) (h:cn af k=none):dC af k v=af++ [(k,v)]:=by unfold dC;rw[ED,h];exact Zw ZE
theorem g8.EE {o:Option V}{u:Option Value}(r:g8 o u):o.isSome=u.isSome:=by
 cases o with
 |none=>cases u with
  |none=>rfl
  |some _=>exact (show False from r).elim
 |some _=>cases u with
  |none=>exact (show False from r).elim
  |some _=>rfl
theorem g8.getD {o:Option V}{u:Option Value}{d:V}{d':Value}(r:g8 o u) (rd:bw d d'):bw (o.getD d) (u.getD d'):=by
 cases o with
 |none=>cases u with
  |none=>exact rd
  |some _=>exact (show False from r).elim
 |some _=>cases u with
  |none=>exact (show False from r).elim
  |some _=>exact r
theorem KV.val {af:List (κ×V)}{vs:List (κ×Value)}(r:KV af vs) (k:κ):g8 (cn af k) (valueAt vs k):=by
 unfold KV at r;induction r with
 |nil=>exact True.intro
 | @cons p q ps qs h t ih=>
  obtain ⟨h1,h2⟩:=h;by_cases e:p.1=k
  ·have e':q.1=k:=h1.symm.trans e;have b:valueAt (q::qs) k=some q.2:=by simp[valueAt,zX,e']
   rw[EB e,b];exact h2
  ·have e':¬q.1=k:=λz=>e (h1.trans z)
   have b:valueAt (q::qs) k=valueAt qs k:=by simp[valueAt,zX,e']
   rw[EC e,b];exact ih
theorem KV.any {af:List (κ×V)}{vs:List (κ×Value)}(r:KV af vs) (k:κ):(af.any λkv=>decide (kv.1=k))=vs.any λkv=>decide (kv.1=k):=by
 unfold KV at r;induction r with
 |nil=>rfl
 |cons h t ih=>rw[zz,zz,ih,h.1]
theorem KV.EF {af:List (κ×V)}{vs:List (κ×Value)}(r:KV af vs) (k:κ) {y:V}{u:Value}(ry:bw y u):
  KV (af.map λkv=>if kv.1=k then (kv.1,y) else kv) (vs.map λkv=>if kv.1=k then (kv.1,u) else kv):=by
 unfold KV at r⊢;induction r with
 |nil=>exact .nil
 | @cons p q ps qs h t ih=>
  rw[yJ,yJ];refine .cons ?_ ih;obtain ⟨h1,h2⟩:=h;by_cases e:p.1=k
  ·rw[Zx e,Zx (h1.symm.trans e)];exact ⟨h1,ry⟩
  ·rw[Zw e,Zw (λz=>e (h1.trans z))];exact ⟨h1,h2⟩
theorem KV.gE {af:List (κ×V)}{vs:List (κ×Value)}(r:KV af vs) (k:κ) {y:V}{u:Value}(ry:bw y u):KV (dC af k y) (stored vs k u):=by
 unfold dC stored;rw[r.any k];by_cases e:(vs.any λkv=>decide (kv.1=k))=true
 ·rw[Zx e,Zx e];exact r.EF k ry
 ·rw[Zw e,Zw e];exact Paired.snoc r ⟨rfl,ry⟩
theorem KV.length {af:List (κ×V)}{vs:List (κ×Value)}(r:KV af vs):af.length=vs.length:=Paired.length r
end
theorem uE {P:Program}{w:World}{k:bp}{u:Value}(r:bw (kV k) u):(gI P w).is k u=true:=by
 cases k with
 |inl i=>obtain ⟨t,e⟩:=(show ∃t,u=Value.int i t from r);subst e;exact Wr P w i t
 |inr x=>obtain ⟨t,e⟩:=(show ∃t,u=Value.str x t from r);subst e;exact Ws P w x t
theorem M3 {P:Program}{w:World}:∀{ks:List bp}{us:List Value},aV (ks.map kV) us->ItemsAre (gI P w) ks us
 | [],_,r=>by rw[yO]at r;cases r;exact .nil
 |k::ks,_,r=>by
  rw[yJ]at r;cases r with
  |cons h t=>exact .cons (uE h) (M3 t)
noncomputable abbrev KT (H:Hp):List (List bp×V)->List (List bp×Addr×Value)->Prop:=Paired λp q=>p.1=q.1/\H q.2.1=some (.bP (p.1.map kV))/\bw p.2 q.2.2
theorem KT.val {H:Hp}{af:List (List bp×V)}{xs:List (List bp×Addr×Value)}(r:KT H af xs) (k:List bp):g8 (cn af k) ((atKey xs k).map (·.2)):=by
 induction r with
 |nil=>exact True.intro
 | @cons p q ps qs h t ih=>
  obtain ⟨h1,_,h2⟩:=h;by_cases e:p.1=k
  ·have e':q.1=k:=h1.symm.trans e;have b:atKey (q::qs) k=some q.2:=by simp[atKey,zX,e']
   rw[EB e,b];exact h2
  ·have e':¬q.1=k:=λz=>e (h1.trans z)
   have b:atKey (q::qs) k=atKey qs k:=by simp[atKey,zX,e']
   rw[EC e,b];exact ih
theorem KT.EF {H:Hp}{af:List (List bp×V)}{xs:List (List bp×Addr×Value)}(r:KT H af xs) (k:List bp) {y:V}{u:Value}(ry:bw y u):
  KT H (af.map λkv=>if kv.1=k then (kv.1,y) else kv) (xs.map (putAt k u)):=by
 induction r with
 |nil=>exact .nil
 | @cons p q ps qs h t ih=>
  rw[yJ,yJ];refine .cons ?_ ih;obtain ⟨h1,h2,h3⟩:=h;unfold putAt;by_cases e:p.1=k
  ·rw[Zx e,Zx (h1.symm.trans e)];exact ⟨h1,h2,ry⟩
  ·rw[Zw e,Zw (λz=>e (h1.trans z))];exact ⟨h1,h2,h3⟩
theorem KT.gE {H:Hp}{af:List (List bp×V)}{xs:List (List bp×Addr×Value)}(r:KT H af xs) (k:List bp) {b:Addr}{y:V}{u:Value}(hb:H b=some (.bP (k.map kV))) (ry:bw y u):
  KT H (dC af k y) (storedH xs k b u):=by
 have e:(af.any λkv=>decide (kv.1=k))=(atKey xs k).isSome:=by rw[ED,(r.val k).EE,Option.isSome_map]
 unfold dC storedH;rw[e];by_cases q:(atKey xs k).isSome=true
 ·rw[Zx q,Zx q];exact r.EF k ry
 ·rw[Zw q,Zw q];exact Paired.snoc r ⟨rfl,hb,ry⟩
theorem KT.keeps {H H':Hp}{af:List (List bp×V)}{xs:List (List bp×Addr×Value)}(r:KT H af xs) (ht:∀b ys,H b=some (.bP ys)->H' b=some (.bP ys)):KT H' af xs:=
 Paired.Du r λ_a _a z=>⟨z.1,ht _ _ z.2.1,z.2.2⟩
section
variable {P:Program}{w:World}{H:Hp}{h:Heap}{a:Addr}
theorem M4 {u:HO}(ok:cS P w H h) (e:Rd H a u):dM P w H h a u:=e.ok ok
theorem rq {af:List (bp×V)}(ok:cS P w H h) (e:Rd H a (.dK af)):af.length<=sizeLine/\(a==sysModules)=false/\∃vs,KV af vs/\h.DictOf (gI P w) a vs:=
 show dM P w H h a (.dK af) from M4 ok e
theorem ZZ {af:List (bp×V)}(ok:cS P w H h) (e:H a=some (.dK af)):af.length<=sizeLine/\(a==sysModules)=false/\∃vs,KV af vs/\h.DictOf (gI P w) a vs:=rq ok (.inl e)
theorem uF {ks:List bp}(ok:cS P w H h) (e:H a=some (.bP (ks.map kV))):(tupleKind (gI P w)).is h ks a:=by obtain ⟨_,ay,r,o,h1,h2,n,h3⟩:=(show dM P w H h a (.bP (ks.map kV)) from ok a _ e);exact ⟨o,ay.toArray,n,h1,h2,h3,by simpa using M3 r⟩
theorem pB {af:List (List bp×V)}(ok:cS P w H h) (e:Rd H a (.dT af)):af.length<=sizeLine/\(a==sysModules)=false/\
  ∃xs,KT H af xs/\h.DictOfH (tupleKind (gI P w)) a xs:=by
 obtain ⟨z,y,xs,r,o,es,ep,h1,h2,h3,h4,h5⟩:=(show dM P w H h a (.dT af) from M4 ok e);refine ⟨z,y,xs,r,o,es,ep,h1,h2,h3,h4,λx hx=>?_,h5⟩;have all:∀{l:List (List bp×V)}{m:List (List bp×Addr×Value)},KT H l m->∀x∈m,(tupleKind (gI P w)).is h x.1 x.2.1:=by
  intro l m q;induction q with
  |nil=>intro x hx;exact nomatch hx
  | @cons p q ps qs hq t ih=>
   intro x hx;rcases yT.mp hx with e|hx
   ·subst e;exact uF ok (by rw[←hq.1];exact hq.2.1)
   ·exact ih x hx
 exact all r x hx
theorem aac {af:List (List bp×V)}(ok:cS P w H h) (e:H a=some (.dT af)):af.length<=sizeLine/\(a==sysModules)=false/\
  ∃xs,KT H af xs/\h.DictOfH (tupleKind (gI P w)) a xs:=pB ok (.inl e)
end
noncomputable def jy (H:Hp) (a:Addr) (y:V) (r:Option V):Prop:=
 (∃af k,Rd H a (.dK af)/\y=kV k/\r=cn af k)\/∃af k b,Rd H a (.dT af)/\y= .ref b/\H b=some (.bP (k.map kV))/\r=cn af k
noncomputable def rA (H:Hp) (a:Addr) (y v:V) (H':Hp):Prop:=
 (∃af k,H a=some (.dK af)/\y=kV k/\af.length<sizeLine/\H'=aj H a (.dK (dC af k v)))\/
 ∃af k b,H a=some (.dT af)/\y= .ref b/\H b=some (.bP (k.map kV))/\af.length<sizeLine/\H'=aj H a (.dT (dC af k v))
theorem jy.t {H:Hp}{a b:Addr}{af:List (List bp×V)}{k:List bp}(e:H a=some (.dT af)) (eb:H b=some (.bP (k.map kV))):jy H a (.ref b) (cn af k):= .inr ⟨af,k,b,.inl e,rfl,eb,rfl⟩
theorem rA.t {H:Hp}{a b:Addr}{af:List (List bp×V)}{k:List bp}{v:V}(e:H a=some (.dT af)) (eb:H b=some (.bP (k.map kV))) (hl:af.length<sizeLine):
  rA H a (.ref b) v (aj H a (.dT (dC af k v))):= .inr ⟨af,k,b,e,rfl,eb,hl,rfl⟩
section
variable {X:Cx}{ae:List (Addr×Obj)}{σ:St}{H:Hp}{s:Shared}{a:Addr}{y v:V}{u r:Value}{o:Option V}{A:Around}{E:Value->Shared->Prop}
theorem az.big (I:az X ae σ H s):sysModules<s.heap.objs.size:=by have h:mainGlobals<s.heap.objs.size:=(I.mod.lN.keeps I.bk).lt;exact Nat.lt_trans ZE h
theorem aad {Q:Value->Shared->Prop}(hu:A.units+1<cLine) (I:az X ae σ H s) (g:jy H a y (some v)) (ry:bw y u) (h:∀w' s',az X ae σ H s'->bw v w'->Q w' s'):
  wpAny (model X.prog X.w) A (getItem (.ref a) u) Q E s:=by
 rcases g with ⟨af,k,e,ey,l⟩|⟨af,k,b,e,ey,eb,l⟩
 ·subst ey;obtain ⟨z,hd,vs,fb,dd⟩:=rq I.aO e;obtain ⟨w',hw,eE⟩:=g8.D0 (v:=v) (o:=valueAt vs k) (by rw[l];exact fb.val k);exact wpAny_getItem_of (uE ry) dd.mapOf hw (h w' _ (I.eg _) eE)
 ·subst ey;cases (show u=Value.ref b from ry);obtain ⟨z,hd,xs,fb,dd⟩:=pB I.aO e;obtain ⟨w',hw,eE⟩:=g8.D0 (v:=v) (o:=(atKey xs k).map (·.2)) (by rw[l];exact fb.val k);obtain ⟨p,hp,nN⟩:=Option.map_eq_some_iff.mp hw;refine wpAny_getItem_heap (tupleKind_room_in1 hu) (uF I.aO eb) dd hp ?_;rw[nN];exact h w' _ (I.eg _) eE
theorem aae {Q:Value->Shared->Prop}(hu:A.units+1<cLine) (I:az X ae σ H s) (g:jy H a y o) (ry:bw y u) (h:∀s',az X ae σ H s'->Q (.bool o.isSome) s'):
  wpAny (model X.prog X.w) A (compareOp .In u (.ref a)) Q E s:=by
 rcases g with ⟨af,k,e,ey,l⟩|⟨af,k,b,e,ey,eb,l⟩
 ·subst ey;obtain ⟨z,hd,vs,fb,dd⟩:=rq I.aO e;refine wpAny_in_of (uE ry) hd dd.mapOf ?_;rw[←(fb.val k).EE,←l];exact h _ (I.eg _)
 ·subst ey;cases (show u=Value.ref b from ry);obtain ⟨z,hd,xs,fb,dd⟩:=pB I.aO e;refine wpAny_in_heap (tupleKind_room_in1 hu) (uF I.aO eb) hd dd ?_;have q:=(fb.val k).EE;rw[Option.isSome_map]at q;rw[←q,←l];exact h _ (I.eg _)
theorem M5 {h':Heap}{t':Nat}{ob:HO}(I:az X ae σ H s) (mu:lK (H a)) (hs:Heap.SameBut a s.heap h') (he:∃q,h'.get? a=some q) (new:dM X.prog X.w (aj H a ob) h' a ob):
  az X ae σ (aj H a ob) {s with heap:=h',toks:=t'}:=
 I.kK (x:=a) (e:=a) mu (.inl rfl) (λb q hb z=>(hs.2 b hb).trans z) he new
theorem aaf {P:Program}{w:World}{H':Hp}{h':Heap}{af:List (bp×V)}{vs:List (bp×Value)}(z:af.length<=sizeLine) (hd:(a==sysModules)=false) (fb:KV af vs) (dd:h'.DictOf (gI P w) a vs):
  dM P w H' h' a (.dK af):=⟨z,hd,vs,fb,dd⟩
theorem aag {H':Hp}{Q:Unit->Shared->Prop}(hu:A.units+1<cLine) (I:az X ae σ H s) (g:rA H a y v H') (ry:bw y u) (rv:bw v r) (h:∀s',az X ae σ H' s'->Q () s'):
  wpAny (model X.prog X.w) A (setItem (.ref a) u r) Q E s:=by
 rcases g with ⟨af,k,e,ey,l,eH⟩|⟨af,k,b,e,ey,eb,l,eH⟩
 ·subst ey eH;obtain ⟨z,hd,vs,fb,dd⟩:=ZZ I.aO e;have hz:vs.length<=sizeLine:=by rw[←fb.length];exact z
  have hl:(dC af k v).length<=sizeLine:=by have:=M1 af k v;omega
  refine wpAny_setItem_pairs (hsz:=hz) (uE ry) dd λh' AL hs=>h _ ?_
  have he:∃q,h'.get? a=some q:=let ⟨q,_,_,hq,_⟩:=AL;⟨q,hq⟩;exact M5 I (by rw[e];exact True.intro) hs he (aaf hl hd (fb.gE k rv) AL)
 ·subst ey eH;cases (show u=Value.ref b from ry);obtain ⟨z,hd,xs,fb,dd⟩:=aac I.aO e;have hz:xs.length<=sizeLine:=by rw[←Paired.length fb];exact z
  have hl:(dC af k v).length<=sizeLine:=by have:=M1 af k v;omega
  refine wpAny_setItem_heap (hsz:=hz) (tupleKind_room_in1 hu) (uF I.aO eb) dd λh' AL hs=>h _ ?_
  obtain ⟨q,es,ep,hq,h2,h3,h4,_,h5⟩:=AL;refine M5 I (by rw[e];exact True.intro) hs ⟨q,hq⟩ ⟨hl,hd,_,(fb.gE k eb rv).keeps λc ys ec=>?_,q,es,ep,hq,h2,h3,h4,h5⟩;rw[aA (Wt ec e (λz=>nomatch z))];exact ec
end
noncomputable def AM (i:Expr):Prop:=∀ov iv,subscripted i false ov iv=operate [ov,iv] (getItem ov iv)
theorem EG {prog:Program}{w:World}{A:Around}{E:Value->Shared->Prop}{s:Shared}{ah:Env}{value ma:Expr}{pos:Pos}{T id:String}{Q:Value->Shared->Prop}
  (hl:typeLookup (.type T) "__getitem__"=pure (some (.builtin id))) (hs:AM ma)
  (h:wpAny (model prog w) A (eval value ah) (λo bB=>wpAny (model prog w) A (eval ma ah) (λi eM=>eM.TypeIs o T/\wpAny (model prog w) A (getItem o i) Q E eM) E bB) E s):
  wpAny (model prog w) A (eval (.Subscript value ma pos) ah) Q E s:=by
 refine Subscript_ (wpAny_mono h (λo bB rn=>wpAny_mono rn (λi eM uB=>?_) λ_a _a x=>x) λ_a _a x=>x);obtain ⟨hT,uB⟩:=uB;unfold subscriptTail;refine wpAny_bind ?_;rw[getitemInPython_of_ne hT.not_modules];refine wpAny_bind (wpAny_specialOf hT hl ?_);have fin:wpAny (model prog w) A (subscripted ma false o i) (λr nh=>wpAny (model prog w) A (letTemporaryGo value o r>>=λ_a=>pure r) Q E nh) E eM:=by rw[hs o i];exact wpAny_operating (wpAny_mono uB (λr nh AH=>wpAny_bind (wpAny_letTemporaryGo (wpAny_pure AH))) λ_a _a x=>x)
 first
  |exact wpAny_pure (wpAny_bind fin)
  |exact wpAny_bind (wpAny_pure (wpAny_bind fin))
  |exact wpAny_bind fin
theorem aah {X:Cx}{ae:List (Addr×Obj)}{σ:St}{H:Hp}{s:Shared}{a:Addr}{y:V}{o:Option V}(I:az X ae σ H s) (g:jy H a y o):s.TypeIs (.ref a) "dict":=by
 rcases g with ⟨af,k,e,_,_⟩|⟨af,k,b,e,_,_,_⟩
 ·obtain ⟨_,_,vs,_,dd⟩:=rq I.aO e;exact dd.typeIs
 ·obtain ⟨_,_,xs,_,dd⟩:=pB I.aO e;exact dd.typeIs
noncomputable def aai (td ty:TE):TE:=λσ H Q=>td σ H λx H1=>ty σ H1 λy H2=>∃a v,x= .ref a/\jy H2 a y (some v)/\Q v H2
noncomputable def aaj (ty td:TE):TE:=λσ H Q=>ty σ H λy H1=>td σ H1 λx H2=>∃a o,x= .ref a/\jy H2 a y o/\Q (.bl o.isSome) H2
noncomputable def aak (td ty tv:TE):TS:=λD σ H=>tv σ H λv H1=>td σ H1 λx H2=>ty σ H2 λy H3=>∃a H4,x= .ref a/\rA H3 a y v H4/\D.nx σ H4
section
variable {X:Cx}{o i e value:Expr}{pos gj DJ:Pos}{td ty tv:TE}
theorem EH (hu:X.A.units+1<cLine) (ho:PE X o td) (hi:PE X i ty) (hs:AM i):PE X (.Subscript o i pos) (aai td ty):=by intro ae s σ H Q I h;refine EG Z8.lookup hs (aY (ho ae s σ H _ I h) λu s1 ⟨x,H1,I1,rx,q1⟩=>aY (hi ae s1 σ H1 _ I1 q1) λiv s2 ⟨y,H2,I2,ry,a,v,ex,g,q2⟩=>?_);subst ex;obtain rfl:u=Value.ref a:=rx;exact ⟨aah I2 g,aad hu I2 g ry λw' s3 I3 eE=>⟨v,H2,I3,eE,q2⟩⟩
theorem M6 (hu:X.A.units+1<cLine) (hi:PE X i ty) (ho:PE X o td):PC X .In i o (aaj ty td):=by
 intro ae s σ H Q I h;refine aY (hi ae s σ H _ I h) λiv s1 ⟨y,H1,I1,ry,q1⟩=>aY (ho ae s1 σ H1 _ I1 q1) λu s2 ⟨x,H2,I2,rx,a,ov,ex,g,q2⟩=>?_
 subst ex;obtain rfl:u=Value.ref a:=rx;exact aae hu I2 g ry λs3 I3=>⟨.bl ov.isSome,H2,I3,rfl,q2⟩
theorem M7 (hu:X.A.units+1<cLine) (ho:PE X o td) (hi:PE X i ty) (hv:PE X value tv) (hs:swapsWith value (some (.Subscript o i gj)) pos.line X.ah=pure false):
  PS X (.Assign [.Subscript o i gj] value pos) (aak td ty tv):=by
 intro ae s σ H D I h;refine wpAny_Assign_Subscript (aY (hv ae s σ H _ I h) λr s1 ⟨v,H1,I1,rv,q1⟩=>aY (ho ae s1 σ H1 _ I1 q1) λu s2 ⟨x,H2,I2,rx,q2⟩=>aY (hi ae s2 σ H2 _ I2 q2) λiv s3 ⟨y,H3,I3,ry,a,H4,ex,g,q3⟩=>?_) hs;subst ex;obtain rfl:u=Value.ref a:=rx;exact aag hu I3 g ry rv λs4 I4=>⟨σ,H4,I4,q3⟩
end
theorem aal {P:Program}{w:World}{H:Hp}(h:Heap) (hb:sysModules<h.objs.size):dM P w H (h.push {cls:= .type "dict",data:= .dict #[]}) h.objs.size (.dT []):=
 ⟨xQ _,beq_eq_false_iff_ne.mpr (xR (xN hb)),[],.nil,_,#[],0,Heap.get?_push_size _ rfl,⟨rfl,rfl,rfl⟩,rfl,rfl,List.nodup_nil⟩
noncomputable def aam:TE:=λ_a H Q=>∀p,H p=none->Q (.ref p) (aj H p (.dT []))
section
variable {X:Cx}{pos:Pos}
theorem uG:PE X (.Dict [] [] pos) aam:=λae s σ H Q I h=>
 wpAny_Dict_empty ⟨.ref s.heap.objs.size,_,I.fS (a:=s.heap.objs.size) (o:= .dT []) (t':=s.toks) (λ_a _a q=>Heap.get?_push_of_some _ q) (xC _) (aal s.heap I.big),rfl,h _ (I.aO.fresh (xC _))⟩
end
structure M2 (X:Cx) (o:Expr) (m:Str) (fG:Pos) (e f:Expr) (dN:Pos):Prop where
 base:attributeBase o m X.ah (eval o X.ah)=eval o X.ah
 qB:((backTo dN (starEach [e,f] X.ah)).all (λx=> !x.1)&&(backToKw dN (keywordEach [] X.ah)).all (λx=>x.1.isSome)
  &&decide (([e,f]:List Expr).length+([]:List Keyword).length+(if ([]:List Keyword).isEmpty then 0 else 1)<30))=true
 line:(fG.endLine==dN.line)=true
 aan:backTo dN (starEach [e,f] X.ah)= [(false,eval e X.ah),(false,eval f X.ah)]
noncomputable def EI (H:Hp) (a:Addr):Prop:=(∃af,Rd H a (.dK af))\/∃af,Rd H a (.dT af)
theorem aao {X:Cx}{ae:List (Addr×Obj)}{σ:St}{H:Hp}{s:Shared}{a:Addr}(I:az X ae σ H s) (d:EI H a):
  s.TypeIs (.ref a) "dict"/\(∀b,Value.ref a= .ref b->∃ob,s.heap.get? b=some ob/\ob.dict=none)/\(a==sysModules)=false:=by
 rcases d with ⟨af,e⟩|⟨af,e⟩
 ·obtain ⟨_,hd,vs,_,dd⟩:=rq I.aO e;refine ⟨dd.typeIs,λb q=>?_,hd⟩;cases q;obtain ⟨ob,_,_,h1,h2,_⟩:=dd;exact ⟨ob,h1,h2.2.1⟩
 ·obtain ⟨_,hd,xs,_,dd⟩:=pB I.aO e;refine ⟨dd.typeIs,λb q=>?_,hd⟩;cases q;obtain ⟨ob,_,_,h1,h2,_⟩:=dd;exact ⟨ob,h1,h2.2.1⟩
section
variable {X:Cx}{ae:List (Addr×Obj)}{σ:St}{H:Hp}{s:Shared}{a:Addr}{y d:V}{u r:Value}{o:Option V}{A:Around}{E:Value->Shared->Prop}
theorem aap {Q:Value->Shared->Prop}(hu:A.units+1<cLine) (I:az X ae σ H s) (g:jy H a y o) (ry:bw y u) (rd:bw d r) (h:∀w' s',az X ae σ H s'->bw (o.getD d) w'->Q w' s'):
  wpAny (model X.prog X.w) A (call (.builtin "dict.get") [.ref a,u,r]) Q E s:=by
 rcases g with ⟨af,k,e,ey,l⟩|⟨af,k,b,e,ey,eb,l⟩
 ·subst ey;obtain ⟨z,hd,vs,fb,dd⟩:=rq I.aO e;refine call_meetsIn Z7 dd.typeIs Z2 (Z0 _ _ _) (meets_dict_get_default (gI X.prog X.w) a (uE ry) hd r) ⟨_,dd.mapOf,h _ _ (I.eg _) ?_⟩;rw[l];exact (fb.val k).getD rd
 ·subst ey;cases (show u=Value.ref b from ry);obtain ⟨z,hd,xs,fb,dd⟩:=pB I.aO e;refine call_meetsIn Z7 dd.typeIs Z2 (Z0 _ _ _) (meetsH_dict_get_default (tupleKind (gI X.prog X.w)) a b hd r) ⟨tupleKind_room_in1 hu,k,xs,uF I.aO eb,dd,h _ _ (I.eg _) ?_⟩;rw[l];exact (fb.val k).getD rd
end
noncomputable def aaq (td ty tx:TE):TE:=λσ H Q=>td σ H λx H1=>∃a,x= .ref a/\EI H1 a/\ty σ H1 λy H2=>tx σ H2 λz H3=>∃o,jy H3 a y o/\Q (o.getD z) H3
section
variable {X:Cx}{o e f:Expr}{fG dN:Pos}{td ty tx:TE}
theorem AN (hu:X.A.units+1<cLine) (ho:PE X o td) (he:PE X e ty) (hf:PE X f tx) (m:M2 X o "get" fG e f dN):PE X (.Call (.Attribute o "get" fG) [e,f] [] dN) (aaq td ty tx):=by
 intro ae s σ H Q I h;refine wpAny_Call_method m.base m.qB m.line PySem.F.plainAttrs_dict Z7 PySem.F.type_dict_get (aY (ho ae s σ H _ I h) λu s1 ⟨x,H1,I1,rx,a,ex,d,q1⟩=>?_);subst ex;obtain rfl:u=Value.ref a:=rx;obtain ⟨t1,t2,_⟩:=aao I1 d;refine ⟨t1,t2,?_⟩;rw[m.aan];refine Calls.callWith_builtin rfl (Calls.evalArgs_plain (Calls.spliced_cons (aY (he ae s1 σ H1 _ I1 q1) λiv s2 ⟨y,H2,I2,ry,q2⟩=>
  Calls.spliced_cons (aY (hf ae s2 σ H2 _ I2 q2) λfv s3 ⟨z,H3,I3,rz,ov,g,q3⟩=>Calls.spliced_nil ?_))))
 exact aap hu I3 g ry rz λw' s4 I4 eE=>⟨_,H3,I4,eE,q3⟩
end
section
variable {X:Cx}{ae:List (Addr×Obj)}{σ:St}{H:Hp}{s:Shared}{h':Heap}
theorem az.AO {d:Addr}{u:HO}(I:az X ae σ H s) (h:H d=some u) (mu:lK (some u)):∃od,az X ae σ (aj H d (.bI od u)) s:=by
 have x:=I.aO d u h;have ex:∃od,s.heap.get? d=some od:=by
  cases u with
  |lst xs=>obtain ⟨_,_,_,_,e⟩:=x;exact ⟨_,e⟩
  |dK af=>obtain ⟨_,_,_,_,o,_,_,e,_⟩:=x;exact ⟨o,e⟩
  |dT af=>obtain ⟨_,_,_,_,o,_,_,e,_⟩:=x;exact ⟨o,e⟩
  |set S n=>obtain ⟨o,_,_,_,e,_⟩:=x;exact ⟨o,e⟩
  |ins C dx fs=>obtain ⟨_,_,_,e,_⟩:=x;exact ⟨_,e⟩
  |ext φ=>obtain ⟨_,⟨_,e⟩,_⟩:=x;exact ⟨_,e⟩
  |_=>exact False.elim mu
 obtain ⟨od,e⟩:=ex;have new:dM X.prog X.w (aj H d (.bI od u)) s.heap d (.bI od u):=by
  refine ⟨e,x.mY (λb v _a q=>q) (λb q=>?_) λb xs q=>?_⟩
  ·rw[aA (λz=>by rw[z,h]at q;cases q;exact mu)];exact q
  ·rw[aA (λz=>by rw[z,h]at q;cases q;exact mu)];exact q
 exact ⟨od,I.kK (x:=d) (e:=d) (t':=s.toks) (h':=s.heap) (by rw[h];exact mu) (.inl rfl) (λb v _a q=>q) ⟨od,e⟩ new⟩
theorem az.uH {d:Addr}{u:HO}(I:az X ae σ H s) (h:H d=some u) (mu:lK (some u)):∀o' u',X.oW d≠some (.bI o' u'):=λo' u' e=>by have q:=I.base.jh d o' u' e;rw[h]at q;cases q;exact mu
theorem az.uI {d:Addr}{od:Obj}{u:HO}(I:az X ae σ H s) (h:H d=some (.bI od u)) (hn:∀o' u',X.oW d≠some (.bI o' u')):az X ae σ (aj H d u) s:=by
 have rB:∀b o,H b=some o->(∀o' u',o≠ .bI o' u')->b≠d:=λb o e bQ z=>by rw[z,h]at e;cases e;exact bQ _ _ rfl
 have AQ:∀b,H b=none->b≠d:=λb e z=>by rw[z,h]at e;cases e
 refine ⟨I.ok,I.os,I.eL,⟨I.base.keep,I.base.fE,λb o e n hx=>?_,I.base.there,λb xs e=>?_,λb o x e=>?_,λb ps e=>?_⟩,I.fU,I.cell,?_,λx c e=>?_,λp hp=>?_,λb o e=>?_,I.len⟩
 ·rw[aA (AQ b (I.base.free b o e n hx))];exact I.base.free b o e n hx
 ·have q:=I.base.lL b xs e;rw[aA (rB b _ q (λ_a _a z=>nomatch z))];exact q
 ·have q:=I.base.jh b o x e;rw[aA (λz=>by rw[z]at e;exact hn _ _ e)];exact q
 ·obtain ⟨m,q⟩:=I.base.lM b ps e;exact ⟨m,by rw[aA (rB b _ q (λ_a _a z=>nomatch z))];exact q⟩
 ·rw[aA (AQ _ I.free)];exact I.free
 ·rw[aA (AQ c (I.iT x c e))];exact I.iT x c e
 ·obtain ⟨e,n,r⟩:=I.iC p hp;exact ⟨e,by rw[aA (AQ _ n)];exact n,r⟩
 ·by_cases hb:b=d
  ·rw[hb,ao]at e;cases e;rw[hb];obtain ⟨_,x⟩:=I.aO d _ h;exact x.mY (λc v _a q=>q) (λc q=>by rw[aA (rB c _ q (λ_a _a z=>nomatch z))];exact q) λc xs q=>by rw[aA (rB c _ q (λ_a _a z=>nomatch z))];exact q
  ·rw[aA hb]at e;exact (I.aO b o e).mY (λc v _a q=>q) (λc q=>by rw[aA (rB c _ q (λ_a _a z=>nomatch z))];exact q) λc xs q=>by rw[aA (rB c _ q (λ_a _a z=>nomatch z))];exact q
end
noncomputable def aar (t:TS):TS:=λD σ H=>∃d u,H d=some u/\lK (some u)/\∀od,t ⟨λbu H'=>H' d=some (.bI od u)/\D.nx bu (aj H' d u),λv H'=>H' d=some (.bI od u)/\D.rt v (aj H' d u),λbu H'=>H' d=some (.bI od u)/\D.bk bu (aj H' d u),λbu H'=>H' d=some (.bI od u)/\D.ct bu (aj H' d u)⟩ σ (aj H d (.bI od u))
noncomputable def aas (t:TE):TE:=λσ H Q=>∃d u,H d=some u/\lK (some u)/\∀od,t σ (aj H d (.bI od u)) λv H'=>H' d=some (.bI od u)/\Q v (aj H' d u)
section
variable {X:Cx}
set_option tactic.hygienic true in
theorem EJ {st:Stmt}{t:TS}(h:PS X st t):PS X st (aar t):=by
 intro ae s σ H D I hw;obtain ⟨d,u,hd,mu,hw⟩:=hw;obtain ⟨od,I1⟩:=I.AO hd mu;refine aY (h ae s σ _ _ I1 (hw od)) λf s1 q=>?_
 cases f with
 |next=>obtain ⟨bu,H',I2,e,q⟩:=q;exact ⟨bu,_,I2.uI e (I.uH hd mu),q⟩
 |brk=>obtain ⟨bu,H',I2,e,q⟩:=q;exact ⟨bu,_,I2.uI e (I.uH hd mu),q⟩
 |cont=>obtain ⟨bu,H',I2,e,q⟩:=q;exact ⟨bu,_,I2.uI e (I.uH hd mu),q⟩
 |ret v=>obtain ⟨x,bu,H',I2,r,e,q⟩:=q;exact ⟨x,bu,_,I2.uI e (I.uH hd mu),r,q⟩
theorem M8 {e:Expr}{t:TE}(h:PE X e t):PE X e (aas t):=by
 intro ae s σ H Q I hw;obtain ⟨d,u,hd,mu,hw⟩:=hw;obtain ⟨od,I1⟩:=I.AO hd mu;refine aY (h ae s σ _ _ I1 (hw od)) λv s1 ⟨x,H1,I2,r,e2,q⟩=>?_
 exact ⟨x,_,I2.uI e2 (I.uH hd mu),r,q⟩
theorem uJ {tg:Expr}{ae:List (Addr×Obj)}{σ:St}{H:Hp}{s:Shared}{R:It->Hp->Prop}{J:It}{tn:Nat->Heap->Prop}{tk:Nat}(I:az X ae σ H s) (o:Obj)
  (T:lT X.prog X.w X.K tg J [s.heap.objs.size] s.heap.objs.size tn) (st:tn 0 (s.heap.push o)) (q:R J H):DK X ae σ tg R (.ref s.heap.objs.size) {s with heap:=s.heap.push o,toks:=tk}:=by
 refine ⟨s.heap.objs.size,[s.heap.objs.size],tn,J,H,rfl,I.dX λb ob e=>Heap.get?_push_of_some _ e,T,st,λb hb=>?_,q⟩;have e:b=s.heap.objs.size:=by simpa using hb
 subst e;exact I.ue (xC _) (I.aO.fresh (xC _))
end
noncomputable def uK (x:Str):It:=⟨λi _a=>i<x.cps.size,λi H v H'=>H'=H/\∃c,x.cps[i]? =some c/\v= .str ⟨#[c]⟩,λi _a=>x.cps.size<=i⟩
theorem M9 {P:Program}{w:World}{K:PySem.W.Frag}{tg:Expr}(it:Addr) (x:Str) (t:Tok) (ty:String) (jt:ty="str_ascii_iterator"\/ty="str_iterator"):
  lT P w K tg (uK x) [it] it (λi h=>h.IsStrIter it ty x t i) where
 mem:=by simp
 obj:=λi h st b hb=>by
  have e:b=it:=by simpa using hb
  subst e;obtain ⟨o,e,c,d⟩:=st;exact ⟨o,e,λv z=>by rw[d]at z;cases z⟩
 keep:=λi h h' st k=>let ⟨o,ho,r⟩:=st;⟨o,k it (by simp) o ho,r⟩
 item:=by
  intro X hP hw hK hc i ae s σ H E I hf st hg;subst hP hw hK;obtain ⟨f0,f1,f2,f3,f4,f5⟩:=hf it (by simp);have W:Walks X.prog X.w X.A it [it] [it] x.cps.size (SignAt x) (λi h=>h.IsStrIter it ty x t i):=by
   rcases jt with e|e
   ·rw[e];exact Walks.strAscii (I.ok.hd hc) it x t
   ·rw[e];exact Walks.strWide (I.ok.hd hc) it x t
  have uv: ["enumerate","zip","dict_itemiterator","dict_reverseitemiterator","odict_iterator","itertools.zip_longest","itertools.pairwise"].contains ty=false:=by
   rcases jt with e|e
   ·rw[e];decide
   ·rw[e];decide
  refine W.item i s _ _ hg st λv h' tk hv eh kk=>?_
  obtain ⟨c,u,hcx,rfl⟩:=hv;have I1:az X ae σ H {s with heap:=h',toks:=tk}:=I.gh (λb o hb e=>kk b o (by simpa using hb) e) f0 f1 f3 f4 f5;obtain ⟨oi,e,cc,dd⟩:=id eh;exact ⟨_,rfl,o7 (s:={s with heap:=h',toks:=tk}) e cc dd uv ⟨.str ⟨#[c]⟩,H,I1,⟨u,rfl⟩,⟨rfl,c,hcx,rfl⟩,eh,λb hb=>(hf b hb).1⟩⟩
 done:=by
  intro X hP hw hK hc i ae s σ H E I hf st hg;subst hP hw hK;obtain ⟨f0,f1,f2,f3,f4,f5⟩:=hf it (by simp);have hx:x.cps[i]? =none:=z7 hg;rcases jt with e|e
  ·rw[e]at st;exact wpAny_pyNext_ascii_end (I.ok.hd hc) st hx λh' eb=>⟨rfl,I.gh (t':=s.toks) (λb o hb e=>eb b o hb e) f0 f1 f3 f4 f5⟩
  ·rw[e]at st;exact wpAny_pyNext_wide_end (I.ok.hd hc) st hx λh' eb=>⟨rfl,I.gh (t':=s.toks) (λb o hb e=>eb b o hb e) f0 f1 f3 f4 f5⟩
 self:=λA i s Q E st h=>by
  rcases jt with e|e
  ·rw[e]at st;exact wpAny_pyIter_striter_ascii st h
  ·rw[e]at st;exact wpAny_pyIter_striter_wide st h
noncomputable def aau (te:TE):TI:=λσ H R=>te σ H λv H1=>∃x,v= .str x/\R (uK x) H1
theorem aav {X:Cx}{tg e:Expr}{te:TE}(he:PE X e te):PI X tg e (aau te):=by
 intro ae s σ H R I h;refine aY (he ae s σ H _ I h) λv s1 ⟨y,H1,I1,r1,x,ex,q⟩=>?_
 subst ex;obtain ⟨t,rfl⟩:=r1;cases ha:x.cps.all (·<128)
 ·exact wpAny_pyIter_wide ha (uJ (tk:=s1.toks) I1 _ (M9 _ x t "str_iterator" (.inr rfl)) ⟨_,Heap.get?_push_size _ rfl,rfl,rfl⟩ q)
 ·exact wpAny_pyIter_ascii ha (uJ (tk:=s1.toks) I1 _ (M9 _ x t "str_ascii_iterator" (.inl rfl)) ⟨_,Heap.get?_push_size _ rfl,rfl,rfl⟩ q)
section
variable {prog:Program}{w:World}{A:Around}{E:Value->Shared->Prop}{s:Shared}
theorem AR {d:Addr}{o:Obj}{es:Array DictEntry}{ep:Nat}{Q:Value->Shared->Prop}(hd:(d==sysModules)=false) (ho:s.heap.get? d=some o) (hc:o.ExactDict) (fc:o.data= .dict es ep)
  (hQ:Q (.ref s.heap.objs.size) {s with heap:=s.heap.push {cls:= .type "dict_keyiterator",data:= .fields #[.ref d,.int 0 0,.int es.size 0,.int ep 0]}}):
  wpAny (model prog w) A (pyIter (.ref d)) Q E s:=by
 have hT:s.TypeIs (.ref d) "dict":=⟨o,ho,hc.1⟩;refine wpAny_pyIter_slot hT F.slot_dict_iter (wpAny_call_entry F.slot_dict_iter hT F.entry_dict_iter ?_ (F.args_dict_iter_1 _));unfold Builtin.«dict.__iter__»;refine wpAny_bind ?_;unfold Builtin.Dict.dictSlotNone;refine wpAny_bind (wpAny_notOrdered_dict hT ?_);show wpAny _ _ (pure (Value.ref d)) _ _ s;refine wpAny_pure ?_;show wpAny _ _ (Builtin.Dict.showsAll d>>=_) _ _ s;unfold Builtin.Dict.showsAll;rw[Zw (by rw[hd];exact zi)];refine wpAny_bind (wpAny_pure ?_);refine wpAny_bind (wpAny_dictEntries ho fc ?_);refine wpAny_bind (wpAny_dictEpoch ho fc ?_);refine wpAny_bind (wpAny_newObj_type (wpAny_pure ⟨_,rfl,"dict_keyiterator",_,⟨_,Heap.get?_push_size _ rfl,rfl⟩,F.slot_dict_keyiterator_next.lookup,?_⟩));simpa [rawInt]using hQ
theorem EK {it d:Addr}{i n ep:Nat}{od:Obj}{es:Array DictEntry}{en:DictEntry}{Q:Option Value->Shared->Prop}(fH:s.heap.IsKeyIter it d i n ep) (j5:s.heap.get? d=some od) (pC:od.data= .dict es ep)
  (hsz:es.size=n) (hx:es[i]? =some en) (hQ:∀h',h'.IsKeyIter it d (i+1) n ep->Heap.SameBut it s.heap h'->Q (some en.key) {s with heap:=h'}):wpAny (model prog w) A (pyNext (.ref it)) Q E s:=by
 obtain ⟨o,ho,hc,hd⟩:=id fH;unfold pyNext;refine wpAny_bind (wpAny_attempt (wpAny_callSpecial?_slot (name:=Str.ofString "__next__") fH.typeIs F.slot_dict_keyiterator_next
  (wpAny_call_entry F.slot_dict_keyiterator_next fH.typeIs F.entry_dict_keyiterator_next ?_ (F.args_dict_keyiterator_next_1 _))))
 refine wpAny_bind (wpAny_pure ?_);refine wpAny_bind ?_;refine wpAny_bind ?_
 first|refine wpAny_bind (wpAny_typeNameOfWhole_keyiter fH.typeIs (wpAny_pure ?_))|refine wpAny_bind (wpAny_typeNameOf_keyiter fH.typeIs (wpAny_pure ?_))
 refine wpAny_bind (wpAny_fieldsOf ho hd ?_);have EM:Builtin.Dict_items.ownsTuple "dict_keyiterator"=false:=by decide
 simp only[EM,zh,Zv];show wpAny _ _ (if (Value.ref d==Value.none)=true then _ else _) _ _ s;rw[Zw (show ¬((Value.ref d==Value.none)=true) from zi)];refine wpAny_bind (wpAny_pure ?_);refine wpAny_bind (wpAny_dictEntries j5 pC ?_);rw[Zw (by rw[hsz];simp)];refine wpAny_bind (wpAny_pure ?_);refine wpAny_bind (wpAny_dictEpoch j5 pC ?_);rw[Zw (by simp)];refine wpAny_pure ?_;obtain ⟨aaw,uL⟩:=Array.getElem?_eq_some_iff.mp hx;simp only[show ¬((i:Int)<0) from by omega,Zv,zt,z6 aaw];refine wpAny_bind ?_
 first|refine wpAny_bind (wpAny_typeNameOfWhole_keyiter fH.typeIs (wpAny_pure ?_))|refine wpAny_bind (wpAny_typeNameOf_keyiter fH.typeIs (wpAny_pure ?_))
 refine wpAny_bind (wpAny_isOneOf_keyiter fH.typeIs ?_);show wpAny _ _ (setField (.ref it) 1 (rawInt ((i:Int)+1))>>=_) _ _ s;refine wpAny_bind (wpAny_setField ho hd (by simp) ?_);have AS:(s.heap.update it (Obj.mapFields (·.setIfInBounds 1 (rawInt ((i:Int)+1))))).IsKeyIter it d (i+1) n ep:=
  ⟨_,Heap.get?_update_self _ ho (Obj.isFreed_of_fields (Obj.data_mapFields hd _)),(Obj.cls_mapFields ..).trans hc,by rw[Obj.data_mapFields hd];simp[rawInt]⟩
 refine wpAny_bind (wpAny_holding ?_);refine wpAny_bind (wpAny_isOneOf_keyiter (s:={s with heap:=s.heap.update it (Obj.mapFields (·.setIfInBounds 1 (rawInt ((i:Int)+1))))}) AS.typeIs ?_);show wpAny _ _ (pure es[i].key) _ _ _;rw[uL];exact wpAny_pure (wpAny_pure ⟨_,rfl,wpAny_pure (hQ _ AS (Heap.SameBut.update ..))⟩)
theorem AU {it d:Addr}{i n ep:Nat}{od:Obj}{es:Array DictEntry}{Q:Option Value->Shared->Prop}(hh:A.handled=none) (fH:s.heap.IsKeyIter it d i n ep) (j5:s.heap.get? d=some od) (pC:od.data= .dict es ep)
  (hsz:es.size=n) (hge:n<=i) (hQ:∀h',Heap.ExtBut it s.heap h'->Q none {s with heap:=h'}):wpAny (model prog w) A (pyNext (.ref it)) Q E s:=by
 obtain ⟨o,ho,hc,hd⟩:=id fH;unfold pyNext;refine wpAny_bind (wpAny_attempt (wpAny_callSpecial?_slot (name:=Str.ofString "__next__") fH.typeIs F.slot_dict_keyiterator_next
  (wpAny_call_entry F.slot_dict_keyiterator_next fH.typeIs F.entry_dict_keyiterator_next ?_ (F.args_dict_keyiterator_next_1 _))))
 refine wpAny_bind (wpAny_pure ?_);refine wpAny_bind ?_;refine wpAny_bind ?_
 first|refine wpAny_bind (wpAny_typeNameOfWhole_keyiter fH.typeIs (wpAny_pure ?_))|refine wpAny_bind (wpAny_typeNameOf_keyiter fH.typeIs (wpAny_pure ?_))
 refine wpAny_bind (wpAny_fieldsOf ho hd ?_);have EM:Builtin.Dict_items.ownsTuple "dict_keyiterator"=false:=by decide
 simp only[EM,zh,Zv];show wpAny _ _ (if (Value.ref d==Value.none)=true then _ else _) _ _ s;rw[Zw (show ¬((Value.ref d==Value.none)=true) from zi)];refine wpAny_bind (wpAny_pure ?_);refine wpAny_bind (wpAny_dictEntries j5 pC ?_);rw[Zw (by rw[hsz];simp)];refine wpAny_bind (wpAny_pure ?_);refine wpAny_bind (wpAny_dictEpoch j5 pC ?_);rw[Zw (by simp)];refine wpAny_pure ?_;have aay:es.size<=i:=by rw[hsz];exact hge
 simp only[show ¬((i:Int)<0) from by omega,Zv,zt,z7 aay];refine wpAny_bind ?_
 first|refine wpAny_bind (wpAny_typeNameOfWhole_keyiter fH.typeIs (wpAny_pure ?_))|refine wpAny_bind (wpAny_typeNameOf_keyiter fH.typeIs (wpAny_pure ?_))
 show wpAny _ _ (setField (.ref it) 0 .none>>=_) _ _ s;refine wpAny_bind (wpAny_setField ho hd (by simp) ?_);show wpAny _ _ (newExc (.type "StopIteration") []>>=_) _ _ _;refine wpAny_bind ?_;simp only[newExc,newTuple];refine wpAny_bind (wpAny_newObj_type ?_ (by size_fits));refine wpAny_bind (m:=firstArgMember _ _) (wpAny_of_eq (a:=Value.none) (by first|rfl|(simp only[firstArgMember];rfl)) ?_);refine wpAny_newObj_type ?_ (by size_fits);simp only[raiseNew];refine wpAny_bind (wpAny_handled ?_);rw[show A.in1.handled=none from hh];refine wpAny_bind (wpAny_pure (wpAny_throw ?_));refine wpAny_bind (wpAny_isInstance (T:="StopIteration") (b:=true) ⟨_,Heap.get?_push_size _ rfl,rfl⟩ isSubtype_stop ?_);exact wpAny_pure (hQ _ (((Heap.SameBut.update ..).extBut.push _).push _))
end
theorem aaz {κ:Type}{af:List (κ×V)}{vs:List (κ×Value)}(h:KV af vs):∀{i:Nat}{k:κ}{v:V},af[i]? =some (k,v)->∃u,vs[i]? =some (k,u)/\bw v u:=by
 unfold KV at h;induction h with
 |nil=>intro i k v e;simp at e
 | @cons a b l₁ l₂ r t ih=>
  intro i k v e;cases i with
  |zero=>simp only[y9,Option.some.injEq]at e;subst e;refine ⟨b.2,?_,r.2⟩;simp only[y9];exact Zo some (xY r.1.symm rfl)
  |succ j=>simp only[y8]at e⊢;exact ih e
theorem hU {α β:Type}{G:α->β->Prop}{l₁:List α}{l₂:List β}(h:Paired G l₁ l₂):∀{i:Nat}{a:α},l₁[i]? =some a->∃b,l₂[i]? =some b/\G a b:=by
 induction h with
 |nil=>intro i a e;simp at e
 | @cons a b l₁ l₂ r t ih=>
  intro i a' e;cases i with
  |zero=>simp only[y9,Option.some.injEq]at e;subst e;exact ⟨b,rfl,r⟩
  |succ j=>simp only[y8]at e⊢;exact ih e
theorem aaA {k:bp}{u:Value}(h:mX k u=true):bw (kV k) u:=by
 rcases kJ h with ⟨i,t,rfl,rfl⟩|⟨x,t,rfl,rfl⟩
 ·exact ⟨t,rfl⟩
 ·exact ⟨t,rfl⟩
section
variable {X:Cx}{ae:List (Addr×Obj)}{σ:St}{H:Hp}{s:Shared}{d:Addr}{o:Obj}
theorem az.EN {af:List (bp×V)}(I:az X ae σ H s) (h:H d=some (.bI o (.dK af))):
  (d==sysModules)=false/\s.heap.get? d=some o/\o.ExactDict/\∃(es:Array DictEntry) (ep:Nat) (vs:List (bp×Value)),o.data= .dict es ep/\es.size=af.length/\KV af vs/\s.heap.DictAt (gI X.prog X.w) d vs ep:=by
 obtain ⟨hd,z,hs,vs,kv,o',es,ep,ho,hx,fe,r⟩:=I.aO d _ h;rw[hd]at ho;cases ho;refine ⟨hs,hd,hx,es,ep,vs,fe,?_,kv,o,es,hd,hx,fe,r⟩;have l1:=r.2.1.length;have l2:af.length=vs.length:=Paired.length kv;rw[z9]at l1;omega
theorem az.EO {af:List (List bp×V)}(I:az X ae σ H s) (h:H d=some (.bI o (.dT af))):
  (d==sysModules)=false/\s.heap.get? d=some o/\o.ExactDict/\∃(es:Array DictEntry) (ep:Nat),o.data= .dict es ep/\es.size=af.length/\
   ∀(i:Nat) (k:List bp) (v:V),af[i]? =some (k,v)->∃(en:DictEntry) (q:Addr),es[i]? =some en/\en.key= .ref q/\H q=some (.bP (k.map kV)):=by
 obtain ⟨hd,z,hs,xs,pr,o',es,ep,ho,hx,fe,he,_⟩:=I.aO d _ h;rw[hd]at ho;cases ho;refine ⟨hs,hd,hx,es,ep,fe,?_,λi k v e=>?_⟩
 ·have l1:es.size=xs.length:=size_of_entries he;have l2:af.length=xs.length:=Paired.length pr;omega
 ·obtain ⟨b,hb,e1,e2,_⟩:=hU pr e;have q:=entry_at he i;rw[hb]at q;exact ⟨_,b.2.1,q,rfl,e2⟩
end
noncomputable def Na (d:Addr) (o:Obj) (af:List (bp×V)):It:=
 ⟨λi H=>H d=some (.bI o (.dK af))/\i<af.length,λi H x H'=>H'=H/\∃k v,af[i]? =some (k,v)/\x=kV k,λi H=>H d=some (.bI o (.dK af))/\af.length<=i⟩
noncomputable def nO (d:Addr) (o:Obj) (af:List (List bp×V)):It:=
 ⟨λi H=>H d=some (.bI o (.dT af))/\i<af.length,λi H x H'=>H'=H/\∃(k:List bp) (v:V) (q:Addr),af[i]? =some (k,v)/\x= .ref q/\H q=some (.bP (k.map kV)),λi H=>H d=some (.bI o (.dT af))/\af.length<=i⟩
theorem AV {o:Obj}{es kM:Array DictEntry}{ep kN:Nat}(h:o.data= .dict es ep) (h':o.data= .dict kM kN):kM=es/\kN=ep:=by rw[h]at h';cases h';exact ⟨rfl,rfl⟩
section
variable {P:Program}{w:World}{K:PySem.W.Frag}{tg:Expr}{d:Addr}{o:Obj}{es:Array DictEntry}{ep:Nat}
theorem aaB {af:List (bp×V)}(it:Addr) (j5:o.data= .dict es ep):lT P w K tg (Na d o af) [it] it (λi h=>h.IsKeyIter it d i af.length ep) where
 mem:=by simp
 obj:=λi h st b hb=>by
  have e:b=it:=by simpa using hb
  subst e;obtain ⟨oi,e,c,dd⟩:=st;exact ⟨oi,e,λv z=>by rw[dd]at z;cases z⟩
 keep:=λi h h' st k=>st.at λoi e=>k it (by simp) oi e
 item:=by
  intro X hP hw hK hc i ae s σ H E I hf st hg;subst hP hw hK;obtain ⟨hd,hi⟩:=hg;obtain ⟨f0,f1,f2,f3,f4,f5⟩:=hf it (by simp);obtain ⟨hs,kZ,hx,kM,kN,vs,fe,hsz,kv,hm⟩:=I.EN hd;obtain ⟨rfl,rfl⟩:=AV j5 fe;obtain ⟨⟨k,v⟩,fz⟩:∃p,af[i]? =some p:=⟨af[i],yb hi⟩;obtain ⟨u,hu,ru⟩:=aaz kv fz;have hl:af.length=vs.length:=Paired.length kv;rw[hl]at st;refine wpAny_pyNext_dict_item st hm hu λkey h' ui eh sb=>?_
  have I1:az X ae σ H {s with heap:=h'}:=I.gh (t':=s.toks) (λb ob hb e=>(sb.2 b hb).trans e) f0 f1 f3 f4 f5;obtain ⟨oi,e,c,dd⟩:=id eh;refine ⟨key,rfl,o7 (s:={s with heap:=h'}) e c dd ZE ⟨kV k,H,I1,aaA (show mX k key=true from ui),⟨rfl,k,v,fz,rfl⟩,?_,λb hb=>(hf b hb).1⟩⟩;show h'.IsKeyIter it d (i+1) af.length _;rw[hl];exact eh
 done:=by intro X hP hw hK hc i ae s σ H E I hf st hg;subst hP hw hK;obtain ⟨hd,hi⟩:=hg;obtain ⟨f0,f1,f2,f3,f4,f5⟩:=hf it (by simp);obtain ⟨hs,kZ,hx,kM,kN,vs,fe,hsz,kv,hm⟩:=I.EN hd;obtain ⟨rfl,rfl⟩:=AV j5 fe;exact AU (I.ok.hd hc) st kZ fe hsz hi λh' eb=>⟨rfl,I.gh (t':=s.toks) (λb ob hb e=>eb b ob hb e) f0 f1 f3 f4 f5⟩
 self:=λA i s Q E st h=>wpAny_pyIter_keyiter st h
theorem aaC {af:List (List bp×V)}(it:Addr) (j5:o.data= .dict es ep):lT P w K tg (nO d o af) [it] it (λi h=>h.IsKeyIter it d i af.length ep) where
 mem:=by simp
 obj:=λi h st b hb=>by
  have e:b=it:=by simpa using hb
  subst e;obtain ⟨oi,e,c,dd⟩:=st;exact ⟨oi,e,λv z=>by rw[dd]at z;cases z⟩
 keep:=λi h h' st k=>st.at λoi e=>k it (by simp) oi e
 item:=by
  intro X hP hw hK hc i ae s σ H E I hf st hg;subst hP hw hK;obtain ⟨hd,hi⟩:=hg;obtain ⟨f0,f1,f2,f3,f4,f5⟩:=hf it (by simp);obtain ⟨hs,kZ,hx,kM,kN,fe,hsz,ER⟩:=I.EO hd;obtain ⟨rfl,rfl⟩:=AV j5 fe;obtain ⟨⟨k,v⟩,fz⟩:∃p,af[i]? =some p:=⟨af[i],yb hi⟩;obtain ⟨en,q,uL,ui,hq⟩:=ER i k v fz;refine EK st kZ fe hsz uL λh' eh sb=>?_
  have I1:az X ae σ H {s with heap:=h'}:=I.gh (t':=s.toks) (λb ob hb e=>(sb.2 b hb).trans e) f0 f1 f3 f4 f5;obtain ⟨oi,e,c,dd⟩:=id eh;exact ⟨en.key,rfl,o7 (s:={s with heap:=h'}) e c dd ZE ⟨.ref q,H,I1,ui,⟨rfl,k,v,q,fz,rfl,hq⟩,eh,λb hb=>(hf b hb).1⟩⟩
 done:=by intro X hP hw hK hc i ae s σ H E I hf st hg;subst hP hw hK;obtain ⟨hd,hi⟩:=hg;obtain ⟨f0,f1,f2,f3,f4,f5⟩:=hf it (by simp);obtain ⟨hs,kZ,hx,kM,kN,fe,hsz,ER⟩:=I.EO hd;obtain ⟨rfl,rfl⟩:=AV j5 fe;exact AU (I.ok.hd hc) st kZ fe hsz hi λh' eb=>⟨rfl,I.gh (t':=s.toks) (λb ob hb e=>eb b ob hb e) f0 f1 f3 f4 f5⟩
 self:=λA i s Q E st h=>by refine wpAny_pyIter_slot st.typeIs F.slot_dict_keyiterator_iter (wpAny_call_entry F.slot_dict_keyiterator_iter st.typeIs F.entry_dict_keyiterator_iter ?_ (F.args_dict_keyiterator_iter_1 _));show wpAny _ _ (ret (.ref it)) _ _ s;exact wpAny_pure ⟨_,rfl,"dict_keyiterator",_,st.typeIs,F.slot_dict_keyiterator_next.lookup,h⟩
end
noncomputable def aaD (td:TE):TI:=λσ H R=>td σ H λx H1=>∃d o,x= .ref d/\((∃af,H1 d=some (.bI o (.dK af))/\R (Na d o af) H1)\/∃af,H1 d=some (.bI o (.dT af))/\R (nO d o af) H1)
section
variable {X:Cx}{tg e:Expr}{td:TE}{fG dN:Pos}
theorem AW (he:PE X e td):PI X tg e (aaD td):=by
 intro ae s σ H R I h;refine aY (he ae s σ H _ I h) λu s1 ⟨x,H1,I1,rx,d,o,ex,q⟩=>?_
 subst ex;obtain rfl:u=Value.ref d:=rx;rcases q with ⟨af,hd,q⟩|⟨af,hd,q⟩
 ·obtain ⟨hs,kZ,hx,es,ep,vs,fe,hsz,kv,hm⟩:=I1.EN hd;refine AR hs kZ hx fe (uJ (tk:=s1.toks) I1 _ (aaB _ fe) ⟨_,Heap.get?_push_size _ rfl,rfl,?_⟩ q);rw[hsz]<;>rfl
 ·obtain ⟨hs,kZ,hx,es,ep,fe,hsz,ER⟩:=I1.EO hd;refine AR hs kZ hx fe (uJ (tk:=s1.toks) I1 _ (aaC _ fe) ⟨_,Heap.get?_push_size _ rfl,rfl,?_⟩ q);rw[hsz]<;>rfl
end
end L2
section
namespace Bits
open PySem PyProof.Rows
end Bits
end
section
namespace TL
open PySem PySem.Builtin PySem.Builtin.Str PySem.StrLaws
noncomputable abbrev tl (x:Str):List Nat:=x.cps.toList
theorem aaE (x:Str):x.length=(tl x).length:=by simp[tl,Str.length]
noncomputable def pre (S l:List Nat):Bool:=l.take S.length==S
noncomputable def Ax (S:List Nat):List Nat->List Nat->Option (List Nat×List Nat)
 |_,[]=>none
 |acc,c::r=>if pre S (c::r)=true then some (acc,(c::r).drop S.length) else Ax S (acc++ [c]) r
theorem iy {y:Str}(hy:tl y≠ []):1<=y.length:=by have e2:0<(tl y).length:=List.length_pos_iff.mpr hy;rw[aaE y];exact e2
end TL
end
namespace L2
open PySem PySem.Spec PyProof.Rows
end L2
namespace Att
open PySem PySem.W PySem.Calls PyProof.Rows
end Att
namespace L2
open PySem PySem.Spec PyProof.Rows
theorem Nb:∀{vs:List Value}{ns:List Int},IntsAre vs ns->aV (ns.map V.int) vs
 |_,_,.nil=> .nil
 |_,_,.cons n t h=> .cons ⟨t,rfl⟩ (Nb h)
noncomputable def Nc (H:Hp):Prop:=∀b,H b=none\/∃o xs,H b=some (.bI o (.lst xs))
set_option tactic.hygienic true in
theorem amX {P:Program}{w:World}{K:PySem.W.Frag}{mg mb:Str->Option Value}{CX:jn}{k:Nat}{fa a:Addr}{fd:FuncData}{x:Str}{sp:Sp}{bB:Shared}{vs:List Value}{ns:List Int}
  (KX:K.In bB.heap) (uM:bB.heap.Ns mainGlobals mg) (hb:bB.heap.Ns builtinsNs mb) (ES:∀x:Str,x≠"__name__"->mb x=bootBuiltins x) (ET:bB.heap.NoLimit) (hg:bB.gens=#[])
  (ha:bB.heap.get? a=some {cls:= .type "list",data:= .seq vs.toArray}) (hi:IntsAre vs ns) (hl:ns.length<=sizeLine) (hr:Room k callerA)
  (F:∀base:Heap,K.In base->base.Ns mainGlobals mg->gO P w K mg base CX k fa fd [x] sp) (EU:∀(s:Shared) (u:Value),BindsTo s fd ⟨[u],[]⟩ [(x,u)])
  (iq:∀H:Hp,Nc H->ag K H a (ns.map V.int)->sp [.ref a] H (λv _a=>v= .bl true) λ_a _a _a=>False)
  (pD:∀H e s',CX [] H bB (λ_a _a _a=>False) e s'->False):
  codeAny (model P w) callerA (.call (.ref fa) ⟨[.ref a],[]⟩) (λr s'=>r= .ok (.ret (.bool true))/\OldK bB.heap s'.heap/\s'.os=bB.os/\AllBare s'.gens) bB:=by
 have rv:=Nb hi;have aaF:=hi.length;have Nd:∀H:Hp,Nc H->ag K H a (ns.map V.int)->cS P w H bB.heap->(∀b,H b≠none->b=a)->(H a≠none->K.lookup a=none)->
   codeAny (model P w) callerA (.call (.ref fa) ⟨[.ref a],[]⟩) (λr s'=>r= .ok (.ret (.bool true))/\OldK bB.heap s'.heap/\s'.os=bB.os/\AllBare s'.gens) bB:=by
  intro H hO hS aO hA hK;have uN:∀{b:Addr}{o:Obj},bB.heap.get? b=some o->H b=none->(iB bB.heap H).get? b=some o:=λe n=>Lr e n
  have nE:∀{b:Addr}{o:Obj}{es:Array DictEntry}{ep:Nat},bB.heap.get? b=some o->o.data= .dict es ep->H b=none:=fun {b o es ep} e d=>by
   cases q:H b with
   |none=>rfl
   |some u=>have e':b=a:=hA b (by rw[q];simp);subst e';rw[ha]at e;cases e;have d':Data.seq vs.toArray _=Data.dict es ep:=d;cases d'
  have mf:∀{b:Addr}{m:Str->Option Value},bB.heap.Ns b m->(iB bB.heap H).Ns b m:=fun {b m} ⟨o,es,ep,e,d,r⟩=>⟨o,es,ep,uN e (nE e d),d,r⟩
  have uO:K.In (iB bB.heap H):=λb o e=>uN (KX b o e) (by
   cases q:H b with
   |none=>rfl
   |some u=>have e':b=a:=hA b (by rw[q];simp);subst e';rw[hK (by rw[q];simp)]at e;cases e)
  have hM:Mod K mg (iB bB.heap H):=⟨uO,mf uM,⟨mb,mf hb,ES⟩,let ⟨mc,h1,h2⟩:=ET;⟨mc,mf h1,h2⟩⟩;have e0:nA P w K mg (iB bB.heap H) callerA [] bB H:=⟨rfl,hM,λb o e=>Lu e,xy (Lp _ _),trivial,λb hb=>absurd (show b∈([]:List Addr) from hb) (by simp),aO,.of_eq hg⟩;refine codeAny_mono ((F _ uO (mf uM)).run callerA [] bB H ⟨[.ref a],[]⟩ [.ref a] [.ref a] _ _ hr e0 (EU bB (.ref a)) (.cons rfl .nil) (iq H hO hS)) λr s' h=>?_
  cases r with
  |error e=>exact (pD H e s' h).elim
  |ok fl=>
   cases fl with
   |next=>exact False.elim h
   |brk=>exact False.elim h
   |cont=>exact False.elim h
   |ret u=>
    obtain ⟨v,H',os,eL,un,AX,r',q⟩:=h;have q':v= .bl true:=q;subst q';obtain rfl:u=Value.bool true:=r';refine ⟨rfl,OldK.of_keep λb o e=>?_,os,eL⟩;cases q:H b with
    |none=>exact un.keep b o e q (by intro z;exact absurd (show b∈([]:List Addr) from z) (by simp)) (by simp)
    |some u=>
     rcases hO b with z|⟨ob,xs,z⟩
     ·rw[q]at z;cases z
     ·have z2:=un.jh b ob _ z;obtain ⟨e1,_⟩:=aO b _ z;obtain ⟨e2,_⟩:=AX b _ z2;rw[e]at e1;cases e1;exact e2
 cases hk:K.lookup a with
 |some o=>have e:=KX a o hk;rw[ha]at e;cases e;refine Nd (λ_a=>none) (λ_a=> .inl rfl) (.inr ⟨_,vs.toArray,_,hk,rfl,rfl,rfl,by rw[xl,aaF];exact hl,by simpa using rv⟩) (λb u z=>by have z':(none:Option HO)=some u:=z;cases z') (λb z=>absurd rfl z) λz=>absurd rfl z
 |none=>
  refine Nd (λb=>if b=a then some (.bI {cls:= .type "list",data:= .seq vs.toArray} (.lst (ns.map V.int))) else none) (λb=>?_) (.inl (.inr ⟨{cls:= .type "list",data:= .seq vs.toArray},Zx rfl⟩)) (λb u z=>?_) (λb z=>?_) λ_a=>hk
  ·by_cases hb:b=a
   ·exact .inr ⟨_,_,Zx hb⟩
   ·exact .inl (Zw hb)
  ·by_cases hb:b=a
   ·have z':=(Zx hb).symm.trans z;cases z';subst hb;exact ⟨ha,by rw[yA];exact hl,vs,_,rv,ha⟩
   ·have z':=(Zw hb).symm.trans z;cases z'
  ·by_cases hb:b=a
   ·exact hb
   ·exact absurd (Zw hb) z
noncomputable def uP (s:Stmt) (j:Nat):Stmt:=match s with
 | .ClassDef _ _ _ body _ _ _ _ _ _ _=>body.getD j (.Pass ⟨0,0,0,0⟩)
 |_=> .Pass ⟨0,0,0,0⟩
noncomputable def iX (s:Stmt):Arguments:=match s with
 | .FunctionDef _ a _ _ _ _ _ _ _ _=>a
 |_=>{posonlyargs:= [],args:= [],vararg:=none,kwonlyargs:= [],kw_defaults:= [],kwarg:=none,defaults:= []}
noncomputable def gu (s:Stmt):List Stmt:=match s with
 | .FunctionDef _ _ b _ _ _ _ _ _ _=>b
 |_=> []
noncomputable def df (s:Stmt):Scope:=match s with
 | .FunctionDef _ _ _ _ _ _ sc _ _ _=>sc
 |_=>{kind:= .function,names:= [],isGenerator:=false,isCoroutine:=false}
noncomputable abbrev fX:jn:=λ_a _a _a _a _a _a=>False
noncomputable abbrev E0:XK:=λ_a _a _a=>False
theorem rC {X:Cx}:jo fX X E0:=λ_a _a _a _a _a _a _a h=>h.elim
structure gv (K:PySem.W.Frag) (x qual:Str) (st:Stmt) (f:Addr) (fd:FuncData):Prop where
 ex:∃(oc:Value) (od:Option Addr) (kV doc pm:Value) (an:Option Addr) (aK ct:Value) (iV:Array (Option Value)),
  fd=PySem.W.fnOf x qual (iX st) (gu st) (df st) .none kV doc pm an aK ct/\K.lookup f=some ⟨oc,od,.func fd,iV⟩/\PySem.W.codeIn K aK qual=true
 kp:PySem.W.keepIn K (.ref f)=true
section
variable {P:Program}{w:World}{K:PySem.W.Frag}{mg:Str->Option Value}{base:Heap}
theorem gv.ok {x qual:Str}{st:Stmt}{f:Addr}{fd:FuncData}{N ps:List Str}{k:Nat}{sp:Sp}(F:gv K x qual st f fd) (S:jq N ps (df st)) (len:∀vs H Q E,sp vs H Q E->vs.length=ps.length)
  (l4:∀(aK:Value) (A:Around) (aJ:List Env) (s:Shared) (H:Hp) (vs:List V) (Q:VK) (E:XK),Room k (A.deeper (envOfC qual (df st) s.heap.objs.size f aK))->sp vs H Q E->
   ∃t,gL (lZ fX P w K mg base N qual (df st) f aK A aJ s H E).o5 (gu st) t/\t {nx:=λ_a H'=>Q .bT H',rt:=Q} (start N vs) H):gO P w K mg base fX (k+1) f fd ps sp:=by
 obtain ⟨oc,od,kV,doc,pm,an,aK,ct,iV,rfl,lk,lQ⟩:=F.ex;refine XX lk lQ S len λA aJ s H vs Q E hr iq=>?_
 obtain ⟨t,h,q⟩:=l4 aK A aJ s H vs Q E hr iq;exact ⟨t,h.o5,q⟩
theorem gv.nB {x qual:Str}{st:Stmt}{f:Addr}{fd:FuncData}{ps:List Str}(F:gv K x qual st f fd)
  (h:∀(kV doc pm:Value) (an:Option Addr) (aK ct:Value) (us:List Value),us.length=ps.length->bindArgs (PySem.W.fnOf x qual (iX st) (gu st) (df st) .none kV doc pm an aK ct) ⟨us,[]⟩=pure (ps.zip us)):kW K fd ps []:=by
 obtain ⟨oc,od,kV,doc,pm,an,aK,ct,iV,rfl,lk,lQ⟩:=F.ex;exact .all (h kV doc pm an aK ct)
theorem EV {x qual:Str}{st:Stmt}{f:Addr}{oc:Value}{od an:Option Addr}{iV:Array (Option Value)}{kV doc pm aK ct:Value}(l:K.lookup f=some ⟨oc,od,.func (PySem.W.fnOf x qual (iX st) (gu st) (df st) .none kV doc pm an aK ct),iV⟩)
  (c:PySem.W.codeIn K aK qual=true) (k:PySem.W.keepIn K (.ref f)=true):gv K x qual st f (PySem.W.fnOf x qual (iX st) (gu st) (df st) .none kV doc pm an aK ct):=⟨⟨oc,od,kV,doc,pm,an,aK,ct,iV,rfl,l,c⟩,k⟩
end
theorem pE {A:Around}{k:Nat}(hr:Room k A):A.units+1<cLine:=xG (Nat.add_le_add_left (by decide:1<=64) _) hr.units
section
variable {X:Cx}
theorem pv (i:Nat) {x:Str}{pos:Pos}(hN:X.N[i]? =some x:=by rfl) (hv:qN X.ah.scope x:=by first|exact Or.inl rfl|exact Or.inr (Or.inl rfl)|exact Or.inr (Or.inr rfl)) (hd:(x==("__debug__":Str))=false:=by decide)
  (lQ:(x==("__classdict__":Str))=false:=by decide):PE X (.Name x pos) (lP i):=WH hN hv hd lQ
end
theorem j6 {A B:Prop}(h:B):if false=true then A else B:=by rw[Zw zi];exact h
theorem iY {A B:Prop}(h:A):if true=true then A else B:=by rw[Zx rfl];exact h
noncomputable def aq (H H':Hp):Prop:=∀b o,H b=some o->H' b=some o
theorem aq.refl (H:Hp):aq H H:=λ_a _a h=>h
theorem aq.trans {H H1 H2:Hp}(a:aq H H1) (b:aq H1 H2):aq H H2:=λc o h=>b c o (a c o h)
theorem aq.free {H H':Hp}(e:aq H H') {l:Addr}(h:H' l=Option.none):H l=Option.none:=by
 cases q:H l with
 |none=>rfl
 |some o=>rw[e l o q]at h;cases h
theorem aq.seq {K:PySem.W.Frag}{H H':Hp}{a:Addr}{xs:List V}(e:aq H H') (h:ag K H a xs):ag K H' a xs:=by
 rcases h with (h|⟨o,h⟩)|h
 ·exact .inl (.inl (e _ _ h))
 ·exact .inl (.inr ⟨o,e _ _ h⟩)
 ·exact .inr h
section
variable {κ:Type} [DecidableEq κ]
theorem rD:∀{l:List κ}{k:κ},l.Nodup->¬k∈l->(l++ [k]).Nodup
 | [],k,_,_=>by simp
 |a::r,k,h,hk=>by
  obtain ⟨h1,h2⟩:=xa.mp h;show (a::(r++ [k])).Nodup;refine xa.mpr ⟨λm=>?_,rD h2 λm=>hk (yT.mpr (Or.inr m))⟩;rcases List.mem_append.mp m with q|q
  ·exact h1 q
  ·exact hk (yT.mpr (Or.inl (List.mem_singleton.mp q).symm))
end
theorem EW {xs:List V}{z:Int}{j:Nat}{v:V}(e:z=(j:Int)) (h:xs[j]? =some v):hG xs z=some v:=by rw[e];exact ck h
end L2
namespace L2
open PySem PySem.Spec PyProof.Rows
open PySem.W (WData Codec OpenSpec Well WellAll ReadsW ReadsAllW)
mutual
inductive Dw (K:PySem.W.Frag) (H:Hp):V->WData->Prop
 |bT:Dw K H .bT .none
 |bl (b:Bool):Dw K H (.bl b) (.bool b)
 |int (i:Int):Dw K H (.int i) (.int i)
 |str (x:Str):Dw K H (.str x) (.str x)
 |gJ (b:Array UInt8):Dw K H (.gJ b) (.bytes b.toList)
 |lst {a:Addr}{xs:List V}{ds:List WData}:ag K H a xs->jz K H xs ds->Dw K H (.ref a) (.list ds)
 |bP {a:Addr}{xs:List V}{ds:List WData}:cu K H a xs->jz K H xs ds->Dw K H (.ref a) (.tuple ds)
inductive jz (K:PySem.W.Frag) (H:Hp):List V->List WData->Prop
 |nil:jz K H [] []
 |cons {v:V}{vs:List V}{d:WData}{ds:List WData}:Dw K H v d->jz K H vs ds->jz K H (v::vs) (d::ds)
end
theorem Nf {K:PySem.W.Frag}{H:Hp}:∀ns:List Int,jz K H (ns.map V.int) (ns.map WData.int)
 | []=> .nil
 |n::r=> .cons (.int n) (Nf r)
theorem Ng {K:PySem.W.Frag}{H:Hp}:∀(ns:List Int) (xs:List V),jz K H xs (ns.map WData.int)->xs=ns.map V.int
 | [],xs,h=>by cases h;rfl
 |n::r,xs,h=>by
  cases h with
  |cons h1 h2=>cases h1;rw[Ng r _ h2]<;>rfl
section
variable {P:Program}{w:World}{K:PySem.W.Frag}{H:Hp}{h:Heap}{R:PySem.W.WRecords}{cl:Str->Option Addr}
theorem aaG {a:Addr}{xs:List V}(aO:cS P w H h) (KX:K.In h) (q:ag K H a xs):∃(ay:List Value) (o:Obj) (n:Nat),aV xs ay/\h.get? a=some o/\o.cls= .type "list"/\o.data= .seq ay.toArray n:=by
 rcases q with q|⟨o,ay,n,e,hc,_,hd,_,hv⟩
 ·obtain ⟨_,ay,n,hv,e⟩:=(show dM P w H h a (.lst xs) from q.ok aO);exact ⟨ay,_,n,hv,e,rfl,rfl⟩
 ·exact ⟨ay.toList,o,n,hv,KX _ _ e,hc,by simp[hd]⟩
theorem aaH {a:Addr}{xs:List V}(aO:cS P w H h) (KX:K.In h) (q:cu K H a xs):∃(ay:List Value) (o:Obj) (n:Nat),aV xs ay/\h.get? a=some o/\o.cls= .type "tuple"/\o.data= .seq ay.toArray n:=by
 rcases q with q|⟨o,ay,n,e,hc,hd,_,hv⟩
 ·obtain ⟨_,ay,hv,o,e,hc,n,hd⟩:=(show dM P w H h a (.bP xs) from q.ok aO);exact ⟨ay,o,n,hv,e,hc,hd⟩
 ·exact ⟨ay.toList,o,n,hv,KX _ _ e,hc,by simp[hd]⟩
mutual
theorem Dw.rh (aO:cS P w H h) (KX:K.In h):∀(d:WData) (v:V) (u:Value),Dw K H v d->bw v u->∃as,ReadsW R cl h u d as
 | .none,_,_,x,r=>by cases x;cases r;exact ⟨_,ReadsW.none⟩
 | .bool b,_,_,x,r=>by cases x;cases r;exact ⟨_,ReadsW.bool b⟩
 | .int i,_,_,x,r=>by cases x;obtain ⟨t,rfl⟩:=r;exact ⟨_,ReadsW.int i t⟩
 | .str s,_,_,x,r=>by cases x;obtain ⟨t,rfl⟩:=r;exact ⟨_,ReadsW.str s t⟩
 | .bytes b,_,_,x,r=>by cases x;obtain ⟨t,rfl⟩:=r;exact ⟨_,ReadsW.bytes _ t⟩
 | .list ds,_,_,x,r=>by
  cases x with
  |lst hs ha=>cases r;obtain ⟨ay,o,n,rv,ho,hc,hd⟩:=aaG aO KX hs;obtain ⟨as,hr⟩:=Dw.pz aO KX ds _ ay ha rv;exact ⟨_,ReadsW.list ho hc hd hr⟩
 | .tuple ds,_,_,x,r=>by
  cases x with
  |bP hs ha=>cases r;obtain ⟨ay,o,n,rv,ho,hc,hd⟩:=aaH aO KX hs;obtain ⟨as,hr⟩:=Dw.pz aO KX ds _ ay ha rv;exact ⟨_,ReadsW.tuple ho hc hd hr⟩
 | .float _,_,_,x,_=>by cases x
 | .dict _,_,_,x,_=>by cases x
 | .bytearray _,_,_,x,_=>by cases x
 | .set _,_,_,x,_=>by cases x
 | .frozenset _,_,_,x,_=>by cases x
 | .obj _ _,_,_,x,_=>by cases x
theorem Dw.pz (aO:cS P w H h) (KX:K.In h):∀(ds:List WData) (vs:List V) (us:List Value),jz K H vs ds->aV vs us->∃as,ReadsAllW R cl h us ds as
 | [],_,_,x,r=>by cases x;cases r;exact ⟨_,ReadsAllW.nil⟩
 |d::ds,_,_,x,r=>by
  cases x with
  |cons h1 h2=>
   cases r with
   |cons r1 r2=>obtain ⟨as,q1⟩:=Dw.rh aO KX d _ _ h1 r1;obtain ⟨bs,q2⟩:=Dw.pz aO KX ds _ _ h2 r2;exact ⟨_,ReadsAllW.cons q1 q2⟩
end
end
mutual
noncomputable def iG:WData->Bool
 | .none=>true
 | .bool _=>true
 | .int _=>true
 | .str _=>true
 | .bytes _=>true
 | .list xs=>jA xs
 | .tuple xs=>jA xs
 |_=>false
noncomputable def jA:List WData->Bool
 | []=>true
 |x::r=>iG x&&jA r
end
theorem Nh {α:Type}{f:α->WData}(h:∀a,iG (f a)=true):∀l:List α,jA (l.map f)=true
 | []=>rfl
 |x::r=>by show (iG (f x)&&jA (r.map f))=true;rw[h x,Nh h r]<;>rfl
theorem nP:∀(c:Codec) (a:c.denote),iG (c.enc a)=true
 | .unit,_=>rfl
 | .bool,_=>rfl
 | .int _ _,_=>rfl
 | .nat _ _,_=>rfl
 | .u8,_=>rfl
 | .bytes _ _,_=>rfl
 | .text _ _ _ _,_=>rfl
 | .list _ _ c,a=>Nh (λx=>nP c x) a
 | .pair c d,a=>by show (iG (c.enc a.1)&&(iG (d.enc a.2)&&true))=true;rw[nP c a.1,nP d a.2]<;>rfl
 | .triple c d e,a=>by show (iG (c.enc a.1)&&(iG (d.enc a.2.1)&&(iG (e.enc a.2.2)&&true)))=true;rw[nP c a.1,nP d a.2.1,nP e a.2.2]<;>rfl
 | .option c,none=>rfl
 | .option c,some x=>nP c x
theorem Ni:∀(cs:List Codec) (a:Codec.denoteAll cs),jA (Codec.encAll cs a)=true
 | [],_=>rfl
 |c::cs,a=>by show (iG (c.enc a.1)&&jA (Codec.encAll cs a.2))=true;rw[nP c a.1,Ni cs a.2]<;>rfl
theorem EX:∀{xs:List WData}{d:WData},d∈xs->d.weight<=WData.weightAll xs
 | [],d,h=>absurd h (by simp)
 |x::r,d,h=>by
  show d.weight<=x.weight+1+WData.weightAll r;rcases yT.mp h with e|m
  ·rw[e];omega
  ·have z:=EX m;omega
noncomputable def gw:Value->V
 | .none=> .bT
 | .bool b=> .bl b
 | .int i _=> .int i
 | .str x _=> .str x
 | .bytes b _=> .gJ b
 | .ref a=> .ref a
 |_=> .bT
noncomputable def iZ (A:List Addr):Value->Prop
 | .none=>True
 | .bool _=>True
 | .int _ _=>True
 | .str _ _=>True
 | .bytes _ _=>True
 | .ref a=>a∈A
 |_=>False
theorem iZ.mono {A B:List Addr}(h:∀a∈A,a∈B):∀{u:Value},iZ A u->iZ B u:=fun {u} x=>by
 cases u with
 |ref a=>exact h a x
 |none=>trivial
 |bool b=>trivial
 |int i t=>trivial
 |str s t=>trivial
 |bytes b t=>trivial
 |_=>exact False.elim x
theorem aaI {A:List Addr}{u:Value}(x:iZ A u):bw (gw u) u:=by
 cases u with
 |ref a=>rfl
 |none=>rfl
 |bool b=>rfl
 |int i t=>exact ⟨t,rfl⟩
 |str s t=>exact ⟨t,rfl⟩
 |bytes b t=>exact ⟨t,rfl⟩
 |_=>exact False.elim x
theorem rE {A:List Addr}:∀{vs:List Value},(∀u∈vs,iZ A u)->aV (vs.map gw) vs
 | [],_=> .nil
 |u::r,h=> .cons (aaI (h u (yV ..))) (rE λx hx=>h x (yU _ hx))
noncomputable def jB (h:Heap) (A:List Addr) (a:Addr):Prop:=∃vs:List Value,vs.length<=sizeLine/\(∀u∈vs,iZ A u)/\
 (h.get? a=some {cls:= .type "list",data:= .seq vs.toArray}\/h.get? a=some {cls:= .type "tuple",data:= .seq vs.toArray})
theorem jB.mono {h:Heap}{A B:List Addr}{a:Addr}(k:∀a∈A,a∈B) (x:jB h A a):jB h B a:=by obtain ⟨vs,h1,h2,h3⟩:=x;exact ⟨vs,h1,λu hu=>(h2 u hu).mono k,h3⟩
theorem AY {P:Params}{h:Heap}:∀{vs:List Value}{ds:List WData},WellAll P h vs ds->vs.length=ds.length
 |_,_,.nil=>rfl
 |_,_,.cons _ b=>by show _+1=_+1;rw[AY b]
theorem Nj {P:Params}{h:Heap}{v:Value}{ds:List WData}(x:Well P h v (.list ds)):∃(a:Addr) (vs:List Value),v= .ref a/\h.get? a=some {cls:= .type "list",data:= .seq vs.toArray}/\WellAll P h vs ds:=by
 cases x with
 |list ho eF=>exact ⟨_,_,rfl,ho,eF⟩
theorem Nk {P:Params}{h:Heap}{v:Value}{ds:List WData}(x:Well P h v (.tuple ds)):∃(a:Addr) (vs:List Value),v= .ref a/\h.get? a=some {cls:= .type "tuple",data:= .seq vs.toArray}/\WellAll P h vs ds:=by
 cases x with
 |tuple ho eF=>exact ⟨_,_,rfl,ho,eF⟩
theorem Nl {P:Params}{h:Heap}{us:List Value}{d:WData}{ds:List WData}(x:WellAll P h us (d::ds)):∃(v:Value) (vs:List Value),us=v::vs/\Well P h v d/\WellAll P h vs ds:=by
 cases x with
 |cons a b=>exact ⟨_,_,rfl,a,b⟩
theorem Nm {n:Nat}(h:n<=1048576):n<=sizeLine:=xE h ZE
section
variable {P:Params}{h:Heap}
mutual
theorem aaJ:∀(d:WData) (v:Value),Well P h v d->iG d=true->d.weight<=1048576->∃A:List Addr,iZ A v/\∀a∈A,jB h A a
 | .none,_,x,_,_=>by cases x;exact ⟨[],trivial,λa m=>absurd m (by simp)⟩
 | .bool b,_,x,_,_=>by cases x;exact ⟨[],trivial,λa m=>absurd m (by simp)⟩
 | .int i,_,x,_,_=>by cases x;exact ⟨[],trivial,λa m=>absurd m (by simp)⟩
 | .str s,_,x,_,_=>by cases x;exact ⟨[],trivial,λa m=>absurd m (by simp)⟩
 | .bytes b,_,x,_,_=>by cases x;exact ⟨[],trivial,λa m=>absurd m (by simp)⟩
 | .list ds,_,x,p,z=>by
  obtain ⟨a,vs,rfl,ho,eF⟩:=Nj x;have z2:WData.weightAll ds<=1048576:=z;obtain ⟨A,h1,h2⟩:=AZ ds _ eF p λd hd=>xE (EX hd) z2
  have k:∀b∈A,b∈a::A:=λb hb=>yU _ hb
  refine ⟨a::A,yV ..,λb hb=>?_⟩;rcases yT.mp hb with e|m
  ·rw[e];exact ⟨vs,Nm (by rw[AY eF];exact xE (Zh ds) z2),λu hu=>(h1 u hu).mono k,.inl ho⟩
  ·exact (h2 b m).mono k
 | .tuple ds,_,x,p,z=>by
  obtain ⟨a,vs,rfl,ho,eF⟩:=Nk x;have z2:WData.weightAll ds<=1048576:=z;obtain ⟨A,h1,h2⟩:=AZ ds _ eF p λd hd=>xE (EX hd) z2
  have k:∀b∈A,b∈a::A:=λb hb=>yU _ hb
  refine ⟨a::A,yV ..,λb hb=>?_⟩;rcases yT.mp hb with e|m
  ·rw[e];exact ⟨vs,Nm (by rw[AY eF];exact xE (Zh ds) z2),λu hu=>(h1 u hu).mono k,.inr ho⟩
  ·exact (h2 b m).mono k
 | .float _,_,_,p,_=>Bool.noConfusion (show false=true from p)
 | .dict _,_,_,p,_=>Bool.noConfusion (show false=true from p)
 | .bytearray _,_,_,p,_=>Bool.noConfusion (show false=true from p)
 | .set _,_,_,p,_=>Bool.noConfusion (show false=true from p)
 | .frozenset _,_,_,p,_=>Bool.noConfusion (show false=true from p)
 | .obj _ _,_,_,p,_=>Bool.noConfusion (show false=true from p)
theorem AZ:∀(ds:List WData) (vs:List Value),WellAll P h vs ds->jA ds=true->(∀d∈ds,d.weight<=1048576)->∃A:List Addr,(∀u∈vs,iZ A u)/\∀a∈A,jB h A a
 | [],_,x,_,_=>by cases x;exact ⟨[],λu m=>absurd m (by simp),λa m=>absurd m (by simp)⟩
 |d::ds,_,x,p,z=>by
  obtain ⟨v,vs,rfl,x1,x2⟩:=Nl x;have q:iG d=true/\jA ds=true:=Bool.and_eq_true_iff.mp p;obtain ⟨A,a1,a2⟩:=aaJ d v x1 q.1 (z d (yV ..));obtain ⟨B,b1,b2⟩:=AZ ds vs x2 q.2 λe he=>z e (yU _ he)
  have kA:∀b∈A,b∈A++B:=λb hb=>List.mem_append.mpr (.inl hb)
  have kB:∀b∈B,b∈A++B:=λb hb=>List.mem_append.mpr (.inr hb)
  refine ⟨A++B,λu hu=>?_,λb hb=>?_⟩
  ·rcases yT.mp hu with e|m
   ·rw[e];exact a1.mono kA
   ·exact (b1 u m).mono kB
  ·rcases List.mem_append.mp hb with m|m
   ·exact (a2 b m).mono kA
   ·exact (b2 b m).mono kB
end
end
noncomputable def A4 (o:Obj):Option HO:=match o.data with
 | .seq vs _=>if (o.cls==Value.type "list")=true then some (.bI o (.lst (vs.toList.map gw))) else some (.bI o (.bP (vs.toList.map gw)))
 |_=>none
noncomputable def fI (K:PySem.W.Frag) (h:Heap) (A:List Addr):Hp:=λb=>if b∈A then (if (K.lookup b).isNone=true then (h.get? b).bind A4 else none) else none
noncomputable def uQ (H:Hp):Prop:=∀b,H b=none\/∃o u,H b=some (.bI o u)
theorem Nn (vs:List Value):A4 {cls:= .type "list",data:= .seq vs.toArray}=some (.bI {cls:= .type "list",data:= .seq vs.toArray} (.lst (vs.map gw))):=by show (if (Value.type "list"==Value.type "list")=true then some (HO.bI {cls:= .type "list",data:= .seq vs.toArray} (.lst (vs.toArray.toList.map gw))) else some (HO.bI {cls:= .type "list",data:= .seq vs.toArray} (.bP (vs.toArray.toList.map gw))))=_;rw[Zx (beq_self_eq_true _)]
theorem Np (vs:List Value):A4 {cls:= .type "tuple",data:= .seq vs.toArray}=some (.bI {cls:= .type "tuple",data:= .seq vs.toArray} (.bP (vs.map gw))):=by show (if (Value.type "tuple"==Value.type "list")=true then some (HO.bI {cls:= .type "tuple",data:= .seq vs.toArray} (.lst (vs.toArray.toList.map gw))) else some (HO.bI {cls:= .type "tuple",data:= .seq vs.toArray} (.bP (vs.toArray.toList.map gw))))=_;rw[Zw ZE]
section
variable {P:Program}{w:World}{K:PySem.W.Frag}{h:Heap}{A:List Addr}
theorem A5 {b:Addr}{o:Obj}(hb:b∈A) (hk:K.lookup b=none) (e:h.get? b=some o):fI K h A b=A4 o:=by unfold fI;rw[Zx hb,hk,Zx (show (none:Option Obj).isNone=true from rfl),e]<;>rfl
theorem aaK {b:Addr}{u:HO}(q:fI K h A b=some u):b∈A/\K.lookup b=none:=by
 unfold fI at q;by_cases hb:b∈A
 ·rw[Zx hb]at q;cases hk:K.lookup b with
  |none=>exact ⟨hb,rfl⟩
  |some o=>rw[hk,Zw (by simp)]at q;cases q
 ·rw[Zw hb]at q;cases q
theorem A6 (ar:∀a∈A,jB h A a) {b:Addr}{u:HO}(q:fI K h A b=some u):K.lookup b=none/\∃vs:List Value,vs.length<=sizeLine/\(∀u∈vs,iZ A u)/\
  ((h.get? b=some {cls:= .type "list",data:= .seq vs.toArray}/\u= .bI {cls:= .type "list",data:= .seq vs.toArray} (.lst (vs.map gw)))\/
   (h.get? b=some {cls:= .type "tuple",data:= .seq vs.toArray}/\u= .bI {cls:= .type "tuple",data:= .seq vs.toArray} (.bP (vs.map gw)))):=by
 obtain ⟨hb,hk⟩:=aaK q;obtain ⟨vs,h1,h2,h3⟩:=ar b hb;refine ⟨hk,vs,h1,h2,?_⟩;rcases h3 with e|e
 ·rw[A5 hb hk e,Nn]at q;exact .inl ⟨e,(xX q).symm⟩
 ·rw[A5 hb hk e,Np]at q;exact .inr ⟨e,(xX q).symm⟩
theorem aaL (ar:∀a∈A,jB h A a):uQ (fI K h A):=λb=>by
 cases q:fI K h A b with
 |none=>exact .inl rfl
 |some u=>
  obtain ⟨_,vs,_,_,⟨_,e⟩|⟨_,e⟩⟩:=A6 ar q
  ·exact .inr ⟨_,_,by rw[e]⟩
  ·exact .inr ⟨_,_,by rw[e]⟩
theorem aaM (ar:∀a∈A,jB h A a):cS P w (fI K h A) h:=λb u q=>by
 obtain ⟨_,vs,h1,h2,⟨e,rfl⟩|⟨e,rfl⟩⟩:=A6 ar q
 ·exact ⟨e,by rw[yA];exact h1,vs,_,rE h2,e⟩
 ·exact ⟨e,by rw[yA];exact h1,vs,rE h2,_,e,rfl,_,rfl⟩
theorem A7 {c c':Value}{vs us:List Value}(e:(some {cls:=c,data:= .seq vs.toArray}:Option Obj)=some {cls:=c',data:= .seq us.toArray}):c=c'/\vs=us:=by have e1:=xX e;have e2:c=c':=Zo Obj.cls e1;have e3:Data.seq vs.toArray=Data.seq us.toArray:=Zo Obj.data e1;injection e3 with e4;refine ⟨e2,?_⟩;have e5:=Zo Array.toList e4;simpa using e5
theorem aaN (KX:K.In h) (ar:∀a∈A,jB h A a) {a:Addr}{vs:List Value}(ha:a∈A) (e:h.get? a=some {cls:= .type "list",data:= .seq vs.toArray}):(∀u∈vs,iZ A u)/\ag K (fI K h A) a (vs.map gw):=by
 obtain ⟨us,h1,h2,h3⟩:=ar a ha;have hu:us=vs:=by
  rcases h3 with q|q
  ·rw[e]at q;exact (A7 q).2.symm
  ·rw[e]at q;exact absurd (Value.type.inj (A7 q).1) ZE
 subst hu;refine ⟨h2,?_⟩;cases hk:K.lookup a with
 |none=>exact .inl (.inr ⟨_,by rw[A5 ha hk e,Nn]⟩)
 |some o=>have e2:=KX a o hk;rw[e]at e2;obtain rfl:=xX e2;exact .inr ⟨_,us.toArray,_,hk,rfl,rfl,rfl,by rw[xl];exact h1,by simpa using rE h2⟩
theorem aaO (KX:K.In h) (ar:∀a∈A,jB h A a) {a:Addr}{vs:List Value}(ha:a∈A) (e:h.get? a=some {cls:= .type "tuple",data:= .seq vs.toArray}):(∀u∈vs,iZ A u)/\cu K (fI K h A) a (vs.map gw):=by
 obtain ⟨us,h1,h2,h3⟩:=ar a ha;have hu:us=vs:=by
  rcases h3 with q|q
  ·rw[e]at q;exact absurd (Value.type.inj (A7 q).1) ZE
  ·rw[e]at q;exact (A7 q).2.symm
 subst hu;refine ⟨h2,?_⟩;cases hk:K.lookup a with
 |none=>exact .inl (.inr ⟨_,by rw[A5 ha hk e,Np]⟩)
 |some o=>have e2:=KX a o hk;rw[e]at e2;obtain rfl:=xX e2;exact .inr ⟨_,us.toArray,_,hk,rfl,rfl,by rw[xl];exact h1,by simpa using rE h2⟩
mutual
theorem aaP {Pm:Params}(KX:K.In h) (ar:∀a∈A,jB h A a):∀(d:WData) (v:Value),Well Pm h v d->iG d=true->iZ A v->Dw K (fI K h A) (gw v) d
 | .none,_,x,_,_=>by cases x;exact .bT
 | .bool b,_,x,_,_=>by cases x;exact .bl b
 | .int i,_,x,_,_=>by cases x;exact .int i
 | .str s,_,x,_,_=>by cases x;exact .str s
 | .bytes b,_,x,_,_=>by cases x;have z:=Dw.gJ (K:=K) (H:=fI K h A) b.toArray;exact z
 | .list ds,_,x,p,hu=>by obtain ⟨a,vs,rfl,ho,eF⟩:=Nj x;obtain ⟨h2,hs⟩:=aaN KX ar hu ho;exact .lst hs (A8 KX ar ds _ eF p h2)
 | .tuple ds,_,x,p,hu=>by obtain ⟨a,vs,rfl,ho,eF⟩:=Nk x;obtain ⟨h2,hs⟩:=aaO KX ar hu ho;exact .bP hs (A8 KX ar ds _ eF p h2)
 | .float _,_,_,p,_=>Bool.noConfusion (show false=true from p)
 | .dict _,_,_,p,_=>Bool.noConfusion (show false=true from p)
 | .bytearray _,_,_,p,_=>Bool.noConfusion (show false=true from p)
 | .set _,_,_,p,_=>Bool.noConfusion (show false=true from p)
 | .frozenset _,_,_,p,_=>Bool.noConfusion (show false=true from p)
 | .obj _ _,_,_,p,_=>Bool.noConfusion (show false=true from p)
theorem A8 {Pm:Params}(KX:K.In h) (ar:∀a∈A,jB h A a):∀(ds:List WData) (vs:List Value),WellAll Pm h vs ds->jA ds=true->(∀u∈vs,iZ A u)->jz K (fI K h A) (vs.map gw) ds
 | [],_,x,_,_=>by cases x;exact .nil
 |d::ds,_,x,p,hu=>by obtain ⟨v,vs,rfl,x1,x2⟩:=Nl x;have q:iG d=true/\jA ds=true:=Bool.and_eq_true_iff.mp p;exact .cons (aaP KX ar d v x1 q.1 (hu _ (yV ..))) (A8 KX ar ds vs x2 q.2 λu m=>hu u (yU _ m))
end
end
set_option tactic.hygienic true in
theorem aaQ {P:Program}{w:World}{K:PySem.W.Frag}{mg mb:Str->Option Value}{CX:jn}{k:Nat}{fa:Addr}{fd:FuncData}{ps:List Str}{sp:Sp}{bB:Shared}{k5:List Value}{ds:List WData}{R:PySem.W.WRecords}{cl:Str->Option Addr}{d0:WData}
  (KX:K.In bB.heap) (uM:bB.heap.Ns mainGlobals mg) (hb:bB.heap.Ns builtinsNs mb) (ES:∀x:Str,x≠"__name__"->mb x=bootBuiltins x) (ET:bB.heap.NoLimit) (hg:bB.gens=#[])
  (mh:WellAll w.params bB.heap k5 ds) (dj:jA ds=true) (hwt:∀d∈ds,d.weight<=1048576) (hr:Room k callerA)
  (F:∀base:Heap,K.In base->base.Ns mainGlobals mg->gO P w K mg base CX k fa fd ps sp) (EU:∀(s:Shared) (us:List Value),us.length=ps.length->BindsTo s fd ⟨us,[]⟩ (ps.zip us)) (bW:ds.length=ps.length)
  (iq:∀(H:Hp) (xs:List V),uQ H->jz K H xs ds->sp xs H (λv H'=>Dw K H' v d0) λ_a _a _a=>False)
  (pD:∀H e s',CX [] H bB (λ_a _a _a=>False) e s'->False):
  codeAny (model P w) callerA (.call (.ref fa) ⟨k5,[]⟩) (λr s'=>∃u as,r= .ok (.ret u)/\ReadsW R cl s'.heap u d0 as/\OldK bB.heap s'.heap/\s'.os=bB.os/\AllBare s'.gens) bB:=by
 obtain ⟨A,ho,ar⟩:=AZ ds k5 mh dj hwt;have hO:uQ (fI K bB.heap A):=aaL ar;have aO:cS P w (fI K bB.heap A) bB.heap:=aaM ar;have hS:=A8 KX ar ds k5 mh dj ho;have hV:=rE ho;have hK:∀b u,fI K bB.heap A b=some u->K.lookup b=none:=λb u q=>(A6 ar q).1
 have nE:∀{b:Addr}{o:Obj}{es:Array DictEntry}{ep:Nat},bB.heap.get? b=some o->o.data= .dict es ep->fI K bB.heap A b=none:=fun {b o es ep} e d=>by
  cases q:fI K bB.heap A b with
  |none=>rfl
  |some u=>
   obtain ⟨_,vs,_,_,⟨e2,_⟩|⟨e2,_⟩⟩:=A6 ar q
   ·rw[e2]at e;cases e;have d':Data.seq vs.toArray _=Data.dict es ep:=d;cases d'
   ·rw[e2]at e;cases e;have d':Data.seq vs.toArray _=Data.dict es ep:=d;cases d'
 generalize fI K bB.heap A=H at hO aO hS hK nE;have uN:∀{b:Addr}{o:Obj},bB.heap.get? b=some o->H b=none->(iB bB.heap H).get? b=some o:=λe n=>Lr e n
 have mf:∀{b:Addr}{m:Str->Option Value},bB.heap.Ns b m->(iB bB.heap H).Ns b m:=fun {b m} ⟨o,es,ep,e,d,r⟩=>⟨o,es,ep,uN e (nE e d),d,r⟩
 have nK:∀b o,K.lookup b=some o->H b=none:=λb o e=>by
  cases q:H b with
  |none=>rfl
  |some u=>rw[hK b u q]at e;cases e
 have uO:K.In (iB bB.heap H):=λb o e=>uN (KX b o e) (nK b o e)
 have hM:Mod K mg (iB bB.heap H):=⟨uO,mf uM,⟨mb,mf hb,ES⟩,let ⟨mc,h1,h2⟩:=ET;⟨mc,mf h1,h2⟩⟩;have e0:nA P w K mg (iB bB.heap H) callerA [] bB H:=⟨rfl,hM,λb o e=>Lu e,xy (Lp _ _),trivial,λb hb=>absurd (show b∈([]:List Addr) from hb) (by simp),aO,.of_eq hg⟩;have hl:k5.length=ps.length:=by rw[AY mh];exact bW
 refine codeAny_mono ((F _ uO (mf uM)).run callerA [] bB H ⟨k5,[]⟩ k5 (k5.map gw) _ _ hr e0 (EU bB k5 hl) hV (iq H _ hO hS)) λr s' x=>?_
 cases r with
 |error e=>exact (pD H e s' x).elim
 |ok fl=>
  cases fl with
  |next=>exact False.elim x
  |brk=>exact False.elim x
  |cont=>exact False.elim x
  |ret u=>
   obtain ⟨v,H',os,eL,un,AX,r',q⟩:=x;have dX:∀b o,bB.heap.get? b=some o->s'.heap.get? b=some o:=λb o e=>by
    cases q2:H b with
    |none=>exact un.keep b o e q2 (by intro z;exact absurd (show b∈([]:List Addr) from z) (by simp)) (by simp)
    |some u2=>
     rcases hO b with z|⟨ob,u3,z⟩
     ·rw[q2]at z;cases z
     ·have z2:=un.jh b ob _ z;obtain ⟨e1,_⟩:=aO b _ z;obtain ⟨e2,_⟩:=AX b _ z2;rw[e]at e1;cases e1;exact e2
   have KX':K.In s'.heap:=λb o e=>dX b o (KX b o e)
   obtain ⟨as,Nq⟩:=Dw.rh (R:=R) (cl:=cl) AX KX' d0 v u q r';exact ⟨u,as,rfl,Nq,OldK.of_keep dX,os,eL⟩
theorem aaT {ds:List WData}(h:WData.layableAll ds=true):∀d∈ds,d.weight<=1048576:=λd hd=>
 (PySem.W.layableW_iff.mp (zx.mp h d hd)).2.2
theorem Nr:∀(cs:List Codec) (a:Codec.denoteAll cs),(Codec.encAll cs a).length=cs.length
 | [],_=>rfl
 |c::cs,a=>by show (Codec.encAll cs a.2).length+1=cs.length+1;rw[Nr cs a.2]
theorem aaU {r:OpenSpec}{k:Nat}{q:Program}{loose:List Str}{XP:(Str->Option Value)->Heap->Prop}{YP:World->Heap->Prop}{d:DefRec}{K:Params->PySem.W.Frag}{CX:World->jn}{ps:List Str}{sp:World->Sp}
  (EY:r.wellSaid=true) (Nt:d.params.defaults= []) (bW:r.args.length=ps.length) (hr:Room k callerA)
  (hY:∀(w:World) (h:Heap),YP w h->(K w.params).In h)
  (F:∀(w:World) (mg:Str->Option Value) (fa:Addr) (h:Heap),YP w h->(K w.params).In h->h.Ns mainGlobals mg->mg d.name=some (.ref fa)->
   ∃fd:FuncData,(∀(s:Shared) (us:List Value),us.length=ps.length->BindsTo s fd ⟨us,[]⟩ (ps.zip us))/\
    ∀base:Heap,(K w.params).In base->base.Ns mainGlobals mg->gO r.prog w (K w.params) mg base (CX w) k fa fd ps (sp w))
  (iq:∀(w:World) (H:Hp) (xs:List V) (a:Codec.denoteAll r.args),uQ H->Codec.withinAll r.args a=true->Codec.app r.args r.asked a=true->jz (K w.params) H xs (Codec.encAll r.args a)->
   sp w xs H (λv H'=>Dw (K w.params) H' v (r.ret.enc (Codec.app r.args r.f a))) λ_a _a _a=>False)
  (pD:∀(w:World) (H:Hp) (s:Shared) (e:Value) (s':Shared),CX w [] H s (λ_a _a _a=>False) e s'->False):
  PySem.W.WalkOS q loose XP YP r d [] (λf vs=>PySem.call f vs):=by
 intro w ft bB mg mb G Y fa o pm cd doc dV kV ho hd lQ hD A9 hg args k5 as CD aaV Nq mh hlo;obtain ⟨a,e1,e2⟩:=PySem.W.os_pre_some CD;obtain ⟨e3,l8⟩:=Codec.encAll_of_decAll r.args args a e1;subst e3;have KX:=hY w _ Y;obtain ⟨fd,hb,hF⟩:=F w mg fa _ Y KX G.T.g A9;refine PySem.W.enter_call (codeAny_mono (aaQ (R:= []) (cl:=classAt ft.heap) (d0:=r.ret.enc (Codec.app r.args r.f a)) KX G.T.g G.T.b G.T.builtins G.T.nolimit hg mh (Ni _ _) (aaT aaV) hr hF hb (by rw[Nr];exact bW)
  (λH xs hO hS=>iq w H xs a hO l8 e2 hS) λH e s'=>pD w H bB e s') λr' s' hq=>?_)
 obtain ⟨u,Ba,rfl,h1,h2,h3,h4⟩:=hq;exact ⟨.inl ⟨u,_,Ba,rfl,λ_a=>rfl,h1,(OpenSpec.post_iff EY l8 _ _).mpr rfl,λz=>Bool.noConfusion (show false=true from z)⟩,h2,h3,h4⟩
theorem aaW {r:OpenSpec}{k:Nat}{q:Program}{loose:List Str}{XP:(Str->Option Value)->Heap->Prop}{YP:World->Heap->Prop}{d:DefRec}{K:Params->PySem.W.Frag}{CX:jn}{ps:List Str}{sp:PySem.W.Frag->Sp}
  (EY:r.wellSaid=true) (Nt:d.params.defaults= []) (bW:r.args.length=ps.length) (hr:Room k callerA)
  (hY:∀(w:World) (h:Heap),YP w h->(K w.params).In h)
  (F:∀(w:World) (mg:Str->Option Value) (fa:Addr) (h:Heap),YP w h->(K w.params).In h->h.Ns mainGlobals mg->mg d.name=some (.ref fa)->
   ∃fd:FuncData,(∀(s:Shared) (us:List Value),us.length=ps.length->BindsTo s fd ⟨us,[]⟩ (ps.zip us))/\
    ∀base:Heap,(K w.params).In base->base.Ns mainGlobals mg->gO r.prog w (K w.params) mg base CX k fa fd ps (sp (K w.params)))
  (iq:∀(K:PySem.W.Frag) (H:Hp) (xs:List V) (a:Codec.denoteAll r.args),uQ H->Codec.withinAll r.args a=true->Codec.app r.args r.asked a=true->jz K H xs (Codec.encAll r.args a)->
   sp K xs H (λv H'=>Dw K H' v (r.ret.enc (Codec.app r.args r.f a))) λ_a _a _a=>False)
  (pD:∀(H:Hp) (s:Shared) (e:Value) (s':Shared),CX [] H s (λ_a _a _a=>False) e s'->False):
  PySem.W.WalkOS q loose XP YP r d [] (λf vs=>PySem.call f vs):=
 aaU (K:=K) (CX:=λ_a=>CX) (sp:=λw=>sp (K w.params)) EY Nt bW hr hY F (λw H xs a h1 h2 h3 h4=>iq (K w.params) H xs a h1 h2 h3 h4) λ_a H s e s'=>pD H s e s'
end L2
namespace Mb
open PySem PySem.Spec PyProof.Rows L2
section
variable {X:Cx}
theorem aaX {x:Str}{v:Int}{pos:Pos}(hm:∃t,X.mg x=some (.int v t)) (hg:Gl X x) (hd:(x==("__debug__":Str))=false:=by decide):PE X (.Name x pos) (tC (.int v)):=by obtain ⟨t,e⟩:=hm;exact LH hg e ⟨t,rfl⟩ hd
theorem rF {x:Str}{a:Addr}{pos:Pos}(hm:X.mg x=some (.ref a)) (hg:Gl X x) (hd:(x==("__debug__":Str))=false:=by decide):PE X (.Name x pos) (tC (.ref a)):=
 LH hg hm rfl hd
theorem bj (i:Nat) {x:Str}{e:Expr}{te:TE}{pos gj:Pos}(hN:X.N.Nodup) (he:PE X e te) (hi:X.N[i]? =some x:=by rfl) (hx:mZ X.ah.scope x:=by first|exact Or.inl rfl|exact Or.inr rfl)
  (hs:swapsWith e (some (.Name x gj)) pos.line X.ah=pure false:=by rfl) (hf:X.fn x=true\/X.ah.scope.names.lookup x=some .local:=by first|exact .inl rfl|exact .inr rfl|assumption):
  PS X (.Assign [.Name x gj] e pos) (ub te (lS i)):=WV hN hi hx he hs hf
theorem aaY (i:Nat) {x:Str}{e:Expr}{te:TE}{op:Operator}{ti:o6}{pos gj:Pos}(hN:X.N.Nodup) (he:PE X e te) (ho:An X op ti) (hi:X.N[i]? =some x:=by rfl) (hx:mZ X.ah.scope x:=by first|exact Or.inl rfl|exact Or.inr rfl)
  (hf:X.fn x=true\/X.ah.scope.names.lookup x=some .local:=by first|exact .inl rfl|exact .inr rfl|assumption):PS X (.AugAssign (.Name x gj) op e pos) (LM i te ti):=WW hN hi hx he ho hf
theorem cH (i:Nat) {x:Str}{pos:Pos}(hN:X.N.Nodup) (hi:X.N[i]? =some x:=by rfl) (hx:mZ X.ah.scope x:=by first|exact Or.inl rfl|exact Or.inr rfl)
  (hf:X.fn x=true\/X.ah.scope.names.lookup x=some .local:=by first|exact .inl rfl|exact .inr rfl|assumption):PG X (.Name x pos) (lS i):=WT hN hi hx hf
theorem gR {ez tg iter:Expr}{d6:List Expr}{scope:Scope}{own:List (Str×Nat)}{pos:Pos}{wi:TI}{g:TG}{tt:TT}{te:TE}(hN:X.N.Nodup) (hi:PI X tg iter wi) (ok:AK X.N X.ah.scope scope own=true)
  (hg:∀(s:Shared) (H:Hp) (C:Addr) (cl:List (Str×Addr)) (fp:List Addr),PG (X.d5 s H scope (compEnvC scope cl C X.ah) fp) tg g) (ht:∀(s:Shared) (H:Hp) (C:Addr) (cl:List (Str×Addr)) (fp:List Addr),pA (X.d5 s H scope (compEnvC scope cl C X.ah) fp) d6 tt)
  (he:∀(s:Shared) (H:Hp) (C:Addr) (cl:List (Str×Addr)) (fp:List Addr),PE (X.d5 s H scope (compEnvC scope cl C X.ah) fp) ez te) (hc:X.eD=true:=by rfl) (hs:∀x,foldedSetIterable iter X.ah x=pure x:=by intro _;rfl):
  PE X (.ListComp ez [⟨tg,iter,d6,0⟩] scope pos) (rp wi g tt te (own.map (·.2))):=ZS hc hN hi (M0 ok) hg ht he hs
end
structure a7 (P:Program) (w:World) (K:PySem.W.Frag) (mg:Str->Option Value) (base:Heap) (k:Nat) (x:Str) (ps:List Str) (sp:Sp):Prop where
 ex:∃(f:Addr) (fd:FuncData),gO P w K mg base fX k f fd ps sp/\mg x=some (.ref f)/\PySem.W.keepIn K (.ref f)=true/\kW K fd ps []
structure hX (P:Program) (w:World) (K:PySem.W.Frag) (mg:Str->Option Value) (base:Heap) (k:Nat) (x:Str) (C:Addr) (ps:List Str) (sp:Sp):Prop where
 ex:∃(f:Addr) (fd:FuncData),gO P w K mg base fX k f fd ps sp/\mg x=some (.ref C)/\Mk K C f/\kW K fd ps []
section
variable {X:Cx}{k j:Nat}{x:Str}{p pos:Pos}{e:Expr}{es:List Expr}{t:TA}{ps:List Str}{sp:Sp}{C:Addr}
theorem own (O:a7 X.prog X.w X.K X.mg X.base k x ps sp) (hr:Room j X.A) (hk:k<=j) (hg:Gl X x) (ha:PA X (e::es) t) (hp:jo fX X E0:=by exact rC) (eX:(x==("__debug__":Str))=false:=by decide)
  (he:starEach (e::es) X.ah=(false,eval e X.ah)::starEach es X.ah:=by rfl) (dj:(backTo pos (starEach es X.ah)).any (·.1)=false:=by rfl):
  PE X (.Call (.Name x p) (e::es) [] pos) (Aw sp [] E0 t):=by
 obtain ⟨f,fd,F,hm,kp,b⟩:=O.ex;exact XO F (hr.mono hk) hg hm kp b .nil hp ha eX he dj
theorem mke (O:hX X.prog X.w X.K X.mg X.base k x C ps sp) (hr:Room j X.A) (hk:k+1<=j) (hg:Gl X x) (ha:PA X (e::es) t) (hp:jo fX X E0:=by exact rC) (eX:(x==("__debug__":Str))=false:=by decide)
  (he:starEach (e::es) X.ah=(false,eval e X.ah)::starEach es X.ah:=by rfl) (dj:(backTo pos (starEach es X.ah)).any (·.1)=false:=by rfl):
  PE X (.Call (.Name x p) (e::es) [] pos) (qX C sp [] E0 t):=by
 obtain ⟨f,fd,F,hm,M,b⟩:=O.ex;exact XS M F (hr.mono hk) hg hm b .nil hp ha eX he dj
theorem aa0 (O:hX X.prog X.w X.K X.mg X.base k x C ps sp) (hr:Room j X.A) (hk:k+1<=j) (hg:Gl X x) (hp:jo fX X E0:=by exact rC) (eX:(x==("__debug__":Str))=false:=by decide):
  PE X (.Call (.Name x p) [] [] pos) (qX C sp [] E0 kU):=by
 obtain ⟨f,fd,F,hm,M,b⟩:=O.ex;exact XT M F (hr.mono hk) hg hm b .nil hp eX
end
theorem Nu:bootBuiltins "len"=some (.builtin "len"):=by decide +kernel
theorem Nv:bootBuiltins "all"=some (.builtin "all"):=by decide +kernel
theorem aa1:bootBuiltins "any"=some (.builtin "any"):=by decide +kernel
theorem aa2:bootBuiltins "ord"=some (.builtin "ord"):=by decide +kernel
theorem Nw:bootBuiltins "max"=some (.builtin "max"):=by decide +kernel
theorem Ny:bootBuiltins "min"=some (.builtin "min"):=by decide +kernel
theorem aa3:bootBuiltins "abs"=some (.builtin "abs"):=by decide +kernel
theorem rG:bootBuiltins "sum"=some (.builtin "sum"):=by decide +kernel
theorem EZ:bootBuiltins "sorted"=some (.builtin "sorted"):=by decide +kernel
theorem aa4:bootBuiltins "str"=some (.type "str"):=by decide +kernel
theorem uR:bootBuiltins "list"=some (.type "list"):=by decide +kernel
theorem Nz:bootBuiltins "range"=some (.type "range"):=by decide +kernel
theorem aa5 {P:Program}{w:World}{K:PySem.W.Frag}{mg:Str->Option Value}{base:Heap}{x:Str}{st:Stmt}{f:Addr}{fd:FuncData}{N ps:List Str}{k:Nat}{sp:Sp}(F:gv K x x st f fd) (hm:mg x=some (.ref f)) (S:jq N ps (df st))
  (hb:∀(kV doc pm:Value) (an:Option Addr) (aK ct:Value) (us:List Value),us.length=ps.length->bindArgs (PySem.W.fnOf x x (iX st) (gu st) (df st) .none kV doc pm an aK ct) ⟨us,[]⟩=pure (ps.zip us))
  (len:∀vs H Q E,sp vs H Q E->vs.length=ps.length)
  (l4:∀(aK:Value) (A:Around) (aJ:List Env) (s:Shared) (H:Hp) (vs:List V) (Q:VK) (E:XK),Room k (A.deeper (envOfC x (df st) s.heap.objs.size f aK))->sp vs H Q E->
   ∃t,gL (lZ fX P w K mg base N x (df st) f aK A aJ s H E).o5 (gu st) t/\t {nx:=λ_a H'=>Q .bT H',rt:=Q} (start N vs) H):a7 P w K mg base (k+1) x ps sp:=
 ⟨f,fd,F.ok S len l4,hm,F.kp,F.nB hb⟩
theorem aU {H H':Hp}{D:Addr}{o:HO}(s:aq H H') (h:H D=none):aq H (aj H' D o):=λb u e=>by rw[aA (b8 e h)];exact s b u e
theorem bU {H:Hp}{D:Addr}{o:HO}(h:H D=none):aq H (aj H D o):=aU (aq.refl H) h
theorem da {α:Type}:∀{l:List α}{i:Nat}{x:α},l[i]? =some x->l.take (i+1)=l.take i++ [x]
 | [],i,x,h=>by simp at h
 |a::l,0,x,h=>by have e:a=x:=xX h;subst e;rfl
 |a::l,i+1,x,h=>by have ih:=da (l:=l) (i:=i) (x:=x) h;show a::l.take (i+1)=a::l.take i++ [x];rw[ih];rfl
theorem cD {α β:Type}{f:α->β}{l:List α}{i:Nat}{y:β}(h:(l.map f)[i]? =some y):∃x,l[i]? =some x/\y=f x:=by
 rw[yd]at h;cases e:l[i]? with
 |none=>rw[e]at h;cases h
 |some x=>rw[e]at h;exact ⟨x,rfl,(xX h).symm⟩
noncomputable def Fm (H1:Hp) (D:Addr) (xs:List V) (p:V->Bool) (f:V->V) (i:Nat) (H:Hp):Prop:=aq H1 H/\H D=some (.lst (((xs.take i).filter p).map f))
section
variable {H1 H:Hp}{D:Addr}{xs:List V}{p:V->Bool}{f:V->V}{i:Nat}{x:V}
theorem Fm.zero (hD:H1 D=none):Fm H1 D xs p f 0 (aj H1 D (.lst [])):=⟨bU hD,by rw[ao,xp];rfl⟩
theorem Fm.yes (h:Fm H1 D xs p f i H) (hD:H1 D=none) (hz:xs.length<=sizeLine) (hx:xs[i]? =some x) (hp:p x=true):∃acc,H D=some (.lst acc)/\acc.length<sizeLine/\Fm H1 D xs p f (i+1) (aj H D (.lst (acc++ [f x]))):=by
 refine ⟨_,h.2,?_,aU h.1 hD,?_⟩
 ·have h1:=(List.getElem?_eq_some_iff.mp hx).1;have h2:((xs.take i).filter p).length<=(xs.take i).length:=yz _ _;rw[yF]at h2;rw[yA];omega
 ·rw[ao,da hx,zS,yH];simp[zU,hp]
theorem Fm.all (h:Fm H1 D xs p f xs.length H):aq H1 H/\H D=some (.lst ((xs.filter p).map f)):=by have h2:=h.2;rw[xm]at h2;exact ⟨h.1,h2⟩
theorem aI {b:Bool}{A B:Prop}(h1:b=true->A) (h2:b=false->B):if b=true then A else B:=by
 cases b with
 |true=>rw[Zx rfl];exact h1 rfl
 |false=>rw[Zw ZE];exact h2 rfl
end
noncomputable def dO (H:Hp) (Q:VK) (xs:List V):Prop:=∀(H':Hp) (p:Addr),aq H H'->H p=none->H' p=some (.lst xs)->Q (.ref p) H'
noncomputable abbrev vi (l:List Int):List V:=l.map V.int
noncomputable def bX (H:Hp) (as:List Addr) (ls:List (List Int)):Prop:=Paired (λa l=>H a=some (.lst (vi l))) as ls
theorem bX.same {H H':Hp}{as:List Addr}{ls:List (List Int)}(h:bX H as ls) (s:aq H H'):bX H' as ls:=Paired.mono (λa l e=>s a _ e) h
theorem bX.length {H:Hp}{as:List Addr}{ls:List (List Int)}(h:bX H as ls):as.length=ls.length:=Paired.length h
theorem bX.get {H:Hp}{as:List Addr}{ls:List (List Int)}{i:Nat}{a:Addr}(h:bX H as ls) (e:as[i]? =some a):∃l,ls[i]? =some l/\H a=some (.lst (vi l)):=hU h e
theorem bX.aj {H:Hp}{as:List Addr}{ls:List (List Int)}{p:Addr}{o:HO}(h:bX H as ls) (hp:p∉as):bX (L2.aj H p o) as ls:=by
 unfold bX at h⊢;induction h with
 |nil=>exact .nil
 |cons e r ih=>simp only[yT,not_or]at hp;exact .cons (by rw[aA (xR hp.1)];exact e) (ih hp.2)
theorem bX.at {H:Hp}:∀{as:List Addr}{ls:List (List Int)}{a:Addr},bX H as ls->a∈as->∃l,l∈ls/\H a=some (.lst (vi l))
 |_,_,a,.nil,h=>by simp at h
 |_,_,a,.cons e r,h=>by
  rcases yT.mp h with rfl|h
  ·exact ⟨_,yV,e⟩
  ·obtain ⟨l,hl,e⟩:=bX.at r h;exact ⟨l,yU _ hl,e⟩
theorem NA {H:Hp}{as:List Addr}{ls:List (List Int)}{p:Addr}(h:bX H as ls) (hp:H p=none):p∉as:=λz=>by obtain ⟨l,_,e⟩:=h.at z;rw[hp]at e;cases e
theorem eQ {n:Nat}(h:n<=20000):n<=sizeLine:=xE h ZE
theorem dv {n:Nat}(h:n<=20000):n<sizeLine:=xG h ZE
theorem aa6 {x:Str}{g:TG}{tt:TT}{te:TE}{vs:List Nat}{σ:L2.St}{H1:Hp}{D:Addr}{Qd:Hp->Prop}(Pv:Nat->Hp->Prop) (h0:Pv 0 (aj H1 D (.lst [])))
  (hs:∀i c H,x.cps[i]? =some c->Pv i H->g (.str ⟨#[c]⟩) (cg σ vs) H λbM H2=>cg bM vs=cg σ vs/\tt bM H2 λb H3=>
   if b=true then te bM H3 λy H4=>∃acc,H4 D=some (.lst acc)/\acc.length<sizeLine/\Pv (i+1) (aj H4 D (.lst (acc++ [y]))) else Pv (i+1) H3) (hd:∀H,Pv x.cps.size H->Qd H):
  ∃W:Nat->Nat->Hp->Prop,(∃m,W 0 m (aj H1 D (.lst [])))/\∀i m H,W i m H->
   ((uK x).stop i H/\Qd H)\/((uK x).go i H/\∃Nx:Hp->Prop,(∀H',Nx H'->∃m',m'<m/\W (i+1) m' H')/\∀v H',(uK x).iU i H v H'->g v (cg σ vs) H' λbM H2=>cg bM vs=cg σ vs/\tt bM H2 λb H3=>
    if b=true then te bM H3 λy H4=>∃acc,H4 D=some (.lst acc)/\acc.length<sizeLine/\Nx (aj H4 D (.lst (acc++ [y]))) else Nx H3):=by
 refine ⟨λi m H=>m=x.cps.size - i/\i<=x.cps.size/\Pv i H,⟨x.cps.size,by simp,xQ _,h0⟩,?_⟩;rintro i m H ⟨rfl,hi,p⟩;by_cases cC:i<x.cps.size
 ·refine .inr ⟨cC,Pv (i+1),λH' p'=>⟨x.cps.size - (i+1),by omega,rfl,cC,p'⟩,λv H' y=>?_⟩;obtain ⟨e,c,hc,y⟩:=y;subst e y;exact hs i c _ hc p
 ·have e:i=x.cps.size:=by omega
  subst e;exact .inl ⟨xC _,hd H p⟩
section
variable {X:Cx}{K:PySem.W.Frag}{e o:Expr}{es:List Expr}{ta to:TE}{t:TA}{f name:Str}{pos fG dN:Pos}{T id:String}{r:V->List V->Hp->VK->Prop}
theorem aa7 (hK:X.K=K:=by rfl):dJ X (.builtin "len") (λxs H Q=>∃p ys,xs= [.ref p]/\(ag K H p ys\/cu K H p ys)/\Q (.int ys.length) H):=by subst hK;exact Yq
theorem NC (hc:X.eD=true:=by rfl) (hK:X.K=K:=by rfl):dJ X (.builtin "all") (MJ K):=by subst hK;exact YW hc
theorem aa8 (hc:X.eD=true:=by rfl) (hK:X.K=K:=by rfl):dJ X (.builtin "any") (MI K):=by subst hK;exact YV hc
theorem ND (hK:X.K=K:=by rfl):dJ X (.type "list") (λxs H Q=>∃p ys,xs= [.ref p]/\(ag K H p ys\/cu K H p ys)/\∀l,H l=none->Q (.ref l) (aj H l (.lst ys))):=by subst hK;exact Yr
theorem aa9 (he:PE X e ta) (hb:attributeBase e f X.ah (eval e X.ah)=eval e X.ah:=by rfl) (hK:X.K=K:=by rfl):PE X (.Attribute e f pos) (D1 K ta f):=by subst hK;exact XG he hb
theorem aa_ (hK:X.K=K:=by rfl):uk X (qZ K):=by subst hK;exact Yf
theorem abb (hK:X.K=K:=by rfl):uk X (Ee K):=by subst hK;exact Yg
theorem NF (hK:X.K=K:=by rfl):cV X (compareOp .In) (AA K false):=by subst hK;exact Yo
theorem E1 (hK:X.K=K:=by rfl):cV X (compareOp .NotIn) (AA K true):=by subst hK;exact Yp
theorem uS (hK:X.K=K:=by rfl):Eb X (Ml K):=by subst hK;exact Ym
theorem NG (hK:X.K=K:=by rfl):nH X "list.index" (MA K):=by subst hK;exact YO
theorem abd (pa:PlainAttrs T) (fE:Slot T name id) (jt:typeOf (.builtin id)=pure (.type "method_descriptor")) (hm:nH X id r) (ho:PE X o to)
  (md:attributeBase o name X.ah (eval o X.ah)=eval o X.ah:=by rfl) (me:(fG.endLine==dN.line)=true:=by rfl) (hK:X.K=K:=by rfl):PE X (.Call (.Attribute o name fG) [] [] dN) (Mn K T r to):=by
 subst hK;exact Ys pa fE jt hm ho md me
theorem j7 (pa:PlainAttrs T) (fE:Slot T name id) (jt:typeOf (.builtin id)=pure (.type "method_descriptor")) (hm:nH X id r) (ho:PE X o to) (ha:PA X (e::es) t)
  (md:attributeBase o name X.ah (eval o X.ah)=eval o X.ah:=by rfl)
  (uo:((backTo dN (starEach (e::es) X.ah)).all (λx=> !x.1)&&(backToKw dN (keywordEach [] X.ah)).all (λx=>x.1.isSome)
   &&decide ((e::es).length+([]:List Keyword).length+(if ([]:List Keyword).isEmpty then 0 else 1)<30))=true:=by rfl)
  (me:(fG.endLine==dN.line)=true:=by rfl) (hs:starEach (e::es) X.ah=(false,eval e X.ah)::starEach es X.ah:=by rfl) (uq:(backTo dN (starEach es X.ah)).any (·.1)=false:=by rfl) (hK:X.K=K:=by rfl):
  PE X (.Call (.Attribute o name fG) (e::es) [] dN) (AB K T r to t):=by
 subst hK;exact Yt pa fE jt hm ho ha md uo me hs uq
end
theorem dw (a b:List Int):vi (a++b)=vi a++vi b:=yH
theorem bK {H:Hp}{a b:Addr}{o:HO}(h:aj H a o b=none):b≠a/\H b=none:=by
 by_cases e:b=a
 ·rw[e,ao]at h;cases h
 ·exact ⟨e,by rw[aA e]at h;exact h⟩
theorem E2 {α:Type}{l:List α}{i:Nat}{x:α}(h:l[i]? =some x):l.drop i=x::l.drop (i+1):=by obtain ⟨h1,h2⟩:=List.getElem?_eq_some_iff.mp h;rw[←h2];exact List.drop_eq_getElem_cons h1
theorem bX.snoc {H:Hp}{as:List Addr}{ls:List (List Int)}{a:Addr}{l:List Int}(h:bX H as ls) (e:H a=some (.lst (vi l))):bX H (as++ [a]) (ls++ [l]):=Paired.snoc h e
section
variable {X:Cx}{ae:List (Addr×Obj)}{σ:L2.St}{H:Hp}{s:Shared}{K:PySem.W.Frag}
theorem uT:∀{l:List Int}{us:List Value}{j:Nat}{u:Value},aV (vi l) us->us[j]? =some u->∃z t,l[j]? =some z/\u=Value.int z t
 | [],us,j,u,r,e=>by cases r;simp at e
 |a::l,us,j,u,r,e=>by
  cases r with
  |cons q r=>
   cases j with
   |zero=>obtain ⟨t,rfl⟩:=q;exact ⟨a,t,rfl,(xX e).symm⟩
   |succ j=>exact uT (j:=j) r (by simpa using e)
theorem E3:∀(l m:List Int),l.length=m.length->((List.range l.length).all λj=>decide (l[j]? =m[j]?))=decide (l=m)
 | [],[],_=>rfl
 |a::l,b::m,h=>by
  have ih:=E3 l m (by simpa using h);rw[yu,xj,zw,zy];have e:((λj=>decide ((a::l)[j]? =(b::m)[j]?))∘Nat.succ)=λj=>decide (l[j]? =m[j]?):=by funext j;simp
  rw[e,ih,zf];simp
theorem NH {A:Around}{a b:Addr}{l m:List Int}(I:az X ae σ H s) (ha:ag X.K H a (vi l)) (hb:ag X.K H b (vi m)) (hu:A.units<cLine):SeqAt.RcAt A s (.ref a) (.ref b) (decide (l=m)):=by
 obtain ⟨ay,r1,p1,_⟩:=I.list ha;obtain ⟨hJ,r2,p2,_⟩:=I.list hb;have n1:=r1.length;have n2:=r2.length;rw[yA]at n1 n2;by_cases hl:l.length=m.length
 ·have q:=SeqAt.RcAt.lists (A:=A) (e:=λj=>decide (l[j]? =m[j]?)) p1.isList p2.isList (by simp only[xl];omega) hu (λj h1 h2=>?_)
  ·have e:(List.range ay.toArray.size).all (λj=>decide (l[j]? =m[j]?))=decide (l=m):=by rw[xl,←n1];exact E3 l m hl
   rw[e]at q;exact q
  ·have E4:j<ay.length:=by simpa using h1
   have E5:j<hJ.length:=by simpa using h2
   obtain ⟨z,t,e1,e2⟩:=uT r1 (yb E4);obtain ⟨z',t',e3,e4⟩:=uT r2 (yb E5);have f1:ay.toArray[j]=Value.int z t:=by simpa using e2
   have f2:hJ.toArray[j]=Value.int z' t':=by simpa using e4
   rw[f1,f2,e1,e3];have e5:decide (some z=some z')=(z==z'):=by rw[zf];simp
   rw[e5];exact SeqAt.EqAt.int_int z t z' t'
 ·have e:decide (l=m)=false:=Zq λz=>hl (by rw[z])
  rw[e];exact SeqAt.RcAt.lists_lengths p1.isList p2.isList (by simp only[xl,Zn,ne_eq];omega) hu
theorem abe {A:Around}{a b:Addr}{l m:List Int}(I:az X ae σ H s) (ha:ag X.K H a (vi l)) (hb:ag X.K H b (vi m)) (hu:A.units<cLine):SeqAt.EqAt A s (.ref a) (.ref b) (decide (l=m)):=by
 by_cases h:a=b
 ·subst h;have e:=I.DF ha hb;have e':l=m:=(yM λx y z=>V.int.inj z).mp e;rw[Zs e'];exact SeqAt.EqAt.same _
 ·exact SeqAt.EqAt.of_refs h (NH I ha hb hu)
noncomputable def abf (K:PySem.W.Frag):R2:=λx y H Q=>∃a b l m,x= .ref a/\y= .ref b/\ag K H a (vi l)/\ag K H b (vi m)/\Q (.bl (decide (l=m))) H
theorem abg (hu:X.A.units+1<cLine) (hK:X.K=K:=by rfl):cV X (compareOp .Eq) (abf K):=by subst hK;intro ae s σ H x y v u Q I rx ry h;obtain ⟨a,b,l,m,rfl,rfl,ha,hb,q⟩:=h;cases rx;cases ry;exact NH I ha hb ZD _ _ _ _ ⟨.bl _,H,I,rfl,q⟩
noncomputable def rH (K:PySem.W.Frag) (H:Hp) (as:List Addr) (ls:List (List Int)):Prop:=Paired (λa l=>ag K H a (vi l)) as ls
theorem bX.k {as:List Addr}{ls:List (List Int)}(h:bX H as ls):rH K H as ls:=Paired.mono (λa l e=>ag.of e) h
open Classical in
noncomputable def jC (K:PySem.W.Frag) (H:Hp) (l:List Int) (u:Value):Bool:=decide (∃a,u=Value.ref a/\ag K H a (vi l))
open Classical in
theorem E6 {a:Addr}{l m:List Int}(I:az X ae σ H s) (ha:ag X.K H a (vi m)):jC X.K H l (.ref a)=decide (m=l):=by
 unfold jC;rw[zf,Zu,Zu];constructor
 ·rintro ⟨b,e,hb⟩;cases e;exact (yM λx y z=>V.int.inj z).mp (I.DF ha hb)
 ·rintro rfl;exact ⟨a,rfl,ha⟩
theorem rJ:∀{as:List Addr}{us:List Value},aV (as.map V.ref) us->us=as.map Value.ref
 | [],us,r=>by cases r;rfl
 |a::as,us,r=>by
  cases r with
  |cons q r=>have e:_=Value.ref a:=q;rw[e,rJ r];rfl
theorem E7 (I:az X ae σ H s) (l:List Int):∀{as:List Addr}{ls:List (List Int)},rH X.K H as ls->(as.map Value.ref).any (jC X.K H l)=ls.any λm=>decide (m=l)
 |_,_,.nil=>rfl
 |_,_,.cons e r=>by rw[yJ,zz,zz,E6 I e,E7 I l r]
theorem NI (I:az X ae σ H s) (l:List Int):∀{as:List Addr}{ls:List (List Int)},rH X.K H as ls->(as.map Value.ref).countP (jC X.K H l)=ls.count l
 |_,_,.nil=>rfl
 |_,_,.cons (l₂:=ls) (b:=m) e r=>by
  rw[yJ,List.countP_cons,zI,E6 I e,NI I l r];congr 1;by_cases h:m=l
  ·simp[h]
  ·simp[h]
theorem Bb (I:az X ae σ H s) {A:Around}{b:Addr}{l:List Int}(hb:ag X.K H b (vi l)) (hu:A.units<cLine):∀{as:List Addr}{ls:List (List Int)},rH X.K H as ls->∀u∈as.map Value.ref,SeqAt.EqAt A s u (.ref b) (jC X.K H l u)
 |_,_,.nil,u,h=>by simp at h
 |_,_,.cons e r,u,h=>by
  rw[yJ]at h;rcases yT.mp h with rfl|h
  ·rw[E6 I e];exact abe I e hb hu
  ·exact Bb I hb hu r u h
noncomputable def NJ (K:PySem.W.Frag) (neg:Bool):R2:=λx y H Q=>∃b p l as ls,x= .ref b/\y= .ref p/\ag K H b (vi l)/\ag K H p (as.map V.ref)/\rH K H as ls/\Q (.bl (if neg then !(ls.any λm=>decide (m=l)) else ls.any λm=>decide (m=l))) H
theorem abh (hu:X.A.units+1<cLine) (hK:X.K=K:=by rfl):cV X (compareOp .In) (NJ K false):=by subst hK;intro ae s σ H x y v u Q I rx ry h;obtain ⟨b,p,l,as,ls,rfl,rfl,hb,hp,hr,q⟩:=h;cases rx;cases ry;obtain ⟨ay,r,pl,hz⟩:=I.list hp;have e:=rJ r;refine SeqAt.in_listAt (jC X.K H l) pl.isList (λw hw=>Bb I hb (A:=X.A.in1) hu hr w (by rw[←e];simpa using hw)) ⟨.bl _,H,I,rfl,?_⟩;rw[show ay.toArray.any (jC X.K H l)=ay.any (jC X.K H l) by simp,e,E7 I l hr];exact q
theorem E8 (hu:X.A.units+1<cLine) (hK:X.K=K:=by rfl):cV X (compareOp .NotIn) (NJ K true):=by subst hK;intro ae s σ H x y v u Q I rx ry h;obtain ⟨b,p,l,as,ls,rfl,rfl,hb,hp,hr,q⟩:=h;cases rx;cases ry;obtain ⟨ay,r,pl,hz⟩:=I.list hp;have e:=rJ r;refine SeqAt.notIn_listAt (jC X.K H l) pl.isList (λw hw=>Bb I hb (A:=X.A.in1) hu hr w (by rw[←e];simpa using hw)) ⟨.bl _,H,I,rfl,?_⟩;rw[show ay.toArray.any (jC X.K H l)=ay.any (jC X.K H l) by simp,e,E7 I l hr];exact q
noncomputable def abi (K:PySem.W.Frag):V->List V->Hp->VK->Prop:=λx vs H Q=>∃b p l as ls,x= .ref p/\vs= [.ref b]/\ag K H b (vi l)/\ag K H p (as.map V.ref)/\rH K H as ls/\Q (.int (ls.count l:Nat)) H
theorem abj (hu:X.A.units+1<cLine) (hK:X.K=K:=by rfl):nH X "list.count" (abi K):=by subst hK;intro ae s σ H x vs v us Q I rx rv h;obtain ⟨b,p,l,as,ls,rfl,rfl,hb,hp,hr,q⟩:=h;cases rx;obtain ⟨u,rfl,ru⟩:=rv.one;cases ru;obtain ⟨ay,r,⟨⟨cls,dd,data,sl⟩,n,ho,hc,MC,hd⟩,bW⟩:=I.list hp;simp only at hc hd;subst hc hd;have e:=rJ r;refine call_meets Z9 ⟨_,ho,rfl⟩ PySem.F.entry_list_count (PySem.F.args_list_count_2 _ _) (SeqAt.list_countAt p ay.toArray n dd sl (.ref b) (jC X.K H l)) ⟨ho,λw hw=>Bb I hb (A:=X.A.in1) hu hr w (by rw[←e];simpa using hw),?_⟩;refine ⟨.int (ls.count l:Nat),H,I.eg _,⟨s.toks,?_⟩,q⟩;rw[xt,e,NI I l hr]
end
noncomputable abbrev pF (D:List (Str×Int)):List (Str×KTD.Dat):=D.map λp=>(p.1,KTD.Dat.flat (.int p.2))
noncomputable def hZ (K:PySem.W.Frag) (a:Addr) (D:List (Str×Int)):Prop:=KTD.tabLook (KTD.datLooks λb=>List.lookup b K) (λb=>List.lookup b K) a (pF D)=true
theorem NK (k:Str):∀(D:List (Str×Int)) (v:Int),D.lookup k=some v->KTD.datumAt k (pF D)=some (KTD.Dat.flat (.int v))
 | [],v,h=>by simp at h
 |(x,d)::D,v,h=>by
  have ih:=NK k D v;rw[yG]at h;show (if decide (k=x)=true then some (KTD.Dat.flat (.int d)) else KTD.datumAt k (pF D))=_;by_cases e:k=x
  ·have e2:(k==x)=true:=Zm.mpr e;rw[e2]at h;have e3:d=v:=xX h;rw[Zx (Zs e),e3]
  ·have e2:(k==x)=false:=beq_eq_false_iff_ne.mpr e;rw[e2]at h;rw[Zw (by simp[e])];exact ih h
section
variable {X:Cx}{ae:List (Addr×Obj)}{σ:L2.St}{H:Hp}{s:Shared}{K:PySem.W.Frag}{a:Addr}{D:List (Str×Int)}
theorem hZ.here (h:hZ X.K a D) (I:L2.az X ae σ H s):KTD.Here X.base s.heap a (pF D):=⟨KTD.text_of_look (λb o e=>I.ok.mod.tZ b o e) h,I.bk⟩
theorem abk {prog:Program}{w:World}{A:Around}{E:Value->Shared->Prop}{h₀:Heap}{D:List (Str×KTD.Dat)}{d:KTD.Dat}{k:Str}{tk:Tok}{Q:Value->Shared->Prop}(T:KTD.Here h₀ s.heap a D) (NL:KTD.datumAt k D=some d)
  (h:∀v,d.At h₀ v->Q v {s with toks:=s.toks+1}):wpAny (model prog w) A (getItem (.ref a) (.str k tk)) Q E s:=by
 unfold getItem
 try with_reducible refine wpAny_holding ?_
 refine wpAny_bind (wpAny_sequenceKey T.typeIs ZE ?_);refine wpAny_bind (wpAny_callSpecial?_slot (name:=Str.ofString "__getitem__") T.typeIs Z8
  (wpAny_call_entry Z8 T.typeIs PySem.F.entry_dict_getitem ?_ (PySem.F.args_dict_getitem_2 _ _)))
 show wpAny _ _ (dictGet a (.str k tk)>>=_) _ _ s;refine wpAny_bind (KTD.dictGet_text T (λd' v ha hv=>?_) λhn=>absurd hn (by rw[NL];simp));rw[NL]at ha;cases ha;exact wpAny_pure ⟨v,rfl,wpAny_pure (h v hv)⟩
noncomputable def tMd (D:List (Str×Int)) (ti:TE):TE:=λσ H Q=>ti σ H λy H1=>∃k v,y= .str k/\D.lookup k=some v/\Q (.int v) H1
theorem E9 {x:Str}{i:Expr}{ti:TE}{p pos:Pos}(hT:X.mg x=some (.ref a)/\hZ K a D) (hg:Gl X x) (hi:PE X i ti) (hs:AM i) (hd:(x==("__debug__":Str))=false:=by decide) (hK:X.K=K:=by rfl):PE X (.Subscript (.Name x p) i pos) (tMd D ti):=by
 subst hK;intro ae s σ H Q I h;refine EG (T:="dict") Z8.lookup hs (qP I hg hT.1 ?_ hd);refine aY (hi ae s σ H _ I h) λu s1 ⟨y,H1,I1,ry,k,v,ey,hl,q⟩=>?_
 subst ey;obtain ⟨t,rfl⟩:=ry;have T:=hT.2.here I1;refine ⟨T.typeIs,abk T (NK k D v hl) λu hu=>?_⟩;obtain ⟨t',rfl⟩:∃t,u=Value.int v t:=by have hr:Reads s1.heap u (.int v) []:=hu s1.heap;cases hr;exact ⟨_,rfl⟩
 exact ⟨.int v,H1,I1.eg _,⟨t',rfl⟩,q⟩
noncomputable def uU (ks:List Str):It:=⟨λi _a=>i<ks.length,λi H v H'=>H'=H/\∃k,ks[i]? =some k/\v= .str k,λi _a=>ks.length<=i⟩
theorem NM {δ:Type}{R:δ->Value->Prop}:∀{es:List DictEntry}{D:List (Str×δ)},KTD.Rows R es D->es.length=D.length/\∀(i:Nat) (k:Str) (d:δ),D[i]? =some (k,d)->∃en t,es[i]? =some en/\en.key=Value.str k t
 |_,_,.nil=>⟨rfl,λi k d h=>by simp at h⟩
 |_,_,.cons hk hv r=>by
  obtain ⟨h1,h2⟩:=NM r;refine ⟨by simp[h1],λi k d h=>?_⟩;cases i with
  |zero=>have e:=xX h;cases e;exact ⟨_,_,rfl,hk⟩
  |succ i=>exact h2 i k d (by simpa using h)
set_option tactic.hygienic true in
theorem hZ.obj (h:hZ K a D):(a==sysModules)=false/\∃(o:Obj) (es:Array DictEntry) (ep:Nat),List.lookup a K=some o/\o.ExactDict/\o.data= .dict es ep/\es.size=D.length/\
  ∀(i:Nat) (k:Str),(D.map (·.1))[i]? =some k->∃en t,es[i]? =some en/\en.key=Value.str k t:=by
 simp only[hZ,KTD.tabLook,za]at h;obtain ⟨h1,h2⟩:=h;refine ⟨by simpa using h1,?_⟩;split at h2
 ·rename_i o ho;simp only[za]at h2;obtain ⟨⟨⟨e1,e2⟩,e3⟩,e4⟩:=h2;split at e4
  ·rename_i es ep hd;obtain ⟨r1,r2⟩:=NM (KTD.rows_of_look (R:=λ_a _a=>True) (λ_a _a _a=>trivial) e4);refine ⟨o,es,ep,ho,⟨Zm.mp e1,by simpa using e2,by simpa using e3⟩,hd,by simpa using r1,λi k hk=>?_⟩;obtain ⟨⟨k',v⟩,hv,ek⟩:=cD hk;have ek:k=k':=ek;subst ek;obtain ⟨en,t,q1,q2⟩:=r2 i k (.flat (.int v)) (by rw[yd,hv];rfl);exact ⟨en,t,by simpa using q1,q2⟩
  ·cases e4
 ·cases h2
theorem abm {P:Program}{w:World}{tg:Expr}(it:Addr) {o:Obj}{es:Array DictEntry}{ep:Nat}{ks:List Str}(ho:List.lookup a K=some o) (hd:o.data= .dict es ep) (hsz:es.size=ks.length)
  (hk:∀(i:Nat) (k:Str),ks[i]? =some k->∃en t,es[i]? =some en/\en.key=Value.str k t):lT P w K tg (uU ks) [it] it (λi h=>h.IsKeyIter it a i ks.length ep) where
 mem:=by simp
 obj:=λi h st b hb=>by
  have e:b=it:=by simpa using hb
  subst e;obtain ⟨oi,e,c,dd⟩:=st;exact ⟨oi,e,λv z=>by rw[dd]at z;cases z⟩
 keep:=λi h h' st k=>st.at λoi e=>k it (by simp) oi e
 item:=by
  intro X hP hw hK hc i ae s σ H E I hf st hg;subst hP hw hK;obtain ⟨f0,f1,f2,f3,f4,f5⟩:=hf it (by simp);have hi:i<ks.length:=hg;obtain ⟨en,t,e1,e2⟩:=hk i ks[i] (yb hi);refine EK st (I.gg a o ho) hd hsz e1 λh' eh sb=>?_
  have I1:L2.az X ae σ H {s with heap:=h'}:=I.gh (t':=s.toks) (λb ob hb e=>(sb.2 b hb).trans e) f0 f1 f3 f4 f5;obtain ⟨oi,e,c,dd⟩:=id eh;exact ⟨en.key,rfl,o7 (s:={s with heap:=h'}) e c dd ZE ⟨.str ks[i],H,I1,⟨t,e2⟩,⟨rfl,ks[i],yb hi,rfl⟩,eh,λb hb=>(hf b hb).1⟩⟩
 done:=by intro X hP hw hK hc i ae s σ H E I hf st hg;subst hP hw hK;obtain ⟨f0,f1,f2,f3,f4,f5⟩:=hf it (by simp);have hi:ks.length<=i:=hg;exact AU (I.ok.hd hc) st (I.gg a o ho) hd hsz hi λh' eb=>⟨rfl,I.gh (t':=s.toks) (λb ob hb e=>eb b ob hb e) f0 f1 f3 f4 f5⟩
 self:=λA i s Q E st h=>wpAny_pyIter_keyiter st h
noncomputable def iMk (a:Addr) (D:List (Str×Int)) (td:TE):TI:=λσ H R=>td σ H λx H1=>x= .ref a/\R (uU (D.map (·.1))) H1
theorem abo {tg e:Expr}{td:TE}(hT:hZ K a D) (he:PE X e td) (hK:X.K=K:=by rfl):PI X tg e (iMk a D td):=by
 subst hK;intro ae s σ H R I h;refine aY (he ae s σ H _ I h) λu s1 ⟨x,H1,I1,rx,ex,q⟩=>?_
 subst ex;obtain rfl:u=Value.ref a:=rx;obtain ⟨hs,o,es,ep,ho,hx,hd,hsz,hk⟩:=hT.obj;have NN:es.size=(D.map (·.1)).length:=by rw[yA];exact hsz
 refine AR hs (I1.gg a o ho) hx hd (uJ (tk:=s1.toks) I1 _ (abm _ ho hd NN hk) ⟨_,Heap.get?_push_size _ rfl,rfl,?_⟩ q);rw[NN]<;>rfl
theorem abp {ks:List Str}{g:TG}{tt:TT}{te:TE}{vs:List Nat}{σ:L2.St}{H1:Hp}{D:Addr}{Qd:Hp->Prop}(Pv:Nat->Hp->Prop) (h0:Pv 0 (aj H1 D (.lst [])))
  (hs:∀i k H,ks[i]? =some k->Pv i H->g (.str k) (cg σ vs) H λbM H2=>cg bM vs=cg σ vs/\tt bM H2 λb H3=>
   if b=true then te bM H3 λy H4=>∃acc,H4 D=some (.lst acc)/\acc.length<sizeLine/\Pv (i+1) (aj H4 D (.lst (acc++ [y]))) else Pv (i+1) H3) (hd:∀H,Pv ks.length H->Qd H):
  ∃W:Nat->Nat->Hp->Prop,(∃m,W 0 m (aj H1 D (.lst [])))/\∀i m H,W i m H->
   ((uU ks).stop i H/\Qd H)\/((uU ks).go i H/\∃Nx:Hp->Prop,(∀H',Nx H'->∃m',m'<m/\W (i+1) m' H')/\∀v H',(uU ks).iU i H v H'->g v (cg σ vs) H' λbM H2=>cg bM vs=cg σ vs/\tt bM H2 λb H3=>
    if b=true then te bM H3 λy H4=>∃acc,H4 D=some (.lst acc)/\acc.length<sizeLine/\Nx (aj H4 D (.lst (acc++ [y]))) else Nx H3):=by
 refine ⟨λi m H=>m=ks.length - i/\i<=ks.length/\Pv i H,⟨ks.length,by simp,xQ _,h0⟩,?_⟩;rintro i m H ⟨rfl,hi,p⟩;by_cases cC:i<ks.length
 ·refine .inr ⟨cC,Pv (i+1),λH' p'=>⟨ks.length - (i+1),by omega,rfl,cC,p'⟩,λv H' y=>?_⟩;obtain ⟨e,k,hk,y⟩:=y;subst e y;exact hs i k _ hk p
 ·have e:i=ks.length:=by omega
  subst e;exact .inl ⟨xC _,hd H p⟩
end
section
variable {prog:Program}{w:World}{A:Around}{E:Value->Shared->Prop}{s:Shared}{d:Addr}{o:Obj}{es:Array DictEntry}{ep:Nat}
theorem abq (hh:A.handled=none) (I d:Addr) (bQ:d≠I) (o:Obj) (es:Array DictEntry) (ep:Nat) (hd:o.data= .dict es ep):
  Walks prog w A I [I,d] [I] es.size (λi v=>∃en,es[i]? =some en/\v=en.key) (λi h=>h.IsKeyIter I d i es.size ep/\h.get? d=some o) where
 sub:=λb hb=>by simp at hb;simp[hb]
 frame:=λ_a _a _a st hk=>⟨st.1.at λo e=>hk I (by simp) o e,hk d (by simp) _ st.2⟩
 item:=λi s Q E hi st hQ=>by
  refine EK st.1 st.2 hd rfl (z6 hi) λh' AS i3=>?_
  exact hQ _ h' s.toks ⟨_,z6 hi,rfl⟩ ⟨AS,(i3.2 d bQ).trans st.2⟩ λb o hb e=>(i3.2 b (λz=>hb (by simp[z]))).trans e
 done:=λs Q E st hQ=>AU hh st.1 st.2 hd rfl (xC _) λh' Ej=>hQ h' s.toks λb o hb e=>Ej b o (λh=>hb (by simp[h])) e
 self:=λ_a _a _a _a st hQ=>wpAny_pyIter_keyiter st.1 hQ
theorem abr {Q:Bool->Shared->Prop}(ho:s.heap.get? d=some o) (hx:o.ExactDict) (h:Q false s):wpAny (model prog w) A (Builtin.List.listLengthHint (.ref d)) Q E s:=by
 have hT:s.TypeIs (.ref d) "dict":=⟨o,ho,hx.1⟩;unfold Builtin.List.listLengthHint;refine wpAny_bind (wpAny_specialOf hT PySem.F.slot_dict_len.lookup ?_);generalize NO:("dict.__len__":String)=id0
 wp_delta
 rw[show splitId id0=some ("dict","__len__") from by subst NO;decide +kernel];subst NO;refine wpAny_bind (wpAny_isInstance (T:="dict") (b:=true) hT (by rw[isSubtype_type];kernel_rfl) ?_);refine wpAny_ite_split (λFb=>absurd Fb ZE) (λ_a=>?_);refine wpAny_ite_split (λ_a=>?_) (λFb=>absurd (by decide +kernel) Fb);refine wpAny_bind (wpAny_typeOf hT ?_);exact wpAny_pure h
theorem abu {R:Result->Shared->Prop}(hh:A.handled=none) (hs:(d==sysModules)=false) (ho:s.heap.get? d=some o) (hx:o.ExactDict) (fc:o.data= .dict es ep) (hz:es.size<=1000) (S:Addr) (res:Value) (NP:Nat) (hS:s.heap.get? S=some {cls:= .type "list",data:= .seq #[] NP})
  (hR:∀h' tk eR c',(∀b o,b≠S->s.heap.get? b=some o->h'.get? b=some o)->h'.get? S=some {cls:= .type "list",dict:=none,data:= .seq eR c',slots:=#[]}->
   ItemsOf (λi v=>∃en,es[i]? =some en/\v=en.key) eR es.size->R (.ok (.ret res)) {s with heap:=h',toks:=tk}):
  wpAny (model prog w) A.in1 (Builtin.List.listExtendWith (.ref S) (.ref d) res)
   (λfin s'=>match fin with| .done f=>R (.ok f) s'| .again c'=>c'.quiet=true/\codeAny (model prog w) A c' R s') (λe s'=>R (.error e) s') s:=by
 have rK:S≠d:=λe=>by rw[e,ho]at hS;have e2:=xX hS;rw[e2]at fc;cases fc
 have abv:S<s.heap.objs.size:=Heap.lt_size hS;have Fc:S≠s.heap.objs.size:=xN abv;have hdI:d≠s.heap.objs.size:=xN (Heap.lt_size ho);have hSf:S∉ [s.heap.objs.size,d]:=λhm=>by
  rcases yT.mp hm with e|hm
  ·exact Fc e
  ·exact rK (List.mem_singleton.mp hm)
 have W:=(abq (prog:=prog) (w:=w) (A:=A.in1) hh s.heap.objs.size d hdI o es ep fc).toS;have key:∀(h:Heap) (Fd tk:Nat),(h.IsKeyIter s.heap.objs.size d 0 es.size ep/\h.get? d=some o)->(∀b o,b≠S->s.heap.get? b=some o->h.get? b=some o)->
   h.get? S=some {cls:= .type "list",data:= .seq #[] Fd}->codeAny (model prog w) A (.builtin "list.extend.loop" ⟨[.ref S,.ref s.heap.objs.size,res],[]⟩) R {s with heap:=h,toks:=tk}:=by
  intro h Fd tk fH hk uV;refine codeAny_extend_loopS W (by rw[sizeLine_eq];omega) S hSf res es.size 0 _ #[] Fd rfl (xQ _) fH uV (ItemsOf.nil _) λs' eR c' hm uW ml=>?_
  rw[Moved.eq_with hm];refine hR s'.heap s'.toks eR c' (λb o hb e=>hm.heap b o (λiA=>?_) (hk b o hb e)) uW ml;rcases yT.mp iA with e'|iA
  ·exact hb e'
  ·exact absurd (Heap.lt_size e) (by rw[List.mem_singleton.mp iA];exact xF _)
 have hT:s.TypeIs (.ref d) "dict":=⟨o,ho,hx.1⟩;unfold Builtin.List.listExtendWith;refine wpAny_bind (wpAny_typeOf hT ?_);have h1:Builtin.List.listSameRef (.ref S) (.ref d)=false:=by simp[Builtin.List.listSameRef,rK]
 have h2:(Value.type "dict"==Value.type "list")=false:=by decide
 have h3:(Value.type "dict"==Value.type "tuple")=false:=by decide
 simp only[h1,h2,h3,Bool.or_false,zh,Zv];refine wpAny_bind (AR hs ho hx fc ?_);refine wpAny_bind (wpAny_holding (abr (Heap.get?_push_of_some _ ho) hx ?_));generalize uX:({cls:= .type "dict_keyiterator",data:= .fields #[.ref d,.int 0 0,.int es.size 0,.int ep 0]}:Obj)=ob;have Fe:(s.heap.push ob).IsKeyIter s.heap.objs.size d 0 es.size ep/\(s.heap.push ob).get? d=some o:=by subst uX;exact ⟨⟨_,Heap.get?_push_size _ rfl,rfl,rfl⟩,Heap.get?_push_of_some _ ho⟩
 have uV:=Heap.get?_push_of_some ob hS;refine wpAny_ite_split (λ_a=>?_) (λ_a=>wpAny_pure ⟨plainId_quiet F.plain_extend_loop _,key _ NP _ Fe (λb o _a e=>Heap.get?_push_of_some _ e) uV⟩);refine wpAny_bind (wpAny_rule ?_);refine wpAny_bind ?_;show wpAny _ _ (updateSeq S (·.push .none)>>=λ_a=>updateSeq S (·.pop)) _ _ _;refine wpAny_bind (wpAny_updateSeq uV rfl ?_);have Bc:=Heap.get?_update_self (Obj.mapSeq (·.push Value.none)) uV rfl;refine wpAny_updateSeq (hz:=by seq_fits) Bc rfl ?_;have aby:=Heap.get?_update_self (Obj.mapSeq (·.pop)) Bc rfl;refine wpAny_pure ⟨plainId_quiet F.plain_extend_loop _,key _ _ _ ?_ (λb o hb e=>?_) aby⟩
 ·refine ⟨Fe.1.at λo e=>(Heap.get?_update_other _ _ Fc).trans ((Heap.get?_update_other _ _ Fc).trans e),?_⟩;exact (Heap.get?_update_other _ _ rK).trans ((Heap.get?_update_other _ _ rK).trans Fe.2)
 ·exact (Heap.get?_update_other _ _ (xR hb)).trans ((Heap.get?_update_other _ _ (xR hb)).trans (Heap.get?_push_of_some _ e))
theorem abz {R:Result->Shared->Prop}(hh:A.handled=none) (hs:(d==sysModules)=false) (ho:s.heap.get? d=some o) (hx:o.ExactDict) (fc:o.data= .dict es ep) (hz:es.size<=1000) (S:Addr) (hS:s.heap.get? S=some {cls:= .type "list",data:= .seq #[]})
  (hR:∀h' tk eR c',(∀b o,b≠S->s.heap.get? b=some o->h'.get? b=some o)->h'.get? S=some {cls:= .type "list",dict:=none,data:= .seq eR c',slots:=#[]}->
   ItemsOf (λi v=>∃en,es[i]? =some en/\v=en.key) eR es.size->R (.ok (.ret .none)) {s with heap:=h',toks:=tk}):
  wpAny (model prog w) A.in1 (Builtin.«list.__init__» ⟨[.ref S,.ref d],[]⟩)
   (λfin s'=>match fin with| .done f=>R (.ok f) s'| .again c'=>c'.quiet=true/\codeAny (model prog w) A c' R s') (λe s'=>R (.error e) s') s:=by
 have rK:S≠d:=λe=>by rw[e,ho]at hS;have e2:=xX hS;rw[e2]at fc;cases fc
 show wpAny _ _ (do let uc ←Builtin.List.listItems (.ref S);Builtin.List.listUpdate (.ref S) (λ_a=>#[]);letGo uc.toList.reverse;Builtin.List.listExtendWith (.ref S) (.ref d) .none) _ _ s;refine wpAny_bind ?_;unfold Builtin.List.listItems;refine wpAny_bind (wpAny_seqItems hS rfl (wpAny_pure ?_));show wpAny _ _ (updateSeq S (λ_a=>#[])>>=λ_a=>letGo (#[]:Array Value).toList.reverse>>=λ_a=>Builtin.List.listExtendWith (.ref S) (.ref d) .none) _ _ s;refine wpAny_bind (wpAny_updateSeq hS rfl ?_);have Bc:=Heap.get?_update_self (Obj.mapSeq (λ_a=>(#[]:Array Value))) hS rfl;have Bd:∀b o,b≠S->s.heap.get? b=some o->(s.heap.update S (Obj.mapSeq (λ_a=>(#[]:Array Value)))).get? b=some o:=
  λb o hb e=>(Heap.get?_update_other _ _ (xR hb)).trans e
 refine wpAny_bind (wpAny_letGo ?_);refine abu hh hs (Bd d _ (xR rK) ho) hx fc hz S .none _ Bc λh' tk eR c' hk uW ml=>?_
 exact hR h' tk eR c' (λb o hb e=>hk b o hb (Bd b o hb e)) uW ml
theorem abA {Q:Value->Shared->Prop}(hh:A.handled=none) (hs:(d==sysModules)=false) (ho:s.heap.get? d=some o) (hx:o.ExactDict) (fc:o.data= .dict es ep) (hz:es.size<=1000)
  (hQ:∀h' tk eR c',(∀b o,s.heap.get? b=some o->h'.get? b=some o)->
   h'.get? s.heap.objs.size=some {cls:= .type "list",dict:=none,data:= .seq eR c',slots:=#[]}->ItemsOf (λi v=>∃en,es[i]? =some en/\v=en.key) eR es.size->Q (.ref s.heap.objs.size) {s with heap:=h',toks:=tk}):
  wpAny (model prog w) A (call (.type "list") [.ref d]) Q E s:=by
 refine callType_codes (Q₁:=λobj bB=>obj= .ref s.heap.objs.size/\bB={s with heap:=s.heap.push {cls:= .type "list",data:= .seq #[]}}) F.called_list (F.typeCall_list_1 _) F.entry_list_init
  (code_list_new _ ⟨rfl,rfl⟩) λobj bB rn=>?_
 obtain ⟨rfl,rfl⟩:=rn;have hS:(s.heap.push {cls:= .type "list",data:= .seq #[]}).get? s.heap.objs.size=some {cls:= .type "list",data:= .seq #[]}:=Heap.get?_push_size _ rfl;refine ⟨⟨_,hS,rfl⟩,F.args_list_init_2 _ _,abz (A:=A.in1) hh hs (Heap.get?_push_of_some _ ho) hx fc hz _ hS λh' tk eR c' hk uW ml=>?_⟩;exact ⟨rfl,hQ h' tk eR c' (λb o e=>hk b o (xN (Heap.lt_size e)) (Heap.get?_push_of_some _ e)) uW ml⟩
end
section
variable {X:Cx}{K:PySem.W.Frag}{a:Addr}{D:List (Str×Int)}
theorem NQ {P:Nat->Value->Prop}{acc:Array Value}{n:Nat}(h:ItemsOf P acc n):acc.size=n/\∀i v,acc[i]? =some v->P i v:=h
theorem NR:∀(ks:List Str) (us:List Value),us.length=ks.length->(∀(i:Nat) (u:Value),us[i]? =some u->∃k t,ks[i]? =some k/\u=Value.str k t)->aV (ks.map V.str) us
 | [],[],_,_=> .nil
 |k::ks,u::us,hl,h=>by obtain ⟨k',t,e1,e2⟩:=h 0 u rfl;have e3:k=k':=xX e1;subst e3;refine .cons ⟨t,e2⟩ (NR ks us (by simpa using hl) λi u hu=>?_);exact h (i+1) u (by simpa using hu)
theorem abB (hT:hZ K a D) (hz:D.length<=1000) (hc:X.eD=true:=by rfl) (hK:X.K=K:=by rfl):dJ X (.type "list") (λxs H Q=>xs= [.ref a]/\∀l,H l=none->Q (.ref l) (aj H l (.lst (D.map λp=>V.str p.1)))):=by
 subst hK;intro ae s σ H xs us Q I r h;obtain ⟨rfl,q⟩:=h;obtain ⟨u,rfl,rx⟩:=lW r;cases rx;obtain ⟨hs,o,es,ep,ho,hx,hd,hsz,hk⟩:=hT.obj;refine abA (I.ok.hd hc) hs (I.gg a o ho) hx hd ZD λh' tk eR c' kp e ml=>?_
 obtain ⟨n1,n2⟩:=NQ ml;have rv:aV ((D.map (·.1)).map V.str) eR.toList:=by
  refine NR _ _ (by rw[yA,z9];omega) λi u hu=>?_
  have pk:eR[i]? =some u:=by simpa using hu
  obtain ⟨en,e1,e2⟩:=n2 i u pk;have hi:i<D.length:=by have:=(Array.getElem?_eq_some_iff.mp pk).1;omega
  obtain ⟨en',t,e3,e4⟩:=hk i (D[i]).1 (by rw[yd,yb hi];rfl);rw[e1]at e3;cases e3;exact ⟨(D[i]).1,t,by rw[yd,yb hi];rfl,by rw[e2,e4]⟩
 rw[yN]at rv;exact ⟨.ref s.heap.objs.size,_,I.fS kp (xC _) (show dM X.prog X.w _ h' _ (.lst (D.map λp=>V.str p.1)) from ⟨by rw[yA];exact eQ ZD,eR.toList,c',rv,by simpa using e⟩),rfl,q _ (I.aO.fresh (xC _))⟩
end
section
variable {X:Cx}{K:PySem.W.Frag}
theorem abC:dJ X (.type "range") (λxs H Q=>∃i j:Int,xs= [.int i,.int j]/\∀r,H r=none->Q (.ref r) (aj H r (.gK i j))):=by intro ae s σ H xs us Q I r h;obtain ⟨i,j,rfl,q⟩:=h;obtain ⟨u,v,rfl,⟨t,rfl⟩,⟨t',rfl⟩⟩:=DY r;refine call_range_2 ?_;exact ⟨.ref s.heap.objs.size,_,I.fS (o:= .gK i j) (λb o e=>Heap.get?_push_of_some _ e) (xC _) ⟨_,_,_,Heap.get?_push_size _ rfl⟩,rfl,q _ (I.aO.fresh (xC _))⟩
noncomputable def k7 (i:Int) (n:Nat):List Int:=(List.range n).map λ(k:Nat)=>i+((k:Nat):Int)
theorem NS:∀(ks:List Int) (us:List Value),us.length=ks.length->(∀(i:Nat) (u:Value),us[i]? =some u->∃k t,ks[i]? =some k/\u=Value.int k t)->aV (vi ks) us
 | [],[],_,_=> .nil
 |k::ks,u::us,hl,h=>by obtain ⟨k',t,e1,e2⟩:=h 0 u rfl;have e3:k=k':=xX e1;subst e3;refine .cons ⟨t,e2⟩ (NS ks us (by simpa using hl) λi u hu=>?_);exact h (i+1) u (by simpa using hu)
theorem NT (hc:X.eD=true:=by rfl):dJ X (.type "list") (λxs H Q=>∃(r:Addr) (i j:Int),xs= [.ref r]/\H r=some (.gK i j)/\ -1000000<=i/\i<=1000000/\ -1000000<=j/\j<=1000000/\∀l,H l=none->Q (.ref l) (aj H l (.lst (vi (k7 i (j - i).toNat))))):=by
 intro ae s σ H xs us Q I r h;obtain ⟨a,i,j,rfl,ha,h1,h2,h3,h4,q⟩:=h;obtain ⟨u,rfl,rx⟩:=lW r;cases rx;obtain ⟨t,u,v,e⟩:=I.aO a _ ha;refine call_list_range (n:=(j - i).toNat) (I.ok.hd hc) e (small_one ZD ZD ZD ZD) (by rw[rangeSize_one];split<;>omega) ZD λh' tk eR c' kp e2 ml=>?_
 obtain ⟨n1,n2⟩:=NQ ml;have rv:aV (vi (k7 i (j - i).toNat)) eR.toList:=by
  refine NS _ _ (by unfold k7;rw[yA,yC,z9];exact n1) λk u hu=>?_
  have pk:eR[k]? =some u:=by simpa using hu
  obtain ⟨t2,e3⟩:=n2 k u pk;have hk:=(Array.getElem?_eq_some_iff.mp pk).1;refine ⟨i+(k:Int),t2,?_,by rw[e3,Int.mul_one]⟩;unfold k7;rw[yd,yh ZD];rfl
 exact ⟨.ref s.heap.objs.size,_,I.fS kp (xC _) (show dM X.prog X.w _ h' _ (.lst (vi (k7 i (j - i).toNat))) from ⟨by unfold k7;rw[yA,yA,yC,sizeLine_eq];omega,eR.toList,c',rv,by simpa using e2⟩),rfl,q _ (I.aO.fresh (xC _))⟩
end
theorem uY {P:Program}{w:World}{K:PySem.W.Frag}{mg:Str->Option Value}{base:Heap}{x qual:Str}{st:Stmt}{C f:Addr}{fd:FuncData}{N ps:List Str}{k:Nat}{sp:Sp}(F:gv K "__init__" qual st f fd) (hm:mg x=some (.ref C)) (M:Mk K C f) (S:jq N ps (df st))
  (hb:∀(kV doc pm:Value) (an:Option Addr) (aK ct:Value) (us:List Value),us.length=ps.length->bindArgs (PySem.W.fnOf "__init__" qual (iX st) (gu st) (df st) .none kV doc pm an aK ct) ⟨us,[]⟩=pure (ps.zip us))
  (len:∀vs H Q E,sp vs H Q E->vs.length=ps.length)
  (l4:∀(aK:Value) (A:Around) (aJ:List Env) (s:Shared) (H:Hp) (vs:List V) (Q:VK) (E:XK),Room k (A.deeper (envOfC qual (df st) s.heap.objs.size f aK))->sp vs H Q E->
   ∃t,gL (lZ fX P w K mg base N qual (df st) f aK A aJ s H E).o5 (gu st) t/\t {nx:=λ_a H'=>Q .bT H',rt:=Q} (start N vs) H):hX P w K mg base (k+1) x C ps sp:=
 ⟨f,fd,F.ok S len l4,hm,M,F.nB hb⟩
theorem NU {d:Addr}{o:Obj}{af:List (List bp×V)}{g:TG}{tt:TT}{te:TE}{vs:List Nat}{σ:L2.St}{H1:Hp}{D:Addr}{Qd:Hp->Prop}(Pv:Nat->Hp->Prop) (h0:Pv 0 (aj H1 D (.lst []))) (hl:∀i H,Pv i H->H d=some (.bI o (.dT af)))
  (hs:∀i k v q H,af[i]? =some (k,v)->H q=some (.bP (k.map kV))->Pv i H->g (.ref q) (cg σ vs) H λbM H2=>cg bM vs=cg σ vs/\tt bM H2 λb H3=>
   if b=true then te bM H3 λy H4=>∃acc,H4 D=some (.lst acc)/\acc.length<sizeLine/\Pv (i+1) (aj H4 D (.lst (acc++ [y]))) else Pv (i+1) H3) (hd:∀H,Pv af.length H->Qd H):
  ∃W:Nat->Nat->Hp->Prop,(∃m,W 0 m (aj H1 D (.lst [])))/\∀i m H,W i m H->
   ((nO d o af).stop i H/\Qd H)\/((nO d o af).go i H/\∃Nx:Hp->Prop,(∀H',Nx H'->∃m',m'<m/\W (i+1) m' H')/\∀v H',(nO d o af).iU i H v H'->g v (cg σ vs) H' λbM H2=>cg bM vs=cg σ vs/\tt bM H2 λb H3=>
    if b=true then te bM H3 λy H4=>∃acc,H4 D=some (.lst acc)/\acc.length<sizeLine/\Nx (aj H4 D (.lst (acc++ [y]))) else Nx H3):=by
 refine ⟨λi m H=>m=af.length - i/\i<=af.length/\Pv i H,⟨af.length,by simp,xQ _,h0⟩,?_⟩;rintro i m H ⟨rfl,hi,p⟩;have hf:=hl i H p;by_cases cC:i<af.length
 ·refine .inr ⟨⟨hf,cC⟩,Pv (i+1),λH' p'=>⟨af.length - (i+1),by omega,rfl,cC,p'⟩,λv H' y=>?_⟩;obtain ⟨e,k,v',q,hk,y,hq⟩:=y;subst e y;exact hs i k v' q _ hk hq p
 ·have e:i=af.length:=by omega
  subst e;exact .inl ⟨⟨hf,xC _⟩,hd H p⟩
theorem NV {d:Addr}{o:Obj}{af:List (List bp×V)}{g:TG}{tb:TS}{D:lO}{σ:L2.St}{H:Hp}(Pv:Nat->L2.St->Hp->Prop) (h0:Pv 0 σ H) (hl:∀i σ H,Pv i σ H->H d=some (.bI o (.dT af)))
  (hs:∀i k v q σ H,af[i]? =some (k,v)->H q=some (.bP (k.map kV))->Pv i σ H->g (.ref q) σ H λbM H2=>tb {D with nx:=Pv (i+1),ct:=Pv (i+1),bk:=D.nx} bM H2) (hd:∀σ H,Pv af.length σ H->D.nx σ H):
  ∃W:Nat->Nat->L2.St->Hp->Prop,(∃m,W 0 m σ H)/\∀i m σ H,W i m σ H->
   ((nO d o af).stop i H/\D.nx σ H)\/((nO d o af).go i H/\∃N:L2.St->Hp->Prop,(∀bu H',N bu H'->∃m',m'<m/\W (i+1) m' bu H')/\∀x H',(nO d o af).iU i H x H'->g x σ H' λbM H2=>tb {D with nx:=N,ct:=N,bk:=D.nx} bM H2):=by
 refine ⟨λi m σ H=>m=af.length - i/\i<=af.length/\Pv i σ H,⟨af.length,by simp,xQ _,h0⟩,?_⟩;rintro i m σ H ⟨rfl,hi,p⟩;have hf:=hl i σ H p;by_cases cC:i<af.length
 ·refine .inr ⟨⟨hf,cC⟩,Pv (i+1),λbu H' p'=>⟨af.length - (i+1),by omega,rfl,cC,p'⟩,λx H' y=>?_⟩;obtain ⟨e,k,v',q,hk,y,hq⟩:=y;subst e y;exact hs i k v' q σ _ hk hq p
 ·have e:i=af.length:=by omega
  subst e;exact .inl ⟨⟨hf,xC _⟩,hd σ H p⟩
theorem Be {X:Cx}(i:Nat) {y:Str}{py:Pos}{ez tg iter:Expr}{d6:List Expr}{scope:Scope}{own:List (Str×Nat)}{pos AJ:Pos}{wi:TI}{g:TG}{tt:TT}{te:TE}(hN:X.N.Nodup) (hi:PI X tg iter wi) (ok:AK X.N X.ah.scope scope own=true)
  (hg:∀(s:Shared) (H:Hp) (C:Addr) (cl:List (Str×Addr)) (fp:List Addr),PG (X.d5 s H scope (compEnvC scope cl C X.ah) fp) tg g) (ht:∀(s:Shared) (H:Hp) (C:Addr) (cl:List (Str×Addr)) (fp:List Addr),pA (X.d5 s H scope (compEnvC scope cl C X.ah) fp) d6 tt)
  (he:∀(s:Shared) (H:Hp) (C:Addr) (cl:List (Str×Addr)) (fp:List Addr),PE (X.d5 s H scope (compEnvC scope cl C X.ah) fp) ez te) (hc:X.eD=true:=by rfl) (hy:X.N[i]? =some y:=by rfl) (uD:X.ah.scope.names.lookup y=some .local:=by rfl)
  (hk:X.ah.scope.kind= .function:=by rfl) (hl:(py.line==pos.line)=true:=by rfl) (ha:(scope.names.any λ(n,k)=>n==y&&(k== .local||k== .cell))=false:=by rfl) (hs:∀x,foldedSetIterable iter X.ah x=pure x:=by intro _;rfl):
  PS X (.Assign [.Name y py] (.ListComp ez [⟨tg,iter,d6,0⟩] scope pos) AJ) (ub (rp wi g tt te (own.map (·.2))) (lS i)):=
 ZT hc hN hy uD (ZX hk uD hl ha) hi (M0 ok) hg ht he hs
section
variable {X:Cx}{K:PySem.W.Frag}
theorem rL (hc:X.eD=true:=by rfl) (hK:X.K=K:=by rfl):dJ X (.builtin "sum") (Mw K):=by subst hK;exact YK hc
theorem abD (hc:X.eD=true:=by rfl) (hK:X.K=K:=by rfl):dJ X (.builtin "max") (Mx K):=by subst hK;exact YL hc
theorem Ff (hK:X.K=K:=by rfl):dJ X (.builtin "sorted") (My K):=by subst hK;exact YN
theorem Fg {H:Hp}:∀l:List Int,pq K H (vi l) (l.map PyData.int)
 | []=> .nil
 |a::l=> .cons (.int a) (Fg l)
theorem NW (l:List Int):SeqAt.shaped (.list (l.map PyData.int))=true:=by
 have h:∀m:List Int,PyData.canLayAll0 (m.map PyData.int)=true/\PyData.depthAll (m.map PyData.int)=0:=by
  intro m;induction m with
  |nil=>exact ⟨rfl,rfl⟩
  |cons a m ih=>rw[yJ,PyData.canLayAll0,PyData.depthAll,ih.1,ih.2];exact ⟨rfl,rfl⟩
 unfold SeqAt.shaped;rw[PyData.canLay0,PyData.depth,(h l).1,(h l).2];rfl
theorem abE (l m:List Int):PyData.eqv (.list (l.map PyData.int)) (.list (m.map PyData.int))=decide (l=m):=by
 have h:∀a b:List Int,PyData.eqvAll (a.map PyData.int) (b.map PyData.int)=decide (a=b):=by
  intro a;induction a with
  |nil=>intro b;cases b<;>simp[PyData.eqvAll]
  |cons x a ih=>
   intro b;cases b with
   |nil=>simp[PyData.eqvAll]
   |cons y b=>rw[yJ,yJ,PyData.eqvAll,ih b,zf];simp[PyData.eqv]
 rw[PyData.eqv];exact h l m
noncomputable def abF (K:PySem.W.Frag):R2:=λx y H Q=>∃a b l m,x= .ref a/\y= .ref b/\ag K H a (vi l)/\ag K H b (vi m)/\Q (.bl (!decide (l=m))) H
theorem NX (hu:X.A.units+64<cLine) (hK:X.K=K:=by rfl):cV X (compareOp .NotEq) (abF K):=by subst hK;intro ae s σ H x y v u Q I rx ry h;obtain ⟨a,b,l,m,rfl,rfl,ha,hb,q⟩:=h;refine YY hu ae s σ H _ _ v u Q I rx ry ⟨_,_,.lst ha (Fg l),.lst hb (Fg m),NW l,NW m,?_⟩;rw[abE];exact q
end
section
variable {prog:Program}{w:World}{A:Around}{E:Value->Shared->Prop}{s:Shared}{d:Addr}{o:Obj}{es:Array DictEntry}{ep:Nat}
theorem abG (hd:(d==sysModules)=false) (fc:o.data= .dict es ep):MeetsIn prog w (Builtin.«dict.__len__» ⟨[.ref d],[]⟩) (λ_a R s=>s.heap.get? d=some o/\R (.ok (.ret (.int es.size s.toks))) {s with toks:=s.toks+1}):=
 .of_wp λA R s ⟨ho,h⟩=>by show wpAny _ _ (dictSize d>>=_) _ _ s;unfold dictSize;refine wpAny_bind (wpAny_bind (wpAny_dictEntries ho fc (wpAny_pure (?_:wpAny _ _ (Builtin.Dict.pendingCount d>>=_) _ _ s))));exact wpAny_bind (wpAny_pendingCount_other hd (wpAny_ret_mkInt (by rw[xw];exact h)))
theorem abH {Q:Value->Shared->Prop}(hd:(d==sysModules)=false) (ho:s.heap.get? d=some o) (hx:o.ExactDict) (fc:o.data= .dict es ep) (hz:(es.size:Int)<2^63)
  (h:Q (.int es.size (s.toks+1)) {s with toks:=s.toks+1+1}):wpAny (model prog w) A (call (.builtin "len") [.ref d]) Q E s:=by
 have hT:s.TypeIs (.ref d) "dict":=⟨o,ho,hx.1⟩;refine Calls.call_function_entry kind_len plain_len entry_len (args_len1 _) ?_;unfold Builtin.«len»;refine wpAny_bind (m:=oneArg "len" _) (wpAny_pure ?_);refine wpAny_bind (m:=callSpecial? (.ref d) (Str.ofString "__len__")) (wpAny_callSpecial?_slot (name:=Str.ofString "__len__") hT F.slot_dict_len (call_meetsIn F.slot_dict_len hT F.entry_dict_len (F.args_dict_len_1 _) (abG hd fc) ⟨ho,?_⟩));show wpAny _ _ _ _ _ {s with toks:=s.toks+1};refine wpAny_bind (wpAny_holding (wpAny_pure ?_));refine wpAny_bind (wpAny_letGo ?_);show wpAny _ _ (if ((es.size:Nat):Int)<0 then _ else _) _ _ _;rw[Zw ZD];show wpAny _ _ (if ((es.size:Nat):Int)>=2^63 then _ else _) _ _ _;rw[Zw ZD];exact wpAny_bind (wpAny_mkInt (wpAny_pure ⟨_,rfl,h⟩))
end
section
variable {X:Cx}{K:PySem.W.Frag}
theorem abI:dJ X (.builtin "len") (λxs H Q=>∃a af,xs= [V.ref a]/\H a=some (.dT af)/\Q (.int af.length) H):=by
 intro ae s σ H xs us Q I r h;obtain ⟨a,af,rfl,ha,q⟩:=h;obtain ⟨u,rfl,ru⟩:=lW r;cases ru;obtain ⟨z,hd,ys,fb,o,es,ep,ho,hx,fc,he,_,_⟩:=pB I.aO (.inl ha);have hl:af.length=ys.length:=Paired.length fb;have hsz:es.size=af.length:=by have:=Zo List.length he;rw[yA,z9]at this;omega
 have z2:af.length<=2^24:=by rw[sizeLine_eq]at z;omega
 refine abH hd ho hx fc ZD ⟨.int af.length,H,I.eg _,?_,q⟩;rw[hsz];exact ⟨_,rfl⟩
end
section
variable {prog:Program}{w:World}{A:Around}{R:Result->Shared->Prop}{it:Addr}{items:Array Value}{ax:Addr}
noncomputable def nQ (h:Heap) (items:Array Value) (rows:List (List Int)):Prop:=items.size=rows.length/\∀(i:Nat) (v:Value),items[i]? =some v->∃(a:Addr) (us:Array Value) (r:List Int),v= .ref a/\IsTup h a us/\rows[i]? =some r/\IntsAre us.toList r
theorem nQ.keep {h h':Heap}{rows:List (List Int)}(t:nQ h items rows) (k:∀b o,h.get? b=some o->o.cls= .type "tuple"->h'.get? b=some o):nQ h' items rows:=
 ⟨t.1,λi v e=>by obtain ⟨a,us,r,e1,⟨o,q1,q2,q3⟩,e3,e4⟩:=t.2 i v e;exact ⟨a,us,r,e1,⟨o,k a o q1 q2,q2,q3⟩,e3,e4⟩⟩
noncomputable def gS (rows:List (List Int)) (i j:Nat):Bool:=HT.gP (rows.getD i []) (rows.getD j [])
theorem abJ {rows:List (List Int)}{i j:Nat}{u v:Value}{s:Shared}{Q E:Value->Shared->Prop}(t:nQ s.heap items rows) (hu:A.units<cLine) (hi:items[i]? =some u) (hj:items[j]? =some v) (q:Q (.bool (gS rows i j)) s):
  wpAny (model prog w) A (richCompare .Lt u v) Q E s:=by
 obtain ⟨a,us,r,rfl,p1,e1,i1⟩:=t.2 i u hi;obtain ⟨b,vs,r',rfl,p2,e2,i2⟩:=t.2 j v hj;have ea:rows.getD i []=r:=by rw[y4,e1];rfl
 have eb:rows.getD j []=r':=by rw[y4,e2];rfl
 unfold gS at q;rw[ea,eb]at q;exact HT.X8 p1 p2 i1 i2 hu q
theorem abK (A:Around):A.in1.units=A.units+1:=rfl
theorem abL {rows:List (List Int)}(hh:A.handled=none) (hu:A.units+1<cLine) (bQ:ax≠it) (S:Addr) (nR:S≠it) (Bf:S≠ax):
  ∀(k j:Nat) (s:Shared) (vb:Value) (c:Nat),items.size - (j+1)=k->j+1<=items.size->s.heap.IsListIter it ax (j+1)->s.heap.IsList ax items->nQ s.heap items rows->items[argBest (gS rows) j]? =some vb->
   s.heap.get? S=some {cls:= .type "list",dict:=none,data:= .seq #[vb,vb] c,slots:=#[]}->(∃oi,s.heap.get? it=some oi/\oi.cls= .type "list_iterator")->
   (∀v h' tk,items[argBest (gS rows) (items.size - 1)]? =some v->(∀b o,b≠it->b≠S->s.heap.get? b=some o->h'.get? b=some o)->R (.ok (.ret v)) {s with heap:=h',toks:=tk})->
   codeAny (model prog w) A (.builtin "min.loop" ⟨[.ref it,.none,.ref S],[]⟩) R s:=by
 have nm:(toString "min"++toString ".loop":String)="min.loop":=by decide
 have W:=Walks.list (prog:=prog) (w:=w) (A:=A.in1) hh it ax bQ items;intro k;induction k with
 |zero=>
  intro j s vb c hk hj h1 h2 ht hb hs _ hR;have e:j+1=items.size:=by omega
  refine codeAny_builtin Z4 ?_;rw[Around.under_plainId Z6 _];show wpAny _ A.in1 (seqItems? (.ref S)>>=_) _ _ s;refine wpAny_bind (wpAny_seqItems hs rfl ?_);show wpAny _ A.in1 (tryCatch (pyNext (.ref it)) _>>=_) _ _ s;refine wpAny_bind (wpAny_tryCatch (W.done s _ _ (e▸⟨h1,h2⟩) λh' tk kp=>?_));have i3:=kp S _ (by simpa using nR) hs;show wpAny _ A.in1 (updateSeq S (λ_a=>#[])>>=_) _ _ _;refine wpAny_bind ?_;refine wpAny_updateSeq i3 rfl (wpAny_bind (wpAny_letGo (wpAny_pure (hR vb _ tk ?_ λb o b1 b2 q=>?_))))
  ·rw[←e];exact hb
  ·exact (Heap.get?_update_other _ _ (xR b2)).trans (kp b o (by simpa using b1) q)
 |succ k ih=>
  intro j s vb c hk hj h1 h2 ht hb hs hi hR;have lt:j+1<items.size:=by omega
  refine codeAny_builtin Z4 ?_;rw[Around.under_plainId Z6 _];show wpAny _ A.in1 (seqItems? (.ref S)>>=_) _ _ s;refine wpAny_bind (wpAny_seqItems hs rfl ?_);show wpAny _ A.in1 (tryCatch (pyNext (.ref it)) _>>=_) _ _ s;refine wpAny_bind (wpAny_tryCatch (W.item (j+1) s _ _ lt ⟨h1,h2⟩ λv h' tk hv st kp=>?_));have i3:=kp S _ (by simpa using nR) hs;have bP:∀(h2:Heap) (b:Addr) (o:Obj),(∀b o,b≠it->b≠S->s.heap.get? b=some o->h2.get? b=some o)->s.heap.get? b=some o->o.cls= .type "tuple"->h2.get? b=some o:=λh2 b o kq q qc=>by
   refine kq b o (λz=>?_) (λz=>?_) q
   ·subst z;obtain ⟨oi,q1,q2⟩:=hi;rw[q]at q1;cases q1;rw[qc]at q2;exact absurd q2 ZE
   ·subst z;rw[q]at hs;cases hs;exact absurd (Value.type.inj qc) ZE
  have Fh:nQ h' items rows:=ht.keep λb o q qc=>bP h' b o (λb o b1 b2 q=>kp b o (by simpa using b1) q) q qc
  have Bg:∃oi,h'.get? it=some oi/\oi.cls= .type "list_iterator":=by obtain ⟨oi,q1,q2,_⟩:=st.1;exact ⟨oi,q1,q2⟩
  show wpAny _ A.in1 (tryCatch (holding [v,v] (richCompare .Lt v vb>>=_)) _>>=_) _ _ _;refine wpAny_bind (wpAny_tryCatch (wpAny_holding (wpAny_bind (abJ (i:=j+1) (j:=argBest (gS rows) j) Fh hu hv hb ?_))));refine wpAny_bind (wpAny_holding (wpAny_truthy_bool (wpAny_bind (wpAny_letGo (wpAny_pure ?_)))));cases bt:gS rows (j+1) (argBest (gS rows) j) with
  |true=>
   simp only[Zy];refine wpAny_bind (wpAny_updateSeq i3 rfl (wpAny_bind (wpAny_letGo ?_)));rw[nm];refine wpAny_pure ⟨plainId_quiet Z6 _,ih (j+1) _ v _ ZD lt (st.1.at λo q=>?_) (st.2.at λo q=>?_) (Fh.keep λb o q qc=>?_) (by simp only[argBest,bt,Zy];exact hv) (Heap.get?_update_self _ i3 rfl) ?_ λv' h2 uZ q1 q2=>?_⟩
   ·exact (Heap.get?_update_other _ _ nR).trans q
   ·exact (Heap.get?_update_other _ _ Bf).trans q
   ·refine (Heap.get?_update_other _ _ (λz=>?_)).trans q;subst z;rw[q]at i3;cases i3;exact absurd (Value.type.inj qc) ZE
   ·obtain ⟨oi,q1,q2⟩:=Bg;exact ⟨oi,(Heap.get?_update_other _ _ nR).trans q1,q2⟩
   ·exact hR v' h2 uZ q1 λb o b1 b2 q=>q2 b o b1 b2 ((Heap.get?_update_other _ _ (xR b2)).trans (kp b o (by simpa using b1) q))
  |false=>simp only[zh,Zv];refine wpAny_bind (wpAny_letGo ?_);rw[nm];exact wpAny_pure ⟨plainId_quiet Z6 _,ih (j+1) _ vb c ZD lt st.1 st.2 Fh (by simp only[argBest,bt,zh,Zv];exact hb) i3 Bg λv' h2 uZ q1 q2=>hR v' h2 uZ q1 λb o b1 b2 q=>q2 b o b1 b2 (kp b o (by simpa using b1) q)⟩
theorem abM {rows:List (List Int)}{s:Shared}{Q E:Value->Shared->Prop}(hh:A.handled=none) (hu:A.units+2<cLine) (hl:s.heap.IsList ax items) (ht:nQ s.heap items rows) (bQ:0<items.size)
  (h:∀v h' tk,items[argBest (gS rows) (items.size - 1)]? =some v->(∀b o,s.heap.get? b=some o->h'.get? b=some o)->Q v {s with heap:=h',toks:=tk}):wpAny (model prog w) A (call (.builtin "min") [.ref ax]) Q E s:=by
 have nm:(toString "min"++toString ".loop":String)="min.loop":=by decide
 have pG:ax<s.heap.objs.size:=by obtain ⟨_,e,_⟩:=hl;exact Heap.lt_size e
 refine call_function_tree PySem.F.kind_min PySem.F.plain_min PySem.F.entry_min (PySem.F.args_min1 _) ?_;show wpAny _ A.in1 (Builtin.Builtins.bindParams "min" ["key","default"] 0 ⟨[],[]⟩>>=_) _ _ s;refine wpAny_bind (wpAny_of_eq (show Builtin.Builtins.bindParams "min" ["key","default"] 0 ⟨[],[]⟩=pure [none,none] from rfl) (wpAny_bind (wpAny_pure ?_)));refine wpAny_bind (wpAny_pyIter_list hl ?_);generalize uX:({cls:= .type "list_iterator",data:= .fields #[.ref ax,.int 0 0]}:Obj)=ob;have g0:(s.heap.push ob).get? s.heap.objs.size=some ob:=Heap.get?_push_size _ (by subst uX;rfl);have st:(s.heap.push ob).IsListIter s.heap.objs.size ax 0:=by subst uX;exact ⟨_,g0,rfl,rfl⟩
 have DA:ob.cls= .type "list_iterator":=by subst uX;rfl
 have nR:s.heap.objs.size+1≠s.heap.objs.size:=by omega
 have Bf:s.heap.objs.size+1≠ax:=(xN (xI pG)).symm;have hsz:(s.heap.push ob).objs.size=s.heap.objs.size+1:=Heap.size_push _ _;refine wpAny_bind (wpAny_newObj_type ?_);rw[nm];show wpAny _ _ _ _ _ _;refine wpAny_pure ⟨plainId_quiet Z6 _,?_⟩;generalize abN:({cls:= .type "list",data:= .seq #[]}:Obj)=Bh;have W:=Walks.list (prog:=prog) (w:=w) (A:=A.in1) hh s.heap.objs.size ax (xN pG) items;have kY:((s.heap.push ob).push Bh).IsList ax items:=(hl.push _).push _;have qS:((s.heap.push ob).push Bh).IsListIter s.heap.objs.size ax 0:=st.at λo q=>Heap.get?_push_of_some _ q
 have lU:((s.heap.push ob).push Bh).get? (s.heap.push ob).objs.size=some {cls:= .type "list",dict:=none,data:= .seq #[] 0,slots:=#[]}:=by subst abN;exact Heap.get?_push_size _ rfl
 rw[hsz]at lU⊢;have uc:∀b o,s.heap.get? b=some o->((s.heap.push ob).push Bh).get? b=some o:=λb o q=>Heap.get?_push_of_some _ (Heap.get?_push_of_some _ q)
 refine codeAny_builtin Z4 ?_;rw[Around.under_plainId Z6 _];show wpAny _ _ (seqItems? (.ref (s.heap.objs.size+1))>>=_) _ _ _;refine wpAny_bind (wpAny_seqItems lU rfl ?_);show wpAny _ _ (tryCatch (pyNext (.ref s.heap.objs.size)) _>>=_) _ _ _;refine wpAny_bind (wpAny_tryCatch (W.item 0 _ _ _ bQ ⟨qS,kY⟩ λv h' tk hv eh kp=>?_));have i3:=kp (s.heap.objs.size+1) _ (by simp) lU;have hb:∀b o,s.heap.get? b=some o->h'.get? b=some o:=λb o q=>kp b o (by simp;exact xN (Heap.lt_size q)) (uc b o q)
 have Fi:∀b o,s.heap.get? b=some o->s.heap.objs.size+1≠b:=λb o q=>(xN (xI (Heap.lt_size q))).symm
 show wpAny _ _ (updateSeq (s.heap.objs.size+1) (λ_a=>#[v,v])>>=_) _ _ _;refine wpAny_bind (wpAny_updateSeq i3 rfl ?_);rw[nm];refine wpAny_pure ⟨plainId_quiet Z6 _,abL (it:=s.heap.objs.size) hh ZD (xN pG) (s.heap.objs.size+1) nR Bf _ 0 _ v _ rfl bQ (eh.1.at λo q=>?_) (eh.2.at λo q=>?_) (ht.keep λb o q _a=>?_) hv (Heap.get?_update_self _ i3 rfl) ?_ λv' h2 uZ q1 q2=>?_⟩
 ·exact (Heap.get?_update_other _ _ nR).trans q
 ·exact (Heap.get?_update_other _ _ Bf).trans q
 ·exact (Heap.get?_update_other _ _ (Fi b o q)).trans (hb b o q)
 ·obtain ⟨oi,p1,p2,_⟩:=eh.1;exact ⟨oi,(Heap.get?_update_other _ _ nR).trans p1,p2⟩
 ·exact h v' h2 uZ q1 λb o q=>q2 b o (xN (Heap.lt_size q)) (xR (Fi b o q)) ((Heap.get?_update_other _ _ (Fi b o q)).trans (hb b o q))
end
section
variable {X:Cx}{K:PySem.W.Frag}{ae:List (Addr×Obj)}{σ:L2.St}{H:Hp}{s:Shared}
noncomputable def Bi (K:PySem.W.Frag) (H:Hp) (as:List Addr) (rows:List (List Int)):Prop:=Paired (λa r=>cu K H a (vi r)) as rows
theorem abO (I:az X ae σ H s):∀{as:List Addr}{rows:List (List Int)},Bi X.K H as rows->nQ s.heap (as.map Value.ref).toArray rows:=by
 intro as rows h;refine ⟨by simp;exact Paired.length h,λi v e=>?_⟩;have e':(as.map Value.ref)[i]? =some v:=by simpa using e
 obtain ⟨a,ha,rfl⟩:=cD e';obtain ⟨r,hr,q⟩:=hU h ha;obtain ⟨ay,rv,p,_⟩:=I.tuple q;exact ⟨a,ay.toArray,r,rfl,p,hr,Yb rv⟩
noncomputable def abP (K:PySem.W.Frag):List V->Hp->VK->Prop:=λvs H Q=>∃(p:Addr) (as:List Addr) (rows:List (List Int)) (a:Addr),vs= [.ref p]/\ag K H p (as.map V.ref)/\Bi K H as rows/\0<as.length/\as[argBest (gS rows) (as.length - 1)]? =some a/\Q (.ref a) H
theorem abQ (hu:X.A.units+64<cLine) (hc:X.eD=true:=by rfl) (hK:X.K=K:=by rfl):dJ X (.builtin "min") (abP K):=by
 subst hK;intro ae s σ H vs us Q I r h;obtain ⟨p,as,rows,a,rfl,hp,ht,bQ,ha,q⟩:=h;obtain ⟨ay,rv,hl,_⟩:=I.list hp;rw[aV.rf r];have e:=rJ rv;subst e;refine abM (I.ok.hd hc) ZD hl.isList (abO I ht) (by simpa using bQ) λv h' tk hv hk=>⟨.ref a,H,I.dX hk,?_,q⟩
 have lX:(as.map Value.ref)[argBest (gS rows) (as.length - 1)]? =some v:=by simpa using hv
 rw[yd,ha]at lX;cases lX;rfl
theorem abR {A:Around}{a b:Addr}{l m:List Int}(I:az X ae σ H s) (ha:cu X.K H a (vi l)) (hb:cu X.K H b (vi m)) (hu:A.units<cLine):SeqAt.RcAt A s (.ref a) (.ref b) (decide (l=m)):=by
 obtain ⟨ay,r1,p1,_⟩:=I.tuple ha;obtain ⟨hJ,r2,p2,_⟩:=I.tuple hb;have n1:=r1.length;have n2:=r2.length;rw[yA]at n1 n2;have q:=SeqAt.RcAt.tuples (A:=A) (e:=λj=>decide (l[j]? =m[j]?)) p1 p2 hu (λj h1 h2=>?_)
 ·have e:((List.range (min ay.toArray.size hJ.toArray.size)).all (λj=>decide (l[j]? =m[j]?))&&ay.toArray.size==hJ.toArray.size)=decide (l=m):=by
   rw[xl,xl,←n1,←n2];by_cases hl:l.length=m.length
   ·rw[←hl,Nat.min_self,E3 l m hl];simp
   ·have e1:decide (l=m)=false:=Zq λz=>hl (by rw[z])
    have e2:(l.length==m.length)=false:=beq_eq_false_iff_ne.mpr hl;rw[e1,e2,zc]
  rw[e]at q;exact q
 ·have E4:j<ay.length:=by simpa using h1
  have E5:j<hJ.length:=by simpa using h2
  obtain ⟨z,t,e1,e2⟩:=uT r1 (yb E4);obtain ⟨z',t',e3,e4⟩:=uT r2 (yb E5);have f1:ay.toArray[j]=Value.int z t:=by simpa using e2
  have f2:hJ.toArray[j]=Value.int z' t':=by simpa using e4
  rw[f1,f2,e1,e3];have e5:decide (some z=some z')=(z==z'):=by rw[zf];simp
  rw[e5];exact SeqAt.EqAt.int_int z t z' t'
theorem abS {A:Around}{a b:Addr}{l m:List Int}(I:az X ae σ H s) (ha:cu X.K H a (vi l)) (hb:cu X.K H b (vi m)) (hu:A.units<cLine):SeqAt.EqAt A s (.ref a) (.ref b) (decide (l=m)):=by
 by_cases h:a=b
 ·subst h;have e:=I.DG ha hb;have e':l=m:=(yM λx y z=>V.int.inj z).mp e;rw[Zs e'];exact SeqAt.EqAt.same _
 ·exact SeqAt.EqAt.of_refs h (abR I ha hb hu)
open Classical in
noncomputable def Bj (K:PySem.W.Frag) (H:Hp) (l:List Int) (u:Value):Bool:=decide (∃a,u=Value.ref a/\cu K H a (vi l))
open Classical in
theorem NY {a:Addr}{l m:List Int}(I:az X ae σ H s) (ha:cu X.K H a (vi m)):Bj X.K H l (.ref a)=decide (m=l):=by
 unfold Bj;rw[zf,Zu,Zu];constructor
 ·rintro ⟨b,e,hb⟩;cases e;exact (yM λx y z=>V.int.inj z).mp (I.DG ha hb)
 ·rintro rfl;exact ⟨a,rfl,ha⟩
noncomputable def abT (K:PySem.W.Frag):V->List V->Hp->VK->Prop:=λx xs H Q=>∃(p b:Addr) (as:List Addr) (rows:List (List Int)) (r:List Int) (j:Nat),x= .ref p/\xs= [.ref b]/\ag K H p (as.map V.ref)/\Bi K H as rows/\cu K H b (vi r)/\rows[j]? =some r/\(∀i,i<j->rows[i]? ≠some r)/\Q (.int (j:Nat)) H
theorem abU (hu:X.A.units+64<cLine) (hK:X.K=K:=by rfl):nH X "list.index" (abT K):=by
 subst hK;intro ae s σ H x xs v us Q I rx Ek h;obtain ⟨p,b,as,rows,r,j,rfl,rfl,hs,ht,hb,hj,uv,q⟩:=h;cases rx;obtain ⟨u,rfl,ru⟩:=Ek.one;cases ru;obtain ⟨ay,rv,⟨⟨cls,dd,data,sl⟩,n,ho,hc,MC,hd⟩,bW⟩:=I.list hs;simp only at hc hd;subst hc hd;have e:=rJ rv;subst e;have dP:=Paired.length ht;obtain ⟨NZ,_⟩:=List.getElem?_eq_some_iff.mp hj;have MD:=sizeLine_eq;rw[yA]at bW;have at_:∀(i:Nat) (hi:i<(as.map Value.ref).toArray.size),∃r',rows[i]? =some r'/\Bj X.K H r (as.map Value.ref).toArray[i]=decide (r'=r):=by
  intro i hi;have Bg:i<as.length:=by simpa using hi
  obtain ⟨r',pH,hq⟩:=hU ht (yb Bg);refine ⟨r',pH,?_⟩;have e1:(as.map Value.ref).toArray[i]=Value.ref as[i]:=by simp
  rw[e1];exact NY I hq
 refine call_meets Zb ⟨_,ho,rfl⟩ Z3 (Z1 _ _) (SeqAt.list_indexAt p (as.map Value.ref).toArray n dd sl (.ref b) (Bj X.K H r) j (by simp;omega) ZD ?_ ?_) ⟨ho,λy hy=>?_,?_⟩
 ·obtain ⟨r',h1,h2⟩:=at_ j (by simp;omega);rw[hj]at h1;cases h1;rw[h2];simp
 ·intro m hm Em;obtain ⟨r',h1,h2⟩:=at_ m hm;rw[h2];exact Zq λz=>uv m Em (by rw[h1,z])
 ·have pj:y∈as.map Value.ref:=by simpa using hy
  obtain ⟨a,ha,rfl⟩:=List.mem_map.mp pj;obtain ⟨i,hi⟩:=yg ha;obtain ⟨r',_,hq⟩:=hU ht hi;rw[NY I hq];exact abS I hq hb (show X.A.in1.units<cLine by rw[abK];omega)
 ·exact ⟨.int (j:Nat),H,I.eg _,⟨s.toks,rfl⟩,q⟩
theorem abV (hK:X.K=K:=by rfl):LN X (qZ K):=by
 subst hK;intro ae s σ H o i ov iv Q I ro ri h;obtain ⟨p,xs,k,z,rfl,rfl,hq,he,q⟩:=h;cases ro;obtain ⟨t,rfl⟩:=ri;obtain ⟨ay,r,pl,hz⟩:=I.list hq;obtain ⟨j,h1,h2,h3,h4,h5⟩:=Ec he;obtain ⟨w,ew,eE⟩:=r.get h2;have hl:=r.length;have hn:=uh;have fin:EP X ae σ Q w s:=⟨z,H,I,eE,q⟩;by_cases h0:0<=k
 ·have hj:k.toNat=j:=by rw[seqIndex_of h0 h5]at h1;exact xX h1
  exact wpAny_getItem_list pl.isList h0 ZD (by rw[hj];simpa using ew) fin
 ·have hj:(k+xs.length).toNat=j:=by rw[seqIndex_neg ZD h4]at h1;exact xX h1
  refine wpAny_getItem_list_neg pl.isList ZD (by simp;omega) ZD ?_ fin;rw[xl,←hl,hj];simpa using ew
noncomputable def u0 (K:PySem.W.Frag) (a:Addr) (rs:List (Int×List V)):Prop:=∃(o:Obj) (es:Array DictEntry) (ep:Nat),List.lookup a K=some o/\o.cls= .type "dict"/\o.data= .dict es ep/\IntKeys es/\∀r∈rs,∃p,findBy Value.isInt es r.1=some (.ref p)/\∀H,cu K H p r.2
noncomputable def abW (K:PySem.W.Frag) (rs:List (Int×List V)) (ti:TE):TE:=λσ H Q=>ti σ H λy H1=>∃k xs,y= .int k/\(k,xs)∈rs/\∀p,(∀H,cu K H p xs)->Q (.ref p) H1
theorem N0 {a:Addr}{rs:List (Int×List V)}{x:Str}{i:Expr}{ti:TE}{p pos:Pos}(hT:X.mg x=some (.ref a)/\u0 K a rs) (hg:Gl X x) (hi:PE X i ti) (hs:AM i) (hd:(x==("__debug__":Str))=false:=by decide) (hK:X.K=K:=by rfl):PE X (.Subscript (.Name x p) i pos) (abW K rs ti):=by
 subst hK;intro ae s σ H Q I h;obtain ⟨hm,o,es,ep,ho,hc,fc,hk,hf⟩:=hT;refine EG (T:="dict") Z8.lookup hs (qP I hg hm ?_ hd);refine aY (hi ae s σ H _ I h) λu s1 ⟨y,H1,I1,ry,k,xs,ey,hl,q⟩=>?_
 subst ey;obtain ⟨t,rfl⟩:=ry;obtain ⟨b,hb,hsq⟩:=hf _ hl;have N1:s1.heap.IntMap a (findBy Value.isInt es):=⟨o,es,ep,I1.gg a o ho,hc,fc,hk,λ_a=>rfl⟩;exact ⟨N1.typeIs,wpAny_getItem_intMap N1 hb ⟨.ref b,H1,I1.eg _,rfl,q b hsq⟩⟩
set_option tactic.hygienic true in
theorem abY {a:Addr}{es:Array DictEntry}{ep:Nat}{rs:List (Int×List V)}(e:List.lookup a K=some ⟨.type "dict",none,.dict es ep,#[]⟩) (h1:(es.toList.all λen=>match en.key with| .int k _=>en.hash==hashInt k|_=>false)=true)
  (h2:∀r∈rs,∃p,findBy Value.isInt es r.1=some (.ref p)/\∀H,cu K H p r.2):u0 K a rs:=by
 refine ⟨_,es,ep,e,rfl,rfl,λen uL=>?_,h2⟩;have:=zx.mp h1 en (by simpa using uL);split at this
 ·rename_i k t hk;exact ⟨k,t,hk,by simpa using this⟩
 ·cases this
theorem abZ:dJ X (.type "range") (λxs H Q=>∃j:Int,xs= [.int j]/\∀r,H r=none->Q (.ref r) (aj H r (.gK 0 j))):=by intro ae s σ H xs us Q I r h;obtain ⟨j,rfl,q⟩:=h;obtain ⟨u,rfl,t,rfl⟩:=lW r;refine call_range_1 ?_;exact ⟨.ref s.heap.objs.size,_,I.fS (o:= .gK 0 j) (λb o e=>Heap.get?_push_of_some _ e) (xC _) ⟨_,_,_,Heap.get?_push_size _ rfl⟩,rfl,q _ (I.aO.fresh (xC _))⟩
end
section
variable {X:Cx}{k j:Nat}{x:Str}{p pos fG:Pos}{a b e o:Expr}{es:List Expr}{t:TA}{ta tb to:TE}{ps:List Str}{sp:Sp}{C:Addr}{f:Str}
theorem aD (O:a7 X.prog X.w X.K X.mg X.base k x ps sp) (hr:Room j X.A) (ha:PA X (e::es) t) (hk:k<=j:=by decide) (hg:Gl X x:=by exact rfl) (hp:jo fX X E0:=by exact rC) (eX:(x==("__debug__":Str))=false:=by decide)
  (he:starEach (e::es) X.ah=(false,eval e X.ah)::starEach es X.ah:=by rfl) (dj:(backTo pos (starEach es X.ah)).any (·.1)=false:=by rfl):
  PE X (.Call (.Name x p) (e::es) [] pos) (Aw sp [] E0 t):=own O hr hk hg ha hp eX he dj
theorem u5 (O:hX X.prog X.w X.K X.mg X.base k x C ps sp) (hr:Room j X.A) (ha:PA X (e::es) t) (hk:k+1<=j:=by decide) (hg:Gl X x:=by exact rfl) (hp:jo fX X E0:=by exact rC) (eX:(x==("__debug__":Str))=false:=by decide)
  (he:starEach (e::es) X.ah=(false,eval e X.ah)::starEach es X.ah:=by rfl) (dj:(backTo pos (starEach es X.ah)).any (·.1)=false:=by rfl):
  PE X (.Call (.Name x p) (e::es) [] pos) (qX C sp [] E0 t):=mke O hr hk hg ha hp eX he dj
theorem Fj (O:hX X.prog X.w X.K X.mg X.base k x C ps sp) (hr:Room j X.A) (hk:k+1<=j:=by decide) (hg:Gl X x:=by exact rfl) (hp:jo fX X E0:=by exact rC) (eX:(x==("__debug__":Str))=false:=by decide):
  PE X (.Call (.Name x p) [] [] pos) (qX C sp [] E0 kU):=aa0 O hr hk hg hp eX
theorem aR {v:Int}(hm:∃t,X.mg x=some (.int v t)) (hg:Gl X x:=by exact rfl) (hd:(x==("__debug__":Str))=false:=by decide):PE X (.Name x pos) (tC (.int v)):=aaX hm hg hd
theorem aP (K:PySem.W.Frag) (he:PE X e ta) (hb:attributeBase e f X.ah (eval e X.ah)=eval e X.ah:=by rfl) (hK:X.K=K:=by rfl):PE X (.Attribute e f pos) (D1 K ta f):=aa9 he hb hK
theorem bL (K:PySem.W.Frag) (ha:PE X a ta) (hb:PE X b tb) (hs:Ed b:=by exact λ_a _a=>rfl) (hK:X.K=K:=by rfl):PE X (.Subscript a b pos) (kS (qZ K) ta tb):=Mj (aa_ hK) ha hb hs
theorem mn (K:PySem.W.Frag) (ha:PE X a ta) (hb:PE X b tb) (hs:Ed b:=by exact λ_a _a=>rfl) (hK:X.K=K:=by rfl):PE X (.Subscript a b pos) (kS (Ee K) ta tb):=Mj (abb hK) ha hb hs
theorem bJ (K:PySem.W.Frag) (hm:X.mg "len"=none) (ha:PE X e ta) (hg:Gl X "len":=by exact rfl) (hK:X.K=K:=by rfl) (hs:starEach [e] X.ah=(false,eval e X.ah)::starEach [] X.ah:=by rfl):
  PE X (.Call (.Name "len" p) [e] [] pos) (D4 (λxs H Q=>∃p ys,xs= [.ref p]/\(ag K H p ys\/cu K H p ys)/\Q (.int ys.length) H) (nz ta kU)):=fw (aa7 hK) hg hm Nu (au ha cW hs) ZE ZE hs rfl
theorem bz {op:CmpOp}{r:R2}(ho:cV X (compareOp op) r) (ha:PE X a ta) (hb:PE X b tb) (h:op≠ .In:=by decide) (h2:op≠ .NotIn:=by decide):PT X (.Compare a [op] [b] pos) (DW (kS r ta tb)):=nu ho ha hb (LZ _ h h2)
theorem Fl {op:CmpOp}{r:R2}(ho:cV X (compareOp op) r) (ha:PE X a ta) (hb:PE X b tb) (h:op≠ .In:=by decide) (h2:op≠ .NotIn:=by decide):PE X (.Compare a [op] [b] pos) (kS r ta tb):=DV ho ha hb (LZ _ h h2)
theorem iH (K:PySem.W.Frag) (ho:PE X o to) (ha:PE X e ta) (md:attributeBase o "append" X.ah (eval o X.ah)=eval o X.ah:=by rfl)
  (uo:((backTo pos (starEach [e] X.ah)).all (λx=> !x.1)&&(backToKw pos (keywordEach [] X.ah)).all (λx=>x.1.isSome)
   &&decide ([e].length+([]:List Keyword).length+(if ([]:List Keyword).isEmpty then 0 else 1)<30))=true:=by rfl)
  (me:(fG.endLine==pos.line)=true:=by rfl) (hs:starEach [e] X.ah=(false,eval e X.ah)::starEach [] X.ah:=by rfl) (uq:(backTo pos (starEach [] X.ah)).any (·.1)=false:=by rfl) (hK:X.K=K:=by rfl):
  PE X (.Call (.Attribute o "append" fG) [e] [] pos) (AB K "list" Mt to (nz ta kU)):=j7 Z5 PySem.F.slot_list_append PySem.F.type_list_append Yv ho (au ha cW hs) md uo me hs uq hK
theorem ai (ha:PE X e ta) (hs:starEach [e] X.ah=(false,eval e X.ah)::starEach [] X.ah:=by rfl):PA X [e] (nz ta kU):=au ha cW hs
end
section
variable {Q:List Value->Prop}
theorem bn0 (h:Q []) (us:List Value) (e:us.length=0):Q us:=by rw[zN e];exact h
theorem bnS {n:Nat}(h:∀a r,r.length=n->Q (a::r)) (us:List Value) (e:us.length=n+1):Q us:=by
 cases us with
 |nil=>cases e
 |cons a r=>exact h a r (Nat.succ.inj e)
end
noncomputable def a9 (K:PySem.W.Frag) (mg:Str->Option Value) (x:Str) (st:Stmt):Prop:=∃f fd,gv K x x st f fd/\mg x=some (.ref f)
theorem bf {P:Program}{w:World}{K:PySem.W.Frag}{mg:Str->Option Value}{base:Heap}{x:Str}{st:Stmt}{ps:List Str}{k:Nat}{sp:Sp}(N:List Str) (n:a9 K mg x st)
  (l4:∀(f:Addr) (aK:Value) (A:Around) (aJ:List Env) (s:Shared) (H:Hp) (vs:List V) (Q:VK) (E:XK),Room k (A.deeper (envOfC x (df st) s.heap.objs.size f aK))->N.Nodup->(A.deeper (envOfC x (df st) s.heap.objs.size f aK)).units+1<cLine->sp vs H Q E->
   ∃t,gL (lZ fX P w K mg base N x (df st) f aK A aJ s H E).o5 (gu st) t/\t {nx:=λ_a H'=>Q .bT H',rt:=Q} (start N vs) H)
  (S:jq N ps (df st):=by exact ⟨rfl,rfl,rfl,by decide +kernel,rfl,by decide +kernel,by decide +kernel⟩)
  (hb:∀(kV doc pm:Value) (an:Option Addr) (aK ct:Value) (us:List Value),us.length=ps.length->bindArgs (PySem.W.fnOf x x (iX st) (gu st) (df st) .none kV doc pm an aK ct) ⟨us,[]⟩=pure (ps.zip us):=by
   intro _ _ _ _ _ _
   repeat first|exact bn0 rfl|refine bnS λ_a=>?_)
  (len:∀vs H Q E,sp vs H Q E->vs.length=ps.length:=by
   intro _ _ _ _ h
   repeat first|exact Zo List.length h.1|refine Exists.elim h λ_a h=>?_):
  a7 P w K mg base (k+1) x ps sp:=by
 obtain ⟨f,fd,F,hm⟩:=n;exact aa5 F hm S hb len λaK A aJ s H vs Q E hr h=>l4 f aK A aJ s H vs Q E hr S.nd (pE hr) h
noncomputable def a6 (i:Nat):Stmt:=PySem.Challenge.pw_motionbank_s01_answers.main.body.getD i (.Pass ⟨0,0,0,0⟩)
noncomputable abbrev N2:Stmt:=a6 10
noncomputable abbrev N3:Stmt:=a6 11
noncomputable abbrev N4:Stmt:=a6 12
noncomputable abbrev N5:Stmt:=a6 13
noncomputable abbrev N6:Stmt:=a6 14
noncomputable abbrev N7:Stmt:=a6 15
noncomputable abbrev N8:Stmt:=a6 16
noncomputable abbrev N9:Stmt:=a6 17
noncomputable abbrev Oa:Stmt:=a6 18
noncomputable abbrev Ob:Stmt:=a6 19
noncomputable abbrev Fn:Stmt:=uP (a6 33) 0
noncomputable abbrev Oc:Stmt:=a6 34
noncomputable abbrev Od:Stmt:=a6 35
noncomputable abbrev Oe:Stmt:=a6 36
noncomputable abbrev Og:Stmt:=a6 37
noncomputable abbrev Oh:Stmt:=a6 38
noncomputable abbrev Oi:Stmt:=a6 39
noncomputable abbrev Oj:Stmt:=a6 40
noncomputable abbrev Ol:Stmt:=a6 41
noncomputable abbrev Om:Stmt:=a6 42
noncomputable abbrev Oo:Stmt:=a6 43
noncomputable abbrev Oq:Stmt:=a6 44
noncomputable abbrev Ot:Stmt:=a6 45
noncomputable abbrev Ou:Stmt:=a6 46
noncomputable abbrev Ov:Stmt:=a6 47
noncomputable abbrev Ow:Stmt:=a6 48
noncomputable abbrev Fo:Stmt:=uP (a6 50) 0
noncomputable abbrev Fp:Stmt:=uP (a6 51) 0
noncomputable abbrev Ox:Stmt:=a6 52
noncomputable abbrev Oy:Stmt:=a6 53
noncomputable abbrev Oz:Stmt:=a6 54
noncomputable abbrev OA:Stmt:=a6 55
noncomputable abbrev OB:Stmt:=a6 56
noncomputable abbrev OC:Stmt:=a6 57
noncomputable abbrev OD:Stmt:=a6 58
noncomputable abbrev OE:Stmt:=a6 59
noncomputable abbrev OF:Stmt:=a6 60
noncomputable abbrev OG:Stmt:=a6 67
noncomputable abbrev OH:Stmt:=a6 68
noncomputable abbrev OI:Stmt:=a6 69
noncomputable abbrev OJ:Stmt:=a6 70
noncomputable abbrev OK:Stmt:=a6 71
noncomputable abbrev OL:Stmt:=a6 72
noncomputable abbrev OM:Stmt:=a6 73
noncomputable abbrev ON:Stmt:=a6 74
noncomputable abbrev OO:Stmt:=a6 85
noncomputable abbrev Fq:Stmt:=uP (a6 89) 0
noncomputable abbrev OP:Stmt:=a6 90
noncomputable abbrev OQ:Stmt:=a6 91
noncomputable abbrev OR:Stmt:=a6 92
noncomputable abbrev OS:Stmt:=a6 93
noncomputable abbrev OT:Stmt:=a6 94
noncomputable abbrev OU:Stmt:=a6 95
noncomputable abbrev OV:Stmt:=a6 96
noncomputable abbrev OW:Stmt:=a6 97
noncomputable abbrev OX:Stmt:=a6 98
noncomputable abbrev OY:Stmt:=a6 99
noncomputable abbrev OZ:Stmt:=a6 100
noncomputable abbrev O0:Stmt:=a6 102
noncomputable abbrev O1:Stmt:=a6 103
noncomputable abbrev O4:Stmt:=a6 104
noncomputable abbrev O5:Stmt:=a6 105
noncomputable abbrev O7:Stmt:=a6 106
noncomputable abbrev O8:Stmt:=a6 115
noncomputable abbrev Pa:Stmt:=a6 116
noncomputable abbrev Pb:Stmt:=a6 117
noncomputable abbrev Pc:Stmt:=a6 118
noncomputable abbrev Pd:Stmt:=a6 119
noncomputable abbrev Pe:Stmt:=a6 120
noncomputable abbrev Pf:Stmt:=a6 121
noncomputable abbrev Pg:Stmt:=a6 122
noncomputable abbrev Ph:Stmt:=a6 123
noncomputable abbrev Pj:Stmt:=a6 124
noncomputable abbrev Pk:Stmt:=a6 125
noncomputable abbrev Pl:Stmt:=a6 126
noncomputable abbrev Pn:Stmt:=a6 127
noncomputable abbrev Po:Stmt:=a6 130
noncomputable abbrev Pp:Stmt:=a6 131
noncomputable abbrev Pq:Stmt:=a6 132
noncomputable abbrev Pr:Stmt:=a6 133
noncomputable abbrev Pt:Stmt:=a6 134
noncomputable abbrev Pu:Stmt:=a6 135
noncomputable abbrev Pw:Stmt:=a6 142
noncomputable abbrev Px:Stmt:=a6 143
noncomputable abbrev Py:Stmt:=a6 144
noncomputable abbrev Pz:Stmt:=a6 145
noncomputable abbrev PB:Stmt:=a6 146
noncomputable abbrev PD:Stmt:=a6 147
noncomputable abbrev PF:Stmt:=a6 148
noncomputable abbrev PH:Stmt:=a6 149
noncomputable abbrev PJ:Stmt:=a6 150
noncomputable abbrev Fs:Stmt:=uP (a6 176) 0
noncomputable abbrev PK:Stmt:=a6 177
noncomputable abbrev PL:Stmt:=a6 178
noncomputable abbrev PM:Stmt:=a6 179
noncomputable abbrev PN:Stmt:=a6 180
noncomputable abbrev rM:Stmt:=a6 181
noncomputable def PQ:List (Int×List V):= [(2,[.int 1,.int 1]),(4,[.int 0,.int 4,.int 4,.int 8,.int 4,.int 4,.int 0])]
noncomputable def pI:List (Str×Int):= [("ROUNDS",5),("OFFER",3),("GAP",1),("UNLIKE",1),("SIZE",4),("SEED",0)]
noncomputable def Ft:List (Str×Int):= [("ROUNDS",1),("OFFER",1),("GAP",0),("UNLIKE",0),("SIZE",2),("SEED",0)]
noncomputable def Fu:List (Str×Int):= [("ROUNDS",9),("OFFER",5),("GAP",9),("UNLIKE",1),("SIZE",4),("SEED",99999)]
noncomputable def pJ:List V:= [.str "LEVELS",.str "TOPICS",.str "RELEASE"]
noncomputable def rN:List V:= [.int (0),.int (0),.int (0),.int (1),.int (1),.int (1),.int (0),.int (2),.int (0),.int (1),.int (2),.int (4),.int (3),.int (2),.int (2),.int (1),.int (1),.int (1),.int (1),.int (2),.int (1),.int (0)]
noncomputable def nS:List V:= [.int (0),.int (1),.int (0),.int (2),.int (0),.int (0),.int (0),.int (0),.int (0),.int (0),.int (0),.int (0),.int (1),.int (0),.int (1),.int (0),.int (0),.int (0),.int (0),.int (0),.int (0),.int (0)]
structure Txt (K:PySem.W.Frag) (mg:Str->Option Value):Prop where
 ab2:mg "abs"=none
 PR:mg "all"=none
 ab3:mg "any"=none
 bG:mg "len"=none
 u6:mg "list"=none
 PU:mg "max"=none
 PV:mg "min"=none
 ab4:mg "ord"=none
 j8:mg "range"=none
 Fv:mg "sorted"=none
 ab5:mg "str"=none
 rO:mg "sum"=none
 ab6:∃t,mg "LINE_END"=some (.int (10) t)
 PX:∃t,mg "BLANK"=some (.int (32) t)
 PY:∃t,mg "DIGIT_ZERO"=some (.int (48) t)
 ab7:∃t,mg "DIGIT_NINE"=some (.int (57) t)
 ab8:∃t,mg "FIRST_LETTER"=some (.int (65) t)
 ab9:∃t,mg "LAST_LETTER"=some (.int (90) t)
 ab_:∃t,mg "GREATEST_BYTE"=some (.int (255) t)
 aca:∃t,mg "MOST_DIGITS"=some (.int (5) t)
 acb:∃t,mg "MOST_LETTERS"=some (.int (8) t)
 Bk:∃t,mg "GREATEST_ROUND"=some (.int (9) t)
 Bm:∃t,mg "GREATEST_LEVEL"=some (.int (5) t)
 acd:∃t,mg "LATEST_RELEASE"=some (.int (99999) t)
 Bn:∃t,mg "NO_FAULT"=some (.int (0) t)
 ace:∃t,mg "UNKNOWN_WORD"=some (.int (1) t)
 acf:∃t,mg "WRONG_REST"=some (.int (2) t)
 acg:∃t,mg "TOLD_BEFORE"=some (.int (3) t)
 ach:∃t,mg "NO_SUCH_ROUND"=some (.int (4) t)
 PZ:∃t,mg "SEED_FACTOR"=some (.int (100) t)
 aci:∃t,mg "STATE_FACTOR"=some (.int (1103515245) t)
 acj:∃t,mg "STATE_STEP"=some (.int (12345) t)
 ack:∃t,mg "STATE_END"=some (.int (2147483648) t)
 acm:∃t,mg "DRAW_DIVISOR"=some (.int (65536) t)
 k9:∃t,mg "OUT_OF_RANGE"=some (.int (-1) t)
 acn:∃t,mg "ALREADY_BEGUN"=some (.int (-3) t)
 Fw:∃t,mg "TOO_LATE"=some (.int (-4) t)
 Fx:∃t,mg "TOO_EARLY"=some (.int (-4) t)
 aco:∃t,mg "ORDER_LACKS"=some (.int (-5) t)
 acp:∃t,mg "HAS_RESULT"=some (.int (-5) t)
 jD:∃t,mg "MISSING"=some (.int (-6) t)
 Bo:∃t,mg "NOT_POSSIBLE"=some (.int (-7) t)
 Fy:∃t,mg "FULL"=some (.int (-9) t)
 acq:∃t,mg "COIN_FACTOR"=some (.int (10000000) t)
 P0:∃t,mg "SIDES"=some (.int (2) t)
 acr:∃t,mg "MOST_RULES_BYTES"=some (.int (1500) t)
 acs:∃t,mg "MOST_TEXT_BYTES"=some (.int (100) t)
 acu:∃t,mg "MOST_MOTIONS"=some (.int (40) t)
 acv:∃t,mg "LATEST_NOW"=some (.int (200000) t)
 P1:∃t,mg "GREATEST_ZONE"=some (.int (900) t)
 acw:∃t,mg "EARLIEST_CLOCK"=some (.int (-1000) t)
 acx:∃t,mg "LATEST_CLOCK"=some (.int (201000) t)
 acy:∃t,mg "GREATEST_ROOM"=some (.int (99) t)
 acz:∃t,mg "MOST_ROOMS"=some (.int (30) t)
 acA:∃t,mg "MOST_RANKED"=some (.int (5) t)
 acB:∃t,mg "GREATEST_RANKED"=some (.int (99) t)
 P2:∃t,mg "MOST_ROOMS_ASKED"=some (.int (40) t)
 acC:∃t,mg "CLEAR"=some (.int (0) t)
 acD:∃t,mg "RULES"=some (.int (1) t)
 acE:∃t,mg "SHOWN"=some (.int (2) t)
 acF:∃t,mg "MOTION"=some (.int (3) t)
 acG:∃t,mg "STRIKE"=some (.int (4) t)
 acH:∃t,mg "RESTORE"=some (.int (5) t)
 acI:∃t,mg "CHOOSE"=some (.int (6) t)
 acJ:∃t,mg "APPEAL"=some (.int (7) t)
 acK:∃t,mg "UNDO"=some (.int (8) t)
 acL:∃t,mg "NOW"=some (.int (9) t)
 acM:∃t,mg "SEE"=some (.int (10) t)
 acN:∃t,mg "READ"=some (.int (11) t)
 acO:∃t,mg "ORDER"=some (.int (12) t)
 acP:∃t,mg "DEBATE"=some (.int (13) t)
 acQ:∃t,mg "RESULT"=some (.int (14) t)
 acR:∃t,mg "OFFERED"=some (.int (15) t)
 acS:∃t,mg "MAY"=some (.int (16) t)
 acT:∃t,mg "TOLD"=some (.int (17) t)
 acU:∃t,mg "EVEN"=some (.int (18) t)
 acV:∃t,mg "WAYS"=some (.int (19) t)
 acW:∃t,mg "LOT"=some (.int (20) t)
 acX:∃t,mg "COUNTS"=some (.int (21) t)
 Fz:∃a,mg "DEFAULTS"=some (.ref a)/\hZ K a pI
 acY:∃a,mg "LEAST"=some (.ref a)/\hZ K a Ft
 acZ:∃a,mg "GREATEST"=some (.ref a)/\hZ K a Fu
 P4:∃a,mg "WAYS_OF_ROOM"=some (.ref a)/\u0 K a PQ
 P5:∃a,mg "OF_A_ROUND"=some (.ref a)/\∀H,cu K H a pJ
 ac0:∃a,mg "NUMBER_COUNTS"=some (.ref a)/\∀H,cu K H a rN
 ac1:∃a,mg "ROW_COUNTS"=some (.ref a)/\∀H,cu K H a nS
structure rP (K:PySem.W.Frag) (mg:Str->Option Value) (C:Addr):Prop where
 cl:jm K C
 mg:mg "Reading"=some (.ref C)
 d7:et K C "told"
 FA:et K C "fault"
 P6:et K C "line"
structure bZ (K:PySem.W.Frag) (mg:Str->Option Value) (C:Addr):Prop where
 cl:jm K C
 mg:mg "Motion"=some (.ref C)
 Bp:et K C "level"
 nT:et K C "topic"
 P7:et K C "text"
 rQ:et K C "struck"
structure b6 (K:PySem.W.Frag) (mg:Str->Option Value) (C:Addr):Prop where
 cl:jm K C
 mg:mg "Bank"=some (.ref C)
 d7:et K C "told"
 lg:et K C "motions"
 dQ:et K C "rounds"
 nU:et K C "rooms"
 nV:et K C "minute"
structure cp (K:PySem.W.Frag) (mg:Str->Option Value) (C:Addr):Prop where
 cl:jm K C
 mg:mg "Room"=some (.ref C)
 rR:et K C "orders"
 u7:et K C "result"
structure pK (K:PySem.W.Frag) (mg:Str->Option Value) (C:Addr):Prop where
 cl:jm K C
 mg:mg "Call"=some (.ref C)
 eG:et K C "kind"
 Bq:et K C "numbers"
 rS:et K C "rows"
 P8:et K C "end"
structure En where
 w:World
 mg:Str->Option Value
 base:Heap
instance:Nonempty En:=⟨⟨PySem.W.aWorld 1,λ_a=>none,⟨#[],{}⟩⟩⟩
noncomputable def Br:FuncData:=PySem.W.fnOf "answers" "answers" (iX rM) (gu rM) (df rM) .none .none .none (.str "motionbank.house" 1241) none (.ref 731) .none
noncomputable def Bs (K:PySem.W.Frag):Sp:=λvs H Q _a=>∃(a:Addr) (l:List Int),vs= [.ref a]/\ag K H a (vi l)/\l.length<=16000/\PyVbdbag.answers_asked l=true/\∀(H':Hp) (p:Addr),H' p=some (.lst (vi (PyVbdbag.answers l)))->Q (.ref p) H'
noncomputable def Good (e:En):Prop:=∀h:Heap,(Kc e.w.params).In h->h.Ns mainGlobals e.mg->gO PySem.Challenge.pw_motionbank_s01_answers e.w (Kc e.w.params) e.mg e.base fX 10 732 Br ["calls"] (Bs (Kc e.w.params))
noncomputable def e0:En:=Classical.epsilon λe=>¬Good e
theorem ac2 (g:Good e0) (e:En):Good e:=Classical.byContradiction λn=>Classical.epsilon_spec (p:=λe=>¬Good e) ⟨e,n⟩ g
@[irreducible] noncomputable def P:Program:=PySem.Challenge.pw_motionbank_s01_answers
@[irreducible] noncomputable def w:World:=e0.w
@[irreducible] noncomputable def mg:Str->Option Value:=e0.mg
@[irreducible] noncomputable def base:Heap:=e0.base
@[irreducible] noncomputable def K:PySem.W.Frag:=Kc e0.w.params
@[irreducible] noncomputable def aE:Addr:=236
@[irreducible] noncomputable def aM:Addr:=215
@[irreducible] noncomputable def aN:Addr:=375
@[irreducible] noncomputable def eA:Addr:=693
@[irreducible] noncomputable def fY:Addr:=99
open Vbdbag (Bytes)
section
noncomputable def ac3 (K:PySem.W.Frag):Sp:=λvs H Q _a=>∃(x:Str),vs= [.str x]/\x.cps.size<=20000/\dO H Q (vi (nI x.cps.toList))
noncomputable def ac4 (K:PySem.W.Frag):Sp:=λvs H Q _a=>∃(a:Addr) (l:List Int) (lo hi:Int),vs= [.ref a,.int lo,.int hi]/\ag K H a (vi l)/\l.length<=20000/\∀H',aq H H'->Q (.bl (dh lo hi l)) H'
noncomputable def ac5 (K:PySem.W.Frag):Sp:=λvs H Q _a=>∃(a:Addr) (l:List Int),vs= [.ref a]/\ag K H a (vi l)/\l.length<=20000/\∀H',aq H H'->Q (.bl (dh 0 255 l)) H'
noncomputable def ac6 (K:PySem.W.Frag):Sp:=λvs H Q _a=>∃(a:Addr) (l:List Int),vs= [.ref a]/\ag K H a (vi l)/\l.length<=20000/\∀H',aq H H'->Q (.bl (jP l)) H'
noncomputable def P9 (K:PySem.W.Frag):Sp:=λvs H Q _a=>∃(a:Addr) (l:List Int),vs= [.ref a]/\ag K H a (vi l)/\l.length<=20000/\∀H',aq H H'->Q (.int (qy l)) H'
noncomputable def ac7 (K:PySem.W.Frag):Sp:=λvs H Q _a=>∃(n:Nat),vs= [.int n]/\n<10^500/\dO H Q (vi (nI (Vbdbag.decimal n)))
noncomputable def u9 (H:Hp) (Q:VK) (ls:List (List Int)):Prop:=∀(H':Hp) (p:Addr) (as:List Addr),aq H H'->H p=none->H' p=some (.lst (as.map V.ref))->bX H' as ls->Q (.ref p) H'
noncomputable def ac8 (K:PySem.W.Frag):Sp:=λvs H Q _a=>∃(a:Addr) (l:List Int) (m:Int),vs= [.ref a,.int m]/\ag K H a (vi l)/\l.length<=10000/\u9 H Q (cR m l)
noncomputable def ac9 (K:PySem.W.Frag):Sp:=λvs H Q _a=>∃(a:Addr) (l:List Int),vs= [.ref a]/\ag K H a (vi l)/\l.length<=10000/\u9 H Q (cR 10 l)
noncomputable def ac_ (K:PySem.W.Frag):Sp:=λvs H Q _a=>∃(a:Addr) (l:List Int),vs= [.ref a]/\ag K H a (vi l)/\l.length<=10000/\u9 H Q ((cR 32 l).filter λw=>decide (0<(w.length:Int)))
noncomputable abbrev va:Prop:=a7 P w K mg base 1 "coded" ["text"] (ac3 K)
theorem ada (n:a9 K mg "coded" N2) (T:Txt K mg):va:=by
  refine bf ["text","sign"] n λf aK A aJ s H vs Q E hr nd hu h=>?_
  obtain ⟨x,rfl,hx,k⟩:=h;refine ⟨_,(aC (aF (gR nd (aav (pv 0)) (own:= [("sign",1)]) (by rfl) (λ_a _a _a _a _a=>cH 1 nd) (λ_a _a _a _a _a=>jv) (λ_a _a _a _a _a=>(fw Xq (by rfl) T.ab4 aa2 (ai (pv 1))))))),?_⟩;refine ⟨_,rfl,x,rfl,λD hD=>aa6 (x:=x) (λi H'=>aq H H'/\H' D=some (.lst (vi (nI (x.cps.toList.take i))))) ⟨bU hD,ao⟩ ?_ ?_⟩
  ·rintro i c H' hc ⟨h1,h2⟩;refine ⟨rfl,?_⟩;refine ⟨_,rfl,_,rfl,rfl,_,h2,?_,aU h1 hD,?_⟩
   ·have:=(Array.getElem?_eq_some_iff.mp hc).1;rw[yA,bR,yF];exact dv ZD
   ·have e:x.cps.toList[i]? =some c:=by simpa using hc
    rw[ao,da e];show _=some (HO.lst (vi (Vbdbag.ints (_++ [c]))));rw[tM,dw];rfl
  ·rintro H' ⟨h1,h2⟩;rw[←z9,xm]at h2;exact k H' D h1 hD h2
noncomputable abbrev rT:Prop:=a7 P w K mg base 1 "are_within" ["numbers","least","greatest"] (ac4 K)
theorem adb (n:a9 K mg "are_within" N3) (T:Txt K mg):rT:=by
  refine bf ["numbers","least","greatest","number"] n λf aK A aJ s H vs Q E hr nd hu h=>?_
  obtain ⟨a,l,lo,hi,rfl,hS,hl,k⟩:=h;refine ⟨_,(aC (aF (fw (NC (K:=K)) (by rfl) T.PR Nv (ai (gR nd (dZ (pv 0)) (own:= [("number",3)]) (by rfl) (λ_a _a _a _a _a=>cH 3 nd) (λ_a _a _a _a _a=>jv) (λ_a _a _a _a _a=>(ny cO cO (pv 1) (pv 3) (pv 2)))))))),?_⟩;refine ⟨_,rfl,a,rfl,⟨_,hS⟩,λD hD=>jx (K:=K) (a:=a) (xs:=l.map V.int) (Fm H D (l.map V.int) (λ_a=>true) λv=>match v with| .int z=> .bl (decide (lo<=z)&&decide (z<=hi))|v=>v) (Fm.zero hD) (λi H' _a h=>h.1.seq hS) ?_ ?_⟩
  ·rintro i x H' hx h;obtain ⟨z,hz,rfl⟩:=cD hx;refine ⟨rfl,?_⟩;refine ⟨_,rfl,_,rfl,lo,z,rfl,rfl,_,rfl,?_⟩;refine aI (λe=>?_) (λe=>?_)
   ·refine ⟨_,rfl,z,hi,rfl,rfl,?_⟩;have:=h.yes hD (by rw[yA];exact eQ hl) hx rfl;simp only[e,zp]at this;exact this
   ·have:=h.yes hD (by rw[yA];exact eQ hl) hx rfl;simp only[e,zg]at this;exact this
  ·intro H' h;obtain ⟨h1,h2⟩:=h.all;refine ⟨D,l.map λz=>decide (lo<=z)&&decide (z<=hi),rfl,ag.of (by rw[h2];simp[List.filter_eq_self.mpr,zq]),?_⟩;have e:(l.map λz=>decide (lo<=z)&&decide (z<=hi)).all id=dh lo hi l:=by rw[zy];rfl
   rw[e];exact k H' h1
noncomputable abbrev Bt:Prop:=a7 P w K mg base 2 "are_bytes" ["numbers"] (ac5 K)
theorem ade (n:a9 K mg "are_bytes" N4) (T:Txt K mg) (jE:rT):Bt:=by
  refine bf ["numbers"] n λf aK A aJ s H vs Q E hr nd hu h=>?_
  obtain ⟨a,l,rfl,hS,hl,k⟩:=h;refine ⟨_,(aC (aF (aD jE hr (au (pv 0) (au aH (ai (aR T.ab_))))))),?_⟩;exact ⟨_,rfl,a,l,0,255,rfl,hS,hl,k⟩
noncomputable abbrev Bu:Prop:=a7 P w K mg base 2 "is_topic" ["word"] (ac6 K)
theorem adf (n:a9 K mg "is_topic" N5) (T:Txt K mg) (jE:rT):Bu:=by
  refine bf ["word"] n λf aK A aJ s H vs Q E hr nd hu h=>?_
  obtain ⟨a,l,rfl,hS,hl,k⟩:=h;refine ⟨_,(aC (aF (DD (ny cO cO aH (bJ K T.bG (pv 0)) (aR T.acb)) (DC (aD jE hr (au (pv 0) (au (aR T.ab8) (ai (aR T.ab9))))))))),?_⟩;refine ⟨_,rfl,a,_,rfl,.inl hS,1,_,rfl,rfl,_,rfl,?_⟩;have k0:=k;unfold jP at k;refine aI (λe=>?_) (λe=>?_)
  ·simp only[yA]at e;rw[e,zp]at k;refine ⟨_,_,rfl,rfl,_,rfl,aI (λe2=>?_) (λe2=>?_)⟩
   ·simp only[yA]at e2;rw[e2,zp]at k;exact ⟨_,rfl,a,l,65,90,rfl,hS,hl,k⟩
   ·simp only[yA]at e2;rw[e2,zg]at k;exact k H (aq.refl H)
  ·simp only[yA]at e;rw[e,zg]at k;exact ⟨_,rfl,k H (aq.refl H)⟩
theorem adg (l:List Int) (z:Int):qx (l++ [z])=10*qx l+z - 48:=by unfold qx;rw[List.foldl_append];rfl
noncomputable abbrev pL:Prop:=a7 P w K mg base 2 "number_of" ["word"] (P9 K)
theorem adh (n:a9 K mg "number_of" N6) (T:Txt K mg) (jE:rT):pL:=by
  refine bf ["word","value","sign"] n λf aK A aJ s H vs Q E hr nd hu h=>?_
  obtain ⟨a,l,rfl,hS,hl,k⟩:=h;refine ⟨_,(aB (aX (PW.pt (gM (cJ (j1 cO cO aH (bJ K T.bG (pv 0)) (aR T.aca))) (iE (cJ (cN (aD jE hr (au (pv 0) (au (aR T.PY) (ai (aR T.ab7)))))))))) (aC (aF (DQ DU aH))) aZ)
   (aB (bj 1 nd aH)
   (aB (eW PassesOwn.never rfl (dZ (pv 0)) (cH 2 nd) (aC (bj 1 nd (bx eO (bx eN (bx lV aH (pv 1)) (pv 2)) (aR T.PY)))))
   (aC (aF (pv 1)))))),?_⟩
  have no:∀{H':Hp},aq H H'->(decide (1<=(l.length:Int))&&(decide ((l.length:Int)<=5)&&dh 48 57 l))=false->Q (.int (-1)) H':=λs e=>by have:=k _ s;unfold qy at this;rw[e]at this;exact this
  refine ⟨_,rfl,a,_,rfl,.inl hS,1,_,rfl,rfl,_,rfl,?_⟩;refine aI (λe=>?_) (λe=>?_)
  ·simp only[yA]at e;refine ⟨_,_,rfl,rfl,_,rfl,aI (λe2=>?_) (λe2=>?_)⟩
   ·simp only[yA,zm]at e2;exact ⟨1,rfl,no (aq.refl H) (by rw[e2];simp)⟩
   ·simp only[yA,zl]at e2;refine ⟨_,rfl,a,l,48,57,rfl,hS,hl,λH' s=>⟨_,rfl,aI (λe3=>?_) (λe3=>?_)⟩⟩
    ·simp only[zm]at e3;exact ⟨1,rfl,no s (by rw[e3];simp)⟩
    ·simp only[zl]at e3;have k2:∀H2,aq H H2->Q (.int (qx l)) H2:=λH2 s2=>by have:=k H2 s2;unfold qy at this;rw[e,e2,e3]at this;exact this
     refine ⟨_,rfl,a,rfl,⟨_,s.seq hS⟩,jj (K:=K) (a:=a) (xs:=vi l) (λi σ H2=>∃v:Option V,σ= [some (.ref a),some (.int (qx (l.take i))),v]/\aq H H2) ⟨none,rfl,s⟩ (λi σ H2 _a ⟨_,_,s2⟩=>s2.seq hS) ?_ ?_⟩
     ·rintro i x σ H2 hx ⟨v,rfl,s2⟩;obtain ⟨z,hz,rfl⟩:=cD hx;refine ⟨_,rfl,_,_,rfl,rfl,.inl ⟨by decide,by decide⟩,_,rfl,_,_,rfl,rfl,_,_,rfl,rfl,some (.int z),?_,s2⟩;rw[da hz,adg];rfl
     ·rintro σ H2 ⟨v,rfl,s2⟩;rw[yA,xm];exact ⟨_,rfl,k2 H2 s2⟩
  ·simp only[yA]at e;exact ⟨_,rfl,1,rfl,no (aq.refl H) (by rw[e];simp)⟩
theorem Qa (n:Nat):(Str.ofString (toString (n:Int))).cps.toList=Vbdbag.decimal n:=by rw[Str.ofString_eq_toList];show ((toString (n:Int)).toList.map Char.toNat).toArray.toList=_;rw[xt];rfl
theorem adi (n:Nat) (h:n<10^500):(Str.ofString (toString (n:Int))).cps.size<=20000:=by rw[←z9,Qa];exact xE (tO ZE h) ZE
noncomputable abbrev vd:Prop:=a7 P w K mg base 2 "digits_of" ["number"] (ac7 K)
theorem adj (n:a9 K mg "digits_of" N7) (T:Txt K mg) (lh:va):vd:=by
  refine bf ["number"] n λf aK A aJ s H vs Q E hr nd hu h=>?_
  obtain ⟨n,rfl,hn,k⟩:=h;refine ⟨_,(aC (aF (aD lh hr (ai (nF Xp (by rfl) T.ab5 aa4 (ai (pv 0))))))),?_⟩;refine ⟨_,rfl,n,rfl,?_,_,rfl,adi n hn,?_⟩
  ·show n.log2<1920;by_cases h0:n=0
   ·subst h0;decide
   ·rw[Nat.log2_lt h0];exact Nat.lt_trans hn (by decide +kernel)
  ·rw[Qa];exact k
theorem adk (m:Int) (l:List Int) (h:l.length<=10000):(cR m l).length<=10001:=by
 have key:∀l:List Int,(cR m l).length<=l.length+1:=by
  intro l;induction l with
  |nil=>simp[cR]
  |cons c r ih=>
   rw[cR];split
   ·simp only[yu];omega
   ·cases e:cR m r with
    |nil=>simp
    |cons x y=>rw[e]at ih;simp only[yu]at ih⊢;omega
 have:=key l;omega
noncomputable abbrev Bv:Prop:=a7 P w K mg base 1 "parted" ["numbers","mark"] (ac8 K)
theorem adl (n:a9 K mg "parted" N8) (T:Txt K mg):Bv:=by
  refine bf ["numbers","mark","parts","part","number"] n λf aK A aJ s H vs Q E hr nd hu h=>?_
  obtain ⟨a,l,m,rfl,hS,hl,k⟩:=h;refine ⟨_,(aB (bj 2 nd (aW cW))
   (aB (bj 3 nd (aW cW))
   (aB (eW PassesOwn.never rfl (dZ (pv 0)) (cH 4 nd) (aC (aX (bz cF (pv 4) (pv 1)) (aB (fu (iH K (pv 2) (pv 3)))
     (aC (bj 3 nd (aW cW)))) (aC (fu (iH K (pv 3) (pv 4)))))))
   (aB (fu (iH K (pv 2) (pv 3)))
   (aC (aF (pv 2))))))),?_⟩
  refine ⟨xQ _,λp hp=>⟨xQ _,λq hq=>?_⟩⟩;obtain ⟨Bw,ve⟩:=bK hq;refine ⟨_,rfl,a,rfl,⟨_,(aU (bU hp) ve).seq hS⟩,jj (K:=K) (a:=a) (xs:=vi l) (λi σ H'=>∃(v:Option V) (q:Addr) (as:List Addr) (ls:List (List Int)) (j9:List Int),σ= [some (.ref a),some (.int m),some (.ref p),some (.ref q),v]/\aq H H'/\
   H' p=some (.lst (as.map V.ref))/\bX H' as ls/\H' q=some (.lst (vi j9))/\q∉as/\p∉as/\q≠p/\H q=none/\ls++lF j9 (cR m (l.drop i))=cR m l/\ls.length<=i/\j9.length<=i)
   ⟨none,q,[],[],[],rfl,aU (bU hp) ve,by rw[aA (xR Bw),ao];rfl,.nil,ao,by simp,by simp,Bw,ve,by rw[zM,J3];rfl,xC _,xC _⟩ (λi σ H' _a h=>?_) ?_ ?_⟩
  ·obtain ⟨v,q,as,ls,j9,_,s,_⟩:=h;exact s.seq hS
  ·rintro i x σ H' hx ⟨v,q,as,ls,j9,rfl,s,hP,hR,hQ,h1,h2,h3,h4,h5,h6,h7⟩;obtain ⟨z,hz,rfl⟩:=cD hx;have hi:=(List.getElem?_eq_some_iff.mp hz).1;have bW:=hR.length;rw[E2 hz]at h5;refine ⟨_,rfl,_,rfl,rfl,_,rfl,aI (λe=>?_) (λe=>?_)⟩
   ·have e':z=m:=by simpa using e
    subst e';refine ⟨_,rfl,.inl ⟨rfl,_,ag.of hP⟩,_,rfl,p,_,_,rfl,rfl,hP,dv (by rw[yA];omega),?_⟩;refine ⟨xQ _,λq' j3=>?_⟩;obtain ⟨n1,n2⟩:=bK j3;have n3:q'∉as:=NA hR n2;refine ⟨_,q',as++ [q],ls++ [j9],[],rfl,aU (aU s hp) (s.free n2),?_,?_,ao,?_,?_,n1,s.free n2,?_,?_,xQ _⟩
    ·rw[aA (xR n1),ao,yH];rfl
    ·refine bX.snoc ((hR.aj h2).aj n3) ?_;rw[aA (λe=>by rw[e,n2]at hQ;cases hQ),aA h3];exact hQ
    ·intro w;rcases List.mem_append.mp w with w|w
     ·exact n3 w
     ·rw[List.mem_singleton.mp w,hQ]at n2;cases n2
    ·intro w;rcases List.mem_append.mp w with w|w
     ·exact h2 w
     ·exact h3 (List.mem_singleton.mp w).symm
    ·rw[←h5,Ub,J3,zD];rfl
    ·rw[yt,yE];omega
   ·have e':¬z=m:=by simpa using e
    refine ⟨_,rfl,.inl ⟨rfl,_,ag.of hQ⟩,_,rfl,q,_,_,rfl,rfl,hQ,dv (by rw[yA];omega),?_⟩;refine ⟨_,q,as,ls,j9++ [z],rfl,aU s h4,?_,hR.aj h1,?_,h1,h2,h3,h4,?_,by omega,?_⟩
    ·rw[aA (xR h3)];exact hP
    ·rw[ao,dw];rfl
    ·rw[←h5,Uc m z j9 _ e']
    ·rw[yt,yE];omega
  ·rintro σ H' ⟨v,q,as,ls,j9,rfl,s,hP,hR,hQ,h1,h2,h3,h4,h5,h6,h7⟩;have bW:=hR.length;rw[yA]at h5 h6 h7;rw[zL]at h5;refine ⟨_,rfl,.inl ⟨rfl,_,ag.of hP⟩,_,rfl,p,_,_,rfl,rfl,hP,dv (by rw[yA];omega),?_⟩;refine ⟨_,rfl,k _ p (as++ [q]) (aU s hp) hp (by rw[ao,yH];rfl) ?_⟩;rw[←h5];have e:lF j9 (cR m [])= [j9]:=by simp[cR,lF]
   rw[e];exact (hR.aj h2).snoc (by rw[aA h3];exact hQ)
noncomputable abbrev FC:Prop:=a7 P w K mg base 2 "lines_of" ["text"] (ac9 K)
theorem adn (n:a9 K mg "lines_of" N9) (T:Txt K mg) (rV:Bv):FC:=by
  refine bf ["text"] n λf aK A aJ s H vs Q E hr nd hu h=>?_
  obtain ⟨a,l,rfl,hS,hl,k⟩:=h;refine ⟨_,(aC (aF (aD rV hr (au (pv 0) (ai (aR T.ab6)))))),?_⟩;exact ⟨_,rfl,a,l,10,rfl,hS,hl,k⟩
noncomputable abbrev FD:Prop:=a7 P w K mg base 2 "words_of" ["line"] (ac_ K)
set_option tactic.hygienic true in
theorem ado (n:a9 K mg "words_of" Oa) (T:Txt K mg) (rV:Bv):FD:=by
  refine bf ["line","word"] n λf aK A aJ s H vs Q E hr nd hu h=>?_
  obtain ⟨a,l,rfl,hS,hl,k⟩:=h;refine ⟨_,(aC (aF (gR nd (dZ (aD rV hr (au (pv 0) (ai (aR T.PX))))) (own:= [("word",1)]) (by rfl) (λ_a _a _a _a _a=>cH 1 nd) (λ_a _a _a _a _a=>(nM (bz fF (bJ K T.bG (pv 1)) aH))) (λ_a _a _a _a _a=>(pv 1))))),?_⟩;refine ⟨_,rfl,a,l,32,rfl,hS,hl,λH1 p as s hp hP hR=>⟨p,rfl,⟨_,ag.of hP⟩,λD hD=>?_⟩⟩;have hz:(cR 32 l).length<=10001:=adk 32 l hl;have bW:=hR.length;refine jx (K:=K) (a:=p) (xs:=as.map V.ref) (λi H'=>∃bs:List Addr,aq H1 H'/\H' D=some (.lst (bs.map V.ref))/\bX H' bs (((cR 32 l).take i).filter λw=>decide (0<(w.length:Int))))
   ⟨[],bU hD,ao,.nil⟩ (λi H' _a ⟨_,s2,_⟩=>ag.of (s2 _ _ hP)) ?_ ?_
  ·rintro i x H' hx ⟨bs,s2,hB,pM⟩;obtain ⟨b,hb,rfl⟩:=cD hx;obtain ⟨w,hw,FE⟩:=hR.get hb;have Qb:=pM.length;refine ⟨rfl,?_⟩;refine ⟨_,rfl,b,_,rfl,.inl (ag.of (s2 _ _ FE)),_,_,rfl,rfl,_,rfl,aI (λe=>?_) (λe=>?_)⟩
   ·refine ⟨_,rfl,_,hB,?_,bs++ [b],aU s2 hD,by rw[ao,yH];rfl,?_⟩
    ·rw[yA,Qb];have h1:(((cR 32 l).take i).filter λw=>decide (0<(w.length:Int))).length<=((cR 32 l).take i).length:=yz _ _;rw[yF]at h1;exact dv ZD
    ·rw[da hw,zS];have e2: [w].filter (λw=>decide (0<(w.length:Int)))= [w]:=by simp only[yA]at e;simp only[zU,e,Zy,zV]
     rw[e2];refine (pM.aj ?_).snoc ?_
     ·intro z;obtain ⟨_,_,e3⟩:=pM.at z;rw[hB]at e3;cases bs with
      |nil=>simp at z
      |cons b0 r=>
       have e4:=(HO.lst.inj (xX e3));rename_i l3 _;cases l3 with
       |nil=>simp at e4
       |cons z0 r0=>simp at e4
     ·rw[aA (b8 FE hD)];exact s2 _ _ FE
   ·refine ⟨bs,s2,hB,?_⟩;rw[da hw,zS];have e2: [w].filter (λw=>decide (0<(w.length:Int)))= []:=by simp only[yA]at e;simp only[zU,e,zV];rfl
    rw[e2,zE];exact pM
  ·rintro H' ⟨bs,s2,hB,pM⟩;rw[yA,bW,xm]at pM;exact k H' D bs (s.trans s2) (s.free hD) hB pM
noncomputable def adp (K:PySem.W.Frag):Sp:=λvs H Q _a=>∃(p:Addr) (as:List Addr) (ws:List Bytes),vs= [.ref p]/\H p=some (.lst (as.map V.ref))/\bX H as (ws.map nI)/\(∀w∈ws,w≠ [])/\jl ws<=15000/\dO H Q (vi (nI (Vbdbag.joined 32 ws)))
noncomputable abbrev FF:Prop:=a7 P w K mg base 1 "joined" ["words"] (adp K)
theorem adq (n:a9 K mg "joined" Ob) (T:Txt K mg):FF:=by
  refine bf ["words","line","word"] n λf aK A aJ s H vs Q E hr nd hu h=>?_
  obtain ⟨p,as,ws,rfl,hP,hR,bQ,hj,k⟩:=h;refine ⟨_,(aB (bj 1 nd (aW cW))
   (aB (eW PassesOwn.never rfl (dZ (pv 0)) (cH 2 nd) (aB (aX (bz fF (bJ K T.bG (pv 1)) aH) (aC (fu (iH K (pv 1) (aR T.PX)))) aZ)
    (aC (fu (j7 (K:=K) Z5 Za Zd uu (pv 1) (ai (pv 2)))))))
   (aC (aF (pv 1))))),?_⟩
  have bW:=hR.length;rw[yA]at bW;refine ⟨xQ _,λq hq=>⟨_,rfl,p,rfl,⟨_,ag.of (bU hq _ _ hP)⟩,jj (K:=K) (a:=p) (xs:=as.map V.ref) (λi σ H'=>∃v:Option V,σ= [some (.ref p),some (.ref q),v]/\aq H H'/\H' q=some (.lst (vi (nI (Vbdbag.joined 32 (ws.take i))))))
   ⟨none,rfl,bU hq,ao⟩ (λi σ H' _a ⟨_,_,s,_⟩=>ag.of (s _ _ hP)) ?_ ?_⟩⟩
  ·rintro i x σ H' hx ⟨v,rfl,s,hQ⟩;obtain ⟨a,ha,rfl⟩:=cD hx;obtain ⟨l,hl,Bx⟩:=hR.get ha;obtain ⟨b,hb,rfl⟩:=cD hl;have g1:=Ug hb;have g2:=wM 32 (ws.take i);have ab:a≠q:=b8 Bx hq;have fin:∀{H2:Hp}{xs:List Nat},aq H H2->H2 q=some (.lst (vi (nI xs)))->Vbdbag.joined 32 (ws.take (i+1))=xs++b->xs.length<=jl (ws.take i)+1->
     LJ (AB K "list" Mu (lP 1) (nz (lP 2) kU)) {nx:=λσ H'=>∃v:Option V,σ= [some (.ref p),some (.ref q),v]/\aq H H'/\H' q=some (.lst (vi (nI (Vbdbag.joined 32 (ws.take (i+1)))))),rt:=Q} [some (.ref p),some (.ref q),some (.ref a)] H2:=fun {H2 xs} s2 h2 e le=>by
    refine ⟨_,rfl,.inl ⟨rfl,_,ag.of h2⟩,_,rfl,q,a,_,_,rfl,rfl,h2,s2 _ _ Bx,eQ ?_,some (.ref a),rfl,aU s2 hq,?_⟩
    ·rw[yA,yA,bR,bR];omega
    ·rw[ao,e,←dw];show some (HO.lst (vi (Vbdbag.ints _++Vbdbag.ints _)))=some (HO.lst (vi (Vbdbag.ints (_++_))));rw[tM]
   refine ⟨_,rfl,q,_,rfl,.inl (ag.of hQ),_,_,rfl,rfl,_,rfl,aI (λe=>?_) (λe=>?_)⟩
   ·have hi:ws.take i≠ []:=by intro z;rw[z]at e;simp[Vbdbag.joined,Vbdbag.ints]at e
    refine ⟨_,rfl,.inl ⟨rfl,_,ag.of hQ⟩,q,_,_,rfl,rfl,hQ,dv ?_,?_⟩
    ·rw[yA,bR];omega
    ·refine fin (xs:=Vbdbag.joined 32 (ws.take i)++ [32]) (aU s hq) ?_ ?_ ?_
     ·rw[ao];show _=some (HO.lst (vi (Vbdbag.ints (_++_))));rw[tM,dw];rfl
     ·rw[da hb,C1,Zw hi,zD];rfl
     ·rw[yt,yE];omega
   ·have hi:ws.take i= []:=by
     cases h:ws.take i with
     |nil=>rfl
     |cons w r=>have h1:=Uh 32 (ws.take i) (by rw[h];simp) (λw hw=>bQ w (x6 hw));simp only[yA,bR]at e;have h2:0<(Vbdbag.joined 32 (ws.take i)).length:=List.length_pos_iff.mpr h1;simp only[Zr]at e;omega
    refine fin (xs:= []) s ?_ ?_ (xQ _)
    ·rw[hQ,hi];rfl
    ·rw[da hb,C1,Zx hi];rfl
  ·rintro σ H' ⟨v,rfl,s,hQ⟩;rw[yA,bW,xm]at hQ;exact ⟨_,rfl,k H' q s hq hQ⟩
end
noncomputable def cI (k:Kd):Str:=Str.ofString k.name
theorem rW (k:Kd):(cI k).cps.toList=k.bytes:=by unfold cI;rw[Str.ofString_eq_toList];show (k.name.toList.map Char.toNat).toArray.toList=_;rw[xt];rfl
theorem FG {k k':Kd}(h:cI k=cI k'):k=k':=JI (by rw[←rW,←rW,h])
noncomputable def fA (e:Kd×Nat):List bp:= [.inr (cI e.1),.inl (e.2:Int)]
theorem Qc {e e':Kd×Nat}(h:fA e=fA e'):e=e':=by unfold fA at h;simp only[List.cons.injEq,Sum.inr.injEq,Sum.inl.injEq,and_true]at h;exact xY (FG h.1) ZD
noncomputable def jF (H:Hp) (p:Addr):dH->Prop
 | .bb l=>H p=some (.lst (vi (nI l)))
 | .cE ts=>∃as,H p=some (.lst (as.map V.ref))/\bX H as (ts.map nI)
noncomputable def i4 (H:Hp) (e:fM) (kv:List bp×V):Prop:=kv.1=fA e.1/\∃p,kv.2= .ref p/\jF H p e.2
noncomputable def ka (H:Hp) (d:Addr) (T:aQ):Prop:=∃af,Rd H d (.dT af)/\Paired (i4 H) T af
theorem jF.same {H H':Hp}{p:Addr}(s:aq H H'):∀{v:dH},jF H p v->jF H' p v
 | .bb l,h=>s _ _ h
 | .cE ts,⟨as,h,r⟩=>⟨as,s _ _ h,r.same s⟩
theorem i4.same {H H':Hp}{e:fM}{kv:List bp×V}(s:aq H H') (h:i4 H e kv):i4 H' e kv:=let ⟨h1,p,h2,h3⟩:=h;⟨h1,p,h2,h3.same s⟩
theorem Rd.same {H H':Hp}{a:Addr}{u:HO}(s:aq H H') (h:Rd H a u):Rd H' a u:=by
 rcases h with h|⟨o,h⟩
 ·exact .inl (s _ _ h)
 ·exact .inr ⟨o,s _ _ h⟩
theorem ka.same {H H':Hp}{d:Addr}{T:aQ}(h:ka H d T) (s:aq H H'):ka H' d T:=let ⟨af,h1,h2⟩:=h;⟨af,Rd.same s h1,Paired.mono (λe kv z=>z.same s) h2⟩
theorem FH {H:Hp}(k:Kd×Nat):∀{T:aQ}{af:List (List bp×V)},Paired (i4 H) T af->(cZ T k=none/\cn af (fA k)=none)\/∃v p,cZ T k=some v/\cn af (fA k)=some (.ref p)/\jF H p v
 |_,_,.nil=> .inl ⟨rfl,rfl⟩
 |e::T,kv::af,.cons h r=>by
  obtain ⟨h1,p,h2,h3⟩:=h;have ih:=FH k r;by_cases q:e.1=k
  ·refine .inr ⟨e.2,p,?_,?_,h3⟩
   ·unfold cZ;rw[zX,Zm.mpr q];rfl
   ·unfold cn;rw[zX,Zs (by rw[h1,q])];exact Zo some h2
  ·have q1:cZ (e::T) k=cZ T k:=by unfold cZ;rw[zX,beq_eq_false_iff_ne.mpr q]
   have q2:cn (kv::af) (fA k)=cn af (fA k):=by unfold cn;rw[zX,Zq (by rw[h1];exact λz=>q (Qc z))]
   rw[q1,q2];exact ih
theorem By {H:Hp}{d b:Addr}{T:aQ}(h:ka H d T) (k:Kd×Nat) (hb:H b=some (.bP [.str (cI k.1),.int k.2])):EI H d/\∃o,jy H d (.ref b) o/\((cZ T k=none/\o=none)\/∃v p,cZ T k=some v/\o=some (.ref p)/\jF H p v):=by obtain ⟨af,h1,h2⟩:=h;refine ⟨.inr ⟨af,h1⟩,cn af (fA k),.inr ⟨af,fA k,b,h1,rfl,hb,rfl⟩,FH k h2⟩
section
noncomputable def ads (K:PySem.W.Frag):Sp:=λvs H Q _a=>∃(d:Addr) (k:Kd) (T:aQ),vs= [.ref d,.str (cI k)]/\k.fL=true/\ka H d T/\cv T/\∀H',aq H H'->Q (.int (aG T k)) H'
theorem adt (k:Kd) (hk:k.fL=true):pI.lookup (cI k)=some (k.wq:Int):=by cases k<;>first|(cases hk;done)|decide +kernel
noncomputable abbrev ia:Prop:=a7 P w K mg base 1 "setting" ["told","name"] (ads K)
theorem adu (n:a9 K mg "setting" Oc) (T:Txt K mg):ia:=by
  refine bf ["told","name"] n λf aK A aJ s H vs Q E hr nd hu h=>?_
  obtain ⟨d,k,T0,rfl,hk,hT,W,kk⟩:=h;obtain ⟨Qe,pN⟩:=T.Fz;refine ⟨_,(aC (aF (bL K (AN hu (pv 0) (lY (au (pv 1) (ai aH))) (aW (ai (E9 (K:=K) pN rfl (pv 1) (λ_a _a=>rfl)))) ⟨rfl,rfl,rfl,rfl⟩) aH))),?_⟩;have two:(2:Nat)<=sizeLine:=by decide
  have one:(1:Nat)<=sizeLine:=by decide
  refine ⟨_,rfl,d,rfl,(let ⟨af,h1,_⟩:=hT; .inr ⟨af,h1⟩),_,rfl,two,λt ht=>⟨_,rfl,cI k,_,rfl,adt k hk,one,λl hl=>?_⟩⟩;obtain ⟨n1,n2⟩:=bK hl;have s2:aq H (aj (aj H t (.bP [.str (cI k),.int 0])) l (.lst [.int k.wq])):=aU (bU ht) n2;obtain ⟨_,o,g,c⟩:=By (hT.same s2) (k,0) (b:=t) (by rw[aA (xR n1),ao];rfl);refine ⟨o,g,?_⟩;rcases c with ⟨e1,rfl⟩|⟨v,p,e1,rfl,hv⟩
  ·have q:=kk _ s2;rw[Uj e1]at q;exact ⟨l,_,0,_,rfl,rfl,ag.of ao,rfl,q⟩
  ·obtain ⟨x,rfl,e2⟩:=Ui W hk e1;have q:=kk _ s2;rw[e2]at q;exact ⟨p,_,0,_,rfl,rfl,ag.of hv,rfl,q⟩
noncomputable def adv (K:PySem.W.Frag):Sp:=λvs H Q _a=>∃(d:Addr) (r l:Nat) (T:aQ),vs= [.ref d,.int r,.int l]/\ka H d T/\cv T/\∀H',aq H H'->Q (.bl (decide ((iu T r).1<=l)&&decide (l<=(iu T r).2))) H'
theorem FI (a b:Nat):decide ((a:Int)<=(b:Int))=decide (a<=b):=by rw[Zp];omega
noncomputable abbrev FJ:Prop:=a7 P w K mg base 1 "level_fits" ["told","stage","level"] (adv K)
theorem adw (n:a9 K mg "level_fits" Od) (T:Txt K mg):FJ:=by
  refine bf ["told","stage","level","bounds"] n λf aK A aJ s H vs Q E hr nd hu h=>?_
  obtain ⟨d,r,lv,T0,rfl,hT,W,kk⟩:=h;refine ⟨_,(aB (bj 3 nd (AN hu (pv 0) (lY (au dY (ai (pv 1)))) (aW (au aH (ai (aR T.Bm)))) ⟨rfl,rfl,rfl,rfl⟩))
   (aC (aF (ny cO cO (bL K (pv 3) aH) (pv 2) (bL K (pv 3) aH))))),?_⟩
  have two:(2:Nat)<=sizeLine:=by decide
  refine ⟨_,rfl,d,rfl,(let ⟨af,h1,_⟩:=hT; .inr ⟨af,h1⟩),_,rfl,two,λt ht=>⟨two,λl hl=>?_⟩⟩;obtain ⟨n1,n2⟩:=bK hl;have s2:aq H (aj (aj H t (.bP [.str "LEVELS",.int r])) l (.lst [.int 1,.int 5])):=aU (bU ht) n2;obtain ⟨_,o,g,c⟩:=By (hT.same s2) (.levels,r) (b:=t) (by rw[aA (xR n1),ao];rfl);refine ⟨o,g,?_⟩;have fin:∀(p:Addr) (a b:Nat),iu T0 r=(a,b)->ag K (aj (aj H t (.bP [.str "LEVELS",.int r])) l (.lst [.int 1,.int 5])) p [.int a,.int b]->
    DH (DX (kT λi j=>V.bl (decide (i<=j))) (kT λi j=>V.bl (decide (i<=j))) (kS (qZ K) (lP 3) (tC (.int 0))) (lP 2) (kS (qZ K) (lP 3) (tC (.int 1)))) {nx:=λ_a H'=>Q .bT H',rt:=Q} [some (.ref d),some (.int r),some (.int lv),some (.ref p)] (aj (aj H t (.bP [.str "LEVELS",.int r])) l (.lst [.int 1,.int 5])):=by
   intro p a b e hp;have q:=kk _ s2;rw[e]at q;refine ⟨_,rfl,p,_,0,.int a,rfl,rfl,hp,rfl,_,rfl,a,lv,rfl,rfl,_,rfl,aI (λe1=>?_) (λe1=>?_)⟩
   ·rw[FI]at e1;refine ⟨_,rfl,p,_,1,.int b,rfl,rfl,hp,rfl,lv,b,rfl,rfl,?_⟩;simp only[e1,zp]at q;show Q (.bl (decide ((lv:Int)<=(b:Int)))) _;rw[FI];exact q
   ·rw[FI]at e1;simp only[e1,zg]at q;exact q
  rcases c with ⟨e1,rfl⟩|⟨v,p,e1,rfl,hv⟩
  ·exact fin l 1 5 (by unfold iu;rw[e1]) (ag.of ao)
  ·obtain ⟨a,b,rfl,e2⟩:=Uk W e1;exact fin p a b e2 (ag.of hv)
noncomputable def adx (K:PySem.W.Frag):Sp:=λvs H Q _a=>∃(d:Addr) (r:Nat) (T:aQ),vs= [.ref d,.int r]/\ka H d T/\cv T/\∀H',aq H H'->Q (.int (cB T r)) H'
noncomputable abbrev vf:Prop:=a7 P w K mg base 1 "release_of" ["told","stage"] (adx K)
theorem ady (n:a9 K mg "release_of" Og) (T:Txt K mg):vf:=by
  refine bf ["told","stage"] n λf aK A aJ s H vs Q E hr nd hu h=>?_
  obtain ⟨d,r,T0,rfl,hT,W,kk⟩:=h;refine ⟨_,(aC (aF (bL K (AN hu (pv 0) (lY (au dY (ai (pv 1)))) (aW (ai aH)) ⟨rfl,rfl,rfl,rfl⟩) aH))),?_⟩;have two:(2:Nat)<=sizeLine:=by decide
  have one:(1:Nat)<=sizeLine:=by decide
  refine ⟨_,rfl,d,rfl,(let ⟨af,h1,_⟩:=hT; .inr ⟨af,h1⟩),_,rfl,two,λt ht=>⟨one,λl hl=>?_⟩⟩;obtain ⟨n1,n2⟩:=bK hl;have s2:aq H (aj (aj H t (.bP [.str "RELEASE",.int r])) l (.lst [.int 0])):=aU (bU ht) n2;obtain ⟨_,o,g,c⟩:=By (hT.same s2) (.release,r) (b:=t) (by rw[aA (xR n1),ao];rfl);refine ⟨o,g,?_⟩;have q:=kk _ s2;rcases c with ⟨e1,rfl⟩|⟨v,p,e1,rfl,hv⟩
  ·have e:cB T0 r=0:=by unfold cB;rw[e1]
   rw[e]at q;exact ⟨l,_,0,_,rfl,rfl,ag.of ao,rfl,q⟩
  ·obtain ⟨a,rfl,e2⟩:=Ul W e1;rw[e2]at q;exact ⟨p,_,0,_,rfl,rfl,ag.of hv,rfl,q⟩
noncomputable def adz (K:PySem.W.Frag):Sp:=λvs H Q _a=>∃(d b:Addr) (r:Nat) (tp:Bytes) (T:aQ),vs= [.ref d,.int r,.ref b]/\H b=some (.lst (vi (nI tp)))/\ka H d T/\cv T/\∀H',aq H H'->Q (.bl ((iO T r).isEmpty||(iO T r).contains tp)) H'
theorem pO (ts:List Bytes) (tp:Bytes):((ts.map nI).any λm=>decide (m=nI tp))=ts.contains tp:=by
 rw[zC,zf];simp only[zB,zq,Zt,zG];constructor
 ·rintro ⟨x,hx,e⟩;rw[←wL e];exact hx
 ·intro h;exact ⟨tp,h,rfl⟩
noncomputable abbrev FK:Prop:=a7 P w K mg base 1 "topic_fits" ["told","stage","topic"] (adz K)
theorem adA (n:a9 K mg "topic_fits" Oe) (T:Txt K mg):FK:=by
  refine bf ["told","stage","topic"] n λf aK A aJ s H vs Q E hr nd hu h=>?_
  obtain ⟨d,b,r,tp,T0,rfl,hb,hT,W,kk⟩:=h;refine ⟨_,(aC (aF (DV (abh (K:=K) hu) (pv 2) (AN hu (pv 0) (lY (au dY (ai (pv 1)))) (aW (ai (pv 2))) ⟨rfl,rfl,rfl,rfl⟩) (by with_unfolding_all rfl)))),?_⟩;have two:(2:Nat)<=sizeLine:=by decide
  have one:(1:Nat)<=sizeLine:=by decide
  refine ⟨_,rfl,_,rfl,d,rfl,(let ⟨af,h1,_⟩:=hT; .inr ⟨af,h1⟩),_,rfl,two,λt ht=>⟨_,rfl,one,λl hl=>?_⟩⟩;obtain ⟨n1,n2⟩:=bK hl;have s2:aq H (aj (aj H t (.bP [.str "TOPICS",.int r])) l (.lst [.ref b])):=aU (bU ht) n2;obtain ⟨_,o,g,c⟩:=By (hT.same s2) (.topics,r) (b:=t) (by rw[aA (xR n1),ao];rfl);refine ⟨o,g,?_⟩;have q:=kk _ s2;rcases c with ⟨e1,rfl⟩|⟨v,p,e1,rfl,hv⟩
  ·have e:iO T0 r= []:=by unfold iO;rw[e1]
   rw[e]at q;refine ⟨b,l,nI tp,[b],[nI tp],rfl,rfl,ag.of (s2 _ _ hb),ag.of ao,.cons (ag.of (s2 _ _ hb)) .nil,?_⟩;simp only[zz,List.any_nil,decide_true,Bool.true_or];exact q
  ·obtain ⟨ts,rfl,e2,e3⟩:=Um W e1;obtain ⟨as,hp,hR⟩:=hv;rw[e2]at q;refine ⟨b,p,nI tp,as,ts.map nI,rfl,rfl,ag.of (s2 _ _ hb),ag.of hp,hR.k,?_⟩;rw[pO];have e4:ts.isEmpty=false:=by cases ts with|nil=>exact absurd rfl e3|cons=>rfl
   rw[e4,zj]at q;exact q
noncomputable def adB (K:PySem.W.Frag):Sp:=λvs H Q _a=>∃(a:Addr) (wd:Bytes) (lo hi:Int),vs= [.ref a,.int lo,.int hi]/\H a=some (.lst (vi (nI wd)))/\wd.length<=20000/\∀H',aq H H'->Q (.bl (de lo hi wd)) H'
noncomputable abbrev rX:Prop:=a7 P w K mg base 3 "is_number" ["word","least","greatest"] (adB K)
theorem adC (n:a9 K mg "is_number" Oh) (T:Txt K mg) (gT:pL):rX:=by
  refine bf ["word","least","greatest"] n λf aK A aJ s H vs Q E hr nd hu h=>?_
  obtain ⟨a,wd,lo,hi,rfl,ha,hl,kk⟩:=h;refine ⟨_,(aC (aF (ny cO cO (pv 1) (aD gT hr (ai (pv 0))) (pv 2)))),?_⟩;refine ⟨_,rfl,_,rfl,a,nI wd,rfl,ag.of ha,by rw[bR];exact hl,λH1 s1=>⟨_,_,rfl,rfl,_,rfl,?_⟩⟩;have q:=kk H1 s1;unfold de at q;rw[tN];refine aI (λe=>?_) (λe=>?_)
  ·rw[e,zp]at q;exact ⟨_,rfl,_,_,rfl,rfl,q⟩
  ·rw[e,zg]at q;exact q
noncomputable def adD (o:Option Kd):Str:=match o with
 |some k=>cI k
 |none=>""
noncomputable def adE (K:PySem.W.Frag):Sp:=λvs H Q _a=>∃(a:Addr) (wd:Bytes),vs= [.ref a]/\H a=some (.lst (vi (nI wd)))/\∀H',aq H H'->Q (.str (adD (jc wd))) H'
theorem adF:((pI.map λp=>V.str p.1)++pJ)=Kd.all.map λk=>V.str (cI k):=by decide +kernel
theorem FL (k:Kd):(cI k).cps.size<=20000:=by cases k<;>decide +kernel
noncomputable abbrev FN:Prop:=a7 P w K mg base 2 "name_of" ["word"] (adE K)
theorem adG (n:a9 K mg "name_of" Oi) (T:Txt K mg) (lh:va):FN:=by
  refine bf ["word","name"] n λf aK A aJ s H vs Q E hr nd hu h=>?_
  obtain ⟨a,wd,rfl,ha,kk⟩:=h;obtain ⟨Qe,pN⟩:=T.Fz;obtain ⟨Bz,rY⟩:=T.P5;refine ⟨_,(aB (eW PassesOwn.never rfl (dZ (bx fV (nF (abB (K:=K) pN.2 ZE) (by rfl) T.u6 uR (ai (rF pN.1 rfl))) (nF (ND (K:=K)) (by rfl) T.u6 uR (ai (rF rY.1 rfl))))) (cH 1 nd) (aC (aX (bz (abg (K:=K) hu) (aD lh hr (ai (pv 1))) (pv 0)) (aC (aF (pv 1))) aZ)))
   (aC (aF dY))),?_⟩
  refine ⟨rfl,λl1 h1=>⟨Bz,pJ,rfl,.inr (rY.2 _),λl2 h2=>?_⟩⟩;obtain ⟨n1,n2⟩:=bK h2;refine ⟨l1,l2,_,_,rfl,rfl,by rw[aA (xR n1),ao],ao,by decide,λr hr=>?_⟩;obtain ⟨n3,n4⟩:=bK hr;obtain ⟨n5,n6⟩:=bK n4;rw[adF];refine ⟨r,rfl,⟨_,ag.of ao⟩,jj (K:=K) (a:=r) (xs:=Kd.all.map λk=>V.str (cI k)) (λi σ H'=>∃v:Option V,σ= [some (.ref a),v]/\aq H H'/\H' r=some (.lst (Kd.all.map λk=>V.str (cI k)))/\(Kd.all.take i).find? (λk=>k.bytes==wd)=none)
   ⟨none,rfl,aU (aU (aU (aq.refl H) h1) n2) n6,ao,rfl⟩ (λi σ H' _a ⟨_,_,_,h,_⟩=>ag.of h) ?_ ?_⟩
  ·rintro i x σ H' hx ⟨v,rfl,s4,hR,hf⟩;obtain ⟨k,hk,rfl⟩:=cD hx;refine ⟨_,rfl,cI k,rfl,FL k,λH5 p5 s5 m5 e5=>⟨_,rfl,p5,a,nI (cI k).cps.toList,nI wd,rfl,rfl,ag.of e5,ag.of (s5 _ _ (s4 _ _ ha)),_,rfl,aI (λe=>?_) (λe=>?_)⟩⟩
   ·have e':(cI k).cps.toList=wd:=wL (ZA e);rw[rW]at e';have q:=kk H5 (s4.trans s5);rw[←e',JJ]at q;exact ⟨_,rfl,q⟩
   ·have e':¬k.bytes=wd:=λz=>by rw[←rW]at z;rw[z]at e;simp at e
    refine ⟨_,rfl,s4.trans s5,s5 _ _ hR,?_⟩;rw[da hk,zW,hf];simp[List.find?,beq_eq_false_iff_ne.mpr e']
  ·rintro σ H' ⟨v,rfl,s4,hR,hf⟩;rw[yA,xm]at hf;have q:=kk H' s4;have e:jc wd=none:=hf;rw[e]at q;exact q
noncomputable def rZ (H:Hp) (p:Addr) (ws:List Bytes):Prop:=∃as,H p=some (.lst (as.map V.ref))/\bX H as (ws.map nI)
noncomputable def mq (ws:List Bytes):Prop:=ws.length<=10001/\∀w∈ws,w.length<=10000
noncomputable def Qg (H':Hp):Option (Nat×dH)->List V->Prop
 |none,xs=>xs= []
 |some (n,.bb l),xs=>xs=vi (nI (n::l))
 |some (n,.cE ts),xs=>∃as,xs= .int n::as.map V.ref/\bX H' as (ts.map nI)
noncomputable def gU (H:Hp) (Q:VK) (r:Option (Nat×dH)):Prop:=∀(H':Hp) (p:Addr) (xs:List V),aq H H'->H p=none->H' p=some (.lst xs)->Qg H' r xs->Q (.ref p) H'
theorem nW {H:Hp}{as:List Addr}{ws:List Bytes}{i:Nat}{w:Bytes}(hR:bX H as (ws.map nI)) (h:ws[i]? =some w):∃a,as[i]? =some a/\H a=some (.lst (vi (nI w))):=by have hl:=hR.length;rw[yA]at hl;have hi:=(List.getElem?_eq_some_iff.mp h).1;obtain ⟨a,ha⟩:∃a,as[i]? =some a:=⟨_,yb ZD⟩;obtain ⟨l,h1,h2⟩:=hR.get ha;rw[yd,h]at h1;cases h1;exact ⟨a,ha,h2⟩
theorem kb {as:List Addr}{i:Nat}{a:Addr}(h:as[i]? =some a):hG (as.map V.ref) (i:Int)=some (V.ref a):=ck (by rw[yd,h];rfl)
theorem gU.none {H H1:Hp}{Q:VK}{q:Addr}(k:gU H Q none) (s:aq H H1) (hq:H1 q=Option.none):Q (.ref q) (aj H1 q (.lst [])):=k _ q [] (aU s (s.free hq)) (s.free hq) ao rfl
theorem adH (k:Kd) (hk:k.fL=true):Ft.lookup (cI k)=some (k.kx:Int):=by cases k<;>first|(cases hk;done)|decide +kernel
theorem adI (k:Kd) (hk:k.fL=true):Fu.lookup (cI k)=some (k.most:Int):=by cases k<;>first|(cases hk;done)|decide +kernel
theorem pP {x:Int}(h:0<=x):((x.toNat:Nat):Int)=x:=by omega
noncomputable def adJ (K:PySem.W.Frag):Sp:=λvs H Q _a=>∃(k:Kd) (p:Addr) (ws:List Bytes),vs= [.str (cI k),.ref p]/\k.fL=true/\rZ H p ws/\mq ws/\gU H Q (kz k ws)
theorem adK (k:Kd):decide (V.str (cI k)=V.str "SIZE")=decide (k= .size):=by
 rw[Zp];constructor
 ·intro h;exact FG (V.str.inj h)
 ·rintro rfl;rfl
noncomputable abbrev FO:Prop:=a7 P w K mg base 4 "read_setting" ["name","words"] (adJ K)
theorem adL (n:a9 K mg "read_setting" Oj) (T:Txt K mg) (gT:pL) (ib:rX):FO:=by
  refine bf ["name","words","value"] n λf aK A aJ s H vs Q E hr nd hu h=>?_
  obtain ⟨k,p,ws,rfl,hk,hW,ok,kk⟩:=h;obtain ⟨am0,adM⟩:=T.acZ;obtain ⟨am1,adN⟩:=T.acY;refine ⟨_,(aB (aX (PW.pt (gM (bz nj (bJ K T.bG (pv 1)) aH) (iE (cJ (cN (aD ib hr (au (bL K (pv 1) aH) (au (E9 (K:=K) adN rfl (pv 0) (λ_a _a=>rfl)) (ai (E9 (K:=K) adM rfl (pv 0) (λ_a _a=>rfl))))))))))) (aC (aF (aW cW))) aZ)
   (aB (bj 2 nd (aD gT hr (ai (bL K (pv 1) aH))))
   (aB (aX (PW.pt (oZ (bz cF (pv 0) dY) (qQ (bz cF (bx DT (pv 2) aH) aH)))) (aC (aF (aW cW))) aZ)
   (aC (aF (aW (au aH (ai (pv 2))))))))),?_⟩
  obtain ⟨as,hP,hR⟩:=hW;have bW:=hR.length;rw[yA]at bW;have two:(2:Nat)<=sizeLine:=by decide
  refine ⟨_,rfl,p,_,rfl,.inl (ag.of hP),rfl,_,rfl,aI (λe=>?_) (λe=>?_)⟩
  ·simp only[zm,Zr,V.int.injEq,yA]at e;rw[CJ k ws (by rintro w rfl;simp at bW;omega)]at kk;exact ⟨xQ _,λq hq=>kk.none (aq.refl H) hq⟩
  ·simp only[zl,Zt,V.int.injEq,yA]at e;obtain ⟨wd,rfl⟩:∃wd,ws= [wd]:=by
    match ws,bW with
    | [w],_=>exact ⟨w,rfl⟩
    | [],h=>have h:as.length=0:=h;omega
    |_::_::r,h=>have h:as.length=r.length+1+1:=h;omega
   obtain ⟨a0,ha,h0⟩:=nW (i:=0) hR rfl;have wl:wd.length<=20000:=xE (ok.2 wd (by simp)) ZE;rw[CI]at kk;unfold jf at kk;refine ⟨_,rfl,p,_,0,.ref a0,rfl,rfl,ag.of hP,kb ha,_,rfl,cI k,_,rfl,adH k hk,_,rfl,cI k,_,rfl,adI k hk,a0,wd,_,_,rfl,h0,wl,λH1 s1=>⟨_,rfl,aI (λe2=>?_) (λe2=>?_)⟩⟩
   ·simp only[zm]at e2;rw[e2]at kk;exact ⟨xQ _,λq hq=>gU.none kk s1 hq⟩
   ·simp only[zl]at e2;rw[e2]at kk;have hn:=fN e2;refine ⟨_,rfl,p,_,0,.ref a0,rfl,rfl,ag.of (s1 _ _ hP),kb ha,a0,nI wd,rfl,ag.of (s1 _ _ h0),by rw[bR];exact wl,λH2 s2=>?_⟩;rw[tN];have bO:=s1.trans s2;refine ⟨_,rfl,rfl,_,rfl,?_⟩;rw[adK];have fin:(¬(k= .size/\(bC wd).toNat % 2=1))->DH (L3 (nz (tC (.int 0)) (nz (lP 2) kU))) {nx:=λ_a H'=>Q .bT H',rt:=Q} [some (.str (cI k)),some (.ref p),some (.int (bC wd))] H2:=by intro bQ;rw[Zw bQ]at kk;refine ⟨_,rfl,two,λq hq=>kk _ q _ (aU bO (bO.free hq)) (bO.free hq) ao ?_⟩;show [V.int 0,V.int (bC wd)]= [V.int ((0:Nat):Int),V.int (((bC wd).toNat:Nat):Int)];rw[pP ZD];rfl
    refine aI (λe3=>?_) (λe3=>?_)
    ·have FP:k= .size:=ZA e3;refine ⟨_,rfl,_,_,rfl,rfl,(by show (0:Int)<2;decide),rfl,_,rfl,aI (λe4=>?_) (λe4=>?_)⟩
     ·simp only[Zt,V.int.injEq]at e4;rw[Zx (show k= .size/\(bC wd).toNat % 2=1 from ⟨FP,by omega⟩)]at kk;exact ⟨xQ _,λq hq=>gU.none kk bO hq⟩
     ·simp only[Zr,V.int.injEq]at e4;exact fin (λz=>by omega)
    ·have FP:¬k= .size:=Zz e3;exact fin (λz=>FP z.1)
theorem mv {H:Hp}{as:List Addr}{ws:List Bytes}(hR:bX H as (ws.map nI)):as.length=ws.length:=by have h:=hR.length;rw[yA]at h;exact h
noncomputable def adO (K:PySem.W.Frag):Sp:=λvs H Q _a=>∃(p:Addr) (ws:List Bytes),vs= [.ref p]/\rZ H p ws/\mq ws/\gU H Q (kC ws)
theorem Qh {H H1:Hp}{Q:VK}{as:List Addr}{ws:List Bytes}{p D:Addr}{σ:L2.St}{vs:List Nat}(s1:aq H H1) (hP:H p=some (.lst (as.map V.ref))) (hR:bX H as (ws.map nI)) (hD:H1 D=none) (ok:mq ws) (hσ:∀x,(lS 1 x (cg σ vs) H1 λbM _a=>cg bM vs=cg σ vs/\bM[1]? =some (some x)))
  (k:∀H2,aq H H2->H2 D=some (.lst (vi (ws.map λw=>bC w)))->Q (.ref D) H2):
  ∃W:Nat->Nat->Hp->Prop,(∃m,W 0 m (aj H1 D (.lst [])))/\∀i m H,W i m H->
   ((jZ K p).stop i H/\Q (.ref D) H)\/((jZ K p).go i H/\∃Nx:Hp->Prop,(∀H',Nx H'->∃m',m'<m/\W (i+1) m' H')/\∀x H',(jZ K p).iU i H x H'->lS 1 x (cg σ vs) H' λbM H2=>cg bM vs=cg σ vs/\MO bM H2 λb H3=>
    if b=true then Aw (P9 K) [] E0 (nz (lP 1) kU) bM H3 λy H4=>∃acc,H4 D=some (.lst acc)/\acc.length<sizeLine/\Nx (aj H4 D (.lst (acc++ [y]))) else Nx H3):=by
 have hl:=mv hR;refine jx (K:=K) (a:=p) (xs:=as.map V.ref) (λi H'=>aq H H'/\H' D=some (.lst (vi ((ws.take i).map λw=>bC w)))) ⟨aU s1 (s1.free hD),ao⟩ (λi H' _a h=>ag.of (h.1 _ _ hP)) ?_ ?_
 ·rintro i x H' hx ⟨s2,e2⟩;obtain ⟨a,ha,rfl⟩:=cD hx;obtain ⟨l,h1,h2⟩:=hR.get ha;obtain ⟨w,hw,rfl⟩:=cD h1;obtain ⟨q1,q2⟩:=hσ (.ref a);have hi:=(List.getElem?_eq_some_iff.mp hw).1;refine ⟨q1,?_⟩;refine ⟨_,q2,a,nI w,rfl,ag.of (s2 _ _ h2),by rw[bR];exact xE (ok.2 w (yY hw)) ZE,λH4 s4=>⟨_,s4 _ _ e2,?_,aU (s2.trans s4) (s1.free hD),?_⟩⟩
  ·rw[yA,yA,yF];exact dv (by have:=ok.1;omega)
  ·rw[ao,tN,da hw,yH,dw];rfl
 ·rintro H' ⟨s2,e2⟩;rw[yA,hl,xm]at e2;exact k H' s2 e2
noncomputable abbrev FQ:Prop:=a7 P w K mg base 4 "read_levels" ["words"] (adO K)
theorem adQ (n:a9 K mg "read_levels" Ol) (T:Txt K mg) (ib:rX) (gT:pL):FQ:=by
  refine bf ["words","word"] n λf aK A aJ s H vs Q E hr nd hu h=>?_
  obtain ⟨p,ws,rfl,hW,ok,kk⟩:=h;refine ⟨_,(aB (aX (PW.pt (gM (bz nj (bJ K T.bG (pv 0)) aH) (iE (cJ (cN (aD ib hr (au (bL K (pv 0) aH) (au aH (ai (aR T.Bk)))))))))) (aC (aF (aW cW))) aZ)
   (aB (aX (cJ (cN (aD ib hr (au (bL K (pv 0) aH) (au aH (ai (aR T.Bm))))))) (aC (aF (aW cW))) aZ)
   (aB (aX (cJ (cN (aD ib hr (au (bL K (pv 0) aH) (au (aD gT hr (ai (bL K (pv 0) aH))) (ai (aR T.Bm))))))) (aC (aF (aW cW))) aZ)
   (aC (aF (gR nd (dZ (pv 0)) (own:= [("word",1)]) (by rfl) (λ_a _a _a _a _a=>cH 1 nd) (λ_a _a _a _a _a=>jv) (λ_a _a _a _a _a=>(aD gT hr (ai (pv 1)))))))))),?_⟩
  obtain ⟨as,hP,hR⟩:=hW;have bW:=mv hR;refine ⟨_,rfl,p,_,rfl,.inl (ag.of hP),rfl,_,rfl,aI (λe=>?_) (λe=>?_)⟩
  ·simp only[zm,Zr,V.int.injEq,yA]at e;have e1:kC ws=none:=by
    unfold kC;split
    ·exfalso;simp at bW;omega
    ·rfl
   rw[e1]at kk;exact ⟨xQ _,λq hq=>kk.none (aq.refl H) hq⟩
  ·simp only[zl,Zt,V.int.injEq,yA]at e;obtain ⟨w0,w1,w2,rfl⟩:∃a b c,ws= [a,b,c]:=by
    match ws,bW with
    | [a,b,c],_=>exact ⟨a,b,c,rfl⟩
    | [],h=>have h:as.length=0:=h;omega
    | [_],h=>have h:as.length=1:=h;omega
    | [_,_],h=>have h:as.length=2:=h;omega
    |_::_::_::_::r,h=>have h:as.length=r.length+1+1+1+1:=h;omega
   obtain ⟨a0,i0,h0⟩:=nW (i:=0) hR rfl;obtain ⟨a1,i1,h1⟩:=nW (i:=1) hR rfl;obtain ⟨a2,i2,h2⟩:=nW (i:=2) hR rfl;have l0:w0.length<=20000:=xE (ok.2 w0 (by simp)) ZE;have l1:w1.length<=20000:=xE (ok.2 w1 (by simp)) ZE;have l2:w2.length<=20000:=xE (ok.2 w2 (by simp)) ZE;simp only[kC]at kk;refine ⟨_,rfl,p,_,0,.ref a0,rfl,rfl,ag.of hP,kb i0,a0,w0,1,9,rfl,h0,l0,λH1 s1=>⟨_,rfl,aI (λe2=>?_) (λe2=>?_)⟩⟩
   ·simp only[zm]at e2;rw[e2]at kk;exact ⟨xQ _,λq hq=>gU.none kk s1 hq⟩
   ·simp only[zl]at e2;rw[e2]at kk;refine ⟨_,rfl,p,_,1,.ref a1,rfl,rfl,ag.of (s1 _ _ hP),kb i1,a1,w1,1,5,rfl,s1 _ _ h1,l1,λH2 nX=>⟨_,rfl,aI (λe3=>?_) (λe3=>?_)⟩⟩
    ·have s2:=s1.trans nX;simp only[zm]at e3;rw[e3]at kk;exact ⟨xQ _,λq hq=>gU.none kk s2 hq⟩
    ·have s2:=s1.trans nX;simp only[zl]at e3;rw[e3]at kk;refine ⟨_,rfl,p,_,2,.ref a2,rfl,rfl,ag.of (s2 _ _ hP),kb i2,_,rfl,p,_,1,.ref a1,rfl,rfl,ag.of (s2 _ _ hP),kb i1,a1,nI w1,rfl,ag.of (s2 _ _ h1),by rw[bR];exact l1,λH3 r6=>?_⟩;have s3:=s2.trans r6;rw[tN];refine ⟨a2,w2,bC w1,5,rfl,s3 _ _ h2,l2,λH4 kc=>⟨_,rfl,aI (λe4=>?_) (λe4=>?_)⟩⟩
     ·have s4:=s3.trans kc;simp only[zm]at e4;rw[e4]at kk;exact ⟨xQ _,λq hq=>gU.none kk s4 hq⟩
     ·have s4:=s3.trans kc;simp only[zl]at e4;rw[e4]at kk;have g0:=fN e2;have g1:=fN e3;have g2:=fN e4;refine ⟨_,rfl,p,rfl,⟨_,ag.of (s4 _ _ hP)⟩,λD hD=>Qh (Q:=Q) s4 hP hR hD ok (λx=>⟨rfl,rfl⟩) λH5 s5 e5=>kk H5 D _ s5 (s4.free hD) e5 ?_⟩;show [V.int (bC w0),V.int (bC w1),V.int (bC w2)]= [V.int (((bC w0).toNat:Nat):Int),V.int (((bC w1).toNat:Nat):Int),V.int (((bC w2).toNat:Nat):Int)];rw[pP ZD,pP ZD,pP ZD]
noncomputable def adR (K:PySem.W.Frag):Sp:=λvs H Q _a=>∃(p:Addr) (ws:List Bytes),vs= [.ref p]/\rZ H p ws/\mq ws/\gU H Q (kD ws)
noncomputable abbrev FR:Prop:=a7 P w K mg base 4 "read_release" ["words"] (adR K)
theorem adS (n:a9 K mg "read_release" Oo) (T:Txt K mg) (ib:rX) (gT:pL):FR:=by
  refine bf ["words","word"] n λf aK A aJ s H vs Q E hr nd hu h=>?_
  obtain ⟨p,ws,rfl,hW,ok,kk⟩:=h;refine ⟨_,(aB (aX (PW.pt (gM (bz nj (bJ K T.bG (pv 0)) aH) (iE (cJ (cN (aD ib hr (au (bL K (pv 0) aH) (au aH (ai (aR T.Bk)))))))))) (aC (aF (aW cW))) aZ)
   (aB (aX (cJ (cN (aD ib hr (au (bL K (pv 0) aH) (au aH (ai (aR T.acd))))))) (aC (aF (aW cW))) aZ)
   (aC (aF (gR nd (dZ (pv 0)) (own:= [("word",1)]) (by rfl) (λ_a _a _a _a _a=>cH 1 nd) (λ_a _a _a _a _a=>jv) (λ_a _a _a _a _a=>(aD gT hr (ai (pv 1))))))))),?_⟩
  obtain ⟨as,hP,hR⟩:=hW;have bW:=mv hR;refine ⟨_,rfl,p,_,rfl,.inl (ag.of hP),rfl,_,rfl,aI (λe=>?_) (λe=>?_)⟩
  ·simp only[zm,Zr,V.int.injEq,yA]at e;have e1:kD ws=none:=by
    unfold kD;split
    ·exfalso;simp at bW;omega
    ·rfl
   rw[e1]at kk;exact ⟨xQ _,λq hq=>kk.none (aq.refl H) hq⟩
  ·simp only[zl,Zt,V.int.injEq,yA]at e;obtain ⟨w0,w1,rfl⟩:∃a b,ws= [a,b]:=by
    match ws,bW with
    | [a,b],_=>exact ⟨a,b,rfl⟩
    | [],h=>have h:as.length=0:=h;omega
    | [_],h=>have h:as.length=1:=h;omega
    |_::_::_::r,h=>have h:as.length=r.length+1+1+1:=h;omega
   obtain ⟨a0,i0,h0⟩:=nW (i:=0) hR rfl;obtain ⟨a1,i1,h1⟩:=nW (i:=1) hR rfl;have l0:w0.length<=20000:=xE (ok.2 w0 (by simp)) ZE;have l1:w1.length<=20000:=xE (ok.2 w1 (by simp)) ZE;simp only[kD]at kk;refine ⟨_,rfl,p,_,0,.ref a0,rfl,rfl,ag.of hP,kb i0,a0,w0,1,9,rfl,h0,l0,λH1 s1=>⟨_,rfl,aI (λe2=>?_) (λe2=>?_)⟩⟩
   ·simp only[zm]at e2;rw[e2]at kk;exact ⟨xQ _,λq hq=>gU.none kk s1 hq⟩
   ·simp only[zl]at e2;rw[e2]at kk;refine ⟨_,rfl,p,_,1,.ref a1,rfl,rfl,ag.of (s1 _ _ hP),kb i1,a1,w1,0,99999,rfl,s1 _ _ h1,l1,λH2 nX=>⟨_,rfl,aI (λe3=>?_) (λe3=>?_)⟩⟩
    ·have s2:=s1.trans nX;simp only[zm]at e3;rw[e3]at kk;exact ⟨xQ _,λq hq=>gU.none kk s2 hq⟩
    ·have s2:=s1.trans nX;simp only[zl]at e3;rw[e3]at kk;have g0:=fN e2;have g1:=fN e3;refine ⟨_,rfl,p,rfl,⟨_,ag.of (s2 _ _ hP)⟩,λD hD=>Qh (Q:=Q) s2 hP hR hD ok (λx=>⟨rfl,rfl⟩) λH5 s5 e5=>kk H5 D _ s5 (s2.free hD) e5 ?_⟩;show [V.int (bC w0),V.int (bC w1)]= [V.int (((bC w0).toNat:Nat):Int),V.int (((bC w1).toNat:Nat):Int)];rw[pP ZD,pP ZD]
theorem FT (xs:List V):nG xs (some 1) none=xs.drop 1:=by
 have h:HT.eY xs.length 0 (some 1)=min 1 xs.length:=by
  simp[HT.eY]
  try omega
 unfold nG;rw[h];have h2:HT.eY xs.length xs.length none=xs.length:=rfl;rw[h2];cases xs with
 |nil=>rfl
 |cons a r=>
  have e:min 1 (a::r).length=1:=by simp only[yu];omega
  rw[e];simp
theorem adT (ts:List Bytes) (w:Bytes):(ts.map nI).count (nI w)=ts.count w:=by
 induction ts with
 |nil=>rfl
 |cons a r ih=>
  rw[yJ,zI,zI,ih];congr 1;by_cases h:a=w
  ·subst h;simp
  ·have:¬nI a=nI w:=λz=>h (wL z)
   simp[h,this]
noncomputable def adU (K:PySem.W.Frag):Sp:=λvs H Q _a=>∃(p:Addr) (ws:List Bytes),vs= [.ref p]/\rZ H p ws/\mq ws/\gU H Q (jd ws)
noncomputable abbrev FU:Prop:=a7 P w K mg base 4 "read_topics" ["words"] (adU K)
set_option tactic.hygienic true in
theorem adV (n:a9 K mg "read_topics" Om) (T:Txt K mg) (ib:rX) (gT:pL) (r8:Bu):FU:=by
  refine bf ["words","topics","topic"] n λf aK A aJ s H vs Q E hr nd hu h=>?_
  obtain ⟨p,ws,rfl,hW,ok,kk⟩:=h;refine ⟨_,(aB (aX (PW.pt (gM (bz o9 (bJ K T.bG (pv 0)) aH) (iE (cJ (cN (aD ib hr (au (bL K (pv 0) aH) (au aH (ai (aR T.Bk)))))))))) (aC (aF (aW cW))) aZ)
   (aB (bj 1 nd (uj (uS (K:=K)) (pv 0) (ph aH) Ea))
   (aB (eW PassesOwn.never rfl (dZ (pv 1)) (cH 2 nd) (aC (aX (PW.pt (gM (cJ (cN (aD r8 hr (ai (pv 2))))) (iE (bz fF (j7 (K:=K) Z5 Z9 PySem.F.type_list_count (abj (K:=K) hu) (pv 1) (ai (pv 2))) aH)))) (aC (aF (aW cW))) aZ)))
   (aC (aF (bx fV (aW (ai (aD gT hr (ai (bL K (pv 0) aH))))) (pv 1))))))),?_⟩
  obtain ⟨as,hP,hR⟩:=hW;have bW:=mv hR;refine ⟨_,rfl,p,_,rfl,.inl (ag.of hP),_,_,rfl,rfl,_,rfl,aI (λe=>?_) (λe=>?_)⟩
  ·simp only[Zt,yA]at e;have e1:jd ws=none:=by
    unfold jd;split
    ·exfalso;simp at bW;omega
    ·rfl
   rw[e1]at kk;exact ⟨xQ _,λq hq=>kk.none (aq.refl H) hq⟩
  ·simp only[Zr,yA]at e;obtain ⟨w0,w1,wr,rfl⟩:∃a b c,ws=a::b::c:=by
    match ws,bW with
    |a::b::c,_=>exact ⟨a,b,c,rfl⟩
    | [],h=>have h:as.length=0:=h;omega
    | [_],h=>have h:as.length=1:=h;omega
   obtain ⟨a0,i0,h0⟩:=nW (i:=0) hR rfl;have l0:w0.length<=20000:=xE (ok.2 w0 (by simp)) ZE;simp only[jd]at kk;refine ⟨_,rfl,p,_,0,.ref a0,rfl,rfl,ag.of hP,kb i0,a0,w0,1,9,rfl,h0,l0,λH1 s1=>⟨_,rfl,aI (λe2=>?_) (λe2=>?_)⟩⟩
   ·simp only[zm]at e2;rw[e2]at kk;exact ⟨xQ _,λq hq=>gU.none kk s1 hq⟩
   ·simp only[zl]at e2;rw[e2,zp]at kk;have g0:=fN e2;refine ⟨_,rfl,1,rfl,p,_,rfl,ag.of (s1 _ _ hP),λq hq=>?_⟩;rw[FT,←yK];generalize ll:w1::wr=tl at*;obtain ⟨ar,rfl,r9⟩:∃ar,as=a0::ar/\bX H ar (tl.map nI):=by
     cases hR with
     |cons e1 r1=>rename_i b0 br;have e3:b0=a0:=xX i0;subst e3;exact ⟨br,rfl,r1⟩
    have dP:=mv r9;have s2:aq H (aj H1 q (.lst (ar.map V.ref))):=aU s1 (s1.free hq);refine ⟨_,rfl,q,rfl,⟨_,ag.of ao⟩,jj (K:=K) (a:=q) (xs:=ar.map V.ref) (λi σ H'=>∃v:Option V,σ= [some (.ref p),some (.ref q),v]/\aq H H'/\H' q=some (.lst (ar.map V.ref))/\((tl.take i).all λw=>Vbdbag.isName w&& !decide (1<tl.count w))=true)
     ⟨none,rfl,s2,ao,rfl⟩ (λi σ H' _a ⟨_,_,_,h,_⟩=>ag.of h) ?_ ?_⟩
    ·rintro i x σ H' hx ⟨v,rfl,s3,hQ,eF⟩;obtain ⟨a,ha,rfl⟩:=cD hx;obtain ⟨l,h1,h2⟩:=r9.get ha;obtain ⟨wd,hw,rfl⟩:=cD h1;have hm:wd∈w0::tl:=yU _ (yY hw);have lw:(nI wd).length<=20000:=by rw[bR];exact xE (ok.2 wd hm) ZE
     have bad:(Vbdbag.isName wd&& !decide (1<tl.count wd))=false->gU H Q none:=by
      intro z;have e3:(tl.all λw=>Vbdbag.isName w&& !decide (1<tl.count w))=false:=by rw[List.all_eq_false];exact ⟨wd,yY hw,by rw[z];simp⟩
      rw[e3]at kk;exact kk
     refine ⟨_,rfl,a,nI wd,rfl,ag.of (s3 _ _ h2),lw,λH4 kc=>⟨_,rfl,?_⟩⟩;have s4:=s3.trans kc;rw[CZ];refine aI (λe3=>?_) (λe3=>?_)
     ·simp only[zm]at e3;exact ⟨xQ _,λr hr=>(bad (by rw[e3];rfl)).none s4 hr⟩
     ·simp only[zl]at e3;refine ⟨_,rfl,.inl ⟨rfl,_,ag.of (kc _ _ hQ)⟩,_,rfl,a,q,nI wd,ar,tl.map nI,rfl,rfl,ag.of (s4 _ _ h2),ag.of (kc _ _ hQ),(r9.same s4).k,_,_,rfl,rfl,_,rfl,?_⟩;rw[adT];refine aI (λe4=>?_) (λe4=>?_)
      ·simp only[Zt]at e4;exact ⟨xQ _,λr hr=>(bad (by rw[Zs (show 1<tl.count wd by omega)];simp)).none s4 hr⟩
      ·simp only[Zr]at e4;refine ⟨_,rfl,s4,kc _ _ hQ,?_⟩;rw[da hw,List.all_append,eF];simp only[zw,List.all_nil,zd,zp];rw[e3,Zq (show ¬1<tl.count wd by omega)];rfl
    ·rintro σ H' ⟨v,rfl,s3,hQ,eF⟩;rw[yA,dP,xm]at eF;rw[eF]at kk;have j3:q≠p:=λz=>by have:=s1 _ _ hP;rw[z,this]at hq;cases hq
     refine ⟨_,rfl,p,_,0,.ref a0,rfl,rfl,ag.of (s3 _ _ hP),kb i0,a0,nI w0,rfl,ag.of (s3 _ _ h0),by rw[bR];exact l0,λH4 kc=>?_⟩;have s4:=s3.trans kc;refine ⟨by show 1<=sizeLine;decide,λm hm=>?_⟩;refine ⟨_,rfl,m,q,_,ar.map V.ref,rfl,rfl,ao,?_,?_,λr hr=>?_⟩
     ·rw[aA (λz=>by rw[←z,kc _ _ hQ]at hm;cases hm)];exact kc _ _ hQ
     ·rw[yA];refine eQ ?_;have:=ok.1;simp only[yu,yB]at this⊢;omega
     ·obtain ⟨n1,n2⟩:=bK hr;have s6:∀o o',aq H (aj (aj H4 m o) r o'):=λo o'=>aU (aU s4 (s4.free hm)) (s4.free n2)
      refine kk _ r _ (s6 _ _) (s4.free n2) ao ⟨ar,?_,r9.same (s6 _ _)⟩;show [V.int (qy (nI w0))]++ar.map V.ref=V.int (((bC w0).toNat:Nat):Int)::ar.map V.ref;rw[tN,pP ZD];rfl
noncomputable def adW (K:PySem.W.Frag):Sp:=λvs H Q _a=>∃(k:Kd) (p:Addr) (ws:List Bytes),vs= [.str (cI k),.ref p]/\rZ H p ws/\mq ws/\gU H Q (jO k ws)
theorem vg (k k':Kd):decide (V.str (cI k)=V.str (cI k'))=decide (k=k'):=by rw[Zp];exact ⟨λh=>FG (V.str.inj h),λh=>by rw[h]⟩
noncomputable abbrev FV:Prop:=a7 P w K mg base 5 "read_rest" ["name","words"] (adW K)
theorem adX (n:a9 K mg "read_rest" Oq) (T:Txt K mg) (FW:FO) (FX:FQ) (FY:FU) (FZ:FR):FV:=by
  refine bf ["name","words"] n λf aK A aJ s H vs Q E hr nd hu h=>?_
  obtain ⟨k,p,ws,rfl,hW,ok,kk⟩:=h;refine ⟨_,(aB (aX (bz cF (pv 0) dY) (aC (aF (aD FX hr (ai (pv 1))))) aZ)
   (aB (aX (bz cF (pv 0) dY) (aC (aF (aD FY hr (ai (pv 1))))) aZ)
   (aB (aX (bz cF (pv 0) dY) (aC (aF (aD FZ hr (ai (pv 1))))) aZ)
   (aC (aF (aD FW hr (au (pv 0) (ai (pv 1))))))))),?_⟩
  have e1:(V.str "LEVELS":V)=V.str (cI .levels):=rfl;have e2:(V.str "TOPICS":V)=V.str (cI .topics):=rfl;have e3:(V.str "RELEASE":V)=V.str (cI .release):=rfl;refine ⟨_,rfl,rfl,_,rfl,?_⟩;rw[e1,vg];refine aI (λh=>?_) (λh=>?_)
  ·have h:=ZA h;subst h;exact ⟨_,rfl,p,ws,rfl,hW,ok,kk⟩
  have n1:=Zz h;refine ⟨_,rfl,rfl,_,rfl,?_⟩;rw[e2,vg];refine aI (λh=>?_) (λh=>?_)
  ·have h:=ZA h;subst h;exact ⟨_,rfl,p,ws,rfl,hW,ok,kk⟩
  have n2:=Zz h;refine ⟨_,rfl,rfl,_,rfl,?_⟩;rw[e3,vg];refine aI (λh=>?_) (λh=>?_)
  ·have h:=ZA h;subst h;exact ⟨_,rfl,p,ws,rfl,hW,ok,kk⟩
  have n3:=Zz h;have hk:k.fL=true/\jO k ws=kz k ws:=by cases k<;>first|exact ⟨rfl,rfl⟩|exact absurd rfl n1|exact absurd rfl n2|exact absurd rfl n3
  rw[hk.2]at kk;exact ⟨_,rfl,_,rfl,k,p,ws,rfl,hk.1,hW,ok,kk⟩
noncomputable def d8 (H:Hp) (d:Addr) (T:aQ):Prop:=∃af,H d=some (.dT af)/\Paired (i4 H) T af
theorem d8.r {H:Hp}{d:Addr}{T:aQ}(h:d8 H d T):ka H d T:=let ⟨af,h1,h2⟩:=h;⟨af,.inl h1,h2⟩
theorem d8.same {H H':Hp}{d:Addr}{T:aQ}(h:d8 H d T) (s:aq H H'):d8 H' d T:=let ⟨af,h1,h2⟩:=h;⟨af,s _ _ h1,Paired.mono (λe kv z=>z.same s) h2⟩
noncomputable def ic (d:Addr) (H H':Hp):Prop:=∀b o,H b=some o->b≠d->H' b=some o
theorem aq.d9 {d:Addr}{H H':Hp}(s:aq H H'):ic d H H':=λb o e _a=>s b o e
theorem bX.d9 {d:Addr}{H H':Hp}{as:List Addr}{ls:List (List Int)}(h:bX H as ls) (s:ic d H H') (hd:∀xs,H d≠some (.lst xs)):bX H' as ls:=by unfold bX at h⊢;refine Paired.mono (λa l e=>s a _ e λz=>?_) h;rw[z]at e;exact hd _ e
theorem jF.d9 {d:Addr}{H H':Hp}{p:Addr}(s:ic d H H') (hd:∀xs,H d≠some (.lst xs)):∀{v:dH},jF H p v->jF H' p v
 | .bb l,h=>s _ _ h λz=>hd _ (by rw[←z];exact h)
 | .cE ts,⟨as,h,r⟩=>⟨as,s _ _ h (λz=>hd _ (by rw[←z];exact h)),r.d9 s hd⟩
theorem i4.d9 {d:Addr}{H H':Hp}{e:fM}{kv:List bp×V}(s:ic d H H') (hd:∀xs,H d≠some (.lst xs)) (h:i4 H e kv):i4 H' e kv:=let ⟨h1,p,h2,h3⟩:=h;⟨h1,p,h2,h3.d9 s hd⟩
noncomputable def pQ (T:aQ) (ws:List Bytes):Nat:=match dS T ws with
 | .error e=>e
 | .ok _=>0
noncomputable def vh (T:aQ) (ws:List Bytes):aQ:=match dS T ws with
 | .error _=>T
 | .ok T'=>T'
noncomputable def adY (K:PySem.W.Frag):Sp:=λvs H Q _a=>∃(d p:Addr) (T:aQ) (ws:List Bytes),vs= [.ref d,.ref p]/\d8 H d T/\T.length<=100000/\rZ H p ws/\mq ws/\ws≠ []/\
 ∀H',ic d H H'->d8 H' d (vh T ws)->Q (.int (pQ T ws)) H'
theorem Qi {H:Hp}{T:aQ}{af:List (List bp×V)}(h:Paired (i4 H) T af) (k:Kd×Nat):(cn af (fA k)).isSome=has T k:=by
 rcases FH k h with ⟨e1,e2⟩|⟨v,p,e1,e2,_⟩
 ·rw[e2];cases q:has T k with
  |false=>rfl
  |true=>exfalso;unfold has at q;obtain ⟨x,hx,hxk⟩:=zB.mp q;have z:=wA e1;rw[zY]at z;exact z x hx hxk
 ·rw[e2];cases q:has T k with
  |true=>rfl
  |false=>rw[JL q]at e1;cases e1
end
section
theorem ad0 (k:Kd):decide (V.str (cI k)=V.str "")=false:=by cases k<;>decide +kernel
theorem ad1 {H:Hp}{k:Kd}{n:Nat}{v:dH}{xs:List V}(h:Qg H (some (n,v)) xs):∃r,xs= .int n::r:=by
 cases v with
 |bb l=>exact ⟨_,h⟩
 |cE ts=>obtain ⟨as,h,_⟩:=h;exact ⟨_,h⟩
noncomputable abbrev F0:Prop:=a7 P w K mg base 6 "take_line" ["told","words"] (adY K)
set_option tactic.hygienic true in
theorem ad2 (n:a9 K mg "take_line" Ot) (T:Txt K mg) (F4:FN) (F9:FV):F0:=by
  refine bf ["told","words","name","rest","key"] n λf aK A aJ s H vs Q E hr nd hu h=>?_
  obtain ⟨d,p,T0,ws,rfl,hT,vj,hW,ok,bQ,kk⟩:=h;refine ⟨_,(aB (bj 2 nd (aD F4 hr (ai (bL K (pv 1) aH))))
   (aB (aX (bz cF (pv 2) dY) (aC (aF (aR T.ace))) aZ)
   (aB (bj 3 nd (aD F9 hr (au (pv 2) (ai (uj (uS (K:=K)) (pv 1) (ph aH) Ea)))))
   (aB (aX (bz cF (bJ K T.bG (pv 3)) aH) (aC (aF (aR T.acf))) aZ)
   (aB (bj 4 nd (lY (au (pv 2) (ai (bL K (pv 3) aH)))))
   (aB (aX (WJ (M6 hu (pv 4) (pv 0))) (aC (aF (aR T.acg))) aZ)
   (aB (M7 hu (pv 0) (pv 4) (uj (uS (K:=K)) (pv 3) (ph aH) Ea) rfl)
   (aC (aF (aR T.Bn)))))))))),?_⟩
  obtain ⟨as,hP,hR⟩:=hW;obtain ⟨w0,wr,rfl⟩:∃a b,ws=a::b:=by
   cases ws with
   |nil=>exact absurd rfl bQ
   |cons a b=>exact ⟨a,b,rfl⟩
  obtain ⟨a0,i0,h0⟩:=nW (i:=0) hR rfl;obtain ⟨ar,rfl,r9⟩:∃ar,as=a0::ar/\bX H ar (wr.map nI):=by
   cases hR with
   |cons e1 r1=>rename_i b0 br;have e3:b0=a0:=xX i0;subst e3;exact ⟨br,rfl,r1⟩
  have two:(2:Nat)<=sizeLine:=by decide
  have okr:mq wr:=⟨by have:=ok.1;simp only[yu]at this;omega,λw hw=>ok.2 w (yU _ hw)⟩;have kE:∀(e:Nat),dS T0 (w0::wr)= .error e->∀H',ic d H H'->d8 H' d T0->Q (.int e) H':=λe h H' b z=>by have:=kk H' b;unfold pQ vh at this;rw[h]at this;exact this z
  have kO:∀(T':aQ),dS T0 (w0::wr)= .ok T'->∀H',ic d H H'->d8 H' d T'->Q (.int 0) H':=λT' h H' b z=>by have:=kk H' b;unfold pQ vh at this;rw[h]at this;exact this z
  refine ⟨_,rfl,p,_,0,.ref a0,rfl,rfl,ag.of hP,kb i0,a0,w0,rfl,h0,λH1 s1=>⟨_,rfl,rfl,_,rfl,?_⟩⟩;cases hk:jc w0 with
  |none=>exact aI (λ_a=>kE 1 (by simp[dS,hk]) H1 (Mb.aq.d9 s1) (hT.same s1)) (λz=>absurd z ZE)
  |some k=>
   show if decide (V.str (cI k)=V.str "")=true then _ else _;rw[ad0];refine j6 ⟨_,rfl,_,rfl,1,rfl,p,_,rfl,ag.of (s1 _ _ hP),λq hq=>⟨k,q,wr,rfl,⟨ar,?_,r9.same (aU s1 (s1.free hq))⟩,okr,λH3 r xs r6 hr nY hv=>?_⟩⟩
   ·rw[ao,FT,←yK];rfl
   have s3:aq H H3:=(aU s1 (s1.free hq)).trans r6;refine ⟨_,rfl,r,_,rfl,.inl (ag.of nY),rfl,_,rfl,?_⟩;cases gV:jO k wr with
   |none=>rw[gV]at hv;have hv:xs= []:=hv;subst hv;exact aI (λ_a=>kE 2 (by simp[dS,hk,gV]) H3 (Mb.aq.d9 s3) (hT.same s3)) (λz=>absurd z ZE)
   |some nv=>
    obtain ⟨n,v⟩:=nv;rw[gV]at hv;obtain ⟨xr,rfl⟩:=ad1 (k:=k) hv;have hz:decide (V.int (((V.int n::xr).length:Nat):Int)=V.int 0)=false:=by
     refine Zq λz=>?_
     have z:=V.int.inj z;simp only[yu]at z;omega
    rw[hz];refine j6 ⟨_,rfl,_,rfl,r,_,0,.int n,rfl,rfl,ag.of nY,ck (j:=0) rfl,two,λt ht=>?_⟩;have s4:∀o,aq H (aj H3 t o):=λo=>aU s3 (s3.free ht)
    obtain ⟨af,hd,hE⟩:=hT;have Qj:∀o,(aj H3 t o) d=some (.dT af):=λo=>s4 o _ _ hd
    refine ⟨_,rfl,_,rfl,d,_,rfl,jy.t (k:=fA (k,n)) (Qj _) ao,_,rfl,?_⟩;rw[Qi hE];cases hh:has T0 (k,n) with
    |true=>exact iY (kE 3 (by simp[dS,hk,gV,hh]) _ (Mb.aq.d9 (s4 _)) ⟨af,Qj _,Paired.mono (λe kv z=>z.same (s4 _)) hE⟩)
    |false=>
     refine j6 ⟨_,rfl,1,rfl,r,_,rfl,ag.of (bU ht _ _ nY),λu hu=>?_⟩;obtain ⟨n1,n2⟩:=bK hu;have s5:∀o o',aq H (aj (aj H3 t o) u o'):=λo o'=>aU (s4 o) (s3.free n2)
     refine ⟨_,rfl,_,rfl,d,_,rfl,rA.t (k:=fA (k,n)) (s5 _ _ _ _ hd) (by rw[aA (xR n1),ao];rfl) ?_,?_⟩
     ·rw[←Paired.length hE];exact xG vj ZE
     have Ga:cn af (fA (k,n))=none:=by
      have:=Qi hE (k,n);rw[hh]at this;cases q:cn af (fA (k,n)) with
      |none=>rfl
      |some z=>rw[q]at this;cases this
     have d9:∀o o' o2,ic d H (aj (aj (aj H3 t o) u o') d o2):=λo o' o2 b ob e nb=>by rw[aA nb];exact s5 _ _ _ _ e
     have nl:∀xs,H d≠some (.lst xs):=λxs z=>by rw[hd]at z;cases z
     have ud:u≠d:=λz=>by have:=s3 _ _ hd;rw[←z,n2]at this;cases this
     refine kO (T0++ [((k,n),v)]) (by simp[dS,hk,gV,hh]) _ (d9 _ _ _) ⟨_,by rw[ao,ZY _ Ga],?_⟩;refine Paired.snoc (Paired.mono (λe kv z=>z.d9 (d9 _ _ _) nl) hE) ⟨rfl,u,rfl,?_⟩;rw[FT];cases v with
     |bb l=>have hv:V.int n::xr=vi (nI (n::l)):=hv;show aj _ d _ u=some (.lst (vi (nI l)));rw[aA ud,ao,hv];rfl
     |cE ts=>
      obtain ⟨lp,e2,eS⟩:=hv;refine ⟨lp,?_,?_⟩
      ·rw[aA ud,ao,e2];rfl
      ·have s35:∀o o',aq H3 (aj (aj H3 t o) u o'):=λo o'=>aU (bU ht) n2
       refine bX.d9 (d:=d) (eS.same (s35 _ _)) (λb ob e nb=>by rw[aA nb];exact e) λys z=>?_
       rw[s5 _ _ _ _ hd]at z;cases z
noncomputable def nZ (t f l:V):List (Str×V):=cT "line" l (cT "fault" f (cT "told" t []))
noncomputable def BA (C:Addr):Sp:=λvs H Q _a=>∃(p dx:Addr) (t f l:V),vs= [.ref p,t,f,l]/\H p=some (.ins C dx [])/\∀H':Hp,H' p=some (.ins C dx (nZ t f l))->(∀b o,H b=some o->b≠p->H' b=some o)->Q .bT H'
theorem Qk:jq ["self","told","fault","line"] ["self","told","fault","line"] (df Fn):=⟨rfl,rfl,rfl,by decide +kernel,rfl,by decide +kernel,by decide +kernel⟩
noncomputable abbrev Ql:Prop:=hX P w K mg base 1 "Reading" fY ["self","told","fault","line"] (BA fY)
theorem ad5 {f C:Addr}{fd:FuncData}(F:gv K "__init__" "Reading.__init__" Fn f fd) (T:Txt K mg) (L:rP K mg C) (M:Mk K C f):hX P w K mg base 1 "Reading" C ["self","told","fault","line"] (BA C):=by
 refine uY F L.mg M Qk (λ_a _a _a _a _a _a us hl=>match us,hl with| [_,_,_,_],_=>rfl) (λvs H Q E h=>?_) (λaK A aJ s H vs Q E hr h=>?_)
 ·obtain ⟨p,dx,t,f',l,rfl,_⟩:=h;rfl
 ·obtain ⟨p,dx,t,f',l,rfl,hp,kk⟩:=h;have nd:=Qk.nd;have hu:=pE hr;refine ⟨_,(aB (eP (pv 0) (pv 1) rfl)
   (aB (eP (pv 0) (pv 2) rfl)
   (aC (eP (pv 0) (pv 3) rfl)))),?_⟩
  refine ⟨_,rfl,_,rfl,p,C,dx,[],rfl,hp,L.cl,L.d7,by decide,?_⟩;refine ⟨_,rfl,_,rfl,p,C,dx,_,rfl,ao,L.cl,L.FA,(by show 1<1000;decide),?_⟩;refine ⟨_,rfl,_,rfl,p,C,dx,_,rfl,ao,L.cl,L.P6,(by show 2<1000;decide),?_⟩;exact kk _ ao λb o e nb=>by rw[aA nb,aA nb,aA nb];exact e
end
section
set_option tactic.hygienic true in
theorem ad6 {T T':aQ}{ws:List Bytes}(h:dS T ws= .ok T'):T'.length<=T.length+1:=by
 unfold dS at h;split at h
 ·cases h;omega
 ·rename_i w r;cases e1:jc w with
  |none=>rw[e1]at h;cases h
  |some k=>
   rw[e1]at h;simp only at h;cases e2:jO k r with
   |none=>rw[e2]at h;cases h
   |some nv=>
    obtain ⟨n,v⟩:=nv;rw[e2]at h;simp only at h;split at h
    ·cases h
    ·cases h;rw[yt,yE];omega
set_option tactic.hygienic true in
theorem Qm (m:Nat) (b:Bytes):(Vbdbag.cut m b).length<=b.length+1:=by
 induction b with
 |nil=>simp[Vbdbag.cut]
 |cons c r ih=>
  rw[Vbdbag.cut];split
  ·simp only[yu];omega
  ·split
   ·simp
   ·rename_i x l e;rw[e]at ih;simp only[yu]at ih⊢;omega
set_option tactic.hygienic true in
theorem Gb (m:Nat):∀(b w:Bytes),w∈Vbdbag.cut m b->w.length<=b.length
 | [],w,h=>by simp[Vbdbag.cut]at h;simp[h]
 |c::r,w,h=>by
  have ih:=Gb m r;rw[Vbdbag.cut]at h;split at h
  ·rcases yT.mp h with rfl|h
   ·simp
   ·have:=ih w h;simp only[yu];omega
  ·split at h
   ·have e:=List.mem_singleton.mp h;subst e;simp
   ·rename_i x l e;rcases yT.mp h with rfl|h
    ·have:=ih x (by rw[e];exact yV);simp only[yu];omega
    ·have:=ih w (by rw[e];exact yU _ h);simp only[yu];omega
theorem ad7 (b:Bytes) (h:b.length<=10000):mq (Vbdbag.words b):=by
 have h1:=Qm 32 b;refine ⟨?_,λw hw=>?_⟩
 ·have h2:(Vbdbag.words b).length<=(Vbdbag.cut 32 b).length:=yz _ _;omega
 ·have h2:=Gb 32 b w (List.mem_filter.mp hw).1;omega
theorem n8 {α β:Type}{F:α->β->Prop}:∀{l₁:List α}{l₂:List β}{i:Nat}{b:β},Paired F l₁ l₂->l₂[i]? =some b->∃a,l₁[i]? =some a/\F a b
 |_,_,i,b,.nil,h=>by simp at h
 |_,_,0,b,.cons e r,h=>by have z:=xX h;subst z;exact ⟨_,rfl,e⟩
 |_,_,i+1,b,.cons e r,h=>by obtain ⟨a,ha,hf⟩:=n8 (i:=i) r (by simpa using h);exact ⟨a,by simpa using ha,hf⟩
noncomputable def fZ (t:Bytes):Nat×Nat×aQ:=match gb t with
 | .error e=>(e.1,e.2,[])
 | .ok T=>(0,0,T)
noncomputable def ad8 (K:PySem.W.Frag) (C:Addr):Sp:=λvs H Q _a=>∃(a:Addr) (t:Bytes),vs= [.ref a]/\ag K H a (vi (nI t))/\t.length<=1500/\
 ∀(H':Hp) (p dx d:Addr),aq H H'->H p=none->H d=none->H' p=some (.ins C dx (nZ (.ref d) (.int (fZ t).1) (.int (fZ t).2.1)))->d8 H' d (fZ t).2.2->Q (.ref p) H'
set_option tactic.hygienic true in
theorem Qn {T:aQ}{ws:List Bytes}{e:Nat}(h:dS T ws= .error e):e≠0:=by
 unfold dS at h;split at h
 ·cases h
 ·rename_i w r;cases e1:jc w with
  |none=>rw[e1]at h;cases h;decide
  |some k=>
   rw[e1]at h;simp only at h;cases e2:jO k r with
   |none=>rw[e2]at h;cases h;decide
   |some nv=>
    obtain ⟨n,v⟩:=nv;rw[e2]at h;simp only at h;split at h
    ·cases h;decide
    ·cases h
theorem Qo (n:Nat) (l:Bytes) (r:List Bytes) (T:aQ):fi n (l::r) T=match dS T (Vbdbag.words l) with| .error e=> .error (e,n)| .ok T'=>fi (n+1) r T':=rfl
noncomputable abbrev Gd:Prop:=a7 P w K mg base 7 "read_rules" ["text"] (ad8 K fY)
theorem ad9 (n:a9 K mg "read_rules" Ou) (T:Txt K mg) (gx:rP K mg fY) (Ge:FC) (vk:Ql) (Gf:FD) (Gg:F0) (cG:ia):Gd:=by
  refine bf ["text","told","line","signs","words","fault","key"] n λf aK A aJ s H vs Q E hr nd hu h=>?_
  obtain ⟨a,t,rfl,ha,hl,kk⟩:=h;refine ⟨_,(aB (bj 1 nd uG)
   (aB (bj 2 nd aH)
   (aB (eW PassesOwn.never rfl (dZ (aD Ge hr (ai (pv 0)))) (cH 3 nd) (aB (aaY 2 nd aH LO)
    (aB (bj 4 nd (aD Gf hr (ai (pv 3))))
    (aC (aX (bz fF (bJ K T.bG (pv 4)) aH) (aB (bj 5 nd (aD Gg hr (au (pv 1) (ai (pv 4)))))
     (aC (aX (bz nj (pv 5) (aR T.Bn)) (aC (aF (u5 vk hr (au uG (au (pv 5) (ai (pv 2))))))) aZ))) aZ)))))
   (aB (aX (cN (fw (aa8 (K:=K)) (by rfl) T.ab3 aa1 (ai (M8 (gR nd (AW (pv 1)) (own:= [("key",6)]) (by rfl) (λ_a _a _a _a _a=>cH 6 nd) (λ_a _a _a _a _a=>jv) (λ_a _a _a _a _a=>(Fl fF (mn K (pv 6) aH) (aD cG hr (au (pv 1) (ai dY)))))))))) (aC (aF (u5 vk hr (au uG (au (aR T.ach) (ai (bx eN (pv 2) aH))))))) aZ)
   (aC (aF (u5 vk hr (au (pv 1) (au (aR T.Bn) (ai aH)))))))))),?_⟩
  intro d hd;have s0:aq H (aj H d (.dT [])):=bU hd;have hls:(Vbdbag.cut 10 t).length<=1501:=by have:=Qm 10 t;omega
  generalize vm:Vbdbag.cut 10 t=ls at*;have ret:∀{H4:Hp}{x dx d2:Addr}{c n:Nat}{T:aQ},fZ t=(c,n,T)->aq H H4->H4 x=none->H4 dx=none->dx≠x->d8 H4 d2 T->H d2=none->(∀xs,H4 d2≠some (.lst xs))->
    BA fY (.ref x:: [.ref d2,.int c,.int n]++ []) (aj (aj H4 dx (.own x)) x (.ins fY dx [])) (λv H2=>v= .bT/\Q (.ref x) H2) E0:=by
   intro H4 x dx d2 c n T hc s4 hx fB bQ hT h2 De;refine ⟨x,dx,.ref d2,.int c,.int n,rfl,ao,λH5 h5 b5=>⟨rfl,?_⟩⟩;have gW:aq H4 H5:=λb o e=>b5 b o (by rw[aA (b8 e hx),aA (b8 e fB)];exact e) (b8 e hx)
   have q:=kk H5 x dx d2 (s4.trans gW) (s4.free hx) h2;rw[hc]at q;exact q h5 (hT.same gW)
  have Qp:∀{H3:Hp}{c n:Nat}{σ:L2.St}{i j:Nat},fZ t=(c,n,[])->aq H H3->∀d2,H3 d2=none->∀x dx,(aj H3 d2 (.dT [])) x=none->(aj H3 d2 (.dT [])) dx=none->dx≠x->
    BA fY (.ref x:: [.ref d2,.int c,.int n]++ []) (aj (aj (aj H3 d2 (.dT [])) dx (.own x)) x (.ins fY dx [])) (λv H2=>v= .bT/\Q (.ref x) H2) E0:=by
   intro H3 c n σ i j hc s3 d2 l9 x dx hx fB bQ;exact ret hc (aU s3 (s3.free l9)) hx fB bQ ⟨[],ao,.nil⟩ (s3.free l9) (λxs z=>by rw[ao]at z;cases z)
  refine ⟨_,rfl,a,nI t,rfl,s0.seq ha,by rw[bR];omega,λH1 q as BB hq hQ hR=>?_⟩;have s1:aq H H1:=s0.trans BB;have ec:cR 10 (nI t)=ls.map nI:=by rw[←vm];exact CY 10 t
  rw[ec]at hR;have dP:=mv hR;have qd:q≠d:=λz=>by have:=BB d _ ao;rw[←z,hQ]at this;cases this
  refine ⟨q,rfl,⟨_,ag.of hQ⟩,jj (K:=K) (a:=q) (xs:=as.map V.ref) (λi σ H'=>∃(v3 v4 v5:Option V) (T:aQ),σ= [some (.ref a),some (.ref d),some (.int (i:Nat)),v3,v4,v5,none]/\ic d H1 H'/\aq H H'/\d8 H' d T/\T.length<=i/\cv T/\fi 1 ls []=fi (1+i) (ls.drop i) T)
   ⟨none,none,none,[],rfl,λ_a _a e _a=>e,s1,⟨[],BB _ _ ao,.nil⟩,xC _,tK,by rw[zM]⟩ (λi σ H' _a ⟨_,_,_,_,_,s,_⟩=>ag.of (s _ _ hQ qd)) ?_ ?_⟩
  ·rintro i x σ H' hx ⟨v3,v4,v5,T0,rfl,bt,sH,hT,vj,W,dy⟩;obtain ⟨b,hb,rfl⟩:=cD hx;obtain ⟨l,h1,h2⟩:=hR.get hb;obtain ⟨ln,Gh,rfl⟩:=cD h1;have hi:=(List.getElem?_eq_some_iff.mp Gh).1;have bd:b≠d:=λz=>by have:=BB d _ ao;rw[←z,h2]at this;cases this
   have g9:=bt _ _ h2 bd;have lnl:ln.length<=1500:=by have:=Gb 10 t ln (by rw[vm];exact yY Gh);omega
   rw[E2 Gh,Qo]at dy;refine ⟨_,rfl,_,_,rfl,rfl,_,rfl,b,nI ln,rfl,ag.of g9,by rw[bR];omega,λH2 p2 lp s2 nN pR eS=>?_⟩;rw[Ue]at eS;have kY:=mv eS;refine ⟨_,rfl,p2,_,rfl,.inl (ag.of pR),_,_,rfl,rfl,_,rfl,aI (λe=>?_) (λe=>?_)⟩
   ·have bQ:Vbdbag.words ln≠ []:=λz=>by rw[z]at kY;have kY:lp.length=0:=kY;simp only[yA,kY]at e;exact absurd e ZE
    refine ⟨_,rfl,_,rfl,d,p2,T0,Vbdbag.words ln,rfl,hT.same s2,by omega,⟨lp,pR,eS⟩,ad7 ln ZD,bQ,λH3 b3 Qq=>?_⟩;have Qr:aq H H3:=λc o ec=>b3 c o (s2 c o (sH c o ec)) (b8 ec hd)
    have bt3:ic d H1 H3:=λc o ec nc=>b3 c o (s2 c o (bt c o ec nc)) nc
    refine ⟨_,rfl,rfl,_,rfl,?_⟩;cases n9:dS T0 (Vbdbag.words ln) with
    |error er=>
     rw[n9]at dy;have hc:fZ t=(er,1+i,[]):=by unfold fZ gb;rw[vm,dy]
     have e1:pQ T0 (Vbdbag.words ln)=er:=by unfold pQ;rw[n9]
     rw[e1];refine aI (λ_a=>?_) (λz=>absurd (Qn n9) (by simpa using z));refine λd2 l9=>⟨_,rfl,_,rfl,λx dx hx fB bQ=>?_⟩
     have e2:((i:Nat):Int)+1=((1+i:Nat):Int):=by omega
     have:=Qp (σ:= []) (i:=0) (j:=0) hc Qr d2 l9 x dx hx fB bQ;rw[←e2]at this;exact this
    |ok T'=>
     rw[n9]at dy;have e1:pQ T0 (Vbdbag.words ln)=0:=by unfold pQ;rw[n9]
     have e3:vh T0 (Vbdbag.words ln)=T':=by unfold vh;rw[n9]
     rw[e1];rw[e3]at Qq;refine aI (λz=>absurd z ZE) (λ_a=>?_);refine ⟨some (.ref b),some (.ref p2),some (.int 0),T',?_,bt3,Qr,Qq,by have:=ad6 n9;omega,CK W n9,?_⟩
     ·show [some (V.ref a),some (V.ref d),some (V.int ((i:Nat)+1)),some (V.ref b),some (V.ref p2),some (V.int 0),none]=_;rfl
     ·rw[dy,xu]
   ·have hw:Vbdbag.words ln= []:=by
     cases q:Vbdbag.words ln with
     |nil=>rfl
     |cons w0 wr=>rw[q]at kY;simp only[yA,kY,yu,Zr]at e;omega
    rw[hw]at dy;refine ⟨some (.ref b),some (.ref p2),v5,T0,?_,λc o ec nc=>s2 c o (bt c o ec nc),sH.trans s2,hT.same s2,by omega,W,?_⟩
    ·show [some (V.ref a),some (V.ref d),some (V.int ((i:Nat)+1)),some (V.ref b),some (V.ref p2),v5,none]=_;rfl
    ·rw[dy];show fi (1+i+1) _ T0=_;rw[xu]
  ·rintro σ H2 ⟨v3,v4,v5,T0,rfl,bt,sH,hT,vj,W,dy⟩;rw[yA,dP,zL]at dy;have dy:fi 1 ls []= .ok T0:=dy;obtain ⟨af,lq,hE⟩:=hT;have lr:=Paired.length hE;rw[yA]at vj;refine ⟨d,.dT af,lq,True.intro,λod=>⟨_,rfl,d,od,rfl,.inr ⟨af,ao,λD hD=>?_⟩⟩⟩;obtain ⟨n1,n2⟩:=bK hD;have sf:ka (aj H2 d (.bI od (.dT af))) d T0:=⟨af,.inr ⟨od,ao⟩,Paired.mono (λe kv z=>z.d9 (λb o e nb=>by rw[aA nb];exact e) (λxs z=>by rw[lq]at z;cases z)) hE⟩;refine NU (d:=d) (o:=od) (af:=af) (λi H'=>aq (aj H2 d (.bI od (.dT af))) H'/\H' D=some (.lst (((T0.take i).map λe=>decide (aG T0 .rounds<e.1.2)).map V.bl)))
    ⟨bU hD,ao⟩ (λi H' h=>h.1 _ _ ao) ?_ ?_
   ·rintro i k v qq H' hk hqq ⟨s3,BC⟩;obtain ⟨e,he,hEe⟩:=n8 hE hk;obtain ⟨ie,_⟩:=hEe;have ie:k=fA e.1:=ie;subst ie;have hi:=(List.getElem?_eq_some_iff.mp he).1;refine ⟨rfl,?_⟩;refine ⟨_,rfl,qq,_,1,.int e.1.2,rfl,rfl,cu.of hqq,ck (j:=1) rfl,_,rfl,d,.rounds,T0,rfl,rfl,sf.same s3,W,λH4 s4=>⟨_,_,rfl,rfl,_,s4 _ _ BC,?_,aU (s3.trans s4) hD,?_⟩⟩
    ·rw[yA,yA,yF];exact dv ZD
    ·rw[ao,da he,yH,yH];have e5:decide (((aG T0 .rounds:Nat):Int)<((e.1.2:Nat):Int))=decide (aG T0 .rounds<e.1.2):=by rw[Zp];omega
     show some (HO.lst (_++ [V.bl (decide (((aG T0 .rounds:Nat):Int)<((e.1.2:Nat):Int)))]))=_;rw[e5];rfl
   ·rintro H' ⟨s3,BC⟩;rw[←lr,xm]at BC;refine ⟨s3 _ _ ao,D,T0.map λe=>decide (aG T0 .rounds<e.1.2),rfl,ag.of (by rw[aA n1];exact BC),_,rfl,?_⟩;have ea:(T0.map λe=>decide (aG T0 .rounds<e.1.2)).any id=T0.any λe=>decide (aG T0 .rounds<e.1.2):=by rw[zC];rfl
    rw[ea];have s5:aq H2 (aj H' d (.dT af)):=λb o e=>by
     by_cases hb:b=d
     ·rw[hb,lq]at e;cases e;rw[hb,ao]
     ·rw[aA hb];exact s3 _ _ (by rw[aA hb];exact e)
    have Qs:aq H (aj H' d (.dT af)):=sH.trans s5;refine aI (λe=>?_) (λe=>?_)
    ·have hc:fZ t=(4,ls.length+1,[]):=by unfold fZ gb;rw[vm,dy];simp only[e,Zy]
     refine λd2 l9=>⟨_,rfl,_,_,rfl,rfl,λx dx hx fB bQ=>?_⟩
     have e2:(((as.map V.ref).length:Nat):Int)+1=((ls.length+1:Nat):Int):=by rw[yA,dP];omega
     have:=Qp (σ:= []) (i:=0) (j:=0) hc Qs d2 l9 x dx hx fB bQ;rw[←e2]at this;exact this
    ·have hc:fZ t=(0,0,T0):=by unfold fZ gb;rw[vm,dy];simp only[e,zh,Zv]
     refine ⟨_,rfl,λx dx hx fB bQ=>?_⟩;exact ret hc Qs hx fB bQ ⟨af,ao,Paired.mono (λe kv z=>z.same s5) hE⟩ hd (λxs z=>by rw[ao]at z;cases z)
end
section
noncomputable def aec (K:PySem.W.Frag):Sp:=λvs H Q _a=>∃(k:Kd) (p:Addr) (v:dH),vs= [.str (cI k),.ref p]/\jF H p v/\((k= .topics/\∃ts,v= .cE ts)\/(k≠ .topics/\∃l,v= .bb l/\l.length<=10/\∀n∈l,n<10^500))/\
 ∀(H':Hp) (q:Addr) (as:List Addr),aq H H'->H' q=some (.lst (as.map V.ref))->bX H' as ((dz v).map nI)->Q (.ref q) H'
noncomputable abbrev Gi:Prop:=a7 P w K mg base 3 "shown_values" ["name","values"] (aec K)
theorem aed (n:a9 K mg "shown_values" Ov) (T:Txt K mg) (lu:vd):Gi:=by
  refine bf ["name","values","value"] n λf aK A aJ s H vs Q E hr nd hu h=>?_
  obtain ⟨k,p,v,rfl,hv,hc,kk⟩:=h;refine ⟨_,(aB (aX (bz cF (pv 0) dY) (aC (aF (pv 1))) aZ)
   (aC (aF (gR nd (dZ (pv 1)) (own:= [("value",2)]) (by rfl) (λ_a _a _a _a _a=>cH 2 nd) (λ_a _a _a _a _a=>jv) (λ_a _a _a _a _a=>(aD lu hr (ai (pv 2)))))))),?_⟩
  have e1:(V.str "TOPICS":V)=V.str (cI .topics):=rfl;refine ⟨_,rfl,rfl,_,rfl,?_⟩;rw[e1,vg];rcases hc with ⟨rfl,ts,rfl⟩|⟨hk,l,rfl,hl,hn⟩
  ·obtain ⟨as,h1,h2⟩:=hv;exact iY ⟨_,rfl,kk H p as (aq.refl H) h1 h2⟩
  ·rw[Zq hk];have hv:H p=some (.lst (vi (nI l))):=hv;refine j6 ⟨_,rfl,p,rfl,⟨_,ag.of hv⟩,λD hD=>jx (K:=K) (a:=p) (xs:=vi (nI l)) (λi H'=>∃as,aq H H'/\H' D=some (.lst (as.map V.ref))/\bX H' as (((l.take i).map Vbdbag.decimal).map nI)/\D∉as)
    ⟨[],bU hD,ao,.nil,by simp⟩ (λi H' _a ⟨_,s,_⟩=>ag.of (s _ _ hv)) ?_ ?_⟩
   ·rintro i x H' hx ⟨as,s,hA,hR,nD⟩;obtain ⟨z,hz,rfl⟩:=cD hx;obtain ⟨n,j2,rfl⟩:=cD hz;have dP:=hR.length;have hi:=(List.getElem?_eq_some_iff.mp j2).1;refine ⟨rfl,?_⟩;refine ⟨_,rfl,n,rfl,hn n (yY j2),λH4 q4 s4 sg h4=>⟨_,s4 _ _ hA,?_,as++ [q4],aU (s.trans s4) hD,?_,?_,?_⟩⟩
    ·simp only[yA,yF]at dP⊢;exact dv ZD
    ·rw[ao,yH];rfl
    ·rw[da j2,yH,yH];refine ((hR.same s4).aj nD).snoc ?_;rw[aA (λz=>by rw[z,hA]at sg;cases sg)];exact h4
    ·intro z;rcases List.mem_append.mp z with z|z
     ·exact nD z
     ·rw[List.mem_singleton.mp z]at hA;rw[hA]at sg;cases sg
   ·rintro H' ⟨as,s,hA,hR,_⟩;have e:(vi (nI l)).length=l.length:=by rw[yA,bR]
    rw[e,xm]at hR;exact kk H' D as s hA hR
noncomputable def jk:List Kd:= [.rounds,.offer,.gap,.unlike,.size,.seed]
noncomputable def jG:List Kd:= [.levels,.topics,.release]
noncomputable def BD (T:aQ) (k:Kd):Bytes:=Vbdbag.joined 32 [k.bytes,Vbdbag.decimal (aG T k)]
noncomputable def BE (e:fM):Bytes:=Vbdbag.joined 32 (e.1.1.bytes::Vbdbag.decimal e.1.2::dz e.2)
noncomputable def ed (T:aQ) (k:Kd):List Bytes:=(T.filter λe=>e.1.1==k).map BE
theorem Qt (T:aQ):iw T=jk.map (BD T)++jG.flatMap (ed T):=by
 unfold iw;congr 1;unfold jG ed;congr 1;funext k;refine yI λe he=>?_
 have h:=(List.mem_filter.mp he).2;have h:e.1.1=k:=eq_of_beq h;unfold BE;rw[h]
noncomputable def Gj (T:aQ):Prop:=T.length<=2000/\∀e∈T,jl (dz e.2)<=5000
theorem Qu:∀l:List Bytes,l.length<=jl l
 | []=>xC _
 |a::r=>by have:=Qu r;simp only[yu,jl];omega
theorem si (k:Kd):k.bytes.length<=8/\k.bytes≠ []:=by cases k<;>exact ⟨by decide,by decide⟩
theorem vn (n:Nat) (h:n<=99999):n<10^500/\(Vbdbag.decimal n).length<=5:=⟨xG h (by decide +kernel),tO ZE ZD⟩
theorem Qv:pI.map (·.1)=jk.map cI:=by decide +kernel
theorem aee:pJ=jG.map λk=>V.str (cI k):=by decide +kernel
theorem Qw {e:fM}(h:qr e):((e.1.1= .topics/\∃ts,e.2= .cE ts)\/(e.1.1≠ .topics/\∃l,e.2= .bb l/\l.length<=10/\∀n∈l,n<10^500))/\e.1.2<=9/\∀w∈dz e.2,w≠ []:=by
 obtain ⟨⟨k,n⟩,v⟩:=e;cases v with
 |cE ts=>obtain ⟨rfl,_,h2,_,h4⟩:=h;refine ⟨.inl ⟨rfl,ts,rfl⟩,h2,λw hw=>?_⟩;have:=zx.mp h4 w hw;rintro rfl;cases this
 |bb l=>
  have bQ:∀w∈dz (.bb l),w≠ []:=λw hw=>by obtain ⟨m,_,rfl⟩:=List.mem_map.mp hw;exact C0 m
  have big:∀m:Nat,m<=99999->m<10^500:=λm hm=>(vn m hm).1
  cases k with
  |topics=>exact h.elim
  |levels=>obtain ⟨_,h2,a,b,rfl,_,_,h5⟩:=h;refine ⟨.inr ⟨(by show Kd.levels≠ .topics;decide),_,rfl,by simp,λm hm=>big m ?_⟩,h2,bQ⟩;simp at hm;omega
  |release=>obtain ⟨_,h2,a,rfl,h5⟩:=h;refine ⟨.inr ⟨(by show Kd.release≠ .topics;decide),_,rfl,by simp,λm hm=>big m ?_⟩,h2,bQ⟩;simp at hm;omega
  |rounds|offer|gap|unlike|size|seed=>
   obtain ⟨rfl,x,rfl,_,h4,_⟩:=h;refine ⟨.inr ⟨(by intro z;cases z),_,rfl,by simp,λm hm=>big m ?_⟩,xQ _,bQ⟩;have e:m=x:=by simpa using hm
   subst e;exact xE h4 ZE
theorem Qx {H:Hp}:∀{T:aQ}{af:List (List bp×V)},Paired (i4 H) T af->af.map (·.1)=(T.map λe=>e.1).map fA
 |_,_,.nil=>rfl
 |_,_,.cons h r=>by rw[yJ,yJ,yJ,h.1,Qx r]
theorem vo {κ:Type} [DecidableEq κ]:∀{af:List (κ×V)}{i:Nat}{k:κ}{v:V},(af.map (·.1)).Nodup->af[i]? =some (k,v)->cn af k=some v
 | [],i,k,v,_,h=>by simp at h
 |kv::af,0,k,v,_,h=>by have e:=xX h;subst e;unfold cn;rw[zX,Zs rfl];rfl
 |kv::af,i+1,k,v,hn,h=>by
  have hn:(kv.1::af.map (·.1)).Nodup:=hn;obtain ⟨h1,h2⟩:=xa.mp hn;have h:af[i]? =some (k,v):=by simpa using h
  have ne:¬kv.1=k:=λz=>h1 (by rw[z];exact List.mem_map.mpr ⟨(k,v),yY h,rfl⟩)
  have ih:=vo (i:=i) h2 h;unfold cn at ih⊢;rw[zX,Zq ne];exact ih
noncomputable def aef (K:PySem.W.Frag):Sp:=λvs H Q _a=>∃(d:Addr) (T:aQ),vs= [.ref d]/\d8 H d T/\cv T/\Gj T/\u9 H Q ((iw T).map nI)
noncomputable abbrev Gk:Prop:=a7 P w K mg base 4 "shown_lines" ["told"] (aef K)
theorem aeg (n:a9 K mg "shown_lines" Ow) (T:Txt K mg) (BF:FF) (lh:va) (lu:vd) (cG:ia) (Gm:Gi):Gk:=by
  refine bf ["told","lines","name","key"] n λf aK A aJ s H vs Q E hr nd hu h=>?_
  obtain ⟨d,T0,rfl,hT,W,sm,kk⟩:=h;obtain ⟨Qe,pN⟩:=T.Fz;obtain ⟨Bz,rY⟩:=T.P5;refine ⟨_,(aB (Be 1 nd (abo (K:=K) pN.2 (rF pN.1 rfl)) (own:= [("name",2)]) (by rfl) (λ_a _a _a _a _a=>cH 2 nd) (λ_a _a _a _a _a=>jv) (λ_a _a _a _a _a=>(aD BF hr (ai (aW (au (aD lh hr (ai (pv 2))) (ai (aD lu hr (ai (aD cG hr (au (pv 0) (ai (pv 2)))))))))))))
   (aB (eW PassesOwn.never rfl (W8 (rF rY.1 rfl)) (cH 2 nd) (aC (EJ (eW PassesOwn.never rfl (AW (pv 0)) (cH 3 nd) (aC (aX (bz cF (mn K (pv 3) aH) (pv 2)) (aC (fu (iH K (pv 1) (aD BF hr (ai (bx fV (aW (au (aD lh hr (ai (pv 2))) (ai (aD lu hr (ai (mn K (pv 3) aH)))))) (aD Gm hr (au (pv 2) (ai (EH hu (pv 0) (pv 3) (λ_a _a=>rfl))))))))))) aZ))))))
   (aC (aF (pv 1))))),?_⟩
  have two:(2:Nat)<=sizeLine:=by decide
  rw[Qt]at kk;obtain ⟨af,lq,hE⟩:=hT;have hT:d8 H d T0:=⟨af,lq,hE⟩;refine ⟨rfl,λD hD=>abp (ks:=pI.map (·.1)) (λi H'=>∃as,aq H H'/\H' D=some (.lst (as.map V.ref))/\bX H' as (((jk.take i).map (BD T0)).map nI)/\D∉as) ⟨[],bU hD,ao,.nil,by simp⟩ ?_ ?_⟩
  ·rintro i ks H' Qy ⟨as,s,hA,hR,nD⟩;rw[Qv]at Qy;obtain ⟨k,hk,rfl⟩:=cD Qy;have dP:=hR.length;simp only[yA,yF]at dP;have MD:jk.length=6:=rfl;have sk:k.fL=true:=by have:=yY hk;simp only[jk,yT,xc,ZC]at this;rcases this with rfl|rfl|rfl|rfl|rfl|rfl<;>rfl
   have qD:=oI W k sk;have aeh:aG T0 k<=99999:=xE qD.2 (by cases k<;>first|decide|cases sk);obtain ⟨b1,b2⟩:=vn _ aeh;refine ⟨rfl,?_⟩;refine ⟨_,rfl,cI k,rfl,FL k,λH4 p4 s4 oe h4=>⟨_,rfl,_,rfl,d,k,T0,rfl,sk,(hT.r.same s).same s4,W,λH5 s5=>⟨aG T0 k,rfl,b1,λH6 p6 s6 hp6 h6=>⟨two,λl hl=>?_⟩⟩⟩⟩;rw[rW]at h4;have n4:p4≠l:=b8 (s6 _ _ (s5 _ _ h4)) hl;have n6:p6≠l:=b8 h6 hl;have pS:aq H' H6:=(s4.trans s5).trans s6;refine ⟨l,[p4,p6],[k.bytes,Vbdbag.decimal (aG T0 k)],rfl,ao,.cons (by rw[aA n4];exact s6 _ _ (s5 _ _ h4)) (.cons (by rw[aA n6];exact h6) .nil),?_,?_,λH7 p7 s7 hp7 h7=>?_⟩
   ·intro w hw;simp only[yT,xc,ZC]at hw;rcases hw with rfl|rfl
    ·exact (si k).2
    ·exact C0 _
   ·simp only[jl];have:=(si k).1;omega
   ·have Gn:aq H' H7:=(aU pS (pS.free hl)).trans s7;have np:H' p7=none:=(aU pS (pS.free hl)).free hp7;refine ⟨_,Gn _ _ hA,?_,as++ [p7],aU (s.trans Gn) hD,by rw[ao,yH];rfl,?_,?_⟩
    ·rw[yA];exact dv ZD
    ·rw[da hk,yH,yH];refine ((hR.same Gn).aj nD).snoc ?_;rw[aA (λz=>by rw[z,hA]at np;cases np)];exact h7
    ·intro z;rcases List.mem_append.mp z with z|z
     ·exact nD z
     ·rw[←List.mem_singleton.mp z,hA]at np;cases np
  ·rintro H1 ⟨Qz,s1,Gp,QA,nD0⟩;have e0:(pI.map (·.1)).length=jk.length:=by rw[Qv,yA]
   rw[e0,xm]at QA;generalize hB0:jk.map (BD T0)=B0 at*;have Gq:B0.length=6:=by rw[←hB0];rfl
   refine ⟨Bz,rfl,⟨_,rY.2 _⟩,Xf (K:=K) (a:=Bz) (xs:=pJ) (λj σ H'=>∃(v2 v3:Option V) (as:List Addr),σ= [some (.ref d),some (.ref D),v2,v3]/\aq H H'/\H' D=some (.lst (as.map V.ref))/\bX H' as ((B0++(jG.take j).flatMap (ed T0)).map nI)/\D∉as/\(B0++(jG.take j).flatMap (ed T0)).length<=6+j*2000)
    ⟨none,none,Qz,rfl,s1,Gp,by rw[xp];simpa using QA,nD0,by rw[xp];simp[Gq]⟩ (λj σ H' _a _a=>rY.2 _) ?_ ?_⟩
   ·rintro j x σ H' hx ⟨v2,v3,as,rfl,s,hA,hR,nD,hsz⟩;rw[aee]at hx;obtain ⟨k,hk,rfl⟩:=cD hx;have hj:j<3:=(List.getElem?_eq_some_iff.mp hk).1;have QB:=s _ _ lq;refine ⟨d,.dT af,QB,True.intro,λod=>⟨_,rfl,d,od,rfl,.inr ⟨af,ao,?_⟩⟩⟩;have dD:d≠D:=b8 lq hD;have nd1:d∉as:=λz=>by obtain ⟨l,_,e⟩:=hR.at z;rw[QB]at e;cases e
    have sf0:aq (aj H d (.bI od (.dT af))) (aj H' d (.bI od (.dT af))):=λb o e=>by
     by_cases hb:b=d
     ·rw[hb,ao]at e⊢;exact e
     ·rw[aA hb]at e⊢;exact s b o e
    have tf:ka (aj H d (.bI od (.dT af))) d T0:=⟨af,.inr ⟨od,ao⟩,Paired.mono (λe kv z=>z.d9 (λb o e nb=>by rw[aA nb];exact e) (λxs z=>by rw[lq]at z;cases z)) hE⟩;have hDf:aj H d (.bI od (.dT af)) D=none:=by rw[aA (xR dD)];exact hD
    refine NV (d:=d) (o:=od) (af:=af) (λi σ jH=>∃(v3:Option V) (as:List Addr),σ= [some (.ref d),some (.ref D),some (.str (cI k)),v3]/\aq (aj H d (.bI od (.dT af))) jH/\jH D=some (.lst (as.map V.ref))/\bX jH as ((B0++((jG.take j).flatMap (ed T0)++ed (T0.take i) k)).map nI)/\D∉as/\(B0++((jG.take j).flatMap (ed T0)++ed (T0.take i) k)).length<=6+j*2000+i)
     ⟨v3,as,rfl,sf0,by rw[aA (xR dD)];exact hA,?_,nD,?_⟩ (λi σ jH ⟨_,_,_,s2,_⟩=>s2 _ _ ao) ?_ ?_
    ·have e:ed (T0.take 0) k= []:=rfl;rw[e,zE];exact hR.aj nd1
    ·have e:ed (T0.take 0) k= []:=rfl;rw[e,zE];exact hsz
    ·rintro i kk2 v q σ jH fz hq ⟨v3',lp,rfl,s2,lx,eS,vp,Gr⟩;obtain ⟨e,he,ie,p,Gs,aeq⟩:=n8 hE fz;have ie:kk2=fA e.1:=ie;subst ie;have Gs:v= .ref p:=Gs;subst Gs;have hi:=(List.getElem?_eq_some_iff.mp he).1;have vj:=sm.1;obtain ⟨wv,w9,wne⟩:=Qw (W.dk e (yY he));have snoc:∀(hm:e.1.1=k),ed (T0.take (i+1)) k=ed (T0.take i) k++ [BE e]:=λhm=>by unfold ed;rw[da he,zS,yH];simp[zU,hm]
     have QC:∀(hm:¬e.1.1=k),ed (T0.take (i+1)) k=ed (T0.take i) k:=λhm=>by unfold ed;rw[da he,zS,yH];simp[zU,hm]
     refine ⟨_,rfl,q,_,0,.str (cI e.1.1),rfl,rfl,cu.of hq,ck (j:=0) rfl,_,rfl,rfl,_,rfl,?_⟩;rw[vg];refine aI (λh=>?_) (λh=>?_)
     ·have hm:=ZA h;subst hm;obtain ⟨b1,b2⟩:=vn e.1.2 ZD;refine ⟨_,rfl,.inl ⟨rfl,_,ag.of lx⟩,_,rfl,cI e.1.1,rfl,FL _,λH4 p4 s4 oe h4=>?_⟩;rw[rW]at h4;have q4:=s4 _ _ hq;refine ⟨_,rfl,q,_,1,.int e.1.2,rfl,rfl,cu.of q4,ck (j:=1) rfl,e.1.2,rfl,b1,λH5 p5 s5 hp5 h5=>⟨two,λl hl=>?_⟩⟩;have gW:aq jH H5:=s4.trans s5;have n4:p4≠l:=b8 (s5 _ _ h4) hl;have n5:p5≠l:=b8 h5 hl;have s6:aq jH (aj H5 l (.lst [.ref p4,.ref p5])):=aU gW (gW.free hl);have QD:=s2.trans s6;have dg:jy (aj H5 l (.lst [.ref p4,.ref p5])) d (.ref q) (some (.ref p)):=by
       refine .inr ⟨af,fA e.1,q,.inr ⟨od,QD _ _ ao⟩,rfl,s6 _ _ hq,?_⟩;have nk:(af.map (·.1)).Nodup:=by have e7:af.map (·.1)=(T0.map λe=>e.1).map fA:=Qx hE;rw[e7,xb,xh];exact W.once.imp λh z=>h (Qc z)
       exact (vo nk fz).symm
      have aes:jF (aj H5 l (.lst [.ref p4,.ref p5])) p e.2:=(aeq.d9 (λb o e nb=>by rw[aA nb];exact e) (λxs z=>by rw[lq]at z;cases z):jF (aj H d (.bI od (.dT af))) p e.2).same QD;refine ⟨_,rfl,_,rfl,_,rfl,d,_,rfl,dg,e.1.1,p,e.2,rfl,aes,wv,λH7 q7 Gu s7 h7 QE=>?_⟩;have l7:=mv QE;have hj2:=sm.2 e (yY he);have hlj:=Qu (dz e.2);refine ⟨l,q7,_,_,rfl,rfl,s7 _ _ ao,h7,?_,λr hr=>?_⟩
      ·rw[yA];exact eQ (by simp only[yu,yB];omega)
      have sr:aq H7 (aj H7 r (.lst ([.ref p4,.ref p5]++Gu.map V.ref))):=bU hr;have s8:aq jH (aj H7 r (.lst ([.ref p4,.ref p5]++Gu.map V.ref))):=(s6.trans s7).trans sr;refine ⟨r,p4::p5::Gu,e.1.1.bytes::Vbdbag.decimal e.1.2::dz e.2,rfl,ao,?_,?_,?_,λH9 p9 s9 hp9 h9=>?_⟩
      ·refine .cons (sr _ _ (s7 _ _ (by rw[aA n4];exact s5 _ _ h4))) (.cons (sr _ _ (s7 _ _ (by rw[aA n5];exact h5))) (QE.same sr))
      ·intro w hw;rcases yT.mp hw with rfl|hw
       ·exact (si _).2
       ·rcases yT.mp hw with rfl|hw
        ·exact C0 _
        ·exact wne w hw
      ·simp only[jl];have:=(si e.1.1).1;omega
      ·have Gv:aq jH H9:=s8.trans s9;have np:jH p9=none:=s8.free hp9;have am8:=mv eS;refine ⟨D,_,_,rfl,rfl,Gv _ _ lx,dv (by rw[yA];omega),some (.ref q),lp++ [p9],rfl,aU (s2.trans Gv) hDf,by rw[ao,yH];rfl,?_,?_,?_⟩
       ·rw[snoc rfl,←zD,←zD,yH];rw[←zD]at eS;refine ((eS.same Gv).aj vp).snoc ?_;rw[aA (λz=>by rw[z,lx]at np;cases np)];exact h9
       ·intro z;rcases List.mem_append.mp z with z|z
        ·exact vp z
        ·rw[←List.mem_singleton.mp z,lx]at np;cases np
       ·rw[snoc rfl];simp only[yt,yE]at Gr⊢;omega
     ·have hm:=Zz h;refine ⟨some (.ref q),lp,rfl,s2,lx,?_,vp,?_⟩
      ·rw[QC hm];exact eS
      ·rw[QC hm];omega
    ·rintro σ jH ⟨v3',lp,rfl,s2,lx,eS,vp,Gr⟩;have lr:=Paired.length hE;rw[←lr,xm]at eS Gr;have hf:=s2 _ _ ao;have nd2:d∉lp:=λz=>by obtain ⟨l,_,e⟩:=eS.at z;rw[hf]at e;cases e
     have sb:aq H (aj jH d (.dT af)):=λb o e=>by
      by_cases hb:b=d
      ·rw[hb,lq]at e;cases e;rw[hb,ao]
      ·rw[aA hb];exact s2 _ _ (by rw[aA hb];exact e)
     have ej:B0++(jG.take (j+1)).flatMap (ed T0)=B0++((jG.take j).flatMap (ed T0)++ed T0 k):=by rw[da hk,List.flatMap_append];simp
     refine ⟨hf,_,_,lp,rfl,sb,by rw[aA (xR dD)];exact lx,?_,vp,?_⟩
     ·rw[ej];exact eS.aj nd2
     ·rw[ej];have:=sm.1;omega
   ·rintro σ H' ⟨v2,v3,as,rfl,s,hA,hR,nD,hsz⟩;have e3:jG.take pJ.length=jG:=rfl;rw[e3]at hR;exact ⟨_,rfl,kk H' D as s hD hA hR⟩
end
noncomputable def ig (l t x s:V):List (Str×V):=cT "struck" s (cT "text" x (cT "topic" t (cT "level" l [])))
noncomputable def pT (CM:Addr) (H:Hp) (a:Addr) (mo:Vbdbag.Motion):Prop:=∃dx t x,H a=some (.ins CM dx (ig (.int mo.level) (.ref t) (.ref x) (.bl mo.struck)))/\H t=some (.lst (vi (nI mo.topic)))/\H x=some (.lst (vi (nI mo.words_)))
structure jI (CM:Addr) (H:Hp) (m:Addr) (as:List Addr) (ms:List Vbdbag.Motion):Prop where
 lst:H m=some (.lst (as.map V.ref))
 dk:Paired (pT CM H) as ms
 nd:as.Nodup
theorem pT.same {CM:Addr}{H H':Hp}{a:Addr}{mo:Vbdbag.Motion}(s:aq H H') (h:pT CM H a mo):pT CM H' a mo:=let ⟨dx,t,x,h1,h2,h3⟩:=h;⟨dx,t,x,s _ _ h1,s _ _ h2,s _ _ h3⟩
theorem jI.same {CM:Addr}{H H':Hp}{m:Addr}{as:List Addr}{ms:List Vbdbag.Motion}(h:jI CM H m as ms) (s:aq H H'):jI CM H' m as ms:=⟨s _ _ h.lst,Paired.mono (λa mo z=>z.same s) h.dk,h.nd⟩
theorem jI.len {CM:Addr}{H:Hp}{m:Addr}{as:List Addr}{ms:List Vbdbag.Motion}(h:jI CM H m as ms):as.length=ms.length:=Paired.length h.dk
theorem jI.get {CM:Addr}{H:Hp}{m:Addr}{as:List Addr}{ms:List Vbdbag.Motion}{i:Nat}{mo:Vbdbag.Motion}(h:jI CM H m as ms) (e:ms[i]? =some mo):∃a,as[i]? =some a/\pT CM H a mo:=n8 h.dk e
theorem Gw (l t x s:V):(ig l t x s).lookup ("level":Str)=some l:=by unfold ig;rw[cw,Zw ZE,cw,Zw ZE,cw,Zw ZE,cw,Zx rfl]
theorem pU (l t x s:V):(ig l t x s).lookup ("topic":Str)=some t:=by unfold ig;rw[cw,Zw ZE,cw,Zw ZE,cw,Zx rfl]
theorem aev (l t x s:V):(ig l t x s).lookup ("text":Str)=some x:=by unfold ig;rw[cw,Zw ZE,cw,Zx rfl]
theorem BG (l t x s:V):(ig l t x s).lookup ("struck":Str)=some s:=by unfold ig;rw[cw,Zx rfl]
structure ly (C CM:Addr) (H:Hp) (b d m:Addr) (as:List Addr) (T:aQ) (ms:List Vbdbag.Motion):Prop where
 ex:∃dx fs,H b=some (.ins C dx fs)/\fs.lookup ("told":Str)=some (V.ref d)/\fs.lookup ("motions":Str)=some (V.ref m)
 told:d8 H d T
 b9:jI CM H m as ms
theorem ly.same {C CM:Addr}{H H':Hp}{b d m:Addr}{as:List Addr}{T:aQ}{ms:List Vbdbag.Motion}(h:ly C CM H b d m as T ms) (s:aq H H'):ly C CM H' b d m as T ms:=
 ⟨let ⟨dx,fs,h1,h2⟩:=h.ex;⟨dx,fs,s _ _ h1,h2⟩,h.told.same s,h.b9.same s⟩
section
noncomputable def QF (C:Addr):Sp:=λvs H Q _a=>∃(p dx:Addr) (l t x:V),vs= [.ref p,l,t,x]/\H p=some (.ins C dx [])/\∀H':Hp,H' p=some (.ins C dx (ig l t x (.bl false)))->(∀b o,H b=some o->b≠p->H' b=some o)->Q .bT H'
theorem QG:jq ["self","level","topic","text"] ["self","level","topic","text"] (df Fo):=⟨rfl,rfl,rfl,by decide +kernel,rfl,by decide +kernel,by decide +kernel⟩
noncomputable abbrev QH:Prop:=hX P w K mg base 1 "Motion" aM ["self","level","topic","text"] (QF aM)
theorem aew {f C:Addr}{fd:FuncData}(F:gv K "__init__" "Motion.__init__" Fo f fd) (T:Txt K mg) (L:bZ K mg C) (M:Mk K C f):hX P w K mg base 1 "Motion" C ["self","level","topic","text"] (QF C):=by
 refine uY F L.mg M QG (λ_a _a _a _a _a _a us hl=>match us,hl with| [_,_,_,_],_=>rfl) (λvs H Q E h=>?_) (λaK A aJ s H vs Q E hr h=>?_)
 ·obtain ⟨p,dx,l,t,x,rfl,_⟩:=h;rfl
 ·obtain ⟨p,dx,l,t,x,rfl,hp,kk⟩:=h;have nd:=QG.nd;have hu:=pE hr;refine ⟨_,(aB (eP (pv 0) (pv 1) rfl)
   (aB (eP (pv 0) (pv 2) rfl)
   (aB (eP (pv 0) (pv 3) rfl)
   (aC (eP (pv 0) Ak rfl))))),?_⟩
  refine ⟨_,rfl,_,rfl,p,C,dx,[],rfl,hp,L.cl,L.Bp,by decide,?_⟩;refine ⟨_,rfl,_,rfl,p,C,dx,_,rfl,ao,L.cl,L.nT,(by show 1<1000;decide),?_⟩;refine ⟨_,rfl,_,rfl,p,C,dx,_,rfl,ao,L.cl,L.P7,(by show 2<1000;decide),?_⟩;refine ⟨_,rfl,p,C,dx,_,rfl,ao,L.cl,L.rQ,(by show 3<1000;decide),?_⟩;exact kk _ ao λb o e nb=>by rw[aA nb,aA nb,aA nb,aA nb];exact e
noncomputable def aex (C CM:Addr):Sp:=λvs H Q _a=>∃(b d m:Addr) (as:List Addr) (T:aQ) (ms:List Vbdbag.Motion) (n:Int),vs= [.ref b,.int n]/\ly C CM H b d m as T ms/\∀H',aq H H'->Q (.bl (decide (1<=n)&&decide (n<=(ms.length:Int)))) H'
noncomputable abbrev vq:Prop:=a7 P w K mg base 1 "has_motion" ["bank","number"] (aex aE aM)
theorem aey (n:a9 K mg "has_motion" Ox) (T:Txt K mg) (aw:b6 K mg aE) (aL:bZ K mg aM):vq:=by
  refine bf ["bank","number"] n λf aK A aJ s H vs Q E hr nd hu h=>?_
  obtain ⟨b,d,m,as,T0,ms,n,rfl,hB,kk⟩:=h;refine ⟨_,(aC (aF (ny cO cO aH (pv 1) (bJ K T.bG (aP K (pv 0)))))),?_⟩;obtain ⟨dx,fs,hb,f1,f2⟩:=hB.ex;have q:=kk H (aq.refl H);refine ⟨_,rfl,1,n,rfl,rfl,_,rfl,aI (λe=>?_) (λe=>?_)⟩
  ·refine ⟨_,rfl,b,aE,dx,fs,_,rfl,hb,aw.cl,aw.lg,f2,m,_,rfl,.inl (ag.of hB.b9.lst),n,_,rfl,rfl,?_⟩;rw[e,zp]at q;rw[yA,hB.b9.len];exact q
  ·rw[e,zg]at q;exact q
noncomputable def aez (C CM:Addr):Sp:=λvs H Q _a=>∃(b d m:Addr) (as:List Addr) (T:aQ) (ms:List Vbdbag.Motion) (n:Nat) (a:Addr),vs= [.ref b,.int n]/\ly C CM H b d m as T ms/\1<=n/\as[n - 1]? =some a/\Q (.ref a) H
noncomputable abbrev mw:Prop:=a7 P w K mg base 1 "motion_of" ["bank","number"] (aez aE aM)
theorem aeA (n:a9 K mg "motion_of" Oz) (T:Txt K mg) (aw:b6 K mg aE) (aL:bZ K mg aM):mw:=by
  refine bf ["bank","number"] n λf aK A aJ s H vs Q E hr nd hu h=>?_
  obtain ⟨b,d,m,as,T0,ms,n,a,rfl,hB,hn,ha,kk⟩:=h;refine ⟨_,(aC (aF (bL K (aP K (pv 0)) (bx eO (pv 1) aH)))),?_⟩;obtain ⟨dx,fs,hb,f1,f2⟩:=hB.ex;refine ⟨_,rfl,b,aE,dx,fs,_,rfl,hb,aw.cl,aw.lg,f2,_,rfl,_,_,rfl,rfl,m,_,_,.ref a,rfl,rfl,ag.of hB.b9.lst,EW (j:=n - 1) ZD (by rw[yd,ha];rfl),kk⟩
noncomputable def aeB (K:PySem.W.Frag):Sp:=λvs H Q _a=>∃(s:Nat),vs= [.int s]/\Q (.int (Vbdbag.nextState s)) H
noncomputable abbrev BH:Prop:=a7 P w K mg base 1 "next_state" ["state"] (aeB K)
theorem aeC (n:a9 K mg "next_state" OG) (T:Txt K mg):BH:=by
  refine bf ["state"] n λf aK A aJ s H vs Q E hr nd hu h=>?_
  obtain ⟨st,rfl,kk⟩:=h;refine ⟨_,(aC (aF (bx DT (bx eN (bx lV (aR T.aci) (pv 0)) (aR T.acj)) (aR T.ack)))),?_⟩;refine ⟨_,rfl,_,_,rfl,rfl,.inl ⟨by decide,by decide⟩,_,_,rfl,rfl,_,_,rfl,rfl,(by show (0:Int)<2147483648;decide),?_⟩;have e:((Vbdbag.nextState st:Nat):Int)=(1103515245*(st:Int)+12345) % 2147483648:=by unfold Vbdbag.nextState;omega
  rw[e]at kk;exact kk
noncomputable def aeD (K:PySem.W.Frag):Sp:=λvs H Q _a=>∃(s n:Nat),vs= [.int s,.int n]/\0<n/\Q (.int (Vbdbag.below s n)) H
noncomputable abbrev BI:Prop:=a7 P w K mg base 1 "drawn" ["state","choices"] (aeD K)
theorem aeE (n:a9 K mg "drawn" OH) (T:Txt K mg):BI:=by
  refine bf ["state","choices"] n λf aK A aJ s H vs Q E hr nd hu h=>?_
  obtain ⟨st,n,rfl,hn,kk⟩:=h;refine ⟨_,(aC (aF (bx DT (bx LU (pv 0) (aR T.acm)) (pv 1)))),?_⟩;refine ⟨_,rfl,_,_,rfl,rfl,⟨by decide,by decide⟩,_,rfl,_,_,rfl,rfl,ZD,?_⟩;have e:((Vbdbag.below st n:Nat):Int)=(st:Int)/65536 % (n:Int):=by unfold Vbdbag.below;simp only[Int.natCast_emod,Int.natCast_ediv];rfl
  rw[e]at kk;exact kk
theorem aeF (n:Nat):k7 1 n=nI (bb n):=by
 unfold k7 bb;show _=Vbdbag.ints _;unfold Vbdbag.ints;rw[yN];refine yI λk _a=>?_
 simp only[zq];omega
theorem Gx {α β:Type}(f:α->β):∀(l:List α) (k:Nat),(l.eraseIdx k).map f=(l.map f).eraseIdx k
 | [],_=>rfl
 |_::_,0=>rfl
 |a::r,k+1=>by show f a::(r.eraseIdx k).map f=f a::(r.map f).eraseIdx k;rw[Gx f r k]
noncomputable def aeG (C CM:Addr):Sp:=λvs H Q _a=>∃(b d m:Addr) (as:List Addr) (T:aQ) (ms:List Vbdbag.Motion) (r:Nat),vs= [.ref b,.int r]/\ly C CM H b d m as T ms/\cv T/\ms.length<=1000/\dO H Q (vi (nI (Vbdbag.shuffled ms.length (100*aG T .seed+r) (bb ms.length))))
noncomputable abbrev BJ:Prop:=a7 P w K mg base 2 "lot" ["bank","stage"] (aeG aE aM)
theorem aeH (n:a9 K mg "lot" OI) (T:Txt K mg) (aw:b6 K mg aE) (aL:bZ K mg aM) (sj:BH) (cG:ia) (so:BI):BJ:=by
  refine bf ["bank","stage","left","state","order"] n λf aK A aJ s H vs Q E hr nd hu h=>?_
  obtain ⟨b,d,m,as,T0,ms,r,rfl,hB,W,hms,kk⟩:=h;refine ⟨_,(aB (bj 2 nd (nF NT (by rfl) T.u6 uR (au (nF abC (by rfl) T.j8 Nz (au aH (ai (bx eN (bJ K T.bG (aP K (pv 0))) aH)))) cW)))
   (aB (bj 3 nd (bx eN (bx lV (aR T.PZ) (aD cG hr (au (aP K (pv 0)) (ai dY)))) (pv 1)))
   (aB (bj 4 nd (aW cW))
   (aB (LP PassesOwn.never (bz fF (bJ K T.bG (pv 2)) aH) (aB (bj 3 nd (aD sj hr (ai (pv 3))))
    (aC (fu (iH K (pv 4) (j7 (K:=K) Z5 Zc Zf YA (pv 2) (ai (aD so hr (au (pv 3) (ai (bJ K T.bG (pv 2))))))))))))
   (aC (aF (pv 4))))))),?_⟩
  obtain ⟨dx,fs,hb,f1,f2⟩:=hB.ex;refine ⟨_,rfl,b,aE,dx,fs,_,rfl,hb,aw.cl,aw.lg,f2,m,_,rfl,.inl (ag.of hB.b9.lst),_,_,rfl,rfl,1,_,rfl,λrg BK=>⟨rg,1,_,rfl,ao,by decide,by decide,?_,?_,λl hl=>?_⟩⟩
  ·rw[yA,hB.b9.len];omega
  ·rw[yA,hB.b9.len];omega
  have en:((((as.map V.ref).length:Nat):Int)+1 - 1).toNat=ms.length:=by rw[yA,hB.b9.len];omega
  rw[en,aeF];obtain ⟨n1,n2⟩:=bK hl;have s2:∀o o',aq H (aj (aj H rg o) l o'):=λo o'=>aU (bU BK) n2
  refine ⟨_,rfl,b,aE,dx,fs,_,rfl,s2 _ _ _ _ hb,aw.cl,aw.d7,f1,d,.seed,T0,rfl,rfl,(hB.told.same (s2 _ _)).r,W,λH3 r6=>?_⟩;have s3:aq H H3:=(s2 _ _).trans r6;refine ⟨_,_,rfl,rfl,.inl ⟨by decide,by decide⟩,_,rfl,_,_,rfl,rfl,xQ _,λo ho=>?_⟩;have QI:=r6 _ _ (ao (H:=aj H rg (.gK 1 (((as.map V.ref).length:Nat)+1))) (a:=l) (o:= .lst (vi (nI (bb ms.length)))));have lo:l≠o:=b8 QI ho;generalize qp:Vbdbag.shuffled ms.length (100*aG T0 .seed+r) (bb ms.length)=fin at*;refine ⟨λmm σ H'=>∃(st:Nat) (lf od:List Nat),σ= [some (.ref b),some (.int r),some (.ref l),some (.int st),some (.ref o)]/\mm=lf.length/\aq H H'/\H' l=some (.lst (vi (nI lf)))/\H' o=some (.lst (vi (nI od)))/\od++Vbdbag.shuffled lf.length st lf=fin/\od.length+lf.length<=1000,?_,?_⟩
  ·refine ⟨ms.length,100*aG T0 .seed+r,bb ms.length,[],?_,(oJ _).symm,aU s3 (s3.free ho),by rw[aA lo];exact QI,ao,?_,?_⟩
   ·have e:(((100*aG T0 .seed+r:Nat)):Int)=100*(aG T0 .seed:Int)+(r:Int):=by omega
    rw[e];rfl
   ·rw[oJ,x9];exact qp
   ·rw[oJ];simpa using hms
  ·rintro mm σ H' ⟨st,lf,od,rfl,rfl,s4,hL,hO,hf,hsz⟩;refine ⟨_,rfl,l,_,rfl,.inl (ag.of hL),_,_,rfl,rfl,_,rfl,aI (λe=>?_) (λe=>?_)⟩
   ·have vr:0<lf.length:=by simp only[yA,bR,Zt]at e;omega
    obtain ⟨x,hx⟩:∃x,lf[Vbdbag.below (Vbdbag.nextState st) lf.length]? =some x:=⟨_,yb (wD _ vr)⟩;have hk:=wD (Vbdbag.nextState st) vr;generalize vt:Vbdbag.below (Vbdbag.nextState st) lf.length=k at*;obtain ⟨n0,QJ⟩:∃n0,lf.length=n0+1:=⟨lf.length - 1,by omega⟩;have Gy:(lf.eraseIdx k).length=n0:=by rw[yy,Zx hk];omega
    have Gz:=JR n0 st lf x (by rw[vt];exact hx);refine ⟨λbu H2=>bu= [some (.ref b),some (.int r),some (.ref l),some (.int (Vbdbag.nextState st)),some (.ref o)]/\aq H H2/\H2 l=some (.lst (vi (nI (lf.eraseIdx k))))/\H2 o=some (.lst (vi (nI (od++ [x])))),λbu H2 ⟨h1,h2,h3,h4⟩=>⟨n0,by omega,_,_,_,h1,Gy.symm,h2,h3,h4,?_,?_⟩,?_⟩
    ·rw[←hf,QJ,Gz,Gy,zD,vt];rfl
    ·rw[yt,yE,Gy];omega
    ·have len:(vi (nI lf)).length=lf.length:=by rw[yA,bR]
     refine ⟨_,rfl,st,rfl,_,rfl,.inl ⟨rfl,_,ag.of hO⟩,_,rfl,.inl ⟨rfl,_,ag.of hL⟩,_,rfl,_,rfl,l,_,rfl,.inl (ag.of hL),Vbdbag.nextState st,lf.length,by rw[len];rfl,vr,l,_,_,k,V.int x,rfl,rfl,hL,by rw[vt];omega,by rw[vt];omega,?_,?_,?_⟩
     ·rw[vt,len];exact seqIndex_of ZD ZD
     ·rw[yd];show ((Vbdbag.ints lf)[k]?).map V.int=_;unfold Vbdbag.ints;rw[yd,hx];rfl
     ·have hO2:aj H' l (.lst ((vi (nI lf)).eraseIdx k)) o=some (.lst (vi (nI od))):=by rw[aA (xR lo)];exact hO
      have aeK:H l=none:=n2;refine ⟨o,_,_,rfl,rfl,hO2,?_,rfl,aU (aU s4 aeK) (s3.free ho),?_,?_⟩
      ·rw[yA,bR];exact dv ZD
      ·rw[aA lo,ao];show some (HO.lst (((Vbdbag.ints lf).map V.int).eraseIdx k))=some (HO.lst ((Vbdbag.ints (lf.eraseIdx k)).map V.int));unfold Vbdbag.ints;rw[←Gx,←Gx]
      ·rw[ao];show _=some (HO.lst (vi (Vbdbag.ints (_++_))));rw[tM,dw];rfl
   ·have hz:lf= []:=by
     cases lf with
     |nil=>rfl
     |cons a r=>simp only[yA,bR,yu,Zr]at e;omega
    subst hz;have hf:od=fin:=by rw[←hf];simp[Vbdbag.shuffled]
    rw[hf]at hO;exact ⟨_,rfl,kk H' o s4 (s3.free ho) hO⟩
end
section
noncomputable def ke (k n r e:V):List (Str×V):=cT "end" e (cT "rows" r (cT "numbers" n (cT "kind" k [])))
noncomputable def QK (C:Addr):Sp:=λvs H Q _a=>∃(p dx:Addr) (k n r e:V),vs= [.ref p,k,n,r,e]/\H p=some (.ins C dx [])/\∀H':Hp,H' p=some (.ins C dx (ke k n r e))->(∀b o,H b=some o->b≠p->H' b=some o)->Q .bT H'
theorem QL:jq ["self","kind","numbers","rows","end"] ["self","kind","numbers","rows","end"] (df Fs):=⟨rfl,rfl,rfl,by decide +kernel,rfl,by decide +kernel,by decide +kernel⟩
noncomputable abbrev QM:Prop:=hX P w K mg base 1 "Call" eA ["self","kind","numbers","rows","end"] (QK eA)
theorem aeL {f C:Addr}{fd:FuncData}(F:gv K "__init__" "Call.__init__" Fs f fd) (T:Txt K mg) (L:pK K mg C) (M:Mk K C f):hX P w K mg base 1 "Call" C ["self","kind","numbers","rows","end"] (QK C):=by
 refine uY F L.mg M QL (λ_a _a _a _a _a _a us hl=>match us,hl with| [_,_,_,_,_],_=>rfl) (λvs H Q E h=>?_) (λaK A aJ s H vs Q E hr h=>?_)
 ·obtain ⟨p,dx,k,n,r,e,rfl,_⟩:=h;rfl
 ·obtain ⟨p,dx,k,n,r,e,rfl,hp,kk⟩:=h;have nd:=QL.nd;have hu:=pE hr;refine ⟨_,(aB (eP (pv 0) (pv 1) rfl)
   (aB (eP (pv 0) (pv 2) rfl)
   (aB (eP (pv 0) (pv 3) rfl)
   (aC (eP (pv 0) (pv 4) rfl))))),?_⟩
  refine ⟨_,rfl,_,rfl,p,C,dx,[],rfl,hp,L.cl,L.eG,by decide,?_⟩;refine ⟨_,rfl,_,rfl,p,C,dx,_,rfl,ao,L.cl,L.Bq,(by show 1<1000;decide),?_⟩;refine ⟨_,rfl,_,rfl,p,C,dx,_,rfl,ao,L.cl,L.rS,(by show 2<1000;decide),?_⟩;refine ⟨_,rfl,_,rfl,p,C,dx,_,rfl,ao,L.cl,L.P8,(by show 3<1000;decide),?_⟩;exact kk _ ao λb o e nb=>by rw[aA nb,aA nb,aA nb,aA nb];exact e
theorem eU (k n r e:V):(ke k n r e).lookup ("kind":Str)=some k:=by unfold ke;rw[cw,Zw ZE,cw,Zw ZE,cw,Zw ZE,cw,Zx rfl]
theorem GA (k n r e:V):(ke k n r e).lookup ("numbers":Str)=some n:=by unfold ke;rw[cw,Zw ZE,cw,Zw ZE,cw,Zx rfl]
theorem vv (k n r e:V):(ke k n r e).lookup ("rows":Str)=some r:=by unfold ke;rw[cw,Zw ZE,cw,Zx rfl]
theorem aeM (k n r e:V):(ke k n r e).lookup ("end":Str)=some e:=by unfold ke;rw[cw,Zx rfl]
theorem D9 (n d i:Nat):HT.eY n d (some (i:Int))=min i n:=by
 simp[HT.eY]
 try omega
theorem QN (l:List Int) (lo hi:Nat) (x y:Int) (hx:x=(lo:Int)) (hy:y=(hi:Int)) (h1:lo<=hi) (h2:hi<=l.length):nG (vi l) (some x) (some y)=vi ((l.drop lo).take (hi - lo)):=by subst hx hy;unfold nG;rw[D9,D9,yA,Nat.min_eq_left h2,Nat.min_eq_left (show lo<=l.length by omega),←yK,←yQ]
structure QO (l:List Int) (i:Nat) (p:Int) (ns:List Int) (xs:List (List Int)) (j:Nat):Prop where
 ex:∃(r t:List Int) (n k:Nat),l.drop i=p::r/\0<=p/\rN[p.toNat]? =some (.int n)/\nS[p.toNat]? =some (.int k)/\n<=r.length/\PyFlat.rows k (r.drop n)=some (xs,t)/\ns=r.take n/\l.drop j=t/\j<=l.length/\i<j
noncomputable def aeN (K:PySem.W.Frag) (C:Addr):Sp:=λvs H Q _a=>∃(a:Addr) (l:List Int) (i:Nat) (p:Int) (ns:List Int) (xs:List (List Int)) (j:Nat),vs= [.ref a,.int i]/\ag K H a (vi l)/\l.length<=16000/\QO l i p ns xs j/\
 ∀(H':Hp) (o dx nm rw:Addr) (as:List Addr),aq H H'->H o=none->H' o=some (.ins C dx (ke (.int p) (.ref nm) (.ref rw) (.int j)))->H nm=none->H' nm=some (.lst (vi ns))->H rw=none->H' rw=some (.lst (as.map V.ref))->bX H' as xs->(∀x∈as,H x=none)->as.Nodup->nm∉as->rw∉as->nm≠rw->Q (.ref o) H'
theorem QP {l r:List Int}{i:Nat}{p:Int}(h:l.drop i=p::r):l.length=i+1+r.length/\l[i]? =some p/\l.drop (i+1)=r:=by
 have h1:=Zo List.length h;rw[yw,yu]at h1;refine ⟨by omega,?_,?_⟩
 ·have:=List.getElem?_drop (xs:=l) (i:=i) (j:=0);rw[h]at this;simpa using this.symm
 ·rw[←zJ,h];rfl
theorem GB {i k:Nat}(h:nS[i]? =some (.int k)):k<=10:=by
 have a:(nS.all λv=>match v with| .int z=>decide (z<=10)|_=>false)=true:=by decide
 have:=zx.mp a _ (yY h);simp only[Zt]at this;omega
noncomputable abbrev GC:Prop:=a7 P w K mg base 3 "read_call" ["calls","start"] (aeN K eA)
theorem aeO (n:a9 K mg "read_call" PK) (T:Txt K mg) (bD:pK K mg eA) (GD:QM):GC:=by
  refine bf ["calls","start","kind","place","numbers","rows","turn","end"] n λf aK A aJ s H vs Q E hr nd hu h=>?_
  obtain ⟨a,l,i,p,ns,xs,j,rfl,ha,hl,hC,kk⟩:=h;obtain ⟨aeP,QQ⟩:=T.ac0;obtain ⟨aeQ,QR⟩:=T.ac1;refine ⟨_,(aB (bj 2 nd (bL K (pv 0) (pv 1)))
   (aB (bj 3 nd (bx eN (bx eN (pv 1) aH) (mn K (rF QQ.1 rfl) (pv 2))))
   (aB (bj 4 nd (uj (uS (K:=K)) (pv 0) (ph (bx eN (pv 1) aH)) (ph (pv 3))))
   (aB (bj 5 nd (aW cW))
   (aB (eW PassesOwn.never rfl (qR rfl T.j8 (ai (mn K (rF QR.1 rfl) (pv 2)))) (cH 6 nd) (aB (bj 7 nd (bx eN (bx eN (pv 3) aH) (bL K (pv 0) (pv 3))))
    (aB (fu (iH K (pv 5) (uj (uS (K:=K)) (pv 0) (ph (bx eN (pv 3) aH)) (ph (pv 7)))))
    (aC (bj 3 nd (pv 7))))))
   (aC (aF (u5 GD hr (au (pv 2) (au (pv 4) (au (pv 5) (ai (pv 3))))))))))))),?_⟩
  obtain ⟨r,t,n,k,hdr,vw,hN,hK,lz,BL,rfl,BM,nL,oP⟩:=hC.ex;obtain ⟨g1,g2,g3⟩:=QP hdr;have QS:p=((p.toNat:Nat):Int):=by omega
  have gi:hG (vi l) (i:Int)=some (V.int p):=ck (by rw[yd,g2];rfl);refine ⟨_,rfl,_,rfl,a,_,_,.int p,rfl,rfl,ha,gi,?_⟩;refine ⟨_,rfl,_,_,rfl,rfl,_,rfl,aeP,rN,p,.int n,rfl,rfl,QQ.2 _,EW (j:=p.toNat) QS hN,_,_,rfl,rfl,?_⟩;refine ⟨_,rfl,_,rfl,_,_,rfl,rfl,_,rfl,_,rfl,_,rfl,a,vi l,rfl,ha,λnm cX=>?_⟩;rw[QN l (i+1) (i+1+n) _ _ ZD ZD ZD ZD,g3,show i+1+n - (i+1)=n by omega];refine ⟨xQ _,λeE kf=>?_⟩;obtain ⟨m1,m2⟩:=bK kf;have s2:∀o o',aq H (aj (aj H nm o) eE o'):=λo o'=>aU (bU cX) m2
  refine ⟨_,rfl,aeQ,nS,p,.int k,rfl,rfl,QR.2 _,EW (j:=p.toNat) QS hK,k,rfl,?_,?_,qV (lo:=0) (n:=k) (λq σ H'=>∃(v6 v7:Option V) (pl:Nat) (as:List Addr) (ds ys:List (List Int)) (rest:List Int),σ= [some (.ref a),some (.int i),some (.int p),some (.int pl),some (.ref nm),some (.ref eE),v6,v7]/\aq H H'/\H' nm=some (.lst (vi (r.take n)))/\H' eE=some (.lst (as.map V.ref))/\bX H' as ds/\(∀x∈as,H x=none)/\as.Nodup/\nm∉as/\eE∉as/\ds.length=q/\l.drop pl=rest/\pl<=l.length/\i<pl/\PyFlat.rows (k - q) rest=some (ys,t)/\ds++ys=xs) ?_ ?_ ?_⟩
  ·have:=GB hK;omega
  ·have:=GB hK;omega
  ·refine ⟨none,none,i+1+n,[],[],xs,r.drop n,?_,s2 _ _,by rw[aA (xR m1),ao],ao,.nil,by simp,by simp,by simp,by simp,rfl,?_,by omega,by omega,BL,rfl⟩
   ·have e:(((i+1+n:Nat)):Int)=(i:Int)+1+(n:Int):=by omega
    rw[e];rfl
   ·rw[←zJ,g3]
  ·rintro q σ H' hq ⟨v6,v7,pl,as,ds,ys,rest,rfl,s,sv,pV,hR,j4,eK,GF,BN,hdl,BO,dj,hip,vx,nY⟩;obtain ⟨kq,hkq⟩:∃kq,k - q=kq+1:=⟨k - q - 1,by omega⟩;rw[hkq]at vx;obtain ⟨m,r',ys',D8,hm0,Dd,hys,aeX⟩:=CW vx;rw[D8]at BO;obtain ⟨e1,e2,e3⟩:=QP BO;have dP:=hR.length;have gm:hG (vi l) (pl:Int)=some (V.int m):=ck (by rw[yd,e2];rfl);have hmi:m=((m.toNat:Nat):Int):=by omega
   refine ⟨_,rfl,_,_,rfl,rfl,_,rfl,_,rfl,a,_,_,.int m,rfl,rfl,s.seq ha,gm,_,_,rfl,rfl,?_⟩;refine ⟨_,rfl,.inl ⟨rfl,_,ag.of pV⟩,_,rfl,_,rfl,_,_,rfl,rfl,_,rfl,_,rfl,_,rfl,a,vi l,rfl,s.seq ha,λu hu=>?_⟩;rw[QN l (pl+1) (pl+1+m.toNat) _ _ ZD ZD ZD ZD,e3,show pl+1+m.toNat - (pl+1)=m.toNat by omega];have ur:u≠eE:=λz=>by rw[z,pV]at hu;cases hu
   have un:u≠nm:=λz=>by rw[z,sv]at hu;cases hu
   have ua:u∉as:=NA hR hu;have su:aq H' (aj H' u (.lst (vi (r'.take m.toNat)))):=bU hu;have QJ:H nm=none:=cX;refine ⟨eE,_,_,rfl,rfl,su _ _ pV,dv (by rw[yA];have:=GB hK;omega),_,rfl,some (.int (0+(q:Int))),some (.int ((pl:Int)+1+m)),pl+1+m.toNat,as++ [u],ds++ [r'.take m.toNat],ys',r'.drop m.toNat,?_,aU (s.trans su) m2,?_,by rw[ao,yH];rfl,?_,?_,?_,?_,?_,?_,?_,by omega,by omega,?_,?_⟩
   ·have e:(((pl+1+m.toNat:Nat)):Int)=(pl:Int)+1+m:=by omega
    rw[e];rfl
   ·rw[aA (xR m1)];exact su _ _ sv
   ·refine ((hR.same su).aj BN).snoc ?_;rw[aA ur,ao]
   ·intro x hx;rcases List.mem_append.mp hx with z|z
    ·exact j4 x z
    ·rw[List.mem_singleton.mp z];exact s.free hu
   ·exact rD eK ua
   ·intro z;rcases List.mem_append.mp z with z|z
    ·exact GF z
    ·exact un (List.mem_singleton.mp z).symm
   ·intro z;rcases List.mem_append.mp z with z|z
    ·exact BN z
    ·exact ur (List.mem_singleton.mp z).symm
   ·rw[yt,yE];omega
   ·rw[show pl+1+m.toNat=(pl+1)+m.toNat from rfl,←zJ,e3]
   ·rw[show k - (q+1)=kq by omega];exact aeX
   ·rw[←nY,hys,zD];rfl
  ·rintro σ H' ⟨v6,v7,pl,as,ds,ys,rest,rfl,s,sv,pV,hR,j4,eK,GF,BN,hdl,BO,dj,hip,vx,nY⟩;rw[Nat.sub_self]at vx;obtain ⟨rfl,e2⟩:=CV vx;rw[zE]at nY;subst nY;have hpj:pl=j:=by have h1:=Zo List.length BO;have h2:=Zo List.length BM;rw[yw]at h1 h2;rw[e2]at h2;omega
   subst hpj;refine ⟨_,rfl,_,rfl,_,rfl,_,rfl,λx dx hx fB bQ=>⟨x,dx,_,_,_,_,rfl,ao,λH5 h5 b5=>⟨rfl,?_⟩⟩⟩;have gW:aq H' H5:=λb o e=>b5 b o (by rw[aA (b8 e hx),aA (b8 e fB)];exact e) (b8 e hx)
   exact kk H5 x dx nm eE as (s.trans gW) (s.free hx) h5 cX (gW _ _ sv) m2 (gW _ _ pV) (hR.same gW) j4 eK GF BN (xR m1)
end
section
noncomputable def aeZ (C CM:Addr):Sp:=λvs H Q _a=>∃(b d m:Addr) (as:List Addr) (T:aQ) (ms:List Vbdbag.Motion) (r:Nat) (a:Addr) (mo:Vbdbag.Motion),vs= [.ref b,.int r,.ref a]/\ly C CM H b d m as T ms/\cv T/\pT CM H a mo/\∀H',aq H H'->Q (.bl (tR T r mo)) H'
noncomputable abbrev GG:Prop:=a7 P w K mg base 2 "fits" ["bank","stage","motion"] (aeZ aE aM)
theorem ae0 (n:a9 K mg "fits" OJ) (T:Txt K mg) (aw:b6 K mg aE) (aL:bZ K mg aM) (GH:FK) (GI:FJ):GG:=by
  refine bf ["bank","stage","motion"] n λf aK A aJ s H vs Q E hr nd hu h=>?_
  obtain ⟨b,d,m,as,T0,ms,r,a,mo,rfl,hB,W,hM,kk⟩:=h;refine ⟨_,(aB (aX (PW.pt (gM (cN (aP K (pv 2))) (iE (cJ (cN (aD GI hr (au (aP K (pv 0)) (au (pv 1) (ai (aP K (pv 2))))))))))) (aC (aF Ak)) aZ)
   (aC (aF (aD GH hr (au (aP K (pv 0)) (au (pv 1) (ai (aP K (pv 2))))))))),?_⟩
  obtain ⟨dx,fs,hb,f1,f2⟩:=hB.ex;obtain ⟨dm,tp,tx,ha,ht,hx⟩:=hM;unfold tR at kk;refine ⟨_,rfl,a,aM,dm,_,_,rfl,ha,aL.cl,aL.rQ,BG _ _ _ _,_,rfl,aI (λe=>?_) (λe=>?_)⟩
  ·have q:=kk H (aq.refl H);rw[e]at q;exact q
  ·rw[e]at kk;refine ⟨_,rfl,b,aE,dx,fs,_,rfl,hb,aw.cl,aw.d7,f1,_,rfl,_,rfl,a,aM,dm,_,_,rfl,ha,aL.cl,aL.Bp,Gw _ _ _ _,d,r,mo.level,T0,rfl,hB.told.r,W,λH1 s1=>⟨_,rfl,aI (λe2=>?_) (λe2=>?_)⟩⟩
   ·have q:=kk H1 s1;simp only[zm]at e2;rw[e2]at q;exact q
   ·simp only[zl]at e2;rw[e2]at kk;exact ⟨_,rfl,b,aE,dx,fs,_,rfl,s1 _ _ hb,aw.cl,aw.d7,f1,_,rfl,_,rfl,a,aM,dm,_,_,rfl,s1 _ _ ha,aL.cl,aL.nT,pU _ _ _ _,d,tp,r,mo.topic,T0,rfl,s1 _ _ ht,hB.told.r.same s1,W,λH2 s2=>kk H2 (s1.trans s2)⟩
noncomputable def ae1 (K:PySem.W.Frag) (C CM:Addr):Sp:=λvs H Q _a=>∃(b d m:Addr) (as:List Addr) (T:aQ) (ms:List Vbdbag.Motion) (p:Addr) (ns:List Nat),vs= [.ref b,.ref p]/\ly C CM H b d m as T ms/\ag K H p (vi (nI ns))/\(∀n∈ns,1<=n/\n<=ms.length)/\ns.length<=1000/\
 ∀(H':Hp) (q:Addr) (ts:List Addr),aq H H'->H q=none->H' q=some (.lst (ts.map V.ref))->bX H' ts ((ns.map (dB ms)).map nI)->Q (.ref q) H'
noncomputable abbrev vy:Prop:=a7 P w K mg base 2 "topics_of" ["bank","numbers"] (ae1 K aE aM)
theorem ae2 (n:a9 K mg "topics_of" OD) (T:Txt K mg) (aw:b6 K mg aE) (aL:bZ K mg aM) (ff:mw):vy:=by
  refine bf ["bank","numbers","number"] n λf aK A aJ s H vs Q E hr nd hu h=>?_
  obtain ⟨b,d,m,as,T0,ms,p,ns,rfl,hB,hp,QT,hl,kk⟩:=h;refine ⟨_,(aC (aF (gR nd (dZ (pv 1)) (own:= [("number",2)]) (by rfl) (λ_a _a _a _a _a=>cH 2 nd) (λ_a _a _a _a _a=>jv) (λ_a _a _a _a _a=>(aP K (aD ff hr (au (pv 0) (ai (pv 2))))))))),?_⟩;refine ⟨_,rfl,p,rfl,⟨_,hp⟩,λD hD=>jx (K:=K) (a:=p) (xs:=vi (nI ns)) (λi H'=>∃ts,aq H H'/\H' D=some (.lst (ts.map V.ref))/\bX H' ts (((ns.take i).map (dB ms)).map nI)/\D∉ts) ⟨[],bU hD,ao,.nil,by simp⟩ (λi H' _a ⟨_,s,_⟩=>s.seq hp) ?_ ?_⟩
  ·rintro i x H' hx ⟨ts,s,hA,hR,nD⟩;obtain ⟨z,hz,rfl⟩:=cD hx;obtain ⟨n,hn,rfl⟩:=cD hz;obtain ⟨h1,h2⟩:=QT n (yY hn);obtain ⟨mo,dR⟩:∃mo,ms[n - 1]? =some mo:=⟨_,yb ZD⟩;have f6:=hB.same s;obtain ⟨a,ha,dm,tp,tx,fh,iI,kh⟩:=hB.b9.get dR;have ha':=s _ _ fh;have ht:=s _ _ iI;have nt:tp≠D:=b8 iI hD;have dP:=hR.length;simp only[yA,yF]at dP;have hi:=(List.getElem?_eq_some_iff.mp hn).1;have eT:dB ms n=mo.topic:=by unfold dB;rw[dR];rfl
   refine ⟨rfl,?_⟩;refine ⟨_,rfl,_,rfl,b,d,m,as,T0,ms,n,a,rfl,f6,h1,ha,a,aM,dm,_,_,rfl,ha',aL.cl,aL.nT,pU _ _ _ _,_,hA,?_,ts++ [tp],aU s hD,by rw[ao,yH];rfl,?_,?_⟩
   ·rw[yA];exact dv ZD
   ·rw[da hn,yH,yH];refine (hR.aj nD).snoc ?_;rw[aA nt,eT];exact ht
   ·intro z;rcases List.mem_append.mp z with z|z
    ·exact nD z
    ·exact nt (List.mem_singleton.mp z).symm
  ·rintro H' ⟨ts,s,hA,hR,_⟩;have e:(vi (nI ns)).length=ns.length:=by rw[yA,bR]
   rw[e,xm]at hR;exact kk H' D ts s hD hA hR
end
section
noncomputable def ae4 (K:PySem.W.Frag):Sp:=λvs H Q _a=>∃(p:Addr) (l:List Int),vs= [.ref p]/\H p=some (.lst (vi l))/\l.length<=1000000/\dO H Q (vi ((l.length:Int)::l))
noncomputable abbrev ki:Prop:=a7 P w K mg base 1 "as_row" ["numbers"] (ae4 K)
theorem ae5 (n:a9 K mg "as_row" OO) (T:Txt K mg):ki:=by
  refine bf ["numbers"] n λf aK A aJ s H vs Q E hr nd hu h=>?_
  obtain ⟨p,l,rfl,hp,hl,kk⟩:=h;refine ⟨_,(aC (aF (bx fV (aW (ai (bJ K T.bG (pv 0)))) (pv 0)))),?_⟩;refine ⟨_,rfl,p,_,rfl,.inl (ag.of hp),by show 1<=sizeLine;decide,λq hq=>?_⟩;have Bw:p≠q:=b8 hp hq;refine ⟨_,rfl,q,p,_,vi l,rfl,rfl,ao,by rw[aA Bw];exact hp,?_,λr hr=>?_⟩
  ·rw[yA];have:(1000001:Nat)<=sizeLine:=by decide
   simp only[yu,yB];omega
  ·obtain ⟨n1,n2⟩:=bK hr;refine kk _ r (aU (bU hq) n2) n2 ?_;rw[ao,yA];rfl
noncomputable def i5 (ls:List (List Int)):List Int:=ls.flatMap λr=>(r.length:Int)::r
theorem QU (ls:List (List Int)) (l:List Int):i5 (ls++ [l])=i5 ls++((l.length:Int)::l):=by unfold i5;rw[List.flatMap_append];simp
theorem GJ (N:Nat):∀ls:List (List Int),(∀l∈ls,l.length+1<=N)->(i5 ls).length<=ls.length*N
 | [],_=>by simp[i5]
 |l::ls,h=>by
  have ih:=GJ N ls λx hx=>h x (yU _ hx)
  have h1:=h l yV;have e:i5 (l::ls)=((l.length:Int)::l)++i5 ls:=by simp[i5]
  rw[e,yt,yu,yu,xO];omega
theorem ae6 {T:aQ}(W:cv T) (sm:Gj T):(iw T).length<=2006/\∀l∈iw T,l.length+1<=5100:=by
 rw[Qt];constructor
 ·have h3:∀k,(ed T k).length<=T.length:=λk=>by unfold ed;rw[yA];exact yz _ _
  have key:∀T:aQ,(ed T .levels).length+(ed T .topics).length+(ed T .release).length<=T.length:=by
   intro T;unfold ed;simp only[yA];induction T with
   |nil=>simp
   |cons e r ih=>simp only[zU];cases e.1.1<;>simp<;>omega
  have k0:=key T;have k1:=sm.1;simp only[jG,jk,yt,yA,y0,y1,zE,yu,yB];omega
 ·intro l hl;rcases List.mem_append.mp hl with h|h
  ·obtain ⟨k,hk,rfl⟩:=List.mem_map.mp h;unfold BD;have h1:=wM 32 [k.bytes,Vbdbag.decimal (aG T k)];have sk:k.fL=true:=by simp only[jk,yT,xc,ZC]at hk;rcases hk with rfl|rfl|rfl|rfl|rfl|rfl<;>rfl
   have h2:aG T k<=99999:=xE (oI W k sk).2 (by cases k<;>first|decide|cases sk);have h3:=(vn _ h2).2;have h4:=(si k).1;simp only[jl]at h1;omega
  ·obtain ⟨k,_,h⟩:=List.mem_flatMap.mp h;obtain ⟨e,he,rfl⟩:=List.mem_map.mp h;have hm:=(List.mem_filter.mp he).1;have h1:=wM 32 (e.1.1.bytes::Vbdbag.decimal e.1.2::dz e.2);have h2:=sm.2 e hm;have h3:=(vn e.1.2 (by have:=(Qw (W.dk e hm)).2.1;omega)).2;have h4:=(si e.1.1).1;unfold BE;simp only[jl]at h1;omega
noncomputable def ae7 (K:PySem.W.Frag) (C CM:Addr):Sp:=λvs H Q _a=>∃(b d m:Addr) (as:List Addr) (T:aQ) (ms:List Vbdbag.Motion),vs= [.ref b]/\ly C CM H b d m as T ms/\cv T/\Gj T/\dO H Q (vi (((iw T).length:Int)::i5 ((iw T).map nI)))
noncomputable abbrev GK:Prop:=a7 P w K mg base 5 "shown_answer" ["bank"] (ae7 K aE aM)
theorem ae8 (n:a9 K mg "shown_answer" Pa) (T:Txt K mg) (aw:b6 K mg aE) (aL:bZ K mg aM) (GL:Gk) (dE:ki):GK:=by
  refine bf ["bank","lines","answer","line"] n λf aK A aJ s H vs Q E hr nd hu h=>?_
  obtain ⟨b,d,m,Qz,T0,ms,rfl,hB,W,sm,kk⟩:=h;refine ⟨_,(aB (bj 1 nd (aD GL hr (ai (aP K (pv 0)))))
   (aB (bj 2 nd (aW (ai (bJ K T.bG (pv 1)))))
   (aB (eW PassesOwn.never rfl (dZ (pv 1)) (cH 3 nd) (aC (fu (j7 (K:=K) Z5 Za Zd uu (pv 2) (ai (aD dE hr (ai (pv 3))))))))
   (aC (aF (pv 2)))))),?_⟩
  obtain ⟨dx,fs,hb,f1,f2⟩:=hB.ex;obtain ⟨z1,z2⟩:=ae6 W sm;generalize og:(iw T0).map nI=Ls at*;have BP:Ls.length=(iw T0).length:=by rw[←og,yA]
  have QV:∀l∈Ls,l.length+1<=5100:=λl hl=>by rw[←og]at hl;obtain ⟨x,hx,rfl⟩:=List.mem_map.mp hl;rw[bR];exact z2 x hx
  refine ⟨_,rfl,b,aE,dx,fs,_,rfl,hb,aw.cl,aw.d7,f1,d,T0,rfl,hB.told,W,sm,λH1 p as s1 hp hP hR=>?_⟩;rw[og]at hR;have dP:=hR.length;refine ⟨_,rfl,p,_,rfl,.inl (ag.of hP),by show 1<=sizeLine;decide,λq hq=>?_⟩;have s2:∀o,aq H (aj H1 q o):=λo=>aU s1 (s1.free hq)
  have big:(2006*5100+5000:Nat)<sizeLine:=by decide
  refine ⟨_,rfl,p,rfl,⟨_,ag.of (bU hq _ _ hP)⟩,jj (K:=K) (a:=p) (xs:=as.map V.ref) (λi σ H'=>∃v:Option V,σ= [some (.ref b),some (.ref p),some (.ref q),v]/\aq H1 H'/\H' q=some (.lst (vi (((iw T0).length:Int)::i5 (Ls.take i)))))
   ⟨none,rfl,bU hq,?_⟩ (λi σ H' _a ⟨_,_,s,_⟩=>ag.of (s _ _ hP)) ?_ ?_⟩
  ·rw[ao,yA,dP,BP];rfl
  ·rintro i x σ H' hx ⟨v,rfl,s,hQ⟩;obtain ⟨a,ha,rfl⟩:=cD hx;obtain ⟨l,hl,Bx⟩:=hR.get ha;have Dr:=QV l (yY hl);have hi:=(List.getElem?_eq_some_iff.mp hl).1;refine ⟨_,rfl,.inl ⟨rfl,_,ag.of hQ⟩,_,rfl,a,l,rfl,s _ _ Bx,by omega,λH2 r nX hr eS=>?_⟩;have fl:=GJ 5100 (Ls.take i) λy hy=>QV y (x6 hy)
   have tl:(Ls.take i).length=i:=by rw[yF];omega
   rw[tl]at fl;refine ⟨q,r,_,_,rfl,rfl,nX _ _ hQ,eS,?_,some (.ref a),rfl,aU (s.trans nX) hq,?_⟩
   ·simp only[yA,yu];have:i*5100<=2006*5100:=xM _ ZD;omega
   ·rw[ao,da hl,QU,←dw];rfl
  ·rintro σ H' ⟨v,rfl,s,hQ⟩;rw[yA,dP,xm]at hQ;exact ⟨_,rfl,kk H' q (s1.trans s) (s1.free hq) hQ⟩
end
theorem BQ {α β:Type}{f:α->β}{l:List α}(h:(l.map f).Nodup) {x y:α}(hx:x∈l) (hy:y∈l) (e:f x=f y):x=y:=by
 obtain ⟨i,hi⟩:=yg hx;obtain ⟨j,hj⟩:=yg hy;have ei:(l.map f)[i]? =some (f x):=by rw[yd,hi];rfl
 have ej:(l.map f)[j]? =some (f y):=by rw[yd,hj];rfl
 obtain ⟨li,ei⟩:=List.getElem?_eq_some_iff.mp ei;obtain ⟨lj,ej⟩:=List.getElem?_eq_some_iff.mp ej;have:i=j:=(yn h).mp (by rw[ei,ej,e]);subst this;rw[hi]at hj;exact xX hj
theorem vz {α β:Type}{f:α->β}(hf:∀x y,f x=f y->x=y):∀{l:List α},l.Nodup->(l.map f).Nodup
 | [],_=>by simp
 |a::l,h=>by rw[xa]at h;rw[yJ,xa];refine ⟨λz=>?_,vz hf h.2⟩;obtain ⟨b,hb,e⟩:=List.mem_map.mp z;exact h.1 (hf _ _ e▸hb)
noncomputable def eB (t m r g n:V):List (Str×V):=cT "minute" n (cT "rooms" g (cT "rounds" r (cT "motions" m (cT "told" t []))))
theorem gy (t m r g n:V):(eB t m r g n).lookup ("told":Str)=some t:=by unfold eB;rw[cw,Zw ZE,cw,Zw ZE,cw,Zw ZE,cw,Zw ZE,cw,Zx rfl]
theorem pW (t m r g n:V):(eB t m r g n).lookup ("motions":Str)=some m:=by unfold eB;rw[cw,Zw ZE,cw,Zw ZE,cw,Zw ZE,cw,Zx rfl]
theorem ef (t m r g n:V):(eB t m r g n).lookup ("rounds":Str)=some r:=by unfold eB;rw[cw,Zw ZE,cw,Zw ZE,cw,Zx rfl]
theorem pX (t m r g n:V):(eB t m r g n).lookup ("rooms":Str)=some g:=by unfold eB;rw[cw,Zw ZE,cw,Zx rfl]
theorem sy (t m r g n:V):(eB t m r g n).lookup ("minute":Str)=some n:=by unfold eB;rw[cw,Zx rfl]
noncomputable def jJ (o q:V):List (Str×V):=cT "result" q (cT "orders" o [])
theorem vA (o q:V):(jJ o q).lookup ("orders":Str)=some o:=by unfold jJ;rw[cw,Zw ZE,cw,Zx rfl]
theorem GN (o q:V):(jJ o q).lookup ("result":Str)=some q:=by unfold jJ;rw[cw,Zx rfl]
structure Ad where
 b:Addr
 dx:Addr
 d:Addr
 m:Addr
 r:Addr
 g:Addr
 as:List Addr
 rr:List Addr
noncomputable def fJ (CR:Addr) (H:Hp) (a:Addr) (x:Rm):Prop:=∃dx o p1 p2 q,H a=some (.ins CR dx (jJ (.ref o) (.ref q)))/\H o=some (.lst [.ref p1,.ref p2])/\H p1=some (.lst (vi (nI x.one)))/\H p2=some (.lst (vi (nI x.two)))/\H q=some (.lst (vi (nI x.result)))
noncomputable def cq (k:Nat×Nat):List bp:= [.inl (k.1:Int),.inl (k.2:Int)]
noncomputable def oh (CR:Addr) (H:Hp) (e:(Nat×Nat)×Rm) (kv:List bp×V):Prop:=kv.1=cq e.1/\∃a,kv.2= .ref a/\fJ CR H a e.2
structure cP (C CM CR:Addr) (H:Hp) (A:Ad) (B:bc):Prop where
 bk:H A.b=some (.ins C A.dx (eB (.ref A.d) (.ref A.m) (.ref A.r) (.ref A.g) (.int B.now)))
 told:d8 H A.d B.T
 b9:jI CM H A.m A.as B.ms
 cf:H A.r=some (.lst (A.rr.map V.ref))
 pY:bX H A.rr (B.rs.map nI)
 oj:∃af,Rd H A.g (.dT af)/\Paired (oh CR H) B.rooms af
 dg:A.d≠A.g
theorem fJ.same {CR:Addr}{H H':Hp}{a:Addr}{x:Rm}(s:aq H H') (h:fJ CR H a x):fJ CR H' a x:=let ⟨dx,o,p1,p2,q,h1,h2,h3,h4,h5⟩:=h;⟨dx,o,p1,p2,q,s _ _ h1,s _ _ h2,s _ _ h3,s _ _ h4,s _ _ h5⟩
theorem oh.same {CR:Addr}{H H':Hp}{e:(Nat×Nat)×Rm}{kv:List bp×V}(s:aq H H') (h:oh CR H e kv):oh CR H' e kv:=let ⟨h1,a,h2,h3⟩:=h;⟨h1,a,h2,h3.same s⟩
section
variable {C CM CR:Addr}{H H':Hp}{A:Ad}{B:bc}
theorem cP.same (h:cP C CM CR H A B) (s:aq H H'):cP C CM CR H' A B:=
 ⟨s _ _ h.bk,h.told.same s,h.b9.same s,s _ _ h.cf,h.pY.same s,let ⟨af,h1,h2⟩:=h.oj;⟨af,Rd.same s h1,Paired.mono (λe kv z=>z.same s) h2⟩,h.dg⟩
theorem cP.v (h:cP C CM CR H A B):ly C CM H A.b A.d A.m A.as B.T B.ms:=⟨⟨_,_,h.bk,gy _ _ _ _ _,pW _ _ _ _ _⟩,h.told,h.b9⟩
theorem fJ.d9 {d:Addr}{a:Addr}{x:Rm}(s:ic d H H') (h1:∀xs,H d≠some (.lst xs)) (h2:∀c dx fs,H d≠some (.ins c dx fs)) (h:fJ CR H a x):fJ CR H' a x:=by
 obtain ⟨dx,o,p1,p2,q,e1,e2,e3,e4,e5⟩:=h;refine ⟨dx,o,p1,p2,q,s _ _ e1 ?_,s _ _ e2 ?_,s _ _ e3 ?_,s _ _ e4 ?_,s _ _ e5 ?_⟩
 ·intro z;rw[z]at e1;exact h2 _ _ _ e1
 ·intro z;rw[z]at e2;exact h1 _ e2
 ·intro z;rw[z]at e3;exact h1 _ e3
 ·intro z;rw[z]at e4;exact h1 _ e4
 ·intro z;rw[z]at e5;exact h1 _ e5
theorem jI.d9 {d m:Addr}{as:List Addr}{ms:List Vbdbag.Motion}(s:ic d H H') (h1:∀xs,H d≠some (.lst xs)) (h2:∀c dx fs,H d≠some (.ins c dx fs)) (h:jI CM H m as ms):jI CM H' m as ms:=by
 refine ⟨s _ _ h.lst λz=>?_,Paired.mono (λa mo q=>?_) h.dk,h.nd⟩
 ·have:=h.lst;rw[z]at this;exact h1 _ this
 ·obtain ⟨dx,t,x,e1,e2,e3⟩:=q;refine ⟨dx,t,x,s _ _ e1 ?_,s _ _ e2 ?_,s _ _ e3 ?_⟩
  ·intro z;rw[z]at e1;exact h2 _ _ _ e1
  ·intro z;rw[z]at e2;exact h1 _ e2
  ·intro z;rw[z]at e3;exact h1 _ e3
theorem cP.AO (h:cP C CM CR H A B) {af:List (List bp×V)}(hg:Rd H A.g (.dT af)) (s:ic A.g H H') (jK:Rd H' A.g (.dT af)):cP C CM CR H' A B:=by
 have h1:∀xs,H A.g≠some (.lst xs):=λxs z=>by rcases hg with q|⟨o,q⟩<;>rw[z]at q<;>cases q
 have h2:∀c dx fs,H A.g≠some (.ins c dx fs):=λc dx fs z=>by rcases hg with q|⟨o,q⟩<;>rw[z]at q<;>cases q
 have hB:=h.bk;have hR:=h.cf;refine ⟨s _ _ hB ?_,?_,h.b9.d9 s h1 h2,s _ _ hR ?_,h.pY.d9 s h1,?_,h.dg⟩
 ·intro z;rw[z]at hB;exact h2 _ _ _ hB
 ·obtain ⟨kv,e1,e2⟩:=h.told;exact ⟨kv,s _ _ e1 h.dg,Paired.mono (λe kv z=>z.d9 s h1) e2⟩
 ·intro z;rw[z]at hR;exact h1 _ hR
 ·obtain ⟨kv,e1,e2⟩:=h.oj;have:kv=af:=by rcases e1 with a|⟨o,a⟩<;>rcases hg with b|⟨o',b⟩<;>rw[a]at b<;>cases b<;>rfl
  subst this;refine ⟨kv,jK,Paired.mono (λe x z=>?_) e2⟩;obtain ⟨z1,a,z2,z3⟩:=z;exact ⟨z1,a,z2,z3.d9 s h1 h2⟩
theorem sA {k k':Nat×Nat}(h:cq k=cq k'):k=k':=by unfold cq at h;injection h with h1 h2;injection h2 with h2 _;have a:=Zl h1;have b:=Zl h2;exact xY ZD ZD
theorem om (k:Nat×Nat):∀{R:c9}{af:List (List bp×V)},Paired (oh CR H) R af->(bF R k=none/\cn af (cq k)=none)\/∃x a,bF R k=some x/\cn af (cq k)=some (.ref a)/\fJ CR H a x
 |_,_,.nil=> .inl ⟨rfl,rfl⟩
 |_,_,.cons (a:=e) (b:=kv) q r=>by
  obtain ⟨q1,a,q2,q3⟩:=q;unfold bF cn;rw[zX,zX];by_cases h:e.1=k
  ·have e1:(e.1==k)=true:=Zm.mpr h;have e2:decide (kv.1=cq k)=true:=Zs (by rw[q1,h]);rw[e1,e2];exact .inr ⟨e.2,a,rfl,by rw[←q2];rfl,q3⟩
  ·have e1:(e.1==k)=false:=beq_eq_false_iff_ne.mpr h;have e2:decide (kv.1=cq k)=false:=Zq λz=>h (sA (by rw[←q1,z]))
   rw[e1,e2];exact om k r
theorem QW (r:Nat) {z:Int}(hz:z<0):∀{R:c9}{af:List (List bp×V)},Paired (oh CR H) R af->cn af [.inl (r:Int),.inl z]=none
 |_,_,.nil=>rfl
 |_,_,.cons (a:=e) (b:=kv) q r'=>by
  obtain ⟨q1,_⟩:=q;unfold cn;rw[zX];have e2:decide (kv.1= [.inl (r:Int),.inl z])=false:=Zq λy=>by rw[q1]at y;unfold cq at y;injection y with h1 h2;injection h2 with h2 _;have b:=Zl h2;omega
  rw[e2];exact QW r hz r'
end
section
theorem ot (z:Int) (n:Nat):(decide (1<=z)&&decide (z<=(n:Int)))=decide (1<=z/\z<=(n:Int)):=by rw[zf];simp
noncomputable def ae9 (C CM CR:Addr):Sp:=λvs H Q _a=>∃(A:Ad) (B:bc) (n:Int),vs= [.ref A.b,.int n]/\cP C CM CR H A B/\Q (.bl (decide (1<=n/\n<=(B.rs.length:Int)))) H
noncomputable abbrev pZ:Prop:=a7 P w K mg base 1 "has_round" ["bank","stage"] (ae9 aE aM aN)
theorem ae_ (n:a9 K mg "has_round" Oy) (T:Txt K mg) (aw:b6 K mg aE) (aL:bZ K mg aM) (aS:cp K mg aN):pZ:=by
  refine bf ["bank","stage"] n λf aK A aJ s H vs Q E hr nd hu h=>?_
  obtain ⟨A,B,n,rfl,hB,kk⟩:=h;refine ⟨_,(aC (aF (ny cO cO aH (pv 1) (bJ K T.bG (aP K (pv 0)))))),?_⟩;have hl:A.rr.length=B.rs.length:=by have:=hB.pY.length;rwa[yA]at this
  refine ⟨_,rfl,1,n,rfl,rfl,_,rfl,aI (λe=>?_) (λe=>?_)⟩
  ·refine ⟨_,rfl,A.b,aE,A.dx,_,_,rfl,hB.bk,aw.cl,aw.dQ,ef _ _ _ _ _,A.r,_,rfl,.inl (ag.of hB.cf),n,_,rfl,rfl,?_⟩;rw[←ot,e,zp]at kk;rw[yA,hl];exact kk
  ·rw[←ot,e,zg]at kk;exact kk
noncomputable def afa (C CM CR:Addr):Sp:=λvs H Q _a=>∃(A:Ad) (B:bc),vs= [.ref A.b]/\cP C CM CR H A B/\B.ms.length<=1000/\∀H',aq H H'->Q (.int (iQ B.ms)) H'
noncomputable abbrev BR:Prop:=a7 P w K mg base 1 "struck_count" ["bank"] (afa aE aM aN)
theorem afb (n:a9 K mg "struck_count" OA) (T:Txt K mg) (aw:b6 K mg aE) (aL:bZ K mg aM) (aS:cp K mg aN):BR:=by
  refine bf ["bank","motion"] n λf aK A aJ s H vs Q E hr nd hu h=>?_
  obtain ⟨A,B,rfl,hB,hm,kk⟩:=h;refine ⟨_,(aC (aF (bJ K T.bG (gR nd (dZ (aP K (pv 0))) (own:= [("motion",1)]) (by rfl) (λ_a _a _a _a _a=>cH 1 nd) (λ_a _a _a _a _a=>(nM (cN (aP K (pv 1))))) (λ_a _a _a _a _a=>(pv 1)))))),?_⟩;have dP:=hB.b9.len;refine ⟨_,rfl,A.b,aE,A.dx,_,_,rfl,hB.bk,aw.cl,aw.lg,pW _ _ _ _ _,A.m,rfl,⟨_,ag.of hB.b9.lst⟩,λD hD=>jx (K:=K) (a:=A.m) (xs:=A.as.map V.ref) (λi H'=>∃ys,aq H H'/\H' D=some (.lst ys)/\ys.length=iQ (B.ms.take i)) ⟨[],bU hD,ao,rfl⟩ (λi H' _a ⟨_,s,_⟩=>s.seq (ag.of hB.b9.lst)) ?_ ?_⟩
  ·rintro i x H' hx ⟨ys,s,hA,hy⟩;obtain ⟨a,ha,rfl⟩:=cD hx;obtain ⟨mo,dR,dm,tp,tx,fh,iI,kh⟩:=hU hB.b9.dk ha;have hi:=(List.getElem?_eq_some_iff.mp dR).1;have hs:iQ (B.ms.take (i+1))=iQ (B.ms.take i)+if mo.struck=true then 1 else 0:=by unfold iQ;rw[da dR,zS,yt,zU];cases mo.struck<;>rfl
   refine ⟨rfl,?_⟩;refine ⟨_,rfl,a,aM,dm,_,_,rfl,s _ _ fh,aL.cl,aL.rQ,BG _ _ _ _,_,rfl,aI (λe=>?_) (λe=>?_)⟩
   ·rw[Zx e]at hs;refine ⟨_,rfl,ys,hA,?_,ys++ [.ref a],aU s hD,ao,by rw[yt,yE,hy,hs]⟩;have:iQ (B.ms.take i)<=(B.ms.take i).length:=yz _ _;rw[yF]at this;exact dv ZD
   ·rw[Zw (by rw[e];decide)]at hs;exact ⟨ys,s,hA,by rw[hy,hs];rfl⟩
  ·rintro H' ⟨ys,s,hA,hy⟩;rw[yA,dP,xm]at hy;refine ⟨D,_,rfl,.inl (ag.of hA),?_⟩;rw[hy];exact kk H' s
theorem ou (l:List Int):(vi l).all iW=true:=by rw[zx];intro x hx;obtain ⟨z,_,rfl⟩:=List.mem_map.mp hx;rfl
theorem mx (z:Int) (l:List Int):Az (.int z) (vi l)=l.contains z:=by
 unfold Az;induction l with
 |nil=>rfl
 |cons a l ih=>rw[List.contains_cons,←ih];show ((a==z)||(vi l).any λy=>js y (V.int z))=_;congr 1;rw[zf,Zm,Zm];exact eq_comm
theorem p8 (n:Nat) (l:List Nat):(nI l).contains (n:Int)=l.contains n:=by
 rw[zf,zH,zH];constructor
 ·intro h;obtain ⟨m,hm,e⟩:=List.mem_map.mp h;have:m=n:=by omega
  rw[←this];exact hm
 ·intro h;exact List.mem_map.mpr ⟨n,h,rfl⟩
theorem cP.kj {C CM CR:Addr}{H:Hp}{A:Ad}{B:bc}(h:cP C CM CR H A B) {i:Nat}{l:List Nat}(e:B.rs[i]? =some l):∃a,A.rr[i]? =some a/\H a=some (.lst (vi (nI l))):=by obtain ⟨a,ha,q⟩:=n8 h.pY (i:=i) (b:=nI l) (by rw[yd,e];rfl);exact ⟨a,ha,q⟩
theorem cP.fK {C CM CR:Addr}{H:Hp}{A:Ad}{B:bc}(h:cP C CM CR H A B):A.rr.length=B.rs.length:=by have:=h.pY.length;rwa[yA]at this
theorem ow {rr:List Addr}{i:Nat}{a:Addr}{z:Int}(h:rr[i]? =some a) (e:z=(i:Int)):hG (rr.map V.ref) z=some (V.ref a):=by subst e;exact ck (by rw[yd,h];rfl)
theorem my {l:List Int}{i:Nat}{x:Int}{z:Int}(h:l[i]? =some x) (e:z=(i:Int)):hG (vi l) z=some (V.int x):=by subst e;exact ck (by rw[yd,h];rfl)
theorem lA {l:List Nat}{i n:Nat}(h:l[i]? =some n):(nI l)[i]? =some (n:Int):=by show (Vbdbag.ints l)[i]? =_;unfold Vbdbag.ints;rw[yd,h];rfl
theorem kl (a b:List Nat):nI (a++b)=nI a++nI b:=tM a b
theorem bY (a:List Nat):(vi (nI a)).length=a.length:=by rw[yA,bR]
noncomputable def afc (C CM CR:Addr):Sp:=λvs H Q _a=>∃(A:Ad) (B:bc) (f l:Int),vs= [.ref A.b,.int f,.int l]/\cP C CM CR H A B/\Ok B/\ -100<=f/\f<=100/\ -100<=l/\l<=100/\dO H Q (vi (nI (jW B.rs f l)))
noncomputable abbrev BS:Prop:=a7 P w K mg base 1 "offered_between" ["bank","first","last"] (afc aE aM aN)
theorem afd (n:a9 K mg "offered_between" OB) (T:Txt K mg) (aw:b6 K mg aE) (aL:bZ K mg aM) (aS:cp K mg aN):BS:=by
  refine bf ["bank","first","last","offered","stage"] n λf aK A aJ s H vs Q E hr nd hu h=>?_
  obtain ⟨A,B,f,l,rfl,hB,O,f1,f2,l1,l2,kk⟩:=h;refine ⟨_,(aB (bj 3 nd (aW cW))
   (aB (eW PassesOwn.never rfl (DM rfl T.j8 (au (fw (Xn rfl) (by rfl) T.PU Nw (au (pv 1) (ai aH))) (ai (bx eN (fw (Xo rfl) (by rfl) T.PV Ny (au (pv 2) (ai (bJ K T.bG (aP K (pv 0)))))) aH)))) (cH 4 nd) (aC (fu (j7 (K:=K) Z5 Za Zd uu (pv 3) (ai (bL K (aP K (pv 0)) (bx eO (pv 4) aH)))))))
   (aC (aF (pv 3))))),?_⟩
  have h9:=O.jR;refine ⟨xQ _,λo ho=>?_⟩;have bS:=hB.same (bU (o:= .lst []) ho);refine ⟨_,rfl,f,1,rfl,_,rfl,_,rfl,A.b,aE,A.dx,_,_,rfl,bS.bk,aw.cl,aw.dQ,ef _ _ _ _ _,A.r,_,rfl,.inl (ag.of bS.cf),l,_,rfl,_,_,rfl,rfl,max f 1,min l (B.rs.length:Int)+1,?_,by omega,qV (λi σ H'=>∃v:Option V,σ= [some (.ref A.b),some (.int f),some (.int l),some (.ref o),v]/\aq H H'/\H' o=some (.lst (vi (nI ((gH B.rs f l).take i).flatten)))) ⟨none,rfl,bU ho,ao⟩ ?_ ?_⟩
  ·rw[yA,hB.fK];have e1:(if (1:Int)>f then 1 else f)=max f 1:=by split<;>omega
   have e2:(if (B.rs.length:Int)<l then (B.rs.length:Int) else l)=min l (B.rs.length:Int):=by split<;>omega
   rw[e1,e2]
  ·rintro i σ H' hi ⟨v,rfl,s,hO⟩;obtain ⟨x,hx⟩:∃x,B.rs[(max f 1 - 1).toNat+i]? =some x:=⟨_,yb ZD⟩;have mz:(gH B.rs f l)[i]? =some x:=by unfold gH;rw[List.getElem?_take,Zx ZD,List.getElem?_drop];exact hx
   have cy:=hB.same s;obtain ⟨a,ha,pG⟩:=cy.kj hx;have qe:=(O.jS (yY hx)).2;have vB:=Ds (ls:=(gH B.rs f l).take i) (c:=5) λy hy=>(O.jS (Lj (x6 hy))).2
   have ll:((gH B.rs f l).take i).length<=9:=by have:=Li B.rs f l;rw[yF];omega
   refine ⟨_,rfl,.inl ⟨rfl,_,ag.of hO⟩,_,rfl,A.b,aE,A.dx,_,_,rfl,cy.bk,aw.cl,aw.dQ,ef _ _ _ _ _,_,rfl,_,_,rfl,rfl,A.r,_,_,.ref a,rfl,rfl,ag.of cy.cf,ow ha ZD,o,a,_,_,rfl,rfl,hO,pG,?_,_,rfl,aU s ho,?_⟩
   ·rw[bY,bY];have:=xM 5 ll;exact eQ ZD
   ·rw[ao,da mz,V7,kl,dw]
  ·rintro σ H' ⟨v,rfl,s,hO⟩;refine ⟨_,rfl,kk H' o s ho ?_⟩;rw[hO,xo]
   ·rfl
   ·unfold gH;rw[yF];omega
noncomputable def afe (C CM CR:Addr):Sp:=λvs H Q _a=>∃(A:Ad) (B:bc) (n:Nat),vs= [.ref A.b,.int n]/\cP C CM CR H A B/\Ok B/\∀H',aq H H'->Q (.int (mR B.rs n)) H'
noncomputable abbrev GO:Prop:=a7 P w K mg base 1 "round_with" ["bank","number"] (afe aE aM aN)
theorem aff (n:a9 K mg "round_with" OC) (T:Txt K mg) (aw:b6 K mg aE) (aL:bZ K mg aM) (aS:cp K mg aN):GO:=by
  refine bf ["bank","number","stage"] n λf aK A aJ s H vs Q E hr nd hu h=>?_
  obtain ⟨A,B,n,rfl,hB,O,kk⟩:=h;refine ⟨_,(aB (eW PassesOwn.never rfl (DM rfl T.j8 (au aH (ai (bx eN (bJ K T.bG (aP K (pv 0))) aH)))) (cH 2 nd) (aC (aX (nu (NF (K:=K)) (pv 1) (bL K (aP K (pv 0)) (bx eO (pv 2) aH)) (by with_unfolding_all rfl)) (aC (aF (pv 2))) aZ)))
   (aC (aF aH))),?_⟩
  have h9:=O.jR;refine ⟨_,rfl,A.b,aE,A.dx,_,_,rfl,hB.bk,aw.cl,aw.dQ,ef _ _ _ _ _,A.r,_,rfl,.inl (ag.of hB.cf),_,_,rfl,rfl,1,(B.rs.length:Int)+1,?_,by omega,qV (λi σ H'=>∃v:Option V,σ= [some (.ref A.b),some (.int n),v]/\aq H H'/\∀l∈B.rs.take i,l.contains n=false) ⟨none,rfl,aq.refl H,by simp⟩ ?_ ?_⟩
  ·rw[yA,hB.fK]
  ·rintro i σ H' hi ⟨v,rfl,s,hO⟩;obtain ⟨x,hx⟩:∃x,B.rs[i]? =some x:=⟨_,yb ZD⟩;have cy:=hB.same s;obtain ⟨a,ha,pG⟩:=cy.kj hx;refine ⟨_,rfl,_,rfl,A.b,aE,A.dx,_,_,rfl,cy.bk,aw.cl,aw.dQ,ef _ _ _ _ _,_,rfl,_,_,rfl,rfl,A.r,_,_,.ref a,rfl,rfl,ag.of cy.cf,ow ha ZD,a,_,rfl,.inl (ag.of pG),rfl,ou _,_,rfl,aI (λe=>?_) (λe=>?_)⟩
   ·rw[Zw ZE,mx,p8]at e;refine ⟨_,rfl,?_⟩;have q:mR B.rs n=i+1:=by
     unfold mR;have:B.rs.findIdx? (λl=>l.contains n)=some i:=by rw[List.findIdx?_eq_some_iff_getElem];obtain ⟨h1,h2⟩:=List.getElem?_eq_some_iff.mp hx;refine ⟨h1,by rw[h2];exact e,λj hj=>?_⟩;rw[Bool.not_eq_true];exact hO _ (List.mem_iff_getElem?.mpr ⟨j,by rw[List.getElem?_take,Zx hj,yb]⟩)
     rw[this]
    have:=kk H' s;rw[q]at this;have e2:((1:Int)+(i:Int))=(((i+1:Nat)):Int):=by omega
    rw[e2];exact this
   ·rw[Zw ZE,mx,p8]at e;refine ⟨_,rfl,s,λl hl=>?_⟩;rw[da hx]at hl;rcases List.mem_append.mp hl with z|z
    ·exact hO l z
    ·rw[List.mem_singleton.mp z];exact e
  ·rintro σ H' ⟨v,rfl,s,hO⟩;have q:mR B.rs n=0:=by
    unfold mR;have:B.rs.findIdx? (λl=>l.contains n)=none:=by rw[List.findIdx?_eq_none_iff];intro l hl;refine hO l ?_;rw[xo ZD];exact hl
    rw[this]
   have:=kk H' s;rw[q]at this;exact this
noncomputable def afg (C CM CR:Addr):Sp:=λvs H Q _a=>∃(A:Ad) (B:bc) (z:Int),vs= [.ref A.b,.int z]/\cP C CM CR H A B/\Ok B/\dO H Q (vi (nI (lI B z)))
noncomputable abbrev vC:Prop:=a7 P w K mg base 2 "released_by" ["bank","minute"] (afg aE aM aN)
theorem afh (n:a9 K mg "released_by" OE) (T:Txt K mg) (aw:b6 K mg aE) (aL:bZ K mg aM) (aS:cp K mg aN) (mB:vf):vC:=by
  refine bf ["bank","minute","stage"] n λf aK A aJ s H vs Q E hr nd hu h=>?_
  obtain ⟨A,B,z,rfl,hB,O,kk⟩:=h;refine ⟨_,(aC (aF (gR nd (DM rfl T.j8 (au aH (ai (bx eN (bJ K T.bG (aP K (pv 0))) aH)))) (own:= [("stage",2)]) (by rfl) (λ_a _a _a _a _a=>cH 2 nd) (λ_a _a _a _a _a=>(nM (bz cO (aD mB hr (au (aP K (pv 0)) (ai (pv 2)))) (pv 1)))) (λ_a _a _a _a _a=>(pv 2))))),?_⟩;have h9:=O.jR;refine ⟨_,rfl,A.b,aE,A.dx,_,_,rfl,hB.bk,aw.cl,aw.dQ,ef _ _ _ _ _,A.r,_,rfl,.inl (ag.of hB.cf),_,_,rfl,rfl,1,(B.rs.length:Int)+1,?_,by omega,λD hD=>EA (λi H'=>aq H H'/\H' D=some (.lst (vi (nI ((bb i).filter λr=>decide ((cB B.T r:Int)<=z)))))) ⟨bU hD,ao⟩ ?_ ?_⟩
  ·rw[yA,hB.fK]
  ·rintro i H' hi ⟨s,hO⟩;have cy:=hB.same s;have hn:bb (i+1)=bb i++ [i+1]:=by unfold bb;rw[xi,yH];rfl
   have e2:((1:Int)+(i:Int))=(((i+1:Nat)):Int):=by omega
   refine ⟨rfl,?_⟩;refine ⟨_,rfl,A.b,aE,A.dx,_,_,rfl,cy.bk,aw.cl,aw.d7,gy _ _ _ _ _,_,rfl,A.d,i+1,B.T,by rw[←e2];rfl,cy.told.r,O.wt,λH3 s3=>⟨_,rfl,_,_,rfl,rfl,_,rfl,aI (λe=>?_) (λe=>?_)⟩⟩
   ·refine ⟨_,rfl,_,s3 _ _ hO,?_,aU (s.trans s3) hD,?_⟩
    ·rw[bY];have:=yz (λr=>decide ((cB B.T r:Int)<=z)) (bb i);rw[oJ]at this;exact dv ZD
    ·rw[ao,hn,zS,zU,Zx e,zV,kl,dw,e2];rfl
   ·refine ⟨s.trans s3,?_⟩;rw[hn,zS,zU,Zw (by rw[e];decide),zV,zE];exact s3 _ _ hO
  ·rintro H' ⟨s,hO⟩;refine kk H' D s hD ?_;rw[hO,show ((B.rs.length:Int)+1 - 1).toNat=B.rs.length by omega];rfl
noncomputable def afi (C CM CR:Addr):Sp:=λvs H Q _a=>∃(A:Ad) (B:bc) (k:Nat),vs= [.ref A.b,.int k]/\cP C CM CR H A B/\Ok B/\1<=k/\k<=B.rs.length/\∀H',aq H H'->Q (.bl (decide (cB B.T k<=B.now))) H'
noncomputable abbrev vD:Prop:=a7 P w K mg base 3 "is_released" ["bank","stage"] (afi aE aM aN)
theorem afj (n:a9 K mg "is_released" OF) (T:Txt K mg) (aw:b6 K mg aE) (aL:bZ K mg aM) (aS:cp K mg aN) (mC:vC):vD:=by
  refine bf ["bank","stage"] n λf aK A aJ s H vs Q E hr nd hu h=>?_
  obtain ⟨A,B,k,rfl,hB,O,h1,h2,kk⟩:=h;refine ⟨_,(aC (aF (DV (NF (K:=K)) (pv 1) (aD mC hr (au (pv 0) (ai (aP K (pv 0))))) (by with_unfolding_all rfl)))),?_⟩;refine ⟨_,rfl,_,rfl,_,rfl,A.b,aE,A.dx,_,_,rfl,hB.bk,aw.cl,aw.nV,sy _ _ _ _ _,A,B,(B.now:Int),rfl,hB,O,λH1 p s hp hq=>⟨p,_,rfl,.inl (ag.of hq),rfl,ou _,?_⟩⟩;rw[Zw ZE,mx,p8];have:(lI B (B.now:Int)).contains k=decide (cB B.T k<=B.now):=by
   rw[zf,zH,Ll,Zt];constructor
   ·rintro ⟨_,h⟩;omega
   ·intro h;exact ⟨⟨h1,h2⟩,by omega⟩
  rw[this];exact kk H1 s
end
noncomputable abbrev Rl:=Addr->Nat
noncomputable def Lf (ρ:Rl) (H:Hp):Hp:=λa=>if ρ a=0 then H a else none
section
variable {C CM CR:Addr}{H H':Hp}{ρ cz:Rl}{A:Ad}{B:bc}
theorem Lf.le:aq (Lf ρ H) H:=λa o e=>by
 unfold Lf at e;split at e
 ·exact e
 ·cases e
theorem Lf.at {a:Addr}{o:HO}(e:Lf ρ H a=some o):H a=some o/\ρ a=0:=by
 unfold Lf at e;split at e
 ·exact ⟨e,by assumption⟩
 ·cases e
theorem Lf.of {a:Addr}{o:HO}(e:H a=some o) (h:ρ a=0):Lf ρ H a=some o:=by unfold Lf;rw[Zx h];exact e
noncomputable def Fr (ρ:Rl) (H:Hp) (cz:Rl) (H':Hp):Prop:=∀a o,H a=some o->ρ a=0->H' a=some o/\cz a=0
theorem Fr.lf (f:Fr ρ H cz H'):aq (Lf ρ H) (Lf cz H'):=λa o e=>by obtain ⟨h1,h2⟩:=Lf.at e;obtain ⟨h3,h4⟩:=f a o h1 h2;exact Lf.of h3 h4
theorem Fr.of (s:aq H H'):Fr ρ H ρ H':=λa o e h=>⟨s _ _ e,h⟩
theorem Fr.trans {H2:Hp}{cY:Rl}(f:Fr ρ H cz H') (g:Fr cz H' cY H2):Fr ρ H cY H2:=λa o e h=>by obtain ⟨h1,h2⟩:=f a o e h;exact g a o h1 h2
noncomputable def qf (CM:Addr) (H:Hp) (ρ:Rl) (a:Addr) (mo:Vbdbag.Motion):Prop:=ρ a=3/\∃dx t x,H a=some (.ins CM dx (ig (.int mo.level) (.ref t) (.ref x) (.bl mo.struck)))/\Lf ρ H t=some (.lst (vi (nI mo.topic)))/\Lf ρ H x=some (.lst (vi (nI mo.words_)))
noncomputable def sC (H:Hp) (ρ:Rl) (a:Addr) (l:List Nat):Prop:=ρ a=5/\H a=some (.lst (vi (nI l)))
noncomputable def ij (CR:Addr) (H:Hp) (ρ:Rl) (a:Addr) (x:Rm):Prop:=ρ a=7/\∃dx o p1 p2 q,H a=some (.ins CR dx (jJ (.ref o) (.ref q)))/\ρ o=100+a/\H o=some (.lst [.ref p1,.ref p2])/\Lf ρ H p1=some (.lst (vi (nI x.one)))/\Lf ρ H p2=some (.lst (vi (nI x.two)))/\Lf ρ H q=some (.lst (vi (nI x.result)))
noncomputable def sD (CR:Addr) (H:Hp) (ρ:Rl) (e:(Nat×Nat)×Rm) (kv:List bp×V):Prop:=kv.1=cq e.1/\∃a,kv.2= .ref a/\ij CR H ρ a e.2
structure bE (C CM CR:Addr) (H:Hp) (ρ:Rl) (A:Ad) (B:bc):Prop where
 bk:H A.b=some (.ins C A.dx (eB (.ref A.d) (.ref A.m) (.ref A.r) (.ref A.g) (.int B.now)))
 pb:ρ A.b=1
 told:d8 (Lf ρ H) A.d B.T
 hm:H A.m=some (.lst (A.as.map V.ref))
 pm:ρ A.m=2
 b9:Paired (qf CM H ρ) A.as B.ms
 nd:A.as.Nodup
 hr:H A.r=some (.lst (A.rr.map V.ref))
 pr:ρ A.r=4
 cf:Paired (sC H ρ) A.rr B.rs
 jL:A.rr.Nodup
 hg:∃af,H A.g=some (.dT af)/\Paired (sD CR H ρ) B.rooms af/\(af.map λkv=>kv.2).Nodup
 pg:ρ A.g=6
 iJ:∀a,ρ a≠0->H a≠none
theorem QX {α β γ:Type}{F:α->γ->Prop}{f:β->γ}:∀{l₁:List α}{l₂:List β},Paired (λa b=>F a (f b)) l₁ l₂->Paired F l₁ (l₂.map f)
 |_,_,.nil=> .nil
 |_,_,.cons q r=> .cons q (QX r)
theorem ij.at {a:Addr}{x:Rm}(h:ij CR H ρ a x):fJ CR H a x:=let ⟨_,dx,o,p1,p2,q,h1,_,h2,h3,h4,h5⟩:=h;⟨dx,o,p1,p2,q,h1,h2,(Lf.at h3).1,(Lf.at h4).1,(Lf.at h5).1⟩
theorem bE.cQ (h:bE C CM CR H ρ A B):cP C CM CR H A B where
 bk:=h.bk
 told:=h.told.same Lf.le
 b9:=⟨h.hm,Paired.mono (λa mo z=>let ⟨_,dx,t,x,h1,h2,h3⟩:=z;⟨dx,t,x,h1,(Lf.at h2).1,(Lf.at h3).1⟩) h.b9,h.nd⟩
 cf:=h.hr
 pY:=QX (Paired.mono (λa l z=>z.2) h.cf)
 oj:=let ⟨af,h1,h2,_⟩:=h.hg;⟨af,.inl h1,Paired.mono (λe kv z=>let ⟨z1,a,z2,z3⟩:=z;⟨z1,a,z2,z3.at⟩) h2⟩
 dg:=λz=>by obtain ⟨af,e,_⟩:=h.told;have:=(Lf.at e).2;rw[z,h.pg]at this;cases this
structure dc (x:Addr) (H:Hp) (ρ:Rl) (H':Hp) (cz:Rl):Prop where
 keep:∀a o,H a=some o->a≠x->H' a=some o
 role:∀a,H a≠none->cz a=ρ a
 chg:ρ x≠0
theorem dc.fr {x:Addr}(k:dc x H ρ H' cz):Fr ρ H cz H':=λa o e h=>by
 have hx:a≠x:=λz=>k.chg (by rw[←z];exact h)
 exact ⟨k.keep a o e hx,by rw[k.role a (by rw[e];exact λz=>nomatch z)];exact h⟩
theorem dc.at {x a:Addr}{o:HO}{n:Nat}(k:dc x H ρ H' cz) (e:H a=some o) (h:ρ a=n) (hx:ρ x≠n):H' a=some o/\cz a=n:=
 ⟨k.keep a o e λz=>hx (by rw[←z];exact h),by rw[k.role a (by rw[e];exact λz=>nomatch z)];exact h⟩
theorem dc.mD {x a:Addr}{mo:Vbdbag.Motion}(k:dc x H ρ H' cz) (h:qf CM H ρ a mo) (hx:a≠x):qf CM H' cz a mo:=by obtain ⟨h0,dx,t,y,h1,h2,h3⟩:=h;exact ⟨by rw[k.role a (by rw[h1];exact λz=>nomatch z)];exact h0,dx,t,y,k.keep _ _ h1 hx,k.fr.lf _ _ h2,k.fr.lf _ _ h3⟩
theorem dc.b9 {x:Addr}{as:List Addr}{ms:List Vbdbag.Motion}(k:dc x H ρ H' cz) (h:Paired (qf CM H ρ) as ms) (hx:ρ x≠3):Paired (qf CM H' cz) as ms:=
 Paired.mono (λa mo z=>k.mD z λe=>hx (by rw[←e];exact z.1)) h
theorem dc.kj {x a:Addr}{l:List Nat}(k:dc x H ρ H' cz) (h:sC H ρ a l) (hx:a≠x):sC H' cz a l:=
 ⟨by rw[k.role a (by rw[h.2];exact λz=>nomatch z)];exact h.1,k.keep _ _ h.2 hx⟩
theorem dc.cf {x:Addr}{as:List Addr}{ls:List (List Nat)}(k:dc x H ρ H' cz) (h:Paired (sC H ρ) as ls) (hx:ρ x≠5):Paired (sC H' cz) as ls:=
 Paired.mono (λa mo z=>k.kj z λe=>hx (by rw[←e];exact z.1)) h
theorem dc.room {x a:Addr}{y:Rm}(k:dc x H ρ H' cz) (h:ij CR H ρ a y) (hx:a≠x) (ho:ρ x≠100+a):ij CR H' cz a y:=by
 obtain ⟨h0,dx,o,p1,p2,q,h1,hq,h2,h3,h4,h5⟩:=h;refine ⟨by rw[k.role a (by rw[h1];exact λz=>nomatch z)];exact h0,dx,o,p1,p2,q,k.keep _ _ h1 hx,?_,?_,k.fr.lf _ _ h3,k.fr.lf _ _ h4,k.fr.lf _ _ h5⟩
 ·rw[k.role o (by rw[h2];exact λz=>nomatch z)];exact hq
 ·exact k.keep _ _ h2 λz=>ho (by rw[←z];exact hq)
theorem dc.rooms {x:Addr}{R:c9}{af:List (List bp×V)}(k:dc x H ρ H' cz) (h:Paired (sD CR H ρ) R af) (h7:ρ x≠7) (h8:ρ x<100):Paired (sD CR H' cz) R af:=
 Paired.mono (λe kv z=>let ⟨z1,a,z2,z3⟩:=z;⟨z1,a,z2,k.room z3 (λy=>h7 (by rw[←y];exact z3.1)) ZD⟩) h
theorem bE.GP (h:bE C CM CR H ρ A B) (s:aq H H') (role:∀a,H a≠none->cz a=ρ a) (iJ:∀a,cz a≠0->H' a≠none):bE C CM CR H' cz A B:=by
 have nn:∀{a:Addr}{o:HO},H a=some o->H a≠none:=λe z=>by rw[e]at z;cases z
 have rl:∀{a:Addr}{o:HO}{n:Nat},H a=some o->ρ a=n->cz a=n:=λe q=>by rw[role _ (nn e)];exact q
 have lf:aq (Lf ρ H) (Lf cz H'):=λa o e=>Lf.of (s _ _ (Lf.at e).1) (rl (Lf.at e).1 (Lf.at e).2)
 obtain ⟨af,g1,g2,g3⟩:=h.hg;refine ⟨s _ _ h.bk,rl h.bk h.pb,h.told.same lf,s _ _ h.hm,rl h.hm h.pm,Paired.mono (λa mo z=>?_) h.b9,h.nd,s _ _ h.hr,rl h.hr h.pr,Paired.mono (λa l z=>⟨rl z.2 z.1,s _ _ z.2⟩) h.cf,h.jL,⟨af,s _ _ g1,Paired.mono (λe kv z=>?_) g2,g3⟩,rl g1 h.pg,iJ⟩
 ·obtain ⟨h0,dx,t,y,h1,h2,h3⟩:=z;exact ⟨rl h1 h0,dx,t,y,s _ _ h1,lf _ _ h2,lf _ _ h3⟩
 ·obtain ⟨z1,a,z2,h0,dx,o,p1,p2,q,h1,hq,h2,h3,h4,h5⟩:=z;exact ⟨z1,a,z2,rl h1 h0,dx,o,p1,p2,q,s _ _ h1,rl h2 hq,s _ _ h2,lf _ _ h3,lf _ _ h4,lf _ _ h5⟩
theorem bE.same (h:bE C CM CR H ρ A B) (s:aq H H'):bE C CM CR H' ρ A B:=h.GP s (λ_a _a=>rfl) λa z=>by
 have:=h.iJ a z;cases e:H a with
 |none=>exact absurd e this
 |some o=>rw[s _ _ e];exact λy=>nomatch y
theorem gX {x:Addr}{o:HO}(hx:ρ x≠0):dc x H ρ (aj H x o) ρ:=⟨λa u e ne=>by rw[aA ne];exact e,λ_a _a=>rfl,hx⟩
theorem oy {x:Addr}{o:HO}(h:∀a,ρ a≠0->H a≠none):∀a,ρ a≠0->aj H x o a≠none:=λa z=>by
 by_cases e:a=x
 ·rw[e,ao];exact λy=>nomatch y
 ·rw[aA e];exact h a z
theorem d8.fr {d:Addr}{T:aQ}(h:d8 (Lf ρ H) d T) (f:Fr ρ H cz H'):d8 (Lf cz H') d T:=h.same f.lf
theorem bE.afl (h:bE C CM CR H ρ A B) {d:Addr}{T:aQ}{n:Nat}(ht:d8 (Lf ρ H) d T):
  bE C CM CR (aj H A.b (.ins C A.dx (eB (.ref d) (.ref A.m) (.ref A.r) (.ref A.g) (.int n)))) ρ {A with d:=d} {B with T:=T,now:=n}:=by
 have k:dc A.b H ρ (aj H A.b (.ins C A.dx (eB (.ref d) (.ref A.m) (.ref A.r) (.ref A.g) (.int n)))) ρ:=gX (by rw[h.pb];decide);have pb:=h.pb;obtain ⟨af,g1,g2,g3⟩:=h.hg;exact ⟨ao,pb,ht.fr k.fr,(k.at h.hm h.pm (by rw[pb];decide)).1,h.pm,k.b9 h.b9 (by rw[pb];decide),h.nd,(k.at h.hr h.pr (by rw[pb];decide)).1,h.pr,k.cf h.cf (by rw[pb];decide),h.jL,⟨af,(k.at g1 h.pg (by rw[pb];decide)).1,k.rooms g2 (by rw[pb];decide) (by rw[pb];decide),g3⟩,h.pg,oy h.iJ⟩
theorem bE.afm (h:bE C CM CR H ρ A B) {as:List Addr}{ms:List Vbdbag.Motion}(hp:Paired (qf CM H ρ) as ms) (hn:as.Nodup):bE C CM CR (aj H A.m (.lst (as.map V.ref))) ρ {A with as:=as} {B with ms:=ms}:=by have p:=h.pm;have k:dc A.m H ρ (aj H A.m (.lst (as.map V.ref))) ρ:=gX (by rw[p];decide);obtain ⟨af,g1,g2,g3⟩:=h.hg;exact ⟨(k.at h.bk h.pb (by rw[p];decide)).1,h.pb,h.told.fr k.fr,ao,p,k.b9 hp (by rw[p];decide),hn,(k.at h.hr h.pr (by rw[p];decide)).1,h.pr,k.cf h.cf (by rw[p];decide),h.jL,⟨af,(k.at g1 h.pg (by rw[p];decide)).1,k.rooms g2 (by rw[p];decide) (by rw[p];decide),g3⟩,h.pg,oy h.iJ⟩
theorem GQ {α β:Type}{F G:α->β->Prop}:∀{l₁:List α}{l₂:List β}{i:Nat}{b:β},Paired F l₁ l₂->(∀a b',F a b'->l₁[i]? ≠some a->G a b')->(∀a,l₁[i]? =some a->G a b)->l₁.Nodup->Paired G l₁ (l₂.set i b)
 |_,_,i,b,.nil,_,_,_=>by rw[List.set_nil];exact .nil
 |_,_,0,b,.cons (a:=a) (l₁:=l₁) q r,h1,h2,hn=>by
  rw[xa]at hn;rw[List.set_cons_zero];refine .cons (h2 a rfl) ?_;have:∀{l₁:List α}{l₂:List β},Paired F l₁ l₂->(∀x∈l₁,x≠a)->Paired G l₁ l₂:=by
   intro l₁ l₂ p;induction p with
   |nil=>intro _;exact .nil
   |cons q r ih=>intro hx;exact .cons (h1 _ _ q λz=>hx _ yV (xX z).symm) (ih λy hy=>hx y (yU _ hy))
  exact this r λx hx z=>hn.1 (z▸hx)
 |_,_,i+1,b,.cons (a:=a) (l₁:=l₁) q r,h1,h2,hn=>by rw[xa]at hn;rw[List.set_cons_succ];refine .cons (h1 _ _ q λz=>hn.1 (yY (by simpa using z))) (GQ r (λa b' f z=>h1 a b' f (by simpa using z)) (λa z=>h2 a (by simpa using z)) hn.2)
theorem bE.afn (h:bE C CM CR H ρ A B) {i:Nat}{a dx t y:Addr}{mo:Vbdbag.Motion}{s:Bool}(hi:A.as[i]? =some a) (hm:B.ms[i]? =some mo) (h1:H a=some (.ins CM dx (ig (.int mo.level) (.ref t) (.ref y) (.bl mo.struck)))):
  bE C CM CR (aj H a (.ins CM dx (ig (.int mo.level) (.ref t) (.ref y) (.bl s)))) ρ A {B with ms:=B.ms.set i {mo with struck:=s}}:=by
 obtain ⟨mo',e1,p,dx',t',y',e2,e3,e4⟩:=hU h.b9 hi;rw[hm]at e1;cases e1;rw[h1]at e2;cases e2;have k:dc a H ρ (aj H a (.ins CM dx (ig (.int mo.level) (.ref t) (.ref y) (.bl s)))) ρ:=gX (by rw[p];decide);obtain ⟨af,g1,g2,g3⟩:=h.hg;refine ⟨(k.at h.bk h.pb (by rw[p];decide)).1,h.pb,h.told.fr k.fr,(k.at h.hm h.pm (by rw[p];decide)).1,h.pm,GQ h.b9 (λb m' z hb=>k.mD z λe=>hb (by rw[e];exact hi)) (λb hb=>?_) h.nd,h.nd,(k.at h.hr h.pr (by rw[p];decide)).1,h.pr,k.cf h.cf (by rw[p];decide),h.jL,⟨af,(k.at g1 h.pg (by rw[p];decide)).1,k.rooms g2 (by rw[p];decide) (by rw[p];decide),g3⟩,h.pg,oy h.iJ⟩;rw[hi]at hb;cases hb;exact ⟨p,dx,t,y,ao,k.fr.lf _ _ e3,k.fr.lf _ _ e4⟩
theorem bE.QY (h:bE C CM CR H ρ A B) {rr:List Addr}{rs:List (List Nat)}(hp:Paired (sC H ρ) rr rs) (hn:rr.Nodup):bE C CM CR (aj H A.r (.lst (rr.map V.ref))) ρ {A with rr:=rr} {B with rs:=rs}:=by have p:=h.pr;have k:dc A.r H ρ (aj H A.r (.lst (rr.map V.ref))) ρ:=gX (by rw[p];decide);obtain ⟨af,g1,g2,g3⟩:=h.hg;exact ⟨(k.at h.bk h.pb (by rw[p];decide)).1,h.pb,h.told.fr k.fr,(k.at h.hm h.pm (by rw[p];decide)).1,h.pm,k.b9 h.b9 (by rw[p];decide),h.nd,ao,p,k.cf hp (by rw[p];decide),hn,⟨af,(k.at g1 h.pg (by rw[p];decide)).1,k.rooms g2 (by rw[p];decide) (by rw[p];decide),g3⟩,h.pg,oy h.iJ⟩
theorem bE.afo (h:bE C CM CR H ρ A B) {i:Nat}{a:Addr}{l:List Nat}(hi:A.rr[i]? =some a):bE C CM CR (aj H a (.lst (vi (nI l)))) ρ A {B with rs:=B.rs.set i l}:=by obtain ⟨l',e1,p,e2⟩:=hU h.cf hi;have k:dc a H ρ (aj H a (.lst (vi (nI l)))) ρ:=gX (by rw[p];decide);obtain ⟨af,g1,g2,g3⟩:=h.hg;refine ⟨(k.at h.bk h.pb (by rw[p];decide)).1,h.pb,h.told.fr k.fr,(k.at h.hm h.pm (by rw[p];decide)).1,h.pm,k.b9 h.b9 (by rw[p];decide),h.nd,(k.at h.hr h.pr (by rw[p];decide)).1,h.pr,GQ h.cf (λb m' z hb=>k.kj z λe=>hb (by rw[e];exact hi)) (λb hb=>?_) h.jL,h.jL,⟨af,(k.at g1 h.pg (by rw[p];decide)).1,k.rooms g2 (by rw[p];decide) (by rw[p];decide),g3⟩,h.pg,oy h.iJ⟩;rw[hi]at hb;cases hb;exact ⟨p,ao⟩
theorem bE.afp (h:bE C CM CR H ρ A B) {af:List (List bp×V)}{k:Nat×Nat}{a:Addr}(hg:H A.g=some (.dT af)) (hn:bF B.rooms k=none) (hr:ij CR H ρ a ⟨[],[],[]⟩) (hf:∀kv∈af,kv.2≠ .ref a):
  bE C CM CR (aj H A.g (.dT (dC af (cq k) (.ref a)))) ρ A {B with rooms:=B.rooms++ [(k,⟨[],[],[]⟩)]}:=by
 have p:=h.pg;have kp:dc A.g H ρ (aj H A.g (.dT (dC af (cq k) (.ref a)))) ρ:=gX (by rw[p];decide);obtain ⟨afq,g1,g2,g3⟩:=h.hg;rw[hg]at g1;cases g1;have hv:cn af (cq k)=none:=by
  rcases om (H:=H) (CR:=CR) k (Paired.mono (λe kv z=>let ⟨z1,a,z2,z3⟩:=z;⟨z1,a,z2,z3.at⟩) g2) with z|⟨x,b,z,_⟩
  ·exact z.2
  ·rw[hn]at z;cases z
 have GR:(af.any λkv=>decide (kv.1=cq k))=false:=by rw[ze];intro z;obtain ⟨kv,fz,e⟩:=zB.mp z;unfold cn at hv;rw[xU,zY]at hv;exact hv kv fz e
 have CL:dC af (cq k) (.ref a)=af++ [(cq k,.ref a)]:=by unfold dC;rw[Zw (by rw[GR];decide)]
 rw[CL]at kp⊢;have hx:ρ A.g≠7:=by rw[p];decide
 have hy:ρ A.g<100:=by rw[p];decide
 refine ⟨(kp.at h.bk h.pb (by rw[p];decide)).1,h.pb,h.told.fr kp.fr,(kp.at h.hm h.pm (by rw[p];decide)).1,h.pm,kp.b9 h.b9 (by rw[p];decide),h.nd,(kp.at h.hr h.pr (by rw[p];decide)).1,h.pr,kp.cf h.cf (by rw[p];decide),h.jL,⟨_,ao,Paired.snoc (kp.rooms g2 hx hy) ⟨rfl,a,rfl,kp.room hr (λy=>hx (by rw[←y];exact hr.1)) ZD⟩,?_⟩,p,oy h.iJ⟩;rw[yH];refine rD g3 λz=>?_
 obtain ⟨kv,fz,e⟩:=List.mem_map.mp z;exact hf kv fz e
theorem BU:∀{R:c9}{af:List (List bp×V)},Paired (sD CR H ρ) R af->af.map (λz=>z.1)=(R.map λe=>e.1).map cq
 |_,_,.nil=>rfl
 |_,_,.cons q r=>by rw[yJ,yJ,yJ,q.1,BU r]
theorem bE.QZ (h:bE C CM CR H ρ A B) {af:List (List bp×V)}{k:Nat×Nat}{a x:Addr}{o:HO}{y:Rm}{g:Rm->Rm}(hg:H A.g=some (.dT af)) (hx:cn af (cq k)=some (.ref a)) (hy:bF B.rooms k=some y) (eK:(B.rooms.map λe=>e.1).Nodup) (px:ρ x=7/\x=a\/ρ x=100+a)
  (hr:ij CR (aj H x o) ρ a (g y)):bE C CM CR (aj H x o) ρ A {B with rooms:=cM B.rooms k g}:=by
 have p7:ρ x=7\/100<=ρ x:=by rcases px with z|z<;>omega
 have kp:dc x H ρ (aj H x o) ρ:=gX ZD;obtain ⟨afq,g1,g2,g3⟩:=h.hg;rw[hg]at g1;cases g1;refine ⟨(kp.at h.bk h.pb ZD).1,h.pb,h.told.fr kp.fr,(kp.at h.hm h.pm ZD).1,h.pm,kp.b9 h.b9 ZD,h.nd,(kp.at h.hr h.pr ZD).1,h.pr,kp.cf h.cf ZD,h.jL,⟨af,(kp.at hg h.pg ZD).1,?_,g3⟩,h.pg,oy h.iJ⟩;have eu:cM B.rooms k g=B.rooms.map λe=>if e.1=k then (e.1,g e.2) else e:=by unfold cM;rw[hy]
 show Paired _ (cM B.rooms k g) af;rw[eu];have key:∀{R:c9}{kv:List (List bp×V)},Paired (sD CR H ρ) R kv->(R.map λe=>e.1).Nodup->(kv.map λz=>z.2).Nodup->(∀z∈kv,z.1=cq k ↔ z.2= .ref a)->(∀e∈R,e.1=k->e.2=y)->Paired (sD CR (aj H x o) ρ) (R.map λe=>if e.1=k then (e.1,g e.2) else e) kv:=by
  intro R kv q;induction q with
  |nil=>intro _ _ _ _;exact .nil
  | @cons e z l₁ l₂ q r ih=>
   intro n1 n2 n3 n4;rw[yJ]at n1 n2⊢;rw[xa]at n1 n2;refine .cons ?_ (ih n1.2 n2.2 (λz hz=>n3 z (yU _ hz)) λe he=>n4 e (yU _ he));obtain ⟨q1,b,q2,q3⟩:=q;have Q0:=n3 z yV;by_cases hk:e.1=k
   ·rw[Zx hk];have zb:b=a:=by have:=Q0.mp (by rw[q1,hk]);rw[q2]at this;exact V.ref.inj this
    refine ⟨q1,b,q2,?_⟩;rw[zb];show ij CR (aj H x o) ρ a (g e.2);rw[n4 e yV hk];exact hr
   ·rw[Zw hk];have zb:b≠a:=λw=>hk (sA (by rw[←q1];exact Q0.mpr (by rw[q2,w])))
    refine ⟨q1,b,q2,kp.room q3 (λw=>?_) ?_⟩
    ·rcases px with ⟨_,z⟩|z
     ·exact zb (w.trans z)
     ·have:=q3.1;rw[w]at this;omega
    ·rcases px with ⟨z,_⟩|z
     ·omega
     ·exact λw=>zb (Nat.add_left_cancel (w.symm.trans z))
 have sE:(af.map λz=>z.1).Nodup:=by rw[BU g2];exact vz (λx y z=>sA z) eK
 obtain ⟨vE,m0,e1,e2⟩:∃vE∈af,vE.1=cq k/\vE.2= .ref a:=by unfold cn at hx;obtain ⟨vE,f,e⟩:=Option.map_eq_some_iff.mp hx;exact ⟨vE,yX f,by have:=zZ f;exact ZA this,e⟩
 refine key g2 eK g3 (λz hz=>⟨λq=>?_,λq=>?_⟩) λe he hk=>?_
 ·rw[BQ sE hz m0 (q.trans e1.symm)];exact e2
 ·rw[BQ g3 hz m0 (q.trans e2.symm)];exact e1
 ·have:=BQ eK he (mV hy) hk;rw[this]
noncomputable def dF (C CM CR:Addr) (H:Hp) (ρ:Rl) (A:Ad) (B:bc) (Q:VK) (c:Vbdbag.Call):Prop:=∀(H':Hp) (cz:Rl) (A':Ad) (B':bc) (q:Addr),A'.b=A.b->bE C CM CR H' cz A' B'->Ok B'->ak B'=(Vbdbag.step (ak B) c).1->Fr ρ H cz H'->H q=none->cz q=0->H' q=some (.lst (vi (iP (Vbdbag.step (ak B) c).2)))->Q (.ref q) H'
theorem bE.free (h:bE C CM CR H ρ A B) {q:Addr}(hq:H q=none):ρ q=0:=by
 by_cases z:ρ q=0
 ·exact z
 ·exact absurd hq (h.iJ q z)
theorem dF.ret {Q:VK}{c:Vbdbag.Call}{a:Vbdbag.Answer}(d:dF C CM CR H ρ A B Q c) (F:bE C CM CR H ρ A B) (O:Ok B) (e:Vbdbag.step (ak B) c=(ak B,a)):dO H Q (vi (iP a)):=λH' p s hp hq=>
 d H' ρ A B p rfl (F.same s) O (by rw[e]) (Fr.of s) hp (F.free hp) (by rw[e];exact hq)
theorem dF.no {Q:VK}{c:Vbdbag.Call}{n:Int}(d:dF C CM CR H ρ A B Q c) (F:bE C CM CR H ρ A B) (O:Ok B) (e:Vbdbag.step (ak B) c=Vbdbag.no (ak B) n):dO H Q [.int n]:=d.ret F O e
theorem dO.one {Q:VK}{H1:Hp}{v:V}{q:Addr}(r:dO H Q [v]) (s:aq H H1) (hq:H1 q=none):Q (.ref q) (aj H1 q (.lst [v])):=r _ q (aU s (s.free hq)) (s.free hq) ao
end
section
noncomputable def afr (K:PySem.W.Frag):Sp:=λvs H Q _a=>∃(s:Nat),vs= [.int s]/\(s=2\/s=4)/\Q (.int (gf s)) H
noncomputable abbrev BV:Prop:=a7 P w K mg base 1 "points_of_room" ["size"] (afr K)
theorem afs (n:a9 K mg "points_of_room" Po) (T:Txt K mg):BV:=by
  refine bf ["size"] n λf aK A aJ s H vs Q E hr nd hu h=>?_
  obtain ⟨s,rfl,hs,kk⟩:=h;obtain ⟨aft,GS⟩:=T.P4;refine ⟨_,(aC (aF (bx eO (bJ K T.bG (N0 (K:=K) GS rfl (pv 0) (λ_a _a=>rfl))) aH))),?_⟩;rcases hs with rfl|rfl
  ·exact ⟨_,rfl,2,_,rfl,yV,λp hp=>⟨p,_,rfl,.inr (hp _),_,_,rfl,rfl,kk⟩⟩
  ·exact ⟨_,rfl,4,_,rfl,yU _ yV,λp hp=>⟨p,_,rfl,.inr (hp _),_,_,rfl,rfl,kk⟩⟩
noncomputable def afu (K:PySem.W.Frag):Sp:=λvs H Q _a=>∃(p t:Addr) (a b:List Nat),vs= [.ref p,.ref t]/\H p=some (.lst (vi (nI a)))/\(∀H,cu K H t (vi (nI b)))/\0<a.length/\0<b.length/\a.length<=5000/\b.length<=10/\(∀x∈b,x<=1000)/\dO H Q (vi (nI (conv a b)))
noncomputable abbrev GU:Prop:=a7 P w K mg base 1 "with_another_room" ["ways","room"] (afu K)
theorem afv (n:a9 K mg "with_another_room" Pp) (T:Txt K mg):GU:=by
  refine bf ["ways","room","more","before","points"] n λf aK A aJ s H vs Q E hr nd hu h=>?_
  obtain ⟨p,t,a,b,rfl,hp,ht,ha,hb,la,lb,hx,kk⟩:=h;refine ⟨_,(aB (bj 2 nd (bx YE (aW (ai aH)) (bx eO (bx eN (bJ K T.bG (pv 0)) (bJ K T.bG (pv 1))) aH)))
   (aB (eW PassesOwn.never rfl (qR rfl T.j8 (ai (bJ K T.bG (pv 0)))) (cH 3 nd) (aC (eW PassesOwn.never rfl (qR rfl T.j8 (ai (bJ K T.bG (pv 1)))) (cH 4 nd) (aC (WZ (pv 2) (bx eN (pv 3) (pv 4)) (abV (K:=K)) (bx lV (bL K (pv 0) (pv 3)) (mn K (pv 1) (pv 4))) LO Ef)))))
   (aC (aF (pv 2))))),?_⟩
  have hz:(6000:Nat)<=sizeLine:=by decide
  refine ⟨by show 1<=sizeLine;decide,λq hq=>?_⟩;have sq:∀o,aq H (aj H q o):=λo=>bU hq
  refine ⟨_,rfl,p,_,rfl,.inl (ag.of (sq _ _ _ hp)),_,rfl,t,_,rfl,.inr (ht _),_,_,rfl,rfl,_,_,rfl,rfl,q,((a.length+b.length - 1:Nat):Int),_,rfl,?_,ao,by omega,by omega,?_,λm hm=>?_⟩
  ·have e:((a.length:Int)+(b.length:Int) - 1)=((a.length+b.length - 1:Nat):Int):=by omega
   rw[bY,bY,←e]
  ·rw[zt];simp only[yu,yB];omega
  obtain ⟨m1,m2⟩:=bK hm;have sm:∀o,aq H (aj (aj H q (.lst [.int 0])) m o):=λo=>aU (sq _) m2
  have e0:(List.replicate (((a.length+b.length - 1:Nat):Int)).toNat [V.int 0]).flatten=vi (nI (fR a b 0 0)):=by
   rw[zt,V9];generalize a.length+b.length - 1=n;induction n with
   |zero=>rfl
   |succ n ih=>rw[xk,y2,ih,xk];rfl
  rw[e0];refine ⟨_,rfl,p,_,rfl,.inl (ag.of (sm _ _ _ hp)),(a.length:Int),by rw[bY],by omega,by omega,qV (λi σ H'=>∃v w:Option V,σ= [some (.ref p),some (.ref t),some (.ref m),v,w]/\aq H H'/\H' m=some (.lst (vi (nI (fR a b i 0))))) ⟨none,none,rfl,sm _,ao⟩ ?_ ?_⟩
  ·rintro i σ H' hi ⟨v,w,rfl,s,hM⟩;rw[zt]at hi;refine ⟨_,rfl,t,_,rfl,.inr (ht _),(b.length:Int),by rw[bY],by omega,by omega,qV (λj σ H'=>∃w:Option V,σ= [some (.ref p),some (.ref t),some (.ref m),some (.int (0+(i:Int))),w]/\aq H H'/\H' m=some (.lst (vi (nI (fR a b i j))))) ⟨w,rfl,s,hM⟩ ?_ ?_⟩
   ·rintro j σ H2 hj ⟨w2,rfl,s2,vF⟩;rw[zt]at hj;have oP:i+j<a.length+b.length - 1:=by omega
    refine ⟨_,rfl,_,rfl,_,rfl,_,_,rfl,rfl,m,_,_,.int (lJ a b i j (i+j):Nat),rfl,rfl,ag.of vF,my (i:=i+j) (lA (Wc a b oP)) ZD,_,rfl,_,rfl,p,_,_,.int (a.getD i 0:Nat),rfl,rfl,ag.of (s2 _ _ hp),my (i:=i) (lA (getD_some hi)) ZD,_,rfl,_,rfl,t,_,_,.int (b.getD j 0:Nat),rfl,rfl,ht _,my (i:=j) (lA (getD_some hj)) ZD,_,_,rfl,rfl,.inr ?_,_,_,rfl,rfl,m,_,_,i+j,rfl,rfl,vF,?_,_,rfl,aU s2 m2,?_⟩
    ·have:=hx _ (getD_mem hj);omega
    ·unfold jr;rw[bY,Lm,Zx ZD,Zx ZD];congr 1;omega
    ·rw[ao,Wd a b oP];show some (HO.lst (((Vbdbag.ints _).map V.int).set _ _))=some (HO.lst ((Vbdbag.ints _).map V.int));unfold Vbdbag.ints;rw[yP,yP];congr 3
   ·rintro σ H2 ⟨w2,rfl,s2,vF⟩;rw[zt,Wa]at vF;exact ⟨_,_,rfl,s2,vF⟩
  ·rintro σ H' ⟨v,w,rfl,s,hM⟩;rw[zt,Wb]at hM;exact ⟨_,rfl,kk H' m s m2 hM⟩
noncomputable def afw (K:PySem.W.Frag):Sp:=λvs H Q _a=>∃(s n:Nat),vs= [.int s,.int n]/\(s=2\/s=4)/\n<=300/\dO H Q (vi (nI (wB s n)))
noncomputable abbrev BW:Prop:=a7 P w K mg base 2 "ways_of_rooms" ["size","rooms"] (afw K)
theorem afx (n:a9 K mg "ways_of_rooms" Pq) (T:Txt K mg) (GV:GU):BW:=by
  refine bf ["size","rooms","ways","turn"] n λf aK A aJ s H vs Q E hr nd hu h=>?_
  obtain ⟨s,n,rfl,hs,hn,kk⟩:=h;obtain ⟨aft,GS⟩:=T.P4;refine ⟨_,(aB (bj 2 nd (aW (ai aH)))
   (aB (eW PassesOwn.never rfl (qR rfl T.j8 (ai (pv 1))) (cH 3 nd) (aC (bj 2 nd (aD GV hr (au (pv 2) (ai (N0 (K:=K) GS rfl (pv 0) (λ_a _a=>rfl))))))))
   (aC (aF (pv 2))))),?_⟩
  refine ⟨by show 1<=sizeLine;decide,λq hq=>?_⟩;refine ⟨_,rfl,(n:Int),rfl,by omega,by omega,qV (λi σ H'=>∃(v:Option V) (p:Addr),σ= [some (.int s),some (.int n),some (.ref p),v]/\aq H H'/\H p=none/\H' p=some (.lst (vi (nI (wB s i))))) ⟨none,q,rfl,bU hq,hq,ao⟩ ?_ ?_⟩
  ·rintro i σ H' hi ⟨v,p,rfl,s1,hp,hP⟩;rw[zt]at hi;have hl:(wB s i).length<=5000:=by
    rw[Ab];have h1:gf s<=6:=by rcases hs with rfl|rfl<;>decide
    have:=Nat.mul_le_mul (show i<=300 by omega) h1;omega
   rcases hs with rfl|rfl
   ·refine ⟨_,rfl,_,rfl,2,_,rfl,yV,λt ht=>?_⟩;exact ⟨p,t,wB 2 i,iS 2,rfl,hP,ht,(qG 2 i).1,(oS 2).1,hl,by decide,by decide,λH2 r s2 hr hR=>⟨_,r,rfl,s1.trans s2,s1.free hr,hR⟩⟩
   ·refine ⟨_,rfl,_,rfl,4,_,rfl,yU _ yV,λt ht=>?_⟩;exact ⟨p,t,wB 4 i,iS 4,rfl,hP,ht,(qG 4 i).1,(oS 4).1,hl,by decide,by decide,λH2 r s2 hr hR=>⟨_,r,rfl,s1.trans s2,s1.free hr,hR⟩⟩
  ·rintro σ H' ⟨v,p,rfl,s1,hp,hP⟩;rw[zt]at hP;exact ⟨_,rfl,kk H' p s1 hp hP⟩
noncomputable def afy (K:PySem.W.Frag):Sp:=λvs H Q _a=>∃(p:Addr) (l:List Nat) (a:Nat),vs= [.ref p,.int a]/\H p=some (.lst (vi (nI l)))/\Q (.int (fo l a)) H
noncomputable abbrev BX:Prop:=a7 P w K mg base 1 "from_even" ["ways","points"] (afy K)
theorem afz (n:a9 K mg "from_even" Pr) (T:Txt K mg):BX:=by
  refine bf ["ways","points"] n λf aK A aJ s H vs Q E hr nd hu h=>?_
  obtain ⟨p,l,a,rfl,hp,kk⟩:=h;refine ⟨_,(aC (aF (fw Xm (by rfl) T.ab2 aa3 (ai (bx eO (bx lV aH (pv 1)) (bx eO (bJ K T.bG (pv 0)) aH)))))),?_⟩;refine ⟨_,rfl,_,_,rfl,rfl,.inl ⟨by decide,by decide⟩,_,rfl,p,_,rfl,.inl (ag.of hp),_,_,rfl,rfl,_,_,rfl,rfl,_,rfl,?_⟩;rw[bY];have e:(if 2*(a:Int) - ((l.length:Int) - 1)<0 then -(2*(a:Int) - ((l.length:Int) - 1)) else 2*(a:Int) - ((l.length:Int) - 1))=((fo l a:Nat):Int):=by unfold fo;split<;>omega
  rw[e];exact kk
noncomputable def afA (K:PySem.W.Frag):Sp:=λvs H Q _a=>∃(p:Addr) (l:List Nat) (a:Nat),vs= [.ref p,.int a]/\H p=some (.lst (vi (nI l)))/\Q (.int (l.getD a 0)) H
noncomputable abbrev GW:Prop:=a7 P w K mg base 1 "just_so" ["ways","points"] (afA K)
theorem afB (n:a9 K mg "just_so" Pt) (T:Txt K mg):GW:=by
  refine bf ["ways","points"] n λf aK A aJ s H vs Q E hr nd hu h=>?_
  obtain ⟨p,l,a,rfl,hp,kk⟩:=h;refine ⟨_,(aC (aF (DE (bz o9 (pv 1) (bJ K T.bG (pv 0))) (bL K (pv 0) (pv 1)) aH))),?_⟩;refine ⟨_,rfl,_,rfl,p,_,rfl,.inl (ag.of hp),_,_,rfl,rfl,_,rfl,aI (λe=>?_) (λe=>?_)⟩
  ·rw[Zt,bY]at e;have hi:a<l.length:=by omega
   exact ⟨_,rfl,_,rfl,p,_,_,.int (l.getD a 0:Nat),rfl,rfl,ag.of hp,my (lA (getD_some hi)) rfl,kk⟩
  ·rw[Zr,bY]at e;have hi:l.length<=a:=by omega
   rw[jg hi]at kk;exact kk
noncomputable def afC (K:PySem.W.Frag):Sp:=λvs H Q _a=>∃(p:Addr) (l:List Nat) (a:Nat),vs= [.ref p,.int a]/\H p=some (.lst (vi (nI l)))/\l.length<=5000/\∀H',aq H H'->Q (.int (jV l a)) H'
noncomputable abbrev BY:Prop:=a7 P w K mg base 2 "so_far_or_further" ["ways","points"] (afC K)
theorem afD (n:a9 K mg "so_far_or_further" Pu) (T:Txt K mg) (qg:BX):BY:=by
  refine bf ["ways","points","far","other"] n λf aK A aJ s H vs Q E hr nd hu h=>?_
  obtain ⟨p,l,a,rfl,hp,hl,kk⟩:=h;refine ⟨_,(aB (bj 2 nd (aD qg hr (au (pv 0) (ai (pv 1)))))
   (aC (aF (fw (rL (K:=K)) (by rfl) T.rO rG (ai (gR nd (qR rfl T.j8 (ai (bJ K T.bG (pv 0)))) (own:= [("other",3)]) (by rfl) (λ_a _a _a _a _a=>cH 3 nd) (λ_a _a _a _a _a=>(nM (bz Xl (aD qg hr (au (pv 0) (ai (pv 3)))) (pv 2)))) (λ_a _a _a _a _a=>(bL K (pv 0) (pv 3))))))))),?_⟩
  refine ⟨_,rfl,_,rfl,p,l,a,rfl,hp,?_⟩;refine ⟨_,rfl,p,_,rfl,.inl (ag.of hp),(l.length:Int),by rw[bY],by omega,by omega,λD hD=>EA (λi H'=>aq H H'/\H' D=some (.lst (vi (nI (((List.range i).filter λo=>decide (fo l a<=fo l o)).map λo=>l.getD o 0))))) ⟨bU hD,ao⟩ ?_ ?_⟩
  ·rintro i H' hi ⟨s,hO⟩;rw[zt]at hi;refine ⟨rfl,?_⟩;refine ⟨_,rfl,_,rfl,p,l,i,by simp,s _ _ hp,_,rfl,_,_,rfl,rfl,_,rfl,aI (λe=>?_) (λe=>?_)⟩
   ·have e':fo l a<=fo l i:=by rw[Zt]at e;omega
    refine ⟨_,rfl,_,rfl,p,_,_,.int (l.getD i 0:Nat),rfl,rfl,ag.of (s _ _ hp),my (lA (getD_some hi)) ZD,_,hO,?_,aU s hD,?_⟩
    ·rw[bY,yA];have:=yz (λo=>decide (fo l a<=fo l o)) (List.range i);rw[yC]at this;exact dv ZD
    ·rw[ao,Ac,Zx (Zs e'),yH,kl,dw];rfl
   ·have e':¬fo l a<=fo l i:=by rw[Zr]at e;omega
    refine ⟨s,?_⟩;rw[Ac,Zw (by rw[Zq e'];decide),zE];exact hO
  ·rintro H' ⟨s,hO⟩;rw[zt]at hO;refine ⟨D,_,rfl,ag.of hO,?_⟩;rw[qJ];exact kk H' s
end
section
theorem Q1 {H H':Hp}{d:Addr}{od:Obj}{u:HO}(hd:H d=some u) (s:aq (aj H d (.bI od u)) H'):aq H (aj H' d u):=λb o e=>by
 by_cases hb:b=d
 ·rw[hb,hd]at e;cases e;rw[hb,ao]
 ·rw[aA hb];exact s _ _ (by rw[aA hb];exact e)
theorem cP.Q2 {C CM CR:Addr}{H:Hp}{A:Ad}{B:bc}{af:List (List bp×V)}(h:cP C CM CR H A B) (hg:H A.g=some (.dT af)) (od:Obj):cP C CM CR (aj H A.g (.bI od (.dT af))) A B:=
 h.AO (.inl hg) (λb o e ne=>by rw[aA ne];exact e) (.inr ⟨od,ao⟩)
theorem cP.vG {C CM CR:Addr}{H:Hp}{A:Ad}{B:bc}{af:List (List bp×V)}(h:cP C CM CR H A B) (hg:Rd H A.g (.dT af)):Paired (oh CR H) B.rooms af:=by
 obtain ⟨kv,e1,e2⟩:=h.oj;have:kv=af:=by rcases e1 with a|⟨o,a⟩<;>rcases hg with b|⟨o',b⟩<;>rw[a]at b<;>cases b<;>rfl
 subst this;exact e2
noncomputable def Q3 (C:Addr):Sp:=λvs H Q _a=>∃(p dx:Addr),vs= [.ref p]/\H p=some (.ins C dx [])/\∀(H':Hp) (o p1 p2 q:Addr),H' p=some (.ins C dx (jJ (.ref o) (.ref q)))->H o=none->H p1=none->H p2=none->H q=none->o≠p1->o≠p2->o≠q->H' o=some (.lst [.ref p1,.ref p2])->H' p1=some (.lst [])->H' p2=some (.lst [])->H' q=some (.lst [])->(∀b o,H b=some o->b≠p->H' b=some o)->Q .bT H'
theorem Q4:jq ["self"] ["self"] (df Fq):=⟨rfl,rfl,rfl,by decide +kernel,rfl,by decide +kernel,by decide +kernel⟩
noncomputable abbrev Q5:Prop:=hX P w K mg base 1 "Room" aN ["self"] (Q3 aN)
theorem afE {f C:Addr}{fd:FuncData}(F:gv K "__init__" "Room.__init__" Fq f fd) (T:Txt K mg) (L:cp K mg C) (M:Mk K C f):hX P w K mg base 1 "Room" C ["self"] (Q3 C):=by
 refine uY F L.mg M Q4 (λ_a _a _a _a _a _a us hl=>match us,hl with| [_],_=>rfl) (λvs H Q E h=>?_) (λaK A aJ s H vs Q E hr h=>?_)
 ·obtain ⟨p,dx,rfl,_⟩:=h;rfl
 ·obtain ⟨p,dx,rfl,hp,kk⟩:=h;have nd:=Q4.nd;have hu:=pE hr;refine ⟨_,(aB (eP (pv 0) (aW (au (aW cW) (ai (aW cW)))) rfl)
   (aC (eP (pv 0) (aW cW) rfl))),?_⟩
  refine ⟨xQ _,λp1 h1=>⟨xQ _,λp2 h2=>⟨by show 2<=sizeLine;decide,λo ho=>?_⟩⟩⟩;obtain ⟨a1,a2⟩:=bK h2;obtain ⟨b1,b2⟩:=bK ho;obtain ⟨b3,b4⟩:=bK b2;have vH:p≠p1:=b8 hp h1;have vI:p≠p2:=b8 hp a2;have GX:p≠o:=b8 hp b4;refine ⟨_,rfl,p,C,dx,[],rfl,by rw[aA GX,aA vI,aA vH];exact hp,L.cl,L.rR,by decide,⟨xQ _,λq hq=>?_⟩⟩;obtain ⟨c1,c2⟩:=bK hq;obtain ⟨c3,c4⟩:=bK c2;obtain ⟨c5,c6⟩:=bK c4;obtain ⟨c7,c8⟩:=bK c6;refine ⟨_,rfl,p,C,dx,_,rfl,by rw[aA (xR c1),ao],L.cl,L.u7,(by show 1<1000;decide),?_⟩;refine kk _ o p1 p2 q ao b4 h1 a2 c8 b3 b1 (xR c3) ?_ ?_ ?_ ?_ ?_
  ·rw[aA (xR GX),aA (xR c3),aA (xR GX),ao]
  ·rw[aA (xR vH),aA (xR c7),aA (xR vH),aA (xR b3),aA (xR a1),ao]
  ·rw[aA (xR vI),aA (xR c5),aA (xR vI),aA (xR b1),ao]
  ·rw[aA c1,ao]
  ·intro b u e nb;rw[aA nb,aA (b8 e c8),aA nb,aA (b8 e b4),aA (b8 e a2),aA (b8 e h1)];exact e
noncomputable def afF (C CM CR:Addr):Sp:=λvs H Q _a=>∃(A:Ad) (B:bc) (k:Nat) (z:Int),vs= [.ref A.b,.int k,.int z]/\cP C CM CR H A B/\∀H',aq H H'->Q (.bl (gZ B.rooms k z).isSome) H'
noncomputable abbrev vJ:Prop:=a7 P w K mg base 1 "has_room" ["bank","stage","number"] (afF aE aM aN)
theorem afG (n:a9 K mg "has_room" OP) (T:Txt K mg) (aw:b6 K mg aE) (aL:bZ K mg aM) (aS:cp K mg aN):vJ:=by
  refine bf ["bank","stage","number"] n λf aK A aJ s H vs Q E hr nd hu h=>?_
  obtain ⟨A,B,k,z,rfl,hB,kk⟩:=h;refine ⟨_,(aC (aF (WI (M6 hu (lY (au (pv 1) (ai (pv 2)))) (aP K (pv 0)))))),?_⟩;obtain ⟨af,hg,hP⟩:=hB.oj;refine ⟨_,rfl,_,rfl,by show 2<=sizeLine;decide,λt ht=>?_⟩;have s:=bU (o:= .bP [.int (k:Int),.int z]) ht;have cy:=hB.same s;refine ⟨_,rfl,A.b,aE,A.dx,_,_,rfl,cy.bk,aw.cl,aw.nU,pX _ _ _ _ _,A.g,cn af [.inl (k:Int),.inl z],rfl,.inr ⟨af,[.inl (k:Int),.inl z],t,Rd.same s hg,rfl,ao,rfl⟩,?_⟩;have e:(cn af [.inl (k:Int),.inl z]).isSome=(gZ B.rooms k z).isSome:=by
   unfold gZ;by_cases hz:z<0
   ·rw[Zx hz,QW k hz hP];rfl
   ·rw[Zw hz];have ek:([.inl (k:Int),.inl z]:List bp)=cq (k,z.toNat):=by unfold cq;rw[show ((z.toNat:Nat):Int)=z by omega]
    rw[ek];rcases om (k,z.toNat) hP with ⟨h1,h2⟩|⟨x,a,h1,h2,_⟩
    ·rw[h1,h2];rfl
    ·rw[h1,h2];rfl
  rw[e];exact kk _ s
noncomputable def afH (C CM CR:Addr):Sp:=λvs H Q _a=>∃(A:Ad) (B:bc) (k m:Nat) (af:List (List bp×V)) (a:Addr),vs= [.ref A.b,.int k,.int m]/\cP C CM CR H A B/\Rd H A.g (.dT af)/\cn af (cq (k,m))=some (.ref a)/\∀H',aq H H'->Q (.ref a) H'
noncomputable abbrev oz:Prop:=a7 P w K mg base 1 "room_of" ["bank","stage","number"] (afH aE aM aN)
theorem afI (n:a9 K mg "room_of" OQ) (T:Txt K mg) (aw:b6 K mg aE) (aL:bZ K mg aM) (aS:cp K mg aN):oz:=by
  refine bf ["bank","stage","number"] n λf aK A aJ s H vs Q E hr nd hu h=>?_
  obtain ⟨A,B,k,m,af,a,rfl,hB,hg,hv,kk⟩:=h;refine ⟨_,(aC (aF (EH hu (aP K (pv 0)) (lY (au (pv 1) (ai (pv 2)))) (λ_a _a=>rfl)))),?_⟩;refine ⟨_,rfl,A.b,aE,A.dx,_,_,rfl,hB.bk,aw.cl,aw.nU,pX _ _ _ _ _,_,rfl,_,rfl,by show 2<=sizeLine;decide,λt ht=>?_⟩;have s:=bU (o:= .bP [.int (k:Int),.int (m:Int)]) ht;exact ⟨A.g,.ref a,rfl,.inr ⟨af,cq (k,m),t,Rd.same s hg,rfl,ao,hv.symm⟩,kk _ s⟩
noncomputable def afJ (C CM CR:Addr):Sp:=λvs H Q _a=>∃(A:Ad) (B:bc) (k:Nat) (af:List (List bp×V)),vs= [.ref A.b,.int k]/\cP C CM CR H A B/\Ok B/\H A.g=some (.dT af)/\∀H',aq H H'->Q (.int (b7 B.rooms k).length) H'
noncomputable abbrev BZ:Prop:=a7 P w K mg base 1 "room_count" ["bank","stage"] (afJ aE aM aN)
theorem afK (n:a9 K mg "room_count" OR) (T:Txt K mg) (aw:b6 K mg aE) (aL:bZ K mg aM) (aS:cp K mg aN):BZ:=by
  refine bf ["bank","stage","key"] n λf aK A aJ s H vs Q E hr nd hu h=>?_
  obtain ⟨A,B,k,af,rfl,hB,O,hg,kk⟩:=h;refine ⟨_,(aC (aF (bJ K T.bG (M8 (gR nd (AW (aP K (pv 0))) (own:= [("key",2)]) (by rfl) (λ_a _a _a _a _a=>cH 2 nd) (λ_a _a _a _a _a=>(nM (bz cF (mn K (pv 2) aH) (pv 1)))) (λ_a _a _a _a _a=>(pv 2))))))),?_⟩;have hP:=hB.vG (.inl hg);have lr:=Paired.length hP;have Q6:=O.qB;refine ⟨A.g,_,hg,trivial,λod=>?_⟩;have vK:=hB.Q2 hg od;refine ⟨_,rfl,A.b,aE,A.dx,_,_,rfl,vK.bk,aw.cl,aw.nU,pX _ _ _ _ _,A.g,od,rfl,.inr ⟨af,ao,λD hD=>NU (d:=A.g) (o:=od) (af:=af) (λi H'=>∃ys,aq (aj H A.g (.bI od (.dT af))) H'/\H' D=some (.lst ys)/\ys.length=((B.rooms.take i).filter λe=>e.1.1==k).length) ⟨[],bU hD,ao,rfl⟩ (λi H' h=>let ⟨_,s,_⟩:=h;s _ _ ao) ?_ ?_⟩⟩
  ·rintro i ky v q H' hk hq ⟨ys,s,hA,hy⟩;obtain ⟨e,he,ie,_⟩:=n8 hP hk;have ie:ky=cq e.1:=ie;subst ie;have hi:=(List.getElem?_eq_some_iff.mp he).1;have hs:((B.rooms.take (i+1)).filter λe=>e.1.1==k).length=((B.rooms.take i).filter λe=>e.1.1==k).length+if (e.1.1==k)=true then 1 else 0:=by rw[da he,zS,yt,zU];cases (e.1.1==k)<;>rfl
   refine ⟨rfl,?_⟩;refine ⟨_,rfl,q,_,0,.int (e.1.1:Nat),rfl,rfl,cu.of hq,ck (j:=0) rfl,_,rfl,rfl,_,rfl,aI (λc=>?_) (λc=>?_)⟩
   ·have c':(e.1.1==k)=true:=by have:=ZA c;injection this with this;rw[Zm];omega
    rw[Zx c']at hs;refine ⟨_,rfl,ys,hA,?_,ys++ [.ref q],aU s hD,ao,by rw[yt,yE,hy,hs]⟩;have:=yz (λe=>e.1.1==k) (B.rooms.take i);rw[yF]at this;exact dv ZD
   ·have c':(e.1.1==k)=false:=by have:=Zz c;rw[beq_eq_false_iff_ne];exact λz=>this (by rw[z])
    rw[Zw (by rw[c'];decide)]at hs;exact ⟨ys,s,hA,by rw[hy,hs];rfl⟩
  ·rintro H' ⟨ys,s,hA,hy⟩;rw[←lr,xm]at hy;have vL:D≠A.g:=by intro z;rw[z,ao]at hD;cases hD
   refine ⟨s _ _ ao,D,ys,rfl,.inl (ag.of (by rw[aA vL];exact hA)),?_⟩;rw[hy,←Ke];exact kk _ (Q1 hg s)
noncomputable def afL (C CM CR:Addr):Sp:=λvs H Q _a=>∃(a:Addr) (x:Rm),vs= [.ref a]/\fJ CR H a x/\∀H',aq H H'->Q (.bl (fk x)) H'
noncomputable abbrev B1:Prop:=a7 P w K mg base 1 "has_both_orders" ["room"] (afL aE aM aN)
theorem afM (n:a9 K mg "has_both_orders" OS) (T:Txt K mg) (aw:b6 K mg aE) (aL:bZ K mg aM) (aS:cp K mg aN):B1:=by
  refine bf ["room","order"] n λf aK A aJ s H vs Q E hr nd hu h=>?_
  obtain ⟨a,x,rfl,hR,kk⟩:=h;refine ⟨_,(aC (aF (fw (NC (K:=K)) (by rfl) T.PR Nv (ai (gR nd (dZ (aP K (pv 0))) (own:= [("order",1)]) (by rfl) (λ_a _a _a _a _a=>cH 1 nd) (λ_a _a _a _a _a=>jv) (λ_a _a _a _a _a=>(Fl fF (bJ K T.bG (pv 1)) aH))))))),?_⟩;obtain ⟨dx,o,p1,p2,q,e1,e2,e3,e4,e5⟩:=hR;have fl:∀l:List Nat,decide (0<((l.length:Nat):Int))= !l.isEmpty:=λl=>by cases l<;>simp
  refine ⟨_,rfl,a,aN,dx,_,_,rfl,e1,aS.cl,aS.rR,vA _ _,o,rfl,⟨_,ag.of e2⟩,λD hD=>jx (K:=K) (a:=o) (xs:= [.ref p1,.ref p2]) (λi H'=>aq H H'/\H' D=some (.lst (([!x.one.isEmpty,!x.two.isEmpty].take i).map V.bl))) ⟨bU hD,ao⟩ (λi H' _a h=>ag.of (h.1 _ _ e2)) ?_ ?_⟩
  ·rintro i v H' hv ⟨s,hA⟩
   match i,hv with
   |0,hv=>cases hv;refine ⟨rfl,?_⟩;refine ⟨_,rfl,p1,_,rfl,.inl (ag.of (s _ _ e3)),_,_,rfl,rfl,_,hA,by show 0<sizeLine;decide,aU s hD,?_⟩;rw[ao,bY];show some (HO.lst [V.bl (decide (0<((x.one.length:Nat):Int)))])=_;rw[fl];rfl
   |1,hv=>cases hv;refine ⟨rfl,?_⟩;refine ⟨_,rfl,p2,_,rfl,.inl (ag.of (s _ _ e4)),_,_,rfl,rfl,_,hA,by show 1<sizeLine;decide,aU s hD,?_⟩;rw[ao,bY];show some (HO.lst [V.bl (!x.one.isEmpty),V.bl (decide (0<((x.two.length:Nat):Int)))])=_;rw[fl];rfl
   |i+2,hv=>simp at hv
  ·rintro H' ⟨s,hA⟩;refine ⟨D,[!x.one.isEmpty,!x.two.isEmpty],rfl,ag.of hA,?_⟩;have e:([!x.one.isEmpty,!x.two.isEmpty].all id)=fk x:=by unfold fk;simp
   rw[e];exact kk H' s
noncomputable def afN (C CM CR:Addr):Sp:=λvs H Q _a=>∃(A:Ad) (B:bc) (k m:Nat),vs= [.ref A.b,.int k,.int m]/\cP C CM CR H A B/\Ok B/\∀H',aq H H'->Q (.int (Vbdbag.coin (ak B) k m)) H'
noncomputable abbrev B4:Prop:=a7 P w K mg base 2 "coin" ["bank","stage","number"] (afN aE aM aN)
theorem afO (n:a9 K mg "coin" OT) (T:Txt K mg) (aw:b6 K mg aE) (aL:bZ K mg aM) (aS:cp K mg aN) (so:BI) (sj:BH) (cG:ia):B4:=by
  refine bf ["bank","stage","number","state"] n λf aK A aJ s H vs Q E hr nd hu h=>?_
  obtain ⟨A,B,k,m,rfl,hB,O,kk⟩:=h;refine ⟨_,(aB (bj 3 nd (bx eN (bx eN (bx lV (aR T.PZ) (aD cG hr (au (aP K (pv 0)) (ai dY)))) (bx lV (aR T.acq) (pv 1))) (pv 2)))
   (aC (aF (aD so hr (au (aD sj hr (ai (pv 3))) (ai (aR T.P0))))))),?_⟩
  refine ⟨_,rfl,A.b,aE,A.dx,_,_,rfl,hB.bk,aw.cl,aw.d7,gy _ _ _ _ _,A.d,.seed,B.T,rfl,rfl,hB.told.r,O.wt,λH1 s1=>?_⟩;have big:(aG B.T .seed:Int)<=99999:=by have h:=(oI O.wt .seed rfl).2;have h':aG B.T .seed<=99999:=h;omega
  refine ⟨_,_,rfl,rfl,.inl ⟨by decide,by decide⟩,_,rfl,_,_,rfl,rfl,.inl ⟨by decide,by decide⟩,_,_,rfl,rfl,_,rfl,_,_,rfl,rfl,?_⟩;refine ⟨_,rfl,100*aG B.T .seed+10000000*k+m,?_,Vbdbag.nextState (100*aG B.T .seed+10000000*k+m),2,rfl,by decide,?_⟩
  ·have e:(((100*aG B.T .seed+10000000*k+m:Nat)):Int)=100*(aG B.T .seed:Int)+10000000*(k:Int)+(m:Int):=by omega
   rw[e];rfl
  ·exact kk H1 s1
noncomputable def afP (K:PySem.W.Frag):Sp:=λvs H Q _a=>∃(p:Addr) (l:List Nat) (x:Nat),vs= [.ref p,.int x]/\H p=some (.lst (vi (nI l)))/\l.length<=1000/\dO H Q (vi (nI (wo l x)))
noncomputable abbrev GY:Prop:=a7 P w K mg base 1 "without" ["numbers","struck"] (afP K)
theorem afQ (n:a9 K mg "without" OU) (T:Txt K mg):GY:=by
  refine bf ["numbers","struck","number"] n λf aK A aJ s H vs Q E hr nd hu h=>?_
  obtain ⟨p,l,x,rfl,hp,hl,kk⟩:=h;refine ⟨_,(aC (aF (gR nd (dZ (pv 0)) (own:= [("number",2)]) (by rfl) (λ_a _a _a _a _a=>cH 2 nd) (λ_a _a _a _a _a=>(nM (bz nj (pv 2) (pv 1)))) (λ_a _a _a _a _a=>(pv 2))))),?_⟩;refine ⟨_,rfl,p,rfl,⟨_,ag.of hp⟩,λD hD=>jx (K:=K) (a:=p) (xs:=vi (nI l)) (λi H'=>aq H H'/\H' D=some (.lst (vi (nI (wo (l.take i) x))))) ⟨bU hD,ao⟩ (λi H' _a h=>ag.of (h.1 _ _ hp)) ?_ ?_⟩
  ·rintro i v H' hv ⟨s,hA⟩;obtain ⟨z,hz,rfl⟩:=cD hv;obtain ⟨n,hn,rfl⟩:=cD hz;have hi:=(List.getElem?_eq_some_iff.mp hn).1;refine ⟨rfl,?_⟩;refine ⟨_,rfl,_,rfl,rfl,_,rfl,aI (λc=>?_) (λc=>?_)⟩
   ·have c':(n !=x)=true:=by simp only[zm,Zr]at c;simp only[Zn,ne_eq];exact λz=>c (by rw[z])
    refine ⟨_,rfl,_,hA,?_,aU s hD,?_⟩
    ·rw[bY];have:=(oQ (l.take i) x).length_le;rw[yF]at this;exact dv ZD
    ·rw[ao,da hn];unfold wo;rw[zS,zU,Zx c',zV,kl,dw];rfl
   ·have c':(n !=x)=false:=by simp only[zl,Zt]at c;injection c with c;simp only[bne_eq_false_iff_eq];omega
    refine ⟨s,?_⟩;rw[da hn];unfold wo;rw[zS,zU,Zw (by rw[c'];decide),zV,zE];exact hA
  ·rintro H' ⟨s,hA⟩;rw[bY,xm]at hA;exact kk H' D s hD hA
theorem Q7 {l:List Nat}(h:l≠ []):hG (vi (nI l)) (-1)=some (V.int (l.getLastD 0:Nat)):=by
 obtain ⟨a,x,rfl⟩:∃a x,l=a++ [x]:=⟨l.dropLast,l.getLast h,(List.dropLast_concat_getLast h).symm⟩;rw[kl,dw];have e:(a++ [x]).getLastD 0=x:=by simp
 rw[e];exact Ye _ _
noncomputable def afR (K:PySem.W.Frag) (C CM CR:Addr):Sp:=λvs H Q _a=>∃(a:Addr) (x:Rm),vs= [.ref a]/\fJ CR H a x/\x.one≠ []/\x.two≠ []/\x.one.length<=1000/\dO H Q (vi (nI (di x.one x.two)))
noncomputable abbrev B5:Prop:=a7 P w K mg base 2 "left_in" ["room"] (afR K aE aM aN)
theorem afS (n:a9 K mg "left_in" OV) (T:Txt K mg) (aw:b6 K mg aE) (aL:bZ K mg aM) (aS:cp K mg aN) (GZ:GY):B5:=by
  refine bf ["room","left","order"] n λf aK A aJ s H vs Q E hr nd hu h=>?_
  obtain ⟨a,x,rfl,hR,h1,h2,hl,kk⟩:=h;refine ⟨_,(aB (bj 1 nd (nF (ND (K:=K)) (by rfl) T.u6 uR (ai (bL K (aP K (pv 0)) aH))))
   (aB (eW PassesOwn.never rfl (dZ (aP K (pv 0))) (cH 2 nd) (aC (aX (bz fF (bJ K T.bG (pv 1)) aH) (aC (bj 1 nd (aD GZ hr (au (pv 1) (ai (bL K (pv 2) (DQ DU aH))))))) aZ)))
   (aC (aF (pv 1))))),?_⟩
  obtain ⟨dx,o,p1,p2,q,e1,e2,e3,e4,e5⟩:=hR;refine ⟨_,rfl,a,aN,dx,_,_,rfl,e1,aS.cl,aS.rR,vA _ _,o,_,0,.ref p1,rfl,rfl,ag.of e2,ck (j:=0) rfl,p1,_,rfl,.inl (ag.of e3),λD hD=>?_⟩;have s0:=bU (o:= .lst (vi (nI x.one))) hD;generalize B6:(if 1<x.one.length then wo x.one (x.one.getLastD 0) else x.one)=A1;have afT:A1.length<=1000:=by
   rw[←B6];split
   ·exact xE (oQ _ _).length_le hl
   ·exact hl
  have qp:di x.one x.two=if 1<A1.length then wo A1 (x.two.getLastD 0) else A1:=by unfold di;simp only[B6]
  refine ⟨_,rfl,a,aN,dx,_,_,rfl,s0 _ _ e1,aS.cl,aS.rR,vA _ _,o,rfl,⟨_,ag.of (s0 _ _ e2)⟩,jj (K:=K) (a:=o) (xs:= [.ref p1,.ref p2]) (λi σ H'=>∃(v:Option V) (p:Addr) (l:List Nat),σ= [some (.ref a),some (.ref p),v]/\aq H H'/\H p=none/\H' p=some (.lst (vi (nI l)))/\l=(match i with|0=>x.one|1=>A1|_=>di x.one x.two)) ⟨none,D,x.one,rfl,s0,hD,ao,rfl⟩ (λi σ H' _a ⟨_,_,_,_,s,_⟩=>ag.of (s _ _ e2)) ?_ ?_⟩
  ·rintro i v σ H' hv ⟨v0,p,l,rfl,s,hp,hP,ik⟩
   match i,hv,ik with
   |0,hv,ik=>
    cases hv;have ik:l=x.one:=ik;subst ik;refine ⟨_,rfl,p,_,rfl,.inl (ag.of hP),_,_,rfl,rfl,_,rfl,aI (λc=>?_) (λc=>?_)⟩
    ·rw[Zt,bY]at c;refine ⟨_,rfl,_,rfl,1,rfl,p1,_,_,.int (x.one.getLastD 0:Nat),rfl,rfl,ag.of (s _ _ e3),Q7 h1,p,x.one,x.one.getLastD 0,rfl,hP,hl,λH2 r s2 hr hR=>?_⟩;refine ⟨_,r,A1,rfl,s.trans s2,s.free hr,?_,rfl⟩;rw[←B6,Zx ZD];exact hR
    ·rw[Zr,bY]at c;refine ⟨_,p,A1,rfl,s,hp,?_,rfl⟩;rw[←B6,Zw ZD];exact hP
   |1,hv,ik=>
    cases hv;have ik:l=A1:=ik;subst ik;refine ⟨_,rfl,p,_,rfl,.inl (ag.of hP),_,_,rfl,rfl,_,rfl,aI (λc=>?_) (λc=>?_)⟩
    ·rw[Zt,bY]at c;refine ⟨_,rfl,_,rfl,1,rfl,p2,_,_,.int (x.two.getLastD 0:Nat),rfl,rfl,ag.of (s _ _ e4),Q7 h2,p,l,x.two.getLastD 0,rfl,hP,afT,λH2 r s2 hr hR=>?_⟩;refine ⟨_,r,di x.one x.two,rfl,s.trans s2,s.free hr,?_,rfl⟩;rw[qp,Zx ZD];exact hR
    ·rw[Zr,bY]at c;refine ⟨_,p,di x.one x.two,rfl,s,hp,?_,rfl⟩;rw[qp,Zw ZD];exact hP
   |i+2,hv,ik=>simp at hv
  ·rintro σ H' ⟨v0,p,l,rfl,s,hp,hP,ik⟩;have ik:l=di x.one x.two:=ik;subst ik;exact ⟨_,rfl,kk H' p s hp hP⟩
theorem G0 {l:List Nat}{m:Nat}(h:m∈l):(vi (nI l))[l.idxOf m]? =some (.int (m:Nat))/\∀(i:Nat) (z:V),i<l.idxOf m->(vi (nI l))[i]? =some z->js z (.int (m:Nat))=false:=by
 have cC:=List.idxOf_lt_length_iff.mpr h;refine ⟨?_,λi z hi hz=>?_⟩
 ·rw[yd,lA (n:=m) (by rw[yb cC,ym cC])];rfl
 ·obtain ⟨y,hy,rfl⟩:=cD hz;obtain ⟨n,hn,rfl⟩:=cD hy;show ((n:Int)==(m:Int))=false;rw[beq_eq_false_iff_ne];intro e;have:n=m:=by omega
  subst this;obtain ⟨h1,h2⟩:=List.getElem?_eq_some_iff.mp hn;have q:=List.not_of_lt_findIdx (p:=(·==n)) (xs:=l) hi;rw[h2]at q;simp at q
noncomputable def afU (C CM CR:Addr):Sp:=λvs H Q _a=>∃(a:Addr) (x:Rm) (c m:Nat),vs= [.ref a,.int c,.int m]/\fJ CR H a x/\c<2/\m∈x.one/\m∈x.two/\∀(H':Hp) (t:Addr),aq H H'->H t=none->H' t=some (.bP (vi (nI (fC x.one x.two c m))))->Q (.ref t) H'
noncomputable abbrev G1:Prop:=a7 P w K mg base 1 "rank" ["room","side","motion"] (afU aE aM aN)
theorem afV (n:a9 K mg "rank" OW) (T:Txt K mg) (aw:b6 K mg aE) (aL:bZ K mg aM) (aS:cp K mg aN):G1:=by
  refine bf ["room","side","motion","places","order"] n λf aK A aJ s H vs Q E hr nd hu h=>?_
  obtain ⟨a,x,c,m,rfl,hR,hc,m1,m2,kk⟩:=h;refine ⟨_,(aB (Be 3 nd (dZ (aP K (pv 0))) (own:= [("order",4)]) (by rfl) (λ_a _a _a _a _a=>cH 4 nd) (λ_a _a _a _a _a=>jv) (λ_a _a _a _a _a=>(j7 (K:=K) Z5 Zb Ze (NG (K:=K)) (pv 4) (ai (pv 2)))))
   (aC (aF (lY (au (fw (rL (K:=K)) (by rfl) T.rO rG (ai (pv 3))) (au (fw (abD (K:=K)) (by rfl) T.PU Nw (ai (pv 3))) (ai (bL K (pv 3) (pv 1))))))))),?_⟩
  obtain ⟨dx,o,p1,p2,q,e1,e2,e3,e4,e5⟩:=hR;refine ⟨_,rfl,a,aN,dx,_,_,rfl,e1,aS.cl,aS.rR,vA _ _,o,rfl,⟨_,ag.of e2⟩,λD hD=>jx (K:=K) (a:=o) (xs:= [.ref p1,.ref p2]) (λi H'=>aq H H'/\H' D=some (.lst (vi (nI ([x.one.idxOf m,x.two.idxOf m].take i))))) ⟨bU hD,ao⟩ (λi H' _a h=>ag.of (h.1 _ _ e2)) ?_ ?_⟩
  ·rintro i v H' hv ⟨s,hA⟩
   match i,hv with
   |0,hv=>cases hv;refine ⟨rfl,?_⟩;obtain ⟨i1,i2⟩:=G0 m1;exact ⟨_,rfl,.inl ⟨rfl,_,ag.of (s _ _ e3)⟩,_,rfl,p1,_,_,x.one.idxOf m,_,rfl,rfl,ag.of (s _ _ e3),rfl,ou _,i1,by show ((m:Int)==(m:Int))=true;simp,i2,_,hA,by show 0<sizeLine;decide,aU s hD,ao⟩
   |1,hv=>cases hv;refine ⟨rfl,?_⟩;obtain ⟨i1,i2⟩:=G0 m2;exact ⟨_,rfl,.inl ⟨rfl,_,ag.of (s _ _ e4)⟩,_,rfl,p2,_,_,x.two.idxOf m,_,rfl,rfl,ag.of (s _ _ e4),rfl,ou _,i1,by show ((m:Int)==(m:Int))=true;simp,i2,_,hA,by show 1<sizeLine;decide,aU s hD,ao⟩
   |i+2,hv=>simp at hv
  ·rintro H' ⟨s,hA⟩;have hA:H' D=some (.lst (vi (nI [x.one.idxOf m,x.two.idxOf m]))):=hA;have afW:∀y,y∈nI [x.one.idxOf m,x.two.idxOf m]->(∀z,z∈nI [x.one.idxOf m,x.two.idxOf m]->z<=y)->y=((max (x.one.idxOf m) (x.two.idxOf m):Nat):Int):=by intro y hy hz;have h1:((x.one.idxOf m:Nat):Int)<=y:=hz _ (yV);have h2:((x.two.idxOf m:Nat):Int)<=y:=hz _ (yU _ yV);have hy:y∈ [((x.one.idxOf m:Nat):Int),((x.two.idxOf m:Nat):Int)]:=hy;simp only[yT,xc,ZC]at hy;omega
   refine ⟨_,rfl,D,nI [x.one.idxOf m,x.two.idxOf m],rfl,ag.of hA,_,rfl,D,nI [x.one.idxOf m,x.two.idxOf m],rfl,ag.of hA,by show 0<2;decide,λy hy hz=>?_⟩;rw[afW y hy hz];refine ⟨_,rfl,_,rfl,D,_,_,.int ((if c=0 then x.one.idxOf m else x.two.idxOf m:Nat)),rfl,rfl,ag.of hA,?_,by show 3<=sizeLine;decide,λt ht=>?_⟩
   ·match c,hc with
    |0,_=>exact ck (j:=0) rfl
    |1,_=>exact ck (j:=1) rfl
   ·refine kk _ t (aU s (s.free ht)) (s.free ht) ?_;rw[ao];have es:(nI [x.one.idxOf m,x.two.idxOf m]).sum=((x.one.idxOf m+x.two.idxOf m:Nat):Int):=by show ((x.one.idxOf m:Nat):Int)+(((x.two.idxOf m:Nat):Int)+0)=_;omega
    rw[es];rfl
theorem Q8:∀(a b:List Nat),a.length=b.length->HT.gP (nI a) (nI b)=Vbdbag.lessRow a b
 | [],[],_=>by show HT.gP [] []=_;rw[HT.Me];rfl
 |x::a,y::b,h=>by
  have ih:=Q8 a b (by simpa using h);show HT.gP ((x:Int)::nI a) ((y:Int)::nI b)=(decide (x<y)||(x==y&&Vbdbag.lessRow a b));rw[HT.Md];by_cases e:x=y
  ·subst e;rw[Zx rfl,ih];simp
  ·rw[Zw ZD];have e1:(x==y)=false:=beq_eq_false_iff_ne.mpr e;rw[e1,zg,Bool.or_false,Zp];omega
theorem Q9 (one two:List Nat) (c:Nat) (l:List Nat):∀k,k<l.length->argBest (gS (l.map λm=>nI (fC one two c m))) k=gG one two c l k/\gG one two c l k<=k
 |0,_=>⟨rfl,xC _⟩
 |k+1,h=>by
  obtain ⟨ih,KN⟩:=Q9 one two c l k ZD;have gd:∀i,i<l.length->(l.map λm=>nI (fC one two c m)).getD i []=nI (fC one two c (l.getD i 0)):=λi hi=>by rw[y4,yd,y4,yb hi];rfl
  have e:argBest (gS (l.map λm=>nI (fC one two c m))) (k+1)=if gS (l.map λm=>nI (fC one two c m)) (k+1) (argBest (gS (l.map λm=>nI (fC one two c m))) k)=true then k+1 else argBest (gS (l.map λm=>nI (fC one two c m))) k:=rfl;rw[e,ih,gG];unfold gS;rw[gd _ h,gd _ ZD,Q8 (fC one two c (l.getD (k+1) 0)) (fC one two c (l.getD (gG one two c l k) 0)) rfl];split
  ·exact ⟨rfl,xC _⟩
  ·exact ⟨rfl,by omega⟩
noncomputable def afX (K:PySem.W.Frag) (C CM CR:Addr):Sp:=λvs H Q _a=>∃(A:Ad) (B:bc) (k m:Nat) (x:Rm),vs= [.ref A.b,.int k,.int m]/\cP C CM CR H A B/\Ok B/\bF B.rooms (k,m)=some x/\fk x=true/\∀H',aq H H'->Q (.int (mW B k m x)) H'
noncomputable abbrev vM:Prop:=a7 P w K mg base 3 "debated" ["bank","stage","number"] (afX K aE aM aN)
theorem afY (n:a9 K mg "debated" OX) (T:Txt K mg) (aw:b6 K mg aE) (aL:bZ K mg aM) (aS:cp K mg aN) (f7:oz) (sF:B4) (sG:B5) (G2:G1):vM:=by
  refine bf ["bank","stage","number","room","side","left","ranks","motion"] n λf aK A aJ s H vs Q E hr nd hu h=>?_
  obtain ⟨A,B,k,m,x,rfl,hB,O,hx,hb,kk⟩:=h;refine ⟨_,(aB (bj 3 nd (aD f7 hr (au (pv 0) (au (pv 1) (ai (pv 2))))))
   (aB (bj 4 nd (aD sF hr (au (pv 0) (au (pv 1) (ai (pv 2))))))
   (aB (bj 5 nd (aD sG hr (ai (pv 3))))
   (aB (Be 6 nd (dZ (pv 5)) (own:= [("motion",7)]) (by rfl) (λ_a _a _a _a _a=>cH 7 nd) (λ_a _a _a _a _a=>jv) (λ_a _a _a _a _a=>(aD G2 hr (au (pv 3) (au (pv 4) (ai (pv 7)))))))
   (aC (aF (bL K (pv 5) (j7 (K:=K) Z5 Zb Ze (abU (K:=K) hr.units) (pv 6) (ai (fw (abQ (K:=K) hr.units) (by rfl) T.PV Ny (ai (pv 6)))))))))))),?_⟩
  obtain ⟨sE,anc,l0,G3,vN,aO⟩:=O.room hx;obtain ⟨af,hg,hP⟩:=hB.oj;obtain ⟨a,hv,il⟩:∃a,cn af (cq (k,m))=some (.ref a)/\fJ aN H a x:=by
   rcases om (k,m) hP with ⟨h1,_⟩|⟨y,a,h1,h2,h3⟩
   ·rw[hx]at h1;cases h1
   ·rw[hx]at h1;cases h1;exact ⟨a,h2,h3⟩
  have g9:=hb;unfold fk at g9;simp only[za,zm,yq]at g9;obtain ⟨n1,n2⟩:=g9;have p1:x.one.Perm l0:=aO.one.resolve_left n1;have p2:x.two.Perm l0:=aO.two.resolve_left n2;have bW:x.one.length<=1000:=by rw[p1.length_eq];have:=(O.jS (yY G3)).2;omega
  have fW:=Vx (ak B) k m;refine ⟨_,rfl,_,rfl,_,rfl,A,B,k,m,af,a,rfl,hB,hg,hv,λH1 s1=>?_⟩;refine ⟨_,rfl,_,rfl,_,rfl,A,B,k,m,rfl,hB.same s1,O,λH2 s2=>?_⟩;have bO:=s1.trans s2;refine ⟨_,rfl,a,x,rfl,il.same bO,n1,n2,bW,λH3 p s3 hp G4=>?_⟩;have i6:=bO.trans s3;generalize hL:di x.one x.two=L at*;have og:∀y∈L,y∈x.one:=λy hy=>(wX x.one x.two).subset (by rw[hL];exact hy)
  have G5:∀y∈L,y∈x.two:=λy hy=>p2.mem_iff.mpr (p1.mem_iff.mp (og y hy))
  have hLn:L.Nodup:=by rw[←hL];exact (aO.nd vN).1.sublist (wX _ _)
  have af0:L≠ []:=by rw[←hL];exact KJ x.two n1 (aO.nd vN).1
  have BP:L.length<=1000:=by rw[←hL];exact xE (wX _ _).length_le bW
  generalize hc:Vbdbag.coin (ak B) k m=c at*;refine ⟨_,rfl,p,rfl,⟨_,ag.of G4⟩,λD hD=>jx (K:=K) (a:=p) (xs:=vi (nI L)) (λi H'=>∃ts,aq H3 H'/\H' D=some (.lst (ts.map V.ref))/\Paired (λt r=>H' t=some (.bP (vi r))) ts ((L.take i).map λy=>nI (fC x.one x.two c y))/\D∉ts) ⟨[],bU hD,ao,.nil,by simp⟩ (λi H' _a h=>let ⟨_,s,_⟩:=h;ag.of (s _ _ G4)) ?_ ?_⟩
  ·rintro i v H' lX ⟨ts,s,hA,hR,nD⟩;obtain ⟨z,hz,rfl⟩:=cD lX;obtain ⟨y,hy,rfl⟩:=cD hz;have Ra:=yY hy;have hi:=(List.getElem?_eq_some_iff.mp hy).1;have ll:=Paired.length hR;simp only[yA,yF]at ll;refine ⟨rfl,?_⟩;refine ⟨_,rfl,_,rfl,_,rfl,a,x,c,y,by simp,il.same (i6.trans s),fW,og y Ra,G5 y Ra,λH4 t s4 ht hT=>?_⟩;have tD:t≠D:=λe=>by rw[e,hA]at ht;cases ht
   refine ⟨_,s4 _ _ hA,?_,ts++ [t],aU (s.trans s4) hD,by rw[ao,yH];rfl,?_,?_⟩
   ·rw[yA];exact dv ZD
   ·rw[da hy,yH];refine Paired.snoc (Paired.mono (λa r z=>?_) hR) ?_
    ·show aj H4 D _ a=_;rw[aA]
     ·exact s4 _ _ z
     ·intro e;rw[e,hA]at z;cases z
    ·show aj H4 D _ t=_;rw[aA tD];exact hT
   ·intro z;rcases List.mem_append.mp z with z|z
    ·exact nD z
    ·exact tD (List.mem_singleton.mp z).symm
  ·rintro H' ⟨ts,s,hA,hR,nD⟩;rw[bY,xm]at hR;have ll:=Paired.length hR;rw[yA]at ll;have vr:0<L.length:=List.length_pos_iff.mpr af0;obtain ⟨b1,b2⟩:=Q9 x.one x.two c L (L.length - 1) ZD;generalize hj:gG x.one x.two c L (L.length - 1)=j at*;have nL:j<L.length:=by omega
   obtain ⟨t,ht⟩:∃t,ts[j]? =some t:=⟨_,yb ZD⟩;have G6:Bi K H' ts (L.map λy=>nI (fC x.one x.two c y)):=Paired.mono (λa r z=>cu.of z) hR;obtain ⟨r,pH,hrt⟩:=hU G6 ht;have G7:L[j]? =some (L.getD j 0):=getD_some nL;refine ⟨_,rfl,_,rfl,.inl ⟨rfl,_,ag.of hA⟩,_,rfl,D,ts,_,t,rfl,ag.of hA,G6,by omega,?_,D,t,ts,_,r,j,rfl,rfl,ag.of hA,G6,hrt,pH,λi hi e=>?_,p,_,_,.int (L.getD j 0:Nat),rfl,rfl,ag.of (s _ _ G4),my (lA G7) rfl,?_⟩
   ·rw[ll,b1];exact ht
   ·rw[yd,G7]at pH;have pH:nI (fC x.one x.two c (L.getD j 0))=r:=xX pH;have G8:i<L.length:=by omega
    rw[yd,getD_some G8]at e;have e:nI (fC x.one x.two c (L.getD i 0))=r:=xX e;have mi:=getD_mem G8;have mj:=getD_mem nL;have:=Vw fW (og _ mi) (og _ mj) (G5 _ mi) (G5 _ mj) (wL (e.trans pH.symm));obtain ⟨q3,q4⟩:=List.getElem?_eq_some_iff.mp G7;have:i=j:=(yn hLn).mp (by
     have e1:L[i]=L.getD i 0:=by obtain ⟨_,z⟩:=List.getElem?_eq_some_iff.mp (getD_some G8);exact z
     rw[e1,q4,this])
    omega
   ·have e:mW B k m x=L.getD j 0:=by unfold mW;rw[hL,hc,hj]
    have:=kk H' (i6.trans s);rw[e]at this;exact this
noncomputable def af2 (K:PySem.W.Frag):Sp:=λvs H Q _a=>∃(p:Addr) (l:List Nat),vs= [.ref p]/\H p=some (.lst (vi (nI l)))/\l.length<=1000/\∀H',aq H H'->Q (.int (fQ l)) H'
noncomputable abbrev B7:Prop:=a7 P w K mg base 1 "first_half_points" ["result"] (af2 K)
theorem af3 (n:a9 K mg "first_half_points" OY) (T:Txt K mg):B7:=by
  refine bf ["result","size","place"] n λf aK A aJ s H vs Q E hr nd hu h=>?_
  obtain ⟨p,l,rfl,hp,hl,kk⟩:=h;refine ⟨_,(aB (bj 1 nd (bJ K T.bG (pv 0)))
   (aC (aF (fw (rL (K:=K)) (by rfl) T.rO rG (ai (gR nd (qR rfl T.j8 (ai (pv 1))) (own:= [("place",2)]) (by rfl) (λ_a _a _a _a _a=>cH 2 nd) (λ_a _a _a _a _a=>(nM (bz o9 (bL K (pv 0) (pv 2)) (bx LU (pv 1) aH)))) (λ_a _a _a _a _a=>(bx eO (bx eO (pv 1) aH) (pv 2))))))))),?_⟩
  refine ⟨_,rfl,p,_,rfl,.inl (ag.of hp),?_⟩;refine ⟨_,rfl,(l.length:Int),by rw[bY],by omega,by omega,λD hD=>EA (λi H'=>aq H H'/\H' D=some (.lst (vi (nI (((List.range i).filter λo=>decide (l.getD o 0<l.length/2)).map λo=>l.length - 1 - o))))) ⟨bU hD,ao⟩ ?_ ?_⟩
  ·rintro i H' hi ⟨s,hO⟩;rw[zt]at hi;refine ⟨rfl,?_⟩;refine ⟨_,rfl,_,rfl,p,_,_,.int (l.getD i 0:Nat),rfl,rfl,ag.of (s _ _ hp),my (lA (getD_some hi)) ZD,_,rfl,_,_,rfl,rfl,⟨by decide,by decide⟩,_,_,rfl,rfl,_,rfl,aI (λe=>?_) (λe=>?_)⟩
   ·have e':l.getD i 0<l.length/2:=by rw[Zt,bY]at e;omega
    refine ⟨_,rfl,_,_,rfl,rfl,_,rfl,_,_,rfl,rfl,_,hO,?_,aU s hD,?_⟩
    ·rw[bY,yA];have:=yz (λo=>decide (l.getD o 0<l.length/2)) (List.range i);rw[yC]at this;exact dv ZD
    ·rw[ao,Ac,Zx (Zs e'),yH,kl,dw];have e3:((l.length:Int) - 1 - (0+(i:Int)))=((l.length - 1 - i:Nat):Int):=by omega
     show some (HO.lst (_++ [V.int (((vi (nI l)).length:Int) - 1 - (0+(i:Int)))]))=_;rw[bY,e3];rfl
   ·have e':¬l.getD i 0<l.length/2:=by rw[Zr,bY]at e;omega
    refine ⟨s,?_⟩;rw[Ac,Zw (by rw[Zq e'];decide),zE];exact hO
  ·rintro H' ⟨s,hO⟩;rw[zt]at hO;refine ⟨D,_,rfl,ag.of hO,?_⟩;rw[qJ];exact kk H' s
theorem Rb {CR:Addr}{H:Hp}:∀{R:c9}{af:List (List bp×V)},Paired (oh CR H) R af->af.map (λz=>z.1)=(R.map λe=>e.1).map cq
 |_,_,.nil=>rfl
 |_,_,.cons q r=>by rw[yJ,yJ,yJ,q.1,Rb r]
theorem af4 {R:c9}(hn:(R.map λe=>e.1).Nodup) {e:(Nat×Nat)×Rm}(he:e∈R):bF R e.1=some e.2:=by
 cases h:bF R e.1 with
 |none=>exact absurd rfl (qE h e he)
 |some y=>have:=BQ hn he (mV h) rfl;rw[this]
noncomputable def af5 (K:PySem.W.Frag) (C CM CR:Addr):Sp:=λvs H Q _a=>∃(A:Ad) (B:bc) (m:Nat) (af:List (List bp×V)),vs= [.ref A.b,.int m]/\cP C CM CR H A B/\Ok B/\H A.g=some (.dT af)/\∀(H':Hp) (p:Addr) (as:List Addr),aq H H'->H p=none->H' p=some (.lst (as.map V.ref))->Paired (fJ CR H') as ((fq B m).map λe=>e.2)->Q (.ref p) H'
noncomputable abbrev G9:Prop:=a7 P w K mg base 4 "rooms_debating" ["bank","motion"] (af5 K aE aM aN)
theorem af6 (n:a9 K mg "rooms_debating" OZ) (T:Txt K mg) (aw:b6 K mg aE) (aL:bZ K mg aM) (aS:cp K mg aN) (mE:vM):G9:=by
  refine bf ["bank","motion","rooms","key","room"] n λf aK A aJ s H vs Q E hr nd hu h=>?_
  obtain ⟨A,B,m,af,rfl,hB,O,hg,kk⟩:=h;refine ⟨_,(aB (bj 2 nd (aW cW))
   (aB (EJ (eW PassesOwn.never rfl (AW (aP K (pv 0))) (cH 3 nd) (aB (bj 4 nd (EH hu (aP K (pv 0)) (pv 3) (λ_a _a=>rfl)))
    (aC (aX (PW.pt (oZ (bz fF (bJ K T.bG (aP K (pv 4))) aH) (qQ (bz cF (aD mE hr (au (pv 0) (au (mn K (pv 3) aH) (ai (mn K (pv 3) aH))))) (pv 1))))) (aC (fu (iH K (pv 2) (pv 4)))) aZ)))))
   (aC (aF (pv 2))))),?_⟩
  have hP:=hB.vG (.inl hg);have lr:=Paired.length hP;have Q6:=O.qB;have vO:(af.map λz=>z.1).Nodup:=by rw[Rb hP];exact vz (λx y z=>sA z) O.gk
  refine ⟨xQ _,λD hD=>?_⟩;have s0:=bU (o:= .lst []) hD;have vL:D≠A.g:=λz=>by rw[z,hg]at hD;cases hD
  refine ⟨A.g,_,s0 _ _ hg,trivial,λod=>?_⟩;have vK:=hB.Q2 hg od;have hDL:aj H A.g (.bI od (.dT af)) D=none:=by rw[aA vL];exact hD
  have mF:aj H A.g (.bI od (.dT af)) A.g=some (.bI od (.dT af)):=ao;have sI:aq (aj H A.g (.bI od (.dT af))) (aj (aj H D (.lst [])) A.g (.bI od (.dT af))):=λb o e=>by
   by_cases hb:b=A.g
   ·rw[hb,ao]at e⊢;exact e
   ·rw[aA hb]at e⊢;exact s0 _ _ e
  have hDI:aj (aj H D (.lst [])) A.g (.bI od (.dT af)) D=some (.lst []):=by rw[aA vL,ao]
  have af9:∀H',aq (aj H A.g (.bI od (.dT af))) H'->aq H (aj H' A.g (.dT af)):=λH' s=>Q1 hg s
  generalize aj H A.g (.bI od (.dT af))=HL at*;have iK:=vK.vG (.inr ⟨od,mF⟩);generalize aj (aj H D (.lst [])) A.g (.bI od (.dT af))=HI at*;refine ⟨_,rfl,A.b,aE,A.dx,_,_,rfl,(vK.same sI).bk,aw.cl,aw.nU,pX _ _ _ _ _,A.g,od,rfl,.inr ⟨af,sI _ _ mF,NV (d:=A.g) (o:=od) (af:=af) (λi σ H'=>∃(v3 v4:Option V) (as:List Addr),σ= [some (.ref A.b),some (.int m),some (.ref D),v3,v4]/\aq HL H'/\H' D=some (.lst (as.map V.ref))/\Paired (fJ aN HL) as (((B.rooms.take i).filter (eV B m)).map λe=>e.2)) ⟨none,none,[],rfl,sI,hDI,.nil⟩ (λi σ H' h=>let ⟨_,_,_,_,s,_⟩:=h;s _ _ mF) ?_ ?_⟩⟩
  ·rintro i ky v q σ H' hk hq ⟨v3,v4,as,rfl,s,hA,hR⟩;obtain ⟨e,he,ie,a,Ha,il⟩:=n8 iK hk;have ie:ky=cq e.1:=ie;have Ha:v= .ref a:=Ha;subst ie Ha;have Rc:=yY he;have hi:=(List.getElem?_eq_some_iff.mp he).1;have dP:=Paired.length hR;have vB:=yz (eV B m) (B.rooms.take i);rw[yA]at dP;rw[yF]at vB;have f6:=vK.same s;obtain ⟨dx,o,p1,p2,q5,e1,e2,e3,e4,e5⟩:=il.same s;obtain ⟨o1,o2,o3,o4⟩:=O.qH Rc;have hs:((B.rooms.take (i+1)).filter (eV B m)).map (λe=>e.2)=((B.rooms.take i).filter (eV B m)).map (λe=>e.2)++if eV B m e=true then [e.2] else []:=by rw[da he,zS,yH,zU,zV];cases eV B m e<;>rfl
   refine ⟨_,rfl,A.b,aE,A.dx,_,_,rfl,f6.bk,aw.cl,aw.nU,pX _ _ _ _ _,_,rfl,A.g,.ref a,rfl,.inr ⟨af,cq e.1,q,.inr ⟨od,s _ _ mF⟩,rfl,hq,(vo vO hk).symm⟩,?_⟩;have no:eV B m e=false->∀H2,aq H' H2->∃(v3 v4:Option V) (Ba:List Addr),([some (.ref A.b),some (.int m),some (.ref D),some (.ref q),some (.ref a)]:L2.St)= [some (.ref A.b),some (.int m),some (.ref D),v3,v4]/\aq HL H2/\H2 D=some (.lst (Ba.map V.ref))/\Paired (fJ aN HL) Ba (((B.rooms.take (i+1)).filter (eV B m)).map λe=>e.2):=by intro hf H2 s2;rw[hs,Zw (by rw[hf];decide),zE];exact ⟨_,_,as,rfl,s.trans s2,s2 _ _ hA,hR⟩
   refine ⟨_,rfl,a,aN,dx,_,_,rfl,e1,aS.cl,aS.u7,GN _ _,q5,_,rfl,.inl (ag.of e5),_,_,rfl,rfl,_,rfl,aI (λc=>?_) (λc=>?_)⟩
   ·rw[Zt,bY]at c;have bQ:e.2.result≠ []:=by intro z;rw[z]at c;simp at c
    refine ⟨_,rfl,_,rfl,q,_,0,.int (e.1.1:Nat),rfl,rfl,cu.of hq,ck (j:=0) rfl,_,rfl,q,_,1,.int (e.1.2:Nat),rfl,rfl,cu.of hq,ck (j:=1) rfl,A,B,e.1.1,e.1.2,e.2,rfl,f6,O,af4 O.gk Rc,(o3 bQ).1,λH4 s4=>⟨_,rfl,rfl,_,rfl,aI (λc2=>?_) (λc2=>?_)⟩⟩
    ·have c3:mW B e.1.1 e.1.2 e.2=m:=by have:=ZA c2;injection this with this;omega
     have hin:eV B m e=true:=by
      unfold eV;rw[za,Zm];refine ⟨?_,c3⟩;cases h:e.2.result with
      |nil=>exact absurd h bQ
      |cons=>rfl
     rw[Zx hin]at hs;refine ⟨_,rfl,.inl ⟨rfl,_,ag.of (s4 _ _ hA)⟩,_,rfl,D,_,.ref a,rfl,rfl,s4 _ _ hA,?_,_,_,as++ [a],rfl,aU (s.trans s4) hDL,by rw[ao,yH];rfl,?_⟩
     ·rw[yA];exact dv ZD
     ·rw[hs];exact Paired.snoc hR il
    ·have c3:¬mW B e.1.1 e.1.2 e.2=m:=by have:=Zz c2;intro z;rw[z]at this;exact this rfl
     refine no ?_ H4 s4;unfold eV;rw[beq_eq_false_iff_ne.mpr c3,zc]
   ·rw[Zr,bY]at c;refine no ?_ H' (aq.refl H');have hz:e.2.result= []:=by
     cases h:e.2.result with
     |nil=>rfl
     |cons=>rw[h]at c;simp at c
    unfold eV;rw[hz];rfl
  ·rintro σ H' ⟨v3,v4,as,rfl,s,hA,hR⟩;rw[←lr,xm]at hR;refine ⟨s _ _ mF,_,rfl,kk _ D as (af9 H' s) hD (by rw[aA vL];exact hA) (Paired.mono (λa x z=>?_) hR)⟩;have bt:ic A.g HL (aj H' A.g (.dT af)):=λb o e ne=>by rw[aA ne];exact s _ _ e
   exact z.d9 bt (λxs y=>by rw[mF]at y;cases y) (λc dx fs y=>by rw[mF]at y;cases y)
end
section
theorem Rf {B:bc}{r i n:Nat}(h:(fj B.T B.ms.length r)[i]? =some n):((fj B.T B.ms.length r).take (i+1)).filter (iz B r)=((fj B.T B.ms.length r).take i).filter (iz B r)++if iz B r n=true then [n] else []:=by rw[da h,zS,zU,zV]
theorem bX.append {H:Hp}:∀{as bs:List Addr}{ls ms:List (List Int)},bX H as ls->bX H bs ms->bX H (as++bs) (ls++ms)
 |_,_,_,_,.nil,q=>q
 |_,_,_,_,.cons a r,q=> .cons a (bX.append r q)
theorem cP.mD {C CM CR:Addr}{H:Hp}{A:Ad}{B:bc}(h:cP C CM CR H A B) {n:Nat}(h1:1<=n/\n<=B.ms.length):∃mo a,B.ms[n - 1]? =some mo/\A.as[n - 1]? =some a/\pT CM H a mo:=by obtain ⟨mo,dR⟩:∃mo,B.ms[n - 1]? =some mo:=⟨_,yb ZD⟩;obtain ⟨a,ha,hM⟩:=h.b9.get dR;exact ⟨mo,a,dR,ha,hM⟩
theorem Rg {B:bc}(O:Ok B):aG B.T .gap<=9:=(oI O.wt .gap rfl).2
noncomputable def aga (K:PySem.W.Frag) (C CM CR:Addr):Sp:=λvs H Q _a=>∃(A:Ad) (B:bc) (r:Nat),vs= [.ref A.b,.int r]/\cP C CM CR H A B/\Ok B/\1<=r/\r<=B.rs.length+1/\dO H Q (vi (nI (eJ B r)))
noncomputable abbrev vP:Prop:=a7 P w K mg base 3 "offerable" ["bank","stage"] (aga K aE aM aN)
theorem agb (n:a9 K mg "offerable" OK) (T:Txt K mg) (aw:b6 K mg aE) (aL:bZ K mg aM) (aS:cp K mg aN) (oA:BS) (mG:vy) (sJ:BJ) (ff:mw) (Hb:GG) (cG:ia):vP:=by
  refine bf ["bank","stage","before","resting","numbers","number","motion"] n λf aK A aJ s H vs Q E hr nd hu h=>?_
  obtain ⟨A,B,r,rfl,hB,O,h1,h2,kk⟩:=h;refine ⟨_,(aB (bj 2 nd (aD oA hr (au (pv 0) (au aH (ai (bx eO (pv 1) aH))))))
   (aB (bj 3 nd (aD mG hr (au (pv 0) (ai (aD oA hr (au (pv 0) (au (bx eO (pv 1) (aD cG hr (au (aP K (pv 0)) (ai dY)))) (ai (bx eO (pv 1) aH)))))))))
   (aB (bj 4 nd (aW cW))
   (aB (eW PassesOwn.never rfl (dZ (aD sJ hr (au (pv 0) (ai (pv 1))))) (cH 5 nd) (aB (bj 6 nd (aD ff hr (au (pv 0) (ai (pv 5)))))
    (aC (aX (PW.pt (oZ (cN (aD Hb hr (au (pv 0) (au (pv 1) (ai (pv 6)))))) (oZ (nu (E1 (K:=K)) (pv 5) (pv 2) (by with_unfolding_all rfl)) (qQ (nu (E8 (K:=K) hu) (aP K (pv 6)) (pv 3) (by with_unfolding_all rfl)))))) (aC (fu (iH K (pv 4) (pv 5)))) aZ))))
   (aC (aF (pv 4))))))),?_⟩
  have h9:=O.jR;have agc:=Rg O;have oB:=O.nm;have e1:((r:Int) - 1)=((r - 1:Nat):Int):=by omega
  refine ⟨_,rfl,_,rfl,_,_,rfl,rfl,A,B,1,(r:Int) - 1,rfl,hB,O,by omega,by omega,by omega,by omega,λH1 p1 s1 i7 Rh=>?_⟩;have bS:=hB.same s1;refine ⟨_,rfl,_,rfl,_,rfl,_,rfl,A.b,aE,A.dx,_,_,rfl,bS.bk,aw.cl,aw.d7,gy _ _ _ _ _,A.d,.gap,B.T,rfl,rfl,bS.told.r,O.wt,λH2 s2=>?_⟩;have cy:=bS.same s2;refine ⟨_,_,rfl,rfl,_,rfl,_,_,rfl,rfl,A,B,(r:Int) - (aG B.T .gap:Int),(r:Int) - 1,rfl,cy,O,by omega,by omega,by omega,by omega,λH3 p3 s3 mH vQ=>?_⟩;have f9:=cy.same s3;rw[V5 h1 h2]at Rh;rw[Lg h1 h2]at vQ;have dy:(mS B r).length<=45:=by rw[←Lg h1 h2];exact O.Lk _ _
  refine ⟨A.b,A.d,A.m,A.as,B.T,B.ms,p3,mS B r,rfl,f9.v,ag.of vQ,λn hn=>O.flat (Kt hn),by omega,λH4 q ts s4 hq hQ hR=>?_⟩;have vR:=f9.same s4;have Ri:aq H H4:=((s1.trans s2).trans s3).trans s4;have agd:=((s2.trans s3).trans s4) _ _ Rh;refine ⟨xQ _,λo ho=>?_⟩;have s5:=bU (o:= .lst []) ho;refine ⟨_,rfl,_,rfl,A.b,A.d,A.m,A.as,B.T,B.ms,r,rfl,(vR.same s5).v,O.wt,by omega,λH6 pl s6 dj iK=>?_⟩;obtain ⟨vS,_⟩:=bK dj;have iK:H6 pl=some (.lst (vi (nI (fj B.T B.ms.length r)))):=iK;refine ⟨pl,rfl,⟨_,ag.of iK⟩,jj (K:=K) (a:=pl) (xs:=vi (nI (fj B.T B.ms.length r))) (λi σ H'=>∃v5 v6:Option V,σ= [some (.ref A.b),some (.int r),some (.ref p1),some (.ref q),some (.ref o),v5,v6]/\aq H4 H'/\H' pl=some (.lst (vi (nI (fj B.T B.ms.length r))))/\H' o=some (.lst (vi (nI (((fj B.T B.ms.length r).take i).filter (iz B r)))))) ⟨none,none,rfl,s5.trans s6,iK,s6 _ _ ao⟩ (λi σ H' _a ⟨_,_,_,_,h,_⟩=>ag.of h) ?_ ?_⟩
  ·rintro i v σ H' hv ⟨v5,v6,rfl,s,km,hO⟩;obtain ⟨z,hz,rfl⟩:=cD hv;obtain ⟨n,hn,rfl⟩:=cD hz;have gc:=wU (yY hn);have hi:=(List.getElem?_eq_some_iff.mp hn).1;rw[C5]at hi;have f6:=vR.same s;obtain ⟨mo,a,dR,ha,hM⟩:=f6.mD gc;have vB:=yz (iz B r) ((fj B.T B.ms.length r).take i);rw[yF]at vB;have B8:iz B r n=(tR B.T r mo&&(!(tS B r).contains n&& !((mS B r).map (dB B.ms)).contains mo.topic)):=by unfold iz;rw[dR]
   have no:iz B r n=false->∀H2,aq H' H2->∃v5' v6':Option V,([some (.ref A.b),some (.int r),some (.ref p1),some (.ref q),some (.ref o),some (.int n),some (.ref a)]:L2.St)= [some (.ref A.b),some (.int r),some (.ref p1),some (.ref q),some (.ref o),v5',v6']/\aq H4 H2/\H2 pl=some (.lst (vi (nI (fj B.T B.ms.length r))))/\H2 o=some (.lst (vi (nI (((fj B.T B.ms.length r).take (i+1)).filter (iz B r))))):=by intro hf H2 t2;rw[Rf hn,Zw (by rw[hf];decide),zE];exact ⟨_,_,rfl,s.trans t2,t2 _ _ km,t2 _ _ hO⟩
   refine ⟨_,rfl,_,rfl,A.b,A.d,A.m,A.as,B.T,B.ms,n,a,rfl,f6.v,gc.1,ha,?_⟩;refine ⟨_,rfl,_,rfl,_,rfl,A.b,A.d,A.m,A.as,B.T,B.ms,r,a,mo,rfl,f6.v,O.wt,hM,λH7 s7=>⟨_,rfl,aI (λc1=>?_) (λc1=>?_)⟩⟩
   ·refine ⟨_,rfl,_,rfl,p1,_,rfl,.inl (ag.of ((s.trans s7) _ _ agd)),rfl,ou _,_,rfl,aI (λc2=>?_) (λc2=>?_)⟩
    ·rw[Zx rfl,mx,p8]at c2;obtain ⟨dm,tp,tx,fh,iI,kh⟩:=hM.same s7;refine ⟨_,rfl,a,aM,dm,_,_,rfl,fh,aL.cl,aL.nT,pU _ _ _ _,_,rfl,tp,q,nI mo.topic,ts,((mS B r).map (dB B.ms)).map nI,rfl,rfl,ag.of iI,ag.of ((s.trans s7) _ _ hQ),(hR.same (s.trans s7)).k,_,rfl,aI (λc3=>?_) (λc3=>?_)⟩
     ·rw[Zx rfl,pO]at c3;have hy:iz B r n=true:=by rw[B8,c1,c2,c3];rfl
      refine ⟨_,rfl,.inl ⟨rfl,_,ag.of (s7 _ _ hO)⟩,_,rfl,o,_,.int n,rfl,rfl,s7 _ _ hO,?_,_,_,rfl,aU (s.trans s7) ho,by rw[aA vS];exact s7 _ _ km,?_⟩
      ·rw[bY];exact dv ZD
      ·rw[ao,Rf hn,Zx hy,kl,dw];rfl
     ·rw[Zx rfl,pO]at c3;exact no (by rw[B8,c1,c2,c3];rfl) H7 s7
    ·rw[Zx rfl,mx,p8]at c2;exact no (by rw[B8,c1,c2];rfl) H7 s7
   ·exact no (by rw[B8,c1];rfl) H7 s7
  ·rintro σ H' ⟨v5,v6,rfl,s,km,hO⟩;rw[bY,xm]at hO;exact ⟨_,rfl,kk H' o (Ri.trans s) (Ri.free ho) hO⟩
noncomputable def agg (K:PySem.W.Frag) (C CM CR:Addr):Sp:=λvs H Q _a=>∃(A:Ad) (B:bc) (p:Addr) (ns:List Nat),vs= [.ref A.b,.ref p]/\cP C CM CR H A B/\Ok B/\ag K H p (vi (nI ns))/\(∀n∈ns,1<=n/\n<=B.ms.length)/\ns.length<=1000/\u9 H Q ((gY B ns).map nI)
noncomputable abbrev B9:Prop:=a7 P w K mg base 3 "barred_beside" ["bank","numbers"] (agg K aE aM aN)
theorem agh (n:a9 K mg "barred_beside" OL) (T:Txt K mg) (aw:b6 K mg aE) (aL:bZ K mg aM) (aS:cp K mg aN) (mG:vy) (cG:ia):B9:=by
  refine bf ["bank","numbers"] n λf aK A aJ s H vs Q E hr nd hu h=>?_
  obtain ⟨A,B,p,ns,rfl,hB,O,hp,hn,hl,kk⟩:=h;refine ⟨_,(aB (aX (bz cF (aD cG hr (au (aP K (pv 0)) (ai dY))) aH) (aC (aF (aW cW))) aZ)
   (aC (aF (aD mG hr (au (pv 0) (ai (pv 1))))))),?_⟩
  refine ⟨_,rfl,A.b,aE,A.dx,_,_,rfl,hB.bk,aw.cl,aw.d7,gy _ _ _ _ _,A.d,.unlike,B.T,rfl,rfl,hB.told.r,O.wt,λH1 s1=>⟨rfl,_,rfl,aI (λc=>?_) (λc=>?_)⟩⟩
  ·have c':aG B.T .unlike=0:=by have:=ZA c;injection this with this;omega
   unfold gY at kk;rw[Zx c']at kk;exact ⟨xQ _,λq hq=>kk _ q [] (aU s1 (s1.free hq)) (s1.free hq) ao .nil⟩
  ·have c':¬aG B.T .unlike=0:=λz=>Zz c (by rw[z];rfl)
   unfold gY at kk;rw[Zw c']at kk;exact ⟨_,rfl,_,rfl,A.b,A.d,A.m,A.as,B.T,B.ms,p,ns,rfl,(hB.same s1).v,s1.seq hp,hn,hl,λH2 q ts s2 hq hQ hR=>kk H2 q ts (s1.trans s2) (s1.free hq) hQ hR⟩
noncomputable def agi (K:PySem.W.Frag) (C CM CR:Addr):Sp:=λvs H Q _a=>∃(A:Ad) (B:bc) (r:Nat),vs= [.ref A.b,.int r]/\r=B.rs.length+1/\cP C CM CR H A B/\Ok B/\dO H Q (vi (nI (dW B)))
noncomputable abbrev Hc:Prop:=a7 P w K mg base 4 "chosen" ["bank","stage"] (agi K aE aM aN)
theorem agj (n:a9 K mg "chosen" OM) (T:Txt K mg) (aw:b6 K mg aE) (aL:bZ K mg aM) (aS:cp K mg aN) (mI:vP) (cG:ia) (sL:B9) (ff:mw):Hc:=by
  refine bf ["bank","stage","numbers","number"] n λf aK A aJ s H vs Q E hr nd hu h=>?_
  obtain ⟨A,B,r,rfl,Ca,hB,O,kk⟩:=h;refine ⟨_,(aB (bj 2 nd (aW cW))
   (aB (eW PassesOwn.never rfl (dZ (aD mI hr (au (pv 0) (ai (pv 1))))) (cH 3 nd) (aB (aX (bz cF (bJ K T.bG (pv 2)) (aD cG hr (au (aP K (pv 0)) (ai dY)))) (aC (aF (pv 2))) aZ)
    (aC (aX (nu (E8 (K:=K) hu) (aP K (aD ff hr (au (pv 0) (ai (pv 3))))) (aD sL hr (au (pv 0) (ai (pv 2)))) (by with_unfolding_all rfl)) (aC (fu (iH K (pv 2) (pv 3)))) aZ))))
   (aC (aF (pv 2))))),?_⟩
  subst Ca;have oB:=O.nm;refine ⟨xQ _,λo ho=>?_⟩;have s0:=bU (o:= .lst []) ho;refine ⟨_,rfl,_,rfl,A,B,B.rs.length+1,rfl,hB.same s0,O,by omega,xC _,λH1 pl s1 dj iK=>?_⟩;obtain ⟨vS,_⟩:=bK dj;generalize hL:eJ B (B.rs.length+1)=L at*;have BP:L.length<=B.ms.length:=by rw[←hL];exact C9 _
  have He:∀n∈L,1<=n/\n<=B.ms.length:=λn hn=>wV (by rw[hL];exact hn)
  have hC:mT B L []=dW B:=by unfold dW;rw[hL]
  refine ⟨pl,rfl,⟨_,ag.of iK⟩,jj (K:=K) (a:=pl) (xs:=vi (nI L)) (λi σ H'=>∃(v:Option V) (bo:List Nat),σ= [some (.ref A.b),some (.int ((B.rs.length+1:Nat):Int)),some (.ref o),v]/\aq H H'/\H' pl=some (.lst (vi (nI L)))/\H' o=some (.lst (vi (nI bo)))/\mT B (L.drop i) bo=dW B/\(∀n∈bo,1<=n/\n<=B.ms.length)/\bo.length<=i) ⟨none,[],rfl,s0.trans s1,iK,s1 _ _ ao,hC,by simp,xC _⟩ (λi σ H' _a ⟨_,_,_,_,h,_⟩=>ag.of h) ?_ ?_⟩
  ·rintro i v σ H' hv ⟨v0,bo,rfl,s,km,hO,i8,iL,mF⟩;obtain ⟨z,hz,rfl⟩:=cD hv;obtain ⟨n,hn,rfl⟩:=cD hz;have gc:=He n (yY hn);have hi:=(List.getElem?_eq_some_iff.mp hn).1;have f6:=hB.same s;rw[E2 hn,mT]at i8;refine ⟨_,rfl,o,_,rfl,.inl (ag.of hO),_,rfl,A.b,aE,A.dx,_,_,rfl,f6.bk,aw.cl,aw.d7,gy _ _ _ _ _,A.d,.offer,B.T,rfl,rfl,f6.told.r,O.wt,λH2 s2=>⟨rfl,_,rfl,aI (λc=>?_) (λc=>?_)⟩⟩
   ·have c':bo.length=aG B.T .offer:=by have:=ZA c;rw[bY]at this;injection this with this;omega
    rw[Zx c']at i8;refine ⟨_,rfl,kk H2 o (s.trans s2) ho ?_⟩;rw[←i8];exact s2 _ _ hO
   ·have c':¬bo.length=aG B.T .offer:=λz=>Zz c (by rw[bY,z])
    rw[Zw c']at i8;have cy:=f6.same s2;obtain ⟨mo,a,dR,ha,dm,tp,tx,fh,iI,kh⟩:=cy.mD gc;have eT:dB B.ms n=mo.topic:=by unfold dB;rw[dR];rfl
    refine ⟨_,rfl,_,rfl,A.b,A.d,A.m,A.as,B.T,B.ms,n,a,rfl,cy.v,gc.1,ha,a,aM,dm,_,_,rfl,fh,aL.cl,aL.nT,pU _ _ _ _,_,rfl,_,rfl,A,B,o,bo,rfl,cy,O,ag.of (s2 _ _ hO),iL,by omega,λH3 q ts s3 hq hQ hR=>?_⟩;have lB:=s2.trans s3;refine ⟨tp,q,nI mo.topic,ts,(gY B bo).map nI,rfl,rfl,ag.of (s3 _ _ iI),ag.of hQ,hR.k,_,rfl,aI (λc2=>?_) (λc2=>?_)⟩
    ·rw[Zx rfl,pO,←eT]at c2;have c3:(gY B bo).contains (dB B.ms n)=false:=by simpa using c2
     rw[Zx c3]at i8;refine ⟨_,rfl,.inl ⟨rfl,_,ag.of (lB _ _ hO)⟩,_,rfl,o,_,.int n,rfl,rfl,lB _ _ hO,?_,some (.int n),bo++ [n],rfl,aU (s.trans lB) ho,by rw[aA vS];exact lB _ _ km,?_,i8,?_,?_⟩
     ·rw[bY];exact dv ZD
     ·rw[ao,kl,dw];rfl
     ·intro x hx;rcases List.mem_append.mp hx with z|z
      ·exact iL x z
      ·rw[List.mem_singleton.mp z];exact gc
     ·rw[yt,yE];omega
    ·rw[Zx rfl,pO,←eT]at c2;have c3:¬(gY B bo).contains (dB B.ms n)=false:=by simpa using c2
     rw[Zw c3]at i8;exact ⟨some (.int n),bo,rfl,s.trans lB,lB _ _ km,lB _ _ hO,i8,iL,by omega⟩
  ·rintro σ H' ⟨v0,bo,rfl,s,km,hO,i8,iL,mF⟩;rw[bY,zL]at i8;have i8:bo=dW B:=i8;subst i8;exact ⟨_,rfl,kk H' o s ho hO⟩
noncomputable def agk (K:PySem.W.Frag) (C CM CR:Addr):Sp:=λvs H Q _a=>∃(A:Ad) (B:bc) (k m:Nat) (l:List Nat),vs= [.ref A.b,.int k,.int m]/\cP C CM CR H A B/\Ok B/\1<=k/\B.rs[k - 1]? =some l/\dO H Q (vi (nI (kG B k l m)))
noncomputable abbrev Hf:Prop:=a7 P w K mg base 4 "substitutes" ["bank","stage","replaced"] (agk K aE aM aN)
theorem agl (n:a9 K mg "substitutes" ON) (T:Txt K mg) (aw:b6 K mg aE) (aL:bZ K mg aM) (aS:cp K mg aN) (oA:BS) (mI:vP) (mG:vy) (sL:B9) (cG:ia) (ff:mw):Hf:=by
  refine bf ["bank","stage","replaced","others","number","offered","behind","barred","numbers"] n λf aK A aJ s H vs Q E hr nd hu h=>?_
  obtain ⟨A,B,k,m,l,rfl,hB,O,h1,h2,kk⟩:=h;refine ⟨_,(aB (Be 3 nd (dZ (bL K (aP K (pv 0)) (bx eO (pv 1) aH))) (own:= [("number",4)]) (by rfl) (λ_a _a _a _a _a=>cH 4 nd) (λ_a _a _a _a _a=>(nM (bz nj (pv 4) (pv 2)))) (λ_a _a _a _a _a=>(pv 4)))
   (aB (bj 5 nd (aD oA hr (au (pv 0) (au aH (ai (bJ K T.bG (aP K (pv 0))))))))
   (aB (bj 6 nd (aD oA hr (au (pv 0) (au (bx eN (pv 1) aH) (ai (bx eN (pv 1) (aD cG hr (au (aP K (pv 0)) (ai dY)))))))))
   (aB (bj 7 nd (bx fV (aD mG hr (au (pv 0) (ai (pv 6)))) (aD sL hr (au (pv 0) (ai (pv 3))))))
   (aB (bj 8 nd (aW cW))
   (aB (eW PassesOwn.never rfl (dZ (aD mI hr (au (pv 0) (ai (pv 1))))) (cH 4 nd) (aC (aX (PW.pt (oZ (nu (E1 (K:=K)) (pv 4) (pv 5) (by with_unfolding_all rfl)) (qQ (nu (E8 (K:=K) hu) (aP K (aD ff hr (au (pv 0) (ai (pv 4))))) (pv 7) (by with_unfolding_all rfl))))) (aC (fu (iH K (pv 8) (pv 4)))) aZ)))
   (aC (aF (pv 8))))))))),?_⟩
  have h9:=O.jR;have agc:=Rg O;have oB:=O.nm;have hk:=(List.getElem?_eq_some_iff.mp h2).1;have qe:=O.jS (yY h2);have hlr:=(O.ro l (yY h2)).2.2;obtain ⟨ra,i9,dy⟩:=hB.kj h2;refine ⟨_,rfl,A.b,aE,A.dx,_,_,rfl,hB.bk,aw.cl,aw.dQ,ef _ _ _ _ _,_,rfl,_,_,rfl,rfl,A.r,_,_,.ref ra,rfl,rfl,ag.of hB.cf,ow i9 ZD,ra,rfl,⟨_,ag.of dy⟩,λD hD=>jx (K:=K) (a:=ra) (xs:=vi (nI l)) (λi H'=>aq H H'/\H' D=some (.lst (vi (nI ((l.take i).filter λn=>n !=m))))) ⟨bU hD,ao⟩ (λi H' _a h=>ag.of (h.1 _ _ dy)) ?_ ?_⟩
  ·rintro i v H' hv ⟨s,hA⟩;obtain ⟨z,hz,rfl⟩:=cD hv;obtain ⟨n,hn,rfl⟩:=cD hz;have hi:=(List.getElem?_eq_some_iff.mp hn).1;refine ⟨rfl,?_⟩;refine ⟨_,rfl,_,rfl,rfl,_,rfl,aI (λc=>?_) (λc=>?_)⟩
   ·have c':(n !=m)=true:=by simp only[zm,Zr]at c;simp only[Zn,ne_eq];exact λz=>c (by rw[z])
    refine ⟨_,rfl,_,hA,?_,aU s hD,?_⟩
    ·rw[bY];have:=yz (λn=>n !=m) (l.take i);rw[yF]at this;exact dv ZD
    ·rw[ao,da hn,zS,zU,Zx c',zV,kl,dw];rfl
   ·have c':(n !=m)=false:=by simp only[zl,Zt]at c;injection c with c;simp only[bne_eq_false_iff_eq];omega
    refine ⟨s,?_⟩;rw[da hn,zS,zU,Zw (by rw[c'];decide),zV,zE];exact hA
  ·rintro H1 ⟨s1,hA⟩;rw[bY,xm]at hA;have bS:=hB.same s1;have vB:=yz (λn=>n !=m) l;refine ⟨_,rfl,_,rfl,A.b,aE,A.dx,_,_,rfl,bS.bk,aw.cl,aw.dQ,ef _ _ _ _ _,A.r,_,rfl,.inl (ag.of bS.cf),A,B,1,(B.rs.length:Int),?_,bS,O,by omega,by omega,by omega,by omega,λH2 p2 s2 nN pR=>?_⟩
   ·rw[yA,hB.fK];rfl
   rw[V6]at pR;have cy:=bS.same s2;refine ⟨_,rfl,_,rfl,_,_,rfl,rfl,_,rfl,_,rfl,A.b,aE,A.dx,_,_,rfl,cy.bk,aw.cl,aw.d7,gy _ _ _ _ _,A.d,.gap,B.T,rfl,rfl,cy.told.r,O.wt,λH3 s3=>?_⟩;have f9:=cy.same s3;refine ⟨_,_,rfl,rfl,A,B,(k:Int)+1,(k:Int)+(aG B.T .gap:Int),rfl,f9,O,by omega,by omega,by omega,by omega,λH4 p4 s4 oe Rj=>?_⟩;rw[Lh h1 ZD]at Rj;have vR:=f9.same s4;have Qb:(mU B k).length<=45:=by rw[←Lh h1 ZD];exact O.Lk _ _
   refine ⟨_,rfl,_,rfl,A.b,A.d,A.m,A.as,B.T,B.ms,p4,mU B k,rfl,vR.v,ag.of Rj,λn hn=>O.flat (Ku hn),by omega,λH5 q5 sM s5 hq5 hQ5 Rk=>?_⟩;have oC:=vR.same s5;have vT:=((s2.trans s3).trans s4).trans s5;refine ⟨_,rfl,_,rfl,A,B,D,l.filter (λn=>n !=m),rfl,oC,O,ag.of (vT _ _ hA),λn hn=>hlr n (List.mem_filter.mp hn).1,by omega,λH6 q6 sN s6 Rn vU Ro=>?_⟩;have sO:=oC.same s6;have l5:=Rk.length;have l6:=Ro.length;have anf:(gY B (l.filter λn=>n !=m)).length<=5:=by
    unfold gY;split
    ·exact xQ _
    ·rw[yA];omega
   simp only[yA]at l5 l6;refine ⟨q5,q6,_,_,rfl,rfl,s6 _ _ hQ5,vU,?_,λqb hqb=>?_⟩
   ·rw[yA,yA];exact eQ ZD
   have s7:=bU (o:= .lst (sM.map V.ref++sN.map V.ref)) hqb;have Hg:=((Rk.same s6).append Ro).same s7;have hQb:aj H6 qb (.lst (sM.map V.ref++sN.map V.ref)) qb=some (.lst ((sM++sN).map V.ref)):=by rw[ao,yH]
   have Rp:=sO.same s7;have Rq:=(s1.trans (vT.trans s6)).trans s7;have agq:=(((s3.trans s4).trans s5).trans s6|>.trans s7) _ _ pR;have Hg:bX (aj H6 qb (.lst (sM.map V.ref++sN.map V.ref))) (sM++sN) (((mU B k).map (dB B.ms)++gY B (l.filter λn=>n !=m)).map nI):=by rw[yH];exact Hg
   generalize aj H6 qb (.lst (sM.map V.ref++sN.map V.ref))=H7 at*;generalize agr:(mU B k).map (dB B.ms)++gY B (l.filter λn=>n !=m)=bar at*;refine ⟨xQ _,λo ho=>?_⟩;have s8:=bU (o:= .lst []) ho;refine ⟨_,rfl,_,rfl,A,B,k,rfl,Rp.same s8,O,h1,by omega,λH9 pl s9 dj iK=>?_⟩;obtain ⟨vS,_⟩:=bK dj;have BP:(eJ B k).length<=B.ms.length:=C9 _;let P:Nat->Bool:=λn=> !(B.rs.flatten.contains n)&& !(bar.contains (dB B.ms n))
   have ags:kG B k l m=(eJ B k).filter P:=by unfold kG;rw[agr]
   refine ⟨pl,rfl,⟨_,ag.of iK⟩,jj (K:=K) (a:=pl) (xs:=vi (nI (eJ B k))) (λi σ H'=>∃v:Option V,σ= [some (.ref A.b),some (.int k),some (.int m),some (.ref D),v,some (.ref p2),some (.ref p4),some (.ref qb),some (.ref o)]/\aq H7 H'/\H' pl=some (.lst (vi (nI (eJ B k))))/\H' o=some (.lst (vi (nI (((eJ B k).take i).filter P))))) ⟨_,rfl,s8.trans s9,iK,s9 _ _ ao⟩ (λi σ H' _a ⟨_,_,_,h,_⟩=>ag.of h) ?_ ?_⟩
   ·rintro i v σ H' hv ⟨v0,rfl,s,km,hO⟩;obtain ⟨z,hz,rfl⟩:=cD hv;obtain ⟨n,hn,rfl⟩:=cD hz;have gc:=wV (yY hn);have hi:=(List.getElem?_eq_some_iff.mp hn).1;have f6:=Rp.same s;have hf2:=yz P ((eJ B k).take i);rw[yF]at hf2;have hs:((eJ B k).take (i+1)).filter P=((eJ B k).take i).filter P++if P n=true then [n] else []:=by rw[da hn,zS,zU,zV]
    obtain ⟨mo,a,dR,ha,dm,tp,tx,fh,iI,kh⟩:=f6.mD gc;have eT:dB B.ms n=mo.topic:=by unfold dB;rw[dR];rfl
    have no:P n=false->∃v':Option V,([some (.ref A.b),some (.int k),some (.int m),some (.ref D),some (.int n),some (.ref p2),some (.ref p4),some (.ref qb),some (.ref o)]:L2.St)= [some (.ref A.b),some (.int k),some (.int m),some (.ref D),v',some (.ref p2),some (.ref p4),some (.ref qb),some (.ref o)]/\aq H7 H'/\H' pl=some (.lst (vi (nI (eJ B k))))/\H' o=some (.lst (vi (nI (((eJ B k).take (i+1)).filter P)))):=by intro hf;rw[hs,Zw (by rw[hf];decide),zE];exact ⟨_,rfl,s,km,hO⟩
    refine ⟨_,rfl,_,rfl,p2,_,rfl,.inl (ag.of (s _ _ agq)),rfl,ou _,_,rfl,aI (λc1=>?_) (λc1=>?_)⟩
    ·rw[Zx rfl,mx,p8]at c1;refine ⟨_,rfl,_,rfl,A.b,A.d,A.m,A.as,B.T,B.ms,n,a,rfl,f6.v,gc.1,ha,a,aM,dm,_,_,rfl,fh,aL.cl,aL.nT,pU _ _ _ _,_,rfl,tp,qb,nI mo.topic,_,_,rfl,rfl,ag.of iI,ag.of (s _ _ hQb),(Hg.same s).k,_,rfl,aI (λc2=>?_) (λc2=>?_)⟩
     ·rw[Zx rfl,pO,←eT]at c2;have hy:P n=true:=by show (!(B.rs.flatten.contains n)&& !(bar.contains (dB B.ms n)))=true;rw[c1,c2];rfl
      refine ⟨_,rfl,.inl ⟨rfl,_,ag.of hO⟩,_,rfl,o,_,.int n,rfl,rfl,hO,?_,_,rfl,aU s ho,by rw[aA vS];exact km,?_⟩
      ·rw[bY];exact dv ZD
      ·rw[ao,hs,Zx hy,kl,dw];rfl
     ·rw[Zx rfl,pO,←eT]at c2;exact no (by show (!(B.rs.flatten.contains n)&& !(bar.contains (dB B.ms n)))=false;rw[c1,c2];rfl)
    ·rw[Zx rfl,mx,p8]at c1;exact no (by show (!(B.rs.flatten.contains n)&& !(bar.contains (dB B.ms n)))=false;rw[c1];rfl)
   ·rintro σ H' ⟨v0,rfl,s,km,hO⟩;rw[bY,xm,←ags]at hO;exact ⟨_,rfl,kk H' o (Rq.trans s) (Rq.free ho) hO⟩
end
section
theorem cj:(1:Nat)<=sizeLine:=by decide
theorem vV {n:Int}{ms:List Int}{l:List Nat}:iP {value:=n,more:=ms,rows:= [nI l]}=(n::ms)++((l.length:Int)::nI l):=by unfold iP;simp[bR]
noncomputable def agu (K:PySem.W.Frag) (C CM CR:Addr):Sp:=λvs H Q _a=>∃(ρ:Rl) (A:Ad) (B:bc) (z:Int),vs= [.ref A.b,.int z]/\bE C CM CR H ρ A B/\Ok B/\dF C CM CR H ρ A B Q (.offered z)
noncomputable abbrev Hh:Prop:=a7 P w K mg base 2 "offered_answer" ["bank","stage"] (agu K aE aM aN)
theorem agv (n:a9 K mg "offered_answer" O0) (T:Txt K mg) (aw:b6 K mg aE) (aL:bZ K mg aM) (aS:cp K mg aN) (ip:pZ) (dE:ki) (mB:vf) (sP:BZ):Hh:=by
  refine bf ["bank","stage","numbers"] n λf aK A aJ s H vs Q E hr nd hu h=>?_
  obtain ⟨ρ,A,B,z,rfl,F,O,dn⟩:=h;refine ⟨_,(aB (aX (cJ (cN (aD ip hr (au (pv 0) (ai (pv 1)))))) (aC (aF (aW (ai (aR T.jD))))) aZ)
   (aB (bj 2 nd (bL K (aP K (pv 0)) (bx eO (pv 1) aH)))
   (aC (aF (bx fV (aW (au (bJ K T.bG (pv 2)) (au (aD mB hr (au (aP K (pv 0)) (ai (pv 1)))) (ai (aD sP hr (au (pv 0) (ai (pv 1)))))))) (aD dE hr (ai (pv 2)))))))),?_⟩
  have hB:=F.cQ;obtain ⟨af,hg,hP,_⟩:=F.hg;refine ⟨_,rfl,_,rfl,A,B,z,rfl,hB,_,rfl,aI (λc=>?_) (λc=>?_)⟩
  ·rw[zm,Zr]at c;exact ⟨cj,λq hq=>(dn.no F O (UX c)).one (aq.refl H) hq⟩
  ·rw[zl,Zt]at c;obtain ⟨k,rfl,k1,k2⟩:=mP c;obtain ⟨l,hl⟩:∃l,B.rs[k - 1]? =some l:=⟨_,yb k2⟩;obtain ⟨ra,i9,dy⟩:=hB.kj hl;have qe:=(O.jS (yY hl)).2;refine ⟨_,rfl,A.b,aE,A.dx,_,_,rfl,hB.bk,aw.cl,aw.dQ,ef _ _ _ _ _,_,rfl,_,_,rfl,rfl,A.r,_,_,.ref ra,rfl,rfl,ag.of hB.cf,ow i9 ZD,?_⟩;refine ⟨_,rfl,ra,_,rfl,.inl (ag.of dy),_,rfl,A.b,aE,A.dx,_,_,rfl,hB.bk,aw.cl,aw.d7,gy _ _ _ _ _,_,rfl,A.d,k,B.T,rfl,hB.told.r,O.wt,λH1 s1=>?_⟩;refine ⟨_,rfl,_,rfl,A,B,k,af,rfl,hB.same s1,O,s1 _ _ hg,λH2 s2=>⟨by show 3<=sizeLine;decide,λp hp=>?_⟩⟩;have bO:=s1.trans s2;have s3:=aU (o:= .lst [.int ((vi (nI l)).length:Nat),.int (cB B.T k:Nat),.int ((b7 B.rooms k).length:Nat)]) bO (bO.free hp);refine ⟨_,rfl,ra,nI l,rfl,s3 _ _ dy,by rw[bR];omega,λH4 q s4 hq hQ=>?_⟩;refine ⟨p,q,_,_,rfl,rfl,s4 _ _ ao,hQ,?_,λr hr=>?_⟩
   ·simp only[yu,yB,yA,bR];exact eQ ZD
   ·have s5:=s3.trans s4;refine dn.ret F O (UW O k1 hl) _ r (aU s5 (s5.free hr)) (s5.free hr) ?_;rw[ao,vV,bY,bR,dw];rfl
noncomputable def agw (K:PySem.W.Frag) (C CM CR:Addr):Sp:=λvs H Q _a=>∃(ρ:Rl) (A:Ad) (B:bc) (z:Int),vs= [.ref A.b,.int z]/\bE C CM CR H ρ A B/\Ok B/\dF C CM CR H ρ A B Q (.may z)
noncomputable abbrev Hi:Prop:=a7 P w K mg base 4 "may_answer" ["bank","stage"] (agw K aE aM aN)
theorem agx (n:a9 K mg "may_answer" O1) (T:Txt K mg) (aw:b6 K mg aE) (aL:bZ K mg aM) (aS:cp K mg aN) (mI:vP) (dE:ki):Hi:=by
  refine bf ["bank","stage","numbers"] n λf aK A aJ s H vs Q E hr nd hu h=>?_
  obtain ⟨ρ,A,B,z,rfl,F,O,dn⟩:=h;refine ⟨_,(aB (aX (cJ (j1 cO cO aH (pv 1) (bx eN (bJ K T.bG (aP K (pv 0))) aH))) (aC (aF (aW (ai (aR T.jD))))) aZ)
   (aB (bj 2 nd (aD mI hr (au (pv 0) (ai (pv 1)))))
   (aC (aF (bx fV (aW (ai (bJ K T.bG (pv 2)))) (aD dE hr (ai (pv 2)))))))),?_⟩
  have hB:=F.cQ;have oB:=O.nm;refine ⟨_,rfl,1,z,rfl,rfl,_,rfl,aI (λe=>?_) (λe=>?_)⟩
  ·refine ⟨_,rfl,A.b,aE,A.dx,_,_,rfl,hB.bk,aw.cl,aw.dQ,ef _ _ _ _ _,A.r,_,rfl,.inl (ag.of hB.cf),_,_,rfl,rfl,_,_,rfl,rfl,_,rfl,aI (λc=>?_) (λc=>?_)⟩
   ·rw[zm,Zr,yA,hB.fK]at c;exact ⟨cj,λq hq=>(dn.no F O (Kv λy=>c y.2)).one (aq.refl H) hq⟩
   ·rw[zl,Zt,yA,hB.fK]at c;rw[Zt]at e;obtain ⟨k,rfl⟩:∃k:Nat,z=k:=⟨z.toNat,by omega⟩;refine ⟨_,rfl,_,rfl,A,B,k,rfl,hB,O,by omega,by omega,λH1 p s1 hp hP=>?_⟩;have Rr:=C9 (B:=B) k;refine ⟨_,rfl,p,_,rfl,.inl (ag.of hP),by show 1<=sizeLine;decide,λl hl=>?_⟩;have s2:=aU (o:= .lst [.int ((vi (nI (eJ B k))).length:Nat)]) s1 (s1.free hl);have pl:p≠l:=b8 hP hl;refine ⟨_,rfl,p,nI (eJ B k),rfl,by rw[aA pl];exact hP,by rw[bR];omega,λH4 q s4 hq hQ=>?_⟩;refine ⟨l,q,_,_,rfl,rfl,s4 _ _ ao,hQ,?_,λr hr=>?_⟩
    ·simp only[yu,yB,yA,bR];exact eQ ZD
    ·have s5:=s2.trans s4;refine dn.ret F O (U4 O ⟨by omega,by omega⟩) _ r (aU s5 (s5.free hr)) (s5.free hr) ?_;rw[ao,vV,bY,bR,dw];rfl
  ·rw[Zr]at e;exact ⟨_,rfl,cj,λq hq=>(dn.no F O (Kv λy=>e y.1)).one (aq.refl H) hq⟩
noncomputable def agy (K:PySem.W.Frag) (C CM CR:Addr):Sp:=λvs H Q _a=>∃(ρ:Rl) (A:Ad) (B:bc) (z:Int),vs= [.ref A.b,.int z]/\bE C CM CR H ρ A B/\Ok B/\dF C CM CR H ρ A B Q (.told z)
noncomputable abbrev Hj:Prop:=a7 P w K mg base 2 "told_answer" ["bank","number"] (agy K aE aM aN)
theorem agz (n:a9 K mg "told_answer" O4) (T:Txt K mg) (aw:b6 K mg aE) (aL:bZ K mg aM) (aS:cp K mg aN) (ff:mw) (mJ:vq) (dE:ki) (Hk:GO):Hj:=by
  refine bf ["bank","number","motion"] n λf aK A aJ s H vs Q E hr nd hu h=>?_
  obtain ⟨ρ,A,B,z,rfl,F,O,dn⟩:=h;refine ⟨_,(aB (aX (cJ (cN (aD mJ hr (au (pv 0) (ai (pv 1)))))) (aC (aF (aW (ai (aR T.jD))))) aZ)
   (aB (bj 2 nd (aD ff hr (au (pv 0) (ai (pv 1)))))
   (aC (aF (bx fV (aW (au (aP K (pv 2)) (au (DE (cN (aP K (pv 2))) aH aH) (ai (aD Hk hr (au (pv 0) (ai (pv 1)))))))) (aD dE hr (ai (aP K (pv 2))))))))),?_⟩
  have hB:=F.cQ;refine ⟨_,rfl,_,rfl,A.b,A.d,A.m,A.as,B.T,B.ms,z,rfl,hB.v,λH1 s1=>⟨_,rfl,aI (λc=>?_) (λc=>?_)⟩⟩
  ·rw[zm,ot,Zr]at c;exact ⟨cj,λq hq=>(dn.no F O (U0 c)).one s1 hq⟩
  ·rw[zl,ot,Zt]at c;obtain ⟨k,rfl,k1,k2⟩:=mP c;have bS:=hB.same s1;obtain ⟨mo,a,dR,ha,dm,tp,tx,fh,iI,kh⟩:=bS.mD (n:=k) ⟨k1,by omega⟩;have h8:=O.mo mo (yY dR);refine ⟨_,rfl,_,rfl,A.b,A.d,A.m,A.as,B.T,B.ms,k,a,rfl,bS.v,k1,ha,?_⟩;refine ⟨_,rfl,a,aM,dm,_,_,rfl,fh,aL.cl,aL.Bp,Gw _ _ _ _,_,rfl,a,aM,dm,_,_,rfl,fh,aL.cl,aL.rQ,BG _ _ _ _,_,rfl,aI (λc=>?_) (λc=>?_)⟩
   all_goals
    refine ⟨_,rfl,_,rfl,A,B,k,rfl,bS,O,λH2 s2=>⟨by show 3<=sizeLine;decide,λp hp=>?_⟩⟩;have bO:=s1.trans s2;have s3:∀o,aq H (aj H2 p o):=λo=>aU bO (bO.free hp)
    have lB:∀o,aq H1 (aj H2 p o):=λo=>aU s2 (s2.free hp)
    refine ⟨_,rfl,a,aM,dm,_,_,rfl,lB _ _ _ fh,aL.cl,aL.nT,pU _ _ _ _,tp,nI mo.topic,rfl,lB _ _ _ iI,by rw[bR];omega,λH4 q s4 hq hQ=>?_⟩;refine ⟨p,q,_,_,rfl,rfl,s4 _ _ ao,hQ,?_,λr hr=>?_⟩
    ·simp only[yu,yB,yA,bR];exact eQ ZD
    ·have s5:=(s3 _).trans s4;refine dn.ret F O (UZ k1 dR) _ r (aU s5 (s5.free hr)) (s5.free hr) ?_;rw[ao,vV,bR,dw,c];rfl
noncomputable def agA (K:PySem.W.Frag) (C CM CR:Addr):Sp:=λvs H Q _a=>∃(ρ:Rl) (A:Ad) (B:bc) (z:Int),vs= [.ref A.b,.int z]/\bE C CM CR H ρ A B/\Ok B/\dF C CM CR H ρ A B Q (.lot z)
noncomputable abbrev Hl:Prop:=a7 P w K mg base 3 "lot_answer" ["bank","stage"] (agA K aE aM aN)
theorem agB (n:a9 K mg "lot_answer" O5) (T:Txt K mg) (aw:b6 K mg aE) (aL:bZ K mg aM) (aS:cp K mg aN) (sJ:BJ) (dE:ki):Hl:=by
  refine bf ["bank","stage","numbers"] n λf aK A aJ s H vs Q E hr nd hu h=>?_
  obtain ⟨ρ,A,B,z,rfl,F,O,dn⟩:=h;refine ⟨_,(aB (aX (cJ (j1 cO cO aH (pv 1) (aR T.Bk))) (aC (aF (aW (ai (aR T.k9))))) aZ)
   (aB (bj 2 nd (aD sJ hr (au (pv 0) (ai (pv 1)))))
   (aC (aF (bx fV (aW (ai (bJ K T.bG (pv 2)))) (aD dE hr (ai (pv 2)))))))),?_⟩
  have hB:=F.cQ;have oB:=O.nm;refine ⟨_,rfl,1,z,rfl,rfl,_,rfl,aI (λe=>?_) (λe=>?_)⟩
  ·refine ⟨_,_,rfl,rfl,_,rfl,aI (λc=>?_) (λc=>?_)⟩
   ·rw[zm,Zr]at c;exact ⟨cj,λq hq=>(dn.no F O (Kq λy=>c y.2)).one (aq.refl H) hq⟩
   ·rw[zl,Zt]at c;rw[Zt]at e;obtain ⟨k,rfl⟩:∃k:Nat,z=k:=⟨z.toNat,by omega⟩;refine ⟨_,rfl,_,rfl,A.b,A.d,A.m,A.as,B.T,B.ms,k,rfl,hB.v,O.wt,by omega,λH1 p s1 hp hP=>?_⟩;have hP:H1 p=some (.lst (vi (nI (fj B.T B.ms.length k)))):=hP;have Rr:=C5 B.T B.ms.length k;refine ⟨_,rfl,p,_,rfl,.inl (ag.of hP),by show 1<=sizeLine;decide,λl hl=>?_⟩;have s2:=aU (o:= .lst [.int ((vi (nI (fj B.T B.ms.length k))).length:Nat)]) s1 (s1.free hl);have pl:p≠l:=b8 hP hl;refine ⟨_,rfl,p,nI (fj B.T B.ms.length k),rfl,by rw[aA pl];exact hP,by rw[bR];omega,λH4 q s4 hq hQ=>?_⟩;refine ⟨l,q,_,_,rfl,rfl,s4 _ _ ao,hQ,?_,λr hr=>?_⟩
    ·simp only[yu,yB,yA,bR];exact eQ ZD
    ·have s5:=s2.trans s4;refine dn.ret F O (U1 ⟨by omega,by omega⟩) _ r (aU s5 (s5.free hr)) (s5.free hr) ?_;rw[ao,vV,bY,bR,dw,Rr];rfl
  ·rw[Zr]at e;exact ⟨_,rfl,cj,λq hq=>(dn.no F O (Kq λy=>e y.1)).one (aq.refl H) hq⟩
noncomputable def agC (K:PySem.W.Frag) (C CM CR:Addr):Sp:=λvs H Q _a=>∃(ρ:Rl) (A:Ad) (B:bc),vs= [.ref A.b]/\bE C CM CR H ρ A B/\Ok B/\dF C CM CR H ρ A B Q (.counts)
noncomputable abbrev Hm:Prop:=a7 P w K mg base 2 "counts_answer" ["bank"] (agC K aE aM aN)
theorem agD (n:a9 K mg "counts_answer" O7) (T:Txt K mg) (aw:b6 K mg aE) (aL:bZ K mg aM) (aS:cp K mg aN) (sQ:BR):Hm:=by
  refine bf ["bank"] n λf aK A aJ s H vs Q E hr nd hu h=>?_
  obtain ⟨ρ,A,B,rfl,F,O,dn⟩:=h;refine ⟨_,(aC (aF (aW (au (bJ K T.bG (aP K (pv 0))) (au (aD sQ hr (ai (pv 0))) (au (bJ K T.bG (aP K (pv 0))) (au (aP K (pv 0)) (ai (fw abI (by rfl) T.bG Nu (ai (aP K (pv 0)))))))))))),?_⟩;have hB:=F.cQ;have oB:=O.nm;obtain ⟨af,hg,hP,_⟩:=F.hg;have lr:=Paired.length hP;refine ⟨_,rfl,A.b,aE,A.dx,_,_,rfl,hB.bk,aw.cl,aw.lg,pW _ _ _ _ _,A.m,_,rfl,.inl (ag.of hB.b9.lst),_,rfl,A,B,rfl,hB,by omega,λH1 s1=>?_⟩;have bS:=hB.same s1;refine ⟨_,rfl,A.b,aE,A.dx,_,_,rfl,bS.bk,aw.cl,aw.dQ,ef _ _ _ _ _,A.r,_,rfl,.inl (ag.of bS.cf),_,rfl,A.b,aE,A.dx,_,_,rfl,bS.bk,aw.cl,aw.nV,sy _ _ _ _ _,_,rfl,A.b,aE,A.dx,_,_,rfl,bS.bk,aw.cl,aw.nU,pX _ _ _ _ _,A.g,af,rfl,s1 _ _ hg,by show 5<=sizeLine;decide,λq hq=>?_⟩;refine dn.ret F O (U2 O) _ q (aU s1 (s1.free hq)) (s1.free hq) ?_;rw[ao,yA,yA,hB.b9.len,hB.fK,←lr];rfl
end
theorem agE (t f l:V):(nZ t f l).lookup ("told":Str)=some t:=by unfold nZ;rw[cw,Zw ZE,cw,Zw ZE,cw,Zx rfl]
theorem Rt (t f l:V):(nZ t f l).lookup ("fault":Str)=some f:=by unfold nZ;rw[cw,Zw ZE,cw,Zx rfl]
theorem agF (t f l:V):(nZ t f l).lookup ("line":Str)=some l:=by unfold nZ;rw[cw,Zx rfl]
theorem agG (v t m r g n:V):cT "told" v (eB t m r g n)=eB v m r g n:=rfl
section
variable {C CM CR:Addr}{H H1:Hp}{ρ:Rl}{A:Ad}{B:bc}
noncomputable def dG (A:Ad):Rl:=λx=>if x=A.b then 1 else if x=A.m then 2 else if x=A.r then 4 else if x=A.g then 6 else 0
theorem agH {d:Addr}{T:aQ}{cz:Rl}(W:cv T) (h:d8 H1 d T) (hd:cz d=0) (hl:∀a x xs,H1 a=some (.lst (x::xs))->cz a=0):d8 (Lf cz H1) d T:=by
 obtain ⟨af,h1,h2⟩:=h;refine ⟨af,Lf.of h1 hd,?_⟩;have key:∀{T:aQ}{af:List (List bp×V)},Paired (i4 H1) T af->(∀e∈T,qr e)->Paired (i4 (Lf cz H1)) T af:=by
  intro T af q;induction q with
  |nil=>intro _;exact .nil
  | @cons e kv l₁ l₂ q r ih=>
   intro hw;refine .cons ?_ (ih λx hx=>hw x (yU _ hx));obtain ⟨q1,p,q2,q3⟩:=q;refine ⟨q1,p,q2,?_⟩;have w:=hw e yV;obtain ⟨⟨kd,n⟩,v⟩:=e;cases v with
   |bb l=>
    have bQ:l≠ []:=by
     intro z;subst z;cases kd with
     |levels=>obtain ⟨_,_,_,_,z,_⟩:=w;cases z
     |topics=>exact w.elim
     |release=>obtain ⟨_,_,_,z,_⟩:=w;cases z
     |rounds=>obtain ⟨_,_,z,_⟩:=w;cases z
     |offer=>obtain ⟨_,_,z,_⟩:=w;cases z
     |gap=>obtain ⟨_,_,z,_⟩:=w;cases z
     |unlike=>obtain ⟨_,_,z,_⟩:=w;cases z
     |size=>obtain ⟨_,_,z,_⟩:=w;cases z
     |seed=>obtain ⟨_,_,z,_⟩:=w;cases z
    have q3:H1 p=some (.lst (vi (nI l))):=q3;show Lf cz H1 p=some (.lst (vi (nI l)));cases l with
    |nil=>exact absurd rfl bQ
    |cons x l=>exact Lf.of q3 (hl _ _ _ q3)
   |cE ts=>
    obtain ⟨_,_,_,bQ,eF⟩:=w;obtain ⟨as,a1,a2⟩:=q3;have dP:=a2.length;rw[yA]at dP;refine ⟨as,?_,?_⟩
    ·cases as with
     |nil=>
      cases ts with
      |nil=>exact absurd rfl bQ
      |cons=>simp at dP
     |cons x xs=>exact Lf.of a1 (hl _ _ _ a1)
    ·have:∀{as:List Addr}{ts:List Bytes},bX H1 as (ts.map nI)->(∀t∈ts,Vbdbag.isName t=true)->bX (Lf cz H1) as (ts.map nI):=by
      intro as ts;induction ts generalizing as with
      |nil=>intro q _;cases q;exact .nil
      |cons t ts ih=>
       intro q hq;cases q with
       |cons z r=>
        refine .cons ?_ (ih r λy hy=>hq y (yU _ hy));have:=hq t yV;cases t with
        |nil=>simp[Vbdbag.isName]at this
        |cons y t=>exact Lf.of z (hl _ _ _ z)
     exact this a2 λt ht=>zx.mp eF t ht
 exact key h2 W.dk
theorem bE.agI (F:bE C CM CR H ρ A B) (h1:B.ms= []) (h2:B.rs= []) (h3:B.rooms= []) (s:aq H H1) {d:Addr}{T:aQ}(W:cv T) (ht:d8 H1 d T) (hd:H d=none):
  bE C CM CR (aj H1 A.b (.ins C A.dx (eB (.ref d) (.ref A.m) (.ref A.r) (.ref A.g) (.int B.now)))) (dG A) {A with d:=d} {B with T:=T}/\Fr ρ H (dG A) (aj H1 A.b (.ins C A.dx (eB (.ref d) (.ref A.m) (.ref A.r) (.ref A.g) (.int B.now)))):=by
 have ne:∀{x y:Addr}{m n:Nat},ρ x=m->ρ y=n->m≠n->x≠y:=λhx hy hm e=>hm (by rw[←hx,←hy,e])
 have bm:=ne F.pb F.pm ZE;have br:=ne F.pb F.pr ZE;have bg:=ne F.pb F.pg ZE;have mr:=ne F.pm F.pr ZE;have mg':=ne F.pm F.pg ZE;have rg:=ne F.pr F.pg ZE;obtain ⟨af,g1,g2,g3⟩:=F.hg;have hm:=F.hm;have hr:=F.hr;have Ru:A.as= []:=by have:=Paired.length F.b9;rw[h1]at this;exact List.length_eq_zero_iff.mp this
 have Rv:A.rr= []:=by have:=Paired.length F.cf;rw[h2]at this;exact List.length_eq_zero_iff.mp this
 have ekv:af= []:=by have:=Paired.length g2;rw[h3]at this;exact List.length_eq_zero_iff.mp this.symm
 have nb:∀{a:Addr}{o:HO},H1 a=some o->a≠A.b->aj H1 A.b (.ins C A.dx (eB (.ref d) (.ref A.m) (.ref A.r) (.ref A.g) (.int B.now))) a=some o:=λe n=>by rw[aA n];exact e
 have r0:∀a,a≠A.b->a≠A.m->a≠A.r->a≠A.g->dG A a=0:=λa a1 a2 a3 a4=>by unfold dG;rw[Zw a1,Zw a2,Zw a3,Zw a4]
 have dn:∀x,H x≠none->d≠x:=λx hx e=>hx (by rw[←e];exact hd)
 have nn:∀{a:Addr}{o:HO},H a=some o->H a≠none:=λe z=>by rw[e]at z;cases z
 have hlf:d8 (Lf (dG A) (aj H1 A.b (.ins C A.dx (eB (.ref d) (.ref A.m) (.ref A.r) (.ref A.g) (.int B.now))))) d T:=by
  refine agH W ?_ (r0 d (dn _ (nn F.bk)) (dn _ (nn hm)) (dn _ (nn hr)) (dn _ (nn g1))) λa x xs e=>?_
  ·obtain ⟨kv,t1,t2⟩:=ht;have hb1:=s _ _ F.bk;refine ⟨kv,nb t1 (dn _ (nn F.bk)),Paired.mono (λe kv z=>z.d9 (λb o e n=>nb e n) (λxs y=>by rw[hb1]at y;cases y)) t2⟩
  ·have a1:a≠A.b:=λz=>by rw[z,ao]at e;cases e
   rw[aA a1]at e;refine r0 a a1 (λz=>?_) (λz=>?_) (λz=>?_)
   ·rw[z,s _ _ hm,Ru]at e;cases e
   ·rw[z,s _ _ hr,Rv]at e;cases e
   ·rw[z,s _ _ g1]at e;cases e
 refine ⟨⟨ao,Zx rfl,hlf,nb (s _ _ hm) (xR bm),?_,?_,F.nd,nb (s _ _ hr) (xR br),?_,?_,F.jL,⟨[],?_,?_,by simp⟩,?_,λa ha=>?_⟩,λa o e h0=>?_⟩
 ·show dG A A.m=2;unfold dG;rw[Zw (xR bm),Zx rfl]
 ·show Paired _ A.as B.ms;rw[Ru,h1];exact .nil
 ·show dG A A.r=4;unfold dG;rw[Zw (xR br),Zw (xR mr),Zx rfl]
 ·show Paired _ A.rr B.rs;rw[Rv,h2];exact .nil
 ·show aj _ _ _ A.g=_;rw[←ekv];exact nb (s _ _ g1) (xR bg)
 ·show Paired _ B.rooms [];rw[h3];exact .nil
 ·show dG A A.g=6;unfold dG;rw[Zw (xR bg),Zw (xR mg'),Zw (xR rg),Zx rfl]
 ·by_cases z:a=A.b
  ·rw[z,ao];exact λy=>nomatch y
  ·rw[aA z];unfold dG at ha;rw[Zw z]at ha;by_cases z2:a=A.m
   ·rw[z2,s _ _ hm];exact λy=>nomatch y
   ·rw[Zw z2]at ha;by_cases z3:a=A.r
    ·rw[z3,s _ _ hr];exact λy=>nomatch y
    ·rw[Zw z3]at ha;by_cases z4:a=A.g
     ·rw[z4,s _ _ g1];exact λy=>nomatch y
     ·rw[Zw z4]at ha;exact absurd rfl ha
 ·have q:∀{x:Addr}{n:Nat},ρ x=n->n≠0->a≠x:=λhx hn z=>hn (by rw[←hx,←z];exact h0)
  have a1:=q F.pb ZE;exact ⟨nb (s _ _ e) a1,r0 a a1 (q F.pm ZE) (q F.pr ZE) (q F.pg ZE)⟩
noncomputable def cA (ρ:Rl) (x:Addr) (n:Nat):Rl:=λy=>if y=x then n else ρ y
theorem Rw {x a:Addr}{n:Nat}{o:HO}(hx:H x=none) (e:H a=some o):cA ρ x n a=ρ a:=by unfold cA;rw[Zw (b8 e hx)]
theorem Hn (x:Addr) (n:Nat):cA ρ x n x=n:=Zx rfl
theorem bE.one (F:bE C CM CR H ρ A B) {x:Addr}{n:Nat}{o:HO}(s:aq H H1) (hx:H x=none) (ho:H1 x=some o):bE C CM CR H1 (cA ρ x n) A B/\Fr ρ H (cA ρ x n) H1:=by
 refine ⟨F.GP s (λa ha=>?_) (λa ha=>?_),λa o e h0=>⟨s _ _ e,?_⟩⟩
 ·cases e:H a with
  |none=>exact absurd e ha
  |some o=>exact Rw hx e
 ·by_cases z:a=x
  ·rw[z,ho];exact λy=>nomatch y
  ·unfold cA at ha;rw[Zw z]at ha;have:=F.iJ a ha;cases e:H a with
   |none=>exact absurd e this
   |some o=>rw[s _ _ e];exact λy=>nomatch y
 ·rw[Rw hx e];exact h0
end
section
theorem Rx:∀(ls:List Bytes) (n:Nat) (T:aQ) (e:Nat×Nat),fi n ls T= .error e->e.1≠0
 | [],n,T,e,h=>by simp[fi]at h
 |l::ls,n,T,e,h=>by
  rw[Qo]at h;cases ht:dS T (Vbdbag.words l) with
  |error x=>rw[ht]at h;cases h;exact Qn ht
  |ok T'=>rw[ht]at h;exact Rx ls (n+1) T' e h
theorem agN {t:Bytes}{e:Nat×Nat}(h:gb t= .error e):e.1≠0:=by
 unfold gb at h;cases hl:fi 1 (Vbdbag.cut 10 t) []with
 |error x=>rw[hl]at h;cases h;exact Rx _ _ _ _ hl
 |ok T=>
  rw[hl]at h;simp only at h;split at h
  ·cases h;exact (by decide:(4:Nat)≠0)
  ·cases h
noncomputable def agO (K:PySem.W.Frag) (C CM CR:Addr):Sp:=λvs H Q _a=>∃(ρ:Rl) (A:Ad) (B:bc) (p:Addr) (t:List Int),vs= [.ref A.b,.ref p]/\bE C CM CR H ρ A B/\Ok B/\Lf ρ H p=some (.lst (vi t))/\t.length<=2000/\dF C CM CR H ρ A B Q (.rules t)
noncomputable abbrev Ho:Prop:=a7 P w K mg base 8 "rules_answer" ["bank","text"] (agO K aE aM aN)
theorem agP (n:a9 K mg "rules_answer" O8) (T:Txt K mg) (aw:b6 K mg aE) (aL:bZ K mg aM) (aS:cp K mg aN) (gx:rP K mg fY) (Hq:Gd) (cG:ia) (sR:Bt):Ho:=by
  refine bf ["bank","text","reading"] n λf aK A aJ s H vs Q E hr nd hu h=>?_
  obtain ⟨ρ,A,B,p,t,rfl,F,O,hp,ht,dn⟩:=h;refine ⟨_,(aB (aX (PW.pt (gM (bz fF (bJ K T.bG (pv 1)) (aR T.acr)) (iE (cJ (cN (aD sR hr (ai (pv 1)))))))) (aC (aF (aW (ai (aR T.k9))))) aZ)
   (aB (aX (PW.pt (gM (bz fF (bJ K T.bG (aP K (pv 0))) aH) (gM (bz fF (bJ K T.bG (aP K (pv 0))) aH) (iE (bz nj (aP K (pv 0)) aH))))) (aC (aF (aW (ai (aR T.acn))))) aZ)
   (aB (bj 2 nd (aD Hq hr (ai (pv 1))))
   (aB (aX (bz nj (aP K (pv 2)) (aR T.Bn)) (aC (aF (aW (au aH (au (aP K (pv 2)) (ai (aP K (pv 2)))))))) aZ)
   (aB (eP (pv 0) (aP K (pv 2)) rfl)
   (aC (aF (aW (au aH (au (aD cG hr (au (aP K (pv 0)) (ai dY))) (au (aD cG hr (au (aP K (pv 0)) (ai dY))) (ai (aD cG hr (au (aP K (pv 0)) (ai dY))))))))))))))),?_⟩
  have hB:=F.cQ;have i7:=(Lf.at hp).1;have bad:∀H1,aq H H1->(decide (t.length<=1500)&&dh 0 255 t)=false->([V.int (-1)]:List V).length<=sizeLine/\∀q,H1 q=none->Q (.ref q) (aj H1 q (.lst [.int (-1)])):=λH1 s1 hb=>⟨cj,λq hq=>(dn.no F O (UA hb)).one s1 hq⟩
  refine ⟨_,rfl,p,_,rfl,.inl (ag.of i7),_,_,rfl,rfl,_,rfl,aI (λe1=>?_) (λe1=>?_)⟩
  ·rw[Zt,yA]at e1;exact bad H (aq.refl H) (by rw[Zq (show ¬t.length<=1500 by omega)];rfl)
  ·rw[Zr,yA]at e1;have Ry:t.length<=1500:=by omega
   refine ⟨_,rfl,p,t,rfl,ag.of i7,by omega,λH1 s1=>⟨_,rfl,aI (λe2=>?_) (λe2=>?_)⟩⟩
   ·rw[zm]at e2;exact bad H1 s1 (by rw[e2];simp)
   ·rw[zl]at e2;have Rz:(decide (t.length<=1500)&&dh 0 255 t)=true:=by rw[e2,Zs Ry];rfl
    have bS:=hB.same s1;have Hr:B.ms≠ []\/B.rs≠ []\/B.now≠0->([V.int (-3)]:List V).length<=sizeLine/\∀q,H1 q=none->Q (.ref q) (aj H1 q (.lst [.int (-3)])):=λhb=>⟨cj,λq hq=>(dn.no F O (UB Rz hb)).one s1 hq⟩
    refine ⟨_,rfl,A.b,aE,A.dx,_,_,rfl,bS.bk,aw.cl,aw.lg,pW _ _ _ _ _,A.m,_,rfl,.inl (ag.of bS.b9.lst),_,_,rfl,rfl,_,rfl,aI (λe3=>?_) (λe3=>?_)⟩
    ·rw[Zt,yA,hB.b9.len]at e3;exact Hr (.inl (List.length_pos_iff.mp ZD))
    ·rw[Zr,yA,hB.b9.len]at e3;have z1:B.ms= []:=List.length_eq_zero_iff.mp ZD;refine ⟨_,rfl,A.b,aE,A.dx,_,_,rfl,bS.bk,aw.cl,aw.dQ,ef _ _ _ _ _,A.r,_,rfl,.inl (ag.of bS.cf),_,_,rfl,rfl,_,rfl,aI (λe4=>?_) (λe4=>?_)⟩
     ·rw[Zt,yA,hB.fK]at e4;exact Hr (.inr (.inl (List.length_pos_iff.mp ZD)))
     ·rw[Zr,yA,hB.fK]at e4;have z2:B.rs= []:=List.length_eq_zero_iff.mp ZD;refine ⟨_,rfl,A.b,aE,A.dx,_,_,rfl,bS.bk,aw.cl,aw.nV,sy _ _ _ _ _,rfl,_,rfl,aI (λe5=>?_) (λe5=>?_)⟩
      ·refine Hr (.inr (.inr λw=>?_));rw[zm]at e5;exact Zz e5 (by rw[w];rfl)
      ·rw[zl]at e5;have z3:B.now=0:=by have:=ZA e5;injection this with this;omega
       have z4:=Kk O z2;have hb:=qC e2 ZE;have hd:=UC O Rz z1 z2 z3;have htv:ag K H1 p (vi (nI (t.map Int.toNat))):=by show ag K H1 p (vi (Vbdbag.ints (t.map Int.toNat)));rw[hb];exact ag.of (s1 _ _ i7)
       have ll:(t.map Int.toNat).length<=1500:=by rw[yA];exact Ry
       generalize t.map Int.toNat=bt at*;refine ⟨_,rfl,p,bt,rfl,htv,ll,λH2 r dx d s2 Ca hd0 hr hT=>?_⟩;have bO:=s1.trans s2;refine ⟨_,rfl,r,fY,dx,_,_,rfl,hr,gx.cl,gx.FA,Rt _ _ _,rfl,_,rfl,aI (λe6=>?_) (λe6=>?_)⟩
       ·rw[zm]at e6;have e6:=Zz e6;cases gV:gb bt with
        |ok T=>exfalso;apply e6;unfold fZ;rw[gV];rfl
        |error er=>
         rw[gV]at hd;have hc:fZ bt=(er.1,er.2,[]):=by unfold fZ;rw[gV]
         refine ⟨_,rfl,r,fY,dx,_,_,rfl,hr,gx.cl,gx.FA,Rt _ _ _,_,rfl,r,fY,dx,_,_,rfl,hr,gx.cl,gx.P6,agF _ _ _,by show 3<=sizeLine;decide,λq hq=>?_⟩;refine dn.ret F O hd _ q (aU bO (bO.free hq)) (bO.free hq) ?_;rw[ao,hc];rfl
       ·rw[zl]at e6;have e6:=ZA e6;cases gV:gb bt with
        |error er=>
         exfalso;have hc:(fZ bt).1=er.1:=by unfold fZ;rw[gV]
         rw[hc]at e6;injection e6 with e6;exact agN gV ZD
        |ok T=>
         rw[gV]at hd;have hc:fZ bt=(0,0,T):=by unfold fZ;rw[gV]
         rw[hc]at hT;have W:=(JQ gV).1;have O2:=UD O ll gV z1 z2;obtain ⟨F3,ni⟩:=F.agI z1 z2 z4 bO W hT (s1.free hd0);have cy:=hB.same bO;have Hs:r≠A.b:=λe=>by rw[e,s1 _ _ hB.bk]at Ca;cases Ca
         refine ⟨_,rfl,r,fY,dx,_,_,rfl,hr,gx.cl,gx.d7,agE _ _ _,_,rfl,A.b,aE,A.dx,_,rfl,cy.bk,aw.cl,aw.d7,(by show 5<1000;decide),?_⟩;rw[agG];have V3:=F3.cQ;refine ⟨_,rfl,A.b,aE,A.dx,_,_,rfl,ao,aw.cl,aw.d7,gy _ _ _ _ _,d,.rounds,T,rfl,rfl,V3.told.r,W,λH4 s4=>?_⟩;refine ⟨_,rfl,A.b,aE,A.dx,_,_,rfl,s4 _ _ ao,aw.cl,aw.d7,gy _ _ _ _ _,d,.offer,T,rfl,rfl,(V3.told.same s4).r,W,λH5 s5=>?_⟩;have gW:=s4.trans s5;refine ⟨_,rfl,A.b,aE,A.dx,_,_,rfl,gW _ _ ao,aw.cl,aw.d7,gy _ _ _ _ _,d,.size,T,rfl,rfl,(V3.told.same gW).r,W,λH6 s6=>⟨by show 4<=sizeLine;decide,λq hq=>?_⟩⟩;have pS:=gW.trans s6;have sS:=pS.free hq;have s7:=aU (o:= .lst [.int 0,.int (aG T .rounds:Nat),.int (aG T .offer:Nat),.int (aG T .size:Nat)]) pS sS;refine dn _ (dG A) {A with d:=d} {B with T:=T} q rfl (F3.same s7) O2 ?_ (ni.trans (Fr.of s7)) ?_ (F3.free sS) ?_
         ·rw[hd]
         ·exact bO.free (bK sS).2
         ·rw[ao,hd];rfl
noncomputable def agS (K:PySem.W.Frag) (C CM CR:Addr):Sp:=λvs H Q _a=>∃(ρ:Rl) (A:Ad) (B:bc) (z:Int) (p p2:Addr) (t t2:List Int),vs= [.ref A.b,.int z,.ref p,.ref p2]/\bE C CM CR H ρ A B/\Ok B/\Lf ρ H p=some (.lst (vi t))/\t.length<=2000/\Lf ρ H p2=some (.lst (vi t2))/\t2.length<=2000/\dF C CM CR H ρ A B Q (.motion z t t2)
noncomputable abbrev Ht:Prop:=a7 P w K mg base 3 "motion_answer" ["bank","level","topic","text"] (agS K aE aM aN)
theorem agT (n:a9 K mg "motion_answer" Pb) (T:Txt K mg) (aw:b6 K mg aE) (aL:bZ K mg aM) (aS:cp K mg aN) (Hu:QH) (r8:Bu) (sR:Bt):Ht:=by
  refine bf ["bank","level","topic","text"] n λf aK A aJ s H vs Q E hr nd hu h=>?_
  obtain ⟨ρ,A,B,z,p,p2,t,t2,rfl,F,O,hp,ht,nN,ht2,dn⟩:=h;refine ⟨_,(aB (aX (PW.pt (gM (cJ (j1 cO cO aH (pv 1) (aR T.Bm))) (iE (cJ (cN (aD r8 hr (ai (pv 2)))))))) (aC (aF (aW (ai (aR T.k9))))) aZ)
   (aB (aX (PW.pt (gM (bz fF (bJ K T.bG (pv 3)) (aR T.acs)) (iE (cJ (cN (aD sR hr (ai (pv 3)))))))) (aC (aF (aW (ai (aR T.k9))))) aZ)
   (aB (aX (bz cF (bJ K T.bG (aP K (pv 0))) (aR T.acu)) (aC (aF (aW (ai (aR T.Fy))))) aZ)
   (aB (aX (bz fF (bJ K T.bG (aP K (pv 0))) aH) (aC (aF (aW (ai (aR T.Fw))))) aZ)
   (aB (fu (iH K (aP K (pv 0)) (u5 Hu hr (au (pv 1) (au (pv 2) (ai (pv 3)))))))
   (aC (aF (aW (ai (bJ K T.bG (aP K (pv 0)))))))))))),?_⟩
  have hB:=F.cQ;have oB:=O.nm;have i7:=(Lf.at hp).1;have Cb:=(Lf.at nN).1;have bad:∀H1,aq H H1->(decide (1<=z)&&decide (z<=5)&&jP t&&(decide (t2.length<=100)&&dh 0 255 t2))=false->([V.int (-1)]:List V).length<=sizeLine/\∀q,H1 q=none->Q (.ref q) (aj H1 q (.lst [.int (-1)])):=λH1 s1 hb=>⟨cj,λq hq=>(dn.no F O (UG hb)).one s1 hq⟩
  refine ⟨_,rfl,_,_,rfl,rfl,_,rfl,aI (λe1=>?_) (λe1=>?_)⟩
  ·refine ⟨_,_,rfl,rfl,_,rfl,aI (λe2=>?_) (λe2=>?_)⟩
   ·rw[zm]at e2;exact bad H (aq.refl H) (by rw[e2];simp)
   ·rw[zl]at e2;refine ⟨_,rfl,p,t,rfl,ag.of i7,by omega,λH1 s1=>⟨_,rfl,aI (λe3=>?_) (λe3=>?_)⟩⟩
    ·rw[zm]at e3;exact bad H1 s1 (by rw[e3];simp)
    ·rw[zl]at e3;refine ⟨_,rfl,p2,_,rfl,.inl (ag.of (s1 _ _ Cb)),_,_,rfl,rfl,_,rfl,aI (λe4=>?_) (λe4=>?_)⟩
     ·rw[Zt,yA]at e4;exact bad H1 s1 (by rw[Zq (show ¬t2.length<=100 by omega)];simp)
     ·rw[Zr,yA]at e4;refine ⟨_,rfl,p2,t2,rfl,ag.of (s1 _ _ Cb),by omega,λH2 s2=>⟨_,rfl,aI (λe5=>?_) (λe5=>?_)⟩⟩
      ·rw[zm]at e5;exact bad H2 (s1.trans s2) (by rw[e5];simp)
      ·rw[zl]at e5;rw[Zt]at e1 e2;have h3:(decide (t2.length<=100)&&dh 0 255 t2)=true:=by rw[e5,Zs (show t2.length<=100 by omega)];rfl
       have hd:=UH (B:=B) ⟨e1,e2⟩ e3 h3;have bO:=s1.trans s2;have F2:=F.same bO;have cy:=F2.cQ;refine ⟨_,rfl,A.b,aE,A.dx,_,_,rfl,cy.bk,aw.cl,aw.lg,pW _ _ _ _ _,A.m,_,rfl,.inl (ag.of cy.b9.lst),rfl,_,rfl,aI (λe6=>?_) (λe6=>?_)⟩
       ·have c6:40<=B.ms.length:=by have:=ZA e6;rw[yA,hB.b9.len]at this;injection this with this;omega
        rw[Zx c6]at hd;exact ⟨cj,λq hq=>(dn.no F O hd).one bO hq⟩
       ·have c6:¬40<=B.ms.length:=λy=>Zz e6 (by rw[yA,hB.b9.len,show B.ms.length=40 by omega];rfl)
        rw[Zw c6]at hd;refine ⟨_,rfl,A.b,aE,A.dx,_,_,rfl,cy.bk,aw.cl,aw.dQ,ef _ _ _ _ _,A.r,_,rfl,.inl (ag.of cy.cf),_,_,rfl,rfl,_,rfl,aI (λe7=>?_) (λe7=>?_)⟩
        ·have c7:B.rs≠ []:=by rw[Zt,yA,hB.fK]at e7;exact List.length_pos_iff.mp ZD
         rw[Zx c7]at hd;exact ⟨cj,λq hq=>(dn.no F O hd).one bO hq⟩
        ·have c7:B.rs= []:=by rw[Zr,yA,hB.fK]at e7;exact List.length_eq_zero_iff.mp ZD
         rw[Zw (not_not_intro c7)]at hd;obtain ⟨nb1,nb2,nb3⟩:=Kl e3;have nb4:=qC e5 ZE;have ht8:t.length<=8:=by have:=(Bool.and_eq_true_iff.mp nb1).1;exact ZA this
         refine ⟨_,rfl,A.b,aE,A.dx,_,_,rfl,cy.bk,aw.cl,aw.lg,pW _ _ _ _ _,.inl ⟨rfl,_,ag.of cy.b9.lst⟩,_,rfl,_,rfl,_,rfl,λx dx hx fB bQ=>⟨x,dx,_,_,_,rfl,ao,λH5 h5 b5=>⟨rfl,?_⟩⟩⟩;have qh:aq H2 H5:=λb o e=>b5 b o (by rw[aA (b8 e hx),aA (b8 e fB)];exact e) (b8 e hx)
         have s5:=bO.trans qh;have kh:H x=none:=bO.free hx;obtain ⟨F5,qU⟩:=F.one (n:=3) s5 kh h5;have oC:=F5.cQ;have xn:x∉A.as:=λy=>by obtain ⟨i,hi⟩:=yg y;obtain ⟨_,_,_,_,_,_,e,_⟩:=hU F.b9 hi;rw[kh]at e;cases e
         have lf:∀{b:Addr}{o:HO},Lf ρ H b=some o->Lf (cA ρ x 3) H5 b=some o:=λe=>qU.lf _ _ e
         have el:((z.toNat:Nat):Int)=z:=by omega
         have hM:qf aM H5 (cA ρ x 3) x ⟨z.toNat,t.map Int.toNat,t2.map Int.toNat,false⟩:=by
          refine ⟨Hn x 3,dx,p,p2,?_,?_,?_⟩
          ·rw[el];exact h5
          ·show _=some (HO.lst (vi (Vbdbag.ints (t.map Int.toNat))));rw[nb3];exact lf hp
          ·show _=some (HO.lst (vi (Vbdbag.ints (t2.map Int.toNat))));rw[nb4];exact lf nN
         have F6:=F5.afm (as:=A.as++ [x]) (ms:=B.ms++ [⟨z.toNat,t.map Int.toNat,t2.map Int.toNat,false⟩]) (Paired.snoc F5.b9 hM) (rD F5.nd xn);have k6:dc A.m H5 (cA ρ x 3) (aj H5 A.m (.lst ((A.as++ [x]).map V.ref))) (cA ρ x 3):=gX (by rw[F5.pm];decide);have em:(A.as++ [x]).map V.ref=A.as.map V.ref++ [V.ref x]:=by rw[yH];rfl
         rw[em]at F6 k6;have O6:=UI O (m:=⟨z.toNat,t.map Int.toNat,t2.map Int.toNat,false⟩) c6 c7 (by rw[yA];exact ht8) (by rw[yA];omega);refine ⟨A.m,_,.ref x,rfl,rfl,oC.b9.lst,?_,?_⟩
         ·rw[yA,hB.b9.len];exact dv ZD
         ·refine ⟨_,rfl,A.b,aE,A.dx,_,_,rfl,F6.cQ.bk,aw.cl,aw.lg,pW _ _ _ _ _,A.m,_,rfl,.inl (ag.of ao),cj,λq hq=>?_⟩;have s7:=bU (o:= .lst [.int ((A.as.map V.ref++ [V.ref x]).length:Nat)]) hq;refine dn _ (cA ρ x 3) {A with as:=A.as++ [x]} {B with ms:=B.ms++ [⟨z.toNat,t.map Int.toNat,t2.map Int.toNat,false⟩]} q rfl (F6.same s7) O6 ?_ (qU.trans (k6.fr.trans (Fr.of s7))) ?_ (F6.free hq) ?_
          ·rw[hd]
          ·exact s5.free (bK hq).2
          ·rw[ao,hd,yt,yA,hB.b9.len];rfl
  ·exact ⟨_,rfl,bad H (aq.refl H) (by rw[e1];simp)⟩
noncomputable def agY (K:PySem.W.Frag) (C CM CR:Addr):Sp:=λvs H Q _a=>∃(ρ:Rl) (A:Ad) (B:bc) (z:Int) (s:Bool),vs= [.ref A.b,.int z,.bl s]/\bE C CM CR H ρ A B/\Ok B/\dF C CM CR H ρ A B Q (if s=true then .strike z else .restore z)
noncomputable abbrev Cc:Prop:=a7 P w K mg base 2 "mark_struck" ["bank","number","struck"] (agY K aE aM aN)
theorem agZ (n:a9 K mg "mark_struck" Pc) (T:Txt K mg) (aw:b6 K mg aE) (aL:bZ K mg aM) (aS:cp K mg aN) (ff:mw) (mJ:vq) (sQ:BR):Cc:=by
  refine bf ["bank","number","struck","motion"] n λf aK A aJ s H vs Q E hr nd hu h=>?_
  obtain ⟨ρ,A,B,z,s,rfl,F,O,dn⟩:=h;refine ⟨_,(aB (aX (cJ (cN (aD mJ hr (au (pv 0) (ai (pv 1)))))) (aC (aF (aW (ai (aR T.jD))))) aZ)
   (aB (bj 3 nd (aD ff hr (au (pv 0) (ai (pv 1)))))
   (aB (aX (bz cF (aP K (pv 3)) (pv 2)) (aC (aF (aW (ai (aR T.Bo))))) aZ)
   (aB (eP (pv 3) (pv 2) rfl)
   (aC (aF (aW (ai (aD sQ hr (ai (pv 0))))))))))),?_⟩
  have hB:=F.cQ;have oB:=O.nm;have wm:∀(c:Bool),Vbdbag.step (ak B) (if c=true then .strike z else .restore z)=if c=true then Vbdbag.step (ak B) (.strike z) else Vbdbag.step (ak B) (.restore z):=λc=>by cases c<;>rfl
  refine ⟨_,rfl,_,rfl,A.b,A.d,A.m,A.as,B.T,B.ms,z,rfl,hB.v,λH1 s1=>⟨_,rfl,aI (λc=>?_) (λc=>?_)⟩⟩
  ·rw[zm,ot,Zr]at c;exact ⟨cj,λq hq=>(dn.no F O ((wm s).trans (UK c s))).one s1 hq⟩
  ·rw[zl,ot,Zt]at c;obtain ⟨k,rfl,k1,k2⟩:=mP c;have F1:=F.same s1;have bS:=F1.cQ;obtain ⟨mo,a,dR,ha,dm,tp,tx,fh,iI,kh⟩:=bS.mD (n:=k) ⟨k1,by omega⟩;have hd:=UJ k1 dR s;rw[←wm]at hd;refine ⟨_,rfl,_,rfl,A.b,A.d,A.m,A.as,B.T,B.ms,k,a,rfl,bS.v,k1,ha,?_⟩;refine ⟨_,rfl,a,aM,dm,_,_,rfl,fh,aL.cl,aL.rQ,BG _ _ _ _,_,rfl,rfl,_,rfl,aI (λc2=>?_) (λc2=>?_)⟩
   ·have c3:mo.struck=s:=by have:=ZA c2;injection this
    rw[Zx c3]at hd;exact ⟨cj,λq hq=>(dn.no F O hd).one s1 hq⟩
   ·have c3:¬mo.struck=s:=λy=>Zz c2 (by rw[y])
    rw[Zw c3]at hd;have F2:=F1.afn (s:=s) ha dR fh;have pa:ρ a=3:=by obtain ⟨_,_,q⟩:=hU F1.b9 ha;exact q.1
    have k3:dc a H1 ρ (aj H1 a (.ins aM dm (ig (.int mo.level) (.ref tp) (.ref tx) (.bl s)))) ρ:=gX (by rw[pa];decide);have O2:=UL (s:=s) O dR;refine ⟨_,rfl,_,rfl,a,aM,dm,_,rfl,fh,aL.cl,aL.rQ,(by show 4<1000;decide),?_⟩;refine ⟨_,rfl,A,{B with ms:=B.ms.set (k - 1) {mo with struck:=s}},rfl,F2.cQ,by show (B.ms.set _ _).length<=1000;rw[yD];omega,λH3 s3=>⟨cj,λq hq=>?_⟩⟩;have s4:=aU (o:= .lst [.int (iQ (B.ms.set (k - 1) {mo with struck:=s}):Nat)]) s3 (s3.free hq);refine dn _ ρ A {B with ms:=B.ms.set (k - 1) {mo with struck:=s}} q rfl (F2.same s4) O2 ?_ ((Fr.of s1).trans (k3.fr.trans (Fr.of s4))) ?_ (F2.free (s3.free hq)) ?_
    ·rw[hd]
    ·exact s1.free (bK (s3.free hq)).2
    ·rw[ao,hd];rfl
noncomputable def ag0 (K:PySem.W.Frag) (C CM CR:Addr):Sp:=λvs H Q _a=>∃(ρ:Rl) (A:Ad) (B:bc) (z:Int),vs= [.ref A.b,.int z]/\bE C CM CR H ρ A B/\Ok B/\dF C CM CR H ρ A B Q (.strike z)
noncomputable abbrev Hv:Prop:=a7 P w K mg base 3 "strike_answer" ["bank","number"] (ag0 K aE aM aN)
theorem ag1 (n:a9 K mg "strike_answer" Pd) (T:Txt K mg) (aw:b6 K mg aE) (aL:bZ K mg aM) (aS:cp K mg aN) (sU:Cc):Hv:=by
  refine bf ["bank","number"] n λf aK A aJ s H vs Q E hr nd hu h=>?_
  obtain ⟨ρ,A,B,z,rfl,F,O,dn⟩:=h;refine ⟨_,(aC (aF (aD sU hr (au (pv 0) (au (pv 1) (ai Ak)))))),?_⟩;exact ⟨_,rfl,_,rfl,ρ,A,B,z,true,rfl,F,O,dn⟩
noncomputable def ag2 (K:PySem.W.Frag) (C CM CR:Addr):Sp:=λvs H Q _a=>∃(ρ:Rl) (A:Ad) (B:bc) (z:Int),vs= [.ref A.b,.int z]/\bE C CM CR H ρ A B/\Ok B/\dF C CM CR H ρ A B Q (.restore z)
noncomputable abbrev Hw:Prop:=a7 P w K mg base 3 "restore_answer" ["bank","number"] (ag2 K aE aM aN)
theorem ag3 (n:a9 K mg "restore_answer" Pe) (T:Txt K mg) (aw:b6 K mg aE) (aL:bZ K mg aM) (aS:cp K mg aN) (sU:Cc):Hw:=by
  refine bf ["bank","number"] n λf aK A aJ s H vs Q E hr nd hu h=>?_
  obtain ⟨ρ,A,B,z,rfl,F,O,dn⟩:=h;refine ⟨_,(aC (aF (aD sU hr (au (pv 0) (au (pv 1) (ai Ak)))))),?_⟩;exact ⟨_,rfl,_,rfl,ρ,A,B,z,false,rfl,F,O,dn⟩
noncomputable def ag4 (K:PySem.W.Frag) (C CM CR:Addr):Sp:=λvs H Q _a=>∃(ρ:Rl) (A:Ad) (B:bc),vs= [.ref A.b]/\bE C CM CR H ρ A B/\Ok B/\dF C CM CR H ρ A B Q (.choose)
noncomputable abbrev Hy:Prop:=a7 P w K mg base 5 "choose_answer" ["bank"] (ag4 K aE aM aN)
theorem ag5 (n:a9 K mg "choose_answer" Pf) (T:Txt K mg) (aw:b6 K mg aE) (aL:bZ K mg aM) (aS:cp K mg aN) (Hz:Hc) (cG:ia):Hy:=by
  refine bf ["bank","numbers"] n λf aK A aJ s H vs Q E hr nd hu h=>?_
  obtain ⟨ρ,A,B,rfl,F,O,dn⟩:=h;refine ⟨_,(aB (aX (bz cF (bJ K T.bG (aP K (pv 0))) (aD cG hr (au (aP K (pv 0)) (ai dY)))) (aC (aF (aW (ai (aR T.Fy))))) aZ)
   (aB (bj 1 nd (aD Hz hr (au (pv 0) (ai (bx eN (bJ K T.bG (aP K (pv 0))) aH)))))
   (aB (aX (bz o9 (bJ K T.bG (pv 1)) (aD cG hr (au (aP K (pv 0)) (ai dY)))) (aC (aF (aW (ai (aR T.Bo))))) aZ)
   (aB (fu (iH K (aP K (pv 0)) (pv 1)))
   (aC (aF (aW (ai (bJ K T.bG (aP K (pv 0))))))))))),?_⟩
  have hB:=F.cQ;have h9:=O.jR;refine ⟨_,rfl,A.b,aE,A.dx,_,_,rfl,hB.bk,aw.cl,aw.dQ,ef _ _ _ _ _,A.r,_,rfl,.inl (ag.of hB.cf),_,rfl,A.b,aE,A.dx,_,_,rfl,hB.bk,aw.cl,aw.d7,gy _ _ _ _ _,A.d,.rounds,B.T,rfl,rfl,hB.told.r,O.wt,λH1 s1=>⟨rfl,_,rfl,aI (λc=>?_) (λc=>?_)⟩⟩
  ·have hz:aG B.T .rounds<=B.rs.length:=by have:=ZA c;rw[yA,hB.fK]at this;injection this with this;omega
   exact ⟨cj,λq hq=>(dn.no F O (U7 hz)).one s1 hq⟩
  ·have hz:¬aG B.T .rounds<=B.rs.length:=λy=>by
    have hh:=O.nr;have e:B.rs.length=aG B.T .rounds:=by omega
    refine Zz c ?_;rw[yA,hB.fK,e]
   have bS:=hB.same s1;refine ⟨_,rfl,_,rfl,A.b,aE,A.dx,_,_,rfl,bS.bk,aw.cl,aw.dQ,ef _ _ _ _ _,A.r,_,rfl,.inl (ag.of bS.cf),_,_,rfl,rfl,A,B,B.rs.length+1,by rw[yA,hB.fK];rfl,rfl,bS,O,λH2 p s2 hp hP=>?_⟩;have bO:=s1.trans s2;have cy:=hB.same bO;refine ⟨_,rfl,p,_,rfl,.inl (ag.of hP),_,rfl,A.b,aE,A.dx,_,_,rfl,cy.bk,aw.cl,aw.d7,gy _ _ _ _ _,A.d,.offer,B.T,rfl,rfl,cy.told.r,O.wt,λH3 s3=>⟨_,_,rfl,rfl,_,rfl,aI (λc2=>?_) (λc2=>?_)⟩⟩
   ·rw[Zt,bY]at c2;have hd:=Ky O hz;rw[Zx ZD]at hd;exact ⟨cj,λq hq=>(dn.no F O hd).one (bO.trans s3) hq⟩
   ·rw[Zr,bY]at c2;have c3:¬(dW B).length<aG B.T .offer:=by omega
    have hd:=Ky O hz;rw[Zw c3]at hd;have i6:=bO.trans s3;have vw:H p=none:=s1.free hp;have vQ:=s3 _ _ hP;obtain ⟨F1,fr1⟩:=F.one (n:=5) i6 vw vQ;have f9:=F1.cQ;have pn:p∉A.rr:=λz=>by obtain ⟨l,_,e⟩:=hB.pY.at z;rw[vw]at e;cases e
    have F2:=F1.QY (rr:=A.rr++ [p]) (rs:=B.rs++ [dW B]) (Paired.snoc F1.cf ⟨Hn p 5,vQ⟩) (rD F1.jL pn);have k2:dc A.r H3 (cA ρ p 5) (aj H3 A.r (.lst ((A.rr++ [p]).map V.ref))) (cA ρ p 5):=gX (by rw[F1.pr];decide);have O2:=U9 O hz c3;have HA:A.rr.length=B.rs.length:=hB.fK;have em:(A.rr++ [p]).map V.ref=A.rr.map V.ref++ [V.ref p]:=by rw[yH];rfl
    rw[em]at F2 k2;refine ⟨_,rfl,A.b,aE,A.dx,_,_,rfl,f9.bk,aw.cl,aw.dQ,ef _ _ _ _ _,.inl ⟨rfl,_,ag.of f9.cf⟩,_,rfl,A.r,_,.ref p,rfl,rfl,f9.cf,?_,?_⟩
    ·rw[yA];exact dv ZD
    ·refine ⟨_,rfl,A.b,aE,A.dx,_,_,rfl,F2.cQ.bk,aw.cl,aw.dQ,ef _ _ _ _ _,A.r,_,rfl,.inl (ag.of ao),cj,λq hq=>?_⟩;have s4:=bU (o:= .lst [.int ((A.rr.map V.ref++ [V.ref p]).length:Nat)]) hq;refine dn _ (cA ρ p 5) {A with rr:=A.rr++ [p]} {B with rs:=B.rs++ [dW B]} q rfl (F2.same s4) O2 ?_ (fr1.trans (k2.fr.trans (Fr.of s4))) ?_ (F2.free hq) ?_
     ·rw[hd]
     ·exact i6.free (bK hq).2
     ·rw[ao,hd,yt,yA,HA];rfl
noncomputable def ag7 (K:PySem.W.Frag) (C CM CR:Addr):Sp:=λvs H Q _a=>∃(ρ:Rl) (A:Ad) (B:bc) (z y:Int),vs= [.ref A.b,.int z,.int y]/\bE C CM CR H ρ A B/\Ok B/\dF C CM CR H ρ A B Q (.appeal z y)
noncomputable abbrev HB:Prop:=a7 P w K mg base 5 "appeal_answer" ["bank","stage","number"] (ag7 K aE aM aN)
theorem ag8 (n:a9 K mg "appeal_answer" Pg) (T:Txt K mg) (aw:b6 K mg aE) (aL:bZ K mg aM) (aS:cp K mg aN) (mK:vD) (HC:Hf) (ip:pZ):HB:=by
  refine bf ["bank","stage","number","offered","instead"] n λf aK A aJ s H vs Q E hr nd hu h=>?_
  obtain ⟨ρ,A,B,z,y,rfl,F,O,dn⟩:=h;refine ⟨_,(aB (aX (cJ (cN (aD ip hr (au (pv 0) (ai (pv 1)))))) (aC (aF (aW (ai (aR T.jD))))) aZ)
   (aB (aX (cN (aD mK hr (au (pv 0) (ai (pv 1))))) (aC (aF (aW (ai (aR T.Fw))))) aZ)
   (aB (bj 3 nd (bL K (aP K (pv 0)) (bx eO (pv 1) aH)))
   (aB (aX (nu (E1 (K:=K)) (pv 2) (pv 3) (by with_unfolding_all rfl)) (aC (aF (aW (ai (aR T.jD))))) aZ)
   (aB (bj 4 nd (aD HC hr (au (pv 0) (au (pv 1) (ai (pv 2))))))
   (aB (aX (bz cF (bJ K T.bG (pv 4)) aH) (aC (aF (aW (ai (aR T.Bo))))) aZ)
   (aB (LL (bL K (pv 4) aH) (LK (pv 3) (j7 (K:=K) Z5 Zb Ze (NG (K:=K)) (pv 3) (ai (pv 2))) Ef))
   (aC (aF (aW (ai aH))))))))))),?_⟩
  have hB:=F.cQ;refine ⟨_,rfl,_,rfl,A,B,z,rfl,hB,_,rfl,aI (λc=>?_) (λc=>?_)⟩
  ·rw[zm,Zr]at c;exact ⟨cj,λq hq=>(dn.no F O (Ve c)).one (aq.refl H) hq⟩
  ·rw[zl,Zt]at c;obtain ⟨k,rfl,k1,k2⟩:=mP c;obtain ⟨l,hl⟩:∃l,B.rs[k - 1]? =some l:=⟨_,yb k2⟩;obtain ⟨ra,i9,dy⟩:=hB.kj hl;refine ⟨_,rfl,_,rfl,A,B,k,rfl,hB,O,k1,by omega,λH1 s1=>⟨_,rfl,aI (λc2=>?_) (λc2=>?_)⟩⟩
   ·exact ⟨cj,λq hq=>(dn.no F O (Vf O k1 hl (ZA c2))).one s1 hq⟩
   ·have lz:=Zz c2;have bS:=hB.same s1;refine ⟨_,rfl,A.b,aE,A.dx,_,_,rfl,bS.bk,aw.cl,aw.dQ,ef _ _ _ _ _,_,rfl,_,_,rfl,rfl,A.r,_,_,.ref ra,rfl,rfl,ag.of bS.cf,ow i9 ZD,?_⟩;refine ⟨_,rfl,_,rfl,ra,_,rfl,.inl (ag.of (s1 _ _ dy)),rfl,ou _,_,rfl,aI (λc3=>?_) (λc3=>?_)⟩
    ·rw[Zx rfl,mx,zm]at c3;have hn:¬y∈Vbdbag.ints l:=λw=>by have:(nI l).contains y=true:=zH.mpr w;rw[this]at c3;cases c3
     exact ⟨cj,λq hq=>(dn.no F O (Vg O k1 hl lz hn)).one s1 hq⟩
    ·rw[Zx rfl,mx,zl]at c3;obtain ⟨m,hm,rfl⟩:∃m:Nat,m∈l/\(m:Int)=y:=List.mem_map.mp (zH.mp c3);have hd:=Vh O k1 hl lz hm;refine ⟨_,rfl,_,rfl,_,rfl,A,B,k,m,l,rfl,bS,O,k1,hl,λH2 p s2 hp hP=>?_⟩;have bO:=s1.trans s2;refine ⟨_,rfl,p,_,rfl,.inl (ag.of hP),rfl,_,rfl,aI (λc4=>?_) (λc4=>?_)⟩
     ·have hz:kG B k l m= []:=by have:=ZA c4;rw[bY]at this;injection this with this;exact List.length_eq_zero_iff.mp ZD
      rw[hz]at hd;exact ⟨cj,λq hq=>(dn.no F O hd).one bO hq⟩
     ·cases hs:kG B k l m with
      |nil=>rw[hs]at c4;exact absurd rfl (Zz c4)
      |cons n rest=>
       rw[hs]at hd hP;have hn:=Vd (B:=B) (k:=k) (l:=l) (m:=m) (n:=n) (by rw[hs];exact yV);have F2:=F.same bO;obtain ⟨i1,i2⟩:=G0 hm;have HD:=bO _ _ dy;have fH:=List.idxOf_lt_length_iff.mpr hm;have F3:=F2.afo (l:=l.set (l.idxOf m) n) i9;have pa:ρ ra=5:=by obtain ⟨_,_,q⟩:=hU F2.cf i9;exact q.1
       have k3:dc ra H2 ρ (aj H2 ra (.lst (vi (nI (l.set (l.idxOf m) n))))) ρ:=gX (by rw[pa];decide);have O3:=Vk (m:=m) O k1 hl lz hn;have es:(vi (nI l)).set (l.idxOf m) (.int n)=vi (nI (l.set (l.idxOf m) n)):=by show ((Vbdbag.ints l).map V.int).set _ _=(Vbdbag.ints (l.set _ _)).map V.int;unfold Vbdbag.ints;rw[yP,yP]
       refine ⟨_,rfl,p,_,_,.int n,rfl,rfl,ag.of hP,ck (j:=0) rfl,_,rfl,_,rfl,.inl ⟨rfl,_,ag.of HD⟩,_,rfl,ra,_,_,l.idxOf m,_,rfl,rfl,ag.of HD,rfl,ou _,i1,by show ((m:Int)==(m:Int))=true;simp,i2,ra,_,_,l.idxOf m,rfl,rfl,HD,?_,?_⟩
       ·unfold jr;rw[bY,Zx ZD,Zx ZD,zt]
       ·rw[es];refine ⟨cj,λq hq=>?_⟩;have s4:=bU (o:= .lst [.int 0]) hq;refine dn _ ρ A {B with rs:=B.rs.set (k - 1) (l.set (l.idxOf m) n)} q rfl (F3.same s4) O3 ?_ ((Fr.of bO).trans (k3.fr.trans (Fr.of s4))) ?_ (F3.free hq) ?_
        ·rw[hd]
        ·exact bO.free (bK hq).2
        ·rw[ao,hd];rfl
theorem RA {α β:Type}{G:α->β->Prop}:∀{l₁:List α}{l₂:List β},Paired G l₁ l₂->Paired G l₁.dropLast l₂.dropLast
 |_,_,.nil=> .nil
 |_,_,.cons q .nil=> .nil
 |_,_,.cons q (.cons q2 r)=> .cons q (RA (.cons q2 r))
noncomputable def ag9 (K:PySem.W.Frag) (C CM CR:Addr):Sp:=λvs H Q _a=>∃(ρ:Rl) (A:Ad) (B:bc),vs= [.ref A.b]/\bE C CM CR H ρ A B/\Ok B/\dF C CM CR H ρ A B Q (.undo)
noncomputable abbrev HE:Prop:=a7 P w K mg base 4 "undo_answer" ["bank"] (ag9 K aE aM aN)
theorem ag_ (n:a9 K mg "undo_answer" Ph) (T:Txt K mg) (aw:b6 K mg aE) (aL:bZ K mg aM) (aS:cp K mg aN) (mK:vD):HE:=by
  refine bf ["bank"] n λf aK A aJ s H vs Q E hr nd hu h=>?_
  obtain ⟨ρ,A,B,rfl,F,O,dn⟩:=h;refine ⟨_,(aB (aX (bz cF (bJ K T.bG (aP K (pv 0))) aH) (aC (aF (aW (ai (aR T.jD))))) aZ)
   (aB (aX (cN (aD mK hr (au (pv 0) (ai (bJ K T.bG (aP K (pv 0))))))) (aC (aF (aW (ai (aR T.Fw))))) aZ)
   (aB (fu (abd (K:=K) Z5 Zc Zf Yx (aP K (pv 0))))
   (aC (aF (aW (ai (bJ K T.bG (aP K (pv 0)))))))))),?_⟩
  have hB:=F.cQ;have h9:=O.jR;refine ⟨_,rfl,A.b,aE,A.dx,_,_,rfl,hB.bk,aw.cl,aw.dQ,ef _ _ _ _ _,A.r,_,rfl,.inl (ag.of hB.cf),rfl,_,rfl,aI (λc=>?_) (λc=>?_)⟩
  ·have hz:B.rs= []:=by have:=ZA c;rw[yA,hB.fK]at this;injection this with this;exact List.length_eq_zero_iff.mp ZD
   exact ⟨cj,λq hq=>(dn.no F O (Vl hz)).one (aq.refl H) hq⟩
  ·have hz:B.rs≠ []:=by intro z;refine Zz c ?_;rw[yA,hB.fK,z];rfl
   have vr:0<B.rs.length:=List.length_pos_iff.mpr hz;refine ⟨_,rfl,_,rfl,A.b,aE,A.dx,_,_,rfl,hB.bk,aw.cl,aw.dQ,ef _ _ _ _ _,A.r,_,rfl,.inl (ag.of hB.cf),A,B,B.rs.length,by rw[yA,hB.fK];rfl,hB,O,by omega,xC _,λH1 s1=>⟨_,rfl,aI (λc2=>?_) (λc2=>?_)⟩⟩
   ·exact ⟨cj,λq hq=>(dn.no F O (Vm O hz (ZA c2))).one s1 hq⟩
   ·have lz:=Zz c2;have F1:=F.same s1;have bS:=F1.cQ;have O2:=Vn O lz;have F2:=F1.QY (rr:=A.rr.dropLast) (rs:=B.rs.dropLast) (RA F1.cf) (F1.jL.sublist (List.dropLast_sublist _));have k2:dc A.r H1 ρ (aj H1 A.r (.lst (A.rr.dropLast.map V.ref))) ρ:=gX (by rw[F.pr];decide);have HA:A.rr.length=B.rs.length:=hB.fK;refine ⟨_,rfl,A.b,aE,A.dx,_,_,rfl,bS.bk,aw.cl,aw.dQ,ef _ _ _ _ _,.inl ⟨rfl,_,ag.of bS.cf⟩,A.r,_,.ref (A.rr.getD (A.rr.length - 1) 0),rfl,rfl,bS.cf,?_,?_⟩
    ·rw[yA,yd,y4,yb (show A.rr.length - 1<A.rr.length by omega)];rfl
    ·rw[←List.map_dropLast];refine ⟨_,rfl,A.b,aE,A.dx,_,_,rfl,F2.cQ.bk,aw.cl,aw.dQ,ef _ _ _ _ _,A.r,_,rfl,.inl (ag.of F2.cQ.cf),cj,λq hq=>?_⟩;have s2:=bU (o:= .lst [.int ((A.rr.dropLast.map V.ref).length:Nat)]) hq;refine dn _ ρ {A with rr:=A.rr.dropLast} {B with rs:=B.rs.dropLast} q rfl (F2.same s2) O2 ?_ ((Fr.of s1).trans (k2.fr.trans (Fr.of s2))) ?_ (F2.free hq) ?_
     ·rw[Kz O hz lz]
     ·exact s1.free (bK hq).2
     ·rw[ao,Kz O hz lz,yA,yx,HA];have e3:(((B.rs.length - 1:Nat)):Int)=(B.rs.length:Int) - 1:=by omega
      rw[e3];rfl
noncomputable def aha (K:PySem.W.Frag) (C CM CR:Addr):Sp:=λvs H Q _a=>∃(ρ:Rl) (A:Ad) (B:bc) (z:Int),vs= [.ref A.b,.int z]/\bE C CM CR H ρ A B/\Ok B/\dF C CM CR H ρ A B Q (.now z)
noncomputable abbrev HF:Prop:=a7 P w K mg base 3 "now_answer" ["bank","minute"] (aha K aE aM aN)
theorem ahb (n:a9 K mg "now_answer" Pj) (T:Txt K mg) (aw:b6 K mg aE) (aL:bZ K mg aM) (aS:cp K mg aN) (mC:vC):HF:=by
  refine bf ["bank","minute"] n λf aK A aJ s H vs Q E hr nd hu h=>?_
  obtain ⟨ρ,A,B,z,rfl,F,O,dn⟩:=h;refine ⟨_,(aB (aX (cJ (j1 cO cO (aP K (pv 0)) (pv 1) (aR T.acv))) (aC (aF (aW (ai (aR T.k9))))) aZ)
   (aB (eP (pv 0) (pv 1) rfl)
   (aC (aF (aW (ai (bJ K T.bG (aD mC hr (au (pv 0) (ai (pv 1))))))))))),?_⟩
  have hB:=F.cQ;have h9:=O.jR;refine ⟨_,rfl,A.b,aE,A.dx,_,_,rfl,hB.bk,aw.cl,aw.nV,sy _ _ _ _ _,_,rfl,_,_,rfl,rfl,_,rfl,aI (λe=>?_) (λe=>?_)⟩
  ·refine ⟨_,_,rfl,rfl,_,rfl,aI (λc=>?_) (λc=>?_)⟩
   ·rw[zm,Zr]at c;exact ⟨cj,λq hq=>(dn.no F O (Km λy=>c y.2)).one (aq.refl H) hq⟩
   ·rw[zl,Zt]at c;rw[Zt]at e;obtain ⟨n,rfl⟩:∃n:Nat,z=n:=⟨z.toNat,by omega⟩;have F2:=F.afl (n:=n) F.told;have k2:dc A.b H ρ (aj H A.b (.ins aE A.dx (eB (.ref A.d) (.ref A.m) (.ref A.r) (.ref A.g) (.int n)))) ρ:=gX (by rw[F.pb];decide);have O2:=UM O ⟨e,c⟩;rw[zt]at O2;refine ⟨_,rfl,_,rfl,A.b,aE,A.dx,_,rfl,hB.bk,aw.cl,aw.nV,(by show 5<1000;decide),?_⟩;refine ⟨_,rfl,_,rfl,A,{B with now:=n},n,rfl,F2.cQ,O2,λH1 p s1 hp hP=>⟨p,_,rfl,.inl (ag.of hP),cj,λq hq=>?_⟩⟩;have s2:=aU (o:= .lst [.int ((vi (nI (lI {B with now:=n} (n:Int)))).length:Nat)]) s1 (s1.free hq);refine dn _ ρ A {B with now:=n} q rfl (F2.same s2) O2 ?_ (k2.fr.trans (Fr.of s2)) ?_ (F2.free (s1.free hq)) ?_
    ·rw[Kn O ⟨e,c⟩,zt]
    ·exact (bK (s1.free hq)).2
    ·rw[ao,Kn O ⟨e,c⟩,bY];rfl
  ·rw[Zr]at e;exact ⟨_,rfl,cj,λq hq=>(dn.no F O (Km λy=>e y.1)).one (aq.refl H) hq⟩
noncomputable def ahc (K:PySem.W.Frag):Sp:=λvs H Q _a=>∃(z n:Int),vs= [.int z,.int n]/\Q (.bl (jT z n)) H
noncomputable abbrev Cd:Prop:=a7 P w K mg base 1 "is_clock" ["zone","minute"] (ahc K)
theorem ahd (n:a9 K mg "is_clock" Pk) (T:Txt K mg):Cd:=by
  refine bf ["zone","minute"] n λf aK A aJ s H vs Q E hr nd hu h=>?_
  obtain ⟨z,n,rfl,kk⟩:=h;refine ⟨_,(aC (aF (DD (ny cO cO (DQ DU (aR T.P1)) (pv 0) (aR T.P1)) (DC (ny cO cO (aR T.acw) (pv 1) (aR T.acx)))))),?_⟩;unfold jT at kk;refine ⟨900,rfl,_,rfl,_,_,rfl,rfl,_,rfl,aI (λe1=>?_) (λe1=>?_)⟩
  ·refine ⟨_,_,rfl,rfl,_,rfl,aI (λe2=>?_) (λe2=>?_)⟩
   ·refine ⟨_,rfl,_,_,rfl,rfl,_,rfl,aI (λe3=>?_) (λe3=>?_)⟩
    ·refine ⟨_,_,rfl,rfl,?_⟩;rw[e1,e2,e3]at kk;exact kk
    ·rw[e1,e2,e3]at kk;exact kk
   ·rw[e1,e2]at kk;exact kk
  ·rw[e1]at kk;exact ⟨_,rfl,kk⟩
noncomputable def ahe (K:PySem.W.Frag) (C CM CR:Addr):Sp:=λvs H Q _a=>∃(ρ:Rl) (A:Ad) (B:bc) (z y:Int),vs= [.ref A.b,.int z,.int y]/\bE C CM CR H ρ A B/\Ok B/\dF C CM CR H ρ A B Q (.see z y)
noncomputable abbrev HG:Prop:=a7 P w K mg base 3 "see_answer" ["bank","zone","minute"] (ahe K aE aM aN)
theorem ahf (n:a9 K mg "see_answer" Pl) (T:Txt K mg) (aw:b6 K mg aE) (aL:bZ K mg aM) (aS:cp K mg aN) (mC:vC) (sV:Cd) (dE:ki):HG:=by
  refine bf ["bank","zone","minute","world","stages","answer","stage"] n λf aK A aJ s H vs Q E hr nd hu h=>?_
  obtain ⟨ρ,A,B,z,y,rfl,F,O,dn⟩:=h;refine ⟨_,(aB (aX (cJ (cN (aD sV hr (au (pv 1) (ai (pv 2)))))) (aC (aF (aW (ai (aR T.k9))))) aZ)
   (aB (bj 3 nd (bx eO (pv 2) (pv 1)))
   (aB (aX (bz fF (pv 3) (aP K (pv 0))) (aC (aF (aW (ai (aR T.Fx))))) aZ)
   (aB (bj 4 nd (aD mC hr (au (pv 0) (ai (pv 3)))))
   (aB (bj 5 nd (aW (ai (bJ K T.bG (pv 4)))))
   (aB (eW PassesOwn.never rfl (dZ (pv 4)) (cH 6 nd) (aC (fu (j7 (K:=K) Z5 Za Zd uu (pv 5) (ai (aD dE hr (ai (bx fV (aW (ai (pv 6))) (bL K (aP K (pv 0)) (bx eO (pv 6) aH))))))))))
   (aC (aF (pv 5))))))))),?_⟩
  have hB:=F.cQ;have h9:=O.jR;refine ⟨_,rfl,_,rfl,z,y,rfl,_,rfl,aI (λc2=>?_) (λc2=>?_)⟩
  ·rw[zm]at c2;exact ⟨cj,λq hq=>(dn.no F O (UN c2)).one (aq.refl H) hq⟩
  ·rw[zl]at c2;refine ⟨_,rfl,_,rfl,_,_,rfl,rfl,_,rfl,_,rfl,A.b,aE,A.dx,_,_,rfl,hB.bk,aw.cl,aw.nV,sy _ _ _ _ _,_,_,rfl,rfl,_,rfl,aI (λc3=>?_) (λc3=>?_)⟩
   ·rw[Zt]at c3;exact ⟨cj,λq hq=>(dn.no F O (UO c2 ZD)).one (aq.refl H) hq⟩
   ·rw[Zr]at c3;refine ⟨_,rfl,_,rfl,A,B,y - z,rfl,hB,O,λH1 p s1 hp hP=>?_⟩;have dy:=V8 B (y - z);refine ⟨_,rfl,p,_,rfl,.inl (ag.of hP),cj,λo ho=>?_⟩;have po:p≠o:=b8 hP ho;have hd:=UP O c2 (show ¬(B.now:Int)<y - z by omega);generalize hL:lI B (y - z)=L at*;have He:∀r∈L,1<=r/\r<=B.rs.length:=λr hr=>(Ll.mp (by rw[hL];exact hr)).1
    have s2:∀ob,aq H (aj H1 o ob):=λob=>aU s1 (s1.free ho)
    have fl6:∀i,(i5 ((L.take i).map λr=>nI (r::jU B.rs r))).length<=i*10:=λi=>by
     have:=GJ 10 ((L.take i).map λr=>nI (r::jU B.rs r)) λx hx=>by
      obtain ⟨r,hr,rfl⟩:=List.mem_map.mp hx;rw[bR,yu];have:(jU B.rs r).length<=5:=by
       unfold jU;cases e:B.rs[r - 1]? with
       |none=>exact xQ _
       |some l=>exact (O.jS (yY e)).2
      omega
     rw[yA,yF]at this;have h2:min i L.length*10<=i*10:=xM _ (Nat.min_le_left _ _);omega
    refine ⟨_,rfl,p,rfl,⟨_,ag.of (by rw[aA po];exact hP)⟩,jj (K:=K) (a:=p) (xs:=vi (nI L)) (λi σ H'=>∃v:Option V,σ= [some (.ref A.b),some (.int z),some (.int y),some (.int (y - z)),some (.ref p),some (.ref o),v]/\aq H H'/\H' p=some (.lst (vi (nI L)))/\H' o=some (.lst (vi ((L.length:Int)::i5 ((L.take i).map λr=>nI (r::jU B.rs r)))))) ⟨none,rfl,s2 _,by rw[aA po];exact hP,by rw[ao,bY];rfl⟩ (λi σ H' _a ⟨_,_,_,h,_⟩=>ag.of h) ?_ ?_⟩
    ·rintro i v σ H' hv ⟨v0,rfl,s,RB,hO⟩;obtain ⟨w,hw,rfl⟩:=cD hv;obtain ⟨r,hr,rfl⟩:=cD hw;have QT:=He r (yY hr);have hi:=(List.getElem?_eq_some_iff.mp hr).1;obtain ⟨l,hl⟩:∃l,B.rs[r - 1]? =some l:=⟨_,yb ZD⟩;have qe:=(O.jS (yY hl)).2;have f6:=hB.same s;obtain ⟨ra,i9,RC⟩:=f6.kj hl;have er:jU B.rs r=l:=by unfold jU;rw[hl];rfl
     have hf:=fl6 i;refine ⟨_,rfl,.inl ⟨rfl,_,ag.of hO⟩,_,rfl,cj,λq hq=>?_⟩;have s3:=bU (o:= .lst [.int (r:Int)]) hq;have f9:=f6.same s3;have qra:ra≠q:=b8 RC hq;refine ⟨_,rfl,A.b,aE,A.dx,_,_,rfl,f9.bk,aw.cl,aw.dQ,ef _ _ _ _ _,_,rfl,_,_,rfl,rfl,A.r,_,_,.ref ra,rfl,rfl,ag.of f9.cf,ow i9 ZD,q,ra,_,_,rfl,rfl,ao,s3 _ _ RC,?_,λq4 sg=>?_⟩
     ·rw[bY];simp only[yu,yB];exact eQ ZD
     have s4:=s3.trans (bU (o:= .lst ([.int (r:Int)]++vi (nI l))) sg);refine ⟨q4,nI (r::l),rfl,ao,by rw[bR,yu];omega,λH6 q6 s6 Rn vU=>?_⟩;have HH:=s4.trans s6;refine ⟨o,q6,_,_,rfl,rfl,HH _ _ hO,vU,?_,_,rfl,aU (s.trans HH) (s1.free ho),by rw[aA po];exact HH _ _ RB,?_⟩
     ·simp only[yu,yA,bR];exact eQ ZD
     ·rw[ao,da hr,yH];show _=some (HO.lst (vi ((L.length:Int)::i5 (_++ [nI (r::jU B.rs r)]))));rw[QU,er,←zF,dw]
    ·rintro σ H' ⟨v0,rfl,s,RB,hO⟩;rw[bY,xm]at hO;refine ⟨_,rfl,dn.ret F O hd H' o s (s1.free ho) ?_⟩;rw[hO];show _=some (HO.lst (vi (iP {value:=((lI B (y - z)).length:Int),rows:=(lI B (y - z)).map λr=>Vbdbag.ints (r::jU B.rs r)})));rw[hL];rfl
noncomputable def ahh (K:PySem.W.Frag) (C CM CR:Addr):Sp:=λvs H Q _a=>∃(ρ:Rl) (A:Ad) (B:bc) (k z x y:Int),vs= [.ref A.b,.int k,.int z,.int x,.int y]/\bE C CM CR H ρ A B/\Ok B/\dF C CM CR H ρ A B Q (.read k z x y)
noncomputable abbrev HJ:Prop:=a7 P w K mg base 2 "read_answer" ["bank","stage","place","zone","minute"] (ahh K aE aM aN)
theorem ahi (n:a9 K mg "read_answer" Pn) (T:Txt K mg) (aw:b6 K mg aE) (aL:bZ K mg aM) (aS:cp K mg aN) (ff:mw) (ip:pZ) (sV:Cd) (dE:ki) (mB:vf):HJ:=by
  refine bf ["bank","stage","place","zone","minute","numbers","motion"] n λf aK A aJ s H vs Q E hr nd hu h=>?_
  obtain ⟨ρ,A,B,k,z,x,y,rfl,F,O,dn⟩:=h;refine ⟨_,(aB (aX (cJ (cN (aD ip hr (au (pv 0) (ai (pv 1)))))) (aC (aF (aW (ai (aR T.jD))))) aZ)
   (aB (aX (cJ (cN (aD sV hr (au (pv 3) (ai (pv 4)))))) (aC (aF (aW (ai (aR T.k9))))) aZ)
   (aB (aX (cJ (j1 cO cO (aD mB hr (au (aP K (pv 0)) (ai (pv 1)))) (bx eO (pv 4) (pv 3)) (aP K (pv 0)))) (aC (aF (aW (ai (aR T.Fx))))) aZ)
   (aB (bj 5 nd (bL K (aP K (pv 0)) (bx eO (pv 1) aH)))
   (aB (aX (cJ (j1 cO o9 aH (pv 2) (bJ K T.bG (pv 5)))) (aC (aF (aW (ai (aR T.jD))))) aZ)
   (aB (bj 6 nd (aD ff hr (au (pv 0) (ai (bL K (pv 5) (pv 2))))))
   (aC (aF (bx fV (bx fV (aW (au (bL K (pv 5) (pv 2)) (ai (aP K (pv 6))))) (aD dE hr (ai (aP K (pv 6))))) (aD dE hr (ai (aP K (pv 6))))))))))))),?_⟩
  have hB:=F.cQ;refine ⟨_,rfl,_,rfl,A,B,k,rfl,hB,_,rfl,aI (λc=>?_) (λc=>?_)⟩
  ·rw[zm,Zr]at c;exact ⟨cj,λq hq=>(dn.no F O (UQ c)).one (aq.refl H) hq⟩
  ·rw[zl,Zt]at c;obtain ⟨k,rfl,k1,k2⟩:=mP c;obtain ⟨l,hl⟩:∃l,B.rs[k - 1]? =some l:=⟨_,yb k2⟩;obtain ⟨ra,i9,dy⟩:=hB.kj hl;have qe:=(O.jS (yY hl)).2;refine ⟨_,rfl,_,rfl,x,y,rfl,_,rfl,aI (λc2=>?_) (λc2=>?_)⟩
   ·rw[zm]at c2;exact ⟨cj,λq hq=>(dn.no F O (UR k1 hl c2)).one (aq.refl H) hq⟩
   ·rw[zl]at c2;refine ⟨_,rfl,A.b,aE,A.dx,_,_,rfl,hB.bk,aw.cl,aw.d7,gy _ _ _ _ _,_,rfl,A.d,k,B.T,rfl,hB.told.r,O.wt,λH1 s1=>?_⟩;have bS:=hB.same s1;have RD:∀H2,aq H H2->¬((cB B.T k:Int)<=y - x/\y - x<=(B.now:Int))->([V.int (-4)]:List V).length<=sizeLine/\∀q,H2 q=none->Q (.ref q) (aj H2 q (.lst [.int (-4)])):=λH2 s2 hn=>⟨cj,λq hq=>(dn.no F O (US O k1 hl c2 hn)).one s2 hq⟩
    refine ⟨_,rfl,_,rfl,_,_,rfl,rfl,_,_,rfl,rfl,_,rfl,aI (λc3=>?_) (λc3=>?_)⟩
    ·rw[Zt]at c3;refine ⟨_,rfl,A.b,aE,A.dx,_,_,rfl,bS.bk,aw.cl,aw.nV,sy _ _ _ _ _,_,_,rfl,rfl,_,rfl,aI (λc4=>?_) (λc4=>?_)⟩
     ·rw[zm,Zr]at c4;exact RD H1 s1 λw=>c4 w.2
     ·rw[zl,Zt]at c4;refine ⟨_,rfl,A.b,aE,A.dx,_,_,rfl,bS.bk,aw.cl,aw.dQ,ef _ _ _ _ _,_,rfl,_,_,rfl,rfl,A.r,_,_,.ref ra,rfl,rfl,ag.of bS.cf,ow i9 ZD,?_⟩;have RE:¬(0<=z/\z<(l.length:Int))->([V.int (-6)]:List V).length<=sizeLine/\∀q,H1 q=none->Q (.ref q) (aj H1 q (.lst [.int (-6)])):=λhn=>⟨cj,λq hq=>(dn.no F O (UT O k1 hl c2 ⟨c3,c4⟩ hn)).one s1 hq⟩
      refine ⟨_,rfl,_,_,rfl,rfl,_,rfl,aI (λc5=>?_) (λc5=>?_)⟩
      ·rw[Zt]at c5;refine ⟨_,rfl,ra,_,rfl,.inl (ag.of (s1 _ _ dy)),_,_,rfl,rfl,_,rfl,aI (λc6=>?_) (λc6=>?_)⟩
       ·rw[zm,Zr,bY]at c6;exact RE λw=>c6 w.2
       ·rw[zl,Zt,bY]at c6;obtain ⟨pn,rfl⟩:∃pn:Nat,z=pn:=⟨z.toNat,by omega⟩;have dj:pn<l.length:=by omega
        have hn:=getD_some dj;have gc:=(O.ro l (yY hl)).2.2 _ (getD_mem dj);generalize l.getD pn 0=n at*;obtain ⟨mo,a,dR,ha,dm,tp,tx,fh,iI,kh⟩:=bS.mD gc;have h8:=O.mo mo (yY dR);refine ⟨_,rfl,_,rfl,_,rfl,ra,_,_,.int n,rfl,rfl,ag.of (s1 _ _ dy),my (lA hn) rfl,A.b,A.d,A.m,A.as,B.T,B.ms,n,a,rfl,bS.v,gc.1,ha,?_⟩;refine ⟨_,rfl,_,rfl,ra,_,_,.int n,rfl,rfl,ag.of (s1 _ _ dy),my (lA hn) rfl,_,rfl,a,aM,dm,_,_,rfl,fh,aL.cl,aL.Bp,Gw _ _ _ _,by show 2<=sizeLine;decide,λp hp=>?_⟩;have s2:∀o,aq H1 (aj H1 p o):=λo=>bU hp
        refine ⟨_,rfl,a,aM,dm,_,_,rfl,s2 _ _ _ fh,aL.cl,aL.nT,pU _ _ _ _,tp,nI mo.topic,rfl,s2 _ _ _ iI,by rw[bR];omega,λH4 q s4 hq hQ=>?_⟩;refine ⟨p,q,_,_,rfl,rfl,s4 _ _ ao,hQ,?_,λr hr=>?_⟩
        ·simp only[yu,yB,yA,bR];exact eQ ZD
        have ko:=(s2 (.lst [.int n,.int mo.level])).trans s4;have s5:∀o,aq H1 (aj H4 r o):=λo=>aU ko (ko.free hr)
        refine ⟨_,rfl,a,aM,dm,_,_,rfl,s5 _ _ _ fh,aL.cl,aL.P7,aev _ _ _ _,tx,nI mo.words_,rfl,s5 _ _ _ kh,by rw[bR];omega,λH6 q6 s6 Rn vU=>?_⟩;refine ⟨r,q6,_,_,rfl,rfl,s6 _ _ ao,vU,?_,λr7 RF=>?_⟩
        ·simp only[yt,yu,yB,yA,bR];exact eQ ZD
        ·have s7:=s1.trans ((s5 _).trans s6);refine dn.ret F O (UU O k1 hl c2 ⟨c3,c4⟩ hn gc.1 dR) _ r7 (aU s7 (s7.free RF)) (s7.free RF) ?_;rw[ao];unfold iP;simp only[y0,y1,zE];rw[←zF,dw,dw,zD];rfl
      ·rw[Zr]at c5;exact ⟨_,rfl,RE λw=>c5 w.1⟩
    ·rw[Zr]at c3;exact ⟨_,rfl,RD H1 s1 λw=>c3 w.1⟩
end
section
noncomputable def ahj (K:PySem.W.Frag):Sp:=λvs H Q _a=>∃(p:Addr) (l:List Int),vs= [.ref p]/\H p=some (.lst (vi l))/\l.length<=2000/\∀H',aq H H'->Q (.bl (decide (l.length<=5)&&dh 0 99 l)) H'
noncomputable abbrev HK:Prop:=a7 P w K mg base 2 "is_order" ["numbers"] (ahj K)
theorem ahk (n:a9 K mg "is_order" Pw) (T:Txt K mg) (jE:rT):HK:=by
  refine bf ["numbers"] n λf aK A aJ s H vs Q E hr nd hu h=>?_
  obtain ⟨p,l,rfl,hp,hl,kk⟩:=h;refine ⟨_,(aC (aF (DD (Fl cO (bJ K T.bG (pv 0)) (aR T.acA)) (DC (aD jE hr (au (pv 0) (au aH (ai (aR T.acB))))))))),?_⟩;refine ⟨_,rfl,p,_,rfl,.inl (ag.of hp),_,_,rfl,rfl,_,rfl,aI (λc=>?_) (λc=>?_)⟩
  ·rw[Zt,yA]at c;have c':decide (l.length<=5)=true:=Zs ZD;rw[c',zp]at kk;exact ⟨_,rfl,p,l,0,99,rfl,ag.of hp,by omega,kk⟩
  ·rw[Zr,yA]at c;have c':decide (l.length<=5)=false:=Zq ZD;rw[c',zg]at kk;exact kk H (aq.refl H)
theorem Ce {a b a' b':List Int}(pa:a'.Perm a) (sa:a'.Pairwise (·<= ·)) (pb:b'.Perm b) (sb:b'.Pairwise (·<= ·)):a'=b' ↔ a.Perm b:=by
 constructor
 ·intro e;subst e;exact pa.symm.trans pb
 ·intro h;exact List.Perm.eq_of_pairwise (λx y _a _a h1 h2=>by omega) sa sb (pa.trans (h.trans pb.symm))
theorem qi (a s:Int) (o:List Int):iR a s o=true ↔ (0<=a/\a<=99)/\(0<=s/\s<2)/\(decide (o.length<=5)&&dh 0 99 o)=true:=by
 unfold iR;rw[za,za,za,za];simp only[Zt];constructor
 ·rintro ⟨⟨⟨h1,h2⟩,h3,h4⟩,h5⟩;exact ⟨⟨h1,h2⟩,⟨h3,by omega⟩,h5⟩
 ·rintro ⟨⟨h1,h2⟩,⟨h3,h4⟩,h5⟩;exact ⟨⟨⟨h1,h2⟩,h3,by omega⟩,h5⟩
noncomputable def ahl (K:PySem.W.Frag) (C CM CR:Addr):Sp:=λvs H Q _a=>∃(A:Ad) (B:bc) (z y x:Int) (p:Addr) (t:List Int) (af:List (List bp×V)),vs= [.ref A.b,.int z,.int y,.int x,.ref p]/\cP C CM CR H A B/\Ok B/\H A.g=some (.dT af)/\H p=some (.lst (vi t))/\t.length<=20/\
 (∀n,Vbdbag.step (ak B) (.order z y x t)=Vbdbag.no (ak B) n->dO H Q [.int n])/\
 (∀(k m:Nat) (l:List Nat),z=k->1<=k->B.rs[k - 1]? =some l->y=m->iR m x t=true->cB B.T k<=B.now->t.Perm (nI l)->¬(bF B.rooms (k,m)=none/\30<=(b7 B.rooms k).length)->((bF B.rooms (k,m)).any λy=> !y.result.isEmpty)=false->dO H Q [])
noncomputable abbrev HM:Prop:=a7 P w K mg base 4 "order_refusal" ["bank","stage","number","side","order"] (ahl K aE aM aN)
theorem ahm (n:a9 K mg "order_refusal" Px) (T:Txt K mg) (aw:b6 K mg aE) (aL:bZ K mg aM) (aS:cp K mg aN) (ip:pZ) (mK:vD) (lC:vJ) (HN:HK) (sP:BZ) (f7:oz):HM:=by
  refine bf ["bank","stage","number","side","order"] n λf aK A aJ s H vs Q E hr nd hu h=>?_
  obtain ⟨A,B,z,y,x,p,t,af,rfl,hB,O,hg,hp,ht,k1,k2⟩:=h;refine ⟨_,(aB (aX (cJ (cN (aD ip hr (au (pv 0) (ai (pv 1)))))) (aC (aF (aW (ai (aR T.jD))))) aZ)
   (aB (aX (PW.pt (gM (cJ (j1 cO cO aH (pv 2) (aR T.acy))) (gM (cJ (j1 cO o9 aH (pv 3) (aR T.P0))) (iE (cJ (cN (aD HN hr (ai (pv 4))))))))) (aC (aF (aW (ai (aR T.k9))))) aZ)
   (aB (aX (cJ (cN (aD mK hr (au (pv 0) (ai (pv 1)))))) (aC (aF (aW (ai (aR T.Fx))))) aZ)
   (aB (aX (bz (NX (K:=K) hr.units) (fw (Ff (K:=K)) (by rfl) T.Fv EZ (ai (pv 4))) (fw (Ff (K:=K)) (by rfl) T.Fv EZ (ai (bL K (aP K (pv 0)) (bx eO (pv 1) aH))))) (aC (aF (aW (ai (aR T.Bo))))) aZ)
   (aB (aX (PW.pt (oZ (cJ (cN (aD lC hr (au (pv 0) (au (pv 1) (ai (pv 2))))))) (qQ (bz cF (aD sP hr (au (pv 0) (ai (pv 1)))) (aR T.acz))))) (aC (aF (aW (ai (aR T.Fy))))) aZ)
   (aB (aX (PW.pt (oZ (cN (aD lC hr (au (pv 0) (au (pv 1) (ai (pv 2)))))) (qQ (bz fF (bJ K T.bG (aP K (aD f7 hr (au (pv 0) (au (pv 1) (ai (pv 2))))))) aH)))) (aC (aF (aW (ai (aR T.acp))))) aZ)
   (aC (aF (aW cW))))))))),?_⟩
  have bad:∀n,Vbdbag.step (ak B) (.order z y x t)=Vbdbag.no (ak B) n->∀H1,aq H H1->([V.int n]:List V).length<=sizeLine/\∀q,H1 q=none->Q (.ref q) (aj H1 q (.lst [.int n])):=λn e H1 s1=>⟨cj,λq hq=>(k1 n e).one s1 hq⟩
  refine ⟨_,rfl,_,rfl,A,B,z,rfl,hB,_,rfl,aI (λc=>?_) (λc=>?_)⟩
  ·rw[zm,Zr]at c;exact bad _ (VH c) H (aq.refl H)
  ·rw[zl,Zt]at c;obtain ⟨k,rfl,h1,h2⟩:=mP c;obtain ⟨l,hl⟩:∃l,B.rs[k - 1]? =some l:=⟨_,yb h2⟩;obtain ⟨ra,i9,dy⟩:=hB.kj hl;have qe:=(O.jS (yY hl)).2;have gK:∀H1,aq H H1->¬iR y x t=true->([V.int (-1)]:List V).length<=sizeLine/\∀q,H1 q=none->Q (.ref q) (aj H1 q (.lst [.int (-1)])):=λH1 s1 hn=>bad _ (VI h1 hl (by rw[ze];exact hn)) H1 s1
   refine ⟨_,rfl,_,_,rfl,rfl,_,rfl,aI (λe1=>?_) (λe1=>?_)⟩
   ·refine ⟨_,_,rfl,rfl,_,rfl,aI (λe2=>?_) (λe2=>?_)⟩
    ·rw[zm,Zr]at e2;exact gK H (aq.refl H) λw=>e2 ((qi _ _ _).mp w).1.2
    ·refine ⟨_,rfl,_,_,rfl,rfl,_,rfl,aI (λe3=>?_) (λe3=>?_)⟩
     ·refine ⟨_,_,rfl,rfl,_,rfl,aI (λe4=>?_) (λe4=>?_)⟩
      ·rw[zm,Zr]at e4;exact gK H (aq.refl H) λw=>e4 ((qi _ _ _).mp w).2.1.2
      ·refine ⟨_,rfl,p,t,rfl,hp,by omega,λH1 s1=>⟨_,rfl,aI (λe5=>?_) (λe5=>?_)⟩⟩
       ·rw[zm]at e5;exact gK H1 s1 λw=>by have:=((qi _ _ _).mp w).2.2;rw[e5]at this;cases this
       ·rw[zl]at e5 e2 e4;rw[Zt]at e1 e2 e3 e4;have aO:iR y x t=true:=(qi _ _ _).mpr ⟨⟨e1,e2⟩,⟨e3,e4⟩,e5⟩;have bS:=hB.same s1;refine ⟨_,rfl,_,rfl,A,B,k,rfl,bS,O,h1,by omega,λH2 s2=>⟨_,rfl,aI (λe6=>?_) (λe6=>?_)⟩⟩
        ·rw[zm]at e6;exact bad _ (VJ O h1 hl aO (Zz e6)) H2 (s1.trans s2)
        ·rw[zl]at e6;have sW:=ZA e6;have bO:=s1.trans s2;have cy:=hB.same bO;refine ⟨_,rfl,p,t,rfl,ag.of (bO _ _ hp),by omega,λt' p3 pt st mH=>?_⟩;have s3:∀o,aq H (aj H2 p3 o):=λo=>aU bO (bO.free mH)
         have f9:=hB.same (s3 (.lst (vi t')));refine ⟨_,rfl,A.b,aE,A.dx,_,_,rfl,f9.bk,aw.cl,aw.dQ,ef _ _ _ _ _,_,rfl,_,_,rfl,rfl,A.r,_,_,.ref ra,rfl,rfl,ag.of f9.cf,ow i9 ZD,ra,nI l,rfl,ag.of (s3 _ _ _ dy),by rw[bR];omega,λl' p4 pl sl oe=>?_⟩;have s4:∀o,aq H (aj (aj H2 p3 (.lst (vi t'))) p4 o):=λo=>aU (s3 _) ((s3 _).free oe)
         have p34:p3≠p4:=λe=>by rw[←e,ao]at oe;cases oe
         refine ⟨p3,p4,t',l',rfl,rfl,ag.of (by rw[aA p34,ao]),ag.of ao,_,rfl,aI (λe7=>?_) (λe7=>?_)⟩
         ·rw[zm,Zr,Ce pt st pl sl]at e7;exact bad _ (VL O h1 hl aO sW e7) _ (s4 _)
         ·rw[zl,Zt,Ce pt st pl sl]at e7;obtain ⟨m,rfl⟩:∃m:Nat,y=m:=⟨y.toNat,by omega⟩;have kr:=KS O h1 hl aO sW e7;have hz:gZ B.rooms k (m:Int)=bF B.rooms (k,m):=by unfold gZ;rw[Zw ZD,zt]
          generalize hH5:aj (aj H2 p3 (.lst (vi t'))) p4 (.lst (vi l'))=H5 at*;have s5:aq H H5:=by rw[←hH5];exact s4 _
          have oC:=hB.same s5;have fin:∀H6,aq H H6->¬(bF B.rooms (k,m)=none/\30<=(b7 B.rooms k).length)->((bF B.rooms (k,m)).any λy=> !y.result.isEmpty)=false->([]:List V).length<=sizeLine/\∀q,H6 q=none->Q (.ref q) (aj H6 q (.lst [])):=λH6 s6 g1 g2=>⟨xQ _,λq hq=>k2 k m l rfl h1 hl rfl aO sW e7 g1 g2 _ q (aU s6 (s6.free hq)) (s6.free hq) ao⟩
          refine ⟨_,rfl,_,rfl,_,rfl,A,B,k,(m:Int),rfl,oC,λH6 s6=>?_⟩;rw[hz];have vW:=s5.trans s6;have sO:=hB.same vW;cases jK:bF B.rooms (k,m) with
          |none=>
           refine ⟨_,rfl,iY ⟨_,rfl,_,rfl,A,B,k,af,rfl,sO,O,vW _ _ hg,λH7 s7=>⟨rfl,_,rfl,aI (λe8=>?_) (λe8=>?_)⟩⟩⟩
           ·have c8:30<=(b7 B.rooms k).length:=by have:=ZA e8;injection this with this;omega
            rw[Zx ⟨jK,c8⟩]at kr;exact bad _ kr H7 (vW.trans s7)
           ·have c8:¬30<=(b7 B.rooms k).length:=λw=>by have:=O.gn k;exact Zz e8 (by rw[show (b7 B.rooms k).length=30 by omega];rfl)
            have RG:=vW.trans s7;refine ⟨_,rfl,_,rfl,_,rfl,A,B,k,(m:Int),rfl,hB.same RG,λH8 s8=>?_⟩;rw[hz,jK];exact ⟨_,rfl,j6 (fin H8 (RG.trans s8) (λw=>c8 w.2) (by rw[jK];rfl))⟩
          |some rm=>
           refine ⟨_,rfl,j6 ?_⟩;refine ⟨_,rfl,_,rfl,_,rfl,A,B,k,(m:Int),rfl,sO,λH8 s8=>?_⟩;rw[hz,jK];have HP:=vW.trans s8;have RH:=hB.same HP;have RI:=HP _ _ hg;obtain ⟨a,hv,il⟩:∃a,cn af (cq (k,m))=some (.ref a)/\fJ aN H8 a rm:=by
            rcases om (k,m) (RH.vG (.inl RI)) with ⟨w,_⟩|⟨w,a,w1,w2,w3⟩
            ·rw[jK]at w;cases w
            ·rw[jK]at w1;cases w1;exact ⟨a,w2,w3⟩
           refine ⟨_,rfl,iY ⟨_,rfl,_,rfl,_,rfl,A,B,k,m,af,a,rfl,RH,.inl RI,hv,λH9 s9=>?_⟩⟩;obtain ⟨dx,o,p1,p2,q5,f1,f2,f3,f4,f5⟩:=il.same s9;have RJ:=HP.trans s9;refine ⟨a,aN,dx,_,_,rfl,f1,aS.cl,aS.u7,GN _ _,q5,_,rfl,.inl (ag.of f5),_,_,rfl,rfl,_,rfl,aI (λe8=>?_) (λe8=>?_)⟩
           ·rw[Zt,bY]at e8;rw[Zw (by rw[jK];exact λw=>nomatch w.1),jK,Zx]at kr
            ·exact bad _ kr H9 RJ
            ·show (!rm.result.isEmpty)=true;cases h:rm.result with
             |nil=>rw[h]at e8;simp at e8
             |cons=>rfl
           ·rw[Zr,bY]at e8;refine fin H9 RJ (by rw[jK];exact λw=>nomatch w.1) ?_;rw[jK];show (!rm.result.isEmpty)=false;cases h:rm.result with
            |nil=>rfl
            |cons=>rw[h]at e8;simp at e8
     ·rw[Zr]at e3;exact ⟨_,rfl,gK H (aq.refl H) λw=>e3 ((qi _ _ _).mp w).2.1.1⟩
   ·rw[Zr]at e1;exact ⟨_,rfl,gK H (aq.refl H) λw=>e1 ((qi _ _ _).mp w).1.1⟩
theorem ahp {R:c9}{k:Nat×Nat}{g:Rm->Rm}(h:bF R k=none):cM (R++ [(k,⟨[],[],[]⟩)]) k g=cM R k g:=by
 have h1:bF (R++ [(k,⟨[],[],[]⟩)]) k=some ⟨[],[],[]⟩:=by have:=Dg R k id;unfold cM at this;rw[h]at this;exact this
 unfold cM;rw[h1,h];simp only;rw[yH];congr 1
 ·have:∀e∈R,(if e.1=k then (e.1,g e.2) else e)=e:=λe he=>Zw (qE h e he)
  rw[yI this,yL]
 ·simp
theorem ahq {R:c9}{k:Nat×Nat}{x:Rm}(hn:(R.map λe=>e.1).Nodup) (h:bF R k=none):((R++ [(k,x)]).map λe=>e.1).Nodup:=by
 rw[yH];refine rD hn λz=>?_
 obtain ⟨e,he,e1⟩:=List.mem_map.mp z;exact qE h e he e1
theorem ahr {R:c9}{k:Nat×Nat}{x:Rm}(h:bF R k=none):bF (R++ [(k,x)]) k=some x:=by
 have:=Dg R k λ_a=>x
 unfold cM at this;rw[h]at this;exact this
theorem ahs {af:List (List bp×V)}{k:List bp}{v:V}(h:cn af k=none):cn (dC af k v) k=some v:=by
 unfold cn at h⊢;rw[xU,zY]at h;have GR:(af.any λkv=>decide (kv.1=k))=false:=by rw[ze];intro z;obtain ⟨kv,fz,e⟩:=zB.mp z;exact h kv fz e
 unfold dC;rw[Zw (by rw[GR];decide),zW,zY.mpr h];simp
noncomputable def aht (K:PySem.W.Frag) (C CM CR:Addr):Sp:=λvs H Q _a=>∃(ρ:Rl) (A:Ad) (B:bc) (z y x:Int) (p:Addr) (t:List Int),vs= [.ref A.b,.int z,.int y,.int x,.ref p]/\bE C CM CR H ρ A B/\Ok B/\Lf ρ H p=some (.lst (vi t))/\t.length<=20/\dF C CM CR H ρ A B Q (.order z y x t)
noncomputable abbrev HQ:Prop:=a7 P w K mg base 5 "order_answer" ["bank","stage","number","side","order"] (aht K aE aM aN)
set_option tactic.hygienic true in
theorem ahu (n:a9 K mg "order_answer" Py) (T:Txt K mg) (aw:b6 K mg aE) (aL:bZ K mg aM) (aS:cp K mg aN) (HR:HM) (f7:oz) (lC:vJ) (HS:Q5) (sX:B1) (mE:vM):HQ:=by
  refine bf ["bank","stage","number","side","order","refusal","room"] n λf aK A aJ s H vs Q E hr nd hu h=>?_
  obtain ⟨ρ,A,B,z,y,x,p,t,rfl,F,O,hp,ht,dn⟩:=h;refine ⟨_,(aB (bj 5 nd (aD HR hr (au (pv 0) (au (pv 1) (au (pv 2) (au (pv 3) (ai (pv 4))))))))
   (aB (aX (bz fF (bJ K T.bG (pv 5)) aH) (aC (aF (pv 5))) aZ)
   (aB (aX (cJ (cN (aD lC hr (au (pv 0) (au (pv 1) (ai (pv 2))))))) (aC (M7 hu (aP K (pv 0)) (lY (au (pv 1) (ai (pv 2)))) (Fj HS hr) rfl)) aZ)
   (aB (bj 6 nd (aD f7 hr (au (pv 0) (au (pv 1) (ai (pv 2))))))
   (aB (LL (pv 4) (LK (aP K (pv 6)) (pv 3) Ef))
   (aC (aF (aW (ai (DE (cN (aD sX hr (ai (pv 6)))) (aD mE hr (au (pv 0) (au (pv 1) (ai (pv 2))))) aH)))))))))),?_⟩
  have hB:=F.cQ;have i7:=(Lf.at hp).1;obtain ⟨af,hg,RK,hnk⟩:=F.hg;refine ⟨_,rfl,_,rfl,_,rfl,_,rfl,_,rfl,A,B,z,y,x,p,t,af,rfl,hB,O,hg,i7,ht,λn e H1 pr s1 mL hP=>?_,λk m l hk h1 hl hm aO sW RL RM tV H1 pr s1 mL hP=>?_⟩
  ·exact ⟨_,rfl,pr,_,rfl,.inl (ag.of hP),_,_,rfl,rfl,_,rfl,iY ⟨_,rfl,dn.no F O e H1 pr s1 mL hP⟩⟩
  subst hk hm;refine ⟨_,rfl,pr,_,rfl,.inl (ag.of hP),_,_,rfl,rfl,_,rfl,j6 ?_⟩;have kr:=KS O h1 hl aO sW RL;rw[Zw RM,Zw (by rw[tV];decide)]at kr;obtain ⟨⟨m0,m99⟩,⟨x0,x1⟩,_⟩:=(qi _ _ _).mp aO;have O9:=VM (s:=x) O h1 hl ZD sW RL RM tV;have Cf:Vbdbag.ints (t.map Int.toNat)=t:=qC (Dm aO) ZE;have hz:gZ B.rooms k (m:Int)=bF B.rooms (k,m):=by unfold gZ;rw[Zw ZD,zt]
  have F1:=F.same s1;have bS:=F1.cQ;refine ⟨_,rfl,_,rfl,_,rfl,A,B,k,(m:Int),rfl,bS,λH2 s2=>?_⟩;rw[hz];have bO:=s1.trans s2;have vX:=F.same bO;cases iL:bF B.rooms (k,m)
  case' none=>
   refine ⟨_,rfl,iY λa RN vY ahv bQ=>⟨a,RN,rfl,ao,λH5 o p1 p2 q5 h5 no vH vI nq5 o1 o2 o3 ho ahx Cb ahy keep=>⟨rfl,?_⟩⟩⟩;obtain ⟨ox,no2⟩:=bK no;obtain ⟨_,oH⟩:=bK no2;obtain ⟨p1x,ahB⟩:=bK vH;obtain ⟨_,p1H⟩:=bK ahB;obtain ⟨p2x,ahE⟩:=bK vI;obtain ⟨_,p2H⟩:=bK ahE;obtain ⟨q5x,ahH⟩:=bK nq5;obtain ⟨_,q5H⟩:=bK ahH;have qh:aq H2 H5:=λb u e=>keep b u (by rw[aA (b8 e vY),aA (b8 e ahv)];exact e) (b8 e vY)
   have r5:∀b,b≠a->b≠o->cA (cA ρ a 7) o (100+a) b=ρ b:=λb b1 b2=>by unfold cA;rw[Zw b2,Zw b1]
   have rx:cA (cA ρ a 7) o (100+a) a=7:=by unfold cA;rw[Zw (xR ox),Zx rfl]
   have ro:cA (cA ρ a 7) o (100+a) o=100+a:=Hn o _;have F5:bE aE aM aN H5 (cA (cA ρ a 7) o (100+a)) A B:=vX.GP qh (λb hb=>r5 b (λe=>hb (by rw[e];exact vY)) (λe=>hb (by rw[e];exact oH))) λb hb=>by
    by_cases e1:b=a
    ·rw[e1,h5];exact λw=>nomatch w
    ·by_cases e2:b=o
     ·rw[e2,ho];exact λw=>nomatch w
     ·rw[r5 b e1 e2]at hb;have:=vX.iJ b hb;cases e:H2 b with
      |none=>exact absurd e this
      |some u=>rw[qh _ _ e];exact λw=>nomatch w
   have qU:Fr ρ H (cA (cA ρ a 7) o (100+a)) H5:=λb u e h0=>by have e2:=bO _ _ e;exact ⟨qh _ _ e2,by rw[r5 b (b8 e2 vY) (b8 e2 oH)];exact h0⟩
   have z5:∀{b:Addr},H2 b=none->b≠a->b≠o->cA (cA ρ a 7) o (100+a) b=0:=λhb b1 b2=>by rw[r5 _ b1 b2];exact vX.free hb
   have hRx:ij aN H5 (cA (cA ρ a 7) o (100+a)) a ⟨[],[],[]⟩:=⟨rx,RN,o,p1,p2,q5,h5,ro,ho,Lf.of ahx (z5 p1H p1x (xR o1)),Lf.of Cb (z5 p2H p2x (xR o2)),Lf.of ahy (z5 q5H q5x (xR o3))⟩;have oC:=F5.cQ;refine ⟨_,rfl,A.b,aE,A.dx,_,_,rfl,oC.bk,aw.cl,aw.nU,pX _ _ _ _ _,_,rfl,_,rfl,by show 2<=sizeLine;decide,λtt htt=>?_⟩;have s6:=bU (o:= .bP [.int (k:Int),.int (m:Int)]) htt;have F6:=F5.same s6;have RO:ij aN (aj H5 tt (.bP [.int (k:Int),.int (m:Int)])) (cA (cA ρ a 7) o (100+a)) a ⟨[],[],[]⟩:=by obtain ⟨g0,gd,go,gp1,gp2,gq,g1,g2,g3,g4,g5,g6⟩:=hRx;have HU:=(Fr.of (ρ:=cA (cA ρ a 7) o (100+a)) s6).lf;exact ⟨g0,gd,go,gp1,gp2,gq,s6 _ _ g1,g2,s6 _ _ g3,HU _ _ g4,HU _ _ g5,HU _ _ g6⟩
   have vZ:=s6 _ _ (qh _ _ (bO _ _ hg));have hf6:∀kv∈af,kv.2≠ .ref a:=λkv fz e=>by obtain ⟨i,hi⟩:=yg fz;obtain ⟨en,_,_,a',e',hR'⟩:=n8 RK hi;obtain ⟨_,_,_,_,_,_,f1,_⟩:=hR';rw[e']at e;have:a'=a:=V.ref.inj e;rw[this]at f1;have:=bO _ _ f1;rw[vY]at this;cases this
   have F2:=F6.afp (k:=(k,m)) vZ iL RO hf6;have Ga:cn af (cq (k,m))=none:=by
    rcases om (k,m) (hB.vG (.inl hg)) with ⟨_,w⟩|⟨w,_,w1,_⟩
    ·exact w
    ·rw[iL]at w1;cases w1
   have kg:dc A.g (aj H5 tt (.bP [.int (k:Int),.int (m:Int)])) (cA (cA ρ a 7) o (100+a)) (aj (aj H5 tt (.bP [.int (k:Int),.int (m:Int)])) A.g (.dT (dC af (cq (k,m)) (.ref a)))) (cA (cA ρ a 7) o (100+a)):=gX (by rw[F6.pg];decide);have sY:Fr ρ H (cA (cA ρ a 7) o (100+a)) (aj (aj H5 tt (.bP [.int (k:Int),.int (m:Int)])) A.g (.dT (dC af (cq (k,m)) (.ref a)))):=qU.trans ((Fr.of s6).trans kg.fr);have HV:∀q,aj (aj H5 tt (.bP [.int (k:Int),.int (m:Int)])) A.g (.dT (dC af (cq (k,m)) (.ref a))) q=none->H q=none:=λq hq=>bO.free (qh.free (bK (bK hq).2).2)
   have hxg:a≠A.g:=λe=>by have:=F6.pg;rw[←e,rx]at this;cases this
   have Cg:ij aN (aj (aj H5 tt (.bP [.int (k:Int),.int (m:Int)])) A.g (.dT (dC af (cq (k,m)) (.ref a)))) (cA (cA ρ a 7) o (100+a)) a ⟨[],[],[]⟩:=kg.room RO hxg (by rw[F6.pg];omega);have Ci:aj (aj H5 tt (.bP [.int (k:Int),.int (m:Int)])) A.g (.dT (dC af (cq (k,m)) (.ref a))) A.g=some (.dT (dC af (cq (k,m)) (.ref a))):=ao;have HW:cn (dC af (cq (k,m)) (.ref a)) (cq (k,m))=some (.ref a):=ahs Ga;have mz:bF (B.rooms++ [((k,m),⟨[],[],[]⟩)]) (k,m)=some ⟨[],[],[]⟩:=ahr iL;have j2:((B.rooms++ [((k,m),(⟨[],[],[]⟩:Rm))]).map λe=>e.1).Nodup:=ahq O.gk iL;have uw:cM (B.rooms++ [((k,m),⟨[],[],[]⟩)]) (k,m) (dI x (t.map Int.toNat))=cM B.rooms (k,m) (dI x (t.map Int.toNat)):=ahp iL;refine ⟨A.g,_,rfl,rA.t (k:=cq (k,m)) vZ ao ?_,?_⟩
   ·have Q6:=O.qB;have lr:=Paired.length RK;exact dv ZD
   generalize aj (aj H5 tt (.bP [.int (k:Int),.int (m:Int)])) A.g (.dT (dC af (cq (k,m)) (.ref a)))=Hx at*;generalize B.rooms++ [((k,m),(⟨[],[],[]⟩:Rm))]=R2 at*;obtain ⟨rm,RP⟩:∃rm:Rm,rm=⟨[],[],[]⟩:=⟨_,rfl⟩;have oO:rm=(bF B.rooms (k,m)).getD ⟨[],[],[]⟩:=by rw[iL,RP];rfl
   rw[←RP]at mz Cg;generalize dC af (cq (k,m)) (.ref a)=anl at*;generalize cA (cA ρ a 7) o (100+a)=cY at*
  case' some rm=>
   refine ⟨_,rfl,j6 ?_⟩;have sY:Fr ρ H ρ H2:=Fr.of bO;have HV:∀q,H2 q=none->H q=none:=λq hq=>bO.free hq
   have Ci:=bO _ _ hg;obtain ⟨a,HW,Cg⟩:∃a,cn af (cq (k,m))=some (.ref a)/\ij aN H2 ρ a rm:=by
    obtain ⟨kv2,w1,w2,_⟩:=vX.hg;rw[Ci]at w1;cases w1;obtain ⟨i,hi⟩:=yg (mV iL);obtain ⟨kv,fz,sE,a,HX,HY⟩:=hU w2 hi;have vO:(af.map λz=>z.1).Nodup:=by rw[BU w2];exact vz (λx y z=>sA z) O.gk
    have HZ:af[i]? =some (cq (k,m),.ref a):=by rw[fz];exact Zo some (xY sE HX)
    exact ⟨a,vo vO HZ,HY⟩
   have mz:=iL;have j2:=O.gk;have uw:cM B.rooms (k,m) (dI x (t.map Int.toNat))=cM B.rooms (k,m) (dI x (t.map Int.toNat)):=rfl;have oO:rm=(bF B.rooms (k,m)).getD ⟨[],[],[]⟩:=by rw[iL];rfl
   obtain ⟨R2,eS⟩:∃R2,R2=B.rooms:=⟨_,rfl⟩;have F2:bE aE aM aN H2 ρ A {B with rooms:=R2}:=by rw[eS];exact vX
   rw[←eS]at mz j2;have uw:cM R2 (k,m) (dI x (t.map Int.toNat))=cM B.rooms (k,m) (dI x (t.map Int.toNat)):=by rw[eS]
   clear eS;obtain ⟨cY,jM⟩:∃cY,cY=ρ:=⟨_,rfl⟩;have sY:Fr ρ H cY H2:=by rw[jM];exact sY
   rw[←jM]at F2 Cg;clear jM
  all_goals
   refine ⟨_,rfl,_,rfl,_,rfl,A,_,k,m,_,a,rfl,F2.cQ,.inl Ci,HW,λH7 s7=>?_⟩;have F7:=F2.same s7;obtain ⟨pa,oE,oo,v8,v9,qq5,f1,f0,f2,f3,f4,f5⟩:=Cg;have qj:=(Fr.of (ρ:=cY) s7).lf;have ahR:([.ref v8,.ref v9]:List V).set x.toNat (.ref p)= [.ref (if x=0 then p else v8),.ref (if x=0 then v9 else p)]:=by rcases (show x=0\/x=1 by omega) with e|e<;>subst e<;>rfl
   have k8:∀ob,dc oo H7 cY (aj H7 oo ob) cY:=λob=>gX (by rw[f0];omega)
   have oa:a≠oo:=λe=>by rw[←e,pa]at f0;omega
   have RQ:Lf cY H7 p=some (.lst (vi (nI (t.map Int.toNat)))):=by show _=some (HO.lst (vi (Vbdbag.ints (t.map Int.toNat))));rw[Cf];exact qj _ _ (sY.lf _ _ hp)
   have Cj:ij aN (aj H7 oo (.lst (([.ref v8,.ref v9]:List V).set x.toNat (.ref p)))) cY a (dI x (t.map Int.toNat) rm):=by
    refine ⟨pa,oE,oo,if x=0 then p else v8,if x=0 then v9 else p,qq5,by rw[aA oa];exact s7 _ _ f1,f0,by rw[ao,ahR],?_,?_,?_⟩
    ·refine (k8 _).fr.lf _ _ ?_;unfold dI;by_cases e:x=0
     ·rw[Zx e,Zx e];exact RQ
     ·rw[Zw e,Zw e];exact qj _ _ f3
    ·refine (k8 _).fr.lf _ _ ?_;unfold dI;by_cases e:x=0
     ·rw[Zx e,Zx e];exact qj _ _ f4
     ·rw[Zw e,Zw e];exact RQ
    ·refine (k8 _).fr.lf _ _ ?_;unfold dI;by_cases e:x=0
     ·rw[Zx e];exact qj _ _ f5
     ·rw[Zw e];exact qj _ _ f5
   have F8:=F7.QZ (g:=dI x (t.map Int.toNat)) (s7 _ _ Ci) HW mz j2 (.inr f0) Cj;have F8:bE aE aM aN (aj H7 oo (.lst (([.ref v8,.ref v9]:List V).set x.toNat (.ref p)))) cY A {B with rooms:=cM B.rooms (k,m) (dI x (t.map Int.toNat))}:=by rw[←uw];exact F8
   have H0:bF (cM B.rooms (k,m) (dI x (t.map Int.toNat))) (k,m)=some (dI x (t.map Int.toNat) rm):=by rw[Dg,←oO]
   rw[H0]at kr;have RR:(dI x (t.map Int.toNat) rm).one.Nodup:=by obtain ⟨_,_,l0,_,vN,ahS⟩:=O9.room H0;exact (ahS.nd vN).1
   refine ⟨_,rfl,_,rfl,a,aN,oE,_,_,rfl,s7 _ _ f1,aS.cl,aS.rR,vA _ _,_,rfl,oo,_,x,x.toNat,rfl,rfl,s7 _ _ f2,?_,?_⟩
   ·unfold jr;rw[Zx x0,Zx (by show x<2;exact x1)]
   ·refine ⟨_,rfl,a,dI x (t.map Int.toNat) rm,rfl,Cj.at,λH9 s9=>⟨_,rfl,aI (λc=>?_) (λc=>?_)⟩⟩
    ·refine ⟨_,rfl,_,rfl,_,rfl,A,_,k,m,dI x (t.map Int.toNat) rm,rfl,F8.cQ.same s9,O9,H0,c,λMZ jw=>⟨cj,λq hq=>?_⟩⟩;have iM:=(s9.trans jw).free hq;refine dn _ cY A _ q rfl (F8.same (aU (s9.trans jw) iM)) O9 ?_ (sY.trans ((Fr.of s7).trans ((k8 _).fr.trans (Fr.of (aU (s9.trans jw) iM))))) ?_ (F8.free iM) ?_
     ·rw[kr]
     ·exact HV _ (s7.free (bK iM).2)
     ·rw[ao,kr];simp only[xS];rw[oR RR,Zx c];rfl
    ·refine ⟨cj,λq hq=>?_⟩;have iM:=s9.free hq;refine dn _ cY A _ q rfl (F8.same (aU s9 iM)) O9 ?_ (sY.trans ((Fr.of s7).trans ((k8 _).fr.trans (Fr.of (aU s9 iM))))) ?_ (F8.free iM) ?_
     ·rw[kr]
     ·exact HV _ (s7.free (bK iM).2)
     ·rw[ao,kr];simp only[xS];rw[oR RR,Zw (by rw[c];decide)];rfl
noncomputable def ahT (K:PySem.W.Frag) (C CM CR:Addr):Sp:=λvs H Q _a=>∃(A:Ad) (B:bc) (z y:Int),vs= [.ref A.b,.int z,.int y]/\cP C CM CR H A B/\Ok B/\
 (¬(1<=z/\z<=(B.rs.length:Int))->dO H Q [.int (-6)])/\(∀(k:Nat) (l:List Nat),z=k->1<=k->B.rs[k - 1]? =some l->gZ B.rooms k y=none->dO H Q [.int (-6)])/\
 (∀(k m:Nat) (l:List Nat) (x:Rm),z=k->y=m->1<=k->B.rs[k - 1]? =some l->bF B.rooms (k,m)=some x->fk x=false->dO H Q [.int (-5)])/\
 (∀(k m:Nat) (l:List Nat) (x:Rm),z=k->y=m->1<=k->B.rs[k - 1]? =some l->bF B.rooms (k,m)=some x->fk x=true->dO H Q [])
noncomputable abbrev Ck:Prop:=a7 P w K mg base 2 "debate_refusal" ["bank","stage","number"] (ahT K aE aM aN)
theorem ahU (n:a9 K mg "debate_refusal" Pz) (T:Txt K mg) (aw:b6 K mg aE) (aL:bZ K mg aM) (aS:cp K mg aN) (sX:B1) (ip:pZ) (lC:vJ) (f7:oz):Ck:=by
  refine bf ["bank","stage","number"] n λf aK A aJ s H vs Q E hr nd hu h=>?_
  obtain ⟨A,B,z,y,rfl,hB,O,k1,k2,k3,k4⟩:=h;refine ⟨_,(aB (aX (PW.pt (gM (cJ (cN (aD ip hr (au (pv 0) (ai (pv 1)))))) (iE (cJ (cN (aD lC hr (au (pv 0) (au (pv 1) (ai (pv 2)))))))))) (aC (aF (aW (ai (aR T.jD))))) aZ)
   (aB (aX (cJ (cN (aD sX hr (ai (aD f7 hr (au (pv 0) (au (pv 1) (ai (pv 2))))))))) (aC (aF (aW (ai (aR T.aco))))) aZ)
   (aC (aF (aW cW))))),?_⟩
  refine ⟨_,rfl,_,rfl,A,B,z,rfl,hB,_,rfl,aI (λc=>?_) (λc=>?_)⟩
  ·rw[zm,Zr]at c;exact ⟨cj,λq hq=>(k1 c).one (aq.refl H) hq⟩
  ·rw[zl,Zt]at c;obtain ⟨k,rfl,h1,h2⟩:=mP c;obtain ⟨l,hl⟩:∃l,B.rs[k - 1]? =some l:=⟨_,yb h2⟩;refine ⟨_,rfl,_,rfl,_,rfl,A,B,k,y,rfl,hB,λH1 s1=>?_⟩;cases hz:gZ B.rooms k y with
   |none=>exact ⟨_,rfl,iY ⟨cj,λq hq=>(k2 k l rfl h1 hl hz).one s1 hq⟩⟩
   |some x=>
    obtain ⟨m,rfl,hx⟩:=VA hz;have bS:=hB.same s1;obtain ⟨af,hg,hP⟩:=bS.oj;obtain ⟨a,hv,il⟩:∃a,cn af (cq (k,m))=some (.ref a)/\fJ aN H1 a x:=by
     rcases om (k,m) hP with ⟨w,_⟩|⟨w,a,w1,w2,w3⟩
     ·rw[hx]at w;cases w
     ·rw[hx]at w1;cases w1;exact ⟨a,w2,w3⟩
    refine ⟨_,rfl,j6 ?_⟩;refine ⟨_,rfl,_,rfl,_,rfl,A,B,k,m,af,a,rfl,bS,hg,hv,λH2 s2=>?_⟩;have bO:=s1.trans s2;refine ⟨a,x,rfl,il.same s2,λH3 s3=>⟨_,rfl,aI (λc2=>?_) (λc2=>?_)⟩⟩
    ·rw[zm]at c2;exact ⟨cj,λq hq=>(k3 k m l x rfl rfl h1 hl hx c2).one (bO.trans s3) hq⟩
    ·rw[zl]at c2;exact ⟨xQ _,λq hq=>k4 k m l x rfl rfl h1 hl hx c2 _ q (aU (bO.trans s3) ((bO.trans s3).free hq)) ((bO.trans s3).free hq) ao⟩
noncomputable def ahV (K:PySem.W.Frag) (C CM CR:Addr):Sp:=λvs H Q _a=>∃(ρ:Rl) (A:Ad) (B:bc) (z y:Int),vs= [.ref A.b,.int z,.int y]/\bE C CM CR H ρ A B/\Ok B/\dF C CM CR H ρ A B Q (.debate z y)
noncomputable abbrev Ia:Prop:=a7 P w K mg base 4 "debate_answer" ["bank","stage","number"] (ahV K aE aM aN)
theorem ahW (n:a9 K mg "debate_answer" PB) (T:Txt K mg) (aw:b6 K mg aE) (aL:bZ K mg aM) (aS:cp K mg aN) (sZ:Ck) (sG:B5) (f7:oz) (dE:ki) (mE:vM) (sF:B4):Ia:=by
  refine bf ["bank","stage","number","refusal","left"] n λf aK A aJ s H vs Q E hr nd hu h=>?_
  obtain ⟨ρ,A,B,z,y,rfl,F,O,dn⟩:=h;refine ⟨_,(aB (bj 3 nd (aD sZ hr (au (pv 0) (au (pv 1) (ai (pv 2))))))
   (aB (aX (bz fF (bJ K T.bG (pv 3)) aH) (aC (aF (pv 3))) aZ)
   (aB (bj 4 nd (aD sG hr (ai (aD f7 hr (au (pv 0) (au (pv 1) (ai (pv 2))))))))
   (aC (aF (bx fV (aW (au (aD mE hr (au (pv 0) (au (pv 1) (ai (pv 2))))) (ai (aD sF hr (au (pv 0) (au (pv 1) (ai (pv 2)))))))) (aD dE hr (ai (pv 4))))))))),?_⟩
  have hB:=F.cQ;refine ⟨_,rfl,_,rfl,_,rfl,A,B,z,y,rfl,hB,O,λc=>?_,λk l hk h1 hl hz=>?_,λk m l x hk hm h1 hl hx hb=>?_,λk m l x hk hm h1 hl hx hb=>?_⟩
  ·intro H1 p s1 hp hP;refine ⟨_,rfl,p,_,rfl,.inl (ag.of hP),_,_,rfl,rfl,_,rfl,iY ⟨_,rfl,dn.no F O (Vy c) H1 p s1 hp hP⟩⟩
  ·subst hk;intro H1 p s1 hp hP;refine ⟨_,rfl,p,_,rfl,.inl (ag.of hP),_,_,rfl,rfl,_,rfl,iY ⟨_,rfl,dn.no F O (Vz h1 hl hz) H1 p s1 hp hP⟩⟩
  ·subst hk hm;intro H1 p s1 hp hP;have hd:=KO O h1 hl hx;rw[Zw (by rw[hb];decide)]at hd;refine ⟨_,rfl,p,_,rfl,.inl (ag.of hP),_,_,rfl,rfl,_,rfl,iY ⟨_,rfl,dn.no F O hd H1 p s1 hp hP⟩⟩
  ·subst hk hm;intro H1 p s1 hp hP;have hd:=KO O h1 hl hx;rw[Zx hb]at hd;refine ⟨_,rfl,p,_,rfl,.inl (ag.of hP),_,_,rfl,rfl,_,rfl,j6 ?_⟩;have bS:=hB.same s1;obtain ⟨af,hg,hPr⟩:=bS.oj;obtain ⟨a,hv,il⟩:∃a,cn af (cq (k,m))=some (.ref a)/\fJ aN H1 a x:=by
    rcases om (k,m) hPr with ⟨w,_⟩|⟨w,a,w1,w2,w3⟩
    ·rw[hx]at w;cases w
    ·rw[hx]at w1;cases w1;exact ⟨a,w2,w3⟩
   obtain ⟨_,_,l0,G3,vN,aO⟩:=O.room hx;have g9:=hb;unfold fk at g9;simp only[za,zm,yq]at g9;have bW:x.one.length<=5:=by rw[(aO.one.resolve_left g9.1).length_eq];exact (O.jS (yY G3)).2
   have ik:(di x.one x.two).length<=5:=xE (wX _ _).length_le bW;refine ⟨_,rfl,_,rfl,_,rfl,A,B,k,m,af,a,rfl,bS,hg,hv,λH2 s2=>?_⟩;have bO:=s1.trans s2;refine ⟨a,x,rfl,il.same s2,g9.1,g9.2,by omega,λH3 pl s3 dj iK=>?_⟩;have i6:=bO.trans s3;refine ⟨_,rfl,_,rfl,_,rfl,A,B,k,m,x,rfl,hB.same i6,O,hx,hb,λH4 s4=>?_⟩;have ko:=i6.trans s4;refine ⟨_,rfl,_,rfl,_,rfl,A,B,k,m,rfl,hB.same ko,O,λH5 s5=>⟨by show 2<=sizeLine;decide,λq hq=>?_⟩⟩;have vT:=ko.trans s5;have RS:=(s4.trans s5) _ _ iK;have s6:∀o,aq H (aj H5 q o):=λo=>aU vT (vT.free hq)
   have plq:pl≠q:=b8 RS hq;refine ⟨_,rfl,pl,nI (di x.one x.two),rfl,by rw[aA plq];exact RS,by rw[bR];omega,λH7 q7 s7 hq7 hQ7=>?_⟩;refine ⟨q,q7,_,_,rfl,rfl,s7 _ _ ao,hQ7,?_,λr hr=>?_⟩
   ·simp only[yu,yB,yA,bR];exact eQ ZD
   ·have s8:=(s6 _).trans s7;refine dn.ret F O hd _ r (aU s8 (s8.free hr)) (s8.free hr) ?_;rw[ao,vV,bR,dw];rfl
theorem ah0 (v o q:V):cT "result" v (jJ o q)=jJ o v:=rfl
noncomputable def ah1 (K:PySem.W.Frag) (C CM CR:Addr):Sp:=λvs H Q _a=>∃(ρ:Rl) (A:Ad) (B:bc) (z y:Int) (p:Addr) (t:List Int),vs= [.ref A.b,.int z,.int y,.ref p]/\bE C CM CR H ρ A B/\Ok B/\Lf ρ H p=some (.lst (vi t))/\t.length<=20/\dF C CM CR H ρ A B Q (.result z y t)
noncomputable abbrev Ib:Prop:=a7 P w K mg base 3 "result_answer" ["bank","stage","number","places"] (ah1 K aE aM aN)
theorem ah2 (n:a9 K mg "result_answer" PD) (T:Txt K mg) (aw:b6 K mg aE) (aL:bZ K mg aM) (aS:cp K mg aN) (sZ:Ck) (f7:oz) (tj:B7) (cG:ia):Ib:=by
  refine bf ["bank","stage","number","places","refusal","room"] n λf aK A aJ s H vs Q E hr nd hu h=>?_
  obtain ⟨ρ,A,B,z,y,p,t,rfl,F,O,hp,ht,dn⟩:=h;refine ⟨_,(aB (bj 4 nd (aD sZ hr (au (pv 0) (au (pv 1) (ai (pv 2))))))
   (aB (aX (bz fF (bJ K T.bG (pv 4)) aH) (aC (aF (pv 4))) aZ)
   (aB (aX (bz (NX (K:=K) hr.units) (fw (Ff (K:=K)) (by rfl) T.Fv EZ (ai (pv 3))) (nF NT (by rfl) T.u6 uR (au (nF abZ (by rfl) T.j8 Nz (ai (aD cG hr (au (aP K (pv 0)) (ai dY))))) cW))) (aC (aF (aW (ai (aR T.k9))))) aZ)
   (aB (bj 5 nd (aD f7 hr (au (pv 0) (au (pv 1) (ai (pv 2))))))
   (aB (eP (pv 5) (pv 3) rfl)
   (aC (aF (aW (ai (aD tj hr (ai (pv 3)))))))))))),?_⟩
  have hB:=F.cQ;have i7:=(Lf.at hp).1;refine ⟨_,rfl,_,rfl,_,rfl,A,B,z,y,rfl,hB,O,λc=>?_,λk l hk h1 hl hz=>?_,λk m l x hk hm h1 hl hx hb=>?_,λk m l x hk hm h1 hl hx hb=>?_⟩
  ·intro H1 pr s1 mL hP;refine ⟨_,rfl,pr,_,rfl,.inl (ag.of hP),_,_,rfl,rfl,_,rfl,iY ⟨_,rfl,dn.no F O (VB c) H1 pr s1 mL hP⟩⟩
  ·subst hk;intro H1 pr s1 mL hP;refine ⟨_,rfl,pr,_,rfl,.inl (ag.of hP),_,_,rfl,rfl,_,rfl,iY ⟨_,rfl,dn.no F O (VC h1 hl hz) H1 pr s1 mL hP⟩⟩
  ·subst hk hm;intro H1 pr s1 mL hP;refine ⟨_,rfl,pr,_,rfl,.inl (ag.of hP),_,_,rfl,rfl,_,rfl,iY ⟨_,rfl,dn.no F O (VD O h1 hl hx hb) H1 pr s1 mL hP⟩⟩
  ·subst hk hm;intro H1 pr s1 mL hP;refine ⟨_,rfl,pr,_,rfl,.inl (ag.of hP),_,_,rfl,rfl,_,rfl,j6 ?_⟩;have bS:=hB.same s1;have hsz:=tL O.wt;refine ⟨_,rfl,p,t,rfl,ag.of (s1 _ _ i7),by omega,λt' p3 pt st mH=>?_⟩;have s3:∀o,aq H (aj H1 p3 o):=λo=>aU s1 (s1.free mH)
   have f9:=hB.same (s3 (.lst (vi t')));refine ⟨_,rfl,A.b,aE,A.dx,_,_,rfl,f9.bk,aw.cl,aw.d7,gy _ _ _ _ _,A.d,.size,B.T,rfl,rfl,f9.told.r,O.wt,λH4 s4=>?_⟩;have ko:=(s3 (.lst (vi t'))).trans s4;refine ⟨(aG B.T .size:Int),rfl,λrg BK=>⟨rg,0,(aG B.T .size:Int),rfl,ao,by omega,by omega,by omega,by omega,λl5 qe=>?_⟩⟩;obtain ⟨n1,n2⟩:=bK qe;have s5:∀o o',aq H (aj (aj H4 rg o) l5 o'):=λo o'=>aU (aU ko (ko.free BK)) (ko.free n2)
   have gW:∀o o',aq H4 (aj (aj H4 rg o) l5 o'):=λo o'=>aU (bU BK) n2
   have er:k7 0 ((aG B.T .size:Int) - 0).toNat=g7 (aG B.T .size):=by
    unfold k7 g7 Vbdbag.ints;rw[show ((aG B.T .size:Int) - 0).toNat=aG B.T .size by omega];refine yI λj _a=>?_
    omega
   have RT:(g7 (aG B.T .size)).Pairwise (·<= ·):=by unfold g7 Vbdbag.ints;rw[xh];exact List.pairwise_lt_range.imp λh=>by omega
   rw[er];refine ⟨p3,l5,t',g7 (aG B.T .size),rfl,rfl,ag.of (gW _ _ _ _ (s4 _ _ ao)),ag.of ao,_,rfl,aI (λe7=>?_) (λe7=>?_)⟩
   ·rw[zm,Zr,Ce pt st (zu _) RT]at e7;exact ⟨cj,λq hq=>(dn.no F O (VE O h1 hl hx hb e7)).one (s5 _ _) hq⟩
   ·rw[zl,Zt,Ce pt st (zu _) RT]at e7;have hd:=VF O h1 hl hx hb e7;have O9:=VG O hx hb e7;have bW:t.length=aG B.T .size:=by rw[e7.length_eq];unfold g7;rw[bR,yC]
    have Cf:Vbdbag.ints (t.map Int.toNat)=t:=Dj t λw hw=>by have:=e7.mem_iff.mp hw;obtain ⟨j,_,rfl⟩:=List.mem_map.mp this;omega
    generalize hH6:aj (aj H4 rg (.gK 0 (aG B.T .size:Int))) l5 (.lst (vi (g7 (aG B.T .size))))=H6 at*;have s6:aq H H6:=by rw[←hH6];exact s5 _ _
    have F6:=F.same s6;have sO:=F6.cQ;obtain ⟨af,vZ,wa,anp⟩:=F6.hg;obtain ⟨a,hv,il⟩:∃a,cn af (cq (k,m))=some (.ref a)/\ij aN H6 ρ a x:=by
     obtain ⟨i,hi⟩:=yg (mV hx);obtain ⟨kv,fz,sE,a,HX,HY⟩:=hU wa hi;have vO:(af.map λz=>z.1).Nodup:=by rw[BU wa];exact vz (λx y z=>sA z) O.gk
     have HZ:af[i]? =some (cq (k,m),.ref a):=by rw[fz];exact Zo some (xY sE HX)
     exact ⟨a,vo vO HZ,HY⟩
    refine ⟨_,rfl,_,rfl,_,rfl,A,B,k,m,af,a,rfl,sO,.inl vZ,hv,λH7 s7=>?_⟩;have F7:=F6.same s7;have qj:aq (Lf ρ H) (Lf ρ H7):=(Fr.of (s6.trans s7)).lf;obtain ⟨pa,oE,o,p1,p2,q5,f1,f0,f2,f3,f4,f5⟩:=il;have RU:aq (Lf ρ H6) (Lf ρ H7):=(Fr.of s7).lf;have k8:dc a H7 ρ (aj H7 a (.ins aN oE (jJ (.ref o) (.ref p)))) ρ:=gX (by rw[pa];decide);have oa:o≠a:=λe=>by rw[e,pa]at f0;omega
    have Cj:ij aN (aj H7 a (.ins aN oE (jJ (.ref o) (.ref p)))) ρ a {x with result:=t.map Int.toNat}:=by refine ⟨pa,oE,o,p1,p2,p,ao,f0,by rw[aA oa];exact s7 _ _ f2,k8.fr.lf _ _ (RU _ _ f3),k8.fr.lf _ _ (RU _ _ f4),?_⟩;show Lf ρ _ p=some (.lst (vi (Vbdbag.ints (t.map Int.toNat))));rw[Cf];exact k8.fr.lf _ _ (qj _ _ hp)
    have F8:=F7.QZ (g:=λy=>{y with result:=t.map Int.toNat}) (s7 _ _ vZ) hv hx O.gk (.inl ⟨pa,rfl⟩) Cj;refine ⟨_,rfl,_,rfl,a,aN,oE,_,rfl,s7 _ _ f1,aS.cl,aS.u7,(by show 2<1000;decide),?_⟩;rw[ah0];have hpa:p≠a:=λe=>by have:=(Lf.at hp).2;rw[e,pa]at this;cases this
    have hp8:aj H7 a (.ins aN oE (jJ (.ref o) (.ref p))) p=some (.lst (vi (nI (t.map Int.toNat)))):=by rw[aA hpa];show _=some (HO.lst (vi (Vbdbag.ints (t.map Int.toNat))));rw[Cf];exact (s6.trans s7) _ _ i7
    refine ⟨_,rfl,p,t.map Int.toNat,rfl,hp8,by rw[yA];omega,λH9 s9=>⟨cj,λq hq=>?_⟩⟩;have iM:=s9.free hq;have jw:=aU (o:= .lst [.int (fQ (t.map Int.toNat):Nat)]) s9 iM;refine dn _ ρ A _ q rfl (F8.same jw) O9 ?_ ((Fr.of (s6.trans s7)).trans (k8.fr.trans (Fr.of jw))) ?_ (F8.free iM) ?_
    ·rw[hd]
    ·exact (s6.trans s7).free (bK iM).2
    ·rw[ao,hd,K2 (by rw[yA];exact bW)];rfl
noncomputable def ah6 (K:PySem.W.Frag):Sp:=λvs H Q _a=>∃(n:Nat),vs= [.int n]/\n<10^500/\dO H Q (vi (((Vbdbag.decimal n).length:Int)::nI (Vbdbag.decimal n)))
noncomputable abbrev Cm:Prop:=a7 P w K mg base 3 "decimal_row" ["number"] (ah6 K)
theorem ah7 (n:a9 K mg "decimal_row" PF) (T:Txt K mg) (dE:ki) (lu:vd):Cm:=by
  refine bf ["number"] n λf aK A aJ s H vs Q E hr nd hu h=>?_
  obtain ⟨n,rfl,hn,kk⟩:=h;refine ⟨_,(aC (aF (aD dE hr (ai (aD lu hr (ai (pv 0))))))),?_⟩;refine ⟨_,rfl,n,rfl,hn,λH1 p s1 hp hP=>?_⟩;have hl:(Vbdbag.decimal n).length<=500:=tO ZE hn;refine ⟨p,nI (Vbdbag.decimal n),rfl,hP,by rw[bR];omega,λH2 q s2 hq hQ=>?_⟩;rw[bR]at hQ;exact kk H2 q (s1.trans s2) (s1.free hq) hQ
theorem ah8 {n:Nat}(h:n=2\/n=4):gf n<=6:=by rcases h with rfl|rfl<;>decide
theorem RV {n m:Nat}(h:n=2\/n=4) (hm:m<=300):(wB n m).length<=5000:=by rw[Ab];have:=Nat.mul_le_mul hm (ah8 h);omega
theorem tm {n:Nat}(h:n<10^500):(Vbdbag.decimal n).length<=500:=tO ZE h
noncomputable def ah9 (K:PySem.W.Frag) (C CM CR:Addr):Sp:=λvs H Q _a=>∃(ρ:Rl) (A:Ad) (B:bc) (z:Int),vs= [.ref A.b,.int z]/\bE C CM CR H ρ A B/\Ok B/\dF C CM CR H ρ A B Q (.even z)
noncomputable abbrev Ic:Prop:=a7 P w K mg base 5 "even_answer" ["bank","motion"] (ah9 K aE aM aN)
theorem ah_ (n:a9 K mg "even_answer" PH) (T:Txt K mg) (aw:b6 K mg aE) (aL:bZ K mg aM) (aS:cp K mg aN) (cG:ia) (Ie:G9) (tq:BW) (mJ:vq) (mM:Cm) (tj:B7) (tu:BV) (tw:BY):Ic:=by
  refine bf ["bank","motion","size","rooms","points","room","ways","answer"] n λf aK A aJ s H vs Q E hr nd hu h=>?_
  obtain ⟨ρ,A,B,z,rfl,F,O,dn⟩:=h;refine ⟨_,(aB (aX (cJ (cN (aD mJ hr (au (pv 0) (ai (pv 1)))))) (aC (aF (aW (ai (aR T.jD))))) aZ)
   (aB (bj 2 nd (aD cG hr (au (aP K (pv 0)) (ai dY))))
   (aB (bj 3 nd (aD Ie hr (au (pv 0) (ai (pv 1)))))
   (aB (bj 4 nd (fw (rL (K:=K)) (by rfl) T.rO rG (ai (gR nd (dZ (pv 3)) (own:= [("room",5)]) (by rfl) (λ_a _a _a _a _a=>cH 5 nd) (λ_a _a _a _a _a=>jv) (λ_a _a _a _a _a=>(aD tj hr (ai (aP K (pv 5)))))))))
   (aB (bj 6 nd (aD tq hr (au (pv 2) (ai (bJ K T.bG (pv 3))))))
   (aB (bj 7 nd (aW (au (bJ K T.bG (pv 3)) (au (pv 4) (ai (bx eO (bx lV (bJ K T.bG (pv 3)) (aD tu hr (ai (pv 2)))) (pv 4)))))))
   (aC (aF (bx fV (bx fV (pv 7) (aD mM hr (ai (aD tw hr (au (pv 6) (ai (pv 4))))))) (aD mM hr (ai (fw (rL (K:=K)) (by rfl) T.rO rG (ai (pv 6)))))))))))))),?_⟩
  have hB:=F.cQ;have oB:=O.nm;obtain ⟨af,hg,_,_⟩:=F.hg;have hsz:=tL O.wt;refine ⟨_,rfl,_,rfl,A.b,A.d,A.m,A.as,B.T,B.ms,z,rfl,hB.v,λH1 s1=>⟨_,rfl,aI (λc=>?_) (λc=>?_)⟩⟩
  ·rw[zm,ot,Zr]at c;exact ⟨cj,λq hq=>(dn.no F O (V1 c)).one s1 hq⟩
  ·rw[zl,ot,Zt]at c;obtain ⟨k,rfl,k1,k2⟩:=mP c;obtain ⟨mo,dR⟩:∃mo,B.ms[k - 1]? =some mo:=⟨_,yb k2⟩;have hd:=V2 O k1 dR;have Dr:=Le O k;have hel:=V4 O k;have bS:=hB.same s1;refine ⟨_,rfl,A.b,aE,A.dx,_,_,rfl,bS.bk,aw.cl,aw.d7,gy _ _ _ _ _,A.d,.size,B.T,rfl,rfl,bS.told.r,O.wt,λH2 s2=>?_⟩;have bO:=s1.trans s2;refine ⟨_,rfl,_,rfl,A,B,k,af,rfl,hB.same bO,O,bO _ _ hg,λH3 p as s3 hp hP hR=>?_⟩;have i6:=bO.trans s3;have dP:=Paired.length hR;rw[yA]at dP;generalize hE:fq B k=EL at*;have hEm:∀e∈EL,e.2.result.length<=1000:=λe he=>by
    rw[←hE]at he;obtain ⟨qI,oT⟩:=List.mem_filter.mp he;have bQ:e.2.result≠ []:=by unfold eV at oT;simp only[za,zm,yq]at oT;exact oT.1
    have:=((O.qH qI).2.2.1 bQ).2;omega
   refine ⟨_,rfl,p,rfl,⟨_,ag.of hP⟩,λD hD=>jx (K:=K) (a:=p) (xs:=as.map V.ref) (λi H'=>aq H3 H'/\H' D=some (.lst (vi (nI ((EL.take i).map λe=>fQ e.2.result))))) ⟨bU hD,ao⟩ (λi H' _a h=>ag.of (h.1 _ _ hP)) ?_ ?_⟩
   ·rintro i v H' hv ⟨s,hA⟩;obtain ⟨a,ha,rfl⟩:=cD hv;obtain ⟨rm,oO,il⟩:=hU hR ha;obtain ⟨e,he,rfl⟩:=cD oO;have hi:=(List.getElem?_eq_some_iff.mp he).1;obtain ⟨dx,o,p1,p2,q5,f1,f2,f3,f4,f5⟩:=il.same s;refine ⟨rfl,?_⟩;refine ⟨_,rfl,a,aN,dx,_,_,rfl,f1,aS.cl,aS.u7,GN _ _,q5,e.2.result,rfl,f5,hEm e (yY he),λH4 s4=>⟨_,s4 _ _ hA,?_,aU (s.trans s4) hD,?_⟩⟩
    ·rw[bY,yA,yF];exact dv ZD
    ·rw[ao,da he,yH,kl,dw];rfl
   ·rintro H4 ⟨s4,hA⟩;rw[yA,dP,xm]at hA;refine ⟨D,_,rfl,ag.of hA,?_⟩;rw[qJ];generalize hpt:Vbdbag.total (EL.map λe=>fQ e.2.result)=Cn at*;have ko:=i6.trans s4;have Co:(as.map V.ref).length=EL.length:=by rw[yA,dP]
    refine ⟨_,rfl,_,rfl,p,_,rfl,.inl (ag.of (s4 _ _ hP)),aG B.T .size,EL.length,by rw[Co];rfl,hsz,by omega,λH6 pw s6 hpw oF=>?_⟩;have Ig:=ko.trans s6;have wa:=(s4.trans s6) _ _ hP;have mh:=RV (m:=EL.length) hsz ZD;have oG:=K6 (n:=EL.length) (aG B.T .size) ZD;generalize hw:wB (aG B.T .size) EL.length=W at*;have tE:jV W Cn<10^500:=xG (K8 W Cn) oG;refine ⟨_,rfl,p,_,rfl,.inl (ag.of wa),_,rfl,_,rfl,p,_,rfl,.inl (ag.of wa),_,rfl,aG B.T .size,rfl,hsz,_,_,rfl,rfl,.inl ⟨by rw[Co];omega,by rw[Co];omega⟩,_,rfl,_,_,rfl,rfl,by show 3<=sizeLine;decide,λq hq=>?_⟩;have s7:∀o,aq H6 (aj H6 q o):=λo=>bU hq
    have pwq:pw≠q:=b8 oF hq;refine ⟨_,rfl,_,rfl,_,rfl,pw,W,Cn,rfl,s7 _ _ _ oF,mh,λH8 s8=>?_⟩;refine ⟨jV W Cn,rfl,tE,λH9 q9 s9 hq9 hQ9=>?_⟩;have RW:=s8.trans s9;refine ⟨q,q9,_,_,rfl,rfl,RW _ _ ao,hQ9,?_,λr hr=>?_⟩
    ·have:=tm tE;simp only[yu,yB,yA,bR];exact eQ ZD
    have RX:aq H6 H9:=(s7 _).trans RW;have jw:∀o,aq H6 (aj H9 r o):=λo=>aU RX (RX.free hr)
    refine ⟨_,rfl,pw,_,rfl,ag.of (jw _ _ _ oF),Vbdbag.total W,by rw[qJ];rfl,oG,λCp Ih uC aid Ii=>?_⟩;refine ⟨r,Ih,_,_,rfl,rfl,uC _ _ ao,Ii,?_,λr2 Cq=>?_⟩
    ·have:=tm tE;have:=tm oG;simp only[yt,yu,yB,yA,bR];exact eQ ZD
    ·have aie:aq H6 Cp:=(jw _).trans uC;have sf:=Ig.trans aie;refine dn.ret F O hd _ r2 (aU sf (sf.free Cq)) (sf.free Cq) ?_;rw[ao,Co];unfold iP;simp only[y0,y1,zE];rw[←zF,dw,dw,zD,bR,bR];rfl
noncomputable def aif (K:PySem.W.Frag) (C CM CR:Addr):Sp:=λvs H Q _a=>∃(ρ:Rl) (A:Ad) (B:bc) (z y:Int),vs= [.ref A.b,.int z,.int y]/\bE C CM CR H ρ A B/\Ok B/\dF C CM CR H ρ A B Q (.ways z y)
noncomputable abbrev Ij:Prop:=a7 P w K mg base 4 "ways_answer" ["bank","rooms","points"] (aif K aE aM aN)
theorem aih (n:a9 K mg "ways_answer" PJ) (T:Txt K mg) (aw:b6 K mg aE) (aL:bZ K mg aM) (aS:cp K mg aN) (cG:ia) (tq:BW) (mM:Cm) (qg:BX) (Ik:GW) (tw:BY) (tu:BV):Ij:=by
  refine bf ["bank","rooms","points","size","ways","answer"] n λf aK A aJ s H vs Q E hr nd hu h=>?_
  obtain ⟨ρ,A,B,z,y,rfl,F,O,dn⟩:=h;refine ⟨_,(aB (bj 3 nd (aD cG hr (au (aP K (pv 0)) (ai dY))))
   (aB (aX (PW.pt (gM (cJ (j1 cO cO aH (pv 1) (aR T.P2))) (iE (cJ (j1 cO cO aH (pv 2) (bx lV (aR T.P2) (aD tu hr (ai (pv 3))))))))) (aC (aF (aW (ai (aR T.k9))))) aZ)
   (aB (bj 4 nd (aD tq hr (au (pv 3) (ai (pv 1)))))
   (aB (bj 5 nd (bx fV (aW (ai (aD qg hr (au (pv 4) (ai (pv 2)))))) (aD mM hr (ai (aD Ik hr (au (pv 4) (ai (pv 2))))))))
   (aC (aF (bx fV (bx fV (pv 5) (aD mM hr (ai (aD tw hr (au (pv 4) (ai (pv 2))))))) (aD mM hr (ai (fw (rL (K:=K)) (by rfl) T.rO rG (ai (pv 4)))))))))))),?_⟩
  have hB:=F.cQ;have hsz:=tL O.wt;refine ⟨_,rfl,A.b,aE,A.dx,_,_,rfl,hB.bk,aw.cl,aw.d7,gy _ _ _ _ _,A.d,.size,B.T,rfl,rfl,hB.told.r,O.wt,λH1 s1=>?_⟩;have bad:¬(0<=z/\z<=40/\0<=y/\y<=40*(gf (aG B.T .size):Int))->([V.int (-1)]:List V).length<=sizeLine/\∀q,H1 q=none->Q (.ref q) (aj H1 q (.lst [.int (-1)])):=λhn=>⟨cj,λq hq=>(dn.no F O (VX hsz hn)).one s1 hq⟩
  refine ⟨_,rfl,_,_,rfl,rfl,_,rfl,aI (λe1=>?_) (λe1=>?_)⟩
  ·refine ⟨_,_,rfl,rfl,_,rfl,aI (λe2=>?_) (λe2=>?_)⟩
   ·rw[zm,Zr]at e2;exact bad λw=>e2 w.2.1
   ·refine ⟨_,rfl,_,_,rfl,rfl,_,rfl,aI (λe3=>?_) (λe3=>?_)⟩
    ·refine ⟨_,rfl,aG B.T .size,rfl,hsz,_,_,rfl,rfl,.inl ⟨by decide,by decide⟩,_,_,rfl,rfl,_,rfl,aI (λe4=>?_) (λe4=>?_)⟩
     ·rw[zm,Zr]at e4;exact bad λw=>e4 w.2.2.2
     ·rw[zl,Zt]at e2 e4;rw[Zt]at e1 e3;obtain ⟨n,rfl⟩:∃n:Nat,z=n:=⟨z.toNat,by omega⟩;obtain ⟨a,rfl⟩:∃a:Nat,y=a:=⟨y.toNat,by omega⟩;have hd:=VY (B:=B) (n:=n) (a:=a) hsz ⟨by omega,by omega⟩;refine ⟨_,rfl,_,rfl,aG B.T .size,n,rfl,hsz,by omega,λH6 pw s6 hpw oF=>?_⟩;have Ig:=s1.trans s6;have mh:=RV (m:=n) hsz ZD;have oG:=K6 (n:=n) (aG B.T .size) ZD;generalize hw:wB (aG B.T .size) n=W at*;have tE:jV W a<10^500:=xG (K8 W a) oG;have RY:W.getD a 0<10^500:=xG (VW W a) oG;have d1:=tm tE;have d2:=tm oG;have d3:=tm RY;refine ⟨_,rfl,_,rfl,pw,W,a,rfl,oF,cj,λq hq=>?_⟩;have s7:∀o,aq H6 (aj H6 q o):=λo=>bU hq
      refine ⟨_,rfl,_,rfl,pw,W,a,rfl,s7 _ _ _ oF,W.getD a 0,rfl,RY,λH8 q8 s8 iM hQ8=>?_⟩;refine ⟨q,q8,_,_,rfl,rfl,s8 _ _ ao,hQ8,?_,λr hr=>?_⟩
      ·simp only[yu,yB,yA,bR];exact eQ ZD
      have RZ:aq H6 H8:=(s7 _).trans s8;have s9:∀o,aq H6 (aj H8 r o):=λo=>aU RZ (RZ.free hr)
      refine ⟨_,rfl,_,rfl,_,rfl,pw,W,a,rfl,s9 _ _ _ oF,mh,λMZ jw=>?_⟩;refine ⟨jV W a,rfl,tE,λCp Ih uC aid Ii=>?_⟩;have R0:=jw.trans uC;refine ⟨r,Ih,_,_,rfl,rfl,R0 _ _ ao,Ii,?_,λr2 Cq=>?_⟩
      ·simp only[yt,yu,yB,yA,bR];exact eQ ZD
      have R1:aq H6 Cp:=(s9 _).trans R0;have bO:∀o,aq H6 (aj Cp r2 o):=λo=>aU R1 (R1.free Cq)
      refine ⟨_,rfl,pw,_,rfl,ag.of (bO _ _ _ oF),Vbdbag.total W,by rw[qJ];rfl,oG,λH13 q13 i6 anv aik=>?_⟩;refine ⟨r2,q13,_,_,rfl,rfl,i6 _ _ ao,aik,?_,λr3 Hs=>?_⟩
      ·simp only[yt,yu,yB,yA,bR];exact eQ ZD
      ·have sf:=Ig.trans ((bO _).trans i6);refine dn.ret F O hd _ r3 (aU sf (sf.free Hs)) (sf.free Hs) ?_;rw[ao];unfold iP;simp only[y0,y1,zE,x9,bR];simp only[dw,yJ,yH,zD,zF,x9]
    ·rw[Zr]at e3;exact ⟨_,rfl,bad λw=>e3 w.2.2.1⟩
  ·rw[Zr]at e1;exact ⟨_,rfl,bad λw=>e1 w.1⟩
end
section
structure Il (CC:Addr) (H:Hp) (ρ:Rl) (c:Addr) (p:Int) (ns:List Int) (xs:List (List Int)):Prop where
 ex:∃(dx nm rw:Addr) (as:List Addr) (j:Int),H c=some (.ins CC dx (ke (.int p) (.ref nm) (.ref rw) (.int j)))/\H nm=some (.lst (vi ns))/\H rw=some (.lst (as.map V.ref))/\Paired (λa l=>Lf ρ H a=some (.lst (vi l))) as xs
theorem Im {H:Hp}{as:List Addr}{t:List Int}(h:Paired (λa l=>H a=some (.lst (vi l))) as [t]):∃a,as= [a]/\H a=some (.lst (vi t)):=by
 cases h with
 |cons q r=>cases r;exact ⟨_,rfl,q⟩
theorem ail {H:Hp}{as:List Addr}{t u:List Int}(h:Paired (λa l=>H a=some (.lst (vi l))) as [t,u]):∃a b,as= [a,b]/\H a=some (.lst (vi t))/\H b=some (.lst (vi u)):=by
 cases h with
 |cons q r=>
  cases r with
  |cons q2 r=>cases r;exact ⟨_,_,rfl,q,q2⟩
theorem aim {B:bc}(h:ak B=Vbdbag.start):Vbdbag.step (ak B) .clear=(ak B,{value:=0}):=by rw[Vbdbag.step,h]
theorem kd {a b:Int}(e:decide (V.int a=V.int b)=true):a=b:=V.int.inj (ZA e)
theorem kn {a b:Int}(e:decide (V.int a=V.int b)=false):a≠b:=λh=>Zz e (Zo V.int h)
theorem ain {call:Vbdbag.Call}(h:(bV call).1=1):∃t,call= .rules t:=by cases call<;>first|exact ⟨_,rfl⟩|exact absurd h (Zz rfl)
theorem aio {call:Vbdbag.Call}(h:(bV call).1=2):call= .shown:=by cases call<;>first|exact rfl|exact absurd h (Zz rfl)
theorem aip {call:Vbdbag.Call}(h:(bV call).1=3):∃z t u,call= .motion z t u:=by cases call<;>first|exact ⟨_,_,_,rfl⟩|exact absurd h (Zz rfl)
theorem aiq {call:Vbdbag.Call}(h:(bV call).1=4):∃z,call= .strike z:=by cases call<;>first|exact ⟨_,rfl⟩|exact absurd h (Zz rfl)
theorem air {call:Vbdbag.Call}(h:(bV call).1=5):∃z,call= .restore z:=by cases call<;>first|exact ⟨_,rfl⟩|exact absurd h (Zz rfl)
theorem ais {call:Vbdbag.Call}(h:(bV call).1=6):call= .choose:=by cases call<;>first|exact rfl|exact absurd h (Zz rfl)
theorem ait {call:Vbdbag.Call}(h:(bV call).1=7):∃z y,call= .appeal z y:=by cases call<;>first|exact ⟨_,_,rfl⟩|exact absurd h (Zz rfl)
theorem aiu {call:Vbdbag.Call}(h:(bV call).1=8):call= .undo:=by cases call<;>first|exact rfl|exact absurd h (Zz rfl)
theorem aiv {call:Vbdbag.Call}(h:(bV call).1=9):∃z,call= .now z:=by cases call<;>first|exact ⟨_,rfl⟩|exact absurd h (Zz rfl)
theorem aiw {call:Vbdbag.Call}(h:(bV call).1=10):∃z y,call= .see z y:=by cases call<;>first|exact ⟨_,_,rfl⟩|exact absurd h (Zz rfl)
theorem aix {call:Vbdbag.Call}(h:(bV call).1=11):∃z y x v,call= .read z y x v:=by cases call<;>first|exact ⟨_,_,_,_,rfl⟩|exact absurd h (Zz rfl)
theorem aiy {call:Vbdbag.Call}(h:(bV call).1=12):∃z y x t,call= .order z y x t:=by cases call<;>first|exact ⟨_,_,_,_,rfl⟩|exact absurd h (Zz rfl)
theorem aiz {call:Vbdbag.Call}(h:(bV call).1=13):∃z y,call= .debate z y:=by cases call<;>first|exact ⟨_,_,rfl⟩|exact absurd h (Zz rfl)
theorem aiA {call:Vbdbag.Call}(h:(bV call).1=14):∃z y t,call= .result z y t:=by cases call<;>first|exact ⟨_,_,_,rfl⟩|exact absurd h (Zz rfl)
theorem aiB {call:Vbdbag.Call}(h:(bV call).1=15):∃z,call= .offered z:=by cases call<;>first|exact ⟨_,rfl⟩|exact absurd h (Zz rfl)
theorem aiC {call:Vbdbag.Call}(h:(bV call).1=16):∃z,call= .may z:=by cases call<;>first|exact ⟨_,rfl⟩|exact absurd h (Zz rfl)
theorem aiD {call:Vbdbag.Call}(h:(bV call).1=17):∃z,call= .told z:=by cases call<;>first|exact ⟨_,rfl⟩|exact absurd h (Zz rfl)
theorem aiE {call:Vbdbag.Call}(h:(bV call).1=18):∃z,call= .even z:=by cases call<;>first|exact ⟨_,rfl⟩|exact absurd h (Zz rfl)
theorem aiF {call:Vbdbag.Call}(h:(bV call).1=19):∃z y,call= .ways z y:=by cases call<;>first|exact ⟨_,_,rfl⟩|exact absurd h (Zz rfl)
theorem aiG {call:Vbdbag.Call}(h:(bV call).1=20):∃z,call= .lot z:=by cases call<;>first|exact ⟨_,rfl⟩|exact absurd h (Zz rfl)
theorem aiH {call:Vbdbag.Call}(h:(bV call).1=21):call= .counts:=by cases call<;>first|exact rfl|exact absurd h (Zz rfl)
noncomputable def Io:Vbdbag.Call->Bool
 | .clear=>true
 | .offered _=>true
 | .may _=>true
 | .told _=>true
 | .lot _=>true
 | .counts=>true
 |_=>false
theorem aiI {call:Vbdbag.Call}(hk:Io call=true) (h15:(bV call).1≠15) (h16:(bV call).1≠16) (h17:(bV call).1≠17) (h20:(bV call).1≠20) (h21:(bV call).1≠21):call= .clear:=by cases call<;>first|rfl|exact absurd rfl h15|exact absurd rfl h16|exact absurd rfl h17|exact absurd rfl h20|exact absurd rfl h21|cases hk
noncomputable def aiO (K:PySem.W.Frag) (C CM CR CC:Addr):Sp:=λvs H Q _a=>∃(ρ:Rl) (A:Ad) (B:bc) (c:Addr) (call:Vbdbag.Call),vs= [.ref A.b,.ref c]/\bE C CM CR H ρ A B/\Ok B/\Il CC H ρ c (bV call).1 (bV call).2.1 (bV call).2.2/\wJ call/\Io call=true/\(call= .clear->ak B=Vbdbag.start)/\dF C CM CR H ρ A B Q call
noncomputable abbrev Ip:Prop:=a7 P w K mg base 5 "answer_when_asked" ["bank","call"] (aiO K aE aM aN eA)
theorem aiP (n:a9 K mg "answer_when_asked" PN) (T:Txt K mg) (aw:b6 K mg aE) (aL:bZ K mg aM) (aS:cp K mg aN) (bD:pK K mg eA) (Iq:Hh) (Ir:Hi) (Iu:Hj) (Iv:Hl) (Iw:Hm):Ip:=by
  refine bf ["bank","call","numbers"] n λf aK A aJ s H vs Q E hr nd hu h=>?_
  obtain ⟨ρ,A,B,c,call,rfl,F,O,hC,hz,hk,fW,dn⟩:=h;refine ⟨_,(aB (bj 2 nd (aP K (pv 1)))
   (aB (aX (bz cF (aP K (pv 1)) (aR T.acR)) (aC (aF (aD Iq hr (au (pv 0) (ai (bL K (pv 2) aH)))))) aZ)
   (aB (aX (bz cF (aP K (pv 1)) (aR T.acS)) (aC (aF (aD Ir hr (au (pv 0) (ai (bL K (pv 2) aH)))))) aZ)
   (aB (aX (bz cF (aP K (pv 1)) (aR T.acT)) (aC (aF (aD Iu hr (au (pv 0) (ai (bL K (pv 2) aH)))))) aZ)
   (aB (aX (bz cF (aP K (pv 1)) (aR T.acW)) (aC (aF (aD Iv hr (au (pv 0) (ai (bL K (pv 2) aH)))))) aZ)
   (aB (aX (bz cF (aP K (pv 1)) (aR T.acX)) (aC (aF (aD Iw hr (ai (pv 0))))) aZ)
   (aC (aF (aW (ai aH)))))))))),?_⟩
  obtain ⟨dx,nm,rw,as,j,hc,cX,kf,hR⟩:=hC.ex;refine ⟨_,rfl,c,eA,dx,_,_,rfl,hc,bD.cl,bD.Bq,GA _ _ _ _,?_⟩;refine ⟨_,rfl,c,_,_,_,_,rfl,hc,bD.cl,bD.eG,eU _ _ _ _,rfl,_,rfl,aI (λIy=>?_) (λIy=>?_)⟩
  ·obtain ⟨z,rfl⟩:=aiB (kd Iy);exact ⟨_,rfl,_,rfl,nm,_,0,.int z,rfl,rfl,ag.of cX,ck (j:=0) rfl,ρ,A,B,z,rfl,F,O,dn⟩
  refine ⟨_,rfl,c,_,_,_,_,rfl,hc,bD.cl,bD.eG,eU _ _ _ _,rfl,_,rfl,aI (λIz=>?_) (λIz=>?_)⟩
  ·obtain ⟨z,rfl⟩:=aiC (kd Iz);exact ⟨_,rfl,_,rfl,nm,_,0,.int z,rfl,rfl,ag.of cX,ck (j:=0) rfl,ρ,A,B,z,rfl,F,O,dn⟩
  refine ⟨_,rfl,c,_,_,_,_,rfl,hc,bD.cl,bD.eG,eU _ _ _ _,rfl,_,rfl,aI (λIA=>?_) (λIA=>?_)⟩
  ·obtain ⟨z,rfl⟩:=aiD (kd IA);exact ⟨_,rfl,_,rfl,nm,_,0,.int z,rfl,rfl,ag.of cX,ck (j:=0) rfl,ρ,A,B,z,rfl,F,O,dn⟩
  refine ⟨_,rfl,c,_,_,_,_,rfl,hc,bD.cl,bD.eG,eU _ _ _ _,rfl,_,rfl,aI (λIB=>?_) (λIB=>?_)⟩
  ·obtain ⟨z,rfl⟩:=aiG (kd IB);exact ⟨_,rfl,_,rfl,nm,_,0,.int z,rfl,rfl,ag.of cX,ck (j:=0) rfl,ρ,A,B,z,rfl,F,O,dn⟩
  refine ⟨_,rfl,c,_,_,_,_,rfl,hc,bD.cl,bD.eG,eU _ _ _ _,rfl,_,rfl,aI (λIC=>?_) (λIC=>?_)⟩
  ·obtain rfl:=aiH (kd IC);exact ⟨_,rfl,ρ,A,B,rfl,F,O,dn⟩
  obtain rfl:=aiI hk (kn Iy) (kn Iz) (kn IA) (kn IB) (kn IC);exact ⟨cj,λq hq=>(dn.ret F O (aim (fW rfl))).one (aq.refl H) hq⟩
noncomputable def ID:Vbdbag.Call->Bool
 | .clear=>true
 | .order _ _ _ _=>true
 | .debate _ _=>true
 | .result _ _ _=>true
 | .offered _=>true
 | .may _=>true
 | .told _=>true
 | .even _=>true
 | .ways _ _=>true
 | .lot _=>true
 | .counts=>true
 |_=>false
theorem aiQ {call:Vbdbag.Call}(hk:ID call=true) (h12:(bV call).1≠12) (h13:(bV call).1≠13) (h14:(bV call).1≠14) (h18:(bV call).1≠18) (h19:(bV call).1≠19):Io call=true:=by cases call<;>first|rfl|exact absurd rfl h12|exact absurd rfl h13|exact absurd rfl h14|exact absurd rfl h18|exact absurd rfl h19|cases hk
noncomputable def aiW (K:PySem.W.Frag) (C CM CR CC:Addr):Sp:=λvs H Q _a=>∃(ρ:Rl) (A:Ad) (B:bc) (c:Addr) (call:Vbdbag.Call),vs= [.ref A.b,.ref c]/\bE C CM CR H ρ A B/\Ok B/\Il CC H ρ c (bV call).1 (bV call).2.1 (bV call).2.2/\wJ call/\ID call=true/\(call= .clear->ak B=Vbdbag.start)/\dF C CM CR H ρ A B Q call
noncomputable abbrev IE:Prop:=a7 P w K mg base 6 "answer_on_rooms" ["bank","call"] (aiW K aE aM aN eA)
theorem aiX (n:a9 K mg "answer_on_rooms" PM) (T:Txt K mg) (aw:b6 K mg aE) (aL:bZ K mg aM) (aS:cp K mg aN) (bD:pK K mg eA) (IF:Ip) (IG:HQ) (IH:Ia) (II:Ib) (IJ:Ic) (IK:Ij):IE:=by
  refine bf ["bank","call","numbers"] n λf aK A aJ s H vs Q E hr nd hu h=>?_
  obtain ⟨ρ,A,B,c,call,rfl,F,O,hC,hz,hk,fW,dn⟩:=h;refine ⟨_,(aB (bj 2 nd (aP K (pv 1)))
   (aB (aX (bz cF (aP K (pv 1)) (aR T.acO)) (aC (aF (aD IG hr (au (pv 0) (au (bL K (pv 2) aH) (au (bL K (pv 2) aH) (au (bL K (pv 2) aH) (ai (bL K (aP K (pv 1)) aH))))))))) aZ)
   (aB (aX (bz cF (aP K (pv 1)) (aR T.acP)) (aC (aF (aD IH hr (au (pv 0) (au (bL K (pv 2) aH) (ai (bL K (pv 2) aH))))))) aZ)
   (aB (aX (bz cF (aP K (pv 1)) (aR T.acQ)) (aC (aF (aD II hr (au (pv 0) (au (bL K (pv 2) aH) (au (bL K (pv 2) aH) (ai (bL K (aP K (pv 1)) aH)))))))) aZ)
   (aB (aX (bz cF (aP K (pv 1)) (aR T.acU)) (aC (aF (aD IJ hr (au (pv 0) (ai (bL K (pv 2) aH)))))) aZ)
   (aB (aX (bz cF (aP K (pv 1)) (aR T.acV)) (aC (aF (aD IK hr (au (pv 0) (au (bL K (pv 2) aH) (ai (bL K (pv 2) aH))))))) aZ)
   (aC (aF (aD IF hr (au (pv 0) (ai (pv 1)))))))))))),?_⟩
  obtain ⟨dx,nm,rw,as,j,hc,cX,kf,hR⟩:=hC.ex;refine ⟨_,rfl,c,eA,dx,_,_,rfl,hc,bD.cl,bD.Bq,GA _ _ _ _,?_⟩;refine ⟨_,rfl,c,_,_,_,_,rfl,hc,bD.cl,bD.eG,eU _ _ _ _,rfl,_,rfl,aI (λIL=>?_) (λIL=>?_)⟩
  ·obtain ⟨z,y,x,t,rfl⟩:=aiy (kd IL);obtain ⟨r0,rfl,h0⟩:=Im hR;exact ⟨_,rfl,_,rfl,nm,_,0,.int z,rfl,rfl,ag.of cX,ck (j:=0) rfl,_,rfl,nm,_,1,.int y,rfl,rfl,ag.of cX,ck (j:=1) rfl,_,rfl,nm,_,2,.int x,rfl,rfl,ag.of cX,ck (j:=2) rfl,_,rfl,c,eA,dx,_,_,rfl,hc,bD.cl,bD.rS,vv _ _ _ _,rw,_,0,.ref r0,rfl,rfl,ag.of kf,ck (j:=0) rfl,ρ,A,B,z,y,x,r0,t,rfl,F,O,h0,xE hz ZE,dn⟩
  refine ⟨_,rfl,c,_,_,_,_,rfl,hc,bD.cl,bD.eG,eU _ _ _ _,rfl,_,rfl,aI (λIM=>?_) (λIM=>?_)⟩
  ·obtain ⟨z,y,rfl⟩:=aiz (kd IM);exact ⟨_,rfl,_,rfl,nm,_,0,.int z,rfl,rfl,ag.of cX,ck (j:=0) rfl,_,rfl,nm,_,1,.int y,rfl,rfl,ag.of cX,ck (j:=1) rfl,ρ,A,B,z,y,rfl,F,O,dn⟩
  refine ⟨_,rfl,c,_,_,_,_,rfl,hc,bD.cl,bD.eG,eU _ _ _ _,rfl,_,rfl,aI (λIP=>?_) (λIP=>?_)⟩
  ·obtain ⟨z,y,t,rfl⟩:=aiA (kd IP);obtain ⟨r0,rfl,h0⟩:=Im hR;exact ⟨_,rfl,_,rfl,nm,_,0,.int z,rfl,rfl,ag.of cX,ck (j:=0) rfl,_,rfl,nm,_,1,.int y,rfl,rfl,ag.of cX,ck (j:=1) rfl,_,rfl,c,eA,dx,_,_,rfl,hc,bD.cl,bD.rS,vv _ _ _ _,rw,_,0,.ref r0,rfl,rfl,ag.of kf,ck (j:=0) rfl,ρ,A,B,z,y,r0,t,rfl,F,O,h0,xE hz ZE,dn⟩
  refine ⟨_,rfl,c,_,_,_,_,rfl,hc,bD.cl,bD.eG,eU _ _ _ _,rfl,_,rfl,aI (λIQ=>?_) (λIQ=>?_)⟩
  ·obtain ⟨z,rfl⟩:=aiE (kd IQ);exact ⟨_,rfl,_,rfl,nm,_,0,.int z,rfl,rfl,ag.of cX,ck (j:=0) rfl,ρ,A,B,z,rfl,F,O,dn⟩
  refine ⟨_,rfl,c,_,_,_,_,rfl,hc,bD.cl,bD.eG,eU _ _ _ _,rfl,_,rfl,aI (λIS=>?_) (λIS=>?_)⟩
  ·obtain ⟨z,y,rfl⟩:=aiF (kd IS);exact ⟨_,rfl,_,rfl,nm,_,0,.int z,rfl,rfl,ag.of cX,ck (j:=0) rfl,_,rfl,nm,_,1,.int y,rfl,rfl,ag.of cX,ck (j:=1) rfl,ρ,A,B,z,y,rfl,F,O,dn⟩
  exact ⟨_,rfl,_,rfl,ρ,A,B,c,call,rfl,F,O,hC,hz,aiQ hk (kn IL) (kn IM) (kn IP) (kn IQ) (kn IS),fW,dn⟩
noncomputable def IT:Vbdbag.Call->Bool
 | .clear=>true
 | .rules _=>true
 | .shown=>true
 | .motion _ _ _=>true
 | .strike _=>true
 | .restore _=>true
 | .choose=>true
 | .appeal _ _=>true
 | .undo=>true
 | .now _=>true
 | .see _ _=>true
 | .read _ _ _ _=>true
 | .order _ _ _ _=>true
 | .debate _ _=>true
 | .result _ _ _=>true
 | .offered _=>true
 | .may _=>true
 | .told _=>true
 | .even _=>true
 | .ways _ _=>true
 | .lot _=>true
 | .counts=>true
theorem aiY {call:Vbdbag.Call}(hk:IT call=true) (h1:(bV call).1≠1) (h2:(bV call).1≠2) (h3:(bV call).1≠3) (h4:(bV call).1≠4) (h5:(bV call).1≠5) (h6:(bV call).1≠6) (h7:(bV call).1≠7) (h8:(bV call).1≠8) (h9:(bV call).1≠9) (h10:(bV call).1≠10) (h11:(bV call).1≠11):ID call=true:=by cases call<;>first|rfl|exact absurd rfl h1|exact absurd rfl h2|exact absurd rfl h3|exact absurd rfl h4|exact absurd rfl h5|exact absurd rfl h6|exact absurd rfl h7|exact absurd rfl h8|exact absurd rfl h9|exact absurd rfl h10|exact absurd rfl h11|cases hk
noncomputable def ai1 (K:PySem.W.Frag) (C CM CR CC:Addr):Sp:=λvs H Q _a=>∃(ρ:Rl) (A:Ad) (B:bc) (c:Addr) (call:Vbdbag.Call),vs= [.ref A.b,.ref c]/\bE C CM CR H ρ A B/\Ok B/\Il CC H ρ c (bV call).1 (bV call).2.1 (bV call).2.2/\wJ call/\IT call=true/\(call= .clear->ak B=Vbdbag.start)/\dF C CM CR H ρ A B Q call
noncomputable abbrev IU:Prop:=a7 P w K mg base 9 "answer_on_bank" ["bank","call"] (ai1 K aE aM aN eA)
theorem ai2 (n:a9 K mg "answer_on_bank" PL) (T:Txt K mg) (aw:b6 K mg aE) (aL:bZ K mg aM) (aS:cp K mg aN) (bD:pK K mg eA) (gx:rP K mg fY) (IV:IE) (IW:Ho) (IX:GK) (IY:Ht) (IZ:Hv) (I0:Hw) (Ja:Hy) (Jb:HB) (Jc:HE) (Jd:HF) (Je:HG) (Jf:HJ):IU:=by
  refine bf ["bank","call","numbers"] n λf aK A aJ s H vs Q E hr nd hu h=>?_
  obtain ⟨ρ,A,B,c,call,rfl,F,O,hC,hz,hk,fW,dn⟩:=h;refine ⟨_,(aB (bj 2 nd (aP K (pv 1)))
   (aB (aX (bz cF (aP K (pv 1)) (aR T.acD)) (aC (aF (aD IW hr (au (pv 0) (ai (bL K (aP K (pv 1)) aH)))))) aZ)
   (aB (aX (bz cF (aP K (pv 1)) (aR T.acE)) (aC (aF (aD IX hr (ai (pv 0))))) aZ)
   (aB (aX (bz cF (aP K (pv 1)) (aR T.acF)) (aC (aF (aD IY hr (au (pv 0) (au (bL K (pv 2) aH) (au (bL K (aP K (pv 1)) aH) (ai (bL K (aP K (pv 1)) aH)))))))) aZ)
   (aB (aX (bz cF (aP K (pv 1)) (aR T.acG)) (aC (aF (aD IZ hr (au (pv 0) (ai (bL K (pv 2) aH)))))) aZ)
   (aB (aX (bz cF (aP K (pv 1)) (aR T.acH)) (aC (aF (aD I0 hr (au (pv 0) (ai (bL K (pv 2) aH)))))) aZ)
   (aB (aX (bz cF (aP K (pv 1)) (aR T.acI)) (aC (aF (aD Ja hr (ai (pv 0))))) aZ)
   (aB (aX (bz cF (aP K (pv 1)) (aR T.acJ)) (aC (aF (aD Jb hr (au (pv 0) (au (bL K (pv 2) aH) (ai (bL K (pv 2) aH))))))) aZ)
   (aB (aX (bz cF (aP K (pv 1)) (aR T.acK)) (aC (aF (aD Jc hr (ai (pv 0))))) aZ)
   (aB (aX (bz cF (aP K (pv 1)) (aR T.acL)) (aC (aF (aD Jd hr (au (pv 0) (ai (bL K (pv 2) aH)))))) aZ)
   (aB (aX (bz cF (aP K (pv 1)) (aR T.acM)) (aC (aF (aD Je hr (au (pv 0) (au (bL K (pv 2) aH) (ai (bL K (pv 2) aH))))))) aZ)
   (aB (aX (bz cF (aP K (pv 1)) (aR T.acN)) (aC (aF (aD Jf hr (au (pv 0) (au (bL K (pv 2) aH) (au (bL K (pv 2) aH) (au (bL K (pv 2) aH) (ai (bL K (pv 2) aH))))))))) aZ)
   (aC (aF (aD IV hr (au (pv 0) (ai (pv 1)))))))))))))))))),?_⟩
  obtain ⟨dx,nm,rw,as,j,hc,cX,kf,hR⟩:=hC.ex;refine ⟨_,rfl,c,eA,dx,_,_,rfl,hc,bD.cl,bD.Bq,GA _ _ _ _,?_⟩;refine ⟨_,rfl,c,_,_,_,_,rfl,hc,bD.cl,bD.eG,eU _ _ _ _,rfl,_,rfl,aI (λe1=>?_) (λe1=>?_)⟩
  ·obtain ⟨t,rfl⟩:=ain (kd e1);obtain ⟨r0,rfl,h0⟩:=Im hR;exact ⟨_,rfl,_,rfl,c,eA,dx,_,_,rfl,hc,bD.cl,bD.rS,vv _ _ _ _,rw,_,0,.ref r0,rfl,rfl,ag.of kf,ck (j:=0) rfl,ρ,A,B,r0,t,rfl,F,O,h0,xE hz ZE,dn⟩
  refine ⟨_,rfl,c,_,_,_,_,rfl,hc,bD.cl,bD.eG,eU _ _ _ _,rfl,_,rfl,aI (λe2=>?_) (λe2=>?_)⟩
  ·obtain rfl:=aio (kd e2);exact ⟨_,rfl,A.b,A.d,A.m,A.as,B.T,B.ms,rfl,F.cQ.v,O.wt,O.sm,dn.ret F O (UE O)⟩
  refine ⟨_,rfl,c,_,_,_,_,rfl,hc,bD.cl,bD.eG,eU _ _ _ _,rfl,_,rfl,aI (λe3=>?_) (λe3=>?_)⟩
  ·obtain ⟨z,t,u,rfl⟩:=aip (kd e3);obtain ⟨r0,r1,rfl,h0,h1⟩:=ail hR;exact ⟨_,rfl,_,rfl,nm,_,0,.int z,rfl,rfl,ag.of cX,ck (j:=0) rfl,_,rfl,c,eA,dx,_,_,rfl,hc,bD.cl,bD.rS,vv _ _ _ _,rw,_,0,.ref r0,rfl,rfl,ag.of kf,ck (j:=0) rfl,_,rfl,c,eA,dx,_,_,rfl,hc,bD.cl,bD.rS,vv _ _ _ _,rw,_,1,.ref r1,rfl,rfl,ag.of kf,ck (j:=1) rfl,ρ,A,B,z,r0,r1,t,u,rfl,F,O,h0,xE hz.1 ZE,h1,xE hz.2 ZE,dn⟩
  refine ⟨_,rfl,c,_,_,_,_,rfl,hc,bD.cl,bD.eG,eU _ _ _ _,rfl,_,rfl,aI (λe4=>?_) (λe4=>?_)⟩
  ·obtain ⟨z,rfl⟩:=aiq (kd e4);exact ⟨_,rfl,_,rfl,nm,_,0,.int z,rfl,rfl,ag.of cX,ck (j:=0) rfl,ρ,A,B,z,rfl,F,O,dn⟩
  refine ⟨_,rfl,c,_,_,_,_,rfl,hc,bD.cl,bD.eG,eU _ _ _ _,rfl,_,rfl,aI (λe5=>?_) (λe5=>?_)⟩
  ·obtain ⟨z,rfl⟩:=air (kd e5);exact ⟨_,rfl,_,rfl,nm,_,0,.int z,rfl,rfl,ag.of cX,ck (j:=0) rfl,ρ,A,B,z,rfl,F,O,dn⟩
  refine ⟨_,rfl,c,_,_,_,_,rfl,hc,bD.cl,bD.eG,eU _ _ _ _,rfl,_,rfl,aI (λe6=>?_) (λe6=>?_)⟩
  ·obtain rfl:=ais (kd e6);exact ⟨_,rfl,ρ,A,B,rfl,F,O,dn⟩
  refine ⟨_,rfl,c,_,_,_,_,rfl,hc,bD.cl,bD.eG,eU _ _ _ _,rfl,_,rfl,aI (λe7=>?_) (λe7=>?_)⟩
  ·obtain ⟨z,y,rfl⟩:=ait (kd e7);exact ⟨_,rfl,_,rfl,nm,_,0,.int z,rfl,rfl,ag.of cX,ck (j:=0) rfl,_,rfl,nm,_,1,.int y,rfl,rfl,ag.of cX,ck (j:=1) rfl,ρ,A,B,z,y,rfl,F,O,dn⟩
  refine ⟨_,rfl,c,_,_,_,_,rfl,hc,bD.cl,bD.eG,eU _ _ _ _,rfl,_,rfl,aI (λe8=>?_) (λe8=>?_)⟩
  ·obtain rfl:=aiu (kd e8);exact ⟨_,rfl,ρ,A,B,rfl,F,O,dn⟩
  refine ⟨_,rfl,c,_,_,_,_,rfl,hc,bD.cl,bD.eG,eU _ _ _ _,rfl,_,rfl,aI (λe9=>?_) (λe9=>?_)⟩
  ·obtain ⟨z,rfl⟩:=aiv (kd e9);exact ⟨_,rfl,_,rfl,nm,_,0,.int z,rfl,rfl,ag.of cX,ck (j:=0) rfl,ρ,A,B,z,rfl,F,O,dn⟩
  refine ⟨_,rfl,c,_,_,_,_,rfl,hc,bD.cl,bD.eG,eU _ _ _ _,rfl,_,rfl,aI (λJg=>?_) (λJg=>?_)⟩
  ·obtain ⟨z,y,rfl⟩:=aiw (kd Jg);exact ⟨_,rfl,_,rfl,nm,_,0,.int z,rfl,rfl,ag.of cX,ck (j:=0) rfl,_,rfl,nm,_,1,.int y,rfl,rfl,ag.of cX,ck (j:=1) rfl,ρ,A,B,z,y,rfl,F,O,dn⟩
  refine ⟨_,rfl,c,_,_,_,_,rfl,hc,bD.cl,bD.eG,eU _ _ _ _,rfl,_,rfl,aI (λJh=>?_) (λJh=>?_)⟩
  ·obtain ⟨z,y,x,v,rfl⟩:=aix (kd Jh);exact ⟨_,rfl,_,rfl,nm,_,0,.int z,rfl,rfl,ag.of cX,ck (j:=0) rfl,_,rfl,nm,_,1,.int y,rfl,rfl,ag.of cX,ck (j:=1) rfl,_,rfl,nm,_,2,.int x,rfl,rfl,ag.of cX,ck (j:=2) rfl,_,rfl,nm,_,3,.int v,rfl,rfl,ag.of cX,ck (j:=3) rfl,ρ,A,B,z,y,x,v,rfl,F,O,dn⟩
  exact ⟨_,rfl,_,rfl,ρ,A,B,c,call,rfl,F,O,hC,hz,aiY hk (kn e1) (kn e2) (kn e3) (kn e4) (kn e5) (kn e6) (kn e7) (kn e8) (kn e9) (kn Jg) (kn Jh),fW,dn⟩
end
section
variable {C CM CR:Addr}{H H':Hp}{ρ cz:Rl}{A:Ad}{B:bc}{q:Addr}
theorem R3 {a:Addr}{o u:HO}:aj (aj H a o) a u=aj H a u:=by
 funext b;by_cases e:b=a
 ·rw[e,ao,ao]
 ·rw[aA e,aA e,aA e]
theorem ai3 {a:Addr}{o:HO}(h:H a=some o):aj H a o=H:=by
 funext b;by_cases e:b=a
 ·rw[e,ao,h]
 ·rw[aA e]
theorem bE.bI (F:bE C CM CR H ρ A B) {od:Obj}{u:HO}(h:H q=some (.bI od u)) (o:HO):bE C CM CR (aj H q o) ρ A B:=by
 have kp:∀{a:Addr}{x:HO},H a=some x->(∀od u,x≠ .bI od u)->aj H q o a=some x:=λe n=>by
  rw[aA]
  ·exact e
  ·intro z;rw[z,h]at e;cases e;exact n _ _ rfl
 have lk:∀{a:Addr}{x:HO},Lf ρ H a=some x->(∀od u,x≠ .bI od u)->Lf ρ (aj H q o) a=some x:=λe n=>Lf.of (kp (Lf.at e).1 n) (Lf.at e).2
 have bt:ic q (Lf ρ H) (Lf ρ (aj H q o)):=λb x e n=>Lf.of (by rw[aA n];exact (Lf.at e).1) (Lf.at e).2
 have nl:∀xs,Lf ρ H q≠some (.lst xs):=λxs z=>by have:=(Lf.at z).1;rw[h]at this;cases this
 obtain ⟨af,g1,g2,g3⟩:=F.hg;refine ⟨kp F.bk (λ_a _a z=>nomatch z),F.pb,?_,kp F.hm (λ_a _a z=>nomatch z),F.pm,Paired.mono (λa mo z=>?_) F.b9,F.nd,kp F.hr (λ_a _a z=>nomatch z),F.pr,Paired.mono (λa l z=>⟨z.1,kp z.2 (λ_a _a z=>nomatch z)⟩) F.cf,F.jL,⟨af,kp g1 (λ_a _a z=>nomatch z),Paired.mono (λe kv z=>?_) g2,g3⟩,F.pg,oy F.iJ⟩
 ·obtain ⟨kv,t1,t2⟩:=F.told;exact ⟨kv,lk t1 (λ_a _a z=>nomatch z),Paired.mono (λe kv z=>z.d9 bt nl) t2⟩
 ·obtain ⟨h0,dx,t,x,h1,h2,h3⟩:=z;exact ⟨h0,dx,t,x,kp h1 (λ_a _a z=>nomatch z),lk h2 (λ_a _a z=>nomatch z),lk h3 (λ_a _a z=>nomatch z)⟩
 ·obtain ⟨z1,a,z2,h0,dx,oo,p1,p2,r,h1,hq,h2,h3,h4,h5⟩:=z;exact ⟨z1,a,z2,h0,dx,oo,p1,p2,r,kp h1 (λ_a _a z=>nomatch z),hq,kp h2 (λ_a _a z=>nomatch z),lk h3 (λ_a _a z=>nomatch z),lk h4 (λ_a _a z=>nomatch z),lk h5 (λ_a _a z=>nomatch z)⟩
noncomputable def NB (C CM CR:Addr) (H:Hp) (q:Addr) (ρ:Rl) (A:Ad) (B:bc):Prop:=∀o,bE C CM CR (aj H q o) ρ A B
theorem NB.self (h:NB C CM CR H q ρ A B) {o:HO}(e:H q=some o):bE C CM CR H ρ A B:=by have:=h o;rw[ai3 e]at this;exact this
theorem NB.same (h:NB C CM CR H q ρ A B) (s:aq H H'):NB C CM CR H' q ρ A B:=λo=>(h o).same λb x e=>by
 by_cases z:b=q
 ·rw[z,ao]at e⊢;exact e
 ·rw[aA z]at e⊢;exact s _ _ e
theorem NB.aj (h:NB C CM CR H q ρ A B) (o:HO):NB C CM CR (L2.aj H q o) q ρ A B:=λu=>by rw[R3];exact h u
noncomputable def Lq (ρ:Rl) (q:Addr) (H:Hp):Hp:=λb=>if b=q then none else Lf ρ H b
theorem Lq.le:aq (Lq ρ q H) H:=λb o e=>by
 unfold Lq at e;split at e
 ·cases e
 ·exact Lf.le _ _ e
theorem Lq.mono (f:∀a o,H a=some o->ρ a=0->a≠q->H' a=some o/\cz a=0):aq (Lq ρ q H) (Lq cz q H'):=λb o e=>by
 unfold Lq at e⊢;by_cases z:b=q
 ·rw[Zx z]at e;cases e
 ·rw[Zw z]at e⊢;obtain ⟨h1,h2⟩:=f b o (Lf.at e).1 (Lf.at e).2 z;exact Lf.of h1 h2
end
section
structure Ji (H H':Hp) (p d m r g:Addr):Prop where
 fd:H d=none
 fm:H m=none
 fr:H r=none
 fg:H g=none
 dm:d≠m
 dr:d≠r
 dg:d≠g
 mr:m≠r
 mg:m≠g
 rg:r≠g
 hd:H' d=some (.dT [])
 hm:H' m=some (.lst [])
 hr:H' r=some (.lst [])
 hg:H' g=some (.dT [])
 keep:∀b o,H b=some o->b≠p->H' b=some o
noncomputable def R4 (C:Addr):Sp:=λvs H Q _a=>∃(p dx:Addr),vs= [.ref p]/\H p=some (.ins C dx [])/\∀(H':Hp) (d m r g:Addr),H' p=some (.ins C dx (eB (.ref d) (.ref m) (.ref r) (.ref g) (.int 0)))->Ji H H' p d m r g->Q .bT H'
theorem R5:jq ["self"] ["self"] (df Fp):=⟨rfl,rfl,rfl,by decide +kernel,rfl,by decide +kernel,by decide +kernel⟩
noncomputable abbrev R6:Prop:=hX P w K mg base 1 "Bank" aE ["self"] (R4 aE)
theorem ai4 {f C:Addr}{fd:FuncData}(F:gv K "__init__" "Bank.__init__" Fp f fd) (T:Txt K mg) (L:b6 K mg C) (M:Mk K C f):hX P w K mg base 1 "Bank" C ["self"] (R4 C):=by
 refine uY F L.mg M R5 (λ_a _a _a _a _a _a us hl=>match us,hl with| [_],_=>rfl) (λvs H Q E h=>?_) (λaK A aJ s H vs Q E hr h=>?_)
 ·obtain ⟨p,dx,rfl,_⟩:=h;rfl
 ·obtain ⟨p,dx,rfl,hp,kk⟩:=h;have nd:=R5.nd;have hu:=pE hr;refine ⟨_,(aB (eP (pv 0) uG rfl)
   (aB (eP (pv 0) (aW cW) rfl)
   (aB (eP (pv 0) (aW cW) rfl)
   (aB (eP (pv 0) uG rfl)
   (aC (eP (pv 0) aH rfl)))))),?_⟩
  refine λd hd=>?_
  have pd:=b8 hp hd;refine ⟨_,rfl,p,C,dx,[],rfl,by rw[aA pd];exact hp,L.cl,L.d7,by decide,xQ _,λm hm=>?_⟩;obtain ⟨m1,hm⟩:=bK hm;obtain ⟨m2,hm⟩:=bK hm;refine ⟨_,rfl,p,C,dx,_,rfl,by rw[aA (xR m1),ao],L.cl,L.lg,(by show 1<1000;decide),xQ _,λr hr=>?_⟩;obtain ⟨r1,hr⟩:=bK hr;obtain ⟨r2,hr⟩:=bK hr;obtain ⟨_,hr⟩:=bK hr;obtain ⟨r3,hr⟩:=bK hr;refine ⟨_,rfl,p,C,dx,_,rfl,by rw[aA (xR r1),ao],L.cl,L.dQ,(by show 2<1000;decide),λg hg=>?_⟩;obtain ⟨g1,hg⟩:=bK hg;obtain ⟨g2,hg⟩:=bK hg;obtain ⟨_,hg⟩:=bK hg;obtain ⟨g3,hg⟩:=bK hg;obtain ⟨_,hg⟩:=bK hg;obtain ⟨g4,hg⟩:=bK hg;refine ⟨_,rfl,p,C,dx,_,rfl,by rw[aA (xR g1),ao],L.cl,L.nU,(by show 3<1000;decide),?_⟩;refine ⟨_,rfl,p,C,dx,_,rfl,ao,L.cl,L.nV,(by show 4<1000;decide),?_⟩;refine kk _ d m r g ao ⟨hd,hm,hr,hg,xR m2,xR r3,xR g4,xR r2,xR g3,xR g2,?_,?_,?_,?_,?_⟩
  ·rw[aA (xR pd),aA (xR pd),aA (xR g4),aA (xR pd),aA (xR r3),aA (xR pd),aA (xR m2),aA (xR pd),ao]
  ·rw[aA m1,aA m1,aA (xR g3),aA m1,aA (xR r2),aA m1,ao]
  ·rw[aA r1,aA r1,aA (xR g2),aA r1,ao]
  ·rw[aA g1,aA g1,ao]
  ·intro b o e nb;rw[aA nb,aA nb,aA (b8 e hg),aA nb,aA (b8 e hr),aA nb,aA (b8 e hm),aA nb,aA (b8 e hd)];exact e
theorem Jj {C CM CR:Addr}{H H1:Hp}{x dx d m r g:Addr}(hx:H x=none) (fB:H dx=none) (h1:H1 x=some (.ins C dx (eB (.ref d) (.ref m) (.ref r) (.ref g) (.int 0)))) (N:Ji (aj (aj H dx (.own x)) x (.ins C dx [])) H1 x d m r g):
  bE C CM CR H1 (dG ⟨x,dx,d,m,r,g,[],[]⟩) ⟨x,dx,d,m,r,g,[],[]⟩ jQ/\aq H H1/\(∀a,H a≠none->dG ⟨x,dx,d,m,r,g,[],[]⟩ a=0):=by
 obtain ⟨dx1,fd⟩:=bK N.fd;obtain ⟨_,fd⟩:=bK fd;obtain ⟨mx1,fm⟩:=bK N.fm;obtain ⟨_,fm⟩:=bK fm;obtain ⟨rx1,fr⟩:=bK N.fr;obtain ⟨_,fr⟩:=bK fr;obtain ⟨gx1,fg⟩:=bK N.fg;obtain ⟨_,fg⟩:=bK fg;have r0:∀a,a≠x->a≠m->a≠r->a≠g->dG ⟨x,dx,d,m,r,g,[],[]⟩ a=0:=λa a1 a2 a3 a4=>by unfold dG;rw[Zw a1,Zw a2,Zw a3,Zw a4]
 refine ⟨⟨h1,Zx rfl,⟨[],Lf.of N.hd (r0 d dx1 N.dm N.dr N.dg),.nil⟩,N.hm,?_,.nil,by simp,N.hr,?_,.nil,by simp,⟨[],N.hg,.nil,by simp⟩,?_,λa ha=>?_⟩,λb o e=>?_,λa ha=>?_⟩
 ·show dG _ m=2;unfold dG;rw[Zw mx1,Zx rfl]
 ·show dG _ r=4;unfold dG;rw[Zw rx1,Zw (xR N.mr),Zx rfl]
 ·show dG _ g=6;unfold dG;rw[Zw gx1,Zw (xR N.mg),Zw (xR N.rg),Zx rfl]
 ·by_cases z:a=x
  ·rw[z,h1];exact λy=>nomatch y
  ·by_cases z2:a=m
   ·rw[z2,N.hm];exact λy=>nomatch y
   ·by_cases z3:a=r
    ·rw[z3,N.hr];exact λy=>nomatch y
    ·by_cases z4:a=g
     ·rw[z4,N.hg];exact λy=>nomatch y
     ·exact absurd (r0 a z z2 z3 z4) ha
 ·exact N.keep b o (by rw[aA (b8 e hx),aA (b8 e fB)];exact e) (b8 e hx)
 ·exact r0 a (λz=>ha (by rw[z];exact hx)) (λz=>ha (by rw[z];exact fm)) (λz=>ha (by rw[z];exact fr)) (λz=>ha (by rw[z];exact fg))
theorem ai9 {C CM CR:Addr}{H H1:Hp}{x dx d m r g q:Addr}{u:HO}(hx:H x=none) (fB:H dx=none) (h1:H1 x=some (.ins C dx (eB (.ref d) (.ref m) (.ref r) (.ref g) (.int 0)))) (N:Ji (aj (aj H dx (.own x)) x (.ins C dx [])) H1 x d m r g) (hq:H q=some u):
  NB C CM CR H1 q (dG ⟨x,dx,d,m,r,g,[],[]⟩) ⟨x,dx,d,m,r,g,[],[]⟩ jQ:=λo=>by
 have nq:∀{b:Addr},H b=none->b≠q:=λe z=>by rw[z,hq]at e;cases e
 have xq:=nq hx;have dq:=nq fB;have fresh:∀{b:Addr},aj (aj H dx (.own x)) x (.ins C dx []) b=none->b≠q/\aj (aj (aj H q o) dx (.own x)) x (.ins C dx []) b=none:=λe=>by obtain ⟨e1,e2⟩:=bK e;obtain ⟨e3,e4⟩:=bK e2;exact ⟨nq e4,by rw[aA e1,aA e3,aA (nq e4)];exact e4⟩
 refine (Jj (H:=aj H q o) (by rw[aA xq];exact hx) (by rw[aA dq];exact fB) (by rw[aA xq];exact h1) ⟨(fresh N.fd).2,(fresh N.fm).2,(fresh N.fr).2,(fresh N.fg).2,N.dm,N.dr,N.dg,N.mr,N.mg,N.rg,?_,?_,?_,?_,λb v e nb=>?_⟩).1
 ·rw[aA (fresh N.fd).1];exact N.hd
 ·rw[aA (fresh N.fm).1];exact N.hm
 ·rw[aA (fresh N.fr).1];exact N.hr
 ·rw[aA (fresh N.fg).1];exact N.hg
 ·by_cases z:b=q
  ·rw[z]at e⊢;rw[aA (xR xq),aA (xR dq),ao]at e;rw[ao];exact e
  ·rw[aA z];refine N.keep b v ?_ nb;rw[aA nb]at e⊢;by_cases z2:b=dx
   ·rw[z2,ao]at e⊢;exact e
   ·rw[aA z2]at e⊢;rw[aA z]at e;exact e
theorem ai_ {l:List Int}{cs:List (List (List Int))}(h:lE l cs) (hl:l≠ []):∃(p:Int) (r t:List Int) (c:List (List Int)) (qk:List (List (List Int))),l=p::r/\cs=c::qk/\PyFlat.call PyVbdbag.shape (p::r)=some (c,t)/\lE t qk:=by
 cases h with
 |nil=>exact absurd rfl hl
 |cons q r=>exact ⟨_,_,_,_,_,rfl,rfl,q,r⟩
theorem aja {p:Int}{n k:Nat}(h0:0<=p) (h1:p<=21) (hn:wH[p.toNat]? =some n) (hk:wI[p.toNat]? =some k):rN[p.toNat]? =some (.int n)/\nS[p.toNat]? =some (.int k):=by
 have e1:rN=wH.map λ(n:Nat)=>V.int n:=by decide
 have e2:nS=wI.map λ(n:Nat)=>V.int n:=by decide
 rw[e1,e2,yd,yd,hn,hk];exact ⟨rfl,rfl⟩
theorem Jk {H H1:Hp}{ρ:Rl}:∀{as:List Addr}{xs:List (List Int)},bX H1 as xs->(∀x∈as,ρ x=0)->Paired (λa l=>Lf ρ H1 a=some (.lst (vi l))) as xs
 |_,_,.nil,_=> .nil
 |_,_,.cons q r,h=> .cons (Lf.of q (h _ yV)) (Jk (H:=H) r λx hx=>h x (yU _ hx))
theorem ajb {call:Vbdbag.Call}(h:0=(bV call).1):call= .clear:=by cases call<;>simp[bV]at h⊢
theorem ajc (call:Vbdbag.Call):IT call=true:=by cases call<;>rfl
theorem R7:jq ["calls","bank","given","place","call","answer"] ["calls"] (df rM):=⟨rfl,rfl,rfl,by decide +kernel,rfl,by decide +kernel,by decide +kernel⟩
set_option tactic.hygienic true in
theorem ajd {f:Addr}{fd:FuncData}(F:gv K "answers" "answers" rM f fd) (T:Txt K mg) (aw:b6 K mg aE) (aL:bZ K mg aM) (aS:cp K mg aN) (bD:pK K mg eA) (gx:rP K mg fY) (Cr:R6) (Jl:GC) (Jm:IU):gO P w K mg base fX 10 f fd ["calls"] (Bs K):=by
 refine F.ok R7 (λvs H Q E h=>?_) (λaK A aJ s H vs Q E hr h=>?_)
 ·obtain ⟨a,l,rfl,_⟩:=h;rfl
 ·obtain ⟨a,l,rfl,hA,hl,Jn,kk⟩:=h;have nd:=R7.nd;have hu:=pE hr;refine ⟨_,(aB (bj 1 nd (Fj Cr hr))
   (aB (bj 2 nd (aW cW))
   (aB (bj 3 nd aH)
   (aB (LP PassesOwn.never (bz o9 (pv 3) (bJ K T.bG (pv 0))) (aB (bj 4 nd (aD Jl hr (au (pv 0) (ai (pv 3)))))
    (aB (aX (bz cF (aP K (pv 4)) (aR T.acC)) (aC (bj 1 nd (Fj Cr hr))) aZ)
    (aB (EJ (bj 5 nd (aD Jm hr (au (pv 1) (ai (pv 4))))))
    (aB (fu (iH K (pv 2) (bJ K T.bG (pv 5))))
    (aB (fu (j7 (K:=K) Z5 Za Zd uu (pv 2) (ai (pv 5))))
    (aC (bj 3 nd (aP K (pv 4))))))))))
   (aC (aF (pv 2))))))),?_⟩
  obtain ⟨cs,aje,Jo,ajf,anw⟩:=T9 Jn;have Jo:=Wf Jo;refine λx dx hx fB bQ=>⟨x,dx,rfl,ao,λH1 d m r g h1 hN=>⟨rfl,?_⟩⟩
  obtain ⟨F1,s1,z1⟩:=Jj (CM:=aM) (CR:=aN) hx fB h1 hN;generalize Gp:(⟨x,dx,d,m,r,g,[],[]⟩:Ad)=A0 at*;have Gq:A0.b=x:=by rw[←Gp]
  refine ⟨xQ _,λq hq=>?_⟩;have ve:dG A0 q=0:=F1.free hq;have ajg:aq H (Lq (dG A0) q (aj H1 q (.lst []))):=λb o e=>by
   have bq:b≠q:=λz=>by have:=s1 _ _ e;rw[z,hq]at this;cases this
   unfold Lq;rw[Zw bq];exact Lf.of (by rw[aA bq];exact s1 _ _ e) (z1 b (by rw[e];exact λy=>nomatch y))
  have big:(10000002:Nat)<=sizeLine:=by decide
  refine ⟨λmm σ H'=>∃(v4 v5:Option V) (ρ:Rl) (A:Ad) (B:bc) (i:Nat) (qk:List (List (List Int))) (ju:List Int),σ= [some (.ref a),some (.ref A.b),some (.ref q),some (.int i),v4,v5]/\mm=l.length - i/\i<=l.length/\NB aE aM aN H' q ρ A B/\Ok B/\ρ q=0/\ag K (Lq ρ q H') a (vi l)/\H' q=some (.lst (vi ju))/\lE (l.drop i) qk/\ju++qK (ak B) qk=PyVbdbag.answers l/\∀c∈qk,VbdbagNeutral.asked1 c=true,?_,?_⟩
  ·refine ⟨l.length,none,none,dG A0,A0,jQ,0,cs,[],by rw[Gq];rfl,by omega,by omega,λo=>?_,Kb,ve,ajg.seq hA,ao,by rw[zM];exact aje,by rw[x9,ajf];rfl,Jo⟩;rw[R3];exact F1.same (bU hq)
  ·rintro mm σ H' ⟨v4,v5,ρ,A,B,i,qk,ju,rfl,rfl,hi,R8,O,ajh,Cs,hQ,hP,wb,eF⟩;refine ⟨_,rfl,_,rfl,a,_,rfl,.inl (Lq.le.seq Cs),_,_,rfl,rfl,_,rfl,aI (λe=>?_) (λe=>?_)⟩
   ·rw[Zt,yA]at e;have bQ:l.drop i≠ []:=λz=>by have:=Zo List.length z;rw[yw,yB]at this;omega
    obtain ⟨p,r',t,c,R9,hd,rfl,Sa,pR⟩:=ai_ hP bQ;obtain ⟨n,k,xs,Gz,lz,BL,hc⟩:=JV Sa;obtain ⟨p0,p21,Jp,Jq⟩:=T4 Gz;obtain ⟨Jp,Jq⟩:=aja p0 p21 Jp Jq;obtain ⟨call,hec,hco,hsz⟩:=We Sa (eF c yV);have ajl:(p::r'.take n)::xs=((bV call).1::(bV call).2.1)::(bV call).2.2:=hc.symm.trans hec;injection ajl with i7 nN;injection i7 with mH oe;obtain ⟨dd,pC⟩:=Ln k BL;obtain ⟨j,NZ,oP,nL⟩:=Wi (l:=l) (i:=i) (d:=n+dd) bQ;have BM:l.drop j=t:=by rw[←NZ,pC,show i+1+(n+dd)=i+(1+(n+dd)) by omega,←zJ,hd,zJ];rw[show 1+(n+dd)=(n+dd)+1 by omega];rfl
    have hCA:QO l i p (r'.take n) xs j:=⟨r',t,n,k,hd,p0,Jp,Jq,lz,BL,rfl,BM,nL,oP⟩;have F':=R8.self hQ;rw[Wh hco]at wb;have ajn:=Zo List.length wb;simp only[yt,yu]at ajn;refine ⟨λbu H2=>∃(v4 v5:Option V) (ρ:Rl) (A:Ad) (B:bc) (ju:List Int),bu= [some (.ref a),some (.ref A.b),some (.ref q),some (.int j),v4,v5]/\NB aE aM aN H2 q ρ A B/\Ok B/\ρ q=0/\ag K (Lq ρ q H2) a (vi l)/\H2 q=some (.lst (vi ju))/\ju++qK (ak B) R9=PyVbdbag.answers l,?_,?_⟩
    ·rintro bu H2 ⟨v4,v5,ρ,A,B,ju,rfl,w1,w2,w3,w4,w5,w6⟩;exact ⟨l.length - j,by omega,v4,v5,ρ,A,B,j,R9,ju,rfl,rfl,nL,w1,w2,w3,w4,w5,by rw[BM];exact pR,w6,λc hc=>eF c (yU _ hc)⟩
    refine ⟨_,rfl,_,rfl,a,l,i,p,r'.take n,xs,j,rfl,Lq.le.seq Cs,hl,hCA,λH2 oc Jr nm rw as s2 ho hO cX sv kf pV Js j4 eK gc j2 hn3=>?_⟩;have nq:∀{b:Addr},H' b=none->b≠q:=λe z=>by rw[z,hQ]at e;cases e
    have oq:=nq ho;have nmq:=nq cX;have rwq:=nq kf;have asq:∀y∈as,y≠q:=λy hy=>nq (j4 y hy)
    refine ⟨_,rfl,oc,eA,Jr,_,_,rfl,hO,bD.cl,bD.eG,eU _ _ _ _,rfl,_,rfl,aI (λc0=> ?clr) (λc0=> ?Bd)⟩
    case' clr=>
     have vw:p=0:=by have:=ZA c0;injection this
     have fW:call= .clear:=by rw[vw]at mH;exact ajb mH
     refine λx2 Sb mz Sd anz=>⟨x2,Sb,rfl,ao,λHx d2 m2 r2 g2 h3 Jt=>⟨rfl,?_⟩⟩
     obtain ⟨_,sx,z3⟩:=Jj (CM:=aM) (CR:=aN) mz Sd h3 Jt;have tF:=ai9 (CM:=aM) (CR:=aN) mz Sd h3 Jt (s2 _ _ hQ);obtain ⟨A2,tG⟩:∃A2,A2=(⟨x2,Sb,d2,m2,r2,g2,[],[]⟩:Ad):=⟨_,rfl⟩;have Se:A2.b=x2:=by rw[tG]
     rw[←tG]at tF z3;obtain ⟨cY,jM⟩:∃cY,cY=dG A2:=⟨_,rfl⟩;rw[←jM]at tF z3;have nn:∀{b:Addr}{o:HO},H2 b=some o->cY b=0:=λe=>z3 _ (by rw[e];exact λy=>nomatch y)
     obtain ⟨B2,cy⟩:∃B2,B2=jQ:=⟨_,rfl⟩;rw[←cy]at tF;have O2:Ok B2:=by rw[cy];exact Kb
     have Sf:cY q=0:=nn (s2 _ _ hQ);have lx:ag K (Lq cY q Hx) a (vi l):=(Lq.mono λb o e _a _a=>⟨sx _ _ (s2 _ _ e),nn (s2 _ _ e)⟩:aq (Lq ρ q H') (Lq cY q Hx)).seq Cs;have Sg:cY oc=0:=nn hO;have Ju:∀y∈as,cY y=0:=λy hy=>by obtain ⟨_,_,e⟩:=Js.at hy;exact nn e
     have qD:Vbdbag.step (ak B2) call=Vbdbag.step (ak B) call:=by rw[fW];rfl
     have Sh:call= .clear->ak B2=Vbdbag.start:=λ_a=>by rw[cy];rfl
     have Si:x2=A2.b:=Se.symm;clear tG Se jM cy z3 Jt h3
    case' Bd=>
     have tF:=R8.same s2;obtain ⟨cY,jM⟩:∃cY,cY=ρ:=⟨_,rfl⟩;obtain ⟨A2,tG⟩:∃A2,A2=A:=⟨_,rfl⟩;obtain ⟨B2,cy⟩:∃B2,B2=B:=⟨_,rfl⟩;rw[←jM,←tG,←cy]at tF;have O2:Ok B2:=by rw[cy];exact O
     have Sf:cY q=0:=by rw[jM];exact ajh
     have sx:aq H2 H2:=aq.refl H2;have lx:ag K (Lq cY q H2) a (vi l):=(Lq.mono λb o e h0 _a=>⟨s2 _ _ e,by rw[jM];exact h0⟩:aq (Lq ρ q H') (Lq cY q H2)).seq Cs;have Sg:cY oc=0:=by rw[jM];exact F'.free ho
     have Ju:∀y∈as,cY y=0:=λy hy=>by rw[jM];exact F'.free (j4 y hy)
     have qD:Vbdbag.step (ak B2) call=Vbdbag.step (ak B) call:=by rw[cy]
     have Sh:call= .clear->ak B2=Vbdbag.start:=λe=>by refine absurd ?_ (Zz c0);rw[mH,e];rfl
     have Si:A.b=A2.b:=by rw[tG]
    all_goals
     rw[Si];have hQ2:=sx _ _ (s2 _ _ hQ);have eS:=Jk (H:=H2) (Js.same sx) Ju;refine ⟨q,_,hQ2,trivial,λod=>?_⟩;refine ⟨_,rfl,_,rfl,cY,A2,B2,oc,call,rfl,tF _,O2,(by rw[←nN,←mH,←oe];exact ⟨Jr,nm,rw,as,j,by rw[aA oq];exact sx _ _ hO,by rw[aA nmq];exact sx _ _ sv,by rw[aA rwq];exact sx _ _ pV,Jk (H:=H2) ((Js.same sx).aj λz=>asq q z rfl) Ju⟩),hsz,ajc call,Sh,λH3 Jv A3 B3 qa hb3 F3 O3 Sj ni Sk pqa Jw=>?_⟩;rw[qD]at Sj Jw;obtain ⟨sS,aju⟩:=ni q _ ao Sf;have Jx:qa≠q:=λz=>by rw[z,ao]at Sk;cases Sk
     have NB3:NB aE aM aN H3 q Jv A3 B3:=λo=>F3.bI sS o
     obtain ⟨hO3,_⟩:=ni oc _ (by rw[aA oq];exact sx _ _ hO) Sg;refine ⟨sS,?_⟩;refine ⟨_,rfl,.inl ⟨rfl,_,ag.of ao⟩,_,rfl,qa,_,rfl,.inl (ag.of (by rw[aA Jx];exact Jw)),q,_,_,rfl,rfl,ao,by rw[yA];omega,?_⟩;refine ⟨_,rfl,.inl ⟨rfl,_,ag.of ao⟩,_,rfl,q,qa,_,_,rfl,rfl,ao,by rw[aA Jx,aA Jx];exact Jw,by simp only[yt,yA,yu,yB];omega,?_⟩;refine ⟨_,rfl,oc,eA,Jr,_,_,rfl,by rw[aA oq,aA oq,aA oq];exact hO3,bD.cl,bD.P8,aeM _ _ _ _,?_⟩;refine ⟨_,_,Jv,A3,B3,ju++(((iP (Vbdbag.step (ak B) call).2).length:Int)::iP (Vbdbag.step (ak B) call).2),by rw[hb3];rfl,((NB3.aj _).aj _).aj _,O3,aju,?_,?_,?_⟩
     ·refine (Lq.mono λb o e h0 bq=>?_:aq (Lq cY q _) (Lq Jv q _)).seq lx;rw[aA bq,aA bq,aA bq];exact ni b o (by rw[aA bq];exact e) h0
     ·rw[ao,yA,dw,zD];rfl
     ·rw[Sj,zD];exact wb
   ·rw[Zr,yA]at e;have hz:l.drop i= []:=zK ZD;rw[hz]at hP;cases hP;rw[Wg,zE]at wb;subst wb;exact ⟨_,rfl,kk H' q hQ⟩
end
theorem ajx:∀{u:Value}{x:V},lR u=some x->bw x u
 | .none,_,h=>by cases h;rfl
 | .bool b,_,h=>by cases h;rfl
 | .int i t,_,h=>by cases h;exact ⟨t,rfl⟩
 | .str x t,_,h=>by cases h;exact ⟨t,rfl⟩
 | .bytes b t,_,h=>by cases h;exact ⟨t,rfl⟩
 | .float b t,_,h=>by cases h;exact ⟨t,rfl⟩
 | .ref a,_,h=>by cases h;rfl
 | .type n,_,h=>by cases h;rfl
theorem Sl:∀(us:List Value) (xs:List V),us.map lR=xs.map some->aV xs us
 | [],[],_=> .nil
 |u::us,x::xs,h=>by rw[yJ,yJ]at h;injection h with h1 h2;exact .cons (ajx h1) (Sl us xs h2)
theorem ajy {K:PySem.W.Frag}{a:Addr}{es:Array DictEntry}{ep:Nat}{D:List (Str×Int)}(e:List.lookup a K=some ⟨.type "dict",none,.dict es ep,#[]⟩) (h1:(a==sysModules)=false)
  (h2:∀get,KTD.rowsLook (KTD.datLooks get) es.toList (pF D)=true):hZ K a D:=by
 unfold hZ KTD.tabLook;rw[h1];simp only[zo,zp];show (match List.lookup a K with|some o=>_|none=>false)=true;rw[e];simp only[h2,zd];rfl
theorem Sm {K:PySem.W.Frag}{a:Addr}{od:Option Addr}{ay:Array Value}{n:Nat}{sl:Array (Option Value)}{xs:List V}(e:List.lookup a K=some ⟨.type "tuple",od,.seq ay n,sl⟩) (h1:ay.size<=1000) (h2:ay.toList.map lR=xs.map some):
  ∀H,cu K H a xs:=λH=> .inr ⟨_,ay,n,e,rfl,rfl,xE h1 ZE,Sl _ _ h2⟩
noncomputable def a8 (K:PySem.W.Frag) (x:Str) (st:Stmt):Prop:=∃(f:Addr) (fd:FuncData),gv K x x st f fd/\PySem.W.nsIn K mainGlobals x=some (some (.ref f))/\∃kV doc pm an aK ct,fd=PySem.W.fnOf x x (iX st) (gu st) (df st) .none kV doc pm an aK ct
theorem fnF {K:PySem.W.Frag}{x:Str}{st:Stmt}{f:Addr}{oc:Value}{od an:Option Addr}{iV:Array (Option Value)}{kV doc pm aK ct:Value}(h:PySem.W.nsIn K mainGlobals x=some (some (.ref f))) (l:List.lookup f K=some ⟨oc,od,.func (PySem.W.fnOf x x (iX st) (gu st) (df st) .none kV doc pm an aK ct),iV⟩)
  (c:PySem.W.codeIn K aK x=true) (k:PySem.W.keepIn K (.ref f)=true):a8 K x st:=⟨f,_,EV l c k,h,kV,doc,pm,an,aK,ct,rfl⟩
noncomputable def bH (K:PySem.W.Frag) (x:Str) (v:Int):Prop:=∃t,PySem.W.nsIn K mainGlobals x=some (some (.int v t))
theorem ciF {K:PySem.W.Frag}{x:Str}{v:Int}{t:Tok}(h:PySem.W.nsIn K mainGlobals x=some (some (.int v t))):bH K x v:=⟨t,h⟩
theorem bH.bA {K:PySem.W.Frag}{x:Str}{v:Int}{h:Heap}{mg:Str->Option Value}(X:K.In h) (G:h.Ns mainGlobals mg) (c:bH K x v):∃t,mg x=some (.int v t):=let ⟨t,e⟩:=c;⟨t,Zj X G e⟩
section
variable {K:PySem.W.Frag}{x qual:Str}{st:Stmt}{h:Heap}{mg:Str->Option Value}
theorem a8.m (X:K.In h) (G:h.Ns mainGlobals mg) (f:a8 K x st):a9 K mg x st:=let ⟨a,b,F,e,_⟩:=f;⟨a,b,F,Zj X G e⟩
noncomputable def ql (K:PySem.W.Frag) (x:Str) (L:List V):Prop:=∃a,PySem.W.nsIn K mainGlobals x=some (some (.ref a))/\∀H,cu K H a L
theorem tuF {a:Addr}{od:Option Addr}{ay:Array Value}{n:Nat}{sl:Array (Option Value)}{L:List V}(h:PySem.W.nsIn K mainGlobals x=some (some (.ref a))) (l:List.lookup a K=some ⟨.type "tuple",od,.seq ay n,sl⟩) (s:ay.size<=1000) (r:ay.toList.map lR=L.map some):ql K x L:=⟨a,h,Sm l s r⟩
theorem ql.bA {L:List V}(X:K.In h) (G:h.Ns mainGlobals mg) (c:ql K x L):∃a,mg x=some (.ref a)/\∀H,cu K H a L:=let ⟨a,e,r⟩:=c;⟨a,Zj X G e,r⟩
noncomputable def qm (K:PySem.W.Frag) (x:Str) (D:List (Str×Int)):Prop:=∃a,PySem.W.nsIn K mainGlobals x=some (some (.ref a))/\hZ K a D
theorem diF {a:Addr}{es:Array DictEntry}{n:Nat}{D:List (Str×Int)}(h:PySem.W.nsIn K mainGlobals x=some (some (.ref a))) (l:List.lookup a K=some ⟨.type "dict",none,.dict es n,#[]⟩) (s:(a==sysModules)=false) (r:∀get,KTD.rowsLook (KTD.datLooks get) es.toList (pF D)=true):qm K x D:=⟨a,h,ajy l s r⟩
theorem qm.bA {D:List (Str×Int)}(X:K.In h) (G:h.Ns mainGlobals mg) (c:qm K x D):∃a,mg x=some (.ref a)/\hZ K a D:=let ⟨a,e,r⟩:=c;⟨a,Zj X G e,r⟩
noncomputable def wc (K:PySem.W.Frag) (x:Str) (D:List (Int×List V)):Prop:=∃a,PySem.W.nsIn K mainGlobals x=some (some (.ref a))/\u0 K a D
theorem wc.bA {D:List (Int×List V)}(X:K.In h) (G:h.Ns mainGlobals mg) (c:wc K x D):∃a,mg x=some (.ref a)/\u0 K a D:=let ⟨a,e,r⟩:=c;⟨a,Zj X G e,r⟩
noncomputable def Jy (K:PySem.W.Frag) (es:Array DictEntry) (k:Int) (L:List V):Prop:=∃p,findBy Value.isInt es k=some (.ref p)/\∀H,cu K H p L
theorem Sn {es:Array DictEntry}{k:Int}{a:Addr}{od:Option Addr}{ay:Array Value}{n:Nat}{sl:Array (Option Value)}{L:List V}(h:findBy Value.isInt es k=some (.ref a)) (l:List.lookup a K=some ⟨.type "tuple",od,.seq ay n,sl⟩) (s:ay.size<=1000) (r:ay.toList.map lR=L.map some):Jy K es k L:=⟨a,h,Sm l s r⟩
theorem iiF {a:Addr}{es:Array DictEntry}{n:Nat}{k1 k2:Int}{l1 l2:List V}(h:PySem.W.nsIn K mainGlobals x=some (some (.ref a))) (l:List.lookup a K=some ⟨.type "dict",none,.dict es n,#[]⟩) (s:(es.toList.all λen=>match en.key with| .int k _=>en.hash==hashInt k|_=>false)=true) (t:Jy K es k1 l1) (u:Jy K es k2 l2):wc K x [(k1,l1),(k2,l2)]:=⟨a,h,abY l s (by
 intro r hr;rcases yT.mp hr with rfl|hr
 ·exact t
 ·rcases yT.mp hr with rfl|hr
  ·exact u
  ·cases hr)⟩
noncomputable def Ct (K:PySem.W.Frag) (C:Addr):List Str->Prop
 | []=>True
 |a::r=>PySem.W.findIn K (.ref C) a=some none/\Ct K C r
noncomputable def qo (K:PySem.W.Frag) (x qual:Str) (st:Stmt) (at_:List Str) (C:Addr):Prop:=∃f fd,PySem.W.nsIn K mainGlobals x=some (some (.ref C))/\jm K C/\gv K "__init__" qual st f fd/\Mk K C f/\Ct K C at_
theorem clF {C f:Addr}{oc:Value}{od an:Option Addr}{iV:Array (Option Value)}{kV doc pm aK ct:Value}{at_:List Str}(h:PySem.W.nsIn K mainGlobals x=some (some (.ref C))) (i:PySem.W.findIn K (.ref C) "__init__"=some (some (.ref f)))
  (l:List.lookup f K=some ⟨oc,od,.func (PySem.W.fnOf "__init__" qual (iX st) (gu st) (df st) .none kV doc pm an aK ct),iV⟩) (c:PySem.W.codeIn K aK qual=true) (k:PySem.W.keepIn K (.ref f)=true) (g:PySem.W.plainGet K C Str.empty=true) (d:PySem.W.hasDictIn K C=true)
  (p:PySem.W.plainOver K C=true) (s:PySem.W.findIn K (.ref C) "__setattr__"=some (some (.builtin "object.__setattr__"))) (m:PySem.W.makesIn K C=true) (n:PySem.W.isFn K (.ref f)=true) (q:PySem.W.keepIn K (.ref C)=true) (a:Ct K C at_):qo K x qual st at_ C:=⟨f,_,h,⟨g,d,p,s⟩,EV l c k,⟨m,i,n,q⟩,a⟩
end
structure Hd (K:PySem.W.Frag):Prop where
 ajD:PySem.W.nsIn K mainGlobals "abs"=some none
 ajE:PySem.W.nsIn K mainGlobals "all"=some none
 ajF:PySem.W.nsIn K mainGlobals "any"=some none
 ajG:PySem.W.nsIn K mainGlobals "len"=some none
 ajH:PySem.W.nsIn K mainGlobals "list"=some none
 ajI:PySem.W.nsIn K mainGlobals "max"=some none
 ajJ:PySem.W.nsIn K mainGlobals "min"=some none
 ajK:PySem.W.nsIn K mainGlobals "ord"=some none
 ajL:PySem.W.nsIn K mainGlobals "range"=some none
 ajM:PySem.W.nsIn K mainGlobals "sorted"=some none
 ajN:PySem.W.nsIn K mainGlobals "str"=some none
 ajO:PySem.W.nsIn K mainGlobals "sum"=some none
 ajP:bH K "LINE_END" 10
 ajQ:bH K "BLANK" 32
 ajR:bH K "DIGIT_ZERO" 48
 ajS:bH K "DIGIT_NINE" 57
 ajT:bH K "FIRST_LETTER" 65
 ajU:bH K "LAST_LETTER" 90
 ajV:bH K "GREATEST_BYTE" 255
 ajW:bH K "MOST_DIGITS" 5
 ajX:bH K "MOST_LETTERS" 8
 ajY:bH K "GREATEST_ROUND" 9
 ajZ:bH K "GREATEST_LEVEL" 5
 aj0:bH K "LATEST_RELEASE" 99999
 aj1:bH K "NO_FAULT" 0
 aj2:bH K "UNKNOWN_WORD" 1
 aj3:bH K "WRONG_REST" 2
 aj4:bH K "TOLD_BEFORE" 3
 aj5:bH K "NO_SUCH_ROUND" 4
 aj6:bH K "SEED_FACTOR" 100
 aj7:bH K "STATE_FACTOR" 1103515245
 aj8:bH K "STATE_STEP" 12345
 aj9:bH K "STATE_END" 2147483648
 aj_:bH K "DRAW_DIVISOR" 65536
 aka:bH K "OUT_OF_RANGE" (-1)
 akb:bH K "ALREADY_BEGUN" (-3)
 akc:bH K "TOO_LATE" (-4)
 akd:bH K "TOO_EARLY" (-4)
 ake:bH K "ORDER_LACKS" (-5)
 akf:bH K "HAS_RESULT" (-5)
 akg:bH K "MISSING" (-6)
 akh:bH K "NOT_POSSIBLE" (-7)
 aki:bH K "FULL" (-9)
 akj:bH K "COIN_FACTOR" 10000000
 akk:bH K "SIDES" 2
 akl:bH K "MOST_RULES_BYTES" 1500
 akm:bH K "MOST_TEXT_BYTES" 100
 akn:bH K "MOST_MOTIONS" 40
 ako:bH K "LATEST_NOW" 200000
 akp:bH K "GREATEST_ZONE" 900
 akq:bH K "EARLIEST_CLOCK" (-1000)
 akr:bH K "LATEST_CLOCK" 201000
 aks:bH K "GREATEST_ROOM" 99
 akt:bH K "MOST_ROOMS" 30
 aku:bH K "MOST_RANKED" 5
 akv:bH K "GREATEST_RANKED" 99
 akw:bH K "MOST_ROOMS_ASKED" 40
 akx:bH K "CLEAR" 0
 aky:bH K "RULES" 1
 akz:bH K "SHOWN" 2
 akA:bH K "MOTION" 3
 akB:bH K "STRIKE" 4
 akC:bH K "RESTORE" 5
 akD:bH K "CHOOSE" 6
 akE:bH K "APPEAL" 7
 akF:bH K "UNDO" 8
 akG:bH K "NOW" 9
 akH:bH K "SEE" 10
 akI:bH K "READ" 11
 akJ:bH K "ORDER" 12
 akK:bH K "DEBATE" 13
 akL:bH K "RESULT" 14
 akM:bH K "OFFERED" 15
 akN:bH K "MAY" 16
 akO:bH K "TOLD" 17
 akP:bH K "EVEN" 18
 akQ:bH K "WAYS" 19
 akR:bH K "LOT" 20
 akS:bH K "COUNTS" 21
 akT:qm K "DEFAULTS" pI
 akU:qm K "LEAST" Ft
 akV:qm K "GREATEST" Fu
 akW:wc K "WAYS_OF_ROOM" PQ
 akX:ql K "OF_A_ROUND" pJ
 akY:ql K "NUMBER_COUNTS" rN
 akZ:ql K "ROW_COUNTS" nS
 ak0:qo K "Reading" "Reading.__init__" Fn ["told","fault","line"] fY
 ak1:qo K "Motion" "Motion.__init__" Fo ["level","topic","text","struck"] aM
 ak2:qo K "Bank" "Bank.__init__" Fp ["told","motions","rounds","rooms","minute"] aE
 ak3:qo K "Room" "Room.__init__" Fq ["orders","result"] aN
 ak4:qo K "Call" "Call.__init__" Fs ["kind","numbers","rows","end"] eA
 ak5:a8 K "coded" N2
 ak6:a8 K "are_within" N3
 ak7:a8 K "are_bytes" N4
 ak8:a8 K "is_topic" N5
 ak9:a8 K "number_of" N6
 ak_:a8 K "digits_of" N7
 ala:a8 K "parted" N8
 alb:a8 K "lines_of" N9
 alc:a8 K "words_of" Oa
 ald:a8 K "joined" Ob
 ale:a8 K "setting" Oc
 alf:a8 K "level_fits" Od
 alg:a8 K "release_of" Og
 alh:a8 K "topic_fits" Oe
 ali:a8 K "is_number" Oh
 alj:a8 K "name_of" Oi
 alk:a8 K "read_setting" Oj
 alm:a8 K "read_levels" Ol
 aln:a8 K "read_release" Oo
 alo:a8 K "read_topics" Om
 alp:a8 K "read_rest" Oq
 alq:a8 K "take_line" Ot
 alr:a8 K "read_rules" Ou
 als:a8 K "shown_values" Ov
 alu:a8 K "shown_lines" Ow
 alv:a8 K "has_motion" Ox
 alw:a8 K "motion_of" Oz
 alx:a8 K "next_state" OG
 aly:a8 K "drawn" OH
 alz:a8 K "lot" OI
 alA:a8 K "read_call" PK
 alB:a8 K "fits" OJ
 alC:a8 K "topics_of" OD
 alD:a8 K "as_row" OO
 alE:a8 K "shown_answer" Pa
 alF:a8 K "has_round" Oy
 alG:a8 K "struck_count" OA
 alH:a8 K "offered_between" OB
 alI:a8 K "round_with" OC
 alJ:a8 K "released_by" OE
 alK:a8 K "is_released" OF
 alL:a8 K "points_of_room" Po
 alM:a8 K "with_another_room" Pp
 alN:a8 K "ways_of_rooms" Pq
 alO:a8 K "from_even" Pr
 alP:a8 K "just_so" Pt
 alQ:a8 K "so_far_or_further" Pu
 alR:a8 K "has_room" OP
 alS:a8 K "room_of" OQ
 alT:a8 K "room_count" OR
 alU:a8 K "has_both_orders" OS
 alV:a8 K "coin" OT
 alW:a8 K "without" OU
 alX:a8 K "left_in" OV
 alY:a8 K "rank" OW
 alZ:a8 K "debated" OX
 al0:a8 K "first_half_points" OY
 al1:a8 K "rooms_debating" OZ
 al2:a8 K "offerable" OK
 al3:a8 K "barred_beside" OL
 al4:a8 K "chosen" OM
 al5:a8 K "substitutes" ON
 al6:a8 K "offered_answer" O0
 al7:a8 K "may_answer" O1
 al8:a8 K "told_answer" O4
 al9:a8 K "lot_answer" O5
 al_:a8 K "counts_answer" O7
 ama:a8 K "rules_answer" O8
 amb:a8 K "motion_answer" Pb
 amc:a8 K "mark_struck" Pc
 amd:a8 K "strike_answer" Pd
 ame:a8 K "restore_answer" Pe
 amf:a8 K "choose_answer" Pf
 amg:a8 K "appeal_answer" Pg
 amh:a8 K "undo_answer" Ph
 ami:a8 K "now_answer" Pj
 amj:a8 K "is_clock" Pk
 amk:a8 K "see_answer" Pl
 aml:a8 K "read_answer" Pn
 amm:a8 K "is_order" Pw
 amn:a8 K "order_refusal" Px
 amo:a8 K "order_answer" Py
 amq:a8 K "debate_refusal" Pz
 amr:a8 K "debate_answer" PB
 ams:a8 K "result_answer" PD
 amt:a8 K "decimal_row" PF
 amu:a8 K "even_answer" PH
 amv:a8 K "ways_answer" PJ
 amw:a8 K "answer_when_asked" PN
 amx:a8 K "answer_on_rooms" PM
 amy:a8 K "answer_on_bank" PL
 amz:gv K "answers" "answers" rM 732 Br
theorem all_mk {h:Heap}(X:K.In h) (G:h.Ns mainGlobals mg) (Z:Hd K):
  gO P w K mg base fX 10 732 Br ["calls"] (Bs K):=by
 have T:Txt K mg:=⟨Zi X G Z.ajD,Zi X G Z.ajE,Zi X G Z.ajF,Zi X G Z.ajG,Zi X G Z.ajH,Zi X G Z.ajI,Zi X G Z.ajJ,Zi X G Z.ajK,Zi X G Z.ajL,Zi X G Z.ajM,Zi X G Z.ajN,Zi X G Z.ajO,Z.ajP.bA X G,Z.ajQ.bA X G,Z.ajR.bA X G,Z.ajS.bA X G,Z.ajT.bA X G,Z.ajU.bA X G,Z.ajV.bA X G,Z.ajW.bA X G,Z.ajX.bA X G,Z.ajY.bA X G,Z.ajZ.bA X G,Z.aj0.bA X G,Z.aj1.bA X G,Z.aj2.bA X G,Z.aj3.bA X G,Z.aj4.bA X G,Z.aj5.bA X G,Z.aj6.bA X G,Z.aj7.bA X G,Z.aj8.bA X G,Z.aj9.bA X G,Z.aj_.bA X G,Z.aka.bA X G,Z.akb.bA X G,Z.akc.bA X G,Z.akd.bA X G,Z.ake.bA X G,Z.akf.bA X G,Z.akg.bA X G,Z.akh.bA X G,Z.aki.bA X G,Z.akj.bA X G,Z.akk.bA X G,Z.akl.bA X G,Z.akm.bA X G,Z.akn.bA X G,Z.ako.bA X G,Z.akp.bA X G,Z.akq.bA X G,Z.akr.bA X G,Z.aks.bA X G,Z.akt.bA X G,Z.aku.bA X G,Z.akv.bA X G,Z.akw.bA X G,Z.akx.bA X G,Z.aky.bA X G,Z.akz.bA X G,Z.akA.bA X G,Z.akB.bA X G,Z.akC.bA X G,Z.akD.bA X G,Z.akE.bA X G,Z.akF.bA X G,Z.akG.bA X G,Z.akH.bA X G,Z.akI.bA X G,Z.akJ.bA X G,Z.akK.bA X G,Z.akL.bA X G,Z.akM.bA X G,Z.akN.bA X G,Z.akO.bA X G,Z.akP.bA X G,Z.akQ.bA X G,Z.akR.bA X G,Z.akS.bA X G,Z.akT.bA X G,Z.akU.bA X G,Z.akV.bA X G,Z.akW.bA X G,Z.akX.bA X G,Z.akY.bA X G,Z.akZ.bA X G⟩;obtain ⟨_,_,n,k,amA,amB,a0,a1,a2,_⟩:=Z.ak0;have gx:rP K mg fY:=⟨k,Zj X G n,a0,a1,a2⟩;obtain ⟨_,_,n,k,amC,amD,a0,a1,a2,a3,_⟩:=Z.ak1;have aL:bZ K mg aM:=⟨k,Zj X G n,a0,a1,a2,a3⟩;obtain ⟨_,_,n,k,amE,amF,a0,a1,a2,a3,a4,_⟩:=Z.ak2;have aw:b6 K mg aE:=⟨k,Zj X G n,a0,a1,a2,a3,a4⟩;obtain ⟨_,_,n,k,amG,amH,a0,a1,_⟩:=Z.ak3;have aS:cp K mg aN:=⟨k,Zj X G n,a0,a1⟩;obtain ⟨_,_,n,k,amI,amJ,a0,a1,a2,a3,_⟩:=Z.ak4;have bD:pK K mg eA:=⟨k,Zj X G n,a0,a1,a2,a3⟩;have lh:va:=ada (Z.ak5.m X G) T;have jE:rT:=adb (Z.ak6.m X G) T;have sR:Bt:=ade (Z.ak7.m X G) T jE;have r8:Bu:=adf (Z.ak8.m X G) T jE;have gT:pL:=adh (Z.ak9.m X G) T jE;have lu:vd:=adj (Z.ak_.m X G) T lh;have rV:Bv:=adl (Z.ala.m X G) T;have Ge:FC:=adn (Z.alb.m X G) T rV;have Gf:FD:=ado (Z.alc.m X G) T rV;have BF:FF:=adq (Z.ald.m X G) T;have cG:ia:=adu (Z.ale.m X G) T;have GI:FJ:=adw (Z.alf.m X G) T;have mB:vf:=ady (Z.alg.m X G) T;have GH:FK:=adA (Z.alh.m X G) T;have ib:rX:=adC (Z.ali.m X G) T gT;have F4:FN:=adG (Z.alj.m X G) T lh;have FW:FO:=adL (Z.alk.m X G) T gT ib;have FX:FQ:=adQ (Z.alm.m X G) T ib gT;have FZ:FR:=adS (Z.aln.m X G) T ib gT;have FY:FU:=adV (Z.alo.m X G) T ib gT r8;have F9:FV:=adX (Z.alp.m X G) T FW FX FY FZ;have Gg:F0:=ad2 (Z.alq.m X G) T F4 F9;have vk:Ql:=ad5 amA T gx amB;have Hq:Gd:=ad9 (Z.alr.m X G) T gx Ge vk Gf Gg cG;have Gm:Gi:=aed (Z.als.m X G) T lu;have GL:Gk:=aeg (Z.alu.m X G) T BF lh lu cG Gm;have Hu:QH:=aew amC T aL amD;have mJ:vq:=aey (Z.alv.m X G) T aw aL;have ff:mw:=aeA (Z.alw.m X G) T aw aL;have sj:BH:=aeC (Z.alx.m X G) T;have so:BI:=aeE (Z.aly.m X G) T;have sJ:BJ:=aeH (Z.alz.m X G) T aw aL sj cG so;have GD:QM:=aeL amI T bD amJ;have Jl:GC:=aeO (Z.alA.m X G) T bD GD;have Hb:GG:=ae0 (Z.alB.m X G) T aw aL GH GI;have mG:vy:=ae2 (Z.alC.m X G) T aw aL ff;have dE:ki:=ae5 (Z.alD.m X G) T;have IX:GK:=ae8 (Z.alE.m X G) T aw aL GL dE;have ip:pZ:=ae_ (Z.alF.m X G) T aw aL aS;have sQ:BR:=afb (Z.alG.m X G) T aw aL aS;have oA:BS:=afd (Z.alH.m X G) T aw aL aS;have Hk:GO:=aff (Z.alI.m X G) T aw aL aS;have mC:vC:=afh (Z.alJ.m X G) T aw aL aS mB;have mK:vD:=afj (Z.alK.m X G) T aw aL aS mC;have tu:BV:=afs (Z.alL.m X G) T;have GV:GU:=afv (Z.alM.m X G) T;have tq:BW:=afx (Z.alN.m X G) T GV;have qg:BX:=afz (Z.alO.m X G) T;have Ik:GW:=afB (Z.alP.m X G) T;have tw:BY:=afD (Z.alQ.m X G) T qg;have HS:Q5:=afE amG T aS amH;have lC:vJ:=afG (Z.alR.m X G) T aw aL aS;have f7:oz:=afI (Z.alS.m X G) T aw aL aS;have sP:BZ:=afK (Z.alT.m X G) T aw aL aS;have sX:B1:=afM (Z.alU.m X G) T aw aL aS;have sF:B4:=afO (Z.alV.m X G) T aw aL aS so sj cG;have GZ:GY:=afQ (Z.alW.m X G) T;have sG:B5:=afS (Z.alX.m X G) T aw aL aS GZ;have G2:G1:=afV (Z.alY.m X G) T aw aL aS;have mE:vM:=afY (Z.alZ.m X G) T aw aL aS f7 sF sG G2;have tj:B7:=af3 (Z.al0.m X G) T;have Ie:G9:=af6 (Z.al1.m X G) T aw aL aS mE;have mI:vP:=agb (Z.al2.m X G) T aw aL aS oA mG sJ ff Hb cG;have sL:B9:=agh (Z.al3.m X G) T aw aL aS mG cG;have Hz:Hc:=agj (Z.al4.m X G) T aw aL aS mI cG sL ff;have HC:Hf:=agl (Z.al5.m X G) T aw aL aS oA mI mG sL cG ff;have Iq:Hh:=agv (Z.al6.m X G) T aw aL aS ip dE mB sP;have Ir:Hi:=agx (Z.al7.m X G) T aw aL aS mI dE;have Iu:Hj:=agz (Z.al8.m X G) T aw aL aS ff mJ dE Hk
 have Iv:Hl:=agB (Z.al9.m X G) T aw aL aS sJ dE;have Iw:Hm:=agD (Z.al_.m X G) T aw aL aS sQ;have IW:Ho:=agP (Z.ama.m X G) T aw aL aS gx Hq cG sR;have IY:Ht:=agT (Z.amb.m X G) T aw aL aS Hu r8 sR;have sU:Cc:=agZ (Z.amc.m X G) T aw aL aS ff mJ sQ;have IZ:Hv:=ag1 (Z.amd.m X G) T aw aL aS sU;have I0:Hw:=ag3 (Z.ame.m X G) T aw aL aS sU;have Ja:Hy:=ag5 (Z.amf.m X G) T aw aL aS Hz cG;have Jb:HB:=ag8 (Z.amg.m X G) T aw aL aS mK HC ip;have Jc:HE:=ag_ (Z.amh.m X G) T aw aL aS mK;have Jd:HF:=ahb (Z.ami.m X G) T aw aL aS mC;have sV:Cd:=ahd (Z.amj.m X G) T;have Je:HG:=ahf (Z.amk.m X G) T aw aL aS mC sV dE;have Jf:HJ:=ahi (Z.aml.m X G) T aw aL aS ff ip sV dE mB;have HN:HK:=ahk (Z.amm.m X G) T jE;have HR:HM:=ahm (Z.amn.m X G) T aw aL aS ip mK lC HN sP f7;have IG:HQ:=ahu (Z.amo.m X G) T aw aL aS HR f7 lC HS sX mE;have sZ:Ck:=ahU (Z.amq.m X G) T aw aL aS sX ip lC f7;have IH:Ia:=ahW (Z.amr.m X G) T aw aL aS sZ sG f7 dE mE sF;have II:Ib:=ah2 (Z.ams.m X G) T aw aL aS sZ f7 tj cG;have mM:Cm:=ah7 (Z.amt.m X G) T dE lu;have IJ:Ic:=ah_ (Z.amu.m X G) T aw aL aS cG Ie tq mJ mM tj tu tw;have IK:Ij:=aih (Z.amv.m X G) T aw aL aS cG tq mM qg Ik tw tu;have IF:Ip:=aiP (Z.amw.m X G) T aw aL aS bD Iq Ir Iu Iv Iw;have IV:IE:=aiX (Z.amx.m X G) T aw aL aS bD IF IG IH II IJ IK;have Jm:IU:=ai2 (Z.amy.m X G) T aw aL aS bD gx IV IW IX IY IZ I0 Ja Jb Jc Jd Je Jf;have Cr:R6:=ai4 amE T aw amF;exact ajd Z.amz T aw aL aS bD gx Cr Jl Jm
section
variable {K:PySem.W.Frag}{x qual:Str}{st:Stmt}
theorem bN {v:Int}(t:Tok) (h:PySem.W.nsIn K mainGlobals x=some (some (.int v t)):=by kernel_rfl):bH K x v:=⟨t,h⟩
theorem bh (f:Addr) (pm:Value) (h:PySem.W.nsIn K mainGlobals x=some (some (.ref f)):=by kernel_rfl) (l:List.lookup f K=some ⟨.type "function",none,.func (PySem.W.fnOf x x (iX st) (gu st) (df st) .none .none .none pm none (.ref (f - 1)) .none),#[]⟩:=by kernel_rfl)
  (c:PySem.W.codeIn K (.ref (f - 1)) x=true:=by kernel_rfl) (k:PySem.W.keepIn K (.ref f)=true:=by kernel_rfl):a8 K x st:=fnF h l c k
theorem Jz {D:List (Str×Int)}(a:Addr) (h:PySem.W.nsIn K mainGlobals x=some (some (.ref a)):=by kernel_rfl) (r:KTD.tabLook (KTD.datLooks λb=>List.lookup b K) (λb=>List.lookup b K) a (pF D)=true:=by kernel_rfl):qm K x D:=⟨a,h,r⟩
noncomputable def mN (K:PySem.W.Frag) (a:Addr):List Value:=match List.lookup a K with
 |some ⟨_,_,.seq xs _,_⟩=>xs.toList
 |_=> []
noncomputable def Cu (K:PySem.W.Frag) (a:Addr):List DictEntry:=match List.lookup a K with
 |some ⟨_,_,.dict xs _,_⟩=>xs.toList
 |_=> []
theorem JA {L:List V}(a:Addr) (h:PySem.W.nsIn K mainGlobals x=some (some (.ref a)):=by kernel_rfl) (l:List.lookup a K=some ⟨.type "tuple",none,.seq (mN K a).toArray 0,#[]⟩:=by kernel_rfl) (s:Nat.ble (mN K a).toArray.size 1000=true:=by kernel_rfl) (r:(mN K a).toArray.toList.map lR=L.map some:=by kernel_rfl):ql K x L:=tuF h l (xx s) r
theorem iiG {k1 k2:Int}{l1 l2:List V}(a:Addr) (h:PySem.W.nsIn K mainGlobals x=some (some (.ref a)):=by kernel_rfl) (l:List.lookup a K=some ⟨.type "dict",none,.dict (Cu K a).toArray 2,#[]⟩:=by kernel_rfl)
  (s:((Cu K a).toArray.toList.all λen=>match en.key with| .int k _=>en.hash==hashInt k|_=>false)=true:=by kernel_rfl)
  (t1:findBy Value.isInt (Cu K a).toArray k1=some (.ref (a+1)):=by kernel_rfl) (t2:List.lookup (a+1) K=some ⟨.type "tuple",none,.seq (mN K (a+1)).toArray 0,#[]⟩:=by kernel_rfl) (t3:Nat.ble (mN K (a+1)).toArray.size 1000=true:=by kernel_rfl) (t4:(mN K (a+1)).toArray.toList.map lR=l1.map some:=by kernel_rfl)
  (u1:findBy Value.isInt (Cu K a).toArray k2=some (.ref (a+2)):=by kernel_rfl) (u2:List.lookup (a+2) K=some ⟨.type "tuple",none,.seq (mN K (a+2)).toArray 0,#[]⟩:=by kernel_rfl) (u3:Nat.ble (mN K (a+2)).toArray.size 1000=true:=by kernel_rfl) (u4:(mN K (a+2)).toArray.toList.map lR=l2.map some:=by kernel_rfl):wc K x [(k1,l1),(k2,l2)]:=
 iiF h l s (Sn t1 t2 (xx t3) t4) (Sn u1 u2 (xx u3) u4)
theorem we {at_:List Str}(C:Addr) (pm:Value) (h:PySem.W.nsIn K mainGlobals x=some (some (.ref C)):=by kernel_rfl) (i:PySem.W.findIn K (.ref C) "__init__"=some (some (.ref (C - 3))):=by kernel_rfl)
  (l:List.lookup (C - 3) K=some ⟨.type "function",none,.func (PySem.W.fnOf "__init__" qual (iX st) (gu st) (df st) .none .none .none pm none (.ref (C - 4)) .none),#[]⟩:=by kernel_rfl) (c:PySem.W.codeIn K (.ref (C - 4)) qual=true:=by kernel_rfl) (k:PySem.W.keepIn K (.ref (C - 3))=true:=by kernel_rfl) (g:PySem.W.plainGet K C Str.empty=true:=by kernel_rfl) (d:PySem.W.hasDictIn K C=true:=by kernel_rfl)
  (p:PySem.W.plainOver K C=true:=by kernel_rfl) (s:PySem.W.findIn K (.ref C) "__setattr__"=some (some (.builtin "object.__setattr__")):=by kernel_rfl) (m:PySem.W.makesIn K C=true:=by kernel_rfl) (n:PySem.W.isFn K (.ref (C - 3))=true:=by kernel_rfl) (q:PySem.W.keepIn K (.ref C)=true:=by kernel_rfl)
  (a:Ct K C at_:=by repeat' first|exact True.intro|refine And.intro ?_ ?_|kernel_rfl):qo K x qual st at_ C:=clF h i l c k g d p s m n q a
end
noncomputable def m0:Value:= .str "motionbank.words" 187
noncomputable def m1:Value:= .str "motionbank.rules" 282
noncomputable def m2:Value:= .str "motionbank.bank" 513
noncomputable def m3:Value:= .str "motionbank.choosing" 651
noncomputable def m4:Value:= .str "motionbank.replies" 735
noncomputable def m5:Value:= .str "motionbank.rooms" 771
noncomputable def m6:Value:= .str "motionbank.asking" 890
noncomputable def m7:Value:= .str "motionbank.calls" 935
noncomputable def m8:Value:= .str "motionbank.chances" 1075
noncomputable def m9:Value:= .str "motionbank.roomcalls" 1141
noncomputable def wg:Value:= .str "motionbank.house" 1241
theorem hdK (P:Params):Hd (Kc P):=⟨by kernel_rfl,by kernel_rfl,by kernel_rfl,by kernel_rfl,by kernel_rfl,by kernel_rfl,by kernel_rfl,by kernel_rfl,by kernel_rfl,by kernel_rfl,by kernel_rfl,by kernel_rfl,bN 189,bN 191,bN 193,bN 195,bN 197,bN 199,bN 201,bN 203,bN 205,bN 345,bN 347,bN 349,bN 351,bN 353,bN 355,bN 357,bN 359,bN 653,bN 655,bN 657,bN 659,bN 661,bN 738,bN 741,bN 744,bN 747,bN 750,bN 753,bN 756,bN 759,bN 762,bN 773,bN 775,bN 937,bN 939,bN 941,bN 943,bN 945,bN 948,bN 950,bN 1143,bN 1145,bN 1147,bN 1149,bN 1151,bN 1243,bN 1245,bN 1247,bN 1249,bN 1251,bN 1253,bN 1255,bN 1257,bN 1259,bN 1261,bN 1263,bN 1265,bN 1267,bN 1269,bN 1271,bN 1273,bN 1275,bN 1277,bN 1279,bN 1281,bN 1283,bN 1285,Jz 79,Jz 80,Jz 81,iiG 571,JA 82,JA 675,JA 676,by unfold fY;exact we 99 m1,by unfold aM;exact we 215 m2,by unfold aE;exact we 236 m2,by unfold aN;exact we 375 m5,by unfold eA;exact we 693 wg,bh 19 m0,bh 24 m0,bh 31 m0,bh 38 m0,bh 45 m0,bh 52 m0,bh 59 m0,bh 66 m0,bh 71 m0,bh 78 m0,bh 110 m1,bh 117 m1,bh 131 m1,bh 124 m1,bh 138 m1,bh 145 m1,bh 152 m1,bh 157 m1,bh 169 m1,bh 164 m1,bh 176 m1,bh 183 m1,bh 188 m1,bh 193 m1,bh 198 m1,bh 247 m2,bh 261 m2,bh 304 m3,bh 311 m3,bh 318 m3,bh 704 wg,bh 325 m3,bh 285 m2,bh 358 m4,bh 493 m7,bh 254 m2,bh 266 m2,bh 273 m2,bh 280 m2,bh 290 m2,bh 297 m2,bh 580 m8,bh 587 m8,bh 594 m8,bh 601 m8,bh 608 m8,bh 613 m8,bh 386 m5,bh 393 m5,bh 398 m5,bh 403 m5,bh 410 m5,bh 415 m5,bh 422 m5,bh 427 m5,bh 432 m5,bh 437 m5,bh 444 m5,bh 332 m3,bh 339 m3,bh 346 m3,bh 351 m3,bh 451 m6,bh 458 m6,bh 465 m6,bh 472 m6,bh 479 m6,bh 486 m7,bh 500 m7,bh 507 m7,bh 514 m7,bh 521 m7,bh 528 m7,bh 535 m7,bh 542 m7,bh 549 m7,bh 556 m7,bh 563 m7,bh 570 m7,bh 620 m9,bh 627 m9,bh 634 m9,bh 641 m9,bh 648 m9,bh 655 m9,bh 662 m9,bh 667 m9,bh 674 m9,bh 725 wg,bh 718 wg,bh 711 wg,EV (oc:= .type "function") (od:=none) (iV:=#[]) (by kernel_rfl) (by kernel_rfl) (by kernel_rfl)⟩
theorem good:Good e0:=by
 intro h X G;have Z:Hd K:=by unfold K;exact hdK _
 have r:=all_mk (h:=h) (by unfold K;exact X) (by unfold mg;exact G) Z;unfold P w K mg base at r;exact r
noncomputable def dA:DefRec:=((PySem.W.defOf q0 "answers").get (by kernel_rfl)).1
theorem dn:dA.name="answers":=ZF
theorem dd:dA.params.defaults= []:=ZF
theorem d1:PySem.W.defOf q0 "answers"=some (dA,[]):=ZF
theorem d2:PySem.Challenge.pw_motionbank_s01_answers.theDef "answers"=some (dA.params,dA.body,dA.scope):=ZF
theorem d3:PySem.W.kwWritten? dA.params.kwonlyargs dA.params.kw_defaults=some []:=ZF
theorem d4:(PySem.W.chainsOk q0&&PySem.W.opensWell PySem.Challenge.pw_motionbank_s01_answers)=true:=ZF
end Mb
open PySem PySem.W PyProof.Rows
set_option maxRecDepth 100000 in
set_option maxHeartbeats 0 in
theorem PySem.Challenge.cw_motionbank_s01_answers_holds : PySem.Challenge.rw_motionbank_s01_answers.Holds := by
 refine holds_os (q:=Mb.q0) (loose:=Mb.ku) (Xt:=Mb.CB) (XP:=XL Mb.q0 []) (YP:=Hook.says (kHook Mb.Kc (List.range 733) Mb.CG)) (d:=Mb.dA) (kwd:= []) (N:=10270) Mb.Tc (Hook.of (kHook Mb.Kc (List.range 733) Mb.CG)) (Hook.keeps (kHook Mb.Kc (List.range 733) Mb.CG)) (λs e=>xl_of s (Bool.and_eq_true_iff.mp e).1) XL.keeps Mb.d1 Mb.d2 Mb.d3 (λs e=>recFacts_of (Bool.and_eq_true_iff.mp e).2) os_shapes Mb.JB Mb.d4 ⟨rfl,rfl,rfl,rfl,rfl,by decide +kernel⟩ ⟨[.list [.int 6]],by decide +kernel,by decide +kernel⟩ ?_;refine L2.aaW (r:=PySem.Challenge.rw_motionbank_s01_answers) (k:=10) (CX:=L2.fX) (K:=Mb.Kc) (ps:= ["calls"]) (sp:=Mb.Bs) Mb.JB Mb.dd rfl ⟨rfl,by decide,by decide⟩ (λw h Y=>kIn_of Y) ?F ?S (λ_a _a _a _a z=>z)
 case F=>intro w mg fa h Y KX G A9;have h1:=mg_of (n:="answers") (v:= .ref 732) KX G (by kernel_rfl);rw[Mb.dn,h1]at A9;cases A9;exact ⟨Mb.Br,λs us hu=>match us,hu with| [_],_=> .of_eq rfl,λbase _a _a=>Mb.ac2 Mb.good ⟨w,mg,base⟩ h KX G⟩
 case S=>
  intro K H xs a hO l8 Jn hx;cases hx with
  |cons h1 h2=>
   cases h2;cases h1 with
   |lst hs ha=>have e:=L2.Ng a.1 _ ha;subst e;have q:((Codec.inLen 0 16000 a.1&&a.1.all (Codec.inInt (-1000000000000000000) 1000000000000000000))&&true)=true:=l8;rw[za,za]at q;exact ⟨_,a.1,rfl,hs,(Codec.inNat_iff.mp q.1.1).2,Jn,λH' p hp=> .lst (L2.ag.of hp) (L2.Nf _)⟩
#print axioms PySem.Challenge.cw_motionbank_s01_answers_holds
