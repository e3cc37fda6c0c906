import PyProof.Rows.All
import Wide.All
import OpenK.AllK
import Wide.FinOn
import Lean
import PyProof.EqAt
import PyProof.EqKinds
import PyProof.TupleCall
import KE.KTryMore
import KE.KIntText
import KE.RegKTryMore
import PySem.Challenge.RW_samewise_k80_room_left_out
set_option Elab.async false
set_option linter.all false
namespace KHd
open PySem PySem.W PySem.Calls PyProof.Rows
theorem left_boot {p q:Program} {loose:List Str} {Xt:Shared→Bool} {α : Type} {Yf:Shared → α} {Ya:World → α} {N:Nat} (e:opening p=plainProg p.main.scope.names) (hN:Nat.ble 600 N=true) (f:∀ s,fenceModules? p s=some s)
    (h:∀ (w:World) (os:OsState),(topFrom treeTable p w N ⟨boot_heap w.params,Array.mk [],boot_drawn,boot_toks,os⟩).map (fun s=>(openSeen q loose (importedModules p.main.body) Xt true s,Yf s))=some (openGood q loose,Ya w)):LeftO p q loose Xt Yf Ya N:=fun w=>by
  obtain ⟨⟨hp,gs,d,k,os⟩,e1,e2⟩:=Option.map_eq_some_iff.mp (boot_open e hN f w)
  have e3:hp=boot_heap w.params∧gs=Array.mk []∧d=boot_drawn∧k=boot_toks:=by simpa only [Prod.mk.injEq] using e2
  obtain ⟨z1,z2,z3,z4⟩:=e3
  subst z1 z2 z3 z4
  unfold openEnds
  rw [e1]
  exact h w os
noncomputable def pickL {α : Type} (l:List α) (is:List Nat):List α := is.filterMap fun i=>l[i]?
noncomputable def prg:Program:=PySem.Challenge.pw_samewise_k80_room_left_out
noncomputable def view:Program := { prg with main := { prg.main with body:=pickL prg.main.body [0,2,3,4,5,6,7,8,9,11,12,13,14,15,16,18,19,20,21,22,23,25,27,28,30,31,32,33,34,35,36,38,39,40,41,42,43,44,45,46,47,48,49,50,51,52,53,55,56,57,59,60,61,62,63,65,66,67,68,70,71,72,73,74,75,76,79,80,81,82,83,85,86,87,88,90,91,92,93,94,95,96,97,98,99,100,101,102,103,105,106,107,108,109,110,111,112,114,115,116,117,118,119,120,122,123,124,125,126,127,129,130,131,132,133,134,135,136,137,138,139,142,143,145,146,147,148,149,150] } }
structure HS where
  T:BT
  n:Nat
  k:Nat
noncomputable def fc {α : Type} (n:Nat) (f:Nat → α) : α := match n with
  | 0=>f 0
  | m+1=>f (m+1)
noncomputable def fv {α : Type} (v:Value) (f:Value → α) : α := match v with
  | .str x t=>fc t fun t=>f (.str x t)
  | .ref a=>fc a fun a=>f (.ref a)
  | v=>f v
noncomputable def HS.al (s:HS) (o:Obj):HS:=match s with
  | ⟨T,n,k⟩=>fc n fun n=>⟨T.ins n o,n+1,k⟩
noncomputable def HS.up (s:HS) (a:Nat) (f:Obj→Obj):HS:=match s with
  | ⟨T,n,k⟩=>⟨T.set a f,n,k⟩
noncomputable def HS.tk (s:HS) (d:Nat):HS:=match s with
  | ⟨T,n,k⟩=>fc k fun k=>⟨T,n,k+d⟩
noncomputable def oTup (l:List Value):Obj := { cls := .type "tuple",data := .seq l.toArray 0 }
noncomputable def oFld (c:Value) (l:List Value):Obj := { cls:=c,data := .fields l.toArray }
noncomputable def hstr:List Str→Nat→List Value
  | [],_ => []
  | x :: r,t => .str x t :: hstr r (t+1)
noncomputable def ri (n:Nat):Value := .int n 0
noncomputable def cutF:Str := "/claim/cut.py"
noncomputable def hkey (P:Params) (x:Str) (t:Nat) (v:Value) (es:Array DictEntry):Array DictEntry:=es.push ⟨PyData.keyHash P x,.str x t,v⟩
noncomputable def gset (P:Params) (s:HS) (d:Nat) (x:Str) (v:Value):HS:=fc s.k fun t=>(s.up d (Obj.mapDictKeys (hkey P x t v))).tk 1
noncomputable def hcon:Expr→Nat→Value × Nat
  | .Constant (.int i) _ _,t=>(.int i t,t+1)
  | .Constant (.str x) _ _,t=>(.str x t,t+1)
  | .Constant (.bool b) _ _,t=>(.bool b,t)
  | _,t=>(.none,t)
noncomputable def hcons:List Expr→Nat→List Value × Nat
  | [],t=>([],t)
  | e :: r,t=>match hcon e t with
    | (v,t')=>match hcons r t' with
      | (vs,t'')=>(v :: vs,t'')
noncomputable def hcode (name q:Str) (line argc fl:Nat) (fr:Nat) (isF:Bool) (pl:Nat) (a b c:Value) (t:Nat) (k:Nat):Obj :=
  oFld (.type "code") [.str name t,.str q (t+1),.str cutF (t+2),ri line,ri argc,ri 0,ri 0,ri fl,.ref fr,.bool isF,ri 181,.ref pl,.none,a,b,c,ri k,ri line,.str cutF (k+1)]
noncomputable def hdef (s:HS) (ctx:Nat) (md:Value) (q name:Str) (args:Arguments) (body:List Stmt) (sc:Scope) (pos:Pos) (fl:Bool):HS :=
  fc s.k fun t=>match hcons args.defaults t with
  | (ds,t)=>fc t fun t =>
    let s:=match ds with | []=>s | _=>s.al (oTup ds)
    fc s.n fun n =>
    let dv:Value:=match ds with | [] => .none | _ => .ref (n - 1)
    let s:=(s.al (oTup [])).al (oFld .none [])
    let ns:=(sc.names.filter fun x=>match x.2 with | .local=>true | .cell=>(args.args.map (·.arg)).contains x.1 | _=>false).map (·.1)
    let cs:=(sc.names.filter fun x=>match x.2 with | .cell=>true | _=>false).map (·.1)
    fc (t+3+ns.length) fun u =>
    let s:=match fl with | true=>s | false=>(s.al (oTup (hstr ns (t+3)))).al (oTup (hstr cs u))
    fc (match fl with | true=>t+3 | false=>u+cs.length) fun k =>
    let va:Value:=match fl with | true => .none | false => .ref (n+2)
    let vb:Value:=match fl with | true => .none | false => .ref (n+3)
    fc s.n fun m =>
    let fd:FuncData := { name:=name,qualname:=q,params:=args,body := .stmts body,scope:=sc,globals:=0,closure := [],defaults := .none,kwdefaults := .none }
    let s:=(s.al { cls := .none,data := .func fd }).al (hcode name q pos.line args.args.length 3 n true (n+1) va vb (.ref m) t k)
    let s:=(s.up ctx (Obj.mapFields (· ++ #[ri pos.line,ri pos.col,.ref (m+1)]))).al { cls := .type "function",data := .func { name:=name,qualname:=q,params:=args,body := .stmts body,scope:=sc,globals:=3,closure := [],defaults:=dv,kwdefaults := .none,pyModule:=md,code := .ref (m+1) } }
    match s with
    | ⟨T,n,_⟩=>⟨T,n,k+2⟩
noncomputable def gname (s:HS):Value:=match s.T.get 3 with
  | some ⟨_,_,.dict es _,_⟩=>match es.toList with
    | e :: _=>e.val
    | [] => .none
  | _ => .none
noncomputable def hmeths (P:Params) (ctx ns:Nat) (md:Value) (cq:Str):List Stmt→Nat→HS→HS × Nat
  | [],f,s=>(s,f)
  | .FunctionDef name args body _ _ _ sc _ _ pos :: r,f,s =>
    let s:=hdef s ctx md (cq ++ "." ++ name) name args body sc pos (Nat.beq (f % 2) 1)
    fc s.n fun n=>hmeths P ctx ns md cq r (f / 2) (gset P s ns name (.ref (n - 1)))
  | _ :: r,f,s=>hmeths P ctx ns md cq r f s
noncomputable def gfind (s:HS) (x:Str):Value:=match s.T.get 3 with
  | some ⟨_,_,.dict es _,_⟩=>match es.toList.find? (fun e=>e.key.isStr x) with
    | some e=>e.val
    | none => .type x.toString
  | _ => .none
noncomputable def cdata (s:HS) (a:Nat):Option ClassData:=match s.T.get a with
  | some ⟨_,_,.cls c,_⟩=>some c
  | _=>none
noncomputable def hclass (P:Params) (s:HS) (name:Str) (bases:List Expr) (body:List Stmt) (st:List Str) (pos:Pos) (f:Nat):HS × Nat :=
  fv (gname s) fun md=>fc s.k fun t=>fc s.n fun n =>
  let bs:=match bases with
    | [.Name x _]=>fv (gfind s x) fun v => [v]
    | _ => []
  let s:=((s.al (oTup bs)).al (oFld (.type "builtin_function_or_method") [.builtin "type.__prepare__",.type "type"])).al { cls := .type "dict",data := .dict #[] 0 }
  let s:=(s.al (oTup [])).al (oFld .none [])
  let s:=s.al (hcode name name pos.line 0 0 (n+3) false (n+4) .none .none .none (t+2) (t+5))
  let s:=s.al { cls := .type "frame",slots := #[some (.ref (n+5)),some (.ref 3),some (.ref (n+2)),none,some md,none,some (.ref 0)] }
  let s:HS:=match s with | ⟨T,m,_⟩=>⟨T.set 12 (Obj.mapFields (· ++ #[ri pos.line,ri pos.col,.ref (n+5)])),m,t+7⟩
  let s:=gset P s (n+2) "__module__" md
  let q:Value := .str name (t+8)
  let s:=gset P (s.tk 1) (n+2) "__qualname__" q
  let s:=gset P (s.tk 1) (n+2) "__firstlineno__" (.int pos.line (t+10))
  match hmeths P (n+4) (n+2) md name body f s with
  | (s,f) =>
    fc s.n fun sa=>fc s.k fun u =>
    let s:=(s.al (oTup (hstr st u))).tk st.length
    let s:=gset P s (n+2) "__static_attributes__" (.ref sa)
    let es:=match s.T.get (n+2) with
      | some ⟨_,_,.dict es _,_⟩=>es.toList
      | _ => []
    let es:=(es.filter fun e => !e.key.isStr "__qualname__").toArray
    let own:Value := .ref (sa+2)
    let s:=s.al { cls := .type "dict",data := .dict es 1 }
    let mro:=match bs with
      | [.ref b]=>match cdata s b with | some d=>d.mro | none => []
      | [.type "ValueError"] => [.type "ValueError",.type "Exception",.type "BaseException",.type "object"]
      | _ => [.type "object"]
    let new:=match mro.contains (.type "ValueError") with | true => "ValueError.__new__" | false => "object.__new__"
    let s:=s.al { cls := .type "type",data := .cls { name:=name,bases:=match bs with | [] => [.type "object"] | _=>bs,mro:=own :: mro,ns:=sa+1,qualname:=name },slots := #[match bs with | []=>none | _=>some (.ref n),none,some (.str name t),some q,some (.builtin new),some (.bool true)] }
    let desc (s:HS) (x:Str) (a b:Value):HS:=fc s.k fun k=>fc s.n fun n=>gset P ((s.al (oFld (.type "getset_descriptor") [.str x k,own,a,b])).tk 1) (sa+1) x (.ref n)
    let s:=match bs with
      | []=>desc (desc s "__dict__" (.builtin "function.__dict__") (.builtin "function.__dict__#set")) "__weakref__" (.builtin "ExceptionGroup.__weakref__") .none
      | [.type _]=>desc s "__weakref__" (.builtin "ExceptionGroup.__weakref__") .none
      | _=>s
    let s:=gset P s (sa+1) "__doc__" .none
    let s:=match bs with
      | [.ref b]=>s.up b (Obj.mapCls fun d=>{ d with subclasses:=d.subclasses ++ [own] })
      | _=>s
    let s:=(s.al (oFld (.type "super") [own,own,own])).al (oFld (.type "builtin_function_or_method") [.builtin "object.__init_subclass__",own])
    (gset P (s.tk 1) 3 name own,f)
noncomputable def hstmt (P:Params):Stmt→HS→Nat→HS × Nat
  | .FunctionDef name args body _ _ _ sc _ _ pos,s,f =>
    fv (gname s) fun md =>
    let s:=hdef s 12 md name name args body sc pos (Nat.beq (f % 2) 1)
    fc s.n fun n=>(gset P s 3 name (.ref (n - 1)),f / 2)
  | .ClassDef name bases _ body _ _ _ _ _ st pos,s,f=>hclass P s name bases body st pos f
  | .Assign [.Name x _] (.Tuple es _ _) _,⟨T,n,k⟩,f=>fc k fun k=>fc n fun n=>match hcons es k with
    | (vs,t)=>(gset P ⟨T.ins n (oTup vs),n+1,t⟩ 3 x (.ref n),f)
  | .Assign [.Name x _] e _,⟨T,n,k⟩,f=>fc k fun k=>match x.cps.toList with
    | 95 :: 95 :: 110 :: 97 :: _=>match hcon e k with
      | (v,t)=>(⟨T.set 3 (Obj.mapDict (·.modify 0 fun d=>⟨d.hash,d.key,v⟩)),n,t+1⟩,f)
    | _=>match hcon e k with
      | (v,t)=>(gset P ⟨T,n,t⟩ 3 x v,f)
  | _,s,f=>(s,f)
noncomputable def hrun (P:Params):List Stmt→HS→Nat→HS × Nat
  | [],s,f=>(s,f)
  | st :: r,s,f=>match hstmt P st s f with
    | (s',f')=>hrun P r s' f'
noncomputable def hs0 (P:Params):HS :=
  let s:HS:=((((((((((((⟨.nil,0,187⟩:HS).al (boot_o_0 P)).al (boot_o_1 P)).al (boot_o_2 P)).al (boot_o_3 P)).al (boot_o_4 P)).al (boot_o_5 P)).al (boot_o_6 P)).al (boot_o_7 P)).al (boot_o_8 P)).al (boot_o_9 P)).al (boot_o_10 P))
  let s:=(s.al (oTup [])).al (oFld .none [])
  let s:=s.al (hcode "<module>" "<module>" 1 0 0 11 false 12 .none .none .none 182 185)
  s.al { cls := .type "frame",slots := #[some (.ref 13),some (.ref 3),some (.ref 3),none,some (.str "__main__" 164),none,some (.ref 0)] }
noncomputable def bdy:List Stmt:=prg.main.body
noncomputable def envH:Env := { scope:=prg.main.scope,locals:=mainNs,globals:=mainNs,cells := [],code := .ref 13,frame:=some 14 }
noncomputable def cE:Code := .body bdy envH
noncomputable def tS (w:World) (os:OsState) (s:HS):SharedT:=⟨s.T,s.n,(boot_heap w.params).life,Array.mk [],boot_drawn,s.k,os⟩
theorem stp {w:World} {os:OsState} {a b c n N:Nat} {S S':HS} {pos pos':Pos} {r:Shared} (h:PySem.W.Fast.tw10110043849684766642 PySem.W.Fast.tw14364793385576792824 prg w 11 (some (.ref 6)) 1 n (tS w os S) (piecesOf ((bdy.drop a).take b) envH cE pos [topFrame ⟨0,0,0,0⟩])=some (.next,tS w os S',cE,pos'))
    (k:topRun treeTable prg w 11 (some (.ref 6)) N (tS w os S').abs (restOf (bdy.drop c) envH cE pos' [topFrame ⟨0,0,0,0⟩])=some r) (hc:a+b=c:=by rfl):topRun treeTable prg w 11 (some (.ref 6)) (n+N) (tS w os S).abs (restOf (bdy.drop a) envH cE pos [topFrame ⟨0,0,0,0⟩])=some r:=by
  subst hc
  have e:bdy.drop a=(bdy.drop a).take b ++ bdy.drop (a+b):=by
    rw [← List.drop_drop]
    exact (List.take_append_drop b _).symm
  rw [e]
  refine piece_app (segRun_of ?_) k
  rw [PySem.W.Fast.te10110043849684766642,PySem.W.Fast.te14364793385576792824]
  exact h
noncomputable def S0 (P:Params):HS × Nat:=(hs0 P,220503150627380023287735815453440360057856)
noncomputable def S1 (P:Params):HS × Nat:=hrun P ((bdy.drop 0).take 6) (S0 P).1 (S0 P).2
set_option maxRecDepth 100000 in
set_option maxHeartbeats 0 in
theorem g1 (w:World) (os:OsState):PySem.W.Fast.tw10110043849684766642 PySem.W.Fast.tw14364793385576792824 prg w 11 (some (.ref 6)) 1 896 (tS w os (S0 w.params).1) (piecesOf ((bdy.drop 0).take 6) envH cE ⟨0,0,0,0⟩ [topFrame ⟨0,0,0,0⟩])=some (.next,tS w os (S1 w.params).1,cE,⟨11,0,14,24⟩):=by kernel_rfl
noncomputable def S2 (P:Params):HS × Nat:=hrun P ((bdy.drop 6).take 7) (S1 P).1 (S1 P).2
set_option maxRecDepth 100000 in
set_option maxHeartbeats 0 in
theorem g2 (w:World) (os:OsState):PySem.W.Fast.tw10110043849684766642 PySem.W.Fast.tw14364793385576792824 prg w 11 (some (.ref 6)) 1 880 (tS w os (S1 w.params).1) (piecesOf ((bdy.drop 6).take 7) envH cE ⟨11,0,14,24⟩ [topFrame ⟨0,0,0,0⟩])=some (.next,tS w os (S2 w.params).1,cE,⟨25,0,25,14⟩):=by kernel_rfl
noncomputable def S3 (P:Params):HS × Nat:=hrun P ((bdy.drop 13).take 14) (S2 P).1 (S2 P).2
set_option maxRecDepth 100000 in
set_option maxHeartbeats 0 in
theorem g3 (w:World) (os:OsState):PySem.W.Fast.tw10110043849684766642 PySem.W.Fast.tw14364793385576792824 prg w 11 (some (.ref 6)) 1 755 (tS w os (S2 w.params).1) (piecesOf ((bdy.drop 13).take 14) envH cE ⟨25,0,25,14⟩ [topFrame ⟨0,0,0,0⟩])=some (.next,tS w os (S3 w.params).1,cE,⟨139,0,139,8⟩):=by kernel_rfl
noncomputable def S4 (P:Params):HS × Nat:=hrun P ((bdy.drop 27).take 20) (S3 P).1 (S3 P).2
set_option maxRecDepth 100000 in
set_option maxHeartbeats 0 in
theorem g4 (w:World) (os:OsState):PySem.W.Fast.tw10110043849684766642 PySem.W.Fast.tw14364793385576792824 prg w 11 (some (.ref 6)) 1 766 (tS w os (S3 w.params).1) (piecesOf ((bdy.drop 27).take 20) envH cE ⟨139,0,139,8⟩ [topFrame ⟨0,0,0,0⟩])=some (.next,tS w os (S4 w.params).1,cE,⟨232,0,233,72⟩):=by kernel_rfl
noncomputable def S5 (P:Params):HS × Nat:=hrun P ((bdy.drop 47).take 6) (S4 P).1 (S4 P).2
set_option maxRecDepth 100000 in
set_option maxHeartbeats 0 in
theorem g5 (w:World) (os:OsState):PySem.W.Fast.tw10110043849684766642 PySem.W.Fast.tw14364793385576792824 prg w 11 (some (.ref 6)) 1 722 (tS w os (S4 w.params).1) (piecesOf ((bdy.drop 47).take 6) envH cE ⟨232,0,233,72⟩ [topFrame ⟨0,0,0,0⟩])=some (.next,tS w os (S5 w.params).1,cE,⟨282,0,287,19⟩):=by kernel_rfl
noncomputable def S6 (P:Params):HS × Nat:=hrun P ((bdy.drop 53).take 11) (S5 P).1 (S5 P).2
set_option maxRecDepth 100000 in
set_option maxHeartbeats 0 in
theorem g6 (w:World) (os:OsState):PySem.W.Fast.tw10110043849684766642 PySem.W.Fast.tw14364793385576792824 prg w 11 (some (.ref 6)) 1 895 (tS w os (S5 w.params).1) (piecesOf ((bdy.drop 53).take 11) envH cE ⟨282,0,287,19⟩ [topFrame ⟨0,0,0,0⟩])=some (.next,tS w os (S6 w.params).1,cE,⟨391,0,400,15⟩):=by kernel_rfl
noncomputable def S7 (P:Params):HS × Nat:=hrun P ((bdy.drop 64).take 19) (S6 P).1 (S6 P).2
set_option maxRecDepth 100000 in
set_option maxHeartbeats 0 in
theorem g7 (w:World) (os:OsState):PySem.W.Fast.tw10110043849684766642 PySem.W.Fast.tw14364793385576792824 prg w 11 (some (.ref 6)) 1 838 (tS w os (S6 w.params).1) (piecesOf ((bdy.drop 64).take 19) envH cE ⟨391,0,400,15⟩ [topFrame ⟨0,0,0,0⟩])=some (.next,tS w os (S7 w.params).1,cE,⟨538,0,542,16⟩):=by kernel_rfl
noncomputable def S8 (P:Params):HS × Nat:=hrun P ((bdy.drop 83).take 20) (S7 P).1 (S7 P).2
set_option maxRecDepth 100000 in
set_option maxHeartbeats 0 in
theorem g8 (w:World) (os:OsState):PySem.W.Fast.tw10110043849684766642 PySem.W.Fast.tw14364793385576792824 prg w 11 (some (.ref 6)) 1 868 (tS w os (S7 w.params).1) (piecesOf ((bdy.drop 83).take 20) envH cE ⟨538,0,542,16⟩ [topFrame ⟨0,0,0,0⟩])=some (.next,tS w os (S8 w.params).1,cE,⟨698,0,704,15⟩):=by kernel_rfl
noncomputable def S9 (P:Params):HS × Nat:=hrun P ((bdy.drop 103).take 14) (S8 P).1 (S8 P).2
set_option maxRecDepth 100000 in
set_option maxHeartbeats 0 in
theorem g9 (w:World) (os:OsState):PySem.W.Fast.tw10110043849684766642 PySem.W.Fast.tw14364793385576792824 prg w 11 (some (.ref 6)) 1 879 (tS w os (S8 w.params).1) (piecesOf ((bdy.drop 103).take 14) envH cE ⟨698,0,704,15⟩ [topFrame ⟨0,0,0,0⟩])=some (.next,tS w os (S9 w.params).1,cE,⟨820,0,831,81⟩):=by kernel_rfl
noncomputable def S10 (P:Params):HS × Nat:=hrun P ((bdy.drop 117).take 25) (S9 P).1 (S9 P).2
set_option maxRecDepth 100000 in
set_option maxHeartbeats 0 in
theorem g10 (w:World) (os:OsState):PySem.W.Fast.tw10110043849684766642 PySem.W.Fast.tw14364793385576792824 prg w 11 (some (.ref 6)) 1 603 (tS w os (S9 w.params).1) (piecesOf ((bdy.drop 117).take 25) envH cE ⟨820,0,831,81⟩ [topFrame ⟨0,0,0,0⟩])=some (.next,tS w os (S10 w.params).1,cE,⟨980,0,988,18⟩):=by kernel_rfl
noncomputable def S11 (P:Params):HS × Nat:=hrun P ((bdy.drop 142).take 9) (S10 P).1 (S10 P).2
set_option maxRecDepth 100000 in
set_option maxHeartbeats 0 in
theorem g11 (w:World) (os:OsState):PySem.W.Fast.tw10110043849684766642 PySem.W.Fast.tw14364793385576792824 prg w 11 (some (.ref 6)) 1 616 (tS w os (S10 w.params).1) (piecesOf ((bdy.drop 142).take 9) envH cE ⟨980,0,988,18⟩ [topFrame ⟨0,0,0,0⟩])=some (.next,tS w os (S11 w.params).1,cE,⟨1088,0,1096,94⟩):=by kernel_rfl
noncomputable def SF (w:World) (os:OsState):Shared:=(tS w os (S11 w.params).1).abs
noncomputable def tg (T:BT) (n a:Nat):Option Obj:=match Nat.blt a n with
  | true=>match T.get a with
    | some o=>alive o
    | none=>alive default
  | false=>none
theorem tg_eq (T:BT) (n:Nat) (l:Life) (a:Nat):(absHeap T n l).get? a=tg T n a:=by
  unfold tg
  cases e:Nat.blt a n with
  | false=>exact abs_get_none fun q=>by rw [show Nat.blt a n=true from Nat.ble_eq_true_of_le q] at e;cases e
  | true =>
    have lt:a < n:=Nat.le_of_ble_eq_true e
    cases g:T.get a with
    | some o=>exact abs_get lt g
    | none =>
      unfold Heap.get?
      rw [absHeap_at,if_pos lt,g]
      rfl
theorem hk {s:HS} {w:World} {os:OsState} {K:Params→Frag} {as:List Addr} {e:∀ P,as=(K P).map (·.1)} (h:as.map (tg s.T s.n)=(K w.params).map fun p=>some p.2):(kHook K as e).obs (tS w os s).abs=(kHook K as e).val w:=by
  have q:(tS w os s).abs.heap.get? = tg s.T s.n:=funext fun a=>tg_eq _ _ _ a
  show as.map (tS w os s).abs.heap.get? = _
  rw [q]
  exact h
theorem hkM {s:HS} {w:World} {os:OsState} {K:Params→Frag} {as ts:List Addr} {e:∀ P,as=(K P).map (·.1)} (h:as.map (tg s.T s.n)=(K w.params).map fun p=>some p.2) (h2:ts.map (tg s.T s.n)=ts.map fun _=>some (tabObj #[])):(kmHook K as e ts).obs (tS w os s).abs=(kmHook K as e ts).val w:=by
  have q:(tS w os s).abs.heap.get? = tg s.T s.n:=funext fun a=>tg_eq _ _ _ a
  show (as.map (tS w os s).abs.heap.get?,ts.map (tS w os s).abs.heap.get?)=_
  rw [q]
  exact Prod.ext h h2
theorem hook_eqM {K:Params→Frag} {as ts:List Addr} {e:∀ P,as=(K P).map (·.1)} {w:World} {os:OsState} (h:as.map (tg (S11 w.params).1.T (S11 w.params).1.n)=(K w.params).map fun p=>some p.2) (h2:ts.map (tg (S11 w.params).1.T (S11 w.params).1.n)=ts.map fun _=>some (tabObj #[])):(kmHook K as e ts).obs (SF w os)=(kmHook K as e ts).val w:=hkM h h2
theorem hook_eq {K:Params→Frag} {as:List Addr} {e:∀ P,as=(K P).map (·.1)} {w:World} {os:OsState} (h:as.map (tg (S11 w.params).1.T (S11 w.params).1.n)=(K w.params).map fun p=>some p.2):(kHook K as e).obs (SF w os)=(kHook K as e).val w:=hk h
set_option maxRecDepth 100000 in
set_option maxHeartbeats 0 in
theorem pre0 (w:World) (os:OsState):topGo treeTable prg w 11 (some (.ref 6)) 12 ⟨boot_heap w.params,Array.mk [],boot_drawn,boot_toks,os⟩ (topStub prg)=some ((tS w os (S0 w.params).1).abs,⟨denote treeTable cE,cE,⟨0,0,0,0⟩, [topFrame ⟨0,0,0,0⟩]⟩):=by kernel_rfl
set_option maxRecDepth 100000 in
set_option maxHeartbeats 0 in
theorem blk0 (w:World) (os:OsState):segRun treeTable prg w 11 (some (.ref 6)) 1 1 (tS w os (S0 w.params).1).abs (blockOf bdy envH cE ⟨0,0,0,0⟩ [topFrame ⟨0,0,0,0⟩])=some (.next,(tS w os (S0 w.params).1).abs,cE,⟨0,0,0,0⟩):=by kernel_rfl
set_option maxRecDepth 100000 in
set_option maxHeartbeats 0 in
theorem fin0 (w:World) (os:OsState):topRun treeTable prg w 11 (some (.ref 6)) 2 (SF w os) (restOf (bdy.drop 151) envH cE ⟨1088,0,1096,94⟩ [topFrame ⟨0,0,0,0⟩])=some (SF w os):=by kernel_rfl
set_option maxRecDepth 100000 in
set_option maxHeartbeats 0 in
theorem run0 (w:World) (os:OsState):topRun treeTable prg w 11 (some (.ref 6)) (12+(1+(896+(880+(755+(766+(722+(895+(838+(868+(879+(603+(616+2))))))))))))) ⟨boot_heap w.params,Array.mk [],boot_drawn,boot_toks,os⟩ (topStub prg)=some (SF w os):=go_top (pre0 w os) (piece_block (blk0 w os) (stp (g1 w os) (stp (g2 w os) (stp (g3 w os) (stp (g4 w os) (stp (g5 w os) (stp (g6 w os) (stp (g7 w os) (stp (g8 w os) (stp (g9 w os) (stp (g10 w os) (stp (g11 w os) (fin0 w os)))))))))))))
set_option maxRecDepth 100000 in
set_option maxHeartbeats 0 in
theorem chk (w:World) (os:OsState):(staticsOk (importedModules prg.main.body) (boot_heap w.params) (SF w os).heap && namesBound prg (SF w os).heap && gensDone (SF w os) && laidKept (boot_heap w.params) (SF w os).heap)=true:=by kernel_rfl
theorem t0_size (P:Params):((boot_heap P).isNs mainGlobals,(boot_heap P).objs.size,(boot_heap P).nsMap mainGlobals "__annotations__")=(true,11,some (.ref 6)):=by kernel_rfl
theorem from_S {w:World} {os:OsState} {α : Type} {F:Shared → α} {G : α} (h:F (SF w os)=G):(topFrom treeTable prg w 17540 ⟨boot_heap w.params,Array.mk [],boot_drawn,boot_toks,os⟩).map F=some G:=by
  obtain ⟨z1,z2,z3⟩:_∧_∧_:=by simpa only [Prod.mk.injEq] using t0_size w.params
  have r:=topRun_mono 8807 _ _ _ _ (run0 w os)
  have t:topFrom treeTable prg w 17540 ⟨boot_heap w.params,Array.mk [],boot_drawn,boot_toks,os⟩=some (SF w os):=by
    unfold topFrom
    dsimp only
    rw [z1,z2,z3]
    rw [show topRun treeTable prg w 11 (some (.ref 6)) 17540 ⟨boot_heap w.params,Array.mk [],boot_drawn,boot_toks,os⟩ (topStub prg)=some (SF w os) from r]
    show (match staticsOk (importedModules prg.main.body) (boot_heap w.params) (SF w os).heap && namesBound prg (SF w os).heap && gensDone (SF w os) && laidKept (boot_heap w.params) (SF w os).heap with | true=>_ | false=>_)=_
    rw [chk w os]
  rw [t]
  exact congrArg some h
set_option maxRecDepth 100000 in
set_option maxHeartbeats 0 in
theorem q0 (w:World) (os:OsState):seen ((recsOf view).map (·.name)) (ownsOf view) [] { (SF w os) with gens := #[] }=expectedOf view:=by kernel_rfl
set_option maxRecDepth 100000 in
set_option maxHeartbeats 0 in
theorem qa (w:World) (os:OsState):((SF w os).heap.bltView,(SF w os).heap.accountedOkI (importedModules prg.main.body) && (SF w os).heap.isNs mainGlobals && (SF w os).heap.isNs builtinsNs && tablesOk view (SF w os).heap && (xlAt view [] (SF w os) && recOk (RowW.records PySem.Challenge.rw_samewise_k80_room_left_out.row.toRowW) (SF w os)) && (if true then (SF w os).gens.size == 0 else !leftWithCleanup (SF w os).gens),pinSeenD view (drecsOf view) (SF w os),plainSeenD view ["class_of", "grow", "run"] (SF w os),clsSeenW view ["class_of", "grow", "run"] (SF w os))=(bltViewBooted,true,pinGoodD (drecsOf view),plainGoodD view ["class_of", "grow", "run"],clsGoodW view ["class_of", "grow", "run"]):=by kernel_rfl
set_option maxRecDepth 100000 in
set_option maxHeartbeats 0 in
theorem q2 (w:World) (os:OsState):(SF w os).heap.keysOk (looseW view ["class_of", "grow", "run"]) ((recsOf view).map (·.name)) ((litsOf view).map (·.1)) ((clssOf view (looseW view ["class_of", "grow", "run"])).map (·.name))=true:=by kernel_rfl
set_option maxRecDepth 100000 in
set_option maxHeartbeats 0 in
theorem q3 (w:World) (os:OsState):tabsOk view (SF w os)=true:=by kernel_rfl
set_option maxRecDepth 100000 in
set_option maxHeartbeats 0 in
theorem q5 (w:World) (os:OsState):plainSeenE view (looseW view ["class_of", "grow", "run"]) (SF w os)=plainGoodE view (looseW view ["class_of", "grow", "run"]):=by kernel_rfl
set_option maxRecDepth 100000 in
set_option maxHeartbeats 0 in
theorem q7 (w:World) (os:OsState):wideSeen view (SF w os)=wideGood view:=by kernel_rfl
theorem and7 {a b c d e f g:Bool} (h1:a=true) (h2:(b && c && d && e && f && g)=true):(a && b && c && d && e && f && g)=true:=by
  simp only [Bool.and_eq_true] at h2
  simp only [h1,h2,Bool.and_self]
theorem inj5 {α β γ δ ε : Type} {a a' : α} {b b' : β} {c c' : γ} {d d' : δ} {e e' : ε} (h:(a,b,c,d,e)=(a',b',c',d',e')):a=a'∧b=b'∧c=c'∧d=d'∧e=e':=by cases h;exact ⟨rfl,rfl,rfl,rfl,rfl⟩
theorem seen_of {α β γ δ ε ζ η : Type} {a a' : α} {b b' : β} {p q r s t u v:Bool} {g:Bool} {c c' : γ} {d d' : δ} {e e' : ε} {f f' : ζ} {k k' : η} (h0:a=a') (hq:(b,q && r && s && t && u && v,c,d,e)=(b',true,c',d',e')) (h2:p=true) (h3:g=true) (h5:f=f') (h7:k=k'):(a,b,p && q && r && s && t && u && v,g,c,f,d,k,e)=(a',b',true,true,c',f',d',k',e'):=by
  obtain ⟨rfl,x,rfl,rfl,rfl⟩:=inj5 hq
  rw [h0,h3,h5,h7,and7 h2 x]
theorem seenOk (w:World) (os:OsState):openSeen view ["class_of", "grow", "run"] (importedModules prg.main.body) (fun s=>xlAt view [] s && recOk (RowW.records PySem.Challenge.rw_samewise_k80_room_left_out.row.toRowW) s) true (SF w os)=openGood view ["class_of", "grow", "run"]:=seen_of (q0 w os) (qa w os) (q2 w os) (q3 w os) (q5 w os) (q7 w os)
local macro_rules | `(tactic| o_head $H) => `(tactic| (refine holds_open (q:=view) (loose := ["class_of", "grow", "run"]) (Xt:=fun s=>xlAt view [] s && recOk (RowW.records PySem.Challenge.rw_samewise_k80_room_left_out.row.toRowW) s) (XP:=XL view []) (Yf:=Hook.obs $H) (Ya:=Hook.val $H) (YP:=Hook.says $H) (N:=17540) ?hl (Hook.of $H) (Hook.keeps $H) (fun s e=>xl_of s (Bool.and_eq_true_iff.mp e).1) XL.keeps (by rfl) (by rfl) (by rfl) (fun s e=>recFacts_of (Bool.and_eq_true_iff.mp e).2) (by rfl) (by first | assumption | decide +kernel) (by decide +kernel) ⟨rfl,rfl,rfl,rfl,rfl,by decide +kernel⟩ ?hw ?hc;case hl=>(refine left_boot (by rfl) (by decide) (fun s=>by rfl) ?_;intro w os;first | (refine from_S (looks_pair (seenOk w os) (hook_eq ?_));kernel_rfl) | (refine' from_S (looks_pair (seenOk w os) (hook_eqM ?_ ?_)); (kernel_rfl);kernel_rfl))))
set_option maxRecDepth 100000 in
set_option maxHeartbeats 0 in
open_top top for PySem.Challenge.rw_samewise_k80_room_left_out
end KHd
set_option Elab.async false
set_option linter.all false
set_option maxRecDepth 100000
set_option maxHeartbeats 4000000
namespace L2
open PySem PySem.Spec PyProof.Rows

noncomputable abbrev Key:=Sum Int Str
noncomputable def keyIs:Key→Value→Bool
  | .inl k,v=>Value.isInt k v
  | .inr x,v=>Value.isStrOf x v
noncomputable def keyH (w:World):Key→Int
  | .inl k=>hashInt k
  | .inr x=>hashStr w x
theorem keyIs_shape:∀ {k:Key} {v:Value},keyIs k v=true→(∃ i t,k=Sum.inl i∧v=Value.int i t)∨(∃ x t,k=Sum.inr x∧v=Value.str x t)
  | .inl i,v,h=>by
    obtain ⟨t,e⟩:=Value.isInt_shape (k:=i) (v:=v) h
    exact .inl ⟨i,t,rfl,e⟩
  | .inr x,v,h=>by
    obtain ⟨t,e⟩:=Value.isStrOf_shape (x:=x) (v:=v) h
    exact .inr ⟨x,t,rfl,e⟩
theorem keyIs_int (i:Int) (t:Tok):keyIs (.inl i) (.int i t)=true:=by simp [keyIs,Value.isInt]
theorem keyIs_str (x:Str) (t:Tok):keyIs (.inr x) (.str x t)=true:=by simp [keyIs,Value.isStrOf]
theorem key_ll (a b:Int):decide ((Sum.inl a:Key)=Sum.inl b)=(a == b):=by
  by_cases e:a=b
  · subst e;simp
  · have h:¬ (Sum.inl a:Key)=Sum.inl b:=fun q=>e (Sum.inl.inj q)
    rw [decide_eq_false h]
    exact (beq_eq_false_iff_ne.mpr e).symm
theorem key_rr (a b:Str):decide ((Sum.inr a:Key)=Sum.inr b)=decide (a=b):=by
  by_cases e:a=b
  · subst e;simp
  · have h:¬ (Sum.inr a:Key)=Sum.inr b:=fun q=>e (Sum.inr.inj q)
    rw [decide_eq_false h,decide_eq_false e]
theorem key_lr (a:Int) (b:Str):decide ((Sum.inl a:Key)=Sum.inr b)=false:=decide_eq_false (fun q=>nomatch q)
theorem key_rl (a:Str) (b:Int):decide ((Sum.inr a:Key)=Sum.inl b)=false:=decide_eq_false (fun q=>nomatch q)

noncomputable def mixKind (prog:Program) (w:World):PySem.KeyKind prog w Key where
  is:=keyIs
  hash:=keyH w
  inj:=fun v a b ha hb=>by
    rcases keyIs_shape ha with ⟨i,t,rfl,rfl⟩ | ⟨x,t,rfl,rfl⟩
    · rcases keyIs_shape hb with ⟨j,u,rfl,e⟩ | ⟨y,u,rfl,e⟩
      · injection e with e1 _;rw [e1]
      · exact nomatch e
    · rcases keyIs_shape hb with ⟨j,u,rfl,e⟩ | ⟨y,u,rfl,e⟩
      · exact nomatch e
      · injection e with e1 _;rw [e1]
  byValue:=fun k v h=>by
    rcases keyIs_shape h with ⟨i,t,rfl,rfl⟩ | ⟨x,t,rfl,rfl⟩ <;> rfl
  pyHash:=fun hv h=>by
    rcases keyIs_shape hv with ⟨i,t,rfl,rfl⟩ | ⟨x,t,rfl,rfl⟩
    · exact wpAny_pyHash_int h
    · exact wpAny_pyHash_str h
  eqBool:=fun hu hv h=>by
    rcases keyIs_shape hu with ⟨i,t,rfl,rfl⟩ | ⟨x,t,rfl,rfl⟩
    · rcases keyIs_shape hv with ⟨j,u,rfl,rfl⟩ | ⟨y,u,rfl,rfl⟩
      · rw [key_ll] at h;exact wpAny_eqBool_int h
      · rw [key_lr] at h;exact SeqAt.EqAt.int_str i t y u _ _ _ _ h
    · rcases keyIs_shape hv with ⟨j,u,rfl,rfl⟩ | ⟨y,u,rfl,rfl⟩
      · rw [key_rl] at h;exact SeqAt.EqAt.str_int x t j u _ _ _ _ h
      · rw [key_rr] at h;exact wpAny_eqBool_str h
  «strs» := fun k x t v h=>by
    rcases keyIs_shape h with ⟨i,u,rfl,e⟩ | ⟨y,u,rfl,e⟩
    · exact nomatch e
    · injection e with e1 _
      subst e1
      cases v <;> rfl

theorem mixKind_int (prog:Program) (w:World) (i:Int) (t:Tok):(mixKind prog w).is (.inl i) (.int i t)=true:=keyIs_int i t
theorem mixKind_str (prog:Program) (w:World) (x:Str) (t:Tok):(mixKind prog w).is (.inr x) (.str x t)=true:=keyIs_str x t
end L2

namespace L2
open PySem PySem.Spec PyProof.Rows

inductive V where
  | non | bl (b:Bool) | int (i:Int) | str (x:Str) | byt (b:Array UInt8) | flt (b:UInt64) | ref (a:Addr) | ty (n:String)
  deriving DecidableEq

noncomputable def RelV:V→Value→Prop
  | .non,u=>u=Value.none
  | .bl b,u=>u=Value.bool b
  | .int i,u=>∃ t,u=Value.int i t
  | .str x,u=>∃ t,u=Value.str x t
  | .byt b,u=>∃ t,u=Value.bytes b t
  | .flt b,u=>∃ t,u=Value.float b t
  | .ref a,u=>u=Value.ref a
  | .ty n,u=>u=Value.type n

noncomputable abbrev Vals:List V→List Value→Prop:=Paired RelV
theorem Vals.length {xs:List V} {us:List Value} (r:Vals xs us):xs.length=us.length:=Paired.length r
theorem Vals.get:∀ {xs:List V} {us:List Value} {i:Nat} {x:V},Vals xs us→xs[i]? = some x→∃ u,us[i]? = some u∧RelV x u
  | _,_,_,_,.nil,e=>by simp at e
  | _,_,0,_,.cons r _,e=>by simp at e;subst e;exact ⟨_,rfl,r⟩
  | _,_,i+1,x,.cons _ t,e=>by
    obtain ⟨u,h1,h2⟩:=Vals.get (i:=i) (x:=x) t (by simpa using e)
    exact ⟨u,by simpa using h1,h2⟩
theorem Vals.append:∀ {xs ys:List V} {us ws:List Value},Vals xs us→Vals ys ws→Vals (xs ++ ys) (us ++ ws)
  | _,_,_,_,.nil,s=>s
  | _,_,_,_,.cons r t,s => .cons r (Vals.append t s)
theorem Vals.take:∀ {xs:List V} {us:List Value} (n:Nat),Vals xs us→Vals (xs.take n) (us.take n)
  | _,_,0,_ => .nil
  | _,_,_+1,.nil => .nil
  | _,_,n+1,.cons r t => .cons r (Vals.take n t)
theorem Vals.drop:∀ {xs:List V} {us:List Value} (n:Nat),Vals xs us→Vals (xs.drop n) (us.drop n)
  | _,_,0,r=>r
  | _,_,_+1,.nil => .nil
  | _,_,n+1,.cons _ t=>Vals.drop n t

noncomputable def RelO:Option V→Option Value→Prop
  | some v,some u=>RelV v u
  | none,none=>True
  | _,_=>False
noncomputable def KV {κ : Type}:List (κ × V)→List (κ × Value)→Prop:=Paired fun (p : κ × V) (q : κ × Value)=>p.1=q.1∧RelV p.2 q.2

noncomputable def kV:Key→V
  | .inl i => .int i
  | .inr x => .str x

inductive HO where
    | lst (xs:List V)
    | tup (xs:List V)
    | dK (kvs:List (Key × V)) | dT (kvs:List (List Key × V))
    | set (S:Int→Bool) (n:Nat)
    | ins (C dx:Addr) (fs:List (Str × V))
    | own (x:Addr)
    | xd (fs:List (Str × V))
    | met (f x:Addr)
    | rng (lo hi:Int)
    | frz (o:Obj) (u:HO)
    | tbl (ps:Array Value)
    | ext (φ : Heap→Prop)

noncomputable abbrev Hp:=Addr→Option HO
noncomputable def upd (H:Hp) (a:Addr) (o:HO):Hp:=fun b=>if b=a then some o else H b
theorem upd_same {H:Hp} {a:Addr} {o:HO}:upd H a o a=some o:=by unfold upd;rw [if_pos rfl]
theorem upd_ne {H:Hp} {a b:Addr} {o:HO} (h:b≠a):upd H a o b=H b:=by unfold upd;rw [if_neg h]
theorem upd_upd {H:Hp} {a:Addr} {o u:HO}:upd (upd H a o) a u=upd H a u:=by
  funext b;unfold upd;split <;> rfl
theorem ne_of {H:Hp} {a b:Addr} {o u:HO} (h:H a=some o) (h':H b=some u) (d:o≠u):a≠b:=by
  intro e;subst e;rw [h] at h';exact d (Option.some.inj h')
theorem ne_of_none {H:Hp} {a b:Addr} {o:HO} (h:H a=some o) (h':H b=none):a≠b:=by
  intro e;subst e;rw [h] at h';cases h'

noncomputable def IsTupN (h:Heap) (a:Addr) (items:Array Value):Prop := ∃ o,h.get? a=some o∧o.cls = .type "tuple" ∧ ∃ n,o.data = .seq items n∧o.dict=none
theorem IsTupN.tup {h:Heap} {a:Addr} {items:Array Value} (x:IsTupN h a items):IsTup h a items:=let ⟨o,e,c,n,d,_⟩:=x; ⟨o,e,c,n,d⟩
theorem IsTupN.new (h:Heap) (items:Array Value):IsTupN (h.push { cls := .type "tuple",data := .seq items }) h.objs.size items:=⟨_,Heap.get?_push_size _ rfl,rfl,_,rfl,rfl⟩
section
variable (P:Program) (w:World)
noncomputable def ObjOk (H:Hp) (h:Heap) (a:Addr):HO→Prop
  | .lst xs=>xs.length≤sizeLine∧∃ (its:List Value) (n:Nat),Vals xs its∧h.get? a=some { cls := .type "list",data := .seq its.toArray n }
  | .tup xs=>xs.length≤sizeLine∧∃ its:List Value,Vals xs its∧IsTupN h a its.toArray
  | .dK kvs=>kvs.length≤sizeLine∧(a == sysModules)=false∧∃ vs,KV kvs vs∧h.DictOf (mixKind P w) a vs
  | .dT kvs=>kvs.length≤sizeLine∧(a == sysModules)=false∧∃ xs:List (List Key × Addr × Value),
      Paired (fun (p:List Key × V) (q:List Key × Addr × Value)=>p.1=q.1∧H q.2.1=some (.tup (p.1.map kV))∧RelV p.2 q.2.2) kvs xs ∧
      ∃ o es ep,h.get? a=some o∧o.ExactDict∧o.data = .dict es ep∧es.toList=xs.map (entryOfKey (tupleKind (mixKind P w)))∧(xs.map (·.1)).Nodup
  | .set S n=>h.SetOf (intKind P w) a S n
  | .ins C dx fs=>H dx=some (.own a)∧fs.length≤1000∧dx≠a∧h.get? a=some (PySem.W.instObj C dx) ∧
      ∃ mA,h.Ns1 dx mA∧(∀ f,RelO (fs.lookup f) (mA f))∧PySem.Within mA (fs.map (·.1))
  | .own _=>∃ o,h.get? a=some o
  | .xd fs=>∃ mA,h.Ns1 a mA∧∀ f,RelO (fs.lookup f) (mA f)
  | .rng lo hi=>∃ t u v,h.get? a=some { cls := .type "range",data := .fields #[.int lo t,.int hi u,.int 1 v] }
  | .frz o u=>h.get? a=some o∧ObjOk H h a u
  | .tbl ps=>h.get? a=some { cls := .none,data := .fields ps }
  | .met f x=>h.get? a=some (PySem.W.methodObj (.ref f) (.ref x))
  | .ext φ => φ h∧(∃ o,h.get? a=some o)∧∀ h1 h2:Heap, φ h1→(∀ o,h1.get? a=some o→h2.get? a=some o) → φ h2
noncomputable def HOk (H:Hp) (h:Heap):Prop := ∀ a o,H a=some o→ObjOk P w H h a o
end

section
variable {P:Program} {w:World} {H H':Hp} {h h':Heap} {a:Addr} {o:HO}
theorem ObjOk.lt (x:ObjOk P w H h a o):a < h.objs.size:=by
  cases o with
  | lst xs=>obtain ⟨_,_,_,_,e⟩:=x;exact Heap.lt_size e
  | tup xs=>obtain ⟨_,_,_,p⟩:=x;exact p.tup.lt
  | dK kvs=>obtain ⟨_,_,_,_,o,_,_,e,_⟩:=x;exact Heap.lt_size e
  | dT kvs=>obtain ⟨_,_,_,_,o,_,_,e,_⟩:=x;exact Heap.lt_size e
  | set S n=>obtain ⟨o,_,_,_,e,_⟩:=x;exact Heap.lt_size e
  | ins C dx fs=>obtain ⟨_,_,_,e,_⟩:=x;exact Heap.lt_size e
  | own y=>obtain ⟨_,e⟩:=x;exact Heap.lt_size e
  | xd fs=>obtain ⟨_,⟨_,_,_,e,_⟩,_⟩:=x;exact Heap.lt_size e
  | rng lo hi=>obtain ⟨_,_,_,e⟩:=x;exact Heap.lt_size e
  | frz ob u=>obtain ⟨e,_⟩:=x;exact Heap.lt_size e
  | tbl ps=>exact Heap.lt_size (show h.get? a=some _ from x)
  | met f y=>exact Heap.lt_size (show h.get? a=some _ from x)
  | ext φ => obtain ⟨_,⟨_,e⟩,_⟩:=x;exact Heap.lt_size e
theorem Paired.mapP {α β : Type} {F G : α → β → Prop}:∀ {l₁ : List α} {l₂ : List β},Paired F l₁ l₂ → (∀ a b,F a b→G a b)→Paired G l₁ l₂
  | _,_,.nil,_ => .nil
  | _,_,.cons r t,f => .cons (f _ _ r) (Paired.mapP t f)
theorem ObjOk.stay (x:ObjOk P w H h a o) (k:∀ b u,(b=a∨H b=some (.own a))→h.get? b=some u→h'.get? b=some u)
    (ho:∀ b,H b=some (.own a)→H' b=some (.own a)) (ht:∀ b xs,H b=some (.tup xs)→H' b=some (.tup xs)):ObjOk P w H' h' a o:=by
  induction o with
  | lst xs=>obtain ⟨z,its,n,r,e⟩:=x;exact ⟨z,its,n,r,k _ _ (.inl rfl) e⟩
  | tup xs=>obtain ⟨z,its,r,ob,e,c⟩:=x;exact ⟨z,its,r,ob,k _ _ (.inl rfl) e,c⟩
  | dK kvs=>obtain ⟨z,y,vs,r,ob,es,ep,e,c⟩:=x;exact ⟨z,y,vs,r,ob,es,ep,k _ _ (.inl rfl) e,c⟩
  | dT kvs =>
    obtain ⟨z,y,xs,r,ob,es,ep,e,c⟩:=x
    exact ⟨z,y,xs,Paired.mapP r fun p q z=>⟨z.1,ht _ _ z.2.1,z.2.2⟩,ob,es,ep,k _ _ (.inl rfl) e,c⟩
  | set S n=>obtain ⟨ob,es,ep,t,e,c⟩:=x;exact ⟨ob,es,ep,t,k _ _ (.inl rfl) e,c⟩
  | ins C dx fs =>
    obtain ⟨d,z,ne,e,mA,⟨od,es,ep,e2,c⟩,r⟩:=x
    exact ⟨ho _ d,z,ne,k _ _ (.inl rfl) e,mA,⟨od,es,ep,k _ _ (.inr d) e2,c⟩,r⟩
  | own y=>obtain ⟨ob,e⟩:=x;exact ⟨ob,k _ _ (.inl rfl) e⟩
  | xd fs=>obtain ⟨mA,⟨od,es,ep,e,c⟩,r⟩:=x;exact ⟨mA,⟨od,es,ep,k _ _ (.inl rfl) e,c⟩,r⟩
  | rng lo hi=>obtain ⟨t,u,v,e⟩:=x;exact ⟨t,u,v,k _ _ (.inl rfl) e⟩
  | frz ob u ih=>obtain ⟨e,q⟩:=x;exact ⟨k _ _ (.inl rfl) e,ih q⟩
  | tbl ps =>
    have e:h.get? a=some { cls := .none,data := .fields ps }:=x
    show h'.get? a=some { cls := .none,data := .fields ps }
    exact k a _ (.inl rfl) e
  | met f y =>
    have e:h.get? a=some (PySem.W.methodObj (.ref f) (.ref y)):=x
    show h'.get? a=some (PySem.W.methodObj (.ref f) (.ref y))
    exact k a _ (.inl rfl) e
  | ext φ => obtain ⟨p,⟨o,e⟩,st⟩:=x;exact ⟨st _ _ p fun o q=>k _ _ (.inl rfl) q,⟨o,k _ _ (.inl rfl) e⟩,st⟩
theorem HOk.lt (x:HOk P w H h) (e:H a=some o):a < h.objs.size:=(x a o e).lt
theorem HOk.fresh (x:HOk P w H h) (e:h.objs.size≤a):H a=none:=by
  cases q:H a with
  | none=>rfl
  | some u=>exact absurd (Nat.lt_of_lt_of_le (x.lt q) e) (Nat.lt_irrefl _)
theorem HOk.kept (x:HOk P w H h) (k:∀ b u,h.get? b=some u→h'.get? b=some u):HOk P w H h':=fun a o e =>
  (x a o e).stay (fun b u _ q=>k b u q) (fun _ q=>q) fun _ _ q=>q
theorem HOk.laid (x:HOk P w H h) (k:∀ b u,h.get? b=some u→h'.get? b=some u) (hp:h.objs.size≤a) (new:ObjOk P w (upd H a o) h' a o):HOk P w (upd H a o) h':=fun b u e=>by
  have hn:=x.fresh hp
  by_cases hb:b=a
  · subst hb;rw [upd_same] at e;cases e;exact new
  · rw [upd_ne hb] at e
    exact (x b u e).stay (fun c v _ q=>k c v q) (fun c q=>by rw [upd_ne (ne_of_none q hn)];exact q) fun c xs q=>by rw [upd_ne (ne_of_none q hn)];exact q
end

noncomputable def Rd (H:Hp) (a:Addr) (u:HO):Prop:=H a=some u∨∃ o,H a=some (.frz o u)
theorem Rd.ok {P:Program} {w:World} {H:Hp} {h:Heap} {a:Addr} {u:HO} (r:Rd H a u) (x:HOk P w H h):ObjOk P w H h a u:=by
  rcases r with r | ⟨o,r⟩
  · exact x a u r
  · obtain ⟨_,q⟩:=x a _ r
    exact q
noncomputable def Mut:Option HO→Prop
  | some (.lst _)=>True
  | some (.dK _)=>True
  | some (.dT _)=>True
  | some (.set _ _)=>True
  | some (.ins _ _ _)=>True
  | some (.ext _)=>True
  | _=>False
section
variable {P:Program} {w:World} {H:Hp} {h h':Heap} {x e:Addr} {o':HO}
theorem HOk.write (ok:HOk P w H h) (mu:Mut (H x)) (he:e=x∨H e=some (.own x)) (k:∀ b u,b≠e→h.get? b=some u→h'.get? b=some u) (heo:∃ u,h'.get? e=some u)
    (new:ObjOk P w (upd H x o') h' x o'):HOk P w (upd H x o') h':=fun b u q=>by
  have nown:∀ c y,H c=some (.own y)→c≠x:=fun c y r z=>by subst z;rw [r] at mu;exact mu
  have ntup:∀ c xs,H c=some (.tup xs)→c≠x:=fun c xs r z=>by subst z;rw [r] at mu;exact mu
  by_cases hb:b=x
  · subst hb;rw [upd_same] at q;cases q;exact new
  · rw [upd_ne hb] at q
    by_cases hbe:b=e
    · have q':H b=some (.own x):=by
        rcases he with z | z
        · exact absurd (hbe.trans z) hb
        · rw [hbe];exact z
      rw [q] at q';cases q'
      obtain ⟨v,hv⟩:=heo
      exact ⟨v,by rw [hbe];exact hv⟩
    · refine (ok b u q).stay (fun c v hc r=>k c v ?_ r) (fun c r=>by rw [upd_ne (nown c b r)];exact r) fun c xs r=>by rw [upd_ne (ntup c xs r)];exact r
      rcases hc with rfl | hc
      · exact hbe
      · rintro rfl
        rcases he with z | z
        · exact nown c b hc z
        · rw [hc] at z;cases z;exact hb rfl
end

structure Un (fs ex:List Addr) (H H':Hp) (h h':Heap):Prop where
  keep:∀ b o,h.get? b=some o→H b=none→b ∉ fs→b ∉ ex→h'.get? b=some o
  slot:∀ b o,h.get? b=some o→H b=none→b∈fs→b ∉ ex→∃ sl,h'.get? b=some { o with slots:=sl }
  free:∀ b o,h.get? b=some o→H b=none→b ∉ ex→H' b=none
  there:∀ b o,h.get? b=some o→b ∉ ex→∃ o',h'.get? b=some o'
  tups:∀ b xs,H b=some (.tup xs)→H' b=some (.tup xs)
  frzs:∀ b o u,H b=some (.frz o u)→H' b=some (.frz o u)
  tbls:∀ b ps,H b=some (.tbl ps)→∃ more,H' b=some (.tbl (ps ++ more))
section
variable {fs fs' ex ex':List Addr} {H H1 H2:Hp} {h h1 h2 h':Heap} {a x e:Addr} {o:HO}
theorem Un.any (u:Un fs ex H H1 h h1) {b:Addr} {ob:Obj} (q:h.get? b=some ob) (n:H b=none) (hx:b ∉ ex):∃ sl,h1.get? b=some { ob with slots:=sl }:=by
  by_cases hb:b∈fs
  · exact u.slot b ob q n hb hx
  · exact ⟨ob.slots,u.keep b ob q n hb hx⟩
theorem Un.kept (k:∀ b u,h.get? b=some u→h'.get? b=some u):Un fs ex H H h h' :=
  ⟨fun b ob q _ _ _=>k b ob q,fun b ob q _ _ _=>⟨ob.slots,k b ob q⟩,fun _ _ _ n _=>n,fun b ob q _=>⟨ob,k b ob q⟩,fun _ _ q=>q,fun _ _ _ q=>q,fun _ ps q=>⟨#[],by rw [q];simp⟩⟩
theorem Un.refl:Un fs ex H H h h:=Un.kept fun _ _ q=>q
theorem Un.laid (k:∀ b u,h.get? b=some u→h'.get? b=some u) (hp:h.objs.size≤a) (hn:H a=none):Un fs ex H (upd H a o) h h' where
  keep:=fun b u q _ _ _=>k b u q
  slot:=fun b u q _ _ _=>⟨u.slots,k b u q⟩
  free:=fun b u q n _=>by rw [upd_ne (Nat.ne_of_lt (Nat.lt_of_lt_of_le (Heap.lt_size q) hp))];exact n
  there:=fun b u q _=>⟨u,k b u q⟩
  tups:=fun b xs q=>by rw [upd_ne (ne_of_none q hn)];exact q
  frzs:=fun b u xs q=>by rw [upd_ne (ne_of_none q hn)];exact q
  tbls:=fun b ps q=>⟨#[],by rw [upd_ne (ne_of_none q hn),q];simp⟩
theorem Un.write (mu:Mut (H x)) (he:e=x∨H e=some (.own x)) (k:∀ b u,b≠e→h.get? b=some u→h'.get? b=some u) (heo:∃ u,h'.get? e=some u):Un fs ex H (upd H x o) h h':=by
  have hx:∀ b,H b=none→b≠x:=fun b n z=>by subst z;rw [n] at mu;exact mu
  have hb:∀ b,H b=none→b≠e:=fun b n z=>by
    subst z
    rcases he with r | r
    · exact hx b n r
    · rw [n] at r;cases r
  have hm:∀ b u,H b=some u→¬ Mut (some u)→b≠x:=fun b u q nm z=>by subst z;rw [q] at mu;exact nm mu
  refine ⟨fun b u q n _ _=>k b u (hb b n) q,fun b u q n _ _=>⟨u.slots,k b u (hb b n) q⟩,fun b u q n _=>by rw [upd_ne (hx b n)];exact n,fun b u q _ => ?_,
    fun b xs q=>by rw [upd_ne (hm b _ q fun z=>z)];exact q,fun b u xs q=>by rw [upd_ne (hm b _ q fun z=>z)];exact q,fun b ps q=>⟨#[],by rw [upd_ne (hm b _ q fun z=>z),q];simp⟩⟩
  by_cases hbe:b=e
  · subst hbe;exact heo
  · exact ⟨u,k b u hbe q⟩
end

noncomputable def trk (h:Heap) (H:Hp):List Addr:=(List.range h.objs.size).filter fun a=>(H a).isSome
noncomputable def hidT (h:Heap) (H:Hp):Heap:=PySem.W.hideAll h (trk h H)
theorem hidT_size (h:Heap) (H:Hp):(hidT h H).objs.size=h.objs.size:=PySem.W.hideAll_size _ _
theorem hidT_get {h:Heap} {H:Hp} {b:Addr} {o:Obj} (e:h.get? b=some o) (n:H b=none):(hidT h H).get? b=some o :=
  PySem.W.hideAll_get _ e fun hm=>by
    have q:(H b).isSome=true:=(List.mem_filter.mp hm).2
    rw [n] at q;simp at q
theorem of_hidT {h:Heap} {H:Hp} {b:Addr} {o:Obj} (e:(hidT h H).get? b=some o):h.get? b=some o∧H b=none:=by
  have e':h.get? b=some o:=PySem.W.of_hideAll (trk h H) e
  refine ⟨e',?_⟩
  cases q:H b with
  | none=>rfl
  | some x =>
    have hm:b∈trk h H:=List.mem_filter.mpr ⟨List.mem_range.mpr (Heap.lt_size e'),by simp [q]⟩
    have z:(hidT h H).get? b=none:=PySem.W.hideAll_none (trk h H) hm
    rw [z] at e;cases e

end L2

namespace L2
open PySem PySem.Spec PyProof.Rows

structure Mod (K:PySem.W.Frag) (mg:Str→Option Value) (base:Heap):Prop where
  kin:K.In base
  glob:base.Ns mainGlobals mg
  blt:∃ mb,base.Ns builtinsNs mb∧∀ x:Str,x ≠ "__name__" → mb x=bootBuiltins x
  nolimit:base.NoLimit

structure Cx where
  prog:Program
  w:World
  K:PySem.W.Frag
  mg:Str→Option Value
  base:Heap
  A:Around
  N:List Str
  s₀ : Shared
  H₀ : Hp
  env:Env
  outer:List Env
  stack:List Env
  ex:List Addr
  fn:Str→Bool
  calm:Bool
  pn:List (Addr × Obj)
  xe:Value→Shared→Prop
noncomputable def frs (l:List Env):List Addr:=l.filterMap (·.frame)
noncomputable abbrev Cx.fs (X:Cx):List Addr:=frs X.outer

noncomputable def Vis (sc:Scope) (x:Str):Prop:=sc.names.lookup x=some .local∨sc.names.lookup x=some .cell∨sc.names.lookup x=some .free
noncomputable def Loc (sc:Scope) (x:Str):Prop:=sc.names.lookup x=some .local∨sc.names.lookup x=some .cell
noncomputable def Look (env:Env) (h:Heap) (m:Str→Option Value) (x:Str) (u:Value):Prop :=
  (env.kindOf x=some .local∧m x=some u)∨((env.kindOf x=some .cell∨env.kindOf x=some .free)∧∃ c,env.cells.lookup x=some c∧h.IsCell c (some u))

structure Cx.Ok (X:Cx):Prop where
  mod:Mod X.K X.mg X.base
  kind:X.env.scope.kind = .function
  glob:X.env.globals=mainGlobals
  blt:X.env.builtins=builtinsNs
  above:X.s₀.heap.objs.size≤X.env.locals
  inj:∀ x y c,X.env.cells.lookup x=some c→X.env.cells.lookup y=some c→x=y
  has:∀ x,(X.env.kindOf x=some .cell∨X.env.kindOf x=some .free)→∃ c,X.env.cells.lookup x=some c
  cab:∀ x c,X.fn x=true→X.env.cells.lookup x=some c→X.s₀.heap.objs.size≤c
  hd:X.calm=true→X.A.handled=none
  frames:X.A.frames=some X.stack
  stk:X.stack=X.outer∨(X.stack=X.env :: X.outer∧X.env.frame=some X.env.locals)
  exf:∀ b∈X.ex,b≠X.env.locals∧∀ x c,X.env.cells.lookup x=some c→c≠b
  bs:∀ b o,X.base.get? b=some o→X.s₀.heap.get? b=some o∧X.H₀ b=none
  bsz:X.base.objs.size≤X.s₀.heap.objs.size
  noex:∀ b o,X.base.get? b=some o→b ∉ X.ex
  exfs:∀ b∈X.ex,b ∉ X.fs
  funs:X.s₀.heap.FunFrames X.base X.outer
  frf:∀ b∈X.fs,X.H₀ b=none

structure Inv (X:Cx) (pins:List (Addr × Obj)) (σ : List (Option V)) (H:Hp) (s:Shared):Prop where
  ok:X.Ok
  os:s.os=X.s₀.os
  bare:AllBare s.gens
  base:Un X.fs X.ex X.H₀ H X.s₀.heap s.heap
  loc:∃ m,s.heap.Ns X.env.locals m∧∀ (i:Nat) (x:Str) (v:V),X.N[i]? = some x → σ[i]? = some (some v)→Vis X.env.scope x→∃ u,RelV v u∧Look X.env s.heap m x u
  cell:∀ x c,X.env.cells.lookup x=some c→∃ v,s.heap.IsCell c v
  free:H X.env.locals=none
  freeC:∀ x c,X.env.cells.lookup x=some c→H c=none
  pin:∀ p∈X.pn ++ pins,s.heap.get? p.1=some p.2∧H p.1=none∧p.1≠X.env.locals∧p.1 ∉ X.fs∧∀ v,p.2.data ≠ .cell v
  hok:HOk X.prog X.w H s.heap
  len : σ.length=X.N.length

section
variable {X:Cx} {pins:List (Addr × Obj)} {σ : List (Option V)} {H H':Hp} {s:Shared} {h':Heap}

theorem Cx.Ok.nofr (ok:X.Ok) {b:Addr} {o:Obj} (e:X.base.get? b=some o):b ∉ X.fs:=fun hb=>by
  have:=(ok.funs.mem hb).1
  rw [e] at this;cases this
theorem Inv.bs (I:Inv X pins σ H s):∀ b o,X.base.get? b=some o→s.heap.get? b=some o∧H b=none:=fun b o e =>
  ⟨I.base.keep b o (I.ok.bs b o e).1 (I.ok.bs b o e).2 (I.ok.nofr e) (I.ok.noex b o e),I.base.free b o (I.ok.bs b o e).1 (I.ok.bs b o e).2 (I.ok.noex b o e)⟩
theorem Inv.bk (I:Inv X pins σ H s):∀ b o,X.base.get? b=some o→s.heap.get? b=some o:=fun b o e=>(I.bs b o e).1
theorem Inv.mod (I:Inv X pins σ H s):Mod X.K X.mg X.base:=I.ok.mod
theorem Inv.kIn (I:Inv X pins σ H s):X.K.In s.heap:=I.ok.mod.kin.keeps I.bk
theorem Inv.lt (I:Inv X pins σ H s):X.env.locals < s.heap.objs.size:=let ⟨_,hn,_⟩:=I.loc;hn.lt
theorem Inv.sz (I:Inv X pins σ H s):X.s₀.heap.objs.size≤s.heap.objs.size:=Nat.le_trans I.ok.above (Nat.le_of_lt I.lt)
theorem Inv.nofs (I:Inv X pins σ H s) {a:Addr} (h:s.heap.objs.size≤a):a ∉ X.fs:=fun hb=>by
  obtain ⟨_,o,ho,_⟩:=I.ok.funs.mem hb
  exact absurd (Nat.lt_of_lt_of_le (Heap.lt_size ho) (Nat.le_trans I.sz h)) (Nat.lt_irrefl _)
theorem Inv.cne (I:Inv X pins σ H s):∀ x c,X.env.cells.lookup x=some c→c≠X.env.locals:=fun x c e z=>by
  obtain ⟨v,o,ho,hd⟩:=I.cell x c e
  obtain ⟨m,⟨o',es,ep,ho',hd',_⟩,_⟩:=I.loc
  rw [z,ho'] at ho;cases ho;rw [hd'] at hd;cases hd
theorem Inv.funs (I:Inv X pins σ H s):s.heap.FunFrames X.base X.outer:=by
  have all:∀ (l:List Env),(∀ b∈frs l,b∈X.fs)→X.s₀.heap.FunFrames X.base l→s.heap.FunFrames X.base l:=by
    intro l
    induction l with
    | nil=>intro _ _;trivial
    | cons env r ih =>
      intro hs hl
      obtain ⟨hk,⟨L,o,hf,hn,ho,hd⟩,hr⟩:=hl
      have hL:L∈X.fs:=hs L (by unfold frs;rw [List.filterMap_cons,hf];exact List.mem_cons_self)
      obtain ⟨sl,e⟩:=I.base.slot L o ho (I.ok.frf L hL) hL fun z=>I.ok.exfs L z hL
      exact ⟨hk,⟨L,_,hf,hn,e,hd⟩,ih (fun b hb=>hs b (by unfold frs;rw [List.filterMap_cons,hf];exact List.mem_cons_of_mem _ hb)) hr⟩
  exact all X.outer (fun _ hb=>hb) I.ok.funs

theorem Inv.stack (I:Inv X pins σ H s):s.heap.FunFrames X.base X.stack:=by
  rcases I.ok.stk with e | ⟨e,hf⟩
  · rw [e];exact I.funs
  · rw [e]
    obtain ⟨m,hn,_⟩:=I.loc
    refine .cons (by rw [I.ok.kind];decide) hf hn ?_ I.funs
    exact Heap.get?_none_of_le (Nat.le_trans I.ok.bsz I.ok.above)
theorem Inv.stkSub (I:Inv X pins σ H s):∀ b∈frs X.stack,b∈X.env.locals :: X.fs:=fun b hb=>by
  rcases I.ok.stk with e | ⟨e,hf⟩
  · rw [e] at hb;exact List.mem_cons_of_mem _ hb
  · rw [e] at hb
    unfold frs at hb
    rw [List.filterMap_cons,hf] at hb
    exact hb
theorem Inv.stkFree (I:Inv X pins σ H s):∀ b∈frs X.stack,H b=none:=fun b hb=>by
  rcases List.mem_cons.mp (I.stkSub b hb) with e | hb
  · rw [e];exact I.free
  · obtain ⟨_,o,ho,_⟩:=I.ok.funs.mem hb
    exact I.base.free b o ho (I.ok.frf b hb) fun z=>I.ok.exfs b z hb

theorem Inv.step {g':Array GenState} {t':Nat} {d':Drawn} {ch:List Addr} (I:Inv X pins σ H s)
    (hch:∀ b∈ch,(b∈X.ex∨X.s₀.heap.objs.size≤b)∧b≠X.env.locals∧(∀ x c,X.env.cells.lookup x=some c→c≠b)∧∀ p∈X.pn ++ pins,p.1≠b)
    (keep:∀ b o,b≠X.env.locals→b ∉ X.fs→b ∉ ch→s.heap.get? b=some o→H b=none→h'.get? b=some o)
    (slot:∀ b o,b≠X.env.locals→b∈X.fs→b ∉ ch→s.heap.get? b=some o→H b=none→∃ sl,h'.get? b=some { o with slots:=sl }) (free:∀ b o,b ∉ ch→s.heap.get? b=some o→H b=none→H' b=none)
    (there:∀ b o,b ∉ ch→s.heap.get? b=some o→∃ o',h'.get? b=some o')
    (tups:∀ b xs,H b=some (.tup xs)→H' b=some (.tup xs)) (frzs:∀ b o u,H b=some (.frz o u)→H' b=some (.frz o u)) (tbls:∀ b ps,H b=some (.tbl ps)→∃ more,H' b=some (.tbl (ps ++ more)))
    (ns:∀ m,s.heap.Ns X.env.locals m→h'.Ns X.env.locals m) (hok:HOk X.prog X.w H' h') (hg:AllBare g') :
    Inv X pins σ H' { s with heap:=h',gens:=g',drawn:=d',toks:=t' }:=by
  have neL:∀ b o,X.s₀.heap.get? b=some o→b≠X.env.locals:=fun b o e=>Nat.ne_of_lt (Nat.lt_of_lt_of_le (Heap.lt_size e) I.ok.above)
  have neC:∀ b o,X.s₀.heap.get? b=some o→b ∉ X.ex→b ∉ ch:=fun b o e hx hb=>by
    rcases (hch b hb).1 with z | z
    · exact hx z
    · exact absurd (Nat.lt_of_lt_of_le (Heap.lt_size e) z) (Nat.lt_irrefl _)
  have cellK:∀ x c,X.env.cells.lookup x=some c→∀ v,s.heap.IsCell c v→h'.IsCell c v:=fun x c e v ⟨o,ho,hd⟩=>by
    have nch:c ∉ ch:=fun z=>(hch c z).2.2.1 x c e rfl
    by_cases hc:c∈X.fs
    · obtain ⟨sl,q⟩:=slot c o (I.cne x c e) hc nch ho (I.freeC x c e)
      exact ⟨_,q,hd⟩
    · exact ⟨o,keep c o (I.cne x c e) hc nch ho (I.freeC x c e),hd⟩
  refine ⟨I.ok,I.os,hg,⟨fun b o e n hb hx => ?_,fun b o e n hb hx => ?_,fun b o e n hx => ?_,fun b o e hx => ?_,fun b xs e=>tups b xs (I.base.tups b xs e),fun b o xs e=>frzs b o xs (I.base.frzs b o xs e),fun b ps e => ?_⟩,?_,fun x c e => ?_,?_,fun x c e => ?_,fun p hp => ?_,hok,I.len⟩
  · exact keep b o (neL b o e) hb (neC b o e hx) (I.base.keep b o e n hb hx) (I.base.free b o e n hx)
  · obtain ⟨sl,e1⟩:=I.base.slot b o e n hb hx
    obtain ⟨sl',e2⟩:=slot b _ (neL b o e) hb (neC b o e hx) e1 (I.base.free b o e n hx)
    exact ⟨sl',e2⟩
  · obtain ⟨o',e1⟩:=I.base.there b o e hx
    exact free b o' (neC b o e hx) e1 (I.base.free b o e n hx)
  · obtain ⟨o',e1⟩:=I.base.there b o e hx
    exact there b o' (neC b o e hx) e1
  · obtain ⟨m1,e1⟩:=I.base.tbls b ps e
    obtain ⟨m2,e2⟩:=tbls b _ e1
    exact ⟨m1 ++ m2,by rw [e2,Array.append_assoc]⟩
  · obtain ⟨m,hn,hl⟩:=I.loc
    refine ⟨m,ns m hn,fun i x v e1 e2 e3 => ?_⟩
    obtain ⟨u,r,l⟩:=hl i x v e1 e2 e3
    refine ⟨u,r,?_⟩
    rcases l with l | ⟨k,c,e,z⟩
    · exact .inl l
    · exact .inr ⟨k,c,e,cellK x c e _ z⟩
  · obtain ⟨v,z⟩:=I.cell x c e
    exact ⟨v,cellK x c e v z⟩
  · obtain ⟨m,⟨o,_,_,ho,_⟩,_⟩:=I.loc
    exact free _ o (fun z=>(hch _ z).2.1 rfl) ho I.free
  · obtain ⟨v,o,ho,hd⟩:=I.cell x c e
    exact free c o (fun z=>(hch c z).2.2.1 x c e rfl) ho (I.freeC x c e)
  · obtain ⟨e,n,ne,nf,d⟩:=I.pin p hp
    have nch:p.1 ∉ ch:=fun z=>(hch p.1 z).2.2.2 p hp rfl
    exact ⟨keep p.1 p.2 ne nf nch e n,free p.1 p.2 nch e n,ne,nf,d⟩
theorem Inv.un {t':Nat} (I:Inv X pins σ H s) (u:Un X.fs [] H H' s.heap h') (hok:HOk X.prog X.w H' h'):Inv X pins σ H' { s with heap:=h',toks:=t' }:=by
  obtain ⟨m,⟨o,es,ep,ho,r⟩,_⟩:=id I.loc
  obtain ⟨sl,hL⟩:=u.any ho I.free (by simp)
  exact I.step (g':=s.gens) (d':=s.drawn) (ch := []) (fun _ z=>nomatch z) (fun b o _ hb _ e n=>u.keep b o e n hb (by simp)) (fun b o _ hb _ e n=>u.slot b o e n hb (by simp)) (fun b o _ e n=>u.free b o e n (by simp)) (fun b o _ e=>u.there b o e (by simp)) u.tups u.frzs u.tbls (fun m' hm=>by
    obtain ⟨o',es',ep',ho',r'⟩:=hm
    rw [ho] at ho';cases ho'
    exact ⟨_,es',ep',hL,r'⟩) hok I.bare
theorem Inv.call {g':Array GenState} {t':Nat} {d':Drawn} {ch:List Addr} (I:Inv X pins σ H s) (u:Un (frs X.stack) ch H H' s.heap h') (hok:HOk X.prog X.w H' h') (hg:AllBare g')
    (hch:∀ b∈ch,(b∈X.ex∨X.s₀.heap.objs.size≤b)∧b≠X.env.locals∧(∀ x c,X.env.cells.lookup x=some c→c≠b)∧∀ p∈X.pn ++ pins,p.1≠b) :
    Inv X pins σ H' { s with heap:=h',gens:=g',drawn:=d',toks:=t' }:=by
  obtain ⟨m,⟨o,es,ep,ho,r⟩,_⟩:=id I.loc
  obtain ⟨sl,hL⟩:=u.any ho I.free fun z=>(hch _ z).2.1 rfl
  exact I.step (ch:=ch) hch (fun b o hL hb hc e n=>u.keep b o e n (fun z=>(List.mem_cons.mp (I.stkSub b z)).elim hL hb) hc) (fun b o _ _ hc e n=>u.any e n hc) (fun b o hc e n=>u.free b o e n hc) (fun b o hc e=>u.there b o e hc) u.tups u.frzs u.tbls (fun m' hm=>by
    obtain ⟨o',es',ep',ho',r'⟩:=hm
    rw [ho] at ho';cases ho'
    exact ⟨_,es',ep',hL,r'⟩) hok hg
theorem Inv.turned {t':Nat} {it:Addr} (I:Inv X pins σ H s) (k:∀ b o,b≠it→s.heap.get? b=some o→h'.get? b=some o) (hn:H it=none) (hL:it≠X.env.locals)
    (h1:it∈X.ex∨X.s₀.heap.objs.size≤it) (h2:∀ x c,X.env.cells.lookup x=some c→c≠it) (h3:∀ p∈X.pn ++ pins,p.1≠it):Inv X pins σ H { s with heap:=h',toks:=t' }:=by
  have nit:∀ b u,H b=some u→b≠it:=fun b u e z=>by rw [z,hn] at e;cases e
  refine I.step (g':=s.gens) (d':=s.drawn) (ch := [it]) (fun b hb => ?_) (fun b o _ _ hc e _=>k b o (fun z=>hc (by simp [z])) e) (fun b o _ _ hc e _=>⟨o.slots,k b o (fun z=>hc (by simp [z])) e⟩) (fun _ _ _ _ n=>n)
    (fun b o hc e=>⟨o,k b o (fun z=>hc (by simp [z])) e⟩) (fun _ _ e=>e) (fun _ _ _ e=>e) (fun b ps e=>⟨#[],by rw [e];simp⟩) (fun m hm => ?_) (fun b u e => ?_) I.bare
  · have e:b=it:=by simpa using hb
    subst e
    exact ⟨h1,hL,h2,h3⟩
  · obtain ⟨o,es,ep,ho,r⟩:=hm
    exact ⟨o,es,ep,k _ o (Ne.symm hL) ho,r⟩
  · refine (I.hok b u e).stay (fun c v hc q=>k c v ?_ q) (fun _ q=>q) fun _ _ q=>q
    rcases hc with z | z
    · rw [z];exact nit b u e
    · exact nit c _ z
theorem Inv.tok (I:Inv X pins σ H s) (t:Nat):Inv X pins σ H { s with toks:=t }:=I.un (h':=s.heap) (t':=t) Un.refl I.hok
theorem Inv.kept {t':Nat} (I:Inv X pins σ H s) (k:∀ b u,s.heap.get? b=some u→h'.get? b=some u):Inv X pins σ H { s with heap:=h',toks:=t' }:=I.un (Un.kept k) (I.hok.kept k)
theorem Inv.laid {a:Addr} {o:HO} {t':Nat} (I:Inv X pins σ H s) (k:∀ b u,s.heap.get? b=some u→h'.get? b=some u) (hp:s.heap.objs.size≤a) (new:ObjOk X.prog X.w (upd H a o) h' a o) :
    Inv X pins σ (upd H a o) { s with heap:=h',toks:=t' }:=I.un (Un.laid k hp (I.hok.fresh hp)) (I.hok.laid k hp new)
theorem Inv.write {x e:Addr} {o:HO} {t':Nat} (I:Inv X pins σ H s) (mu:Mut (H x)) (he:e=x∨H e=some (.own x)) (k:∀ b u,b≠e→s.heap.get? b=some u→h'.get? b=some u) (heo:∃ u,h'.get? e=some u)
    (new:ObjOk X.prog X.w (upd H x o) h' x o):Inv X pins σ (upd H x o) { s with heap:=h',toks:=t' }:=I.un (Un.write mu he k heo) (I.hok.write mu he k heo new)
theorem Inv.pins_of {pins':List (Addr × Obj)} (I:Inv X pins σ H s) (h:∀ p∈pins',s.heap.get? p.1=some p.2∧H p.1=none∧p.1≠X.env.locals∧p.1 ∉ X.fs∧∀ v,p.2.data ≠ .cell v):Inv X pins' σ H s :=
  ⟨I.ok,I.os,I.bare,I.base,I.loc,I.cell,I.free,I.freeC,fun p hp=>(List.mem_append.mp hp).elim (fun z=>I.pin p (List.mem_append_left _ z)) (h p),I.hok,I.len⟩

theorem nodup_ix {N:List Str} (hN:N.Nodup) {i j:Nat} {x:Str} (a:N[i]? = some x) (b:N[j]? = some x):i=j:=by
  obtain ⟨h1,e1⟩:=List.getElem?_eq_some_iff.mp a
  obtain ⟨h2,e2⟩:=List.getElem?_eq_some_iff.mp b
  exact (List.getElem_inj hN).mp (e1.trans e2.symm)

theorem store_ok2 {M:Model} {A:Around} {E:Value→Shared→Prop} {i:Nat} {x:Str} {v:V} {u:Value} {Q:Unit→Shared→Prop} (I:Inv X pins σ H s) (hN:X.N.Nodup) (hi:X.N[i]? = some x) (hx:Loc X.env.scope x) (r:RelV v u)
    (h:∀ s',Inv X pins (σ.set i (some v)) H s'→(∃ a,Heap.SameBut a s.heap s'.heap∧(a=X.env.locals∨X.env.cells.lookup x=some a))→Q () s') (hf:X.fn x=true∨X.env.scope.names.lookup x=some .local:=by first | exact .inl rfl | exact .inr rfl | assumption):wpAny M A (storeName X.env x u) Q E s:=by
  obtain ⟨m,hn,hl⟩:=id I.loc
  have hcls:(X.env.scope.kind == .class || (X.env.scope.kind == .module && X.env.locals != X.env.globals))=false:=by rw [I.ok.kind];rfl
  have hiσ : i < σ.length:=by rw [I.len];exact (List.getElem?_eq_some_iff.mp hi).1
  have cne:=I.cne
  have tracked:∀ {a:Addr} {h':Heap},(∃ o,s.heap.get? a=some o∧H a=none)→Heap.SameBut a s.heap h'→HOk X.prog X.w H h':=fun {a h'} ha hs b ob e=>by
    obtain ⟨_,_,hfree⟩:=ha
    refine (I.hok b ob e).stay (fun c w' hc q=>(hs.2 c ?_).trans q) (fun _ q=>q) fun _ _ q=>q
    rintro rfl
    rcases hc with rfl | hc
    · rw [hfree] at e;cases e
    · rw [hfree] at hc;cases hc
  rcases hx with hk | hk
  · refine wpAny_storeName_local hk hn (fun h' hn' hs => ?_) hcls
    obtain ⟨oL,_,_,hoL,_⟩:=id hn
    refine h _ ⟨I.ok,I.os,I.bare,⟨fun b o e n hb hx => ?_,fun b o e n hb hx => ?_,I.base.free,fun b o e hx => ?_,I.base.tups,I.base.frzs,I.base.tbls⟩,⟨_,hn',fun j y v' e1 e2 e3 => ?_⟩,fun y c e => ?_,I.free,I.freeC,fun p hp => ?_,tracked ⟨oL,hoL,I.free⟩ hs,by simpa using I.len⟩ ⟨_,hs,.inl rfl⟩
    · exact (hs.2 b (Nat.ne_of_lt (Nat.lt_of_lt_of_le (Heap.lt_size e) I.ok.above))).trans (I.base.keep b o e n hb hx)
    · obtain ⟨sl,e1⟩:=I.base.slot b o e n hb hx
      exact ⟨sl,(hs.2 b (Nat.ne_of_lt (Nat.lt_of_lt_of_le (Heap.lt_size e) I.ok.above))).trans e1⟩
    · obtain ⟨o',e1⟩:=I.base.there b o e hx
      exact ⟨o',(hs.2 b (Nat.ne_of_lt (Nat.lt_of_lt_of_le (Heap.lt_size e) I.ok.above))).trans e1⟩
    · by_cases hj:j=i
      · subst hj
        rw [hi] at e1;cases e1
        rw [List.getElem?_set_self hiσ] at e2
        cases e2
        exact ⟨u,r,.inl ⟨hk,by simp⟩⟩
      · rw [List.getElem?_set_ne (Ne.symm hj)] at e2
        obtain ⟨u',r',q⟩:=hl j y v' e1 e2 e3
        refine ⟨u',r',?_⟩
        rcases q with ⟨k,e⟩ | ⟨k,c,e,z⟩
        · refine .inl ⟨k,?_⟩
          have:y≠x:=fun e=>hj (nodup_ix hN e1 (e ▸ hi))
          simp [this,e]
        · exact .inr ⟨k,c,e,z.sameBut hs (cne y c e)⟩
    · obtain ⟨w',z⟩:=I.cell y c e
      exact ⟨w',z.sameBut hs (cne y c e)⟩
    · obtain ⟨e,n,ne,nf,d⟩:=I.pin p hp
      exact ⟨(hs.2 p.1 ne).trans e,n,ne,nf,d⟩
  · have hfn:X.fn x=true:=by
      rcases hf with z | z
      · exact z
      · rw [z] at hk;cases hk
    obtain ⟨c,hc⟩:=I.ok.has x (.inl hk)
    obtain ⟨w',z⟩:=I.cell x c hc
    refine wpAny_storeName_cell I.ok.kind hk hc z (fun h' hc' hs => ?_)
    obtain ⟨oc,hoc,hocd⟩:=id z
    refine h { s with heap:=h' } ⟨I.ok,I.os,I.bare,⟨fun b o e n hb hx => ?_,fun b o e n hb hx => ?_,I.base.free,fun b o e hx => ?_,I.base.tups,I.base.frzs,I.base.tbls⟩,⟨m,hn.sameBut hs (Ne.symm (cne x c hc)),fun j y v' e1 e2 e3 => ?_⟩,fun y c' e => ?_,I.free,I.freeC,fun p hp => ?_,tracked ⟨oc,hoc,I.freeC x c hc⟩ hs,by simpa using I.len⟩ ⟨c,hs,.inr hc⟩
    · exact (hs.2 b (Nat.ne_of_lt (Nat.lt_of_lt_of_le (Heap.lt_size e) (I.ok.cab x c hfn hc)))).trans (I.base.keep b o e n hb hx)
    · obtain ⟨sl,e1⟩:=I.base.slot b o e n hb hx
      exact ⟨sl,(hs.2 b (Nat.ne_of_lt (Nat.lt_of_lt_of_le (Heap.lt_size e) (I.ok.cab x c hfn hc)))).trans e1⟩
    · obtain ⟨o',e1⟩:=I.base.there b o e hx
      exact ⟨o',(hs.2 b (Nat.ne_of_lt (Nat.lt_of_lt_of_le (Heap.lt_size e) (I.ok.cab x c hfn hc)))).trans e1⟩
    · by_cases hj:j=i
      · subst hj
        rw [hi] at e1;cases e1
        rw [List.getElem?_set_self hiσ] at e2
        cases e2
        exact ⟨u,r,.inr ⟨.inl hk,c,hc,hc'⟩⟩
      · rw [List.getElem?_set_ne (Ne.symm hj)] at e2
        obtain ⟨u',r',q⟩:=hl j y v' e1 e2 e3
        refine ⟨u',r',?_⟩
        rcases q with q | ⟨k,c',e,z'⟩
        · exact .inl q
        · refine .inr ⟨k,c',e,z'.sameBut hs ?_⟩
          rintro rfl
          exact hj (nodup_ix hN e1 (I.ok.inj _ _ _ e hc ▸ hi))
    · by_cases hcc:c'=c
      · subst hcc;exact ⟨_,hc'⟩
      · obtain ⟨w2,z2⟩:=I.cell y c' e
        exact ⟨w2,z2.sameBut hs hcc⟩
    · obtain ⟨e,n,ne,nf,d⟩:=I.pin p hp
      refine ⟨(hs.2 p.1 ?_).trans e,n,ne,nf,d⟩
      intro q
      rw [q,hoc] at e
      have q':oc=p.2:=Option.some.inj e
      exact d w' (by rw [← q'];exact hocd)
theorem store_ok {M:Model} {A:Around} {E:Value→Shared→Prop} {i:Nat} {x:Str} {v:V} {u:Value} {Q:Unit→Shared→Prop} (I:Inv X pins σ H s) (hN:X.N.Nodup) (hi:X.N[i]? = some x) (hx:Loc X.env.scope x) (r:RelV v u)
    (h:∀ s',Inv X pins (σ.set i (some v)) H s'→Q () s') (hf:X.fn x=true∨X.env.scope.names.lookup x=some .local:=by first | exact .inl rfl | exact .inr rfl | assumption):wpAny M A (storeName X.env x u) Q E s :=
  store_ok2 I hN hi hx r (fun s' I' _=>h s' I') hf
theorem Inv.call' {s':Shared} {ch:List Addr} (I:Inv X pins σ H s) (ho:s'.os=s.os) (u:Un (frs X.stack) ch H H' s.heap s'.heap) (hok:HOk X.prog X.w H' s'.heap) (hg:AllBare s'.gens)
    (hch:∀ b∈ch,(b∈X.ex∨X.s₀.heap.objs.size≤b)∧b≠X.env.locals∧(∀ x c,X.env.cells.lookup x=some c→c≠b)∧∀ p∈X.pn ++ pins,p.1≠b):Inv X pins σ H' s':=by
  obtain ⟨h',g',d',t',o'⟩:=s'
  have e:o'=s.os:=ho
  subst e
  exact I.call (g':=g') (t':=t') (d':=d') u hok hg hch
end

noncomputable abbrev XK:=Value→Option Addr→Hp→Prop
noncomputable abbrev St:=List (Option V)
noncomputable abbrev VK:=V→Hp→Prop
noncomputable abbrev TE:=St→Hp→VK→Prop
noncomputable abbrev TT:=St→Hp→(Bool→Hp→Prop)→Prop
noncomputable abbrev TA:=St→Hp→(List V→Hp→Prop)→Prop
structure Ends where
  nx:St→Hp→Prop
  rt:VK
  bk:St→Hp→Prop:=fun _ _=>False
  ct:St→Hp→Prop:=fun _ _=>False
noncomputable abbrev TS:=Ends→St→Hp→Prop

noncomputable def EP (X:Cx) (pins:List (Addr × Obj)) (σ : St) (Q:VK) (u:Value) (s':Shared):Prop := ∃ v H',Inv X pins σ H' s'∧RelV v u∧Q v H'
noncomputable def TP (X:Cx) (pins:List (Addr × Obj)) (σ : St) (Q:Bool→Hp→Prop) (b:Bool) (s':Shared):Prop := ∃ H',Inv X pins σ H' s'∧Q b H'
noncomputable def AP (X:Cx) (pins:List (Addr × Obj)) (σ : St) (Q:List V→Hp→Prop) (us:List Value) (s':Shared):Prop := ∃ vs H',Inv X pins σ H' s'∧Vals vs us∧Q vs H'
noncomputable def SP (X:Cx) (pins:List (Addr × Obj)) (D:Ends) (f:Flow) (s':Shared):Prop :=
  match f with
  | .next=>∃ σ' H',Inv X pins σ' H' s'∧D.nx σ' H'
  | .brk=>∃ σ' H',Inv X pins σ' H' s'∧D.bk σ' H'
  | .cont=>∃ σ' H',Inv X pins σ' H' s'∧D.ct σ' H'
  | .ret u=>∃ v σ' H',Inv X pins σ' H' s'∧RelV v u∧D.rt v H'

noncomputable def PE (X:Cx) (e:Expr) (t:TE):Prop :=
  ∀ (pins:List (Addr × Obj)) (s:Shared) (σ : St) (H:Hp) (Q:VK),Inv X pins σ H s→t σ H Q→wpAny (model X.prog X.w) X.A (eval e X.env) (EP X pins σ Q) X.xe s
noncomputable def PT (X:Cx) (e:Expr) (t:TT):Prop :=
  ∀ (pins:List (Addr × Obj)) (s:Shared) (σ : St) (H:Hp) (Q:Bool→Hp→Prop),Inv X pins σ H s→t σ H Q→wpAny (model X.prog X.w) X.A (isTrue e X.env (eval e X.env)) (TP X pins σ Q) X.xe s
noncomputable def PW (X:Cx) (e:Expr) (t:TT):Prop :=
  ∀ (whole:Sem Value) (pins:List (Addr × Obj)) (s:Shared) (σ : St) (H:Hp) (Q:Bool→Hp→Prop),Inv X pins σ H s→t σ H Q→wpAny (model X.prog X.w) X.A (isTrue e X.env whole) (TP X pins σ Q) X.xe s
theorem PW.pt {X:Cx} {e:Expr} {t:TT} (h:PW X e t):PT X e t:=h _
noncomputable def PA (X:Cx) (es:List Expr) (t:TA):Prop :=
  ∀ (pos:Pos) (pins:List (Addr × Obj)) (s:Shared) (σ : St) (H:Hp) (Q:List V→Hp→Prop),Inv X pins σ H s→t σ H Q→wpAny (model X.prog X.w) X.A (spliced (backTo pos (starEach es X.env))) (AP X pins σ Q) X.xe s
noncomputable def PS (X:Cx) (st:Stmt) (t:TS):Prop :=
  ∀ (pins:List (Addr × Obj)) (s:Shared) (σ : St) (H:Hp) (D:Ends),Inv X pins σ H s→t D σ H→wpAny (model X.prog X.w) X.A (exec st X.env) (SP X pins D) X.xe s
noncomputable def PSs (X:Cx) (st:List Stmt) (t:TS):Prop :=
  ∀ (pins:List (Addr × Obj)) (s:Shared) (σ : St) (H:Hp) (D:Ends),Inv X pins σ H s→t D σ H→wpAny (model X.prog X.w) X.A (execs st X.env) (SP X pins D) X.xe s
theorem thn {α : Type} {t:Sem α} {Q Q' : α → Shared→Prop} {M:Model} {A:Around} {E:Value→Shared→Prop} {s:Shared} (h:wpAny M A t Q E s) (hQ:∀ a s,Q a s→Q' a s):wpAny M A t Q' E s:=wpAny_mono h hQ fun _ _ x=>x
end L2

namespace L2
open PySem PySem.Spec PyProof.Rows
section
variable {X:Cx}


inductive TVar (i:Nat) (σ : St) (H:Hp) (Q:VK):Prop
  | mk (v:V) (e : σ[i]? = some (some v)) (q:Q v H):TVar i σ H Q
noncomputable def tVar (i:Nat):TE:=fun σ H Q=>TVar i σ H Q
noncomputable def tC (v:V):TE:=fun _ H Q=>Q v H
theorem pe_var {i:Nat} {x:Str} {pos:Pos} (hN:X.N[i]? = some x) (hv:Vis X.env.scope x) (hd:(x == ("__debug__" : Str))=false:=by decide) (hcd:(x == ("__classdict__" : Str))=false:=by decide):PE X (.Name x pos) (tVar i):=by
  intro pins s σ H Q I h
  obtain ⟨v,e,h⟩:=h
  obtain ⟨m,hn,hl⟩:=I.loc
  obtain ⟨u,r,l⟩:=hl i x v hN e hv
  have fin:EP X pins σ Q u s:=⟨v,H,I,r,h⟩
  rcases l with ⟨hk,hm⟩ | ⟨hk,c,hc,hcell⟩
  · exact wpAny_Name (wpAny_loadName_local I.ok.kind hk hn hm fin) hd
  · rcases hk with hk | hk
    · exact wpAny_Name (wpAny_loadName_cell I.ok.kind hk hc hcell fin) hd
    · exact wpAny_Name (wpAny_loadName_free I.ok.kind hk hc hcell fin hcd) hd
theorem pe_int {i j pos}:PE X (.Constant (.int i) j pos) (tC (.int i)):=fun _ _ _ H _ I h=>wpAny_Constant_int ⟨.int i,H,I.tok _,⟨_,rfl⟩,h⟩
theorem pe_bl {b j pos}:PE X (.Constant (.bool b) j pos) (tC (.bl b)):=fun _ _ _ H _ I h=>Constant_bool ⟨.bl b,H,I,rfl,h⟩
theorem pe_non {j pos}:PE X (.Constant .none j pos) (tC .non):=fun _ _ _ H _ I h=>Constant_none ⟨.non,H,I,rfl,h⟩
theorem pe_str {x j pos}:PE X (.Constant (.str x) j pos) (tC (.str x)):=fun _ _ _ H _ I h=>Calls.Constant_str ⟨.str x,H,I.tok _,⟨_,rfl⟩,h⟩

noncomputable def Gl (X:Cx) (x:Str):Prop:=X.env.kindOf x=some .globalImplicit
theorem ld_glob {E:Value→Shared→Prop} {pins:List (Addr × Obj)} {s:Shared} {σ : St} {H:Hp} {x:Str} {u:Value} {pos:Pos} {Q:Value→Shared→Prop} (I:Inv X pins σ H s) (hg:Gl X x) (hm:X.mg x=some u) (h:Q u s)
    (hd:(x == ("__debug__" : Str))=false:=by decide):wpAny (model X.prog X.w) X.A (eval (.Name x pos) X.env) Q E s :=
  Calls.Name_function_global I.ok.kind hg (Calls.loadGlobal_global (by rw [I.ok.glob];exact I.mod.glob.keeps I.bk) hm h) hd
theorem ld_blt {E:Value→Shared→Prop} {pins:List (Addr × Obj)} {s:Shared} {σ : St} {H:Hp} {x:Str} {u:Value} {pos:Pos} {Q:Value→Shared→Prop} (I:Inv X pins σ H s) (hg:Gl X x) (hm:X.mg x=none) (hv:bootBuiltins x=some u) (h:Q u s)
    (hn:x ≠ "__name__" := by decide) (hd:(x == ("__debug__" : Str))=false:=by decide):wpAny (model X.prog X.w) X.A (eval (.Name x pos) X.env) Q E s:=by
  obtain ⟨mb,h1,h2⟩:=I.mod.blt
  exact Calls.Name_function_global I.ok.kind hg (Calls.loadGlobal_builtin (by rw [I.ok.glob];exact I.mod.glob.keeps I.bk) hm (by rw [I.ok.blt];exact h1.keeps I.bk) ((h2 x hn).trans hv) h) hd
theorem pe_glob {x:Str} {v:V} {u:Value} {pos:Pos} (hg:Gl X x) (hm:X.mg x=some u) (r:RelV v u) (hd:(x == ("__debug__" : Str))=false:=by decide):PE X (.Name x pos) (tC v) :=
  fun _ _ _ H _ I h=>ld_glob I hg hm ⟨v,H,I,r,h⟩ hd
theorem pe_bltn {x:Str} {v:V} {u:Value} {pos:Pos} (hg:Gl X x) (hm:X.mg x=none) (hv:bootBuiltins x=some u) (r:RelV v u) (hn:x ≠ "__name__" := by decide) (hd:(x == ("__debug__" : Str))=false:=by decide):PE X (.Name x pos) (tC v) :=
  fun _ _ _ H _ I h=>ld_blt I hg hm hv ⟨v,H,I,r,h⟩ hn hd

variable {a b:Expr} {ta tb:TE} {pos:Pos}

noncomputable def PC (X:Cx) (op:CmpOp) (a b:Expr) (t:TE):Prop :=
  ∀ (pins:List (Addr × Obj)) (s:Shared) (σ : St) (H:Hp) (Q:VK),Inv X pins σ H s→t σ H Q →
    wpAny (model X.prog X.w) X.A (eval a X.env) (fun v s₁ => wpAny (model X.prog X.w) X.A (eval b X.env) (fun u s₂ => wpAny (model X.prog X.w) X.A (compareOp op v u) (EP X pins σ Q) X.xe s₂) X.xe s₁) X.xe s
inductive J_tB (Q:Bool→Hp→Prop) (x:V) (H1:Hp):Prop
  | mk:∀ c,(x = .bl c)→(Q c H1)→J_tB Q x H1
noncomputable def tB (t:TE):TT:=fun σ H Q=>t σ H fun x H1=>J_tB Q x H1
theorem pt_cmp {op:CmpOp} {t:TE} (h:PC X op a b t) (h1:behindInMarks op b=false:=by first | exact nobehind _ (by decide) (by decide) | rfl):PT X (.Compare a [op] [b] pos) (tB t):=by
  intro pins s σ H Q I hw
  refine wpAny_isTrue_Compare1 (thn (h pins s σ H _ I hw) fun v s1 h1=>thn h1 fun u s2 h2=>thn h2 fun c s3 ⟨x,H1,I1,r1,q1⟩ => ?_) h1
  obtain ⟨d,rfl,q⟩:=q1
  cases r1
  exact wpAny_truthy_bool ⟨H1,I1,q⟩
theorem pt_val {e:Expr} {t:TE} (h:PE X e t) (he:∀ whole,isTrue e X.env whole=(do let v ← whole;standAt e.pos;holding [v] (truthy v)):=by intro _;rfl):PT X e (tB t):=by
  intro pins s σ H Q I hw
  refine isTrue_plain (thn (h pins s σ H _ I hw) fun v s1 ⟨x,H1,I1,r1,q1⟩ => ?_) (he _)
  obtain ⟨d,rfl,q⟩:=q1
  cases r1
  exact wpAny_truthy_bool ⟨H1,I1,q⟩

variable {tA tB':TT} {rest:List Expr}
noncomputable def tAnd (t u:TT):TT:=fun σ H Q=>t σ H fun c H1=>if c=true then u σ H1 Q else Q false H1
noncomputable def tOr (t u:TT):TT:=fun σ H Q=>t σ H fun c H1=>if c=true then Q true H1 else u σ H1 Q
noncomputable def tNot (t:TT):TT:=fun σ H Q=>t σ H fun c H1=>Q (!c) H1
theorem pw_and1 (ha:PT X a tA):PW X (.BoolOp .And [a] pos) tA:=by
  intro wh pins s σ H Q I h
  refine isTrue_and (thn (ha pins s σ H Q I h) fun c s1 e => ?_)
  cases c with
  | true=>exact isTrue_and_nil e
  | false=>exact e
theorem pw_or1 (ha:PT X a tA):PW X (.BoolOp .Or [a] pos) tA:=by
  intro wh pins s σ H Q I h
  refine isTrue_or (thn (ha pins s σ H Q I h) fun c s1 e => ?_)
  cases c with
  | false=>exact isTrue_or_nil e
  | true=>exact e
theorem pw_and (ha:PT X a tA) (hb:PW X (.BoolOp .And (b :: rest) pos) tB'):PW X (.BoolOp .And (a :: b :: rest) pos) (tAnd tA tB'):=by
  intro wh pins s σ H Q I h
  refine isTrue_and (thn (ha pins s σ H _ I h) fun c s1 ⟨H1,I1,q1⟩ => ?_)
  cases c with
  | true=>exact hb wh pins s1 σ H1 Q I1 q1
  | false=>exact ⟨H1,I1,q1⟩
theorem pw_or (ha:PT X a tA) (hb:PW X (.BoolOp .Or (b :: rest) pos) tB'):PW X (.BoolOp .Or (a :: b :: rest) pos) (tOr tA tB'):=by
  intro wh pins s σ H Q I h
  refine isTrue_or (thn (ha pins s σ H _ I h) fun c s1 ⟨H1,I1,q1⟩ => ?_)
  cases c with
  | true=>exact ⟨H1,I1,q1⟩
  | false=>exact hb wh pins s1 σ H1 Q I1 q1
theorem pt_not (ha:PT X a tA):PT X (.UnaryOp .Not a pos) (tNot tA):=by
  intro pins s σ H Q I h
  exact isTrue_not (ha pins s σ H (fun c H1=>Q (!c) H1) I h)
end
end L2

namespace L2
open PySem PySem.Spec PyProof.Rows

noncomputable def SqL (K:PySem.W.Frag) (H:Hp) (a:Addr) (xs:List V):Prop :=
  Rd H a (.lst xs) ∨
    ∃ (o:Obj) (its:Array Value) (n:Nat),K.lookup a=some o∧o.cls = .type "list" ∧ o.dict=none∧o.data = .seq its n∧its.size≤sizeLine∧Vals xs its.toList
noncomputable def SqT (K:PySem.W.Frag) (H:Hp) (a:Addr) (xs:List V):Prop :=
  Rd H a (.tup xs) ∨
    ∃ (o:Obj) (its:Array Value) (n:Nat),K.lookup a=some o∧o.cls = .type "tuple" ∧ o.data = .seq its n∧its.size≤sizeLine∧Vals xs its.toList
noncomputable def absV:Value→Option V
  | .none=>some .non
  | .bool b=>some (.bl b)
  | .int i _=>some (.int i)
  | .str x _=>some (.str x)
  | .bytes b _=>some (.byt b)
  | .float b _=>some (.flt b)
  | .ref a=>some (.ref a)
  | .type n=>some (.ty n)
  | _=>none
theorem RelV.abs {x:V} {u:Value} (r:RelV x u):absV u=some x:=by
  cases x with
  | non=>cases r;rfl
  | bl _=>cases r;rfl
  | int _=>obtain ⟨t,rfl⟩:=r;rfl
  | str _=>obtain ⟨t,rfl⟩:=r;rfl
  | byt _=>obtain ⟨t,rfl⟩:=r;rfl
  | flt _=>obtain ⟨t,rfl⟩:=r;rfl
  | ref _=>cases r;rfl
  | ty _=>cases r;rfl
theorem RelV.inj {x y:V} {u:Value} (r:RelV x u) (q:RelV y u):x=y:=Option.some.inj (r.abs.symm.trans q.abs)
theorem Vals.inj:∀ {xs ys:List V} {us:List Value},Vals xs us→Vals ys us→xs=ys
  | _,_,_,.nil,.nil=>rfl
  | _,_,_,.cons r t,.cons r' t'=>by rw [r.inj r',Vals.inj t t']
section
variable {X:Cx} {pins:List (Addr × Obj)} {σ : St} {H:Hp} {s:Shared} {a:Addr} {xs ys:List V}
theorem SqL.of {K:PySem.W.Frag} (h:H a=some (.lst xs)):SqL K H a xs := .inl (.inl h)
theorem SqT.of {K:PySem.W.Frag} (h:H a=some (.tup xs)):SqT K H a xs := .inl (.inl h)
theorem Inv.list (I:Inv X pins σ H s) (h:SqL X.K H a xs):∃ its:List Value,Vals xs its∧PlainL s.heap a its.toArray∧xs.length≤sizeLine:=by
  rcases h with h | ⟨o,its,n,hk,hc,hd,hs,hz,r⟩
  · obtain ⟨z,its,n,r,e⟩:=h.ok I.hok
    exact ⟨its,r,⟨_,n,e,rfl,rfl,rfl⟩,z⟩
  · refine ⟨its.toList,r,⟨o,n,I.kIn a o hk,hc,hd,by simpa using hs⟩,?_⟩
    have e:=r.length
    simp only [Array.length_toList] at e
    omega
theorem Inv.tuple (I:Inv X pins σ H s) (h:SqT X.K H a xs):∃ its:List Value,Vals xs its∧IsTup s.heap a its.toArray∧xs.length≤sizeLine:=by
  rcases h with h | ⟨o,its,n,hk,hc,hs,hz,r⟩
  · obtain ⟨z,its,r,p⟩:=h.ok I.hok
    exact ⟨its,r,p.tup,z⟩
  · refine ⟨its.toList,r,⟨o,I.kIn a o hk,hc,n,by simpa using hs⟩,?_⟩
    have e:=r.length
    simp only [Array.length_toList] at e
    omega
theorem Inv.list_inj (I:Inv X pins σ H s) (h:SqL X.K H a xs) (h':SqL X.K H a ys):xs=ys:=by
  obtain ⟨its,r,⟨o,n,e,_,_,d⟩,_⟩:=I.list h
  obtain ⟨its',r',⟨o',n',e',_,_,d'⟩,_⟩:=I.list h'
  rw [e] at e';cases e'
  rw [d] at d'
  injection d' with d1 _
  have:its=its':=by simpa using congrArg Array.toList d1
  subst this
  exact r.inj r'
theorem Inv.tuple_inj (I:Inv X pins σ H s) (h:SqT X.K H a xs) (h':SqT X.K H a ys):xs=ys:=by
  obtain ⟨its,r,⟨o,e,_,n,d⟩,_⟩:=I.tuple h
  obtain ⟨its',r',⟨o',e',_,n',d'⟩,_⟩:=I.tuple h'
  rw [e] at e';cases e'
  rw [d] at d'
  injection d' with d1 _
  have:its=its':=by simpa using congrArg Array.toList d1
  subst this
  exact r.inj r'
end

noncomputable abbrev Cx.wish (X:Cx) (E:Value→Shared→Prop):Cx := { X with xe:=E }
noncomputable abbrev Cx.nox (X:Cx):Cx:=X.wish fun _ _=>False
theorem Cx.Ok.wish {X:Cx} (ok:X.Ok) (E:Value→Shared→Prop):(X.wish E).Ok :=
  ⟨ok.mod,ok.kind,ok.glob,ok.blt,ok.above,ok.inj,ok.has,ok.cab,ok.hd,ok.frames,ok.stk,ok.exf,ok.bs,ok.bsz,ok.noex,ok.exfs,ok.funs,ok.frf⟩
theorem Cx.Ok.unwish {X:Cx} {E:Value→Shared→Prop} (ok:(X.wish E).Ok):X.Ok :=
  ⟨ok.mod,ok.kind,ok.glob,ok.blt,ok.above,ok.inj,ok.has,ok.cab,ok.hd,ok.frames,ok.stk,ok.exf,ok.bs,ok.bsz,ok.noex,ok.exfs,ok.funs,ok.frf⟩
section
variable {X:Cx} {pins:List (Addr × Obj)} {σ : St} {H:Hp} {s:Shared} {E:Value→Shared→Prop}
theorem Inv.wish (I:Inv X pins σ H s) (E:Value→Shared→Prop):Inv (X.wish E) pins σ H s:=⟨I.ok.wish E,I.os,I.bare,I.base,I.loc,I.cell,I.free,I.freeC,I.pin,I.hok,I.len⟩
theorem Inv.unwish (I:Inv (X.wish E) pins σ H s):Inv X pins σ H s:=⟨I.ok.unwish,I.os,I.bare,I.base,I.loc,I.cell,I.free,I.freeC,I.pin,I.hok,I.len⟩
theorem SP.unwish {D:Ends} {f:Flow} {s':Shared} (h:SP (X.wish E) pins D f s'):SP X pins D f s':=by
  cases f with
  | next=>obtain ⟨σ',H',I,q⟩:=h;exact ⟨σ',H',I.unwish,q⟩
  | brk=>obtain ⟨σ',H',I,q⟩:=h;exact ⟨σ',H',I.unwish,q⟩
  | cont=>obtain ⟨σ',H',I,q⟩:=h;exact ⟨σ',H',I.unwish,q⟩
  | ret u=>obtain ⟨v, σ',H',I,r,q⟩:=h;exact ⟨v, σ',H',I.unwish,r,q⟩
theorem PSs.nox {st:List Stmt} {t:TS} (h:PSs X.nox st t):PSs X st t:=fun pins s σ H D I hw =>
  wpAny_mono (h pins s σ H D (I.wish _) hw) (fun _ _ q=>q.unwish) fun _ _ z=>False.elim z
end

section
variable {X:Cx} {st:Stmt} {rest:List Stmt} {t u:TS} {e:Expr} {te:TE} {pos:Pos}
noncomputable def tNext:TS:=fun D σ H=>D.nx σ H
noncomputable def tSeq (t u:TS):TS:=fun D σ H=>t { D with nx:=u D } σ H
theorem pss_nil:PSs X [] tNext:=fun _ _ σ H _ I h=>wpAny_execs_nil ⟨σ,H,I,h⟩
theorem pss_cons (h1:PS X st t) (h2:PSs X rest u):PSs X (st :: rest) (tSeq t u):=by
  intro pins s σ H D I h
  refine wpAny_execs_cons (thn (h1 pins s σ H { D with nx:=u D } I h) fun f s1 q => ?_)
  cases f with
  | next =>
    obtain ⟨σ',H',I',q⟩:=q
    exact h2 pins s1 σ' H' D I' q
  | ret v=>exact q
  | brk=>exact q
  | cont=>exact q
theorem pss_one (h1:PS X st t):PSs X [st] t:=by
  intro pins s σ H D I h
  refine wpAny_execs_cons (thn (h1 pins s σ H D I h) fun f s1 q => ?_)
  cases f with
  | next=>exact wpAny_execs_nil q
  | ret v=>exact q
  | brk=>exact q
  | cont=>exact q
theorem Inv.quiet {pins:List (Addr × Obj)} {σ : St} {H:Hp} {s:Shared} (I:Inv X pins σ H s):interactive X.env=false:=by simp [interactive,I.ok.kind]
noncomputable def tDrop (te:TE):TS:=fun D σ H=>te σ H fun _ H1=>D.nx σ H1
theorem ps_expr (he:PE X e te) (hs:swapsWith e none pos.line X.env=pure false:=by rfl):PS X (.Expr e pos) (tDrop te):=by
  intro pins s σ H D I h
  exact wpAny_Expr_any (thn (he pins s σ H _ I h) fun v s1 ⟨x,H1,I1,r1,q1⟩=>⟨σ,H1,I1,q1⟩) I.quiet hs
noncomputable def tRet (te:TE):TS:=fun D σ H=>te σ H D.rt
theorem ps_ret (he:PE X e te):PS X (.Return (some e) pos) (tRet te):=by
  intro pins s σ H D I h
  exact wpAny_Return_some (thn (he pins s σ H _ I h) fun v s1 ⟨x,H1,I1,r1,q1⟩=>⟨x, σ,H1,I1,r1,q1⟩)
noncomputable def tIfS (c:TT) (t u:TS):TS:=fun D σ H=>c σ H fun b H1=>if b=true then t D σ H1 else u D σ H1
theorem ps_if {c:Expr} {a b:List Stmt} {tc:TT} (hc:PT X c tc) (ha:PSs X a t) (hb:PSs X b u):PS X (.If c a b pos) (tIfS tc t u):=by
  intro pins s σ H D I h
  refine wpAny_If (thn (hc pins s σ H _ I h) fun d s1 ⟨H1,I1,q1⟩ => ?_)
  cases d with
  | true=>exact ha pins s1 σ H1 D I1 q1
  | false=>exact hb pins s1 σ H1 D I1 q1
noncomputable def tNever:TS:=fun _ _ _=>False
theorem ps_never:PS X st tNever:=fun _ _ _ _ _ _ h=>h.elim
theorem pss_never {sts:List Stmt}:PSs X sts tNever:=fun _ _ _ _ _ _ h=>h.elim
end

noncomputable abbrev TG:=V→St→Hp→(St→Hp→Prop)→Prop
noncomputable abbrev TGs:=List V→St→Hp→(St→Hp→Prop)→Prop
noncomputable def PG (X:Cx) (target:Expr) (t:TG):Prop :=
  ∀ (pins:List (Addr × Obj)) (s:Shared) (σ : St) (H:Hp) (v:V) (u:Value) (Q:St→Hp→Prop),Inv X pins σ H s→RelV v u→t v σ H Q →
    wpAny (model X.prog X.w) X.A (assign target X.env u) (fun _ s'=>∃ σ' H',Inv X pins σ' H' s'∧Q σ' H') X.xe s
noncomputable def PGs (X:Cx) (ts:List Expr) (t:TGs):Prop :=
  ∀ (pins:List (Addr × Obj)) (s:Shared) (σ : St) (H:Hp) (vs:List V) (us:List Value) (Q:St→Hp→Prop),Inv X pins σ H s→Vals vs us→t vs σ H Q →
    wpAny (model X.prog X.w) X.A (assignInOrder ((assignEach ts X.env).map (·.2)) us) (fun _ s'=>∃ σ' H',Inv X pins σ' H' s'∧Q σ' H') X.xe s
noncomputable abbrev TIp:=V→V→Hp→VK→Prop
noncomputable def PIp (X:Cx) (op:Operator) (t:TIp):Prop :=
  ∀ (pins:List (Addr × Obj)) (s:Shared) (σ : St) (H:Hp) (x y:V) (v u:Value) (Q:VK),Inv X pins σ H s→RelV x v→RelV y u→t x y H Q →
    wpAny (model X.prog X.w) X.A (inplaceOp op v u) (EP X pins σ Q) X.xe s
section
variable {X:Cx} {pos:Pos}
noncomputable def gName (i:Nat):TG:=fun v σ H Q=>Q (σ.set i (some v)) H
theorem pg_name {i:Nat} {x:Str} (hN:X.N.Nodup) (hi:X.N[i]? = some x) (hx:Loc X.env.scope x) (hf:X.fn x=true∨X.env.scope.names.lookup x=some .local:=by first | exact .inl rfl | exact .inr rfl | assumption):PG X (.Name x pos) (gName i):=by
  intro pins s σ H v u Q I r h
  exact wpAny_assign_Name (store_ok I hN hi hx r (fun s' I'=>⟨_,H,I',h⟩) hf)
noncomputable def gNil:TGs:=fun vs σ H Q=>vs = []∧Q σ H
inductive J_gCons (t:TG) (u:TGs) (vs:List V) (σ : St) (H:Hp) (Q:St→Hp→Prop):Prop
  | mk:∀ v r,(vs=v :: r)→(t v σ H fun σ' H'=>u r σ' H' Q)→J_gCons t u vs σ H Q
noncomputable def gCons (t:TG) (u:TGs):TGs:=fun vs σ H Q=>J_gCons t u vs σ H Q
theorem pgs_nil:PGs X [] gNil:=by
  intro pins s σ H vs us Q I r h
  obtain ⟨e,h⟩:=h
  subst e
  cases r
  exact assignInOrder_nil ⟨σ,H,I,h⟩
theorem pgs_cons {e:Expr} {es:List Expr} {t:TG} {u:TGs} (h1:PG X e t) (h2:PGs X es u)
    (hs:(assignEach (e :: es) X.env).map (·.2)=assign e X.env :: (assignEach es X.env).map (·.2):=by rfl):PGs X (e :: es) (gCons t u):=by
  intro pins s σ H vs us Q I r h
  obtain ⟨v,vr,e1,h⟩:=h
  subst e1
  cases r with
  | cons r rr =>
    rw [hs]
    refine assignInOrder_cons (thn (h1 pins s σ H _ _ _ I r h) fun _ s1 ⟨σ1,H1,I1,q1⟩ => ?_)
    exact h2 pins s1 σ1 H1 _ _ Q I1 rr q1
inductive J_gTup (K:PySem.W.Frag) (n:Nat) (t:TGs) (v:V) (σ : St) (H:Hp) (Q:St→Hp→Prop):Prop
  | mk:∀ a xs,(v = .ref a)→(SqT K H a xs)→(xs.length=n)→(t xs σ H Q)→J_gTup K n t v σ H Q
noncomputable def gTup (K:PySem.W.Frag) (n:Nat) (t:TGs):TG:=fun v σ H Q=>J_gTup K n t v σ H Q
theorem pg_tup {es:List Expr} {k:Nat} {t:TGs} {n:Nat} (hc:X.calm=true) (h:PGs X es t)
    (hn:(assignEach es X.env).length=n:=by rfl) (hst:(assignEach es X.env).findIdx? (·.1)=none:=by rfl):PG X (.Tuple es k pos) (gTup X.K n t):=by
  intro pins s σ H v u Q I r hw
  obtain ⟨a,xs,e1,hq,hl,hw⟩:=hw
  subst e1
  cases r
  obtain ⟨its,rv,ht,hz⟩:=I.tuple hq
  refine assign_Tuple_tuple (I.ok.hd hc) ht (by simp [hn, ← hl,rv.length]) hst fun h' hx => ?_
  have I1:Inv X pins σ H { s with heap:=h' }:=I.kept (t':=s.toks) fun b o e=>hx b o (Nat.ne_of_lt (Heap.lt_size e)) e
  exact h pins _ σ H xs _ Q I1 (by simpa using rv) hw
noncomputable def tAsg (te:TE) (g:TG):TS:=fun D σ H=>te σ H fun x H1=>g x σ H1 D.nx
theorem ps_set {i:Nat} {x:Str} {e:Expr} {te:TE} {pos':Pos} (hN:X.N.Nodup) (hi:X.N[i]? = some x) (hx:Loc X.env.scope x) (he:PE X e te) (hs:swapsWith e (some (.Name x pos')) pos.line X.env=pure false:=by rfl) (hf:X.fn x=true∨X.env.scope.names.lookup x=some .local:=by first | exact .inl rfl | exact .inr rfl | assumption) :
    PS X (.Assign [.Name x pos'] e pos) (tAsg te (gName i)):=by
  intro pins s σ H D I h
  refine wpAny_Assign_Name (thn (he pins s σ H _ I h) fun v s1 ⟨y,H1,I1,r1,q1⟩ => ?_) hs
  exact store_ok I1 hN hi hx r1 (fun s2 I2=>⟨_,H1,I2,q1⟩) hf
inductive J_tAug (i:Nat) (te:TE) (ti:TIp) (D:Ends) (σ : St) (H:Hp):Prop
  | mk:∀ x,(σ[i]? = some (some x))→(te σ H fun y H1=>ti x y H1 fun z H2=>D.nx (σ.set i (some z)) H2)→J_tAug i te ti D σ H
noncomputable def tAug (i:Nat) (te:TE) (ti:TIp):TS:=fun D σ H=>J_tAug i te ti D σ H
theorem ps_aug {i:Nat} {x:Str} {e:Expr} {te:TE} {op:Operator} {ti:TIp} {pos':Pos} (hN:X.N.Nodup) (hi:X.N[i]? = some x) (hx:Loc X.env.scope x) (he:PE X e te) (ho:PIp X op ti) (hf:X.fn x=true∨X.env.scope.names.lookup x=some .local:=by first | exact .inl rfl | exact .inr rfl | assumption) :
    PS X (.AugAssign (.Name x pos') op e pos) (tAug i te ti):=by
  intro pins s σ H D I h
  obtain ⟨v,e1,h⟩:=h
  obtain ⟨m,hn,hl⟩:=I.loc
  have vis:Vis X.env.scope x:=by rcases hx with k | k;exact .inl k;exact .inr (.inl k)
  obtain ⟨u,r,l⟩:=hl i x v hi e1 vis
  refine wpAny_AugAssign_Name ?_
  have go:wpAny (model X.prog X.w) X.A (eval e X.env) (fun w s₂ => wpAny (model X.prog X.w) X.A (inplaceOp op u w) (fun r s₃ => wpAny (model X.prog X.w) X.A (storeName X.env x r) (fun _=>SP X pins D .next) X.xe s₃) X.xe s₂) X.xe s:=by
    refine thn (he pins s σ H _ I h) fun w s1 ⟨y,H1,I1,r1,q1⟩ => ?_
    refine thn (ho pins s1 σ H1 v y u w _ I1 r r1 q1) fun z s2 ⟨zv,H2,I2,r2,q2⟩ => ?_
    exact store_ok I2 hN hi hx r2 (fun s3 I3=>⟨_,H2,I3,q2⟩) hf
  rcases l with ⟨hk,hm⟩ | ⟨hk,c,hc,hcell⟩
  · exact wpAny_loadName_local I.ok.kind hk hn hm go
  · rcases hk with hk | hk
    · exact wpAny_loadName_cell I.ok.kind hk hc hcell go
    · rcases hx with k | k
      · have:X.env.scope.names.lookup x=some .free:=hk
        rw [k] at this;cases this
      · have:X.env.scope.names.lookup x=some .free:=hk
        rw [k] at this;cases this
noncomputable def ipI (f:Int→Int→Int):TIp:=fun x y H Q=>∃ i j,x = .int i∧y = .int j∧Q (.int (f i j)) H
theorem ip_add:PIp X .Add (ipI fun i j=>i+j):=by
  intro pins s σ H x y v u Q I r1 r2 h
  obtain ⟨i,j,e1,e2,q⟩:=h
  subst e1;subst e2
  obtain ⟨t,rfl⟩:=r1
  obtain ⟨t',rfl⟩:=r2
  exact iadd_int ⟨.int _,H,I.tok _,⟨_,rfl⟩,q⟩
end

section
variable {X:Cx} {pos:Pos}
noncomputable def tWhile (c:TT) (tb:TS):TS:=fun D σ H=>∃ W:Nat→St→Hp→Prop,(∃ m,W m σ H)∧∀ m σ H,W m σ H →
  c σ H fun b H1=>if b=true then ∃ N:St→Hp→Prop,(∀ σ' H',N σ' H'→∃ m',m' < m∧W m' σ' H')∧tb { D with nx:=N,ct:=N,bk:=D.nx } σ H1 else D.nx σ H1
theorem ps_while {c:Expr} {body:List Stmt} {tc:TT} {tb:TS} (hp:PassesOwn (model X.prog X.w) X.A X.env X.xe) (hc:PT X c tc) (hb:PSs X body tb):PS X (.While c body [] pos) (tWhile tc tb):=by
  intro pins s σ H D I h
  obtain ⟨W,⟨m0,w0⟩,turn⟩:=h
  refine wpAny_While (codeAny_whileLoop (fun n s'=>∃ σ' H',Inv X pins σ' H' s'∧W n σ' H') ?_ m0 ⟨σ,H,I,w0⟩)
  rintro n s1 ⟨σ1,H1,I1,w1⟩
  refine wpAny_passesOwn hp (thn (hc pins s1 σ1 H1 _ I1 (turn n σ1 H1 w1)) fun b s2 ⟨H2,I2,q2⟩ => ?_)
  cases b with
  | true =>
    obtain ⟨N,hN,q2⟩:=q2
    rw [if_pos rfl]
    refine wpAny_passesOwn hp (thn (hb pins s2 σ1 H2 _ I2 q2) fun f s3 q3 => ?_)
    cases f with
    | next =>
      obtain ⟨σ3,H3,I3,n3⟩:=q3
      obtain ⟨m',hm,w3⟩:=hN σ3 H3 n3
      exact ⟨m',hm, σ3,H3,I3,w3⟩
    | cont =>
      obtain ⟨σ3,H3,I3,n3⟩:=q3
      obtain ⟨m',hm,w3⟩:=hN σ3 H3 n3
      exact ⟨m',hm, σ3,H3,I3,w3⟩
    | brk=>exact q3
    | ret v=>exact q3
  | false =>
    rw [if_neg Bool.false_ne_true]
    exact wpAny_execs_nil ⟨σ1,H2,I2,q2⟩
end

structure It where
  go:Nat→Hp→Prop
  yld:Nat→Hp→V→Hp→Prop
  stop:Nat→Hp→Prop
noncomputable def FpOk (X:Cx) (pins:List (Addr × Obj)) (H:Hp) (b:Addr):Prop :=
  H b=none∧b≠X.env.locals∧b ∉ X.fs∧(b∈X.ex∨X.s₀.heap.objs.size≤b)∧(∀ x c,X.env.cells.lookup x=some c→c≠b)∧∀ p∈X.pn ++ pins,p.1≠b
theorem Inv.fpOk {X:Cx} {pins:List (Addr × Obj)} {σ : St} {H H':Hp} {s:Shared} {b:Addr} (I:Inv X pins σ H s) (hb:s.heap.objs.size≤b) (hn:H' b=none):FpOk X pins H' b:=by
  refine ⟨hn,Nat.ne_of_gt (Nat.lt_of_lt_of_le I.lt hb),I.nofs hb,.inr (Nat.le_trans I.sz hb),fun x c e z => ?_,fun p hp z => ?_⟩
  · obtain ⟨v,q⟩:=I.cell x c e
    exact absurd (Nat.lt_of_lt_of_le q.lt (by rw [z];exact hb)) (Nat.lt_irrefl _)
  · exact absurd (Nat.lt_of_lt_of_le (Heap.lt_size (I.pin p hp).1) (by rw [z];exact hb)) (Nat.lt_irrefl _)
structure Turn (P:Program) (w:World) (K:PySem.W.Frag) (tg:Expr) (J:It) (fp:List Addr) (it:Addr) (tn:Nat→Heap→Prop):Prop where
  mem:it∈fp
  obj:∀ i h,tn i h→∀ b∈fp,∃ o,h.get? b=some o∧∀ v,o.data ≠ .cell v
  keep:∀ i h h',tn i h→(∀ b∈fp,∀ o,h.get? b=some o→h'.get? b=some o)→tn i h'
  item:∀ (X:Cx),X.prog=P→X.w=w→X.K=K→X.calm=true→∀ (i:Nat) (pins:List (Addr × Obj)) (s:Shared) (σ : St) (H:Hp) (E:Value→Shared→Prop),Inv X pins σ H s→(∀ b∈fp,FpOk X pins H b)→tn i s.heap→J.go i H →
    wpAny (model P w) X.A (pyNext (.ref it)) (fun r s1=>∃ u,r=some u ∧
      wpAny (model P w) X.A (letOwnedTupleGo tg (.ref it) u) (fun _ s2=>∃ x H',Inv X pins σ H' s2∧RelV x u∧J.yld i H x H'∧tn (i+1) s2.heap∧∀ b∈fp,H' b=none) E s1) E s
  done:∀ (X:Cx),X.prog=P→X.w=w→X.K=K→X.calm=true→∀ (i:Nat) (pins:List (Addr × Obj)) (s:Shared) (σ : St) (H:Hp) (E:Value→Shared→Prop),Inv X pins σ H s→(∀ b∈fp,FpOk X pins H b)→tn i s.heap→J.stop i H →
    wpAny (model P w) X.A (pyNext (.ref it)) (fun r s1=>r=none∧Inv X pins σ H s1) E s
  self:∀ (A:Around) (i:Nat) (s:Shared) (Q:Value→Shared→Prop) (E:Value→Shared→Prop),tn i s.heap→Q (.ref it) s→wpAny (model P w) A (pyIter (.ref it)) Q E s
noncomputable abbrev TI:=St→Hp→(It→Hp→Prop)→Prop
noncomputable def PIE (X:Cx) (pins:List (Addr × Obj)) (σ : St) (tg:Expr) (R:It→Hp→Prop) (itv:Value) (s2:Shared):Prop :=
  ∃ (it:Addr) (fp:List Addr) (tn:Nat→Heap→Prop) (J:It) (H':Hp),itv = .ref it∧Inv X pins σ H' s2∧Turn X.prog X.w X.K tg J fp it tn∧tn 0 s2.heap∧(∀ b∈fp,FpOk X pins H' b)∧R J H'
noncomputable def PI (X:Cx) (tg iter:Expr) (wi:TI):Prop :=
  ∀ (pins:List (Addr × Obj)) (s:Shared) (σ : St) (H:Hp) (R:It→Hp→Prop),Inv X pins σ H s→wi σ H R →
    wpAny (model X.prog X.w) X.A (eval iter X.env) (fun v s1=>wpAny (model X.prog X.w) X.A (pyIter v) (PIE X pins σ tg R) X.xe s1) X.xe s

theorem go_of {M:Model} {A:Around} {E:Value→Shared→Prop} {s:Shared} {tg:Expr} {it:Addr} {u:Value} {o:Obj} {n:String} {vs:Array Value} {Q:Unit→Shared→Prop} (ho:s.heap.get? it=some o) (hc:o.cls = .type n) (hd:o.data = .fields vs)
    (hn : ["enumerate", "zip", "dict_itemiterator", "dict_reverseitemiterator", "odict_iterator", "itertools.zip_longest", "itertools.pairwise"].contains n=false) (hQ:Q () s):wpAny M A (letOwnedTupleGo tg (.ref it) u) Q E s:=by
  unfold letOwnedTupleGo
  cases tg <;> first
    | exact wpAny_pure hQ
    | (cases u <;> first
        | exact wpAny_pure hQ
        | (refine wpAny_bind (wpAny_load ho ?_)
           rw [hc,hd]
           show wpAny M A (if (["enumerate", "zip", "dict_itemiterator", "dict_reverseitemiterator", "odict_iterator", "itertools.zip_longest", "itertools.pairwise"].contains n && vs[0]? == some (rawInt _))=true then _ else _) Q E s
           rw [if_neg (by intro h;rw [hn,Bool.false_and] at h;cases h)]
           exact wpAny_pure hQ))

noncomputable def Itl (K:PySem.W.Frag) (a:Addr):It :=
  ⟨fun i H=>∃ xs x,SqL K H a xs∧xs[i]? = some x,fun i H x H'=>H'=H∧∀ xs,SqL K H a xs→xs[i]? = some x,fun i H=>∃ xs,SqL K H a xs∧xs.length≤i⟩
noncomputable def Itt (K:PySem.W.Frag) (a:Addr):It :=
  ⟨fun i H=>∃ xs x,SqT K H a xs∧xs[i]? = some x,fun i H x H'=>H'=H∧∀ xs,SqT K H a xs→xs[i]? = some x,fun i H=>∃ xs,SqT K H a xs∧xs.length≤i⟩
noncomputable def Itr (lo:Int) (n:Nat):It:=⟨fun i _=>i < n,fun i H x H'=>H'=H∧x = .int (lo+i),fun i _=>n≤i⟩
theorem turn_list {P:Program} {w:World} {K:PySem.W.Frag} {tg:Expr} (a it:Addr):Turn P w K tg (Itl K a) [it] it (fun i h=>h.IsListIter it a i) where
  mem:=by simp
  obj:=fun i h st b hb=>by
    have e:b=it:=by simpa using hb
    subst e
    obtain ⟨o,e,c,d⟩:=st
    exact ⟨o,e,fun v z=>by rw [d] at z;cases z⟩
  keep:=fun i h h' st k=>st.at fun o e=>k it (by simp) o e
  item:=by
    intro X hP hw hK hc i pins s σ H E I hf st hg
    subst hP hw hK
    obtain ⟨xs,x,hq,hx⟩:=hg
    obtain ⟨its,rv,p,hz⟩:=I.list hq
    obtain ⟨u,hu,ru⟩:=rv.get hx
    obtain ⟨f0,f1,f2,f3,f4,f5⟩:=hf it (by simp)
    refine wpAny_pyNext_list_item st p.isList (x:=u) (by simpa using hu) fun h' st' sb => ?_
    have I1:Inv X pins σ H { s with heap:=h' }:=I.turned (t':=s.toks) (fun b o hb e=>(sb.2 b hb).trans e) f0 f1 f3 f4 f5
    obtain ⟨o,e,c,d⟩:=id st'
    exact ⟨u,rfl,go_of (s := { s with heap:=h' }) e c d (by decide) ⟨x,H,I1,ru,⟨rfl,fun ys hy=>by rw [I.list_inj hy hq];exact hx⟩,st',fun b hb=>(hf b hb).1⟩⟩
  done:=by
    intro X hP hw hK hc i pins s σ H E I hf st hg
    subst hP hw hK
    obtain ⟨xs,hq,hx⟩:=hg
    obtain ⟨its,rv,p,hz⟩:=I.list hq
    obtain ⟨f0,f1,f2,f3,f4,f5⟩:=hf it (by simp)
    have hl:=rv.length
    exact wpAny_pyNext_list_end (I.ok.hd hc) st p.isList (by simp;omega) fun h' eb=>⟨rfl,I.turned (t':=s.toks) (fun b o hb e=>eb b o hb e) f0 f1 f3 f4 f5⟩
  self:=fun _ _ _ _ _ st h=>wpAny_pyIter_listiter st h
theorem turn_tuple {P:Program} {w:World} {K:PySem.W.Frag} {tg:Expr} (a it:Addr):Turn P w K tg (Itt K a) [it] it (fun i h=>h.IsTupleIter it a i) where
  mem:=by simp
  obj:=fun i h st b hb=>by
    have e:b=it:=by simpa using hb
    subst e
    obtain ⟨o,e,c,d⟩:=st
    exact ⟨o,e,fun v z=>by rw [d] at z;cases z⟩
  keep:=fun i h h' st k=>st.at fun o e=>k it (by simp) o e
  item:=by
    intro X hP hw hK hc i pins s σ H E I hf st hg
    subst hP hw hK
    obtain ⟨xs,x,hq,hx⟩:=hg
    obtain ⟨its,rv,p,hz⟩:=I.tuple hq
    obtain ⟨u,hu,ru⟩:=rv.get hx
    obtain ⟨f0,f1,f2,f3,f4,f5⟩:=hf it (by simp)
    refine wpAny_pyNext_tuple_item st (show s.heap.IsTuple a its.toArray from p) (x:=u) (by simpa using hu) fun h' st' sb => ?_
    have I1:Inv X pins σ H { s with heap:=h' }:=I.turned (t':=s.toks) (fun b o hb e=>(sb.2 b hb).trans e) f0 f1 f3 f4 f5
    obtain ⟨o,e,c,d⟩:=id st'
    exact ⟨u,rfl,go_of (s := { s with heap:=h' }) e c d (by decide) ⟨x,H,I1,ru,⟨rfl,fun ys hy=>by rw [I.tuple_inj hy hq];exact hx⟩,st',fun b hb=>(hf b hb).1⟩⟩
  done:=by
    intro X hP hw hK hc i pins s σ H E I hf st hg
    subst hP hw hK
    obtain ⟨xs,hq,hx⟩:=hg
    obtain ⟨its,rv,p,hz⟩:=I.tuple hq
    obtain ⟨f0,f1,f2,f3,f4,f5⟩:=hf it (by simp)
    have hl:=rv.length
    exact wpAny_pyNext_tuple_end (I.ok.hd hc) st (show s.heap.IsTuple a its.toArray from p) (by simp;omega) fun h' eb=>⟨rfl,I.turned (t':=s.toks) (fun b o hb e=>eb b o hb e) f0 f1 f3 f4 f5⟩
  self:=fun _ _ _ _ _ st h=>wpAny_pyIter_tupleiter st h
theorem turn_range {P:Program} {w:World} {K:PySem.W.Frag} {tg:Expr} (it:Addr) (lo:Int) (n:Nat):Turn P w K tg (Itr lo n) [it] it (fun i h=>IsRangeIter h it (lo+(i:Nat) * 1) ((n:Int) - (i:Nat)) 1) where
  mem:=by simp
  obj:=fun i h st b hb=>by
    have e:b=it:=by simpa using hb
    subst e
    exact ⟨_,st,fun v z=>by
      have z':Data.fields _=Data.cell v:=z
      cases z'⟩
  keep:=fun i h h' st k=>k it (by simp) _ st
  item:=by
    intro X hP hw hK hc i pins s σ H E I hf st hg
    subst hP hw hK
    obtain ⟨f0,f1,f2,f3,f4,f5⟩:=hf it (by simp)
    have W:=Walks.range (prog:=X.prog) (w:=X.w) (I.ok.hd hc) it lo 1 n
    refine W.item i s _ _ hg st fun v h' tk hv st' kk => ?_
    obtain ⟨t,rfl⟩:=hv
    have I1:Inv X pins σ H { s with heap:=h',toks:=tk }:=I.turned (fun b o hb e=>kk b o (by simpa using hb) e) f0 f1 f3 f4 f5
    refine ⟨_,rfl,go_of (s := { s with heap:=h',toks:=tk }) (n := "range_iterator") st' rfl rfl (by decide) ⟨.int (lo+i),H,I1,⟨t,?_⟩,⟨rfl,rfl⟩,st',fun b hb=>(hf b hb).1⟩⟩
    rw [Int.mul_one]
  done:=by
    intro X hP hw hK hc i pins s σ H E I hf st hg
    subst hP hw hK
    obtain ⟨f0,f1,f2,f3,f4,f5⟩:=hf it (by simp)
    exact wpAny_pyNext_range_end (I.ok.hd hc) st (by have:n≤i:=hg;omega) fun h' eb=>⟨rfl,I.turned (t':=s.toks) (fun b o hb e=>eb b o hb e) f0 f1 f3 f4 f5⟩
  self:=fun _ _ _ _ _ st h=>wpAny_pyIter_rangeiter st h
end L2

namespace L2
open PySem PySem.Spec PyProof.Rows
section
variable {X:Cx} {tg:Expr}
inductive J_iList (K:PySem.W.Frag) (R:It→Hp→Prop) (x:V) (H1:Hp):Prop
  | mk:∀ a,(x = .ref a)→((∃ xs,SqL K H1 a xs))→(R (Itl K a) H1)→J_iList K R x H1
noncomputable def iList (K:PySem.W.Frag) (tl:TE):TI:=fun σ H R=>tl σ H fun x H1=>J_iList K R x H1
inductive J_iTup (K:PySem.W.Frag) (R:It→Hp→Prop) (x:V) (H1:Hp):Prop
  | mk:∀ a,(x = .ref a)→((∃ xs,SqT K H1 a xs))→(R (Itt K a) H1)→J_iTup K R x H1
noncomputable def iTup (K:PySem.W.Frag) (tl:TE):TI:=fun σ H R=>tl σ H fun x H1=>J_iTup K R x H1
theorem pi_list {l:Expr} {tl:TE} (hl:PE X l tl):PI X tg l (iList X.K tl):=by
  intro pins s σ H R I h
  refine thn (hl pins s σ H _ I h) fun v s1 ⟨x,H1,I1,r1,q1⟩ => ?_
  obtain ⟨a,e,⟨xs,hq⟩,q⟩:=q1
  subst e
  cases r1
  obtain ⟨its,rv,p,hz⟩:=I1.list hq
  refine wpAny_pyIter_list p.isList ?_
  refine ⟨s1.heap.objs.size, [s1.heap.objs.size],_,_,H1,rfl,I1.kept (t':=s1.toks) fun b o e=>Heap.get?_push_of_some _ e,turn_list a _,⟨_,Heap.get?_push_size _ rfl,rfl,rfl⟩,fun b hb => ?_,q⟩
  have e:b=s1.heap.objs.size:=by simpa using hb
  subst e
  exact I1.fpOk (Nat.le_refl _) (I1.hok.fresh (Nat.le_refl _))
theorem pi_tup {l:Expr} {tl:TE} (hl:PE X l tl):PI X tg l (iTup X.K tl):=by
  intro pins s σ H R I h
  refine thn (hl pins s σ H _ I h) fun v s1 ⟨x,H1,I1,r1,q1⟩ => ?_
  obtain ⟨a,e,⟨xs,hq⟩,q⟩:=q1
  subst e
  cases r1
  obtain ⟨its,rv,p,hz⟩:=I1.tuple hq
  refine wpAny_pyIter_tuple (show s1.heap.IsTuple a its.toArray from p) ?_
  refine ⟨s1.heap.objs.size, [s1.heap.objs.size],_,_,H1,rfl,I1.kept (t':=s1.toks) fun b o e=>Heap.get?_push_of_some _ e,turn_tuple a _,⟨_,Heap.get?_push_size _ rfl,rfl,rfl⟩,fun b hb => ?_,q⟩
  have e:b=s1.heap.objs.size:=by simpa using hb
  subst e
  exact I1.fpOk (Nat.le_refl _) (I1.hok.fresh (Nat.le_refl _))
theorem range_it {pins:List (Addr × Obj)} {σ : St} {H:Hp} {s:Shared} {R:It→Hp→Prop} {E:Value→Shared→Prop} {lo hi:Int} {t u v:Tok} {tk:Nat} (I:Inv X pins σ H s) (h1 : -(2 ^ 62)≤lo) (h2:lo < 2 ^ 62) (h3 : -(2 ^ 62)≤hi) (h4:hi < 2 ^ 62)
    (q:R (Itr lo (hi - lo).toNat) H):wpAny (model X.prog X.w) X.A (pyIter (.ref s.heap.objs.size)) (PIE X pins σ tg R) E { s with heap:=s.heap.push { cls := .type "range",data := .fields #[.int lo t,.int hi u,.int 1 v] },toks:=tk }:=by
  refine wpAny_pyIter_range (IsRange.new ..) (small_one h1 h2 h3 h4) ?_
  have I1:Inv X pins σ H { s with heap:=s.heap.push { cls := .type "range",data := .fields #[.int lo t,.int hi u,.int 1 v] },toks:=tk }:=I.kept fun b o e=>Heap.get?_push_of_some _ e
  refine ⟨(s.heap.push { cls := .type "range",data := .fields #[.int lo t,.int hi u,.int 1 v] }).objs.size, [(s.heap.push { cls := .type "range",data := .fields #[.int lo t,.int hi u,.int 1 v] }).objs.size],_,_,H,rfl,
    I1.kept (t':=tk) fun b o e=>Heap.get?_push_of_some _ e,turn_range _ lo (hi - lo).toNat,?_,fun b hb => ?_,q⟩
  · have e1:lo+((0:Nat):Int) * 1=lo:=by simp
    have e2:(((hi - lo).toNat:Nat):Int) - ((0:Nat):Int)=Builtin.Range.rangeSize lo hi 1:=by rw [rangeSize_one];split <;> omega
    show IsRangeIter _ _ (lo+((0:Nat):Int) * 1) ((((hi - lo).toNat:Nat):Int) - ((0:Nat):Int)) 1
    rw [e1,e2]
    exact Heap.get?_push_size _ rfl
  · have e:b=(s.heap.push { cls := .type "range",data := .fields #[.int lo t,.int hi u,.int 1 v] }).objs.size:=by simpa using hb
    subst e
    exact I1.fpOk (Nat.le_refl _) (I1.hok.fresh (Nat.le_refl _))
inductive J_iRng1 (R:It→Hp→Prop) (vs:List V) (H1:Hp):Prop
  | mk:∀ (j:Int),(vs = [.int j])→(-(2 ^ 62)≤j)→(j < 2 ^ 62)→(R (Itr 0 j.toNat) H1)→J_iRng1 R vs H1
noncomputable def iRng1 (ta:TA):TI:=fun σ H R=>ta σ H fun vs H1=>J_iRng1 R vs H1
theorem pi_range1 {a:Expr} {ta:TA} {p pos:Pos} (hg:Gl X "range") (hm:X.mg "range" = none) (ha:PA X [a] ta) (hs:starEach [a] X.env = [(false,eval a X.env)]:=by rfl):PI X tg (.Call (.Name "range" p) [a] [] pos) (iRng1 ta):=by
  intro pins s σ H R I h
  refine Call_ (ld_blt I hg hm boot_range (PyProof.Rows.callWith_type1 (thn (ha pos pins s σ H _ I h) fun us s1 ⟨vs,H1,I1,r1,q1⟩ => ?_) hs rfl))
  obtain ⟨j,e,q1,q2,q⟩:=q1
  subst e
  cases r1 with
  | cons r rr =>
    cases rr
    obtain ⟨t,rfl⟩:=r
    exact call_range_1 (range_it I1 (by omega) (by omega) q1 q2 (by simpa using q))

noncomputable def tFor (wi:TI) (g:TG) (tb:TS):TS:=fun D σ H=>wi σ H fun J H1=>∃ W:Nat→Nat→St→Hp→Prop,(∃ m,W 0 m σ H1)∧∀ i m σ H,W i m σ H →
  (J.stop i H∧D.nx σ H)∨(J.go i H∧∃ N:St→Hp→Prop,(∀ σ' H',N σ' H'→∃ m',m' < m∧W (i+1) m' σ' H')∧∀ x H',J.yld i H x H'→g x σ H' fun σ2 H2=>tb { D with nx:=N,ct:=N,bk:=D.nx } σ2 H2)
noncomputable def pinsAt (fp:List Addr) (h:Heap):List (Addr × Obj):=fp.filterMap fun b=>(h.get? b).map fun o=>(b,o)
theorem mem_pinsAt {fp:List Addr} {h:Heap} {b:Addr} {o:Obj} (hb:b∈fp) (e:h.get? b=some o):(b,o)∈pinsAt fp h:=List.mem_filterMap.mpr ⟨b,hb,by rw [e];rfl⟩
theorem of_pinsAt {fp:List Addr} {h:Heap} {p:Addr × Obj} (hp:p∈pinsAt fp h):p.1∈fp∧h.get? p.1=some p.2:=by
  obtain ⟨b,hb,e⟩:=List.mem_filterMap.mp hp
  cases q:h.get? b with
  | none=>rw [q] at e;cases e
  | some o =>
    rw [q] at e
    have e':(b,o)=p:=Option.some.inj e
    subst e'
    exact ⟨hb,q⟩
theorem Inv.pinned {pins:List (Addr × Obj)} {σ : St} {H:Hp} {s:Shared} {fp:List Addr} (I:Inv X pins σ H s) (hf:∀ b∈fp,FpOk X pins H b) (ho:∀ b∈fp,∃ o,s.heap.get? b=some o∧∀ v,o.data ≠ .cell v):Inv X (pins ++ pinsAt fp s.heap) σ H s :=
  I.pins_of fun p hp=>(List.mem_append.mp hp).elim (fun z=>I.pin p (List.mem_append_right _ z)) fun z=>by
    obtain ⟨hb,e⟩:=of_pinsAt z
    obtain ⟨f0,f1,f2,_⟩:=hf p.1 hb
    obtain ⟨o,e',d⟩:=ho p.1 hb
    rw [e] at e';cases e'
    exact ⟨e,f0,f1,f2,d⟩
theorem Inv.unpinned {pins pl:List (Addr × Obj)} {σ : St} {H:Hp} {s:Shared} (I:Inv X (pins ++ pl) σ H s):Inv X pins σ H s:=I.pins_of fun p hp=>I.pin p (List.mem_append_right _ (List.mem_append_left _ hp))
theorem ps_for {iter:Expr} {body:List Stmt} {wi:TI} {g:TG} {tb:TS} {pos:Pos} (hp:PassesOwn (model X.prog X.w) X.A X.env X.xe) (hc:X.calm=true) (hi:PI X tg iter wi) (hg:PG X tg g) (hb:PSs X body tb)
    (hs:∀ x,foldedSetIterable iter X.env x=pure x:=by intro _;rfl):PS X (.For tg iter body [] pos) (tFor wi g tb):=by
  intro pins s σ H D I h
  refine wpAny_For (thn (hi pins s σ H _ I h) fun v s1 h1=>thn h1 fun itv s2 h2 => ?_) hs
  obtain ⟨it,fp,tn,J,H2,e,I2,T,st2,f2,W,⟨m0,w0⟩,turn⟩:=h2
  subst e
  -- what stays true of the iterator's objects through the loop
  have stat:∀ {H':Hp},(∀ b∈fp,H' b=none)→∀ b∈fp,FpOk X pins H' b:=fun hn b hb=>⟨hn b hb,(f2 b hb).2⟩
  refine codeAny_forLoop_any (fun n s'=>∃ i σ' H',Inv X pins σ' H' s'∧tn i s'.heap∧(∀ b∈fp,H' b=none)∧W i n σ' H') ?_ m0 ⟨0, σ,H2,I2,st2,fun b hb=>(f2 b hb).1,w0⟩
  rintro n s3 ⟨i, σ3,H3,I3,st3,fr3,w3⟩
  rcases turn i n σ3 H3 w3 with ⟨stop,qn⟩ | ⟨go,N,hN,step⟩
  · refine wpAny_passesOwn hp (thn (T.done X rfl rfl rfl hc i pins s3 σ3 H3 X.xe I3 (stat fr3) st3 stop) fun r s4 ⟨hr,I4⟩ => ?_)
    subst hr
    exact wpAny_execs_nil ⟨σ3,H3,I4,qn⟩
  · refine wpAny_passesOwn hp (thn (T.item X rfl rfl rfl hc i pins s3 σ3 H3 X.xe I3 (stat fr3) st3 go) fun r s4 ⟨u,hr,h4⟩ => ?_)
    subst hr
    refine wpAny_passesOwn hp (thn h4 fun _ s5 ⟨x,H5,I5,r5,y5,st5,fr5⟩ => ?_)
    have I5':=I5.pinned (stat fr5) (T.obj _ _ st5)
    refine wpAny_passesOwn hp (thn (hg _ s5 σ3 H5 x u _ I5' r5 (step x H5 y5)) fun _ s6 ⟨σ6,H6,I6,q6⟩ => ?_)
    refine wpAny_passesOwn hp (thn (hb _ s6 σ6 H6 _ I6 q6) fun f s7 q7 => ?_)
    have again:∀ {σ7:St} {H7:Hp},Inv X (pins ++ pinsAt fp s5.heap) σ7 H7 s7→N σ7 H7→∃ m,m < n∧∃ i σ' H',Inv X pins σ' H' s7∧tn i s7.heap∧(∀ b∈fp,H' b=none)∧W i m σ' H':=fun {σ7 H7} I7 n7=>by
      obtain ⟨m',hm,w7⟩:=hN σ7 H7 n7
      refine ⟨m',hm,i+1, σ7,H7,I7.unpinned,T.keep _ _ _ st5 fun b hb o e=>(I7.pin (b,o) (List.mem_append_right _ (List.mem_append_right _ (mem_pinsAt hb e)))).1,fun b hb => ?_,w7⟩
      obtain ⟨o,e,d⟩:=T.obj _ _ st5 b hb
      exact (I7.pin (b,o) (List.mem_append_right _ (List.mem_append_right _ (mem_pinsAt hb e)))).2.1
    cases f with
    | next=>obtain ⟨σ7,H7,I7,n7⟩:=q7;exact again I7 n7
    | cont=>obtain ⟨σ7,H7,I7,n7⟩:=q7;exact again I7 n7
    | brk=>obtain ⟨σ7,H7,I7,q7⟩:=q7;exact ⟨σ7,H7,I7.unpinned,q7⟩
    | ret v=>obtain ⟨x7, σ7,H7,I7,r7,q7⟩:=q7;exact ⟨x7, σ7,H7,I7.unpinned,r7,q7⟩
end

theorem for_list {K:PySem.W.Frag} {a:Addr} {xs:List V} {g:TG} {tb:TS} {D:Ends} {σ : St} {H:Hp} (Pv:Nat→St→Hp→Prop) (h0:Pv 0 σ H) (hl:∀ i σ H,i≤xs.length→Pv i σ H→SqL K H a xs)
    (hs:∀ i x σ H,xs[i]? = some x→Pv i σ H→g x σ H fun σ2 H2=>tb { D with nx:=Pv (i+1),ct:=Pv (i+1),bk:=D.nx } σ2 H2) (hd:∀ σ H,Pv xs.length σ H→D.nx σ H) :
    ∃ W:Nat→Nat→St→Hp→Prop,(∃ m,W 0 m σ H)∧∀ i m σ H,W i m σ H →
      ((Itl K a).stop i H∧D.nx σ H)∨((Itl K a).go i H∧∃ N:St→Hp→Prop,(∀ σ' H',N σ' H'→∃ m',m' < m∧W (i+1) m' σ' H')∧∀ x H',(Itl K a).yld i H x H'→g x σ H' fun σ2 H2=>tb { D with nx:=N,ct:=N,bk:=D.nx } σ2 H2):=by
  refine ⟨fun i m σ H=>m=xs.length - i∧i≤xs.length∧Pv i σ H,⟨xs.length,by simp,Nat.zero_le _,h0⟩,?_⟩
  rintro i m σ H ⟨rfl,hi,p⟩
  have q:=hl i σ H hi p
  by_cases hlt:i < xs.length
  · refine .inr ⟨⟨xs,xs[i],q,by simp [hlt]⟩,Pv (i+1),fun σ' H' p'=>⟨xs.length - (i+1),by omega,rfl,hlt,p'⟩,fun x H' y => ?_⟩
    obtain ⟨e,y⟩:=y
    subst e
    exact hs i x σ _ (y xs q) p
  · have e:i=xs.length:=by omega
    subst e
    exact .inl ⟨⟨xs,q,Nat.le_refl _⟩,hd σ H p⟩
theorem for_tup {K:PySem.W.Frag} {a:Addr} {xs:List V} {g:TG} {tb:TS} {D:Ends} {σ : St} {H:Hp} (Pv:Nat→St→Hp→Prop) (h0:Pv 0 σ H) (hl:∀ i σ H,i≤xs.length→Pv i σ H→SqT K H a xs)
    (hs:∀ i x σ H,xs[i]? = some x→Pv i σ H→g x σ H fun σ2 H2=>tb { D with nx:=Pv (i+1),ct:=Pv (i+1),bk:=D.nx } σ2 H2) (hd:∀ σ H,Pv xs.length σ H→D.nx σ H) :
    ∃ W:Nat→Nat→St→Hp→Prop,(∃ m,W 0 m σ H)∧∀ i m σ H,W i m σ H →
      ((Itt K a).stop i H∧D.nx σ H)∨((Itt K a).go i H∧∃ N:St→Hp→Prop,(∀ σ' H',N σ' H'→∃ m',m' < m∧W (i+1) m' σ' H')∧∀ x H',(Itt K a).yld i H x H'→g x σ H' fun σ2 H2=>tb { D with nx:=N,ct:=N,bk:=D.nx } σ2 H2):=by
  refine ⟨fun i m σ H=>m=xs.length - i∧i≤xs.length∧Pv i σ H,⟨xs.length,by simp,Nat.zero_le _,h0⟩,?_⟩
  rintro i m σ H ⟨rfl,hi,p⟩
  have q:=hl i σ H hi p
  by_cases hlt:i < xs.length
  · refine .inr ⟨⟨xs,xs[i],q,by simp [hlt]⟩,Pv (i+1),fun σ' H' p'=>⟨xs.length - (i+1),by omega,rfl,hlt,p'⟩,fun x H' y => ?_⟩
    obtain ⟨e,y⟩:=y
    subst e
    exact hs i x σ _ (y xs q) p
  · have e:i=xs.length:=by omega
    subst e
    exact .inl ⟨⟨xs,q,Nat.le_refl _⟩,hd σ H p⟩
end L2

namespace L2
open PySem PySem.Spec PyProof.Rows

noncomputable abbrev R2:=V→V→Hp→VK→Prop
noncomputable def OpR (X:Cx) (f:Value→Value→Sem Value) (r:R2):Prop :=
  ∀ (pins:List (Addr × Obj)) (s:Shared) (σ : St) (H:Hp) (x y:V) (v u:Value) (Q:VK),Inv X pins σ H s→RelV x v→RelV y u→r x y H Q →
    wpAny (model X.prog X.w) X.A (f v u) (EP X pins σ Q) X.xe s
noncomputable def UnR (X:Cx) (f:Value→Sem Value) (r:V→Hp→VK→Prop):Prop :=
  ∀ (pins:List (Addr × Obj)) (s:Shared) (σ : St) (H:Hp) (x:V) (v:Value) (Q:VK),Inv X pins σ H s→RelV x v→r x H Q →
    wpAny (model X.prog X.w) X.A (f v) (EP X pins σ Q) X.xe s
noncomputable def CallR (X:Cx) (f:Value) (r:List V→Hp→VK→Prop):Prop :=
  ∀ (pins:List (Addr × Obj)) (s:Shared) (σ : St) (H:Hp) (xs:List V) (us:List Value) (Q:VK),Inv X pins σ H s→Vals xs us→r xs H Q →
    wpAny (model X.prog X.w) X.A (call f us) (EP X pins σ Q) X.xe s

noncomputable def tOp (r:R2) (ta tb:TE):TE:=fun σ H Q=>ta σ H fun x H1=>tb σ H1 fun y H2=>r x y H2 Q
noncomputable def tUn (r:V→Hp→VK→Prop) (ta:TE):TE:=fun σ H Q=>ta σ H fun x H1=>r x H1 Q
inductive RI (C:Int→Int→Prop) (g:Int→Int→V) (x y:V) (H:Hp) (Q:VK):Prop
  | mk (i j:Int) (hx:x = .int i) (hy:y = .int j) (hc:C i j) (q:Q (g i j) H):RI C g x y H Q
noncomputable def rI (C:Int→Int→Prop) (g:Int→Int→V):R2:=fun x y H Q=>RI C g x y H Q
inductive RI0 (g:Int→Int→V) (x y:V) (H:Hp) (Q:VK):Prop
  | mk (i j:Int) (hx:x = .int i) (hy:y = .int j) (q:Q (g i j) H):RI0 g x y H Q
noncomputable def rI0 (g:Int→Int→V):R2:=fun x y H Q=>RI0 g x y H Q
inductive RU (g:Int→V) (x:V) (H:Hp) (Q:VK):Prop
  | mk (i:Int) (hx:x = .int i) (q:Q (g i) H):RU g x H Q
noncomputable def rU (g:Int→V):V→Hp→VK→Prop:=fun x H Q=>RU g x H Q

section
variable {X:Cx} {a b c:Expr} {ta tb tc:TE} {pos:Pos}

theorem binT (ha:PE X a ta) (hb:PE X b tb) {pins:List (Addr × Obj)} {s:Shared} {σ : St} {H:Hp} {R:V→V→Hp→Prop} (I:Inv X pins σ H s)
    (h:ta σ H fun x H1=>tb σ H1 fun y H2=>R x y H2) {Q:Value→Shared→Prop} {f:Value→Value→Sem Value}
    (hf:∀ v u s2 x y H2,Inv X pins σ H2 s2→RelV x v→RelV y u→R x y H2→wpAny (model X.prog X.w) X.A (f v u) Q X.xe s2) :
    wpAny (model X.prog X.w) X.A (eval a X.env) (fun v s₁ => wpAny (model X.prog X.w) X.A (eval b X.env) (fun u s₂ => wpAny (model X.prog X.w) X.A (f v u) Q X.xe s₂) X.xe s₁) X.xe s:=by
  refine thn (ha pins s σ H _ I h) fun v s1 ⟨x,H1,I1,r1,q1⟩ => ?_
  refine thn (hb pins s1 σ H1 _ I1 q1) fun u s2 ⟨y,H2,I2,r2,q2⟩ => ?_
  exact hf v u s2 x y H2 I2 r1 r2 q2

theorem pe_op {op:Operator} {r:R2} (ho:OpR X (binaryOp op) r) (ha:PE X a ta) (hb:PE X b tb):PE X (.BinOp a op b pos) (tOp r ta tb):=by
  intro pins s σ H Q I h
  exact wpAny_BinOp (binT ha hb I h fun v u s2 x y H2 I2 rx ry q=>ho pins s2 σ H2 x y v u Q I2 rx ry q)
theorem pe_un {op:UnaryOp} {r:V→Hp→VK→Prop} (ho:UnR X (unaryOp op) r) (ha:PE X a ta):PE X (.UnaryOp op a pos) (tUn r ta):=by
  intro pins s σ H Q I h
  exact UnaryOp_ (thn (ha pins s σ H _ I h) fun v s1 ⟨x,H1,I1,r1,q1⟩=>ho pins s1 σ H1 x v Q I1 r1 q1)

theorem opI {f:Value→Value→Sem Value} {C:Int→Int→Prop} {g:Int→Int→Int}
    (rule:∀ (i j:Int) (t u:Tok) (s:Shared) (Q:Value→Shared→Prop) (E:Value→Shared→Prop),C i j→Q (.int (g i j) s.toks) { s with toks:=s.toks+1 }→wpAny (model X.prog X.w) X.A (f (.int i t) (.int j u)) Q E s) :
    OpR X f (rI C fun i j => .int (g i j)):=by
  intro pins s σ H x y v u Q I rx ry h
  obtain ⟨i,j,rfl,rfl,hc,q⟩:=h
  obtain ⟨t,rfl⟩:=rx
  obtain ⟨t',rfl⟩:=ry
  exact rule i j t t' s _ _ hc ⟨.int (g i j),H,I.tok _,⟨_,rfl⟩,q⟩
theorem opI0 {f:Value→Value→Sem Value} {g:Int→Int→Int}
    (rule:∀ (i j:Int) (t u:Tok) (s:Shared) (Q:Value→Shared→Prop) (E:Value→Shared→Prop),Q (.int (g i j) s.toks) { s with toks:=s.toks+1 }→wpAny (model X.prog X.w) X.A (f (.int i t) (.int j u)) Q E s) :
    OpR X f (rI0 fun i j => .int (g i j)):=by
  intro pins s σ H x y v u Q I rx ry h
  obtain ⟨i,j,rfl,rfl,q⟩:=h
  obtain ⟨t,rfl⟩:=rx
  obtain ⟨t',rfl⟩:=ry
  exact rule i j t t' s _ _ ⟨.int (g i j),H,I.tok _,⟨_,rfl⟩,q⟩
theorem opB0 {f:Value→Value→Sem Value} {g:Int→Int→Bool}
    (rule:∀ (i j:Int) (t u:Tok) (s:Shared) (Q:Value→Shared→Prop) (E:Value→Shared→Prop),Q (.bool (g i j)) s→wpAny (model X.prog X.w) X.A (f (.int i t) (.int j u)) Q E s) :
    OpR X f (rI0 fun i j => .bl (g i j)):=by
  intro pins s σ H x y v u Q I rx ry h
  obtain ⟨i,j,rfl,rfl,q⟩:=h
  obtain ⟨t,rfl⟩:=rx
  obtain ⟨t',rfl⟩:=ry
  exact rule i j t t' s _ _ ⟨.bl (g i j),H,I,rfl,q⟩

noncomputable def CDiv (i j:Int):Prop:=0 < j∧j < 1073741824
noncomputable def CPow (i j:Int):Prop:=0≤j∧j≤1000000∧i.natAbs < 2 ^ 64

theorem op_add:OpR X (binaryOp .Add) (rI0 fun i j => .int (i+j)):=opI0 fun _ _ _ _ _ _ _ q=>add_int q
theorem op_sub:OpR X (binaryOp .Sub) (rI0 fun i j => .int (i - j)):=opI0 fun _ _ _ _ _ _ _ q=>sub_int q
theorem op_fdiv:OpR X (binaryOp .FloorDiv) (rI CDiv fun i j => .int (i / j)):=opI fun i j _ _ _ _ _ hc q=>by
  have h1:(0:Int) < j:=hc.1
  have h2:j < 1073741824:=hc.2
  exact floordiv_int (by omega) (by rw [Int.fdiv_eq_ediv_of_nonneg i (by omega)];exact q) (.inl (PyProof.noPylong_small (by omega)))
theorem op_mod:OpR X (binaryOp .Mod) (rI (fun _ j=>0 < j) fun i j => .int (i % j)):=opI fun i j _ _ _ _ _ hc q=>by
  have h1:(0:Int) < j:=hc
  exact mod_int' (by omega) (by rw [Int.fmod_eq_emod_of_nonneg i (by omega)];exact q)
theorem op_pow:OpR X (binaryOp .Pow) (rI CPow fun i j => .int (i ^ j.toNat)):=opI fun _ _ _ _ _ _ _ hc q=>pow_int_small hc.1 hc.2.1 hc.2.2 q


theorem unI {f:Value→Sem Value} {g:Int→Int}
    (rule:∀ (i:Int) (t:Tok) (s:Shared) (Q:Value→Shared→Prop) (E:Value→Shared→Prop),Q (.int (g i) s.toks) { s with toks:=s.toks+1 }→wpAny (model X.prog X.w) X.A (f (.int i t)) Q E s) :
    UnR X f (rU fun i => .int (g i)):=by
  intro pins s σ H x v Q I rx h
  obtain ⟨i,rfl,q⟩:=h
  obtain ⟨t,rfl⟩:=rx
  exact rule i t s _ _ ⟨.int (g i),H,I.tok _,⟨_,rfl⟩,q⟩
theorem un_neg:UnR X (unaryOp .USub) (rU fun i => .int (-i)):=unI fun _ _ _ _ _ q=>neg_int q

end

noncomputable def scal:V→V→Bool
  | .non,.non=>true | .non,.int _=>true | .int _,.non=>true | .non,.bl _=>true | .bl _,.non=>true | .non,.str _=>true | .str _,.non=>true
  | .int _,.int _=>true | .bl _,.bl _=>true | .str _,.str _=>true | .byt _,.byt _=>true
  | .int _,.str _=>true | .str _,.int _=>true | .bl _,.str _=>true | .str _,.bl _=>true
  | _,_=>false
noncomputable def rEq:R2:=fun x y H Q=>scal x y=true∧Q (.bl (decide (x=y))) H
noncomputable def rNe:R2:=fun x y H Q=>scal x y=true∧Q (.bl (!decide (x=y))) H

theorem dec_int {i j:Int}:decide (V.int i=V.int j)=(i == j):=by
  rw [Bool.eq_iff_iff]
  simp
theorem dec_bl {i j:Bool}:decide (V.bl i=V.bl j)=(i == j):=by
  rw [Bool.eq_iff_iff]
  simp
theorem dec_str {i j:Str}:decide (V.str i=V.str j)=(i == j):=by
  rw [Bool.eq_iff_iff]
  simp
theorem dec_byt {i j:Array UInt8}:decide (V.byt i=V.byt j)=(i.toList == j.toList):=by
  rw [Bool.eq_iff_iff]
  cases i
  cases j
  simp

section
variable {X:Cx} {a b c:Expr} {ta tb tc:TE} {pos:Pos}
theorem fin_bl {pins:List (Addr × Obj)} {σ : St} {H:Hp} {s:Shared} {Q:VK} {k k':Bool} (I:Inv X pins σ H s) (q:Q (.bl k) H) (e:k=k'):EP X pins σ Q (.bool k') s:=by
  subst e
  exact ⟨.bl k,H,I,rfl,q⟩
theorem op_eq:OpR X (compareOp .Eq) rEq:=by
  intro pins s σ H x y v u Q I rx ry h
  obtain ⟨hs,q⟩:=h
  cases x with
  | non =>
    cases rx
    cases y with
    | non=>cases ry;exact PySem.EqNone.eq_none_none (fin_bl I q (by simp))
    | bl j=>cases ry;exact PySem.EqNone.eq_none_bool (fin_bl I q (by simp))
    | int j=>obtain ⟨t',rfl⟩:=ry;exact PySem.EqNone.eq_none_int (fin_bl I q (by simp))
    | str j=>obtain ⟨t',rfl⟩:=ry;exact PySem.EqNone.eq_none_str (fin_bl I q (by simp))
    | _=>exact absurd (show false=true from hs) Bool.false_ne_true
  | bl i =>
    cases rx
    cases y with
    | non=>cases ry;exact PySem.EqNone.eq_bool_none (fin_bl I q (by simp))
    | bl j=>cases ry;exact eq_bool (fin_bl I q dec_bl)
    | str j=>obtain ⟨t',rfl⟩:=ry;exact PySem.EqMixed.eq_bool_str (fin_bl I q (by simp))
    | _=>exact absurd (show false=true from hs) Bool.false_ne_true
  | int i =>
    obtain ⟨t,rfl⟩:=rx
    cases y with
    | non=>cases ry;exact PySem.EqNone.eq_int_none (fin_bl I q (by simp))
    | int j=>obtain ⟨t',rfl⟩:=ry;exact eq_int (fin_bl I q dec_int)
    | str j=>obtain ⟨t',rfl⟩:=ry;exact PySem.EqMixed.eq_int_str (fin_bl I q (by simp))
    | _=>exact absurd (show false=true from hs) Bool.false_ne_true
  | str i =>
    obtain ⟨t,rfl⟩:=rx
    cases y with
    | non=>cases ry;exact PySem.EqNone.eq_str_none (fin_bl I q (by simp))
    | bl j=>cases ry;exact PySem.EqMixed.eq_str_bool (fin_bl I q (by simp))
    | int j=>obtain ⟨t',rfl⟩:=ry;exact PySem.EqMixed.eq_str_int (fin_bl I q (by simp))
    | str j=>obtain ⟨t',rfl⟩:=ry;exact eq_str (fin_bl I q dec_str)
    | _=>exact absurd (show false=true from hs) Bool.false_ne_true
  | byt i =>
    obtain ⟨t,rfl⟩:=rx
    cases y with
    | byt j=>obtain ⟨t',rfl⟩:=ry;exact PySem.W.eq_bytes (fin_bl I q dec_byt)
    | _=>exact absurd (show false=true from hs) Bool.false_ne_true
  | _=>cases y <;> exact absurd (show false=true from hs) Bool.false_ne_true
theorem op_ne:OpR X (compareOp .NotEq) rNe:=by
  intro pins s σ H x y v u Q I rx ry h
  obtain ⟨hs,q⟩:=h
  cases x with
  | non =>
    cases rx
    cases y with
    | non=>cases ry;exact PySem.EqNone.ne_none_none (fin_bl I q (by simp))
    | bl j=>cases ry;exact PySem.EqNone.ne_none_bool (fin_bl I q (by simp))
    | int j=>obtain ⟨t',rfl⟩:=ry;exact PySem.EqNone.ne_none_int (fin_bl I q (by simp))
    | str j=>obtain ⟨t',rfl⟩:=ry;exact PySem.EqNone.ne_none_str (fin_bl I q (by simp))
    | _=>exact absurd (show false=true from hs) Bool.false_ne_true
  | bl i =>
    cases rx
    cases y with
    | non=>cases ry;exact PySem.EqNone.ne_bool_none (fin_bl I q (by simp))
    | bl j=>cases ry;exact ne_bool (fin_bl I q (congrArg not dec_bl))
    | str j=>obtain ⟨t',rfl⟩:=ry;exact PySem.EqMixed.ne_bool_str (fin_bl I q (by simp))
    | _=>exact absurd (show false=true from hs) Bool.false_ne_true
  | int i =>
    obtain ⟨t,rfl⟩:=rx
    cases y with
    | non=>cases ry;exact PySem.EqNone.ne_int_none (fin_bl I q (by simp))
    | int j=>obtain ⟨t',rfl⟩:=ry;exact ne_int (fin_bl I q (congrArg not dec_int))
    | str j=>obtain ⟨t',rfl⟩:=ry;exact PySem.EqMixed.ne_int_str (fin_bl I q (by simp))
    | _=>exact absurd (show false=true from hs) Bool.false_ne_true
  | str i =>
    obtain ⟨t,rfl⟩:=rx
    cases y with
    | non=>cases ry;exact PySem.EqNone.ne_str_none (fin_bl I q (by simp))
    | bl j=>cases ry;exact PySem.EqMixed.ne_str_bool (fin_bl I q (by simp))
    | int j=>obtain ⟨t',rfl⟩:=ry;exact PySem.EqMixed.ne_str_int (fin_bl I q (by simp))
    | str j=>obtain ⟨t',rfl⟩:=ry;exact ne_str (fin_bl I q (congrArg not dec_str))
    | _=>exact absurd (show false=true from hs) Bool.false_ne_true
  | byt i =>
    obtain ⟨t,rfl⟩:=rx
    cases y with
    | byt j=>obtain ⟨t',rfl⟩:=ry;exact PySem.W.ne_bytes (fin_bl I q (congrArg not dec_byt))
    | _=>exact absurd (show false=true from hs) Bool.false_ne_true
  | _=>cases y <;> exact absurd (show false=true from hs) Bool.false_ne_true

theorem op_lt:OpR X (compareOp .Lt) (rI0 fun i j => .bl (decide (i < j))):=opB0 fun _ _ _ _ _ _ _ q=>lt_int q
theorem op_gt:OpR X (compareOp .Gt) (rI0 fun i j => .bl (decide (j < i))):=opB0 fun _ _ _ _ _ _ _ q=>gt_int q
theorem op_ge:OpR X (compareOp .GtE) (rI0 fun i j => .bl (decide (j≤i))):=opB0 fun _ _ _ _ _ _ _ q=>ge_int q
inductive J_op_in_str (x:V) (y:V) (H:Hp) (Q:VK):Prop
  | mk:∀ i j,(x = .str i)→(y = .str j)→(Q (.bl (!(Builtin.Str.occurrences j i 0 j.length 1).isEmpty)) H)→J_op_in_str x y H Q
theorem op_in_str:OpR X (compareOp .In) (fun x y H Q=>J_op_in_str x y H Q):=by
  intro pins s σ H x y v u Q I rx ry h
  obtain ⟨i,j,rfl,rfl,q⟩:=h
  obtain ⟨t,rfl⟩:=rx
  obtain ⟨t',rfl⟩:=ry
  exact in_str (fin_bl I q rfl)

theorem op_isN:OpR X (compareOp .Is) (fun x y H Q=>y = .non∧Q (.bl (decide (x = .non))) H):=by
  intro pins s σ H x y v u Q I rx ry h
  obtain ⟨rfl,q⟩:=h
  cases ry
  refine is_none_gen (fin_bl I q ?_)
  cases x <;> first
    | (cases rx;rfl)
    | (obtain ⟨t,rfl⟩:=rx;rfl)
theorem op_notN:OpR X (compareOp .IsNot) (fun x y H Q=>y = .non∧Q (.bl (!decide (x = .non))) H):=by
  intro pins s σ H x y v u Q I rx ry h
  obtain ⟨rfl,q⟩:=h
  cases ry
  refine isnot_none_gen (fin_bl I q ?_)
  cases x <;> first
    | (cases rx;rfl)
    | (obtain ⟨t,rfl⟩:=rx;rfl)



theorem nomark (b:Expr) {op:CmpOp} (h:op ≠ .In:=by decide) (h2:op ≠ .NotIn:=by decide):behindInMarks op b=false:=by
  have e1:(op == CmpOp.In)=false:=by cases op <;> first | rfl | exact absurd rfl h
  have e2:(op == CmpOp.NotIn)=false:=by cases op <;> first | rfl | exact absurd rfl h2
  cases b <;> simp [behindInMarks,e1,e2]
inductive RTest (x:V) (H:Hp) (Q:Bool→Hp→Prop):Prop
  | mk (k:Bool) (hx:x = .bl k) (q:Q k H):RTest x H Q
noncomputable def tTest (t:TE):TT:=fun σ H Q=>t σ H fun x H'=>RTest x H' Q
theorem pt_cmpR {op:CmpOp} {r:R2} (ho:OpR X (compareOp op) r) (ha:PE X a ta) (hb:PE X b tb) (hm:behindInMarks op b=false):PT X (.Compare a [op] [b] pos) (tTest (tOp r ta tb)):=by
  intro pins s σ H Q I h
  refine wpAny_isTrue_Compare1 (thn (ha pins s σ H _ I h) fun v s1 ⟨x,H1,I1,r1,q1⟩=>thn (hb pins s1 σ H1 _ I1 q1) fun u s2 ⟨y,H2,I2,r2,q2⟩ =>
    thn (ho pins s2 σ H2 x y v u _ I2 r1 r2 q2) fun c s3 ⟨z,H3,I3,r3,k,e,q3⟩ => ?_) hm
  subst e
  cases r3
  exact wpAny_truthy_bool ⟨H3,I3,q3⟩

theorem line63:(sizeLine:Nat) < 2 ^ 63:=by rw [sizeLine_eq];decide

inductive J_op_add_str (x:V) (y:V) (H:Hp) (Q:VK):Prop
  | mk:∀ i j,(x = .str i)→(y = .str j)→(i.length+j.length≤sizeLine)→(Q (.str (i ++ j)) H)→J_op_add_str x y H Q
theorem op_add_str:OpR X (binaryOp .Add) (fun x y H Q=>J_op_add_str x y H Q):=by
  intro pins s σ H x y v u Q I rx ry h
  obtain ⟨i,j,rfl,rfl,hz,q⟩:=h
  obtain ⟨t,rfl⟩:=rx
  obtain ⟨t',rfl⟩:=ry
  exact add_str (fun t' tk=>⟨.str (i ++ j),H,I.tok _,⟨_,rfl⟩,q⟩) hz


theorem vals1 {x:V} {us:List Value} (r:Vals [x] us):∃ u,us = [u]∧RelV x u:=by
  cases r with
  | cons r1 r2=>cases r2;exact ⟨_,rfl,r1⟩
theorem vals2 {x y:V} {us:List Value} (r:Vals [x,y] us):∃ u w',us = [u,w']∧RelV x u∧RelV y w':=by
  cases r with
  | cons r1 r2 =>
    cases r2 with
    | cons r3 r4=>cases r4;exact ⟨_,_,rfl,r1,r3⟩
inductive J_call_max2 (xs:List V) (H:Hp) (Q:VK):Prop
  | mk:∀ i j,(xs = [.int i,.int j])→(Q (.int (if j > i then j else i)) H)→J_call_max2 xs H Q
theorem call_max2 (hc:X.calm=true):CallR X (.builtin "max") (fun xs H Q=>J_call_max2 xs H Q):=by
  intro pins s σ H xs us Q I r h
  obtain ⟨i,j,rfl,q⟩:=h
  obtain ⟨u,w',rfl,⟨t,rfl⟩,⟨t',rfl⟩⟩:=vals2 r
  refine max_two_ints (I.ok.hd hc) fun h' tk k=>⟨_,H,I.kept k,?_,q⟩
  by_cases hj:j > i
  · rw [if_pos hj,if_pos hj];exact ⟨_,rfl⟩
  · rw [if_neg hj,if_neg hj];exact ⟨_,rfl⟩
theorem call_str_int:CallR X (.type "str") (fun xs H Q=>∃ i,xs = [.int i]∧i.natAbs.log2 < 1920∧Q (.str (toString i)) H):=by
  intro pins s σ H xs us Q I r h
  obtain ⟨i,rfl,hz,q⟩:=h
  obtain ⟨u,rfl,t,rfl⟩:=vals1 r
  exact PySem.P.str_of_int hz ⟨.str _,H,I.tok _,⟨_,rfl⟩,q⟩
end
end L2

namespace L2
open PySem PySem.Spec PyProof.Rows

structure ObjM (h:Heap) (x dx C:Addr) (mA:Str→Option Value):Prop where
  obj:h.get? x=some (PySem.W.instObj C dx)
  ns:h.Ns1 dx mA
  ne:dx≠x

theorem lookIn_ns {h:Heap} {dx:Addr} {mA:Str→Option Value} (n:h.Ns1 dx mA):∃ od,h.get? dx=some od∧∀ name,PySem.W.lookIn name od=some (mA name):=by
  obtain ⟨o,es,ep,ho,hd,hk,_,hm⟩:=n
  refine ⟨o,ho,fun name => ?_⟩
  have e:=hm name
  unfold nsFind findBy at e
  rw [← Array.find?_toList] at e
  unfold PySem.W.lookIn
  rw [hd]
  dsimp only
  split
  · rename_i y q
    rw [q] at e
    exact congrArg some e
  · rename_i q
    rw [q] at e
    have a:es.toList.any (·.refKey)=false:=by
      rw [List.any_eq_false]
      intro y hy
      obtain ⟨z,t,hkey⟩:=hk y (Array.mem_toList_iff.mp hy)
      simp [DictEntry.refKey,hkey]
    have a':¬ es.toList.any (·.refKey)=true:=by rw [a];exact Bool.false_ne_true
    rw [if_neg a']
    exact congrArg some e

theorem ObjM.look {h:Heap} {x dx C:Addr} {mA:Str→Option Value} (I:ObjM h x dx C mA):∃ od,PySem.W.InstAt h x (PySem.W.instObj C dx) C (some od)∧∀ name,PySem.W.lookIn name od=some (mA name) :=
  let ⟨od,ho,hl⟩:=lookIn_ns I.ns
  ⟨od,⟨I.obj,rfl,rfl,ho⟩,hl⟩

section
variable {prog:Program} {w:World} {A:Around} {E:Value→Shared→Prop} {s:Shared} {K:PySem.W.Frag} {x dx C f:Addr} {mA:Str→Option Value} {name:Str} {v:Value}

theorem get_map {expr:Bool} {Q:Value→Shared→Prop} (X:K.In s.heap) (I:ObjM s.heap x dx C mA) (hg:PySem.W.plainGet K C name=true) (hh:PySem.W.hasDictIn K C=true)
    (ha:PySem.W.findIn K (.ref C) name=some none) (hv:mA name=some v) (hv':PySem.W.handedIn v=true) (h:Q v { s with toks:=s.toks+1 }) :
    wpAny (model prog w) A (getAttr (.ref x) name expr) Q E s:=by
  obtain ⟨od,J,hl⟩:=I.look
  exact PySem.W.get_value X J (PySem.W.plainGet_of hg).1 (PySem.W.findObj_own hh ha rfl (by rw [hl,hv])) hv' h


theorem get_meth {pl:Sem Bool} {Q:Value × List Value→Shared→Prop} (X:K.In s.heap) (I:ObjM s.heap x dx C mA) (hg:PySem.W.plainGet K C name=true)
    (hf:PySem.W.findIn K (.ref C) name=some (some (.ref f))) (ht:PySem.W.isFn K (.ref f)=true) (hv:mA name=none) (h:Q (.ref f, [.ref x]) s) :
    wpAny (model prog w) A (getMethod (.ref x) name pl) Q E s:=by
  obtain ⟨od,J,hl⟩:=I.look
  exact PySem.W.method_fn X J (PySem.W.plainGet_of hg).1 (PySem.W.plainGet_of hg).2 hf (beq_iff_eq.mp ht) (by show (PySem.W.lookIn name od).map (·.isSome)=some false;rw [hl,hv];rfl) h

theorem set_map {ns:List Str} {Q:Unit→Shared→Prop} (X:K.In s.heap) (I:ObjM s.heap x dx C mA)
    (hs:PySem.W.findIn K (.ref C) "__setattr__" = some (some (.builtin "object.__setattr__"))) (hp:PySem.W.plainOver K C=true) (ht:PySem.W.takerIn K C name=some none) (hh:PySem.W.hasDictIn K C=true)
    (hw:PySem.Within mA ns) (hsz:ns.length≤sizeLine)
    (h:∀ h',ObjM h' x dx C (fun y=>if y=name then some v else mA y)→Heap.SameBut dx s.heap h'→Q () { s with heap:=h',toks:=s.toks+2 }) :
    wpAny (model prog w) A (setAttr (.ref x) name v) Q E s:=by
  obtain ⟨od,J,hl⟩:=I.look
  refine PySem.W.set_plain X J hs (PySem.W.osa_open (s := { s with toks:=s.toks+1 }) (r:=none) X J hp ht fun b => ?_)
  obtain ⟨cd,hc,hd'⟩:=PySem.W.any_some hh
  have hx:s.heap.get? x=some ⟨.ref C,some dx,.plain, #[]⟩:=I.obj
  refine wpAny_bind (wpAny_pure (wpAny_bind (wpAny_bind (wpAny_loadPart hx (wpAny_bind (PySem.W.Looks.here (s := { s with toks:=s.toks+1 }) (PySem.W.looks_clsIn X hc) ?_))))))
  rw [hd']
  refine wpAny_pure (a:=some dx) (wpAny_bind (wpAny_pure (wpAny_bind ?_)))
  refine wpAny_nsSet1 (s := { s with toks:=s.toks+1 }) I.ns fun h' hn2 hs2 => ?_
  obtain ⟨oD,esD,epD,hoD,hdD,hcD⟩:=hn2.count (PySem.Within.cons name v hw)
  refine wpAny_bind (wpAny_lookBehind hoD (by rw [hdD];exact pastItsLine_dict (Nat.le_trans hcD (by rw [List.length_cons];omega))) ?_)
  exact wpAny_pure (h _ ⟨(hs2.2 _ (Ne.symm I.ne)).trans I.obj,hn2,I.ne⟩ hs2)

theorem make_map {R:Result→Shared→Prop} {vs:List Value} {kw:List (Str × Value)} (X:K.In s.heap) (hm:PySem.W.makesIn K C=true)
    (hi:PySem.W.findIn K (.ref C) "__init__" = some (some (.ref f))) (hf:PySem.W.typeIn K (.ref f)=some (.type "function"))
    (h:codeAny (model prog w) (A.under (.builtin "type.__call__" ⟨.ref C :: vs,kw⟩)) (.call (.ref f) ⟨.ref (s.heap.objs.size+1) :: vs,kw⟩) (PySem.W.InitBack (s.heap.objs.size+1) R)
      { s with heap:=(s.heap.push PySem.W.emptyDict).push (PySem.W.instObj C s.heap.objs.size) }) :
    codeAny (model prog w) A (.call (.ref C) ⟨vs,kw⟩) R s:=by
  obtain ⟨hh,g,d,t,os⟩:=s
  exact PySem.W.make_core (PySem.W.makes_of X hm) (PySem.W.looks_findIn X hi) (fun self=>PySem.W.bind_fn X self hf) (.inl rfl) h
end

noncomputable def putF (f:Str) (v:V):List (Str × V)→List (Str × V)
  | [] => [(f,v)]
  | (g,x) :: r=>if g=f then (g,v) :: r else (g,x) :: putF f v r
theorem lookup_putF (f g:Str) (v:V):∀ fs:List (Str × V),(putF f v fs).lookup g=if g=f then some v else fs.lookup g
  | []=>by
    show List.lookup g [(f,v)]=_
    by_cases h:g=f
    · have hb:(g == f)=true:=beq_iff_eq.mpr h
      simp only [List.lookup,hb,if_pos h]
    · have hb:(g == f)=false:=beq_eq_false_iff_ne.mpr h
      simp only [List.lookup,hb,if_neg h]
  | (k,x) :: r=>by
    have ih:=lookup_putF f g v r
    rw [show putF f v ((k,x) :: r)=(if k=f then (k,v) :: r else (k,x) :: putF f v r) from rfl]
    by_cases hk:k=f
    · rw [if_pos hk]
      by_cases h:g=k
      · have hb:(g == k)=true:=beq_iff_eq.mpr h
        simp only [List.lookup,hb,if_pos (h.trans hk)]
      · have hb:(g == k)=false:=beq_eq_false_iff_ne.mpr h
        simp only [List.lookup,hb,if_neg (fun e:g=f=>h (e.trans hk.symm))]
    · rw [if_neg hk]
      by_cases h:g=k
      · have hb:(g == k)=true:=beq_iff_eq.mpr h
        simp only [List.lookup,hb,if_neg (fun e:g=f=>hk (h.symm.trans e))]
      · have hb:(g == k)=false:=beq_eq_false_iff_ne.mpr h
        simp only [List.lookup,hb]
        exact ih
theorem keys_putF (f:Str) (v:V):∀ fs:List (Str × V),f∈(putF f v fs).map (·.1)∧∀ g,g∈fs.map (·.1)→g∈(putF f v fs).map (·.1)
  | []=>⟨by simp [putF],fun g h=>by simp at h⟩
  | (k,x) :: r=>by
    obtain ⟨i1,i2⟩:=keys_putF f v r
    rw [show putF f v ((k,x) :: r)=(if k=f then (k,v) :: r else (k,x) :: putF f v r) from rfl]
    by_cases hk:k=f
    · rw [if_pos hk]
      subst hk
      exact ⟨by simp,fun g h=>by simpa using h⟩
    · rw [if_neg hk]
      refine ⟨?_,fun g h => ?_⟩
      · rw [List.map_cons]
        exact List.mem_cons_of_mem _ i1
      · rw [List.map_cons] at h ⊢
        rcases List.mem_cons.mp h with e | e
        · exact List.mem_cons.mpr (.inl e)
        · exact List.mem_cons_of_mem _ (i2 g e)
theorem length_putF (f:Str) (v:V):∀ fs:List (Str × V),(putF f v fs).length≤fs.length+1
  | []=>by simp [putF]
  | (k,x) :: r=>by
    have ih:=length_putF f v r
    rw [show putF f v ((k,x) :: r)=(if k=f then (k,v) :: r else (k,x) :: putF f v r) from rfl]
    by_cases hk:k=f
    · rw [if_pos hk,List.length_cons,List.length_cons];omega
    · rw [if_neg hk,List.length_cons,List.length_cons];omega

theorem RelO.some_of {v:V} {o:Option Value} (r:RelO (some v) o):∃ u,o=some u∧RelV v u:=by
  cases o with
  | none=>exact (show False from r).elim
  | some u=>exact ⟨u,rfl,r⟩
theorem RelO.none_of {o:Option Value} (r:RelO none o):o=none:=by
  cases o with
  | none=>rfl
  | some u=>exact (show False from r).elim
theorem handed_of {v:V} {u:Value} (r:RelV v u):PySem.W.handedIn u=true:=by
  cases v with
  | non=>cases (show u=Value.none from r);rfl
  | bl b=>cases (show u=Value.bool b from r);rfl
  | int i=>obtain ⟨t,e⟩:=(show ∃ t,u=Value.int i t from r);cases e;rfl
  | str x=>obtain ⟨t,e⟩:=(show ∃ t,u=Value.str x t from r);cases e;rfl
  | byt b=>obtain ⟨t,e⟩:=(show ∃ t,u=Value.bytes b t from r);cases e;rfl
  | flt b=>obtain ⟨t,e⟩:=(show ∃ t,u=Value.float b t from r);cases e;rfl
  | ref a=>cases (show u=Value.ref a from r);rfl
  | ty n=>cases (show u=Value.type n from r);rfl

section
variable {P:Program} {w:World} {H H':Hp} {h h':Heap} {a C dx:Addr} {fs fs':List (Str × V)}
theorem ins_get (hok:HOk P w H h) (e:H a=some (.ins C dx fs)):∃ mA,ObjM h a dx C mA∧(∀ f,RelO (fs.lookup f) (mA f))∧PySem.Within mA (fs.map (·.1))∧fs.length≤1000∧H dx=some (.own a):=by
  obtain ⟨d,z,ne,ob,mA,n,r,q⟩:=(show ObjOk P w H h a (.ins C dx fs) from hok a _ e)
  exact ⟨mA,⟨ob,n,ne⟩,r,q,z,d⟩
end

structure Cls (K:PySem.W.Frag) (C:Addr):Prop where
  pg:PySem.W.plainGet K C Str.empty=true
  hd:PySem.W.hasDictIn K C=true
  po:PySem.W.plainOver K C=true
  sa:PySem.W.findIn K (.ref C) "__setattr__" = some (some (.builtin "object.__setattr__"))
theorem Cls.get {K:PySem.W.Frag} {C:Addr} (c:Cls K C) (f:Str):PySem.W.plainGet K C f=true:=c.pg
noncomputable def NoAttr (K:PySem.W.Frag) (C:Addr) (f:Str):Prop:=PySem.W.findIn K (.ref C) f=some none
theorem NoAttr.taker {K:PySem.W.Frag} {C:Addr} {f:Str} (n:NoAttr K C f):PySem.W.takerIn K C f=some none:=by
  unfold PySem.W.takerIn
  rw [show PySem.W.findIn K (.ref C) f=some none from n]
  rfl
structure Meth (K:PySem.W.Frag) (C:Addr) (m:Str) (f:Addr):Prop where
  at_:PySem.W.findIn K (.ref C) m=some (some (.ref f))
  fn:PySem.W.isFn K (.ref f)=true
  kp:PySem.W.keepIn K (.ref f)=true

section
variable {X:Cx} {pins:List (Addr × Obj)} {σ : St} {H:Hp} {s:Shared} {a C dx:Addr} {fs:List (Str × V)} {f:Str} {v:V} {A:Around} {E:Value→Shared→Prop}

theorem getattr_ok {b:Bool} {Q:Value→Shared→Prop} (I:Inv X pins σ H s) (e:H a=some (.ins C dx fs)) (c:Cls X.K C) (n:NoAttr X.K C f) (l:fs.lookup f=some v)
    (h:∀ u s',Inv X pins σ H s'→RelV v u→Q u s'):wpAny (model X.prog X.w) A (getAttr (.ref a) f b) Q E s:=by
  obtain ⟨mA,O,r,_,_,_⟩:=ins_get I.hok e
  obtain ⟨u,hu,ru⟩:=RelO.some_of (v:=v) (o:=mA f) (by rw [← l];exact r f)
  exact get_map I.kIn O (c.get f) c.hd n hu (handed_of ru) (h u _ (I.tok _) ru)


theorem getmeth_ok {m:Str} {g:Addr} {pl:Sem Bool} {Q:Value × List Value→Shared→Prop} (I:Inv X pins σ H s) (e:H a=some (.ins C dx fs)) (c:Cls X.K C) (k:Meth X.K C m g) (l:fs.lookup m=none)
    (h:Q (.ref g, [.ref a]) s):wpAny (model X.prog X.w) A (getMethod (.ref a) m pl) Q E s:=by
  obtain ⟨mA,O,r,_,_,_⟩:=ins_get I.hok e
  have hn:mA m=none:=RelO.none_of (by rw [← l];exact r m)
  exact get_meth I.kIn O (c.get m) k.at_ k.fn hn h

theorem setattr_ok {y:V} {u:Value} {Q:Unit→Shared→Prop} (I:Inv X pins σ H s) (e:H a=some (.ins C dx fs)) (c:Cls X.K C) (n:NoAttr X.K C f) (hl:fs.length < 1000) (ry:RelV y u)
    (h:∀ s',Inv X pins σ (upd H a (.ins C dx (putF f y fs))) s'→Q () s'):wpAny (model X.prog X.w) A (setAttr (.ref a) f u) Q E s:=by
  obtain ⟨mA,O,r,wi,_,ho⟩:=ins_get I.hok e
  have hz:(fs.map (·.1)).length≤sizeLine:=by rw [List.length_map,sizeLine_eq];omega
  refine set_map I.kIn O c.sa c.po n.taker c.hd wi hz fun h' O' sb=>h _ ?_
  have hd:∃ o,h'.get? dx=some o:=let ⟨o,_,_,e',_⟩:=O'.ns; ⟨o,e'⟩
  refine I.write (x:=a) (e:=dx) (by rw [e];exact True.intro) (.inr ho) (fun b q hb z=>(sb.2 b hb).trans z) hd ?_
  refine ⟨by rw [upd_ne O.ne];exact ho,?_,O.ne,O'.obj,_,O'.ns,fun g => ?_,fun g hg => ?_⟩
  · have:=length_putF f y fs;omega
  · show RelO ((putF f y fs).lookup g) (if g=f then some u else mA g)
    rw [lookup_putF]
    by_cases q:g=f
    · rw [if_pos q,if_pos q];exact ry
    · rw [if_neg q,if_neg q];exact r g
  · by_cases q:g=f
    · rw [q];exact (keys_putF f y fs).1
    · refine (keys_putF f y fs).2 g (wi g fun z=>hg ?_)
      show (if g=f then some u else mA g)=none
      rw [if_neg q];exact z

theorem Inv.made (I:Inv X pins σ H s):Inv X pins σ (upd (upd H s.heap.objs.size (.own (s.heap.objs.size+1))) (s.heap.objs.size+1) (.ins C s.heap.objs.size []))
    { s with heap:=(s.heap.push PySem.W.emptyDict).push (PySem.W.instObj C s.heap.objs.size) }:=by
  have e1:(s.heap.push PySem.W.emptyDict).get? s.heap.objs.size=some PySem.W.emptyDict:=Heap.get?_push_size s.heap rfl
  have e2:((s.heap.push PySem.W.emptyDict).push (PySem.W.instObj C s.heap.objs.size)).get? (s.heap.objs.size+1)=some (PySem.W.instObj C s.heap.objs.size):=by
    have:=Heap.get?_push_size (s.heap.push PySem.W.emptyDict) (o:=PySem.W.instObj C s.heap.objs.size) rfl
    rwa [Heap.size_push] at this
  have e3:(s.heap.push PySem.W.emptyDict).Ns s.heap.objs.size (fun _=>none):=⟨PySem.W.emptyDict, #[],_,e1,rfl,(fun e he=>absurd he (by simp)),fun _=>rfl⟩
  have I1:=I.laid (a:=s.heap.objs.size) (o := .own (s.heap.objs.size+1)) (h':=s.heap.push PySem.W.emptyDict) (t':=s.toks) (fun b u q=>Heap.get?_push_of_some _ q) (Nat.le_refl _) ⟨_,e1⟩
  refine I1.laid (a:=s.heap.objs.size+1) (o := .ins C s.heap.objs.size []) (t':=s.toks) (fun b u q=>Heap.get?_push_of_some _ q) (Nat.le_of_eq (Heap.size_push _ _)) ?_
  have ne:s.heap.objs.size≠s.heap.objs.size+1:=Nat.ne_of_lt (Nat.lt_succ_self _)
  refine ⟨by rw [upd_ne ne,upd_same],Nat.zero_le _,ne,e2,fun _=>none,(Heap.Ns1.of_empty e3).at fun o q=>Heap.get?_push_of_some _ q,fun _=>True.intro,fun y hy=>absurd rfl hy⟩

theorem attr_of {prog:Program} {w:World} {env:Env} {e:Expr} {f:Str} {pos:Pos} {s:Shared} {Q:Value→Shared→Prop} (hb:attributeBase e f env (eval e env)=eval e env)
    (h:wpAny (model prog w) A (eval e env) (fun o s₁ => wpAny (model prog w) A (getAttr o f true) Q E s₁) E s):wpAny (model prog w) A (eval (.Attribute e f pos) env) Q E s :=
  Attribute_any_ h (by rw [arm_eval_Attribute,hb])
end

inductive RFld (K:PySem.W.Frag) (f:Str) (x:V) (H:Hp) (Q:VK):Prop
  | mk (a C dx:Addr) (fs:List (Str × V)) (v:V) (hx:x = .ref a) (h:H a=some (.ins C dx fs)) (c:Cls K C) (n:NoAttr K C f) (l:fs.lookup f=some v) (q:Q v H):RFld K f x H Q
noncomputable def tFld (K:PySem.W.Frag) (ta:TE) (f:Str):TE:=fun σ H Q=>ta σ H fun x H1=>RFld K f x H1 Q
inductive J_sFld (K:PySem.W.Frag) (f:Str) (D:Ends) (σ : St) (y:V) (x:V) (H2:Hp):Prop
  | mk:∀ a C dx fs,(x = .ref a)→(H2 a=some (.ins C dx fs))→(Cls K C)→(NoAttr K C f)→(fs.length < 1000)→(D.nx σ (upd H2 a (.ins C dx (putF f y fs))))→J_sFld K f D σ y x H2
noncomputable def sFld (K:PySem.W.Frag) (ta tv:TE) (f:Str):TS:=fun D σ H=>tv σ H fun y H1=>ta σ H1 fun x H2=>J_sFld K f D σ y x H2
noncomputable def InOp (X:Cx) (op:Operator) (rd:V→V→Hp→VK→Prop):Prop :=
  ∀ (pins:List (Addr × Obj)) (s:Shared) (σ : St) (H:Hp) (x y:V) (u v:Value) (Q:VK),Inv X pins σ H s→RelV x u→RelV y v→rd x y H Q→wpAny (model X.prog X.w) X.A (inplaceOp op u v) (EP X pins σ Q) X.xe s
noncomputable def sFldAug (K:PySem.W.Frag) (ta tv:TE) (rd:V→V→Hp→VK→Prop) (f:Str):TS:=fun D σ H=>ta σ H fun x H1=>∃ a C dx fs v,x = .ref a∧H1 a=some (.ins C dx fs)∧Cls K C∧NoAttr K C f∧fs.lookup f=some v ∧
  tv σ H1 fun y H2=>rd v y H2 fun z H3=>∃ dx' fs',H3 a=some (.ins C dx' fs')∧fs'.length < 1000∧D.nx σ (upd H3 a (.ins C dx' (putF f z fs')))

section
variable {X:Cx} {o e value:Expr} {f:Str} {pos pos' tpos:Pos} {ta tv:TE}
theorem pe_fld (he:PE X e ta) (hb:attributeBase e f X.env (eval e X.env)=eval e X.env):PE X (.Attribute e f pos) (tFld X.K ta f):=by
  intro pins s σ H Q I h
  refine attr_of hb (thn (he pins s σ H _ I h) fun u s1 ⟨x,H1,I1,rx,a,C,dx,fs,v,ex,ea,c,n,l,q⟩ => ?_)
  subst ex
  obtain rfl:u=Value.ref a:=rx
  exact getattr_ok I1 ea c n l fun u' s2 I2 ru=>⟨v,H1,I2,ru,q⟩
theorem ps_fld (ha:PE X o ta) (hv:PE X value tv) (hs:swapsWith value (some (.Attribute o f pos')) pos.line X.env=pure false):PS X (.Assign [.Attribute o f pos'] value pos) (sFld X.K ta tv f):=by
  intro pins s σ H D I h
  refine plainObj_wpAny_Assign_Attribute (thn (hv pins s σ H _ I h) fun u s1 ⟨y,H1,I1,ry,q⟩=>thn (ha pins s1 σ H1 _ I1 q) fun ov s2 ⟨x,H2,I2,rx,a,C,dx,fs,ex,ea,c,n,l,q2⟩ => ?_) hs
  subst ex
  obtain rfl:ov=Value.ref a:=rx
  exact setattr_ok I2 ea c n l ry fun s3 I3=>⟨σ,_,I3,q2⟩
theorem ps_fldaug {op:Operator} {rd:V→V→Hp→VK→Prop} (ha:PE X o ta) (hv:PE X value tv) (hop:InOp X op rd):PS X (.AugAssign (.Attribute o f tpos) op value pos) (sFldAug X.K ta tv rd f):=by
  intro pins s σ H D I h
  refine wpAny_AugAssign_AttributeAny (thn (ha pins s σ H _ I h) fun ov s1 hh => ?_)
  obtain ⟨x,H1,I1,rx,a,C,dx,fs,v,ex,ea,c,n,l,q⟩:=hh
  subst ex
  obtain rfl:ov=Value.ref a:=rx
  refine getattr_ok I1 ea c n l fun u s2 I2 ru=>thn (hv pins s2 σ H1 _ I2 q) fun w3 s3 ⟨y,H2,I3,ry,q3⟩=>thn (hop pins s3 σ H2 v y u w3 _ I3 ru ry q3) fun w4 s4 hh => ?_
  obtain ⟨z,H3,I4,rz,dx',fs',ea',l',q4⟩:=hh
  exact setattr_ok I4 ea' c n l' rz fun s5 I5=>⟨σ,_,I5,q4⟩
inductive J_rAdd (x:V) (y:V) (H:Hp) (Q:VK):Prop
  | mk:∀ i j,(x = .int i)→(y = .int j)→(Q (.int (i+j)) H)→J_rAdd x y H Q
noncomputable def rAdd:V→V→Hp→VK→Prop:=fun x y H Q=>J_rAdd x y H Q
theorem in_add:InOp X .Add rAdd:=by
  rintro pins s σ H x y u v Q I rx ry ⟨i,j,rfl,rfl,q⟩
  obtain ⟨t,rfl⟩:=(show ∃ t,u=Value.int i t from rx)
  obtain ⟨t',rfl⟩:=(show ∃ t',v=Value.int j t' from ry)
  exact PyProof.Rows.iadd_int ⟨.int (i+j),H,I.tok _,⟨_,rfl⟩,q⟩

end

section
variable {X:Cx} {pins:List (Addr × Obj)} {σ : St} {H:Hp} {s:Shared} {A:Around} {E:Value→Shared→Prop} {Q:Value→Shared→Prop} {c:Value} {b:Bool}
inductive TyOf (K:PySem.W.Frag) (H:Hp):V→Value→Prop where
  | non:TyOf K H .non (.type "NoneType")
  | bl (x:Bool):TyOf K H (.bl x) (.type "bool")
  | int (i:Int):TyOf K H (.int i) (.type "int")
  | str (x:Str):TyOf K H (.str x) (.type "str")
  | flt (x:UInt64):TyOf K H (.flt x) (.type "float")
  | lst {a:Addr} {xs:List V} (e:H a=some (.lst xs)):TyOf K H (.ref a) (.type "list")
  | frz {a:Addr} {o:Obj} {xs:List V} (e:H a=some (.frz o (.lst xs))):TyOf K H (.ref a) (.type "list")
  | tup {a:Addr} {xs:List V} (e:H a=some (.tup xs)):TyOf K H (.ref a) (.type "tuple")
  | dK {a:Addr} {kvs:List (Key × V)} (e:H a=some (.dK kvs)):TyOf K H (.ref a) (.type "dict")
  | dT {a:Addr} {kvs:List (List Key × V)} (e:H a=some (.dT kvs)):TyOf K H (.ref a) (.type "dict")
  | ins {a C dx:Addr} {fs:List (Str × V)} (e:H a=some (.ins C dx fs)) (cl:Cls K C) (ha:PySem.W.findIn K (.ref C) "__class__" = some (some (.builtin "object.__class__")))
      (hn:PySem.W.specialIn K (.builtin "object.__class__") "__get__" = some (some (.builtin "getset_descriptor.__get__"))) (htk:PySem.W.takesIn K (.builtin "object.__class__")=some true)
      (hm:PySem.W.mroIn K C (.type "object")=some true):TyOf K H (.ref a) (.ref C)
theorem isinst_ok {x:V} {u t:Value} (I:Inv X pins σ H s) (rx:RelV x u) (ty:TyOf X.K H x t) (e:PySem.W.kitOne X.K t c=some b) (h:∀ tk,Q (.bool b) { s with toks:=tk }) :
    wpAny (model X.prog X.w) A (call (.builtin "isinstance") [u,c]) Q E s:=by
  cases ty with
  | non=>cases (show u=Value.none from rx);exact PySem.W.kia_one PySem.W.kitx_none I.kIn True.intro e (fun z=>nomatch z) h
  | bl y=>cases (show u=Value.bool y from rx);exact PySem.W.kia_one PySem.W.kitx_bool I.kIn True.intro e (fun z=>nomatch z) h
  | int i=>obtain ⟨t,q⟩:=(show ∃ t,u=Value.int i t from rx);cases q;exact PySem.W.kia_one PySem.W.kitx_int I.kIn True.intro e (fun z=>nomatch z) h
  | str y=>obtain ⟨t,q⟩:=(show ∃ t,u=Value.str y t from rx);cases q;exact PySem.W.kia_one PySem.W.kitx_str I.kIn True.intro e (fun z=>nomatch z) h
  | flt y=>obtain ⟨t,q⟩:=(show ∃ t,u=Value.float y t from rx);cases q;exact PySem.W.kia_one PySem.W.kitx_float I.kIn True.intro e (fun z=>nomatch z) h
  | @lst a xs ea =>
    cases (show u=Value.ref a from rx)
    obtain ⟨_,_,n,_,h1⟩:=(show ObjOk X.prog X.w H s.heap a (.lst xs) from I.hok a _ ea)
    exact PySem.W.kia_one PySem.W.kitx_list I.kIn ⟨_,h1,rfl⟩ e (fun z=>nomatch z) h
  | @frz a ob xs ea =>
    cases (show u=Value.ref a from rx)
    obtain ⟨_,_,_,n,_,h1⟩:=(show ObjOk X.prog X.w H s.heap a (.frz ob (.lst xs)) from I.hok a _ ea)
    exact PySem.W.kia_one PySem.W.kitx_list I.kIn ⟨_,h1,rfl⟩ e (fun z=>nomatch z) h
  | @tup a xs ea =>
    cases (show u=Value.ref a from rx)
    obtain ⟨_,_,_,p⟩:=(show ObjOk X.prog X.w H s.heap a (.tup xs) from I.hok a _ ea)
    obtain ⟨o,h1,h2,_⟩:=p
    exact PySem.W.kia_one PySem.W.kitx_tuple I.kIn ⟨o,h1,h2⟩ e (fun z=>nomatch z) h
  | @dK a kvs ea =>
    cases (show u=Value.ref a from rx)
    obtain ⟨_,_,vs,_,p⟩:=(show ObjOk X.prog X.w H s.heap a (.dK kvs) from I.hok a _ ea)
    obtain ⟨o,es,ep,h1,h2,_⟩:=p
    exact PySem.W.kia_one PySem.W.kitx_dict I.kIn ⟨o,h1,h2.1⟩ e (fun z=>nomatch z) h
  | @dT a kvs ea =>
    cases (show u=Value.ref a from rx)
    obtain ⟨_,_,xs,_,o,es,ep,h1,h2,_⟩:=(show ObjOk X.prog X.w H s.heap a (.dT kvs) from I.hok a _ ea)
    exact PySem.W.kia_one PySem.W.kitx_dict I.kIn ⟨o,h1,h2.1⟩ e (fun z=>nomatch z) h
  | @ins a C dx fs ea cl ha hn htk hm =>
    cases (show u=Value.ref a from rx)
    obtain ⟨mA,O,_⟩:=ins_get I.hok ea
    obtain ⟨od,J,_⟩:=O.look
    exact PySem.W.kia_one (PySem.W.kitx_own (cl.get _) cl.hd ha hn htk hm) I.kIn J e (fun z=>nomatch z) h
end
end L2

namespace L2
open PySem PySem.Spec PyProof.Rows

structure Room (k:Nat) (A:Around):Prop where
  hd:A.handled=none
  dp:A.depth+3 * k+5 < recursionLimit
  un:A.units+16 * k+200 < cLine
theorem Room.mono {j k:Nat} {A:Around} (r:Room k A) (h:j≤k):Room j A:=⟨r.hd,by have:=r.dp;omega,by have:=r.un;omega⟩
theorem Room.deeper {k:Nat} {A:Around} (r:Room (k+1) A) (env:Env):Room k (A.deeper env) :=
  ⟨r.hd,by have:=r.dp;show A.depth+1+3 * k+5 < _;omega,by have:=r.un;show A.units+3+16 * k+200 < _;omega⟩
theorem make_depth {A:Around} {C:Addr} {us:List Value} {kw:List (Str × Value)}:(A.under (.builtin "type.__call__" ⟨.ref C :: us,kw⟩)).depth=A.depth+1:=by
  first | rfl | simp [Around.under,Code.weight,Code.isCreation,Code.isGuard,Code.isCaller,Code.frames,Code.isFrame,guardIds]
theorem make_units {A:Around} {C:Addr} {us:List Value} {kw:List (Str × Value)}:(A.under (.builtin "type.__call__" ⟨.ref C :: us,kw⟩)).units=A.units+1:=by
  first | rfl | simp [Around.under,Code.cUnits,Code.frames,Code.isFrame]
theorem Room.make {k:Nat} {A:Around} (r:Room (k+1) A) (C:Addr) (us:List Value) (kw:List (Str × Value)):Room k (A.under (.builtin "type.__call__" ⟨.ref C :: us,kw⟩)) :=
  ⟨r.hd,by have:=r.dp;rw [make_depth];omega,by have:=r.un;rw [make_units];omega⟩
theorem Room.depth {k:Nat} {A:Around} (r:Room k A):A.depth < recursionLimit:=by have:=r.dp;omega
theorem Room.units {k:Nat} {A:Around} (r:Room k A):A.units+64 < cLine:=by have:=r.un;omega
theorem Room.units0 {k:Nat} {A:Around} (r:Room k A):A.units < cLine:=by have:=r.un;omega

noncomputable def tNil:TA:=fun _ H Q=>Q [] H
noncomputable def tCons (ta:TE) (tr:TA):TA:=fun σ H Q=>ta σ H fun x H1=>tr σ H1 fun xs H2=>Q (x :: xs) H2
section
variable {X:Cx} {e:Expr} {es:List Expr} {te:TE} {t:TA} {pos:Pos}
theorem pa_nil:PA X [] tNil:=fun _ _ _ _ H Q I h=>Calls.spliced_nil ⟨[],H,I,.nil,h⟩
theorem pa_cons (ha:PE X e te) (hr:PA X es t) (hs:starEach (e :: es) X.env=(false,eval e X.env) :: starEach es X.env:=by rfl):PA X (e :: es) (tCons te t):=by
  intro pos pins s σ H Q I h
  rw [hs]
  show wpAny _ _ (spliced ((false,eval e X.env) :: backTo pos (starEach es X.env))) _ _ s
  refine Calls.spliced_cons (thn (ha pins s σ H _ I h) fun u s1 ⟨x,H1,I1,r1,q1⟩ => ?_)
  exact thn (hr pos pins s1 σ H1 _ I1 q1) fun us s2 ⟨xs,H2,I2,r2,q2⟩=>⟨x :: xs,H2,I2,.cons r1 r2,q2⟩

noncomputable def tTup (t:TA):TE:=fun σ H Q=>t σ H fun xs H1=>xs.length≤sizeLine∧∀ p,H1 p=none→Q (.ref p) (upd H1 p (.tup xs))
noncomputable def tLst (t:TA):TE:=fun σ H Q=>t σ H fun xs H1=>xs.length≤sizeLine∧∀ p,H1 p=none→Q (.ref p) (upd H1 p (.lst xs))
theorem pe_tup {x1} (h:PA X es t):PE X (.Tuple es x1 pos) (tTup t):=by
  intro pins s σ H Q I hq
  refine wpAny_Tuple_spliced (thn (h pos pins s σ H _ I hq) fun us s1 ⟨xs,H1,I1,r,z,q⟩=>⟨by rw [← r.length];exact z,?_⟩)
  have hf:H1 s1.heap.objs.size=none:=I1.hok.fresh (Nat.le_refl _)
  refine ⟨.ref s1.heap.objs.size,upd H1 s1.heap.objs.size (.tup xs),I1.laid (t':=s1.toks) (fun b u e=>Heap.get?_push_of_some _ e) (Nat.le_refl _) ?_,rfl,q _ hf⟩
  exact ⟨z,us,r,⟨_,Heap.get?_push_size _ rfl,rfl,_,rfl,rfl⟩⟩
theorem pe_lst (h:PA X es t):PE X (.List es pos) (tLst t):=by
  intro pins s σ H Q I hq
  refine wpAny_List_spliced (thn (h pos pins s σ H _ I hq) fun us s1 ⟨xs,H1,I1,r,z,q⟩=>⟨by rw [← r.length];exact z,?_⟩)
  have hf:H1 s1.heap.objs.size=none:=I1.hok.fresh (Nat.le_refl _)
  refine ⟨.ref s1.heap.objs.size,upd H1 s1.heap.objs.size (.lst xs),I1.laid (t':=s1.toks) (fun b u e=>Heap.get?_push_of_some _ e) (Nat.le_refl _) ?_,rfl,q _ hf⟩
  exact ⟨z,us,0,r,Heap.get?_push_size _ rfl⟩
end

noncomputable abbrev Sp:=List V→Hp→VK→XK→Prop
noncomputable abbrev CXT:=List Env→Hp→Shared→XK→Value→Shared→Prop

structure Env0 (P:Program) (w:World) (K:PySem.W.Frag) (mg:Str→Option Value) (base:Heap) (A:Around) (outer:List Env) (s:Shared) (H:Hp):Prop where
  frames:A.frames=some outer
  mod:Mod K mg base
  bs:∀ b o,base.get? b=some o→s.heap.get? b=some o∧H b=none
  bsz:base.objs.size≤s.heap.objs.size
  funs:s.heap.FunFrames base outer
  frf:∀ b∈frs outer,H b=none
  hok:HOk P w H s.heap
  bare:AllBare s.gens
noncomputable def CE (outer:List Env) (P:Program) (w:World) (H:Hp) (s:Shared) (Q:VK) (u:Value) (s':Shared):Prop :=
  ∃ v H',s'.os=s.os∧AllBare s'.gens∧Un (frs outer) [] H H' s.heap s'.heap∧HOk P w H' s'.heap∧RelV v u∧Q v H'
noncomputable def CR (CX:CXT) (outer:List Env) (P:Program) (w:World) (H:Hp) (s:Shared) (Q:VK) (E:XK) (r:Result) (s':Shared):Prop :=
  match r with
  | .ok (.ret u)=>CE outer P w H s Q u s'
  | .ok _=>False
  | .error e=>CX outer H s E e s'
structure FnOk (P:Program) (w:World) (K:PySem.W.Frag) (mg:Str→Option Value) (base:Heap) (CX:CXT) (k:Nat) (f:Addr) (fd:FuncData) (ps:List Str) (sp:Sp):Prop where
  len:∀ vs H Q E,sp vs H Q E→vs.length=ps.length
  run:∀ (A:Around) (outer:List Env) (s:Shared) (H:Hp) (args:Args) (us:List Value) (vs:List V) (Q:VK) (E:XK),Room k A→Env0 P w K mg base A outer s H→BindsTo s fd args (ps.zip us)→Vals vs us→sp vs H Q E →
    codeAny (model P w) A (.call (.ref f) args) (CR CX outer P w H s Q E) s

theorem Env0.make {P:Program} {w:World} {K:PySem.W.Frag} {mg:Str→Option Value} {base:Heap} {A:Around} {outer:List Env} {s:Shared} {H:Hp} (e:Env0 P w K mg base A outer s H) (C:Addr) (us:List Value) (kw:List (Str × Value)) :
    Env0 P w K mg base (A.under (.builtin "type.__call__" ⟨.ref C :: us,kw⟩)) outer s H:=⟨by first | exact e.frames | (simpa [Around.under,Code.envs,Code.isFrame,pushEnvs] using e.frames),e.mod,e.bs,e.bsz,e.funs,e.frf,e.hok,e.bare⟩

section
variable {X:Cx} {pins:List (Addr × Obj)} {σ : St} {H:Hp} {s s':Shared}
theorem Inv.env0 (I:Inv X pins σ H s):Env0 X.prog X.w X.K X.mg X.base X.A X.stack s H :=
  ⟨I.ok.frames,I.ok.mod,I.bs,Nat.le_trans I.ok.bsz I.sz,I.stack,I.stkFree,I.hok,I.bare⟩
theorem Inv.after {Q:VK} {u:Value} (I:Inv X pins σ H s) (h:CE X.stack X.prog X.w H s Q u s'):EP X pins σ Q u s':=by
  obtain ⟨v,H',os,bare,un,hok,r,q⟩:=h
  obtain ⟨hh,g,d,t,os'⟩:=s'
  obtain rfl:os'=s.os:=os
  exact ⟨v,H',I.call (h':=hh) (g':=g) (d':=d) (t':=t) (ch := []) un hok bare (fun b z=>absurd z (by simp)),r,q⟩
end

noncomputable def tCall (sp:Sp) (dvs:List V) (E:XK) (t:TA):TE:=fun σ H Q=>t σ H fun vs H1=>sp (vs ++ dvs) H1 Q E
inductive J_tMeth (C:Addr) (m:Str) (sp:Sp) (dvs:List V) (E:XK) (t:TA) (σ : St) (Q:VK) (x:V) (H1:Hp):Prop
  | mk:∀ a dx fs,(x = .ref a)→(H1 a=some (.ins C dx fs))→(fs.lookup m=none)→(t σ H1 fun vs H2=>sp (x :: (vs ++ dvs)) H2 Q E)→J_tMeth C m sp dvs E t σ Q x H1
noncomputable def tMeth (C:Addr) (m:Str) (sp:Sp) (dvs:List V) (E:XK) (ta:TE) (t:TA):TE:=fun σ H Q=>ta σ H fun x H1=>J_tMeth C m sp dvs E t σ Q x H1
noncomputable def tMake (C:Addr) (sp:Sp) (dvs:List V) (E:XK) (t:TA):TE:=fun σ H Q=>t σ H fun vs H1=>∀ x dx,H1 x=none→H1 dx=none→dx≠x →
  sp (.ref x :: (vs ++ dvs)) (upd (upd H1 dx (.own x)) x (.ins C dx [])) (fun v H2=>v = .non∧Q (.ref x) H2) E

noncomputable def Binds (K:PySem.W.Frag) (fd:FuncData) (ps:List Str) (ds:List Value):Prop :=
  ∀ (s:Shared) (us:List Value),K.In s.heap→(us ++ ds).length=ps.length→BindsTo s fd ⟨us, []⟩ (ps.zip (us ++ ds))
theorem Binds.all {K:PySem.W.Frag} {fd:FuncData} {ps:List Str} (h:∀ us:List Value,us.length=ps.length→bindArgs fd ⟨us, []⟩=pure (ps.zip us)):Binds K fd ps []:=fun s us _ hl=>by
  rw [List.append_nil] at hl ⊢
  exact .of_eq (h us hl)

noncomputable def Passes (CX:CXT) (X:Cx) (E:XK):Prop := ∀ (pins:List (Addr × Obj)) (σ : St) (H:Hp) (s:Shared) (e:Value) (s':Shared),Inv X pins σ H s→CX X.stack H s E e s'→X.xe e s'

section
variable {X:Cx} {CX:CXT} {k:Nat} {f C:Addr} {fd:FuncData} {ps:List Str} {sp:Sp} {dvs:List V} {ds:List Value} {E:XK} {x m:Str} {p pos apos:Pos} {e o:Expr} {es:List Expr} {ta:TE} {t:TA}

theorem run_fn {pins:List (Addr × Obj)} {σ : St} {H:Hp} {s:Shared} {Q:VK} {us:List Value} {vs:List V} (F:FnOk X.prog X.w X.K X.mg X.base CX k f fd ps sp) (hr:Room k X.A) (hb:Binds X.K fd ps ds) (hd:Vals dvs ds) (hx:Passes CX X E)
    (I:Inv X pins σ H s) (r:Vals vs us) (h:sp (vs ++ dvs) H Q E):wpAny (model X.prog X.w) X.A (call (.ref f) us) (EP X pins σ Q) X.xe s:=by
  have r2:Vals (vs ++ dvs) (us ++ ds):=r.append hd
  have hl:(us ++ ds).length=ps.length:=by rw [← r2.length];exact F.len _ _ _ _ h
  refine wpAny_call (codeAny_mono (F.run X.A X.stack s H ⟨us, []⟩ (us ++ ds) (vs ++ dvs) Q E hr I.env0 (hb s us I.kIn hl) r2 h) fun r s' hq => ?_)
  cases r with
  | error e=>exact hx pins σ H s e s' I hq
  | ok fl =>
    cases fl with
    | ret u=>exact I.after hq
    | next=>exact False.elim hq
    | brk=>exact False.elim hq
    | cont=>exact False.elim hq

theorem pe_call (F:FnOk X.prog X.w X.K X.mg X.base CX k f fd ps sp) (hr:Room k X.A) (hg:Gl X x) (hm:X.mg x=some (.ref f)) (hk:PySem.W.keepIn X.K (.ref f)=true) (hb:Binds X.K fd ps ds) (hd:Vals dvs ds) (hx:Passes CX X E)
    (ha:PA X (e :: es) t) (hdb:(x == ("__debug__" : Str))=false:=by decide) (he:starEach (e :: es) X.env=(false,eval e X.env) :: starEach es X.env:=by rfl) (hpl:(backTo pos (starEach es X.env)).any (·.1)=false:=by rfl) :
    PE X (.Call (.Name x p) (e :: es) [] pos) (tCall sp dvs E t):=by
  intro pins s σ H Q I h
  refine wpAny_Call_Name_kw (ld_glob I hg hm ?_ hdb)
  refine PySem.W.callWith_K (h₀ := X.base) I.ok.mod.kin hk (thn (ha pos pins s σ H _ I h) fun us s1 ⟨vs,H1,I1,r,q⟩=>⟨I1.kIn,?_⟩) he hpl
  exact run_fn F hr hb hd hx I1 r q

theorem pe_meth {pl:Sem Bool} (he:PE X o ta) (c:Cls X.K C) (hm:Meth X.K C m f) (F:FnOk X.prog X.w X.K X.mg X.base CX k f fd ps sp) (hr:Room k X.A) (hb:Binds X.K fd ps ds) (hd:Vals dvs ds) (hx:Passes CX X E) (ha:PA X (e :: es) t)
    (hst:starEach (e :: es) X.env=(false,eval e X.env) :: starEach es X.env:=by rfl) (hpl:(backTo pos (starEach es X.env)).any (·.1)=false:=by rfl)
    (ht:eval (.Call (.Attribute o m apos) (e :: es) [] pos) X.env=(do
      let ov ← eval o X.env
      standAt apos.atName
      let (f,first) ← holding [ov] (getMethod ov m pl)
      callWith pos f first (backTo pos (starEach (e :: es) X.env)) (backToKw pos (keywordEach [] X.env))):=by rfl) :
    PE X (.Call (.Attribute o m apos) (e :: es) [] pos) (tMeth C m sp dvs E ta t):=by
  intro pins s σ H Q I h
  refine PySem.W.methodCall_KW (pl:=pl) (thn (he pins s σ H _ I h) fun u s1 ⟨x,H1,I1,rx,a,dx,fs,ex,ea,l,q⟩ => ?_) ht
  subst ex
  obtain rfl:u=Value.ref a:=rx
  refine getmeth_ok I1 ea c hm l ?_
  refine PySem.W.callWith_K (first := [.ref a]) (h₀ := X.base) I.ok.mod.kin hm.kp (thn (ha pos pins s1 σ H1 _ I1 q) fun us s2 ⟨vs,H2,I2,r,q2⟩=>⟨I2.kIn,?_⟩) hst hpl
  exact run_fn (us := .ref a :: us) (vs := .ref a :: vs) F hr hb hd hx I2 (.cons rfl r) q2
theorem pe_meth0 {pl:Sem Bool} (he:PE X o ta) (c:Cls X.K C) (hm:Meth X.K C m f) (F:FnOk X.prog X.w X.K X.mg X.base CX k f fd ps sp) (hr:Room k X.A) (hb:Binds X.K fd ps ds) (hd:Vals dvs ds) (hx:Passes CX X E)
    (ht:eval (.Call (.Attribute o m apos) [] [] pos) X.env=(do
      let ov ← eval o X.env
      standAt apos.atName
      let (f,first) ← holding [ov] (getMethod ov m pl)
      callWith pos f first (backTo pos (starEach [] X.env)) (backToKw pos (keywordEach [] X.env))):=by rfl) :
    PE X (.Call (.Attribute o m apos) [] [] pos) (tMeth C m sp dvs E ta tNil):=by
  intro pins s σ H Q I h
  refine PySem.W.methodCall_KW (pl:=pl) (thn (he pins s σ H _ I h) fun u s1 ⟨x,H1,I1,rx,a,dx,fs,ex,ea,l,q⟩ => ?_) ht
  subst ex
  obtain rfl:u=Value.ref a:=rx
  refine getmeth_ok I1 ea c hm l ?_
  exact PySem.W.callWith_K0 (first := [.ref a]) I1.kIn hm.kp (run_fn (us := [.ref a]) (vs := [.ref a]) F hr hb hd hx I1 (.cons rfl .nil) q)

structure Mk (K:PySem.W.Frag) (C f:Addr):Prop where
  makes:PySem.W.makesIn K C=true
  init:PySem.W.findIn K (.ref C) "__init__" = some (some (.ref f))
  fn:PySem.W.isFn K (.ref f)=true
  kp:PySem.W.keepIn K (.ref C)=true

theorem run_make {pins:List (Addr × Obj)} {σ : St} {H:Hp} {s:Shared} {Q:VK} {us:List Value} {vs:List V} (M:Mk X.K C f) (F:FnOk X.prog X.w X.K X.mg X.base CX k f fd ps sp) (hr:Room (k+1) X.A) (hb:Binds X.K fd ps ds) (hd:Vals dvs ds)
    (hx:Passes CX X E) (I:Inv X pins σ H s) (r:Vals vs us)
    (h:∀ x dx,H x=none→H dx=none→dx≠x→sp (.ref x :: (vs ++ dvs)) (upd (upd H dx (.own x)) x (.ins C dx [])) (fun v H2=>v = .non∧Q (.ref x) H2) E) :
    wpAny (model X.prog X.w) X.A (call (.ref C) us) (EP X pins σ Q) X.xe s:=by
  have hq:=h (s.heap.objs.size+1) s.heap.objs.size (I.hok.fresh (Nat.le_succ _)) (I.hok.fresh (Nat.le_refl _)) (Nat.ne_of_lt (Nat.lt_succ_self _))
  have I2:=Inv.made (C:=C) I
  have r2:Vals (V.ref (s.heap.objs.size+1) :: (vs ++ dvs)) (Value.ref (s.heap.objs.size+1) :: (us ++ ds)) := .cons rfl (r.append hd)
  have hl:(Value.ref (s.heap.objs.size+1) :: us ++ ds).length=ps.length:=by
    have e:=r2.length
    rw [F.len _ _ _ _ hq] at e
    exact e.symm
  refine wpAny_call (make_map (f:=f) I.kIn M.makes M.init (beq_iff_eq.mp M.fn) (codeAny_mono (F.run _ X.stack _ _ ⟨Value.ref (s.heap.objs.size+1) :: us, []⟩ (Value.ref (s.heap.objs.size+1) :: (us ++ ds)) _ _ E (hr.make C us [])
    (I2.env0.make C us []) (hb _ (Value.ref (s.heap.objs.size+1) :: us) I2.kIn hl) r2 hq) fun r s' hq' => ?_))
  cases r with
  | error e=>exact hx pins σ _ _ e s' I2 hq'
  | ok fl =>
    cases fl with
    | ret u =>
      obtain ⟨v,H',I3,rv,ev,q3⟩:=I2.after hq'
      subst ev
      exact ⟨rv,⟨V.ref (s.heap.objs.size+1),H',I3,rfl,q3⟩⟩
    | next=>exact False.elim hq'
    | brk=>exact False.elim hq'
    | cont=>exact False.elim hq'
theorem pe_make (M:Mk X.K C f) (F:FnOk X.prog X.w X.K X.mg X.base CX k f fd ps sp) (hr:Room (k+1) X.A) (hg:Gl X x) (hm:X.mg x=some (.ref C)) (hb:Binds X.K fd ps ds) (hd:Vals dvs ds) (hx:Passes CX X E)
    (ha:PA X (e :: es) t) (hdb:(x == ("__debug__" : Str))=false:=by decide) (he:starEach (e :: es) X.env=(false,eval e X.env) :: starEach es X.env:=by rfl) (hpl:(backTo pos (starEach es X.env)).any (·.1)=false:=by rfl) :
    PE X (.Call (.Name x p) (e :: es) [] pos) (tMake C sp dvs E t):=by
  intro pins s σ H Q I h
  refine wpAny_Call_Name_kw (ld_glob I hg hm ?_ hdb)
  refine PySem.W.callWith_K (h₀ := X.base) I.ok.mod.kin M.kp (thn (ha pos pins s σ H _ I h) fun us s1 ⟨vs,H1,I1,r,q⟩=>⟨I1.kIn,?_⟩) he hpl
  exact run_make M F hr hb hd hx I1 r q
end

noncomputable def PK (X:Cx) (kws:List Keyword) (t:TA):Prop :=
  ∀ (pos:Pos) (pins:List (Addr × Obj)) (s:Shared) (σ : St) (H:Hp) (Q:List V→Hp→Prop),Inv X pins σ H s→t σ H Q→wpAny (model X.prog X.w) X.A (evalAll ((backToKw pos (keywordEach kws X.env)).map (·.2))) (AP X pins σ Q) X.xe s
section
variable {X:Cx} {CX:CXT} {k:Nat} {f C:Addr} {fd:FuncData} {ps ks:List Str} {sp:Sp} {E:XK} {x m:Str} {p pos apos kpos:Pos} {e o:Expr} {es:List Expr} {kws:List Keyword} {te ta:TE} {t tk:TA} {nm:Option Str}
theorem pk_nil:PK X [] tNil:=fun _ _ _ _ H Q I h=>wpAny_evalAll_nil ⟨[],H,I,.nil,h⟩
theorem pk_cons (ha:PE X e te) (hr:PK X kws t):PK X (⟨nm,e,kpos⟩ :: kws) (tCons te t):=by
  intro pos pins s σ H Q I h
  show wpAny _ _ (evalAll ((do let v ← eval e X.env;standAt pos;pure v) :: (backToKw pos (keywordEach kws X.env)).map (·.2))) _ _ s
  refine wpAny_evalAll_cons (wpAny_bind (thn (ha pins s σ H _ I h) fun u s1 ⟨x,H1,I1,r1,q1⟩=>wpAny_bind (wpAny_standAt (wpAny_pure ?_))))
  exact thn (hr pos pins s1 σ H1 _ I1 q1) fun us s2 ⟨xs,H2,I2,r2,q2⟩=>⟨x :: xs,H2,I2,.cons r1 r2,q2⟩

structure KBinds (K:PySem.W.Frag) (fd:FuncData) (ps ks:List Str) (g:List Value→List Value→List Value) (gV:List V→List V→List V):Prop where
  to:∀ (s:Shared) (us ws:List Value),K.In s.heap→(g us ws).length=ps.length→BindsTo s fd ⟨us,ks.zip ws⟩ (ps.zip (g us ws))
  rel:∀ {vs:List V} {us:List Value} {zs:List V} {ws:List Value},Vals vs us→Vals zs ws→Vals (gV vs zs) (g us ws)
noncomputable def tCallK (sp:Sp) (gV:List V→List V→List V) (E:XK) (t tk:TA):TE:=fun σ H Q=>t σ H fun vs H1=>tk σ H1 fun zs H2=>sp (gV vs zs) H2 Q E
variable {g:List Value→List Value→List Value} {gV:List V→List V→List V}
theorem run_fnk {pins:List (Addr × Obj)} {σ : St} {H:Hp} {s:Shared} {Q:VK} {us ws:List Value} {vs zs:List V} (F:FnOk X.prog X.w X.K X.mg X.base CX k f fd ps sp) (hr:Room k X.A) (hb:KBinds X.K fd ps ks g gV) (hx:Passes CX X E)
    (I:Inv X pins σ H s) (r:Vals vs us) (rz:Vals zs ws) (h:sp (gV vs zs) H Q E):wpAny (model X.prog X.w) X.A (call (.ref f) us (ks.zip ws)) (EP X pins σ Q) X.xe s:=by
  have r2:=hb.rel r rz
  have hl:(g us ws).length=ps.length:=by rw [← r2.length];exact F.len _ _ _ _ h
  refine wpAny_call (codeAny_mono (F.run X.A X.stack s H ⟨us,ks.zip ws⟩ (g us ws) (gV vs zs) Q E hr I.env0 (hb.to s us ws I.kIn hl) r2 h) fun r s' hq => ?_)
  cases r with
  | error e=>exact hx pins σ H s e s' I hq
  | ok fl =>
    cases fl with
    | ret u=>exact I.after hq
    | next=>exact False.elim hq
    | brk=>exact False.elim hq
    | cont=>exact False.elim hq
theorem pe_callK (F:FnOk X.prog X.w X.K X.mg X.base CX k f fd ps sp) (hr:Room k X.A) (hg:Gl X x) (hm:X.mg x=some (.ref f)) (hk:PySem.W.keepIn X.K (.ref f)=true) (hb:KBinds X.K fd ps ks g gV) (hx:Passes CX X E)
    (ha:PA X (e :: es) t) (hkw:PK X kws tk) (hall:(backToKw pos (keywordEach kws X.env)).all (·.1.isSome)=true:=by rfl) (hks:(backToKw pos (keywordEach kws X.env)).filterMap (·.1)=ks:=by rfl)
    (hdb:(x == ("__debug__" : Str))=false:=by decide) (he:starEach (e :: es) X.env=(false,eval e X.env) :: starEach es X.env:=by rfl)
    (hpl:((backTo pos (starEach (e :: es) X.env)).any (·.1) || (backToKw pos (keywordEach kws X.env)).any (·.1.isNone))=false:=by rfl) :
    PE X (.Call (.Name x p) (e :: es) kws pos) (tCallK sp gV E t tk):=by
  intro pins s σ H Q I h
  refine wpAny_Call_Name_kw (ld_glob I hg hm ?_ hdb)
  refine PySem.W.callWith_KW (h₀ := X.base) I.ok.mod.kin hk hall (thn (ha pos pins s σ H _ I h) fun us s1 ⟨vs,H1,I1,r,q⟩ => ?_) hpl he
  refine thn (hkw pos pins s1 σ H1 _ I1 q) fun ws s2 ⟨zs,H2,I2,rz,q2⟩=>⟨I2.kIn,?_⟩
  rw [hks]
  exact run_fnk F hr hb hx I2 r rz q2
end

structure FnScope (N P:List Str) (sc:Scope):Prop where
  kind:sc.kind = .function
  co:sc.isCoroutine=false
  gen:sc.isGenerator=false
  nd:N.Nodup
  pre:N.take P.length=P
  par:∀ x∈P,sc.names.lookup x=some .local∨sc.names.lookup x=some .cell
  nofree:∀ y∈sc.names,y.2 ≠ .free

theorem bindL_out {kindOf:Str→Option NameKind} {x:Str}:∀ {binds:List (Str × Value)} {m:Str→Option Value},(∀ v,(x,v) ∉ binds)→bindL kindOf binds m x=m x
  | [],_,_=>rfl
  | (n,v) :: r,m,h=>by
    unfold bindL
    rw [bindL_out fun w hw=>h w (List.mem_cons_of_mem _ hw)]
    split
    · have:x≠n:=by rintro rfl;exact h v List.mem_cons_self
      simp [this]
    · rfl
theorem bindC_out {kindOf:Str→Option NameKind} {x:Str}:∀ {binds:List (Str × Value)} {m:Str→Option Value},(∀ v,(x,v) ∉ binds)→bindC kindOf binds m x=m x
  | [],_,_=>rfl
  | (n,v) :: r,m,h=>by
    unfold bindC
    rw [bindC_out fun w hw=>h w (List.mem_cons_of_mem _ hw)]
    split
    · rfl
    · have:x≠n:=by rintro rfl;exact h v List.mem_cons_self
      simp [this]
theorem bindL_get {kindOf:Str→Option NameKind} {x:Str} {v:Value}:∀ {P:List Str} {vs:List Value} {i:Nat} {m:Str→Option Value},P.Nodup→P[i]? = some x→vs[i]? = some v→kindOf x=some .local →
    bindL kindOf (P.zip vs) m x=some v
  | [],_,_,_,_,h,_,_=>by simp at h
  | _ :: _, [],_,_,_,_,h,_=>by simp at h
  | p :: P,w :: vs,0,m,nd,h1,h2,hk=>by
    simp at h1 h2;subst h1;subst h2
    show bindL kindOf ((p,w) :: P.zip vs) m p=_
    unfold bindL
    rw [bindL_out fun v hv=>(List.nodup_cons.mp nd).1 (List.of_mem_zip hv).1,if_pos hk]
    simp
  | p :: P,w :: vs,i+1,m,nd,h1,h2,hk=>by
    show bindL kindOf ((p,w) :: P.zip vs) m x=_
    unfold bindL
    exact bindL_get (i:=i) (List.nodup_cons.mp nd).2 (by simpa using h1) (by simpa using h2) hk
theorem bindC_get {kindOf:Str→Option NameKind} {x:Str} {v:Value}:∀ {P:List Str} {vs:List Value} {i:Nat} {m:Str→Option Value},P.Nodup→P[i]? = some x→vs[i]? = some v→kindOf x≠some .local →
    bindC kindOf (P.zip vs) m x=some v
  | [],_,_,_,_,h,_,_=>by simp at h
  | _ :: _, [],_,_,_,_,h,_=>by simp at h
  | p :: P,w :: vs,0,m,nd,h1,h2,hk=>by
    simp at h1 h2;subst h1;subst h2
    show bindC kindOf ((p,w) :: P.zip vs) m p=_
    unfold bindC
    rw [bindC_out fun v hv=>(List.nodup_cons.mp nd).1 (List.of_mem_zip hv).1,if_neg hk]
    simp
  | p :: P,w :: vs,i+1,m,nd,h1,h2,hk=>by
    show bindC kindOf ((p,w) :: P.zip vs) m x=_
    unfold bindC
    exact bindC_get (i:=i) (List.nodup_cons.mp nd).2 (by simpa using h1) (by simpa using h2) hk

noncomputable def start (N:List Str) (vs:List V):St:=vs.map some ++ List.replicate (N.length - vs.length) none

noncomputable def cxOf (CX:CXT) (P:Program) (w:World) (K:PySem.W.Frag) (mg:Str→Option Value) (base:Heap) (N:List Str) (qual:Str) (scope:Scope) (f:Addr) (cd:Value) (A:Around) (outer:List Env) (s:Shared) (H:Hp) (E:XK):Cx where
  prog:=P
  w:=w
  K:=K
  mg:=mg
  base:=base
  A:=A.deeper (envOfC qual scope s.heap.objs.size f cd)
  N:=N
  s₀ := s
  H₀ := H
  env:=envOfC qual scope s.heap.objs.size f cd
  outer:=outer
  stack:=envOfC qual scope s.heap.objs.size f cd :: outer
  ex := []
  calm:=true
  fn:=fun _=>true
  pn := []
  xe:=fun e s'=>wpAny (model P w) (A.deeper (envOfC qual scope s.heap.objs.size f cd)) (leaving (envOfC qual scope s.heap.objs.size f cd) e) (fun _ s''=>CX outer H s E e s'') (fun e' s''=>CX outer H s E e' s'') s'

theorem cell_has {sc:Scope} {n:Nat} {x:Str} (h:sc.names.lookup x=some .cell):∃ c,(cellsFrom n sc.names []).lookup x=some c:=by
  have q:=PySem.W.cellsFrom_some sc.names n [] (.inl h)
  exact Option.isSome_iff_exists.mp q

theorem inv_start {CX:CXT} {P:Program} {w:World} {K:PySem.W.Frag} {mg:Str→Option Value} {base:Heap} {N ps:List Str} {qual:Str} {scope:Scope} {f:Addr} {cd:Value} {A:Around} {outer:List Env} {s s1:Shared} {H:Hp} {E:XK} {us:List Value} {vs:List V}
    (S:FnScope N ps scope) (hd:A.handled=none) (e0:Env0 P w K mg base A outer s H) (hl:vs.length=ps.length) (r:Vals vs us)
    (x:InCallC s s.heap.objs.size (bindL (envOfC qual scope s.heap.objs.size f cd).kindOf (ps.zip us) fun _=>none) (cellsFrom (s.heap.objs.size+1) scope.names []) (bindC (envOfC qual scope s.heap.objs.size f cd).kindOf (ps.zip us) fun _=>none) s1) :
    Inv (cxOf CX P w K mg base N qual scope f cd A outer s H E) [] (start N vs) H s1:=by
  have hpl:ps.length≤N.length:=by have:=congrArg List.length S.pre;rw [List.length_take] at this;omega
  obtain ⟨h1,tk,rfl,hk⟩:=x.done
  have noA:∀ b:Addr,b ∉ (cxOf CX P w K mg base N qual scope f cd A outer s H E).ex:=fun b z=>absurd (show b∈([]:List Addr) from z) (by simp)
  refine ⟨⟨e0.mod,S.kind,rfl,rfl,Nat.le_refl _,fun y z c h1 h2 => ?_,fun y hy => ?_,fun y c _ h => ?_,fun _=>hd,Around.frames_deeper e0.frames,.inr ⟨rfl,rfl⟩,fun b z=>absurd z (noA b),e0.bs,e0.bsz,fun b _ _=>noA b,fun b z=>absurd z (noA b),e0.funs,e0.frf⟩,
    rfl,e0.bare,Un.kept hk,⟨_,x.toInCall.ns,fun i y v h1 h2 h3 => ?_⟩,fun y c h=>⟨_,x.cell y c h⟩,e0.hok.fresh (Nat.le_refl _),fun y c h => ?_,fun p hp=>absurd (show p∈([]:List (Addr × Obj)) from hp) (by simp),e0.hok.kept hk,?_⟩
  · exact name_of_addr x.apart (PySem.mem_of_lookup h1) (PySem.mem_of_lookup h2)
  · have hy:scope.names.lookup y=some .cell∨scope.names.lookup y=some .free:=hy
    rcases hy with hy | hy
    · exact cell_has hy
    · exact absurd rfl (S.nofree _ (PySem.mem_of_lookup hy))
  · exact Nat.le_of_lt (x.above y c (PySem.mem_of_lookup h))
  · have hi:i < vs.length:=by
      unfold start at h2
      by_cases hi:i < vs.length
      · exact hi
      · rw [List.getElem?_append_right (by simpa using hi)] at h2
        rw [List.getElem?_replicate] at h2
        split at h2 <;> cases h2
    have ha:vs[i]? = some v:=by
      unfold start at h2
      rw [List.getElem?_append_left (by simpa using hi),List.getElem?_map] at h2
      cases e:vs[i]? with
      | none=>rw [e] at h2;cases h2
      | some a=>rw [e] at h2;cases h2;rfl
    obtain ⟨u,hu,rv⟩:=r.get ha
    have hp:ps[i]? = some y:=by
      rw [← S.pre,List.getElem?_take_of_lt (by omega)];exact h1
    have ndP:ps.Nodup:=by rw [← S.pre];exact S.nd.sublist (List.take_sublist _ _)
    refine ⟨u,rv,?_⟩
    rcases S.par y (List.mem_of_getElem? hp) with k | k
    · exact .inl ⟨k,bindL_get ndP hp hu k⟩
    · obtain ⟨c,e⟩:=cell_has (n:=s.heap.objs.size+1) k
      refine .inr ⟨.inl k,c,e,?_⟩
      have q:=x.cell y c e
      rw [bindC_get ndP hp hu (by show scope.names.lookup y≠_;rw [k];decide)] at q
      exact q
  · exact e0.hok.fresh (Nat.le_of_lt (x.above y c (PySem.mem_of_lookup h)))
  · unfold start
    show _=N.length
    rw [List.length_append,List.length_map,List.length_replicate]
    omega

theorem fn_of {CX:CXT} {P:Program} {w:World} {K:PySem.W.Frag} {mg:Str→Option Value} {base:Heap} {k:Nat} {f:Addr} {name qual:Str} {params:Arguments} {body:List Stmt} {scope:Scope} {dV kV doc pm cdv ct oc:Value} {an od:Option Addr}
    {osl:Array (Option Value)} {N ps:List Str} {sp:Sp} (lk:K.lookup f=some ⟨oc,od,.func (PySem.W.fnOf name qual params body scope dV kV doc pm an cdv ct),osl⟩) (hcd:PySem.W.codeIn K cdv qual=true) (S:FnScope N ps scope)
    (len:∀ vs H Q E,sp vs H Q E→vs.length=ps.length)
    (hbody:∀ (A:Around) (outer:List Env) (s:Shared) (H:Hp) (vs:List V) (Q:VK) (E:XK),Room k (A.deeper (envOfC qual scope s.heap.objs.size f cdv))→sp vs H Q E →
      ∃ t,PSs (cxOf CX P w K mg base N qual scope f cdv A outer s H E) body t∧t { nx:=fun _ H'=>Q .non H',rt:=Q } (start N vs) H) :
    FnOk P w K mg base CX (k+1) f (PySem.W.fnOf name qual params body scope dV kV doc pm an cdv ct) ps sp:=by
  refine ⟨len,fun A outer s H args us vs Q E hr e0 hb r hsp => ?_⟩
  have hl:=len _ _ _ _ hsp
  have KX:K.In s.heap:=e0.mod.kin.keeps fun b o e=>(e0.bs b o e).1
  have lim:s.heap.NoLimit:=e0.mod.nolimit.keeps fun b o e=>(e0.bs b o e).1
  have hkind:∀ y∈ps.zip us,scope.names.lookup y.1=some .local∨(scope.names.lookup y.1=some .cell∧((cellsFrom (s.heap.objs.size+1) scope.names []).lookup y.1).isSome=true):=fun ⟨n,v⟩ hy=>by
    rcases S.par n (List.of_mem_zip hy).1 with q | q
    · exact .inl q
    · exact .inr ⟨q,PySem.W.cellsFrom_some _ _ _ (.inl q)⟩
  refine codeAny_call_function hr.depth (KX _ _ lk) rfl S.co S.gen rfl (PySem.W.codeRec_of KX hcd) (hb _ _ _ _ ?_)
  refine wpAny_newFunctionEnv_cells S.kind hkind fun env he s1 x => ?_
  subst he
  refine ⟨lim.keeps x.toInCall.keep,codeAny_func ?_⟩
  obtain ⟨t,ht,hq⟩:=hbody A outer s H vs Q E (hr.deeper _) hsp
  have I:Inv (cxOf CX P w K mg base N qual scope f cdv A outer s H E) [] (start N vs) H s1:=inv_start S hr.hd e0 hl r x
  refine wpAny_mono (ht [] s1 (start N vs) H _ I hq) (fun fl s' hs => ?_) fun e s' hs=>hs
  have fin:∀ {σ':St} {H':Hp} {v:V} {u:Value},Inv (cxOf CX P w K mg base N qual scope f cdv A outer s H E) [] σ' H' s'→RelV v u→Q v H'→CE outer P w H s Q u s' :=
    fun {σ' H' v u} J rv q=>⟨v,H',J.os,J.bare,J.base,J.hok,rv,q⟩
  cases fl with
  | ret u =>
    obtain ⟨v, σ',H',J,rv,q⟩:=hs
    exact fin J rv q
  | next =>
    obtain ⟨σ',H',J,q⟩:=hs
    exact fin (v:=V.non) (u:=Value.none) J rfl q
  | brk =>
    obtain ⟨_,_,_,q⟩:=hs
    exact False.elim q
  | cont =>
    obtain ⟨_,_,_,q⟩:=hs
    exact False.elim q
end L2

namespace L2
open PySem PySem.Spec PyProof.Rows
section
variable {X:Cx} {x:Str} {p pos:Pos} {e:Expr} {es:List Expr} {t:TA} {id T:String} {r:List V→Hp→VK→Prop}

noncomputable def tCB (r:List V→Hp→VK→Prop) (t:TA):TE:=fun σ H Q=>t σ H fun vs H1=>r vs H1 Q
theorem pe_callB (hc:CallR X (.builtin id) r) (hg:Gl X x) (hm:X.mg x=none) (hv:bootBuiltins x=some (.builtin id)) (ha:PA X (e :: es) t) (hn:x ≠ "__name__" := by decide) (hdb:(x == ("__debug__" : Str))=false:=by decide)
    (he:starEach (e :: es) X.env=(false,eval e X.env) :: starEach es X.env:=by rfl) (hpl:(backTo pos (starEach es X.env)).any (·.1)=false:=by rfl):PE X (.Call (.Name x p) (e :: es) [] pos) (tCB r t):=by
  intro pins s σ H Q I h
  refine wpAny_Call_Name_kw (ld_blt I hg hm hv ?_ hn hdb)
  exact PyProof.Rows.callWith_builtin1 (thn (ha pos pins s σ H _ I h) fun us s1 ⟨vs,H1,I1,r1,q1⟩=>hc pins s1 σ H1 vs us Q I1 r1 q1) he hpl
theorem pe_callTy (hc:CallR X (.type T) r) (hg:Gl X x) (hm:X.mg x=none) (hv:bootBuiltins x=some (.type T)) (ha:PA X (e :: es) t) (hn:x ≠ "__name__" := by decide) (hdb:(x == ("__debug__" : Str))=false:=by decide)
    (he:starEach (e :: es) X.env=(false,eval e X.env) :: starEach es X.env:=by rfl) (hpl:(backTo pos (starEach es X.env)).any (·.1)=false:=by rfl):PE X (.Call (.Name x p) (e :: es) [] pos) (tCB r t):=by
  intro pins s σ H Q I h
  refine wpAny_Call_Name_kw (ld_blt I hg hm hv ?_ hn hdb)
  exact PyProof.Rows.callWith_type1 (thn (ha pos pins s σ H _ I h) fun us s1 ⟨vs,H1,I1,r1,q1⟩=>hc pins s1 σ H1 vs us Q I1 r1 q1) he hpl
end
end L2

namespace HT
open PySem PyProof.Rows



section
open PySem.SeqAt
open PySem.AutoSeq1 (wpAny_loadPart')
open PySem.MeetsSeq PySem.MeetsSeq2 PySem.MeetsSeq3

end

section
variable {prog:Program} {w:World} {A:Around} {E:Value→Shared→Prop} {s:Shared}



noncomputable def sIx (n d:Nat):Option Int→Nat
  | none=>d
  | some v=>if v < 0 then (v+(n:Int)).toNat else min v.toNat n
theorem sIx_nat (n d k:Nat):sIx n d (some (k:Int))=min k n:=by
  show (if (k:Int) < 0 then ((k:Int)+(n:Int)).toNat else min (k:Int).toNat n)=min k n
  rw [if_neg (by omega),Int.toNat_natCast]
theorem sIx_le (n d:Nat) (hd:d≤n) (o:Option Int):sIx n d o≤n:=by
  cases o with
  | none=>exact hd
  | some v =>
    show (if v < 0 then (v+(n:Int)).toNat else min v.toNat n)≤n
    by_cases hv:v < 0
    · rw [if_pos hv];omega
    · rw [if_neg hv];exact Nat.min_le_right _ _

end
end HT

namespace L2
open PySem PySem.Spec PyProof.Rows

noncomputable abbrev TO:=St→Hp→(Option Int→Hp→Prop)→Prop
noncomputable def PO (X:Cx) (e:Option Expr) (t:TO):Prop :=
  ∀ (pins:List (Addr × Obj)) (s:Shared) (σ : St) (H:Hp) (Q:Option Int→Hp→Prop),Inv X pins σ H s→t σ H Q →
    wpAny (model X.prog X.w) X.A (evalPart e X.env) (fun u s'=>∃ o H',Inv X pins σ H' s'∧IsPart u o∧Q o H') X.xe s
inductive J_tPart (Q:Option Int→Hp→Prop) (x:V) (H1:Hp):Prop
  | mk:∀ i,(x = .int i)→(Q (some i) H1)→J_tPart Q x H1
noncomputable def tPart (t:TE):TO:=fun σ H Q=>t σ H fun x H1=>J_tPart Q x H1


section
variable {X:Cx} {e:Expr} {te:TE} {lo hi:Option Expr} {tl th:TO} {pos p2:Pos}

theorem po_some (h:PE X e te):PO X (some e) (tPart te):=by
  intro pins s σ H Q I hw
  rw [evalPart_some]
  refine thn (h pins s σ H _ I hw) fun u s1 ⟨x,H1,I1,r1,q1⟩ => ?_
  obtain ⟨i,rfl,q⟩:=q1
  obtain ⟨t,rfl⟩:=r1
  exact ⟨some i,H1,I1,.int i t,q⟩

noncomputable def SlR (X:Cx) (r:V→Option Int→Option Int→Hp→VK→Prop):Prop :=
  ∀ (pins:List (Addr × Obj)) (s:Shared) (σ : St) (H:Hp) (x:V) (v vl vu:Value) (lo hi:Option Int) (sl:Addr) (Q:VK),Inv X pins σ H s→RelV x v→s.heap.IsSliceOf sl vl vu .none→IsPart vl lo→IsPart vu hi→r x lo hi H Q →
    ∃ T id,typeLookup (.type T) "__getitem__" = pure (some (.builtin id))∧s.TypeIs v T∧wpAny (model X.prog X.w) X.A (getItem v (.ref sl)) (EP X pins σ Q) X.xe s
noncomputable def tSl (r:V→Option Int→Option Int→Hp→VK→Prop) (te:TE) (tl th:TO):TE:=fun σ H Q=>te σ H fun x H1=>tl σ H1 fun l H2=>th σ H2 fun u H3=>r x l u H3 Q
theorem pe_slice {r:V→Option Int→Option Int→Hp→VK→Prop} (hr:SlR X r) (he:PE X e te) (hl:PO X lo tl) (hu:PO X hi th):PE X (.Subscript e (.Slice lo hi none p2) pos) (tSl r te tl th):=by
  intro pins s σ H Q I h
  refine Subscript_ (thn (he pins s σ H _ I h) fun v s1 ⟨x,H1,I1,r1,q1⟩ => ?_)
  refine wpAny_Slice (thn (hl pins s1 σ H1 _ I1 q1) fun vl s2 ⟨l,H2,I2,pl,q2⟩=>thn (hu pins s2 σ H2 _ I2 q2) fun vu s3 ⟨u,H3,I3,pu,q3⟩ => ?_)
  rw [evalPart_none]
  refine wpAny_pure ?_
  have I4:Inv X pins σ H3 { s3 with heap:=s3.heap.push { cls := .type "slice",data := .fields #[vl,vu,.none] } }:=I3.kept (t':=s3.toks) fun b ob q=>Heap.get?_push_of_some _ q
  obtain ⟨T,id,hT,ht,hg⟩:=hr pins { s3 with heap:=s3.heap.push { cls := .type "slice",data := .fields #[vl,vu,.none] } } σ H3 x v vl vu l u s3.heap.objs.size Q I4 r1 (Heap.IsSliceOf.new ..) pl pu q3
  show wpAny (model X.prog X.w) X.A (subscriptTail e (.Slice lo hi none p2) v (.ref s3.heap.objs.size)) (EP X pins σ Q) X.xe { s3 with heap:=s3.heap.push { cls := .type "slice",data := .fields #[vl,vu,.none] } }
  exact tail_any (ops := [.ref s3.heap.objs.size,v]) ht hT hg (by with_unfolding_all rfl)

noncomputable def cutV (xs:List V) (lo hi:Option Int):List V:=(xs.drop (HT.sIx xs.length 0 lo)).take (HT.sIx xs.length xs.length hi - HT.sIx xs.length 0 lo)
theorem cutV_length (xs:List V) (lo hi:Option Int):(cutV xs lo hi).length≤xs.length:=by
  unfold cutV
  rw [List.length_take,List.length_drop]
  omega

end
end L2

namespace L2
open PySem PySem.Spec PyProof.Rows

noncomputable def ixN (n:Nat) (i:Int):Option Nat:=if 0≤i then (if i < n then some i.toNat else none) else if -(n:Int)≤i then some (i+n).toNat else none
noncomputable def atI {α : Type} (xs:List α) (i:Int):Option α := (ixN xs.length i).bind fun j=>xs[j]?
theorem ixN_seq {n:Nat} {i:Int} {j:Nat} (h:ixN n i=some j):seqIndex? i n=some j∧j < n ∧ -(n:Int)≤i∧i < n:=by
  unfold ixN at h
  by_cases h0:0≤i
  · rw [if_pos h0] at h
    by_cases h1:i < n
    · rw [if_pos h1] at h
      have e:i.toNat=j:=Option.some.inj h
      exact ⟨by rw [seqIndex_of h0 h1,e],by omega,by omega,h1⟩
    · rw [if_neg h1] at h;cases h
  · rw [if_neg h0] at h
    by_cases h1 : -(n:Int)≤i
    · rw [if_pos h1] at h
      have e:(i+n).toNat=j:=Option.some.inj h
      exact ⟨by rw [seqIndex_neg (by omega) h1,e],by omega,h1,by omega⟩
    · rw [if_neg h1] at h;cases h
theorem atI_get {α : Type} {xs:List α} {i:Int} {v : α} (h:atI xs i=some v):∃ j,seqIndex? i xs.length=some j∧xs[j]? = some v∧j < xs.length ∧ -(xs.length:Int)≤i∧i < xs.length:=by
  unfold atI at h
  cases e:ixN xs.length i with
  | none=>rw [e] at h;cases h
  | some j =>
    rw [e] at h
    obtain ⟨h1,h2,h3,h4⟩:=ixN_seq e
    exact ⟨j,h1,h,h2,h3,h4⟩
theorem atI_nat {α : Type} {xs:List α} {j:Nat} {v : α} (h:xs[j]? = some v):atI xs (j:Int)=some v:=by
  have hj:j < xs.length:=(List.getElem?_eq_some_iff.mp h).1
  have e:ixN xs.length (j:Int)=some j:=by
    unfold ixN
    rw [if_pos (by omega),if_pos (by omega)];simp
  unfold atI;rw [e];exact h

noncomputable def PlainIx (b:Expr):Prop := ∀ o i,subscripted b false o i=operate [o,i] (getItem o i)
noncomputable def IxR (X:Cx) (r:R2):Prop :=
  ∀ (value slice:Expr) (pins:List (Addr × Obj)) (s:Shared) (σ : St) (H:Hp) (x y:V) (v u:Value) (Q:VK),Inv X pins σ H s→RelV x v→RelV y u→r x y H Q →
    subscripted slice false v u=operate [v,u] (getItem v u)→wpAny (model X.prog X.w) X.A (subscriptTail value slice v u) (EP X pins σ Q) X.xe s
noncomputable def MtR (X:Cx) (id:String) (r:V→List V→Hp→VK→Prop):Prop :=
  ∀ (pins:List (Addr × Obj)) (s:Shared) (σ : St) (H:Hp) (x:V) (xs:List V) (v:Value) (us:List Value) (Q:VK),Inv X pins σ H s→RelV x v→Vals xs us→r x xs H Q →
    wpAny (model X.prog X.w) X.A (call (.builtin id) (v :: us)) (EP X pins σ Q) X.xe s
section
variable {X:Cx} {a b:Expr} {ta tb:TE} {pos:Pos}
theorem pe_ix {r:R2} (hr:IxR X r) (ha:PE X a ta) (hb:PE X b tb) (hs:PlainIx b):PE X (.Subscript a b pos) (tOp r ta tb):=by
  intro pins s σ H Q I h
  exact Subscript_ (binT ha hb I h fun v u s2 x y H2 I2 rx ry q=>hr a b pins s2 σ H2 x y v u Q I2 rx ry q (hs _ _))

inductive RIxL (K:PySem.W.Frag) (x y:V) (H:Hp) (Q:VK):Prop
  | mk (p:Addr) (xs:List V) (i:Int) (v:V) (hx:x = .ref p) (hy:y = .int i) (hS:SqL K H p xs) (he:atI xs i=some v) (q:Q v H):RIxL K x y H Q
noncomputable def rIxL (K:PySem.W.Frag):R2:=fun x y H Q=>RIxL K x y H Q
inductive RIxT (K:PySem.W.Frag) (x y:V) (H:Hp) (Q:VK):Prop
  | mk (p:Addr) (xs:List V) (i:Int) (v:V) (hx:x = .ref p) (hy:y = .int i) (hS:SqT K H p xs) (he:atI xs i=some v) (q:Q v H):RIxT K x y H Q
noncomputable def rIxT (K:PySem.W.Frag):R2:=fun x y H Q=>RIxT K x y H Q
inductive J_rIxS (x:V) (y:V) (H:Hp) (Q:VK):Prop
  | mk:∀ z i c,(x = .str z)→(y = .int i)→(z.length≤sizeLine)→(atI z.cps.toList i=some c)→(Q (.str ⟨#[c]⟩) H)→J_rIxS x y H Q
noncomputable def rIxS:R2:=fun x y H Q=>J_rIxS x y H Q
theorem ix_list:IxR X (rIxL X.K):=by
  intro value slice pins s σ H x y v u Q I rx ry h hs
  obtain ⟨p,xs,i,z,rfl,rfl,hq,he,q⟩:=h
  cases rx
  obtain ⟨t,rfl⟩:=ry
  obtain ⟨its,r,pl,hz⟩:=I.list hq
  obtain ⟨j,h1,h2,h3,h4,h5⟩:=atI_get he
  obtain ⟨w,ew,rw'⟩:=r.get h2
  have hl:=r.length
  have hn:=line63
  have fin:EP X pins σ Q w s:=⟨z,H,I,rw',q⟩
  by_cases h0:0≤i
  · have hj:i.toNat=j:=by
      rw [seqIndex_of h0 h5] at h1
      exact Option.some.inj h1
    exact item_listR pl.isList h0 (by omega) (by rw [hj];simpa using ew) fin hs
  · have hj:(i+(its.toArray.size:Int)).toNat=j:=by
      rw [seqIndex_neg (by omega) h4] at h1
      rw [List.size_toArray, ← hl]
      exact Option.some.inj h1
    exact subscriptTail_builtinR (x:=w) pl.isList.typeIs slot_list_getitem.lookup
      (wpAny_getItem_list_neg (Q:=fun r s'=>r=w∧EP X pins σ Q r s') pl.isList (by omega) (by rw [List.size_toArray] <;> omega) (by omega) (by rw [hj];simpa using ew) ⟨rfl,fin⟩) hs
theorem ix_tup:IxR X (rIxT X.K):=by
  intro value slice pins s σ H x y v u Q I rx ry h hs
  obtain ⟨p,xs,i,z,rfl,rfl,hq,he,q⟩:=h
  cases rx
  obtain ⟨t,rfl⟩:=ry
  obtain ⟨its,r,pl,hz⟩:=I.tuple hq
  obtain ⟨j,h1,h2,h3,h4,h5⟩:=atI_get he
  obtain ⟨w,ew,rw'⟩:=r.get h2
  have hl:=r.length
  have hn:=line63
  have fin:EP X pins σ Q w s:=⟨z,H,I,rw',q⟩
  exact subscriptTail_builtinR (x:=w) pl.typeIs slot_tuple_getitem.lookup
    (getItem_tuple (j:=j) (Q:=fun r s'=>r=w∧EP X pins σ Q r s') pl (by omega) (by omega) (by rw [List.size_toArray, ← hl];exact h1) (by simpa using ew) ⟨rfl,fin⟩) hs
theorem ix_str:IxR X rIxS:=by
  intro value slice pins s σ H x y v u Q I rx ry h hs
  obtain ⟨z,i,c,rfl,rfl,hz,he,q⟩:=h
  obtain ⟨t,rfl⟩:=rx
  obtain ⟨t',rfl⟩:=ry
  obtain ⟨j,h1,h2,h3,h4,h5⟩:=atI_get he
  have hl:z.cps.toList.length=z.length:=by simp [Str.length]
  rw [hl] at h1 h4 h5
  have hn:=line63
  exact tail_any (typeIs_str s z t) slot_str_getitem.lookup (getItem_str (c:=c) (by
    have e1:decide (i < -(2 ^ 63:Int))=false:=decide_eq_false (by omega)
    have e2:decide (i ≥ 2 ^ 63)=false:=decide_eq_false (by omega)
    rw [e1,e2,Bool.or_false]) (by rw [h1];simpa using h2) ⟨.str ⟨#[c]⟩,H,I.tok _,⟨_,rfl⟩,q⟩) hs


theorem slice_bounds (lo hi:Option Int) (n:Nat):(sliceBounds lo hi none n).1=((HT.sIx n 0 lo:Nat):Int)∧(sliceBounds lo hi none n).2.1=((HT.sIx n n hi:Nat):Int)∧(sliceBounds lo hi none n).2.2=1:=by
  refine ⟨?_,?_,rfl⟩
  · cases lo with
    | none=>simp [sliceBounds,HT.sIx]
    | some i =>
      simp only [sliceBounds,HT.sIx,Option.getD_none,show (1:Int) > 0 by decide,if_true]
      by_cases h:i < 0
      · simp only [h,if_true] <;> omega
      · simp only [h,if_false] <;> omega
  · cases hi with
    | none=>simp [sliceBounds,HT.sIx]
    | some i =>
      simp only [sliceBounds,HT.sIx,Option.getD_none,show (1:Int) > 0 by decide,if_true]
      by_cases h:i < 0
      · simp only [h,if_true] <;> omega
      · simp only [h,if_false] <;> omega
theorem slicePick_cut (its:List Value) (lo hi:Option Int):slicePick its.toArray lo hi none=((its.drop (HT.sIx its.length 0 lo)).take (HT.sIx its.length its.length hi - HT.sIx its.length 0 lo)).toArray:=by
  obtain ⟨h1,h2,h3⟩:=slice_bounds lo hi its.toArray.size
  unfold slicePick
  rw [h1,h2,h3]
  simp only [sliceRange_one,pick_run,List.size_toArray] <;> rfl
inductive J_rSlL (K:PySem.W.Frag) (x:V) (lo:Option Int) (hi:Option Int) (H:Hp) (Q:VK):Prop
  | mk:∀ a xs,(x = .ref a)→(SqL K H a xs)→(∀ p,H p=none→Q (.ref p) (upd H p (.lst (cutV xs lo hi))))→J_rSlL K x lo hi H Q
noncomputable def rSlL (K:PySem.W.Frag):V→Option Int→Option Int→Hp→VK→Prop:=fun x lo hi H Q=>J_rSlL K x lo hi H Q
theorem sl_list:SlR X (rSlL X.K):=by
  intro pins s σ H x v vl vu lo hi sl Q I rx hs pl pu h
  obtain ⟨a,xs,rfl,hx,q⟩:=h
  cases rx
  obtain ⟨its,r,ht,hz⟩:=I.list hx
  have hlen:=r.length
  refine ⟨"list",_,slot_list_getitem.lookup,ht.isList.typeIs,?_⟩
  refine wpAny_getItem_list_slice ht.isList hs pl pu .none (by simp) ?_ (by rw [List.size_toArray] <;> omega)
  rw [slicePick_cut, ← hlen]
  refine ⟨.ref s.heap.objs.size,_,I.laid (t':=s.toks) (o := .lst (cutV xs lo hi)) (fun b ob q=>Heap.get?_push_of_some _ q) (Nat.le_refl _) ?_,rfl,q _ (I.hok.fresh (Nat.le_refl _))⟩
  exact ⟨Nat.le_trans (cutV_length xs lo hi) hz,_,0,(r.drop (HT.sIx xs.length 0 lo)).take (HT.sIx xs.length xs.length hi - HT.sIx xs.length 0 lo),Heap.get?_push_size _ rfl⟩

noncomputable def flatV:V→Bool
  | .non=>true
  | .bl _=>true
  | .int _=>true
  | .str _=>true
  | _=>false
noncomputable def eqV:V→V→Bool
  | .non,.non=>true
  | .bl a,.bl b=>a == b
  | .bl a,.int b=>(if a then 1 else 0) == b
  | .int a,.bl b=>a == (if b then 1 else 0)
  | .int a,.int b=>a == b
  | .str a,.str b=>a == b
  | _,_=>false
theorem eqAt_V {A:Around} {s:Shared} {y x:V} {u v:Value} (ry:RelV y u) (rx:RelV x v) (fy:flatV y=true) (fx:flatV x=true):SeqAt.EqAt A s u v (eqV y x):=by
  cases y with
  | non =>
    cases ry
    cases x with
    | non=>cases rx;exact SeqAt.EqAt.same _
    | bl b=>cases rx;exact SeqAt.EqAt.none_bool b
    | int b=>obtain ⟨t,rfl⟩:=rx;exact SeqAt.EqAt.none_int b t
    | str b=>obtain ⟨t,rfl⟩:=rx;exact SeqAt.EqAt.none_str b t
    | _=>exact absurd (show false=true from fx) Bool.false_ne_true
  | bl a =>
    cases ry
    cases x with
    | non=>cases rx;exact SeqAt.EqAt.bool_none a
    | bl b=>cases rx;exact SeqAt.EqAt.bool_bool a b
    | int b=>obtain ⟨t,rfl⟩:=rx;exact SeqAt.EqAt.bool_int a b t
    | str b=>obtain ⟨t,rfl⟩:=rx;exact SeqAt.EqAt.bool_str a b t
    | _=>exact absurd (show false=true from fx) Bool.false_ne_true
  | int a =>
    obtain ⟨t',rfl⟩:=ry
    cases x with
    | non=>cases rx;exact SeqAt.EqAt.int_none a t'
    | bl b=>cases rx;exact SeqAt.EqAt.int_bool a t' b
    | int b=>obtain ⟨t,rfl⟩:=rx;exact SeqAt.EqAt.int_int a t' b t
    | str b=>obtain ⟨t,rfl⟩:=rx;exact SeqAt.EqAt.int_str a t' b t
    | _=>exact absurd (show false=true from fx) Bool.false_ne_true
  | str a =>
    obtain ⟨t',rfl⟩:=ry
    cases x with
    | non=>cases rx;exact SeqAt.EqAt.str_none a t'
    | bl b=>cases rx;exact SeqAt.EqAt.str_bool a t' b
    | int b=>obtain ⟨t,rfl⟩:=rx;exact SeqAt.EqAt.str_int a t' b t
    | str b=>obtain ⟨t,rfl⟩:=rx;exact SeqAt.EqAt.str_str a t' b t
    | _=>exact absurd (show false=true from fx) Bool.false_ne_true
  | _=>exact absurd (show false=true from fy) Bool.false_ne_true
noncomputable def eqU (x:V) (u:Value):Bool:=match u with
  | .none=>eqV .non x
  | .bool b=>eqV (.bl b) x
  | .int i _=>eqV (.int i) x
  | .str z _=>eqV (.str z) x
  | _=>false
theorem eqU_of {x y:V} {u:Value} (r:RelV y u) (f:flatV y=true):eqU x u=eqV y x:=by
  cases y with
  | non=>cases r;rfl
  | bl b=>cases r;rfl
  | int i=>obtain ⟨t,rfl⟩:=r;rfl
  | str z=>obtain ⟨t,rfl⟩:=r;rfl
  | _=>exact absurd (show false=true from f) Bool.false_ne_true
theorem any_eqU {x:V}:∀ {xs:List V} {us:List Value},Vals xs us→xs.all flatV=true→us.any (eqU x)=xs.any fun y=>eqV y x
  | _,_,.nil,_=>rfl
  | y :: xs,u :: us,.cons r t,f=>by
    rw [List.all_cons,Bool.and_eq_true] at f
    rw [List.any_cons,List.any_cons,eqU_of r f.1,any_eqU t f.2]
theorem mem_eqAt {A:Around} {s:Shared} {x:V} {v:Value} (rx:RelV x v) (fx:flatV x=true):∀ {xs:List V} {us:List Value},Vals xs us→xs.all flatV=true→∀ u∈us,SeqAt.EqAt A s u v (eqU x u)
  | _,_,.nil,_=>fun u hu=>by cases hu
  | y :: xs,u :: us,.cons r t,f=>fun u' hu=>by
    rw [List.all_cons,Bool.and_eq_true] at f
    rcases List.mem_cons.mp hu with rfl | hu
    · rw [eqU_of r f.1];exact eqAt_V r rx f.1 fx
    · exact mem_eqAt rx fx t f.2 u' hu
noncomputable def inV (x:V) (xs:List V):Bool:=xs.any fun y=>eqV y x
inductive J_rIn (K:PySem.W.Frag) (neg:Bool) (x:V) (y:V) (H:Hp) (Q:VK):Prop
  | mk:∀ p xs,(y = .ref p)→((SqL K H p xs∨SqT K H p xs))→(flatV x=true)→(xs.all flatV=true)→(Q (.bl (if neg then !inV x xs else inV x xs)) H)→J_rIn K neg x y H Q
noncomputable def rIn (K:PySem.W.Frag) (neg:Bool):R2:=fun x y H Q=>J_rIn K neg x y H Q
theorem op_in_seq:OpR X (compareOp .In) (rIn X.K false):=by
  intro pins s σ H x y v u Q I rx ry h
  obtain ⟨p,xs,rfl,hq,fx,fs,q⟩:=h
  cases ry
  rcases hq with hq | hq
  · obtain ⟨its,r,pl,hz⟩:=I.list hq
    refine SeqAt.in_listAt (eqU x) pl.isList (fun w hw=>mem_eqAt rx fx r fs w (by simpa using hw)) ⟨.bl _,H,I,rfl,?_⟩
    rw [show its.toArray.any (eqU x)=its.any (eqU x) by simp,any_eqU r fs]
    exact q
  · obtain ⟨its,r,pl,hz⟩:=I.tuple hq
    refine SeqAt.in_tupleAt (eqU x) pl (fun w hw=>mem_eqAt rx fx r fs w (by simpa using hw)) ⟨.bl _,H,I,rfl,?_⟩
    rw [show its.toArray.any (eqU x)=its.any (eqU x) by simp,any_eqU r fs]
    exact q

inductive J_len (K:PySem.W.Frag) (xs:List V) (H:Hp) (Q:VK):Prop
  | mk:∀ p ys,(xs = [.ref p])→(SqL K H p ys∨SqT K H p ys)→(Q (.int ys.length) H)→J_len K xs H Q
theorem call_len_seq:CallR X (.builtin "len") (fun xs H Q=>J_len X.K xs H Q):=by
  intro pins s σ H xs us Q I r h
  obtain ⟨p,ys,rfl,hq,q⟩:=h
  obtain ⟨u,rfl,rx⟩:=vals1 r
  cases rx
  have hn:=line63
  rcases hq with hq | hq
  · obtain ⟨its,r',pl,hz⟩:=I.list hq
    have hlen:=r'.length
    exact Calls.call_len_list pl.isList (by simp only [List.size_toArray] <;> omega) ⟨.int ys.length,H,I.tok _,⟨s.toks+1,by rw [List.size_toArray,hlen]⟩,q⟩
  · obtain ⟨its,r',pl,hz⟩:=I.tuple hq
    have hlen:=r'.length
    exact len_tuple pl (by simp only [List.size_toArray] <;> omega) ⟨.int ys.length,H,I.tok _,⟨s.toks+1,by rw [List.size_toArray,hlen]⟩,q⟩
inductive J_call_len_str (xs:List V) (H:Hp) (Q:VK):Prop
  | mk:∀ z,(xs = [.str z])→(z.length≤sizeLine)→(Q (.int z.length) H)→J_call_len_str xs H Q
theorem call_len_str:CallR X (.builtin "len") (fun xs H Q=>J_call_len_str xs H Q):=by
  intro pins s σ H xs us Q I r h
  obtain ⟨z,rfl,hz,q⟩:=h
  obtain ⟨u,rfl,t,rfl⟩:=vals1 r
  have hn:=line63
  exact len_str (by omega) ⟨.int z.length,H,I.tok _,⟨_,rfl⟩,q⟩
inductive J_call_tuple_of (kK:PySem.W.Frag) (xs:List V) (H:Hp) (Q:VK):Prop
  | mk:∀ p ys,(xs = [.ref p])→(((SqL kK H p ys∧∀ l,H l=none→Q (.ref l) (upd H l (.tup ys)))∨(SqT kK H p ys∧Q (.ref p) H)))→J_call_tuple_of kK xs H Q
theorem call_tuple_of:CallR X (.type "tuple") (fun xs H Q=>J_call_tuple_of X.K xs H Q):=by
  intro pins s σ H xs us Q I r h
  obtain ⟨p,ys,rfl,h⟩:=h
  obtain ⟨u,rfl,rx⟩:=vals1 r
  cases rx
  rcases h with ⟨hq,q⟩ | ⟨hq,q⟩
  · obtain ⟨its,r',pl,hz⟩:=I.list hq
    have hlen:=r'.length
    refine call_tuple_list pl.isList (fun h' kp => ?_) (by simp only [List.size_toArray] <;> omega)
    have I1:Inv X pins σ H { s with heap:=h' }:=I.kept (t':=s.toks) kp
    have I2:Inv X pins σ (upd H h'.objs.size (.tup ys)) { s with heap:=h'.push { cls := .type "tuple",data := .seq its.toArray } } :=
      I1.laid (t':=s.toks) (fun b o e=>Heap.get?_push_of_some _ e) (Nat.le_refl _) (show ObjOk X.prog X.w _ _ _ (.tup ys) from ⟨hz,its,r',IsTupN.new _ _⟩)
    exact ⟨.ref h'.objs.size,_,I2,rfl,q _ (I1.hok.fresh (Nat.le_refl _))⟩
  · obtain ⟨its,r',pl,hz⟩:=I.tuple hq
    exact call_tuple_same pl ⟨.ref p,H,I,rfl,q⟩

noncomputable def tyV (K:PySem.W.Frag) (T:String) (x:V) (H:Hp):Prop:=match x with
  | .str _=>T = "str"
  | .int _=>T = "int"
  | .ref p=>(T = "list" ∧ ∃ xs,SqL K H p xs)∨(T = "tuple" ∧ ((∃ o,K.lookup p=some o∧o.cls = .type "tuple" ∧ o.dict=none)∨∃ xs,H p=some (.tup xs))) ∨
      (T = "dict" ∧ ((∃ kvs,H p=some (.dK kvs))∨∃ kvs,H p=some (.dT kvs)))∨(T = "set" ∧ ∃ S n,H p=some (.set S n))
  | _=>False
theorem tyV_is {pins:List (Addr × Obj)} {σ : St} {H:Hp} {s:Shared} {T:String} {x:V} {v:Value} (I:Inv X pins σ H s) (r:RelV x v) (ty:tyV X.K T x H) :
    s.TypeIs v T∧∀ a,v = .ref a→∃ ob,s.heap.get? a=some ob∧ob.dict=none:=by
  cases x with
  | str z =>
    obtain ⟨t,rfl⟩:=r
    cases (show T = "str" from ty)
    exact ⟨typeIs_str s z t,fun _ e=>nomatch e⟩
  | int i =>
    obtain ⟨t,rfl⟩:=r
    cases (show T = "int" from ty)
    exact ⟨typeIs_int s i t,fun _ e=>nomatch e⟩
  | ref p =>
    cases r
    rcases ty with ⟨rfl,xs,hq⟩ | ⟨rfl,⟨o,hk,hc,hd⟩ | ⟨xs,hk⟩⟩ | ⟨rfl,hk⟩ | ⟨rfl,S,n,hk⟩
    · obtain ⟨its,_,pl,_⟩:=I.list hq
      refine ⟨pl.isList.typeIs,fun a e => ?_⟩
      cases e
      obtain ⟨o,n,e,c,hd,_⟩:=pl
      exact ⟨o,e,hd⟩
    · refine ⟨⟨o,I.kIn p o hk,hc⟩,fun a e => ?_⟩
      cases e
      exact ⟨o,I.kIn _ o hk,hd⟩
    · obtain ⟨_,_,_,o,e,c,n,d,hd⟩:=I.hok p _ hk
      refine ⟨⟨o,e,c⟩,fun a e2 => ?_⟩
      cases e2
      exact ⟨o,e,hd⟩
    · have z:∃ o,s.heap.get? p=some o∧o.ExactDict:=by
        rcases hk with ⟨kvs,hk⟩ | ⟨kvs,hk⟩
        · obtain ⟨_,_,_,_,o,_,_,e,ex,_⟩:=I.hok p _ hk
          exact ⟨o,e,ex⟩
        · obtain ⟨_,_,_,_,o,_,_,e,ex,_⟩:=I.hok p _ hk
          exact ⟨o,e,ex⟩
      obtain ⟨o,e,ex⟩:=z
      refine ⟨⟨o,e,ex.1⟩,fun a e2 => ?_⟩
      cases e2
      exact ⟨o,e,ex.2.1⟩
    · obtain ⟨o,_,_,_,e,ex,_⟩:=I.hok p _ hk
      refine ⟨⟨o,e,ex.1⟩,fun a e2 => ?_⟩
      cases e2
      exact ⟨o,e,ex.2.1⟩
  | _=>exact False.elim ty
noncomputable def tBM0 (K:PySem.W.Frag) (T:String) (r:V→List V→Hp→VK→Prop) (to:TE):TE:=fun σ H Q=>to σ H fun x H1=>tyV K T x H1∧r x [] H1 Q
noncomputable def tBM (K:PySem.W.Frag) (T:String) (r:V→List V→Hp→VK→Prop) (to:TE) (t:TA):TE:=fun σ H Q=>to σ H fun x H1=>tyV K T x H1∧t σ H1 fun xs H2=>r x xs H2 Q
variable {o e:Expr} {es:List Expr} {to:TE} {t:TA} {name:Str} {apos cpos:Pos} {T id:String} {r:V→List V→Hp→VK→Prop}
theorem pe_bm0 (pa:PlainAttrs T) (slot:Slot T name id) (hty:typeOf (.builtin id)=pure (.type "method_descriptor")) (hm:MtR X id r) (ho:PE X o to)
    (hbase:attributeBase o name X.env (eval o X.env)=eval o X.env:=by rfl) (hline:(apos.endLine == cpos.line)=true:=by rfl):PE X (.Call (.Attribute o name apos) [] [] cpos) (tBM0 X.K T r to):=by
  intro pins s σ H Q I h
  refine wpAny_Call_method0_late hbase hline (thn (ho pins s σ H _ I h) fun v s1 ⟨x,H1,I1,r1,ty,q1⟩ => ?_)
  obtain ⟨h1,h2⟩:=tyV_is I1 r1 ty
  exact ⟨T,id,pa,slot,hty,h1,h2,Calls.callWith_builtin rfl (PySem.evalArgs_none (hm pins s1 σ H1 x [] v [] Q I1 r1 .nil q1))⟩
theorem pe_bm (pa:PlainAttrs T) (slot:Slot T name id) (hty:typeOf (.builtin id)=pure (.type "method_descriptor")) (hm:MtR X id r) (ho:PE X o to) (ha:PA X (e :: es) t)
    (hbase:attributeBase o name X.env (eval o X.env)=eval o X.env:=by rfl)
    (hfew:((backTo cpos (starEach (e :: es) X.env)).all (fun x => !x.1) && (backToKw cpos (keywordEach [] X.env)).all (fun x=>x.1.isSome)
      && decide ((e :: es).length+([]:List Keyword).length+(if ([]:List Keyword).isEmpty then 0 else 1) < 30))=true:=by rfl)
    (hline:(apos.endLine == cpos.line)=true:=by rfl) (hs:starEach (e :: es) X.env=(false,eval e X.env) :: starEach es X.env:=by rfl) (hplain:(backTo cpos (starEach es X.env)).any (·.1)=false:=by rfl) :
    PE X (.Call (.Attribute o name apos) (e :: es) [] cpos) (tBM X.K T r to t):=by
  intro pins s σ H Q I h
  refine wpAny_Call_method_late hbase hfew hline rfl (thn (ho pins s σ H _ I h) fun v s1 ⟨x,H1,I1,r1,ty,q1⟩ => ?_)
  obtain ⟨h1,h2⟩:=tyV_is I1 r1 ty
  refine ⟨T,id,pa,slot,hty,h1,h2,?_⟩
  have hA:=ha cpos pins s1 σ H1 _ I1 q1
  rw [hs] at hA ⊢
  refine Calls.callWith_builtin (by show (false || (backTo cpos (starEach es X.env)).any (·.1))=false;rw [hplain] <;> rfl) (Calls.evalArgs_plain ?_)
  exact thn hA fun us s2 ⟨vs,H2,I2,r2,q2⟩=>hm pins s2 σ H2 x vs v us Q I2 r1 r2 q2
/- xs.append(e),list.index on a module's tuple .. are MtR facts of 06m -/
end
end L2

namespace L2
open PySem PySem.Spec PyProof.Rows

noncomputable def MtM (X:Cx) (id:String) (r:V→List V→Hp→VK→Prop):Prop :=
  ∀ (pins:List (Addr × Obj)) (s:Shared) (σ : St) (H:Hp) (x:V) (xs:List V) (v:Value) (us:List Value) (Q:VK),Inv X pins σ H s→RelV x v→Vals xs us→r x xs H Q →
    wpAny (model X.prog X.w) X.A (call (.builtin id) (v :: us)) (EP X pins σ Q) X.xe s

theorem Vals.one:∀ {x:V} {us:List Value},Vals [x] us→∃ u,us = [u]∧RelV x u
  | _,_,.cons r .nil=>⟨_,rfl,r⟩
theorem Vals.zero:∀ {us:List Value},Vals [] us→us = []
  | _,.nil=>rfl
theorem Vals.dropLast {xs:List V} {us:List Value} (h:Vals xs us):Vals xs.dropLast us.dropLast:=by
  induction h with
  | nil=>exact .nil
  | cons r t ih =>
    cases t with
    | nil=>exact .nil
    | cons q t'=>exact .cons r ih
theorem erase_last {α : Type} (l:List α):l.eraseIdx (l.length - 1)=l.dropLast:=by
  induction l with
  | nil=>rfl
  | cons a r ih =>
    cases r with
    | nil=>rfl
    | cons b r =>
      have e:(a :: b :: r).length - 1=((b :: r).length - 1)+1:=by
        have h1:(a :: b :: r).length=r.length+2:=rfl
        have h2:(b :: r).length=r.length+1:=rfl
        omega
      rw [e,List.eraseIdx_cons_succ,ih]
      all_goals rfl

section
variable {X:Cx} {pins:List (Addr × Obj)} {σ : St} {H:Hp} {s:Shared} {l b:Addr} {xs ys zs:List V}

theorem Inv.lset {its its':List Value} {n:Nat} {f:Array Value→Array Value} {t':Nat} (I:Inv X pins σ H s) (hH:H l=some (.lst xs))
    (e:s.heap.get? l=some { cls := .type "list",data := .seq its.toArray n }) (hf:f its.toArray=its'.toArray) (hv:Vals ys its') (hz:ys.length≤sizeLine) :
    Inv X pins σ (upd H l (.lst ys)) { s with heap:=s.heap.update l (Obj.mapSeq f),toks:=t' }:=by
  have q:=PySem.IsL.update e f
  rw [hf] at q
  refine I.write (x:=l) (e:=l) (by rw [hH];exact trivial) (.inl rfl) (fun b' u hb hu=>(Heap.get?_update_other s.heap (Obj.mapSeq f) (Ne.symm hb)).trans hu) ⟨_,q⟩ ?_
  exact ⟨hz,its',_,hv,q⟩
theorem Inv.lnew {its:List Value} {t':Nat} (I:Inv X pins σ H s) (hv:Vals ys its) (hz:ys.length≤sizeLine) :
    Inv X pins σ (upd H s.heap.objs.size (.lst ys)) { s with heap:=s.heap.push { cls := .type "list",data := .seq its.toArray },toks:=t' } :=
  I.laid (fun _ _ q=>Heap.get?_push_of_some _ q) (Nat.le_refl _) ⟨hz,its,0,hv,Heap.get?_push_size _ rfl⟩
theorem Inv.fresh (I:Inv X pins σ H s):H s.heap.objs.size=none:=I.hok.fresh (Nat.le_refl _)
theorem Inv.lstM (I:Inv X pins σ H s) (hH:H l=some (.lst xs)):xs.length≤sizeLine∧∃ (its:List Value) (n:Nat),Vals xs its∧xs.length=its.length∧s.heap.get? l=some { cls := .type "list",data := .seq its.toArray n }:=by
  obtain ⟨z,its,n,r,e⟩:=I.hok l _ hH
  exact ⟨z,its,n,r,r.length,e⟩

end

section
variable {X:Cx}

inductive J_rAppend (x:V) (vs:List V) (H:Hp) (Q:VK):Prop
  | mk:∀ l xs y,(x = .ref l)→(vs = [y])→(H l=some (.lst xs))→(xs.length < sizeLine)→(Q .non (upd H l (.lst (xs ++ [y]))))→J_rAppend x vs H Q
noncomputable def rAppend:V→List V→Hp→VK→Prop:=fun x vs H Q=>J_rAppend x vs H Q
theorem mt_append:MtM X "list.append" rAppend:=by
  intro pins s σ H x vs v us Q I rx rv h
  obtain ⟨l,xs,y,rfl,rfl,hH,hz,q⟩:=h
  cases rx
  obtain ⟨u,rfl,ru⟩:=rv.one
  obtain ⟨z,its,n,r,hl,e⟩:=I.lstM hH
  refine call_meets F.slot_list_append ⟨_,e,rfl⟩ F.entry_list_append (F.args_list_append_2 _ _) (PySem.list_append l its.toArray n u (by rw [List.size_toArray];omega)) ⟨e,?_⟩
  refine ⟨.non,_,I.lset (its':=its ++ [u]) hH e (by simp) (r.append (.cons ru .nil)) ?_,rfl,q⟩
  rw [List.length_append,List.length_singleton]
  omega


inductive J_rPop (x:V) (vs:List V) (H:Hp) (Q:VK):Prop
  | mk:∀ l xs y,(x = .ref l)→(vs = [])→(H l=some (.lst xs))→(xs[xs.length - 1]? = some y)→(Q y (upd H l (.lst xs.dropLast)))→J_rPop x vs H Q
noncomputable def rPop:V→List V→Hp→VK→Prop:=fun x vs H Q=>J_rPop x vs H Q
theorem mt_pop:MtM X "list.pop" rPop:=by
  intro pins s σ H x vs v us Q I rx rv h
  obtain ⟨l,xs,y,rfl,rfl,hH,hy,q⟩:=h
  cases rx
  have hus:=rv.zero
  subst hus
  obtain ⟨z,its,n,r,hl,e⟩:=I.lstM hH
  obtain ⟨u,hu,ru⟩:=r.get hy
  have hy':its.toArray[its.toArray.size - 1]? = some u:=by
    show its.toArray[its.length - 1]? = some u
    rw [← Array.getElem?_toList, ← hl]
    exact hu
  refine call_meets F.slot_list_pop ⟨_,e,rfl⟩ F.entry_list_pop (F.args_list_pop_1 _) (MeetsSeq.list_pop_last l its.toArray n u hy' (by rw [List.size_toArray];omega)) ⟨e,?_⟩
  refine ⟨y,_,I.lset (its':=its.dropLast) hH e ?_ r.dropLast ?_,ru,q⟩
  · show its.toArray.eraseIdxIfInBounds (its.toArray.size - 1)=its.dropLast.toArray
    rw [List.size_toArray,List.eraseIdxIfInBounds_toArray,erase_last]
  · rw [List.length_dropLast]
    omega




inductive J_rCat (x:V) (y:V) (H:Hp) (Q:VK):Prop
  | mk:∀ l b xs zs,(x = .ref l)→(y = .ref b)→(H l=some (.lst xs))→(H b=some (.lst zs))→(xs.length+zs.length≤sizeLine)→(∀ p,H p=none→Q (.ref p) (upd H p (.lst (xs ++ zs))))→J_rCat x y H Q
noncomputable def rCat:R2:=fun x y H Q=>J_rCat x y H Q
theorem op_cat:OpR X (binaryOp .Add) rCat:=by
  intro pins s σ H x y v u Q I rx ry h
  obtain ⟨l,b,xs,zs,rfl,rfl,hH,hB,hz,q⟩:=h
  cases rx
  cases ry
  obtain ⟨z,its,n,r,hl,e⟩:=I.lstM hH
  obtain ⟨z2,its2,n2,r2,hl2,e2⟩:=I.lstM hB
  refine PySem.P.add_list e e2 ?_ (by rw [List.size_toArray,List.size_toArray];omega)
  have ea:its.toArray ++ its2.toArray=(its ++ its2).toArray:=by simp
  rw [ea]
  exact ⟨.ref _,_,I.lnew (t':=s.toks) (r.append r2) (by rw [List.length_append];omega),rfl,q _ I.fresh⟩

end

section
variable {prog:Program} {w:World} {A:Around} {E:Value→Shared→Prop} {s:Shared}
end

section
variable {X:Cx}
end
end L2

namespace Att
open PySem PySem.W PySem.Calls PyProof.Rows

theorem ints_of_wellAll {P:Params} {h:Heap}:∀ (ns:List Int) (vs:List Value),WellAll P h vs (ns.map WData.int)→IntsAre vs ns:=by
  intro ns
  induction ns with
  | nil =>
    intro vs w
    rw [List.map_nil] at w
    cases w
    exact .nil
  | cons n ns ih =>
    intro vs w
    rw [List.map_cons] at w
    cases w with
    | cons a b =>
      cases a
      exact .cons _ _ (ih _ b)

theorem script_of {l:OpenLaw} {n:Nat} (hn:l.most=some n) {P:Params} {h:Heap} {args:List WData} {vals:List Value}
    (hpre:l.row.toRowW.claim.pre args=true) (hwl:WellAll P h vals args) :
    ∃ a vs ns,vals = [Value.ref a]∧args = [WData.list (ns.map WData.int)]∧h.get? a=some { cls := .type "list",data := .seq vs.toArray }∧IntsAre vs ns∧ns.length≤n:=by
  have hsh:WShape.hasAll [] args [.list .int]=true:=(pre_splitW hpre).1
  have hc:l.pre.holds [] { args:=args }=true:=(pre_splitW hpre).2
  obtain ⟨d,r,rfl,h1,h2⟩:=hasAllW_cons hsh
  obtain rfl:=hasAllW_nil h2
  obtain ⟨xs,rfl,h3⟩:=hasW_list h1
  obtain ⟨ns,rfl⟩:=items_int h3
  have hlen:ns.length≤n:=by
    unfold OpenLaw.pre at hc
    have h4:(WTm.not (.lt (.lit (.int (n:Int))) (.len (.arg 0)))).holds [] { args := [.list (ns.map .int)] }=true:=by
      have h4:=(holds_andW hc).1
      rw [hn] at h4
      exact h4
    have h5:=condW_of h4 (w_not (w_lt w_lit (w_len_list (w_arg rfl))))
    rw [List.length_map] at h5
    refine Nat.le_of_not_lt fun q => ?_
    have q':(n:Int) < ((ns.length:Nat):Int):=by omega
    first
      | (rw [decide_eq_true q'] at h5;exact absurd h5 (by decide))
      | (simp at h5;omega)
  cases hwl with
  | cons w1 w2 =>
    cases w2
    cases w1 with
    | list ho hall=>exact ⟨_,_,ns,rfl,rfl,ho,ints_of_wellAll ns _ hall,hlen⟩

theorem post_true (l:OpenLaw) (args:List WData):l.row.toRowW.claim.post args (.bool true) args=true :=
  postW_of (r:=l.row.toRowW) (X:=(true == true))
    (show WShape.has [] (.bool true) .bool=true by first | rfl | decide | simp [WShape.has,WShape.arms,WShape.armsAll])
    (show (WTm.eq .res (.lit (.bool true))).value [] { args:=args,res:=some (.bool true),after:=args }=some (.bool (true == true)) from w_eq_bool (w_res rfl) w_lit) rfl




section
variable {prog:Program} {w:World} {A:Around} {E:Value→Shared→Prop} {s:Shared} {K:Frag}






end
end Att

namespace L2
open PySem PySem.Spec PyProof.Rows

theorem vals_ints:∀ {vs:List Value} {ns:List Int},IntsAre vs ns→Vals (ns.map V.int) vs
  | _,_,.nil => .nil
  | _,_,.cons n t h => .cons ⟨t,rfl⟩ (vals_ints h)

noncomputable def Only (H:Hp):Prop := ∀ b,H b=none∨∃ o xs,H b=some (.frz o (.lst xs))

theorem law_call {P:Program} {w:World} {K:PySem.W.Frag} {mg mb:Str→Option Value} {CX:CXT} {k:Nat} {fa a:Addr} {fd:FuncData} {x:Str} {sp:Sp} {s₁ : Shared} {vs:List Value} {ns:List Int}
    (KX:K.In s₁.heap) (hns:s₁.heap.Ns mainGlobals mg) (hb:s₁.heap.Ns builtinsNs mb) (hbb:∀ x:Str,x ≠ "__name__" → mb x=bootBuiltins x) (hlim:s₁.heap.NoLimit) (hg:s₁.gens = #[])
    (ha:s₁.heap.get? a=some { cls := .type "list",data := .seq vs.toArray }) (hi:IntsAre vs ns) (hl:ns.length≤sizeLine) (hr:Room k callerA)
    (F:∀ base:Heap,K.In base→base.Ns mainGlobals mg→FnOk P w K mg base CX k fa fd [x] sp) (hbind:∀ (s:Shared) (u:Value),BindsTo s fd ⟨[u], []⟩ [(x,u)])
    (hsp:∀ H:Hp,Only H→SqL K H a (ns.map V.int)→sp [.ref a] H (fun v _=>v = .bl true) fun _ _ _=>False)
    (hCX:∀ H e s',CX [] H s₁ (fun _ _ _=>False) e s'→False) :
    codeAny (model P w) callerA (.call (.ref fa) ⟨[.ref a], []⟩) (fun r s'=>r = .ok (.ret (.bool true))∧OldK s₁.heap s'.heap∧s'.os=s₁.os∧AllBare s'.gens) s₁ := by
  have rv:=vals_ints hi
  have lenV:=hi.length
  -- from an abstract heap in which nothing but the script may be tracked
  have core:∀ H:Hp,Only H→SqL K H a (ns.map V.int)→HOk P w H s₁.heap→(∀ b,H b≠none→b=a)→(H a≠none→K.lookup a=none) →
      codeAny (model P w) callerA (.call (.ref fa) ⟨[.ref a], []⟩) (fun r s'=>r = .ok (.ret (.bool true))∧OldK s₁.heap s'.heap∧s'.os=s₁.os∧AllBare s'.gens) s₁ := by
    intro H hO hS hok hA hK
    have base_of:∀ {b:Addr} {o:Obj},s₁.heap.get? b=some o→H b=none→(hidT s₁.heap H).get? b=some o:=fun e n=>hidT_get e n
    have noA:∀ {b:Addr} {o:Obj} {es:Array DictEntry} {ep:Nat},s₁.heap.get? b=some o→o.data = .dict es ep→H b=none:=fun {b o es ep} e d=>by
      cases q:H b with
      | none=>rfl
      | some u =>
        have e':b=a:=hA b (by rw [q];simp)
        subst e'
        rw [ha] at e;cases e
        have d':Data.seq vs.toArray _=Data.dict es ep:=d
        cases d'
    have nsK:∀ {b:Addr} {m:Str→Option Value},s₁.heap.Ns b m→(hidT s₁.heap H).Ns b m:=fun {b m} ⟨o,es,ep,e,d,r⟩=>⟨o,es,ep,base_of e (noA e d),d,r⟩
    have hKb:K.In (hidT s₁.heap H):=fun b o e=>base_of (KX b o e) (by
      cases q:H b with
      | none=>rfl
      | some u =>
        have e':b=a:=hA b (by rw [q];simp)
        subst e'
        rw [hK (by rw [q];simp)] at e;cases e)
    have hM:Mod K mg (hidT s₁.heap H):=⟨hKb,nsK hns,⟨mb,nsK hb,hbb⟩,let ⟨mc,h1,h2⟩:=hlim; ⟨mc,nsK h1,h2⟩⟩
    have e0:Env0 P w K mg (hidT s₁.heap H) callerA [] s₁ H:=⟨rfl,hM,fun b o e=>of_hidT e,Nat.le_of_eq (hidT_size _ _),trivial,fun b hb=>absurd (show b∈([]:List Addr) from hb) (by simp),hok,.of_eq hg⟩
    refine codeAny_mono ((F _ hKb (nsK hns)).run callerA [] s₁ H ⟨[.ref a], []⟩ [.ref a] [.ref a] _ _ hr e0 (hbind s₁ (.ref a)) (.cons rfl .nil) (hsp H hO hS)) fun r s' h => ?_
    cases r with
    | error e=>exact (hCX H e s' h).elim
    | ok fl =>
      cases fl with
      | next=>exact False.elim h
      | brk=>exact False.elim h
      | cont=>exact False.elim h
      | ret u =>
        obtain ⟨v,H',os,bare,un,hok',r',q⟩:=h
        have q':v = .bl true:=q
        subst q'
        obtain rfl:u=Value.bool true:=r'
        refine ⟨rfl,OldK.of_keep fun b o e => ?_,os,bare⟩
        cases q:H b with
        | none=>exact un.keep b o e q (by intro z;exact absurd (show b∈([]:List Addr) from z) (by simp)) (by simp)
        | some u =>
          rcases hO b with z | ⟨ob,xs,z⟩
          · rw [q] at z;cases z
          · have z2:=un.frzs b ob _ z
            obtain ⟨e1,_⟩:=hok b _ z
            obtain ⟨e2,_⟩:=hok' b _ z2
            rw [e] at e1;cases e1
            exact e2
  cases hk:K.lookup a with
  | some o =>
    -- the script is one of the module's own objects
    have e:=KX a o hk
    rw [ha] at e
    cases e
    refine core (fun _=>none) (fun _ => .inl rfl) (.inr ⟨_,vs.toArray,_,hk,rfl,rfl,rfl,by rw [List.size_toArray,lenV];exact hl,by simpa using rv⟩) (fun b u z=>by have z':(none:Option HO)=some u:=z;cases z') (fun b z=>absurd rfl z) fun z=>absurd rfl z
  | none =>
    refine core (fun b=>if b=a then some (.frz { cls := .type "list",data := .seq vs.toArray } (.lst (ns.map V.int))) else none) (fun b => ?_) (.inl (.inr ⟨{ cls := .type "list",data := .seq vs.toArray },if_pos rfl⟩)) (fun b u z => ?_) (fun b z => ?_) fun _=>hk
    · by_cases hb:b=a
      · exact .inr ⟨_,_,if_pos hb⟩
      · exact .inl (if_neg hb)
    · by_cases hb:b=a
      · have z':=(if_pos hb).symm.trans z
        cases z'
        subst hb
        exact ⟨ha,by rw [List.length_map];exact hl,vs,_,rv,ha⟩
      · have z':=(if_neg hb).symm.trans z
        cases z'
    · by_cases hb:b=a
      · exact hb
      · exact absurd (if_neg hb) z
end L2

namespace L2
open PySem PySem.Spec PyProof.Rows


end L2



namespace L2
open PySem PySem.Spec PyProof.Rows

noncomputable def inClass (s:Stmt) (j:Nat):Stmt:=match s with
  | .ClassDef _ _ _ body _ _ _ _ _ _ _=>body.getD j (.Pass ⟨0,0,0,0⟩)
  | _ => .Pass ⟨0,0,0,0⟩
noncomputable def defArgs (s:Stmt):Arguments:=match s with
  | .FunctionDef _ a _ _ _ _ _ _ _ _=>a
  | _=>{ posonlyargs := [],args := [],vararg:=none,kwonlyargs := [],kw_defaults := [],kwarg:=none,defaults := [] }
noncomputable def defBody (s:Stmt):List Stmt:=match s with
  | .FunctionDef _ _ b _ _ _ _ _ _ _=>b
  | _ => []
noncomputable def defScope (s:Stmt):Scope:=match s with
  | .FunctionDef _ _ _ _ _ _ sc _ _ _=>sc
  | _=>{ kind := .function,names := [],isGenerator:=false,isCoroutine:=false }

noncomputable abbrev CX0:CXT:=fun _ _ _ _ _ _=>False
noncomputable abbrev E0:XK:=fun _ _ _=>False
theorem pass0 {X:Cx}:Passes CX0 X E0:=fun _ _ _ _ _ _ _ h=>h.elim

structure Fun (K:PySem.W.Frag) (x qual:Str) (st:Stmt) (f:Addr) (fd:FuncData):Prop where
  ex:∃ (oc:Value) (od:Option Addr) (kV doc pm:Value) (an:Option Addr) (cdv ct:Value) (osl:Array (Option Value)),
    fd=PySem.W.fnOf x qual (defArgs st) (defBody st) (defScope st) .none kV doc pm an cdv ct∧K.lookup f=some ⟨oc,od,.func fd,osl⟩∧PySem.W.codeIn K cdv qual=true
  kp:PySem.W.keepIn K (.ref f)=true
section
variable {P:Program} {w:World} {K:PySem.W.Frag} {mg:Str→Option Value} {base:Heap}
theorem Fun.ok {x qual:Str} {st:Stmt} {f:Addr} {fd:FuncData} {N ps:List Str} {k:Nat} {sp:Sp} (F:Fun K x qual st f fd) (S:FnScope N ps (defScope st)) (len:∀ vs H Q E,sp vs H Q E→vs.length=ps.length)
    (hbody:∀ (cdv:Value) (A:Around) (outer:List Env) (s:Shared) (H:Hp) (vs:List V) (Q:VK) (E:XK),Room k (A.deeper (envOfC qual (defScope st) s.heap.objs.size f cdv))→sp vs H Q E →
      ∃ t,PSs (cxOf CX0 P w K mg base N qual (defScope st) f cdv A outer s H E).nox (defBody st) t∧t { nx:=fun _ H'=>Q .non H',rt:=Q } (start N vs) H):FnOk P w K mg base CX0 (k+1) f fd ps sp:=by
  obtain ⟨oc,od,kV,doc,pm,an,cdv,ct,osl,rfl,lk,hcd⟩:=F.ex
  refine fn_of lk hcd S len fun A outer s H vs Q E hr hsp => ?_
  obtain ⟨t,h,q⟩:=hbody cdv A outer s H vs Q E hr hsp
  exact ⟨t,h.nox,q⟩
theorem Fun.binds {x qual:Str} {st:Stmt} {f:Addr} {fd:FuncData} {ps:List Str} (F:Fun K x qual st f fd)
    (h:∀ (kV doc pm:Value) (an:Option Addr) (cdv ct:Value) (us:List Value),us.length=ps.length→bindArgs (PySem.W.fnOf x qual (defArgs st) (defBody st) (defScope st) .none kV doc pm an cdv ct) ⟨us, []⟩=pure (ps.zip us)):Binds K fd ps []:=by
  obtain ⟨oc,od,kV,doc,pm,an,cdv,ct,osl,rfl,lk,hcd⟩:=F.ex
  exact .all (h kV doc pm an cdv ct)
theorem fun_mk {x qual:Str} {st:Stmt} {f:Addr} {oc:Value} {od an:Option Addr} {osl:Array (Option Value)} {kV doc pm cdv ct:Value} (l:K.lookup f=some ⟨oc,od,.func (PySem.W.fnOf x qual (defArgs st) (defBody st) (defScope st) .none kV doc pm an cdv ct),osl⟩)
    (c:PySem.W.codeIn K cdv qual=true) (k:PySem.W.keepIn K (.ref f)=true):Fun K x qual st f (PySem.W.fnOf x qual (defArgs st) (defBody st) (defScope st) .none kV doc pm an cdv ct):=⟨⟨oc,od,kV,doc,pm,an,cdv,ct,osl,rfl,l,c⟩,k⟩
end
theorem hu_of {A:Around} {k:Nat} (hr:Room k A):A.units+1 < cLine:=Nat.lt_of_le_of_lt (Nat.add_le_add_left (by decide:1≤64) _) hr.units
theorem small1000 {n:Nat} (h:n≤1000):n < sizeLine:=Nat.lt_of_le_of_lt h (by decide)

section
variable {X:Cx}
theorem pv (i:Nat) {x:Str} {pos:Pos} (hN:X.N[i]? = some x:=by rfl) (hv:Vis X.env.scope x:=by first | exact Or.inl rfl | exact Or.inr (Or.inl rfl) | exact Or.inr (Or.inr rfl)) (hd:(x == ("__debug__" : Str))=false:=by decide)
    (hcd:(x == ("__classdict__" : Str))=false:=by decide):PE X (.Name x pos) (tVar i):=pe_var hN hv hd hcd
end

theorem iteF {A B:Prop} (h:B):if false=true then A else B:=by
  rw [if_neg Bool.false_ne_true]
  exact h
theorem iteT {A B:Prop} (h:A):if true=true then A else B:=by
  rw [if_pos rfl]
  exact h

noncomputable def Same (H H':Hp):Prop := ∀ b o,H b=some o→H' b=some o
theorem Same.refl (H:Hp):Same H H:=fun _ _ h=>h
theorem Same.trans {H H1 H2:Hp} (a:Same H H1) (b:Same H1 H2):Same H H2:=fun c o h=>b c o (a c o h)
theorem Same.free {H H':Hp} (e:Same H H') {l:Addr} (h:H' l=Option.none):H l=Option.none:=by
  cases q:H l with
  | none=>rfl
  | some o =>
    rw [e l o q] at h
    cases h
theorem Same.seq {K:PySem.W.Frag} {H H':Hp} {a:Addr} {xs:List V} (e:Same H H') (h:SqL K H a xs):SqL K H' a xs:=by
  rcases h with (h | ⟨o,h⟩) | h
  · exact .inl (.inl (e _ _ h))
  · exact .inl (.inr ⟨o,e _ _ h⟩)
  · exact .inr h

end L2
namespace L2
open PySem PySem.Spec PyProof.Rows

section
variable {X:Cx} {pins:List (Addr × Obj)} {σ : St} {H:Hp} {s:Shared} {h':Heap}
theorem Inv.turnedLaid {ch:List Addr} {a:Addr} {o:HO} {t':Nat} (I:Inv X pins σ H s) (k:∀ b u,b ∉ ch→s.heap.get? b=some u→h'.get? b=some u)
    (hch:∀ b∈ch,FpOk X pins H b) (hp:s.heap.objs.size≤a) (new:ObjOk X.prog X.w (upd H a o) h' a o):Inv X pins σ (upd H a o) { s with heap:=h',toks:=t' }:=by
  have hfr:H a=none:=I.hok.fresh hp
  have old:∀ b ob,s.heap.get? b=some ob→b≠a:=fun b ob e z=>by subst z;exact absurd (Nat.lt_of_lt_of_le (Heap.lt_size e) hp) (Nat.lt_irrefl _)
  have tr:∀ b u,H b=some u→b≠a:=fun b u e z=>by rw [z,hfr] at e;cases e
  have trc:∀ b u,H b=some u→b ∉ ch:=fun b u e z=>by rw [(hch b z).1] at e;cases e
  refine I.step (g':=s.gens) (d':=s.drawn) (ch:=ch) (fun b hb => ?_) (fun b ob _ _ hc e _=>k b ob hc e) (fun b ob _ _ hc e _=>⟨ob.slots,k b ob hc e⟩) (fun b ob _ e n => ?_)
    (fun b ob hc e=>⟨ob,k b ob hc e⟩) (fun b xs e => ?_) (fun b ob u e => ?_) (fun b ps e=>⟨#[],?_⟩) (fun m hm => ?_) (fun b u e => ?_) I.bare
  · obtain ⟨_,f1,_,f3,f4,f5⟩:=hch b hb
    exact ⟨f3,f1,f4,f5⟩
  · rw [upd_ne (old b ob e)];exact n
  · rw [upd_ne (tr b _ e)];exact e
  · rw [upd_ne (tr b _ e)];exact e
  · rw [upd_ne (tr b _ e),e];simp
  · obtain ⟨ob,es,ep,ho,r⟩:=hm
    exact ⟨ob,es,ep,k _ ob (fun z=>(hch _ z).2.1 rfl) ho,r⟩
  · by_cases hb:b=a
    · subst hb
      rw [upd_same] at e;cases e
      exact new
    · rw [upd_ne hb] at e
      refine (I.hok b u e).stay (fun c v hc q=>k c v ?_ q) (fun c q=>by rw [upd_ne (tr c _ q)];exact q) fun c xs q=>by rw [upd_ne (tr c _ q)];exact q
      rcases hc with z | z
      · rw [z];exact trc b u e
      · exact trc c _ z
end

theorem boot_enum:bootBuiltins "enumerate" = some (.type "enumerate"):=by decide +kernel
section
variable {X:Cx}

noncomputable def Itr3 (lo c:Int) (n:Nat):It:=⟨fun i _=>i < n,fun i H x H'=>H'=H∧x = .int (lo+(i:Int) * c),fun i _=>i=n⟩
theorem turn_range3 {P:Program} {w:World} {K:PySem.W.Frag} {tg:Expr} (it:Addr) (lo c:Int) (n:Nat):Turn P w K tg (Itr3 lo c n) [it] it (fun i h=>IsRangeIter h it (lo+(i:Nat) * c) ((n:Int) - (i:Nat)) c) where
  mem:=by simp
  obj:=fun i h st b hb=>by
    have e:b=it:=by simpa using hb
    subst e
    exact ⟨_,st,fun v z=>by
      have z':Data.fields _=Data.cell v:=z
      cases z'⟩
  keep:=fun i h h' st k=>k it (by simp) _ st
  item:=by
    intro X hP hw hK hc i pins s σ H E I hf st hg
    subst hP hw hK
    obtain ⟨f0,f1,f2,f3,f4,f5⟩:=hf it (by simp)
    have W:=Walks.range (prog:=X.prog) (w:=X.w) (I.ok.hd hc) it lo c n
    refine W.item i s _ _ hg st fun v h' tk hv st' kk => ?_
    obtain ⟨t,rfl⟩:=hv
    have I1:Inv X pins σ H { s with heap:=h',toks:=tk }:=I.turned (fun b o hb e=>kk b o (by simpa using hb) e) f0 f1 f3 f4 f5
    exact ⟨_,rfl,go_of (s := { s with heap:=h',toks:=tk }) (n := "range_iterator") st' rfl rfl (by decide) ⟨.int (lo+(i:Int) * c),H,I1,⟨t,rfl⟩,⟨rfl,rfl⟩,st',fun b hb=>(hf b hb).1⟩⟩
  done:=by
    intro X hP hw hK hc i pins s σ H E I hf st hg
    subst hP hw hK
    obtain ⟨f0,f1,f2,f3,f4,f5⟩:=hf it (by simp)
    exact wpAny_pyNext_range_end (I.ok.hd hc) st (by have:i=n:=hg;omega) fun h' eb=>⟨rfl,I.turned (t':=s.toks) (fun b o hb e=>eb b o hb e) f0 f1 f3 f4 f5⟩
  self:=fun _ _ _ _ _ st h=>wpAny_pyIter_rangeiter st h
noncomputable def many3 (lo hi c:Int):Nat:=(Builtin.Range.rangeSize lo hi c).toNat
theorem size3 {lo hi c:Int} (hc:0 < c):0≤Builtin.Range.rangeSize lo hi c∧(Builtin.Range.rangeSize lo hi c=0∨Builtin.Range.rangeSize lo hi c≤hi - lo):=by
  unfold Builtin.Range.rangeSize
  rw [if_pos hc]
  by_cases h:lo < hi
  · rw [if_pos h]
    have h1:0≤(hi - lo - 1) / c:=Int.ediv_nonneg (by omega) (by omega)
    have h2:(hi - lo - 1) / c≤hi - lo - 1:=Int.ediv_le_self _ (by omega)
    omega
  · rw [if_neg h];omega
theorem small3 {a b c:Int} (hc:0 < c) (hc':c < 2 ^ 30) (ha : -(2 ^ 61)≤a) (ha':a < 2 ^ 61) (hb : -(2 ^ 61)≤b) (hb':b < 2 ^ 61):Builtin.Range.small a b c=true:=by
  have h:=size3 (lo:=a) (hi:=b) hc
  unfold Builtin.Range.small
  generalize Builtin.Range.rangeSize a b c=z at h
  simp only [Builtin.Range.rangeFitsLong,Bool.and_eq_true,Bool.or_eq_true,decide_eq_true_eq,beq_iff_eq,gt_iff_lt,hc,if_true]
  omega
inductive J_iRng3 (R:It→Hp→Prop) (vs:List V) (H1:Hp):Prop
  | mk:∀ (i j c:Int),(vs = [.int i,.int j,.int c])→((0 < c∧c < 2 ^ 30 ∧ -(2 ^ 61)≤i∧i < 2 ^ 61 ∧ -(2 ^ 61)≤j∧j < 2 ^ 61))→(R (Itr3 i c (many3 i j c)) H1)→J_iRng3 R vs H1
noncomputable def iRng3 (ta:TA):TI:=fun σ H R=>ta σ H fun vs H1=>J_iRng3 R vs H1
theorem vals3 {x y z:V} {us:List Value} (r:Vals [x,y,z] us):∃ u v w',us = [u,v,w']∧RelV x u∧RelV y v∧RelV z w':=by
  cases r with
  | cons r1 r2 =>
    obtain ⟨v,w',rfl,h1,h2⟩:=vals2 r2
    exact ⟨_,_,_,rfl,r1,h1,h2⟩
theorem pi_range3 {a b c:Expr} {ta:TA} {tg:Expr} {p pos:Pos} (hg:Gl X "range") (hm:X.mg "range" = none) (ha:PA X [a,b,c] ta)
    (he:starEach (a :: [b,c]) X.env=(false,eval a X.env) :: starEach [b,c] X.env:=by rfl) (hpl:(backTo pos (starEach [b,c] X.env)).any (·.1)=false:=by rfl) :
    PI X tg (.Call (.Name "range" p) [a,b,c] [] pos) (iRng3 ta):=by
  intro pins s σ H R I h
  refine Call_ (ld_blt I hg hm boot_range (PyProof.Rows.callWith_type1 (thn (ha pos pins s σ H _ I h) fun us s1 ⟨vs,H1,I1,r1,q1⟩ => ?_) he hpl))
  obtain ⟨i,j,c,e,⟨c1,c2,q1,q2,q3,q4⟩,q⟩:=q1
  subst e
  obtain ⟨u,v,w',rfl,⟨t,rfl⟩,⟨t',rfl⟩,⟨t'',rfl⟩⟩:=vals3 r1
  refine call_range_3 (by omega) ?_ (.inl (PyProof.noPylong_small (by omega)))
  refine wpAny_pyIter_range (IsRange.new ..) (small3 c1 c2 q1 q2 q3 q4) ?_
  have I2:Inv X pins σ H1 { s1 with heap:=s1.heap.push { cls := .type "range",data := .fields #[.int i t,.int j t',.int c t''] } }:=I1.kept (t':=s1.toks) fun b o e=>Heap.get?_push_of_some _ e
  refine ⟨(s1.heap.push { cls := .type "range",data := .fields #[.int i t,.int j t',.int c t''] }).objs.size, [(s1.heap.push { cls := .type "range",data := .fields #[.int i t,.int j t',.int c t''] }).objs.size],_,_,H1,rfl,
    I2.kept (t':=s1.toks) fun b o e=>Heap.get?_push_of_some _ e,turn_range3 _ i c (many3 i j c),?_,fun b hb => ?_,q⟩
  · have z:=(size3 (lo:=i) (hi:=j) c1).1
    have e1:i+((0:Nat):Int) * c=i:=by simp
    have e2:((many3 i j c:Nat):Int) - ((0:Nat):Int)=Builtin.Range.rangeSize i j c:=by unfold many3;omega
    show IsRangeIter _ _ (i+((0:Nat):Int) * c) (((many3 i j c:Nat):Int) - ((0:Nat):Int)) c
    rw [e1,e2]
    exact Heap.get?_push_size _ rfl
  · have e:b=(s1.heap.push { cls := .type "range",data := .fields #[.int i t,.int j t',.int c t''] }).objs.size:=by simpa using hb
    subst e
    exact I2.fpOk (Nat.le_refl _) (I2.hok.fresh (Nat.le_refl _))
end


section
variable {X:Cx}
theorem foldl_cps (a:Array Nat):∀ (k:Nat) (acc:Array Nat),((List.replicate k a).foldl (· ++ ·) acc).toList=acc.toList ++ (List.replicate k a.toList).flatten
  | 0,acc=>by simp
  | k+1,acc=>by
    rw [List.replicate_succ,List.foldl_cons,foldl_cps a k,List.replicate_succ,List.flatten_cons,Array.toList_append,List.append_assoc]
noncomputable def timesS (z:Str) (n:Nat):Str:=⟨(List.replicate n z.cps.toList).flatten.toArray⟩
theorem timesS_len (z:Str) (n:Nat):(timesS z n).length=n * z.length:=by
  unfold timesS Str.length
  simp [List.length_flatten]
inductive J_op_mul_str (x:V) (y:V) (H:Hp) (Q:VK):Prop
  | mk:∀ z n,(x = .str z)→(y = .int n)→(1≤n)→(n≤1000)→(z.length≤1000)→(Q (.str (timesS z n.toNat)) H)→J_op_mul_str x y H Q
theorem op_mul_str:OpR X (binaryOp .Mult) (fun x y H Q=>J_op_mul_str x y H Q):=by
  intro pins s σ H x y v u Q I rx ry h
  obtain ⟨z,n,rfl,rfl,h1,h2,h3,q⟩:=h
  obtain ⟨t,rfl⟩:=rx
  obtain ⟨t',rfl⟩:=ry
  have e0:(⟨(List.replicate n.toNat z.cps).foldl (· ++ ·) #[]⟩:Str)=timesS z n.toNat:=by
    unfold timesS
    congr 1
    apply Array.toList_inj.mp
    rw [foldl_cps]
    simp
  have hlen:(timesS z n.toNat).length≤sizeLine:=by
    rw [timesS_len]
    have:n.toNat≤1000:=by omega
    have:=Nat.mul_le_mul this h3
    exact Nat.le_trans this (by decide)
  have e1:(n == 1 || z.length == 0)=true→timesS z n.toNat=z:=fun hc=>by
    unfold timesS
    rcases Bool.or_eq_true_iff.mp hc with hc | hc
    · have:n=1:=by simpa using hc
      subst this
      simp
    · have hz:z.length=0:=by simpa using hc
      have hz':z.cps = #[]:=Array.eq_empty_of_size_eq_zero hz
      cases z with
      | mk c =>
        simp only at hz'
        subst hz'
        simp
  refine PySem.P.mul_str (by
      have h1':¬ n < -(2 ^ 63:Int):=by omega
      have h2':¬ n ≥ 2 ^ 63:=by omega
      rw [decide_eq_false h1',decide_eq_false h2'];rfl) (fun _ _ => ?_) (fun _ _ => ?_) ?_
  · have e:((2:Int) ^ 63 - 1)=9223372036854775807:=by decide
    rw [e]
    have h4:(1000:Int)≤(9223372036854775807:Int) / n:=by
      refine (Int.le_ediv_iff_mul_le (by omega)).mpr ?_
      omega
    omega
  · unfold Builtin.Str.tooLong
    rw [timesS_len] at hlen
    exact decide_eq_false (by rw [Nat.mul_comm];omega)
  · rw [if_neg (by omega)]
    by_cases hc:(n == 1 || z.length == 0)=true
    · rw [if_pos hc]
      exact ⟨.str z,H,I,⟨_,rfl⟩,by rw [e1 hc] at q;exact q⟩
    · rw [if_neg hc]
      exact ⟨by rw [e0];exact hlen,⟨.str _,H,I.tok _,⟨_,rfl⟩,by rw [e0];exact q⟩⟩
inductive J_rSlS (x:V) (lo:Option Int) (hi:Option Int) (H:Hp) (Q:VK):Prop
  | mk:∀ z,(x = .str z)→(z.length≤sizeLine)→(Q (.str (Txt.slice z lo hi)) H)→J_rSlS x lo hi H Q
noncomputable def rSlS:V→Option Int→Option Int→Hp→VK→Prop:=fun x lo hi H Q=>J_rSlS x lo hi H Q
theorem sl_str:SlR X rSlS:=by
  intro pins s σ H x v vl vu lo hi sl Q I rx hs pl pu h
  obtain ⟨z,rfl,hz,q⟩:=h
  obtain ⟨t,rfl⟩:=rx
  refine ⟨"str",_,F.slot_str_getitem.lookup,typeIs_str _ _ _,?_⟩
  obtain ⟨o,ho,hc,hd⟩:=hs
  have fin:∀ t' k,EP X pins σ Q (.str (Txt.slice z lo hi) t') { s with toks:=k }:=fun t' k=>⟨.str _,H,I.tok _,⟨_,rfl⟩,q⟩
  cases pl with
  | none =>
    cases pu with
    | none=>exact wpAny_getItem_str_slice (l:=none) (u:=none) (st:=none) ⟨o,ho,hc,hd⟩ rfl (post_val_or_str ⟨Nat.le_trans (Txt.slice_le z _ _) hz,fin⟩)
    | int j uj=>exact wpAny_getItem_str_slice (l:=none) (u:=some (j,uj)) (st:=none) ⟨o,ho,hc,hd⟩ rfl (post_val_or_str ⟨Nat.le_trans (Txt.slice_le z _ _) hz,fin⟩)
  | int i ui =>
    cases pu with
    | none=>exact wpAny_getItem_str_slice (l:=some (i,ui)) (u:=none) (st:=none) ⟨o,ho,hc,hd⟩ rfl (post_val_or_str ⟨Nat.le_trans (Txt.slice_le z _ _) hz,fin⟩)
    | int j uj=>exact wpAny_getItem_str_slice (l:=some (i,ui)) (u:=some (j,uj)) (st:=none) ⟨o,ho,hc,hd⟩ rfl (post_val_or_str ⟨Nat.le_trans (Txt.slice_le z _ _) hz,fin⟩)
inductive J_call_isT (kK:PySem.W.Frag) (xs:List V) (H:Hp) (Q:VK):Prop
  | mk:∀ x T t b,(xs = [x,.ty T])→(TyOf kK H x t)→(PySem.W.kitOne kK t (.type T)=some b)→(Q (.bl b) H)→J_call_isT kK xs H Q
theorem call_isT:CallR X (.builtin "isinstance") (fun xs H Q=>J_call_isT X.K xs H Q):=by
  intro pins s σ H xs us Q I r h
  obtain ⟨x,T,t,b,rfl,ty,e,q⟩:=h
  obtain ⟨u,w',rfl,rx,ry⟩:=vals2 r
  cases ry
  exact isinst_ok I rx ty e fun tk=>⟨.bl b,H,I.tok _,rfl,q⟩
theorem strsAre_of {ys:List Str}:∀ {us:List Value},Vals (ys.map V.str) us→StrsAre us ys:=by
  induction ys with
  | nil=>intro us r;rw [List.map_nil] at r;cases r;exact .nil
  | cons y ys ih =>
    intro us r
    rw [List.map_cons] at r
    cases r with
    | cons r1 r2 =>
      obtain ⟨t,e⟩:=r1
      subst e
      exact .cons y t (ih r2)
inductive J_rJoin (K:PySem.W.Frag) (x:V) (vs:List V) (H:Hp) (Q:VK):Prop
  | mk:∀ (z:Str) (l:Addr) (ys:List Str),(x = .str z)→(vs = [.ref l])→(SqL K H l (ys.map V.str))→((ys.map (·.length)).sum+ys.length * z.length≤16777216)→(Q (.str (Txt.join z ys)) H)→J_rJoin K x vs H Q
noncomputable def rJoin (K:PySem.W.Frag):V→List V→Hp→VK→Prop:=fun x vs H Q=>J_rJoin K x vs H Q
theorem mt_join:MtR X "str.join" (rJoin X.K):=by
  intro pins s σ H x vs v us Q I rx rv h
  obtain ⟨z,l,ys,rfl,rfl,hq,hb,q⟩:=h
  obtain ⟨t,rfl⟩:=rx
  obtain ⟨u,rfl,ru⟩:=vals1 rv
  cases ru
  obtain ⟨its,rv,pl,hz⟩:=I.list hq
  exact join_list pl.isList (strsAre_of rv) hb fun t' k=>⟨.str _,H,I.tok _,⟨_,rfl⟩,q⟩
end
end L2
namespace L2
open PySem PySem.Spec PyProof.Rows

noncomputable def capsOf (cells:List (Str × Addr)):List (Str × NameKind)→List (Str × Addr)→List (Str × Addr)
  | [],acc=>acc
  | (n,k) :: r,acc=>if k == .free then (match cells.lookup n with | some c=>capsOf cells r ((n,c) :: acc) | none=>capsOf cells r acc) else capsOf cells r acc
theorem capsOf_cells {cells:List (Str × Addr)}:∀ {names:List (Str × NameKind)} {acc:List (Str × Addr)} {x:Str} {c:Addr},(∀ x c,acc.lookup x=some c→cells.lookup x=some c)→(capsOf cells names acc).lookup x=some c→cells.lookup x=some c
  | [],_,x,c,ha,h=>ha x c h
  | (n,k) :: r,acc,x,c,ha,h=>by
    unfold capsOf at h
    by_cases hk:(k == NameKind.free)=true
    · rw [if_pos hk] at h
      cases e:cells.lookup n with
      | none =>
        rw [e] at h
        exact capsOf_cells ha h
      | some d =>
        rw [e] at h
        refine capsOf_cells (fun y z hy => ?_) h
        rw [List.lookup_cons] at hy
        cases q:y == n with
        | true =>
          rw [q] at hy
          have:y=n:=by simpa using q
          rw [this,e];exact hy
        | false =>
          rw [q] at hy
          exact ha y z hy
    · rw [if_neg hk] at h
      exact capsOf_cells ha h
theorem capsOf_acc {cells:List (Str × Addr)}:∀ {names:List (Str × NameKind)} {acc:List (Str × Addr)} {x:Str},(acc.lookup x).isSome=true→((capsOf cells names acc).lookup x).isSome=true
  | [],_,_,h=>h
  | (n,k) :: r,acc,x,h=>by
    unfold capsOf
    by_cases hk:(k == NameKind.free)=true
    · rw [if_pos hk]
      cases e:cells.lookup n with
      | none=>exact capsOf_acc h
      | some d =>
        refine capsOf_acc ?_
        rw [List.lookup_cons]
        cases q:x == n with
        | true=>rfl
        | false=>exact h
    · rw [if_neg hk];exact capsOf_acc h
theorem capsOf_has {cells:List (Str × Addr)}:∀ {names:List (Str × NameKind)} {acc:List (Str × Addr)} {x:Str},(x,NameKind.free)∈names→(cells.lookup x).isSome=true→((capsOf cells names acc).lookup x).isSome=true
  | [],_,_,h,_=>nomatch h
  | (n,k) :: r,acc,x,h,hc=>by
    unfold capsOf
    rcases List.mem_cons.mp h with e | h
    · cases e
      rw [if_pos (show (NameKind.free == NameKind.free)=true from rfl)]
      cases e:cells.lookup n with
      | none=>rw [e] at hc;cases hc
      | some d =>
        refine capsOf_acc ?_
        rw [List.lookup_cons]
        simp
    · by_cases hk:(k == NameKind.free)=true
      · rw [if_pos hk]
        cases e:cells.lookup n with
        | none=>exact capsOf_has h hc
        | some d=>exact capsOf_has h hc
      · rw [if_neg hk];exact capsOf_has h hc
theorem caps_cells {cells:List (Str × Addr)} {names:List (Str × NameKind)} {x:Str} {c:Addr} (h:(capsOf cells names []).lookup x=some c):cells.lookup x=some c :=
  capsOf_cells (fun _ _ z=>by simp at z) h
theorem forIn_caps {env:Env}:∀ (names:List (Str × NameKind)) (acc:List (Str × Addr)),(∀ y∈names,y.2 = .free→∃ c,env.cells.lookup y.1=some c) →
    (forIn names acc fun x r=>match x with
      | (name,kind)=>if (kind == NameKind.free)=true then (do let c ← cellOf env name;pure (ForInStep.yield ((name,c) :: r))) else pure (ForInStep.yield r):Sem (List (Str × Addr)))=pure (capsOf env.cells names acc)
  | [],acc,_=>rfl
  | (n,k) :: r,acc,h=>by
    have hr:∀ y∈r,y.2 = .free→∃ c,env.cells.lookup y.1=some c:=fun y hy=>h y (List.mem_cons_of_mem _ hy)
    rw [List.forIn_cons]
    by_cases hk:(k == NameKind.free)=true
    · have ek:k = .free:=by simpa using hk
      obtain ⟨c,hc⟩:=h (n,k) List.mem_cons_self ek
      have e1:cellOf env n=pure c:=by
        have hc':env.cells.lookup n=some c:=hc
        unfold cellOf
        rw [hc']
      unfold capsOf
      rw [if_pos hk]
      have hc':env.cells.lookup n=some c:=hc
      rw [hc']
      simp only [hk,if_true,e1]
      exact forIn_caps r ((n,c) :: acc) hr
    · unfold capsOf
      rw [if_neg hk]
      simp only [hk]
      exact forIn_caps r acc hr
theorem closure_caps {scope:Scope} {env:Env} (h:∀ y∈scope.names,y.2 = .free→∃ c,env.cells.lookup y.1=some c):closureFor scope env=pure (capsOf env.cells scope.names []):=by
  have e:=forIn_caps scope.names [] h
  unfold closureFor
  show (Bind.bind (forIn scope.names [] fun x r=>match x with
      | (name,kind)=>if (kind == NameKind.free)=true then (do let c ← cellOf env name;pure (ForInStep.yield ((name,c) :: r))) else pure (ForInStep.yield r):Sem (List (Str × Addr))) fun r=>pure r)=_
  rw [e]
  rfl

theorem relabel_free {scope:Scope} {env:Env} {x:Str} (hc:∀ y∈scope.names,y.2 ≠ .cell) (h:(relabel scope env).names.lookup x=some .cell∨(relabel scope env).names.lookup x=some .free):(x,NameKind.free)∈scope.names:=by
  unfold relabel at h
  simp only at h
  generalize scope.names=names at h hc
  induction names with
  | nil=>rcases h with h | h <;> cases h
  | cons y r ih =>
    obtain ⟨n,k⟩:=y
    have hr:∀ y∈r,y.2≠NameKind.cell:=fun y hy=>hc y (List.mem_cons_of_mem _ hy)
    rw [List.map_cons] at h
    by_cases hk:(k == NameKind.free && env.scope.kind == .function && env.kindOf n == some .cell)=true
    · simp only [hk,if_true,List.lookup_cons] at h
      cases q:x == n with
      | true =>
        have e:x=n:=by simpa using q
        have ek:k = .free:=by
          have:=(Bool.and_eq_true_iff.mp (Bool.and_eq_true_iff.mp hk).1).1
          simpa using this
        rw [e,ek];exact List.mem_cons_self
      | false =>
        rw [q] at h
        exact List.mem_cons_of_mem _ (ih h hr)
    · simp only [hk,Bool.false_eq_true,if_false,List.lookup_cons] at h
      cases q:x == n with
      | true =>
        rw [q] at h
        have e:x=n:=by simpa using q
        have hk0:k ≠ .cell:=hc (n,k) List.mem_cons_self
        rcases h with h | h
        · exact absurd (Option.some.inj h) hk0
        · rw [e,Option.some.inj h];exact List.mem_cons_self
      | false =>
        rw [q] at h
        exact List.mem_cons_of_mem _ (ih h hr)

theorem relabel_of_free {scope:Scope} {env:Env} {x:Str} (h:scope.names.lookup x=some .free):(relabel scope env).names.lookup x=some .cell∨(relabel scope env).names.lookup x=some .free:=by
  unfold relabel
  simp only
  generalize scope.names=names at h
  induction names with
  | nil=>cases h
  | cons y r ih =>
    obtain ⟨n,k⟩:=y
    rw [List.map_cons]
    rw [List.lookup_cons] at h
    by_cases hk:(k == NameKind.free && env.scope.kind == .function && env.kindOf n == some .cell)=true
    · simp only [hk,if_true,List.lookup_cons]
      cases q:x == n with
      | true=>exact .inl rfl
      | false=>rw [q] at h;exact ih h
    · simp only [hk,Bool.false_eq_true,if_false,List.lookup_cons]
      cases q:x == n with
      | true=>rw [q] at h;exact .inr h
      | false=>rw [q] at h;exact ih h

noncomputable def cxComp (X:Cx) (scope:Scope) (N:List Str) (fp:List Addr) (s:Shared) (H:Hp):Cx :=
  { X with N:=N,s₀ := s,H₀ := H,env:=compEnvC scope (capsOf X.env.cells scope.names []) s.heap.objs.size X.env,outer:=X.stack,ex:=fp,fn:=fun _=>false,pn := [],xe:=fun _ _=>False }

structure CompScope (X:Cx) (scope:Scope) (own:List Str) (caps:List (Str × Nat)):Prop where
  kind:scope.kind = .function
  nocell:∀ y∈scope.names,y.2 ≠ .cell
  locs:∀ y∈scope.names,y.2 = .local→scope.names.lookup y.1=some .local
  frees:∀ y∈scope.names,y.2 = .free→X.env.kindOf y.1=some .cell
  own:∀ x∈own,scope.names.lookup x=some .local
  caps:∀ p∈caps,X.N[p.2]? = some p.1∧X.env.kindOf p.1=some .cell∧scope.names.lookup p.1=some .free

noncomputable def capt (σ : St) (caps:List (Str × Nat)):St:=caps.map fun p=>(σ[p.2]?).join
section
variable {X:Cx} {scope:Scope} {own:List Str} {caps:List (Str × Nat)} {pins:List (Addr × Obj)} {σ : St} {H:Hp} {s:Shared} {fp:List Addr}
theorem comp_ok (S:CompScope X scope own caps) (I:Inv X pins σ H s) (hf:∀ b∈fp,FpOk X pins H b) (hl:∀ b∈fp,b < s.heap.objs.size):(cxComp X scope (own ++ caps.map (·.1)) fp s H).Ok where
  mod:=I.ok.mod
  kind:=S.kind
  glob:=I.ok.glob
  blt:=I.ok.blt
  above:=Nat.le_refl _
  inj:=fun x y c h1 h2=>I.ok.inj x y c (caps_cells h1) (caps_cells h2)
  has:=fun x h=>by
    have hm:=relabel_free S.nocell h
    obtain ⟨c,hc⟩:=I.ok.has x (.inl (S.frees _ hm rfl))
    exact Option.isSome_iff_exists.mp (capsOf_has hm (by rw [hc];rfl))
  cab:=fun x c h _=>nomatch h
  hd:=I.ok.hd
  frames:=I.ok.frames
  stk := .inl rfl
  exf:=fun b hb=>⟨Nat.ne_of_lt (hl b hb),fun x c h=>(hf b hb).2.2.2.2.1 x c (caps_cells h)⟩
  bs:=I.bs
  bsz:=Nat.le_trans I.ok.bsz I.sz
  noex:=fun b o e hb=>by
    rcases (hf b hb).2.2.2.1 with z | z
    · exact I.ok.noex b o e z
    · exact absurd (Nat.lt_of_lt_of_le (Nat.lt_of_lt_of_le (Heap.lt_size e) I.ok.bsz) z) (Nat.lt_irrefl _)
  exfs:=fun b hb z=>by
    rcases List.mem_cons.mp (I.stkSub b z) with e | e
    · exact (hf b hb).2.1 e
    · exact (hf b hb).2.2.1 e
  funs:=I.stack
  frf:=I.stkFree
theorem comp_start (S:CompScope X scope own caps) (I:Inv X pins σ H s) (hf:∀ b∈fp,FpOk X pins H b) (hl:∀ b∈fp,b < s.heap.objs.size) {h1:Heap} {m:Str→Option Value} {t:Nat} (hn:h1.Ns s.heap.objs.size m)
    (hk:∀ b o,s.heap.get? b=some o→h1.get? b=some o):Inv (cxComp X scope (own ++ caps.map (·.1)) fp s H) [] (List.replicate own.length none ++ capt σ caps) H { s with heap:=h1,toks:=t }:=by
  refine ⟨comp_ok S I hf hl,rfl,I.bare,Un.kept hk,⟨m,hn,fun i y v e1 e2 e3 => ?_⟩,fun x c e => ?_,I.hok.fresh (Nat.le_refl _),fun x c e=>I.freeC x c (caps_cells e),(fun p hp=>by cases hp),I.hok.kept hk,?_⟩
  · have hi:own.length≤i:=by
      by_cases hi:i < own.length
      · rw [List.getElem?_append_left (by simpa using hi),List.getElem?_replicate,if_pos hi] at e2
        cases e2
      · omega
    rw [List.getElem?_append_right (by simpa using hi),List.length_replicate] at e2
    unfold capt at e2
    rw [List.getElem?_map] at e2
    have e1':(own ++ caps.map (·.1))[i]? = some y:=e1
    rw [List.getElem?_append_right hi,List.getElem?_map] at e1'
    cases q:caps[i - own.length]? with
    | none=>rw [q] at e2;cases e2
    | some p =>
      rw [q] at e1' e2
      have ey:p.1=y:=Option.some.inj e1'
      have ev:(σ[p.2]?).join=some v:=Option.some.inj e2
      have eσ : σ[p.2]? = some (some v):=by
        cases z : σ[p.2]? with
        | none=>rw [z] at ev;cases ev
        | some w'=>rw [z] at ev;rw [show w'=some v from ev]
      obtain ⟨hN,hkind,hfree⟩:=S.caps p (List.mem_of_getElem? q)
      rw [ey] at hN hkind hfree
      obtain ⟨mX,hnX,hlX⟩:=I.loc
      obtain ⟨u,ru,lk⟩:=hlX p.2 y v hN eσ (.inr (.inl hkind))
      refine ⟨u,ru,?_⟩
      rcases lk with ⟨k1,_⟩ | ⟨_,c,hc,hcell⟩
      · rw [hkind] at k1;cases k1
      · have hm:=relabel_free S.nocell (relabel_of_free (env:=X.env) hfree)
        obtain ⟨c',hc'⟩:=Option.isSome_iff_exists.mp (capsOf_has (acc := []) hm (by rw [hc];rfl))
        have:=caps_cells hc'
        rw [hc] at this;cases this
        obtain ⟨o,ho,hd⟩:=hcell
        exact .inr ⟨relabel_of_free (env:=X.env) hfree,c,hc',⟨o,hk _ _ ho,hd⟩⟩
  · obtain ⟨v,o,ho,hd⟩:=I.cell x c (caps_cells e)
    exact ⟨v,o,hk _ _ ho,hd⟩
  · show _=(own ++ caps.map (·.1)).length
    simp [capt]
theorem comp_back {N:List Str} {τ : St} {H':Hp} {s':Shared} (I:Inv X pins σ H s) (J:Inv (cxComp X scope N fp s H) [] τ H' s') (hf:∀ b∈fp,FpOk X pins H b):Inv X pins σ H' s' :=
  I.call' (ch:=fp) J.os J.base J.hok J.bare fun b hb=>by
    obtain ⟨_,f1,_,f3,f4,f5⟩:=hf b hb
    exact ⟨f3,f1,f4,f5⟩
theorem comp_go {prog:Program} {w:World} {A:Around} {R:Result→Shared→Prop} {elt target iter:Expr} {pos:Pos} {it acc:Value} {env:Env} (Iv:Nat→Shared→Prop)
    (turn:∀ n s,Iv n s→wpAny (model prog w) A (pyNext it) (fun r s₁ => match r with
      | none=>R (.ok .next) s₁
      | some v=>wpAny (model prog w) A (letOwnedTupleGo target it v) (fun _ s₂ => wpAny (model prog w) A (assign target env v) (fun _ s₃ => wpAny (model prog w) A (eval elt env) (fun x s₄ =>
              wpAny (model prog w) A (call (.builtin "list.append") [acc,x]) (fun _ s₅ => ∃ m,m < n∧Iv m s₅) (fun _ _=>False) s₄) (fun _ _=>False) s₃) (fun _ _=>False) s₂) (fun _ _=>False) s₁) (fun _ _=>False) s)
    (n:Nat) (h:Iv n s):codeAny (model prog w) A (.compLoop (.ListComp elt [⟨target,iter, [],0⟩] scope pos) 0 it acc env) R s:=by
  refine codeAny_loop rfl Iv (fun n s hI => ?_) n h
  show wpAny _ A ((compTurn (.ListComp elt [⟨target,iter, [],0⟩] scope pos) 0 it acc env).onRaise (fun x=>do noteFrame x env;theTreesLotGoes x)) _ _ s
  refine wpAny_noted ?_
  rw [compTurn_list]
  refine wpAny_bind (wpAny_standAt (wpAny_bind (wpAny_mono (turn n s hI) (fun r s₁ h₁ => ?_) fun _ _ z=>z.elim)))
  cases r with
  | none=>exact wpAny_pure h₁
  | some v =>
    refine wpAny_bind (wpAny_mono h₁ (fun _ s₂ h₂ => wpAny_bind (wpAny_mono h₂ (fun _ s₃ h₃ => wpAny_bind (wpAny_tests_nil ?_)) fun _ _ z=>z.elim)) fun _ _ z=>z.elim)
    exact wpAny_bind (wpAny_bind (wpAny_mono h₃ (fun x s₄ h₄ => wpAny_bind (wpAny_mono h₄ (fun _ s₅ h₅ => wpAny_pure (wpAny_pure ⟨rfl,h₅⟩)) fun _ _ z=>z.elim)) fun _ _ z=>z.elim))

noncomputable def CompBody (J:It) (g:TG) (te:TE) (τ0:St) (H1:Hp) (Q:VK):Prop := ∀ D,H1 D=none→∃ W:Nat→Nat→St→List V→Hp→Prop,
  (∃ m,W 0 m τ0 [] (upd H1 D (.lst []))) ∧
  ∀ i m τ ys H,W i m τ ys H→H D=some (.lst ys)∧((J.stop i H∧Q (.ref D) H)∨(J.go i H∧ys.length < sizeLine∧∀ x H',J.yld i H x H'→g x τ H' fun τ2 H2=>te τ2 H2 fun y H3 =>
    H3 D=some (.lst ys)∧∃ m',m' < m∧W (i+1) m' τ2 (ys ++ [y]) (upd H3 D (.lst (ys ++ [y])))))
noncomputable def tComp (wi:TI) (g:TG) (te:TE) (k:Nat) (caps:List (Str × Nat)):TE:=fun σ H Q=>wi σ H fun J H1=>CompBody J g te (List.replicate k none ++ capt σ caps) H1 Q

theorem comp_core {tg elt iter:Expr} {wi:TI} {g:TG} {te:TE} {pos p2:Pos} {use:Option (Value→Sem Unit)} {Q:VK} {Q':Value→Shared→Prop} (S:CompScope X scope own caps) (hi:PI X tg iter wi) (hc:X.calm=true)
    (hg:∀ fp s H,PG (cxComp X scope (own ++ caps.map (·.1)) fp s H) tg g) (he:∀ fp s H,PE (cxComp X scope (own ++ caps.map (·.1)) fp s H) elt te)
    (I:Inv X pins σ H s) (h:tComp wi g te own.length caps σ H Q)
    (fin:∀ D C H5 s5,Inv X pins σ H5 s5→Q (.ref D) H5→(∃ m,s5.heap.Ns C m)→H5 C=none→C≠X.env.locals→X.s₀.heap.objs.size≤C→(∀ x c,X.env.cells.lookup x=some c→c≠C)→(∀ p∈X.pn ++ pins,p.1≠C) →
      compPost (model X.prog X.w) X.A X.xe use Q' (.ref D) C (.ok .next) s5)
    (hs:∀ x,foldedSetIterable iter X.env x=pure x:=by intro _;rfl) :
    wpAny (model X.prog X.w) X.A (comprehension (.ListComp elt [⟨tg,iter, [],0⟩] scope pos) scope X.env p2 (newList []) false (eval iter X.env) use) Q' X.xe s:=by
  have hclos:closureFor scope X.env=pure (capsOf X.env.cells scope.names []):=closure_caps fun y hy hk=>I.ok.has y.1 (.inl (S.frees y hy hk))
  refine wpAny_comprehension_free (g:=⟨tg,iter, [],0⟩) (gs := []) rfl hs hclos S.kind S.locs (thn (hi pins s σ H _ I h) fun v s1 h1=>thn h1 fun itv s2 h2 => ?_)
  obtain ⟨it,fp,tn,J,H2,e,I2,T,st2,f2,R⟩:=h2
  subst e
  refine wpAny_newObj_type (wpAny_newFunctionEnv S.nocell (by intro y hy;simp at hy) (fun h₁ hns₁ hsb₁ => ?_) S.kind)
  have fr2:H2 s2.heap.objs.size=none:=I2.hok.fresh (Nat.le_refl _)
  obtain ⟨W,⟨m0,w0⟩,turn⟩:=R s2.heap.objs.size fr2
  have I3:Inv X pins σ (upd H2 s2.heap.objs.size (.lst [])) { s2 with heap:=s2.heap.push { cls := .type "list",dict:=none,data := .seq ([]:List Value).toArray } }:=I2.lnew (its := []) (t':=s2.toks) .nil (Nat.zero_le _)
  have lt2:∀ b∈fp,b < s2.heap.objs.size:=fun b hb=>by
    obtain ⟨o,ho,_⟩:=T.obj _ _ st2 b hb
    exact Heap.lt_size ho
  have f3:∀ b∈fp,FpOk X pins (upd H2 s2.heap.objs.size (.lst [])) b:=fun b hb=>⟨by rw [upd_ne (Nat.ne_of_lt (lt2 b hb))];exact (f2 b hb).1,(f2 b hb).2⟩
  generalize hs3:({ s2 with heap:=s2.heap.push { cls := .type "list",dict:=none,data := .seq ([]:List Value).toArray } }:Shared)=s3 at I3
  have hz3:s3.heap.objs.size=s2.heap.objs.size+1:=by rw [← hs3];exact Heap.size_push _ _
  have kp23:∀ b o,s2.heap.get? b=some o→s3.heap.get? b=some o:=fun b o e=>by rw [← hs3];exact Heap.get?_push_of_some _ e
  have lt3:∀ b∈fp,b < s3.heap.objs.size:=fun b hb=>by rw [hz3];exact Nat.lt_succ_of_lt (lt2 b hb)
  have hns₁':h₁.Ns s3.heap.objs.size (fun x=>([]:List (Str × Value)).reverse.lookup x):=by rw [← hs3];exact hns₁
  have kp31:∀ b o,s3.heap.get? b=some o→h₁.get? b=some o:=fun b o e=>by
    have hb:b≠s3.heap.objs.size:=Nat.ne_of_lt (Heap.lt_size e)
    rw [← hs3] at e hb
    exact hsb₁.extBut b o hb (Heap.get?_push_of_some _ e)
  have J1:=comp_start S I3 f3 lt3 (t:=s2.toks+([]:List (Str × Value)).length) hns₁' kp31
  have st1:tn 0 h₁ := T.keep _ _ _ st2 fun b hb o e=>kp31 b o (kp23 b o e)
  -- the loop
  have loop:∀ s₃ : Shared,s₃ = { s3 with heap:=h₁,toks:=s2.toks+([]:List (Str × Value)).length } →
      codeAny (model X.prog X.w) X.A (.compLoop (.ListComp elt [⟨tg,iter, [],0⟩] scope pos) 0 (.ref it) (.ref s2.heap.objs.size) (cxComp X scope (own ++ caps.map (·.1)) fp s3 (upd H2 s2.heap.objs.size (.lst []))).env)
        (compPost (model X.prog X.w) X.A X.xe use Q' (.ref s2.heap.objs.size) s3.heap.objs.size) s₃ := by
    rintro s₃ rfl
    refine comp_go (fun n s'=>∃ i τ ys H',Inv (cxComp X scope (own ++ caps.map (·.1)) fp s3 (upd H2 s2.heap.objs.size (.lst []))) [] τ H' s'∧tn i s'.heap∧(∀ b∈fp,H' b=none)∧W i n τ ys H') ?_ m0
      ⟨0,_, [],_,J1,st1,fun b hb=>(f3 b hb).1,w0⟩
    rintro n s' ⟨i, τ,ys,H',J',st',fr',w'⟩
    have fY:∀ {H'':Hp},(∀ b∈fp,H'' b=none)→∀ b∈fp,FpOk (cxComp X scope (own ++ caps.map (·.1)) fp s3 (upd H2 s2.heap.objs.size (.lst []))) [] H'' b:=fun hn b hb =>
      ⟨hn b hb,Nat.ne_of_lt (lt3 b hb),fun z=>by
          rcases List.mem_cons.mp (I3.stkSub b z) with e | e
          · exact (f3 b hb).2.1 e
          · exact (f3 b hb).2.2.1 e,.inl hb,fun x c e=>(f3 b hb).2.2.2.2.1 x c (caps_cells e),(fun p hp=>by cases hp)⟩
    obtain ⟨hD,tt⟩:=turn i n τ ys H' w'
    rcases tt with ⟨stop,qn⟩ | ⟨go,hlen,step⟩
    · refine thn (T.done (cxComp X scope (own ++ caps.map (·.1)) fp s3 (upd H2 s2.heap.objs.size (.lst []))) rfl rfl rfl hc i [] s' τ H' (fun _ _=>False) J' (fY fr') st' stop) fun r s4 ⟨hr,J4⟩ => ?_
      subst hr
      obtain ⟨m4,hn4,_⟩:=J4.loc
      have I5:=comp_back I3 J4 f3
      refine fin _ _ _ s4 I5 qn ⟨m4,hn4⟩ J4.free ?_ ?_ (fun x c e z => ?_) fun p hp z => ?_
      · exact Nat.ne_of_gt I3.lt
      · exact I3.sz
      · obtain ⟨v,q⟩:=I3.cell x c e
        rw [z] at q
        exact absurd q.lt (Nat.lt_irrefl _)
      · have q:=(I3.pin p hp).1
        rw [z] at q
        exact absurd (Heap.lt_size q) (Nat.lt_irrefl _)
    · refine thn (T.item (cxComp X scope (own ++ caps.map (·.1)) fp s3 (upd H2 s2.heap.objs.size (.lst []))) rfl rfl rfl hc i [] s' τ H' (fun _ _=>False) J' (fY fr') st' go) fun r s4 ⟨u,hr,h4⟩ => ?_
      subst hr
      refine thn h4 fun _ s5 ⟨x,H5,J5,r5,y5,st5,fr5⟩ => ?_
      have J5':=J5.pinned (fY fr5) (T.obj _ _ st5)
      refine thn (hg fp s3 _ _ s5 τ H5 x u _ J5' r5 (step x H5 y5)) fun _ s6 ⟨τ6,H6,J6,q6⟩ => ?_
      refine thn (he fp s3 _ _ s6 τ6 H6 _ J6 q6) fun yv s7 ⟨y,H7,J7,r7,hD7,m',hm',w7⟩ => ?_
      refine thn (mt_append (X:=cxComp X scope (own ++ caps.map (·.1)) fp s3 (upd H2 s2.heap.objs.size (.lst []))) _ s7 τ6 H7 (.ref s2.heap.objs.size) [y] _ [yv] (fun _ H8=>H8=upd H7 s2.heap.objs.size (.lst (ys ++ [y]))) J7 rfl (.cons r7 .nil) ⟨_,ys,y,rfl,rfl,hD7,hlen,rfl⟩) fun _ s8 ⟨_,H8,J8,_,e8⟩ => ?_
      subst e8
      refine ⟨m',hm',i+1, τ6,ys ++ [y],_,J8.unpinned,T.keep _ _ _ st5 fun b hb o e=>(J8.pin (b,o) (List.mem_append_right _ (List.mem_append_right _ (mem_pinsAt hb e)))).1,fun b hb => ?_,w7⟩
      obtain ⟨o,e,d⟩:=T.obj _ _ st5 b hb
      exact (J8.pin (b,o) (List.mem_append_right _ (List.mem_append_right _ (mem_pinsAt hb e)))).2.1
  have hloop:=loop _ rfl
  subst hs3
  exact codeAny_compStart_list hloop (T.self _ 0 _ _ _ st1 hloop)
theorem pe_comp {tg elt iter:Expr} {wi:TI} {g:TG} {te:TE} {pos:Pos} (S:CompScope X scope own caps) (hi:PI X tg iter wi) (hc:X.calm=true)
    (hg:∀ fp s H,PG (cxComp X scope (own ++ caps.map (·.1)) fp s H) tg g) (he:∀ fp s H,PE (cxComp X scope (own ++ caps.map (·.1)) fp s H) elt te)
    (hs:∀ x,foldedSetIterable iter X.env x=pure x:=by intro _;rfl):PE X (.ListComp elt [⟨tg,iter, [],0⟩] scope pos) (tComp wi g te own.length caps):=by
  intro pins s σ H Q I h
  rw [eval_ListComp]
  refine comp_core (use:=none) (Q:=Q) S hi hc hg he I h (fun D C H5 s5 I5 q ⟨m,hn⟩ hC hL hz hcell hpin => ?_) hs
  refine ⟨m,hn,fun h' hs' => ?_⟩
  exact ⟨.ref D,H5,I5.turned (t':=s5.toks) (fun b o hb e=>(hs'.2 b hb).trans e) hC hL (.inr hz) hcell hpin,rfl,q⟩
end
end L2
namespace L2
open PySem PySem.Spec PyProof.Rows

structure Has (P:Program) (w:World) (K:PySem.W.Frag) (mg:Str→Option Value) (base:Heap) (k:Nat) (x:Str) (ps:List Str) (sp:Sp):Prop where
  ex:∃ f fd,FnOk P w K mg base CX0 k f fd ps sp∧mg x=some (.ref f)∧PySem.W.keepIn K (.ref f)=true∧Binds K fd ps []
section
variable {X:Cx} {k k':Nat} {x:Str} {ps:List Str} {sp:Sp} {p pos:Pos} {e:Expr} {es:List Expr} {t:TA}
theorem pe_callH (h:Has X.prog X.w X.K X.mg X.base k x ps sp) (hr:Room k' X.A) (hk:k≤k') (hg:Gl X x) (ha:PA X (e :: es) t) (hdb:(x == ("__debug__" : Str))=false:=by decide)
    (he:starEach (e :: es) X.env=(false,eval e X.env) :: starEach es X.env:=by rfl) (hpl:(backTo pos (starEach es X.env)).any (·.1)=false:=by rfl) :
    PE X (.Call (.Name x p) (e :: es) [] pos) (tCall sp [] E0 t):=by
  obtain ⟨f,fd,F,hm,hkp,hb⟩:=h.ex
  exact pe_call F (hr.mono hk) hg hm hkp hb .nil pass0 ha hdb he hpl
end
structure Def (K:PySem.W.Frag) (mg:Str→Option Value) (x:Str) (st:Stmt) (ps:List Str):Prop where
  ex:∃ f fd,Fun K x x st f fd∧mg x=some (.ref f)∧Binds K fd ps []
theorem Def.has {P:Program} {w:World} {K:PySem.W.Frag} {mg:Str→Option Value} {base:Heap} {x:Str} {st:Stmt} {N ps:List Str} {k:Nat} {sp:Sp} (D:Def K mg x st ps) (S:FnScope N ps (defScope st)) (len:∀ vs H Q E,sp vs H Q E→vs.length=ps.length)
    (hbody:∀ (f:Addr) (cdv:Value) (A:Around) (outer:List Env) (s:Shared) (H:Hp) (vs:List V) (Q:VK) (E:XK),Room k (A.deeper (envOfC x (defScope st) s.heap.objs.size f cdv))→sp vs H Q E →
      ∃ t,PSs (cxOf CX0 P w K mg base N x (defScope st) f cdv A outer s H E).nox (defBody st) t∧t { nx:=fun _ H'=>Q .non H',rt:=Q } (start N vs) H):Has P w K mg base (k+1) x ps sp:=by
  obtain ⟨f,fd,F,hm,hb⟩:=D.ex
  exact ⟨f,fd,F.ok S len (hbody f),hm,F.kp,hb⟩

theorem same_new {H:Hp} {p:Addr} (h:H p=none) (o:HO):Same H (upd H p o):=fun b u q=>by rw [upd_ne (ne_of_none q h)];exact q
theorem Same.put {H0 H:Hp} {p:Addr} {o:HO} (e:Same H0 H) (h:H0 p=none):Same H0 (upd H p o):=fun b u q=>by rw [upd_ne (ne_of_none q h)];exact e b u q

theorem comp_range {n:Nat} {te:TE} {σ : St} {caps:List (Str × Nat)} {H:Hp} {Q:VK} {lo:Int} (f:Int→V) (hz:n≤1000)
    (hel:∀ i:Nat,i < n→∀ H',Same H H'→∀ Q':VK,Q' (f (lo+i)) H'→te (some (.int (lo+i)) :: capt σ caps) H' Q') (hq:∀ D,H D=none→Q (.ref D) (upd H D (.lst ((List.range n).map fun i=>f (lo+(i:Nat)))))) :
    CompBody (Itr lo n) (gName 0) te (List.replicate 1 none ++ capt σ caps) H Q:=by
  intro D hD
  refine ⟨fun i m τ ys H'=>m=n - i∧i≤n∧(∃ o, τ = o :: capt σ caps)∧ys=((List.range i).map fun i=>f (lo+(i:Nat)))∧H'=upd H D (.lst ys),⟨n,by simp,Nat.zero_le _,⟨none,rfl⟩,by simp,rfl⟩,?_⟩
  rintro i m τ ys H' ⟨rfl,hi,⟨o,rfl⟩,rfl,rfl⟩
  refine ⟨upd_same,?_⟩
  by_cases hlt:i < n
  · refine .inr ⟨hlt,?_,fun x H'' y => ?_⟩
    · rw [List.length_map,List.length_range]
      exact small1000 (by omega)
    obtain ⟨e,y⟩:=y
    subst e y
    show te (some (.int (lo+i)) :: capt σ caps) _ _
    refine hel i hlt _ (same_new hD _) _ ?_
    refine ⟨upd_same,n - (i+1),by omega,rfl,hlt,⟨_,rfl⟩,?_,?_⟩
    · rw [List.range_succ,List.map_append];rfl
    · rw [upd_upd]
  · have e:i=n:=by omega
    subst e
    exact .inl ⟨Nat.le_refl _,hq D hD⟩
noncomputable def checkComp (xsc:Scope) (xN:List Str) (scope:Scope) (own:List Str) (caps:List (Str × Nat)):Bool :=
  scope.names.all (fun y=>y.2 != .cell) && scope.names.all (fun y=>y.2 != .local || scope.names.lookup y.1 == some .local) && scope.names.all (fun y=>y.2 != .free || xsc.names.lookup y.1 == some .cell)
    && own.all (fun x=>scope.names.lookup x == some .local) && caps.all (fun p=>xN[p.2]? == some p.1 && xsc.names.lookup p.1 == some .cell && scope.names.lookup p.1 == some .free)
theorem comp_scope {X:Cx} {scope:Scope} {own:List Str} {caps:List (Str × Nat)} (xsc:Scope) (xN:List Str) (hx:X.env.scope=xsc) (hN:X.N=xN) (hk:scope.kind = .function) (c:checkComp xsc xN scope own caps=true):CompScope X scope own caps:=by
  unfold checkComp at c
  simp only [Bool.and_eq_true,List.all_eq_true,Bool.or_eq_true,bne_iff_ne,beq_iff_eq,ne_eq] at c
  obtain ⟨⟨⟨⟨c1,c2⟩,c3⟩,c4⟩,c5⟩:=c
  refine ⟨hk,c1,fun y hy e => ?_,fun y hy e => ?_,c4,fun p hp => ?_⟩
  · rcases c2 y hy with z | z
    · exact absurd e z
    · exact z
  · rcases c3 y hy with z | z
    · exact absurd e z
    · show X.env.scope.names.lookup y.1=_
      rw [hx];exact z
  · obtain ⟨⟨z1,z2⟩,z3⟩:=c5 p hp
    refine ⟨by rw [hN];exact z1,?_,z3⟩
    show X.env.scope.names.lookup p.1=_
    rw [hx];exact z2
structure Blt (mg:Str→Option Value):Prop where
  len_:mg "len" = none
  min_:mg "min" = none
  max_:mg "max" = none
  sum_:mg "sum" = none
  range_:mg "range" = none
  enumerate_:mg "enumerate" = none
  isinstance_:mg "isinstance" = none
  tuple_:mg "tuple" = none
  int_:mg "int" = none
  bool_:mg "bool" = none
  str_:mg "str" = none
  list_:mg "list" = none
theorem boot_max_:bootBuiltins "max" = some (.builtin "max"):=by decide +kernel
theorem boot_isinstance_:bootBuiltins "isinstance" = some (.builtin "isinstance"):=by decide +kernel
theorem boot_tuple_:bootBuiltins "tuple" = some (.type "tuple"):=by decide +kernel
theorem boot_int_:bootBuiltins "int" = some (.type "int"):=by decide +kernel
theorem boot_str_:bootBuiltins "str" = some (.type "str"):=by decide +kernel
theorem boot_list_:bootBuiltins "list" = some (.type "list"):=by decide +kernel
theorem pos' {j:Int} (h:decide (0 < j)=true:=by decide):0 < j:=of_decide_eq_true h
theorem div' {i j:Int} (h:(decide (0 < j) && decide (j < 1073741824))=true:=by decide):CDiv i j :=
  ⟨of_decide_eq_true (Bool.and_eq_true_iff.mp h).1,of_decide_eq_true (Bool.and_eq_true_iff.mp h).2⟩
theorem iteD {c A B:Prop} [Decidable c] (h1:c→A) (h2:¬ c→B):if decide c=true then A else B:=by
  by_cases h:c
  · rw [decide_eq_true h];exact iteT (h1 h)
  · rw [decide_eq_false h];exact iteF (h2 h)
theorem iteDN {c A B:Prop} [Decidable c] (h1:¬ c→A) (h2:c→B):if (!decide c)=true then A else B:=by
  by_cases h:c
  · rw [decide_eq_true h];exact iteF (h2 h)
  · rw [decide_eq_false h];exact iteT (h1 h)
end L2
namespace L2
open PySem PySem.Spec PyProof.Rows

noncomputable def F2 (h:Heap) (e:Addr) (x:Value):Prop := ∃ o vs,h.get? e=some o∧o.data = .fields vs∧vs[2]? = some x
noncomputable def Ctx0 (h:Heap) (e:Addr):Prop:=F2 h e .none
noncomputable def ctxV:Option Addr→Value
  | none => .none
  | some a => .ref a
noncomputable def Chn (h:Heap) (e:Addr):Prop:=Ctx0 h e∨∃ a,a≠e∧F2 h e (.ref a)∧Ctx0 h a
theorem F2.other {h:Heap} {e b:Addr} {x:Value} {f:Obj→Obj} (c:F2 h e x) (n:b≠e):F2 (h.update b f) e x:=by
  obtain ⟨o,vs,a,d,i⟩:=c
  exact ⟨o,vs,(Heap.get?_update_other _ _ n).trans a,d,i⟩
section
variable {M:Model} {A:Around} {E:Value→Shared→Prop} {s:Shared}
inductive Entered (l:List Env) (e:Addr) (oe:Obj) (L:Addr) (h h':Heap):Prop
  | mk (T:Addr) (oT:Obj) (ts:Array Value) (old:∀ b o,b≠e→b ∉ l.filterMap (·.frame)→h.get? b=some o→h'.get? b=some o) (slots:∀ b o,b≠e→h.get? b=some o→∃ sl,h'.get? b=some { o with slots:=sl })
    (own:h'.get? e=some (oe.mapFields (·.setIfInBounds 1 (.ref T)))) (new:h.get? T=none) (ne:T≠e) (size:h.objs.size≤T) (there:h'.get? T=some oT) (data:oT.data = .fields ts) (fl:ts[3]? = some (rawInt L)):Entered l e oe L h h'
theorem entry_on {base:Heap} {env:Env} {outer:List Env} {L e:Addr} {oe:Obj} {vs:Array Value} {hd:Value} {nx:Bool} {Q:Unit→Shared→Prop}
    (af:A.frames=some (env :: outer)) (ff:s.heap.FunFrames base (env :: outer)) (fL:env.frame=some L) (ge:s.heap.get? e=some oe) (gd:oe.data = .fields vs) (gz:1 < vs.size)
    (k:∀ h',Entered (env :: outer) e oe L s.heap h'→Q () { s with heap:=h' }) :
    wpAny M A (do let a ← frameOf env;let pl ← entryPlaceOf L nx;let b ← EntryCells.newEntry hd a .none (rawInt L) .none pl;setField (.ref e) 1 b) Q E s:=by
  have hne:e ∉ (env :: outer).filterMap (·.frame):=fun m=>by
    obtain ⟨_,o,q,nf⟩:=ff.mem m
    rw [ge] at q
    cases q
    exact nf vs gd
  refine wpAny_bind (wpAny_frameOf_fun af ff fL fun h1 sl => ?_)
  refine wpAny_bind (wpAny_entryPlaceOf fun pl hp => ?_)
  unfold EntryCells.newEntry newFields
  refine wpAny_bind (wpAny_newObj_type ?_ (hp.sizeOk5 _ _ _ _ _))
  have g1:h1.get? e=some oe:=(sl.2.1 e hne).trans ge
  generalize hO:({ cls := .type "traceback",dict:=none,data := .fields ([hd,.ref L,.none,rawInt L,.none] ++ (if pl.isEmpty then List.replicate 6 Value.none else pl)).toArray }:Obj)=oT
  have g2:=Heap.get?_push_of_some (h:=h1) oT g1
  refine wpAny_setField g2 gd gz (k _ ?_)
  have nT:h1.objs.size≠e:=Nat.ne_of_gt (Heap.lt_size g1)
  have dd:=Obj.data_mapFields gd (·.setIfInBounds 1 (Value.ref h1.objs.size))
  have up:∀ b o,b≠e→h1.get? b=some o→((h1.push oT).update e (Obj.mapFields (·.setIfInBounds 1 (Value.ref h1.objs.size)))).get? b=some o:=fun b o n q=>by
    rw [Heap.get?_update_other _ _ (Ne.symm n)]
    exact Heap.get?_push_of_some _ q
  refine ⟨h1.objs.size,oT,_,fun b o n m q=>up b o n ((sl.2.1 b m).trans q),fun b o n q => ?_,Heap.get?_update_self _ g2 (Obj.isFreed_of_fields dd),Heap.get?_none_of_le (Nat.le_of_eq sl.1.symm),nT,Nat.le_of_eq sl.1.symm,?_,(by rw [← hO]),?_⟩
  · obtain ⟨x,q'⟩:=sl.2.2 b o q
    exact ⟨x,up b _ n q'⟩
  · rw [Heap.get?_update_other _ _ (Ne.symm nT)]
    exact Heap.get?_push_size h1 (by rw [← hO];rfl)
  · first
      | (simp;done)
      | (rcases hp with rfl | ⟨_,_,_,_,_,_,_,rfl⟩ <;> simp)
theorem Entered.noted {base:Heap} {l:List Env} {e L:Addr} {oe:Obj} {vs:Array Value} {a0:Value} {h h':Heap} (x:Entered l e oe L h h') (kb:base.StaysIn h) (be:base.get? e=none) (ff:h.FunFrames base l) (gd:oe.data = .fields vs) (gz:1 < vs.size) (g0:vs[0]? = some a0) (ge:h.get? e=some oe) :
    Heap.NotedW base l e oe.cls a0 (rawInt L) h h':=by
  obtain ⟨T,oT,ts,old,slots,own,new,ne,size,there,data,fl⟩:=x
  have nr:∀ b o,h.get? b=some o→(∀ ws,o.data ≠ .fields ws)→b≠e:=fun b o q nf z=>by
    rw [z,ge] at q
    cases q
    exact nf vs gd
  refine ⟨fun b o q=>old b o (fun z=>by rw [z,be] at q;cases q) (fun m=>by rw [(ff.mem m).1] at q;cases q) (kb b o q),ff.of_keeps fun b o q nf => ?_,?_,fun b o q nf=>slots b o (nr b o q nf) q⟩
  · obtain ⟨sl,q'⟩:=slots b o (nr b o q nf) q
    exact ⟨_,q',rfl⟩
  · refine ⟨_,_,T,oT,ts,own,⟨Obj.cls_mapFields _ _,?_⟩,Obj.data_mapFields gd _,by simp [gz],?_,ne,there,data,fl⟩
    · rw [Array.getElem?_setIfInBounds_ne (by decide)];exact g0
    · cases q:base.get? T with
      | none=>rfl
      | some o=>have:=kb _ _ q;rw [new] at this;cases this
theorem Entered.ctx {l:List Env} {e L:Addr} {oe:Obj} {vs:Array Value} {h h':Heap} {y:Value} (x:Entered l e oe L h h') (gd:oe.data = .fields vs) (ge:h.get? e=some oe) (c:F2 h e y):F2 h' e y:=by
  obtain ⟨T,oT,ts,old,slots,own,new,ne,size,there,data,fl⟩:=x
  obtain ⟨o,ws,q1,q2,q3⟩:=c
  rw [ge] at q1
  cases q1
  rw [gd] at q2
  cases q2
  exact ⟨_,_,own,Obj.data_mapFields gd _,by rw [Array.getElem?_setIfInBounds_ne (by decide)];exact q3⟩
theorem note_new {base:Heap} {env:Env} {outer:List Env} {L e:Addr} {oe:Obj} {vs:Array Value} {a0:Value} {Q:Unit→Shared→Prop} (af:A.frames=some (env :: outer)) (ff:s.heap.FunFrames base (env :: outer)) (fL:env.frame=some L)
    (ge:s.heap.get? e=some oe) (kb:base.StaysIn s.heap) (be:base.get? e=none) (gd:oe.data = .fields vs) (g1:vs[1]? = some .none) (g0:vs[0]? = some a0)
    (k:∀ h',Heap.HeldW base (env :: outer) e oe.cls a0 L h'→s.heap.UpToSlots h'→(∀ y,F2 s.heap e y→F2 h' e y)→Q () { s with heap:=h' }):wpAny M A (noteFrame (.ref e) env) Q E s:=by
  have gz:=(Array.getElem?_eq_some_iff.mp g1).1
  unfold noteFrame
  simp only [fL]
  refine wpAny_bind (wpAny_field ge gd g1 ?_)
  rw [if_neg (by decide)]
  refine entry_on af ff fL ge gd gz fun h' x => ?_
  obtain ⟨n1,n2,n3,n4⟩:=x.noted kb be ff gd gz g0 ge
  exact k h' ⟨n1,be,n2,n3⟩ n4 fun y c=>x.ctx gd ge c
theorem note_on {base:Heap} {env:Env} {outer:List Env} {L e:Addr} {cls a0:Value} {Q:Unit→Shared→Prop} (af:A.frames=some (env :: outer)) (fL:env.frame=some L) (fl:Heap.FlyingW base (env :: outer) e cls a0 s.heap)
    (k:∀ h',Heap.HeldW base (env :: outer) e cls a0 L h'→s.heap.UpToSlots h'→(∀ y,F2 s.heap e y→F2 h' e y)→Q () { s with heap:=h' }):wpAny M A (noteFrame (.ref e) env) Q E s:=by
  obtain ⟨kb,be,ff,oe,vs,Tr,oT,ts,ge,⟨gc,g0⟩,gd,g1,bT,nTe,gT,dT,g3⟩:=fl
  subst gc
  have gz:=(Array.getElem?_eq_some_iff.mp g1).1
  unfold noteFrame
  simp only [fL]
  refine wpAny_bind (wpAny_field ge gd g1 ?_)
  rw [if_pos (show (Value.ref Tr != Value.none)=true by simp)]
  refine wpAny_bind (wpAny_field gT dT g3 ?_)
  rw [if_neg (show ¬ ((Value.none == rawInt L)=true) by simp [rawInt])]
  refine wpAny_bind (wpAny_setField gT dT (Array.getElem?_eq_some_iff.mp g3).1 ?_)
  have ot:∀ b,b≠Tr→(s.heap.update Tr (Obj.mapFields (·.setIfInBounds 3 Value.none))).get? b=s.heap.get? b:=fun b n=>Heap.get?_update_other _ _ (Ne.symm n)
  have nr:∀ b o,s.heap.get? b=some o→(∀ ws,o.data ≠ .fields ws)→b≠Tr:=fun b o q nf z=>by
    rw [z,gT] at q
    cases q
    exact nf ts dT
  have ff1:=ff.of_keeps (h':=s.heap.update Tr (Obj.mapFields (·.setIfInBounds 3 Value.none))) fun b o q nf=>⟨o,(ot b (nr b o q nf)).trans q,rfl⟩
  have kb1:base.StaysIn (s.heap.update Tr (Obj.mapFields (·.setIfInBounds 3 Value.none))):=fun b o q=>(ot b fun z=>by rw [z,bT] at q;cases q).trans (kb b o q)
  have ge1:=(ot e (Ne.symm nTe)).trans ge
  refine entry_on (s := { s with heap:=_ }) af ff1 fL ge1 gd gz fun h' x => ?_
  obtain ⟨n1,n2,n3,n4⟩:=x.noted kb1 be ff1 gd gz g0 ge1
  exact k h' ⟨n1,be,n2,n3⟩ (fun b o q nf=>n4 b o ((ot b (nr b o q nf)).trans q) nf) fun y c=>x.ctx gd ge1 (c.other nTe)
theorem flight_off {base:Heap} {l:List Env} {e:Addr} {cls a0 m:Value} {Q:Unit→Shared→Prop} (kb:base.StaysIn s.heap) (be:base.get? e=none) (ff:s.heap.FunFrames base l) (tr:s.heap.TracedAtW base e cls a0 m)
    (k:∀ h',Heap.FlyingW base l e cls a0 h'→s.heap.UpToSlots h'→(∀ y,F2 s.heap e y→F2 h' e y)→Q () { s with heap:=h' }):wpAny M A (setFlight (.ref e) none) Q E s:=by
  obtain ⟨oe,vs,Tr,oT,ts,ge,gc,gd,g1,bT,nTe,gT,dT,g3⟩:=tr
  have z3:=(Array.getElem?_eq_some_iff.mp g3).1
  have ot:∀ b,b≠Tr→(s.heap.update Tr (Obj.mapFields (·.setIfInBounds 3 ((none:Option Addr).elim Value.none fun f=>rawInt f)))).get? b=s.heap.get? b:=fun b n=>Heap.get?_update_other _ _ (Ne.symm n)
  have nr:∀ b o,s.heap.get? b=some o→(∀ ws,o.data ≠ .fields ws)→b≠Tr:=fun b o q nf z=>by
    rw [z,gT] at q
    cases q
    exact nf ts dT
  unfold setFlight
  refine wpAny_bind (wpAny_field ge gd g1 ?_)
  rw [if_pos (show (Value.ref Tr != Value.none)=true by simp)]
  refine wpAny_setField gT dT z3 (k _ ⟨fun b o q=>(ot b fun z=>by rw [z,bT] at q;cases q).trans (kb b o q),be,ff.of_keeps fun b o q nf=>⟨o,(ot b (nr b o q nf)).trans q,rfl⟩,?_⟩ (fun b o q nf=>⟨o.slots,(ot b (nr b o q nf)).trans q⟩) fun y c=>c.other nTe)
  exact ⟨oe,vs,Tr,_,_,(ot e (Ne.symm nTe)).trans ge,gc,gd,g1,bT,nTe,Heap.get?_update_self _ gT (Obj.isFreed_of_fields (Obj.data_mapFields dT _)),Obj.data_mapFields dT _,by simp [z3]⟩
theorem leave_on {base:Heap} {env:Env} {outer:List Env} {L e:Addr} {cls a0:Value} {Q:Unit→Shared→Prop} (af:A.frames=some (env :: outer)) (fL:env.frame=some L) (fl:Heap.FlyingW base (env :: outer) e cls a0 s.heap)
    (k:∀ h',Heap.FlyingW base outer e cls a0 h'→s.heap.UpToSlots h'→(∀ y,F2 s.heap e y→F2 h' e y)→Q () { s with heap:=h' }):wpAny M A (leaving env (.ref e)) Q E s:=by
  unfold leaving
  refine wpAny_bind (note_on af fL fl fun h1 hh sl c1 => ?_)
  obtain ⟨n1,n2,n3,n4⟩:=hh
  refine flight_off (s := { s with heap:=h1 }) n1 n2 n3 n4 fun h2 f2 sl2 c2 => ?_
  obtain ⟨m1,m2,⟨_,_,m3⟩,m4⟩:=f2
  exact k h2 ⟨m1,m2,m3,m4⟩ (sl.trans sl2) fun y c=>c2 y (c1 y c)
theorem leave_new {base:Heap} {env:Env} {outer:List Env} {L e:Addr} {oe:Obj} {vs:Array Value} {a0:Value} {Q:Unit→Shared→Prop} (af:A.frames=some (env :: outer)) (ff:s.heap.FunFrames base (env :: outer)) (fL:env.frame=some L)
    (ge:s.heap.get? e=some oe) (kb:base.StaysIn s.heap) (be:base.get? e=none) (gd:oe.data = .fields vs) (g1:vs[1]? = some .none) (g0:vs[0]? = some a0)
    (k:∀ h',Heap.FlyingW base outer e oe.cls a0 h'→s.heap.UpToSlots h'→(∀ y,F2 s.heap e y→F2 h' e y)→Q () { s with heap:=h' }):wpAny M A (leaving env (.ref e)) Q E s:=by
  unfold leaving
  refine wpAny_bind (note_new af ff fL ge kb be gd g1 g0 fun h1 hh sl c1 => ?_)
  obtain ⟨n1,n2,n3,n4⟩:=hh
  refine flight_off (s := { s with heap:=h1 }) n1 n2 n3 n4 fun h2 f2 sl2 c2 => ?_
  obtain ⟨m1,m2,⟨_,_,m3⟩,m4⟩:=f2
  exact k h2 ⟨m1,m2,m3,m4⟩ (sl.trans sl2) fun y c=>c2 y (c1 y c)
end
end L2
namespace L2
open PySem PySem.Spec PyProof.Rows

section
variable {P:Program} {w:World} {H H':Hp} {h h':Heap} {a:Addr} {o:HO}
theorem ObjOk.there (x:ObjOk P w H h a o):∃ ob,h.get? a=some ob:=by
  cases o with
  | lst xs=>obtain ⟨_,_,_,_,e⟩:=x;exact ⟨_,e⟩
  | tup xs=>obtain ⟨_,_,_,_,e,_⟩:=x;exact ⟨_,e⟩
  | dK kvs=>obtain ⟨_,_,_,_,o,_,_,e,_⟩:=x;exact ⟨_,e⟩
  | dT kvs=>obtain ⟨_,_,_,_,o,_,_,e,_⟩:=x;exact ⟨_,e⟩
  | set S n=>obtain ⟨o,_,_,_,e,_⟩:=x;exact ⟨_,e⟩
  | ins C dx fs=>obtain ⟨_,_,_,e,_⟩:=x;exact ⟨_,e⟩
  | own y=>exact x
  | xd fs=>obtain ⟨_,⟨_,_,_,e,_⟩,_⟩:=x;exact ⟨_,e⟩
  | rng lo hi=>obtain ⟨_,_,_,e⟩:=x;exact ⟨_,e⟩
  | frz ob u=>obtain ⟨e,_⟩:=x;exact ⟨_,e⟩
  | tbl ps=>exact ⟨_,(show h.get? a=some _ from x)⟩
  | met f y=>exact ⟨_,(show h.get? a=some _ from x)⟩
  | ext φ => obtain ⟨_,e,_⟩:=x;exact e
theorem HOk.notThere (x:HOk P w H h) (e:h.get? a=none):H a=none:=by
  cases q:H a with
  | none=>rfl
  | some u=>obtain ⟨ob,z⟩:=(x a u q).there;rw [e] at z;cases z
theorem HOk.part (x:HOk P w H h) (k:∀ b u v,H b=some u→h.get? b=some v→h'.get? b=some v):HOk P w H h':=fun a o e =>
  (x a o e).stay (fun b u hb q=>by
    rcases hb with z | z
    · subst z;exact k _ _ _ e q
    · exact k _ _ _ z q) (fun _ q=>q) fun _ _ q=>q
end
theorem Un.fly {fs:List Addr} {L:Addr} {H₀ H H':Hp} {h0 h h1 h2 B:Heap} (U1:Un fs [] H₀ H h0 h) (U2:Un (L :: fs) [] H H' h h1) (hL:h0.get? L=none)
    (cov:∀ b o,h.get? b=some o→b ∉ L :: fs→∃ o',B.get? b=some o') (k1:∀ b o,B.get? b=some o→h1.get? b=some o) (k2:∀ b o,B.get? b=some o→h2.get? b=some o)
    (sl:h1.UpToSlots h2) (nf:∀ b∈fs,∃ o,h1.get? b=some o∧∀ vs,o.data ≠ .fields vs):Un fs [] H₀ H' h0 h2:=by
  have nL:∀ b o,h0.get? b=some o→b ∉ fs→b ∉ L :: fs:=fun b o q hb z=>by
    rcases List.mem_cons.mp z with z | z
    · rw [z,hL] at q;cases q
    · exact hb z
  refine ⟨fun b o q n hb hx => ?_,fun b o q n hb hx => ?_,fun b o q n hx => ?_,fun b o q hx => ?_,fun b xs q=>U2.tups _ _ (U1.tups _ _ q),fun b o u q=>U2.frzs _ _ _ (U1.frzs _ _ _ q),fun b ps q => ?_⟩
  · have q1:=U1.keep b o q n hb hx
    have q2:=U2.keep b o q1 (U1.free b o q n hx) (nL b o q hb) hx
    obtain ⟨o',e⟩:=cov b o q1 (nL b o q hb)
    have e1:=k1 _ _ e
    rw [q2] at e1
    cases e1
    exact k2 _ _ e
  · obtain ⟨s1,q1⟩:=U1.slot b o q n hb hx
    obtain ⟨s2,q2⟩:=U2.slot b _ q1 (U1.free b o q n hx) (List.mem_cons_of_mem _ hb) hx
    obtain ⟨ob,q3,d⟩:=nf b hb
    rw [q2] at q3
    cases q3
    obtain ⟨s4,q4⟩:=sl b _ q2 d
    exact ⟨s4,q4⟩
  · obtain ⟨o1,q1⟩:=U1.there b o q hx
    exact U2.free b o1 q1 (U1.free b o q n hx) hx
  · by_cases hb:b∈fs
    · obtain ⟨ob,q3,d⟩:=nf b hb
      obtain ⟨s4,q4⟩:=sl b _ q3 d
      exact ⟨_,q4⟩
    · obtain ⟨o1,q1⟩:=U1.there b o q hx
      obtain ⟨o',e⟩:=cov b o1 q1 (nL b o q hb)
      exact ⟨_,k2 _ _ e⟩
  · obtain ⟨m1,e1⟩:=U1.tbls b ps q
    obtain ⟨m2,e2⟩:=U2.tbls b _ e1
    exact ⟨m1 ++ m2,by rw [e2,Array.append_assoc]⟩

noncomputable def CXE (P:Program) (w:World):CXT:=fun outer H s E e s'=>∃ (ea C:Addr) (a0:Value) (B:Heap) (H':Hp),e = .ref ea∧Heap.FlyingW B outer ea (.ref C) a0 s'.heap∧s'.os=s.os∧AllBare s'.gens ∧
  HOk P w H' B∧Un (frs outer) [] H H' s.heap s'.heap∧(∀ b o,s.heap.get? b=some o→b ∉ frs outer→∃ o',B.get? b=some o')∧∃ m:Option Addr,F2 s'.heap ea (ctxV m)∧E (.ref C) m H'

section
variable {P:Program} {w:World} {K:PySem.W.Frag} {mg:Str→Option Value} {base:Heap} {N:List Str} {qual:Str} {scope:Scope} {f:Addr} {cdv:Value} {A:Around} {outer:List Env} {s0 s:Shared} {H0 H:Hp} {E E':XK}
  {pins:List (Addr × Obj)} {σ : St} {CX:CXT}
theorem stack_frs {e:Env} {L:Addr} {l:List Env} (h:e.frame=some L):frs (e :: l)=L :: frs l:=by
  unfold frs
  rw [List.filterMap_cons,h]
theorem flies {h':Heap} {e C:Addr} {args:List Value} (I:Inv (cxOf (CXE P w) P w K mg base N qual scope f cdv A outer s0 H0 E) pins σ H s) (hx:Heap.MadeExcOf s.heap h' e (.ref C) args) (q:E (.ref C) none H) :
    (cxOf (CXE P w) P w K mg base N qual scope f cdv A outer s0 H0 E).xe (.ref e) { s with heap:=h' }:=by
  have fr:s.heap.FunFrames base (envOfC qual scope s0.heap.objs.size f cdv :: outer):=I.stack
  have sf:∀ b∈frs (envOfC qual scope s0.heap.objs.size f cdv :: outer),H b=none:=I.stkFree
  have hin:∀ env∈(envOfC qual scope s0.heap.objs.size f cdv :: outer),∀ b,env.frame=some b→b∈frs (envOfC qual scope s0.heap.objs.size f cdv :: outer):=fun env he b hb=>List.mem_filterMap.mpr ⟨env,he,hb⟩
  have es:frs (envOfC qual scope s0.heap.objs.size f cdv :: outer)=s0.heap.objs.size :: frs outer:=stack_frs rfl
  show wpAny _ _ (leaving _ _) _ _ _
  obtain ⟨t,gt,_,_⟩:=hx.there
  have ff:=(PySem.W.funFrames_hide fr hin).of_keeps (h':=h') fun b o z _=>⟨o,hx.keeps b o z,rfl⟩
  have kb:(PySem.W.hideAll s.heap (frs (envOfC qual scope s0.heap.objs.size f cdv :: outer))).StaysIn h':=fun b o z=>hx.keeps b o (PySem.W.of_hideAll _ z)
  have be:(PySem.W.hideAll s.heap (frs (envOfC qual scope s0.heap.objs.size f cdv :: outer))).get? e=none:=by
    cases z:(PySem.W.hideAll s.heap (frs (envOfC qual scope s0.heap.objs.size f cdv :: outer))).get? e with
    | none=>rfl
    | some o=>have:=PySem.W.of_hideAll _ z;rw [hx.new] at this;cases this
  refine leave_new (s := { s with heap:=h' }) (a0 := .ref t) I.ok.frames ff rfl gt kb be rfl rfl rfl ?_
  intro h'' x1 x4 x5
  have cov:∀ b o,s.heap.get? b=some o→b ∉ s0.heap.objs.size :: frs outer→(PySem.W.hideAll s.heap (frs (envOfC qual scope s0.heap.objs.size f cdv :: outer))).get? b=some o:=fun b o z hb=>PySem.W.hideAll_get _ z (by rw [es];exact hb)
  have Ib:Un (frs outer) [] H0 H s0.heap s.heap:=I.base
  refine ⟨e,C,.ref t,_,H,rfl,x1,I.os,I.bare,HOk.part I.hok fun b u v z1 z2=>PySem.W.hideAll_get _ z2 fun hm => ?_,?_,?_,none,x5 _ ⟨_,_,gt,rfl,rfl⟩,q⟩
  · rw [sf b hm] at z1;cases z1
  · refine Un.fly (h:=s.heap) (h1:=h') (L:=s0.heap.objs.size) Ib (Un.kept hx.keeps) (Heap.get?_none_of_le (Nat.le_refl _)) (fun b o z hb=>⟨o,cov b o z hb⟩) (fun b o z=>hx.keeps _ _ (PySem.W.of_hideAll _ z)) x1.1 x4 fun b hb => ?_
    obtain ⟨_,o,z,d⟩:=fr.mem (b:=b) (by show b∈frs _;rw [es];exact List.mem_cons_of_mem _ hb)
    exact ⟨o,hx.keeps _ _ z,d⟩
  · intro b o z hb
    obtain ⟨o1,z1⟩:=Ib.there b o z (by simp)
    refine ⟨o1,cov b o1 z1 fun hm => ?_⟩
    rcases List.mem_cons.mp hm with y | y
    · rw [y,Heap.get?_none_of_le (Nat.le_refl _)] at z;cases z
    · exact hb y
theorem passE (hE:∀ c m H',E' c m H'→E c m H'):Passes (CXE P w) (cxOf (CXE P w) P w K mg base N qual scope f cdv A outer s0 H0 E) E':=by
  intro pins σ H s e s' I h
  obtain ⟨ea,C,a0,B,H',rfl,fl,os,bare,hok,un,cov,m,hm,q⟩:=h
  have es:frs (envOfC qual scope s0.heap.objs.size f cdv :: outer)=s0.heap.objs.size :: frs outer:=stack_frs rfl
  have Ib:Un (frs outer) [] H0 H s0.heap s.heap:=I.base
  have un':Un (s0.heap.objs.size :: frs outer) [] H H' s.heap s'.heap:=by rw [← es];exact un
  have cov':∀ b o,s.heap.get? b=some o→b ∉ s0.heap.objs.size :: frs outer→∃ o',B.get? b=some o':=fun b o z hb=>cov b o z (by show b ∉ frs (envOfC qual scope s0.heap.objs.size f cdv :: outer);rw [es];exact hb)
  show wpAny _ _ (leaving _ _) _ _ _
  refine leave_on I.ok.frames rfl fl fun h'' x1 x2 x3 => ?_
  refine ⟨ea,C,a0,B,H',rfl,x1,os.trans I.os,bare,hok,?_,?_,m,x3 _ hm,hE _ _ _ q⟩
  · refine Un.fly Ib un' (Heap.get?_none_of_le (Nat.le_refl _)) cov' fl.1 x1.1 x2 fun b hb => ?_
    obtain ⟨_,o,z,d⟩:=fl.2.2.1.mem (b:=b) (by show b∈frs (envOfC qual scope s0.heap.objs.size f cdv :: outer);rw [es];exact List.mem_cons_of_mem _ hb)
    exact ⟨o,z,d⟩
  · intro b o z hb
    obtain ⟨o1,z1⟩:=Ib.there b o z (by simp)
    refine cov' b o1 z1 fun hm => ?_
    rcases List.mem_cons.mp hm with y | y
    · rw [y,Heap.get?_none_of_le (Nat.le_refl _)] at z;cases z
    · exact hb y
end

structure Exc (K:PySem.W.Frag) (mg:Str→Option Value) (x:Str) (C:Addr):Prop where
  glob:mg x=some (.ref C)
  here:PySem.W.excIn K C [.type "ValueError",.type "Exception",.type "BaseException",.type "object"] "ValueError.__new__" = true
theorem Exc.own {K:PySem.W.Frag} {mg:Str→Option Value} {x:Str} {C:Addr} {h:Heap} (e:Exc K mg x C) (X:K.In h):OwnCls x C [.type "ValueError",.type "Exception",.type "BaseException",.type "object"] "ValueError.__new__" mg h:=by
  refine ⟨e.glob,?_⟩
  have q:=e.here
  unfold PySem.W.excIn at q
  split at q
  · rename_i dd cd sl ho
    split at q
    · rename_i C' bm k0 k1 k2 k3 n k5 hm hs
      simp only [Bool.and_eq_true,beq_iff_eq,Bool.not_eq_true'] at q
      obtain ⟨⟨⟨⟨⟨rfl,rfl⟩,hdel⟩,ht⟩,hok⟩,hni⟩:=q
      obtain ⟨nm,bs,mro,ns,qn,hd,sn,sub,ab,col,del⟩:=cd
      dsimp only at hm hdel hok hni
      subst hm hdel
      have hsl:sl = #[k0,k1,k2,k3,some (.builtin "ValueError.__new__"),k5]:=by
        obtain ⟨l⟩:=sl
        simp only at hs
        rw [hs]
      subst hsl
      exact ⟨bm,ns,nm,qn,bs,hd,sn,sub,ab,col,dd,k0,k1,k2,k3,k5,_,X _ _ ho,.of_isNs (PySem.W.isNs_of_in X hok),PySem.W.nsMap_none_of_in X hok hni,PySem.W.tail_of_in X ht⟩
    · cases q
  · cases q
noncomputable def Flies (X:Cx) (C:Addr) (E:XK):Prop := ∀ (pins:List (Addr × Obj)) (σ : St) (H:Hp) (s:Shared) (h':Heap) (e:Addr) (args:List Value),Inv X pins σ H s→Heap.MadeExcOf s.heap h' e (.ref C) args→E (.ref C) none H→X.xe (.ref e) { s with heap:=h' }
noncomputable def tRaise (C:Addr) (E:XK) (t:TA):TS:=fun _ σ H=>t σ H fun vs H1=>vs.length≤sizeLine∧E (.ref C) none H1
theorem ps_raise {X:Cx} {x:Str} {C:Addr} {E:XK} {e₀ : Expr} {rest:List Expr} {t:TA} {np cpos pos:Pos} (O:Exc X.K X.mg x C) (hc:X.calm=true) (F:Flies X C E) (ha:PA X (e₀ :: rest) t) (hg:Gl X x)
    (he:starEach (e₀ :: rest) X.env=(false,eval e₀ X.env) :: starEach rest X.env:=by rfl) (hplain:(backTo cpos (starEach rest X.env)).any (·.1)=false:=by rfl) (hd:(x == ("__debug__" : Str))=false:=by decide) :
    PS X (.Raise (some (.Call (.Name x np) (e₀ :: rest) [] cpos)) none pos) (tRaise C E t):=by
  intro pins s σ H D I h
  obtain ⟨tl,N,nm,q,bs,hdct,sn,sub,ab,col,dd,k0,k1,k2,k3,k5,mN,hC,hN,hni,T⟩:=(O.own I.ok.mod.kin).obj
  refine wpAny_Raise_call_subT (C:=C) (nm:=nm) (q:=q) (N:=N) (bs:=bs) (bm:=tl) (hdct:=hdct) (sn:=sn) (sub:=sub) (ab:=ab) (col:=col) (dd:=dd) (k0:=k0) (k1:=k1) (k2:=k2) (k3:=k3) (k5:=k5)
    PySem.F.excBase_ValueError (mN:=mN) (T.hasType PySem.F.excBase_ValueError.hasBase) (I.ok.hd hc) (by rw [he];show (false || (backTo cpos (starEach rest X.env)).any (·.1))=false;rw [hplain];rfl) hni (ld_glob I hg O.glob ⟨rfl,?_⟩ hd)
  have h₂ := ha cpos pins s σ H _ I h
  rw [he] at h₂ ⊢
  exact Calls.evalArgs_plain (wpAny_mono h₂ (fun vs s₂ ⟨xs,H1,I1,r,hl,hq⟩=>⟨rfl,by rw [← r.length];exact hl,I1.bk _ _ hC,hN.keeps I1.bk,T.keeps I1.bk,fun h' e hm=>F pins σ H1 s₂ h' e vs I1 hm hq⟩) fun _ _ y=>y)
end L2
namespace L2
open PySem PySem.Spec PyProof.Rows PySem.W

section
variable {prog:Program} {w:World} {A:Around} {E:Value→Shared→Prop} {h:Heap} {g:Array GenState} {d:Drawn} {t:Nat} {os:OsState} {a:Addr} {o:Obj}
  {nm q:Str} {C N:Addr} {bs bm:List Value} {hdct:Bool} {sn:List Str} {sub:List Value} {ab:Bool} {col:Option Bool} {dd:Option Addr} {k0 k1 k2 k3 k5:Option Value} {newId:String}





end
end L2
namespace L2
open PySem PySem.Spec PyProof.Rows

noncomputable def XO (ea C:Addr):HO := .ext fun h=>∃ o,h.get? ea=some o∧o.cls = .ref C
noncomputable abbrev Cx.uncalm (X:Cx) (A:Around) (xe:Value→Shared→Prop):Cx := { X with A:=A,calm:=false,xe:=xe }
section
variable {X:Cx} {pins:List (Addr × Obj)} {σ : St} {H:Hp} {s:Shared} {xe:Value→Shared→Prop} {A:Around}
theorem Inv.uncalm (I:Inv X pins σ H s) (hf:A.frames=X.A.frames):Inv (X.uncalm A xe) pins σ H s :=
  ⟨⟨I.ok.mod,I.ok.kind,I.ok.glob,I.ok.blt,I.ok.above,I.ok.inj,I.ok.has,I.ok.cab,(fun h=>absurd (show false=true from h) (by decide)),hf.trans I.ok.frames,I.ok.stk,I.ok.exf,I.ok.bs,I.ok.bsz,I.ok.noex,I.ok.exfs,I.ok.funs,I.ok.frf⟩,
    I.os,I.bare,I.base,I.loc,I.cell,I.free,I.freeC,I.pin,I.hok,I.len⟩
theorem Inv.recalm (I:Inv (X.uncalm A xe) pins σ H s) (hd:X.calm=true→X.A.handled=none) (hf:X.A.frames=A.frames):Inv X pins σ H s :=
  ⟨⟨I.ok.mod,I.ok.kind,I.ok.glob,I.ok.blt,I.ok.above,I.ok.inj,I.ok.has,I.ok.cab,hd,hf.trans I.ok.frames,I.ok.stk,I.ok.exf,I.ok.bs,I.ok.bsz,I.ok.noex,I.ok.exfs,I.ok.funs,I.ok.frf⟩,
    I.os,I.bare,I.base,I.loc,I.cell,I.free,I.freeC,I.pin,I.hok,I.len⟩
end
theorem Un.on {fs:List Addr} {H H':Hp} {h h1 h2 B:Heap} (U:Un fs [] H H' h h1) (cov:∀ b o,h.get? b=some o→b ∉ fs→∃ o',B.get? b=some o') (k1:∀ b o,B.get? b=some o→h1.get? b=some o) (k2:∀ b o,B.get? b=some o→h2.get? b=some o)
    (sl:h1.UpToSlots h2) (nf:∀ b∈fs,∃ o,h1.get? b=some o∧∀ vs,o.data ≠ .fields vs):Un fs [] H H' h h2:=by
  refine ⟨fun b o q n hb hx => ?_,fun b o q n hb hx => ?_,U.free,fun b o q hx => ?_,U.tups,U.frzs,U.tbls⟩
  · have q2:=U.keep b o q n hb hx
    obtain ⟨o',e⟩:=cov b o q hb
    have e1:=k1 _ _ e
    rw [q2] at e1
    cases e1
    exact k2 _ _ e
  · obtain ⟨s1,q1⟩:=U.slot b o q n hb hx
    obtain ⟨ob,q3,d⟩:=nf b hb
    rw [q1] at q3
    cases q3
    obtain ⟨s4,q4⟩:=sl b _ q1 d
    exact ⟨s4,q4⟩
  · by_cases hb:b∈fs
    · obtain ⟨ob,q3,d⟩:=nf b hb
      obtain ⟨s4,q4⟩:=sl b _ q3 d
      exact ⟨_,q4⟩
    · obtain ⟨o',e⟩:=cov b o q hb
      exact ⟨_,k2 _ _ e⟩
theorem Un.more {fs:List Addr} {H H':Hp} {h h2:Heap} {a:Addr} {o:HO} (U:Un fs [] H H' h h2) (hn:h.get? a=none) (hH:H' a=none):Un fs [] H (upd H' a o) h h2:=by
  have ne:∀ b u,h.get? b=some u→b≠a:=fun b u q z=>by rw [z,hn] at q;cases q
  refine ⟨U.keep,U.slot,fun b u q n hx=>by rw [upd_ne (ne b u q)];exact U.free b u q n hx,U.there,fun b xs q => ?_,fun b u xs q => ?_,fun b ps q => ?_⟩
  · have e:=U.tups b xs q
    rw [upd_ne (ne_of_none e hH)];exact e
  · have e:=U.frzs b u xs q
    rw [upd_ne (ne_of_none e hH)];exact e
  · obtain ⟨m,e⟩:=U.tbls b ps q
    exact ⟨m,by rw [upd_ne (ne_of_none e hH)];exact e⟩
section
variable {X:Cx} {pins:List (Addr × Obj)} {σ : St} {H0 H':Hp} {s0 s':Shared} {ea C:Addr} {a0:Value} {B h5:Heap} {env:Env} {outer:List Env}
theorem caught_inv (I:Inv X pins σ H0 s0) (fl:Heap.FlyingW B X.stack ea (.ref C) a0 s'.heap) (os:s'.os=s0.os) (bare:AllBare s'.gens) (hok:HOk X.prog X.w H' B) (un:Un (frs X.stack) [] H0 H' s0.heap s'.heap)
    (cov:∀ b o,s0.heap.get? b=some o→b ∉ frs X.stack→∃ o',B.get? b=some o') (k5:∀ b o,B.get? b=some o→h5.get? b=some o) (sl:s'.heap.UpToSlots h5) (he:∃ o vs,h5.get? ea=some o∧o.cls = .ref C∧o.data = .fields vs) :
    Inv X pins σ (upd H' ea (XO ea C)) { s' with heap:=h5 }∧H' ea=none:=by
  have hn:H' ea=none:=hok.notThere fl.2.1
  have fm:∀ b∈frs X.stack,∃ o,s'.heap.get? b=some o∧∀ vs,o.data ≠ .fields vs:=fun b hb=>(fl.2.2.1.mem hb).2
  obtain ⟨oe,vs,h1,h2,h3⟩:=he
  have new:s0.heap.get? ea=none:=by
    cases q:s0.heap.get? ea with
    | none=>rfl
    | some o =>
      by_cases hb:ea∈frs X.stack
      · obtain ⟨ob,q3,d⟩:=fm ea hb
        obtain ⟨s4,q4⟩:=sl ea _ q3 d
        rw [h1] at q4
        cases q4
        exact absurd h3 (d vs)
      · obtain ⟨o',e⟩:=cov ea o q hb
        rw [fl.2.1] at e;cases e
  refine ⟨Inv.call' (s' := { s' with heap:=h5 }) I os ((un.on cov fl.1 k5 sl fm).more new hn) ?_ bare (fun b z=>absurd z (by simp)),hn⟩
  intro b u e
  have tup:∀ c xs,H' c=some (.tup xs)→upd H' ea (XO ea C) c=some (.tup xs):=fun c xs z=>by rw [upd_ne (ne_of_none z hn)];exact z
  have own:∀ c y,H' c=some (.own y)→upd H' ea (XO ea C) c=some (.own y):=fun c y z=>by rw [upd_ne (ne_of_none z hn)];exact z
  by_cases hb:b=ea
  · subst hb
    rw [upd_same] at e
    cases e
    refine ⟨⟨oe,h1,h2⟩,⟨oe,h1⟩,fun g1 g2 ⟨o,z1,z2⟩ k=>⟨o,k o z1,z2⟩⟩
  · rw [upd_ne hb] at e
    exact (hok b u e).stay (fun c v hc q=>k5 _ _ q) (fun c z=>own c b z) tup
end

noncomputable def Wish (X:Cx) (pins:List (Addr × Obj)) (σ : St) (E:XK) (xe:Value→Shared→Prop):Prop := ∀ (H0:Hp) (s0:Shared) (e:Value) (s':Shared),Inv X pins σ H0 s0→CXE X.prog X.w X.stack H0 s0 E e s'→xe e s'
noncomputable def PEt (X:Cx) (e:Expr) (t:XK→TE):Prop := ∀ (E:XK) (pins:List (Addr × Obj)) (s:Shared) (σ : St) (H:Hp) (Q:VK) (xe:Value→Shared→Prop),Wish X pins σ E xe→Inv X pins σ H s→t E σ H Q →
  wpAny (model X.prog X.w) X.A (eval e X.env) (EP X pins σ Q) xe s
noncomputable def PSt (X:Cx) (st:List Stmt) (t:XK→TS):Prop := ∀ (E:XK) (pins:List (Addr × Obj)) (s:Shared) (σ : St) (H:Hp) (D:Ends) (xe:Value→Shared→Prop),Wish X pins σ E xe→Inv X pins σ H s→t E D σ H →
  wpAny (model X.prog X.w) X.A (execs st X.env) (SP X pins D) xe s
section
variable {X:Cx} {k:Nat} {f:Addr} {fd:FuncData} {ps:List Str} {sp:Sp} {dvs:List V} {ds:List Value} {x:Str} {p pos:Pos} {e:Expr} {es:List Expr} {t:TA}
theorem run_fnX {CX:CXT} {E:XK} {xe:Value→Shared→Prop} {pins:List (Addr × Obj)} {σ : St} {H:Hp} {s:Shared} {Q:VK} {us:List Value} {vs:List V} (F:FnOk X.prog X.w X.K X.mg X.base CX k f fd ps sp) (hr:Room k X.A) (hb:Binds X.K fd ps ds) (hd:Vals dvs ds)
    (I:Inv X pins σ H s) (hx:∀ e s',CX X.stack H s E e s'→xe e s') (r:Vals vs us) (h:sp (vs ++ dvs) H Q E):wpAny (model X.prog X.w) X.A (call (.ref f) us) (EP X pins σ Q) xe s:=by
  have r2:Vals (vs ++ dvs) (us ++ ds):=r.append hd
  have hl:(us ++ ds).length=ps.length:=by rw [← r2.length];exact F.len _ _ _ _ h
  refine wpAny_call (codeAny_mono (F.run X.A X.stack s H ⟨us, []⟩ (us ++ ds) (vs ++ dvs) Q E hr I.env0 (hb s us I.kIn hl) r2 h) fun r s' hq => ?_)
  cases r with
  | error e=>exact hx e s' hq
  | ok fl =>
    cases fl with
    | ret u=>exact I.after hq
    | next=>exact False.elim hq
    | brk=>exact False.elim hq
    | cont=>exact False.elim hq
end

structure RoomN (k:Nat) (A:Around):Prop where
  dp:A.depth+3 * k+5 < recursionLimit
  un:A.units+16 * k+200 < cLine
theorem Room.mark {k:Nat} {A:Around} (r:Room k A) (v:Option Value):RoomN k (A.mark v):=⟨r.dp,r.un⟩
theorem RoomN.mono {j k:Nat} {A:Around} (r:RoomN k A) (h:j≤k):RoomN j A:=⟨by have:=r.dp;omega,by have:=r.un;omega⟩
theorem RoomN.deeper {k:Nat} {A:Around} (r:RoomN (k+1) A) (env:Env):RoomN k (A.deeper env) :=
  ⟨by have:=r.dp;show A.depth+1+3 * k+5 < _;omega,by have:=r.un;show A.units+3+16 * k+200 < _;omega⟩
structure FnN (P:Program) (w:World) (K:PySem.W.Frag) (mg:Str→Option Value) (base:Heap) (k:Nat) (f:Addr) (fd:FuncData) (ps:List Str) (sp:Sp):Prop where
  len:∀ vs H Q E,sp vs H Q E→vs.length=ps.length
  run:∀ (A:Around) (outer:List Env) (s:Shared) (H:Hp) (args:Args) (us:List Value) (vs:List V) (Q:VK),RoomN k A→Env0 P w K mg base A outer s H→BindsTo s fd args (ps.zip us)→Vals vs us→sp vs H Q E0 →
    codeAny (model P w) A (.call (.ref f) args) (CR CX0 outer P w H s Q E0) s
theorem fn_N {P:Program} {w:World} {K:PySem.W.Frag} {mg:Str→Option Value} {base:Heap} {k:Nat} {f:Addr} {x qual:Str} {st:Stmt} {fd:FuncData} {N ps:List Str} {sp:Sp} (F:Fun K x qual st f fd) (S:FnScope N ps (defScope st))
    (len:∀ vs H Q E,sp vs H Q E→vs.length=ps.length)
    (hbody:∀ (cdv:Value) (A:Around) (outer:List Env) (s:Shared) (H:Hp) (vs:List V) (Q:VK),RoomN k (A.deeper (envOfC qual (defScope st) s.heap.objs.size f cdv))→sp vs H Q E0 →
      ∃ t,PSs ((cxOf CX0 P w K mg base N qual (defScope st) f cdv { A with handled:=none } outer s H E0).uncalm (A.deeper (envOfC qual (defScope st) s.heap.objs.size f cdv)) fun _ _=>False) (defBody st) t∧t { nx:=fun _ H'=>Q .non H',rt:=Q } (start N vs) H) :
    FnN P w K mg base (k+1) f fd ps sp:=by
  obtain ⟨oc,od,kV,doc,pm,an,cdv,ct,osl,rfl,lk,hcd⟩:=F.ex
  refine ⟨len,fun A outer s H args us vs Q hr e0 hb r hsp => ?_⟩
  have hl:=len _ _ _ _ hsp
  have KX:K.In s.heap:=e0.mod.kin.keeps fun b o e=>(e0.bs b o e).1
  have lim:s.heap.NoLimit:=e0.mod.nolimit.keeps fun b o e=>(e0.bs b o e).1
  have hkind:∀ y∈ps.zip us,(defScope st).names.lookup y.1=some .local∨((defScope st).names.lookup y.1=some .cell∧((cellsFrom (s.heap.objs.size+1) (defScope st).names []).lookup y.1).isSome=true):=fun ⟨n,v⟩ hy=>by
    rcases S.par n (List.of_mem_zip hy).1 with q | q
    · exact .inl q
    · exact .inr ⟨q,PySem.W.cellsFrom_some _ _ _ (.inl q)⟩
  have hdep:A.depth < recursionLimit:=by have:=hr.dp;omega
  refine codeAny_call_function hdep (KX _ _ lk) rfl S.co S.gen rfl (PySem.W.codeRec_of KX hcd) (hb _ _ _ _ ?_)
  refine wpAny_newFunctionEnv_cells S.kind hkind fun env he s1 x => ?_
  subst he
  refine ⟨lim.keeps x.toInCall.keep,codeAny_func ?_⟩
  obtain ⟨t,ht,hq⟩:=hbody cdv A outer s H vs Q (hr.deeper _) hsp
  have e0':Env0 P w K mg base { A with handled:=none } outer s H:=⟨e0.frames,e0.mod,e0.bs,e0.bsz,e0.funs,e0.frf,e0.hok,e0.bare⟩
  have I0:Inv (cxOf CX0 P w K mg base N qual (defScope st) f cdv { A with handled:=none } outer s H E0) [] (start N vs) H s1:=inv_start S rfl e0' hl r x
  have I:=I0.uncalm (A:=A.deeper (envOfC qual (defScope st) s.heap.objs.size f cdv)) (xe:=fun _ _=>False) rfl
  refine wpAny_mono (ht [] s1 (start N vs) H _ I hq) (fun fl s' hs => ?_) fun e s' hs=>False.elim hs
  have fin:∀ {σ':St} {H':Hp} {v:V} {u:Value},Inv ((cxOf CX0 P w K mg base N qual (defScope st) f cdv { A with handled:=none } outer s H E0).uncalm (A.deeper (envOfC qual (defScope st) s.heap.objs.size f cdv)) fun _ _=>False) [] σ' H' s'→RelV v u→Q v H'→CE outer P w H s Q u s' :=
    fun {σ' H' v u} J rv q=>⟨v,H',J.os,J.bare,J.base,J.hok,rv,q⟩
  cases fl with
  | ret u =>
    obtain ⟨v, σ',H',J,rv,q⟩:=hs
    exact fin J rv q
  | next =>
    obtain ⟨σ',H',J,q⟩:=hs
    exact fin (v:=V.non) (u:=Value.none) J rfl q
  | brk =>
    obtain ⟨_,_,_,q⟩:=hs
    exact False.elim q
  | cont =>
    obtain ⟨_,_,_,q⟩:=hs
    exact False.elim q

end L2
namespace L2
open PySem PySem.Spec PyProof.Rows

theorem joins_mono {M:Model} {A:Around} {E:Value→Shared→Prop} {R R':Str→Shared→Prop} (h:∀ z s,R z s→R' z s):∀ {l:List (Sem Value)} {acc:Str} {s:Shared},Joins M A E l acc R s→Joins M A E l acc R' s
  | [],acc,s,q=>h _ _ q
  | x :: r,acc,s,q=>wpAny_mono q (fun v s1 ⟨y,t,e,hz,q1⟩=>⟨y,t,e,hz,joins_mono h q1⟩) fun _ _ z=>z
section
variable {X:Cx}
noncomputable abbrev TJ:=St→Hp→(Hp→Prop)→Prop
noncomputable def PJ (X:Cx) (es:List Expr) (t:TJ):Prop := ∀ (pins:List (Addr × Obj)) (s:Shared) (σ : St) (H:Hp) (acc:Str) (Q:Hp→Prop),Inv X pins σ H s→acc.length+1000 * es.length≤100000 →
  t σ H Q→Joins (model X.prog X.w) X.A X.xe (evalEach es X.env) acc (fun out s1=>out.length≤100000∧∃ H1,Inv X pins σ H1 s1∧Q H1) s
noncomputable def jNil:TJ:=fun _ H Q=>Q H
noncomputable def jCons (te:TE) (t:TJ):TJ:=fun σ H Q=>te σ H fun x H1=>∃ z,x = .str z∧z.length≤1000∧t σ H1 Q
theorem pj_nil:PJ X [] jNil:=fun pins s σ H acc R I hl h=>⟨by simpa using hl,H,I,h⟩
theorem pj_cons {e:Expr} {es:List Expr} {te:TE} {t:TJ} (he:PE X e te) (hr:PJ X es t) (hs:evalEach (e :: es) X.env=eval e X.env :: evalEach es X.env:=by rfl):PJ X (e :: es) (jCons te t):=by
  intro pins s σ H acc R I hl h
  rw [hs]
  rw [List.length_cons] at hl
  refine thn (he pins s σ H _ I h) fun v s1 ⟨x,H1,I1,rx,z,ex,hz,q⟩ => ?_
  subst ex
  obtain ⟨tk,rfl⟩:=rx
  have hlen:(acc ++ z).length=acc.length+z.length:=Str.length_append _ _
  refine ⟨z,tk,rfl,by rw [hlen];exact Nat.le_trans (by omega:_≤100000) (by decide),hr pins s1 σ H1 (acc ++ z) R I1 (by rw [hlen];omega) q⟩
noncomputable def tJoined (n:Nat) (t:TJ):TE:=fun σ H Q=>n≤90∧t σ H fun H1=>∀ z:Str,Q (.str z) H1
theorem pe_joined {a b:Expr} {r:List Expr} {t:TJ} {pos:Pos} (h:PJ X (a :: b :: r) t):PE X (.JoinedStr (a :: b :: r) pos) (tJoined (a :: b :: r).length t):=by
  intro pins s σ H Q I hw
  obtain ⟨hn,hq⟩:=hw
  refine wpAny_JoinedStr (joins_mono (fun z s1 ⟨hz,H1,I1,q⟩=>⟨Nat.le_trans hz (by decide),⟨.str z,H1,I1.tok _,⟨_,rfl⟩,q z⟩⟩) (h pins s σ H Str.empty _ I ?_ hq))
  show 0+_≤_
  omega
noncomputable def tFmtI (tv:TE):TE:=fun σ H Q=>tv σ H fun x H1=>∃ i,x = .int i∧i.natAbs.log2 < 1920∧Q (.str (toString i)) H1
theorem pe_fmtI {v:Expr} {tv:TE} {pos:Pos} (h:PE X v tv):PE X (.FormattedValue v (-1) none pos) (tFmtI tv):=by
  intro pins s σ H Q I hw
  refine FormattedValue_plain (thn (h pins s σ H _ I hw) fun u s1 ⟨x,H1,I1,rx,i,ex,hi,q⟩ => ?_)
  subst ex
  obtain ⟨tk,rfl⟩:=rx
  exact formatField_int_small hi ⟨.str _,H1,I1.tok _,⟨_,rfl⟩,q⟩
noncomputable def tFmtR (tv:TE):TE:=fun σ H Q=>tv σ H fun x H1=>∃ z,x = .str z∧(reprText z).length≤1000∧Q (.str (reprText z)) H1
theorem pe_fmtR {v:Expr} {tv:TE} {pos:Pos} (h:PE X v tv):PE X (.FormattedValue v 114 none pos) (tFmtR tv):=by
  intro pins s σ H Q I hw
  refine wpAny_FormattedValue_repr (thn (h pins s σ H _ I hw) fun u s1 ⟨x,H1,I1,rx,z,ex,hz,q⟩ => ?_)
  subst ex
  obtain ⟨tk,rfl⟩:=rx
  have hz':(reprText z).length≤sizeLine:=Nat.le_trans hz (by decide)
  refine wpAny_pyReprObj_str (hsz:=hz') ?_
  exact formatField_str (fun t' tk'=>⟨.str _,H1,I1.tok _,⟨_,rfl⟩,q⟩) hz'
inductive J_call_int_text (xs:List V) (H:Hp) (Q:VK):Prop
  | mk:∀ z n,(xs = [.str z])→(intText? z=some n)→(z.length≤640)→(Q (.int n) H)→J_call_int_text xs H Q
theorem call_int_text:CallR X (.type "int") (fun xs H Q=>J_call_int_text xs H Q):=by
  intro pins s σ H xs us Q I r h
  obtain ⟨z,n,rfl,hn,hl,q⟩:=h
  obtain ⟨u,rfl,rx⟩:=Vals.one r
  obtain ⟨tk,rfl⟩:=rx
  exact PySem.W.KIN.call_text hn hl ⟨.int n,H,I.tok _,⟨_,rfl⟩,q⟩
theorem pe_globS {x z:Str} {pos:Pos} (h:∃ t,X.mg x=some (.str z t)) (hg:Gl X x) (hd:(x == ("__debug__" : Str))=false:=by decide):PE X (.Name x pos) (tC (.str z)) :=
  let ⟨t,e⟩:=h;pe_glob hg e ⟨t,rfl⟩ hd
theorem pe_globI {x:Str} {i:Int} {pos:Pos} (h:∃ t,X.mg x=some (.int i t)) (hg:Gl X x) (hd:(x == ("__debug__" : Str))=false:=by decide):PE X (.Name x pos) (tC (.int i)) :=
  let ⟨t,e⟩:=h;pe_glob hg e ⟨t,rfl⟩ hd
end

theorem Fun.okE {P:Program} {w:World} {K:PySem.W.Frag} {mg:Str→Option Value} {base:Heap} {x qual:Str} {st:Stmt} {f:Addr} {fd:FuncData} {N ps:List Str} {k:Nat} {sp:Sp} (F:Fun K x qual st f fd) (S:FnScope N ps (defScope st)) (len:∀ vs H Q E,sp vs H Q E→vs.length=ps.length)
    (hbody:∀ (cdv:Value) (A:Around) (outer:List Env) (s:Shared) (H:Hp) (vs:List V) (Q:VK) (E:XK),Room k (A.deeper (envOfC qual (defScope st) s.heap.objs.size f cdv))→sp vs H Q E →
      ∃ t,PSs (cxOf (CXE P w) P w K mg base N qual (defScope st) f cdv A outer s H E) (defBody st) t∧t { nx:=fun _ H'=>Q .non H',rt:=Q } (start N vs) H):FnOk P w K mg base (CXE P w) (k+1) f fd ps sp:=by
  obtain ⟨oc,od,kV,doc,pm,an,cdv,ct,osl,rfl,lk,hcd⟩:=F.ex
  exact fn_of lk hcd S len fun A outer s H vs Q E hr hsp=>hbody cdv A outer s H vs Q E hr hsp
structure HasE (P:Program) (w:World) (K:PySem.W.Frag) (mg:Str→Option Value) (base:Heap) (k:Nat) (x:Str) (ps:List Str) (sp:Sp):Prop where
  ex:∃ f fd,FnOk P w K mg base (CXE P w) k f fd ps sp∧mg x=some (.ref f)∧PySem.W.keepIn K (.ref f)=true∧Binds K fd ps []
structure HasM (P:Program) (w:World) (K:PySem.W.Frag) (mg:Str→Option Value) (base:Heap) (k:Nat) (C:Addr) (m:Str) (ps:List Str) (sp:Sp):Prop where
  ex:∃ f fd,FnOk P w K mg base (CXE P w) k f fd ps sp∧Meth K C m f∧Binds K fd ps []
structure HasC (P:Program) (w:World) (K:PySem.W.Frag) (mg:Str→Option Value) (base:Heap) (k:Nat) (x:Str) (C:Addr) (ps:List Str) (sp:Sp):Prop where
  ex:∃ f fd,FnOk P w K mg base (CXE P w) k f fd ps sp∧mg x=some (.ref C)∧Mk K C f∧Binds K fd ps []
structure DefM (K:PySem.W.Frag) (C:Addr) (m qual:Str) (st:Stmt) (ps:List Str):Prop where
  ex:∃ f fd,Fun K m qual st f fd∧Meth K C m f∧Binds K fd ps []
structure DefC (K:PySem.W.Frag) (mg:Str→Option Value) (x:Str) (C:Addr) (qual:Str) (st:Stmt) (ps:List Str):Prop where
  ex:∃ f fd,Fun K "__init__" qual st f fd∧mg x=some (.ref C)∧Mk K C f∧Binds K fd ps []
section
variable {P:Program} {w:World} {K:PySem.W.Frag} {mg:Str→Option Value} {base:Heap} {x m qual:Str} {C:Addr} {st:Stmt} {N ps:List Str} {k:Nat} {sp:Sp}
theorem Def.hasE (D:Def K mg x st ps) (S:FnScope N ps (defScope st)) (len:∀ vs H Q E,sp vs H Q E→vs.length=ps.length)
    (hbody:∀ (f:Addr) (cdv:Value) (A:Around) (outer:List Env) (s:Shared) (H:Hp) (vs:List V) (Q:VK) (E:XK),Room k (A.deeper (envOfC x (defScope st) s.heap.objs.size f cdv))→sp vs H Q E →
      ∃ t,PSs (cxOf (CXE P w) P w K mg base N x (defScope st) f cdv A outer s H E) (defBody st) t∧t { nx:=fun _ H'=>Q .non H',rt:=Q } (start N vs) H):HasE P w K mg base (k+1) x ps sp:=by
  obtain ⟨f,fd,F,hm,hb⟩:=D.ex
  exact ⟨f,fd,F.okE S len (hbody f),hm,F.kp,hb⟩
theorem DefM.has (D:DefM K C m qual st ps) (S:FnScope N ps (defScope st)) (len:∀ vs H Q E,sp vs H Q E→vs.length=ps.length)
    (hbody:∀ (f:Addr) (cdv:Value) (A:Around) (outer:List Env) (s:Shared) (H:Hp) (vs:List V) (Q:VK) (E:XK),Room k (A.deeper (envOfC qual (defScope st) s.heap.objs.size f cdv))→sp vs H Q E →
      ∃ t,PSs (cxOf (CXE P w) P w K mg base N qual (defScope st) f cdv A outer s H E) (defBody st) t∧t { nx:=fun _ H'=>Q .non H',rt:=Q } (start N vs) H):HasM P w K mg base (k+1) C m ps sp:=by
  obtain ⟨f,fd,F,hm,hb⟩:=D.ex
  exact ⟨f,fd,F.okE S len (hbody f),hm,hb⟩
theorem DefC.has (D:DefC K mg x C qual st ps) (S:FnScope N ps (defScope st)) (len:∀ vs H Q E,sp vs H Q E→vs.length=ps.length)
    (hbody:∀ (f:Addr) (cdv:Value) (A:Around) (outer:List Env) (s:Shared) (H:Hp) (vs:List V) (Q:VK) (E:XK),Room k (A.deeper (envOfC qual (defScope st) s.heap.objs.size f cdv))→sp vs H Q E →
      ∃ t,PSs (cxOf (CXE P w) P w K mg base N qual (defScope st) f cdv A outer s H E) (defBody st) t∧t { nx:=fun _ H'=>Q .non H',rt:=Q } (start N vs) H):HasC P w K mg base (k+1) x C ps sp:=by
  obtain ⟨f,fd,F,hm,hb⟩:=D.ex
  exact ⟨f,fd,F.okE S len (hbody f),hm,hb⟩
end
section
variable {X:Cx} {k k':Nat} {x m:Str} {C:Addr} {ps:List Str} {sp:Sp} {p pos apos:Pos} {e o:Expr} {es:List Expr} {ta:TE} {t:TA} {E:XK}
theorem pe_callE (h:HasE X.prog X.w X.K X.mg X.base k x ps sp) (hr:Room k' X.A) (hk:k≤k') (hx:Passes (CXE X.prog X.w) X E) (hg:Gl X x) (ha:PA X (e :: es) t) (hdb:(x == ("__debug__" : Str))=false:=by decide)
    (he:starEach (e :: es) X.env=(false,eval e X.env) :: starEach es X.env:=by rfl) (hpl:(backTo pos (starEach es X.env)).any (·.1)=false:=by rfl) :
    PE X (.Call (.Name x p) (e :: es) [] pos) (tCall sp [] E t):=by
  obtain ⟨f,fd,F,hm,hkp,hb⟩:=h.ex
  exact pe_call F (hr.mono hk) hg hm hkp hb .nil hx ha hdb he hpl
theorem pe_mE {pl:Sem Bool} (h:HasM X.prog X.w X.K X.mg X.base k C m ps sp) (c:Cls X.K C) (hr:Room k' X.A) (hk:k≤k') (hx:Passes (CXE X.prog X.w) X E) (he:PE X o ta) (ha:PA X (e :: es) t)
    (hst:starEach (e :: es) X.env=(false,eval e X.env) :: starEach es X.env:=by rfl) (hpl:(backTo pos (starEach es X.env)).any (·.1)=false:=by rfl)
    (ht:eval (.Call (.Attribute o m apos) (e :: es) [] pos) X.env=(do
      let ov ← eval o X.env
      standAt apos.atName
      let (f,first) ← holding [ov] (getMethod ov m pl)
      callWith pos f first (backTo pos (starEach (e :: es) X.env)) (backToKw pos (keywordEach [] X.env))):=by rfl) :
    PE X (.Call (.Attribute o m apos) (e :: es) [] pos) (tMeth C m sp [] E ta t):=by
  obtain ⟨f,fd,F,hm,hb⟩:=h.ex
  exact pe_meth he c hm F (hr.mono hk) hb .nil hx ha hst hpl ht
theorem pe_mE0 {pl:Sem Bool} (h:HasM X.prog X.w X.K X.mg X.base k C m ps sp) (c:Cls X.K C) (hr:Room k' X.A) (hk:k≤k') (hx:Passes (CXE X.prog X.w) X E) (he:PE X o ta)
    (ht:eval (.Call (.Attribute o m apos) [] [] pos) X.env=(do
      let ov ← eval o X.env
      standAt apos.atName
      let (f,first) ← holding [ov] (getMethod ov m pl)
      callWith pos f first (backTo pos (starEach [] X.env)) (backToKw pos (keywordEach [] X.env))):=by rfl) :
    PE X (.Call (.Attribute o m apos) [] [] pos) (tMeth C m sp [] E ta tNil):=by
  obtain ⟨f,fd,F,hm,hb⟩:=h.ex
  exact pe_meth0 he c hm F (hr.mono hk) hb .nil hx ht
theorem pe_makeE (h:HasC X.prog X.w X.K X.mg X.base k x C ps sp) (hr:Room k' X.A) (hk:k+1≤k') (hx:Passes (CXE X.prog X.w) X E) (hg:Gl X x) (ha:PA X (e :: es) t) (hdb:(x == ("__debug__" : Str))=false:=by decide)
    (he:starEach (e :: es) X.env=(false,eval e X.env) :: starEach es X.env:=by rfl) (hpl:(backTo pos (starEach es X.env)).any (·.1)=false:=by rfl) :
    PE X (.Call (.Name x p) (e :: es) [] pos) (tMake C sp [] E t):=by
  obtain ⟨f,fd,F,hm,M,hb⟩:=h.ex
  exact pe_make M F (hr.mono hk) hg hm hb .nil hx ha hdb he hpl
end
end L2
namespace L2
open PySem PySem.Spec PyProof.Rows
noncomputable def eqT (xs ys:List V):Bool:=(List.range (min xs.length ys.length)).all (fun j=>eqV (xs.getD j .non) (ys.getD j .non)) && xs.length == ys.length
theorem vals_getD {xs:List V} {us:List Value} (r:Vals xs us) (j:Nat) (h:j < us.length):RelV (xs.getD j .non) us[j]:=by
  have hx:j < xs.length:=by rw [r.length];exact h
  obtain ⟨u,h1,h2⟩:=r.get (List.getElem?_eq_getElem hx)
  rw [List.getElem?_eq_getElem h] at h1
  cases h1
  rw [List.getD_eq_getElem?_getD,List.getElem?_eq_getElem hx]
  exact h2
theorem flat_getD {xs:List V} (f:xs.all flatV=true) (j:Nat) (h:j < xs.length):flatV (xs.getD j .non)=true:=by
  rw [List.getD_eq_getElem?_getD,List.getElem?_eq_getElem h]
  exact List.all_eq_true.mp f _ (List.getElem_mem h)
end L2
namespace L2
open PySem PySem.Spec PyProof.Rows
section
variable {X:Cx}
noncomputable def rNeT (K:PySem.W.Frag):R2:=fun x y H Q=>∃ a b xs ys,x = .ref a∧y = .ref b∧SqT K H a xs∧SqT K H b ys∧xs.all flatV=true∧ys.all flatV=true∧Q (.bl (!eqT xs ys)) H
theorem op_neT (hu:X.A.units < cLine):OpR X (compareOp .NotEq) (rNeT X.K):=by
  intro pins s σ H x y v u Q I rx ry h
  obtain ⟨a,b,xs,ys,rfl,rfl,ha,hb,fx,fy,q⟩:=h
  cases (show v=Value.ref a from rx)
  cases (show u=Value.ref b from ry)
  obtain ⟨its,r1,t1,_⟩:=I.tuple ha
  obtain ⟨its2,r2,t2,_⟩:=I.tuple hb
  have e1:=r1.length
  have e2:=r2.length
  refine SeqAt.RcNeAt.tuples (e:=fun j=>eqV (xs.getD j .non) (ys.getD j .non)) (items:=its.toArray) (items2:=its2.toArray) t1 t2 hu (fun j h1 h2 => ?_) _ _ _ _ ?_
  · have h1':j < its.length:=by simpa using h1
    have h2':j < its2.length:=by simpa using h2
    have z1:=vals_getD r1 j h1'
    have z2:=vals_getD r2 j h2'
    have z:=eqAt_V (A:=X.A.in1) (s:=s) z1 z2 (flat_getD fx j (by omega)) (flat_getD fy j (by omega))
    simpa using z
  · refine ⟨.bl (!eqT xs ys),H,I,?_,q⟩
    show Value.bool _=Value.bool _
    unfold eqT
    simp only [List.size_toArray,e1,e2]
end
end L2
namespace L2
open PySem PySem.Spec PyProof.Rows
inductive StrsC:List Expr→List Str→Prop where
  | nil:StrsC [] []
  | cons {x:Str} {j:Nat} {p:Pos} {es:List Expr} {L:List Str} (h:StrsC es L):StrsC (.Constant (.str x) j p :: es) (x :: L)
noncomputable def tStrs (L:List Str):TA:=fun _ H Q=>Q (L.map V.str) H
theorem pa_strs {X:Cx} {es:List Expr} {L:List Str} (h:StrsC es L):PA X es (tStrs L):=by
  induction h with
  | nil=>exact pa_nil
  | cons h ih=>exact pa_cons pe_str ih
end L2
namespace L2
open PySem PySem.Spec PyProof.Rows

inductive D where
  | non | int (i:Int) | str (x:Str) | tup (ds:List D) | lst (ds:List D)
noncomputable instance:DecidableEq D:=fun _ _=>Classical.propDecidable _
mutual
noncomputable def D.deep:D→Nat
  | .tup ds=>D.deeps ds+1
  | .lst ds=>D.deeps ds+1
  | .non=>0
  | .int _=>0
  | .str _=>0
noncomputable def D.deeps:List D→Nat
  | []=>0
  | d :: ds=>max d.deep (D.deeps ds)
end
theorem deeps_le:∀ {ds:List D} {d:D},d∈ds→d.deep≤D.deeps ds
  | e :: ds,d,h=>by
    rw [D.deeps]
    rcases List.mem_cons.mp h with rfl | h
    · omega
    · have:=deeps_le h;omega
mutual
noncomputable def DenR (h:Heap):D→Value→Prop
  | .non,u=>u=Value.none
  | .int i,u=>(∃ t,u=Value.int i t)∨∃ b,u=Value.bool b∧i=(if b then 1 else 0)
  | .str x,u=>∃ t,u=Value.str x t
  | .tup ds,u=>∃ a us,u=Value.ref a∧h.IsTuple a us.toArray∧DenRs h ds us
  | .lst ds,u=>∃ a us,u=Value.ref a∧h.IsList a us.toArray∧DenRs h ds us
noncomputable def DenRs (h:Heap):List D→List Value→Prop
  | [],us=>us = []
  | d :: ds,us=>∃ u us',us=u :: us'∧DenR h d u∧DenRs h ds us'
end
theorem denRs_len {h:Heap}:∀ {ds:List D} {us:List Value},DenRs h ds us→us.length=ds.length
  | [],us,r=>by rw [DenRs] at r;subst r;rfl
  | d :: ds,us,r=>by
    rw [DenRs] at r
    obtain ⟨u,us',rfl,_,r⟩:=r
    rw [List.length_cons,List.length_cons,denRs_len r]
theorem denRs_at {h:Heap}:∀ {ds:List D} {us:List Value} {j:Nat} {d:D},DenRs h ds us→ds[j]? = some d→∃ u,us[j]? = some u∧DenR h d u
  | [],us,j,d,r,e=>by simp at e
  | c :: ds,us,0,d,r,e=>by
    rw [DenRs] at r
    obtain ⟨u,us',rfl,r1,_⟩:=r
    simp at e;subst e
    exact ⟨u,rfl,r1⟩
  | c :: ds,us,j+1,d,r,e=>by
    rw [DenRs] at r
    obtain ⟨u,us',rfl,_,r⟩:=r
    obtain ⟨u',e',r'⟩:=denRs_at (j:=j) (d:=d) r (by simpa using e)
    exact ⟨u',by simpa using e',r'⟩
theorem tup_seq {h:Heap} {a:Addr} {x y:Array Value} (p:h.IsTuple a x) (q:h.IsTuple a y):x=y:=by
  obtain ⟨o,e,_,n,d⟩:=p
  obtain ⟨o',e',_,n',d'⟩:=q
  rw [e] at e';cases e'
  rw [d] at d'
  injection d'
theorem lst_seq {h:Heap} {a:Addr} {x y:Array Value} (p:h.IsList a x) (q:h.IsList a y):x=y:=by
  obtain ⟨o,e,_,n,d⟩:=p
  obtain ⟨o',e',_,n',d'⟩:=q
  rw [e] at e';cases e'
  rw [d] at d'
  injection d'
theorem lst_tup {h:Heap} {a:Addr} {x y:Array Value} (p:h.IsList a x) (q:h.IsTuple a y):False:=by
  obtain ⟨o,e,c,n,d⟩:=p
  obtain ⟨o',e',c',n',d'⟩:=q
  rw [e] at e';cases e'
  rw [c] at c'
  exact absurd (Value.type.inj c') (by decide)
mutual
theorem denR_inj {h:Heap}:∀ {d e:D} {u:Value},DenR h d u→DenR h e u→d=e
  | .non,e,u,r,q=>by
    rw [DenR] at r;subst r
    cases e with
    | non=>rfl
    | int i=>rw [DenR] at q;rcases q with ⟨t,z⟩ | ⟨b,z,_⟩ <;> cases z
    | str x=>rw [DenR] at q;obtain ⟨t,z⟩:=q;cases z
    | tup es=>rw [DenR] at q;obtain ⟨a,us,z,_⟩:=q;cases z
    | lst es=>rw [DenR] at q;obtain ⟨a,us,z,_⟩:=q;cases z
  | .int i,e,u,r,q=>by
    rw [DenR] at r
    cases e with
    | non=>rw [DenR] at q;subst q;rcases r with ⟨t,z⟩ | ⟨b,z,_⟩ <;> cases z
    | int j =>
      rw [DenR] at q
      rcases r with ⟨t,rfl⟩ | ⟨b,rfl,hb⟩ <;> rcases q with ⟨t',z⟩ | ⟨b',z,hb'⟩ <;> cases z
      · rfl
      · rw [hb,hb']
    | str x=>rw [DenR] at q;obtain ⟨t,rfl⟩:=q;rcases r with ⟨t,z⟩ | ⟨b,z,_⟩ <;> cases z
    | tup es=>rw [DenR] at q;obtain ⟨a,us,rfl,_⟩:=q;rcases r with ⟨t,z⟩ | ⟨b,z,_⟩ <;> cases z
    | lst es=>rw [DenR] at q;obtain ⟨a,us,rfl,_⟩:=q;rcases r with ⟨t,z⟩ | ⟨b,z,_⟩ <;> cases z
  | .str x,e,u,r,q=>by
    rw [DenR] at r
    obtain ⟨t,rfl⟩:=r
    cases e with
    | non=>rw [DenR] at q;cases q
    | int i=>rw [DenR] at q;rcases q with ⟨t,z⟩ | ⟨b,z,_⟩ <;> cases z
    | str x=>rw [DenR] at q;obtain ⟨t,z⟩:=q;cases z;rfl
    | tup es=>rw [DenR] at q;obtain ⟨a,us,z,_⟩:=q;cases z
    | lst es=>rw [DenR] at q;obtain ⟨a,us,z,_⟩:=q;cases z
  | .tup ds,e,u,r,q=>by
    rw [DenR] at r
    obtain ⟨a,us,rfl,p,r⟩:=r
    cases e with
    | non=>rw [DenR] at q;cases q
    | int i=>rw [DenR] at q;rcases q with ⟨t,z⟩ | ⟨b,z,_⟩ <;> cases z
    | str x=>rw [DenR] at q;obtain ⟨t,z⟩:=q;cases z
    | tup es =>
      rw [DenR] at q;obtain ⟨a',us',z,p',q⟩:=q;cases z
      have e:us=us':=by have:=tup_seq p p';simpa using this
      subst e
      rw [denRs_inj r q]
    | lst es=>rw [DenR] at q;obtain ⟨a',us',z,p',_⟩:=q;cases z;exact absurd p (fun p=>lst_tup p' p)
  | .lst ds,e,u,r,q=>by
    rw [DenR] at r
    obtain ⟨a,us,rfl,p,r⟩:=r
    cases e with
    | non=>rw [DenR] at q;cases q
    | int i=>rw [DenR] at q;rcases q with ⟨t,z⟩ | ⟨b,z,_⟩ <;> cases z
    | str x=>rw [DenR] at q;obtain ⟨t,z⟩:=q;cases z
    | tup es=>rw [DenR] at q;obtain ⟨a',us',z,p',_⟩:=q;cases z;exact absurd p (fun p=>lst_tup p p')
    | lst es =>
      rw [DenR] at q;obtain ⟨a',us',z,p',q⟩:=q;cases z
      have e:us=us':=by have:=lst_seq p p';simpa using this
      subst e
      rw [denRs_inj r q]
theorem denRs_inj {h:Heap}:∀ {ds es:List D} {us:List Value},DenRs h ds us→DenRs h es us→ds=es
  | [],es,us,r,q=>by
    rw [DenRs] at r;subst r
    cases es with
    | nil=>rfl
    | cons e es=>rw [DenRs] at q;obtain ⟨u,us',z,_⟩:=q;cases z
  | d :: ds,es,us,r,q=>by
    rw [DenRs] at r
    obtain ⟨u,us',rfl,r1,r⟩:=r
    cases es with
    | nil=>rw [DenRs] at q;cases q
    | cons e es =>
      rw [DenRs] at q;obtain ⟨u',us'',z,q1,q⟩:=q
      cases z
      rw [denR_inj r1 q1,denRs_inj r q]
end
theorem dec_true {p:Prop} [Decidable p] {b:Bool} (h:p↔b=true):b=decide p:=by
  cases b with
  | true=>exact (decide_eq_true (h.mpr rfl)).symm
  | false=>exact (decide_eq_false fun z=>Bool.false_ne_true (h.mp z)).symm
theorem all_eq (ds es:List D):((List.range (min ds.length es.length)).all (fun j=>decide (ds[j]? = es[j]?)) && ds.length == es.length)=decide (ds=es):=by
  refine dec_true ⟨fun h=>by subst h;simp,fun h => ?_⟩
  rw [Bool.and_eq_true,List.all_eq_true] at h
  have hl:ds.length=es.length:=eq_of_beq h.2
  refine List.ext_getElem? fun j => ?_
  by_cases hj:j < ds.length
  · exact of_decide_eq_true (h.1 j (List.mem_range.mpr (by omega)))
  · rw [List.getElem?_eq_none (by omega),List.getElem?_eq_none (by omega)]
theorem all_eq' (ds es:List D) (hl:ds.length=es.length):(List.range ds.length).all (fun j=>decide (ds[j]? = es[j]?))=decide (ds=es):=by
  have:=all_eq ds es
  rw [← hl,Nat.min_self] at this
  simpa using this
section
open SeqAt
variable {A:Around} {s:Shared}
theorem eqAt_cast {u v:Value} {b c:Bool} (h:EqAt A s u v b) (e:b=c):EqAt A s u v c:=e ▸ h
theorem eqAt_D:∀ (n:Nat) {d e:D} {A:Around} {u v:Value},d.deep≤n→DenR s.heap d u→DenR s.heap e v→A.units+n < cLine→EqAt A s u v (decide (d=e)):=by
  intro n
  induction n with
  | zero => ?_
  | succ n ih => ?_
  all_goals intro d e A u v hn r q hu
  all_goals have hu0:A.units < cLine:=by omega
  all_goals cases d with
    | non =>
      rw [DenR] at r;subst r
      cases e with
      | non=>rw [DenR] at q;subst q;exact eqAt_cast (EqAt.same _) (decide_eq_true rfl).symm
      | int j =>
        rw [DenR] at q
        rcases q with ⟨t,rfl⟩ | ⟨b,rfl,_⟩
        · exact eqAt_cast (EqAt.none_int j t) (decide_eq_false (fun z=>nomatch z)).symm
        · exact eqAt_cast (EqAt.none_bool b) (decide_eq_false (fun z=>nomatch z)).symm
      | str y=>rw [DenR] at q;obtain ⟨t,rfl⟩:=q;exact eqAt_cast (EqAt.none_str y t) (decide_eq_false (fun z=>nomatch z)).symm
      | tup es=>rw [DenR] at q;obtain ⟨a,us,rfl,p,_⟩:=q;exact eqAt_cast (EqAt.none_tuple p hu0) (decide_eq_false (fun z=>nomatch z)).symm
      | lst es=>rw [DenR] at q;obtain ⟨a,us,rfl,p,_⟩:=q;exact eqAt_cast (EqAt.none_list p hu0) (decide_eq_false (fun z=>nomatch z)).symm
    | int i =>
      rw [DenR] at r
      cases e with
      | non =>
        rw [DenR] at q;subst q
        rcases r with ⟨t,rfl⟩ | ⟨b,rfl,_⟩
        · exact eqAt_cast (EqAt.int_none i t) (decide_eq_false (fun z=>nomatch z)).symm
        · exact eqAt_cast (EqAt.bool_none b) (decide_eq_false (fun z=>nomatch z)).symm
      | int j =>
        rw [DenR] at q
        have key:∀ x y:Int,(x == y)=decide (D.int x=D.int y):=fun x y=>dec_true ⟨fun z=>by cases z;simp,fun z=>by rw [eq_of_beq z]⟩
        rcases r with ⟨t,rfl⟩ | ⟨b,rfl,hb⟩ <;> rcases q with ⟨t',rfl⟩ | ⟨b',rfl,hb'⟩
        · exact eqAt_cast (EqAt.int_int i t j t') (key i j)
        · rw [hb'];exact eqAt_cast (EqAt.int_bool i t b') (key _ _)
        · rw [hb];exact eqAt_cast (EqAt.bool_int b j t') (key _ _)
        · rw [hb,hb'];exact eqAt_cast (EqAt.bool_bool b b') (by rw [← key];cases b <;> cases b' <;> rfl)
      | str y =>
        rw [DenR] at q;obtain ⟨t,rfl⟩:=q
        rcases r with ⟨t',rfl⟩ | ⟨b,rfl,_⟩
        · exact eqAt_cast (EqAt.int_str i t' y t) (decide_eq_false (fun z=>nomatch z)).symm
        · exact eqAt_cast (EqAt.bool_str b y t) (decide_eq_false (fun z=>nomatch z)).symm
      | tup es =>
        rw [DenR] at q;obtain ⟨a,us,rfl,p,_⟩:=q
        rcases r with ⟨t',rfl⟩ | ⟨b,rfl,_⟩
        · exact eqAt_cast (EqAt.int_tuple i t' p hu0) (decide_eq_false (fun z=>nomatch z)).symm
        · exact eqAt_cast (EqAt.bool_tuple b p hu0) (decide_eq_false (fun z=>nomatch z)).symm
      | lst es =>
        rw [DenR] at q;obtain ⟨a,us,rfl,p,_⟩:=q
        rcases r with ⟨t',rfl⟩ | ⟨b,rfl,_⟩
        · exact eqAt_cast (EqAt.int_list i t' p hu0) (decide_eq_false (fun z=>nomatch z)).symm
        · exact eqAt_cast (EqAt.bool_list b p hu0) (decide_eq_false (fun z=>nomatch z)).symm
    | str x =>
      rw [DenR] at r;obtain ⟨t',rfl⟩:=r
      cases e with
      | non=>rw [DenR] at q;subst q;exact eqAt_cast (EqAt.str_none x t') (decide_eq_false (fun z=>nomatch z)).symm
      | int j =>
        rw [DenR] at q
        rcases q with ⟨t,rfl⟩ | ⟨b,rfl,_⟩
        · exact eqAt_cast (EqAt.str_int x t' j t) (decide_eq_false (fun z=>nomatch z)).symm
        · exact eqAt_cast (EqAt.str_bool x t' b) (decide_eq_false (fun z=>nomatch z)).symm
      | str y =>
        rw [DenR] at q;obtain ⟨t,rfl⟩:=q
        exact eqAt_cast (EqAt.str_str x t' y t) (dec_true ⟨fun z=>by cases z;simp,fun z=>by rw [eq_of_beq z]⟩)
      | tup es=>rw [DenR] at q;obtain ⟨a,us,rfl,p,_⟩:=q;exact eqAt_cast (EqAt.str_tuple x t' p hu0) (decide_eq_false (fun z=>nomatch z)).symm
      | lst es=>rw [DenR] at q;obtain ⟨a,us,rfl,p,_⟩:=q;exact eqAt_cast (EqAt.str_list x t' p hu0) (decide_eq_false (fun z=>nomatch z)).symm
    | tup ds => ?_
    | lst ds => ?_
  · rw [D.deep] at hn;omega
  · rw [D.deep] at hn;omega
  · rw [D.deep] at hn
    have r0:=r
    rw [DenR] at r
    obtain ⟨a,us,rfl,p,r⟩:=r
    cases e with
    | non=>rw [DenR] at q;subst q;exact eqAt_cast (EqAt.tuple_none p hu0) (decide_eq_false (fun z=>nomatch z)).symm
    | int j =>
      rw [DenR] at q
      rcases q with ⟨t,rfl⟩ | ⟨b,rfl,_⟩
      · exact eqAt_cast (EqAt.tuple_int j t p hu0) (decide_eq_false (fun z=>nomatch z)).symm
      · exact eqAt_cast (EqAt.tuple_bool b p hu0) (decide_eq_false (fun z=>nomatch z)).symm
    | str y=>rw [DenR] at q;obtain ⟨t,rfl⟩:=q;exact eqAt_cast (EqAt.tuple_str y t p hu0) (decide_eq_false (fun z=>nomatch z)).symm
    | tup es =>
      have q0:=q
      rw [DenR] at q
      obtain ⟨b,us',rfl,p',q⟩:=q
      by_cases hab:a=b
      · subst hab
        rw [denR_inj r0 q0]
        exact eqAt_cast (EqAt.same _) (decide_eq_true rfl).symm
      · refine eqAt_cast (EqAt.of_refs hab (RcAt.tuples (e:=fun j=>decide (ds[j]? = es[j]?)) p p' hu0 fun j h1 h2 => ?_)) ?_
        · have l1:=denRs_len r
          have l2:=denRs_len q
          have h1':j < us.length:=by simpa using h1
          have h2':j < us'.length:=by simpa using h2
          have e1:=List.getElem?_eq_getElem (l:=ds) (i:=j) (by omega)
          have e2:=List.getElem?_eq_getElem (l:=es) (i:=j) (by omega)
          obtain ⟨u,f1,g1⟩:=denRs_at r e1
          obtain ⟨v,f2,g2⟩:=denRs_at q e2
          have z1:us.toArray[j]=u:=by rw [List.getElem?_eq_getElem h1'] at f1;simpa using f1
          have z2:us'.toArray[j]=v:=by rw [List.getElem?_eq_getElem h2'] at f2;simpa using f2
          rw [z1,z2]
          have:=ih (d:=ds[j]) (e:=es[j]) (A:=A.in1) (by have:=deeps_le (List.getElem_mem (l:=ds) (n:=j) (by omega));omega) g1 g2 (by show A.units+1+n < cLine;omega)
          refine eqAt_cast this ?_
          rw [e1,e2]
          exact decide_eq_decide.mpr ⟨fun z=>by rw [z],fun z=>Option.some.inj z⟩
        · have:=all_eq ds es
          simp only [List.size_toArray,denRs_len r,denRs_len q]
          rw [this]
          exact decide_eq_decide.mpr ⟨fun z=>by rw [z],fun z=>by injection z⟩
    | lst es=>rw [DenR] at q;obtain ⟨b,us',rfl,p',_⟩:=q;exact eqAt_cast (EqAt.tuple_list p p' hu0) (decide_eq_false (fun z=>nomatch z)).symm
  · rw [D.deep] at hn
    have r0:=r
    rw [DenR] at r
    obtain ⟨a,us,rfl,p,r⟩:=r
    cases e with
    | non=>rw [DenR] at q;subst q;exact eqAt_cast (EqAt.list_none p hu0) (decide_eq_false (fun z=>nomatch z)).symm
    | int j =>
      rw [DenR] at q
      rcases q with ⟨t,rfl⟩ | ⟨b,rfl,_⟩
      · exact eqAt_cast (EqAt.list_int j t p hu0) (decide_eq_false (fun z=>nomatch z)).symm
      · exact eqAt_cast (EqAt.list_bool b p hu0) (decide_eq_false (fun z=>nomatch z)).symm
    | str y=>rw [DenR] at q;obtain ⟨t,rfl⟩:=q;exact eqAt_cast (EqAt.list_str y t p hu0) (decide_eq_false (fun z=>nomatch z)).symm
    | tup es=>rw [DenR] at q;obtain ⟨b,us',rfl,p',_⟩:=q;exact eqAt_cast (EqAt.list_tuple p p' hu0) (decide_eq_false (fun z=>nomatch z)).symm
    | lst es =>
      have q0:=q
      rw [DenR] at q
      obtain ⟨b,us',rfl,p',q⟩:=q
      have l1:=denRs_len r
      have l2:=denRs_len q
      by_cases hab:a=b
      · subst hab
        rw [denR_inj r0 q0]
        exact eqAt_cast (EqAt.same _) (decide_eq_true rfl).symm
      by_cases hl:ds.length=es.length
      · refine eqAt_cast (EqAt.of_refs hab (RcAt.lists (e:=fun j=>decide (ds[j]? = es[j]?)) p p' (by simp only [List.size_toArray];omega) hu0 fun j h1 h2 => ?_)) ?_
        · have h1':j < us.length:=by simpa using h1
          have h2':j < us'.length:=by simpa using h2
          have e1:=List.getElem?_eq_getElem (l:=ds) (i:=j) (by omega)
          have e2:=List.getElem?_eq_getElem (l:=es) (i:=j) (by omega)
          obtain ⟨u,f1,g1⟩:=denRs_at r e1
          obtain ⟨v,f2,g2⟩:=denRs_at q e2
          have z1:us.toArray[j]=u:=by rw [List.getElem?_eq_getElem h1'] at f1;simpa using f1
          have z2:us'.toArray[j]=v:=by rw [List.getElem?_eq_getElem h2'] at f2;simpa using f2
          rw [z1,z2]
          have:=ih (d:=ds[j]) (e:=es[j]) (A:=A.in1) (by have:=deeps_le (List.getElem_mem (l:=ds) (n:=j) (by omega));omega) g1 g2 (by show A.units+1+n < cLine;omega)
          refine eqAt_cast this ?_
          rw [e1,e2]
          exact decide_eq_decide.mpr ⟨fun z=>by rw [z],fun z=>Option.some.inj z⟩
        · have:=all_eq' ds es hl
          simp only [List.size_toArray,l1]
          rw [this]
          exact decide_eq_decide.mpr ⟨fun z=>by rw [z],fun z=>by injection z⟩
      · refine eqAt_cast (EqAt.of_refs hab (RcAt.lists_lengths p p' (by simp only [List.size_toArray];simp;omega) hu0)) ?_
        exact (decide_eq_false (fun z=>hl (by injection z with z;rw [z]))).symm
end
section
variable {X:Cx}
end
end L2
namespace L2
open PySem PySem.Spec PyProof.Rows

section
variable {κ : Type} [DecidableEq κ]
noncomputable def valV (kvs:List (κ × V)) (k : κ):Option V:=(kvs.find? fun kv=>decide (kv.1=k)).map (·.2)
noncomputable def putK (kvs:List (κ × V)) (k : κ) (v:V):List (κ × V) :=
  if (kvs.any fun kv=>decide (kv.1=k))=true then kvs.map (fun kv=>if kv.1=k then (kv.1,v) else kv) else kvs ++ [(k,v)]

theorem valV_nil {k : κ}:valV ([]:List (κ × V)) k=none:=rfl
theorem valV_pos {p : κ × V} {r:List (κ × V)} {k : κ} (e:p.1=k):valV (p :: r) k=some p.2:=by simp [valV,List.find?_cons,e]
theorem valV_neg {p : κ × V} {r:List (κ × V)} {k : κ} (e:¬ p.1=k):valV (p :: r) k=valV r k:=by simp [valV,List.find?_cons,e]
theorem valV_any (k : κ):∀ kvs:List (κ × V),(kvs.any fun kv=>decide (kv.1=k))=(valV kvs k).isSome
  | []=>rfl
  | p :: r=>by
    rw [List.any_cons]
    by_cases e:p.1=k
    · simp only [valV_pos e,decide_eq_true e,Bool.true_or,Option.isSome_some]
    · rw [valV_neg e,decide_eq_false e,Bool.false_or];exact valV_any k r
theorem valV_map (k j : κ) (y:V):∀ kvs:List (κ × V),valV (kvs.map fun kv=>if kv.1=k then (kv.1,y) else kv) j=(valV kvs j).map fun x=>if j=k then y else x
  | []=>rfl
  | p :: r=>by
    have ih:=valV_map k j y r
    rw [List.map_cons]
    by_cases h:p.1=k
    · rw [if_pos h]
      by_cases e:p.1=j
      · rw [valV_pos (p:=(p.1,y)) e,valV_pos e,Option.map_some,if_pos (e.symm.trans h)]
      · rw [valV_neg (p:=(p.1,y)) e,valV_neg e,ih]
    · rw [if_neg h]
      by_cases e:p.1=j
      · rw [valV_pos (p:=p) e,valV_pos e,Option.map_some,if_neg (fun z=>h (e.trans z))]
      · rw [valV_neg (p:=p) e,valV_neg e,ih]
theorem valV_snoc (k j : κ) (y:V):∀ kvs:List (κ × V),valV kvs k=none→valV (kvs ++ [(k,y)]) j=if j=k then some y else valV kvs j
  | [],_=>by
    by_cases e:k=j
    · rw [if_pos e.symm];exact valV_pos (p:=(k,y)) e
    · rw [if_neg (fun z=>e z.symm)];exact valV_neg (p:=(k,y)) e
  | p :: r,hn=>by
    rw [List.cons_append]
    have hk:¬ p.1=k:=fun z=>by rw [valV_pos z] at hn;cases hn
    rw [valV_neg hk] at hn
    have ih:=valV_snoc k j y r hn
    by_cases e:p.1=j
    · rw [valV_pos e,valV_pos e,if_neg (fun z=>hk (e.trans z))]
    · rw [valV_neg e,valV_neg e,ih]
theorem valV_put (kvs:List (κ × V)) (k j : κ) (y:V):valV (putK kvs k y) j=if j=k then some y else valV kvs j:=by
  unfold putK
  by_cases a:(kvs.any fun kv=>decide (kv.1=k))=true
  · rw [if_pos a,valV_map]
    rw [valV_any] at a
    by_cases e:j=k
    · obtain ⟨x,hx⟩:=Option.isSome_iff_exists.mp a
      rw [if_pos e,e,hx,Option.map_some,if_pos rfl]
    · rw [if_neg e]
      cases valV kvs j with
      | none=>rfl
      | some x=>rw [Option.map_some,if_neg e]
  · rw [if_neg a]
    refine valV_snoc k j y kvs ?_
    rw [valV_any] at a
    cases q:valV kvs k with
    | none=>rfl
    | some x=>rw [q] at a;exact (a rfl).elim
theorem length_putK (kvs:List (κ × V)) (k : κ) (v:V):(putK kvs k v).length≤kvs.length+1:=by
  unfold putK
  split
  · rw [List.length_map];omega
  · rw [List.length_append,List.length_cons,List.length_nil];omega
theorem putK_new {kvs:List (κ × V)} {k : κ} (v:V) (h:valV kvs k=none):putK kvs k v=kvs ++ [(k,v)]:=by
  unfold putK
  rw [valV_any,h]
  exact if_neg (by decide)

theorem RelO.isSome_eq {o:Option V} {u:Option Value} (r:RelO o u):o.isSome=u.isSome:=by
  cases o with
  | none=>cases u with
    | none=>rfl
    | some _=>exact (show False from r).elim
  | some _=>cases u with
    | none=>exact (show False from r).elim
    | some _=>rfl

theorem KV.val {kvs:List (κ × V)} {vs:List (κ × Value)} (r:KV kvs vs) (k : κ):RelO (valV kvs k) (valueAt vs k):=by
  unfold KV at r
  induction r with
  | nil=>exact True.intro
  | @cons p q ps qs h t ih =>
    obtain ⟨h1,h2⟩:=h
    by_cases e:p.1=k
    · have e':q.1=k:=h1.symm.trans e
      have b:valueAt (q :: qs) k=some q.2:=by simp [valueAt,List.find?_cons,e']
      rw [valV_pos e,b];exact h2
    · have e':¬ q.1=k:=fun z=>e (h1.trans z)
      have b:valueAt (q :: qs) k=valueAt qs k:=by simp [valueAt,List.find?_cons,e']
      rw [valV_neg e,b];exact ih
end


theorem kV_is {P:Program} {w:World} {k:Key} {u:Value} (r:RelV (kV k) u):(mixKind P w).is k u=true:=by
  cases k with
  | inl i=>obtain ⟨t,e⟩:=(show ∃ t,u=Value.int i t from r);subst e;exact mixKind_int P w i t
  | inr x=>obtain ⟨t,e⟩:=(show ∃ t,u=Value.str x t from r);subst e;exact mixKind_str P w x t
theorem items_are {P:Program} {w:World}:∀ {ks:List Key} {us:List Value},Vals (ks.map kV) us→ItemsAre (mixKind P w) ks us
  | [],_,r=>by rw [List.map_nil] at r;cases r;exact .nil
  | k :: ks,_,r=>by
    rw [List.map_cons] at r
    cases r with
    | cons h t=>exact .cons (kV_is h) (items_are t)

noncomputable abbrev KT (H:Hp):List (List Key × V)→List (List Key × Addr × Value)→Prop:=Paired fun p q=>p.1=q.1∧H q.2.1=some (.tup (p.1.map kV))∧RelV p.2 q.2.2
theorem KT.val {H:Hp} {kvs:List (List Key × V)} {xs:List (List Key × Addr × Value)} (r:KT H kvs xs) (k:List Key):RelO (valV kvs k) ((atKey xs k).map (·.2)):=by
  induction r with
  | nil=>exact True.intro
  | @cons p q ps qs h t ih =>
    obtain ⟨h1,_,h2⟩:=h
    by_cases e:p.1=k
    · have e':q.1=k:=h1.symm.trans e
      have b:atKey (q :: qs) k=some q.2:=by simp [atKey,List.find?_cons,e']
      rw [valV_pos e,b];exact h2
    · have e':¬ q.1=k:=fun z=>e (h1.trans z)
      have b:atKey (q :: qs) k=atKey qs k:=by simp [atKey,List.find?_cons,e']
      rw [valV_neg e,b];exact ih

section
variable {P:Program} {w:World} {H:Hp} {h:Heap} {a:Addr}
theorem rd_of {u:HO} (ok:HOk P w H h) (e:Rd H a u):ObjOk P w H h a u:=e.ok ok
theorem dk_rd {kvs:List (Key × V)} (ok:HOk P w H h) (e:Rd H a (.dK kvs)):kvs.length≤sizeLine∧(a == sysModules)=false∧∃ vs,KV kvs vs∧h.DictOf (mixKind P w) a vs :=
  show ObjOk P w H h a (.dK kvs) from rd_of ok e
theorem key_of {ks:List Key} (ok:HOk P w H h) (e:H a=some (.tup (ks.map kV))):(tupleKind (mixKind P w)).is h ks a:=by
  obtain ⟨_,its,r,o,h1,h2,n,h3,_⟩:=(show ObjOk P w H h a (.tup (ks.map kV)) from ok a _ e)
  exact ⟨o,its.toArray,n,h1,h2,h3,by simpa using items_are r⟩
theorem dt_rd {kvs:List (List Key × V)} (ok:HOk P w H h) (e:Rd H a (.dT kvs)):kvs.length≤sizeLine∧(a == sysModules)=false ∧
    ∃ xs,KT H kvs xs∧h.DictOfH (tupleKind (mixKind P w)) a xs:=by
  obtain ⟨z,y,xs,r,o,es,ep,h1,h2,h3,h4,h5⟩:=(show ObjOk P w H h a (.dT kvs) from rd_of ok e)
  refine ⟨z,y,xs,r,o,es,ep,h1,h2,h3,h4,fun x hx => ?_,h5⟩
  have all:∀ {l:List (List Key × V)} {m:List (List Key × Addr × Value)},KT H l m→∀ x∈m,(tupleKind (mixKind P w)).is h x.1 x.2.1:=by
    intro l m q
    induction q with
    | nil=>intro x hx;exact nomatch hx
    | @cons p q ps qs hq t ih =>
      intro x hx
      rcases List.mem_cons.mp hx with e | hx
      · subst e
        exact key_of ok (by rw [← hq.1];exact hq.2.1)
      · exact ih x hx
  exact all r x hx
end

noncomputable def DGet (H:Hp) (a:Addr) (y:V) (r:Option V):Prop :=
  (∃ kvs k,Rd H a (.dK kvs)∧y=kV k∧r=valV kvs k)∨∃ kvs k b,Rd H a (.dT kvs)∧y = .ref b∧H b=some (.tup (k.map kV))∧r=valV kvs k
theorem DGet.k {H:Hp} {a:Addr} {kvs:List (Key × V)} {k:Key} (e:H a=some (.dK kvs)):DGet H a (kV k) (valV kvs k) := .inl ⟨kvs,k,.inl e,rfl,rfl⟩


section
variable {X:Cx} {pins:List (Addr × Obj)} {σ : St} {H:Hp} {s:Shared} {a:Addr} {y v:V} {u r:Value} {o:Option V} {A:Around} {E:Value→Shared→Prop}

theorem Inv.big (I:Inv X pins σ H s):sysModules < s.heap.objs.size:=by
  have h:mainGlobals < s.heap.objs.size:=(I.mod.glob.keeps I.bk).lt
  exact Nat.lt_trans (by decide) h

theorem d_getItem {Q:Value→Shared→Prop} (hu:A.units+1 < cLine) (I:Inv X pins σ H s) (g:DGet H a y (some v)) (ry:RelV y u) (h:∀ w' s',Inv X pins σ H s'→RelV v w'→Q w' s') :
    wpAny (model X.prog X.w) A (getItem (.ref a) u) Q E s:=by
  rcases g with ⟨kvs,k,e,ey,l⟩ | ⟨kvs,k,b,e,ey,eb,l⟩
  · subst ey
    obtain ⟨z,hd,vs,rel,dd⟩:=dk_rd I.hok e
    obtain ⟨w',hw,rw'⟩:=RelO.some_of (v:=v) (o:=valueAt vs k) (by rw [l];exact rel.val k)
    exact wpAny_getItem_of (kV_is ry) dd.mapOf hw (h w' _ (I.tok _) rw')
  · subst ey
    cases (show u=Value.ref b from ry)
    obtain ⟨z,hd,xs,rel,dd⟩:=dt_rd I.hok e
    obtain ⟨w',hw,rw'⟩:=RelO.some_of (v:=v) (o:=(atKey xs k).map (·.2)) (by rw [l];exact rel.val k)
    obtain ⟨p,hp,hp2⟩:=Option.map_eq_some_iff.mp hw
    refine wpAny_getItem_heap (tupleKind_room_in1 hu) (key_of I.hok eb) dd hp ?_
    rw [hp2]
    exact h w' _ (I.tok _) rw'
theorem d_write {h':Heap} {t':Nat} {ob:HO} (I:Inv X pins σ H s) (mu:Mut (H a)) (hs:Heap.SameBut a s.heap h') (he:∃ q,h'.get? a=some q) (new:ObjOk X.prog X.w (upd H a ob) h' a ob) :
    Inv X pins σ (upd H a ob) { s with heap:=h',toks:=t' } :=
  I.write (x:=a) (e:=a) mu (.inl rfl) (fun b q hb z=>(hs.2 b hb).trans z) he new
end

section
variable {X:Cx} {pins:List (Addr × Obj)} {σ : St} {H:Hp} {s:Shared} {a:Addr} {kvs:List (Key × V)} {k:Key} {u:Value} {A:Around} {E:Value→Shared→Prop}
end


noncomputable def NoSl (i:Expr):Prop := ∀ ov iv,subscripted i false ov iv=operate [ov,iv] (getItem ov iv)
theorem subD_of {prog:Program} {w:World} {A:Around} {E:Value→Shared→Prop} {s:Shared} {env:Env} {value slice:Expr} {pos:Pos} {T id:String} {Q:Value→Shared→Prop}
    (hl:typeLookup (.type T) "__getitem__" = pure (some (.builtin id))) (hs:NoSl slice)
    (h:wpAny (model prog w) A (eval value env) (fun o s₁ => wpAny (model prog w) A (eval slice env) (fun i s₂ => s₂.TypeIs o T∧wpAny (model prog w) A (getItem o i) Q E s₂) E s₁) E s) :
    wpAny (model prog w) A (eval (.Subscript value slice pos) env) Q E s:=by
  refine Subscript_ (wpAny_mono h (fun o s₁ h₁ => wpAny_mono h₁ (fun i s₂ h₂ => ?_) fun _ _ x=>x) fun _ _ x=>x)
  obtain ⟨hT,h₂⟩:=h₂
  unfold subscriptTail
  refine wpAny_bind ?_
  rw [getitemInPython_of_ne hT.not_modules]
  refine wpAny_bind (wpAny_specialOf hT hl ?_)
  have fin:wpAny (model prog w) A (subscripted slice false o i) (fun r s₃ => wpAny (model prog w) A (letTemporaryGo value o r >>= fun _=>pure r) Q E s₃) E s₂ := by
    rw [hs o i]
    exact wpAny_operating (wpAny_mono h₂ (fun r s₃ h₃ => wpAny_bind (wpAny_letTemporaryGo (wpAny_pure h₃))) fun _ _ x=>x)
  first
    | exact wpAny_pure (wpAny_bind fin)
    | exact wpAny_bind (wpAny_pure (wpAny_bind fin))
    | exact wpAny_bind fin

theorem dict_typeIs {X:Cx} {pins:List (Addr × Obj)} {σ : St} {H:Hp} {s:Shared} {a:Addr} {y:V} {o:Option V} (I:Inv X pins σ H s) (g:DGet H a y o):s.TypeIs (.ref a) "dict" := by
  rcases g with ⟨kvs,k,e,_,_⟩ | ⟨kvs,k,b,e,_,_,_⟩
  · obtain ⟨_,_,vs,_,dd⟩:=dk_rd I.hok e
    exact dd.typeIs
  · obtain ⟨_,_,xs,_,dd⟩:=dt_rd I.hok e
    exact dd.typeIs

inductive J_tDGet (Q:VK) (x:V) (y:V) (H2:Hp):Prop
  | mk:∀ a v,(x = .ref a)→(DGet H2 a y (some v))→(Q v H2)→J_tDGet Q x y H2
noncomputable def tDGet (td ty:TE):TE:=fun σ H Q=>td σ H fun x H1=>ty σ H1 fun y H2=>J_tDGet Q x y H2

section
variable {X:Cx} {o i e value:Expr} {pos pos' tpos:Pos} {td ty tv:TE}
theorem pe_dget (hu:X.A.units+1 < cLine) (ho:PE X o td) (hi:PE X i ty) (hs:NoSl i):PE X (.Subscript o i pos) (tDGet td ty):=by
  intro pins s σ H Q I h
  refine subD_of PySem.F.slot_dict_getitem.lookup hs (thn (ho pins s σ H _ I h) fun u s1 ⟨x,H1,I1,rx,q1⟩=>thn (hi pins s1 σ H1 _ I1 q1) fun iv s2 ⟨y,H2,I2,ry,a,v,ex,g,q2⟩ => ?_)
  subst ex
  obtain rfl:u=Value.ref a:=rx
  exact ⟨dict_typeIs I2 g,d_getItem hu I2 g ry fun w' s3 I3 rw'=>⟨v,H2,I3,rw',q2⟩⟩
end


theorem dk_empty {P:Program} {w:World} {H:Hp} (h:Heap) (hb:sysModules < h.objs.size):ObjOk P w H (h.push { cls := .type "dict",data := .dict #[] }) h.objs.size (.dK []) :=
  ⟨Nat.zero_le _,beq_eq_false_iff_ne.mpr (Ne.symm (Nat.ne_of_lt hb)), [],.nil,Heap.DictOf.new h⟩
noncomputable def tDNewK:TE:=fun _ H Q=>∀ p,H p=none→Q (.ref p) (upd H p (.dK []))
section
variable {X:Cx} {pos:Pos}
theorem pe_dnewK:PE X (.Dict [] [] pos) tDNewK:=fun pins s σ H Q I h =>
  wpAny_Dict_empty ⟨.ref s.heap.objs.size,_,I.laid (a:=s.heap.objs.size) (o := .dK []) (t':=s.toks) (fun _ _ q=>Heap.get?_push_of_some _ q) (Nat.le_refl _) (dk_empty s.heap I.big),rfl,h _ (I.hok.fresh (Nat.le_refl _))⟩
end




structure M1 (X:Cx) (o:Expr) (m:Str) (apos:Pos) (e:Expr) (cpos:Pos):Prop where
  base:attributeBase o m X.env (eval o X.env)=eval o X.env
  few:((backTo cpos (starEach [e] X.env)).all (fun x => !x.1) && (backToKw cpos (keywordEach [] X.env)).all (fun x=>x.1.isSome)
    && decide (([e]:List Expr).length+([]:List Keyword).length+(if ([]:List Keyword).isEmpty then 0 else 1) < 30))=true
  line:(apos.endLine == cpos.line)=true
  trees:backTo cpos (starEach [e] X.env) = [(false,eval e X.env)]


section
variable {X:Cx} {pins:List (Addr × Obj)} {σ : St} {H:Hp} {s:Shared} {a:Addr} {y d:V} {u r:Value} {o:Option V} {A:Around} {E:Value→Shared→Prop}
end

section
variable {X:Cx} {o e f:Expr} {apos cpos:Pos} {td ty tx:TE}
end

section
variable {X:Cx} {pins:List (Addr × Obj)} {σ : St} {H:Hp} {s:Shared} {a:Addr} {kvs:List (Key × V)} {A:Around} {E:Value→Shared→Prop}
end


section
variable {X:Cx} {pins:List (Addr × Obj)} {σ : St} {H:Hp} {s:Shared} {a:Addr} {y:V} {u:Value} {A:Around} {E:Value→Shared→Prop}
end
end L2
namespace L2
open PySem PySem.Spec PyProof.Rows

noncomputable abbrev NK:=List (Sum Key (List Key))
noncomputable def kD:Key→D
  | .inl i => .int i
  | .inr x => .str x
noncomputable def iD:Sum Key (List Key)→D
  | .inl k=>kD k
  | .inr l => .tup (l.map kD)
noncomputable def nkD (k:NK):D := .tup (k.map iD)
theorem kD_inj {a b:Key} (e:kD a=kD b):a=b:=by
  cases a with
  | inl i=>cases b with
    | inl j=>have e':D.int i=D.int j:=e;injection e' with e';rw [e']
    | inr y=>exact nomatch (show D.int i=D.str y from e)
  | inr x=>cases b with
    | inl j=>exact nomatch (show D.str x=D.int j from e)
    | inr y=>have e':D.str x=D.str y:=e;injection e' with e';rw [e']
theorem map_inj_of {α β : Type} {f : α → β} (hf:∀ a b,f a=f b→a=b):∀ {x y:List α},x.map f=y.map f→x=y
  | [], [],_=>rfl
  | [],_ :: _,e=>by simp at e
  | _ :: _, [],e=>by simp at e
  | a :: xs,b :: ys,e=>by
    rw [List.map_cons,List.map_cons] at e
    injection e with e1 e2
    rw [hf _ _ e1,map_inj_of hf e2]
theorem iD_inj {a b:Sum Key (List Key)} (e:iD a=iD b):a=b:=by
  cases a with
  | inl i=>cases b with
    | inl j=>rw [kD_inj e]
    | inr y=>cases i <;> exact nomatch e
  | inr x=>cases b with
    | inl j=>cases j <;> exact nomatch e
    | inr y =>
      have e':D.tup (x.map kD)=D.tup (y.map kD):=e
      injection e' with e'
      rw [map_inj_of (fun _ _=>kD_inj) e']
theorem nkD_inj {a b:NK} (e:nkD a=nkD b):a=b:=by
  have e':D.tup (a.map iD)=D.tup (b.map iD):=e
  injection e' with e'
  exact map_inj_of (fun _ _=>iD_inj) e'
section
variable (P:Program) (w:World)
noncomputable def NIt (h:Heap):NK→List Value→Prop
  | [],us=>us = []
  | .inl k :: ks,us=>∃ u us',us=u :: us'∧(mixKind P w).is k u=true∧NIt h ks us'
  | .inr l :: ks,us=>∃ b us',us=Value.ref b :: us'∧IsTupleKey (mixKind P w) h l b∧NIt h ks us'
noncomputable def IsNK (h:Heap) (k:NK) (a:Addr):Prop := ∃ us:List Value,IsTup h a us.toArray∧NIt P w h k us
noncomputable def iHash:Sum Key (List Key)→Int
  | .inl k=>(mixKind P w).hash k
  | .inr l=>tupleKeyHash (mixKind P w) l
noncomputable def iDraws:Sum Key (List Key)→Nat
  | .inl _=>1
  | .inr l=>l.length+1
noncomputable def nkHash (k:NK):Int:=reduceHash (Builtin.Tuple.tupleHashOf (k.map (iHash P w)))
noncomputable def nkDraws (k:NK):Nat:=(k.map iDraws).sum+1
end
section
variable {P:Program} {w:World} {h h':Heap}
theorem NIt.inj:∀ {x y:NK} {us:List Value},NIt P w h x us→NIt P w h y us→x=y
  | [], [],us,_,_=>rfl
  | [],.inl k :: ks,us,r,q=>by rw [NIt] at r;rw [NIt] at q;subst r;obtain ⟨_,_,z,_⟩:=q;cases z
  | [],.inr k :: ks,us,r,q=>by rw [NIt] at r;rw [NIt] at q;subst r;obtain ⟨_,_,z,_⟩:=q;cases z
  | .inl k :: ks, [],us,r,q=>by rw [NIt] at r;rw [NIt] at q;subst q;obtain ⟨_,_,z,_⟩:=r;cases z
  | .inr k :: ks, [],us,r,q=>by rw [NIt] at r;rw [NIt] at q;subst q;obtain ⟨_,_,z,_⟩:=r;cases z
  | .inl k :: ks,.inl l :: ls,us,r,q=>by
    rw [NIt] at r;rw [NIt] at q
    obtain ⟨u,us',rfl,r1,r⟩:=r
    obtain ⟨u',us'',z,q1,q⟩:=q
    cases z
    rw [(mixKind P w).inj _ _ _ r1 q1,NIt.inj r q]
  | .inr k :: ks,.inr l :: ls,us,r,q=>by
    rw [NIt] at r;rw [NIt] at q
    obtain ⟨u,us',rfl,r1,r⟩:=r
    obtain ⟨u',us'',z,q1,q⟩:=q
    cases z
    rw [r1.inj q1,NIt.inj r q]
  | .inl k :: ks,.inr l :: ls,us,r,q=>by
    rw [NIt] at r;rw [NIt] at q
    obtain ⟨u,us',rfl,r1,r⟩:=r
    obtain ⟨u',us'',z,q1,q⟩:=q
    cases z
    rcases keyIs_shape r1 with ⟨i,t,_,e⟩ | ⟨x,t,_,e⟩ <;> cases e
  | .inr k :: ks,.inl l :: ls,us,r,q=>by
    rw [NIt] at r;rw [NIt] at q
    obtain ⟨u,us',rfl,r1,r⟩:=r
    obtain ⟨u',us'',z,q1,q⟩:=q
    cases z
    rcases keyIs_shape q1 with ⟨i,t,_,e⟩ | ⟨x,t,_,e⟩ <;> cases e
theorem NIt.keeps {d:Addr} {o:Obj} {es ep} (ho:h.get? d=some o) (hd:o.data = .dict es ep) (hs:Heap.SameBut d h h'):∀ {k:NK} {us:List Value},NIt P w h k us→NIt P w h' k us
  | [],us,r=>by rw [NIt] at r ⊢;exact r
  | .inl k :: ks,us,r=>by
    rw [NIt] at r ⊢
    obtain ⟨u,us',e,r1,r⟩:=r
    exact ⟨u,us',e,r1,NIt.keeps ho hd hs r⟩
  | .inr k :: ks,us,r=>by
    rw [NIt] at r ⊢
    obtain ⟨u,us',e,r1,r⟩:=r
    exact ⟨u,us',e,r1.keeps ho hd hs,NIt.keeps ho hd hs r⟩
theorem IsNK.inj {x y:NK} {a:Addr} (r:IsNK P w h x a) (q:IsNK P w h y a):x=y:=by
  obtain ⟨us,p,r⟩:=r
  obtain ⟨us',p',q⟩:=q
  have e:us=us':=by have:=tup_seq p p';simpa using this
  subst e
  exact r.inj q
theorem IsNK.keeps {k:NK} {a d:Addr} {o:Obj} {es ep} (r:IsNK P w h k a) (ho:h.get? d=some o) (hd:o.data = .dict es ep) (hs:Heap.SameBut d h h'):IsNK P w h' k a:=by
  obtain ⟨us,⟨o',e',c',n',d'⟩,r⟩:=r
  have hne:a≠d:=by
    rintro rfl
    rw [ho] at e';cases e'
    rw [hd] at d';cases d'
  exact ⟨us,⟨o',(hs.2 a hne).trans e',c',n',d'⟩,r.keeps ho hd hs⟩
theorem key_denR {k:Key} {u:Value} (r:(mixKind P w).is k u=true):DenR h (kD k) u:=by
  rcases keyIs_shape r with ⟨i,t,rfl,rfl⟩ | ⟨x,t,rfl,rfl⟩
  · show DenR h (.int i) _
    rw [DenR];exact .inl ⟨t,rfl⟩
  · show DenR h (.str x) _
    rw [DenR];exact ⟨t,rfl⟩
theorem items_denR {ks:List Key} {us:List Value} (r:ItemsAre (mixKind P w) ks us):DenRs h (ks.map kD) us:=by
  induction r with
  | nil=>rw [List.map_nil,DenRs]
  | cons r1 _ ih=>rw [List.map_cons,DenRs];exact ⟨_,_,rfl,key_denR r1,ih⟩
theorem NIt.denR:∀ {k:NK} {us:List Value},NIt P w h k us→DenRs h (k.map iD) us
  | [],us,r=>by rw [NIt] at r;rw [List.map_nil,DenRs];exact r
  | .inl k :: ks,us,r=>by
    rw [NIt] at r
    obtain ⟨u,us',e,r1,r⟩:=r
    rw [List.map_cons,DenRs]
    exact ⟨u,us',e,key_denR r1,NIt.denR r⟩
  | .inr k :: ks,us,r=>by
    rw [NIt] at r
    obtain ⟨b,us',e,⟨o,its,n,g,c,d,i⟩,r⟩:=r
    rw [List.map_cons,DenRs]
    refine ⟨_,us',e,?_,NIt.denR r⟩
    show DenR h (.tup (k.map kD)) _
    rw [DenR]
    exact ⟨b,its.toList,rfl,⟨o,g,c,n,by simpa using d⟩,items_denR i⟩
theorem IsNK.denR {k:NK} {a:Addr} (r:IsNK P w h k a):DenR h (nkD k) (.ref a):=by
  obtain ⟨us,p,r⟩:=r
  rw [nkD,DenR]
  exact ⟨a,us,rfl,p,r.denR⟩
theorem kDs_deep:∀ l:List Key,D.deeps (l.map kD)=0
  | []=>by rw [List.map_nil,D.deeps]
  | .inl k :: ks=>by rw [List.map_cons,D.deeps,kDs_deep ks];show max (D.deep (.int k)) 0=0;rw [D.deep];rfl
  | .inr k :: ks=>by rw [List.map_cons,D.deeps,kDs_deep ks];show max (D.deep (.str k)) 0=0;rw [D.deep];rfl
theorem nk_deeps:∀ l:NK,D.deeps (l.map iD)≤1
  | []=>by rw [List.map_nil,D.deeps];omega
  | .inl (.inl k) :: ks=>by rw [List.map_cons,D.deeps];have:=nk_deeps ks;show max (D.deep (.int k)) _≤1;rw [D.deep];omega
  | .inl (.inr k) :: ks=>by rw [List.map_cons,D.deeps];have:=nk_deeps ks;show max (D.deep (.str k)) _≤1;rw [D.deep];omega
  | .inr l :: ks=>by rw [List.map_cons,D.deeps];have:=nk_deeps ks;show max (D.deep (.tup (l.map kD))) _≤1;rw [D.deep,kDs_deep];omega
theorem nk_deep (k:NK):(nkD k).deep≤2:=by rw [nkD,D.deep];have:=nk_deeps k;omega
end
section
variable {P:Program} {w:World} {A:Around} {E:Value→Shared→Prop} {s:Shared}
theorem wpAny_eqBool_nk {x y:NK} {a b:Addr} {Q:Bool→Shared→Prop} (hu:A.units+5 < cLine) (hx:IsNK P w s.heap x a) (hy:IsNK P w s.heap y b) (h:Q (decide (x=y)) s) :
    wpAny (model P w) A (eqBool (.ref a) (.ref b)) Q E s:=by
  refine eqAt_D 2 (nk_deep x) hx.denR hy.denR (by omega) P w E Q ?_
  have e:decide (nkD x=nkD y)=decide (x=y):=decide_eq_decide.mpr ⟨nkD_inj,fun z=>by rw [z]⟩
  rw [e];exact h
theorem quiet_flat {K:Type} [DecidableEq K] {knd:KeyKind P w K} (n:Nat) {ks:List K} {a:Addr} {Q:Bool→Shared→Prop} (hk:IsTupleKey knd s.heap ks a) (h:Q true s):wpAny (model P w) A (eqIsQuiet (n+1) (.ref a)) Q E s:=by
  have hT:=hk.typeIs
  obtain ⟨o,items,m,ho,_,hd,hi⟩:=hk
  unfold eqIsQuiet
  refine wpAny_bind (wpAny_specialOf hT F.slot_tuple_eq.lookup ?_)
  show wpAny _ _ (isInstance (.ref a) (.type "tuple") >>= _) _ _ s
  refine wpAny_bind (wpAny_isInstance hT isSubtype_tuple_tuple ?_)
  simp only [Bool.not_true,Bool.false_eq_true,if_false]
  refine wpAny_bind (wpAny_seqItems ho hd ?_)
  refine wpAny_bind ?_
  show wpAny _ _ (forIn items _ _) _ _ s
  rw [← Array.forIn_toList]
  refine wpAny_forIn_list _ (fun rest r s'=>r.1=none∧s'=s∧∀ v∈rest,carriedByValue v=true) _ ?_ ?_ _ _ ⟨rfl,rfl,hi.byValue⟩
  · rintro v rest r s' ⟨hr,rfl,hall⟩
    rw [eqIsQuiet_byValue _ (hall v List.mem_cons_self)]
    refine wpAny_bind (wpAny_pure ?_)
    simp only [Bool.not_true,Bool.false_eq_true,if_false]
    exact wpAny_pure ⟨rfl,rfl,fun u hu'=>hall u (List.mem_cons_of_mem _ hu')⟩
  · rintro ⟨r1,r2⟩ s' ⟨hr,rfl,_⟩
    simp only at hr
    subst hr
    exact wpAny_pure h
theorem quiet_nk {k:NK} {a:Addr} {Q:Bool→Shared→Prop} (hk:IsNK P w s.heap k a) (h:Q true s):wpAny (model P w) A (eqIsQuiet 8 (.ref a)) Q E s:=by
  obtain ⟨us,p,hi⟩:=hk
  have hT:s.TypeIs (.ref a) "tuple" := p.typeIs
  obtain ⟨o,ho,_,m,hd⟩:=p
  unfold eqIsQuiet
  refine wpAny_bind (wpAny_specialOf hT F.slot_tuple_eq.lookup ?_)
  show wpAny _ _ (isInstance (.ref a) (.type "tuple") >>= _) _ _ s
  refine wpAny_bind (wpAny_isInstance hT isSubtype_tuple_tuple ?_)
  simp only [Bool.not_true,Bool.false_eq_true,if_false]
  refine wpAny_bind (wpAny_seqItems ho hd ?_)
  refine wpAny_bind ?_
  show wpAny _ _ (forIn us.toArray _ _) _ _ s
  rw [← Array.forIn_toList]
  refine wpAny_forIn_list _ (fun rest r s'=>r.1=none∧s'=s∧∃ left,NIt P w s.heap left rest) _ ?_ ?_ _ _ ⟨rfl,rfl,k,by simpa using hi⟩
  · rintro v rest r s' ⟨hr,rfl,left,hl⟩
    cases left with
    | nil=>rw [NIt] at hl;cases hl
    | cons i left =>
      cases i with
      | inl k =>
        rw [NIt] at hl
        obtain ⟨u,us',e,r1,hl⟩:=hl
        cases e
        rw [eqIsQuiet_byValue _ ((mixKind P w).byValue _ _ r1)]
        refine wpAny_bind (wpAny_pure ?_)
        simp only [Bool.not_true,Bool.false_eq_true,if_false]
        exact wpAny_pure ⟨rfl,rfl,left,hl⟩
      | inr l =>
        rw [NIt] at hl
        obtain ⟨b,us',e,r1,hl⟩:=hl
        cases e
        refine wpAny_bind (quiet_flat 6 r1 ?_)
        simp only [Bool.not_true,Bool.false_eq_true,if_false]
        exact wpAny_pure ⟨rfl,rfl,left,hl⟩
  · rintro ⟨r1,r2⟩ s' ⟨hr,rfl,_⟩
    simp only at hr
    subst hr
    exact wpAny_pure h
theorem wpAny_pyHash_nk {k:NK} {a:Addr} {Q:Int→Shared→Prop} (hu:A.units+5 < cLine) (hk:IsNK P w s.heap k a) (h:Q (nkHash P w k) { s with toks:=s.toks+nkDraws k }) :
    wpAny (model P w) A (pyHash (.ref a)) Q E s:=by
  obtain ⟨us,p,hi⟩:=hk
  have hT:s.TypeIs (.ref a) "tuple" := p.typeIs
  obtain ⟨o,ho,_,n,hd⟩:=p
  unfold pyHash
  first | unfold pyHashByItsType | skip
  first | refine wpAny_bind (wpAny_cRoomFor_or (.inr (by omega)) ?_) | skip
  refine wpAny_bind (wpAny_specialOf hT F.slot_tuple_hash.lookup ?_)
  show wpAny _ _ (if (some (Value.builtin "tuple.__hash__") == some Value.none)=true then _ else _) Q E s
  rw [if_neg (by rw [beq_builtin_none];exact Bool.false_ne_true)]
  refine wpAny_bind (wpAny_specialOf hT F.slot_tuple_hash.lookup ?_)
  show wpAny _ _ (callSpecialIfBoundUnlessNone? (.ref a) "__hash__" _ >>= _) Q E s
  refine wpAny_bind (wpAny_callSpecialIfBoundUnlessNone?_slot hT F.slot_tuple_hash (wpAny_call_entry F.slot_tuple_hash hT F.entry_tuple_hash ?_ (F.args_tuple_hash_1 _)))
  show wpAny _ _ (Builtin.Tuple.tupleItemsOf (.ref a) >>= _) _ _ s
  refine wpAny_bind (wpAny_tupleItemsOf ho hd ?_)
  refine wpAny_bind ?_
  rw [← Array.forIn_toList]
  refine wpAny_forIn_list _
    (fun rest (b:Array Int) s'=>∃ done left:NK,k=done ++ left∧NIt P w s.heap left rest∧b.toList=done.map (iHash P w)∧s'={ s with toks:=s.toks+(done.map iDraws).sum })
    _ ?_ ?_ _ _ ⟨[],k,rfl,by simpa using hi,rfl,rfl⟩
  · rintro x rest b s' ⟨done,left,rfl,hl,hb,rfl⟩
    cases left with
    | nil=>rw [NIt] at hl;cases hl
    | cons i left =>
      cases i with
      | inl k =>
        rw [NIt] at hl
        obtain ⟨u,us',e,r1,hl⟩:=hl
        cases e
        refine wpAny_bind ((mixKind P w).pyHash r1 ?_)
        first
          | exact wpAny_pure ⟨done ++ [.inl k],left,by simp,hl,by simp [hb,iHash],by simp [Nat.add_assoc,iDraws]⟩
          | exact wpAny_bind (wpAny_pure (wpAny_pure ⟨done ++ [.inl k],left,by simp,hl,by simp [hb,iHash],by simp [Nat.add_assoc,iDraws]⟩))
      | inr l =>
        rw [NIt] at hl
        obtain ⟨c,us',e,r1,hl⟩:=hl
        cases e
        refine wpAny_bind (wpAny_pyHash_tuple (by show A.units+1 < cLine;omega) r1 ?_)
        first
          | exact wpAny_pure ⟨done ++ [.inr l],left,by simp,hl,by simp [hb,iHash],by simp [Nat.add_assoc,iDraws]⟩
          | exact wpAny_bind (wpAny_pure (wpAny_pure ⟨done ++ [.inr l],left,by simp,hl,by simp [hb,iHash],by simp [Nat.add_assoc,iDraws]⟩))
  · rintro b s' ⟨done,left,rfl,hl,hb,rfl⟩
    have e:left = []:=by
      cases left with
      | nil=>rfl
      | cons i left=>cases i <;> rw [NIt] at hl <;> obtain ⟨_,_,z,_⟩:=hl <;> cases z
    subst e
    rw [List.append_nil] at h
    show wpAny _ _ (retInt (Builtin.Tuple.tupleHashOf b.toList)) _ _ _
    rw [hb]
    refine wpAny_ret_mkInt ?_
    show wpAny _ _ (if (decide (-(2:Int) ^ 63≤Builtin.Tuple.tupleHashOf (done.map (iHash P w))) && decide (Builtin.Tuple.tupleHashOf (done.map (iHash P w)) < 2 ^ 63))=true then _ else _) Q E _
    unfold nkHash reduceHash nkDraws at h
    by_cases hr:(decide (-(2:Int) ^ 63≤Builtin.Tuple.tupleHashOf (done.map (iHash P w))) && decide (Builtin.Tuple.tupleHashOf (done.map (iHash P w)) < 2 ^ 63))=true
    · rw [if_pos hr]
      rw [if_pos hr] at h
      exact wpAny_pure (by simpa [Nat.add_assoc] using h)
    · rw [if_neg hr]
      rw [if_neg hr] at h
      exact wpAny_bind (wpAny_rule (wpAny_pure (by simpa [Nat.add_assoc] using h)))
end
noncomputable def nkKind (P:Program) (w:World):HeapKind P w NK where
  is:=IsNK P w
  hash:=nkHash P w
  draws:=nkDraws
  room:=fun A=>A.units+5 < cLine
  inj:=fun hx hy=>hx.inj hy
  keeps:=fun x ho hd hs=>x.keeps ho hd hs
  pyHash:=fun hu hk h=>wpAny_pyHash_nk hu hk h
  eqBool:=fun hu hx hy h=>wpAny_eqBool_nk hu hx hy h
  quiet:=fun hk h=>quiet_nk hk h

section
variable {prog:Program} {w:World} {K:Type} [DecidableEq K] {knd:HeapKind prog w K} {A:Around} {E:Value→Shared→Prop} {s:Shared} {d a:Addr} {k:K} {xs:List (K × Addr × Value)}
end
section
variable {prog:Program} {w:World} {K:Type} [DecidableEq K] (knd:HeapKind prog w K) (d a:Addr)
end
end L2
namespace L2
open PySem PySem.Spec PyProof.Rows

section
variable {X:Cx} {scope:Scope} {own:List Str} {caps:List (Str × Nat)} {pins:List (Addr × Obj)} {σ : St} {H:Hp} {s:Shared} {fp:List Addr}


end
end L2
namespace L2
open PySem PySem.Spec PyProof.Rows

noncomputable def NKs (H:Hp):NK→List V→Prop
  | [],vs=>vs = []
  | .inl k :: ks,vs=>∃ vs',vs=kV k :: vs'∧NKs H ks vs'
  | .inr l :: ks,vs=>∃ b vs',vs=V.ref b :: vs'∧H b=some (.tup (l.map kV))∧NKs H ks vs'
noncomputable def NKey (H:Hp) (k:NK) (a:Addr):Prop := ∃ vs,H a=some (.tup vs)∧NKs H k vs
theorem NKs.keep {H H':Hp} (ht:∀ b ys,H b=some (.tup ys)→H' b=some (.tup ys)):∀ {k:NK} {vs:List V},NKs H k vs→NKs H' k vs
  | [],vs,r=>by rw [NKs] at r ⊢;exact r
  | .inl k :: ks,vs,r=>by
    rw [NKs] at r ⊢
    obtain ⟨vs',e,r⟩:=r
    exact ⟨vs',e,NKs.keep ht r⟩
  | .inr l :: ks,vs,r=>by
    rw [NKs] at r ⊢
    obtain ⟨b,vs',e,q,r⟩:=r
    exact ⟨b,vs',e,ht _ _ q,NKs.keep ht r⟩
theorem NKey.keep {H H':Hp} {k:NK} {a:Addr} (ht:∀ b ys,H b=some (.tup ys)→H' b=some (.tup ys)) (r:NKey H k a):NKey H' k a:=by
  obtain ⟨vs,e,r⟩:=r
  exact ⟨vs,ht _ _ e,r.keep ht⟩
section
variable {P:Program} {w:World} {H:Hp} {h:Heap}
theorem nks_of (ok:HOk P w H h):∀ {k:NK} {vs:List V} {us:List Value},NKs H k vs→Vals vs us→NIt P w h k us
  | [],vs,us,r,q=>by rw [NKs] at r;subst r;cases q;rw [NIt]
  | .inl k :: ks,vs,us,r,q=>by
    rw [NKs] at r
    obtain ⟨vs',rfl,r⟩:=r
    cases q with
    | cons q1 q2=>rw [NIt];exact ⟨_,_,rfl,kV_is q1,nks_of ok r q2⟩
  | .inr l :: ks,vs,us,r,q=>by
    rw [NKs] at r
    obtain ⟨b,vs',rfl,e,r⟩:=r
    cases q with
    | cons q1 q2 =>
      rw [NIt]
      cases (show _=Value.ref b from q1)
      exact ⟨b,_,rfl,key_of ok e,nks_of ok r q2⟩
theorem nkey_of {k:NK} {a:Addr} (ok:HOk P w H h) (r:NKey H k a):IsNK P w h k a:=by
  obtain ⟨vs,e,r⟩:=r
  obtain ⟨_,its,rv,p⟩:=(show ObjOk P w H h a (.tup vs) from ok a _ e)
  exact ⟨its,p.tup,nks_of ok r rv⟩
end
noncomputable abbrev KN (H:Hp):List (NK × V)→List (NK × Addr × Value)→Prop:=Paired fun p q=>p.1=q.1∧NKey H p.1 q.2.1∧RelV p.2 q.2.2
theorem KN.val {H:Hp} {kvs:List (NK × V)} {xs:List (NK × Addr × Value)} (r:KN H kvs xs) (k:NK):RelO (valV kvs k) ((atKey xs k).map (·.2)):=by
  induction r with
  | nil=>exact True.intro
  | @cons p q ps qs h t ih =>
    obtain ⟨h1,_,h2⟩:=h
    by_cases e:p.1=k
    · have e':q.1=k:=h1.symm.trans e
      have b:atKey (q :: qs) k=some q.2:=by simp [atKey,List.find?_cons,e']
      rw [valV_pos e,b];exact h2
    · have e':¬ q.1=k:=fun z=>e (h1.trans z)
      have b:atKey (q :: qs) k=atKey qs k:=by simp [atKey,List.find?_cons,e']
      rw [valV_neg e,b];exact ih
theorem KN.keeps {H H':Hp} {kvs:List (NK × V)} {xs:List (NK × Addr × Value)} (r:KN H kvs xs) (ht:∀ b ys,H b=some (.tup ys)→H' b=some (.tup ys)):KN H' kvs xs :=
  Paired.mapP r fun _ _ z=>⟨z.1,z.2.1.keep ht,z.2.2⟩
noncomputable def DN (P:Program) (w:World) (H:Hp) (a:Addr) (kvs:List (NK × V)):Prop:=kvs.length≤sizeLine∧(a == sysModules)=false∧∃ (xs:List (NK × Addr × Value)) (o:Obj) (es:Array DictEntry) (ep:Nat),
  H a=some (.ext fun h=>h.get? a=some o)∧KN H kvs xs∧o.ExactDict∧o.data = .dict es ep∧es.toList=xs.map (entryOfKey (nkKind P w))∧(xs.map (·.1)).Nodup
theorem DN.keep {P:Program} {w:World} {H H':Hp} {a:Addr} {kvs:List (NK × V)} (d:DN P w H a kvs) (ha:∀ φ,H a=some (.ext φ)→H' a=some (.ext φ)) (ht:∀ b ys,H b=some (.tup ys)→H' b=some (.tup ys)):DN P w H' a kvs:=by
  obtain ⟨z,hd,xs,o,es,ep,e,r,q⟩:=d
  exact ⟨z,hd,xs,o,es,ep,ha _ e,r.keeps ht,q⟩
theorem DN.same {P:Program} {w:World} {H H':Hp} {a:Addr} {kvs:List (NK × V)} (d:DN P w H a kvs) (sm:Same H H'):DN P w H' a kvs:=d.keep (fun φ => sm _ _) (fun b ys=>sm _ _)
theorem DN.ext {P:Program} {w:World} {H:Hp} {a:Addr} {kvs:List (NK × V)} (d:DN P w H a kvs):∃ φ,H a=some (.ext φ):=by
  obtain ⟨_,_,xs,o,es,ep,e,_⟩:=d
  exact ⟨_,e⟩
theorem dn_rd {P:Program} {w:World} {H:Hp} {h:Heap} {a:Addr} {kvs:List (NK × V)} (ok:HOk P w H h) (d:DN P w H a kvs):kvs.length≤sizeLine∧(a == sysModules)=false ∧
    ∃ xs,KN H kvs xs∧h.DictOfH (nkKind P w) a xs:=by
  obtain ⟨z,hd,xs,o,es,ep,e,r,h2,h3,h4,h5⟩:=d
  obtain ⟨h1,_⟩:=(show ObjOk P w H h a (.ext fun h=>h.get? a=some o) from ok a _ e)
  refine ⟨z,hd,xs,r,o,es,ep,h1,h2,h3,h4,fun x hx => ?_,h5⟩
  have all:∀ {l:List (NK × V)} {m:List (NK × Addr × Value)},KN H l m→∀ x∈m,(nkKind P w).is h x.1 x.2.1:=by
    intro l m q
    induction q with
    | nil=>intro x hx;exact nomatch hx
    | @cons p q ps qs hq t ih =>
      intro x hx
      rcases List.mem_cons.mp hx with e | hx
      · subst e
        exact nkey_of ok (by rw [← hq.1];exact hq.2.1)
      · exact ih x hx
  exact all r x hx
theorem ext_ok {P:Program} {w:World} {H:Hp} {h:Heap} {a:Addr} {o:Obj} (e:h.get? a=some o):ObjOk P w H h a (.ext fun h=>h.get? a=some o):=⟨e,⟨o,e⟩,fun h1 h2 e1 k=>k o e1⟩
section
variable {X:Cx} {pins:List (Addr × Obj)} {σ : St} {H:Hp} {s:Shared} {a b:Addr} {kvs kvs':List (NK × V)} {k:NK} {y v:V} {u r:Value} {A:Around} {E:Value→Shared→Prop}
theorem dn_write {h':Heap} {t':Nat} {xs':List (NK × Addr × Value)} (I:Inv X pins σ H s) (d:DN X.prog X.w H a kvs) (hs:Heap.SameBut a s.heap h') (dd:h'.DictOfH (nkKind X.prog X.w) a xs') (rel:KN H kvs' xs') (hl:kvs'.length≤sizeLine) :
    ∃ φ,Inv X pins σ (upd H a (.ext φ)) { s with heap:=h',toks:=t' }∧DN X.prog X.w (upd H a (.ext φ)) a kvs':=by
  obtain ⟨φ0,e0⟩:=d.ext
  have hd:=d.2.1
  obtain ⟨q,es,ep,hq,h2,h3,h4,_,h5⟩:=dd
  have ht:∀ c ys,H c=some (.tup ys)→(upd H a (.ext fun h=>h.get? a=some q)) c=some (.tup ys):=fun c ys ec=>by
    rw [upd_ne (ne_of ec e0 (fun z=>nomatch z))]
    exact ec
  exact ⟨_,d_write I (by rw [e0];exact True.intro) hs ⟨q,hq⟩ (ext_ok hq),hl,hd,xs',q,es,ep,upd_same,rel.keeps ht,h2,h3,h4,h5⟩
end
theorem isN_at {X:Cx} {pins:List (Addr × Obj)} {σ : St} {H:Hp} {s:Shared} {a:Addr} (I:Inv X pins σ H s) (d:∃ kvs,DN X.prog X.w H a kvs) :
    s.TypeIs (.ref a) "dict" ∧ (∀ b,Value.ref a = .ref b→∃ ob,s.heap.get? b=some ob∧ob.dict=none)∧(a == sysModules)=false:=by
  obtain ⟨kvs,e⟩:=d
  obtain ⟨_,hd,xs,_,dd⟩:=dn_rd I.hok e
  refine ⟨dd.typeIs,fun b q => ?_,hd⟩
  cases q
  obtain ⟨ob,_,_,h1,h2,_⟩:=dd
  exact ⟨ob,h1,h2.2.1⟩
section
variable {X:Cx} {o e f:Expr} {apos cpos:Pos} {td ty tx:TE}
noncomputable def tDNewN (P:Program) (w:World):TE:=fun _ H Q=>∀ p φ,H p=none→DN P w (upd H p (.ext φ)) p []→Q (.ref p) (upd H p (.ext φ))
theorem pe_dnewN {pos:Pos}:PE X (.Dict [] [] pos) (tDNewN X.prog X.w):=by
  intro pins s σ H Q I h
  have hd:(s.heap.objs.size == sysModules)=false:=beq_eq_false_iff_ne.mpr (Ne.symm (Nat.ne_of_lt I.big))
  refine wpAny_Dict_empty ⟨.ref s.heap.objs.size,_,I.laid (a:=s.heap.objs.size) (o := .ext fun h=>h.get? s.heap.objs.size=some { cls := .type "dict",data := .dict #[] }) (t':=s.toks) (fun _ _ q=>Heap.get?_push_of_some _ q) (Nat.le_refl _) (ext_ok (Heap.get?_push_size _ rfl)),rfl,h _ _ (I.hok.fresh (Nat.le_refl _)) ?_⟩
  exact ⟨Nat.zero_le _,hd, [],_, #[],0,upd_same,.nil,⟨rfl,rfl,rfl⟩,rfl,rfl,List.nodup_nil⟩
end
end L2
namespace Sw
inductive TM (S:Type) where
  | num (n:Int) | name (x:S) | of (x:S) (as:List Nat)
section
variable {S:Type}
noncomputable def Arms (ts:List (TM S)):Prop := ∀ (i:Nat) (x:S) (as:List Nat),ts[i]? = some (.of x as)→∀ a∈as,a < i
end
end Sw
namespace L2
open PySem PySem.Spec PyProof.Rows

section
variable {X:Cx}
end
theorem un10 {k:Nat} {A:Around} (hr:Room k A):A.units+10 < cLine:=by have:=hr.un;omega
inductive J_op_mul_str0 (x:V) (y:V) (H:Hp) (Q:VK):Prop
  | mk:∀ z n,(x = .str z)→(y = .int n)→(0≤n)→(n≤1000)→(z.length≤1000)→(Q (.str (timesS z n.toNat)) H)→J_op_mul_str0 x y H Q
theorem op_mul_str0 {X:Cx}:OpR X (binaryOp .Mult) (fun x y H Q=>J_op_mul_str0 x y H Q):=by
  intro pins s σ H x y v u Q I rx ry h
  obtain ⟨z,n,rfl,rfl,h1,h2,h3,q⟩:=h
  by_cases h0:n=0
  · subst h0
    obtain ⟨t,rfl⟩:=rx
    obtain ⟨t',rfl⟩:=ry
    exact PySem.P.mul_str_none (by omega) (by omega) ⟨.str (timesS z 0),H,I.tok _,⟨_,rfl⟩,q⟩
  · exact op_mul_str pins s σ H _ _ v u Q I rx ry ⟨z,n,rfl,rfl,by omega,h2,h3,q⟩
end L2
namespace Sw
open PySem L2
noncomputable abbrev Tm:=TM Str
noncomputable abbrev nV (n:Nat):V:=V.int (n:Int)
noncomputable def IsTm (H:Hp):Tm→V→Prop
  | .num n,v=>∃ a,v = .ref a∧H a=some (.tup [.str "num",.int n])
  | .name x,v=>∃ a,v = .ref a∧H a=some (.tup [.str "name",.str x])
  | .of x as,v=>∃ a b,v = .ref a∧H a=some (.tup [.str "of",.str x,.ref b])∧H b=some (.tup (as.map nV))
theorem IsTm.keep {H H':Hp} (ht:∀ b ys,H b=some (.tup ys)→H' b=some (.tup ys)):∀ {t:Tm} {v:V},IsTm H t v→IsTm H' t v
  | .num n,v,h=>by obtain ⟨a,e,h⟩:=h;exact ⟨a,e,ht _ _ h⟩
  | .name x,v,h=>by obtain ⟨a,e,h⟩:=h;exact ⟨a,e,ht _ _ h⟩
  | .of x as,v,h=>by obtain ⟨a,b,e,h,h2⟩:=h;exact ⟨a,b,e,ht _ _ h,ht _ _ h2⟩
noncomputable abbrev Tms (H:Hp):List V→List Tm→Prop:=Paired fun v t=>IsTm H t v
theorem tms_keep {H H':Hp} {us:List V} {ts:List Tm} (ht:∀ b ys,H b=some (.tup ys)→H' b=some (.tup ys)) (h:Tms H us ts):Tms H' us ts:=Paired.mapP h fun _ _ z=>z.keep ht
theorem tms_same {H H':Hp} {us:List V} {ts:List Tm} (sm:Same H H') (h:Tms H us ts):Tms H' us ts:=tms_keep (fun b ys=>sm _ _) h
noncomputable def tmNK:Tm→NK
  | .num n => [.inl (.inr "num"),.inl (.inl n)]
  | .name x => [.inl (.inr "name"),.inl (.inr x)]
  | .of x as => [.inl (.inr "of"),.inl (.inr x),.inr (as.map fun n:Nat=>(.inl (n:Int):Key))]
theorem tmNK_inj:∀ {t u:Tm},tmNK t=tmNK u→t=u
  | .num n,.num m,e=>by unfold tmNK at e;simp at e;rw [e]
  | .name x,.name y,e=>by unfold tmNK at e;simp at e;rw [e]
  | .of x as,.of y bs,e=>by
    unfold tmNK at e
    simp only [List.cons.injEq,Sum.inl.injEq,Sum.inr.injEq,and_true,true_and] at e
    rw [e.1]
    have:=map_inj_of (f:=fun n:Nat=>(.inl (n:Int):Key)) (fun a b h=>by have h:=Sum.inl.inj h;omega) e.2
    rw [this]
  | .num n,.name y,e=>by
    unfold tmNK at e
    simp only [List.cons.injEq,Sum.inl.injEq,Sum.inr.injEq] at e
    exact absurd e.1 (by decide)
  | .name n,.num y,e=>by
    unfold tmNK at e
    simp only [List.cons.injEq,Sum.inl.injEq,Sum.inr.injEq] at e
    exact absurd e.1 (by decide)
  | .num n,.of y bs,e=>by unfold tmNK at e;simp at e
  | .name n,.of y bs,e=>by unfold tmNK at e;simp at e
  | .of y bs,.num n,e=>by unfold tmNK at e;simp at e
  | .of y bs,.name n,e=>by unfold tmNK at e;simp at e
theorem nV_kV (as:List Nat):as.map nV=(as.map fun n:Nat=>(.inl (n:Int):Key)).map kV:=by
  rw [List.map_map];rfl
theorem IsTm.key {H:Hp}:∀ {t:Tm} {v:V},IsTm H t v→∃ b,v = .ref b∧NKey H (tmNK t) b
  | .num n,v,h=>by
    obtain ⟨a,e,h⟩:=h
    refine ⟨a,e,_,h,?_⟩
    exact ⟨_,rfl,_,rfl,rfl⟩
  | .name x,v,h=>by
    obtain ⟨a,e,h⟩:=h
    refine ⟨a,e,_,h,?_⟩
    exact ⟨_,rfl,_,rfl,rfl⟩
  | .of x as,v,h=>by
    obtain ⟨a,b,e,h,h2⟩:=h
    refine ⟨a,e,_,h,?_⟩
    rw [nV_kV] at h2
    exact ⟨_,rfl,_,rfl,b,_,rfl,h2,rfl⟩
noncomputable def tmD:Tm→D
  | .num n => .tup [.str "num",.int n]
  | .name x => .tup [.str "name",.str x]
  | .of x as => .tup [.str "of",.str x,.tup (as.map fun n:Nat => .int (n:Int))]
theorem tmD_inj:∀ {t u:Tm},tmD t=tmD u→t=u
  | .num n,.num m,e=>by unfold tmD at e;simp at e;rw [e]
  | .name x,.name y,e=>by unfold tmD at e;simp at e;rw [e]
  | .of x as,.of y bs,e=>by
    unfold tmD at e
    simp only [D.tup.injEq,List.cons.injEq,D.str.injEq,and_true,true_and] at e
    rw [e.1]
    have:=map_inj_of (f:=fun n:Nat=>D.int (n:Int)) (fun a b h=>by have h:=D.int.inj h;omega) e.2
    rw [this]
  | .num n,.name y,e=>by
    unfold tmD at e
    simp only [D.tup.injEq,List.cons.injEq,D.str.injEq] at e
    exact absurd e.1 (by decide)
  | .name n,.num y,e=>by
    unfold tmD at e
    simp only [D.tup.injEq,List.cons.injEq,D.str.injEq] at e
    exact absurd e.1 (by decide)
  | .num n,.of y bs,e=>by unfold tmD at e;simp at e
  | .name n,.of y bs,e=>by unfold tmD at e;simp at e
  | .of y bs,.num n,e=>by unfold tmD at e;simp at e
  | .of y bs,.name n,e=>by unfold tmD at e;simp at e
noncomputable def But (L:Addr) (H H':Hp):Prop := ∀ c o,c≠L→H c=some o→H' c=some o
theorem But.refl (L:Addr) (H:Hp):But L H H:=fun _ _ _ h=>h
theorem But.put {L:Addr} {H H1:Hp} {o:HO} (a:But L H H1):But L H (upd H1 L o):=fun c u n h=>by rw [upd_ne n];exact a c u n h
theorem But.tup {L:Addr} {H H1:Hp} {ls:List V} (a:But L H H1) (hL:H L=some (.lst ls)):∀ b ys,H b=some (.tup ys)→H1 b=some (.tup ys):=fun b ys h=>a b _ (ne_of h hL (fun z=>nomatch z)) h
noncomputable abbrev Ed:=Nat × Nat × Int
noncomputable def EdAt (H:Hp) (v:V) (e:Ed):Prop := ∃ a b,v = .ref a∧H a=some (.tup [nV e.1,nV e.2.1,.int e.2.2,.ref b])∧H b=some (.tup [.str "told"])
theorem EdAt.keep {H H':Hp} {v:V} {e:Ed} (ht:∀ b ys,H b=some (.tup ys)→H' b=some (.tup ys)) (h:EdAt H v e):EdAt H' v e:=by
  obtain ⟨a,b,z,h,h2⟩:=h
  exact ⟨a,b,z,ht _ _ h,ht _ _ h2⟩
noncomputable abbrev Eds (H:Hp):List V→List Ed→Prop:=Paired (EdAt H)
theorem eds_keep {H H':Hp} {us:List V} {es:List Ed} (ht:∀ b ys,H b=some (.tup ys)→H' b=some (.tup ys)) (h:Eds H us es):Eds H' us es:=Paired.mapP h fun _ _ z=>z.keep ht
end Sw
namespace Sw
open PySem L2

theorem str_ext {x y:Str} (h:x.cps.toList=y.cps.toList):x=y:=by
  cases x;cases y;simp only [Str.mk.injEq];exact Array.toList_inj.mp h
theorem slice_cps (x:Str) (lo hi:Option Int):(Txt.slice x lo hi).cps.toList=(x.cps.toList.drop (HT.sIx x.length 0 lo)).take (HT.sIx x.length x.length hi - HT.sIx x.length 0 lo):=by
  have hx:x.cps.toList.length=x.length:=by simp [Str.length]
  obtain ⟨h1,h2,h3⟩:=slice_bounds lo hi x.length
  have ha:HT.sIx x.length 0 lo≤x.length:=HT.sIx_le _ _ (Nat.zero_le _) _
  have hb:HT.sIx x.length x.length hi≤x.length:=HT.sIx_le _ _ (Nat.le_refl _) _
  have e:Builtin.Str.strSliceIndices lo hi 1 x.length=sliceRange ((HT.sIx x.length 0 lo:Nat):Int) ((HT.sIx x.length x.length hi:Nat):Int) 1:=by
    rw [← h1, ← h2]
    unfold Builtin.Str.strSliceIndices sliceBounds
    rfl
  have e2:((sliceRange ((HT.sIx x.length 0 lo:Nat):Int) ((HT.sIx x.length x.length hi:Nat):Int) 1).filterMap (x.cps[·]?))=(x.cps.toList.drop (HT.sIx x.length 0 lo)).take (HT.sIx x.length x.length hi - HT.sIx x.length 0 lo):=by
    rw [sliceRange_one,pick_run]
  unfold Txt.slice
  rw [e]
  split
  · rename_i hc
    have hl:(sliceRange ((HT.sIx x.length 0 lo:Nat):Int) ((HT.sIx x.length x.length hi:Nat):Int) 1).length=x.length:=by simpa using hc
    rw [sliceRange_one,List.length_map,List.length_range] at hl
    have ea:HT.sIx x.length 0 lo=0∨x.length=0:=by omega
    rcases ea with ea | ea
    · rw [ea,Nat.sub_zero] at hl ⊢
      rw [List.drop_zero,hl, ← hx,List.take_length]
    · have:x.cps.toList = []:=List.length_eq_zero_iff.mp (hx.trans ea)
      rw [this];simp
  · show (_:List Nat).toArray.toList=_
    rw [e2]
theorem app_cps (x y:Str):(x ++ y).cps.toList=x.cps.toList ++ y.cps.toList:=by
  rw [Str.cps_append,Array.toList_append]
theorem len_cps (x:Str):x.length=x.cps.toList.length:=by simp [Str.length]

inductive T where
  | num (n:Int)
  | name (w:Str)
  | any (w:Str)
  | of (w:Str) (ts:List T)
noncomputable def IsW (w:Str):Prop:=1≤w.length∧w.length≤8∧∀ c∈w.cps.toList,97≤c∧c≤122
mutual
noncomputable def T.shown:T→Str
  | .num n=>Str.ofString (toString n)
  | .name w=>w
  | .any w => "?" ++ w
  | .of w ts=>w ++ "(" ++ Str.join ", " (T.showns ts) ++ ")"
noncomputable def T.showns:List T→List Str
  | [] => []
  | t :: ts=>t.shown :: T.showns ts
end
mutual
noncomputable def T.parts:T→Nat
  | .num _=>1
  | .name _=>1
  | .any _=>1
  | .of _ ts=>1+T.partss ts
noncomputable def T.partss:List T→Nat
  | []=>0
  | t :: ts=>t.parts+T.partss ts
end
mutual
noncomputable def T.depth:T→Nat
  | .num _=>1
  | .name _=>1
  | .any _=>1
  | .of _ ts=>1+T.deepest ts
noncomputable def T.deepest:List T→Nat
  | []=>0
  | t :: ts=>max t.depth (T.deepest ts)
end
mutual
noncomputable def T.Ok:T→Prop
  | .num n => -(10 ^ 60) < n∧n < 10 ^ 60
  | .name w=>IsW w
  | .any w=>IsW w
  | .of w ts=>IsW w∧1≤ts.length∧ts.length≤4∧T.Oks ts
noncomputable def T.Oks:List T→Prop
  | []=>True
  | t :: ts=>t.Ok∧T.Oks ts
end
theorem showns_map:∀ ts:List T,T.showns ts=ts.map T.shown
  | []=>rfl
  | t :: ts=>by rw [T.showns,showns_map ts];rfl
theorem partss_sum:∀ ts:List T,T.partss ts=(ts.map T.parts).sum
  | []=>rfl
  | t :: ts=>by rw [T.partss,partss_sum ts];rfl
theorem oks_all:∀ {ts:List T},T.Oks ts↔∀ t∈ts,t.Ok
  | []=>by simp [T.Oks]
  | t :: ts=>by
    rw [T.Oks,oks_all (ts:=ts)]
    simp
theorem deepest_le:∀ {ts:List T} {t:T},t∈ts→t.depth≤T.deepest ts
  | t' :: ts,t,h=>by
    rw [T.deepest]
    rcases List.mem_cons.mp h with rfl | h
    · exact Nat.le_max_left _ _
    · exact Nat.le_trans (deepest_le h) (Nat.le_max_right _ _)
theorem deepest_is:∀ {ts:List T} {M:Nat},(∀ t∈ts,t.depth≤M)→T.deepest ts≤M
  | [],_,_=>Nat.zero_le _
  | t :: ts,M,h=>by
    rw [T.deepest]
    exact Nat.max_le.mpr ⟨h t List.mem_cons_self,deepest_is fun t ht=>h t (List.mem_cons_of_mem _ ht)⟩
theorem depth_pos:∀ t:T,1≤t.depth
  | .num _=>by rw [T.depth];exact Nat.le_refl _
  | .name _=>by rw [T.depth];exact Nat.le_refl _
  | .any _=>by rw [T.depth];exact Nat.le_refl _
  | .of _ ts=>by rw [T.depth];omega
theorem num_len {n:Int} (h1 : -(10 ^ 60) < n) (h2:n < 10 ^ 60):(Str.ofString (toString n)).length≤61:=by
  have hn:n.natAbs < 10 ^ 60:=by omega
  have h:=int_text_length_le10 (a:=n) (k:=60) (by decide) hn
  rw [ofString_length];exact h
theorem num_log {n:Int} (h1 : -(10 ^ 60) < n) (h2:n < 10 ^ 60):n.natAbs.log2 < 1920:=by
  have hn:n.natAbs < 2 ^ 200:=by
    have:(10:Nat) ^ 60≤2 ^ 200:=by decide
    have:n.natAbs < 10 ^ 60:=by omega
    omega
  by_cases h0:n.natAbs=0
  · rw [h0];decide
  · exact Nat.lt_trans ((Nat.log2_lt h0).mpr hn) (by decide)
mutual
theorem shown_len:∀ t:T,t.Ok→t.shown.length+2≤70 * t.parts
  | .num n,h=>by
    rw [T.Ok] at h
    rw [T.shown,T.parts]
    have:=num_len h.1 h.2
    omega
  | .name w,h=>by
    rw [T.Ok] at h
    rw [T.shown,T.parts]
    have:=h.2.1
    omega
  | .any w,h=>by
    rw [T.Ok] at h
    rw [T.shown,T.parts,Str.length_append]
    have:=h.2.1
    have:("?" : Str).length=1:=rfl
    omega
  | .of w ts,h=>by
    rw [T.Ok] at h
    rw [T.shown,T.parts,Str.length_append,Str.length_append,Str.length_append]
    have h1:=h.1.2.1
    have h2:=showns_len ts h.2.2.2
    have h3:=StrLaws.join_length_le ", " (T.showns ts)
    have e1:("(" : Str).length=1:=rfl
    have e2:(")" : Str).length=1:=rfl
    have e3:(", " : Str).length=2:=rfl
    rw [e3] at h3
    omega
theorem showns_len:∀ ts:List T,T.Oks ts→((T.showns ts).map (·.length)).sum+(T.showns ts).length * 2≤70 * T.partss ts
  | [],_=>by simp [T.showns,T.partss]
  | t :: ts,h=>by
    rw [T.Oks] at h
    have h1:=shown_len t h.1
    have h2:=showns_len ts h.2
    rw [T.showns,T.partss,List.map_cons,List.sum_cons,List.length_cons]
    omega
end

mutual
noncomputable def IsTr (H:Hp):T→V→Prop
  | .num n,v=>∃ a,v = .ref a∧H a=some (.tup [.str "num",.int n])
  | .name w,v=>∃ a,v = .ref a∧H a=some (.tup [.str "name",.str w])
  | .any w,v=>∃ a,v = .ref a∧H a=some (.tup [.str "any",.str w])
  | .of w ts,v=>∃ a b vs,v = .ref a∧H a=some (.tup [.str "of",.str w,.ref b])∧H b=some (.tup vs)∧IsTrs H ts vs
noncomputable def IsTrs (H:Hp):List T→List V→Prop
  | [],vs=>vs = []
  | t :: ts,vs=>∃ v r,vs=v :: r∧IsTr H t v∧IsTrs H ts r
end
mutual
theorem tr_keep {H H':Hp} (k:∀ a xs,H a=some (.tup xs)→H' a=some (.tup xs)):∀ {t:T} {v:V},IsTr H t v→IsTr H' t v
  | .num n,v,h=>by
    rw [IsTr] at h ⊢
    obtain ⟨a,e,h⟩:=h
    exact ⟨a,e,k _ _ h⟩
  | .name n,v,h=>by
    rw [IsTr] at h ⊢
    obtain ⟨a,e,h⟩:=h
    exact ⟨a,e,k _ _ h⟩
  | .any n,v,h=>by
    rw [IsTr] at h ⊢
    obtain ⟨a,e,h⟩:=h
    exact ⟨a,e,k _ _ h⟩
  | .of w ts,v,h=>by
    rw [IsTr] at h ⊢
    obtain ⟨a,b,vs,e,h1,h2,h3⟩:=h
    exact ⟨a,b,vs,e,k _ _ h1,k _ _ h2,trs_keep k h3⟩
theorem trs_keep {H H':Hp} (k:∀ a xs,H a=some (.tup xs)→H' a=some (.tup xs)):∀ {ts:List T} {vs:List V},IsTrs H ts vs→IsTrs H' ts vs
  | [],vs,h=>by rw [IsTrs] at h ⊢;exact h
  | t :: ts,vs,h=>by
    rw [IsTrs] at h ⊢
    obtain ⟨v,r,e,h1,h2⟩:=h
    exact ⟨v,r,e,tr_keep k h1,trs_keep k h2⟩
end
theorem tr_same {H H':Hp} (s:Same H H') {t:T} {v:V} (h:IsTr H t v):IsTr H' t v:=tr_keep (fun a xs e=>s _ _ e) h
theorem trs_same {H H':Hp} (s:Same H H') {ts:List T} {vs:List V} (h:IsTrs H ts vs):IsTrs H' ts vs:=trs_keep (fun a xs e=>s _ _ e) h
noncomputable def notTup:HO→Prop
  | .tup _=>False
  | _=>True
theorem keep_put {H:Hp} {p:Addr} {o o':HO} (hp:H p=some o) (hn:notTup o):∀ a xs,H a=some (.tup xs)→upd H p o' a=some (.tup xs):=fun a xs e=>by
  have:a≠p:=fun z=>by
    rw [z,hp] at e
    cases e
    exact hn
  rw [upd_ne this];exact e
theorem trs_len {H:Hp}:∀ {ts:List T} {vs:List V},IsTrs H ts vs→ts.length=vs.length
  | [],vs,h=>by rw [IsTrs] at h;subst h;rfl
  | t :: ts,vs,h=>by
    rw [IsTrs] at h
    obtain ⟨v,r,rfl,_,h2⟩:=h
    rw [List.length_cons,List.length_cons,trs_len h2]
theorem trs_at {H:Hp}:∀ {ts:List T} {vs:List V} {i:Nat} {v:V},IsTrs H ts vs→vs[i]? = some v→∃ t,ts[i]? = some t∧IsTr H t v
  | [],vs,i,v,h,e=>by rw [IsTrs] at h;subst h;simp at e
  | t :: ts,vs,i,v,h,e=>by
    rw [IsTrs] at h
    obtain ⟨v',r,rfl,h1,h2⟩:=h
    cases i with
    | zero=>simp at e;subst e;exact ⟨t,rfl,h1⟩
    | succ i=>simpa using trs_at (i:=i) h2 (by simpa using e)

noncomputable def sg (i:Int):Str:=⟨#[97+i.toNat]⟩
theorem abc_at {i:Int} (h0:0≤i) (h1:i < 26):atI ("abcdefghijklmnopqrstuvwxyz" : Str).cps.toList i=some (97+i.toNat):=by
  have e:((i.toNat:Nat):Int)=i:=by omega
  have hj:i.toNat < 26:=by omega
  rw [← e]
  refine atI_nat ?_
  rw [Int.toNat_natCast]
  generalize i.toNat=j at hj
  revert j
  decide +kernel
end Sw
namespace L2
open PySem PySem.Spec PyProof.Rows

section
variable {prog:Program} {w:World} {K:Type} [DecidableEq K] {knd:HeapKind prog w K} {A:Around} {E:Value→Shared→Prop} {s:Shared} {d:Addr} {xs:List (K × Addr × Value)}
end
section
variable {X:Cx} {pins:List (Addr × Obj)} {σ : St} {H:Hp} {s:Shared} {a b:Addr} {kvs kvs':List (NK × V)} {k:NK} {y v:V} {u r:Value} {A:Around} {E:Value→Shared→Prop}
theorem KN.repl {xs:List (NK × Addr × Value)} (r:KN H kvs xs) (k:NK) {y:V} {u:Value} (ry:RelV y u) :
    KN H (kvs.map fun kv=>if kv.1=k then (kv.1,y) else kv) (xs.map (putAt k u)):=by
  induction r with
  | nil=>exact .nil
  | @cons p q ps qs h t ih =>
    rw [List.map_cons,List.map_cons]
    refine .cons ?_ ih
    obtain ⟨h1,h2,h3⟩:=h
    unfold putAt
    by_cases e:p.1=k
    · rw [if_pos e,if_pos (h1.symm.trans e)];exact ⟨h1,h2,ry⟩
    · rw [if_neg e,if_neg (fun z=>e (h1.trans z))];exact ⟨h1,h2,h3⟩
theorem KN.put {xs:List (NK × Addr × Value)} (r:KN H kvs xs) (k:NK) {b:Addr} {y:V} {u:Value} (hb:NKey H k b) (ry:RelV y u) :
    KN H (putK kvs k y) (storedH xs k b u):=by
  have e:(kvs.any fun kv=>decide (kv.1=k))=(atKey xs k).isSome:=by
    rw [valV_any,(r.val k).isSome_eq,Option.isSome_map]
  unfold putK storedH
  rw [e]
  by_cases q:(atKey xs k).isSome=true
  · rw [if_pos q,if_pos q];exact r.repl k ry
  · rw [if_neg q,if_neg q];exact Paired.snoc r ⟨rfl,hb,ry⟩
theorem dn_getItem {Q:Value→Shared→Prop} (hu:A.units+10 < cLine) (I:Inv X pins σ H s) (d:DN X.prog X.w H a kvs) (nk:NKey H k b) (l:valV kvs k=some v) (h:∀ w' s',Inv X pins σ H s'→RelV v w'→Q w' s') :
    wpAny (model X.prog X.w) A (getItem (.ref a) (.ref b)) Q E s:=by
  obtain ⟨z,hd,xs,rel,dd⟩:=dn_rd I.hok d
  obtain ⟨w',hw,rw'⟩:=RelO.some_of (v:=v) (o:=(atKey xs k).map (·.2)) (by rw [← l];exact rel.val k)
  obtain ⟨p,hp,hp2⟩:=Option.map_eq_some_iff.mp hw
  refine wpAny_getItem_heap (show A.units+1+5 < cLine by omega) (nkey_of I.hok nk) dd hp ?_
  rw [hp2]
  exact h w' _ (I.tok _) rw'
theorem dn_notIn {Q:Value→Shared→Prop} (hu:A.units+10 < cLine) (I:Inv X pins σ H s) (d:DN X.prog X.w H a kvs) (nk:NKey H k b) (h:∀ s',Inv X pins σ H s'→Q (.bool (!(valV kvs k).isSome)) s') :
    wpAny (model X.prog X.w) A (compareOp .NotIn (.ref b) (.ref a)) Q E s:=by
  obtain ⟨z,hd,xs,rel,dd⟩:=dn_rd I.hok d
  refine wpAny_notIn_heap (show A.units+1+5 < cLine by omega) (nkey_of I.hok nk) hd dd ?_
  have q:=(rel.val k).isSome_eq
  rw [Option.isSome_map] at q
  rw [← q]
  exact h _ (I.tok _)
theorem dn_setItem {Q:Unit→Shared→Prop} (hu:A.units+10 < cLine) (I:Inv X pins σ H s) (d:DN X.prog X.w H a kvs) (nk:NKey H k b) (rv:RelV v r) (hl:kvs.length < sizeLine)
    (h:∀ φ s',Inv X pins σ (upd H a (.ext φ)) s'→DN X.prog X.w (upd H a (.ext φ)) a (putK kvs k v)→Q () s') :
    wpAny (model X.prog X.w) A (setItem (.ref a) (.ref b) r) Q E s:=by
  obtain ⟨z,hd,xs,rel,dd⟩:=dn_rd I.hok d
  have hz:xs.length≤sizeLine:=by rw [← Paired.length rel];exact z
  have hl':(putK kvs k v).length≤sizeLine:=by have:=length_putK kvs k v;omega
  refine wpAny_setItem_heap (hsz:=hz) (show A.units+1+5 < cLine by omega) (nkey_of I.hok nk) dd fun h' dd' hs => ?_
  obtain ⟨φ,I',d'⟩:=dn_write (t':=s.toks+(nkKind X.prog X.w).draws k) I d hs dd' (rel.put k nk rv) hl'
  exact h φ _ I' d'
end
inductive J_tNGet (P:Program) (w:World) (Q:VK) (x:V) (y:V) (H2:Hp):Prop
  | mk:∀ a b kvs k v,(x = .ref a)→(y = .ref b)→(DN P w H2 a kvs)→(NKey H2 k b)→(valV kvs k=some v)→(Q v H2)→J_tNGet P w Q x y H2
noncomputable def tNGet (P:Program) (w:World) (td ty:TE):TE:=fun σ H Q=>td σ H fun x H1=>ty σ H1 fun y H2=>J_tNGet P w Q x y H2
inductive J_tNNotIn (P:Program) (w:World) (Q:VK) (y:V) (x:V) (H2:Hp):Prop
  | mk:∀ a b kvs k,(x = .ref a)→(y = .ref b)→(DN P w H2 a kvs)→(NKey H2 k b)→(Q (.bl (!(valV kvs k).isSome)) H2)→J_tNNotIn P w Q y x H2
noncomputable def tNNotIn (P:Program) (w:World) (ty td:TE):TE:=fun σ H Q=>ty σ H fun y H1=>td σ H1 fun x H2=>J_tNNotIn P w Q y x H2
inductive J_sNPut (P:Program) (w:World) (D:Ends) (σ : St) (v:V) (x:V) (y:V) (H3:Hp):Prop
  | mk:∀ a b kvs k,(x = .ref a)→(y = .ref b)→(DN P w H3 a kvs)→(NKey H3 k b)→(kvs.length < sizeLine)→(∀ φ,DN P w (upd H3 a (.ext φ)) a (putK kvs k v)→D.nx σ (upd H3 a (.ext φ)))→J_sNPut P w D σ v x y H3
noncomputable def sNPut (P:Program) (w:World) (td ty tv:TE):TS:=fun D σ H=>tv σ H fun v H1=>td σ H1 fun x H2=>ty σ H2 fun y H3=>J_sNPut P w D σ v x y H3
section
variable {X:Cx} {o i e f value:Expr} {pos pos' apos cpos:Pos} {td ty tv:TE}
theorem dn_typeIs {pins:List (Addr × Obj)} {σ : St} {H:Hp} {s:Shared} {a:Addr} {kvs:List (NK × V)} (I:Inv X pins σ H s) (d:DN X.prog X.w H a kvs):s.TypeIs (.ref a) "dict" := (isN_at I ⟨kvs,d⟩).1
theorem pe_nget (hu:X.A.units+10 < cLine) (ho:PE X o td) (hi:PE X i ty) (hs:NoSl i):PE X (.Subscript o i pos) (tNGet X.prog X.w td ty):=by
  intro pins s σ H Q I h
  refine subD_of PySem.F.slot_dict_getitem.lookup hs (thn (ho pins s σ H _ I h) fun u s1 ⟨x,H1,I1,rx,q1⟩=>thn (hi pins s1 σ H1 _ I1 q1) fun iv s2 ⟨y,H2,I2,ry,a,b,kvs,k,v,ex,ey,d,nk,l,q2⟩ => ?_)
  subst ex ey
  obtain rfl:u=Value.ref a:=rx
  obtain rfl:iv=Value.ref b:=ry
  exact ⟨dn_typeIs I2 d,dn_getItem hu I2 d nk l fun w' s3 I3 rw'=>⟨v,H2,I3,rw',q2⟩⟩
theorem pc_nnotin (hu:X.A.units+10 < cLine) (hi:PE X i ty) (ho:PE X o td):PC X .NotIn i o (tNNotIn X.prog X.w ty td):=by
  intro pins s σ H Q I h
  refine thn (hi pins s σ H _ I h) fun iv s1 ⟨y,H1,I1,ry,q1⟩=>thn (ho pins s1 σ H1 _ I1 q1) fun u s2 ⟨x,H2,I2,rx,a,b,kvs,k,ex,ey,d,nk,q2⟩ => ?_
  subst ex ey
  obtain rfl:u=Value.ref a:=rx
  obtain rfl:iv=Value.ref b:=ry
  exact dn_notIn hu I2 d nk fun s3 I3=>⟨.bl (!(valV kvs k).isSome),H2,I3,rfl,q2⟩
theorem ps_nput (hu:X.A.units+10 < cLine) (ho:PE X o td) (hi:PE X i ty) (hv:PE X value tv) (hs:swapsWith value (some (.Subscript o i pos')) pos.line X.env=pure false) :
    PS X (.Assign [.Subscript o i pos'] value pos) (sNPut X.prog X.w td ty tv):=by
  intro pins s σ H D I h
  refine wpAny_Assign_Subscript (thn (hv pins s σ H _ I h) fun r s1 ⟨v,H1,I1,rv,q1⟩=>thn (ho pins s1 σ H1 _ I1 q1) fun u s2 ⟨x,H2,I2,rx,q2⟩=>thn (hi pins s2 σ H2 _ I2 q2) fun iv s3 ⟨y,H3,I3,ry,a,b,kvs,k,ex,ey,d,nk,hl,q3⟩ => ?_) hs
  subst ex ey
  obtain rfl:u=Value.ref a:=rx
  obtain rfl:iv=Value.ref b:=ry
  exact dn_setItem hu I3 d nk rv hl fun φ s4 I4 d4=>⟨σ,_,I4,q3 φ d4⟩
end
end L2
namespace L2
open PySem PySem.Spec PyProof.Rows

section
variable {X:Cx}
variable {o:Expr} {apos cpos:Pos} {td:TE}
end
section
variable {X:Cx} {tg l:Expr} {tl:TE}
end
end L2
namespace L2
open PySem PySem.Spec PyProof.Rows

section
variable {X:Cx} {pins:List (Addr × Obj)} {σ : St} {H:Hp} {s:Shared} {a:Addr} {kvs:List (Key × V)} {k:Key} {v:V} {u r:Value} {A:Around} {E:Value→Shared→Prop}
end
section
variable {X:Cx} {o e f:Expr} {apos cpos:Pos} {td ty tx:TE}
end
end L2
namespace PySem
section
variable {prog:Program} {w:World} {A:Around} {E:Value→Shared→Prop} {s:Shared}
end
section
variable {prog:Program} {w:World} {A:Around} {s:Shared} {R:Result→Shared→Prop} {I l:Addr} {items:Array Value}
end
section
variable {prog:Program} {w:World} {A:Around} {E:Value→Shared→Prop} {s:Shared} {I l:Addr} {items:Array Value}
end
end PySem
namespace L2
open PySem PySem.Spec PyProof.Rows
theorem passNo {X:Cx}:Passes (CXE X.prog X.w) X E0:=fun pins σ H s e s' I h=>by
  obtain ⟨_,_,_,_,_,_,_,_,_,_,_,_,_,_,q⟩:=h
  exact False.elim q
theorem ps_tryNo {X:Cx} {body:List Stmt} {h0:ExceptHandler} {hs:List ExceptHandler} {tb:TS} {pos:Pos} (hb:PSs X.nox body tb):PS X (.Try body (h0 :: hs) [] [] pos) tb:=by
  intro pins s σ H D I h
  refine wpAny_Try_except (show wpAny (model X.prog X.w) X.A (execs body X.env) _ _ s from wpAny_mono (hb pins s σ H D (I.wish _) h) (fun f s1 q => ?_) fun _ _ z=>False.elim z)
  cases f with
  | next =>
    obtain ⟨σ',H',J,q⟩:=q
    exact wpAny_execs_nil ⟨σ',H',J.unwish,q⟩
  | brk =>
    obtain ⟨σ',H',J,q⟩:=q
    exact ⟨σ',H',J.unwish,q⟩
  | cont =>
    obtain ⟨σ',H',J,q⟩:=q
    exact ⟨σ',H',J.unwish,q⟩
  | ret u =>
    obtain ⟨v, σ',H',J,r,q⟩:=q
    exact ⟨v, σ',H',J.unwish,r,q⟩
structure FunD (K:PySem.W.Frag) (x qual:Str) (st:Stmt) (f:Addr) (fd:FuncData):Prop where
  ex:∃ (oc:Value) (od:Option Addr) (dV kV doc pm:Value) (an:Option Addr) (cdv ct:Value) (osl:Array (Option Value)),
    fd=PySem.W.fnOf x qual (defArgs st) (defBody st) (defScope st) dV kV doc pm an cdv ct∧K.lookup f=some ⟨oc,od,.func fd,osl⟩∧PySem.W.codeIn K cdv qual=true
structure DefMd (K:PySem.W.Frag) (C:Addr) (m qual:Str) (st:Stmt) (ps:List Str) (dvs:List V):Prop where
  ex:∃ f fd ds,FunD K m qual st f fd∧Meth K C m f∧Binds K fd ps ds∧Vals dvs ds
structure HasMd (P:Program) (w:World) (K:PySem.W.Frag) (mg:Str→Option Value) (base:Heap) (k:Nat) (C:Addr) (m:Str) (ps:List Str) (dvs:List V) (sp:Sp):Prop where
  ex:∃ f fd ds,FnOk P w K mg base (CXE P w) k f fd ps sp∧Meth K C m f∧Binds K fd ps ds∧Vals dvs ds
theorem DefMd.has {P:Program} {w:World} {K:PySem.W.Frag} {mg:Str→Option Value} {base:Heap} {m qual:Str} {C:Addr} {st:Stmt} {N ps:List Str} {k:Nat} {sp:Sp} {dvs:List V} (D:DefMd K C m qual st ps dvs) (S:FnScope N ps (defScope st)) (len:∀ vs H Q E,sp vs H Q E→vs.length=ps.length)
    (hbody:∀ (f:Addr) (cdv:Value) (A:Around) (outer:List Env) (s:Shared) (H:Hp) (vs:List V) (Q:VK) (E:XK),Room k (A.deeper (envOfC qual (defScope st) s.heap.objs.size f cdv))→sp vs H Q E →
      ∃ t,PSs (cxOf (CXE P w) P w K mg base N qual (defScope st) f cdv A outer s H E) (defBody st) t∧t { nx:=fun _ H'=>Q .non H',rt:=Q } (start N vs) H):HasMd P w K mg base (k+1) C m ps dvs sp:=by
  obtain ⟨f,fd,ds,F,hm,hb,hv⟩:=D.ex
  obtain ⟨oc,od,dV,kV,doc,pm,an,cdv,ct,osl,rfl,lk,hcd⟩:=F.ex
  exact ⟨f,_,ds,fn_of lk hcd S len fun A outer s H vs Q E hr hsp=>hbody f cdv A outer s H vs Q E hr hsp,hm,hb,hv⟩
theorem pe_mEd {X:Cx} {k k':Nat} {m:Str} {C:Addr} {ps:List Str} {dvs:List V} {sp:Sp} {pos apos:Pos} {e o:Expr} {es:List Expr} {ta:TE} {t:TA} {E:XK} {pl:Sem Bool} (h:HasMd X.prog X.w X.K X.mg X.base k C m ps dvs sp) (c:Cls X.K C) (hr:Room k' X.A) (hk:k≤k') (hx:Passes (CXE X.prog X.w) X E) (he:PE X o ta) (ha:PA X (e :: es) t)
    (hst:starEach (e :: es) X.env=(false,eval e X.env) :: starEach es X.env:=by rfl) (hpl:(backTo pos (starEach es X.env)).any (·.1)=false:=by rfl)
    (ht:eval (.Call (.Attribute o m apos) (e :: es) [] pos) X.env=(do
      let ov ← eval o X.env
      standAt apos.atName
      let (f,first) ← holding [ov] (getMethod ov m pl)
      callWith pos f first (backTo pos (starEach (e :: es) X.env)) (backToKw pos (keywordEach [] X.env))):=by rfl) :
    PE X (.Call (.Attribute o m apos) (e :: es) [] pos) (tMeth C m sp dvs E ta t):=by
  obtain ⟨f,fd,ds,F,hm,hb,hv⟩:=h.ex
  exact pe_meth he c hm F (hr.mono hk) hb hv hx ha hst hpl ht
end L2
namespace Sw
open PySem L2
noncomputable def posF:List Tm→Tm→Option Nat
  | [],_=>none
  | u :: ts,t=>if tmD u=tmD t then some 0 else (posF ts t).map (· + 1)
theorem pos_none:∀ {ts:List Tm} {t:Tm},posF ts t=none↔t ∉ ts
  | [],t=>by rw [posF];simp
  | u :: ts,t=>by
    rw [posF]
    by_cases e:tmD u=tmD t
    · rw [if_pos e,tmD_inj e];simp
    · rw [if_neg e,Option.map_eq_none_iff,pos_none,List.mem_cons,not_or]
      exact ⟨fun h=>⟨fun z=>e (by rw [z]),h⟩,fun h=>h.2⟩
theorem pos_app:∀ (ts:List Tm) (u t:Tm),posF (ts ++ [u]) t=match posF ts t with
    | some i=>some i
    | none=>if tmD u=tmD t then some ts.length else none
  | [],u,t=>by rw [List.nil_append,posF,posF,posF];rfl
  | x :: ts,u,t=>by
    rw [List.cons_append,posF,posF,pos_app ts u t]
    by_cases e:tmD x=tmD t
    · rw [if_pos e,if_pos e]
    · rw [if_neg e,if_neg e]
      cases posF ts t with
      | some j=>rfl
      | none =>
        by_cases e2:tmD u=tmD t
        · simp [e2]
        · simp [e2]
noncomputable def addF (ts:List Tm) (t:Tm):List Tm × Nat:=match posF ts t with
  | some i=>(ts,i)
  | none=>(ts ++ [t],ts.length)
theorem add_old {ts:List Tm} {t:Tm} {i:Nat} (h:posF ts t=some i):addF ts t=(ts,i):=by unfold addF;rw [h]
theorem add_new {ts:List Tm} {t:Tm} (h:posF ts t=none):addF ts t=(ts ++ [t],ts.length):=by unfold addF;rw [h]
theorem add_pre (ts:List Tm) (t:Tm):ts <+: (addF ts t).1:=by
  cases h:posF ts t with
  | some i=>rw [add_old h];exact List.prefix_refl _
  | none=>rw [add_new h];exact List.prefix_append _ _
mutual
noncomputable def ptF (bf:Str→Nat):List Tm→T→List Tm × Nat
  | ts,.any w=>(ts,bf w)
  | ts,.num n=>addF ts (.num n)
  | ts,.name w=>addF ts (.name w)
  | ts,.of w as=>addF (ptsF bf ts as).1 (.of w (ptsF bf ts as).2)
noncomputable def ptsF (bf:Str→Nat):List Tm→List T→List Tm × List Nat
  | ts, []=>(ts, [])
  | ts,t :: as=>((ptsF bf (ptF bf ts t).1 as).1,(ptF bf ts t).2 :: (ptsF bf (ptF bf ts t).1 as).2)
end
theorem puts_snoc (bf:Str→Nat):∀ (as:List T) (ts:List Tm) (t:T),ptsF bf ts (as ++ [t])=((ptF bf (ptsF bf ts as).1 t).1,(ptsF bf ts as).2 ++ [(ptF bf (ptsF bf ts as).1 t).2])
  | [],ts,t=>by rw [List.nil_append,ptsF,ptsF,ptsF];rfl
  | a :: as,ts,t=>by rw [List.cons_append,ptsF,ptsF,puts_snoc bf as];rfl
theorem puts_len (bf:Str→Nat):∀ (as:List T) (ts:List Tm),(ptsF bf ts as).2.length=as.length
  | [],ts=>by rw [ptsF];rfl
  | a :: as,ts=>by rw [ptsF];simp [puts_len bf as]
mutual
theorem put_pre (bf:Str→Nat):∀ (t:T) (ts:List Tm),ts <+: (ptF bf ts t).1
  | .any w,ts=>by rw [ptF];exact List.prefix_refl _
  | .num n,ts=>by rw [ptF];exact add_pre _ _
  | .name n,ts=>by rw [ptF];exact add_pre _ _
  | .of w as,ts=>by rw [ptF];exact (puts_pre bf as ts).trans (add_pre _ _)
theorem puts_pre (bf:Str→Nat):∀ (as:List T) (ts:List Tm),ts <+: (ptsF bf ts as).1
  | [],ts=>by rw [ptsF];exact List.prefix_refl _
  | a :: as,ts=>by rw [ptsF];exact (put_pre bf a ts).trans (puts_pre bf as _)
end
theorem puts_app (bf:Str→Nat):∀ (as bs:List T) (ts:List Tm),(ptsF bf ts (as ++ bs)).1=(ptsF bf (ptsF bf ts as).1 bs).1
  | [],bs,ts=>by rw [List.nil_append,ptsF]
  | a :: as,bs,ts=>by rw [List.cons_append,ptsF,ptsF];exact puts_app bf as bs _
theorem puts_take (bf:Str→Nat) (as:List T) (ts:List Tm) (i:Nat):(ptsF bf ts (as.take i)).1 <+: (ptsF bf ts as).1:=by
  conv=>rhs;rw [← List.take_append_drop i as]
  rw [puts_app]
  exact puts_pre _ _ _
noncomputable def But2 (L M:Addr) (H H':Hp):Prop := ∀ c o,c≠L→c≠M→H c=some o→H' c=some o
theorem But2.refl (L M:Addr) (H:Hp):But2 L M H H:=fun _ _ _ _ h=>h
theorem But2.trans {L M:Addr} {H H1 H2:Hp} (a:But2 L M H H1) (b:But2 L M H1 H2):But2 L M H H2:=fun c o n m h=>b c o n m (a c o n m h)
theorem But2.same {L M:Addr} {H H1 H2:Hp} (a:But2 L M H H1) (b:Same H1 H2):But2 L M H H2:=fun c o n m h=>b c o (a c o n m h)
theorem Same.but2 {L M:Addr} {H H1:Hp} (b:Same H H1):But2 L M H H1:=fun c o n m h=>b c o h
noncomputable def BankAt (P:Program) (w:World) (CB:Addr) (H:Hp) (b dx L M:Addr) (room:Int) (ts:List Tm):Prop :=
  H b=some (.ins CB dx [("room",.int room),("terms",.ref L),("places",.ref M)])∧(∃ us,H L=some (.lst us)∧Tms H us ts) ∧
  ∃ kvs,DN P w H M kvs∧kvs.length=ts.length∧∀ t,valV kvs (tmNK t)=(posF ts t).map nV
theorem BankAt.same {P:Program} {w:World} {CB:Addr} {H H':Hp} {b dx L M:Addr} {room:Int} {ts:List Tm} (h:BankAt P w CB H b dx L M room ts) (sm:Same H H'):BankAt P w CB H' b dx L M room ts:=by
  obtain ⟨h1,⟨us,h2,h3⟩,kvs,h4,h5,h6⟩:=h
  exact ⟨sm _ _ h1,⟨us,sm _ _ h2,tms_same sm h3⟩,kvs,h4.same sm,h5,h6⟩
theorem BankAt.ne {P:Program} {w:World} {CB:Addr} {H:Hp} {b dx L M:Addr} {room:Int} {ts:List Tm} (h:BankAt P w CB H b dx L M room ts):L≠M∧b≠L∧b≠M:=by
  obtain ⟨h1,⟨us,h2,h3⟩,kvs,h4,h5,h6⟩:=h
  obtain ⟨φ,e⟩:=h4.ext
  exact ⟨ne_of h2 e (fun z=>nomatch z),ne_of h1 h2 (fun z=>nomatch z),ne_of h1 e (fun z=>nomatch z)⟩
theorem BankAt.tup {P:Program} {w:World} {CB:Addr} {H H':Hp} {b dx L M:Addr} {room:Int} {ts:List Tm} (h:BankAt P w CB H b dx L M room ts) (bt:But2 L M H H'):∀ c ys,H c=some (.tup ys)→H' c=some (.tup ys):=by
  obtain ⟨h1,⟨us,h2,h3⟩,kvs,h4,h5,h6⟩:=h
  obtain ⟨φ,e⟩:=h4.ext
  exact fun c ys z=>bt c _ (ne_of z h2 (fun z=>nomatch z)) (ne_of z e (fun z=>nomatch z)) z
theorem BankAt.keep {P:Program} {w:World} {CB:Addr} {H H':Hp} {b dx L M:Addr} {room:Int} {ts:List Tm} {R:Addr} {us:List V} (h:BankAt P w CB H b dx L M room ts) (hR:H R=some (.lst us)) (hn:R≠L) (bt:But R H H'):BankAt P w CB H' b dx L M room ts:=by
  obtain ⟨h1,⟨us,h2,h3⟩,kvs,h4,h5,h6⟩:=h
  have ht:∀ c ys,H c=some (.tup ys)→H' c=some (.tup ys):=bt.tup hR
  obtain ⟨φ,e⟩:=h4.ext
  exact ⟨bt _ _ (ne_of h1 hR (fun z=>nomatch z)) h1,⟨us,bt _ _ (Ne.symm hn) h2,tms_keep ht h3⟩,kvs,h4.keep (fun φ' z=>bt _ _ (ne_of z hR (fun z=>nomatch z)) z) ht,h5,h6⟩
mutual
noncomputable def T.hol:T→List Str
  | .num _ => []
  | .name _ => []
  | .any w => [w]
  | .of _ ts=>T.hols ts
noncomputable def T.hols:List T→List Str
  | [] => []
  | t :: ts=>t.hol ++ T.hols ts
end
theorem hols_mem:∀ {ts:List T} {t:T} {w:Str},t∈ts→w∈t.hol→w∈T.hols ts
  | a :: ts,t,w,h,e=>by
    rw [T.hols]
    rcases List.mem_cons.mp h with z | z
    · subst z;exact List.mem_append_left _ e
    · exact List.mem_append_right _ (hols_mem z e)
noncomputable def BOk (H:Hp) (bv:V) (bf:Str→Nat) (l:List Str):Prop := ∀ w∈l,∃ D kvs,bv = .ref D∧H D=some (.dK kvs)∧valV kvs (.inr w)=some (nV (bf w))
theorem BankAt.bok {P:Program} {w:World} {CB:Addr} {H H':Hp} {b dx L M:Addr} {room:Int} {ts:List Tm} {bv:V} {bf:Str→Nat} {l:List Str} (h:BankAt P w CB H b dx L M room ts) (bt:But2 L M H H') (q:BOk H bv bf l):BOk H' bv bf l:=fun x hx=>by
  obtain ⟨D,kvs,e,hD,hv⟩:=q x hx
  obtain ⟨h1,⟨us,h2,h3⟩,kvs',h4,h5,h6⟩:=h
  obtain ⟨φ,e4⟩:=h4.ext
  exact ⟨D,kvs,e,bt _ _ (ne_of hD h2 (fun z=>nomatch z)) (ne_of hD e4 (fun z=>nomatch z)) hD,hv⟩
theorem tm_of {H:Hp} {x:Str} {as:List Nat} {a b:Addr} (h:H a=some (.tup [.str "of",.str x,.ref b])) (h2:H b=some (.tup (as.map nV))):IsTm H (.of x as) (.ref a):=⟨a,b,rfl,h,h2⟩
mutual
noncomputable def T.Slim:T→Prop
  | .num _=>True
  | .name _=>True
  | .any _=>True
  | .of _ ts=>ts.length≤900∧T.Slims ts
noncomputable def T.Slims:List T→Prop
  | []=>True
  | t :: ts=>t.Slim∧T.Slims ts
end
theorem slims_all:∀ {ts:List T},T.Slims ts↔∀ t∈ts,t.Slim
  | []=>by rw [T.Slims];simp
  | t :: ts=>by rw [T.Slims,slims_all];simp
end Sw
namespace Sw
open PySem L2

noncomputable def isLet (c:Nat):Bool:=decide (97≤c∧c≤122)
noncomputable def isFig (c:Nat):Bool:=decide (48≤c∧c≤57)
noncomputable def mkS (l:List Nat):Str:=⟨l.toArray⟩
theorem mkS_cps (l:List Nat):(mkS l).cps.toList=l:=rfl
theorem mkS_len (l:List Nat):(mkS l).length=l.length:=by rw [len_cps,mkS_cps]
noncomputable def pWord (l:List Nat):Option (List Nat × List Nat) :=
  if l.takeWhile isLet = []∨8 < (l.takeWhile isLet).length then none else some (l.takeWhile isLet,l.drop (l.takeWhile isLet).length)
noncomputable def pNum (l:List Nat):Option (Int × List Nat) :=
  let neg:=decide (l.head? = some 45)
  let l1:=if neg then l.tail else l
  let f:=l1.takeWhile isFig
  if f = []∨60 < f.length then none
  else if f.head? = some 48∧¬ (neg=false∧f = [48]) then none
  else some (if neg then -((PySem.NumText.digitsVal f:Nat):Int) else ((PySem.NumText.digitsVal f:Nat):Int),l1.drop f.length)
noncomputable def pMore (tree:List Nat→Option (T × List Nat)):Nat→List Nat→Option (List T × List Nat)
  | 0,_=>none
  | n+1,44 :: 32 :: r=>match tree r with
    | some (t,r2)=>(match pMore tree n r2 with
      | some (ts,r3)=>some (t :: ts,r3)
      | none=>none)
    | none=>none
  | _+1,41 :: r=>some ([],r)
  | _+1,_=>none
noncomputable def pArms (tree:List Nat→Option (T × List Nat)) (l:List Nat):Option (List T × List Nat):=match tree l with
  | some (t,r)=>(match pMore tree (r.length+1) r with
    | some (ts,r2)=>if 4 < ts.length+1 then none else some (t :: ts,r2)
    | none=>none)
  | none=>none
noncomputable def pKnot (arms:List Nat→Option (List T × List Nat)) (x:List Nat):List Nat→Option (T × List Nat)
  | 40 :: l2=>(match arms l2 with
    | some (ts,l')=>some (.of (mkS x) ts,l')
    | none=>none)
  | l1=>some (.name (mkS x),l1)
theorem pk_of {arms:List Nat→Option (List T × List Nat)} {x l2:List Nat}:pKnot arms x (40 :: l2)=(match arms l2 with
    | some (ts,l')=>some (.of (mkS x) ts,l')
    | none=>none):=rfl
theorem pk_name {arms:List Nat→Option (List T × List Nat)} {x l1:List Nat} (h:l1.take 1 ≠ [40]):pKnot arms x l1=some (.name (mkS x),l1):=by
  unfold pKnot
  split
  · simp at h
  · rfl
noncomputable def pTree (b:Bool):Nat→List Nat→Option (T × List Nat)
  | 0,_=>none
  | k+1,l=>match l with
    | []=>none
    | c :: r =>
      if c=45∨isFig c=true then (match pNum (c :: r) with
        | some (n,l')=>some (.num n,l')
        | none=>none)
      else if c=63∧b=true then (match pWord r with
        | some (w,l')=>some (.any (mkS w),l')
        | none=>none)
      else match pWord (c :: r) with
        | none=>none
        | some (w,l1)=>pKnot (pArms (pTree b k)) w l1

theorem pt_cons {b:Bool} {k c:Nat} {r:List Nat}:pTree b (k+1) (c :: r)=(if c=45∨isFig c=true then (match pNum (c :: r) with
        | some (n,l')=>some (T.num n,l')
        | none=>none)
      else if c=63∧b=true then (match pWord r with
        | some (w,l')=>some (T.any (mkS w),l')
        | none=>none)
      else match pWord (c :: r) with
        | none=>none
        | some (w,l1)=>pKnot (pArms (pTree b k)) w l1):=rfl

noncomputable def rdr (CR dx:Addr) (tx:Str) (b:Bool) (p:Nat):HO := .ins CR dx [("text",.str tx),("with_holes",.bl b),("place",.int (p:Int))]
noncomputable def KeepBut (r:Addr) (H H':Hp):Prop := ∀ a o,a≠r→H a=some o→H' a=some o
theorem KeepBut.refl {r:Addr} {H:Hp}:KeepBut r H H:=fun _ _ _ h=>h
theorem KeepBut.trans {r:Addr} {H H1 H2:Hp} (x:KeepBut r H H1) (y:KeepBut r H1 H2):KeepBut r H H2:=fun a o n h=>y a o n (x a o n h)
theorem KeepBut.put {r:Addr} {H:Hp} {o:HO}:KeepBut r H (upd H r o):=fun a u n h=>by rw [upd_ne n];exact h
theorem KeepBut.of {r:Addr} {H H':Hp} (s:Same H H'):KeepBut r H H':=fun a u _ h=>s a u h
theorem KeepBut.new {r p:Addr} {H:Hp} {o:HO} (h:H p=none):KeepBut r H (upd H p o):=KeepBut.of (same_new h o)
theorem KeepBut.tups {r:Addr} {H H':Hp} {o:HO} (k:KeepBut r H H') (hr:H r=some o) (hn:notTup o):∀ a xs,H a=some (.tup xs)→H' a=some (.tup xs):=fun a xs e=>k a _ (fun z=>by rw [z,hr] at e;cases e;exact hn) e
theorem slice_cut (x:Str) {p q:Nat} (hp:p≤x.length):Txt.slice x (some (p:Int)) (some (q:Int))=mkS ((x.cps.toList.drop p).take (q - p)):=by
  refine str_ext ?_
  rw [slice_cps,mkS_cps,HT.sIx_nat,HT.sIx_nat,Nat.min_eq_left hp]
  have hl:x.cps.toList.length=x.length:=(len_cps x).symm
  by_cases h:q≤x.length
  · rw [Nat.min_eq_left h]
  · rw [Nat.min_eq_right (by omega),List.take_of_length_le (by rw [List.length_drop];omega),List.take_of_length_le (by rw [List.length_drop];omega)]
theorem upd_id {H:Hp} {r:Addr} {o:HO} (h:H r=some o):upd H r o=H:=by
  funext a
  by_cases e:a=r
  · subst e;rw [upd_same,h]
  · rw [upd_ne e]
theorem tw_le (pr:Nat→Bool):∀ l:List Nat,(l.takeWhile pr).length≤l.length
  | []=>Nat.le_refl _
  | c :: l=>by
    rw [List.takeWhile_cons]
    split
    · simp only [List.length_cons];have:=tw_le pr l;omega
    · simp
theorem tw_at (pr:Nat→Bool):∀ (l:List Nat) (j:Nat),j < (l.takeWhile pr).length→∃ c,l[j]? = some c∧pr c=true
  | [],j,h=>by simp at h
  | c :: l,j,h=>by
    rw [List.takeWhile_cons] at h
    split at h
    · rename_i hc
      cases j with
      | zero=>exact ⟨c,rfl,hc⟩
      | succ j=>exact tw_at pr l j (by simpa using h)
    · simp at h
theorem tw_end (pr:Nat→Bool):∀ (l:List Nat),(l.takeWhile pr).length < l.length→∃ c,l[(l.takeWhile pr).length]? = some c∧pr c=false
  | [],h=>by simp at h
  | c :: l,h=>by
    rw [List.takeWhile_cons] at h ⊢
    by_cases hc:pr c=true
    · rw [if_pos hc] at h ⊢
      exact tw_end pr l (by simpa using h)
    · rw [if_neg hc] at h ⊢
      exact ⟨c,rfl,by simpa using hc⟩
theorem tw_take (pr:Nat→Bool):∀ l:List Nat,l.take (l.takeWhile pr).length=l.takeWhile pr
  | []=>rfl
  | c :: l=>by
    rw [List.takeWhile_cons]
    split
    · rw [List.length_cons,List.take_succ_cons,tw_take pr l]
    · rfl
theorem lets_are (c:Nat):decide (c∈("abcdefghijklmnopqrstuvwxyz" : Str).cps.toList)=isLet c:=by
  by_cases h:c < 128
  · revert h
    revert c
    decide +kernel
  · have h1:isLet c=false:=by unfold isLet;exact decide_eq_false (by omega)
    rw [h1]
    refine decide_eq_false fun hm=>h ?_
    have:∀ d∈("abcdefghijklmnopqrstuvwxyz" : Str).cps.toList,d < 128:=by decide +kernel
    exact this c hm
theorem figs_are (c:Nat):decide (c∈("0123456789" : Str).cps.toList)=isFig c:=by
  by_cases h:c < 128
  · revert h
    revert c
    decide +kernel
  · have h1:isFig c=false:=by unfold isFig;exact decide_eq_false (by omega)
    rw [h1]
    refine decide_eq_false fun hm=>h ?_
    have:∀ d∈("0123456789" : Str).cps.toList,d < 128:=by decide +kernel
    exact this c hm
theorem mkS_empty {l:List Nat} (h:V.str (mkS l)=V.str ""):l = []:=by
  have:=congrArg (fun z:Str=>z.cps.toList) (V.str.inj h)
  exact this
theorem mkS_ne {l:List Nat} (h:¬ V.str (mkS l)=V.str ""):l ≠ []:=fun z=>h (by rw [z];rfl)
theorem mkS_eq {l:List Nat} {x:Str} (h:l=x.cps.toList):mkS l=x:=str_ext h
theorem tw_all (pr:Nat→Bool):∀ (l:List Nat),∀ c∈l.takeWhile pr,pr c=true
  | [],c,h=>by simp at h
  | d :: l,c,h=>by
    rw [List.takeWhile_cons] at h
    split at h
    · rename_i hd
      rcases List.mem_cons.mp h with rfl | h
      · exact hd
      · exact tw_all pr l c h
    · cases h
theorem pm_comma {tree:List Nat→Option (T × List Nat)} {n:Nat} {r:List Nat}:pMore tree (n+1) (44 :: 32 :: r)=(match tree r with
    | some (t,r2)=>(match pMore tree n r2 with
      | some (ts,r3)=>some (t :: ts,r3)
      | none=>none)
    | none=>none):=rfl
theorem pm_close {tree:List Nat→Option (T × List Nat)} {n:Nat} {r:List Nat}:pMore tree (n+1) (41 :: r)=some ([],r):=rfl
theorem pm_none {tree:List Nat→Option (T × List Nat)} {n:Nat} {l:List Nat} (h1:l.take 2 ≠ [44,32]) (h2:l.take 1 ≠ [41]):pMore tree (n+1) l=none:=by
  unfold pMore
  split
  · rename_i h;cases h
  · simp at h1
  · simp at h2
  · rfl
theorem pw_len {l x r:List Nat} (h:pWord l=some (x,r)):r.length≤l.length:=by
  unfold pWord at h
  split at h
  · cases h
  · cases h
    rw [List.length_drop];omega
theorem pw_is {l x r:List Nat} (h:pWord l=some (x,r)):x=l.takeWhile isLet∧r=l.drop x.length∧x.length≤l.length∧x ≠ []∧x.length≤8:=by
  unfold pWord at h
  split at h
  · cases h
  · rename_i hn
    cases h
    exact ⟨rfl,rfl,tw_le _ _,fun z=>hn (.inl z),Nat.le_of_not_lt fun z=>hn (.inr z)⟩
theorem pn_len {l r:List Nat} {n:Int} (h:pNum l=some (n,r)):r.length≤l.length:=by
  unfold pNum at h
  dsimp only at h
  generalize hd:decide (l.head? = some 45)=neg at h
  have hl1:(if neg=true then l.tail else l).length≤l.length:=by cases neg <;> simp
  generalize (if neg=true then l.tail else l)=l1 at h hl1
  by_cases h1:l1.takeWhile isFig = []∨60 < (l1.takeWhile isFig).length
  · rw [if_pos h1] at h;cases h
  · rw [if_neg h1] at h
    by_cases h2:(l1.takeWhile isFig).head? = some 48∧¬ (neg=false∧l1.takeWhile isFig = [48])
    · rw [if_pos h2] at h;cases h
    · rw [if_neg h2] at h
      have e:=(Prod.mk.inj (Option.some.inj h)).2
      rw [← e,List.length_drop]
      omega
theorem pm_len {tree:List Nat→Option (T × List Nat)} (ht:∀ l t r,tree l=some (t,r)→r.length≤l.length):∀ (n:Nat) (l:List Nat) (ts:List T) (r:List Nat),pMore tree n l=some (ts,r)→r.length≤l.length
  | 0,_,_,_,h=>by cases h
  | n+1,l,ts,r,h=>by
    unfold pMore at h
    split at h
    · rename_i z;cases z
    · split at h
      · rename_i t r2 e
        split at h
        · rename_i ts3 r3 e3
          cases h
          have h1:=ht _ _ _ e
          have h2:=pm_len ht _ _ _ _ e3
          simp only [List.length_cons]
          omega
        · cases h
      · cases h
    · cases h
      simp
    · cases h
theorem pa_len {tree:List Nat→Option (T × List Nat)} (ht:∀ l t r,tree l=some (t,r)→r.length≤l.length) {l:List Nat} {ts:List T} {r:List Nat} (h:pArms tree l=some (ts,r)):r.length≤l.length:=by
  unfold pArms at h
  split at h
  · rename_i t r1 e
    split at h
    · rename_i ts2 r2 e2
      split at h
      · cases h
      · cases h
        exact Nat.le_trans (pm_len ht _ _ _ _ e2) (ht _ _ _ e)
    · cases h
  · cases h
theorem pt_len (b:Bool):∀ (k:Nat) (l:List Nat) (t:T) (r:List Nat),pTree b k l=some (t,r)→r.length≤l.length
  | 0,_,_,_,h=>by cases h
  | k+1,l,t,r,h=>by
    unfold pTree at h
    split at h
    · cases h
    · rename_i c l0
      split at h
      · split at h
        · rename_i n l' e
          cases h
          exact pn_len e
        · cases h
      · split at h
        · split at h
          · rename_i x l' e
            cases h
            have:=pw_len e
            simp only [List.length_cons]
            omega
          · cases h
        · split at h
          · cases h
          · rename_i x l1 e
            have h1:=pw_len e
            unfold pKnot at h
            split at h
            · rename_i l2
              split at h
              · rename_i ts l' e2
                cases h
                have h2:=pa_len (pt_len b k) e2
                simp only [List.length_cons] at h1 ⊢
                omega
              · cases h
            · cases h
              exact h1
theorem take1 {l:List Nat} {c:Nat} (h:l.take 1 = [c]):∃ r,l=c :: r:=by
  cases l with
  | nil=>simp at h
  | cons d r=>simp at h;exact ⟨r,by rw [h]⟩
theorem take2 {l:List Nat} {c d:Nat} (h:l.take 2 = [c,d]):∃ r,l=c :: d :: r:=by
  cases l with
  | nil=>simp at h
  | cons a r =>
    cases r with
    | nil=>simp at h
    | cons e r=>simp at h;exact ⟨r,by rw [h.1,h.2]⟩
theorem trs_snoc {H:Hp} {t:T} {v:V}:∀ {ts:List T} {vs:List V},IsTrs H ts vs→IsTr H t v→IsTrs H (ts ++ [t]) (vs ++ [v])
  | [],vs,h,q=>by
    rw [IsTrs] at h
    subst h
    rw [List.nil_append,List.nil_append,IsTrs]
    exact ⟨v, [],rfl,q,by rw [IsTrs]⟩
  | t' :: ts,vs,h,q=>by
    rw [IsTrs] at h
    obtain ⟨v',r,rfl,h1,h2⟩:=h
    rw [List.cons_append,List.cons_append,IsTrs]
    exact ⟨v',r ++ [v],rfl,h1,trs_snoc h2 q⟩
end Sw
namespace Sw
open PySem L2 PySem.NumText

noncomputable def nt (n:Int):List Nat:=(Str.ofString (toString n)).cps.toList
noncomputable def dg (m:Nat):List Nat:=(Nat.toDigits 10 m).map Char.toNat
theorem nt_pos (m:Nat):nt (m:Int)=dg m:=PySem.W.KIN.signs_num m
theorem nt_neg (m:Nat) (h:1≤m):nt (-(m:Int))=45 :: dg m:=by
  obtain ⟨k,rfl⟩:∃ k,m=k+1:=⟨m - 1,by omega⟩
  have e : -(((k+1:Nat)):Int)=Int.negSucc k:=rfl
  unfold nt dg
  rw [e,PyProof.Rows.signs_ofString]
  show ("-" ++ Nat.repr (k+1)).toList.map Char.toNat=_
  rw [String.toList_append,List.map_append,Nat.toList_repr]
  rfl
theorem dg_digits (m:Nat):AllDigits (dg m):=by
  intro c hc
  obtain ⟨ch,hch,e⟩:=List.mem_map.mp hc
  have r:=PyProof.Rows.digit_range (Nat.isDigit_of_mem_toDigits (by decide) (by decide) hch)
  rw [← e]
  exact r
theorem dg_ne (m:Nat):dg m ≠ []:=by
  unfold dg
  intro e
  have h:=Nat.length_toDigits_pos (b:=10) (n:=m)
  rw [List.map_eq_nil_iff.mp e] at h
  exact absurd h (by decide)
theorem dg_val (m:Nat):digitsVal (dg m)=m:=PySem.W.KIN.val_back m
theorem map_back {cs:List Nat} (h:AllDigits cs):(cs.map Char.ofNat).map Char.toNat=cs:=by
  induction cs with
  | nil=>rfl
  | cons c cs ih =>
    have hc:=h.head
    rw [List.map_cons,List.map_cons,ih h.tail]
    have:(Char.ofNat c).toNat=c:=by
      have:∀ d,d < 128→(Char.ofNat d).toNat=d:=by decide +kernel
      exact this c (by omega)
    rw [this]
theorem dg_of {cs:List Nat} (h:AllDigits cs) (hne:cs ≠ []) (hh:cs.length=1∨∃ c r,cs=c :: r∧49≤c):dg (digitsVal cs)=cs:=by
  unfold dg
  have hl:cs.length=(cs.length - 1)+1:=by
    cases cs with
    | nil=>exact absurd rfl hne
    | cons c r=>simp
  rw [toDigits_digitsVal (cs.length - 1) cs hl h (hh.imp (fun z=>by omega) id),map_back h]
theorem dg_head (m:Nat) (h:(dg m).head? = some 48):dg m = [48]:=by
  have ha:=toDigits_all (dg m) (dg_digits m)
  rw [dg_val] at ha
  have hl:(Nat.toDigits 10 m).length=(dg m).length:=by unfold dg;rw [List.length_map]
  cases e:dg m with
  | nil=>exact absurd e (dg_ne m)
  | cons c r =>
    rw [e] at h ha hl
    cases h
    rw [List.dropWhile_cons] at ha
    simp only [beq_self_eq_true,if_true] at ha
    have hd:=PySem.NumText.len_dropWhile (· == 48) r
    cases e2:r.dropWhile (· == 48) with
    | nil =>
      rw [e2] at ha
      rw [ha] at hl
      simp only [List.length_cons,List.length_nil] at hl
      have:r = []:=List.length_eq_zero_iff.mp (by omega)
      rw [this]
    | cons d r2 =>
      rw [e2] at ha hd
      rw [ha,List.length_map] at hl
      simp only [List.length_cons] at hl hd
      omega
theorem dv_lt:∀ (cs:List Nat) (a:Nat),AllDigits cs→cs.foldl (fun acc c=>acc * 10+(c - 48)) a < (a+1) * 10 ^ cs.length
  | [],a,_=>by simp
  | c :: cs,a,h=>by
    have hc:=h.head
    have ih:=dv_lt cs (a * 10+(c - 48)) h.tail
    show cs.foldl _ (a * 10+(c - 48)) < _
    refine Nat.lt_of_lt_of_le ih ?_
    rw [List.length_cons,Nat.pow_succ,Nat.mul_comm (10 ^ cs.length) 10, ← Nat.mul_assoc]
    exact Nat.mul_le_mul_right _ (by omega)
theorem dg_len {m:Nat} (h:m < 10 ^ 60):(dg m).length≤60:=by
  by_cases h0:m=0
  · subst h0;decide
  · have hl:=num_len (n := -(m:Int)) (by omega) (by omega)
    have e:(Str.ofString (toString (-(m:Int)))).length=(nt (-(m:Int))).length:=len_cps _
    rw [e,nt_neg m (by omega),List.length_cons] at hl
    omega
noncomputable def Stop (r:List Nat):Prop := ∀ c,r.head? = some c→c=44∨c=41
theorem tw_app {pr:Nat→Bool}:∀ {a r:List Nat},(∀ c∈a,pr c=true)→(∀ c,r.head? = some c→pr c=false)→(a ++ r).takeWhile pr=a
  | [],r,_,h=>by
    cases r with
    | nil=>rfl
    | cons c r=>rw [List.nil_append,List.takeWhile_cons,h c rfl];rfl
  | c :: a,r,ha,h=>by
    rw [List.cons_append,List.takeWhile_cons,ha c List.mem_cons_self,if_pos rfl,tw_app (fun d hd=>ha d (List.mem_cons_of_mem _ hd)) h]
theorem fig_of {c:Nat} (h:48≤c∧c≤57):isFig c=true:=decide_eq_true h
theorem stop_fig {r:List Nat} (h:Stop r):∀ c,r.head? = some c→isFig c=false:=fun c hc=>by
  rcases h c hc with rfl | rfl <;> rfl
theorem stop_let {r:List Nat} (h:Stop r):∀ c,r.head? = some c→isLet c=false:=fun c hc=>by
  rcases h c hc with rfl | rfl <;> rfl
theorem pn_done {n:Int} (h1 : -(10 ^ 60) < n) (h2:n < 10 ^ 60) {r:List Nat} (hr:Stop r):pNum (nt n ++ r)=some (n,r):=by
  have key:∀ m:Nat,m < 10 ^ 60→(dg m ++ r).takeWhile isFig=dg m:=fun m hm=>tw_app (fun c hc=>fig_of (dg_digits m c hc)) (stop_fig hr)
  by_cases hn:0≤n
  · obtain ⟨m,rfl⟩:=Int.eq_ofNat_of_zero_le hn
    have hm:m < 10 ^ 60:=by omega
    rw [nt_pos]
    have hh:(dg m ++ r).head? ≠ some 45:=fun z=>by
      cases e:dg m with
      | nil=>exact dg_ne m e
      | cons c l =>
        rw [e] at z
        cases z
        have:=dg_digits m 45 (by rw [e];exact List.mem_cons_self)
        omega
    unfold pNum
    rw [decide_eq_false hh]
    simp only [Bool.false_eq_true,if_false,key m hm]
    rw [if_neg (fun z=>z.elim (dg_ne m) (by have:=dg_len hm;omega)),if_neg (fun z=>z.2 ⟨trivial,dg_head m z.1⟩),dg_val,List.drop_left]
  · obtain ⟨m,rfl,hm1⟩:∃ m:Nat,n = -(m:Int)∧1≤m:=⟨n.natAbs,by omega,by omega⟩
    have hm:m < 10 ^ 60:=by omega
    rw [nt_neg m hm1]
    unfold pNum
    simp only [List.cons_append,List.head?_cons,List.tail_cons,decide_true,if_true,key m hm]
    rw [if_neg (fun z=>z.elim (dg_ne m) (by have:=dg_len hm;omega)),if_neg (fun z => ?_),dg_val,List.drop_left]
    have e:=dg_head m z.1
    have e2:=dg_val m
    rw [e] at e2
    have:digitsVal [48]=0:=rfl
    omega
theorem pn_sound {l r:List Nat} {n:Int} (h:pNum l=some (n,r)):l=nt n ++ r ∧ -(10 ^ 60) < n∧n < 10 ^ 60:=by
  unfold pNum at h
  dsimp only at h
  generalize hd:decide (l.head? = some 45)=neg at h
  generalize hl1:(if neg=true then l.tail else l)=l1 at h
  by_cases h1:l1.takeWhile isFig = []∨60 < (l1.takeWhile isFig).length
  · rw [if_pos h1] at h;cases h
  rw [if_neg h1] at h
  by_cases h2:(l1.takeWhile isFig).head? = some 48∧¬ (neg=false∧l1.takeWhile isFig = [48])
  · rw [if_pos h2] at h;cases h
  rw [if_neg h2] at h
  have hF:AllDigits (l1.takeWhile isFig):=fun c hc=>by
    have:=tw_all _ _ c hc
    unfold isFig at this
    exact of_decide_eq_true this
  have e1:l1=l1.takeWhile isFig ++ l1.drop (l1.takeWhile isFig).length:=by
    have:=List.take_append_drop (l1.takeWhile isFig).length l1
    rw [tw_take] at this
    exact this.symm
  generalize l1.takeWhile isFig=F at h h1 h2 hF e1
  generalize l1.drop F.length=R at h e1
  have hne:F ≠ []:=fun z=>h1 (.inl z)
  have h60:F.length≤60:=Nat.le_of_not_lt fun z=>h1 (.inr z)
  have hlt:digitsVal F < 10 ^ 60:=by
    have:=dv_lt F 0 hF
    have h10:(10:Nat) ^ F.length≤10 ^ 60:=Nat.pow_le_pow_right (by decide) h60
    unfold digitsVal
    omega
  have hdg:dg (digitsVal F)=F:=by
    refine dg_of hF hne ?_
    cases F with
    | nil=>exact absurd rfl hne
    | cons c F' =>
      by_cases hc:c=48
      · subst hc
        have:neg=false∧48 :: F' = [48]:=Classical.byContradiction fun z=>h2 ⟨rfl,z⟩
        exact .inl (by rw [this.2];rfl)
      · have:=hF.head
        exact .inr ⟨c,F',rfl,by omega⟩
  cases neg with
  | false =>
    simp only [Bool.false_eq_true,if_false,Option.some.injEq,Prod.mk.injEq] at h hl1
    obtain ⟨rfl,rfl⟩:=h
    subst hl1
    refine ⟨by rw [nt_pos,hdg];exact e1,by omega,by omega⟩
  | true =>
    simp only [if_true,Option.some.injEq,Prod.mk.injEq] at h hl1
    obtain ⟨rfl,rfl⟩:=h
    have hh:=of_decide_eq_true hd
    have hpos:1≤digitsVal F:=by
      cases F with
      | nil=>exact absurd rfl hne
      | cons c F' =>
        by_cases hc:c=48
        · subst hc
          exact absurd ⟨rfl,fun z=>by cases z.1⟩ h2
        · have:=hF.head
          exact digitsVal_pos (by omega)
    refine ⟨?_,by omega,by omega⟩
    rw [nt_neg _ hpos,hdg,List.cons_append]
    cases l with
    | nil=>cases hh
    | cons c l' =>
      cases hh
      rw [List.tail_cons] at hl1
      rw [hl1, ← e1]
theorem let_of {c:Nat} (h:97≤c∧c≤122):isLet c=true:=decide_eq_true h
theorem mkS_back (x:Str):mkS x.cps.toList=x:=mkS_eq rfl
theorem pw_done {x:Str} (hx:IsW x) {r:List Nat} (hr:∀ c,r.head? = some c→isLet c=false):pWord (x.cps.toList ++ r)=some (x.cps.toList,r):=by
  have e:(x.cps.toList ++ r).takeWhile isLet=x.cps.toList:=tw_app (fun c hc=>let_of (hx.2.2 c hc)) hr
  unfold pWord
  rw [e]
  have hl:=len_cps x
  have h1:=hx.1
  have h2:=hx.2.1
  rw [if_neg (fun z=>z.elim (fun z=>by rw [z] at hl;simp at hl;omega) (by omega)),List.drop_left]
theorem pw_sound {l x r:List Nat} (h:pWord l=some (x,r)):l=x ++ r∧IsW (mkS x):=by
  obtain ⟨h1,h2,h3,h4,h5⟩:=pw_is h
  have e:=List.take_append_drop x.length l
  rw [h1,tw_take, ← h1, ← h2] at e
  refine ⟨e.symm,?_,?_,fun c hc => ?_⟩
  · rw [mkS_len]
    cases x with
    | nil=>exact absurd rfl h4
    | cons c x=>simp
  · rw [mkS_len];exact h5
  · rw [mkS_cps,h1] at hc
    have:=tw_all _ _ c hc
    unfold isLet at this
    exact of_decide_eq_true this
noncomputable def more:List T→List Nat
  | [] => []
  | t :: ts=>44 :: 32 :: (t.shown.cps.toList ++ more ts)
theorem join_cps:∀ (t:T) (ts:List T),(Str.join ", " (T.showns (t :: ts))).cps.toList=t.shown.cps.toList ++ more ts
  | t, []=>by
    rw [T.showns,T.showns,Str.join,more,List.append_nil]
  | t,u :: ts=>by
    have ih:=join_cps u ts
    rw [T.showns] at ih
    rw [T.showns,T.showns,Str.join,app_cps,app_cps,ih,more]
    · show (t.shown.cps.toList ++ [44,32]) ++ _=_
      rw [List.append_assoc]
      rfl
    · intro z;cases z
theorem shown_of (x:Str) (t:T) (ts:List T):(T.of x (t :: ts)).shown.cps.toList=x.cps.toList ++ 40 :: (t.shown.cps.toList ++ (more ts ++ [41])):=by
  rw [T.shown,app_cps,app_cps,app_cps,join_cps]
  show ((x.cps.toList ++ [40]) ++ (t.shown.cps.toList ++ more ts)) ++ [41]=_
  simp
theorem shown_any (x:Str):(T.any x).shown.cps.toList=63 :: x.cps.toList:=by
  rw [T.shown,app_cps];rfl
theorem stop_more {ts:List T} {r:List Nat}:Stop (more ts ++ 41 :: r):=by
  cases ts with
  | nil=>intro c hc;cases hc;exact .inr rfl
  | cons t ts=>intro c hc;cases hc;exact .inl rfl
theorem pm_done {tree:List Nat→Option (T × List Nat)}:∀ (ts:List T) (n:Nat) (r:List Nat),(∀ t∈ts,∀ r,Stop r→tree (t.shown.cps.toList ++ r)=some (t,r))→(more ts ++ 41 :: r).length < n→pMore tree n (more ts ++ 41 :: r)=some (ts,r)
  | [],n,r,_,hn=>by
    obtain ⟨n',rfl⟩:∃ n',n=n'+1:=⟨n - 1,by omega⟩
    rfl
  | t :: ts,n,r,h,hn=>by
    obtain ⟨n',rfl⟩:∃ n',n=n'+1:=⟨n - 1,by omega⟩
    have e:more (t :: ts) ++ 41 :: r=44 :: 32 :: (t.shown.cps.toList ++ (more ts ++ 41 :: r)):=by rw [more];simp
    rw [e] at hn ⊢
    simp only [List.length_cons,List.length_append] at hn
    rw [pm_comma,h t List.mem_cons_self _ stop_more]
    dsimp only
    rw [pm_done ts n' r (fun u hu=>h u (List.mem_cons_of_mem _ hu)) (by simp only [List.length_append,List.length_cons];omega)]
theorem more_mem {t:T} {c:Nat}:∀ {ts:List T},t∈ts→c∈t.shown.cps.toList→c∈more ts
  | u :: ts,h,hc=>by
    rw [more]
    refine List.mem_cons_of_mem _ (List.mem_cons_of_mem _ (List.mem_append.mpr ?_))
    rcases List.mem_cons.mp h with rfl | h
    · exact .inl hc
    · exact .inr (more_mem h hc)
theorem word_head {x:Str} (hx:IsW x):∃ c l,x.cps.toList=c :: l∧97≤c∧c≤122:=by
  cases e:x.cps.toList with
  | nil=>have:=len_cps x;rw [e] at this;have:=hx.1;simp at *;omega
  | cons c l=>exact ⟨c,l,rfl,hx.2.2 c (by rw [e];exact List.mem_cons_self)⟩
theorem pt_done (b:Bool):∀ (k:Nat) (t:T),t.Ok→t.depth≤k→(b=true∨63 ∉ t.shown.cps.toList)→∀ r,Stop r→pTree b k (t.shown.cps.toList ++ r)=some (t,r)
  | 0,t,_,hd,_,_,_=>by have:=depth_pos t;omega
  | k+1,.num n,hok,_,_,r,hr=>by
    rw [T.Ok] at hok
    have e:=pn_done hok.1 hok.2 hr
    rw [T.shown]
    show pTree b (k+1) (nt n ++ r)=_
    have hh:∃ c l,nt n=c :: l∧(c=45∨isFig c=true):=by
      by_cases hn:0≤n
      · obtain ⟨m,rfl⟩:=Int.eq_ofNat_of_zero_le hn
        rw [nt_pos]
        cases e:dg m with
        | nil=>exact absurd e (dg_ne m)
        | cons c l=>exact ⟨c,l,rfl,.inr (fig_of (dg_digits m c (by rw [e];exact List.mem_cons_self)))⟩
      · obtain ⟨m,rfl,hm1⟩:∃ m:Nat,n = -(m:Int)∧1≤m:=⟨n.natAbs,by omega,by omega⟩
        exact ⟨45,_,nt_neg m hm1,.inl rfl⟩
    obtain ⟨c,l,e2,hc⟩:=hh
    rw [e2,List.cons_append] at e ⊢
    rw [pt_cons,if_pos hc,e]
  | k+1,.name x,hok,_,_,r,hr=>by
    rw [T.Ok] at hok
    obtain ⟨c,l,e2,hc⟩:=word_head hok
    have e:=pw_done hok (stop_let hr)
    rw [T.shown]
    rw [e2,List.cons_append] at e ⊢
    have nf:¬ (c=45∨isFig c=true):=fun z=>z.elim (by omega) (fun z=>by unfold isFig at z;have:=of_decide_eq_true z;omega)
    rw [pt_cons,if_neg nf,if_neg (fun z=>by have:=z.1;omega),e]
    dsimp only
    rw [pk_name (fun z => ?_), ← e2,mkS_back]
    obtain ⟨r',e3⟩:=take1 z
    rcases hr 40 (by rw [e3];rfl) with h | h <;> omega
  | k+1,.any x,hok,_,hb,r,hr=>by
    rw [T.Ok] at hok
    rw [shown_any] at hb ⊢
    have hb':b=true:=hb.resolve_right (fun z=>z List.mem_cons_self)
    have e:=pw_done hok (stop_let hr)
    rw [List.cons_append,pt_cons,if_neg (by decide),if_pos ⟨rfl,hb'⟩,e]
    dsimp only
    rw [mkS_back]
  | k+1,.of x [],hok,_,_,_,_=>by
    rw [T.Ok] at hok
    have:=hok.2.1
    simp at this
  | k+1,.of x (t :: ts),hok,hd,hb,r,hr=>by
    rw [T.Ok] at hok
    obtain ⟨hx,_,h4,hoks⟩:=hok
    rw [T.depth] at hd
    rw [shown_of] at hb ⊢
    have hm:∀ u∈t :: ts,∀ r,Stop r→pTree b k (u.shown.cps.toList ++ r)=some (u,r):=fun u hu r hr=>by
      refine pt_done b k u (oks_all.mp hoks u hu) ?_ (hb.imp id fun z hc=>z ?_) r hr
      · have:=deepest_le hu
        omega
      · refine List.mem_append_right _ (List.mem_cons_of_mem _ (List.mem_append.mpr ?_))
        rcases List.mem_cons.mp hu with rfl | hu
        · exact .inl hc
        · exact .inr (List.mem_append_left _ (more_mem hu hc))
    obtain ⟨c,l,e2,hc⟩:=word_head hx
    have ea:x.cps.toList ++ 40 :: (t.shown.cps.toList ++ (more ts ++ [41])) ++ r=x.cps.toList ++ 40 :: (t.shown.cps.toList ++ (more ts ++ 41 :: r)):=by simp
    have e:=pw_done hx (r:=40 :: (t.shown.cps.toList ++ (more ts ++ 41 :: r))) (fun c hc=>by cases hc;rfl)
    rw [ea]
    rw [e2,List.cons_append] at e ⊢
    have nf:¬ (c=45∨isFig c=true):=fun z=>z.elim (by omega) (fun z=>by unfold isFig at z;have:=of_decide_eq_true z;omega)
    rw [pt_cons,if_neg nf,if_neg (fun z=>by have:=z.1;omega),e]
    dsimp only
    rw [pk_of]
    unfold pArms
    rw [hm t List.mem_cons_self _ stop_more]
    dsimp only
    rw [pm_done ts _ r (fun u hu=>hm u (List.mem_cons_of_mem _ hu)) (by omega)]
    dsimp only
    rw [if_neg (by simp only [List.length_cons] at h4;omega), ← e2,mkS_back]
noncomputable def Good (b:Bool) (k:Nat) (t:T):Prop:=t.Ok∧t.depth≤k∧(b=false→63 ∉ t.shown.cps.toList)
theorem pm_sound {tree:List Nat→Option (T × List Nat)} {G:T→Prop} (ht:∀ l t r,tree l=some (t,r)→G t∧l=t.shown.cps.toList ++ r):∀ (n:Nat) (l:List Nat) (ts:List T) (r:List Nat),pMore tree n l=some (ts,r)→l=more ts ++ 41 :: r∧∀ t∈ts,G t
  | 0,_,_,_,h=>by cases h
  | n+1,l,ts,r,h=>by
    unfold pMore at h
    split at h
    · rename_i z;cases z
    · rename_i n' r0 z
      split at h
      · rename_i t r2 e
        split at h
        · rename_i ts3 r3 e3
          cases h
          obtain ⟨g1,e1⟩:=ht _ _ _ e
          obtain ⟨e4,g4⟩:=pm_sound ht _ _ _ _ e3
          refine ⟨?_,fun u hu => ?_⟩
          · rw [e1,e4,more];simp
          · rcases List.mem_cons.mp hu with rfl | hu
            · exact g1
            · exact g4 u hu
        · cases h
      · cases h
    · cases h
      exact ⟨rfl,fun t ht=>by cases ht⟩
    · cases h
theorem more_not {c:Nat} (h1:c≠44) (h2:c≠32):∀ {ts:List T},(∀ t∈ts,c ∉ t.shown.cps.toList)→c ∉ more ts
  | [],_,h=>by cases h
  | t :: ts,h,hc=>by
    rw [more] at hc
    rcases List.mem_cons.mp hc with z | hc
    · exact h1 z
    rcases List.mem_cons.mp hc with z | hc
    · exact h2 z
    rcases List.mem_append.mp hc with hc | hc
    · exact h t List.mem_cons_self hc
    · exact more_not h1 h2 (fun u hu=>h u (List.mem_cons_of_mem _ hu)) hc
theorem word_not {x:Str} (hx:IsW x) {c:Nat} (h:c < 97):c ∉ x.cps.toList:=fun z=>by have:=hx.2.2 c z;omega
theorem pt_sound (b:Bool):∀ (k:Nat) (l:List Nat) (t:T) (r:List Nat),pTree b k l=some (t,r)→Good b k t∧l=t.shown.cps.toList ++ r
  | 0,_,_,_,h=>by cases h
  | k+1, [],t,r,h=>by cases h
  | k+1,c :: l0,t,r,h=>by
    rw [pt_cons] at h
    split at h
    · split at h
      · rename_i n l' e
        cases h
        obtain ⟨e1,n1,n2⟩:=pn_sound e
        refine ⟨⟨by rw [T.Ok];exact ⟨n1,n2⟩,by rw [T.depth];omega,fun _ hc => ?_⟩,by rw [T.shown];exact e1⟩
        rw [T.shown] at hc
        have hc:63∈nt n:=hc
        by_cases hn:0≤n
        · obtain ⟨m,rfl⟩:=Int.eq_ofNat_of_zero_le hn
          rw [nt_pos] at hc
          have:=dg_digits m 63 hc
          omega
        · obtain ⟨m,rfl,hm1⟩:∃ m:Nat,n = -(m:Int)∧1≤m:=⟨n.natAbs,by omega,by omega⟩
          rw [nt_neg m hm1] at hc
          rcases List.mem_cons.mp hc with z | hc
          · omega
          · have:=dg_digits m 63 hc
            omega
      · cases h
    · split at h
      · rename_i hcb
        split at h
        · rename_i x l' e
          cases h
          obtain ⟨e1,hw⟩:=pw_sound e
          refine ⟨⟨by rw [T.Ok];exact hw,by rw [T.depth];omega,fun z=>by rw [hcb.2] at z;cases z⟩,?_⟩
          rw [shown_any,mkS_cps,List.cons_append, ← e1,hcb.1]
        · cases h
      · split at h
        · cases h
        · rename_i x l1 e
          obtain ⟨e1,hw⟩:=pw_sound e
          unfold pKnot at h
          split at h
          · rename_i l2
            split at h
            · rename_i ts l' e2
              cases h
              unfold pArms at e2
              split at e2
              · rename_i t r1 e3
                split at e2
                · rename_i ts2 r2 e4
                  split at e2
                  · cases e2
                  · rename_i h4
                    cases e2
                    obtain ⟨g3,l3⟩:=pt_sound b k _ _ _ e3
                    obtain ⟨l4,g4⟩:=pm_sound (G:=Good b k) (fun l t r h=>pt_sound b k l t r h) _ _ _ _ e4
                    have ga:∀ u∈t :: ts2,Good b k u:=fun u hu=>by
                      rcases List.mem_cons.mp hu with rfl | hu
                      · exact g3
                      · exact g4 u hu
                    refine ⟨⟨?_,?_,fun hb hc => ?_⟩,?_⟩
                    · rw [T.Ok]
                      exact ⟨hw,by simp,by simp only [List.length_cons];omega,oks_all.mpr fun u hu=>(ga u hu).1⟩
                    · rw [T.depth]
                      have:=deepest_is (ts:=t :: ts2) (M:=k) fun u hu=>(ga u hu).2.1
                      omega
                    · rw [shown_of] at hc
                      rcases List.mem_append.mp hc with hc | hc
                      · exact word_not hw (by decide) hc
                      rcases List.mem_cons.mp hc with z | hc
                      · omega
                      rcases List.mem_append.mp hc with hc | hc
                      · exact g3.2.2 hb hc
                      rcases List.mem_append.mp hc with hc | hc
                      · exact more_not (by decide) (by decide) (fun u hu=>(g4 u hu).2.2 hb) hc
                      · rcases List.mem_cons.mp hc with z | hc
                        · omega
                        · cases hc
                    · rw [shown_of,mkS_cps,e1,l3,l4]
                      simp
                · cases e2
              · cases e2
            · cases h
          · cases h
            refine ⟨⟨by rw [T.Ok];exact hw,by rw [T.depth];omega,fun _ hc => ?_⟩,by rw [T.shown,mkS_cps];exact e1⟩
            rw [T.shown] at hc
            exact word_not hw (by decide) hc
end Sw
namespace Sw
open PySem L2 PySem.NumText

end Sw
namespace L2
open PySem PySem.Spec PyProof.Rows
end L2
namespace L2
open PySem PySem.Spec PyProof.Rows
noncomputable def strsOf:List Expr→Option (List Str)
  | []=>some []
  | .Constant (.str x) _ _ :: es=>(strsOf es).map (x :: ·)
  | _=>none
theorem strsC_of:∀ {es:List Expr} {L:List Str},strsOf es=some L→StrsC es L
  | [],L,h=>by
    cases (show some []=some L from h)
    exact .nil
  | e :: es,L,h=>by
    unfold strsOf at h
    split at h
    · rename_i heq;cases heq
    · rename_i x j p es' heq
      cases heq
      cases q:strsOf es with
      | none=>rw [q] at h;cases h
      | some L' =>
        rw [q] at h
        cases h
        exact .cons (strsC_of q)
    · cases h
theorem pa_strsB {X:Cx} {es:List Expr} {L:List Str} (h:strsOf es=some L):PA X es (tStrs L):=pa_strs (strsC_of h)
end L2
namespace L2
open PySem PySem.Spec PyProof.Rows
section
variable {X:Cx}
end
section
variable {P:Program} {w:World} {A:Around} {s:Shared}
open SeqAt MeetsSeq MeetsSeq2 MeetsSeq3 SeqRoads2
open AutoSeq1 (wpAny_loadPart')
end
end L2
namespace L2
open PySem PySem.W PySem.Calls PyProof.Rows
theorem weight_le {ns:List Int} {c:Int}:c∈ns→WData.weight (.int c)≤WData.weightAll (ns.map WData.int):=by
  induction ns with
  | nil=>intro h;cases h
  | cons n ns ih =>
    intro h
    rw [List.map_cons,WData.weightAll]
    rcases List.mem_cons.mp h with rfl | h
    · omega
    · have:=ih h;omega
theorem bits_lay {ns:List Int} (h:WData.layableAll [WData.list (ns.map WData.int)]=true):∀ c∈ns,Builtin.Int.intBits c≤1048576:=fun c hc=>by
  have h1:WData.layable (WData.list (ns.map WData.int))=true:=List.all_eq_true.mp h _ List.mem_cons_self
  have h2:=of_decide_eq_true (Bool.and_eq_true_iff.mp h1).2
  rw [WData.weight] at h2
  have h3:=weight_le hc
  rw [WData.weight] at h3
  show (if c == 0 then 0 else c.natAbs.log2+1)≤1048576
  have:(2:Nat) ^ 20=1048576:=by decide
  omega
theorem walk_ofB {l:OpenLaw} {n k:Nat} {q:Program} {loose:List Str} {XP:(Str→Option Value)→Heap→Prop} {YP:World→Heap→Prop} {d:DefRec} {K:Params→Frag} {CX:World→CXT} {sp:World→Sp} {x:Str}
    (hn:l.most=some n) (hn2:n≤sizeLine) (hdf:d.params.defaults = []) (hr:Room k callerA)
    (hY:∀ (w:World) (h:Heap),YP w h→(K w.params).In h)
    (F:∀ (w:World) (mg:Str→Option Value) (fa:Addr) (h:Heap),(K w.params).In h→h.Ns mainGlobals mg→mg d.name=some (.ref fa) →
      ∃ fd:FuncData,(∀ (s:Shared) (u:Value),BindsTo s fd ⟨[u], []⟩ [(x,u)])∧∀ base:Heap,(K w.params).In base→base.Ns mainGlobals mg→FnOk l.prog w (K w.params) mg base (CX w) k fa fd [x] (sp w))
    (hsp:∀ (w:World) (H:Hp) (a:Addr) (ns:List Int),ns.length≤n→(∀ c∈ns,Builtin.Int.intBits c≤1048576)→SqL (K w.params) H a (ns.map V.int)→sp w [.ref a] H (fun v _=>v = .bl true) fun _ _ _=>False)
    (hCX:∀ (w:World) (H:Hp) (s:Shared) (e:Value) (s':Shared),CX w [] H s (fun _ _ _=>False) e s'→False) :
    WalkO q loose XP YP l.row.toRowW d [] (fun f vs=>PySem.call f vs):=by
  intro w s0 s1 mg mb G Y fa o pm cd doc dV kV ho hd hcd hD hmg hg args vals as hpre hlay hrd hwl hlo
  have e1:=Dflts.none hD hdf
  have e2:=Dflts.noKw hD
  subst e1 e2
  obtain ⟨a,vs,ns,ev,ea,hobj,hints,hlen⟩:=Att.script_of hn hpre hwl
  subst ev ea
  have KX:=hY w _ Y
  obtain ⟨fd,hb,hF⟩:=F w mg fa _ KX G.T.g hmg
  refine enter_call (codeAny_mono (law_call KX G.T.g G.T.b G.T.builtins G.T.nolimit hg hobj hints (Nat.le_trans hlen hn2) hr hF hb (fun H _ hS=>hsp w H a ns hlen (bits_lay hlay) hS) fun H e s'=>hCX w H s1 e s') fun r s' hq => ?_)
  obtain ⟨er,h2,h3,h4⟩:=hq
  subst er
  exact ⟨.inl ⟨.bool true,.bool true, [],rfl,fun _=>rfl,.bool true,Att.post_true l _,fun _=>⟨List.Pairwise.nil,fun _ hm=>(nomatch hm)⟩⟩,h2,h3,h4⟩
end L2
namespace L2
open PySem PySem.Spec PyProof.Rows
section
variable {X:Cx} {k:Nat} {y:Str} {p pos:Pos} {e:Expr} {es:List Expr} {tv:TE} {t:TA}
end
end L2
namespace L2
open PySem PySem.Spec PyProof.Rows
section
variable {prog:Program} {w:World} {A:Around} {R:Result→Shared→Prop} {I:Addr} {fp wr:List Addr} {n:Nat} {P:Nat→Value→Prop} {St:Nat→Heap→Prop} {kw:List (Str × Value)} {G:Heap→Prop}
end
section
variable {X:Cx} {e:Expr} {te:TE} {p pos kp cp:Pos} {j:Nat}
end
end L2
namespace L2
open PySem PySem.Spec PyProof.Rows
section
variable {prog:Program} {w:World} {A:Around} {R:Result→Shared→Prop} {I:Addr} {fp wr:List Addr} {n:Nat} {P:Nat→Value→Prop} {St:Nat→Heap→Prop} {kw:List (Str × Value)} {G:Heap→Prop}
end
section
variable {X:Cx} {e:Expr} {te:TE} {p pos kp cp:Pos} {j:Nat} {d:Int}
end

end L2
namespace HT
open PySem PySem.Spec PyProof.Rows
section
variable {prog:Program} {w:World} {A:Around} {E:Value→Shared→Prop} {s:Shared}
end
end HT
namespace L2
open PySem PySem.Spec PyProof.Rows
section
variable {X:Cx}
end
noncomputable def tTryU (K:PySem.W.Frag) (CH:Addr) (tb:XK→TS) (th:TS):TS:=fun D σ H =>
  tb (fun cls _ H'=>∃ C,cls = .ref C∧PySem.W.exmOne K (.ref C) (.ref CH)=some true∧∀ ea,H' ea=none→th D σ (upd H' ea (XO ea C))) D σ H
theorem ps_tryU {X:Cx} {body:List Stmt} {tb:XK→TS} {th:TS} {x:Str} {CH:Addr} {b₀ : Stmt} {suite:List Stmt} {np hpos pos:Pos} (hst:X.stack=X.env :: X.outer∧X.env.frame=some X.env.locals)
    (hg:Gl X x) (hm:X.mg x=some (.ref CH)) (hb:PSt X body tb)
    (hh:∀ ea:Addr,PSs (X.uncalm (X.A.mark (some (.ref ea))) fun _ _=>False) (b₀ :: suite) th) (hd:(x == ("__debug__" : Str))=false:=by decide) :
    PS X (.Try body [.ExceptHandler (some (.Name x np)) none (b₀ :: suite) hpos] [] [] pos) (tTryU X.K CH tb th):=by
  intro pins s σ H D I h
  refine wpAny_Try_except (wpAny_mono (hb _ pins s σ H D _ ?W I h) (fun f s1 q => ?_) fun _ _ z=>z)
  case W =>
    intro H0 s0 e s' I0 hx
    obtain ⟨ea,C,a0,B,H',rfl,fl,os,bare,hok,un,cov,_,_,C',hc,hex,hth⟩:=hx
    cases hc
    have hfr:X.A.frames=some (X.env :: X.outer):=by rw [I0.ok.frames,hst.1]
    have fl0:Heap.FlyingW B (X.env :: X.outer) ea (.ref C) a0 s'.heap:=by rw [← hst.1];exact fl
    refine wpAny_looks_onW hfr hst.2 fl0 fun h₄ held₄ sm₄ => ?_
    refine wpAny_landsW held₄ fun h₅ fl₅ sm₅ => ?_
    obtain ⟨o5,vs5,g1,g2,g3,_⟩:=fl₅.first
    obtain ⟨I5,hea⟩:=caught_inv (h5:=h₅) I0 fl os bare hok un cov fl₅.1 (sm₄.trans sm₅) ⟨o5,vs5,g1,g2,g3⟩
    have J5:Inv (X.uncalm (X.A.mark (some (.ref ea))) fun _ _=>False) pins σ (upd H' ea (XO ea C)) { s' with heap:=h₅ }:=I5.uncalm rfl
    refine wpAny_handleBy_cons (codeAny_handlers_test (ld_glob J5 hg hm ?_ hd)) (by intro q;cases q)
    have LT:PySem.W.Looks (model X.prog X.w) h₅ (typeOf (.ref ea)) (.ref C):=g2 ▸ (PySem.W.Looks.ld g1).andThen .now
    refine (PySem.W.exm_one (M:=model X.prog X.w) I5.kIn LT hex).at ?_
    show codeAny _ _ _ _ _
    refine codeAny_handlers_suite ?_
    refine lands_againW fl₅ fun h₆ fl₆ sm₆ => ?_
    obtain ⟨o6,vs6,j1,j2,j3,_⟩:=fl₆.first
    obtain ⟨I6,_⟩:=caught_inv (h5:=h₆) I0 fl os bare hok un cov fl₆.1 ((sm₄.trans sm₅).trans sm₆) ⟨o6,vs6,j1,j2,j3⟩
    refine wpAny_mono (hh ea pins _ _ _ _ (I6.uncalm rfl) (hth ea hea)) (fun f s8 q8 => ?_) fun _ _ z=>False.elim z
    have back:∀ {σ' H''} {s9:Shared},Inv (X.uncalm (X.A.mark (some (.ref ea))) fun _ _=>False) pins σ' H'' s9→Inv X pins σ' H'' s9:=fun J=>J.recalm I0.ok.hd rfl
    cases f with
    | next =>
      obtain ⟨σ',H'',J,q⟩:=q8
      exact ⟨_,_,back J,q⟩
    | brk =>
      obtain ⟨σ',H'',J,q⟩:=q8
      exact ⟨_,_,back J,q⟩
    | cont =>
      obtain ⟨σ',H'',J,q⟩:=q8
      exact ⟨_,_,back J,q⟩
    | ret u =>
      obtain ⟨v, σ',H'',J,r,q⟩:=q8
      exact ⟨v,_,_,back J,r,q⟩
  cases f with
  | next=>exact wpAny_execs_nil q
  | brk=>exact q
  | cont=>exact q
  | ret u=>exact q
end L2
namespace L2
open PySem PySem.Spec PyProof.Rows
section
variable {X:Cx} {scope:Scope} {y y0:Str} {caps:List (Str × Nat)} {pins:List (Addr × Obj)} {σ : St} {H:Hp} {s:Shared} {fp:List Addr}
end
end L2
namespace L2
open PySem PySem.Spec PyProof.Rows
section
variable {X:Cx}
end
end L2
namespace L2
open PySem PySem.Spec PyProof.Rows

theorem entry_unchain:entryFor table "proto.unchain" = some Builtin.«proto.unchain» := entryFor_of_tree (by kernel_rfl)
section
variable {prog:Program} {w:World} {A:Around} {E:Value→Shared→Prop} {s:Shared}
theorem unchain_off {e ha:Addr} {Q:Value→Shared→Prop} (c:Chn s.heap ha) (fr:∀ a,F2 s.heap ha (.ref a)→a≠e) (q:Q .none s):wpAny (model prog w) A (runValue (.builtin "proto.unchain" ⟨[.ref e,.ref ha,.ref ha,.bool false], []⟩)) Q E s:=by
  rcases c with c | ⟨a,na,c,c0⟩
  · obtain ⟨o,vs,g,d,z⟩:=c
    refine wpAny_runValue (codeAny_builtin entry_unchain ?_)
    unfold Builtin.«proto.unchain»
    dsimp only
    refine wpAny_bind (wpAny_field g d z ?_)
    rw [if_pos (by rfl)]
    exact wpAny_pure (a:=Fin.done (.ret .none)) q
  · have ne:=fr a c
    obtain ⟨o,vs,g,d,z⟩:=c
    obtain ⟨o2,vs2,g2,d2,z2⟩:=c0
    refine wpAny_runValue (codeAny_builtin entry_unchain ?_)
    unfold Builtin.«proto.unchain»
    dsimp only
    refine wpAny_bind (wpAny_field g d z ?_)
    rw [if_neg (by simp),if_neg (by simp [ne]),if_neg (by simp [na])]
    refine wpAny_bind (wpAny_pure ?_)
    try dsimp only
    refine wpAny_pure (a:=Fin.again (.builtin "proto.unchain" ⟨[.ref e,.ref a,.ref ha,.bool true], []⟩)) ⟨plainId_quiet (by decide +kernel) _,codeAny_builtin entry_unchain ?_⟩
    unfold Builtin.«proto.unchain»
    dsimp only
    refine wpAny_bind (wpAny_field g2 d2 z2 ?_)
    rw [if_pos (by rfl)]
    exact wpAny_pure (a:=Fin.done (.ret .none)) q
theorem raiseNew_in {α : Type} {e ha:Addr} {oe:Obj} {vs:Array Value} {Q : α → Shared→Prop} (hh:A.handled=some (.ref ha)) (ne:e≠ha) (c:Chn s.heap ha) (fr:∀ a,F2 s.heap ha (.ref a)→a≠e) (ge:s.heap.get? e=some oe) (gd:oe.data = .fields vs) (gz:2 < vs.size)
    (q:E (.ref e) { s with heap:=s.heap.update e (Obj.mapFields (·.setIfInBounds 2 (.ref ha))) }):wpAny (model prog w) A (raiseNew (.ref e):Sem α) Q E s:=by
  unfold raiseNew
  refine wpAny_bind (wpAny_handled ?_)
  rw [hh]
  dsimp only
  have hn:(Value.ref ha != Value.ref e)=true:=by simp [Ne.symm ne]
  rw [if_pos hn]
  refine wpAny_bind (wpAny_holding (unchain_off c fr ?_))
  refine wpAny_bind ?_
  show wpAny _ _ (setField (.ref e) 2 (.ref ha)) _ _ _
  exact wpAny_setField ge gd gz (wpAny_throw q)
end
section
variable {M:Model} {A:Around} {E:Value→Shared→Prop} {qn nm:Str} {N C:Addr} {bm bs:List Value} {hdct ab:Bool} {sn:List Str} {sub:List Value} {col:Option Bool} {dd:Option Addr} {k0 k1 k2 k3 k5:Option Value} {newId:String}
theorem excFrom_made {h:Heap} {g:Array GenState} {d:Drawn} {tk:Nat} {os:OsState} {e:Addr} {ar:Array Value} {msg:String} {Q:Value→Shared→Prop} (hbase:bm.contains (.type "BaseException")=true)
    (gC:h.get? C=some (excClassObj nm qn C N bs bm hdct sn sub ab col dd k0 k1 k2 k3 k5 newId)) (ge:h.get? e=some { cls := .ref C,data := .fields ar }) (q:Q (.ref e) ⟨h,g,d,tk,os⟩):wpAny M A (excFromValue (.ref e) msg) Q E ⟨h,g,d,tk,os⟩:=by
  have hcB:(Value.ref C :: bm).contains (.type "BaseException")=true:=by rw [List.contains_cons,hbase,Bool.or_true]
  unfold excFromValue
  repeat (first | wp_step | with_reducible refine wpAny_loadPart_at ge ?_ | with_reducible refine wpAny_loadPart_at gC ?_ | (with_reducible refine wpAny_isSubtype_exc gC ?_;rw [hcB]))
  exact q
end
section
variable {prog:Program} {w:World} {A:Around} {E:Value→Shared→Prop} {s:Shared} {env:Env} {qn nm:Str} {N C:Addr} {bm bs:List Value} {hdct ab:Bool} {sn:List Str} {sub:List Value} {col:Option Bool} {dd:Option Addr} {k0 k1 k2 k3 k5:Option Value} {newId:String}
theorem raise_caused {x c:Sem Value} {ha:Addr} {Q:Flow→Shared→Prop} (hbase:bm.contains (.type "BaseException")=true) (hh:A.handled=some (.ref ha)) (hc:∀ (R:Value→Shared→Prop) (s':Shared),R .none s'→wpAny (model prog w) A c R E s')
    (h:wpAny (model prog w) A x (fun v s1=>∃ e t,v = .ref e∧e≠ha∧Chn s1.heap ha∧(∀ a,F2 s1.heap ha (.ref a)→a≠e)∧s1.heap.get? C=some (excClassObj nm qn C N bs bm hdct sn sub ab col dd k0 k1 k2 k3 k5 newId)∧s1.heap.get? e=some { cls := .ref C,data := .fields #[.ref t,.none,.none,.none,.bool false,.none] } ∧
      ∀ h',(∀ b o,b≠e→s1.heap.get? b=some o→h'.get? b=some o)→h'.get? e=some { cls := .ref C,data := .fields #[.ref t,.none,.ref ha,.none,.bool true,.none] }→E (.ref e) { s1 with heap:=h' }) E s) :
    wpAny (model prog w) A (raiseStmt env (some x) (some c)) Q E s:=by
  unfold raiseStmt
  refine wpAny_bind (wpAny_mono h (fun v s1 h1 => ?_) fun _ _ z=>z)
  obtain ⟨e,t,rfl,ne,c0,fr,gC,ge,hE⟩:=h1
  obtain ⟨hp,g,d,tk,os⟩:=s1
  refine wpAny_bind (wpAny_holding (hc _ _ ?_))
  refine wpAny_bind (wpAny_pure ?_)
  try dsimp only
  refine wpAny_bind (wpAny_holding (excFrom_made hbase gC ge ?_))
  try dsimp only
  rw [if_pos (by rfl)]
  refine wpAny_bind (wpAny_pure ?_)
  have nC:e≠C:=fun z=>by rw [z,gC] at ge;have:=congrArg Obj.data (Option.some.inj ge);cases this
  refine wpAny_bind (wpAny_setField ge rfl (by simp) ?_)
  have g1:=Heap.get?_update_self (Obj.mapFields (·.setIfInBounds 3 Value.none)) ge rfl
  have o1:∀ b,b≠e→(hp.update e (Obj.mapFields (·.setIfInBounds 3 Value.none))).get? b=hp.get? b:=fun b n=>Heap.get?_update_other _ _ (Ne.symm n)
  generalize hp.update e (Obj.mapFields (·.setIfInBounds 3 Value.none))=h1 at g1 o1 ⊢
  refine wpAny_bind (wpAny_setField g1 rfl (by simp) ?_)
  have g2:=Heap.get?_update_self (Obj.mapFields (·.setIfInBounds 4 (Value.bool true))) g1 rfl
  have o2:∀ b,b≠e→(h1.update e (Obj.mapFields (·.setIfInBounds 4 (Value.bool true)))).get? b=hp.get? b:=fun b n=>(Heap.get?_update_other _ _ (Ne.symm n)).trans (o1 b n)
  try dsimp only
  generalize h1.update e (Obj.mapFields (·.setIfInBounds 4 (Value.bool true)))=h2 at g2 o2 ⊢
  have gC2:=(o2 C (Ne.symm nC)).trans gC
  have ge2:h2.get? e=some { cls := .ref C,data := .fields #[.ref t,.none,.none,.none,.bool true,.none] }:=g2
  have f2:∀ b y,b≠e→F2 hp b y→F2 h2 b y:=fun b y nb c=>by
    obtain ⟨o,vs,a1,a2,a3⟩:=c
    exact ⟨o,vs,(o2 b nb).trans a1,a2,a3⟩
  have c2:Chn h2 ha:=by
    rcases c0 with c | ⟨a,na,c,c'⟩
    · exact .inl (f2 _ _ (Ne.symm ne) c)
    · exact .inr ⟨a,na,f2 _ _ (Ne.symm ne) c,f2 _ _ (fr a c) c'⟩
  have fr2:∀ a,F2 h2 ha (.ref a)→a≠e:=fun a c=>fr a (by
    obtain ⟨o,vs,a1,a2,a3⟩:=c
    exact ⟨o,vs,(o2 ha (Ne.symm ne)).symm.trans a1,a2,a3⟩)
  repeat (first | with_reducible refine wpAny_loadPart_at ge2 ?_ | with_reducible refine wpAny_loadPart_at gC2 ?_ | wp_step)
  refine raiseNew_in hh ne c2 fr2 ge2 rfl (by simp) (hE _ (fun b o n q => ?_) ?_)
  · exact (Heap.get?_update_other _ _ (Ne.symm n)).trans ((o2 b n).trans q)
  · exact Heap.get?_update_self (Obj.mapFields (·.setIfInBounds 2 (Value.ref ha))) ge2 rfl
end
structure NewX (h h':Heap) (e C ha:Addr):Prop where
  ctx:F2 h' e (.ref ha)
  keeps:∀ b o,h.get? b=some o→h'.get? b=some o
  new:h.get? e=none
  there:∃ oe vs a0,h'.get? e=some oe∧oe.cls = .ref C∧oe.data = .fields vs∧vs[1]? = some .none∧vs[0]? = some a0
section
variable {prog:Program} {w:World} {A:Around} {E:Value→Shared→Prop} {s:Shared} {env:Env} {qn nm:Str} {N C:Addr} {bm bs bmB:List Value} {hdct ab:Bool} {sn:List Str} {sub:List Value} {col:Option Bool} {dd:Option Addr} {k0 k1 k2 k3 k5:Option Value} {B newId initId:String}
theorem raise_call_caused (F:ExcBaseFacts B newId initId bmB) {mN:Str→Option Value} {x:Str} {np cpos pos npos:Pos} {j:Nat} {args:List Expr} {Q:Flow→Shared→Prop} {ha:Addr} (hbase:bm.contains (.type "BaseException")=true) (hh:A.handled=some (.ref ha))
    (hpl:(backTo cpos (starEach args env)).any (·.1)=false) (hni:mN "__init__" = none)
    (h:wpAny (model prog w) A (eval (.Name x np) env) (fun f s1=>f = .ref C∧wpAny (model prog w) A (evalArgs (.ref C) true (backTo cpos (starEach args env)) []) (fun a s2=>a.kw = []∧a.pos.length≤sizeLine∧s2.heap.get? C=some (excClassObj nm qn C N bs bm hdct sn sub ab col dd k0 k1 k2 k3 k5 newId)∧s2.heap.Ns N mN∧OwnTail s2.heap bmB bm ∧
      Chn s2.heap ha∧∀ h' e,NewX s2.heap h' e C ha→E (.ref e) { s2 with heap:=h' }) E s1) E s) :
    wpAny (model prog w) A (exec (.Raise (some (.Call (.Name x np) args [] cpos)) (some (.Constant .none j npos)) pos) env) Q E s:=by
  rw [arm_exec_Raise]
  refine wpAny_bind (wpAny_standAt ?_)
  refine raise_caused (C:=C) (nm:=nm) (qn:=qn) (N:=N) (bs:=bs) (bm:=bm) (hdct:=hdct) (sn:=sn) (sub:=sub) (ab:=ab) (col:=col) (dd:=dd) (k0:=k0) (k1:=k1) (k2:=k2) (k3:=k3) (k5:=k5) (newId:=newId) (x:=do let v ← eval (.Call (.Name x np) args [] cpos) env;standAt pos;pure v) (c:=do let v ← eval (.Constant .none j npos) env;standAt pos;pure v) hbase hh
    (fun R s' r=>wpAny_bind (Constant_none (wpAny_bind (wpAny_standAt (wpAny_pure r))))) (wpAny_bind (wpAny_mono (wpAny_Call_ofName (wpAny_mono h (fun f s1 h1 => ?_) fun _ _ z=>z)) (fun v s3 h3=>wpAny_bind (wpAny_standAt (wpAny_pure h3))) fun _ _ z=>z))
  obtain ⟨rfl,h1⟩:=h1
  unfold callWith
  refine wpAny_bind (wpAny_holding (wpAny_mono h1 (fun a s2 h2=>wpAny_bind (wpAny_standAt ?_)) fun _ _ z=>z))
  obtain ⟨ap,ak⟩:=a
  obtain ⟨rfl,hl,gC,gN,T,c0,k⟩:=h2
  obtain ⟨hp,g,d,tk,os⟩:=s2
  simp only [hpl]
  refine wpAny_bind (wpAny_keeperOf_exc gC ?_)
  refine wpAny_bind (wpAny_call_exc_subT (hrest:=hl) F T gC gN hni fun h' e m=>wpAny_bind (wpAny_holding (wpAny_point (wpAny_pure ?_))))
  obtain ⟨t,gt,_,_⟩:=m.there
  have nf:∀ b y,F2 hp b y→e≠b:=fun b y c z=>by
    obtain ⟨o,vs,a1,_,_⟩:=c
    rw [← z,m.new] at a1
    cases a1
  have kf:∀ b y,F2 hp b y→F2 h' b y:=fun b y c=>by
    obtain ⟨o,vs,a1,a2,a3⟩:=c
    exact ⟨o,vs,m.keeps _ _ a1,a2,a3⟩
  have hf:∃ y,F2 hp ha y:=by
    rcases c0 with c | ⟨a,_,c,_⟩
    · exact ⟨_,c⟩
    · exact ⟨_,c⟩
  obtain ⟨y0,hf⟩:=hf
  have ne:e≠ha:=nf ha y0 hf
  have un:∀ y,F2 h' ha y→y=y0:=fun y c=>by
    obtain ⟨o,vs,a1,a2,a3⟩:=c
    obtain ⟨o',vs',b1,b2,b3⟩:=kf _ _ hf
    rw [a1] at b1
    cases b1
    rw [a2] at b2
    cases b2
    rw [a3] at b3
    exact Option.some.inj b3
  have cn:Chn h' ha∧∀ a,F2 h' ha (.ref a)→a≠e:=by
    rcases c0 with c | ⟨a,na,c,c'⟩
    · refine ⟨.inl (kf _ _ c),fun a z => ?_⟩
      have:=(un _ (kf _ _ c)).trans (un _ z).symm
      cases this
    · refine ⟨.inr ⟨a,na,kf _ _ c,kf _ _ c'⟩,fun b z => ?_⟩
      have e1:=(un _ (kf _ _ c)).trans (un _ z).symm
      cases e1
      exact Ne.symm (nf _ _ c')
  refine ⟨e,t,rfl,ne,cn.1,cn.2,m.keeps _ _ gC,gt,fun h2 kp go=>k h2 e ⟨⟨_,_,go,rfl,rfl⟩,fun b o q=>kp b o (fun z=>by rw [z,m.new] at q;cases q) (m.keeps b o q),m.new,_,_,_,go,rfl,rfl,rfl,rfl⟩⟩
end
section
variable {M:Model} {A:Around} {E:Value→Shared→Prop} {s:Shared}
theorem flight_at {base:Heap} {l:List Env} {e L:Addr} {cls a0:Value} {Q:Unit→Shared→Prop} (hh:Heap.HeldW base l e cls a0 L s.heap)
    (k:∀ h',Heap.HeldW base l e cls a0 L h'→s.heap.UpToSlots h'→(∀ y,F2 s.heap e y→F2 h' e y)→Q () { s with heap:=h' }):wpAny M A (setFlight (.ref e) (some L)) Q E s:=by
  obtain ⟨kb,be,ff,oe,vs,Tr,oT,ts,ge,gc,gd,g1,bT,nTe,gT,dT,g3⟩:=hh
  have z3:=(Array.getElem?_eq_some_iff.mp g3).1
  have ot:∀ b,b≠Tr→(s.heap.update Tr (Obj.mapFields (·.setIfInBounds 3 ((some L).elim Value.none fun f=>rawInt f)))).get? b=s.heap.get? b:=fun b n=>Heap.get?_update_other _ _ (Ne.symm n)
  have nr:∀ b o,s.heap.get? b=some o→(∀ ws,o.data ≠ .fields ws)→b≠Tr:=fun b o q nf z=>by
    rw [z,gT] at q
    cases q
    exact nf ts dT
  unfold setFlight
  refine wpAny_bind (wpAny_field ge gd g1 ?_)
  rw [if_pos (show (Value.ref Tr != Value.none)=true by simp)]
  refine wpAny_setField gT dT z3 (k _ ⟨fun b o q=>(ot b fun z=>by rw [z,bT] at q;cases q).trans (kb b o q),be,ff.of_keeps fun b o q nf=>⟨o,(ot b (nr b o q nf)).trans q,rfl⟩,?_⟩ (fun b o q nf=>⟨o.slots,(ot b (nr b o q nf)).trans q⟩) fun y c=>c.other nTe)
  exact ⟨oe,vs,Tr,_,_,(ot e (Ne.symm nTe)).trans ge,gc,gd,g1,bT,nTe,Heap.get?_update_self _ gT (Obj.isFreed_of_fields (Obj.data_mapFields dT _)),Obj.data_mapFields dT _,by simp [z3]⟩
theorem leave_held {base:Heap} {env:Env} {outer:List Env} {L e:Addr} {cls a0:Value} {Q:Unit→Shared→Prop} (fL:env.frame=some L) (hh:Heap.HeldW base (env :: outer) e cls a0 L s.heap)
    (k:∀ h',Heap.FlyingW base outer e cls a0 h'→s.heap.UpToSlots h'→(∀ y,F2 s.heap e y→F2 h' e y)→Q () { s with heap:=h' }):wpAny M A (leaving env (.ref e)) Q E s:=by
  unfold leaving
  refine wpAny_bind (wpAny_noteFrame_againW fL hh.2.2.2 ?_)
  obtain ⟨n1,n2,n3,n4⟩:=hh
  refine flight_off n1 n2 n3 n4 fun h2 f2 sl2 c2 => ?_
  obtain ⟨m1,m2,⟨_,_,m3⟩,m4⟩:=f2
  exact k h2 ⟨m1,m2,m3,m4⟩ sl2 c2
theorem came_back {base:Heap} {env:Env} {l:List Env} {L e:Addr} {cls a0:Value} (fL:env.frame=some L) (hh:Heap.HeldW base l e cls a0 L s.heap)
    (k:∀ h',Heap.HeldW base l e cls a0 L h'→s.heap.UpToSlots h'→(∀ y,F2 s.heap e y→F2 h' e y)→E (.ref e) { s with heap:=h' }):cameBackBy M A env E (.ref e) s:=by
  obtain ⟨oe,vs,Tr,oT,ts,ge,gc,gd,g1,_⟩:=id hh.2.2.2
  unfold cameBackBy
  refine wpAny_bind (wpAny_field ge gd g1 ?_)
  rw [if_neg (show ¬ ((Value.ref Tr == Value.none)=true) by simp),fL]
  first
    | exact flight_at hh k
    | exact wpAny_bind (wpAny_pure (flight_at hh k))
end
end L2
namespace L2
open PySem PySem.Spec PyProof.Rows

noncomputable def XCm (ea C:Addr) (m:Option Addr):HO := .ext fun h=>∃ o vs,h.get? ea=some o∧o.cls = .ref C∧o.data = .fields vs∧vs[2]? = some (ctxV m)
noncomputable def ChO (H:Hp) (ea:Addr):Prop:=(∃ C,H ea=some (XCm ea C none))∨∃ C a C',a≠ea∧H ea=some (XCm ea C (some a))∧H a=some (XCm a C' none)
noncomputable def XH (X:Cx) (ea:Addr):Value→Shared→Prop:=notedBy (model X.prog X.w) (X.A.mark (some (.ref ea))) X.env fun x s2=>cameBackBy (model X.prog X.w) X.A X.env X.xe x s2
noncomputable abbrev Cx.hdl (X:Cx) (ea:Addr):Cx:=X.uncalm (X.A.mark (some (.ref ea))) (XH X ea)
noncomputable def FliesN (X:Cx) (ea C:Addr) (E:XK):Prop := ∀ (pins:List (Addr × Obj)) (σ : St) (H:Hp) (s:Shared) (h':Heap) (e:Addr),Inv (X.hdl ea) pins σ H s→NewX s.heap h' e C ea→E (.ref C) (some ea) H→XH X ea (.ref e) { s with heap:=h' }
section
variable {P:Program} {w:World} {K:PySem.W.Frag} {mg:Str→Option Value} {base:Heap} {N:List Str} {qual:Str} {scope:Scope} {f:Addr} {cdv:Value} {A:Around} {outer:List Env} {s0:Shared} {H0:Hp} {E:XK} {ea C:Addr}
theorem fliesN:FliesN (cxOf (CXE P w) P w K mg base N qual scope f cdv A outer s0 H0 E) ea C E:=by
  intro pins σ H s h' e I nx q
  have fr:s.heap.FunFrames base (envOfC qual scope s0.heap.objs.size f cdv :: outer):=I.stack
  have sf:∀ b∈frs (envOfC qual scope s0.heap.objs.size f cdv :: outer),H b=none:=I.stkFree
  have hin:∀ env∈(envOfC qual scope s0.heap.objs.size f cdv :: outer),∀ b,env.frame=some b→b∈frs (envOfC qual scope s0.heap.objs.size f cdv :: outer):=fun env he b hb=>List.mem_filterMap.mpr ⟨env,he,hb⟩
  have es:frs (envOfC qual scope s0.heap.objs.size f cdv :: outer)=s0.heap.objs.size :: frs outer:=stack_frs rfl
  obtain ⟨oe,vs,a0,ge,gc,gd,g1,g0⟩:=nx.there
  have ff:=(PySem.W.funFrames_hide fr hin).of_keeps (h':=h') fun b o z _=>⟨o,nx.keeps b o z,rfl⟩
  have kb:(PySem.W.hideAll s.heap (frs (envOfC qual scope s0.heap.objs.size f cdv :: outer))).StaysIn h':=fun b o z=>nx.keeps b o (PySem.W.of_hideAll _ z)
  have be:(PySem.W.hideAll s.heap (frs (envOfC qual scope s0.heap.objs.size f cdv :: outer))).get? e=none:=by
    cases z:(PySem.W.hideAll s.heap (frs (envOfC qual scope s0.heap.objs.size f cdv :: outer))).get? e with
    | none=>rfl
    | some o=>have:=PySem.W.of_hideAll _ z;rw [nx.new] at this;cases this
  show wpAny _ _ (noteFrame _ _) _ _ _
  refine note_new (s := { s with heap:=h' }) (a0:=a0) I.ok.frames ff rfl ge kb be gd g1 g0 fun h1 hh sl1 c1 => ?_
  rw [gc] at hh
  refine came_back (s := { s with heap:=h1 }) rfl hh fun h2 hh2 sl2 c2 => ?_
  show wpAny _ _ (leaving _ _) _ _ _
  refine leave_held (s := { s with heap:=h2 }) rfl hh2 fun h3 x1 sl3 c3 => ?_
  have x4:=(sl1.trans sl2).trans sl3
  have cov:∀ b o,s.heap.get? b=some o→b ∉ s0.heap.objs.size :: frs outer→(PySem.W.hideAll s.heap (frs (envOfC qual scope s0.heap.objs.size f cdv :: outer))).get? b=some o:=fun b o z hb=>PySem.W.hideAll_get _ z (by rw [es];exact hb)
  have Ib:Un (frs outer) [] H0 H s0.heap s.heap:=I.base
  refine ⟨e,C,a0,_,H,rfl,x1,I.os,I.bare,HOk.part I.hok fun b u v z1 z2=>PySem.W.hideAll_get _ z2 fun hm => ?_,?_,?_,some ea,c3 _ (c2 _ (c1 _ nx.ctx)),q⟩
  · rw [sf b hm] at z1;cases z1
  · refine Un.fly (h:=s.heap) (h1:=h') (L:=s0.heap.objs.size) Ib (Un.kept nx.keeps) (Heap.get?_none_of_le (Nat.le_refl _)) (fun b o z hb=>⟨o,cov b o z hb⟩) (fun b o z=>nx.keeps _ _ (PySem.W.of_hideAll _ z)) x1.1 x4 fun b hb => ?_
    obtain ⟨_,o,z,d⟩:=fr.mem (b:=b) (by show b∈frs _;rw [es];exact List.mem_cons_of_mem _ hb)
    exact ⟨o,nx.keeps _ _ z,d⟩
  · intro b o z hb
    obtain ⟨o1,z1⟩:=Ib.there b o z (by simp)
    refine ⟨o1,cov b o1 z1 fun hm => ?_⟩
    rcases List.mem_cons.mp hm with y | y
    · rw [y,Heap.get?_none_of_le (Nat.le_refl _)] at z;cases z
    · exact hb y
end
inductive J_tRaiseN (ea C:Addr) (E:XK) (vs:List V) (H1:Hp):Prop
  | mk (z0:vs.length≤sizeLine) (z1:ChO H1 ea) (z2:E (.ref C) (some ea) H1):J_tRaiseN ea C E vs H1
noncomputable def tRaiseN (C:Addr) (E:XK) (t:TA) (ea:Addr):TS:=fun _ σ H=>t σ H fun vs H1=>J_tRaiseN ea C E vs H1
theorem ps_raiseN {X:Cx} {ea C:Addr} {x:Str} {E:XK} {e₀ : Expr} {rest:List Expr} {t:TA} {np cpos pos npos:Pos} {j:Nat} (O:Exc X.K X.mg x C) (F:FliesN X ea C E) (ha:PA (X.hdl ea) (e₀ :: rest) t) (hg:Gl X x)
    (he:starEach (e₀ :: rest) X.env=(false,eval e₀ X.env) :: starEach rest X.env:=by rfl) (hplain:(backTo cpos (starEach rest X.env)).any (·.1)=false:=by rfl) (hd:(x == ("__debug__" : Str))=false:=by decide) :
    PS (X.hdl ea) (.Raise (some (.Call (.Name x np) (e₀ :: rest) [] cpos)) (some (.Constant .none j npos)) pos) (tRaiseN C E t ea):=by
  intro pins s σ H D I h
  obtain ⟨tl,N,nm,q,bs,hdct,sn,sub,ab,col,dd,k0,k1,k2,k3,k5,mN,hC,hN,hni,T⟩:=(O.own I.ok.mod.kin).obj
  refine raise_call_caused (C:=C) (nm:=nm) (qn:=q) (N:=N) (bs:=bs) (bm:=tl) (hdct:=hdct) (sn:=sn) (sub:=sub) (ab:=ab) (col:=col) (dd:=dd) (k0:=k0) (k1:=k1) (k2:=k2) (k3:=k3) (k5:=k5)
    PySem.F.excBase_ValueError (mN:=mN) (ha:=ea) (T.hasType PySem.F.excBase_ValueError.hasBase) rfl (by rw [he];show (false || (backTo cpos (starEach rest X.env)).any (·.1))=false;rw [hplain];rfl) hni (ld_glob I hg O.glob ⟨rfl,?_⟩ hd)
  have h₂ := ha cpos pins s σ H _ I h
  have he':starEach (e₀ :: rest) (X.hdl ea).env=(false,eval e₀ (X.hdl ea).env) :: starEach rest (X.hdl ea).env:=he
  rw [he'] at h₂ ⊢
  refine Calls.evalArgs_plain (wpAny_mono h₂ (fun vs s₂ ⟨xs,H1,I1,r,hl,hx,hq⟩ => ?_) fun _ _ y=>y)
  have one:∀ {b CC:Addr} {m:Option Addr},H1 b=some (XCm b CC m)→F2 s₂.heap b (ctxV m):=fun {b CC m} hb=>by
    obtain ⟨⟨o,ws,a1,_,a3,a4⟩,_⟩:=(show ObjOk X.prog X.w H1 s₂.heap b (XCm b CC m) from I1.hok b _ hb)
    exact ⟨o,ws,a1,a3,a4⟩
  have cn:Chn s₂.heap ea:=by
    rcases hx with ⟨CC,hx⟩ | ⟨CC,a,CC',na,h1,h2⟩
    · exact .inl (one hx)
    · exact .inr ⟨a,na,one h1,one h2⟩
  exact ⟨rfl,by rw [← r.length];exact hl,I1.bk _ _ hC,hN.keeps I1.bk,T.keeps I1.bk,cn,fun h' e hm=>F pins σ H1 s₂ h' e I1 hm hq⟩
section
variable {X:Cx} {pins:List (Addr × Obj)} {σ : St} {H0 H':Hp} {s0 s':Shared} {ea C:Addr} {a0:Value} {B h5:Heap} {m:Option Addr}
theorem caught_invC (I:Inv X pins σ H0 s0) (fl:Heap.FlyingW B X.stack ea (.ref C) a0 s'.heap) (os:s'.os=s0.os) (bare:AllBare s'.gens) (hok:HOk X.prog X.w H' B) (un:Un (frs X.stack) [] H0 H' s0.heap s'.heap)
    (cov:∀ b o,s0.heap.get? b=some o→b ∉ frs X.stack→∃ o',B.get? b=some o') (k5:∀ b o,B.get? b=some o→h5.get? b=some o) (sl:s'.heap.UpToSlots h5) (he:∃ o vs,h5.get? ea=some o∧o.cls = .ref C∧o.data = .fields vs∧vs[2]? = some (ctxV m)) :
    Inv X pins σ (upd H' ea (XCm ea C m)) { s' with heap:=h5 }∧H' ea=none:=by
  have hn:H' ea=none:=hok.notThere fl.2.1
  have fm:∀ b∈frs X.stack,∃ o,s'.heap.get? b=some o∧∀ vs,o.data ≠ .fields vs:=fun b hb=>(fl.2.2.1.mem hb).2
  obtain ⟨oe,vs,h1,h2,h3,h4⟩:=he
  have new:s0.heap.get? ea=none:=by
    cases q:s0.heap.get? ea with
    | none=>rfl
    | some o =>
      by_cases hb:ea∈frs X.stack
      · obtain ⟨ob,q3,d⟩:=fm ea hb
        obtain ⟨s4,q4⟩:=sl ea _ q3 d
        rw [h1] at q4
        cases q4
        exact absurd h3 (d vs)
      · obtain ⟨o',e⟩:=cov ea o q hb
        rw [fl.2.1] at e;cases e
  refine ⟨Inv.call' (s' := { s' with heap:=h5 }) I os ((un.on cov fl.1 k5 sl fm).more new hn) ?_ bare (fun b z=>absurd z (by simp)),hn⟩
  intro b u e
  have tup:∀ c xs,H' c=some (.tup xs)→upd H' ea (XCm ea C m) c=some (.tup xs):=fun c xs z=>by rw [upd_ne (ne_of_none z hn)];exact z
  have own:∀ c y,H' c=some (.own y)→upd H' ea (XCm ea C m) c=some (.own y):=fun c y z=>by rw [upd_ne (ne_of_none z hn)];exact z
  by_cases hb:b=ea
  · subst hb
    rw [upd_same] at e
    cases e
    exact ⟨⟨oe,vs,h1,h2,h3,h4⟩,⟨oe,h1⟩,fun g1 g2 ⟨o,ws,z1,z2⟩ k=>⟨o,ws,k o z1,z2⟩⟩
  · rw [upd_ne hb] at e
    exact (hok b u e).stay (fun c v hc q=>k5 _ _ q) (fun c z=>own c b z) tup
end
noncomputable def tTryR (K:PySem.W.Frag) (CH:Addr) (tb:XK→TS) (th:Addr→TS):TS:=fun D σ H =>
  tb (fun cls m H'=>∃ C,cls = .ref C∧PySem.W.exmOne K (.ref C) (.ref CH)=some true∧∀ ea,H' ea=none→th ea D σ (upd H' ea (XCm ea C m))) D σ H
theorem ps_tryR {X:Cx} {body:List Stmt} {tb:XK→TS} {th:Addr→TS} {x:Str} {CH:Addr} {b₀ : Stmt} {suite:List Stmt} {np hpos pos:Pos} (hst:X.stack=X.env :: X.outer∧X.env.frame=some X.env.locals)
    (hg:Gl X x) (hm:X.mg x=some (.ref CH)) (hb:PSt X body tb) (hh:∀ ea:Addr,PSs (X.hdl ea) (b₀ :: suite) (th ea)) (hd:(x == ("__debug__" : Str))=false:=by decide) :
    PS X (.Try body [.ExceptHandler (some (.Name x np)) none (b₀ :: suite) hpos] [] [] pos) (tTryR X.K CH tb th):=by
  intro pins s σ H D I h
  refine wpAny_Try_except (wpAny_mono (hb _ pins s σ H D _ ?W I h) (fun f s1 q => ?_) fun _ _ z=>z)
  case W =>
    intro H0 s0 e s' I0 hx
    obtain ⟨ea,C,a0,B,H',rfl,fl,os,bare,hok,un,cov,m,c0,C',hc,hex,hth⟩:=hx
    cases hc
    have hfr:X.A.frames=some (X.env :: X.outer):=by rw [I0.ok.frames,hst.1]
    have fl0:Heap.FlyingW B (X.env :: X.outer) ea (.ref C) a0 s'.heap:=by rw [← hst.1];exact fl
    refine note_on hfr hst.2 fl0 fun h₄ held₄ sm₄ c4 => ?_
    obtain ⟨p1,p2,p3,p4⟩:=held₄
    refine flight_off (s := { s' with heap:=h₄ }) p1 p2 p3 p4 fun h₅ fl₅ sm₅ c5 => ?_
    have c05:=c5 _ (c4 _ c0)
    obtain ⟨o5,vs5,g1,g2,g3,_⟩:=fl₅.first
    have two:∀ {h:Heap} {o:Obj} {vs:Array Value},h.get? ea=some o→o.cls = .ref C→o.data = .fields vs→F2 h ea (ctxV m)→∃ o vs,h.get? ea=some o∧o.cls = .ref C∧o.data = .fields vs∧vs[2]? = some (ctxV m):=fun {h o vs} q1 q2 q3 c=>by
      obtain ⟨o',vs',r1,r2,r3⟩:=c
      rw [q1] at r1
      cases r1
      exact ⟨o,vs',q1,q2,r2,r3⟩
    obtain ⟨I5,hea⟩:=caught_invC (h5:=h₅) I0 fl os bare hok un cov fl₅.1 (sm₄.trans sm₅) (two g1 g2 g3 c05)
    have J5:Inv (X.hdl ea) pins σ (upd H' ea (XCm ea C m)) { s' with heap:=h₅ }:=I5.uncalm rfl
    refine wpAny_handleBy_cons (codeAny_handlers_test (ld_glob J5 hg hm ?_ hd)) (by intro q;cases q)
    have LT:PySem.W.Looks (model X.prog X.w) h₅ (typeOf (.ref ea)) (.ref C):=g2 ▸ (PySem.W.Looks.ld g1).andThen .now
    refine (PySem.W.exm_one (M:=model X.prog X.w) I5.kIn LT hex).at ?_
    show codeAny _ _ _ _ _
    refine codeAny_handlers_suite ?_
    refine flight_off (s := { s' with heap:=h₅ }) fl₅.1 fl₅.2.1 fl₅.2.2.1 fl₅.2.2.2 fun h₆ fl₆ sm₆ c6 => ?_
    obtain ⟨o6,vs6,j1,j2,j3,_⟩:=fl₆.first
    obtain ⟨I6,_⟩:=caught_invC (h5:=h₆) I0 fl os bare hok un cov fl₆.1 ((sm₄.trans sm₅).trans sm₆) (two j1 j2 j3 (c6 _ c05))
    refine wpAny_mono (hh ea pins _ _ _ _ (I6.uncalm rfl) (hth ea hea)) (fun f s8 q8 => ?_) fun _ _ z=>z
    have back:∀ {σ' H''} {s9:Shared},Inv (X.hdl ea) pins σ' H'' s9→Inv X pins σ' H'' s9:=fun J=>J.recalm I0.ok.hd rfl
    cases f with
    | next =>
      obtain ⟨σ',H'',J,q⟩:=q8
      exact ⟨_,_,back J,q⟩
    | brk =>
      obtain ⟨σ',H'',J,q⟩:=q8
      exact ⟨_,_,back J,q⟩
    | cont =>
      obtain ⟨σ',H'',J,q⟩:=q8
      exact ⟨_,_,back J,q⟩
    | ret u =>
      obtain ⟨v, σ',H'',J,r,q⟩:=q8
      exact ⟨v,_,_,back J,r,q⟩
  cases f with
  | next=>exact wpAny_execs_nil q
  | brk=>exact q
  | cont=>exact q
  | ret u=>exact q
section
variable {X:Cx} {k k':Nat} {m:Str} {C:Addr} {ps:List Str} {dvs:List V} {sp:Sp} {pos apos:Pos} {e o:Expr} {es:List Expr} {ta:TE} {t:TA} {pl:Sem Bool}
theorem pet_meth {f:Addr} {fd:FuncData} {ds:List Value} (he:PE X.nox o ta) (c:Cls X.K C) (hm:Meth X.K C m f) (F:FnOk X.prog X.w X.K X.mg X.base (CXE X.prog X.w) k f fd ps sp) (hr:Room k X.A) (hb:Binds X.K fd ps ds) (hd:Vals dvs ds) (ha:PA X.nox (e :: es) t)
    (hst:starEach (e :: es) X.env=(false,eval e X.env) :: starEach es X.env:=by rfl) (hpl:(backTo pos (starEach es X.env)).any (·.1)=false:=by rfl)
    (ht:eval (.Call (.Attribute o m apos) (e :: es) [] pos) X.env=(do
      let ov ← eval o X.env
      standAt apos.atName
      let (f,first) ← holding [ov] (getMethod ov m pl)
      callWith pos f first (backTo pos (starEach (e :: es) X.env)) (backToKw pos (keywordEach [] X.env))):=by rfl) :
    PEt X (.Call (.Attribute o m apos) (e :: es) [] pos) (fun E=>tMeth C m sp dvs E ta t):=by
  intro E pins s σ H Q xe W I h
  refine PySem.W.methodCall_KW (pl:=pl) (wpAny_mono (he pins s σ H _ (I.wish _) h) (fun u s1 ⟨x,H1,I1,rx,a,dx,fs,ex,ea,l,q⟩ => ?_) fun _ _ z=>False.elim z) ht
  subst ex
  have I1:=I1.unwish
  obtain rfl:u=Value.ref a:=rx
  refine getmeth_ok I1 ea c hm l ?_
  refine PySem.W.callWith_K (first := [.ref a]) (h₀ := X.base) I.ok.mod.kin hm.kp (wpAny_mono (ha pos pins s1 σ H1 _ (I1.wish _) q) (fun us s2 ⟨vs,H2,I2,r,q2⟩=>⟨I2.unwish.kIn,?_⟩) fun _ _ z=>False.elim z) hst hpl
  exact run_fnX (us := .ref a :: us) (vs := .ref a :: vs) F hr hb hd I2.unwish (fun e s' hq=>W H2 s2 e s' I2.unwish hq) (.cons rfl r) q2
theorem pet_mE (h:HasM X.prog X.w X.K X.mg X.base k C m ps sp) (c:Cls X.K C) (hr:Room k' X.A) (hk:k≤k') (he:PE X.nox o ta) (ha:PA X.nox (e :: es) t)
    (hst:starEach (e :: es) X.env=(false,eval e X.env) :: starEach es X.env:=by rfl) (hpl:(backTo pos (starEach es X.env)).any (·.1)=false:=by rfl)
    (ht:eval (.Call (.Attribute o m apos) (e :: es) [] pos) X.env=(do
      let ov ← eval o X.env
      standAt apos.atName
      let (f,first) ← holding [ov] (getMethod ov m pl)
      callWith pos f first (backTo pos (starEach (e :: es) X.env)) (backToKw pos (keywordEach [] X.env))):=by rfl) :
    PEt X (.Call (.Attribute o m apos) (e :: es) [] pos) (fun E=>tMeth C m sp [] E ta t):=by
  obtain ⟨f,fd,F,hm,hb⟩:=h.ex
  exact pet_meth he c hm F (hr.mono hk) hb .nil ha hst hpl ht
theorem pst_ret {te:XK→TE} {rpos:Pos} (he:PEt X e te):PSt X [.Return (some e) rpos] (fun E=>tRet (te E)):=by
  intro E pins s σ H D xe W I h
  exact wpAny_execs_cons (wpAny_Return_some (thn (he E pins s σ H _ xe W I h) fun v s1 ⟨x,H1,I1,r1,q1⟩=>⟨x, σ,H1,I1,r1,q1⟩))
end
structure HasMN (P:Program) (w:World) (K:PySem.W.Frag) (mg:Str→Option Value) (base:Heap) (k:Nat) (C:Addr) (m:Str) (ps:List Str) (sp:Sp):Prop where
  ex:∃ f fd,FnN P w K mg base k f fd ps sp∧Meth K C m f∧Binds K fd ps []
theorem pe_mN {X:Cx} {k k':Nat} {m:Str} {C:Addr} {ps:List Str} {sp:Sp} {pos apos:Pos} {e o:Expr} {es:List Expr} {ta:TE} {t:TA} {pl:Sem Bool} (h:HasMN X.prog X.w X.K X.mg X.base k C m ps sp) (c:Cls X.K C) (hr:RoomN k' X.A) (hk:k≤k') (he:PE X o ta) (ha:PA X (e :: es) t)
    (hst:starEach (e :: es) X.env=(false,eval e X.env) :: starEach es X.env:=by rfl) (hpl:(backTo pos (starEach es X.env)).any (·.1)=false:=by rfl)
    (ht:eval (.Call (.Attribute o m apos) (e :: es) [] pos) X.env=(do
      let ov ← eval o X.env
      standAt apos.atName
      let (f,first) ← holding [ov] (getMethod ov m pl)
      callWith pos f first (backTo pos (starEach (e :: es) X.env)) (backToKw pos (keywordEach [] X.env))):=by rfl) :
    PE X (.Call (.Attribute o m apos) (e :: es) [] pos) (tMeth C m sp [] E0 ta t):=by
  obtain ⟨f,fd,F,hm,hb⟩:=h.ex
  intro pins s σ H Q I h
  refine PySem.W.methodCall_KW (pl:=pl) (thn (he pins s σ H _ I h) fun u s1 ⟨x,H1,I1,rx,a,dx,fs,ex,ea,l,q⟩ => ?_) ht
  subst ex
  obtain rfl:u=Value.ref a:=rx
  refine getmeth_ok I1 ea c hm l ?_
  refine PySem.W.callWith_K (first := [.ref a]) (h₀ := X.base) I.ok.mod.kin hm.kp (thn (ha pos pins s1 σ H1 _ I1 q) fun us s2 ⟨vs,H2,I2,r,q2⟩=>⟨I2.kIn,?_⟩) hst hpl
  have q3:sp (.ref a :: (vs ++ [])) H2 Q E0:=q2
  rw [List.append_nil] at q3
  have r3:Vals (.ref a :: vs) (.ref a :: us) := .cons rfl r
  have hl:(Value.ref a :: us).length=ps.length:=by rw [← r3.length];exact F.len _ _ _ _ q3
  have hb':=hb s2 (.ref a :: us) I2.kIn (by rw [List.append_nil];exact hl)
  rw [List.append_nil] at hb'
  refine wpAny_call (codeAny_mono (F.run X.A X.stack s2 H2 ⟨.ref a :: us, []⟩ (.ref a :: us) (.ref a :: vs) Q (hr.mono hk) I2.env0 hb' r3 q3) fun r s' hq => ?_)
  cases r with
  | error e=>exact False.elim hq
  | ok fl =>
    cases fl with
    | ret u=>exact I2.after hq
    | next=>exact False.elim hq
    | brk=>exact False.elim hq
    | cont=>exact False.elim hq
theorem un10N {k:Nat} {A:Around} (r:RoomN k A):A.units+10 < cLine:=by have:=r.un;omega
theorem DefM.hasN {P:Program} {w:World} {K:PySem.W.Frag} {mg:Str→Option Value} {base:Heap} {m qual:Str} {C:Addr} {st:Stmt} {N ps:List Str} {k:Nat} {sp:Sp} (D:DefM K C m qual st ps) (S:FnScope N ps (defScope st)) (len:∀ vs H Q E,sp vs H Q E→vs.length=ps.length)
    (hbody:∀ (f:Addr) (cdv:Value) (A:Around) (outer:List Env) (s:Shared) (H:Hp) (vs:List V) (Q:VK),RoomN k (A.deeper (envOfC qual (defScope st) s.heap.objs.size f cdv))→sp vs H Q E0 →
      ∃ t,PSs ((cxOf CX0 P w K mg base N qual (defScope st) f cdv { A with handled:=none } outer s H E0).uncalm (A.deeper (envOfC qual (defScope st) s.heap.objs.size f cdv)) fun _ _=>False) (defBody st) t∧t { nx:=fun _ H'=>Q .non H',rt:=Q } (start N vs) H):HasMN P w K mg base (k+1) C m ps sp:=by
  obtain ⟨f,fd,F,hm,hb⟩:=D.ex
  exact ⟨f,fd,fn_N F S len (hbody f),hm,hb⟩
end L2
namespace L2
open PySem PySem.Spec PyProof.Rows

theorem erase_key {α β : Type} [DecidableEq α] {k : α}:∀ {xs:List (α × β)} {j:Nat} {p : β},(xs.map (·.1)).Nodup→xs[j]? = some (k,p)→xs.eraseIdx j=xs.filter fun x => !decide (x.1=k)
  | [],j,p,_,h=>by simp at h
  | x :: xs,0,p,hn,h=>by
    rw [List.getElem?_cons_zero] at h
    cases h
    rw [List.eraseIdx_cons_zero,List.filter_cons,if_neg (by simp)]
    rw [List.map_cons,List.nodup_cons] at hn
    refine (List.filter_eq_self.mpr fun y hy => ?_).symm
    rw [decide_eq_false (fun z=>hn.1 (by rw [← z];exact List.mem_map.mpr ⟨y,hy,rfl⟩))];rfl
  | x :: xs,j+1,p,hn,h=>by
    rw [List.getElem?_cons_succ] at h
    rw [List.map_cons,List.nodup_cons] at hn
    have hx:¬ x.1=k:=fun z=>hn.1 (by rw [z];exact List.mem_map.mpr ⟨_,List.mem_of_getElem? h,rfl⟩)
    rw [List.eraseIdx_cons_succ,List.filter_cons,if_pos (by rw [decide_eq_false hx];rfl),erase_key hn.2 h]
theorem erase_map {α β : Type} (f : α → β):∀ (l:List α) (j:Nat),(l.map f).eraseIdx j=(l.eraseIdx j).map f
  | [],_=>rfl
  | _ :: _,0=>rfl
  | x :: l,j+1=>by rw [List.map_cons,List.eraseIdx_cons_succ,List.eraseIdx_cons_succ,List.map_cons,erase_map f l j]
noncomputable def dropN (kvs:List (NK × V)) (k:NK):List (NK × V):=kvs.filter fun x => !decide (x.1=k)
theorem valV_dropN (kvs:List (NK × V)) (k j:NK):valV (dropN kvs k) j=if j=k then none else valV kvs j:=by
  unfold dropN
  induction kvs with
  | nil=>rw [List.filter_nil,valV_nil];split <;> rfl
  | cons p r ih =>
    rw [List.filter_cons]
    by_cases e:p.1=k
    · rw [if_neg (by simp [e]),ih]
      by_cases z:j=k
      · rw [if_pos z,if_pos z]
      · rw [if_neg z,if_neg z,valV_neg (fun q=>z (q.symm.trans e))]
    · rw [if_pos (by rw [decide_eq_false e];rfl)]
      by_cases z:p.1=j
      · rw [valV_pos z,if_neg (fun q=>e (z.trans q)),valV_pos z]
      · rw [valV_neg z,ih,valV_neg z]
theorem dropN_le (kvs:List (NK × V)) (k:NK):(dropN kvs k).length≤kvs.length:=List.length_filter_le ..
theorem KN.drop {H:Hp} (k:NK) {kvs:List (NK × V)} {xs:List (NK × Addr × Value)} (r:KN H kvs xs):KN H (dropN kvs k) (xs.filter fun x => !decide (x.1=k)):=by
  unfold dropN
  induction r with
  | nil=>exact .nil
  | @cons p q ps qs h t ih =>
    rw [List.filter_cons,List.filter_cons]
    by_cases e:p.1=k
    · rw [if_neg (by simp [e]),if_neg (by simp [← h.1,e])];exact ih
    · rw [if_pos (by rw [decide_eq_false e];rfl),if_pos (by rw [decide_eq_false (fun z=>e (h.1.trans z))];rfl)];exact .cons h ih
section
variable {prog:Program} {w:World} {K:Type} [DecidableEq K] {knd:HeapKind prog w K} {A:Around} {E:Value→Shared→Prop} {s:Shared} {d a:Addr} {k:K} {xs:List (K × Addr × Value)}
theorem takeOut_heap {p:Addr × Value} {Q:Option DictEntry→Shared→Prop} (hu:knd.room A) (hk:knd.is s.heap k a) (dd:s.heap.DictOfH knd d xs) (hz:xs.length≤sizeLine) (hp:atKey xs k=some p)
    (q:∀ en h',en.val=p.2→h'.DictOfH knd d (xs.filter fun x => !decide (x.1=k))→Heap.SameBut d s.heap h'→Q (some en) { s with heap:=h',toks:=s.toks+knd.draws k }) :
    wpAny (model prog w) A (Builtin.Dict.takeOut d (.ref a)) Q E s:=by
  obtain ⟨o,es,ep,go,ge,gd,gs,gi,gn⟩:=dd
  unfold Builtin.Dict.takeOut
  try with_reducible refine wpAny_holding ?_
  refine wpAny_bind (knd.pyHash hu hk ?_)
  refine wpAny_bind (wpAny_dictFind_heap (s := { s with toks:=s.toks+knd.draws k }) hu hk go gd gs gi gn ?_ ?_)
  · intro no
    rw [atKey_none_of_get no] at hp
    cases hp
  · intro j p' hj
    have e:=atKey_of_get gn hj
    rw [hp] at e
    cases e
    refine wpAny_bind (wpAny_dictEntries (s := { s with toks:=s.toks+knd.draws k }) go gd ?_)
    rw [entry_at gs j,hj]
    refine wpAny_bind (wpAny_updateDictKeys (hz:=by have:=size_of_entries gs;omega) (s := { s with toks:=s.toks+knd.draws k }) go gd (wpAny_pure (q _ _ rfl ⟨_,_,ep+1,Heap.get?_update_self _ go (Obj.isFreed_of_dict (Obj.data_mapDictKeys gd _)),ge.mapDictKeys _,Obj.data_mapDictKeys gd _,?_,?_,?_⟩ (Heap.SameBut.update ..))))
    · rw [← erase_key gn hj]
      have:(es.eraseIdxIfInBounds j).toList=es.toList.eraseIdx j:=by obtain ⟨l⟩:=es;simp
      rw [this,gs];exact erase_map _ _ _
    · intro x hx
      exact knd.keeps (gi x (List.mem_filter.mp hx).1) go gd (Heap.SameBut.update ..)
    · exact (gn.sublist (List.Sublist.map _ List.filter_sublist))
end
section
variable {prog:Program} {w:World} {K:Type} [DecidableEq K] (knd:HeapKind prog w K) (d a:Addr)
theorem meetsH_dict_pop:MeetsIn prog w (Builtin.«dict.pop» ⟨[.ref d,.ref a], []⟩) (fun A R s=>knd.room A.in1∧∃ k xs p,knd.is s.heap k a∧s.heap.DictOfH knd d xs∧xs.length≤sizeLine∧atKey xs k=some p ∧
      (∀ h',h'.DictOfH knd d (xs.filter fun x => !decide (x.1=k))→Heap.SameBut d s.heap h'→R (.ok (.ret p.2)) { s with heap:=h',toks:=s.toks+knd.draws k })) :=
  .of_wp fun A R s ⟨hu,k,xs,p,hk,dd,hz,hp,q⟩=>by
    unfold Builtin.«dict.pop»
    refine wpAny_bind ?_
    unfold Builtin.Dict.keyAndDefault
    refine wpAny_bind (wpAny_notOrdered_dict dd.typeIs ?_)
    show wpAny _ _ (pure (d,Value.ref a,none)) _ _ s
    refine wpAny_pure ?_
    obtain ⟨o,es,ep,go,ge,gd,gs,gi,gn⟩:=id dd
    have hne:es.isEmpty=false:=by
      have e1:=size_of_entries gs
      cases xs with
      | nil=>cases hp
      | cons x r=>rw [Array.isEmpty_eq_false_iff];intro z;rw [z] at e1;cases e1
    have hkp:(keyPart (Value.ref a)).isSome=false:=rfl
    simp only [hkp,Bool.false_eq_true,if_false]
    refine wpAny_bind (wpAny_dictEntries go gd (wpAny_bind (wpAny_pure ?_)))
    rw [hne]
    simp only [Bool.false_eq_true,if_false]
    refine wpAny_bind (takeOut_heap hu hk dd hz hp fun en h' ev d' sb => ?_)
    simp only [Option.isNone_some,Bool.false_eq_true,if_false]
    exact wpAny_bind (wpAny_letGo (wpAny_pure ⟨en.val,rfl,by rw [ev];exact q h' d' sb⟩))
end
section
variable {X:Cx} {pins:List (Addr × Obj)} {σ : St} {H:Hp} {s:Shared} {a b:Addr} {kvs:List (NK × V)} {k:NK} {v:V} {A:Around} {E:Value→Shared→Prop}
theorem dn_pop {Q:Value→Shared→Prop} (hu:A.units+10 < cLine) (I:Inv X pins σ H s) (d:DN X.prog X.w H a kvs) (nk:NKey H k b) (hv:valV kvs k=some v)
    (q:∀ w' φ s',RelV v w'→Inv X pins σ (upd H a (.ext φ)) s'→DN X.prog X.w (upd H a (.ext φ)) a (dropN kvs k)→Q w' s'):wpAny (model X.prog X.w) A (call (.builtin "dict.pop") [.ref a,.ref b]) Q E s:=by
  obtain ⟨z,hd,xs,rel,dd⟩:=dn_rd I.hok d
  have hz:xs.length≤sizeLine:=by rw [← Paired.length rel];exact z
  have ro:=rel.val k
  rw [hv] at ro
  cases e:atKey xs k with
  | none=>rw [e] at ro;exact ro.elim
  | some p =>
    rw [e] at ro
    refine call_meetsIn PySem.F.slot_dict_pop dd.typeIs PySem.F.entry_dict_pop (PySem.F.args_dict_pop_2 _ _) (meetsH_dict_pop (nkKind X.prog X.w) a b)
      ⟨(show A.units+1+5 < cLine by omega),k,xs,p,nkey_of I.hok nk,dd,hz,e,fun h' dd' hs => ?_⟩
    obtain ⟨φ,I',d'⟩:=dn_write (t':=s.toks+(nkKind X.prog X.w).draws k) I d hs dd' (rel.drop k) (Nat.le_trans (dropN_le kvs k) z)
    exact q _ φ _ ro I' d'
end
inductive J_tPopN (P:Program) (w:World) (Q:VK) (a:Addr) (y:V) (H2:Hp):Prop
  | mk (kvs:List (NK × V)) (k:NK) (b:Addr) (v:V) (z0:y = .ref b) (z1:DN P w H2 a kvs) (z2:NKey H2 k b) (z3:valV kvs k=some v) (z4:∀ φ,DN P w (upd H2 a (.ext φ)) a (dropN kvs k)→Q v (upd H2 a (.ext φ))):J_tPopN P w Q a y H2
inductive J_tPopD (P:Program) (w:World) (ty:TE) (σ : St) (Q:VK) (x:V) (H1:Hp):Prop
  | mk (a:Addr) (z0:x = .ref a) (z1:∃ kvs,DN P w H1 a kvs) (z2:ty σ H1 fun y H2=>J_tPopN P w Q a y H2):J_tPopD P w ty σ Q x H1
noncomputable def tPopN (P:Program) (w:World) (td ty:TE):TE:=fun σ H Q=>td σ H fun x H1=>J_tPopD P w ty σ Q x H1
section
variable {X:Cx} {o e:Expr} {apos cpos:Pos} {td ty:TE}
theorem pe_popN (hu:X.A.units+10 < cLine) (ho:PE X o td) (he:PE X e ty) (m:M1 X o "pop" apos e cpos):PE X (.Call (.Attribute o "pop" apos) [e] [] cpos) (tPopN X.prog X.w td ty):=by
  intro pins s σ H Q I h
  refine wpAny_Call_method m.base m.few m.line PySem.F.plainAttrs_dict PySem.F.slot_dict_pop PySem.F.type_dict_pop (thn (ho pins s σ H _ I h) fun u s1 ⟨x,H1,I1,rx,a,ex,d,q1⟩ => ?_)
  subst ex
  obtain rfl:u=Value.ref a:=rx
  obtain ⟨t1,t2,_⟩:=isN_at I1 d
  refine ⟨t1,t2,?_⟩
  rw [m.trees]
  refine Calls.callWith_builtin rfl (Calls.evalArgs_plain (Calls.spliced_cons (thn (he pins s1 σ H1 _ I1 q1) fun iv s2 ⟨y,H2,I2,ry,kvs,k,b,v,ey,d2,nk,hv,q2⟩=>Calls.spliced_nil ?_)))
  subst ey
  obtain rfl:iv=Value.ref b:=ry
  exact dn_pop hu I2 d2 nk hv fun w' φ s4 r4 I4 d4=>⟨v,_,I4,r4,q2 φ d4⟩
end
end L2
namespace L2
open PySem PySem.Spec PyProof.Rows
section
variable {X:Cx}
end
end L2
namespace L2
open PySem PySem.Spec PyProof.Rows
section
variable {X:Cx}
end
section
variable {X:Cx} {CX:CXT} {k k':Nat} {f C:Addr} {fd:FuncData} {ps:List Str} {sp:Sp} {dvs:List V} {ds:List Value} {E:XK} {x m:Str} {p pos apos:Pos} {e o:Expr} {es:List Expr} {ta:TE} {t:TA}
end
end L2
namespace L2
open PySem PySem.Spec PyProof.Rows
section
variable {P:Program} {w:World} {K:PySem.W.Frag} {mg:Str→Option Value} {base:Heap} {x m qual:Str} {st:Stmt} {N ps:List Str} {k:Nat} {sp:Sp}
end
section
variable {X:Cx} {k k':Nat} {x m:Str} {ps:List Str} {sp:Sp} {p pos apos:Pos} {e:Expr} {es:List Expr} {t:TA} {E:XK}
end
end L2
namespace L2
open PySem PySem.Spec PyProof.Rows
section
variable {X:Cx}
end
end L2
namespace L2
open PySem PySem.Spec PyProof.Rows
section
variable {X:Cx}
inductive J_part (x:V) (vs:List V) (H:Hp) (Q:VK):Prop
  | mk:∀ (z y:Str),(x = .str z)→(vs = [.str y])→((y.length == 0)=false)→(z.length≤sizeLine)→(∀ p,H p=none→Q (.ref p) (upd H p (.tup [.str (Txt.partition z y).1,.str (Txt.partition z y).2.1,.str (Txt.partition z y).2.2])))→J_part x vs H Q
theorem mt_partition:MtR X "str.partition" (fun x vs H Q=>J_part x vs H Q):=by
  intro pins s σ H x vs v us Q I rx rv h
  obtain ⟨z,y,rfl,rfl,hy,hsz,q⟩:=h
  obtain ⟨t,rfl⟩:=rx
  obtain ⟨u,rfl,ru⟩:=Vals.one rv
  obtain ⟨t',rfl⟩:=ru
  refine call_meets F.slot_str_partition (typeIs_str _ _ _) F.entry_str_partition (F.args_str_partition_2 _ _) (meets_str_partition z y t t' hy hsz) ?_
  have q':=q
  unfold Txt.partition at q'
  revert q'
  cases Builtin.Str.occurrences z y 0 z.length 1 with
  | nil =>
    intro q'
    refine ⟨.ref s.heap.objs.size,_,I.laid (o := .tup [.str z,.str Str.empty,.str Str.empty]) (fun b ob q=>Heap.get?_push_of_some _ q) (Nat.le_refl _) ⟨by show 3≤sizeLine;decide,_,?_,IsTupN.new _ _⟩,rfl,q' _ (I.hok.fresh (Nat.le_refl _))⟩
    exact .cons ⟨_,rfl⟩ (.cons ⟨_,rfl⟩ (.cons ⟨_,rfl⟩ .nil))
  | cons i r =>
    intro q'
    refine ⟨.ref s.heap.objs.size,_,I.laid (o := .tup [.str (Builtin.Str.strSub z 0 i),.str y,.str (Builtin.Str.strSub z (i+y.length) z.length)]) (fun b ob q=>Heap.get?_push_of_some _ q) (Nat.le_refl _) ⟨by show 3≤sizeLine;decide,_,?_,IsTupN.new _ _⟩,rfl,q' _ (I.hok.fresh (Nat.le_refl _))⟩
    exact .cons ⟨_,rfl⟩ (.cons ⟨_,rfl⟩ (.cons ⟨_,rfl⟩ .nil))
theorem vals_strs:∀ l:List (Str × Tok),Vals ((l.map (·.1)).map V.str) (strValues l)
  | [] => .nil
  | p :: l => .cons ⟨_,rfl⟩ (vals_strs l)
inductive J_split (x:V) (vs:List V) (H:Hp) (Q:VK):Prop
  | mk:∀ (z y:Str),(x = .str z)→(vs = [.str y])→((y.length == 0)=false)→(z.length+2≤sizeLine)→(∀ p,H p=none→Q (.ref p) (upd H p (.lst ((Txt.split z y).map V.str))))→J_split x vs H Q
theorem mt_split:MtR X "str.split" (fun x vs H Q=>J_split x vs H Q):=by
  intro pins s σ H x vs v us Q I rx rv h
  obtain ⟨x,y,rfl,rfl,hy,hsz,q⟩:=h
  obtain ⟨t,rfl⟩:=rx
  obtain ⟨u,rfl,ru⟩:=Vals.one rv
  obtain ⟨t',rfl⟩:=ru
  have hle:=split_le x y
  have fin:∀ (l:List (Str × Tok)) (k:Nat),l.map (·.1)=Txt.split x y→EP X pins σ Q (.ref s.heap.objs.size) { s with heap:=s.heap.push { cls := .type "list",data := .seq (strValues l).toArray },toks:=k }:=fun l k e=>by
    have q':=q s.heap.objs.size (I.hok.fresh (Nat.le_refl _))
    rw [← e] at q' hle
    rw [List.length_map] at hle
    exact ⟨.ref s.heap.objs.size,_,I.laid (o := .lst _) (fun b ob q=>Heap.get?_push_of_some _ q) (Nat.le_refl _) ⟨by rw [List.length_map,List.length_map];omega,_,0,vals_strs l,Heap.get?_push_size _ rfl⟩,rfl,q'⟩
  have hn:(Builtin.Str.partsBetween x (Builtin.Str.occurrences x y 0 x.length (x.length+1)) y.length).length≤sizeLine:=by
    have e1:=StrLaws.occ_length_le x y 0 x.length (x.length+1)
    rw [length_partsBetween];omega
  cases h1:(decide (x.length < y.length) || decide (Builtin.Str.strKind x < Builtin.Str.strKind y))
  · cases hf:(Builtin.Str.occurrences x y 0 x.length (x.length+1)).isEmpty
    · refine call_meets F.slot_str_split (typeIs_str _ _ _) F.entry_str_split (F.args_str_split_2 _ _) (meets_str_split_sep x y t t' h1 hy hf (by omega) hn) ?_
      show wants _ _ _ { s with toks:=_,heap:=s.heap.push { cls := .type "list",data := .seq (strsFrom s.toks (Builtin.Str.partsBetween x (Builtin.Str.occurrences x y 0 x.length (x.length+1)) y.length)).toArray } }
      rw [strsFrom_eq]
      exact fin (numbered s.toks _) _ ((numbered_texts _ _).trans ((if_neg (ne_true_of_eq_false h1)).trans (if_neg (ne_true_of_eq_false hf))).symm)
    · exact call_meets F.slot_str_split (typeIs_str _ _ _) F.entry_str_split (F.args_str_split_2 _ _) (meets_str_split_not_found x y t t' h1 hy hf)
        (fin [(x,t)] s.toks ((if_neg (ne_true_of_eq_false h1)).trans (if_pos hf)).symm)
  · exact call_meets F.slot_str_split (typeIs_str _ _ _) F.entry_str_split (F.args_str_split_2 _ _) (meets_str_split_cannot_occur x y t t' h1)
      (fin [(x,t)] s.toks (if_pos h1).symm)
end
section
variable {X:Cx}
end
end L2
namespace Sw
open PySem L2 PySem.NumText

theorem at_list {x y:Str} {k:Nat} (h:StrLaws.At x y x.length k):(x.cps.toList.drop k).take y.cps.toList.length=y.cps.toList:=by
  have e:=h.2
  rw [StrLaws.subAt_eq] at e
  have:=eq_of_beq e
  rw [len_cps] at this
  exact this
theorem at_of {x y:Str} {k:Nat} (h:(x.cps.toList.drop k).take y.cps.toList.length=y.cps.toList) (hk:k+y.length≤x.length):StrLaws.At x y x.length k:=by
  refine ⟨hk,?_⟩
  rw [StrLaws.subAt_eq,len_cps,h]
  exact beq_self_eq_true _
theorem at_get {x y:Str} {k j:Nat} {c:Nat} (h:StrLaws.At x y x.length k) (hj:y.cps.toList[j]? = some c):x.cps.toList[k+j]? = some c:=by
  have e:=at_list h
  have hl:=(List.getElem?_eq_some_iff.mp hj).1
  rw [← e,List.getElem?_take_of_lt hl,List.getElem?_drop] at hj
  exact hj
theorem cut_first {x a y b:Str} (hx:x.cps.toList=a.cps.toList ++ (y.cps.toList ++ b.cps.toList)) (hn:∀ k,k < a.length→¬ StrLaws.At x y x.length k):Txt.partition x y=(a,y,b):=by
  have hl:x.length=a.length+(y.length+b.length):=by rw [len_cps,hx,List.length_append,List.length_append, ← len_cps, ← len_cps, ← len_cps]
  have ha:StrLaws.At x y x.length a.length:=at_of (by rw [hx,len_cps,List.drop_left,List.take_left]) (by omega)
  unfold Txt.partition
  rcases StrLaws.occ_head x y 1 (Nat.le_refl 1) with ⟨h0,hn'⟩ | ⟨i,r,h0,hi,hn'⟩
  · exact absurd ha (hn' _)
  · have ei:i=a.length:=by
      rcases Nat.lt_trichotomy i a.length with h | h | h
      · exact absurd hi (hn i h)
      · exact h
      · exact absurd ha (hn' _ h)
    subst ei
    rw [h0]
    have e1:Builtin.Str.strSub x 0 a.length=a:=str_ext (by rw [StrLaws.strSub_toList,List.drop_zero,Nat.sub_zero,hx,len_cps,List.take_left])
    have e2:Builtin.Str.strSub x (a.length+y.length) x.length=b:=str_ext (by
      rw [StrLaws.strSub_toList,hx, ← List.append_assoc,show a.length+y.length=(a.cps.toList ++ y.cps.toList).length by rw [List.length_append,len_cps,len_cps],List.drop_left]
      exact List.take_of_length_le (by rw [List.length_append, ← len_cps, ← len_cps, ← len_cps];omega))
    show (Builtin.Str.strSub x 0 a.length,y,Builtin.Str.strSub x (a.length+y.length) x.length)=_
    rw [e1,e2]
theorem cut_sign {x a y b:Str} {j c:Nat} (hx:x.cps.toList=a.cps.toList ++ (y.cps.toList ++ b.cps.toList)) (hj:y.cps.toList[j]? = some c) (hc:c ∉ a.cps.toList) (hjn:∀ i,i < j→y.cps.toList[i]? ≠ some c):Txt.partition x y=(a,y,b):=by
  refine cut_first hx fun k hk h => ?_
  have e:=at_get h hj
  rw [hx] at e
  have hjl:=(List.getElem?_eq_some_iff.mp hj).1
  by_cases hlt:k+j < a.cps.toList.length
  · rw [List.getElem?_append_left hlt] at e
    exact hc (List.mem_of_getElem? e)
  · rw [len_cps] at hk
    rw [List.getElem?_append_right (by omega),List.getElem?_append_left (by omega)] at e
    exact hjn _ (by omega) e
theorem split_is {y:Str} {c:Nat} (hy:y.cps.toList[0]? = some c):∀ (ps:List Str) (p:Str) (x:Str) (pre:List Nat) (cuts:List Nat) (f:Nat),(∀ u∈p :: ps,c ∉ u.cps.toList)→x.cps.toList=pre ++ (Str.join y (p :: ps)).cps.toList →
    StrLaws.ChainG x y x.length pre.length cuts f→(∀ k,f≤k→¬ StrLaws.At x y x.length k)→StrLaws.partsFrom x y.length pre.length cuts=p :: ps
  | [],p,x,pre,cuts,f,hn,hx,hc,hf=>by
    have hx':x.cps.toList=pre ++ p.cps.toList:=hx
    have hl:x.length=pre.length+p.length:=by rw [len_cps,hx',List.length_append, ← len_cps]
    have no:∀ k,pre.length≤k→¬ StrLaws.At x y x.length k:=fun k hk h=>by
      have e:=at_get h hy
      rw [Nat.add_zero,hx',List.getElem?_append_right hk] at e
      exact hn p List.mem_cons_self (List.mem_of_getElem? e)
    cases cuts with
    | nil =>
      show [Builtin.Str.strSub x pre.length x.length]=_
      congr 1
      refine str_ext ?_
      rw [StrLaws.strSub_toList,hx',List.drop_left]
      exact List.take_of_length_le (by rw [← len_cps];omega)
    | cons d r=>exact absurd hc.2.1 (no d hc.1)
  | q :: ps,p,x,pre,cuts,f,hn,hx,hc,hf=>by
    have ej:(Str.join y (p :: q :: ps)).cps.toList=p.cps.toList ++ (y.cps.toList ++ (Str.join y (q :: ps)).cps.toList):=by
      rw [Str.join,app_cps,app_cps,List.append_assoc]
      intro z;cases z
    have hx':x.cps.toList=pre ++ (p.cps.toList ++ (y.cps.toList ++ (Str.join y (q :: ps)).cps.toList)):=by rw [hx,ej]
    have hl:x.length=pre.length+(p.length+(y.length+(Str.join y (q :: ps)).length)):=by rw [len_cps,hx',List.length_append,List.length_append,List.length_append, ← len_cps, ← len_cps, ← len_cps]
    have ha:StrLaws.At x y x.length (pre.length+p.length):=at_of (by
      rw [hx', ← List.append_assoc,show pre.length+p.length=(pre ++ p.cps.toList).length by rw [List.length_append,len_cps],List.drop_left,List.take_left]) (by omega)
    have no:∀ k,pre.length≤k→k < pre.length+p.length→¬ StrLaws.At x y x.length k:=fun k hk hk2 h=>by
      have e:=at_get h hy
      rw [Nat.add_zero,hx',List.getElem?_append_right hk,List.getElem?_append_left (by rw [← len_cps];omega)] at e
      exact hn p List.mem_cons_self (List.mem_of_getElem? e)
    cases cuts with
    | nil=>exact absurd ha (hf _ (by have e:f=pre.length:=hc;omega))
    | cons d r =>
      obtain ⟨h1,h2,h3,h4⟩:=hc
      have ed:d=pre.length+p.length:=by
        rcases Nat.lt_trichotomy d (pre.length+p.length) with h | h | h
        · exact absurd h2 (no d h1 h)
        · exact h
        · exact absurd ha (h3 _ (by omega) h)
      subst ed
      show Builtin.Str.strSub x pre.length (pre.length+p.length) :: StrLaws.partsFrom x y.length (pre.length+p.length+y.length) r=_
      have e1:Builtin.Str.strSub x pre.length (pre.length+p.length)=p:=str_ext (by
        rw [StrLaws.strSub_toList,hx',List.drop_left,Nat.add_sub_cancel_left,len_cps,List.take_left])
      have el:(pre ++ (p.cps.toList ++ y.cps.toList)).length=pre.length+p.length+y.length:=by rw [List.length_append,List.length_append, ← len_cps, ← len_cps];omega
      have ih:=split_is hy ps q x (pre ++ (p.cps.toList ++ y.cps.toList)) r f (fun u hu=>hn u (List.mem_cons_of_mem _ hu)) (by rw [hx'];simp) (by rw [el];exact h4) hf
      rw [el] at ih
      rw [e1,ih]
theorem split_join {y:Str} {c:Nat} (hk:Builtin.Str.strKind y=1) (hy:y.cps.toList[0]? = some c) {ps:List Str} (h1:1≤ps.length) (hn:∀ u∈ps,c ∉ u.cps.toList):Txt.split (Str.join y ps) y=ps:=by
  cases ps with
  | nil=>exact absurd h1 (by decide)
  | cons p ps =>
    have hyl:1≤y.length:=by
      have:=(List.getElem?_eq_some_iff.mp hy).1
      rw [len_cps];omega
    obtain ⟨f,hc,hf⟩:=StrLaws.occ_tight (Str.join y (p :: ps)) y hyl
    have key:=split_is hy ps p (Str.join y (p :: ps)) [] _ f hn (by rw [List.nil_append]) hc hf
    have one:∀ _:¬ StrLaws.At (Str.join y (p :: ps)) y (Str.join y (p :: ps)).length p.length, [Str.join y (p :: ps)]=p :: ps:=fun hna=>by
      cases ps with
      | nil=>rfl
      | cons q ps =>
        refine absurd (at_of ?_ ?_) hna
        · rw [show (Str.join y (p :: q :: ps)).cps.toList=p.cps.toList ++ (y.cps.toList ++ (Str.join y (q :: ps)).cps.toList) by
            rw [Str.join,app_cps,app_cps,List.append_assoc]
            intro z;cases z]
          rw [len_cps,List.drop_left,List.take_left]
        · rw [show Str.join y (p :: q :: ps)=p ++ y ++ Str.join y (q :: ps) by
            rw [Str.join]
            intro z;cases z]
          rw [Str.length_append,Str.length_append]
          omega
    unfold Txt.split
    split
    · rename_i h
      refine one fun hA => ?_
      rw [Bool.or_eq_true,decide_eq_true_iff,decide_eq_true_iff] at h
      rcases h with h | h
      · have:=hA.1;omega
      · rw [hk] at h
        have:∀ x:Str,1≤Builtin.Str.strKind x:=fun x=>by
          unfold Builtin.Str.strKind
          split
          · decide
          · split <;> decide
        have:=this (Str.join y (p :: ps))
        omega
    · split
      · rename_i h0 h
        refine one fun hA => ?_
        have:Builtin.Str.occurrences (Str.join y (p :: ps)) y 0 (Str.join y (p :: ps)).length ((Str.join y (p :: ps)).length+1) = []:=List.isEmpty_iff.mp h
        rw [this] at hc
        have e:f=0:=hc
        exact hf _ (by omega) hA
      · rw [StrLaws.partsBetween_eq]
        exact key
end Sw
namespace Sw
open PySem L2 PySem.NumText
noncomputable def okSigns:Str := "(),-? 0123456789abcdefghijklmnopqrstuvwxyz"
theorem ok_sign {c:Nat} (h:(97≤c∧c≤122)∨(48≤c∧c≤57)∨c=45∨c=63∨c=40∨c=41∨c=44∨c=32):c∈okSigns.cps.toList:=by
  have hc:c < 128:=by omega
  revert h
  revert hc
  revert c
  decide +kernel
noncomputable def Bal (l:List Nat):Prop:=l.count 40=l.count 41∧l.count 32=l.count 44∧∀ c∈l,c∈okSigns.cps.toList∧c < 128
theorem bal_plain {l:List Nat} (h:∀ c∈l,(97≤c∧c≤122)∨(48≤c∧c≤57)∨c=45∨c=63):Bal l:=by
  have z:∀ d,(¬ ((97≤d∧d≤122)∨(48≤d∧d≤57)∨d=45∨d=63))→l.count d=0:=fun d hd=>List.count_eq_zero.mpr fun hm=>hd (h d hm)
  refine ⟨by rw [z 40 (by omega),z 41 (by omega)],by rw [z 32 (by omega),z 44 (by omega)],fun c hc => ?_⟩
  have k:∀ d:Nat,(97≤d∧d≤122)∨(48≤d∧d≤57)∨d=45∨d=63→d < 128:=fun d hd=>by omega
  refine ⟨ok_sign ?_,k c (h c hc)⟩
  rcases h c hc with z | z | z | z
  · exact .inl z
  · exact .inr (.inl z)
  · exact .inr (.inr (.inl z))
  · exact .inr (.inr (.inr (.inl z)))
theorem bal_more:∀ {ts:List T},(∀ t∈ts,Bal t.shown.cps.toList)→Bal (more ts)
  | [],_=>⟨rfl,rfl,fun c hc=>by cases hc⟩
  | t :: ts,h=>by
    obtain ⟨a1,a2,a3⟩:=h t List.mem_cons_self
    obtain ⟨b1,b2,b3⟩:=bal_more fun u hu=>h u (List.mem_cons_of_mem _ hu)
    rw [more]
    refine ⟨?_,?_,fun c hc => ?_⟩
    · simp only [List.count_cons,List.count_append,a1,b1];rfl
    · simp only [List.count_cons,List.count_append,a2,b2]
      have e1:((44:Nat) == 32)=false:=rfl
      have e2:((32:Nat) == 32)=true:=rfl
      have e3:((44:Nat) == 44)=true:=rfl
      have e4:((32:Nat) == 44)=false:=rfl
      simp only [e1,e2,e3,e4,if_true,if_false,Bool.false_eq_true]
    · rcases List.mem_cons.mp hc with rfl | hc
      · exact ⟨ok_sign (by omega),by omega⟩
      rcases List.mem_cons.mp hc with rfl | hc
      · exact ⟨ok_sign (by omega),by omega⟩
      rcases List.mem_append.mp hc with hc | hc
      · exact a3 c hc
      · exact b3 c hc
theorem bal_tree:∀ (k:Nat) (t:T),t.Ok→t.depth≤k→Bal t.shown.cps.toList
  | 0,t,_,hd=>by have:=depth_pos t;omega
  | k+1,.num n,_,_=>by
    rw [T.shown]
    refine bal_plain fun c hc => ?_
    have hc:c∈nt n:=hc
    by_cases hn:0≤n
    · obtain ⟨m,rfl⟩:=Int.eq_ofNat_of_zero_le hn
      rw [nt_pos] at hc
      exact .inr (.inl (dg_digits m c hc))
    · obtain ⟨m,rfl,hm1⟩:∃ m:Nat,n = -(m:Int)∧1≤m:=⟨n.natAbs,by omega,by omega⟩
      rw [nt_neg m hm1] at hc
      rcases List.mem_cons.mp hc with z | hc
      · exact .inr (.inr (.inl z))
      · exact .inr (.inl (dg_digits m c hc))
  | k+1,.name x,hok,_=>by
    rw [T.Ok] at hok
    rw [T.shown]
    exact bal_plain fun c hc => .inl (hok.2.2 c hc)
  | k+1,.any x,hok,_=>by
    rw [T.Ok] at hok
    rw [shown_any]
    refine bal_plain fun c hc => ?_
    rcases List.mem_cons.mp hc with rfl | hc
    · exact .inr (.inr (.inr rfl))
    · exact .inl (hok.2.2 c hc)
  | k+1,.of x [],hok,_=>by
    rw [T.Ok] at hok
    have:=hok.2.1
    simp at this
  | k+1,.of x (t :: ts),hok,hd=>by
    rw [T.Ok] at hok
    obtain ⟨hx,_,_,hoks⟩:=hok
    rw [T.depth] at hd
    have hm:∀ u∈t :: ts,Bal u.shown.cps.toList:=fun u hu=>bal_tree k u (oks_all.mp hoks u hu) (by have:=deepest_le hu;omega)
    obtain ⟨a1,a2,a3⟩:=hm t List.mem_cons_self
    obtain ⟨b1,b2,b3⟩:=bal_more fun u hu=>hm u (List.mem_cons_of_mem _ hu)
    obtain ⟨w1,w2,w3⟩:Bal x.cps.toList:=bal_plain fun c hc => .inl (hx.2.2 c hc)
    rw [shown_of]
    refine ⟨?_,?_,fun c hc => ?_⟩
    · simp only [List.count_cons,List.count_append,List.count_nil,a1,b1,w1]
      have e1:((40:Nat) == 40)=true:=rfl
      have e2:((41:Nat) == 40)=false:=rfl
      have e3:((40:Nat) == 41)=false:=rfl
      have e4:((41:Nat) == 41)=true:=rfl
      simp only [e1,e2,e3,e4,if_true,if_false,Bool.false_eq_true]
      omega
    · simp only [List.count_cons,List.count_append,List.count_nil,a2,b2,w2]
      rfl
    · rcases List.mem_append.mp hc with hc | hc
      · exact w3 c hc
      rcases List.mem_cons.mp hc with rfl | hc
      · exact ⟨ok_sign (by omega),by omega⟩
      rcases List.mem_append.mp hc with hc | hc
      · exact a3 c hc
      rcases List.mem_append.mp hc with hc | hc
      · exact b3 c hc
      · rw [List.mem_singleton.mp hc];exact ⟨ok_sign (by omega),by omega⟩
end Sw
namespace Sw
open PySem L2 PySem.NumText

theorem num_signs (n:Int):∀ c∈nt n,c=45∨48≤c∧c≤57:=by
  rcases Int.lt_or_le n 0 with h | h
  · obtain ⟨m,e⟩:∃ m:Nat,n = -(m:Int):=⟨n.natAbs,by omega⟩
    subst e
    rw [nt_neg m (by omega)]
    intro c hc
    rcases List.mem_cons.mp hc with rfl | hc
    · exact .inl rfl
    · exact .inr (dg_digits m c hc)
  · obtain ⟨m,e⟩:=Int.eq_ofNat_of_zero_le h
    subst e
    rw [nt_pos]
    exact fun c hc => .inr (dg_digits m c hc)
theorem shown_sign {t:T} (h:t.Ok) {c:Nat} (hc:c ∉ okSigns.cps.toList):c ∉ t.shown.cps.toList:=fun z=>hc ((bal_tree t.depth t h (Nat.le_refl _)).2.2 c z).1
end Sw
namespace Sw
open PySem L2
mutual
noncomputable def T.lvs:T→List Int
  | .num n => [n]
  | .name _ => []
  | .any _ => []
  | .of _ ts=>T.lvss ts
noncomputable def T.lvss:List T→List Int
  | [] => []
  | t :: ts=>t.lvs ++ T.lvss ts
end
mutual
noncomputable def T.Pure:T→Prop
  | .num _=>True
  | .name _=>False
  | .any _=>False
  | .of _ ts=>ts ≠ []∧T.Pures ts
noncomputable def T.Pures:List T→Prop
  | []=>True
  | t :: ts=>t.Pure∧T.Pures ts
end
theorem pures_all:∀ {ts:List T},T.Pures ts↔∀ t∈ts,t.Pure
  | []=>by simp [T.Pures]
  | t :: ts=>by rw [T.Pures,pures_all (ts:=ts)];simp
theorem lvss_flat:∀ ts:List T,T.lvss ts=ts.flatMap T.lvs
  | []=>by rw [T.lvss];rfl
  | t :: ts=>by rw [T.lvss,lvss_flat ts];rfl
mutual
theorem pure_hol:∀ t:T,t.Pure→t.hol = []
  | .num _,_=>by rw [T.hol]
  | .name _,h=>by rw [T.Pure] at h;exact h.elim
  | .any _,h=>by rw [T.Pure] at h;exact h.elim
  | .of _ ts,h=>by rw [T.Pure] at h;rw [T.hol];exact pures_hol ts h.2
theorem pures_hol:∀ ts:List T,T.Pures ts→T.hols ts = []
  | [],_=>by rw [T.hols]
  | t :: ts,h=>by rw [T.Pures] at h;rw [T.hols,pure_hol t h.1,pures_hol ts h.2];rfl
theorem ok_slim:∀ t:T,t.Ok→t.Slim
  | .num _,_=>by rw [T.Slim];trivial
  | .name _,_=>by rw [T.Slim];trivial
  | .any _,_=>by rw [T.Slim];trivial
  | .of _ ts,h=>by rw [T.Ok] at h;rw [T.Slim];exact ⟨by omega,oks_slim ts h.2.2.2⟩
theorem oks_slim:∀ ts:List T,T.Oks ts→T.Slims ts
  | [],_=>by rw [T.Slims];trivial
  | t :: ts,h=>by rw [T.Oks] at h;rw [T.Slims];exact ⟨ok_slim t h.1,oks_slim ts h.2⟩
end
theorem nt_no63 (n:Int):63 ∉ nt n:=fun z=>by have:=num_signs n 63 z;omega
mutual
theorem pure_no63:∀ t:T,t.Pure→t.Ok→63 ∉ t.shown.cps.toList
  | .num n,_,_=>by rw [T.shown];exact nt_no63 n
  | .name _,h,_=>by rw [T.Pure] at h;exact h.elim
  | .any _,h,_=>by rw [T.Pure] at h;exact h.elim
  | .of x ts,h,k=>by
    rw [T.Pure] at h
    rw [T.Ok] at k
    have all:=pures_no63 ts h.2 k.2.2.2
    cases ts with
    | nil=>exact absurd rfl h.1
    | cons t ts =>
      rw [shown_of]
      intro z
      rcases List.mem_append.mp z with z | z
      · exact word_not k.1 (by decide) z
      · rcases List.mem_cons.mp z with z | z
        · cases z
        · rcases List.mem_append.mp z with z | z
          · exact all t List.mem_cons_self z
          · rcases List.mem_append.mp z with z | z
            · exact more_not (by decide) (by decide) (fun u hu=>all u (List.mem_cons_of_mem _ hu)) z
            · cases List.mem_singleton.mp z
theorem pures_no63:∀ ts:List T,T.Pures ts→T.Oks ts→∀ t∈ts,63 ∉ t.shown.cps.toList
  | [],_,_=>fun t h=>nomatch h
  | t :: ts,h,k=>by
    rw [T.Pures] at h
    rw [T.Oks] at k
    intro u hu
    rcases List.mem_cons.mp hu with e | hu
    · rw [e];exact pure_no63 t h.1 k.1
    · exact pures_no63 ts h.2 k.2 u hu
end
theorem arms_snoc {ts:List Tm} {t:Tm} (h:Arms ts) (ht:∀ x as,t = .of x as→∀ a∈as,a < ts.length):Arms (ts ++ [t]):=fun i x as e a ha=>by
  by_cases hi:i < ts.length
  · rw [List.getElem?_append_left hi] at e
    exact h i x as e a ha
  · have hl:=(List.getElem?_eq_some_iff.mp e).1
    rw [List.length_append,List.length_singleton] at hl
    have:i=ts.length:=by omega
    subst this
    rw [List.getElem?_concat_length] at e
    exact ht x as (Option.some.inj e) a ha
structure PutN (ts:List Tm) (ns:List Int) (k:Nat) (r:List Tm):Prop where
  len:r.length=ts.length+k
  arms:Arms r
  nums:∀ n,(.num n:Tm)∈r→(.num n:Tm)∈ts∨n∈ns
mutual
theorem put_new (bf:Str→Nat):∀ (t:T) (ts:List Tm),t.Pure→Arms ts→t.lvs.Nodup→(∀ n∈t.lvs,(.num n:Tm) ∉ ts)→PutN ts t.lvs t.parts (ptF bf ts t).1∧(ptF bf ts t).2+1=(ptF bf ts t).1.length
  | .num n,ts,_,ha,_,hn=>by
    rw [T.lvs] at hn
    rw [ptF,add_new (pos_none.mpr (hn n (List.mem_singleton_self n))),T.lvs,T.parts]
    refine ⟨⟨by rw [List.length_append];rfl,arms_snoc ha (fun x as e=>nomatch e),fun m hm => ?_⟩,by rw [List.length_append];rfl⟩
    rcases List.mem_append.mp hm with h | h
    · exact .inl h
    · cases List.mem_singleton.mp h
      exact .inr (List.mem_singleton_self _)
  | .name _,_,h,_,_,_=>by rw [T.Pure] at h;exact h.elim
  | .any _,_,h,_,_,_=>by rw [T.Pure] at h;exact h.elim
  | .of x as,ts,h,ha,hd,hn=>by
    rw [T.Pure] at h
    rw [T.lvs] at hd hn
    obtain ⟨p,low,last⟩:=puts_new bf as ts h.2 ha hd hn
    have hnew:posF (ptsF bf ts as).1 (.of x (ptsF bf ts as).2)=none:=by
      refine pos_none.mpr fun hm => ?_
      obtain ⟨i,hi⟩:=List.mem_iff_getElem?.mp hm
      obtain ⟨n,hn1,hn2⟩:=last h.1
      have h1:=p.arms i x _ hi n hn1
      have h2:=(List.getElem?_eq_some_iff.mp hi).1
      omega
    rw [ptF,add_new hnew,T.lvs,T.parts]
    refine ⟨⟨by rw [List.length_append,p.len];show _+1=_;omega,arms_snoc p.arms (fun y bs e=>by cases e;exact low),fun m hm => ?_⟩,by rw [List.length_append];rfl⟩
    rcases List.mem_append.mp hm with z | z
    · exact p.nums m z
    · cases List.mem_singleton.mp z
theorem puts_new (bf:Str→Nat):∀ (as:List T) (ts:List Tm),T.Pures as→Arms ts→(T.lvss as).Nodup→(∀ n∈T.lvss as,(.num n:Tm) ∉ ts)→PutN ts (T.lvss as) (T.partss as) (ptsF bf ts as).1∧(∀ n∈(ptsF bf ts as).2,n < (ptsF bf ts as).1.length)∧(as ≠ []→∃ n∈(ptsF bf ts as).2,n+1=(ptsF bf ts as).1.length)
  | [],ts,_,ha,_,_=>by
    rw [ptsF]
    exact ⟨⟨by rw [T.partss];rfl,ha,fun n h => .inl h⟩,(fun n h=>nomatch h),fun h=>absurd rfl h⟩
  | t :: as,ts,h,ha,hd,hn=>by
    rw [T.Pures] at h
    rw [T.lvss] at hd hn
    obtain ⟨d1,d2,d3⟩:=List.nodup_append.mp hd
    obtain ⟨p,l1⟩:=put_new bf t ts h.1 ha d1 fun n hm=>hn n (List.mem_append_left _ hm)
    obtain ⟨p2,low,last⟩:=puts_new bf as (ptF bf ts t).1 h.2 p.arms d2 fun n hm z=>by
      rcases p.nums n z with z | z
      · exact hn n (List.mem_append_right _ hm) z
      · exact d3 n z n hm rfl
    rw [ptsF]
    have le:=(puts_pre bf as (ptF bf ts t).1).length_le
    refine ⟨⟨by rw [p2.len,p.len,T.partss];omega,p2.arms,fun n z => ?_⟩,fun n z => ?_,fun _ => ?_⟩
    · rw [T.lvss]
      rcases p2.nums n z with z | z
      · rcases p.nums n z with z | z
        · exact .inl z
        · exact .inr (List.mem_append_left _ z)
      · exact .inr (List.mem_append_right _ z)
    · rcases List.mem_cons.mp z with z | z
      · show n < (ptsF bf (ptF bf ts t).1 as).1.length
        omega
      · exact low n z
    · by_cases e:as = []
      · subst e
        rw [ptsF]
        exact ⟨_,List.mem_cons_self,l1⟩
      · obtain ⟨n,h1,h2⟩:=last e
        exact ⟨n,List.mem_cons_of_mem _ h1,h2⟩
end
mutual
theorem put_most (bf:Str→Nat):∀ (t:T) (ts:List Tm),(ptF bf ts t).1.length≤ts.length+t.parts
  | .num n,ts=>by rw [ptF,T.parts];exact add_most _ _
  | .name n,ts=>by rw [ptF,T.parts];exact add_most _ _
  | .any n,ts=>by rw [ptF,T.parts];exact Nat.le_succ _
  | .of x as,ts=>by
    rw [ptF,T.parts]
    have:=add_most (ptsF bf ts as).1 (.of x (ptsF bf ts as).2)
    have:=puts_most bf as ts
    omega
theorem puts_most (bf:Str→Nat):∀ (as:List T) (ts:List Tm),(ptsF bf ts as).1.length≤ts.length+T.partss as
  | [],ts=>by rw [ptsF];exact Nat.le_add_right _ _
  | t :: as,ts=>by
    rw [ptsF,T.partss]
    have:=put_most bf t ts
    have:=puts_most bf as (ptF bf ts t).1
    show (ptsF bf (ptF bf ts t).1 as).1.length≤_
    omega
theorem add_most (ts:List Tm) (t:Tm):(addF ts t).1.length≤ts.length+1:=by
  cases e:posF ts t with
  | some i=>rw [add_old e];exact Nat.le_succ _
  | none=>rw [add_new e,List.length_append];exact Nat.le_refl _
end
noncomputable def b0:Str→Nat:=fun _=>0
noncomputable def stepO (room:Int) (s:List Tm × Nat) (t:T):List Tm × Nat:=if ((ptF b0 s.1 t).1.length:Int)≤room then ((ptF b0 s.1 t).1,s.2) else (s.1,s.2+1)
noncomputable def goO (room:Int) (us:List T):List Tm × Nat:=us.foldl (stepO room) ([],0)
theorem goO_snoc (room:Int) (us:List T) (t:T):goO room (us ++ [t])=stepO room (goO room us) t:=by unfold goO;rw [List.foldl_append];rfl
theorem goO_room {room:Int} (h0:0≤room) (us:List T):((goO room us).1.length:Int)≤room:=by
  have key:∀ (us:List T) (s:List Tm × Nat),(s.1.length:Int)≤room→((us.foldl (stepO room) s).1.length:Int)≤room:=fun us=>by
    induction us with
    | nil=>exact fun s h=>h
    | cons t us ih =>
      intro s h
      rw [List.foldl_cons]
      refine ih _ ?_
      unfold stepO
      split
      · assumption
      · exact h
  exact key us _ h0
noncomputable def grp (x:Str) (l:List T):List T:=(List.range ((l.length+3) / 4)).map fun i=>T.of x ((l.drop (4 * i)).take 4)
theorem chunk_all:∀ (n:Nat) (l:List T),l.length≤4 * n→(List.range n).flatMap (fun i=>(l.drop (4 * i)).take 4)=l
  | 0,l,h=>by
    have:l = []:=List.length_eq_zero_iff.mp (by omega)
    rw [this];rfl
  | n+1,l,h=>by
    rw [List.range_succ_eq_map,List.flatMap_cons,List.flatMap_map]
    have e:(fun i=>((l.drop (4 * (i+1))).take 4))=fun i=>(((l.drop 4).drop (4 * i)).take 4):=funext fun i=>by rw [List.drop_drop];congr 2;omega
    show (l.drop (4 * 0)).take 4 ++ (List.range n).flatMap (fun i=>(l.drop (4 * (i+1))).take 4)=l
    rw [e,chunk_all n (l.drop 4) (by rw [List.length_drop];omega)]
    exact List.take_append_drop 4 l
theorem grp_len (x:Str) (l:List T):(grp x l).length=(l.length+3) / 4:=by unfold grp;rw [List.length_map,List.length_range]
theorem grp_lvs (x:Str) (l:List T):T.lvss (grp x l)=T.lvss l:=by
  have h:=chunk_all ((l.length+3) / 4) l (by omega)
  conv=>rhs;rw [← h,lvss_flat]
  rw [lvss_flat]
  unfold grp
  rw [List.flatMap_map,List.flatMap_assoc]
  congr 1
  funext i
  rw [T.lvs,lvss_flat]
theorem partss_app (a b:List T):T.partss (a ++ b)=T.partss a+T.partss b:=by rw [partss_sum,partss_sum,partss_sum,List.map_append,List.sum_append]
theorem partss_of (x:Str) (g:Nat→List T):∀ is:List Nat,T.partss (is.map fun i=>T.of x (g i))=is.length+T.partss (is.flatMap g)
  | []=>by rw [List.map_nil,List.flatMap_nil,T.partss];rfl
  | i :: is=>by
    rw [List.map_cons,T.partss,T.parts,partss_of x g is,List.flatMap_cons,partss_app,List.length_cons]
    omega
theorem grp_parts (x:Str) (l:List T):T.partss (grp x l)=(l.length+3) / 4+T.partss l:=by
  have h:=chunk_all ((l.length+3) / 4) l (by omega)
  unfold grp
  rw [partss_of x,h,List.length_range]
structure Lev (x:Str) (l:List T) (d:Nat):Prop where
  pu:∀ t∈l,t.Pure
  ok:∀ t∈l,t.Ok
  dep:∀ t∈l,t.depth≤d
theorem Lev.grp {x:Str} (hx:IsW x) {l:List T} {d:Nat} (h:Lev x l d):Lev x (grp x l) (d+1):=by
  have key:∀ t∈Sw.grp x l,∃ c:List T,t = .of x c∧c ≠ []∧c.length≤4∧∀ u∈c,u∈l:=fun t ht=>by
    unfold Sw.grp at ht
    obtain ⟨i,hi,rfl⟩:=List.mem_map.mp ht
    have hi:=List.mem_range.mp hi
    refine ⟨_,rfl,fun e => ?_,by rw [List.length_take];omega,fun u hu=>List.mem_of_mem_drop (List.mem_of_mem_take hu)⟩
    have:=congrArg List.length e
    rw [List.length_take,List.length_drop,List.length_nil] at this
    omega
  refine ⟨fun t ht => ?_,fun t ht => ?_,fun t ht => ?_⟩ <;> obtain ⟨c,rfl,hc,h4,hm⟩:=key t ht
  · rw [T.Pure];exact ⟨hc,pures_all.mpr fun u hu=>h.pu u (hm u hu)⟩
  · rw [T.Ok];exact ⟨hx,Nat.one_le_iff_ne_zero.mpr (fun z=>hc (List.length_eq_zero_iff.mp z)),h4,oks_all.mpr fun u hu=>h.ok u (hm u hu)⟩
  · rw [T.depth]
    have:=deepest_is (ts:=c) (M:=d) fun u hu=>h.dep u (hm u hu)
    omega
noncomputable def lev (x:Str) (f:Int):Nat→List T
  | 0=>(List.range 60).map fun k:Nat=>T.num (f+(k:Int))
  | n+1=>grp x (lev x f n)
theorem lev_ok {x:Str} {f:Int} (hx:IsW x) (h0:0≤f) (h1:f < 10 ^ 59):∀ n,Lev x (lev x f n) (n+1)
  | 0=>by
    refine ⟨fun t ht => ?_,fun t ht => ?_,fun t ht => ?_⟩ <;> obtain ⟨k,hk,rfl⟩:=List.mem_map.mp ht <;> have hk:=List.mem_range.mp hk
    · rw [T.Pure];trivial
    · rw [T.Ok];omega
    · rw [T.depth];exact Nat.le_refl _
  | n+1=>(lev_ok hx h0 h1 n).grp hx
theorem lev_len (x:Str) (f:Int):(lev x f 0).length=60∧(lev x f 1).length=15∧(lev x f 2).length=4∧(lev x f 3).length=1:=by
  have e0:(lev x f 0).length=60:=by rw [lev,List.length_map,List.length_range]
  have e1:(lev x f 1).length=15:=by rw [lev,grp_len,e0]
  have e2:(lev x f 2).length=4:=by rw [lev,grp_len,e1]
  have e3:(lev x f 3).length=1:=by rw [lev,grp_len,e2]
  exact ⟨e0,e1,e2,e3⟩
theorem lev_lvs (x:Str) (f:Int):∀ n,T.lvss (lev x f n)=(List.range 60).map fun k:Nat=>f+(k:Int)
  | 0=>by
    rw [lev,lvss_flat,List.flatMap_map]
    have:∀ l:List Nat,(l.flatMap fun k:Nat=>(T.num (f+(k:Int))).lvs)=l.map fun k:Nat=>f+(k:Int):=fun l=>by
      induction l with
      | nil=>rfl
      | cons a l ih=>rw [List.flatMap_cons,ih,T.lvs];rfl
    exact this _
  | n+1=>by rw [lev,grp_lvs,lev_lvs x f n]
theorem lev_parts (x:Str) (f:Int):T.partss (lev x f 3)=80:=by
  obtain ⟨e0,e1,e2,_⟩:=lev_len x f
  have p0:T.partss (lev x f 0)=60:=by
    rw [lev,partss_sum,List.map_map]
    have:∀ l:List Nat,(l.map (T.parts ∘ fun k:Nat=>T.num (f+(k:Int)))).sum=l.length:=fun l=>by
      induction l with
      | nil=>rfl
      | cons a l ih=>rw [List.map_cons,List.sum_cons,ih,List.length_cons];show (T.num _).parts+_=_;rw [T.parts];omega
    rw [this,List.length_range]
  have p1:T.partss (lev x f 1)=75:=by rw [lev,grp_parts,e0,p0]
  have p2:T.partss (lev x f 2)=79:=by rw [lev,grp_parts,e1,p1]
  rw [lev,grp_parts,e2,p2]
structure TrG (t:T):Prop where
  pu:t.Pure
  ok:t.Ok
  dep:t.depth≤4
  parts:t.parts≤80
theorem lev_top {x:Str} {f:Int} (hx:IsW x) (h0:0≤f) (h1:f < 10 ^ 59):∃ t,lev x f 3 = [t]∧TrG t∧t.parts=80∧t.lvs=(List.range 60).map fun k:Nat=>f+(k:Int):=by
  obtain ⟨_,_,_,e3⟩:=lev_len x f
  have hl:=lev_ok hx h0 h1 3
  have hp:=lev_parts x f
  have hv:=lev_lvs x f 3
  obtain ⟨t,e⟩:=List.length_eq_one_iff.mp e3
  rw [e] at hl hp hv
  have hm:t ∈ [t]:=List.mem_singleton_self t
  have p80:t.parts=80:=by rw [T.partss,T.partss] at hp;omega
  rw [T.lvss,T.lvss,List.append_nil] at hv
  exact ⟨t,e,⟨hl.pu t hm,hl.ok t hm,hl.dep t hm,by omega⟩,p80,hv⟩
noncomputable def negs (f:Int) (m:Nat):List T:=(List.range m).map fun k:Nat=>T.num (-1 - f - (k:Int))
theorem negs_ok {f:Int} (h0:0≤f) (h1:f < 10 ^ 59) {m:Nat} (hm:m≤100):∀ t∈negs f m,TrG t:=fun t ht=>by
  obtain ⟨k,hk,rfl⟩:=List.mem_map.mp ht
  have hk:=List.mem_range.mp hk
  exact ⟨by rw [T.Pure];trivial,by rw [T.Ok];omega,by rw [T.depth];decide,by rw [T.parts];decide⟩
theorem arms_nil:Arms ([]:List Tm):=fun i x as e=>by rw [List.getElem?_nil] at e;cases e
theorem go_count {x:Str} {f:Int} (hx:IsW x) (h0:0≤f) (h1:f < 10 ^ 59) {t:T} (ht:t.Pure) (hp:t.parts=80) (hv:t.lvs=(List.range 60).map fun k:Nat=>f+(k:Int)) {room:Int} (hr:80≤room) (m:Nat) :
    (((goO room (t :: negs f m)).2:Nat):Int)=max 0 (80+(m:Int) - room):=by
  have nd:t.lvs.Nodup:=by
    rw [hv]
    exact List.pairwise_map.mpr (List.Pairwise.imp (fun {a b} h e=>h (by omega)) List.nodup_range)
  obtain ⟨p,_⟩:=put_new b0 t [] ht arms_nil nd fun n _ h=>nomatch h
  have e1:goO room [t]=((ptF b0 [] t).1,0):=by
    show stepO room ([],0) t=_
    unfold stepO
    rw [if_pos (by rw [p.len,hp];show ((0+80:Nat):Int)≤room;omega)]
  have key:∀ m:Nat,((goO room (t :: negs f m)).1.length:Int)=min room (80+(m:Int))∧(((goO room (t :: negs f m)).2:Nat):Int)=max 0 (80+(m:Int) - room)∧∀ n,(.num n:Tm)∈(goO room (t :: negs f m)).1→0≤n ∨ -1 - f - (m:Int) < n:=fun m=>by
    induction m with
    | zero =>
      show ((goO room [t]).1.length:Int)=_∧(((goO room [t]).2:Nat):Int)=_∧∀ n,_∈(goO room [t]).1→_
      rw [e1]
      refine ⟨by rw [p.len,hp];show ((0+80:Nat):Int)=_;omega,by show ((0:Nat):Int)=_;omega,fun n hn => .inl ?_⟩
      rcases p.nums n hn with z | z
      · cases z
      · rw [hv] at z
        obtain ⟨k,_,rfl⟩:=List.mem_map.mp z
        omega
    | succ m ih =>
      obtain ⟨i1,i2,i3⟩:=ih
      have es:t :: negs f (m+1)=(t :: negs f m) ++ [T.num (-1 - f - (m:Int))]:=by
        unfold negs
        rw [List.range_succ,List.map_append]
        rfl
      rw [es,goO_snoc]
      generalize goO room (t :: negs f m)=s at i1 i2 i3
      have hn:posF s.1 (.num (-1 - f - (m:Int)))=none:=pos_none.mpr fun z=>by have:=i3 _ z;omega
      have ep:(ptF b0 s.1 (.num (-1 - f - (m:Int)))).1=s.1 ++ [.num (-1 - f - (m:Int))]:=by rw [ptF,add_new hn]
      unfold stepO
      rw [ep,List.length_append]
      by_cases c:(((s.1.length + [(.num (-1 - f - (m:Int)):Tm)].length:Nat):Nat):Int)≤room
      · rw [if_pos c]
        have c:((s.1.length+1:Nat):Int)≤room:=c
        refine ⟨by rw [List.length_append];show ((s.1.length+1:Nat):Int)=_;omega,by show ((s.2:Nat):Int)=_;omega,fun n z => ?_⟩
        rcases List.mem_append.mp z with z | z
        · have:=i3 n z;omega
        · cases List.mem_singleton.mp z;omega
      · rw [if_neg c]
        have c:¬ ((s.1.length+1:Nat):Int)≤room:=c
        refine ⟨by show ((s.1.length:Nat):Int)=_;omega,by show ((s.2+1:Nat):Int)=_;omega,fun n z => ?_⟩
        have:=i3 n z;omega
  exact (key m).2.1
end Sw
namespace L2
open PySem PySem.Spec PyProof.Rows
theorem tc1 (a b:Value):checkTypeCall "enumerate" ⟨[a], [("start",b)]⟩=pure ():=by kernel_rfl
theorem nc1 (a b:Value):checkBuiltinCall "enumerate.__new__" ⟨[.type "enumerate",a], [("start",b)]⟩=pure ():=by kernel_rfl
theorem made1 (l:Addr) (items:Array Value) (n:Nat) (dct:Option Addr) (sl:Array (Option Value)) (t:Tok) :
    Meets (Builtin.«enumerate.__new__» ⟨[.type "enumerate",.ref l], [("start",.int 1 t)]⟩) (fun _ R s=>s.heap.get? l=some { cls := .type "list",dict:=dct,data := .seq items n,slots:=sl } ∧
      R (.ok (.ret (.ref (s.heap.push { cls := .type "list_iterator",data := .fields #[.ref l,.int 0 0] }).objs.size)))
        { s with heap:=(s.heap.push { cls := .type "list_iterator",data := .fields #[.ref l,.int 0 0] }).push { cls := .type "enumerate",data := .fields #[.none,.bool false,.ref s.heap.objs.size,rawInt 1,.none,.none] } }) :=
  .of_wp fun prog w A R s h=>by
    obtain ⟨hp,g,d,tk,os⟩:=s
    obtain ⟨hl,h⟩:=h
    have sb:=sub_enumerate
    have isL:Heap.IsList (Shared.heap ⟨hp,g,d,tk,os⟩) l items:=⟨_,hl,rfl,n,rfl⟩
    wp_walk using AutoSeq1.wpAny_loadPart' hl
    refine wpAny_stack_any fun st=>wpAny_pure ?_
    split
    · rename_i c _ _ _ _ _
      rcases (c == Value.type "enumerate")
      all_goals (wp_walk using AutoSeq1.wpAny_loadPart' hl,wpAny_pyIter_list isL)
      all_goals exact ⟨_,rfl,h⟩
    · wp_walk using AutoSeq1.wpAny_loadPart' hl,wpAny_pyIter_list isL
      exact ⟨_,rfl,h⟩
theorem initK (self a b:Value):Meets (Builtin.«object.__init__» ⟨[self,a], [("start",b)]⟩) (fun _ R s=>s.TypeIs self "enumerate" ∧ R (.ok (.ret .none)) s):=by
  have li:=F.called_enumerate.init.lookup
  have lm:=F.called_enumerate.made
  have le:(some "enumerate.__new__" != some "object.__new__")=true:=by decide
  refine Meets.of_wp fun prog w A R s ⟨ty,q⟩ => ?_
  repeat (any_goals (first | wp_step | assumption))
  exact ⟨_,rfl,q⟩
theorem okI (a b c:Value):argsOk "object.__init__" ⟨[a,b], [("start",c)]⟩:=by
  kernel_rfl
noncomputable def enumS (s:Shared) (l:Addr):Shared := { s with heap:=(s.heap.push { cls := .type "list_iterator",data := .fields #[.ref l,.int 0 0] }).push { cls := .type "enumerate",data := .fields #[.none,.bool false,.ref s.heap.objs.size,rawInt 1,.none,.none] } }
noncomputable def EnumR (s:Shared) (l:Addr) (r:Result) (s':Shared):Prop:=r = .ok (.ret (.ref (s.heap.push { cls := .type "list_iterator",data := .fields #[.ref l,.int 0 0] }).objs.size))∧s'=enumS s l
noncomputable def NoneR (s:Shared) (r:Result) (s':Shared):Prop:=r = .ok (.ret .none)∧s'=s
section
variable {prog:Program} {w:World} {A:Around} {E:Value→Shared→Prop} {s:Shared}
theorem call_enum1 {l:Addr} {items:Array Value} {t:Tok} {Q:Value→Shared→Prop} (hL:s.heap.IsList l items)
    (h:∀ h',IsEnum h' (s.heap.objs.size+1) s.heap.objs.size 1 .none→h'.IsListIter s.heap.objs.size l 0→(∀ b o,s.heap.get? b=some o→h'.get? b=some o)→Q (.ref (s.heap.objs.size+1)) { s with heap:=h' }) :
    wpAny (model prog w) A (call (.type "enumerate") [.ref l] [("start",.int 1 t)]) Q E s:=by
  obtain ⟨⟨c,dct,dt,sl⟩,g,ec,n,ed⟩:=hL
  obtain rfl:c = .type "list" := ec
  obtain rfl:dt = .seq items n:=ed
  have ft:=F.called_enumerate
  obtain ⟨c1,tl,m1⟩:=ft.mro
  have m2:=ft.made
  have m3:=ft.sub
  have ct:=tc1 (.ref l) (.int 1 t)
  have cn:=nc1 (.ref l) (.int 1 t)
  have n1:=ft.notType
  have n2:=ft.canCreate
  refine wpAny_call (codeAny_of_tree (show wpAny _ _ (callAny (.type "enumerate") _) _ _ _ from wpAny_pure ⟨Code.quiet_builtin _ (by decide +kernel),?_⟩))
  refine codeAny_builtin F.entry_type_call ?_
  rw [Around.under_plain (weight_type_call_type "enumerate" [.ref l] [("start",.int 1 t)]) (units_type_call_type "enumerate" [.ref l] [("start",.int 1 t)])]
  repeat (any_goals (first | wp_step | assumption))
  have hz:(s.heap.push { cls := .type "list_iterator",data := .fields #[.ref l,.int 0 0] }).objs.size=s.heap.objs.size+1:=Heap.size_push ..
  have ge:=Heap.get?_push_size (s.heap.push { cls := .type "list_iterator",data := .fields #[.ref l,.int 0 0] }) (o := { cls := .type "enumerate",data := .fields #[.none,.bool false,.ref s.heap.objs.size,rawInt 1,.none,.none] }) rfl
  refine codeAny_mono (codeAny_call_builtin (R:=EnumR s l) ft.plain F.entry_enumerate_new (wpAny_of_eq cn (made1 l items n dct sl t prog w A.in1 (EnumR s l) s ⟨g,rfl,rfl⟩))) fun r s1 hr => ?_
  obtain ⟨rfl,rfl⟩:=hr
  rw [hz] at ge ⊢
  have hT:Shared.TypeIs (enumS s l) (.ref (s.heap.objs.size+1)) "enumerate" := ⟨_,ge,rfl⟩
  have fin:=h _ ge ⟨_,Heap.get?_push_of_some _ (Heap.get?_push_size _ rfl),rfl,rfl⟩ fun b o x=>Heap.get?_push_of_some _ (Heap.get?_push_of_some _ x)
  have li:=ft.init.lookup
  have lb:=ft.init.bind (.ref (s.heap.objs.size+1))
  repeat (any_goals (first | wp_step | assumption))
  refine codeAny_mono (codeAny_call_builtin (R:=NoneR (enumS s l)) ft.init.plain F.entry_object_init (ft.init.check _ _ _ _ _ _ _ _ hT (okI _ _ _) (initK _ _ _ prog w A.in1 (NoneR (enumS s l)) _ ⟨hT,rfl,rfl⟩))) fun r2 s2 hr2 => ?_
  obtain ⟨rfl,rfl⟩:=hr2
  repeat (any_goals (first | wp_step | assumption))
end
end L2
namespace L2
open PySem PySem.Spec PyProof.Rows
theorem draws_shift {prog:Program} {w:World} {A:Around} {it:Addr} {fp:List Addr} {n:Nat} {P:Nat→Value→Prop} {St:Nat→Heap→Prop} (D:Draws prog w A it fp n P St):Draws prog w A it fp (n+1) (fun j v=>∃ i,j=i+1∧P i v) (fun j h=>∃ i,j=i+1∧St i h) where
  live:=fun j h ⟨i,_,st⟩=>D.live i h st
  frame:=fun j h h' ⟨i,e,st⟩ k=>⟨i,e,D.frame i h h' st k⟩
  item:=fun j s Q E hj ⟨i,e,st⟩ hQ=>D.item i s Q E (by omega) st fun x h' tk p st' sb=>hQ x h' tk ⟨i,e,p⟩ ⟨i+1,by omega,st'⟩ sb
  done:=fun s Q E ⟨i,e,st⟩ hE=>by
    obtain rfl:i=n:=by omega
    exact D.done s Q E st hE
noncomputable def Ite1 (K:PySem.W.Frag) (a:Addr):It :=
  ⟨fun i H=>∃ xs x,SqL K H a xs∧xs[i]? = some x,
   fun i H x H'=>∃ p v,H p=none∧x = .ref p∧(∀ xs,SqL K H a xs→xs[i]? = some v)∧H'=upd H p (.tup [.int ((i+1:Nat):Int),v]),
   fun i H=>∃ xs,SqL K H a xs∧xs.length=i⟩
theorem turn_enum1 {P:Program} {w:World} {K:PySem.W.Frag} {elts:List Expr} {k:Nat} {tp:Pos} (a e it:Addr) (hne:e≠it) :
    Turn P w K (.Tuple elts k tp) (Ite1 K a) [e,it] e (fun i h=>(∃ old,IsEnum h e it ((i+1:Nat):Int) old)∧h.IsListIter it a i) where
  mem:=by simp
  obj:=fun i h st b hb=>by
    obtain ⟨⟨old,he⟩,hit⟩:=st
    rcases List.mem_cons.mp hb with rfl | hb
    · exact ⟨_,he,fun v z=>by
        have z':Data.fields _=Data.cell v:=z
        cases z'⟩
    · have e:b=it:=by simpa using hb
      subst e
      obtain ⟨o,e,c,d⟩:=hit
      exact ⟨o,e,fun v z=>by rw [d] at z;cases z⟩
  keep:=fun i h h' st k=>by
    obtain ⟨⟨old,he⟩,hit⟩:=st
    exact ⟨⟨old,k e (by simp) _ he⟩,hit.at fun o q=>k it (by simp) o q⟩
  item:=by
    intro X hP hw hK hc i pins s σ H E I hf st hg
    subst hP hw hK
    obtain ⟨⟨old,he⟩,hit⟩:=st
    obtain ⟨xs,x,hq,hx⟩:=hg
    obtain ⟨its,rv,p,hz⟩:=I.list hq
    obtain ⟨u,hu,ru⟩:=rv.get hx
    have hai:a≠it:=fun z=>by
      obtain ⟨o,n,e1,c1,_⟩:=p
      obtain ⟨o',e2,c2,_⟩:=hit
      rw [z,e2] at e1;cases e1
      rw [c1] at c2
      exact absurd (Value.type.inj c2) (by decide)
    have hae:a≠e:=fun z=>by
      obtain ⟨o,n,e1,c1,_⟩:=p
      rw [z,he] at e1;cases e1
      exact absurd (Value.type.inj c1) (by decide)
    have hlt:i < its.toArray.size:=by
      rw [List.size_toArray]
      exact (List.getElem?_eq_some_iff.mp hu).1
    have hel:e < s.heap.objs.size:=Heap.lt_size he
    have hil:it < s.heap.objs.size:=by obtain ⟨o,q,_⟩:=hit;exact Heap.lt_size q
    refine wpAny_pyNext_enum_itemD (draws_shift (Draws.list (A:=X.A.in1) (I.ok.hd hc) it a hai its.toArray)) he ⟨i,rfl,hit,p.isList⟩ (Nat.succ_lt_succ hlt) hne (by
      intro z
      rcases List.mem_cons.mp z with z | z
      · exact hne z
      · exact hae (List.mem_singleton.mp z).symm) fun y h1 tk hy ho hs1 hT hsz hk => ?_
    obtain ⟨i1,ei,hy⟩:=hy
    obtain rfl:i1=i:=by omega
    obtain ⟨i2,ei2,hs1⟩:=hs1
    obtain rfl:i2=i1+1:=by omega
    have hyu:y=u:=by
      have e1:its[i1]? = some y:=by simpa using hy
      rw [hu] at e1
      exact (Option.some.inj e1).symm
    subst hyu
    refine ⟨_,rfl,wpAny_letOwnedTupleGo_enum ho fun h2 he2 hs2 => ?_⟩
    have kk:∀ b o,b ∉ [e,it]→s.heap.get? b=some o→h2.get? b=some o:=fun b o hb q=>by
      have b1:b≠e:=fun z=>hb (by simp [z])
      have b2:b≠it:=fun z=>hb (by simp [z])
      exact (hs2.2 b b1).trans (hk b o b1 b2 q)
    have hTe:s.heap.objs.size≠e:=Nat.ne_of_gt hel
    refine ⟨.ref s.heap.objs.size,upd H s.heap.objs.size (.tup [.int ((i1+1:Nat):Int),x]),?_,rfl,⟨_,x,I.hok.fresh (Nat.le_refl _),rfl,fun ys hy=>by rw [I.list_inj hy hq];exact hx,rfl⟩,
      ⟨⟨_,by simpa using he2⟩,hs1.1.at fun o q=>(hs2.2 it (Ne.symm hne)).trans q⟩,fun b hb => ?_⟩
    · refine I.turnedLaid (ch := [e,it]) (t':=tk+1) kk hf (Nat.le_refl _) ⟨by show 2≤sizeLine;decide, [.int ((i1+1:Nat):Int) tk,y],.cons ⟨_,rfl⟩ (.cons ru .nil),?_⟩
      exact ⟨_,(hs2.2 _ hTe).trans hT,rfl,_,rfl,rfl⟩
    · have hb':=hf b hb
      have:b≠s.heap.objs.size:=by
        rcases List.mem_cons.mp hb with rfl | hb
        · exact Nat.ne_of_lt hel
        · rw [List.mem_singleton.mp hb];exact Nat.ne_of_lt hil
      rw [upd_ne this]
      exact hb'.1
  done:=by
    intro X hP hw hK hc i pins s σ H E I hf st hg
    subst hP hw hK
    obtain ⟨⟨old,he⟩,hit⟩:=st
    obtain ⟨xs,hq,hx⟩:=hg
    obtain ⟨its,rv,p,hz⟩:=I.list hq
    have hai:a≠it:=fun z=>by
      obtain ⟨o,n,e1,c1,_⟩:=p
      obtain ⟨o',e2,c2,_⟩:=hit
      rw [z,e2] at e1;cases e1
      rw [c1] at c2
      exact absurd (Value.type.inj c2) (by decide)
    have hl:=rv.length
    have hi:i=its.toArray.size:=by rw [List.size_toArray];omega
    subst hi
    obtain ⟨f0,f1,f2,f3,f4,f5⟩:=hf it (by simp)
    exact wpAny_pyNext_enum_endD (draws_shift (Draws.list (A:=X.A.in1) (I.ok.hd hc) it a hai its.toArray)) he ⟨_,rfl,hit,p.isList⟩ fun h1 eb=>⟨rfl,I.turned (t':=s.toks) (fun b o hb q=>eb b o hb q) f0 f1 f3 f4 f5⟩
  self:=fun _ _ _ _ _ st h=>by
    obtain ⟨⟨old,he⟩,_⟩:=st
    exact wpAny_pyIter_enum he h

theorem callWith_typeK {M:Model} {A:Around} {E:Value→Shared→Prop} {s:Shared} {pos:Pos} {T:String} {x:Sem Value} {kws:List (Option Str × Sem Value)} {Q:Value→Shared→Prop} (k1:kws.any (·.1.isNone)=false) (k2:kws.all (·.1.isSome)=true)
    (h:wpAny M A (spliced [(false,x)]) (fun vs s1=>wpAny M A (evalAll (kws.map (·.2))) (fun ks s2=>wpAny M A (call (.type T) vs ((kws.filterMap (·.1)).zip ks)) Q E s2) E s1) E s):wpAny M A (callWith pos (.type T) [] [(false,x)] kws) Q E s:=by
  unfold callWith
  have ha:=evalArgs_kwB (f := .type T) (Q:=fun a s1=>wpAny M A (call (.type T) a.pos a.kw) Q E s1) k2 h
  refine wpAny_bind (wpAny_holding (wpAny_mono ha (fun a s1 h1=>wpAny_bind ?_) fun _ _ z=>z))
  refine wpAny_standAt ?_
  have e:([(false,x)]:List (Bool × Sem Value)).any (·.1)=false:=rfl
  simp only [e,k1,Bool.or_false]
  refine wpAny_bind (wpAny_pure (wpAny_bind (wpAny_mono h1 (fun r s2 q => ?_) fun _ _ z=>z)))
  exact wpAny_bind (wpAny_holding (wpAny_point (wpAny_pure q)))
inductive J_iEnum1 (K:PySem.W.Frag) (R:It→Hp→Prop) (vs:List V) (H1:Hp):Prop
  | mk:∀ a,(vs = [.ref a])→((∃ xs,SqL K H1 a xs))→(R (Ite1 K a) H1)→J_iEnum1 K R vs H1
noncomputable def iEnum1 (K:PySem.W.Frag) (ta:TA):TI:=fun σ H R=>ta σ H fun vs H1=>J_iEnum1 K R vs H1
section
variable {X:Cx}
theorem pi_enum1 {l:Expr} {ta:TA} {elts:List Expr} {k j:Nat} {tp p pos cp kp:Pos} (hg:Gl X "enumerate") (hm:X.mg "enumerate" = none) (ha:PA X [l] ta) (hs:starEach [l] X.env = [(false,eval l X.env)]:=by rfl) :
    PI X (.Tuple elts k tp) (.Call (.Name "enumerate" p) [l] [⟨some "start",.Constant (.int 1) j cp,kp⟩] pos) (iEnum1 X.K ta):=by
  intro pins s σ H R I h
  refine wpAny_Call_Name_kw (ld_blt I hg hm boot_enum ?_ (by decide) (by decide))
  have ha':=ha pos
  rw [hs] at ha' ⊢
  show wpAny _ _ (callWith pos (.type "enumerate") [] [(false,eval l X.env)] (backToKw pos (keywordEach [⟨some "start",.Constant (.int 1) j cp,kp⟩] X.env))) _ _ _
  refine callWith_typeK ?_ ?_ ?_
  · rfl
  · rfl
  refine thn (ha' pins s σ H _ I h) fun us s1 ⟨vs,H1,I1,r1,q1⟩ => ?_
  refine kws_cons (thn (pe_int (X:=X) pins s1 σ H1 (fun v H2=>v = .int 1∧H2=H1) I1 ⟨rfl,rfl⟩) fun dv s2 ⟨y,H2,I2,r2,q2⟩ => ?_)
  refine kws_nil ?_
  obtain ⟨rfl,rfl⟩:=q2
  obtain ⟨td,rfl⟩:=(show ∃ t,dv=Value.int 1 t from r2)
  obtain ⟨a,e,⟨xs,hq⟩,q⟩:=q1
  subst e
  obtain ⟨u,rfl,ru⟩:=vals1 r1
  cases ru
  obtain ⟨its,rv,pl,hz⟩:=I2.list hq
  show wpAny _ _ (call (.type "enumerate") [.ref a] [("start",.int 1 td)]) _ _ s2
  refine call_enum1 pl.isList fun h1 he hit hk => ?_
  have I3:Inv X pins σ H2 { s2 with heap:=h1 }:=I2.kept (t':=s2.toks) hk
  have hne:s2.heap.objs.size+1≠s2.heap.objs.size:=Nat.succ_ne_self _
  refine wpAny_pyIter_enum (s := { s2 with heap:=h1 }) he ⟨_, [s2.heap.objs.size+1,s2.heap.objs.size],_,_,H2,rfl,I3,turn_enum1 a _ _ hne,⟨⟨_,he⟩,hit⟩,fun b hb => ?_,q⟩
  rcases List.mem_cons.mp hb with rfl | hb
  · exact I2.fpOk (Nat.le_succ _) (I2.hok.fresh (Nat.le_succ _))
  · rw [List.mem_singleton.mp hb]
    exact I2.fpOk (Nat.le_refl _) (I2.hok.fresh (Nat.le_refl _))
end
theorem for_enum1 {K:PySem.W.Frag} {a:Addr} {xs:List V} {g:TG} {tb:TS} {D:Ends} {σ : St} {H:Hp} (Pv:Nat→St→Hp→Prop) (h0:Pv 0 σ H) (hl:∀ i σ H,i≤xs.length→Pv i σ H→SqL K H a xs)
    (hs:∀ i x p σ H,xs[i]? = some x→Pv i σ H→H p=none→g (.ref p) σ (upd H p (.tup [.int ((i+1:Nat):Int),x])) fun σ2 H2=>tb { D with nx:=Pv (i+1),ct:=Pv (i+1),bk:=D.nx } σ2 H2) (hd:∀ σ H,Pv xs.length σ H→D.nx σ H) :
    ∃ W:Nat→Nat→St→Hp→Prop,(∃ m,W 0 m σ H)∧∀ i m σ H,W i m σ H →
      ((Ite1 K a).stop i H∧D.nx σ H)∨((Ite1 K a).go i H∧∃ N:St→Hp→Prop,(∀ σ' H',N σ' H'→∃ m',m' < m∧W (i+1) m' σ' H')∧∀ x H',(Ite1 K a).yld i H x H'→g x σ H' fun σ2 H2=>tb { D with nx:=N,ct:=N,bk:=D.nx } σ2 H2):=by
  refine ⟨fun i m σ H=>m=xs.length - i∧i≤xs.length∧Pv i σ H,⟨xs.length,by simp,Nat.zero_le _,h0⟩,?_⟩
  rintro i m σ H ⟨rfl,hi,p⟩
  have q:=hl i σ H hi p
  by_cases hlt:i < xs.length
  · refine .inr ⟨⟨xs,xs[i],q,by simp [hlt]⟩,Pv (i+1),fun σ' H' p'=>⟨xs.length - (i+1),by omega,rfl,hlt,p'⟩,fun x H' y => ?_⟩
    obtain ⟨pa,v,hpa,rfl,hv,rfl⟩:=y
    exact hs i v pa σ H (hv xs q) p hpa
  · have e:i=xs.length:=by omega
    subst e
    exact .inl ⟨⟨xs,q,rfl⟩,hd σ H p⟩
end L2
namespace L2
open PySem PySem.Spec PyProof.Rows
end L2
namespace Sw
open PySem L2
end Sw
namespace Sw
open PySem L2

end Sw
namespace Sw
open PySem L2
end Sw
namespace Sw
open PySem L2
end Sw
namespace Sw
open PySem L2
end Sw
namespace Sw
open PySem L2
end Sw
namespace L2
open PySem PySem.Spec PyProof.Rows
section
variable {X:Cx} {k k':Nat} {x:Str} {ps:List Str} {dvs:List V} {sp:Sp} {p pos:Pos} {e:Expr} {es:List Expr} {t:TA}
end
end L2
namespace Sw
open PySem L2
end Sw
namespace L2
open PySem PySem.Spec PyProof.Rows
noncomputable def g11 {α : Type}:List α → List α → List α
  | [a], [c] => [a,c]
  | _,_ => []
theorem g11_rel {vs:List V} {us:List Value} {zs:List V} {ws:List Value} (r:Vals vs us) (q:Vals zs ws):Vals (g11 vs zs) (g11 us ws):=by
  cases r with
  | nil=>exact .nil
  | cons r1 r =>
    cases r with
    | cons _ _=>exact .nil
    | nil =>
      cases q with
      | nil=>exact .nil
      | cons q1 q =>
        cases q with
        | nil=>exact .cons r1 (.cons q1 .nil)
        | cons _ _=>exact .nil
theorem g11_len {α : Type} {us ws:List α} (h:(g11 us ws).length=2):∃ a c,us = [a]∧ws = [c]:=by
  unfold g11 at h
  split at h
  · exact ⟨_,_,rfl,rfl⟩
  · cases h
structure DefDK (K:PySem.W.Frag) (mg:Str→Option Value) (x:Str) (st:Stmt) (ps:List Str) (dvs:List V) (ks:List Str):Prop where
  ex:∃ f fd ds,FunD K x x st f fd∧mg x=some (.ref f)∧PySem.W.keepIn K (.ref f)=true∧Binds K fd ps ds∧Vals dvs ds∧KBinds K fd ps ks g11 g11
structure HasDK (P:Program) (w:World) (K:PySem.W.Frag) (mg:Str→Option Value) (base:Heap) (k:Nat) (x:Str) (ps:List Str) (dvs:List V) (ks:List Str) (sp:Sp):Prop where
  ex:∃ f fd ds,FnOk P w K mg base (CXE P w) k f fd ps sp∧mg x=some (.ref f)∧PySem.W.keepIn K (.ref f)=true∧Binds K fd ps ds∧Vals dvs ds∧KBinds K fd ps ks g11 g11
theorem DefDK.has {P:Program} {w:World} {K:PySem.W.Frag} {mg:Str→Option Value} {base:Heap} {x:Str} {st:Stmt} {N ps ks:List Str} {k:Nat} {sp:Sp} {dvs:List V} (D:DefDK K mg x st ps dvs ks) (S:FnScope N ps (defScope st)) (len:∀ vs H Q E,sp vs H Q E→vs.length=ps.length)
    (hbody:∀ (f:Addr) (cdv:Value) (A:Around) (outer:List Env) (s:Shared) (H:Hp) (vs:List V) (Q:VK) (E:XK),Room k (A.deeper (envOfC x (defScope st) s.heap.objs.size f cdv))→sp vs H Q E →
      ∃ t,PSs (cxOf (CXE P w) P w K mg base N x (defScope st) f cdv A outer s H E) (defBody st) t∧t { nx:=fun _ H'=>Q .non H',rt:=Q } (start N vs) H):HasDK P w K mg base (k+1) x ps dvs ks sp:=by
  obtain ⟨f,fd,ds,F,hm,hkp,hb,hv,hb'⟩:=D.ex
  obtain ⟨oc,od,dV,kV,doc,pm,an,cdv,ct,osl,rfl,lk,hcd⟩:=F.ex
  exact ⟨f,_,ds,fn_of lk hcd S len fun A outer s H vs Q E hr hsp=>hbody f cdv A outer s H vs Q E hr hsp,hm,hkp,hb,hv,hb'⟩
section
variable {X:Cx} {k k':Nat} {x:Str} {ps ks:List Str} {dvs:List V} {sp:Sp} {p pos:Pos} {e:Expr} {es:List Expr} {kws:List Keyword} {t tk:TA} {E:XK}
theorem pe_dkD (h:HasDK X.prog X.w X.K X.mg X.base k x ps dvs ks sp) (hr:Room k' X.A) (hk:k≤k') (hx:Passes (CXE X.prog X.w) X E) (hg:Gl X x) (ha:PA X (e :: es) t) (hdb:(x == ("__debug__" : Str))=false:=by decide)
    (he:starEach (e :: es) X.env=(false,eval e X.env) :: starEach es X.env:=by rfl) (hpl:(backTo pos (starEach es X.env)).any (·.1)=false:=by rfl) :
    PE X (.Call (.Name x p) (e :: es) [] pos) (tCall sp dvs E t):=by
  obtain ⟨f,fd,ds,F,hm,hkp,hb,hv,_⟩:=h.ex
  exact pe_call F (hr.mono hk) hg hm hkp hb hv hx ha hdb he hpl
theorem pe_dkK (h:HasDK X.prog X.w X.K X.mg X.base k x ps dvs ks sp) (hr:Room k' X.A) (hk:k≤k') (hx:Passes (CXE X.prog X.w) X E) (hg:Gl X x) (ha:PA X (e :: es) t) (hkw:PK X kws tk)
    (hall:(backToKw pos (keywordEach kws X.env)).all (·.1.isSome)=true:=by rfl) (hks:(backToKw pos (keywordEach kws X.env)).filterMap (·.1)=ks:=by rfl) (hdb:(x == ("__debug__" : Str))=false:=by decide)
    (he:starEach (e :: es) X.env=(false,eval e X.env) :: starEach es X.env:=by rfl) (hpl:((backTo pos (starEach (e :: es) X.env)).any (·.1) || (backToKw pos (keywordEach kws X.env)).any (·.1.isNone))=false:=by rfl) :
    PE X (.Call (.Name x p) (e :: es) kws pos) (tCallK sp g11 E t tk):=by
  obtain ⟨f,fd,ds,F,hm,hkp,_,_,hb⟩:=h.ex
  exact pe_callK F (hr.mono hk) hg hm hkp hb hx ha hkw hall hks hdb he hpl
end
end L2
namespace L2
open PySem PySem.Spec PyProof.Rows
section
variable {X:Cx}
end
end L2
namespace K80
open PySem L2 Sw
noncomputable def top (i:Nat):Stmt:=PySem.Challenge.pw_samewise_k80_room_left_out.main.body.getD i (.Pass ⟨0,0,0,0⟩)
noncomputable abbrev s_parts:Stmt:=top 65
theorem sc_parts:FnScope ["tree", "total", "arm"] ["tree"] (defScope s_parts):=⟨rfl,rfl,rfl,by decide +kernel,rfl,by decide +kernel,by decide +kernel⟩
noncomputable abbrev s_init:Stmt:=inClass (top 103) 0
theorem sc_init:FnScope ["self", "text", "with_holes"] ["self", "text", "with_holes"] (defScope s_init):=⟨rfl,rfl,rfl,by decide +kernel,rfl,by decide +kernel,by decide +kernel⟩
noncomputable abbrev s_ahead:Stmt:=inClass (top 103) 1
theorem sc_ahead:FnScope ["self"] ["self"] (defScope s_ahead):=⟨rfl,rfl,rfl,by decide +kernel,rfl,by decide +kernel,by decide +kernel⟩
noncomputable abbrev s_take:Stmt:=inClass (top 103) 2
theorem sc_take:FnScope ["self", "wanted", "end"] ["self", "wanted"] (defScope s_take):=⟨rfl,rfl,rfl,by decide +kernel,rfl,by decide +kernel,by decide +kernel⟩
noncomputable abbrev s_take_run:Stmt:=inClass (top 103) 3
theorem sc_take_run:FnScope ["self", "signs", "start"] ["self", "signs"] (defScope s_take_run):=⟨rfl,rfl,rfl,by decide +kernel,rfl,by decide +kernel,by decide +kernel⟩
noncomputable abbrev s_take_word:Stmt:=inClass (top 103) 4
theorem sc_take_word:FnScope ["self", "word"] ["self"] (defScope s_take_word):=⟨rfl,rfl,rfl,by decide +kernel,rfl,by decide +kernel,by decide +kernel⟩
noncomputable abbrev s_take_number:Stmt:=inClass (top 103) 5
theorem sc_take_number:FnScope ["self", "start", "figures", "written"] ["self"] (defScope s_take_number):=⟨rfl,rfl,rfl,by decide +kernel,rfl,by decide +kernel,by decide +kernel⟩
noncomputable abbrev s_take_arms:Stmt:=inClass (top 103) 6
theorem sc_take_arms:FnScope ["self", "deep", "arms"] ["self", "deep"] (defScope s_take_arms):=⟨rfl,rfl,rfl,by decide +kernel,rfl,by decide +kernel,by decide +kernel⟩
noncomputable abbrev s_take_tree:Stmt:=inClass (top 103) 7
theorem sc_take_tree:FnScope ["self", "deep", "sign", "word"] ["self", "deep"] (defScope s_take_tree):=⟨rfl,rfl,rfl,by decide +kernel,rfl,by decide +kernel,by decide +kernel⟩
noncomputable abbrev s_read_whole:Stmt:=top 102
theorem sc_read_whole:FnScope ["reader", "tree"] ["reader"] (defScope s_read_whole):=⟨rfl,rfl,rfl,by decide +kernel,rfl,by decide +kernel,by decide +kernel⟩
noncomputable abbrev s_read:Stmt:=top 100
theorem sc_read:FnScope ["text"] ["text"] (defScope s_read):=⟨rfl,rfl,rfl,by decide +kernel,rfl,by decide +kernel,by decide +kernel⟩
noncomputable abbrev s_kinit:Stmt:=inClass (top 13) 0
theorem sc_kinit:FnScope ["self", "room"] ["self", "room"] (defScope s_kinit):=⟨rfl,rfl,rfl,by decide +kernel,rfl,by decide +kernel,by decide +kernel⟩
noncomputable abbrev s_put:Stmt:=inClass (top 13) 1
theorem sc_put:FnScope ["self", "pattern", "binds", "many"] ["self", "pattern", "binds"] (defScope s_put):=⟨rfl,rfl,rfl,by decide +kernel,rfl,by decide +kernel,by decide +kernel⟩
noncomputable abbrev s_put_part:Stmt:=inClass (top 13) 2
theorem sc_put_part:FnScope ["self", "pattern", "binds", "numbers", "arm"] ["self", "pattern", "binds"] (defScope s_put_part):=⟨rfl,rfl,rfl,by decide +kernel,rfl,by decide +kernel,by decide +kernel⟩
noncomputable abbrev s_put_term:Stmt:=inClass (top 13) 3
theorem sc_put_term:FnScope ["self", "term"] ["self", "term"] (defScope s_put_term):=⟨rfl,rfl,rfl,by decide +kernel,rfl,by decide +kernel,by decide +kernel⟩
noncomputable abbrev s_cut:Stmt:=inClass (top 13) 5
theorem sc_cut:FnScope ["self", "many"] ["self", "many"] (defScope s_cut):=⟨rfl,rfl,rfl,by decide +kernel,rfl,by decide +kernel,by decide +kernel⟩
noncomputable abbrev s_binit:Stmt:=inClass (top 27) 0
theorem sc_binit:FnScope ["self", "room"] ["self", "room"] (defScope s_binit):=⟨rfl,rfl,rfl,by decide +kernel,rfl,by decide +kernel,by decide +kernel⟩
noncomputable abbrev s_bput:Stmt:=inClass (top 27) 1
theorem sc_bput:FnScope ["self", "tree"] ["self", "tree"] (defScope s_bput):=⟨rfl,rfl,rfl,by decide +kernel,rfl,by decide +kernel,by decide +kernel⟩
noncomputable abbrev s_read_order:Stmt:=top 136
theorem sc_read_order:FnScope ["word", "rest", "sides"] ["word", "rest"] (defScope s_read_order):=⟨rfl,rfl,rfl,by decide +kernel,rfl,by decide +kernel,by decide +kernel⟩
noncomputable abbrev s_read_row:Stmt:=top 135
theorem sc_read_row:FnScope ["row", "line", "pieces", "order"] ["row", "line"] (defScope s_read_row):=⟨rfl,rfl,rfl,by decide +kernel,rfl,by decide +kernel,by decide +kernel⟩
noncomputable abbrev s_read_sheet:Stmt:=top 134
theorem sc_read_sheet:FnScope ["text", "orders", "titles", "line", "row", "order"] ["text"] (defScope s_read_sheet):=⟨rfl,rfl,rfl,by decide +kernel,rfl,by decide +kernel,by decide +kernel⟩
noncomputable abbrev s_ninit:Stmt:=inClass (top 142) 0
theorem sc_ninit:FnScope ["self", "room"] ["self", "room"] (defScope s_ninit):=⟨rfl,rfl,rfl,by decide +kernel,rfl,by decide +kernel,by decide +kernel⟩
noncomputable abbrev s_do_with_trees:Stmt:=inClass (top 142) 2
theorem sc_do_with_trees:FnScope ["self", "order", "word", "ends", "k"] ["self", "order"] (defScope s_do_with_trees):=⟨rfl,rfl,rfl,by decide +kernel,rfl,by decide +kernel,by decide +kernel⟩
noncomputable abbrev s_do_order:Stmt:=inClass (top 142) 1
theorem sc_do_order:FnScope ["self", "order", "ended"] ["self", "order"] (defScope s_do_order):=⟨rfl,rfl,rfl,by decide +kernel,rfl,by decide +kernel,by decide +kernel⟩
noncomputable abbrev s_run:Stmt:=top 141
theorem sc_run:FnScope ["text", "room", "orders", "runner", "answers", "order", "answer"] ["text", "room"] (defScope s_run):=⟨rfl,rfl,rfl,by decide +kernel,rfl,by decide +kernel,by decide +kernel⟩
noncomputable abbrev s_at:Stmt:=top 145
theorem sc_at:FnScope ["_law_script", "_law_k"] ["_law_script", "_law_k"] (defScope s_at):=⟨rfl,rfl,rfl,by decide +kernel,rfl,by decide +kernel,by decide +kernel⟩
noncomputable abbrev s_word:Stmt:=top 147
theorem sc_word:FnScope ["_law_script", "_law_which", "_law_letters", "_law_seed", "_law_size", "_law_place", "_law_rest", "_law_told"] ["_law_script", "_law_which"] (defScope s_word):=⟨rfl,rfl,rfl,by decide +kernel,rfl,by decide +kernel,by decide +kernel⟩
noncomputable abbrev s_knots:Stmt:=top 148
theorem sc_knots:FnScope ["_law_script", "_law_rows", "_law_word_here"] ["_law_script", "_law_rows"] (defScope s_knots):=⟨rfl,rfl,rfl,by decide +kernel,rfl,by decide +kernel,by decide +kernel⟩
noncomputable abbrev s_right:Stmt:=top 149
theorem sc_right:FnScope ["_law_found", "_law_many", "_law_answer"] ["_law_found", "_law_many"] (defScope s_right):=⟨rfl,rfl,rfl,by decide +kernel,rfl,by decide +kernel,by decide +kernel⟩
noncomputable abbrev s_law:Stmt:=top 150
theorem sc_law:FnScope ["_law_script", "_law_first", "_law_many", "_law_rows", "_law_space"] ["_law_script"] (defScope s_law):=⟨rfl,rfl,rfl,by decide +kernel,rfl,by decide +kernel,by decide +kernel⟩
section
variable {P:Program} {w:World} {K:PySem.W.Frag} {mg:Str→Option Value} {base:Heap}
noncomputable def spParts (n:Nat):Sp:=fun vs H Q _=>∃ v t,vs = [v]∧IsTr H t v∧t.depth≤n∧Q (.int (t.parts:Int)) H
theorem sum_take_parts (ts:List T) (i:Nat) (h:i < ts.length):T.partss (ts.take (i+1))=T.partss (ts.take i)+ts[i].parts:=by
  rw [List.take_add_one,List.getElem?_eq_getElem h]
  rw [partss_sum,partss_sum,List.map_append,List.sum_append]
  simp
theorem ok_parts (D:Def K mg "parts" s_parts ["tree"]):∀ n,Has P w K mg base n "parts" ["tree"] (spParts n)
  | 0=>by
    obtain ⟨fa,fd,F,hm,hb⟩:=D.ex
    have no:∀ vs H Q E, ¬ spParts 0 vs H Q E:=fun vs H Q E h=>by
      obtain ⟨v,t,_,_,z,_⟩:=h
      have:=depth_pos t
      omega
    exact ⟨fa,fd,⟨fun vs H Q E h=>absurd h (no vs H Q E),fun A outer s H args us vs Q E _ _ _ _ h=>absurd h (no vs H Q E)⟩,hm,F.kp,hb⟩
  | n+1=>by
    have h_parts:=ok_parts D n
    refine D.has sc_parts (fun vs H Q E h => ?_) (fun f cdv A outer s H vs Q E hr h => ?_)
    · obtain ⟨v,t,rfl,_⟩:=h;rfl
    obtain ⟨v,t,rfl,hT,hd,q⟩:=h
    refine ⟨_,(pss_cons (ps_if (pt_cmpR op_ne (pe_ix ix_tup (pv 0) pe_int (fun _ _=>rfl)) pe_str (nomark _)) (pss_one (ps_ret pe_int)) pss_nil)
    (pss_cons (ps_set (i:=1) sc_parts.nd rfl (Or.inl rfl) pe_int)
    (pss_cons (ps_for PassesOwn.never rfl (pi_tup (pe_ix ix_tup (pv 0) pe_int (fun _ _=>rfl))) (pg_name (i:=2) sc_parts.nd rfl (Or.inl rfl))
    (pss_one (ps_aug (i:=1) sc_parts.nd rfl (Or.inl rfl) (pe_callH h_parts hr (by omega) rfl (pa_cons (pv 2) pa_nil)) ip_add)))
    (pss_one (ps_ret (pv 1)))))),?_⟩
    try dsimp only [cxOf]
    cases t with
    | num k =>
      rw [IsTr] at hT
      obtain ⟨a,rfl,h⟩:=hT
      rw [T.parts] at q
      exact ⟨_,rfl,a,_,0,_,rfl,rfl,SqT.of h,atI_nat (j:=0) rfl,rfl,_,rfl,iteDN (fun _=>q) (fun z=>absurd (V.str.inj z) (by decide))⟩
    | name x =>
      rw [IsTr] at hT
      obtain ⟨a,rfl,h⟩:=hT
      rw [T.parts] at q
      exact ⟨_,rfl,a,_,0,_,rfl,rfl,SqT.of h,atI_nat (j:=0) rfl,rfl,_,rfl,iteDN (fun _=>q) (fun z=>absurd (V.str.inj z) (by decide))⟩
    | any x =>
      rw [IsTr] at hT
      obtain ⟨a,rfl,h⟩:=hT
      rw [T.parts] at q
      exact ⟨_,rfl,a,_,0,_,rfl,rfl,SqT.of h,atI_nat (j:=0) rfl,rfl,_,rfl,iteDN (fun _=>q) (fun z=>absurd (V.str.inj z) (by decide))⟩
    | of x ts =>
      rw [IsTr] at hT
      rw [T.depth] at hd
      rw [T.parts] at q
      obtain ⟨a,b,vs,rfl,ha,hb,htr⟩:=hT
      refine ⟨_,rfl,a,_,0,_,rfl,rfl,SqT.of ha,atI_nat (j:=0) rfl,rfl,_,rfl,iteDN (fun z=>absurd rfl z) (fun _ => ?_)⟩
      have hlen:=trs_len htr
      refine ⟨_,rfl,a,_,2,_,rfl,rfl,SqT.of ha,atI_nat (j:=2) rfl,b,rfl,⟨vs,SqT.of hb⟩,?_⟩
      refine for_tup (xs:=vs) (fun i σ H'=>∃ o, σ = [some (.ref a),some (.int ((1+T.partss (ts.take i):Nat):Int)),o]∧H'=H) ⟨none,rfl,rfl⟩ ?_ ?_ ?_
      · rintro i σ H' _ ⟨o,rfl,rfl⟩
        exact SqT.of hb
      · rintro i y σ H' hy ⟨o,rfl,rfl⟩
        obtain ⟨ti,hti,hTi⟩:=trs_at htr hy
        have hmem:ti∈ts:=List.mem_of_getElem? hti
        have d1:=deepest_le hmem
        obtain ⟨hi,hge⟩:=List.getElem?_eq_some_iff.mp hti
        have e:((1+T.partss (ts.take (i+1)):Nat):Int)=((1+T.partss (ts.take i):Nat):Int)+((ti.parts:Nat):Int):=by rw [sum_take_parts ts i hi,hge];omega
        refine ⟨_,rfl,_,rfl,y,ti,rfl,hTi,by omega,_,_,rfl,rfl,⟨some y,?_,rfl⟩⟩
        rw [e]
        rfl
      · rintro σ H' ⟨o,rfl,rfl⟩
        rw [← hlen,List.take_length]
        exact ⟨_,rfl,q⟩
end

end K80
namespace K80
open PySem L2 Sw
section
variable {P:Program} {w:World} {K:PySem.W.Frag} {mg:Str→Option Value} {base:Heap} {CR CNT:Addr}
structure Top4 (K:PySem.W.Frag) (mg:Str→Option Value) (CR CNT:Addr):Prop where
  cR:Cls K CR
  nText:NoAttr K CR "text"
  nHoles:NoAttr K CR "with_holes"
  nPlace:NoAttr K CR "place"
  g_LETTERS:∃ t,mg "LETTERS" = some (.str "abcdefghijklmnopqrstuvwxyz" t)
  g_FIGURES:∃ t,mg "FIGURES" = some (.str "0123456789" t)
  g_MOST_LETTERS:∃ t,mg "MOST_LETTERS" = some (.int 8 t)
  g_MOST_FIGURES:∃ t,mg "MOST_FIGURES" = some (.int 60 t)
  g_MOST_ARMS:∃ t,mg "MOST_ARMS" = some (.int 4 t)
  g_MOST_PARTS:∃ t,mg "MOST_PARTS" = some (.int 120 t)
  g_MOST_DEEP:∃ t,mg "MOST_DEEP" = some (.int 30 t)
  oNoTree:Exc K mg "NoTree" CNT
inductive SpInit (CR:Addr) (vs:List V) (H:Hp) (Q:VK):Prop
  | mk (r dx:Addr) (tx:Str) (b:Bool) (z0:vs = [.ref r,.str tx,.bl b]) (z1:H r=some (.ins CR dx [])) (z2:Q .non (upd H r (rdr CR dx tx b 0))):SpInit CR vs H Q
noncomputable def spInit (CR:Addr):Sp:=fun vs H Q _=>SpInit CR vs H Q
theorem ok_init (Z:Top4 K mg CR CNT) (D:DefC K mg "Reader" CR "Reader.__init__" s_init ["self", "text", "with_holes"]):HasC P w K mg base 1 "Reader" CR ["self", "text", "with_holes"] (spInit CR):=by
  refine D.has sc_init (fun vs H Q E h => ?_) (fun f cdv A outer s H vs Q E hr h => ?_)
  · obtain ⟨r,dx,tx,b,rfl,_⟩:=h;rfl
  obtain ⟨r,dx,tx,b,rfl,hr1,q⟩:=h
  refine ⟨_,(pss_cons (ps_fld (pv 0) (pv 1) rfl)
    (pss_cons (ps_fld (pv 0) (pv 2) rfl)
    (pss_one (ps_fld (pv 0) pe_int rfl)))),?_⟩
  try dsimp only [cxOf]
  refine ⟨_,rfl,_,rfl,r,CR,dx,_,rfl,hr1,Z.cR,Z.nText,by decide,?_⟩
  refine ⟨_,rfl,_,rfl,r,CR,dx,_,rfl,upd_same,Z.cR,Z.nHoles,(show 1 < 1000 by decide),?_⟩
  refine ⟨_,rfl,r,CR,dx,_,rfl,upd_same,Z.cR,Z.nPlace,(show 2 < 1000 by decide),?_⟩
  rw [upd_upd,upd_upd]
  exact q
noncomputable def RdIn (CR:Addr) (H:Hp) (r dx:Addr) (tx:Str) (b:Bool) (p:Nat):Prop:=H r=some (rdr CR dx tx b p)∧p≤tx.length∧tx.length≤100000
noncomputable def ahd (tx:Str) (p:Nat):List Nat:=tx.cps.toList.drop p
inductive SpAhead (CR:Addr) (vs:List V) (H:Hp) (Q:VK):Prop
  | mk (r dx:Addr) (tx:Str) (b:Bool) (p:Nat) (z0:vs = [.ref r]) (z1:RdIn CR H r dx tx b p) (z2:Q (.str (mkS ((ahd tx p).take 1))) H):SpAhead CR vs H Q
noncomputable def spAhead (CR:Addr):Sp:=fun vs H Q _=>SpAhead CR vs H Q
theorem ok_ahead (Z:Top4 K mg CR CNT) (D:DefM K CR "ahead" "Reader.ahead" s_ahead ["self"]):HasM P w K mg base 1 CR "ahead" ["self"] (spAhead CR):=by
  refine D.has sc_ahead (fun vs H Q E h => ?_) (fun f cdv A outer s H vs Q E hr h => ?_)
  · obtain ⟨r,dx,tx,b,p,rfl,_⟩:=h;rfl
  obtain ⟨r,dx,tx,b,p,rfl,⟨hr1,hp,hz⟩,q⟩:=h
  refine ⟨_,(pss_one (ps_ret (pe_slice sl_str (pe_fld (pv 0) rfl) (po_some (pe_fld (pv 0) rfl)) (po_some (pe_op op_add (pe_fld (pv 0) rfl) pe_int))))),?_⟩
  try dsimp only [cxOf]
  refine ⟨_,rfl,r,CR,dx,_,_,rfl,hr1,Z.cR,Z.nText,rfl,?_⟩
  refine ⟨_,rfl,r,CR,dx,_,_,rfl,hr1,Z.cR,Z.nPlace,rfl,_,rfl,?_⟩
  refine ⟨_,rfl,r,CR,dx,_,_,rfl,hr1,Z.cR,Z.nPlace,rfl,_,_,rfl,rfl,_,rfl,tx,rfl,Nat.le_trans hz (by decide),?_⟩
  have e:((p:Int)+1)=((p+1:Nat):Int):=by omega
  rw [e,slice_cut tx hp,show p+1 - p=1 by omega]
  exact q
inductive SpTake (CR CNT:Addr) (vs:List V) (H:Hp) (Q:VK) (E:XK):Prop
  | mk (r dx:Addr) (tx:Str) (b:Bool) (p:Nat) (x:Str) (z0:vs = [.ref r,.str x]) (z1:RdIn CR H r dx tx b p) (z2:x.length≤10) (z3:(reprText x).length≤1000) (z4:((ahd tx p).take x.length=x.cps.toList→Q .non (upd H r (rdr CR dx tx b (p+x.length))))) (z5:((ahd tx p).take x.length≠x.cps.toList→E (.ref CNT) none H)):SpTake CR CNT vs H Q E
noncomputable def spTake (CR CNT:Addr):Sp:=fun vs H Q E=>SpTake CR CNT vs H Q E
theorem ok_take (B:Blt mg) (Z:Top4 K mg CR CNT) (D:DefM K CR "take" "Reader.take" s_take ["self", "wanted"]):HasM P w K mg base 1 CR "take" ["self", "wanted"] (spTake CR CNT):=by
  have oNoTree:=Z.oNoTree
  refine D.has sc_take (fun vs H Q E h => ?_) (fun f cdv A outer s H vs Q E hr h => ?_)
  · obtain ⟨r,dx,tx,b,p,x,rfl,_⟩:=h;rfl
  obtain ⟨r,dx,tx,b,p,x,rfl,⟨hr1,hp,hz⟩,hx,hrx,q1,q2⟩:=h
  refine ⟨_,(pss_cons (ps_set (i:=2) sc_take.nd rfl (Or.inl rfl) (pe_op op_add (pe_fld (pv 0) rfl) (pe_callB call_len_str rfl B.len_ PySem.boot_len (pa_cons (pv 1) pa_nil))))
    (pss_cons (ps_if (pt_cmpR op_ne (pe_slice sl_str (pe_fld (pv 0) rfl) (po_some (pe_fld (pv 0) rfl)) (po_some (pv 2))) (pv 1) (nomark _)) (pss_one (ps_raise oNoTree rfl (fun _ _ _ _ _ _ _ I hx q=>flies I hx q) (pa_cons (pe_joined (pj_cons (pe_fmtR (pv 1)) (pj_cons pe_str pj_nil))) pa_nil) rfl)) pss_nil)
    (pss_one (ps_fld (pv 0) (pv 2) rfl)))),?_⟩
  try dsimp only [cxOf]
  refine ⟨_,rfl,r,CR,dx,_,_,rfl,hr1,Z.cR,Z.nPlace,rfl,_,rfl,x,rfl,Nat.le_trans hx (by decide),_,_,rfl,rfl,?_⟩
  refine ⟨_,rfl,r,CR,dx,_,_,rfl,hr1,Z.cR,Z.nText,rfl,?_⟩
  refine ⟨_,rfl,r,CR,dx,_,_,rfl,hr1,Z.cR,Z.nPlace,rfl,_,rfl,_,rfl,_,rfl,tx,rfl,Nat.le_trans hz (by decide),_,rfl,?_⟩
  have e:((p:Int)+(x.length:Int))=((p+x.length:Nat):Int):=by omega
  have e2:Txt.slice tx (some (p:Int)) (some ((p:Int)+(x.length:Int)))=mkS ((ahd tx p).take x.length):=by
    rw [e,slice_cut tx hp,show p+x.length - p=x.length by omega];rfl
  refine ⟨rfl,_,rfl,iteDN (fun hne => ?_) (fun heq => ?_)⟩
  · rw [e2] at hne
    refine ⟨by decide,_,rfl,x,rfl,hrx,_,rfl,hrx,_,rfl,by decide,fun z=>⟨(show 1≤sizeLine by decide),q2 fun h=>hne ?_⟩⟩
    rw [h]
    exact congrArg V.str (str_ext rfl)
  · rw [e2] at heq
    have h:(ahd tx p).take x.length=x.cps.toList:=(congrArg (fun z:Str=>z.cps.toList) (V.str.inj heq):_)
    refine ⟨_,rfl,_,rfl,r,CR,dx,_,rfl,hr1,Z.cR,Z.nPlace,(show 3 < 1000 by decide),?_⟩
    have q:=q1 h
    unfold rdr at q
    rw [← e] at q
    exact q
inductive SpRun (CR:Addr) (vs:List V) (H:Hp) (Q:VK):Prop
  | mk (r dx:Addr) (tx:Str) (b:Bool) (p:Nat) (x:Str) (pr:Nat→Bool) (z0:vs = [.ref r,.str x]) (z1:RdIn CR H r dx tx b p) (z2:(∀ c,decide (c∈x.cps.toList)=pr c)) (z3:Q (.str (mkS ((ahd tx p).takeWhile pr))) (upd H r (rdr CR dx tx b (p+((ahd tx p).takeWhile pr).length)))):SpRun CR vs H Q
noncomputable def spRun (CR:Addr):Sp:=fun vs H Q _=>SpRun CR vs H Q
theorem ok_run (B:Blt mg) (Z:Top4 K mg CR CNT) (D:DefM K CR "take_run" "Reader.take_run" s_take_run ["self", "signs"]):HasM P w K mg base 1 CR "take_run" ["self", "signs"] (spRun CR):=by
  refine D.has sc_take_run (fun vs H Q E h => ?_) (fun f cdv A outer s H vs Q E hr h => ?_)
  · obtain ⟨r,dx,tx,b,p,x,pr,rfl,_⟩:=h;rfl
  obtain ⟨r,dx,tx,b,p,x,pr,rfl,⟨hr1,hp,hz⟩,hpr,q⟩:=h
  refine ⟨_,(pss_cons (ps_set (i:=2) sc_take_run.nd rfl (Or.inl rfl) (pe_fld (pv 0) rfl))
    (pss_cons (ps_while PassesOwn.leaving (PW.pt (pw_and (pt_cmpR op_lt (pe_fld (pv 0) rfl) (pe_callB call_len_str rfl B.len_ PySem.boot_len (pa_cons (pe_fld (pv 0) rfl) pa_nil)) (nomark _)) (pw_and1 (pt_cmpR op_in_str (pe_ix ix_str (pe_fld (pv 0) rfl) (pe_fld (pv 0) rfl) (fun _ _=>rfl)) (pv 1) (by with_unfolding_all rfl)))))
    (pss_one (ps_fldaug (pv 0) pe_int in_add)))
    (pss_one (ps_ret (pe_slice sl_str (pe_fld (pv 0) rfl) (po_some (pv 2)) (po_some (pe_fld (pv 0) rfl))))))),?_⟩
  try dsimp only [cxOf]
  refine ⟨_,rfl,r,CR,dx,_,_,rfl,hr1,Z.cR,Z.nPlace,rfl,?_⟩
  have hl:(ahd tx p).length=tx.length - p:=by unfold ahd;rw [List.length_drop,len_cps]
  have hn:=tw_le pr (ahd tx p)
  refine ⟨fun m σ' H'=>∃ j,j≤((ahd tx p).takeWhile pr).length∧m=((ahd tx p).takeWhile pr).length - j ∧ σ' = [some (.ref r),some (.str x),some (.int p)]∧H'=upd H r (rdr CR dx tx b (p+j)),⟨_,0,Nat.zero_le _,rfl,rfl,(upd_id hr1).symm⟩,?_⟩
  rintro m σ' H' ⟨j,hj,rfl,rfl,rfl⟩
  have big:tx.length≤sizeLine:=Nat.le_trans hz (by decide)
  have hat:∀ i,(ahd tx p)[i]? = tx.cps.toList[p+i]? := fun i=>by unfold ahd;rw [List.getElem?_drop]
  refine ⟨_,rfl,r,CR,dx,_,_,rfl,upd_same,Z.cR,Z.nPlace,rfl,_,rfl,r,CR,dx,_,_,rfl,upd_same,Z.cR,Z.nText,rfl,tx,rfl,big,?_⟩
  have fin:∀ Q':VK,j=((ahd tx p).takeWhile pr).length→Q' (.str (mkS ((ahd tx p).takeWhile pr))) (upd H r (rdr CR dx tx b (p+((ahd tx p).takeWhile pr).length))) →
      tSl rSlS (tFld K (tVar 0) "text") (tPart (tVar 2)) (tPart (tFld K (tVar 0) "place")) [some (V.ref r),some (V.str x),some (V.int p)] (upd H r (rdr CR dx tx b (p+j))) Q':=fun Q' hjn q'=>by
    subst hjn
    refine ⟨_,rfl,r,CR,dx,_,_,rfl,upd_same,Z.cR,Z.nText,rfl,_,rfl,_,rfl,_,rfl,r,CR,dx,_,_,rfl,upd_same,Z.cR,Z.nPlace,rfl,_,rfl,tx,rfl,big,?_⟩
    rw [slice_cut tx hp,show p+((ahd tx p).takeWhile pr).length - p=((ahd tx p).takeWhile pr).length by omega]
    have e:=tw_take pr (ahd tx p)
    unfold ahd at e q' ⊢
    rw [e]
    exact q'
  refine ⟨_,_,rfl,rfl,_,rfl,iteD (fun hlt => ?_) (fun hge => ?_)⟩
  · have hlt':p+j < tx.length:=by omega
    have hc:p+j < tx.cps.toList.length:=by rw [← len_cps];exact hlt'
    have hci:atI tx.cps.toList ((p+j:Nat):Int)=some tx.cps.toList[p+j]:=atI_nat (List.getElem?_eq_getElem hc)
    refine ⟨_,rfl,r,CR,dx,_,_,rfl,upd_same,Z.cR,Z.nText,rfl,_,rfl,r,CR,dx,_,_,rfl,upd_same,Z.cR,Z.nPlace,rfl,tx,_,tx.cps.toList[p+j],rfl,rfl,big,hci,_,rfl,_,_,rfl,rfl,_,rfl,?_⟩
    rw [StrLaws.found_one,hpr]
    cases hb:pr tx.cps.toList[p+j] with
    | true =>
      have hjn:j < ((ahd tx p).takeWhile pr).length:=by
        refine Nat.lt_of_not_le fun hle => ?_
        have hje:j=((ahd tx p).takeWhile pr).length:=by omega
        obtain ⟨c,h1,h2⟩:=tw_end pr (ahd tx p) (by rw [hl];omega)
        rw [← hje,hat,List.getElem?_eq_getElem hc] at h1
        cases h1
        rw [hb] at h2;cases h2
      refine iteT ⟨fun σ' H' => σ' = [some (.ref r),some (.str x),some (.int p)]∧H'=upd H r (rdr CR dx tx b (p+(j+1))),?_,?_⟩
      · rintro σ' H' ⟨rfl,rfl⟩
        exact ⟨((ahd tx p).takeWhile pr).length - (j+1),by omega,j+1,hjn,rfl,rfl,rfl⟩
      · refine ⟨_,rfl,r,CR,dx,_,_,rfl,upd_same,Z.cR,Z.nPlace,rfl,_,_,rfl,rfl,dx,_,upd_same,(show 3 < 1000 by decide),rfl,?_⟩
        rw [upd_upd]
        rfl
    | false =>
      refine iteF (fin _ ?_ q)
      refine Nat.le_antisymm hj (Nat.le_of_not_lt fun hjn => ?_)
      obtain ⟨c,h1,h2⟩:=tw_at pr (ahd tx p) j hjn
      rw [hat,List.getElem?_eq_getElem hc] at h1
      cases h1
      rw [hb] at h2;cases h2
  · exact iteF (fin _ (by omega) q)
inductive SpTWord (CR CNT:Addr) (vs:List V) (H:Hp) (Q:VK) (E:XK):Prop
  | mk (r dx:Addr) (tx:Str) (b:Bool) (p:Nat) (z0:vs = [.ref r]) (z1:RdIn CR H r dx tx b p) (z2:(∀ x l',pWord (ahd tx p)=some (x,l')→Q (.str (mkS x)) (upd H r (rdr CR dx tx b (p+x.length))))) (z3:(pWord (ahd tx p)=none→∀ H',KeepBut r H H'→E (.ref CNT) none H')):SpTWord CR CNT vs H Q E
noncomputable def spTWord (CR CNT:Addr):Sp:=fun vs H Q E=>SpTWord CR CNT vs H Q E
theorem ok_tword (B:Blt mg) (Z:Top4 K mg CR CNT) (h_take_run:HasM P w K mg base 1 CR "take_run" ["self", "signs"] (spRun CR)) (D:DefM K CR "take_word" "Reader.take_word" s_take_word ["self"]):HasM P w K mg base 2 CR "take_word" ["self"] (spTWord CR CNT):=by
  have oNoTree:=Z.oNoTree
  have cR:=Z.cR
  have g_LETTERS:=Z.g_LETTERS
  have g_MOST_LETTERS:=Z.g_MOST_LETTERS
  refine D.has sc_take_word (fun vs H Q E h => ?_) (fun f cdv A outer s H vs Q E hr h => ?_)
  · obtain ⟨r,dx,tx,b,p,rfl,_⟩:=h;rfl
  obtain ⟨r,dx,tx,b,p,rfl,⟨hr1,hp,hz⟩,q1,q2⟩:=h
  refine ⟨_,(pss_cons (ps_set (i:=1) sc_take_word.nd rfl (Or.inl rfl) (pe_mE h_take_run cR hr (by omega) (passE fun _ _ _ z=>z) (pv 0) (pa_cons (pe_globS g_LETTERS rfl) pa_nil)))
    (pss_cons (ps_if (PW.pt (pw_or (pt_cmpR op_eq (pv 1) pe_str (nomark _)) (pw_or1 (pt_cmpR op_gt (pe_callB call_len_str rfl B.len_ PySem.boot_len (pa_cons (pv 1) pa_nil)) (pe_globI g_MOST_LETTERS rfl) (nomark _))))) (pss_one (ps_raise oNoTree rfl (fun _ _ _ _ _ _ _ I hx q=>flies I hx q) (pa_cons (pe_joined (pj_cons pe_str (pj_cons (pe_fmtI (pe_globI g_MOST_LETTERS rfl)) (pj_cons pe_str pj_nil)))) pa_nil) rfl)) pss_nil)
    (pss_one (ps_ret (pv 1))))),?_⟩
  try dsimp only [cxOf]
  refine ⟨_,rfl,r,dx,_,rfl,hr1,rfl,r,dx,tx,b,p,_,isLet,rfl,⟨hr1,hp,hz⟩,lets_are,?_⟩
  have hl:(ahd tx p).length=tx.length - p:=by unfold ahd;rw [List.length_drop,len_cps]
  have hn:=tw_le isLet (ahd tx p)
  have bad:((ahd tx p).takeWhile isLet = []∨8 < ((ahd tx p).takeWhile isLet).length)→∀ H',KeepBut r H H'→E (.ref CNT) none H':=fun h=>q2 (by unfold pWord;rw [if_pos h])
  have big:(mkS ((ahd tx p).takeWhile isLet)).length≤sizeLine:=by rw [mkS_len];exact Nat.le_trans (by omega:_≤100000) (by decide)
  refine ⟨_,rfl,rfl,_,rfl,iteD (fun h0 => ?_) (fun h0 => ?_)⟩
  · exact iteT ⟨by decide,_,rfl,by decide,_,rfl,by decide,_,rfl,by decide,_,rfl,by decide,fun z=>⟨(show 1≤sizeLine by decide),bad (.inl (mkS_empty h0)) _ KeepBut.put⟩⟩
  · refine ⟨_,rfl,_,rfl,big,_,_,rfl,rfl,_,rfl,iteD (fun h1 => ?_) (fun h1 => ?_)⟩
    · rw [mkS_len] at h1
      exact ⟨by decide,_,rfl,by decide,_,rfl,by decide,_,rfl,by decide,_,rfl,by decide,fun z=>⟨(show 1≤sizeLine by decide),bad (.inr (by omega)) _ KeepBut.put⟩⟩
    · rw [mkS_len] at h1
      refine ⟨_,rfl,q1 _ ((ahd tx p).drop ((ahd tx p).takeWhile isLet).length) ?_⟩
      unfold pWord
      rw [if_neg fun z=>z.elim (mkS_ne h0) (by omega)]
theorem rdcut {t rest:TS} {D:Ends} {σ : St} {H:Hp} (R:St→Hp→Prop) (key:∀ σ' H',R σ' H'→rest D σ' H') (h:∀ {N:St→Hp→Prop},(∀ σ' H',R σ' H'→N σ' H')→t { D with nx:=N } σ H):tSeq t rest D σ H:=h key
theorem ahd_len {tx:Str} {p:Nat}:(ahd tx p).length=tx.length - p:=by unfold ahd;rw [List.length_drop,len_cps]
theorem ahd_drop {tx:Str} {p n:Nat}:(ahd tx p).drop n=ahd tx (p+n):=by unfold ahd;rw [List.drop_drop]
inductive SpNum (CR CNT:Addr) (vs:List V) (H:Hp) (Q:VK) (E:XK):Prop
  | mk (r dx:Addr) (tx:Str) (b:Bool) (p:Nat) (z0:vs = [.ref r]) (z1:RdIn CR H r dx tx b p) (z2:(∀ n l',pNum (ahd tx p)=some (n,l')→∀ a H' p',KeepBut r H H'→RdIn CR H' r dx tx b p'→ahd tx p'=l'→H' a=some (.tup [.str "num",.int n])→Q (.ref a) H')) (z3:(pNum (ahd tx p)=none→∀ H',KeepBut r H H'→E (.ref CNT) none H')):SpNum CR CNT vs H Q E
noncomputable def spNum (CR CNT:Addr):Sp:=fun vs H Q E=>SpNum CR CNT vs H Q E
theorem ok_number4 (B:Blt mg) (Z:Top4 K mg CR CNT) (h_ahead:HasM P w K mg base 1 CR "ahead" ["self"] (spAhead CR)) (h_take_run:HasM P w K mg base 1 CR "take_run" ["self", "signs"] (spRun CR)) (D:DefM K CR "take_number" "Reader.take_number" s_take_number ["self"]) :
    HasM P w K mg base 2 CR "take_number" ["self"] (spNum CR CNT):=by
  have oNoTree:=Z.oNoTree
  have cR:=Z.cR
  have g_FIGURES:=Z.g_FIGURES
  have g_MOST_FIGURES:=Z.g_MOST_FIGURES
  refine D.has sc_take_number (fun vs H Q E h => ?_) (fun f cdv A outer s H vs Q E hr h => ?_)
  · obtain ⟨r,dx,tx,b,p,rfl,_⟩:=h;rfl
  obtain ⟨r,dx,tx,b,p,rfl,⟨hr1,hp,hz⟩,q1,q2⟩:=h
  refine ⟨_,(pss_cons (ps_set (i:=1) sc_take_number.nd rfl (Or.inl rfl) (pe_fld (pv 0) rfl))
    (pss_cons (ps_if (pt_cmpR op_eq (pe_mE0 h_ahead cR hr (by omega) (passE fun _ _ _ z=>z) (pv 0)) pe_str (nomark _)) (pss_one (ps_fldaug (pv 0) pe_int in_add)) pss_nil)
    (pss_cons (ps_set (i:=2) sc_take_number.nd rfl (Or.inl rfl) (pe_mE h_take_run cR hr (by omega) (passE fun _ _ _ z=>z) (pv 0) (pa_cons (pe_globS g_FIGURES rfl) pa_nil)))
    (pss_cons (ps_if (PW.pt (pw_or (pt_cmpR op_eq (pv 2) pe_str (nomark _)) (pw_or1 (pt_cmpR op_gt (pe_callB call_len_str rfl B.len_ PySem.boot_len (pa_cons (pv 2) pa_nil)) (pe_globI g_MOST_FIGURES rfl) (nomark _))))) (pss_one (ps_raise oNoTree rfl (fun _ _ _ _ _ _ _ I hx q=>flies I hx q) (pa_cons (pe_joined (pj_cons pe_str (pj_cons (pe_fmtI (pe_globI g_MOST_FIGURES rfl)) (pj_cons pe_str pj_nil)))) pa_nil) rfl)) pss_nil)
    (pss_cons (ps_set (i:=3) sc_take_number.nd rfl (Or.inl rfl) (pe_slice sl_str (pe_fld (pv 0) rfl) (po_some (pv 1)) (po_some (pe_fld (pv 0) rfl))))
    (pss_cons (ps_if (PW.pt (pw_and (pt_cmpR op_eq (pe_ix ix_str (pv 2) pe_int (fun _ _=>rfl)) pe_str (nomark _)) (pw_and1 (pt_cmpR op_ne (pv 3) pe_str (nomark _))))) (pss_one (ps_raise oNoTree rfl (fun _ _ _ _ _ _ _ I hx q=>flies I hx q) (pa_cons pe_str pa_nil) rfl)) pss_nil)
    (pss_one (ps_ret (pe_tup (pa_cons pe_str (pa_cons (pe_callTy call_int_text rfl B.int_ boot_int_ (pa_cons (pv 3) pa_nil)) pa_nil))))))))))),?_⟩
  try dsimp only [cxOf]
  refine ⟨_,rfl,r,CR,dx,_,_,rfl,hr1,Z.cR,Z.nPlace,rfl,?_⟩
  dsimp only [gName]
  refine rdcut (fun σ' H'=>∃ (p1:Nat) (pre:List Nat), σ' = [some (.ref r),some (.int p),none,none]∧H'=upd H r (rdr CR dx tx b p1)∧p1=p+pre.length∧p1≤tx.length∧ahd tx p=pre ++ ahd tx p1∧(pre = []∧(ahd tx p).head? ≠ some 45∨pre = [45])) ?_ (fun key => ?_)
  · rintro σ' H' ⟨p1,pre,rfl,rfl,hp1,hp1l,hl,hpre⟩
    refine ⟨_,rfl,r,dx,_,rfl,upd_same,rfl,r,dx,tx,b,p1,_,isFig,rfl,⟨upd_same,hp1l,hz⟩,figs_are,?_⟩
    have hn:=tw_le isFig (ahd tx p1)
    rw [ahd_len] at hn
    generalize hF:(ahd tx p1).takeWhile isFig=F at hn
    have hFd:PySem.NumText.AllDigits F:=fun c hc=>by
      rw [← hF] at hc
      have:=tw_all _ _ c hc
      unfold isFig at this
      exact of_decide_eq_true this
    have hcut:(ahd tx p).take (p1+F.length - p)=pre ++ F:=by
      rw [hl,show p1+F.length - p=pre.length+F.length by omega,List.take_append,List.take_of_length_le (by omega),show pre.length+F.length - pre.length=F.length by omega, ← hF,tw_take]
    rw [upd_upd]
    have hN:pNum (ahd tx p)=if F = []∨60 < F.length then none else if F.head? = some 48∧¬ (pre = []∧F = [48]) then none else some (if pre = [] then ((PySem.NumText.digitsVal F:Nat):Int) else -((PySem.NumText.digitsVal F:Nat):Int),ahd tx (p1+F.length)):=by
      rcases hpre with ⟨rfl,hh⟩ | rfl
      · have e:ahd tx p=ahd tx p1:=hl
        unfold pNum
        rw [decide_eq_false hh]
        simp only [Bool.false_eq_true,if_false,e,hF,true_and,if_true,ahd_drop]
      · have e:ahd tx p=45 :: ahd tx p1:=hl
        unfold pNum
        rw [e]
        simp only [List.head?_cons,List.tail_cons,decide_true,if_true,hF,ahd_drop]
        simp
    have big:(mkS F).length≤sizeLine:=by rw [mkS_len];exact Nat.le_trans (by omega:_≤100000) (by decide)
    have bad:(F = []∨60 < F.length)→∀ H',KeepBut r H H'→E (.ref CNT) none H':=fun h=>q2 (by rw [hN,if_pos h])
    dsimp only [gName]
    refine rdcut (fun σ' H' => σ' = [some (.ref r),some (.int p),some (.str (mkS F)),none]∧H'=upd H r (rdr CR dx tx b (p1+F.length))∧F ≠ []∧F.length≤60) ?_ (fun key => ?_)
    · rintro σ' H' ⟨rfl,rfl,hF0,hF60⟩
      refine ⟨_,rfl,r,CR,dx,_,_,rfl,upd_same,Z.cR,Z.nText,rfl,_,rfl,_,rfl,_,rfl,r,CR,dx,_,_,rfl,upd_same,Z.cR,Z.nPlace,rfl,_,rfl,tx,rfl,Nat.le_trans hz (by decide),?_⟩
      rw [slice_cut tx hp]
      have hcut':(tx.cps.toList.drop p).take (p1+F.length - p)=pre ++ F:=hcut
      rw [hcut']
      dsimp only [gName]
      have hlen:(mkS (pre ++ F)).length≤61:=by
        rw [mkS_len,List.length_append]
        rcases hpre with ⟨rfl,_⟩ | rfl
        · simp;omega
        · simp;omega
      have hint:intText? (mkS (pre ++ F))=some (if pre = [] then ((PySem.NumText.digitsVal F:Nat):Int) else -((PySem.NumText.digitsVal F:Nat):Int)):=by
        rcases hpre with ⟨rfl,_⟩ | rfl
        · rw [if_pos rfl]
          exact PySem.intText_digits (x:=mkS ([] ++ F)) hFd hF0 (Nat.le_trans hlen (by decide))
        · rw [if_neg (by simp)]
          exact PySem.intText_neg (x:=mkS ([45] ++ F)) rfl hFd hF0 (Nat.le_trans hlen (by decide))
      refine rdcut (fun σ' H' => σ' = [some (.ref r),some (.int p),some (.str (mkS F)),some (.str (mkS (pre ++ F)))]∧H'=upd H r (rdr CR dx tx b (p1+F.length))∧¬ (F.head? = some 48∧¬ (pre = []∧F = [48]))) ?_ (fun key => ?_)
      · rintro σ' H' ⟨rfl,rfl,hok⟩
        refine ⟨_,rfl,_,_,rfl,hint,Nat.le_trans hlen (by decide),(show 2≤sizeLine by decide),fun a ha => ?_⟩
        refine q1 _ (ahd tx (p1+F.length)) ?_ a _ (p1+F.length) (KeepBut.put.trans (KeepBut.new ha)) ⟨?_,by omega,hz⟩ rfl upd_same
        · rw [hN,if_neg (fun z=>z.elim hF0 (by omega)),if_neg hok]
        · rw [upd_ne (ne_of_none upd_same ha),upd_same]
      · cases hF2:F with
        | nil=>exact absurd hF2 hF0
        | cons c0 F' =>
          rw [← hF2]
          have hat0:atI (mkS F).cps.toList (0:Int)=some c0:=atI_nat (j:=0) (by rw [mkS_cps,hF2];rfl)
          refine ⟨_,rfl,mkS F,0,c0,rfl,rfl,big,hat0,rfl,_,rfl,iteD (fun h0 => ?_) (fun h0 => ?_)⟩
          · have hc0:c0=48:=by
              have:=congrArg (fun z:Str=>z.cps.toList) (V.str.inj h0)
              exact (List.cons.inj this).1
            refine ⟨_,rfl,rfl,_,rfl,iteDN (fun hne => ?_) (fun heq => ?_)⟩
            · refine ⟨(show 1≤sizeLine by decide),q2 ?_ _ KeepBut.put⟩
              have hh:F.head? = some 48∧¬ (pre = []∧F = [48]):=⟨by rw [hF2,hc0];rfl,fun z=>hne (by rw [z.1,z.2];exact congrArg V.str (str_ext rfl))⟩
              rw [hN,if_neg (fun z=>z.elim hF0 (by omega)),if_pos hh]
            · refine key _ _ ⟨rfl,rfl,fun z=>z.2 ?_⟩
              have e:pre ++ F = [48]:=congrArg (fun z:Str=>z.cps.toList) (V.str.inj heq)
              rcases hpre with ⟨rfl,_⟩ | rfl
              · exact ⟨rfl,e⟩
              · simp at e
          · refine iteF (key _ _ ⟨rfl,rfl,fun z=>h0 ?_⟩)
            have e:=z.1
            rw [hF2] at e
            cases e
            exact congrArg V.str (str_ext rfl)
    · refine ⟨_,rfl,rfl,_,rfl,iteD (fun h0 => ?_) (fun h0 => ?_)⟩
      · exact iteT ⟨by decide,_,rfl,by decide,_,rfl,by decide,_,rfl,by decide,_,rfl,by decide,fun z=>⟨(show 1≤sizeLine by decide),bad (.inl (mkS_empty h0)) _ KeepBut.put⟩⟩
      · refine ⟨_,rfl,_,rfl,big,_,_,rfl,rfl,_,rfl,iteD (fun h1 => ?_) (fun h1 => ?_)⟩
        · rw [mkS_len] at h1
          exact ⟨by decide,_,rfl,by decide,_,rfl,by decide,_,rfl,by decide,_,rfl,by decide,fun z=>⟨(show 1≤sizeLine by decide),bad (.inr (by omega)) _ KeepBut.put⟩⟩
        · rw [mkS_len] at h1
          exact key _ _ ⟨rfl,rfl,mkS_ne h0,by omega⟩
  · refine ⟨_,rfl,r,dx,_,rfl,hr1,rfl,r,dx,tx,b,p,rfl,⟨hr1,hp,hz⟩,rfl,_,rfl,iteD (fun h0 => ?_) (fun h0 => ?_)⟩
    · have e:(ahd tx p).take 1 = [45]:=congrArg (fun z:Str=>z.cps.toList) (V.str.inj h0)
      have e2:ahd tx p=45 :: ahd tx (p+1):=by
        rw [← ahd_drop, ← List.take_append_drop 1 (ahd tx p),e]
        simp
      have hpl:p+1≤tx.length:=by
        have:=congrArg List.length e2
        rw [ahd_len,List.length_cons] at this
        omega
      refine ⟨_,rfl,r,CR,dx,_,_,rfl,hr1,Z.cR,Z.nPlace,rfl,_,_,rfl,rfl,dx,_,hr1,(show 3 < 1000 by decide),key _ _ ⟨p+1, [45],rfl,rfl,rfl,hpl,e2,.inr rfl⟩⟩
    · refine key _ _ ⟨p, [],rfl,(upd_id hr1).symm,rfl,hp,rfl,.inl ⟨rfl,fun hh=>h0 ?_⟩⟩
      cases e:ahd tx p with
      | nil=>rw [e] at hh;cases hh
      | cons c l =>
        rw [e] at hh
        cases hh
        exact congrArg V.str (str_ext rfl)
end

end K80
namespace K80
open PySem L2 Sw
section
variable {P:Program} {w:World} {K:PySem.W.Frag} {mg:Str→Option Value} {base:Heap} {CR CNT:Addr}
inductive SpTree (CR CNT:Addr) (k:Nat) (vs:List V) (H:Hp) (Q:VK) (E:XK):Prop
  | mk (r dx:Addr) (tx:Str) (b:Bool) (p:Nat) (z0:vs = [.ref r,.int (31 - (k:Int))]) (z1:RdIn CR H r dx tx b p) (z2:(∀ t l',pTree b k (ahd tx p)=some (t,l')→∀ v H' p',KeepBut r H H'→RdIn CR H' r dx tx b p'→ahd tx p'=l'→IsTr H' t v→Q v H')) (z3:(pTree b k (ahd tx p)=none→∀ H',KeepBut r H H'→E (.ref CNT) none H')):SpTree CR CNT k vs H Q E
noncomputable def spTree (CR CNT:Addr) (k:Nat):Sp:=fun vs H Q E=>SpTree CR CNT k vs H Q E
inductive SpArms (CR CNT:Addr) (k:Nat) (vs:List V) (H:Hp) (Q:VK) (E:XK):Prop
  | mk (r dx:Addr) (tx:Str) (b:Bool) (p:Nat) (z0:vs = [.ref r,.int (31 - (k:Int))]) (z1:RdIn CR H r dx tx b p) (z2:(∀ ts l',pArms (pTree b k) (ahd tx p)=some (ts,l')→∀ a us H' p',KeepBut r H H'→RdIn CR H' r dx tx b p'→ahd tx p'=l'→H' a=some (.tup us)→IsTrs H' ts us→Q (.ref a) H')) (z3:(pArms (pTree b k) (ahd tx p)=none→∀ H',KeepBut r H H'→E (.ref CNT) none H')):SpArms CR CNT k vs H Q E
noncomputable def spArms (CR CNT:Addr) (k:Nat):Sp:=fun vs H Q E=>SpArms CR CNT k vs H Q E
structure ArmS (CR:Addr) (H:Hp) (r dx:Addr) (tx:Str) (b:Bool) (k:Nat) (pa:Addr) (p:Nat) (us:List V) (ts:List T) (p2 n2:Nat) (σ':St) (H':Hp):Prop where
  es : σ' = [some (.ref r),some (.int (31 - (k:Int))),some (.ref pa)]
  kb:KeepBut r H H'
  hl:H' pa=some (.lst us)
  rd:RdIn CR H' r dx tx b p2
  htr:IsTrs H' ts us
  hlen:us.length+(ahd tx p2).length≤100001
  hn2:(ahd tx p2).length < n2
  heq:pArms (pTree b k) (ahd tx p)=(match pMore (pTree b k) n2 (ahd tx p2) with | some (us2,l2)=>if 4 < (ts ++ us2).length then none else some (ts ++ us2,l2) | none=>none)
theorem ok_arms (B:Blt mg) (Z:Top4 K mg CR CNT) {n k:Nat} (hn:1≤n) (h_ahead:HasM P w K mg base 1 CR "ahead" ["self"] (spAhead CR)) (h_take:HasM P w K mg base 1 CR "take" ["self", "wanted"] (spTake CR CNT))
    (h_take_tree:HasM P w K mg base n CR "take_tree" ["self", "deep"] (spTree CR CNT k)) (D:DefM K CR "take_arms" "Reader.take_arms" s_take_arms ["self", "deep"]) :
    HasM P w K mg base (n+1) CR "take_arms" ["self", "deep"] (spArms CR CNT k):=by
  have oNoTree:=Z.oNoTree
  have cR:=Z.cR
  have g_MOST_ARMS:=Z.g_MOST_ARMS
  refine D.has sc_take_arms (fun vs H Q E h => ?_) (fun f cdv A outer s H vs Q E hr h => ?_)
  · obtain ⟨r,dx,tx,b,p,rfl,_⟩:=h;rfl
  obtain ⟨r,dx,tx,b,p,rfl,⟨hr1,hp,hz⟩,q1,q2⟩:=h
  refine ⟨_,(pss_cons (ps_set (i:=2) sc_take_arms.nd rfl (Or.inl rfl) (pe_lst (pa_cons (pe_mE h_take_tree cR hr (by omega) (passE fun _ _ _ z=>z) (pv 0) (pa_cons (pv 1) pa_nil)) pa_nil)))
    (pss_cons (ps_while PassesOwn.leaving (pt_cmpR op_eq (pe_mE0 h_ahead cR hr (by omega) (passE fun _ _ _ z=>z) (pv 0)) pe_str (nomark _))
    (pss_cons (ps_expr (pe_mE h_take cR hr (by omega) (passE fun _ _ _ z=>z) (pv 0) (pa_cons pe_str pa_nil)))
    (pss_one (ps_expr (pe_bm PySem.F.plainAttrs_list PySem.F.slot_list_append PySem.F.type_list_append mt_append (pv 2) (pa_cons (pe_mE h_take_tree cR hr (by omega) (passE fun _ _ _ z=>z) (pv 0) (pa_cons (pv 1) pa_nil)) pa_nil))))))
    (pss_cons (ps_expr (pe_mE h_take cR hr (by omega) (passE fun _ _ _ z=>z) (pv 0) (pa_cons pe_str pa_nil)))
    (pss_cons (ps_if (pt_cmpR op_gt (pe_callB call_len_seq rfl B.len_ PySem.boot_len (pa_cons (pv 2) pa_nil)) (pe_globI g_MOST_ARMS rfl) (nomark _)) (pss_one (ps_raise oNoTree rfl (fun _ _ _ _ _ _ _ I hx q=>flies I hx q) (pa_cons (pe_joined (pj_cons pe_str (pj_cons (pe_fmtI (pe_globI g_MOST_ARMS rfl)) (pj_cons pe_str pj_nil)))) pa_nil) rfl)) pss_nil)
    (pss_one (ps_ret (pe_callTy call_tuple_of rfl B.tuple_ boot_tuple_ (pa_cons (pv 2) pa_nil)))))))),?_⟩
  try dsimp only [cxOf]
  refine ⟨_,rfl,r,dx,_,rfl,hr1,rfl,_,rfl,r,dx,tx,b,p,rfl,⟨hr1,hp,hz⟩,fun t l1 e1 v H1 p1 kb1 rd1 el1 tr1 => ?_,fun e1 H' kb=>q2 (by unfold pArms;rw [e1]) H' kb⟩
  refine ⟨(show 1≤sizeLine by decide),fun pa hpa => ?_⟩
  dsimp only [gName]
  have npr:pa≠r:=fun z=>by rw [z,rd1.1] at hpa;cases hpa
  have hpa0:H pa=none:=by
    cases e:H pa with
    | none=>rfl
    | some o=>have:=kb1 pa o npr e;rw [hpa] at this;cases this
  have big5:(100001:Nat) < sizeLine:=by decide
  refine rdcut (fun σ' H'=>∃ (us:List V) (ts:List T) (p2 n2:Nat),ArmS CR H r dx tx b k pa p us ts p2 n2 σ' H'∧(ahd tx p2).take 1 ≠ [44]) ?_ (fun key => ?_)
  · rintro σ' H' ⟨us,ts,p2,n2,⟨rfl,kb,hl,rd,htr,hlen,hn2,heq⟩,no44⟩
    obtain ⟨n3,rfl⟩:∃ n3,n2=n3+1:=⟨n2 - 1,by omega⟩
    have no2:(ahd tx p2).take 2 ≠ [44,32]:=fun z=>no44 (by obtain ⟨r',e⟩:=take2 z;rw [e];rfl)
    refine ⟨_,rfl,r,dx,_,rfl,rd.1,rfl,r,dx,tx,b,p2, ")",rfl,rd,by decide,by decide +kernel,fun hc => ?_,fun hc=>q2 (by rw [heq,pm_none no2 hc]) H' kb⟩
    have hc2:(ahd tx p2).take 1 = [41]:=hc
    obtain ⟨l3,el3⟩:=take1 hc2
    have el3':ahd tx (p2+1)=l3:=by rw [← ahd_drop,el3];rfl
    have hl3:(ahd tx p2).length=l3.length+1:=by rw [el3];rfl
    have hp3:p2+1≤tx.length:=by
      have:=rd.2.1
      rw [ahd_len] at hl3
      omega
    rw [el3,pm_close] at heq
    dsimp only at heq
    rw [List.append_nil] at heq
    rw [show (")" : Str).length=1 from rfl]
    have kb3:KeepBut r H (upd H' r (rdr CR dx tx b (p2+1))):=kb.trans KeepBut.put
    have hl3':(upd H' r (rdr CR dx tx b (p2+1))) pa=some (.lst us):=by rw [upd_ne npr];exact hl
    have htr3:IsTrs (upd H' r (rdr CR dx tx b (p2+1))) ts us:=trs_keep (keep_put rd.1 trivial) htr
    have rd3:RdIn CR (upd H' r (rdr CR dx tx b (p2+1))) r dx tx b (p2+1):=⟨upd_same,hp3,hz⟩
    generalize upd H' r (rdr CR dx tx b (p2+1))=H3 at kb3 hl3' htr3 rd3 ⊢
    have hts:=trs_len htr3
    refine ⟨_,rfl,pa,us,rfl,.inl (SqL.of hl3'),_,_,rfl,rfl,_,rfl,iteD (fun h4 => ?_) (fun h4 => ?_)⟩
    · exact ⟨by decide,_,rfl,by decide,_,rfl,by decide,_,rfl,by decide,_,rfl,by decide,fun z=>⟨(show 1≤sizeLine by decide),q2 (by rw [heq,if_pos (by omega)]) H3 kb3⟩⟩
    · refine ⟨_,rfl,pa,us,rfl,.inl ⟨SqL.of hl3',fun a ha=>q1 ts l3 (by rw [heq,if_neg (by omega)]) a us _ (p2+1) (kb3.trans (KeepBut.new ha)) ⟨?_,rd3.2⟩ el3' upd_same (trs_same (same_new ha _) htr3)⟩⟩
      rw [upd_ne (ne_of_none rd3.1 ha)];exact rd3.1
  · refine ⟨fun m σ' H'=>∃ (us:List V) (ts:List T) (p2 n2:Nat),m=(ahd tx p2).length∧ArmS CR H r dx tx b k pa p us ts p2 n2 σ' H',⟨_, [v], [t],p1,l1.length+1,rfl,rfl,kb1.trans (KeepBut.new hpa),upd_same,?_,?_,?_,?_,?_⟩,?_⟩
    · exact ⟨by rw [upd_ne (Ne.symm npr)];exact rd1.1,rd1.2⟩
    · rw [IsTrs]
      exact ⟨v, [],rfl,tr_same (same_new hpa _) tr1,by rw [IsTrs]⟩
    · rw [ahd_len];simp;omega
    · rw [el1];omega
    · unfold pArms
      rw [e1,el1]
      dsimp only
      cases pMore (pTree b k) (l1.length+1) l1 with
      | none=>rfl
      | some z =>
        obtain ⟨us2,l2⟩:=z
        dsimp only
        rw [List.singleton_append,List.length_cons]
    rintro m σ' H' ⟨us,ts,p2,n2,rfl,⟨rfl,kb,hl,rd,htr,hlen,hn2,heq⟩⟩
    refine ⟨_,rfl,r,dx,_,rfl,rd.1,rfl,r,dx,tx,b,p2,rfl,rd,rfl,_,rfl,iteD (fun h0 => ?_) (fun h0 => ?_)⟩
    · have h44:(ahd tx p2).take 1 = [44]:=congrArg (fun z:Str=>z.cps.toList) (V.str.inj h0)
      obtain ⟨n3,rfl⟩:∃ n3,n2=n3+1:=⟨n2 - 1,by omega⟩
      refine ⟨fun σ' H'=>∃ (us:List V) (ts:List T) (p3 n2:Nat),(ahd tx p3).length < (ahd tx p2).length∧ArmS CR H r dx tx b k pa p us ts p3 n2 σ' H',?_,?_⟩
      · rintro σ' H' ⟨us',ts',p3,n2',hlt,r1⟩
        exact ⟨_,hlt,us',ts',p3,n2',rfl,r1⟩
      · have no41:(ahd tx p2).take 1 ≠ [41]:=by rw [h44];decide
        refine ⟨_,rfl,r,dx,_,rfl,rd.1,rfl,r,dx,tx,b,p2, ", ",rfl,rd,by decide,by decide +kernel,fun hc => ?_,fun hc=>q2 (by rw [heq,pm_none hc no41]) H' kb⟩
        have hc2:(ahd tx p2).take 2 = [44,32]:=hc
        obtain ⟨l3,el3⟩:=take2 hc2
        have el3':ahd tx (p2+2)=l3:=by rw [← ahd_drop,el3];rfl
        have hl3:(ahd tx p2).length=l3.length+2:=by rw [el3];rfl
        have hp3:p2+2≤tx.length:=by
          have:=rd.2.1
          rw [ahd_len] at hl3
          omega
        rw [el3,pm_comma] at heq
        rw [show (", " : Str).length=2 from rfl]
        have kb3:KeepBut r H (upd H' r (rdr CR dx tx b (p2+2))):=kb.trans KeepBut.put
        have hl3':(upd H' r (rdr CR dx tx b (p2+2))) pa=some (.lst us):=by rw [upd_ne npr];exact hl
        have htr3:IsTrs (upd H' r (rdr CR dx tx b (p2+2))) ts us:=trs_keep (keep_put rd.1 trivial) htr
        have rd3:RdIn CR (upd H' r (rdr CR dx tx b (p2+2))) r dx tx b (p2+2):=⟨upd_same,hp3,hz⟩
        generalize upd H' r (rdr CR dx tx b (p2+2))=H3 at kb3 hl3' htr3 rd3 ⊢
        refine ⟨_,rfl,.inl ⟨rfl,_,SqL.of hl3'⟩,_,rfl,r,dx,_,rfl,rd3.1,rfl,_,rfl,r,dx,tx,b,p2+2,rfl,rd3,fun t4 l4 e4 v4 H4 p4 kb4 rd4 el4 tr4 => ?_,fun e4 H4 kb4=>q2 (by rw [heq, ← el3',e4]) H4 (kb3.trans kb4)⟩
        rw [el3'] at e4
        rw [e4] at heq
        have hl4:H4 pa=some (.lst us):=kb4 pa _ npr hl3'
        have htr4:IsTrs H4 ts us:=trs_keep (kb4.tups rd3.1 trivial) htr3
        have hlen4:=pt_len b k _ _ _ e4
        refine ⟨pa,us,v4,rfl,rfl,hl4,?_,us ++ [v4],ts ++ [t4],p4,n3,?_,rfl,?_,upd_same,?_,?_,?_,?_,?_⟩
        · omega
        · rw [el4];omega
        · refine fun a o na ha => ?_
          rw [upd_ne (fun z=>by rw [z,hpa0] at ha;cases ha)]
          exact kb4 a o na (kb3 a o na ha)
        · exact ⟨by rw [upd_ne (Ne.symm npr)];exact rd4.1,rd4.2⟩
        · exact trs_snoc (trs_keep (keep_put hl4 trivial) htr4) (tr_keep (keep_put hl4 trivial) tr4)
        · rw [List.length_append,List.length_singleton,el4];omega
        · rw [el4];omega
        · rw [el4,heq]
          dsimp only
          cases pMore (pTree b k) n3 l4 with
          | none=>rfl
          | some z =>
            obtain ⟨us2,l2⟩:=z
            dsimp only
            rw [List.append_assoc,List.singleton_append]
    · refine key _ _ ⟨us,ts,p2,n2,⟨rfl,kb,hl,rd,htr,hlen,hn2,heq⟩,fun z=>h0 ?_⟩
      rw [z]
      exact congrArg V.str (str_ext rfl)
end

end K80
namespace K80
open PySem L2 Sw
section
variable {P:Program} {w:World} {K:PySem.W.Frag} {mg:Str→Option Value} {base:Heap} {CR CNT:Addr}
theorem tree_step (B:Blt mg) (Z:Top4 K mg CR CNT) {n k:Nat} {spA:Sp} (hn:2≤n) (hA:∀ k',k=k'+1→spA=spArms CR CNT k') (h_ahead:HasM P w K mg base 1 CR "ahead" ["self"] (spAhead CR)) (h_take:HasM P w K mg base 1 CR "take" ["self", "wanted"] (spTake CR CNT))
    (h_take_word:HasM P w K mg base 2 CR "take_word" ["self"] (spTWord CR CNT)) (h_take_number:HasM P w K mg base 2 CR "take_number" ["self"] (spNum CR CNT)) (h_take_arms:HasM P w K mg base n CR "take_arms" ["self", "deep"] spA)
    (D:DefM K CR "take_tree" "Reader.take_tree" s_take_tree ["self", "deep"]):HasM P w K mg base (n+1) CR "take_tree" ["self", "deep"] (spTree CR CNT k):=by
  have oNoTree:=Z.oNoTree
  have cR:=Z.cR
  have g_MOST_DEEP:=Z.g_MOST_DEEP
  have g_FIGURES:=Z.g_FIGURES
  refine D.has sc_take_tree (fun vs H Q E h => ?_) (fun f cdv A outer s H vs Q E hr h => ?_)
  · obtain ⟨r,dx,tx,b,p,rfl,_⟩:=h;rfl
  obtain ⟨r,dx,tx,b,p,rfl,⟨hr1,hp,hz⟩,q1,q2⟩:=h
  refine ⟨_,(pss_cons (ps_if (pt_cmpR op_gt (pv 1) (pe_globI g_MOST_DEEP rfl) (nomark _)) (pss_one (ps_raise oNoTree rfl (fun _ _ _ _ _ _ _ I hx q=>flies I hx q) (pa_cons (pe_joined (pj_cons pe_str (pj_cons (pe_fmtI (pe_globI g_MOST_DEEP rfl)) (pj_cons pe_str pj_nil)))) pa_nil) rfl)) pss_nil)
    (pss_cons (ps_set (i:=2) sc_take_tree.nd rfl (Or.inl rfl) (pe_mE0 h_ahead cR hr (by omega) (passE fun _ _ _ z=>z) (pv 0)))
    (pss_cons (ps_if (pt_cmpR op_eq (pv 2) pe_str (nomark _)) (pss_one (ps_raise oNoTree rfl (fun _ _ _ _ _ _ _ I hx q=>flies I hx q) (pa_cons pe_str pa_nil) rfl)) pss_nil)
    (pss_cons (ps_if (PW.pt (pw_or (pt_cmpR op_eq (pv 2) pe_str (nomark _)) (pw_or1 (pt_cmpR op_in_str (pv 2) (pe_globS g_FIGURES rfl) (by with_unfolding_all rfl))))) (pss_one (ps_ret (pe_mE0 h_take_number cR hr (by omega) (passE fun _ _ _ z=>z) (pv 0)))) pss_nil)
    (pss_cons (ps_if (PW.pt (pw_and (pt_cmpR op_eq (pv 2) pe_str (nomark _)) (pw_and1 (pt_val (pe_fld (pv 0) rfl))))) (pss_cons (ps_expr (pe_mE h_take cR hr (by omega) (passE fun _ _ _ z=>z) (pv 0) (pa_cons pe_str pa_nil)))
    (pss_one (ps_ret (pe_tup (pa_cons pe_str (pa_cons (pe_mE0 h_take_word cR hr (by omega) (passE fun _ _ _ z=>z) (pv 0)) pa_nil)))))) pss_nil)
    (pss_cons (ps_set (i:=3) sc_take_tree.nd rfl (Or.inl rfl) (pe_mE0 h_take_word cR hr (by omega) (passE fun _ _ _ z=>z) (pv 0)))
    (pss_cons (ps_if (pt_cmpR op_ne (pe_mE0 h_ahead cR hr (by omega) (passE fun _ _ _ z=>z) (pv 0)) pe_str (nomark _)) (pss_one (ps_ret (pe_tup (pa_cons pe_str (pa_cons (pv 3) pa_nil))))) pss_nil)
    (pss_cons (ps_expr (pe_mE h_take cR hr (by omega) (passE fun _ _ _ z=>z) (pv 0) (pa_cons pe_str pa_nil)))
    (pss_one (ps_ret (pe_tup (pa_cons pe_str (pa_cons (pv 3) (pa_cons (pe_mE h_take_arms cR hr (by omega) (passE fun _ _ _ z=>z) (pv 0) (pa_cons (pe_op op_add (pv 1) pe_int) pa_nil)) pa_nil)))))))))))))),?_⟩
  try dsimp only [cxOf]
  refine ⟨_,rfl,_,_,rfl,rfl,_,rfl,iteD (fun h0 => ?_) (fun h0 => ?_)⟩
  · obtain rfl:k=0:=by omega
    exact ⟨by decide,_,rfl,by decide,_,rfl,by decide,_,rfl,by decide,_,rfl,by decide,fun z=>⟨(show 1≤sizeLine by decide),q2 rfl _ KeepBut.refl⟩⟩
  obtain ⟨k',rfl⟩:∃ k',k=k'+1:=⟨k - 1,by omega⟩
  obtain rfl:=hA k' rfl
  refine ⟨_,rfl,r,dx,_,rfl,hr1,rfl,r,dx,tx,b,p,rfl,⟨hr1,hp,hz⟩,?_⟩
  cases hl:ahd tx p with
  | nil =>
    refine ⟨_,rfl,rfl,_,rfl,iteD (fun _ => ?_) (fun z=>absurd (congrArg V.str (str_ext rfl)) z)⟩
    exact ⟨(show 1≤sizeLine by decide),q2 (by rw [hl];rfl) _ KeepBut.refl⟩
  | cons c l0 =>
    rw [hl,pt_cons] at q1 q2
    have t1:(c :: l0).take 1 = [c]:=rfl
    rw [t1]
    have hp1:p+1≤tx.length:=by
      have:=congrArg List.length hl
      rw [ahd_len,List.length_cons] at this
      omega
    have hl1:ahd tx (p+1)=l0:=by rw [← ahd_drop,hl];rfl
    refine ⟨_,rfl,rfl,_,rfl,iteD (fun z=>absurd (mkS_empty z) (by simp)) (fun _ => ?_)⟩
    have num:(c=45∨isFig c=true)→tMeth CR "take_number" (spNum CR CNT) [] E (tVar 0) tNil [some (V.ref r),some (V.int (31 - ((k'+1:Nat):Int))),some (V.str (mkS [c])),none] H Q:=fun hc=>by
      rw [if_pos hc] at q1 q2
      refine ⟨_,rfl,r,dx,_,rfl,hr1,rfl,r,dx,tx,b,p,rfl,⟨hr1,hp,hz⟩,fun n l' e a H' p' kb rd' el tr => ?_,fun e H' kb => ?_⟩
      · rw [hl] at e
        rw [e] at q1
        exact q1 (.num n) l' rfl _ H' p' kb rd' el (by rw [IsTr];exact ⟨a,rfl,tr⟩)
      · rw [hl] at e
        rw [e] at q2
        exact q2 rfl H' kb
    refine ⟨_,rfl,rfl,_,rfl,iteD (fun h45 => ?_) (fun h45 => ?_)⟩
    · have hc:c=45:=(List.cons.inj (congrArg (fun z:Str=>z.cps.toList) (V.str.inj h45))).1
      exact iteT (num (.inl hc))
    refine ⟨_,rfl,_,_,rfl,rfl,_,rfl,?_⟩
    have hf:=StrLaws.found_one ("0123456789" : Str) c
    rw [figs_are] at hf
    rw [show mkS [c]=⟨#[c]⟩ from rfl,hf]
    cases hfig:isFig c with
    | true=>exact iteT (num (.inr hfig))
    | false =>
      have h45':c≠45:=fun z=>h45 (by rw [z];exact congrArg V.str (str_ext rfl))
      rw [if_neg (fun z=>z.elim h45' (by rw [hfig];decide))] at q1 q2
      refine iteF ?_
      rw [show (⟨#[c]⟩:Str)=mkS [c] from rfl]
      have rd:RdIn CR H r dx tx b p:=⟨hr1,hp,hz⟩
      dsimp only [tNext]
      refine rdcut (fun σ' H' => σ' = [some (V.ref r),some (V.int (31 - ((k'+1:Nat):Int))),some (V.str (mkS [c])),none]∧H'=H∧¬ (c=63∧b=true)) ?_ (fun key => ?_)
      · rintro σ' H' ⟨rfl,rfl,hno⟩
        rw [if_neg hno] at q1 q2
        refine ⟨_,rfl,r,dx,_,rfl,hr1,rfl,r,dx,tx,b,p,rfl,rd,fun x l' e => ?_,fun e H' kb => ?_⟩
        · rw [hl] at e
          rw [e] at q1 q2
          dsimp only at q1 q2
          obtain ⟨_,hx2,hx3,hx4,hx5⟩:=pw_is e
          rw [← hl] at hx2 hx3
          rw [ahd_len] at hx3
          rw [ahd_drop] at hx2
          dsimp only [gName]
          have rd3:RdIn CR (upd H' r (rdr CR dx tx b (p+x.length))) r dx tx b (p+x.length):=⟨upd_same,by omega,hz⟩
          have kb3:KeepBut r H' (upd H' r (rdr CR dx tx b (p+x.length))):=KeepBut.put
          generalize upd H' r (rdr CR dx tx b (p+x.length))=H3 at rd3 kb3 ⊢
          refine ⟨_,rfl,r,dx,_,rfl,rd3.1,rfl,r,dx,tx,b,p+x.length,rfl,rd3,rfl,_,rfl,iteDN (fun hne => ?_) (fun heq => ?_)⟩
          · have hq:=pk_name (arms:=pArms (pTree b k')) (x:=x) (l1:=l') (fun z=>hne (by rw [← hx2,z];exact congrArg V.str (str_ext rfl)))
            refine ⟨_,rfl,(show 2≤sizeLine by decide),fun a ha=>q1 (.name (mkS x)) l' hq _ _ (p+x.length) (kb3.trans (KeepBut.new ha)) ⟨?_,rd3.2⟩ hx2.symm ?_⟩
            · rw [upd_ne (ne_of_none rd3.1 ha)];exact rd3.1
            · rw [IsTr];exact ⟨a,rfl,upd_same⟩
          · have h40:(ahd tx (p+x.length)).take 1 = [40]:=congrArg (fun z:Str=>z.cps.toList) (V.str.inj heq)
            obtain ⟨l2,el2⟩:=take1 h40
            rw [← hx2] at el2
            subst el2
            rw [pk_of] at q1 q2
            have hl2:ahd tx (p+x.length+1)=l2:=by rw [← ahd_drop, ← hx2];rfl
            have hp4:p+x.length+1≤tx.length:=by
              have:=congrArg List.length hx2
              rw [ahd_len,List.length_cons] at this
              omega
            refine ⟨_,rfl,r,dx,_,rfl,rd3.1,rfl,r,dx,tx,b,p+x.length, "(",rfl,rd3,by decide,by decide +kernel,fun _ => ?_,fun hc=>absurd h40 hc⟩
            rw [show ("(" : Str).length=1 from rfl]
            have rd4:RdIn CR (upd H3 r (rdr CR dx tx b (p+x.length+1))) r dx tx b (p+x.length+1):=⟨upd_same,hp4,hz⟩
            have kb4:KeepBut r H' (upd H3 r (rdr CR dx tx b (p+x.length+1))):=kb3.trans KeepBut.put
            generalize upd H3 r (rdr CR dx tx b (p+x.length+1))=H4 at rd4 kb4 ⊢
            refine ⟨_,rfl,_,rfl,r,dx,_,rfl,rd4.1,rfl,_,rfl,_,_,rfl,rfl,r,dx,tx,b,p+x.length+1,congrArg (fun z:Int => [V.ref r,V.int z]) (show (31 - ((k'+1:Nat):Int)+1)=31 - (k':Int) by omega),rd4,fun ts l5 e5 a us H5 p5 kb5 rd5 el5 ha htr => ?_,fun e5 H5 kb5 => ?_⟩
            · rw [hl2] at e5
              rw [e5] at q1
              refine ⟨(show 3≤sizeLine by decide),fun a' ha'=>q1 (.of (mkS x) ts) l5 rfl _ _ p5 (kb4.trans (kb5.trans (KeepBut.new ha'))) ⟨?_,rd5.2⟩ el5 ?_⟩
              · rw [upd_ne (ne_of_none rd5.1 ha')];exact rd5.1
              · rw [IsTr]
                exact ⟨a',a,us,rfl,upd_same,same_new ha' _ _ _ ha,trs_same (same_new ha' _) htr⟩
            · rw [hl2] at e5
              rw [e5] at q2
              exact q2 rfl H5 (kb4.trans kb5)
        · rw [hl] at e
          rw [e] at q2
          exact q2 rfl H' kb
      · refine ⟨_,rfl,rfl,_,rfl,iteD (fun h63 => ?_) (fun h63 => ?_)⟩
        · have hc:c=63:=(List.cons.inj (congrArg (fun z:Str=>z.cps.toList) (V.str.inj h63))).1
          refine ⟨_,rfl,r,CR,dx,_,_,rfl,hr1,Z.cR,Z.nHoles,rfl,_,rfl,?_⟩
          cases b with
          | false=>exact iteF (key _ _ ⟨rfl,rfl,fun z=>by cases z.2⟩)
          | true =>
            rw [if_pos ⟨hc,rfl⟩] at q1 q2
            refine iteT ⟨_,rfl,r,dx,_,rfl,hr1,rfl,r,dx,tx,true,p, "?",rfl,rd,by decide,by decide +kernel,fun _ => ?_,fun h=>absurd (by rw [hl,hc];rfl) h⟩
            rw [show ("?" : Str).length=1 from rfl]
            have rd3:RdIn CR (upd H r (rdr CR dx tx true (p+1))) r dx tx true (p+1):=⟨upd_same,hp1,hz⟩
            have kb3:KeepBut r H (upd H r (rdr CR dx tx true (p+1))):=KeepBut.put
            generalize upd H r (rdr CR dx tx true (p+1))=H3 at rd3 kb3 ⊢
            refine ⟨_,rfl,r,dx,_,rfl,rd3.1,rfl,r,dx,tx,true,p+1,rfl,rd3,fun x l' e => ?_,fun e H' kb => ?_⟩
            · rw [hl1] at e
              rw [e] at q1
              obtain ⟨_,hx2,hx3,_,_⟩:=pw_is e
              rw [← hl1] at hx2 hx3
              rw [ahd_len] at hx3
              rw [ahd_drop] at hx2
              refine ⟨(show 2≤sizeLine by decide),fun a ha=>q1 (.any (mkS x)) l' rfl _ _ (p+1+x.length) (kb3.trans (KeepBut.put.trans (KeepBut.new ha))) ⟨?_,by omega,hz⟩ hx2.symm ?_⟩
              · rw [upd_ne (ne_of_none upd_same ha),upd_same]
              · rw [IsTr];exact ⟨a,rfl,upd_same⟩
            · rw [hl1] at e
              rw [e] at q2
              exact q2 rfl H' (kb3.trans kb)
        · refine iteF (key _ _ ⟨rfl,rfl,fun z=>h63 ?_⟩)
          rw [z.1]
          exact congrArg V.str (str_ext rfl)
end

end K80
namespace K80
open PySem L2 Sw
section
variable {P:Program} {w:World} {K:PySem.W.Frag} {mg:Str→Option Value} {base:Heap} {CR CNT:Addr}
theorem ok_tree (B:Blt mg) (Z:Top4 K mg CR CNT) (h_ahead:HasM P w K mg base 1 CR "ahead" ["self"] (spAhead CR)) (h_take:HasM P w K mg base 1 CR "take" ["self", "wanted"] (spTake CR CNT))
    (h_take_word:HasM P w K mg base 2 CR "take_word" ["self"] (spTWord CR CNT)) (h_take_number:HasM P w K mg base 2 CR "take_number" ["self"] (spNum CR CNT)) (DA:DefM K CR "take_arms" "Reader.take_arms" s_take_arms ["self", "deep"])
    (D:DefM K CR "take_tree" "Reader.take_tree" s_take_tree ["self", "deep"]):∀ k,HasM P w K mg base (2 * k+3) CR "take_tree" ["self", "deep"] (spTree CR CNT k)
  | 0=>by
    obtain ⟨f,fd,F,hm,hb⟩:=DA.ex
    have no:HasM P w K mg base 2 CR "take_arms" ["self", "deep"] (fun _ _ _ _=>False):=⟨f,fd,⟨fun _ _ _ _ h=>h.elim,fun _ _ _ _ _ _ _ _ _ _ _ _ _ h=>h.elim⟩,hm,hb⟩
    exact tree_step (k:=0) B Z (Nat.le_refl 2) (fun k' h=>by cases h) h_ahead h_take h_take_word h_take_number no D
  | k+1=>by
    have hA:=ok_arms B Z (n:=2 * k+3) (k:=k) (by omega) h_ahead h_take (ok_tree B Z h_ahead h_take h_take_word h_take_number DA D k) DA
    exact tree_step (k:=k+1) (n:=2 * k+3+1) B Z (by omega) (fun k' h=>by cases h;rfl) h_ahead h_take h_take_word h_take_number hA D
inductive SpWhole (CR CNT:Addr) (vs:List V) (H:Hp) (Q:VK) (E:XK):Prop
  | mk (r dx:Addr) (tx:Str) (b:Bool) (z0:vs = [.ref r]) (z1:RdIn CR H r dx tx b 0) (z2:(∀ t,pTree b 30 tx.cps.toList=some (t, [])→t.parts≤120→∀ v H',KeepBut r H H'→IsTr H' t v→Q v H')) (z3:((∀ t,pTree b 30 tx.cps.toList=some (t, [])→120 < t.parts)→∀ H',KeepBut r H H'→E (.ref CNT) none H')):SpWhole CR CNT vs H Q E
noncomputable def spWhole (CR CNT:Addr):Sp:=fun vs H Q E=>SpWhole CR CNT vs H Q E
theorem ok_whole (Z:Top4 K mg CR CNT) (hdeep:∀ b l t r,pTree b 30 l=some (t,r)→t.depth≤30) (h_ahead:HasM P w K mg base 1 CR "ahead" ["self"] (spAhead CR)) (h_take_tree:HasM P w K mg base 63 CR "take_tree" ["self", "deep"] (spTree CR CNT 30))
    (h_parts:Has P w K mg base 30 "parts" ["tree"] (spParts 30)) (D:Def K mg "read_whole" s_read_whole ["reader"]):HasE P w K mg base 64 "read_whole" ["reader"] (spWhole CR CNT):=by
  have oNoTree:=Z.oNoTree
  have cR:=Z.cR
  have g_MOST_PARTS:=Z.g_MOST_PARTS
  refine D.hasE sc_read_whole (fun vs H Q E h => ?_) (fun f cdv A outer s H vs Q E hr h => ?_)
  · obtain ⟨r,dx,tx,b,rfl,_⟩:=h;rfl
  obtain ⟨r,dx,tx,b,rfl,rd,q1,q2⟩:=h
  refine ⟨_,(pss_cons (ps_set (i:=1) sc_read_whole.nd rfl (Or.inl rfl) (pe_mE h_take_tree cR hr (by omega) (passE fun _ _ _ z=>z) (pv 0) (pa_cons pe_int pa_nil)))
    (pss_cons (ps_if (pt_cmpR op_ne (pe_mE0 h_ahead cR hr (by omega) (passE fun _ _ _ z=>z) (pv 0)) pe_str (nomark _)) (pss_one (ps_raise oNoTree rfl (fun _ _ _ _ _ _ _ I hx q=>flies I hx q) (pa_cons pe_str pa_nil) rfl)) pss_nil)
    (pss_cons (ps_if (pt_cmpR op_gt (pe_callH h_parts hr (by omega) rfl (pa_cons (pv 1) pa_nil)) (pe_globI g_MOST_PARTS rfl) (nomark _)) (pss_one (ps_raise oNoTree rfl (fun _ _ _ _ _ _ _ I hx q=>flies I hx q) (pa_cons (pe_joined (pj_cons pe_str (pj_cons (pe_fmtI (pe_globI g_MOST_PARTS rfl)) (pj_cons pe_str pj_nil)))) pa_nil) rfl)) pss_nil)
    (pss_one (ps_ret (pv 1)))))),?_⟩
  try dsimp only [cxOf]
  have h0:ahd tx 0=tx.cps.toList:=rfl
  refine ⟨_,rfl,r,dx,_,rfl,rd.1,rfl,r,dx,tx,b,0,rfl,rd,fun t l1 e1 v H1 p1 kb1 rd1 el1 tr1 => ?_,fun e1 H' kb=>q2 (fun t e=>by rw [h0,e] at e1;cases e1) H' kb⟩
  rw [h0] at e1
  refine ⟨_,rfl,r,dx,_,rfl,rd1.1,rfl,r,dx,tx,b,p1,rfl,rd1,rfl,_,rfl,iteDN (fun hne => ?_) (fun heq => ?_)⟩
  · refine ⟨(show 1≤sizeLine by decide),q2 (fun t' e => ?_) H1 kb1⟩
    rw [e1] at e
    cases e
    exact absurd (by rw [el1];exact congrArg V.str (str_ext rfl)) hne
  · have hl:l1 = []:=by
      have:=mkS_empty heq
      rw [el1] at this
      cases l1 with
      | nil=>rfl
      | cons c r=>simp at this
    subst hl
    refine ⟨_,rfl,v,t,rfl,tr1,hdeep _ _ _ _ e1,_,_,rfl,rfl,_,rfl,iteD (fun h4 => ?_) (fun h4 => ?_)⟩
    · exact ⟨by decide,_,rfl,by decide,_,rfl,by decide,_,rfl,by decide,_,rfl,by decide,fun z=>⟨(show 1≤sizeLine by decide),q2 (fun t' e=>by rw [e1] at e;cases e;omega) H1 kb1⟩⟩
    · exact ⟨_,rfl,q1 t e1 (by omega) v H1 kb1 tr1⟩
inductive SpRead (CNT:Addr) (b:Bool) (vs:List V) (H:Hp) (Q:VK) (E:XK):Prop
  | mk (tx:Str) (z0:vs = [.str tx]) (z1:tx.length≤100000) (z2:(∀ t,pTree b 30 tx.cps.toList=some (t, [])→t.parts≤120→∀ v H',Same H H'→IsTr H' t v→Q v H')) (z3:((∀ t,pTree b 30 tx.cps.toList=some (t, [])→120 < t.parts)→∀ H',Same H H'→E (.ref CNT) none H')):SpRead CNT b vs H Q E
noncomputable def spRead (CNT:Addr) (b:Bool):Sp:=fun vs H Q E=>SpRead CNT b vs H Q E
theorem same_of_new {H H':Hp} {x dx:Addr} {o1 o2:HO} (hx:H x=none) (hd:H dx=none) (k:KeepBut x (upd (upd H dx o1) x o2) H'):Same H H':=fun a o e=>by
  have n1:a≠x:=fun z=>by rw [z,hx] at e;cases e
  have n2:a≠dx:=fun z=>by rw [z,hd] at e;cases e
  exact k a o n1 (by rw [upd_ne n1,upd_ne n2];exact e)
theorem ok_read (Z:Top4 K mg CR CNT) (h_init_Reader:HasC P w K mg base 1 "Reader" CR ["self", "text", "with_holes"] (spInit CR)) (h_read_whole:HasE P w K mg base 64 "read_whole" ["reader"] (spWhole CR CNT)) (D:Def K mg "read" s_read ["text"]) :
    HasE P w K mg base 65 "read" ["text"] (spRead CNT false):=by
  refine D.hasE sc_read (fun vs H Q E h => ?_) (fun f cdv A outer s H vs Q E hr h => ?_)
  · obtain ⟨tx,rfl,_⟩:=h;rfl
  obtain ⟨tx,rfl,hz,q1,q2⟩:=h
  refine ⟨_,(pss_one (ps_ret (pe_callE h_read_whole hr (by omega) (passE fun _ _ _ z=>z) rfl (pa_cons (pe_makeE h_init_Reader hr (by omega) (passE fun _ _ _ z=>z) rfl (pa_cons (pv 0) (pa_cons pe_bl pa_nil))) pa_nil)))),?_⟩
  try dsimp only [cxOf]
  refine ⟨_,rfl,fun x dx hx hdx hne=>⟨x,dx,tx,false,rfl,upd_same,rfl,?_⟩⟩
  rw [upd_upd]
  exact ⟨x,dx,tx,false,rfl,⟨upd_same,Nat.zero_le _,hz⟩,fun t e hp v H' kb tr=>q1 t e hp v H' (same_of_new hx hdx kb) tr,fun h H' kb=>q2 h H' (same_of_new hx hdx kb)⟩
end

end K80
namespace K80
open PySem L2 Sw
section
variable {P:Program} {w:World} {K:PySem.W.Frag} {mg:Str→Option Value} {base:Heap} {CB CF:Addr}
structure TopBk (K:PySem.W.Frag) (mg:Str→Option Value) (CB CF:Addr):Prop where
  cB:Cls K CB
  nRoom:NoAttr K CB "room"
  nTerms:NoAttr K CB "terms"
  nPlaces:NoAttr K CB "places"
  oFull:Exc K mg "Full" CF
inductive SpKInit (P:Program) (w:World) (CB:Addr) (vs:List V) (H:Hp) (Q:VK):Prop
  | mk (b dx:Addr) (room:Int) (z0:vs = [.ref b,.int room]) (z1:H b=some (.ins CB dx [])) (z2:∀ H' L M,But b H H'→H L=none→H M=none→BankAt P w CB H' b dx L M room []→Q .non H'):SpKInit P w CB vs H Q
noncomputable def spKInit (P:Program) (w:World) (CB:Addr):Sp:=fun vs H Q _=>SpKInit P w CB vs H Q
theorem ok_kinit (Z:TopBk K mg CB CF) (D:DefC K mg "Bank" CB "Bank.__init__" s_kinit ["self", "room"]):HasC P w K mg base 1 "Bank" CB ["self", "room"] (spKInit P w CB):=by
  refine D.has sc_kinit (fun vs H Q E h => ?_) (fun f cdv A outer s H vs Q E hr h => ?_)
  · obtain ⟨b,dx,room,rfl,_⟩:=h;rfl
  obtain ⟨b,dx,room,rfl,hb,q⟩:=h
  refine ⟨_,(pss_cons (ps_fld (pv 0) (pv 1) rfl)
    (pss_cons (ps_fld (pv 0) (pe_lst pa_nil) rfl)
    (pss_one (ps_fld (pv 0) pe_dnewN rfl)))),?_⟩
  try dsimp only [cxOf]
  refine ⟨_,rfl,_,rfl,b,CB,dx,_,rfl,hb,Z.cB,Z.nRoom,by decide,?_⟩
  have b1:But b H (upd H b (.ins CB dx [("room",.int room)])):=(But.refl b H).put
  refine ⟨Nat.zero_le _,fun L hL => ?_⟩
  have hLb:L≠b:=fun e=>by rw [e,upd_same] at hL;cases hL
  have hL0:H L=none:=by rw [upd_ne hLb] at hL;exact hL
  refine ⟨_,rfl,b,CB,dx, [("room",.int room)],rfl,(by rw [upd_ne (Ne.symm hLb),upd_same];rfl),Z.cB,Z.nTerms,(show 1 < 1000 by decide),?_⟩
  intro M φ hM hd
  have hMb:M≠b:=fun e=>by rw [e,upd_same] at hM;cases hM
  have hML:M≠L:=fun e=>by rw [e,upd_ne hLb,upd_same] at hM;cases hM
  have hM0:H M=none:=by rw [upd_ne hMb,upd_ne hML,upd_ne hMb] at hM;exact hM
  refine ⟨_,rfl,b,CB,dx, [("room",.int room),("terms",.ref L)],rfl,(by rw [upd_ne (Ne.symm hMb),upd_same];rfl),Z.cB,Z.nPlaces,(show 2 < 1000 by decide),?_⟩
  refine q _ L M (fun c o n h => ?_) hL0 hM0 ⟨upd_same,⟨[],?_,.nil⟩, [],hd.keep (fun φ' z => ?_) (fun c ys z => ?_),rfl,fun t => ?_⟩
  · have h1:c≠L:=fun e=>by rw [e,hL0] at h;cases h
    have h2:c≠M:=fun e=>by rw [e,hM0] at h;cases h
    rw [upd_ne n,upd_ne h2,upd_ne n,upd_ne h1,upd_ne n];exact h
  · rw [upd_ne hLb,upd_ne (Ne.symm hML),upd_ne hLb,upd_same]
  · rw [upd_ne hMb];exact z
  · have h1:c≠b:=fun e=>by rw [e,upd_ne (Ne.symm hMb),upd_same] at z;cases z
    rw [upd_ne h1];exact z
  · rw [posF];rfl
inductive SpPutTerm (P:Program) (w:World) (CB CF:Addr) (vs:List V) (H:Hp) (Q:VK) (E:XK):Prop
  | mk (b dx L M:Addr) (room:Int) (ts:List Tm) (v:V) (t:Tm) (z0:vs = [.ref b,v]) (z1:BankAt P w CB H b dx L M room ts) (z2:IsTm H t v) (z3:ts.length≤900) (z4:((posF ts t=none→(ts.length:Int) < room)→∀ H',But2 L M H H'→BankAt P w CB H' b dx L M room (addF ts t).1→Q (nV (addF ts t).2) H')) (z5:(posF ts t=none→room≤(ts.length:Int)→E (.ref CF) none H)):SpPutTerm P w CB CF vs H Q E
noncomputable def spPutTerm (P:Program) (w:World) (CB CF:Addr):Sp:=fun vs H Q E=>SpPutTerm P w CB CF vs H Q E
theorem ok_put_term (B:Blt mg) (Z:TopBk K mg CB CF) (D:DefM K CB "put_term" "Bank.put_term" s_put_term ["self", "term"]):HasM P w K mg base 1 CB "put_term" ["self", "term"] (spPutTerm P w CB CF):=by
  have oFull:=Z.oFull
  refine D.has sc_put_term (fun vs H Q E h => ?_) (fun f cdv A outer s H vs Q E hr h => ?_)
  · obtain ⟨b,dx,L,M,room,ts,v,t,rfl,_⟩:=h;rfl
  obtain ⟨b,dx,L,M,room,ts,v,t,rfl,hB,hT,hz,q1,q2⟩:=h
  refine ⟨_,(pss_cons (ps_if (pt_cmp (pc_nnotin (un10 hr) (pv 1) (pe_fld (pv 0) rfl)) (by with_unfolding_all rfl)) (pss_cons (ps_if (pt_cmpR op_ge (pe_callB call_len_seq rfl B.len_ PySem.boot_len (pa_cons (pe_fld (pv 0) rfl) pa_nil)) (pe_fld (pv 0) rfl) (nomark _)) (pss_one (ps_raise oFull rfl (fun _ _ _ _ _ _ _ I hx q=>flies I hx q) (pa_cons pe_str pa_nil) rfl)) pss_nil)
    (pss_cons (ps_nput (un10 hr) (pe_fld (pv 0) rfl) (pv 1) (pe_callB call_len_seq rfl B.len_ PySem.boot_len (pa_cons (pe_fld (pv 0) rfl) pa_nil)) rfl)
    (pss_one (ps_expr (pe_bm PySem.F.plainAttrs_list PySem.F.slot_list_append PySem.F.type_list_append mt_append (pe_fld (pv 0) rfl) (pa_cons (pv 1) pa_nil)))))) pss_nil)
    (pss_one (ps_ret (pe_nget (un10 hr) (pe_fld (pv 0) rfl) (pv 1) (fun _ _=>rfl))))),?_⟩
  try dsimp only [cxOf]
  obtain ⟨kb,rfl,nk⟩:=hT.key
  have hB0:=hB
  obtain ⟨hb,⟨us,hL,hts⟩,kvs,dn,hkl,hval⟩:=hB
  have hlen:=Paired.length hts
  obtain ⟨nLM,nbL,nbM⟩:=hB0.ne
  refine ⟨_,rfl,_,rfl,b,CB,dx,_,_,rfl,hb,Z.cB,Z.nPlaces,rfl,M,kb,kvs,tmNK t,rfl,rfl,dn,nk,_,rfl,?_⟩
  rw [hval t]
  cases e:posF ts t with
  | some i =>
    refine iteF ?_
    refine ⟨_,rfl,b,CB,dx,_,_,rfl,hb,Z.cB,Z.nPlaces,rfl,_,rfl,M,kb,kvs,tmNK t,nV i,rfl,rfl,dn,nk,(by rw [hval t,e];rfl),?_⟩
    have h1:=q1 (fun z=>by rw [e] at z;cases z) H (But2.refl _ _ _)
    rw [add_old e] at h1
    exact h1 hB0
  | none =>
    refine iteT ?_
    refine ⟨_,rfl,b,CB,dx,_,_,rfl,hb,Z.cB,Z.nTerms,rfl,L,us,rfl,.inl (SqL.of hL),_,rfl,b,CB,dx,_,_,rfl,hb,Z.cB,Z.nRoom,rfl,_,_,rfl,rfl,_,rfl,iteD (fun hr1 => ?_) (fun hr1 => ?_)⟩
    · exact ⟨(show 1≤sizeLine by decide),q2 e (by omega)⟩
    · refine ⟨_,rfl,b,CB,dx,_,_,rfl,hb,Z.cB,Z.nTerms,rfl,L,us,rfl,.inl (SqL.of hL),_,rfl,b,CB,dx,_,_,rfl,hb,Z.cB,Z.nPlaces,rfl,_,rfl,M,kb,kvs,tmNK t,rfl,rfl,dn,nk,small1000 (by omega),fun φ dn1 => ?_⟩
      rw [hlen] at dn1
      have hL1:(upd H M (.ext φ)) L=some (.lst us):=by rw [upd_ne nLM];exact hL
      have hb1:(upd H M (.ext φ)) b=some _:=(upd_ne nbM).trans hb
      have bt1:But2 L M H (upd H M (.ext φ)):=fun c o n m h=>by rw [upd_ne m];exact h
      have kt1:=hB0.tup bt1
      refine ⟨_,rfl,b,CB,dx,_,_,rfl,hb1,Z.cB,Z.nTerms,rfl,.inl ⟨rfl,_,SqL.of hL1⟩,_,rfl,L,us,_,rfl,rfl,hL1,small1000 (by omega),?_⟩
      have bt2:But2 L M H (upd (upd H M (.ext φ)) L (.lst (us ++ [.ref kb]))):=fun c o n m h=>by rw [upd_ne n,upd_ne m];exact h
      have kt2:=hB0.tup bt2
      have hL2:(upd (upd H M (.ext φ)) L (.lst (us ++ [.ref kb]))) L=some (.lst (us ++ [.ref kb])):=upd_same
      have hb2:(upd (upd H M (.ext φ)) L (.lst (us ++ [.ref kb]))) b=some _:=(upd_ne nbL).trans hb1
      have dn2:DN P w (upd (upd H M (.ext φ)) L (.lst (us ++ [.ref kb]))) M (putK kvs (tmNK t) (.int (ts.length:Int))):=dn1.keep (fun φ' z=>by rw [upd_ne (Ne.symm nLM)];exact z) (fun c ys z=>by rw [upd_ne (ne_of z hL1 (fun z=>nomatch z))];exact z)
      generalize upd (upd H M (.ext φ)) L (.lst (us ++ [.ref kb]))=H2 at bt2 kt2 hL2 hb2 dn2 ⊢
      have hv:valV (putK kvs (tmNK t) (.int (ts.length:Int))) (tmNK t)=some (nV ts.length):=by rw [valV_put,if_pos rfl]
      refine ⟨_,rfl,b,CB,dx,_,_,rfl,hb2,Z.cB,Z.nPlaces,rfl,_,rfl,M,kb,_,tmNK t,nV ts.length,rfl,rfl,dn2,nk.keep kt2,hv,?_⟩
      have h1:=q1 (fun _=>by omega) H2 bt2
      rw [add_new e] at h1
      refine h1 ⟨hb2,⟨_,hL2,Paired.snoc (tms_keep kt2 hts) (hT.keep kt2)⟩,_,dn2,?_,fun u => ?_⟩
      · rw [putK_new _ (by rw [hval t,e];rfl),List.length_append,List.length_append,hkl];rfl
      · rw [valV_put,pos_app,hval u]
        by_cases z:tmNK u=tmNK t
        · rw [if_pos z,tmNK_inj z,e];simp
        · rw [if_neg z]
          cases posF ts u with
          | some j=>rfl
          | none=>rw [if_neg (fun y=>z (by rw [tmD_inj y]))]
end

end K80
namespace K80
open PySem L2 Sw
section
variable {P:Program} {w:World} {K:PySem.W.Frag} {mg:Str→Option Value} {base:Heap} {CB CF:Addr}
inductive SpPutPart (P:Program) (w:World) (CB CF:Addr) (n:Nat) (vs:List V) (H:Hp) (Q:VK) (E:XK):Prop
  | mk (b dx L M:Addr) (room:Int) (ts:List Tm) (v bv:V) (p:T) (bf:Str→Nat) (z0:vs = [.ref b,v,bv]) (z1:BankAt P w CB H b dx L M room ts) (z2:IsTr H p v) (z3:p.depth≤n) (z4:p.Slim) (z5:BOk H bv bf p.hol) (z6:(ptF bf ts p).1.length≤900) (z7:(ts.length:Int)≤room) (z8:((((ptF bf ts p).1.length:Int)≤room)→∀ H',But2 L M H H'→BankAt P w CB H' b dx L M room (ptF bf ts p).1→Q (nV (ptF bf ts p).2) H')) (z9:(¬ (((ptF bf ts p).1.length:Int)≤room)→∀ H' ts',But2 L M H H'→ts <+: ts'→ts' <+: (ptF bf ts p).1→BankAt P w CB H' b dx L M room ts'→E (.ref CF) none H')):SpPutPart P w CB CF n vs H Q E
noncomputable def spPutPart (P:Program) (w:World) (CB CF:Addr) (n:Nat):Sp:=fun vs H Q E=>SpPutPart P w CB CF n vs H Q E
theorem add_len (ts:List Tm) (t:Tm):(posF ts t=none→(addF ts t).1.length=ts.length+1)∧(posF ts t≠none→(addF ts t).1=ts):=by
  cases e:posF ts t with
  | some i=>exact ⟨fun z=>(by cases z),fun _=>(by rw [add_old e])⟩
  | none=>exact ⟨fun _=>(by rw [add_new e];simp),fun z=>absurd rfl z⟩
theorem ok_put_part (B:Blt mg) (Z:TopBk K mg CB CF) (h_put_term:HasM P w K mg base 1 CB "put_term" ["self", "term"] (spPutTerm P w CB CF)) (D:DefM K CB "put_part" "Bank.put_part" s_put_part ["self", "pattern", "binds"]) :
    ∀ n,HasM P w K mg base (n+1) CB "put_part" ["self", "pattern", "binds"] (spPutPart P w CB CF n)
  | 0=>by
    obtain ⟨fa,fd,F,hm,hb⟩:=D.ex
    have no:∀ vs H Q E, ¬ spPutPart P w CB CF 0 vs H Q E:=fun vs H Q E h=>by
      obtain ⟨b,dx,L,M,room,ts,v,bv,p,bf,_,_,_,z,_⟩:=h
      have:=depth_pos p
      omega
    exact ⟨fa,fd,⟨fun vs H Q E h=>absurd h (no vs H Q E),fun A outer s H args us vs Q E _ _ _ _ h=>absurd h (no vs H Q E)⟩,hm,hb⟩
  | n+1=>by
    have h_put_part:=ok_put_part B Z h_put_term D n
    have cB:=Z.cB
    refine D.has sc_put_part (fun vs H Q E h => ?_) (fun f cdv A outer s H vs Q E hr h => ?_)
    · obtain ⟨b,dx,L,M,room,ts,v,bv,p,bf,rfl,_⟩:=h;rfl
    obtain ⟨b,dx,L,M,room,ts,v,bv,p,bf,rfl,hB,hT,hd,hsl,hbo,hz,hro,q1,q2⟩:=h
    refine ⟨_,(pss_cons (ps_if (pt_cmpR op_eq (pe_ix ix_tup (pv 1) pe_int (fun _ _=>rfl)) pe_str (nomark _)) (pss_one (ps_ret (pe_dget (hu_of hr) (pv 2) (pe_ix ix_tup (pv 1) pe_int (fun _ _=>rfl)) (fun _ _=>rfl)))) pss_nil)
    (pss_cons (ps_if (pt_cmpR op_ne (pe_ix ix_tup (pv 1) pe_int (fun _ _=>rfl)) pe_str (nomark _)) (pss_one (ps_ret (pe_mE h_put_term cB hr (by omega) (passE fun _ _ _ z=>z) (pv 0) (pa_cons (pv 1) pa_nil)))) pss_nil)
    (pss_cons (ps_set (i:=3) sc_put_part.nd rfl (Or.inl rfl) (pe_lst pa_nil))
    (pss_cons (ps_for PassesOwn.leaving rfl (pi_tup (pe_ix ix_tup (pv 1) pe_int (fun _ _=>rfl))) (pg_name (i:=4) sc_put_part.nd rfl (Or.inl rfl))
    (pss_one (ps_expr (pe_bm PySem.F.plainAttrs_list PySem.F.slot_list_append PySem.F.type_list_append mt_append (pv 3) (pa_cons (pe_mE h_put_part cB hr (by omega) (passE fun _ _ _ z=>z) (pv 0) (pa_cons (pv 4) (pa_cons (pv 2) pa_nil))) pa_nil)))))
    (pss_one (ps_ret (pe_mE h_put_term cB hr (by omega) (passE fun _ _ _ z=>z) (pv 0) (pa_cons (pe_tup (pa_cons pe_str (pa_cons (pe_ix ix_tup (pv 1) pe_int (fun _ _=>rfl)) (pa_cons (pe_callTy call_tuple_of rfl B.tuple_ boot_tuple_ (pa_cons (pv 3) pa_nil)) pa_nil)))) pa_nil)))))))),?_⟩
    try dsimp only [cxOf]
    have hb:=hB.1
    have leaf:∀ (t:Tm),ptF bf ts p=addF ts t→IsTm H t v→spPutTerm P w CB CF [.ref b,v] H Q E:=fun t e ht=>by
      obtain ⟨a1,a2⟩:=add_len ts t
      rw [e] at q1 q2 hz
      refine ⟨b,dx,L,M,room,ts,v,t,rfl,hB,ht,by have:=(add_pre ts t).length_le;omega,fun hf H' bt hB'=>q1 ?_ H' bt hB',fun hn hl=>q2 ?_ H ts (But2.refl _ _ _) (List.prefix_refl _) (add_pre _ _) hB⟩
      · by_cases hp:posF ts t=none
        · have:=hf hp;rw [a1 hp];omega
        · rw [a2 hp];exact hro
      · rw [a1 hn];omega
    cases p with
    | num k =>
      rw [IsTr] at hT
      obtain ⟨a,rfl,h⟩:=hT
      refine ⟨_,rfl,a,_,0,_,rfl,rfl,SqT.of h,atI_nat (j:=0) rfl,rfl,_,rfl,iteD (fun z=>absurd (V.str.inj z) (by decide)) (fun _ => ?_)⟩
      refine ⟨_,rfl,a,_,0,_,rfl,rfl,SqT.of h,atI_nat (j:=0) rfl,rfl,_,rfl,iteDN (fun _ => ?_) (fun z=>absurd (V.str.inj z) (by decide))⟩
      exact ⟨_,rfl,b,dx,_,rfl,hb,rfl,_,rfl,leaf (.num k) (by rw [ptF]) ⟨a,rfl,h⟩⟩
    | name k =>
      rw [IsTr] at hT
      obtain ⟨a,rfl,h⟩:=hT
      refine ⟨_,rfl,a,_,0,_,rfl,rfl,SqT.of h,atI_nat (j:=0) rfl,rfl,_,rfl,iteD (fun z=>absurd (V.str.inj z) (by decide)) (fun _ => ?_)⟩
      refine ⟨_,rfl,a,_,0,_,rfl,rfl,SqT.of h,atI_nat (j:=0) rfl,rfl,_,rfl,iteDN (fun _ => ?_) (fun z=>absurd (V.str.inj z) (by decide))⟩
      exact ⟨_,rfl,b,dx,_,rfl,hb,rfl,_,rfl,leaf (.name k) (by rw [ptF]) ⟨a,rfl,h⟩⟩
    | any k =>
      rw [IsTr] at hT
      obtain ⟨a,rfl,h⟩:=hT
      refine ⟨_,rfl,a,_,0,_,rfl,rfl,SqT.of h,atI_nat (j:=0) rfl,rfl,_,rfl,iteD (fun _ => ?_) (fun z=>absurd rfl z)⟩
      obtain ⟨Dk,kvs,rfl,hD,hv⟩:=hbo k (by rw [T.hol];exact List.mem_singleton_self _)
      rw [ptF] at q1
      refine ⟨_,rfl,_,rfl,a,_,1,_,rfl,rfl,SqT.of h,atI_nat (j:=1) rfl,Dk,nV (bf k),rfl,?_,q1 hro H (But2.refl _ _ _) hB⟩
      have:=DGet.k (k:=(.inr k:Key)) hD
      rw [hv] at this
      exact this
    | of x as =>
      rw [IsTr] at hT
      obtain ⟨a,c,avs,rfl,h,hc,hts⟩:=hT
      have hla:=trs_len hts
      rw [T.depth] at hd
      rw [T.Slim] at hsl
      refine ⟨_,rfl,a,_,0,_,rfl,rfl,SqT.of h,atI_nat (j:=0) rfl,rfl,_,rfl,iteD (fun z=>absurd (V.str.inj z) (by decide)) (fun _ => ?_)⟩
      refine ⟨_,rfl,a,_,0,_,rfl,rfl,SqT.of h,atI_nat (j:=0) rfl,rfl,_,rfl,iteDN (fun z=>absurd rfl z) (fun _ => ?_)⟩
      refine ⟨Nat.zero_le _,fun S hS => ?_⟩
      dsimp only [gName]
      have hSL:S≠L:=fun e=>by obtain ⟨us,hL,_⟩:=hB.2.1;rw [e,hL] at hS;cases hS
      have hSM:S≠M:=fun e=>by obtain ⟨kvs,dn,_⟩:=hB.2.2;obtain ⟨φ,e4⟩:=dn.ext;rw [e,e4] at hS;cases hS
      have s0:=same_new hS (.lst [])
      have hS0:=upd_same (H:=H) (a:=S) (o := .lst [])
      generalize upd H S (.lst [])=H0 at s0 hS0 ⊢
      have hof:(ptF bf ts (.of x as))=addF (ptsF bf ts as).1 (.of x (ptsF bf ts as).2):=by rw [ptF]
      have hz1:(ptsF bf ts as).1.length≤900:=by have:=(add_pre (ptsF bf ts as).1 (.of x (ptsF bf ts as).2)).length_le;rw [hof] at hz;omega
      refine ⟨_,rfl,a,_,2,_,rfl,rfl,SqT.of (s0 _ _ h),atI_nat (j:=2) rfl,c,rfl,⟨_,SqT.of (s0 _ _ hc)⟩,?_⟩
      refine for_tup (xs:=avs) (fun i σ H'=>∃ o, σ = [some (.ref b),some (.ref a),some bv,some (.ref S),o]∧But2 L M H H'∧H' S=some (.lst ((ptsF bf ts (as.take i)).2.map nV))∧BankAt P w CB H' b dx L M room (ptsF bf ts (as.take i)).1∧((ptsF bf ts (as.take i)).1.length:Int)≤room)
        ⟨none,rfl,Same.but2 s0,by rw [List.take_zero,ptsF];exact hS0,by rw [List.take_zero,ptsF];exact hB.same s0,by rw [List.take_zero,ptsF];exact hro⟩ ?_ ?_ ?_
      · rintro i σ H' _ ⟨o,rfl,bt,_⟩
        exact SqT.of (hB.tup bt _ _ hc)
      · rintro i y σ H' hy ⟨o,rfl,bt,hS',hB',hr'⟩
        obtain ⟨t,ht,hyt⟩:=trs_at hts hy
        have hmem:=List.mem_of_getElem? ht
        have et:as.take (i+1)=as.take i ++ [t]:=by rw [List.take_add_one,ht];rfl
        have e1:(ptsF bf ts (as.take (i+1))).1=(ptF bf (ptsF bf ts (as.take i)).1 t).1:=by rw [et,puts_snoc]
        have e2:(ptsF bf ts (as.take (i+1))).2=(ptsF bf ts (as.take i)).2 ++ [(ptF bf (ptsF bf ts (as.take i)).1 t).2]:=by rw [et,puts_snoc]
        have p1:(ptF bf (ptsF bf ts (as.take i)).1 t).1 <+: (ptsF bf ts as).1:=by rw [← e1];exact puts_take _ _ _ _
        have p2:(ptsF bf ts as).1 <+: (ptF bf ts (.of x as)).1:=by rw [hof];exact add_pre _ _
        have l2:=puts_len bf (as.take i) ts
        rw [List.length_take] at l2
        refine ⟨_,rfl,.inl ⟨rfl,_,SqL.of hS'⟩,_,rfl,b,dx,_,rfl,hB'.1,rfl,_,rfl,_,rfl,b,dx,L,M,room,_,y,bv,t,bf,rfl,hB',tr_keep (hB.tup bt) hyt,?_,slims_all.mp hsl.2 t hmem,hB.bok bt fun w hw=>hbo w (by rw [T.hol];exact hols_mem hmem hw),by have:=p1.length_le;omega,hr',fun hf H2 bt2 hB2 => ?_,fun hnf H2 ts' bt2 t1 t2 hB2 => ?_⟩
        · have:=deepest_le hmem;omega
        · have hS2:=bt2 _ _ hSL hSM hS'
          have bS:But S H2 (upd H2 S (.lst ((ptsF bf ts (as.take i)).2.map nV ++ [nV (ptF bf (ptsF bf ts (as.take i)).1 t).2]))):=(But.refl S H2).put
          refine ⟨S,_,_,rfl,rfl,hS2,small1000 ?_,⟨some y,rfl,fun c' o' n m h' => ?_,?_,?_,?_⟩⟩
          · rw [List.length_map];have:=hsl.1;omega
          · have:c'≠S:=fun e=>by rw [e,hS] at h';cases h'
            rw [upd_ne this]
            exact bt2 _ _ n m (bt _ _ n m h')
          · rw [upd_same,e2,List.map_append];rfl
          · rw [e1];exact hB2.keep hS2 hSL bS
          · rw [e1];exact hf
        · refine q2 ?_ H2 ts' (bt.trans bt2) ((puts_pre _ _ _).trans t1) (t2.trans (p1.trans p2)) hB2
          have:=(p1.trans p2).length_le
          omega
      · rintro σ H' ⟨o,rfl,bt,hS',hB',hr'⟩
        rw [hla.symm,List.take_length] at hS' hB' hr'
        have h':=hB.tup bt _ _ h
        refine ⟨_,rfl,b,dx,_,rfl,hB'.1,rfl,_,rfl,a,_,1,_,rfl,rfl,SqT.of h',atI_nat (j:=1) rfl,_,rfl,S,_,rfl,.inl ⟨SqL.of hS',fun tl htl => ?_⟩⟩
        have s1:=same_new htl (.tup ((ptsF bf ts as).2.map nV))
        have g1:=upd_same (H:=H') (a:=tl) (o := .tup ((ptsF bf ts as).2.map nV))
        generalize upd H' tl (.tup ((ptsF bf ts as).2.map nV))=H1 at s1 g1 ⊢
        refine ⟨(show 3≤sizeLine by decide),fun tp htp => ?_⟩
        have s2:=same_new htp (.tup [.str "of",.str x,.ref tl])
        have g2:=upd_same (H:=H1) (a:=tp) (o := .tup [.str "of",.str x,.ref tl])
        generalize upd H1 tp (.tup [.str "of",.str x,.ref tl])=H2 at s2 g2 ⊢
        obtain ⟨a1,a2⟩:=add_len (ptsF bf ts as).1 (.of x (ptsF bf ts as).2)
        rw [hof] at q1 q2
        refine ⟨b,dx,L,M,room,_,_,.of x (ptsF bf ts as).2,rfl,(hB'.same s1).same s2,tm_of g2 (s2 _ _ g1),hz1,fun hf H3 bt3 hB3=>q1 ?_ H3 (((bt.same s1).same s2).trans bt3) hB3,fun hn hl=>q2 ?_ H2 _ ((bt.same s1).same s2) (puts_pre _ _ _) (add_pre _ _) ((hB'.same s1).same s2)⟩
        · by_cases hp:posF (ptsF bf ts as).1 (.of x (ptsF bf ts as).2)=none
          · have:=hf hp;rw [a1 hp];omega
          · rw [a2 hp];exact hr'
        · rw [a1 hn];omega
end

end K80
namespace K80
open PySem L2 Sw
section
variable {P:Program} {w:World} {K:PySem.W.Frag} {mg:Str→Option Value} {base:Heap} {CB CF:Addr}
theorem paired_snoc_inv {α β : Type} {R : α → β → Prop}:∀ {ys:List β} {xs:List α} {y : β},Paired R xs (ys ++ [y])→∃ xs' x,xs=xs' ++ [x]∧Paired R xs' ys∧R x y
  | [],_,_,.cons h .nil=>⟨[],_,rfl,.nil,h⟩
  | _ :: ys,_,_,.cons h t=>by
    obtain ⟨xs',x,rfl,r,q⟩:=paired_snoc_inv (ys:=ys) t
    exact ⟨_ :: xs',x,rfl,.cons h r,q⟩
theorem kn_keys {H:Hp} {kvs:List (NK × V)} {xs:List (NK × Addr × Value)} (r:KN H kvs xs):kvs.map (·.1)=xs.map (·.1):=by
  induction r with
  | nil=>rfl
  | cons h _ ih=>rw [List.map_cons,List.map_cons,ih,h.1]
theorem dn_nodup {H:Hp} {a:Addr} {kvs:List (NK × V)} (d:DN P w H a kvs):(kvs.map (·.1)).Nodup:=by
  obtain ⟨_,_,xs,o,es,ep,_,r,_,_,_,hn⟩:=d
  rw [kn_keys r];exact hn
theorem val_at:∀ {kvs:List (NK × V)} {k:NK} {v:V},valV kvs k=some v→∃ j:Nat,kvs[j]? = some (k,v)
  | [],k,v,h=>by rw [valV_nil] at h;cases h
  | p :: r,k,v,h=>by
    by_cases e:p.1=k
    · rw [valV_pos e] at h
      cases h
      exact ⟨0,by rw [← e];rfl⟩
    · rw [valV_neg e] at h
      obtain ⟨j,hj⟩:=val_at h
      exact ⟨j+1,by rw [List.getElem?_cons_succ];exact hj⟩
theorem drop_len {kvs:List (NK × V)} {k:NK} {v:V} (hn:(kvs.map (·.1)).Nodup) (h:valV kvs k=some v):(dropN kvs k).length+1=kvs.length:=by
  obtain ⟨j,hj⟩:=val_at h
  have jl:=(List.getElem?_eq_some_iff.mp hj).1
  unfold dropN
  rw [← erase_key hn hj,List.length_eraseIdx_of_lt jl]
  omega
theorem pos_drop {r:List Tm} {t:Tm} (hn:(r ++ [t]).Nodup) (u:Tm):posF r u=if tmNK u=tmNK t then none else posF (r ++ [t]) u:=by
  have nt:t ∉ r:=fun z=>by
    rw [List.nodup_append] at hn
    exact hn.2.2 t z t (List.mem_singleton_self t) rfl
  by_cases e:u=t
  · subst e
    rw [if_pos rfl,pos_none]
    exact nt
  · rw [if_neg (fun z=>e (tmNK_inj z)),pos_app]
    cases posF r u with
    | some i=>rfl
    | none=>rw [if_neg (fun z=>e (tmD_inj z).symm)]
theorem bank_pop {H:Hp} {b dx L M:Addr} {room:Int} {r:List Tm} {t:Tm} (hB:BankAt P w CB H b dx L M room (r ++ [t])) (hn:(r ++ [t]).Nodup) :
    ∃ us kb kvs,H L=some (.lst (us ++ [.ref kb]))∧us.length=r.length∧DN P w H M kvs∧NKey H (tmNK t) kb∧valV kvs (tmNK t)=some (nV r.length)∧DN P w (upd H L (.lst us)) M kvs∧NKey (upd H L (.lst us)) (tmNK t) kb ∧
      ∀ φ,DN P w (upd (upd H L (.lst us)) M (.ext φ)) M (dropN kvs (tmNK t))→BankAt P w CB (upd (upd H L (.lst us)) M (.ext φ)) b dx L M room r:=by
  obtain ⟨nLM,nbL,nbM⟩:=hB.ne
  obtain ⟨hb,⟨us',hL,hts⟩,kvs,dn,hkl,hval⟩:=hB
  obtain ⟨us,u,rfl,hts',ht⟩:=paired_snoc_inv hts
  obtain ⟨kb,rfl,nk⟩:=ht.key
  have hv:valV kvs (tmNK t)=some (nV r.length):=by
    rw [hval,pos_app,show posF r t=none from pos_none.mpr fun z=>by
      rw [List.nodup_append] at hn
      exact hn.2.2 t z t (List.mem_singleton_self t) rfl]
    rw [if_pos rfl];rfl
  have tup:∀ c ys,H c=some (.tup ys)→(upd H L (.lst us)) c=some (.tup ys):=fun c ys e=>by rw [upd_ne (ne_of e hL (fun z=>nomatch z))];exact e
  have ex:∀ φ,H M=some (.ext φ)→(upd H L (.lst us)) M=some (.ext φ):=fun φ e=>by rw [upd_ne (Ne.symm nLM)];exact e
  obtain ⟨φ0,e0⟩:=dn.ext
  refine ⟨us,kb,kvs,hL,Paired.length hts',dn,nk,hv,dn.keep ex tup,nk.keep tup,fun φ d'=>⟨?_,⟨us,?_,?_⟩,dropN kvs (tmNK t),d',?_,fun u => ?_⟩⟩
  · rw [upd_ne nbM,upd_ne nbL];exact hb
  · rw [upd_ne nLM,upd_same]
  · refine tms_keep (fun c ys e => ?_) hts'
    rw [upd_ne (ne_of e e0 (fun z=>nomatch z))];exact tup c ys e
  · have:=drop_len (dn_nodup dn) hv
    rw [List.length_append,List.length_singleton] at hkl
    omega
  · rw [valV_dropN,pos_drop hn,hval]
    split <;> rfl
inductive SpCut (P:Program) (w:World) (CB:Addr) (vs:List V) (H:Hp) (Q:VK):Prop
  | mk (b dx L M:Addr) (room:Int) (ts:List Tm) (m:Nat) (z0:vs = [.ref b,nV m]) (z1:BankAt P w CB H b dx L M room ts) (z2:ts.Nodup) (z3:ts.length≤900) (z4:∀ H',But2 L M H H'→BankAt P w CB H' b dx L M room (ts.take m)→Q .non H'):SpCut P w CB vs H Q
noncomputable def spCut (P:Program) (w:World) (CB:Addr):Sp:=fun vs H Q _=>SpCut P w CB vs H Q
inductive CutI (P:Program) (w:World) (CB:Addr) (H:Hp) (b dx L M:Addr) (room:Int) (ts:List Tm) (m n:Nat) (σ : St) (H':Hp):Prop
  | mk:(σ = [some (.ref b),some (nV m)])→But2 L M H H'→BankAt P w CB H' b dx L M room (ts.take n)→n≤ts.length→(n=ts.length∨m≤n)→CutI P w CB H b dx L M room ts m n σ H'
theorem ok_cutN (B:Blt mg) (Z:TopBk K mg CB CF) (D:DefM K CB "cut" "Bank.cut" s_cut ["self", "many"]):HasMN P w K mg base 1 CB "cut" ["self", "many"] (spCut P w CB):=by
  have cB:=Z.cB
  refine D.hasN sc_cut (fun vs H Q E h => ?_) (fun f cdv A outer s H vs Q hr h => ?_)
  · obtain ⟨b,dx,L,M,room,ts,m,rfl,_⟩:=h;rfl
  obtain ⟨b,dx,L,M,room,ts,m,rfl,hB,hn,hz,q⟩:=h
  refine ⟨_,(pss_one (ps_while PassesOwn.never (pt_cmpR op_gt (pe_callB call_len_seq rfl B.len_ PySem.boot_len (pa_cons (pe_fld (pv 0) rfl) pa_nil)) (pv 1) (nomark _))
    (pss_one (ps_expr (pe_popN (un10N hr) (pe_fld (pv 0) rfl) (pe_bm0 PySem.F.plainAttrs_list PySem.F.slot_list_pop PySem.F.type_list_pop mt_pop (pe_fld (pv 0) rfl)) ⟨rfl,rfl,rfl,rfl⟩))))),?_⟩
  try dsimp only [cxOf]
  refine ⟨CutI P w CB H b dx L M room ts m,⟨ts.length,rfl,But2.refl _ _ _,by rw [List.take_length];exact hB,Nat.le_refl _,.inl rfl⟩,?_⟩
  rintro n σ H1 ⟨rfl,bt,hB1,hnl,hor⟩
  obtain ⟨us,hL,hts⟩:=id hB1.2.1
  have hlen:us.length=n:=by rw [Paired.length hts,List.length_take];omega
  refine ⟨_,rfl,b,CB,dx,_,_,rfl,hB1.1,Z.cB,Z.nTerms,rfl,L,us,rfl,.inl (SqL.of hL),_,rfl,_,_,rfl,rfl,_,rfl,?_⟩
  by_cases hlt:((m:Nat):Int) < ((us.length:Nat):Int)
  rotate_left
  · rw [decide_eq_false hlt]
    refine iteF ?_
    have e:ts.take n=ts.take m:=by
      rcases hor with h | h
      · rw [List.take_of_length_le (by omega),List.take_of_length_le (by omega)]
      · rw [show n=m by omega]
    rw [e] at hB1
    exact q H1 bt hB1
  rw [decide_eq_true hlt]
  obtain ⟨k,rfl⟩:∃ k,n=k+1:=⟨n - 1,by omega⟩
  have ek:ts.take (k+1)=ts.take k ++ [ts[k]'(by omega)]:=by rw [List.take_add_one,List.getElem?_eq_getElem (by omega)];rfl
  have hn1:(ts.take k ++ [ts[k]'(by omega)]).Nodup:=by rw [← ek];exact hn.sublist (List.take_sublist _ _)
  rw [ek] at hB1
  obtain ⟨us',kb,kvs,hL',hul,dn,nk,hv,dn',nk',fin⟩:=bank_pop hB1 hn1
  refine iteT ⟨CutI P w CB H b dx L M room ts m k,fun σ' H' h=>⟨k,Nat.lt_succ_self k,h⟩,?_⟩
  refine ⟨_,rfl,b,CB,dx,_,_,rfl,hB1.1,Z.cB,Z.nPlaces,rfl,M,rfl,⟨kvs,dn⟩,?_⟩
  refine ⟨_,rfl,b,CB,dx,_,_,rfl,hB1.1,Z.cB,Z.nTerms,rfl,.inl ⟨rfl,_,SqL.of hL'⟩,L,_,.ref kb,rfl,rfl,hL',(by rw [List.length_append,List.length_singleton,Nat.add_sub_cancel,List.getElem?_concat_length]),?_⟩
  rw [List.dropLast_concat]
  refine ⟨kvs,tmNK (ts[k]'(by omega)),kb,_,rfl,dn',nk',hv,fun φ d' => ?_⟩
  refine ⟨rfl,fun c u n1 n2 e => ?_,fin φ d',by omega,.inr (by omega)⟩
  rw [upd_ne n2,upd_ne n1]
  exact bt c u n1 n2 e

end

end K80
namespace K80
open PySem L2 Sw
section
variable {P:Program} {w:World} {K:PySem.W.Frag} {mg:Str→Option Value} {base:Heap} {CB CF:Addr}
theorem add_nodup {ts:List Tm} {t:Tm} (h:ts.Nodup):(addF ts t).1.Nodup:=by
  cases e:posF ts t with
  | some i=>rw [add_old e];exact h
  | none =>
    rw [add_new e]
    refine List.nodup_append.mpr ⟨h,List.nodup_cons.mpr ⟨List.not_mem_nil,List.nodup_nil⟩,fun a ha b hb z => ?_⟩
    rw [List.mem_singleton.mp hb] at z
    exact pos_none.mp e (z ▸ ha)
mutual
theorem put_nodup (bf:Str→Nat):∀ (t:T) (ts:List Tm),ts.Nodup→(ptF bf ts t).1.Nodup
  | .any x,ts,h=>by rw [ptF];exact h
  | .num n,ts,h=>by rw [ptF];exact add_nodup h
  | .name n,ts,h=>by rw [ptF];exact add_nodup h
  | .of x as,ts,h=>by rw [ptF];exact add_nodup (puts_nodup bf as ts h)
theorem puts_nodup (bf:Str→Nat):∀ (as:List T) (ts:List Tm),ts.Nodup→(ptsF bf ts as).1.Nodup
  | [],ts,h=>by rw [ptsF];exact h
  | a :: as,ts,h=>by rw [ptsF];exact puts_nodup bf as _ (put_nodup bf a ts h)
end
inductive SpPutE (P:Program) (w:World) (CB CF:Addr) (n:Nat) (vs:List V) (H:Hp) (Q:VK) (E:XK):Prop
  | mk (b dx L M:Addr) (room:Int) (ts:List Tm) (v bv:V) (p:T) (bf:Str→Nat) (z0:vs = [.ref b,v,bv]) (z1:BankAt P w CB H b dx L M room ts) (z2:ts.Nodup) (z3:IsTr H p v) (z4:p.depth≤n) (z5:p.Slim) (z6:BOk H bv bf p.hol) (z7:(ptF bf ts p).1.length≤900) (z8:(ts.length:Int)≤room)
    (z9:(((ptF bf ts p).1.length:Int)≤room)→∀ H',But2 L M H H'→BankAt P w CB H' b dx L M room (ptF bf ts p).1→Q (nV (ptF bf ts p).2) H')
    (z10:¬ (((ptF bf ts p).1.length:Int)≤room)→∀ H' ea,But2 L M H H'→BankAt P w CB H' b dx L M room ts→H ea=none→H' ea=some (XCm ea CF none)→E (.ref CF) (some ea) H'):SpPutE P w CB CF n vs H Q E
noncomputable def spPutE (P:Program) (w:World) (CB CF:Addr) (n:Nat):Sp:=fun vs H Q E=>SpPutE P w CB CF n vs H Q E
theorem ok_putE {n:Nat} (B:Blt mg) (Z:TopBk K mg CB CF) (mFF:PySem.W.exmOne K (.ref CF) (.ref CF)=some true) (h_put_part:HasM P w K mg base (n+1) CB "put_part" ["self", "pattern", "binds"] (spPutPart P w CB CF n)) (h_cutN:HasMN P w K mg base 1 CB "cut" ["self", "many"] (spCut P w CB))
    (D:DefMd K CB "put" "Bank.put" s_put ["self", "pattern", "binds"] [.non]):HasMd P w K mg base (n+2) CB "put" ["self", "pattern", "binds"] [.non] (spPutE P w CB CF n):=by
  have cB:=Z.cB
  have oFull:=Z.oFull
  have e_Full:=Z.oFull.glob
  refine D.has sc_put (fun vs H Q E h => ?_) (fun f cdv A outer s H vs Q E hr h => ?_)
  · obtain ⟨b,dx,L,M,room,ts,v,bv,p,bf,rfl,_⟩:=h;rfl
  obtain ⟨b,dx,L,M,room,ts,v,bv,p,bf,rfl,hB,hnd,hT,hd,hsl,hbo,hz,hro,q1,q2⟩:=h
  refine ⟨_,(pss_cons (ps_set (i:=3) sc_put.nd rfl (Or.inl rfl) (pe_callB call_len_seq rfl B.len_ PySem.boot_len (pa_cons (pe_fld (pv 0) rfl) pa_nil)))
    (pss_one (ps_tryR ⟨rfl,rfl⟩ rfl e_Full (pst_ret (pet_mE h_put_part cB hr (by omega) (pv 0) (pa_cons (pv 1) (pa_cons (pv 2) pa_nil)))) (fun ea=>(pss_cons (ps_expr (pe_mN h_cutN cB (hr.mark _) (by omega) (pv 0) (pa_cons (pv 3) pa_nil)))
    (pss_one (ps_raiseN oFull fliesN (pa_cons pe_str pa_nil) rfl))))))),?_⟩
  try dsimp only [cxOf]
  obtain ⟨us,hL,hts⟩:=id hB.2.1
  refine ⟨_,rfl,b,CB,dx,_,_,rfl,hB.1,Z.cB,Z.nTerms,rfl,L,us,rfl,.inl (SqL.of hL),?_⟩
  dsimp only [gName]
  refine ⟨_,rfl,b,dx,_,rfl,hB.1,rfl,_,rfl,_,rfl,b,dx,L,M,room,ts,v,bv,p,bf,rfl,hB,hT,hd,hsl,hbo,hz,hro,q1,fun hnf H1 ts' bt p1 p2 hB1=>⟨CF,rfl,mFF,fun ea hea => ?_⟩⟩
  have s1:=same_new hea (XCm ea CF none)
  have hx:=upd_same (H:=H1) (a:=ea) (o:=XCm ea CF none)
  have hB2:=hB1.same s1
  generalize upd H1 ea (XCm ea CF none)=H2 at s1 hx hB2 ⊢
  have hut:=Paired.length hts
  have nd':ts'.Nodup:=(put_nodup bf p ts hnd).sublist p2.sublist
  refine ⟨_,rfl,b,dx,_,rfl,hB2.1,rfl,_,rfl,b,dx,L,M,room,ts',us.length,rfl,hB2,nd',by have:=p2.length_le;omega,fun H3 bt3 hB3 => ?_⟩
  have e:ts'.take us.length=ts:=by
    obtain ⟨r,rfl⟩:=p1
    rw [hut,List.take_left]
  rw [e] at hB3
  have nL:ea≠L:=fun z=>by obtain ⟨us1,h1,_⟩:=hB1.2.1;rw [z,h1] at hea;cases hea
  have nM:ea≠M:=fun z=>by obtain ⟨kvs,d1,_⟩:=hB1.2.2;obtain ⟨φ,h1⟩:=d1.ext;rw [z,h1] at hea;cases hea
  have hx3:=bt3 _ _ nL nM hx
  have h0:H ea=none:=by
    cases z:H ea with
    | none=>rfl
    | some o=>have:=bt ea o nL nM z;rw [hea] at this;cases this
  exact ⟨(show 1≤sizeLine by decide),.inl ⟨CF,hx3⟩,q2 hnf H3 ea (fun c u n1 n2 h=>bt3 c u n1 n2 (s1 _ _ (bt c u n1 n2 h))) hB3 h0 hx3⟩
end

end K80
namespace K80
open PySem L2 Sw
section
variable {P:Program} {w:World} {K:PySem.W.Frag} {mg:Str→Option Value} {base:Heap} {CB CF CH:Addr}
structure TopBh (K:PySem.W.Frag) (CH:Addr):Prop where
  cH:Cls K CH
  nBank:NoAttr K CH "bank"
  nEdges:NoAttr K CH "edges"
structure BenchAt (P:Program) (w:World) (CB CH:Addr) (H:Hp) (bn dn b dx L M EL:Addr) (room:Int) (ts:List Tm) (es:List Ed):Prop where
  hn:H bn=some (.ins CH dn [("bank",.ref b),("edges",.ref EL)])
  hB:BankAt P w CB H b dx L M room ts
  hE:∃ evs,H EL=some (.lst evs)∧Eds H evs es
  ne:EL≠L
theorem bank_lst {H:Hp} {b dx L M:Addr} {room:Int} {ts:List Tm} (h:BankAt P w CB H b dx L M room ts):∃ us,H L=some (.lst us):=let ⟨_,⟨us,h,_⟩,_⟩:=h; ⟨us,h⟩
theorem bank_ext {H:Hp} {b dx L M:Addr} {room:Int} {ts:List Tm} (h:BankAt P w CB H b dx L M room ts):∃ φ,H M=some (.ext φ):=by
  obtain ⟨_,_,kvs,dn,_⟩:=h
  exact dn.ext
inductive SpBInit (P:Program) (w:World) (CB CH:Addr) (vs:List V) (H:Hp) (Q:VK):Prop
  | mk (bn dn:Addr) (room:Int) (ev:vs = [.ref bn,.int room]) (hn:H bn=some (.ins CH dn [])) (q:∀ H' b dx L M EL,But bn H H'→H L=none→H M=none→H EL=none→BenchAt P w CB CH H' bn dn b dx L M EL room [] []→Q .non H'):SpBInit P w CB CH vs H Q
noncomputable def spBInit (P:Program) (w:World) (CB CH:Addr):Sp:=fun vs H Q _=>SpBInit P w CB CH vs H Q
theorem ok_binit (Y:TopBh K CH) (h_init_Bank:HasC P w K mg base 1 "Bank" CB ["self", "room"] (spKInit P w CB)) (D:DefC K mg "Bench" CH "Bench.__init__" s_binit ["self", "room"]):HasC P w K mg base 3 "Bench" CH ["self", "room"] (spBInit P w CB CH):=by
  refine D.has sc_binit (fun vs H Q E h => ?_) (fun f cdv A outer s H vs Q E hr h => ?_)
  · obtain ⟨bn,dn,room,rfl,_⟩:=h;rfl
  obtain ⟨bn,dn,room,rfl,hn,q⟩:=h
  refine ⟨_,(pss_cons (ps_fld (pv 0) (pe_makeE h_init_Bank hr (by omega) (passE fun _ _ _ z=>z) rfl (pa_cons (pv 1) pa_nil)) rfl)
    (pss_one (ps_fld (pv 0) (pe_lst pa_nil) rfl))),?_⟩
  try dsimp only [cxOf]
  refine ⟨_,rfl,fun b dx hb hdx hne => ?_⟩
  have nb:bn≠b:=fun e=>by rw [← e,hn] at hb;cases hb
  have nd:bn≠dx:=fun e=>by rw [← e,hn] at hdx;cases hdx
  refine ⟨b,dx,room,rfl,upd_same,fun H1 L M bt hL hM hB=>⟨rfl,?_⟩⟩
  have k1:∀ c o,c≠b→c≠dx→H c=some o→H1 c=some o:=fun c o n1 n2 h=>bt c o n1 (by rw [upd_ne n1,upd_ne n2];exact h)
  have s1:Same H H1:=fun c o h=>k1 c o (fun e=>by rw [e,hb] at h;cases h) (fun e=>by rw [e,hdx] at h;cases h) h
  have old:∀ c,(upd (upd H dx (.own b)) b (.ins CB dx [])) c=none→H c=none:=fun c h=>by
    by_cases e1:c=b
    · rw [e1];exact hb
    · rw [upd_ne e1] at h
      by_cases e2:c=dx
      · rw [e2];exact hdx
      · rw [upd_ne e2] at h;exact h
  have hL0:=old L hL
  have hM0:=old M hM
  have hn1:=s1 _ _ hn
  obtain ⟨us1,hL1,_⟩:=id hB.2.1
  obtain ⟨φ,hM1⟩:=bank_ext hB
  refine ⟨_,rfl,bn,CH,dn, [],rfl,hn1,Y.cH,Y.nBank,by decide,?_⟩
  refine ⟨Nat.zero_le _,fun EL hEL => ?_⟩
  have nE:EL≠bn:=fun e=>by rw [e,upd_same] at hEL;cases hEL
  have hEL1:H1 EL=none:=by rw [upd_ne nE] at hEL;exact hEL
  have hEL0:=s1.free hEL1
  refine ⟨_,rfl,bn,CH,dn, [("bank",.ref b)],rfl,(by rw [upd_ne (Ne.symm nE),upd_same];rfl),Y.cH,Y.nEdges,(show 1 < 1000 by decide),?_⟩
  have kb:∀ c o,c≠bn→H1 c=some o→(upd (upd (upd H1 bn (.ins CH dn [("bank",V.ref b)])) EL (.lst [])) bn (.ins CH dn [("bank",V.ref b),("edges",V.ref EL)])) c=some o:=fun c o n h=>by
    have h2:c≠EL:=fun e=>by rw [e,hEL1] at h;cases h
    rw [upd_ne n,upd_ne h2,upd_ne n];exact h
  have nbb:b≠bn:=Ne.symm nb
  show Q .non (upd (upd (upd H1 bn (.ins CH dn [("bank",V.ref b)])) EL (.lst [])) bn (.ins CH dn [("bank",V.ref b),("edges",V.ref EL)]))
  refine q _ b dx L M EL (fun c o n h=>kb c o n (s1 _ _ h)) hL0 hM0 hEL0 ⟨upd_same,?_,⟨[],?_,.nil⟩,fun e=>by rw [e,hL1] at hEL1;cases hEL1⟩
  · obtain ⟨h1,⟨us,h2,h3⟩,kvs,d,h5,h6⟩:=hB
    have nL:L≠bn:=fun e=>by rw [e,hn1] at h2;cases h2
    have nM:M≠bn:=fun e=>by rw [e,hn1] at hM1;cases hM1
    have kt:∀ c ys,H1 c=some (.tup ys)→_:=fun c ys z=>kb c _ (fun e=>by rw [e,hn1] at z;cases z) z
    exact ⟨kb _ _ nbb h1,⟨us,kb _ _ nL h2,tms_keep kt h3⟩,kvs,d.keep (fun φ' z=>kb _ _ nM z) kt,h5,h6⟩
  · rw [upd_ne nE,upd_same]
inductive SpBPut (P:Program) (w:World) (CB CF CH:Addr) (n:Nat) (vs:List V) (H:Hp) (Q:VK) (E:XK):Prop
  | mk (bn dn b dx L M EL:Addr) (room:Int) (ts:List Tm) (es:List Ed) (v:V) (p:T) (ev:vs = [.ref bn,v]) (hb:BenchAt P w CB CH H bn dn b dx L M EL room ts es) (nd:ts.Nodup) (hT:IsTr H p v) (hd:p.depth≤n) (hs:p.Slim) (hh:p.hol = []) (len:(ptF b0 ts p).1.length≤900) (hr:(ts.length:Int)≤room)
    (q1:(((ptF b0 ts p).1.length:Int)≤room)→∀ H',But2 L M H H'→BankAt P w CB H' b dx L M room (ptF b0 ts p).1→Q (nV (ptF b0 ts p).2) H')
    (q2:¬ (((ptF b0 ts p).1.length:Int)≤room)→∀ H' m,But2 L M H H'→BankAt P w CB H' b dx L M room ts→E (.ref CF) m H'):SpBPut P w CB CF CH n vs H Q E
noncomputable def spBPut (P:Program) (w:World) (CB CF CH:Addr) (n:Nat):Sp:=fun vs H Q E=>SpBPut P w CB CF CH n vs H Q E
theorem ok_bput {n:Nat} (Zb:TopBk K mg CB CF) (Y:TopBh K CH) (h_put:HasMd P w K mg base (n+2) CB "put" ["self", "pattern", "binds"] [.non] (spPutE P w CB CF n)) (D:DefM K CH "put" "Bench.put" s_bput ["self", "tree"]):HasM P w K mg base (n+3) CH "put" ["self", "tree"] (spBPut P w CB CF CH n):=by
  have cB:=Zb.cB
  refine D.has sc_bput (fun vs H Q E h => ?_) (fun f cdv A outer s H vs Q E hr h => ?_)
  · obtain ⟨bn,dn,b,dx,L,M,EL,room,ts,es,v,p,rfl,_⟩:=h;rfl
  obtain ⟨bn,dn,b,dx,L,M,EL,room,ts,es,v,p,rfl,hb,nd,hT,hd,hs,hh,len,hro,q1,q2⟩:=h
  refine ⟨_,(pss_one (ps_ret (pe_mEd h_put cB hr (by omega) (passE fun _ _ _ z=>z) (pe_fld (pv 0) rfl) (pa_cons (pv 1) pa_nil)))),?_⟩
  try dsimp only [cxOf]
  exact ⟨_,rfl,bn,CH,dn,_,_,rfl,hb.hn,Y.cH,Y.nBank,rfl,b,dx,_,rfl,hb.hB.1,rfl,_,rfl,SpPutE.mk b dx L M room ts v .non p b0 rfl hb.hB nd hT hd hs (fun x hx=>by rw [hh] at hx;cases hx) len hro q1 fun hn H' ea bt hB _ _=>q2 hn H' (some ea) bt hB⟩
end

end K80
namespace K80
open PySem L2 Sw
section
variable {P:Program} {w:World} {K:PySem.W.Frag} {mg:Str→Option Value} {base:Heap} {CR CNT:Addr}
theorem rd_set' {v:V} {i:Nat} {rest:TS} {D:Ends} {σ : St} {H:Hp} (h:rest D (σ.set i (some v)) H):tSeq (tAsg (tC v) (gName i)) rest D σ H:=h
noncomputable def pairW:List Str := ["tell", "same", "why"]
noncomputable def treeW:List Str := ["put", "cheap", "shared", "sign", "names", "number"]
noncomputable def rS (t:T):Str := "put " ++ t.shown
noncomputable def PO (H:Hp) (v:V) (t:T):Prop := ∃ p u,v = .ref p∧H p=some (.tup [.str "put",u])∧IsTr H t u
theorem PO.keep {H H':Hp} {v:V} {t:T} (k:∀ b ys,H b=some (.tup ys)→H' b=some (.tup ys)) (h:PO H v t):PO H' v t:=by
  obtain ⟨p,u,e,h1,h2⟩:=h
  exact ⟨p,u,e,k _ _ h1,tr_keep k h2⟩
theorem read_ok {H:Hp} {Q:VK} {E:XK} {t:T} (g:TrG t) (q:∀ v H',Same H H'→IsTr H' t v→Q v H'):spRead CNT false [.str t.shown] H Q E:=by
  have st:Stop []:=fun c hc=>nomatch hc
  have e:=pt_done false 30 t g.ok (by have:=g.dep;omega) (.inr (pure_no63 t g.pu g.ok)) [] st
  rw [List.append_nil] at e
  have sl:=shown_len t g.ok
  have pl:=g.parts
  refine ⟨t.shown,rfl,by omega,fun t' e' hp' v H' s' tr => ?_,fun h => ?_⟩
  · rw [e] at e'
    cases e'
    exact q v H' s' tr
  · have:=h t e
    omega
inductive SpROrder (vs:List V) (H:Hp) (Q:VK):Prop
  | mk (t:T) (ev:vs = [.str "put",.str t.shown]) (g:TrG t) (q:∀ v H',Same H H'→PO H' v t→Q v H'):SpROrder vs H Q
noncomputable def spROrder:Sp:=fun vs H Q _=>SpROrder vs H Q
theorem ok_read_order {t_PAIR_WORDS t_TREE_WORDS:Addr} (B:Blt mg) (g_PAIR_WORDS:mg "PAIR_WORDS" = some (.ref t_PAIR_WORDS)) (g_TREE_WORDS:mg "TREE_WORDS" = some (.ref t_TREE_WORDS)) (q_PAIR:∀ H:Hp,SqT K H t_PAIR_WORDS (pairW.map V.str)) (q_TREE:∀ H:Hp,SqT K H t_TREE_WORDS (treeW.map V.str)) (h_read:HasE P w K mg base 65 "read" ["text"] (spRead CNT false)) (D:Def K mg "read_order" s_read_order ["word", "rest"]):Has P w K mg base 66 "read_order" ["word", "rest"] spROrder:=by
  refine D.has sc_read_order (fun vs H Q E h => ?_) (fun f cdv A outer s H vs Q E hr h => ?_)
  · obtain ⟨t,rfl,_⟩:=h;rfl
  obtain ⟨t,rfl,g,q⟩:=h
  refine ⟨_,(pss_cons (ps_if (pt_cmpR op_eq (pv 0) pe_str (nomark _)) pss_never pss_nil)
    (pss_cons (ps_if (pt_cmpR op_eq (pv 0) pe_str (nomark _)) pss_never pss_nil)
    (pss_cons (ps_if (pt_cmpR op_eq (pv 0) pe_str (nomark _)) pss_never pss_nil)
    (pss_cons (ps_if (pt_cmpR op_in_seq (pv 0) (pe_glob (v := .ref t_PAIR_WORDS) rfl g_PAIR_WORDS rfl) (by with_unfolding_all rfl)) pss_never pss_nil)
    (pss_cons (ps_if (pt_cmpR op_in_seq (pv 0) (pe_glob (v := .ref t_TREE_WORDS) rfl g_TREE_WORDS rfl) (by with_unfolding_all rfl)) (pss_one (ps_ret (pe_tup (pa_cons (pv 0) (pa_cons (pe_callE h_read hr (by omega) passNo rfl (pa_cons (pv 1) pa_nil)) pa_nil))))) pss_nil)
    (pss_one (ps_ret pe_non))))))),?_⟩
  try dsimp only [cxOf]
  refine ⟨_,rfl,rfl,_,rfl,iteD (fun z=>absurd (V.str.inj z) (by decide)) (fun _ => ?_)⟩
  refine ⟨_,rfl,rfl,_,rfl,iteD (fun z=>absurd (V.str.inj z) (by decide)) (fun _ => ?_)⟩
  refine ⟨_,rfl,rfl,_,rfl,iteD (fun z=>absurd (V.str.inj z) (by decide)) (fun _ => ?_)⟩
  refine ⟨_,rfl,t_PAIR_WORDS,_,rfl,.inr (q_PAIR H),rfl,(by decide +kernel),_,rfl,?_⟩
  rw [show inV (.str "put") (pairW.map V.str)=false by decide +kernel]
  refine iteF ?_
  refine ⟨_,rfl,t_TREE_WORDS,_,rfl,.inr (q_TREE H),rfl,(by decide +kernel),_,rfl,?_⟩
  rw [show inV (.str "put") (treeW.map V.str)=true by decide +kernel]
  refine iteT ?_
  refine ⟨_,rfl,_,rfl,read_ok g fun v1 H2 s2 h1=>⟨(show 2≤sizeLine by decide),fun pp hpp => ?_⟩⟩
  have s4:=same_new hpp (.tup [.str "put",v1])
  exact q _ _ (s2.trans s4) ⟨pp,v1,rfl,upd_same,tr_same s4 h1⟩
inductive SpRRow (vs:List V) (H:Hp) (Q:VK):Prop
  | mk (t:T) (line:V) (ev:vs = [.str (rS t),line]) (g:TrG t) (q:∀ v H',Same H H'→PO H' v t→Q v H'):SpRRow vs H Q
noncomputable def spRRow:Sp:=fun vs H Q _=>SpRRow vs H Q
theorem rS_len {t:T} (g:TrG t):(rS t).length≤6000:=by
  have:=shown_len t g.ok
  have:=g.parts
  unfold rS
  rw [Str.length_append]
  show 4+t.shown.length≤6000
  omega
theorem rS_no10 {t:T} (g:TrG t):10 ∉ (rS t).cps.toList:=by
  have h1:=shown_sign g.ok (c:=10) (by decide +kernel)
  unfold rS
  rw [app_cps]
  intro z
  rcases List.mem_append.mp z with z | z
  · exact absurd z (by decide +kernel)
  · exact h1 z
theorem ok_read_row (B:Blt mg) (h_read_order:Has P w K mg base 66 "read_order" ["word", "rest"] spROrder) (D:Def K mg "read_row" s_read_row ["row", "line"]):Has P w K mg base 67 "read_row" ["row", "line"] spRRow:=by
  refine D.has sc_read_row (fun vs H Q E h => ?_) (fun f cdv A outer s H vs Q E hr h => ?_)
  · obtain ⟨t,line,rfl,_⟩:=h;rfl
  obtain ⟨t,line,rfl,g,q⟩:=h
  refine ⟨_,(pss_cons (ps_set (i:=2) sc_read_row.nd rfl (Or.inl rfl) (pe_bm PySem.F.plainAttrs_str PySem.F.slot_str_partition PySem.F.type_str_partition mt_partition (pv 0) (pa_cons pe_str pa_nil)))
    (pss_cons (ps_tryNo (pss_one (ps_set (i:=3) sc_read_row.nd rfl (Or.inl rfl) (pe_callH h_read_order hr (by omega) rfl (pa_cons (pe_ix ix_tup (pv 2) pe_int (fun _ _=>rfl)) (pa_cons (pe_ix ix_tup (pv 2) pe_int (fun _ _=>rfl)) pa_nil))))))
    (pss_cons (ps_if (pt_cmpR op_isN (pv 3) pe_non (nomark _)) (pss_one ps_never) pss_nil)
    (pss_one (ps_ret (pv 3)))))),?_⟩
  try dsimp only [cxOf]
  have big:(10000000:Nat)≤sizeLine:=by decide
  have ol:=rS_len g
  refine ⟨_,rfl,rfl,_,_,rfl,rfl,by decide,by omega,fun p hp => ?_⟩
  rw [show Txt.partition (rS t) (" " : Str)=(("put" : Str),(" " : Str),t.shown) from cut_sign (j:=0) (c:=32) (by unfold rS;rw [app_cps];rfl) rfl (by decide +kernel) (fun i hi=>by omega)]
  have s1:=same_new hp (.tup [.str "put",.str " ",.str t.shown])
  have hp1:=upd_same (H:=H) (a:=p) (o := .tup [.str "put",.str " ",.str t.shown])
  dsimp only [gName] at s1 hp1 ⊢
  generalize upd H p (.tup [.str "put",.str " ",.str t.shown])=H1 at s1 hp1 ⊢
  refine ⟨_,rfl,p,_,0,_,rfl,rfl,SqT.of hp1,atI_nat (j:=0) rfl,_,rfl,p,_,2,_,rfl,rfl,SqT.of hp1,atI_nat (j:=2) rfl,SpROrder.mk t rfl g fun pv H2 s2 hv => ?_⟩
  dsimp only [gName]
  obtain ⟨pa,u,rfl,_⟩:=id hv
  refine ⟨_,rfl,rfl,_,rfl,iteD (fun z=>nomatch z) (fun _ => ?_)⟩
  exact ⟨_,rfl,q _ H2 (s1.trans s2) hv⟩
inductive SpSheet (vs:List V) (H:Hp) (Q:VK):Prop
  | mk (us:List T) (ev:vs = [.str (Str.join "\n" (us.map rS))]) (h1:1≤us.length) (h2:us.length≤200) (hl:(Str.join "\n" (us.map rS)).length≤5000000) (g:∀ t∈us,TrG t) (q:∀ R rvs H',Same H H'→H R=none→H' R=some (.lst rvs)→Paired (PO H') rvs us→Q (.ref R) H'):SpSheet vs H Q
noncomputable def spSheet:Sp:=fun vs H Q _=>SpSheet vs H Q
inductive ShI (H:Hp) (tx:Str) (R Dt L:Addr) (us:List T) (i:Nat) (σ : St) (H':Hp):Prop
  | mk (x3 x4 x5:Option V) (rvs:List V) (e : σ = [some (.str tx),some (.ref R),some (.ref Dt),x3,x4,x5]) (sm:Same H H') (hR:H' R=some (.lst rvs)) (hp:Paired (PO H') rvs (us.take i)) (hL:H' L=some (.lst ((us.map rS).map V.str))):ShI H tx R Dt L us i σ H'
theorem rS_ne (t:T):rS t ≠ "" := fun z=>by
  have h:=congrArg Str.length z
  unfold rS at h
  rw [Str.length_append] at h
  have:4+t.shown.length=0:=h
  omega
theorem ok_read_sheet (B:Blt mg) (h_read_row:Has P w K mg base 67 "read_row" ["row", "line"] spRRow) (D:Def K mg "read_sheet" s_read_sheet ["text"]):Has P w K mg base 68 "read_sheet" ["text"] spSheet:=by
  refine D.has sc_read_sheet (fun vs H Q E h => ?_) (fun f cdv A outer s H vs Q E hr h => ?_)
  · obtain ⟨us,rfl,_⟩:=h;rfl
  obtain ⟨us,rfl,h1,h2,hl,g,q⟩:=h
  refine ⟨_,(pss_cons (ps_set (i:=1) sc_read_sheet.nd rfl (Or.inl rfl) (pe_lst pa_nil))
    (pss_cons (ps_set (i:=2) sc_read_sheet.nd rfl (Or.inl rfl) pe_dnewK)
    (pss_cons (ps_for PassesOwn.never rfl (pi_enum1 rfl B.enumerate_ (pa_cons (pe_bm PySem.F.plainAttrs_str PySem.F.slot_str_split PySem.F.type_str_split mt_split (pv 0) (pa_cons pe_str pa_nil)) pa_nil)) (pg_tup rfl (pgs_cons (pg_name (i:=3) sc_read_sheet.nd rfl (Or.inl rfl)) (pgs_cons (pg_name (i:=4) sc_read_sheet.nd rfl (Or.inl rfl)) pgs_nil)))
    (pss_one (ps_if (pt_cmpR op_ne (pv 4) pe_str (nomark _)) (pss_cons (ps_set (i:=5) sc_read_sheet.nd rfl (Or.inl rfl) (pe_callH h_read_row hr (by omega) rfl (pa_cons (pv 4) (pa_cons (pv 3) pa_nil))))
    (pss_cons (ps_if (pt_cmpR op_eq (pe_ix ix_tup (pv 5) pe_int (fun _ _=>rfl)) pe_str (nomark _)) pss_never pss_nil)
    (pss_one (ps_expr (pe_bm PySem.F.plainAttrs_list PySem.F.slot_list_append PySem.F.type_list_append mt_append (pv 1) (pa_cons (pv 5) pa_nil)))))) pss_nil)))
    (pss_one (ps_ret (pv 1)))))),?_⟩
  try dsimp only [cxOf]
  have big:(10000000:Nat)≤sizeLine:=by decide
  refine ⟨Nat.zero_le _,fun R hR0 => ?_⟩
  dsimp only [gName]
  have s1:=same_new hR0 (.lst [])
  have hR1:=upd_same (H:=H) (a:=R) (o := .lst [])
  generalize upd H R (.lst [])=H1 at s1 hR1 ⊢
  refine fun Dt hDt => ?_
  dsimp only [gName]
  have s2:=same_new hDt (.dK [])
  have hR2:=s2 _ _ hR1
  generalize upd H1 Dt (.dK [])=H2 at s2 hR2 ⊢
  refine ⟨_,rfl,rfl,_,_,rfl,rfl,by decide,by omega,fun L hL=>⟨L,rfl,⟨_,SqL.of upd_same⟩,?_⟩⟩
  rw [split_join (c:=10) (by decide +kernel) rfl (by rw [List.length_map];exact h1) (fun u hu=>by
    obtain ⟨r,hr,rfl⟩:=List.mem_map.mp hu
    exact rS_no10 (g r hr))]
  have s3:=same_new hL (.lst ((us.map rS).map V.str))
  have hL3:=upd_same (H:=H2) (a:=L) (o := .lst ((us.map rS).map V.str))
  have hR3:=s3 _ _ hR2
  have hLR:L≠R:=fun e=>by rw [e,hR2] at hL;cases hL
  have g3:=s1.trans (s2.trans s3)
  generalize upd H2 L (.lst ((us.map rS).map V.str))=H3 at s3 hL3 hR3 g3 ⊢
  have hll:((us.map rS).map V.str).length=us.length:=by rw [List.length_map,List.length_map]
  refine for_enum1 (xs:=(us.map rS).map V.str) (ShI H (Str.join "\n" (us.map rS)) R Dt L us) (ShI.mk none none none [] rfl g3 hR3 .nil hL3) (fun i σ H' _ h=>by obtain ⟨_,_,_,_,_,_,_,_,hL'⟩:=h;exact SqL.of hL') ?_ ?_
  · rintro i x p σ H' hx ⟨x3,x4,x5,rvs,rfl,sm,hR,hp,hL'⟩ hp0
    have hi:i < us.length:=by have:=(List.getElem?_eq_some_iff.mp hx).1;omega
    obtain ⟨t,er⟩:∃ t,us[i]? = some t:=⟨_,List.getElem?_eq_getElem hi⟩
    rw [List.getElem?_map,List.getElem?_map,er] at hx
    cases hx
    have go:=g t (List.mem_of_getElem? er)
    have rl:=Paired.length hp
    rw [List.length_take] at rl
    have s4:=same_new hp0 (.tup [.int ((i+1:Nat):Int),.str (rS t)])
    have hR4:=s4 _ _ hR
    have hL4:=s4 _ _ hL'
    refine ⟨p,_,rfl,SqT.of upd_same,rfl,_,_,rfl,_,_,rfl,rfl,?_⟩
    dsimp only [gName]
    generalize upd H' p (.tup [.int ((i+1:Nat):Int),.str (rS t)])=H4 at s4 hR4 hL4 ⊢
    refine ⟨_,rfl,rfl,_,rfl,iteDN (fun _ => ?_) (fun z=>absurd (V.str.inj z) (rS_ne t))⟩
    refine ⟨_,rfl,_,rfl,SpRRow.mk t _ rfl go fun pv H5 s5 hv => ?_⟩
    have hR5:=s5 _ _ hR4
    have hL5:=s5 _ _ hL4
    have hp5:Paired (PO H5) rvs (us.take i):=Paired.mapP hp fun _ _ z=>z.keep fun b ys e=>s5 _ _ (s4 _ _ e)
    dsimp only [gName]
    obtain ⟨pa,u,rfl,hpa,hu⟩:=id hv
    refine ⟨_,rfl,pa,_,0,_,rfl,rfl,SqT.of hpa,atI_nat (j:=0) rfl,rfl,_,rfl,iteD (fun z=>absurd (V.str.inj z) (by decide)) (fun _ => ?_)⟩
    refine ⟨_,rfl,.inl ⟨rfl,_,SqL.of hR5⟩,_,rfl,R,_,_,rfl,rfl,hR5,small1000 (by omega),?_⟩
    have kp:=keep_put (o' := .lst (rvs ++ [.ref pa])) hR5 trivial
    refine ShI.mk _ _ _ (rvs ++ [.ref pa]) rfl ((sm.trans (s4.trans s5)).put hR0) upd_same ?_ (by rw [upd_ne hLR];exact hL5)
    rw [List.take_add_one,er]
    exact Paired.snoc (Paired.mapP hp5 fun _ _ z=>z.keep kp) (hv.keep kp)
  · rintro σ H' ⟨x3,x4,x5,rvs,rfl,sm,hR,hp,hL'⟩
    rw [hll,List.take_length] at hp
    exact ⟨_,rfl,q R rvs H' sm hR0 hR hp⟩
end

end K80
namespace K80
open PySem L2 Sw
section
variable {P:Program} {w:World} {K:PySem.W.Frag} {mg:Str→Option Value} {base:Heap} {CB CF CH CN:Addr}
theorem paired_at {α β : Type} {R : α → β → Prop}:∀ {xs:List α} {ys:List β} {i:Nat} {x : α},Paired R xs ys→xs[i]? = some x→∃ y,ys[i]? = some y∧R x y
  | _,_,_,_,.nil,e=>by simp at e
  | _,_,0,_,.cons h _,e=>by simp at e;subst e;exact ⟨_,rfl,h⟩
  | _,_,i+1,v,.cons _ r,e=>by
    obtain ⟨t,e',h⟩:=paired_at (i:=i) (x:=v) r (by simpa using e)
    exact ⟨t,by simpa using e',h⟩
structure TopN (K:PySem.W.Frag) (CN:Addr):Prop where
  cN:Cls K CN
  nBench:NoAttr K CN "bench"
  nRules:NoAttr K CN "rules"
  nCosts:NoAttr K CN "costs"
structure RunAt (P:Program) (w:World) (CB CH CN:Addr) (H:Hp) (rn dn bn db b dx L M EL RL CD:Addr) (room:Int) (ts:List Tm):Prop where
  hr:H rn=some (.ins CN dn [("bench",.ref bn),("rules",.ref RL),("costs",.ref CD)])
  hb:BenchAt P w CB CH H bn db b dx L M EL room ts []
theorem RunAt.keepT {H H':Hp} {rn dn bn db b dx L M EL RL CD:Addr} {room:Int} {ts ts':List Tm} (h:RunAt P w CB CH CN H rn dn bn db b dx L M EL RL CD room ts) (bt:But2 L M H H') (hB:BankAt P w CB H' b dx L M room ts'):RunAt P w CB CH CN H' rn dn bn db b dx L M EL RL CD room ts':=by
  obtain ⟨hr,hb⟩:=h
  obtain ⟨us,hL⟩:=bank_lst hb.hB
  obtain ⟨φ,hM⟩:=bank_ext hb.hB
  obtain ⟨evs,hE,heds⟩:=hb.hE
  exact ⟨bt _ _ (ne_of hr hL (fun z=>nomatch z)) (ne_of hr hM (fun z=>nomatch z)) hr,bt _ _ (ne_of hb.hn hL (fun z=>nomatch z)) (ne_of hb.hn hM (fun z=>nomatch z)) hb.hn,hB,⟨evs,bt _ _ hb.ne (ne_of hE hM (fun z=>nomatch z)) hE,eds_keep (hb.hB.tup bt) heds⟩,hb.ne⟩
theorem RunAt.same {H H':Hp} {rn dn bn db b dx L M EL RL CD:Addr} {room:Int} {ts:List Tm} (h:RunAt P w CB CH CN H rn dn bn db b dx L M EL RL CD room ts) (s:Same H H'):RunAt P w CB CH CN H' rn dn bn db b dx L M EL RL CD room ts:=h.keepT (Same.but2 s) (h.hb.hB.same s)
theorem RunAt.put {H:Hp} {rn dn bn db b dx L M EL RL CD:Addr} {room:Int} {ts:List Tm} {R:Addr} {xs ys:List V} (h:RunAt P w CB CH CN H rn dn bn db b dx L M EL RL CD room ts) (hR:H R=some (.lst xs)) (nL:R≠L) (nE:R≠EL):RunAt P w CB CH CN (upd H R (.lst ys)) rn dn bn db b dx L M EL RL CD room ts:=by
  obtain ⟨hr,hb⟩:=h
  obtain ⟨evs,hE,heds⟩:=hb.hE
  have kp:=keep_put (o' := .lst ys) hR trivial
  refine ⟨by rw [upd_ne (ne_of hr hR (fun z=>nomatch z))];exact hr,by rw [upd_ne (ne_of hb.hn hR (fun z=>nomatch z))];exact hb.hn,hb.hB.keep hR nL (fun c o n h=>by rw [upd_ne n];exact h),⟨evs,by rw [upd_ne (Ne.symm nE)];exact hE,eds_keep kp heds⟩,hb.ne⟩
inductive SpNInit (P:Program) (w:World) (CB CH CN:Addr) (vs:List V) (H:Hp) (Q:VK):Prop
  | mk (rn dn:Addr) (room:Int) (ev:vs = [.ref rn,.int room]) (hn:H rn=some (.ins CN dn [])) (q:∀ H' bn db b dx L M EL RL CD,But rn H H'→H L=none→H M=none→RunAt P w CB CH CN H' rn dn bn db b dx L M EL RL CD room []→Q .non H'):SpNInit P w CB CH CN vs H Q
noncomputable def spNInit (P:Program) (w:World) (CB CH CN:Addr):Sp:=fun vs H Q _=>SpNInit P w CB CH CN vs H Q
theorem ok_ninit (Y:TopN K CN) (h_init_Bench:HasC P w K mg base 3 "Bench" CH ["self", "room"] (spBInit P w CB CH)) (D:DefC K mg "Runner" CN "Runner.__init__" s_ninit ["self", "room"]):HasC P w K mg base 5 "Runner" CN ["self", "room"] (spNInit P w CB CH CN):=by
  refine D.has sc_ninit (fun vs H Q E h => ?_) (fun f cdv A outer s H vs Q E hr h => ?_)
  · obtain ⟨rn,dn,room,rfl,_⟩:=h;rfl
  obtain ⟨rn,dn,room,rfl,hn,q⟩:=h
  refine ⟨_,(pss_cons (ps_fld (pv 0) (pe_makeE h_init_Bench hr (by omega) (passE fun _ _ _ z=>z) rfl (pa_cons (pv 1) pa_nil)) rfl)
    (pss_cons (ps_fld (pv 0) (pe_lst pa_nil) rfl)
    (pss_one (ps_fld (pv 0) pe_dnewK rfl)))),?_⟩
  try dsimp only [cxOf]
  refine ⟨_,rfl,fun bn db hbn hdb hne=>SpBInit.mk bn db room rfl upd_same fun H1 b dx L M EL bt hL hM hEL hB=>⟨rfl,?_⟩⟩
  have nb:rn≠bn:=fun e=>by rw [← e,hn] at hbn;cases hbn
  have nd:rn≠db:=fun e=>by rw [← e,hn] at hdb;cases hdb
  have old:∀ c,(upd (upd H db (.own bn)) bn (.ins CH db [])) c=none→H c=none:=fun c h=>by
    by_cases e1:c=bn
    · rw [e1];exact hbn
    · rw [upd_ne e1] at h
      by_cases e2:c=db
      · rw [e2];exact hdb
      · rw [upd_ne e2] at h;exact h
  have hL0:=old L hL
  have hM0:=old M hM
  have s1:Same H H1:=fun c o h=>by
    have n1:c≠bn:=fun e=>by rw [e,hbn] at h;cases h
    have n2:c≠db:=fun e=>by rw [e,hdb] at h;cases h
    exact bt c o n1 (by rw [upd_ne n1,upd_ne n2];exact h)
  have hn1:=s1 _ _ hn
  refine ⟨_,rfl,rn,CN,dn, [],rfl,hn1,Y.cN,Y.nBench,by decide,?_⟩
  refine ⟨Nat.zero_le _,fun RL hRL => ?_⟩
  have nR:RL≠rn:=fun e=>by rw [e,upd_same] at hRL;cases hRL
  have hRL1:H1 RL=none:=by rw [upd_ne nR] at hRL;exact hRL
  refine ⟨_,rfl,rn,CN,dn, [("bench",.ref bn)],rfl,(by rw [upd_ne (Ne.symm nR),upd_same];rfl),Y.cN,Y.nRules,(show 1 < 1000 by decide),?_⟩
  refine fun CD hCD => ?_
  have nC:CD≠rn:=fun e=>by rw [e,upd_same] at hCD;cases hCD
  have nCR:CD≠RL:=fun e=>by rw [e,upd_ne nR,upd_same] at hCD;cases hCD
  have hCD1:H1 CD=none:=by rw [upd_ne nC,upd_ne nCR,upd_ne nC] at hCD;exact hCD
  refine ⟨_,rfl,rn,CN,dn, [("bench",.ref bn),("rules",.ref RL)],rfl,(by rw [upd_ne (Ne.symm nC),upd_same];rfl),Y.cN,Y.nCosts,(show 2 < 1000 by decide),?_⟩
  have kb:∀ c o,c≠rn→H1 c=some o→(upd (upd (upd (upd (upd H1 rn (.ins CN dn [("bench",V.ref bn)])) RL (.lst [])) rn (.ins CN dn [("bench",V.ref bn),("rules",V.ref RL)])) CD (.dK [])) rn (.ins CN dn [("bench",V.ref bn),("rules",V.ref RL),("costs",V.ref CD)])) c=some o:=fun c o n h=>by
    have h2:c≠RL:=fun e=>by rw [e,hRL1] at h;cases h
    have h3:c≠CD:=fun e=>by rw [e,hCD1] at h;cases h
    rw [upd_ne n,upd_ne h3,upd_ne n,upd_ne h2,upd_ne n];exact h
  show Q .non (upd (upd (upd (upd (upd H1 rn (.ins CN dn [("bench",V.ref bn)])) RL (.lst [])) rn (.ins CN dn [("bench",V.ref bn),("rules",V.ref RL)])) CD (.dK [])) rn (.ins CN dn [("bench",V.ref bn),("rules",V.ref RL),("costs",V.ref CD)]))
  refine q _ bn db b dx L M EL RL CD (fun c o n h=>kb c o n (s1 _ _ h)) hL0 hM0 ⟨upd_same,?_⟩
  obtain ⟨bh,bB,⟨evs,hE,heds⟩,ne⟩:=hB
  obtain ⟨h1,⟨us,h2,h3⟩,kvs,d,h5,h6⟩:=bB
  have kt:∀ c ys,H1 c=some (.tup ys)→_:=fun c ys z=>kb c _ (fun e=>by rw [e,hn1] at z;cases z) z
  have nM:M≠rn:=fun e=>by obtain ⟨φ,z⟩:=d.ext;rw [e,hn1] at z;cases z
  have nb1:b≠rn:=fun e=>by
    rw [e,hn1] at h1
    exact nomatch (HO.ins.inj (Option.some.inj h1)).2.2
  have nb2:bn≠rn:=Ne.symm nb
  exact ⟨kb _ _ nb2 bh,⟨kb _ _ nb1 h1,⟨us,kb _ _ (fun e=>by rw [e,hn1] at h2;cases h2) h2,tms_keep kt h3⟩,kvs,d.keep (fun φ' z=>kb _ _ nM z) kt,h5,h6⟩,⟨evs,kb _ _ (fun e=>by rw [e,hn1] at hE;cases hE) hE,eds_keep kt heds⟩,ne⟩
inductive SpDo (P:Program) (w:World) (CB CF CH CN:Addr) (vs:List V) (H:Hp) (Q:VK) (E:XK):Prop
  | mk (rn dn bn db b dx L M EL RL CD:Addr) (room:Int) (ts:List Tm) (v:V) (t:T) (ev:vs = [.ref rn,v]) (hR:RunAt P w CB CH CN H rn dn bn db b dx L M EL RL CD room ts) (hv:PO H v t) (g:TrG t) (nd:ts.Nodup) (len:(ts.length:Int)≤room) (r2:room≤200)
    (q1:(((ptF b0 ts t).1.length:Int)≤room)→∀ H',But2 L M H H'→RunAt P w CB CH CN H' rn dn bn db b dx L M EL RL CD room (ptF b0 ts t).1→Q .non H')
    (q2:¬ (((ptF b0 ts t).1.length:Int)≤room)→∀ H' m,But2 L M H H'→RunAt P w CB CH CN H' rn dn bn db b dx L M EL RL CD room ts→E (.ref CF) m H'):SpDo P w CB CF CH CN vs H Q E
noncomputable def spDo (P:Program) (w:World) (CB CF CH CN:Addr):Sp:=fun vs H Q E=>SpDo P w CB CF CH CN vs H Q E
theorem ok_do_with_trees (Y:TopN K CN) (Yh:TopBh K CH) (h_bput:HasM P w K mg base 7 CH "put" ["self", "tree"] (spBPut P w CB CF CH 4)) (D:DefM K CN "do_with_trees" "Runner.do_with_trees" s_do_with_trees ["self", "order"]):HasM P w K mg base 8 CN "do_with_trees" ["self", "order"] (spDo P w CB CF CH CN):=by
  have cH:=Yh.cH
  refine D.has sc_do_with_trees (fun vs H Q E h => ?_) (fun f cdv A outer s H vs Q E hr h => ?_)
  · obtain ⟨rn,dn,bn,db,b,dx,L,M,EL,RL,CD,room,ts,v,t,rfl,_⟩:=h;rfl
  obtain ⟨rn,dn,bn,db,b,dx,L,M,EL,RL,CD,room,ts,v,t,rfl,hR,hv,g,nd,len,r2,q1,q2⟩:=h
  refine ⟨_,(pss_cons (ps_set (i:=2) sc_do_with_trees.nd rfl (Or.inl rfl) (pe_ix ix_tup (pv 1) pe_int (fun _ _=>rfl)))
    (pss_cons (ps_if (pt_cmpR op_eq (pv 2) pe_str (nomark _)) pss_never pss_nil)
    (pss_cons (ps_if (PW.pt (pw_or (pt_cmpR op_eq (pv 2) pe_str (nomark _)) (pw_or1 (pt_cmpR op_eq (pv 2) pe_str (nomark _))))) pss_never pss_nil)
    (pss_cons (ps_set (i:=4) sc_do_with_trees.nd rfl (Or.inl rfl) (pe_mE h_bput cH hr (by omega) (passE fun _ _ _ z=>z) (pe_fld (pv 0) rfl) (pa_cons (pe_ix ix_tup (pv 1) pe_int (fun _ _=>rfl)) pa_nil)))
    (pss_cons (ps_if (pt_cmpR op_eq (pv 2) pe_str (nomark _)) (pss_one (ps_ret pe_non)) pss_nil)
    (pss_one ps_never)))))),?_⟩
  try dsimp only [cxOf]
  obtain ⟨p,u,rfl,hp,hu⟩:=hv
  refine ⟨_,rfl,p,_,0,_,rfl,rfl,SqT.of hp,atI_nat (j:=0) rfl,?_⟩
  dsimp only [gName]
  refine ⟨_,rfl,rfl,_,rfl,iteD (fun z=>absurd (V.str.inj z) (by decide)) (fun _ => ?_)⟩
  refine ⟨_,rfl,rfl,_,rfl,iteD (fun z=>absurd (V.str.inj z) (by decide)) (fun _ => ?_)⟩
  refine ⟨_,rfl,rfl,_,rfl,iteD (fun z=>absurd (V.str.inj z) (by decide)) (fun _ => ?_)⟩
  have pm:=put_most b0 t ts
  have tp:=g.parts
  refine ⟨_,rfl,rn,CN,dn,_,_,rfl,hR.hr,Y.cN,Y.nBench,rfl,bn,db,_,rfl,hR.hb.hn,rfl,_,rfl,p,_,1,_,rfl,rfl,SqT.of hp,atI_nat (j:=1) rfl,SpBPut.mk bn db b dx L M EL room ts [] u t rfl hR.hb nd hu g.dep (ok_slim t g.ok) (pure_hol t g.pu) (by omega) len (fun f1 H1 bt hB => ?_) fun nf H1 m bt hB=>q2 nf H1 m bt (hR.keepT bt hB)⟩
  dsimp only [gName]
  exact ⟨_,rfl,rfl,_,rfl,iteD (fun _=>q1 f1 H1 bt (hR.keepT bt hB)) (fun z=>absurd rfl z)⟩
inductive SpOrd (P:Program) (w:World) (CB CH CN:Addr) (vs:List V) (H:Hp) (Q:VK):Prop
  | mk (rn dn bn db b dx L M EL RL CD:Addr) (room:Int) (ts:List Tm) (v:V) (t:T) (ev:vs = [.ref rn,v]) (hR:RunAt P w CB CH CN H rn dn bn db b dx L M EL RL CD room ts) (hv:PO H v t) (g:TrG t) (nd:ts.Nodup) (len:(ts.length:Int)≤room) (r2:room≤200)
    (q1:(((ptF b0 ts t).1.length:Int)≤room)→∀ H',But2 L M H H'→RunAt P w CB CH CN H' rn dn bn db b dx L M EL RL CD room (ptF b0 ts t).1→Q .non H')
    (q2:¬ (((ptF b0 ts t).1.length:Int)≤room)→∀ H' p,But2 L M H H'→RunAt P w CB CH CN H' rn dn bn db b dx L M EL RL CD room ts→H' p=some (.tup [.str "refused",.str "full"])→Q (.ref p) H'):SpOrd P w CB CH CN vs H Q
noncomputable def spOrd (P:Program) (w:World) (CB CH CN:Addr):Sp:=fun vs H Q _=>SpOrd P w CB CH CN vs H Q
theorem ok_do_order (Y:TopN K CN) (oFull:Exc K mg "Full" CF) (mFF:PySem.W.exmOne K (.ref CF) (.ref CF)=some true) (h_do_with_trees:HasM P w K mg base 8 CN "do_with_trees" ["self", "order"] (spDo P w CB CF CH CN)) (D:DefM K CN "do_order" "Runner.do_order" s_do_order ["self", "order"]):HasM P w K mg base 9 CN "do_order" ["self", "order"] (spOrd P w CB CH CN):=by
  have cN:=Y.cN
  have e_Full:=oFull.glob
  refine D.has sc_do_order (fun vs H Q E h => ?_) (fun f cdv A outer s H vs Q E hr h => ?_)
  · obtain ⟨rn,dn,bn,db,b,dx,L,M,EL,RL,CD,room,ts,v,t,rfl,_⟩:=h;rfl
  obtain ⟨rn,dn,bn,db,b,dx,L,M,EL,RL,CD,room,ts,v,t,rfl,hR,hv,g,nd,len,r2,q1,q2⟩:=h
  refine ⟨_,(pss_cons (ps_if (pt_cmpR op_eq (pe_ix ix_tup (pv 1) pe_int (fun _ _=>rfl)) pe_str (nomark _)) pss_never pss_nil)
    (pss_cons (ps_if (pt_cmpR op_eq (pe_ix ix_tup (pv 1) pe_int (fun _ _=>rfl)) pe_str (nomark _)) pss_never pss_nil)
    (pss_cons (ps_if (pt_cmpR op_eq (pe_ix ix_tup (pv 1) pe_int (fun _ _=>rfl)) pe_str (nomark _)) pss_never pss_nil)
    (pss_one (ps_tryU ⟨rfl,rfl⟩ rfl e_Full (pst_ret (pet_mE h_do_with_trees cN hr (by omega) (pv 0) (pa_cons (pv 1) pa_nil))) (fun ea=>(pss_one (ps_ret (pe_tup (pa_strsB (L := ["refused", "full"]) (by decide +kernel))))))))))),?_⟩
  try dsimp only [cxOf]
  obtain ⟨p,u,rfl,hp,hu⟩:=id hv
  refine ⟨_,rfl,p,_,0,_,rfl,rfl,SqT.of hp,atI_nat (j:=0) rfl,rfl,_,rfl,iteD (fun z=>absurd (V.str.inj z) (by decide)) (fun _ => ?_)⟩
  refine ⟨_,rfl,p,_,0,_,rfl,rfl,SqT.of hp,atI_nat (j:=0) rfl,rfl,_,rfl,iteD (fun z=>absurd (V.str.inj z) (by decide)) (fun _ => ?_)⟩
  refine ⟨_,rfl,p,_,0,_,rfl,rfl,SqT.of hp,atI_nat (j:=0) rfl,rfl,_,rfl,iteD (fun z=>absurd (V.str.inj z) (by decide)) (fun _ => ?_)⟩
  refine ⟨_,rfl,rn,dn,_,rfl,hR.hr,rfl,_,rfl,SpDo.mk rn dn bn db b dx L M EL RL CD room ts _ t rfl hR hv g nd len r2 q1 fun nf H1 m bt hR1=>⟨CF,rfl,mFF,fun ea hea => ?_⟩⟩
  have s1:=same_new hea (XO ea CF)
  have hR2:=hR1.same s1
  generalize upd H1 ea (XO ea CF)=H2 at s1 hR2 ⊢
  refine ⟨(show 2≤sizeLine by decide),fun pp hpp => ?_⟩
  have s2:=same_new hpp (.tup [.str "refused",.str "full"])
  exact q2 nf _ pp (bt.same (s1.trans s2)) (hR2.same s2) upd_same
noncomputable def RfAt (H:Hp) (v:V):Prop := ∃ p,v = .ref p∧H p=some (.tup [.str "refused",.str "full"])
inductive SpGo (vs:List V) (H:Hp) (Q:VK):Prop
  | mk (us:List T) (room:Int) (ev:vs = [.str (Str.join "\n" (us.map rS)),.int room]) (h1:1≤us.length) (h2:us.length≤200) (hl:(Str.join "\n" (us.map rS)).length≤5000000) (g:∀ t∈us,TrG t) (r0:0≤room) (r2:room≤200)
    (q:∀ A avs H',Same H H'→H' A=some (.lst avs)→avs.length=(goO room us).2→(∀ v∈avs,RfAt H' v)→Q (.ref A) H'):SpGo vs H Q
noncomputable def spGo:Sp:=fun vs H Q _=>SpGo vs H Q
inductive GoI (P:Program) (w:World) (CB CH CN:Addr) (H:Hp) (tx:Str) (R rn AL:Addr) (rvs:List V) (us:List T) (dn bn db b dx L M EL RL CD:Addr) (room:Int) (i:Nat) (σ : St) (H':Hp):Prop
  | mk (x5 x6:Option V) (avs:List V) (e : σ = [some (.str tx),some (.int room),some (.ref R),some (.ref rn),some (.ref AL),x5,x6]) (sm:Same H H') (hR:H' R=some (.lst rvs)) (hp:Paired (PO H') rvs us) (hN:RunAt P w CB CH CN H' rn dn bn db b dx L M EL RL CD room (goO room (us.take i)).1) (hA:H' AL=some (.lst avs)) (la:avs.length=(goO room (us.take i)).2) (ha:∀ v∈avs,RfAt H' v):GoI P w CB CH CN H tx R rn AL rvs us dn bn db b dx L M EL RL CD room i σ H'
theorem goO_nodup (room:Int) (us:List T):(goO room us).1.Nodup:=by
  have key:∀ (us:List T) (s:List Tm × Nat),s.1.Nodup→(us.foldl (stepO room) s).1.Nodup:=fun us=>by
    induction us with
    | nil=>exact fun s h=>h
    | cons t us ih =>
      intro s h
      rw [List.foldl_cons]
      refine ih _ ?_
      unfold stepO
      split
      · exact put_nodup b0 t _ h
      · exact h
  exact key us _ List.nodup_nil
theorem goO_few (room:Int):∀ us:List T,(goO room us).2≤us.length:=fun us=>by
  have key:∀ (us:List T) (s:List Tm × Nat),(us.foldl (stepO room) s).2≤s.2+us.length:=fun us=>by
    induction us with
    | nil=>exact fun s=>Nat.le_refl _
    | cons t us ih =>
      intro s
      rw [List.foldl_cons,List.length_cons]
      refine Nat.le_trans (ih _) ?_
      unfold stepO
      split
      · show s.2+_≤_;omega
      · show s.2+1+_≤_;omega
  have:=key us ([],0)
  unfold goO
  omega
theorem ok_run80 (B:Blt mg) (Y:TopN K CN) (h_read_sheet:Has P w K mg base 68 "read_sheet" ["text"] spSheet) (h_init_Runner:HasC P w K mg base 5 "Runner" CN ["self", "room"] (spNInit P w CB CH CN)) (h_do_order:HasM P w K mg base 9 CN "do_order" ["self", "order"] (spOrd P w CB CH CN)) (D:DefDK K mg "run" s_run ["text", "room"] [.int 120] ["room"]):HasDK P w K mg base 69 "run" ["text", "room"] [.int 120] ["room"] spGo:=by
  have cN:=Y.cN
  refine D.has sc_run (fun vs H Q E h => ?_) (fun f cdv A outer s H vs Q E hr h => ?_)
  · obtain ⟨us,room,rfl,_⟩:=h;rfl
  obtain ⟨us,room,rfl,h1,h2,hl,g,r0,r2,q⟩:=h
  refine ⟨_,(pss_cons (ps_set (i:=2) sc_run.nd rfl (Or.inl rfl) (pe_callH h_read_sheet hr (by omega) rfl (pa_cons (pv 0) pa_nil)))
    (pss_cons (ps_set (i:=3) sc_run.nd rfl (Or.inl rfl) (pe_makeE h_init_Runner hr (by omega) (passE fun _ _ _ z=>z) rfl (pa_cons (pv 1) pa_nil)))
    (pss_cons (ps_set (i:=4) sc_run.nd rfl (Or.inl rfl) (pe_lst pa_nil))
    (pss_cons (ps_for PassesOwn.leaving rfl (pi_list (pv 2)) (pg_name (i:=5) sc_run.nd rfl (Or.inl rfl))
    (pss_cons (ps_set (i:=6) sc_run.nd rfl (Or.inl rfl) (pe_mE h_do_order cN hr (by omega) (passE fun _ _ _ z=>z) (pv 3) (pa_cons (pv 5) pa_nil)))
    (pss_one (ps_if (pt_cmpR op_notN (pv 6) pe_non (nomark _)) (pss_one (ps_expr (pe_bm PySem.F.plainAttrs_list PySem.F.slot_list_append PySem.F.type_list_append mt_append (pv 4) (pa_cons (pv 6) pa_nil)))) pss_nil))))
    (pss_one (ps_ret (pv 4))))))),?_⟩
  try dsimp only [cxOf]
  refine ⟨_,rfl,SpSheet.mk us rfl h1 h2 hl g fun R rvs H1 s1 hR0 hR hp => ?_⟩
  dsimp only [gName]
  refine ⟨_,rfl,fun rn dn hrn hdn hne=>SpNInit.mk rn dn room rfl upd_same fun H2 bn db b dx L M EL RL CD bt hL hM hN=>⟨rfl,?_⟩⟩
  dsimp only [gName]
  have s2:Same H1 H2:=fun c o h=>by
    have n1:c≠rn:=fun e=>by rw [e,hrn] at h;cases h
    have n2:c≠dn:=fun e=>by rw [e,hdn] at h;cases h
    exact bt c o n1 (by rw [upd_ne n1,upd_ne n2];exact h)
  have hR2:=s2 _ _ hR
  have nRL:R≠L:=fun e=>by
    have:(upd (upd H1 dn (.own rn)) rn (.ins CN dn [])) R=none:=by rw [e];exact hL
    have n1:R≠rn:=fun e=>by rw [e,hrn] at hR;cases hR
    have n2:R≠dn:=fun e=>by rw [e,hdn] at hR;cases hR
    rw [upd_ne n1,upd_ne n2,hR] at this
    cases this
  refine ⟨Nat.zero_le _,fun AL hAL => ?_⟩
  dsimp only [gName]
  have s3:=same_new hAL (.lst [])
  have hA3:=upd_same (H:=H2) (a:=AL) (o := .lst [])
  have hN3:=hN.same s3
  obtain ⟨usL,hLL⟩:=bank_lst hN.hb.hB
  obtain ⟨evs,hEE,_⟩:=hN.hb.hE
  obtain ⟨φ,hMM⟩:=bank_ext hN.hb.hB
  have nAL:AL≠L:=fun e=>by rw [e,hLL] at hAL;cases hAL
  have nAE:AL≠EL:=fun e=>by rw [e,hEE] at hAL;cases hAL
  have nAM:AL≠M:=fun e=>by rw [e,hMM] at hAL;cases hAL
  have nRA:R≠AL:=fun e=>by rw [← e,hR2] at hAL;cases hAL
  have nRM:R≠M:=fun e=>by rw [← e,hR2] at hMM;cases hMM
  have sm0:=s1.trans s2
  have hA0:H AL=none:=by
    cases z:H AL with
    | none=>rfl
    | some o=>have:=sm0 _ _ z;rw [hAL] at this;cases this
  have old:∀ c,(upd (upd H1 dn (.own rn)) rn (.ins CN dn [])) c=none→H c=none:=fun c hc=>by
    cases z:H c with
    | none=>rfl
    | some o =>
      have z1:=s1 _ _ z
      have n1:c≠rn:=fun e=>by rw [e,hrn] at z1;cases z1
      have n2:c≠dn:=fun e=>by rw [e,hdn] at z1;cases z1
      rw [upd_ne n1,upd_ne n2,z1] at hc
      cases hc
  have L0:=old L hL
  have M0:=old M hM
  have sm3:=sm0.trans s3
  have hR3:=s3 _ _ hR2
  have hp3:Paired (PO (upd H2 AL (.lst []))) rvs us:=Paired.mapP hp fun _ _ z=>z.keep fun b ys e=>s3 _ _ (s2 _ _ e)
  generalize upd H2 AL (.lst [])=H3 at s3 hA3 hN3 sm3 hR3 hp3 ⊢
  have rl:=Paired.length hp
  refine ⟨_,rfl,R,rfl,⟨_,SqL.of hR3⟩,?_⟩
  refine for_list (xs:=rvs) (GoI P w CB CH CN H (Str.join "\n" (us.map rS)) R rn AL rvs us dn bn db b dx L M EL RL CD room) (GoI.mk none none [] rfl sm3 hR3 hp3 hN3 hA3 rfl (fun v h=>nomatch h)) ?_ ?_ ?_
  · rintro i σ H' _ ⟨x5,x6,avs,rfl,sm,hR',_⟩
    exact SqL.of hR'
  · rintro i y σ H' hy ⟨x5,x6,avs,rfl,sm,hR',hp',hN',hA',la,ha⟩
    obtain ⟨t,ht,hv⟩:=paired_at hp' hy
    have et:us.take (i+1)=us.take i ++ [t]:=by rw [List.take_add_one,ht];rfl
    have few:=goO_few room (us.take i)
    rw [List.length_take] at few
    dsimp only [gName]
    refine ⟨_,rfl,rn,dn,_,rfl,hN'.hr,rfl,_,rfl,SpOrd.mk rn dn bn db b dx L M EL RL CD room _ y t rfl hN' hv (g t (List.mem_of_getElem? ht)) (goO_nodup _ _) (goO_room r0 _) r2 (fun f1 H4 bt4 hN4 => ?_) (fun nf H4 p bt4 hN4 hp4 => ?_)⟩
    · have e1:goO room (us.take (i+1))=((ptF b0 (goO room (us.take i)).1 t).1,(goO room (us.take i)).2):=by rw [et,goO_snoc];unfold stepO;rw [if_pos f1]
      have kt:=hN'.hb.hB.tup bt4
      dsimp only [gName]
      refine ⟨_,rfl,rfl,_,rfl,iteDN (fun z=>absurd rfl z) (fun _ => ?_)⟩
      refine GoI.mk _ _ avs rfl (fun c o h=>bt4 c o (fun e=>by rw [e,L0] at h;cases h) (fun e=>by rw [e,M0] at h;cases h) (sm _ _ h)) (bt4 _ _ nRL nRM hR') (Paired.mapP hp' fun _ _ z=>z.keep kt) (by rw [e1];exact hN4) (bt4 _ _ nAL nAM hA') (by rw [e1];exact la) (fun v hv' => ?_)
      obtain ⟨p,e,hp⟩:=ha v hv'
      exact ⟨p,e,kt _ _ hp⟩
    · have e1:goO room (us.take (i+1))=((goO room (us.take i)).1,(goO room (us.take i)).2+1):=by rw [et,goO_snoc];unfold stepO;rw [if_neg nf]
      have kt:=hN'.hb.hB.tup bt4
      have hA4:=bt4 _ _ nAL nAM hA'
      dsimp only [gName]
      refine ⟨_,rfl,rfl,_,rfl,iteDN (fun _ => ?_) (fun z=>nomatch z)⟩
      refine ⟨_,rfl,.inl ⟨rfl,_,SqL.of hA4⟩,_,rfl,AL,_,_,rfl,rfl,hA4,small1000 (by omega),?_⟩
      have kp:=keep_put (o' := .lst (avs ++ [.ref p])) hA4 trivial
      refine GoI.mk _ _ (avs ++ [.ref p]) rfl (Same.put (fun c o h=>bt4 c o (fun e=>by rw [e,L0] at h;cases h) (fun e=>by rw [e,M0] at h;cases h) (sm _ _ h)) hA0) (by rw [upd_ne nRA];exact bt4 _ _ nRL nRM hR') (Paired.mapP hp' fun _ _ z=>(z.keep kt).keep kp) (by rw [e1];exact hN4.put hA4 nAL nAE) upd_same (by rw [e1,List.length_append,la];rfl) (fun v hv' => ?_)
      rcases List.mem_append.mp hv' with hv' | hv'
      · obtain ⟨p,e,hp⟩:=ha v hv'
        exact ⟨p,e,kp _ _ (kt _ _ hp)⟩
      · rw [List.mem_singleton.mp hv']
        exact ⟨p,rfl,kp _ _ hp4⟩
  · rintro σ H' ⟨x5,x6,avs,rfl,sm,hR',hp',hN',hA',la,ha⟩
    rw [rl,List.take_length] at la
    exact ⟨_,rfl,q AL avs H' sm hA' la ha⟩
end

end K80
namespace K80
open PySem L2 Sw
section
variable {P:Program} {w:World} {K:PySem.W.Frag} {mg:Str→Option Value} {base:Heap}
inductive SpAt (K:PySem.W.Frag) (vs:List V) (H:Hp) (Q:VK):Prop
  | mk (a:Addr) (ns:List Int) (k:Int) (z0:vs = [.ref a,.int k]) (z1:SqL K H a (ns.map V.int)) (z2:0≤k) (z3:Q (.int (if k < ns.length then ns.getD k.toNat 0 else 0)) H):SpAt K vs H Q
noncomputable def spAt (K:PySem.W.Frag):Sp:=fun vs H Q _=>SpAt K vs H Q
theorem ok_at (B:Blt mg) (D:Def K mg "_law_at" s_at ["_law_script", "_law_k"]):Has P w K mg base 1 "_law_at" ["_law_script", "_law_k"] (spAt K):=by
  refine D.has sc_at (fun vs H Q E h => ?_) (fun f cdv A outer s H vs Q E hr h => ?_)
  · obtain ⟨a,ns,k,rfl,_⟩:=h;rfl
  obtain ⟨a,ns,k,rfl,hS,h0,q⟩:=h
  refine ⟨_,(pss_cons (ps_if (pt_cmpR op_lt (pv 1) (pe_callB call_len_seq rfl B.len_ PySem.boot_len (pa_cons (pv 0) pa_nil)) (nomark _)) (pss_one (ps_ret (pe_ix ix_list (pv 0) (pv 1) (fun _ _=>rfl)))) pss_nil)
    (pss_one (ps_ret pe_int))),?_⟩
  try dsimp only [cxOf]
  refine ⟨_,rfl,_,rfl,a,_,rfl,.inl hS,k,_,rfl,rfl,_,rfl,?_⟩
  refine iteD (fun c => ?_) (fun c => ?_)
  · rw [List.length_map] at c
    have hk:k.toNat < ns.length:=by omega
    have ek:((k.toNat:Nat):Int)=k:=by omega
    have ha:atI (ns.map V.int) k=some (.int ns[k.toNat]):=by
      have z:atI (ns.map V.int) ((k.toNat:Nat):Int)=some (.int ns[k.toNat]):=atI_nat (by rw [List.getElem?_map,List.getElem?_eq_getElem hk];rfl)
      rw [ek] at z
      exact z
    rw [if_pos c,List.getD_eq_getElem?_getD,List.getElem?_eq_getElem hk] at q
    exact ⟨_,rfl,_,rfl,a,_,k,_,rfl,rfl,hS,ha,q⟩
  · rw [List.length_map] at c
    rw [if_neg c] at q
    exact q
noncomputable def wordX (s v:Int):Str:=timesS (sg (s / 64 % 26)) (s / 8 % (1+s % 8)).toNat ++ sg ((s / 1664+v) % 26) ++ timesS (sg (s / 64 % 26)) (1+s % 8 - 1 - s / 8 % (1+s % 8)).toNat
theorem times_cps (i:Int) (n:Nat):(timesS (sg i) n).cps.toList=List.replicate n (97+i.toNat):=by
  unfold timesS sg
  simp
theorem wordX_cps (s v:Int):(wordX s v).cps.toList=List.replicate (s / 8 % (1+s % 8)).toNat (97+(s / 64 % 26).toNat) ++ [97+((s / 1664+v) % 26).toNat] ++ List.replicate (1+s % 8 - 1 - s / 8 % (1+s % 8)).toNat (97+(s / 64 % 26).toNat):=by
  unfold wordX
  rw [app_cps,app_cps,times_cps,times_cps]
  rfl
theorem wordX_ok (s v:Int):IsW (wordX s v):=by
  have a1:0≤s % 8:=Int.emod_nonneg _ (by decide)
  have a2:s % 8 < 8:=Int.emod_lt_of_pos _ (by decide)
  have b1:0≤s / 64 % 26:=Int.emod_nonneg _ (by decide)
  have b2:s / 64 % 26 < 26:=Int.emod_lt_of_pos _ (by decide)
  have c1:0≤(s / 1664+v) % 26:=Int.emod_nonneg _ (by decide)
  have c2:(s / 1664+v) % 26 < 26:=Int.emod_lt_of_pos _ (by decide)
  have d1:0≤s / 8 % (1+s % 8):=Int.emod_nonneg _ (by omega)
  have d2:s / 8 % (1+s % 8) < 1+s % 8:=Int.emod_lt_of_pos _ (by omega)
  have el:(wordX s v).length=(1+s % 8).toNat:=by
    rw [len_cps,wordX_cps,List.length_append,List.length_append,List.length_replicate,List.length_replicate,List.length_singleton]
    generalize s / 8 % (1+s % 8)=d at d1 d2
    omega
  refine ⟨by rw [el];omega,by rw [el];omega,fun c hc => ?_⟩
  rw [wordX_cps] at hc
  rcases List.mem_append.mp hc with hc | hc
  · rcases List.mem_append.mp hc with hc | hc
    · have:=(List.mem_replicate.mp hc).2
      omega
    · have:=List.mem_singleton.mp hc
      omega
  · have:=(List.mem_replicate.mp hc).2
    omega
noncomputable def seed (ns:List Int):Int:=if (0:Int) < ns.length then ns.getD 0 0 else 0
inductive SpWordX (K:PySem.W.Frag) (vs:List V) (H:Hp) (Q:VK):Prop
  | mk (a:Addr) (ns:List Int) (v:Int) (z0:vs = [.ref a,.int v]) (z1:SqL K H a (ns.map V.int)) (z2:Q (.str (wordX (seed ns) v)) H):SpWordX K vs H Q
noncomputable def spWordX (K:PySem.W.Frag):Sp:=fun vs H Q _=>SpWordX K vs H Q
theorem ok_word (h_at:Has P w K mg base 1 "_law_at" ["_law_script", "_law_k"] (spAt K)) (D:Def K mg "_law_word" s_word ["_law_script", "_law_which"]):Has P w K mg base 2 "_law_word" ["_law_script", "_law_which"] (spWordX K):=by
  refine D.has sc_word (fun vs H Q E h => ?_) (fun f cdv A outer s H vs Q E hr h => ?_)
  · obtain ⟨a,ns,v,rfl,_⟩:=h;rfl
  obtain ⟨a,ns,v,rfl,hS,q⟩:=h
  refine ⟨_,(pss_cons (ps_set (i:=2) sc_word.nd rfl (Or.inl rfl) pe_str)
    (pss_cons (ps_set (i:=3) sc_word.nd rfl (Or.inl rfl) (pe_callH h_at hr (by omega) rfl (pa_cons (pv 0) (pa_cons pe_int pa_nil))))
    (pss_cons (ps_set (i:=4) sc_word.nd rfl (Or.inl rfl) (pe_op op_add pe_int (pe_op op_mod (pv 3) pe_int)))
    (pss_cons (ps_set (i:=5) sc_word.nd rfl (Or.inl rfl) (pe_op op_mod (pe_op op_fdiv (pv 3) pe_int) (pv 4)))
    (pss_cons (ps_set (i:=6) sc_word.nd rfl (Or.inl rfl) (pe_ix ix_str (pv 2) (pe_op op_mod (pe_op op_fdiv (pv 3) pe_int) pe_int) (fun _ _=>rfl)))
    (pss_cons (ps_set (i:=7) sc_word.nd rfl (Or.inl rfl) (pe_ix ix_str (pv 2) (pe_op op_mod (pe_op op_add (pe_op op_fdiv (pv 3) pe_int) (pv 1)) pe_int) (fun _ _=>rfl)))
    (pss_one (ps_ret (pe_op op_add_str (pe_op op_add_str (pe_op op_mul_str0 (pv 6) (pv 5)) (pv 7)) (pe_op op_mul_str0 (pv 6) (pe_op op_sub (pe_op op_sub (pv 4) pe_int) (pv 5)))))))))))),?_⟩
  try dsimp only [cxOf]
  refine rd_set' ?_
  refine ⟨_,rfl,a,ns,0,rfl,hS,Int.le_refl _,?_⟩
  show tSeq _ _ _ _ _
  have es:(if (0:Int) < ns.length then ns.getD (0:Int).toNat 0 else 0)=seed ns:=rfl
  rw [es]
  generalize seed ns=sd at q
  have a1:0≤sd % 8:=Int.emod_nonneg _ (by decide)
  have a2:sd % 8 < 8:=Int.emod_lt_of_pos _ (by decide)
  have b1:0≤sd / 64 % 26:=Int.emod_nonneg _ (by decide)
  have b2:sd / 64 % 26 < 26:=Int.emod_lt_of_pos _ (by decide)
  have c1:0≤(sd / 1664+v) % 26:=Int.emod_nonneg _ (by decide)
  have c2:(sd / 1664+v) % 26 < 26:=Int.emod_lt_of_pos _ (by decide)
  have d1:0≤sd / 8 % (1+sd % 8):=Int.emod_nonneg _ (by omega)
  have d2:sd / 8 % (1+sd % 8) < 1+sd % 8:=Int.emod_lt_of_pos _ (by omega)
  refine ⟨_,rfl,_,_,rfl,rfl,pos',_,_,rfl,rfl,?_⟩
  refine ⟨_,rfl,_,_,rfl,rfl,div',_,rfl,_,_,rfl,rfl,by omega,?_⟩
  refine ⟨_,rfl,_,rfl,_,_,rfl,rfl,div',_,_,rfl,rfl,pos',_,_,_,rfl,rfl,by decide,abc_at b1 b2,?_⟩
  refine ⟨_,rfl,_,rfl,_,_,rfl,rfl,div',_,rfl,_,_,rfl,rfl,_,_,rfl,rfl,pos',_,_,_,rfl,rfl,by decide,abc_at c1 c2,?_⟩
  have t1:(timesS (sg (sd / 64 % 26)) (sd / 8 % (1+sd % 8)).toNat).length≤8:=by rw [len_cps,times_cps,List.length_replicate];omega
  have t2:(timesS (sg (sd / 64 % 26)) (1+sd % 8 - 1 - sd / 8 % (1+sd % 8)).toNat).length≤8:=by rw [len_cps,times_cps,List.length_replicate];omega
  refine ⟨_,rfl,_,rfl,_,_,rfl,rfl,by omega,by omega,by show (1:Nat)≤1000;decide,_,rfl,_,_,rfl,rfl,?_,_,rfl,_,rfl,_,_,rfl,rfl,_,rfl,_,_,rfl,rfl,_,_,rfl,rfl,by omega,by omega,by show (1:Nat)≤1000;decide,_,_,rfl,rfl,?_,q⟩
  · exact Nat.le_trans (show (timesS (sg (sd / 64 % 26)) (sd / 8 % (1+sd % 8)).toNat).length+1≤1000 by omega) (by decide)
  · rw [Str.length_append]
    exact Nat.le_trans (show (timesS (sg (sd / 64 % 26)) (sd / 8 % (1+sd % 8)).toNat).length+1+(timesS (sg (sd / 64 % 26)) (1+sd % 8 - 1 - sd / 8 % (1+sd % 8)).toNat).length≤1000 by omega) (by decide)
end

end K80
namespace K80
open PySem L2 Sw
section
variable {P:Program} {w:World} {K:PySem.W.Frag} {mg:Str→Option Value} {base:Heap}
theorem kit_ll {K:PySem.W.Frag}:PySem.W.kitOne K (.type "list") (.type "list")=some true:=by rfl
theorem kit_tt {K:PySem.W.Frag}:PySem.W.kitOne K (.type "tuple") (.type "tuple")=some true:=by rfl
theorem join_eq (ss:List Str):Txt.join ", " ss=Str.join ", " ss:=by
  unfold Txt.join
  rw [StrLaws.glued_eq_join]
theorem join_nl (ss:List Str):Txt.join "\n" ss=Str.join "\n" ss:=by
  unfold Txt.join
  rw [StrLaws.glued_eq_join]
theorem lens_le {M:Nat}:∀ {ss:List Str},(∀ s∈ss,s.length≤M)→(ss.map (·.length)).sum≤ss.length * M
  | [],_=>Nat.zero_le _
  | s :: ss,h=>by
    have z:=lens_le (ss:=ss) fun v hv=>h v (List.mem_cons_of_mem _ hv)
    have zs:=h s List.mem_cons_self
    rw [List.map_cons,List.sum_cons,List.length_cons,Nat.succ_mul]
    omega
theorem many_4 (n:Nat):many3 0 (n:Int) 4=(n+3) / 4:=by
  unfold many3 Builtin.Range.rangeSize
  split <;> omega
theorem cut_44 {us:List V} {i:Nat} (hi:4 * i < us.length):cutV us (some (0+(i:Int) * 4)) (some (0+(i:Int) * 4+4))=(us.drop (4 * i)).take 4:=by
  have e1:(0+(i:Int) * 4)=((4 * i:Nat):Int):=by omega
  have e2:(0+(i:Int) * 4+4)=((4 * i+4:Nat):Int):=by omega
  unfold cutV
  rw [e2,e1,HT.sIx_nat,HT.sIx_nat,Nat.min_eq_left (by omega:4 * i≤us.length)]
  by_cases c:4 * i+4≤us.length
  · rw [Nat.min_eq_left c,show 4 * i+4 - 4 * i=4 by omega]
  · rw [Nat.min_eq_right (by omega),List.take_of_length_le (by rw [List.length_drop];omega),List.take_of_length_le (by rw [List.length_drop];omega)]
theorem comp_range3S {n:Nat} {ys:List V} {te:TE} {σ : St} {caps:List (Str × Nat)} {H:Hp} {Q:VK} {lo c:Int} (hz:n≤1000) (hy:ys.length=n)
    (hel:∀ (i:Nat) (y:V),i < n→ys[i]? = some y→∀ H',Same H H'→∀ Q':VK,(∀ H'',Same H' H''→Q' y H'')→te (some (.int (lo+(i:Int) * c)) :: capt σ caps) H' Q') (hq:∀ D H',H D=none→Same H H'→H' D=some (.lst ys)→Q (.ref D) H') :
    CompBody (Itr3 lo c n) (gName 0) te (List.replicate 1 none ++ capt σ caps) H Q:=by
  intro D hD
  refine ⟨fun i m τ zs H'=>m=n - i∧i≤n∧(∃ o, τ = o :: capt σ caps)∧zs=ys.take i∧Same H H'∧H' D=some (.lst zs),⟨n,by simp,Nat.zero_le _,⟨none,rfl⟩,by simp,same_new hD _,upd_same⟩,?_⟩
  rintro i m τ zs H' ⟨rfl,hi,⟨o,rfl⟩,rfl,sm,hDl⟩
  refine ⟨hDl,?_⟩
  by_cases hlt:i < n
  · refine .inr ⟨hlt,?_,fun x H'' y => ?_⟩
    · rw [List.length_take]
      exact small1000 (by omega)
    obtain ⟨e,y⟩:=y
    subst e y
    obtain ⟨v,hv⟩:∃ v,ys[i]? = some v:=⟨_,List.getElem?_eq_getElem (by omega)⟩
    show te (some (.int (lo+(i:Int) * c)) :: capt σ caps) _ _
    refine hel i v hlt hv _ sm _ (fun H2 s2 => ?_)
    have er:ys.take (i+1)=ys.take i ++ [v]:=by rw [List.take_add_one,hv];rfl
    exact ⟨s2 _ _ hDl,n - (i+1),by omega,rfl,hlt,⟨_,rfl⟩,er.symm,(sm.trans s2).put hD,upd_same⟩
  · have e:i=n:=by omega
    subst e
    refine .inl ⟨rfl,hq D H' hD sm ?_⟩
    rw [hDl, ← hy,List.take_length]
noncomputable def shV (l:List T):List V:=(l.map T.shown).map V.str
inductive SpKnots (K:PySem.W.Frag) (vs:List V) (H:Hp) (Q:VK):Prop
  | mk (a R:Addr) (ns:List Int) (f:Int) (ev:vs = [.ref a,.ref R]) (hS:SqL K H a (ns.map V.int)) (h0:0≤f) (h1:f < 10 ^ 59) (hR:H R=some (.lst (shV (lev (wordX (seed ns) 3) f 0))))
    (q:∀ t H',Same H H'→lev (wordX (seed ns) 3) f 3 = [t]→Q (.str t.shown) H'):SpKnots K vs H Q
noncomputable def spKnots (K:PySem.W.Frag):Sp:=fun vs H Q _=>SpKnots K vs H Q
inductive KnI (H:Hp) (a:Addr) (x:Str) (f:Int) (m:Nat) (σ : St) (H':Hp):Prop
  | mk (j:Nat) (R:Addr) (j3:j≤3) (em:m=3 - j) (e : σ = [some (.ref a),some (.ref R),some (.str x)]) (sm:Same H H') (hR:H' R=some (.lst (shV (lev x f j)))):KnI H a x f m σ H'
theorem lev_more (x:Str) (f:Int):∀ j,j≤3→(1 < (lev x f j).length↔j < 3)∧(lev x f j).length≤60:=fun j hj=>by
  obtain ⟨e0,e1,e2,e3⟩:=lev_len x f
  rcases (show j=0∨j=1∨j=2∨j=3 by omega) with rfl | rfl | rfl | rfl
  · rw [e0];omega
  · rw [e1];omega
  · rw [e2];omega
  · rw [e3];omega
theorem lev_short {x:Str} {f:Int} (hx:IsW x) (h0:0≤f) (h1:f < 10 ^ 59):∀ j,j≤3→∀ t∈lev x f j,t.shown.length≤6000:=fun j hj t ht=>by
  have hp:∀ j,T.partss (lev x f j)≤T.partss (lev x f (j+1)):=fun j=>by rw [lev,grp_parts];omega
  have p3:=lev_parts x f
  have:=shown_len t ((lev_ok hx h0 h1 j).ok t ht)
  have le:T.partss (lev x f j)≤80:=by
    have a0:T.partss (lev x f 0)≤T.partss (lev x f 1):=hp 0
    have a1:T.partss (lev x f 1)≤T.partss (lev x f 2):=hp 1
    have a2:T.partss (lev x f 2)≤T.partss (lev x f 3):=hp 2
    rcases (show j=0∨j=1∨j=2∨j=3 by omega) with rfl | rfl | rfl | rfl <;> omega
  have:t.parts≤T.partss (lev x f j):=by
    obtain ⟨l1,l2,e⟩:=List.append_of_mem ht
    rw [e,partss_app,T.partss]
    omega
  omega
theorem ok_knots (B:Blt mg) (h_word:Has P w K mg base 2 "_law_word" ["_law_script", "_law_which"] (spWordX K)) (D:Def K mg "_law_knots" s_knots ["_law_script", "_law_rows"]):Has P w K mg base 3 "_law_knots" ["_law_script", "_law_rows"] (spKnots K):=by
  refine D.has sc_knots (fun vs H Q E h => ?_) (fun f cdv A outer s H vs Q E hr h => ?_)
  · obtain ⟨a,R,ns,f,rfl,_⟩:=h;rfl
  obtain ⟨a,R,ns,fi,rfl,hS,h0,h1,hR,q⟩:=h
  refine ⟨_,(pss_cons (ps_set (i:=2) sc_knots.nd rfl (Or.inr rfl) (pe_callH h_word hr (by omega) rfl (pa_cons (pv 0) (pa_cons pe_int pa_nil))))
    (pss_cons (ps_while PassesOwn.never (pt_cmpR op_gt (pe_callB call_len_seq rfl B.len_ PySem.boot_len (pa_cons (pv 1) pa_nil)) pe_int (nomark _))
    (pss_one (ps_set (i:=1) sc_knots.nd rfl (Or.inr rfl) (pe_comp (te:=(tOp _ (tOp _ (tOp _ _ _) (tBM K "str" (rJoin K) _ (tCons (tSl (rSlL K) _ (tPart _) (tPart (tOp _ _ _))) tNil))) _)) (own := ["_law_k"]) (caps := [("_law_word_here",2),("_law_rows",1)]) (comp_scope (defScope s_knots) ["_law_script", "_law_rows", "_law_word_here"] rfl rfl rfl (by decide +kernel)) (pi_range3 rfl B.range_ (pa_cons pe_int (pa_cons (pe_callB call_len_seq rfl B.len_ PySem.boot_len (pa_cons (pv 1) pa_nil)) (pa_cons pe_int pa_nil)))) rfl (fun _ _ _=>pg_name (i:=0) (show (["_law_k", "_law_word_here", "_law_rows"]:List Str).Nodup by decide +kernel) rfl (Or.inl rfl)) (fun _ _ _=>(pe_op op_add_str (pe_op op_add_str (pe_op op_add_str (pv 1) pe_str) (pe_bm PySem.F.plainAttrs_str PySem.F.slot_str_join PySem.F.type_str_join mt_join pe_str (pa_cons (pe_slice sl_list (pv 2) (po_some (pv 0)) (po_some (pe_op op_add (pv 0) pe_int))) pa_nil))) pe_str))))))
    (pss_one (ps_ret (pe_ix ix_list (pv 1) pe_int (fun _ _=>rfl)))))),?_⟩
  try dsimp only [cxOf]
  refine ⟨_,rfl,a,ns,3,rfl,hS,?_⟩
  dsimp only [gName]
  have hx:=wordX_ok (seed ns) 3
  generalize wordX (seed ns) 3=x at hx hR q ⊢
  refine ⟨KnI H a x fi,⟨3,0,R,by decide,rfl,rfl,Same.refl _,hR⟩,?_⟩
  rintro m σ H1 ⟨j,R1,j3,rfl,rfl,s1,hR1⟩
  obtain ⟨l1,l2⟩:=lev_more x fi j j3
  have short:=lev_short hx h0 h1 j j3
  have ll:(shV (lev x fi j)).length=(lev x fi j).length:=by unfold shV;rw [List.length_map,List.length_map]
  refine ⟨_,rfl,R1,_,rfl,.inl (SqL.of hR1),_,_,rfl,rfl,_,rfl,iteD (fun c => ?_) (fun c => ?_)⟩
  · have c3:j < 3:=l1.mp (by omega)
    refine ⟨KnI H a x fi (3 - (j+1)),fun σ' H' h=>⟨3 - (j+1),by omega,h⟩,?_⟩
    refine ⟨_,rfl,R1,_,rfl,.inl (SqL.of hR1),0,_,4,rfl,⟨by decide,by decide,by decide,by decide,by omega,by omega⟩,?_⟩
    rw [many_4,ll]
    refine comp_range3S (ys:=shV (lev x fi (j+1))) (by omega) (by unfold shV;rw [List.length_map,List.length_map,lev,grp_len]) (fun i y hi hy H2 s2 Q' q' => ?_) fun D H2 hD s2 hD2 => ?_
    · have h4:4 * i < (lev x fi j).length:=by omega
      have ey:y = .str (T.of x (((lev x fi j).drop (4 * i)).take 4)).shown:=by
        unfold shV at hy
        rw [lev] at hy
        unfold grp at hy
        rw [List.getElem?_map,List.getElem?_map,List.getElem?_map,List.getElem?_range hi] at hy
        exact (Option.some.inj hy).symm
      subst ey
      have hc:=cut_44 (us:=shV (lev x fi j)) (i:=i) (by omega)
      have hc2:((shV (lev x fi j)).drop (4 * i)).take 4=((((lev x fi j).drop (4 * i)).take 4).map T.shown).map V.str:=by unfold shV;rw [List.map_take,List.map_take,List.map_drop,List.map_drop]
      have cl:(((lev x fi j).drop (4 * i)).take 4).length≤4:=by rw [List.length_take];omega
      have cs:∀ s∈(((lev x fi j).drop (4 * i)).take 4).map T.shown,s.length≤6000:=fun s hs=>by
        obtain ⟨u,hu,rfl⟩:=List.mem_map.mp hs
        exact short u (List.mem_of_mem_drop (List.mem_of_mem_take hu))
      have sum:=lens_le cs
      rw [List.length_map] at sum
      have jl:=StrLaws.join_length_le ", " ((((lev x fi j).drop (4 * i)).take 4).map T.shown)
      rw [List.length_map,show (", " : Str).length=2 from rfl] at jl
      have x8:=hx.2.1
      have big:(10000000:Nat)≤sizeLine:=by decide
      have sh:(T.of x (((lev x fi j).drop (4 * i)).take 4)).shown=x ++ "(" ++ Str.join ", " ((((lev x fi j).drop (4 * i)).take 4).map T.shown) ++ ")" := by rw [T.shown,showns_map]
      rw [sh] at q'
      have sl:((((lev x fi j).drop (4 * i)).take 4).map T.shown).length≤4:=by rw [List.length_map];exact cl
      generalize (((lev x fi j).drop (4 * i)).take 4).map T.shown=ss at hc2 sum jl q' sl
      refine ⟨_,rfl,_,_,rfl,rfl,?_,rfl,_,rfl,_,rfl,_,rfl,_,rfl,_,_,rfl,rfl,_,rfl,R1,_,rfl,SqL.of (s2 _ _ hR1),fun p hp => ?_⟩
      · rw [show (("(" : Str)).length=1 from rfl];omega
      rw [hc,hc2]
      refine ⟨", ",p,ss,rfl,rfl,SqL.of upd_same,?_,?_⟩
      · rw [show (", " : Str).length=2 from rfl];omega
      rw [join_eq]
      refine ⟨_,_,rfl,rfl,?_,_,_,rfl,rfl,?_,q' _ (same_new hp _)⟩
      · rw [Str.length_append,show (("(" : Str)).length=1 from rfl];omega
      · rw [Str.length_append,Str.length_append,show (("(" : Str)).length=1 from rfl,show ((")" : Str)).length=1 from rfl];omega
    · exact ⟨j+1,D,c3,rfl,rfl,s1.trans s2,hD2⟩
  · have e3:j=3:=by
      have:¬ 1 < (lev x fi j).length:=by omega
      omega
    subst e3
    obtain ⟨t,et,_⟩:=lev_top hx h0 h1
    rw [et] at hR1
    exact ⟨_,rfl,R1,_,0,_,rfl,rfl,SqL.of hR1,atI_nat (j:=0) rfl,q t H1 s1 et⟩
inductive SpRight (vs:List V) (H:Hp) (Q:VK):Prop
  | mk (A:Addr) (avs:List V) (m:Int) (ev:vs = [.ref A,.int m]) (hA:H A=some (.lst avs)) (la:(avs.length:Int)=max 0 m) (ha:∀ v∈avs,RfAt H v) (q:∀ H',Same H H'→Q (.bl true) H'):SpRight vs H Q
noncomputable def spRight:Sp:=fun vs H Q _=>SpRight vs H Q
theorem ok_right (B:Blt mg) (D:Def K mg "_law_right" s_right ["_law_found", "_law_many"]):Has P w K mg base 1 "_law_right" ["_law_found", "_law_many"] spRight:=by
  refine D.has sc_right (fun vs H Q E h => ?_) (fun f cdv A outer s H vs Q E hr h => ?_)
  · obtain ⟨A,avs,m,rfl,_⟩:=h;rfl
  obtain ⟨AL,avs,m,rfl,hA,la,ha,q⟩:=h
  refine ⟨_,(pss_cons (ps_if (PW.pt (pw_or (pt_not (pt_val (pe_callB call_isT rfl B.isinstance_ boot_isinstance_ (pa_cons (pv 0) (pa_cons (pe_bltn (v := .ty "list") rfl B.list_ boot_list_ rfl) pa_nil))))) (pw_or1 (pt_cmpR op_ne (pe_callB call_len_seq rfl B.len_ PySem.boot_len (pa_cons (pv 0) pa_nil)) (pe_callB (call_max2 rfl) rfl B.max_ boot_max_ (pa_cons pe_int (pa_cons (pv 1) pa_nil))) (nomark _))))) (pss_one (ps_ret pe_bl)) pss_nil)
    (pss_cons (ps_for PassesOwn.never rfl (pi_list (pv 0)) (pg_name (i:=2) sc_right.nd rfl (Or.inl rfl))
    (pss_one (ps_if (PW.pt (pw_or (pt_not (pt_val (pe_callB call_isT rfl B.isinstance_ boot_isinstance_ (pa_cons (pv 2) (pa_cons (pe_bltn (v := .ty "tuple") rfl B.tuple_ boot_tuple_ rfl) pa_nil))))) (pw_or1 (pt_cmpR (op_neT hr.units0) (pv 2) (pe_tup (pa_strsB (L := ["refused", "full"]) (by decide +kernel))) (nomark _))))) (pss_one (ps_ret pe_bl)) pss_nil)))
    (pss_one (ps_ret pe_bl)))),?_⟩
  try dsimp only [cxOf]
  refine ⟨_,rfl,_,_,_,true,rfl,.lst hA,kit_ll,_,rfl,iteF ?_⟩
  refine ⟨_,rfl,AL,_,rfl,.inl (SqL.of hA),_,rfl,_,_,rfl,rfl,_,rfl,iteDN (fun z=>absurd ?_ z) (fun _ => ?_)⟩
  · refine congrArg V.int ?_
    rw [la]
    split <;> omega
  refine ⟨_,rfl,AL,rfl,⟨_,SqL.of hA⟩,?_⟩
  refine for_list (xs:=avs) (fun i σ H'=>∃ o, σ = [some (.ref AL),some (.int m),o]∧Same H H') ⟨none,rfl,Same.refl _⟩ ?_ ?_ ?_
  · rintro i σ H' _ ⟨o,rfl,sm⟩
    exact SqL.of (sm _ _ hA)
  · rintro i y σ H' hy ⟨o,rfl,sm⟩
    obtain ⟨p,rfl,hp⟩:=ha y (List.mem_of_getElem? hy)
    have hp1:=sm _ _ hp
    dsimp only [gName]
    refine ⟨_,rfl,_,_,_,true,rfl,.tup hp1,kit_tt,_,rfl,iteF ?_⟩
    refine ⟨_,rfl,(show 2≤sizeLine by decide),fun t ht => ?_⟩
    have s2:=same_new ht (.tup [.str "refused",.str "full"])
    refine ⟨p,t,_,_,rfl,rfl,SqT.of (s2 _ _ hp1),SqT.of upd_same,rfl,rfl,_,rfl,?_⟩
    rw [show eqT [V.str "refused",V.str "full"] (List.map V.str ["refused", "full"])=true by decide +kernel]
    exact iteF ⟨_,rfl,sm.trans s2⟩
  · rintro σ H' ⟨o,rfl,sm⟩
    exact q H' sm
inductive SpLaw (K:PySem.W.Frag) (vs:List V) (H:Hp) (Q:VK):Prop
  | mk (a:Addr) (ns:List Int) (z0:vs = [.ref a]) (z1:SqL K H a (ns.map V.int)) (z2:ns.length≤63) (z3:(∀ c∈ns,Builtin.Int.intBits c≤1048576)) (z4:∀ H',Q (.bl true) H'):SpLaw K vs H Q
noncomputable def spLaw (K:PySem.W.Frag):Sp:=fun vs H Q _=>SpLaw K vs H Q
theorem ok_law (B:Blt mg) (h_at:Has P w K mg base 1 "_law_at" ["_law_script", "_law_k"] (spAt K)) (h_knots:Has P w K mg base 3 "_law_knots" ["_law_script", "_law_rows"] (spKnots K)) (h_run:HasDK P w K mg base 69 "run" ["text", "room"] [.int 120] ["room"] spGo) (h_right:Has P w K mg base 1 "_law_right" ["_law_found", "_law_many"] spRight) {f:Addr} {fd:FuncData} (F:Fun K "law" "law" s_law f fd) :
    FnOk P w K mg base CX0 70 f fd ["_law_script"] (spLaw K):=by
  refine F.ok sc_law (fun vs H Q E h => ?_) (fun cdv A outer s H vs Q E hr h => ?_)
  · obtain ⟨a,ns,rfl,_⟩:=h;rfl
  obtain ⟨a,ns,rfl,hS,h63,_,q⟩:=h
  refine ⟨_,(pss_cons (ps_set (i:=1) sc_law.nd rfl (Or.inr rfl) (pe_op op_mod (pe_callH h_at hr (by omega) rfl (pa_cons (pv 0) (pa_cons pe_int pa_nil))) (pe_op op_pow pe_int pe_int)))
    (pss_cons (ps_set (i:=2) sc_law.nd rfl (Or.inl rfl) (pe_op op_add pe_int (pe_op op_mod (pe_callH h_at hr (by omega) rfl (pa_cons (pv 0) (pa_cons pe_int pa_nil))) pe_int)))
    (pss_cons (ps_set (i:=3) sc_law.nd rfl (Or.inl rfl) (pe_lst (pa_cons (pe_op op_add_str pe_str (pe_callH h_knots hr (by omega) rfl (pa_cons (pv 0) (pa_cons (pe_comp (te:=_) (own := ["_law_k"]) (caps := [("_law_first",1)]) (comp_scope (defScope s_law) ["_law_script", "_law_first", "_law_many", "_law_rows", "_law_space"] rfl rfl rfl (by decide +kernel)) (pi_range1 rfl B.range_ (pa_cons pe_int pa_nil)) rfl (fun _ _ _=>pg_name (i:=0) (show (["_law_k", "_law_first"]:List Str).Nodup by decide +kernel) rfl (Or.inl rfl)) (fun _ _ _=>(pe_callTy call_str_int rfl B.str_ boot_str_ (pa_cons (pe_op op_add (pv 1) (pv 0)) pa_nil)))) pa_nil)))) pa_nil)))
    (pss_cons (ps_set (i:=3) sc_law.nd rfl (Or.inl rfl) (pe_op op_cat (pv 3) (pe_comp (te:=(tOp _ _ _)) (own := ["_law_k"]) (caps := [("_law_first",1)]) (comp_scope (defScope s_law) ["_law_script", "_law_first", "_law_many", "_law_rows", "_law_space"] rfl rfl rfl (by decide +kernel)) (pi_range1 rfl B.range_ (pa_cons (pv 2) pa_nil)) rfl (fun _ _ _=>pg_name (i:=0) (show (["_law_k", "_law_first"]:List Str).Nodup by decide +kernel) rfl (Or.inl rfl)) (fun _ _ _=>(pe_op op_add_str pe_str (pe_callTy call_str_int rfl B.str_ boot_str_ (pa_cons (pe_op op_sub (pe_op op_sub (pe_un un_neg pe_int) (pv 1)) (pv 0)) pa_nil)))))))
    (pss_cons (ps_set (i:=4) sc_law.nd rfl (Or.inl rfl) (pe_op op_add pe_int (pe_op op_mod (pe_callH h_at hr (by omega) rfl (pa_cons (pv 0) (pa_cons pe_int pa_nil))) pe_int)))
    (pss_cons (ps_if (pt_not (pt_val (pe_callH h_right hr (by omega) rfl (pa_cons (pe_dkD h_run hr (by omega) passNo rfl (pa_cons (pe_bm PySem.F.plainAttrs_str PySem.F.slot_str_join PySem.F.type_str_join mt_join pe_str (pa_cons (pv 3) pa_nil)) pa_nil)) (pa_cons (pe_op op_sub (pe_op op_add pe_int (pv 2)) pe_int) pa_nil))))) (pss_one (ps_ret pe_bl)) pss_nil)
    (pss_one (ps_ret (pe_callH h_right hr (by omega) rfl (pa_cons (pe_dkK h_run hr (by omega) passNo rfl (pa_cons (pe_bm PySem.F.plainAttrs_str PySem.F.slot_str_join PySem.F.type_str_join mt_join pe_str (pa_cons (pv 3) pa_nil)) pa_nil) (pk_cons (pv 4) pk_nil)) (pa_cons (pe_op op_sub (pe_op op_add pe_int (pv 2)) (pv 4)) pa_nil))))))))))),?_⟩
  try dsimp only [cxOf]
  have big:(10000000:Nat)≤sizeLine:=by decide
  refine ⟨_,rfl,a,ns,1,rfl,hS,by decide,_,_,rfl,rfl,⟨by decide,by decide,by decide⟩,_,_,rfl,rfl,(by decide),?_⟩
  dsimp only [gName]
  have e59:(10:Int) ^ (59:Int).toNat=10 ^ 59:=rfl
  rw [e59]
  have f0:0≤(if (1:Int) < ns.length then ns.getD (1:Int).toNat 0 else 0) % (10:Int) ^ 59:=Int.emod_nonneg _ (by decide)
  have f1:(if (1:Int) < ns.length then ns.getD (1:Int).toNat 0 else 0) % (10:Int) ^ 59 < 10 ^ 59:=Int.emod_lt_of_pos _ (by decide)
  generalize (if (1:Int) < ns.length then ns.getD (1:Int).toNat 0 else 0) % (10:Int) ^ 59=fi at f0 f1 ⊢
  refine ⟨_,rfl,a,ns,2,rfl,hS,by decide,_,_,rfl,rfl,pos',_,_,rfl,rfl,?_⟩
  dsimp only [gName]
  have m0:0≤(if (2:Int) < ns.length then ns.getD (2:Int).toNat 0 else 0) % 15:=Int.emod_nonneg _ (by decide)
  have m1:(if (2:Int) < ns.length then ns.getD (2:Int).toNat 0 else 0) % 15 < 15:=Int.emod_lt_of_pos _ (by decide)
  generalize (if (2:Int) < ns.length then ns.getD (2:Int).toNat 0 else 0) % 15=mm at m0 m1 ⊢
  obtain ⟨m,em,m49⟩:∃ m:Nat,34+mm=(m:Int)∧m < 49:=⟨(34+mm).toNat,by omega,by omega⟩
  rw [em]
  have hx:=wordX_ok (seed ns) 3
  obtain ⟨t,et,gt,p80,hv⟩:=lev_top hx f0 f1
  refine ⟨_,rfl,60,rfl,by decide,by decide,comp_range (lo:=0) (fun k => .str (Str.ofString (toString (fi+k)))) (by decide) (fun i hi H' sm Q' q' => ?_) fun D1 hD1 => ?_⟩
  · have i60:i < 60:=hi
    exact ⟨_,rfl,_,rfl,_,_,rfl,rfl,_,rfl,num_log (by omega) (by omega),q'⟩
  have s1:=same_new hD1 (.lst ((List.range (Int.toNat 60)).map fun i:Nat=>V.str (Str.ofString (toString (fi+(0+(i:Int)))))))
  have eL:((List.range (Int.toNat 60)).map fun i:Nat=>V.str (Str.ofString (toString (fi+(0+(i:Int))))))=shV (lev (wordX (seed ns) 3) fi 0):=by
    unfold shV
    rw [show Int.toNat 60=60 from rfl,lev,List.map_map,List.map_map]
    refine List.map_congr_left fun i _ => ?_
    show V.str (Str.ofString (toString (fi+(0+(i:Int)))))=V.str (T.num (fi+(i:Int))).shown
    rw [T.shown,Int.zero_add]
  have hD2:upd H D1 (.lst ((List.range (Int.toNat 60)).map fun i:Nat=>V.str (Str.ofString (toString (fi+(0+(i:Int))))))) D1=some (.lst (shV (lev (wordX (seed ns) 3) fi 0))):=by rw [upd_same,eL]
  have hS1:=s1.seq hS
  generalize upd H D1 (.lst ((List.range (Int.toNat 60)).map fun i:Nat=>V.str (Str.ofString (toString (fi+(0+(i:Int)))))))=H1 at s1 hD2 hS1 ⊢
  refine SpKnots.mk a D1 ns fi rfl hS1 f0 f1 hD2 fun t' H2 s2 et' => ?_
  rw [et] at et'
  cases et'
  have hS2:=s2.seq hS1
  have sl:=shown_len t gt.ok
  refine ⟨_,_,rfl,rfl,(by show 4+t.shown.length≤sizeLine;omega),(show 1≤sizeLine by decide),fun W hW => ?_⟩
  dsimp only [gName]
  have hS3:=(same_new hW (.lst [.str ("put " ++ t.shown)])).seq hS2
  have hW3:=upd_same (H:=H2) (a:=W) (o := .lst [.str ("put " ++ t.shown)])
  generalize upd H2 W (.lst [.str ("put " ++ t.shown)])=H3 at hS3 hW3 ⊢
  have hW3:H3 W=some (.lst [.str (rS t)]):=hW3
  refine ⟨_,rfl,_,rfl,_,rfl,by omega,by omega,comp_range (lo:=0) (fun k => .str ("put " ++ Str.ofString (toString (-1 - fi - k)))) (by omega) (fun i hi H' sm Q' q' => ?_) fun D4 hD4 => ?_⟩
  · have i49:i < 49:=by omega
    refine ⟨_,rfl,_,rfl,_,_,rfl,rfl,_,rfl,_,_,rfl,rfl,_,rfl,?_,_,_,rfl,rfl,?_,q'⟩
    · exact num_log (by omega) (by omega)
    · have:=num_len (n := -1 - fi - (0+(i:Int))) (by omega) (by omega)
      show 4+(Str.ofString (toString (-1 - fi - (0+(i:Int))))).length≤sizeLine
      omega
  have hWD:W≠D4:=fun e=>by rw [← e,hW3] at hD4;cases hD4
  refine ⟨W,D4,_,_,rfl,rfl,(by rw [upd_ne hWD];exact hW3),upd_same,?_,fun R hR => ?_⟩
  · rw [List.length_map,List.length_range,Int.toNat_natCast]
    show 1+m≤sizeLine
    omega
  dsimp only [gName]
  have eR : [V.str (rS t)] ++ ((List.range ((m:Int)).toNat).map fun i:Nat=>V.str ("put " ++ Str.ofString (toString (-1 - fi - (0+(i:Int))))))=((t :: negs fi m).map rS).map V.str:=by
    rw [Int.toNat_natCast,List.map_cons,List.map_cons]
    unfold negs
    rw [List.map_map,List.map_map]
    refine congrArg (List.cons _) (List.map_congr_left fun i _ => ?_)
    show V.str ("put " ++ Str.ofString (toString (-1 - fi - (0+(i:Int)))))=V.str (rS (T.num (-1 - fi - (i:Int))))
    unfold rS
    rw [T.shown,Int.zero_add]
  have g:∀ u∈t :: negs fi m,TrG u:=fun u hu=>by
    rcases List.mem_cons.mp hu with e | hu
    · rw [e];exact gt
    · exact negs_ok f0 f1 (by omega) u hu
  have ll:(t :: negs fi m).length=m+1:=by unfold negs;rw [List.length_cons,List.length_map,List.length_range]
  have cnt:∀ room:Int,80≤room→(((goO room (t :: negs fi m)).2:Nat):Int)=max 0 (80+(m:Int) - room):=fun room hr=>go_count hx f0 f1 gt.pu p80 hv hr m
  have hS5:=((same_new hD4 (.lst ((List.range ((m:Int)).toNat).map fun i:Nat=>V.str ("put " ++ Str.ofString (toString (-1 - fi - (0+(i:Int)))))))).trans (same_new hR (.lst ([V.str (rS t)] ++ ((List.range ((m:Int)).toNat).map fun i:Nat=>V.str ("put " ++ Str.ofString (toString (-1 - fi - (0+(i:Int)))))))))).seq hS3
  have hR5:(upd (upd H3 D4 (.lst ((List.range ((m:Int)).toNat).map fun i:Nat=>V.str ("put " ++ Str.ofString (toString (-1 - fi - (0+(i:Int)))))))) R (.lst ([V.str (rS t)] ++ ((List.range ((m:Int)).toNat).map fun i:Nat=>V.str ("put " ++ Str.ofString (toString (-1 - fi - (0+(i:Int))))))))) R=some (.lst (((t :: negs fi m).map rS).map V.str)):=by rw [upd_same,eR]
  generalize upd (upd H3 D4 (.lst ((List.range ((m:Int)).toNat).map fun i:Nat=>V.str ("put " ++ Str.ofString (toString (-1 - fi - (0+(i:Int)))))))) R (.lst ([V.str (rS t)] ++ ((List.range ((m:Int)).toNat).map fun i:Nat=>V.str ("put " ++ Str.ofString (toString (-1 - fi - (0+(i:Int))))))))=H5 at hS5 hR5 ⊢
  generalize ht:t :: negs fi m=us at g ll cnt hR5
  clear hD4 eR hR hWD hW3 hW hS3 hS2 hS1
  refine ⟨_,rfl,a,ns,3,rfl,hS5,by decide,_,_,rfl,rfl,pos',_,_,rfl,rfl,?_⟩
  dsimp only [gName]
  have r0:0≤(if (3:Int) < ns.length then ns.getD (3:Int).toNat 0 else 0) % 60:=Int.emod_nonneg _ (by decide)
  have r1:(if (3:Int) < ns.length then ns.getD (3:Int).toNat 0 else 0) % 60 < 60:=Int.emod_lt_of_pos _ (by decide)
  generalize (if (3:Int) < ns.length then ns.getD (3:Int).toNat 0 else 0) % 60=rr at r0 r1 ⊢
  have hzl:∀ s∈us.map rS,s.length≤6000:=fun s hs=>by
    obtain ⟨u,hu,rfl⟩:=List.mem_map.mp hs
    exact rS_len (g u hu)
  have hll:=lens_le hzl
  rw [List.length_map] at hll
  have jl:=StrLaws.join_length_le "\n" (us.map rS)
  rw [List.length_map,show ("\n" : Str).length=1 from rfl] at jl
  have jb:((us.map rS).map (·.length)).sum+(us.map rS).length * ("\n" : Str).length≤16777216:=by rw [List.length_map,show ("\n" : Str).length=1 from rfl];omega
  refine ⟨rfl,_,rfl, "\n",R,us.map rS,rfl,rfl,SqL.of hR5,jb,?_⟩
  rw [join_nl]
  refine SpGo.mk us 120 rfl (by omega) (by omega) (by omega) g (by decide) (by decide) fun A1 avs H6 s6 hA1 la ha => ?_
  refine ⟨_,rfl,_,_,rfl,rfl,_,_,rfl,rfl,SpRight.mk A1 avs _ rfl hA1 (by rw [la];exact cnt 120 (by decide)) ha fun H7 s7 => ?_⟩
  refine ⟨_,rfl,iteF ?_⟩
  refine ⟨rfl,_,rfl, "\n",R,us.map rS,rfl,rfl,SqL.of (s7 _ _ (s6 _ _ hR5)),jb,?_⟩
  rw [join_nl]
  refine ⟨_,rfl,SpGo.mk us (81+rr) rfl (by omega) (by omega) (by omega) g (by omega) (by omega) fun A2 avs2 H8 s8 hA2 la2 ha2 => ?_⟩
  exact ⟨_,rfl,_,_,rfl,rfl,_,rfl,_,_,rfl,rfl,SpRight.mk A2 avs2 _ rfl hA2 (by rw [la2];exact cnt (81+rr) (by omega)) ha2 fun H9 _=>q H9⟩
end

end K80
namespace K80
open PySem L2
theorem len_s {n:Nat} {us:List Value} (h:us.length=n+1):∃ v vs,us=v :: vs∧vs.length=n:=by cases us with | nil=>cases h | cons v vs=>exact ⟨v,vs,rfl,Nat.succ.inj h⟩
theorem len1_ {fd:FuncData} {ps:List Str} (h:∀ v0:Value,bindArgs fd ⟨[v0], []⟩=pure (ps.zip [v0])):∀ us:List Value,us.length=1→bindArgs fd ⟨us, []⟩=pure (ps.zip us):=fun us h0=>by obtain ⟨v0,us,rfl,h1⟩:=len_s h0;obtain rfl:=List.eq_nil_of_length_eq_zero h1;exact h v0
open PySem L2 Sw
theorem len2_ {fd:FuncData} {ps:List Str} (h:∀ v0 v1:Value,bindArgs fd ⟨[v0,v1], []⟩=pure (ps.zip [v0,v1])):∀ us:List Value,us.length=2→bindArgs fd ⟨us, []⟩=pure (ps.zip us):=fun us h0=>by obtain ⟨v0,us,rfl,h1⟩:=len_s h0;obtain ⟨v1,us,rfl,h2⟩:=len_s h1;obtain rfl:=List.eq_nil_of_length_eq_zero h2;exact h v0 v1
open PySem L2 Sw
theorem len3_ {fd:FuncData} {ps:List Str} (h:∀ v0 v1 v2:Value,bindArgs fd ⟨[v0,v1,v2], []⟩=pure (ps.zip [v0,v1,v2])):∀ us:List Value,us.length=3→bindArgs fd ⟨us, []⟩=pure (ps.zip us):=fun us h0=>by obtain ⟨v0,us,rfl,h1⟩:=len_s h0;obtain ⟨v1,us,rfl,h2⟩:=len_s h1;obtain ⟨v2,us,rfl,h3⟩:=len_s h2;obtain rfl:=List.eq_nil_of_length_eq_zero h3;exact h v0 v1 v2
open PySem L2 Sw
theorem dm {K:PySem.W.Frag} {x:Str} {st:Stmt} {ps:List Str} {f:Addr} {oc kV dc pm cd ct:Value} {od an:Option Addr} {sl:Array (Option Value)} {h:Heap} {mg:Str→Option Value} (X:K.In h) (G:h.Ns mainGlobals mg) (a:PySem.W.nsIn K mainGlobals x=some (some (.ref f))) (l:K.lookup f=some ⟨oc,od,.func (PySem.W.fnOf x x (defArgs st) (defBody st) (defScope st) .none kV dc pm an cd ct),sl⟩) (c:PySem.W.codeIn K cd x=true) (k:PySem.W.keepIn K (.ref f)=true) (b:∀ (kV dc pm:Value) (an:Option Addr) (cd ct:Value) (us:List Value),us.length=ps.length→bindArgs (PySem.W.fnOf x x (defArgs st) (defBody st) (defScope st) .none kV dc pm an cd ct) ⟨us, []⟩=pure (ps.zip us)):Def K mg x st ps:=⟨_,_,fun_mk l c k,PySem.W.mg_of X G a,(fun_mk l c k).binds b⟩
theorem dmm {K:PySem.W.Frag} {x:Str} {st:Stmt} {ps:List Str} {f:Addr} {oc kV dc pm cd ct:Value} {od an:Option Addr} {sl:Array (Option Value)} {m:Str} {C:Addr} (a:PySem.W.findIn K (.ref C) m=some (some (.ref f))) (l:K.lookup f=some ⟨oc,od,.func (PySem.W.fnOf m x (defArgs st) (defBody st) (defScope st) .none kV dc pm an cd ct),sl⟩) (c:PySem.W.codeIn K cd x=true) (k:PySem.W.keepIn K (.ref f)=true) (n:PySem.W.isFn K (.ref f)=true) (b:∀ (kV dc pm:Value) (an:Option Addr) (cd ct:Value) (us:List Value),us.length=ps.length→bindArgs (PySem.W.fnOf m x (defArgs st) (defBody st) (defScope st) .none kV dc pm an cd ct) ⟨us, []⟩=pure (ps.zip us)):DefM K C m x st ps:=⟨_,_,fun_mk l c k,⟨a,n,k⟩,(fun_mk l c k).binds b⟩
theorem all_mk {l:PySem.W.OpenLaw} {w:World} {K:PySem.W.Frag} {h:Heap} {mg:Str→Option Value} {fa CR CB CH CN f1 f11 f12 f16 f21 f24 f29 c_NoTree c_Full t_PAIR_WORDS t_TREE_WORDS:Addr} (X:K.In h) (G:h.Ns mainGlobals mg) (hfa:mg "law" = some (.ref fa))
    {od1 an1 od11 an11 od12 an12 od16 an16 od21 an21 od24 an24 od29 an29:Option Addr} {sl1 sl11 sl12 sl16 sl21 sl24 sl29:Array (Option Value)} {oc1 kV1 dc1 pm1 cd1 ct1 oc11 kV11 dc11 pm11 cd11 ct11 oc12 kV12 dc12 pm12 cd12 ct12 oc16 kV16 dc16 pm16 cd16 ct16 oc21 kV21 dc21 pm21 cd21 ct21 oc24 kV24 dc24 pm24 cd24 ct24 oc29 kV29 dc29 pm29 cd29 ct29:Value}
    {td12 td24:Addr} {tc12 tc24:Value} {tt12 tt24:Option Addr} {tn12 tn24:Nat} {ts12 ts24:Array (Option Value)} {ud24:Tok}
    {u_MOST_LETTERS u_MOST_FIGURES u_MOST_ARMS u_MOST_PARTS u_MOST_DEEP u_LETTERS u_FIGURES u_PAIR_WORDS_0 u_PAIR_WORDS_1 u_PAIR_WORDS_2 u_TREE_WORDS_0 u_TREE_WORDS_1 u_TREE_WORDS_2 u_TREE_WORDS_3 u_TREE_WORDS_4 u_TREE_WORDS_5:Tok}
    {td_PAIR_WORDS td_TREE_WORDS:Option Addr} {tn_PAIR_WORDS tn_TREE_WORDS:Nat} {ts_PAIR_WORDS ts_TREE_WORDS:Array (Option Value)}
    (aC_Reader:PySem.W.nsIn K mainGlobals "Reader" = some (some (.ref CR)))
    (aC_Bank:PySem.W.nsIn K mainGlobals "Bank" = some (some (.ref CB)))
    (aC_Bench:PySem.W.nsIn K mainGlobals "Bench" = some (some (.ref CH)))
    (aC_Runner:PySem.W.nsIn K mainGlobals "Runner" = some (some (.ref CN)))
    (D_parts:Def K mg "parts" s_parts ["tree"])
    (ai_Reader:PySem.W.findIn K (.ref CR) "__init__" = some (some (.ref f1)))
    (l1:K.lookup f1=some ⟨oc1,od1,.func (PySem.W.fnOf "__init__" "Reader.__init__" (defArgs s_init) (defBody s_init) (defScope s_init) .none kV1 dc1 pm1 an1 cd1 ct1),sl1⟩)
    (c1:PySem.W.codeIn K cd1 "Reader.__init__" = true)
    (k1:PySem.W.keepIn K (.ref f1)=true)
    (n1:PySem.W.isFn K (.ref f1)=true)
    (D_ahead:DefM K CR "ahead" "Reader.ahead" s_ahead ["self"])
    (D_take:DefM K CR "take" "Reader.take" s_take ["self", "wanted"])
    (D_take_run:DefM K CR "take_run" "Reader.take_run" s_take_run ["self", "signs"])
    (D_take_word:DefM K CR "take_word" "Reader.take_word" s_take_word ["self"])
    (D_take_number:DefM K CR "take_number" "Reader.take_number" s_take_number ["self"])
    (D_take_arms:DefM K CR "take_arms" "Reader.take_arms" s_take_arms ["self", "deep"])
    (D_take_tree:DefM K CR "take_tree" "Reader.take_tree" s_take_tree ["self", "deep"])
    (D_read_whole:Def K mg "read_whole" s_read_whole ["reader"])
    (D_read:Def K mg "read" s_read ["text"])
    (ai_Bank:PySem.W.findIn K (.ref CB) "__init__" = some (some (.ref f11)))
    (l11:K.lookup f11=some ⟨oc11,od11,.func (PySem.W.fnOf "__init__" "Bank.__init__" (defArgs s_kinit) (defBody s_kinit) (defScope s_kinit) .none kV11 dc11 pm11 an11 cd11 ct11),sl11⟩)
    (c11:PySem.W.codeIn K cd11 "Bank.__init__" = true)
    (k11:PySem.W.keepIn K (.ref f11)=true)
    (n11:PySem.W.isFn K (.ref f11)=true)
    (a12:PySem.W.findIn K (.ref CB) "put" = some (some (.ref f12)))
    (l12:K.lookup f12=some ⟨oc12,od12,.func (PySem.W.fnOf "put" "Bank.put" (defArgs s_put) (defBody s_put) (defScope s_put) (.ref td12) kV12 dc12 pm12 an12 cd12 ct12),sl12⟩)
    (t12:K.lookup td12=some ⟨tc12,tt12,.seq #[.none] tn12,ts12⟩)
    (c12:PySem.W.codeIn K cd12 "Bank.put" = true)
    (k12:PySem.W.keepIn K (.ref f12)=true)
    (n12:PySem.W.isFn K (.ref f12)=true)
    (D_put_part:DefM K CB "put_part" "Bank.put_part" s_put_part ["self", "pattern", "binds"])
    (D_put_term:DefM K CB "put_term" "Bank.put_term" s_put_term ["self", "term"])
    (D_cut:DefM K CB "cut" "Bank.cut" s_cut ["self", "many"])
    (ai_Bench:PySem.W.findIn K (.ref CH) "__init__" = some (some (.ref f16)))
    (l16:K.lookup f16=some ⟨oc16,od16,.func (PySem.W.fnOf "__init__" "Bench.__init__" (defArgs s_binit) (defBody s_binit) (defScope s_binit) .none kV16 dc16 pm16 an16 cd16 ct16),sl16⟩)
    (c16:PySem.W.codeIn K cd16 "Bench.__init__" = true)
    (k16:PySem.W.keepIn K (.ref f16)=true)
    (n16:PySem.W.isFn K (.ref f16)=true)
    (D_bput:DefM K CH "put" "Bench.put" s_bput ["self", "tree"])
    (D_read_order:Def K mg "read_order" s_read_order ["word", "rest"])
    (D_read_row:Def K mg "read_row" s_read_row ["row", "line"])
    (D_read_sheet:Def K mg "read_sheet" s_read_sheet ["text"])
    (ai_Runner:PySem.W.findIn K (.ref CN) "__init__" = some (some (.ref f21)))
    (l21:K.lookup f21=some ⟨oc21,od21,.func (PySem.W.fnOf "__init__" "Runner.__init__" (defArgs s_ninit) (defBody s_ninit) (defScope s_ninit) .none kV21 dc21 pm21 an21 cd21 ct21),sl21⟩)
    (c21:PySem.W.codeIn K cd21 "Runner.__init__" = true)
    (k21:PySem.W.keepIn K (.ref f21)=true)
    (n21:PySem.W.isFn K (.ref f21)=true)
    (D_do_with_trees:DefM K CN "do_with_trees" "Runner.do_with_trees" s_do_with_trees ["self", "order"])
    (D_do_order:DefM K CN "do_order" "Runner.do_order" s_do_order ["self", "order"])
    (a24:PySem.W.nsIn K mainGlobals "run" = some (some (.ref f24)))
    (l24:K.lookup f24=some ⟨oc24,od24,.func (PySem.W.fnOf "run" "run" (defArgs s_run) (defBody s_run) (defScope s_run) (.ref td24) kV24 dc24 pm24 an24 cd24 ct24),sl24⟩)
    (t24:K.lookup td24=some ⟨tc24,tt24,.seq #[.int 120 ud24] tn24,ts24⟩)
    (c24:PySem.W.codeIn K cd24 "run" = true)
    (k24:PySem.W.keepIn K (.ref f24)=true)
    (D_at:Def K mg "_law_at" s_at ["_law_script", "_law_k"])
    (D_word:Def K mg "_law_word" s_word ["_law_script", "_law_which"])
    (D_knots:Def K mg "_law_knots" s_knots ["_law_script", "_law_rows"])
    (D_right:Def K mg "_law_right" s_right ["_law_found", "_law_many"])
    (a29:PySem.W.nsIn K mainGlobals "law" = some (some (.ref f29)))
    (l29:K.lookup f29=some ⟨oc29,od29,.func (PySem.W.fnOf "law" "law" (defArgs s_law) (defBody s_law) (defScope s_law) .none kV29 dc29 pm29 an29 cd29 ct29),sl29⟩)
    (c29:PySem.W.codeIn K cd29 "law" = true)
    (k29:PySem.W.keepIn K (.ref f29)=true)
    (rMk_Reader:PySem.W.makesIn K CR=true)
    (rKp_Reader:PySem.W.keepIn K (.ref CR)=true)
    (rPg_Reader:PySem.W.plainGet K CR Str.empty=true)
    (rHd_Reader:PySem.W.hasDictIn K CR=true)
    (rPo_Reader:PySem.W.plainOver K CR=true)
    (rSa_Reader:PySem.W.findIn K (.ref CR) "__setattr__" = some (some (.builtin "object.__setattr__")))
    (nA_Reader_text:PySem.W.findIn K (.ref CR) "text" = some none)
    (nA_Reader_with_holes:PySem.W.findIn K (.ref CR) "with_holes" = some none)
    (nA_Reader_place:PySem.W.findIn K (.ref CR) "place" = some none)
    (rMk_Bank:PySem.W.makesIn K CB=true)
    (rKp_Bank:PySem.W.keepIn K (.ref CB)=true)
    (rPg_Bank:PySem.W.plainGet K CB Str.empty=true)
    (rHd_Bank:PySem.W.hasDictIn K CB=true)
    (rPo_Bank:PySem.W.plainOver K CB=true)
    (rSa_Bank:PySem.W.findIn K (.ref CB) "__setattr__" = some (some (.builtin "object.__setattr__")))
    (nA_Bank_room:PySem.W.findIn K (.ref CB) "room" = some none)
    (nA_Bank_terms:PySem.W.findIn K (.ref CB) "terms" = some none)
    (nA_Bank_places:PySem.W.findIn K (.ref CB) "places" = some none)
    (rMk_Bench:PySem.W.makesIn K CH=true)
    (rKp_Bench:PySem.W.keepIn K (.ref CH)=true)
    (rPg_Bench:PySem.W.plainGet K CH Str.empty=true)
    (rHd_Bench:PySem.W.hasDictIn K CH=true)
    (rPo_Bench:PySem.W.plainOver K CH=true)
    (rSa_Bench:PySem.W.findIn K (.ref CH) "__setattr__" = some (some (.builtin "object.__setattr__")))
    (nA_Bench_bank:PySem.W.findIn K (.ref CH) "bank" = some none)
    (nA_Bench_edges:PySem.W.findIn K (.ref CH) "edges" = some none)
    (rMk_Runner:PySem.W.makesIn K CN=true)
    (rKp_Runner:PySem.W.keepIn K (.ref CN)=true)
    (rPg_Runner:PySem.W.plainGet K CN Str.empty=true)
    (rHd_Runner:PySem.W.hasDictIn K CN=true)
    (rPo_Runner:PySem.W.plainOver K CN=true)
    (rSa_Runner:PySem.W.findIn K (.ref CN) "__setattr__" = some (some (.builtin "object.__setattr__")))
    (nA_Runner_bench:PySem.W.findIn K (.ref CN) "bench" = some none)
    (nA_Runner_rules:PySem.W.findIn K (.ref CN) "rules" = some none)
    (nA_Runner_costs:PySem.W.findIn K (.ref CN) "costs" = some none)
    (gs_LETTERS:PySem.W.nsIn K mainGlobals "LETTERS" = some (some (.str "abcdefghijklmnopqrstuvwxyz" u_LETTERS)))
    (gs_FIGURES:PySem.W.nsIn K mainGlobals "FIGURES" = some (some (.str "0123456789" u_FIGURES)))
    (gi_MOST_LETTERS:PySem.W.nsIn K mainGlobals "MOST_LETTERS" = some (some (.int 8 u_MOST_LETTERS)))
    (gi_MOST_FIGURES:PySem.W.nsIn K mainGlobals "MOST_FIGURES" = some (some (.int 60 u_MOST_FIGURES)))
    (gi_MOST_ARMS:PySem.W.nsIn K mainGlobals "MOST_ARMS" = some (some (.int 4 u_MOST_ARMS)))
    (gi_MOST_PARTS:PySem.W.nsIn K mainGlobals "MOST_PARTS" = some (some (.int 120 u_MOST_PARTS)))
    (gi_MOST_DEEP:PySem.W.nsIn K mainGlobals "MOST_DEEP" = some (some (.int 30 u_MOST_DEEP)))
    (gt_PAIR_WORDS:PySem.W.nsIn K mainGlobals "PAIR_WORDS" = some (some (.ref t_PAIR_WORDS)))
    (lt_PAIR_WORDS:K.lookup t_PAIR_WORDS=some ⟨.type "tuple",td_PAIR_WORDS,.seq #[.str "tell" u_PAIR_WORDS_0,.str "same" u_PAIR_WORDS_1,.str "why" u_PAIR_WORDS_2] tn_PAIR_WORDS,ts_PAIR_WORDS⟩)
    (gt_TREE_WORDS:PySem.W.nsIn K mainGlobals "TREE_WORDS" = some (some (.ref t_TREE_WORDS)))
    (lt_TREE_WORDS:K.lookup t_TREE_WORDS=some ⟨.type "tuple",td_TREE_WORDS,.seq #[.str "put" u_TREE_WORDS_0,.str "cheap" u_TREE_WORDS_1,.str "shared" u_TREE_WORDS_2,.str "sign" u_TREE_WORDS_3,.str "names" u_TREE_WORDS_4,.str "number" u_TREE_WORDS_5] tn_TREE_WORDS,ts_TREE_WORDS⟩)
    (x_NoTree:PySem.W.nsIn K mainGlobals "NoTree" = some (some (.ref c_NoTree)))
    (xEx_NoTree:PySem.W.excIn K c_NoTree [.type "ValueError",.type "Exception",.type "BaseException",.type "object"] "ValueError.__new__" = true)
    (x_Full:PySem.W.nsIn K mainGlobals "Full" = some (some (.ref c_Full)))
    (xEx_Full:PySem.W.excIn K c_Full [.type "ValueError",.type "Exception",.type "BaseException",.type "object"] "ValueError.__new__" = true)
    (m_Full:PySem.W.exmOne K (.ref c_Full) (.ref c_Full)=some true)
    (z0:PySem.W.nsIn K mainGlobals "len" = some none)
    (z1:PySem.W.nsIn K mainGlobals "min" = some none)
    (z2:PySem.W.nsIn K mainGlobals "max" = some none)
    (z3:PySem.W.nsIn K mainGlobals "sum" = some none)
    (z4:PySem.W.nsIn K mainGlobals "range" = some none)
    (z5:PySem.W.nsIn K mainGlobals "enumerate" = some none)
    (z6:PySem.W.nsIn K mainGlobals "isinstance" = some none)
    (z7:PySem.W.nsIn K mainGlobals "tuple" = some none)
    (z8:PySem.W.nsIn K mainGlobals "int" = some none)
    (z9:PySem.W.nsIn K mainGlobals "bool" = some none)
    (z10:PySem.W.nsIn K mainGlobals "str" = some none)
    (z11:PySem.W.nsIn K mainGlobals "list" = some none) :
    ∃ fd:FuncData,(∀ (s:Shared) (v:Value),BindsTo s fd ⟨[v], []⟩ [("_law_script",v)])∧∀ base:Heap,K.In base→base.Ns mainGlobals mg→FnOk l.prog w K mg base CX0 70 fa fd ["_law_script"] (spLaw K):=by
  have e:=hfa.symm.trans (PySem.W.mg_of X G a29)
  cases e
  have B:Blt mg:=⟨PySem.W.mg_none_of X G z0,PySem.W.mg_none_of X G z1,PySem.W.mg_none_of X G z2,PySem.W.mg_none_of X G z3,PySem.W.mg_none_of X G z4,PySem.W.mg_none_of X G z5,PySem.W.mg_none_of X G z6,PySem.W.mg_none_of X G z7,PySem.W.mg_none_of X G z8,PySem.W.mg_none_of X G z9,PySem.W.mg_none_of X G z10,PySem.W.mg_none_of X G z11⟩
  have cls_Reader:Cls K CR:=⟨rPg_Reader,rHd_Reader,rPo_Reader,rSa_Reader⟩
  have cls_Bank:Cls K CB:=⟨rPg_Bank,rHd_Bank,rPo_Bank,rSa_Bank⟩
  have cls_Bench:Cls K CH:=⟨rPg_Bench,rHd_Bench,rPo_Bench,rSa_Bench⟩
  have cls_Runner:Cls K CN:=⟨rPg_Runner,rHd_Runner,rPo_Runner,rSa_Runner⟩
  have g_LETTERS:∃ t,mg "LETTERS" = some (.str "abcdefghijklmnopqrstuvwxyz" t):=⟨_,PySem.W.mg_of X G gs_LETTERS⟩
  have g_FIGURES:∃ t,mg "FIGURES" = some (.str "0123456789" t):=⟨_,PySem.W.mg_of X G gs_FIGURES⟩
  have g_MOST_LETTERS:∃ t,mg "MOST_LETTERS" = some (.int 8 t):=⟨_,PySem.W.mg_of X G gi_MOST_LETTERS⟩
  have g_MOST_FIGURES:∃ t,mg "MOST_FIGURES" = some (.int 60 t):=⟨_,PySem.W.mg_of X G gi_MOST_FIGURES⟩
  have g_MOST_ARMS:∃ t,mg "MOST_ARMS" = some (.int 4 t):=⟨_,PySem.W.mg_of X G gi_MOST_ARMS⟩
  have g_MOST_PARTS:∃ t,mg "MOST_PARTS" = some (.int 120 t):=⟨_,PySem.W.mg_of X G gi_MOST_PARTS⟩
  have g_MOST_DEEP:∃ t,mg "MOST_DEEP" = some (.int 30 t):=⟨_,PySem.W.mg_of X G gi_MOST_DEEP⟩
  have g_PAIR_WORDS:=PySem.W.mg_of X G gt_PAIR_WORDS
  have q_PAIR_WORDS:∀ H:Hp,SqT K H t_PAIR_WORDS [.str "tell",.str "same",.str "why"]:=fun H => .inr ⟨_,_,_,lt_PAIR_WORDS,rfl,rfl,(show 3≤sizeLine by decide),.cons ⟨_,rfl⟩ (.cons ⟨_,rfl⟩ (.cons ⟨_,rfl⟩ (.nil)))⟩
  have g_TREE_WORDS:=PySem.W.mg_of X G gt_TREE_WORDS
  have q_TREE_WORDS:∀ H:Hp,SqT K H t_TREE_WORDS [.str "put",.str "cheap",.str "shared",.str "sign",.str "names",.str "number"]:=fun H => .inr ⟨_,_,_,lt_TREE_WORDS,rfl,rfl,(show 6≤sizeLine by decide),.cons ⟨_,rfl⟩ (.cons ⟨_,rfl⟩ (.cons ⟨_,rfl⟩ (.cons ⟨_,rfl⟩ (.cons ⟨_,rfl⟩ (.cons ⟨_,rfl⟩ (.nil))))))⟩
  have oNoTree:Exc K mg "NoTree" c_NoTree:=⟨PySem.W.mg_of X G x_NoTree,xEx_NoTree⟩
  have oFull:Exc K mg "Full" c_Full:=⟨PySem.W.mg_of X G x_Full,xEx_Full⟩
  have F_init:=fun_mk (st:=s_init) l1 c1 k1
  have D_init_Reader:DefC K mg "Reader" CR "Reader.__init__" s_init ["self", "text", "with_holes"]:=⟨_,_,F_init,PySem.W.mg_of X G aC_Reader,⟨rMk_Reader,ai_Reader,n1,rKp_Reader⟩,F_init.binds fun _ _ _ _ _ _ us hl=>len3_ (fun _ _ _=>rfl) us hl⟩
  have F_kinit:=fun_mk (st:=s_kinit) l11 c11 k11
  have D_init_Bank:DefC K mg "Bank" CB "Bank.__init__" s_kinit ["self", "room"]:=⟨_,_,F_kinit,PySem.W.mg_of X G aC_Bank,⟨rMk_Bank,ai_Bank,n11,rKp_Bank⟩,F_kinit.binds fun _ _ _ _ _ _ us hl=>len2_ (fun _ _=>rfl) us hl⟩
  have D_put:DefMd K CB "put" "Bank.put" s_put ["self", "pattern", "binds"] [.non]:=by
    refine ⟨f12,_, [.none],⟨⟨_,_,_,_,_,_,_,_,_,_,rfl,l12,c12⟩⟩,⟨a12,n12,k12⟩,?_,.cons rfl (.nil)⟩
    · intro s us KX hl
      have hl2:us.length=2:=by simpa using hl
      match us,hl2 with
      | [u0,u1],_=>exact PySem.W.binds_K KX rfl t12 rfl rfl rfl
  have F_binit:=fun_mk (st:=s_binit) l16 c16 k16
  have D_init_Bench:DefC K mg "Bench" CH "Bench.__init__" s_binit ["self", "room"]:=⟨_,_,F_binit,PySem.W.mg_of X G aC_Bench,⟨rMk_Bench,ai_Bench,n16,rKp_Bench⟩,F_binit.binds fun _ _ _ _ _ _ us hl=>len2_ (fun _ _=>rfl) us hl⟩
  have F_ninit:=fun_mk (st:=s_ninit) l21 c21 k21
  have D_init_Runner:DefC K mg "Runner" CN "Runner.__init__" s_ninit ["self", "room"]:=⟨_,_,F_ninit,PySem.W.mg_of X G aC_Runner,⟨rMk_Runner,ai_Runner,n21,rKp_Runner⟩,F_ninit.binds fun _ _ _ _ _ _ us hl=>len2_ (fun _ _=>rfl) us hl⟩
  have D_run:DefDK K mg "run" s_run ["text", "room"] [.int 120] ["room"]:=by
    refine ⟨f24,_, [.int 120 ud24],⟨⟨_,_,_,_,_,_,_,_,_,_,rfl,l24,c24⟩⟩,PySem.W.mg_of X G a24,k24,?_,.cons ⟨_,rfl⟩ (.nil),?_⟩
    · intro s us KX hl
      have hl2:us.length=1:=by simpa using hl
      match us,hl2 with
      | [u0],_=>exact PySem.W.binds_K KX rfl t24 rfl rfl rfl
    · refine ⟨fun s us ws KX hz => ?_,g11_rel⟩
      obtain ⟨a,c,rfl,rfl⟩:=g11_len hz
      exact PySem.W.binds_K KX rfl t24 rfl rfl rfl
  have F_law:=fun_mk (st:=s_law) l29 c29 k29
  refine ⟨PySem.W.fnOf "law" "law" (defArgs s_law) (defBody s_law) (defScope s_law) .none kV29 dc29 pm29 an29 cd29 ct29,fun s v => .of_eq rfl,fun base _ _ => ?_⟩
  have Z4:Top4 K mg CR c_NoTree:=⟨cls_Reader,nA_Reader_text,nA_Reader_with_holes,nA_Reader_place,g_LETTERS,g_FIGURES,g_MOST_LETTERS,g_MOST_FIGURES,g_MOST_ARMS,g_MOST_PARTS,g_MOST_DEEP,oNoTree⟩
  have Zb:TopBk K mg CB c_Full:=⟨cls_Bank,nA_Bank_room,nA_Bank_terms,nA_Bank_places,oFull⟩
  have Yh:TopBh K CH:=⟨cls_Bench,nA_Bench_bank,nA_Bench_edges⟩
  have Yn:TopN K CN:=⟨cls_Runner,nA_Runner_bench,nA_Runner_rules,nA_Runner_costs⟩
  have h_parts30:=ok_parts (P:=l.prog) (w:=w) (mg:=mg) (base:=base) D_parts 30
  have h_init_Reader:=ok_init (P:=l.prog) (w:=w) (base:=base) Z4 D_init_Reader
  have h_ahead:=ok_ahead (P:=l.prog) (w:=w) (base:=base) Z4 D_ahead
  have h_take:=ok_take (P:=l.prog) (w:=w) (base:=base) B Z4 D_take
  have h_trun:=ok_run (P:=l.prog) (w:=w) (base:=base) B Z4 D_take_run
  have h_tword:=ok_tword B Z4 h_trun D_take_word
  have h_tnum:=ok_number4 B Z4 h_ahead h_trun D_take_number
  have h_tree:=ok_tree B Z4 h_ahead h_take h_tword h_tnum D_take_arms D_take_tree 30
  have h_whole:=ok_whole Z4 (fun b l t r h=>(pt_sound b 30 l t r h).1.2.1) h_ahead h_tree h_parts30 D_read_whole
  have h_read:=ok_read Z4 h_init_Reader h_whole D_read
  have h_kinit:=ok_kinit (P:=l.prog) (w:=w) (base:=base) Zb D_init_Bank
  have h_put_term:=ok_put_term (P:=l.prog) (w:=w) (base:=base) B Zb D_put_term
  have h_put_part:=ok_put_part B Zb h_put_term D_put_part 4
  have h_cutN:=ok_cutN (P:=l.prog) (w:=w) (base:=base) B Zb D_cut
  have h_put:=ok_putE B Zb m_Full h_put_part h_cutN D_put
  have h_binit:=ok_binit Yh h_kinit D_init_Bench
  have h_bput:=ok_bput Zb Yh h_put D_bput
  have h_read_order:=ok_read_order B g_PAIR_WORDS g_TREE_WORDS q_PAIR_WORDS q_TREE_WORDS h_read D_read_order
  have h_read_row:=ok_read_row B h_read_order D_read_row
  have h_read_sheet:=ok_read_sheet B h_read_row D_read_sheet
  have h_ninit:=ok_ninit Yn h_binit D_init_Runner
  have h_do_with_trees:=ok_do_with_trees Yn Yh h_bput D_do_with_trees
  have h_do_order:=ok_do_order Yn oFull m_Full h_do_with_trees D_do_order
  have h_run:=ok_run80 B Yn h_read_sheet h_ninit h_do_order D_run
  have h_at:=ok_at (P:=l.prog) (w:=w) (base:=base) B D_at
  have h_word:=ok_word h_at D_word
  have h_knots:=ok_knots B h_word D_knots
  have h_right:=ok_right (P:=l.prog) (w:=w) (base:=base) B D_right
  exact ok_law B h_at h_knots h_run h_right F_law
theorem walk {l:PySem.W.OpenLaw} {q:Program} {loose:List Str} {XP:(Str→Option Value)→Heap→Prop} {YP:World→Heap→Prop} {d:DefRec} {K:Params→PySem.W.Frag} (hn:l.most=some 63) (hdf:d.params.defaults = [])
    (hY:∀ (w:World) (h:Heap),YP w h→(K w.params).In h)
    (F:∀ (w:World) (mg:Str→Option Value) (fa:Addr) (h:Heap),(K w.params).In h→h.Ns mainGlobals mg→mg d.name=some (.ref fa) →
      ∃ fd:FuncData,(∀ (s:Shared) (u:Value),BindsTo s fd ⟨[u], []⟩ [("_law_script",u)])∧∀ base:Heap,(K w.params).In base→base.Ns mainGlobals mg→FnOk l.prog w (K w.params) mg base CX0 70 fa fd ["_law_script"] (spLaw (K w.params))) :
    PySem.W.WalkO q loose XP YP l.row.toRowW d [] (fun f vs=>PySem.call f vs) :=
  L2.walk_ofB (n:=63) (k:=70) (x := "_law_script") (CX:=fun _=>CX0) (sp:=fun w=>spLaw (K w.params)) hn (by decide) hdf ⟨rfl,by decide,by decide⟩ hY F (fun _ _ a ns hl hb hS=>⟨a,ns,rfl,hS,hl,hb,fun _=>rfl⟩) fun _ _ _ _ _ z=>z
end K80
open PySem PySem.W PyProof.Rows
set_option maxRecDepth 100000 in
set_option maxHeartbeats 0 in
theorem PySem.Challenge.cw_samewise_k80_room_left_out_holds : PySem.Challenge.rw_samewise_k80_room_left_out.Holds := by
  refine KHd.top ?_
  k_fill
  refine K80.walk (l:=PySem.Challenge.rw_samewise_k80_room_left_out) rfl rfl (fun w h Y=>PySem.W.km_in_of Y) ?F
  case F =>
    intro w mg fa h KX G hmg
    refine' K80.all_mk KX G hmg ?aC_Reader ?aC_Bank ?aC_Bench ?aC_Runner ?D_parts ?ai_Reader ?l1 ?c1 ?k1 ?n1 ?D_ahead ?D_take ?D_take_run ?D_take_word ?D_take_number ?D_take_arms ?D_take_tree ?D_read_whole ?D_read ?ai_Bank ?l11 ?c11 ?k11 ?n11 ?a12 ?l12 ?t12 ?c12 ?k12 ?n12 ?D_put_part ?D_put_term ?D_cut ?ai_Bench ?l16 ?c16 ?k16 ?n16 ?D_bput ?D_read_order ?D_read_row ?D_read_sheet ?ai_Runner ?l21 ?c21 ?k21 ?n21 ?D_do_with_trees ?D_do_order ?a24 ?l24 ?t24 ?c24 ?k24 ?D_at ?D_word ?D_knots ?D_right ?a29 ?l29 ?c29 ?k29 ?rMk_Reader ?rKp_Reader ?rPg_Reader ?rHd_Reader ?rPo_Reader ?rSa_Reader ?nA_Reader_text ?nA_Reader_with_holes ?nA_Reader_place ?rMk_Bank ?rKp_Bank ?rPg_Bank ?rHd_Bank ?rPo_Bank ?rSa_Bank ?nA_Bank_room ?nA_Bank_terms ?nA_Bank_places ?rMk_Bench ?rKp_Bench ?rPg_Bench ?rHd_Bench ?rPo_Bench ?rSa_Bench ?nA_Bench_bank ?nA_Bench_edges ?rMk_Runner ?rKp_Runner ?rPg_Runner ?rHd_Runner ?rPo_Runner ?rSa_Runner ?nA_Runner_bench ?nA_Runner_rules ?nA_Runner_costs ?gs_LETTERS ?gs_FIGURES ?gi_MOST_LETTERS ?gi_MOST_FIGURES ?gi_MOST_ARMS ?gi_MOST_PARTS ?gi_MOST_DEEP ?gt_PAIR_WORDS ?lt_PAIR_WORDS ?gt_TREE_WORDS ?lt_TREE_WORDS ?x_NoTree ?xEx_NoTree ?x_Full ?xEx_Full ?m_Full ?z0 ?z1 ?z2 ?z3 ?z4 ?z5 ?z6 ?z7 ?z8 ?z9 ?z10 ?z11
    (case aC_Reader=>k_is)
    (case aC_Bank=>k_is)
    (case aC_Bench=>k_is)
    (case aC_Runner=>k_is)
    (case D_parts=>(refine' K80.dm KX G ?a ?l ?c ?k ?b; (case a=>k_is); (case l=>k_is); (case c=>k_is); (case k=>k_is); (case b=>(intro _ _ _ _ _ _ us hl;first | exact K80.len1_ (fun _=>rfl) us hl | exact K80.len2_ (fun _ _=>rfl) us hl | exact K80.len3_ (fun _ _ _=>rfl) us hl))))
    (case ai_Reader=>k_is)
    (case l1=>k_is)
    (case c1=>k_is)
    (case k1=>k_is)
    (case n1=>k_is)
    (case D_ahead=>(refine' K80.dmm ?a ?l ?c ?k ?n ?b; (case a=>k_is); (case l=>k_is); (case c=>k_is); (case k=>k_is); (case n=>k_is); (case b=>(intro _ _ _ _ _ _ us hl;first | exact K80.len1_ (fun _=>rfl) us hl | exact K80.len2_ (fun _ _=>rfl) us hl | exact K80.len3_ (fun _ _ _=>rfl) us hl))))
    (case D_take=>(refine' K80.dmm ?a ?l ?c ?k ?n ?b; (case a=>k_is); (case l=>k_is); (case c=>k_is); (case k=>k_is); (case n=>k_is); (case b=>(intro _ _ _ _ _ _ us hl;first | exact K80.len1_ (fun _=>rfl) us hl | exact K80.len2_ (fun _ _=>rfl) us hl | exact K80.len3_ (fun _ _ _=>rfl) us hl))))
    (case D_take_run=>(refine' K80.dmm ?a ?l ?c ?k ?n ?b; (case a=>k_is); (case l=>k_is); (case c=>k_is); (case k=>k_is); (case n=>k_is); (case b=>(intro _ _ _ _ _ _ us hl;first | exact K80.len1_ (fun _=>rfl) us hl | exact K80.len2_ (fun _ _=>rfl) us hl | exact K80.len3_ (fun _ _ _=>rfl) us hl))))
    (case D_take_word=>(refine' K80.dmm ?a ?l ?c ?k ?n ?b; (case a=>k_is); (case l=>k_is); (case c=>k_is); (case k=>k_is); (case n=>k_is); (case b=>(intro _ _ _ _ _ _ us hl;first | exact K80.len1_ (fun _=>rfl) us hl | exact K80.len2_ (fun _ _=>rfl) us hl | exact K80.len3_ (fun _ _ _=>rfl) us hl))))
    (case D_take_number=>(refine' K80.dmm ?a ?l ?c ?k ?n ?b; (case a=>k_is); (case l=>k_is); (case c=>k_is); (case k=>k_is); (case n=>k_is); (case b=>(intro _ _ _ _ _ _ us hl;first | exact K80.len1_ (fun _=>rfl) us hl | exact K80.len2_ (fun _ _=>rfl) us hl | exact K80.len3_ (fun _ _ _=>rfl) us hl))))
    (case D_take_arms=>(refine' K80.dmm ?a ?l ?c ?k ?n ?b; (case a=>k_is); (case l=>k_is); (case c=>k_is); (case k=>k_is); (case n=>k_is); (case b=>(intro _ _ _ _ _ _ us hl;first | exact K80.len1_ (fun _=>rfl) us hl | exact K80.len2_ (fun _ _=>rfl) us hl | exact K80.len3_ (fun _ _ _=>rfl) us hl))))
    (case D_take_tree=>(refine' K80.dmm ?a ?l ?c ?k ?n ?b; (case a=>k_is); (case l=>k_is); (case c=>k_is); (case k=>k_is); (case n=>k_is); (case b=>(intro _ _ _ _ _ _ us hl;first | exact K80.len1_ (fun _=>rfl) us hl | exact K80.len2_ (fun _ _=>rfl) us hl | exact K80.len3_ (fun _ _ _=>rfl) us hl))))
    (case D_read_whole=>(refine' K80.dm KX G ?a ?l ?c ?k ?b; (case a=>k_is); (case l=>k_is); (case c=>k_is); (case k=>k_is); (case b=>(intro _ _ _ _ _ _ us hl;first | exact K80.len1_ (fun _=>rfl) us hl | exact K80.len2_ (fun _ _=>rfl) us hl | exact K80.len3_ (fun _ _ _=>rfl) us hl))))
    (case D_read=>(refine' K80.dm KX G ?a ?l ?c ?k ?b; (case a=>k_is); (case l=>k_is); (case c=>k_is); (case k=>k_is); (case b=>(intro _ _ _ _ _ _ us hl;first | exact K80.len1_ (fun _=>rfl) us hl | exact K80.len2_ (fun _ _=>rfl) us hl | exact K80.len3_ (fun _ _ _=>rfl) us hl))))
    (case ai_Bank=>k_is)
    (case l11=>k_is)
    (case c11=>k_is)
    (case k11=>k_is)
    (case n11=>k_is)
    (case a12=>k_is)
    (case l12=>k_is)
    (case t12=>k_is)
    (case c12=>k_is)
    (case k12=>k_is)
    (case n12=>k_is)
    (case D_put_part=>(refine' K80.dmm ?a ?l ?c ?k ?n ?b; (case a=>k_is); (case l=>k_is); (case c=>k_is); (case k=>k_is); (case n=>k_is); (case b=>(intro _ _ _ _ _ _ us hl;first | exact K80.len1_ (fun _=>rfl) us hl | exact K80.len2_ (fun _ _=>rfl) us hl | exact K80.len3_ (fun _ _ _=>rfl) us hl))))
    (case D_put_term=>(refine' K80.dmm ?a ?l ?c ?k ?n ?b; (case a=>k_is); (case l=>k_is); (case c=>k_is); (case k=>k_is); (case n=>k_is); (case b=>(intro _ _ _ _ _ _ us hl;first | exact K80.len1_ (fun _=>rfl) us hl | exact K80.len2_ (fun _ _=>rfl) us hl | exact K80.len3_ (fun _ _ _=>rfl) us hl))))
    (case D_cut=>(refine' K80.dmm ?a ?l ?c ?k ?n ?b; (case a=>k_is); (case l=>k_is); (case c=>k_is); (case k=>k_is); (case n=>k_is); (case b=>(intro _ _ _ _ _ _ us hl;first | exact K80.len1_ (fun _=>rfl) us hl | exact K80.len2_ (fun _ _=>rfl) us hl | exact K80.len3_ (fun _ _ _=>rfl) us hl))))
    (case ai_Bench=>k_is)
    (case l16=>k_is)
    (case c16=>k_is)
    (case k16=>k_is)
    (case n16=>k_is)
    (case D_bput=>(refine' K80.dmm ?a ?l ?c ?k ?n ?b; (case a=>k_is); (case l=>k_is); (case c=>k_is); (case k=>k_is); (case n=>k_is); (case b=>(intro _ _ _ _ _ _ us hl;first | exact K80.len1_ (fun _=>rfl) us hl | exact K80.len2_ (fun _ _=>rfl) us hl | exact K80.len3_ (fun _ _ _=>rfl) us hl))))
    (case D_read_order=>(refine' K80.dm KX G ?a ?l ?c ?k ?b; (case a=>k_is); (case l=>k_is); (case c=>k_is); (case k=>k_is); (case b=>(intro _ _ _ _ _ _ us hl;first | exact K80.len1_ (fun _=>rfl) us hl | exact K80.len2_ (fun _ _=>rfl) us hl | exact K80.len3_ (fun _ _ _=>rfl) us hl))))
    (case D_read_row=>(refine' K80.dm KX G ?a ?l ?c ?k ?b; (case a=>k_is); (case l=>k_is); (case c=>k_is); (case k=>k_is); (case b=>(intro _ _ _ _ _ _ us hl;first | exact K80.len1_ (fun _=>rfl) us hl | exact K80.len2_ (fun _ _=>rfl) us hl | exact K80.len3_ (fun _ _ _=>rfl) us hl))))
    (case D_read_sheet=>(refine' K80.dm KX G ?a ?l ?c ?k ?b; (case a=>k_is); (case l=>k_is); (case c=>k_is); (case k=>k_is); (case b=>(intro _ _ _ _ _ _ us hl;first | exact K80.len1_ (fun _=>rfl) us hl | exact K80.len2_ (fun _ _=>rfl) us hl | exact K80.len3_ (fun _ _ _=>rfl) us hl))))
    (case ai_Runner=>k_is)
    (case l21=>k_is)
    (case c21=>k_is)
    (case k21=>k_is)
    (case n21=>k_is)
    (case D_do_with_trees=>(refine' K80.dmm ?a ?l ?c ?k ?n ?b; (case a=>k_is); (case l=>k_is); (case c=>k_is); (case k=>k_is); (case n=>k_is); (case b=>(intro _ _ _ _ _ _ us hl;first | exact K80.len1_ (fun _=>rfl) us hl | exact K80.len2_ (fun _ _=>rfl) us hl | exact K80.len3_ (fun _ _ _=>rfl) us hl))))
    (case D_do_order=>(refine' K80.dmm ?a ?l ?c ?k ?n ?b; (case a=>k_is); (case l=>k_is); (case c=>k_is); (case k=>k_is); (case n=>k_is); (case b=>(intro _ _ _ _ _ _ us hl;first | exact K80.len1_ (fun _=>rfl) us hl | exact K80.len2_ (fun _ _=>rfl) us hl | exact K80.len3_ (fun _ _ _=>rfl) us hl))))
    (case a24=>k_is)
    (case l24=>k_is)
    (case t24=>k_is)
    (case c24=>k_is)
    (case k24=>k_is)
    (case D_at=>(refine' K80.dm KX G ?a ?l ?c ?k ?b; (case a=>k_is); (case l=>k_is); (case c=>k_is); (case k=>k_is); (case b=>(intro _ _ _ _ _ _ us hl;first | exact K80.len1_ (fun _=>rfl) us hl | exact K80.len2_ (fun _ _=>rfl) us hl | exact K80.len3_ (fun _ _ _=>rfl) us hl))))
    (case D_word=>(refine' K80.dm KX G ?a ?l ?c ?k ?b; (case a=>k_is); (case l=>k_is); (case c=>k_is); (case k=>k_is); (case b=>(intro _ _ _ _ _ _ us hl;first | exact K80.len1_ (fun _=>rfl) us hl | exact K80.len2_ (fun _ _=>rfl) us hl | exact K80.len3_ (fun _ _ _=>rfl) us hl))))
    (case D_knots=>(refine' K80.dm KX G ?a ?l ?c ?k ?b; (case a=>k_is); (case l=>k_is); (case c=>k_is); (case k=>k_is); (case b=>(intro _ _ _ _ _ _ us hl;first | exact K80.len1_ (fun _=>rfl) us hl | exact K80.len2_ (fun _ _=>rfl) us hl | exact K80.len3_ (fun _ _ _=>rfl) us hl))))
    (case D_right=>(refine' K80.dm KX G ?a ?l ?c ?k ?b; (case a=>k_is); (case l=>k_is); (case c=>k_is); (case k=>k_is); (case b=>(intro _ _ _ _ _ _ us hl;first | exact K80.len1_ (fun _=>rfl) us hl | exact K80.len2_ (fun _ _=>rfl) us hl | exact K80.len3_ (fun _ _ _=>rfl) us hl))))
    (case a29=>k_is)
    (case l29=>k_is)
    (case c29=>k_is)
    (case k29=>k_is)
    (case rMk_Reader=>k_is)
    (case rKp_Reader=>k_is)
    (case rPg_Reader=>k_is)
    (case rHd_Reader=>k_is)
    (case rPo_Reader=>k_is)
    (case rSa_Reader=>k_is)
    (case nA_Reader_text=>k_is)
    (case nA_Reader_with_holes=>k_is)
    (case nA_Reader_place=>k_is)
    (case rMk_Bank=>k_is)
    (case rKp_Bank=>k_is)
    (case rPg_Bank=>k_is)
    (case rHd_Bank=>k_is)
    (case rPo_Bank=>k_is)
    (case rSa_Bank=>k_is)
    (case nA_Bank_room=>k_is)
    (case nA_Bank_terms=>k_is)
    (case nA_Bank_places=>k_is)
    (case rMk_Bench=>k_is)
    (case rKp_Bench=>k_is)
    (case rPg_Bench=>k_is)
    (case rHd_Bench=>k_is)
    (case rPo_Bench=>k_is)
    (case rSa_Bench=>k_is)
    (case nA_Bench_bank=>k_is)
    (case nA_Bench_edges=>k_is)
    (case rMk_Runner=>k_is)
    (case rKp_Runner=>k_is)
    (case rPg_Runner=>k_is)
    (case rHd_Runner=>k_is)
    (case rPo_Runner=>k_is)
    (case rSa_Runner=>k_is)
    (case nA_Runner_bench=>k_is)
    (case nA_Runner_rules=>k_is)
    (case nA_Runner_costs=>k_is)
    (case gs_LETTERS=>k_is)
    (case gs_FIGURES=>k_is)
    (case gi_MOST_LETTERS=>k_is)
    (case gi_MOST_FIGURES=>k_is)
    (case gi_MOST_ARMS=>k_is)
    (case gi_MOST_PARTS=>k_is)
    (case gi_MOST_DEEP=>k_is)
    (case gt_PAIR_WORDS=>k_is)
    (case lt_PAIR_WORDS=>k_is)
    (case gt_TREE_WORDS=>k_is)
    (case lt_TREE_WORDS=>k_is)
    (case x_NoTree=>k_is)
    (case xEx_NoTree=>k_exc)
    (case x_Full=>k_is)
    (case xEx_Full=>k_exc)
    (case m_Full=>kts_exm)
    (case z0=>k_is)
    (case z1=>k_is)
    (case z2=>k_is)
    (case z3=>k_is)
    (case z4=>k_is)
    (case z5=>k_is)
    (case z6=>k_is)
    (case z7=>k_is)
    (case z8=>k_is)
    (case z9=>k_is)
    (case z10=>k_is)
    (case z11=>k_is)
#print axioms PySem.Challenge.cw_samewise_k80_room_left_out_holds
