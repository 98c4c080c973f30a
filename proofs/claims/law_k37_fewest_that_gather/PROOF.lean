import PyProof.Rows.All
import Wide.All
import OpenK.AllK
import Wide.FinOn
import KE.HD2
import HandS.EndTab
import HandS.Words
import PySem.Challenge.RW_nearcall_k37_fewest_that_gather
import HandS.ForMost
import HandS.More
import HandS.Set
import HandS.ClsMeth
import HandS.ExcInit
import HandS.Lambda
import HandS.TryMany
import HandS.ExcField
import HandS.SetTxt0
import HandS.SetFor
import KE.GoesMore
import HandS.Walk
import HandS.DictComp
import HandS.WordsExc
import HandS.Defaults
import KE.GoesZip
import KE.GoesEnum
import HandS.Flow
import PyProof.Rows.SortShellAny
import KE.SortData
import KE.DatumOrd
import HandS.Conv
import HandS.Comp
import HandS.Style
import HandS.Steps
import HandS.StrMore
import HandS.IsInst
set_option Elab.async false
set_option linter.all false
set_option maxRecDepth 100000
noncomputable section
namespace HC
open PySem PySem.W PySem.Calls PyProof.Rows HeadRun
def execsQ := PySem.W.Fast.tw12563942051412417395
theorem execsQ_eq : @PySem.execs = execsQ := PySem.W.Fast.te12563942051412417395
def blockQ := PySem.W.Fast.tw1066825118222455980
theorem blockQ_eq : @PySem.blockStart = blockQ := PySem.W.Fast.te1066825118222455980
section
variable (go : SharedT → Thread → Option (SharedT × Thread)) (lo : Nat) (an : Option Value)
/-- some statements, to their end -/
def goS : Nat → SharedT → Thread → Option (Flow × SharedT × Code × Pos)
  | 0, _, _ => none
  | m + 1, S, T => match endAt 1 T with
    | some x => some (x, S, T.code, T.pos)
    | none => match stepOk lo an T with
      | false => none
      | true => match go S T with
        | none => none
        | some (S', T') => frS S' fun S2 => goS m S2 T'
/-- so many steps of the top -/
def goG : Nat → SharedT → Thread → Option (SharedT × Thread)
  | 0, S, T => some (S, T)
  | m + 1, S, T => match through T with
    | true => none
    | false => match stepOk lo an T with
      | false => none
      | true => match go S T with
        | none => none
        | some (S', T') => frS S' fun S2 => goG m S2 T'
end
section
variable {tb : String → Option Builtin} {p : Program} {w : World} {lo : Nat} {an : Option Value}
theorem goS_ok : ∀ {m : Nat} {S S' : SharedT} {T : Thread} {x : Flow} {c : Code} {q : Pos}, goS (stepT (denote tb) p w) lo an m S T = some (x, S', c, q) → segRun tb p w lo an 1 m S.abs T = some (x, S'.abs, c, q)
  | 0, _, _, _, _, _, _, h => nomatch h
  | m + 1, S, S', T, x, c, q, h => by
    unfold goS at h
    unfold segRun
    cases h1 : endAt 1 T with
    | some y =>
      simp only [h1, Option.some.injEq, Prod.mk.injEq] at h ⊢
      obtain ⟨a, b, d, e⟩ := h
      exact ⟨a, by rw [b], d, e⟩
    | none =>
      cases h2 : stepOk lo an T with
      | false => simp [h1, h2] at h
      | true =>
        cases h3 : stepT (denote tb) p w S T with
        | none => simp [h1, h2, h3] at h
        | some r =>
          obtain ⟨S2, T2⟩ := r
          simp only [h1, h2, h3, frS_eq] at h
          simp only [stepT_spec h3]
          exact goS_ok h
theorem goG_ok : ∀ {m : Nat} {S S' : SharedT} {T T' : Thread}, goG (stepT (denote tb) p w) lo an m S T = some (S', T') → topGo tb p w lo an m S.abs T = some (S'.abs, T')
  | 0, S, S', T, T', h => by
    unfold goG at h
    simp only [Option.some.injEq, Prod.mk.injEq] at h
    obtain ⟨a, b⟩ := h
    rw [← a, ← b]
    rfl
  | m + 1, S, S', T, T', h => by
    unfold goG at h
    unfold topGo
    cases h1 : through T with
    | true => simp [h1] at h
    | false =>
      cases h2 : stepOk lo an T with
      | false => simp [h1, h2] at h
      | true =>
        cases h3 : stepT (denote tb) p w S T with
        | none => simp [h1, h2, h3] at h
        | some r =>
          obtain ⟨S2, T2⟩ := r
          simp only [h1, h2, h3, frS_eq] at h
          simp only [stepT_spec h3]
          exact goG_ok h
end
/-- the machine, by the twins -/
abbrev mq (p : Program) (w : World) : SharedT → Thread → Option (SharedT × Thread) := stepQ (denQ tabQ) p w
/-- a state by the list of its objects -/
def stL (w : World) (l : List Obj) (k : Nat) (os : OsState) : SharedT := match putAll l .nil 0 with
  | some (t, n) => ⟨t, n, (boot_heap w.params).life, #[], boot_drawn, k, os⟩
  | none => ⟨.nil, 0, (boot_heap w.params).life, #[], boot_drawn, k, os⟩
abbrev thS (l : List Stmt) (env : Env) (c : Code) (a : Pos) (q : Pos) : Thread := ⟨(execsQ l env).wrap doneF deadEnd id id, c, a, [topFrame q]⟩
abbrev thB (l : List Stmt) (env : Env) (c : Code) (a : Pos) (q : Pos) : Thread := ⟨(blockQ l env).wrap (fun _ => doneF .next) deadEnd id id, c, a, [topFrame q]⟩
section
variable {p : Program} {w : World} {lo : Nat} {an : Option Value} {env : Env} {q a a' : Pos} {c : Code} {m N : Nat} {S S' : SharedT} {l rest : List Stmt} {r : Shared}
theorem mq_eq : mq p w = stepT (denote treeTable) p w := by
  show stepQ (denQ tabQ) p w = _
  rw [← stepQ_eq, ← denQ_eq, ← tabQ_eq]
theorem run_seg (h : goS (mq p w) lo an m S (thS l env c a q) = some (.next, S', c, a')) (k : topRun treeTable p w lo an N S'.abs (restOf rest env c a' [topFrame q]) = some r) :
    topRun treeTable p w lo an (m + N) S.abs (restOf (l ++ rest) env c a [topFrame q]) = some r := by
  rw [mq_eq] at h
  unfold thS at h
  rw [← execsQ_eq] at h
  exact piece_app (goS_ok h) k
theorem run_end (h : goF (mq p w) lo an m S ⟨doneF .next, c, a, [topFrame q]⟩ = some S') : topRun treeTable p w lo an m S.abs (restOf [] env c a [topFrame q]) = some S'.abs := by
  rw [mq_eq] at h
  exact piece_nil (goF_ok h)
theorem run_top {m2 : Nat} {Sa Sb : SharedT} {ab : Pos} {b : List Stmt} (h0 : goG (mq p w) lo an m S (topStub p) = some (Sa, ⟨denQ tabQ (.body b env), .body b env, a, [topFrame q]⟩)) (h1 : goS (mq p w) lo an m2 Sa (thB b env (.body b env) a q) = some (.next, Sb, .body b env, ab))
    (k : topRun treeTable p w lo an N Sb.abs (restOf b env (.body b env) ab [topFrame q]) = some r) : topRun treeTable p w lo an (m + (m2 + N)) S.abs (topStub p) = some r := by
  rw [mq_eq] at h0 h1
  rw [← denQ_eq, ← tabQ_eq] at h0
  unfold thB at h1
  rw [← blockQ_eq] at h1
  exact go_top (goG_ok h0) (piece_block (goS_ok h1) k)
end
theorem boot_abs (w : World) (os : OsState) {t : PySem.W.BT} {n : Nat} (e : putAll (boot_heap w.params).objs.toList .nil 0 = some (t, n)) : (stL w (boot_heap w.params).objs.toList boot_toks os).abs = ⟨boot_heap w.params, #[], boot_drawn, boot_toks, os⟩ := by
  unfold stL
  rw [e]
  show (⟨absHeap t n (boot_heap w.params).life, #[], boot_drawn, boot_toks, os⟩ : Shared) = _
  rw [putAll_heap e]
end HC
namespace HC
open PySem PySem.W PySem.Calls PyProof.Rows HeadRun
def hpL (P : Params) (l : List Obj) : Heap := match putAll l .nil 0 with
  | some (t, n) => absHeap t n (boot_heap P).life
  | none => absHeap .nil 0 (boot_heap P).life
theorem stL_abs (w : World) (l : List Obj) (k : Nat) (os : OsState) : (stL w l k os).abs = ⟨hpL w.params l, #[], boot_drawn, k, os⟩ := by
  unfold stL hpL
  cases putAll l .nil 0 <;> rfl
/-- the row's equation from the runs -/
theorem left_cut {p q : Program} {loose : List PySem.Str} {Xt : Shared → Bool} {H : Hook} {ob : SharedT → H.α} {N M lo kF : Nat} {an : Option Value} {F : Params → List Obj} (ho : ∀ S : SharedT, ob S = H.obs S.abs)
    (e : opening p = plainProg p.main.scope.names) (hN : Nat.ble 600 N = true) (f : ∀ s, fenceModules? p s = some s) (le : Nat.ble M N = true)
    (size : ∀ w : World, ((boot_heap w.params).isNs mainGlobals && (#[] : Array GenState).size == 0, (boot_heap w.params).objs.size, (boot_heap w.params).nsMap mainGlobals "__annotations__") = (true, lo, an))
    (tre : ∀ w : World, (putAll (boot_heap w.params).objs.toList .nil 0).isSome = true)
    (run : ∀ (w : World) (os : OsState), topRun treeTable p w lo an M (stL w (boot_heap w.params).objs.toList boot_toks os).abs (topStub p) = some (stL w (F w.params) kF os).abs)
    (looks : ∀ (w : World) (os : OsState), (fun S : SharedT => (looksF p (boot_heap w.params) S.abs, seenQ q loose (importedModules p.main.body) Xt S.abs, ob S)) (stL w (F w.params) kF os) = (true, openGood q loose, H.val w)) :
    LeftO p q loose Xt H.obs H.val N true := by
  refine LeftO.of_pieces (H₀ := boot_heap) (H₁ := fun P => hpL P (F P)) (gs₀ := #[]) (gs₁ := #[]) (d₀ := boot_drawn) (d₁ := boot_drawn) (k₀ := boot_toks) (k₁ := kF) (boot_open e hN f) size (fun w os => ?_) le (fun w => ?_)
  · obtain ⟨⟨t, n⟩, ht⟩ := Option.isSome_iff_exists.mp (tre w)
    have z := run w os
    rw [boot_abs w os ht, stL_abs] at z
    exact z
  · funext os
    have z := looks w os
    obtain ⟨z1, z2, z3⟩ : _ ∧ _ ∧ _ := by simpa only [Prod.mk.injEq] using z
    have ab := stL_abs w (F w.params) kF os
    rw [← seenQ_eq, ab] at z2
    rw [ab] at z1
    rw [ho, ab] at z3
    exact Prod.ext z1 (Prod.ext z2 z3)
theorem obK {as : List Addr} (S : SharedT) : as.map (getT S) = as.map S.abs.heap.get? := List.map_congr_left fun a _ => getT_eq S a
end HC
end
set_option maxHeartbeats 0
noncomputable section
namespace HX
open PySem PySem.W PySem.Calls PyProof.Rows HeadRun HC L2
abbrev S := PySem.Str.ofString
abbrev V (l : List Value) : Array Value := l.toArray
abbrev W (l : List (Option Value)) : Array (Option Value) := l.toArray
abbrev D (l : List DictEntry) : Array DictEntry := l.toArray
abbrev E (P : Params) (x : PySem.Str) (k : Tok) (v : Value) : DictEntry := ⟨PyData.keyHash P x, .str x k, v⟩
abbrev pw : Program := PySem.Challenge.pw_nearcall_k37_fewest_that_gather
abbrev rw_ : OpenLaw := PySem.Challenge.rw_nearcall_k37_fewest_that_gather
abbrev ST (i : Nat) : Stmt := pw.main.body.getD i (.Pass ⟨0, 0, 0, 0⟩)
def lv : List (PySem.Str × WData) := []
def o0 (P : Params) : Obj := ⟨(.type "tuple"), none, (.seq (V []) 0), (W [])⟩
def o1 (P : Params) : Obj := ⟨.none, none, (.fields (V [])), (W [])⟩
def o2 (P : Params) : Obj := ⟨(.type "code"), none, (.fields (V [(.str (S "<module>") 182), (.str (S "<module>") 183), (.str (S "/claim/cut.py") 184), (.int 1 0), (.int 0 0), (.int 0 0), (.int 0 0), (.int 0 0), (.ref 11), (.bool false), (.int 181 0), (.ref 12), .none, .none, .none, .none, (.int 185 0), (.int 1 0), (.str (S "/claim/cut.py") 186)])), (W [])⟩
def o3 (P : Params) : Obj := ⟨(.type "frame"), none, .plain, (W [(some (.ref 13)), (some (.ref 3)), (some (.ref 3)), none, (some (.str (S "__main__") 164)), none, (some (.ref 0))])⟩
def objs_a (P : Params) : List Obj :=
  [boot_o_0 P, boot_o_1 P, boot_o_2 P, boot_o_3 P, boot_o_4 P, boot_o_5 P, boot_o_6 P, boot_o_7 P, boot_o_8 P, boot_o_9 P, boot_o_10 P, o0 P, o1 P, o2 P, o3 P]
def objs_b (P : Params) : List Obj :=
  [boot_o_0 P, boot_o_1 P, boot_o_2 P, boot_o_3 P, boot_o_4 P, boot_o_5 P, boot_o_6 P, boot_o_7 P, boot_o_8 P, boot_o_9 P, boot_o_10 P, o0 P, o1 P, o2 P, o3 P]
def o4 (P : Params) : Obj := ⟨(.type "dict"), none, (.dict (D [E P (S "__name__") 165 (.str (S "nearcall.errors") 194), E P (S "__doc__") 166 .none, E P (S "__package__") 167 .none, E P (S "__loader__") 168 (.builtin "__main__.__loader__#opaque"), E P (S "__spec__") 169 .none, E P (S "__annotations__") 170 (.ref 6), E P (S "__builtins__") 171 (.ref 4), E P (S "__file__") 173 (.str (S "/claim/cut.py") 172), E P (S "__cached__") 174 .none, E P (S "_wall") 193 (.ref 21), E P (S "HallError") 222 (.ref 38), E P (S "BadWalls") 245 (.ref 58), E P (S "BadBar") 270 (.ref 77), E P (S "BadSide") 293 (.ref 96)]) 14), (W [])⟩
def o5 (P : Params) : Obj := ⟨.none, none, (.fields (V [(.int 1 0), (.int 0 0), (.ref 20), (.int 5 0), (.int 0 0), (.ref 27), (.int 10 0), (.int 0 0), (.ref 47), (.int 14 0), (.int 0 0), (.ref 66), (.int 19 0), (.int 0 0), (.ref 85)])), (W [])⟩
def o6 (P : Params) : Obj := ⟨(.type "tuple"), none, (.seq (V []) 0), (W [])⟩
def o7 (P : Params) : Obj := ⟨.none, none, (.fields (V [])), (W [])⟩
def o8 (P : Params) : Obj := ⟨(.type "tuple"), none, (.seq (V [(.str (S "k") 190)]) 0), (W [])⟩
def o9 (P : Params) : Obj := ⟨(.type "tuple"), none, (.seq (V []) 0), (W [])⟩
def o10 (P : Params) : Obj := ⟨.none, none, (.func ⟨(S "_wall"), (S "_wall"), (defArgs (ST 0)), (.stmts (defBody (ST 0))), (defScope (ST 0)), 0, [], .none, .none, .none, .none, none, .none, .none, 0⟩), (W [])⟩
def o11 (P : Params) : Obj := ⟨(.type "code"), none, (.fields (V [(.str (S "_wall") 187), (.str (S "_wall") 188), (.str (S "/claim/cut.py") 189), (.int 1 0), (.int 1 0), (.int 0 0), (.int 0 0), (.int 3 0), (.ref 15), (.bool true), (.int 181 0), (.ref 16), .none, (.ref 17), (.ref 18), (.ref 19), (.int 191 0), (.int 1 0), (.str (S "/claim/cut.py") 192)])), (W [])⟩
def o12 (P : Params) : Obj := ⟨(.type "function"), none, (.func ⟨(S "_wall"), (S "_wall"), (defArgs (ST 0)), (.stmts (defBody (ST 0))), (defScope (ST 0)), 3, [], .none, .none, .none, (.str (S "__main__") 164), none, (.ref 20), .none, 0⟩), (W [])⟩
def o13 (P : Params) : Obj := ⟨(.type "tuple"), none, (.seq (V [(.type "ValueError")]) 0), (W [])⟩
def o14 (P : Params) : Obj := ⟨(.type "builtin_function_or_method"), none, (.fields (V [(.builtin "type.__prepare__"), (.type "type")])), (W [])⟩
def o15 (P : Params) : Obj := ⟨(.type "dict"), none, (.dict (D [E P (S "__module__") 203 (.str (S "nearcall.errors") 194), E P (S "__qualname__") 205 (.str (S "HallError") 204), E P (S "__firstlineno__") 207 (.int 5 206), E P (S "__init__") 215 (.ref 35), E P (S "__static_attributes__") 217 (.ref 36)]) 5), (W [])⟩
def o16 (P : Params) : Obj := ⟨(.type "tuple"), none, (.seq (V []) 0), (W [])⟩
def o17 (P : Params) : Obj := ⟨.none, none, (.fields (V [(.int 7 0), (.int 4 0), (.ref 34)])), (W [])⟩
def o18 (P : Params) : Obj := ⟨(.type "code"), none, (.fields (V [(.str (S "HallError") 198), (.str (S "HallError") 199), (.str (S "/claim/cut.py") 200), (.int 5 0), (.int 0 0), (.int 0 0), (.int 0 0), (.int 0 0), (.ref 25), (.bool false), (.int 181 0), (.ref 26), .none, .none, .none, .none, (.int 201 0), (.int 5 0), (.str (S "/claim/cut.py") 202)])), (W [])⟩
def o19 (P : Params) : Obj := ⟨(.type "frame"), none, .plain, (W [(some (.ref 27)), (some (.ref 3)), (some (.ref 24)), none, (some (.str (S "nearcall.errors") 194)), none, (some (.ref 0))])⟩
def o20 (P : Params) : Obj := ⟨(.type "tuple"), none, (.seq (V []) 0), (W [])⟩
def o21 (P : Params) : Obj := ⟨.none, none, (.fields (V [])), (W [])⟩
def o22 (P : Params) : Obj := ⟨(.type "tuple"), none, (.seq (V [(.str (S "self") 211), (.str (S "word") 212)]) 0), (W [])⟩
def o23 (P : Params) : Obj := ⟨(.type "tuple"), none, (.seq (V []) 0), (W [])⟩
def o24 (P : Params) : Obj := ⟨.none, none, (.func ⟨(S "__init__"), (S "HallError.__init__"), (defArgs (inClass (ST 2) 0)), (.stmts (defBody (inClass (ST 2) 0))), (defScope (inClass (ST 2) 0)), 0, [], .none, .none, .none, .none, none, .none, .none, 0⟩), (W [])⟩
def o25 (P : Params) : Obj := ⟨(.type "code"), none, (.fields (V [(.str (S "__init__") 208), (.str (S "HallError.__init__") 209), (.str (S "/claim/cut.py") 210), (.int 7 0), (.int 2 0), (.int 0 0), (.int 0 0), (.int 3 0), (.ref 29), (.bool true), (.int 181 0), (.ref 30), .none, (.ref 31), (.ref 32), (.ref 33), (.int 213 0), (.int 7 0), (.str (S "/claim/cut.py") 214)])), (W [])⟩
def o26 (P : Params) : Obj := ⟨(.type "function"), none, (.func ⟨(S "__init__"), (S "HallError.__init__"), (defArgs (inClass (ST 2) 0)), (.stmts (defBody (inClass (ST 2) 0))), (defScope (inClass (ST 2) 0)), 3, [], .none, .none, .none, (.str (S "nearcall.errors") 194), none, (.ref 34), .none, 0⟩), (W [])⟩
def o27 (P : Params) : Obj := ⟨(.type "tuple"), none, (.seq (V [(.str (S "word") 216)]) 0), (W [])⟩
def o28 (P : Params) : Obj := ⟨(.type "dict"), none, (.dict (D [E P (S "__module__") 203 (.str (S "nearcall.errors") 194), E P (S "__firstlineno__") 207 (.int 5 206), E P (S "__init__") 215 (.ref 35), E P (S "__static_attributes__") 217 (.ref 36), E P (S "__weakref__") 219 (.ref 39), E P (S "__doc__") 220 .none]) 3), (W [])⟩
def o29 (P : Params) : Obj := ⟨(.type "type"), none, (.cls ⟨(S "HallError"), [(.type "ValueError")], [(.ref 38), (.type "ValueError"), (.type "Exception"), (.type "BaseException"), (.type "object")], 37, (S "HallError"), true, [], [(.ref 58), (.ref 77), (.ref 96)], false, none, false⟩), (W [(some (.ref 22)), none, (some (.str (S "HallError") 196)), (some (.str (S "HallError") 204)), (some (.builtin "ValueError.__new__")), (some (.bool true))])⟩
def o30 (P : Params) : Obj := ⟨(.type "getset_descriptor"), none, (.fields (V [(.str (S "__weakref__") 218), (.ref 38), (.builtin "ExceptionGroup.__weakref__"), .none])), (W [])⟩
def o31 (P : Params) : Obj := ⟨(.type "super"), none, (.fields (V [(.ref 38), (.ref 38), (.ref 38)])), (W [])⟩
def o32 (P : Params) : Obj := ⟨(.type "builtin_function_or_method"), none, (.fields (V [(.builtin "object.__init_subclass__"), (.ref 38)])), (W [])⟩
def o33 (P : Params) : Obj := ⟨(.type "tuple"), none, (.seq (V [(.ref 38)]) 0), (W [])⟩
def o34 (P : Params) : Obj := ⟨(.type "builtin_function_or_method"), none, (.fields (V [(.builtin "type.__prepare__"), (.type "type")])), (W [])⟩
def o35 (P : Params) : Obj := ⟨(.type "dict"), none, (.dict (D [E P (S "__module__") 230 (.str (S "nearcall.errors") 194), E P (S "__qualname__") 232 (.str (S "BadWalls") 231), E P (S "__firstlineno__") 234 (.int 10 233), E P (S "__init__") 241 (.ref 55), E P (S "__static_attributes__") 242 (.ref 56)]) 5), (W [])⟩
def o36 (P : Params) : Obj := ⟨(.type "tuple"), none, (.seq (V []) 0), (W [])⟩
def o37 (P : Params) : Obj := ⟨.none, none, (.fields (V [(.int 12 0), (.int 4 0), (.ref 54)])), (W [])⟩
def o38 (P : Params) : Obj := ⟨(.type "code"), none, (.fields (V [(.str (S "BadWalls") 225), (.str (S "BadWalls") 226), (.str (S "/claim/cut.py") 227), (.int 10 0), (.int 0 0), (.int 0 0), (.int 0 0), (.int 0 0), (.ref 45), (.bool false), (.int 181 0), (.ref 46), .none, .none, .none, .none, (.int 228 0), (.int 10 0), (.str (S "/claim/cut.py") 229)])), (W [])⟩
def o39 (P : Params) : Obj := ⟨(.type "frame"), none, .plain, (W [(some (.ref 47)), (some (.ref 3)), (some (.ref 44)), none, (some (.str (S "nearcall.errors") 194)), none, (some (.ref 0))])⟩
def o40 (P : Params) : Obj := ⟨(.type "tuple"), none, (.seq (V []) 0), (W [])⟩
def o41 (P : Params) : Obj := ⟨.none, none, (.fields (V [])), (W [])⟩
def o42 (P : Params) : Obj := ⟨(.type "tuple"), none, (.seq (V [(.str (S "self") 238)]) 0), (W [])⟩
def o43 (P : Params) : Obj := ⟨(.type "tuple"), none, (.seq (V []) 0), (W [])⟩
def o44 (P : Params) : Obj := ⟨.none, none, (.func ⟨(S "__init__"), (S "BadWalls.__init__"), (defArgs (inClass (ST 3) 0)), (.stmts (defBody (inClass (ST 3) 0))), (defScope (inClass (ST 3) 0)), 0, [], .none, .none, .none, .none, none, .none, .none, 0⟩), (W [])⟩
def o45 (P : Params) : Obj := ⟨(.type "code"), none, (.fields (V [(.str (S "__init__") 235), (.str (S "BadWalls.__init__") 236), (.str (S "/claim/cut.py") 237), (.int 12 0), (.int 1 0), (.int 0 0), (.int 0 0), (.int 3 0), (.ref 49), (.bool true), (.int 181 0), (.ref 50), .none, (.ref 51), (.ref 52), (.ref 53), (.int 239 0), (.int 12 0), (.str (S "/claim/cut.py") 240)])), (W [])⟩
def o46 (P : Params) : Obj := ⟨(.type "function"), none, (.func ⟨(S "__init__"), (S "BadWalls.__init__"), (defArgs (inClass (ST 3) 0)), (.stmts (defBody (inClass (ST 3) 0))), (defScope (inClass (ST 3) 0)), 3, [], .none, .none, .none, (.str (S "nearcall.errors") 194), none, (.ref 54), .none, 0⟩), (W [])⟩
def o47 (P : Params) : Obj := ⟨(.type "tuple"), none, (.seq (V []) 0), (W [])⟩
def o48 (P : Params) : Obj := ⟨(.type "dict"), none, (.dict (D [E P (S "__module__") 230 (.str (S "nearcall.errors") 194), E P (S "__firstlineno__") 234 (.int 10 233), E P (S "__init__") 241 (.ref 55), E P (S "__static_attributes__") 242 (.ref 56), E P (S "__doc__") 243 .none]) 2), (W [])⟩
def o49 (P : Params) : Obj := ⟨(.type "type"), none, (.cls ⟨(S "BadWalls"), [(.ref 38)], [(.ref 58), (.ref 38), (.type "ValueError"), (.type "Exception"), (.type "BaseException"), (.type "object")], 57, (S "BadWalls"), true, [], [], false, none, false⟩), (W [(some (.ref 42)), none, (some (.str (S "BadWalls") 223)), (some (.str (S "BadWalls") 231)), (some (.builtin "ValueError.__new__")), (some (.bool true))])⟩
def o50 (P : Params) : Obj := ⟨(.type "super"), none, (.fields (V [(.ref 58), (.ref 58), (.ref 58)])), (W [])⟩
def o51 (P : Params) : Obj := ⟨(.type "builtin_function_or_method"), none, (.fields (V [(.builtin "object.__init_subclass__"), (.ref 58)])), (W [])⟩
def o52 (P : Params) : Obj := ⟨(.type "tuple"), none, (.seq (V [(.ref 38)]) 0), (W [])⟩
def o53 (P : Params) : Obj := ⟨(.type "builtin_function_or_method"), none, (.fields (V [(.builtin "type.__prepare__"), (.type "type")])), (W [])⟩
def o54 (P : Params) : Obj := ⟨(.type "dict"), none, (.dict (D [E P (S "__module__") 253 (.str (S "nearcall.errors") 194), E P (S "__qualname__") 255 (.str (S "BadBar") 254), E P (S "__firstlineno__") 257 (.int 14 256), E P (S "__init__") 265 (.ref 74), E P (S "__static_attributes__") 267 (.ref 75)]) 5), (W [])⟩
def o55 (P : Params) : Obj := ⟨(.type "tuple"), none, (.seq (V []) 0), (W [])⟩
def o56 (P : Params) : Obj := ⟨.none, none, (.fields (V [(.int 16 0), (.int 4 0), (.ref 73)])), (W [])⟩
def o57 (P : Params) : Obj := ⟨(.type "code"), none, (.fields (V [(.str (S "BadBar") 248), (.str (S "BadBar") 249), (.str (S "/claim/cut.py") 250), (.int 14 0), (.int 0 0), (.int 0 0), (.int 0 0), (.int 0 0), (.ref 64), (.bool false), (.int 181 0), (.ref 65), .none, .none, .none, .none, (.int 251 0), (.int 14 0), (.str (S "/claim/cut.py") 252)])), (W [])⟩
def o58 (P : Params) : Obj := ⟨(.type "frame"), none, .plain, (W [(some (.ref 66)), (some (.ref 3)), (some (.ref 63)), none, (some (.str (S "nearcall.errors") 194)), none, (some (.ref 0))])⟩
def o59 (P : Params) : Obj := ⟨(.type "tuple"), none, (.seq (V []) 0), (W [])⟩
def o60 (P : Params) : Obj := ⟨.none, none, (.fields (V [])), (W [])⟩
def o61 (P : Params) : Obj := ⟨(.type "tuple"), none, (.seq (V [(.str (S "self") 261), (.str (S "at") 262)]) 0), (W [])⟩
def o62 (P : Params) : Obj := ⟨(.type "tuple"), none, (.seq (V []) 0), (W [])⟩
def o63 (P : Params) : Obj := ⟨.none, none, (.func ⟨(S "__init__"), (S "BadBar.__init__"), (defArgs (inClass (ST 4) 0)), (.stmts (defBody (inClass (ST 4) 0))), (defScope (inClass (ST 4) 0)), 0, [], .none, .none, .none, .none, none, .none, .none, 0⟩), (W [])⟩
def o64 (P : Params) : Obj := ⟨(.type "code"), none, (.fields (V [(.str (S "__init__") 258), (.str (S "BadBar.__init__") 259), (.str (S "/claim/cut.py") 260), (.int 16 0), (.int 2 0), (.int 0 0), (.int 0 0), (.int 3 0), (.ref 68), (.bool true), (.int 181 0), (.ref 69), .none, (.ref 70), (.ref 71), (.ref 72), (.int 263 0), (.int 16 0), (.str (S "/claim/cut.py") 264)])), (W [])⟩
def o65 (P : Params) : Obj := ⟨(.type "function"), none, (.func ⟨(S "__init__"), (S "BadBar.__init__"), (defArgs (inClass (ST 4) 0)), (.stmts (defBody (inClass (ST 4) 0))), (defScope (inClass (ST 4) 0)), 3, [], .none, .none, .none, (.str (S "nearcall.errors") 194), none, (.ref 73), .none, 0⟩), (W [])⟩
def o66 (P : Params) : Obj := ⟨(.type "tuple"), none, (.seq (V [(.str (S "at") 266)]) 0), (W [])⟩
def o67 (P : Params) : Obj := ⟨(.type "dict"), none, (.dict (D [E P (S "__module__") 253 (.str (S "nearcall.errors") 194), E P (S "__firstlineno__") 257 (.int 14 256), E P (S "__init__") 265 (.ref 74), E P (S "__static_attributes__") 267 (.ref 75), E P (S "__doc__") 268 .none]) 2), (W [])⟩
def o68 (P : Params) : Obj := ⟨(.type "type"), none, (.cls ⟨(S "BadBar"), [(.ref 38)], [(.ref 77), (.ref 38), (.type "ValueError"), (.type "Exception"), (.type "BaseException"), (.type "object")], 76, (S "BadBar"), true, [], [], false, none, false⟩), (W [(some (.ref 61)), none, (some (.str (S "BadBar") 246)), (some (.str (S "BadBar") 254)), (some (.builtin "ValueError.__new__")), (some (.bool true))])⟩
def o69 (P : Params) : Obj := ⟨(.type "super"), none, (.fields (V [(.ref 77), (.ref 77), (.ref 77)])), (W [])⟩
def o70 (P : Params) : Obj := ⟨(.type "builtin_function_or_method"), none, (.fields (V [(.builtin "object.__init_subclass__"), (.ref 77)])), (W [])⟩
def o71 (P : Params) : Obj := ⟨(.type "tuple"), none, (.seq (V [(.ref 38)]) 0), (W [])⟩
def o72 (P : Params) : Obj := ⟨(.type "builtin_function_or_method"), none, (.fields (V [(.builtin "type.__prepare__"), (.type "type")])), (W [])⟩
def o73 (P : Params) : Obj := ⟨(.type "dict"), none, (.dict (D [E P (S "__module__") 278 (.str (S "nearcall.errors") 194), E P (S "__qualname__") 280 (.str (S "BadSide") 279), E P (S "__firstlineno__") 282 (.int 19 281), E P (S "__init__") 289 (.ref 93), E P (S "__static_attributes__") 290 (.ref 94)]) 5), (W [])⟩
def o74 (P : Params) : Obj := ⟨(.type "tuple"), none, (.seq (V []) 0), (W [])⟩
def o75 (P : Params) : Obj := ⟨.none, none, (.fields (V [(.int 21 0), (.int 4 0), (.ref 92)])), (W [])⟩
def o76 (P : Params) : Obj := ⟨(.type "code"), none, (.fields (V [(.str (S "BadSide") 273), (.str (S "BadSide") 274), (.str (S "/claim/cut.py") 275), (.int 19 0), (.int 0 0), (.int 0 0), (.int 0 0), (.int 0 0), (.ref 83), (.bool false), (.int 181 0), (.ref 84), .none, .none, .none, .none, (.int 276 0), (.int 19 0), (.str (S "/claim/cut.py") 277)])), (W [])⟩
def o77 (P : Params) : Obj := ⟨(.type "frame"), none, .plain, (W [(some (.ref 85)), (some (.ref 3)), (some (.ref 82)), none, (some (.str (S "nearcall.errors") 194)), none, (some (.ref 0))])⟩
def o78 (P : Params) : Obj := ⟨(.type "tuple"), none, (.seq (V []) 0), (W [])⟩
def o79 (P : Params) : Obj := ⟨.none, none, (.fields (V [])), (W [])⟩
def o80 (P : Params) : Obj := ⟨(.type "tuple"), none, (.seq (V [(.str (S "self") 286)]) 0), (W [])⟩
def o81 (P : Params) : Obj := ⟨(.type "tuple"), none, (.seq (V []) 0), (W [])⟩
def o82 (P : Params) : Obj := ⟨.none, none, (.func ⟨(S "__init__"), (S "BadSide.__init__"), (defArgs (inClass (ST 5) 0)), (.stmts (defBody (inClass (ST 5) 0))), (defScope (inClass (ST 3) 0)), 0, [], .none, .none, .none, .none, none, .none, .none, 0⟩), (W [])⟩
def o83 (P : Params) : Obj := ⟨(.type "code"), none, (.fields (V [(.str (S "__init__") 283), (.str (S "BadSide.__init__") 284), (.str (S "/claim/cut.py") 285), (.int 21 0), (.int 1 0), (.int 0 0), (.int 0 0), (.int 3 0), (.ref 87), (.bool true), (.int 181 0), (.ref 88), .none, (.ref 89), (.ref 90), (.ref 91), (.int 287 0), (.int 21 0), (.str (S "/claim/cut.py") 288)])), (W [])⟩
def o84 (P : Params) : Obj := ⟨(.type "function"), none, (.func ⟨(S "__init__"), (S "BadSide.__init__"), (defArgs (inClass (ST 5) 0)), (.stmts (defBody (inClass (ST 5) 0))), (defScope (inClass (ST 3) 0)), 3, [], .none, .none, .none, (.str (S "nearcall.errors") 194), none, (.ref 92), .none, 0⟩), (W [])⟩
def o85 (P : Params) : Obj := ⟨(.type "tuple"), none, (.seq (V []) 0), (W [])⟩
def o86 (P : Params) : Obj := ⟨(.type "dict"), none, (.dict (D [E P (S "__module__") 278 (.str (S "nearcall.errors") 194), E P (S "__firstlineno__") 282 (.int 19 281), E P (S "__init__") 289 (.ref 93), E P (S "__static_attributes__") 290 (.ref 94), E P (S "__doc__") 291 .none]) 2), (W [])⟩
def o87 (P : Params) : Obj := ⟨(.type "type"), none, (.cls ⟨(S "BadSide"), [(.ref 38)], [(.ref 96), (.ref 38), (.type "ValueError"), (.type "Exception"), (.type "BaseException"), (.type "object")], 95, (S "BadSide"), true, [], [], false, none, false⟩), (W [(some (.ref 80)), none, (some (.str (S "BadSide") 271)), (some (.str (S "BadSide") 279)), (some (.builtin "ValueError.__new__")), (some (.bool true))])⟩
def o88 (P : Params) : Obj := ⟨(.type "super"), none, (.fields (V [(.ref 96), (.ref 96), (.ref 96)])), (W [])⟩
def o89 (P : Params) : Obj := ⟨(.type "builtin_function_or_method"), none, (.fields (V [(.builtin "object.__init_subclass__"), (.ref 96)])), (W [])⟩
def objs_0 (P : Params) : List Obj :=
  [boot_o_0 P, boot_o_1 P, boot_o_2 P, o4 P, boot_o_4 P, boot_o_5 P, boot_o_6 P, boot_o_7 P, boot_o_8 P, boot_o_9 P, boot_o_10 P, o0 P, o5 P, o2 P, o3 P, o6 P, o7 P, o8 P, o9 P, o10 P, o11 P, o12 P, o13 P, o14 P, o15 P, o16 P, o17 P, o18 P, o19 P, o20 P, o21 P, o22 P, o23 P, o24 P, o25 P, o26 P, o27 P, o28 P, o29 P, o30 P] ++ (
  [o31 P, o32 P, o33 P, o34 P, o35 P, o36 P, o37 P, o38 P, o39 P, o40 P, o41 P, o42 P, o43 P, o44 P, o45 P, o46 P, o47 P, o48 P, o49 P, o50 P, o51 P, o52 P, o53 P, o54 P, o55 P, o56 P, o57 P, o58 P, o59 P, o60 P, o61 P, o62 P, o63 P, o64 P, o65 P, o66 P, o67 P, o68 P, o69 P, o70 P] ++ (
  [o71 P, o72 P, o73 P, o74 P, o75 P, o76 P, o77 P, o78 P, o79 P, o80 P, o81 P, o82 P, o83 P, o84 P, o85 P, o86 P, o87 P, o88 P, o89 P]))
def o90 (P : Params) : Obj := ⟨(.type "dict"), none, (.dict (D [E P (S "__name__") 165 (.str (S "nearcall.errors") 194), E P (S "__doc__") 166 .none, E P (S "__package__") 167 .none, E P (S "__loader__") 168 (.builtin "__main__.__loader__#opaque"), E P (S "__spec__") 169 .none, E P (S "__annotations__") 170 (.ref 6), E P (S "__builtins__") 171 (.ref 4), E P (S "__file__") 173 (.str (S "/claim/cut.py") 172), E P (S "__cached__") 174 .none, E P (S "_wall") 193 (.ref 21), E P (S "HallError") 222 (.ref 38), E P (S "BadWalls") 245 (.ref 58), E P (S "BadBar") 270 (.ref 77), E P (S "BadSide") 293 (.ref 96), E P (S "Fixed") 318 (.ref 115), E P (S "Alike") 345 (.ref 134), E P (S "BadPart") 368 (.ref 153), E P (S "Empty") 393 (.ref 172)]) 18), (W [])⟩
def o91 (P : Params) : Obj := ⟨.none, none, (.fields (V [(.int 1 0), (.int 0 0), (.ref 20), (.int 5 0), (.int 0 0), (.ref 27), (.int 10 0), (.int 0 0), (.ref 47), (.int 14 0), (.int 0 0), (.ref 66), (.int 19 0), (.int 0 0), (.ref 85), (.int 23 0), (.int 0 0), (.ref 104), (.int 28 0), (.int 0 0), (.ref 123), (.int 34 0), (.int 0 0), (.ref 142), (.int 38 0), (.int 0 0), (.ref 161)])), (W [])⟩
def o92 (P : Params) : Obj := ⟨(.type "type"), none, (.cls ⟨(S "HallError"), [(.type "ValueError")], [(.ref 38), (.type "ValueError"), (.type "Exception"), (.type "BaseException"), (.type "object")], 37, (S "HallError"), true, [], [(.ref 58), (.ref 77), (.ref 96), (.ref 115), (.ref 134), (.ref 153), (.ref 172)], false, none, false⟩), (W [(some (.ref 22)), none, (some (.str (S "HallError") 196)), (some (.str (S "HallError") 204)), (some (.builtin "ValueError.__new__")), (some (.bool true))])⟩
def o93 (P : Params) : Obj := ⟨(.type "tuple"), none, (.seq (V [(.ref 38)]) 0), (W [])⟩
def o94 (P : Params) : Obj := ⟨(.type "builtin_function_or_method"), none, (.fields (V [(.builtin "type.__prepare__"), (.type "type")])), (W [])⟩
def o95 (P : Params) : Obj := ⟨(.type "dict"), none, (.dict (D [E P (S "__module__") 301 (.str (S "nearcall.errors") 194), E P (S "__qualname__") 303 (.str (S "Fixed") 302), E P (S "__firstlineno__") 305 (.int 23 304), E P (S "__init__") 313 (.ref 112), E P (S "__static_attributes__") 315 (.ref 113)]) 5), (W [])⟩
def o96 (P : Params) : Obj := ⟨(.type "tuple"), none, (.seq (V []) 0), (W [])⟩
def o97 (P : Params) : Obj := ⟨.none, none, (.fields (V [(.int 25 0), (.int 4 0), (.ref 111)])), (W [])⟩
def o98 (P : Params) : Obj := ⟨(.type "code"), none, (.fields (V [(.str (S "Fixed") 296), (.str (S "Fixed") 297), (.str (S "/claim/cut.py") 298), (.int 23 0), (.int 0 0), (.int 0 0), (.int 0 0), (.int 0 0), (.ref 102), (.bool false), (.int 181 0), (.ref 103), .none, .none, .none, .none, (.int 299 0), (.int 23 0), (.str (S "/claim/cut.py") 300)])), (W [])⟩
def o99 (P : Params) : Obj := ⟨(.type "frame"), none, .plain, (W [(some (.ref 104)), (some (.ref 3)), (some (.ref 101)), none, (some (.str (S "nearcall.errors") 194)), none, (some (.ref 0))])⟩
def o100 (P : Params) : Obj := ⟨(.type "tuple"), none, (.seq (V []) 0), (W [])⟩
def o101 (P : Params) : Obj := ⟨.none, none, (.fields (V [])), (W [])⟩
def o102 (P : Params) : Obj := ⟨(.type "tuple"), none, (.seq (V [(.str (S "self") 309), (.str (S "side") 310)]) 0), (W [])⟩
def o103 (P : Params) : Obj := ⟨(.type "tuple"), none, (.seq (V []) 0), (W [])⟩
def o104 (P : Params) : Obj := ⟨.none, none, (.func ⟨(S "__init__"), (S "Fixed.__init__"), (defArgs (inClass (ST 6) 0)), (.stmts (defBody (inClass (ST 6) 0))), (defScope (inClass (ST 6) 0)), 0, [], .none, .none, .none, .none, none, .none, .none, 0⟩), (W [])⟩
def o105 (P : Params) : Obj := ⟨(.type "code"), none, (.fields (V [(.str (S "__init__") 306), (.str (S "Fixed.__init__") 307), (.str (S "/claim/cut.py") 308), (.int 25 0), (.int 2 0), (.int 0 0), (.int 0 0), (.int 3 0), (.ref 106), (.bool true), (.int 181 0), (.ref 107), .none, (.ref 108), (.ref 109), (.ref 110), (.int 311 0), (.int 25 0), (.str (S "/claim/cut.py") 312)])), (W [])⟩
def o106 (P : Params) : Obj := ⟨(.type "function"), none, (.func ⟨(S "__init__"), (S "Fixed.__init__"), (defArgs (inClass (ST 6) 0)), (.stmts (defBody (inClass (ST 6) 0))), (defScope (inClass (ST 6) 0)), 3, [], .none, .none, .none, (.str (S "nearcall.errors") 194), none, (.ref 111), .none, 0⟩), (W [])⟩
def o107 (P : Params) : Obj := ⟨(.type "tuple"), none, (.seq (V [(.str (S "side") 314)]) 0), (W [])⟩
def o108 (P : Params) : Obj := ⟨(.type "dict"), none, (.dict (D [E P (S "__module__") 301 (.str (S "nearcall.errors") 194), E P (S "__firstlineno__") 305 (.int 23 304), E P (S "__init__") 313 (.ref 112), E P (S "__static_attributes__") 315 (.ref 113), E P (S "__doc__") 316 .none]) 2), (W [])⟩
def o109 (P : Params) : Obj := ⟨(.type "type"), none, (.cls ⟨(S "Fixed"), [(.ref 38)], [(.ref 115), (.ref 38), (.type "ValueError"), (.type "Exception"), (.type "BaseException"), (.type "object")], 114, (S "Fixed"), true, [], [], false, none, false⟩), (W [(some (.ref 99)), none, (some (.str (S "Fixed") 294)), (some (.str (S "Fixed") 302)), (some (.builtin "ValueError.__new__")), (some (.bool true))])⟩
def o110 (P : Params) : Obj := ⟨(.type "super"), none, (.fields (V [(.ref 115), (.ref 115), (.ref 115)])), (W [])⟩
def o111 (P : Params) : Obj := ⟨(.type "builtin_function_or_method"), none, (.fields (V [(.builtin "object.__init_subclass__"), (.ref 115)])), (W [])⟩
def o112 (P : Params) : Obj := ⟨(.type "tuple"), none, (.seq (V [(.ref 38)]) 0), (W [])⟩
def o113 (P : Params) : Obj := ⟨(.type "builtin_function_or_method"), none, (.fields (V [(.builtin "type.__prepare__"), (.type "type")])), (W [])⟩
def o114 (P : Params) : Obj := ⟨(.type "dict"), none, (.dict (D [E P (S "__module__") 326 (.str (S "nearcall.errors") 194), E P (S "__qualname__") 328 (.str (S "Alike") 327), E P (S "__firstlineno__") 330 (.int 28 329), E P (S "__init__") 339 (.ref 131), E P (S "__static_attributes__") 342 (.ref 132)]) 5), (W [])⟩
def o115 (P : Params) : Obj := ⟨(.type "tuple"), none, (.seq (V []) 0), (W [])⟩
def o116 (P : Params) : Obj := ⟨.none, none, (.fields (V [(.int 30 0), (.int 4 0), (.ref 130)])), (W [])⟩
def o117 (P : Params) : Obj := ⟨(.type "code"), none, (.fields (V [(.str (S "Alike") 321), (.str (S "Alike") 322), (.str (S "/claim/cut.py") 323), (.int 28 0), (.int 0 0), (.int 0 0), (.int 0 0), (.int 0 0), (.ref 121), (.bool false), (.int 181 0), (.ref 122), .none, .none, .none, .none, (.int 324 0), (.int 28 0), (.str (S "/claim/cut.py") 325)])), (W [])⟩
def o118 (P : Params) : Obj := ⟨(.type "frame"), none, .plain, (W [(some (.ref 123)), (some (.ref 3)), (some (.ref 120)), none, (some (.str (S "nearcall.errors") 194)), none, (some (.ref 0))])⟩
def o119 (P : Params) : Obj := ⟨(.type "tuple"), none, (.seq (V []) 0), (W [])⟩
def o120 (P : Params) : Obj := ⟨.none, none, (.fields (V [])), (W [])⟩
def o121 (P : Params) : Obj := ⟨(.type "tuple"), none, (.seq (V [(.str (S "self") 334), (.str (S "one") 335), (.str (S "other") 336)]) 0), (W [])⟩
def o122 (P : Params) : Obj := ⟨(.type "tuple"), none, (.seq (V []) 0), (W [])⟩
def o123 (P : Params) : Obj := ⟨.none, none, (.func ⟨(S "__init__"), (S "Alike.__init__"), (defArgs (inClass (ST 7) 0)), (.stmts (defBody (inClass (ST 7) 0))), (defScope (inClass (ST 7) 0)), 0, [], .none, .none, .none, .none, none, .none, .none, 0⟩), (W [])⟩
def o124 (P : Params) : Obj := ⟨(.type "code"), none, (.fields (V [(.str (S "__init__") 331), (.str (S "Alike.__init__") 332), (.str (S "/claim/cut.py") 333), (.int 30 0), (.int 3 0), (.int 0 0), (.int 0 0), (.int 3 0), (.ref 125), (.bool true), (.int 181 0), (.ref 126), .none, (.ref 127), (.ref 128), (.ref 129), (.int 337 0), (.int 30 0), (.str (S "/claim/cut.py") 338)])), (W [])⟩
def o125 (P : Params) : Obj := ⟨(.type "function"), none, (.func ⟨(S "__init__"), (S "Alike.__init__"), (defArgs (inClass (ST 7) 0)), (.stmts (defBody (inClass (ST 7) 0))), (defScope (inClass (ST 7) 0)), 3, [], .none, .none, .none, (.str (S "nearcall.errors") 194), none, (.ref 130), .none, 0⟩), (W [])⟩
def o126 (P : Params) : Obj := ⟨(.type "tuple"), none, (.seq (V [(.str (S "one") 340), (.str (S "other") 341)]) 0), (W [])⟩
def o127 (P : Params) : Obj := ⟨(.type "dict"), none, (.dict (D [E P (S "__module__") 326 (.str (S "nearcall.errors") 194), E P (S "__firstlineno__") 330 (.int 28 329), E P (S "__init__") 339 (.ref 131), E P (S "__static_attributes__") 342 (.ref 132), E P (S "__doc__") 343 .none]) 2), (W [])⟩
def o128 (P : Params) : Obj := ⟨(.type "type"), none, (.cls ⟨(S "Alike"), [(.ref 38)], [(.ref 134), (.ref 38), (.type "ValueError"), (.type "Exception"), (.type "BaseException"), (.type "object")], 133, (S "Alike"), true, [], [], false, none, false⟩), (W [(some (.ref 118)), none, (some (.str (S "Alike") 319)), (some (.str (S "Alike") 327)), (some (.builtin "ValueError.__new__")), (some (.bool true))])⟩
def o129 (P : Params) : Obj := ⟨(.type "super"), none, (.fields (V [(.ref 134), (.ref 134), (.ref 134)])), (W [])⟩
def o130 (P : Params) : Obj := ⟨(.type "builtin_function_or_method"), none, (.fields (V [(.builtin "object.__init_subclass__"), (.ref 134)])), (W [])⟩
def o131 (P : Params) : Obj := ⟨(.type "tuple"), none, (.seq (V [(.ref 38)]) 0), (W [])⟩
def o132 (P : Params) : Obj := ⟨(.type "builtin_function_or_method"), none, (.fields (V [(.builtin "type.__prepare__"), (.type "type")])), (W [])⟩
def o133 (P : Params) : Obj := ⟨(.type "dict"), none, (.dict (D [E P (S "__module__") 353 (.str (S "nearcall.errors") 194), E P (S "__qualname__") 355 (.str (S "BadPart") 354), E P (S "__firstlineno__") 357 (.int 34 356), E P (S "__init__") 364 (.ref 150), E P (S "__static_attributes__") 365 (.ref 151)]) 5), (W [])⟩
def o134 (P : Params) : Obj := ⟨(.type "tuple"), none, (.seq (V []) 0), (W [])⟩
def o135 (P : Params) : Obj := ⟨.none, none, (.fields (V [(.int 36 0), (.int 4 0), (.ref 149)])), (W [])⟩
def o136 (P : Params) : Obj := ⟨(.type "code"), none, (.fields (V [(.str (S "BadPart") 348), (.str (S "BadPart") 349), (.str (S "/claim/cut.py") 350), (.int 34 0), (.int 0 0), (.int 0 0), (.int 0 0), (.int 0 0), (.ref 140), (.bool false), (.int 181 0), (.ref 141), .none, .none, .none, .none, (.int 351 0), (.int 34 0), (.str (S "/claim/cut.py") 352)])), (W [])⟩
def o137 (P : Params) : Obj := ⟨(.type "frame"), none, .plain, (W [(some (.ref 142)), (some (.ref 3)), (some (.ref 139)), none, (some (.str (S "nearcall.errors") 194)), none, (some (.ref 0))])⟩
def o138 (P : Params) : Obj := ⟨(.type "tuple"), none, (.seq (V []) 0), (W [])⟩
def o139 (P : Params) : Obj := ⟨.none, none, (.fields (V [])), (W [])⟩
def o140 (P : Params) : Obj := ⟨(.type "tuple"), none, (.seq (V [(.str (S "self") 361)]) 0), (W [])⟩
def o141 (P : Params) : Obj := ⟨(.type "tuple"), none, (.seq (V []) 0), (W [])⟩
def o142 (P : Params) : Obj := ⟨.none, none, (.func ⟨(S "__init__"), (S "BadPart.__init__"), (defArgs (inClass (ST 8) 0)), (.stmts (defBody (inClass (ST 8) 0))), (defScope (inClass (ST 3) 0)), 0, [], .none, .none, .none, .none, none, .none, .none, 0⟩), (W [])⟩
def o143 (P : Params) : Obj := ⟨(.type "code"), none, (.fields (V [(.str (S "__init__") 358), (.str (S "BadPart.__init__") 359), (.str (S "/claim/cut.py") 360), (.int 36 0), (.int 1 0), (.int 0 0), (.int 0 0), (.int 3 0), (.ref 144), (.bool true), (.int 181 0), (.ref 145), .none, (.ref 146), (.ref 147), (.ref 148), (.int 362 0), (.int 36 0), (.str (S "/claim/cut.py") 363)])), (W [])⟩
def o144 (P : Params) : Obj := ⟨(.type "function"), none, (.func ⟨(S "__init__"), (S "BadPart.__init__"), (defArgs (inClass (ST 8) 0)), (.stmts (defBody (inClass (ST 8) 0))), (defScope (inClass (ST 3) 0)), 3, [], .none, .none, .none, (.str (S "nearcall.errors") 194), none, (.ref 149), .none, 0⟩), (W [])⟩
def o145 (P : Params) : Obj := ⟨(.type "tuple"), none, (.seq (V []) 0), (W [])⟩
def o146 (P : Params) : Obj := ⟨(.type "dict"), none, (.dict (D [E P (S "__module__") 353 (.str (S "nearcall.errors") 194), E P (S "__firstlineno__") 357 (.int 34 356), E P (S "__init__") 364 (.ref 150), E P (S "__static_attributes__") 365 (.ref 151), E P (S "__doc__") 366 .none]) 2), (W [])⟩
def o147 (P : Params) : Obj := ⟨(.type "type"), none, (.cls ⟨(S "BadPart"), [(.ref 38)], [(.ref 153), (.ref 38), (.type "ValueError"), (.type "Exception"), (.type "BaseException"), (.type "object")], 152, (S "BadPart"), true, [], [], false, none, false⟩), (W [(some (.ref 137)), none, (some (.str (S "BadPart") 346)), (some (.str (S "BadPart") 354)), (some (.builtin "ValueError.__new__")), (some (.bool true))])⟩
def o148 (P : Params) : Obj := ⟨(.type "super"), none, (.fields (V [(.ref 153), (.ref 153), (.ref 153)])), (W [])⟩
def o149 (P : Params) : Obj := ⟨(.type "builtin_function_or_method"), none, (.fields (V [(.builtin "object.__init_subclass__"), (.ref 153)])), (W [])⟩
def o150 (P : Params) : Obj := ⟨(.type "tuple"), none, (.seq (V [(.ref 38)]) 0), (W [])⟩
def o151 (P : Params) : Obj := ⟨(.type "builtin_function_or_method"), none, (.fields (V [(.builtin "type.__prepare__"), (.type "type")])), (W [])⟩
def o152 (P : Params) : Obj := ⟨(.type "dict"), none, (.dict (D [E P (S "__module__") 376 (.str (S "nearcall.errors") 194), E P (S "__qualname__") 378 (.str (S "Empty") 377), E P (S "__firstlineno__") 380 (.int 38 379), E P (S "__init__") 388 (.ref 169), E P (S "__static_attributes__") 390 (.ref 170)]) 5), (W [])⟩
def o153 (P : Params) : Obj := ⟨(.type "tuple"), none, (.seq (V []) 0), (W [])⟩
def o154 (P : Params) : Obj := ⟨.none, none, (.fields (V [(.int 40 0), (.int 4 0), (.ref 168)])), (W [])⟩
def o155 (P : Params) : Obj := ⟨(.type "code"), none, (.fields (V [(.str (S "Empty") 371), (.str (S "Empty") 372), (.str (S "/claim/cut.py") 373), (.int 38 0), (.int 0 0), (.int 0 0), (.int 0 0), (.int 0 0), (.ref 159), (.bool false), (.int 181 0), (.ref 160), .none, .none, .none, .none, (.int 374 0), (.int 38 0), (.str (S "/claim/cut.py") 375)])), (W [])⟩
def o156 (P : Params) : Obj := ⟨(.type "frame"), none, .plain, (W [(some (.ref 161)), (some (.ref 3)), (some (.ref 158)), none, (some (.str (S "nearcall.errors") 194)), none, (some (.ref 0))])⟩
def o157 (P : Params) : Obj := ⟨(.type "tuple"), none, (.seq (V []) 0), (W [])⟩
def o158 (P : Params) : Obj := ⟨.none, none, (.fields (V [])), (W [])⟩
def o159 (P : Params) : Obj := ⟨(.type "tuple"), none, (.seq (V [(.str (S "self") 384), (.str (S "wall") 385)]) 0), (W [])⟩
def o160 (P : Params) : Obj := ⟨(.type "tuple"), none, (.seq (V []) 0), (W [])⟩
def o161 (P : Params) : Obj := ⟨.none, none, (.func ⟨(S "__init__"), (S "Empty.__init__"), (defArgs (inClass (ST 9) 0)), (.stmts (defBody (inClass (ST 9) 0))), (defScope (inClass (ST 9) 0)), 0, [], .none, .none, .none, .none, none, .none, .none, 0⟩), (W [])⟩
def o162 (P : Params) : Obj := ⟨(.type "code"), none, (.fields (V [(.str (S "__init__") 381), (.str (S "Empty.__init__") 382), (.str (S "/claim/cut.py") 383), (.int 40 0), (.int 2 0), (.int 0 0), (.int 0 0), (.int 3 0), (.ref 163), (.bool true), (.int 181 0), (.ref 164), .none, (.ref 165), (.ref 166), (.ref 167), (.int 386 0), (.int 40 0), (.str (S "/claim/cut.py") 387)])), (W [])⟩
def o163 (P : Params) : Obj := ⟨(.type "function"), none, (.func ⟨(S "__init__"), (S "Empty.__init__"), (defArgs (inClass (ST 9) 0)), (.stmts (defBody (inClass (ST 9) 0))), (defScope (inClass (ST 9) 0)), 3, [], .none, .none, .none, (.str (S "nearcall.errors") 194), none, (.ref 168), .none, 0⟩), (W [])⟩
def o164 (P : Params) : Obj := ⟨(.type "tuple"), none, (.seq (V [(.str (S "wall") 389)]) 0), (W [])⟩
def o165 (P : Params) : Obj := ⟨(.type "dict"), none, (.dict (D [E P (S "__module__") 376 (.str (S "nearcall.errors") 194), E P (S "__firstlineno__") 380 (.int 38 379), E P (S "__init__") 388 (.ref 169), E P (S "__static_attributes__") 390 (.ref 170), E P (S "__doc__") 391 .none]) 2), (W [])⟩
def o166 (P : Params) : Obj := ⟨(.type "type"), none, (.cls ⟨(S "Empty"), [(.ref 38)], [(.ref 172), (.ref 38), (.type "ValueError"), (.type "Exception"), (.type "BaseException"), (.type "object")], 171, (S "Empty"), true, [], [], false, none, false⟩), (W [(some (.ref 156)), none, (some (.str (S "Empty") 369)), (some (.str (S "Empty") 377)), (some (.builtin "ValueError.__new__")), (some (.bool true))])⟩
def o167 (P : Params) : Obj := ⟨(.type "super"), none, (.fields (V [(.ref 172), (.ref 172), (.ref 172)])), (W [])⟩
def o168 (P : Params) : Obj := ⟨(.type "builtin_function_or_method"), none, (.fields (V [(.builtin "object.__init_subclass__"), (.ref 172)])), (W [])⟩
def objs_1 (P : Params) : List Obj :=
  [boot_o_0 P, boot_o_1 P, boot_o_2 P, o90 P, boot_o_4 P, boot_o_5 P, boot_o_6 P, boot_o_7 P, boot_o_8 P, boot_o_9 P, boot_o_10 P, o0 P, o91 P, o2 P, o3 P, o6 P, o7 P, o8 P, o9 P, o10 P, o11 P, o12 P, o13 P, o14 P, o15 P, o16 P, o17 P, o18 P, o19 P, o20 P, o21 P, o22 P, o23 P, o24 P, o25 P, o26 P, o27 P, o28 P, o92 P, o30 P] ++ (
  [o31 P, o32 P, o33 P, o34 P, o35 P, o36 P, o37 P, o38 P, o39 P, o40 P, o41 P, o42 P, o43 P, o44 P, o45 P, o46 P, o47 P, o48 P, o49 P, o50 P, o51 P, o52 P, o53 P, o54 P, o55 P, o56 P, o57 P, o58 P, o59 P, o60 P, o61 P, o62 P, o63 P, o64 P, o65 P, o66 P, o67 P, o68 P, o69 P, o70 P] ++ (
  [o71 P, o72 P, o73 P, o74 P, o75 P, o76 P, o77 P, o78 P, o79 P, o80 P, o81 P, o82 P, o83 P, o84 P, o85 P, o86 P, o87 P, o88 P, o89 P, o93 P, o94 P, o95 P, o96 P, o97 P, o98 P, o99 P, o100 P, o101 P, o102 P, o103 P, o104 P, o105 P, o106 P, o107 P, o108 P, o109 P, o110 P, o111 P, o112 P, o113 P] ++ (
  [o114 P, o115 P, o116 P, o117 P, o118 P, o119 P, o120 P, o121 P, o122 P, o123 P, o124 P, o125 P, o126 P, o127 P, o128 P, o129 P, o130 P, o131 P, o132 P, o133 P, o134 P, o135 P, o136 P, o137 P, o138 P, o139 P, o140 P, o141 P, o142 P, o143 P, o144 P, o145 P, o146 P, o147 P, o148 P, o149 P, o150 P, o151 P, o152 P, o153 P] ++ (
  [o154 P, o155 P, o156 P, o157 P, o158 P, o159 P, o160 P, o161 P, o162 P, o163 P, o164 P, o165 P, o166 P, o167 P, o168 P]))))
def o169 (P : Params) : Obj := ⟨(.type "dict"), none, (.dict (D [E P (S "__name__") 165 (.str (S "nearcall.halls") 419), E P (S "__doc__") 166 .none, E P (S "__package__") 167 .none, E P (S "__loader__") 168 (.builtin "__main__.__loader__#opaque"), E P (S "__spec__") 169 .none, E P (S "__annotations__") 170 (.ref 6), E P (S "__builtins__") 171 (.ref 4), E P (S "__file__") 173 (.str (S "/claim/cut.py") 172), E P (S "__cached__") 174 .none, E P (S "_wall") 193 (.ref 21), E P (S "HallError") 222 (.ref 38), E P (S "BadWalls") 245 (.ref 58), E P (S "BadBar") 270 (.ref 77), E P (S "BadSide") 293 (.ref 96), E P (S "Fixed") 318 (.ref 115), E P (S "Alike") 345 (.ref 134), E P (S "BadPart") 368 (.ref 153), E P (S "Empty") 393 (.ref 172), E P (S "TooMany") 418 (.ref 191), E P (S "WIDEST") 422 (.int 12 421), E P (S "other") 429 (.ref 200), E P (S "sides_of") 436 (.ref 207), E P (S "by_walls") 442 (.ref 212), E P (S "is_walls") 448 (.ref 217), E P (S "is_bar") 457 (.ref 224), E P (S "check_walls") 464 (.ref 231), E P (S "check_bars") 474 (.ref 238), E P (S "check_side") 482 (.ref 245), E P (S "straight_from") 488 (.ref 250), E P (S "reached") 501 (.ref 257), E P (S "all_forced") 507 (.ref 262), E P (S "check_fixed") 515 (.ref 269), E P (S "check_alike") 524 (.ref 276)]) 33), (W [])⟩
def o170 (P : Params) : Obj := ⟨.none, none, (.fields (V [(.int 1 0), (.int 0 0), (.ref 20), (.int 5 0), (.int 0 0), (.ref 27), (.int 10 0), (.int 0 0), (.ref 47), (.int 14 0), (.int 0 0), (.ref 66), (.int 19 0), (.int 0 0), (.ref 85), (.int 23 0), (.int 0 0), (.ref 104), (.int 28 0), (.int 0 0), (.ref 123), (.int 34 0), (.int 0 0), (.ref 142), (.int 38 0), (.int 0 0), (.ref 161), (.int 43 0), (.int 0 0), (.ref 180), (.int 50 0), (.int 0 0), (.ref 199), (.int 52 0), (.int 0 0), (.ref 206), (.int 54 0), (.int 0 0), (.ref 211), (.int 56 0), (.int 0 0), (.ref 216), (.int 59 0), (.int 0 0), (.ref 223), (.int 64 0), (.int 0 0), (.ref 230), (.int 67 0), (.int 0 0), (.ref 237), (.int 71 0), (.int 0 0), (.ref 244), (.int 74 0), (.int 0 0), (.ref 249), (.int 80 0), (.int 0 0), (.ref 256), (.int 92 0), (.int 0 0), (.ref 261), (.int 95 0), (.int 0 0), (.ref 268), (.int 99 0), (.int 0 0), (.ref 275)])), (W [])⟩
def o171 (P : Params) : Obj := ⟨(.type "type"), none, (.cls ⟨(S "HallError"), [(.type "ValueError")], [(.ref 38), (.type "ValueError"), (.type "Exception"), (.type "BaseException"), (.type "object")], 37, (S "HallError"), true, [], [(.ref 58), (.ref 77), (.ref 96), (.ref 115), (.ref 134), (.ref 153), (.ref 172), (.ref 191)], false, none, false⟩), (W [(some (.ref 22)), none, (some (.str (S "HallError") 196)), (some (.str (S "HallError") 204)), (some (.builtin "ValueError.__new__")), (some (.bool true))])⟩
def o172 (P : Params) : Obj := ⟨(.type "tuple"), none, (.seq (V [(.ref 38)]) 0), (W [])⟩
def o173 (P : Params) : Obj := ⟨(.type "builtin_function_or_method"), none, (.fields (V [(.builtin "type.__prepare__"), (.type "type")])), (W [])⟩
def o174 (P : Params) : Obj := ⟨(.type "dict"), none, (.dict (D [E P (S "__module__") 401 (.str (S "nearcall.errors") 194), E P (S "__qualname__") 403 (.str (S "TooMany") 402), E P (S "__firstlineno__") 405 (.int 43 404), E P (S "__init__") 413 (.ref 188), E P (S "__static_attributes__") 415 (.ref 189)]) 5), (W [])⟩
def o175 (P : Params) : Obj := ⟨(.type "tuple"), none, (.seq (V []) 0), (W [])⟩
def o176 (P : Params) : Obj := ⟨.none, none, (.fields (V [(.int 45 0), (.int 4 0), (.ref 187)])), (W [])⟩
def o177 (P : Params) : Obj := ⟨(.type "code"), none, (.fields (V [(.str (S "TooMany") 396), (.str (S "TooMany") 397), (.str (S "/claim/cut.py") 398), (.int 43 0), (.int 0 0), (.int 0 0), (.int 0 0), (.int 0 0), (.ref 178), (.bool false), (.int 181 0), (.ref 179), .none, .none, .none, .none, (.int 399 0), (.int 43 0), (.str (S "/claim/cut.py") 400)])), (W [])⟩
def o178 (P : Params) : Obj := ⟨(.type "frame"), none, .plain, (W [(some (.ref 180)), (some (.ref 3)), (some (.ref 177)), none, (some (.str (S "nearcall.errors") 194)), none, (some (.ref 0))])⟩
def o179 (P : Params) : Obj := ⟨(.type "tuple"), none, (.seq (V []) 0), (W [])⟩
def o180 (P : Params) : Obj := ⟨.none, none, (.fields (V [])), (W [])⟩
def o181 (P : Params) : Obj := ⟨(.type "tuple"), none, (.seq (V [(.str (S "self") 409), (.str (S "most") 410)]) 0), (W [])⟩
def o182 (P : Params) : Obj := ⟨(.type "tuple"), none, (.seq (V []) 0), (W [])⟩
def o183 (P : Params) : Obj := ⟨.none, none, (.func ⟨(S "__init__"), (S "TooMany.__init__"), (defArgs (inClass (ST 10) 0)), (.stmts (defBody (inClass (ST 10) 0))), (defScope (inClass (ST 10) 0)), 0, [], .none, .none, .none, .none, none, .none, .none, 0⟩), (W [])⟩
def o184 (P : Params) : Obj := ⟨(.type "code"), none, (.fields (V [(.str (S "__init__") 406), (.str (S "TooMany.__init__") 407), (.str (S "/claim/cut.py") 408), (.int 45 0), (.int 2 0), (.int 0 0), (.int 0 0), (.int 3 0), (.ref 182), (.bool true), (.int 181 0), (.ref 183), .none, (.ref 184), (.ref 185), (.ref 186), (.int 411 0), (.int 45 0), (.str (S "/claim/cut.py") 412)])), (W [])⟩
def o185 (P : Params) : Obj := ⟨(.type "function"), none, (.func ⟨(S "__init__"), (S "TooMany.__init__"), (defArgs (inClass (ST 10) 0)), (.stmts (defBody (inClass (ST 10) 0))), (defScope (inClass (ST 10) 0)), 3, [], .none, .none, .none, (.str (S "nearcall.errors") 194), none, (.ref 187), .none, 0⟩), (W [])⟩
def o186 (P : Params) : Obj := ⟨(.type "tuple"), none, (.seq (V [(.str (S "most") 414)]) 0), (W [])⟩
def o187 (P : Params) : Obj := ⟨(.type "dict"), none, (.dict (D [E P (S "__module__") 401 (.str (S "nearcall.errors") 194), E P (S "__firstlineno__") 405 (.int 43 404), E P (S "__init__") 413 (.ref 188), E P (S "__static_attributes__") 415 (.ref 189), E P (S "__doc__") 416 .none]) 2), (W [])⟩
def o188 (P : Params) : Obj := ⟨(.type "type"), none, (.cls ⟨(S "TooMany"), [(.ref 38)], [(.ref 191), (.ref 38), (.type "ValueError"), (.type "Exception"), (.type "BaseException"), (.type "object")], 190, (S "TooMany"), true, [], [], false, none, false⟩), (W [(some (.ref 175)), none, (some (.str (S "TooMany") 394)), (some (.str (S "TooMany") 402)), (some (.builtin "ValueError.__new__")), (some (.bool true))])⟩
def o189 (P : Params) : Obj := ⟨(.type "super"), none, (.fields (V [(.ref 191), (.ref 191), (.ref 191)])), (W [])⟩
def o190 (P : Params) : Obj := ⟨(.type "builtin_function_or_method"), none, (.fields (V [(.builtin "object.__init_subclass__"), (.ref 191)])), (W [])⟩
def o191 (P : Params) : Obj := ⟨(.type "tuple"), none, (.seq (V []) 0), (W [])⟩
def o192 (P : Params) : Obj := ⟨.none, none, (.fields (V [])), (W [])⟩
def o193 (P : Params) : Obj := ⟨(.type "tuple"), none, (.seq (V [(.str (S "side") 426)]) 0), (W [])⟩
def o194 (P : Params) : Obj := ⟨(.type "tuple"), none, (.seq (V []) 0), (W [])⟩
def o195 (P : Params) : Obj := ⟨.none, none, (.func ⟨(S "other"), (S "other"), (defArgs (ST 13)), (.stmts (defBody (ST 13))), (defScope (ST 13)), 0, [], .none, .none, .none, .none, none, .none, .none, 0⟩), (W [])⟩
def o196 (P : Params) : Obj := ⟨(.type "code"), none, (.fields (V [(.str (S "other") 423), (.str (S "other") 424), (.str (S "/claim/cut.py") 425), (.int 50 0), (.int 1 0), (.int 0 0), (.int 0 0), (.int 3 0), (.ref 194), (.bool true), (.int 181 0), (.ref 195), .none, (.ref 196), (.ref 197), (.ref 198), (.int 427 0), (.int 50 0), (.str (S "/claim/cut.py") 428)])), (W [])⟩
def o197 (P : Params) : Obj := ⟨(.type "function"), none, (.func ⟨(S "other"), (S "other"), (defArgs (ST 13)), (.stmts (defBody (ST 13))), (defScope (ST 13)), 3, [], .none, .none, .none, (.str (S "nearcall.halls") 419), none, (.ref 199), .none, 0⟩), (W [])⟩
def o198 (P : Params) : Obj := ⟨(.type "tuple"), none, (.seq (V []) 0), (W [])⟩
def o199 (P : Params) : Obj := ⟨.none, none, (.fields (V [])), (W [])⟩
def o200 (P : Params) : Obj := ⟨(.type "tuple"), none, (.seq (V [(.str (S "walls") 433)]) 0), (W [])⟩
def o201 (P : Params) : Obj := ⟨(.type "tuple"), none, (.seq (V []) 0), (W [])⟩
def o202 (P : Params) : Obj := ⟨.none, none, (.func ⟨(S "sides_of"), (S "sides_of"), (defArgs (ST 14)), (.stmts (defBody (ST 14))), (defScope (ST 14)), 0, [], .none, .none, .none, .none, none, .none, .none, 0⟩), (W [])⟩
def o203 (P : Params) : Obj := ⟨(.type "code"), none, (.fields (V [(.str (S "sides_of") 430), (.str (S "sides_of") 431), (.str (S "/claim/cut.py") 432), (.int 52 0), (.int 1 0), (.int 0 0), (.int 0 0), (.int 3 0), (.ref 201), (.bool true), (.int 181 0), (.ref 202), .none, (.ref 203), (.ref 204), (.ref 205), (.int 434 0), (.int 52 0), (.str (S "/claim/cut.py") 435)])), (W [])⟩
def o204 (P : Params) : Obj := ⟨(.type "function"), none, (.func ⟨(S "sides_of"), (S "sides_of"), (defArgs (ST 14)), (.stmts (defBody (ST 14))), (defScope (ST 14)), 3, [], .none, .none, .none, (.str (S "nearcall.halls") 419), none, (.ref 206), .none, 0⟩), (W [])⟩
def o205 (P : Params) : Obj := ⟨(.type "tuple"), none, (.seq (V []) 0), (W [])⟩
def o206 (P : Params) : Obj := ⟨.none, none, (.fields (V [])), (W [])⟩
def o207 (P : Params) : Obj := ⟨.none, none, (.func ⟨(S "by_walls"), (S "by_walls"), (defArgs (ST 15)), (.stmts (defBody (ST 15))), (defScope (ST 15)), 0, [], .none, .none, .none, .none, none, .none, .none, 0⟩), (W [])⟩
def o208 (P : Params) : Obj := ⟨(.type "code"), none, (.fields (V [(.str (S "by_walls") 437), (.str (S "by_walls") 438), (.str (S "/claim/cut.py") 439), (.int 54 0), (.int 2 0), (.int 0 0), (.int 0 0), (.int 3 0), (.ref 208), (.bool true), (.int 181 0), (.ref 209), .none, .none, .none, (.ref 210), (.int 440 0), (.int 54 0), (.str (S "/claim/cut.py") 441)])), (W [])⟩
def o209 (P : Params) : Obj := ⟨(.type "function"), none, (.func ⟨(S "by_walls"), (S "by_walls"), (defArgs (ST 15)), (.stmts (defBody (ST 15))), (defScope (ST 15)), 3, [], .none, .none, .none, (.str (S "nearcall.halls") 419), none, (.ref 211), .none, 0⟩), (W [])⟩
def o210 (P : Params) : Obj := ⟨(.type "tuple"), none, (.seq (V []) 0), (W [])⟩
def o211 (P : Params) : Obj := ⟨.none, none, (.fields (V [])), (W [])⟩
def o212 (P : Params) : Obj := ⟨.none, none, (.func ⟨(S "is_walls"), (S "is_walls"), (defArgs (ST 16)), (.stmts (defBody (ST 16))), (defScope (ST 16)), 0, [], .none, .none, .none, .none, none, .none, .none, 0⟩), (W [])⟩
def o213 (P : Params) : Obj := ⟨(.type "code"), none, (.fields (V [(.str (S "is_walls") 443), (.str (S "is_walls") 444), (.str (S "/claim/cut.py") 445), (.int 56 0), (.int 1 0), (.int 0 0), (.int 0 0), (.int 3 0), (.ref 213), (.bool true), (.int 181 0), (.ref 214), .none, .none, .none, (.ref 215), (.int 446 0), (.int 56 0), (.str (S "/claim/cut.py") 447)])), (W [])⟩
def o214 (P : Params) : Obj := ⟨(.type "function"), none, (.func ⟨(S "is_walls"), (S "is_walls"), (defArgs (ST 16)), (.stmts (defBody (ST 16))), (defScope (ST 16)), 3, [], .none, .none, .none, (.str (S "nearcall.halls") 419), none, (.ref 216), .none, 0⟩), (W [])⟩
def o215 (P : Params) : Obj := ⟨(.type "tuple"), none, (.seq (V []) 0), (W [])⟩
def o216 (P : Params) : Obj := ⟨.none, none, (.fields (V [])), (W [])⟩
def o217 (P : Params) : Obj := ⟨(.type "tuple"), none, (.seq (V [(.str (S "walls") 452), (.str (S "bar") 453), (.str (S "sides") 454)]) 0), (W [])⟩
def o218 (P : Params) : Obj := ⟨(.type "tuple"), none, (.seq (V []) 0), (W [])⟩
def o219 (P : Params) : Obj := ⟨.none, none, (.func ⟨(S "is_bar"), (S "is_bar"), (defArgs (ST 17)), (.stmts (defBody (ST 17))), (defScope (ST 17)), 0, [], .none, .none, .none, .none, none, .none, .none, 0⟩), (W [])⟩
def o220 (P : Params) : Obj := ⟨(.type "code"), none, (.fields (V [(.str (S "is_bar") 449), (.str (S "is_bar") 450), (.str (S "/claim/cut.py") 451), (.int 59 0), (.int 2 0), (.int 0 0), (.int 0 0), (.int 3 0), (.ref 218), (.bool true), (.int 181 0), (.ref 219), .none, (.ref 220), (.ref 221), (.ref 222), (.int 455 0), (.int 59 0), (.str (S "/claim/cut.py") 456)])), (W [])⟩
def o221 (P : Params) : Obj := ⟨(.type "function"), none, (.func ⟨(S "is_bar"), (S "is_bar"), (defArgs (ST 17)), (.stmts (defBody (ST 17))), (defScope (ST 17)), 3, [], .none, .none, .none, (.str (S "nearcall.halls") 419), none, (.ref 223), .none, 0⟩), (W [])⟩
def o222 (P : Params) : Obj := ⟨(.type "tuple"), none, (.seq (V []) 0), (W [])⟩
def o223 (P : Params) : Obj := ⟨.none, none, (.fields (V [])), (W [])⟩
def o224 (P : Params) : Obj := ⟨(.type "tuple"), none, (.seq (V [(.str (S "walls") 461)]) 0), (W [])⟩
def o225 (P : Params) : Obj := ⟨(.type "tuple"), none, (.seq (V []) 0), (W [])⟩
def o226 (P : Params) : Obj := ⟨.none, none, (.func ⟨(S "check_walls"), (S "check_walls"), (defArgs (ST 18)), (.stmts (defBody (ST 18))), (defScope (ST 18)), 0, [], .none, .none, .none, .none, none, .none, .none, 0⟩), (W [])⟩
def o227 (P : Params) : Obj := ⟨(.type "code"), none, (.fields (V [(.str (S "check_walls") 458), (.str (S "check_walls") 459), (.str (S "/claim/cut.py") 460), (.int 64 0), (.int 1 0), (.int 0 0), (.int 0 0), (.int 3 0), (.ref 225), (.bool true), (.int 181 0), (.ref 226), .none, (.ref 227), (.ref 228), (.ref 229), (.int 462 0), (.int 64 0), (.str (S "/claim/cut.py") 463)])), (W [])⟩
def o228 (P : Params) : Obj := ⟨(.type "function"), none, (.func ⟨(S "check_walls"), (S "check_walls"), (defArgs (ST 18)), (.stmts (defBody (ST 18))), (defScope (ST 18)), 3, [], .none, .none, .none, (.str (S "nearcall.halls") 419), none, (.ref 230), .none, 0⟩), (W [])⟩
def o229 (P : Params) : Obj := ⟨(.type "tuple"), none, (.seq (V []) 0), (W [])⟩
def o230 (P : Params) : Obj := ⟨.none, none, (.fields (V [])), (W [])⟩
def o231 (P : Params) : Obj := ⟨(.type "tuple"), none, (.seq (V [(.str (S "walls") 468), (.str (S "bars") 469), (.str (S "at") 470), (.str (S "bar") 471)]) 0), (W [])⟩
def o232 (P : Params) : Obj := ⟨(.type "tuple"), none, (.seq (V []) 0), (W [])⟩
def o233 (P : Params) : Obj := ⟨.none, none, (.func ⟨(S "check_bars"), (S "check_bars"), (defArgs (ST 19)), (.stmts (defBody (ST 19))), (defScope (ST 19)), 0, [], .none, .none, .none, .none, none, .none, .none, 0⟩), (W [])⟩
def o234 (P : Params) : Obj := ⟨(.type "code"), none, (.fields (V [(.str (S "check_bars") 465), (.str (S "check_bars") 466), (.str (S "/claim/cut.py") 467), (.int 67 0), (.int 2 0), (.int 0 0), (.int 0 0), (.int 3 0), (.ref 232), (.bool true), (.int 181 0), (.ref 233), .none, (.ref 234), (.ref 235), (.ref 236), (.int 472 0), (.int 67 0), (.str (S "/claim/cut.py") 473)])), (W [])⟩
def o235 (P : Params) : Obj := ⟨(.type "function"), none, (.func ⟨(S "check_bars"), (S "check_bars"), (defArgs (ST 19)), (.stmts (defBody (ST 19))), (defScope (ST 19)), 3, [], .none, .none, .none, (.str (S "nearcall.halls") 419), none, (.ref 237), .none, 0⟩), (W [])⟩
def o236 (P : Params) : Obj := ⟨(.type "tuple"), none, (.seq (V []) 0), (W [])⟩
def o237 (P : Params) : Obj := ⟨.none, none, (.fields (V [])), (W [])⟩
def o238 (P : Params) : Obj := ⟨(.type "tuple"), none, (.seq (V [(.str (S "walls") 478), (.str (S "side") 479)]) 0), (W [])⟩
def o239 (P : Params) : Obj := ⟨(.type "tuple"), none, (.seq (V []) 0), (W [])⟩
def o240 (P : Params) : Obj := ⟨.none, none, (.func ⟨(S "check_side"), (S "check_side"), (defArgs (ST 20)), (.stmts (defBody (ST 20))), (defScope (ST 20)), 0, [], .none, .none, .none, .none, none, .none, .none, 0⟩), (W [])⟩
def o241 (P : Params) : Obj := ⟨(.type "code"), none, (.fields (V [(.str (S "check_side") 475), (.str (S "check_side") 476), (.str (S "/claim/cut.py") 477), (.int 71 0), (.int 2 0), (.int 0 0), (.int 0 0), (.int 3 0), (.ref 239), (.bool true), (.int 181 0), (.ref 240), .none, (.ref 241), (.ref 242), (.ref 243), (.int 480 0), (.int 71 0), (.str (S "/claim/cut.py") 481)])), (W [])⟩
def o242 (P : Params) : Obj := ⟨(.type "function"), none, (.func ⟨(S "check_side"), (S "check_side"), (defArgs (ST 20)), (.stmts (defBody (ST 20))), (defScope (ST 20)), 3, [], .none, .none, .none, (.str (S "nearcall.halls") 419), none, (.ref 244), .none, 0⟩), (W [])⟩
def o243 (P : Params) : Obj := ⟨(.type "tuple"), none, (.seq (V []) 0), (W [])⟩
def o244 (P : Params) : Obj := ⟨.none, none, (.fields (V [])), (W [])⟩
def o245 (P : Params) : Obj := ⟨.none, none, (.func ⟨(S "straight_from"), (S "straight_from"), (defArgs (ST 21)), (.stmts (defBody (ST 21))), (defScope (ST 21)), 0, [], .none, .none, .none, .none, none, .none, .none, 0⟩), (W [])⟩
def o246 (P : Params) : Obj := ⟨(.type "code"), none, (.fields (V [(.str (S "straight_from") 483), (.str (S "straight_from") 484), (.str (S "/claim/cut.py") 485), (.int 74 0), (.int 2 0), (.int 0 0), (.int 0 0), (.int 3 0), (.ref 246), (.bool true), (.int 181 0), (.ref 247), .none, .none, .none, (.ref 248), (.int 486 0), (.int 74 0), (.str (S "/claim/cut.py") 487)])), (W [])⟩
def o247 (P : Params) : Obj := ⟨(.type "function"), none, (.func ⟨(S "straight_from"), (S "straight_from"), (defArgs (ST 21)), (.stmts (defBody (ST 21))), (defScope (ST 21)), 3, [], .none, .none, .none, (.str (S "nearcall.halls") 419), none, (.ref 249), .none, 0⟩), (W [])⟩
def o248 (P : Params) : Obj := ⟨(.type "tuple"), none, (.seq (V []) 0), (W [])⟩
def o249 (P : Params) : Obj := ⟨.none, none, (.fields (V [])), (W [])⟩
def o250 (P : Params) : Obj := ⟨(.type "tuple"), none, (.seq (V [(.str (S "straight") 492), (.str (S "one") 493), (.str (S "ahead") 494), (.str (S "wave") 495), (.str (S "later") 496), (.str (S "side") 497), (.str (S "met") 498)]) 0), (W [])⟩
def o251 (P : Params) : Obj := ⟨(.type "tuple"), none, (.seq (V []) 0), (W [])⟩
def o252 (P : Params) : Obj := ⟨.none, none, (.func ⟨(S "reached"), (S "reached"), (defArgs (ST 22)), (.stmts (defBody (ST 22))), (defScope (ST 22)), 0, [], .none, .none, .none, .none, none, .none, .none, 0⟩), (W [])⟩
def o253 (P : Params) : Obj := ⟨(.type "code"), none, (.fields (V [(.str (S "reached") 489), (.str (S "reached") 490), (.str (S "/claim/cut.py") 491), (.int 80 0), (.int 2 0), (.int 0 0), (.int 0 0), (.int 3 0), (.ref 251), (.bool true), (.int 181 0), (.ref 252), .none, (.ref 253), (.ref 254), (.ref 255), (.int 499 0), (.int 80 0), (.str (S "/claim/cut.py") 500)])), (W [])⟩
def o254 (P : Params) : Obj := ⟨(.type "function"), none, (.func ⟨(S "reached"), (S "reached"), (defArgs (ST 22)), (.stmts (defBody (ST 22))), (defScope (ST 22)), 3, [], .none, .none, .none, (.str (S "nearcall.halls") 419), none, (.ref 256), .none, 0⟩), (W [])⟩
def o255 (P : Params) : Obj := ⟨(.type "tuple"), none, (.seq (V []) 0), (W [])⟩
def o256 (P : Params) : Obj := ⟨.none, none, (.fields (V [])), (W [])⟩
def o257 (P : Params) : Obj := ⟨.none, none, (.func ⟨(S "all_forced"), (S "all_forced"), (defArgs (ST 23)), (.stmts (defBody (ST 23))), (defScope (ST 23)), 0, [], .none, .none, .none, .none, none, .none, .none, 0⟩), (W [])⟩
def o258 (P : Params) : Obj := ⟨(.type "code"), none, (.fields (V [(.str (S "all_forced") 502), (.str (S "all_forced") 503), (.str (S "/claim/cut.py") 504), (.int 92 0), (.int 2 0), (.int 0 0), (.int 0 0), (.int 3 0), (.ref 258), (.bool true), (.int 181 0), (.ref 259), .none, .none, .none, (.ref 260), (.int 505 0), (.int 92 0), (.str (S "/claim/cut.py") 506)])), (W [])⟩
def o259 (P : Params) : Obj := ⟨(.type "function"), none, (.func ⟨(S "all_forced"), (S "all_forced"), (defArgs (ST 23)), (.stmts (defBody (ST 23))), (defScope (ST 23)), 3, [], .none, .none, .none, (.str (S "nearcall.halls") 419), none, (.ref 261), .none, 0⟩), (W [])⟩
def o260 (P : Params) : Obj := ⟨(.type "tuple"), none, (.seq (V []) 0), (W [])⟩
def o261 (P : Params) : Obj := ⟨.none, none, (.fields (V [])), (W [])⟩
def o262 (P : Params) : Obj := ⟨(.type "tuple"), none, (.seq (V [(.str (S "forced_by") 511), (.str (S "side") 512)]) 0), (W [])⟩
def o263 (P : Params) : Obj := ⟨(.type "tuple"), none, (.seq (V []) 0), (W [])⟩
def o264 (P : Params) : Obj := ⟨.none, none, (.func ⟨(S "check_fixed"), (S "check_fixed"), (defArgs (ST 24)), (.stmts (defBody (ST 24))), (defScope (ST 24)), 0, [], .none, .none, .none, .none, none, .none, .none, 0⟩), (W [])⟩
def o265 (P : Params) : Obj := ⟨(.type "code"), none, (.fields (V [(.str (S "check_fixed") 508), (.str (S "check_fixed") 509), (.str (S "/claim/cut.py") 510), (.int 95 0), (.int 1 0), (.int 0 0), (.int 0 0), (.int 3 0), (.ref 263), (.bool true), (.int 181 0), (.ref 264), .none, (.ref 265), (.ref 266), (.ref 267), (.int 513 0), (.int 95 0), (.str (S "/claim/cut.py") 514)])), (W [])⟩
def o266 (P : Params) : Obj := ⟨(.type "function"), none, (.func ⟨(S "check_fixed"), (S "check_fixed"), (defArgs (ST 24)), (.stmts (defBody (ST 24))), (defScope (ST 24)), 3, [], .none, .none, .none, (.str (S "nearcall.halls") 419), none, (.ref 268), .none, 0⟩), (W [])⟩
def o267 (P : Params) : Obj := ⟨(.type "tuple"), none, (.seq (V []) 0), (W [])⟩
def o268 (P : Params) : Obj := ⟨.none, none, (.fields (V [])), (W [])⟩
def o269 (P : Params) : Obj := ⟨(.type "tuple"), none, (.seq (V [(.str (S "forced_by") 519), (.str (S "side") 520), (.str (S "met") 521)]) 0), (W [])⟩
def o270 (P : Params) : Obj := ⟨(.type "tuple"), none, (.seq (V []) 0), (W [])⟩
def o271 (P : Params) : Obj := ⟨.none, none, (.func ⟨(S "check_alike"), (S "check_alike"), (defArgs (ST 25)), (.stmts (defBody (ST 25))), (defScope (ST 25)), 0, [], .none, .none, .none, .none, none, .none, .none, 0⟩), (W [])⟩
def o272 (P : Params) : Obj := ⟨(.type "code"), none, (.fields (V [(.str (S "check_alike") 516), (.str (S "check_alike") 517), (.str (S "/claim/cut.py") 518), (.int 99 0), (.int 1 0), (.int 0 0), (.int 0 0), (.int 3 0), (.ref 270), (.bool true), (.int 181 0), (.ref 271), .none, (.ref 272), (.ref 273), (.ref 274), (.int 522 0), (.int 99 0), (.str (S "/claim/cut.py") 523)])), (W [])⟩
def o273 (P : Params) : Obj := ⟨(.type "function"), none, (.func ⟨(S "check_alike"), (S "check_alike"), (defArgs (ST 25)), (.stmts (defBody (ST 25))), (defScope (ST 25)), 3, [], .none, .none, .none, (.str (S "nearcall.halls") 419), none, (.ref 275), .none, 0⟩), (W [])⟩
def objs_2 (P : Params) : List Obj :=
  [boot_o_0 P, boot_o_1 P, boot_o_2 P, o169 P, boot_o_4 P, boot_o_5 P, boot_o_6 P, boot_o_7 P, boot_o_8 P, boot_o_9 P, boot_o_10 P, o0 P, o170 P, o2 P, o3 P, o6 P, o7 P, o8 P, o9 P, o10 P, o11 P, o12 P, o13 P, o14 P, o15 P, o16 P, o17 P, o18 P, o19 P, o20 P, o21 P, o22 P, o23 P, o24 P, o25 P, o26 P, o27 P, o28 P, o171 P, o30 P] ++ (
  [o31 P, o32 P, o33 P, o34 P, o35 P, o36 P, o37 P, o38 P, o39 P, o40 P, o41 P, o42 P, o43 P, o44 P, o45 P, o46 P, o47 P, o48 P, o49 P, o50 P, o51 P, o52 P, o53 P, o54 P, o55 P, o56 P, o57 P, o58 P, o59 P, o60 P, o61 P, o62 P, o63 P, o64 P, o65 P, o66 P, o67 P, o68 P, o69 P, o70 P] ++ (
  [o71 P, o72 P, o73 P, o74 P, o75 P, o76 P, o77 P, o78 P, o79 P, o80 P, o81 P, o82 P, o83 P, o84 P, o85 P, o86 P, o87 P, o88 P, o89 P, o93 P, o94 P, o95 P, o96 P, o97 P, o98 P, o99 P, o100 P, o101 P, o102 P, o103 P, o104 P, o105 P, o106 P, o107 P, o108 P, o109 P, o110 P, o111 P, o112 P, o113 P] ++ (
  [o114 P, o115 P, o116 P, o117 P, o118 P, o119 P, o120 P, o121 P, o122 P, o123 P, o124 P, o125 P, o126 P, o127 P, o128 P, o129 P, o130 P, o131 P, o132 P, o133 P, o134 P, o135 P, o136 P, o137 P, o138 P, o139 P, o140 P, o141 P, o142 P, o143 P, o144 P, o145 P, o146 P, o147 P, o148 P, o149 P, o150 P, o151 P, o152 P, o153 P] ++ (
  [o154 P, o155 P, o156 P, o157 P, o158 P, o159 P, o160 P, o161 P, o162 P, o163 P, o164 P, o165 P, o166 P, o167 P, o168 P, o172 P, o173 P, o174 P, o175 P, o176 P, o177 P, o178 P, o179 P, o180 P, o181 P, o182 P, o183 P, o184 P, o185 P, o186 P, o187 P, o188 P, o189 P, o190 P, o191 P, o192 P, o193 P, o194 P, o195 P, o196 P] ++ (
  [o197 P, o198 P, o199 P, o200 P, o201 P, o202 P, o203 P, o204 P, o205 P, o206 P, o207 P, o208 P, o209 P, o210 P, o211 P, o212 P, o213 P, o214 P, o215 P, o216 P, o217 P, o218 P, o219 P, o220 P, o221 P, o222 P, o223 P, o224 P, o225 P, o226 P, o227 P, o228 P, o229 P, o230 P, o231 P, o232 P, o233 P, o234 P, o235 P, o236 P] ++ (
  [o237 P, o238 P, o239 P, o240 P, o241 P, o242 P, o243 P, o244 P, o245 P, o246 P, o247 P, o248 P, o249 P, o250 P, o251 P, o252 P, o253 P, o254 P, o255 P, o256 P, o257 P, o258 P, o259 P, o260 P, o261 P, o262 P, o263 P, o264 P, o265 P, o266 P, o267 P, o268 P, o269 P, o270 P, o271 P, o272 P, o273 P]))))))
def o274 (P : Params) : Obj := ⟨(.type "dict"), none, (.dict (D [E P (S "__name__") 165 (.str (S "law_nearcall_k37_fewest_that_gather") 746), E P (S "__doc__") 166 .none, E P (S "__package__") 167 .none, E P (S "__loader__") 168 (.builtin "__main__.__loader__#opaque"), E P (S "__spec__") 169 .none, E P (S "__annotations__") 170 (.ref 6), E P (S "__builtins__") 171 (.ref 4), E P (S "__file__") 173 (.str (S "/claim/cut.py") 172), E P (S "__cached__") 174 .none, E P (S "_wall") 193 (.ref 21), E P (S "HallError") 222 (.ref 38), E P (S "BadWalls") 245 (.ref 58), E P (S "BadBar") 270 (.ref 77), E P (S "BadSide") 293 (.ref 96), E P (S "Fixed") 318 (.ref 115), E P (S "Alike") 345 (.ref 134), E P (S "BadPart") 368 (.ref 153), E P (S "Empty") 393 (.ref 172), E P (S "TooMany") 418 (.ref 191), E P (S "WIDEST") 422 (.int 12 421), E P (S "other") 429 (.ref 200), E P (S "sides_of") 436 (.ref 207), E P (S "by_walls") 442 (.ref 212), E P (S "is_walls") 448 (.ref 217), E P (S "is_bar") 457 (.ref 224), E P (S "check_walls") 464 (.ref 231), E P (S "check_bars") 474 (.ref 238), E P (S "check_side") 482 (.ref 245), E P (S "straight_from") 488 (.ref 250), E P (S "reached") 501 (.ref 257), E P (S "all_forced") 507 (.ref 262), E P (S "check_fixed") 515 (.ref 269), E P (S "check_alike") 524 (.ref 276), E P (S "Hall") 673 (.ref 396), E P (S "is_part") 686 (.ref 407), E P (S "check_part") 694 (.ref 414), E P (S "all_forced_by") 700 (.ref 419), E P (S "torn_walls") 706 (.ref 424), E P (S "shut") 715 (.ref 431), E P (S "shut_calls") 723 (.ref 436), E P (S "walls_written") 729 (.ref 441), E P (S "MOST_CALLS") 733 (.int 12 732), E P (S "longer_lists") 739 (.ref 446), E P (S "gather") 745 (.ref 451), E P (S "_law_same") 753 (.ref 456), E P (S "_law_start") 762 (.ref 463), E P (S "_law_draw") 773 (.ref 470)]) 47), (W [])⟩
def o275 (P : Params) : Obj := ⟨.none, none, (.fields (V [(.int 1 0), (.int 0 0), (.ref 20), (.int 5 0), (.int 0 0), (.ref 27), (.int 10 0), (.int 0 0), (.ref 47), (.int 14 0), (.int 0 0), (.ref 66), (.int 19 0), (.int 0 0), (.ref 85), (.int 23 0), (.int 0 0), (.ref 104), (.int 28 0), (.int 0 0), (.ref 123), (.int 34 0), (.int 0 0), (.ref 142), (.int 38 0), (.int 0 0), (.ref 161), (.int 43 0), (.int 0 0), (.ref 180), (.int 50 0), (.int 0 0), (.ref 199), (.int 52 0), (.int 0 0), (.ref 206), (.int 54 0), (.int 0 0), (.ref 211), (.int 56 0), (.int 0 0), (.ref 216), (.int 59 0), (.int 0 0), (.ref 223), (.int 64 0), (.int 0 0), (.ref 230), (.int 67 0), (.int 0 0), (.ref 237), (.int 71 0), (.int 0 0), (.ref 244), (.int 74 0), (.int 0 0), (.ref 249), (.int 80 0), (.int 0 0), (.ref 256), (.int 92 0), (.int 0 0), (.ref 261), (.int 95 0), (.int 0 0), (.ref 268), (.int 99 0), (.int 0 0), (.ref 275), (.int 104 0), (.int 0 0), (.ref 282), (.int 168 0), (.int 0 0), (.ref 406), (.int 176 0), (.int 0 0), (.ref 413), (.int 179 0), (.int 0 0), (.ref 418), (.int 181 0), (.int 0 0), (.ref 423), (.int 184 0), (.int 0 0), (.ref 430), (.int 191 0), (.int 0 0), (.ref 435), (.int 195 0), (.int 0 0), (.ref 440), (.int 200 0), (.int 0 0), (.ref 445), (.int 202 0), (.int 0 0), (.ref 450), (.int 212 0), (.int 0 0), (.ref 455), (.int 220 0), (.int 0 0), (.ref 462), (.int 225 0), (.int 0 0), (.ref 469)])), (W [])⟩
def o276 (P : Params) : Obj := ⟨(.type "tuple"), none, (.seq (V []) 0), (W [])⟩
def o277 (P : Params) : Obj := ⟨(.type "builtin_function_or_method"), none, (.fields (V [(.builtin "type.__prepare__"), (.type "type")])), (W [])⟩
def o278 (P : Params) : Obj := ⟨(.type "dict"), none, (.dict (D [E P (S "__module__") 532 (.str (S "nearcall.halls") 419), E P (S "__qualname__") 534 (.str (S "Hall") 533), E P (S "__firstlineno__") 536 (.int 104 535), E P (S "__init__") 546 (.ref 292), E P (S "walls") 553 (.ref 299), E P (S "bars") 560 (.ref 306), E P (S "forced") 568 (.ref 313), E P (S "forces") 577 (.ref 320), E P (S "is_room") 585 (.ref 327), E P (S "rooms") 591 (.ref 332), E P (S "goes_with") 597 (.ref 337), E P (S "doors") 605 (.ref 344), E P (S "steps") 614 (.ref 351), E P (S "way") 623 (.ref 358), E P (S "nearer") 632 (.ref 365), E P (S "__eq__") 640 (.ref 372), E P (S "__len__") 647 (.ref 379), E P (S "__str__") 654 (.ref 386), E P (S "__repr__") 661 (.ref 393), E P (S "__static_attributes__") 665 (.ref 394)]) 20), (W [])⟩
def o279 (P : Params) : Obj := ⟨(.type "tuple"), none, (.seq (V []) 0), (W [])⟩
def o280 (P : Params) : Obj := ⟨.none, none, (.fields (V [(.int 106 0), (.int 4 0), (.ref 291), (.int 116 0), (.int 4 0), (.ref 298), (.int 119 0), (.int 4 0), (.ref 305), (.int 122 0), (.int 4 0), (.ref 312), (.int 126 0), (.int 4 0), (.ref 319), (.int 131 0), (.int 4 0), (.ref 326), (.int 134 0), (.int 4 0), (.ref 331), (.int 140 0), (.int 4 0), (.ref 336), (.int 144 0), (.int 4 0), (.ref 343), (.int 147 0), (.int 4 0), (.ref 350), (.int 150 0), (.int 4 0), (.ref 357), (.int 153 0), (.int 4 0), (.ref 364), (.int 156 0), (.int 4 0), (.ref 371), (.int 159 0), (.int 4 0), (.ref 378), (.int 162 0), (.int 4 0), (.ref 385), (.int 165 0), (.int 4 0), (.ref 392)])), (W [])⟩
def o281 (P : Params) : Obj := ⟨(.type "code"), none, (.fields (V [(.str (S "Hall") 527), (.str (S "Hall") 528), (.str (S "/claim/cut.py") 529), (.int 104 0), (.int 0 0), (.int 0 0), (.int 0 0), (.int 0 0), (.ref 280), (.bool false), (.int 181 0), (.ref 281), .none, .none, .none, .none, (.int 530 0), (.int 104 0), (.str (S "/claim/cut.py") 531)])), (W [])⟩
def o282 (P : Params) : Obj := ⟨(.type "frame"), none, .plain, (W [(some (.ref 282)), (some (.ref 3)), (some (.ref 279)), none, (some (.str (S "nearcall.halls") 419)), none, (some (.ref 0))])⟩
def o283 (P : Params) : Obj := ⟨(.type "tuple"), none, (.seq (V []) 0), (W [])⟩
def o284 (P : Params) : Obj := ⟨(.type "tuple"), none, (.seq (V [(.ref 284)]) 0), (W [])⟩
def o285 (P : Params) : Obj := ⟨(.type "tuple"), none, (.seq (V []) 0), (W [])⟩
def o286 (P : Params) : Obj := ⟨.none, none, (.fields (V [])), (W [])⟩
def o287 (P : Params) : Obj := ⟨(.type "tuple"), none, (.seq (V [(.str (S "self") 540), (.str (S "walls") 541), (.str (S "bars") 542), (.str (S "forced_by") 543)]) 0), (W [])⟩
def o288 (P : Params) : Obj := ⟨(.type "tuple"), none, (.seq (V []) 0), (W [])⟩
def o289 (P : Params) : Obj := ⟨.none, none, (.func ⟨(S "__init__"), (S "Hall.__init__"), (defArgs (inClass (ST 26) 0)), (.stmts (defBody (inClass (ST 26) 0))), (defScope (inClass (ST 26) 0)), 0, [], .none, .none, .none, .none, none, .none, .none, 0⟩), (W [])⟩
def o290 (P : Params) : Obj := ⟨(.type "code"), none, (.fields (V [(.str (S "__init__") 537), (.str (S "Hall.__init__") 538), (.str (S "/claim/cut.py") 539), (.int 106 0), (.int 3 0), (.int 0 0), (.int 0 0), (.int 3 0), (.ref 286), (.bool true), (.int 181 0), (.ref 287), .none, (.ref 288), (.ref 289), (.ref 290), (.int 544 0), (.int 106 0), (.str (S "/claim/cut.py") 545)])), (W [])⟩
def o291 (P : Params) : Obj := ⟨(.type "function"), none, (.func ⟨(S "__init__"), (S "Hall.__init__"), (defArgs (inClass (ST 26) 0)), (.stmts (defBody (inClass (ST 26) 0))), (defScope (inClass (ST 26) 0)), 3, [], (.ref 285), .none, .none, (.str (S "nearcall.halls") 419), none, (.ref 291), .none, 0⟩), (W [])⟩
def o292 (P : Params) : Obj := ⟨(.type "tuple"), none, (.seq (V []) 0), (W [])⟩
def o293 (P : Params) : Obj := ⟨.none, none, (.fields (V [])), (W [])⟩
def o294 (P : Params) : Obj := ⟨(.type "tuple"), none, (.seq (V [(.str (S "self") 550)]) 0), (W [])⟩
def o295 (P : Params) : Obj := ⟨(.type "tuple"), none, (.seq (V []) 0), (W [])⟩
def o296 (P : Params) : Obj := ⟨.none, none, (.func ⟨(S "walls"), (S "Hall.walls"), (defArgs (inClass (ST 26) 1)), (.stmts (defBody (inClass (ST 26) 1))), (defScope (inClass (ST 26) 1)), 0, [], .none, .none, .none, .none, none, .none, .none, 0⟩), (W [])⟩
def o297 (P : Params) : Obj := ⟨(.type "code"), none, (.fields (V [(.str (S "walls") 547), (.str (S "Hall.walls") 548), (.str (S "/claim/cut.py") 549), (.int 116 0), (.int 1 0), (.int 0 0), (.int 0 0), (.int 3 0), (.ref 293), (.bool true), (.int 181 0), (.ref 294), .none, (.ref 295), (.ref 296), (.ref 297), (.int 551 0), (.int 116 0), (.str (S "/claim/cut.py") 552)])), (W [])⟩
def o298 (P : Params) : Obj := ⟨(.type "function"), none, (.func ⟨(S "walls"), (S "Hall.walls"), (defArgs (inClass (ST 26) 1)), (.stmts (defBody (inClass (ST 26) 1))), (defScope (inClass (ST 26) 1)), 3, [], .none, .none, .none, (.str (S "nearcall.halls") 419), none, (.ref 298), .none, 0⟩), (W [])⟩
def o299 (P : Params) : Obj := ⟨(.type "tuple"), none, (.seq (V []) 0), (W [])⟩
def o300 (P : Params) : Obj := ⟨.none, none, (.fields (V [])), (W [])⟩
def o301 (P : Params) : Obj := ⟨(.type "tuple"), none, (.seq (V [(.str (S "self") 557)]) 0), (W [])⟩
def o302 (P : Params) : Obj := ⟨(.type "tuple"), none, (.seq (V []) 0), (W [])⟩
def o303 (P : Params) : Obj := ⟨.none, none, (.func ⟨(S "bars"), (S "Hall.bars"), (defArgs (inClass (ST 26) 2)), (.stmts (defBody (inClass (ST 26) 2))), (defScope (inClass (ST 26) 2)), 0, [], .none, .none, .none, .none, none, .none, .none, 0⟩), (W [])⟩
def o304 (P : Params) : Obj := ⟨(.type "code"), none, (.fields (V [(.str (S "bars") 554), (.str (S "Hall.bars") 555), (.str (S "/claim/cut.py") 556), (.int 119 0), (.int 1 0), (.int 0 0), (.int 0 0), (.int 3 0), (.ref 300), (.bool true), (.int 181 0), (.ref 301), .none, (.ref 302), (.ref 303), (.ref 304), (.int 558 0), (.int 119 0), (.str (S "/claim/cut.py") 559)])), (W [])⟩
def o305 (P : Params) : Obj := ⟨(.type "function"), none, (.func ⟨(S "bars"), (S "Hall.bars"), (defArgs (inClass (ST 26) 2)), (.stmts (defBody (inClass (ST 26) 2))), (defScope (inClass (ST 26) 2)), 3, [], .none, .none, .none, (.str (S "nearcall.halls") 419), none, (.ref 305), .none, 0⟩), (W [])⟩
def o306 (P : Params) : Obj := ⟨(.type "tuple"), none, (.seq (V []) 0), (W [])⟩
def o307 (P : Params) : Obj := ⟨.none, none, (.fields (V [])), (W [])⟩
def o308 (P : Params) : Obj := ⟨(.type "tuple"), none, (.seq (V [(.str (S "self") 564), (.str (S "side") 565)]) 0), (W [])⟩
def o309 (P : Params) : Obj := ⟨(.type "tuple"), none, (.seq (V []) 0), (W [])⟩
def o310 (P : Params) : Obj := ⟨.none, none, (.func ⟨(S "forced"), (S "Hall.forced"), (defArgs (inClass (ST 26) 3)), (.stmts (defBody (inClass (ST 26) 3))), (defScope (inClass (ST 26) 3)), 0, [], .none, .none, .none, .none, none, .none, .none, 0⟩), (W [])⟩
def o311 (P : Params) : Obj := ⟨(.type "code"), none, (.fields (V [(.str (S "forced") 561), (.str (S "Hall.forced") 562), (.str (S "/claim/cut.py") 563), (.int 122 0), (.int 2 0), (.int 0 0), (.int 0 0), (.int 3 0), (.ref 307), (.bool true), (.int 181 0), (.ref 308), .none, (.ref 309), (.ref 310), (.ref 311), (.int 566 0), (.int 122 0), (.str (S "/claim/cut.py") 567)])), (W [])⟩
def o312 (P : Params) : Obj := ⟨(.type "function"), none, (.func ⟨(S "forced"), (S "Hall.forced"), (defArgs (inClass (ST 26) 3)), (.stmts (defBody (inClass (ST 26) 3))), (defScope (inClass (ST 26) 3)), 3, [], .none, .none, .none, (.str (S "nearcall.halls") 419), none, (.ref 312), .none, 0⟩), (W [])⟩
def o313 (P : Params) : Obj := ⟨(.type "tuple"), none, (.seq (V []) 0), (W [])⟩
def o314 (P : Params) : Obj := ⟨.none, none, (.fields (V [])), (W [])⟩
def o315 (P : Params) : Obj := ⟨(.type "tuple"), none, (.seq (V [(.str (S "self") 572), (.str (S "one") 573), (.str (S "two") 574)]) 0), (W [])⟩
def o316 (P : Params) : Obj := ⟨(.type "tuple"), none, (.seq (V []) 0), (W [])⟩
def o317 (P : Params) : Obj := ⟨.none, none, (.func ⟨(S "forces"), (S "Hall.forces"), (defArgs (inClass (ST 26) 4)), (.stmts (defBody (inClass (ST 26) 4))), (defScope (inClass (ST 26) 4)), 0, [], .none, .none, .none, .none, none, .none, .none, 0⟩), (W [])⟩
def o318 (P : Params) : Obj := ⟨(.type "code"), none, (.fields (V [(.str (S "forces") 569), (.str (S "Hall.forces") 570), (.str (S "/claim/cut.py") 571), (.int 126 0), (.int 3 0), (.int 0 0), (.int 0 0), (.int 3 0), (.ref 314), (.bool true), (.int 181 0), (.ref 315), .none, (.ref 316), (.ref 317), (.ref 318), (.int 575 0), (.int 126 0), (.str (S "/claim/cut.py") 576)])), (W [])⟩
def o319 (P : Params) : Obj := ⟨(.type "function"), none, (.func ⟨(S "forces"), (S "Hall.forces"), (defArgs (inClass (ST 26) 4)), (.stmts (defBody (inClass (ST 26) 4))), (defScope (inClass (ST 26) 4)), 3, [], .none, .none, .none, (.str (S "nearcall.halls") 419), none, (.ref 319), .none, 0⟩), (W [])⟩
def o320 (P : Params) : Obj := ⟨(.type "tuple"), none, (.seq (V []) 0), (W [])⟩
def o321 (P : Params) : Obj := ⟨.none, none, (.fields (V [])), (W [])⟩
def o322 (P : Params) : Obj := ⟨(.type "tuple"), none, (.seq (V [(.str (S "self") 581), (.str (S "room") 582)]) 0), (W [])⟩
def o323 (P : Params) : Obj := ⟨(.type "tuple"), none, (.seq (V []) 0), (W [])⟩
def o324 (P : Params) : Obj := ⟨.none, none, (.func ⟨(S "is_room"), (S "Hall.is_room"), (defArgs (inClass (ST 26) 5)), (.stmts (defBody (inClass (ST 26) 5))), (defScope (inClass (ST 26) 5)), 0, [], .none, .none, .none, .none, none, .none, .none, 0⟩), (W [])⟩
def o325 (P : Params) : Obj := ⟨(.type "code"), none, (.fields (V [(.str (S "is_room") 578), (.str (S "Hall.is_room") 579), (.str (S "/claim/cut.py") 580), (.int 131 0), (.int 2 0), (.int 0 0), (.int 0 0), (.int 3 0), (.ref 321), (.bool true), (.int 181 0), (.ref 322), .none, (.ref 323), (.ref 324), (.ref 325), (.int 583 0), (.int 131 0), (.str (S "/claim/cut.py") 584)])), (W [])⟩
def o326 (P : Params) : Obj := ⟨(.type "function"), none, (.func ⟨(S "is_room"), (S "Hall.is_room"), (defArgs (inClass (ST 26) 5)), (.stmts (defBody (inClass (ST 26) 5))), (defScope (inClass (ST 26) 5)), 3, [], .none, .none, .none, (.str (S "nearcall.halls") 419), none, (.ref 326), .none, 0⟩), (W [])⟩
def o327 (P : Params) : Obj := ⟨(.type "tuple"), none, (.seq (V []) 0), (W [])⟩
def o328 (P : Params) : Obj := ⟨.none, none, (.fields (V [])), (W [])⟩
def o329 (P : Params) : Obj := ⟨.none, none, (.func ⟨(S "rooms"), (S "Hall.rooms"), (defArgs (inClass (ST 26) 6)), (.stmts (defBody (inClass (ST 26) 6))), (defScope (inClass (ST 26) 6)), 0, [], .none, .none, .none, .none, none, .none, .none, 0⟩), (W [])⟩
def o330 (P : Params) : Obj := ⟨(.type "code"), none, (.fields (V [(.str (S "rooms") 586), (.str (S "Hall.rooms") 587), (.str (S "/claim/cut.py") 588), (.int 134 0), (.int 1 0), (.int 0 0), (.int 0 0), (.int 3 0), (.ref 328), (.bool true), (.int 181 0), (.ref 329), .none, .none, .none, (.ref 330), (.int 589 0), (.int 134 0), (.str (S "/claim/cut.py") 590)])), (W [])⟩
def o331 (P : Params) : Obj := ⟨(.type "function"), none, (.func ⟨(S "rooms"), (S "Hall.rooms"), (defArgs (inClass (ST 26) 6)), (.stmts (defBody (inClass (ST 26) 6))), (defScope (inClass (ST 26) 6)), 3, [], .none, .none, .none, (.str (S "nearcall.halls") 419), none, (.ref 331), .none, 0⟩), (W [])⟩
def o332 (P : Params) : Obj := ⟨(.type "tuple"), none, (.seq (V []) 0), (W [])⟩
def o333 (P : Params) : Obj := ⟨.none, none, (.fields (V [])), (W [])⟩
def o334 (P : Params) : Obj := ⟨.none, none, (.func ⟨(S "goes_with"), (S "Hall.goes_with"), (defArgs (inClass (ST 26) 7)), (.stmts (defBody (inClass (ST 26) 7))), (defScope (inClass (ST 26) 7)), 0, [], .none, .none, .none, .none, none, .none, .none, 0⟩), (W [])⟩
def o335 (P : Params) : Obj := ⟨(.type "code"), none, (.fields (V [(.str (S "goes_with") 592), (.str (S "Hall.goes_with") 593), (.str (S "/claim/cut.py") 594), (.int 140 0), (.int 3 0), (.int 0 0), (.int 0 0), (.int 3 0), (.ref 333), (.bool true), (.int 181 0), (.ref 334), .none, .none, .none, (.ref 335), (.int 595 0), (.int 140 0), (.str (S "/claim/cut.py") 596)])), (W [])⟩
def o336 (P : Params) : Obj := ⟨(.type "function"), none, (.func ⟨(S "goes_with"), (S "Hall.goes_with"), (defArgs (inClass (ST 26) 7)), (.stmts (defBody (inClass (ST 26) 7))), (defScope (inClass (ST 26) 7)), 3, [], .none, .none, .none, (.str (S "nearcall.halls") 419), none, (.ref 336), .none, 0⟩), (W [])⟩
def o337 (P : Params) : Obj := ⟨(.type "tuple"), none, (.seq (V []) 0), (W [])⟩
def o338 (P : Params) : Obj := ⟨.none, none, (.fields (V [])), (W [])⟩
def o339 (P : Params) : Obj := ⟨(.type "tuple"), none, (.seq (V [(.str (S "self") 601), (.str (S "room") 602)]) 0), (W [])⟩
def o340 (P : Params) : Obj := ⟨(.type "tuple"), none, (.seq (V []) 0), (W [])⟩
def o341 (P : Params) : Obj := ⟨.none, none, (.func ⟨(S "doors"), (S "Hall.doors"), (defArgs (inClass (ST 26) 8)), (.stmts (defBody (inClass (ST 26) 8))), (defScope (inClass (ST 26) 5)), 0, [], .none, .none, .none, .none, none, .none, .none, 0⟩), (W [])⟩
def o342 (P : Params) : Obj := ⟨(.type "code"), none, (.fields (V [(.str (S "doors") 598), (.str (S "Hall.doors") 599), (.str (S "/claim/cut.py") 600), (.int 144 0), (.int 2 0), (.int 0 0), (.int 0 0), (.int 3 0), (.ref 338), (.bool true), (.int 181 0), (.ref 339), .none, (.ref 340), (.ref 341), (.ref 342), (.int 603 0), (.int 144 0), (.str (S "/claim/cut.py") 604)])), (W [])⟩
def o343 (P : Params) : Obj := ⟨(.type "function"), none, (.func ⟨(S "doors"), (S "Hall.doors"), (defArgs (inClass (ST 26) 8)), (.stmts (defBody (inClass (ST 26) 8))), (defScope (inClass (ST 26) 5)), 3, [], .none, .none, .none, (.str (S "nearcall.halls") 419), none, (.ref 343), .none, 0⟩), (W [])⟩
def o344 (P : Params) : Obj := ⟨(.type "tuple"), none, (.seq (V []) 0), (W [])⟩
def o345 (P : Params) : Obj := ⟨.none, none, (.fields (V [])), (W [])⟩
def o346 (P : Params) : Obj := ⟨(.type "tuple"), none, (.seq (V [(.str (S "self") 609), (.str (S "room") 610), (.str (S "goal") 611)]) 0), (W [])⟩
def o347 (P : Params) : Obj := ⟨(.type "tuple"), none, (.seq (V []) 0), (W [])⟩
def o348 (P : Params) : Obj := ⟨.none, none, (.func ⟨(S "steps"), (S "Hall.steps"), (defArgs (inClass (ST 26) 9)), (.stmts (defBody (inClass (ST 26) 9))), (defScope (inClass (ST 26) 9)), 0, [], .none, .none, .none, .none, none, .none, .none, 0⟩), (W [])⟩
def o349 (P : Params) : Obj := ⟨(.type "code"), none, (.fields (V [(.str (S "steps") 606), (.str (S "Hall.steps") 607), (.str (S "/claim/cut.py") 608), (.int 147 0), (.int 3 0), (.int 0 0), (.int 0 0), (.int 3 0), (.ref 345), (.bool true), (.int 181 0), (.ref 346), .none, (.ref 347), (.ref 348), (.ref 349), (.int 612 0), (.int 147 0), (.str (S "/claim/cut.py") 613)])), (W [])⟩
def o350 (P : Params) : Obj := ⟨(.type "function"), none, (.func ⟨(S "steps"), (S "Hall.steps"), (defArgs (inClass (ST 26) 9)), (.stmts (defBody (inClass (ST 26) 9))), (defScope (inClass (ST 26) 9)), 3, [], .none, .none, .none, (.str (S "nearcall.halls") 419), none, (.ref 350), .none, 0⟩), (W [])⟩
def o351 (P : Params) : Obj := ⟨(.type "tuple"), none, (.seq (V []) 0), (W [])⟩
def o352 (P : Params) : Obj := ⟨.none, none, (.fields (V [])), (W [])⟩
def o353 (P : Params) : Obj := ⟨(.type "tuple"), none, (.seq (V [(.str (S "self") 618), (.str (S "room") 619), (.str (S "goal") 620)]) 0), (W [])⟩
def o354 (P : Params) : Obj := ⟨(.type "tuple"), none, (.seq (V []) 0), (W [])⟩
def o355 (P : Params) : Obj := ⟨.none, none, (.func ⟨(S "way"), (S "Hall.way"), (defArgs (inClass (ST 26) 10)), (.stmts (defBody (inClass (ST 26) 10))), (defScope (inClass (ST 26) 9)), 0, [], .none, .none, .none, .none, none, .none, .none, 0⟩), (W [])⟩
def o356 (P : Params) : Obj := ⟨(.type "code"), none, (.fields (V [(.str (S "way") 615), (.str (S "Hall.way") 616), (.str (S "/claim/cut.py") 617), (.int 150 0), (.int 3 0), (.int 0 0), (.int 0 0), (.int 3 0), (.ref 352), (.bool true), (.int 181 0), (.ref 353), .none, (.ref 354), (.ref 355), (.ref 356), (.int 621 0), (.int 150 0), (.str (S "/claim/cut.py") 622)])), (W [])⟩
def o357 (P : Params) : Obj := ⟨(.type "function"), none, (.func ⟨(S "way"), (S "Hall.way"), (defArgs (inClass (ST 26) 10)), (.stmts (defBody (inClass (ST 26) 10))), (defScope (inClass (ST 26) 9)), 3, [], .none, .none, .none, (.str (S "nearcall.halls") 419), none, (.ref 357), .none, 0⟩), (W [])⟩
def o358 (P : Params) : Obj := ⟨(.type "tuple"), none, (.seq (V []) 0), (W [])⟩
def o359 (P : Params) : Obj := ⟨.none, none, (.fields (V [])), (W [])⟩
def o360 (P : Params) : Obj := ⟨(.type "tuple"), none, (.seq (V [(.str (S "self") 627), (.str (S "room") 628), (.str (S "goal") 629)]) 0), (W [])⟩
def o361 (P : Params) : Obj := ⟨(.type "tuple"), none, (.seq (V []) 0), (W [])⟩
def o362 (P : Params) : Obj := ⟨.none, none, (.func ⟨(S "nearer"), (S "Hall.nearer"), (defArgs (inClass (ST 26) 11)), (.stmts (defBody (inClass (ST 26) 11))), (defScope (inClass (ST 26) 9)), 0, [], .none, .none, .none, .none, none, .none, .none, 0⟩), (W [])⟩
def o363 (P : Params) : Obj := ⟨(.type "code"), none, (.fields (V [(.str (S "nearer") 624), (.str (S "Hall.nearer") 625), (.str (S "/claim/cut.py") 626), (.int 153 0), (.int 3 0), (.int 0 0), (.int 0 0), (.int 3 0), (.ref 359), (.bool true), (.int 181 0), (.ref 360), .none, (.ref 361), (.ref 362), (.ref 363), (.int 630 0), (.int 153 0), (.str (S "/claim/cut.py") 631)])), (W [])⟩
def o364 (P : Params) : Obj := ⟨(.type "function"), none, (.func ⟨(S "nearer"), (S "Hall.nearer"), (defArgs (inClass (ST 26) 11)), (.stmts (defBody (inClass (ST 26) 11))), (defScope (inClass (ST 26) 9)), 3, [], .none, .none, .none, (.str (S "nearcall.halls") 419), none, (.ref 364), .none, 0⟩), (W [])⟩
def o365 (P : Params) : Obj := ⟨(.type "tuple"), none, (.seq (V []) 0), (W [])⟩
def o366 (P : Params) : Obj := ⟨.none, none, (.fields (V [])), (W [])⟩
def o367 (P : Params) : Obj := ⟨(.type "tuple"), none, (.seq (V [(.str (S "self") 636), (.str (S "thing") 637)]) 0), (W [])⟩
def o368 (P : Params) : Obj := ⟨(.type "tuple"), none, (.seq (V []) 0), (W [])⟩
def o369 (P : Params) : Obj := ⟨.none, none, (.func ⟨(S "__eq__"), (S "Hall.__eq__"), (defArgs (inClass (ST 26) 12)), (.stmts (defBody (inClass (ST 26) 12))), (defScope (inClass (ST 26) 12)), 0, [], .none, .none, .none, .none, none, .none, .none, 0⟩), (W [])⟩
def o370 (P : Params) : Obj := ⟨(.type "code"), none, (.fields (V [(.str (S "__eq__") 633), (.str (S "Hall.__eq__") 634), (.str (S "/claim/cut.py") 635), (.int 156 0), (.int 2 0), (.int 0 0), (.int 0 0), (.int 3 0), (.ref 366), (.bool true), (.int 181 0), (.ref 367), .none, (.ref 368), (.ref 369), (.ref 370), (.int 638 0), (.int 156 0), (.str (S "/claim/cut.py") 639)])), (W [])⟩
def o371 (P : Params) : Obj := ⟨(.type "function"), none, (.func ⟨(S "__eq__"), (S "Hall.__eq__"), (defArgs (inClass (ST 26) 12)), (.stmts (defBody (inClass (ST 26) 12))), (defScope (inClass (ST 26) 12)), 3, [], .none, .none, .none, (.str (S "nearcall.halls") 419), none, (.ref 371), .none, 0⟩), (W [])⟩
def o372 (P : Params) : Obj := ⟨(.type "tuple"), none, (.seq (V []) 0), (W [])⟩
def o373 (P : Params) : Obj := ⟨.none, none, (.fields (V [])), (W [])⟩
def o374 (P : Params) : Obj := ⟨(.type "tuple"), none, (.seq (V [(.str (S "self") 644)]) 0), (W [])⟩
def o375 (P : Params) : Obj := ⟨(.type "tuple"), none, (.seq (V []) 0), (W [])⟩
def o376 (P : Params) : Obj := ⟨.none, none, (.func ⟨(S "__len__"), (S "Hall.__len__"), (defArgs (inClass (ST 26) 13)), (.stmts (defBody (inClass (ST 26) 13))), (defScope (inClass (ST 26) 13)), 0, [], .none, .none, .none, .none, none, .none, .none, 0⟩), (W [])⟩
def o377 (P : Params) : Obj := ⟨(.type "code"), none, (.fields (V [(.str (S "__len__") 641), (.str (S "Hall.__len__") 642), (.str (S "/claim/cut.py") 643), (.int 159 0), (.int 1 0), (.int 0 0), (.int 0 0), (.int 3 0), (.ref 373), (.bool true), (.int 181 0), (.ref 374), .none, (.ref 375), (.ref 376), (.ref 377), (.int 645 0), (.int 159 0), (.str (S "/claim/cut.py") 646)])), (W [])⟩
def o378 (P : Params) : Obj := ⟨(.type "function"), none, (.func ⟨(S "__len__"), (S "Hall.__len__"), (defArgs (inClass (ST 26) 13)), (.stmts (defBody (inClass (ST 26) 13))), (defScope (inClass (ST 26) 13)), 3, [], .none, .none, .none, (.str (S "nearcall.halls") 419), none, (.ref 378), .none, 0⟩), (W [])⟩
def o379 (P : Params) : Obj := ⟨(.type "tuple"), none, (.seq (V []) 0), (W [])⟩
def o380 (P : Params) : Obj := ⟨.none, none, (.fields (V [])), (W [])⟩
def o381 (P : Params) : Obj := ⟨(.type "tuple"), none, (.seq (V [(.str (S "self") 651)]) 0), (W [])⟩
def o382 (P : Params) : Obj := ⟨(.type "tuple"), none, (.seq (V []) 0), (W [])⟩
def o383 (P : Params) : Obj := ⟨.none, none, (.func ⟨(S "__str__"), (S "Hall.__str__"), (defArgs (inClass (ST 26) 14)), (.stmts (defBody (inClass (ST 26) 14))), (defScope (inClass (ST 26) 1)), 0, [], .none, .none, .none, .none, none, .none, .none, 0⟩), (W [])⟩
def o384 (P : Params) : Obj := ⟨(.type "code"), none, (.fields (V [(.str (S "__str__") 648), (.str (S "Hall.__str__") 649), (.str (S "/claim/cut.py") 650), (.int 162 0), (.int 1 0), (.int 0 0), (.int 0 0), (.int 3 0), (.ref 380), (.bool true), (.int 181 0), (.ref 381), .none, (.ref 382), (.ref 383), (.ref 384), (.int 652 0), (.int 162 0), (.str (S "/claim/cut.py") 653)])), (W [])⟩
def o385 (P : Params) : Obj := ⟨(.type "function"), none, (.func ⟨(S "__str__"), (S "Hall.__str__"), (defArgs (inClass (ST 26) 14)), (.stmts (defBody (inClass (ST 26) 14))), (defScope (inClass (ST 26) 1)), 3, [], .none, .none, .none, (.str (S "nearcall.halls") 419), none, (.ref 385), .none, 0⟩), (W [])⟩
def o386 (P : Params) : Obj := ⟨(.type "tuple"), none, (.seq (V []) 0), (W [])⟩
def o387 (P : Params) : Obj := ⟨.none, none, (.fields (V [])), (W [])⟩
def o388 (P : Params) : Obj := ⟨(.type "tuple"), none, (.seq (V [(.str (S "self") 658)]) 0), (W [])⟩
def o389 (P : Params) : Obj := ⟨(.type "tuple"), none, (.seq (V []) 0), (W [])⟩
def o390 (P : Params) : Obj := ⟨.none, none, (.func ⟨(S "__repr__"), (S "Hall.__repr__"), (defArgs (inClass (ST 26) 15)), (.stmts (defBody (inClass (ST 26) 15))), (defScope (inClass (ST 26) 13)), 0, [], .none, .none, .none, .none, none, .none, .none, 0⟩), (W [])⟩
def o391 (P : Params) : Obj := ⟨(.type "code"), none, (.fields (V [(.str (S "__repr__") 655), (.str (S "Hall.__repr__") 656), (.str (S "/claim/cut.py") 657), (.int 165 0), (.int 1 0), (.int 0 0), (.int 0 0), (.int 3 0), (.ref 387), (.bool true), (.int 181 0), (.ref 388), .none, (.ref 389), (.ref 390), (.ref 391), (.int 659 0), (.int 165 0), (.str (S "/claim/cut.py") 660)])), (W [])⟩
def o392 (P : Params) : Obj := ⟨(.type "function"), none, (.func ⟨(S "__repr__"), (S "Hall.__repr__"), (defArgs (inClass (ST 26) 15)), (.stmts (defBody (inClass (ST 26) 15))), (defScope (inClass (ST 26) 13)), 3, [], .none, .none, .none, (.str (S "nearcall.halls") 419), none, (.ref 392), .none, 0⟩), (W [])⟩
def o393 (P : Params) : Obj := ⟨(.type "tuple"), none, (.seq (V [(.str (S "bar_list") 662), (.str (S "forced_by") 663), (.str (S "wall_text") 664)]) 0), (W [])⟩
def o394 (P : Params) : Obj := ⟨(.type "dict"), none, (.dict (D [E P (S "__module__") 532 (.str (S "nearcall.halls") 419), E P (S "__firstlineno__") 536 (.int 104 535), E P (S "__init__") 546 (.ref 292), E P (S "walls") 553 (.ref 299), E P (S "bars") 560 (.ref 306), E P (S "forced") 568 (.ref 313), E P (S "forces") 577 (.ref 320), E P (S "is_room") 585 (.ref 327), E P (S "rooms") 591 (.ref 332), E P (S "goes_with") 597 (.ref 337), E P (S "doors") 605 (.ref 344), E P (S "steps") 614 (.ref 351), E P (S "way") 623 (.ref 358), E P (S "nearer") 632 (.ref 365), E P (S "__eq__") 640 (.ref 372), E P (S "__len__") 647 (.ref 379), E P (S "__str__") 654 (.ref 386), E P (S "__repr__") 661 (.ref 393), E P (S "__static_attributes__") 665 (.ref 394), E P (S "__dict__") 667 (.ref 397), E P (S "__weakref__") 669 (.ref 398), E P (S "__doc__") 670 .none, E P (S "__hash__") 671 .none]) 5), (W [])⟩
def o395 (P : Params) : Obj := ⟨(.type "type"), none, (.cls ⟨(S "Hall"), [(.type "object")], [(.ref 396), (.type "object")], 395, (S "Hall"), true, [], [], false, none, false⟩), (W [none, none, (some (.str (S "Hall") 525)), (some (.str (S "Hall") 533)), (some (.builtin "object.__new__")), (some (.bool true))])⟩
def o396 (P : Params) : Obj := ⟨(.type "getset_descriptor"), none, (.fields (V [(.str (S "__dict__") 666), (.ref 396), (.builtin "function.__dict__"), (.builtin "function.__dict__#set")])), (W [])⟩
def o397 (P : Params) : Obj := ⟨(.type "getset_descriptor"), none, (.fields (V [(.str (S "__weakref__") 668), (.ref 396), (.builtin "ExceptionGroup.__weakref__"), .none])), (W [])⟩
def o398 (P : Params) : Obj := ⟨(.type "super"), none, (.fields (V [(.ref 396), (.ref 396), (.ref 396)])), (W [])⟩
def o399 (P : Params) : Obj := ⟨(.type "builtin_function_or_method"), none, (.fields (V [(.builtin "object.__init_subclass__"), (.ref 396)])), (W [])⟩
def o400 (P : Params) : Obj := ⟨(.type "tuple"), none, (.seq (V []) 0), (W [])⟩
def o401 (P : Params) : Obj := ⟨.none, none, (.fields (V [])), (W [])⟩
def o402 (P : Params) : Obj := ⟨(.type "tuple"), none, (.seq (V [(.str (S "hall") 679), (.str (S "part") 680), (.str (S "walls") 681), (.str (S "ahead") 682), (.str (S "wall") 683)]) 0), (W [])⟩
def o403 (P : Params) : Obj := ⟨(.type "tuple"), none, (.seq (V []) 0), (W [])⟩
def o404 (P : Params) : Obj := ⟨.none, none, (.func ⟨(S "is_part"), (S "is_part"), (defArgs (ST 28)), (.stmts (defBody (ST 28))), (defScope (ST 28)), 0, [], .none, .none, .none, .none, none, .none, .none, 0⟩), (W [])⟩
def o405 (P : Params) : Obj := ⟨(.type "code"), none, (.fields (V [(.str (S "is_part") 676), (.str (S "is_part") 677), (.str (S "/claim/cut.py") 678), (.int 168 0), (.int 2 0), (.int 0 0), (.int 0 0), (.int 3 0), (.ref 401), (.bool true), (.int 181 0), (.ref 402), .none, (.ref 403), (.ref 404), (.ref 405), (.int 684 0), (.int 168 0), (.str (S "/claim/cut.py") 685)])), (W [])⟩
def o406 (P : Params) : Obj := ⟨(.type "function"), none, (.func ⟨(S "is_part"), (S "is_part"), (defArgs (ST 28)), (.stmts (defBody (ST 28))), (defScope (ST 28)), 3, [], .none, .none, .none, (.str (S "nearcall.parts") 674), none, (.ref 406), .none, 0⟩), (W [])⟩
def o407 (P : Params) : Obj := ⟨(.type "tuple"), none, (.seq (V []) 0), (W [])⟩
def o408 (P : Params) : Obj := ⟨.none, none, (.fields (V [])), (W [])⟩
def o409 (P : Params) : Obj := ⟨(.type "tuple"), none, (.seq (V [(.str (S "hall") 690), (.str (S "part") 691)]) 0), (W [])⟩
def o410 (P : Params) : Obj := ⟨(.type "tuple"), none, (.seq (V []) 0), (W [])⟩
def o411 (P : Params) : Obj := ⟨.none, none, (.func ⟨(S "check_part"), (S "check_part"), (defArgs (ST 29)), (.stmts (defBody (ST 29))), (defScope (ST 29)), 0, [], .none, .none, .none, .none, none, .none, .none, 0⟩), (W [])⟩
def o412 (P : Params) : Obj := ⟨(.type "code"), none, (.fields (V [(.str (S "check_part") 687), (.str (S "check_part") 688), (.str (S "/claim/cut.py") 689), (.int 176 0), (.int 2 0), (.int 0 0), (.int 0 0), (.int 3 0), (.ref 408), (.bool true), (.int 181 0), (.ref 409), .none, (.ref 410), (.ref 411), (.ref 412), (.int 692 0), (.int 176 0), (.str (S "/claim/cut.py") 693)])), (W [])⟩
def o413 (P : Params) : Obj := ⟨(.type "function"), none, (.func ⟨(S "check_part"), (S "check_part"), (defArgs (ST 29)), (.stmts (defBody (ST 29))), (defScope (ST 29)), 3, [], .none, .none, .none, (.str (S "nearcall.parts") 674), none, (.ref 413), .none, 0⟩), (W [])⟩
def o414 (P : Params) : Obj := ⟨(.type "tuple"), none, (.seq (V []) 0), (W [])⟩
def o415 (P : Params) : Obj := ⟨.none, none, (.fields (V [])), (W [])⟩
def o416 (P : Params) : Obj := ⟨.none, none, (.func ⟨(S "all_forced_by"), (S "all_forced_by"), (defArgs (ST 30)), (.stmts (defBody (ST 30))), (defScope (ST 30)), 0, [], .none, .none, .none, .none, none, .none, .none, 0⟩), (W [])⟩
def o417 (P : Params) : Obj := ⟨(.type "code"), none, (.fields (V [(.str (S "all_forced_by") 695), (.str (S "all_forced_by") 696), (.str (S "/claim/cut.py") 697), (.int 179 0), (.int 2 0), (.int 0 0), (.int 0 0), (.int 3 0), (.ref 415), (.bool true), (.int 181 0), (.ref 416), .none, .none, .none, (.ref 417), (.int 698 0), (.int 179 0), (.str (S "/claim/cut.py") 699)])), (W [])⟩
def o418 (P : Params) : Obj := ⟨(.type "function"), none, (.func ⟨(S "all_forced_by"), (S "all_forced_by"), (defArgs (ST 30)), (.stmts (defBody (ST 30))), (defScope (ST 30)), 3, [], .none, .none, .none, (.str (S "nearcall.parts") 674), none, (.ref 418), .none, 0⟩), (W [])⟩
def o419 (P : Params) : Obj := ⟨(.type "tuple"), none, (.seq (V []) 0), (W [])⟩
def o420 (P : Params) : Obj := ⟨.none, none, (.fields (V [])), (W [])⟩
def o421 (P : Params) : Obj := ⟨.none, none, (.func ⟨(S "torn_walls"), (S "torn_walls"), (defArgs (ST 31)), (.stmts (defBody (ST 31))), (defScope (ST 31)), 0, [], .none, .none, .none, .none, none, .none, .none, 0⟩), (W [])⟩
def o422 (P : Params) : Obj := ⟨(.type "code"), none, (.fields (V [(.str (S "torn_walls") 701), (.str (S "torn_walls") 702), (.str (S "/claim/cut.py") 703), (.int 181 0), (.int 2 0), (.int 0 0), (.int 0 0), (.int 3 0), (.ref 420), (.bool true), (.int 181 0), (.ref 421), .none, .none, .none, (.ref 422), (.int 704 0), (.int 181 0), (.str (S "/claim/cut.py") 705)])), (W [])⟩
def o423 (P : Params) : Obj := ⟨(.type "function"), none, (.func ⟨(S "torn_walls"), (S "torn_walls"), (defArgs (ST 31)), (.stmts (defBody (ST 31))), (defScope (ST 31)), 3, [], .none, .none, .none, (.str (S "nearcall.parts") 674), none, (.ref 423), .none, 0⟩), (W [])⟩
def o424 (P : Params) : Obj := ⟨(.type "tuple"), none, (.seq (V []) 0), (W [])⟩
def o425 (P : Params) : Obj := ⟨.none, none, (.fields (V [])), (W [])⟩
def o426 (P : Params) : Obj := ⟨(.type "tuple"), none, (.seq (V [(.str (S "hall") 710), (.str (S "part") 711), (.str (S "torn") 712)]) 0), (W [])⟩
def o427 (P : Params) : Obj := ⟨(.type "tuple"), none, (.seq (V []) 0), (W [])⟩
def o428 (P : Params) : Obj := ⟨.none, none, (.func ⟨(S "shut"), (S "shut"), (defArgs (ST 32)), (.stmts (defBody (ST 32))), (defScope (ST 32)), 0, [], .none, .none, .none, .none, none, .none, .none, 0⟩), (W [])⟩
def o429 (P : Params) : Obj := ⟨(.type "code"), none, (.fields (V [(.str (S "shut") 707), (.str (S "shut") 708), (.str (S "/claim/cut.py") 709), (.int 184 0), (.int 2 0), (.int 0 0), (.int 0 0), (.int 3 0), (.ref 425), (.bool true), (.int 181 0), (.ref 426), .none, (.ref 427), (.ref 428), (.ref 429), (.int 713 0), (.int 184 0), (.str (S "/claim/cut.py") 714)])), (W [])⟩
def o430 (P : Params) : Obj := ⟨(.type "function"), none, (.func ⟨(S "shut"), (S "shut"), (defArgs (ST 32)), (.stmts (defBody (ST 32))), (defScope (ST 32)), 3, [], .none, .none, .none, (.str (S "nearcall.parts") 674), none, (.ref 430), .none, 0⟩), (W [])⟩
def o431 (P : Params) : Obj := ⟨(.type "tuple"), none, (.seq (V []) 0), (W [])⟩
def o432 (P : Params) : Obj := ⟨.none, none, (.fields (V [])), (W [])⟩
def o433 (P : Params) : Obj := ⟨.none, none, (.func ⟨(S "shut_calls"), (S "shut_calls"), (defArgs (ST 34)), (.stmts (defBody (ST 34))), (defScope (ST 34)), 0, [], .none, .none, .none, .none, none, .none, .none, 0⟩), (W [])⟩
def o434 (P : Params) : Obj := ⟨(.type "code"), none, (.fields (V [(.str (S "shut_calls") 718), (.str (S "shut_calls") 719), (.str (S "/claim/cut.py") 720), (.int 191 0), (.int 3 0), (.int 0 0), (.int 0 0), (.int 3 0), (.ref 432), (.bool true), (.int 181 0), (.ref 433), .none, .none, .none, (.ref 434), (.int 721 0), (.int 191 0), (.str (S "/claim/cut.py") 722)])), (W [])⟩
def o435 (P : Params) : Obj := ⟨(.type "function"), none, (.func ⟨(S "shut_calls"), (S "shut_calls"), (defArgs (ST 34)), (.stmts (defBody (ST 34))), (defScope (ST 34)), 3, [], .none, .none, .none, (.str (S "nearcall.calls") 716), none, (.ref 435), .none, 0⟩), (W [])⟩
def o436 (P : Params) : Obj := ⟨(.type "tuple"), none, (.seq (V []) 0), (W [])⟩
def o437 (P : Params) : Obj := ⟨.none, none, (.fields (V [])), (W [])⟩
def o438 (P : Params) : Obj := ⟨.none, none, (.func ⟨(S "walls_written"), (S "walls_written"), (defArgs (ST 35)), (.stmts (defBody (ST 35))), (defScope (ST 35)), 0, [], .none, .none, .none, .none, none, .none, .none, 0⟩), (W [])⟩
def o439 (P : Params) : Obj := ⟨(.type "code"), none, (.fields (V [(.str (S "walls_written") 724), (.str (S "walls_written") 725), (.str (S "/claim/cut.py") 726), (.int 195 0), (.int 2 0), (.int 0 0), (.int 0 0), (.int 3 0), (.ref 437), (.bool true), (.int 181 0), (.ref 438), .none, .none, .none, (.ref 439), (.int 727 0), (.int 195 0), (.str (S "/claim/cut.py") 728)])), (W [])⟩
def o440 (P : Params) : Obj := ⟨(.type "function"), none, (.func ⟨(S "walls_written"), (S "walls_written"), (defArgs (ST 35)), (.stmts (defBody (ST 35))), (defScope (ST 35)), 3, [], .none, .none, .none, (.str (S "nearcall.calls") 716), none, (.ref 440), .none, 0⟩), (W [])⟩
def o441 (P : Params) : Obj := ⟨(.type "tuple"), none, (.seq (V []) 0), (W [])⟩
def o442 (P : Params) : Obj := ⟨.none, none, (.fields (V [])), (W [])⟩
def o443 (P : Params) : Obj := ⟨.none, none, (.func ⟨(S "longer_lists"), (S "longer_lists"), (defArgs (ST 38)), (.stmts (defBody (ST 38))), (defScope (ST 38)), 0, [], .none, .none, .none, .none, none, .none, .none, 0⟩), (W [])⟩
def o444 (P : Params) : Obj := ⟨(.type "code"), none, (.fields (V [(.str (S "longer_lists") 734), (.str (S "longer_lists") 735), (.str (S "/claim/cut.py") 736), (.int 200 0), (.int 2 0), (.int 0 0), (.int 0 0), (.int 3 0), (.ref 442), (.bool true), (.int 181 0), (.ref 443), .none, .none, .none, (.ref 444), (.int 737 0), (.int 200 0), (.str (S "/claim/cut.py") 738)])), (W [])⟩
def o445 (P : Params) : Obj := ⟨(.type "function"), none, (.func ⟨(S "longer_lists"), (S "longer_lists"), (defArgs (ST 38)), (.stmts (defBody (ST 38))), (defScope (ST 38)), 3, [], .none, .none, .none, (.str (S "nearcall.steering") 730), none, (.ref 445), .none, 0⟩), (W [])⟩
def o446 (P : Params) : Obj := ⟨(.type "tuple"), none, (.seq (V []) 0), (W [])⟩
def o447 (P : Params) : Obj := ⟨.none, none, (.fields (V [])), (W [])⟩
def o448 (P : Params) : Obj := ⟨.none, none, (.func ⟨(S "gather"), (S "gather"), (defArgs (ST 39)), (.stmts (defBody (ST 39))), (defScope (ST 39)), 0, [], .none, .none, .none, .none, none, .none, .none, 0⟩), (W [])⟩
def o449 (P : Params) : Obj := ⟨(.type "code"), none, (.fields (V [(.str (S "gather") 740), (.str (S "gather") 741), (.str (S "/claim/cut.py") 742), (.int 202 0), (.int 2 0), (.int 0 0), (.int 0 0), (.int 3 0), (.ref 447), (.bool true), (.int 181 0), (.ref 448), .none, .none, .none, (.ref 449), (.int 743 0), (.int 202 0), (.str (S "/claim/cut.py") 744)])), (W [])⟩
def o450 (P : Params) : Obj := ⟨(.type "function"), none, (.func ⟨(S "gather"), (S "gather"), (defArgs (ST 39)), (.stmts (defBody (ST 39))), (defScope (ST 39)), 3, [], .none, .none, .none, (.str (S "nearcall.steering") 730), none, (.ref 450), .none, 0⟩), (W [])⟩
def o451 (P : Params) : Obj := ⟨(.type "tuple"), none, (.seq (V []) 0), (W [])⟩
def o452 (P : Params) : Obj := ⟨.none, none, (.fields (V [])), (W [])⟩
def o453 (P : Params) : Obj := ⟨.none, none, (.func ⟨(S "_law_same"), (S "_law_same"), (defArgs (ST 41)), (.stmts (defBody (ST 41))), (defScope (ST 41)), 0, [], .none, .none, .none, .none, none, .none, .none, 0⟩), (W [])⟩
def o454 (P : Params) : Obj := ⟨(.type "code"), none, (.fields (V [(.str (S "_law_same") 748), (.str (S "_law_same") 749), (.str (S "/claim/cut.py") 750), (.int 212 0), (.int 2 0), (.int 0 0), (.int 0 0), (.int 3 0), (.ref 452), (.bool true), (.int 181 0), (.ref 453), .none, .none, .none, (.ref 454), (.int 751 0), (.int 212 0), (.str (S "/claim/cut.py") 752)])), (W [])⟩
def o455 (P : Params) : Obj := ⟨(.type "function"), none, (.func ⟨(S "_law_same"), (S "_law_same"), (defArgs (ST 41)), (.stmts (defBody (ST 41))), (defScope (ST 41)), 3, [], .none, .none, .none, (.str (S "law_nearcall_k37_fewest_that_gather") 746), none, (.ref 455), .none, 0⟩), (W [])⟩
def o456 (P : Params) : Obj := ⟨(.type "tuple"), none, (.seq (V []) 0), (W [])⟩
def o457 (P : Params) : Obj := ⟨.none, none, (.fields (V [])), (W [])⟩
def o458 (P : Params) : Obj := ⟨(.type "tuple"), none, (.seq (V [(.str (S "_law_script") 757), (.str (S "_law_seed") 758), (.str (S "_law_cell") 759)]) 0), (W [])⟩
def o459 (P : Params) : Obj := ⟨(.type "tuple"), none, (.seq (V []) 0), (W [])⟩
def o460 (P : Params) : Obj := ⟨.none, none, (.func ⟨(S "_law_start"), (S "_law_start"), (defArgs (ST 42)), (.stmts (defBody (ST 42))), (defScope (ST 42)), 0, [], .none, .none, .none, .none, none, .none, .none, 0⟩), (W [])⟩
def o461 (P : Params) : Obj := ⟨(.type "code"), none, (.fields (V [(.str (S "_law_start") 754), (.str (S "_law_start") 755), (.str (S "/claim/cut.py") 756), (.int 220 0), (.int 1 0), (.int 0 0), (.int 0 0), (.int 3 0), (.ref 457), (.bool true), (.int 181 0), (.ref 458), .none, (.ref 459), (.ref 460), (.ref 461), (.int 760 0), (.int 220 0), (.str (S "/claim/cut.py") 761)])), (W [])⟩
def o462 (P : Params) : Obj := ⟨(.type "function"), none, (.func ⟨(S "_law_start"), (S "_law_start"), (defArgs (ST 42)), (.stmts (defBody (ST 42))), (defScope (ST 42)), 3, [], .none, .none, .none, (.str (S "law_nearcall_k37_fewest_that_gather") 746), none, (.ref 462), .none, 0⟩), (W [])⟩
def o463 (P : Params) : Obj := ⟨(.type "tuple"), none, (.seq (V []) 0), (W [])⟩
def o464 (P : Params) : Obj := ⟨.none, none, (.fields (V [])), (W [])⟩
def o465 (P : Params) : Obj := ⟨(.type "tuple"), none, (.seq (V [(.str (S "_law_d") 766), (.str (S "_law_many") 767), (.str (S "_law_cell") 768), (.str (S "_law_digit") 769), (.str (S "_law_mix") 770)]) 0), (W [])⟩
def o466 (P : Params) : Obj := ⟨(.type "tuple"), none, (.seq (V []) 0), (W [])⟩
def o467 (P : Params) : Obj := ⟨.none, none, (.func ⟨(S "_law_draw"), (S "_law_draw"), (defArgs (ST 43)), (.stmts (defBody (ST 43))), (defScope (ST 43)), 0, [], .none, .none, .none, .none, none, .none, .none, 0⟩), (W [])⟩
def o468 (P : Params) : Obj := ⟨(.type "code"), none, (.fields (V [(.str (S "_law_draw") 763), (.str (S "_law_draw") 764), (.str (S "/claim/cut.py") 765), (.int 225 0), (.int 2 0), (.int 0 0), (.int 0 0), (.int 3 0), (.ref 464), (.bool true), (.int 181 0), (.ref 465), .none, (.ref 466), (.ref 467), (.ref 468), (.int 771 0), (.int 225 0), (.str (S "/claim/cut.py") 772)])), (W [])⟩
def o469 (P : Params) : Obj := ⟨(.type "function"), none, (.func ⟨(S "_law_draw"), (S "_law_draw"), (defArgs (ST 43)), (.stmts (defBody (ST 43))), (defScope (ST 43)), 3, [], .none, .none, .none, (.str (S "law_nearcall_k37_fewest_that_gather") 746), none, (.ref 469), .none, 0⟩), (W [])⟩
def objs_3 (P : Params) : List Obj :=
  [boot_o_0 P, boot_o_1 P, boot_o_2 P, o274 P, boot_o_4 P, boot_o_5 P, boot_o_6 P, boot_o_7 P, boot_o_8 P, boot_o_9 P, boot_o_10 P, o0 P, o275 P, o2 P, o3 P, o6 P, o7 P, o8 P, o9 P, o10 P, o11 P, o12 P, o13 P, o14 P, o15 P, o16 P, o17 P, o18 P, o19 P, o20 P, o21 P, o22 P, o23 P, o24 P, o25 P, o26 P, o27 P, o28 P, o171 P, o30 P] ++ (
  [o31 P, o32 P, o33 P, o34 P, o35 P, o36 P, o37 P, o38 P, o39 P, o40 P, o41 P, o42 P, o43 P, o44 P, o45 P, o46 P, o47 P, o48 P, o49 P, o50 P, o51 P, o52 P, o53 P, o54 P, o55 P, o56 P, o57 P, o58 P, o59 P, o60 P, o61 P, o62 P, o63 P, o64 P, o65 P, o66 P, o67 P, o68 P, o69 P, o70 P] ++ (
  [o71 P, o72 P, o73 P, o74 P, o75 P, o76 P, o77 P, o78 P, o79 P, o80 P, o81 P, o82 P, o83 P, o84 P, o85 P, o86 P, o87 P, o88 P, o89 P, o93 P, o94 P, o95 P, o96 P, o97 P, o98 P, o99 P, o100 P, o101 P, o102 P, o103 P, o104 P, o105 P, o106 P, o107 P, o108 P, o109 P, o110 P, o111 P, o112 P, o113 P] ++ (
  [o114 P, o115 P, o116 P, o117 P, o118 P, o119 P, o120 P, o121 P, o122 P, o123 P, o124 P, o125 P, o126 P, o127 P, o128 P, o129 P, o130 P, o131 P, o132 P, o133 P, o134 P, o135 P, o136 P, o137 P, o138 P, o139 P, o140 P, o141 P, o142 P, o143 P, o144 P, o145 P, o146 P, o147 P, o148 P, o149 P, o150 P, o151 P, o152 P, o153 P] ++ (
  [o154 P, o155 P, o156 P, o157 P, o158 P, o159 P, o160 P, o161 P, o162 P, o163 P, o164 P, o165 P, o166 P, o167 P, o168 P, o172 P, o173 P, o174 P, o175 P, o176 P, o177 P, o178 P, o179 P, o180 P, o181 P, o182 P, o183 P, o184 P, o185 P, o186 P, o187 P, o188 P, o189 P, o190 P, o191 P, o192 P, o193 P, o194 P, o195 P, o196 P] ++ (
  [o197 P, o198 P, o199 P, o200 P, o201 P, o202 P, o203 P, o204 P, o205 P, o206 P, o207 P, o208 P, o209 P, o210 P, o211 P, o212 P, o213 P, o214 P, o215 P, o216 P, o217 P, o218 P, o219 P, o220 P, o221 P, o222 P, o223 P, o224 P, o225 P, o226 P, o227 P, o228 P, o229 P, o230 P, o231 P, o232 P, o233 P, o234 P, o235 P, o236 P] ++ (
  [o237 P, o238 P, o239 P, o240 P, o241 P, o242 P, o243 P, o244 P, o245 P, o246 P, o247 P, o248 P, o249 P, o250 P, o251 P, o252 P, o253 P, o254 P, o255 P, o256 P, o257 P, o258 P, o259 P, o260 P, o261 P, o262 P, o263 P, o264 P, o265 P, o266 P, o267 P, o268 P, o269 P, o270 P, o271 P, o272 P, o273 P, o276 P, o277 P, o278 P] ++ (
  [o279 P, o280 P, o281 P, o282 P, o283 P, o284 P, o285 P, o286 P, o287 P, o288 P, o289 P, o290 P, o291 P, o292 P, o293 P, o294 P, o295 P, o296 P, o297 P, o298 P, o299 P, o300 P, o301 P, o302 P, o303 P, o304 P, o305 P, o306 P, o307 P, o308 P, o309 P, o310 P, o311 P, o312 P, o313 P, o314 P, o315 P, o316 P, o317 P, o318 P] ++ (
  [o319 P, o320 P, o321 P, o322 P, o323 P, o324 P, o325 P, o326 P, o327 P, o328 P, o329 P, o330 P, o331 P, o332 P, o333 P, o334 P, o335 P, o336 P, o337 P, o338 P, o339 P, o340 P, o341 P, o342 P, o343 P, o344 P, o345 P, o346 P, o347 P, o348 P, o349 P, o350 P, o351 P, o352 P, o353 P, o354 P, o355 P, o356 P, o357 P, o358 P] ++ (
  [o359 P, o360 P, o361 P, o362 P, o363 P, o364 P, o365 P, o366 P, o367 P, o368 P, o369 P, o370 P, o371 P, o372 P, o373 P, o374 P, o375 P, o376 P, o377 P, o378 P, o379 P, o380 P, o381 P, o382 P, o383 P, o384 P, o385 P, o386 P, o387 P, o388 P, o389 P, o390 P, o391 P, o392 P, o393 P, o394 P, o395 P, o396 P, o397 P, o398 P] ++ (
  [o399 P, o400 P, o401 P, o402 P, o403 P, o404 P, o405 P, o406 P, o407 P, o408 P, o409 P, o410 P, o411 P, o412 P, o413 P, o414 P, o415 P, o416 P, o417 P, o418 P, o419 P, o420 P, o421 P, o422 P, o423 P, o424 P, o425 P, o426 P, o427 P, o428 P, o429 P, o430 P, o431 P, o432 P, o433 P, o434 P, o435 P, o436 P, o437 P, o438 P] ++ (
  [o439 P, o440 P, o441 P, o442 P, o443 P, o444 P, o445 P, o446 P, o447 P, o448 P, o449 P, o450 P, o451 P, o452 P, o453 P, o454 P, o455 P, o456 P, o457 P, o458 P, o459 P, o460 P, o461 P, o462 P, o463 P, o464 P, o465 P, o466 P, o467 P, o468 P, o469 P])))))))))))
def o470 (P : Params) : Obj := ⟨(.type "dict"), none, (.dict (D [E P (S "__name__") 165 (.str (S "law_nearcall_k37_fewest_that_gather") 746), E P (S "__doc__") 166 .none, E P (S "__package__") 167 .none, E P (S "__loader__") 168 (.builtin "__main__.__loader__#opaque"), E P (S "__spec__") 169 .none, E P (S "__annotations__") 170 (.ref 6), E P (S "__builtins__") 171 (.ref 4), E P (S "__file__") 173 (.str (S "/claim/cut.py") 172), E P (S "__cached__") 174 .none, E P (S "_wall") 193 (.ref 21), E P (S "HallError") 222 (.ref 38), E P (S "BadWalls") 245 (.ref 58), E P (S "BadBar") 270 (.ref 77), E P (S "BadSide") 293 (.ref 96), E P (S "Fixed") 318 (.ref 115), E P (S "Alike") 345 (.ref 134), E P (S "BadPart") 368 (.ref 153), E P (S "Empty") 393 (.ref 172), E P (S "TooMany") 418 (.ref 191), E P (S "WIDEST") 422 (.int 12 421), E P (S "other") 429 (.ref 200), E P (S "sides_of") 436 (.ref 207), E P (S "by_walls") 442 (.ref 212), E P (S "is_walls") 448 (.ref 217), E P (S "is_bar") 457 (.ref 224), E P (S "check_walls") 464 (.ref 231), E P (S "check_bars") 474 (.ref 238), E P (S "check_side") 482 (.ref 245), E P (S "straight_from") 488 (.ref 250), E P (S "reached") 501 (.ref 257), E P (S "all_forced") 507 (.ref 262), E P (S "check_fixed") 515 (.ref 269), E P (S "check_alike") 524 (.ref 276), E P (S "Hall") 673 (.ref 396), E P (S "is_part") 686 (.ref 407), E P (S "check_part") 694 (.ref 414), E P (S "all_forced_by") 700 (.ref 419), E P (S "torn_walls") 706 (.ref 424), E P (S "shut") 715 (.ref 431), E P (S "shut_calls") 723 (.ref 436), E P (S "walls_written") 729 (.ref 441), E P (S "MOST_CALLS") 733 (.int 12 732), E P (S "longer_lists") 739 (.ref 446), E P (S "gather") 745 (.ref 451), E P (S "_law_same") 753 (.ref 456), E P (S "_law_start") 762 (.ref 463), E P (S "_law_draw") 773 (.ref 470), E P (S "_law_of") 781 (.ref 477), E P (S "_law_letters") 787 (.ref 484), E P (S "_law_shuts") 798 (.ref 491), E P (S "_law_other") 805 (.ref 498), E P (S "_law_within") 811 (.ref 503), E P (S "_law_pairs") 817 (.ref 508), E P (S "_law_all") 828 (.ref 515), E P (S "_law_rooms") 834 (.ref 520), E P (S "_law_fine") 840 (.ref 525), E P (S "_law_hall") 853 (.ref 532), E P (S "_law_image") 859 (.ref 537), E P (S "_law_by_shuts") 865 (.ref 542), E P (S "_law_sides") 877 (.ref 549), E P (S "_law_part") 883 (.ref 554), E P (S "_law_apart") 889 (.ref 559), E P (S "_law_near") 900 (.ref 566), E P (S "_law_led") 912 (.ref 573), E P (S "_law_map") 923 (.ref 580), E P (S "_law_calls") 929 (.ref 585), E P (S "_law_lists") 935 (.ref 590), E P (S "law") 941 (.ref 595)]) 68), (W [])⟩
def o471 (P : Params) : Obj := ⟨.none, none, (.fields (V [(.int 1 0), (.int 0 0), (.ref 20), (.int 5 0), (.int 0 0), (.ref 27), (.int 10 0), (.int 0 0), (.ref 47), (.int 14 0), (.int 0 0), (.ref 66), (.int 19 0), (.int 0 0), (.ref 85), (.int 23 0), (.int 0 0), (.ref 104), (.int 28 0), (.int 0 0), (.ref 123), (.int 34 0), (.int 0 0), (.ref 142), (.int 38 0), (.int 0 0), (.ref 161), (.int 43 0), (.int 0 0), (.ref 180), (.int 50 0), (.int 0 0), (.ref 199), (.int 52 0), (.int 0 0), (.ref 206), (.int 54 0), (.int 0 0), (.ref 211), (.int 56 0), (.int 0 0), (.ref 216), (.int 59 0), (.int 0 0), (.ref 223), (.int 64 0), (.int 0 0), (.ref 230), (.int 67 0), (.int 0 0), (.ref 237), (.int 71 0), (.int 0 0), (.ref 244), (.int 74 0), (.int 0 0), (.ref 249), (.int 80 0), (.int 0 0), (.ref 256), (.int 92 0), (.int 0 0), (.ref 261), (.int 95 0), (.int 0 0), (.ref 268), (.int 99 0), (.int 0 0), (.ref 275), (.int 104 0), (.int 0 0), (.ref 282), (.int 168 0), (.int 0 0), (.ref 406), (.int 176 0), (.int 0 0), (.ref 413), (.int 179 0), (.int 0 0), (.ref 418), (.int 181 0), (.int 0 0), (.ref 423), (.int 184 0), (.int 0 0), (.ref 430), (.int 191 0), (.int 0 0), (.ref 435), (.int 195 0), (.int 0 0), (.ref 440), (.int 200 0), (.int 0 0), (.ref 445), (.int 202 0), (.int 0 0), (.ref 450), (.int 212 0), (.int 0 0), (.ref 455), (.int 220 0), (.int 0 0), (.ref 462), (.int 225 0), (.int 0 0), (.ref 469), (.int 240 0), (.int 0 0), (.ref 476), (.int 242 0), (.int 0 0), (.ref 483), (.int 244 0), (.int 0 0), (.ref 490), (.int 251 0), (.int 0 0), (.ref 497), (.int 253 0), (.int 0 0), (.ref 502), (.int 255 0), (.int 0 0), (.ref 507), (.int 262 0), (.int 0 0), (.ref 514), (.int 270 0), (.int 0 0), (.ref 519), (.int 272 0), (.int 0 0), (.ref 524), (.int 282 0), (.int 0 0), (.ref 531), (.int 290 0), (.int 0 0), (.ref 536), (.int 296 0), (.int 0 0), (.ref 541), (.int 301 0), (.int 0 0), (.ref 548), (.int 309 0), (.int 0 0), (.ref 553), (.int 315 0), (.int 0 0), (.ref 558), (.int 317 0), (.int 0 0), (.ref 565), (.int 324 0), (.int 0 0), (.ref 572), (.int 331 0), (.int 0 0), (.ref 579), (.int 336 0), (.int 0 0), (.ref 584), (.int 338 0), (.int 0 0), (.ref 589), (.int 346 0), (.int 0 0), (.ref 594)])), (W [])⟩
def o472 (P : Params) : Obj := ⟨(.type "tuple"), none, (.seq (V []) 0), (W [])⟩
def o473 (P : Params) : Obj := ⟨.none, none, (.fields (V [])), (W [])⟩
def o474 (P : Params) : Obj := ⟨(.type "tuple"), none, (.seq (V [(.str (S "_law_d") 777), (.str (S "_law_some") 778)]) 0), (W [])⟩
def o475 (P : Params) : Obj := ⟨(.type "tuple"), none, (.seq (V []) 0), (W [])⟩
def o476 (P : Params) : Obj := ⟨.none, none, (.func ⟨(S "_law_of"), (S "_law_of"), (defArgs (ST 44)), (.stmts (defBody (ST 44))), (defScope (ST 44)), 0, [], .none, .none, .none, .none, none, .none, .none, 0⟩), (W [])⟩
def o477 (P : Params) : Obj := ⟨(.type "code"), none, (.fields (V [(.str (S "_law_of") 774), (.str (S "_law_of") 775), (.str (S "/claim/cut.py") 776), (.int 240 0), (.int 2 0), (.int 0 0), (.int 0 0), (.int 3 0), (.ref 471), (.bool true), (.int 181 0), (.ref 472), .none, (.ref 473), (.ref 474), (.ref 475), (.int 779 0), (.int 240 0), (.str (S "/claim/cut.py") 780)])), (W [])⟩
def o478 (P : Params) : Obj := ⟨(.type "function"), none, (.func ⟨(S "_law_of"), (S "_law_of"), (defArgs (ST 44)), (.stmts (defBody (ST 44))), (defScope (ST 44)), 3, [], .none, .none, .none, (.str (S "law_nearcall_k37_fewest_that_gather") 746), none, (.ref 476), .none, 0⟩), (W [])⟩
def o479 (P : Params) : Obj := ⟨(.type "tuple"), none, (.seq (V []) 0), (W [])⟩
def o480 (P : Params) : Obj := ⟨.none, none, (.fields (V [])), (W [])⟩
def o481 (P : Params) : Obj := ⟨(.type "tuple"), none, (.seq (V []) 0), (W [])⟩
def o482 (P : Params) : Obj := ⟨(.type "tuple"), none, (.seq (V []) 0), (W [])⟩
def o483 (P : Params) : Obj := ⟨.none, none, (.func ⟨(S "_law_letters"), (S "_law_letters"), (defArgs (ST 45)), (.stmts (defBody (ST 45))), (defScope (ST 45)), 0, [], .none, .none, .none, .none, none, .none, .none, 0⟩), (W [])⟩
def o484 (P : Params) : Obj := ⟨(.type "code"), none, (.fields (V [(.str (S "_law_letters") 782), (.str (S "_law_letters") 783), (.str (S "/claim/cut.py") 784), (.int 242 0), (.int 0 0), (.int 0 0), (.int 0 0), (.int 3 0), (.ref 478), (.bool true), (.int 181 0), (.ref 479), .none, (.ref 480), (.ref 481), (.ref 482), (.int 785 0), (.int 242 0), (.str (S "/claim/cut.py") 786)])), (W [])⟩
def o485 (P : Params) : Obj := ⟨(.type "function"), none, (.func ⟨(S "_law_letters"), (S "_law_letters"), (defArgs (ST 45)), (.stmts (defBody (ST 45))), (defScope (ST 45)), 3, [], .none, .none, .none, (.str (S "law_nearcall_k37_fewest_that_gather") 746), none, (.ref 483), .none, 0⟩), (W [])⟩
def o486 (P : Params) : Obj := ⟨(.type "tuple"), none, (.seq (V []) 0), (W [])⟩
def o487 (P : Params) : Obj := ⟨.none, none, (.fields (V [])), (W [])⟩
def o488 (P : Params) : Obj := ⟨(.type "tuple"), none, (.seq (V [(.str (S "_law_d") 791), (.str (S "_law_most") 792), (.str (S "_law_found") 793), (.str (S "_law_skip") 794), (.str (S "_law_sign") 795)]) 0), (W [])⟩
def o489 (P : Params) : Obj := ⟨(.type "tuple"), none, (.seq (V []) 0), (W [])⟩
def o490 (P : Params) : Obj := ⟨.none, none, (.func ⟨(S "_law_shuts"), (S "_law_shuts"), (defArgs (ST 46)), (.stmts (defBody (ST 46))), (defScope (ST 46)), 0, [], .none, .none, .none, .none, none, .none, .none, 0⟩), (W [])⟩
def o491 (P : Params) : Obj := ⟨(.type "code"), none, (.fields (V [(.str (S "_law_shuts") 788), (.str (S "_law_shuts") 789), (.str (S "/claim/cut.py") 790), (.int 244 0), (.int 2 0), (.int 0 0), (.int 0 0), (.int 3 0), (.ref 485), (.bool true), (.int 181 0), (.ref 486), .none, (.ref 487), (.ref 488), (.ref 489), (.int 796 0), (.int 244 0), (.str (S "/claim/cut.py") 797)])), (W [])⟩
def o492 (P : Params) : Obj := ⟨(.type "function"), none, (.func ⟨(S "_law_shuts"), (S "_law_shuts"), (defArgs (ST 46)), (.stmts (defBody (ST 46))), (defScope (ST 46)), 3, [], .none, .none, .none, (.str (S "law_nearcall_k37_fewest_that_gather") 746), none, (.ref 490), .none, 0⟩), (W [])⟩
def o493 (P : Params) : Obj := ⟨(.type "tuple"), none, (.seq (V []) 0), (W [])⟩
def o494 (P : Params) : Obj := ⟨.none, none, (.fields (V [])), (W [])⟩
def o495 (P : Params) : Obj := ⟨(.type "tuple"), none, (.seq (V [(.str (S "_law_side") 802)]) 0), (W [])⟩
def o496 (P : Params) : Obj := ⟨(.type "tuple"), none, (.seq (V []) 0), (W [])⟩
def o497 (P : Params) : Obj := ⟨.none, none, (.func ⟨(S "_law_other"), (S "_law_other"), (defArgs (ST 47)), (.stmts (defBody (ST 47))), (defScope (ST 47)), 0, [], .none, .none, .none, .none, none, .none, .none, 0⟩), (W [])⟩
def o498 (P : Params) : Obj := ⟨(.type "code"), none, (.fields (V [(.str (S "_law_other") 799), (.str (S "_law_other") 800), (.str (S "/claim/cut.py") 801), (.int 251 0), (.int 1 0), (.int 0 0), (.int 0 0), (.int 3 0), (.ref 492), (.bool true), (.int 181 0), (.ref 493), .none, (.ref 494), (.ref 495), (.ref 496), (.int 803 0), (.int 251 0), (.str (S "/claim/cut.py") 804)])), (W [])⟩
def o499 (P : Params) : Obj := ⟨(.type "function"), none, (.func ⟨(S "_law_other"), (S "_law_other"), (defArgs (ST 47)), (.stmts (defBody (ST 47))), (defScope (ST 47)), 3, [], .none, .none, .none, (.str (S "law_nearcall_k37_fewest_that_gather") 746), none, (.ref 497), .none, 0⟩), (W [])⟩
def o500 (P : Params) : Obj := ⟨(.type "tuple"), none, (.seq (V []) 0), (W [])⟩
def o501 (P : Params) : Obj := ⟨.none, none, (.fields (V [])), (W [])⟩
def o502 (P : Params) : Obj := ⟨.none, none, (.func ⟨(S "_law_within"), (S "_law_within"), (defArgs (ST 48)), (.stmts (defBody (ST 48))), (defScope (ST 48)), 0, [], .none, .none, .none, .none, none, .none, .none, 0⟩), (W [])⟩
def o503 (P : Params) : Obj := ⟨(.type "code"), none, (.fields (V [(.str (S "_law_within") 806), (.str (S "_law_within") 807), (.str (S "/claim/cut.py") 808), (.int 253 0), (.int 2 0), (.int 0 0), (.int 0 0), (.int 3 0), (.ref 499), (.bool true), (.int 181 0), (.ref 500), .none, .none, .none, (.ref 501), (.int 809 0), (.int 253 0), (.str (S "/claim/cut.py") 810)])), (W [])⟩
def o504 (P : Params) : Obj := ⟨(.type "function"), none, (.func ⟨(S "_law_within"), (S "_law_within"), (defArgs (ST 48)), (.stmts (defBody (ST 48))), (defScope (ST 48)), 3, [], .none, .none, .none, (.str (S "law_nearcall_k37_fewest_that_gather") 746), none, (.ref 502), .none, 0⟩), (W [])⟩
def o505 (P : Params) : Obj := ⟨(.type "tuple"), none, (.seq (V []) 0), (W [])⟩
def o506 (P : Params) : Obj := ⟨.none, none, (.fields (V [])), (W [])⟩
def o507 (P : Params) : Obj := ⟨.none, none, (.func ⟨(S "_law_pairs"), (S "_law_pairs"), (defArgs (ST 49)), (.stmts (defBody (ST 49))), (defScope (ST 49)), 0, [], .none, .none, .none, .none, none, .none, .none, 0⟩), (W [])⟩
def o508 (P : Params) : Obj := ⟨(.type "code"), none, (.fields (V [(.str (S "_law_pairs") 812), (.str (S "_law_pairs") 813), (.str (S "/claim/cut.py") 814), (.int 255 0), (.int 1 0), (.int 0 0), (.int 0 0), (.int 3 0), (.ref 504), (.bool true), (.int 181 0), (.ref 505), .none, .none, .none, (.ref 506), (.int 815 0), (.int 255 0), (.str (S "/claim/cut.py") 816)])), (W [])⟩
def o509 (P : Params) : Obj := ⟨(.type "function"), none, (.func ⟨(S "_law_pairs"), (S "_law_pairs"), (defArgs (ST 49)), (.stmts (defBody (ST 49))), (defScope (ST 49)), 3, [], .none, .none, .none, (.str (S "law_nearcall_k37_fewest_that_gather") 746), none, (.ref 507), .none, 0⟩), (W [])⟩
def o510 (P : Params) : Obj := ⟨(.type "tuple"), none, (.seq (V []) 0), (W [])⟩
def o511 (P : Params) : Obj := ⟨.none, none, (.fields (V [])), (W [])⟩
def o512 (P : Params) : Obj := ⟨(.type "tuple"), none, (.seq (V [(.str (S "_law_shuts_here") 821), (.str (S "_law_found") 822), (.str (S "_law_shut") 823), (.str (S "_law_longer") 824), (.str (S "_law_begun_it") 825)]) 0), (W [])⟩
def o513 (P : Params) : Obj := ⟨(.type "tuple"), none, (.seq (V []) 0), (W [])⟩
def o514 (P : Params) : Obj := ⟨.none, none, (.func ⟨(S "_law_all"), (S "_law_all"), (defArgs (ST 50)), (.stmts (defBody (ST 50))), (defScope (ST 50)), 0, [], .none, .none, .none, .none, none, .none, .none, 0⟩), (W [])⟩
def o515 (P : Params) : Obj := ⟨(.type "code"), none, (.fields (V [(.str (S "_law_all") 818), (.str (S "_law_all") 819), (.str (S "/claim/cut.py") 820), (.int 262 0), (.int 1 0), (.int 0 0), (.int 0 0), (.int 3 0), (.ref 509), (.bool true), (.int 181 0), (.ref 510), .none, (.ref 511), (.ref 512), (.ref 513), (.int 826 0), (.int 262 0), (.str (S "/claim/cut.py") 827)])), (W [])⟩
def o516 (P : Params) : Obj := ⟨(.type "function"), none, (.func ⟨(S "_law_all"), (S "_law_all"), (defArgs (ST 50)), (.stmts (defBody (ST 50))), (defScope (ST 50)), 3, [], .none, .none, .none, (.str (S "law_nearcall_k37_fewest_that_gather") 746), none, (.ref 514), .none, 0⟩), (W [])⟩
def o517 (P : Params) : Obj := ⟨(.type "tuple"), none, (.seq (V []) 0), (W [])⟩
def o518 (P : Params) : Obj := ⟨.none, none, (.fields (V [])), (W [])⟩
def o519 (P : Params) : Obj := ⟨.none, none, (.func ⟨(S "_law_rooms"), (S "_law_rooms"), (defArgs (ST 51)), (.stmts (defBody (ST 51))), (defScope (ST 51)), 0, [], .none, .none, .none, .none, none, .none, .none, 0⟩), (W [])⟩
def o520 (P : Params) : Obj := ⟨(.type "code"), none, (.fields (V [(.str (S "_law_rooms") 829), (.str (S "_law_rooms") 830), (.str (S "/claim/cut.py") 831), (.int 270 0), (.int 2 0), (.int 0 0), (.int 0 0), (.int 3 0), (.ref 516), (.bool true), (.int 181 0), (.ref 517), .none, .none, .none, (.ref 518), (.int 832 0), (.int 270 0), (.str (S "/claim/cut.py") 833)])), (W [])⟩
def o521 (P : Params) : Obj := ⟨(.type "function"), none, (.func ⟨(S "_law_rooms"), (S "_law_rooms"), (defArgs (ST 51)), (.stmts (defBody (ST 51))), (defScope (ST 51)), 3, [], .none, .none, .none, (.str (S "law_nearcall_k37_fewest_that_gather") 746), none, (.ref 519), .none, 0⟩), (W [])⟩
def o522 (P : Params) : Obj := ⟨(.type "tuple"), none, (.seq (V []) 0), (W [])⟩
def o523 (P : Params) : Obj := ⟨.none, none, (.fields (V [])), (W [])⟩
def o524 (P : Params) : Obj := ⟨.none, none, (.func ⟨(S "_law_fine"), (S "_law_fine"), (defArgs (ST 52)), (.stmts (defBody (ST 52))), (defScope (ST 52)), 0, [], .none, .none, .none, .none, none, .none, .none, 0⟩), (W [])⟩
def o525 (P : Params) : Obj := ⟨(.type "code"), none, (.fields (V [(.str (S "_law_fine") 835), (.str (S "_law_fine") 836), (.str (S "/claim/cut.py") 837), (.int 272 0), (.int 2 0), (.int 0 0), (.int 0 0), (.int 3 0), (.ref 521), (.bool true), (.int 181 0), (.ref 522), .none, .none, .none, (.ref 523), (.int 838 0), (.int 272 0), (.str (S "/claim/cut.py") 839)])), (W [])⟩
def o526 (P : Params) : Obj := ⟨(.type "function"), none, (.func ⟨(S "_law_fine"), (S "_law_fine"), (defArgs (ST 52)), (.stmts (defBody (ST 52))), (defScope (ST 52)), 3, [], .none, .none, .none, (.str (S "law_nearcall_k37_fewest_that_gather") 746), none, (.ref 524), .none, 0⟩), (W [])⟩
def o527 (P : Params) : Obj := ⟨(.type "tuple"), none, (.seq (V []) 0), (W [])⟩
def o528 (P : Params) : Obj := ⟨.none, none, (.fields (V [])), (W [])⟩
def o529 (P : Params) : Obj := ⟨(.type "tuple"), none, (.seq (V [(.str (S "_law_d") 844), (.str (S "_law_most") 845), (.str (S "_law_shuts_here") 846), (.str (S "_law_bars") 847), (.str (S "_law_many") 848), (.str (S "_law_k") 849), (.str (S "_law_bar") 850)]) 0), (W [])⟩
def o530 (P : Params) : Obj := ⟨(.type "tuple"), none, (.seq (V []) 0), (W [])⟩
def o531 (P : Params) : Obj := ⟨.none, none, (.func ⟨(S "_law_hall"), (S "_law_hall"), (defArgs (ST 53)), (.stmts (defBody (ST 53))), (defScope (ST 53)), 0, [], .none, .none, .none, .none, none, .none, .none, 0⟩), (W [])⟩
def o532 (P : Params) : Obj := ⟨(.type "code"), none, (.fields (V [(.str (S "_law_hall") 841), (.str (S "_law_hall") 842), (.str (S "/claim/cut.py") 843), (.int 282 0), (.int 2 0), (.int 0 0), (.int 0 0), (.int 3 0), (.ref 526), (.bool true), (.int 181 0), (.ref 527), .none, (.ref 528), (.ref 529), (.ref 530), (.int 851 0), (.int 282 0), (.str (S "/claim/cut.py") 852)])), (W [])⟩
def o533 (P : Params) : Obj := ⟨(.type "function"), none, (.func ⟨(S "_law_hall"), (S "_law_hall"), (defArgs (ST 53)), (.stmts (defBody (ST 53))), (defScope (ST 53)), 3, [], .none, .none, .none, (.str (S "law_nearcall_k37_fewest_that_gather") 746), none, (.ref 531), .none, 0⟩), (W [])⟩
def o534 (P : Params) : Obj := ⟨(.type "tuple"), none, (.seq (V []) 0), (W [])⟩
def o535 (P : Params) : Obj := ⟨.none, none, (.fields (V [])), (W [])⟩
def o536 (P : Params) : Obj := ⟨.none, none, (.func ⟨(S "_law_image"), (S "_law_image"), (defArgs (ST 54)), (.stmts (defBody (ST 54))), (defScope (ST 54)), 0, [], .none, .none, .none, .none, none, .none, .none, 0⟩), (W [])⟩
def o537 (P : Params) : Obj := ⟨(.type "code"), none, (.fields (V [(.str (S "_law_image") 854), (.str (S "_law_image") 855), (.str (S "/claim/cut.py") 856), (.int 290 0), (.int 3 0), (.int 0 0), (.int 0 0), (.int 3 0), (.ref 533), (.bool true), (.int 181 0), (.ref 534), .none, .none, .none, (.ref 535), (.int 857 0), (.int 290 0), (.str (S "/claim/cut.py") 858)])), (W [])⟩
def o538 (P : Params) : Obj := ⟨(.type "function"), none, (.func ⟨(S "_law_image"), (S "_law_image"), (defArgs (ST 54)), (.stmts (defBody (ST 54))), (defScope (ST 54)), 3, [], .none, .none, .none, (.str (S "law_nearcall_k37_fewest_that_gather") 746), none, (.ref 536), .none, 0⟩), (W [])⟩
def o539 (P : Params) : Obj := ⟨(.type "tuple"), none, (.seq (V []) 0), (W [])⟩
def o540 (P : Params) : Obj := ⟨.none, none, (.fields (V [])), (W [])⟩
def o541 (P : Params) : Obj := ⟨.none, none, (.func ⟨(S "_law_by_shuts"), (S "_law_by_shuts"), (defArgs (ST 55)), (.stmts (defBody (ST 55))), (defScope (ST 55)), 0, [], .none, .none, .none, .none, none, .none, .none, 0⟩), (W [])⟩
def o542 (P : Params) : Obj := ⟨(.type "code"), none, (.fields (V [(.str (S "_law_by_shuts") 860), (.str (S "_law_by_shuts") 861), (.str (S "/claim/cut.py") 862), (.int 296 0), (.int 1 0), (.int 0 0), (.int 0 0), (.int 3 0), (.ref 538), (.bool true), (.int 181 0), (.ref 539), .none, .none, .none, (.ref 540), (.int 863 0), (.int 296 0), (.str (S "/claim/cut.py") 864)])), (W [])⟩
def o543 (P : Params) : Obj := ⟨(.type "function"), none, (.func ⟨(S "_law_by_shuts"), (S "_law_by_shuts"), (defArgs (ST 55)), (.stmts (defBody (ST 55))), (defScope (ST 55)), 3, [], .none, .none, .none, (.str (S "law_nearcall_k37_fewest_that_gather") 746), none, (.ref 541), .none, 0⟩), (W [])⟩
def o544 (P : Params) : Obj := ⟨(.type "tuple"), none, (.seq (V []) 0), (W [])⟩
def o545 (P : Params) : Obj := ⟨.none, none, (.fields (V [])), (W [])⟩
def o546 (P : Params) : Obj := ⟨(.type "tuple"), none, (.seq (V [(.str (S "_law_d") 869), (.str (S "_law_shuts_here") 870), (.str (S "_law_odds") 871), (.str (S "_law_found") 872), (.str (S "_law_shut") 873), (.str (S "_law_how") 874)]) 0), (W [])⟩
def o547 (P : Params) : Obj := ⟨(.type "tuple"), none, (.seq (V []) 0), (W [])⟩
def o548 (P : Params) : Obj := ⟨.none, none, (.func ⟨(S "_law_sides"), (S "_law_sides"), (defArgs (ST 56)), (.stmts (defBody (ST 56))), (defScope (ST 56)), 0, [], .none, .none, .none, .none, none, .none, .none, 0⟩), (W [])⟩
def o549 (P : Params) : Obj := ⟨(.type "code"), none, (.fields (V [(.str (S "_law_sides") 866), (.str (S "_law_sides") 867), (.str (S "/claim/cut.py") 868), (.int 301 0), (.int 2 0), (.int 0 0), (.int 0 0), (.int 3 0), (.ref 543), (.bool true), (.int 181 0), (.ref 544), .none, (.ref 545), (.ref 546), (.ref 547), (.int 875 0), (.int 301 0), (.str (S "/claim/cut.py") 876)])), (W [])⟩
def o550 (P : Params) : Obj := ⟨(.type "function"), none, (.func ⟨(S "_law_sides"), (S "_law_sides"), (defArgs (ST 56)), (.stmts (defBody (ST 56))), (defScope (ST 56)), 3, [], .none, .none, .none, (.str (S "law_nearcall_k37_fewest_that_gather") 746), none, (.ref 548), .none, 0⟩), (W [])⟩
def o551 (P : Params) : Obj := ⟨(.type "tuple"), none, (.seq (V []) 0), (W [])⟩
def o552 (P : Params) : Obj := ⟨.none, none, (.fields (V [])), (W [])⟩
def o553 (P : Params) : Obj := ⟨.none, none, (.func ⟨(S "_law_part"), (S "_law_part"), (defArgs (ST 57)), (.stmts (defBody (ST 57))), (defScope (ST 57)), 0, [], .none, .none, .none, .none, none, .none, .none, 0⟩), (W [])⟩
def o554 (P : Params) : Obj := ⟨(.type "code"), none, (.fields (V [(.str (S "_law_part") 878), (.str (S "_law_part") 879), (.str (S "/claim/cut.py") 880), (.int 309 0), (.int 3 0), (.int 0 0), (.int 0 0), (.int 3 0), (.ref 550), (.bool true), (.int 181 0), (.ref 551), .none, .none, .none, (.ref 552), (.int 881 0), (.int 309 0), (.str (S "/claim/cut.py") 882)])), (W [])⟩
def o555 (P : Params) : Obj := ⟨(.type "function"), none, (.func ⟨(S "_law_part"), (S "_law_part"), (defArgs (ST 57)), (.stmts (defBody (ST 57))), (defScope (ST 57)), 3, [], .none, .none, .none, (.str (S "law_nearcall_k37_fewest_that_gather") 746), none, (.ref 553), .none, 0⟩), (W [])⟩
def o556 (P : Params) : Obj := ⟨(.type "tuple"), none, (.seq (V []) 0), (W [])⟩
def o557 (P : Params) : Obj := ⟨.none, none, (.fields (V [])), (W [])⟩
def o558 (P : Params) : Obj := ⟨.none, none, (.func ⟨(S "_law_apart"), (S "_law_apart"), (defArgs (ST 58)), (.stmts (defBody (ST 58))), (defScope (ST 58)), 0, [], .none, .none, .none, .none, none, .none, .none, 0⟩), (W [])⟩
def o559 (P : Params) : Obj := ⟨(.type "code"), none, (.fields (V [(.str (S "_law_apart") 884), (.str (S "_law_apart") 885), (.str (S "/claim/cut.py") 886), (.int 315 0), (.int 2 0), (.int 0 0), (.int 0 0), (.int 3 0), (.ref 555), (.bool true), (.int 181 0), (.ref 556), .none, .none, .none, (.ref 557), (.int 887 0), (.int 315 0), (.str (S "/claim/cut.py") 888)])), (W [])⟩
def o560 (P : Params) : Obj := ⟨(.type "function"), none, (.func ⟨(S "_law_apart"), (S "_law_apart"), (defArgs (ST 58)), (.stmts (defBody (ST 58))), (defScope (ST 58)), 3, [], .none, .none, .none, (.str (S "law_nearcall_k37_fewest_that_gather") 746), none, (.ref 558), .none, 0⟩), (W [])⟩
def o561 (P : Params) : Obj := ⟨(.type "tuple"), none, (.seq (V []) 0), (W [])⟩
def o562 (P : Params) : Obj := ⟨.none, none, (.fields (V [])), (W [])⟩
def o563 (P : Params) : Obj := ⟨(.type "tuple"), none, (.seq (V [(.str (S "_law_rooms_here") 893), (.str (S "_law_part_here") 894), (.str (S "_law_room") 895), (.str (S "_law_best") 896), (.str (S "_law_one") 897)]) 0), (W [])⟩
def o564 (P : Params) : Obj := ⟨(.type "tuple"), none, (.seq (V []) 0), (W [])⟩
def o565 (P : Params) : Obj := ⟨.none, none, (.func ⟨(S "_law_near"), (S "_law_near"), (defArgs (ST 59)), (.stmts (defBody (ST 59))), (defScope (ST 59)), 0, [], .none, .none, .none, .none, none, .none, .none, 0⟩), (W [])⟩
def o566 (P : Params) : Obj := ⟨(.type "code"), none, (.fields (V [(.str (S "_law_near") 890), (.str (S "_law_near") 891), (.str (S "/claim/cut.py") 892), (.int 317 0), (.int 3 0), (.int 0 0), (.int 0 0), (.int 3 0), (.ref 560), (.bool true), (.int 181 0), (.ref 561), .none, (.ref 562), (.ref 563), (.ref 564), (.int 898 0), (.int 317 0), (.str (S "/claim/cut.py") 899)])), (W [])⟩
def o567 (P : Params) : Obj := ⟨(.type "function"), none, (.func ⟨(S "_law_near"), (S "_law_near"), (defArgs (ST 59)), (.stmts (defBody (ST 59))), (defScope (ST 59)), 3, [], .none, .none, .none, (.str (S "law_nearcall_k37_fewest_that_gather") 746), none, (.ref 565), .none, 0⟩), (W [])⟩
def o568 (P : Params) : Obj := ⟨(.type "tuple"), none, (.seq (V []) 0), (W [])⟩
def o569 (P : Params) : Obj := ⟨.none, none, (.fields (V [])), (W [])⟩
def o570 (P : Params) : Obj := ⟨(.type "tuple"), none, (.seq (V [(.str (S "_law_rooms_here") 904), (.str (S "_law_shuts_here") 905), (.str (S "_law_steps") 906), (.str (S "_law_room") 907), (.str (S "_law_kind") 908), (.str (S "_law_text") 909)]) 0), (W [])⟩
def o571 (P : Params) : Obj := ⟨(.type "tuple"), none, (.seq (V []) 0), (W [])⟩
def o572 (P : Params) : Obj := ⟨.none, none, (.func ⟨(S "_law_led"), (S "_law_led"), (defArgs (ST 60)), (.stmts (defBody (ST 60))), (defScope (ST 60)), 0, [], .none, .none, .none, .none, none, .none, .none, 0⟩), (W [])⟩
def o573 (P : Params) : Obj := ⟨(.type "code"), none, (.fields (V [(.str (S "_law_led") 901), (.str (S "_law_led") 902), (.str (S "/claim/cut.py") 903), (.int 324 0), (.int 4 0), (.int 0 0), (.int 0 0), (.int 3 0), (.ref 567), (.bool true), (.int 181 0), (.ref 568), .none, (.ref 569), (.ref 570), (.ref 571), (.int 910 0), (.int 324 0), (.str (S "/claim/cut.py") 911)])), (W [])⟩
def o574 (P : Params) : Obj := ⟨(.type "function"), none, (.func ⟨(S "_law_led"), (S "_law_led"), (defArgs (ST 60)), (.stmts (defBody (ST 60))), (defScope (ST 60)), 3, [], .none, .none, .none, (.str (S "law_nearcall_k37_fewest_that_gather") 746), none, (.ref 572), .none, 0⟩), (W [])⟩
def o575 (P : Params) : Obj := ⟨(.type "tuple"), none, (.seq (V []) 0), (W [])⟩
def o576 (P : Params) : Obj := ⟨.none, none, (.fields (V [])), (W [])⟩
def o577 (P : Params) : Obj := ⟨(.type "tuple"), none, (.seq (V [(.str (S "_law_rooms_here") 916), (.str (S "_law_shuts_here") 917), (.str (S "_law_steps") 918), (.str (S "_law_found") 919), (.str (S "_law_room") 920)]) 0), (W [])⟩
def o578 (P : Params) : Obj := ⟨(.type "tuple"), none, (.seq (V []) 0), (W [])⟩
def o579 (P : Params) : Obj := ⟨.none, none, (.func ⟨(S "_law_map"), (S "_law_map"), (defArgs (ST 61)), (.stmts (defBody (ST 61))), (defScope (ST 61)), 0, [], .none, .none, .none, .none, none, .none, .none, 0⟩), (W [])⟩
def o580 (P : Params) : Obj := ⟨(.type "code"), none, (.fields (V [(.str (S "_law_map") 913), (.str (S "_law_map") 914), (.str (S "/claim/cut.py") 915), (.int 331 0), (.int 3 0), (.int 0 0), (.int 0 0), (.int 3 0), (.ref 574), (.bool true), (.int 181 0), (.ref 575), .none, (.ref 576), (.ref 577), (.ref 578), (.int 921 0), (.int 331 0), (.str (S "/claim/cut.py") 922)])), (W [])⟩
def o581 (P : Params) : Obj := ⟨(.type "function"), none, (.func ⟨(S "_law_map"), (S "_law_map"), (defArgs (ST 61)), (.stmts (defBody (ST 61))), (defScope (ST 61)), 3, [], .none, .none, .none, (.str (S "law_nearcall_k37_fewest_that_gather") 746), none, (.ref 579), .none, 0⟩), (W [])⟩
def o582 (P : Params) : Obj := ⟨(.type "tuple"), none, (.seq (V []) 0), (W [])⟩
def o583 (P : Params) : Obj := ⟨.none, none, (.fields (V [])), (W [])⟩
def o584 (P : Params) : Obj := ⟨.none, none, (.func ⟨(S "_law_calls"), (S "_law_calls"), (defArgs (ST 62)), (.stmts (defBody (ST 62))), (defScope (ST 62)), 0, [], .none, .none, .none, .none, none, .none, .none, 0⟩), (W [])⟩
def o585 (P : Params) : Obj := ⟨(.type "code"), none, (.fields (V [(.str (S "_law_calls") 924), (.str (S "_law_calls") 925), (.str (S "/claim/cut.py") 926), (.int 336 0), (.int 4 0), (.int 0 0), (.int 0 0), (.int 3 0), (.ref 581), (.bool true), (.int 181 0), (.ref 582), .none, .none, .none, (.ref 583), (.int 927 0), (.int 336 0), (.str (S "/claim/cut.py") 928)])), (W [])⟩
def o586 (P : Params) : Obj := ⟨(.type "function"), none, (.func ⟨(S "_law_calls"), (S "_law_calls"), (defArgs (ST 62)), (.stmts (defBody (ST 62))), (defScope (ST 62)), 3, [], .none, .none, .none, (.str (S "law_nearcall_k37_fewest_that_gather") 746), none, (.ref 584), .none, 0⟩), (W [])⟩
def o587 (P : Params) : Obj := ⟨(.type "tuple"), none, (.seq (V []) 0), (W [])⟩
def o588 (P : Params) : Obj := ⟨.none, none, (.fields (V [])), (W [])⟩
def o589 (P : Params) : Obj := ⟨.none, none, (.func ⟨(S "_law_lists"), (S "_law_lists"), (defArgs (ST 63)), (.stmts (defBody (ST 63))), (defScope (ST 63)), 0, [], .none, .none, .none, .none, none, .none, .none, 0⟩), (W [])⟩
def o590 (P : Params) : Obj := ⟨(.type "code"), none, (.fields (V [(.str (S "_law_lists") 930), (.str (S "_law_lists") 931), (.str (S "/claim/cut.py") 932), (.int 338 0), (.int 1 0), (.int 0 0), (.int 0 0), (.int 3 0), (.ref 586), (.bool true), (.int 181 0), (.ref 587), .none, .none, .none, (.ref 588), (.int 933 0), (.int 338 0), (.str (S "/claim/cut.py") 934)])), (W [])⟩
def o591 (P : Params) : Obj := ⟨(.type "function"), none, (.func ⟨(S "_law_lists"), (S "_law_lists"), (defArgs (ST 63)), (.stmts (defBody (ST 63))), (defScope (ST 63)), 3, [], .none, .none, .none, (.str (S "law_nearcall_k37_fewest_that_gather") 746), none, (.ref 589), .none, 0⟩), (W [])⟩
def o592 (P : Params) : Obj := ⟨(.type "tuple"), none, (.seq (V []) 0), (W [])⟩
def o593 (P : Params) : Obj := ⟨.none, none, (.fields (V [])), (W [])⟩
def o594 (P : Params) : Obj := ⟨.none, none, (.func ⟨(S "law"), (S "law"), (defArgs (ST 64)), (.stmts (defBody (ST 64))), (defScope (ST 64)), 0, [], .none, .none, .none, .none, none, .none, .none, 0⟩), (W [])⟩
def o595 (P : Params) : Obj := ⟨(.type "code"), none, (.fields (V [(.str (S "law") 936), (.str (S "law") 937), (.str (S "/claim/cut.py") 938), (.int 346 0), (.int 1 0), (.int 0 0), (.int 0 0), (.int 3 0), (.ref 591), (.bool true), (.int 181 0), (.ref 592), .none, .none, .none, (.ref 593), (.int 939 0), (.int 346 0), (.str (S "/claim/cut.py") 940)])), (W [])⟩
def o596 (P : Params) : Obj := ⟨(.type "function"), none, (.func ⟨(S "law"), (S "law"), (defArgs (ST 64)), (.stmts (defBody (ST 64))), (defScope (ST 64)), 3, [], .none, .none, .none, (.str (S "law_nearcall_k37_fewest_that_gather") 746), none, (.ref 594), .none, 0⟩), (W [])⟩
def objs_4 (P : Params) : List Obj :=
  [boot_o_0 P, boot_o_1 P, boot_o_2 P, o470 P, boot_o_4 P, boot_o_5 P, boot_o_6 P, boot_o_7 P, boot_o_8 P, boot_o_9 P, boot_o_10 P, o0 P, o471 P, o2 P, o3 P, o6 P, o7 P, o8 P, o9 P, o10 P, o11 P, o12 P, o13 P, o14 P, o15 P, o16 P, o17 P, o18 P, o19 P, o20 P, o21 P, o22 P, o23 P, o24 P, o25 P, o26 P, o27 P, o28 P, o171 P, o30 P] ++ (
  [o31 P, o32 P, o33 P, o34 P, o35 P, o36 P, o37 P, o38 P, o39 P, o40 P, o41 P, o42 P, o43 P, o44 P, o45 P, o46 P, o47 P, o48 P, o49 P, o50 P, o51 P, o52 P, o53 P, o54 P, o55 P, o56 P, o57 P, o58 P, o59 P, o60 P, o61 P, o62 P, o63 P, o64 P, o65 P, o66 P, o67 P, o68 P, o69 P, o70 P] ++ (
  [o71 P, o72 P, o73 P, o74 P, o75 P, o76 P, o77 P, o78 P, o79 P, o80 P, o81 P, o82 P, o83 P, o84 P, o85 P, o86 P, o87 P, o88 P, o89 P, o93 P, o94 P, o95 P, o96 P, o97 P, o98 P, o99 P, o100 P, o101 P, o102 P, o103 P, o104 P, o105 P, o106 P, o107 P, o108 P, o109 P, o110 P, o111 P, o112 P, o113 P] ++ (
  [o114 P, o115 P, o116 P, o117 P, o118 P, o119 P, o120 P, o121 P, o122 P, o123 P, o124 P, o125 P, o126 P, o127 P, o128 P, o129 P, o130 P, o131 P, o132 P, o133 P, o134 P, o135 P, o136 P, o137 P, o138 P, o139 P, o140 P, o141 P, o142 P, o143 P, o144 P, o145 P, o146 P, o147 P, o148 P, o149 P, o150 P, o151 P, o152 P, o153 P] ++ (
  [o154 P, o155 P, o156 P, o157 P, o158 P, o159 P, o160 P, o161 P, o162 P, o163 P, o164 P, o165 P, o166 P, o167 P, o168 P, o172 P, o173 P, o174 P, o175 P, o176 P, o177 P, o178 P, o179 P, o180 P, o181 P, o182 P, o183 P, o184 P, o185 P, o186 P, o187 P, o188 P, o189 P, o190 P, o191 P, o192 P, o193 P, o194 P, o195 P, o196 P] ++ (
  [o197 P, o198 P, o199 P, o200 P, o201 P, o202 P, o203 P, o204 P, o205 P, o206 P, o207 P, o208 P, o209 P, o210 P, o211 P, o212 P, o213 P, o214 P, o215 P, o216 P, o217 P, o218 P, o219 P, o220 P, o221 P, o222 P, o223 P, o224 P, o225 P, o226 P, o227 P, o228 P, o229 P, o230 P, o231 P, o232 P, o233 P, o234 P, o235 P, o236 P] ++ (
  [o237 P, o238 P, o239 P, o240 P, o241 P, o242 P, o243 P, o244 P, o245 P, o246 P, o247 P, o248 P, o249 P, o250 P, o251 P, o252 P, o253 P, o254 P, o255 P, o256 P, o257 P, o258 P, o259 P, o260 P, o261 P, o262 P, o263 P, o264 P, o265 P, o266 P, o267 P, o268 P, o269 P, o270 P, o271 P, o272 P, o273 P, o276 P, o277 P, o278 P] ++ (
  [o279 P, o280 P, o281 P, o282 P, o283 P, o284 P, o285 P, o286 P, o287 P, o288 P, o289 P, o290 P, o291 P, o292 P, o293 P, o294 P, o295 P, o296 P, o297 P, o298 P, o299 P, o300 P, o301 P, o302 P, o303 P, o304 P, o305 P, o306 P, o307 P, o308 P, o309 P, o310 P, o311 P, o312 P, o313 P, o314 P, o315 P, o316 P, o317 P, o318 P] ++ (
  [o319 P, o320 P, o321 P, o322 P, o323 P, o324 P, o325 P, o326 P, o327 P, o328 P, o329 P, o330 P, o331 P, o332 P, o333 P, o334 P, o335 P, o336 P, o337 P, o338 P, o339 P, o340 P, o341 P, o342 P, o343 P, o344 P, o345 P, o346 P, o347 P, o348 P, o349 P, o350 P, o351 P, o352 P, o353 P, o354 P, o355 P, o356 P, o357 P, o358 P] ++ (
  [o359 P, o360 P, o361 P, o362 P, o363 P, o364 P, o365 P, o366 P, o367 P, o368 P, o369 P, o370 P, o371 P, o372 P, o373 P, o374 P, o375 P, o376 P, o377 P, o378 P, o379 P, o380 P, o381 P, o382 P, o383 P, o384 P, o385 P, o386 P, o387 P, o388 P, o389 P, o390 P, o391 P, o392 P, o393 P, o394 P, o395 P, o396 P, o397 P, o398 P] ++ (
  [o399 P, o400 P, o401 P, o402 P, o403 P, o404 P, o405 P, o406 P, o407 P, o408 P, o409 P, o410 P, o411 P, o412 P, o413 P, o414 P, o415 P, o416 P, o417 P, o418 P, o419 P, o420 P, o421 P, o422 P, o423 P, o424 P, o425 P, o426 P, o427 P, o428 P, o429 P, o430 P, o431 P, o432 P, o433 P, o434 P, o435 P, o436 P, o437 P, o438 P] ++ (
  [o439 P, o440 P, o441 P, o442 P, o443 P, o444 P, o445 P, o446 P, o447 P, o448 P, o449 P, o450 P, o451 P, o452 P, o453 P, o454 P, o455 P, o456 P, o457 P, o458 P, o459 P, o460 P, o461 P, o462 P, o463 P, o464 P, o465 P, o466 P, o467 P, o468 P, o469 P, o472 P, o473 P, o474 P, o475 P, o476 P, o477 P, o478 P, o479 P, o480 P] ++ (
  [o481 P, o482 P, o483 P, o484 P, o485 P, o486 P, o487 P, o488 P, o489 P, o490 P, o491 P, o492 P, o493 P, o494 P, o495 P, o496 P, o497 P, o498 P, o499 P, o500 P, o501 P, o502 P, o503 P, o504 P, o505 P, o506 P, o507 P, o508 P, o509 P, o510 P, o511 P, o512 P, o513 P, o514 P, o515 P, o516 P, o517 P, o518 P, o519 P, o520 P] ++ (
  [o521 P, o522 P, o523 P, o524 P, o525 P, o526 P, o527 P, o528 P, o529 P, o530 P, o531 P, o532 P, o533 P, o534 P, o535 P, o536 P, o537 P, o538 P, o539 P, o540 P, o541 P, o542 P, o543 P, o544 P, o545 P, o546 P, o547 P, o548 P, o549 P, o550 P, o551 P, o552 P, o553 P, o554 P, o555 P, o556 P, o557 P, o558 P, o559 P, o560 P] ++ (
  [o561 P, o562 P, o563 P, o564 P, o565 P, o566 P, o567 P, o568 P, o569 P, o570 P, o571 P, o572 P, o573 P, o574 P, o575 P, o576 P, o577 P, o578 P, o579 P, o580 P, o581 P, o582 P, o583 P, o584 P, o585 P, o586 P, o587 P, o588 P, o589 P, o590 P, o591 P, o592 P, o593 P, o594 P, o595 P, o596 P]))))))))))))))
def objs_f (P : Params) : List Obj :=
  [boot_o_0 P, boot_o_1 P, boot_o_2 P, o470 P, boot_o_4 P, boot_o_5 P, boot_o_6 P, boot_o_7 P, boot_o_8 P, boot_o_9 P, boot_o_10 P, o0 P, o471 P, o2 P, o3 P, o6 P, o7 P, o8 P, o9 P, o10 P, o11 P, o12 P, o13 P, o14 P, o15 P, o16 P, o17 P, o18 P, o19 P, o20 P, o21 P, o22 P, o23 P, o24 P, o25 P, o26 P, o27 P, o28 P, o171 P, o30 P] ++ (
  [o31 P, o32 P, o33 P, o34 P, o35 P, o36 P, o37 P, o38 P, o39 P, o40 P, o41 P, o42 P, o43 P, o44 P, o45 P, o46 P, o47 P, o48 P, o49 P, o50 P, o51 P, o52 P, o53 P, o54 P, o55 P, o56 P, o57 P, o58 P, o59 P, o60 P, o61 P, o62 P, o63 P, o64 P, o65 P, o66 P, o67 P, o68 P, o69 P, o70 P] ++ (
  [o71 P, o72 P, o73 P, o74 P, o75 P, o76 P, o77 P, o78 P, o79 P, o80 P, o81 P, o82 P, o83 P, o84 P, o85 P, o86 P, o87 P, o88 P, o89 P, o93 P, o94 P, o95 P, o96 P, o97 P, o98 P, o99 P, o100 P, o101 P, o102 P, o103 P, o104 P, o105 P, o106 P, o107 P, o108 P, o109 P, o110 P, o111 P, o112 P, o113 P] ++ (
  [o114 P, o115 P, o116 P, o117 P, o118 P, o119 P, o120 P, o121 P, o122 P, o123 P, o124 P, o125 P, o126 P, o127 P, o128 P, o129 P, o130 P, o131 P, o132 P, o133 P, o134 P, o135 P, o136 P, o137 P, o138 P, o139 P, o140 P, o141 P, o142 P, o143 P, o144 P, o145 P, o146 P, o147 P, o148 P, o149 P, o150 P, o151 P, o152 P, o153 P] ++ (
  [o154 P, o155 P, o156 P, o157 P, o158 P, o159 P, o160 P, o161 P, o162 P, o163 P, o164 P, o165 P, o166 P, o167 P, o168 P, o172 P, o173 P, o174 P, o175 P, o176 P, o177 P, o178 P, o179 P, o180 P, o181 P, o182 P, o183 P, o184 P, o185 P, o186 P, o187 P, o188 P, o189 P, o190 P, o191 P, o192 P, o193 P, o194 P, o195 P, o196 P] ++ (
  [o197 P, o198 P, o199 P, o200 P, o201 P, o202 P, o203 P, o204 P, o205 P, o206 P, o207 P, o208 P, o209 P, o210 P, o211 P, o212 P, o213 P, o214 P, o215 P, o216 P, o217 P, o218 P, o219 P, o220 P, o221 P, o222 P, o223 P, o224 P, o225 P, o226 P, o227 P, o228 P, o229 P, o230 P, o231 P, o232 P, o233 P, o234 P, o235 P, o236 P] ++ (
  [o237 P, o238 P, o239 P, o240 P, o241 P, o242 P, o243 P, o244 P, o245 P, o246 P, o247 P, o248 P, o249 P, o250 P, o251 P, o252 P, o253 P, o254 P, o255 P, o256 P, o257 P, o258 P, o259 P, o260 P, o261 P, o262 P, o263 P, o264 P, o265 P, o266 P, o267 P, o268 P, o269 P, o270 P, o271 P, o272 P, o273 P, o276 P, o277 P, o278 P] ++ (
  [o279 P, o280 P, o281 P, o282 P, o283 P, o284 P, o285 P, o286 P, o287 P, o288 P, o289 P, o290 P, o291 P, o292 P, o293 P, o294 P, o295 P, o296 P, o297 P, o298 P, o299 P, o300 P, o301 P, o302 P, o303 P, o304 P, o305 P, o306 P, o307 P, o308 P, o309 P, o310 P, o311 P, o312 P, o313 P, o314 P, o315 P, o316 P, o317 P, o318 P] ++ (
  [o319 P, o320 P, o321 P, o322 P, o323 P, o324 P, o325 P, o326 P, o327 P, o328 P, o329 P, o330 P, o331 P, o332 P, o333 P, o334 P, o335 P, o336 P, o337 P, o338 P, o339 P, o340 P, o341 P, o342 P, o343 P, o344 P, o345 P, o346 P, o347 P, o348 P, o349 P, o350 P, o351 P, o352 P, o353 P, o354 P, o355 P, o356 P, o357 P, o358 P] ++ (
  [o359 P, o360 P, o361 P, o362 P, o363 P, o364 P, o365 P, o366 P, o367 P, o368 P, o369 P, o370 P, o371 P, o372 P, o373 P, o374 P, o375 P, o376 P, o377 P, o378 P, o379 P, o380 P, o381 P, o382 P, o383 P, o384 P, o385 P, o386 P, o387 P, o388 P, o389 P, o390 P, o391 P, o392 P, o393 P, o394 P, o395 P, o396 P, o397 P, o398 P] ++ (
  [o399 P, o400 P, o401 P, o402 P, o403 P, o404 P, o405 P, o406 P, o407 P, o408 P, o409 P, o410 P, o411 P, o412 P, o413 P, o414 P, o415 P, o416 P, o417 P, o418 P, o419 P, o420 P, o421 P, o422 P, o423 P, o424 P, o425 P, o426 P, o427 P, o428 P, o429 P, o430 P, o431 P, o432 P, o433 P, o434 P, o435 P, o436 P, o437 P, o438 P] ++ (
  [o439 P, o440 P, o441 P, o442 P, o443 P, o444 P, o445 P, o446 P, o447 P, o448 P, o449 P, o450 P, o451 P, o452 P, o453 P, o454 P, o455 P, o456 P, o457 P, o458 P, o459 P, o460 P, o461 P, o462 P, o463 P, o464 P, o465 P, o466 P, o467 P, o468 P, o469 P, o472 P, o473 P, o474 P, o475 P, o476 P, o477 P, o478 P, o479 P, o480 P] ++ (
  [o481 P, o482 P, o483 P, o484 P, o485 P, o486 P, o487 P, o488 P, o489 P, o490 P, o491 P, o492 P, o493 P, o494 P, o495 P, o496 P, o497 P, o498 P, o499 P, o500 P, o501 P, o502 P, o503 P, o504 P, o505 P, o506 P, o507 P, o508 P, o509 P, o510 P, o511 P, o512 P, o513 P, o514 P, o515 P, o516 P, o517 P, o518 P, o519 P, o520 P] ++ (
  [o521 P, o522 P, o523 P, o524 P, o525 P, o526 P, o527 P, o528 P, o529 P, o530 P, o531 P, o532 P, o533 P, o534 P, o535 P, o536 P, o537 P, o538 P, o539 P, o540 P, o541 P, o542 P, o543 P, o544 P, o545 P, o546 P, o547 P, o548 P, o549 P, o550 P, o551 P, o552 P, o553 P, o554 P, o555 P, o556 P, o557 P, o558 P, o559 P, o560 P] ++ (
  [o561 P, o562 P, o563 P, o564 P, o565 P, o566 P, o567 P, o568 P, o569 P, o570 P, o571 P, o572 P, o573 P, o574 P, o575 P, o576 P, o577 P, o578 P, o579 P, o580 P, o581 P, o582 P, o583 P, o584 P, o585 P, o586 P, o587 P, o588 P, o589 P, o590 P, o591 P, o592 P, o593 P, o594 P, o595 P, o596 P]))))))))))))))
def KF (P : Params) : Frag := List.cons (nat_lit 2, boot_o_2 P) (
  List.cons (nat_lit 3, o470 P) (
  List.cons (nat_lit 15, o6 P) (
  List.cons (nat_lit 17, o8 P) (
  List.cons (nat_lit 18, o9 P) (
  List.cons (nat_lit 20, o11 P) (
  List.cons (nat_lit 21, o12 P) (
  List.cons (nat_lit 22, o13 P) (
  List.cons (nat_lit 29, o20 P) (
  List.cons (nat_lit 31, o22 P) (
  List.cons (nat_lit 32, o23 P) (
  List.cons (nat_lit 34, o25 P) (
  List.cons (nat_lit 35, o26 P) (
  List.cons (nat_lit 36, o27 P) (
  List.cons (nat_lit 37, o28 P) (
  List.cons (nat_lit 38, o171 P) (
  List.cons (nat_lit 39, o30 P) (
  List.cons (nat_lit 42, o33 P) (
  List.cons (nat_lit 49, o40 P) (
  List.cons (nat_lit 51, o42 P) (
  List.cons (nat_lit 52, o43 P) (
  List.cons (nat_lit 54, o45 P) (
  List.cons (nat_lit 55, o46 P) (
  List.cons (nat_lit 56, o47 P) (
  List.cons (nat_lit 57, o48 P) (
  List.cons (nat_lit 58, o49 P) (
  List.cons (nat_lit 61, o52 P) (
  List.cons (nat_lit 68, o59 P) (
  List.cons (nat_lit 70, o61 P) (
  List.cons (nat_lit 71, o62 P) (
  List.cons (nat_lit 73, o64 P) (
  List.cons (nat_lit 74, o65 P) (
  List.cons (nat_lit 75, o66 P) (
  List.cons (nat_lit 76, o67 P) (
  List.cons (nat_lit 77, o68 P) (
  List.cons (nat_lit 80, o71 P) (
  List.cons (nat_lit 87, o78 P) (
  List.cons (nat_lit 89, o80 P) (
  List.cons (nat_lit 90, o81 P) (
  List.cons (nat_lit 92, o83 P) (
  List.cons (nat_lit 93, o84 P) (
  List.cons (nat_lit 94, o85 P) (
  List.cons (nat_lit 95, o86 P) (
  List.cons (nat_lit 96, o87 P) (
  List.cons (nat_lit 99, o93 P) (
  List.cons (nat_lit 106, o100 P) (
  List.cons (nat_lit 108, o102 P) (
  List.cons (nat_lit 109, o103 P) (
  List.cons (nat_lit 111, o105 P) (
  List.cons (nat_lit 112, o106 P) (
  List.cons (nat_lit 113, o107 P) (
  List.cons (nat_lit 114, o108 P) (
  List.cons (nat_lit 115, o109 P) (
  List.cons (nat_lit 118, o112 P) (
  List.cons (nat_lit 125, o119 P) (
  List.cons (nat_lit 127, o121 P) (
  List.cons (nat_lit 128, o122 P) (
  List.cons (nat_lit 130, o124 P) (
  List.cons (nat_lit 131, o125 P) (
  List.cons (nat_lit 132, o126 P) (
  List.cons (nat_lit 133, o127 P) (
  List.cons (nat_lit 134, o128 P) (
  List.cons (nat_lit 137, o131 P) (
  List.cons (nat_lit 144, o138 P) (
  List.cons (nat_lit 146, o140 P) (
  List.cons (nat_lit 147, o141 P) (
  List.cons (nat_lit 149, o143 P) (
  List.cons (nat_lit 150, o144 P) (
  List.cons (nat_lit 151, o145 P) (
  List.cons (nat_lit 152, o146 P) (
  List.cons (nat_lit 153, o147 P) (
  List.cons (nat_lit 156, o150 P) (
  List.cons (nat_lit 163, o157 P) (
  List.cons (nat_lit 165, o159 P) (
  List.cons (nat_lit 166, o160 P) (
  List.cons (nat_lit 168, o162 P) (
  List.cons (nat_lit 169, o163 P) (
  List.cons (nat_lit 170, o164 P) (
  List.cons (nat_lit 171, o165 P) (
  List.cons (nat_lit 172, o166 P) (
  List.cons (nat_lit 175, o172 P) (
  List.cons (nat_lit 182, o179 P) (
  List.cons (nat_lit 184, o181 P) (
  List.cons (nat_lit 185, o182 P) (
  List.cons (nat_lit 187, o184 P) (
  List.cons (nat_lit 188, o185 P) (
  List.cons (nat_lit 189, o186 P) (
  List.cons (nat_lit 190, o187 P) (
  List.cons (nat_lit 191, o188 P) (
  List.cons (nat_lit 194, o191 P) (
  List.cons (nat_lit 196, o193 P) (
  List.cons (nat_lit 197, o194 P) (
  List.cons (nat_lit 199, o196 P) (
  List.cons (nat_lit 200, o197 P) (
  List.cons (nat_lit 201, o198 P) (
  List.cons (nat_lit 203, o200 P) (
  List.cons (nat_lit 204, o201 P) (
  List.cons (nat_lit 206, o203 P) (
  List.cons (nat_lit 207, o204 P) (
  List.cons (nat_lit 208, o205 P) (
  List.cons (nat_lit 211, o208 P) (
  List.cons (nat_lit 212, o209 P) (
  List.cons (nat_lit 213, o210 P) (
  List.cons (nat_lit 216, o213 P) (
  List.cons (nat_lit 217, o214 P) (
  List.cons (nat_lit 218, o215 P) (
  List.cons (nat_lit 220, o217 P) (
  List.cons (nat_lit 221, o218 P) (
  List.cons (nat_lit 223, o220 P) (
  List.cons (nat_lit 224, o221 P) (
  List.cons (nat_lit 225, o222 P) (
  List.cons (nat_lit 227, o224 P) (
  List.cons (nat_lit 228, o225 P) (
  List.cons (nat_lit 230, o227 P) (
  List.cons (nat_lit 231, o228 P) (
  List.cons (nat_lit 232, o229 P) (
  List.cons (nat_lit 234, o231 P) (
  List.cons (nat_lit 235, o232 P) (
  List.cons (nat_lit 237, o234 P) (
  List.cons (nat_lit 238, o235 P) (
  List.cons (nat_lit 239, o236 P) (
  List.cons (nat_lit 241, o238 P) (
  List.cons (nat_lit 242, o239 P) (
  List.cons (nat_lit 244, o241 P) (
  List.cons (nat_lit 245, o242 P) (
  List.cons (nat_lit 246, o243 P) (
  List.cons (nat_lit 249, o246 P) (
  List.cons (nat_lit 250, o247 P) (
  List.cons (nat_lit 251, o248 P) (
  List.cons (nat_lit 253, o250 P) (
  List.cons (nat_lit 254, o251 P) (
  List.cons (nat_lit 256, o253 P) (
  List.cons (nat_lit 257, o254 P) (
  List.cons (nat_lit 258, o255 P) (
  List.cons (nat_lit 261, o258 P) (
  List.cons (nat_lit 262, o259 P) (
  List.cons (nat_lit 263, o260 P) (
  List.cons (nat_lit 265, o262 P) (
  List.cons (nat_lit 266, o263 P) (
  List.cons (nat_lit 268, o265 P) (
  List.cons (nat_lit 269, o266 P) (
  List.cons (nat_lit 270, o267 P) (
  List.cons (nat_lit 272, o269 P) (
  List.cons (nat_lit 273, o270 P) (
  List.cons (nat_lit 275, o272 P) (
  List.cons (nat_lit 276, o273 P) (
  List.cons (nat_lit 284, o283 P) (
  List.cons (nat_lit 285, o284 P) (
  List.cons (nat_lit 286, o285 P) (
  List.cons (nat_lit 288, o287 P) (
  List.cons (nat_lit 289, o288 P) (
  List.cons (nat_lit 291, o290 P) (
  List.cons (nat_lit 292, o291 P) (
  List.cons (nat_lit 293, o292 P) (
  List.cons (nat_lit 295, o294 P) (
  List.cons (nat_lit 296, o295 P) (
  List.cons (nat_lit 298, o297 P) (
  List.cons (nat_lit 299, o298 P) (
  List.cons (nat_lit 300, o299 P) (
  List.cons (nat_lit 302, o301 P) (
  List.cons (nat_lit 303, o302 P) (
  List.cons (nat_lit 305, o304 P) (
  List.cons (nat_lit 306, o305 P) (
  List.cons (nat_lit 307, o306 P) (
  List.cons (nat_lit 309, o308 P) (
  List.cons (nat_lit 310, o309 P) (
  List.cons (nat_lit 312, o311 P) (
  List.cons (nat_lit 313, o312 P) (
  List.cons (nat_lit 314, o313 P) (
  List.cons (nat_lit 316, o315 P) (
  List.cons (nat_lit 317, o316 P) (
  List.cons (nat_lit 319, o318 P) (
  List.cons (nat_lit 320, o319 P) (
  List.cons (nat_lit 321, o320 P) (
  List.cons (nat_lit 323, o322 P) (
  List.cons (nat_lit 324, o323 P) (
  List.cons (nat_lit 326, o325 P) (
  List.cons (nat_lit 327, o326 P) (
  List.cons (nat_lit 328, o327 P) (
  List.cons (nat_lit 331, o330 P) (
  List.cons (nat_lit 332, o331 P) (
  List.cons (nat_lit 333, o332 P) (
  List.cons (nat_lit 336, o335 P) (
  List.cons (nat_lit 337, o336 P) (
  List.cons (nat_lit 338, o337 P) (
  List.cons (nat_lit 340, o339 P) (
  List.cons (nat_lit 341, o340 P) (
  List.cons (nat_lit 343, o342 P) (
  List.cons (nat_lit 344, o343 P) (
  List.cons (nat_lit 345, o344 P) (
  List.cons (nat_lit 347, o346 P) (
  List.cons (nat_lit 348, o347 P) (
  List.cons (nat_lit 350, o349 P) (
  List.cons (nat_lit 351, o350 P) (
  List.cons (nat_lit 352, o351 P) (
  List.cons (nat_lit 354, o353 P) (
  List.cons (nat_lit 355, o354 P) (
  List.cons (nat_lit 357, o356 P) (
  List.cons (nat_lit 358, o357 P) (
  List.cons (nat_lit 359, o358 P) (
  List.cons (nat_lit 361, o360 P) (
  List.cons (nat_lit 362, o361 P) (
  List.cons (nat_lit 364, o363 P) (
  List.cons (nat_lit 365, o364 P) (
  List.cons (nat_lit 366, o365 P) (
  List.cons (nat_lit 368, o367 P) (
  List.cons (nat_lit 369, o368 P) (
  List.cons (nat_lit 371, o370 P) (
  List.cons (nat_lit 372, o371 P) (
  List.cons (nat_lit 373, o372 P) (
  List.cons (nat_lit 375, o374 P) (
  List.cons (nat_lit 376, o375 P) (
  List.cons (nat_lit 378, o377 P) (
  List.cons (nat_lit 379, o378 P) (
  List.cons (nat_lit 380, o379 P) (
  List.cons (nat_lit 382, o381 P) (
  List.cons (nat_lit 383, o382 P) (
  List.cons (nat_lit 385, o384 P) (
  List.cons (nat_lit 386, o385 P) (
  List.cons (nat_lit 387, o386 P) (
  List.cons (nat_lit 389, o388 P) (
  List.cons (nat_lit 390, o389 P) (
  List.cons (nat_lit 392, o391 P) (
  List.cons (nat_lit 393, o392 P) (
  List.cons (nat_lit 394, o393 P) (
  List.cons (nat_lit 395, o394 P) (
  List.cons (nat_lit 396, o395 P) (
  List.cons (nat_lit 397, o396 P) (
  List.cons (nat_lit 398, o397 P) (
  List.cons (nat_lit 401, o400 P) (
  List.cons (nat_lit 403, o402 P) (
  List.cons (nat_lit 404, o403 P) (
  List.cons (nat_lit 406, o405 P) (
  List.cons (nat_lit 407, o406 P) (
  List.cons (nat_lit 408, o407 P) (
  List.cons (nat_lit 410, o409 P) (
  List.cons (nat_lit 411, o410 P) (
  List.cons (nat_lit 413, o412 P) (
  List.cons (nat_lit 414, o413 P) (
  List.cons (nat_lit 415, o414 P) (
  List.cons (nat_lit 418, o417 P) (
  List.cons (nat_lit 419, o418 P) (
  List.cons (nat_lit 420, o419 P) (
  List.cons (nat_lit 423, o422 P) (
  List.cons (nat_lit 424, o423 P) (
  List.cons (nat_lit 425, o424 P) (
  List.cons (nat_lit 427, o426 P) (
  List.cons (nat_lit 428, o427 P) (
  List.cons (nat_lit 430, o429 P) (
  List.cons (nat_lit 431, o430 P) (
  List.cons (nat_lit 432, o431 P) (
  List.cons (nat_lit 435, o434 P) (
  List.cons (nat_lit 436, o435 P) (
  List.cons (nat_lit 437, o436 P) (
  List.cons (nat_lit 440, o439 P) (
  List.cons (nat_lit 441, o440 P) (
  List.cons (nat_lit 442, o441 P) (
  List.cons (nat_lit 445, o444 P) (
  List.cons (nat_lit 446, o445 P) (
  List.cons (nat_lit 447, o446 P) (
  List.cons (nat_lit 450, o449 P) (
  List.cons (nat_lit 451, o450 P) (
  List.cons (nat_lit 452, o451 P) (
  List.cons (nat_lit 455, o454 P) (
  List.cons (nat_lit 456, o455 P) (
  List.cons (nat_lit 457, o456 P) (
  List.cons (nat_lit 459, o458 P) (
  List.cons (nat_lit 460, o459 P) (
  List.cons (nat_lit 462, o461 P) (
  List.cons (nat_lit 463, o462 P) (
  List.cons (nat_lit 464, o463 P) (
  List.cons (nat_lit 466, o465 P) (
  List.cons (nat_lit 467, o466 P) (
  List.cons (nat_lit 469, o468 P) (
  List.cons (nat_lit 470, o469 P) (
  List.cons (nat_lit 471, o472 P) (
  List.cons (nat_lit 473, o474 P) (
  List.cons (nat_lit 474, o475 P) (
  List.cons (nat_lit 476, o477 P) (
  List.cons (nat_lit 477, o478 P) (
  List.cons (nat_lit 478, o479 P) (
  List.cons (nat_lit 480, o481 P) (
  List.cons (nat_lit 481, o482 P) (
  List.cons (nat_lit 483, o484 P) (
  List.cons (nat_lit 484, o485 P) (
  List.cons (nat_lit 485, o486 P) (
  List.cons (nat_lit 487, o488 P) (
  List.cons (nat_lit 488, o489 P) (
  List.cons (nat_lit 490, o491 P) (
  List.cons (nat_lit 491, o492 P) (
  List.cons (nat_lit 492, o493 P) (
  List.cons (nat_lit 494, o495 P) (
  List.cons (nat_lit 495, o496 P) (
  List.cons (nat_lit 497, o498 P) (
  List.cons (nat_lit 498, o499 P) (
  List.cons (nat_lit 499, o500 P) (
  List.cons (nat_lit 502, o503 P) (
  List.cons (nat_lit 503, o504 P) (
  List.cons (nat_lit 504, o505 P) (
  List.cons (nat_lit 507, o508 P) (
  List.cons (nat_lit 508, o509 P) (
  List.cons (nat_lit 509, o510 P) (
  List.cons (nat_lit 511, o512 P) (
  List.cons (nat_lit 512, o513 P) (
  List.cons (nat_lit 514, o515 P) (
  List.cons (nat_lit 515, o516 P) (
  List.cons (nat_lit 516, o517 P) (
  List.cons (nat_lit 519, o520 P) (
  List.cons (nat_lit 520, o521 P) (
  List.cons (nat_lit 521, o522 P) (
  List.cons (nat_lit 524, o525 P) (
  List.cons (nat_lit 525, o526 P) (
  List.cons (nat_lit 526, o527 P) (
  List.cons (nat_lit 528, o529 P) (
  List.cons (nat_lit 529, o530 P) (
  List.cons (nat_lit 531, o532 P) (
  List.cons (nat_lit 532, o533 P) (
  List.cons (nat_lit 533, o534 P) (
  List.cons (nat_lit 536, o537 P) (
  List.cons (nat_lit 537, o538 P) (
  List.cons (nat_lit 538, o539 P) (
  List.cons (nat_lit 541, o542 P) (
  List.cons (nat_lit 542, o543 P) (
  List.cons (nat_lit 543, o544 P) (
  List.cons (nat_lit 545, o546 P) (
  List.cons (nat_lit 546, o547 P) (
  List.cons (nat_lit 548, o549 P) (
  List.cons (nat_lit 549, o550 P) (
  List.cons (nat_lit 550, o551 P) (
  List.cons (nat_lit 553, o554 P) (
  List.cons (nat_lit 554, o555 P) (
  List.cons (nat_lit 555, o556 P) (
  List.cons (nat_lit 558, o559 P) (
  List.cons (nat_lit 559, o560 P) (
  List.cons (nat_lit 560, o561 P) (
  List.cons (nat_lit 562, o563 P) (
  List.cons (nat_lit 563, o564 P) (
  List.cons (nat_lit 565, o566 P) (
  List.cons (nat_lit 566, o567 P) (
  List.cons (nat_lit 567, o568 P) (
  List.cons (nat_lit 569, o570 P) (
  List.cons (nat_lit 570, o571 P) (
  List.cons (nat_lit 572, o573 P) (
  List.cons (nat_lit 573, o574 P) (
  List.cons (nat_lit 574, o575 P) (
  List.cons (nat_lit 576, o577 P) (
  List.cons (nat_lit 577, o578 P) (
  List.cons (nat_lit 579, o580 P) (
  List.cons (nat_lit 580, o581 P) (
  List.cons (nat_lit 581, o582 P) (
  List.cons (nat_lit 584, o585 P) (
  List.cons (nat_lit 585, o586 P) (
  List.cons (nat_lit 586, o587 P) (
  List.cons (nat_lit 589, o590 P) (
  List.cons (nat_lit 590, o591 P) (
  List.cons (nat_lit 591, o592 P) (
  List.cons (nat_lit 594, o595 P) (
  List.cons (nat_lit 595, o596 P) (
  List.nil))))))))))))))))))))))))))))))))))))))))))))))))))))))))))))))))))))))))))))))))))))))))))))))))))))))))))))))))))))))))))))))))))))))))))))))))))))))))))))))))))))))))))))))))))))))))))))))))))))))))))))))))))))))))))))))))))))))))))))))))))))))))))))))))))))))))))))))))))))))))))))))))))))))))))))))))))))))))))))))))))))))))))))))))))))))))))))))))))))))
def KA : List Addr := [2, 3, 15, 17, 18, 20, 21, 22, 29, 31, 32, 34, 35, 36, 37, 38, 39, 42, 49, 51, 52, 54, 55, 56, 57, 58, 61, 68, 70, 71, 73, 74, 75, 76, 77, 80, 87, 89, 90, 92, 93, 94, 95, 96, 99, 106, 108, 109, 111, 112, 113, 114, 115, 118, 125, 127, 128, 130, 131, 132, 133, 134, 137, 144, 146, 147, 149, 150, 151, 152, 153, 156, 163, 165, 166, 168, 169, 170, 171, 172, 175, 182, 184, 185, 187, 188, 189, 190, 191, 194, 196, 197, 199, 200, 201, 203, 204, 206, 207, 208, 211, 212, 213, 216, 217, 218, 220, 221, 223, 224, 225, 227, 228, 230, 231, 232, 234, 235, 237, 238, 239, 241, 242, 244, 245, 246, 249, 250, 251, 253, 254, 256, 257, 258, 261, 262, 263, 265, 266, 268, 269, 270, 272, 273, 275, 276, 284, 285, 286, 288, 289, 291, 292, 293, 295, 296, 298, 299, 300, 302, 303, 305, 306, 307, 309, 310, 312, 313, 314, 316, 317, 319, 320, 321, 323, 324, 326, 327, 328, 331, 332, 333, 336, 337, 338, 340, 341, 343, 344, 345, 347, 348, 350, 351, 352, 354, 355, 357, 358, 359, 361, 362, 364, 365, 366, 368, 369, 371, 372, 373, 375, 376, 378, 379, 380, 382, 383, 385, 386, 387, 389, 390, 392, 393, 394, 395, 396, 397, 398, 401, 403, 404, 406, 407, 408, 410, 411, 413, 414, 415, 418, 419, 420, 423, 424, 425, 427, 428, 430, 431, 432, 435, 436, 437, 440, 441, 442, 445, 446, 447, 450, 451, 452, 455, 456, 457, 459, 460, 462, 463, 464, 466, 467, 469, 470, 471, 473, 474, 476, 477, 478, 480, 481, 483, 484, 485, 487, 488, 490, 491, 492, 494, 495, 497, 498, 499, 502, 503, 504, 507, 508, 509, 511, 512, 514, 515, 516, 519, 520, 521, 524, 525, 526, 528, 529, 531, 532, 533, 536, 537, 538, 541, 542, 543, 545, 546, 548, 549, 550, 553, 554, 555, 558, 559, 560, 562, 563, 565, 566, 567, 569, 570, 572, 573, 574, 576, 577, 579, 580, 581, 584, 585, 586, 589, 590, 591, 594, 595]
abbrev qv : Program := view pw [0, 2, 3, 4, 5, 6, 7, 8, 9, 10, 12, 13, 14, 15, 16, 17, 18, 19, 20, 21, 22, 23, 24, 25, 26, 28, 29, 30, 31, 32, 34, 35, 37, 38, 39, 41, 42, 43, 44, 45, 46, 47, 48, 49, 50, 51, 52, 53, 54, 55, 56, 57, 58, 59, 60, 61, 62, 63, 64]
def names : List PySem.Str := [(S "Hall")]
def env : Env := ⟨pw.main.scope, mainNs, mainNs, [], PySem.Str.empty, none, (.ref 13), some 14, 0⟩
def bod : List Stmt := behindTheImports pw
abbrev cE : Code := .body bod env
theorem r_a (w : World) (os : OsState) : goG (mq pw w) 11 (some (.ref 6)) 12 (stL w (boot_heap w.params).objs.toList boot_toks os) (topStub pw) = some ((stL w (objs_a w.params) 187 os), ⟨denQ tabQ cE, cE, ⟨0, 0, 0, 0⟩, [topFrame ⟨0, 0, 0, 0⟩]⟩) := by kernel_rfl
theorem r_b (w : World) (os : OsState) : goS (mq pw w) 11 (some (.ref 6)) 1 (stL w (objs_a w.params) 187 os) (thB bod env cE ⟨0, 0, 0, 0⟩ ⟨0, 0, 0, 0⟩) = some (.next, (stL w (objs_b w.params) 187 os), cE, ⟨0, 0, 0, 0⟩) := by kernel_rfl
def l_0 : List Stmt := (pw.main.body.drop 0).take 6
theorem r_0 (w : World) (os : OsState) : goS (mq pw w) 11 (some (.ref 6)) 988 (stL w (objs_b w.params) 187 os) (thS l_0 env cE ⟨0, 0, 0, 0⟩ ⟨0, 0, 0, 0⟩) = some (.next, (stL w (objs_0 w.params) 294 os), cE, ⟨19, 0, 22, 43⟩) := by kernel_rfl
def l_1 : List Stmt := (pw.main.body.drop 6).take 4
theorem r_1 (w : World) (os : OsState) : goS (mq pw w) 11 (some (.ref 6)) 981 (stL w (objs_0 w.params) 294 os) (thS l_1 env cE ⟨19, 0, 22, 43⟩ ⟨0, 0, 0, 0⟩) = some (.next, (stL w (objs_1 w.params) 394 os), cE, ⟨38, 0, 42, 24⟩) := by kernel_rfl
def l_2 : List Stmt := (pw.main.body.drop 10).take 16
theorem r_2 (w : World) (os : OsState) : goS (mq pw w) 11 (some (.ref 6)) 644 (stL w (objs_1 w.params) 394 os) (thS l_2 env cE ⟨38, 0, 42, 24⟩ ⟨0, 0, 0, 0⟩) = some (.next, (stL w (objs_2 w.params) 525 os), cE, ⟨99, 0, 103, 38⟩) := by kernel_rfl
def l_3 : List Stmt := (pw.main.body.drop 26).take 18
theorem r_3 (w : World) (os : OsState) : goS (mq pw w) 11 (some (.ref 6)) 1092 (stL w (objs_2 w.params) 525 os) (thS l_3 env cE ⟨99, 0, 103, 38⟩ ⟨0, 0, 0, 0⟩) = some (.next, (stL w (objs_3 w.params) 774 os), cE, ⟨225, 0, 239, 64⟩) := by kernel_rfl
def l_4 : List Stmt := (pw.main.body.drop 44).take 21
theorem r_4 (w : World) (os : OsState) : goS (mq pw w) 11 (some (.ref 6)) 609 (stL w (objs_3 w.params) 774 os) (thS l_4 env cE ⟨225, 0, 239, 64⟩ ⟨0, 0, 0, 0⟩) = some (.next, (stL w (objs_4 w.params) 942 os), cE, ⟨346, 0, 365, 82⟩) := by kernel_rfl
theorem r_f (w : World) (os : OsState) : goF (mq pw w) 11 (some (.ref 6)) 2 (stL w (objs_4 w.params) 942 os) ⟨doneF .next, cE, ⟨346, 0, 365, 82⟩, [topFrame ⟨0, 0, 0, 0⟩]⟩ = some (stL w (objs_f w.params) 942 os) := by kernel_rfl
theorem bod_is : bod = l_0 ++ (l_1 ++ (l_2 ++ (l_3 ++ (l_4 ++ ([]))))) := by kernel_rfl
theorem run_all (w : World) (os : OsState) : topRun treeTable pw w 11 (some (.ref 6)) (12 + (1 + (988 + (981 + (644 + (1092 + (609 + 2))))))) (stL w (boot_heap w.params).objs.toList boot_toks os).abs (topStub pw) = some (stL w (objs_f w.params) 942 os).abs := by
  refine run_top (b := bod) (env := env) (r_a w os) (r_b w os) ?_
  have z := run_seg (r_0 w os) (run_seg (r_1 w os) (run_seg (r_2 w os) (run_seg (r_3 w os) (run_seg (r_4 w os) (run_end (r_f w os))))))
  have e : restOf bod env cE ⟨0, 0, 0, 0⟩ [topFrame ⟨0, 0, 0, 0⟩] = restOf (l_0 ++ (l_1 ++ (l_2 ++ (l_3 ++ (l_4 ++ ([])))))) env cE ⟨0, 0, 0, 0⟩ [topFrame ⟨0, 0, 0, 0⟩] := congrArg (fun b => restOf b env cE ⟨0, 0, 0, 0⟩ [topFrame ⟨0, 0, 0, 0⟩]) bod_is
  rw [e]
  exact z
theorem ka_is (P : Params) : KA = (KF P).map (·.1) := by kernel_rfl
abbrev hk : Hook := kHook KF KA ka_is
def ob (S : SharedT) : hk.α := KA.map (getT S)
theorem ob_is (S : SharedT) : ob S = hk.obs S.abs := obK S
theorem k_1 (w : World) (os : OsState) : looksF pw (boot_heap w.params) (stL w (objs_f w.params) 942 os).abs = true := by kernel_rfl
def lw : List PySem.Str := [(S "Hall")]
theorem lw_is : looseW qv names = lw := by kernel_rfl
theorem s_0 (w : World) (os : OsState) : (seenQ qv names (importedModules pw.main.body) (fun s => xlAt qv lv s && recOk (OpenLaw.row rw_).toRowW.records s) (stL w (objs_f w.params) 942 os).abs).1 = expectedOf qv := by kernel_rfl
theorem s_1 (w : World) (os : OsState) : (seenQ qv names (importedModules pw.main.body) (fun s => xlAt qv lv s && recOk (OpenLaw.row rw_).toRowW.records s) (stL w (objs_f w.params) 942 os).abs).2.1 = bltViewBooted := by kernel_rfl
theorem s_2 (w : World) (os : OsState) : (seenQ qv names (importedModules pw.main.body) (fun s => xlAt qv lv s && recOk (OpenLaw.row rw_).toRowW.records s) (stL w (objs_f w.params) 942 os).abs).2.2.1 = true := by kernel_rfl
theorem s_3 (w : World) (os : OsState) : (seenQ qv names (importedModules pw.main.body) (fun s => xlAt qv lv s && recOk (OpenLaw.row rw_).toRowW.records s) (stL w (objs_f w.params) 942 os).abs).2.2.2.1 = true := by kernel_rfl
theorem s_4 (w : World) (os : OsState) : (seenQ qv names (importedModules pw.main.body) (fun s => xlAt qv lv s && recOk (OpenLaw.row rw_).toRowW.records s) (stL w (objs_f w.params) 942 os).abs).2.2.2.2.1 = pinGoodD (drecsOf qv) := by kernel_rfl
theorem s_5p (w : World) (os : OsState) : (seenQ qv names (importedModules pw.main.body) (fun s => xlAt qv lv s && recOk (OpenLaw.row rw_).toRowW.records s) (stL w (objs_f w.params) 942 os).abs).2.2.2.2.2.1 = plainGoodE qv lw := by kernel_rfl
theorem s_5 (w : World) (os : OsState) : (seenQ qv names (importedModules pw.main.body) (fun s => xlAt qv lv s && recOk (OpenLaw.row rw_).toRowW.records s) (stL w (objs_f w.params) 942 os).abs).2.2.2.2.2.1 = plainGoodE qv (looseW qv names) := (s_5p w os).trans (congrArg (plainGoodE qv) lw_is.symm)
theorem s_6 (w : World) (os : OsState) : (seenQ qv names (importedModules pw.main.body) (fun s => xlAt qv lv s && recOk (OpenLaw.row rw_).toRowW.records s) (stL w (objs_f w.params) 942 os).abs).2.2.2.2.2.2.1 = plainGoodD qv names := by kernel_rfl
theorem s_7 (w : World) (os : OsState) : (seenQ qv names (importedModules pw.main.body) (fun s => xlAt qv lv s && recOk (OpenLaw.row rw_).toRowW.records s) (stL w (objs_f w.params) 942 os).abs).2.2.2.2.2.2.2.1 = wideGood qv := by kernel_rfl
theorem s_8 (w : World) (os : OsState) : (seenQ qv names (importedModules pw.main.body) (fun s => xlAt qv lv s && recOk (OpenLaw.row rw_).toRowW.records s) (stL w (objs_f w.params) 942 os).abs).2.2.2.2.2.2.2.2 = clsGoodW qv names := by kernel_rfl
theorem k_3 (w : World) (os : OsState) : ob (stL w (objs_f w.params) 942 os) = hk.val w := by kernel_rfl
theorem looks (w : World) (os : OsState) : (fun S : SharedT => (looksF pw (boot_heap w.params) S.abs, seenQ qv names (importedModules pw.main.body) (fun s => xlAt qv lv s && recOk (OpenLaw.row rw_).toRowW.records s) S.abs, ob S)) (stL w (objs_f w.params) 942 os) = (true, openGood qv names, hk.val w) :=
  Prod.ext (k_1 w os) (Prod.ext (Prod.ext (s_0 w os) (Prod.ext (s_1 w os) (Prod.ext (s_2 w os) (Prod.ext (s_3 w os) (Prod.ext (s_4 w os) (Prod.ext (s_5 w os) (Prod.ext (s_6 w os) (Prod.ext (s_7 w os) (s_8 w os))))))))) (k_3 w os))
theorem left : LeftO pw qv names (fun s => xlAt qv lv s && recOk (OpenLaw.row rw_).toRowW.records s) hk.obs hk.val 5029 true :=
  left_cut (F := objs_f) (kF := 942) (lo := 11) (an := (some (.ref 6))) (M := (12 + (1 + (988 + (981 + (644 + (1092 + (609 + 2)))))))) ob_is (by kernel_rfl) (by rfl) (fun s => by kernel_rfl) (by kernel_rfl) (fun w => by kernel_rfl) (fun w => by kernel_rfl) run_all (fun w os => looks w os)
end HX
end
namespace NC
open PySem PySem.Spec PyProof.Rows L2
def sg (c : Nat) : Str := ⟨#[c]⟩
def sgs (x : Str) : List Str := x.cps.toList.map sg
section
variable {X : Cx}
theorem mt_swap : MtR X "str.swapcase" (fun x xs H Q => ∃ a, x = .str a ∧ xs = [] ∧ a.length ≤ 1000 ∧ Q (.str (Txt.swapcase a)) H) :=
  mt0 (C := fun a => a.length ≤ 1000) (g := fun a => .str (Txt.swapcase a)) fun a _ s _ hc h =>
    PySem.SC.swapcase (short24 (by have h1 : a.length ≤ 1000 := hc; have := len_swapcase a; omega)) (h _ (s.toks + 1) ⟨_, rfl⟩)
theorem items_strs {x : Str} {acc : Array Value} (h : ItemsOf (SignAt x) acc x.cps.size) : StrsAre acc.toList (sgs x) := by
  refine strs_at (by simp [sgs, h.1]) fun j v e => ?_
  obtain ⟨c, u, hc, hv⟩ := h.2 j v (by simpa using e)
  exact ⟨sg c, u, by simp [sgs, hc], hv⟩
/-- list(text) -/
theorem cr_listS (hc : X.calm = true) : CallR X (.type "list") (fun xs H Q => ∃ z, xs = [.str z] ∧ z.length ≤ sizeLine ∧ ∀ l, H l = none → Q (.ref l) (upd H l (.lst ((sgs z).map V.str)))) := by
  intro pins s σ H xs us Q I r h
  obtain ⟨z, rfl, hz, q⟩ := h
  obtain ⟨u, rfl, t, rfl⟩ := vals1 r
  refine call_list_str (I.ok.hd hc) z t (hn := hz) fun h' tk acc' c' hk hS' hacc => ?_
  have hl : ((sgs z).map V.str).length ≤ sizeLine := by
    rw [List.length_map]; unfold sgs; rw [List.length_map, Array.length_toList]; exact hz
  refine ⟨.ref s.heap.objs.size, upd H s.heap.objs.size (.lst ((sgs z).map V.str)), I.laid hk (Nat.le_refl _) ⟨hl, acc'.toList, c', vals_of_strs (items_strs hacc), by simpa using hS'⟩, rfl, q _ (I.hok.fresh (Nat.le_refl _))⟩
/-- sorted(v), where what is gathered of v are fewer than 64 texts -/
theorem srt_str {pins : List (Addr × Obj)} {s : Shared} {σ : L2.St} {H : Hp} {Q : VK} (I : Inv X pins σ H s) (v : Value) (ks : List Str) (h64 : ks.length < 64)
    (hcol : ∀ (E : Value → Shared → Prop) (Q' : List Value → Shared → Prop), (∀ s' out ks', s'.os = s.os → s'.gens = s.gens → (∀ b o, s.heap.get? b = some o → s'.heap.get? b = some o) → StrsAre out ks' → ks'.Perm ks → Q' out s') →
      wpAny (model X.prog X.w) X.A.in1 (collect v) Q' E s)
    (q : ∀ ys p, ys.Perm ks → sortedS ys = true → H p = none → Q (.ref p) (upd H p (.lst (ys.map V.str)))) :
    wpAny (model X.prog X.w) X.A (call (.builtin "sorted") [v]) (EP X pins σ Q) X.xe s := by
  have go : wpAny (model X.prog X.w) X.A.in1 (collect v) (fun out s1 => ∃ ks', s1.os = s.os ∧ s1.gens = s.gens ∧ (∀ b o, s.heap.get? b = some o → s1.heap.get? b = some o) ∧ StrsAre out ks' ∧ ks'.Perm ks) X.xe s := hcol _ _ fun s1 out ks' e1 e2 e3 e4 e5 => ⟨ks', e1, e2, e3, e4, e5⟩
  refine Calls.call_function_entry PyProof.Rows.kind_sorted PyProof.Rows.plain_sorted PyProof.Rows.entry_sorted (PyProof.Rows.args_sorted1 _) (show wpAny _ X.A.in1 (Builtin.«sorted» _) _ _ _ from ?_)
  unfold Builtin.«sorted»
  refine wpAny_bind (wpAny_pure (wpAny_bind (thn go fun out t g => ?_)))
  obtain ⟨ks', io, gn, stay, sts, perm⟩ := g
  have J : Inv X pins σ H t := I.call' (ch := []) io (Un.kept stay) (I.hok.kept stay) (gn.symm ▸ I.bare) nofun
  have few : out.length < 64 := by
    have l1 := StrsAre.len_eq sts
    have l2 := perm.length_eq
    omega
  obtain ⟨hp, gs, dr, tk, os⟩ := t
  have lst : (hp.push (seqObj "list" out.toArray 0)).get? hp.objs.size = some (seqObj "list" out.toArray 0) := Heap.get?_push_size _ rfl
  refine wpAny_bind (wpAny_newList (wpAny_bind (wpAny_holding (wpAny_call_entry PyProof.Rows.slot_list_sort ⟨_, lst, rfl⟩ PyProof.Rows.entry_list_sort (list_sort_treeK strKind_oneLt lst sts.keysOf (fun _ _ _ e => keyKind_strs (e ▸ sts)) few fun st p1 p2 => ⟨_, rfl, ?_⟩)
    (PyProof.Rows.args_list_sort _)))) (by rw [sizeLine_eq]; omega))
  obtain ⟨ys, is, py, so⟩ := sorted_out_str sts p1 p2
  obtain ⟨ep, at_⟩ := PyProof.Rows.sortedHeap_at (vs := out) (out := (arrOf st).map (·.2)) lst
  have pk : ys.Perm ks := py.trans perm
  have sz : (ys.map V.str).length ≤ sizeLine := by
    have l3 := pk.length_eq
    rw [sizeLine_eq, List.length_map]
    omega
  have old : ∀ (b : Addr) (o : Obj), hp.get? b = some o → (sortedHeap (hp.push (seqObj "list" out.toArray 0)) hp.objs.size out ((arrOf st).map (·.2))).get? b = some o := fun b o e => by
    have lo := Heap.lt_size e
    rw [PyProof.Rows.sortedHeap_old (Nat.ne_of_lt lo) (by rw [size_push']; exact Nat.lt_succ_of_lt lo), Heap.get?_push_of_some _ e]
  exact wpAny_pure ⟨_, rfl, .ref hp.objs.size, upd H hp.objs.size (.lst (ys.map V.str)), J.laid (t' := tk) old (Nat.le_refl _) (show ObjOk X.prog X.w _ _ _ (.lst (ys.map V.str)) from ⟨sz, ((arrOf st).map (·.2)).toList, ep, vals_of_strs is, Array.toArray_toList.symm ▸ at_⟩), rfl, q ys _ pk so (J.hok.fresh (Nat.le_refl _))⟩
/-- sorted(text) -/
theorem cr_sortedT (hc : X.calm = true) : CallR X (.builtin "sorted") (fun xs H Q => ∃ z, xs = [.str z] ∧ z.length < 64 ∧ ∀ ys p, ys.Perm (sgs z) → sortedS ys = true → H p = none → Q (.ref p) (upd H p (.lst (ys.map V.str)))) := by
  intro pins s σ H xs us Q I r h
  obtain ⟨z, rfl, hz, q⟩ := h
  obtain ⟨u, rfl, t, rfl⟩ := vals1 r
  have hl : (sgs z).length < 64 := by unfold sgs; rw [List.length_map, Array.length_toList]; exact hz
  refine srt_str I (.str z t) (sgs z) hl (fun E Q' hQ => ?_) q
  refine wpAny_collect_str (A := X.A.in1) (I.ok.hd hc) z t (hn := by show z.length ≤ sizeLine; rw [sizeLine_eq]; omega) fun s' acc hk hg hd ho hacc => ?_
  exact hQ s' _ _ ho hg hk (items_strs hacc) (List.Perm.refl _)
end
end NC
namespace NC
open PySem PySem.Spec PyProof.Rows L2
section
variable {X : Cx} {CX : CXT} {k : Nat} {C f : Addr} {mc : Value} {sp : Sp} {E : XK} {e : Expr} {es : List Expr} {x m : Str} {pos p1 p2 : Pos} {t : TA} {pl : Sem Bool}
  {fd : FuncData} {ps : List Str} {dvs : List V} {ds : List Value}
/-- C.m(e, ..), C an own class by its name, m a plain def of it -/
theorem pe_clsfn (hg : Gl X x) (hm : X.mg x = some (.ref C)) (rd : ClX.CRead X.K C mc) (kv : PySem.W.findCls X.K (.ref C) mc m = some (.val (.ref f)))
    (F : FnOk X.prog X.w X.K X.mg X.base CX k f fd ps sp) (hr : Room k X.A) (hk : PySem.W.keepIn X.K (.ref f) = true) (hb : Binds X.K fd ps ds) (hd : Vals dvs ds) (hx : Passes CX X E) (ha : PA X (e :: es) t)
    (hdb : (x == ("__debug__" : Str)) = false := by decide)
    (hst : starEach (e :: es) X.env = (false, eval e X.env) :: starEach es X.env := by rfl) (hpl : (backTo pos (starEach es X.env)).any (·.1) = false := by rfl)
    (ht : eval (.Call (.Attribute (.Name x p1) m p2) (e :: es) [] pos) X.env = (do
      let ov ← eval (.Name x p1) X.env
      standAt p2.atName
      let (g, first) ← holding [ov] (getMethod ov m pl)
      callWith pos g first (backTo pos (starEach (e :: es) X.env)) (backToKw pos (keywordEach [] X.env))) := by rfl) :
    PE X (.Call (.Attribute (.Name x p1) m p2) (e :: es) [] pos) (tCall sp dvs E t) := by
  refine ⟨fun pins s0 σ H Q I0 h0 => ?_⟩
  refine PySem.W.methodCall_KW (pl := pl) (ld_glob I0 hg hm ?_ hdb) ht
  refine PySem.W.method_cls I0.kIn rd.ga (ClX.getcval_ok (v := .ref f) I0 rd ⟨kv, rfl⟩ fun s1 I1 => ?_)
  refine PySem.W.callWith_K (first := []) (h₀ := X.base) I1.ok.mod.kin hk (thn (ha.run pos pins s1 σ H _ I1 h0) fun us s2 ⟨vs, H2, I2, r2, q2⟩ => ⟨I2.kIn, ?_⟩) hst hpl
  exact run_fn (us := us) (vs := vs) F hr hb hd hx I2 r2 q2
end
end NC
namespace NC
open PySem PySem.Spec PyProof.Rows L2
open PySem.Froz (SD sObj runD addTx tailTx TxOk sing itObj finU two)
/-- the table rises and may be walked -/
def TxG (b : Bool) (D : SD) : Prop := Ris D.2.2.place.toList ∧ D.2.2.led = b
theorem txg_tail {b : Bool} {ep : Nat} {es : Array (Int × Value)} {t : SetTable} {d : Bool} (h : Ris t.place.toList ∧ t.led = b) : TxG b (tailTx ep es t d) := by
  unfold tailTx
  by_cases c : (!d && t.tooFull) = true
  · rw [if_pos c]; exact ⟨relayAll_ris _ _ _, (relayAll_led _ _ _).trans h.2⟩
  · rw [if_neg c]; exact h
theorem txg_add {b : Bool} {D : SD} {hv : Int} {v : Value} (h : TxG b D) : TxG b (addTx hv v D) := by
  unfold addTx
  have h1 := layNew_ris D.2.2 D.1 hv v h.1
  have h2 := (layNew_led D.2.2 D.1 hv v).trans h.2
  refine txg_tail ?_
  split
  · exact ⟨h1, h2⟩
  · exact ⟨h1, h2⟩
theorem run_good {P : Program} {w : World} {b : Bool} : ∀ (cs : List Nat) (tk : Tok) (D : SD) (l : List Str), TxG b D → TxOk P w D l → ∃ l', TxG b (runD w cs tk D) ∧ TxOk P w (runD w cs tk D) l' ∧ l'.Perm (l ++ cs.map sg)
  | [], tk, D, l, g, o => ⟨l, g, o, by simp⟩
  | c :: r, tk, D, l, g, o => by
    obtain ⟨l', g', o', p⟩ := run_good r (tk + 2) _ (sing c :: l) (txg_add g) (Froz.add_ok (k := sing c) tk o)
    refine ⟨l', g', o', p.trans ?_⟩
    show (sg c :: (l ++ r.map sg)).Perm (l ++ (sg c :: r.map sg))
    exact List.perm_middle.symm
theorem loop_txt {P : Program} {w : World} {A : Around} {R : Result → Shared → Prop} {s : Shared} {a it : Addr} {x : Str} {u : Tok} {led : Bool} (hh : A.handled = none) (hne : a ≠ it)
    (ha : s.heap.get? a = some (sObj "set" (#[], 0, .fresh 0 0 led))) (hit : s.heap.get? it = some (itObj x u 0)) (hnd : x.cps.toList.Nodup) (hb : x.cps.toList.length < 64)
    (h : ∀ (h' : Heap) (tk : Nat) (D : SD) (l : List Str), h'.get? a = some (sObj "set" D) → TxG led D → TxOk P w D l → l.Perm (sgs x) →
      (∀ b o, b ≠ a → b ≠ it → s.heap.get? b = some o → h'.get? b = some o) → R (.ok (.ret .none)) { s with heap := h', toks := tk }) :
    codeAny (model P w) A (.builtin "set.update.loop" ⟨[.ref a, .ref it], []⟩) R s := by
  have g0 : TxG led ((#[], 0, .fresh 0 0 led) : SD) := ⟨List.Pairwise.nil, rfl⟩
  have o0 : TxOk P w ((#[], 0, .fresh 0 0 led) : SD) [] := Froz.TxOk.nil rfl
  obtain ⟨l', g1, o1, p1⟩ := run_good (P := P) (w := w) x.cps.toList s.toks _ [] g0 o0
  refine Froz.code_update (T := "set") (u := u) hne hh x.cps.toList 0 _ [] s rfl ha hit o0 (fun c _ z => nomatch z) hnd (by show 0 + x.cps.toList.length < scanBound; unfold scanBound; omega) ?_
  unfold finU two
  have e1 := Froz.get_upd (sObj "set" (runD w x.cps.toList s.toks (#[], 0, .fresh 0 0 led))) ha rfl
  refine h _ _ _ l' (Heap.get?_push_of_some _ (Heap.get?_push_of_some _ (Heap.get?_update_of_ne _ (Ne.symm hne) e1))) g1 o1 (p1.trans (by simp [sgs])) fun b o h1 h2 e => ?_
  exact Heap.get?_push_of_some _ (Heap.get?_push_of_some _ (Heap.get?_update_of_ne _ (Ne.symm h2) (Heap.get?_update_of_ne _ (Ne.symm h1) e)))
set_option maxHeartbeats 3200000 in
/-- set(text), its signs unlike -/
theorem call_set_txt {P : Program} {w : World} {A : Around} {E : Value → Shared → Prop} {s : Shared} {x : Str} {t : Tok} {Q : Value → Shared → Prop} (hh : A.handled = none) (hA : x.cps.all (· < 128) = true)
    (hnd : x.cps.toList.Nodup) (hb : x.cps.toList.length < 64)
    (h : ∀ (h' : Heap) (tk : Nat) (D : SD) (l : List Str), h'.get? s.heap.objs.size = some (sObj "set" D) → TxG (!w.params.followText "set-order") D → TxOk P w D l → l.Perm (sgs x) →
      (∀ b o, s.heap.get? b = some o → h'.get? b = some o) → Q (.ref s.heap.objs.size) { s with heap := h', toks := tk }) :
    wpAny (model P w) A (call (.type "set") [.str x t]) Q E s := by
  obtain ⟨c, tl, hmro⟩ := PySem.F.called_set.mro
  have hmade := PySem.F.called_set.made
  have hsub := PySem.F.called_set.sub
  generalize hled : (!w.params.followText "set-order") = led at h
  refine wpAny_call (codeAny_of_tree ?_)
  show wpAny _ _ (callAny (.type "set") _) _ _ _
  refine wpAny_pure ⟨Code.quiet_builtin _ (by decide +kernel), codeAny_builtin PySem.F.entry_type_call ?_⟩
  rw [Around.under_plain (weight_type_call_type "set" [.str x t] []) rfl]
  have n1 := PySem.F.called_set.notType
  have n2 := PySem.F.called_set.canCreate
  have hct := PySem.F.typeCall_set_1 (.str x t)
  repeat (any_goals (first | assumption | wp_step))
  refine codeAny_mono (code_set_led1 (.str x t) (E := E) (Q₁ := fun ob s1 => ob = .ref s.heap.objs.size ∧ s1 = { s with heap := s.heap.push (sObj "set" (#[], 0, .fresh 0 0 led)) }) ⟨rfl, by rw [hled]; rfl⟩) fun r s1 hr => ?_
  cases r with
  | error e => exact hr
  | ok fl =>
    cases fl with
    | ret ob =>
      obtain ⟨rfl, rfl⟩ := hr
      have hS : (s.heap.push (sObj "set" (#[], 0, .fresh 0 0 led))).get? s.heap.objs.size = some (sObj "set" (#[], 0, .fresh 0 0 led)) := Heap.get?_push_size _ rfl
      have hT : Shared.TypeIs { s with heap := s.heap.push (sObj "set" (#[], 0, .fresh 0 0 led)) } (.ref s.heap.objs.size) "set" := ⟨_, hS, rfl⟩
      have hli := PySem.F.called_set.init.lookup
      have hbi := PySem.F.called_set.init.bind (.ref s.heap.objs.size)
      repeat (any_goals (first | assumption | wp_step))
      refine codeAny_mono (codeAny_call_builtin (R := wants (fun r s2 => r = .none ∧ Q (.ref s.heap.objs.size) s2) E) PySem.F.called_set.init.plain PySem.F.entry_set_init (check_set_init_1 hT ?_)) fun r2 s2 hr2 => ?_
      · unfold Builtin.«set.__init__» noKeywords Builtin.Frozenset.updateFrom
        have b1 : isSubtype (.type "str") (.type "set") = pure false := by rw [isSubtype_type]; kernel_rfl
        have b2 : isSubtype (.type "str") (.type "frozenset") = pure false := by rw [isSubtype_type]; kernel_rfl
        have b3 : (Value.type "str" == Value.type "dict") = false := by decide
        generalize hPI : pyIter = PI
        wp_walk
        subst hPI
        refine wpAny_pyIter_ascii hA ?_
        refine wpAny_bind (wpAny_runValue ?_)
        have hz : (s.heap.push (sObj "set" (#[], 0, .fresh 0 0 led))).objs.size = s.heap.objs.size + 1 := Heap.size_push ..
        refine loop_txt (A := A.in1.in1) (u := t) (by simp [hh]) (by show s.heap.objs.size ≠ (s.heap.push _).objs.size; rw [hz]; omega) (Heap.get?_push_of_some _ hS) (Heap.get?_push_size _ rfl) hnd hb fun h' tk D l e1 e2 e3 e4 e5 => ?_
        refine wpAny_pure ?_
        show wpAny _ _ (ret Value.none) _ _ _
        refine wpAny_pure ⟨rfl, h h' tk D l e1 e2 e3 e4 fun b o e => e5 b o ?_ ?_ (Heap.get?_push_of_some _ (Heap.get?_push_of_some _ e))⟩
        · exact Nat.ne_of_lt (Heap.lt_size e)
        · show b ≠ (s.heap.push _).objs.size
          rw [hz]
          exact Nat.ne_of_lt (Nat.lt_succ_of_lt (Heap.lt_size e))
      · cases r2 with
        | error e => exact hr2
        | ok f2 =>
          cases f2 with
          | ret r =>
            obtain ⟨rfl, hq⟩ := hr2
            repeat (any_goals (first | assumption | wp_step))
          | _ => exact hr2.elim
    | _ => exact hr.elim
/-- a set of the texts l -/
def SetTx (P : Program) (w : World) (a : Addr) (l : List Str) : HO := .ext fun h => ∃ D : SD, h.get? a = some (sObj "set" D) ∧ TxG (!w.params.followText "set-order") D ∧ TxOk P w D l
section
variable {X : Cx}
theorem setTx_ok {H : Hp} {h : Heap} {a : Addr} {l : List Str} {D : SD} (e : h.get? a = some (sObj "set" D)) (g : TxG (!X.w.params.followText "set-order") D) (o : TxOk X.prog X.w D l) : ObjOk X.prog X.w H h a (SetTx X.prog X.w a l) :=
  ⟨⟨D, e, g, o⟩, ⟨_, e⟩, fun h1 h2 ⟨D', e', r'⟩ k => ⟨D', k _ e', r'⟩⟩
theorem cr_setT (hc : X.calm = true) : CallR X (.type "set") (fun xs H Q => ∃ z, xs = [.str z] ∧ z.cps.all (· < 128) = true ∧ z.cps.toList.Nodup ∧ z.cps.toList.length < 64 ∧
    ∀ p l, H p = none → l.Perm (sgs z) → Q (.ref p) (upd H p (SetTx X.prog X.w p l))) := by
  intro pins s σ H xs us Q I r h
  obtain ⟨z, rfl, hA, hn, hl, q⟩ := h
  obtain ⟨u, rfl, t, rfl⟩ := vals1 r
  refine call_set_txt (P := X.prog) (w := X.w) (I.ok.hd hc) hA hn hl fun h' tk D l e1 e2 e3 e4 e5 => ?_
  exact ⟨.ref s.heap.objs.size, _, I.laid e5 (Nat.le_refl _) (setTx_ok e1 e2 e3), rfl, q _ l (I.hok.fresh (Nat.le_refl _)) e4⟩
theorem strs_map : ∀ vs : List Value, (∀ v ∈ vs, ∃ y u, v = Value.str y u) → StrsAre vs (vs.map strOf)
  | [], _ => .nil
  | v :: r, h => by
    obtain ⟨y, u, rfl⟩ := h v (List.mem_cons_self ..)
    exact .cons y u (strs_map r fun z hz => h z (List.mem_cons_of_mem _ hz))
theorem strs_perm {vs out : List Value} {ks : List Str} (h : StrsAre vs ks) (p : out.Perm vs) : ∃ ks', StrsAre out ks' ∧ ks'.Perm ks := by
  refine ⟨_, strs_map out fun v hv => h.all v (p.mem_iff.mp hv), ?_⟩
  rw [← h.strs]
  exact p.map _
theorem nd_perm : ∀ (l ks : List Str), l.Nodup → (∀ y ∈ l, y ∈ ks) → ks.length ≤ l.length → ks.Perm l
  | [], ks, _, _, h => by
    have e : ks = [] := List.length_eq_zero_iff.mp (by simpa using h)
    rw [e]
  | y :: r, ks, hn, hs, h => by
    obtain ⟨n1, n2⟩ := List.nodup_cons.mp hn
    have m : y ∈ ks := hs y (List.mem_cons_self ..)
    have hl := List.length_erase_of_mem m
    have q := nd_perm r (ks.erase y) n2 (fun z hz => (List.mem_erase_of_ne (fun e : z = y => n1 (by rw [← e]; exact hz))).mpr (hs z (List.mem_cons_of_mem _ hz))) (by
      rw [List.length_cons] at h
      omega)
    exact (List.perm_cons_erase m).trans (q.cons y)
theorem tx_strs {P : Program} {w : World} {D : SD} {l : List Str} (o : TxOk P w D l) (hn : l.Nodup) : ∃ ks, StrsAre (D.1.toList.map (·.2)) ks ∧ ks.Perm l := by
  have sh : ∀ e ∈ D.1.toList, ∃ k u, e.2 = Value.str k u ∧ (strKind P w).is k e.2 = true := fun e he => by
    obtain ⟨⟨k, hk, _⟩, _⟩ := o.el e he
    obtain ⟨u, eu⟩ := Value.isStrOf_shape (x := k) (v := e.2) hk
    exact ⟨k, u, eu, hk⟩
  refine ⟨_, strs_map _ fun v hv => ?_, nd_perm l _ hn (fun k hk => ?_) ?_⟩
  · obtain ⟨e, he, rfl⟩ := List.mem_map.mp hv
    obtain ⟨k, u, eu, _⟩ := sh e he
    exact ⟨k, u, eu⟩
  · obtain ⟨e, he, z⟩ := (o.mem k).mp hk
    obtain ⟨u, eu⟩ := Value.isStrOf_shape (x := k) (v := e.2) z
    refine List.mem_map.mpr ⟨e.2, List.mem_map.mpr ⟨e, he, rfl⟩, ?_⟩
    rw [eu]
    rfl
  · rw [List.length_map, List.length_map, Array.length_toList, o.sz]
    exact Nat.le_refl _
theorem cr_sortedSetT (hc : X.calm = true) : CallR X (.builtin "sorted") (fun xs H Q => ∃ a l, xs = [.ref a] ∧ H a = some (SetTx X.prog X.w a l) ∧ l.Nodup ∧ l.length < 64 ∧
    ∀ ys p, ys.Perm l → sortedS ys = true → H p = none → Q (.ref p) (upd H p (.lst (ys.map V.str)))) := by
  intro pins s σ H xs us Q I r h
  obtain ⟨a, l, rfl, ha, hn, hl, q⟩ := h
  rw [Vals.ref1 r]
  obtain ⟨⟨D, e, g, o⟩, _, _⟩ := I.hok a _ ha
  obtain ⟨ks, hS, hp⟩ := tx_strs o hn
  have hsz : D.1.size < scanBound := by rw [o.sz]; unfold scanBound; omega
  refine srt_str I (.ref a) l hl (fun E Q' hQ => ?_) q
  refine collect_set (A := X.A.in1) (P := X.prog) (w := X.w) (es := D.1) (ep := D.2.1) (t := D.2.2) (I.ok.hd hc) ⟨_, e, rfl, rfl⟩ o.fit hsz g.1 ?_ fun s' out k1 k2 k3 k4 k5 => ?_
  · rw [g.2]
    cases X.w.params.followText "set-order"
    · exact .inr rfl
    · exact .inl rfl
  · obtain ⟨ks', hS', hp'⟩ := strs_perm hS k5
    exact hQ s' out ks' k4 k3 k1 hS' (hp'.trans hp)
end
end NC
namespace NC
open PySem PySem.Spec PyProof.Rows L2
/-- the two objects that enumerate(t) lays, t at l -/
abbrev titO (l : Addr) : Obj := { cls := .type "tuple_iterator", data := .fields #[.ref l, .int 0 0] }
abbrev enuO (it : Addr) : Obj := { cls := .type "enumerate", data := .fields #[.none, .bool false, .ref it, rawInt 0, .none, .none] }
theorem meets_enumT (l : Addr) (ob : Obj) (items : Array Value) (n : Nat) (hc : ob.cls = .type "tuple") (hd : ob.data = .seq items n) :
    Meets (Builtin.«enumerate.__new__» ⟨[.type "enumerate", .ref l], []⟩) (fun _ R s => s.heap.get? l = some ob ∧ R (.ok (.ret (.ref (s.heap.push (titO l)).objs.size))) { s with heap := (s.heap.push (titO l)).push (enuO s.heap.objs.size) }) :=
  .of_wp fun P w A R t h => by
    obtain ⟨oc, od, dt, sl⟩ := ob
    cases (show oc = _ from hc)
    cases (show dt = _ from hd)
    have tup : t.heap.IsTuple l items := ⟨_, h.1, rfl, n, rfl⟩
    have sb := sub_enumerate
    obtain ⟨hp, g, d, tk, os⟩ := t
    have ld := h.1
    wp_walk using AutoSeq1.wpAny_loadPart' ld
    refine wpAny_stack_any fun _ => wpAny_pure ?_
    split
    · rename_i k _ _ _ _ _
      cases (k == Value.type "enumerate") <;> (wp_walk using AutoSeq1.wpAny_loadPart' ld, wpAny_pyIter_tuple tup; exact ⟨_, rfl, h.2⟩)
    · wp_walk using AutoSeq1.wpAny_loadPart' ld, wpAny_pyIter_tuple tup
      exact ⟨_, rfl, h.2⟩
theorem call_enumT {P : Program} {w : World} {A : Around} {E Q : Value → Shared → Prop} {t : Shared} {l : Addr} {items : Array Value} (tup : t.heap.IsTuple l items)
    (h : ∀ g, IsEnum g (t.heap.objs.size + 1) t.heap.objs.size 0 .none → g.IsTupleIter t.heap.objs.size l 0 → (∀ b o, t.heap.get? b = some o → g.get? b = some o) → Q (.ref (t.heap.objs.size + 1)) { t with heap := g }) :
    wpAny (model P w) A (call (.type "enumerate") [.ref l]) Q E t := by
  obtain ⟨ob, ho, oc, n, od⟩ := tup
  have sz : (t.heap.push (titO l)).objs.size = t.heap.objs.size + 1 := Heap.size_push ..
  have laid : IsEnum ((t.heap.push (titO l)).push (enuO t.heap.objs.size)) (t.heap.objs.size + 1) t.heap.objs.size 0 .none := by
    have z := Heap.get?_push_size (t.heap.push (titO l)) (o := enuO t.heap.objs.size) rfl
    exact sz ▸ z
  refine callType_new F.called_enumerate (by decide) (F.typeCall_enumerate_1 _) (F.newCall_enumerate_1 _) (fun z => F.args_object_init_2 z _) F.entry_enumerate_new (meets_enumT l ob items n oc od) ⟨ho, ?_⟩
  show _ ∧ _
  rw [sz]
  exact ⟨⟨_, laid, rfl⟩, h _ laid ⟨_, Heap.get?_push_of_some _ (Heap.get?_push_size _ rfl), rfl, rfl⟩ fun _ _ z => Heap.get?_push_of_some _ (Heap.get?_push_of_some _ z)⟩
/-- the walk: at turn i a new pair of i and the item -/
def ItET (K : PySem.W.Frag) (a : Addr) : It :=
  ⟨fun i H => ∃ (xs : List V) (x : V), SqT K H a xs ∧ xs[i]? = some x, fun i H v H' => ∃ T x, v = .ref T ∧ H T = none ∧ H' = upd H T (.tup [.int (i : Nat), x]) ∧ ∀ xs, SqT K H a xs → xs[i]? = some x,
    fun i H => ∃ xs : List V, SqT K H a xs ∧ xs.length ≤ i⟩
/-- the state ahead of turn i: the enumerate object at e, its iterator at it -/
def AtE (a e it : Addr) (i : Nat) (h : Heap) : Prop := (∃ last, IsEnum h e it ((i : Nat) : Int) last) ∧ h.IsTupleIter it a i ∧ e ≠ it
theorem AtE.apart {a e it : Addr} {i : Nat} {h : Heap} {vs : Array Value} (st : AtE a e it i h) (t : h.IsTuple a vs) : a ≠ it ∧ e ≠ a := by
  obtain ⟨⟨_, g1⟩, ⟨o2, g2, c2, _⟩, _⟩ := st
  obtain ⟨o3, g3, c3, _⟩ := t
  have g1 : h.get? e = _ := g1
  refine ⟨fun z => ?_, fun z => ?_⟩
  · rw [z, g2] at g3
    exact absurd (c2.symm.trans ((Option.some.inj g3) ▸ c3)) (by decide)
  · rw [z, g3] at g1
    have c4 : o3.cls = .type "enumerate" := (Option.some.inj g1) ▸ rfl
    exact absurd (c3.symm.trans c4) (by decide)
theorem AtE.olds {a e it : Addr} {i : Nat} {h : Heap} (st : AtE a e it i h) {b : Addr} (m : b ∈ [e, it]) : b < h.objs.size := by
  obtain ⟨⟨_, g1⟩, ⟨o2, g2, _⟩, _⟩ := st
  rcases List.mem_cons.mp m with rfl | m
  · exact Heap.lt_size g1
  · exact (List.mem_singleton.mp m) ▸ Heap.lt_size g2
theorem turn_enumT {P : Program} {w : World} {K : PySem.W.Frag} {elts : List Expr} {kk : Nat} {tpos : Pos} (a e it : Addr) : Turn P w K (.Tuple elts kk tpos) (ItET K a) [e, it] e (AtE a e it) where
  mem := .head _
  obj := fun i h st b m => by
    rcases List.mem_cons.mp m with rfl | m
    · exact st.1.elim fun _ g => ⟨_, g, nofun⟩
    · obtain ⟨o, g, _, k⟩ := st.2.1
      exact ⟨o, (List.mem_singleton.mp m) ▸ g, fun v z => nomatch k.symm.trans z⟩
  keep := fun i h h' st k => ⟨st.1.imp fun _ g => k e (.head _) _ g, st.2.1.at fun o g => k it (.tail _ (.head _)) o g, st.2.2⟩
  item := by
    rintro X rfl rfl rfl calm i ps t σ H E I fre st ⟨xs, x, sq, ax⟩
    obtain ⟨its, vl, tp, _⟩ := I.tuple sq
    have tup : t.heap.IsTuple a its.toArray := tp
    obtain ⟨u, au, rel⟩ := vl.get ax
    have lt : i < its.toArray.size := by simpa using (List.getElem?_eq_some_iff.mp au).1
    obtain ⟨n1, n2⟩ := st.apart tup
    obtain ⟨_, enu⟩ := st.1
    have old : e < t.heap.objs.size := st.olds (.head _)
    refine wpAny_pyNext_enum_itemD (Draws.tuple (prog := X.prog) (w := X.w) (A := X.A.in1) (I.ok.hd calm) it a n1 its.toArray) enu ⟨st.2.1, tup⟩ lt st.2.2 (by simp [st.2.2, n2]) fun y g tk ay own on pair _ stay => ?_
    obtain rfl : y = u := Option.some.inj ((show its[i]? = some y by simpa using ay).symm.trans au)
    refine ⟨_, rfl, wpAny_letOwnedTupleGo_enum (s := { t with heap := g, toks := tk + 1 }) own fun g2 enu2 but => ?_⟩
    have pair2 : g2.get? t.heap.objs.size = some { cls := .type "tuple", data := .seq #[.int i tk, y] } := (but.2 _ (Nat.ne_of_gt old)).trans pair
    refine ⟨.ref t.heap.objs.size, upd H t.heap.objs.size (.tup [.int (i : Nat), x]), I.turnedNew (ch := [e, it]) (fun b o nb z => (but.2 b fun q => nb (by simp [q])).trans (stay b o (fun q => nb (by simp [q])) (fun q => nb (by simp [q])) z)) fre (Nat.le_refl _)
        ⟨by show 2 ≤ sizeLine; decide, [.int i tk, y], .cons ⟨_, rfl⟩ (.cons rel .nil), ⟨_, pair2, rfl, _, rfl⟩⟩, rfl, ⟨_, x, rfl, I.hok.fresh (Nat.le_refl _), rfl, fun ys sy => I.tuple_inj sy sq ▸ ax⟩, ⟨⟨y, ?_⟩, on.1.at fun o z => (but.2 it (Ne.symm st.2.2)).trans z, st.2.2⟩, fun b m => ?_⟩
    · exact (show ((i + 1 : Nat) : Int) = (i : Int) + 1 by omega) ▸ enu2
    · exact (upd_ne (Nat.ne_of_lt (st.olds m))).trans (fre b m).1
  done := by
    rintro X rfl rfl rfl calm i ps t σ H E I fre st ⟨xs, sq, le⟩
    obtain ⟨its, vl, tp, _⟩ := I.tuple sq
    have tup : t.heap.IsTuple a its.toArray := tp
    obtain ⟨_, enu⟩ := st.1
    have ty : t.TypeIs (.ref e) "enumerate" := ⟨_, enu, rfl⟩
    have end_ : its.toArray[i]? = none := by
      have := vl.length
      simp
      omega
    have fr := fre it (.tail _ (.head _))
    unfold pyNext
    refine wpAny_bind (wpAny_attempt (wpAny_callSpecial?_slot (name := Str.ofString "__next__") ty F.slot_enumerate_next (wpAny_call_entry F.slot_enumerate_next ty F.entry_enumerate_next ?_ (F.args_enumerate_next_1 _))))
    show wpAny _ _ (field (.ref e) 2 >>= fun _ => _) _ _ _
    refine wpAny_bind (wpAny_field enu rfl (x := .ref it) rfl (wpAny_bind (wpAny_nextOf_tuple_end (I.ok.hd calm) st.2.1 tup end_ fun g z but hz => ?_)))
    exact wpAny_bind (wpAny_isInstance (T := "StopIteration") (b := true) hz isSubtype_stop (wpAny_pure ⟨rfl, I.turned (t' := t.toks) (fun b o nb q => but b o nb q) fr.1 fr.2.1 fr.2.2.2.1 fr.2.2.2.2.1 fr.2.2.2.2.2⟩))
  self := fun _ _ _ _ _ st h => st.1.elim fun _ g => wpAny_pyIter_enum g h
def iEnumT (K : PySem.W.Frag) (ta : TA) : TI := fun σ H R => ta σ H fun vs H1 => ∃ a, vs = [.ref a] ∧ ((∃ xs, SqL K H1 a xs) ∧ R (Ite K a) H1 ∨ (∃ xs, SqT K H1 a xs) ∧ R (ItET K a) H1)
/-- enumerate of a list or of a tuple -/
theorem pi_enumT {X : Cx} {e : Expr} {ta : TA} {p pos tpos : Pos} {elts : List Expr} {kk : Nat} (gl : Gl X "enumerate") (bi : X.mg "enumerate" = none) (arg : PA X [e] ta) (one : starEach [e] X.env = [(false, eval e X.env)] := by rfl) :
    PI X (.Tuple elts kk tpos) (.Call (.Name "enumerate" p) [e] [] pos) (iEnumT X.K ta) := by
  refine ⟨fun ps t σ H R I h => Call_ (ld_blt I gl bi boot_enumerate (PyProof.Rows.callWith_type1 (thn (arg.run pos ps t σ H _ I h) fun us v r => ?_) one rfl))⟩
  obtain ⟨vs, G, J, rv, a, rfl, r⟩ := r
  cases Vals.ref1 rv
  have new : ∀ b ∈ [v.heap.objs.size + 1, v.heap.objs.size], FpOk X ps G b := fun b m => by
    have up : v.heap.objs.size ≤ b := by
      simp at m
      omega
    exact J.fpOk up (J.hok.fresh up)
  rcases r with ⟨⟨xs, sq⟩, r⟩ | ⟨⟨xs, sq⟩, r⟩
  · obtain ⟨_, _, k, _⟩ := J.list sq
    exact call_enumerate_list k.isList fun g enu iter _ stay => wpAny_pyIter_enum enu ⟨v.heap.objs.size + 1, _, _, _, G, rfl, J.kept (t' := v.toks) stay, turn_enum a (v.heap.objs.size + 1) v.heap.objs.size, ⟨⟨.none, enu⟩, iter, Nat.succ_ne_self _⟩, new, r⟩
  · obtain ⟨its, _, k, _⟩ := J.tuple sq
    exact call_enumT (show v.heap.IsTuple a its.toArray from k) fun g enu iter stay => wpAny_pyIter_enum enu ⟨v.heap.objs.size + 1, _, _, _, G, rfl, J.kept (t' := v.toks) stay, turn_enumT a (v.heap.objs.size + 1) v.heap.objs.size, ⟨⟨.none, enu⟩, iter, Nat.succ_ne_self _⟩, new, r⟩
end NC
namespace NC
open PySem PySem.Spec PyProof.Rows L2
def tx (l : List Nat) : Str := ⟨l.toArray⟩
def upc (c : Nat) : Nat := if 97 ≤ c ∧ c ≤ 122 then c - 32 else c
def lwc (c : Nat) : Nat := if 65 ≤ c ∧ c ≤ 90 then c + 32 else c
def swp (c : Nat) : Nat := if 97 ≤ c ∧ c ≤ 122 then c - 32 else if 65 ≤ c ∧ c ≤ 90 then c + 32 else c
theorem sg_tx (c : Nat) : sg c = tx [c] := rfl
theorem tx_list (l : List Nat) : (tx l).cps.toList = l := by simp [tx]
theorem tx_len (l : List Nat) : (tx l).length = l.length := by show (tx l).cps.size = l.length; simp [tx]
theorem tx_inj {a b : List Nat} (h : tx a = tx b) : a = b := by rw [← tx_list a, h, tx_list]
theorem sg_inj {a b : Nat} (h : sg a = sg b) : a = b := by
  have := tx_inj (a := [a]) (b := [b]) h
  simpa using this
theorem tx_app (a b : List Nat) : tx a ++ tx b = tx (a ++ b) := by
  show Str.mk (a.toArray ++ b.toArray) = Str.mk (a ++ b).toArray
  simp
theorem sgs_tx (l : List Nat) : sgs (tx l) = l.map sg := by simp [sgs, tx_list]
theorem up1_eq : ∀ c : Nat, c < 128 → up1 c = upc c := by
  have h : ∀ c : Fin 128, up1 c.val = upc c.val := by decide +kernel
  exact fun c hc => h ⟨c, hc⟩
theorem lo1_eq : ∀ c : Nat, c < 128 → lo1 c = lwc c := by
  have h : ∀ c : Fin 128, lo1 c.val = lwc c.val := by decide +kernel
  exact fun c hc => h ⟨c, hc⟩
theorem upper_tx {l : List Nat} (h : ∀ c ∈ l, c < 128) : Txt.upper (tx l) = tx (l.map upc) := by
  rw [upper_ascii (by rw [tx_list]; exact h)]
  show Str.mk (l.toArray.map up1) = Str.mk (l.map upc).toArray
  rw [List.map_toArray, List.map_congr_left fun c hc => up1_eq c (h c hc)]
theorem lower_tx {l : List Nat} (h : ∀ c ∈ l, c < 128) : Txt.lower (tx l) = tx (l.map lwc) := by
  rw [lower_ascii (by rw [tx_list]; exact h)]
  show Str.mk (l.toArray.map lo1) = Str.mk (l.map lwc).toArray
  rw [List.map_toArray, List.map_congr_left fun c hc => lo1_eq c (h c hc)]
theorem swap_sg : ∀ c : Nat, c < 128 → Txt.swapcase (sg c) = sg (swp c) := by
  have h : ∀ c : Fin 128, Txt.swapcase (sg c.val) = sg (swp c.val) := by decide +kernel
  exact fun c hc => h ⟨c, hc⟩
structure GoodW (l : List Nat) : Prop where
  lo : 1 ≤ l.length
  hi : l.length ≤ 12
  sm : ∀ c ∈ l, 97 ≤ c ∧ c ≤ 122
  rise : l.Pairwise (· < ·)
def sds (l : List Nat) : List Nat := l.map upc ++ l
theorem GoodW.asc {l : List Nat} (g : GoodW l) : ∀ c ∈ l, c < 128 := fun c h => by have := g.sm c h; omega
theorem GoodW.nd {l : List Nat} (g : GoodW l) : l.Nodup := g.rise.imp fun h => Nat.ne_of_lt h
theorem upc_small {c : Nat} (h : 97 ≤ c ∧ c ≤ 122) : upc c = c - 32 := by unfold upc; rw [if_pos h]
theorem sds_shape {l : List Nat} (g : GoodW l) {s : Nat} (h : s ∈ sds l) : (97 ≤ s ∧ s ≤ 122 ∧ s ∈ l) ∨ (65 ≤ s ∧ s ≤ 90 ∧ s + 32 ∈ l) := by
  rcases List.mem_append.mp h with q | q
  · obtain ⟨c, hc, e⟩ := List.mem_map.mp q
    have := g.sm c hc
    rw [upc_small this] at e
    exact .inr ⟨by omega, by omega, by rw [← e, show c - 32 + 32 = c by omega]; exact hc⟩
  · have := g.sm s q
    exact .inl ⟨this.1, this.2, q⟩
theorem sds_of_small {l : List Nat} {s : Nat} (h : s ∈ l) : s ∈ sds l := List.mem_append_right _ h
theorem sds_of_great {l : List Nat} (g : GoodW l) {c : Nat} (h : c ∈ l) : c - 32 ∈ sds l := by
  refine List.mem_append_left _ (List.mem_map.mpr ⟨c, h, upc_small (g.sm c h)⟩)
theorem sds_swp {l : List Nat} (g : GoodW l) {s : Nat} (h : s ∈ sds l) : swp s ∈ sds l := by
  rcases sds_shape g h with ⟨a, b, q⟩ | ⟨a, b, q⟩
  · rw [show swp s = s - 32 by unfold swp; rw [if_pos ⟨a, b⟩]]
    exact sds_of_great g q
  · rw [show swp s = s + 32 by unfold swp; rw [if_neg (by omega), if_pos ⟨a, b⟩]]
    exact sds_of_small q
theorem sds_asc {l : List Nat} (g : GoodW l) {s : Nat} (h : s ∈ sds l) : s < 128 := by
  rcases sds_shape g h with q | q <;> omega
theorem sds_len {l : List Nat} (g : GoodW l) : (sds l).length ≤ 24 := by
  unfold sds
  rw [List.length_append, List.length_map]
  have := g.hi
  omega
theorem sds_nd {l : List Nat} (g : GoodW l) : (sds l).Nodup := by
  refine List.nodup_append.mpr ⟨?_, g.nd, fun a ha b hb e => ?_⟩
  · refine List.pairwise_map.mpr (g.rise.imp_of_mem fun {a b} ha hb h e => ?_)
    have := g.sm a ha
    have := g.sm b hb
    rw [upc_small (by omega), upc_small (by omega)] at e
    omega
  · obtain ⟨c, hc, e2⟩ := List.mem_map.mp ha
    have h1 := g.sm c hc
    have h2 := g.sm b hb
    rw [upc_small h1] at e2
    omega
/-- is_bar -/
def isBar (l b : List Nat) : Bool := match b with
  | [x, y] => decide (x ∈ sds l) && (decide (y ∈ sds l) && decide (lwc x < lwc y))
  | _ => false
theorem lt1 (a b : Nat) : ([a] : List Nat) < [b] ↔ a < b := by simp [List.cons_lt_cons_iff]
theorem same_upd {H : Hp} {p : Addr} {o : HO} (h : H p = none) : Same H (upd H p o) := fun b x e => by
  rw [upd_ne (ne_of_none e h)]
  exact e
theorem sm_t {K : PySem.W.Frag} {H H' : Hp} {a : Addr} {xs : List V} (e : Same H H') (h : SqT K H a xs) : SqT K H' a xs := by
  rcases h with (h | ⟨o, h⟩) | h
  · exact .inl (.inl (e _ _ h))
  · exact .inl (.inr ⟨o, e _ _ h⟩)
  · exact .inr h
theorem yes_i {σ : L2.St} {H : Hp} {A B : Hp → Prop} (h : A H) : tYes σ H (fun b H3 => if b = true then A H3 else B H3) := show (if true = true then A H else B H) from iteT h
theorem sm_trans {H H1 H2 : Hp} (a : Same H H1) (b : Same H1 H2) : Same H H2 := fun c o h => b c o (a c o h)
theorem sm_upd {H H1 : Hp} {p : Addr} {o : HO} (e : Same H H1) (h : H1 p = none) : Same H (upd H1 p o) := sm_trans e (same_upd h)
/-- a store at what was new -/
theorem sm_over {H H1 : Hp} {p : Addr} {o : HO} (e : Same H H1) (h : H p = none) : Same H (upd H1 p o) := fun b x hb => by
  rw [upd_ne (ne_of_none hb h)]
  exact e b x hb
theorem sm_l {K : PySem.W.Frag} {H H' : Hp} {a : Addr} {xs : List V} (e : Same H H') (h : SqL K H a xs) : SqL K H' a xs := L2.Same.seq e h
theorem inV_str (x : Str) (ys : List Str) : inV (.str x) (ys.map V.str) = decide (x ∈ ys) := by
  unfold inV
  rw [List.any_map]
  induction ys with
  | nil => rfl
  | cons y r ih =>
    rw [List.any_cons, ih]
    by_cases e : y = x
    · subst e
      simp [eqV]
    · have e2 : ¬ x = y := fun z => e z.symm
      have q : eqV (.str y) (.str x) = false := by
        show (y == x) = false
        simpa using e
      show (eqV (.str y) (.str x) || _) = _
      rw [q]
      simp [e2]
theorem flat_str (ys : List Str) : (ys.map V.str).all flatV = true := by
  rw [List.all_map]
  exact List.all_eq_true.mpr fun _ _ => rfl
theorem mem_sg {c : Nat} {l : List Nat} : sg c ∈ l.map sg ↔ c ∈ l := by
  constructor
  · intro h
    obtain ⟨d, hd, e⟩ := List.mem_map.mp h
    rw [← sg_inj e]
    exact hd
  · exact fun h => List.mem_map.mpr ⟨c, h, rfl⟩
end NC
namespace NC
open PySem PySem.Spec PyProof.Rows L2
def topS (i : Nat) : Stmt := PySem.Challenge.pw_nearcall_k37_fewest_that_gather.main.body.getD i (.Pass ⟨0, 0, 0, 0⟩)
abbrev sOther : Stmt := topS 13
abbrev sSides : Stmt := topS 14
abbrev sByWalls : Stmt := topS 15
abbrev sIsWalls : Stmt := topS 16
abbrev sIsBar : Stmt := topS 17
abbrev sChkWalls : Stmt := topS 18
abbrev sChkBars : Stmt := topS 19
abbrev sChkSide : Stmt := topS 20
/-- the built-ins are the built-ins -/
structure BM (mg : Str → Option Value) : Prop where
  list : mg "list" = none
  sorted : mg "sorted" = none
  set : mg "set" = none
  all : mg "all" = none
  len : mg "len" = none
  enumerate : mg "enumerate" = none
  range : mg "range" = none
  isinstance : mg "isinstance" = none
  tuple : mg "tuple" = none
/-- a def of the top, by its name -/
structure DF (K : PySem.W.Frag) (mg : Str → Option Value) (x : Str) (st : Stmt) (ps : List Str) (f : Addr) (fd : FuncData) : Prop where
  F : Fun K x x st f fd
  g : mg x = some (.ref f)
  b : Binds K fd ps []
theorem scOther : FnScope ["side"] ["side"] (defScope sOther) := ⟨rfl, rfl, rfl, by decide +kernel, rfl, by decide +kernel, by decide +kernel⟩
theorem scSides : FnScope ["walls"] ["walls"] (defScope sSides) := ⟨rfl, rfl, rfl, by decide +kernel, rfl, by decide +kernel, by decide +kernel⟩
theorem scIsBar : FnScope ["walls", "bar", "sides"] ["walls", "bar"] (defScope sIsBar) := ⟨rfl, rfl, rfl, by decide +kernel, rfl, by decide +kernel, by decide +kernel⟩
theorem scChkSide : FnScope ["walls", "side"] ["walls", "side"] (defScope sChkSide) := ⟨rfl, rfl, rfl, by decide +kernel, rfl, by decide +kernel, by decide +kernel⟩
section
variable {P : Program} {w : World} {K : PySem.W.Frag} {mg : Str → Option Value} {base : Heap}
def spOther : Sp := fun vs H Q _ => ∃ c, vs = [.str (sg c)] ∧ c < 128 ∧ Q (.str (sg (swp c))) H
theorem ok_other {f : Addr} {fd : FuncData} {k : Nat} (F : Fun K "other" "other" sOther f fd) : FnOk P w K mg base CX0 (k + 1) f fd ["side"] spOther := by
  refine F.ok scOther (fun vs H Q E h => ?_) (fun cdv A outer s H vs Q E hr h => ?_)
  · obtain ⟨c, rfl, _⟩ := h
    rfl
  · obtain ⟨c, rfl, hc, q⟩ := h
    refine ⟨_, pss_one (ps_ret (pe_m0 PySem.F.slot_str_swapcase PySem.F.type_str_swapcase mt_swap (pv 0))), ?_⟩
    refine ⟨_, rfl, ⟨_, rfl⟩, _, rfl, rfl, by show 1 ≤ 1000; decide, ?_⟩
    rw [swap_sg c hc]
    exact q
def spSides : Sp := fun vs H Q _ => ∃ l, vs = [.str (tx l)] ∧ (∀ c ∈ l, c < 128) ∧ l.length ≤ 100 ∧ ∀ p, H p = none → Q (.ref p) (upd H p (.lst (((sds l).map sg).map V.str)))
theorem ok_sides {f : Addr} {fd : FuncData} {k : Nat} (B : BM mg) (F : Fun K "sides_of" "sides_of" sSides f fd) : FnOk P w K mg base CX0 (k + 1) f fd ["walls"] spSides := by
  refine F.ok scSides (fun vs H Q E h => ?_) (fun cdv A outer s H vs Q E hr h => ?_)
  · obtain ⟨c, rfl, _⟩ := h
    rfl
  · obtain ⟨l, rfl, hl, hz, q⟩ := h
    refine ⟨_, pss_one (ps_ret (pe_callTy (cr_listS rfl) (by rfl) B.list (by decide +kernel) (pa_cons (pe_op op_add_str (pe_upper (pv 0)) (pv 0)) pa_nil))), ?_⟩
    refine ⟨_, rfl, ⟨_, rfl⟩, _, rfl, rfl, by rw [tx_len]; omega, ?_⟩
    rw [upper_tx hl]
    refine ⟨_, rfl, _, _, rfl, rfl, by rw [tx_len, tx_len, List.length_map, sizeLine_eq]; omega, ?_⟩
    rw [tx_app]
    refine ⟨_, rfl, by rw [tx_len, List.length_append, List.length_map, sizeLine_eq]; omega, fun p hp => ?_⟩
    rw [sgs_tx]
    exact q p hp
def spIsBar : Sp := fun vs H Q _ => ∃ l b, vs = [.str (tx l), .str (tx b)] ∧ (∀ c ∈ l, c < 128) ∧ l.length ≤ 100 ∧ (∀ c ∈ b, c < 128) ∧ b.length ≤ 100 ∧ ∀ H', Same H H' → Q (.bl (isBar l b)) H'
theorem ok_isBar {f fS : Addr} {fd fdS : FuncData} {k : Nat} (B : BM mg) (F : Fun K "is_bar" "is_bar" sIsBar f fd) (S : DF K mg "sides_of" sSides ["walls"] fS fdS) : FnOk P w K mg base CX0 (k + 2) f fd ["walls", "bar"] spIsBar := by
  have GS : FnOk P w K mg base CX0 (k + 1) fS fdS ["walls"] spSides := ok_sides B S.F
  refine F.ok scIsBar (fun vs H Q E h => ?_) (fun cdv A outer s H vs Q E hr h => ?_)
  · obtain ⟨l, b, rfl, _⟩ := h
    rfl
  · obtain ⟨l, b, rfl, hl, hlz, hb, hbz, q⟩ := h
    have hbs : (tx b).length ≤ sizeLine := by rw [tx_len, sizeLine_eq]; omega
    refine ⟨_, pss_cons (ps_set (i := 2) scIsBar.nd rfl (.inl rfl) (pe_call GS hr rfl S.g S.F.kp S.b .nil pass0 (pa_cons (pv 0) pa_nil)))
      (pss_cons (ps_if (PW.pt (pw_or (pt_cmpR op_ne (pe_callB call_len_str (by rfl) B.len PySem.boot_len (pa_cons (pv 1) pa_nil)) pe_int (nomark _))
          (pw_or (pt_cmpR op_notIn_seq (pe_ix ix_str (pv 1) pe_int (fun _ _ => rfl)) (pv 2) (by rfl))
            (pw_or1 (pt_cmpR op_notIn_seq (pe_ix ix_str (pv 1) pe_int (fun _ _ => rfl)) (pv 2) (by rfl))))))
        (pss_one (ps_ret pe_bl)) pss_nil)
      (pss_one (ps_ret (pe_cmpR op_lt_str (pe_lower (pe_ix ix_str (pv 1) pe_int (fun _ _ => rfl))) (pe_lower (pe_ix ix_str (pv 1) pe_int (fun _ _ => rfl))) (nomark _))))), ?_⟩
    refine ⟨_, rfl, l, rfl, hl, hlz, fun p hp => ?_⟩
    have sm : Same H (upd H p (.lst (((sds l).map sg).map V.str))) := same_upd hp
    have hS : SqL K (upd H p (.lst (((sds l).map sg).map V.str))) p (((sds l).map sg).map V.str) := SqL.of upd_same
    have ix : ∀ c, inV (.str (sg c)) (((sds l).map sg).map V.str) = decide (c ∈ sds l) := fun c => by
      rw [inV_str]
      by_cases hm : c ∈ sds l
      · rw [decide_eq_true hm, decide_eq_true (mem_sg.mpr hm)]
      · rw [decide_eq_false hm, decide_eq_false fun z => hm (mem_sg.mp z)]
    refine ⟨_, rfl, _, rfl, hbs, rfl, _, rfl, ite2 (fun e => ?_) (fun e => ?_)⟩
    · have hn : b.length ≠ 2 := fun z => by
        rw [tx_len, z] at e
        exact absurd e (by decide)
      have e0 : isBar l b = false := by
        match b, hn with
        | [], _ => rfl
        | [_], _ => rfl
        | [_, _], hn => exact absurd rfl hn
        | _ :: _ :: _ :: _, _ => rfl
      refine iteT (show Q (.bl false) _ from ?_)
      rw [← e0]
      exact q _ sm
    · have hn : b.length = 2 := by
        have e1 : decide (V.int ↑(tx b).length = V.int 2) = true := by simpa using e
        have e2 : ((tx b).length : Int) = 2 := V.int.inj (of_decide_eq_true e1)
        rw [tx_len] at e2
        omega
      obtain ⟨x, y, rfl⟩ : ∃ x y, b = [x, y] := by
        match b, hn with
        | [x, y], _ => exact ⟨x, y, rfl⟩
      refine ⟨_, rfl, _, _, x, rfl, rfl, hbs, rfl, _, rfl, p, _, rfl, .inl hS, rfl, flat_str _, _, rfl, ite2 (fun e1 => ?_) (fun e1 => ?_)⟩
      · have e1 : (!inV (.str (sg x)) (((sds l).map sg).map V.str)) = true := e1
        rw [ix] at e1
        have e0 : isBar l [x, y] = false := by
          show (decide (x ∈ sds l) && _) = false
          simp only [Bool.not_eq_true'] at e1
          rw [e1]; rfl
        refine iteT (show Q (.bl false) _ from ?_)
        rw [← e0]
        exact q _ sm
      · have e1 : ¬ (!inV (.str (sg x)) (((sds l).map sg).map V.str)) = true := e1
        rw [ix] at e1
        have hx : decide (x ∈ sds l) = true := by simpa using e1
        refine ⟨_, rfl, _, _, y, rfl, rfl, hbs, rfl, _, rfl, p, _, rfl, .inl hS, rfl, flat_str _, _, rfl, ite2 (fun e2 => ?_) (fun e2 => ?_)⟩
        · have e2 : (!inV (.str (sg y)) (((sds l).map sg).map V.str)) = true := e2
          rw [ix] at e2
          have e0 : isBar l [x, y] = false := by
            show (decide (x ∈ sds l) && (decide (y ∈ sds l) && _)) = false
            simp only [Bool.not_eq_true'] at e2
            rw [e2]; simp
          show Q (.bl false) _
          rw [← e0]
          exact q _ sm
        · have e2 : ¬ (!inV (.str (sg y)) (((sds l).map sg).map V.str)) = true := e2
          rw [ix] at e2
          have hy : decide (y ∈ sds l) = true := by simpa using e2
          refine ⟨_, rfl, _, _, x, rfl, rfl, hbs, rfl, ⟨_, rfl⟩, _, rfl, rfl, by show 1 ≤ 5592405; decide, _, rfl, _, _, y, rfl, rfl, hbs, rfl, ⟨_, rfl⟩, _, rfl, rfl, by show 1 ≤ 5592405; decide, ?_⟩
          rw [show Txt.lower (⟨#[x]⟩ : Str) = tx [lwc x] from lower_tx (l := [x]) (fun c hc => hb c (by simp at hc; simp [hc])), show Txt.lower (⟨#[y]⟩ : Str) = tx [lwc y] from lower_tx (l := [y]) (fun c hc => hb c (by simp at hc; simp [hc]))]
          refine ⟨_, _, rfl, rfl, ?_⟩
          have e0 : decide ((tx [lwc x]).cps.toList < (tx [lwc y]).cps.toList) = isBar l [x, y] := by
            show _ = (decide (x ∈ sds l) && (decide (y ∈ sds l) && decide (lwc x < lwc y)))
            rw [hx, hy, tx_list, tx_list]
            simp [lt1]
          rw [e0]
          exact q _ sm
end
end NC
namespace NC
open PySem PySem.Spec PyProof.Rows L2
def leS (a b : Str) : Prop := a.cps.toList ≤ b.cps.toList
theorem ltc_iff (a b : List Nat) : ltCps a b = decide (a < b) := by
  induction a generalizing b with
  | nil => cases b <;> simp [ltCps]
  | cons x r ih =>
    cases b with
    | nil => simp [ltCps]
    | cons y s =>
      simp only [ltCps, ih, List.cons_lt_cons_iff]
      by_cases h1 : x < y
      · simp [h1]
      · by_cases h2 : x = y
        · subst h2; simp
        · simp [h1, h2]
theorem rise_pw : ∀ (l : List Str) (p : Str), risingS p l = true → (p :: l).Pairwise leS
  | [], p, _ => by simp
  | x :: r, p, h => by
    have h' : (!ltCps x.cps.toList p.cps.toList && risingS x r) = true := h
    rw [Bool.and_eq_true] at h'
    have q := rise_pw r x h'.2
    have hpx : leS p x := by
      have z := h'.1
      rw [ltc_iff] at z
      simpa [leS] using z
    refine List.pairwise_cons.mpr ⟨fun y hy => ?_, q⟩
    rcases List.mem_cons.mp hy with e | e
    · rw [e]; exact hpx
    · exact List.le_trans hpx ((List.pairwise_cons.mp q).1 y e)
theorem sortedS_pw : ∀ l : List Str, sortedS l = true → l.Pairwise leS
  | [], _ => List.Pairwise.nil
  | x :: r, h => rise_pw r x h
theorem str_ext {a b : Str} (h : a.cps.toList = b.cps.toList) : a = b := by
  cases a; cases b
  simp at h
  rw [h]
theorem sortedS_eq {ys zs : List Str} (h : sortedS ys = true) (p : ys.Perm zs) (hz : zs.Pairwise leS) : ys = zs :=
  p.eq_of_pairwise (fun a b _ _ h1 h2 => str_ext (List.le_antisymm h1 h2)) (sortedS_pw ys h) hz
theorem leS_sg {a b : Nat} (h : a ≤ b) : leS (sg a) (sg b) := by
  show ([a] : List Nat) ≤ [b]
  rw [List.cons_le_cons_iff]
  by_cases e : a = b
  · exact .inr ⟨e, List.le_refl _⟩
  · exact .inl (by omega)
theorem GoodW.pw {l : List Nat} (g : GoodW l) : (l.map sg).Pairwise leS := List.pairwise_map.mpr (g.rise.imp fun h => leS_sg (Nat.le_of_lt h))
theorem eqvAll_strs : ∀ xs ys : List Str, PyData.eqvAll (xs.map .str) (ys.map .str) = decide (xs = ys)
  | [], [] => rfl
  | [], _ :: _ => rfl
  | _ :: _, [] => rfl
  | x :: r, y :: s => by
    show ((x == y) && PyData.eqvAll (r.map .str) (s.map .str)) = _
    rw [eqvAll_strs r s]
    by_cases h1 : x = y
    · subst h1
      by_cases h2 : r = s
      · simp [h2]
      · simp [h2]
    · simp [h1]
def okS (x : Str) : Prop := ∀ c ∈ x.cps.toList, c < 128
theorem okS_tx {l : List Nat} (h : ∀ c ∈ l, c < 128) : okS (tx l) := by unfold okS; rw [tx_list]; exact h
theorem okS_sg {c : Nat} (h : c < 128) : okS (sg c) := okS_tx (l := [c]) fun d hd => by simp at hd; omega
theorem strOk_of {x : Str} (h : okS x) : PyData.strOk x = true := by
  unfold PyData.strOk
  rw [← Array.all_toList, List.all_eq_true]
  intro c hc
  have := h c hc
  simp
  omega
theorem canAll_strs : ∀ xs : List Str, (∀ x ∈ xs, okS x) → PyData.canLayAll0 (xs.map .str) = true
  | [], _ => rfl
  | x :: r, h => by
    show (PyData.strOk x && PyData.canLayAll0 (r.map .str)) = true
    rw [strOk_of (h x (List.mem_cons_self ..)), canAll_strs r fun y hy => h y (List.mem_cons_of_mem _ hy)]
    rfl
theorem depAll_strs : ∀ xs : List Str, PyData.depthAll (xs.map .str) = 0
  | [] => rfl
  | x :: r => by
    show max 0 (PyData.depthAll (r.map .str)) = 0
    rw [depAll_strs r]
    rfl
theorem shaped_strs {xs : List Str} (h : ∀ x ∈ xs, okS x) : SeqAt.shaped (.list (xs.map .str)) = true := by
  show (PyData.canLayAll0 (xs.map .str) && decide (PyData.depthAll (xs.map .str) + 1 ≤ 64)) = true
  rw [canAll_strs xs h, depAll_strs]
  rfl
theorem dpAll_strs {K : PySem.W.Frag} {H : Hp} : ∀ xs : List Str, DpAll K H (xs.map V.str) (xs.map .str)
  | [] => .nil
  | x :: r => .cons (.str x) (dpAll_strs r)
end NC
namespace NC
open PySem PySem.Spec PyProof.Rows L2
theorem scIsWalls : FnScope ["walls", "small", "letter"] ["walls"] (defScope sIsWalls) := ⟨rfl, rfl, rfl, by decide +kernel, rfl, by decide +kernel, by decide +kernel⟩
theorem scChkWalls : FnScope ["walls"] ["walls"] (defScope sChkWalls) := ⟨rfl, rfl, rfl, by decide +kernel, rfl, by decide +kernel, by decide +kernel⟩
theorem scByWalls : FnScope ["walls", "sides", "wall", "side"] ["walls", "sides"] (defScope sByWalls) := ⟨rfl, rfl, rfl, by decide +kernel, rfl, by decide +kernel, by decide +kernel⟩
theorem strA : (Str.ofString "a") = sg 97 := by decide +kernel
theorem strZ : (Str.ofString "z") = sg 122 := by decide +kernel
section
variable {P : Program} {w : World} {K : PySem.W.Frag} {mg : Str → Option Value} {base : Heap}
def spIsWalls : Sp := fun vs H Q _ => ∃ l, vs = [.str (tx l)] ∧ GoodW l ∧ ∀ H', Same H H' → Q (.bl true) H'
theorem ok_isWalls {f : Addr} {fd : FuncData} {k : Nat} {tw : Tok} (B : BM mg) (mW : mg "WIDEST" = some (.int 12 tw)) (F : Fun K "is_walls" "is_walls" sIsWalls f fd) : FnOk P w K mg base CX0 (k + 1) f fd ["walls"] spIsWalls := by
  refine F.ok scIsWalls (fun vs H Q E h => ?_) (fun cdv A outer s H vs Q E hr h => ?_)
  · obtain ⟨l, rfl, _⟩ := h
    rfl
  · obtain ⟨l, rfl, g, q⟩ := h
    have hlz : (tx l).length ≤ sizeLine := by rw [tx_len, sizeLine_eq]; have := g.hi; omega
    refine ⟨_, pss_cons (ps_set (i := 1) scIsWalls.nd rfl (.inl rfl) (pe_callB (cr_all rfl) (by rfl) B.all (by decide +kernel) (pa_cons
        (pe_lc (own := [("letter", 2)]) (g := gName 2) (tt := tYes) rfl scIsWalls.nd (pi_str (pv 0)) (blkOk_by (N := ["walls", "small", "letter"]) (sc := defScope sIsWalls) (by decide +kernel))
          (fun _ _ _ _ _ => pg_name (i := 2) scIsWalls.nd rfl (Or.inl rfl)) (fun _ _ _ _ _ => pts_nil) (fun _ _ _ _ _ => pe_chain op_le_str op_le_str pe_str (pv 2) pe_str)) pa_nil)))
      (pss_one (ps_ret (pe_and (pv 1) (pe_and (pe_chain op_le op_le pe_int (pe_callB call_len_str (by rfl) B.len PySem.boot_len (pa_cons (pv 0) pa_nil)) (pe_glob (v := .int 12) rfl mW ⟨_, rfl⟩))
        (pe_one (pe_cmpR (op_eqD hr.units) (pe_callB (cr_sortedSetT rfl) (by rfl) B.sorted (by decide +kernel) (pa_cons (pe_callTy (cr_setT rfl) (by rfl) B.set (by decide +kernel) (pa_cons (pv 0) pa_nil)) pa_nil))
          (pe_callTy (cr_listS rfl) (by rfl) B.list (by decide +kernel) (pa_cons (pv 0) pa_nil)) (nomark _))))))), ?_⟩
    refine ⟨_, rfl, tx l, rfl, fun D hD => lc_it walk_str (fun i H' => ∃ n : Nat, n = i ∧ Same H H' ∧ H' D = some (.lst ((List.replicate i true).map V.bl))) ⟨0, rfl, same_upd hD, upd_same⟩ (fun _ _ _ _ => trivial) ?_ ?_⟩
    · rintro i x H1 H2 hi ⟨n, rfl, sm, eD⟩ ⟨rfl, c, hc, rfl⟩
      have hcl : c ∈ l := by
        have e : l[n]? = some c := by
          rw [← Array.getElem?_toList, tx_list] at hc
          exact hc
        exact List.mem_of_getElem? e
      have hs := g.sm c hcl
      have hn : n < l.length := by
        have : (tx l).cps.size = l.length := tx_len l
        omega
      refine ⟨rfl, yes_i ⟨_, rfl, _, _, rfl, rfl, true, ?_, iteT ⟨_, _, rfl, rfl, ?_⟩⟩⟩
      · rw [strA]
        show V.bl (!decide (([c] : List Nat) < [97])) = .bl true
        rw [decide_eq_false (by rw [lt1]; omega)]
        rfl
      · have e2 : (!decide ((Str.ofString "z").cps.toList < (⟨#[c]⟩ : Str).cps.toList)) = true := by
          rw [strZ]
          show (!decide (([122] : List Nat) < [c])) = true
          rw [decide_eq_false (by rw [lt1]; omega)]
          rfl
        rw [e2]
        refine ⟨_, eD, ?_, _, rfl, ?_, ?_⟩
        · rw [List.length_map, List.length_replicate, sizeLine_eq]
          have := g.hi
          omega
        · exact sm_over sm hD
        · rw [upd_same, List.replicate_succ', List.map_append]
          rfl
    · rintro H1 ⟨n, rfl, sm, eD⟩
      refine ⟨_, _, rfl, SqL.of eD, ?_⟩
      have ea : (List.replicate (tx l).cps.size true).all id = true := by simp
      rw [ea]
      refine ⟨_, rfl, true, rfl, iteT ⟨_, rfl, _, rfl, hlz, _, _, rfl, rfl, true, ?_, iteT ⟨_, _, rfl, rfl, true, ?_, iteT ?_⟩⟩⟩
      · show V.bl (decide ((1 : Int) ≤ ((tx l).length : Int))) = .bl true
        rw [tx_len, decide_eq_true (by have := g.lo; omega)]
      · show V.bl (decide (((tx l).length : Int) ≤ 12)) = .bl true
        rw [tx_len, decide_eq_true (by have := g.hi; omega)]
      · refine ⟨_, rfl, tx l, rfl, ?_, by rw [tx_list]; exact g.nd, by rw [tx_list]; have := g.hi; omega, fun p z hp hz => ?_⟩
        · rw [← Array.all_toList, tx_list, List.all_eq_true]
          intro c hc
          have := g.asc c hc
          simpa using this
        · rw [sgs_tx] at hz
          have hnd : (l.map sg).Nodup := List.pairwise_map.mpr (g.nd.imp fun {a b} h e => h (sg_inj e))
          refine ⟨p, z, rfl, upd_same, hz.nodup_iff.mpr hnd, by rw [hz.length_eq, List.length_map]; have := g.hi; omega, fun ys r hy hs hr2 => ?_⟩
          have ey : ys = l.map sg := sortedS_eq hs (hy.trans hz) g.pw
          subst ey
          refine ⟨_, rfl, _, rfl, hlz, fun a ha => ?_⟩
          rw [sgs_tx]
          have hra : r ≠ a := ne_of_none upd_same ha
          have oks : ∀ x ∈ l.map sg, okS x := fun x hx => by
            obtain ⟨c, hc, rfl⟩ := List.mem_map.mp hx
            exact okS_sg (g.asc c hc)
          refine ⟨_, _, .lst (SqL.of (by rw [upd_ne hra, upd_same])) (dpAll_strs _), .lst (SqL.of upd_same) (dpAll_strs _), shaped_strs oks, shaped_strs oks, ?_⟩
          show Q (.bl (PyData.eqvAll _ _)) _
          rw [eqvAll_strs, decide_eq_true rfl]
          exact q _ (sm_upd (sm_upd (sm_upd sm hp) hr2) ha)
end
end NC
namespace NC
open PySem PySem.Spec PyProof.Rows L2
/-- a dict comprehension over a walk -/
theorem dc_it {J : It} {n : Nat} {G : Hp → Prop} {Y : Nat → Hp → V → Hp → Prop} (wk : Walk J n G Y) {g : TG} {tt : TT} {tk tv : TE} {vs : List Nat} {σ : L2.St} {H1 : Hp} {D : Addr} {Qd : Hp → Prop} (Pv : Nat → Hp → Prop)
    (h0 : Pv 0 (upd H1 D (.dK []))) (hG : ∀ i H, i ≤ n → Pv i H → G H)
    (hs : ∀ i x H H', i < n → Pv i H → Y i H x H' → g x (wipe σ vs) H' fun σ2 H2 => wipe σ2 vs = wipe σ vs ∧ tt σ2 H2 fun b H3 =>
      if b = true then tk σ2 H3 fun y H4 => tv σ2 H4 fun z H5 => ∃ kvs k, y = kV k ∧ H5 D = some (.dK kvs) ∧ kvs.length < sizeLine ∧ Pv (i + 1) (upd H5 D (.dK (putK kvs k z))) else Pv (i + 1) H3) (hd : ∀ H, Pv n H → Qd H) :
    ∃ W : Nat → Nat → Hp → Prop, (∃ m, W 0 m (upd H1 D (.dK []))) ∧ ∀ i m H, W i m H →
      (J.stop i H ∧ Qd H) ∨ (J.go i H ∧ ∃ Nx : Hp → Prop, (∀ H', Nx H' → ∃ m', m' < m ∧ W (i + 1) m' H') ∧ ∀ x H', J.yld i H x H' → g x (wipe σ vs) H' fun σ2 H2 => wipe σ2 vs = wipe σ vs ∧ tt σ2 H2 fun b H3 =>
        if b = true then tk σ2 H3 fun y H4 => tv σ2 H4 fun z H5 => ∃ kvs k, y = kV k ∧ H5 D = some (.dK kvs) ∧ kvs.length < sizeLine ∧ Nx (upd H5 D (.dK (putK kvs k z))) else Nx H3) := by
  refine ⟨fun i m H => m = n - i ∧ i ≤ n ∧ Pv i H, ⟨n, by simp, Nat.zero_le _, h0⟩, ?_⟩
  rintro i m H ⟨rfl, hi, p⟩
  have q := hG i H hi p
  rcases Nat.lt_or_ge i n with hlt | hge
  · exact .inr ⟨wk.goes i H hlt q, Pv (i + 1), fun H' p' => ⟨n - (i + 1), by omega, rfl, hlt, p'⟩, fun x H' y => hs i x H H' hlt p (wk.yields i H x H' hlt q y)⟩
  · obtain rfl : i = n := by omega
    exact .inl ⟨wk.stops H q, hd H p⟩
/-- the inner walk of a comprehension of two -/
theorem in_it {J : It} {n : Nat} {G : Hp → Prop} {Y : Nat → Hp → V → Hp → Prop} (wk : Walk J n G Y) {g1 : TG} {tt1 : TT} {te : TE} {vs1 : List Nat} {σ2 : L2.St} {H4 : Hp} {D : Addr} {Nx : Hp → Prop} (Pv : Nat → Hp → Prop)
    (h0 : Pv 0 H4) (hG : ∀ i H, i ≤ n → Pv i H → G H)
    (hs : ∀ i x H H', i < n → Pv i H → Y i H x H' → g1 x (wipe σ2 vs1) H' fun σ3 H5 => wipe σ3 vs1 = wipe σ2 vs1 ∧ tt1 σ3 H5 fun b H6 =>
      if b = true then te σ3 H6 fun y H7 => ∃ acc, H7 D = some (.lst acc) ∧ acc.length < sizeLine ∧ Pv (i + 1) (upd H7 D (.lst (acc ++ [y]))) else Pv (i + 1) H6) (hd : ∀ H, Pv n H → Nx H) :
    ∃ W1 : Nat → Nat → Hp → Prop, (∃ m, W1 0 m H4) ∧ ∀ j k H, W1 j k H →
      (J.stop j H ∧ Nx H) ∨ (J.go j H ∧ ∃ Nx1 : Hp → Prop, (∀ H', Nx1 H' → ∃ k', k' < k ∧ W1 (j + 1) k' H') ∧ ∀ x H', J.yld j H x H' → g1 x (wipe σ2 vs1) H' fun σ3 H5 => wipe σ3 vs1 = wipe σ2 vs1 ∧ tt1 σ3 H5 fun b H6 =>
        if b = true then te σ3 H6 fun y H7 => ∃ acc, H7 D = some (.lst acc) ∧ acc.length < sizeLine ∧ Nx1 (upd H7 D (.lst (acc ++ [y]))) else Nx1 H6) := by
  refine ⟨fun i m H => m = n - i ∧ i ≤ n ∧ Pv i H, ⟨n, by simp, Nat.zero_le _, h0⟩, ?_⟩
  rintro i m H ⟨rfl, hi, p⟩
  have q := hG i H hi p
  rcases Nat.lt_or_ge i n with hlt | hge
  · exact .inr ⟨wk.goes i H hlt q, Pv (i + 1), fun H' p' => ⟨n - (i + 1), by omega, rfl, hlt, p'⟩, fun x H' y => hs i x H H' hlt p (wk.yields i H x H' hlt q y)⟩
  · obtain rfl : i = n := by omega
    exact .inl ⟨wk.stops H q, hd H p⟩
/-- the outer walk of a comprehension of two (no test on the outer) -/
theorem out_it {J : It} {n : Nat} {G : Hp → Prop} {Y : Nat → Hp → V → Hp → Prop} (wk : Walk J n G Y) {H1 : Hp} {D : Addr} {Qd : Hp → Prop} {B : V → Hp → (Hp → Prop) → Prop} (Pv : Nat → Hp → Prop)
    (h0 : Pv 0 (upd H1 D (.lst []))) (hG : ∀ i H, i ≤ n → Pv i H → G H) (hs : ∀ i x H H', i < n → Pv i H → Y i H x H' → B x H' (Pv (i + 1))) (hd : ∀ H, Pv n H → Qd H) :
    ∃ W : Nat → Nat → Hp → Prop, (∃ m, W 0 m (upd H1 D (.lst []))) ∧ ∀ i m H, W i m H →
      (J.stop i H ∧ Qd H) ∨ (J.go i H ∧ ∃ Nx : Hp → Prop, (∀ H', Nx H' → ∃ m', m' < m ∧ W (i + 1) m' H') ∧ ∀ x H', J.yld i H x H' → B x H' Nx) := by
  refine ⟨fun i m H => m = n - i ∧ i ≤ n ∧ Pv i H, ⟨n, by simp, Nat.zero_le _, h0⟩, ?_⟩
  rintro i m H ⟨rfl, hi, p⟩
  have q := hG i H hi p
  rcases Nat.lt_or_ge i n with hlt | hge
  · exact .inr ⟨wk.goes i H hlt q, Pv (i + 1), fun H' p' => ⟨n - (i + 1), by omega, rfl, hlt, p'⟩, fun x H' y => hs i x H H' hlt p (wk.yields i H x H' hlt q y)⟩
  · obtain rfl : i = n := by omega
    exact .inl ⟨wk.stops H q, hd H p⟩
theorem fold_glue (e : Array Nat) (he : e = #[]) : ∀ (r : List (List Nat)) (acc : Array Nat), (r.map tx).foldl (fun acc p => acc ++ e ++ p.cps) acc = acc ++ r.flatten.toArray
  | [], acc => by simp
  | x :: r, acc => by
    rw [List.map_cons, List.foldl_cons, fold_glue e he r, he]
    simp [tx]
theorem join_tx (xs : List (List Nat)) : Txt.join (Str.ofString "") (xs.map tx) = tx xs.flatten := by
  have e0 : (Str.ofString "").cps = #[] := by decide +kernel
  show (⟨((xs.map tx).drop 1).foldl (fun acc p => acc ++ (Str.ofString "").cps ++ p.cps) ((xs.map tx).headD Str.empty).cps⟩ : Str) = _
  cases xs with
  | nil => rfl
  | cons x r =>
    show (⟨(r.map tx).foldl (fun acc p => acc ++ (Str.ofString "").cps ++ p.cps) x.toArray⟩ : Str) = _
    rw [fold_glue _ e0]
    show Str.mk _ = Str.mk _
    simp
/-- ''.join of signs -/
theorem join_sg (l : List Nat) : Txt.join (Str.ofString "") (l.map sg) = tx l := by
  have e2 : ∀ l : List Nat, (l.map fun c => [c]).flatten = l := fun l => by
    induction l with
    | nil => rfl
    | cons x r ih => simp [ih]
  have e := join_tx (l.map fun c => [c])
  rw [List.map_map, e2] at e
  exact e
end NC
namespace NC
open PySem PySem.Spec PyProof.Rows L2
/-- by_walls, the other part a dict -/
def inK (kvs : List (Key × V)) (c : Nat) : Bool := (valV kvs (Sum.inr (sg c))).isSome
def byW (l : List Nat) (kvs : List (Key × V)) : List Nat := l.flatMap fun c => [swp c, c].filter (inK kvs)
theorem byW_len (l : List Nat) (kvs : List (Key × V)) : (byW l kvs).length ≤ 2 * l.length := by
  induction l with
  | nil => simp [byW]
  | cons x r ih =>
    have h1 : (byW (x :: r) kvs) = [swp x, x].filter (inK kvs) ++ byW r kvs := by simp [byW]
    rw [h1, List.length_append, List.length_cons]
    have h2 : ([swp x, x].filter (inK kvs)).length ≤ 2 := List.length_filter_le _ _
    omega
theorem byW_mem {l : List Nat} (g : GoodW l) {kvs : List (Key × V)} {s : Nat} (h : s ∈ byW l kvs) : s ∈ sds l ∧ inK kvs s = true := by
  obtain ⟨c, hc, hs⟩ := List.mem_flatMap.mp h
  obtain ⟨h1, h2⟩ := List.mem_filter.mp hs
  refine ⟨?_, h2⟩
  rcases List.mem_cons.mp h1 with e | e
  · rw [e]; exact sds_swp g (sds_of_small hc)
  · rw [List.mem_singleton.mp e]; exact sds_of_small hc
theorem byW_snoc (l : List Nat) (n : Nat) (c : Nat) (kvs : List (Key × V)) (h : l[n]? = some c) : byW (l.take (n + 1)) kvs = byW (l.take n) kvs ++ [swp c, c].filter (inK kvs) := by
  rw [List.take_add_one, h]
  unfold byW
  rw [List.flatMap_append]
  simp
section
variable {P : Program} {w : World} {K : PySem.W.Frag} {mg : Str → Option Value} {base : Heap}
def spByWalls : Sp := fun vs H Q _ => ∃ l d kvs, vs = [.str (tx l), .ref d] ∧ GoodW l ∧ H d = some (.dK kvs) ∧ ∀ H', Same H H' → Q (.str (tx (byW l kvs))) H'
set_option maxHeartbeats 1000000 in
theorem ok_byWalls {f fO : Addr} {fd fdO : FuncData} {k : Nat} (B : BM mg) (F : Fun K "by_walls" "by_walls" sByWalls f fd) (O : DF K mg "other" sOther ["side"] fO fdO) : FnOk P w K mg base CX0 (k + 2) f fd ["walls", "sides"] spByWalls := by
  have GO : FnOk P w K mg base CX0 (k + 1) fO fdO ["side"] spOther := ok_other O.F
  refine F.ok scByWalls (fun vs H Q E h => ?_) (fun cdv A outer s H vs Q E hr h => ?_)
  · obtain ⟨l, d, kvs, rfl, _⟩ := h
    rfl
  · obtain ⟨l, d, kvs, rfl, g, hd, q⟩ := h
    refine ⟨_, pss_one (ps_ret (pe_join pe_str (pe_lc2 (wi1 := iTup K (tTup (tCons (tCall spOther [] E0 (tCons (tVar 2) tNil)) (tCons (tVar 2) tNil)))) (own := [("wall", 2), ("side", 3)]) (vs1 := [3]) (g := gName 2) (g1 := gName 3) (tt := tYes) rfl scByWalls.nd (pi_str (pv 0))
      (blkOk_by (N := ["walls", "sides", "wall", "side"]) (sc := defScope sByWalls) (by decide +kernel)) (by decide)
      (fun _ _ _ _ _ => pg_name (i := 2) scByWalls.nd rfl (Or.inl rfl)) (fun _ _ _ _ _ => pts_nil)
      (fun _ _ _ _ _ => pi_tup (pe_tup (pa_cons (pe_call GO hr rfl O.g O.F.kp O.b .nil pass0 (pa_cons (pv 2) pa_nil)) (pa_cons (pv 2) pa_nil))))
      (fun _ _ _ _ _ => pg_name (i := 3) scByWalls.nd rfl (Or.inl rfl))
      (fun _ _ _ _ _ => pts_one (pt_cmp (pc_din (hu_of hr) (pv 3) (pv 1)))) (fun _ _ _ _ _ => pv 3)))), ?_⟩
    refine ⟨⟨_, rfl⟩, _, rfl, tx l, rfl, fun D hD => ?_⟩
    have nDd : d ≠ D := ne_of_none hd hD
    refine out_it walk_str (fun i H' => Same H H' ∧ H' D = some (.lst (((byW (l.take i) kvs).map sg).map V.str))) ⟨same_upd hD, upd_same⟩ (fun _ _ _ _ => trivial) ?_ ?_
    · rintro i x H1 H2 hi ⟨sm, eD⟩ ⟨rfl, c, hc, rfl⟩
      have hcl : l[i]? = some c := by
        rw [← Array.getElem?_toList, tx_list] at hc
        exact hc
      have hca : c < 128 := g.asc c (List.mem_of_getElem? hcl)
      refine ⟨rfl, yes_i ⟨_, rfl, c, rfl, hca, _, rfl, by show 2 ≤ sizeLine; decide, fun T hT => ⟨T, rfl, ⟨_, SqT.of upd_same⟩, ?_⟩⟩⟩
      have nDT : D ≠ T := ne_of_none eD hT
      refine in_it (walk_tup (K := K) (a := T) (xs := [swp c, c].map fun e => V.str (sg e))) (fun j H' => Same H H' ∧ SqT K H' T ([swp c, c].map fun e => V.str (sg e)) ∧ H' D = some (.lst (((byW (l.take i) kvs ++ ([swp c, c].take j).filter (inK kvs)).map sg).map V.str)))
        ⟨sm_upd sm hT, SqT.of upd_same, by rw [upd_ne nDT, eD]; simp⟩ (fun j H' _ h => h.2.1) ?_ ?_
      · rintro j x H3 H4 hj ⟨sm2, hT2, eD2⟩ ⟨rfl, hx⟩
        rw [List.getElem?_map] at hx
        obtain ⟨e, he, rfl⟩ := Option.map_eq_some_iff.mp hx
        have hd4 : H4 d = some (.dK kvs) := sm2 _ _ hd
        have hlen : (byW (l.take i) kvs ++ ([swp c, c].take j).filter (inK kvs)).length ≤ 2 * 12 + 2 := by
          rw [List.length_append]
          have h1 := byW_len (l.take i) kvs
          have h2 : (([swp c, c].take j).filter (inK kvs)).length ≤ 2 := Nat.le_trans (List.length_filter_le _ _) (by rw [List.length_take]; exact Nat.min_le_right _ _)
          have h3 : (l.take i).length ≤ 12 := Nat.le_trans (by rw [List.length_take]; exact Nat.min_le_right _ _) g.hi
          omega
        refine ⟨rfl, _, rfl, _, rfl, d, _, rfl, DGet.k (k := Sum.inr (sg e)) hd4, _, rfl, ite2 (fun ht => ⟨_, rfl, _, eD2, ?_, sm_over sm2 hD, ?_, ?_⟩) (fun ht => ⟨sm2, hT2, ?_⟩)⟩
        · rw [List.length_map, List.length_map, sizeLine_eq]
          omega
        · rcases hT2 with (z | ⟨o, z⟩) | z
          · exact .inl (.inl (by rw [upd_ne (Ne.symm nDT)]; exact z))
          · exact .inl (.inr ⟨o, by rw [upd_ne (Ne.symm nDT)]; exact z⟩)
          · exact .inr z
        · have e1 : inK kvs e = true := ht
          rw [upd_same, List.take_add_one, he, List.filter_append]
          simp [e1, sg_tx]
        · have e1 : inK kvs e = false := by
            unfold inK
            simpa using ht
          rw [eD2, List.take_add_one, he, List.filter_append]
          simp [e1]
      · rintro H3 ⟨sm2, _, eD2⟩
        refine ⟨sm2, ?_⟩
        rw [eD2, byW_snoc l i c kvs hcl]
        rfl
    · rintro H3 ⟨sm2, eD2⟩
      have e1 : (l.take (tx l).cps.size) = l := by
        rw [show (tx l).cps.size = l.length from tx_len l]
        exact List.take_length
      rw [e1] at eD2
      refine ⟨_, _, (byW l kvs).map sg, rfl, rfl, .inl (SqL.of eD2), ?_, ?_⟩
      · have h1 := byW_len l kvs
        have h2 := g.hi
        have h3 : ∀ xs : List Nat, ((xs.map sg).map (·.length)).sum = xs.length := fun xs => by
          induction xs with
          | nil => rfl
          | cons x r ih =>
            rw [List.map_cons, List.map_cons, List.sum_cons, ih, List.length_cons]
            show 1 + r.length = _
            omega
        rw [h3, show (Str.ofString "").length = 0 by decide +kernel]
        omega
      · rw [join_sg]
        exact q _ sm2
end
end NC
namespace NC
open PySem PySem.Spec PyProof.Rows L2
abbrev sHEinit : Stmt := inClass (topS 2) 0
abbrev sBBinit : Stmt := inClass (topS 4) 0
abbrev sFXinit : Stmt := inClass (topS 6) 0
abbrev sALinit : Stmt := inClass (topS 7) 0
theorem scHE : FnScope ["self", "word"] ["self", "word"] (defScope sHEinit) := ⟨rfl, rfl, rfl, by decide +kernel, rfl, by decide +kernel, by decide +kernel⟩
theorem scBB : FnScope ["self", "at"] ["self", "at"] (defScope sBBinit) := ⟨rfl, rfl, rfl, by decide +kernel, rfl, by decide +kernel, by decide +kernel⟩
theorem scFX : FnScope ["self", "side"] ["self", "side"] (defScope sFXinit) := ⟨rfl, rfl, rfl, by decide +kernel, rfl, by decide +kernel, by decide +kernel⟩
theorem scAL : FnScope ["self", "one", "other"] ["self", "one", "other"] (defScope sALinit) := ⟨rfl, rfl, rfl, by decide +kernel, rfl, by decide +kernel, by decide +kernel⟩
/-- HallError, at C, and its __init__ -/
structure HE (K : PySem.W.Frag) (mg : Str → Option Value) (C f : Addr) (fd : FuncData) : Prop where
  gC : mg "HallError" = some (.ref C)
  rd : ∃ mc, ClX.CRead K C mc ∧ PySem.W.findCls K (.ref C) mc "__init__" = some (.val (.ref f))
  F : Fun K "__init__" "HallError.__init__" sHEinit f fd
  b : Binds K fd ["self", "word"] []
  mV : mg "ValueError" = none
  vV : PySem.W.findCls K (.type "ValueError") (.type "type") "__init__" = some (.val (.builtin "ValueError.__init__"))
section
variable {P : Program} {w : World} {K : PySem.W.Frag} {mg : Str → Option Value} {base : Heap}
theorem ok_chkWalls {f fW : Addr} {fd fdW : FuncData} {k : Nat} {tw : Tok} (B : BM mg) (mW : mg "WIDEST" = some (.int 12 tw)) (F : Fun K "check_walls" "check_walls" sChkWalls f fd) (W : DF K mg "is_walls" sIsWalls ["walls"] fW fdW) :
    FnOk P w K mg base CX0 (k + 2) f fd ["walls"] (fun vs H Q _ => ∃ l, vs = [.str (tx l)] ∧ GoodW l ∧ ∀ H', Same H H' → Q .non H') := by
  have GW : FnOk P w K mg base CX0 (k + 1) fW fdW ["walls"] spIsWalls := ok_isWalls B mW W.F
  refine F.ok scChkWalls (fun vs H Q E h => ?_) (fun cdv A outer s H vs Q E hr h => ?_)
  · obtain ⟨l, rfl, _⟩ := h
    rfl
  · obtain ⟨l, rfl, g, q⟩ := h
    refine ⟨_, pss_one (ps_if (pt_not (pt_val (pe_call GW hr rfl W.g W.F.kp W.b .nil pass0 (pa_cons (pv 0) pa_nil)))) (pss_one ps_never) pss_nil), ?_⟩
    exact ⟨_, rfl, l, rfl, g, fun H1 sm => ⟨true, rfl, iteF (q H1 sm)⟩⟩
theorem ok_chkSide {f fS : Addr} {fd fdS : FuncData} {k : Nat} (B : BM mg) (F : Fun K "check_side" "check_side" sChkSide f fd) (S : DF K mg "sides_of" sSides ["walls"] fS fdS) :
    FnOk P w K mg base CX0 (k + 2) f fd ["walls", "side"] (fun vs H Q _ => ∃ l c, vs = [.str (tx l), .str (sg c)] ∧ GoodW l ∧ c ∈ sds l ∧ ∀ H', Same H H' → Q .non H') := by
  have GS : FnOk P w K mg base CX0 (k + 1) fS fdS ["walls"] spSides := ok_sides B S.F
  refine F.ok scChkSide (fun vs H Q E h => ?_) (fun cdv A outer s H vs Q E hr h => ?_)
  · obtain ⟨l, c, rfl, _⟩ := h
    rfl
  · obtain ⟨l, c, rfl, g, hc, q⟩ := h
    refine ⟨_, pss_one (ps_if (pt_cmpR op_notIn_seq (pv 1) (pe_call GS hr rfl S.g S.F.kp S.b .nil pass0 (pa_cons (pv 0) pa_nil)) (by rfl)) (pss_one ps_never) pss_nil), ?_⟩
    refine ⟨_, rfl, _, rfl, l, rfl, g.asc, by have := g.hi; omega, fun p hp => ⟨p, _, rfl, .inl (SqL.of upd_same), rfl, flat_str _, _, rfl, ?_⟩⟩
    have e : (!inV (.str (sg c)) (((sds l).map sg).map V.str)) = false := by
      rw [inV_str, decide_eq_true (mem_sg.mpr hc)]
      rfl
    show if (!inV (.str (sg c)) (((sds l).map sg).map V.str)) = true then _ else _
    rw [e]
    exact iteF (q _ (same_upd hp))
def spHE (K : PySem.W.Frag) : Sp := fun vs H Q _ => ∃ a C v, vs = [.ref a, v] ∧ OexC K C ∧ PySem.W.findIn K (.ref C) "word" = some none ∧ H a = some (exo a C none) ∧
  ∀ dx, H dx = none → dx ≠ a → Q .non (upd (upd H dx (exd dx [("word", v)])) a (exo a C (some dx)))
theorem ok_HE {C f : Addr} {fd : FuncData} {k : Nat} (T : HE K mg C f fd) : FnOk P w K mg base CX0 (k + 1) f fd ["self", "word"] (spHE K) := by
  refine T.F.ok scHE (fun vs H Q E h => ?_) (fun cdv A outer s H vs Q E hr h => ?_)
  · obtain ⟨a, C, v, rfl, _⟩ := h
    rfl
  · obtain ⟨a, C, v, rfl, hO, hw, ha, q⟩ := h
    refine ⟨_, pss_cons (ps_expr (pe_veinit (by rfl) T.mV T.vV (pa_cons (pv 0) (pa_cons (pv 1) pa_nil)))) (pss_one (ps_ost (pv 0) (pv 1))), ?_⟩
    refine ⟨_, rfl, _, rfl, a, C, [v], rfl, by show 1 ≤ 1000; decide, hO, ha, ?_⟩
    exact ⟨_, rfl, _, rfl, a, C, rfl, hO, hw, .inl ⟨ha, fun dx n ne => q dx n ne⟩⟩
/-- a refusal of one field beside its word -/
def sp1 (K : PySem.W.Frag) (fld : Str) (word : Str) : Sp := fun vs H Q _ => ∃ a C v, vs = [.ref a, v] ∧ OexC K C ∧ PySem.W.findIn K (.ref C) "word" = some none ∧ PySem.W.findIn K (.ref C) fld = some none ∧ H a = some (exo a C none) ∧
  ∀ dx H', H dx = none → dx ≠ a → (∀ b, b ≠ dx → b ≠ a → H' b = H b) → H' a = some (exo a C (some dx)) → H' dx = some (exd dx [(fld, v), ("word", .str word)]) → Q .non H'
theorem ok_BB {CH fH f : Addr} {fd fdH : FuncData} {k : Nat} (T : HE K mg CH fH fdH) (F : Fun K "__init__" "BadBar.__init__" sBBinit f fd) : FnOk P w K mg base CX0 (k + 2) f fd ["self", "at"] (sp1 K "at" "badbar") := by
  have GH : FnOk P w K mg base CX0 (k + 1) fH fdH ["self", "word"] (spHE K) := ok_HE T
  obtain ⟨mc, rd, fc⟩ := T.rd
  refine F.ok scBB (fun vs H Q E h => ?_) (fun cdv A outer s H vs Q E hr h => ?_)
  · obtain ⟨a, C, v, rfl, _⟩ := h
    rfl
  · obtain ⟨a, C, v, rfl, hO, hw, hf, ha, q⟩ := h
    refine ⟨_, pss_cons (ps_expr (pe_clsfn (by rfl) T.gC rd fc GH hr T.F.kp T.b .nil pass0 (pa_cons (pv 0) (pa_cons pe_str pa_nil)))) (pss_one (ps_ost (pv 0) (pv 1))), ?_⟩
    refine ⟨_, rfl, a, C, _, rfl, hO, hw, ha, fun dx n ne => ?_⟩
    refine ⟨_, rfl, _, rfl, a, C, rfl, hO, hf, .inr ⟨dx, _, upd_same, by rw [upd_ne ne, upd_same], by show 1 ≤ 900; decide, q dx _ n ne (fun b h1 h2 => ?_) ?_ ?_⟩⟩
    · rw [upd_ne h1, upd_ne h2, upd_ne h1]
    · rw [upd_ne (Ne.symm ne), upd_same]
    · rw [upd_same]
theorem ok_FX {CH fH f : Addr} {fd fdH : FuncData} {k : Nat} (T : HE K mg CH fH fdH) (F : Fun K "__init__" "Fixed.__init__" sFXinit f fd) : FnOk P w K mg base CX0 (k + 2) f fd ["self", "side"] (sp1 K "side" "fixed") := by
  have GH : FnOk P w K mg base CX0 (k + 1) fH fdH ["self", "word"] (spHE K) := ok_HE T
  obtain ⟨mc, rd, fc⟩ := T.rd
  refine F.ok scFX (fun vs H Q E h => ?_) (fun cdv A outer s H vs Q E hr h => ?_)
  · obtain ⟨a, C, v, rfl, _⟩ := h
    rfl
  · obtain ⟨a, C, v, rfl, hO, hw, hf, ha, q⟩ := h
    refine ⟨_, pss_cons (ps_expr (pe_clsfn (by rfl) T.gC rd fc GH hr T.F.kp T.b .nil pass0 (pa_cons (pv 0) (pa_cons pe_str pa_nil)))) (pss_one (ps_ost (pv 0) (pv 1))), ?_⟩
    refine ⟨_, rfl, a, C, _, rfl, hO, hw, ha, fun dx n ne => ?_⟩
    refine ⟨_, rfl, _, rfl, a, C, rfl, hO, hf, .inr ⟨dx, _, upd_same, by rw [upd_ne ne, upd_same], by show 1 ≤ 900; decide, q dx _ n ne (fun b h1 h2 => ?_) ?_ ?_⟩⟩
    · rw [upd_ne h1, upd_ne h2, upd_ne h1]
    · rw [upd_ne (Ne.symm ne), upd_same]
    · rw [upd_same]
def sp2 (K : PySem.W.Frag) : Sp := fun vs H Q _ => ∃ a C v u, vs = [.ref a, v, u] ∧ OexC K C ∧ PySem.W.findIn K (.ref C) "word" = some none ∧ PySem.W.findIn K (.ref C) "one" = some none ∧ PySem.W.findIn K (.ref C) "other" = some none ∧ H a = some (exo a C none) ∧
  ∀ dx H', H dx = none → dx ≠ a → (∀ b, b ≠ dx → b ≠ a → H' b = H b) → H' a = some (exo a C (some dx)) → H' dx = some (exd dx [("other", u), ("one", v), ("word", .str "alike")]) → Q .non H'
theorem ok_AL {CH fH f : Addr} {fd fdH : FuncData} {k : Nat} (T : HE K mg CH fH fdH) (F : Fun K "__init__" "Alike.__init__" sALinit f fd) : FnOk P w K mg base CX0 (k + 2) f fd ["self", "one", "other"] (sp2 K) := by
  have GH : FnOk P w K mg base CX0 (k + 1) fH fdH ["self", "word"] (spHE K) := ok_HE T
  obtain ⟨mc, rd, fc⟩ := T.rd
  refine F.ok scAL (fun vs H Q E h => ?_) (fun cdv A outer s H vs Q E hr h => ?_)
  · obtain ⟨a, C, v, u, rfl, _⟩ := h
    rfl
  · obtain ⟨a, C, v, u, rfl, hO, hw, h1, h2, ha, q⟩ := h
    refine ⟨_, pss_cons (ps_expr (pe_clsfn (by rfl) T.gC rd fc GH hr T.F.kp T.b .nil pass0 (pa_cons (pv 0) (pa_cons pe_str pa_nil)))) (pss_cons (ps_ost (pv 0) (pv 1)) (pss_one (ps_ost (pv 0) (pv 2)))), ?_⟩
    refine ⟨_, rfl, a, C, _, rfl, hO, hw, ha, fun dx n ne => ?_⟩
    refine ⟨_, rfl, _, rfl, a, C, rfl, hO, h1, .inr ⟨dx, _, upd_same, by rw [upd_ne ne, upd_same], by show 1 ≤ 900; decide, ?_⟩⟩
    refine ⟨_, rfl, _, rfl, a, C, rfl, hO, h2, .inr ⟨dx, _, by rw [upd_ne (Ne.symm ne), upd_same], upd_same, by show 2 ≤ 900; decide, q dx _ n ne (fun b g1 g2 => ?_) ?_ ?_⟩⟩
    · rw [upd_ne g1, upd_ne g1, upd_ne g2, upd_ne g1]
    · rw [upd_ne (Ne.symm ne), upd_ne (Ne.symm ne), upd_same]
    · rw [upd_same]
end
end NC
namespace NC
open PySem PySem.Spec PyProof.Rows L2
def badAt (l : List Nat) (bs : List (List Nat)) (i : Nat) : Bool := !isBar l (bs.getD i []) || decide (bs.getD i [] ∈ bs.take i)
def firstBad (l : List Nat) (bs : List (List Nat)) : Option Nat := (List.range bs.length).find? (badAt l bs)
theorem first_at {l : List Nat} {bs : List (List Nat)} {i : Nat} {b : List Nat} (h : bs[i]? = some b) (ok : ∀ j, j < i → badAt l bs j = false) (hb : badAt l bs i = true) : firstBad l bs = some i := by
  have hi : i < bs.length := (List.getElem?_eq_some_iff.mp h).1
  unfold firstBad
  refine List.find?_eq_some_iff_getElem.mpr ⟨hb, i, by simpa using hi, by simp, fun j hj => ?_⟩
  rw [List.getElem_range, ok j hj]
  rfl
theorem walk_enumT {K : PySem.W.Frag} {a : Addr} {xs : List V} : Walk (ItET K a) xs.length (fun H => SqT K H a xs) (YPair (fun i => some (.int (i : Nat))) (fun i => xs[i]?)) where
  goes := fun i _ lt sq => ⟨xs, xs[i], sq, List.getElem?_eq_getElem lt⟩
  stops := fun _ sq => ⟨xs, sq, Nat.le_refl _⟩
  yields := fun i _ _ _ _ sq ⟨T, x, e1, e2, e3, e4⟩ => ⟨T, .int (i : Nat), x, e1, e2, e3, rfl, e4 xs sq⟩
theorem cut_to (bs : List (List Nat)) (i : Nat) (h : i ≤ bs.length) : cutV ((bs.map tx).map V.str) none (some ((i : Nat) : Int)) = ((bs.take i).map tx).map V.str := by
  unfold cutV
  rw [HT.sIx_none, HT.sIx_nat, List.drop_zero, Nat.sub_zero, List.length_map, List.length_map, Nat.min_eq_left h, List.map_take, List.map_take]
/-- an own refusal's class, at C, its __init__ at fI -/
structure XC (K : PySem.W.Frag) (mg : Str → Option Value) (x q : Str) (st : Stmt) (fld : Str) (C fI : Addr) (fd : FuncData) : Prop where
  gC : mg x = some (.ref C)
  O : OexC K C
  hw : PySem.W.findIn K (.ref C) "word" = some none
  hf : PySem.W.findIn K (.ref C) fld = some none
  iC : PySem.W.findIn K (.ref C) "__init__" = some (some (.ref fI))
  tI : PySem.W.typeIn K (.ref fI) = some (.type "function")
  F : Fun K "__init__" q st fI fd
  b : Binds K fd ["self", fld] []
theorem mk1 {K : PySem.W.Frag} {C : Addr} {fld word : Str} (hO : OexC K C) (hw : PySem.W.findIn K (.ref C) "word" = some none) (hf : PySem.W.findIn K (.ref C) fld = some none) {H1 : Hp} {v : V} {Q : XK}
    (q : ∀ d H', Same H1 H' → H1 d = none → H' d = some (.xd [(fld, v), ("word", .str word)]) → Q (.ref C) (some d) H') :
    ∀ a, H1 a = none → sp1 K fld word (.ref a :: ([v] ++ [])) (upd H1 a (exo a C none))
      (fun u H2 => u = .non ∧ ∃ (d : Addr) (fs : List (Str × V)), H2 a = some (exo a C (some d)) ∧ H2 d = some (exd d fs) ∧ H1 d = none ∧ Q (.ref C) (some d) (upd (del H2 a) d (.xd fs))) (fun _ _ _ => False) := by
  intro a na
  refine ⟨a, C, v, rfl, hO, hw, hf, upd_same, fun dx H' n1 n2 k e1 e2 => ⟨rfl, dx, _, e1, e2, ?_, q dx _ (fun b o hb => ?_) ?_ upd_same⟩⟩
  · rw [upd_ne n2] at n1
    exact n1
  · have hd : H1 dx = none := by
      rw [upd_ne n2] at n1
      exact n1
    have b1 : b ≠ dx := ne_of_none hb hd
    have b2 : b ≠ a := ne_of_none hb na
    rw [upd_ne b1, del_ne b2, k b b1 b2, upd_ne b2]
    exact hb
  · rw [upd_ne n2] at n1
    exact n1
theorem scChkBars : FnScope ["walls", "bars", "at", "bar"] ["walls", "bars"] (defScope sChkBars) := ⟨rfl, rfl, rfl, by decide +kernel, rfl, by decide +kernel, by decide +kernel⟩
section
variable {P : Program} {w : World} {K : PySem.W.Frag} {mg : Str → Option Value} {base : Heap}
def BarsOk (bs : List (List Nat)) : Prop := ∀ b ∈ bs, (∀ c ∈ b, c < 128) ∧ b.length ≤ 100
def spChkBars (K : PySem.W.Frag) (CB : Addr) : Sp := fun vs H Q E => ∃ l a bs, vs = [.str (tx l), .ref a] ∧ GoodW l ∧ BarsOk bs ∧ bs.length ≤ 100 ∧ (SqL K H a ((bs.map tx).map V.str) ∨ SqT K H a ((bs.map tx).map V.str)) ∧
  match firstBad l bs with
  | none => ∀ H', Same H H' → Q .non H'
  | some i => ∀ H' d, Same H H' → H d = none → H' d = some (.xd [("at", .int (i : Nat)), ("word", .str "badbar")]) → E (.ref CB) (some d) H'
set_option maxHeartbeats 1000000 in
theorem ok_chkBars {f fI CB fB CH fH fS : Addr} {fd fdI fdB fdH fdS : FuncData} {k : Nat} (B : BM mg) (F : Fun K "check_bars" "check_bars" sChkBars f fd) (I : DF K mg "is_bar" sIsBar ["walls", "bar"] fI fdI) (S : DF K mg "sides_of" sSides ["walls"] fS fdS)
    (T : HE K mg CH fH fdH) (X : XC K mg "BadBar" "BadBar.__init__" sBBinit "at" CB fB fdB) : FnOk P w K mg base (L2.CX P w) (k + 4) f fd ["walls", "bars"] (spChkBars K CB) := by
  have GI : FnOk P w K mg base CX0 (k + 2) fI fdI ["walls", "bar"] spIsBar := ok_isBar B I.F S
  have GB : FnOk P w K mg base CX0 (k + 2) fB fdB ["self", "at"] (sp1 K "at" "badbar") := ok_BB T X.F
  refine F.okX scChkBars (fun vs H Q E h => ?_) (fun cdv A outer s H vs Q E hr h => ?_)
  · obtain ⟨l, a, bs, rfl, _⟩ := h
    rfl
  · obtain ⟨l, a, bs, rfl, g, hbs, hbl, hS, q⟩ := h
    refine ⟨_, pss_one (ps_for (passes_of rfl) rfl (pi_enumT (by rfl) B.enumerate (pa_cons (pv 1) pa_nil))
        (pg_tup rfl (pgs_cons (pg_name (i := 2) scChkBars.nd rfl (.inl rfl)) (pgs_cons (pg_name (i := 3) scChkBars.nd rfl (.inl rfl)) pgs_nil)))
      (pss_one (ps_if (PW.pt (pw_or (pt_not (pt_val (pe_call GI (hr.mono (by omega)) rfl I.g I.F.kp I.b .nil pass0 (pa_cons (pv 0) (pa_cons (pv 3) pa_nil)))))
          (pw_or1 (pt_cmpR op_in_seq (pv 3) (pe_slice (SlR.or sl_list sl_tup) (pv 1) po_none (po_some (pv 2))) (by rfl)))))
        (pss_one (ps_raise rfl (takes_of rfl rfl rfl rfl) (pmk_oex X.O X.iC X.tI GB hr X.b .nil pass0 (by rfl) X.gC (pa_cons (pv 2) pa_nil)))) pss_nil))), ?_⟩
    refine ⟨_, rfl, a, rfl, ?_⟩
    have len : ((bs.map tx).map V.str).length = bs.length := by rw [List.length_map, List.length_map]
    rcases hS with hS | hS
    · have wk := walk_enum (K := K) (a := a) (xs := (bs.map tx).map V.str)
      rw [len] at wk
      refine .inl ⟨⟨_, hS⟩, for_it wk (fun i σ H' => ∃ y2 y3, σ = [some (.str (tx l)), some (.ref a), y2, y3] ∧ (∀ j, j < i → badAt l bs j = false) ∧ Same H H')
        ⟨_, _, rfl, fun _ h => absurd h (Nat.not_lt_zero _), L2.Same.refl _⟩ (fun i σ H' _ p => by obtain ⟨_, _, _, _, sm⟩ := p; exact sm_l sm hS) ?_ ?_⟩
      · rintro i x σ H1 H2 hi ⟨y2, y3, rfl, hok, sm⟩ ⟨T, x1, x2, rfl, nT, rfl, e1, e2⟩
        obtain rfl : V.int (i : Nat) = x1 := Option.some.inj e1
        have e2 : ((bs.map tx).map V.str)[i]? = some x2 := e2
        rw [List.getElem?_map, List.getElem?_map] at e2
        obtain ⟨z, hz, e3⟩ := Option.map_eq_some_iff.mp e2
        obtain ⟨b, hbi, rfl⟩ := Option.map_eq_some_iff.mp hz
        subst e3
        have hb : b ∈ bs := List.mem_of_getElem? hbi
        have sT : Same H (upd H1 T (.tup [.int (i : Nat), .str (tx b)])) := sm_upd sm nT
        refine ⟨T, _, rfl, SqT.of upd_same, rfl, _, _, rfl, _, _, rfl, rfl, ?_⟩
        refine ⟨_, rfl, _, rfl, l, b, rfl, g.asc, by have := g.hi; omega, (hbs b hb).1, (hbs b hb).2, fun H3 s3 => ⟨_, rfl, ite2 (fun t1 => ?_) (fun t1 => ?_)⟩⟩
        · -- no bar
          have hn : isBar l b = false := by simpa using t1
          have fb : firstBad l bs = some i := first_at hbi hok (by unfold badAt; rw [List.getD_eq_getElem?_getD, hbi]; simp [hn])
          rw [fb] at q
          refine iteT ⟨_, rfl, by show 1 ≤ 1000; decide, mk1 X.O X.hw X.hf fun d H4 s4 n4 e4 => ?_⟩
          exact q H4 d (sm_trans (sm_trans sT s3) s4) (L2.Same.free (sm_trans sT s3) n4) e4
        · have hy : isBar l b = true := by simpa using t1
          have hS3 := sm_l (sm_trans sT s3) hS
          refine ⟨_, rfl, _, rfl, _, rfl, _, rfl, .inl ⟨a, _, rfl, hS3, fun p np => ?_⟩⟩
          rw [cut_to bs i (Nat.le_of_lt hi)]
          refine ⟨p, _, rfl, .inl (SqL.of upd_same), rfl, flat_str _, _, rfl, ite2 (fun t2 => ?_) (fun t2 => ?_)⟩
          · have hm : b ∈ bs.take i := by
              have t3 : inV (.str (tx b)) (((bs.take i).map tx).map V.str) = true := t2
              rw [inV_str] at t3
              obtain ⟨c, hc, e⟩ := List.mem_map.mp (of_decide_eq_true t3)
              rw [← tx_inj e]
              exact hc
            have fb : firstBad l bs = some i := first_at hbi hok (by unfold badAt; rw [List.getD_eq_getElem?_getD, hbi]; simp [hm])
            rw [fb] at q
            refine ⟨_, rfl, by show 1 ≤ 1000; decide, mk1 X.O X.hw X.hf fun d H4 s4 n4 e4 => ?_⟩
            have s5 := sm_upd (o := .lst (((bs.take i).map tx).map V.str)) (sm_trans sT s3) np
            exact q H4 d (sm_trans s5 s4) (L2.Same.free s5 n4) e4
          · refine ⟨_, _, rfl, fun j hj => ?_, sm_upd (sm_trans sT s3) np⟩
            rcases Nat.lt_or_ge j i with h | h
            · exact hok j h
            · obtain rfl : j = i := by omega
              have hm : b ∉ bs.take j := fun z => by
                have t3 : ¬ inV (.str (tx b)) (((bs.take j).map tx).map V.str) = true := t2
                rw [inV_str] at t3
                exact t3 (decide_eq_true (List.mem_map.mpr ⟨b, z, rfl⟩))
              unfold badAt
              rw [List.getD_eq_getElem?_getD, hbi]
              simp [hy, hm]
      · rintro σ H1 ⟨y2, y3, rfl, hok, sm⟩
        have fb : firstBad l bs = none := List.find?_eq_none.mpr fun j hj => by
          rw [hok j (by simpa using hj)]
          decide
        rw [fb] at q
        exact q H1 sm
    · have wk := walk_enumT (K := K) (a := a) (xs := (bs.map tx).map V.str)
      rw [len] at wk
      refine .inr ⟨⟨_, hS⟩, for_it wk (fun i σ H' => ∃ y2 y3, σ = [some (.str (tx l)), some (.ref a), y2, y3] ∧ (∀ j, j < i → badAt l bs j = false) ∧ Same H H')
        ⟨_, _, rfl, fun _ h => absurd h (Nat.not_lt_zero _), L2.Same.refl _⟩ (fun i σ H' _ p => by obtain ⟨_, _, _, _, sm⟩ := p; exact sm_t sm hS) ?_ ?_⟩
      · rintro i x σ H1 H2 hi ⟨y2, y3, rfl, hok, sm⟩ ⟨T, x1, x2, rfl, nT, rfl, e1, e2⟩
        obtain rfl : V.int (i : Nat) = x1 := Option.some.inj e1
        have e2 : ((bs.map tx).map V.str)[i]? = some x2 := e2
        rw [List.getElem?_map, List.getElem?_map] at e2
        obtain ⟨z, hz, e3⟩ := Option.map_eq_some_iff.mp e2
        obtain ⟨b, hbi, rfl⟩ := Option.map_eq_some_iff.mp hz
        subst e3
        have hb : b ∈ bs := List.mem_of_getElem? hbi
        have sT : Same H (upd H1 T (.tup [.int (i : Nat), .str (tx b)])) := sm_upd sm nT
        refine ⟨T, _, rfl, SqT.of upd_same, rfl, _, _, rfl, _, _, rfl, rfl, ?_⟩
        refine ⟨_, rfl, _, rfl, l, b, rfl, g.asc, by have := g.hi; omega, (hbs b hb).1, (hbs b hb).2, fun H3 s3 => ⟨_, rfl, ite2 (fun t1 => ?_) (fun t1 => ?_)⟩⟩
        · -- no bar
          have hn : isBar l b = false := by simpa using t1
          have fb : firstBad l bs = some i := first_at hbi hok (by unfold badAt; rw [List.getD_eq_getElem?_getD, hbi]; simp [hn])
          rw [fb] at q
          refine iteT ⟨_, rfl, by show 1 ≤ 1000; decide, mk1 X.O X.hw X.hf fun d H4 s4 n4 e4 => ?_⟩
          exact q H4 d (sm_trans (sm_trans sT s3) s4) (L2.Same.free (sm_trans sT s3) n4) e4
        · have hy : isBar l b = true := by simpa using t1
          have hS3 := sm_t (sm_trans sT s3) hS
          refine ⟨_, rfl, _, rfl, _, rfl, _, rfl, .inr ⟨a, _, rfl, hS3, fun z => absurd z.2 (by rw [len, HT.sIx_nat]; omega), fun p np => ?_⟩⟩
          rw [cut_to bs i (Nat.le_of_lt hi)]
          refine ⟨p, _, rfl, .inr (SqT.of upd_same), rfl, flat_str _, _, rfl, ite2 (fun t2 => ?_) (fun t2 => ?_)⟩
          · have hm : b ∈ bs.take i := by
              have t3 : inV (.str (tx b)) (((bs.take i).map tx).map V.str) = true := t2
              rw [inV_str] at t3
              obtain ⟨c, hc, e⟩ := List.mem_map.mp (of_decide_eq_true t3)
              rw [← tx_inj e]
              exact hc
            have fb : firstBad l bs = some i := first_at hbi hok (by unfold badAt; rw [List.getD_eq_getElem?_getD, hbi]; simp [hm])
            rw [fb] at q
            refine ⟨_, rfl, by show 1 ≤ 1000; decide, mk1 X.O X.hw X.hf fun d H4 s4 n4 e4 => ?_⟩
            have s5 := sm_upd (o := .tup (((bs.take i).map tx).map V.str)) (sm_trans sT s3) np
            exact q H4 d (sm_trans s5 s4) (L2.Same.free s5 n4) e4
          · refine ⟨_, _, rfl, fun j hj => ?_, sm_upd (sm_trans sT s3) np⟩
            rcases Nat.lt_or_ge j i with h | h
            · exact hok j h
            · obtain rfl : j = i := by omega
              have hm : b ∉ bs.take j := fun z => by
                have t3 : ¬ inV (.str (tx b)) (((bs.take j).map tx).map V.str) = true := t2
                rw [inV_str] at t3
                exact t3 (decide_eq_true (List.mem_map.mpr ⟨b, z, rfl⟩))
              unfold badAt
              rw [List.getD_eq_getElem?_getD, hbi]
              simp [hy, hm]
      · rintro σ H1 ⟨y2, y3, rfl, hok, sm⟩
        have fb : firstBad l bs = none := List.find?_eq_none.mpr fun j hj => by
          rw [hok j (by simpa using hj)]
          decide
        rw [fb] at q
        exact q H1 sm
end
end NC
namespace NC
open PySem PySem.Spec PyProof.Rows L2
section
variable {X : Cx}
/-- y = {k: v for ..}, y a plain local: what the comprehension hands on is stored in y's slot -/
theorem ps_setDc {i : Nat} {y : Str} {py : Pos} {kx vx tg iter : Expr} {ifs : List Expr} {scope : Scope} {own : List (Str × Nat)} {pos spos : Pos} {wi : TI} {g : TG} {tt : TT} {tk tv : TE} (calm : X.calm = true) (nd : X.N.Nodup) (at_ : X.N[i]? = some y)
    (loc : X.env.scope.names.lookup y = some .local) (sw : swapsWith (.DictComp kx vx [⟨tg, iter, ifs, 0⟩] scope pos) (some (.Name y py)) spos.line X.env = pure true) (it : PI X tg iter wi) (blk : BlkOk X.N X.env.scope scope own)
    (pg : ∀ (s : Shared) (H : Hp) (C : Addr) (cl : List (Str × Addr)) (fp : List Addr), PG (X.blk s H scope (compEnvC scope cl C X.env) fp) tg g)
    (pt : ∀ (s : Shared) (H : Hp) (C : Addr) (cl : List (Str × Addr)) (fp : List Addr), PTs (X.blk s H scope (compEnvC scope cl C X.env) fp) ifs tt)
    (pk : ∀ (s : Shared) (H : Hp) (C : Addr) (cl : List (Str × Addr)) (fp : List Addr), PE (X.blk s H scope (compEnvC scope cl C X.env) fp) kx tk)
    (pw : ∀ (s : Shared) (H : Hp) (C : Addr) (cl : List (Str × Addr)) (fp : List Addr), PE (X.blk s H scope (compEnvC scope cl C X.env) fp) vx tv) (fo : ∀ x, foldedSetIterable iter X.env x = pure x := by intro _; rfl) :
    PS X (.Assign [.Name y py] (.DictComp kx vx [⟨tg, iter, ifs, 0⟩] scope pos) spos) (tAsg (tDc wi g tt tk tv (own.map (·.2))) (gName i)) := ⟨fun ps t σ H D I w => by
  have made : wpAny (model X.prog X.w) X.A (comprehension (.DictComp kx vx [⟨tg, iter, ifs, 0⟩] scope pos) scope X.env (firstIterPos [⟨tg, iter, ifs, 0⟩] pos) newDict false (eval iter X.env) (some (assign (.Name y py) X.env))) (fun _ v => SP X ps D .next v) X.xe t := by
    refine dc_core (Qf := fun _ v => SP X ps D .next v) calm nd I it blk pg pt pk pw fo (show tDc wi g tt tk tv (own.map (·.2)) σ H (fun x G => gName i x σ G D.nx) from w) fun L C v m G J q cells fr => ?_
    show wpAny (model X.prog X.w) X.A (assign (.Name y py) X.env (.ref L)) _ X.xe v
    refine wpAny_assign_Name (store_ok2 (v := V.ref L) J nd at_ (.inl loc) rfl (fun v2 J2 st => ?_) (.inr loc))
    obtain ⟨b, same, eb⟩ := st
    have apart : C ≠ b := eb.elim (fun z => z ▸ fr.2.1) (fun z z2 => fr.2.2.2.2.1 y b z z2.symm)
    exact ⟨m, cells.sameBut same apart, fun _ keep => ⟨_, G, J2.turned (t' := v2.toks) (fun c o hc e => (keep.2 c hc).trans e) fr.1 fr.2.1 fr.2.2.2.1 fr.2.2.2.2.1 fr.2.2.2.2.2, q⟩⟩
  rw [exec_Assign_Name_used _ _ _ _ sw]
  exact wpAny_bind (wpAny_standAt (wpAny_bind (wpAny_bind (thn made fun _ v r => wpAny_pure (wpAny_pure r)))))⟩
/-- such an assignment swaps where the name is a local of a function and none of the comprehension's own -/
theorem sw_dict {kx vx : Expr} {gs : List Comprehension} {scope : Scope} {pos py : Pos} {y : Str} {l : Nat} {env : Env} (fn : env.scope.kind = .function) (loc : env.scope.names.lookup y = some .local) (row : (py.line == pos.line) = true)
    (out : (scope.names.any fun (n, k) => n == y && (k == .local || k == .cell)) = false) : swapsWith (.DictComp kx vx gs scope pos) (some (.Name y py)) l env = pure true := by
  have k1 : env.blockKind = .function := by
    unfold Env.blockKind
    rw [fn]
    rfl
  unfold swapsWith
  simp only [k1, show env.kindOf y = some .local from loc, out, Expr.pos, row]
  rfl
/-- for x in a name that holds a list or a tuple -/
def iSeq (K : PySem.W.Frag) (tl : TE) : TI := fun σ H R => tl σ H fun x H1 => ∃ a, x = .ref a ∧ ((∃ xs, SqL K H1 a xs) ∧ R (Itl K a) H1 ∨ (∃ xs, SqT K H1 a xs) ∧ R (Itt K a) H1)
theorem pi_seq {tg l : Expr} {i : Nat} (at_ : PE X l (tVar i)) : PI X tg l (iSeq X.K (tVar i)) := ⟨fun ps s σ H R I ⟨v, sv, a, ev, k⟩ => k.elim
  (fun k => (pi_list (tg := tg) at_).run ps s σ H R I ⟨v, sv, a, ev, k⟩) (fun k => (pi_tup (tg := tg) at_).run ps s σ H R I ⟨v, sv, a, ev, k⟩)⟩
end
end NC
namespace NC
open PySem PySem.Spec PyProof.Rows L2
abbrev sStraight : Stmt := topS 21
theorem scStraight : FnScope ["walls", "bars", "straight", "bar", "side"] ["walls", "bars"] (defScope sStraight) := ⟨rfl, rfl, rfl, by decide +kernel, rfl, by decide +kernel, by decide +kernel⟩
def con (s : Nat) (b : List Nat) : List Nat := match b with
  | [x, y] => (if x = s then [swp y] else []) ++ (if y = s then [swp x] else [])
  | _ => []
def adjOf (bs : List (List Nat)) (s : Nat) : List Nat := bs.flatMap (con s)
theorem con_len (s : Nat) (b : List Nat) : (con s b).length ≤ 2 := by
  unfold con
  split
  · rw [List.length_append]
    split <;> split <;> simp
  · simp
theorem adj_len (bs : List (List Nat)) (s : Nat) : (adjOf bs s).length ≤ 2 * bs.length := by
  induction bs with
  | nil => simp [adjOf]
  | cons b r ih =>
    have e : adjOf (b :: r) s = con s b ++ adjOf r s := by simp [adjOf]
    rw [e, List.length_append, List.length_cons]
    have := con_len s b
    omega
theorem bar_two {l b : List Nat} (h : isBar l b = true) : ∃ x y, b = [x, y] ∧ x ∈ sds l ∧ y ∈ sds l ∧ lwc x < lwc y := by
  match b, h with
  | [x, y], h =>
    have h' : (decide (x ∈ sds l) && (decide (y ∈ sds l) && decide (lwc x < lwc y))) = true := h
    rw [Bool.and_eq_true, Bool.and_eq_true] at h'
    exact ⟨x, y, rfl, of_decide_eq_true h'.1, of_decide_eq_true h'.2.1, of_decide_eq_true h'.2.2⟩
theorem adj_mem {l : List Nat} (g : GoodW l) {bs : List (List Nat)} (hb : ∀ b ∈ bs, isBar l b = true) {s c : Nat} (h : c ∈ adjOf bs s) : c ∈ sds l := by
  obtain ⟨b, hb1, hc⟩ := List.mem_flatMap.mp h
  obtain ⟨x, y, rfl, hx, hy, _⟩ := bar_two (hb b hb1)
  have hc : c ∈ (if x = s then [swp y] else []) ++ (if y = s then [swp x] else []) := hc
  rcases List.mem_append.mp hc with q | q
  · split at q
    · rw [List.mem_singleton.mp q]; exact sds_swp g hy
    · cases q
  · split at q
    · rw [List.mem_singleton.mp q]; exact sds_swp g hx
    · cases q
theorem adj_snoc (bs : List (List Nat)) (i s : Nat) (b : List Nat) (h : bs[i]? = some b) : adjOf (bs.take (i + 1)) s = adjOf (bs.take i) s ++ con s b := by
  rw [List.take_add_one, h]
  unfold adjOf
  rw [List.flatMap_append]
  simp
def stK (L : List Nat) (ad : Nat → Addr) : List (Key × V) := L.map fun s => (Sum.inr (sg s), V.ref (ad s))
theorem stK_val {L : List Nat} {ad : Nat → Addr} {s : Nat} (h : s ∈ L) : valV (stK L ad) (Sum.inr (sg s)) = some (.ref (ad s)) := by
  induction L with
  | nil => cases h
  | cons t r ih =>
    by_cases e : t = s
    · subst e
      exact valV_pos (p := (Sum.inr (sg t), V.ref (ad t))) rfl
    · have h2 : s ∈ r := by
        rcases List.mem_cons.mp h with z | z
        · exact absurd z.symm e
        · exact z
      exact (valV_neg (p := (Sum.inr (sg t), V.ref (ad t))) (fun z => e (sg_inj (Sum.inr.inj z)))).trans (ih h2)
theorem stK_no {L : List Nat} {ad : Nat → Addr} {s : Nat} (h : s ∉ L) : valV (stK L ad) (Sum.inr (sg s)) = none := by
  induction L with
  | nil => rfl
  | cons t r ih =>
    have e : ¬ t = s := fun z => h (by rw [z]; exact List.mem_cons_self ..)
    exact (valV_neg (p := (Sum.inr (sg t), V.ref (ad t))) (fun z => e (sg_inj (Sum.inr.inj z)))).trans (ih fun z => h (List.mem_cons_of_mem _ z))
/-- the dict of lists of what is forced straight -/
structure SD8 (H : Hp) (L : List Nat) (d : Addr) (ad : Nat → Addr) (adj : Nat → List Nat) : Prop where
  dk : H d = some (.dK (stK L ad))
  at_ : ∀ s ∈ L, H (ad s) = some (.lst (((adj s).map sg).map V.str))
  inj : ∀ s ∈ L, ∀ t ∈ L, ad s = ad t → s = t
theorem SD8.nd {H : Hp} {L : List Nat} {d : Addr} {ad : Nat → Addr} {adj : Nat → List Nat} (S : SD8 H L d ad adj) {s : Nat} (h : s ∈ L) : ad s ≠ d := ne_of (S.at_ s h) S.dk fun z => by cases z
theorem SD8.get {H : Hp} {L : List Nat} {d : Addr} {ad : Nat → Addr} {adj : Nat → List Nat} (S : SD8 H L d ad adj) {s : Nat} (h : s ∈ L) : DGet H d (.str (sg s)) (some (.ref (ad s))) := by
  rw [← stK_val (ad := ad) h]
  exact DGet.k (k := Sum.inr (sg s)) S.dk
theorem SD8.app {H : Hp} {L : List Nat} {d : Addr} {ad : Nat → Addr} {adj : Nat → List Nat} (S : SD8 H L d ad adj) {s c : Nat} (h : s ∈ L) :
    SD8 (upd H (ad s) (.lst (((adj s).map sg).map V.str ++ [.str (sg c)]))) L d ad (fun t => if t = s then adj t ++ [c] else adj t) := by
  refine ⟨by rw [upd_ne (Ne.symm (S.nd h))]; exact S.dk, fun t ht => ?_, S.inj⟩
  by_cases e : t = s
  · subst e
    rw [upd_same, if_pos rfl, List.map_append, List.map_append]
    rfl
  · rw [upd_ne (fun z => e (S.inj t ht s h z)), if_neg e]
    exact S.at_ t ht
section
variable {P : Program} {w : World} {K : PySem.W.Frag} {mg : Str → Option Value} {base : Heap}
def spStraight (K : PySem.W.Frag) : Sp := fun vs H Q _ => ∃ l a bs, vs = [.str (tx l), .ref a] ∧ GoodW l ∧ (∀ b ∈ bs, isBar l b = true) ∧ bs.length ≤ 100 ∧ (SqL K H a ((bs.map tx).map V.str) ∨ SqT K H a ((bs.map tx).map V.str)) ∧
  ∀ H' d ad, Same H H' → H d = none → SD8 H' (sds l) d ad (adjOf bs) → Q (.ref d) H'
set_option maxHeartbeats 1000000 in
theorem ok_straight {f fS fO : Addr} {fd fdS fdO : FuncData} {k : Nat} (B : BM mg) (F : Fun K "straight_from" "straight_from" sStraight f fd) (S : DF K mg "sides_of" sSides ["walls"] fS fdS) (O : DF K mg "other" sOther ["side"] fO fdO) :
    FnOk P w K mg base CX0 (k + 2) f fd ["walls", "bars"] (spStraight K) := by
  have GS : FnOk P w K mg base CX0 (k + 1) fS fdS ["walls"] spSides := ok_sides B S.F
  have GO : FnOk P w K mg base CX0 (k + 1) fO fdO ["side"] spOther := ok_other O.F
  refine F.ok scStraight (fun vs H Q E h => ?_) (fun cdv A outer s H vs Q E hr h => ?_)
  · obtain ⟨l, a, bs, rfl, _⟩ := h
    rfl
  · obtain ⟨l, a, bs, rfl, g, hbar, hbl, hS, q⟩ := h
    refine ⟨_, pss_cons (ps_setDc (i := 2) (own := [("side", 4)]) (g := gName 4) (tt := tYes) rfl scStraight.nd rfl rfl (sw_dict rfl rfl rfl (by decide +kernel)) (pi_list (pe_call GS hr rfl S.g S.F.kp S.b .nil pass0 (pa_cons (pv 0) pa_nil)))
        (blkOk_by (N := ["walls", "bars", "straight", "bar", "side"]) (sc := defScope sStraight) (by decide +kernel)) (fun _ _ _ _ _ => pg_name (i := 4) scStraight.nd rfl (Or.inl rfl)) (fun _ _ _ _ _ => pts_nil) (fun _ _ _ _ _ => pv 4) (fun _ _ _ _ _ => pe_lst pa_nil))
      (pss_cons (ps_for PassesOwn.never rfl (pi_seq (pv 1)) (pg_name (i := 3) scStraight.nd rfl (Or.inl rfl))
        (pss_cons (ps_expr (pe_bm PySem.F.plainAttrs_list PySem.F.slot_list_append PySem.F.type_list_append mt_append (pe_dget (hu_of hr) (pv 2) (pe_ix ix_str (pv 3) pe_int (fun _ _ => rfl)) (fun _ _ => rfl))
            (pa_cons (pe_call GO hr rfl O.g O.F.kp O.b .nil pass0 (pa_cons (pe_ix ix_str (pv 3) pe_int (fun _ _ => rfl)) pa_nil)) pa_nil)))
          (pss_one (ps_expr (pe_bm PySem.F.plainAttrs_list PySem.F.slot_list_append PySem.F.type_list_append mt_append (pe_dget (hu_of hr) (pv 2) (pe_ix ix_str (pv 3) pe_int (fun _ _ => rfl)) (fun _ _ => rfl))
            (pa_cons (pe_call GO hr rfl O.g O.F.kp O.b .nil pass0 (pa_cons (pe_ix ix_str (pv 3) pe_int (fun _ _ => rfl)) pa_nil)) pa_nil))))))
      (pss_one (ps_ret (pv 2)))), ?_⟩
    refine ⟨_, rfl, l, rfl, g.asc, by have := g.hi; omega, fun p np => ⟨p, rfl, ⟨_, SqL.of upd_same⟩, fun D nD => ?_⟩⟩
    have s1 : Same H (upd H p (.lst (((sds l).map sg).map V.str))) := same_upd np
    have hp1 : (upd H p (.lst (((sds l).map sg).map V.str))) p = some (.lst (((sds l).map sg).map V.str)) := upd_same
    generalize (upd H p (.lst (((sds l).map sg).map V.str))) = H1 at s1 nD hp1 ⊢
    have wk := walk_list (K := K) (a := p) (xs := ((sds l).map sg).map V.str)
    rw [List.length_map, List.length_map] at wk
    refine dc_it wk (fun i H' => ∃ ad, Same H1 H' ∧ SD8 H' ((sds l).take i) D ad (fun _ => []) ∧ ∀ s ∈ (sds l).take i, H1 (ad s) = none)
      ⟨fun _ => p, same_upd nD, ⟨upd_same, fun s hs => by simp at hs, fun s hs => by simp at hs⟩, fun s hs => by simp at hs⟩ (fun i H' _ h => by obtain ⟨ad, sm, _⟩ := h; exact SqL.of (sm _ _ hp1)) ?_ ?_
    · rintro i x H2 H3 hi ⟨ad, sm, S8, fr0⟩ ⟨rfl, hx⟩
      rw [List.getElem?_map, List.getElem?_map] at hx
      obtain ⟨z, hz, rfl⟩ := Option.map_eq_some_iff.mp hx
      obtain ⟨c, hc, rfl⟩ := Option.map_eq_some_iff.mp hz
      have hnc : c ∉ (sds l).take i := fun hm => by
        obtain ⟨j, hj⟩ := List.getElem?_of_mem hm
        have hji : j < i := by
          have := (List.getElem?_eq_some_iff.mp hj).1
          rw [List.length_take] at this
          omega
        rw [List.getElem?_take_of_lt hji] at hj
        exact absurd ((List.getElem?_inj (List.getElem?_eq_some_iff.mp hj).1 (sds_nd g)).mp (hj.trans hc.symm)) (Nat.ne_of_lt hji)
      refine ⟨rfl, yes_i ⟨_, rfl, Nat.zero_le _, fun r nr => ⟨stK ((sds l).take i) ad, Sum.inr (sg c), rfl, ?_, ?_, fun t => if t = c then r else ad t, ?_, ?_, ?_⟩⟩⟩
      · rw [upd_ne (ne_of_none S8.dk nr)]
        exact S8.dk
      · unfold stK
        rw [List.length_map, List.length_take, sizeLine_eq]
        have := sds_len g
        omega
      · exact sm_over (sm_upd sm nr) nD
      · have nrD : D ≠ r := ne_of_none S8.dk nr
        have e1 : ∀ t ∈ (sds l).take i, (if t = c then r else ad t) = ad t := fun t ht => if_neg fun e => hnc (by rw [← e]; exact ht)
        have tk : (sds l).take (i + 1) = (sds l).take i ++ [c] := by rw [List.take_add_one, hc]; rfl
        refine ⟨?_, fun t ht => ?_, fun t ht u hu e => ?_⟩
        · rw [upd_same, putK_new _ (stK_no hnc), tk]
          unfold stK
          rw [List.map_append]
          rw [List.map_congr_left (g := fun s => (Sum.inr (sg s), V.ref (if s = c then r else ad s))) fun t ht => by rw [e1 t ht]]
          simp
        · rw [tk] at ht
          rcases List.mem_append.mp ht with h | h
          · rw [e1 t h, upd_ne (S8.nd h), upd_ne (ne_of_none (S8.at_ t h) nr)]
            exact S8.at_ t h
          · obtain rfl := List.mem_singleton.mp h
            rw [if_pos rfl, upd_ne (Ne.symm nrD), upd_same]
            rfl
        · rw [tk] at ht hu
          rcases List.mem_append.mp ht with h | h <;> rcases List.mem_append.mp hu with h2 | h2
          · rw [e1 t h, e1 u h2] at e
            exact S8.inj t h u h2 e
          · obtain rfl := List.mem_singleton.mp h2
            rw [e1 t h, if_pos rfl] at e
            exact absurd e (ne_of_none (S8.at_ t h) nr)
          · obtain rfl := List.mem_singleton.mp h
            rw [e1 u h2, if_pos rfl] at e
            exact absurd e.symm (ne_of_none (S8.at_ u h2) nr)
          · rw [List.mem_singleton.mp h, List.mem_singleton.mp h2]
      · intro t ht
        show H1 (if t = c then r else ad t) = none
        by_cases e : t = c
        · rw [if_pos e]
          exact L2.Same.free sm nr
        · rw [if_neg e]
          refine fr0 t ?_
          rw [List.take_add_one, hc] at ht
          rcases List.mem_append.mp ht with h | h
          · exact h
          · exact absurd (List.mem_singleton.mp h) e
    · rintro H2 ⟨ad, sm, S8, fr0⟩
      rw [List.take_of_length_le (Nat.le_refl _)] at S8
      have nd0 : H D = none := L2.Same.free s1 nD
      have fr : ∀ s ∈ sds l, H (ad s) = none := fun s hs => L2.Same.free s1 (fr0 s (by rw [List.take_of_length_le (Nat.le_refl _)]; exact hs))
      have sm0 : Same H H2 := sm_trans s1 sm
      refine ⟨_, rfl, a, rfl, ?_⟩
      have len : ((bs.map tx).map V.str).length = bs.length := by rw [List.length_map, List.length_map]
      rcases hS with hS | hS
      · have wk2 := walk_list (K := K) (a := a) (xs := (bs.map tx).map V.str)
        rw [len] at wk2
        refine .inl ⟨⟨_, sm_l sm0 hS⟩, for_it wk2 (fun i σ H' => ∃ y3, σ = [some (.str (tx l)), some (.ref a), some (.ref D), y3, none] ∧ Same H H' ∧ SD8 H' (sds l) D ad (adjOf (bs.take i)))
          ⟨_, rfl, sm0, S8⟩ (fun i σ H' _ p => by obtain ⟨_, _, sm, _⟩ := p; exact sm_l sm hS) ?_ ?_⟩
        · rintro i x σ H5 H6 hi ⟨y3, rfl, sm5, S5⟩ ⟨rfl, hx⟩
          rw [List.getElem?_map, List.getElem?_map] at hx
          obtain ⟨z, hz, rfl⟩ := Option.map_eq_some_iff.mp hx
          obtain ⟨b, hbi, rfl⟩ := Option.map_eq_some_iff.mp hz
          obtain ⟨u, v, rfl, hu, hv, huv⟩ := bar_two (hbar b (List.mem_of_getElem? hbi))
          have hbz : (tx [u, v]).length ≤ sizeLine := by rw [tx_len, sizeLine_eq]; show 2 ≤ 16777216; decide
          have nuv : u ≠ v := fun e => by rw [e] at huv; exact Nat.lt_irrefl _ huv
          have hz1 : ∀ s, (adjOf (bs.take i) s).length ≤ 200 := fun s => by
            have h1 := adj_len (bs.take i) s
            have h2 : (bs.take i).length ≤ 100 := Nat.le_trans (by rw [List.length_take]; exact Nat.min_le_right _ _) hbl
            omega
          have S6 := S5.app (c := swp v) hu
          have S7 := S6.app (c := swp u) hv
          have nH : ∀ s ∈ sds l, ∀ o, Same H H6 → Same H (upd H6 (ad s) o) := fun s hs o z => sm_over z (fr s hs)
          refine ⟨_, rfl, _, rfl, _, _, u, rfl, rfl, hbz, rfl, D, _, rfl, S5.get hu, .inl ⟨rfl, _, SqL.of (S5.at_ u hu)⟩, _, rfl, _, _, v, rfl, rfl, hbz, rfl, v, rfl, sds_asc g hv, ad u, _, _, rfl, rfl, S5.at_ u hu, ?_, ?_⟩
          · rw [List.length_map, List.length_map, sizeLine_eq]
            have := hz1 u
            omega
          · refine ⟨_, rfl, _, rfl, _, _, v, rfl, rfl, hbz, rfl, D, _, rfl, S6.get hv, .inl ⟨rfl, _, SqL.of (S6.at_ v hv)⟩, _, rfl, _, _, u, rfl, rfl, hbz, rfl, u, rfl, sds_asc g hu, ad v, _, _, rfl, rfl, S6.at_ v hv, ?_, ?_⟩
            · rw [if_neg (Ne.symm nuv), List.length_map, List.length_map, sizeLine_eq]
              have := hz1 v
              omega
            · refine ⟨_, rfl, sm_over (sm_over sm5 (fr u hu)) (fr v hv), ?_⟩
              have ea : (fun t => if t = v then (if t = u then adjOf (bs.take i) t ++ [swp v] else adjOf (bs.take i) t) ++ [swp u] else if t = u then adjOf (bs.take i) t ++ [swp v] else adjOf (bs.take i) t) = adjOf (bs.take (i + 1)) := by
                funext t
                rw [adj_snoc bs i t [u, v] hbi]
                show _ = adjOf (bs.take i) t ++ ((if u = t then [swp v] else []) ++ (if v = t then [swp u] else []))
                by_cases e1 : t = u
                · subst e1
                  rw [if_neg nuv, if_pos rfl, if_pos rfl, if_neg (Ne.symm nuv)]
                  simp
                · rw [if_neg e1, if_neg (Ne.symm e1)]
                  by_cases e2 : t = v
                  · subst e2
                    rw [if_pos rfl, if_pos rfl]
                    simp
                  · rw [if_neg e2, if_neg (Ne.symm e2)]
                    simp [e1]
              rw [← ea]
              exact S7
        · rintro σ H5 ⟨y3, rfl, sm5, S5⟩
          rw [List.take_of_length_le (Nat.le_refl _)] at S5
          exact ⟨_, rfl, q H5 D ad sm5 nd0 S5⟩
      · have wk2 := walk_tup (K := K) (a := a) (xs := (bs.map tx).map V.str)
        rw [len] at wk2
        refine .inr ⟨⟨_, sm_t sm0 hS⟩, for_it wk2 (fun i σ H' => ∃ y3, σ = [some (.str (tx l)), some (.ref a), some (.ref D), y3, none] ∧ Same H H' ∧ SD8 H' (sds l) D ad (adjOf (bs.take i)))
          ⟨_, rfl, sm0, S8⟩ (fun i σ H' _ p => by obtain ⟨_, _, sm, _⟩ := p; exact sm_t sm hS) ?_ ?_⟩
        · rintro i x σ H5 H6 hi ⟨y3, rfl, sm5, S5⟩ ⟨rfl, hx⟩
          rw [List.getElem?_map, List.getElem?_map] at hx
          obtain ⟨z, hz, rfl⟩ := Option.map_eq_some_iff.mp hx
          obtain ⟨b, hbi, rfl⟩ := Option.map_eq_some_iff.mp hz
          obtain ⟨u, v, rfl, hu, hv, huv⟩ := bar_two (hbar b (List.mem_of_getElem? hbi))
          have hbz : (tx [u, v]).length ≤ sizeLine := by rw [tx_len, sizeLine_eq]; show 2 ≤ 16777216; decide
          have nuv : u ≠ v := fun e => by rw [e] at huv; exact Nat.lt_irrefl _ huv
          have hz1 : ∀ s, (adjOf (bs.take i) s).length ≤ 200 := fun s => by
            have h1 := adj_len (bs.take i) s
            have h2 : (bs.take i).length ≤ 100 := Nat.le_trans (by rw [List.length_take]; exact Nat.min_le_right _ _) hbl
            omega
          have S6 := S5.app (c := swp v) hu
          have S7 := S6.app (c := swp u) hv
          have nH : ∀ s ∈ sds l, ∀ o, Same H H6 → Same H (upd H6 (ad s) o) := fun s hs o z => sm_over z (fr s hs)
          refine ⟨_, rfl, _, rfl, _, _, u, rfl, rfl, hbz, rfl, D, _, rfl, S5.get hu, .inl ⟨rfl, _, SqL.of (S5.at_ u hu)⟩, _, rfl, _, _, v, rfl, rfl, hbz, rfl, v, rfl, sds_asc g hv, ad u, _, _, rfl, rfl, S5.at_ u hu, ?_, ?_⟩
          · rw [List.length_map, List.length_map, sizeLine_eq]
            have := hz1 u
            omega
          · refine ⟨_, rfl, _, rfl, _, _, v, rfl, rfl, hbz, rfl, D, _, rfl, S6.get hv, .inl ⟨rfl, _, SqL.of (S6.at_ v hv)⟩, _, rfl, _, _, u, rfl, rfl, hbz, rfl, u, rfl, sds_asc g hu, ad v, _, _, rfl, rfl, S6.at_ v hv, ?_, ?_⟩
            · rw [if_neg (Ne.symm nuv), List.length_map, List.length_map, sizeLine_eq]
              have := hz1 v
              omega
            · refine ⟨_, rfl, sm_over (sm_over sm5 (fr u hu)) (fr v hv), ?_⟩
              have ea : (fun t => if t = v then (if t = u then adjOf (bs.take i) t ++ [swp v] else adjOf (bs.take i) t) ++ [swp u] else if t = u then adjOf (bs.take i) t ++ [swp v] else adjOf (bs.take i) t) = adjOf (bs.take (i + 1)) := by
                funext t
                rw [adj_snoc bs i t [u, v] hbi]
                show _ = adjOf (bs.take i) t ++ ((if u = t then [swp v] else []) ++ (if v = t then [swp u] else []))
                by_cases e1 : t = u
                · subst e1
                  rw [if_neg nuv, if_pos rfl, if_pos rfl, if_neg (Ne.symm nuv)]
                  simp
                · rw [if_neg e1, if_neg (Ne.symm e1)]
                  by_cases e2 : t = v
                  · subst e2
                    rw [if_pos rfl, if_pos rfl]
                    simp
                  · rw [if_neg e2, if_neg (Ne.symm e2)]
                    simp [e1]
              rw [← ea]
              exact S7
        · rintro σ H5 ⟨y3, rfl, sm5, S5⟩
          rw [List.take_of_length_le (Nat.le_refl _)] at S5
          exact ⟨_, rfl, q H5 D ad sm5 nd0 S5⟩
end
end NC
namespace NC
open PySem PySem.Spec PyProof.Rows L2
abbrev sReached : Stmt := topS 22
theorem scReached : FnScope ["straight", "one", "ahead", "wave", "later", "side", "met"] ["straight", "one"] (defScope sReached) := ⟨rfl, rfl, rfl, by decide +kernel, rfl, by decide +kernel, by decide +kernel⟩
def pV : Option Nat → V
  | none => .non
  | some c => .str (sg c)
def ahK (rs : List (Nat × Option Nat)) : List (Key × V) := rs.map fun r => (Sum.inr (sg r.1), pV r.2)
def kys (rs : List (Nat × Option Nat)) : List Nat := rs.map (·.1)
theorem ahK_no {rs : List (Nat × Option Nat)} {s : Nat} (h : s ∉ kys rs) : valV (ahK rs) (Sum.inr (sg s)) = none := by
  induction rs with
  | nil => rfl
  | cons r t ih =>
    have e : ¬ r.1 = s := fun z => h (by show s ∈ r.1 :: kys t; rw [z]; exact List.mem_cons_self ..)
    exact (valV_neg (p := (Sum.inr (sg r.1), pV r.2)) (fun z => e (sg_inj (Sum.inr.inj z)))).trans (ih fun z => h (List.mem_cons_of_mem _ z))
theorem ahK_some {rs : List (Nat × Option Nat)} {s : Nat} (h : s ∈ kys rs) : ∃ (i : Nat) (p : Option Nat), rs[i]? = some (s, p) ∧ valV (ahK rs) (Sum.inr (sg s)) = some (pV p) := by
  induction rs with
  | nil => cases h
  | cons r t ih =>
    by_cases e : r.1 = s
    · exact ⟨0, r.2, by rw [← e]; rfl, by rw [← e]; exact valV_pos (p := (Sum.inr (sg r.1), pV r.2)) rfl⟩
    · have h2 : s ∈ kys t := by
        rcases List.mem_cons.mp (show s ∈ r.1 :: kys t from h) with z | z
        · exact absurd z.symm e
        · exact z
      obtain ⟨i, p, h3, h4⟩ := ih h2
      exact ⟨i + 1, p, h3, (valV_neg (p := (Sum.inr (sg r.1), pV r.2)) (fun z => e (sg_inj (Sum.inr.inj z)))).trans h4⟩
theorem nd_len : ∀ (a L : List Nat), a.Nodup → (∀ x ∈ a, x ∈ L) → a.length ≤ L.length
  | [], L, _, _ => Nat.zero_le _
  | x :: r, L, hn, hs => by
    obtain ⟨n1, n2⟩ := List.nodup_cons.mp hn
    have m : x ∈ L := hs x (List.mem_cons_self ..)
    have hl := List.length_erase_of_mem m
    have q := nd_len r (L.erase x) n2 fun z hz => (List.mem_erase_of_ne (fun e : z = x => n1 (by rw [← e]; exact hz))).mpr (hs z (List.mem_cons_of_mem _ hz))
    have hp : 0 < L.length := List.length_pos_of_mem m
    rw [List.length_cons]
    omega
/-- the same, to be read alone (the dict may be walked) -/
structure SR8 (H : Hp) (L : List Nat) (d : Addr) (ad : Nat → Addr) (adj : Nat → List Nat) : Prop where
  dk : Rd H d (.dK (stK L ad))
  at_ : ∀ s ∈ L, H (ad s) = some (.lst (((adj s).map sg).map V.str))
theorem SD8.rd {H : Hp} {L : List Nat} {d : Addr} {ad : Nat → Addr} {adj : Nat → List Nat} (S : SD8 H L d ad adj) : SR8 H L d ad adj := ⟨.inl S.dk, S.at_⟩
theorem SR8.same {H H' : Hp} {L : List Nat} {d : Addr} {ad : Nat → Addr} {adj : Nat → List Nat} (S : SR8 H L d ad adj) (e : Same H H') : SR8 H' L d ad adj :=
  ⟨S.dk.elim (fun z => .inl (e _ _ z)) fun ⟨o, z⟩ => .inr ⟨o, e _ _ z⟩, fun s hs => e _ _ (S.at_ s hs)⟩
theorem SR8.get {H : Hp} {L : List Nat} {d : Addr} {ad : Nat → Addr} {adj : Nat → List Nat} (S : SR8 H L d ad adj) {s : Nat} (h : s ∈ L) : DGet H d (.str (sg s)) (some (.ref (ad s))) := by
  rw [← stK_val (ad := ad) h]
  exact .inl ⟨_, Sum.inr (sg s), S.dk, rfl, rfl⟩
structure RsOk (L : List Nat) (adj : Nat → List Nat) (one : Nat) (rs : List (Nat × Option Nat)) : Prop where
  hd : ∃ r, rs = (one, none) :: r
  nd : (kys rs).Nodup
  sub : ∀ s ∈ kys rs, s ∈ L
  par : ∀ (i s : Nat) (p : Option Nat), rs[i]? = some (s, p) → (i = 0 ∧ p = none) ∨ ∃ c j q, p = some c ∧ j < i ∧ rs[j]? = some (c, q) ∧ s ∈ adj c
theorem RsOk.len {L : List Nat} {adj : Nat → List Nat} {one : Nat} {rs : List (Nat × Option Nat)} (h : RsOk L adj one rs) : rs.length ≤ L.length := by
  have := nd_len (kys rs) L h.nd h.sub
  rw [kys, List.length_map] at this
  exact this
theorem RsOk.snoc {L : List Nat} {adj : Nat → List Nat} {one s m : Nat} {rs : List (Nat × Option Nat)} (h : RsOk L adj one rs) (hs : s ∈ kys rs) (hm : m ∈ adj s) (hL : m ∈ L) (hn : m ∉ kys rs) : RsOk L adj one (rs ++ [(m, some s)]) := by
  obtain ⟨r, e⟩ := h.hd
  have ek : kys (rs ++ [(m, some s)]) = kys rs ++ [m] := by simp [kys]
  refine ⟨⟨r ++ [(m, some s)], by rw [e]; rfl⟩, ?_, fun t ht => ?_, fun i t p hi => ?_⟩
  · rw [ek]
    exact nd_snoc h.nd hn
  · rw [ek] at ht
    rcases List.mem_append.mp ht with z | z
    · exact h.sub t z
    · rw [List.mem_singleton.mp z]; exact hL
  · rcases Nat.lt_or_ge i rs.length with hl | hl
    · rw [List.getElem?_append_left hl] at hi
      rcases h.par i t p hi with z | ⟨c, j, q, h1, h2, h3, h4⟩
      · exact .inl z
      · exact .inr ⟨c, j, q, h1, h2, by rw [List.getElem?_append_left (by omega)]; exact h3, h4⟩
    · rw [List.getElem?_append_right hl] at hi
      have hi0 : i - rs.length = 0 := by
        have := (List.getElem?_eq_some_iff.mp hi).1
        simp at this
        omega
      rw [hi0] at hi
      have e2 : (m, some s) = (t, p) := Option.some.inj hi
      cases e2
      obtain ⟨j, q, hj⟩ : ∃ (j : Nat) (q : Option Nat), rs[j]? = some (s, q) := by
        obtain ⟨x, hx, ex⟩ := List.mem_map.mp hs
        obtain ⟨j, hj⟩ := List.getElem?_of_mem hx
        exact ⟨j, x.2, by rw [hj, ← ex]⟩
      have hjl := (List.getElem?_eq_some_iff.mp hj).1
      exact .inr ⟨s, j, q, rfl, by omega, by rw [List.getElem?_append_left hjl]; exact hj, hm⟩
theorem ahK_snoc (rs : List (Nat × Option Nat)) (m s : Nat) (h : m ∉ kys rs) : putK (ahK rs) (Sum.inr (sg m)) (.str (sg s)) = ahK (rs ++ [(m, some s)]) := by
  rw [putK_new _ (ahK_no h)]
  unfold ahK
  rw [List.map_append]
  rfl
inductive Wk (adj : Nat → List Nat) (one : Nat) : Nat → Nat → Prop
  | zero : Wk adj one 0 one
  | step {n s c : Nat} : Wk adj one n s → c ∈ adj s → Wk adj one (n + 1) c
def Dst (adj : Nat → List Nat) (one n s : Nat) : Prop := Wk adj one n s ∧ ∀ m, m < n → ¬ Wk adj one m s
def Lvl (adj : Nat → List Nat) (one : Nat) (rs : List (Nat × Option Nat)) : Prop := ∀ (i s c : Nat), rs[i]? = some (s, some c) → ∃ m, Dst adj one m c ∧ Dst adj one (m + 1) s
def Fil (adj : Nat → List Nat) (one n : Nat) (rs : List (Nat × Option Nat)) : Prop := ∀ m t, m ≤ n → Wk adj one m t → t ∈ kys rs
def Frn (adj : Nat → List Nat) (one n : Nat) (wv : List Nat) : Prop := ∀ t ∈ wv, Dst adj one n t
theorem Dst.zero {adj : Nat → List Nat} {one : Nat} : Dst adj one 0 one := ⟨.zero, fun m h => absurd h (Nat.not_lt_zero _)⟩
theorem Lvl.one {adj : Nat → List Nat} {one : Nat} : Lvl adj one [(one, none)] := fun i s c h => by
  have hi := (List.getElem?_eq_some_iff.mp h).1
  have h0 : i = 0 := by simp at hi; omega
  subst h0
  cases h
theorem Fil.one {adj : Nat → List Nat} {one : Nat} : Fil adj one 0 [(one, none)] := fun m t h w => by
  obtain rfl : m = 0 := by omega
  cases w
  simp [kys]
theorem Frn.one {adj : Nat → List Nat} {one : Nat} : Frn adj one 0 [one] := fun t h => by rw [List.mem_singleton.mp h]; exact .zero
theorem Lvl.snoc {adj : Nat → List Nat} {one n s m : Nat} {rs : List (Nat × Option Nat)} (h : Lvl adj one rs) (a : Dst adj one n s) (b : Dst adj one (n + 1) m) : Lvl adj one (rs ++ [(m, some s)]) := fun i t c hi => by
  rcases Nat.lt_or_ge i rs.length with hl | hl
  · rw [List.getElem?_append_left hl] at hi
    exact h i t c hi
  · rw [List.getElem?_append_right hl] at hi
    have h0 : i - rs.length = 0 := by
      have := (List.getElem?_eq_some_iff.mp hi).1
      simp at this
      omega
    rw [h0] at hi
    cases hi
    exact ⟨n, a, b⟩
theorem Frn.snoc {adj : Nat → List Nat} {one n m : Nat} {wv : List Nat} (h : Frn adj one n wv) (b : Dst adj one n m) : Frn adj one n (wv ++ [m]) := fun t ht => by
  rcases List.mem_append.mp ht with z | z
  · exact h t z
  · rw [List.mem_singleton.mp z]; exact b
theorem Fil.next {adj : Nat → List Nat} {one n : Nat} {rs rs2 : List (Nat × Option Nat)} {lt : List Nat} (f : Fil adj one n rs) (k : ∀ t ∈ kys rs, t ∈ kys rs2) (fr : Frn adj one (n + 1) lt) (cl : ∀ u ∈ kys rs2, u ∉ lt → ∀ c ∈ adj u, c ∈ kys rs2) : Fil adj one (n + 1) rs2 := fun m t hm w => by
  rcases Nat.lt_or_ge n m with h | h
  · obtain rfl : m = n + 1 := by omega
    cases w with
    | step ws ht => exact cl _ (k _ (f n _ (Nat.le_refl _) ws)) (fun z => (fr _ z).2 n (Nat.lt_succ_self _) ws) t ht
  · exact k t (f m t h w)
theorem reach_in {adj : Nat → List Nat} {one : Nat} {rs : List (Nat × Option Nat)} (h0 : one ∈ kys rs) (cl : ∀ s ∈ kys rs, ∀ c ∈ adj s, c ∈ kys rs) {n s : Nat} (w : Wk adj one n s) : s ∈ kys rs := by
  induction w with
  | zero => exact h0
  | step _ hc ih => exact cl _ ih _ hc
section
variable {P : Program} {w : World} {K : PySem.W.Frag} {mg : Str → Option Value} {base : Heap}
def spReached : Sp := fun vs H Q _ => ∃ L d ad adj one, vs = [.ref d, .str (sg one)] ∧ SR8 H L d ad adj ∧ one ∈ L ∧ (∀ s ∈ L, ∀ c ∈ adj s, c ∈ L) ∧ L.length ≤ 24 ∧
  ∀ H' a rs, Same H H' → H a = none → RsOk L adj one rs → (∀ s ∈ kys rs, ∀ c ∈ adj s, c ∈ kys rs) → Lvl adj one rs → H' a = some (.dK (ahK rs)) → Q (.ref a) H'
set_option maxHeartbeats 1000000 in
theorem ok_reached {f : Addr} {fd : FuncData} {k : Nat} (F : Fun K "reached" "reached" sReached f fd) : FnOk P w K mg base CX0 (k + 1) f fd ["straight", "one"] spReached := by
  refine F.ok scReached (fun vs H Q E h => ?_) (fun cdv A outer s H vs Q E hr h => ?_)
  · obtain ⟨L, d, ad, adj, one, rfl, _⟩ := h
    rfl
  · obtain ⟨L, d, ad, adj, one, rfl, S8, hone, hadj, hL, q⟩ := h
    refine ⟨_, pss_cons (ps_set (i := 2) scReached.nd rfl (.inl rfl) (pe_disp (pps_cons (pv 1) pe_non pps_nil) (by rfl) (by rfl) (fun z => by cases z) (by decide)))
      (pss_cons (ps_set (i := 3) scReached.nd rfl (.inl rfl) (pe_lst (pa_cons (pv 1) pa_nil)))
      (pss_cons (ps_while PassesOwn.never (pt_truth (pv 3) (by intro _; rfl))
        (pss_cons (ps_set (i := 4) scReached.nd rfl (.inl rfl) (pe_lst pa_nil))
        (pss_cons (ps_for PassesOwn.never rfl (pi_list (pv 3)) (pg_name (i := 5) scReached.nd rfl (Or.inl rfl))
          (pss_one (ps_for PassesOwn.never rfl (pi_list (pe_dget (hu_of hr) (pv 0) (pv 5) (fun _ _ => rfl))) (pg_name (i := 6) scReached.nd rfl (Or.inl rfl))
            (pss_one (ps_if (pt_cmp (pc_dnotin (hu_of hr) (pv 6) (pv 2)))
              (pss_cons (ps_dput (hu_of hr) (pv 2) (pv 6) (pv 5) rfl)
              (pss_one (ps_expr (pe_bm PySem.F.plainAttrs_list PySem.F.slot_list_append PySem.F.type_list_append mt_append (pv 4) (pa_cons (pv 6) pa_nil))))) pss_nil)))))
        (pss_one (ps_set (i := 3) scReached.nd rfl (.inl rfl) (pv 4))))))
      (pss_one (ps_ret (pv 2))))), ?_⟩
    refine fun A0 nA => ⟨_, rfl, upd_same, [(Sum.inr (sg one), .non)], rfl, by show 1 ≤ 15; decide, ?_⟩
    have eA : upd (upd H A0 (.dK [])) A0 (.dK (mergeK [] [(Sum.inr (sg one), .non)])) = upd H A0 (.dK (ahK [(one, none)])) := by
      rw [L2.upd_upd]
      rfl
    rw [eA]
    refine ⟨_, rfl, by show 1 ≤ sizeLine; decide, fun W0 nW => ?_⟩
    have nAW : A0 ≠ W0 := ne_of_none upd_same nW
    have nW0 : H W0 = none := by
      rw [upd_ne (Ne.symm nAW)] at nW
      exact nW
    -- the while
    refine ⟨fun m σ H' => ∃ rs wv Wd y4 y5 y6, σ = [some (.ref d), some (.str (sg one)), some (.ref A0), some (.ref Wd), y4, y5, y6] ∧ Same H H' ∧ H Wd = none ∧ H' A0 = some (.dK (ahK rs)) ∧ H' Wd = some (.lst ((wv.map sg).map V.str)) ∧
      RsOk L adj one rs ∧ (∀ t ∈ wv, t ∈ kys rs) ∧ wv.length ≤ 24 ∧ (∀ t ∈ kys rs, t ∉ wv → ∀ c ∈ adj t, c ∈ kys rs) ∧ (∃ n, Lvl adj one rs ∧ Fil adj one n rs ∧ Frn adj one n wv) ∧ m = 2 * (24 - rs.length) + (if wv = [] then 0 else 1), ?_, ?_⟩
    · refine ⟨_, [(one, none)], [one], W0, _, _, _, rfl, sm_upd (same_upd nA) nW, nW0, ?_, upd_same, ⟨⟨[], rfl⟩, by simp [kys], fun t ht => ?_, fun i t p hi => ?_⟩, fun t ht => by simpa [kys] using ht, by show 1 ≤ 24; decide, fun t ht hn => ?_, ⟨0, Lvl.one, Fil.one, Frn.one⟩, rfl⟩
      · rw [upd_ne nAW, upd_same]
      · have e : t = one := by simpa [kys] using ht
        rw [e]; exact hone
      · have hi0 : i = 0 := by
          have := (List.getElem?_eq_some_iff.mp hi).1
          simp at this
          omega
        subst hi0
        cases hi
        exact .inl ⟨rfl, rfl⟩
      · have e : t = one := by simpa [kys] using ht
        exact absurd (by simp [e]) hn
    · rintro m σ H1 ⟨rs, wv, Wd, y4, y5, y6, rfl, sm, nWd, eA1, eW, R, hwv, hwl, hdone, ⟨n, LV, FL, FR⟩, rfl⟩
      refine ⟨_, rfl, _, .inl ⟨_, SqL.of eW, rfl⟩, ite2 (fun hne => ?_) (fun he => ?_)⟩
      · -- a turn of the while
        have hw0 : wv ≠ [] := fun z => by
          rw [z] at hne
          exact absurd hne (by decide)
        refine ⟨fun σ' H' => ∃ (rs2 : List (Nat × Option Nat)) (lt : List Nat) (Wd2 : Addr) (y4 y5 y6 : Option V), σ' = [some (.ref d), some (.str (sg one)), some (.ref A0), some (.ref Wd2), y4, y5, y6] ∧ Same H H' ∧ H Wd2 = none ∧ H' A0 = some (.dK (ahK rs2)) ∧ H' Wd2 = some (.lst ((lt.map sg).map V.str)) ∧
          RsOk L adj one rs2 ∧ (∀ t ∈ lt, t ∈ kys rs2) ∧ lt.length ≤ 24 ∧ (∀ t ∈ kys rs2, t ∉ lt → ∀ c ∈ adj t, c ∈ kys rs2) ∧ (∃ n, Lvl adj one rs2 ∧ Fil adj one n rs2 ∧ Frn adj one n lt) ∧ rs2.length = rs.length + lt.length, ?_, ?_⟩
        · rintro σ' H' ⟨rs2, lt, Wd2, y4, y5, y6, h1, h2, h3, h4, h5, h6, h7, h8, h9, hL, h10⟩
          refine ⟨_, ?_, rs2, lt, Wd2, y4, y5, y6, h1, h2, h3, h4, h5, h6, h7, h8, h9, hL, rfl⟩
          have l2 := h6.len
          rw [if_neg hw0]
          by_cases e : lt = []
          · rw [if_pos e, h10, e]
            simp
          · rw [if_neg e, h10]
            have : 0 < lt.length := List.length_pos_iff.mpr e
            omega
        · refine ⟨Nat.zero_le _, fun T nT => ?_⟩
          have nTA : A0 ≠ T := ne_of_none eA1 nT
          have nTW : Wd ≠ T := ne_of_none eW nT
          have nTH : H T = none := L2.Same.free sm nT
          have wk := walk_list (K := K) (a := Wd) (xs := (wv.map sg).map V.str)
          rw [List.length_map, List.length_map] at wk
          refine ⟨_, rfl, Wd, rfl, ⟨_, SqL.of (by rw [upd_ne nTW]; exact eW)⟩, for_it wk (fun i σ H' => ∃ (rs2 : List (Nat × Option Nat)) (lt : List Nat) (y5 y6 : Option V), σ = [some (.ref d), some (.str (sg one)), some (.ref A0), some (.ref Wd), some (.ref T), y5, y6] ∧ Same H H' ∧ H' A0 = some (.dK (ahK rs2)) ∧
            H' Wd = some (.lst ((wv.map sg).map V.str)) ∧ H' T = some (.lst ((lt.map sg).map V.str)) ∧ RsOk L adj one rs2 ∧ rs2.length = rs.length + lt.length ∧ (∀ t ∈ kys rs, t ∈ kys rs2) ∧ (∀ t ∈ lt, t ∈ kys rs2) ∧
            (∀ t ∈ kys rs2, t ∉ lt → t ∉ wv.drop i → ∀ c ∈ adj t, c ∈ kys rs2) ∧ Lvl adj one rs2 ∧ Frn adj one (n + 1) lt)
            ⟨rs, [], _, _, rfl, sm_upd sm nT, by rw [upd_ne nTA]; exact eA1, by rw [upd_ne nTW]; exact eW, upd_same, R, rfl, fun _ h => h, (fun t h => absurd h (by simp)), (fun t h1 _ h2 => hdone t h1 h2), LV, (fun t h => absurd h (by simp))⟩
            (fun i σ H' _ p => by obtain ⟨_, _, _, _, _, _, _, h, _⟩ := p; exact SqL.of h) ?_ ?_⟩
          · rintro i x σ H2 H3 hi ⟨rs2, lt, y5, y6, rfl, s2, a2, w2, t2, R2, len2, k2, lk2, dn2, LV2, FR2⟩ ⟨rfl, hx⟩
            rw [List.getElem?_map, List.getElem?_map] at hx
            obtain ⟨z, hz, rfl⟩ := Option.map_eq_some_iff.mp hx
            obtain ⟨t, ht, rfl⟩ := Option.map_eq_some_iff.mp hz
            have htk : t ∈ kys rs2 := k2 t (hwv t (List.mem_of_getElem? ht))
            have htL : t ∈ L := R2.sub t htk
            have S2 : SR8 H3 L d ad adj := S8.same s2
            have wk3 := walk_list (K := K) (a := ad t) (xs := ((adj t).map sg).map V.str)
            rw [List.length_map, List.length_map] at wk3
            refine ⟨_, rfl, _, rfl, d, _, rfl, S2.get htL, ad t, rfl, ⟨_, SqL.of (S2.at_ t htL)⟩, for_it wk3 (fun j σ H' => ∃ (rs3 : List (Nat × Option Nat)) (lt3 : List Nat) (y6 : Option V), σ = [some (.ref d), some (.str (sg one)), some (.ref A0), some (.ref Wd), some (.ref T), some (.str (sg t)), y6] ∧ Same H H' ∧
              H' A0 = some (.dK (ahK rs3)) ∧ H' Wd = some (.lst ((wv.map sg).map V.str)) ∧ H' T = some (.lst ((lt3.map sg).map V.str)) ∧ RsOk L adj one rs3 ∧ rs3.length = rs.length + lt3.length ∧ (∀ u ∈ kys rs2, u ∈ kys rs3) ∧ (∀ u ∈ lt3, u ∈ kys rs3) ∧
              (∀ u ∈ kys rs3, u ∉ lt3 → u ∉ wv.drop i → ∀ c ∈ adj u, c ∈ kys rs3) ∧ (∀ c ∈ (adj t).take j, c ∈ kys rs3) ∧ Lvl adj one rs3 ∧ Frn adj one (n + 1) lt3)
              ⟨rs2, lt, _, rfl, s2, a2, w2, t2, R2, len2, fun _ h => h, lk2, dn2, (fun _ h => by simp at h), LV2, FR2⟩
              (fun j σ H' _ p => by obtain ⟨_, _, _, _, s3, _⟩ := p; exact SqL.of ((S8.same s3).at_ t htL)) ?_ ?_⟩
            · rintro j x σ H4 H5 hj ⟨rs3, lt3, y6, rfl, s3, a3, w3, t3, R3, len3, k3, lk3, dn3, tk3, LV3, FR3⟩ ⟨rfl, hx⟩
              rw [List.getElem?_map, List.getElem?_map] at hx
              obtain ⟨z, hz, rfl⟩ := Option.map_eq_some_iff.mp hx
              obtain ⟨m, hm, rfl⟩ := Option.map_eq_some_iff.mp hz
              have hma : m ∈ adj t := List.mem_of_getElem? hm
              have hmL : m ∈ L := hadj t htL m hma
              have l3 := R3.len
              have tkS : (adj t).take (j + 1) = (adj t).take j ++ [m] := by rw [List.take_add_one, hm]; rfl
              refine ⟨_, rfl, _, rfl, A0, _, rfl, DGet.k (k := Sum.inr (sg m)) a3, _, rfl, ite2 (fun hn => ?_) (fun hn => ?_)⟩
              · have hmn : m ∉ kys rs3 := fun z => by
                  obtain ⟨_, p, _, e⟩ := ahK_some z
                  rw [e] at hn
                  exact absurd hn Bool.false_ne_true
                have R4 := R3.snoc (k3 t htk) hma hmL hmn
                have dT : Dst adj one n t := FR t (List.mem_of_getElem? ht)
                have dM : Dst adj one (n + 1) m := ⟨.step dT.1 hma, fun j hj w => hmn (k3 m (k2 m (FL j m (by omega) w)))⟩
                have l4 := R4.len
                rw [List.length_append] at l4
                have l4 : rs3.length + 1 ≤ L.length := l4
                have ek : kys (rs3 ++ [(m, some t)]) = kys rs3 ++ [m] := by simp [kys]
                refine ⟨_, rfl, _, rfl, _, rfl, A0, _, rfl, DPut.k (k := Sum.inr (sg m)) a3 (by unfold ahK; rw [List.length_map, sizeLine_eq]; omega), ?_⟩
                rw [ahK_snoc rs3 m t hmn]
                have eT : (upd H5 A0 (.dK (ahK (rs3 ++ [(m, some t)])))) T = some (.lst ((lt3.map sg).map V.str)) := by rw [upd_ne (Ne.symm nTA)]; exact t3
                refine ⟨_, rfl, .inl ⟨rfl, _, SqL.of eT⟩, _, rfl, T, _, _, rfl, rfl, eT, by rw [List.length_map, List.length_map, sizeLine_eq]; omega, ?_⟩
                refine ⟨rs3 ++ [(m, some t)], lt3 ++ [m], _, rfl, sm_over (sm_over s3 nA) nTH, ?_, ?_, ?_, R4, ?_, fun u hu => ?_, fun u hu => ?_, fun u h1 h2 h3 c hc => ?_, fun c hc => ?_, LV3.snoc dT dM, FR3.snoc dM⟩
                · rw [upd_ne nTA, upd_same]
                · rw [upd_ne nTW, upd_ne (ne_of w3 a3 fun z => by cases z)]
                  exact w3
                · rw [upd_same, List.map_append, List.map_append]
                  rfl
                · rw [List.length_append, List.length_append, len3]
                  rfl
                · rw [ek]; exact List.mem_append_left _ (k3 u hu)
                · rw [ek]
                  rcases List.mem_append.mp hu with z | z
                  · exact List.mem_append_left _ (lk3 u z)
                  · exact List.mem_append_right _ z
                · rw [ek] at h1 ⊢
                  have h4 : u ∉ lt3 := fun z => h2 (List.mem_append_left _ z)
                  have h5 : u ∈ kys rs3 := by
                    rcases List.mem_append.mp h1 with z | z
                    · exact z
                    · exact absurd (List.mem_append_right _ z) h2
                  exact List.mem_append_left _ (dn3 u h5 h4 h3 c hc)
                · rw [ek]
                  rw [tkS] at hc
                  rcases List.mem_append.mp hc with z | z
                  · exact List.mem_append_left _ (tk3 c z)
                  · exact List.mem_append_right _ z
              · have hmi : m ∈ kys rs3 := by
                  refine Classical.byContradiction fun z => hn ?_
                  rw [ahK_no z]
                  rfl
                refine ⟨rs3, lt3, _, rfl, s3, a3, w3, t3, R3, len3, k3, lk3, dn3, fun c hc => ?_, LV3, FR3⟩
                rw [tkS] at hc
                rcases List.mem_append.mp hc with z | z
                · exact tk3 c z
                · rw [List.mem_singleton.mp z]; exact hmi
            · rintro σ H4 ⟨rs3, lt3, y6, rfl, s3, a3, w3, t3, R3, len3, k3, lk3, dn3, tk3, LV3, FR3⟩
              rw [List.take_of_length_le (Nat.le_refl _)] at tk3
              refine ⟨rs3, lt3, _, _, rfl, s3, a3, w3, t3, R3, len3, fun u hu => k3 u (k2 u hu), lk3, fun u h1 h2 h3 c hc => ?_, LV3, FR3⟩
              by_cases e : u = t
              · rw [e] at hc
                exact tk3 c hc
              · refine dn3 u h1 h2 (fun z => h3 ?_) c hc
                rw [List.drop_eq_getElem_cons hi] at z
                rcases List.mem_cons.mp z with z | z
                · have e2 : wv[i] = t := by
                    rw [List.getElem?_eq_getElem hi] at ht
                    exact Option.some.inj ht
                  exact absurd (z.trans e2) e
                · exact z
          · rintro σ H4 ⟨rs2, lt, y5, y6, rfl, s2, a2, w2, t2, R2, len2, k2, lk2, dn2, LV2, FR2⟩
            have l2 := R2.len
            exact ⟨_, rfl, rs2, lt, T, _, _, _, rfl, s2, nTH, a2, t2, R2, lk2, by omega, fun u h1 h2 => dn2 u h1 h2 (by simp), ⟨n + 1, LV2, FL.next k2 FR2 (fun u h1 h2 => dn2 u h1 h2 (by simp)), FR2⟩, len2⟩
      · have e : wv = [] := by
          cases wv with
          | nil => rfl
          | cons x r => exact absurd rfl he
        exact ⟨_, rfl, q H1 A0 rs sm nA R (fun t ht => hdone t ht (by rw [e]; simp)) LV eA1⟩
end
end NC
namespace NC
open PySem PySem.Spec PyProof.Rows L2
abbrev sAllF : Stmt := topS 23
theorem scAllF : FnScope ["walls", "bars", "straight", "side"] ["walls", "bars"] (defScope sAllF) := ⟨rfl, rfl, rfl, by decide +kernel, rfl, by decide +kernel, by decide +kernel⟩
def foK (L : List Nat) (fo : Nat → List Nat) : List (Key × V) := L.map fun s => (Sum.inr (sg s), V.str (tx (fo s)))
theorem foK_val {L : List Nat} {fo : Nat → List Nat} {s : Nat} (h : s ∈ L) : valV (foK L fo) (Sum.inr (sg s)) = some (.str (tx (fo s))) := by
  induction L with
  | nil => cases h
  | cons t r ih =>
    by_cases e : t = s
    · subst e
      exact valV_pos (p := (Sum.inr (sg t), V.str (tx (fo t)))) rfl
    · have h2 : s ∈ r := by
        rcases List.mem_cons.mp h with z | z
        · exact absurd z.symm e
        · exact z
      exact (valV_neg (p := (Sum.inr (sg t), V.str (tx (fo t)))) (fun z => e (sg_inj (Sum.inr.inj z)))).trans (ih h2)
theorem foK_no {L : List Nat} {fo : Nat → List Nat} {s : Nat} (h : s ∉ L) : valV (foK L fo) (Sum.inr (sg s)) = none := by
  induction L with
  | nil => rfl
  | cons t r ih =>
    have e : ¬ t = s := fun z => h (by rw [z]; exact List.mem_cons_self ..)
    exact (valV_neg (p := (Sum.inr (sg t), V.str (tx (fo t)))) (fun z => e (sg_inj (Sum.inr.inj z)))).trans (ih fun z => h (List.mem_cons_of_mem _ z))
/-- what a side forces, as all_forced tells it -/
def FoOk (l : List Nat) (adj : Nat → List Nat) (L : List Nat) (fo : Nat → List Nat) : Prop := ∀ s ∈ L, ∃ rs, RsOk (sds l) adj s rs ∧ (∀ t ∈ kys rs, ∀ c ∈ adj t, c ∈ kys rs) ∧ fo s = byW l (ahK rs)
theorem take_new {L : List Nat} (nd : L.Nodup) {i c : Nat} (hc : L[i]? = some c) : c ∉ L.take i := fun hm => by
  obtain ⟨j, hj⟩ := List.getElem?_of_mem hm
  have hji : j < i := by
    have := (List.getElem?_eq_some_iff.mp hj).1
    rw [List.length_take] at this
    omega
  rw [List.getElem?_take_of_lt hji] at hj
  exact absurd ((List.getElem?_inj (List.getElem?_eq_some_iff.mp hj).1 nd).mp (hj.trans hc.symm)) (Nat.ne_of_lt hji)
section
variable {P : Program} {w : World} {K : PySem.W.Frag} {mg : Str → Option Value} {base : Heap}
def spAllF (K : PySem.W.Frag) : Sp := fun vs H Q _ => ∃ l a bs, vs = [.str (tx l), .ref a] ∧ GoodW l ∧ (∀ b ∈ bs, isBar l b = true) ∧ bs.length ≤ 100 ∧ (SqL K H a ((bs.map tx).map V.str) ∨ SqT K H a ((bs.map tx).map V.str)) ∧
  ∀ H' D fo, Same H H' → H D = none → H' D = some (.dK (foK (sds l) fo)) → FoOk l (adjOf bs) (sds l) fo → Q (.ref D) H'
set_option maxHeartbeats 1000000 in
theorem ok_allF {f fT fR fB fS fO : Addr} {fd fdT fdR fdB fdS fdO : FuncData} {k : Nat} (B : BM mg) (F : Fun K "all_forced" "all_forced" sAllF f fd) (T : DF K mg "straight_from" sStraight ["walls", "bars"] fT fdT)
    (R : DF K mg "reached" sReached ["straight", "one"] fR fdR) (Y : DF K mg "by_walls" sByWalls ["walls", "sides"] fB fdB) (S : DF K mg "sides_of" sSides ["walls"] fS fdS) (O : DF K mg "other" sOther ["side"] fO fdO) :
    FnOk P w K mg base CX0 (k + 3) f fd ["walls", "bars"] (spAllF K) := by
  have GT : FnOk P w K mg base CX0 (k + 2) fT fdT ["walls", "bars"] (spStraight K) := ok_straight B T.F S O
  have GR : FnOk P w K mg base CX0 (k + 2) fR fdR ["straight", "one"] spReached := ok_reached R.F
  have GY : FnOk P w K mg base CX0 (k + 2) fB fdB ["walls", "sides"] spByWalls := ok_byWalls B Y.F O
  refine F.ok scAllF (fun vs H Q E h => ?_) (fun cdv A outer s H vs Q E hr h => ?_)
  · obtain ⟨l, a, bs, rfl, _⟩ := h
    rfl
  · obtain ⟨l, a, bs, rfl, g, hbar, hbl, hS, q⟩ := h
    refine ⟨_, pss_cons (ps_set (i := 2) scAllF.nd rfl (.inr rfl) (pe_call GT hr rfl T.g T.F.kp T.b .nil pass0 (pa_cons (pv 0) (pa_cons (pv 1) pa_nil))))
      (pss_one (ps_ret (pe_lock (pe_dc (own := [("side", 3)]) (g := gName 3) (tt := tYes) rfl scAllF.nd (pi_keys (pv 2)) (blkOk_by (N := ["walls", "bars", "straight", "side"]) (sc := defScope sAllF) (by decide +kernel))
        (fun _ _ _ _ _ => pg_name (i := 3) scAllF.nd rfl (Or.inl rfl)) (fun _ _ _ _ _ => pts_nil) (fun _ _ _ _ _ => pv 3)
        (fun _ _ _ _ _ => pe_call GY hr rfl Y.g Y.F.kp Y.b .nil pass0 (pa_cons (pv 0) (pa_cons (pe_call GR hr rfl R.g R.F.kp R.b .nil pass0 (pa_cons (pv 2) (pa_cons (pv 3) pa_nil))) pa_nil))))))), ?_⟩
    refine ⟨_, rfl, _, rfl, l, a, bs, rfl, g, hbar, hbl, hS, fun H1 d ad s1 nd1 S8 => ?_⟩
    refine ⟨d, _, S8.dk, trivial, fun od => ?_⟩
    refine ⟨_, rfl, d, od, rfl, .inl ⟨_, upd_same, fun D nD => ?_⟩⟩
    have ndD : D ≠ d := fun e => by
      rw [e, upd_same] at nD
      cases nD
    have SR : SR8 (upd H1 d (.frz od (.dK (stK (sds l) ad)))) (sds l) d ad (adjOf bs) := ⟨.inr ⟨od, upd_same⟩, fun s hs => by rw [upd_ne (S8.nd hs)]; exact S8.at_ s hs⟩
    have e0 : (upd H1 d (.frz od (.dK (stK (sds l) ad)))) d = some (.frz od (.dK (stK (sds l) ad))) := upd_same
    have s2 : Same H (upd H1 d (.frz od (.dK (stK (sds l) ad)))) := sm_over s1 nd1
    generalize (upd H1 d (.frz od (.dK (stK (sds l) ad)))) = H2 at nD SR e0 s2 ⊢
    have wk := walk_keys (d := d) (o := od) (kvs := stK (sds l) ad)
    have len : (stK (sds l) ad).length = (sds l).length := by unfold stK; rw [List.length_map]
    rw [len] at wk
    have hD0 : H D = none := L2.Same.free s2 nD
    refine dc_it wk (fun i H' => ∃ fo, Same H2 H' ∧ H' D = some (.dK (foK ((sds l).take i) fo)) ∧ FoOk l (adjOf bs) ((sds l).take i) fo)
      ⟨fun _ => [], same_upd nD, upd_same, fun s hs => by simp at hs⟩ (fun i H' _ h => by obtain ⟨_, sm, _⟩ := h; exact sm _ _ e0) ?_ ?_
    · rintro i x H3 H4 hi ⟨fo, sm, eD, ok⟩ ⟨rfl, kk, v, hk, rfl⟩
      unfold stK at hk
      rw [List.getElem?_map] at hk
      obtain ⟨c, hc, e⟩ := Option.map_eq_some_iff.mp hk
      obtain ⟨rfl, rfl⟩ := Prod.mk.inj e
      have hcL : c ∈ sds l := List.mem_of_getElem? hc
      have hnc := take_new (sds_nd g) hc
      have tk : (sds l).take (i + 1) = (sds l).take i ++ [c] := by rw [List.take_add_one, hc]; rfl
      refine ⟨rfl, yes_i ⟨_, rfl, _, rfl, _, rfl, _, rfl, sds l, d, ad, adjOf bs, c, rfl, SR.same sm, hcL, fun s hs c hc => adj_mem g hbar hc, sds_len g, fun H5 r rs s5 nr R5 cl _ er => ?_⟩⟩
      refine ⟨l, r, _, rfl, g, er, fun H6 s6 => ?_⟩
      have e1 : ∀ t ∈ (sds l).take i, (if t = c then byW l (ahK rs) else fo t) = fo t := fun t ht => if_neg fun e => hnc (by rw [← e]; exact ht)
      have eD6 : H6 D = some (.dK (foK ((sds l).take i) fo)) := s6 _ _ (s5 _ _ eD)
      refine ⟨foK ((sds l).take i) fo, Sum.inr (sg c), rfl, eD6, ?_, fun t => if t = c then byW l (ahK rs) else fo t, ?_, ?_, ?_⟩
      · unfold foK
        rw [List.length_map, List.length_take, sizeLine_eq]
        have := sds_len g
        omega
      · exact sm_over (sm_trans (sm_trans sm s5) s6) nD
      · rw [upd_same, putK_new _ (foK_no hnc), tk]
        unfold foK
        rw [List.map_append]
        rw [List.map_congr_left (g := fun s => (Sum.inr (sg s), V.str (tx (if s = c then byW l (ahK rs) else fo s)))) fun t ht => by rw [e1 t ht]]
        simp
      · intro t ht
        rw [tk] at ht
        rcases List.mem_append.mp ht with h | h
        · obtain ⟨rs', a1, a2, a3⟩ := ok t h
          exact ⟨rs', a1, a2, (e1 t h).trans a3⟩
        · obtain rfl := List.mem_singleton.mp h
          exact ⟨rs, R5, cl, if_pos rfl⟩
    · rintro H3 ⟨fo, sm, eD, ok⟩
      rw [List.take_of_length_le (Nat.le_refl _)] at eD ok
      refine ⟨sm _ _ e0, q _ D fo (sm_over (sm_trans s2 sm) nd1) hD0 ?_ ok⟩
      rw [upd_ne ndD]
      exact eD
end
end NC
namespace NC
open PySem PySem.Spec PyProof.Rows L2
def isLt (c : Nat) : Prop := (97 ≤ c ∧ c ≤ 122) ∨ (65 ≤ c ∧ c ≤ 90)
theorem sds_lt {l : List Nat} (g : GoodW l) {s : Nat} (h : s ∈ sds l) : isLt s := (sds_shape g h).imp (fun z => ⟨z.1, z.2.1⟩) (fun z => ⟨z.1, z.2.1⟩)
theorem swp_small {c : Nat} (h : 97 ≤ c ∧ c ≤ 122) : swp c = c - 32 := by unfold swp; rw [if_pos h]
theorem swp_great {c : Nat} (h : 65 ≤ c ∧ c ≤ 90) : swp c = c + 32 := by unfold swp; rw [if_neg (by omega), if_pos h]
theorem swp_swp {c : Nat} (h : isLt c) : swp (swp c) = c := by
  rcases h with h | h
  · rw [swp_small h, swp_great (by omega)]
    omega
  · rw [swp_great h, swp_small (by omega)]
    omega
theorem isLt.asc {c : Nat} (h : isLt c) : c < 128 := by rcases h with h | h <;> omega
/-- a side forces another -/
def Frc (adj : Nat → List Nat) (s t : Nat) : Prop := ∃ n, Wk adj s n t
theorem Frc.refl {adj : Nat → List Nat} {s : Nat} : Frc adj s s := ⟨0, .zero⟩
theorem Frc.step {adj : Nat → List Nat} {s t u : Nat} (h : Frc adj s t) (k : u ∈ adj t) : Frc adj s u := let ⟨n, w⟩ := h; ⟨n + 1, .step w k⟩
theorem Frc.ind {adj : Nat → List Nat} {s t : Nat} (h : Frc adj s t) {p : Nat → Prop} (h0 : p s) (hs : ∀ a b, p a → b ∈ adj a → p b) : p t := by
  obtain ⟨n, w⟩ := h
  induction w with
  | zero => exact h0
  | step _ k ih => exact hs _ _ ih k
theorem Frc.trans {adj : Nat → List Nat} {s t u : Nat} (a : Frc adj s t) (b : Frc adj t u) : Frc adj s u := b.ind (p := fun x => Frc adj s x) a fun _ _ h k => h.step k
theorem adj_iff {l : List Nat} (g : GoodW l) {bs : List (List Nat)} (hb : ∀ b ∈ bs, isBar l b = true) {a b : Nat} (h : isLt b) : b ∈ adjOf bs a ↔ [a, swp b] ∈ bs ∨ [swp b, a] ∈ bs := by
  constructor
  · intro z
    obtain ⟨c, hc, z⟩ := List.mem_flatMap.mp z
    obtain ⟨x, y, rfl, hx, hy, _⟩ := bar_two (hb c hc)
    have z : b ∈ (if x = a then [swp y] else []) ++ (if y = a then [swp x] else []) := z
    rcases List.mem_append.mp z with z | z
    · split at z
      · rename_i e
        rw [List.mem_singleton.mp z, swp_swp (sds_lt g hy), ← e]
        exact .inl hc
      · cases z
    · split at z
      · rename_i e
        rw [List.mem_singleton.mp z, swp_swp (sds_lt g hx), ← e]
        exact .inr hc
      · cases z
  · rintro (z | z)
    · refine List.mem_flatMap.mpr ⟨_, z, ?_⟩
      show b ∈ (if a = a then [swp (swp b)] else []) ++ _
      rw [if_pos rfl, swp_swp h]
      exact List.mem_append_left _ (List.mem_singleton.mpr rfl)
    · refine List.mem_flatMap.mpr ⟨_, z, ?_⟩
      show b ∈ _ ++ (if a = a then [swp (swp b)] else [])
      rw [if_pos rfl, swp_swp h]
      exact List.mem_append_right _ (List.mem_singleton.mpr rfl)
theorem adj_back {l : List Nat} (g : GoodW l) {bs : List (List Nat)} (hb : ∀ b ∈ bs, isBar l b = true) {a b : Nat} (ha : a ∈ sds l) (h : b ∈ adjOf bs a) : swp a ∈ adjOf bs (swp b) := by
  have hbL := adj_mem g hb h
  refine (adj_iff g hb (sds_lt g (sds_swp g ha))).mpr ?_
  rw [swp_swp (sds_lt g ha)]
  exact ((adj_iff g hb (sds_lt g hbL)).mp h).symm
section
variable {l : List Nat} (g : GoodW l) {bs : List (List Nat)} (hb : ∀ b ∈ bs, isBar l b = true)
include g hb
theorem Frc.mem {s t : Nat} (hs : s ∈ sds l) (h : Frc (adjOf bs) s t) : t ∈ sds l := h.ind (p := fun x => x ∈ sds l) hs fun _ _ _ k => adj_mem g hb k
theorem Frc.back {s t : Nat} (hs : s ∈ sds l) (h : Frc (adjOf bs) s t) : Frc (adjOf bs) (swp t) (swp s) := by
  have q := h.ind (p := fun x => x ∈ sds l ∧ Frc (adjOf bs) (swp x) (swp s)) ⟨hs, .refl⟩ fun a b hab k => ⟨adj_mem g hb k, (Frc.refl.step (adj_back g hb hab.1 k)).trans hab.2⟩
  exact q.2
/-- both sides of one wall: then the other side of what forces them -/
theorem Frc.torn {s t : Nat} (hs : s ∈ sds l) (a : Frc (adjOf bs) s t) (b : Frc (adjOf bs) s (swp t)) : Frc (adjOf bs) s (swp s) := by
  have q := Frc.back g hb hs b
  rw [swp_swp (sds_lt g (Frc.mem g hb hs a))] at q
  exact a.trans q
end
/-- where one stands who stands on the small sides of p: whether on a side -/
def val (p : Nat → Bool) (s : Nat) : Bool := if s ≤ 90 then !p (s + 32) else p s
theorem val_swp {p : Nat → Bool} {s : Nat} (h : isLt s) : val p (swp s) = !val p s := by
  rcases h with h | h
  · rw [swp_small h]
    unfold val
    rw [if_pos (by omega), if_neg (by omega), show s - 32 + 32 = s by omega]
  · rw [swp_great h]
    unfold val
    rw [if_neg (by omega), if_pos (by omega), Bool.not_not]
def Sat (bs : List (List Nat)) (p : Nat → Bool) : Prop := ∀ x y, [x, y] ∈ bs → ¬ (val p x = true ∧ val p y = true)
section
variable {l : List Nat} (g : GoodW l) {bs : List (List Nat)} (hb : ∀ b ∈ bs, isBar l b = true)
include g hb
theorem Sat.adj {p : Nat → Bool} (h : Sat bs p) {a b : Nat} (ha : val p a = true) (k : b ∈ adjOf bs a) : val p b = true := by
  have hl := sds_lt g (adj_mem g hb k)
  have e : val p (swp b) = false := by
    rcases (adj_iff g hb hl).mp k with z | z
    · have := h _ _ z
      simpa [ha] using this
    · have := h _ _ z
      simpa [ha] using this
  rw [val_swp hl] at e
  simpa using e
theorem Sat.frc {p : Nat → Bool} (h : Sat bs p) {s t : Nat} (ha : val p s = true) (k : Frc (adjOf bs) s t) : val p t = true := k.ind (p := fun x => val p x = true) ha fun _ _ q z => h.adj g hb q z
/-- what s forces, written over a room -/
theorem Sat.over {p : Nat → Bool} (h : Sat bs p) {s : Nat} (hs : s ∈ sds l) (nf : ¬ Frc (adjOf bs) s (swp s)) : ∃ p', Sat bs p' ∧ (∀ t ∈ sds l, Frc (adjOf bs) s t → val p' t = true) ∧ ∀ t ∈ sds l, ¬ Frc (adjOf bs) s (swp t) → val p t = true → val p' t = true := by
  classical
  let p' : Nat → Bool := fun c => if Frc (adjOf bs) s c then true else if Frc (adjOf bs) s (c - 32) then false else p c
  have cons : ∀ t, Frc (adjOf bs) s t → ¬ Frc (adjOf bs) s (swp t) := fun t a b => nf (Frc.torn g hb hs a b)
  have ev : ∀ t ∈ sds l, val p' t = if Frc (adjOf bs) s t then true else if Frc (adjOf bs) s (swp t) then false else val p t := fun t ht => by
    rcases sds_lt g ht with z | z
    · have e1 : val p' t = p' t := by unfold val; rw [if_neg (by omega)]
      have e2 : val p t = p t := by unfold val; rw [if_neg (by omega)]
      rw [e1, e2, swp_small z]
    · have e1 : val p' t = !p' (t + 32) := by unfold val; rw [if_pos (by omega)]
      have e2 : val p t = !p (t + 32) := by unfold val; rw [if_pos (by omega)]
      rw [e1, e2]
      have hsw : swp t = t + 32 := swp_great z
      show (!(if Frc (adjOf bs) s (t + 32) then true else if Frc (adjOf bs) s (t + 32 - 32) then false else p (t + 32))) = _
      rw [show t + 32 - 32 = t by omega, ← hsw]
      by_cases a : Frc (adjOf bs) s t
      · rw [if_neg (cons t a), if_pos a, if_pos a]
        rfl
      · rw [if_neg a, if_neg a]
        by_cases b : Frc (adjOf bs) s (swp t)
        · rw [if_pos b, if_pos b]
          rfl
        · rw [if_neg b, if_neg b]
  refine ⟨p', fun x y hxy => ?_, fun t ht a => by rw [ev t ht, if_pos a], fun t ht a b => ?_⟩
  · rintro ⟨vx, vy⟩
    obtain ⟨x', y', e, hx, hy, _⟩ := bar_two (hb _ hxy)
    obtain ⟨rfl, rfl⟩ : x = x' ∧ y = y' := by simpa using e
    have kx : swp y ∈ adjOf bs x := (adj_iff g hb (sds_lt g (sds_swp g hy))).mpr (by rw [swp_swp (sds_lt g hy)]; exact .inl hxy)
    have ky : swp x ∈ adjOf bs y := (adj_iff g hb (sds_lt g (sds_swp g hx))).mpr (by rw [swp_swp (sds_lt g hx)]; exact .inr hxy)
    rw [ev x hx] at vx
    rw [ev y hy] at vy
    by_cases a : Frc (adjOf bs) s x
    · have q := a.step kx
      by_cases b : Frc (adjOf bs) s y
      · exact cons y b q
      · rw [if_neg b, if_pos q] at vy
        cases vy
    · rw [if_neg a] at vx
      by_cases a2 : Frc (adjOf bs) s (swp x)
      · rw [if_pos a2] at vx
        cases vx
      · rw [if_neg a2] at vx
        by_cases b : Frc (adjOf bs) s y
        · exact a2 (b.step ky)
        · rw [if_neg b] at vy
          by_cases b2 : Frc (adjOf bs) s (swp y)
          · rw [if_pos b2] at vy
            cases vy
          · rw [if_neg b2] at vy
            exact h x y hxy ⟨vx, vy⟩
  · rw [ev t ht]
    by_cases c : Frc (adjOf bs) s t
    · rw [if_pos c]
    · rw [if_neg c, if_neg a]
      exact b
/-- a hall of which no side forces its other one has a room -/
theorem sat_of (nf : ∀ s ∈ sds l, ¬ Frc (adjOf bs) s (swp s)) : ∃ p, Sat bs p := by
  classical
  have go : ∀ w : List Nat, (∀ c ∈ w, c ∈ l) → ∃ A : Nat → Prop, (∀ x, A x → x ∈ sds l) ∧ (∀ x y, A x → y ∈ adjOf bs x → A y) ∧ (∀ x, A x → ¬ A (swp x)) ∧ ∀ c ∈ w, A c ∨ A (swp c) := by
    intro w
    induction w with
    | nil => exact fun _ => ⟨fun _ => False, fun _ h => h.elim, fun _ _ h => h.elim, fun _ h => h.elim, fun _ h => absurd h (by simp)⟩
    | cons c r ih =>
      intro hw
      obtain ⟨A, a1, a2, a3, a4⟩ := ih fun d hd => hw d (List.mem_cons_of_mem _ hd)
      have hc : c ∈ sds l := sds_of_small (hw c (List.mem_cons_self ..))
      by_cases hd : A c ∨ A (swp c)
      · refine ⟨A, a1, a2, a3, fun d hd2 => ?_⟩
        rcases List.mem_cons.mp hd2 with e | e
        · rw [e]; exact hd
        · exact a4 d e
      · have a2' : ∀ x y, A x → Frc (adjOf bs) x y → A y := fun x y hx k => k.ind (p := A) hx fun _ _ q z => a2 _ _ q z
        refine ⟨fun x => A x ∨ Frc (adjOf bs) c x, fun x h => h.elim (a1 x) fun k => Frc.mem g hb hc k, fun x y h k => h.imp (fun h => a2 x y h k) fun h => h.step k, fun x h h2 => ?_, fun d hd2 => ?_⟩
        · rcases h with h | h
          · rcases h2 with h2 | h2
            · exact a3 x h h2
            · have q := Frc.back g hb hc h2
              rw [swp_swp (sds_lt g (a1 x h))] at q
              exact hd (.inr (a2' x _ h q))
          · rcases h2 with h2 | h2
            · have q := Frc.back g hb hc h
              exact hd (.inr (a2' _ _ h2 q))
            · exact nf c hc (Frc.torn g hb hc h h2)
        · rcases List.mem_cons.mp hd2 with e | e
          · rw [e]; exact .inl (.inr .refl)
          · exact (a4 d e).imp .inl .inl
  obtain ⟨A, a1, a2, a3, a4⟩ := go l fun _ h => h
  have ev : ∀ s ∈ sds l, val (fun c => decide (A c)) s = true → A s := fun s hs v => by
    rcases sds_shape g hs with z | z
    · unfold val at v
      rw [if_neg (by omega)] at v
      exact of_decide_eq_true v
    · unfold val at v
      rw [if_pos (by omega)] at v
      have n : ¬ A (s + 32) := by simpa using v
      rcases a4 _ z.2.2 with q | q
      · exact absurd q n
      · rw [swp_small (by omega), show s + 32 - 32 = s by omega] at q
        exact q
  refine ⟨fun c => decide (A c), fun x y hxy => ?_⟩
  rintro ⟨vx, vy⟩
  obtain ⟨x', y', e, hx, hy, _⟩ := bar_two (hb _ hxy)
  obtain ⟨rfl, rfl⟩ : x = x' ∧ y = y' := by simpa using e
  have kx : swp y ∈ adjOf bs x := (adj_iff g hb (sds_lt g (sds_swp g hy))).mpr (by rw [swp_swp (sds_lt g hy)]; exact .inl hxy)
  exact a3 y (ev y hy vy) (a2 x _ (ev x hx vx) kx)
/-- a side is in some room just where it doesn't force its other one, if there is a room -/
theorem fix_iff {p0 : Nat → Bool} (h0 : Sat bs p0) {s : Nat} (hs : s ∈ sds l) : Frc (adjOf bs) s (swp s) ↔ ∀ p, Sat bs p → val p s = false := by
  constructor
  · intro k p hp
    cases hv : val p s with
    | false => rfl
    | true =>
      have q := hp.frc g hb hv k
      rw [val_swp (sds_lt g hs), hv] at q
      cases q
  · intro h
    refine Classical.byContradiction fun nf => ?_
    obtain ⟨p', hp, k, _⟩ := h0.over g hb hs nf
    have q := h p' hp
    rw [k s hs .refl] at q
    cases q
/-- two sides go together in all rooms just where they force one another, if no side forces its other one -/
theorem alike_iff (nf : ∀ s ∈ sds l, ¬ Frc (adjOf bs) s (swp s)) {s t : Nat} (hs : s ∈ sds l) (ht : t ∈ sds l) : (Frc (adjOf bs) s t ∧ Frc (adjOf bs) t s) ↔ ∀ p, Sat bs p → val p s = val p t := by
  have one : ∀ {a b : Nat}, a ∈ sds l → b ∈ sds l → (∀ p, Sat bs p → val p a = true → val p b = true) → Frc (adjOf bs) a b := fun {a b} ha hb2 h => by
    refine Classical.byContradiction fun n => ?_
    obtain ⟨p0, h0⟩ := sat_of g hb nf
    obtain ⟨p1, h1, k1, _⟩ := h0.over g hb ha (nf a ha)
    have hbs := sds_swp g hb2
    obtain ⟨p2, h2, k2, k3⟩ := h1.over g hb hbs (nf _ hbs)
    have va : val p2 a = true := k3 a ha (fun z => n (by
      have q := Frc.back g hb hbs z
      rw [swp_swp (sds_lt g ha), swp_swp (sds_lt g hb2)] at q
      exact q)) (k1 a ha .refl)
    have vb := h p2 h2 va
    have vb2 := k2 _ hbs .refl
    rw [val_swp (sds_lt g hb2), vb] at vb2
    cases vb2
  constructor
  · rintro ⟨a, b⟩ p hp
    cases hv : val p s with
    | true => exact (hp.frc g hb hv a).symm
    | false =>
      cases hw : val p t with
      | false => rfl
      | true =>
        have := hp.frc g hb hw b
        rw [hv] at this
        cases this
  · exact fun h => ⟨one hs ht fun p hp v => (h p hp).symm.trans v, one ht hs fun p hp v => (h p hp).trans v⟩
end
end NC
namespace NC
open PySem PySem.Spec PyProof.Rows L2
def rmOf (l : List Nat) (p : Nat → Bool) : List Nat := l.map fun c => if p c then c else upc c
def allT (l : List Nat) : Nat → List (List Nat)
  | 0 => [[]]
  | k + 1 => (allT l k).flatMap fun r => [r ++ [upc (l.getD k 0)], r ++ [l.getD k 0]]
def inR (b r : List Nat) : Bool := b.all fun s => decide (s ∈ r)
def rms (l : List Nat) (bs : List (List Nat)) : List (List Nat) := (allT l l.length).filter fun r => !bs.any fun b => inR b r
theorem allT_len (l : List Nat) : ∀ k, (allT l k).length = 2 ^ k
  | 0 => rfl
  | k + 1 => by
    have h : ∀ xs : List (List Nat), (xs.flatMap fun r => [r ++ [upc (l.getD k 0)], r ++ [l.getD k 0]]).length = 2 * xs.length := fun xs => by
      induction xs with
      | nil => rfl
      | cons x r ih =>
        have e : (x :: r).length = r.length + 1 := rfl
        rw [List.flatMap_cons, List.length_append, ih, e]
        show 2 + 2 * r.length = _
        omega
    show ((allT l k).flatMap _).length = _
    rw [h, allT_len l k, Nat.pow_succ, Nat.mul_comm]
theorem allT_mem {l : List Nat} (nd : l.Nodup) : ∀ {k : Nat}, k ≤ l.length → ∀ r, r ∈ allT l k ↔ ∃ p, r = rmOf (l.take k) p
  | 0, _, r => by
    show r ∈ [[]] ↔ _
    rw [List.mem_singleton]
    exact ⟨fun e => ⟨fun _ => true, by rw [e]; simp [rmOf]⟩, fun ⟨p, e⟩ => by rw [e]; simp [rmOf]⟩
  | k + 1, hk, r => by
    have hkl : k < l.length := hk
    have ec : l.getD k 0 = l[k] := by simp [List.getD, hkl]
    have et : l.take (k + 1) = l.take k ++ [l[k]] := by rw [List.take_add_one, List.getElem?_eq_getElem hkl]; rfl
    have hn : l[k] ∉ l.take k := take_new nd (List.getElem?_eq_getElem hkl)
    show r ∈ (allT l k).flatMap _ ↔ _
    rw [List.mem_flatMap, ec, et]
    constructor
    · rintro ⟨q, hq, hr⟩
      obtain ⟨p, rfl⟩ := (allT_mem nd (Nat.le_of_lt hkl) q).mp hq
      have same : ∀ b : Bool, rmOf (l.take k) (fun x => if x = l[k] then b else p x) = rmOf (l.take k) p := fun b => List.map_congr_left fun c hc => by
        have : c ≠ l[k] := fun e => hn (by rw [← e]; exact hc)
        show (if (if c = l[k] then b else p c) = true then c else upc c) = _
        rw [if_neg this]
      simp only [List.mem_cons, List.not_mem_nil, or_false] at hr
      rcases hr with rfl | rfl
      · refine ⟨fun x => if x = l[k] then false else p x, ?_⟩
        show _ = (l.take k ++ [l[k]]).map _
        rw [List.map_append]
        show _ = rmOf (l.take k) _ ++ _
        rw [same false]
        simp
      · refine ⟨fun x => if x = l[k] then true else p x, ?_⟩
        show _ = (l.take k ++ [l[k]]).map _
        rw [List.map_append]
        show _ = rmOf (l.take k) _ ++ _
        rw [same true]
        simp
    · rintro ⟨p, rfl⟩
      refine ⟨rmOf (l.take k) p, (allT_mem nd (Nat.le_of_lt hkl) _).mpr ⟨p, rfl⟩, ?_⟩
      have e : rmOf (l.take k ++ [l[k]]) p = rmOf (l.take k) p ++ [if p l[k] then l[k] else upc l[k]] := by
        unfold rmOf
        rw [List.map_append]
        rfl
      rw [e]
      by_cases h : p l[k] = true
      · rw [if_pos h]; simp
      · rw [if_neg h]; simp
theorem rm_mem {l : List Nat} (g : GoodW l) {p : Nat → Bool} {s : Nat} (hs : s ∈ sds l) : s ∈ rmOf l p ↔ val p s = true := by
  unfold rmOf
  rw [List.mem_map]
  rcases sds_shape g hs with z | z
  · have ev : val p s = p s := by unfold val; rw [if_neg (by omega)]
    rw [ev]
    constructor
    · rintro ⟨c, hc, e⟩
      have h1 := g.sm c hc
      by_cases h : p c = true
      · rw [if_pos h] at e
        rw [← e]; exact h
      · rw [if_neg h, upc_small h1] at e
        omega
    · intro h
      exact ⟨s, z.2.2, by rw [if_pos h]⟩
  · have ev : val p s = !p (s + 32) := by unfold val; rw [if_pos (by omega)]
    rw [ev]
    constructor
    · rintro ⟨c, hc, e⟩
      have h1 := g.sm c hc
      by_cases h : p c = true
      · rw [if_pos h] at e
        omega
      · rw [if_neg h, upc_small h1] at e
        rw [show s + 32 = c by omega]
        simpa using h
    · intro h
      refine ⟨s + 32, z.2.2, ?_⟩
      rw [if_neg (by simpa using h), upc_small (by omega)]
      omega
theorem rm_asc {l : List Nat} (g : GoodW l) {p : Nat → Bool} {s : Nat} (hs : s ∈ rmOf l p) : s ∈ sds l := by
  obtain ⟨c, hc, e⟩ := List.mem_map.mp hs
  by_cases h : p c = true
  · rw [if_pos h] at e
    rw [← e]; exact sds_of_small hc
  · rw [if_neg h, upc_small (g.sm c hc)] at e
    rw [← e]; exact sds_of_great g hc
theorem rms_mem {l : List Nat} (g : GoodW l) {bs : List (List Nat)} (hb : ∀ b ∈ bs, isBar l b = true) (r : List Nat) : r ∈ rms l bs ↔ ∃ p, r = rmOf l p ∧ Sat bs p := by
  have key : ∀ p, (!bs.any fun b => inR b (rmOf l p)) = true ↔ Sat bs p := fun p => by
    rw [Bool.not_eq_true', List.any_eq_false]
    constructor
    · intro h x y hxy
      rintro ⟨vx, vy⟩
      obtain ⟨x', y', e, hx, hy, _⟩ := bar_two (hb _ hxy)
      obtain ⟨rfl, rfl⟩ : x = x' ∧ y = y' := by simpa using e
      refine h _ hxy ?_
      simp [inR, (rm_mem g hx).mpr vx, (rm_mem g hy).mpr vy]
    · intro h b hbb hr
      obtain ⟨x, y, rfl, hx, hy, _⟩ := bar_two (hb _ hbb)
      simp [inR] at hr
      exact h x y hbb ⟨(rm_mem g hx).mp hr.1, (rm_mem g hy).mp hr.2⟩
  unfold rms
  rw [List.mem_filter, allT_mem g.nd (Nat.le_refl _), List.take_length]
  constructor
  · rintro ⟨⟨p, rfl⟩, h⟩
    exact ⟨p, rfl, (key p).mp h⟩
  · rintro ⟨p, rfl, h⟩
    exact ⟨⟨p, rfl⟩, (key p).mpr h⟩
inductive Vd
  | ok
  | fixed (s : Nat)
  | alike (s t : Nat)
def vdOf (L : List Nat) (fx : Nat → Bool) (al : Nat → Nat → Bool) : Vd := match L.find? fx with
  | some s => .fixed s
  | none => match L.findSome? fun s => (L.find? (al s)).map fun t => (s, t) with
    | some p => .alike p.1 p.2
    | none => .ok
theorem find_congr {α : Type} {L : List α} {p q : α → Bool} (h : ∀ x ∈ L, p x = q x) : L.find? p = L.find? q := by
  induction L with
  | nil => rfl
  | cons x r ih =>
    rw [List.find?_cons, List.find?_cons, h x (List.mem_cons_self ..), ih fun y hy => h y (List.mem_cons_of_mem _ hy)]
theorem findS_congr {α β : Type} {L : List α} {p q : α → Option β} (h : ∀ x ∈ L, p x = q x) : L.findSome? p = L.findSome? q := by
  induction L with
  | nil => rfl
  | cons x r ih =>
    rw [List.findSome?_cons, List.findSome?_cons, h x (List.mem_cons_self ..), ih fun y hy => h y (List.mem_cons_of_mem _ hy)]
theorem find_at {α : Type} : ∀ {L : List α} {p : α → Bool} {i : Nat} {s : α}, L[i]? = some s → (∀ j t, j < i → L[j]? = some t → p t = false) → p s = true → L.find? p = some s
  | [], p, i, s, h, _, _ => by simp at h
  | x :: r, p, 0, s, h, _, hs => by
    cases h
    rw [List.find?_cons, hs]
  | x :: r, p, i + 1, s, h, hn, hs => by
    rw [List.find?_cons, hn 0 x (Nat.succ_pos _) rfl]
    exact find_at (L := r) (i := i) h (fun j t hj ht => hn (j + 1) t (by omega) ht) hs
theorem findS_at {α β : Type} : ∀ {L : List α} {p : α → Option β} {i : Nat} {s : α} {v : β}, L[i]? = some s → (∀ j t, j < i → L[j]? = some t → p t = none) → p s = some v → L.findSome? p = some v
  | [], p, i, s, v, h, _, _ => by simp at h
  | x :: r, p, 0, s, v, h, _, hs => by
    cases h
    rw [List.findSome?_cons, hs]
  | x :: r, p, i + 1, s, v, h, hn, hs => by
    rw [List.findSome?_cons, hn 0 x (Nat.succ_pos _) rfl]
    exact findS_at (L := r) (i := i) h (fun j t hj ht => hn (j + 1) t (by omega) ht) hs
theorem find_no {α : Type} {L : List α} {p : α → Bool} (h : ∀ j t, j < L.length → L[j]? = some t → p t = false) : L.find? p = none := List.find?_eq_none.mpr fun x hx => by
  obtain ⟨j, hj, e⟩ := List.getElem_of_mem hx
  rw [h j x hj (by rw [List.getElem?_eq_getElem hj, e])]
  decide
theorem findS_no {α β : Type} {L : List α} {p : α → Option β} (h : ∀ j t, j < L.length → L[j]? = some t → p t = none) : L.findSome? p = none := List.findSome?_eq_none_iff.mpr fun x hx => by
  obtain ⟨j, hj, e⟩ := List.getElem_of_mem hx
  exact h j x hj (by rw [List.getElem?_eq_getElem hj, e])
/-- by what forces what: fo s are the sides that s forces -/
def fxP (fo : Nat → List Nat) (s : Nat) : Bool := decide (swp s ∈ fo s)
def alP (fo : Nat → List Nat) (s m : Nat) : Bool := decide (m ∈ fo s) && (decide (m ≠ s) && decide (s ∈ fo m))
/-- by the rooms; fo only where there is none -/
def fxL (l : List Nat) (bs : List (List Nat)) (fo : Nat → List Nat) (s : Nat) : Bool := if rms l bs = [] then decide (swp s ∈ fo s) else !(rms l bs).any fun r => decide (s ∈ r)
def alL (l : List Nat) (bs : List (List Nat)) (s t : Nat) : Bool := decide (lwc s ≠ lwc t) && (rms l bs).all fun r => decide (decide (s ∈ r) = decide (t ∈ r))
theorem same_wall {l : List Nat} (g : GoodW l) {s t : Nat} (hs : s ∈ sds l) (ht : t ∈ sds l) (e : lwc s = lwc t) : t = s ∨ t = swp s := by
  rcases sds_lt g hs with a | a <;> rcases sds_lt g ht with b | b <;> unfold lwc at e
  · rw [if_neg (by omega), if_neg (by omega)] at e
    exact .inl e.symm
  · rw [if_neg (by omega), if_pos b] at e
    rw [swp_small a]
    exact .inr (by omega)
  · rw [if_pos a, if_neg (by omega)] at e
    rw [swp_great a]
    exact .inr e.symm
  · rw [if_pos a, if_pos b] at e
    exact .inl (by omega)
theorem vd_same {l : List Nat} (g : GoodW l) {bs : List (List Nat)} (hb : ∀ b ∈ bs, isBar l b = true) {fo fo' : Nat → List Nat} (hf : ∀ s ∈ sds l, ∀ t, t ∈ fo s ↔ Frc (adjOf bs) s t) (hf' : ∀ s ∈ sds l, ∀ t, t ∈ fo' s ↔ Frc (adjOf bs) s t) :
    vdOf (sds l) (fxP fo) (alP fo) = vdOf (sds l) (fxL l bs fo') (alL l bs) := by
  have mr := rms_mem g hb
  have ne : ∀ {p0 : Nat → Bool}, Sat bs p0 → rms l bs ≠ [] := fun {p0} h0 z => by
    have := (mr _).mpr ⟨p0, rfl, h0⟩
    rw [z] at this
    cases this
  have fx : ∀ s ∈ sds l, fxP fo s = fxL l bs fo' s := fun s hs => by
    unfold fxP fxL
    rw [Bool.eq_iff_iff, decide_eq_true_eq, hf s hs]
    by_cases hr : rms l bs = []
    · rw [if_pos hr, decide_eq_true_eq, hf' s hs]
    · rw [if_neg hr, Bool.not_eq_true', List.any_eq_false]
      obtain ⟨r0, hr0⟩ := List.exists_mem_of_ne_nil _ hr
      obtain ⟨p0, _, h0⟩ := (mr r0).mp hr0
      rw [fix_iff g hb h0 hs]
      constructor
      · intro h r hrm hd
        obtain ⟨p, rfl, hp⟩ := (mr r).mp hrm
        have := (rm_mem g hs).mp (of_decide_eq_true hd)
        rw [h p hp] at this
        cases this
      · intro h p hp
        cases hv : val p s with
        | false => rfl
        | true => exact absurd (decide_eq_true ((rm_mem g hs).mpr hv)) (h _ ((mr _).mpr ⟨p, rfl, hp⟩))
  unfold vdOf
  rw [find_congr fx]
  cases h1 : (sds l).find? (fxL l bs fo') with
  | some s => rfl
  | none =>
    have nf : ∀ s ∈ sds l, ¬ Frc (adjOf bs) s (swp s) := fun s hs k => by
      have := List.find?_eq_none.mp h1 s hs
      rw [← fx s hs] at this
      exact this (decide_eq_true ((hf s hs _).mpr k))
    have al : ∀ s ∈ sds l, ∀ t ∈ sds l, alP fo s t = alL l bs s t := fun s hs t ht => by
      unfold alP alL
      rw [Bool.eq_iff_iff, Bool.and_eq_true, Bool.and_eq_true, Bool.and_eq_true, decide_eq_true_eq, decide_eq_true_eq, decide_eq_true_eq, decide_eq_true_eq, List.all_eq_true, hf s hs, hf t ht]
      constructor
      · rintro ⟨a, b, c⟩
        refine ⟨fun e => ?_, fun r hr => ?_⟩
        · rcases same_wall g hs ht e with z | z
          · exact b z
          · rw [z] at a
            exact nf s hs a
        · obtain ⟨p, rfl, hp⟩ := (mr r).mp hr
          have q := (alike_iff g hb nf hs ht).mp ⟨a, c⟩ p hp
          have e1 : decide (s ∈ rmOf l p) = val p s := by rw [Bool.eq_iff_iff, decide_eq_true_eq]; exact rm_mem g hs
          have e2 : decide (t ∈ rmOf l p) = val p t := by rw [Bool.eq_iff_iff, decide_eq_true_eq]; exact rm_mem g ht
          rw [e1, e2, q]
          simp
      · rintro ⟨a, b⟩
        have q := (alike_iff g hb nf hs ht).mpr fun p hp => by
          have z := of_decide_eq_true (b _ ((mr _).mpr ⟨p, rfl, hp⟩))
          have e1 : decide (s ∈ rmOf l p) = val p s := by rw [Bool.eq_iff_iff, decide_eq_true_eq]; exact rm_mem g hs
          have e2 : decide (t ∈ rmOf l p) = val p t := by rw [Bool.eq_iff_iff, decide_eq_true_eq]; exact rm_mem g ht
          rw [e1, e2] at z
          exact z
        exact ⟨q.1, fun e => a (by rw [e]), q.2⟩
    rw [findS_congr fun s hs => by rw [find_congr fun t ht => al s hs t ht]]
end NC
namespace NC
open PySem PySem.Spec PyProof.Rows L2
abbrev sChkFix : Stmt := topS 24
abbrev sChkAl : Stmt := topS 25
theorem scChkFix : FnScope ["forced_by", "side"] ["forced_by"] (defScope sChkFix) := ⟨rfl, rfl, rfl, by decide +kernel, rfl, by decide +kernel, by decide +kernel⟩
theorem scChkAl : FnScope ["forced_by", "side", "met"] ["forced_by"] (defScope sChkAl) := ⟨rfl, rfl, rfl, by decide +kernel, rfl, by decide +kernel, by decide +kernel⟩
structure XC2 (K : PySem.W.Frag) (mg : Str → Option Value) (C fI : Addr) (fd : FuncData) : Prop where
  gC : mg "Alike" = some (.ref C)
  O : OexC K C
  hw : PySem.W.findIn K (.ref C) "word" = some none
  h1 : PySem.W.findIn K (.ref C) "one" = some none
  h2 : PySem.W.findIn K (.ref C) "other" = some none
  iC : PySem.W.findIn K (.ref C) "__init__" = some (some (.ref fI))
  tI : PySem.W.typeIn K (.ref fI) = some (.type "function")
  F : Fun K "__init__" "Alike.__init__" sALinit fI fd
  b : Binds K fd ["self", "one", "other"] []
theorem mk2 {K : PySem.W.Frag} {C : Addr} (hO : OexC K C) (hw : PySem.W.findIn K (.ref C) "word" = some none) (h1 : PySem.W.findIn K (.ref C) "one" = some none) (h2 : PySem.W.findIn K (.ref C) "other" = some none) {H1 : Hp} {v u : V} {Q : XK}
    (q : ∀ d H', Same H1 H' → H1 d = none → H' d = some (.xd [("other", u), ("one", v), ("word", .str "alike")]) → Q (.ref C) (some d) H') :
    ∀ a, H1 a = none → sp2 K (.ref a :: ([v, u] ++ [])) (upd H1 a (exo a C none))
      (fun z H2 => z = .non ∧ ∃ (d : Addr) (fs : List (Str × V)), H2 a = some (exo a C (some d)) ∧ H2 d = some (exd d fs) ∧ H1 d = none ∧ Q (.ref C) (some d) (upd (del H2 a) d (.xd fs))) (fun _ _ _ => False) := by
  intro a na
  refine ⟨a, C, v, u, rfl, hO, hw, h1, h2, upd_same, fun dx H' n1 n2 k e1 e2 => ?_⟩
  have hd : H1 dx = none := by
    rw [upd_ne n2] at n1
    exact n1
  refine ⟨rfl, dx, _, e1, e2, hd, q dx _ (fun b o hb => ?_) hd upd_same⟩
  have b1 : b ≠ dx := ne_of_none hb hd
  have b2 : b ≠ a := ne_of_none hb na
  rw [upd_ne b1, del_ne b2, k b b1 b2, upd_ne b2]
  exact hb
theorem foK_keys (L : List Nat) (fo : Nat → List Nat) : (foK L fo).map (·.1) = (L.map sg).map Sum.inr := by
  unfold foK
  rw [List.map_map, List.map_map]
  rfl
theorem foK_get {H : Hp} {L : List Nat} {fo : Nat → List Nat} {d : Addr} {s : Nat} (e : H d = some (.dK (foK L fo))) (h : s ∈ L) : DGet H d (.str (sg s)) (some (.str (tx (fo s)))) := by
  rw [← foK_val (fo := fo) h]
  exact DGet.k (k := Sum.inr (sg s)) e
theorem FoOk.mem {l : List Nat} (g : GoodW l) {adj : Nat → List Nat} {L : List Nat} {fo : Nat → List Nat} (h : FoOk l adj L fo) {s c : Nat} (hs : s ∈ L) (hc : c ∈ fo s) : c ∈ sds l := by
  obtain ⟨rs, _, _, e⟩ := h s hs
  rw [e] at hc
  exact (byW_mem g hc).1
theorem FoOk.len {l : List Nat} (g : GoodW l) {adj : Nat → List Nat} {L : List Nat} {fo : Nat → List Nat} (h : FoOk l adj L fo) {s : Nat} (hs : s ∈ L) : (fo s).length ≤ 24 := by
  obtain ⟨rs, _, _, e⟩ := h s hs
  rw [e]
  have h1 := byW_len l (ahK rs)
  have h2 := g.hi
  omega
theorem kys_frc {L : List Nat} {adj : Nat → List Nat} {one : Nat} {rs : List (Nat × Option Nat)} (R : RsOk L adj one rs) : ∀ (i s : Nat) (p : Option Nat), rs[i]? = some (s, p) → Frc adj one s := fun i => by
  induction i using Nat.strongRecOn with
  | ind i ih =>
    intro s p hi
    rcases R.par i s p hi with ⟨rfl, rfl⟩ | ⟨c, j, q, rfl, hj, hrj, hadj⟩
    · obtain ⟨r, e⟩ := R.hd
      rw [e] at hi
      cases hi
      exact .refl
    · exact (ih j hj c q hrj).step hadj
theorem byW_of {l : List Nat} (g : GoodW l) {kvs : List (Key × V)} {t : Nat} (h : t ∈ sds l) (k : inK kvs t = true) : t ∈ byW l kvs := by
  rcases sds_shape g h with z | z
  · exact List.mem_flatMap.mpr ⟨t, z.2.2, List.mem_filter.mpr ⟨by simp, k⟩⟩
  · refine List.mem_flatMap.mpr ⟨t + 32, z.2.2, List.mem_filter.mpr ⟨?_, k⟩⟩
    rw [swp_small (by omega), show t + 32 - 32 = t by omega]
    simp
theorem FoOk.iff {l : List Nat} (g : GoodW l) {bs : List (List Nat)} (hb : ∀ b ∈ bs, isBar l b = true) {fo : Nat → List Nat} (h : FoOk l (adjOf bs) (sds l) fo) : ∀ s ∈ sds l, ∀ t, t ∈ fo s ↔ Frc (adjOf bs) s t := fun s hs t => by
  obtain ⟨rs, R, cl, e⟩ := h s hs
  rw [e]
  constructor
  · intro ht
    obtain ⟨_, hk⟩ := byW_mem g ht
    have hm : t ∈ kys rs := by
      refine Classical.byContradiction fun z => ?_
      unfold inK at hk
      rw [ahK_no z] at hk
      cases hk
    obtain ⟨i, p, hi, _⟩ := ahK_some hm
    exact kys_frc R i t p hi
  · rintro ⟨n, w⟩
    have h0 : s ∈ kys rs := by
      obtain ⟨r, e⟩ := R.hd
      rw [e]
      exact List.mem_cons_self ..
    have hm := reach_in h0 cl w
    obtain ⟨i, p, _, ev⟩ := ahK_some hm
    exact byW_of g (R.sub t hm) (by unfold inK; rw [ev]; rfl)
theorem two_nd : ∀ w : List Nat, (∀ c ∈ w, 97 ≤ c ∧ c ≤ 122) → w.Nodup → (w.flatMap fun c => [swp c, c]).Nodup
  | [], _, _ => by simp
  | c :: r, hs, hn => by
    obtain ⟨n1, n2⟩ := List.nodup_cons.mp hn
    have hc := hs c (List.mem_cons_self ..)
    have ih := two_nd r (fun d hd => hs d (List.mem_cons_of_mem _ hd)) n2
    rw [List.flatMap_cons]
    refine List.nodup_append.mpr ⟨?_, ih, fun a ha b hb e => ?_⟩
    · rw [swp_small hc]
      simp
      omega
    · obtain ⟨d, hd, hbd⟩ := List.mem_flatMap.mp hb
      have hd2 := hs d (List.mem_cons_of_mem _ hd)
      have ne : d ≠ c := fun z => n1 (by rw [← z]; exact hd)
      rw [swp_small hc] at ha
      rw [swp_small hd2] at hbd
      simp only [List.mem_cons, List.not_mem_nil, or_false] at ha hbd
      omega
theorem byW_nd {l : List Nat} (g : GoodW l) (kvs : List (Key × V)) : (byW l kvs).Nodup := by
  have e : byW l kvs = (l.flatMap fun c => [swp c, c]).filter (inK kvs) := by
    unfold byW
    rw [List.filter_flatMap]
  rw [e]
  exact (two_nd l g.sm g.nd).filter _
theorem sds_rise {l : List Nat} (g : GoodW l) : (sds l).Pairwise (· < ·) := by
  refine List.pairwise_append.mpr ⟨List.pairwise_map.mpr (g.rise.imp_of_mem fun {a b} ha hb h => ?_), g.rise, fun a ha b hb => ?_⟩
  · rw [upc_small (g.sm a ha), upc_small (g.sm b hb)]
    have := g.sm a ha
    omega
  · obtain ⟨c, hc, rfl⟩ := List.mem_map.mp ha
    have := g.sm c hc
    have := g.sm b hb
    rw [upc_small (by omega)]
    omega
theorem pw_sg {L : List Nat} (h : L.Pairwise (· < ·)) : (L.map sg).Pairwise leS := List.pairwise_map.mpr (h.imp fun h => leS_sg (Nat.le_of_lt h))
theorem sorted_sds {l : List Nat} (g : GoodW l) {ys : List Str} (hp : ys.Perm ((sds l).map sg)) (hs : sortedS ys = true) : ys = (sds l).map sg := sortedS_eq hs hp (pw_sg (sds_rise g))
theorem perm_nd : ∀ {a b : List Nat}, a.Nodup → b.Nodup → (∀ x, x ∈ a ↔ x ∈ b) → a.Perm b
  | [], b, _, _, h => by
    cases b with
    | nil => exact .nil
    | cons x r => exact absurd ((h x).mpr (List.mem_cons_self ..)) (by simp)
  | x :: r, b, ha, hb, h => by
    obtain ⟨n1, n2⟩ := List.nodup_cons.mp ha
    have hx : x ∈ b := (h x).mp (List.mem_cons_self ..)
    refine ((perm_nd n2 (hb.erase x) fun y => ?_).cons x).trans (List.perm_cons_erase hx).symm
    rw [hb.mem_erase_iff]
    constructor
    · exact fun hy => ⟨fun e => n1 (by rw [← e]; exact hy), (h y).mp (List.mem_cons_of_mem _ hy)⟩
    · rintro ⟨a, c⟩
      rcases List.mem_cons.mp ((h y).mpr c) with z | z
      · exact absurd z a
      · exact z
theorem sorted_fo {l : List Nat} (g : GoodW l) {adj : Nat → List Nat} {fo : Nat → List Nat} (h : FoOk l adj (sds l) fo) {s : Nat} (hs : s ∈ sds l) {ys : List Str} (hp : ys.Perm ((fo s).map sg)) (hso : sortedS ys = true) : ys = ((sds l).filter fun m => decide (m ∈ fo s)).map sg := by
  refine sortedS_eq hso (hp.trans (List.Perm.map _ (perm_nd ?_ ((sds_nd g).filter _) fun x => ?_))) (pw_sg ((sds_rise g).filter _))
  · obtain ⟨rs, _, _, e⟩ := h s hs
    rw [e]
    exact byW_nd g _
  · rw [List.mem_filter, decide_eq_true_eq]
    exact ⟨fun hx => ⟨h.mem g hs hx, hx⟩, fun hx => hx.2⟩
section
variable {P : Program} {w : World} {K : PySem.W.Frag} {mg : Str → Option Value} {base : Heap}
def spChkFix (CF : Addr) : Sp := fun vs H Q E => ∃ l d adj fo, vs = [.ref d] ∧ GoodW l ∧ H d = some (.dK (foK (sds l) fo)) ∧ FoOk l adj (sds l) fo ∧
  match (sds l).find? (fxP fo) with
  | none => ∀ H', Same H H' → Q .non H'
  | some s => ∀ H' x, Same H H' → H x = none → H' x = some (.xd [("side", .str (sg s)), ("word", .str "fixed")]) → E (.ref CF) (some x) H'
set_option maxHeartbeats 1000000 in
theorem ok_chkFix {f fO CF fF CH fH : Addr} {fd fdO fdF fdH : FuncData} {k : Nat} (B : BM mg) (F : Fun K "check_fixed" "check_fixed" sChkFix f fd) (O : DF K mg "other" sOther ["side"] fO fdO)
    (T : HE K mg CH fH fdH) (X : XC K mg "Fixed" "Fixed.__init__" sFXinit "side" CF fF fdF) : FnOk P w K mg base (L2.CX P w) (k + 4) f fd ["forced_by"] (spChkFix CF) := by
  have GO : FnOk P w K mg base CX0 (k + 1) fO fdO ["side"] spOther := ok_other O.F
  have GF : FnOk P w K mg base CX0 (k + 2) fF fdF ["self", "side"] (sp1 K "side" "fixed") := ok_FX T X.F
  refine F.okX scChkFix (fun vs H Q E h => ?_) (fun cdv A outer s H vs Q E hr h => ?_)
  · obtain ⟨l, d, adj, fo, rfl, _⟩ := h
    rfl
  · obtain ⟨l, d, adj, fo, rfl, g, hd, ok, q⟩ := h
    refine ⟨_, pss_one (ps_for (passes_of rfl) rfl (pi_list (pe_callB (call_sortedD rfl) (by rfl) B.sorted (by decide +kernel) (pa_cons (pv 0) pa_nil))) (pg_name (i := 1) scChkFix.nd rfl (.inl rfl))
      (pss_one (ps_if (pt_cmpR op_in_sign (pe_call GO (hr.mono (by omega)) rfl O.g O.F.kp O.b .nil pass0 (pa_cons (pv 1) pa_nil)) (pe_dget (hu_of hr) (pv 0) (pv 1) (fun _ _ => rfl)) (by rfl))
        (pss_one (ps_raise rfl (takes_of rfl rfl rfl rfl) (pmk_oex X.O X.iC X.tI GF hr X.b .nil pass0 (by rfl) X.gC (pa_cons (pv 1) pa_nil)))) pss_nil))), ?_⟩
    refine ⟨_, rfl, d, _, (sds l).map sg, rfl, .inl hd, foK_keys _ _, by rw [List.length_map]; have := sds_len g; omega, fun ys p hp hso np => ⟨p, rfl, ⟨_, SqL.of upd_same⟩, ?_⟩⟩
    obtain rfl := sorted_sds g hp hso
    have wk := walk_list (K := K) (a := p) (xs := ((sds l).map sg).map V.str)
    rw [List.length_map, List.length_map] at wk
    refine for_it wk (fun i σ H' => ∃ y1, σ = [some (.ref d), y1] ∧ Same H H' ∧ H' p = some (.lst (((sds l).map sg).map V.str)) ∧ ∀ j t, j < i → (sds l)[j]? = some t → fxP fo t = false) ⟨_, rfl, same_upd np, upd_same, fun j t h => absurd h (Nat.not_lt_zero _)⟩ (fun i σ H' _ h => by obtain ⟨_, _, _, h, _⟩ := h; exact SqL.of h) ?_ ?_
    · rintro i x σ H1 H2 hi ⟨y1, rfl, sm, ep, no⟩ ⟨rfl, hx⟩
      rw [List.getElem?_map, List.getElem?_map] at hx
      obtain ⟨y, hy, rfl⟩ := Option.map_eq_some_iff.mp hx
      obtain ⟨c, hci, rfl⟩ := Option.map_eq_some_iff.mp hy
      have hc : c ∈ sds l := List.mem_of_getElem? hci
      refine ⟨_, rfl, c, rfl, sds_asc g hc, _, rfl, _, rfl, d, _, rfl, foK_get (sm _ _ hd) hc, swp c, _, rfl, rfl, _, rfl, ite2 (fun t => ?_) (fun t => ?_)⟩
      · have t : decide (swp c ∈ (tx (fo c)).cps.toList) = true := t
        rw [tx_list] at t
        rw [find_at hci no t] at q
        exact ⟨_, rfl, by show 1 ≤ 1000; decide, mk1 X.O X.hw X.hf fun x H4 s4 n4 e4 => q H4 x (sm_trans sm s4) (L2.Same.free sm n4) e4⟩
      · have t : ¬ decide (swp c ∈ (tx (fo c)).cps.toList) = true := t
        rw [tx_list] at t
        refine ⟨_, rfl, sm, ep, fun j u hj hu => ?_⟩
        rcases Nat.lt_or_ge j i with h | h
        · exact no j u h hu
        · obtain rfl : j = i := by omega
          rw [hci] at hu
          cases hu
          exact Bool.eq_false_iff.mpr t
    · rintro σ H1 ⟨y1, rfl, sm, _, no⟩
      rw [find_no no] at q
      exact q H1 sm
def spChkAl (CA : Addr) : Sp := fun vs H Q E => ∃ l d adj fo, vs = [.ref d] ∧ GoodW l ∧ H d = some (.dK (foK (sds l) fo)) ∧ FoOk l adj (sds l) fo ∧
  match (sds l).findSome? fun s => ((sds l).find? (alP fo s)).map fun t => (s, t) with
  | none => ∀ H', Same H H' → Q .non H'
  | some v => ∀ H' x, Same H H' → H x = none → H' x = some (.xd [("other", .str (sg v.2)), ("one", .str (sg v.1)), ("word", .str "alike")]) → E (.ref CA) (some x) H'
set_option maxHeartbeats 1000000 in
theorem ok_chkAl {f CA fA CH fH : Addr} {fd fdA fdH : FuncData} {k : Nat} (B : BM mg) (F : Fun K "check_alike" "check_alike" sChkAl f fd)
    (T : HE K mg CH fH fdH) (X : XC2 K mg CA fA fdA) : FnOk P w K mg base (L2.CX P w) (k + 4) f fd ["forced_by"] (spChkAl CA) := by
  have GA : FnOk P w K mg base CX0 (k + 2) fA fdA ["self", "one", "other"] (sp2 K) := ok_AL T X.F
  refine F.okX scChkAl (fun vs H Q E h => ?_) (fun cdv A outer s H vs Q E hr h => ?_)
  · obtain ⟨l, d, adj, fo, rfl, _⟩ := h
    rfl
  · obtain ⟨l, d, adj, fo, rfl, g, hd, ok, q⟩ := h
    refine ⟨_, pss_one (ps_for (passes_of rfl) rfl (pi_list (pe_callB (call_sortedD rfl) (by rfl) B.sorted (by decide +kernel) (pa_cons (pv 0) pa_nil))) (pg_name (i := 1) scChkAl.nd rfl (.inl rfl))
      (pss_one (ps_for (passes_of rfl) rfl (pi_list (pe_callB (cr_sortedT rfl) (by rfl) B.sorted (by decide +kernel) (pa_cons (pe_dget (hu_of hr) (pv 0) (pv 1) (fun _ _ => rfl)) pa_nil))) (pg_name (i := 2) scChkAl.nd rfl (.inl rfl))
        (pss_one (ps_if (PW.pt (pw_and (pt_cmpR op_ne (pv 2) (pv 1) (nomark _)) (pw_and1 (pt_cmpR op_in_sign (pv 1) (pe_dget (hu_of hr) (pv 0) (pv 2) (fun _ _ => rfl)) (by rfl)))))
          (pss_one (ps_raise rfl (takes_of rfl rfl rfl rfl) (pmk_oex X.O X.iC X.tI GA hr X.b .nil pass0 (by rfl) X.gC (pa_cons (pv 1) (pa_cons (pv 2) pa_nil))))) pss_nil))))), ?_⟩
    refine ⟨_, rfl, d, _, (sds l).map sg, rfl, .inl hd, foK_keys _ _, by rw [List.length_map]; have := sds_len g; omega, fun ys p hp hso np => ⟨p, rfl, ⟨_, SqL.of upd_same⟩, ?_⟩⟩
    obtain rfl := sorted_sds g hp hso
    have wk := walk_list (K := K) (a := p) (xs := ((sds l).map sg).map V.str)
    rw [List.length_map, List.length_map] at wk
    refine for_it wk (fun i σ H' => ∃ y1 y2, σ = [some (.ref d), y1, y2] ∧ Same H H' ∧ H' p = some (.lst (((sds l).map sg).map V.str)) ∧ ∀ j t, j < i → (sds l)[j]? = some t → (sds l).find? (alP fo t) = none) ⟨_, _, rfl, same_upd np, upd_same, fun j t h => absurd h (Nat.not_lt_zero _)⟩ (fun i σ H' _ h => by obtain ⟨_, _, _, _, h, _⟩ := h; exact SqL.of h) ?_ ?_
    · rintro i x σ H1 H2 hi ⟨y1, y2, rfl, sm, ep, no⟩ ⟨rfl, hx⟩
      rw [List.getElem?_map, List.getElem?_map] at hx
      obtain ⟨y, hy, rfl⟩ := Option.map_eq_some_iff.mp hx
      obtain ⟨c, hci, rfl⟩ := Option.map_eq_some_iff.mp hy
      have hc : c ∈ sds l := List.mem_of_getElem? hci
      refine ⟨_, rfl, _, rfl, d, _, rfl, foK_get (sm _ _ hd) hc, tx (fo c), rfl, by rw [tx_len]; have := ok.len g hc; omega, fun zs r hz hzo nr => ⟨r, rfl, ⟨_, SqL.of upd_same⟩, ?_⟩⟩
      rw [sgs_tx] at hz
      obtain rfl := sorted_fo g ok hc hz hzo
      generalize hfl : ((sds l).filter fun m => decide (m ∈ fo c)) = fl at nr ⊢
      have ef : fl.find? (fun m => decide (m ≠ c) && decide (c ∈ fo m)) = (sds l).find? (alP fo c) := by
        rw [← hfl, List.find?_filter]
        congr 1
        funext m
        unfold alP
        by_cases h : m ∈ fo c
        · simp [h]
        · simp [h]
      have flm : ∀ m ∈ fl, m ∈ sds l := fun m hm => by rw [← hfl] at hm; exact (List.mem_filter.mp hm).1
      have wk2 := walk_list (K := K) (a := r) (xs := (fl.map sg).map V.str)
      rw [List.length_map, List.length_map] at wk2
      have npr : p ≠ r := ne_of_none ep nr
      refine for_it wk2 (fun j σ H' => ∃ y2, σ = [some (.ref d), some (.str (sg c)), y2] ∧ Same H H' ∧ H' p = some (.lst (((sds l).map sg).map V.str)) ∧ H' r = some (.lst ((fl.map sg).map V.str)) ∧ ∀ u t, u < j → fl[u]? = some t → (decide (t ≠ c) && decide (c ∈ fo t)) = false) ⟨_, rfl, sm_upd sm nr, by rw [upd_ne npr]; exact ep, upd_same, fun u t h => absurd h (Nat.not_lt_zero _)⟩
        (fun i σ H' _ h => by obtain ⟨_, _, _, _, h, _⟩ := h; exact SqL.of h) ?_ ?_
      · rintro j x σ H3 H4 hj ⟨y2, rfl, sm3, ep3, er3, no2⟩ ⟨rfl, hx⟩
        rw [List.getElem?_map, List.getElem?_map] at hx
        obtain ⟨z, hz2, rfl⟩ := Option.map_eq_some_iff.mp hx
        obtain ⟨m, hmj, rfl⟩ := Option.map_eq_some_iff.mp hz2
        have hmL : m ∈ sds l := flm m (List.mem_of_getElem? hmj)
        have next : (decide (m ≠ c) && decide (c ∈ fo m)) = false → ∀ u t, u < j + 1 → fl[u]? = some t → (decide (t ≠ c) && decide (c ∈ fo t)) = false := fun hmf u t hu ht => by
          rcases Nat.lt_or_ge u j with h | h
          · exact no2 u t h ht
          · obtain rfl : u = j := by omega
            rw [hmj] at ht
            cases ht
            exact hmf
        refine ⟨_, rfl, _, rfl, rfl, _, rfl, ite2 (fun t1 => ?_) (fun t1 => ?_)⟩
        · refine ⟨_, rfl, _, rfl, _, rfl, d, _, rfl, foK_get (sm3 _ _ hd) hmL, c, _, rfl, rfl, _, rfl, ite2 (fun t => ?_) (fun t => ?_)⟩
          · have t : decide (c ∈ (tx (fo m)).cps.toList) = true := t
            rw [tx_list] at t
            have t2 : ¬ sg m = sg c := by simpa using t1
            have t0 : decide (m ≠ c) = true := decide_eq_true fun e => t2 (by rw [e])
            have e1 : fl.find? (fun m => decide (m ≠ c) && decide (c ∈ fo m)) = some m := find_at hmj no2 (by rw [t0, t]; rfl)
            rw [ef] at e1
            rw [findS_at (v := (c, m)) hci (fun j t hj ht => by rw [no j t hj ht]; rfl) (by rw [e1]; rfl)] at q
            exact ⟨_, rfl, _, rfl, by show 2 ≤ 1000; decide, mk2 X.O X.hw X.h1 X.h2 fun x H5 s5 n5 e5 => q H5 x (sm_trans sm3 s5) (L2.Same.free sm3 n5) e5⟩
          · have t : ¬ decide (c ∈ (tx (fo m)).cps.toList) = true := t
            rw [tx_list] at t
            exact ⟨_, rfl, sm3, ep3, er3, next (by rw [Bool.eq_false_iff.mpr t]; simp)⟩
        · have t2 : sg m = sg c := by simpa using t1
          have t0 : decide (m ≠ c) = false := by simpa using sg_inj t2
          exact iteF ⟨_, rfl, sm3, ep3, er3, next (by rw [t0]; rfl)⟩
      · rintro σ H3 ⟨y2, rfl, sm3, ep3, er3, no2⟩
        refine ⟨_, _, rfl, sm3, ep3, fun j u hj hu => ?_⟩
        rcases Nat.lt_or_ge j i with h | h
        · exact no j u h hu
        · obtain rfl : j = i := by omega
          rw [hci] at hu
          cases hu
          rw [← ef]
          exact find_no no2
    · rintro σ H1 ⟨y1, y2, rfl, sm, _, no⟩
      rw [findS_no fun j t hj ht => by rw [no j t hj ht]; rfl] at q
      exact q H1 sm
end
end NC
namespace NC
open PySem PySem.Spec PyProof.Rows L2
open Classical in
noncomputable def foC (l : List Nat) (bs : List (List Nat)) (s : Nat) : List Nat := (sds l).filter fun t => decide (Frc (adjOf bs) s t)
open Classical in
theorem foC_mem {l : List Nat} (g : GoodW l) {bs : List (List Nat)} (hb : ∀ b ∈ bs, isBar l b = true) : ∀ s ∈ sds l, ∀ t, t ∈ foC l bs s ↔ Frc (adjOf bs) s t := fun s hs t => by
  unfold foC
  rw [List.mem_filter]
  exact ⟨fun h => of_decide_eq_true h.2, fun h => ⟨Frc.mem g hb hs h, decide_eq_true h⟩⟩
/-- the hall is let by -/
def Okv (l : List Nat) (bs : List (List Nat)) : Prop := ∀ fo : Nat → List Nat, (∀ s ∈ sds l, ∀ t, t ∈ fo s ↔ Frc (adjOf bs) s t) → vdOf (sds l) (fxP fo) (alP fo) = .ok
theorem vd_ok {L : List Nat} {fx : Nat → Bool} {al : Nat → Nat → Bool} (h1 : ∀ s ∈ L, fx s = false) (h2 : ∀ s ∈ L, ∀ t ∈ L, al s t = false) : vdOf L fx al = .ok := by
  unfold vdOf
  rw [List.find?_eq_none.mpr fun s hs => by rw [h1 s hs]; decide]
  have e : (L.findSome? fun s => (L.find? (al s)).map fun t => (s, t)) = none := List.findSome?_eq_none_iff.mpr fun s hs => by
    rw [List.find?_eq_none.mpr fun t ht => by rw [h2 s hs t ht]; decide]
    rfl
  rw [e]
theorem okv_nil {l : List Nat} (g : GoodW l) : Okv l [] := fun fo hf => by
  have one : ∀ {s t : Nat}, Frc (adjOf []) s t → t = s := fun {s t} h => h.ind (p := fun x => x = s) rfl fun a b _ k => absurd k (by simp [adjOf])
  refine vd_ok (fun s hs => ?_) (fun s hs t ht => ?_)
  · refine decide_eq_false fun z => ?_
    have e := one ((hf s hs _).mp z)
    rcases sds_lt g hs with q | q
    · rw [swp_small q] at e
      omega
    · rw [swp_great q] at e
      omega
  · unfold alP
    by_cases h : t ∈ fo s
    · have e := one ((hf s hs t).mp h)
      simp [e]
    · simp [h]
structure Fine (l : List Nat) (rs : List (List Nat)) : Prop where
  has : ∀ c ∈ l, (∃ r ∈ rs, c ∈ r) ∧ ∃ r ∈ rs, c ∉ r
  apart : ∀ x y, isBar l [x, y] = true → ∃ r ∈ rs, inR [x, y] r = true ∨ inR [swp x, swp y] r = true
theorem Fine.ok {l : List Nat} (g : GoodW l) {bs : List (List Nat)} (hb : ∀ b ∈ bs, isBar l b = true) (F : Fine l (rms l bs)) : Okv l bs := fun fo hf => by
  have mr := rms_mem g hb
  rw [vd_same g hb hf (foC_mem g hb)]
  have ne : rms l bs ≠ [] := fun z => by
    obtain ⟨c, hc⟩ : ∃ c, c ∈ l := by
      have := g.lo
      cases l with
      | nil => exact absurd this (by decide)
      | cons c r => exact ⟨c, List.mem_cons_self ..⟩
    obtain ⟨⟨r, hr, _⟩, _⟩ := F.has c hc
    rw [z] at hr
    cases hr
  have other : ∀ {s : Nat} {r : List Nat}, s ∈ sds l → r ∈ rms l bs → (s ∉ r ↔ swp s ∈ r) := fun {s r} hs hr => by
    obtain ⟨p, rfl, _⟩ := (mr r).mp hr
    rw [rm_mem g hs, rm_mem g (sds_swp g hs), val_swp (sds_lt g hs)]
    cases val p s <;> simp
  refine vd_ok (fun s hs => ?_) (fun s hs t ht => ?_)
  · unfold fxL
    rw [if_neg ne]
    have : ∃ r ∈ rms l bs, s ∈ r := by
      rcases sds_shape g hs with z | z
      · exact (F.has s z.2.2).1
      · obtain ⟨_, r, hr, hn⟩ := F.has (s + 32) z.2.2
        refine ⟨r, hr, ?_⟩
        have := (other (sds_of_small z.2.2) hr).mp hn
        rw [swp_small (by omega), show s + 32 - 32 = s by omega] at this
        exact this
    obtain ⟨r, hr, hsr⟩ := this
    rw [show ((rms l bs).any fun r => decide (s ∈ r)) = true from List.any_eq_true.mpr ⟨r, hr, decide_eq_true hsr⟩]
    rfl
  · unfold alL
    by_cases e : lwc s = lwc t
    · rw [e]; simp
    · have main : ∃ r ∈ rms l bs, (s ∈ r ∧ t ∉ r) ∨ (s ∉ r ∧ t ∈ r) := by
        have hst := sds_swp g ht
        have lt2 : lwc (swp t) = lwc t := by
          rcases sds_lt g ht with q | q
          · rw [swp_small q]
            unfold lwc
            rw [if_pos (by omega), if_neg (by omega)]
            omega
          · rw [swp_great q]
            unfold lwc
            rw [if_neg (by omega), if_pos q]
        have fin : ∀ r ∈ rms l bs, (s ∈ r ∧ swp t ∈ r) ∨ (swp s ∈ r ∧ t ∈ r) → (s ∈ r ∧ t ∉ r) ∨ (s ∉ r ∧ t ∈ r) := fun r hr h => h.imp (fun z => ⟨z.1, (other ht hr).mpr z.2⟩) (fun z => ⟨(other hs hr).mpr z.1, z.2⟩)
        have bar : ∀ {x y : Nat}, x ∈ sds l → y ∈ sds l → lwc x < lwc y → isBar l [x, y] = true := fun {x y} hx hy h => by
          show (decide (x ∈ sds l) && (decide (y ∈ sds l) && decide (lwc x < lwc y))) = true
          rw [decide_eq_true hx, decide_eq_true hy, decide_eq_true h]
          rfl
        rcases Nat.lt_or_ge (lwc s) (lwc t) with h | h
        · obtain ⟨r, hr, z⟩ := F.apart s (swp t) (bar hs hst (by rw [lt2]; exact h))
          refine ⟨r, hr, fin r hr (z.imp (fun z => ?_) (fun z => ?_))⟩
          · simp [inR] at z
            exact z
          · rw [swp_swp (sds_lt g ht)] at z
            simp [inR] at z
            exact z
        · obtain ⟨r, hr, z⟩ := F.apart (swp t) s (bar hst hs (by rw [lt2]; omega))
          refine ⟨r, hr, fin r hr (z.imp (fun z => ?_) (fun z => ?_))⟩
          · simp [inR] at z
            exact ⟨z.2, z.1⟩
          · rw [swp_swp (sds_lt g ht)] at z
            simp [inR] at z
            exact ⟨z.2, z.1⟩
      obtain ⟨r, hr, z⟩ := main
      have : (rms l bs).all (fun r => decide (decide (s ∈ r) = decide (t ∈ r))) = false := by
        rw [List.all_eq_false]
        refine ⟨r, hr, ?_⟩
        rcases z with ⟨a, b⟩ | ⟨a, b⟩
        · simp [a, b]
        · simp [a, b]
      rw [this]
      simp
/-- may s stand behind what is begun -/
def goes (fo : Nat → List Nat) (s : Nat) (r : List Nat) : Bool := !r.any fun h => decide (swp h ∈ fo s)
end NC
namespace NC
open PySem PySem.Spec PyProof.Rows L2
def dif (r g : List Nat) (k : Nat) : Bool := decide (r.getD k 0 ≠ g.getD k 0)
def ham (r g : List Nat) : Nat := ((List.range r.length).filter (dif r g)).length
theorem ham_zero {r g : List Nat} (hl : r.length = g.length) : ham r g = 0 ↔ r = g := by
  unfold ham
  rw [List.length_eq_zero_iff, List.filter_eq_nil_iff]
  constructor
  · intro h
    refine List.ext_getElem hl fun k h1 h2 => ?_
    have := h k (List.mem_range.mpr h1)
    unfold dif at this
    have e : r.getD k 0 = g.getD k 0 := by simpa using this
    rw [List.getD_eq_getElem?_getD, List.getD_eq_getElem?_getD, List.getElem?_eq_getElem h1, List.getElem?_eq_getElem h2] at e
    exact e
  · rintro rfl k _
    unfold dif
    simp
end NC
namespace NC
open PySem PySem.Spec PyProof.Rows L2
theorem rm_get {l : List Nat} {p : Nat → Bool} {i : Nat} (h : i < l.length) : (rmOf l p).getD i 0 = if p l[i] then l[i] else upc l[i] := by
  unfold rmOf
  rw [List.getD_eq_getElem?_getD, List.getElem?_map, List.getElem?_eq_getElem h]
  rfl
theorem rm_len (l : List Nat) (p : Nat → Bool) : (rmOf l p).length = l.length := List.length_map ..
theorem val_small {p : Nat → Bool} {c : Nat} (h : 97 ≤ c ∧ c ≤ 122) : val p c = p c := by unfold val; rw [if_neg (by omega)]
theorem val_great {p : Nat → Bool} {c : Nat} (h : 97 ≤ c ∧ c ≤ 122) : val p (c - 32) = !p c := by unfold val; rw [if_pos (by omega), show c - 32 + 32 = c by omega]
theorem swp_sd {c : Nat} (h : 97 ≤ c ∧ c ≤ 122) (b : Bool) : swp (if b then c else upc c) = if !b then c else upc c := by
  cases b with
  | true =>
    show swp c = upc c
    rw [swp_small h, upc_small h]
  | false =>
    show swp (upc c) = c
    rw [upc_small h, swp_great (by omega)]
    omega
theorem lwc_swp {x : Nat} (h : isLt x) : lwc (swp x) = lwc x := by
  rcases h with z | z
  · rw [swp_small z]
    unfold lwc
    rw [if_pos (by omega), if_neg (by omega)]
    omega
  · rw [swp_great z]
    unfold lwc
    rw [if_neg (by omega), if_pos z]
end NC
namespace NC
open PySem PySem.Spec PyProof.Rows L2
/-- a part: sides of rising walls -/
structure Part (l P : List Nat) : Prop where
  sub : (P.map lwc).Sublist l
  sd : ∀ c ∈ P, c ∈ sds l
def allFo (fo : Nat → List Nat) (P : List Nat) : List Nat := P.flatMap fo
def tornL (l W : List Nat) : List Nat := l.filter fun c => decide (c ∈ W) && decide (swp c ∈ W)
def byWT (l W : List Nat) : List Nat := l.flatMap fun c => [swp c, c].filter fun e => decide (e ∈ W)
def wov (W r : List Nat) : List Nat := r.map fun s => if swp s ∈ W then swp s else s
theorem inR_iff {b r : List Nat} : inR b r = true ↔ ∀ s ∈ b, s ∈ r := by
  unfold inR
  rw [List.all_eq_true]
  exact ⟨fun h s hs => of_decide_eq_true (h s hs), fun h s hs => decide_eq_true (h s hs)⟩
theorem Part.len {l P : List Nat} (h : Part l P) : P.length ≤ l.length := by
  have := h.sub.length_le
  rw [List.length_map] at this
  exact this
theorem byWT_mem {l : List Nat} (g : GoodW l) {W : List Nat} {s : Nat} : s ∈ byWT l W ↔ s ∈ sds l ∧ s ∈ W := by
  unfold byWT
  rw [List.mem_flatMap]
  constructor
  · rintro ⟨c, hc, hs⟩
    obtain ⟨h1, h2⟩ := List.mem_filter.mp hs
    refine ⟨?_, of_decide_eq_true h2⟩
    rcases List.mem_cons.mp h1 with e | e
    · rw [e]; exact sds_swp g (sds_of_small hc)
    · rw [List.mem_singleton.mp e]; exact sds_of_small hc
  · rintro ⟨h1, h2⟩
    rcases sds_shape g h1 with z | z
    · exact ⟨s, z.2.2, List.mem_filter.mpr ⟨List.mem_cons_of_mem _ (List.mem_singleton.mpr rfl), decide_eq_true h2⟩⟩
    · refine ⟨s + 32, z.2.2, List.mem_filter.mpr ⟨?_, decide_eq_true h2⟩⟩
      rw [swp_small (by omega)]
      exact List.mem_cons.mpr (.inl (by omega))
theorem byWT_len (l W : List Nat) : (byWT l W).length ≤ 2 * l.length := by
  induction l with
  | nil => simp [byWT]
  | cons x r ih =>
    have h1 : (byWT (x :: r) W) = ([swp x, x].filter fun e => decide (e ∈ W)) ++ byWT r W := by simp [byWT]
    rw [h1, List.length_append, List.length_cons]
    have h2 : ([swp x, x].filter fun e => decide (e ∈ W)).length ≤ 2 := List.length_filter_le _ _
    omega
theorem byWT_snoc (l : List Nat) (n : Nat) (c : Nat) (W : List Nat) (h : l[n]? = some c) : byWT (l.take (n + 1)) W = byWT (l.take n) W ++ [swp c, c].filter fun e => decide (e ∈ W) := by
  rw [List.take_add_one, h]
  unfold byWT
  rw [List.flatMap_append]
  simp
section
variable {l : List Nat} (g : GoodW l) {bs : List (List Nat)} (hb : ∀ b ∈ bs, isBar l b = true) {fo : Nat → List Nat} (hf : ∀ s ∈ sds l, ∀ t, t ∈ fo s ↔ Frc (adjOf bs) s t)
include g hb hf
theorem allFo_mem {P : List Nat} (hP : ∀ c ∈ P, c ∈ sds l) {t : Nat} : t ∈ allFo fo P ↔ ∃ s ∈ P, Frc (adjOf bs) s t := by
  unfold allFo
  rw [List.mem_flatMap]
  exact ⟨fun ⟨s, hs, h⟩ => ⟨s, hs, (hf s (hP s hs) t).mp h⟩, fun ⟨s, hs, h⟩ => ⟨s, hs, (hf s (hP s hs) t).mpr h⟩⟩
theorem allFo_sd {P : List Nat} (hP : ∀ c ∈ P, c ∈ sds l) {t : Nat} (h : t ∈ allFo fo P) : t ∈ sds l := by
  obtain ⟨s, hs, k⟩ := (allFo_mem g hb hf hP).mp h
  exact Frc.mem g hb (hP s hs) k
theorem allFo_adj {P : List Nat} (hP : ∀ c ∈ P, c ∈ sds l) {t u : Nat} (h : t ∈ allFo fo P) (k : u ∈ adjOf bs t) : u ∈ allFo fo P := by
  obtain ⟨s, hs, z⟩ := (allFo_mem g hb hf hP).mp h
  exact (allFo_mem g hb hf hP).mpr ⟨s, hs, z.step k⟩
theorem allFo_self {P : List Nat} (hP : ∀ c ∈ P, c ∈ sds l) {t : Nat} (h : t ∈ P) : t ∈ allFo fo P := (allFo_mem g hb hf hP).mpr ⟨t, h, Frc.refl⟩
/-- what a room has of a part it has of all that is forced -/
theorem allFo_in {P : List Nat} (hP : ∀ c ∈ P, c ∈ sds l) {q : List Nat} (hq : q ∈ rms l bs) (hin : ∀ s ∈ P, s ∈ q) {t : Nat} (h : t ∈ allFo fo P) : t ∈ q := by
  obtain ⟨p, rfl, sp⟩ := (rms_mem g hb q).mp hq
  obtain ⟨s, hs, z⟩ := (allFo_mem g hb hf hP).mp h
  have v := Sat.frc g hb sp ((rm_mem g (hP s hs)).mp (hin s hs)) z
  exact (rm_mem g (Frc.mem g hb (hP s hs) z)).mpr v
theorem room_one {q : List Nat} (hq : q ∈ rms l bs) {t : Nat} (ht : t ∈ sds l) (h1 : t ∈ q) (h2 : swp t ∈ q) : False := by
  obtain ⟨p, rfl, sp⟩ := (rms_mem g hb q).mp hq
  have v1 := (rm_mem g ht).mp h1
  have v2 := (rm_mem g (sds_swp g ht)).mp h2
  rw [val_swp (sds_lt g ht), v1] at v2
  cases v2
theorem torn_no {P : List Nat} (hP : ∀ c ∈ P, c ∈ sds l) {q : List Nat} (hq : q ∈ rms l bs) (hin : ∀ s ∈ P, s ∈ q) : tornL l (allFo fo P) = [] := by
  unfold tornL
  rw [List.filter_eq_nil_iff]
  intro c hc h
  rw [Bool.and_eq_true, decide_eq_true_eq, decide_eq_true_eq] at h
  exact room_one g hb hf hq (sds_of_small hc) (allFo_in g hb hf hP hq hin h.1) (allFo_in g hb hf hP hq hin h.2)
/-- what is written over a room is a room of the part -/
theorem wov_room {P : List Nat} (hP : ∀ c ∈ P, c ∈ sds l) {q r : List Nat} (hq : q ∈ rms l bs) (hin : ∀ s ∈ P, s ∈ q) (hr : r ∈ rms l bs) : wov (allFo fo P) r ∈ rms l bs ∧ ∀ s ∈ P, s ∈ wov (allFo fo P) r := by
  have hW : ∀ {t}, t ∈ allFo fo P → t ∈ q := fun h => allFo_in g hb hf hP hq hin h
  have hWs : ∀ {t}, t ∈ allFo fo P → t ∈ sds l := fun h => allFo_sd g hb hf hP h
  have one : ∀ {t}, t ∈ allFo fo P → swp t ∈ allFo fo P → False := fun h1 h2 => room_one g hb hf hq (hWs h1) (hW h1) (hW h2)
  obtain ⟨p, rfl, sp⟩ := (rms_mem g hb r).mp hr
  have self : ∀ {t}, t ∈ P → t ∈ allFo fo P := fun h => allFo_self g hb hf hP h
  have adj : ∀ {t u}, t ∈ allFo fo P → u ∈ adjOf bs t → u ∈ allFo fo P := fun h k => allFo_adj g hb hf hP h k
  generalize allFo fo P = W at hW hWs one self adj
  have eN : wov W (rmOf l p) = rmOf l (fun c => if c ∈ W then true else if upc c ∈ W then false else p c) := by
    unfold wov rmOf
    rw [List.map_map]
    refine List.map_congr_left fun c hc => ?_
    have sm := g.sm c hc
    show (if swp (if p c then c else upc c) ∈ W then swp (if p c then c else upc c) else (if p c then c else upc c)) = _
    have e1 : swp c = upc c := by rw [swp_small sm, upc_small sm]
    have e2 : swp (upc c) = c := by rw [upc_small sm, swp_great (by omega)]; omega
    have no : c ∈ W → upc c ∈ W → False := fun h1 h2 => one h1 (by rw [e1]; exact h2)
    by_cases hp : p c = true
    · simp only [hp, if_true, e1]
      by_cases h1 : c ∈ W
      · by_cases h2 : upc c ∈ W
        · exact (no h1 h2).elim
        · simp [h1, h2]
      · by_cases h2 : upc c ∈ W <;> simp [h1, h2]
    · simp only [hp, e2]
      by_cases h1 : c ∈ W
      · simp [h1, e2]
      · by_cases h2 : upc c ∈ W <;> simp [h1, h2, e2]
  generalize hpN : (fun c => if c ∈ W then true else if upc c ∈ W then false else p c) = pN at eN
  have vW : ∀ {t}, t ∈ sds l → t ∈ W → val pN t = true := fun {t} ht h => by
    rcases sds_shape g ht with z | z
    · rw [val_small ⟨z.1, z.2.1⟩, ← hpN]
      simp [h]
    · have hn : t + 32 ∉ W := fun k => one h (by rw [swp_great ⟨z.1, z.2.1⟩]; exact k)
      have hu : upc (t + 32) = t := by rw [upc_small (by omega)]; omega
      unfold val
      rw [if_pos (by omega), ← hpN]
      simp [hn, hu, h]
  have vr : ∀ {t}, t ∈ sds l → t ∉ W → val pN t = true → val p t = true := fun {t} ht h v => by
    have hn : swp t ∉ W := fun k => by
      have := vW (sds_swp g ht) k
      rw [val_swp (sds_lt g ht), v] at this
      cases this
    rcases sds_shape g ht with z | z
    · rw [swp_small ⟨z.1, z.2.1⟩, ← upc_small ⟨z.1, z.2.1⟩] at hn
      rw [val_small ⟨z.1, z.2.1⟩, ← hpN] at v
      rw [val_small ⟨z.1, z.2.1⟩]
      simpa [h, hn] using v
    · rw [swp_great ⟨z.1, z.2.1⟩] at hn
      have hu : upc (t + 32) = t := by rw [upc_small (by omega)]; omega
      unfold val at v ⊢
      rw [if_pos (by omega), ← hpN] at v
      rw [if_pos (by omega)]
      simpa [hn, hu, h] using v
  refine ⟨?_, fun s hs => ?_⟩
  · rw [eN]
    refine (rms_mem g hb _).mpr ⟨pN, rfl, fun x y hxy ⟨v1, v2⟩ => ?_⟩
    obtain ⟨x', y', e, hx, hy, _⟩ := bar_two (hb _ hxy)
    cases e
    by_cases h1 : x ∈ W
    · have := adj h1 ((adj_iff g hb (sds_lt g (sds_swp g hy))).mpr (.inl (by rw [swp_swp (sds_lt g hy)]; exact hxy)))
      have := vW (sds_swp g hy) this
      rw [val_swp (sds_lt g hy), v2] at this
      cases this
    · by_cases h2 : y ∈ W
      · have := adj h2 ((adj_iff g hb (sds_lt g (sds_swp g hx))).mpr (.inr (by rw [swp_swp (sds_lt g hx)]; exact hxy)))
        have := vW (sds_swp g hx) this
        rw [val_swp (sds_lt g hx), v1] at this
        cases this
      · exact sp x y hxy ⟨vr hx h1 v1, vr hy h2 v2⟩
  · rw [eN]
    exact (rm_mem g (hP s hs)).mpr (vW (hP s hs) (self hs))
end
theorem filter_add {L : List Nat} {p a b : Nat → Bool} (h : ∀ k ∈ L, p k = (a k || b k) ∧ ¬ (a k = true ∧ b k = true)) : (L.filter p).length = (L.filter a).length + (L.filter b).length := by
  induction L with
  | nil => rfl
  | cons x r ih =>
    have h0 := h x (List.mem_cons_self ..)
    have ih := ih fun k hk => h k (List.mem_cons_of_mem _ hk)
    rw [List.filter_cons, List.filter_cons, List.filter_cons, h0.1]
    have h1 := h0.2
    cases ha : a x <;> cases hb : b x
    · simpa [ha, hb] using ih
    · simp only [ha, hb, Bool.or_true, if_true, List.length_cons, ih, Bool.false_eq_true, if_false]; omega
    · simp only [ha, hb, Bool.or_false, if_true, List.length_cons, ih, Bool.false_eq_true, if_false]; omega
    · exact absurd ⟨ha, hb⟩ h1
section
variable {l : List Nat} (g : GoodW l) {bs : List (List Nat)} (hb : ∀ b ∈ bs, isBar l b = true) {fo : Nat → List Nat} (hf : ∀ s ∈ sds l, ∀ t, t ∈ fo s ↔ Frc (adjOf bs) s t)
include g hb hf
/-- how far it is to a room of the part: over the written one -/
theorem wov_ham {P : List Nat} (hP : ∀ c ∈ P, c ∈ sds l) {q r : List Nat} (hq : q ∈ rms l bs) (hin : ∀ s ∈ P, s ∈ q) (hr : r ∈ rms l bs) : ham r q = ham r (wov (allFo fo P) r) + ham (wov (allFo fo P) r) q := by
  have hW : ∀ {t}, t ∈ allFo fo P → t ∈ q := fun h => allFo_in g hb hf hP hq hin h
  obtain ⟨pq, rfl, sq⟩ := (rms_mem g hb q).mp hq
  obtain ⟨p, rfl, sp⟩ := (rms_mem g hb r).mp hr
  generalize allFo fo P = W at hW
  have wl : (wov W (rmOf l p)).length = l.length := by unfold wov; rw [List.length_map, rm_len]
  unfold ham
  rw [wl, rm_len]
  refine filter_add fun k hk => ?_
  have hk := List.mem_range.mp hk
  have sm := g.sm _ (List.getElem_mem hk)
  have ew : (wov W (rmOf l p)).getD k 0 = if swp (if p l[k] then l[k] else upc l[k]) ∈ W then swp (if p l[k] then l[k] else upc l[k]) else if p l[k] then l[k] else upc l[k] := by
    unfold wov rmOf
    rw [List.getD_eq_getElem?_getD, List.getElem?_map, List.getElem?_map, List.getElem?_eq_getElem hk]
    rfl
  have hsd : ∀ b : Bool, (if b then l[k] else upc l[k]) ∈ sds l := fun b => by
    cases b
    · rw [if_neg (by simp), upc_small sm]; exact sds_of_great g (List.getElem_mem hk)
    · rw [if_pos rfl]; exact sds_of_small (List.getElem_mem hk)
  have key : swp (if p l[k] then l[k] else upc l[k]) ∈ W → (if pq l[k] then l[k] else upc l[k]) = swp (if p l[k] then l[k] else upc l[k]) := fun h => by
    have h2 := hW h
    have h3 := (rm_mem g (sds_swp g (hsd _))).mp h2
    rw [swp_sd sm] at h3 ⊢
    have : pq l[k] = !p l[k] := by
      cases hpk : p l[k]
      · rw [hpk] at h3
        simpa [val_small sm] using h3
      · rw [hpk] at h3
        have h4 : val pq (l[k] - 32) = true := by simpa [upc_small sm] using h3
        rw [val_great sm] at h4
        simpa using h4
    rw [this]
  unfold dif
  rw [ew, rm_get hk, rm_get hk]
  by_cases h : swp (if p l[k] then l[k] else upc l[k]) ∈ W
  · rw [if_pos h, key h]
    refine ⟨by simp, fun z => ?_⟩
    have := z.2
    simp at this
  · rw [if_neg h]
    refine ⟨by simp, fun z => ?_⟩
    have := z.1
    simp at this
theorem wov_best {P : List Nat} (hP : ∀ c ∈ P, c ∈ sds l) {q r : List Nat} (hq : q ∈ rms l bs) (hin : ∀ s ∈ P, s ∈ q) (hr : r ∈ rms l bs) (h : ham r q ≤ ham r (wov (allFo fo P) r)) : q = wov (allFo fo P) r := by
  have e := wov_ham g hb hf hP hq hin hr
  have z : ham (wov (allFo fo P) r) q = 0 := by omega
  refine ((ham_zero ?_).mp z).symm
  have h1 := (wov_room g hb hf hP hq hin hr).1
  obtain ⟨p1, e1, _⟩ := (rms_mem g hb _).mp h1
  obtain ⟨p2, e2, _⟩ := (rms_mem g hb _).mp hq
  rw [e1, e2, rm_len, rm_len]
end
/-- written over by what stands by walls -/
theorem wov_by {l : List Nat} (g : GoodW l) {W r : List Nat} (hr : ∀ c ∈ r, c ∈ sds l) : wov (byWT l W) r = wov W r := by
  unfold wov
  refine List.map_congr_left fun c hc => ?_
  have : swp c ∈ byWT l W ↔ swp c ∈ W := by
    rw [byWT_mem g]
    exact ⟨fun h => h.2, fun h => ⟨sds_swp g (hr c hc), h⟩⟩
  by_cases h : swp c ∈ W
  · rw [if_pos h, if_pos (this.mpr h)]
  · rw [if_neg h, if_neg fun z => h (this.mp z)]
theorem upc_ne {c : Nat} (h : 97 ≤ c ∧ c ≤ 122) : upc c ≠ c := by rw [upc_small h]; omega
theorem allT_nd {l : List Nat} (sm : ∀ c ∈ l, 97 ≤ c ∧ c ≤ 122) : ∀ k, k ≤ l.length → (allT l k).Nodup
  | 0, _ => by simp [allT]
  | k + 1, h => by
    have ih := allT_nd sm k (by omega)
    have hk : k < l.length := by omega
    have ne : upc (l.getD k 0) ≠ l.getD k 0 := by
      have : l.getD k 0 = l[k] := by rw [List.getD_eq_getElem?_getD, List.getElem?_eq_getElem hk]; rfl
      rw [this]
      exact upc_ne (sm _ (List.getElem_mem hk))
    show ((allT l k).flatMap fun r => [r ++ [upc (l.getD k 0)], r ++ [l.getD k 0]]).Nodup
    generalize allT l k = L at ih
    induction L with
    | nil => simp
    | cons x r ih2 =>
      have h1 := List.nodup_cons.mp ih
      rw [List.flatMap_cons, List.nodup_append]
      refine ⟨?_, ih2 h1.2, fun a ha b hb e => ?_⟩
      · rw [List.nodup_cons]
        refine ⟨fun z => ?_, by simp⟩
        have := List.mem_singleton.mp z
        have := List.append_cancel_left this
        exact ne (by simpa using this)
      · subst e
        obtain ⟨y, hy, hm⟩ := List.mem_flatMap.mp hb
        have e1 : a.dropLast = x := by
          rcases List.mem_cons.mp ha with z | z
          · rw [z]; simp
          · rw [List.mem_singleton.mp z]; simp
        have e2 : a.dropLast = y := by
          rcases List.mem_cons.mp hm with z | z
          · rw [z]; simp
          · rw [List.mem_singleton.mp z]; simp
        rw [← e1, e2] at h1
        exact h1.1 hy
theorem rms_nd {l : List Nat} (g : GoodW l) {bs : List (List Nat)} : (rms l bs).Nodup := by
  unfold rms
  exact (allT_nd g.sm _ (Nat.le_refl _)).sublist List.filter_sublist
theorem part_pw {l P : List Nat} (g : GoodW l) (h : Part l P) : (P.map lwc).Pairwise (· < ·) := g.rise.sublist h.sub
end NC
namespace NC
open PySem PySem.Spec PyProof.Rows L2
theorem allT_lens' (l : List Nat) : ∀ k r, r ∈ allT l k → r.length = k
  | 0, r, h => by rw [List.mem_singleton.mp h]; rfl
  | k + 1, r, h => by
    obtain ⟨q, hq, hr⟩ := List.mem_flatMap.mp h
    have := allT_lens' l k q hq
    simp only [List.mem_cons, List.not_mem_nil, or_false] at hr
    rcases hr with rfl | rfl <;> simp [this]
/-- the sides behind so many walls -/
def wS (fo : Nat → List Nat) (l W : List Nat) : Nat → List Nat
  | 0 => W
  | i + 1 => if l.getD i 0 ∈ wS fo l W i then wS fo l W i else wS fo l W i ++ fo (upc (l.getD i 0))
theorem wS_le {fo : Nat → List Nat} {l W : List Nat} {i j : Nat} (h : i ≤ j) : ∀ {t}, t ∈ wS fo l W i → t ∈ wS fo l W j := by
  induction j with
  | zero =>
    intro t ht
    rw [show i = 0 by omega] at ht
    exact ht
  | succ j ih =>
    intro t ht
    rcases Nat.lt_or_ge j i with z | z
    · rw [show i = j + 1 by omega] at ht
      exact ht
    · have := ih z ht
      show t ∈ (if l.getD j 0 ∈ wS fo l W j then wS fo l W j else wS fo l W j ++ fo (upc (l.getD j 0)))
      split
      · exact this
      · exact List.mem_append_left _ this
section
variable {l : List Nat} (g : GoodW l) {bs : List (List Nat)} (hb : ∀ b ∈ bs, isBar l b = true) {fo : Nat → List Nat} (hf : ∀ s ∈ sds l, ∀ t, t ∈ fo s ↔ Frc (adjOf bs) s t) (ok : Okv l bs)
/-- sides that force nothing more, no two of one wall -/
structure Clo (l : List Nat) (bs : List (List Nat)) (W : List Nat) : Prop where
  sd : ∀ t ∈ W, t ∈ sds l
  adj : ∀ t ∈ W, ∀ u ∈ adjOf bs t, u ∈ W
  one : ∀ t ∈ W, swp t ∉ W
include g hb hf ok
theorem no_self {s : Nat} (hs : s ∈ sds l) : ¬ Frc (adjOf bs) s (swp s) := fun h => by
  have e := ok fo hf
  unfold vdOf at e
  split at e
  · cases e
  · next hn =>
    have := List.find?_eq_none.mp hn s hs
    unfold fxP at this
    rw [decide_eq_true_eq] at this
    exact this ((hf s hs _).mpr h)
theorem Clo.grow {W : List Nat} (h : Clo l bs W) {c : Nat} (hc : c ∈ l) (hn : c ∉ W) : Clo l bs (W ++ fo (upc c)) := by
  have sm := g.sm c hc
  have hg : upc c ∈ sds l := by rw [upc_small sm]; exact sds_of_great g hc
  have e2 : swp (upc c) = c := by rw [upc_small sm, swp_great (by omega)]; omega
  have F : ∀ t, t ∈ fo (upc c) ↔ Frc (adjOf bs) (upc c) t := hf _ hg
  have cl : ∀ t ∈ W, ∀ u, Frc (adjOf bs) t u → u ∈ W := fun t ht u hu => hu.ind (p := fun x => x ∈ W) ht fun a b ha k => h.adj a ha b k
  have cross : ∀ t ∈ W, swp t ∈ fo (upc c) → False := fun t ht h2 => by
    have := Frc.back g hb hg ((F _).mp h2)
    rw [swp_swp (sds_lt g (h.sd t ht)), e2] at this
    exact hn (cl t ht c this)
  refine ⟨fun t ht => ?_, fun t ht u hu => ?_, fun t ht h2 => ?_⟩
  · rcases List.mem_append.mp ht with z | z
    · exact h.sd t z
    · exact Frc.mem g hb hg ((F t).mp z)
  · rcases List.mem_append.mp ht with z | z
    · exact List.mem_append_left _ (h.adj t z u hu)
    · exact List.mem_append_right _ ((F u).mpr (((F t).mp z).step hu))
  · rcases List.mem_append.mp ht with z | z <;> rcases List.mem_append.mp h2 with y | y
    · exact h.one t z y
    · exact cross t z y
    · refine cross (swp t) y ?_
      rw [swp_swp (sds_lt g (Frc.mem g hb hg ((F t).mp z)))]
      exact z
    · exact no_self g hb hf ok hg (Frc.torn g hb hg ((F t).mp z) ((F _).mp y))
theorem wS_clo {W : List Nat} (h : Clo l bs W) : ∀ i, i ≤ l.length → Clo l bs (wS fo l W i)
  | 0, _ => h
  | i + 1, hi => by
    have ih := wS_clo h i (by omega)
    have hil : i < l.length := by omega
    have e : l.getD i 0 = l[i] := by rw [List.getD_eq_getElem?_getD, List.getElem?_eq_getElem hil]; rfl
    show Clo l bs (if l.getD i 0 ∈ wS fo l W i then wS fo l W i else wS fo l W i ++ fo (upc (l.getD i 0)))
    split
    · exact ih
    · next hn => exact Clo.grow g hb hf ok ih (by rw [e]; exact List.getElem_mem hil) hn
theorem wS_full {W : List Nat} {i : Nat} (hi : i < l.length) : l[i] ∈ wS fo l W (i + 1) ∨ upc l[i] ∈ wS fo l W (i + 1) := by
  have e : l.getD i 0 = l[i] := by rw [List.getD_eq_getElem?_getD, List.getElem?_eq_getElem hi]; rfl
  have sm := g.sm _ (List.getElem_mem hi)
  have hg : upc l[i] ∈ sds l := by rw [upc_small sm]; exact sds_of_great g (List.getElem_mem hi)
  show _ ∈ (if l.getD i 0 ∈ wS fo l W i then wS fo l W i else wS fo l W i ++ fo (upc (l.getD i 0))) ∨ _ ∈ (if l.getD i 0 ∈ wS fo l W i then wS fo l W i else wS fo l W i ++ fo (upc (l.getD i 0)))
  rw [e]
  split
  · next h => exact .inl h
  · exact .inr (List.mem_append_right _ ((hf _ hg _).mpr Frc.refl))
theorem clo_room {W : List Nat} (h : Clo l bs W) (full : ∀ c ∈ l, c ∈ W ∨ upc c ∈ W) : byWT l W = rmOf l (fun c => decide (c ∈ W)) ∧ rmOf l (fun c => decide (c ∈ W)) ∈ rms l bs := by
  have e1 : ∀ c ∈ l, swp c = upc c := fun c hc => by rw [swp_small (g.sm c hc), upc_small (g.sm c hc)]
  constructor
  · unfold byWT rmOf
    have : ∀ L : List Nat, (∀ c ∈ L, c ∈ l) → (L.flatMap fun c => [swp c, c].filter fun e => decide (e ∈ W)) = L.map fun c => if decide (c ∈ W) = true then c else upc c := fun L => by
      induction L with
      | nil => intro _; rfl
      | cons c r ih =>
        intro hL
        have hc := hL c (List.mem_cons_self ..)
        rw [List.flatMap_cons, List.map_cons, ih fun x hx => hL x (List.mem_cons_of_mem _ hx), e1 c hc]
        by_cases hw : c ∈ W
        · have hn : upc c ∉ W := fun z => h.one c hw (by rw [e1 c hc]; exact z)
          simp [hw, hn]
        · have hy : upc c ∈ W := (full c hc).resolve_left hw
          simp [hw, hy]
    exact this l fun c hc => hc
  · refine (rms_mem g hb _).mpr ⟨_, rfl, fun x y hxy ⟨v1, v2⟩ => ?_⟩
    obtain ⟨x', y', e, hx, hy, _⟩ := bar_two (hb _ hxy)
    cases e
    have vW : ∀ t ∈ sds l, val (fun c => decide (c ∈ W)) t = true → t ∈ W := fun t ht v => by
      rcases sds_shape g ht with z | z
      · rw [val_small ⟨z.1, z.2.1⟩] at v
        exact of_decide_eq_true v
      · unfold val at v
        rw [if_pos (by omega)] at v
        have hn : t + 32 ∉ W := by simpa using v
        have := (full (t + 32) z.2.2).resolve_left hn
        rw [upc_small (by omega), show t + 32 - 32 = t by omega] at this
        exact this
    exact h.one y (vW y hy v2) (h.adj x (vW x hx v1) _ ((adj_iff g hb (sds_lt g (sds_swp g hy))).mpr (.inl (by rw [swp_swp (sds_lt g hy)]; exact hxy))))
end
end NC
namespace NC
open PySem PySem.Spec PyProof.Rows L2
section
variable {l : List Nat} (g : GoodW l) {bs : List (List Nat)} (hb : ∀ b ∈ bs, isBar l b = true) {fo : Nat → List Nat} (hf : ∀ s ∈ sds l, ∀ t, t ∈ fo s ↔ Frc (adjOf bs) s t) (ok : Okv l bs)
include g hb hf ok
theorem torn_iff {P : List Nat} (hP : ∀ c ∈ P, c ∈ sds l) : tornL l (allFo fo P) = [] ↔ ∃ z ∈ rms l bs, ∀ s ∈ P, s ∈ z := by
  constructor
  · intro h
    have c0 : Clo l bs (allFo fo P) := ⟨fun t ht => allFo_sd g hb hf hP ht, fun t ht u hu => allFo_adj g hb hf hP ht hu, fun t ht h2 => by
      have hs := allFo_sd g hb hf hP ht
      have : ∃ c ∈ l, c ∈ allFo fo P ∧ swp c ∈ allFo fo P := by
        rcases sds_shape g hs with z | z
        · exact ⟨t, z.2.2, ht, h2⟩
        · refine ⟨t + 32, z.2.2, ?_, ?_⟩
          · rw [swp_great ⟨z.1, z.2.1⟩] at h2
            exact h2
          · rw [swp_small (by omega), show t + 32 - 32 = t by omega]
            exact ht
      obtain ⟨c, hc, h3, h4⟩ := this
      have : c ∈ tornL l (allFo fo P) := List.mem_filter.mpr ⟨hc, by rw [decide_eq_true h3, decide_eq_true h4]; rfl⟩
      rw [h] at this
      cases this⟩
    have self : ∀ t ∈ P, t ∈ allFo fo P := fun t ht => allFo_self g hb hf hP ht
    generalize allFo fo P = W0 at c0 self
    have cF := wS_clo g hb hf ok c0 l.length (Nat.le_refl _)
    have full : ∀ c ∈ l, c ∈ wS fo l W0 l.length ∨ upc c ∈ wS fo l W0 l.length := fun c hc => by
      obtain ⟨i, hi, rfl⟩ := List.getElem_of_mem hc
      exact (wS_full g hb hf ok hi).imp (wS_le hi) (wS_le hi)
    obtain ⟨eZ, hZ⟩ := clo_room g hb hf ok cF full
    refine ⟨_, hZ, fun s hs => ?_⟩
    rw [← eZ]
    exact (byWT_mem g).mpr ⟨hP s hs, wS_le (Nat.zero_le _) (self s hs)⟩
  · rintro ⟨z, hz, hin⟩
    exact torn_no g hb hf hP hz hin
theorem side_room {s : Nat} (hs : s ∈ sds l) : ∃ z ∈ rms l bs, s ∈ z := by
  have hP : ∀ c ∈ [s], c ∈ sds l := fun c hc => by rw [List.mem_singleton.mp hc]; exact hs
  obtain ⟨z, hz, h⟩ := (torn_iff g hb hf ok hP).mp (by
    unfold tornL
    rw [List.filter_eq_nil_iff]
    intro c hc h
    rw [Bool.and_eq_true, decide_eq_true_eq, decide_eq_true_eq] at h
    obtain ⟨a1, h1, f1⟩ := (allFo_mem g hb hf hP).mp h.1
    obtain ⟨a2, h2, f2⟩ := (allFo_mem g hb hf hP).mp h.2
    rw [List.mem_singleton.mp h1] at f1
    rw [List.mem_singleton.mp h2] at f2
    exact no_self g hb hf ok hs (Frc.torn g hb hs f1 f2))
  exact ⟨z, hz, h s (List.mem_singleton.mpr rfl)⟩
theorem room_filter {W q : List Nat} (hq : q ∈ rms l bs) (hW : ∀ t ∈ W, t ∈ q) : (q.filter fun t => decide (t ∈ W)) = byWT l W := by
  obtain ⟨p, rfl, sp⟩ := (rms_mem g hb q).mp hq
  have no : ∀ t ∈ sds l, t ∈ rmOf l p → swp t ∉ W := fun t ht h1 h2 => room_one g hb hf hq ht h1 (hW _ h2)
  have key : ∀ L : List Nat, (∀ c ∈ L, c ∈ l) → ((L.map fun c => if p c then c else upc c).filter fun t => decide (t ∈ W)) = L.flatMap fun c => [swp c, c].filter fun e => decide (e ∈ W) := fun L => by
    induction L with
    | nil => intro _; rfl
    | cons c r ih =>
      intro hL
      have hc := hL c (List.mem_cons_self ..)
      have sm := g.sm c hc
      have e1 : swp c = upc c := by rw [swp_small sm, upc_small sm]
      have e2 : swp (upc c) = c := by rw [upc_small sm, swp_great (by omega)]; omega
      have hg : upc c ∈ sds l := by rw [upc_small sm]; exact sds_of_great g hc
      rw [List.map_cons, List.filter_cons, List.flatMap_cons, ih fun x hx => hL x (List.mem_cons_of_mem _ hx), e1]
      have mem : (if p c then c else upc c) ∈ rmOf l p := List.mem_map.mpr ⟨c, hc, rfl⟩
      by_cases hp : p c = true
      · rw [if_pos hp] at mem ⊢
        have h3 := no c (sds_of_small hc) mem
        rw [e1] at h3
        by_cases h4 : c ∈ W <;> simp [h3, h4]
      · rw [if_neg hp] at mem ⊢
        have h3 := no _ hg mem
        rw [e2] at h3
        by_cases h4 : upc c ∈ W <;> simp [h3, h4]
  exact key l fun c hc => hc
end
end NC
namespace NC
open PySem PySem.Spec PyProof.Rows L2
def low (T : List Nat) : List Nat := T.map lwc
def keptL (l W : List Nat) : List Nat := l.filter fun c => decide (c ∈ W)
theorem kept_mem {l W : List Nat} {c : Nat} : c ∈ keptL l W ↔ c ∈ l ∧ c ∈ W := by
  unfold keptL
  rw [List.mem_filter, decide_eq_true_eq]
/-- a shut text is a part -/
theorem shut_part {l : List Nat} (g : GoodW l) {bs : List (List Nat)} (hb : ∀ b ∈ bs, isBar l b = true) {fo : Nat → List Nat} (hf : ∀ s ∈ sds l, ∀ t, t ∈ fo s ↔ Frc (adjOf bs) s t) (ok : Okv l bs) {P : List Nat} (hP : ∀ c ∈ P, c ∈ sds l) {q : List Nat} (hq : q ∈ rms l bs) (hin : ∀ s ∈ P, s ∈ q) : Part l (byWT l (allFo fo P)) := by
  rw [← room_filter g hb hf ok hq fun s hs => allFo_in g hb hf hP hq hin hs]
  have h1 : q.map lwc = l := by
    obtain ⟨p, rfl, _⟩ := (rms_mem g hb q).mp hq
    unfold rmOf
    rw [List.map_map]
    refine Eq.trans (List.map_congr_left fun c hc => ?_) (List.map_id l)
    have sm := g.sm c hc
    show lwc (if p c then c else upc c) = c
    split
    · unfold lwc; rw [if_neg (by omega)]
    · rw [upc_small sm]; unfold lwc; rw [if_pos (by omega)]; omega
  refine ⟨?_, fun c hc => ?_⟩
  · have := (List.filter_sublist (p := fun c => decide (c ∈ allFo fo P)) (l := q)).map lwc
    rw [h1] at this
    exact this
  · obtain ⟨p, rfl, _⟩ := (rms_mem g hb q).mp hq
    exact rm_asc g (List.mem_filter.mp hc).1
end NC
namespace NC
open PySem PySem.Spec PyProof.Rows L2
/-- the room behind the calls of these places -/
def runC (ts : List (List Nat)) : List Nat → List Nat → List Nat
  | [], r => r
  | k :: ks, r => runC ts ks (wov (ts.getD k []) r)
theorem wov_len (T r : List Nat) : (wov T r).length = r.length := by unfold wov; rw [List.length_map]
theorem wov_get {T r : List Nat} {i : Nat} (h : i < r.length) : (wov T r).getD i 0 = if swp (r.getD i 0) ∈ T then swp (r.getD i 0) else r.getD i 0 := by
  unfold wov
  rw [List.getD_eq_getElem?_getD, List.getElem?_map, List.getElem?_eq_getElem h, List.getD_eq_getElem?_getD, List.getElem?_eq_getElem h]
  rfl
/-- texts that lead rooms to rooms -/
structure Txs (l : List Nat) (bs ts : List (List Nat)) : Prop where
  part : ∀ T ∈ ts, Part l T
  room : ∀ k r, k < ts.length → r ∈ rms l bs → wov (ts.getD k []) r ∈ rms l bs
section
variable {l : List Nat} (g : GoodW l) {bs : List (List Nat)} {ts : List (List Nat)} (hT : Txs l bs ts) {goal : List Nat} (hg : goal ∈ rms l bs)
theorem rm_side {l : List Nat} (g : GoodW l) {bs : List (List Nat)} {r : List Nat} (hr : r ∈ rms l bs) {i : Nat} (hi : i < l.length) : lwc (r.getD i 0) = l.getD i 0 ∧ isLt (r.getD i 0) ∧ (r.getD i 0 = l.getD i 0 ∨ r.getD i 0 = swp (l.getD i 0)) := by
  have hm : r ∈ allT l l.length := by unfold rms at hr; exact (List.mem_filter.mp hr).1
  obtain ⟨p, rfl⟩ := (allT_mem g.nd (Nat.le_refl _) r).mp hm
  rw [List.take_length, rm_get hi]
  have sm := g.sm _ (List.getElem_mem hi)
  have e : l.getD i 0 = l[i] := by rw [List.getD_eq_getElem?_getD, List.getElem?_eq_getElem hi]; rfl
  rw [e]
  by_cases h : p l[i] = true
  · rw [if_pos h]
    exact ⟨by unfold lwc; rw [if_neg (by omega)], .inl sm, .inl rfl⟩
  · rw [if_neg h, upc_small sm]
    exact ⟨by unfold lwc; rw [if_pos (by omega)]; omega, .inr (by omega), .inr (by rw [swp_small sm])⟩
theorem rm_len' {l : List Nat} (g : GoodW l) {bs : List (List Nat)} {r : List Nat} (hr : r ∈ rms l bs) : r.length = l.length := by
  have hm : r ∈ allT l l.length := by unfold rms at hr; exact (List.mem_filter.mp hr).1
  exact allT_lens' l l.length r hm
theorem get_ext {l r q : List Nat} (h1 : r.length = l.length) (h2 : q.length = l.length) (h : ∀ i, i < l.length → r.getD i 0 = q.getD i 0) : r = q := by
  refine List.ext_getElem (by omega) fun i a b => ?_
  have := h i (by omega)
  rw [List.getD_eq_getElem?_getD, List.getD_eq_getElem?_getD, List.getElem?_eq_getElem a, List.getElem?_eq_getElem b] at this
  exact this
/-- two sides of one wall in a part are one -/
theorem part_one {l : List Nat} (g : GoodW l) {T : List Nat} (h : Part l T) {s t : Nat} (hs : s ∈ T) (ht : t ∈ T) (e : lwc s = lwc t) : s = t := by
  obtain ⟨i, hi, rfl⟩ := List.getElem_of_mem hs
  obtain ⟨j, hj, rfl⟩ := List.getElem_of_mem ht
  have pw := part_pw g h
  have nd : (T.map lwc).Nodup := pw.imp fun h => Nat.ne_of_lt h
  have : i = j := by
    have a1 : (T.map lwc)[i]? = some (lwc T[i]) := by rw [List.getElem?_map, List.getElem?_eq_getElem hi]; rfl
    have a2 : (T.map lwc)[j]? = some (lwc T[j]) := by rw [List.getElem?_map, List.getElem?_eq_getElem hj]; rfl
    exact (List.getElem?_inj (by rw [List.length_map]; exact hi) nd).mp (by rw [a1, a2, e])
  subst this
  rfl
include g hT
theorem run_room : ∀ ks, (∀ k ∈ ks, k < ts.length) → ∀ r, r ∈ rms l bs → runC ts ks r ∈ rms l bs := fun ks => by
  induction ks with
  | nil => exact fun _ r hr => hr
  | cons k ks ih => exact fun h r hr => ih (fun x hx => h x (List.mem_cons_of_mem _ hx)) _ (hT.room k r (h k (List.mem_cons_self ..)) hr)
end
end NC
namespace NC
open PySem PySem.Spec PyProof.Rows L2
/-- what a code does with a room: leave, or write one of the two sides -/
def app (l c r : List Nat) : List Nat := (List.range l.length).map fun i => if c.getD i 0 = 0 then r.getD i 0 else if c.getD i 0 = 1 then l.getD i 0 else swp (l.getD i 0)
theorem rg_get {n i : Nat} {f : Nat → Nat} (h : i < n) : ((List.range n).map f).getD i 0 = f i := by
  rw [List.getD_eq_getElem?_getD, List.getElem?_map, List.getElem?_range h]
  rfl
theorem app_get {l c r : List Nat} {i : Nat} (h : i < l.length) : (app l c r).getD i 0 = if c.getD i 0 = 0 then r.getD i 0 else if c.getD i 0 = 1 then l.getD i 0 else swp (l.getD i 0) := rg_get h
theorem app_len (l c r : List Nat) : (app l c r).length = l.length := by unfold app; rw [List.length_map, List.length_range]
def cod (l T : List Nat) : List Nat := (List.range l.length).map fun i => if l.getD i 0 ∈ T then 1 else if swp (l.getD i 0) ∈ T then 2 else 0
section
variable {l : List Nat} (g : GoodW l) {bs ts : List (List Nat)} (hT : Txs l bs ts)
include g
theorem wov_app {T : List Nat} (pT : Part l T) {r : List Nat} (hr : r ∈ rms l bs) : wov T r = app l (cod l T) r := by
  have rl := rm_len' g hr
  refine get_ext (l := l) (by rw [wov_len, rl]) (app_len ..) fun i hi => ?_
  rw [wov_get (by rw [rl]; exact hi), app_get hi]
  unfold cod
  rw [rg_get hi]
  obtain ⟨lr, ltr, side⟩ := rm_side g hr hi
  have sm : isLt (l.getD i 0) := by
    have e : l.getD i 0 = l[i] := by rw [List.getD_eq_getElem?_getD, List.getElem?_eq_getElem hi]; rfl
    rw [e]
    exact .inl (g.sm _ (List.getElem_mem hi))
  have no : ¬ (l.getD i 0 ∈ T ∧ swp (l.getD i 0) ∈ T) := fun ⟨a, b⟩ => by
    have e := part_one g pT a b (lwc_swp sm).symm
    rcases sm with s | s
    · rw [swp_small s] at e; omega
    · rw [swp_great s] at e; omega
  have ss : swp (swp (l.getD i 0)) = l.getD i 0 := by
    rcases sm with s | s
    · rw [swp_small s, swp_great (by omega)]; omega
    · rw [swp_great s, swp_small (by omega)]; omega
  generalize r.getD i 0 = q at side
  generalize l.getD i 0 = c at no ss side
  clear lr ltr sm
  rcases side with e | e
  · rw [e]
    by_cases a : c ∈ T
    · have b : swp c ∉ T := fun b => no ⟨a, b⟩
      simp [a, b]
    · by_cases b : swp c ∈ T <;> simp [a, b]
  · rw [e, ss]
    by_cases a : c ∈ T
    · simp [a]
    · by_cases b : swp c ∈ T <;> simp [a, b]
include hT
end
end NC
namespace NC
open PySem PySem.Spec PyProof.Rows L2
theorem first_none {l : List Nat} {bs : List (List Nat)} (h : firstBad l bs = none) : ∀ b ∈ bs, isBar l b = true := fun b hb => by
  obtain ⟨i, hi⟩ := List.getElem?_of_mem hb
  have hl := (List.getElem?_eq_some_iff.mp hi).1
  have q := List.find?_eq_none.mp h i (by simpa using hl)
  unfold badAt at q
  rw [List.getD_eq_getElem?_getD, hi] at q
  simp at q
  exact q.1
/-- all that a hall's making asks for in the text -/
structure Txt8 (K : PySem.W.Frag) (mg : Str → Option Value) (tw : Tok) (fOther fSides fByW fIsW fIsB fCW fCB fCS fSt fRe fAF fCF fCA : Addr) (dOther dSides dByW dIsW dIsB dCW dCB dCS dSt dRe dAF dCF dCA : FuncData)
    (CH iH CB iB CF iF CA iA : Addr) (eH eB eF eA : FuncData) : Prop where
  B : BM mg
  mW : mg "WIDEST" = some (.int 12 tw)
  O : DF K mg "other" sOther ["side"] fOther dOther
  S : DF K mg "sides_of" sSides ["walls"] fSides dSides
  Y : DF K mg "by_walls" sByWalls ["walls", "sides"] fByW dByW
  W : DF K mg "is_walls" sIsWalls ["walls"] fIsW dIsW
  I : DF K mg "is_bar" sIsBar ["walls", "bar"] fIsB dIsB
  cw : DF K mg "check_walls" sChkWalls ["walls"] fCW dCW
  cb : DF K mg "check_bars" sChkBars ["walls", "bars"] fCB dCB
  cs : DF K mg "check_side" sChkSide ["walls", "side"] fCS dCS
  st : DF K mg "straight_from" sStraight ["walls", "bars"] fSt dSt
  re : DF K mg "reached" sReached ["straight", "one"] fRe dRe
  af : DF K mg "all_forced" sAllF ["walls", "bars"] fAF dAF
  cf : DF K mg "check_fixed" sChkFix ["forced_by"] fCF dCF
  ca : DF K mg "check_alike" sChkAl ["forced_by"] fCA dCA
  he : HE K mg CH iH eH
  xb : XC K mg "BadBar" "BadBar.__init__" sBBinit "at" CB iB eB
  xf : XC K mg "Fixed" "Fixed.__init__" sFXinit "side" CF iF eF
  xa : XC2 K mg CA iA eA
end NC
namespace NC
open PySem PySem.Spec PyProof.Rows L2
abbrev sHinit : Stmt := inClass (topS 26) 0
abbrev sHbars : Stmt := inClass (topS 26) 2
theorem scHinit : FnScope ["self", "walls", "bars", "forced_by"] ["self", "walls", "bars"] (defScope sHinit) := ⟨rfl, rfl, rfl, by decide +kernel, rfl, by decide +kernel, by decide +kernel⟩
/-- the class Hall -/
structure HC (K : PySem.W.Frag) (mg : Str → Option Value) (C fi fb : Addr) (di db : FuncData) : Prop where
  gC : mg "Hall" = some (.ref C)
  cl : Cls K C
  mks : Mk K C fi
  F : ∃ dvs, FunD K "__init__" "Hall.__init__" (defArgs sHinit) (defBody sHinit) (defScope sHinit) dvs [] fi di
  b : Binds K di ["self", "walls", "bars"] []
  n1 : NoAttr K C "wall_text"
  n2 : NoAttr K C "bar_list"
  n3 : NoAttr K C "forced_by"
  mb : Meth K C "bars" fb
  Fb : Fun K "bars" "Hall.bars" sHbars fb db
  bb : Binds K db ["self"] []
/-- all but x stays -/
def SmX (x : Addr) (H H' : Hp) : Prop := ∀ b o, b ≠ x → H b = some o → H' b = some o
/-- a hall at x of the walls l, its bars' list at sb -/
structure HallAt (C : Addr) (H : Hp) (x dx sb D : Addr) (l : List Nat) (ys : List Str) (fo : Nat → List Nat) : Prop where
  x : H x = some (.ins C dx [("wall_text", .str (tx l)), ("bar_list", .ref sb), ("forced_by", .ref D)])
  sb : H sb = some (.lst (ys.map V.str))
  D : H D = some (.dK (foK (sds l) fo))
section
variable {P : Program} {w : World} {K : PySem.W.Frag} {mg : Str → Option Value} {base : Heap} {tw : Tok} {fOther fSides fByW fIsW fIsB fCW fCB fCS fSt fRe fAF fCF fCA : Addr} {dOther dSides dByW dIsW dIsB dCW dCB dCS dSt dRe dAF dCF dCA : FuncData}
    {CH iH CB iB CF iF CA iA : Addr} {eH eB eF eA : FuncData} {C fi fb : Addr} {di db : FuncData}
def spHinit (K : PySem.W.Frag) (C CB CF CA : Addr) : Sp := fun vs H Q E => ∃ x dx l a bs, vs = [.ref x, .str (tx l), .ref a] ∧ H x = some (.ins C dx []) ∧ GoodW l ∧ BarsOk bs ∧ bs.length < 64 ∧ SqL K H a ((bs.map tx).map V.str) ∧
  match firstBad l bs with
  | some i => ∀ H' d, Same H H' → H d = none → H' d = some (.xd [("at", .int (i : Nat)), ("word", .str "badbar")]) → E (.ref CB) (some d) H'
  | none => ∀ fo, FoOk l (adjOf bs) (sds l) fo → match vdOf (sds l) (fxP fo) (alP fo) with
    | .fixed s => ∀ H' d, Same H H' → H d = none → H' d = some (.xd [("side", .str (sg s)), ("word", .str "fixed")]) → E (.ref CF) (some d) H'
    | .alike s m => ∀ H' d, Same H H' → H d = none → H' d = some (.xd [("other", .str (sg m)), ("one", .str (sg s)), ("word", .str "alike")]) → E (.ref CA) (some d) H'
    | .ok => ∀ H' sb D ys, SmX x H H' → H sb = none → H D = none → HallAt C H' x dx sb D l ys fo → ys.Perm (bs.map tx) → sortedS ys = true → Q .non H'
set_option maxHeartbeats 1000000 in
theorem ok_Hinit {k : Nat} (Z : HC K mg C fi fb di db) (T : Txt8 K mg tw fOther fSides fByW fIsW fIsB fCW fCB fCS fSt fRe fAF fCF fCA dOther dSides dByW dIsW dIsB dCW dCB dCS dSt dRe dAF dCF dCA CH iH CB iB CF iF CA iA eH eB eF eA) :
    FnOk P w K mg base (L2.CX P w) (k + 5) fi di ["self", "walls", "bars"] (spHinit K C CB CF CA) := by
  have GW := ok_chkWalls (P := P) (w := w) (base := base) (k := k) T.B T.mW T.cw.F T.W
  have GB : FnOk P w K mg base (L2.CX P w) (k + 4) fCB dCB ["walls", "bars"] (spChkBars K CB) := ok_chkBars T.B T.cb.F T.I T.S T.he T.xb
  have GA : FnOk P w K mg base CX0 (k + 3) fAF dAF ["walls", "bars"] (spAllF K) := ok_allF T.B T.af.F T.st T.re T.Y T.S T.O
  have GF : FnOk P w K mg base (L2.CX P w) (k + 4) fCF dCF ["forced_by"] (spChkFix CF) := ok_chkFix T.B T.cf.F T.O T.he T.xf
  have GL : FnOk P w K mg base (L2.CX P w) (k + 4) fCA dCA ["forced_by"] (spChkAl CA) := ok_chkAl T.B T.ca.F T.he T.xa
  obtain ⟨dvs, ZF⟩ := Z.F
  refine ZF.ok scHinit (fun vs H Q E h => ?_) (fun cdv A outer s H vs Q E hr h => ?_)
  · obtain ⟨x, dx, l, a, bs, rfl, _⟩ := h
    rfl
  · obtain ⟨x, dx, l, a, bs, rfl, hx, g, hbs, hbl, hS, q⟩ := h
    have r2 : Room (k + 2) _ := hr.mono (by omega)
    have r3 : Room (k + 3) _ := hr.mono (by omega)
    refine ⟨_, pss_cons (ps_expr (pe_call GW r2 rfl T.cw.g T.cw.F.kp T.cw.b .nil pass0 (pa_cons (pv 1) pa_nil)))
      (pss_cons (ps_expr (pe_call (E := E) GB hr rfl T.cb.g T.cb.F.kp T.cb.b .nil (passes_call (takes_of rfl rfl rfl rfl) (fun _ _ _ _ h => h)) (pa_cons (pv 1) (pa_cons (pv 2) pa_nil))))
      (pss_cons (ps_set (i := 3) scHinit.nd rfl (.inl rfl) (pe_call GA r3 rfl T.af.g T.af.F.kp T.af.b .nil pass0 (pa_cons (pv 1) (pa_cons (pv 2) pa_nil))))
      (pss_cons (ps_expr (pe_call (E := E) GF hr rfl T.cf.g T.cf.F.kp T.cf.b .nil (passes_call (takes_of rfl rfl rfl rfl) (fun _ _ _ _ h => h)) (pa_cons (pv 3) pa_nil)))
      (pss_cons (ps_expr (pe_call (E := E) GL hr rfl T.ca.g T.ca.F.kp T.ca.b .nil (passes_call (takes_of rfl rfl rfl rfl) (fun _ _ _ _ h => h)) (pa_cons (pv 3) pa_nil)))
      (pss_cons (ps_fld (pv 0) (pv 1) rfl)
      (pss_cons (ps_fld (pv 0) (pe_callB cr_sortedS (by rfl) T.B.sorted (by decide +kernel) (pa_cons (pv 2) pa_nil)) rfl)
      (pss_one (ps_fld (pv 0) (pv 3) rfl)))))))), ?_⟩
    refine ⟨_, rfl, l, rfl, g, fun H1 s1 => ⟨_, rfl, _, rfl, l, a, bs, rfl, g, hbs, by omega, .inl (sm_l s1 hS), ?_⟩⟩
    cases fbd : firstBad l bs with
    | some i =>
      rw [fbd] at q
      intro H' d sm nd e
      exact q H' d (sm_trans s1 sm) (L2.Same.free s1 nd) e
    | none =>
      rw [fbd] at q
      have hbar := first_none fbd
      intro H2 s2
      have s12 := sm_trans s1 s2
      refine ⟨_, rfl, _, rfl, l, a, bs, rfl, g, hbar, by omega, .inl (sm_l s12 hS), fun H3 D fo s3 nD eD ok => ?_⟩
      have s13 := sm_trans s12 s3
      have q := q fo ok
      unfold vdOf at q
      refine ⟨_, rfl, l, D, adjOf bs, fo, rfl, g, eD, ok, ?_⟩
      cases h1 : (sds l).find? (fxP fo) with
      | some s0 =>
        rw [h1] at q
        exact fun H' d sm nd e => q H' d (sm_trans s13 sm) (L2.Same.free s13 nd) e
      | none =>
      rw [h1] at q
      intro H4 s4
      have s14 := sm_trans s13 s4
      refine ⟨_, rfl, l, D, adjOf bs, fo, rfl, g, s4 _ _ eD, ok, ?_⟩
      cases h2 : (sds l).findSome? fun s => ((sds l).find? (alP fo s)).map fun t => (s, t) with
      | some v =>
        rw [h2] at q
        exact fun H' d sm nd e => q H' d (sm_trans s14 sm) (L2.Same.free s14 nd) e
      | none =>
      rw [h2] at q
      intro H5 s5
      have s15 := sm_trans s14 s5
      have nxa : ∀ o, Same H H5 → SqL K (upd H5 x o) a ((bs.map tx).map V.str) := fun o sm => by
        have hS5 := sm_l sm hS
        rcases hS5 with (z | ⟨ob, z⟩) | z
        · exact .inl (.inl (by rw [upd_ne (ne_of z (sm _ _ hx) fun e => by cases e)]; exact z))
        · exact .inl (.inr ⟨ob, by rw [upd_ne (ne_of z (sm _ _ hx) fun e => by cases e)]; exact z⟩)
        · exact .inr z
      refine ⟨_, rfl, _, rfl, x, C, dx, _, rfl, s15 _ _ hx, Z.cl, Z.n1, by decide, ?_⟩
      refine ⟨_, rfl, a, bs.map tx, rfl, nxa _ s15, by rw [List.length_map]; exact hbl, fun ys p hp hs np => ?_⟩
      have npx : x ≠ p := ne_of_none upd_same np
      refine ⟨_, rfl, x, C, dx, _, rfl, by rw [upd_ne npx, upd_same], Z.cl, Z.n2, by show 1 < 1000; decide, ?_⟩
      refine ⟨_, rfl, _, rfl, x, C, dx, _, rfl, upd_same, Z.cl, Z.n3, by show 2 < 1000; decide, ?_⟩
      have np5 : H5 p = none := by
        rw [upd_ne (Ne.symm npx)] at np
        exact np
      have eD5 : H5 D = some (.dK (foK (sds l) fo)) := s5 _ _ (s4 _ _ eD)
      have nDx : D ≠ x := ne_of eD5 (s15 _ _ hx) fun z => by cases z
      have nDp : D ≠ p := ne_of_none eD5 np5
      refine q _ p D ys (fun b o hb e => ?_) (L2.Same.free s15 np5) (L2.Same.free s12 nD) ⟨upd_same, ?_, by rw [upd_ne nDx, upd_ne nDx, upd_ne nDp, upd_ne nDx]; exact eD5⟩ hp hs
      · have e5 := s15 _ _ e
        rw [upd_ne hb, upd_ne hb, upd_ne (ne_of_none e5 np5), upd_ne hb]
        exact e5
      · rw [upd_ne (Ne.symm npx), upd_ne (Ne.symm npx), upd_same]
end
end NC
namespace NC
open PySem PySem.Spec PyProof.Rows L2
theorem str00 : (Str.ofString "") = tx [] := by decide +kernel
theorem HallAt.same {C : Addr} {H H' : Hp} {x dx sb D : Addr} {l : List Nat} {ys : List Str} {fo : Nat → List Nat} (h : HallAt C H x dx sb D l ys fo) (s : Same H H') : HallAt C H' x dx sb D l ys fo := ⟨s _ _ h.x, s _ _ h.sb, s _ _ h.D⟩
/-- a text is a room of the walls when it is one but for what is great -/
theorem room_low {l : List Nat} (g : GoodW l) (r : List Nat) : r ∈ allT l l.length ↔ r.map lwc = l := by
  have lw1 : ∀ {c : Nat}, c ∈ l → lwc c = c := fun {c} hc => by
    have := g.sm c hc
    unfold lwc
    rw [if_neg (by omega)]
  have lw2 : ∀ {c : Nat}, c ∈ l → lwc (upc c) = c := fun {c} hc => by
    have := g.sm c hc
    rw [upc_small this]
    unfold lwc
    rw [if_pos (by omega)]
    omega
  rw [allT_mem g.nd (Nat.le_refl _) r, List.take_length]
  constructor
  · rintro ⟨p, rfl⟩
    unfold rmOf
    rw [List.map_map]
    refine Eq.trans (List.map_congr_left fun c hc => ?_) (List.map_id l)
    show lwc (if p c then c else upc c) = c
    by_cases h : p c = true
    · rw [if_pos h]; exact lw1 hc
    · rw [if_neg h]; exact lw2 hc
  · intro h
    refine ⟨fun c => decide (c ∈ r), ?_⟩
    have hl : r.length = l.length := by rw [← h, List.length_map]
    refine List.ext_getElem (by unfold rmOf; rw [List.length_map]; exact hl) fun i h1 h2 => ?_
    have hil : i < l.length := by omega
    have ei : lwc r[i] = l[i] := by
      have : (r.map lwc)[i]'(by rw [List.length_map]; exact h1) = l[i] := by simp only [h]
      rw [List.getElem_map] at this
      exact this
    have hm : l[i] ∈ l := List.getElem_mem hil
    have sm := g.sm _ hm
    have eR : (rmOf l fun c => decide (c ∈ r))[i]'h2 = if decide (l[i] ∈ r) = true then l[i] else upc l[i] := by simp only [rmOf, List.getElem_map]
    rw [eR]
    by_cases hin : l[i] ∈ r
    · rw [if_pos (decide_eq_true hin)]
      obtain ⟨j, hj, ej⟩ := List.getElem_of_mem hin
      have ejl : lwc r[j] = l[j]'(by omega) := by
        have : (r.map lwc)[j]'(by rw [List.length_map]; exact hj) = l[j]'(by omega) := by simp only [h]
        rw [List.getElem_map] at this
        exact this
      rw [ej, lw1 hm] at ejl
      have : i = j := (List.getElem?_inj hil g.nd).mp (by rw [List.getElem?_eq_getElem hil, List.getElem?_eq_getElem (show j < l.length by omega), ejl])
      subst this
      exact ej
    · rw [if_neg (fun z => hin (of_decide_eq_true z)), upc_small sm]
      unfold lwc at ei
      by_cases hh : 65 ≤ r[i] ∧ r[i] ≤ 90
      · rw [if_pos hh] at ei
        omega
      · rw [if_neg hh] at ei
        exact absurd (by rw [← ei]; exact List.getElem_mem h1) hin
def rSgn2 : R2 := fun x y H Q => ∃ (c : Nat) (z : Str), x = .str ⟨#[c]⟩ ∧ y = .str z ∧ Q (.bl (decide (c ∈ z.cps.toList))) H
end NC
namespace NC
open PySem PySem.Spec PyProof.Rows L2
def AtES (x : Str) (t : Tok) (e it : Addr) (i : Nat) (h : Heap) : Prop := (∃ last, IsEnum h e it ((i : Nat) : Int) last) ∧ h.IsStrIter it (strIterType x) x t i ∧ e ≠ it ∧ i ≤ x.cps.size
theorem AtES.olds {x : Str} {t : Tok} {e it : Addr} {i : Nat} {h : Heap} (st : AtES x t e it i h) {b : Addr} (m : b ∈ [e, it]) : b < h.objs.size := by
  obtain ⟨⟨_, g1⟩, ⟨o2, g2, _⟩, _⟩ := st
  rcases List.mem_cons.mp m with rfl | m
  · exact Heap.lt_size g1
  · exact (List.mem_singleton.mp m) ▸ Heap.lt_size g2
def AtZS (x y : Str) (t1 t2 : Tok) (z TI TO i1 i2 : Addr) (i : Nat) (h : Heap) : Prop := IsZip h z TI TO .none ∧ IsTupOf2 h TI (.ref i1) (.ref i2) ∧ (∃ a b, IsTupOf2 h TO a b) ∧ h.IsStrIter i1 (strIterType x) x t1 i ∧ h.IsStrIter i2 (strIterType y) y t2 i ∧ i ≤ x.cps.size ∧ i ≤ y.cps.size
theorem AtZS.olds {x y : Str} {t1 t2 : Tok} {z TI TO i1 i2 : Addr} {i : Nat} {h : Heap} (st : AtZS x y t1 t2 z TI TO i1 i2 i h) : ∀ b ∈ [z, TI, TO, i1, i2], ∃ o, h.get? b = some o ∧ ∀ v, o.data ≠ .cell v := by
  obtain ⟨hz, hI, ⟨a, b, hO⟩, ⟨o1, e1, _, d1⟩, ⟨o2, e2, _, d2⟩, _⟩ := st
  simp only [List.mem_cons, List.not_mem_nil, or_false, forall_eq_or_imp, forall_eq]
  exact ⟨⟨_, hz, nofun⟩, ⟨_, hI, nofun⟩, ⟨_, hO, nofun⟩, ⟨o1, e1, fun v q => nomatch d1.symm.trans q⟩, ⟨o2, e2, fun v q => nomatch d2.symm.trans q⟩⟩
/-- a statement that is never come to -/
theorem ps_dead {X : Cx} {st : Stmt} : PS X st (fun _ _ _ => False) := ⟨fun _ _ _ _ _ _ h => h.elim⟩
end NC
namespace NC
open PySem PySem.Spec PyProof.Rows L2
/-- a hall that was let by, at x -/
structure HallG (C : Addr) (H : Hp) (x dx sb D : Addr) (l : List Nat) (ys : List Str) (fo : Nat → List Nat) (bs : List (List Nat)) : Prop where
  hA : HallAt C H x dx sb D l ys fo
  g : GoodW l
  bar : ∀ b ∈ bs, isBar l b = true
  perm : ys.Perm (bs.map tx)
  len : bs.length ≤ 64
  ok : Okv l bs
theorem HallG.same {C : Addr} {H H' : Hp} {x dx sb D : Addr} {l : List Nat} {ys : List Str} {fo : Nat → List Nat} {bs : List (List Nat)} (h : HallG C H x dx sb D l ys fo bs) (s : Same H H') : HallG C H' x dx sb D l ys fo bs := ⟨h.hA.same s, h.g, h.bar, h.perm, h.len, h.ok⟩
theorem rms_lets {l : List Nat} (g : GoodW l) {bs : List (List Nat)} : ∀ r ∈ rms l bs, r.length = l.length ∧ ∀ c ∈ r, isLt c := fun r hr => by
  have hm : r ∈ allT l l.length := by
    unfold rms at hr
    exact (List.mem_filter.mp hr).1
  obtain ⟨p, rfl⟩ := (allT_mem g.nd (Nat.le_refl _) r).mp hm
  rw [List.take_length]
  exact ⟨rm_len l p, fun c hc => sds_lt g (rm_asc g hc)⟩
theorem get_of {r : List Nat} {i c : Nat} (h : r[i]? = some c) : r.getD i 0 = c := by rw [List.getD_eq_getElem?_getD, h]; rfl
end NC
namespace NC
open PySem PySem.Spec PyProof.Rows L2
abbrev sHwalls : Stmt := inClass (topS 26) 1
abbrev sHforced : Stmt := inClass (topS 26) 3
abbrev sIsPart : Stmt := topS 28
abbrev sChkPart : Stmt := topS 29
abbrev sAllFB : Stmt := topS 30
abbrev sTorn : Stmt := topS 31
theorem scHwalls : FnScope ["self"] ["self"] (defScope sHwalls) := ⟨rfl, rfl, rfl, by decide +kernel, rfl, by decide +kernel, by decide +kernel⟩
theorem scHforced : FnScope ["self", "side"] ["self", "side"] (defScope sHforced) := ⟨rfl, rfl, rfl, by decide +kernel, rfl, by decide +kernel, by decide +kernel⟩
abbrev nIsPart : List Str := ["hall", "part", "walls", "ahead", "wall"]
theorem scIsPart : FnScope nIsPart ["hall", "part"] (defScope sIsPart) := ⟨rfl, rfl, rfl, by decide +kernel, rfl, by decide +kernel, by decide +kernel⟩
theorem scChkPart : FnScope ["hall", "part"] ["hall", "part"] (defScope sChkPart) := ⟨rfl, rfl, rfl, by decide +kernel, rfl, by decide +kernel, by decide +kernel⟩
theorem scAllFB : FnScope ["hall", "part", "side"] ["hall", "part"] (defScope sAllFB) := ⟨rfl, rfl, rfl, by decide +kernel, rfl, by decide +kernel, by decide +kernel⟩
theorem scTorn : FnScope ["hall", "part", "sides", "wall"] ["hall", "part"] (defScope sTorn) := ⟨rfl, rfl, rfl, by decide +kernel, rfl, by decide +kernel, by decide +kernel⟩
structure HP (K : PySem.W.Frag) (C fw ff : Addr) (dw df : FuncData) : Prop where
  mw : Meth K C "walls" fw
  Fw : Fun K "walls" "Hall.walls" sHwalls fw dw
  bw : Binds K dw ["self"] []
  mf : Meth K C "forced" ff
  Ff : Fun K "forced" "Hall.forced" sHforced ff df
  bf : Binds K df ["self", "side"] []
/-- a hall of which it is known what its sides force -/
structure HallF (C : Addr) (H : Hp) (x dx sb D : Addr) (l : List Nat) (ys : List Str) (fo : Nat → List Nat) (bs : List (List Nat)) : Prop where
  G : HallG C H x dx sb D l ys fo bs
  hf : ∀ s ∈ sds l, ∀ t, t ∈ fo s ↔ Frc (adjOf bs) s t
  fl : ∀ s ∈ sds l, (fo s).length ≤ 24
theorem HallF.same {C : Addr} {H H' : Hp} {x dx sb D : Addr} {l : List Nat} {ys : List Str} {fo : Nat → List Nat} {bs : List (List Nat)} (h : HallF C H x dx sb D l ys fo bs) (s : Same H H') : HallF C H' x dx sb D l ys fo bs := ⟨h.G.same s, h.hf, h.fl⟩
theorem allFo_len {l : List Nat} {fo : Nat → List Nat} (fl : ∀ s ∈ sds l, (fo s).length ≤ 24) : ∀ {P : List Nat}, (∀ c ∈ P, c ∈ sds l) → (allFo fo P).length ≤ 24 * P.length
  | [], _ => by simp [allFo]
  | x :: r, h => by
    have e : allFo fo (x :: r) = fo x ++ allFo fo r := by simp [allFo]
    have h1 := fl x (h x (List.mem_cons_self ..))
    have h2 := allFo_len fl (P := r) fun c hc => h c (List.mem_cons_of_mem _ hc)
    rw [e, List.length_append, List.length_cons]
    omega
theorem sum_txs (xs : List (List Nat)) : ((xs.map tx).map (·.length)).sum = xs.flatten.length := by
  induction xs with
  | nil => rfl
  | cons x r ih => rw [List.map_cons, List.map_cons, List.sum_cons, ih, List.flatten_cons, List.length_append, tx_len]
theorem sum_sgs (xs : List Nat) : ((xs.map sg).map (·.length)).sum = xs.length := by
  induction xs with
  | nil => rfl
  | cons x r ih =>
    rw [List.map_cons, List.map_cons, List.sum_cons, ih, List.length_cons]
    show 1 + r.length = _
    omega
section
variable {P : Program} {w : World} {K : PySem.W.Frag} {mg : Str → Option Value} {base : Heap} {C fi fb fm fr fg fw ff : Addr} {di db dm dr dg dw df : FuncData}
def spHwalls (C : Addr) : Sp := fun vs H Q _ => ∃ x dx sb D l ys fo, vs = [.ref x] ∧ HallAt C H x dx sb D l ys fo ∧ Q (.str (tx l)) H
theorem ok_Hwalls {k : Nat} (Z : HC K mg C fi fb di db) (Y : HP K C fw ff dw df) : FnOk P w K mg base CX0 (k + 1) fw dw ["self"] (spHwalls C) := by
  refine Y.Fw.ok scHwalls (fun vs H Q E h => ?_) (fun cdv A outer st H vs Q E hr h => ?_)
  · obtain ⟨x, dx, sb, D, l, ys, fo, rfl, _⟩ := h
    rfl
  · obtain ⟨x, dx, sb, D, l, ys, fo, rfl, hA, q⟩ := h
    refine ⟨_, pss_one (ps_ret (pe_fld (pv 0) rfl)), ?_⟩
    exact ⟨_, rfl, x, C, dx, _, .str (tx l), rfl, hA.x, Z.cl, Z.n1, rfl, q⟩
def spHforced (C : Addr) : Sp := fun vs H Q _ => ∃ x dx sb D l ys fo s, vs = [.ref x, .str (sg s)] ∧ HallAt C H x dx sb D l ys fo ∧ GoodW l ∧ s ∈ sds l ∧ ∀ H', Same H H' → Q (.str (tx (fo s))) H'
theorem ok_Hforced {fC fS : Addr} {dC dS : FuncData} {k : Nat} (B : BM mg) (Z : HC K mg C fi fb di db) (Y : HP K C fw ff dw df) (Cs : DF K mg "check_side" sChkSide ["walls", "side"] fC dC) (S : DF K mg "sides_of" sSides ["walls"] fS dS) : FnOk P w K mg base CX0 (k + 3) ff df ["self", "side"] (spHforced C) := by
  have GS := ok_chkSide (P := P) (w := w) (base := base) (k := k) B Cs.F S
  refine Y.Ff.ok scHforced (fun vs H Q E h => ?_) (fun cdv A outer st H vs Q E hr h => ?_)
  · obtain ⟨x, dx, sb, D, l, ys, fo, s, rfl, _⟩ := h
    rfl
  · obtain ⟨x, dx, sb, D, l, ys, fo, s, rfl, hA, g, hs, q⟩ := h
    refine ⟨_, pss_cons (ps_expr (pe_call GS hr rfl Cs.g Cs.F.kp Cs.b .nil pass0 (pa_cons (pe_fld (pv 0) rfl) (pa_cons (pv 1) pa_nil)))) (pss_one (ps_ret (pe_dget (hu_of hr) (pe_fld (pv 0) rfl) (pv 1) (fun _ _ => rfl)))), ?_⟩
    refine ⟨_, rfl, x, C, dx, _, .str (tx l), rfl, hA.x, Z.cl, Z.n1, rfl, _, rfl, l, s, rfl, g, hs, fun H1 s1 => ?_⟩
    have hA1 := hA.same s1
    exact ⟨_, rfl, x, C, dx, _, .ref D, rfl, hA1.x, Z.cl, Z.n3, rfl, _, rfl, D, _, rfl, foK_get hA1.D hs, q H1 s1⟩
def spIsPart (C : Addr) : Sp := fun vs H Q _ => ∃ x dx sb D l ys fo P, vs = [.ref x, .str (tx P)] ∧ HallAt C H x dx sb D l ys fo ∧ GoodW l ∧ Part l P ∧ ∀ H', Same H H' → Q (.bl true) H'
set_option maxHeartbeats 1000000 in
theorem ok_isPart {f : Addr} {fd : FuncData} {k : Nat} (Z : HC K mg C fi fb di db) (Y : HP K C fw ff dw df) (F : Fun K "is_part" "is_part" sIsPart f fd) : FnOk P w K mg base CX0 (k + 2) f fd ["hall", "part"] (spIsPart C) := by
  have GW : FnOk P w K mg base CX0 (k + 1) fw dw ["self"] (spHwalls C) := ok_Hwalls Z Y
  refine F.ok scIsPart (fun vs H Q E h => ?_) (fun cdv A outer st H vs Q E hr h => ?_)
  · obtain ⟨x, dx, sb, D, l, ys, fo, P, rfl, _⟩ := h
    rfl
  · obtain ⟨x, dx, sb, D, l, ys, fo, P, rfl, hA, g, hP, q⟩ := h
    have nd := scIsPart.nd
    have hl12 := g.hi
    refine ⟨_, pss_cons (ps_set (i := 2) nd rfl (.inl rfl) (pe_meth0 (pv 0) Z.cl Y.mw GW hr Y.bw .nil pass0))
      (pss_cons (ps_set (i := 3) nd rfl (.inl rfl) pe_str)
      (pss_cons (ps_for PassesOwn.never rfl (pi_str (pe_lower (pv 1))) (pg_name (i := 4) nd rfl (.inl rfl))
        (pss_cons (ps_if (PW.pt (pw_or (pt_cmpR op_notIn_sign (pv 4) (pv 2) (by rfl)) (pw_or1 (pt_cmpR op_le_str (pv 4) (pv 3) (nomark _))))) (pss_one (ps_ret pe_bl)) pss_nil)
        (pss_one (ps_set (i := 3) nd rfl (.inl rfl) (pv 4)))))
      (pss_one (ps_ret pe_bl)))), ?_⟩
    refine ⟨_, rfl, x, dx, _, rfl, hA.x, rfl, x, dx, sb, D, l, ys, fo, rfl, hA, ?_⟩
    have pa : ∀ c ∈ P, c < 128 := fun c hc => sds_asc g (hP.sd c hc)
    have pl := hP.len
    refine ⟨_, rfl, ⟨_, rfl⟩, _, rfl, rfl, by show P.toArray.size ≤ 5592405; rw [List.size_toArray]; omega, ?_⟩
    rw [lower_tx pa]
    refine ⟨_, rfl, ?_⟩
    have lz : (tx (P.map lwc)).cps.size = P.length := by rw [show (tx (P.map lwc)).cps.size = (P.map lwc).length from tx_len _, List.length_map]
    have wk := walk_str (z := tx (P.map lwc))
    rw [lz] at wk
    have pw := part_pw g hP
    have sub := hP.sub
    generalize hS : P.map lwc = S at *
    have sl : S.length = P.length := by rw [← hS, List.length_map]
    refine for_it wk (fun i σ H' => ∃ (a : List Nat) (y4 : Option V), σ = [some (.ref x), some (.str (tx P)), some (.str (tx l)), some (.str (tx a)), y4] ∧ Same H H' ∧ ∀ c, S[i]? = some c → a < [c]) ⟨[], _, by rw [str00]; rfl, L2.Same.refl _, fun c _ => by simp⟩ (fun _ _ _ _ _ => trivial) ?_ ?_
    · rintro i v σ H1 H2 hi ⟨a, y4, rfl, s1, ha⟩ ⟨rfl, c, hc, rfl⟩
      have hc : S[i]? = some c := by
        rw [← Array.getElem?_toList, tx_list] at hc
        exact hc
      have cl : c ∈ l := sub.subset (List.mem_of_getElem? hc)
      refine ⟨_, rfl, _, rfl, c, tx l, rfl, rfl, _, rfl, ?_⟩
      rw [tx_list, decide_eq_true cl]
      refine iteF ⟨_, rfl, _, rfl, _, _, rfl, rfl, _, rfl, ?_⟩
      rw [show (⟨#[c]⟩ : Str).cps.toList = [c] from rfl, tx_list, decide_eq_true (ha c hc)]
      refine iteF ⟨_, rfl, [c], _, rfl, s1, fun e he => ?_⟩
      rw [lt1]
      have hi1 := (List.getElem?_eq_some_iff.mp hc)
      have hi2 := (List.getElem?_eq_some_iff.mp he)
      have := List.pairwise_iff_getElem.mp pw i (i + 1) hi1.1 hi2.1 (by omega)
      rw [hi1.2, hi2.2] at this
      exact this
    · rintro σ H1 ⟨a, y4, rfl, s1, ha⟩
      exact q H1 s1
def spChkPart (C : Addr) : Sp := fun vs H Q _ => ∃ x dx sb D l ys fo P, vs = [.ref x, .str (tx P)] ∧ HallAt C H x dx sb D l ys fo ∧ GoodW l ∧ Part l P ∧ ∀ H', Same H H' → Q .non H'
theorem ok_chkPart {f fI : Addr} {fd dI : FuncData} {k : Nat} (Z : HC K mg C fi fb di db) (Y : HP K C fw ff dw df) (F : Fun K "check_part" "check_part" sChkPart f fd) (I : DF K mg "is_part" sIsPart ["hall", "part"] fI dI) : FnOk P w K mg base CX0 (k + 3) f fd ["hall", "part"] (spChkPart C) := by
  have GI : FnOk P w K mg base CX0 (k + 2) fI dI ["hall", "part"] (spIsPart C) := ok_isPart Z Y I.F
  refine F.ok scChkPart (fun vs H Q E h => ?_) (fun cdv A outer st H vs Q E hr h => ?_)
  · obtain ⟨x, dx, sb, D, l, ys, fo, P, rfl, _⟩ := h
    rfl
  · obtain ⟨x, dx, sb, D, l, ys, fo, P, rfl, hA, g, hP, q⟩ := h
    refine ⟨_, pss_one (ps_if (pt_not (pt_val (pe_call GI hr rfl I.g I.F.kp I.b .nil pass0 (pa_cons (pv 0) (pa_cons (pv 1) pa_nil))))) (pss_one ps_dead) pss_nil), ?_⟩
    exact ⟨_, rfl, _, rfl, x, dx, sb, D, l, ys, fo, P, rfl, hA, g, hP, fun H1 s1 => ⟨_, rfl, iteF (q H1 s1)⟩⟩
def spAllFB (C : Addr) : Sp := fun vs H Q _ => ∃ x dx sb D l ys fo P, vs = [.ref x, .str (tx P)] ∧ HallAt C H x dx sb D l ys fo ∧ GoodW l ∧ (∀ s ∈ sds l, (fo s).length ≤ 24) ∧ (∀ c ∈ P, c ∈ sds l) ∧ P.length ≤ 100 ∧ ∀ H', Same H H' → Q (.str (tx (allFo fo P))) H'
set_option maxHeartbeats 1000000 in
theorem ok_allFB {f fC fS : Addr} {fd dC dS : FuncData} {k : Nat} (B : BM mg) (Z : HC K mg C fi fb di db) (Y : HP K C fw ff dw df) (Cs : DF K mg "check_side" sChkSide ["walls", "side"] fC dC) (S : DF K mg "sides_of" sSides ["walls"] fS dS) (F : Fun K "all_forced_by" "all_forced_by" sAllFB f fd) : FnOk P w K mg base CX0 (k + 4) f fd ["hall", "part"] (spAllFB C) := by
  have GF : FnOk P w K mg base CX0 (k + 3) ff df ["self", "side"] (spHforced C) := ok_Hforced B Z Y Cs S
  refine F.ok scAllFB (fun vs H Q E h => ?_) (fun cdv A outer st H vs Q E hr h => ?_)
  · obtain ⟨x, dx, sb, D, l, ys, fo, P, rfl, _⟩ := h
    rfl
  · obtain ⟨x, dx, sb, D, l, ys, fo, P, rfl, hA, g, fl, hP, hn, q⟩ := h
    have nd := scAllFB.nd
    refine ⟨_, pss_one (ps_ret (pe_join pe_str (pe_lc (own := [("side", 2)]) (g := gName 2) (tt := tYes) (te := tMeth C "forced" (spHforced C) [] E0 (tVar 0) (tCons (tVar 2) tNil)) rfl nd (pi_str (pv 1)) (blkOk_by (N := ["hall", "part", "side"]) (sc := defScope sAllFB) (by decide +kernel)) (fun _ _ _ _ _ => pg_name (i := 2) nd rfl (Or.inl rfl)) (fun _ _ _ _ _ => pts_nil)
      (fun _ _ _ _ _ => pe_meth (pv 0) Z.cl Y.mf GF hr Y.bf .nil pass0 (pa_cons (pv 2) pa_nil))))), ?_⟩
    refine ⟨⟨_, rfl⟩, _, rfl, tx P, rfl, fun Da na => ?_⟩
    have lz : (tx P).cps.size = P.length := tx_len _
    have wk := walk_str (z := tx P)
    rw [lz] at wk
    refine lc_it wk (fun i H' => Same H H' ∧ H' Da = some (.lst ((((P.take i).map fo).map tx).map V.str))) ⟨same_upd na, upd_same⟩ (fun _ _ _ _ => trivial) ?_ ?_
    · rintro i v H1 H2 hi ⟨s1, e1⟩ ⟨rfl, c, hc, rfl⟩
      have hc : P[i]? = some c := by
        rw [← Array.getElem?_toList, tx_list] at hc
        exact hc
      have hA1 := hA.same s1
      refine ⟨rfl, yes_i ⟨_, rfl, x, dx, _, rfl, hA1.x, rfl, _, rfl, x, dx, sb, D, l, ys, fo, c, rfl, hA1, g, hP c (List.mem_of_getElem? hc), fun H3 s3 => ⟨_, s3 _ _ e1, ?_, sm_over (sm_trans s1 s3) na, ?_⟩⟩⟩
      · rw [List.length_map, List.length_map, List.length_map, List.length_take, sizeLine_eq]
        omega
      · rw [upd_same, List.take_add_one, hc, List.map_append, List.map_append, List.map_append]
        rfl
    · rintro H1 ⟨s1, e1⟩
      rw [List.take_length] at e1
      have ln := allFo_len fl hP
      have ef : (P.map fo).flatten = allFo fo P := by unfold allFo; rw [List.flatMap_def]
      refine ⟨_, _, (P.map fo).map tx, rfl, rfl, .inl (SqL.of e1), ?_, ?_⟩
      · rw [sum_txs, ef, show (Str.ofString "").length = 0 by decide +kernel]
        omega
      · rw [join_tx, ef]
        exact q _ s1
def spTorn (C : Addr) : Sp := fun vs H Q _ => ∃ x dx sb D l ys fo P, vs = [.ref x, .str (tx P)] ∧ HallAt C H x dx sb D l ys fo ∧ GoodW l ∧ (∀ s ∈ sds l, (fo s).length ≤ 24) ∧ (∀ c ∈ P, c ∈ sds l) ∧ P.length ≤ 100 ∧ ∀ H', Same H H' → Q (.str (tx (tornL l (allFo fo P)))) H'
set_option maxHeartbeats 1000000 in
theorem ok_torn {f fC fS fA fO : Addr} {fd dC dS dA dO : FuncData} {k : Nat} (B : BM mg) (Z : HC K mg C fi fb di db) (Y : HP K C fw ff dw df) (Cs : DF K mg "check_side" sChkSide ["walls", "side"] fC dC) (S : DF K mg "sides_of" sSides ["walls"] fS dS) (A : DF K mg "all_forced_by" sAllFB ["hall", "part"] fA dA) (O : DF K mg "other" sOther ["side"] fO dO) (F : Fun K "torn_walls" "torn_walls" sTorn f fd) :
    FnOk P w K mg base CX0 (k + 5) f fd ["hall", "part"] (spTorn C) := by
  have GA : FnOk P w K mg base CX0 (k + 4) fA dA ["hall", "part"] (spAllFB C) := ok_allFB B Z Y Cs S A.F
  have GW : FnOk P w K mg base CX0 (k + 1) fw dw ["self"] (spHwalls C) := ok_Hwalls Z Y
  have GO : FnOk P w K mg base CX0 (k + 1) fO dO ["side"] spOther := ok_other O.F
  refine F.ok scTorn (fun vs H Q E h => ?_) (fun cdv A0 outer st H vs Q E hr h => ?_)
  · obtain ⟨x, dx, sb, D, l, ys, fo, P, rfl, _⟩ := h
    rfl
  · obtain ⟨x, dx, sb, D, l, ys, fo, P, rfl, hA, g, fl, hP, hn, q⟩ := h
    have nd := scTorn.nd
    have r1 : Room (k + 1) _ := hr.mono (by omega)
    have hl12 := g.hi
    refine ⟨_, pss_cons (ps_set (i := 2) nd rfl (.inr rfl) (pe_call GA hr rfl A.g A.F.kp A.b .nil pass0 (pa_cons (pv 0) (pa_cons (pv 1) pa_nil))))
      (pss_one (ps_ret (pe_join pe_str (pe_lc (own := [("wall", 3)]) (g := gName 3) (tt := tAnd (tTest (tOp rSgn2 (tVar 3) (tVar 2))) (tTest (tOp rSgn2 (tCall spOther [] E0 (tCons (tVar 3) tNil)) (tVar 2)))) rfl nd (pi_str (pe_meth0 (pv 0) Z.cl Y.mw GW r1 Y.bw .nil pass0)) (blkOk_by (N := ["hall", "part", "sides", "wall"]) (sc := defScope sTorn) (by decide +kernel)) (fun _ _ _ _ _ => pg_name (i := 3) nd rfl (Or.inl rfl))
        (fun _ _ _ _ _ => pts_one (PW.pt (pw_and (pt_cmpR op_in_sign (pv 3) (pv 2) (by rfl)) (pw_and1 (pt_cmpR op_in_sign (pe_call GO r1 rfl O.g O.F.kp O.b .nil pass0 (pa_cons (pv 3) pa_nil)) (pv 2) (by rfl)))))) (fun _ _ _ _ _ => pv 3))))), ?_⟩
    refine ⟨_, rfl, _, rfl, x, dx, sb, D, l, ys, fo, P, rfl, hA, g, fl, hP, hn, fun H0 s0 => ?_⟩
    have hA0 := hA.same s0
    generalize allFo fo P = W at *
    refine ⟨⟨_, rfl⟩, _, rfl, x, dx, _, rfl, hA0.x, rfl, x, dx, sb, D, l, ys, fo, rfl, hA0, tx l, rfl, fun Da na => ?_⟩
    have lz : (tx l).cps.size = l.length := tx_len _
    have wk := walk_str (z := tx l)
    rw [lz] at wk
    refine lc_it wk (fun i H' => Same H0 H' ∧ H' Da = some (.lst (((tornL (l.take i) W).map sg).map V.str))) ⟨same_upd na, upd_same⟩ (fun _ _ _ _ => trivial) ?_ ?_
    · rintro i v H1 H2 hi ⟨s1, e1⟩ ⟨rfl, c, hc, rfl⟩
      have hc : l[i]? = some c := by
        rw [← Array.getElem?_toList, tx_list] at hc
        exact hc
      have ca : c < 128 := g.asc c (List.mem_of_getElem? hc)
      have et : tornL (l.take (i + 1)) W = tornL (l.take i) W ++ [c].filter fun c => decide (c ∈ W) && decide (swp c ∈ W) := by
        unfold tornL
        rw [List.take_add_one, hc, List.filter_append]
        rfl
      have tl : (tornL (l.take i) W).length ≤ 12 := Nat.le_trans (List.length_filter_le _ _) (by rw [List.length_take]; omega)
      have no : (decide (c ∈ W) && decide (swp c ∈ W)) = false → Same H0 H2 ∧ H2 Da = some (.lst (((tornL (l.take (i + 1)) W).map sg).map V.str)) := fun z => by
        refine ⟨s1, ?_⟩
        rw [e1, et, List.filter_cons, if_neg (by rw [z]; simp)]
        simp
      refine ⟨rfl, _, rfl, _, rfl, c, tx W, rfl, rfl, _, rfl, ?_⟩
      rw [tx_list]
      refine ite2 (fun t1 => ?_) (fun t1 => no (by rw [Bool.eq_false_iff.mpr t1]; rfl))
      refine ⟨_, rfl, c, rfl, ca, _, rfl, swp c, tx W, rfl, rfl, _, rfl, ?_⟩
      rw [tx_list]
      refine ite2 (fun t2 => ?_) (fun t2 => no (by rw [Bool.eq_false_iff.mpr t2]; simp))
      refine ⟨_, rfl, _, e1, by rw [List.length_map, List.length_map, sizeLine_eq]; omega, sm_over s1 na, ?_⟩
      rw [upd_same, et, List.filter_cons, if_pos (by rw [t1, t2]; rfl)]
      simp
      rfl
    · rintro H1 ⟨s1, e1⟩
      rw [List.take_length] at e1
      have tl : (tornL l W).length ≤ 12 := Nat.le_trans (List.length_filter_le _ _) hl12
      refine ⟨_, _, (tornL l W).map sg, rfl, rfl, .inl (SqL.of e1), ?_, ?_⟩
      · rw [sum_sgs, show (Str.ofString "").length = 0 by decide +kernel]
        omega
      · rw [join_sg]
        exact q _ (sm_trans s0 s1)
end
end NC
namespace NC
open PySem PySem.Spec PyProof.Rows L2
abbrev sShut : Stmt := topS 32
theorem scShut : FnScope ["hall", "part", "torn"] ["hall", "part"] (defScope sShut) := ⟨rfl, rfl, rfl, by decide +kernel, rfl, by decide +kernel, by decide +kernel⟩
section
variable {P : Program} {w : World} {K : PySem.W.Frag} {mg : Str → Option Value} {base : Heap} {C fi fb fm fr fg fw ff : Addr} {di db dm dr dg dw df : FuncData}
def spByWT : Sp := fun vs H Q _ => ∃ l W, vs = [.str (tx l), .str (tx W)] ∧ GoodW l ∧ ∀ H', Same H H' → Q (.str (tx (byWT l W))) H'
set_option maxHeartbeats 1000000 in
theorem ok_byWT {f fO : Addr} {fd fdO : FuncData} {k : Nat} (F : Fun K "by_walls" "by_walls" sByWalls f fd) (O : DF K mg "other" sOther ["side"] fO fdO) : FnOk P w K mg base CX0 (k + 2) f fd ["walls", "sides"] spByWT := by
  have GO : FnOk P w K mg base CX0 (k + 1) fO fdO ["side"] spOther := ok_other O.F
  refine F.ok scByWalls (fun vs H Q E h => ?_) (fun cdv A outer s H vs Q E hr h => ?_)
  · obtain ⟨l, W, rfl, _⟩ := h
    rfl
  · obtain ⟨l, W, rfl, g, q⟩ := h
    refine ⟨_, pss_one (ps_ret (pe_join pe_str (pe_lc2 (wi1 := iTup K (tTup (tCons (tCall spOther [] E0 (tCons (tVar 2) tNil)) (tCons (tVar 2) tNil)))) (own := [("wall", 2), ("side", 3)]) (vs1 := [3]) (g := gName 2) (g1 := gName 3) (tt := tYes) rfl scByWalls.nd (pi_str (pv 0))
      (blkOk_by (N := ["walls", "sides", "wall", "side"]) (sc := defScope sByWalls) (by decide +kernel)) (by decide)
      (fun _ _ _ _ _ => pg_name (i := 2) scByWalls.nd rfl (Or.inl rfl)) (fun _ _ _ _ _ => pts_nil)
      (fun _ _ _ _ _ => pi_tup (pe_tup (pa_cons (pe_call GO hr rfl O.g O.F.kp O.b .nil pass0 (pa_cons (pv 2) pa_nil)) (pa_cons (pv 2) pa_nil))))
      (fun _ _ _ _ _ => pg_name (i := 3) scByWalls.nd rfl (Or.inl rfl))
      (fun _ _ _ _ _ => pts_one (pt_cmpR op_in_sign (pv 3) (pv 1) (by rfl))) (fun _ _ _ _ _ => pv 3)))), ?_⟩
    refine ⟨⟨_, rfl⟩, _, rfl, tx l, rfl, fun D hD => ?_⟩
    refine out_it walk_str (fun i H' => Same H H' ∧ H' D = some (.lst (((byWT (l.take i) W).map sg).map V.str))) ⟨same_upd hD, upd_same⟩ (fun _ _ _ _ => trivial) ?_ ?_
    · rintro i x H1 H2 hi ⟨sm, eD⟩ ⟨rfl, c, hc, rfl⟩
      have hcl : l[i]? = some c := by
        rw [← Array.getElem?_toList, tx_list] at hc
        exact hc
      have hca : c < 128 := g.asc c (List.mem_of_getElem? hcl)
      refine ⟨rfl, yes_i ⟨_, rfl, c, rfl, hca, _, rfl, by show 2 ≤ sizeLine; decide, fun T hT => ⟨T, rfl, ⟨_, SqT.of upd_same⟩, ?_⟩⟩⟩
      have nDT : D ≠ T := ne_of_none eD hT
      refine in_it (walk_tup (K := K) (a := T) (xs := [swp c, c].map fun e => V.str (sg e))) (fun j H' => Same H H' ∧ SqT K H' T ([swp c, c].map fun e => V.str (sg e)) ∧ H' D = some (.lst (((byWT (l.take i) W ++ ([swp c, c].take j).filter fun e => decide (e ∈ W)).map sg).map V.str)))
        ⟨sm_upd sm hT, SqT.of upd_same, by rw [upd_ne nDT, eD]; simp⟩ (fun j H' _ h => h.2.1) ?_ ?_
      · rintro j x H3 H4 hj ⟨sm2, hT2, eD2⟩ ⟨rfl, hx⟩
        rw [List.getElem?_map] at hx
        obtain ⟨e, he, rfl⟩ := Option.map_eq_some_iff.mp hx
        have hlen : (byWT (l.take i) W ++ ([swp c, c].take j).filter fun e => decide (e ∈ W)).length ≤ 2 * 12 + 2 := by
          rw [List.length_append]
          have h1 := byWT_len (l.take i) W
          have h2 : (([swp c, c].take j).filter fun e => decide (e ∈ W)).length ≤ 2 := Nat.le_trans (List.length_filter_le _ _) (by rw [List.length_take]; exact Nat.min_le_right _ _)
          have h3 : (l.take i).length ≤ 12 := Nat.le_trans (by rw [List.length_take]; exact Nat.min_le_right _ _) g.hi
          omega
        refine ⟨rfl, _, rfl, _, rfl, e, tx W, rfl, rfl, _, rfl, ?_⟩
        rw [tx_list]
        refine ite2 (fun ht => ⟨_, rfl, _, eD2, ?_, sm_over sm2 hD, ?_, ?_⟩) (fun ht => ⟨sm2, hT2, ?_⟩)
        · rw [List.length_map, List.length_map, sizeLine_eq]
          omega
        · rcases hT2 with (z | ⟨o, z⟩) | z
          · exact .inl (.inl (by rw [upd_ne (Ne.symm nDT)]; exact z))
          · exact .inl (.inr ⟨o, by rw [upd_ne (Ne.symm nDT)]; exact z⟩)
          · exact .inr z
        · have e1 : e ∈ W := of_decide_eq_true ht
          rw [upd_same, List.take_add_one, he, List.filter_append]
          simp [e1, sg_tx]
        · have e1 : e ∉ W := fun z => ht (decide_eq_true z)
          rw [eD2, List.take_add_one, he, List.filter_append]
          simp [e1]
      · rintro H3 ⟨sm2, _, eD2⟩
        refine ⟨sm2, ?_⟩
        rw [eD2, byWT_snoc l i c W hcl]
        rfl
    · rintro H3 ⟨sm2, eD2⟩
      have e1 : (l.take (tx l).cps.size) = l := by
        rw [show (tx l).cps.size = l.length from tx_len l]
        exact List.take_length
      rw [e1] at eD2
      refine ⟨_, _, (byWT l W).map sg, rfl, rfl, .inl (SqL.of eD2), ?_, ?_⟩
      · have h1 := byWT_len l W
        have h2 := g.hi
        rw [sum_sgs, show (Str.ofString "").length = 0 by decide +kernel]
        omega
      · rw [join_sg]
        exact q _ sm2
/-- what the functions of parts ask for in the text -/
structure PT (K : PySem.W.Frag) (mg : Str → Option Value) (C fw ff : Addr) (dw df : FuncData) (fIsP fChP fAFB fTo : Addr) (dIsP dChP dAFB dTo : FuncData) : Prop where
  Y : HP K C fw ff dw df
  isP : DF K mg "is_part" sIsPart ["hall", "part"] fIsP dIsP
  chP : DF K mg "check_part" sChkPart ["hall", "part"] fChP dChP
  afb : DF K mg "all_forced_by" sAllFB ["hall", "part"] fAFB dAFB
  to : DF K mg "torn_walls" sTorn ["hall", "part"] fTo dTo
def spShut (C : Addr) : Sp := fun vs H Q _ => ∃ x dx sb D l ys fo bs P z, vs = [.ref x, .str (tx P)] ∧ HallF C H x dx sb D l ys fo bs ∧ Part l P ∧ z ∈ rms l bs ∧ (∀ s ∈ P, s ∈ z) ∧ ∀ H', Same H H' → Q (.str (tx (byWT l (allFo fo P)))) H'
set_option maxHeartbeats 1000000 in
theorem ok_shut {f fC fS fO fBy fIsP fChP fAFB fTo : Addr} {fd dC dS dO dBy dIsP dChP dAFB dTo : FuncData} {k : Nat} (B : BM mg) (Z : HC K mg C fi fb di db) (T : PT K mg C fw ff dw df fIsP fChP fAFB fTo dIsP dChP dAFB dTo) (Cs : DF K mg "check_side" sChkSide ["walls", "side"] fC dC) (S : DF K mg "sides_of" sSides ["walls"] fS dS) (O : DF K mg "other" sOther ["side"] fO dO) (By : DF K mg "by_walls" sByWalls ["walls", "sides"] fBy dBy) (F : Fun K "shut" "shut" sShut f fd) :
    FnOk P w K mg base CX0 (k + 6) f fd ["hall", "part"] (spShut C) := by
  have GA : FnOk P w K mg base CX0 (k + 4) fAFB dAFB ["hall", "part"] (spAllFB C) := ok_allFB B Z T.Y Cs S T.afb.F
  have GW : FnOk P w K mg base CX0 (k + 1) fw dw ["self"] (spHwalls C) := ok_Hwalls Z T.Y
  have GT : FnOk P w K mg base CX0 (k + 5) fTo dTo ["hall", "part"] (spTorn C) := ok_torn B Z T.Y Cs S T.afb O T.to.F
  have GC : FnOk P w K mg base CX0 (k + 3) fChP dChP ["hall", "part"] (spChkPart C) := ok_chkPart Z T.Y T.chP.F T.isP
  have GB : FnOk P w K mg base CX0 (k + 2) fBy dBy ["walls", "sides"] spByWT := ok_byWT By.F O
  refine F.ok scShut (fun vs H Q E h => ?_) (fun cdv A0 outer st H vs Q E hr h => ?_)
  · obtain ⟨x, dx, sb, D, l, ys, fo, bs, P, z, rfl, _⟩ := h
    rfl
  · obtain ⟨x, dx, sb, D, l, ys, fo, bs, P, z, rfl, hF, hP, hz, hin, q⟩ := h
    have nd := scShut.nd
    have g := hF.G.g
    have hl12 := g.hi
    have pl := hP.len
    have r1 : Room (k + 1) _ := hr.mono (by omega)
    have r2 : Room (k + 2) _ := hr.mono (by omega)
    have r3 : Room (k + 3) _ := hr.mono (by omega)
    have r4 : Room (k + 4) _ := hr.mono (by omega)
    refine ⟨_, pss_cons (ps_expr (pe_call GC r3 rfl T.chP.g T.chP.F.kp T.chP.b .nil pass0 (pa_cons (pv 0) (pa_cons (pv 1) pa_nil))))
      (pss_cons (ps_set (i := 2) nd rfl (.inl rfl) (pe_call GT hr rfl T.to.g T.to.F.kp T.to.b .nil pass0 (pa_cons (pv 0) (pa_cons (pv 1) pa_nil))))
      (pss_cons (ps_if (pt_cmpR op_ne (pv 2) pe_str (nomark _)) (pss_one ps_dead) pss_nil)
      (pss_one (ps_ret (pe_call GB r2 rfl By.g By.F.kp By.b .nil pass0 (pa_cons (pe_meth0 (pv 0) Z.cl T.Y.mw GW r1 T.Y.bw .nil pass0) (pa_cons (pe_call GA r4 rfl T.afb.g T.afb.F.kp T.afb.b .nil pass0 (pa_cons (pv 0) (pa_cons (pv 1) pa_nil))) pa_nil))))))), ?_⟩
    refine ⟨_, rfl, _, rfl, x, dx, sb, D, l, ys, fo, P, rfl, hF.G.hA, g, hP, fun H1 s1 => ?_⟩
    have hF1 := hF.same s1
    refine ⟨_, rfl, _, rfl, x, dx, sb, D, l, ys, fo, P, rfl, hF1.G.hA, g, hF.fl, hP.sd, by omega, fun H2 s2 => ?_⟩
    have hF2 := hF1.same s2
    rw [torn_no g hF.G.bar hF.hf hP.sd hz hin]
    refine ⟨_, rfl, rfl, _, rfl, ?_⟩
    rw [str00, show (!decide (V.str (tx []) = V.str (tx []))) = false by simp]
    refine iteF ⟨_, rfl, x, dx, _, rfl, hF2.G.hA.x, rfl, x, dx, sb, D, l, ys, fo, rfl, hF2.G.hA, _, rfl, _, rfl, x, dx, sb, D, l, ys, fo, P, rfl, hF2.G.hA, g, hF.fl, hP.sd, by omega, fun H3 s3 => ?_⟩
    exact ⟨l, _, rfl, g, fun H4 s4 => q H4 (sm_trans (sm_trans s1 s2) (sm_trans s3 s4))⟩
end
end NC
namespace NC
open PySem PySem.Spec PyProof.Rows L2
abbrev sShCalls : Stmt := topS 34
abbrev sWWrit : Stmt := topS 35
theorem scShCalls : FnScope ["hall", "calls", "most", "part"] ["hall", "calls", "most"] (defScope sShCalls) := ⟨rfl, rfl, rfl, by decide +kernel, rfl, by decide +kernel, by decide +kernel⟩
theorem scWWrit : FnScope ["hall", "shut_texts", "sides", "wall"] ["hall", "shut_texts"] (defScope sWWrit) := ⟨rfl, rfl, rfl, by decide +kernel, rfl, by decide +kernel, by decide +kernel⟩
/-- the shut text of a part -/
def shT (l : List Nat) (fo : Nat → List Nat) (P : List Nat) : List Nat := byWT l (allFo fo P)
def nI (k : Nat) : V := .int (k : Int)
section
variable {P : Program} {w : World} {K : PySem.W.Frag} {mg : Str → Option Value} {base : Heap} {C fi fb fm fr fg fw ff : Addr} {di db dm dr dg dw df : FuncData}
def spShCalls (K : PySem.W.Frag) (C : Addr) : Sp := fun vs H Q _ => ∃ x dx sb D l ys fo bs a, ∃ (Ps : List (List Nat)), vs = [.ref x, .ref a, .int 12] ∧ HallF C H x dx sb D l ys fo bs ∧ (SqL K H a ((Ps.map tx).map V.str) ∨ SqT K H a ((Ps.map tx).map V.str)) ∧ Ps.length ≤ 12 ∧ (∀ P ∈ Ps, Part l P ∧ ∃ z ∈ rms l bs, ∀ s ∈ P, s ∈ z) ∧
  ∀ H' p, Same H H' → H p = none → H' p = some (.lst (((Ps.map (shT l fo)).map tx).map V.str)) → Q (.ref p) H'
set_option maxHeartbeats 1000000 in
theorem ok_shCalls {f fC fS fO fBy fIsP fChP fAFB fTo fSh : Addr} {fd dC dS dO dBy dIsP dChP dAFB dTo dSh : FuncData} {k : Nat} (B : BM mg) (Z : HC K mg C fi fb di db) (T : PT K mg C fw ff dw df fIsP fChP fAFB fTo dIsP dChP dAFB dTo) (Cs : DF K mg "check_side" sChkSide ["walls", "side"] fC dC) (S : DF K mg "sides_of" sSides ["walls"] fS dS) (O : DF K mg "other" sOther ["side"] fO dO) (By : DF K mg "by_walls" sByWalls ["walls", "sides"] fBy dBy)
    (Sh : DF K mg "shut" sShut ["hall", "part"] fSh dSh) (F : Fun K "shut_calls" "shut_calls" sShCalls f fd) : FnOk P w K mg base CX0 (k + 7) f fd ["hall", "calls", "most"] (spShCalls K C) := by
  have GS : FnOk P w K mg base CX0 (k + 6) fSh dSh ["hall", "part"] (spShut C) := ok_shut B Z T Cs S O By Sh.F
  refine F.ok scShCalls (fun vs H Q E h => ?_) (fun cdv A0 outer st H vs Q E hr h => ?_)
  · obtain ⟨x, dx, sb, D, l, ys, fo, bs, a, Ps, rfl, _⟩ := h
    rfl
  · obtain ⟨x, dx, sb, D, l, ys, fo, bs, a, Ps, rfl, hF, hS, hn, hPs, q⟩ := h
    have nd := scShCalls.nd
    refine ⟨_, pss_cons (ps_if (pt_cmpR op_gt (pe_callB call_len_seq (by rfl) B.len PySem.boot_len (pa_cons (pv 1) pa_nil)) (pv 2) (nomark _)) (pss_one ps_dead) pss_nil)
      (pss_one (ps_ret (pe_lc (own := [("part", 3)]) (g := gName 3) (tt := tYes) (te := tCall (spShut C) [] E0 (tCons (tVar 0) (tCons (tVar 3) tNil))) rfl nd (pi_seq (pv 1)) (blkOk_by (N := ["hall", "calls", "most", "part"]) (sc := defScope sShCalls) (by decide +kernel)) (fun _ _ _ _ _ => pg_name (i := 3) nd rfl (Or.inl rfl)) (fun _ _ _ _ _ => pts_nil)
        (fun _ _ _ _ _ => pe_call GS hr rfl Sh.g Sh.F.kp Sh.b .nil pass0 (pa_cons (pv 0) (pa_cons (pv 3) pa_nil)))))), ?_⟩
    refine ⟨_, rfl, a, _, rfl, hS, _, rfl, _, _, rfl, rfl, _, rfl, ?_⟩
    rw [decide_eq_false (by rw [List.length_map, List.length_map]; omega)]
    refine iteF ?_
    rcases hS with hS | hS
    · have wk := walk_list (K := K) (a := a) (xs := (Ps.map tx).map V.str)
      rw [List.length_map, List.length_map] at wk
      refine ⟨_, rfl, a, rfl, .inl ⟨⟨_, hS⟩, fun Da na => ?_⟩⟩
      refine lc_it wk (fun i H' => Same H H' ∧ H' Da = some (.lst ((((Ps.take i).map (shT l fo)).map tx).map V.str))) ⟨same_upd na, upd_same⟩ (fun i H' _ h => sm_l h.1 hS) ?_ ?_
      · rintro u v G1 G2 hu ⟨u1, e1⟩ ⟨rfl, hx⟩
        rw [List.getElem?_map, List.getElem?_map] at hx
        obtain ⟨z2, hz2, rfl⟩ := Option.map_eq_some_iff.mp hx
        obtain ⟨o, ho2, rfl⟩ := Option.map_eq_some_iff.mp hz2
        obtain ⟨pO, z, hz, hin⟩ := hPs o (List.mem_of_getElem? ho2)
        refine ⟨rfl, yes_i ⟨_, rfl, _, rfl, x, dx, sb, D, l, ys, fo, bs, o, z, rfl, hF.same u1, pO, hz, hin, fun G3 u3 => ⟨_, u3 _ _ e1, ?_, sm_over (sm_trans u1 u3) na, ?_⟩⟩⟩
        · rw [List.length_map, List.length_map, List.length_map, List.length_take, sizeLine_eq]
          omega
        · rw [upd_same, List.take_add_one, ho2, List.map_append, List.map_append, List.map_append]
          rfl
      · rintro H1 ⟨s1, e1⟩
        rw [List.take_length] at e1
        exact q H1 Da s1 na e1
    · have wk := walk_tup (K := K) (a := a) (xs := (Ps.map tx).map V.str)
      rw [List.length_map, List.length_map] at wk
      refine ⟨_, rfl, a, rfl, .inr ⟨⟨_, hS⟩, fun Da na => ?_⟩⟩
      refine lc_it wk (fun i H' => Same H H' ∧ H' Da = some (.lst ((((Ps.take i).map (shT l fo)).map tx).map V.str))) ⟨same_upd na, upd_same⟩ (fun i H' _ h => sm_t h.1 hS) ?_ ?_
      · rintro u v G1 G2 hu ⟨u1, e1⟩ ⟨rfl, hx⟩
        rw [List.getElem?_map, List.getElem?_map] at hx
        obtain ⟨z2, hz2, rfl⟩ := Option.map_eq_some_iff.mp hx
        obtain ⟨o, ho2, rfl⟩ := Option.map_eq_some_iff.mp hz2
        obtain ⟨pO, z, hz, hin⟩ := hPs o (List.mem_of_getElem? ho2)
        refine ⟨rfl, yes_i ⟨_, rfl, _, rfl, x, dx, sb, D, l, ys, fo, bs, o, z, rfl, hF.same u1, pO, hz, hin, fun G3 u3 => ⟨_, u3 _ _ e1, ?_, sm_over (sm_trans u1 u3) na, ?_⟩⟩⟩
        · rw [List.length_map, List.length_map, List.length_map, List.length_take, sizeLine_eq]
          omega
        · rw [upd_same, List.take_add_one, ho2, List.map_append, List.map_append, List.map_append]
          rfl
      · rintro H1 ⟨s1, e1⟩
        rw [List.take_length] at e1
        exact q H1 Da s1 na e1
def spWWrit (K : PySem.W.Frag) (C : Addr) : Sp := fun vs H Q _ => ∃ x dx sb D l ys fo a, ∃ (ts : List (List Nat)), vs = [.ref x, .ref a] ∧ HallAt C H x dx sb D l ys fo ∧ GoodW l ∧ SqL K H a ((ts.map tx).map V.str) ∧ ts.length ≤ 100 ∧ (∀ T ∈ ts, T.length ≤ 100 ∧ ∀ c ∈ T, c < 128) ∧ ∀ H', Same H H' → Q (.str (tx (keptL l (low ts.flatten)))) H'
theorem flat_len {ts : List (List Nat)} (h : ∀ T ∈ ts, T.length ≤ 100) : ts.flatten.length ≤ 100 * ts.length := by
  induction ts with
  | nil => simp
  | cons T r ih =>
    have h1 := h T (List.mem_cons_self ..)
    have h2 := ih fun x hx => h x (List.mem_cons_of_mem _ hx)
    rw [List.flatten_cons, List.length_append, List.length_cons]
    omega
set_option maxHeartbeats 1000000 in
theorem ok_wwrit {f : Addr} {fd : FuncData} {k : Nat} (Z : HC K mg C fi fb di db) (Y : HP K C fw ff dw df) (F : Fun K "walls_written" "walls_written" sWWrit f fd) : FnOk P w K mg base CX0 (k + 2) f fd ["hall", "shut_texts"] (spWWrit K C) := by
  have GW : FnOk P w K mg base CX0 (k + 1) fw dw ["self"] (spHwalls C) := ok_Hwalls Z Y
  refine F.ok scWWrit (fun vs H Q E h => ?_) (fun cdv A0 outer st H vs Q E hr h => ?_)
  · obtain ⟨x, dx, sb, D, l, ys, fo, a, ts, rfl, _⟩ := h
    rfl
  · obtain ⟨x, dx, sb, D, l, ys, fo, a, ts, rfl, hA, g, hS, hn, hT, q⟩ := h
    have nd := scWWrit.nd
    have hl12 := g.hi
    have fl := flat_len fun T hT' => (hT T hT').1
    refine ⟨_, pss_cons (ps_set (i := 2) nd rfl (.inr rfl) (pe_lower (pe_join pe_str (pv 1))))
      (pss_one (ps_ret (pe_join pe_str (pe_lc (own := [("wall", 3)]) (g := gName 3) (tt := tTest (tOp rSgn2 (tVar 3) (tVar 2))) rfl nd (pi_str (pe_meth0 (pv 0) Z.cl Y.mw GW hr Y.bw .nil pass0)) (blkOk_by (N := ["hall", "shut_texts", "sides", "wall"]) (sc := defScope sWWrit) (by decide +kernel)) (fun _ _ _ _ _ => pg_name (i := 3) nd rfl (Or.inl rfl))
        (fun _ _ _ _ _ => pts_one (pt_cmpR op_in_sign (pv 3) (pv 2) (by rfl))) (fun _ _ _ _ _ => pv 3))))), ?_⟩
    refine ⟨⟨_, rfl⟩, _, rfl, _, _, ts.map tx, rfl, rfl, .inl hS, ?_, ?_⟩
    · rw [sum_txs, show (Str.ofString "").length = 0 by decide +kernel]
      omega
    rw [join_tx]
    refine ⟨⟨_, rfl⟩, _, rfl, rfl, by show ts.flatten.toArray.size ≤ 5592405; rw [List.size_toArray]; omega, ?_⟩
    rw [lower_tx fun c hc => by obtain ⟨T, h1, h2⟩ := List.mem_flatten.mp hc; exact (hT T h1).2 c h2]
    refine ⟨⟨_, rfl⟩, _, rfl, x, dx, _, rfl, hA.x, rfl, x, dx, sb, D, l, ys, fo, rfl, hA, tx l, rfl, fun Da na => ?_⟩
    have lz : (tx l).cps.size = l.length := tx_len _
    have wk := walk_str (z := tx l)
    rw [lz] at wk
    refine lc_it wk (fun i H' => Same H H' ∧ H' Da = some (.lst (((keptL (l.take i) (low ts.flatten)).map sg).map V.str))) ⟨same_upd na, upd_same⟩ (fun _ _ _ _ => trivial) ?_ ?_
    · rintro i v H1 H2 hi ⟨s1, e1⟩ ⟨rfl, c, hc, rfl⟩
      have hc : l[i]? = some c := by
        rw [← Array.getElem?_toList, tx_list] at hc
        exact hc
      have et : keptL (l.take (i + 1)) (low ts.flatten) = keptL (l.take i) (low ts.flatten) ++ [c].filter fun c => decide (c ∈ low ts.flatten) := by
        unfold keptL
        rw [List.take_add_one, hc, List.filter_append]
        rfl
      have tl : (keptL (l.take i) (low ts.flatten)).length ≤ 12 := Nat.le_trans (List.length_filter_le _ _) (by rw [List.length_take]; omega)
      refine ⟨rfl, _, rfl, _, rfl, c, tx (low ts.flatten), rfl, rfl, _, rfl, ?_⟩
      rw [tx_list]
      refine ite2 (fun t => ⟨_, rfl, _, e1, by rw [List.length_map, List.length_map, sizeLine_eq]; omega, sm_over s1 na, ?_⟩) (fun t => ⟨s1, ?_⟩)
      · rw [upd_same, et, List.filter_cons, if_pos t]
        simp
        rfl
      · rw [e1, et, List.filter_cons, if_neg t]
        simp
    · rintro H1 ⟨s1, e1⟩
      rw [List.take_length] at e1
      have tl : (keptL l (low ts.flatten)).length ≤ 12 := Nat.le_trans (List.length_filter_le _ _) hl12
      refine ⟨_, _, (keptL l (low ts.flatten)).map sg, rfl, rfl, .inl (SqL.of e1), ?_, ?_⟩
      · rw [sum_sgs, show (Str.ofString "").length = 0 by decide +kernel]
        omega
      · rw [join_sg]
        exact q _ s1
end
end NC
namespace NC
open PySem PySem.Spec PyProof.Rows L2
/-- texts that calls write -/
def TsOk (ts : List (List Nat)) : Prop := ts.length ≤ 12 ∧ ∀ T ∈ ts, T.length ≤ 12 ∧ ∀ c ∈ T, c < 128
structure CallsOk (l : List Nat) (bs : List (List Nat)) (Ps : List (List Nat)) : Prop where
  len : Ps.length ≤ 12
  ok : ∀ P ∈ Ps, Part l P ∧ ∃ z ∈ rms l bs, ∀ s ∈ P, s ∈ z
theorem CallsOk.ts {l : List Nat} {bs : List (List Nat)} {Ps : List (List Nat)} (h : CallsOk l bs Ps) (g : GoodW l) (hb : ∀ b ∈ bs, isBar l b = true) {fo : Nat → List Nat} (hf : ∀ s ∈ sds l, ∀ t, t ∈ fo s ↔ Frc (adjOf bs) s t) (ok : Okv l bs) : (∀ T ∈ Ps.map (shT l fo), Part l T) ∧ TsOk (Ps.map (shT l fo)) := by
  have hp : ∀ T ∈ Ps.map (shT l fo), Part l T := fun T hT => by
    obtain ⟨P, hP, rfl⟩ := List.mem_map.mp hT
    obtain ⟨pP, z, hz, hin⟩ := h.ok P hP
    exact shut_part g hb hf ok pP.sd hz hin
  refine ⟨hp, by rw [List.length_map]; exact h.len, fun T hT => ⟨?_, fun c hc => sds_asc g ((hp T hT).sd c hc)⟩⟩
  have := (hp T hT).len
  have := g.hi
  omega
end NC
namespace NC
open PySem PySem.Spec PyProof.Rows L2
/-- sorted(xs): what the items stand for is told beside them -/
def rSortedD (K : PySem.W.Frag) : List V → Hp → VK → Prop := fun vs H Q => ∃ (a : Addr) (es : List (V × PyData)), vs = [V.ref a] ∧ SqL K H a (es.map Prod.fst) ∧ (∀ e ∈ es, Dp K H e.1 e.2) ∧ PySem.W.AllAlike (es.map Prod.snd) ∧ PySem.W.Sortable (es.map Prod.snd) ∧ (∀ e ∈ es, e.2.depth ≤ 60) ∧
  ∀ (ys : List (V × PyData)) (p : Addr), ys.Perm es → ys.Pairwise (fun x y => PySem.W.dataLt y.2 x.2 = false) → H p = none → Q (.ref p) (upd H p (.lst (ys.map Prod.fst)))
theorem each_vals : ∀ {es : List (V × PyData)} {its : List Value}, Vals (es.map Prod.fst) its → PySem.W.EachIs (fun v e => RelV e.1 v) its es
  | [], _, r => by rw [List.map_nil] at r; cases r; exact .nil
  | e :: es, _, r => by
    rw [List.map_cons] at r
    cases r with
    | cons h t => exact .cons h (each_vals t)
theorem vals_each : ∀ {es : List (V × PyData)} {out : List Value}, PySem.W.EachIs (fun v e => RelV e.1 v) out es → Vals (es.map Prod.fst) out
  | [], _, .nil => .nil
  | e :: es, _, .cons h t => by
    rw [List.map_cons]
    exact .cons h (vals_each t)
theorem cr_sortedD {X : Cx} (hu : X.A.units + 65 < cLine) : CallR X (.builtin "sorted") (rSortedD X.K) := by
  intro pins s σ H vs us Q I r h
  obtain ⟨a, es, rfl, hs, hd, hal, hso, hdp, q⟩ := h
  obtain ⟨its, rv, hl, hz⟩ := I.list hs
  rw [Vals.ref1 r]
  have hlen0 := rv.length
  have e := each_vals rv
  have er : PySem.W.EachIs (fun v b => ∃ as, Reads s.heap v b.2 as) its es := by
    clear hl hz hs hlen0 e hal hso hdp q r
    induction es generalizing its with
    | nil => rw [List.map_nil] at rv; cases rv; exact .nil
    | cons x es ih =>
      rw [List.map_cons] at rv
      cases rv with
      | cons h t => exact .cons (Dp.reads I x.2 x.1 _ (hd x (List.mem_cons_self ..)) h) (ih (fun y hy => hd y (List.mem_cons_of_mem _ hy)) _ t)
  rw [List.length_map] at hlen0
  refine PySem.W.sorted_data (enc := Prod.snd) hl.isList e er hal hso (by rw [List.length_map] at hz; exact hz) (fun b hb => by have := hdp b hb; omega) fun out h1 h2 => ?_
  have T := PySem.W.sortLe_total (PyProof.Rows.listOrd PyProof.Rows.itemOrd) false (fun b : V × PyData => PySem.W.keyToks b.2)
  have pm : (es.mergeSort (PySem.W.dataLe false Prod.snd)).Perm es := List.mergeSort_perm _ _
  have pw : (es.mergeSort (PySem.W.dataLe false Prod.snd)).Pairwise (fun x y => PySem.W.dataLt y.2 x.2 = false) := (PySem.W.sort_pairwise T es).imp fun {x y} h => by
    have h' : (!PySem.W.dataLt y.2 x.2) = true := h
    simpa using h'
  generalize es.mergeSort (PySem.W.dataLe false Prod.snd) = ys at h2 pm pw
  obtain ⟨ep, he'⟩ := PyProof.Rows.sortedAll_at s.heap its (List.toArray out)
  have hlen : (ys.map Prod.fst).length ≤ sizeLine := by rw [List.length_map, pm.length_eq]; rw [List.length_map] at hz; exact hz
  exact ⟨.ref _, upd H (s.heap.objs.size + 1) (.lst (ys.map Prod.fst)), I.laid (t' := s.toks) (fun _ _ => PyProof.Rows.sortedAll_old) (Nat.le_succ _) ⟨hlen, out, ep, vals_each h2, he'⟩, rfl, q ys _ pm pw (I.hok.fresh (Nat.le_succ _))⟩
end NC
namespace NC
open PySem PySem.Spec PyProof.Rows L2
def gtl (had : List Nat) (p : Nat) : Bool := had.isEmpty || decide (had.getLastD 0 < p)
/-- the rising lists of so many places -/
def LV (n : Nat) : Nat → List (List Nat)
  | 0 => [[]]
  | s + 1 => (LV n s).flatMap fun had => ((List.range n).filter (gtl had)).map fun p => had ++ [p]
/-- all lists of places, as the law gathers them -/
def FD : Nat → List (List Nat)
  | 0 => [[]]
  | k + 1 => FD k ++ (FD k).map (· ++ [k])
def LL (n : Nat) : List (List Nat) := (List.range (n + 1)).flatMap (LV n)
def toD (t : List Nat) : PyData := .list ((t.map fun n : Nat => (n : Int)).map .int)
def ltN (x y : List Nat) : Bool := PySem.W.listLt (x.map fun n : Nat => (n : Int)) (y.map fun n : Nat => (n : Int))
theorem lt_toD (x y : List Nat) : PySem.W.dataLt (toD x) (toD y) = ltN x y := by
  unfold toD ltN
  rw [PySem.W.dataLt_list]
  exact PySem.W.lexAll_map _ _
theorem lv_perm : ∀ n, n ≤ 7 → ∀ s, s ≤ n → ((FD n).filter fun t => decide (t.length = s)).Perm (LV n s) := by decide +kernel
theorem lv_srt : ∀ n, n ≤ 7 → ∀ s, s ≤ n → (LV n s).Pairwise (fun x y => ltN x y = true) := by decide +kernel
theorem lv_end : ∀ n, n ≤ 7 → LV n (n + 1) = [] := by decide +kernel
theorem lv_mem : ∀ n, n ≤ 7 → ∀ s, s ≤ n → ∀ t ∈ LV n s, (∀ k ∈ t, k < n) ∧ t.length = s := by decide +kernel
theorem lv_len : ∀ n, n ≤ 7 → ∀ s, s ≤ n → (LV n s).length ≤ 35 := by decide +kernel
theorem fd_len (n : Nat) : (FD n).length = 2 ^ n := by
  induction n with
  | zero => rfl
  | succ n ih => rw [FD, List.length_append, List.length_map, ih, Nat.pow_succ]; omega
theorem ll_mem {n : Nat} (h : n ≤ 7) {t : List Nat} (ht : t ∈ LL n) : ∀ k ∈ t, k < n := by
  obtain ⟨s, hs, ht⟩ := List.mem_flatMap.mp ht
  have := List.mem_range.mp hs
  exact (lv_mem n h s (by omega) t ht).1
theorem perm_srt {α : Type} (lt : α → α → Bool) (asym : ∀ x y, lt x y = true → lt y x = false) : ∀ (L M : List α), M.Perm L → L.Pairwise (fun x y => lt x y = true) → M.Pairwise (fun x y => lt y x = false) → M = L
  | [], M, p, _, _ => List.perm_nil.mp p
  | a :: L, [], p, _, _ => absurd p.symm (by simp)
  | a :: L, b :: M, p, hL, hM => by
    have e : b = a := by
      rcases List.mem_cons.mp (p.mem_iff.mp (List.mem_cons_self ..)) with h | h
      · exact h
      · rcases List.mem_cons.mp (p.symm.mem_iff.mp (List.mem_cons_self ..)) with h2 | h2
        · exact h2.symm
        · have h3 := (List.pairwise_cons.mp hL).1 b h
          have h4 := (List.pairwise_cons.mp hM).1 a h2
          rw [h3] at h4
          cases h4
    subst e
    rw [perm_srt lt asym L M ((List.perm_cons b).mp p) (List.pairwise_cons.mp hL).2 (List.pairwise_cons.mp hM).2]
theorem dataLt_asym (x y : PyData) (h : PySem.W.dataLt x y = true) : PySem.W.dataLt y x = false := by
  cases e : PySem.W.dataLt y x with
  | false => rfl
  | true =>
    have a := PyProof.Rows.lex_trans (O := PyProof.Rows.itemOrd) _ _ _ h e
    have b := PyProof.Rows.lex_irrefl (O := PyProof.Rows.itemOrd) (PySem.W.keyToks x)
    rw [b] at a
    cases a
section
variable {l : List Nat} (g : GoodW l) {bs ts : List (List Nat)} (hT : Txs l bs ts)
include g
theorem sd_at {T : List Nat} (pT : Part l T) {i : Nat} (hi : i < l.length) : (cod l T).getD i 0 = 0 ↔ l.getD i 0 ∉ low T := by
  have e : l.getD i 0 = l[i] := by rw [List.getD_eq_getElem?_getD, List.getElem?_eq_getElem hi]; rfl
  have sm := g.sm _ (List.getElem_mem hi)
  rw [← e] at sm
  unfold cod
  rw [rg_get hi]
  unfold low
  rw [List.mem_map]
  generalize l.getD i 0 = c at *
  have lc : lwc c = c := by unfold lwc; rw [if_neg (by omega)]
  have ls : lwc (swp c) = c := by rw [lwc_swp (.inl sm), lc]
  by_cases a : c ∈ T
  · rw [if_pos a]
    exact ⟨fun h => (by cases h), fun h => absurd ⟨c, a, lc⟩ h⟩
  · rw [if_neg a]
    by_cases b : swp c ∈ T
    · rw [if_pos b]
      exact ⟨fun h => (by cases h), fun h => absurd ⟨swp c, b, ls⟩ h⟩
    · rw [if_neg b]
      refine ⟨fun _ => ?_, fun _ => rfl⟩
      rintro ⟨s, hs, e⟩
      have sh := sds_shape g (pT.sd s hs)
      have : s = c ∨ s = swp c := by
        rw [swp_small sm]
        unfold lwc at e
        split at e <;> omega
      rcases this with rfl | rfl
      · exact a hs
      · exact b hs
def wrt (ts : List (List Nat)) (ks : List Nat) : List Nat := low ((ks.map fun k => ts.getD k []).flatten)
omit g in
theorem wrt_cons (ts : List (List Nat)) (k : Nat) (ks : List Nat) (c : Nat) : c ∈ wrt ts (k :: ks) ↔ c ∈ low (ts.getD k []) ∨ c ∈ wrt ts ks := by
  unfold wrt low
  rw [List.map_cons, List.flatten_cons, List.map_append, List.mem_append]
include hT
theorem run_leave {i : Nat} (hi : i < l.length) : ∀ ks, (∀ k ∈ ks, k < ts.length) → l.getD i 0 ∉ wrt ts ks → ∀ r ∈ rms l bs, (runC ts ks r).getD i 0 = r.getD i 0
  | [], _, _, _, _ => rfl
  | k :: ks, h, hn, r, hr => by
    have k1 := h k (List.mem_cons_self ..)
    have eT : ts[k]? = some (ts.getD k []) := by rw [List.getD_eq_getElem?_getD, List.getElem?_eq_getElem k1]; rfl
    have pT := hT.part _ (List.mem_of_getElem? eT)
    rw [wrt_cons, not_or] at hn
    show (runC ts ks (wov (ts.getD k []) r)).getD i 0 = _
    rw [run_leave hi ks (fun x hx => h x (List.mem_cons_of_mem _ hx)) hn.2 _ (hT.room k r k1 hr), wov_app g pT hr, app_get hi, if_pos ((sd_at g pT hi).mpr hn.1)]
theorem run_same {i : Nat} (hi : i < l.length) : ∀ ks, (∀ k ∈ ks, k < ts.length) → l.getD i 0 ∈ wrt ts ks → ∀ r ∈ rms l bs, ∀ q ∈ rms l bs, (runC ts ks r).getD i 0 = (runC ts ks q).getD i 0
  | [], _, hn, _, _, _, _ => by cases hn
  | k :: ks, h, hn, r, hr, q, hq => by
    have k1 := h k (List.mem_cons_self ..)
    have h2 := fun x hx => h x (List.mem_cons_of_mem k hx)
    have eT : ts[k]? = some (ts.getD k []) := by rw [List.getD_eq_getElem?_getD, List.getElem?_eq_getElem k1]; rfl
    have pT := hT.part _ (List.mem_of_getElem? eT)
    show (runC ts ks (wov (ts.getD k []) r)).getD i 0 = (runC ts ks (wov (ts.getD k []) q)).getD i 0
    by_cases c : l.getD i 0 ∈ wrt ts ks
    · exact run_same hi ks h2 c _ (hT.room k r k1 hr) _ (hT.room k q k1 hq)
    · have d : l.getD i 0 ∈ low (ts.getD k []) := by
        rcases (wrt_cons ts k ks _).mp hn with z | z
        · exact z
        · exact absurd z c
      have nz : ¬ (cod l (ts.getD k [])).getD i 0 = 0 := fun z => (sd_at g pT hi).mp z d
      rw [run_leave g hT hi ks h2 c _ (hT.room k r k1 hr), run_leave g hT hi ks h2 c _ (hT.room k q k1 hq), wov_app g pT hr, wov_app g pT hq, app_get hi, app_get hi, if_neg nz, if_neg nz]
theorem one_iff (sr : ∀ s ∈ sds l, ∃ r ∈ rms l bs, s ∈ r) {ks : List Nat} (hk : ∀ k ∈ ks, k < ts.length) {r0 : List Nat} (h0 : r0 ∈ rms l bs) : (∀ r ∈ rms l bs, runC ts ks r = runC ts ks r0) ↔ keptL l (wrt ts ks) = l := by
  constructor
  · intro h
    unfold keptL
    refine List.filter_eq_self.mpr fun c hc => decide_eq_true ?_
    refine Decidable.byContradiction fun hn => ?_
    obtain ⟨i, hi, ei⟩ := List.getElem_of_mem hc
    have eD : l.getD i 0 = c := by rw [List.getD_eq_getElem?_getD, List.getElem?_eq_getElem hi]; exact ei
    have cm : c ∈ sds l := List.mem_append_right _ hc
    have sm := g.sm _ hc
    obtain ⟨r, hr, hs⟩ := sr _ cm
    obtain ⟨q, hq, hs2⟩ := sr _ (sds_swp g cm)
    have at_ : ∀ {r s}, r ∈ rms l bs → s ∈ r → lwc s = c → r.getD i 0 = s := fun {r s} hr hs e => by
      obtain ⟨j, hj, ej⟩ := List.getElem_of_mem hs
      have hjl : j < l.length := by rw [← rm_len' g hr]; exact hj
      have ejD : r.getD j 0 = s := by rw [List.getD_eq_getElem?_getD, List.getElem?_eq_getElem hj]; exact ej
      have lj := (rm_side g hr hjl).1
      rw [ejD, e, ← eD] at lj
      have ij : i = j := by
        have a1 : l[i]? = some (l.getD i 0) := by rw [List.getD_eq_getElem?_getD, List.getElem?_eq_getElem hi]; rfl
        have a2 : l[j]? = some (l.getD j 0) := by rw [List.getD_eq_getElem?_getD, List.getElem?_eq_getElem hjl]; rfl
        exact (List.getElem?_inj hi g.nd).mp (by rw [a1, a2, lj])
      subst ij
      exact ejD
    have lc : lwc c = c := by unfold lwc; rw [if_neg (by omega)]
    have e1 := at_ hr hs lc
    have e2 := at_ hq hs2 (by rw [lwc_swp (.inl sm), lc])
    have n : l.getD i 0 ∉ wrt ts ks := by rw [eD]; exact hn
    have x1 := run_leave g hT hi ks hk n r hr
    have x2 := run_leave g hT hi ks hk n q hq
    rw [h r hr] at x1
    rw [h q hq, x1, e1, e2, swp_small sm] at x2
    omega
  · intro h r hr
    refine get_ext (l := l) (rm_len' g (run_room g hT ks hk r hr)) (rm_len' g (run_room g hT ks hk r0 h0)) fun i hi => ?_
    refine run_same g hT hi ks hk ?_ r hr r0 h0
    have : l.getD i 0 ∈ l := by rw [List.getD_eq_getElem?_getD, List.getElem?_eq_getElem hi]; exact List.getElem_mem hi
    have h2 : l.getD i 0 ∈ keptL l (wrt ts ks) := by rw [h]; exact this
    exact (kept_mem.mp h2).2
end
end NC
namespace NC
open PySem PySem.Spec PyProof.Rows L2
section
variable {J J1 : It} {n n1 : Nat} {G G1 : Hp → Prop} {Y Y1 : Nat → Hp → V → Hp → Prop}
theorem lc2_in (w : Walk J1 n1 G1 Y1) {g1 : TG} {tt1 : TT} {te : TE} {vs1 : List Nat} {σ2 : L2.St} {H4 : Hp} {D : Addr} {N : Hp → Prop} (Pv : Nat → Hp → Prop) (h0 : Pv 0 H4) (hG : ∀ i H, i ≤ n1 → Pv i H → G1 H)
    (hs : ∀ j x H H', j < n1 → Pv j H → Y1 j H x H' → g1 x (wipe σ2 vs1) H' fun σ3 H5 => wipe σ3 vs1 = wipe σ2 vs1 ∧ tt1 σ3 H5 fun b H6 =>
        if b = true then te σ3 H6 fun y H7 => ∃ acc, H7 D = some (.lst acc) ∧ acc.length < sizeLine ∧ Pv (j + 1) (upd H7 D (.lst (acc ++ [y]))) else Pv (j + 1) H6) (hd : ∀ H, Pv n1 H → N H) :
    ∃ W1 : Nat → Nat → Hp → Prop, (∃ m, W1 0 m H4) ∧ ∀ j k H, W1 j k H →
      (J1.stop j H ∧ N H) ∨ (J1.go j H ∧ ∃ Nx1 : Hp → Prop, (∀ H', Nx1 H' → ∃ k', k' < k ∧ W1 (j + 1) k' H') ∧ ∀ x H', J1.yld j H x H' → g1 x (wipe σ2 vs1) H' fun σ3 H5 => wipe σ3 vs1 = wipe σ2 vs1 ∧ tt1 σ3 H5 fun b H6 =>
        if b = true then te σ3 H6 fun y H7 => ∃ acc, H7 D = some (.lst acc) ∧ acc.length < sizeLine ∧ Nx1 (upd H7 D (.lst (acc ++ [y]))) else Nx1 H6) := by
  refine ⟨fun i m H => m = n1 - i ∧ i ≤ n1 ∧ Pv i H, ⟨n1, by simp, Nat.zero_le _, h0⟩, ?_⟩
  rintro i m H ⟨rfl, hi, p⟩
  have q := hG i H hi p
  by_cases hlt : i < n1
  · refine .inr ⟨w.goes i H hlt q, Pv (i + 1), fun H' p' => ⟨n1 - (i + 1), by omega, rfl, hlt, p'⟩, fun x H' y => hs i x H H' hlt p (w.yields i H x H' hlt q y)⟩
  · have e : i = n1 := by omega
    subst e
    exact .inl ⟨w.stops H q, hd H p⟩
theorem lc2_it (w : Walk J n G Y) {g g1 : TG} {tt tt1 : TT} {wi1 : TI} {te : TE} {vs vs1 : List Nat} {σ : L2.St} {H1 : Hp} {D : Addr} {Qd : Hp → Prop} (Pv : Nat → Hp → Prop) (h0 : Pv 0 (upd H1 D (.lst []))) (hG : ∀ i H, i ≤ n → Pv i H → G H)
    (hs : ∀ i x H H', i < n → Pv i H → Y i H x H' → g x (wipe σ vs) H' fun σ2 H2 => wipe σ2 vs = wipe σ vs ∧ tt σ2 H2 fun b H3 =>
      if b = true then wi1 σ2 H3 fun J1 H4 => ∃ W1 : Nat → Nat → Hp → Prop, (∃ m, W1 0 m H4) ∧ ∀ j k H, W1 j k H →
      (J1.stop j H ∧ Pv (i + 1) H) ∨ (J1.go j H ∧ ∃ Nx1 : Hp → Prop, (∀ H', Nx1 H' → ∃ k', k' < k ∧ W1 (j + 1) k' H') ∧ ∀ x H', J1.yld j H x H' → g1 x (wipe σ2 vs1) H' fun σ3 H5 => wipe σ3 vs1 = wipe σ2 vs1 ∧ tt1 σ3 H5 fun b H6 =>
        if b = true then te σ3 H6 fun y H7 => ∃ acc, H7 D = some (.lst acc) ∧ acc.length < sizeLine ∧ Nx1 (upd H7 D (.lst (acc ++ [y]))) else Nx1 H6)
      else Pv (i + 1) H3) (hd : ∀ H, Pv n H → Qd H) :
    ∃ W : Nat → Nat → Hp → Prop, (∃ m, W 0 m (upd H1 D (.lst []))) ∧ ∀ i m H, W i m H →
  (J.stop i H ∧ Qd H) ∨ (J.go i H ∧ ∃ Nx : Hp → Prop, (∀ H', Nx H' → ∃ m', m' < m ∧ W (i + 1) m' H') ∧ ∀ x H', J.yld i H x H' → g x (wipe σ vs) H' fun σ2 H2 => wipe σ2 vs = wipe σ vs ∧ tt σ2 H2 fun b H3 =>
    if b = true then wi1 σ2 H3 fun J1 H4 => ∃ W1 : Nat → Nat → Hp → Prop, (∃ m, W1 0 m H4) ∧ ∀ j k H, W1 j k H →
      (J1.stop j H ∧ Nx H) ∨ (J1.go j H ∧ ∃ Nx1 : Hp → Prop, (∀ H', Nx1 H' → ∃ k', k' < k ∧ W1 (j + 1) k' H') ∧ ∀ x H', J1.yld j H x H' → g1 x (wipe σ2 vs1) H' fun σ3 H5 => wipe σ3 vs1 = wipe σ2 vs1 ∧ tt1 σ3 H5 fun b H6 =>
        if b = true then te σ3 H6 fun y H7 => ∃ acc, H7 D = some (.lst acc) ∧ acc.length < sizeLine ∧ Nx1 (upd H7 D (.lst (acc ++ [y]))) else Nx1 H6)
    else Nx H3) := by
  refine ⟨fun i m H => m = n - i ∧ i ≤ n ∧ Pv i H, ⟨n, by simp, Nat.zero_le _, h0⟩, ?_⟩
  rintro i m H ⟨rfl, hi, p⟩
  have q := hG i H hi p
  by_cases hlt : i < n
  · exact .inr ⟨w.goes i H hlt q, Pv (i + 1), fun H' p' => ⟨n - (i + 1), by omega, rfl, hlt, p'⟩, fun x H' y => hs i x H H' hlt p (w.yields i H x H' hlt q y)⟩
  · have e : i = n := by omega
    subst e
    exact .inl ⟨w.stops H q, hd H p⟩
end
end NC
namespace NC
open PySem PySem.Spec PyProof.Rows L2
abbrev sLonger : Stmt := topS 38
abbrev sGather : Stmt := topS 39
abbrev nLonger : List Str := ["lists", "count", "had", "place"]
abbrev nGather : List Str := ["hall", "calls", "shut_texts", "lists", "places", "place"]
theorem scLonger : FnScope nLonger ["lists", "count"] (defScope sLonger) := ⟨rfl, rfl, rfl, by decide +kernel, rfl, by decide +kernel, by decide +kernel⟩
theorem scGather : FnScope nGather ["hall", "calls"] (defScope sGather) := ⟨rfl, rfl, rfl, by decide +kernel, rfl, by decide +kernel, by decide +kernel⟩
theorem atI_last {α : Type} (xs : List α) (v : α) : atI (xs ++ [v]) (-1) = some v := by
  unfold atI ixN
  rw [if_neg (by decide), if_pos (by rw [List.length_append]; simp; omega)]
  have : ((-1 : Int) + ((xs ++ [v]).length : Nat)).toNat = xs.length := by rw [List.length_append]; simp; omega
  rw [this]
  simp
/-- lists of places, each an object of its own that is new since H0 -/
inductive LsR (H0 H : Hp) : List V → List (List Nat) → Prop where
  | nil : LsR H0 H [] []
  | cons {p : Addr} {t : List Nat} {vs : List V} {L : List (List Nat)} (n : H0 p = none) (h : H p = some (.lst (t.map nI))) (r : LsR H0 H vs L) : LsR H0 H (.ref p :: vs) (t :: L)
theorem LsR.same {H0 H H' : Hp} {vs : List V} {L : List (List Nat)} (h : LsR H0 H vs L) (s : Same H H') : LsR H0 H' vs L := by
  induction h with
  | nil => exact .nil
  | cons n h _ ih => exact .cons n (s _ _ h) ih
theorem LsR.len {H0 H : Hp} {vs : List V} {L : List (List Nat)} (h : LsR H0 H vs L) : vs.length = L.length := by
  induction h with
  | nil => rfl
  | cons _ _ _ ih => rw [List.length_cons, List.length_cons, ih]
theorem LsR.app {H0 H : Hp} {vs ws : List V} {L M : List (List Nat)} (h : LsR H0 H vs L) (k : LsR H0 H ws M) : LsR H0 H (vs ++ ws) (L ++ M) := by
  induction h with
  | nil => exact k
  | cons n h _ ih => exact .cons n h ih
theorem LsR.one {H0 H : Hp} {p : Addr} {t : List Nat} (n : H0 p = none) (h : H p = some (.lst (t.map nI))) : LsR H0 H [.ref p] [t] := .cons n h .nil
theorem LsR.at {H0 H : Hp} {vs : List V} {L : List (List Nat)} (h : LsR H0 H vs L) : ∀ {i : Nat} {v : V}, vs[i]? = some v → ∃ p t, v = .ref p ∧ L[i]? = some t ∧ H0 p = none ∧ H p = some (.lst (t.map nI)) := by
  induction h with
  | nil => intro i v hv; cases hv
  | cons n h _ ih =>
    intro i v hv
    cases i with
    | zero => cases hv; exact ⟨_, _, rfl, rfl, n, h⟩
    | succ i => exact ih hv
theorem LsR.putO {H0 H : Hp} {vs : List V} {L : List (List Nat)} {a : Addr} {o : HO} (h : LsR H0 H vs L) (ha : H0 a ≠ none) : LsR H0 (upd H a o) vs L := by
  induction h with
  | nil => exact .nil
  | cons n h _ ih => exact .cons n (by rw [upd_ne (fun z => ha (by rw [← z]; exact n))]; exact h) ih
theorem LsR.old {H0 H1 H : Hp} {vs : List V} {L : List (List Nat)} (h : LsR H1 H vs L) (s : Same H0 H1) : LsR H0 H vs L := by
  induction h with
  | nil => exact .nil
  | cons n h _ ih => exact .cons (L2.Same.free s n) h ih
section
variable {P : Program} {w : World} {K : PySem.W.Frag} {mg : Str → Option Value} {base : Heap} {C fi fb fw ff : Addr} {di db dw df : FuncData}
def spLonger (K : PySem.W.Frag) : Sp := fun vs H Q _ => ∃ (a : Addr) (xs : List V) (L : List (List Nat)) (n : Nat), vs = [.ref a, .int (n : Nat)] ∧ SqL K H a xs ∧ LsR (fun _ => none) H xs L ∧ L.length ≤ 35 ∧ n ≤ 7 ∧ (∀ t ∈ L, t.length ≤ 7) ∧
  ∀ H' p ys, Same H H' → H p = none → H' p = some (.lst ys) → LsR H H' ys (L.flatMap fun had => ((List.range n).filter (gtl had)).map fun p => had ++ [p]) → Q (.ref p) H'
set_option maxHeartbeats 1000000 in
theorem ok_longer {f : Addr} {fd : FuncData} {k : Nat} (B : BM mg) (F : Fun K "longer_lists" "longer_lists" sLonger f fd) : FnOk P w K mg base CX0 (k + 1) f fd ["lists", "count"] (spLonger K) := by
  refine F.ok scLonger (fun vs H Q E h => ?_) (fun cdv A0 outer st H vs Q E hr h => ?_)
  · obtain ⟨a, xs, L, n, rfl, _⟩ := h
    rfl
  · obtain ⟨a, xs, L, n, rfl, hS, hL, l35, n7, t7, q⟩ := h
    have nd := scLonger.nd
    refine ⟨_, (pss_one (ps_ret (pe_lc2 (own := [("had", 2), ("place", 3)]) (vs1 := [3]) (g := gName 2) (g1 := gName 3) (tt := tYes) (tt1 := tOr (tNot (tTru K (tVar 2))) (tTest (tOp (rI0 fun i j => .bl (decide (i < j))) (tOp (rIxL K) (tVar 2) (tUn (rU fun i => .int (-i)) (tC (.int 1)))) (tVar 3)))) (te := tOp rCat (tVar 2) (tLst (tCons (tVar 3) tNil))) rfl nd (pi_list (pv 0)) (blkOk_by (N := nLonger) (sc := defScope sLonger) (by decide +kernel)) (by decide) (fun _ _ _ _ _ => pg_name (i := 2) nd rfl (Or.inl rfl)) (fun _ _ _ _ _ => pts_nil) (fun _ _ _ _ _ => (pi_range1 (by rfl) B.range (pa_cons (pv 1) pa_nil))) (fun _ _ _ _ _ => pg_name (i := 3) nd rfl (Or.inl rfl)) (fun _ _ _ _ _ => (pts_one (PW.pt (pw_or (pt_not (pt_truth (pv 2) (by intro _; rfl))) (pw_or1 (pt_cmpR op_lt (pe_ix ix_list (pv 2) (pe_un un_neg pe_int) (fun _ _ => rfl)) (pv 3) (nomark _))))))) (fun _ _ _ _ _ => (pe_op op_cat (pv 2) (pe_lst (pa_cons (pv 3) pa_nil))))))), ?_⟩
    have wk := walk_list (K := K) (a := a) (xs := xs)
    rw [hL.len] at wk
    have szL : ∀ i : Nat, ((L.take i).flatMap fun had => ((List.range n).filter (gtl had)).map fun p => had ++ [p]).length ≤ 245 := fun i => by
      have h7 : ∀ had : List Nat, (((List.range n).filter (gtl had)).map fun p => had ++ [p]).length ≤ 7 := fun had => by
        rw [List.length_map]
        have := List.length_filter_le (gtl had) (List.range n)
        rw [List.length_range] at this
        omega
      have : ∀ M : List (List Nat), (M.flatMap fun had => ((List.range n).filter (gtl had)).map fun p => had ++ [p]).length ≤ 7 * M.length := fun M => by
        induction M with
        | nil => exact Nat.zero_le _
        | cons x M ih =>
          rw [List.flatMap_cons, List.length_append, List.length_cons]
          have := h7 x
          omega
      have := this (L.take i)
      have l2 : (L.take i).length ≤ L.length := by rw [List.length_take]; omega
      omega
    refine ⟨_, rfl, a, rfl, ⟨_, hS⟩, fun Da na => ?_⟩
    refine lc2_it wk (fun i H' => Same H H' ∧ ∃ ys, H' Da = some (.lst ys) ∧ LsR (upd H Da (.lst [])) H' ys ((L.take i).flatMap fun had => ((List.range n).filter (gtl had)).map fun p => had ++ [p])) ⟨same_upd na, [], upd_same, .nil⟩ (fun i H' _ h => sm_l h.1 hS) ?_ ?_
    · rintro i v G1 G2 hi ⟨s, ys, e, hy⟩ ⟨rfl, hx⟩
      obtain ⟨p, t, rfl, ht, _, hp⟩ := hL.at hx
      have t7' := t7 t (List.mem_of_getElem? ht)
      refine ⟨rfl, yes_i ?_⟩
      refine ⟨_, rfl, (n : Int), rfl, by omega, by omega, ?_⟩
      rw [Int.toNat_natCast]
      refine lc2_in walk_range (fun j H' => Same H H' ∧ ∃ ys, H' Da = some (.lst ys) ∧ LsR (upd H Da (.lst [])) H' ys (((L.take i).flatMap fun had => ((List.range n).filter (gtl had)).map fun p => had ++ [p]) ++ ((List.range j).filter (gtl t)).map fun p => t ++ [p])) ⟨s, ys, e, by rw [List.range_zero, List.filter_nil, List.map_nil, List.append_nil]; exact hy⟩ (fun _ _ _ _ => trivial) ?_ ?_
      · rintro j v G3 G4 hj ⟨s2, ys2, e2, hy2⟩ ⟨rfl, rfl⟩
        have hp2 := s2 _ _ hp
        have er : gtl t j = true → ((List.range (j + 1)).filter (gtl t)).map (fun p => t ++ [p]) = ((List.range j).filter (gtl t)).map (fun p => t ++ [p]) ++ [t ++ [j]] := fun h => by
          rw [List.range_succ, List.filter_append, List.map_append, show List.filter (gtl t) [j] = [j] by simp [h]]
          rfl
        have er0 : gtl t j = false → ((List.range (j + 1)).filter (gtl t)).map (fun p => t ++ [p]) = ((List.range j).filter (gtl t)).map (fun p => t ++ [p]) := fun h => by
          rw [List.range_succ, List.filter_append, List.map_append, show List.filter (gtl t) [j] = [] by simp [h], List.map_nil, List.append_nil]
        have l2 : ys2.length ≤ 252 := by
          rw [hy2.len, List.length_append, List.length_map]
          have := szL i
          have := List.length_filter_le (gtl t) (List.range j)
          rw [List.length_range] at this
          omega
        refine ⟨rfl, ?_⟩
        have make : ∃ (l k : Addr) (xs ys : List V), V.ref p = .ref l ∧ True := ⟨p, p, [], [], rfl, trivial⟩
        have hD : (upd H Da (.lst [])) Da ≠ none := by rw [upd_same]; nofun
        have fin : gtl t j = true → ∀ p1, G4 p1 = none → ∀ p2, (upd G4 p1 (.lst [V.int ((0 : Int) + (j : Nat))])) p2 = none → ∀ G5, G5 = upd (upd G4 p1 (.lst [V.int ((0 : Int) + (j : Nat))])) p2 (.lst (t.map nI ++ [V.int ((0 : Int) + (j : Nat))])) →
            ∃ acc, G5 Da = some (.lst acc) ∧ acc.length < sizeLine ∧ Same H (upd G5 Da (.lst (acc ++ [.ref p2]))) ∧ ∃ ys, (upd G5 Da (.lst (acc ++ [.ref p2]))) Da = some (.lst ys) ∧ LsR (upd H Da (.lst [])) (upd G5 Da (.lst (acc ++ [.ref p2]))) ys (((L.take i).flatMap fun had => ((List.range n).filter (gtl had)).map fun p => had ++ [p]) ++ ((List.range (j + 1)).filter (gtl t)).map fun p => t ++ [p]) := fun hg p1 np1 p2 np2 G5 e5 => by
          have s45 : Same G4 G5 := by rw [e5]; exact sm_trans (same_upd np1) (same_upd np2)
          have e5' := s45 _ _ e2
          have np2' : G4 p2 = none := L2.Same.free (same_upd np1) np2
          have npD : p2 ≠ Da := fun z => by rw [z, e2] at np2'; cases np2'
          have hnp : (upd H Da (.lst [])) p2 = none := by rw [upd_ne npD]; exact L2.Same.free s2 np2'
          refine ⟨ys2, e5', by rw [sizeLine_eq]; omega, sm_over (sm_trans s2 s45) na, ys2 ++ [.ref p2], upd_same, ?_⟩
          rw [er hg, ← List.append_assoc]
          refine LsR.putO (LsR.app (hy2.same s45) (LsR.one hnp ?_)) hD
          rw [e5, upd_same, List.map_append]
          show some (HO.lst (t.map nI ++ [V.int ((0 : Int) + (j : Nat))])) = some (HO.lst (t.map nI ++ [nI j]))
          rw [Int.zero_add]
          rfl
        clear make
        have cat : gtl t j = true → tOp rCat (tVar 2) (tLst (tCons (tVar 3) tNil)) [some (.ref a), some (.int (n : Nat)), some (.ref p), some (.int ((0 : Int) + (j : Nat)))] G4 fun y H7 => ∃ acc, H7 Da = some (.lst acc) ∧ acc.length < sizeLine ∧ Same H (upd H7 Da (.lst (acc ++ [y]))) ∧ ∃ ys, (upd H7 Da (.lst (acc ++ [y]))) Da = some (.lst ys) ∧ LsR (upd H Da (.lst [])) (upd H7 Da (.lst (acc ++ [y]))) ys (((L.take i).flatMap fun had => ((List.range n).filter (gtl had)).map fun p => had ++ [p]) ++ ((List.range (j + 1)).filter (gtl t)).map fun p => t ++ [p]) := fun hg => by
          refine ⟨_, rfl, _, rfl, by show 1 ≤ sizeLine; decide, fun p1 np1 => ?_⟩
          refine ⟨p, p1, t.map nI, [V.int ((0 : Int) + (j : Nat))], rfl, rfl, same_upd np1 _ _ hp2, upd_same, by rw [List.length_map, sizeLine_eq]; show _ + 1 ≤ _; omega, fun p2 np2 => fin hg p1 np1 p2 np2 _ rfl⟩
        refine ⟨_, rfl, _, .inl ⟨_, SqL.of hp2, rfl⟩, ?_⟩
        cases t with
        | nil => exact iteT (iteT (cat rfl))
        | cons t0 t1 =>
          refine iteF ?_
          obtain ⟨M, z, eM⟩ : ∃ M z, t0 :: t1 = M ++ [z] := ⟨(t0 :: t1).dropLast, (t0 :: t1).getLast (by simp), (List.dropLast_concat_getLast (by simp)).symm⟩
          have eg : gtl (t0 :: t1) j = decide (z < j) := by
            rw [eM]
            unfold gtl
            simp
          have ea : atI ((t0 :: t1).map nI) (-1) = some (nI z) := by
            rw [eM, List.map_append]
            exact atI_last _ _
          generalize t0 :: t1 = t at *
          refine ⟨_, rfl, _, rfl, p, _, (-1 : Int), nI z, rfl, rfl, SqL.of hp2, ea, _, rfl, _, _, rfl, rfl, _, rfl, ?_⟩
          rw [show decide ((z : Int) < (0 : Int) + (j : Nat)) = gtl t j by rw [eg]; exact decide_eq_decide.mpr (by omega)]
          cases hg : gtl t j with
          | true => exact iteT (cat hg)
          | false => exact iteF ⟨s2, ys2, e2, by rw [er0 hg]; exact hy2⟩
      · rintro G3 ⟨s2, ys2, e2, hy2⟩
        refine ⟨s2, ys2, e2, ?_⟩
        rw [List.take_add_one, ht, List.flatMap_append]
        show LsR (upd H Da (.lst [])) G3 ys2 (_ ++ List.flatMap _ [t])
        rw [List.flatMap_singleton]
        exact hy2
    · rintro G1 ⟨s, ys, e, hy⟩
      rw [List.take_length] at hy
      exact q G1 Da ys s na e (hy.old (same_upd na))
theorem lv_nil {n s : Nat} (h : LV n s = []) : ∀ k, LV n (s + k) = []
  | 0 => h
  | k + 1 => by
    show (LV n (s + k)).flatMap _ = []
    rw [lv_nil h k]
    rfl
theorem find_in1 {α : Type} {p : α → Bool} {L A B : List α} {t : α} (h : L = A ++ t :: B) (hA : ∀ x ∈ A, p x = false) (ht : p t = true) : L.find? p = some t := by
  rw [h, List.find?_append, List.find?_eq_none.mpr fun x hx => by rw [hA x hx]; nofun, List.find?_cons, ht]
  rfl
theorem ll_at {n s : Nat} (hs : s ≤ n) {i : Nat} {t : List Nat} (ht : (LV n s)[i]? = some t) : ∃ B, LL n = ((List.range s).flatMap (LV n) ++ (LV n s).take i) ++ t :: B := by
  obtain ⟨hi, e⟩ := List.getElem?_eq_some_iff.mp ht
  have e1 : List.range (n + 1) = List.range s ++ (List.range' s (n + 1 - s)) := by
    rw [List.range_eq_range', List.range_eq_range', show n + 1 = s + (n + 1 - s) by omega, ← List.range'_append]
    simp
  have e2 : List.range' s (n + 1 - s) = s :: List.range' (s + 1) (n - s) := by
    rw [show n + 1 - s = (n - s) + 1 by omega, List.range'_succ]
  refine ⟨(LV n s).drop (i + 1) ++ (List.range' (s + 1) (n - s)).flatMap (LV n), ?_⟩
  unfold LL
  rw [e1, e2, List.flatMap_append, List.flatMap_cons]
  have e3 : LV n s = (LV n s).take i ++ t :: (LV n s).drop (i + 1) := by
    rw [← e]
    rw [← List.drop_eq_getElem_cons hi, List.take_append_drop]
  rw [List.append_assoc]
  congr 1
  conv => lhs; rw [e3]
  simp
def okT (l : List Nat) (ts : List (List Nat)) (t : List Nat) : Bool := decide (keptL l (wrt ts t) = l)
/-- nothing, or the list, as a new object -/
def GaQ (H : Hp) (Q : VK) (o : Option (List Nat)) : Prop := match o with
  | none => ∀ H', Same H H' → Q .non H'
  | some t => ∀ H' p, Same H H' → H p = none → H' p = some (.lst (t.map nI)) → Q (.ref p) H'
def spGather (K : PySem.W.Frag) (C : Addr) : Sp := fun vs H Q _ => ∃ x dx sb D l ys fo bs a, ∃ (Ps : List (List Nat)), vs = [.ref x, .ref a] ∧ HallF C H x dx sb D l ys fo bs ∧ (SqL K H a ((Ps.map tx).map V.str) ∨ SqT K H a ((Ps.map tx).map V.str)) ∧ CallsOk l bs Ps ∧ Ps.length ≤ 7 ∧
  GaQ H Q ((LL Ps.length).find? (okT l (Ps.map (shT l fo))))
set_option maxHeartbeats 2000000 in
theorem ok_gather {f fC fS fO fBy fIsP fChP fAFB fTo fSh fSc fWw fLo : Addr} {fd dC dS dO dBy dIsP dChP dAFB dTo dSh dSc dWw dLo : FuncData} {tc : Tok} {k : Nat} (B : BM mg) (Z : HC K mg C fi fb di db) (T : PT K mg C fw ff dw df fIsP fChP fAFB fTo dIsP dChP dAFB dTo) (Cs : DF K mg "check_side" sChkSide ["walls", "side"] fC dC) (S : DF K mg "sides_of" sSides ["walls"] fS dS) (O : DF K mg "other" sOther ["side"] fO dO) (By : DF K mg "by_walls" sByWalls ["walls", "sides"] fBy dBy)
    (Sh : DF K mg "shut" sShut ["hall", "part"] fSh dSh) (Sc : DF K mg "shut_calls" sShCalls ["hall", "calls", "most"] fSc dSc) (Ww : DF K mg "walls_written" sWWrit ["hall", "shut_texts"] fWw dWw) (Lo : DF K mg "longer_lists" sLonger ["lists", "count"] fLo dLo) (mC : mg "MOST_CALLS" = some (.int 12 tc)) (F : Fun K "gather" "gather" sGather f fd) : FnOk P w K mg base CX0 (k + 8) f fd ["hall", "calls"] (spGather K C) := by
  have GC : FnOk P w K mg base CX0 (k + 7) fSc dSc ["hall", "calls", "most"] (spShCalls K C) := ok_shCalls B Z T Cs S O By Sh Sc.F
  have GWw : FnOk P w K mg base CX0 (k + 2) fWw dWw ["hall", "shut_texts"] (spWWrit K C) := ok_wwrit Z T.Y Ww.F
  have GW : FnOk P w K mg base CX0 (k + 1) fw dw ["self"] (spHwalls C) := ok_Hwalls Z T.Y
  have GL : FnOk P w K mg base CX0 (k + 1) fLo dLo ["lists", "count"] (spLonger K) := ok_longer B Lo.F
  refine F.ok scGather (fun vs H Q E h => ?_) (fun cdv A0 outer st H vs Q E hr h => ?_)
  · obtain ⟨x, dx, sb, D, l, ys, fo, bs, a, Ps, rfl, _⟩ := h
    rfl
  · obtain ⟨x, dx, sb, D, l, ys, fo, bs, a, Ps, rfl, hF, hS, hC, h7, q⟩ := h
    have nd := scGather.nd
    have r1 : Room (k + 1) _ := hr.mono (by omega)
    have r2 : Room (k + 2) _ := hr.mono (by omega)
    refine ⟨_, (pss_cons (ps_set (i := 2) nd rfl (.inr rfl) (pe_call GC hr rfl Sc.g Sc.F.kp Sc.b .nil pass0 (pa_cons (pv 0) (pa_cons (pv 1) (pa_cons (pe_glob (v := .int 12) rfl mC ⟨_, rfl⟩) pa_nil)))))
      (pss_cons (ps_set (i := 3) nd rfl (.inl rfl) (pe_lst (pa_cons (pe_lst pa_nil) pa_nil)))
      (pss_cons (ps_while PassesOwn.never (pt_truth (pv 3) (by intro _; rfl)) (pss_cons (ps_for PassesOwn.never rfl (pi_list (pv 3)) (pg_name (i := 4) nd rfl (.inl rfl))
        (pss_one (ps_if (pt_cmpR op_eq (pe_call GWw r2 rfl Ww.g Ww.F.kp Ww.b .nil pass0 (pa_cons (pv 0) (pa_cons (pe_lc (own := [("place", 5)]) (g := gName 5) (tt := tYes) (te := tOp (rIxL K) (tVar 2) (tVar 5)) rfl nd (pi_list (pv 4)) (blkOk_by (N := nGather) (sc := defScope sGather) (by decide +kernel)) (fun _ _ _ _ _ => pg_name (i := 5) nd rfl (Or.inl rfl)) (fun _ _ _ _ _ => pts_nil) (fun _ _ _ _ _ => (pe_ix ix_list (pv 2) (pv 5) (fun _ _ => rfl)))) pa_nil))) (pe_meth0 (pv 0) Z.cl T.Y.mw GW r1 T.Y.bw .nil pass0) (nomark _))
        (pss_one (ps_ret (pv 4)))
        pss_nil)))
      (pss_one (ps_set (i := 3) nd rfl (.inl rfl) (pe_call GL r1 rfl Lo.g Lo.F.kp Lo.b .nil pass0 (pa_cons (pv 3) (pa_cons (pe_callB call_len_seq (by rfl) B.len PySem.boot_len (pa_cons (pv 2) pa_nil)) pa_nil)))))))
      (pss_one (ps_ret pe_non))))), ?_⟩
    have g := hF.G.g
    have hTs := (hC.ts g hF.G.bar hF.hf hF.G.ok).2
    generalize hts : Ps.map (shT l fo) = ts at *
    have lts : ts.length = Ps.length := by rw [← hts, List.length_map]
    generalize hn : Ps.length = n at *
    refine ⟨_, rfl, _, rfl, x, dx, sb, D, l, ys, fo, bs, a, Ps, rfl, hF, hS, hC.len, hC.ok, fun H1 pS s1 nS eS => ?_⟩
    rw [hts] at eS
    refine ⟨by show 0 ≤ sizeLine; decide, fun p0 np0 => ⟨by show 1 ≤ sizeLine; decide, fun L0 nL0 => ?_⟩⟩
    have sL : Same H1 (upd (upd H1 p0 (.lst [])) L0 (.lst [.ref p0])) := sm_trans (same_upd np0) (same_upd nL0)
    have n0L : p0 ≠ L0 := ne_of_none upd_same nL0
    have e0 : (upd (upd H1 p0 (.lst [])) L0 (.lst [.ref p0])) p0 = some (.lst []) := by rw [upd_ne n0L, upd_same]
    have eL0 : (upd (upd H1 p0 (.lst [])) L0 (.lst [.ref p0])) L0 = some (.lst [.ref p0]) := upd_same
    generalize upd (upd H1 p0 (.lst [])) L0 (.lst [.ref p0]) = H2 at sL e0 eL0 ⊢
    have s2 := sm_trans s1 sL
    have n0 : H p0 = none := L2.Same.free s1 np0
    refine ⟨fun m σ H' => ∃ (s : Nat) (La : Addr) (vs : List V) (y4 : Option V), σ = [some (.ref x), some (.ref a), some (.ref pS), some (.ref La), y4, none] ∧ Same H2 H' ∧ H' La = some (.lst vs) ∧ LsR H H' vs (LV n s) ∧ s ≤ n + 1 ∧ (∀ t ∈ (List.range s).flatMap (LV n), ¬ keptL l (wrt ts t) = l) ∧ m = n + 2 - s, ⟨_, 0, L0, _, _, rfl, fun _ _ h => h, eL0, LsR.one n0 e0, Nat.zero_le _, nofun, rfl⟩, ?_⟩
    rintro m σ H3 ⟨s, La, vs, y4, rfl, s3, eLa, hL, sn, no, rfl⟩
    refine ⟨_, rfl, _, .inl ⟨_, SqL.of eLa, rfl⟩, ite2 (fun hne => ?_) (fun he => ?_)⟩
    · have sn' : s ≤ n := by
        rcases Nat.lt_or_ge n s with c | c
        · have : s = n + 1 := by omega
          subst this
          rw [lv_end n h7] at hL
          cases hL
          exact absurd hne (by decide)
        · exact c
      have lvm := lv_mem n h7 s sn'
      refine ⟨fun σ H' => ∃ (La : Addr) (vs : List V) (y4 : Option V), σ = [some (.ref x), some (.ref a), some (.ref pS), some (.ref La), y4, none] ∧ Same H2 H' ∧ H' La = some (.lst vs) ∧ LsR H H' vs (LV n (s + 1)) ∧ (∀ t ∈ (List.range (s + 1)).flatMap (LV n), ¬ keptL l (wrt ts t) = l), ?_, ?_⟩
      · rintro σ' H' ⟨La', vs', y4', h1, h2, h3, h4, h5⟩
        exact ⟨_, by omega, s + 1, La', vs', y4', h1, h2, h3, h4, by omega, h5, rfl⟩
      have wk := walk_list (K := K) (a := La) (xs := vs)
      rw [hL.len] at wk
      refine ⟨_, rfl, La, rfl, ⟨_, SqL.of eLa⟩, for_it wk (fun i σ H' => ∃ (y4 : Option V), σ = [some (.ref x), some (.ref a), some (.ref pS), some (.ref La), y4, none] ∧ Same H3 H' ∧ ∀ t ∈ (LV n s).take i, ¬ keptL l (wrt ts t) = l) ⟨_, rfl, fun _ _ h => h, nofun⟩ (fun i σ H' _ h => by obtain ⟨_, _, h, _⟩ := h; exact SqL.of (h _ _ eLa)) ?_ ?_⟩
      · rintro i v σ G1 G2 hi ⟨y4, rfl, sg, nog⟩ ⟨rfl, hx⟩
        obtain ⟨p, t, rfl, ht, np, hp⟩ := hL.at hx
        obtain ⟨tlt, tlen⟩ := lvm t (List.mem_of_getElem? ht)
        have eS1 := sg _ _ (s3 _ _ (sL _ _ eS))
        have hp1 := sg _ _ hp
        refine ⟨_, rfl, _, rfl, p, rfl, ⟨_, SqL.of hp1⟩, fun Dc nc => ?_⟩
        have wk2 := walk_list (K := K) (a := p) (xs := t.map nI)
        rw [List.length_map] at wk2
        refine lc_it wk2 (fun j H' => Same G2 H' ∧ H' Dc = some (.lst ((((t.take j).map fun k => ts.getD k []).map tx).map V.str))) ⟨same_upd nc, upd_same⟩ (fun _ _ _ h => SqL.of (h.1 _ _ hp1)) ?_ ?_
        · rintro j v G3 G4 hj ⟨s4, e4⟩ ⟨rfl, hx⟩
          rw [List.getElem?_map] at hx
          obtain ⟨c, hc, rfl⟩ := Option.map_eq_some_iff.mp hx
          have clt := tlt c (List.mem_of_getElem? hc)
          have ax : atI ((ts.map tx).map V.str) ((c : Nat) : Int) = some (.str (tx (ts.getD c []))) := atI_nat (by
            rw [List.getElem?_map, List.getElem?_map, List.getD_eq_getElem?_getD, List.getElem?_eq_getElem (by omega)]
            rfl)
          refine ⟨rfl, yes_i ?_⟩
          refine ⟨_, rfl, _, rfl, pS, _, _, _, rfl, rfl, SqL.of (s4 _ _ eS1), ax, ?_⟩
          refine ⟨_, e4, by rw [List.length_map, List.length_map, List.length_map, List.length_take, sizeLine_eq]; omega, sm_over s4 nc, ?_⟩
          rw [upd_same, List.take_add_one, hc, List.map_append, List.map_append, List.map_append]
          rfl
        · rintro G3 ⟨s4, e4⟩
          rw [List.take_length] at e4
          have sHG := sm_trans s2 (sm_trans s3 (sm_trans sg s4))
          have hF3 := hF.same sHG
          refine ⟨x, dx, sb, D, l, ys, fo, Dc, t.map fun k => ts.getD k [], rfl, hF3.G.hA, g, SqL.of e4, by rw [List.length_map]; omega, fun T hT => ?_, fun G5 s5 => ?_⟩
          · obtain ⟨c, hc, rfl⟩ := List.mem_map.mp hT
            have clt := tlt c hc
            have := hTs.2 (ts.getD c []) (by rw [List.getD_eq_getElem?_getD, List.getElem?_eq_getElem (by omega)]; exact List.getElem_mem _)
            exact ⟨by omega, this.2⟩
          have hF5 := hF3.same s5
          refine ⟨_, rfl, x, dx, _, rfl, hF5.G.hA.x, rfl, x, dx, sb, D, l, ys, fo, rfl, hF5.G.hA, rfl, _, rfl, ?_⟩
          have sg5 := sm_trans sg (sm_trans s4 s5)
          refine ite2 (fun h => ?_) (fun h => ?_)
          · have ok : keptL l (wrt ts t) = l := by
              have := of_decide_eq_true h
              injection this with this
              exact tx_inj this
            obtain ⟨B, eB⟩ := ll_at sn' ht
            rw [find_in1 (p := okT l ts) eB (fun x hx => decide_eq_false (by
              rcases List.mem_append.mp hx with h | h
              · exact no x h
              · exact nog x h)) (decide_eq_true ok)] at q
            exact ⟨_, rfl, q _ p (sm_trans s2 (sm_trans s3 sg5)) np (sg5 _ _ hp)⟩
          · have nok : ¬ keptL l (wrt ts t) = l := fun z => by
              rw [show keptL l (low (t.map fun k => ts.getD k []).flatten) = l from z] at h
              exact h (decide_eq_true rfl)
            refine ⟨_, rfl, sg5, fun u hu => ?_⟩
            rw [List.take_add_one, ht] at hu
            rcases List.mem_append.mp hu with h | h
            · exact nog u h
            · rw [List.mem_singleton.mp h]; exact nok
      · rintro σ G1 ⟨y4, rfl, sg, nog⟩
        rw [List.take_length] at nog
        have eS1 := sg _ _ (s3 _ _ (sL _ _ eS))
        refine ⟨_, rfl, _, rfl, pS, _, rfl, .inl (SqL.of eS1), La, vs, LV n s, n, by rw [List.length_map, List.length_map, lts]; rfl, SqL.of (sg _ _ eLa), (hL.same sg).old (fun b o h => by cases h), lv_len n h7 s sn', h7, fun t ht => by rw [(lvm t ht).2]; omega, fun G2 p ys2 s4 np e4 hy => ?_⟩
        refine ⟨p, ys2, y4, rfl, sm_trans s3 (sm_trans sg s4), e4, hy.old (sm_trans s2 (sm_trans s3 sg)), fun t ht => ?_⟩
        rw [List.range_succ, List.flatMap_append] at ht
        rcases List.mem_append.mp ht with h | h
        · exact no t h
        · rw [List.flatMap_singleton] at h
          exact nog t h
    · have e0 : LV n s = [] := by
        have := hL.len
        cases vs with
        | nil => exact List.length_eq_zero_iff.mp this.symm
        | cons => exact absurd rfl he
      rw [List.find?_eq_none.mpr fun t ht => by
        obtain ⟨s', hs', ht⟩ := List.mem_flatMap.mp ht
        rcases Nat.lt_or_ge s' s with c | c
        · unfold okT
          rw [decide_eq_false (no t (List.mem_flatMap.mpr ⟨s', List.mem_range.mpr c, ht⟩))]
          nofun
        · have := lv_nil e0 (s' - s)
          rw [show s + (s' - s) = s' by omega] at this
          rw [this] at ht
          cases ht] at q
      exact q _ (sm_trans s2 s3)
end
end NC
namespace NC
open PySem PySem.Spec PyProof.Rows L2
abbrev sStart : Stmt := topS 42
abbrev sDraw : Stmt := topS 43
abbrev sOf : Stmt := topS 44
abbrev sLetters : Stmt := topS 45
theorem scStart : FnScope ["_law_script", "_law_seed", "_law_cell"] ["_law_script"] (defScope sStart) := ⟨rfl, rfl, rfl, by decide +kernel, rfl, by decide +kernel, by decide +kernel⟩
theorem scDraw : FnScope ["_law_d", "_law_many", "_law_cell", "_law_digit", "_law_mix"] ["_law_d", "_law_many"] (defScope sDraw) := ⟨rfl, rfl, rfl, by decide +kernel, rfl, by decide +kernel, by decide +kernel⟩
theorem scOf : FnScope ["_law_d", "_law_some"] ["_law_d", "_law_some"] (defScope sOf) := ⟨rfl, rfl, rfl, by decide +kernel, rfl, by decide +kernel, by decide +kernel⟩
theorem scLetters : FnScope [] [] (defScope sLetters) := ⟨rfl, rfl, rfl, by decide +kernel, rfl, by decide +kernel, by decide +kernel⟩
def Dr (H : Hp) (d : Addr) : Prop := ∃ (c : Addr) (ns : List Int) (i a b e : Int), H d = some (.lst [.ref c, .int i, .int a, .int b, .int e]) ∧ H c = some (.lst (ns.map V.int)) ∧ 0 ≤ i
theorem SmX.refl (x : Addr) (H : Hp) : SmX x H H := fun _ _ _ h => h
theorem SmX.trans {x : Addr} {H H1 H2 : Hp} (a : SmX x H H1) (b : SmX x H1 H2) : SmX x H H2 := fun c o n h => b c o n (a c o n h)
theorem SmX.of {x : Addr} {H H1 : Hp} (a : Same H H1) : SmX x H H1 := fun c o _ h => a c o h
theorem SmX.upd {x : Addr} {H : Hp} {o : HO} : SmX x H (L2.upd H x o) := fun c z n h => by rw [upd_ne n]; exact h
/-- all but d's list stays, and the first of d's list too -/
def HeadC (H : Hp) (d c : Addr) : Prop := ∃ r, H d = some (.lst (.ref c :: r))
def SmD (d : Addr) (H H' : Hp) : Prop := SmX d H H' ∧ ∀ c, HeadC H d c → HeadC H' d c
theorem SmD.refl (x : Addr) (H : Hp) : SmD x H H := ⟨SmX.refl x H, fun _ h => h⟩
theorem SmD.trans {x : Addr} {H H1 H2 : Hp} (a : SmD x H H1) (b : SmD x H1 H2) : SmD x H H2 := ⟨a.1.trans b.1, fun c h => b.2 c (a.2 c h)⟩
theorem SmD.of {x : Addr} {H H1 : Hp} (a : Same H H1) : SmD x H H1 := ⟨SmX.of a, fun _ ⟨r, h⟩ => ⟨r, a _ _ h⟩⟩
theorem SmD.upd {x c : Addr} {H : Hp} {r r' : List V} (h : H x = some (.lst (.ref c :: r))) : SmD x H (L2.upd H x (.lst (.ref c :: r'))) := ⟨SmX.upd, fun c2 ⟨r2, h2⟩ => by
  rw [h] at h2
  have e : c = c2 := by
    injection h2 with h3
    injection h3 with h3
    injection h3 with h3 _
    injection h3
  exact ⟨r', by rw [← e]; exact upd_same⟩⟩
theorem dr_ne {H : Hp} {c d : Addr} {ns : List Int} {x : Addr} {i a b e : Int} (h1 : H d = some (.lst [.ref x, .int i, .int a, .int b, .int e])) (h2 : H c = some (.lst (ns.map V.int))) : c ≠ d := ne_of h2 h1 fun z => by
  have z2 : ns.map V.int = [.ref x, .int i, .int a, .int b, .int e] := by injection z
  cases ns with
  | nil => cases z2
  | cons n r =>
    rw [List.map_cons] at z2
    injection z2 with z3 _
    cases z3
theorem Dr.same {H H' : Hp} {d : Addr} (h : Dr H d) (e : Same H H') : Dr H' d := by
  obtain ⟨c, ns, i, a, b, f, h1, h2, h3⟩ := h
  exact ⟨c, ns, i, a, b, f, e _ _ h1, e _ _ h2, h3⟩
section
variable {P : Program} {w : World} {K : PySem.W.Frag} {mg : Str → Option Value} {base : Heap}
def spDraw : Sp := fun vs H Q _ => ∃ d n, vs = [.ref d, .int n] ∧ Dr H d ∧ 1 ≤ n ∧ n ≤ 1000 ∧ ∀ H' v, SmD d H H' → Dr H' d → 0 ≤ v → v < n → Q (.int v) H'
set_option maxHeartbeats 1000000 in
theorem ok_draw {f : Addr} {fd : FuncData} {k : Nat} (B : BM mg) (F : Fun K "_law_draw" "_law_draw" sDraw f fd) : FnOk P w K mg base CX0 (k + 1) f fd ["_law_d", "_law_many"] spDraw := by
  refine F.ok scDraw (fun vs H Q E h => ?_) (fun cdv A outer s H vs Q E hr h => ?_)
  · obtain ⟨d, n, rfl, _⟩ := h
    rfl
  · obtain ⟨d, n, rfl, D, hn1, hn2, q⟩ := h
    refine ⟨_, C8.pss_cut (ps_if (PW.pt (pw_and (pt_cmpR op_lt (pe_ix ix_list (pv 0) pe_int (fun _ _ => rfl)) (pv 1) (nomark _))
        (pw_and1 (pt_cmpR op_lt (pe_ix ix_list (pv 0) pe_int (fun _ _ => rfl)) (pe_callB call_len_seq (by rfl) B.len PySem.boot_len (pa_cons (pe_ix ix_list (pv 0) pe_int (fun _ _ => rfl)) pa_nil)) (nomark _)))))
      (pss_cons (ps_set (i := 2) scDraw.nd rfl (.inl rfl) (pe_ix ix_list (pe_ix ix_list (pv 0) pe_int (fun _ _ => rfl)) (pe_ix ix_list (pv 0) pe_int (fun _ _ => rfl)) (fun _ _ => rfl)))
      (pss_cons (ps_asg (pe_op op_add (pe_ix ix_list (pv 0) pe_int (fun _ _ => rfl)) pe_int) (pg_sub (pv 0) pe_int set_list))
      (pss_cons (ps_asg (pe_ifExp (pt_cmpR op_ge (pv 2) (pe_op op_pow pe_int pe_int) (nomark _)) (pv 2) pe_int) (pg_sub (pv 0) pe_int set_list))
      (pss_one (ps_asg (pe_op op_mod (pe_op op_add (pe_op op_add (pe_op op_mul (pe_ix ix_list (pv 0) pe_int (fun _ _ => rfl)) pe_int) (pe_op op_mod (pv 2) pe_int)) pe_int) pe_int) (pg_sub (pv 0) pe_int set_list)))))) pss_nil)
      (pss_cons (ps_if (pt_cmpR op_ge (pe_ix ix_list (pv 0) pe_int (fun _ _ => rfl)) (pv 1) (nomark _))
        (pss_cons (ps_set (i := 3) scDraw.nd rfl (.inl rfl) (pe_op op_mod (pe_ix ix_list (pv 0) pe_int (fun _ _ => rfl)) (pv 1)))
        (pss_cons (ps_asg (pe_op op_fdiv (pe_ix ix_list (pv 0) pe_int (fun _ _ => rfl)) (pv 1)) (pg_sub (pv 0) pe_int set_list))
        (pss_one (ps_ret (pv 3))))) pss_nil)
      (pss_cons (ps_asg (pe_op op_add (pe_ix ix_list (pv 0) pe_int (fun _ _ => rfl)) pe_int) (pg_sub (pv 0) pe_int set_list))
      (pss_cons (ps_set (i := 4) scDraw.nd rfl (.inl rfl) (pe_op op_add (pe_op op_add (pe_op op_mul (pe_ix ix_list (pv 0) pe_int (fun _ _ => rfl)) pe_int) (pe_op op_mul (pe_ix ix_list (pv 0) pe_int (fun _ _ => rfl)) pe_int)) pe_int))
      (pss_cons (ps_set (i := 4) scDraw.nd rfl (.inl rfl) (pe_op op_add (pe_op op_mul (pv 4) (pe_op op_add (pe_op op_mod (pv 4) pe_int) pe_int)) (pe_op op_mul (pe_ix ix_list (pv 0) pe_int (fun _ _ => rfl)) pe_int)))
      (pss_cons (ps_asg (pe_op op_mod (pv 4) pe_int) (pg_sub (pv 0) pe_int set_list))
      (pss_one (ps_ret (pe_op op_mod (pe_op op_add (pe_op op_fdiv (pe_ix ix_list (pv 0) pe_int (fun _ _ => rfl)) pe_int) (pe_op op_mul (pe_op op_mod (pe_ix ix_list (pv 0) pe_int (fun _ _ => rfl)) pe_int) pe_int)) (pv 1))))))))), ?_⟩
    obtain ⟨c, ns, i, a, b, e, hd, hc, hi⟩ := D
    have nc := dr_ne hd hc
    refine ⟨fun σ H' => ∃ y2 y3 y4, σ = [some (.ref d), some (.int n), y2, y3, y4] ∧ SmD d H H' ∧ Dr H' d, ?_, ?_⟩
    · refine ⟨_, rfl, d, _, 2, .int a, rfl, rfl, SqL.of hd, rfl, _, rfl, _, _, rfl, rfl, _, rfl, ite2 (fun t1 => ?_) (fun t1 => ?_)⟩
      · refine ⟨_, rfl, d, _, 1, .int i, rfl, rfl, SqL.of hd, rfl, _, rfl, d, _, 0, .ref c, rfl, rfl, SqL.of hd, rfl, c, _, rfl, .inl (SqL.of hc), _, _, rfl, rfl, _, rfl, ite2 (fun t2 => ?_) (fun t2 => ?_)⟩
        · have hil : i < (ns.length : Int) := by
            have := of_decide_eq_true t2
            rw [List.length_map] at this
            exact this
          obtain ⟨j, rfl⟩ := Int.eq_ofNat_of_zero_le hi
          have hjl : j < ns.length := by omega
          have hat : (ns.map V.int)[j]? = some (.int ns[j]) := by rw [List.getElem?_map, List.getElem?_eq_getElem hjl]; rfl
          refine ⟨_, rfl, d, _, 0, .ref c, rfl, rfl, SqL.of hd, rfl, _, rfl, d, _, 1, .int j, rfl, rfl, SqL.of hd, rfl, c, _, j, .int ns[j], rfl, rfl, SqL.of hc, atI_nat hat, ?_⟩
          generalize ns[j] = z
          refine ⟨_, rfl, d, _, 1, .int j, rfl, rfl, SqL.of hd, rfl, _, _, rfl, rfl, _, rfl, d, _, 1, 1, rfl, rfl, hd, rfl, ?_⟩
          have fin : ∀ (H2 : Hp) (z2 : Int), SmD d H H2 → H2 d = some (.lst [.ref c, .int ((j : Int) + 1), .int z2, .int b, .int e]) →
              ∃ H3, SmD d H H3 ∧ Dr H3 d ∧ H3 = upd H2 d (.lst ([.ref c, .int ((j : Int) + 1), .int z2, .int b, .int e].set 3 (.int ((b * 69621 + z % 998244353 + 1) % 2147483647)))) := fun H2 z2 s2 e2 =>
            ⟨_, s2.trans (SmD.upd e2), ⟨c, ns, _, _, _, _, upd_same, by rw [upd_ne nc]; exact s2.1 _ _ nc hc, by omega⟩, rfl⟩
          refine ⟨_, rfl, _, _, rfl, rfl, ⟨by decide, by decide, by decide⟩, _, _, rfl, rfl, _, rfl, ite2 (fun t3 => ?_) (fun t3 => ?_)⟩
          · refine ⟨_, rfl, _, rfl, d, _, 2, 2, rfl, rfl, upd_same, rfl, ?_⟩
            rw [L2.upd_upd]
            obtain ⟨H3, a1, a2, a3⟩ := fin (upd H d (.lst [.ref c, .int ((j : Int) + 1), .int z, .int b, .int e])) z (SmD.upd hd) upd_same
            refine ⟨_, rfl, d, _, 3, .int b, rfl, rfl, SqL.of upd_same, rfl, _, _, rfl, rfl, .inr ⟨by decide, by decide⟩, _, rfl, _, _, rfl, rfl, (by show (0 : Int) < 998244353; decide), _, _, rfl, rfl, _, _, rfl, rfl, _, _, rfl, rfl, (by show (0 : Int) < 2147483647; decide), _, rfl, d, _, 3, 3, rfl, rfl, upd_same, rfl, ?_⟩
            exact ⟨_, _, _, rfl, by rw [a3] at a1; exact a1, by rw [a3] at a2; exact a2⟩
          · refine ⟨_, rfl, d, _, 2, 2, rfl, rfl, upd_same, rfl, ?_⟩
            rw [L2.upd_upd]
            obtain ⟨H3, a1, a2, a3⟩ := fin (upd H d (.lst [.ref c, .int ((j : Int) + 1), .int 0, .int b, .int e])) 0 (SmD.upd hd) upd_same
            refine ⟨_, rfl, d, _, 3, .int b, rfl, rfl, SqL.of upd_same, rfl, _, _, rfl, rfl, .inr ⟨by decide, by decide⟩, _, rfl, _, _, rfl, rfl, (by show (0 : Int) < 998244353; decide), _, _, rfl, rfl, _, _, rfl, rfl, _, _, rfl, rfl, (by show (0 : Int) < 2147483647; decide), _, rfl, d, _, 3, 3, rfl, rfl, upd_same, rfl, ?_⟩
            exact ⟨_, _, _, rfl, by rw [a3] at a1; exact a1, by rw [a3] at a2; exact a2⟩
        · exact ⟨_, _, _, rfl, SmD.refl _ _, c, ns, i, a, b, e, hd, hc, hi⟩
      · exact iteF ⟨_, _, _, rfl, SmD.refl _ _, c, ns, i, a, b, e, hd, hc, hi⟩
    · rintro σ H1 ⟨y2, y3, y4, rfl, s1, c1, ns1, i1, a1, b1, e1, hd1, hc1, hi1⟩
      have nc1 := dr_ne hd1 hc1
      refine ⟨_, rfl, d, _, 2, .int a1, rfl, rfl, SqL.of hd1, rfl, _, rfl, _, _, rfl, rfl, _, rfl, ite2 (fun t1 => ?_) (fun t1 => ?_)⟩
      · refine ⟨_, rfl, d, _, 2, .int a1, rfl, rfl, SqL.of hd1, rfl, _, rfl, _, _, rfl, rfl, (by show 0 < n; omega), ?_⟩
        refine ⟨_, rfl, d, _, 2, .int a1, rfl, rfl, SqL.of hd1, rfl, _, rfl, _, _, rfl, rfl, ⟨by omega, by omega⟩, _, rfl, d, _, 2, 2, rfl, rfl, hd1, rfl, ?_⟩
        refine ⟨_, rfl, q _ _ (s1.trans (SmD.upd hd1)) ⟨c1, ns1, _, _, _, _, upd_same, by rw [upd_ne nc1]; exact hc1, hi1⟩ (Int.emod_nonneg _ (by omega)) (Int.emod_lt_of_pos _ (by omega))⟩
      · refine ⟨_, rfl, d, _, 4, .int e1, rfl, rfl, SqL.of hd1, rfl, _, _, rfl, rfl, _, rfl, d, _, 4, 4, rfl, rfl, hd1, rfl, ?_⟩
        have hd2 : (upd H1 d (.lst ([.ref c1, .int i1, .int a1, .int b1, .int e1].set 4 (.int (e1 + 1))))) d = some (.lst [.ref c1, .int i1, .int a1, .int b1, .int (e1 + 1)]) := upd_same
        refine ⟨_, rfl, d, _, 3, .int b1, rfl, rfl, SqL.of hd2, rfl, _, _, rfl, rfl, .inr ⟨by decide, by decide⟩, _, rfl, d, _, 4, .int (e1 + 1), rfl, rfl, SqL.of hd2, rfl, _, _, rfl, rfl, .inr ⟨by decide, by decide⟩, _, _, rfl, rfl, _, _, rfl, rfl, ?_⟩
        have m1 : 0 ≤ (b1 * 16807 + (e1 + 1) * 40692 + 7) % 65521 := Int.emod_nonneg _ (by decide)
        have m2 : (b1 * 16807 + (e1 + 1) * 40692 + 7) % 65521 < 65521 := Int.emod_lt_of_pos _ (by decide)
        refine ⟨_, rfl, _, rfl, _, _, rfl, rfl, (by show (0 : Int) < 65521; decide), _, _, rfl, rfl, _, _, rfl, rfl, .inr ⟨by show -(2 ^ 64) < (b1 * 16807 + (e1 + 1) * 40692 + 7) % 65521 + 3; omega, by show (b1 * 16807 + (e1 + 1) * 40692 + 7) % 65521 + 3 < 2 ^ 64; omega⟩, _, rfl, d, _, 4, .int (e1 + 1), rfl, rfl, SqL.of hd2, rfl, _, _, rfl, rfl, .inr ⟨by decide, by decide⟩, _, _, rfl, rfl, ?_⟩
        refine ⟨_, rfl, _, _, rfl, rfl, (by show (0 : Int) < 2147483629; decide), _, rfl, d, _, 3, 3, rfl, rfl, hd2, rfl, ?_⟩
        have hd3 : (upd (upd H1 d (.lst ([.ref c1, .int i1, .int a1, .int b1, .int e1].set 4 (.int (e1 + 1))))) d (.lst ([.ref c1, .int i1, .int a1, .int b1, .int (e1 + 1)].set 3 (.int (((b1 * 16807 + (e1 + 1) * 40692 + 7) * ((b1 * 16807 + (e1 + 1) * 40692 + 7) % 65521 + 3) + (e1 + 1) * 9176) % 2147483629))))) d = some (.lst [.ref c1, .int i1, .int a1, .int (((b1 * 16807 + (e1 + 1) * 40692 + 7) * ((b1 * 16807 + (e1 + 1) * 40692 + 7) % 65521 + 3) + (e1 + 1) * 9176) % 2147483629), .int (e1 + 1)]) := upd_same
        refine ⟨_, rfl, d, _, 3, .int (((b1 * 16807 + (e1 + 1) * 40692 + 7) * ((b1 * 16807 + (e1 + 1) * 40692 + 7) % 65521 + 3) + (e1 + 1) * 9176) % 2147483629), rfl, rfl, SqL.of hd3, rfl, _, _, rfl, rfl, ⟨by decide, by decide⟩, _, rfl, d, _, 3, .int (((b1 * 16807 + (e1 + 1) * 40692 + 7) * ((b1 * 16807 + (e1 + 1) * 40692 + 7) % 65521 + 3) + (e1 + 1) * 9176) % 2147483629), rfl, rfl, SqL.of hd3, rfl, _, _, rfl, rfl, (by show (0 : Int) < 8191; decide), _, _, rfl, rfl, .inr ⟨by decide, by decide⟩, _, _, rfl, rfl, _, rfl, _, _, rfl, rfl, (by show 0 < n; omega), ?_⟩
        refine q _ _ ((s1.trans (SmD.upd hd1)).trans (SmD.upd hd2)) ⟨c1, ns1, _, _, _, _, hd3, by rw [upd_ne nc1, upd_ne nc1]; exact hc1, hi1⟩ (Int.emod_nonneg _ (by omega)) (Int.emod_lt_of_pos _ (by omega))
end
end NC
namespace NC
open PySem PySem.Spec PyProof.Rows L2
def ltrs : List Nat := (List.range 26).map (· + 97)
theorem ltrs_eq : Str.ofString "abcdefghijklmnopqrstuvwxyz" = tx ltrs := by decide +kernel
theorem ltrs_at {i c : Nat} (h : ltrs[i]? = some c) : c = 97 + i ∧ i < 26 := by
  unfold ltrs at h
  rw [List.getElem?_map] at h
  obtain ⟨j, hj, e⟩ := Option.map_eq_some_iff.mp h
  obtain ⟨h1, h2⟩ := List.getElem?_eq_some_iff.mp hj
  rw [List.getElem_range] at h2
  rw [List.length_range] at h1
  omega
theorem smx_l {K : PySem.W.Frag} {d : Addr} {H H' : Hp} {a : Addr} {xs : List V} (e : SmX d H H') (n : a ≠ d) (h : SqL K H a xs) : SqL K H' a xs := by
  rcases h with (h | ⟨o, h⟩) | h
  · exact .inl (.inl (e _ _ n h))
  · exact .inl (.inr ⟨o, e _ _ n h⟩)
  · exact .inr h
section
variable {P : Program} {w : World} {K : PySem.W.Frag} {mg : Str → Option Value} {base : Heap}
def spStart (K : PySem.W.Frag) : Sp := fun vs H Q _ => ∃ (a : Addr) (ns : List Int), vs = [.ref a] ∧ SqL K H a (ns.map V.int) ∧ ∀ H' d, Same H H' → H d = none → Dr H' d → Q (.ref d) H'
theorem ok_start {f : Addr} {fd : FuncData} {k : Nat} (B : BM mg) (F : Fun K "_law_start" "_law_start" sStart f fd) : FnOk P w K mg base CX0 (k + 1) f fd ["_law_script"] (spStart K) := by
  refine F.ok scStart (fun vs H Q E h => ?_) (fun cdv A outer s H vs Q E hr h => ?_)
  · obtain ⟨a, ns, rfl, _⟩ := h
    rfl
  · obtain ⟨a, ns, rfl, hS, q⟩ := h
    refine ⟨_, pss_cons (ps_set (i := 1) scStart.nd rfl (.inl rfl) pe_int)
      (pss_cons (ps_for PassesOwn.never rfl (pi_list (pe_slice sl_list (pv 0) po_none (po_some pe_int))) (pg_name (i := 2) scStart.nd rfl (.inl rfl))
        (pss_one (ps_set (i := 1) scStart.nd rfl (.inl rfl) (pe_op op_mod (pe_op op_add (pe_op op_add (pe_op op_mul (pv 1) pe_int) (pe_op op_mod (pv 2) pe_int)) pe_int) pe_int))))
      (pss_one (ps_ret (pe_lst (pa_cons (pe_callTy call_list_of (by rfl) B.list (by decide +kernel) (pa_cons (pe_slice sl_list (pv 0) po_none (po_some pe_int)) pa_nil)) (pa_cons pe_int (pa_cons pe_int (pa_cons (pv 1) (pa_cons pe_int pa_nil))))))))), ?_⟩
    refine ⟨_, rfl, 63, rfl, a, _, rfl, hS, fun p np => ⟨p, rfl, ⟨_, SqL.of upd_same⟩, ?_⟩⟩
    have ec : cutV (ns.map V.int) none (some 63) = (ns.take 63).map V.int := by
      unfold cutV
      rw [HT.sIx_none, show HT.sIx (ns.map V.int).length (ns.map V.int).length (some 63) = min 63 (ns.map V.int).length from HT.sIx_nat _ _ 63, List.drop_zero, Nat.sub_zero, List.map_take, List.length_map]
      rcases Nat.le_total 63 ns.length with h | h
      · rw [Nat.min_eq_left h]
      · rw [Nat.min_eq_right h, List.take_of_length_le (by rw [List.length_map]; exact Nat.le_refl _), List.take_of_length_le (by rw [List.length_map]; exact h)]
    rw [ec]
    have wk := walk_list (K := K) (a := p) (xs := (ns.take 63).map V.int)
    refine for_it wk (fun i σ H' => ∃ (z : Int) (y2 : Option V), σ = [some (.ref a), some (.int z), y2] ∧ Same H H' ∧ H' p = some (.lst ((ns.take 63).map V.int))) ⟨_, _, rfl, same_upd np, upd_same⟩
      (fun i σ H' _ h => by obtain ⟨_, _, _, _, h⟩ := h; exact SqL.of h) ?_ ?_
    · rintro i x σ H1 H2 hi ⟨z, y2, rfl, sm, ep⟩ ⟨rfl, hx⟩
      rw [List.getElem?_map] at hx
      obtain ⟨c, hc, rfl⟩ := Option.map_eq_some_iff.mp hx
      exact ⟨_, rfl, _, _, rfl, rfl, .inr ⟨by decide, by decide⟩, _, rfl, _, _, rfl, rfl, (by show (0 : Int) < 1000003; decide), _, _, rfl, rfl, _, _, rfl, rfl, _, _, rfl, rfl, (by show (0 : Int) < 2147483647; decide), _, _, rfl, sm, ep⟩
    · rintro σ H1 ⟨z, y2, rfl, sm, ep⟩
      refine ⟨_, rfl, 63, rfl, a, _, rfl, sm_l sm hS, fun p2 np2 => ⟨p2, _, rfl, .inl (SqL.of upd_same), fun p3 np3 => ?_⟩⟩
      rw [ec] at np3 ⊢
      have s3 := sm_upd (o := .lst ((ns.take 63).map V.int)) (sm_upd (o := .lst ((ns.take 63).map V.int)) sm np2) np3
      refine ⟨_, rfl, by show 5 ≤ sizeLine; decide, fun d nd => ?_⟩
      have n3 : p3 ≠ d := ne_of_none upd_same nd
      exact q _ d (sm_upd s3 nd) (L2.Same.free s3 nd) ⟨p3, ns.take 63, 0, 0, _, 0, upd_same, by rw [upd_ne n3, upd_same], Int.le_refl _⟩
def spOf (K : PySem.W.Frag) : Sp := fun vs H Q _ => ∃ d x, vs = [.ref d, x] ∧ Dr H d ∧
  ((∃ a xs, x = .ref a ∧ a ≠ d ∧ SqL K H a xs ∧ 1 ≤ xs.length ∧ xs.length ≤ 1000 ∧ ∀ H' v (i : Nat), SmD d H H' → Dr H' d → xs[i]? = some v → Q v H') ∨
    ∃ l : List Nat, x = .str (tx l) ∧ 1 ≤ l.length ∧ l.length ≤ 1000 ∧ ∀ H' c, SmD d H H' → Dr H' d → c ∈ l → Q (.str (sg c)) H')
theorem ok_of {f fD : Addr} {fd fdD : FuncData} {k : Nat} (B : BM mg) (F : Fun K "_law_of" "_law_of" sOf f fd) (D : DF K mg "_law_draw" sDraw ["_law_d", "_law_many"] fD fdD) : FnOk P w K mg base CX0 (k + 2) f fd ["_law_d", "_law_some"] (spOf K) := by
  have GD : FnOk P w K mg base CX0 (k + 1) fD fdD ["_law_d", "_law_many"] spDraw := ok_draw B D.F
  refine F.ok scOf (fun vs H Q E h => ?_) (fun cdv A outer s H vs Q E hr h => ?_)
  · obtain ⟨d, x, rfl, _⟩ := h
    rfl
  · obtain ⟨d, x, rfl, hD, h⟩ := h
    refine ⟨_, pss_one (ps_ret (pe_ix (IxR.or ix_list ix_str) (pv 1) (pe_call GD hr rfl D.g D.F.kp D.b .nil pass0 (pa_cons (pv 0) (pa_cons (pe_callB (CallR.or call_len_seq call_len_str) (by rfl) B.len PySem.boot_len (pa_cons (pv 1) pa_nil)) pa_nil))) (fun _ _ => rfl))), ?_⟩
    rcases h with ⟨a, xs, rfl, nd, hS, h1, h2, q⟩ | ⟨l, rfl, h1, h2, q⟩
    · refine ⟨_, rfl, _, rfl, _, rfl, .inl ⟨a, xs, rfl, .inl hS, d, _, rfl, hD, by omega, by omega, fun H1 v s1 D1 v0 v1 => ?_⟩⟩
      obtain ⟨j, rfl⟩ := Int.eq_ofNat_of_zero_le v0
      have hj : j < xs.length := by omega
      exact .inl ⟨a, xs, j, xs[j], rfl, rfl, smx_l s1.1 nd hS, atI_nat (List.getElem?_eq_getElem hj), q H1 _ j s1 D1 (List.getElem?_eq_getElem hj)⟩
    · have hz : (tx l).length ≤ sizeLine := by rw [tx_len, sizeLine_eq]; omega
      refine ⟨_, rfl, _, rfl, _, rfl, .inr ⟨tx l, rfl, hz, d, _, rfl, hD, by rw [tx_len]; omega, by rw [tx_len]; omega, fun H1 v s1 D1 v0 v1 => ?_⟩⟩
      obtain ⟨j, rfl⟩ := Int.eq_ofNat_of_zero_le v0
      have hj : j < l.length := by rw [tx_len] at v1; omega
      exact .inr ⟨tx l, j, l[j], rfl, rfl, hz, by rw [tx_list]; exact atI_nat (List.getElem?_eq_getElem hj), q H1 _ s1 D1 (List.getElem_mem hj)⟩
theorem ok_letters {f : Addr} {fd : FuncData} {k : Nat} (F : Fun K "_law_letters" "_law_letters" sLetters f fd) : FnOk P w K mg base CX0 (k + 1) f fd [] (fun vs H Q _ => vs = [] ∧ Q (.str (tx ltrs)) H) := by
  refine F.ok scLetters (fun vs H Q E h => ?_) (fun cdv A outer s H vs Q E hr h => ?_)
  · obtain ⟨rfl, _⟩ := h
    rfl
  · obtain ⟨rfl, q⟩ := h
    refine ⟨_, pss_one (ps_ret pe_str), ?_⟩
    show Q (.str (Str.ofString "abcdefghijklmnopqrstuvwxyz")) H
    rw [ltrs_eq]
    exact q
end
end NC
namespace NC
open PySem PySem.Spec PyProof.Rows L2
abbrev sShuts : Stmt := topS 46
abbrev sPairs : Stmt := topS 49
theorem scShuts : FnScope ["_law_d", "_law_most", "_law_found", "_law_skip", "_law_sign"] ["_law_d", "_law_most"] (defScope sShuts) := ⟨rfl, rfl, rfl, by decide +kernel, rfl, by decide +kernel, by decide +kernel⟩
theorem cut_from (l : List Nat) (j : Nat) : cutS (tx l) (some ((j : Nat) : Int)) none = tx (l.drop j) := by
  unfold cutS
  rw [HT.sIx_none, HT.sIx_nat, tx_list, tx_len]
  show Str.mk _ = Str.mk _
  congr 1
  rcases Nat.le_total j l.length with h | h
  · rw [Nat.min_eq_left h, List.take_of_length_le (by rw [List.length_drop]; exact Nat.le_refl _)]
  · rw [Nat.min_eq_right h, List.drop_of_length_le (Nat.le_refl _), List.drop_of_length_le h]
    simp
theorem strK : (Str.ofString "k") = tx [107] := by decide +kernel
theorem str0 : (Str.ofString "") = tx [] := by decide +kernel
theorem good_k : GoodW [107] := ⟨by decide, by decide, fun c h => by simp at h; omega, by simp⟩
section
variable {P : Program} {w : World} {K : PySem.W.Frag} {mg : Str → Option Value} {base : Heap}
def spShuts : Sp := fun vs H Q _ => ∃ (d : Addr) (n : Int), vs = [.ref d, .int n] ∧ Dr H d ∧ 1 ≤ n ∧ n ≤ 12 ∧ ∀ H' l, SmD d H H' → Dr H' d → GoodW l → (l.length : Int) ≤ n → Q (.str (tx l)) H'
set_option maxHeartbeats 1000000 in
theorem ok_shuts {f fD fL : Addr} {fd fdD fdL : FuncData} {k : Nat} (B : BM mg) (F : Fun K "_law_shuts" "_law_shuts" sShuts f fd) (D : DF K mg "_law_draw" sDraw ["_law_d", "_law_many"] fD fdD) (Lt : DF K mg "_law_letters" sLetters [] fL fdL) :
    FnOk P w K mg base CX0 (k + 2) f fd ["_law_d", "_law_most"] spShuts := by
  have GD : FnOk P w K mg base CX0 (k + 1) fD fdD ["_law_d", "_law_many"] spDraw := ok_draw B D.F
  have GL := ok_letters (P := P) (w := w) (mg := mg) (base := base) (k := k) Lt.F
  refine F.ok scShuts (fun vs H Q E h => ?_) (fun cdv A outer s H vs Q E hr h => ?_)
  · obtain ⟨d, n, rfl, _⟩ := h
    rfl
  · obtain ⟨d, n, rfl, hD, hn1, hn2, q⟩ := h
    refine ⟨_, pss_cons (ps_set (i := 2) scShuts.nd rfl (.inl rfl) pe_str)
      (pss_cons (ps_set (i := 3) scShuts.nd rfl (.inl rfl) (pe_ix ix_list (pe_lst (pa_cons pe_int (pa_cons pe_int (pa_cons pe_int pa_nil)))) (pe_call GD hr rfl D.g D.F.kp D.b .nil pass0 (pa_cons (pv 0) (pa_cons pe_int pa_nil))) (fun _ _ => rfl)))
      (pss_cons (ps_for PassesOwn.never rfl (pi_str (pe_slice sl_str (pe_call0 GL hr rfl Lt.g Lt.F.kp Lt.b .nil pass0) (po_some (pe_call GD hr rfl D.g D.F.kp D.b .nil pass0 (pa_cons (pv 0) (pa_cons pe_int pa_nil)))) po_none)) (pg_name (i := 4) scShuts.nd rfl (.inl rfl))
        (pss_one (ps_if (PW.pt (pw_and (pt_cmpR op_lt (pe_callB call_len_str (by rfl) B.len PySem.boot_len (pa_cons (pv 2) pa_nil)) (pv 1) (nomark _))
            (pw_and1 (PW.pt (pw_or (pt_cmpR op_eq (pv 3) pe_int (nomark _)) (pw_or1 (pt_cmpR op_eq (pe_call GD hr rfl D.g D.F.kp D.b .nil pass0 (pa_cons (pv 0) (pa_cons (pv 3) pa_nil))) pe_int (nomark _))))))))
          (pss_one (ps_set (i := 2) scShuts.nd rfl (.inl rfl) (pe_op op_add_str (pv 2) (pv 4)))) pss_nil)))
      (pss_one (ps_ret (pe_ifExp (pt_cmpR op_ne (pv 2) pe_str (nomark _)) (pv 2) pe_str))))), ?_⟩
    refine ⟨by show 3 ≤ sizeLine; decide, fun p np => ?_⟩
    have ndp : d ≠ p := by
      obtain ⟨c, ns, i, a, b, e, hd, _⟩ := hD
      exact ne_of_none hd np
    have D1 : Dr (upd H p (.lst [.int 0, .int 2, .int 26])) d := hD.same (same_upd np)
    refine ⟨_, rfl, d, 3, rfl, D1, by decide, by decide, fun H1 v s1 D1' v0 v1 => ?_⟩
    have s01 : SmD d H H1 := (SmD.of (same_upd np)).trans s1
    have ep : H1 p = some (.lst [.int 0, .int 2, .int 26]) := s1.1 _ _ (Ne.symm ndp) upd_same
    obtain ⟨sk, hsk, hat⟩ : ∃ sk : Int, (sk = 0 ∨ sk = 2 ∨ sk = 26) ∧ atI [V.int 0, .int 2, .int 26] v = some (.int sk) := by
      have hv : v = 0 ∨ v = 1 ∨ v = 2 := by omega
      rcases hv with rfl | rfl | rfl
      · exact ⟨0, .inl rfl, rfl⟩
      · exact ⟨2, .inr (.inl rfl), rfl⟩
      · exact ⟨26, .inr (.inr rfl), rfl⟩
    refine ⟨p, _, v, .int sk, rfl, rfl, SqL.of ep, hat, ?_⟩
    refine ⟨rfl, _, rfl, d, 9, rfl, D1', by decide, by decide, fun H2 u s2 D2 u0 u1 => ?_⟩
    obtain ⟨j, rfl⟩ := Int.eq_ofNat_of_zero_le u0
    refine ⟨_, rfl, _, rfl, by rw [tx_len, sizeLine_eq]; decide, ?_⟩
    rw [cut_from]
    refine ⟨_, rfl, ?_⟩
    have lz : (tx (ltrs.drop j)).cps.size = (ltrs.drop j).length := tx_len _
    refine for_it walk_str (fun i σ H' => ∃ (l : List Nat) (y4 : Option V), σ = [some (.ref d), some (.int n), some (.str (tx l)), some (.int sk), y4] ∧ SmD d H H' ∧ Dr H' d ∧ l.Pairwise (· < ·) ∧ (∀ c ∈ l, 97 ≤ c ∧ c < 97 + (j + i) ∧ c ≤ 122) ∧ (l.length : Int) ≤ n)
      ⟨[], _, by rw [← str0]; rfl, s01.trans s2, D2, List.Pairwise.nil, (fun c h => absurd h (by simp)), by show (0 : Int) ≤ n; omega⟩ (fun _ _ _ _ _ => trivial) ?_ ?_
    · rintro i x σ H3 H4 hi ⟨l, y4, rfl, s3, D3, pw, hb, hln⟩ ⟨rfl, c, hc, rfl⟩
      have hcc : c = 97 + (j + i) ∧ j + i < 26 := by
        rw [← Array.getElem?_toList, tx_list, List.getElem?_drop] at hc
        exact ltrs_at hc
      have hlz : (tx l).length ≤ sizeLine := by rw [tx_len, sizeLine_eq]; omega
      have stay : ∀ (y : Option V) (H5 : Hp), SmD d H H5 → Dr H5 d → ∃ (l1 : List Nat) (y4 : Option V), [some (V.ref d), some (.int n), some (.str (tx l)), some (.int sk), y] = [some (.ref d), some (.int n), some (.str (tx l1)), some (.int sk), y4] ∧ SmD d H H5 ∧ Dr H5 d ∧ l1.Pairwise (· < ·) ∧
          (∀ c ∈ l1, 97 ≤ c ∧ c < 97 + (j + (i + 1)) ∧ c ≤ 122) ∧ (l1.length : Int) ≤ n := fun y H5 a1 a2 => ⟨l, y, rfl, a1, a2, pw, fun e he => by have := hb e he; omega, hln⟩
      have grow : ∀ (H5 : Hp), SmD d H H5 → Dr H5 d → (l.length : Int) < n → (tx l).length + (sg c).length ≤ sizeLine ∧ ∃ (l1 : List Nat) (y4 : Option V), [some (V.ref d), some (.int n), some (.str (tx l ++ sg c)), some (.int sk), some (.str (sg c))] = [some (.ref d), some (.int n), some (.str (tx l1)), some (.int sk), y4] ∧ SmD d H H5 ∧ Dr H5 d ∧ l1.Pairwise (· < ·) ∧
          (∀ c ∈ l1, 97 ≤ c ∧ c < 97 + (j + (i + 1)) ∧ c ≤ 122) ∧ (l1.length : Int) ≤ n := fun H5 a1 a2 hlt => by
        refine ⟨by rw [tx_len, sizeLine_eq]; show l.length + 1 ≤ _; omega, l ++ [c], _, by rw [sg_tx, tx_app], a1, a2, ?_, fun e he => ?_, by rw [List.length_append]; show ((l.length + 1 : Nat) : Int) ≤ n; omega⟩
        · refine List.pairwise_append.mpr ⟨pw, by simp, fun a ha b hb2 => ?_⟩
          have := hb a ha
          have := List.mem_singleton.mp hb2
          omega
        · rcases List.mem_append.mp he with z | z
          · have := hb e z
            omega
          · have := List.mem_singleton.mp z
            omega
      refine ⟨_, rfl, _, rfl, hlz, _, rfl, _, _, rfl, rfl, _, rfl, ite2 (fun t1 => ?_) (fun t1 => ?_)⟩
      · have hlt : (l.length : Int) < n := by
          have := of_decide_eq_true t1
          rw [tx_len] at this
          exact this
        refine ⟨_, rfl, rfl, _, rfl, ite2 (fun t2 => ?_) (fun t2 => ?_)⟩
        · obtain ⟨g1, g2⟩ := grow H4 s3 D3 hlt
          exact iteT ⟨_, rfl, _, rfl, _, _, rfl, rfl, g1, g2⟩
        · have hsk2 : 1 ≤ sk ∧ sk ≤ 1000 := by
            have : sk ≠ 0 := fun z => t2 (by rw [z]; exact decide_eq_true rfl)
            omega
          refine ⟨_, rfl, _, rfl, d, sk, rfl, D3, hsk2.1, hsk2.2, fun H5 v5 s5 D5 _ _ => ⟨rfl, _, rfl, ite2 (fun t3 => ?_) (fun t3 => ?_)⟩⟩
          · obtain ⟨g1, g2⟩ := grow H5 (s3.trans s5) D5 hlt
            exact ⟨_, rfl, _, rfl, _, _, rfl, rfl, g1, g2⟩
          · exact stay _ H5 (s3.trans s5) D5
      · exact iteF (stay _ H4 s3 D3)
    · rintro σ H3 ⟨l, y4, rfl, s3, D3, pw, hb, hln⟩
      refine ⟨_, rfl, rfl, _, rfl, ite2 (fun t1 => ?_) (fun t1 => ?_)⟩
      · have hl0 : l ≠ [] := fun z => by
          rw [z, ← str0] at t1
          exact absurd t1 (by decide +kernel)
        refine ⟨_, rfl, q H3 l s3 D3 ⟨List.length_pos_iff.mpr hl0, by omega, fun c hc => (by have := hb c hc; omega), pw⟩ hln⟩
      · show Q (.str (Str.ofString "k")) H3
        rw [strK]
        exact q H3 [107] s3 D3 good_k (by show (1 : Int) ≤ n; omega)
end
end NC
namespace NC
open PySem PySem.Spec PyProof.Rows L2
theorem scPairs : FnScope ["_law_shuts_here", "_law_found", "_law_one", "_law_two", "_law_first", "_law_second"] ["_law_shuts_here"] (defScope sPairs) := ⟨rfl, rfl, rfl, by decide +kernel, rfl, by decide +kernel, by decide +kernel⟩
def sec (f y : Nat) : List (List Nat) := [y, upc y].map fun s => [f, s]
def pr2 (x y : Nat) : List (List Nat) := [x, upc x].flatMap fun f => sec f y
def prI (l : List Nat) (i m : Nat) : List (List Nat) := (List.range m).flatMap fun j => pr2 (l.getD i 0) (l.getD (i + 1 + j) 0)
def prs (l : List Nat) (m : Nat) : List (List Nat) := (List.range m).flatMap fun i => prI l i (l.length - (i + 1))
theorem prI_len (l : List Nat) (i m : Nat) : (prI l i m).length = 4 * m := by
  induction m with
  | zero => rfl
  | succ m ih =>
    unfold prI at ih ⊢
    rw [List.range_succ, List.flatMap_append, List.length_append, ih]
    show _ + ([m].flatMap _).length = _
    simp [pr2, sec]
    omega
theorem prs_len (l : List Nat) : ∀ m, (prs l m).length ≤ 4 * l.length * m
  | 0 => by simp [prs]
  | m + 1 => by
    have ih := prs_len l m
    unfold prs at ih ⊢
    rw [List.range_succ, List.flatMap_append, List.length_append]
    have e : ([m].flatMap fun i => prI l i (l.length - (i + 1))).length = 4 * (l.length - (m + 1)) := by simp [prI_len]
    rw [e, Nat.mul_succ]
    have : 4 * (l.length - (m + 1)) ≤ 4 * l.length := Nat.mul_le_mul_left _ (Nat.sub_le _ _)
    omega
theorem lwc_of {x f : Nat} (h : 97 ≤ x ∧ x ≤ 122) (hf : f ∈ [x, upc x]) : lwc f = x := by
  rcases List.mem_cons.mp hf with e | e
  · rw [e]; unfold lwc; rw [if_neg (by omega)]
  · rw [List.mem_singleton.mp e, upc_small h]; unfold lwc; rw [if_pos (by omega)]; omega
theorem sds_of {l : List Nat} (g : GoodW l) {x f : Nat} (hx : x ∈ l) (hf : f ∈ [x, upc x]) : f ∈ sds l := by
  rcases List.mem_cons.mp hf with e | e
  · rw [e]; exact sds_of_small hx
  · rw [List.mem_singleton.mp e, upc_small (g.sm x hx)]; exact sds_of_great g hx
theorem of_sds {l : List Nat} (g : GoodW l) {f : Nat} (h : f ∈ sds l) : lwc f ∈ l ∧ f ∈ [lwc f, upc (lwc f)] := by
  rcases sds_shape g h with ⟨a, b, hm⟩ | ⟨a, b, hm⟩
  · have e : lwc f = f := by unfold lwc; rw [if_neg (by omega)]
    rw [e]
    exact ⟨hm, List.mem_cons_self ..⟩
  · have e : lwc f = f + 32 := by unfold lwc; rw [if_pos ⟨a, b⟩]
    rw [e, upc_small (by omega), show f + 32 - 32 = f by omega]
    exact ⟨hm, by simp⟩
theorem getD_of {l : List Nat} {i : Nat} (h : i < l.length) : l.getD i 0 = l[i] := by simp [List.getD, h]
theorem prs_mem {l : List Nat} (g : GoodW l) (b : List Nat) : b ∈ prs l l.length ↔ isBar l b = true := by
  constructor
  · intro h
    obtain ⟨i, hi, h⟩ := List.mem_flatMap.mp h
    obtain ⟨j, hj, h⟩ := List.mem_flatMap.mp h
    obtain ⟨f, hf, h⟩ := List.mem_flatMap.mp h
    obtain ⟨s, hs, rfl⟩ := List.mem_map.mp h
    have hi := List.mem_range.mp hi
    have hj := List.mem_range.mp hj
    have hk : i + 1 + j < l.length := by omega
    rw [getD_of hi] at hf
    rw [getD_of hk] at hs
    have m1 : l[i] ∈ l := List.getElem_mem hi
    have m2 : l[i + 1 + j] ∈ l := List.getElem_mem hk
    have lt : l[i] < l[i + 1 + j] := List.pairwise_iff_getElem.mp g.rise i (i + 1 + j) hi hk (by omega)
    show (decide (f ∈ sds l) && (decide (s ∈ sds l) && decide (lwc f < lwc s))) = true
    rw [decide_eq_true (sds_of g m1 hf), decide_eq_true (sds_of g m2 hs), lwc_of (g.sm _ m1) hf, lwc_of (g.sm _ m2) hs, decide_eq_true lt]
    rfl
  · intro h
    obtain ⟨f, s, rfl, hf, hs, lt⟩ := bar_two h
    obtain ⟨m1, f1⟩ := of_sds g hf
    obtain ⟨m2, s1⟩ := of_sds g hs
    obtain ⟨i, hi, ei⟩ := List.getElem_of_mem m1
    obtain ⟨k, hk, ek⟩ := List.getElem_of_mem m2
    have hik : i < k := by
      rcases Nat.lt_trichotomy i k with z | z | z
      · exact z
      · subst z
        rw [← ei, ← ek] at lt
        omega
      · have := List.pairwise_iff_getElem.mp g.rise k i hk hi z
        omega
    refine List.mem_flatMap.mpr ⟨i, List.mem_range.mpr hi, List.mem_flatMap.mpr ⟨k - (i + 1), List.mem_range.mpr (by omega), List.mem_flatMap.mpr ⟨f, ?_, List.mem_map.mpr ⟨s, ?_, rfl⟩⟩⟩⟩
    · rw [getD_of hi, ei]
      exact f1
    · rw [show i + 1 + (k - (i + 1)) = k by omega, getD_of hk, ek]
      exact s1
section
variable {P : Program} {w : World} {K : PySem.W.Frag} {mg : Str → Option Value} {base : Heap}
def spPairs : Sp := fun vs H Q _ => ∃ l, vs = [.str (tx l)] ∧ GoodW l ∧ ∀ H' p, Same H H' → H p = none → H' p = some (.lst (((prs l l.length).map tx).map V.str)) → Q (.ref p) H'
set_option maxHeartbeats 1000000 in
theorem ok_pairs {f : Addr} {fd : FuncData} {k : Nat} (B : BM mg) (F : Fun K "_law_pairs" "_law_pairs" sPairs f fd) : FnOk P w K mg base CX0 (k + 1) f fd ["_law_shuts_here"] spPairs := by
  refine F.ok scPairs (fun vs H Q E h => ?_) (fun cdv A outer s H vs Q E hr h => ?_)
  · obtain ⟨l, rfl, _⟩ := h
    rfl
  · obtain ⟨l, rfl, g, q⟩ := h
    have hz : (tx l).length ≤ sizeLine := by rw [tx_len, sizeLine_eq]; have := g.hi; omega
    refine ⟨_, pss_cons (ps_set (i := 1) scPairs.nd rfl (.inl rfl) (pe_lst pa_nil))
      (pss_cons (ps_for PassesOwn.never rfl (pi_range1 (by rfl) B.range (pa_cons (pe_callB call_len_str (by rfl) B.len PySem.boot_len (pa_cons (pv 0) pa_nil)) pa_nil)) (pg_name (i := 2) scPairs.nd rfl (.inl rfl))
        (pss_one (ps_for PassesOwn.never rfl (pi_range2 (by rfl) B.range (pa_cons (pe_op op_add (pv 2) pe_int) (pa_cons (pe_callB call_len_str (by rfl) B.len PySem.boot_len (pa_cons (pv 0) pa_nil)) pa_nil))) (pg_name (i := 3) scPairs.nd rfl (.inl rfl))
          (pss_one (ps_for PassesOwn.never rfl (pi_tup (pe_tup (pa_cons (pe_ix ix_str (pv 0) (pv 2) (fun _ _ => rfl)) (pa_cons (pe_upper (pe_ix ix_str (pv 0) (pv 2) (fun _ _ => rfl))) pa_nil)))) (pg_name (i := 4) scPairs.nd rfl (.inr rfl))
            (pss_one (ps_expr (pe_bm PySem.F.plainAttrs_list PySem.F.slot_list_extend PySem.F.type_list_extend mt_extend (pv 1) (pa_cons
              (pe_lc (own := [("_law_second", 5)]) (g := gName 5) (tt := tYes) rfl scPairs.nd (pi_tup (pe_tup (pa_cons (pe_ix ix_str (pv 0) (pv 3) (fun _ _ => rfl)) (pa_cons (pe_upper (pe_ix ix_str (pv 0) (pv 3) (fun _ _ => rfl))) pa_nil))))
                (blkOk_by (N := ["_law_shuts_here", "_law_found", "_law_one", "_law_two", "_law_first", "_law_second"]) (sc := defScope sPairs) (by decide +kernel)) (fun _ _ _ _ _ => pg_name (i := 5) scPairs.nd rfl (Or.inl rfl)) (fun _ _ _ _ _ => pts_nil) (fun _ _ _ _ _ => pe_op op_add_str (pv 4) (pv 5)))
              pa_nil)))))))))
      (pss_one (ps_ret (pv 1)))), ?_⟩
    refine ⟨Nat.zero_le _, fun p np => ?_⟩
    refine ⟨_, rfl, _, rfl, hz, _, rfl, by rw [tx_len]; omega, by rw [tx_len]; have := g.hi; omega, ?_⟩
    have hi12 := g.hi
    rw [show (((tx l).length : Nat) : Int).toNat = l.length by rw [tx_len]; exact Int.toNat_natCast _]
    refine for_it walk_range (fun i σ H' => ∃ y2 y3 y4 y5, σ = [some (.str (tx l)), some (.ref p), y2, y3, y4, y5] ∧ Same H H' ∧ H' p = some (.lst (((prs l i).map tx).map V.str))) ⟨_, _, _, _, rfl, same_upd np, upd_same⟩ (fun _ _ _ _ _ => trivial) ?_ ?_
    · rintro i v σ H1 H2 hi ⟨y2, y3, y4, y5, rfl, s1, e1⟩ ⟨rfl, rfl⟩
      refine ⟨_, rfl, _, _, rfl, rfl, _, rfl, _, rfl, hz, _, _, rfl, ⟨by omega, by omega, by rw [tx_len]; omega, by rw [tx_len]; omega⟩, ?_⟩
      rw [show ((((tx l).length : Nat) : Int) - (0 + (i : Int) + 1)).toNat = l.length - (i + 1) by rw [tx_len]; omega]
      have hpl := prs_len l i
      refine for_it walk_range (fun j σ H' => ∃ y3 y4 y5, σ = [some (.str (tx l)), some (.ref p), some (.int (0 + (i : Int))), y3, y4, y5] ∧ Same H H' ∧ H' p = some (.lst (((prs l i ++ prI l i j).map tx).map V.str))) ⟨_, _, _, rfl, s1, by rw [e1]; simp [prI]⟩ (fun _ _ _ _ _ => trivial) ?_ ?_
      · rintro j v σ H3 H4 hj ⟨y3, y4, y5, rfl, s3, e3⟩ ⟨rfl, rfl⟩
        have hk : i + 1 + j < l.length := by omega
        have mx : l[i] ∈ l := List.getElem_mem hi
        have my : l[i + 1 + j] ∈ l := List.getElem_mem hk
        have ax : atI (tx l).cps.toList (0 + (i : Int)) = some l[i] := by
          rw [tx_list, show (0 + (i : Int)) = ((i : Nat) : Int) by omega]
          exact atI_nat (List.getElem?_eq_getElem hi)
        have ay : atI (tx l).cps.toList (0 + (i : Int) + 1 + (j : Int)) = some l[i + 1 + j] := by
          rw [tx_list, show (0 + (i : Int) + 1 + (j : Int)) = ((i + 1 + j : Nat) : Int) by omega]
          exact atI_nat (List.getElem?_eq_getElem hk)
        generalize hX : l[i] = x at mx ax
        generalize hY : l[i + 1 + j] = y at my ay
        have ux : Txt.upper (⟨#[x]⟩ : Str) = sg (upc x) := upper_tx (l := [x]) (fun c hc => by simp at hc; rw [hc]; exact g.asc x mx)
        have uy : Txt.upper (⟨#[y]⟩ : Str) = sg (upc y) := upper_tx (l := [y]) (fun c hc => by simp at hc; rw [hc]; exact g.asc y my)
        refine ⟨_, rfl, _, rfl, _, _, x, rfl, rfl, hz, ax, _, rfl, _, rfl, _, _, x, rfl, rfl, hz, ax, ⟨_, rfl⟩, _, rfl, rfl, by show 1 ≤ 5592405; decide, by show 2 ≤ sizeLine; decide, fun T nT => ⟨T, rfl, ⟨_, SqT.of upd_same⟩, ?_⟩⟩
        rw [ux]
        have npT : p ≠ T := ne_of_none e3 nT
        refine for_it (walk_tup (K := K) (a := T) (xs := [x, upc x].map fun e => V.str (sg e))) (fun t σ H' => ∃ y4 y5, σ = [some (.str (tx l)), some (.ref p), some (.int (0 + (i : Int))), some (.int (0 + (i : Int) + 1 + (j : Int))), y4, y5] ∧ Same H H' ∧
          SqT K H' T ([x, upc x].map fun e => V.str (sg e)) ∧ H' p = some (.lst (((prs l i ++ prI l i j ++ ([x, upc x].take t).flatMap fun f => sec f y).map tx).map V.str)))
          ⟨_, _, rfl, sm_upd s3 nT, SqT.of upd_same, by rw [upd_ne npT, e3]; simp⟩ (fun t σ H' _ h => by obtain ⟨_, _, _, _, h, _⟩ := h; exact h) ?_ ?_
        · rintro t v σ H5 H6 ht ⟨y4, y5, rfl, s5, hT5, e5⟩ ⟨rfl, hv⟩
          rw [List.getElem?_map] at hv
          obtain ⟨f, hf, rfl⟩ := Option.map_eq_some_iff.mp hv
          refine ⟨_, rfl, .inl ⟨rfl, _, SqL.of e5⟩, _, rfl, _, rfl, _, _, y, rfl, rfl, hz, ay, _, rfl, _, rfl, _, _, y, rfl, rfl, hz, ay, ⟨_, rfl⟩, _, rfl, rfl, by show 1 ≤ 5592405; decide, by show 2 ≤ sizeLine; decide, fun T2 nT2 => ⟨T2, rfl, ⟨_, SqT.of upd_same⟩, fun D nD => ?_⟩⟩
          rw [uy] at nD ⊢
          have eT2 : (upd H6 T2 (.tup [.str ⟨#[y]⟩, .str (sg (upc y))])) T2 = some (.tup ([y, upc y].map fun e => V.str (sg e))) := upd_same
          have s6 : Same H6 (upd H6 T2 (.tup [.str ⟨#[y]⟩, .str (sg (upc y))])) := same_upd nT2
          generalize (upd H6 T2 (.tup [.str ⟨#[y]⟩, .str (sg (upc y))])) = H7 at nD eT2 s6 ⊢
          refine lc_it (walk_tup (K := K) (a := T2) (xs := [y, upc y].map fun e => V.str (sg e))) (fun u H' => Same H7 H' ∧ H' D = some (.lst (((([y, upc y].take u).map fun s => [f, s]).map tx).map V.str))) ⟨same_upd nD, upd_same⟩ (fun u H' _ h => SqT.of (h.1 _ _ eT2)) ?_ ?_
          · rintro u v H8 H9 hu ⟨s8, e8⟩ ⟨rfl, hv⟩
            rw [List.getElem?_map] at hv
            obtain ⟨c, hc, rfl⟩ := Option.map_eq_some_iff.mp hv
            refine ⟨rfl, yes_i ⟨_, rfl, _, rfl, _, _, rfl, rfl, by show 1 + 1 ≤ sizeLine; decide, _, e8, ?_, sm_over s8 nD, ?_⟩⟩
            · rw [List.length_map, List.length_map, List.length_map, List.length_take, sizeLine_eq]
              have hu2 : u < 2 := hu
              omega
            · rw [upd_same, List.take_add_one, hc, List.map_append, List.map_append, List.map_append, sg_tx, sg_tx, tx_app]
              rfl
          · rintro H8 ⟨s8, e8⟩
            have e58 : H8 p = _ := s8 _ _ (s6 _ _ e5)
            have hsum : (prs l i ++ prI l i j ++ ([x, upc x].take t).flatMap fun f => sec f y).length ≤ 700 := by
              rw [List.length_append, List.length_append, prI_len]
              have h2 : (([x, upc x].take t).flatMap fun f => sec f y).length ≤ 4 := by
                have ht2 : t < 2 := ht
                have : t = 0 ∨ t = 1 := by omega
                rcases this with rfl | rfl
                · simp
                · simp [sec]
              have h3 : 4 * l.length * i ≤ 4 * 12 * 12 := Nat.mul_le_mul (Nat.mul_le_mul_left _ hi12) (by omega)
              omega
            refine ⟨p, D, _, _, rfl, rfl, e58, e8, ?_, ?_⟩
            · rw [List.length_map, List.length_map, List.length_map, List.length_map, List.length_map, sizeLine_eq]
              show _ + 2 ≤ _
              omega
            · refine ⟨_, _, rfl, sm_over (sm_trans (sm_trans s5 s6) s8) np, ?_, ?_⟩
              · have hT8 := sm_t s8 (sm_t s6 hT5)
                have ntp : ∀ o, H8 T = some o → (∀ z, o ≠ .lst z) → T ≠ p := fun o ho hz2 => ne_of ho e58 (hz2 _)
                rcases hT8 with (z | ⟨o, z⟩) | z
                · exact .inl (.inl (by rw [upd_ne (ntp _ z fun q e => by cases e)]; exact z))
                · exact .inl (.inr ⟨o, by rw [upd_ne (ntp _ z fun q e => by cases e)]; exact z⟩)
                · exact .inr z
              · rw [upd_same, List.take_add_one, hf, List.flatMap_append, ← List.map_append, ← List.map_append, List.append_assoc (prs l i ++ prI l i j)]
                simp [sec]
        · rintro σ H5 ⟨y4, y5, rfl, s5, _, e5⟩
          refine ⟨_, _, _, rfl, s5, ?_⟩
          rw [e5]
          have ej : prI l i (j + 1) = prI l i j ++ pr2 x y := by
            unfold prI
            rw [List.range_succ, List.flatMap_append]
            simp only [List.flatMap_cons, List.flatMap_nil, List.append_nil]
            rw [getD_of hi, getD_of hk, hX, hY]
          rw [ej, List.append_assoc]
          rfl
      · rintro σ H3 ⟨y3, y4, y5, rfl, s3, e3⟩
        refine ⟨_, _, _, _, rfl, s3, ?_⟩
        rw [e3]
        have ei : prs l (i + 1) = prs l i ++ prI l i (l.length - (i + 1)) := by
          unfold prs
          rw [List.range_succ, List.flatMap_append]
          simp
        rw [ei]
    · rintro σ H1 ⟨y2, y3, y4, y5, rfl, s1, e1⟩
      exact ⟨_, rfl, q H1 p s1 np e1⟩
end
end NC
namespace NC
open PySem PySem.Spec PyProof.Rows L2
abbrev sOth : Stmt := topS 47
abbrev sWithin : Stmt := topS 48
abbrev sAll : Stmt := topS 50
abbrev sRooms : Stmt := topS 51
theorem scOth : FnScope ["_law_side"] ["_law_side"] (defScope sOth) := ⟨rfl, rfl, rfl, by decide +kernel, rfl, by decide +kernel, by decide +kernel⟩
theorem scWithin : FnScope ["_law_sides_here", "_law_room", "_law_side"] ["_law_sides_here", "_law_room"] (defScope sWithin) := ⟨rfl, rfl, rfl, by decide +kernel, rfl, by decide +kernel, by decide +kernel⟩
theorem scAll : FnScope ["_law_shuts_here", "_law_found", "_law_shut", "_law_longer", "_law_begun_it"] ["_law_shuts_here"] (defScope sAll) := ⟨rfl, rfl, rfl, by decide +kernel, rfl, by decide +kernel, by decide +kernel⟩
theorem scRooms : FnScope ["_law_shuts_here", "_law_bars", "_law_room", "_law_bar"] ["_law_shuts_here", "_law_bars"] (defScope sRooms) := ⟨rfl, rfl, rfl, by decide +kernel, rfl, by decide +kernel, by decide +kernel⟩
theorem isup_sg : ∀ c : Nat, c < 128 → Txt.isupper (sg c) = decide (65 ≤ c ∧ c ≤ 90) := by
  have h : ∀ c : Fin 128, Txt.isupper (sg c.val) = decide (65 ≤ c.val ∧ c.val ≤ 90) := by decide +kernel
  exact fun c hc => h ⟨c, hc⟩
section
variable {P : Program} {w : World} {K : PySem.W.Frag} {mg : Str → Option Value} {base : Heap}
def spOth : Sp := fun vs H Q _ => ∃ c, vs = [.str (sg c)] ∧ isLt c ∧ Q (.str (sg (swp c))) H
theorem ok_oth {f : Addr} {fd : FuncData} {k : Nat} (F : Fun K "_law_other" "_law_other" sOth f fd) : FnOk P w K mg base CX0 (k + 1) f fd ["_law_side"] spOth := by
  refine F.ok scOth (fun vs H Q E h => ?_) (fun cdv A outer s H vs Q E hr h => ?_)
  · obtain ⟨c, rfl, _⟩ := h
    rfl
  · obtain ⟨c, rfl, hc, q⟩ := h
    refine ⟨_, pss_one (ps_ret (pe_ifExp (pt_val (pe_m0 PySem.F.slot_str_isupper PySem.F.type_str_isupper mt_isupper (pv 0))) (pe_lower (pv 0)) (pe_upper (pv 0)))), ?_⟩
    refine ⟨_, rfl, ⟨_, rfl⟩, _, rfl, rfl, trivial, _, rfl, ?_⟩
    have a1 : ∀ e ∈ [c], e < 128 := fun e he => by rw [List.mem_singleton.mp he]; exact hc.asc
    rw [isup_sg c hc.asc]
    refine ite2 (fun t => ?_) (fun t => ?_)
    · have t := of_decide_eq_true t
      refine ⟨_, rfl, ⟨_, rfl⟩, _, rfl, rfl, by show 1 ≤ 5592405; decide, ?_⟩
      rw [show Txt.lower (sg c) = tx [lwc c] from lower_tx (l := [c]) a1, show lwc c = swp c by rw [swp_great t]; unfold lwc; rw [if_pos t]]
      exact q
    · have t : ¬ (65 ≤ c ∧ c ≤ 90) := fun z => t (decide_eq_true z)
      have h1 : 97 ≤ c ∧ c ≤ 122 := hc.elim id fun z => absurd z t
      refine ⟨_, rfl, ⟨_, rfl⟩, _, rfl, rfl, by show 1 ≤ 5592405; decide, ?_⟩
      rw [show Txt.upper (sg c) = tx [upc c] from upper_tx (l := [c]) a1, show upc c = swp c by rw [swp_small h1, upc_small h1]]
      exact q
def spWithin : Sp := fun vs H Q _ => ∃ b r, vs = [.str (tx b), .str (tx r)] ∧ b.length ≤ 100 ∧ ∀ H', Same H H' → Q (.bl (inR b r)) H'
theorem ok_within {f : Addr} {fd : FuncData} {k : Nat} (B : BM mg) (F : Fun K "_law_within" "_law_within" sWithin f fd) : FnOk P w K mg base CX0 (k + 1) f fd ["_law_sides_here", "_law_room"] spWithin := by
  refine F.ok scWithin (fun vs H Q E h => ?_) (fun cdv A outer s H vs Q E hr h => ?_)
  · obtain ⟨b, r, rfl, _⟩ := h
    rfl
  · obtain ⟨b, r, rfl, hbl, q⟩ := h
    refine ⟨_, pss_one (ps_ret (pe_callB (cr_all rfl) (by rfl) B.all (by decide +kernel) (pa_cons (pe_lc (own := [("_law_side", 2)]) (g := gName 2) (tt := tYes) rfl scWithin.nd (pi_str (pv 0))
      (blkOk_by (N := ["_law_sides_here", "_law_room", "_law_side"]) (sc := defScope sWithin) (by decide +kernel)) (fun _ _ _ _ _ => pg_name (i := 2) scWithin.nd rfl (Or.inl rfl)) (fun _ _ _ _ _ => pts_nil)
      (fun _ _ _ _ _ => pe_cmpR op_in_sign (pv 2) (pv 1) (by rfl))) pa_nil))), ?_⟩
    refine ⟨_, rfl, tx b, rfl, fun D nD => ?_⟩
    have lz : (tx b).cps.size = b.length := tx_len _
    refine lc_it walk_str (fun i H' => Same H H' ∧ H' D = some (.lst (((b.take i).map fun s => decide (s ∈ r)).map V.bl))) ⟨same_upd nD, upd_same⟩ (fun _ _ _ _ => trivial) ?_ ?_
    · rintro i x H1 H2 hi ⟨s1, e1⟩ ⟨rfl, c, hc, rfl⟩
      have hcl : b[i]? = some c := by
        rw [← Array.getElem?_toList, tx_list] at hc
        exact hc
      refine ⟨rfl, yes_i ⟨_, rfl, _, rfl, c, tx r, rfl, rfl, ?_⟩⟩
      rw [tx_list]
      refine ⟨_, e1, ?_, sm_over s1 nD, ?_⟩
      · rw [List.length_map, List.length_map, List.length_take, sizeLine_eq]
        omega
      · rw [upd_same, List.take_add_one, hcl, List.map_append, List.map_append]
        rfl
    · rintro H1 ⟨s1, e1⟩
      rw [lz, List.take_length] at e1
      refine ⟨_, _, rfl, SqL.of e1, ?_⟩
      rw [show (b.map fun s => decide (s ∈ r)).all id = inR b r by unfold inR; rw [List.all_map]; rfl]
      exact q _ s1
def spAll : Sp := fun vs H Q _ => ∃ l, vs = [.str (tx l)] ∧ GoodW l ∧ ∀ H' p, Same H H' → H p = none → H' p = some (.lst (((allT l l.length).map tx).map V.str)) → Q (.ref p) H'
theorem allT_lens (l : List Nat) : ∀ k r, r ∈ allT l k → r.length = k
  | 0, r, h => by rw [List.mem_singleton.mp h]; rfl
  | k + 1, r, h => by
    obtain ⟨q, hq, hr⟩ := List.mem_flatMap.mp h
    have := allT_lens l k q hq
    simp only [List.mem_cons, List.not_mem_nil, or_false] at hr
    rcases hr with rfl | rfl <;> simp [this]
theorem pow12 {k : Nat} (h : k ≤ 12) : 2 ^ k ≤ 4096 := Nat.le_trans (Nat.pow_le_pow_right (by decide) h) (by decide)
set_option maxHeartbeats 1000000 in
theorem ok_all {f : Addr} {fd : FuncData} {k : Nat} (F : Fun K "_law_all" "_law_all" sAll f fd) : FnOk P w K mg base CX0 (k + 1) f fd ["_law_shuts_here"] spAll := by
  refine F.ok scAll (fun vs H Q E h => ?_) (fun cdv A outer s H vs Q E hr h => ?_)
  · obtain ⟨l, rfl, _⟩ := h
    rfl
  · obtain ⟨l, rfl, g, q⟩ := h
    have nd := scAll.nd
    have hl12 := g.hi
    refine ⟨_, pss_cons (ps_set (i := 1) nd rfl (.inl rfl) (pe_lst (pa_cons pe_str pa_nil)))
      (pss_cons (ps_for PassesOwn.never rfl (pi_str (pv 0)) (pg_name (i := 2) nd rfl (.inl rfl))
        (pss_cons (ps_set (i := 3) nd rfl (.inl rfl) (pe_lst pa_nil))
        (pss_cons (ps_for PassesOwn.never rfl (pi_list (pv 1)) (pg_name (i := 4) nd rfl (.inl rfl))
          (pss_one (ps_expr (pe_bm PySem.F.plainAttrs_list PySem.F.slot_list_extend PySem.F.type_list_extend mt_extend (pv 3) (pa_cons (pe_lst (pa_cons (pe_op op_add_str (pv 4) (pe_upper (pv 2))) (pa_cons (pe_op op_add_str (pv 4) (pv 2)) pa_nil))) pa_nil)))))
        (pss_one (ps_set (i := 1) nd rfl (.inl rfl) (pv 3))))))
      (pss_one (ps_ret (pv 1)))), ?_⟩
    refine ⟨by show 1 ≤ sizeLine; decide, fun p0 np0 => ?_⟩
    have lz : (tx l).cps.size = l.length := tx_len _
    refine ⟨_, rfl, tx l, rfl, ?_⟩
    refine for_it walk_str (fun i σ H' => ∃ (p : Addr) (y2 y3 y4 : Option V), σ = [some (.str (tx l)), some (.ref p), y2, y3, y4] ∧ Same H H' ∧ H p = none ∧ H' p = some (.lst (((allT l i).map tx).map V.str)))
      ⟨p0, _, _, _, rfl, same_upd np0, np0, by rw [upd_same, str0]; rfl⟩ (fun _ _ _ _ _ => trivial) ?_ ?_
    · rintro i x σ H1 H2 hi ⟨p, y2, y3, y4, rfl, s1, np, e1⟩ ⟨rfl, c, hc, rfl⟩
      rw [lz] at hi
      have hcl : l[i]? = some c := by
        rw [← Array.getElem?_toList, tx_list] at hc
        exact hc
      have hca : c < 128 := g.asc c (List.mem_of_getElem? hcl)
      have ecg : l.getD i 0 = c := by rw [List.getD_eq_getElem?_getD, hcl]; rfl
      have uc : Txt.upper (⟨#[c]⟩ : Str) = sg (upc c) := upper_tx (l := [c]) (fun e he => by rw [List.mem_singleton.mp he]; exact hca)
      refine ⟨Nat.zero_le _, fun L nL => ?_⟩
      have npL : p ≠ L := ne_of_none e1 nL
      have nLH : H L = none := L2.Same.free s1 nL
      have wk := walk_list (K := K) (a := p) (xs := ((allT l i).map tx).map V.str)
      rw [List.length_map, List.length_map] at wk
      have tl := allT_len l i
      have tp := pow12 (Nat.le_trans (Nat.le_of_lt hi) hl12)
      refine ⟨_, rfl, p, rfl, ⟨_, SqL.of (by rw [upd_ne npL]; exact e1)⟩, ?_⟩
      refine for_it wk (fun j σ H' => ∃ (y4 : Option V), σ = [some (.str (tx l)), some (.ref p), some (.str ⟨#[c]⟩), some (.ref L), y4] ∧ Same H H' ∧ H' p = some (.lst (((allT l i).map tx).map V.str)) ∧
        H' L = some (.lst (((((allT l i).take j).flatMap fun r => [r ++ [upc c], r ++ [c]]).map tx).map V.str))) ⟨_, rfl, sm_upd s1 nL, by rw [upd_ne npL]; exact e1, upd_same⟩ (fun j σ H' _ h => by obtain ⟨_, _, _, h, _⟩ := h; exact SqL.of h) ?_ ?_
      · rintro j x σ H3 H4 hj ⟨y4, rfl, s3, e3, eL⟩ ⟨rfl, hx⟩
        rw [List.getElem?_map, List.getElem?_map] at hx
        obtain ⟨z, hz, rfl⟩ := Option.map_eq_some_iff.mp hx
        obtain ⟨r, hr2, rfl⟩ := Option.map_eq_some_iff.mp hz
        have rl := allT_lens l i r (List.mem_of_getElem? hr2)
        have bnd : (tx r).length + 1 ≤ sizeLine := by rw [tx_len, sizeLine_eq]; omega
        have fl : (((allT l i).take j).flatMap fun r => [r ++ [upc c], r ++ [c]]).length ≤ 2 * 4096 := by
          have h : ∀ xs : List (List Nat), (xs.flatMap fun r => [r ++ [upc c], r ++ [c]]).length = 2 * xs.length := fun xs => by
            induction xs with
            | nil => rfl
            | cons x r ih =>
              have e : (x :: r).length = r.length + 1 := rfl
              rw [List.flatMap_cons, List.length_append, ih, e]
              show 2 + 2 * r.length = _
              omega
          rw [h, List.length_take]
          omega
        refine ⟨_, rfl, .inl ⟨rfl, _, SqL.of eL⟩, _, rfl, _, rfl, ⟨_, rfl⟩, _, rfl, rfl, by show 1 ≤ 5592405; decide, ?_⟩
        rw [uc]
        refine ⟨_, _, rfl, rfl, bnd, _, rfl, _, rfl, _, _, rfl, rfl, bnd, by show 2 ≤ sizeLine; decide, fun T nT => ?_⟩
        have nLT : L ≠ T := ne_of_none eL nT
        refine ⟨L, T, _, _, rfl, rfl, by rw [upd_ne nLT]; exact eL, upd_same, by rw [List.length_map, List.length_map, sizeLine_eq]; show _ + 2 ≤ _; omega, ?_⟩
        have npT : p ≠ T := ne_of_none e3 nT
        refine ⟨_, rfl, sm_over (sm_upd s3 nT) nLH, by rw [upd_ne npL, upd_ne npT]; exact e3, ?_⟩
        rw [upd_same, List.take_add_one, hr2, List.flatMap_append, List.map_append, List.map_append]
        show some (HO.lst (_ ++ [V.str (tx r ++ sg (upc c)), V.str (tx r ++ sg c)])) = some (HO.lst (_ ++ _))
        rw [sg_tx, sg_tx, tx_app, tx_app]
        simp
      · rintro σ H3 ⟨y4, rfl, s3, e3, eL⟩
        rw [List.take_length] at eL
        refine ⟨_, rfl, L, _, _, _, rfl, s3, nLH, ?_⟩
        rw [eL]
        show _ = some (HO.lst ((((allT l i).flatMap fun r => [r ++ [upc (l.getD i 0)], r ++ [l.getD i 0]]).map tx).map V.str))
        rw [ecg]
    · rintro σ H1 ⟨p, y2, y3, y4, rfl, s1, np, e1⟩
      rw [lz] at e1
      exact ⟨_, rfl, q H1 p s1 np e1⟩
end
end NC
namespace NC
open PySem PySem.Spec PyProof.Rows L2
abbrev sLists : Stmt := topS 63
abbrev nLists : List Str := ["_law_many", "_law_found", "_law_k", "_law_sized", "_law_size", "_law_begun_it", "_law_one"]
theorem scLists : FnScope nLists ["_law_many"] (defScope sLists) := ⟨rfl, rfl, rfl, by decide +kernel, rfl, by decide +kernel, by decide +kernel⟩
theorem toD_inj {a b : List Nat} (h : toD a = toD b) : a = b := by
  unfold toD at h
  replace h := PyData.list.inj h
  induction a generalizing b with
  | nil => cases b with
    | nil => rfl
    | cons => cases h
  | cons x a ih =>
    cases b with
    | nil => cases h
    | cons y b =>
      rw [List.map_cons, List.map_cons, List.map_cons, List.map_cons, List.cons.injEq] at h
      obtain ⟨h1, h2⟩ := h
      have h1 := PyData.int.inj h1
      rw [ih h2, Int.ofNat.inj h1]
/-- a list of places and what it stands for -/
def prD (p : Addr) (t : List Nat) : V × PyData := (.ref p, toD t)
theorem lsR_pairs {H0 H : Hp} {vs : List V} {L : List (List Nat)} (h : LsR H0 H vs L) : ∃ es : List (V × PyData), es.map Prod.fst = vs ∧ es.map Prod.snd = L.map toD ∧ ∀ e ∈ es, ∃ p t, e = prD p t ∧ H0 p = none ∧ H p = some (.lst (t.map nI)) := by
  induction h with
  | nil => exact ⟨[], rfl, rfl, nofun⟩
  | @cons p t vs L n h _ ih =>
    obtain ⟨es, h1, h2, h3⟩ := ih
    refine ⟨prD p t :: es, by rw [List.map_cons, h1]; rfl, by rw [List.map_cons, h2]; rfl, fun e he => ?_⟩
    rcases List.mem_cons.mp he with rfl | he
    · exact ⟨p, t, rfl, n, h⟩
    · exact h3 e he
theorem pairs_lsR {H0 H : Hp} : ∀ {es : List (V × PyData)} {L : List (List Nat)}, es.map Prod.snd = L.map toD → (∀ e ∈ es, ∃ p t, e = prD p t ∧ H0 p = none ∧ H p = some (.lst (t.map nI))) → LsR H0 H (es.map Prod.fst) L
  | [], [], _, _ => .nil
  | [], _ :: _, h, _ => by cases h
  | _ :: _, [], h, _ => by cases h
  | e :: es, t :: L, h, k => by
    rw [List.map_cons, List.map_cons, List.cons.injEq] at h
    obtain ⟨p, t', rfl, n, hp⟩ := k e (List.mem_cons_self ..)
    have := toD_inj h.1
    subst this
    exact .cons n hp (pairs_lsR h.2 fun e he => k e (List.mem_cons_of_mem _ he))
theorem nI_dp {K : PySem.W.Frag} {H : Hp} : ∀ t : List Nat, DpAll K H (t.map nI) ((t.map fun n : Nat => (n : Int)).map .int)
  | [] => .nil
  | x :: t => .cons (.int _) (nI_dp t)
theorem fd_mem : ∀ n, ∀ t ∈ FD n, t.length ≤ n
  | 0, t, h => by rw [List.mem_singleton.mp h]; exact Nat.le_refl _
  | n + 1, t, h => by
    rw [FD] at h
    rcases List.mem_append.mp h with h | h
    · exact Nat.le_succ_of_le (fd_mem n t h)
    · obtain ⟨u, hu, rfl⟩ := List.mem_map.mp h
      rw [List.length_append]
      exact Nat.succ_le_succ (fd_mem n u hu)
theorem al_toD (L : List (List Nat)) : PySem.W.AllAlike (L.map toD) := fun d hd d' hd' => by
  obtain ⟨a, _, rfl⟩ := List.mem_map.mp hd
  obtain ⟨b, _, rfl⟩ := List.mem_map.mp hd'
  exact PySem.W.alikeAll_map (α := Int) _ _
theorem so_toD (L : List (List Nat)) : PySem.W.Sortable (L.map toD) := .inr fun d hd => by
  obtain ⟨a, _, rfl⟩ := List.mem_map.mp hd
  exact ⟨nofun, nofun⟩
theorem ll_len {n s : Nat} (h7 : n ≤ 7) : ∀ i, i ≤ n + 1 → ((List.range i).flatMap (LV n)).length ≤ 35 * i
  | 0, _ => Nat.zero_le _
  | i + 1, hi => by
    rw [List.range_succ, List.flatMap_append, List.length_append, List.flatMap_singleton]
    have := ll_len (s := s) h7 i (by omega)
    have := lv_len n h7 i (by omega)
    omega
theorem toD_depth (t : List Nat) : (toD t).depth ≤ 60 := by
  have : ∀ t : List Nat, PyData.depthAll ((t.map fun n : Nat => (n : Int)).map .int) = 0 := fun t => by
    induction t with
    | nil => rfl
    | cons x t ih =>
      show max 0 (PyData.depthAll _) = 0
      rw [ih]
      rfl
  show PyData.depthAll _ + 1 ≤ 60
  rw [this]
  decide
section
variable {P : Program} {w : World} {K : PySem.W.Frag} {mg : Str → Option Value} {base : Heap}
def spLists : Sp := fun vs H Q _ => ∃ n : Nat, vs = [.int (n : Nat)] ∧ n ≤ 7 ∧ ∀ H' p ws, Same H H' → H p = none → H' p = some (.lst ws) → LsR H H' ws (LL n) → Q (.ref p) H'
set_option maxHeartbeats 2000000 in
theorem ok_lists {f : Addr} {fd : FuncData} {k : Nat} (B : BM mg) (F : Fun K "_law_lists" "_law_lists" sLists f fd) : FnOk P w K mg base CX0 (k + 1) f fd ["_law_many"] spLists := by
  refine F.ok scLists (fun vs H Q E h => ?_) (fun cdv A0 outer st H vs Q E hr h => ?_)
  · obtain ⟨n, rfl, _⟩ := h
    rfl
  · obtain ⟨n, rfl, h7, q⟩ := h
    have nd := scLists.nd
    have hu5 : (A0.deeper (envOfC "_law_lists" (defScope sLists) st.heap.objs.size f cdv)).units + 65 < cLine := by have := hr.un; omega
    refine ⟨_, (pss_cons (ps_set (i := 1) nd rfl (.inl rfl) (pe_lst (pa_cons (pe_lst pa_nil) pa_nil)))
      (pss_cons (ps_for PassesOwn.never rfl (pi_range1 (by rfl) B.range (pa_cons (pv 0) pa_nil)) (pg_name (i := 2) nd rfl (.inr rfl))
        (pss_one (ps_set (i := 1) nd rfl (.inl rfl) (pe_op op_cat (pv 1) (pe_lc (own := [("_law_begun_it", 5)]) (g := gName 5) (tt := tYes) (te := tOp rCat (tVar 5) (tLst (tCons (tVar 2) tNil))) rfl nd (pi_list (pv 1)) (blkOk_by (N := nLists) (sc := defScope sLists) (by decide +kernel)) (fun _ _ _ _ _ => pg_name (i := 5) nd rfl (Or.inl rfl)) (fun _ _ _ _ _ => pts_nil) (fun _ _ _ _ _ => (pe_op op_cat (pv 5) (pe_lst (pa_cons (pv 2) pa_nil)))))))))
      (pss_cons (ps_set (i := 3) nd rfl (.inl rfl) (pe_lst pa_nil))
      (pss_cons (ps_for PassesOwn.never rfl (pi_range1 (by rfl) B.range (pa_cons (pe_op op_add (pv 0) pe_int) pa_nil)) (pg_name (i := 4) nd rfl (.inr rfl))
        (pss_one (ps_expr (pe_bm PySem.F.plainAttrs_list PySem.F.slot_list_extend PySem.F.type_list_extend mt_extend (pv 3) (pa_cons (pe_callB (cr_sortedD hu5) (by rfl) B.sorted (by decide +kernel) (pa_cons (pe_lc (own := [("_law_one", 6)]) (g := gName 6) (tt := tTest (tOp rEq (tCB (fun xs H Q => ∃ p ys, xs = [V.ref p] ∧ (SqL K H p ys ∨ SqT K H p ys) ∧ Q (.int ys.length) H) (tCons (tVar 6) tNil)) (tVar 4))) (te := tVar 6) rfl nd (pi_list (pv 1)) (blkOk_by (N := nLists) (sc := defScope sLists) (by decide +kernel)) (fun _ _ _ _ _ => pg_name (i := 6) nd rfl (Or.inl rfl)) (fun _ _ _ _ _ => (pts_one (pt_cmpR op_eq (pe_callB call_len_seq (by rfl) B.len PySem.boot_len (pa_cons (pv 6) pa_nil)) (pv 4) (nomark _)))) (fun _ _ _ _ _ => pv 6)) pa_nil)) pa_nil)))))
      (pss_one (ps_ret (pv 3))))))), ?_⟩
    refine ⟨by show 0 ≤ sizeLine; decide, fun p0 np0 => ⟨by show 1 ≤ sizeLine; decide, fun L0 nL0 => ?_⟩⟩
    have sL : Same H (upd (upd H p0 (.lst [])) L0 (.lst [.ref p0])) := sm_trans (same_upd np0) (same_upd nL0)
    have n0L : p0 ≠ L0 := ne_of_none upd_same nL0
    have e0 : (upd (upd H p0 (.lst [])) L0 (.lst [.ref p0])) p0 = some (.lst []) := by rw [upd_ne n0L, upd_same]
    have eL0 : (upd (upd H p0 (.lst [])) L0 (.lst [.ref p0])) L0 = some (.lst [.ref p0]) := upd_same
    generalize upd (upd H p0 (.lst [])) L0 (.lst [.ref p0]) = H2 at sL e0 eL0 ⊢
    refine ⟨_, rfl, (n : Int), rfl, by omega, by omega, ?_⟩
    rw [Int.toNat_natCast]
    have pw2 : ∀ i, i ≤ 7 → 2 ^ i ≤ 128 := fun i hi => Nat.le_trans (Nat.pow_le_pow_right (by decide) hi) (by decide)
    refine for_it walk_range (fun i σ H' => ∃ (La : Addr) (vs : List V) (y2 : Option V), σ = [some (.int (n : Nat)), some (.ref La), y2, none, none, none, none] ∧ Same H H' ∧ H' La = some (.lst vs) ∧ LsR H H' vs (FD i)) ⟨L0, _, _, rfl, sL, eL0, LsR.one np0 e0⟩ (fun _ _ _ _ _ => trivial) ?_ ?_
    · rintro i v σ H3 H4 hi ⟨La, vs, y2, rfl, s, eL, hL⟩ ⟨rfl, rfl⟩
      have lv : vs.length ≤ 128 := by rw [hL.len, fd_len]; exact pw2 i (by omega)
      have wk := walk_list (K := K) (a := La) (xs := vs)
      rw [hL.len] at wk
      refine ⟨_, rfl, _, rfl, La, rfl, ⟨_, SqL.of eL⟩, fun Dc nc => ?_⟩
      refine lc_it wk (fun j H' => Same H4 H' ∧ ∃ ys, H' Dc = some (.lst ys) ∧ LsR (upd H4 Dc (.lst [])) H' ys (((FD i).take j).map (· ++ [i]))) ⟨same_upd nc, [], upd_same, .nil⟩ (fun j H' _ h => SqL.of (h.1 _ _ eL)) ?_ ?_
      · rintro j v G1 G2 hj ⟨sg, ys, eD, hy⟩ ⟨rfl, hx⟩
        obtain ⟨p, t, rfl, ht, np, hp⟩ := hL.at hx
        have tl := fd_mem i t (List.mem_of_getElem? ht)
        have hp1 := sg _ _ hp
        refine ⟨rfl, yes_i ?_⟩
        refine ⟨_, rfl, _, rfl, by show 1 ≤ sizeLine; decide, fun p1 np1 => ?_⟩
        refine ⟨p, p1, t.map nI, [V.int ((0 : Int) + (i : Nat))], rfl, rfl, same_upd np1 _ _ hp1, upd_same, by rw [List.length_map, sizeLine_eq]; show _ + 1 ≤ _; omega, fun p2 np2 => ?_⟩
        have s45 := sm_trans (same_upd np1 (o := .lst [V.int ((0 : Int) + (i : Nat))])) (same_upd np2 (o := .lst (t.map nI ++ [V.int ((0 : Int) + (i : Nat))])))
        have np2' := L2.Same.free (same_upd np1) np2
        have npD : p2 ≠ Dc := fun z => by rw [z, eD] at np2'; cases np2'
        refine ⟨ys, s45 _ _ eD, by rw [hy.len, List.length_map, List.length_take, fd_len, sizeLine_eq]; have := pw2 i (by omega); omega, sm_over (sm_trans sg s45) nc, ys ++ [.ref p2], upd_same, ?_⟩
        rw [List.take_add_one, ht, List.map_append]
        refine LsR.putO (LsR.app (hy.same s45) (LsR.one (by rw [upd_ne npD]; exact L2.Same.free sg np2') ?_)) (by rw [upd_same]; nofun)
        rw [upd_same, List.map_append, Int.zero_add]
        rfl
      · rintro G1 ⟨sg, ys, eD, hy⟩
        rw [List.take_of_length_le (Nat.le_refl _)] at hy
        have ly : ys.length ≤ 128 := by rw [hy.len, List.length_map, fd_len]; exact pw2 i (by omega)
        refine ⟨La, Dc, vs, ys, rfl, rfl, sg _ _ eL, eD, by rw [sizeLine_eq]; omega, fun p3 np3 => ?_⟩
        have s3 := sm_trans sg (same_upd np3 (o := .lst (vs ++ ys)))
        refine ⟨p3, _, _, rfl, sm_trans s s3, upd_same, ?_⟩
        exact LsR.app (hL.same s3) ((hy.old (sm_trans s (same_upd nc))).same (same_upd np3))
    · rintro σ H3 ⟨La, vs, y2, rfl, s3, eL, hL⟩
      have wk := walk_list (K := K) (a := La) (xs := vs)
      rw [hL.len] at wk
      refine ⟨Nat.zero_le _, fun q0 nq0 => ?_⟩
      refine ⟨_, rfl, _, _, rfl, rfl, ((n + 1 : Nat) : Int), rfl, by omega, by omega, ?_⟩
      rw [Int.toNat_natCast]
      refine for_it walk_range (fun i σ H' => ∃ (ws : List V) (y4 : Option V), σ = [some (.int (n : Nat)), some (.ref La), y2, some (.ref q0), y4, none, none] ∧ Same H3 H' ∧ H' q0 = some (.lst ws) ∧ LsR H H3 ws ((List.range i).flatMap (LV n))) ⟨[], _, rfl, same_upd nq0, upd_same, .nil⟩ (fun _ _ _ _ _ => trivial) ?_ ?_
      · rintro i v σ G1 G2 hi ⟨ws, y4, rfl, sg, eq, hw⟩ ⟨rfl, rfl⟩
        have eL2 := sg _ _ eL
        refine ⟨_, rfl, .inl ⟨rfl, _, SqL.of eq⟩, _, rfl, La, rfl, ⟨_, SqL.of eL2⟩, fun Dc nc => ?_⟩
        refine lc_it wk (fun j H' => Same G2 H' ∧ ∃ ys, H' Dc = some (.lst ys) ∧ LsR H H3 ys (((FD n).take j).filter fun t => decide (t.length = i))) ⟨same_upd nc, [], upd_same, by rw [List.take_zero, List.filter_nil]; exact .nil⟩ (fun j H' _ h => SqL.of (h.1 _ _ eL2)) ?_ ?_
        · rintro j v G3 G4 hj ⟨sk, ys, eD, hy⟩ ⟨rfl, hx⟩
          obtain ⟨p, t, rfl, ht, np, hp⟩ := hL.at hx
          have hp1 := sk _ _ (sg _ _ hp)
          refine ⟨rfl, ?_⟩
          refine ⟨_, rfl, p, _, rfl, .inl (SqL.of hp1), _, rfl, rfl, _, rfl, ?_⟩
          rw [show decide (V.int (((t.map nI).length : Nat) : Int) = V.int ((0 : Int) + (i : Nat))) = decide (t.length = i) by
            rw [List.length_map, decide_eq_decide]
            exact ⟨fun h => by have := V.int.inj h; omega, fun h => by rw [h, Int.zero_add]⟩]
          by_cases c : t.length = i
          · rw [decide_eq_true c]
            refine iteT ⟨_, rfl, ys, eD, ?_, sm_over sk nc, ys ++ [.ref p], upd_same, ?_⟩
            · rw [hy.len, sizeLine_eq]
              have := List.length_filter_le (fun t : List Nat => decide (t.length = i)) ((FD n).take j)
              rw [List.length_take, fd_len] at this
              have := pw2 n h7
              omega
            · rw [List.take_add_one, ht, List.filter_append]
              refine hy.app ?_
              show LsR H H3 [.ref p] (List.filter _ [t])
              rw [List.filter_cons, if_pos (decide_eq_true c), List.filter_nil]
              exact LsR.one np hp
          · rw [decide_eq_false c]
            refine iteF ⟨sk, ys, eD, ?_⟩
            rw [List.take_add_one, ht, List.filter_append]
            show LsR H H3 ys (_ ++ List.filter _ [t])
            rw [List.filter_cons, if_neg (by rw [decide_eq_false c]; nofun), List.filter_nil, List.append_nil]
            exact hy
        · rintro G3 ⟨sk, ys, eD, hy⟩
          rw [List.take_of_length_le (Nat.le_refl _)] at hy
          obtain ⟨es, h1, h2, h3⟩ := lsR_pairs hy
          have sg3 := sm_trans sg sk
          refine ⟨Dc, es, rfl, SqL.of (by rw [h1]; exact eD), fun e he => ?_, by rw [h2]; exact al_toD _, by rw [h2]; exact so_toD _, fun e he => ?_, fun zs p3 pm pw np3 => ?_⟩
          · obtain ⟨p, t, rfl, _, hp⟩ := h3 e he
            exact .lst (SqL.of (sg3 _ _ hp)) (nI_dp t)
          · obtain ⟨p, t, rfl, _, hp⟩ := h3 e he
            exact toD_depth t
          have ez : zs.map Prod.snd = (LV n i).map toD := by
            refine perm_srt PySem.W.dataLt dataLt_asym _ _ ?_ (List.pairwise_map.mpr ((lv_srt n h7 i (by omega)).imp fun h => by rw [lt_toD]; exact h)) (List.pairwise_map.mpr pw)
            refine (pm.map _).trans ?_
            rw [h2]
            exact (lv_perm n h7 i (by omega)).map _
          have hz : LsR H H3 (zs.map Prod.fst) (LV n i) := pairs_lsR ez fun e he => h3 e (pm.mem_iff.mp he)
          have s5 := same_upd np3 (o := .lst (zs.map Prod.fst))
          have eq3 := s5 _ _ (sk _ _ eq)
          have lw := hw.len
          have lw2 := ll_len (s := 0) h7 i (by omega)
          have lz := hz.len
          have lz2 := lv_len n h7 i (by omega)
          refine ⟨q0, p3, ws, zs.map Prod.fst, rfl, rfl, eq3, upd_same, by rw [sizeLine_eq]; omega, ?_⟩
          refine ⟨_, _, rfl, sm_over (sm_trans sg3 s5) nq0, upd_same, ?_⟩
          rw [List.range_succ, List.flatMap_append, List.flatMap_singleton]
          exact hw.app hz
      · rintro σ G1 ⟨ws, y4, rfl, sg, eq, hw⟩
        exact ⟨_, rfl, q G1 q0 ws (sm_trans s3 sg) (L2.Same.free s3 nq0) eq (hw.same sg)⟩
end
end NC
namespace NC
open PySem PySem.Spec PyProof.Rows L2
section
variable {P : Program} {w : World} {K : PySem.W.Frag} {mg : Str → Option Value} {base : Heap}
def scpR : Scope := { kind := .function, names := [(".0", .local), ("_law_room", .cell), ("any", .globalImplicit), ("_law_bars", .cell)], isGenerator := false, isCoroutine := false }
def tInR (K : PySem.W.Frag) : TE := tCB (rAny K) (tCons (tLc (iList K (tVar 1)) (gName 3) tYes (tCall spWithin [] E0 (tCons (tVar 3) (tCons (tVar 2) tNil))) [3]) tNil)
def spRooms (K : PySem.W.Frag) : Sp := fun vs H Q _ => ∃ l a bs, vs = [.str (tx l), .ref a] ∧ GoodW l ∧ SqL K H a ((bs.map tx).map V.str) ∧ (∀ b ∈ bs, b.length ≤ 100) ∧ bs.length ≤ 100 ∧ ∀ H' p, Same H H' → H p = none → H' p = some (.lst (((rms l bs).map tx).map V.str)) → Q (.ref p) H'
set_option maxHeartbeats 1000000 in
theorem ok_rooms {f fA fW : Addr} {fd fdA fdW : FuncData} {k : Nat} (B : BM mg) (hany : mg "any" = none) (F : Fun K "_law_rooms" "_law_rooms" sRooms f fd) (Al : DF K mg "_law_all" sAll ["_law_shuts_here"] fA fdA) (W : DF K mg "_law_within" sWithin ["_law_sides_here", "_law_room"] fW fdW) :
    FnOk P w K mg base CX0 (k + 2) f fd ["_law_shuts_here", "_law_bars"] (spRooms K) := by
  have GA : FnOk P w K mg base CX0 (k + 1) fA fdA ["_law_shuts_here"] spAll := ok_all Al.F
  have GW : FnOk P w K mg base CX0 (k + 1) fW fdW ["_law_sides_here", "_law_room"] spWithin := ok_within B W.F
  refine F.ok scRooms (fun vs H Q E h => ?_) (fun cdv A outer s H vs Q E hr h => ?_)
  · obtain ⟨l, a, bs, rfl, _⟩ := h
    rfl
  · obtain ⟨l, a, bs, rfl, g, hS, hbl, hbn, q⟩ := h
    have nd := scRooms.nd
    refine ⟨_, pss_one (ps_ret (pe_lc (own := [("_law_room", 2)]) (g := gName 2) (tt := tNot (tB (tInR K))) rfl nd (pi_list (pe_call GA hr rfl Al.g Al.F.kp Al.b .nil pass0 (pa_cons (pv 0) pa_nil)))
      (blkOk_by (N := ["_law_shuts_here", "_law_bars", "_law_room", "_law_bar"]) (sc := defScope sRooms) (by decide +kernel)) (fun _ _ _ _ _ => pg_name (i := 2) nd rfl (Or.inr rfl))
      (fun _ _ _ _ _ => pts_one (pt_not (pt_val (pe_callB (cr_any rfl) (by rfl) hany (by decide +kernel) (pa_cons (pe_lc (own := [("_law_bar", 3)]) (g := gName 3) (tt := tYes) (te := tCall spWithin [] E0 (tCons (tVar 3) (tCons (tVar 2) tNil))) rfl nd (pi_list (pv 1))
        (blkOk_by (N := ["_law_shuts_here", "_law_bars", "_law_room", "_law_bar"]) (sc := scpR) (by decide +kernel)) (fun _ _ _ _ _ => pg_name (i := 3) nd rfl (Or.inl rfl)) (fun _ _ _ _ _ => pts_nil)
        (fun _ _ _ _ _ => pe_call GW hr rfl W.g W.F.kp W.b .nil pass0 (pa_cons (pv 3) (pa_cons (pv 2) pa_nil)))) pa_nil))))) (fun _ _ _ _ _ => pv 2))), ?_⟩
    refine ⟨_, rfl, l, rfl, g, fun H1 pA s1 npA eA => ⟨pA, rfl, ⟨_, SqL.of eA⟩, fun D nD => ?_⟩⟩
    have nDH : H D = none := L2.Same.free s1 nD
    have wk := walk_list (K := K) (a := pA) (xs := ((allT l l.length).map tx).map V.str)
    rw [List.length_map, List.length_map] at wk
    have tl := allT_len l l.length
    have tp := pow12 g.hi
    refine lc_it wk (fun j H' => Same H1 H' ∧ H' D = some (.lst (((((allT l l.length).take j).filter fun r => !bs.any fun b => inR b r).map tx).map V.str))) ⟨same_upd nD, upd_same⟩ (fun j H' _ h => SqL.of (h.1 _ _ eA)) ?_ ?_
    · rintro j x G2 G3 hj ⟨u2, e2⟩ ⟨rfl, hx⟩
      rw [List.getElem?_map, List.getElem?_map] at hx
      obtain ⟨z, hz, rfl⟩ := Option.map_eq_some_iff.mp hx
      obtain ⟨r, hr2, rfl⟩ := Option.map_eq_some_iff.mp hz
      have tk : (allT l l.length).take (j + 1) = (allT l l.length).take j ++ [r] := by rw [List.take_add_one, hr2]; rfl
      have hS3 := sm_l (sm_trans s1 u2) hS
      have wkb := walk_list (K := K) (a := a) (xs := (bs.map tx).map V.str)
      rw [List.length_map, List.length_map] at wkb
      refine ⟨rfl, _, rfl, a, rfl, ⟨_, hS3⟩, fun Da na => ?_⟩
      refine lc_it wkb (fun u H' => Same G3 H' ∧ H' Da = some (.lst (((bs.take u).map fun b => inR b r).map V.bl))) ⟨same_upd na, upd_same⟩ (fun u H' _ h => sm_l h.1 hS3) ?_ ?_
      · rintro u x G5 G6 hu ⟨u5, ea⟩ ⟨rfl, hx⟩
        rw [List.getElem?_map, List.getElem?_map] at hx
        obtain ⟨z, hz, rfl⟩ := Option.map_eq_some_iff.mp hx
        obtain ⟨b, hb1, rfl⟩ := Option.map_eq_some_iff.mp hz
        refine ⟨rfl, yes_i ⟨_, rfl, _, rfl, b, r, rfl, hbl b (List.mem_of_getElem? hb1), fun G7 u7 => ⟨_, u7 _ _ ea, ?_, sm_over (sm_trans u5 u7) na, ?_⟩⟩⟩
        · rw [List.length_map, List.length_map, List.length_take, sizeLine_eq]
          omega
        · rw [upd_same, List.take_add_one, hb1, List.map_append, List.map_append]
          rfl
      · rintro G5 ⟨u5, ea⟩
        rw [List.take_length] at ea
        refine ⟨Da, _, rfl, SqL.of ea, _, rfl, ?_⟩
        rw [show (bs.map fun b => inR b r).any id = bs.any fun b => inR b r by rw [List.any_map]; rfl]
        refine ite2 (fun t => ⟨_, rfl, _, u5 _ _ e2, ?_, sm_over (sm_trans u2 u5) nD, ?_⟩) (fun t => ⟨sm_trans u2 u5, ?_⟩)
        · rw [List.length_map, List.length_map, sizeLine_eq]
          have h1 : (((allT l l.length).take j).filter fun r => !bs.any fun b => inR b r).length ≤ 4096 := Nat.le_trans (List.length_filter_le _ _) (by rw [List.length_take]; omega)
          omega
        · rw [upd_same, tk, List.filter_append, List.filter_cons, if_pos t]
          simp
        · rw [u5 _ _ e2, tk, List.filter_append, List.filter_cons, if_neg t]
          simp
    · rintro G2 ⟨u2, e2⟩
      rw [List.take_length] at e2
      exact q G2 D (sm_trans s1 u2) nDH e2
end
end NC
namespace NC
open PySem PySem.Spec PyProof.Rows L2
abbrev sFine : Stmt := topS 52
abbrev nFine : List Str := ["_law_shuts_here", "_law_rooms_here", "_law_shut", "_law_there", "_law_pair", "_law_back", "_law_room"]
theorem scFine : FnScope nFine ["_law_shuts_here", "_law_rooms_here"] (defScope sFine) := ⟨rfl, rfl, rfl, by decide +kernel, rfl, by decide +kernel, by decide +kernel⟩
theorem inV_bl (b : Bool) (xs : List Bool) : inV (.bl b) (xs.map V.bl) = decide (b ∈ xs) := by
  unfold inV
  rw [List.any_map, Bool.eq_iff_iff, List.any_eq_true, decide_eq_true_eq]
  constructor
  · rintro ⟨x, hx, e⟩
    have e : (x == b) = true := e
    rw [← eq_of_beq e]
    exact hx
  · intro h
    exact ⟨b, h, by show (b == b) = true; simp⟩
theorem flat_bl (xs : List Bool) : (xs.map V.bl).all flatV = true := by
  rw [List.all_map]
  exact List.all_eq_true.mpr fun _ _ => rfl
theorem rms_len {l : List Nat} (g : GoodW l) {bs : List (List Nat)} : (rms l bs).length ≤ 4096 := by
  unfold rms
  refine Nat.le_trans (List.length_filter_le _ _) ?_
  rw [allT_len]
  exact pow12 g.hi
section
variable {P : Program} {w : World} {K : PySem.W.Frag} {mg : Str → Option Value} {base : Heap}
def tWith (i j : Nat) : TE := tCall spWithin [] E0 (tCons (tVar i) (tCons (tVar j) tNil))
def spFine (K : PySem.W.Frag) : Sp := fun vs H Q _ => ∃ l a rs, vs = [.str (tx l), .ref a] ∧ GoodW l ∧ SqL K H a ((rs.map tx).map V.str) ∧ rs.length ≤ 4096 ∧ ∀ H' b, Same H H' → (b = true → Fine l rs) → Q (.bl b) H'
set_option maxHeartbeats 2000000 in
theorem ok_fine {f fP fO fW : Addr} {fd fdP fdO fdW : FuncData} {k : Nat} (B : BM mg) (hany : mg "any" = none) (F : Fun K "_law_fine" "_law_fine" sFine f fd) (Pr : DF K mg "_law_pairs" sPairs ["_law_shuts_here"] fP fdP) (O : DF K mg "_law_other" sOth ["_law_side"] fO fdO) (W : DF K mg "_law_within" sWithin ["_law_sides_here", "_law_room"] fW fdW) :
    FnOk P w K mg base CX0 (k + 2) f fd ["_law_shuts_here", "_law_rooms_here"] (spFine K) := by
  have GP : FnOk P w K mg base CX0 (k + 1) fP fdP ["_law_shuts_here"] spPairs := ok_pairs B Pr.F
  have GO : FnOk P w K mg base CX0 (k + 1) fO fdO ["_law_side"] spOth := ok_oth O.F
  have GW : FnOk P w K mg base CX0 (k + 1) fW fdW ["_law_sides_here", "_law_room"] spWithin := ok_within B W.F
  refine F.ok scFine (fun vs H Q E h => ?_) (fun cdv A outer st H vs Q E hr h => ?_)
  · obtain ⟨l, a, rs, rfl, _⟩ := h
    rfl
  · obtain ⟨l, a, rs, rfl, g, hS, hrn, q⟩ := h
    have nd := scFine.nd
    refine ⟨_, pss_cons (ps_for PassesOwn.never rfl (pi_str (pv 0)) (pg_name (i := 2) nd rfl (.inr rfl))
        (pss_cons (ps_setLc (i := 3) (own := [("_law_room", 6)]) (g := gName 6) (tt := tYes) rfl nd rfl rfl (sw_true rfl rfl rfl (by decide +kernel)) (pi_list (pv 1)) (blkOk_by (N := nFine) (sc := defScope sFine) (by decide +kernel)) (fun _ _ _ _ _ => pg_name (i := 6) nd rfl (Or.inl rfl)) (fun _ _ _ _ _ => pts_nil)
          (fun _ _ _ _ _ => pe_cmpR op_in_sign (pv 2) (pv 6) (by rfl)))
        (pss_one (ps_if (PW.pt (pw_or (pt_cmpR op_notIn_seq pe_bl (pv 3) (by rfl)) (pw_or1 (pt_cmpR op_notIn_seq pe_bl (pv 3) (by rfl))))) (pss_one (ps_ret pe_bl)) pss_nil))))
      (pss_cons (ps_for PassesOwn.never rfl (pi_list (pe_call GP hr rfl Pr.g Pr.F.kp Pr.b .nil pass0 (pa_cons (pv 0) pa_nil))) (pg_name (i := 4) nd rfl (.inr rfl))
        (pss_cons (ps_set (i := 5) nd rfl (.inr rfl) (pe_op op_add_str (pe_call GO hr rfl O.g O.F.kp O.b .nil pass0 (pa_cons (pe_ix ix_str (pv 4) pe_int (fun _ _ => rfl)) pa_nil)) (pe_call GO hr rfl O.g O.F.kp O.b .nil pass0 (pa_cons (pe_ix ix_str (pv 4) pe_int (fun _ _ => rfl)) pa_nil))))
        (pss_one (ps_if (pt_not (pt_val (pe_callB (cr_any rfl) (by rfl) hany (by decide +kernel) (pa_cons (pe_lc (own := [("_law_room", 6)]) (g := gName 6) (tt := tYes) (te := tOrV (tWith 4 6) (tWith 5 6)) rfl nd (pi_list (pv 1)) (blkOk_by (N := nFine) (sc := defScope sFine) (by decide +kernel)) (fun _ _ _ _ _ => pg_name (i := 6) nd rfl (Or.inl rfl)) (fun _ _ _ _ _ => pts_nil)
            (fun _ _ _ _ _ => pe_or (pe_call GW hr rfl W.g W.F.kp W.b .nil pass0 (pa_cons (pv 4) (pa_cons (pv 6) pa_nil))) (pe_one (pe_call GW hr rfl W.g W.F.kp W.b .nil pass0 (pa_cons (pv 5) (pa_cons (pv 6) pa_nil)))))) pa_nil))))
          (pss_one (ps_ret pe_bl)) pss_nil))))
      (pss_one (ps_ret pe_bl))), ?_⟩
    have lz : (tx l).cps.size = l.length := tx_len _
    have hl12 := g.hi
    have wkr := walk_list (K := K) (a := a) (xs := (rs.map tx).map V.str)
    rw [List.length_map, List.length_map] at wkr
    refine ⟨_, rfl, tx l, rfl, ?_⟩
    refine for_it walk_str (fun i σ H' => ∃ (y2 y3 y4 y5 y6 : Option V), σ = [some (.str (tx l)), some (.ref a), y2, y3, y4, y5, y6] ∧ Same H H' ∧ ∀ c ∈ l.take i, (∃ r ∈ rs, c ∈ r) ∧ ∃ r ∈ rs, c ∉ r) ⟨_, _, _, _, _, rfl, L2.Same.refl _, fun c h => absurd h (by simp)⟩ (fun _ _ _ _ _ => trivial) ?_ ?_
    · rintro i x σ H1 H2 hi ⟨y2, y3, y4, y5, y6, rfl, s1, hv⟩ ⟨rfl, c, hc, rfl⟩
      have hcl : l[i]? = some c := by
        rw [← Array.getElem?_toList, tx_list] at hc
        exact hc
      have hS2 := sm_l s1 hS
      refine ⟨_, rfl, a, rfl, ⟨_, hS2⟩, fun Da na => ?_⟩
      refine lc_it wkr (fun u H' => Same H2 H' ∧ H' Da = some (.lst (((rs.take u).map fun r => decide (c ∈ r)).map V.bl))) ⟨same_upd na, upd_same⟩ (fun u H' _ h => sm_l h.1 hS2) ?_ ?_
      · rintro u x G5 G6 hu ⟨u5, ea⟩ ⟨rfl, hx⟩
        rw [List.getElem?_map, List.getElem?_map] at hx
        obtain ⟨z, hz, rfl⟩ := Option.map_eq_some_iff.mp hx
        obtain ⟨r, hr1, rfl⟩ := Option.map_eq_some_iff.mp hz
        refine ⟨rfl, yes_i ⟨_, rfl, _, rfl, c, tx r, rfl, rfl, ?_⟩⟩
        rw [tx_list]
        refine ⟨_, ea, ?_, sm_over u5 na, ?_⟩
        · rw [List.length_map, List.length_map, List.length_take, sizeLine_eq]
          omega
        · rw [upd_same, List.take_add_one, hr1, List.map_append, List.map_append]
          rfl
      · rintro G5 ⟨u5, ea⟩
        rw [List.take_length] at ea
        have no : ∀ G, Same G5 G → Q (.bl false) G := fun G hG => q G false (sm_trans (sm_trans s1 u5) hG) (fun h => by cases h)
        refine ⟨_, rfl, Da, _, rfl, .inl (SqL.of ea), rfl, flat_bl _, _, rfl, ?_⟩
        show if (!inV (.bl true) _) = true then _ else _
        rw [inV_bl]
        refine ite2 (fun t => iteT (no G5 (L2.Same.refl _))) (fun t => ?_)
        refine ⟨_, rfl, Da, _, rfl, .inl (SqL.of ea), rfl, flat_bl _, _, rfl, ?_⟩
        show if (!inV (.bl false) _) = true then _ else _
        rw [inV_bl]
        refine ite2 (fun t2 => no G5 (L2.Same.refl _)) (fun t2 => ?_)
        refine ⟨_, _, _, _, _, rfl, sm_trans s1 u5, fun e he => ?_⟩
        rw [List.take_add_one, hcl] at he
        rcases List.mem_append.mp he with h | h
        · exact hv e h
        · have e1 : e = c := by simpa using h
          rw [e1]
          have m1 : true ∈ rs.map fun r => decide (c ∈ r) := by simpa using t
          have m2 : false ∈ rs.map fun r => decide (c ∈ r) := by simpa using t2
          obtain ⟨r1, h1, k1⟩ := List.mem_map.mp m1
          obtain ⟨r2, h2, k2⟩ := List.mem_map.mp m2
          exact ⟨⟨r1, h1, of_decide_eq_true k1⟩, ⟨r2, h2, of_decide_eq_false k2⟩⟩
    rintro σ H1 ⟨y2, y3, y4, y5, y6, rfl, s1, hv⟩
    rw [lz, List.take_length] at hv
    refine ⟨_, rfl, l, rfl, g, fun H2 p s2 np ep => ?_⟩
    have wkp := walk_list (K := K) (a := p) (xs := ((prs l l.length).map tx).map V.str)
    rw [List.length_map, List.length_map] at wkp
    have s02 := sm_trans s1 s2
    refine ⟨p, rfl, ⟨_, SqL.of ep⟩, ?_⟩
    refine for_it wkp (fun i σ H' => ∃ (y2 y3 y4 y5 y6 : Option V), σ = [some (.str (tx l)), some (.ref a), y2, y3, y4, y5, y6] ∧ Same H2 H' ∧ ∀ b ∈ (prs l l.length).take i, ∃ r ∈ rs, inR b r = true ∨ inR (b.map swp) r = true) ⟨_, _, _, _, _, rfl, L2.Same.refl _, fun c h => absurd h (by simp)⟩ (fun i σ H' _ h => by obtain ⟨_, _, _, _, _, _, h, _⟩ := h; exact SqL.of (h _ _ ep)) ?_ ?_
    · rintro i x σ H3 H4 hi ⟨y2, y3, y4, y5, y6, rfl, s3, hw⟩ ⟨rfl, hx⟩
      rw [List.getElem?_map, List.getElem?_map] at hx
      obtain ⟨z, hz, rfl⟩ := Option.map_eq_some_iff.mp hx
      obtain ⟨b, hb1, rfl⟩ := Option.map_eq_some_iff.mp hz
      have hb2 : isBar l b = true := (prs_mem g b).mp (List.mem_of_getElem? hb1)
      obtain ⟨s, t, rfl, hs, ht, _⟩ := bar_two hb2
      have tz : (tx [s, t]).length ≤ sizeLine := by rw [tx_len, sizeLine_eq]; show 2 ≤ _; omega
      refine ⟨_, rfl, _, _, s, rfl, rfl, tz, rfl, s, rfl, sds_lt g hs, ?_⟩
      refine ⟨_, rfl, _, _, t, rfl, rfl, tz, rfl, t, rfl, sds_lt g ht, ?_⟩
      refine ⟨_, _, rfl, rfl, by show 1 + 1 ≤ sizeLine; decide, ?_⟩
      rw [show sg (swp s) ++ sg (swp t) = tx [swp s, swp t] by rw [sg_tx, sg_tx, tx_app]; rfl]
      have hS4 := sm_l (sm_trans s02 s3) hS
      refine ⟨_, rfl, a, rfl, ⟨_, hS4⟩, fun Da na => ?_⟩
      refine lc_it wkr (fun u H' => Same H4 H' ∧ H' Da = some (.lst (((rs.take u).map fun r => inR [s, t] r || inR [swp s, swp t] r).map V.bl))) ⟨same_upd na, upd_same⟩ (fun u H' _ h => sm_l h.1 hS4) ?_ ?_
      · rintro u x G5 G6 hu ⟨u5, ea⟩ ⟨rfl, hx⟩
        rw [List.getElem?_map, List.getElem?_map] at hx
        obtain ⟨z, hz, rfl⟩ := Option.map_eq_some_iff.mp hx
        obtain ⟨r, hr1, rfl⟩ := Option.map_eq_some_iff.mp hz
        have fin : ∀ G7, Same G6 G7 → ∀ bb : Bool, bb = (inR [s, t] r || inR [swp s, swp t] r) → ∃ acc, G7 Da = some (.lst acc) ∧ acc.length + 1 ≤ sizeLine ∧ Same H4 (upd G7 Da (.lst (acc ++ [V.bl bb]))) ∧ upd G7 Da (.lst (acc ++ [V.bl bb])) Da = some (.lst (((rs.take (u + 1)).map fun r => inR [s, t] r || inR [swp s, swp t] r).map V.bl)) := fun G7 u7 bb ebb => by
          refine ⟨_, u7 _ _ ea, ?_, sm_over (sm_trans u5 u7) na, ?_⟩
          · rw [List.length_map, List.length_map, List.length_take, sizeLine_eq]
            omega
          · rw [upd_same, List.take_add_one, hr1, List.map_append, List.map_append, ebb]
            rfl
        refine ⟨rfl, yes_i ⟨_, rfl, _, rfl, [s, t], r, rfl, by show 2 ≤ 100; decide, fun G7 u7 => ⟨_, rfl, ?_⟩⟩⟩
        refine ite2 (fun k1 => fin G7 u7 true (by rw [k1]; rfl)) (fun k1 => ?_)
        refine ⟨_, rfl, _, rfl, [swp s, swp t], r, rfl, by show 2 ≤ 100; decide, fun G8 u8 => fin G8 (sm_trans u7 u8) _ (by rw [Bool.eq_false_iff.mpr k1]; rfl)⟩
      · rintro G5 ⟨u5, ea⟩
        rw [List.take_length] at ea
        refine ⟨Da, _, rfl, SqL.of ea, _, rfl, ?_⟩
        refine ite2 (fun t0 => ?_) (fun t0 => ?_)
        · exact q G5 false (sm_trans (sm_trans s02 s3) u5) (fun h => by cases h)
        · refine ⟨_, _, _, _, _, rfl, sm_trans s3 u5, fun e he => ?_⟩
          rw [List.take_add_one, hb1] at he
          rcases List.mem_append.mp he with h | h
          · exact hw e h
          · have e1 : e = [s, t] := by simpa using h
            rw [e1]
            have t1 : (rs.map fun r => inR [s, t] r || inR [swp s, swp t] r).any id = true := by
              cases hh : (rs.map fun r => inR [s, t] r || inR [swp s, swp t] r).any id with
              | true => rfl
              | false => rw [hh] at t0; exact absurd rfl t0
            rw [List.any_map] at t1
            obtain ⟨r, hr2, k2⟩ := List.any_eq_true.mp t1
            refine ⟨r, hr2, ?_⟩
            have k2 : (inR [s, t] r || inR [swp s, swp t] r) = true := k2
            rcases Bool.or_eq_true_iff.mp k2 with z | z
            · exact .inl z
            · exact .inr z
    · rintro σ H3 ⟨y2, y3, y4, y5, y6, rfl, s3, hw⟩
      rw [List.take_length] at hw
      refine q H3 true (sm_trans s02 s3) fun _ => ⟨hv, fun x y hxy => ?_⟩
      exact hw [x, y] ((prs_mem g _).mpr hxy)
end
end NC
namespace NC
open PySem PySem.Spec PyProof.Rows L2
abbrev sHall : Stmt := topS 53
abbrev nHall : List Str := ["_law_d", "_law_most", "_law_shuts_here", "_law_bars", "_law_many", "_law_k", "_law_bar"]
theorem scHall : FnScope nHall ["_law_d", "_law_most"] (defScope sHall) := ⟨rfl, rfl, rfl, by decide +kernel, rfl, by decide +kernel, by decide +kernel⟩
theorem Dr.cell {H : Hp} {d c : Addr} (h : Dr H d) (hc : HeadC H d c) : ∃ ns : List Int, H c = some (.lst (ns.map V.int)) := by
  obtain ⟨c0, ns, i, a, b, f, h1, h2, h3⟩ := h
  obtain ⟨r, e⟩ := hc
  rw [h1] at e
  have e2 : c0 = c := by
    injection e with e
    injection e with e
    injection e with e _
    injection e
  exact ⟨ns, by rw [← e2]; exact h2⟩
theorem Dr.upd {H : Hp} {d c b : Addr} {o : HO} (h : Dr H d) (hc : HeadC H d c) (n1 : b ≠ d) (n2 : b ≠ c) : Dr (L2.upd H b o) d := by
  obtain ⟨c0, ns, i, a, b2, f, h1, h2, h3⟩ := h
  obtain ⟨r, e⟩ := hc
  rw [h1] at e
  have e2 : c0 = c := by
    injection e with e
    injection e with e
    injection e with e _
    injection e
  exact ⟨c0, ns, i, a, b2, f, by rw [upd_ne (Ne.symm n1)]; exact h1, by rw [e2, upd_ne (Ne.symm n2), ← e2]; exact h2, h3⟩
theorem Dr.head {H : Hp} {d : Addr} (h : Dr H d) : ∃ c, HeadC H d c := by
  obtain ⟨c0, ns, i, a, b2, f, h1, h2, h3⟩ := h
  exact ⟨c0, _, h1⟩
theorem HeadC.upd {H : Hp} {d c b : Addr} {o : HO} (h : HeadC H d c) (n1 : b ≠ d) : HeadC (L2.upd H b o) d c := by
  obtain ⟨r, h⟩ := h
  exact ⟨r, by rw [upd_ne (Ne.symm n1)]; exact h⟩
theorem first_ok {l : List Nat} {bs : List (List Nat)} (h : ∀ b ∈ bs, isBar l b = true) (nd : bs.Nodup) : firstBad l bs = none := List.find?_eq_none.mpr fun i hi => by
  have hl : i < bs.length := by simpa using hi
  have e : bs.getD i [] = bs[i] := by simp [List.getD, hl]
  unfold badAt
  rw [e, h _ (List.getElem_mem hl)]
  have hn : bs[i] ∉ bs.take i := fun hm => by
    obtain ⟨j, hj, ej⟩ := List.getElem_of_mem hm
    have hji : j < i := by rw [List.length_take] at hj; omega
    rw [List.getElem_take] at ej
    have hjl : j < bs.length := by omega
    have ee : bs[j]? = bs[i]? := by rw [List.getElem?_eq_getElem hjl, List.getElem?_eq_getElem hl, ej]
    have := (List.getElem?_inj hjl nd).mp ee
    omega
  simp [hn]
theorem bars_ok {l : List Nat} (g : GoodW l) {bs : List (List Nat)} (h : ∀ b ∈ bs, isBar l b = true) : BarsOk bs := fun b hb => by
  obtain ⟨x, y, rfl, hx, hy, _⟩ := bar_two (h b hb)
  refine ⟨fun c hc => ?_, by show 2 ≤ 100; decide⟩
  rcases List.mem_cons.mp hc with e | e
  · rw [e]; exact sds_asc g hx
  · rw [List.mem_singleton.mp e]; exact sds_asc g hy
theorem prs_pos {l : List Nat} (g : GoodW l) (h : 1 < l.length) : 1 ≤ (prs l l.length).length := by
  have h0 : 0 < l.length := by omega
  have lt : l[0] < l[1] := List.pairwise_iff_getElem.mp g.rise 0 1 h0 h (by omega)
  have m0 : l[0] ∈ l := List.getElem_mem h0
  have m1 : l[1] ∈ l := List.getElem_mem h
  have hm : [l[0], l[1]] ∈ prs l l.length := (prs_mem g _).mpr (by
    show (decide (l[0] ∈ sds l) && (decide (l[1] ∈ sds l) && decide (lwc l[0] < lwc l[1]))) = true
    rw [decide_eq_true (sds_of_small m0), decide_eq_true (sds_of_small m1), lwc_of (g.sm _ m0) (List.mem_cons_self ..), lwc_of (g.sm _ m1) (List.mem_cons_self ..), decide_eq_true lt]
    rfl)
  exact List.length_pos_of_mem hm
theorem mem_tx {x : List Nat} {bs : List (List Nat)} : tx x ∈ bs.map tx ↔ x ∈ bs := by
  constructor
  · intro h
    obtain ⟨y, hy, e⟩ := List.mem_map.mp h
    rw [← tx_inj e]
    exact hy
  · exact fun h => List.mem_map.mpr ⟨x, h, rfl⟩
theorem inV_tx (x : List Nat) (bs : List (List Nat)) : inV (.str (tx x)) ((bs.map tx).map V.str) = decide (x ∈ bs) := by
  rw [inV_str]
  by_cases h : x ∈ bs
  · rw [decide_eq_true h, decide_eq_true (mem_tx.mpr h)]
  · rw [decide_eq_false h, decide_eq_false fun z => h (mem_tx.mp z)]
/-- a hall as the law draws it -/
structure HallOk (l : List Nat) (bs : List (List Nat)) : Prop where
  g : GoodW l
  bar : ∀ b ∈ bs, isBar l b = true
  nd : bs.Nodup
  len : bs.length ≤ 24
  ok : Okv l bs
  ne : rms l bs ≠ []
theorem rms_nil_ne {l : List Nat} : rms l [] ≠ [] := fun h => by
  have e : rms l [] = allT l l.length := List.filter_eq_self.mpr fun _ _ => rfl
  rw [e] at h
  have := allT_len l l.length
  rw [h] at this
  have h2 : 0 < 2 ^ l.length := Nat.pow_pos (by decide)
  rw [← this] at h2
  exact absurd h2 (by decide)
theorem Fine.ne {l : List Nat} (g : GoodW l) {rs : List (List Nat)} (F : Fine l rs) : rs ≠ [] := fun z => by
  obtain ⟨c, hc⟩ : ∃ c, c ∈ l := by
    have := g.lo
    cases l with
    | nil => exact absurd this (by decide)
    | cons c r => exact ⟨c, List.mem_cons_self ..⟩
  obtain ⟨⟨r, hr, _⟩, _⟩ := F.has c hc
  rw [z] at hr
  cases hr
section
variable {P : Program} {w : World} {K : PySem.W.Frag} {mg : Str → Option Value} {base : Heap}
def spHall : Sp := fun vs H Q _ => ∃ (d : Addr) (n : Int), vs = [.ref d, .int n] ∧ Dr H d ∧ 1 ≤ n ∧ n ≤ 12 ∧
  ∀ H' l bs T bA rA, SmD d H H' → Dr H' d → HallOk l bs → (l.length : Int) ≤ n → bA ≠ d → rA ≠ d → H' T = some (.lst [.str (tx l), .ref bA, .ref rA]) → H' bA = some (.lst ((bs.map tx).map V.str)) → H' rA = some (.lst (((rms l bs).map tx).map V.str)) → Q (.ref T) H'
set_option maxHeartbeats 2000000 in
theorem ok_hall {f fDraw fOf fLet fShuts fOth fWit fPairs fAll fRms fFine : Addr} {fd dDraw dOf dLet dShuts dOth dWit dPairs dAll dRms dFine : FuncData} {k : Nat} (B : BM mg) (hany : mg "any" = none) (F : Fun K "_law_hall" "_law_hall" sHall f fd)
    (Ld : DF K mg "_law_draw" sDraw ["_law_d", "_law_many"] fDraw dDraw) (Lo : DF K mg "_law_of" sOf ["_law_d", "_law_some"] fOf dOf) (Ll : DF K mg "_law_letters" sLetters [] fLet dLet) (Ls : DF K mg "_law_shuts" sShuts ["_law_d", "_law_most"] fShuts dShuts)
    (Lt : DF K mg "_law_other" sOth ["_law_side"] fOth dOth) (Lw : DF K mg "_law_within" sWithin ["_law_sides_here", "_law_room"] fWit dWit) (Lp : DF K mg "_law_pairs" sPairs ["_law_shuts_here"] fPairs dPairs) (La : DF K mg "_law_all" sAll ["_law_shuts_here"] fAll dAll)
    (Lr : DF K mg "_law_rooms" sRooms ["_law_shuts_here", "_law_bars"] fRms dRms) (Lf : DF K mg "_law_fine" sFine ["_law_shuts_here", "_law_rooms_here"] fFine dFine) :
    FnOk P w K mg base CX0 (k + 3) f fd ["_law_d", "_law_most"] spHall := by
  have GD : FnOk P w K mg base CX0 (k + 1) fDraw dDraw ["_law_d", "_law_many"] spDraw := ok_draw B Ld.F
  have GO : FnOk P w K mg base CX0 (k + 2) fOf dOf ["_law_d", "_law_some"] (spOf K) := ok_of B Lo.F Ld
  have GSh : FnOk P w K mg base CX0 (k + 2) fShuts dShuts ["_law_d", "_law_most"] spShuts := ok_shuts B Ls.F Ld Ll
  have GP : FnOk P w K mg base CX0 (k + 1) fPairs dPairs ["_law_shuts_here"] spPairs := ok_pairs B Lp.F
  have GR : FnOk P w K mg base CX0 (k + 2) fRms dRms ["_law_shuts_here", "_law_bars"] (spRooms K) := ok_rooms B hany Lr.F La Lw
  have GF : FnOk P w K mg base CX0 (k + 2) fFine dFine ["_law_shuts_here", "_law_rooms_here"] (spFine K) := ok_fine B hany Lf.F Lp Lt Lw
  refine F.ok scHall (fun vs H Q E h => ?_) (fun cdv A outer st H vs Q E hr h => ?_)
  · obtain ⟨d, n, rfl, _⟩ := h
    rfl
  · obtain ⟨d, n, rfl, hD, n1, n12, q⟩ := h
    have r1 : Room (k + 1) _ := hr.mono (by omega)
    have r2 : Room (k + 2) _ := hr.mono (by omega)
    have nd := scHall.nd
    refine ⟨_, pss_cons (ps_par (i := 2) (j := 3) rfl nd rfl rfl (by decide) rfl rfl (pa_cons (pe_call GSh r2 rfl Ls.g Ls.F.kp Ls.b .nil pass0 (pa_cons (pv 0) (pa_cons (pe_op op_add pe_int (pe_call GD r1 rfl Ld.g Ld.F.kp Ld.b .nil pass0 (pa_cons (pv 0) (pa_cons (pv 1) pa_nil)))) pa_nil))) (pa_cons (pe_lst pa_nil) pa_nil)) rfl)
      (C8.pss_cut (ps_set (i := 4) nd rfl (.inl rfl) (pe_ifExp (pt_cmpR op_gt (pe_callB call_len_str (by rfl) B.len PySem.boot_len (pa_cons (pv 2) pa_nil)) pe_int (nomark _))
          (pe_ix ix_list (pe_lst (pa_cons pe_int (pa_cons (pe_callB call_len_str (by rfl) B.len PySem.boot_len (pa_cons (pv 2) pa_nil)) (pa_cons (pe_op op_mul pe_int (pe_callB call_len_str (by rfl) B.len PySem.boot_len (pa_cons (pv 2) pa_nil))) (pa_cons pe_int pa_nil))))) (pe_call GD r1 rfl Ld.g Ld.F.kp Ld.b .nil pass0 (pa_cons (pv 0) (pa_cons pe_int pa_nil))) (fun _ _ => rfl)) pe_int))
      (pss_cons (ps_for PassesOwn.never rfl (pi_range1 (by rfl) B.range (pa_cons (pv 4) pa_nil)) (pg_name (i := 5) nd rfl (.inl rfl))
        (pss_cons (ps_set (i := 6) nd rfl (.inl rfl) (pe_call GO r2 rfl Lo.g Lo.F.kp Lo.b .nil pass0 (pa_cons (pv 0) (pa_cons (pe_call GP r1 rfl Lp.g Lp.F.kp Lp.b .nil pass0 (pa_cons (pv 2) pa_nil)) pa_nil))))
        (pss_one (ps_if (PW.pt (pw_and (pt_cmpR op_notIn_seq (pv 6) (pv 3) (by rfl)) (pw_and1 (pt_val (pe_call GF r2 rfl Lf.g Lf.F.kp Lf.b .nil pass0 (pa_cons (pv 2) (pa_cons (pe_call GR r2 rfl Lr.g Lr.F.kp Lr.b .nil pass0 (pa_cons (pv 2) (pa_cons (pe_op op_cat (pv 3) (pe_lst (pa_cons (pv 6) pa_nil))) pa_nil))) pa_nil)))))))
          (pss_one (ps_set (i := 3) nd rfl (.inl rfl) (pe_op op_cat (pv 3) (pe_lst (pa_cons (pv 6) pa_nil))))) pss_nil))))
      (pss_one (ps_ret (pe_lst (pa_cons (pv 2) (pa_cons (pv 3) (pa_cons (pe_call GR r2 rfl Lr.g Lr.F.kp Lr.b .nil pass0 (pa_cons (pv 2) (pa_cons (pv 3) pa_nil))) pa_nil)))))))), ?_⟩
    refine ⟨_, rfl, _, rfl, _, rfl, d, n, rfl, hD, by omega, by omega, fun H1 v s1 D1 v0 v1 => ⟨_, _, rfl, rfl, d, _, rfl, D1, by omega, by omega, fun H2 l s2 D2 g hln => ?_⟩⟩
    have hz : (tx l).length ≤ sizeLine := by rw [tx_len, sizeLine_eq]; have := g.hi; omega
    have hl12 := g.hi
    have s02 := s1.trans s2
    refine ⟨Nat.zero_le _, fun bA0 nb0 => ⟨_, _, rfl, ?_⟩⟩
    have nbd0 : bA0 ≠ d := by
      obtain ⟨c0, r0, hd2⟩ := D2.head
      exact Ne.symm (ne_of_none hd2 nb0)
    have s03 : SmD d H (upd H2 bA0 (.lst [])) := s02.trans (SmD.of (same_upd nb0))
    have D3 : Dr (upd H2 bA0 (.lst [])) d := D2.same (same_upd nb0)
    have e3 : (upd H2 bA0 (.lst [])) bA0 = some (.lst []) := upd_same
    generalize (upd H2 bA0 (.lst [])) = H3 at s03 D3 e3 ⊢
    refine ⟨fun σ H' => ∃ (m : Nat) (y5 y6 : Option V), σ = [some (.ref d), some (.int n), some (.str (tx l)), some (.ref bA0), some (.int m), y5, y6] ∧ m ≤ 24 ∧ (0 < m → 1 < l.length) ∧ SmD d H H' ∧ Dr H' d ∧ H' bA0 = some (.lst []), ?_, ?_⟩
    · refine ⟨_, rfl, _, rfl, hz, _, _, rfl, rfl, _, rfl, ite2 (fun t => ?_) (fun t => ?_)⟩
      · have hl1 : 1 < l.length := by
          have := of_decide_eq_true t
          rw [tx_len] at this
          omega
        refine ⟨_, rfl, _, rfl, hz, _, rfl, _, rfl, hz, _, _, rfl, rfl, .inl ⟨by decide, by decide⟩, by show 4 ≤ sizeLine; decide, fun p np => ?_⟩
        have npd : p ≠ d := by
          obtain ⟨c0, r0, hd3⟩ := D3.head
          exact Ne.symm (ne_of_none hd3 np)
        have npb : bA0 ≠ p := ne_of_none e3 np
        refine ⟨_, rfl, d, 4, rfl, D3.same (same_upd np), by decide, by decide, fun H4 v4 s4 D4 v40 v44 => ?_⟩
        have ep : H4 p = _ := s4.1 _ _ npd upd_same
        obtain ⟨m, hm, hat⟩ : ∃ m : Nat, m ≤ 24 ∧ atI [V.int 0, .int ((tx l).length : Nat), .int (2 * ((tx l).length : Nat)), .int 1] v4 = some (.int m) := by
          rw [tx_len]
          have hv : v4 = 0 ∨ v4 = 1 ∨ v4 = 2 ∨ v4 = 3 := by omega
          rcases hv with rfl | rfl | rfl | rfl
          · exact ⟨0, by omega, rfl⟩
          · exact ⟨l.length, by omega, rfl⟩
          · exact ⟨2 * l.length, by omega, by show some (V.int (2 * ((l.length : Nat) : Int))) = _; congr 2⟩
          · exact ⟨1, by omega, rfl⟩
        refine ⟨p, _, v4, .int m, rfl, rfl, SqL.of ep, hat, m, _, _, rfl, hm, fun _ => hl1, (s03.trans (SmD.of (same_upd np))).trans s4, D4, s4.1 _ _ nbd0 (by rw [upd_ne npb]; exact e3)⟩
      · exact ⟨0, _, _, rfl, by omega, fun h => absurd h (by decide), s03, D3, e3⟩
    rintro σ H4 ⟨m, y5, y6, rfl, hm, hm1, s4, D4, e4⟩
    refine ⟨_, rfl, m, rfl, by omega, by omega, ?_⟩
    rw [show ((m : Nat) : Int).toNat = m from Int.toNat_natCast _]
    refine for_it walk_range (fun j σ H' => ∃ (bA : Addr) (y5 y6 : Option V) (bs : List (List Nat)), σ = [some (.ref d), some (.int n), some (.str (tx l)), some (.ref bA), some (.int m), y5, y6] ∧ SmD d H H' ∧ Dr H' d ∧ bA ≠ d ∧ H' bA = some (.lst ((bs.map tx).map V.str)) ∧ HallOk l bs ∧ bs.length ≤ j)
      ⟨bA0, _, _, [], rfl, s4, D4, nbd0, e4, ⟨g, (fun b h => absurd h (by simp)), List.nodup_nil, Nat.zero_le _, okv_nil g, rms_nil_ne⟩, Nat.le_refl _⟩ (fun _ _ _ _ _ => trivial) ?_ ?_
    · rintro j v σ Ha Hb hj ⟨bA, y5, y6, bs, rfl, sa, Da, nbd, ea, ho, hbl⟩ ⟨rfl, rfl⟩
      have hl1 : 1 < l.length := hm1 (by omega)
      have pl := prs_len l l.length
      have pl2 : 4 * l.length * l.length ≤ 4 * 12 * 12 := Nat.mul_le_mul (Nat.mul_le_mul_left _ hl12) hl12
      refine ⟨_, rfl, _, rfl, l, rfl, g, fun H5 pA s5 npA epA => ?_⟩
      have npd : pA ≠ d := by
        obtain ⟨c0, r5, hd5⟩ := Da.head
        exact Ne.symm (ne_of_none hd5 npA)
      have D5 := Da.same s5
      refine ⟨d, _, rfl, D5, .inl ⟨pA, _, rfl, npd, SqL.of epA, by rw [List.length_map, List.length_map]; exact prs_pos g hl1, by rw [List.length_map, List.length_map]; omega, fun H6 v j s6 D6 hv => ?_⟩⟩
      rw [List.getElem?_map, List.getElem?_map] at hv
      obtain ⟨z, hz1, rfl⟩ := Option.map_eq_some_iff.mp hv
      obtain ⟨b, hb1, rfl⟩ := Option.map_eq_some_iff.mp hz1
      have hbar : isBar l b = true := (prs_mem g b).mp (List.mem_of_getElem? hb1)
      have e6 : H6 bA = _ := s6.1 _ _ nbd (s5 _ _ ea)
      have s06 := (sa.trans (SmD.of s5)).trans s6
      refine ⟨_, rfl, _, rfl, bA, _, rfl, .inl (SqL.of e6), rfl, flat_str _, _, rfl, ?_⟩
      show if (!inV (.str (tx b)) ((bs.map tx).map V.str)) = true then _ else _
      rw [inV_tx]
      refine ite2 (fun t => ?_) (fun t => ?_)
      · have hn : b ∉ bs := by simpa using t
        have ej : (bs.map tx).map V.str ++ [V.str (tx b)] = ((bs ++ [b]).map tx).map V.str := by simp
        have lz2 : ((bs.map tx).map V.str).length + [V.str (tx b)].length ≤ sizeLine := by
          rw [List.length_map, List.length_map, sizeLine_eq]
          show bs.length + 1 ≤ _
          omega
        have hb' : ∀ e ∈ bs ++ [b], isBar l e = true := fun e he => by
          rcases List.mem_append.mp he with z | z
          · exact ho.bar e z
          · rw [List.mem_singleton.mp z]; exact hbar
        have bok := bars_ok g hb'
        refine ⟨_, rfl, _, rfl, _, rfl, _, rfl, by show 1 ≤ sizeLine; decide, fun p1 np1 => ?_⟩
        have n1b : bA ≠ p1 := ne_of_none e6 np1
        refine ⟨bA, p1, _, _, rfl, rfl, by rw [upd_ne n1b]; exact e6, upd_same, lz2, fun p2 np2 => ?_⟩
        have n12' : p1 ≠ p2 := ne_of_none upd_same np2
        have s67 : Same H6 (upd (upd H6 p1 (.lst [V.str (tx b)])) p2 (.lst ((bs.map tx).map V.str ++ [V.str (tx b)]))) := sm_upd (same_upd np1) np2
        have e7 : (upd (upd H6 p1 (.lst [V.str (tx b)])) p2 (.lst ((bs.map tx).map V.str ++ [V.str (tx b)]))) p2 = some (.lst (((bs ++ [b]).map tx).map V.str)) := by rw [upd_same, ej]
        generalize (upd (upd H6 p1 (.lst [V.str (tx b)])) p2 (.lst ((bs.map tx).map V.str ++ [V.str (tx b)]))) = H7 at s67 e7 ⊢
        refine ⟨l, p2, bs ++ [b], rfl, g, SqL.of e7, fun x hx => (bok x hx).2, by rw [List.length_append]; show bs.length + 1 ≤ 100; omega, fun H8 rA s8 nrA erA => ?_⟩
        refine ⟨l, rA, rms l (bs ++ [b]), rfl, g, SqL.of erA, rms_len g, fun H9 c s9 hc => ?_⟩
        have s69 := sm_trans (sm_trans s67 s8) s9
        refine ⟨_, rfl, ite2 (fun t2 => ?_) (fun t2 => ?_)⟩
        · have fine := hc t2
          have ho' : HallOk l (bs ++ [b]) := ⟨g, hb', nd_snoc ho.nd hn, by rw [List.length_append]; show bs.length + 1 ≤ 24; omega, fine.ok g hb', fine.ne g⟩
          have e9 := s69 _ _ e6
          refine ⟨_, rfl, _, rfl, by show 1 ≤ sizeLine; decide, fun p3 np3 => ?_⟩
          have n3b : bA ≠ p3 := ne_of_none e9 np3
          refine ⟨bA, p3, _, _, rfl, rfl, by rw [upd_ne n3b]; exact e9, upd_same, lz2, fun p4 np4 => ?_⟩
          have sX := sm_upd (same_upd np3) np4 (o := .lst ((bs.map tx).map V.str ++ [V.str (tx b)]))
          have D9 := D6.same s69
          have n4d : p4 ≠ d := by
            obtain ⟨c0, r5, hd5⟩ := (D9.same (same_upd np3)).head
            exact Ne.symm (ne_of_none hd5 np4)
          exact ⟨p4, _, _, bs ++ [b], rfl, s06.trans (SmD.of (sm_trans s69 sX)), D9.same sX, n4d, by rw [upd_same, ej], ho', by rw [List.length_append]; show bs.length + 1 ≤ _ + 1; omega⟩
        · exact ⟨bA, _, _, bs, rfl, s06.trans (SmD.of s69), D6.same s69, nbd, s69 _ _ e6, ho, by omega⟩
      · exact iteF ⟨bA, _, _, bs, rfl, s06, D6, nbd, e6, ho, by omega⟩
    · rintro σ H5 ⟨bA, y5, y6, bs, rfl, s5, D5, nbd, e5, ho, hbl⟩
      have bok := bars_ok g ho.bar
      refine ⟨_, rfl, _, rfl, _, rfl, _, rfl, l, bA, bs, rfl, g, SqL.of e5, fun x hx => (bok x hx).2, by omega, fun H6 rA s6 nrA erA => ?_⟩
      have nrd : rA ≠ d := by
        obtain ⟨c0, r5, hd5⟩ := D5.head
        exact Ne.symm (ne_of_none hd5 nrA)
      refine ⟨by show 3 ≤ sizeLine; decide, fun T nT => ?_⟩
      have sT := sm_upd s6 nT (o := .lst [.str (tx l), .ref bA, .ref rA])
      have ntb : bA ≠ T := ne_of_none (s6 _ _ e5) nT
      have ntr : rA ≠ T := ne_of_none erA nT
      exact q _ l bs T bA rA (s5.trans (SmD.of sT)) (D5.same sT) ho (by omega) nbd nrd upd_same (by rw [upd_ne ntb]; exact s6 _ _ e5) (by rw [upd_ne ntr]; exact erA)
end
end NC
namespace NC
open PySem PySem.Spec PyProof.Rows L2
abbrev sSame : Stmt := topS 41
theorem scSame : FnScope ["_law_x", "_law_due", "_law_k"] ["_law_x", "_law_due"] (defScope sSame) := ⟨rfl, rfl, rfl, by decide +kernel, rfl, by decide +kernel, by decide +kernel⟩
theorem boot_isi : bootBuiltins "isinstance" = some (.builtin "isinstance") := PyProof.Rows.boot_isinstance
/-- two things that are the same all through, at most n lists or tuples within one another -/
inductive Alk (H : Hp) : Nat → V → V → Prop where
  | str {n : Nat} (a : Str) : Alk H n (.str a) (.str a)
  | bl {n : Nat} (a : Bool) : Alk H n (.bl a) (.bl a)
  | int {n : Nat} (a : Int) : Alk H n (.int a) (.int a)
  | non {n : Nat} : Alk H n .non .non
  | lst {n : Nat} {p r : Addr} {xs ys : List V} (ep : H p = some (.lst xs)) (er : H r = some (.lst ys)) (hl : xs.length = ys.length) (h5 : ys.length ≤ 5000) (h : ∀ (i : Nat) a b, xs[i]? = some a → ys[i]? = some b → Alk H n a b) : Alk H (n + 1) (.ref p) (.ref r)
  | tup {n : Nat} {p r : Addr} {xs ys : List V} (ep : H p = some (.tup xs)) (er : H r = some (.tup ys)) (hl : xs.length = ys.length) (h5 : ys.length ≤ 5000) (h : ∀ (i : Nat) a b, xs[i]? = some a → ys[i]? = some b → Alk H n a b) : Alk H (n + 1) (.ref p) (.ref r)
theorem Alk.same {H H' : Hp} (s : Same H H') : ∀ {n : Nat} {x y : V}, Alk H n x y → Alk H' n x y
  | _, _, _, .str a => .str a
  | _, _, _, .bl a => .bl a
  | _, _, _, .int a => .int a
  | _, _, _, .non => .non
  | _, _, _, .lst ep er hl h5 h => .lst (s _ _ ep) (s _ _ er) hl h5 fun i a b ha hb => (h i a b ha hb).same s
  | _, _, _, .tup ep er hl h5 h => .tup (s _ _ ep) (s _ _ er) hl h5 fun i a b ha hb => (h i a b ha hb).same s
theorem Alk.strs {H : Hp} {n : Nat} {p r : Addr} {xs : List Str} (ep : H p = some (.lst (xs.map V.str))) (er : H r = some (.lst (xs.map V.str))) (h5 : xs.length ≤ 5000) : Alk H (n + 1) (.ref p) (.ref r) :=
  .lst ep er rfl (by rw [List.length_map]; exact h5) fun i a b ha hb => by
    rw [ha] at hb
    cases hb
    rw [List.getElem?_map] at ha
    obtain ⟨z, _, rfl⟩ := Option.map_eq_some_iff.mp ha
    exact .str z
section
variable {P : Program} {w : World} {K : PySem.W.Frag} {mg : Str → Option Value} {base : Heap}
/-- yes alone: only of what is the same -/
def spYes : Nat → Sp := fun n vs H Q _ => ∃ x y, vs = [x, y] ∧ Alk H n x y ∧ ∀ H', Same H H' → Q (.bl true) H'
def spNo : Sp := fun _ _ _ _ => False
theorem range_true (n : Nat) : ((List.range n).map fun _ => true).all id = true := by
  rw [List.all_eq_true]
  intro x hx
  obtain ⟨_, _, e⟩ := List.mem_map.mp hx
  rw [← e]
  rfl
theorem dec_self (x : V) : decide (x = x) = true := decide_eq_true rfl
set_option maxHeartbeats 2000000 in
theorem ok_yes1 {f : Addr} {fd : FuncData} {k : Nat} {spR : Sp} {n : Nat} (B : BM mg) (hb : mg "bool" = none) (hst : mg "str" = none) (D : DF K mg "_law_same" sSame ["_law_x", "_law_due"] f fd) (GS : FnOk P w K mg base CX0 k f fd ["_law_x", "_law_due"] spR)
    (hR : ∀ m, n = m + 1 → ∀ a b H (Q : VK) E, Alk H m a b → (∀ H', Same H H' → Q (.bl true) H') → spR [a, b] H Q E) :
    FnOk P w K mg base CX0 (k + 1) f fd ["_law_x", "_law_due"] (spYes n) := by
  refine D.F.ok scSame (fun vs H Q E h => ?_) (fun cdv A outer s H vs Q E hr h => ?_)
  · obtain ⟨x, y, rfl, _⟩ := h
    rfl
  · obtain ⟨x, y, rfl, al, q⟩ := h
    refine ⟨_, pss_cons (ps_if (pt_val (pe_callB call_isiT (by rfl) B.isinstance boot_isi (pa_cons (pv 1) (pa_cons (pe_tup (pa_cons (pe_bltn (v := .ty "list") (by rfl) B.list (by decide +kernel) rfl) (pa_cons (pe_bltn (v := .ty "tuple") (by rfl) B.tuple (by decide +kernel) rfl) pa_nil))) pa_nil))))
        (pss_cons (ps_if (PW.pt (pw_or
            (pt_cmpR op_ne (pe_callB call_isi (by rfl) B.isinstance boot_isi (pa_cons (pv 1) (pa_cons (pe_bltn (v := .ty "list") (by rfl) B.list (by decide +kernel) rfl) pa_nil))) (pe_callB call_isi (by rfl) B.isinstance boot_isi (pa_cons (pv 0) (pa_cons (pe_bltn (v := .ty "list") (by rfl) B.list (by decide +kernel) rfl) pa_nil))) (nomark _))
            (pw_or1 (pt_cmpR op_ne (pe_callB call_isi (by rfl) B.isinstance boot_isi (pa_cons (pv 1) (pa_cons (pe_bltn (v := .ty "tuple") (by rfl) B.tuple (by decide +kernel) rfl) pa_nil))) (pe_callB call_isi (by rfl) B.isinstance boot_isi (pa_cons (pv 0) (pa_cons (pe_bltn (v := .ty "tuple") (by rfl) B.tuple (by decide +kernel) rfl) pa_nil))) (nomark _)))))
          (pss_one (ps_ret pe_bl)) pss_nil)
        (pss_one (ps_ret (pe_and (pe_cmpR op_eq (pe_callB call_len_seq (by rfl) B.len PySem.boot_len (pa_cons (pv 0) pa_nil)) (pe_callB call_len_seq (by rfl) B.len PySem.boot_len (pa_cons (pv 1) pa_nil)) (nomark _))
          (pe_one (pe_callB (cr_all rfl) (by rfl) B.all (by decide +kernel) (pa_cons (pe_lc (own := [("_law_k", 2)]) (g := gName 2) (tt := tYes) (te := tCall spR [] E0 (tCons (tOp (fun x y H Q => rIxL K x y H Q ∨ rIxT K x y H Q) (tVar 0) (tVar 2)) (tCons (tOp (fun x y H Q => rIxL K x y H Q ∨ rIxT K x y H Q) (tVar 1) (tVar 2)) tNil))) rfl scSame.nd (pi_range1 (by rfl) B.range (pa_cons (pe_callB call_len_seq (by rfl) B.len PySem.boot_len (pa_cons (pv 1) pa_nil)) pa_nil))
            (blkOk_by (N := ["_law_x", "_law_due", "_law_k"]) (sc := defScope sSame) (by decide +kernel)) (fun _ _ _ _ _ => pg_name (i := 2) scSame.nd rfl (Or.inl rfl)) (fun _ _ _ _ _ => pts_nil)
            (fun _ _ _ _ _ => pe_call GS hr rfl D.g D.F.kp D.b .nil pass0 (pa_cons (pe_ix (IxR.or ix_list ix_tup) (pv 0) (pv 2) (fun _ _ => rfl)) (pa_cons (pe_ix (IxR.or ix_list ix_tup) (pv 1) (pv 2) (fun _ _ => rfl)) pa_nil)))) pa_nil)))))))
        pss_nil)
      (pss_cons (ps_if (PW.pt (pw_or
            (pt_cmpR op_ne (pe_callB call_isi (by rfl) B.isinstance boot_isi (pa_cons (pv 0) (pa_cons (pe_bltn (v := .ty "bool") (by rfl) hb (by decide +kernel) rfl) pa_nil))) (pe_callB call_isi (by rfl) B.isinstance boot_isi (pa_cons (pv 1) (pa_cons (pe_bltn (v := .ty "bool") (by rfl) hb (by decide +kernel) rfl) pa_nil))) (nomark _))
            (pw_or1 (pt_cmpR op_ne (pe_callB call_isi (by rfl) B.isinstance boot_isi (pa_cons (pv 0) (pa_cons (pe_bltn (v := .ty "str") (by rfl) hst (by decide +kernel) rfl) pa_nil))) (pe_callB call_isi (by rfl) B.isinstance boot_isi (pa_cons (pv 1) (pa_cons (pe_bltn (v := .ty "str") (by rfl) hst (by decide +kernel) rfl) pa_nil))) (nomark _)))))
          (pss_one (ps_ret pe_bl)) pss_nil)
      (pss_one (ps_ret (pe_and (pe_cmpR op_eq (pe_cmp (pc_isN (pv 0))) (pe_cmp (pc_isN (pv 1))) (nomark _)) (pe_one (pe_cmpR op_eq (pv 0) (pv 1) (nomark _))))))), ?_⟩
    cases al with
    | str a =>
      refine ⟨_, rfl, by show 2 ≤ sizeLine; decide, fun T nT => ⟨_, T, _, .type "str", [.type "list", .type "tuple"], false, rfl, upd_same, .cons (.ty _) (.cons (.ty _) .nil), .base (.str _), kitAny_cons (kit_ty (b := "list") (r := false) (by decide +kernel)) (fun _ => kitAny_cons (kit_ty (b := "tuple") (r := false) (by decide +kernel)) (fun _ => rfl) (fun z => by cases z)) (fun z => by cases z), _, rfl, iteF ?_⟩⟩
      refine ⟨_, rfl, _, _, .type "str", .type "bool", false, rfl, .ty _, .base (.str _), kit_ty (by decide +kernel), _, rfl, _, _, .type "str", .type "bool", false, rfl, .ty _, .base (.str _), kit_ty (by decide +kernel), rfl, _, rfl, ite2 (fun z => absurd z (by decide)) (fun _ => ?_)⟩
      refine ⟨_, rfl, _, _, .type "str", .type "str", true, rfl, .ty _, .base (.str _), kit_ty (by decide +kernel), _, rfl, _, _, .type "str", .type "str", true, rfl, .ty _, .base (.str _), kit_ty (by decide +kernel), rfl, _, rfl, ite2 (fun z => absurd z (by decide)) (fun _ => ?_)⟩
      refine ⟨_, rfl, _, rfl, rfl, _, rfl, ?_⟩
      rw [dec_self]
      refine iteT ⟨_, rfl, _, rfl, rfl, ?_⟩
      rw [dec_self]
      exact q _ (same_upd nT)
    | bl a =>
      refine ⟨_, rfl, by show 2 ≤ sizeLine; decide, fun T nT => ⟨_, T, _, .type "bool", [.type "list", .type "tuple"], false, rfl, upd_same, .cons (.ty _) (.cons (.ty _) .nil), .base (.bl _), kitAny_cons (kit_ty (b := "list") (r := false) (by decide +kernel)) (fun _ => kitAny_cons (kit_ty (b := "tuple") (r := false) (by decide +kernel)) (fun _ => rfl) (fun z => by cases z)) (fun z => by cases z), _, rfl, iteF ?_⟩⟩
      refine ⟨_, rfl, _, _, .type "bool", .type "bool", true, rfl, .ty _, .base (.bl _), kit_ty (by decide +kernel), _, rfl, _, _, .type "bool", .type "bool", true, rfl, .ty _, .base (.bl _), kit_ty (by decide +kernel), rfl, _, rfl, ite2 (fun z => absurd z (by decide)) (fun _ => ?_)⟩
      refine ⟨_, rfl, _, _, .type "bool", .type "str", false, rfl, .ty _, .base (.bl _), kit_ty (by decide +kernel), _, rfl, _, _, .type "bool", .type "str", false, rfl, .ty _, .base (.bl _), kit_ty (by decide +kernel), rfl, _, rfl, ite2 (fun z => absurd z (by decide)) (fun _ => ?_)⟩
      refine ⟨_, rfl, _, rfl, rfl, _, rfl, ?_⟩
      rw [dec_self]
      refine iteT ⟨_, rfl, _, rfl, rfl, ?_⟩
      rw [dec_self]
      exact q _ (same_upd nT)
    | int a =>
      refine ⟨_, rfl, by show 2 ≤ sizeLine; decide, fun T nT => ⟨_, T, _, .type "int", [.type "list", .type "tuple"], false, rfl, upd_same, .cons (.ty _) (.cons (.ty _) .nil), .base (.int _), kitAny_cons (kit_ty (b := "list") (r := false) (by decide +kernel)) (fun _ => kitAny_cons (kit_ty (b := "tuple") (r := false) (by decide +kernel)) (fun _ => rfl) (fun z => by cases z)) (fun z => by cases z), _, rfl, iteF ?_⟩⟩
      refine ⟨_, rfl, _, _, .type "int", .type "bool", false, rfl, .ty _, .base (.int _), kit_ty (by decide +kernel), _, rfl, _, _, .type "int", .type "bool", false, rfl, .ty _, .base (.int _), kit_ty (by decide +kernel), rfl, _, rfl, ite2 (fun z => absurd z (by decide)) (fun _ => ?_)⟩
      refine ⟨_, rfl, _, _, .type "int", .type "str", false, rfl, .ty _, .base (.int _), kit_ty (by decide +kernel), _, rfl, _, _, .type "int", .type "str", false, rfl, .ty _, .base (.int _), kit_ty (by decide +kernel), rfl, _, rfl, ite2 (fun z => absurd z (by decide)) (fun _ => ?_)⟩
      refine ⟨_, rfl, _, rfl, rfl, _, rfl, ?_⟩
      rw [dec_self]
      refine iteT ⟨_, rfl, _, rfl, rfl, ?_⟩
      rw [dec_self]
      exact q _ (same_upd nT)
    | non =>
      refine ⟨_, rfl, by show 2 ≤ sizeLine; decide, fun T nT => ⟨_, T, _, .type "NoneType", [.type "list", .type "tuple"], false, rfl, upd_same, .cons (.ty _) (.cons (.ty _) .nil), .base .non, kitAny_cons (kit_ty (b := "list") (r := false) (by decide +kernel)) (fun _ => kitAny_cons (kit_ty (b := "tuple") (r := false) (by decide +kernel)) (fun _ => rfl) (fun z => by cases z)) (fun z => by cases z), _, rfl, iteF ?_⟩⟩
      refine ⟨_, rfl, _, _, .type "NoneType", .type "bool", false, rfl, .ty _, .base .non, kit_ty (by decide +kernel), _, rfl, _, _, .type "NoneType", .type "bool", false, rfl, .ty _, .base .non, kit_ty (by decide +kernel), rfl, _, rfl, ite2 (fun z => absurd z (by decide)) (fun _ => ?_)⟩
      refine ⟨_, rfl, _, _, .type "NoneType", .type "str", false, rfl, .ty _, .base .non, kit_ty (by decide +kernel), _, rfl, _, _, .type "NoneType", .type "str", false, rfl, .ty _, .base .non, kit_ty (by decide +kernel), rfl, _, rfl, ite2 (fun z => absurd z (by decide)) (fun _ => ?_)⟩
      refine ⟨_, rfl, _, rfl, rfl, _, rfl, ?_⟩
      rw [dec_self]
      refine iteT ⟨_, rfl, _, rfl, rfl, ?_⟩
      rw [dec_self]
      exact q _ (same_upd nT)
    | @lst m p r xs ys ep er hl h5 hal =>
      have s1 : ∀ {T : Addr}, H T = none → ∀ {o : HO}, (upd H T o) p = some (.lst xs) ∧ (upd H T o) r = some (.lst ys) := fun {T} nT {o} => ⟨by rw [upd_ne (ne_of_none ep nT)]; exact ep, by rw [upd_ne (ne_of_none er nT)]; exact er⟩
      refine ⟨_, rfl, by show 2 ≤ sizeLine; decide, fun T nT => ⟨_, T, _, .type "list", [.type "list", .type "tuple"], true, rfl, upd_same, .cons (.ty _) (.cons (.ty _) .nil), .base (.lst (s1 nT).2), kitAny_cons (kit_ty (b := "list") (r := true) (by decide +kernel)) (fun z => by cases z) (fun _ => rfl), _, rfl, iteT ?_⟩⟩
      have sT : Same H (upd H T (.tup [V.ty "list", V.ty "tuple"])) := same_upd nT
      generalize (upd H T (.tup [V.ty "list", V.ty "tuple"])) = H1 at sT ⊢
      have ep1 := sT _ _ ep
      have er1 := sT _ _ er
      refine ⟨_, rfl, _, _, .type "list", .type "list", true, rfl, .ty _, .base (.lst er1), kit_ty (by decide +kernel), _, rfl, _, _, .type "list", .type "list", true, rfl, .ty _, .base (.lst ep1), kit_ty (by decide +kernel), rfl, _, rfl, ite2 (fun z => absurd z (by decide)) (fun _ => ?_)⟩
      refine ⟨_, rfl, _, _, .type "list", .type "tuple", false, rfl, .ty _, .base (.lst er1), kit_ty (by decide +kernel), _, rfl, _, _, .type "list", .type "tuple", false, rfl, .ty _, .base (.lst ep1), kit_ty (by decide +kernel), rfl, _, rfl, ite2 (fun z => absurd z (by decide)) (fun _ => ?_)⟩
      refine ⟨_, rfl, p, _, rfl, .inl (SqL.of ep1), _, rfl, r, _, rfl, .inl (SqL.of er1), rfl, _, rfl, ?_⟩
      rw [hl, dec_self]
      refine iteT ⟨_, rfl, r, _, rfl, .inl (SqL.of er1), _, rfl, by omega, by omega, ?_⟩
      rw [show ((ys.length : Nat) : Int).toNat = ys.length by exact Int.toNat_natCast _]
      intro Da nD
      refine lc_it walk_range (fun i H' => Same H1 H' ∧ H' Da = some (.lst (((List.range i).map fun _ => true).map V.bl))) ⟨same_upd nD, upd_same⟩ (fun _ _ _ _ => trivial) ?_ ?_
      · rintro i v H2 H3 hi ⟨s2, e2⟩ ⟨rfl, rfl⟩
        have hx : i < xs.length := by omega
        have ax : atI xs (0 + (i : Int)) = some xs[i] := by
          rw [show (0 + (i : Int)) = ((i : Nat) : Int) by omega]
          exact atI_nat (List.getElem?_eq_getElem hx)
        have ay : atI ys (0 + (i : Int)) = some ys[i] := by
          rw [show (0 + (i : Int)) = ((i : Nat) : Int) by omega]
          exact atI_nat (List.getElem?_eq_getElem hi)
        refine ⟨rfl, yes_i ⟨_, rfl, _, rfl, .inl ⟨p, _, _, _, rfl, rfl, SqL.of (s2 _ _ ep1), ax, _, rfl, _, rfl, .inl ⟨r, _, _, _, rfl, rfl, SqL.of (s2 _ _ er1), ay, hR m rfl _ _ _ _ _ ((hal i _ _ (List.getElem?_eq_getElem hx) (List.getElem?_eq_getElem hi)).same (sm_trans sT s2)) fun H4 s4 => ⟨_, s4 _ _ e2, ?_, sm_over (sm_trans s2 s4) nD, ?_⟩⟩⟩⟩⟩
        · rw [List.length_map, List.length_map, List.length_range, sizeLine_eq]
          omega
        · rw [upd_same, List.range_succ, List.map_append, List.map_append]
          rfl
      · rintro H2 ⟨s2, e2⟩
        refine ⟨_, _, rfl, SqL.of e2, ?_⟩
        rw [range_true]
        exact q _ (sm_trans sT s2)
    | @tup m p r xs ys ep er hl h5 hal =>
      have s1 : ∀ {T : Addr}, H T = none → ∀ {o : HO}, (upd H T o) p = some (.tup xs) ∧ (upd H T o) r = some (.tup ys) := fun {T} nT {o} => ⟨by rw [upd_ne (ne_of_none ep nT)]; exact ep, by rw [upd_ne (ne_of_none er nT)]; exact er⟩
      refine ⟨_, rfl, by show 2 ≤ sizeLine; decide, fun T nT => ⟨_, T, _, .type "tuple", [.type "list", .type "tuple"], true, rfl, upd_same, .cons (.ty _) (.cons (.ty _) .nil), .base (.tup (s1 nT).2), kitAny_cons (kit_ty (b := "list") (r := false) (by decide +kernel)) (fun _ => kitAny_cons (kit_ty (b := "tuple") (r := true) (by decide +kernel)) (fun z => by cases z) (fun _ => rfl)) (fun z => by cases z), _, rfl, iteT ?_⟩⟩
      have sT : Same H (upd H T (.tup [V.ty "list", V.ty "tuple"])) := same_upd nT
      generalize (upd H T (.tup [V.ty "list", V.ty "tuple"])) = H1 at sT ⊢
      have ep1 := sT _ _ ep
      have er1 := sT _ _ er
      refine ⟨_, rfl, _, _, .type "tuple", .type "list", false, rfl, .ty _, .base (.tup er1), kit_ty (by decide +kernel), _, rfl, _, _, .type "tuple", .type "list", false, rfl, .ty _, .base (.tup ep1), kit_ty (by decide +kernel), rfl, _, rfl, ite2 (fun z => absurd z (by decide)) (fun _ => ?_)⟩
      refine ⟨_, rfl, _, _, .type "tuple", .type "tuple", true, rfl, .ty _, .base (.tup er1), kit_ty (by decide +kernel), _, rfl, _, _, .type "tuple", .type "tuple", true, rfl, .ty _, .base (.tup ep1), kit_ty (by decide +kernel), rfl, _, rfl, ite2 (fun z => absurd z (by decide)) (fun _ => ?_)⟩
      refine ⟨_, rfl, p, _, rfl, .inr (SqT.of ep1), _, rfl, r, _, rfl, .inr (SqT.of er1), rfl, _, rfl, ?_⟩
      rw [hl, dec_self]
      refine iteT ⟨_, rfl, r, _, rfl, .inr (SqT.of er1), _, rfl, by omega, by omega, ?_⟩
      rw [show ((ys.length : Nat) : Int).toNat = ys.length by exact Int.toNat_natCast _]
      intro Da nD
      refine lc_it walk_range (fun i H' => Same H1 H' ∧ H' Da = some (.lst (((List.range i).map fun _ => true).map V.bl))) ⟨same_upd nD, upd_same⟩ (fun _ _ _ _ => trivial) ?_ ?_
      · rintro i v H2 H3 hi ⟨s2, e2⟩ ⟨rfl, rfl⟩
        have hx : i < xs.length := by omega
        have ax : atI xs (0 + (i : Int)) = some xs[i] := by
          rw [show (0 + (i : Int)) = ((i : Nat) : Int) by omega]
          exact atI_nat (List.getElem?_eq_getElem hx)
        have ay : atI ys (0 + (i : Int)) = some ys[i] := by
          rw [show (0 + (i : Int)) = ((i : Nat) : Int) by omega]
          exact atI_nat (List.getElem?_eq_getElem hi)
        refine ⟨rfl, yes_i ⟨_, rfl, _, rfl, .inr ⟨p, _, _, _, rfl, rfl, SqT.of (s2 _ _ ep1), ax, _, rfl, _, rfl, .inr ⟨r, _, _, _, rfl, rfl, SqT.of (s2 _ _ er1), ay, hR m rfl _ _ _ _ _ ((hal i _ _ (List.getElem?_eq_getElem hx) (List.getElem?_eq_getElem hi)).same (sm_trans sT s2)) fun H4 s4 => ⟨_, s4 _ _ e2, ?_, sm_over (sm_trans s2 s4) nD, ?_⟩⟩⟩⟩⟩
        · rw [List.length_map, List.length_map, List.length_range, sizeLine_eq]
          omega
        · rw [upd_same, List.range_succ, List.map_append, List.map_append]
          rfl
      · rintro H2 ⟨s2, e2⟩
        refine ⟨_, _, rfl, SqL.of e2, ?_⟩
        rw [range_true]
        exact q _ (sm_trans sT s2)
theorem ok_yes {f : Addr} {fd : FuncData} {k : Nat} (B : BM mg) (hb : mg "bool" = none) (hst : mg "str" = none) (D : DF K mg "_law_same" sSame ["_law_x", "_law_due"] f fd) : ∀ n, FnOk P w K mg base CX0 (k + n + 2) f fd ["_law_x", "_law_due"] (spYes n)
  | 0 => ok_yes1 (spR := spNo) B hb hst D (D.F.ok scSame (fun vs H Q E h => h.elim) (fun cdv A outer s H vs Q E hr h => h.elim)) fun m e => by cases e
  | n + 1 => ok_yes1 B hb hst D (ok_yes B hb hst D n) fun m e a b H Q E al q => by
    cases e
    exact ⟨a, b, rfl, al, q⟩
end
end NC
namespace NC
open PySem PySem.Spec PyProof.Rows L2
abbrev sApart : Stmt := topS 58
theorem scApart : FnScope ["_law_one", "_law_two", "_law_k"] ["_law_one", "_law_two"] (defScope sApart) := ⟨rfl, rfl, rfl, by decide +kernel, rfl, by decide +kernel, by decide +kernel⟩
section
variable {P : Program} {w : World} {K : PySem.W.Frag} {mg : Str → Option Value} {base : Heap}
def spApart : Sp := fun vs H Q _ => ∃ r o, vs = [.str (tx r), .str (tx o)] ∧ r.length = o.length ∧ r.length ≤ 100 ∧ ∀ H', Same H H' → Q (.int (ham r o : Nat)) H'
set_option maxHeartbeats 1000000 in
theorem ok_apart {f : Addr} {fd : FuncData} {k : Nat} (B : BM mg) (F : Fun K "_law_apart" "_law_apart" sApart f fd) : FnOk P w K mg base CX0 (k + 1) f fd ["_law_one", "_law_two"] spApart := by
  refine F.ok scApart (fun vs H Q E h => ?_) (fun cdv A outer st H vs Q E hr h => ?_)
  · obtain ⟨r, o, rfl, _⟩ := h
    rfl
  · obtain ⟨r, o, rfl, hl, hn, q⟩ := h
    have nd := scApart.nd
    refine ⟨_, pss_one (ps_ret (pe_callB call_len_seq (by rfl) B.len PySem.boot_len (pa_cons (pe_lc (own := [("_law_k", 2)]) (g := gName 2) (tt := tTest (tOp rNe (tOp rIxS (tVar 0) (tVar 2)) (tOp rIxS (tVar 1) (tVar 2)))) (te := tC (.int 1)) rfl nd (pi_range1 (by rfl) B.range (pa_cons (pe_callB call_len_str (by rfl) B.len PySem.boot_len (pa_cons (pv 0) pa_nil)) pa_nil))
      (blkOk_by (N := ["_law_one", "_law_two", "_law_k"]) (sc := defScope sApart) (by decide +kernel)) (fun _ _ _ _ _ => pg_name (i := 2) nd rfl (Or.inl rfl))
      (fun _ _ _ _ _ => pts_one (pt_cmpR op_ne (pe_ix ix_str (pv 0) (pv 2) (fun _ _ => rfl)) (pe_ix ix_str (pv 1) (pv 2) (fun _ _ => rfl)) (nomark _))) (fun _ _ _ _ _ => pe_int)) pa_nil))), ?_⟩
    have hz1 : (tx r).length ≤ sizeLine := by rw [tx_len, sizeLine_eq]; omega
    have hz2 : (tx o).length ≤ sizeLine := by rw [tx_len, sizeLine_eq]; omega
    refine ⟨_, rfl, _, rfl, hz1, _, rfl, by omega, by rw [tx_len]; omega, ?_⟩
    rw [show (((tx r).length : Nat) : Int).toNat = r.length by rw [tx_len]; exact Int.toNat_natCast _]
    intro Da na
    refine lc_it walk_range (fun i H' => Same H H' ∧ H' Da = some (.lst (((List.range i).filter (dif r o)).map fun _ => V.int 1))) ⟨same_upd na, upd_same⟩ (fun _ _ _ _ => trivial) ?_ ?_
    · rintro i v H1 H2 hi ⟨s1, e1⟩ ⟨rfl, rfl⟩
      have hc : r[i]? = some r[i] := List.getElem?_eq_getElem hi
      have ho : i < o.length := by omega
      have he : o[i]? = some o[i] := List.getElem?_eq_getElem ho
      have ax : atI (tx r).cps.toList (0 + (i : Int)) = some r[i] := by
        rw [tx_list, show (0 + (i : Int)) = ((i : Nat) : Int) by omega]
        exact atI_nat hc
      have ay : atI (tx o).cps.toList (0 + (i : Int)) = some o[i] := by
        rw [tx_list, show (0 + (i : Int)) = ((i : Nat) : Int) by omega]
        exact atI_nat he
      generalize r[i] = c at hc ax
      generalize o[i] = e at he ay
      have dd : dif r o i = decide (c ≠ e) := by unfold dif; rw [get_of hc, get_of he]
      have fl : (((List.range i).filter (dif r o)).map fun _ => V.int 1).length ≤ i := by
        rw [List.length_map]
        exact Nat.le_trans (List.length_filter_le _ _) (by rw [List.length_range]; exact Nat.le_refl _)
      refine ⟨rfl, _, rfl, _, rfl, _, _, c, rfl, rfl, hz1, ax, _, rfl, _, rfl, _, _, e, rfl, rfl, hz2, ay, rfl, _, rfl, ite2 (fun t => ?_) (fun t => ?_)⟩
      · have ne : c ≠ e := fun z => by
          rw [z] at t
          simp at t
        refine ⟨_, e1, by rw [sizeLine_eq]; omega, sm_over s1 na, ?_⟩
        rw [upd_same, List.range_succ, List.filter_append, List.map_append, List.filter_cons, if_pos (by rw [dd]; exact decide_eq_true ne)]
        rfl
      · have eq : c = e := by
          have : (⟨#[c]⟩ : Str) = ⟨#[e]⟩ := by simpa using t
          have := congrArg Str.cps this
          simpa using this
        refine ⟨s1, ?_⟩
        rw [e1, List.range_succ, List.filter_append, List.map_append, List.filter_cons, if_neg (by rw [dd, eq]; simp)]
        simp
    · rintro H1 ⟨s1, e1⟩
      refine ⟨Da, _, rfl, .inl (SqL.of e1), ?_⟩
      have := q H1 s1
      unfold ham at this
      rw [List.length_map]
      exact this
end
end NC
namespace NC
open PySem PySem.Spec PyProof.Rows L2
abbrev sLSides : Stmt := topS 56
abbrev sLPart : Stmt := topS 57
abbrev nLSides : List Str := ["_law_d", "_law_shuts_here", "_law_odds", "_law_found", "_law_shut", "_law_how"]
abbrev nLPart : List Str := ["_law_d", "_law_shuts_here", "_law_rooms_here", "_law_part_here", "_law_room", "_law_side"]
theorem scLSides : FnScope nLSides ["_law_d", "_law_shuts_here"] (defScope sLSides) := ⟨rfl, rfl, rfl, by decide +kernel, rfl, by decide +kernel, by decide +kernel⟩
theorem scLPart : FnScope nLPart ["_law_d", "_law_shuts_here", "_law_rooms_here"] (defScope sLPart) := ⟨rfl, rfl, rfl, by decide +kernel, rfl, by decide +kernel, by decide +kernel⟩
theorem Dr.ne {H : Hp} {d p : Addr} (D : Dr H d) (n : H p = none) : p ≠ d := by
  obtain ⟨c0, r0, hd⟩ := D.head
  exact Ne.symm (ne_of_none hd n)
theorem lwc_small {c : Nat} (h : 97 ≤ c ∧ c ≤ 122) : lwc c = c := by unfold lwc; rw [if_neg (by omega)]
theorem lwc_up {c : Nat} (h : 97 ≤ c ∧ c ≤ 122) : lwc (upc c) = c := by rw [upc_small h]; unfold lwc; rw [if_pos (by omega)]; omega
theorem filter_part {l q S : List Nat} (g : GoodW l) {bs : List (List Nat)} (hb : ∀ b ∈ bs, isBar l b = true) (hq : q ∈ rms l bs) : Part l (q.filter fun c => decide (c ∈ S)) := by
  have h1 : q.map lwc = l := (room_low g q).mp (by unfold rms at hq; exact (List.mem_filter.mp hq).1)
  refine ⟨?_, fun c hc => ?_⟩
  · have := (List.filter_sublist (p := fun c => decide (c ∈ S)) (l := q)).map lwc
    rw [h1] at this
    exact this
  · obtain ⟨p, rfl, _⟩ := (rms_mem g hb q).mp hq
    exact rm_asc g (List.mem_filter.mp hc).1
section
variable {P : Program} {w : World} {K : PySem.W.Frag} {mg : Str → Option Value} {base : Heap}
def spLSides : Sp := fun vs H Q _ => ∃ d l, vs = [.ref d, .str (tx l)] ∧ Dr H d ∧ GoodW l ∧ ∀ H' P, SmD d H H' → Dr H' d → Part l P → Q (.str (tx P)) H'
set_option maxHeartbeats 1000000 in
theorem ok_lsides {f fD fO : Addr} {fd dD dO : FuncData} {k : Nat} (B : BM mg) (F : Fun K "_law_sides" "_law_sides" sLSides f fd) (D : DF K mg "_law_draw" sDraw ["_law_d", "_law_many"] fD dD) (Of : DF K mg "_law_of" sOf ["_law_d", "_law_some"] fO dO) :
    FnOk P w K mg base CX0 (k + 3) f fd ["_law_d", "_law_shuts_here"] spLSides := by
  have GD : FnOk P w K mg base CX0 (k + 1) fD dD ["_law_d", "_law_many"] spDraw := ok_draw B D.F
  have GO : FnOk P w K mg base CX0 (k + 2) fO dO ["_law_d", "_law_some"] (spOf K) := ok_of B Of.F D
  refine F.ok scLSides (fun vs H Q E h => ?_) (fun cdv A outer st H vs Q E hr h => ?_)
  · obtain ⟨d, l, rfl, _⟩ := h
    rfl
  · obtain ⟨d, l, rfl, hD, g, q⟩ := h
    have nd := scLSides.nd
    have hl12 := g.hi
    have r1 : Room (k + 1) _ := hr.mono (by omega)
    refine ⟨_, pss_cons (ps_set (i := 2) nd rfl (.inl rfl) (pe_call GO hr rfl Of.g Of.F.kp Of.b .nil pass0 (pa_cons (pv 0) (pa_cons (pe_lst (pa_cons pe_int (pa_cons pe_int (pa_cons pe_int (pa_cons pe_int pa_nil))))) pa_nil))))
      (pss_cons (ps_set (i := 3) nd rfl (.inl rfl) pe_str)
      (pss_cons (ps_for PassesOwn.never rfl (pi_str (pv 1)) (pg_name (i := 4) nd rfl (.inl rfl))
        (pss_cons (ps_set (i := 5) nd rfl (.inl rfl) (pe_call GD r1 rfl D.g D.F.kp D.b .nil pass0 (pa_cons (pv 0) (pa_cons (pe_op op_mul pe_int (pv 2)) pa_nil))))
        (pss_one (ps_if (pt_cmpR op_lt (pv 5) pe_int (nomark _)) (pss_one (ps_set (i := 3) nd rfl (.inl rfl) (pe_op op_add_str (pv 3) (pe_ix ix_list (pe_lst (pa_cons (pv 4) (pa_cons (pe_upper (pv 4)) pa_nil))) (pv 5) (fun _ _ => rfl))))) pss_nil))))
      (pss_one (ps_ret (pv 3))))), ?_⟩
    refine ⟨_, rfl, by show 4 ≤ sizeLine; decide, fun p0 np0 => ?_⟩
    refine ⟨d, _, rfl, hD.same (same_upd np0), .inl ⟨p0, _, rfl, hD.ne np0, SqL.of upd_same, by show 1 ≤ 4; decide, by show 4 ≤ 1000; decide, fun H1 v j s1 D1 hv => ?_⟩⟩
    obtain ⟨od, rfl, od1, od2⟩ : ∃ od : Int, v = .int od ∧ 2 ≤ od ∧ od ≤ 6 := by
      match j, hv with
      | 0, hv => cases hv; exact ⟨_, rfl, by decide, by decide⟩
      | 1, hv => cases hv; exact ⟨_, rfl, by decide, by decide⟩
      | 2, hv => cases hv; exact ⟨_, rfl, by decide, by decide⟩
      | 3, hv => cases hv; exact ⟨_, rfl, by decide, by decide⟩
    have s01 : SmD d H H1 := (SmD.of (same_upd np0)).trans s1
    refine ⟨_, rfl, tx l, rfl, ?_⟩
    have lz : (tx l).cps.size = l.length := tx_len _
    have wk := walk_str (z := tx l)
    rw [lz] at wk
    refine for_it wk (fun i σ H' => ∃ (S : List Nat) (y4 y5 : Option V), σ = [some (.ref d), some (.str (tx l)), some (.int od), some (.str (tx S)), y4, y5] ∧ SmD d H H' ∧ Dr H' d ∧ (S.map lwc).Sublist (l.take i) ∧ ∀ c ∈ S, c ∈ sds l)
      ⟨[], _, _, by rw [← str0]; rfl, s01, D1, by simp, by simp⟩ (fun _ _ _ _ _ => trivial) ?_ ?_
    · rintro i v σ H2 H3 hi ⟨S, y4, y5, rfl, s2, D2, sub, hsd⟩ ⟨rfl, c, hc, rfl⟩
      have hc : l[i]? = some c := by
        rw [← Array.getElem?_toList, tx_list] at hc
        exact hc
      have cm := List.mem_of_getElem? hc
      have cs := g.sm c cm
      have tk : l.take (i + 1) = l.take i ++ [c] := by rw [List.take_add_one, hc]; rfl
      have sl : S.length ≤ 12 := by
        have := sub.length_le
        rw [List.length_map, List.length_take] at this
        omega
      refine ⟨_, rfl, _, rfl, _, _, rfl, rfl, .inl ⟨by omega, by omega⟩, d, _, rfl, D2, by omega, by omega, fun H4 how s4 D4 h0 h1 => ?_⟩
      have s24 := s2.trans s4
      refine ⟨_, rfl, _, _, rfl, rfl, _, rfl, ite2 (fun t => ?_) (fun t => ⟨S, _, _, rfl, s24, D4, by rw [tk]; exact sub.trans (List.sublist_append_left ..), hsd⟩)⟩
      have hw : how < 2 := of_decide_eq_true t
      have uc : Txt.upper (⟨#[c]⟩ : Str) = sg (upc c) := upper_tx (l := [c]) (fun e he => by rw [List.mem_singleton.mp he]; exact g.asc c cm)
      refine ⟨_, rfl, _, rfl, _, rfl, ⟨_, rfl⟩, _, rfl, rfl, by show 1 ≤ 5592405; decide, ?_⟩
      rw [uc]
      refine ⟨by show 2 ≤ sizeLine; decide, fun T nT => ?_⟩
      obtain ⟨e, he, hat⟩ : ∃ e, (e = c ∨ e = upc c) ∧ atI [V.str ⟨#[c]⟩, V.str (sg (upc c))] how = some (.str (sg e)) := by
        have hv : how = 0 ∨ how = 1 := by omega
        rcases hv with z | z
        · exact ⟨c, .inl rfl, by rw [z]; rfl⟩
        · exact ⟨upc c, .inr rfl, by rw [z]; rfl⟩
      refine ⟨_, rfl, T, _, how, .str (sg e), rfl, rfl, SqL.of upd_same, hat, _, _, rfl, rfl, by rw [tx_len, sizeLine_eq]; show _ + 1 ≤ _; omega, S ++ [e], _, _, by rw [sg_tx, tx_app]; rfl, s24.trans (SmD.of (same_upd nT)), D4.same (same_upd nT), ?_, fun b hb => ?_⟩
      · rw [List.map_append, tk]
        refine sub.append ?_
        show [lwc e].Sublist [c]
        rcases he with z | z
        · rw [z, lwc_small cs]; exact List.Sublist.refl _
        · rw [z, lwc_up cs]; exact List.Sublist.refl _
      · rcases List.mem_append.mp hb with z | z
        · exact hsd b z
        · rw [List.mem_singleton.mp z]
          rcases he with y | y
          · rw [y]; exact sds_of_small cm
          · rw [y, upc_small cs]; exact sds_of_great g cm
    · rintro σ H2 ⟨S, y4, y5, rfl, s2, D2, sub, hsd⟩
      rw [List.take_length] at sub
      exact ⟨_, rfl, q H2 S s2 D2 ⟨sub, hsd⟩⟩
def spLPart : Sp := fun vs H Q _ => ∃ d l bs rA, vs = [.ref d, .str (tx l), .ref rA] ∧ Dr H d ∧ GoodW l ∧ (∀ b ∈ bs, isBar l b = true) ∧ rA ≠ d ∧ H rA = some (.lst (((rms l bs).map tx).map V.str)) ∧ rms l bs ≠ [] ∧ (rms l bs).length ≤ 1000 ∧
  ∀ H' P z, SmD d H H' → Dr H' d → Part l P → z ∈ rms l bs → (∀ s ∈ P, s ∈ z) → Q (.str (tx P)) H'
set_option maxHeartbeats 1000000 in
theorem ok_lpart {f fD fO fS fW : Addr} {fd dD dO dS dW : FuncData} {k : Nat} (B : BM mg) (hany : mg "any" = none) (F : Fun K "_law_part" "_law_part" sLPart f fd) (D : DF K mg "_law_draw" sDraw ["_law_d", "_law_many"] fD dD) (Of : DF K mg "_law_of" sOf ["_law_d", "_law_some"] fO dO) (Sd : DF K mg "_law_sides" sLSides ["_law_d", "_law_shuts_here"] fS dS) (W : DF K mg "_law_within" sWithin ["_law_sides_here", "_law_room"] fW dW) :
    FnOk P w K mg base CX0 (k + 4) f fd ["_law_d", "_law_shuts_here", "_law_rooms_here"] spLPart := by
  have GS : FnOk P w K mg base CX0 (k + 3) fS dS ["_law_d", "_law_shuts_here"] spLSides := ok_lsides B Sd.F D Of
  have GO : FnOk P w K mg base CX0 (k + 2) fO dO ["_law_d", "_law_some"] (spOf K) := ok_of B Of.F D
  have GW : FnOk P w K mg base CX0 (k + 1) fW dW ["_law_sides_here", "_law_room"] spWithin := ok_within B W.F
  refine F.ok scLPart (fun vs H Q E h => ?_) (fun cdv A outer st H vs Q E hr h => ?_)
  · obtain ⟨d, l, bs, rA, rfl, _⟩ := h
    rfl
  · obtain ⟨d, l, bs, rA, rfl, hD, g, hb, nrd, er, rne, rlen, q⟩ := h
    have nd := scLPart.nd
    have hl12 := g.hi
    have r1 : Room (k + 1) _ := hr.mono (by omega)
    have r2 : Room (k + 2) _ := hr.mono (by omega)
    refine ⟨_, pss_cons (ps_set (i := 3) nd rfl (.inr rfl) (pe_call GS hr rfl Sd.g Sd.F.kp Sd.b .nil pass0 (pa_cons (pv 0) (pa_cons (pv 1) pa_nil))))
      (pss_cons (ps_if (pt_val (pe_callB (cr_any rfl) (by rfl) hany (by decide +kernel) (pa_cons (pe_lc (own := [("_law_room", 4)]) (g := gName 4) (tt := tYes) (te := tCall spWithin [] E0 (tCons (tVar 3) (tCons (tVar 4) tNil))) rfl nd (pi_list (pv 2)) (blkOk_by (N := nLPart) (sc := defScope sLPart) (by decide +kernel)) (fun _ _ _ _ _ => pg_name (i := 4) nd rfl (Or.inl rfl)) (fun _ _ _ _ _ => pts_nil)
          (fun _ _ _ _ _ => pe_call GW r1 rfl W.g W.F.kp W.b .nil pass0 (pa_cons (pv 3) (pa_cons (pv 4) pa_nil)))) pa_nil))) (pss_one (ps_ret (pv 3))) pss_nil)
      (pss_cons (ps_set (i := 4) nd rfl (.inl rfl) (pe_call GO r2 rfl Of.g Of.F.kp Of.b .nil pass0 (pa_cons (pv 0) (pa_cons (pv 2) pa_nil))))
      (pss_one (ps_ret (pe_join pe_str (pe_lc (own := [("_law_side", 5)]) (g := gName 5) (tt := tTest (tOp rSgn2 (tVar 5) (tVar 3))) rfl nd (pi_str (pv 4)) (blkOk_by (N := nLPart) (sc := defScope sLPart) (by decide +kernel)) (fun _ _ _ _ _ => pg_name (i := 5) nd rfl (Or.inl rfl))
        (fun _ _ _ _ _ => pts_one (pt_cmpR op_in_sign (pv 5) (pv 3) (by rfl))) (fun _ _ _ _ _ => pv 5))))))), ?_⟩
    refine ⟨_, rfl, _, rfl, d, l, rfl, hD, g, fun H1 S s1 D1 pS => ?_⟩
    have er1 := s1.1 _ _ nrd er
    have sl := pS.len
    have wk := walk_list (K := K) (a := rA) (xs := ((rms l bs).map tx).map V.str)
    rw [List.length_map, List.length_map] at wk
    refine ⟨_, rfl, rA, rfl, ⟨_, SqL.of er1⟩, fun Da na => ?_⟩
    refine lc_it wk (fun i H' => Same H1 H' ∧ H' Da = some (.lst ((((rms l bs).take i).map fun r => inR S r).map V.bl))) ⟨same_upd na, upd_same⟩ (fun i H' _ h => SqL.of (h.1 _ _ er1)) ?_ ?_
    · rintro i v H2 H3 hi ⟨s2, e2⟩ ⟨rfl, hx⟩
      rw [List.getElem?_map, List.getElem?_map] at hx
      obtain ⟨z, hz, rfl⟩ := Option.map_eq_some_iff.mp hx
      obtain ⟨r, hr2, rfl⟩ := Option.map_eq_some_iff.mp hz
      refine ⟨rfl, yes_i ⟨_, rfl, _, rfl, S, r, rfl, by omega, fun H4 s4 => ⟨_, s4 _ _ e2, ?_, sm_over (sm_trans s2 s4) na, ?_⟩⟩⟩
      · rw [List.length_map, List.length_map, List.length_take, sizeLine_eq]
        omega
      · rw [upd_same, List.take_add_one, hr2, List.map_append, List.map_append]
        rfl
    rintro H2 ⟨s2, e2⟩
    rw [List.take_length] at e2
    have D2 := D1.same s2
    have s12 := s1.trans (SmD.of s2)
    refine ⟨Da, _, rfl, SqL.of e2, _, rfl, ite2 (fun t => ?_) (fun t => ?_)⟩
    · obtain ⟨z, hz, hin⟩ : ∃ z ∈ rms l bs, inR S z = true := by
        rw [List.any_map, List.any_eq_true] at t
        exact t
      exact ⟨_, rfl, q H2 S z s12 D2 pS hz (inR_iff.mp hin)⟩
    · have ll : (((rms l bs).map tx).map V.str).length = (rms l bs).length := by rw [List.length_map, List.length_map]
      refine ⟨_, rfl, _, rfl, d, _, rfl, D2, .inl ⟨rA, _, rfl, nrd, SqL.of (s2 _ _ er1), by rw [ll]; exact List.length_pos_iff.mpr rne, by rw [ll]; exact rlen, fun H3 v j s3 D3 hv => ?_⟩⟩
      rw [List.getElem?_map, List.getElem?_map] at hv
      obtain ⟨z, hz1, rfl⟩ := Option.map_eq_some_iff.mp hv
      obtain ⟨r, hr1, rfl⟩ := Option.map_eq_some_iff.mp hz1
      have hm := List.mem_of_getElem? hr1
      have rl := (rms_lets g r hm).1
      refine ⟨⟨_, rfl⟩, _, rfl, tx r, rfl, fun Db nb => ?_⟩
      have lz : (tx r).cps.size = r.length := tx_len _
      have wk2 := walk_str (z := tx r)
      rw [lz] at wk2
      refine lc_it wk2 (fun i H' => Same H3 H' ∧ H' Db = some (.lst ((((r.take i).filter fun c => decide (c ∈ S)).map sg).map V.str))) ⟨same_upd nb, upd_same⟩ (fun _ _ _ _ => trivial) ?_ ?_
      · rintro i v H4 H5 hi ⟨s4, e4⟩ ⟨rfl, c, hc, rfl⟩
        have hc : r[i]? = some c := by
          rw [← Array.getElem?_toList, tx_list] at hc
          exact hc
        have tk : r.take (i + 1) = r.take i ++ [c] := by rw [List.take_add_one, hc]; rfl
        have fl : ((r.take i).filter fun c => decide (c ∈ S)).length ≤ 12 := Nat.le_trans (List.length_filter_le _ _) (by rw [List.length_take]; omega)
        refine ⟨rfl, _, rfl, _, rfl, c, tx S, rfl, rfl, _, rfl, ?_⟩
        rw [tx_list]
        refine ite2 (fun t2 => ⟨_, rfl, _, e4, by rw [List.length_map, List.length_map, sizeLine_eq]; omega, sm_over s4 nb, ?_⟩) (fun t2 => ⟨s4, ?_⟩)
        · rw [upd_same, tk, List.filter_append, List.filter_cons, if_pos t2]
          simp
          rfl
        · rw [e4, tk, List.filter_append, List.filter_cons, if_neg t2]
          simp
      · rintro H4 ⟨s4, e4⟩
        rw [List.take_length] at e4
        have fl : (r.filter fun c => decide (c ∈ S)).length ≤ 12 := Nat.le_trans (List.length_filter_le _ _) (by omega)
        refine ⟨_, _, (r.filter fun c => decide (c ∈ S)).map sg, rfl, rfl, .inl (SqL.of e4), ?_, ?_⟩
        · rw [sum_sgs, show (Str.ofString "").length = 0 by decide +kernel]
          omega
        · rw [join_sg]
          exact q H4 _ r ((s12.trans s3).trans (SmD.of s4)) (D3.same s4) (filter_part g hb hm) hm fun s hs => (List.mem_filter.mp hs).1
end
end NC
namespace NC
open PySem PySem.Spec PyProof.Rows L2
/-- the exception at a, caught in X's own frame, with the state t -/
structure Gnd (X : Cx) (pins : List (Addr × Obj)) (a : Addr) (cls : Value) (d : Option Addr) (σ : L2.St) (H : Hp) (B : Heap) (t0 t : Shared) : Prop where
  own : X.stack = X.env :: X.outer
  frm : X.env.frame = some X.env.locals
  was : Inv X pins σ H t0
  low : ∀ b o, t0.heap.get? b = some o → b ∉ frs X.stack → B.get? b = some o
  up : t0.heap.UpToSlots t.heap
  new : H a = none
  io : t.os = t0.os
  gen : AllBare t.gens
  fly : HandSPX.FlyingZ B (X.env :: X.outer) a (Zc cls d) t.heap
section
variable {X : Cx} {pins : List (Addr × Obj)} {a : Addr} {cls : Value} {d : Option Addr} {σ : L2.St} {H : Hp} {B : Heap} {t0 t : Shared} {D : Ends}
theorem Gnd.to (G : Gnd X pins a cls d σ H B t0 t) {h : Heap} (f : HandSPX.FlyingZ B (X.env :: X.outer) a (Zc cls d) h) (u : t.heap.UpToSlots h) : Gnd X pins a cls d σ H B t0 { t with heap := h } := { G with up := G.up.trans u, fly := f }
end
end NC
namespace NC
open PySem PySem.Spec PyProof.Rows L2
/-- f, called with nothing, does tl as long as J; fs H0 h0: the frames and the heaps that this was said of -/
structure Acts (P : Program) (w : World) (K : PySem.W.Frag) (mg : Str → Option Value) (B : Heap) (k : Nat) (f : Addr) (J : Hp → Prop) (fs : List Addr) (H0 : Hp) (h0 : Heap) (tl : XK → Hp → VK → Prop) : Prop where
  obj : ∀ (G : Hp) (s : Shared), Un fs [] H0 G h0 s.heap → HOk P w G s.heap → J G → PySem.W.FnAt f s.heap
  run : ∀ (A : Around) (out : List Env) (s : Shared) (G : Hp) (Q : VK) (E : XK), Room (k + 1) A → Env0 P w K mg B A out s G → Un fs [] H0 G h0 s.heap → J G → tl E G Q →
    codeAny (model P w) A (.call (.ref f) ⟨[], []⟩) (CR (L2.CX P w) out P w G s Q E) s
section
variable {P : Program} {w : World} {K : PySem.W.Frag} {mg : Str → Option Value} {B : Heap} {k j : Nat} {f g : Addr} {J : Hp → Prop} {fs gs : List Addr} {H0 H1 : Hp} {h0 h1 : Heap} {tl : XK → Hp → VK → Prop}
theorem Acts.mono {i : Nat} (a : Acts P w K mg B k f J fs H0 h0 tl) (l : k ≤ i) : Acts P w K mg B i f J fs H0 h0 tl := ⟨a.obj, fun A out s G Q E r => a.run A out s G Q E (r.mono (by omega))⟩
variable {fd : FuncData} {ps : List Str} {sp : Addr → (XK → Hp → VK → Prop) → List V → Hp → VK → Prop}
end
end NC
namespace NC
open PySem PySem.Spec PyProof.Rows L2
section
variable {X : Cx}
/-- f(k = v, ..), no value by place -/
theorem pe_callN0 {CX : CXT} {k : Nat} {f : Addr} {fd : FuncData} {ps ks : List Str} {sp : Sp} {E : XK} {x : Str} {p pos : Pos} {kws : List Keyword} {tk : TA} {g : List Value → List Value → List Value} {gV : List V → List V → List V}
    (G : FnOk X.prog X.w X.K X.mg X.base CX k f fd ps sp) (room : Room k X.A) (gl : Gl X x) (mx : X.mg x = some (.ref f)) (kp : PySem.W.keepIn X.K (.ref f) = true) (b : KBn X.K fd ps 0 ks g gV) (px : Passes CX X E) (pk : PK X kws tk)
    (al : (backToKw pos (keywordEach kws X.env)).all (·.1.isSome) = true := by rfl) (nm : (backToKw pos (keywordEach kws X.env)).filterMap (·.1) = ks := by rfl) (db : (x == ("__debug__" : Str)) = false := by decide)
    (pl : ((backTo pos (starEach [] X.env)).any (·.1) || (backToKw pos (keywordEach kws X.env)).any (·.1.isNone)) = false := by rfl) : PE X (.Call (.Name x p) [] kws pos) (tCallN 0 ks.length sp gV E tNil tk) := ⟨fun pins s σ H Q I h => by
  refine wpAny_Call_Name_kw (ld_glob I gl mx (PySem.W.callWith_KW0 (h₀ := X.base) (first := []) I.mod.kin kp al (thn (pk.run pos pins s σ H _ I h) ?_) pl) db)
  rintro ws v ⟨zs, G2, J, rz, _, l2, q⟩
  rw [nm]
  exact ⟨J.kIn, run_fnN (us := []) (vs := []) G room b px J .nil rz rfl l2 q⟩⟩
end
end NC
namespace NC
open PySem PySem.Spec PyProof.Rows L2
theorem passF {X : Cx} : Passes (L2.CX X.prog X.w) X E0 := fun _ _ _ _ _ _ _ h => by
  obtain ⟨_, _, _, _, _, _, _, _, _, _, _, _, z⟩ := h
  exact z.elim
def spLaw (K : PySem.W.Frag) : Sp := fun vs H Q _ => ∃ (a : Addr) (ns : List Int), vs = [.ref a] ∧ SqL K H a (ns.map V.int) ∧ ∀ H', Q (.bl true) H'
/-- what stands beside the draws: the rooms, the hall -/
structure St6 (d c rA : Addr) (R : List V) (C x dx sb D : Addr) (l : List Nat) (ys : List Str) (fo : Nat → List Nat) (H : Hp) : Prop where
  dr : Dr H d
  hc : HeadC H d c
  rA : H rA = some (.lst R)
  hA : HallAt C H x dx sb D l ys fo
section
variable {d c rA C x dx sb D : Addr} {R : List V} {l : List Nat} {ys : List Str} {fo : Nat → List Nat} {H H' : Hp}
theorem St6.same (s : St6 d c rA R C x dx sb D l ys fo H) (e : Same H H') : St6 d c rA R C x dx sb D l ys fo H' := ⟨s.dr.same e, let ⟨r, h⟩ := s.hc; ⟨r, e _ _ h⟩, e _ _ s.rA, s.hA.same e⟩
theorem St6.smd (s : St6 d c rA R C x dx sb D l ys fo H) (nr : rA ≠ d) (ns : sb ≠ d) (e : SmD d H H') (D' : Dr H' d) : St6 d c rA R C x dx sb D l ys fo H' := by
  obtain ⟨r, hd⟩ := s.hc
  have nx : x ≠ d := ne_of s.hA.x hd fun z => by cases z
  have nD : D ≠ d := ne_of s.hA.D hd fun z => by cases z
  exact ⟨D', e.2 _ s.hc, e.1 _ _ nr s.rA, ⟨e.1 _ _ nx s.hA.x, e.1 _ _ ns s.hA.sb, e.1 _ _ nD s.hA.D⟩⟩
end
end NC
namespace NC
open PySem PySem.Spec PyProof.Rows L2
abbrev sLNear : Stmt := topS 59
abbrev nLNear : List Str := ["_law_rooms_here", "_law_part_here", "_law_room", "_law_best", "_law_one"]
theorem scLNear : FnScope nLNear ["_law_rooms_here", "_law_part_here", "_law_room"] (defScope sLNear) := ⟨rfl, rfl, rfl, by decide +kernel, rfl, by decide +kernel, by decide +kernel⟩
section
variable {P : Program} {w : World} {K : PySem.W.Frag} {mg : Str → Option Value} {base : Heap}
def spLNear (K : PySem.W.Frag) : Sp := fun vs H Q _ => ∃ a l bs P r N, vs = [.ref a, .str (tx P), .str (tx r)] ∧ GoodW l ∧ SqL K H a (((rms l bs).map tx).map V.str) ∧ r ∈ rms l bs ∧ P.length ≤ 100 ∧ N ∈ rms l bs ∧ inR P N = true ∧ (∀ q ∈ rms l bs, inR P q = true → ham r q ≤ ham r N → q = N) ∧ ∀ H', Same H H' → Q (.str (tx N)) H'
set_option maxHeartbeats 1000000 in
theorem ok_lnear {f fW fA : Addr} {fd dW dA : FuncData} {k : Nat} (B : BM mg) (F : Fun K "_law_near" "_law_near" sLNear f fd) (W : DF K mg "_law_within" sWithin ["_law_sides_here", "_law_room"] fW dW) (Ap : DF K mg "_law_apart" sApart ["_law_one", "_law_two"] fA dA) :
    FnOk P w K mg base CX0 (k + 2) f fd ["_law_rooms_here", "_law_part_here", "_law_room"] (spLNear K) := by
  have GW : FnOk P w K mg base CX0 (k + 1) fW dW ["_law_sides_here", "_law_room"] spWithin := ok_within B W.F
  have GA : FnOk P w K mg base CX0 (k + 1) fA dA ["_law_one", "_law_two"] spApart := ok_apart B Ap.F
  refine F.ok scLNear (fun vs H Q E h => ?_) (fun cdv A outer st H vs Q E hr h => ?_)
  · obtain ⟨a, l, bs, P, r, N, rfl, _⟩ := h
    rfl
  · obtain ⟨a, l, bs, P, r, N, rfl, g, hS, hm, pl, hN, hiN, best, q⟩ := h
    have nd := scLNear.nd
    have hl12 := g.hi
    obtain ⟨rl, rlt⟩ := rms_lets g r hm
    refine ⟨_, pss_cons (ps_set (i := 3) nd rfl (.inl rfl) pe_non)
      (pss_cons (ps_for PassesOwn.never rfl (pi_list (pv 0)) (pg_name (i := 4) nd rfl (.inl rfl))
        (pss_one (ps_if (pt_val (pe_call GW hr rfl W.g W.F.kp W.b .nil pass0 (pa_cons (pv 1) (pa_cons (pv 4) pa_nil))))
          (pss_one (ps_if (PW.pt (pw_or (pt_cmp (pc_isN (pv 3))) (pw_or1 (pt_cmpR op_lt (pe_call GA hr rfl Ap.g Ap.F.kp Ap.b .nil pass0 (pa_cons (pv 2) (pa_cons (pv 4) pa_nil))) (pe_call GA hr rfl Ap.g Ap.F.kp Ap.b .nil pass0 (pa_cons (pv 2) (pa_cons (pv 3) pa_nil))) (nomark _)))))
            (pss_one (ps_set (i := 3) nd rfl (.inl rfl) (pv 4))) pss_nil)) pss_nil)))
      (pss_one (ps_ret (pv 3)))), ?_⟩
    have wk := walk_list (K := K) (a := a) (xs := ((rms l bs).map tx).map V.str)
    rw [List.length_map, List.length_map] at wk
    refine ⟨_, rfl, a, rfl, ⟨_, hS⟩, ?_⟩
    refine for_it wk (fun i σ H' => ∃ (y3 : V) (y4 : Option V), σ = [some (.ref a), some (.str (tx P)), some (.str (tx r)), some y3, y4] ∧ Same H H' ∧
        ((y3 = .non ∧ ∀ q ∈ (rms l bs).take i, inR P q = false) ∨ ∃ b, y3 = .str (tx b) ∧ b ∈ rms l bs ∧ inR P b = true ∧ ∀ q ∈ (rms l bs).take i, inR P q = true → ham r b ≤ ham r q))
      ⟨_, _, rfl, L2.Same.refl _, .inl ⟨rfl, by simp⟩⟩ (fun i σ H' _ h => by obtain ⟨_, _, _, s, _⟩ := h; exact sm_l s hS) ?_ ?_
    · rintro i v σ H1 H2 hi ⟨y3, y4, rfl, s1, inv⟩ ⟨rfl, hx⟩
      rw [List.getElem?_map, List.getElem?_map] at hx
      obtain ⟨z, hz, rfl⟩ := Option.map_eq_some_iff.mp hx
      obtain ⟨o, ho, rfl⟩ := Option.map_eq_some_iff.mp hz
      have om := List.mem_of_getElem? ho
      have ol := (rms_lets g o om).1
      have tk : (rms l bs).take (i + 1) = (rms l bs).take i ++ [o] := by rw [List.take_add_one, ho]; rfl
      refine ⟨_, rfl, _, rfl, P, o, rfl, pl, fun H3 s3 => ⟨_, rfl, ite2 (fun t => ?_) (fun t => ?_)⟩⟩
      · have s13 := sm_trans s1 s3
        have take : ∀ H4, Same H H4 → (∀ q ∈ (rms l bs).take i, inR P q = true → ham r o ≤ ham r q) → ∃ (y3 : V) (y4 : Option V), [some (V.ref a), some (.str (tx P)), some (.str (tx r)), some (V.str (tx o)), some (V.str (tx o))] = [some (.ref a), some (.str (tx P)), some (.str (tx r)), some y3, y4] ∧ Same H H4 ∧
            ((y3 = .non ∧ ∀ q ∈ (rms l bs).take (i + 1), inR P q = false) ∨ ∃ b, y3 = .str (tx b) ∧ b ∈ rms l bs ∧ inR P b = true ∧ ∀ q ∈ (rms l bs).take (i + 1), inR P q = true → ham r b ≤ ham r q) := fun H4 s4 le =>
          ⟨_, _, rfl, s4, .inr ⟨o, rfl, om, t, fun q hq hi => by
            rw [tk] at hq
            rcases List.mem_append.mp hq with z | z
            · exact le q z hi
            · rw [List.mem_singleton.mp z]; exact Nat.le_refl _⟩⟩
        rcases inv with ⟨rfl, none⟩ | ⟨b, rfl, bm, bi, ble⟩
        · refine ⟨_, rfl, _, rfl, iteT ⟨_, rfl, take H3 s13 fun q hq hi => ?_⟩⟩
          rw [none q hq] at hi
          cases hi
        · have bl := (rms_lets g b bm).1
          refine ⟨_, rfl, _, rfl, iteF ⟨_, rfl, _, rfl, r, o, rfl, by omega, by omega, fun H4 s4 => ⟨_, rfl, _, rfl, r, b, rfl, by omega, by omega, fun H5 s5 => ⟨_, _, rfl, rfl, _, rfl, ite2 (fun t2 => ?_) (fun t2 => ?_)⟩⟩⟩⟩
          · have lt : ham r o < ham r b := by
              have := of_decide_eq_true t2
              omega
            refine ⟨_, rfl, take H5 (sm_trans s13 (sm_trans s4 s5)) fun q hq hi => ?_⟩
            have := ble q hq hi
            omega
          · have ge : ham r b ≤ ham r o := by
              have : ¬ ((ham r o : Nat) : Int) < ((ham r b : Nat) : Int) := fun z => t2 (decide_eq_true z)
              omega
            refine ⟨_, _, rfl, sm_trans s13 (sm_trans s4 s5), .inr ⟨b, rfl, bm, bi, fun q hq hi => ?_⟩⟩
            rw [tk] at hq
            rcases List.mem_append.mp hq with z | z
            · exact ble q z hi
            · rw [List.mem_singleton.mp z]; exact ge
      · refine ⟨_, _, rfl, sm_trans s1 s3, ?_⟩
        have no : inR P o = false := Bool.eq_false_iff.mpr t
        rcases inv with ⟨rfl, none⟩ | ⟨b, rfl, bm, bi, ble⟩
        · refine .inl ⟨rfl, fun q hq => ?_⟩
          rw [tk] at hq
          rcases List.mem_append.mp hq with z | z
          · exact none q z
          · rw [List.mem_singleton.mp z]; exact no
        · refine .inr ⟨b, rfl, bm, bi, fun q hq hi => ?_⟩
          rw [tk] at hq
          rcases List.mem_append.mp hq with z | z
          · exact ble q z hi
          · rw [List.mem_singleton.mp z, no] at hi
            cases hi
    · rintro σ H1 ⟨y3, y4, rfl, s1, inv⟩
      rw [List.take_length] at inv
      rcases inv with ⟨rfl, none⟩ | ⟨b, rfl, bm, bi, ble⟩
      · have := none N hN
        rw [hiN] at this
        cases this
      · refine ⟨_, rfl, ?_⟩
        rw [best b bm bi (ble N hN hiN)]
        exact q H1 s1
end
end NC
namespace NC
open PySem PySem.Spec PyProof.Rows L2
abbrev sLCalls : Stmt := topS 62
abbrev nLCalls : List Str := ["_law_d", "_law_shuts_here", "_law_rooms_here", "_law_most", "_law_k"]
theorem scLCalls : FnScope nLCalls ["_law_d", "_law_shuts_here", "_law_rooms_here", "_law_most"] (defScope sLCalls) := ⟨rfl, rfl, rfl, by decide +kernel, rfl, by decide +kernel, by decide +kernel⟩
section
variable {P : Program} {w : World} {K : PySem.W.Frag} {mg : Str → Option Value} {base : Heap}
def spLCalls : Sp := fun vs H Q _ => ∃ d l bs rA, ∃ n : Nat, vs = [.ref d, .str (tx l), .ref rA, .int (n : Int)] ∧ n ≤ 100 ∧ Dr H d ∧ GoodW l ∧ (∀ b ∈ bs, isBar l b = true) ∧ rA ≠ d ∧ H rA = some (.lst (((rms l bs).map tx).map V.str)) ∧ rms l bs ≠ [] ∧ (rms l bs).length ≤ 1000 ∧
  ∀ H' p, ∀ Ps : List (List Nat), SmD d H H' → Dr H' d → H p = none → H' p = some (.lst ((Ps.map tx).map V.str)) → Ps.length ≤ n → (∀ P ∈ Ps, Part l P ∧ ∃ z ∈ rms l bs, ∀ s ∈ P, s ∈ z) → Q (.ref p) H'
set_option maxHeartbeats 1000000 in
theorem ok_lcalls {f fD fO fS fW fP : Addr} {fd dD dO dS dW dP : FuncData} {k : Nat} (B : BM mg) (hany : mg "any" = none) (F : Fun K "_law_calls" "_law_calls" sLCalls f fd) (D : DF K mg "_law_draw" sDraw ["_law_d", "_law_many"] fD dD) (Of : DF K mg "_law_of" sOf ["_law_d", "_law_some"] fO dO) (Sd : DF K mg "_law_sides" sLSides ["_law_d", "_law_shuts_here"] fS dS) (W : DF K mg "_law_within" sWithin ["_law_sides_here", "_law_room"] fW dW) (Pt : DF K mg "_law_part" sLPart ["_law_d", "_law_shuts_here", "_law_rooms_here"] fP dP) :
    FnOk P w K mg base CX0 (k + 5) f fd ["_law_d", "_law_shuts_here", "_law_rooms_here", "_law_most"] spLCalls := by
  have GD : FnOk P w K mg base CX0 (k + 1) fD dD ["_law_d", "_law_many"] spDraw := ok_draw B D.F
  have GP : FnOk P w K mg base CX0 (k + 4) fP dP ["_law_d", "_law_shuts_here", "_law_rooms_here"] spLPart := ok_lpart B hany Pt.F D Of Sd W
  refine F.ok scLCalls (fun vs H Q E h => ?_) (fun cdv A0 outer st H vs Q E hr h => ?_)
  · obtain ⟨d, l, bs, rA, n, rfl, _⟩ := h
    rfl
  · obtain ⟨d, l, bs, rA, n, rfl, hn, hD, g, hb, nrd, er, rne, rlen, q⟩ := h
    have nd := scLCalls.nd
    have r1 : Room (k + 1) _ := hr.mono (by omega)
    refine ⟨_, pss_one (ps_ret (pe_lc (own := [("_law_k", 4)]) (g := gName 4) (tt := tYes) (te := tCall spLPart [] E0 (tCons (tVar 0) (tCons (tVar 1) (tCons (tVar 2) tNil)))) rfl nd (pi_range1 (by rfl) B.range (pa_cons (pe_call GD r1 rfl D.g D.F.kp D.b .nil pass0 (pa_cons (pv 0) (pa_cons (pe_op op_add (pv 3) pe_int) pa_nil))) pa_nil)) (blkOk_by (N := nLCalls) (sc := defScope sLCalls) (by decide +kernel)) (fun _ _ _ _ _ => pg_name (i := 4) nd rfl (Or.inl rfl)) (fun _ _ _ _ _ => pts_nil)
      (fun _ _ _ _ _ => pe_call GP hr rfl Pt.g Pt.F.kp Pt.b .nil pass0 (pa_cons (pv 0) (pa_cons (pv 1) (pa_cons (pv 2) pa_nil)))))), ?_⟩
    refine ⟨_, rfl, _, rfl, _, _, rfl, rfl, d, _, rfl, hD, by omega, by omega, fun H1 v s1 D1 v0 v1 => ?_⟩
    obtain ⟨m, rfl⟩ := Int.eq_ofNat_of_zero_le v0
    refine ⟨_, rfl, by omega, by omega, ?_⟩
    rw [show ((m : Nat) : Int).toNat = m from Int.toNat_natCast _]
    intro Da na
    have nDd : Da ≠ d := D1.ne na
    have naH : H Da = none := by
      cases hz : H Da with
      | none => rfl
      | some o => rw [s1.1 _ _ nDd hz] at na; cases na
    refine lc_it walk_range (fun i H' => SmD d H1 H' ∧ Dr H' d ∧ ∃ Ps : List (List Nat), H' Da = some (.lst ((Ps.map tx).map V.str)) ∧ Ps.length = i ∧ ∀ P ∈ Ps, Part l P ∧ ∃ z ∈ rms l bs, ∀ s ∈ P, s ∈ z) ⟨SmD.of (same_upd na), D1.same (same_upd na), [], upd_same, rfl, by simp⟩ (fun _ _ _ _ => trivial) ?_ ?_
    · rintro i v G1 G2 hi ⟨u1, DG, Ps, e1, pl, hPs⟩ ⟨rfl, rfl⟩
      have er2 := u1.1 _ _ nrd (s1.1 _ _ nrd er)
      refine ⟨rfl, yes_i ⟨_, rfl, _, rfl, _, rfl, d, l, bs, rA, rfl, DG, g, hb, nrd, er2, rne, rlen, fun G3 S z u3 DG3 pS hz hin => ?_⟩⟩
      have e3 := u3.1 _ _ nDd e1
      obtain ⟨c0, hc0⟩ := DG3.head
      obtain ⟨nsx, hcell⟩ := DG3.cell hc0
      have nDc : Da ≠ c0 := by
        obtain ⟨c1, hc1⟩ := D1.head
        obtain ⟨ns1, hcell1⟩ := D1.cell hc1
        have hcc : HeadC G3 d c1 := u3.2 _ (u1.2 _ hc1)
        have : c1 = c0 := by
          obtain ⟨r1', h1'⟩ := hcc
          obtain ⟨r2', h2'⟩ := hc0
          rw [h1'] at h2'
          injection h2' with h2'
          injection h2' with h2'
          injection h2' with h2' _
          injection h2' with h2'
        rw [← this]
        exact Ne.symm (ne_of_none hcell1 na)
      refine ⟨_, e3, by rw [List.length_map, List.length_map, sizeLine_eq]; omega, ?_, DG3.upd hc0 nDd nDc, Ps ++ [S], ?_, by rw [List.length_append, pl]; rfl, fun P hP => ?_⟩
      · have u13 := u1.trans u3
        refine ⟨fun b o nb hb => ?_, fun c hc => (u13.2 c hc).upd nDd⟩
        rw [upd_ne (ne_of_none hb na)]
        exact u13.1 b o nb hb
      · rw [upd_same]
        simp
      · rcases List.mem_append.mp hP with z1 | z1
        · exact hPs P z1
        · rw [List.mem_singleton.mp z1]; exact ⟨pS, z, hz, hin⟩
    · rintro G1 ⟨u1, DG, Ps, e1, pl, hPs⟩
      exact q G1 Da Ps (s1.trans u1) DG naH e1 (by omega) hPs
end
end NC
namespace NC
open PySem PySem.Spec PyProof.Rows L2
abbrev sLed : Stmt := topS 60
abbrev sMap : Stmt := topS 61
abbrev nLed : List Str := ["_law_rooms_here", "_law_shuts_here", "_law_steps", "_law_room", "_law_kind", "_law_text"]
abbrev nMap : List Str := ["_law_rooms_here", "_law_shuts_here", "_law_steps", "_law_found", "_law_room"]
theorem scLed : FnScope nLed ["_law_rooms_here", "_law_shuts_here", "_law_steps", "_law_room"] (defScope sLed) := ⟨rfl, rfl, rfl, by decide +kernel, rfl, by decide +kernel, by decide +kernel⟩
theorem scMap : FnScope nMap ["_law_rooms_here", "_law_shuts_here", "_law_steps"] (defScope sMap) := ⟨rfl, rfl, rfl, by decide +kernel, rfl, by decide +kernel, by decide +kernel⟩
/-- steps that are calls -/
def StepsAt (H : Hp) (s : Addr) (Ps : List (List Nat)) : Prop := ∃ es : List Addr, es.length = Ps.length ∧ H s = some (.lst (es.map V.ref)) ∧ ∀ (i : Nat) P, Ps[i]? = some P → ∃ e, es[i]? = some e ∧ H e = some (.tup [.str "call", .str (tx P)])
theorem StepsAt.same {H H' : Hp} {s : Addr} {Ps : List (List Nat)} (h : StepsAt H s Ps) (e : Same H H') : StepsAt H' s Ps := by
  obtain ⟨es, h1, h2, h3⟩ := h
  exact ⟨es, h1, e _ _ h2, fun i P hi => by obtain ⟨x, a, b⟩ := h3 i P hi; exact ⟨x, a, e _ _ b⟩⟩
/-- where calls lead -/
def ledP (fo : Nat → List Nat) (Ps : List (List Nat)) (r : List Nat) : List Nat := Ps.foldl (fun r P => wov (allFo fo P) r) r
/-- a room's room, by a map -/
def mapK (rs : List (List Nat)) (f : List Nat → List Nat) : List (Key × V) := rs.map fun r => (Sum.inr (tx r), V.str (tx (f r)))
theorem mapK_val {rs : List (List Nat)} {f : List Nat → List Nat} {r : List Nat} (h : r ∈ rs) : valV (mapK rs f) (Sum.inr (tx r)) = some (.str (tx (f r))) := by
  induction rs with
  | nil => cases h
  | cons t rest ih =>
    by_cases e : t = r
    · subst e
      exact valV_pos (p := (Sum.inr (tx t), V.str (tx (f t)))) rfl
    · have h2 : r ∈ rest := by
        rcases List.mem_cons.mp h with z | z
        · exact absurd z.symm e
        · exact z
      exact (valV_neg (p := (Sum.inr (tx t), V.str (tx (f t)))) (fun z => e (tx_inj (Sum.inr.inj z)))).trans (ih h2)
theorem mapK_no {rs : List (List Nat)} {f : List Nat → List Nat} {r : List Nat} (h : r ∉ rs) : valV (mapK rs f) (Sum.inr (tx r)) = none := by
  induction rs with
  | nil => rfl
  | cons t rest ih =>
    have e : ¬ t = r := fun z => h (by rw [z]; exact List.mem_cons_self ..)
    exact (valV_neg (p := (Sum.inr (tx t), V.str (tx (f t)))) (fun z => e (tx_inj (Sum.inr.inj z)))).trans (ih fun z => h (List.mem_cons_of_mem _ z))
theorem mapK_get {H : Hp} {d : Addr} {rs : List (List Nat)} {f : List Nat → List Nat} {r : List Nat} (e : H d = some (.dK (mapK rs f))) (h : r ∈ rs) : DGet H d (.str (tx r)) (some (.str (tx (f r)))) := by
  rw [← mapK_val (f := f) h]
  exact DGet.k (k := Sum.inr (tx r)) e
section
variable {P : Program} {w : World} {K : PySem.W.Frag} {mg : Str → Option Value} {base : Heap}
def spLed (K : PySem.W.Frag) : Sp := fun vs H Q _ => ∃ a s l bs fo r, ∃ (Ps : List (List Nat)), vs = [.ref a, .str (tx l), .ref s, .str (tx r)] ∧ GoodW l ∧ (∀ b ∈ bs, isBar l b = true) ∧ (∀ s ∈ sds l, ∀ t, t ∈ fo s ↔ Frc (adjOf bs) s t) ∧ SqL K H a (((rms l bs).map tx).map V.str) ∧ StepsAt H s Ps ∧ (∀ P ∈ Ps, Part l P ∧ ∃ z ∈ rms l bs, ∀ s ∈ P, s ∈ z) ∧ r ∈ rms l bs ∧ ∀ H', Same H H' → Q (.str (tx (ledP fo Ps r))) H'
theorem led_room {l : List Nat} (g : GoodW l) {bs : List (List Nat)} (hb : ∀ b ∈ bs, isBar l b = true) {fo : Nat → List Nat} (hf : ∀ s ∈ sds l, ∀ t, t ∈ fo s ↔ Frc (adjOf bs) s t) : ∀ {Ps : List (List Nat)}, (∀ P ∈ Ps, Part l P ∧ ∃ z ∈ rms l bs, ∀ s ∈ P, s ∈ z) → ∀ {r : List Nat}, r ∈ rms l bs → ledP fo Ps r ∈ rms l bs
  | [], _, _, hr => hr
  | P :: Ps, h, r, hr => by
    obtain ⟨pP, z, hz, hin⟩ := h P (List.mem_cons_self ..)
    exact led_room g hb hf (fun Q hQ => h Q (List.mem_cons_of_mem _ hQ)) (wov_room g hb hf pP.sd hz hin hr).1
theorem led_snoc (fo : Nat → List Nat) (Ps : List (List Nat)) (P r : List Nat) : ledP fo (Ps ++ [P]) r = wov (allFo fo P) (ledP fo Ps r) := by
  unfold ledP
  rw [List.foldl_append]
  rfl
set_option maxHeartbeats 1000000 in
theorem ok_led {f fN fW fA : Addr} {fd dN dW dA : FuncData} {k : Nat} (B : BM mg) (F : Fun K "_law_led" "_law_led" sLed f fd) (N : DF K mg "_law_near" sLNear ["_law_rooms_here", "_law_part_here", "_law_room"] fN dN) (W : DF K mg "_law_within" sWithin ["_law_sides_here", "_law_room"] fW dW) (Ap : DF K mg "_law_apart" sApart ["_law_one", "_law_two"] fA dA) :
    FnOk P w K mg base CX0 (k + 3) f fd ["_law_rooms_here", "_law_shuts_here", "_law_steps", "_law_room"] (spLed K) := by
  have GN : FnOk P w K mg base CX0 (k + 2) fN dN ["_law_rooms_here", "_law_part_here", "_law_room"] (spLNear K) := ok_lnear B N.F W Ap
  refine F.ok scLed (fun vs H Q E h => ?_) (fun cdv A outer st H vs Q E hr h => ?_)
  · obtain ⟨a, s, l, bs, fo, r, Ps, rfl, _⟩ := h
    rfl
  · obtain ⟨a, s, l, bs, fo, r, Ps, rfl, g, hb, hf, hS, hst, hPs, hm, q⟩ := h
    have nd := scLed.nd
    have hl12 := g.hi
    obtain ⟨es, el, es1, es2⟩ := hst
    refine ⟨_, pss_cons (ps_for PassesOwn.never rfl (pi_list (pv 2)) (pg_tup rfl (pgs_cons (pg_name (i := 4) nd rfl (.inl rfl)) (pgs_cons (pg_name (i := 5) nd rfl (.inl rfl)) pgs_nil)))
        (pss_one (ps_if (pt_cmpR op_eq (pv 4) pe_str (nomark _)) (pss_one (ps_set (i := 3) nd rfl (.inl rfl) (pe_call GN hr rfl N.g N.F.kp N.b .nil pass0 (pa_cons (pv 0) (pa_cons (pv 5) (pa_cons (pv 3) pa_nil)))))) (pss_one ps_dead))))
      (pss_one (ps_ret (pv 3))), ?_⟩
    have wk := walk_list (K := K) (a := s) (xs := es.map V.ref)
    rw [List.length_map, el] at wk
    refine ⟨_, rfl, s, rfl, ⟨_, SqL.of es1⟩, ?_⟩
    refine for_it wk (fun i σ H' => ∃ (y4 y5 : Option V), σ = [some (.ref a), some (.str (tx l)), some (.ref s), some (.str (tx (ledP fo (Ps.take i) r))), y4, y5] ∧ Same H H') ⟨_, _, rfl, L2.Same.refl _⟩ (fun i σ H' _ h => by obtain ⟨_, _, _, h⟩ := h; exact SqL.of (h _ _ es1)) ?_ ?_
    · rintro i v σ H1 H2 hi ⟨y4, y5, rfl, s1⟩ ⟨rfl, hx⟩
      have hP : Ps[i]? = some Ps[i] := List.getElem?_eq_getElem hi
      obtain ⟨e, he, eT⟩ := es2 i _ hP
      rw [List.getElem?_map, he] at hx
      cases hx
      have hPm := List.getElem_mem hi
      generalize Ps[i] = P0 at hP eT hPm
      obtain ⟨pP, z, hz, hin⟩ := hPs P0 hPm
      have pl := pP.len
      have hrm := led_room g hb hf (fun Q hQ => hPs Q (List.mem_of_mem_take hQ)) hm (Ps := Ps.take i)
      refine ⟨e, _, rfl, SqT.of (s1 _ _ eT), rfl, _, _, rfl, _, _, rfl, rfl, ?_⟩
      refine ⟨_, rfl, rfl, _, rfl, ?_⟩
      rw [show decide (V.str "call" = V.str "call") = true from decide_eq_true rfl]
      refine iteT ?_
      obtain ⟨hNm, hNin⟩ := wov_room g hb hf pP.sd hz hin hrm
      refine ⟨_, rfl, _, rfl, _, rfl, a, l, bs, P0, _, _, rfl, g, sm_l s1 hS, hrm, by omega, hNm, inR_iff.mpr hNin, fun q hq hi hle => wov_best g hb hf pP.sd hq (inR_iff.mp hi) hrm hle, fun H3 s3 => ?_⟩
      refine ⟨some (.str "call"), some (.str (tx P0)), ?_, sm_trans s1 s3⟩
      rw [List.take_add_one, hP]
      show _ = [_, _, _, some (V.str (tx (ledP fo (Ps.take i ++ [P0]) r))), _, _]
      rw [led_snoc]
      rfl
    · rintro σ H1 ⟨y4, y5, rfl, s1⟩
      rw [List.take_length]
      exact ⟨_, rfl, q H1 s1⟩
def spMap (K : PySem.W.Frag) : Sp := fun vs H Q _ => ∃ a s l bs fo, ∃ (Ps : List (List Nat)), vs = [.ref a, .str (tx l), .ref s] ∧ GoodW l ∧ (∀ b ∈ bs, isBar l b = true) ∧ (∀ s ∈ sds l, ∀ t, t ∈ fo s ↔ Frc (adjOf bs) s t) ∧ SqL K H a (((rms l bs).map tx).map V.str) ∧ StepsAt H s Ps ∧ (∀ P ∈ Ps, Part l P ∧ ∃ z ∈ rms l bs, ∀ s ∈ P, s ∈ z) ∧ ∀ H' p, Same H H' → H p = none → H' p = some (.dK (mapK (rms l bs) (ledP fo Ps))) → Q (.ref p) H'
set_option maxHeartbeats 1000000 in
theorem ok_map {f fL fN fW fA : Addr} {fd dL dN dW dA : FuncData} {k : Nat} (B : BM mg) (F : Fun K "_law_map" "_law_map" sMap f fd) (Ld : DF K mg "_law_led" sLed ["_law_rooms_here", "_law_shuts_here", "_law_steps", "_law_room"] fL dL) (N : DF K mg "_law_near" sLNear ["_law_rooms_here", "_law_part_here", "_law_room"] fN dN) (W : DF K mg "_law_within" sWithin ["_law_sides_here", "_law_room"] fW dW) (Ap : DF K mg "_law_apart" sApart ["_law_one", "_law_two"] fA dA) :
    FnOk P w K mg base CX0 (k + 4) f fd ["_law_rooms_here", "_law_shuts_here", "_law_steps"] (spMap K) := by
  have GL : FnOk P w K mg base CX0 (k + 3) fL dL ["_law_rooms_here", "_law_shuts_here", "_law_steps", "_law_room"] (spLed K) := ok_led B Ld.F N W Ap
  refine F.ok scMap (fun vs H Q E h => ?_) (fun cdv A outer st H vs Q E hr h => ?_)
  · obtain ⟨a, s, l, bs, fo, Ps, rfl, _⟩ := h
    rfl
  · obtain ⟨a, s, l, bs, fo, Ps, rfl, g, hb, hf, hS, hst, hPs, q⟩ := h
    have nd := scMap.nd
    have rlen := rms_len g (bs := bs)
    have rnd := rms_nd g (bs := bs)
    refine ⟨_, pss_cons (ps_set (i := 3) nd rfl (.inl rfl) pe_dnewK)
      (pss_cons (ps_for PassesOwn.never rfl (pi_list (pv 0)) (pg_name (i := 4) nd rfl (.inl rfl))
        (pss_one (ps_dput (hu_of hr) (pv 3) (pv 4) (pe_call GL hr rfl Ld.g Ld.F.kp Ld.b .nil pass0 (pa_cons (pv 0) (pa_cons (pv 1) (pa_cons (pv 2) (pa_cons (pv 4) pa_nil))))) rfl)))
      (pss_one (ps_ret (pv 3)))), ?_⟩
    refine fun p np => ?_
    have wk := walk_list (K := K) (a := a) (xs := ((rms l bs).map tx).map V.str)
    rw [List.length_map, List.length_map] at wk
    refine ⟨_, rfl, a, rfl, ⟨_, sm_l (same_upd np) hS⟩, ?_⟩
    refine for_it wk (fun i σ H' => ∃ (y4 : Option V), σ = [some (.ref a), some (.str (tx l)), some (.ref s), some (.ref p), y4] ∧ Same H H' ∧ H' p = some (.dK (mapK ((rms l bs).take i) (ledP fo Ps)))) ⟨_, rfl, same_upd np, upd_same⟩ (fun i σ H' _ h => by obtain ⟨_, _, h, _⟩ := h; exact sm_l h hS) ?_ ?_
    · rintro i v σ H1 H2 hi ⟨y4, rfl, s1, e1⟩ ⟨rfl, hx⟩
      rw [List.getElem?_map, List.getElem?_map] at hx
      obtain ⟨z2, hz2, rfl⟩ := Option.map_eq_some_iff.mp hx
      obtain ⟨r, hr2, rfl⟩ := Option.map_eq_some_iff.mp hz2
      have rm := List.mem_of_getElem? hr2
      have nin : r ∉ (rms l bs).take i := fun hm => by
        obtain ⟨j, hj⟩ := List.getElem?_of_mem hm
        have hji : j < i := by
          have := (List.getElem?_eq_some_iff.mp hj).1
          rw [List.length_take] at this
          omega
        rw [List.getElem?_take_of_lt hji] at hj
        exact absurd ((List.getElem?_inj (List.getElem?_eq_some_iff.mp hj).1 rnd).mp (hj.trans hr2.symm)) (Nat.ne_of_lt hji)
      refine ⟨_, rfl, _, rfl, _, rfl, _, rfl, a, s, l, bs, fo, r, Ps, rfl, g, hb, hf, sm_l s1 hS, StepsAt.same hst s1, hPs, rm, fun H3 s3 => ?_⟩
      have e3 := s3 _ _ e1
      refine ⟨_, rfl, _, rfl, p, _, rfl, DPut.k (k := Sum.inr (tx r)) e3 (by unfold mapK; rw [List.length_map, List.length_take, sizeLine_eq]; omega), ?_⟩
      refine ⟨_, rfl, sm_over (sm_trans s1 s3) np, ?_⟩
      rw [upd_same, putK_new _ (mapK_no nin), List.take_add_one, hr2]
      unfold mapK
      rw [List.map_append]
      rfl
    · rintro σ H1 ⟨y4, rfl, s1, e1⟩
      rw [List.take_length] at e1
      exact ⟨_, rfl, q H1 p s1 np e1⟩
end
end NC
namespace NC
open PySem PySem.Spec PyProof.Rows L2
abbrev sLaw : Stmt := topS 64
abbrev nLaw : List Str := ["_law_script", "_law_d", "_law_shuts_here", "_law_bars", "_law_rooms_here", "_law_hall_it", "_law_parts", "_law_moves", "_law_due", "_law_places", "_law_ends_there", "_law_k", "_law_told", "_law_part_here", "_law_room"]
theorem scLaw : FnScope nLaw ["_law_script"] (defScope sLaw) := ⟨rfl, rfl, rfl, by decide +kernel, rfl, by decide +kernel, by decide +kernel⟩
def gSw {α : Type} (_us ws : List α) : List α := match ws with
  | [c, h] => [h, c]
  | _ => ws
/-- the law's own helpers -/
structure Hlp (K : PySem.W.Frag) (mg : Str → Option Value) (tc : Tok) (f_start f_draw f_of f_letters f_shuts f_oth f_wit f_pairs f_all f_rms f_fine f_hall f_lsi f_lpa f_lap f_lne f_led f_map f_lca f_lls f_same f_sh f_sc f_ww f_lo f_ga : Addr) (d_start d_draw d_of d_letters d_shuts d_oth d_wit d_pairs d_all d_rms d_fine d_hall d_lsi d_lpa d_lap d_lne d_led d_map d_lca d_lls d_same d_sh d_sc d_ww d_lo d_ga : FuncData) : Prop where
  start : DF K mg "_law_start" sStart ["_law_script"] f_start d_start
  draw : DF K mg "_law_draw" sDraw ["_law_d", "_law_many"] f_draw d_draw
  of : DF K mg "_law_of" sOf ["_law_d", "_law_some"] f_of d_of
  letters : DF K mg "_law_letters" sLetters [] f_letters d_letters
  shuts : DF K mg "_law_shuts" sShuts ["_law_d", "_law_most"] f_shuts d_shuts
  oth : DF K mg "_law_other" sOth ["_law_side"] f_oth d_oth
  wit : DF K mg "_law_within" sWithin ["_law_sides_here", "_law_room"] f_wit d_wit
  pairs : DF K mg "_law_pairs" sPairs ["_law_shuts_here"] f_pairs d_pairs
  all : DF K mg "_law_all" sAll ["_law_shuts_here"] f_all d_all
  rms : DF K mg "_law_rooms" sRooms ["_law_shuts_here", "_law_bars"] f_rms d_rms
  fine : DF K mg "_law_fine" sFine ["_law_shuts_here", "_law_rooms_here"] f_fine d_fine
  hall : DF K mg "_law_hall" sHall ["_law_d", "_law_most"] f_hall d_hall
  lsi : DF K mg "_law_sides" sLSides ["_law_d", "_law_shuts_here"] f_lsi d_lsi
  lpa : DF K mg "_law_part" sLPart ["_law_d", "_law_shuts_here", "_law_rooms_here"] f_lpa d_lpa
  lap : DF K mg "_law_apart" sApart ["_law_one", "_law_two"] f_lap d_lap
  lne : DF K mg "_law_near" sLNear ["_law_rooms_here", "_law_part_here", "_law_room"] f_lne d_lne
  led : DF K mg "_law_led" sLed ["_law_rooms_here", "_law_shuts_here", "_law_steps", "_law_room"] f_led d_led
  map : DF K mg "_law_map" sMap ["_law_rooms_here", "_law_shuts_here", "_law_steps"] f_map d_map
  lca : DF K mg "_law_calls" sLCalls ["_law_d", "_law_shuts_here", "_law_rooms_here", "_law_most"] f_lca d_lca
  lls : DF K mg "_law_lists" sLists ["_law_many"] f_lls d_lls
  same : DF K mg "_law_same" sSame ["_law_x", "_law_due"] f_same d_same
  sh : DF K mg "shut" sShut ["hall", "part"] f_sh d_sh
  sc : DF K mg "shut_calls" sShCalls ["hall", "calls", "most"] f_sc d_sc
  ww : DF K mg "walls_written" sWWrit ["hall", "shut_texts"] f_ww d_ww
  lo : DF K mg "longer_lists" sLonger ["lists", "count"] f_lo d_lo
  ga : DF K mg "gather" sGather ["hall", "calls"] f_ga d_ga
  many : mg "any" = none
  mb : mg "bool" = none
  ms : mg "str" = none
  mC : mg "MOST_CALLS" = some (.int 12 tc)
  kw : KBn K d_ga ["hall", "calls"] 0 ["calls", "hall"] (gSw (α := Value)) gSw
def MovesAt (H : Hp) (m : Addr) (n : Nat) (rs : List (List Nat)) (fs : Nat → List Nat → List Nat) : Prop := ∃ es : List Addr, es.length = n ∧ H m = some (.lst (es.map V.ref)) ∧ ∀ k, k < n → ∃ e, es[k]? = some e ∧ H e = some (.dK (mapK rs (fs k)))
theorem MovesAt.same {H H' : Hp} {m : Addr} {n : Nat} {rs : List (List Nat)} {fs : Nat → List Nat → List Nat} (h : MovesAt H m n rs fs) (s : Same H H') : MovesAt H' m n rs fs := by
  obtain ⟨es, h1, h2, h3⟩ := h
  exact ⟨es, h1, s _ _ h2, fun k hk => by obtain ⟨e, a, b⟩ := h3 k hk; exact ⟨e, a, s _ _ b⟩⟩
theorem CallsOk.txs {l : List Nat} {bs : List (List Nat)} {Ps : List (List Nat)} (h : CallsOk l bs Ps) (g : GoodW l) (hb : ∀ b ∈ bs, isBar l b = true) {fo : Nat → List Nat} (hf : ∀ s ∈ sds l, ∀ t, t ∈ fo s ↔ Frc (adjOf bs) s t) (ok : Okv l bs) : Txs l bs (Ps.map (shT l fo)) ∧ ∀ k P r, Ps[k]? = some P → r ∈ rms l bs → wov ((Ps.map (shT l fo)).getD k []) r = wov (allFo fo P) r := by
  have e : ∀ k P r, Ps[k]? = some P → r ∈ rms l bs → wov ((Ps.map (shT l fo)).getD k []) r = wov (allFo fo P) r := fun k P r hP hr => by
    have : (Ps.map (shT l fo)).getD k [] = shT l fo P := by rw [List.getD_eq_getElem?_getD, List.getElem?_map, hP]; rfl
    rw [this]
    refine wov_by g fun c hc => ?_
    obtain ⟨p, rfl, _⟩ := (rms_mem g hb r).mp hr
    exact rm_asc g hc
  refine ⟨⟨(h.ts g hb hf ok).1, fun k r hk hr => ?_⟩, e⟩
  rw [List.length_map] at hk
  obtain ⟨pP, z, hz, hin⟩ := h.ok _ (List.getElem_mem hk)
  rw [e k _ r (List.getElem?_eq_getElem hk) hr]
  exact (wov_room g hb hf pP.sd hz hin hr).1
theorem runC_snoc (ts : List (List Nat)) : ∀ (ks : List Nat) (k : Nat) (r : List Nat), runC ts (ks ++ [k]) r = wov (ts.getD k []) (runC ts ks r)
  | [], _, _ => rfl
  | x :: ks, k, r => runC_snoc ts ks k (wov (ts.getD x []) r)
/-- the maps of the calls' parts -/
def fsOf (fo : Nat → List Nat) (Ps : List (List Nat)) (k : Nat) : List Nat → List Nat := ledP fo [Ps.getD k []]
/-- what is due: the first list that does -/
def DueR (H : Hp) (dv : V) (o : Option (List Nat)) : Prop := match o with
  | none => dv = .non
  | some t => ∃ p, dv = .ref p ∧ H p = some (.lst (t.map nI))
theorem DueR.same {H H' : Hp} {dv : V} {o : Option (List Nat)} (h : DueR H dv o) (s : Same H H') : DueR H' dv o := by
  cases o with
  | none => exact h
  | some t =>
    obtain ⟨p, e, hp⟩ := h
    exact ⟨p, e, s _ _ hp⟩
theorem due_alk {H : Hp} {dv : V} {o : Option (List Nat)} (h : DueR H dv o) {tv : V} (k : DueR H tv o) (l : ∀ t, o = some t → t.length ≤ 5000) : Alk H 1 tv dv := by
  cases o with
  | none =>
    have h : dv = .non := h
    have k : tv = .non := k
    rw [h, k]
    exact .non
  | some t =>
    obtain ⟨p, rfl, hp⟩ := h
    obtain ⟨r, rfl, hr⟩ := k
    refine .lst hr hp rfl (by rw [List.length_map]; exact l t rfl) fun i a b ha hb => ?_
    rw [ha] at hb
    cases hb
    rw [List.getElem?_map] at ha
    obtain ⟨z, _, rfl⟩ := Option.map_eq_some_iff.mp ha
    exact .int _
section
variable {P : Program} {w : World} {K : PySem.W.Frag} {mg : Str → Option Value} {base : Heap} {tw tc : Tok} {fOther fSides fByW fIsW fIsB fCW fCB fCS fStr fRe fAF fCF fCA : Addr} {dOther dSides dByW dIsW dIsB dCW dCB dCS dStr dRe dAF dCF dCA : FuncData}
    {CH iH CB iB CF iF CA iA : Addr} {eH eB eF eA : FuncData} {C fi fb fw ff : Addr} {di db dw df : FuncData} {fIsP fChP fAFB fTo : Addr} {dIsP dChP dAFB dTo : FuncData} {f_start f_draw f_of f_letters f_shuts f_oth f_wit f_pairs f_all f_rms f_fine f_hall f_lsi f_lpa f_lap f_lne f_led f_map f_lca f_lls f_same f_sh f_sc f_ww f_lo f_ga : Addr} {d_start d_draw d_of d_letters d_shuts d_oth d_wit d_pairs d_all d_rms d_fine d_hall d_lsi d_lpa d_lap d_lne d_led d_map d_lca d_lls d_same d_sh d_sc d_ww d_lo d_ga : FuncData}
set_option maxHeartbeats 16000000 in
theorem ok_law {f : Addr} {fd : FuncData} {k : Nat} (F : Fun K "law" "law" sLaw f fd) (Z : HC K mg C fi fb di db) (Y : PT K mg C fw ff dw df fIsP fChP fAFB fTo dIsP dChP dAFB dTo)
    (T : Txt8 K mg tw fOther fSides fByW fIsW fIsB fCW fCB fCS fStr fRe fAF fCF fCA dOther dSides dByW dIsW dIsB dCW dCB dCS dStr dRe dAF dCF dCA CH iH CB iB CF iF CA iA eH eB eF eA)
    (L : Hlp K mg tc f_start f_draw f_of f_letters f_shuts f_oth f_wit f_pairs f_all f_rms f_fine f_hall f_lsi f_lpa f_lap f_lne f_led f_map f_lca f_lls f_same f_sh f_sc f_ww f_lo f_ga d_start d_draw d_of d_letters d_shuts d_oth d_wit d_pairs d_all d_rms d_fine d_hall d_lsi d_lpa d_lap d_lne d_led d_map d_lca d_lls d_same d_sh d_sc d_ww d_lo d_ga) : FnOk P w K mg base CX0 (k + 9) f fd ["_law_script"] (spLaw K) := by
  have B := T.B
  have GSt : FnOk P w K mg base CX0 (k + 1) f_start d_start ["_law_script"] (spStart K) := ok_start T.B L.start.F
  have GHl : FnOk P w K mg base CX0 (k + 3) f_hall d_hall ["_law_d", "_law_most"] spHall := ok_hall T.B L.many L.hall.F L.draw L.of L.letters L.shuts L.oth L.wit L.pairs L.all L.rms L.fine
  have GC : FnOk P w K mg base CX0 (k + 5) f_lca d_lca ["_law_d", "_law_shuts_here", "_law_rooms_here", "_law_most"] spLCalls := ok_lcalls T.B L.many L.lca.F L.draw L.of L.lsi L.wit L.lpa
  have GM : FnOk P w K mg base CX0 (k + 4) f_map d_map ["_law_rooms_here", "_law_shuts_here", "_law_steps"] (spMap K) := ok_map T.B L.map.F L.led L.lne L.wit L.lap
  have GH : FnOk P w K mg base (L2.CX P w) (k + 5) fi di ["self", "walls", "bars"] (spHinit K C CB CF CA) := ok_Hinit Z T
  have GLs : FnOk P w K mg base CX0 (k + 1) f_lls d_lls ["_law_many"] spLists := ok_lists T.B L.lls.F
  have GS0 : FnOk P w K mg base CX0 (k + 3) f_same d_same ["_law_x", "_law_due"] (spYes 1) := ok_yes T.B L.mb L.ms L.same 1
  have GG : FnOk P w K mg base CX0 (k + 8) f_ga d_ga ["hall", "calls"] (spGather K C) := ok_gather T.B Z Y T.cs T.S T.O T.Y L.sh L.sc L.ww L.lo L.mC L.ga.F
  refine F.ok scLaw (fun vs H Q E h => ?_) (fun cdv A outer st H vs Q E hr h => ?_)
  · obtain ⟨a, ns, rfl, _⟩ := h
    rfl
  · obtain ⟨a, ns, rfl, hS, q⟩ := h
    have r1 : Room (k + 1) _ := hr.mono (by omega)
    have r2 : Room (k + 2) _ := hr.mono (by omega)
    have r3 : Room (k + 3) _ := hr.mono (by omega)
    have r4 : Room (k + 4) _ := hr.mono (by omega)
    have r5 : Room (k + 5) _ := hr.mono (by omega)
    have r6 : Room (k + 6) _ := hr.mono (by omega)
    have r7 : Room (k + 7) _ := hr.mono (by omega)
    have r8 : Room (k + 8) _ := hr.mono (by omega)
    have nd := scLaw.nd
    refine ⟨_, (pss_cons (ps_set (i := 1) nd rfl (.inl rfl) (pe_call GSt r1 rfl L.start.g L.start.F.kp L.start.b .nil pass0 (pa_cons (pv 0) pa_nil)))
      (pss_cons (ps_asg (pe_call GHl r3 rfl L.hall.g L.hall.F.kp L.hall.b .nil pass0 (pa_cons (pv 1) (pa_cons pe_int pa_nil))) (pg_lst rfl (pgs_cons (pg_name (i := 2) nd rfl (.inr rfl)) (pgs_cons (pg_name (i := 3) nd rfl (.inl rfl)) (pgs_cons (pg_name (i := 4) nd rfl (.inr rfl)) pgs_nil)))))
      (pss_cons (ps_set (i := 5) nd rfl (.inl rfl) (pe_make (E := E0) Z.mks GH r6 rfl Z.gC Z.b .nil passF (pa_cons (pv 2) (pa_cons (pv 3) pa_nil))))
      (pss_cons (ps_set (i := 6) nd rfl (.inl rfl) (pe_call GC r5 rfl L.lca.g L.lca.F.kp L.lca.b .nil pass0 (pa_cons (pv 1) (pa_cons (pv 2) (pa_cons (pv 4) (pa_cons pe_int pa_nil))))))
      (pss_cons (ps_set (i := 7) nd rfl (.inr rfl) (pe_lc (own := [("_law_part_here", 13)]) (g := gName 13) (tt := tYes) (te := tCall (spMap K) [] E0 (tCons (tVar 4) (tCons (tVar 2) (tCons (tLst (tCons (tTup (tCons (tC (.str "call")) (tCons (tVar 13) tNil))) tNil)) tNil)))) rfl nd (pi_list (pv 6)) (blkOk_by (N := nLaw) (sc := defScope sLaw) (by decide +kernel)) (fun _ _ _ _ _ => pg_name (i := 13) nd rfl (Or.inl rfl)) (fun _ _ _ _ _ => pts_nil) (fun _ _ _ _ _ => (pe_call GM r4 rfl L.map.g L.map.F.kp L.map.b .nil pass0 (pa_cons (pv 4) (pa_cons (pv 2) (pa_cons (pe_lst (pa_cons (pe_tup (pa_cons pe_str (pa_cons (pv 13) pa_nil))) pa_nil)) pa_nil)))))))
      (pss_cons (ps_set (i := 8) nd rfl (.inl rfl) pe_non)
      (C8.pss_cut (ps_for PassesOwn.never rfl (pi_list (pe_call GLs r1 rfl L.lls.g L.lls.F.kp L.lls.b .nil pass0 (pa_cons (pe_callB call_len_seq (by rfl) B.len PySem.boot_len (pa_cons (pv 6) pa_nil)) pa_nil))) (pg_name (i := 9) nd rfl (.inl rfl))
        (pss_one (ps_if (pt_cmp (pc_isN (pv 8)))
        (pss_cons (ps_set (i := 10) nd rfl (.inr rfl) (pv 4))
      (pss_cons (ps_for PassesOwn.never rfl (pi_list (pv 9)) (pg_name (i := 11) nd rfl (.inr rfl))
        (pss_one (ps_set (i := 10) nd rfl (.inr rfl) (pe_lc (own := [("_law_room", 14)]) (g := gName 14) (tt := tYes) (te := tDGet (tOp (rIxL K) (tVar 7) (tVar 11)) (tVar 14)) rfl nd (pi_list (pv 10)) (blkOk_by (N := nLaw) (sc := defScope sLaw) (by decide +kernel)) (fun _ _ _ _ _ => pg_name (i := 14) nd rfl (Or.inl rfl)) (fun _ _ _ _ _ => pts_nil) (fun _ _ _ _ _ => (pe_dget (hu_of hr) (pe_ix ix_list (pv 7) (pv 11) (fun _ _ => rfl)) (pv 14) (fun _ _ => rfl)))))))
      (pss_one (ps_if (pt_cmpR op_eq (pe_callB call_len_seq (by rfl) B.len PySem.boot_len (pa_cons (pv 4) pa_nil)) (pe_callB call_len_seq (by rfl) B.len PySem.boot_len (pa_cons (pe_lc (own := [("_law_room", 14)]) (g := gName 14) (tt := tTest (tOp rEq (tVar 14) (tOp (rIxL K) (tVar 10) (tC (.int 0))))) (te := tVar 14) rfl nd (pi_list (pv 10)) (blkOk_by (N := nLaw) (sc := defScope sLaw) (by decide +kernel)) (fun _ _ _ _ _ => pg_name (i := 14) nd rfl (Or.inl rfl)) (fun _ _ _ _ _ => (pts_one (pt_cmpR op_eq (pv 14) (pe_ix ix_list (pv 10) pe_int (fun _ _ => rfl)) (nomark _)))) (fun _ _ _ _ _ => pv 14)) pa_nil)) (nomark _))
        (pss_one (ps_set (i := 8) nd rfl (.inl rfl) (pv 9)))
        pss_nil))))
        pss_nil)))
      (pss_cons (ps_set (i := 12) nd rfl (.inl rfl) (pe_call GG hr rfl L.ga.g L.ga.F.kp L.ga.b .nil pass0 (pa_cons (pv 5) (pa_cons (pv 6) pa_nil))))
      (pss_cons (ps_if (pt_not (pt_val (pe_call GS0 r3 rfl L.same.g L.same.F.kp L.same.b .nil pass0 (pa_cons (pv 12) (pa_cons (pv 8) pa_nil))))) (pss_one (ps_ret pe_bl)) pss_nil)
      (C8.pss_cut (ps_if (pt_cmp (pc_notN (pv 12)))
        (pss_one (ps_expr (pe_bm PySem.F.plainAttrs_list PySem.F.slot_list_append PySem.F.type_list_append mt_append (pv 12) (pa_cons pe_int pa_nil))))
        pss_nil)
      (pss_one (ps_ret (pe_call GS0 r3 rfl L.same.g L.same.F.kp L.same.b .nil pass0 (pa_cons (pe_callN0 (ks := ["calls", "hall"]) GG hr rfl L.ga.g L.ga.F.kp L.kw pass0 (pk_cons (pe_tupleOf (by rfl) B.tuple (pv 6)) (pk_cons (pv 5) pk_nil))) (pa_cons (pv 8) pa_nil))))))))))))))), ?_⟩
    refine ⟨_, rfl, a, ns, rfl, hS, fun H0 d s0 nd0 D0 => ?_⟩
    refine ⟨_, rfl, d, 6, rfl, D0, by decide, by decide, fun H1 l bs Tl bA rA s1 D1 ho hln nbd nrd eT eb er => ?_⟩
    have g := ho.g
    have hl6 : l.length ≤ 6 := by omega
    refine ⟨Tl, _, rfl, SqL.of eT, rfl, _, _, rfl, _, _, rfl, _, _, rfl, rfl, ?_⟩
    have fok := first_ok ho.bar ho.nd
    have bok := bars_ok g ho.bar
    obtain ⟨c0, hc0⟩ := D1.head
    obtain ⟨rr, hd1⟩ := id hc0
    refine ⟨_, rfl, _, rfl, fun x dx nx ndx nne => ?_⟩
    have s8 : Same H1 (upd (upd H1 dx (.own x)) x (.ins C dx [])) := sm_upd (same_upd ndx) (by rw [upd_ne (Ne.symm nne)]; exact nx)
    refine ⟨x, dx, l, bA, bs, rfl, upd_same, g, bok, by have := ho.len; omega, sm_l s8 (SqL.of eb), ?_⟩
    rw [fok]
    intro fo hfo
    have foI := hfo.iff g ho.bar
    rw [ho.ok fo foI]
    intro H2 sb D ys s9 nsb nD hat hp hso
    refine ⟨rfl, ?_⟩
    have s2 : Same H1 H2 := fun b o hb => s9 b o (ne_of_none hb nx) (s8 b o hb)
    have nsd : sb ≠ d := Ne.symm (ne_of_none (s8 _ _ hd1) nsb)
    have S2 : St6 d c0 rA (((rms l bs).map tx).map V.str) C x dx sb D l ys fo H2 := ⟨D1.same s2, ⟨rr, s2 _ _ hd1⟩, s2 _ _ er, hat⟩
    have hgo : ∀ {H'}, St6 d c0 rA (((rms l bs).map tx).map V.str) C x dx sb D l ys fo H' → HallF C H' x dx sb D l ys fo bs := fun S => ⟨⟨S.hA, g, ho.bar, hp, by have := ho.len; omega, ho.ok⟩, foI, fun s hs => hfo.len g hs⟩
    have rl6 : (rms l bs).length ≤ 1000 := by
      unfold rms
      refine Nat.le_trans (List.length_filter_le _ _) ?_
      rw [allT_len]
      exact Nat.le_trans (Nat.pow_le_pow_right (by decide) hl6) (by decide)
    refine ⟨_, rfl, _, rfl, _, rfl, d, l, bs, rA, 7, rfl, by decide, S2.dr, g, ho.bar, nrd, S2.rA, ho.ne, rl6, fun H3 pA Ps s3 D3 npA epA pl hPs => ?_⟩
    have S3 := S2.smd nrd nsd s3 D3
    have hC : CallsOk l bs Ps := ⟨by omega, hPs⟩
    obtain ⟨txs, txe⟩ := hC.txs g ho.bar foI ho.ok
    have tlen : (Ps.map (shT l fo)).length = Ps.length := List.length_map ..
    have fse : ∀ k r, k < Ps.length → r ∈ rms l bs → fsOf fo Ps k r = wov ((Ps.map (shT l fo)).getD k []) r := fun k r hk hr => by
      rw [txe k _ r (List.getElem?_eq_getElem hk) hr]
      show wov (allFo fo (Ps.getD k [])) r = _
      rw [List.getD_eq_getElem?_getD, List.getElem?_eq_getElem hk]
      rfl
    have fcl : ∀ k, k < Ps.length → ∀ x ∈ rms l bs, fsOf fo Ps k x ∈ rms l bs := fun k hk x hx => by
      rw [fse k x hk hx]
      exact txs.room k x (by omega) hx
    have sr : ∀ s ∈ sds l, ∃ r ∈ rms l bs, s ∈ r := fun s hs => side_room g ho.bar foI ho.ok hs
    -- the maps
    have wkp := walk_list (K := K) (a := pA) (xs := (Ps.map tx).map V.str)
    rw [List.length_map, List.length_map] at wkp
    refine ⟨_, rfl, pA, rfl, ⟨_, SqL.of epA⟩, fun mA na => ?_⟩
    refine lc_it wkp (fun i H' => Same H3 H' ∧ MovesAt H' mA i (rms l bs) (fsOf fo Ps)) ⟨same_upd na, [], rfl, upd_same, fun k hk => absurd hk (Nat.not_lt_zero _)⟩ (fun i H' _ h => SqL.of (h.1 _ _ epA)) ?_ ?_
    · rintro u v G1 G2 hu2 ⟨u1, es, el, em, ed⟩ ⟨rfl, hx⟩
      rw [List.getElem?_map, List.getElem?_map] at hx
      obtain ⟨z2, hz2, rfl⟩ := Option.map_eq_some_iff.mp hx
      obtain ⟨o, ho2, rfl⟩ := Option.map_eq_some_iff.mp hz2
      refine ⟨rfl, yes_i ⟨_, rfl, _, rfl, _, rfl, by show 2 ≤ sizeLine; decide, fun T1 nT1 => ⟨by show 1 ≤ sizeLine; decide, fun L1 nL1 => ?_⟩⟩⟩
      have nTL : T1 ≠ L1 := ne_of_none upd_same nL1
      have sg2 : Same G2 (upd (upd G2 T1 (.tup [.str "call", .str (tx o)])) L1 (.lst [.ref T1])) := sm_upd (same_upd nT1) nL1
      have st1 : StepsAt (upd (upd G2 T1 (.tup [.str "call", .str (tx o)])) L1 (.lst [.ref T1])) L1 [o] := ⟨[T1], rfl, upd_same, fun j P0 hj => by
        match j, hj with
        | 0, hj => cases hj; exact ⟨T1, rfl, by rw [upd_ne nTL, upd_same]⟩⟩
      generalize (upd (upd G2 T1 (.tup [.str "call", .str (tx o)])) L1 (.lst [.ref T1])) = G3 at sg2 st1 ⊢
      have u13 := sm_trans u1 sg2
      refine ⟨rA, L1, l, bs, fo, [o], rfl, g, ho.bar, foI, SqL.of (u13 _ _ S3.rA), st1, fun P0 hP0 => by rw [List.mem_singleton.mp hP0]; exact hPs o (List.mem_of_getElem? ho2), fun G4 pd u4 npd epd => ?_⟩
      have em4 := u4 _ _ (sg2 _ _ em)
      have nmp : mA ≠ pd := ne_of_none (sg2 _ _ em) npd
      refine ⟨_, em4, by rw [List.length_map, el, sizeLine_eq]; omega, sm_over (sm_trans u13 u4) na, es ++ [pd], by rw [List.length_append, el]; rfl, by rw [upd_same, List.map_append]; rfl, fun k' hk' => ?_⟩
      rcases Nat.lt_or_ge k' u with z | z
      · obtain ⟨e, a1, b1⟩ := ed k' z
        refine ⟨e, by rw [List.getElem?_append_left (by omega)]; exact a1, ?_⟩
        have n1 : e ≠ mA := ne_of b1 em (fun z => by cases z)
        rw [upd_ne n1]
        exact u4 _ _ (sg2 _ _ b1)
      · have ek : k' = u := by omega
        subst ek
        refine ⟨pd, by rw [List.getElem?_append_right (by omega), el, Nat.sub_self]; rfl, ?_⟩
        rw [upd_ne (Ne.symm nmp), epd]
        have : Ps.getD k' [] = o := by rw [List.getD_eq_getElem?_getD, ho2]; rfl
        unfold fsOf
        rw [this]
    rintro H4 ⟨s4, hM⟩
    have S4 := S3.same s4
    have epA4 := s4 _ _ epA
    generalize hts : Ps.map (shT l fo) = ts at *
    generalize hn : Ps.length = n at *
    refine ⟨fun σ H' => ∃ (dv : V) (y9 y10 y11 : Option V), σ = [some (.ref a), some (.ref d), some (.str (tx l)), some (.ref bA), some (.ref rA), some (.ref x), some (.ref pA), some (.ref mA), some dv, y9, y10, y11, none, none, none] ∧ Same H4 H' ∧ DueR H' dv ((LL n).find? (okT l ts)), ?_, ?_⟩
    · have h7 : n ≤ 7 := pl
      refine ⟨_, rfl, pA, _, rfl, .inl (SqL.of epA4), n, by rw [List.length_map, List.length_map, hn]; rfl, h7, fun H5 pL ws s5 npL eL hLs => ⟨pL, rfl, ⟨_, SqL.of eL⟩, ?_⟩⟩
      have S5 := S4.same s5
      have hM5 := hM.same s5
      obtain ⟨z0, zt, hz0⟩ : ∃ z t, rms l bs = z :: t := by
        cases h : rms l bs with
        | nil => exact absurd h ho.ne
        | cons z t => exact ⟨z, t, rfl⟩
      have z0m : z0 ∈ rms l bs := by rw [hz0]; exact List.mem_cons_self ..
      have wk := walk_list (K := K) (a := pL) (xs := ws)
      rw [hLs.len] at wk
      refine for_it wk (fun i σ H' => ∃ (dv : V) (y9 y10 y11 : Option V), σ = [some (.ref a), some (.ref d), some (.str (tx l)), some (.ref bA), some (.ref rA), some (.ref x), some (.ref pA), some (.ref mA), some dv, y9, y10, y11, none, none, none] ∧ Same H5 H' ∧ DueR H' dv (((LL n).take i).find? (okT l ts))) ⟨.non, _, _, _, rfl, fun _ _ h => h, rfl⟩ (fun i σ H' _ h => by obtain ⟨_, _, _, _, _, s, _⟩ := h; exact SqL.of (s _ _ eL)) ?_ ?_
      · rintro i v σ G1 G2 hi ⟨dv, y9, y10, y11, rfl, sg, hd⟩ ⟨rfl, hx⟩
        obtain ⟨p, t, rfl, ht, _, hp⟩ := hLs.at hx
        have tlt := ll_mem h7 (List.mem_of_getElem? ht)
        have hp1 := sg _ _ hp
        have eF : ((LL n).take (i + 1)).find? (okT l ts) = (((LL n).take i).find? (okT l ts)).or (if okT l ts t = true then some t else none) := by
          rw [List.take_add_one, ht, List.find?_append]
          congr 1
          show List.find? _ [t] = _
          rw [List.find?_cons, List.find?_nil]
          cases okT l ts t <;> rfl
        refine ⟨_, rfl, _, rfl, ?_⟩
        cases hf : ((LL n).take i).find? (okT l ts) with
        | some u =>
          rw [hf] at hd eF
          obtain ⟨pu, rfl, hu⟩ := hd
          rw [show decide (V.ref pu = V.non) = false from decide_eq_false nofun]
          exact iteF ⟨_, _, _, _, rfl, sg, by rw [eF]; exact ⟨pu, rfl, hu⟩⟩
        | none =>
          rw [hf] at hd eF
          have hd : dv = .non := hd
          subst hd
          rw [show decide (V.non = V.non) = true from decide_eq_true rfl]
          refine iteT ⟨_, rfl, _, rfl, p, rfl, ⟨_, SqL.of hp1⟩, ?_⟩
          have S6 := S5.same sg
          have hM6 := hM5.same sg
          have wk2 := walk_list (K := K) (a := p) (xs := t.map nI)
          rw [List.length_map] at wk2
          refine for_it wk2 (fun j σ H' => ∃ (eA : Addr) (y11 : Option V), σ = [some (.ref a), some (.ref d), some (.str (tx l)), some (.ref bA), some (.ref rA), some (.ref x), some (.ref pA), some (.ref mA), some .non, some (.ref p), some (.ref eA), y11, none, none, none] ∧ Same G2 H' ∧ H' eA = some (.lst ((((rms l bs).map (runC ts (t.take j))).map tx).map V.str))) ⟨rA, _, rfl, fun _ _ h => h, by rw [List.take_zero, show runC ts [] = id from rfl, List.map_id]; exact S6.rA⟩ (fun j σ H' _ h => by obtain ⟨_, _, _, s, _⟩ := h; exact SqL.of (s _ _ hp1)) ?_ ?_
          · rintro j v σ G3 G4 hj ⟨eA, y11', rfl, s3', eE⟩ ⟨rfl, hx⟩
            rw [List.getElem?_map] at hx
            obtain ⟨k', hk', rfl⟩ := Option.map_eq_some_iff.mp hx
            have klt := tlt k' (List.mem_of_getElem? hk')
            have wk3 := walk_list (K := K) (a := eA) (xs := (((rms l bs).map (runC ts (t.take j))).map tx).map V.str)
            rw [List.length_map, List.length_map, List.length_map] at wk3
            refine ⟨_, rfl, eA, rfl, ⟨_, SqL.of eE⟩, fun Dc nc => ?_⟩
            refine lc_it wk3 (fun u H' => Same G4 H' ∧ H' Dc = some (.lst ((((((rms l bs).map (runC ts (t.take j))).take u).map (fun r => wov (ts.getD k' []) r)).map tx).map V.str))) ⟨same_upd nc, upd_same⟩ (fun u H' _ h => SqL.of (h.1 _ _ eE)) ?_ ?_
            · rintro u v G5 G6 hu ⟨s6, e6⟩ ⟨rfl, hx⟩
              rw [List.getElem?_map, List.getElem?_map] at hx
              obtain ⟨z2, hz2, rfl⟩ := Option.map_eq_some_iff.mp hx
              obtain ⟨r1, hr1, rfl⟩ := Option.map_eq_some_iff.mp hz2
              have rr : r1 ∈ rms l bs := by
                obtain ⟨r0, hr0, rfl⟩ := List.mem_map.mp (List.mem_of_getElem? hr1)
                exact run_room g txs (t.take j) (fun y hy => by have := tlt y (List.mem_of_mem_take hy); omega) r0 hr0
              obtain ⟨es, el, em, ed⟩ := (hM6.same s3').same s6
              obtain ⟨e, he, eD⟩ := ed k' klt
              have ax : atI (es.map V.ref) ((k' : Nat) : Int) = some (.ref e) := atI_nat (by rw [List.getElem?_map, he]; rfl)
              refine ⟨rfl, yes_i ⟨_, rfl, _, rfl, mA, _, _, _, rfl, rfl, SqL.of em, ax, _, rfl, e, _, rfl, mapK_get eD rr, ?_⟩⟩
              refine ⟨_, e6, by rw [List.length_map, List.length_map, List.length_map, List.length_take, List.length_map, sizeLine_eq]; omega, sm_over s6 nc, ?_⟩
              rw [upd_same, List.take_add_one, hr1, List.map_append, List.map_append, List.map_append, fse k' r1 klt rr]
              rfl
            · rintro G5 ⟨s6, e6⟩
              rw [List.take_of_length_le (by rw [List.length_map]; exact Nat.le_refl _)] at e6
              refine ⟨Dc, _, rfl, sm_trans s3' s6, ?_⟩
              have er : ((rms l bs).map (runC ts (t.take j))).map (fun r => wov (ts.getD k' []) r) = (rms l bs).map (runC ts (t.take j ++ [k'])) := by
                rw [List.map_map]
                exact List.map_congr_left fun r _ => (runC_snoc ts (t.take j) k' r).symm
              rw [e6, er, List.take_add_one, hk']
              rfl
          · rintro σ G3 ⟨eA, y11', rfl, s3', eE⟩
            rw [List.take_length] at eE
            have S7 := S6.same s3'
            have wk4 := walk_list (K := K) (a := eA) (xs := (((rms l bs).map (runC ts t)).map tx).map V.str)
            rw [List.length_map, List.length_map, List.length_map] at wk4
            have a0 : atI ((((rms l bs).map (runC ts t)).map tx).map V.str) 0 = some (.str (tx (runC ts t z0))) := by
              rw [hz0]
              exact atI_nat (j := 0) rfl
            refine ⟨_, rfl, rA, _, rfl, .inl (SqL.of S7.rA), _, rfl, eA, rfl, ⟨_, SqL.of eE⟩, fun Dc nc => ?_⟩
            refine lc_it wk4 (fun u H' => Same G3 H' ∧ H' Dc = some (.lst ((((((rms l bs).map (runC ts t)).take u).filter (fun r => decide (r = runC ts t z0))).map tx).map V.str))) ⟨same_upd nc, by rw [List.take_zero, List.filter_nil, upd_same]; rfl⟩ (fun u H' _ h => SqL.of (h.1 _ _ eE)) ?_ ?_
            · rintro u v G5 G6 hu ⟨s6, e6⟩ ⟨rfl, hx⟩
              rw [List.getElem?_map, List.getElem?_map] at hx
              obtain ⟨z2, hz2, rfl⟩ := Option.map_eq_some_iff.mp hx
              obtain ⟨r1, hr1, rfl⟩ := Option.map_eq_some_iff.mp hz2
              refine ⟨rfl, _, rfl, _, rfl, eA, _, 0, .str (tx (runC ts t z0)), rfl, rfl, SqL.of (s6 _ _ eE), a0, rfl, _, rfl, ?_⟩
              have ed : decide (V.str (tx r1) = V.str (tx (runC ts t z0))) = decide (r1 = runC ts t z0) := decide_eq_decide.mpr ⟨fun h => tx_inj (V.str.inj h), fun h => by rw [h]⟩
              rw [ed]
              by_cases c : r1 = runC ts t z0
              · rw [decide_eq_true c]
                refine iteT ⟨_, rfl, _, e6, ?_, sm_over s6 nc, ?_⟩
                · rw [List.length_map, List.length_map, sizeLine_eq]
                  have := List.length_filter_le (fun r => decide (r = runC ts t z0)) (((rms l bs).map (runC ts t)).take u)
                  rw [List.length_take, List.length_map] at this
                  omega
                · rw [upd_same, List.take_add_one, hr1, List.filter_append, List.map_append, List.map_append]
                  show _ = some (HO.lst (_ ++ List.map V.str (List.map tx (List.filter _ [r1]))))
                  rw [List.filter_cons, if_pos (decide_eq_true c)]
                  rfl
              · rw [decide_eq_false c]
                refine iteF ⟨s6, ?_⟩
                rw [e6, List.take_add_one, hr1, List.filter_append]
                show _ = some (HO.lst (List.map V.str (List.map tx (_ ++ List.filter _ [r1]))))
                rw [List.filter_cons, if_neg (by rw [decide_eq_false c]; nofun), List.filter_nil, List.append_nil]
            · rintro G5 ⟨s6, e6⟩
              rw [List.take_of_length_le (by rw [List.length_map]; exact Nat.le_refl _)] at e6
              refine ⟨Dc, _, rfl, .inl (SqL.of e6), rfl, _, rfl, ?_⟩
              have one := one_iff g txs sr (ks := t) (fun k hk => by rw [tlen]; exact tlt k hk) z0m
              have eo : decide (V.int (((((rms l bs).map tx).map V.str).length : Nat) : Int) = V.int (((((((rms l bs).map (runC ts t)).filter (fun r => decide (r = runC ts t z0))).map tx).map V.str).length : Nat) : Int)) = okT l ts t := by
                unfold okT
                rw [decide_eq_decide, ← one, List.length_map, List.length_map, List.length_map, List.length_map]
                constructor
                · intro h r hr
                  have h := V.int.inj h
                  have h2 : (((rms l bs).map (runC ts t)).filter (fun r => decide (r = runC ts t z0))).length = ((rms l bs).map (runC ts t)).length := by
                    rw [List.length_map]
                    omega
                  have h3 := List.length_filter_eq_length_iff.mp h2 (runC ts t r) (List.mem_map.mpr ⟨r, hr, rfl⟩)
                  exact of_decide_eq_true h3
                · intro h
                  have h2 : (((rms l bs).map (runC ts t)).filter (fun r => decide (r = runC ts t z0))).length = ((rms l bs).map (runC ts t)).length := List.length_filter_eq_length_iff.mpr fun x hx => by
                    obtain ⟨r, hr, rfl⟩ := List.mem_map.mp hx
                    exact decide_eq_true (h r hr)
                  rw [h2, List.length_map]
              rw [eo]
              have s26 := sm_trans s3' s6
              cases hk : okT l ts t with
              | true =>
                rw [hk] at eF
                exact iteT ⟨_, rfl, _, _, _, _, rfl, sm_trans sg s26, by rw [eF]; exact ⟨p, rfl, s26 _ _ hp1⟩⟩
              | false =>
                rw [hk] at eF
                exact iteF ⟨_, _, _, _, rfl, sm_trans sg s26, by rw [eF]; rfl⟩
      · rintro σ G1 ⟨dv, y9, y10, y11, rfl, sg, hd⟩
        rw [List.take_length] at hd
        exact ⟨_, _, _, _, rfl, sm_trans s5 sg, hd⟩
    rintro σ H5 ⟨dv, y9, y10, y11, rfl, s5, hd⟩
    have S5 := S4.same s5
    have len5 : ∀ t, (LL n).find? (okT l ts) = some t → t.length ≤ 5000 := fun t h => by
      obtain ⟨s, hs, ht⟩ := List.mem_flatMap.mp (List.mem_of_find?_eq_some h)
      have hs := List.mem_range.mp hs
      have h7 : n ≤ 7 := pl
      rw [(lv_mem n h7 s (by omega) t ht).2]
      omega
    have eP5 := s5 _ _ epA4
    refine ⟨_, rfl, _, rfl, x, dx, sb, D, l, ys, fo, bs, pA, Ps, rfl, hgo S5, .inl (SqL.of eP5), hC, by rw [hn]; exact pl, ?_⟩
    rw [hts, hn]
    have told : ∀ {Hb : Hp} {Q2 : VK}, (∀ H' tv, Same Hb H' → (tv = .non ∨ ∃ p, tv = .ref p ∧ Hb p = none ∧ ∃ xs, H' p = some (.lst xs) ∧ xs.length ≤ 5000) → DueR H' tv ((LL n).find? (okT l ts)) → Q2 tv H') → GaQ Hb Q2 ((LL n).find? (okT l ts)) := fun {Hb Q2} h => by
      cases hf : (LL n).find? (okT l ts) with
      | none =>
        rw [hf] at h
        exact fun H' s' => h H' .non s' (.inl rfl) rfl
      | some t =>
        have l5 := len5 t hf
        rw [hf] at h
        exact fun H' p s' np hp => h H' (.ref p) s' (.inr ⟨p, rfl, np, _, hp, by rw [List.length_map]; exact l5⟩) ⟨p, rfl, hp⟩
    refine told fun H6 tv s6 nw ht => ?_
    refine ⟨_, rfl, _, rfl, tv, dv, rfl, due_alk (hd.same s6) ht len5, fun H7 s7 => ⟨_, rfl, iteF ?_⟩⟩
    refine ⟨fun σ H' => σ = [some (.ref a), some (.ref d), some (.str (tx l)), some (.ref bA), some (.ref rA), some (.ref x), some (.ref pA), some (.ref mA), some dv, y9, y10, y11, some tv, none, none] ∧ Same H5 H', ?_, ?_⟩
    · refine ⟨_, rfl, _, rfl, ?_⟩
      rcases nw with rfl | ⟨p, rfl, np, xs, hp, lx⟩
      · rw [show (!decide (V.non = V.non)) = false by rw [decide_eq_true rfl]; rfl]
        exact iteF ⟨rfl, sm_trans s6 s7⟩
      · rw [show (!decide (V.ref p = V.non)) = true by rw [decide_eq_false nofun]; rfl]
        have hp7 := s7 _ _ hp
        exact iteT ⟨_, rfl, .inl ⟨rfl, _, SqL.of hp7⟩, p, xs, _, rfl, rfl, hp7, by rw [sizeLine_eq]; omega, rfl, sm_over (sm_trans s6 s7) np⟩
    rintro σ H8 ⟨rfl, s8⟩
    have S8 := S5.same s8
    refine ⟨_, rfl, .inl ⟨pA, _, rfl, SqL.of (s8 _ _ eP5), fun p1 np1 => ?_⟩⟩
    have s9 := same_upd np1 (o := .tup ((Ps.map tx).map V.str))
    refine ⟨_, rfl, rfl, rfl, x, dx, sb, D, l, ys, fo, bs, p1, Ps, rfl, hgo (S8.same s9), .inr (SqT.of upd_same), hC, by rw [hn]; exact pl, ?_⟩
    rw [hts, hn]
    refine told fun H9 tv2 s10 _ ht2 => ?_
    exact ⟨_, rfl, tv2, dv, rfl, due_alk (hd.same (sm_trans s8 (sm_trans s9 s10))) ht2 len5, fun Ha sa => q _⟩
end
end NC
namespace NC
open PySem PySem.Spec PyProof.Rows L2
theorem kw_g {K : PySem.W.Frag} {fd : FuncData} (h : ∀ c h : Value, bindArgs fd ⟨[], [("calls", c), ("hall", h)]⟩ = (pure ((["hall", "calls"] : List Str).zip [h, c]) : Sem (List (Str × Value)))) : KBn K fd ["hall", "calls"] 0 ["calls", "hall"] (gSw (α := Value)) gSw where
  to := fun s us ws _ l1 l2 => match us, ws, l1, l2 with
    | [], [a, b], _, _ => .of_eq (h a b)
  rel := fun {vs us zs ws} _ r => match r with
    | .cons r1 (.cons r2 .nil) => .cons r2 (.cons r1 .nil)
    | .nil => .nil
    | .cons r1 .nil => .cons r1 .nil
    | .cons r1 (.cons r2 (.cons r3 r4)) => .cons r1 (.cons r2 (.cons r3 r4))
set_option maxHeartbeats 4000000 in
theorem all_mk {l : PySem.W.OpenLaw} {w : World} {K : PySem.W.Frag} {h : Heap} {mg : Str → Option Value} {fa : Addr}  (X : K.In h) (G : h.Ns mainGlobals mg) (hfa : mg "law" = some (.ref fa))
    {f_O : Addr} {oc_O kV_O dc_O pm_O cd_O ct_O : Value} {od_O an_O : Option Addr} {sl_O : Array (Option Value)}
    {f_S : Addr} {oc_S kV_S dc_S pm_S cd_S ct_S : Value} {od_S an_S : Option Addr} {sl_S : Array (Option Value)}
    {f_Y : Addr} {oc_Y kV_Y dc_Y pm_Y cd_Y ct_Y : Value} {od_Y an_Y : Option Addr} {sl_Y : Array (Option Value)}
    {f_W : Addr} {oc_W kV_W dc_W pm_W cd_W ct_W : Value} {od_W an_W : Option Addr} {sl_W : Array (Option Value)}
    {f_I : Addr} {oc_I kV_I dc_I pm_I cd_I ct_I : Value} {od_I an_I : Option Addr} {sl_I : Array (Option Value)}
    {f_cw : Addr} {oc_cw kV_cw dc_cw pm_cw cd_cw ct_cw : Value} {od_cw an_cw : Option Addr} {sl_cw : Array (Option Value)}
    {f_cb : Addr} {oc_cb kV_cb dc_cb pm_cb cd_cb ct_cb : Value} {od_cb an_cb : Option Addr} {sl_cb : Array (Option Value)}
    {f_cs : Addr} {oc_cs kV_cs dc_cs pm_cs cd_cs ct_cs : Value} {od_cs an_cs : Option Addr} {sl_cs : Array (Option Value)}
    {f_st : Addr} {oc_st kV_st dc_st pm_st cd_st ct_st : Value} {od_st an_st : Option Addr} {sl_st : Array (Option Value)}
    {f_re : Addr} {oc_re kV_re dc_re pm_re cd_re ct_re : Value} {od_re an_re : Option Addr} {sl_re : Array (Option Value)}
    {f_af : Addr} {oc_af kV_af dc_af pm_af cd_af ct_af : Value} {od_af an_af : Option Addr} {sl_af : Array (Option Value)}
    {f_cf : Addr} {oc_cf kV_cf dc_cf pm_cf cd_cf ct_cf : Value} {od_cf an_cf : Option Addr} {sl_cf : Array (Option Value)}
    {f_ca : Addr} {oc_ca kV_ca dc_ca pm_ca cd_ca ct_ca : Value} {od_ca an_ca : Option Addr} {sl_ca : Array (Option Value)}
    {f_start : Addr} {oc_start kV_start dc_start pm_start cd_start ct_start : Value} {od_start an_start : Option Addr} {sl_start : Array (Option Value)}
    {f_draw : Addr} {oc_draw kV_draw dc_draw pm_draw cd_draw ct_draw : Value} {od_draw an_draw : Option Addr} {sl_draw : Array (Option Value)}
    {f_of : Addr} {oc_of kV_of dc_of pm_of cd_of ct_of : Value} {od_of an_of : Option Addr} {sl_of : Array (Option Value)}
    {f_letters : Addr} {oc_letters kV_letters dc_letters pm_letters cd_letters ct_letters : Value} {od_letters an_letters : Option Addr} {sl_letters : Array (Option Value)}
    {f_shuts : Addr} {oc_shuts kV_shuts dc_shuts pm_shuts cd_shuts ct_shuts : Value} {od_shuts an_shuts : Option Addr} {sl_shuts : Array (Option Value)}
    {f_oth : Addr} {oc_oth kV_oth dc_oth pm_oth cd_oth ct_oth : Value} {od_oth an_oth : Option Addr} {sl_oth : Array (Option Value)}
    {f_wit : Addr} {oc_wit kV_wit dc_wit pm_wit cd_wit ct_wit : Value} {od_wit an_wit : Option Addr} {sl_wit : Array (Option Value)}
    {f_pairs : Addr} {oc_pairs kV_pairs dc_pairs pm_pairs cd_pairs ct_pairs : Value} {od_pairs an_pairs : Option Addr} {sl_pairs : Array (Option Value)}
    {f_all : Addr} {oc_all kV_all dc_all pm_all cd_all ct_all : Value} {od_all an_all : Option Addr} {sl_all : Array (Option Value)}
    {f_rms : Addr} {oc_rms kV_rms dc_rms pm_rms cd_rms ct_rms : Value} {od_rms an_rms : Option Addr} {sl_rms : Array (Option Value)}
    {f_fine : Addr} {oc_fine kV_fine dc_fine pm_fine cd_fine ct_fine : Value} {od_fine an_fine : Option Addr} {sl_fine : Array (Option Value)}
    {f_hall : Addr} {oc_hall kV_hall dc_hall pm_hall cd_hall ct_hall : Value} {od_hall an_hall : Option Addr} {sl_hall : Array (Option Value)}
    {f_lsi : Addr} {oc_lsi kV_lsi dc_lsi pm_lsi cd_lsi ct_lsi : Value} {od_lsi an_lsi : Option Addr} {sl_lsi : Array (Option Value)}
    {f_lpa : Addr} {oc_lpa kV_lpa dc_lpa pm_lpa cd_lpa ct_lpa : Value} {od_lpa an_lpa : Option Addr} {sl_lpa : Array (Option Value)}
    {f_lap : Addr} {oc_lap kV_lap dc_lap pm_lap cd_lap ct_lap : Value} {od_lap an_lap : Option Addr} {sl_lap : Array (Option Value)}
    {f_lne : Addr} {oc_lne kV_lne dc_lne pm_lne cd_lne ct_lne : Value} {od_lne an_lne : Option Addr} {sl_lne : Array (Option Value)}
    {f_led : Addr} {oc_led kV_led dc_led pm_led cd_led ct_led : Value} {od_led an_led : Option Addr} {sl_led : Array (Option Value)}
    {f_map : Addr} {oc_map kV_map dc_map pm_map cd_map ct_map : Value} {od_map an_map : Option Addr} {sl_map : Array (Option Value)}
    {f_lca : Addr} {oc_lca kV_lca dc_lca pm_lca cd_lca ct_lca : Value} {od_lca an_lca : Option Addr} {sl_lca : Array (Option Value)}
    {f_lls : Addr} {oc_lls kV_lls dc_lls pm_lls cd_lls ct_lls : Value} {od_lls an_lls : Option Addr} {sl_lls : Array (Option Value)}
    {f_same : Addr} {oc_same kV_same dc_same pm_same cd_same ct_same : Value} {od_same an_same : Option Addr} {sl_same : Array (Option Value)}
    {f_sh : Addr} {oc_sh kV_sh dc_sh pm_sh cd_sh ct_sh : Value} {od_sh an_sh : Option Addr} {sl_sh : Array (Option Value)}
    {f_sc : Addr} {oc_sc kV_sc dc_sc pm_sc cd_sc ct_sc : Value} {od_sc an_sc : Option Addr} {sl_sc : Array (Option Value)}
    {f_ww : Addr} {oc_ww kV_ww dc_ww pm_ww cd_ww ct_ww : Value} {od_ww an_ww : Option Addr} {sl_ww : Array (Option Value)}
    {f_lo : Addr} {oc_lo kV_lo dc_lo pm_lo cd_lo ct_lo : Value} {od_lo an_lo : Option Addr} {sl_lo : Array (Option Value)}
    {f_ga : Addr} {oc_ga kV_ga dc_ga pm_ga cd_ga ct_ga : Value} {od_ga an_ga : Option Addr} {sl_ga : Array (Option Value)}
    {f_isP : Addr} {oc_isP kV_isP dc_isP pm_isP cd_isP ct_isP : Value} {od_isP an_isP : Option Addr} {sl_isP : Array (Option Value)}
    {f_chP : Addr} {oc_chP kV_chP dc_chP pm_chP cd_chP ct_chP : Value} {od_chP an_chP : Option Addr} {sl_chP : Array (Option Value)}
    {f_afb : Addr} {oc_afb kV_afb dc_afb pm_afb cd_afb ct_afb : Value} {od_afb an_afb : Option Addr} {sl_afb : Array (Option Value)}
    {f_to : Addr} {oc_to kV_to dc_to pm_to cd_to ct_to : Value} {od_to an_to : Option Addr} {sl_to : Array (Option Value)}
    {CH : Addr}
    {CB : Addr}
    {CF : Addr}
    {CA : Addr}
    {nm_CB q_CB : Str} {N_CB : Addr} {bs_CB bm_CB sub_CB : List Value} {sn_CB : List Str} {ab_CB : Bool} {col_CB : Option Bool} {dd_CB : Option Addr} {m0_CB m1_CB m2_CB m3_CB m5_CB : Option Value}
    {nm_CF q_CF : Str} {N_CF : Addr} {bs_CF bm_CF sub_CF : List Value} {sn_CF : List Str} {ab_CF : Bool} {col_CF : Option Bool} {dd_CF : Option Addr} {m0_CF m1_CF m2_CF m3_CF m5_CF : Option Value}
    {nm_CA q_CA : Str} {N_CA : Addr} {bs_CA bm_CA sub_CA : List Value} {sn_CA : List Str} {ab_CA : Bool} {col_CA : Option Bool} {dd_CA : Option Addr} {m0_CA m1_CA m2_CA m3_CA m5_CA : Option Value}
    {f_iH : Addr} {oc_iH kV_iH dc_iH pm_iH cd_iH ct_iH : Value} {od_iH an_iH : Option Addr} {sl_iH : Array (Option Value)}
    {f_iB : Addr} {oc_iB kV_iB dc_iB pm_iB cd_iB ct_iB : Value} {od_iB an_iB : Option Addr} {sl_iB : Array (Option Value)}
    {f_iF : Addr} {oc_iF kV_iF dc_iF pm_iF cd_iF ct_iF : Value} {od_iF an_iF : Option Addr} {sl_iF : Array (Option Value)}
    {f_iA : Addr} {oc_iA kV_iA dc_iA pm_iA cd_iA ct_iA : Value} {od_iA an_iA : Option Addr} {sl_iA : Array (Option Value)}
    {T_hi e_hi : Addr} {oc_T : Value} {od_T : Option Addr} {n_T : Nat} {sl_T : Array (Option Value)}
    {C : Addr}
    {f_hb : Addr} {oc_hb kV_hb dc_hb pm_hb cd_hb ct_hb : Value} {od_hb an_hb : Option Addr} {sl_hb : Array (Option Value)}
    {f_hwl : Addr} {oc_hwl kV_hwl dc_hwl pm_hwl cd_hwl ct_hwl : Value} {od_hwl an_hwl : Option Addr} {sl_hwl : Array (Option Value)}
    {f_hfo : Addr} {oc_hfo kV_hfo dc_hfo pm_hfo cd_hfo ct_hfo : Value} {od_hfo an_hfo : Option Addr} {sl_hfo : Array (Option Value)}
    {f_hi : Addr} {oc_hi kV_hi dc_hi pm_hi cd_hi ct_hi : Value} {od_hi an_hi : Option Addr} {sl_hi : Array (Option Value)}
    {tw : Tok}
    {tc : Tok}
    {c : Addr} {fL : Addr} {ocL kVL dcL pmL ctL : Value} {odL anL : Option Addr} {slL : Array (Option Value)}
    (a_O : PySem.W.nsIn K mainGlobals "other" = some (some (.ref f_O)))
    (l_O : K.lookup f_O = some ⟨oc_O, od_O, .func (PySem.W.fnOf "other" "other" (defArgs sOther) (defBody sOther) (defScope sOther) .none kV_O dc_O pm_O an_O cd_O ct_O), sl_O⟩)
    (c_O : PySem.W.codeIn K cd_O "other" = true)
    (k_O : PySem.W.keepIn K (.ref f_O) = true)
    (a_S : PySem.W.nsIn K mainGlobals "sides_of" = some (some (.ref f_S)))
    (l_S : K.lookup f_S = some ⟨oc_S, od_S, .func (PySem.W.fnOf "sides_of" "sides_of" (defArgs sSides) (defBody sSides) (defScope sSides) .none kV_S dc_S pm_S an_S cd_S ct_S), sl_S⟩)
    (c_S : PySem.W.codeIn K cd_S "sides_of" = true)
    (k_S : PySem.W.keepIn K (.ref f_S) = true)
    (a_Y : PySem.W.nsIn K mainGlobals "by_walls" = some (some (.ref f_Y)))
    (l_Y : K.lookup f_Y = some ⟨oc_Y, od_Y, .func (PySem.W.fnOf "by_walls" "by_walls" (defArgs sByWalls) (defBody sByWalls) (defScope sByWalls) .none kV_Y dc_Y pm_Y an_Y cd_Y ct_Y), sl_Y⟩)
    (c_Y : PySem.W.codeIn K cd_Y "by_walls" = true)
    (k_Y : PySem.W.keepIn K (.ref f_Y) = true)
    (a_W : PySem.W.nsIn K mainGlobals "is_walls" = some (some (.ref f_W)))
    (l_W : K.lookup f_W = some ⟨oc_W, od_W, .func (PySem.W.fnOf "is_walls" "is_walls" (defArgs sIsWalls) (defBody sIsWalls) (defScope sIsWalls) .none kV_W dc_W pm_W an_W cd_W ct_W), sl_W⟩)
    (c_W : PySem.W.codeIn K cd_W "is_walls" = true)
    (k_W : PySem.W.keepIn K (.ref f_W) = true)
    (a_I : PySem.W.nsIn K mainGlobals "is_bar" = some (some (.ref f_I)))
    (l_I : K.lookup f_I = some ⟨oc_I, od_I, .func (PySem.W.fnOf "is_bar" "is_bar" (defArgs sIsBar) (defBody sIsBar) (defScope sIsBar) .none kV_I dc_I pm_I an_I cd_I ct_I), sl_I⟩)
    (c_I : PySem.W.codeIn K cd_I "is_bar" = true)
    (k_I : PySem.W.keepIn K (.ref f_I) = true)
    (a_cw : PySem.W.nsIn K mainGlobals "check_walls" = some (some (.ref f_cw)))
    (l_cw : K.lookup f_cw = some ⟨oc_cw, od_cw, .func (PySem.W.fnOf "check_walls" "check_walls" (defArgs sChkWalls) (defBody sChkWalls) (defScope sChkWalls) .none kV_cw dc_cw pm_cw an_cw cd_cw ct_cw), sl_cw⟩)
    (c_cw : PySem.W.codeIn K cd_cw "check_walls" = true)
    (k_cw : PySem.W.keepIn K (.ref f_cw) = true)
    (a_cb : PySem.W.nsIn K mainGlobals "check_bars" = some (some (.ref f_cb)))
    (l_cb : K.lookup f_cb = some ⟨oc_cb, od_cb, .func (PySem.W.fnOf "check_bars" "check_bars" (defArgs sChkBars) (defBody sChkBars) (defScope sChkBars) .none kV_cb dc_cb pm_cb an_cb cd_cb ct_cb), sl_cb⟩)
    (c_cb : PySem.W.codeIn K cd_cb "check_bars" = true)
    (k_cb : PySem.W.keepIn K (.ref f_cb) = true)
    (a_cs : PySem.W.nsIn K mainGlobals "check_side" = some (some (.ref f_cs)))
    (l_cs : K.lookup f_cs = some ⟨oc_cs, od_cs, .func (PySem.W.fnOf "check_side" "check_side" (defArgs sChkSide) (defBody sChkSide) (defScope sChkSide) .none kV_cs dc_cs pm_cs an_cs cd_cs ct_cs), sl_cs⟩)
    (c_cs : PySem.W.codeIn K cd_cs "check_side" = true)
    (k_cs : PySem.W.keepIn K (.ref f_cs) = true)
    (a_st : PySem.W.nsIn K mainGlobals "straight_from" = some (some (.ref f_st)))
    (l_st : K.lookup f_st = some ⟨oc_st, od_st, .func (PySem.W.fnOf "straight_from" "straight_from" (defArgs sStraight) (defBody sStraight) (defScope sStraight) .none kV_st dc_st pm_st an_st cd_st ct_st), sl_st⟩)
    (c_st : PySem.W.codeIn K cd_st "straight_from" = true)
    (k_st : PySem.W.keepIn K (.ref f_st) = true)
    (a_re : PySem.W.nsIn K mainGlobals "reached" = some (some (.ref f_re)))
    (l_re : K.lookup f_re = some ⟨oc_re, od_re, .func (PySem.W.fnOf "reached" "reached" (defArgs sReached) (defBody sReached) (defScope sReached) .none kV_re dc_re pm_re an_re cd_re ct_re), sl_re⟩)
    (c_re : PySem.W.codeIn K cd_re "reached" = true)
    (k_re : PySem.W.keepIn K (.ref f_re) = true)
    (a_af : PySem.W.nsIn K mainGlobals "all_forced" = some (some (.ref f_af)))
    (l_af : K.lookup f_af = some ⟨oc_af, od_af, .func (PySem.W.fnOf "all_forced" "all_forced" (defArgs sAllF) (defBody sAllF) (defScope sAllF) .none kV_af dc_af pm_af an_af cd_af ct_af), sl_af⟩)
    (c_af : PySem.W.codeIn K cd_af "all_forced" = true)
    (k_af : PySem.W.keepIn K (.ref f_af) = true)
    (a_cf : PySem.W.nsIn K mainGlobals "check_fixed" = some (some (.ref f_cf)))
    (l_cf : K.lookup f_cf = some ⟨oc_cf, od_cf, .func (PySem.W.fnOf "check_fixed" "check_fixed" (defArgs sChkFix) (defBody sChkFix) (defScope sChkFix) .none kV_cf dc_cf pm_cf an_cf cd_cf ct_cf), sl_cf⟩)
    (c_cf : PySem.W.codeIn K cd_cf "check_fixed" = true)
    (k_cf : PySem.W.keepIn K (.ref f_cf) = true)
    (a_ca : PySem.W.nsIn K mainGlobals "check_alike" = some (some (.ref f_ca)))
    (l_ca : K.lookup f_ca = some ⟨oc_ca, od_ca, .func (PySem.W.fnOf "check_alike" "check_alike" (defArgs sChkAl) (defBody sChkAl) (defScope sChkAl) .none kV_ca dc_ca pm_ca an_ca cd_ca ct_ca), sl_ca⟩)
    (c_ca : PySem.W.codeIn K cd_ca "check_alike" = true)
    (k_ca : PySem.W.keepIn K (.ref f_ca) = true)
    (a_start : PySem.W.nsIn K mainGlobals "_law_start" = some (some (.ref f_start)))
    (l_start : K.lookup f_start = some ⟨oc_start, od_start, .func (PySem.W.fnOf "_law_start" "_law_start" (defArgs sStart) (defBody sStart) (defScope sStart) .none kV_start dc_start pm_start an_start cd_start ct_start), sl_start⟩)
    (c_start : PySem.W.codeIn K cd_start "_law_start" = true)
    (k_start : PySem.W.keepIn K (.ref f_start) = true)
    (a_draw : PySem.W.nsIn K mainGlobals "_law_draw" = some (some (.ref f_draw)))
    (l_draw : K.lookup f_draw = some ⟨oc_draw, od_draw, .func (PySem.W.fnOf "_law_draw" "_law_draw" (defArgs sDraw) (defBody sDraw) (defScope sDraw) .none kV_draw dc_draw pm_draw an_draw cd_draw ct_draw), sl_draw⟩)
    (c_draw : PySem.W.codeIn K cd_draw "_law_draw" = true)
    (k_draw : PySem.W.keepIn K (.ref f_draw) = true)
    (a_of : PySem.W.nsIn K mainGlobals "_law_of" = some (some (.ref f_of)))
    (l_of : K.lookup f_of = some ⟨oc_of, od_of, .func (PySem.W.fnOf "_law_of" "_law_of" (defArgs sOf) (defBody sOf) (defScope sOf) .none kV_of dc_of pm_of an_of cd_of ct_of), sl_of⟩)
    (c_of : PySem.W.codeIn K cd_of "_law_of" = true)
    (k_of : PySem.W.keepIn K (.ref f_of) = true)
    (a_letters : PySem.W.nsIn K mainGlobals "_law_letters" = some (some (.ref f_letters)))
    (l_letters : K.lookup f_letters = some ⟨oc_letters, od_letters, .func (PySem.W.fnOf "_law_letters" "_law_letters" (defArgs sLetters) (defBody sLetters) (defScope sLetters) .none kV_letters dc_letters pm_letters an_letters cd_letters ct_letters), sl_letters⟩)
    (c_letters : PySem.W.codeIn K cd_letters "_law_letters" = true)
    (k_letters : PySem.W.keepIn K (.ref f_letters) = true)
    (a_shuts : PySem.W.nsIn K mainGlobals "_law_shuts" = some (some (.ref f_shuts)))
    (l_shuts : K.lookup f_shuts = some ⟨oc_shuts, od_shuts, .func (PySem.W.fnOf "_law_shuts" "_law_shuts" (defArgs sShuts) (defBody sShuts) (defScope sShuts) .none kV_shuts dc_shuts pm_shuts an_shuts cd_shuts ct_shuts), sl_shuts⟩)
    (c_shuts : PySem.W.codeIn K cd_shuts "_law_shuts" = true)
    (k_shuts : PySem.W.keepIn K (.ref f_shuts) = true)
    (a_oth : PySem.W.nsIn K mainGlobals "_law_other" = some (some (.ref f_oth)))
    (l_oth : K.lookup f_oth = some ⟨oc_oth, od_oth, .func (PySem.W.fnOf "_law_other" "_law_other" (defArgs sOth) (defBody sOth) (defScope sOth) .none kV_oth dc_oth pm_oth an_oth cd_oth ct_oth), sl_oth⟩)
    (c_oth : PySem.W.codeIn K cd_oth "_law_other" = true)
    (k_oth : PySem.W.keepIn K (.ref f_oth) = true)
    (a_wit : PySem.W.nsIn K mainGlobals "_law_within" = some (some (.ref f_wit)))
    (l_wit : K.lookup f_wit = some ⟨oc_wit, od_wit, .func (PySem.W.fnOf "_law_within" "_law_within" (defArgs sWithin) (defBody sWithin) (defScope sWithin) .none kV_wit dc_wit pm_wit an_wit cd_wit ct_wit), sl_wit⟩)
    (c_wit : PySem.W.codeIn K cd_wit "_law_within" = true)
    (k_wit : PySem.W.keepIn K (.ref f_wit) = true)
    (a_pairs : PySem.W.nsIn K mainGlobals "_law_pairs" = some (some (.ref f_pairs)))
    (l_pairs : K.lookup f_pairs = some ⟨oc_pairs, od_pairs, .func (PySem.W.fnOf "_law_pairs" "_law_pairs" (defArgs sPairs) (defBody sPairs) (defScope sPairs) .none kV_pairs dc_pairs pm_pairs an_pairs cd_pairs ct_pairs), sl_pairs⟩)
    (c_pairs : PySem.W.codeIn K cd_pairs "_law_pairs" = true)
    (k_pairs : PySem.W.keepIn K (.ref f_pairs) = true)
    (a_all : PySem.W.nsIn K mainGlobals "_law_all" = some (some (.ref f_all)))
    (l_all : K.lookup f_all = some ⟨oc_all, od_all, .func (PySem.W.fnOf "_law_all" "_law_all" (defArgs sAll) (defBody sAll) (defScope sAll) .none kV_all dc_all pm_all an_all cd_all ct_all), sl_all⟩)
    (c_all : PySem.W.codeIn K cd_all "_law_all" = true)
    (k_all : PySem.W.keepIn K (.ref f_all) = true)
    (a_rms : PySem.W.nsIn K mainGlobals "_law_rooms" = some (some (.ref f_rms)))
    (l_rms : K.lookup f_rms = some ⟨oc_rms, od_rms, .func (PySem.W.fnOf "_law_rooms" "_law_rooms" (defArgs sRooms) (defBody sRooms) (defScope sRooms) .none kV_rms dc_rms pm_rms an_rms cd_rms ct_rms), sl_rms⟩)
    (c_rms : PySem.W.codeIn K cd_rms "_law_rooms" = true)
    (k_rms : PySem.W.keepIn K (.ref f_rms) = true)
    (a_fine : PySem.W.nsIn K mainGlobals "_law_fine" = some (some (.ref f_fine)))
    (l_fine : K.lookup f_fine = some ⟨oc_fine, od_fine, .func (PySem.W.fnOf "_law_fine" "_law_fine" (defArgs sFine) (defBody sFine) (defScope sFine) .none kV_fine dc_fine pm_fine an_fine cd_fine ct_fine), sl_fine⟩)
    (c_fine : PySem.W.codeIn K cd_fine "_law_fine" = true)
    (k_fine : PySem.W.keepIn K (.ref f_fine) = true)
    (a_hall : PySem.W.nsIn K mainGlobals "_law_hall" = some (some (.ref f_hall)))
    (l_hall : K.lookup f_hall = some ⟨oc_hall, od_hall, .func (PySem.W.fnOf "_law_hall" "_law_hall" (defArgs sHall) (defBody sHall) (defScope sHall) .none kV_hall dc_hall pm_hall an_hall cd_hall ct_hall), sl_hall⟩)
    (c_hall : PySem.W.codeIn K cd_hall "_law_hall" = true)
    (k_hall : PySem.W.keepIn K (.ref f_hall) = true)
    (a_lsi : PySem.W.nsIn K mainGlobals "_law_sides" = some (some (.ref f_lsi)))
    (l_lsi : K.lookup f_lsi = some ⟨oc_lsi, od_lsi, .func (PySem.W.fnOf "_law_sides" "_law_sides" (defArgs sLSides) (defBody sLSides) (defScope sLSides) .none kV_lsi dc_lsi pm_lsi an_lsi cd_lsi ct_lsi), sl_lsi⟩)
    (c_lsi : PySem.W.codeIn K cd_lsi "_law_sides" = true)
    (k_lsi : PySem.W.keepIn K (.ref f_lsi) = true)
    (a_lpa : PySem.W.nsIn K mainGlobals "_law_part" = some (some (.ref f_lpa)))
    (l_lpa : K.lookup f_lpa = some ⟨oc_lpa, od_lpa, .func (PySem.W.fnOf "_law_part" "_law_part" (defArgs sLPart) (defBody sLPart) (defScope sLPart) .none kV_lpa dc_lpa pm_lpa an_lpa cd_lpa ct_lpa), sl_lpa⟩)
    (c_lpa : PySem.W.codeIn K cd_lpa "_law_part" = true)
    (k_lpa : PySem.W.keepIn K (.ref f_lpa) = true)
    (a_lap : PySem.W.nsIn K mainGlobals "_law_apart" = some (some (.ref f_lap)))
    (l_lap : K.lookup f_lap = some ⟨oc_lap, od_lap, .func (PySem.W.fnOf "_law_apart" "_law_apart" (defArgs sApart) (defBody sApart) (defScope sApart) .none kV_lap dc_lap pm_lap an_lap cd_lap ct_lap), sl_lap⟩)
    (c_lap : PySem.W.codeIn K cd_lap "_law_apart" = true)
    (k_lap : PySem.W.keepIn K (.ref f_lap) = true)
    (a_lne : PySem.W.nsIn K mainGlobals "_law_near" = some (some (.ref f_lne)))
    (l_lne : K.lookup f_lne = some ⟨oc_lne, od_lne, .func (PySem.W.fnOf "_law_near" "_law_near" (defArgs sLNear) (defBody sLNear) (defScope sLNear) .none kV_lne dc_lne pm_lne an_lne cd_lne ct_lne), sl_lne⟩)
    (c_lne : PySem.W.codeIn K cd_lne "_law_near" = true)
    (k_lne : PySem.W.keepIn K (.ref f_lne) = true)
    (a_led : PySem.W.nsIn K mainGlobals "_law_led" = some (some (.ref f_led)))
    (l_led : K.lookup f_led = some ⟨oc_led, od_led, .func (PySem.W.fnOf "_law_led" "_law_led" (defArgs sLed) (defBody sLed) (defScope sLed) .none kV_led dc_led pm_led an_led cd_led ct_led), sl_led⟩)
    (c_led : PySem.W.codeIn K cd_led "_law_led" = true)
    (k_led : PySem.W.keepIn K (.ref f_led) = true)
    (a_map : PySem.W.nsIn K mainGlobals "_law_map" = some (some (.ref f_map)))
    (l_map : K.lookup f_map = some ⟨oc_map, od_map, .func (PySem.W.fnOf "_law_map" "_law_map" (defArgs sMap) (defBody sMap) (defScope sMap) .none kV_map dc_map pm_map an_map cd_map ct_map), sl_map⟩)
    (c_map : PySem.W.codeIn K cd_map "_law_map" = true)
    (k_map : PySem.W.keepIn K (.ref f_map) = true)
    (a_lca : PySem.W.nsIn K mainGlobals "_law_calls" = some (some (.ref f_lca)))
    (l_lca : K.lookup f_lca = some ⟨oc_lca, od_lca, .func (PySem.W.fnOf "_law_calls" "_law_calls" (defArgs sLCalls) (defBody sLCalls) (defScope sLCalls) .none kV_lca dc_lca pm_lca an_lca cd_lca ct_lca), sl_lca⟩)
    (c_lca : PySem.W.codeIn K cd_lca "_law_calls" = true)
    (k_lca : PySem.W.keepIn K (.ref f_lca) = true)
    (a_lls : PySem.W.nsIn K mainGlobals "_law_lists" = some (some (.ref f_lls)))
    (l_lls : K.lookup f_lls = some ⟨oc_lls, od_lls, .func (PySem.W.fnOf "_law_lists" "_law_lists" (defArgs sLists) (defBody sLists) (defScope sLists) .none kV_lls dc_lls pm_lls an_lls cd_lls ct_lls), sl_lls⟩)
    (c_lls : PySem.W.codeIn K cd_lls "_law_lists" = true)
    (k_lls : PySem.W.keepIn K (.ref f_lls) = true)
    (a_same : PySem.W.nsIn K mainGlobals "_law_same" = some (some (.ref f_same)))
    (l_same : K.lookup f_same = some ⟨oc_same, od_same, .func (PySem.W.fnOf "_law_same" "_law_same" (defArgs sSame) (defBody sSame) (defScope sSame) .none kV_same dc_same pm_same an_same cd_same ct_same), sl_same⟩)
    (c_same : PySem.W.codeIn K cd_same "_law_same" = true)
    (k_same : PySem.W.keepIn K (.ref f_same) = true)
    (a_sh : PySem.W.nsIn K mainGlobals "shut" = some (some (.ref f_sh)))
    (l_sh : K.lookup f_sh = some ⟨oc_sh, od_sh, .func (PySem.W.fnOf "shut" "shut" (defArgs sShut) (defBody sShut) (defScope sShut) .none kV_sh dc_sh pm_sh an_sh cd_sh ct_sh), sl_sh⟩)
    (c_sh : PySem.W.codeIn K cd_sh "shut" = true)
    (k_sh : PySem.W.keepIn K (.ref f_sh) = true)
    (a_sc : PySem.W.nsIn K mainGlobals "shut_calls" = some (some (.ref f_sc)))
    (l_sc : K.lookup f_sc = some ⟨oc_sc, od_sc, .func (PySem.W.fnOf "shut_calls" "shut_calls" (defArgs sShCalls) (defBody sShCalls) (defScope sShCalls) .none kV_sc dc_sc pm_sc an_sc cd_sc ct_sc), sl_sc⟩)
    (c_sc : PySem.W.codeIn K cd_sc "shut_calls" = true)
    (k_sc : PySem.W.keepIn K (.ref f_sc) = true)
    (a_ww : PySem.W.nsIn K mainGlobals "walls_written" = some (some (.ref f_ww)))
    (l_ww : K.lookup f_ww = some ⟨oc_ww, od_ww, .func (PySem.W.fnOf "walls_written" "walls_written" (defArgs sWWrit) (defBody sWWrit) (defScope sWWrit) .none kV_ww dc_ww pm_ww an_ww cd_ww ct_ww), sl_ww⟩)
    (c_ww : PySem.W.codeIn K cd_ww "walls_written" = true)
    (k_ww : PySem.W.keepIn K (.ref f_ww) = true)
    (a_lo : PySem.W.nsIn K mainGlobals "longer_lists" = some (some (.ref f_lo)))
    (l_lo : K.lookup f_lo = some ⟨oc_lo, od_lo, .func (PySem.W.fnOf "longer_lists" "longer_lists" (defArgs sLonger) (defBody sLonger) (defScope sLonger) .none kV_lo dc_lo pm_lo an_lo cd_lo ct_lo), sl_lo⟩)
    (c_lo : PySem.W.codeIn K cd_lo "longer_lists" = true)
    (k_lo : PySem.W.keepIn K (.ref f_lo) = true)
    (a_ga : PySem.W.nsIn K mainGlobals "gather" = some (some (.ref f_ga)))
    (l_ga : K.lookup f_ga = some ⟨oc_ga, od_ga, .func (PySem.W.fnOf "gather" "gather" (defArgs sGather) (defBody sGather) (defScope sGather) .none kV_ga dc_ga pm_ga an_ga cd_ga ct_ga), sl_ga⟩)
    (c_ga : PySem.W.codeIn K cd_ga "gather" = true)
    (k_ga : PySem.W.keepIn K (.ref f_ga) = true)
    (a_isP : PySem.W.nsIn K mainGlobals "is_part" = some (some (.ref f_isP)))
    (l_isP : K.lookup f_isP = some ⟨oc_isP, od_isP, .func (PySem.W.fnOf "is_part" "is_part" (defArgs sIsPart) (defBody sIsPart) (defScope sIsPart) .none kV_isP dc_isP pm_isP an_isP cd_isP ct_isP), sl_isP⟩)
    (c_isP : PySem.W.codeIn K cd_isP "is_part" = true)
    (k_isP : PySem.W.keepIn K (.ref f_isP) = true)
    (a_chP : PySem.W.nsIn K mainGlobals "check_part" = some (some (.ref f_chP)))
    (l_chP : K.lookup f_chP = some ⟨oc_chP, od_chP, .func (PySem.W.fnOf "check_part" "check_part" (defArgs sChkPart) (defBody sChkPart) (defScope sChkPart) .none kV_chP dc_chP pm_chP an_chP cd_chP ct_chP), sl_chP⟩)
    (c_chP : PySem.W.codeIn K cd_chP "check_part" = true)
    (k_chP : PySem.W.keepIn K (.ref f_chP) = true)
    (a_afb : PySem.W.nsIn K mainGlobals "all_forced_by" = some (some (.ref f_afb)))
    (l_afb : K.lookup f_afb = some ⟨oc_afb, od_afb, .func (PySem.W.fnOf "all_forced_by" "all_forced_by" (defArgs sAllFB) (defBody sAllFB) (defScope sAllFB) .none kV_afb dc_afb pm_afb an_afb cd_afb ct_afb), sl_afb⟩)
    (c_afb : PySem.W.codeIn K cd_afb "all_forced_by" = true)
    (k_afb : PySem.W.keepIn K (.ref f_afb) = true)
    (a_to : PySem.W.nsIn K mainGlobals "torn_walls" = some (some (.ref f_to)))
    (l_to : K.lookup f_to = some ⟨oc_to, od_to, .func (PySem.W.fnOf "torn_walls" "torn_walls" (defArgs sTorn) (defBody sTorn) (defScope sTorn) .none kV_to dc_to pm_to an_to cd_to ct_to), sl_to⟩)
    (c_to : PySem.W.codeIn K cd_to "torn_walls" = true)
    (k_to : PySem.W.keepIn K (.ref f_to) = true)
    (a_CH : PySem.W.nsIn K mainGlobals "HallError" = some (some (.ref CH)))
    (a_CB : PySem.W.nsIn K mainGlobals "BadBar" = some (some (.ref CB)))
    (a_CF : PySem.W.nsIn K mainGlobals "Fixed" = some (some (.ref CF)))
    (a_CA : PySem.W.nsIn K mainGlobals "Alike" = some (some (.ref CA)))
    (i_H : PySem.W.findCls K (.ref CH) (.type "type") "__init__" = some (.val (.ref f_iH)))
    (r_H : PySem.W.readsIn K CH (.type "type") = true)
    (g_H : PySem.W.specialIn K (.ref CH) "__getattribute__" = some (some (.builtin "type.__getattribute__")))
    (v_V : PySem.W.findCls K (.type "ValueError") (.type "type") "__init__" = some (.val (.builtin "ValueError.__init__")))
    (x_CB : K.lookup CB = some (excClassObj nm_CB q_CB CB N_CB bs_CB bm_CB true sn_CB sub_CB ab_CB col_CB dd_CB m0_CB m1_CB m2_CB m3_CB m5_CB "ValueError.__new__"))
    (rv_CB : PySem.HandSPX.refsVE bm_CB = true)
    (sa_CB : PySem.W.findIn K (.ref CB) "__setattr__" = some (some (.builtin "object.__setattr__")))
    (ex_CB : PySem.W.subIn K (.ref CB) (.type "BaseException") = some true)
    (ty_CB : PySem.W.typeIn K (.ref CB) = some (.type "type"))
    (kc_CB : PySem.W.keepIn K (.ref CB) = true)
    (i_CB : PySem.W.findIn K (.ref CB) "__init__" = some (some (.ref f_iB)))
    (t_CB : PySem.W.typeIn K (.ref f_iB) = some (.type "function"))
    (n_CB_word : PySem.W.findIn K (.ref CB) "word" = some none)
    (n_CB_at : PySem.W.findIn K (.ref CB) "at" = some none)
    (x_CF : K.lookup CF = some (excClassObj nm_CF q_CF CF N_CF bs_CF bm_CF true sn_CF sub_CF ab_CF col_CF dd_CF m0_CF m1_CF m2_CF m3_CF m5_CF "ValueError.__new__"))
    (rv_CF : PySem.HandSPX.refsVE bm_CF = true)
    (sa_CF : PySem.W.findIn K (.ref CF) "__setattr__" = some (some (.builtin "object.__setattr__")))
    (ex_CF : PySem.W.subIn K (.ref CF) (.type "BaseException") = some true)
    (ty_CF : PySem.W.typeIn K (.ref CF) = some (.type "type"))
    (kc_CF : PySem.W.keepIn K (.ref CF) = true)
    (i_CF : PySem.W.findIn K (.ref CF) "__init__" = some (some (.ref f_iF)))
    (t_CF : PySem.W.typeIn K (.ref f_iF) = some (.type "function"))
    (n_CF_word : PySem.W.findIn K (.ref CF) "word" = some none)
    (n_CF_side : PySem.W.findIn K (.ref CF) "side" = some none)
    (x_CA : K.lookup CA = some (excClassObj nm_CA q_CA CA N_CA bs_CA bm_CA true sn_CA sub_CA ab_CA col_CA dd_CA m0_CA m1_CA m2_CA m3_CA m5_CA "ValueError.__new__"))
    (rv_CA : PySem.HandSPX.refsVE bm_CA = true)
    (sa_CA : PySem.W.findIn K (.ref CA) "__setattr__" = some (some (.builtin "object.__setattr__")))
    (ex_CA : PySem.W.subIn K (.ref CA) (.type "BaseException") = some true)
    (ty_CA : PySem.W.typeIn K (.ref CA) = some (.type "type"))
    (kc_CA : PySem.W.keepIn K (.ref CA) = true)
    (i_CA : PySem.W.findIn K (.ref CA) "__init__" = some (some (.ref f_iA)))
    (t_CA : PySem.W.typeIn K (.ref f_iA) = some (.type "function"))
    (n_CA_word : PySem.W.findIn K (.ref CA) "word" = some none)
    (n_CA_one : PySem.W.findIn K (.ref CA) "one" = some none)
    (n_CA_other : PySem.W.findIn K (.ref CA) "other" = some none)
    (l_iH : K.lookup f_iH = some ⟨oc_iH, od_iH, .func (PySem.W.fnOf "__init__" "HallError.__init__" (defArgs sHEinit) (defBody sHEinit) (defScope sHEinit) .none kV_iH dc_iH pm_iH an_iH cd_iH ct_iH), sl_iH⟩)
    (c_iH : PySem.W.codeIn K cd_iH "HallError.__init__" = true)
    (k_iH : PySem.W.keepIn K (.ref f_iH) = true)
    (l_iB : K.lookup f_iB = some ⟨oc_iB, od_iB, .func (PySem.W.fnOf "__init__" "BadBar.__init__" (defArgs sBBinit) (defBody sBBinit) (defScope sBBinit) .none kV_iB dc_iB pm_iB an_iB cd_iB ct_iB), sl_iB⟩)
    (c_iB : PySem.W.codeIn K cd_iB "BadBar.__init__" = true)
    (k_iB : PySem.W.keepIn K (.ref f_iB) = true)
    (l_iF : K.lookup f_iF = some ⟨oc_iF, od_iF, .func (PySem.W.fnOf "__init__" "Fixed.__init__" (defArgs sFXinit) (defBody sFXinit) (defScope sFXinit) .none kV_iF dc_iF pm_iF an_iF cd_iF ct_iF), sl_iF⟩)
    (c_iF : PySem.W.codeIn K cd_iF "Fixed.__init__" = true)
    (k_iF : PySem.W.keepIn K (.ref f_iF) = true)
    (l_iA : K.lookup f_iA = some ⟨oc_iA, od_iA, .func (PySem.W.fnOf "__init__" "Alike.__init__" (defArgs sALinit) (defBody sALinit) (defScope sALinit) .none kV_iA dc_iA pm_iA an_iA cd_iA ct_iA), sl_iA⟩)
    (c_iA : PySem.W.codeIn K cd_iA "Alike.__init__" = true)
    (k_iA : PySem.W.keepIn K (.ref f_iA) = true)
    (a_C : PySem.W.nsIn K mainGlobals "Hall" = some (some (.ref C)))
    (i_C : PySem.W.findIn K (.ref C) "__init__" = some (some (.ref f_hi)))
    (j_C : PySem.W.isFn K (.ref f_hi) = true)
    (pg_C : PySem.W.plainGet K C Str.empty = true)
    (hd_C : PySem.W.hasDictIn K C = true)
    (po_C : PySem.W.plainOver K C = true)
    (sa_C : PySem.W.findIn K (.ref C) "__setattr__" = some (some (.builtin "object.__setattr__")))
    (mk_C : PySem.W.makesIn K C = true)
    (kp_C : PySem.W.keepIn K (.ref C) = true)
    (n1_C : PySem.W.findIn K (.ref C) "wall_text" = some none)
    (n2_C : PySem.W.findIn K (.ref C) "bar_list" = some none)
    (n3_C : PySem.W.findIn K (.ref C) "forced_by" = some none)
    (b_hb : PySem.W.findIn K (.ref C) "bars" = some (some (.ref f_hb)))
    (m_hb : PySem.W.isFn K (.ref f_hb) = true)
    (l_hb : K.lookup f_hb = some ⟨oc_hb, od_hb, .func (PySem.W.fnOf "bars" "Hall.bars" (defArgs sHbars) (defBody sHbars) (defScope sHbars) .none kV_hb dc_hb pm_hb an_hb cd_hb ct_hb), sl_hb⟩)
    (c_hb : PySem.W.codeIn K cd_hb "Hall.bars" = true)
    (k_hb : PySem.W.keepIn K (.ref f_hb) = true)
    (b_hwl : PySem.W.findIn K (.ref C) "walls" = some (some (.ref f_hwl)))
    (m_hwl : PySem.W.isFn K (.ref f_hwl) = true)
    (l_hwl : K.lookup f_hwl = some ⟨oc_hwl, od_hwl, .func (PySem.W.fnOf "walls" "Hall.walls" (defArgs sHwalls) (defBody sHwalls) (defScope sHwalls) .none kV_hwl dc_hwl pm_hwl an_hwl cd_hwl ct_hwl), sl_hwl⟩)
    (c_hwl : PySem.W.codeIn K cd_hwl "Hall.walls" = true)
    (k_hwl : PySem.W.keepIn K (.ref f_hwl) = true)
    (b_hfo : PySem.W.findIn K (.ref C) "forced" = some (some (.ref f_hfo)))
    (m_hfo : PySem.W.isFn K (.ref f_hfo) = true)
    (l_hfo : K.lookup f_hfo = some ⟨oc_hfo, od_hfo, .func (PySem.W.fnOf "forced" "Hall.forced" (defArgs sHforced) (defBody sHforced) (defScope sHforced) .none kV_hfo dc_hfo pm_hfo an_hfo cd_hfo ct_hfo), sl_hfo⟩)
    (c_hfo : PySem.W.codeIn K cd_hfo "Hall.forced" = true)
    (k_hfo : PySem.W.keepIn K (.ref f_hfo) = true)
    (l_hi : K.lookup f_hi = some ⟨oc_hi, od_hi, .func (PySem.W.fnOf "__init__" "Hall.__init__" (defArgs sHinit) (defBody sHinit) (defScope sHinit) (.ref T_hi) kV_hi dc_hi pm_hi an_hi cd_hi ct_hi), sl_hi⟩)
    (c_hi : PySem.W.codeIn K cd_hi "Hall.__init__" = true)
    (k_hi : PySem.W.keepIn K (.ref f_hi) = true)
    (d_hi : K.lookup T_hi = some ⟨oc_T, od_T, .seq [Value.ref e_hi].toArray n_T, sl_T⟩)
    (z_list : PySem.W.nsIn K mainGlobals "list" = some none)
    (z_sorted : PySem.W.nsIn K mainGlobals "sorted" = some none)
    (z_set : PySem.W.nsIn K mainGlobals "set" = some none)
    (z_all : PySem.W.nsIn K mainGlobals "all" = some none)
    (z_len : PySem.W.nsIn K mainGlobals "len" = some none)
    (z_enumerate : PySem.W.nsIn K mainGlobals "enumerate" = some none)
    (z_range : PySem.W.nsIn K mainGlobals "range" = some none)
    (z_isinstance : PySem.W.nsIn K mainGlobals "isinstance" = some none)
    (z_tuple : PySem.W.nsIn K mainGlobals "tuple" = some none)
    (z_any : PySem.W.nsIn K mainGlobals "any" = some none)
    (z_ValueError : PySem.W.nsIn K mainGlobals "ValueError" = some none)
    (z_bool : PySem.W.nsIn K mainGlobals "bool" = some none)
    (z_str : PySem.W.nsIn K mainGlobals "str" = some none)
    (w_W : PySem.W.nsIn K mainGlobals "WIDEST" = some (some (.int 12 tw)))
    (w_MOST_CALLS : PySem.W.nsIn K mainGlobals "MOST_CALLS" = some (some (.int 12 tc)))
    (a_L : PySem.W.nsIn K mainGlobals "law" = some (some (.ref fL)))
    (l_L : K.lookup fL = some ⟨ocL, odL, .func (PySem.W.fnOf "law" "law" (defArgs sLaw) (defBody sLaw) (defScope sLaw) .none kVL dcL pmL anL (.ref c) ctL), slL⟩)
    (c_L : PySem.W.codeIn K (.ref c) "law" = true)
    (k_L : PySem.W.keepIn K (.ref fL) = true)
    : LamX.LawAtS l w K CX0 9 63 "_law_script" mg fa h := by
  have F_O := fun_mk (st := sOther) l_O c_O k_O
  have D_O : DF K mg "other" sOther ["side"] f_O _ := ⟨F_O, PySem.W.mg_of X G a_O, F_O.binds (ps := ["side"]) fun _ _ _ _ _ _ us hl => match us, hl with | [_], _ => rfl⟩
  have F_S := fun_mk (st := sSides) l_S c_S k_S
  have D_S : DF K mg "sides_of" sSides ["walls"] f_S _ := ⟨F_S, PySem.W.mg_of X G a_S, F_S.binds (ps := ["walls"]) fun _ _ _ _ _ _ us hl => match us, hl with | [_], _ => rfl⟩
  have F_Y := fun_mk (st := sByWalls) l_Y c_Y k_Y
  have D_Y : DF K mg "by_walls" sByWalls ["walls", "sides"] f_Y _ := ⟨F_Y, PySem.W.mg_of X G a_Y, F_Y.binds (ps := ["walls", "sides"]) fun _ _ _ _ _ _ us hl => match us, hl with | [_, _], _ => rfl⟩
  have F_W := fun_mk (st := sIsWalls) l_W c_W k_W
  have D_W : DF K mg "is_walls" sIsWalls ["walls"] f_W _ := ⟨F_W, PySem.W.mg_of X G a_W, F_W.binds (ps := ["walls"]) fun _ _ _ _ _ _ us hl => match us, hl with | [_], _ => rfl⟩
  have F_I := fun_mk (st := sIsBar) l_I c_I k_I
  have D_I : DF K mg "is_bar" sIsBar ["walls", "bar"] f_I _ := ⟨F_I, PySem.W.mg_of X G a_I, F_I.binds (ps := ["walls", "bar"]) fun _ _ _ _ _ _ us hl => match us, hl with | [_, _], _ => rfl⟩
  have F_cw := fun_mk (st := sChkWalls) l_cw c_cw k_cw
  have D_cw : DF K mg "check_walls" sChkWalls ["walls"] f_cw _ := ⟨F_cw, PySem.W.mg_of X G a_cw, F_cw.binds (ps := ["walls"]) fun _ _ _ _ _ _ us hl => match us, hl with | [_], _ => rfl⟩
  have F_cb := fun_mk (st := sChkBars) l_cb c_cb k_cb
  have D_cb : DF K mg "check_bars" sChkBars ["walls", "bars"] f_cb _ := ⟨F_cb, PySem.W.mg_of X G a_cb, F_cb.binds (ps := ["walls", "bars"]) fun _ _ _ _ _ _ us hl => match us, hl with | [_, _], _ => rfl⟩
  have F_cs := fun_mk (st := sChkSide) l_cs c_cs k_cs
  have D_cs : DF K mg "check_side" sChkSide ["walls", "side"] f_cs _ := ⟨F_cs, PySem.W.mg_of X G a_cs, F_cs.binds (ps := ["walls", "side"]) fun _ _ _ _ _ _ us hl => match us, hl with | [_, _], _ => rfl⟩
  have F_st := fun_mk (st := sStraight) l_st c_st k_st
  have D_st : DF K mg "straight_from" sStraight ["walls", "bars"] f_st _ := ⟨F_st, PySem.W.mg_of X G a_st, F_st.binds (ps := ["walls", "bars"]) fun _ _ _ _ _ _ us hl => match us, hl with | [_, _], _ => rfl⟩
  have F_re := fun_mk (st := sReached) l_re c_re k_re
  have D_re : DF K mg "reached" sReached ["straight", "one"] f_re _ := ⟨F_re, PySem.W.mg_of X G a_re, F_re.binds (ps := ["straight", "one"]) fun _ _ _ _ _ _ us hl => match us, hl with | [_, _], _ => rfl⟩
  have F_af := fun_mk (st := sAllF) l_af c_af k_af
  have D_af : DF K mg "all_forced" sAllF ["walls", "bars"] f_af _ := ⟨F_af, PySem.W.mg_of X G a_af, F_af.binds (ps := ["walls", "bars"]) fun _ _ _ _ _ _ us hl => match us, hl with | [_, _], _ => rfl⟩
  have F_cf := fun_mk (st := sChkFix) l_cf c_cf k_cf
  have D_cf : DF K mg "check_fixed" sChkFix ["forced_by"] f_cf _ := ⟨F_cf, PySem.W.mg_of X G a_cf, F_cf.binds (ps := ["forced_by"]) fun _ _ _ _ _ _ us hl => match us, hl with | [_], _ => rfl⟩
  have F_ca := fun_mk (st := sChkAl) l_ca c_ca k_ca
  have D_ca : DF K mg "check_alike" sChkAl ["forced_by"] f_ca _ := ⟨F_ca, PySem.W.mg_of X G a_ca, F_ca.binds (ps := ["forced_by"]) fun _ _ _ _ _ _ us hl => match us, hl with | [_], _ => rfl⟩
  have F_start := fun_mk (st := sStart) l_start c_start k_start
  have D_start : DF K mg "_law_start" sStart ["_law_script"] f_start _ := ⟨F_start, PySem.W.mg_of X G a_start, F_start.binds (ps := ["_law_script"]) fun _ _ _ _ _ _ us hl => match us, hl with | [_], _ => rfl⟩
  have F_draw := fun_mk (st := sDraw) l_draw c_draw k_draw
  have D_draw : DF K mg "_law_draw" sDraw ["_law_d", "_law_many"] f_draw _ := ⟨F_draw, PySem.W.mg_of X G a_draw, F_draw.binds (ps := ["_law_d", "_law_many"]) fun _ _ _ _ _ _ us hl => match us, hl with | [_, _], _ => rfl⟩
  have F_of := fun_mk (st := sOf) l_of c_of k_of
  have D_of : DF K mg "_law_of" sOf ["_law_d", "_law_some"] f_of _ := ⟨F_of, PySem.W.mg_of X G a_of, F_of.binds (ps := ["_law_d", "_law_some"]) fun _ _ _ _ _ _ us hl => match us, hl with | [_, _], _ => rfl⟩
  have F_letters := fun_mk (st := sLetters) l_letters c_letters k_letters
  have D_letters : DF K mg "_law_letters" sLetters [] f_letters _ := ⟨F_letters, PySem.W.mg_of X G a_letters, F_letters.binds (ps := []) fun _ _ _ _ _ _ us hl => match us, hl with | [], _ => rfl⟩
  have F_shuts := fun_mk (st := sShuts) l_shuts c_shuts k_shuts
  have D_shuts : DF K mg "_law_shuts" sShuts ["_law_d", "_law_most"] f_shuts _ := ⟨F_shuts, PySem.W.mg_of X G a_shuts, F_shuts.binds (ps := ["_law_d", "_law_most"]) fun _ _ _ _ _ _ us hl => match us, hl with | [_, _], _ => rfl⟩
  have F_oth := fun_mk (st := sOth) l_oth c_oth k_oth
  have D_oth : DF K mg "_law_other" sOth ["_law_side"] f_oth _ := ⟨F_oth, PySem.W.mg_of X G a_oth, F_oth.binds (ps := ["_law_side"]) fun _ _ _ _ _ _ us hl => match us, hl with | [_], _ => rfl⟩
  have F_wit := fun_mk (st := sWithin) l_wit c_wit k_wit
  have D_wit : DF K mg "_law_within" sWithin ["_law_sides_here", "_law_room"] f_wit _ := ⟨F_wit, PySem.W.mg_of X G a_wit, F_wit.binds (ps := ["_law_sides_here", "_law_room"]) fun _ _ _ _ _ _ us hl => match us, hl with | [_, _], _ => rfl⟩
  have F_pairs := fun_mk (st := sPairs) l_pairs c_pairs k_pairs
  have D_pairs : DF K mg "_law_pairs" sPairs ["_law_shuts_here"] f_pairs _ := ⟨F_pairs, PySem.W.mg_of X G a_pairs, F_pairs.binds (ps := ["_law_shuts_here"]) fun _ _ _ _ _ _ us hl => match us, hl with | [_], _ => rfl⟩
  have F_all := fun_mk (st := sAll) l_all c_all k_all
  have D_all : DF K mg "_law_all" sAll ["_law_shuts_here"] f_all _ := ⟨F_all, PySem.W.mg_of X G a_all, F_all.binds (ps := ["_law_shuts_here"]) fun _ _ _ _ _ _ us hl => match us, hl with | [_], _ => rfl⟩
  have F_rms := fun_mk (st := sRooms) l_rms c_rms k_rms
  have D_rms : DF K mg "_law_rooms" sRooms ["_law_shuts_here", "_law_bars"] f_rms _ := ⟨F_rms, PySem.W.mg_of X G a_rms, F_rms.binds (ps := ["_law_shuts_here", "_law_bars"]) fun _ _ _ _ _ _ us hl => match us, hl with | [_, _], _ => rfl⟩
  have F_fine := fun_mk (st := sFine) l_fine c_fine k_fine
  have D_fine : DF K mg "_law_fine" sFine ["_law_shuts_here", "_law_rooms_here"] f_fine _ := ⟨F_fine, PySem.W.mg_of X G a_fine, F_fine.binds (ps := ["_law_shuts_here", "_law_rooms_here"]) fun _ _ _ _ _ _ us hl => match us, hl with | [_, _], _ => rfl⟩
  have F_hall := fun_mk (st := sHall) l_hall c_hall k_hall
  have D_hall : DF K mg "_law_hall" sHall ["_law_d", "_law_most"] f_hall _ := ⟨F_hall, PySem.W.mg_of X G a_hall, F_hall.binds (ps := ["_law_d", "_law_most"]) fun _ _ _ _ _ _ us hl => match us, hl with | [_, _], _ => rfl⟩
  have F_lsi := fun_mk (st := sLSides) l_lsi c_lsi k_lsi
  have D_lsi : DF K mg "_law_sides" sLSides ["_law_d", "_law_shuts_here"] f_lsi _ := ⟨F_lsi, PySem.W.mg_of X G a_lsi, F_lsi.binds (ps := ["_law_d", "_law_shuts_here"]) fun _ _ _ _ _ _ us hl => match us, hl with | [_, _], _ => rfl⟩
  have F_lpa := fun_mk (st := sLPart) l_lpa c_lpa k_lpa
  have D_lpa : DF K mg "_law_part" sLPart ["_law_d", "_law_shuts_here", "_law_rooms_here"] f_lpa _ := ⟨F_lpa, PySem.W.mg_of X G a_lpa, F_lpa.binds (ps := ["_law_d", "_law_shuts_here", "_law_rooms_here"]) fun _ _ _ _ _ _ us hl => match us, hl with | [_, _, _], _ => rfl⟩
  have F_lap := fun_mk (st := sApart) l_lap c_lap k_lap
  have D_lap : DF K mg "_law_apart" sApart ["_law_one", "_law_two"] f_lap _ := ⟨F_lap, PySem.W.mg_of X G a_lap, F_lap.binds (ps := ["_law_one", "_law_two"]) fun _ _ _ _ _ _ us hl => match us, hl with | [_, _], _ => rfl⟩
  have F_lne := fun_mk (st := sLNear) l_lne c_lne k_lne
  have D_lne : DF K mg "_law_near" sLNear ["_law_rooms_here", "_law_part_here", "_law_room"] f_lne _ := ⟨F_lne, PySem.W.mg_of X G a_lne, F_lne.binds (ps := ["_law_rooms_here", "_law_part_here", "_law_room"]) fun _ _ _ _ _ _ us hl => match us, hl with | [_, _, _], _ => rfl⟩
  have F_led := fun_mk (st := sLed) l_led c_led k_led
  have D_led : DF K mg "_law_led" sLed ["_law_rooms_here", "_law_shuts_here", "_law_steps", "_law_room"] f_led _ := ⟨F_led, PySem.W.mg_of X G a_led, F_led.binds (ps := ["_law_rooms_here", "_law_shuts_here", "_law_steps", "_law_room"]) fun _ _ _ _ _ _ us hl => match us, hl with | [_, _, _, _], _ => rfl⟩
  have F_map := fun_mk (st := sMap) l_map c_map k_map
  have D_map : DF K mg "_law_map" sMap ["_law_rooms_here", "_law_shuts_here", "_law_steps"] f_map _ := ⟨F_map, PySem.W.mg_of X G a_map, F_map.binds (ps := ["_law_rooms_here", "_law_shuts_here", "_law_steps"]) fun _ _ _ _ _ _ us hl => match us, hl with | [_, _, _], _ => rfl⟩
  have F_lca := fun_mk (st := sLCalls) l_lca c_lca k_lca
  have D_lca : DF K mg "_law_calls" sLCalls ["_law_d", "_law_shuts_here", "_law_rooms_here", "_law_most"] f_lca _ := ⟨F_lca, PySem.W.mg_of X G a_lca, F_lca.binds (ps := ["_law_d", "_law_shuts_here", "_law_rooms_here", "_law_most"]) fun _ _ _ _ _ _ us hl => match us, hl with | [_, _, _, _], _ => rfl⟩
  have F_lls := fun_mk (st := sLists) l_lls c_lls k_lls
  have D_lls : DF K mg "_law_lists" sLists ["_law_many"] f_lls _ := ⟨F_lls, PySem.W.mg_of X G a_lls, F_lls.binds (ps := ["_law_many"]) fun _ _ _ _ _ _ us hl => match us, hl with | [_], _ => rfl⟩
  have F_same := fun_mk (st := sSame) l_same c_same k_same
  have D_same : DF K mg "_law_same" sSame ["_law_x", "_law_due"] f_same _ := ⟨F_same, PySem.W.mg_of X G a_same, F_same.binds (ps := ["_law_x", "_law_due"]) fun _ _ _ _ _ _ us hl => match us, hl with | [_, _], _ => rfl⟩
  have F_sh := fun_mk (st := sShut) l_sh c_sh k_sh
  have D_sh : DF K mg "shut" sShut ["hall", "part"] f_sh _ := ⟨F_sh, PySem.W.mg_of X G a_sh, F_sh.binds (ps := ["hall", "part"]) fun _ _ _ _ _ _ us hl => match us, hl with | [_, _], _ => rfl⟩
  have F_sc := fun_mk (st := sShCalls) l_sc c_sc k_sc
  have D_sc : DF K mg "shut_calls" sShCalls ["hall", "calls", "most"] f_sc _ := ⟨F_sc, PySem.W.mg_of X G a_sc, F_sc.binds (ps := ["hall", "calls", "most"]) fun _ _ _ _ _ _ us hl => match us, hl with | [_, _, _], _ => rfl⟩
  have F_ww := fun_mk (st := sWWrit) l_ww c_ww k_ww
  have D_ww : DF K mg "walls_written" sWWrit ["hall", "shut_texts"] f_ww _ := ⟨F_ww, PySem.W.mg_of X G a_ww, F_ww.binds (ps := ["hall", "shut_texts"]) fun _ _ _ _ _ _ us hl => match us, hl with | [_, _], _ => rfl⟩
  have F_lo := fun_mk (st := sLonger) l_lo c_lo k_lo
  have D_lo : DF K mg "longer_lists" sLonger ["lists", "count"] f_lo _ := ⟨F_lo, PySem.W.mg_of X G a_lo, F_lo.binds (ps := ["lists", "count"]) fun _ _ _ _ _ _ us hl => match us, hl with | [_, _], _ => rfl⟩
  have F_ga := fun_mk (st := sGather) l_ga c_ga k_ga
  have D_ga : DF K mg "gather" sGather ["hall", "calls"] f_ga _ := ⟨F_ga, PySem.W.mg_of X G a_ga, F_ga.binds (ps := ["hall", "calls"]) fun _ _ _ _ _ _ us hl => match us, hl with | [_, _], _ => rfl⟩
  have F_isP := fun_mk (st := sIsPart) l_isP c_isP k_isP
  have D_isP : DF K mg "is_part" sIsPart ["hall", "part"] f_isP _ := ⟨F_isP, PySem.W.mg_of X G a_isP, F_isP.binds (ps := ["hall", "part"]) fun _ _ _ _ _ _ us hl => match us, hl with | [_, _], _ => rfl⟩
  have F_chP := fun_mk (st := sChkPart) l_chP c_chP k_chP
  have D_chP : DF K mg "check_part" sChkPart ["hall", "part"] f_chP _ := ⟨F_chP, PySem.W.mg_of X G a_chP, F_chP.binds (ps := ["hall", "part"]) fun _ _ _ _ _ _ us hl => match us, hl with | [_, _], _ => rfl⟩
  have F_afb := fun_mk (st := sAllFB) l_afb c_afb k_afb
  have D_afb : DF K mg "all_forced_by" sAllFB ["hall", "part"] f_afb _ := ⟨F_afb, PySem.W.mg_of X G a_afb, F_afb.binds (ps := ["hall", "part"]) fun _ _ _ _ _ _ us hl => match us, hl with | [_, _], _ => rfl⟩
  have F_to := fun_mk (st := sTorn) l_to c_to k_to
  have D_to : DF K mg "torn_walls" sTorn ["hall", "part"] f_to _ := ⟨F_to, PySem.W.mg_of X G a_to, F_to.binds (ps := ["hall", "part"]) fun _ _ _ _ _ _ us hl => match us, hl with | [_, _], _ => rfl⟩
  have F_iH := fun_mk (st := sHEinit) l_iH c_iH k_iH
  have b_iH := F_iH.binds (ps := ["self", "word"]) fun _ _ _ _ _ _ us hl => match us, hl with | [_, _], _ => rfl
  have F_iB := fun_mk (st := sBBinit) l_iB c_iB k_iB
  have b_iB := F_iB.binds (ps := ["self", "at"]) fun _ _ _ _ _ _ us hl => match us, hl with | [_, _], _ => rfl
  have F_iF := fun_mk (st := sFXinit) l_iF c_iF k_iF
  have b_iF := F_iF.binds (ps := ["self", "side"]) fun _ _ _ _ _ _ us hl => match us, hl with | [_, _], _ => rfl
  have F_iA := fun_mk (st := sALinit) l_iA c_iA k_iA
  have b_iA := F_iA.binds (ps := ["self", "one", "other"]) fun _ _ _ _ _ _ us hl => match us, hl with | [_, _, _], _ => rfl
  have e := hfa.symm.trans (PySem.W.mg_of X G a_L)
  cases e
  have B : BM mg := ⟨PySem.W.mg_none_of X G z_list, PySem.W.mg_none_of X G z_sorted, PySem.W.mg_none_of X G z_set, PySem.W.mg_none_of X G z_all, PySem.W.mg_none_of X G z_len, PySem.W.mg_none_of X G z_enumerate, PySem.W.mg_none_of X G z_range, PySem.W.mg_none_of X G z_isinstance, PySem.W.mg_none_of X G z_tuple⟩
  have he : HE K mg CH f_iH _ := ⟨PySem.W.mg_of X G a_CH, ⟨_, ⟨r_H, g_H⟩, i_H⟩, F_iH, b_iH, PySem.W.mg_none_of X G z_ValueError, v_V⟩
  have xCB : XC K mg "BadBar" "BadBar.__init__" sBBinit "at" CB f_iB _ := ⟨PySem.W.mg_of X G a_CB, ⟨⟨_, _, _, _, _, _, _, _, _, _, _, _, _, _, _, x_CB, rv_CB⟩, sa_CB, ex_CB, ty_CB, kc_CB⟩, n_CB_word, n_CB_at, i_CB, t_CB, F_iB, b_iB⟩
  have xCF : XC K mg "Fixed" "Fixed.__init__" sFXinit "side" CF f_iF _ := ⟨PySem.W.mg_of X G a_CF, ⟨⟨_, _, _, _, _, _, _, _, _, _, _, _, _, _, _, x_CF, rv_CF⟩, sa_CF, ex_CF, ty_CF, kc_CF⟩, n_CF_word, n_CF_side, i_CF, t_CF, F_iF, b_iF⟩
  have xCA : XC2 K mg CA f_iA _ := ⟨PySem.W.mg_of X G a_CA, ⟨⟨_, _, _, _, _, _, _, _, _, _, _, _, _, _, _, x_CA, rv_CA⟩, sa_CA, ex_CA, ty_CA, kc_CA⟩, n_CA_word, n_CA_one, n_CA_other, i_CA, t_CA, F_iA, b_iA⟩
  have T8 := Txt8.mk B (PySem.W.mg_of X G w_W) D_O D_S D_Y D_W D_I D_cw D_cb D_cs D_st D_re D_af D_cf D_ca he xCB xCF xCA
  have F_hwl := fun_mk (st := sHwalls) l_hwl c_hwl k_hwl
  have b1_hwl := F_hwl.binds (ps := ["self"]) fun _ _ _ _ _ _ us hl => match us, hl with | [_], _ => rfl
  have F_hfo := fun_mk (st := sHforced) l_hfo c_hfo k_hfo
  have b1_hfo := F_hfo.binds (ps := ["self", "side"]) fun _ _ _ _ _ _ us hl => match us, hl with | [_, _], _ => rfl
  have hp : HP K C f_hwl f_hfo _ _ := ⟨⟨b_hwl, m_hwl, k_hwl⟩, F_hwl, b1_hwl, ⟨b_hfo, m_hfo, k_hfo⟩, F_hfo, b1_hfo⟩
  have Fb := fun_mk (st := sHbars) l_hb c_hb k_hb
  have FD : FunD K "__init__" "Hall.__init__" (defArgs sHinit) (defBody sHinit) (defScope sHinit) [.ref e_hi] [] f_hi _ := ⟨⟨_, _, _, _, _, _, _, _, _, _, rfl, l_hi, c_hi, .inr ⟨by simp, T_hi, _, [.ref e_hi], n_T, rfl, d_hi, rfl, .cons rfl .nil⟩, .inl rfl⟩, k_hi⟩
  obtain ⟨ds, hds, hbi⟩ := FD.binds1 (ps := ["self", "walls", "bars"]) 3 1 (by simp) rfl (fun _ _ _ _ _ _ _ us its h1 h2 => match us, its, h1, h2 with | [_, _, _], [_], _, _ => ⟨_, rfl, rfl⟩)
  have hds2 : ds = [] := by
    have z : Vals ([] : List V) ds := hds
    cases z
    rfl
  subst hds2
  have zz : HC K mg C f_hi f_hb _ _ := ⟨PySem.W.mg_of X G a_C, ⟨pg_C, hd_C, po_C, sa_C⟩, ⟨mk_C, i_C, j_C, kp_C⟩, ⟨_, FD⟩, hbi, n1_C, n2_C, n3_C, ⟨b_hb, m_hb, k_hb⟩, Fb, Fb.binds (ps := ["self"]) fun _ _ _ _ _ _ us hl => match us, hl with | [_], _ => rfl⟩
  have yy := NC.PT.mk hp D_isP D_chP D_afb D_to
  have kw : KBn K _ ["hall", "calls"] 0 ["calls", "hall"] (gSw (α := Value)) gSw := kw_g (fd := PySem.W.fnOf "gather" "gather" (defArgs sGather) (defBody sGather) (defScope sGather) .none kV_ga dc_ga pm_ga an_ga cd_ga ct_ga) fun c h => rfl
  have hh := Hlp.mk D_start D_draw D_of D_letters D_shuts D_oth D_wit D_pairs D_all D_rms D_fine D_hall D_lsi D_lpa D_lap D_lne D_led D_map D_lca D_lls D_same D_sh D_sc D_ww D_lo D_ga (PySem.W.mg_none_of X G z_any) (PySem.W.mg_none_of X G z_bool) (PySem.W.mg_none_of X G z_str) (PySem.W.mg_of X G w_MOST_CALLS) kw
  exact ⟨_, [], spLaw K, nofun, nofun, nofun, fun s u => .of_eq rfl, fun H a ns hl hb hH hS => ⟨a, ns, rfl, hS, fun _ => rfl⟩, fun base KB GB TB => ok_law (k := 0) (fun_mk (st := sLaw) l_L c_L k_L) zz yy T8 hh⟩
end NC
open PySem PySem.W PyProof.Rows
set_option maxHeartbeats 0 in
theorem PySem.Challenge.cw_nearcall_k37_fewest_that_gather_holds : PySem.Challenge.rw_nearcall_k37_fewest_that_gather.Holds := by
  w_on; o_law
  refine holds_open (r := OpenLaw.row PySem.Challenge.rw_nearcall_k37_fewest_that_gather) (q := HX.qv) (loose := HX.names)
    (Xt := fun s => xlAt HX.qv HX.lv s && recOk (OpenLaw.row PySem.Challenge.rw_nearcall_k37_fewest_that_gather).toRowW.records s)
    (XP := XL HX.qv HX.lv) (Yf := (kHook HX.KF HX.KA HX.ka_is).obs) (Ya := (kHook HX.KF HX.KA HX.ka_is).val) (YP := (kHook HX.KF HX.KA HX.ka_is).says)
    (kwd := []) HX.left (kHook HX.KF HX.KA HX.ka_is).of (kHook HX.KF HX.KA HX.ka_is).keeps
    (fun s z => xl_of s (Bool.and_eq_true_iff.mp z).1) XL.keeps
    (by rfl) (by rfl) (by rfl)
    (fun s z => recFacts_of (Bool.and_eq_true_iff.mp z).2)
    (by rfl) (by first | assumption | decide +kernel) (by decide +kernel)
    ⟨rfl, rfl, rfl, rfl, rfl, by decide +kernel⟩ ?hw ?hc
  case hw => w_witness2
  k_fill
  refine LamX.walk_ofTs (l := PySem.Challenge.rw_nearcall_k37_fewest_that_gather) (n := 63) (k := 9) (x := "_law_script") (CX := fun w => L2.CX0) rfl (by decide) rfl ⟨rfl, by decide, by decide⟩ (fun w h Y => PySem.W.kIn_of Y) ?F (fun _ _ _ _ _ h => h)
  case F =>
    intro w mg fa h Y KX G hmg
    refine' NC.all_mk KX G hmg ?a_O ?l_O ?c_O ?k_O ?a_S ?l_S ?c_S ?k_S ?a_Y ?l_Y ?c_Y ?k_Y ?a_W ?l_W ?c_W ?k_W ?a_I ?l_I ?c_I ?k_I ?a_cw ?l_cw ?c_cw ?k_cw ?a_cb ?l_cb ?c_cb ?k_cb ?a_cs ?l_cs ?c_cs ?k_cs ?a_st ?l_st ?c_st ?k_st ?a_re ?l_re ?c_re ?k_re ?a_af ?l_af ?c_af ?k_af ?a_cf ?l_cf ?c_cf ?k_cf ?a_ca ?l_ca ?c_ca ?k_ca ?a_start ?l_start ?c_start ?k_start ?a_draw ?l_draw ?c_draw ?k_draw ?a_of ?l_of ?c_of ?k_of ?a_letters ?l_letters ?c_letters ?k_letters ?a_shuts ?l_shuts ?c_shuts ?k_shuts ?a_oth ?l_oth ?c_oth ?k_oth ?a_wit ?l_wit ?c_wit ?k_wit ?a_pairs ?l_pairs ?c_pairs ?k_pairs ?a_all ?l_all ?c_all ?k_all ?a_rms ?l_rms ?c_rms ?k_rms ?a_fine ?l_fine ?c_fine ?k_fine ?a_hall ?l_hall ?c_hall ?k_hall ?a_lsi ?l_lsi ?c_lsi ?k_lsi ?a_lpa ?l_lpa ?c_lpa ?k_lpa ?a_lap ?l_lap ?c_lap ?k_lap ?a_lne ?l_lne ?c_lne ?k_lne ?a_led ?l_led ?c_led ?k_led ?a_map ?l_map ?c_map ?k_map ?a_lca ?l_lca ?c_lca ?k_lca ?a_lls ?l_lls ?c_lls ?k_lls ?a_same ?l_same ?c_same ?k_same ?a_sh ?l_sh ?c_sh ?k_sh ?a_sc ?l_sc ?c_sc ?k_sc ?a_ww ?l_ww ?c_ww ?k_ww ?a_lo ?l_lo ?c_lo ?k_lo ?a_ga ?l_ga ?c_ga ?k_ga ?a_isP ?l_isP ?c_isP ?k_isP ?a_chP ?l_chP ?c_chP ?k_chP ?a_afb ?l_afb ?c_afb ?k_afb ?a_to ?l_to ?c_to ?k_to ?a_CH ?a_CB ?a_CF ?a_CA ?i_H ?r_H ?g_H ?v_V ?x_CB ?rv_CB ?sa_CB ?ex_CB ?ty_CB ?kc_CB ?i_CB ?t_CB ?n_CB_word ?n_CB_at ?x_CF ?rv_CF ?sa_CF ?ex_CF ?ty_CF ?kc_CF ?i_CF ?t_CF ?n_CF_word ?n_CF_side ?x_CA ?rv_CA ?sa_CA ?ex_CA ?ty_CA ?kc_CA ?i_CA ?t_CA ?n_CA_word ?n_CA_one ?n_CA_other ?l_iH ?c_iH ?k_iH ?l_iB ?c_iB ?k_iB ?l_iF ?c_iF ?k_iF ?l_iA ?c_iA ?k_iA ?a_C ?i_C ?j_C ?pg_C ?hd_C ?po_C ?sa_C ?mk_C ?kp_C ?n1_C ?n2_C ?n3_C ?b_hb ?m_hb ?l_hb ?c_hb ?k_hb ?b_hwl ?m_hwl ?l_hwl ?c_hwl ?k_hwl ?b_hfo ?m_hfo ?l_hfo ?c_hfo ?k_hfo ?l_hi ?c_hi ?k_hi ?d_hi ?z_list ?z_sorted ?z_set ?z_all ?z_len ?z_enumerate ?z_range ?z_isinstance ?z_tuple ?z_any ?z_ValueError ?z_bool ?z_str ?w_W ?w_MOST_CALLS ?a_L ?l_L ?c_L ?k_L
    (case a_O => k_is)
    (case l_O => k_is)
    (case c_O => k_is)
    (case k_O => k_is)
    (case a_S => k_is)
    (case l_S => k_is)
    (case c_S => k_is)
    (case k_S => k_is)
    (case a_Y => k_is)
    (case l_Y => k_is)
    (case c_Y => k_is)
    (case k_Y => k_is)
    (case a_W => k_is)
    (case l_W => k_is)
    (case c_W => k_is)
    (case k_W => k_is)
    (case a_I => k_is)
    (case l_I => k_is)
    (case c_I => k_is)
    (case k_I => k_is)
    (case a_cw => k_is)
    (case l_cw => k_is)
    (case c_cw => k_is)
    (case k_cw => k_is)
    (case a_cb => k_is)
    (case l_cb => k_is)
    (case c_cb => k_is)
    (case k_cb => k_is)
    (case a_cs => k_is)
    (case l_cs => k_is)
    (case c_cs => k_is)
    (case k_cs => k_is)
    (case a_st => k_is)
    (case l_st => k_is)
    (case c_st => k_is)
    (case k_st => k_is)
    (case a_re => k_is)
    (case l_re => k_is)
    (case c_re => k_is)
    (case k_re => k_is)
    (case a_af => k_is)
    (case l_af => k_is)
    (case c_af => k_is)
    (case k_af => k_is)
    (case a_cf => k_is)
    (case l_cf => k_is)
    (case c_cf => k_is)
    (case k_cf => k_is)
    (case a_ca => k_is)
    (case l_ca => k_is)
    (case c_ca => k_is)
    (case k_ca => k_is)
    (case a_start => k_is)
    (case l_start => k_is)
    (case c_start => k_is)
    (case k_start => k_is)
    (case a_draw => k_is)
    (case l_draw => k_is)
    (case c_draw => k_is)
    (case k_draw => k_is)
    (case a_of => k_is)
    (case l_of => k_is)
    (case c_of => k_is)
    (case k_of => k_is)
    (case a_letters => k_is)
    (case l_letters => k_is)
    (case c_letters => k_is)
    (case k_letters => k_is)
    (case a_shuts => k_is)
    (case l_shuts => k_is)
    (case c_shuts => k_is)
    (case k_shuts => k_is)
    (case a_oth => k_is)
    (case l_oth => k_is)
    (case c_oth => k_is)
    (case k_oth => k_is)
    (case a_wit => k_is)
    (case l_wit => k_is)
    (case c_wit => k_is)
    (case k_wit => k_is)
    (case a_pairs => k_is)
    (case l_pairs => k_is)
    (case c_pairs => k_is)
    (case k_pairs => k_is)
    (case a_all => k_is)
    (case l_all => k_is)
    (case c_all => k_is)
    (case k_all => k_is)
    (case a_rms => k_is)
    (case l_rms => k_is)
    (case c_rms => k_is)
    (case k_rms => k_is)
    (case a_fine => k_is)
    (case l_fine => k_is)
    (case c_fine => k_is)
    (case k_fine => k_is)
    (case a_hall => k_is)
    (case l_hall => k_is)
    (case c_hall => k_is)
    (case k_hall => k_is)
    (case a_lsi => k_is)
    (case l_lsi => k_is)
    (case c_lsi => k_is)
    (case k_lsi => k_is)
    (case a_lpa => k_is)
    (case l_lpa => k_is)
    (case c_lpa => k_is)
    (case k_lpa => k_is)
    (case a_lap => k_is)
    (case l_lap => k_is)
    (case c_lap => k_is)
    (case k_lap => k_is)
    (case a_lne => k_is)
    (case l_lne => k_is)
    (case c_lne => k_is)
    (case k_lne => k_is)
    (case a_led => k_is)
    (case l_led => k_is)
    (case c_led => k_is)
    (case k_led => k_is)
    (case a_map => k_is)
    (case l_map => k_is)
    (case c_map => k_is)
    (case k_map => k_is)
    (case a_lca => k_is)
    (case l_lca => k_is)
    (case c_lca => k_is)
    (case k_lca => k_is)
    (case a_lls => k_is)
    (case l_lls => k_is)
    (case c_lls => k_is)
    (case k_lls => k_is)
    (case a_same => k_is)
    (case l_same => k_is)
    (case c_same => k_is)
    (case k_same => k_is)
    (case a_sh => k_is)
    (case l_sh => k_is)
    (case c_sh => k_is)
    (case k_sh => k_is)
    (case a_sc => k_is)
    (case l_sc => k_is)
    (case c_sc => k_is)
    (case k_sc => k_is)
    (case a_ww => k_is)
    (case l_ww => k_is)
    (case c_ww => k_is)
    (case k_ww => k_is)
    (case a_lo => k_is)
    (case l_lo => k_is)
    (case c_lo => k_is)
    (case k_lo => k_is)
    (case a_ga => k_is)
    (case l_ga => k_is)
    (case c_ga => k_is)
    (case k_ga => k_is)
    (case a_isP => k_is)
    (case l_isP => k_is)
    (case c_isP => k_is)
    (case k_isP => k_is)
    (case a_chP => k_is)
    (case l_chP => k_is)
    (case c_chP => k_is)
    (case k_chP => k_is)
    (case a_afb => k_is)
    (case l_afb => k_is)
    (case c_afb => k_is)
    (case k_afb => k_is)
    (case a_to => k_is)
    (case l_to => k_is)
    (case c_to => k_is)
    (case k_to => k_is)
    (case a_CH => k_is)
    (case a_CB => k_is)
    (case a_CF => k_is)
    (case a_CA => k_is)
    (case i_H => k_is)
    (case r_H => k_is)
    (case g_H => k_is)
    (case v_V => k_is)
    (case x_CB => k_is)
    (case rv_CB => decide +kernel)
    (case sa_CB => k_is)
    (case ex_CB => k_is)
    (case ty_CB => k_is)
    (case kc_CB => k_is)
    (case i_CB => k_is)
    (case t_CB => k_is)
    (case n_CB_word => k_is)
    (case n_CB_at => k_is)
    (case x_CF => k_is)
    (case rv_CF => decide +kernel)
    (case sa_CF => k_is)
    (case ex_CF => k_is)
    (case ty_CF => k_is)
    (case kc_CF => k_is)
    (case i_CF => k_is)
    (case t_CF => k_is)
    (case n_CF_word => k_is)
    (case n_CF_side => k_is)
    (case x_CA => k_is)
    (case rv_CA => decide +kernel)
    (case sa_CA => k_is)
    (case ex_CA => k_is)
    (case ty_CA => k_is)
    (case kc_CA => k_is)
    (case i_CA => k_is)
    (case t_CA => k_is)
    (case n_CA_word => k_is)
    (case n_CA_one => k_is)
    (case n_CA_other => k_is)
    (case l_iH => k_is)
    (case c_iH => k_is)
    (case k_iH => k_is)
    (case l_iB => k_is)
    (case c_iB => k_is)
    (case k_iB => k_is)
    (case l_iF => k_is)
    (case c_iF => k_is)
    (case k_iF => k_is)
    (case l_iA => k_is)
    (case c_iA => k_is)
    (case k_iA => k_is)
    (case a_C => k_is)
    (case i_C => k_is)
    (case j_C => k_is)
    (case pg_C => k_is)
    (case hd_C => k_is)
    (case po_C => k_is)
    (case sa_C => k_is)
    (case mk_C => k_is)
    (case kp_C => k_is)
    (case n1_C => k_is)
    (case n2_C => k_is)
    (case n3_C => k_is)
    (case b_hb => k_is)
    (case m_hb => k_is)
    (case l_hb => k_is)
    (case c_hb => k_is)
    (case k_hb => k_is)
    (case b_hwl => k_is)
    (case m_hwl => k_is)
    (case l_hwl => k_is)
    (case c_hwl => k_is)
    (case k_hwl => k_is)
    (case b_hfo => k_is)
    (case m_hfo => k_is)
    (case l_hfo => k_is)
    (case c_hfo => k_is)
    (case k_hfo => k_is)
    (case l_hi => k_is)
    (case c_hi => k_is)
    (case k_hi => k_is)
    (case d_hi => k_is)
    (case z_list => k_is)
    (case z_sorted => k_is)
    (case z_set => k_is)
    (case z_all => k_is)
    (case z_len => k_is)
    (case z_enumerate => k_is)
    (case z_range => k_is)
    (case z_isinstance => k_is)
    (case z_tuple => k_is)
    (case z_any => k_is)
    (case z_ValueError => k_is)
    (case z_bool => k_is)
    (case z_str => k_is)
    (case w_W => k_is)
    (case w_MOST_CALLS => k_is)
    (case a_L => k_is)
    (case l_L => k_is)
    (case c_L => k_is)
    (case k_L => k_is)
