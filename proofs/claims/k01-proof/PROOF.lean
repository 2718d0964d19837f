import PyProof.Rows.All
import Wide.All
import OpenK.AllK
import Wide.FinOn
import HandS.ForMost
import HandS.More
import HandS.Defaults
import HandS.IsInst
import HandS.WideBits
import HandS.Wide
import HandS.Style
import HandS.TupAny
import HandS.StrMore
import HandS.SetKeys
import HandS.SetBool
import HandS.Flow
import HandS.RaiseOp
import HandS.Zip
import HandS.Walk
import HandS.Conv
import HandS.EndBits
import HandS.Evl
import HandS.SortKw
import KE.DatumOrd
import HandS.HeadHook4
import PyProof.Rows.SortShellAny
import KE.IntTextText
import KE.KIntText
import HandS.Strs
import HandS.Replace
import HandS.Star
import HandS.HeadEnd
import HandS.HeadWalk
import KE.DatumIndex
import PyProof.StrLawsRepr
import KE.KStrOpen
import PyProof.ReprLen
import PyProof.ListStr
import PyProof.TupleOfStr
import PyProof.Rows.IntBool
import HandS.IntHex
import HandS.Dict
import PyProof.Rows.StrCut
import HandS.Head0
import HandS.Head1
import HandS.Head2
import HandS.HeadHook1
import HandS.HeadHook2
import HandS.HeadHook3
import PySem.Challenge.RW_contentnames_k01_marks_and_terms_or_not
set_option Elab.async false
set_option linter.all false
set_option maxRecDepth 100000
set_option maxHeartbeats 4000000
namespace V
open PySem PySem.Spec PyProof.Rows L2 Evl
/-! ### defs of the top, called by their names -/
/-- the def of this name stands at the top -/
structure Def (K : PySem.W.Frag) (mg : Str → Option Value) (x : Str) (st : Stmt) (ps : List Str) : Prop where
  ex : ∃ (f : Addr) (fd : FuncData), FunD K x x (defArgs st) (defBody st) (defScope st) [] [] f fd ∧ mg x = some (.ref f) ∧ Binds K fd ps []
/-- .. and keeps this promise, with k calls within one another -/
structure Cal (P : Program) (w : World) (K : PySem.W.Frag) (mg : Str → Option Value) (base : Heap) (k : Nat) (x : Str) (ps : List Str) (sp : Sp) : Prop where
  ex : ∃ (f : Addr) (fd : FuncData), FnOk P w K mg base CX0 k f fd ps sp ∧ mg x = some (.ref f) ∧ PySem.W.keepIn K (.ref f) = true ∧ Binds K fd ps []
section
variable {P : Program} {w : World} {K : PySem.W.Frag} {mg : Str → Option Value} {base : Heap} {x : Str} {st : Stmt} {ps N : List Str} {k : Nat} {sp sp' : Sp}
theorem Def.cal (D : Def K mg x st ps) (S : FnScope N ps (defScope st)) (len : ∀ vs H Q E, sp vs H Q E → vs.length = ps.length)
    (body : ∀ (f : Addr) (cdv : Value) (A : Around) (outer : List Env) (s : Shared) (H : Hp) (vs : List V) (Q : VK) (E : XK),
      Room k (A.deeper (envOfC x (defScope st) s.heap.objs.size f cdv)) → sp vs H Q E →
      ∃ t, PSs (cxOf CX0 P w K mg base N x (defScope st) f cdv A outer s H E).nox (defBody st) t ∧
        t { nx := fun _ H' => Q .non H', rt := Q } (start N vs) H) : Cal P w K mg base (k + 1) x ps sp := by
  obtain ⟨f, fd, F, hm, hb⟩ := D.ex
  refine ⟨f, fd, F.ok S len (fun cdv A outer s H vs Q E hr h => ?_), hm, F.kp, hb⟩
  obtain ⟨t, h1, h2⟩ := body f cdv A outer s H vs Q E hr h
  exact ⟨t, h1.nox, h2⟩
theorem Cal.mono {j : Nat} (C : Cal P w K mg base j x ps sp) (h : j ≤ k) : Cal P w K mg base k x ps sp := by
  obtain ⟨f, fd, F, h1, h2, h3⟩ := C.ex
  exact ⟨f, fd, F.mono h, h1, h2, h3⟩
theorem Cal.imp (C : Cal P w K mg base k x ps sp) (h : ∀ vs H Q E, sp' vs H Q E → sp vs H Q E) : Cal P w K mg base k x ps sp' := by
  obtain ⟨f, fd, F, h1, h2, h3⟩ := C.ex
  exact ⟨f, fd, F.imp h, h1, h2, h3⟩
/-- nothing is promised: none may call it -/
theorem Def.never (D : Def K mg x st ps) (no : ∀ vs H Q E, ¬ sp vs H Q E) : Cal P w K mg base 0 x ps sp := by
  obtain ⟨f, fd, F, hm, hb⟩ := D.ex
  exact ⟨f, fd, ⟨fun vs H Q E h => absurd h (no vs H Q E), fun A outer s H args us vs Q E _ _ _ _ h => absurd h (no vs H Q E)⟩, hm, F.kp, hb⟩
end
/-- its call -/
def tFn (sp : Sp) (t : TA) : TE := fun σ H Q => t σ H fun vs H1 => sp vs H1 Q E0
section
variable {X : Cx}
theorem pe_fn {j k : Nat} {x : Str} {ps : List Str} {sp : Sp} {e : Expr} {es : List Expr} {t : TA} {p pos : Pos} (C : Cal X.prog X.w X.K X.mg X.base k x ps sp) (hr : Room j X.A) (hk : k ≤ j) (ha : PA X (e :: es) t)
    (hg : Gl X x := by rfl) (hdb : (x == ("__debug__" : Str)) = false := by decide) (he : starEach (e :: es) X.env = (false, eval e X.env) :: starEach es X.env := by rfl)
    (hpl : (backTo pos (starEach es X.env)).any (·.1) = false := by rfl) : PE X (.Call (.Name x p) (e :: es) [] pos) (tFn sp t) := by
  obtain ⟨f, fd, F, h1, h2, h3⟩ := C.ex
  have h := pe_call (ds := []) (dvs := []) (E := E0) (p := p) F (hr.mono hk) hg h1 h2 h3 .nil pass0 ha hdb he hpl
  refine ⟨fun pins s σ H Q I q => h.run pins s σ H Q I ?_⟩
  have e1 : (fun (vs : List V) (H1 : Hp) => sp (vs ++ []) H1 Q E0) = fun vs H1 => sp vs H1 Q E0 := by
    funext vs H1
    rw [List.append_nil]
  show t σ H fun vs H1 => sp (vs ++ []) H1 Q E0
  rw [e1]
  exact q
/-- a built-in function, a built-in type, called -/
theorem pe_bi {id : String} {r : List V → Hp → VK → Prop} {x : Str} {e : Expr} {es : List Expr} {t : TA} {p pos : Pos} (hc : CallR X (.builtin id) r) (hm : X.mg x = none) (ha : PA X (e :: es) t) (hg : Gl X x := by rfl)
    (hv : bootBuiltins x = some (.builtin id) := by decide +kernel) (hn : x ≠ "__name__" := by decide) (hdb : (x == ("__debug__" : Str)) = false := by decide)
    (he : starEach (e :: es) X.env = (false, eval e X.env) :: starEach es X.env := by rfl) (hpl : (backTo pos (starEach es X.env)).any (·.1) = false := by rfl) : PE X (.Call (.Name x p) (e :: es) [] pos) (tCB r t) :=
  pe_callB hc hg hm hv ha hn hdb he hpl
theorem pe_bt {T : String} {r : List V → Hp → VK → Prop} {x : Str} {e : Expr} {es : List Expr} {t : TA} {p pos : Pos} (hc : CallR X (.type T) r) (hm : X.mg x = none) (ha : PA X (e :: es) t) (hg : Gl X x := by rfl)
    (hv : bootBuiltins x = some (.type T) := by decide +kernel) (hn : x ≠ "__name__" := by decide) (hdb : (x == ("__debug__" : Str)) = false := by decide)
    (he : starEach (e :: es) X.env = (false, eval e X.env) :: starEach es X.env := by rfl) (hpl : (backTo pos (starEach es X.env)).any (·.1) = false := by rfl) : PE X (.Call (.Name x p) (e :: es) [] pos) (tCB r t) :=
  pe_callTy hc hg hm hv ha hn hdb he hpl
theorem ev_fn {sp : Sp} {σ : L2.St} {H : Hp} {vs : List V} {z : V} {ta : TA} (h : EvA ta σ H vs) (hs : SpV sp vs H z) : Ev (tFn sp ta) σ H z := fun H1 e Q q =>
  h H1 e _ fun H2 e2 => hs H2 (e.trans e2) Q (fun H3 e3 => q H3 (e2.trans e3)) E0
theorem el_fn {sp : Sp} {σ : L2.St} {H : Hp} {vs xs : List V} {ta : TA} (h : EvA ta σ H vs) (hs : SpL sp vs H xs) : EvL (tFn sp ta) σ H xs := fun H1 e Q q =>
  h H1 e _ fun H2 e2 => hs H2 (e.trans e2) Q (fun p H3 hp e3 h3 => q p H3 (fresh_back e2 hp) (e2.trans e3) h3) E0
end
theorem sz (n : Nat) (h : n ≤ 1000 := by decide) : n ≤ sizeLine := Nat.le_of_lt (small1000 h)
theorem at0 {α : Type} {x : α} {r : List α} : atI (x :: r) 0 = some x := atI_nat (j := 0) rfl
theorem at1 {α : Type} {x y : α} {r : List α} : atI (x :: y :: r) 1 = some y := atI_nat (j := 1) rfl
theorem at2 {α : Type} {x y z : α} {r : List α} : atI (x :: y :: z :: r) 2 = some z := atI_nat (j := 2) rfl
/-- a turn of a comprehension without a test -/
theorem yes {σ : L2.St} {H : Hp} {A B : Hp → Prop} (h : A H) : tYes σ H fun b H3 => if b = true then A H3 else B H3 := by
  show (fun b H3 => if b = true then A H3 else B H3) true H
  exact iteT h
/-! ### heaps -/
/-- all that was tracked but at b is as it was -/
def But (b : Addr) (H H' : Hp) : Prop := ∀ c o, c ≠ b → H c = some o → H' c = some o
theorem But.refl (b : Addr) (H : Hp) : But b H H := fun _ _ _ h => h
theorem But.trans {b : Addr} {H H1 H2 : Hp} (x : But b H H1) (y : But b H1 H2) : But b H H2 := fun c o n h => y c o n (x c o n h)
theorem But.of {b : Addr} {H H' : Hp} (e : Ex H H') : But b H H' := fun c o _ h => e c o h
theorem But.upd {b : Addr} {H H' : Hp} {o : HO} (e : But b H H') : But b H (upd H' b o) := fun c u n h => by
  rw [upd_ne n]
  exact e c u n h
/-- the tuples stay -/
def Tu (H H' : Hp) : Prop := ∀ c xs, H c = some (.tup xs) → H' c = some (.tup xs)
theorem Tu.refl (H : Hp) : Tu H H := fun _ _ h => h
theorem Tu.trans {H H1 H2 : Hp} (x : Tu H H1) (y : Tu H1 H2) : Tu H H2 := fun c xs h => y c xs (x c xs h)
theorem Tu.of {H H' : Hp} (e : Ex H H') : Tu H H' := fun c _ h => e c _ h
theorem But.tu {b : Addr} {xs : List V} {H H' : Hp} (e : But b H H') (hb : H b = some (.lst xs)) : Tu H H' := fun c ys h => e c _ (fun z => by
  rw [z, hb] at h
  cases h) h
end V


set_option Elab.async false
set_option linter.all false
set_option maxRecDepth 100000
set_option maxHeartbeats 4000000
namespace V
open PySem PySem.Spec PyProof.Rows L2 Evl
/-! ### max(numbers, default=d) -/
def rMaxDf (K : PySem.W.Frag) : List V → List V → Hp → VK → Prop := fun vs zs H Q => ∃ (a : Addr) (ns : List Int) (d : Int), vs = [V.ref a] ∧ zs = [V.int d] ∧ SqL K H a (ns.map V.int) ∧
  (ns = [] → Q (.int d) H) ∧ ∀ m, m ∈ ns → (∀ y, y ∈ ns → y ≤ m) → Q (.int m) H
theorem top_of : ∀ (xs : List Int) (x : Int), (xs.foldl (fun a y => if PySem.W.DatumOrd.lt a y = true then y else a) x) ∈ x :: xs ∧ ∀ y ∈ x :: xs, y ≤ xs.foldl (fun a y => if PySem.W.DatumOrd.lt a y = true then y else a) x
  | [], x => ⟨List.mem_cons_self .., fun y h => by
    rw [List.mem_singleton.mp h]
    exact Int.le_refl _⟩
  | z :: xs, x => by
    obtain ⟨h1, h2⟩ := top_of xs (if PySem.W.DatumOrd.lt x z = true then z else x)
    rw [List.foldl_cons]
    generalize List.foldl (fun a y => if PySem.W.DatumOrd.lt a y = true then y else a) (if PySem.W.DatumOrd.lt x z = true then z else x) xs = top at h1 h2 ⊢
    have lt_is : PySem.W.DatumOrd.lt x z = decide (x < z) := rfl
    have h3 := h2 _ (List.mem_cons_self ..)
    rw [lt_is] at h1 h3
    by_cases c : x < z
    · rw [if_pos (decide_eq_true c)] at h1 h3
      refine ⟨List.mem_cons_of_mem _ h1, fun y hy => ?_⟩
      rcases List.mem_cons.mp hy with rfl | hy
      · omega
      · rcases List.mem_cons.mp hy with rfl | hy
        · exact h3
        · exact h2 y (List.mem_cons_of_mem _ hy)
    · rw [if_neg (by rw [decide_eq_true_eq]; exact c)] at h1 h3
      refine ⟨?_, fun y hy => ?_⟩
      · rcases List.mem_cons.mp h1 with e | h1
        · rw [e]
          exact List.mem_cons_self ..
        · exact List.mem_cons_of_mem _ (List.mem_cons_of_mem _ h1)
      · rcases List.mem_cons.mp hy with rfl | hy
        · exact h3
        · rcases List.mem_cons.mp hy with rfl | hy
          · omega
          · exact h2 y (List.mem_cons_of_mem _ hy)
section
variable {X : Cx}
theorem cr_maxDf (hc : X.calm = true) (hu : X.A.units + 64 < cLine) : CallRK X (.builtin "max") ["default"] (rMaxDf X.K) := by
  intro pins s σ H vs zs us ws Q I r rz h
  obtain ⟨a, ns, d, rfl, rfl, hs, q0, q⟩ := h
  obtain ⟨its, rv, hl, _⟩ := I.list hs
  obtain ⟨u, rfl, t, rfl⟩ := vals1 rz
  rw [Vals.ref1 r]
  refine PySem.W.max_list_datum_default (xs := ns) (I.ok.hd hc) hl.isList (PySem.W.HoldAll.of_ints (by simpa using rv.ints)) (by show X.A.units + 1 + 0 < cLine; omega) (fun e h' tk hk => ?_) fun y ys i v h' tk e hi hh hk => ?_
  · exact ⟨.int d, H, I.kept hk, ⟨_, rfl⟩, q0 e⟩
  · have hv : ∃ t', v = .int (PySem.W.maxOf y ys) t' := by
      have ha : PySem.W.HoldAll h' [v] [PySem.W.maxOf y ys] := .cons hh .nil
      have hb := PySem.W.HoldAll.toInts ha
      cases hb with
      | cons n t _ => exact ⟨t, rfl⟩
    have hm := top_of ys y
    subst e
    exact ⟨.int (PySem.W.maxOf y ys), H, I.kept hk, hv, q _ hm.1 hm.2⟩
/-- .. as it's written: one argument, one keyword -/
theorem pe_maxDf {e : Expr} {es : List Expr} {kws : List Keyword} {t tk : TA} {p pos : Pos} (hc : X.calm = true) (hu : X.A.units + 64 < cLine) (hm : X.mg "max" = none) (ha : PA X (e :: es) t) (hk : PK X kws tk) (hg : Gl X "max" := by rfl)
    (h1 : backTo pos (starEach (e :: es) X.env) = (false, eval e X.env) :: backTo pos (starEach es X.env) := by rfl) (h2 : (backTo pos (starEach (e :: es) X.env)).any (·.1) = false := by rfl)
    (h3 : (backToKw pos (keywordEach kws X.env)).all (·.1.isSome) = true := by rfl) (h4 : (backToKw pos (keywordEach kws X.env)).any (·.1.isNone) = false := by rfl)
    (h5 : (backToKw pos (keywordEach kws X.env)).filterMap (·.1) = (["default"] : List Str) := by rfl) :
    PE X (.Call (.Name "max" p) (e :: es) kws pos) (tCKw (rMaxDf X.K) t tk) :=
  pe_callBK (cr_maxDf hc hu) hg hm (by decide +kernel) ha hk (by decide) (by decide) h1 h2 h3 h4 h5
end
end V


set_option Elab.async false
set_option linter.all false
set_option maxRecDepth 100000
set_option maxHeartbeats 4000000
namespace V
open PySem PySem.Spec PyProof.Rows L2 Evl
/-! ### terms -/
inductive Op where
  | add | less | times | under | cond
  deriving DecidableEq
def Op.str : Op → Str
  | .add => "add" | .less => "less" | .times => "times" | .under => "under" | .cond => "if"
def Op.ar : Op → Nat
  | .cond => 3
  | _ => 2
inductive Hd where
  | op (o : Op) | call (m : Str) | ring (p : Nat)
  deriving DecidableEq
inductive Tm where
  | num (n : Nat) | arg (k : Nat) | node (h : Hd) (ts : List Tm)
theorem Tm.ind {M : Tm → Prop} (h1 : ∀ n, M (.num n)) (h2 : ∀ k, M (.arg k)) (h3 : ∀ h ts, (∀ t ∈ ts, M t) → M (.node h ts)) : ∀ t, M t
  | .num n => h1 n
  | .arg k => h2 k
  | .node h ts => h3 h ts fun t ht => by
    have : sizeOf t < sizeOf (Tm.node h ts) := by
      have := List.sizeOf_lt_of_mem ht
      simp only [Tm.node.sizeOf_spec]
      omega
    exact Tm.ind h1 h2 h3 t
termination_by t => sizeOf t
def Tm.parts : Tm → List Tm
  | .node _ ts => ts
  | _ => []
mutual
def Tm.deep : Tm → Nat
  | .num _ => 1
  | .arg _ => 1
  | .node _ ts => 1 + Tm.deeps ts
def Tm.deeps : List Tm → Nat
  | [] => 0
  | t :: ts => max t.deep (Tm.deeps ts)
end
mutual
def Tm.size : Tm → Nat
  | .num _ => 1
  | .arg _ => 1
  | .node _ ts => 1 + Tm.sizes ts
def Tm.sizes : List Tm → Nat
  | [] => 0
  | t :: ts => t.size + Tm.sizes ts
end
mutual
/-- it and all in it, from left to right -/
def Tm.all : Tm → List Tm
  | .num n => [.num n]
  | .arg k => [.arg k]
  | .node h ts => .node h ts :: Tm.alls ts
def Tm.alls : List Tm → List Tm
  | [] => []
  | t :: ts => t.all ++ Tm.alls ts
end
/-- a mark: six figures or letters -/
def isMk (m : Str) : Prop := m.length = 6 ∧ ∀ c ∈ m.cps.toList, (48 ≤ c ∧ c ≤ 57) ∨ (97 ≤ c ∧ c ≤ 122)
def Hd.ok (M : Nat) : Hd → Nat → Prop
  | .op o, n => n = o.ar
  | .call m, n => isMk m ∧ n ≤ 4
  | .ring p, n => p ≤ M ∧ n ≤ 4
/-- as terms are, places to M -/
inductive Tm.Ok (M : Nat) : Tm → Prop where
  | num {n : Nat} : n ≤ 1000002 → Tm.Ok M (.num n)
  | arg {k : Nat} : k ≤ 3 → Tm.Ok M (.arg k)
  | node {h : Hd} {ts : List Tm} : h.ok M ts.length → (∀ t ∈ ts, Tm.Ok M t) → Tm.Ok M (.node h ts)
theorem Hd.ok.le {M : Nat} {h : Hd} {n : Nat} (k : h.ok M n) : n ≤ 4 := by
  cases h with
  | op o =>
    have e : n = o.ar := k
    rw [e]
    cases o <;> decide
  | call m => exact k.2
  | ring p => exact k.2
theorem deep_pos : ∀ t : Tm, 1 ≤ t.deep
  | .num _ => Nat.le_refl _
  | .arg _ => Nat.le_refl _
  | .node h ts => by
    show 1 ≤ 1 + Tm.deeps ts
    omega
theorem deep_le {t : Tm} {ts : List Tm} (h : t ∈ ts) : t.deep ≤ Tm.deeps ts := by
  induction ts with
  | nil => cases h
  | cons u us ih =>
    show t.deep ≤ max u.deep (Tm.deeps us)
    rcases List.mem_cons.mp h with rfl | h
    · omega
    · have := ih h
      omega
theorem all_len : ∀ t : Tm, t.all.length = t.size
  | .num _ => rfl
  | .arg _ => rfl
  | .node h ts => by
    have alls_len : ∀ us : List Tm, (∀ u ∈ us, u.all.length = u.size) → (Tm.alls us).length = Tm.sizes us := by
      intro us
      induction us with
      | nil => intro _; rfl
      | cons u us ih =>
        intro hu
        show (u.all ++ Tm.alls us).length = u.size + Tm.sizes us
        rw [List.length_append, hu u (List.mem_cons_self ..), ih fun v hv => hu v (List.mem_cons_of_mem _ hv)]
    show (Tm.alls ts).length + 1 = 1 + Tm.sizes ts
    rw [alls_len ts fun u hu => all_len u]
    omega
/-! ### terms as they lie -/
mutual
/-- v is the term t -/
inductive TmAt (H : Hp) : V → Tm → Prop where
  | num {a : Addr} {n : Nat} : H a = some (.tup [.str "num", .int (n : Int)]) → TmAt H (.ref a) (.num n)
  | arg {a : Addr} {k : Nat} : H a = some (.tup [.str "arg", .int (k : Int)]) → TmAt H (.ref a) (.arg k)
  | op {a : Addr} {o : Op} {vs : List V} {ts : List Tm} : H a = some (.tup (.str o.str :: vs)) → TmsAt H vs ts → TmAt H (.ref a) (.node (.op o) ts)
  | call {a p : Addr} {m : Str} {vs : List V} {ts : List Tm} : H a = some (.tup [.str "call", .str m, .ref p]) → H p = some (.tup vs) → TmsAt H vs ts → TmAt H (.ref a) (.node (.call m) ts)
  | ring {a p : Addr} {k : Nat} {vs : List V} {ts : List Tm} : H a = some (.tup [.str "ring", .int (k : Int), .ref p]) → H p = some (.tup vs) → TmsAt H vs ts → TmAt H (.ref a) (.node (.ring k) ts)
inductive TmsAt (H : Hp) : List V → List Tm → Prop where
  | nil : TmsAt H [] []
  | cons {v : V} {vs : List V} {t : Tm} {ts : List Tm} : TmAt H v t → TmsAt H vs ts → TmsAt H (v :: vs) (t :: ts)
end
mutual
theorem TmAt.tu {H H' : Hp} (e : Tu H H') : ∀ {v : V} {t : Tm}, TmAt H v t → TmAt H' v t
  | _, _, .num h => .num (e _ _ h)
  | _, _, .arg h => .arg (e _ _ h)
  | _, _, .op h hs => .op (e _ _ h) (hs.tu e)
  | _, _, .call h hp hs => .call (e _ _ h) (e _ _ hp) (hs.tu e)
  | _, _, .ring h hp hs => .ring (e _ _ h) (e _ _ hp) (hs.tu e)
theorem TmsAt.tu {H H' : Hp} (e : Tu H H') : ∀ {vs : List V} {ts : List Tm}, TmsAt H vs ts → TmsAt H' vs ts
  | _, _, .nil => .nil
  | _, _, .cons h hs => .cons (h.tu e) (hs.tu e)
end
theorem TmAt.ex {H H' : Hp} {v : V} {t : Tm} (h : TmAt H v t) (e : Ex H H') : TmAt H' v t := h.tu (Tu.of e)
theorem TmsAt.ex {H H' : Hp} {vs : List V} {ts : List Tm} (h : TmsAt H vs ts) (e : Ex H H') : TmsAt H' vs ts := h.tu (Tu.of e)
theorem TmsAt.length {H : Hp} : ∀ {vs : List V} {ts : List Tm}, TmsAt H vs ts → vs.length = ts.length
  | _, _, .nil => rfl
  | _, _, .cons _ hs => by rw [List.length_cons, List.length_cons, hs.length]
theorem TmsAt.get {H : Hp} : ∀ {vs : List V} {ts : List Tm}, TmsAt H vs ts → ∀ {i : Nat} {v : V}, vs[i]? = some v → ∃ t, ts[i]? = some t ∧ TmAt H v t
  | _, _, .nil, i, v, e => by simp at e
  | _, _, .cons h hs, 0, v, e => by
    cases Option.some.inj e
    exact ⟨_, rfl, h⟩
  | _, _, .cons h hs, i + 1, v, e => hs.get (i := i) (v := v) e
theorem TmsAt.append {H : Hp} : ∀ {vs ws : List V} {ts us : List Tm}, TmsAt H vs ts → TmsAt H ws us → TmsAt H (vs ++ ws) (ts ++ us)
  | _, _, _, _, .nil, q => q
  | _, _, _, _, .cons h hs, q => .cons h (hs.append q)
theorem TmsAt.take {H : Hp} : ∀ {vs : List V} {ts : List Tm} (n : Nat), TmsAt H vs ts → TmsAt H (vs.take n) (ts.take n)
  | _, _, 0, _ => .nil
  | _, _, _ + 1, .nil => .nil
  | _, _, n + 1, .cons h hs => .cons h (hs.take n)
theorem TmsAt.drop {H : Hp} : ∀ {vs : List V} {ts : List Tm} (n : Nat), TmsAt H vs ts → TmsAt H (vs.drop n) (ts.drop n)
  | _, _, 0, h => h
  | _, _, _ + 1, .nil => .nil
  | _, _, n + 1, .cons _ hs => hs.drop n
/-! ### the words of operations -/
def opWords : List Str := ["add", "less", "times", "under", "if"]
theorem dic_at {K : PySem.W.Frag} {a : Addr} {ls : List (Option (Str × Int))} (h : He.dicW K a = some ls) :
    ∃ oc od es n sl, K.lookup a = some ⟨oc, od, .dict es n, sl⟩ ∧ es.toList.map He.keyOf = ls := by
  unfold He.dicW at h
  split at h
  · rename_i c es n sl q
    split at h
    · exact ⟨_, _, es, n, sl, q, Option.some.inj h⟩
    · cases h
  · cases h
theorem find_key {P : Params} {z : Str} : ∀ {l : List DictEntry} {ks : List Str}, l.map He.keyOf = He.keysIn P ks →
    (l.find? (·.key.isStr z)).isSome = decide (z ∈ ks) ∧ l.any (·.refKey) = false
  | [], [], _ => ⟨rfl, rfl⟩
  | [], _ :: _, e => by cases e
  | _ :: _, [], e => by cases e
  | e :: l, k :: ks, h => by
    have h1 : He.keyOf e :: l.map He.keyOf = some (k, PyData.keyHash P k) :: He.keysIn P ks := h
    injection h1 with h2 h3
    obtain ⟨i1, i2⟩ := find_key (z := z) h3
    have hk : ∃ t, e.key = .str k t := by
      unfold He.keyOf at h2
      split at h2
      · rename_i x t q
        have := (Prod.mk.inj (Option.some.inj h2)).1
        exact ⟨t, by rw [q, this]⟩
      · cases h2
    obtain ⟨t, hk⟩ := hk
    have hs : e.key.isStr z = decide (k = z) := by
      rw [hk]
      first
        | rfl
        | (simp only [Value.isStr]; rw [Bool.eq_iff_iff]; simp)
    refine ⟨?_, ?_⟩
    · rw [List.find?_cons, hs]
      by_cases c : k = z
      · subst c
        simp
      · have c' : ¬ z = k := fun x => c x.symm
        rw [decide_eq_false c]
        simp only [List.mem_cons, c', false_or]
        exact i1
    · rw [List.any_cons, i2, Bool.or_false]
      unfold DictEntry.refKey
      rw [hk] <;> rfl
theorem isSome_mem {K : PySem.W.Frag} {P : Params} {a : Addr} {ks : List Str} (h : He.dicW K a = some (He.keysIn P ks)) (z : Str) : ∃ r, PySem.W.nsIn K a z = some r ∧ r.isSome = decide (z ∈ ks) := by
  obtain ⟨oc, od, es, n, sl, q, e⟩ := dic_at h
  obtain ⟨f1, f2⟩ := find_key (z := z) e
  unfold PySem.W.nsIn
  rw [q]
  dsimp only
  cases g : es.toList.find? (·.key.isStr z) with
  | some d =>
    rw [g] at f1
    exact ⟨some d.val, rfl, f1⟩
  | none =>
    rw [g] at f1
    rw [f2]
    exact ⟨none, rfl, f1⟩
/-- the table of operations, as the module has it -/
structure Ops (K : PySem.W.Frag) (w : World) (mg : Str → Option Value) : Prop where
  ex : ∃ (d : Addr) (es : Array DictEntry) (n : Nat), mg "OPERATIONS" = some (.ref d) ∧ KDict K w d es n ∧ (∀ z : Str, ∃ r, PySem.W.nsIn K d z = some r ∧ r.isSome = decide (z ∈ opWords)) ∧
    ∀ o : Op, ∃ u, PySem.W.nsIn K d o.str = some (some u) ∧ RelV (.int (o.ar : Int)) u
/-- the module's name x is a tuple, without a __dict__ -/
def tupN (K : PySem.W.Frag) (x : Str) : Bool := match K.lookup (He.ga K x) with
  | some ⟨.type c, none, _, _⟩ => decide (c = "tuple")
  | _ => false
theorem tupN_ok {K : PySem.W.Frag} {x : Str} (h : tupN K x = true) : ∃ o, K.lookup (He.ga K x) = some o ∧ o.cls = .type "tuple" ∧ o.dict = none := by
  unfold tupN at h
  cases q : K.lookup (He.ga K x) with
  | none =>
    rw [q] at h
    cases h
  | some o =>
    obtain ⟨oc, od, dt, osl⟩ := o
    rw [q] at h
    cases oc with
    | type c =>
      cases od with
      | none => exact ⟨_, rfl, congrArg Value.type (of_decide_eq_true h), rfl⟩
      | some a => cases h
    | _ => cases od <;> cases h
end V


set_option Elab.async false
set_option linter.all false
set_option maxRecDepth 100000
set_option maxHeartbeats 4000000
/-! sets of texts: made, added to, by a comprehension, sorted -/
namespace VS
open PySem PySem.Spec PyProof.Rows L2 Evl
/-- the text of a member -/
def txO (m : Int × Value) : Str := match m.2 with
  | .str x _ => x
  | _ => Str.empty
def MemS (w : World) (m : Int × Value) : Prop := ∃ x t, m.2 = Value.str x t ∧ m.1 = hashStr w x
/-- a set of texts lies at a: S its members, n how many; its table rises, it can be walked -/
def SetS (w : World) (h : Heap) (a : Addr) (S : Str → Bool) (n : Nat) : Prop :=
  ∃ ob ms ep tb, h.get? a = some ob ∧ ob.ExactSet ∧ ob.data = .set ms ep tb ∧ (∀ m ∈ ms.toList, MemS w m) ∧ (ms.toList.map txO).Nodup ∧
    (∀ x, S x = true ↔ x ∈ ms.toList.map txO) ∧ ms.size < scanBound ∧ tb.fits ms.size = true ∧ ms.size = n ∧ Ris tb.place.toList ∧ (w.params.followText "set-order" = true ∨ tb.led = true)
section
variable {P : Program} {w : World} {h h' : Heap} {a : Addr} {S : Str → Bool} {n : Nat}
theorem SetS.keep (R : SetS w h a S n) (k : ∀ o, h.get? a = some o → h'.get? a = some o) : SetS w h' a S n := by
  obtain ⟨ob, ms, ep, tb, g, rest⟩ := R
  exact ⟨ob, ms, ep, tb, k ob g, rest⟩
theorem MemS.is {m : Int × Value} (g : MemS w m) (x : Str) : (PySem.strKind P w).is x m.2 = true ↔ txO m = x := by
  obtain ⟨y, t, e, _⟩ := g
  unfold txO
  rw [e]
  show (y == x) = true ↔ y = x
  exact beq_iff_eq
theorem elems_S {l : List (Int × Value)} (g : ∀ m ∈ l, MemS w m) : ElemsOf (PySem.strKind P w) l := fun m hm => by
  obtain ⟨y, t, e, eh⟩ := g m hm
  refine ⟨⟨y, ?_, eh⟩, ?_⟩
  · rw [e]
    exact PySem.strKind_is _ _ _ _
  · rw [e] <;> rfl
theorem in_S {l : List (Int × Value)} (g : ∀ m ∈ l, MemS w m) (x : Str) : x ∈ l.map txO ↔ ∃ m ∈ l, (PySem.strKind P w).is x m.2 = true := by
  rw [List.mem_map]
  exact ⟨fun ⟨m, hm, q⟩ => ⟨m, hm, ((g m hm).is x).2 q⟩, fun ⟨m, hm, q⟩ => ⟨m, hm, ((g m hm).is x).1 q⟩⟩
theorem SetS.of (R : SetS w h a S n) : h.SetOf (PySem.strKind P w) a S n := by
  obtain ⟨ob, ms, ep, tb, g, gx, gd, gm, _, gS, gb, gf, gn, _⟩ := R
  exact ⟨ob, ms, ep, tb, g, gx, gd, elems_S gm, fun x => (gS x).trans (in_S gm x), gb, gf, gn⟩
end
section
variable {P : Program} {w : World} {A : Around} {E : Value → Shared → Prop} {s : Shared} {a : Addr} {S : Str → Bool} {n : Nat}
theorem tail_S {gv : Bool → Sem Unit} (hgv : ∀ (b : Bool) (s₁ : Shared) (Q' : Unit → Shared → Prop), Q' () s₁ → wpAny (model P w) A (gv b) Q' E s₁)
    {ob : Obj} {ms : Array (Int × Value)} {ep : Nat} {tb : SetTable} (g : s.heap.get? a = some ob) (gx : ob.ExactSet) (gd : ob.data = .set ms ep tb)
    {ms1 : Array (Int × Value)} {tb2 : SetTable} {S' : Str → Bool} (q1 : ∀ m ∈ ms1.toList, MemS w m) (q2 : (ms1.toList.map txO).Nodup) (q3 : ∀ x, S' x = true ↔ x ∈ ms1.toList.map txO)
    (q4 : ms1.size < scanBound) (q5 : tb2.fits ms1.size = true) (q6 : Ris tb2.place.toList) (q7 : w.params.followText "set-order" = true ∨ tb2.led = true) {dmy : Bool} {R : Option Bool → Shared → Prop}
    (fin : ∀ h', Heap.SameBut a s.heap h' → SetS w h' a S' ms1.size → R (some true) { s with heap := h' }) :
    wpAny (model P w) A (do
        storeSet a ms1 tb2
        if (!dmy && tb2.tooFull) = true then do
            gv (relayAll tb2 ms1 (SetTable.grown ms1.size)).2.2
            storeSet a (relayAll tb2 ms1 (SetTable.grown ms1.size)).1 (relayAll tb2 ms1 (SetTable.grown ms1.size)).2.1
            pure (some true)
          else pure (some true)) R E s := by
  refine wpAny_bind (wpAny_storeSet_of g gd ?_ (fits_of_scanBound q4))
  have g1 := PpSet.storeB_at (es' := ms1) (t' := tb2) g gd
  have sb1 := Heap.SameBut.update s.heap a (Obj.putSet ms1 tb2)
  split
  · have p1 := relayAll_perm tb2 ms1 (SetTable.grown ms1.size)
    have p2 := relayAll_fits tb2 ms1 (SetTable.grown ms1.size)
    have p3 := relayAll_ris tb2 ms1 (SetTable.grown ms1.size)
    have p4 := relayAll_led tb2 ms1 (SetTable.grown ms1.size)
    generalize relayAll tb2 ms1 (SetTable.grown ms1.size) = Z at p1 p2 p3 p4 ⊢
    obtain ⟨ms2, tb3, gave⟩ := Z
    dsimp only at p1 p2 p3 p4 ⊢
    have z : ms2.size = ms1.size := by rw [← Array.length_toList, p1.length_eq, Array.length_toList]
    have b2 : ms2.size < scanBound := by rw [z]; exact q4
    refine wpAny_bind (hgv _ _ _ (wpAny_bind (wpAny_storeSet_of g1 rfl ?_ (fits_of_scanBound b2))))
    have g2 := PpSet.storeB_at (es' := ms2) (t' := tb3) g1 rfl
    exact wpAny_pure (fin _ (sb1.trans (Heap.SameBut.update _ a _)) ⟨_, ms2, _, tb3, g2, gx, rfl, fun m hm => q1 m (p1.mem_iff.mp hm), (p1.map txO).nodup_iff.mpr q2, fun x => (q3 x).trans (p1.map txO).mem_iff.symm, b2, p2, z, p3,
      q7.imp id fun y => by rw [p4]; exact y⟩)
  · exact wpAny_pure (fin _ sb1 ⟨_, ms1, _, tb2, g1, gx, rfl, q1, q2, q3, q4, q5, rfl, q6, q7⟩)
theorem addHashed_S {x : Str} {tk : Tok} {Q : Bool → Shared → Prop} (R : SetS w s.heap a S n) (room : n + 1 < scanBound)
    (hQ : ∀ h', Heap.SameBut a s.heap h' → SetS w h' a (fun y => S y || decide (y = x)) (if S x = true then n else n + 1) → Q (!S x) { s with heap := h' }) :
    wpAny (model P w) A (setAddHashed a (.str x tk) ((PySem.strKind P w).hash x)) Q E s := by
  obtain ⟨ob, ms, ep, tb, g, gx, gd, gm, gN, gS, gb, gf, gn, gR, gL⟩ := R
  have key : (PySem.strKind P w).is x (.str x tk) = true := PySem.strKind_is _ _ _ _
  have sc : (Value.str x tk).scannable = true := rfl
  have el : ElemsOf (PySem.strKind P w) ms.toList := elems_S gm
  unfold setAddHashed setAddHashedIn
  refine wpAny_holding (wpAny_bind (wpAny_setState_of g gd gf ?_))
  dsimp only
  rw [byScan_of sc gb el]
  simp only [↓reduceIte]
  unfold setAddByScan
  refine wpAny_bind (wpAny_bind (wpAny_rule (wpAny_bind (wpAny_setScan_of key g gd gf el ?_))))
  cases fi : List.findIdx? (fun m => (PySem.strKind P w).is x m.2) ms.toList with
  | some j =>
    dsimp only
    obtain ⟨j1, j2, _⟩ := List.findIdx?_eq_some_iff_getElem.mp fi
    have yes : S x = true := (gS x).2 ((in_S (P := P) gm x).2 ⟨ms.toList[j], List.getElem_mem j1, j2⟩)
    refine wpAny_pure (wpAny_pure ?_)
    have q := hQ s.heap (Heap.SameBut.refl a s.heap) ⟨ob, ms, ep, tb, g, gx, gd, gm, gN, fun y => by
      rw [Bool.or_eq_true, decide_eq_true_eq, ← gS y]
      exact ⟨fun z => z.elim id (fun e => e ▸ yes), .inl⟩, gb, gf, by rw [if_pos yes]; exact gn, gR, gL⟩
    rw [yes] at q
    exact q
  | none =>
    dsimp only
    have nx : x ∉ ms.toList.map txO := fun z => by
      obtain ⟨m, hm, q⟩ := (in_S (P := P) gm x).1 z
      have c := List.findIdx?_eq_none_iff.mp fi m hm
      rw [q] at c
      cases c
    have no : S x = false := by
      cases q : S x with
      | false => rfl
      | true => exact absurd ((gS x).1 q) nx
    have gw : ∀ (b : Bool) {s₁ : Shared} {Q' : Unit → Shared → Prop}, Q' () s₁ → wpAny (model P w) A (match b with | true => rule "set.scan.the-table-gave-way" | false => pure ()) Q' E s₁ :=
      fun b s₁ Q' q => by cases b <;> first | exact wpAny_pure q | exact wpAny_rule q
    have p1 := layNew_perm tb ms ((PySem.strKind P w).hash x) (.str x tk)
    have p2 := layNew_fits tb ms ((PySem.strKind P w).hash x) (.str x tk)
    have p3 := layNew_ris tb ms ((PySem.strKind P w).hash x) (.str x tk) gR
    have p4 := layNew_led tb ms ((PySem.strKind P w).hash x) (.str x tk)
    generalize layNew tb ms ((PySem.strKind P w).hash x) (.str x tk) = Z at p1 p2 p3 p4 ⊢
    obtain ⟨ms1, tb1, dmy, gave⟩ := Z
    dsimp only at p1 p2 p3 p4 ⊢
    rw [Array.toList_push] at p1
    have pc : ms1.toList.Perm (((PySem.strKind P w).hash x, Value.str x tk) :: ms.toList) := p1.trans (List.perm_append_singleton _ _)
    have pk : (ms1.toList.map txO).Perm (x :: ms.toList.map txO) := pc.map txO
    have q1 : ∀ m ∈ ms1.toList, MemS w m := fun m hm => by
      rcases List.mem_cons.mp (pc.mem_iff.mp hm) with z | z
      · rw [z]
        exact ⟨x, tk, rfl, rfl⟩
      · exact gm m z
    have q2 : (ms1.toList.map txO).Nodup := pk.nodup_iff.mpr (List.nodup_cons.mpr ⟨nx, gN⟩)
    have q3 : ∀ y, (S y || decide (y = x)) = true ↔ y ∈ ms1.toList.map txO := fun y => by
      rw [Bool.or_eq_true, decide_eq_true_eq, gS y, pk.mem_iff, List.mem_cons]
      exact Or.comm
    have z1 : ms1.size = n + 1 := by rw [← Array.length_toList, pc.length_eq, List.length_cons, Array.length_toList, gn]
    have q4 : ms1.size < scanBound := by rw [z1]; exact room
    have q7 : w.params.followText "set-order" = true ∨ tb1.led = true := gL.imp id fun z => by rw [p4]; exact z
    have fin : ∀ h', Heap.SameBut a s.heap h' → SetS w h' a (fun y => S y || decide (y = x)) ms1.size → Q true { s with heap := h' } := fun h' sb r => by
      have q := hQ h' sb
      rw [no] at q
      rw [z1] at r
      exact q r
    refine wpAny_bind (gw _ ?_)
    split
    · refine wpAny_bind ?_
      rw [hashByValue_scannable 8 sc]
      refine wpAny_pure ?_
      refine tail_S (fun b s₁ Q' q => by cases b <;> first | exact wpAny_pure q | exact wpAny_rule q) g gx gd q1 q2 q3 q4 ?_ ?_ ?_ fun h' sb r => by dsimp only; exact wpAny_pure (fin h' sb r)
      · first | (split <;> first | exact p2 | exact SetTable.fits_plain_off p2) | exact p2
      · first | (split <;> exact p3) | exact p3
      · first | (split <;> exact q7) | exact q7
    · refine wpAny_bind (wpAny_pure ?_)
      simp only [↓reduceIte]
      exact tail_S (fun b s₁ Q' q => by cases b <;> first | exact wpAny_pure q | exact wpAny_rule q) g gx gd q1 q2 q3 q4 p2 p3 q7 fun h' sb r => by dsimp only; exact wpAny_pure (fin h' sb r)
theorem add_S {x : Str} {tk : Tok} {Q : Value → Shared → Prop} (R : SetS w s.heap a S n) (room : n + 1 < scanBound)
    (hQ : ∀ h', Heap.SameBut a s.heap h' → SetS w h' a (fun y => S y || decide (y = x)) (if S x = true then n else n + 1) → Q .none { s with heap := h', toks := s.toks + 1 }) :
    wpAny (model P w) A (call (.builtin "set.add") [.ref a, .str x tk]) Q E s := by
  have hS : s.heap.SetOf (PySem.strKind P w) a S n := R.of
  refine wpAny_call_entry F.slot_set_add hS.typeIs F.entry_set_add ?_ (F.args_set_add_2 _ _)
  unfold Builtin.«set.add» Builtin.Frozenset.oneOther
  simp only [List.isEmpty_nil, bind_assoc]
  unfold Builtin.Frozenset.addrOf setAdd
  refine wpAny_bind (wpAny_pure ?_)
  try dsimp only
  refine wpAny_bind (wpAny_pure ?_)
  try dsimp only
  refine wpAny_bind (wpAny_holding (wpAny_bind ((PySem.strKind P w).pyHash (PySem.strKind_is _ _ _ _) ?_)))
  refine addHashed_S (s := { s with toks := s.toks + 1 }) R room fun h' sb r => ?_
  show wpAny _ _ (ret Value.none) _ _ _
  exact wpAny_pure ⟨_, rfl, hQ h' sb r⟩
theorem fresh_S {h : Heap} (w : World) : SetS w (h.push { cls := .type "set", dict := none, data := .set #[] 0 (.fresh 0 0 (!w.params.followText "set-order")) }) h.objs.size (fun _ => false) 0 :=
  ⟨_, #[], 0, _, Heap.get?_push_size _ rfl, ⟨rfl, rfl, rfl⟩, rfl, (fun m hm => by simp at hm), (by simp), (fun x => by simp), (by decide), (by rfl), rfl, List.Pairwise.nil, by
    show _ ∨ (!w.params.followText "set-order") = true
    cases w.params.followText "set-order"
    · exact .inr rfl
    · exact .inl rfl⟩
end
end VS


set_option Elab.async false
set_option linter.all false
set_option maxRecDepth 100000
set_option maxHeartbeats 4000000
namespace VS
open PySem PySem.Spec PyProof.Rows L2 Evl
/-- .. as a tracked thing -/
def SetSO (w : World) (a : Addr) (S : Str → Bool) (n : Nat) : HO := .ext fun h => SetS w h a S n
theorem SetSO.mk {w : World} {P : Program} {H : Hp} {h : Heap} {a : Addr} {S : Str → Bool} {n : Nat} (R : SetS w h a S n) : ObjOk P w H h a (SetSO w a S n) := by
  have ⟨ob, _, _, _, g, _⟩ := R
  exact ⟨R, ⟨ob, g⟩, fun h1 h2 p k => SetS.keep p k⟩
section
variable {X : Cx}
theorem SetSO.get {pins : List (Addr × Obj)} {σ : L2.St} {H : Hp} {s : Shared} {a : Addr} {S : Str → Bool} {n : Nat} (I : Inv X pins σ H s) (ha : H a = some (SetSO X.w a S n)) : SetS X.w s.heap a S n := (I.hok a _ ha).1
theorem add_inv {pins : List (Addr × Obj)} {σ : L2.St} {H : Hp} {s : Shared} {E : Value → Shared → Prop} {D : Addr} {S : Str → Bool} {n : Nat} {x : Str} {tk : Tok} {Q : Value → Shared → Prop} (I : Inv X pins σ H s) (hD : H D = some (SetSO X.w D S n)) (room : n + 1 < scanBound)
    (h : ∀ s', Inv X pins σ (upd H D (SetSO X.w D (fun y => S y || decide (y = x)) (if S x = true then n else n + 1))) s' → Q .none s') : wpAny (model X.prog X.w) X.A (call (.builtin "set.add") [.ref D, .str x tk]) Q E s := by
  refine add_S (SetSO.get I hD) room fun h' sb new => ?_
  have there : ∃ u, h'.get? D = some u := by
    have ⟨ob, _, _, _, g, _⟩ := new
    exact ⟨ob, g⟩
  exact h _ (I.write (e := D) (t' := s.toks + 1) (by rw [hD]; trivial) (.inl rfl) (fun b u hb hu => (sb.2 b hb).trans hu) there (SetSO.mk new))
/-- {elt for target in iter if ..}, elt a text; D: where the new set lies -/
def tScS (w : World) (wi : TI) (g : TG) (tt : TT) (te : TE) (vs : List Nat) : TE := fun σ H Q => wi σ H fun J H1 => ∀ D, H1 D = none → ∃ W : Nat → Nat → Hp → Prop,
  (∃ m, W 0 m (upd H1 D (SetSO w D (fun _ => false) 0))) ∧ ∀ i m H, W i m H → (J.stop i H ∧ Q (.ref D) H) ∨ (J.go i H ∧ ∃ Nx : Hp → Prop, (∀ H', Nx H' → ∃ m', m' < m ∧ W (i + 1) m' H') ∧
    ∀ x H', J.yld i H x H' → g x (wipe σ vs) H' fun σ2 H2 => wipe σ2 vs = wipe σ vs ∧ tt σ2 H2 fun b H3 => if b = true then te σ2 H3 fun y H4 => ∃ (c : Str) (S : Str → Bool) (n : Nat), y = .str c ∧
      H4 D = some (SetSO w D S n) ∧ n + 1 < scanBound ∧ Nx (upd H4 D (SetSO w D (fun z => S z || decide (z = c)) (if S c = true then n else n + 1))) else Nx H3)
theorem run_scS {pins : List (Addr × Obj)} {s : Shared} {σ : L2.St} {H : Hp} {Q : VK} {elt tg iter : Expr} {ifs : List Expr} {scope : Scope} {own : List (PySem.Str × Nat)} {pos pos' : Pos} {wi : TI} {g : TG} {tt : TT} {te : TE}
    {use : Option (Value → Sem Unit)} {Qf : Value → Shared → Prop} (hc : X.calm = true) (hN : X.N.Nodup) (I : Inv X pins σ H s) (hi : PI X tg iter wi) (ok : BlkOk X.N X.env.scope scope own)
    (hg : ∀ (s : Shared) (H : Hp) (C : Addr) (cl : List (PySem.Str × Addr)) (fp : List Addr), PG (X.blk s H scope (compEnvC scope cl C X.env) fp) tg g)
    (ht : ∀ (s : Shared) (H : Hp) (C : Addr) (cl : List (PySem.Str × Addr)) (fp : List Addr), PTs (X.blk s H scope (compEnvC scope cl C X.env) fp) ifs tt)
    (he : ∀ (s : Shared) (H : Hp) (C : Addr) (cl : List (PySem.Str × Addr)) (fp : List Addr), PE (X.blk s H scope (compEnvC scope cl C X.env) fp) elt te)
    (hs : ∀ x, foldedSetIterable iter X.env x = pure x) (h : tScS X.w wi g tt te (own.map (·.2)) σ H Q)
    (fin : ∀ D C s' m H', Inv X pins σ H' s' → Q (.ref D) H' → s'.heap.Ns C m → FpOk X pins H' C → compPost (model X.prog X.w) X.A X.xe use Qf (.ref D) C (.ok .next) s') :
    wpAny (model X.prog X.w) X.A (comprehension (.SetComp elt [⟨tg, iter, ifs, 0⟩] scope pos) scope X.env pos' (newSet (.type "set")) false (eval iter X.env) use) Qf X.xe s := by
  have free : ∀ y ∈ scope.names, y.2 = .free → ∃ c, X.env.cells.lookup y.1 = some c := fun y hy e => by
    rcases ok.free y hy e with k | k
    · exact I.ok.has _ (.inl k)
    · exact I.ok.has _ (.inr k)
  refine wpAny_comprehension_free (use := use) rfl hs (closure_ok free) ok.kind (fun y hy e => by rw [ok.uniq y hy, e]) (thn (hi.run pins s σ H _ I h) fun xv s1 hx => thn hx fun itv s2 h2 => ?_)
  obtain ⟨it, fp, tn, J, H2, e, I2, T, st2, f2, q⟩ := h2
  subst e
  refine PpSet.newSet_ok (newEnv_comp ?_)
  generalize hD : s2.heap.objs.size = D
  have nD : H2 D = none := I2.hok.fresh (Nat.le_of_eq hD)
  obtain ⟨W, ⟨m0, w0⟩, turn⟩ := q D nD
  generalize hs3 : ({ s2 with heap := s2.heap.push { cls := .type "set", dict := none, data := .set #[] 0 (.fresh 0 0 (!X.w.params.followText "set-order")) } } : Shared) = s3
  have I3 : Inv X pins σ (upd H2 D (SetSO X.w D (fun _ => false) 0)) s3 := by
    rw [← hs3]
    refine I2.laid (t' := s2.toks) (fun b o e => Heap.get?_push_of_some _ e) (Nat.le_of_eq hD) ?_
    rw [← hD]
    exact SetSO.mk (fresh_S X.w)
  have h3 : s3.heap = s2.heap.push { cls := .type "set", dict := none, data := .set #[] 0 (.fresh 0 0 (!X.w.params.followText "set-order")) } := by rw [← hs3]
  have lt : ∀ b ∈ fp, b < s2.heap.objs.size := fun b hb => by
    obtain ⟨o, e, _⟩ := T.obj _ _ st2 b hb
    exact Heap.lt_size e
  have f3 : ∀ b ∈ fp, FpOk X pins (upd H2 D (SetSO X.w D (fun _ => false) 0)) b ∧ b < s3.heap.objs.size := fun b hb => by
    have l := lt b hb
    refine ⟨⟨?_, (f2 b hb).2⟩, by rw [h3, Heap.size_push]; exact Nat.lt_succ_of_lt l⟩
    rw [upd_ne (by rw [← hD]; exact Nat.ne_of_lt l)]
    exact (f2 b hb).1
  have st3 : tn 0 s3.heap := T.keep _ _ _ st2 fun b _ o e => by rw [h3]; exact Heap.get?_push_of_some _ e
  have I4 := block_start I3 ok hN f3
  have pg := hg s3 (upd H2 D (SetSO X.w D (fun _ => false) 0)) s3.heap.objs.size (cellsFrom (s3.heap.objs.size + 1) scope.names (cloFrom X.env.cells scope.names [])) fp
  have pt := ht s3 (upd H2 D (SetSO X.w D (fun _ => false) 0)) s3.heap.objs.size (cellsFrom (s3.heap.objs.size + 1) scope.names (cloFrom X.env.cells scope.names [])) fp
  have pe := he s3 (upd H2 D (SetSO X.w D (fun _ => false) 0)) s3.heap.objs.size (cellsFrom (s3.heap.objs.size + 1) scope.names (cloFrom X.env.cells scope.names [])) fp
  show codeAny _ _ (.compStart (.SetComp elt [⟨tg, iter, ifs, 0⟩] scope pos) 0 (.ref it) (.ref D) (compEnvC scope (cellsFrom (s3.heap.objs.size + 1) scope.names (cloFrom X.env.cells scope.names [])) s3.heap.objs.size X.env))
    (compPost (model X.prog X.w) X.A X.xe use Qf (.ref D) s3.heap.objs.size) { s3 with heap := pushCells (s3.heap.push { cls := .type "dict", data := .dict #[] }) scope.names }
  have nfp : ∀ b ∈ fp, (upd H2 D (SetSO X.w D (fun _ => false) 0)) b = none := fun b hb => (f3 b hb).1.1
  generalize hce : compEnvC scope (cellsFrom (s3.heap.objs.size + 1) scope.names (cloFrom X.env.cells scope.names [])) s3.heap.objs.size X.env = ce at I4 pg pt pe ⊢
  have cL : ce.locals = s3.heap.objs.size := by subst hce; rfl
  generalize hH3 : upd H2 D (SetSO X.w D (fun _ => false) 0) = H3 at I3 I4 pg pt pe w0 nfp f3
  generalize hs4 : ({ s3 with heap := pushCells (s3.heap.push { cls := .type "dict", data := .dict #[] }) scope.names } : Shared) = s4 at I4 ⊢
  have st4 : tn 0 s4.heap := T.keep _ _ _ st3 fun b _ o e => by rw [← hs4]; exact pushCells_keeps _ _ _ _ (Heap.get?_push_of_some _ e)
  have stat : ∀ {σ' : L2.St} {H' : Hp} {s' : Shared}, Inv (X.blk s3 H3 scope ce fp) [] σ' H' s' → (∀ b ∈ fp, H' b = none) → ∀ b ∈ fp, FpOk (X.blk s3 H3 scope ce fp) [] H' b := fun {σ' H' s'} J hn b hb =>
    ⟨hn b hb, (J.ok.exf b hb).1, J.ok.exfs b hb, .inl hb, fun x c e => (J.ok.exf b hb).2 x c e, fun p hp => absurd (show p ∈ ([] : List (Addr × Obj)) ++ [] from hp) (by simp)⟩
  have loop : codeAny (model X.prog X.w) X.A (.compLoop (.SetComp elt [⟨tg, iter, ifs, 0⟩] scope pos) 0 (.ref it) (.ref D) ce) (compPost (model X.prog X.w) X.A X.xe use Qf (.ref D) s3.heap.objs.size) s4 := by
    refine PpSet.compLoopS_any (fun n s' => ∃ i H', Inv (X.blk s3 H3 scope ce fp) [] (wipe σ (own.map (·.2))) H' s' ∧ tn i s'.heap ∧ (∀ b ∈ fp, H' b = none) ∧ W i n H') ?_ m0 ⟨0, H3, I4, st4, nfp, w0⟩
    rintro n s5 ⟨i, H5, I5, st5, n5, w5⟩
    rcases turn i n H5 w5 with ⟨stop, qq⟩ | ⟨go, Nx, hNx, step⟩
    · refine thnF (T.done (X.blk s3 H3 scope ce fp) rfl rfl rfl hc i [] s5 _ H5 (fun _ _ => False) I5 (stat I5 n5) st5 stop) fun r s6 ⟨hr, I6⟩ => ?_
      subst hr
      have I7 : Inv X pins σ H5 s6 := I3.call' (ch := fp) I6.os I6.base I6.hok I6.bare fun b hb => ⟨(f3 b hb).1.2.2.2.1, (f3 b hb).1.2.1, (f3 b hb).1.2.2.2.2.1, (f3 b hb).1.2.2.2.2.2⟩
      have nC : H5 s3.heap.objs.size = none := by
        have z : H5 ce.locals = none := I6.free
        rw [cL] at z
        exact z
      obtain ⟨m, hn, _⟩ := I6.loc
      have hn : s6.heap.Ns ce.locals m := hn
      rw [cL] at hn
      exact fin D s3.heap.objs.size s6 m H5 I7 qq hn (I3.fpOk (Nat.le_refl _) nC)
    · refine thnF (T.item (X.blk s3 H3 scope ce fp) rfl rfl rfl hc i [] s5 _ H5 (fun _ _ => False) I5 (stat I5 n5) st5 go) fun r s6 ⟨u, hr, h6⟩ => ?_
      subst hr
      refine thnF h6 fun _ s7 ⟨x, H7, I7, r7, y7, st7, n7⟩ => ?_
      refine thnF (pg.run _ s7 _ H7 x u _ (I7.pinned (stat I7 n7) (T.obj _ _ st7)) r7 (step x H7 y7)) fun _ s8 ⟨σ8, H8, I8, hw8, q8⟩ => ?_
      refine thnF (pt.run _ s8 σ8 H8 _ I8 q8) fun b s9 ⟨H9, I9, q9⟩ => ?_
      have back : ∀ {s' : Shared} {H' : Hp}, Inv (X.blk s3 H3 scope ce fp) ([] ++ pinsAt fp s7.heap) σ8 H' s' → Nx H' → ∃ m, m < n ∧ ∃ i H', Inv (X.blk s3 H3 scope ce fp) [] (wipe σ (own.map (·.2))) H' s' ∧ tn i s'.heap ∧ (∀ b ∈ fp, H' b = none) ∧ W i m H' := fun {s' H'} J nx => by
        obtain ⟨m', hm, w'⟩ := hNx H' nx
        have pin' : ∀ b ∈ fp, ∀ o, s7.heap.get? b = some o → s'.heap.get? b = some o ∧ H' b = none := fun b hb o e =>
          let z := J.pin (b, o) (List.mem_append_right _ (List.mem_append_right _ (mem_pinsAt hb e)))
          ⟨z.1, z.2.1⟩
        have hl : (wipe σ (own.map (·.2))).length = σ8.length := by rw [← hw8, wipe_length]
        refine ⟨m', hm, i + 1, H', (J.unpinned (pins := [])).weak hl (fun j v e => ?_), T.keep _ _ _ st7 fun b hb o e => (pin' b hb o e).1, fun b hb => ?_, w'⟩
        · rw [← hw8] at e
          exact (wipe_some e).1
        · obtain ⟨o, e, _⟩ := T.obj _ _ st7 b hb
          exact (pin' b hb o e).2
      cases b with
      | false =>
        simp only [Bool.false_eq_true, if_false] at q9 ⊢
        exact back I9 q9
      | true =>
        simp only [if_true] at q9 ⊢
        refine thnF (pe.run _ s9 σ8 H9 _ I9 q9) fun z s10 ⟨yv, H10, I10, r10, c, S0, n0, ey, hD10, hz10, nx⟩ => ?_
        subst ey
        obtain ⟨tk, rfl⟩ : ∃ tk, z = Value.str c tk := r10
        exact add_inv (X := X.blk s3 H3 scope ce fp) I10 hD10 hz10 fun s11 I11 => back I11 nx
  exact PpSet.codeAny_compStart_set loop (T.self X.A 0 _ _ _ st4 loop)
theorem pe_scS {elt tg iter : Expr} {ifs : List Expr} {scope : Scope} {own : List (PySem.Str × Nat)} {pos : Pos} {wi : TI} {g : TG} {tt : TT} {te : TE} (hc : X.calm = true) (hN : X.N.Nodup) (hi : PI X tg iter wi) (ok : BlkOk X.N X.env.scope scope own)
    (hg : ∀ (s : Shared) (H : Hp) (C : Addr) (cl : List (PySem.Str × Addr)) (fp : List Addr), PG (X.blk s H scope (compEnvC scope cl C X.env) fp) tg g)
    (ht : ∀ (s : Shared) (H : Hp) (C : Addr) (cl : List (PySem.Str × Addr)) (fp : List Addr), PTs (X.blk s H scope (compEnvC scope cl C X.env) fp) ifs tt)
    (he : ∀ (s : Shared) (H : Hp) (C : Addr) (cl : List (PySem.Str × Addr)) (fp : List Addr), PE (X.blk s H scope (compEnvC scope cl C X.env) fp) elt te)
    (hs : ∀ x, foldedSetIterable iter X.env x = pure x := by intro _; rfl) : PE X (.SetComp elt [⟨tg, iter, ifs, 0⟩] scope pos) (tScS X.w wi g tt te (own.map (·.2))) := by
  refine ⟨fun pins s σ H Q I h => ?_⟩
  rw [PpSet.eval_SetComp]
  refine run_scS hc hN I hi ok hg ht he hs h fun D C s' m H' J q hn f => ⟨m, hn, fun h'' sb => ?_⟩
  obtain ⟨f0, f1, f2, f3, f4, f5⟩ := f
  exact ⟨.ref D, H', J.turned (t' := s'.toks) (fun b o hb e => (sb.2 b hb).trans e) f0 f1 f3 f4 f5, rfl, q⟩
end
/-- the reading over a list that stands still -/
theorem scS_list {w : World} {K : PySem.W.Frag} {a : Addr} {xs : List V} {g : TG} {tt : TT} {te : TE} {vs : List Nat} {σ : L2.St} {H1 : Hp} {D : Addr} {Qd : Hp → Prop} (Pv : Nat → Hp → Prop) (h0 : Pv 0 (upd H1 D (SetSO w D (fun _ => false) 0)))
    (hl : ∀ i H, i ≤ xs.length → Pv i H → SqL K H a xs)
    (hs : ∀ i x H, xs[i]? = some x → Pv i H → g x (wipe σ vs) H fun σ2 H2 => wipe σ2 vs = wipe σ vs ∧ tt σ2 H2 fun b H3 => if b = true then te σ2 H3 fun y H4 => ∃ (c : Str) (S : Str → Bool) (n : Nat), y = .str c ∧ H4 D = some (SetSO w D S n) ∧
      n + 1 < scanBound ∧ Pv (i + 1) (upd H4 D (SetSO w D (fun z => S z || decide (z = c)) (if S c = true then n else n + 1))) else Pv (i + 1) H3) (hd : ∀ H, Pv xs.length H → Qd H) :
    ∃ W : Nat → Nat → Hp → Prop, (∃ m, W 0 m (upd H1 D (SetSO w D (fun _ => false) 0))) ∧ ∀ i m H, W i m H → ((Itl K a).stop i H ∧ Qd H) ∨ ((Itl K a).go i H ∧ ∃ Nx : Hp → Prop, (∀ H', Nx H' → ∃ m', m' < m ∧ W (i + 1) m' H') ∧
      ∀ x H', (Itl K a).yld i H x H' → g x (wipe σ vs) H' fun σ2 H2 => wipe σ2 vs = wipe σ vs ∧ tt σ2 H2 fun b H3 => if b = true then te σ2 H3 fun y H4 => ∃ (c : Str) (S : Str → Bool) (n : Nat), y = .str c ∧
        H4 D = some (SetSO w D S n) ∧ n + 1 < scanBound ∧ Nx (upd H4 D (SetSO w D (fun z => S z || decide (z = c)) (if S c = true then n else n + 1))) else Nx H3) := by
  refine ⟨fun i m H => m = xs.length - i ∧ i ≤ xs.length ∧ Pv i H, ⟨xs.length, by simp, Nat.zero_le _, h0⟩, ?_⟩
  rintro i m H ⟨rfl, hi, p⟩
  have q := hl i H hi p
  by_cases c : i < xs.length
  · refine .inr ⟨⟨xs, xs[i], q, by simp [c]⟩, Pv (i + 1), fun H' p' => ⟨xs.length - (i + 1), by omega, rfl, c, p'⟩, fun x H' y => ?_⟩
    obtain ⟨e, y⟩ := y
    subst e
    exact hs i x _ (y xs q) p
  · have e : i = xs.length := by omega
    subst e
    exact .inl ⟨⟨xs, q, Nat.le_refl _⟩, hd H p⟩
/-! ### sorted(a set of texts) -/
theorem strs_of : ∀ (l : List Value), (∀ v ∈ l, ∃ x tk, v = Value.str x tk) → ∃ xs, StrsAre l xs ∧ l.map (fun v => match v with | .str x _ => x | _ => Str.empty) = xs
  | [], _ => ⟨[], .nil, rfl⟩
  | v :: l, h => by
    obtain ⟨x, tk, rfl⟩ := h v (List.mem_cons_self ..)
    obtain ⟨xs, h1, h2⟩ := strs_of l fun u hu => h u (List.mem_cons_of_mem _ hu)
    exact ⟨x :: xs, .cons x tk h1, by rw [List.map_cons, h2]⟩
section
variable {P : Program} {w : World} {A : Around} {E : Value → Shared → Prop} {s : Shared} {a : Addr}
theorem sorted_S {S : Str → Bool} {n : Nat} {Q : Value → Shared → Prop} (R : SetS w s.heap a S n) (hh : A.handled = none)
    (hQ : ∀ s' p (out : Array Value) (c : Nat) (xs : List Str), (∀ b o, s.heap.get? b = some o → s'.heap.get? b = some o) → s'.gens = s.gens → s'.os = s.os → s.heap.objs.size ≤ p →
      s'.heap.get? p = some (seqObj "list" out c) → StrsAre out.toList xs → sortedS xs = true → xs.Nodup → (∀ x, x ∈ xs ↔ S x = true) → xs.length = n → Q (.ref p) s') :
    wpAny (model P w) A (call (.builtin "sorted") [.ref a]) Q E s := by
  obtain ⟨ob, ms, ep, tb, g, gx, gd, gm, gN, gS, gb, gf, gn, gR, gL⟩ := R
  refine Calls.call_function_entry kind_sorted plain_sorted entry_sorted (args_sorted1 _) ?_
  unfold Builtin.«sorted»
  refine wpAny_bind (m := checkCount "sorted" 1 1 _) (wpAny_pure ?_)
  refine wpAny_bind (collect_set (A := A.in1) hh ⟨ob, g, gx.1, gd⟩ gf gb gR gL fun s1 vs k1 hz g1 o1 pm => ?_)
  have lv : vs.length = n := by rw [pm.length_eq, List.length_map, Array.length_toList]; exact gn
  have hb : n < 4096 := by rw [← gn]; exact gb
  obtain ⟨xs, hX, eX⟩ := strs_of vs fun v hv => by
    obtain ⟨m, hm, q⟩ := List.mem_map.mp (pm.mem_iff.mp hv)
    obtain ⟨x, tk, h1, _⟩ := gm m hm
    exact ⟨x, tk, by rw [← q]; exact h1⟩
  have pk : xs.Perm (ms.toList.map txO) := by
    have q := pm.map (fun v => match v with | .str x _ => x | _ => Str.empty)
    rw [eX, List.map_map] at q
    exact q
  have lz : vs.length ≤ sizeLine := by rw [lv, sizeLine_eq]; omega
  refine wpAny_bind (wpAny_newList ?_ lz)
  have hoL : (s1.heap.push (seqObj "list" vs.toArray 0)).get? s1.heap.objs.size = some (seqObj "list" vs.toArray 0) := Heap.get?_push_size _ rfl
  refine wpAny_bind (wpAny_holding (wpAny_call_entry slot_list_sort ⟨_, hoL, rfl⟩ entry_list_sort
    (list_sort_treeKAny strKind_oneLt hoL hX.keysOf (fun v₁ v₂ rest e => keyKind_strs (by rw [← e]; exact hX)) lz fun st' hp hs => ⟨_, rfl, ?_⟩) (args_list_sort _)))
  obtain ⟨ys, a1, a2, a3⟩ := sorted_out_str hX hp hs
  obtain ⟨c, hc⟩ := sortedHeap_at (vs := vs) (out := (arrOf st').map (·.2)) hoL
  have pn : ys.Perm (ms.toList.map txO) := a2.trans pk
  refine wpAny_pure ⟨_, rfl, hQ _ s1.heap.objs.size _ c ys (fun b u e => ?_) g1 o1 hz hc a1 a3 (pn.nodup_iff.mpr gN) (fun x => by rw [pn.mem_iff, ← gS x]) ?_⟩
  · have q := k1 b u e
    have hlt := Heap.lt_size q
    show (sortedHeap (s1.heap.push (seqObj "list" vs.toArray 0)) s1.heap.objs.size vs ((arrOf st').map (·.2))).get? b = some u
    rw [sortedHeap_old (Nat.ne_of_lt hlt) (by rw [size_push']; exact Nat.lt_succ_of_lt hlt)]
    exact Heap.get?_push_of_some _ q
  · rw [pn.length_eq, List.length_map, Array.length_toList]; exact gn
end
section
variable {X : Cx}
/-- sorted(found) -/
def rSortS (w : World) : List V → Hp → VK → Prop := fun vs H Q => ∃ (a : Addr) (S : Str → Bool) (n : Nat), vs = [V.ref a] ∧ H a = some (SetSO w a S n) ∧
  ∀ (xs : List Str) (p : Addr), sortedS xs = true → xs.Nodup → (∀ x, x ∈ xs ↔ S x = true) → H p = none → Q (.ref p) (upd H p (.lst (xs.map V.str)))
theorem cr_sortS (hc : X.calm = true) : CallR X (.builtin "sorted") (rSortS X.w) := by
  intro pins s σ H vs us Q I r h
  obtain ⟨a, S, n, rfl, ha, q⟩ := h
  have R := SetSO.get I ha
  have hb : n < 4096 := by
    obtain ⟨_, _, _, _, _, _, _, _, _, _, gb, _, gn, _⟩ := R
    rw [← gn]
    exact gb
  rw [Vals.ref1 r]
  refine sorted_S R (I.ok.hd hc) fun s' p out c xs k g o hp hg hi hs hn hm hl => ?_
  have hlen : (xs.map V.str).length ≤ sizeLine := by rw [List.length_map, hl, sizeLine_eq]; omega
  have np : H p = none := I.hok.fresh hp
  have J : Inv X pins σ (upd H p (.lst (xs.map V.str))) { s with heap := s'.heap, gens := s'.gens, drawn := s'.drawn, toks := s'.toks } :=
    I.call (ch := []) (Un.laid k hp np) (I.hok.laid k hp ⟨hlen, out.toList, c, vals_of_strs hi, hg⟩) (by rw [g]; exact I.bare) (fun _ z => nomatch z)
  have e : s' = { s with heap := s'.heap, gens := s'.gens, drawn := s'.drawn, toks := s'.toks } := by
    cases s'
    cases s
    cases o
    rfl
  rw [e]
  exact ⟨.ref p, _, J, rfl, q xs p hs hn hm np⟩
end
end VS


set_option Elab.async false
set_option linter.all false
set_option maxRecDepth 100000
set_option maxHeartbeats 4000000
namespace V
open PySem PySem.Spec PyProof.Rows L2 Evl
def Tm.word : Tm → Str
  | .num _ => "num"
  | .arg _ => "arg"
  | .node (.op o) _ => o.str
  | .node (.call _) _ => "call"
  | .node (.ring _) _ => "ring"
theorem TmAt.head {H : Hp} {v : V} {t : Tm} (h : TmAt H v t) : ∃ a r, v = .ref a ∧ H a = some (.tup (.str t.word :: r)) := by
  cases h with
  | num h => exact ⟨_, _, rfl, h⟩
  | arg h => exact ⟨_, _, rfl, h⟩
  | op h _ => exact ⟨_, _, rfl, h⟩
  | call h _ _ => exact ⟨_, _, rfl, h⟩
  | ring h _ _ => exact ⟨_, _, rfl, h⟩
theorem op_in (o : Op) : decide (o.str ∈ opWords) = true := by
  cases o <;> decide +kernel
theorem out_num : decide (("num" : Str) ∈ opWords) = false := by decide +kernel
theorem out_arg : decide (("arg" : Str) ∈ opWords) = false := by decide +kernel
theorem out_call : decide (("call" : Str) ∈ opWords) = false := by decide +kernel
theorem out_ring : decide (("ring" : Str) ∈ opWords) = false := by decide +kernel
/-- the terms that stand straight in it -/
def spParts : Sp := fun vs H Q _ => ∃ (v : V) (t : Tm), vs = [v] ∧ TmAt H v t ∧ t.parts.length ≤ 4 ∧
  ∀ (H' : Hp) (p : Addr) (us : List V), Ex H H' → H' p = some (.tup us) → TmsAt H' us t.parts → Q (.ref p) H'
theorem parts_deep {t u : Tm} (h : u ∈ t.parts) : u.deep + 1 ≤ t.deep := by
  cases t with
  | num n => cases h
  | arg k => cases h
  | node hd ts =>
    have := deep_le (t := u) (ts := ts) h
    show u.deep + 1 ≤ 1 + Tm.deeps ts
    omega
theorem Tm.Ok.parts {M : Nat} {t u : Tm} (k : t.Ok M) (h : u ∈ t.parts) : u.Ok M := by
  cases k with
  | num _ => cases h
  | arg _ => cases h
  | node _ ks => exact ks u h
theorem Tm.Ok.few {M : Nat} {t : Tm} (k : t.Ok M) : t.parts.length ≤ 4 := by
  cases k with
  | num _ => exact Nat.zero_le _
  | arg _ => exact Nat.zero_le _
  | node h _ => exact h.le
theorem size_pos : ∀ t : Tm, 1 ≤ t.size
  | .num _ => Nat.le_refl _
  | .arg _ => Nat.le_refl _
  | .node h ts => by
    show 1 ≤ 1 + Tm.sizes ts
    omega
theorem all_parts (t : Tm) : t.all = t :: Tm.alls t.parts := by
  cases t <;> rfl
theorem size_parts (t : Tm) : t.size = 1 + Tm.sizes t.parts := by
  cases t <;> rfl
theorem deep_parts (t : Tm) : t.deep = 1 + Tm.deeps t.parts := by
  cases t <;> rfl
theorem alls_append (ts us : List Tm) : Tm.alls (ts ++ us) = Tm.alls ts ++ Tm.alls us := by
  induction ts with
  | nil => rfl
  | cons t ts ih =>
    show t.all ++ Tm.alls (ts ++ us) = (t.all ++ Tm.alls ts) ++ Tm.alls us
    rw [ih, List.append_assoc]
theorem alls_len (ts : List Tm) : (Tm.alls ts).length = Tm.sizes ts := by
  induction ts with
  | nil => rfl
  | cons t ts ih =>
    show (t.all ++ Tm.alls ts).length = t.size + Tm.sizes ts
    rw [List.length_append, all_len, ih]
theorem sizes_take (ts : List Tm) (i : Nat) : Tm.sizes (ts.take i) ≤ Tm.sizes ts := by
  induction ts generalizing i with
  | nil => simp [Tm.sizes]
  | cons t ts ih =>
    cases i with
    | zero => exact Nat.zero_le _
    | succ i =>
      have := ih i
      show t.size + Tm.sizes (ts.take i) ≤ t.size + Tm.sizes ts
      omega
theorem size_mem {ts : List Tm} {t : Tm} (h : t ∈ ts) : t.size ≤ Tm.sizes ts := by
  induction ts with
  | nil => cases h
  | cons u us ih =>
    show t.size ≤ u.size + Tm.sizes us
    rcases List.mem_cons.mp h with rfl | h
    · omega
    · have := ih h
      omega
theorem take_more {α : Type} {l : List α} {i : Nat} {x : α} (h : l[i]? = some x) : l.take (i + 1) = l.take i ++ [x] := by
  rw [List.take_add_one, h]
  rfl
theorem get_mem {α : Type} {l : List α} {i : Nat} {x : α} (h : l[i]? = some x) : x ∈ l := List.mem_of_getElem? h
/-- all terms in it, itself ahead: a new list -/
def spAll (n : Nat) : Sp := fun vs H Q _ => ∃ (v : V) (t : Tm) (M : Nat), vs = [v] ∧ TmAt H v t ∧ t.Ok M ∧ t.deep ≤ n ∧ t.size ≤ 1000 ∧
  ∀ (H' : Hp) (p : Addr) (us : List V), H p = none → Ex H H' → H' p = some (.lst us) → TmsAt H' us t.all → Q (.ref p) H'
def spSize (n : Nat) : Sp := fun vs H Q _ => ∃ (v : V) (t : Tm) (M : Nat), vs = [v] ∧ TmAt H v t ∧ t.Ok M ∧ t.deep ≤ n ∧ t.size ≤ 1000 ∧ ∀ (H' : Hp), Ex H H' → Q (.int (t.size : Int)) H'
def spDeep (n : Nat) : Sp := fun vs H Q _ => ∃ (v : V) (t : Tm) (M : Nat), vs = [v] ∧ TmAt H v t ∧ t.Ok M ∧ t.deep ≤ n ∧ ∀ (H' : Hp), Ex H H' → Q (.int (t.deep : Int)) H'
theorem deeps_max (ts : List Tm) (m : Int) (hm : m ∈ ts.map fun t => (t.deep : Int)) (top : ∀ y ∈ ts.map (fun t => (t.deep : Int)), y ≤ m) : m = (Tm.deeps ts : Int) := by
  have le : ∀ us : List Tm, (∀ u ∈ us, (u.deep : Int) ≤ m) → 0 ≤ m → (Tm.deeps us : Int) ≤ m := by
    intro us
    induction us with
    | nil => intro _ h; exact h
    | cons u us ih =>
      intro h h0
      have h1 := h u (List.mem_cons_self ..)
      have h2 := ih (fun v hv => h v (List.mem_cons_of_mem _ hv)) h0
      show ((max u.deep (Tm.deeps us) : Nat) : Int) ≤ m
      omega
  obtain ⟨t, ht, rfl⟩ := List.mem_map.mp hm
  have h1 := deep_le ht
  have h2 := le ts (fun u hu => top _ (List.mem_map.mpr ⟨u, hu, rfl⟩)) (by omega)
  omega
/-! ### rising lists of texts -/
def tlt (a b : Str) : Prop := a.cps.toList < b.cps.toList
theorem tlt_irr (a : Str) : ¬ tlt a a := List.lt_irrefl _
theorem tlt_trans {a b c : Str} (h : tlt a b) (k : tlt b c) : tlt a c := List.lt_trans h k
theorem str_ext {a b : Str} (h : a.cps.toList = b.cps.toList) : a = b := by
  cases a
  cases b
  exact congrArg Str.mk (Array.toList_inj.mp h)
theorem tlt_of {a b : Str} (h : ltCps b.cps.toList a.cps.toList = false) (ne : a ≠ b) : tlt a b := by
  rw [ltCps_eq, decide_eq_false_iff_not] at h
  rcases Nat.lt_or_ge 0 0 with z | z
  · omega
  · by_cases c : a.cps.toList < b.cps.toList
    · exact c
    · exact absurd (str_ext (List.le_antisymm h c)) ne
theorem rise_of : ∀ (l : List Str) (p : Str), risingS p l = true → (p :: l).Nodup → (p :: l).Pairwise tlt
  | [], p, _, _ => List.pairwise_singleton _ _
  | x :: r, p, h, d => by
    have h1 : (!ltCps x.cps.toList p.cps.toList && risingS x r) = true := h
    rw [Bool.and_eq_true, Bool.not_eq_true'] at h1
    obtain ⟨d1, d2⟩ := List.nodup_cons.mp d
    have ih := rise_of r x h1.2 d2
    have px : tlt p x := tlt_of h1.1 fun e => d1 (e ▸ List.mem_cons_self ..)
    refine List.pairwise_cons.mpr ⟨fun y hy => ?_, ih⟩
    rcases List.mem_cons.mp hy with rfl | hy
    · exact px
    · exact tlt_trans px ((List.pairwise_cons.mp ih).1 y hy)
theorem sorted_rise {l : List Str} (h : sortedS l = true) (d : l.Nodup) : l.Pairwise tlt := by
  cases l with
  | nil => exact List.Pairwise.nil
  | cons x r => exact rise_of r x h d
/-- rising lists of the same members are one -/
theorem rise_same : ∀ {l k : List Str}, l.Pairwise tlt → k.Pairwise tlt → (∀ x, x ∈ l ↔ x ∈ k) → l = k
  | [], [], _, _, _ => rfl
  | [], y :: k, _, _, h => absurd ((h y).2 (List.mem_cons_self ..)) (by simp)
  | x :: l, [], _, _, h => absurd ((h x).1 (List.mem_cons_self ..)) (by simp)
  | x :: l, y :: k, hl, hk, h => by
    obtain ⟨l1, l2⟩ := List.pairwise_cons.mp hl
    obtain ⟨k1, k2⟩ := List.pairwise_cons.mp hk
    have e : x = y := by
      rcases List.mem_cons.mp ((h x).1 (List.mem_cons_self ..)) with e | hx
      · exact e
      · rcases List.mem_cons.mp ((h y).2 (List.mem_cons_self ..)) with e | hy
        · exact e.symm
        · exact absurd (tlt_trans (k1 x hx) (l1 y hy)) (tlt_irr y)
    subst e
    refine congrArg (x :: ·) (rise_same l2 k2 fun z => ⟨fun hz => ?_, fun hz => ?_⟩)
    · rcases List.mem_cons.mp ((h z).1 (List.mem_cons_of_mem _ hz)) with rfl | q
      · exact absurd (l1 z hz) (tlt_irr z)
      · exact q
    · rcases List.mem_cons.mp ((h z).2 (List.mem_cons_of_mem _ hz)) with rfl | q
      · exact absurd (k1 z hz) (tlt_irr z)
      · exact q
/-! ### marks and places of a term -/
def Tm.mk1 : Tm → List Str
  | .node (.call m) _ => [m]
  | _ => []
def Tm.pl1 : Tm → List Nat
  | .node (.ring p) _ => [p]
  | _ => []
/-- the marks that it calls, from left to right -/
def Tm.marks (t : Tm) : List Str := t.all.flatMap Tm.mk1
def Tm.places (t : Tm) : List Nat := t.all.flatMap Tm.pl1
def spCalls (n : Nat) : Sp := fun vs H Q _ => ∃ (v : V) (t : Tm) (M : Nat), vs = [v] ∧ TmAt H v t ∧ t.Ok M ∧ t.deep ≤ n ∧ t.size ≤ 1000 ∧
  ∀ (H' : Hp) (p : Addr) (xs : List Str), H p = none → Ex H H' → H' p = some (.lst (xs.map V.str)) → xs.Pairwise tlt → (∀ x, x ∈ xs ↔ x ∈ t.marks) → Q (.ref p) H'
def spPlaces (n : Nat) : Sp := fun vs H Q _ => ∃ (v : V) (t : Tm) (M : Nat), vs = [v] ∧ TmAt H v t ∧ t.Ok M ∧ t.deep ≤ n ∧ t.size ≤ 1000 ∧
  ∀ (H' : Hp) (p : Addr), H p = none → Ex H H' → H' p = some (.lst (t.places.map fun k : Nat => V.int (k : Int))) → Q (.ref p) H'
theorem take_flat {α β : Type} {l : List α} {f : α → List β} {i : Nat} {x : α} (h : l[i]? = some x) : (l.take (i + 1)).flatMap f = (l.take i).flatMap f ++ f x := by
  rw [take_more h, List.flatMap_append, List.flatMap_singleton]
end V


set_option Elab.async false
set_option linter.all false
set_option maxRecDepth 100000
set_option maxHeartbeats 4000000
namespace V
open PySem PySem.Spec PyProof.Rows L2 Evl
/-! ### data of any kind -/
section
variable {K : PySem.W.Frag} {H H' : Hp}
mutual
theorem dp_ex (e : Ex H H') : ∀ {v : V} {d : PyData}, Dp K H v d → Dp K H' v d
  | _, _, .non => .non
  | _, _, .bl b => .bl b
  | _, _, .int i => .int i
  | _, _, .str x => .str x
  | _, _, .lst h hs => .lst (ex_l e h) (dps_ex e hs)
  | _, _, .tup h hs => .tup (ex_t e h) (dps_ex e hs)
theorem dps_ex (e : Ex H H') : ∀ {vs : List V} {ds : List PyData}, DpAll K H vs ds → DpAll K H' vs ds
  | _, _, .nil => .nil
  | _, _, .cons h hs => .cons (dp_ex e h) (dps_ex e hs)
end
theorem dps_len : ∀ {vs : List V} {ds : List PyData}, DpAll K H vs ds → vs.length = ds.length
  | _, _, .nil => rfl
  | _, _, .cons _ hs => by rw [List.length_cons, List.length_cons, dps_len hs]
theorem dps_get : ∀ {vs : List V} {ds : List PyData}, DpAll K H vs ds → ∀ {i : Nat} {v : V}, vs[i]? = some v → ∃ d, ds[i]? = some d ∧ Dp K H v d
  | _, _, .nil, i, v, e => by simp at e
  | _, _, .cons h hs, 0, v, e => by
    cases Option.some.inj e
    exact ⟨_, rfl, h⟩
  | _, _, .cons h hs, i + 1, v, e => dps_get hs (i := i) (v := v) e
/-- the name of its class -/
def kind : PyData → String
  | .none => "NoneType"
  | .bool _ => "bool"
  | .int _ => "int"
  | .str _ => "str"
  | .list _ => "list"
  | .tuple _ => "tuple"
  | .dict _ => "dict"
theorem dp_ty {v : V} {d : PyData} (h : Dp K H v d) : TyX K H v (.type (kind d)) := by
  cases h with
  | non => exact .base .non
  | bl b => exact .base (.bl b)
  | int i => exact .base (.int i)
  | str x => exact .base (.str x)
  | lst h _ =>
    rcases h with (h | ⟨o, h⟩) | ⟨o, its, n, h, c, _⟩
    · exact .base (.lst h)
    · exact .base (.frz h)
    · exact .kList h c
  | tup h _ =>
    rcases h with (h | ⟨o, h⟩) | ⟨o, its, n, h, c, _⟩
    · exact .base (.tup h)
    · exact .fTuple h
    · exact .kTuple h c
end
def sgS : Str := "0123456789abcdefghijklmnopqrstuvwxyz #@();:"
def sgM : Str := "0123456789abcdefghijklmnopqrstuvwxyz"
theorem cut_sg : cutS sgS none (some 36) = sgM := by decide +kernel
/-- a text of six figures and letters -/
def isMarkD : PyData → Bool
  | .str x => x.length == 6 && x.cps.toList.all fun c => decide (c ∈ sgM.cps.toList)
  | _ => false
def isStrD : PyData → Bool
  | .str _ => true
  | _ => false
def isTupD : PyData → Bool
  | .tuple _ => true
  | _ => false
def isBoolD : PyData → Bool
  | .bool _ => true
  | _ => false
def isIntD : PyData → Bool
  | .int _ => true
  | .bool _ => true
  | _ => false
theorem kit_str : ∀ d : PyData, kitB (kind d) "str" = some (isStrD d)
  | .none => (by decide +kernel : kitB "NoneType" "str" = some false)
  | .bool _ => (by decide +kernel : kitB "bool" "str" = some false)
  | .int _ => (by decide +kernel : kitB "int" "str" = some false)
  | .str _ => (by decide +kernel : kitB "str" "str" = some true)
  | .list _ => (by decide +kernel : kitB "list" "str" = some false)
  | .tuple _ => (by decide +kernel : kitB "tuple" "str" = some false)
  | .dict _ => (by decide +kernel : kitB "dict" "str" = some false)
theorem kit_tup : ∀ d : PyData, kitB (kind d) "tuple" = some (isTupD d)
  | .none => (by decide +kernel : kitB "NoneType" "tuple" = some false)
  | .bool _ => (by decide +kernel : kitB "bool" "tuple" = some false)
  | .int _ => (by decide +kernel : kitB "int" "tuple" = some false)
  | .str _ => (by decide +kernel : kitB "str" "tuple" = some false)
  | .list _ => (by decide +kernel : kitB "list" "tuple" = some false)
  | .tuple _ => (by decide +kernel : kitB "tuple" "tuple" = some true)
  | .dict _ => (by decide +kernel : kitB "dict" "tuple" = some false)
theorem kit_bool : ∀ d : PyData, kitB (kind d) "bool" = some (isBoolD d)
  | .none => (by decide +kernel : kitB "NoneType" "bool" = some false)
  | .bool _ => (by decide +kernel : kitB "bool" "bool" = some true)
  | .int _ => (by decide +kernel : kitB "int" "bool" = some false)
  | .str _ => (by decide +kernel : kitB "str" "bool" = some false)
  | .list _ => (by decide +kernel : kitB "list" "bool" = some false)
  | .tuple _ => (by decide +kernel : kitB "tuple" "bool" = some false)
  | .dict _ => (by decide +kernel : kitB "dict" "bool" = some false)
theorem kit_int : ∀ d : PyData, kitB (kind d) "int" = some (isIntD d)
  | .none => (by decide +kernel : kitB "NoneType" "int" = some false)
  | .bool _ => (by decide +kernel : kitB "bool" "int" = some true)
  | .int _ => (by decide +kernel : kitB "int" "int" = some true)
  | .str _ => (by decide +kernel : kitB "str" "int" = some false)
  | .list _ => (by decide +kernel : kitB "list" "int" = some false)
  | .tuple _ => (by decide +kernel : kitB "tuple" "int" = some false)
  | .dict _ => (by decide +kernel : kitB "dict" "int" = some false)
def isNumD (most : Int) : PyData → Bool
  | .int i => decide (0 ≤ i) && decide (i ≤ most)
  | _ => false
def isPartsD : PyData → Bool
  | .tuple ds => decide (ds.length ≤ 4)
  | _ => false
/-- a test of one thing: its answer, all else as it was -/
def spTest (ok : PyData → Prop) (f : PyData → Bool) (K : PySem.W.Frag) : Sp := fun vs H Q _ => ∃ (v : V) (d : PyData), vs = [v] ∧ Dp K H v d ∧ ok d ∧ ∀ (H' : Hp), Ex H H' → Q (.bl (f d)) H'
def spNumTo (K : PySem.W.Frag) : Sp := fun vs H Q _ => ∃ (most : Int) (v : V) (d : PyData), vs = [.int most, v] ∧ Dp K H v d ∧ ∀ (H' : Hp), Ex H H' → Q (.bl (isNumD most d)) H'
/-- the texts in it are not too long, nor its lists -/
inductive Small : PyData → Prop where
  | non : Small .none
  | bl (b : Bool) : Small (.bool b)
  | int (i : Int) : Small (.int i)
  | str {x : Str} : x.length ≤ 100000 → Small (.str x)
  | lst {ds : List PyData} : ds.length ≤ 1000 → (∀ d ∈ ds, Small d) → Small (.list ds)
  | tup {ds : List PyData} : ds.length ≤ 1000 → (∀ d ∈ ds, Small d) → Small (.tuple ds)
section
variable {P : Program} {w : World} {K : PySem.W.Frag} {mg : Str → Option Value} {base : Heap}
theorem pe_ty {X : Cx} {T : String} {pos : Pos} (hm : X.mg (T : Str) = none) (hg : Gl X (T : Str) := by rfl) (hv : bootBuiltins (T : Str) = some (.type T) := by decide +kernel) (hn : (T : Str) ≠ "__name__" := by decide)
    (hd : ((T : Str) == ("__debug__" : Str)) = false := by decide) : PE X (.Name (T : Str) pos) (tC (.ty T)) := pe_bltn hg hm hv rfl hn hd
theorem pe_gi {X : Cx} {x : Str} {i : Int} {pos : Pos} (hm : ∃ t, X.mg x = some (.int i t)) (hg : Gl X x := by rfl) (hd : (x == ("__debug__" : Str)) = false := by decide) : PE X (.Name x pos) (tC (.int i)) := by
  obtain ⟨t, h⟩ := hm
  exact pe_glob hg h ⟨_, rfl⟩ hd
theorem pe_gs {X : Cx} {x z : Str} {pos : Pos} (hm : ∃ t, X.mg x = some (.str z t)) (hg : Gl X x := by rfl) (hd : (x == ("__debug__" : Str)) = false := by decide) : PE X (.Name x pos) (tC (.str z)) := by
  obtain ⟨t, h⟩ := hm
  exact pe_glob hg h ⟨_, rfl⟩ hd
theorem isi_at {H : Hp} {v : V} {d : PyData} {T : String} {b : Bool} (h : Dp K H v d) (e : kitB (kind d) T = some b) {Q : VK} (q : Q (.bl b) H) : rIsi K [v, .ty T] H Q :=
  ⟨v, .ty T, _, _, b, rfl, .ty T, dp_ty h, kit_ty e, q⟩
theorem all_take {p : Nat → Bool} {l : List Nat} : ((l.map p).all id) = l.all p := by
  rw [List.all_map]
  rfl
end
end V


set_option Elab.async false
set_option linter.all false
set_option maxRecDepth 100000
set_option maxHeartbeats 4000000
namespace V
open PySem PySem.Spec PyProof.Rows L2 Evl TL NumText
/-! ### texts of terms -/
/-- the figures of a number -/
def nt (n : Nat) : Str := Str.ofString (toString (n : Int))
def dig (n : Nat) : List Nat := (Nat.toDigits 10 n).map Char.toNat
theorem tl_nt (n : Nat) : tl (nt n) = dig n := PySem.W.KIN.signs_num n
theorem dig_all (n : Nat) : AllDigits (dig n) := by
  intro c hc
  obtain ⟨ch, hch, e⟩ := List.mem_map.mp hc
  have r := PyProof.Rows.digit_range (Nat.isDigit_of_mem_toDigits (by decide) (by decide) hch)
  rw [← e]
  exact r
theorem dig_ne (n : Nat) : dig n ≠ [] := fun e => by
  have h := toDigits_len_ge 10 n
  rw [List.map_eq_nil_iff.mp e] at h
  exact absurd h (by decide)
theorem dig_len {n : Nat} (h : n < 10000000) : (dig n).length ≤ 7 := by
  unfold dig
  rw [List.length_map]
  exact toDigits_len_pow (by decide) (by decide) (by show n < 10 ^ 7; omega)
theorem nt_len {n : Nat} (h : n < 10000000) : (nt n).length ≤ 7 := by
  rw [len_tl, tl_nt]
  exact dig_len h
def letter (k : Nat) : Str := (["a", "b", "c", "d"] : List Str).getD k "a"
def Hd.S : Hd → Str
  | .op o => o.str
  | .call m => "#" ++ m
  | .ring p => "@" ++ nt p
mutual
def Tm.txt : Tm → Str
  | .num n => nt n
  | .arg k => letter k
  | .node h ts => ("(" : Str) ++ Str.join " " (h.S :: Tm.txts ts) ++ ")"
def Tm.txts : List Tm → List Str
  | [] => []
  | t :: ts => t.txt :: Tm.txts ts
end
theorem txts_map (ts : List Tm) : Tm.txts ts = ts.map Tm.txt := by
  induction ts with
  | nil => rfl
  | cons t ts ih =>
    show t.txt :: Tm.txts ts = t.txt :: ts.map Tm.txt
    rw [ih]
theorem str_len_append (a b : Str) : (a ++ b).length = a.length + b.length := by
  rw [len_tl, len_tl, len_tl, tl_append, List.length_append]
theorem join_len (ys : List Str) : (Str.join " " ys).length ≤ (ys.map (·.length)).sum + ys.length := by
  have h := StrLaws.join_length_le " " ys
  have e : (" " : Str).length = 1 := by decide +kernel
  rw [e, Nat.mul_one] at h
  exact h
theorem letter_len {k : Nat} (h : k ≤ 3) : (letter k).length = 1 := by
  match k, h with
  | 0, _ => decide +kernel
  | 1, _ => decide +kernel
  | 2, _ => decide +kernel
  | 3, _ => decide +kernel
  | n + 4, h => omega
theorem Hd.S_len {M n : Nat} {h : Hd} (k : h.ok M n) (hM : M ≤ 1000000) : h.S.length ≤ 8 := by
  cases h with
  | op o => cases o <;> decide +kernel
  | call m =>
    show (("#" : Str) ++ m).length ≤ 8
    rw [str_len_append, k.1.1]
    decide +kernel
  | ring p =>
    show (("@" : Str) ++ nt p).length ≤ 8
    rw [str_len_append]
    have h1 : p ≤ M := k.1
    have := nt_len (n := p) (by omega)
    have e : ("@" : Str).length = 1 := by decide +kernel
    omega
theorem txt_len {M : Nat} (hM : M ≤ 1000000) : ∀ t : Tm, t.Ok M → t.txt.length ≤ 16 * t.size := by
  refine Tm.ind (fun n k => ?_) (fun j k => ?_) fun h ts ih k => ?_
  · cases k with
    | num hn =>
      show (nt n).length ≤ 16 * 1
      have := nt_len (n := n) (by omega)
      omega
  · cases k with
    | arg hk =>
      show (letter j).length ≤ 16 * 1
      rw [letter_len hk]
      omega
  · cases k with
    | node hh hks =>
      have sum : ∀ us : List Tm, (∀ u ∈ us, u.txt.length ≤ 16 * u.size) → ((Tm.txts us).map (·.length)).sum ≤ 16 * Tm.sizes us ∧ (Tm.txts us).length = us.length := by
        intro us
        induction us with
        | nil => intro _; exact ⟨Nat.le_refl _, rfl⟩
        | cons u us ih2 =>
          intro hu
          obtain ⟨i1, i2⟩ := ih2 fun v hv => hu v (List.mem_cons_of_mem _ hv)
          have h1 := hu u (List.mem_cons_self ..)
          refine ⟨?_, by show (Tm.txts us).length + 1 = us.length + 1; rw [i2]⟩
          show u.txt.length + ((Tm.txts us).map (·.length)).sum ≤ 16 * (u.size + Tm.sizes us)
          omega
      obtain ⟨s1, s2⟩ := sum ts fun u hu => ih u hu (hks u hu)
      show ((("(" : Str) ++ Str.join " " (h.S :: Tm.txts ts)) ++ ")").length ≤ 16 * (1 + Tm.sizes ts)
      rw [str_len_append, str_len_append]
      have j := join_len (h.S :: Tm.txts ts)
      rw [List.map_cons, List.sum_cons, List.length_cons] at j
      have e1 : ("(" : Str).length = 1 := by decide +kernel
      have e2 : (")" : Str).length = 1 := by decide +kernel
      have h4 := hh.le
      have h8 := Hd.S_len hh hM
      omega
theorem log_small {i : Int} (h0 : 0 ≤ i) (h1 : i < 10000000) : i.natAbs.log2 < 1920 := by
  have : i.natAbs < 2 ^ 24 := by
    have : (2 : Nat) ^ 24 = 16777216 := by decide
    omega
  exact Nat.lt_of_lt_of_le (PySem.Flt.log2_lt_of (by decide) this) (by decide)
theorem eq_word {a b : Str} : decide (V.str a = V.str b) = decide (a = b) := by
  rw [decide_eq_decide]
  exact ⟨V.str.inj, congrArg V.str⟩
end V


set_option Elab.async false
set_option linter.all false
set_option maxRecDepth 100000
set_option maxHeartbeats 4000000
namespace V
open PySem PySem.Spec PyProof.Rows L2 Evl TL NumText
/-! ### what is built without a change of what is there: by the word of what comes -/
def Yl (te : TE) (σ : L2.St) (H : Hp) (R : Hp → V → Prop) : Prop := ∀ H1, Ex H H1 → ∀ Q : VK, (∀ H2 v, Ex H1 H2 → R H2 v → Q v H2) → te σ H1 Q
def Ya (ta : TA) (σ : L2.St) (H : Hp) (R : Hp → List V → Prop) : Prop := ∀ H1, Ex H H1 → ∀ Q : List V → Hp → Prop, (∀ H2 vs, Ex H1 H2 → R H2 vs → Q vs H2) → ta σ H1 Q
def TmR (t : Tm) : Hp → V → Prop := fun H v => TmAt H v t
def TmsR (ts : List Tm) : Hp → List V → Prop := fun H vs => TmsAt H vs ts
def ShS (x : Str) (m : Nat) : Hp → V → Prop := fun _ v => v = .str x ∧ x.length ≤ m
def IsV (w : V) : Hp → V → Prop := fun _ v => v = w
def IsVs (ws : List V) : Hp → List V → Prop := fun _ vs => vs = ws
section
variable {σ : L2.St} {H : Hp} {te tb : TE} {ta : TA}
theorem Yl.up {R : Hp → V → Prop} {H' : Hp} (h : Yl te σ H R) (e : Ex H H') : Yl te σ H' R := fun H1 e1 Q q => h H1 (e.trans e1) Q q
theorem Yl.imp {R R' : Hp → V → Prop} (h : Yl te σ H R) (f : ∀ H v, R H v → R' H v) : Yl te σ H R' := fun H1 e1 Q q => h H1 e1 Q fun H2 v e2 r => q H2 v e2 (f H2 v r)
theorem yl_c (v : V) : Yl (tC v) σ H (IsV v) := fun H1 e Q q => q H1 v (Ex.refl H1) rfl
theorem yl_s (x : Str) (m : Nat) (h : x.length ≤ m := by decide +kernel) : Yl (tC (.str x)) σ H (ShS x m) := fun H1 e Q q => q H1 _ (Ex.refl H1) ⟨rfl, h⟩
theorem yl_varT {i : Nat} {v : V} {t : Tm} (h : TmAt H v t) (hs : σ[i]? = some (some v) := by rfl) : Yl (tVar i) σ H (TmR t) := fun H1 e Q q => ⟨v, hs, q H1 v (Ex.refl H1) (h.ex e)⟩
theorem yl_varS {i : Nat} {x : Str} {m : Nat} (h : x.length ≤ m) (hs : σ[i]? = some (some (.str x)) := by rfl) : Yl (tVar i) σ H (ShS x m) := fun H1 e Q q => ⟨_, hs, q H1 _ (Ex.refl H1) ⟨rfl, h⟩⟩
theorem yl_varV {i : Nat} (v : V) (hs : σ[i]? = some (some v) := by rfl) : Yl (tVar i) σ H (IsV v) := fun H1 e Q q => ⟨_, hs, q H1 _ (Ex.refl H1) rfl⟩
theorem yl_add {x y : Str} {m n : Nat} (ha : Yl te σ H (ShS x m)) (hb : Yl tb σ H (ShS y n)) (k : m + n ≤ 1000 := by decide) :
    Yl (tOp (fun x y H Q => ∃ i j, x = .str i ∧ y = .str j ∧ i.length + j.length ≤ sizeLine ∧ Q (.str (i ++ j)) H) te tb) σ H (ShS (x ++ y) (m + n)) := fun H1 e Q q => by
  refine ha H1 e _ fun H2 v e2 ⟨r1, r2⟩ => hb H2 (e.trans e2) _ fun H3 u e3 ⟨r3, r4⟩ => ?_
  refine ⟨x, y, r1, r3, Nat.le_trans (by omega) (by decide : 1000 ≤ sizeLine), q H3 _ (e2.trans e3) ⟨rfl, ?_⟩⟩
  rw [str_len_append]
  omega
theorem ya_nil : Ya tNil σ H (IsVs []) := fun H1 e Q q => q H1 [] (Ex.refl H1) rfl
theorem ya_v {v : V} {vs : List V} (h : Ya ta σ H (IsVs vs)) : Ya (tCons (tC v) ta) σ H (IsVs (v :: vs)) := fun H1 e Q q => h H1 e _ fun H2 us e2 r => q H2 _ e2 (by rw [show us = vs from r]; rfl)
theorem ya_tnil : Ya tNil σ H (TmsR []) := fun H1 e Q q => q H1 [] (Ex.refl H1) .nil
theorem ya_t {t : Tm} {ts : List Tm} (h : Yl te σ H (TmR t)) (hs : Ya ta σ H (TmsR ts)) : Ya (tCons te ta) σ H (TmsR (t :: ts)) := fun H1 e Q q =>
  h H1 e _ fun H2 v e2 r => hs H2 (e.trans e2) _ fun H3 vs e3 rs => q H3 _ (e2.trans e3) (.cons (TmAt.ex r e3) rs)
theorem tms_len {vs : List V} {ts : List Tm} (h : TmsAt H vs ts) (k : ts.length ≤ 4) : vs.length + 3 ≤ sizeLine := by
  rw [h.length]
  exact Nat.le_trans (by omega) (by decide : 7 ≤ sizeLine)
theorem yl_op (o : Op) {ts : List Tm} (h : Ya ta σ H (TmsR ts)) (k : ts.length ≤ 4 := by exact Nat.le_of_ble_eq_true rfl) : Yl (tTup (tCons (tC (.str o.str)) ta)) σ H (TmR (.node (.op o) ts)) := fun H1 e Q q =>
  h H1 e _ fun H2 vs e2 r => ⟨by have := tms_len r k; rw [List.length_cons]; omega, fun p hp => q _ _ (e2.trans (Ex.new hp)) (.op upd_same (TmsAt.ex r (Ex.new hp)))⟩
theorem yl_call (m : Str) {ts : List Tm} (h : Ya ta σ H (TmsR ts)) (k : ts.length ≤ 4 := by exact Nat.le_of_ble_eq_true rfl) : Yl (tTup (tCons (tC (.str "call")) (tCons (tC (.str m)) (tCons (tTup ta) tNil)))) σ H (TmR (.node (.call m) ts)) := fun H1 e Q q =>
  h H1 e _ fun H2 vs e2 r => ⟨by have := tms_len r k; omega, fun p hp => ⟨sz 3, fun p2 hp2 => by
    have f1 := Ex.new (o := .tup vs) hp
    have f2 := Ex.new (o := .tup [.str "call", .str m, .ref p]) hp2
    exact q _ _ (e2.trans (f1.trans f2)) (.call upd_same (f2 p _ upd_same) (TmsAt.ex r (f1.trans f2)))⟩⟩
theorem yl_ring (j : Nat) {ts : List Tm} (h : Ya ta σ H (TmsR ts)) (k : ts.length ≤ 4 := by exact Nat.le_of_ble_eq_true rfl) : Yl (tTup (tCons (tC (.str "ring")) (tCons (tC (.int (j : Int))) (tCons (tTup ta) tNil)))) σ H (TmR (.node (.ring j) ts)) := fun H1 e Q q =>
  h H1 e _ fun H2 vs e2 r => ⟨by have := tms_len r k; omega, fun p hp => ⟨sz 3, fun p2 hp2 => by
    have f1 := Ex.new (o := .tup vs) hp
    have f2 := Ex.new (o := .tup [.str "ring", .int (j : Int), .ref p]) hp2
    exact q _ _ (e2.trans (f1.trans f2)) (.ring upd_same (f2 p _ upd_same) (TmsAt.ex r (f1.trans f2)))⟩⟩
theorem yl_num {n : Nat} (h : Yl te σ H (IsV (.int (n : Int)))) : Yl (tTup (tCons (tC (.str "num")) (tCons te tNil))) σ H (TmR (.num n)) := fun H1 e Q q =>
  h H1 e _ fun H2 v e2 r => ⟨sz 2, fun p hp => q _ _ (e2.trans (Ex.new hp)) (.num (by rw [show v = .int (n : Int) from r, upd_same]))⟩
theorem yl_arg {n : Nat} (h : Yl te σ H (IsV (.int (n : Int)))) : Yl (tTup (tCons (tC (.str "arg")) (tCons te tNil))) σ H (TmR (.arg n)) := fun H1 e Q q =>
  h H1 e _ fun H2 v e2 r => ⟨sz 2, fun p hp => q _ _ (e2.trans (Ex.new hp)) (.arg (by rw [show v = .int (n : Int) from r, upd_same]))⟩
/-- a term and what is written of it -/
def Good (t : Tm) (ms : List Str) : Prop := t.Ok 11 ∧ t.deep ≤ 6 ∧ t.size ≤ 100 ∧ t.txt.length ≤ 1000 ∧ ms.length ≤ 100 ∧ ms.Pairwise tlt ∧ ∀ x, x ∈ ms ↔ x ∈ t.marks
def KnAt (N : Addr → Prop) (H : Hp) (v : V) (t : Tm) : Prop := ∃ (a : Addr) (tv : V) (c q : Addr) (ms : List Str), v = .ref a ∧ H a = some (.tup [tv, .str t.txt, .int (t.deep : Int), .int (t.size : Int), .ref c, .ref q]) ∧ TmAt H tv t ∧
  H c = some (.lst (ms.map V.str)) ∧ H q = some (.lst (t.places.map fun k : Nat => V.int (k : Int))) ∧ ¬ N c ∧ ¬ N q ∧ Good t ms
theorem KnAt.ex {N : Addr → Prop} {v : V} {t : Tm} {H' : Hp} (h : KnAt N H v t) (e : Ex H H') : KnAt N H' v t := by
  obtain ⟨a, tv, c, q, ms, h1, h2, h3, h4, h5, h6⟩ := h
  exact ⟨a, tv, c, q, ms, h1, e _ _ h2, h3.ex e, e _ _ h4, e _ _ h5, h6⟩
theorem KnAt.but {p : Addr} {v : V} {t : Tm} {H' : Hp} {xs : List V} (h : KnAt (· = p) H v t) (hp : H p = some (.lst xs)) (e : But p H H') : KnAt (· = p) H' v t := by
  obtain ⟨a, tv, c, q, ms, h1, h2, h3, h4, h5, h6, h7, h8⟩ := h
  have tu := e.tu hp
  exact ⟨a, tv, c, q, ms, h1, tu _ _ h2, h3.tu tu, e _ _ h6 h4, e _ _ h7 h5, h6, h7, h8⟩
theorem KnAt.new {p : Addr} {v : V} {t : Tm} {o : HO} (h : KnAt (fun _ => False) H v t) (hp : H p = none) : KnAt (· = p) (upd H p o) v t := by
  obtain ⟨a, tv, c, q, ms, h1, h2, h3, h4, h5, h6, h7, h8⟩ := h
  have e := Ex.new (o := o) hp
  exact ⟨a, tv, c, q, ms, h1, e _ _ h2, h3.ex e, e _ _ h4, e _ _ h5, (fun (z : c = p) => by rw [z, hp] at h4; cases h4), (fun (z : q = p) => by rw [z, hp] at h5; cases h5), h8⟩
theorem yl_kn {N : Addr → Prop} {t : Tm} {ms : List Str} {m : Nat} {d z : Int} {ca qa : TA} {tx : TE} {qs : List V} (hN : ∀ c, N c → H c ≠ none) (g : Good t ms) (h1 : Yl te σ H (TmR t)) (h2 : Yl tx σ H (ShS t.txt m)) (hd : d = (t.deep : Int)) (hz : z = (t.size : Int))
    (hc : Ya ca σ H (IsVs (ms.map V.str))) (hq : Ya qa σ H (IsVs qs)) (eq_ : qs = t.places.map fun k : Nat => V.int (k : Int)) (few : t.places.length ≤ 100) :
    Yl (tTup (tCons te (tCons tx (tCons (tC (.int d)) (tCons (tC (.int z)) (tCons (tLst ca) (tCons (tLst qa) tNil))))))) σ H (fun H v => KnAt N H v t) := fun H1 e Q q =>
  h1 H1 e _ fun H2 v e2 r => h2 H2 (e.trans e2) _ fun H3 u e3 ⟨s1, s2⟩ => hc H3 (e.trans (e2.trans e3)) _ fun H4 cs e4 rc => by
    have rc' : cs = ms.map V.str := rc
    subst rc'
    refine ⟨by rw [List.length_map]; exact Nat.le_trans g.2.2.2.2.1 (by decide), fun c hcn => ?_⟩
    have f1 := Ex.new (o := .lst (ms.map V.str)) hcn
    refine hq _ (e.trans (e2.trans (e3.trans (e4.trans f1)))) _ fun H5 us e5 rq => ?_
    have rq' : us = t.places.map fun k : Nat => V.int (k : Int) := (show us = qs from rq).trans eq_
    subst rq'
    refine ⟨by rw [List.length_map]; exact Nat.le_trans few (by decide), fun q1 hq1 => ⟨sz 6, fun p hp => ?_⟩⟩
    have f2 := Ex.new (o := .lst (t.places.map fun k : Nat => V.int (k : Int))) hq1
    have f3 := Ex.new (o := .tup [v, u, .int d, .int z, .ref c, .ref q1]) hp
    have hh : Ex H H4 := e.trans (e2.trans (e3.trans e4))
    refine q _ _ (e2.trans (e3.trans (e4.trans (f1.trans (e5.trans (f2.trans f3)))))) ⟨p, v, c, q1, ms, rfl, by rw [upd_same, s1, hd, hz], TmAt.ex r (e3.trans (e4.trans (f1.trans (e5.trans (f2.trans f3))))), (f2.trans f3) _ _ (e5 _ _ upd_same), f3 _ _ upd_same, ?_, ?_, g⟩
    · intro n
      have n0 := hN c n
      cases w : H c with
      | none => exact n0 w
      | some o =>
        rw [hh _ _ w] at hcn
        cases hcn
    · intro n
      have n0 := hN q1 n
      cases w : H q1 with
      | none => exact n0 w
      | some o =>
        rw [e5 _ _ (f1 _ _ (hh _ _ w))] at hq1
        cases hq1
end
inductive KnsAt (N : Addr → Prop) (H : Hp) : List V → List Tm → Prop where
  | nil : KnsAt N H [] []
  | cons {v : V} {vs : List V} {t : Tm} {ts : List Tm} : KnAt N H v t → KnsAt N H vs ts → KnsAt N H (v :: vs) (t :: ts)
theorem KnsAt.map {N N' : Addr → Prop} {H H' : Hp} (f : ∀ v t, KnAt N H v t → KnAt N' H' v t) : ∀ {vs : List V} {ts : List Tm}, KnsAt N H vs ts → KnsAt N' H' vs ts
  | _, _, .nil => .nil
  | _, _, .cons h hs => .cons (f _ _ h) (hs.map f)
theorem KnsAt.add {N : Addr → Prop} {H : Hp} {v : V} {t : Tm} (h : KnAt N H v t) : ∀ {vs : List V} {ts : List Tm}, KnsAt N H vs ts → KnsAt N H (vs ++ [v]) (ts ++ [t])
  | _, _, .nil => .cons h .nil
  | _, _, .cons k ks => .cons k (ks.add h)
theorem KnsAt.len {N : Addr → Prop} {H : Hp} : ∀ {vs : List V} {ts : List Tm}, KnsAt N H vs ts → vs.length = ts.length
  | _, _, .nil => rfl
  | _, _, .cons _ hs => by rw [List.length_cons, List.length_cons, hs.len]
theorem KnsAt.get {N : Addr → Prop} {H : Hp} : ∀ {vs : List V} {ts : List Tm}, KnsAt N H vs ts → ∀ {i : Nat} {v : V}, vs[i]? = some v → ∃ t, ts[i]? = some t ∧ KnAt N H v t
  | _, _, .nil, i, v, e => by simp at e
  | _, _, .cons h hs, 0, v, e => by
    cases Option.some.inj e
    exact ⟨_, rfl, h⟩
  | _, _, .cons h hs, i + 1, v, e => hs.get (i := i) (v := v) e
end V


set_option Elab.async false
set_option linter.all false
set_option maxRecDepth 100000
set_option maxHeartbeats 4000000
namespace V
open PySem PySem.Spec PyProof.Rows L2 Evl

end V


set_option Elab.async false
set_option linter.all false
set_option maxRecDepth 100000
set_option maxHeartbeats 4000000
namespace V
open PySem PySem.Spec PyProof.Rows L2 Evl
/-- d[key] of a written dict -/
def rIxD (K : PySem.W.Frag) (d : Addr) : R2 := fun x y H Q => ∃ (z : Str) (u0 : Value) (v0 : V), x = .ref d ∧ y = .str z ∧ PySem.W.nsIn K d z = some (some u0) ∧ RelV v0 u0 ∧ Q v0 H
theorem ix_kd {X : Cx} {d : Addr} {es : Array DictEntry} {n : Nat} (D : KDict X.K X.w d es n) : IxR X (rIxD X.K d) := by
  intro value slice pins s σ H x y v u Q I rx ry h hs
  obtain ⟨z, u0, v0, rfl, rfl, e, r, q⟩ := h
  cases rx
  exact tail_any (kd_type D I) PySem.F.slot_dict_getitem.lookup (op_item_kd D pins s σ H (.ref d) (.str z) _ _ Q I rfl ry ⟨z, u0, v0, rfl, rfl, e, r, q⟩) hs
def arOf (z : Str) : Nat := if z = "if" then 3 else 2
theorem op_of {z : Str} (h : z ∈ opWords) : ∃ o : Op, z = o.str ∧ arOf z = o.ar := by
  have h2 : z = "add" ∨ z = "less" ∨ z = "times" ∨ z = "under" ∨ z = "if" := by
    simpa [opWords] using h
  rcases h2 with rfl | rfl | rfl | rfl | rfl
  · exact ⟨.add, rfl, by decide +kernel⟩
  · exact ⟨.less, rfl, by decide +kernel⟩
  · exact ⟨.times, rfl, by decide +kernel⟩
  · exact ⟨.under, rfl, by decide +kernel⟩
  · exact ⟨.cond, rfl, by decide +kernel⟩
def one1 (f : PyData → Bool) : List PyData → Bool
  | [d] => f d
  | _ => false
def two2 (f g : PyData → Bool) : List PyData → Bool
  | [d, e] => f d && g e
  | _ => false
/-- it would be a term if its parts were -/
def headD : PyData → Bool
  | .tuple (.str z :: r) =>
    if z ∈ opWords then decide (r.length = arOf z)
    else if z = "num" then one1 (isNumD 1000002) r
    else if z = "arg" then one1 (isNumD 3) r
    else if z = "call" then two2 isMarkD isPartsD r
    else if z = "ring" then two2 (isNumD 11) isPartsD r
    else false
  | _ => false
theorem len_ne {xs : List V} {n : Int} (h : (xs.length : Int) ≠ n) : decide (V.int (xs.length : Int) = V.int n) = false := decide_eq_false fun z => h (V.int.inj z)
end V


set_option Elab.async false
set_option linter.all false
set_option maxRecDepth 100000
set_option maxHeartbeats 4000000
namespace V
open PySem PySem.Spec PyProof.Rows L2 Evl
def second : List PyData → List PyData
  | [_, .tuple ds] => ds
  | _ => []
/-- what would be its parts, of what is headed -/
def partsD : PyData → List PyData
  | .tuple (.str z :: r) => if z ∈ opWords then r else second r
  | _ => []
def isTm : Nat → PyData → Bool
  | 0, _ => false
  | n + 1, d => headD d && (partsD d).all (isTm n)
theorem Small.parts {d e : PyData} (s : Small d) (h : e ∈ partsD d) : Small e := by
  cases s with
  | tup h1 hk =>
    rename_i ds
    cases ds with
    | nil => cases h
    | cons c r =>
      cases c with
      | str z =>
        have h' : e ∈ (if z ∈ opWords then r else second r) := h
        split at h'
        · exact hk e (List.mem_cons_of_mem _ h')
        · unfold second at h'
          split at h'
          · rename_i x ds
            have := hk (.tuple ds) (by simp)
            cases this with
            | tup _ k2 => exact k2 e h'
          · cases h'
      | _ => cases h
  | _ => cases h
theorem Small.few {d : PyData} (s : Small d) : (partsD d).length ≤ 1000 := by
  cases s with
  | tup h1 hk =>
    rename_i ds
    cases ds with
    | nil => exact Nat.zero_le _
    | cons c r =>
      rw [List.length_cons] at h1
      cases c with
      | str z =>
        show (if z ∈ opWords then r else second r).length ≤ 1000
        split
        · omega
        · unfold second
          split
          · rename_i x ds
            have := hk (.tuple ds) (by simp)
            cases this with
            | tup k1 _ => exact k1
          · exact Nat.zero_le _
      | _ => exact Nat.zero_le _
  | _ => exact Nat.zero_le _
def spPartsD (K : PySem.W.Frag) : Sp := fun vs H Q _ => ∃ (v : V) (d : PyData), vs = [v] ∧ Dp K H v d ∧ headD d = true ∧
  ∀ (H' : Hp) (p : Addr) (us : List V), Ex H H' → SqT K H' p us → DpAll K H' us (partsD d) → Q (.ref p) H'
def spWithin (K : PySem.W.Frag) (n : Nat) : Sp := fun vs H Q _ => ∃ (m : Nat) (v : V) (d : PyData), vs = [.int (m : Int), v] ∧ m ≤ n ∧ Dp K H v d ∧ Small d ∧ ∀ (H' : Hp), Ex H H' → Q (.bl (isTm m d)) H'
theorem cut_tail (v : V) (ws : List V) : cutV (v :: ws) (some 1) none = ws := by
  show cutV (v :: ws) (some ((1 : Nat) : Int)) none = ws
  unfold cutV
  rw [HT.sIx_nat, HT.sIx_none, List.length_cons, Nat.min_eq_left (by omega)]
  show (List.take (ws.length + 1 - 1) ws) = ws
  exact List.take_length
end V


set_option Elab.async false
set_option linter.all false
set_option maxRecDepth 100000
set_option maxHeartbeats 4000000
namespace V
open PySem PySem.Spec PyProof.Rows L2 Evl TL NumText
def spHeadText : Sp := fun vs H Q _ => ∃ (v : V) (h : Hd) (ts : List Tm) (M : Nat), vs = [v] ∧ TmAt H v (.node h ts) ∧ h.ok M ts.length ∧ M ≤ 1000000 ∧ ∀ (H' : Hp), Ex H H' → Q (.str h.S) H'
def spText (n : Nat) : Sp := fun vs H Q _ => ∃ (v : V) (t : Tm) (M : Nat), vs = [v] ∧ TmAt H v t ∧ t.Ok M ∧ M ≤ 1000000 ∧ t.deep ≤ n ∧ t.size ≤ 1000 ∧ ∀ (H' : Hp), Ex H H' → Q (.str t.txt) H'
end V


set_option Elab.async false
set_option linter.all false
set_option maxRecDepth 100000
set_option maxHeartbeats 4000000
namespace V
open PySem PySem.Spec PyProof.Rows L2 Evl TL NumText
/-! ### numbers of texts -/
def figs : List Nat := [48, 49, 50, 51, 52, 53, 54, 55, 56, 57]
theorem figs_iff (c : Nat) : c ∈ figs ↔ 48 ≤ c ∧ c ≤ 57 := by
  unfold figs
  simp only [List.mem_cons, List.not_mem_nil, or_false]
  omega
def isNumL (l : List Nat) : Bool := decide (1 ≤ l.length) && decide (l.length ≤ 7) && l.all (fun c => decide (c ∈ figs)) && decide (digitsVal l ≤ 1000002) && decide (TL.numL (digitsVal l) = l)
/-- the number that it writes -/
def numV (z : Str) : V := if isNumL (tl z) then .int ((digitsVal (tl z) : Nat) : Int) else .non
theorem numV_nt {n : Nat} (h : n ≤ 1000002) : numV (nt n) = .int (n : Int) := by
  have e : tl (nt n) = TL.numL n := tl_nt n
  have d := TL.numL_digits n
  unfold numV
  rw [e, TL.numL_val]
  refine if_pos ?_
  unfold isNumL
  rw [TL.numL_val]
  simp only [Bool.and_eq_true, decide_eq_true_eq, List.all_eq_true]
  refine ⟨⟨⟨⟨?_, ?_⟩, fun c hc => (figs_iff c).mpr (d c hc)⟩, h⟩, trivial⟩
  · exact List.length_pos_iff.mpr (TL.numL_ne n)
  · have := nt_len (n := n) (by omega)
    rw [len_tl, e] at this
    exact this
def spNumIn : Sp := fun vs H Q _ => ∃ z : Str, vs = [.str z] ∧ z.length ≤ 1000000 ∧ ∀ (H' : Hp), Ex H H' → Q (numV z) H'
theorem nat_le_int {a b : Nat} : decide ((a : Int) ≤ (b : Int)) = decide (a ≤ b) := by
  rw [decide_eq_decide]
  omega
def figS : Str := "0123456789"
theorem figS_tl : figS.cps.toList = figs := by decide +kernel
end V


set_option Elab.async false
set_option linter.all false
set_option maxRecDepth 100000
set_option maxHeartbeats 4000000
namespace V
open PySem PySem.Spec PyProof.Rows L2 Evl TL NumText
/-! ### words of texts -/
def letters : List Str := ["a", "b", "c", "d"]
def lix (z : Str) : Option Nat := if z = "a" then some 0 else if z = "b" then some 1 else if z = "c" then some 2 else if z = "d" then some 3 else none
def leafL (z : Str) : List V := match lix z with
  | some k => [.str "arg", .int (k : Int)]
  | none => [.str "num", numV z]
theorem lix_some {z : Str} {k : Nat} (h : lix z = some k) : letters[k]? = some z ∧ ∀ m, m < k → letters[m]? ≠ some z := by
  unfold lix at h
  split at h
  · rename_i e
    cases h
    subst e
    exact ⟨rfl, fun m hm => absurd hm (by omega)⟩
  split at h
  · rename_i e
    cases h
    subst e
    exact ⟨rfl, by decide +kernel⟩
  split at h
  · rename_i e
    cases h
    subst e
    exact ⟨rfl, by decide +kernel⟩
  split at h
  · rename_i e
    cases h
    subst e
    exact ⟨rfl, by decide +kernel⟩
  · cases h
theorem lix_in (z : Str) : inV (.str z) [.str "a", .str "b", .str "c", .str "d"] = (lix z).isSome := by
  have e : inV (.str z) [.str "a", .str "b", .str "c", .str "d"] = ((("a" : Str) == z) || ((("b" : Str) == z) || ((("c" : Str) == z) || ((("d" : Str) == z) || false)))) := rfl
  rw [e]
  unfold lix
  by_cases c1 : z = "a"
  · subst c1; decide +kernel
  by_cases c2 : z = "b"
  · subst c2; decide +kernel
  by_cases c3 : z = "c"
  · subst c3; decide +kernel
  by_cases c4 : z = "d"
  · subst c4; decide +kernel
  rw [if_neg c1, if_neg c2, if_neg c3, if_neg c4, beq_eq_false_iff_ne.mpr (Ne.symm c1), beq_eq_false_iff_ne.mpr (Ne.symm c2), beq_eq_false_iff_ne.mpr (Ne.symm c3), beq_eq_false_iff_ne.mpr (Ne.symm c4)]
  rfl
def spLeaf : Sp := fun vs H Q _ => ∃ z : Str, vs = [.str z] ∧ z.length ≤ 1000000 ∧ ∀ (H' : Hp) (p : Addr), Ex H H' → H' p = some (.tup (leafL z)) → Q (.ref p) H'
/-- blank, brackets -/
def stops : List Nat := [32, 40, 41]
def stopS : Str := " ()"
theorem stopS_tl : stopS.cps.toList = stops := by decide +kernel
def spWordAt : Sp := fun vs H Q _ => ∃ (z x : Str) (a b : List Nat), vs = [.str z, .int (a.length : Int)] ∧ z.length ≤ 1000000 ∧ tl z = a ++ (tl x ++ b) ∧ (∀ c ∈ tl x, c ∉ stops) ∧ (∀ c, b.head? = some c → c ∈ stops) ∧
  ∀ (H' : Hp), Ex H H' → Q (.str x) H'
theorem cut_mid {z x : Str} {a b : List Nat} (h : tl z = a ++ (tl x ++ b)) : cutS z (some (a.length : Int)) (some ((a.length + x.length : Nat) : Int)) = x := by
  have hz : z.length = a.length + (x.length + b.length) := by
    rw [len_tl, h, List.length_append, List.length_append, ← len_tl]
  unfold cutS
  rw [HT.sIx_nat, HT.sIx_nat, Nat.min_eq_left (by omega), Nat.min_eq_left (by omega)]
  refine ext_tl ?_
  show List.take _ (List.drop _ (tl z)) = tl x
  rw [h, List.drop_left, show a.length + x.length - a.length = (tl x).length by rw [← len_tl]; omega, List.take_left]
end V


set_option Elab.async false
set_option linter.all false
set_option maxRecDepth 100000
set_option maxHeartbeats 4000000
namespace V
open PySem PySem.Spec PyProof.Rows L2 Evl TL NumText
/-! ### terms of texts -/
/-- the parts, a blank ahead of each -/
def tails (ts : List Tm) : List Nat := ts.flatMap fun t => 32 :: tl t.txt
theorem join_tails (x : List Nat) (ts : List Tm) : joinL [32] (x :: (ts.map fun t => tl t.txt)) = x ++ tails ts := by
  induction ts generalizing x with
  | nil => show x = x ++ []; rw [List.append_nil]
  | cons t ts ih =>
    show x ++ ([32] ++ joinL [32] (tl t.txt :: ts.map fun t => tl t.txt)) = x ++ ((32 :: tl t.txt) ++ tails ts)
    rw [ih]
    rfl
theorem tl_node (h : Hd) (ts : List Tm) : tl (Tm.node h ts).txt = 40 :: (tl h.S ++ (tails ts ++ [41])) := by
  show tl (("(" : Str) ++ Str.join " " (h.S :: Tm.txts ts) ++ ")") = _
  have o1 : tl ("(" : Str) = [40] := by decide +kernel
  have o2 : tl (")" : Str) = [41] := by decide +kernel
  have o3 : tl (" " : Str) = [32] := by decide +kernel
  rw [tl_append, tl_append, tl_join, o1, o2, o3, txts_map, List.map_cons, List.map_map]
  show [40] ++ joinL [32] (tl h.S :: ts.map fun t => tl t.txt) ++ [41] = _
  rw [join_tails, List.append_assoc, List.append_assoc]
  rfl
theorem tails_take {ts : List Tm} {i : Nat} {t : Tm} (h : ts[i]? = some t) : tails ts = tails (ts.take i) ++ (32 :: (tl t.txt ++ tails (ts.drop (i + 1)))) := by
  have hi := (List.getElem?_eq_some_iff.mp h)
  obtain ⟨h1, h2⟩ := hi
  conv => lhs; rw [← List.take_append_drop i ts, List.drop_eq_getElem_cons h1, h2]
  unfold tails
  rw [List.flatMap_append, List.flatMap_cons]
  rfl
theorem tails_more {ts : List Tm} {i : Nat} {t : Tm} (h : ts[i]? = some t) : tails (ts.take (i + 1)) = tails (ts.take i) ++ (32 :: tl t.txt) := by
  rw [take_more h]
  unfold tails
  rw [List.flatMap_append]
  show _ ++ ((32 :: tl t.txt) ++ []) = _
  rw [List.append_nil]
theorem cut_one {z : Str} {a b : List Nat} {c : Nat} (h : tl z = a ++ (c :: b)) : cutS z (some (a.length : Int)) (some ((a.length : Int) + 1)) = ⟨#[c]⟩ := cut_mid (x := ⟨#[c]⟩) h
theorem cut_first {z : Str} {b : List Nat} {c : Nat} (h : tl z = c :: b) : cutS z none (some 1) = ⟨#[c]⟩ := by
  have e : cutS z (some ((0 : Nat) : Int)) (some 1) = ⟨#[c]⟩ := cut_one (a := []) h
  have e2 : cutS z none (some 1) = cutS z (some ((0 : Nat) : Int)) (some 1) := by
    unfold cutS
    rw [HT.sIx_none, HT.sIx_nat, Nat.zero_min]
  rw [e2, e]
theorem cut_rest {z x : Str} {c : Nat} (h : tl z = c :: tl x) : cutS z (some 1) none = x := by
  have e : cutS z (some (([c].length : Nat) : Int)) (some (([c].length + x.length : Nat) : Int)) = x := cut_mid (a := [c]) (b := []) (by rw [h, List.append_nil]; rfl)
  have e2 : cutS z (some 1) none = cutS z (some (([c].length : Nat) : Int)) (some (([c].length + x.length : Nat) : Int)) := by
    have hz : z.length = 1 + x.length := by rw [len_tl, h, List.length_cons, ← len_tl]; omega
    have e1 : HT.sIx z.length z.length (some (([c].length + x.length : Nat) : Int)) = z.length := by
      rw [HT.sIx_nat]
      show min (1 + x.length) z.length = z.length
      omega
    unfold cutS
    rw [HT.sIx_none, e1]
    rfl
  rw [e2, e]
theorem letter_stops {k : Nat} (h : k ≤ 3) : ∀ c ∈ tl (letter k), c ∉ stops := by
  match k, h with
  | 0, _ => decide +kernel
  | 1, _ => decide +kernel
  | 2, _ => decide +kernel
  | 3, _ => decide +kernel
  | n + 4, h => omega
theorem num_stops (n : Nat) : ∀ c ∈ TL.numL n, c ∉ stops := fun c hc => by
  have := TL.numL_digits n c hc
  unfold stops
  simp only [List.mem_cons, List.not_mem_nil, or_false]
  omega
theorem mk_stops {m : Str} (h : isMk m) : ∀ c ∈ tl m, c ∉ stops := fun c hc => by
  have := h.2 c hc
  unfold stops
  simp only [List.mem_cons, List.not_mem_nil, or_false]
  omega
theorem hd_stops {M n : Nat} {h : Hd} (k : h.ok M n) : ∀ c ∈ tl h.S, c ∉ stops := by
  cases h with
  | op o => cases o <;> decide +kernel
  | call m =>
    show ∀ c ∈ tl (("#" : Str) ++ m), c ∉ stops
    rw [tl_append]
    intro c hc
    rcases List.mem_append.mp hc with hc | hc
    · exact (by decide +kernel : ∀ c ∈ tl ("#" : Str), c ∉ stops) c hc
    · exact mk_stops k.1 c hc
  | ring p =>
    show ∀ c ∈ tl (("@" : Str) ++ nt p), c ∉ stops
    rw [tl_append, tl_nt]
    intro c hc
    rcases List.mem_append.mp hc with hc | hc
    · exact (by decide +kernel : ∀ c ∈ tl ("@" : Str), c ∉ stops) c hc
    · exact num_stops p c hc
/-- a number or an argument: no bracket, just this leaf -/
theorem leaf_stops {M : Nat} {t : Tm} (h : t.Ok M) (hn : t.parts = []) (hh : ∀ h ts, t ≠ .node h ts) : (∀ c ∈ tl t.txt, c ∉ stops) ∧ tl t.txt ≠ [] := by
  cases h with
  | @num n hn' =>
    show (∀ c ∈ tl (nt n), c ∉ stops) ∧ tl (nt n) ≠ []
    rw [tl_nt]
    exact ⟨num_stops n, TL.numL_ne n⟩
  | arg hk =>
    rename_i k
    refine ⟨letter_stops hk, fun e => ?_⟩
    have l := letter_len hk
    rw [len_tl] at l
    have e' : tl (letter k) = [] := e
    rw [e'] at l
    cases l
  | node _ _ => exact absurd rfl (hh _ _)
theorem lix_letter {k : Nat} (h : k ≤ 3) : lix (letter k) = some k := by
  match k, h with
  | 0, _ => decide +kernel
  | 1, _ => decide +kernel
  | 2, _ => decide +kernel
  | 3, _ => decide +kernel
  | n + 4, h => omega
theorem lix_nt (n : Nat) : lix (nt n) = none := by
  have no : ∀ s : Str, (∃ c ∈ tl s, 57 < c) → nt n ≠ s := fun s ⟨c, h1, h2⟩ e => by
    have h3 := congrArg tl e
    rw [tl_nt] at h3
    have := TL.numL_digits n c (by
      show c ∈ dig n
      rw [h3]
      exact h1)
    omega
  unfold lix
  rw [if_neg (no "a" (by decide +kernel)), if_neg (no "b" (by decide +kernel)), if_neg (no "c" (by decide +kernel)), if_neg (no "d" (by decide +kernel))]
/-- the leaf that it writes -/
theorem leaf_at {M : Nat} {t : Tm} {H : Hp} {p : Addr} (h : t.Ok M) (hh : ∀ h ts, t ≠ .node h ts) (hp : H p = some (.tup (leafL t.txt))) : TmAt H (.ref p) t := by
  cases h with
  | num hn =>
    rename_i n
    have e : leafL (Tm.num n).txt = [.str "num", .int (n : Int)] := by
      show leafL (nt n) = _
      unfold leafL
      rw [lix_nt, numV_nt hn]
    rw [e] at hp
    exact .num hp
  | arg hk =>
    rename_i k
    have e : leafL (Tm.arg k).txt = [.str "arg", .int (k : Int)] := by
      show leafL (letter k) = _
      unfold leafL
      rw [lix_letter hk]
    rw [e] at hp
    exact .arg hp
  | node _ _ => exact absurd rfl (hh _ _)
end V


set_option Elab.async false
set_option linter.all false
set_option maxRecDepth 100000
set_option maxHeartbeats 4000000
namespace V
open PySem PySem.Spec PyProof.Rows L2 Evl TL NumText
/-! ### alike, kind by kind -/
inductive DepN : Nat → PyData → Prop where
  | int {n : Nat} (i : Int) : DepN (n + 1) (.int i)
  | str {n : Nat} (x : Str) : DepN (n + 1) (.str x)
  | lst {n : Nat} {ds : List PyData} : ds.length ≤ 1000 → (∀ d ∈ ds, DepN n d) → DepN (n + 1) (.list ds)
  | tup {n : Nat} {ds : List PyData} : ds.length ≤ 1000 → (∀ d ∈ ds, DepN n d) → DepN (n + 1) (.tuple ds)
theorem DepN.up : ∀ {n m : Nat} {d : PyData}, DepN n d → n ≤ m → DepN m d
  | n + 1, m + 1, _, .int i, h => .int i
  | n + 1, m + 1, _, .str i, h => .str i
  | n + 1, m + 1, _, .lst l k, h => .lst l fun d hd => (k d hd).up (Nat.le_of_succ_le_succ h)
  | n + 1, m + 1, _, .tup l k, h => .tup l fun d hd => (k d hd).up (Nat.le_of_succ_le_succ h)
def isLstD : PyData → Bool
  | .list _ => true
  | _ => false
theorem kit_lst : ∀ d : PyData, kitB (kind d) "list" = some (isLstD d)
  | .none => (by decide +kernel : kitB "NoneType" "list" = some false)
  | .bool _ => (by decide +kernel : kitB "bool" "list" = some false)
  | .int _ => (by decide +kernel : kitB "int" "list" = some false)
  | .str _ => (by decide +kernel : kitB "str" "list" = some false)
  | .list _ => (by decide +kernel : kitB "list" "list" = some true)
  | .tuple _ => (by decide +kernel : kitB "tuple" "list" = some false)
  | .dict _ => (by decide +kernel : kitB "dict" "list" = some false)
theorem kit_two (K : PySem.W.Frag) (d : PyData) : PySem.W.kitAny K (.type (kind d)) [.type "list", .type "tuple"] = some (isLstD d || isTupD d) := by
  refine kitAny_cons (kit_ty (kit_lst d)) (fun h => ?_) (fun h => by rw [h]; rfl)
  rw [h]
  refine kitAny_cons (kit_ty (kit_tup d)) (fun h => ?_) (fun h => by rw [h]; rfl)
  rw [h]
  rfl
theorem walk_zip2 {K : PySem.W.Frag} {a b : Addr} {us ws : List V} (hl : us.length = ws.length) : Walk (RZ.ItzT K a b) us.length (fun H => SqT K H a us ∧ SqT K H b ws) (YPair (fun i => us[i]?) (fun i => ws[i]?)) := by
  refine ⟨fun i _ hi g => ?_, fun _ g => ⟨us, ws, g.1, g.2, .inl (Nat.le_refl _)⟩, fun i H v H' _ g e => ?_⟩
  · exact ⟨us, ws, us[i], ws[i]'(by omega), g.1, g.2, List.getElem?_eq_getElem hi, List.getElem?_eq_getElem (by omega)⟩
  · obtain ⟨t, u, c, k1, k2, k3, k4, k5⟩ := e
    exact ⟨t, u, c, k1, k2, k3, k4 us g.1, k5 ws g.2⟩
def spSame (K : PySem.W.Frag) (n : Nat) : Sp := fun vs H Q _ => ∃ (v w : V) (d : PyData), vs = [v, w] ∧ Dp K H v d ∧ Dp K H w d ∧ DepN n d ∧ ∀ (H' : Hp), Ex H H' → Q (.bl true) H'
end V


set_option Elab.async false
set_option linter.all false
set_option maxRecDepth 100000
set_option maxHeartbeats 4000000
namespace V
open PySem PySem.Spec PyProof.Rows L2 Evl TL NumText
def spTermAt (n : Nat) : Sp := fun vs H Q _ => ∃ (z : Str) (a b : List Nat) (t : Tm) (d M : Nat), vs = [.str z, .int (a.length : Int), .int (d : Int)] ∧ z.length ≤ 1000000 ∧ tl z = a ++ (tl t.txt ++ b) ∧
  (∀ c, b.head? = some c → c ∈ stops) ∧ t.Ok M ∧ M ≤ 1000000 ∧ t.deep ≤ d ∧ d ≤ n ∧
  ∀ (H' : Hp) (p : Addr) (v : V), Ex H H' → H' p = some (.tup [v, .int ((a.length + t.txt.length : Nat) : Int)]) → TmAt H' v t → Q (.ref p) H'
def spBracketAt (n : Nat) : Sp := fun vs H Q _ => ∃ (z : Str) (a b : List Nat) (h : Hd) (ts : List Tm) (d M : Nat), vs = [.str z, .int (a.length : Int), .int (d : Int)] ∧ z.length ≤ 1000000 ∧ tl z = a ++ (tl (Tm.node h ts).txt ++ b) ∧
  (Tm.node h ts).Ok M ∧ M ≤ 1000000 ∧ (Tm.node h ts).deep ≤ d ∧ d ≤ n ∧
  ∀ (H' : Hp) (p : Addr) (v : V), Ex H H' → H' p = some (.tup [v, .int ((a.length + (Tm.node h ts).txt.length : Nat) : Int)]) → TmAt H' v (.node h ts) → Q (.ref p) H'
theorem eq_sign {c : Nat} {s : Str} {d : Nat} (h : s = ⟨#[d]⟩) : decide (V.str ⟨#[c]⟩ = V.str s) = decide (c = d) := by
  subst h
  rw [eq_word, decide_eq_decide]
  refine ⟨fun e => ?_, fun e => by rw [e]⟩
  have := congrArg tl e
  exact (List.cons.inj this).1
section
variable {P : Program} {w : World} {K : PySem.W.Frag} {mg : Str → Option Value} {base : Heap}
def spTermIn (K : PySem.W.Frag) : Sp := fun vs H Q _ => ∃ (t : Tm) (M : Nat), vs = [.str t.txt] ∧ t.txt.length ≤ 1000000 ∧ t.Ok M ∧ M ≤ 11 ∧ t.deep ≤ 8 ∧ ∀ (H' : Hp) (v : V), Ex H H' → TmAt H' v t → Q v H'
end
end V


set_option Elab.async false
set_option linter.all false
set_option maxRecDepth 100000
set_option maxHeartbeats 4000000
namespace V
open PySem PySem.Spec PyProof.Rows L2 Evl TL NumText
/-! ### terms as data -/
mutual
def Tm.py : Tm → PyData
  | .num n => .tuple [.str "num", .int (n : Int)]
  | .arg k => .tuple [.str "arg", .int (k : Int)]
  | .node h ts => match h with
    | .op o => .tuple (.str o.str :: Tm.pys ts)
    | .call m => .tuple [.str "call", .str m, .tuple (Tm.pys ts)]
    | .ring p => .tuple [.str "ring", .int (p : Int), .tuple (Tm.pys ts)]
def Tm.pys : List Tm → List PyData
  | [] => []
  | t :: ts => t.py :: Tm.pys ts
end
theorem pys_map (ts : List Tm) : Tm.pys ts = ts.map Tm.py := by
  induction ts with
  | nil => rfl
  | cons t ts ih =>
    show t.py :: Tm.pys ts = t.py :: ts.map Tm.py
    rw [ih]
section
variable {K : PySem.W.Frag} {H : Hp}
mutual
theorem TmAt.dp : ∀ {v : V} {t : Tm}, TmAt H v t → Dp K H v t.py
  | _, _, .num h => .tup (SqT.of h) (.cons (.str _) (.cons (.int _) .nil))
  | _, _, .arg h => .tup (SqT.of h) (.cons (.str _) (.cons (.int _) .nil))
  | _, _, .op h hs => .tup (SqT.of h) (.cons (.str _) hs.dp)
  | _, _, .call h hp hs => .tup (SqT.of h) (.cons (.str _) (.cons (.str _) (.cons (.tup (SqT.of hp) hs.dp) .nil)))
  | _, _, .ring h hp hs => .tup (SqT.of h) (.cons (.str _) (.cons (.int _) (.cons (.tup (SqT.of hp) hs.dp) .nil)))
theorem TmsAt.dp : ∀ {vs : List V} {ts : List Tm}, TmsAt H vs ts → DpAll K H vs (Tm.pys ts)
  | _, _, .nil => .nil
  | _, _, .cons h hs => .cons h.dp hs.dp
end
end
theorem mk_in {m : Str} (h : isMk m) : isMarkD (.str m) = true := by
  show (m.length == 6 && m.cps.toList.all fun c => decide (c ∈ sgM.cps.toList)) = true
  rw [h.1]
  show (m.cps.toList.all fun c => decide (c ∈ sgM.cps.toList)) = true
  rw [List.all_eq_true]
  intro c hc
  have r := h.2 c hc
  have all : ∀ c : Nat, c < 123 → ((48 ≤ c ∧ c ≤ 57) ∨ (97 ≤ c ∧ c ≤ 122)) → c ∈ sgM.cps.toList := by decide +kernel
  exact decide_eq_true (all c (by omega) r)
theorem headD_eq (z : Str) (r : List PyData) : headD (.tuple (.str z :: r)) = if z ∈ opWords then decide (r.length = arOf z) else if z = "num" then one1 (isNumD 1000002) r else if z = "arg" then one1 (isNumD 3) r
    else if z = "call" then two2 isMarkD isPartsD r else if z = "ring" then two2 (isNumD 11) isPartsD r else false := rfl
theorem headD_num (r : List PyData) : headD (.tuple (.str "num" :: r)) = one1 (isNumD 1000002) r := by
  rw [headD_eq, if_neg (by decide +kernel), if_pos rfl]
theorem headD_arg (r : List PyData) : headD (.tuple (.str "arg" :: r)) = one1 (isNumD 3) r := by
  rw [headD_eq, if_neg (by decide +kernel), if_neg (by decide +kernel), if_pos rfl]
theorem headD_call (r : List PyData) : headD (.tuple (.str "call" :: r)) = two2 isMarkD isPartsD r := by
  rw [headD_eq, if_neg (by decide +kernel), if_neg (by decide +kernel), if_neg (by decide +kernel), if_pos rfl]
theorem headD_ring (r : List PyData) : headD (.tuple (.str "ring" :: r)) = two2 (isNumD 11) isPartsD r := by
  rw [headD_eq, if_neg (by decide +kernel), if_neg (by decide +kernel), if_neg (by decide +kernel), if_neg (by decide +kernel), if_pos rfl]
theorem Hd.ok.up {M M' n : Nat} (h : M ≤ M') {hd : Hd} (k : hd.ok M n) : hd.ok M' n := by
  cases hd with
  | op o => exact k
  | call m => exact k
  | ring p => exact ⟨Nat.le_trans k.1 h, k.2⟩
theorem Tm.Ok.up {M M' : Nat} (h : M ≤ M') : ∀ {t : Tm}, t.Ok M → t.Ok M'
  | _, .num k => .num k
  | _, .arg k => .arg k
  | _, .node k ks => .node (k.up h) fun t ht => (ks t ht).up h
theorem headD_op {z : Str} (h : z ∈ opWords) (r : List PyData) : headD (.tuple (.str z :: r)) = decide (r.length = arOf z) := if_pos h
theorem partsD_op {z : Str} (h : z ∈ opWords) (r : List PyData) : partsD (.tuple (.str z :: r)) = r := if_pos h
theorem partsD_no {z : Str} (h : z ∉ opWords) (r : List PyData) : partsD (.tuple (.str z :: r)) = second r := if_neg h
theorem py_isTm : ∀ (n : Nat) (t : Tm), t.Ok 11 → t.deep ≤ n → isTm n t.py = true
  | 0, t, _, h => by
    have := deep_pos t
    omega
  | n + 1, t, k, h => by
    cases k with
    | @num m hm =>
      show (headD (.tuple [.str "num", .int (m : Int)]) && (partsD (.tuple [.str "num", .int (m : Int)])).all (isTm n)) = true
      have e1 : headD (.tuple [.str "num", .int (m : Int)]) = (decide (0 ≤ (m : Int)) && decide ((m : Int) ≤ 1000002)) := by
        exact headD_num _
      have e2 : partsD (.tuple [.str "num", .int (m : Int)]) = [] := by
        exact partsD_no (by decide +kernel) _
      rw [e1, e2, decide_eq_true (by omega), decide_eq_true (by omega)]
      rfl
    | @arg m hm =>
      show (headD (.tuple [.str "arg", .int (m : Int)]) && (partsD (.tuple [.str "arg", .int (m : Int)])).all (isTm n)) = true
      have e1 : headD (.tuple [.str "arg", .int (m : Int)]) = (decide (0 ≤ (m : Int)) && decide ((m : Int) ≤ 3)) := by
        exact headD_arg _
      have e2 : partsD (.tuple [.str "arg", .int (m : Int)]) = [] := by
        exact partsD_no (by decide +kernel) _
      rw [e1, e2, decide_eq_true (by omega), decide_eq_true (by omega)]
      rfl
    | @node hd ts hok hks =>
      have hdl : ∀ u ∈ ts, u.deep ≤ n := fun u hu => by
        have : u.deep + 1 ≤ (Tm.node hd ts).deep := parts_deep (t := .node hd ts) hu
        omega
      have rest : (Tm.pys ts).all (isTm n) = true := by
        rw [pys_map, List.all_map, List.all_eq_true]
        exact fun u hu => py_isTm n u (hks u hu) (hdl u hu)
      have len : (Tm.pys ts).length = ts.length := by rw [pys_map, List.length_map]
      show (headD (Tm.node hd ts).py && (partsD (Tm.node hd ts).py).all (isTm n)) = true
      cases hd with
      | op o =>
        have io : o.str ∈ opWords := by cases o <;> decide +kernel
        have e1 : headD (Tm.node (.op o) ts).py = true := by
          refine (headD_op io _).trans ?_
          rw [len]
          refine decide_eq_true ?_
          have : ts.length = o.ar := hok
          rw [this]
          cases o <;> decide +kernel
        have e2 : partsD (Tm.node (.op o) ts).py = Tm.pys ts := partsD_op io _
        rw [e1, e2, rest]
        rfl
      | call m =>
        have e1 : headD (Tm.node (.call m) ts).py = true := by
          refine (headD_call _).trans ?_
          show (isMarkD (.str m) && decide ((Tm.pys ts).length ≤ 4)) = true
          rw [mk_in hok.1, len, decide_eq_true hok.2]
          rfl
        have e2 : partsD (Tm.node (.call m) ts).py = Tm.pys ts := partsD_no (by decide +kernel) _
        rw [e1, e2, rest]
        rfl
      | ring p =>
        have e1 : headD (Tm.node (.ring p) ts).py = true := by
          refine (headD_ring _).trans ?_
          show ((decide (0 ≤ (p : Int)) && decide ((p : Int) ≤ 11)) && decide ((Tm.pys ts).length ≤ 4)) = true
          have hp : p ≤ 11 := hok.1
          rw [decide_eq_true (by omega), decide_eq_true (by omega), len, decide_eq_true hok.2]
          rfl
        have e2 : partsD (Tm.node (.ring p) ts).py = Tm.pys ts := partsD_no (by decide +kernel) _
        rw [e1, e2, rest]
        rfl
theorem py_small : ∀ {M : Nat} (t : Tm), t.Ok M → Small t.py
  | M, t, k => by
    have w : ∀ x : Str, x.length ≤ 5 → Small (.str x) := fun x h => .str (by omega)
    have two : ∀ {a b : PyData}, Small a → Small b → Small (.tuple [a, b]) := fun ha hb => .tup (by show 2 ≤ 1000; omega) fun d hd => by
      rcases List.mem_cons.mp hd with rfl | hd
      · exact ha
      · rw [List.mem_singleton.mp hd]
        exact hb
    have three : ∀ {a b c : PyData}, Small a → Small b → Small c → Small (.tuple [a, b, c]) := fun ha hb hc => .tup (by show 3 ≤ 1000; omega) fun d hd => by
      rcases List.mem_cons.mp hd with rfl | hd
      · exact ha
      rcases List.mem_cons.mp hd with rfl | hd
      · exact hb
      · rw [List.mem_singleton.mp hd]
        exact hc
    cases k with
    | num _ => exact two (w _ (by decide +kernel)) (.int _)
    | arg _ => exact two (w _ (by decide +kernel)) (.int _)
    | @node hd ts hok hks =>
      have le := hok.le
      have rest : ∀ d ∈ Tm.pys ts, Small d := fun d hd => by
        rw [pys_map] at hd
        obtain ⟨u, hu, rfl⟩ := List.mem_map.mp hd
        exact py_small u (hks u hu)
      have len : (Tm.pys ts).length = ts.length := by rw [pys_map, List.length_map]
      have pt : Small (.tuple (Tm.pys ts)) := .tup (by omega) rest
      cases hd with
      | op o =>
        refine .tup (by rw [List.length_cons]; omega) fun d hd => ?_
        rcases List.mem_cons.mp hd with rfl | hd
        · exact w _ (by cases o <;> decide +kernel)
        · exact rest d hd
      | call m => exact three (w _ (by decide +kernel)) (.str (by rw [hok.1.1]; decide)) pt
      | ring p => exact three (w _ (by decide +kernel)) (.int _) pt
end V


set_option Elab.async false
set_option linter.all false
set_option maxRecDepth 100000
set_option maxHeartbeats 400000
namespace V
open PySem PySem.Spec PyProof.Rows L2 Evl TL NumText
theorem pys_dep {n : Nat} (ts : List Tm) (h : ∀ t ∈ ts, DepN n t.py) : ∀ d ∈ Tm.pys ts, DepN n d := fun d hd => by
  rw [pys_map] at hd
  obtain ⟨t, ht, rfl⟩ := List.mem_map.mp hd
  exact h t ht
theorem py_dep : ∀ (n M : Nat) (t : Tm), t.Ok M → t.deep ≤ n → DepN (2 * n) t.py
  | 0, _, t, _, h => by
    have := deep_pos t
    omega
  | n + 1, M, t, k, h => by
    have flat2 : ∀ {a b : PyData}, DepN (2 * n + 1) a → DepN (2 * n + 1) b → DepN (2 * (n + 1)) (.tuple [a, b]) := fun ha hb => .tup (by show 2 ≤ 1000; omega) fun d hd => by
      rcases List.mem_cons.mp hd with rfl | hd
      · exact ha
      · rw [List.mem_singleton.mp hd]
        exact hb
    have flat3 : ∀ {a b c : PyData}, DepN (2 * n + 1) a → DepN (2 * n + 1) b → DepN (2 * n + 1) c → DepN (2 * (n + 1)) (.tuple [a, b, c]) := fun ha hb hc => .tup (by show 3 ≤ 1000; omega) fun d hd => by
      rcases List.mem_cons.mp hd with rfl | hd
      · exact ha
      rcases List.mem_cons.mp hd with rfl | hd
      · exact hb
      · rw [List.mem_singleton.mp hd]
        exact hc
    cases k with
    | num _ => exact flat2 (.str _) (.int _)
    | arg _ => exact flat2 (.str _) (.int _)
    | @node hd ts hok hks =>
      have le := hok.le
      have each : ∀ u ∈ ts, DepN (2 * n) u.py := fun u hu => by
        have : u.deep + 1 ≤ (Tm.node hd ts).deep := parts_deep (t := .node hd ts) hu
        exact py_dep n M u (hks u hu) (by omega)
      have len : (Tm.pys ts).length = ts.length := by rw [pys_map, List.length_map]
      have pt : DepN (2 * n + 1) (.tuple (Tm.pys ts)) := .tup (by omega) (pys_dep ts each)
      cases hd with
      | op o =>
        refine .tup (by rw [List.length_cons]; omega) fun d hd => ?_
        rcases List.mem_cons.mp hd with rfl | hd
        · exact .str _
        · exact (pys_dep ts each d hd).up (Nat.le_succ (2 * n))
      | call m => exact flat3 (.str _) (.str _) pt
      | ring p => exact flat3 (.str _) (.int _) pt
theorem places_len (t : Tm) : t.places.length ≤ t.size := by
  rw [← all_len t]
  unfold Tm.places
  have h : ∀ l : List Tm, (l.flatMap Tm.pl1).length ≤ l.length := by
    intro l
    induction l with
    | nil => exact Nat.le_refl _
    | cons t r ih =>
      rw [List.flatMap_cons, List.length_append, List.length_cons]
      have : (Tm.pl1 t).length ≤ 1 := by
        unfold Tm.pl1
        split
        · exact Nat.le_refl 1
        · exact Nat.zero_le 1
      omega
  exact h _
section
variable {K : PySem.W.Frag} {H : Hp}
theorem dps_strs : ∀ xs : List Str, DpAll K H (xs.map V.str) (xs.map PyData.str)
  | [] => .nil
  | x :: xs => .cons (.str x) (dps_strs xs)
theorem dps_nats : ∀ xs : List Nat, DpAll K H (xs.map fun k : Nat => V.int (k : Int)) (xs.map fun k : Nat => PyData.int (k : Int))
  | [] => .nil
  | x :: xs => .cons (.int _) (dps_nats xs)
end
theorem mks_len (t : Tm) : t.marks.length ≤ t.size := by
  rw [← all_len t]
  unfold Tm.marks
  have h : ∀ l : List Tm, (l.flatMap Tm.mk1).length ≤ l.length := by
    intro l
    induction l with
    | nil => exact Nat.le_refl _
    | cons t r ih =>
      rw [List.flatMap_cons, List.length_append, List.length_cons]
      have : (Tm.mk1 t).length ≤ 1 := by
        unfold Tm.mk1
        split
        · exact Nat.le_refl 1
        · exact Nat.zero_le 1
      omega
  exact h _
/-- a rising list of what stands in another one is no longer -/
theorem rise_len : ∀ (xs l : List Str), xs.Pairwise tlt → (∀ x ∈ xs, x ∈ l) → xs.length ≤ l.length
  | [], l, _, _ => Nat.zero_le _
  | x :: xs, l, h, s => by
    obtain ⟨h1, h2⟩ := List.pairwise_cons.mp h
    have hx := s x (List.mem_cons_self ..)
    have ih := rise_len xs (l.erase x) h2 fun y hy => (List.mem_erase_of_ne (fun e => tlt_irr x (by
      have := h1 y hy
      rw [e] at this
      exact this))).mpr (s y (List.mem_cons_of_mem _ hy))
    have e := List.length_erase_of_mem hx
    have pos : 0 < l.length := List.length_pos_of_mem hx
    rw [List.length_cons]
    omega
/-- the marks, the places of a head -/
def Hd.ms : Hd → List Str
  | .call m => [m]
  | _ => []
def Hd.ps : Hd → List Nat
  | .ring p => [p]
  | _ => []
theorem alls_flat (ts : List Tm) : Tm.alls ts = ts.flatMap Tm.all := by
  induction ts with
  | nil => rfl
  | cons t ts ih =>
    show t.all ++ Tm.alls ts = _
    rw [ih]
    rfl
theorem marks_node (h : Hd) (ts : List Tm) : (Tm.node h ts).marks = h.ms ++ ts.flatMap Tm.marks := by
  have e : (Tm.node h ts).marks = Tm.mk1 (.node h ts) ++ (Tm.alls ts).flatMap Tm.mk1 := by
    unfold Tm.marks
    rw [all_parts, List.flatMap_cons]
    rfl
  rw [e, alls_flat, List.flatMap_assoc]
  cases h <;> rfl
theorem places_node (h : Hd) (ts : List Tm) : (Tm.node h ts).places = h.ps ++ ts.flatMap Tm.places := by
  have e : (Tm.node h ts).places = Tm.pl1 (.node h ts) ++ (Tm.alls ts).flatMap Tm.pl1 := by
    unfold Tm.places
    rw [all_parts, List.flatMap_cons]
    rfl
  rw [e, alls_flat, List.flatMap_assoc]
  cases h <;> rfl
end V


set_option Elab.async false
set_option linter.all false
set_option maxRecDepth 100000
set_option maxHeartbeats 400000
namespace V
open PySem PySem.Spec PyProof.Rows L2 Evl TL NumText
/-! ### unlike terms have unlike texts -/
def Stp (a : List Nat) : Prop := ∀ c, a.head? = some c → c ∈ stops
theorem split_word : ∀ {x y a b : List Nat}, (∀ c ∈ x, c ∉ stops) → (∀ c ∈ y, c ∉ stops) → Stp a → Stp b → x ++ a = y ++ b → x = y ∧ a = b
  | [], [], a, b, _, _, _, _, e => ⟨rfl, e⟩
  | [], d :: y, a, b, _, hy, ha, _, e => absurd (ha d (by
      have e2 : a = d :: (y ++ b) := e
      rw [e2]
      rfl)) (hy d (List.mem_cons_self ..))
  | c :: x, [], a, b, hx, _, _, hb, e => absurd (hb c (by
      have e2 : c :: (x ++ a) = b := e
      rw [← e2]
      rfl)) (hx c (List.mem_cons_self ..))
  | c :: x, d :: y, a, b, hx, hy, ha, hb, e => by
    have e2 : c :: (x ++ a) = d :: (y ++ b) := e
    obtain ⟨e3, e4⟩ := List.cons.inj e2
    obtain ⟨e5, e6⟩ := split_word (fun z hz => hx z (List.mem_cons_of_mem _ hz)) (fun z hz => hy z (List.mem_cons_of_mem _ hz)) ha hb e4
    exact ⟨by rw [e3, e5], e6⟩
theorem dig_rng {n : Nat} : ∀ c ∈ tl (nt n), 48 ≤ c ∧ c ≤ 57 := fun c hc => by
  rw [tl_nt] at hc
  exact TL.numL_digits n c hc
theorem nt_stops {n : Nat} : ∀ c ∈ tl (nt n), c ∉ stops := fun c hc => by
  have := dig_rng c hc
  unfold stops
  simp only [List.mem_cons, List.not_mem_nil, or_false]
  omega
theorem nt_inj {n m : Nat} (hn : n ≤ 1000002) (hm : m ≤ 1000002) (e : tl (nt n) = tl (nt m)) : n = m := by
  have e1 : numV (nt n) = numV (nt m) := by rw [ext_tl e]
  rw [numV_nt hn, numV_nt hm] at e1
  have := V.int.inj e1
  omega
theorem nt_head (n : Nat) : ∃ c l, tl (nt n) = c :: l ∧ 48 ≤ c ∧ c ≤ 57 := by
  cases e : tl (nt n) with
  | nil =>
    rw [tl_nt] at e
    exact absurd e (dig_ne n)
  | cons c l => exact ⟨c, l, rfl, dig_rng c (by rw [e]; exact List.mem_cons_self ..)⟩
theorem letter_head {k : Nat} (h : k ≤ 3) : tl (letter k) = [97 + k] := by
  match k, h with
  | 0, _ => decide +kernel
  | 1, _ => decide +kernel
  | 2, _ => decide +kernel
  | 3, _ => decide +kernel
  | n + 4, h => omega
theorem letter_st {k : Nat} (h : k ≤ 3) : ∀ c ∈ tl (letter k), c ∉ stops := fun c hc => by
  rw [letter_head h] at hc
  rw [List.mem_singleton.mp hc]
  unfold stops
  simp only [List.mem_cons, List.not_mem_nil, or_false]
  omega
theorem op_head (o : Op) : ∃ c l, tl o.str = c :: l ∧ 97 ≤ c := by
  cases o <;> exact ⟨_, _, by rfl, by decide⟩
theorem op_inj {o p : Op} (e : tl o.str = tl p.str) : o = p := by
  cases o <;> cases p <;> first | rfl | (exact absurd e (by decide +kernel))
theorem hd_st {M n : Nat} {h : Hd} (k : h.ok M n) : ∀ c ∈ tl h.S, c ∉ stops := fun c hc => by
  cases h with
  | op o =>
    have all : ∀ o : Op, ∀ c ∈ tl o.str, c ∉ stops := by intro o; cases o <;> decide +kernel
    exact all o c hc
  | call m =>
    have e : tl (Hd.call m).S = 35 :: tl m := by
      show tl (("#" : Str) ++ m) = _
      rw [tl_append]
      rfl
    rw [e] at hc
    rcases List.mem_cons.mp hc with rfl | hc
    · decide
    · have := k.1.2 c hc
      unfold stops
      simp only [List.mem_cons, List.not_mem_nil, or_false]
      omega
  | ring p =>
    have e : tl (Hd.ring p).S = 64 :: tl (nt p) := by
      show tl (("@" : Str) ++ nt p) = _
      rw [tl_append]
      rfl
    rw [e] at hc
    rcases List.mem_cons.mp hc with rfl | hc
    · decide
    · exact nt_stops c hc
theorem hd_inj {M n m : Nat} (hM : M ≤ 1000002) {h g : Hd} (k : h.ok M n) (j : g.ok M m) (e : tl h.S = tl g.S) : h = g := by
  have ec : ∀ m : Str, tl (Hd.call m).S = 35 :: tl m := fun m => by
    show tl (("#" : Str) ++ m) = _
    rw [tl_append]
    rfl
  have er : ∀ p : Nat, tl (Hd.ring p).S = 64 :: tl (nt p) := fun p => by
    show tl (("@" : Str) ++ nt p) = _
    rw [tl_append]
    rfl
  have eo : ∀ o : Op, tl (Hd.op o).S = tl o.str := fun _ => rfl
  cases h with
  | op o =>
    obtain ⟨c, l, e1, e2⟩ := op_head o
    cases g with
    | op p =>
      rw [eo, eo] at e
      rw [op_inj e]
    | call m =>
      rw [eo, ec, e1] at e
      have := (List.cons.inj e).1
      omega
    | ring p =>
      rw [eo, er, e1] at e
      have := (List.cons.inj e).1
      omega
  | call m =>
    cases g with
    | op p =>
      obtain ⟨c, l, e1, e2⟩ := op_head p
      rw [eo, ec, e1] at e
      have := (List.cons.inj e).1
      omega
    | call m' =>
      rw [ec, ec] at e
      rw [ext_tl (List.cons.inj e).2]
    | ring p =>
      rw [ec, er] at e
      have := (List.cons.inj e).1
      omega
  | ring p =>
    cases g with
    | op o =>
      obtain ⟨c, l, e1, e2⟩ := op_head o
      rw [eo, er, e1] at e
      have := (List.cons.inj e).1
      omega
    | call m =>
      rw [ec, er] at e
      have := (List.cons.inj e).1
      omega
    | ring p' =>
      rw [er, er] at e
      have h1 : p ≤ M := k.1
      have h2 : p' ≤ M := j.1
      rw [nt_inj (by omega) (by omega) (List.cons.inj e).2]
theorem stp_tails (ts : List Tm) (a : List Nat) : Stp (tails ts ++ (41 :: a)) := fun c hc => by
  cases ts with
  | nil =>
    have e : (41 : Nat) = c := Option.some.inj hc
    rw [← e]
    decide
  | cons t ts =>
    have e : (32 : Nat) = c := Option.some.inj hc
    rw [← e]
    decide
theorem txt_cut {M : Nat} (hM : M ≤ 1000002) : ∀ t : Tm, t.Ok M → ∀ (u : Tm) (a b : List Nat), u.Ok M → Stp a → Stp b → tl t.txt ++ a = tl u.txt ++ b → t = u ∧ a = b := by
  have nn : ∀ n, tl (Tm.num n).txt = tl (nt n) := fun _ => rfl
  have aa : ∀ k, tl (Tm.arg k).txt = tl (letter k) := fun _ => rfl
  refine Tm.ind (fun n k => ?_) (fun j k => ?_) fun h ts ih k => ?_
  · intro u a b ku ha hb e
    cases k with
    | num hn =>
    cases ku with
    | num hm =>
      obtain ⟨e1, e2⟩ := split_word nt_stops nt_stops ha hb e
      rw [nt_inj hn hm e1]
      exact ⟨rfl, e2⟩
    | arg hm =>
      obtain ⟨e1, e2⟩ := split_word nt_stops (letter_st hm) ha hb e
      obtain ⟨c, l, e3, e4⟩ := nt_head n
      rw [e3, letter_head hm] at e1
      have := (List.cons.inj e1).1
      omega
    | node _ _ =>
      obtain ⟨c, l, e3, e4⟩ := nt_head n
      rw [nn, e3, tl_node] at e
      have := (List.cons.inj e).1
      omega
  · intro u a b ku ha hb e
    cases k with
    | arg hj =>
    cases ku with
    | num hm =>
      obtain ⟨e1, e2⟩ := split_word (letter_st hj) nt_stops ha hb e
      rename_i n
      obtain ⟨c, l, e3, e4⟩ := nt_head n
      rw [e3, letter_head hj] at e1
      have := (List.cons.inj e1).1
      omega
    | arg hm =>
      obtain ⟨e1, e2⟩ := split_word (letter_st hj) (letter_st hm) ha hb e
      rw [letter_head hj, letter_head hm] at e1
      have e3 := (List.cons.inj e1).1
      rename_i m
      obtain rfl : j = m := by omega
      exact ⟨rfl, e2⟩
    | node _ _ =>
      rw [aa, letter_head hj, tl_node] at e
      have := (List.cons.inj e).1
      omega
  · intro u a b ku ha hb e
    cases k with
    | node hh hks =>
    cases ku with
    | num hm =>
      rename_i n
      obtain ⟨c, l, e3, e4⟩ := nt_head n
      rw [nn, e3, tl_node] at e
      have := (List.cons.inj e).1
      omega
    | arg hm =>
      rw [aa, letter_head hm, tl_node] at e
      have := (List.cons.inj e).1
      omega
    | @node g us hg hus =>
      rw [tl_node, tl_node] at e
      have e1 : (tl h.S ++ (tails ts ++ [41])) ++ a = (tl g.S ++ (tails us ++ [41])) ++ b := (List.cons.inj e).2
      rw [List.append_assoc, List.append_assoc, List.append_assoc, List.append_assoc] at e1
      obtain ⟨e2, e3⟩ := split_word (hd_st hh) (hd_st hg) (stp_tails ts a) (stp_tails us b) e1
      have eh := hd_inj hM hh hg e2
      have parts : ∀ (ts us : List Tm), (∀ t ∈ ts, t.Ok M ∧ ∀ (u : Tm) (a b : List Nat), u.Ok M → Stp a → Stp b → tl t.txt ++ a = tl u.txt ++ b → t = u ∧ a = b) → (∀ u ∈ us, u.Ok M) →
          tails ts ++ (41 :: a) = tails us ++ (41 :: b) → ts = us ∧ a = b := by
        intro ts
        induction ts with
        | nil =>
          intro us _ _ e
          cases us with
          | nil => exact ⟨rfl, (List.cons.inj e).2⟩
          | cons u us =>
            have := (List.cons.inj (show (41 : Nat) :: a = 32 :: (tl u.txt ++ tails us ++ 41 :: b) from e)).1
            omega
        | cons t ts ih2 =>
          intro us ht hu e
          cases us with
          | nil =>
            have := (List.cons.inj (show 32 :: (tl t.txt ++ tails ts ++ 41 :: a) = (41 : Nat) :: b from e)).1
            omega
          | cons u us =>
            have e4 := (List.cons.inj (show 32 :: (tl t.txt ++ tails ts ++ 41 :: a) = 32 :: (tl u.txt ++ tails us ++ 41 :: b) from e)).2
            rw [List.append_assoc, List.append_assoc] at e4
            obtain ⟨e5, e6⟩ := (ht t (List.mem_cons_self ..)).2 u _ _ (hu u (List.mem_cons_self ..)) (stp_tails ts a) (stp_tails us b) e4
            obtain ⟨e7, e8⟩ := ih2 us (fun v hv => ht v (List.mem_cons_of_mem _ hv)) (fun v hv => hu v (List.mem_cons_of_mem _ hv)) e6
            exact ⟨by rw [e5, e7], e8⟩
      obtain ⟨e9, e10⟩ := parts ts us (fun t ht => ⟨hks t ht, fun u a b => ih t ht (hks t ht) u a b⟩) hus e3
      rw [eh, e9]
      exact ⟨rfl, e10⟩
theorem txt_inj {M : Nat} (hM : M ≤ 1000002) {t u : Tm} (k : t.Ok M) (j : u.Ok M) (e : t.txt = u.txt) : t = u :=
  (txt_cut hM t k u [] [] j (fun c h => by cases h) (fun c h => by cases h) (by rw [e])).1
/-! ### terms that are alike -/
theorem eqv_str (x y : Str) : PyData.eqv (.str x) (.str y) = (x == y) := by simp only [PyData.eqv]
theorem eqv_int (x y : Int) : PyData.eqv (.int x) (.int y) = (x == y) := by simp only [PyData.eqv]
theorem eqv_tup (xs ys : List PyData) : PyData.eqv (.tuple xs) (.tuple ys) = PyData.eqvAll xs ys := by simp only [PyData.eqv]
theorem eqv_lst (xs ys : List PyData) : PyData.eqv (.list xs) (.list ys) = PyData.eqvAll xs ys := by simp only [PyData.eqv]
theorem eqvs_cons (x y : PyData) (xs ys : List PyData) : PyData.eqvAll (x :: xs) (y :: ys) = (PyData.eqv x y && PyData.eqvAll xs ys) := by simp only [PyData.eqvAll]
theorem eqvs_nil : PyData.eqvAll [] [] = true := by simp only [PyData.eqvAll]
theorem py_word : ∀ t : Tm, ∃ r, t.py = .tuple (.str t.word :: r)
  | .num n => ⟨_, rfl⟩
  | .arg n => ⟨_, rfl⟩
  | .node (.op o) ts => ⟨_, rfl⟩
  | .node (.call m) ts => ⟨_, rfl⟩
  | .node (.ring m) ts => ⟨_, rfl⟩
theorem eqv_word {t u : Tm} (e : PyData.eqv t.py u.py = true) : t.word = u.word := by
  obtain ⟨r, e1⟩ := py_word t
  obtain ⟨q, e2⟩ := py_word u
  rw [e1, e2, eqv_tup, eqvs_cons, Bool.and_eq_true, eqv_str, beq_iff_eq] at e
  exact e.1
theorem eqv_py : ∀ t u : Tm, PyData.eqv t.py u.py = true → t = u := by
  have nu : ∀ n, (Tm.num n).py = .tuple [.str "num", .int (n : Int)] := fun _ => rfl
  have ar : ∀ n, (Tm.arg n).py = .tuple [.str "arg", .int (n : Int)] := fun _ => rfl
  have op : ∀ o ts, (Tm.node (.op o) ts).py = .tuple (.str o.str :: Tm.pys ts) := fun _ _ => rfl
  have ca : ∀ m ts, (Tm.node (.call m) ts).py = .tuple [.str "call", .str m, .tuple (Tm.pys ts)] := fun _ _ => rfl
  have ri : ∀ m ts, (Tm.node (.ring m) ts).py = .tuple [.str "ring", .int (m : Int), .tuple (Tm.pys ts)] := fun _ _ => rfl
  have wd : ∀ t u : Tm, t.word = u.word → (match t, u with | .num _, .num _ => True | .arg _, .arg _ => True | .node (.op o) _, .node (.op p) _ => o = p | .node (.call _) _, .node (.call _) _ => True | .node (.ring _) _, .node (.ring _) _ => True | _, _ => False) := by
    have ow : ∀ o : Op, o.str ≠ "num" ∧ o.str ≠ "arg" ∧ o.str ≠ "call" ∧ o.str ≠ "ring" := by intro o; cases o <;> decide +kernel
    intro t u e
    cases t with
    | num n =>
      cases u with
      | num m => trivial
      | arg m => exact absurd e (by show ("num" : Str) ≠ "arg"; decide +kernel)
      | node g us =>
        cases g with
        | op p => exact absurd e.symm (ow p).1
        | call m => exact absurd e (by show ("num" : Str) ≠ "call"; decide +kernel)
        | ring m => exact absurd e (by show ("num" : Str) ≠ "ring"; decide +kernel)
    | arg n =>
      cases u with
      | arg m => trivial
      | num m => exact absurd e (by show ("arg" : Str) ≠ "num"; decide +kernel)
      | node g us =>
        cases g with
        | op p => exact absurd e.symm (ow p).2.1
        | call m => exact absurd e (by show ("arg" : Str) ≠ "call"; decide +kernel)
        | ring m => exact absurd e (by show ("arg" : Str) ≠ "ring"; decide +kernel)
    | node h ts =>
      cases h with
      | op o =>
        cases u with
        | num m => exact absurd e (ow o).1
        | arg m => exact absurd e (ow o).2.1
        | node g us =>
          cases g with
          | op p => exact op_inj (congrArg tl (show o.str = p.str from e))
          | call m => exact absurd e (ow o).2.2.1
          | ring m => exact absurd e (ow o).2.2.2
      | call m =>
        cases u with
        | num m => exact absurd e (by show ("call" : Str) ≠ "num"; decide +kernel)
        | arg m => exact absurd e (by show ("call" : Str) ≠ "arg"; decide +kernel)
        | node g us =>
          cases g with
          | op p => exact absurd e.symm (ow p).2.2.1
          | call m => trivial
          | ring m => exact absurd e (by show ("call" : Str) ≠ "ring"; decide +kernel)
      | ring m =>
        cases u with
        | num m => exact absurd e (by show ("ring" : Str) ≠ "num"; decide +kernel)
        | arg m => exact absurd e (by show ("ring" : Str) ≠ "arg"; decide +kernel)
        | node g us =>
          cases g with
          | op p => exact absurd e.symm (ow p).2.2.2
          | call m => exact absurd e (by show ("ring" : Str) ≠ "call"; decide +kernel)
          | ring m => trivial
  have all : ∀ (ts us : List Tm), (∀ t ∈ ts, ∀ u : Tm, PyData.eqv t.py u.py = true → t = u) → PyData.eqvAll (Tm.pys ts) (Tm.pys us) = true → ts = us := by
    intro ts
    induction ts with
    | nil =>
      intro us _ e
      cases us with
      | nil => rfl
      | cons u us => exact absurd e (by show PyData.eqvAll [] (u.py :: Tm.pys us) ≠ true; simp [PyData.eqvAll])
    | cons t ts ih =>
      intro us h e
      cases us with
      | nil => exact absurd e (by show PyData.eqvAll (t.py :: Tm.pys ts) [] ≠ true; simp [PyData.eqvAll])
      | cons u us =>
        have e1 : PyData.eqvAll (t.py :: Tm.pys ts) (u.py :: Tm.pys us) = true := e
        rw [eqvs_cons, Bool.and_eq_true] at e1
        rw [h t (List.mem_cons_self ..) u e1.1, ih us (fun v hv => h v (List.mem_cons_of_mem _ hv)) e1.2]
  refine Tm.ind (fun n u e => ?_) (fun n u e => ?_) fun h ts ih u e => ?_
  · have w := wd _ _ (eqv_word e)
    cases u with
    | num m =>
      rw [nu, nu, eqv_tup, eqvs_cons, eqvs_cons, eqv_int, Bool.and_eq_true, Bool.and_eq_true, beq_iff_eq] at e
      have := e.2.1
      obtain rfl : n = m := by omega
      rfl
    | _ => exact w.elim
  · have w := wd _ _ (eqv_word e)
    cases u with
    | arg m =>
      rw [ar, ar, eqv_tup, eqvs_cons, eqvs_cons, eqv_int, Bool.and_eq_true, Bool.and_eq_true, beq_iff_eq] at e
      have := e.2.1
      obtain rfl : n = m := by omega
      rfl
    | num _ => exact w.elim
    | node _ _ => exact w.elim
  · have w := wd _ _ (eqv_word e)
    cases u with
    | num m => cases h <;> exact w.elim
    | arg m => cases h <;> exact w.elim
    | node g us =>
      cases h with
      | op o =>
        cases g with
        | op p =>
          have w2 : o = p := w
          subst w2
          rw [op, op, eqv_tup, eqvs_cons, Bool.and_eq_true] at e
          rw [all ts us ih e.2]
        | call _ => exact w.elim
        | ring _ => exact w.elim
      | call m =>
        cases g with
        | op _ => exact w.elim
        | ring _ => exact w.elim
        | call k =>
          rw [ca, ca, eqv_tup, eqvs_cons, eqvs_cons, eqvs_cons, eqv_str, eqv_str, eqv_tup, Bool.and_eq_true, Bool.and_eq_true, Bool.and_eq_true, beq_iff_eq, beq_iff_eq] at e
          rw [e.2.1, all ts us ih e.2.2.1]
      | ring m =>
        cases g with
        | op _ => exact w.elim
        | call _ => exact w.elim
        | ring k =>
          rw [ri, ri, eqv_tup, eqvs_cons, eqvs_cons, eqvs_cons, eqv_str, eqv_int, eqv_tup, Bool.and_eq_true, Bool.and_eq_true, Bool.and_eq_true, beq_iff_eq, beq_iff_eq] at e
          have e1 := e.2.1
          obtain rfl : m = k := by omega
          rw [all ts us ih e.2.2.1]
/-! ### terms as data that can be laid -/
theorem str_ok {x : Str} (h : ∀ c ∈ tl x, c < 1114112) : PyData.strOk x = true := by
  unfold PyData.strOk
  rw [← Array.all_toList, List.all_eq_true]
  exact fun c hc => decide_eq_true (h c hc)
theorem py_lay : ∀ {M : Nat} (t : Tm), t.Ok M → t.py.canLay0 = true ∧ t.py.depth ≤ 2 * t.deep := by
  intro M
  have wo : ∀ o : Op, PyData.canLay0 (.str o.str) = true := by intro o; cases o <;> decide +kernel
  have all : ∀ ts : List Tm, (∀ t ∈ ts, t.py.canLay0 = true ∧ t.py.depth ≤ 2 * t.deep) → PyData.canLayAll0 (Tm.pys ts) = true ∧ PyData.depthAll (Tm.pys ts) ≤ 2 * Tm.deeps ts := by
    intro ts
    induction ts with
    | nil => exact fun _ => ⟨by simp [Tm.pys, PyData.canLayAll0], by simp [Tm.pys, PyData.depthAll]⟩
    | cons t ts ih =>
      intro h
      obtain ⟨h1, h2⟩ := h t (List.mem_cons_self ..)
      obtain ⟨i1, i2⟩ := ih fun u hu => h u (List.mem_cons_of_mem _ hu)
      refine ⟨?_, ?_⟩
      · show PyData.canLayAll0 (t.py :: Tm.pys ts) = true
        rw [PyData.canLayAll0, h1, i1]
        rfl
      · show PyData.depthAll (t.py :: Tm.pys ts) ≤ 2 * max t.deep (Tm.deeps ts)
        rw [PyData.depthAll]
        omega
  refine Tm.ind (fun n k => ⟨?_, ?_⟩) (fun n k => ⟨?_, ?_⟩) fun h ts ih k => ?_
  · show PyData.canLay0 (.tuple [.str "num", .int (n : Int)]) = true
    have : PyData.canLay0 (.str "num") = true := by decide +kernel
    simp only [PyData.canLay0, PyData.canLayAll0] at this ⊢
    rw [this]
    rfl
  · show PyData.depth (.tuple [.str "num", .int (n : Int)]) ≤ 2
    simp [PyData.depth, PyData.depthAll]
  · show PyData.canLay0 (.tuple [.str "arg", .int (n : Int)]) = true
    have : PyData.canLay0 (.str "arg") = true := by decide +kernel
    simp only [PyData.canLay0, PyData.canLayAll0] at this ⊢
    rw [this]
    rfl
  · show PyData.depth (.tuple [.str "arg", .int (n : Int)]) ≤ 2
    simp [PyData.depth, PyData.depthAll]
  · cases k with
    | node hh hks =>
    obtain ⟨a1, a2⟩ := all ts fun t ht => ih t ht (hks t ht)
    have td : (Tm.node h ts).deep = 1 + Tm.deeps ts := rfl
    cases h with
    | op o =>
      refine ⟨?_, ?_⟩
      · show PyData.canLay0 (.tuple (.str o.str :: Tm.pys ts)) = true
        have := wo o
        rw [PyData.canLay0, PyData.canLayAll0, this, a1]
        rfl
      · show PyData.depth (.tuple (.str o.str :: Tm.pys ts)) ≤ _
        rw [PyData.depth, PyData.depthAll, PyData.depth]
        omega
    | call m =>
      refine ⟨?_, ?_⟩
      · show PyData.canLay0 (.tuple [.str "call", .str m, .tuple (Tm.pys ts)]) = true
        have w1 : PyData.canLay0 (.str "call") = true := by decide +kernel
        have w2 : PyData.canLay0 (.str m) = true := by
          rw [PyData.canLay0]
          exact str_ok fun c hc => by
            have := hh.1.2 c hc
            omega
        rw [PyData.canLay0, PyData.canLayAll0, PyData.canLayAll0, PyData.canLayAll0, PyData.canLayAll0, w1, w2]
        rw [PyData.canLay0, a1]
        rfl
      · show PyData.depth (.tuple [.str "call", .str m, .tuple (Tm.pys ts)]) ≤ _
        simp only [PyData.depth, PyData.depthAll]
        omega
    | ring m =>
      refine ⟨?_, ?_⟩
      · show PyData.canLay0 (.tuple [.str "ring", .int (m : Int), .tuple (Tm.pys ts)]) = true
        have w1 : PyData.canLay0 (.str "ring") = true := by decide +kernel
        rw [PyData.canLay0, PyData.canLayAll0, PyData.canLayAll0, PyData.canLayAll0, PyData.canLayAll0, w1]
        rw [PyData.canLay0, PyData.canLay0, a1]
        rfl
      · show PyData.depth (.tuple [.str "ring", .int (m : Int), .tuple (Tm.pys ts)]) ≤ _
        simp only [PyData.depth, PyData.depthAll]
        omega
theorem py_shaped {M : Nat} {t : Tm} (k : t.Ok M) (h : t.deep ≤ 32) : SeqAt.shaped t.py = true := by
  obtain ⟨h1, h2⟩ := py_lay t k
  unfold SeqAt.shaped
  rw [h1, decide_eq_true (by omega)]
  rfl
theorem py_refl {M : Nat} {t : Tm} (k : t.Ok M) : PyData.eqv t.py t.py = true := SeqAt.eqv_refl _ (py_lay t k).1
end V


set_option Elab.async false
set_option linter.all false
set_option maxRecDepth 100000
set_option maxHeartbeats 4000000
/-! defs that ask for repr: their promise holds where no repr is under way -/
namespace V
open PySem PySem.Spec PyProof.Rows L2 Evl
structure FnG (P : Program) (w : World) (K : PySem.W.Frag) (mg : Str → Option Value) (base : Heap) (k : Nat) (f : Addr) (fd : FuncData) (ps : List Str) (sp : Sp) : Prop where
  len : ∀ vs H Q E, sp vs H Q E → vs.length = ps.length
  go : ∀ (B : Around) (fr : List Env) (s : Shared) (H : Hp) (ar : Args) (us : List Value) (vs : List V) (Q : VK) (E : XK), Room k B → B.guards = some [] → Env0 P w K mg base B fr s H → BindsTo s fd ar (ps.zip us) → Vals vs us → sp vs H Q E →
    codeAny (model P w) B (.call (.ref f) ar) (CR CX0 fr P w H s Q E) s
theorem FnG.of {P : Program} {w : World} {K : PySem.W.Frag} {mg : Str → Option Value} {base : Heap} {k : Nat} {f : Addr} {fd : FuncData} {ps : List Str} {sp : Sp} (F : FnOk P w K mg base CX0 k f fd ps sp) : FnG P w K mg base k f fd ps sp :=
  ⟨F.len, fun B fr s H ar us vs Q E hr _ => F.run B fr s H ar us vs Q E hr⟩
structure CalG (P : Program) (w : World) (K : PySem.W.Frag) (mg : Str → Option Value) (base : Heap) (k : Nat) (x : Str) (ps : List Str) (sp : Sp) : Prop where
  ex : ∃ (f : Addr) (fd : FuncData), FnG P w K mg base k f fd ps sp ∧ mg x = some (.ref f) ∧ PySem.W.keepIn K (.ref f) = true ∧ Binds K fd ps []
section
variable {P : Program} {w : World} {K : PySem.W.Frag} {mg : Str → Option Value} {base : Heap} {x : Str} {st : Stmt} {ps N : List Str} {k : Nat} {sp : Sp} {f : Addr} {fd : FuncData} {qual : Str} {scope : Scope} {params : Arguments} {blk : List Stmt}
theorem fnG_of {cdv dV kV doc pm ct oc : Value} {an od : Option Addr} {osl : Array (Option Value)} (lk : K.lookup f = some ⟨oc, od, .func (PySem.W.fnOf x qual params blk scope dV kV doc pm an cdv ct), osl⟩) (cdI : PySem.W.codeIn K cdv qual = true)
    (S : FnScope N ps scope) (len : ∀ vs H Q E, sp vs H Q E → vs.length = ps.length)
    (body : ∀ (B : Around) (fr : List Env) (s : Shared) (H : Hp) (vs : List V) (Q : VK) (E : XK), Room k (B.deeper (envOfC qual scope s.heap.objs.size f cdv)) → (B.deeper (envOfC qual scope s.heap.objs.size f cdv)).guards = some [] → sp vs H Q E →
      ∃ t, PSs (cxOf CX0 P w K mg base N qual scope f cdv B fr s H E) blk t ∧ t { nx := fun _ H' => Q .non H', rt := Q } (start N vs) H) :
    FnG P w K mg base (k + 1) f (PySem.W.fnOf x qual params blk scope dV kV doc pm an cdv ct) ps sp := by
  refine ⟨len, fun B fr s H ar us vs Q E hr hG e0 hb r hs => ?_⟩
  have ll := len _ _ _ _ hs
  have inK : K.In s.heap := e0.mod.kin.keeps fun c o e => (e0.bs c o e).1
  have noL : s.heap.NoLimit := e0.mod.nolimit.keeps fun c o e => (e0.bs c o e).1
  have kinds : ∀ y ∈ ps.zip us, scope.names.lookup y.1 = some .local ∨ (scope.names.lookup y.1 = some .cell ∧ ((cellsFrom (s.heap.objs.size + 1) scope.names []).lookup y.1).isSome = true) := fun ⟨n, v⟩ hy => by
    rcases S.par n (List.of_mem_zip hy).1 with c | c
    · exact .inl c
    · exact .inr ⟨c, PySem.W.cellsFrom_some _ _ _ (.inl c)⟩
  refine codeAny_call_function hr.depth (inK _ _ lk) rfl S.co S.gen rfl (PySem.W.codeRec_of inK cdI) (hb _ _ _ _ ?_)
  refine wpAny_newFunctionEnv_cells S.kind kinds fun env he s1 y => ?_
  subst he
  refine ⟨noL.keeps y.toInCall.keep, codeAny_func ?_⟩
  obtain ⟨t, ht, hq⟩ := body B fr s H vs Q E (hr.deeper _) hG hs
  have I : L2.Inv (cxOf CX0 P w K mg base N qual scope f cdv B fr s H E) [] (start N vs) H s1 := inv_start S hr.hd e0 ll r y
  refine wpAny_mono (ht.run [] s1 (start N vs) H _ I hq) (fun fl s2 hs => ?_) fun e s2 hs => hs
  have fin : ∀ {τ : L2.St} {H2 : Hp} {v : V} {u : Value}, L2.Inv (cxOf CX0 P w K mg base N qual scope f cdv B fr s H E) [] τ H2 s2 → RelV v u → Q v H2 → CE fr P w H s Q u s2 :=
    fun {τ H2 v u} J rv q => ⟨v, H2, J.os, J.bare, J.base, J.hok, rv, q⟩
  cases fl with
  | ret u =>
    obtain ⟨v, τ, H2, J, rv, q⟩ := hs
    exact fin J rv q
  | next =>
    obtain ⟨τ, H2, J, q⟩ := hs
    exact fin (v := V.non) (u := Value.none) J rfl q
  | brk => exact False.elim hs.choose_spec.choose_spec.2
  | cont => exact False.elim hs.choose_spec.choose_spec.2
theorem FunD.okG {dvs : List V} {kws : List (Str × V)} (F : FunD K x qual params blk scope dvs kws f fd) (S : FnScope N ps scope) (len : ∀ vs H Q E, sp vs H Q E → vs.length = ps.length)
    (body : ∀ (cdv : Value) (B : Around) (fr : List Env) (s : Shared) (H : Hp) (vs : List V) (Q : VK) (E : XK), Room k (B.deeper (envOfC qual scope s.heap.objs.size f cdv)) → (B.deeper (envOfC qual scope s.heap.objs.size f cdv)).guards = some [] → sp vs H Q E →
      ∃ t, PSs (cxOf CX0 P w K mg base N qual scope f cdv B fr s H E) blk t ∧ t { nx := fun _ H' => Q .non H', rt := Q } (start N vs) H) : FnG P w K mg base (k + 1) f fd ps sp := by
  obtain ⟨oc, od, dV, kV, doc, pm, an, cdv, ct, osl, rfl, lk, hcd, _, _⟩ := F.ex
  exact fnG_of lk hcd S len fun B fr s H vs Q E hr hG hs => body cdv B fr s H vs Q E hr hG hs
theorem Def.calG (D : Def K mg x st ps) (S : FnScope N ps (defScope st)) (len : ∀ vs H Q E, sp vs H Q E → vs.length = ps.length)
    (body : ∀ (f : Addr) (cdv : Value) (B : Around) (fr : List Env) (s : Shared) (H : Hp) (vs : List V) (Q : VK) (E : XK),
      Room k (B.deeper (envOfC x (defScope st) s.heap.objs.size f cdv)) → (B.deeper (envOfC x (defScope st) s.heap.objs.size f cdv)).guards = some [] → sp vs H Q E →
      ∃ t, PSs (cxOf CX0 P w K mg base N x (defScope st) f cdv B fr s H E).nox (defBody st) t ∧
        t { nx := fun _ H' => Q .non H', rt := Q } (start N vs) H) : CalG P w K mg base (k + 1) x ps sp := by
  obtain ⟨f, fd, F, hm, hb⟩ := D.ex
  refine ⟨f, fd, FunD.okG F S len (fun cdv B fr s H vs Q E hr hG h => ?_), hm, F.kp, hb⟩
  obtain ⟨t, h1, h2⟩ := body f cdv B fr s H vs Q E hr hG h
  exact ⟨t, h1.nox, h2⟩
theorem Cal.g (C : Cal P w K mg base k x ps sp) : CalG P w K mg base k x ps sp := by
  obtain ⟨f, fd, F, h1, h2, h3⟩ := C.ex
  exact ⟨f, fd, FnG.of F, h1, h2, h3⟩
end
section
variable {X : Cx}
theorem run_G {pins : List (Addr × Obj)} {σ : L2.St} {H : Hp} {s : Shared} {Q : VK} {us : List Value} {vs : List V} {k : Nat} {f : Addr} {fd : FuncData} {ps : List Str} {sp : Sp} (F : FnG X.prog X.w X.K X.mg X.base k f fd ps sp) (hr : Room k X.A) (hG : X.A.guards = some [])
    (hb : Binds X.K fd ps []) (I : L2.Inv X pins σ H s) (r : Vals vs us) (h : sp vs H Q E0) : wpAny (model X.prog X.w) X.A (call (.ref f) us) (EP X pins σ Q) X.xe s := by
  have ll : (us ++ []).length = ps.length := by rw [List.append_nil, ← r.length]; exact F.len _ _ _ _ h
  have b := hb s us I.kIn ll
  rw [List.append_nil] at b
  refine wpAny_call (codeAny_mono (F.go X.A X.stack s H ⟨us, []⟩ us vs Q E0 hr hG I.env0 b r h) fun res s2 hq => ?_)
  cases res with
  | error e => exact pass0 pins σ H s e s2 I hq
  | ok fl =>
    cases fl with
    | ret u => exact I.after hq
    | next => exact False.elim hq
    | brk => exact False.elim hq
    | cont => exact False.elim hq
theorem pe_fnG {j k : Nat} {x : Str} {ps : List Str} {sp : Sp} {e : Expr} {es : List Expr} {t : TA} {p pos : Pos} (C : CalG X.prog X.w X.K X.mg X.base k x ps sp) (hG : X.A.guards = some []) (hr : Room j X.A) (hk : k ≤ j) (ha : PA X (e :: es) t)
    (hg : Gl X x := by rfl) (hdb : (x == ("__debug__" : Str)) = false := by decide) (he : starEach (e :: es) X.env = (false, eval e X.env) :: starEach es X.env := by rfl)
    (hpl : (backTo pos (starEach es X.env)).any (·.1) = false := by rfl) : PE X (.Call (.Name x p) (e :: es) [] pos) (tFn sp t) := by
  obtain ⟨f, fd, F, h1, h2, h3⟩ := C.ex
  refine ⟨fun pins s σ H Q I q => ?_⟩
  refine wpAny_Call_Name_kw (ld_glob I hg h1 ?_ hdb)
  refine PySem.W.callWith_K (h₀ := X.base) I.ok.mod.kin h2 (thn (ha.run pos pins s σ H _ I q) fun us s1 ⟨vs, H1, I1, r, q1⟩ => ⟨I1.kIn, ?_⟩) he hpl
  exact run_G F (hr.mono hk) hG h3 I1 r q1
/-- repr(x) of data -/
def rRepr (K : PySem.W.Frag) : List V → Hp → VK → Prop := fun vs H Q => ∃ (v : V) (d : PyData), vs = [v] ∧ Dp K H v d ∧ d.showable = true ∧ d.hasDict = false ∧ d.depth ≤ 64 ∧ d.shown.length ≤ sizeLine ∧ Q (.str d.shown) H
theorem cr_repr (hG : X.A.guards = some []) (hu : X.A.units + 80 < cLine) : CallR X (.builtin "repr") (rRepr X.K) := by
  intro pins s σ H vs us Q I r h
  obtain ⟨v, d, rfl, hd, hs, nd, dp, sz, q⟩ := h
  obtain ⟨u, rfl, rv⟩ := vals1 r
  cases hd with
  | non =>
    cases rv
    exact PySem.P.repr_of_none ⟨.str "None", H, I.tok _, ⟨_, rfl⟩, by simpa only [PyData.shown] using q⟩
  | bl b =>
    cases rv
    exact PySem.P.repr_of_bool ⟨.str (if b then "True" else "False"), H, I.tok _, ⟨_, by cases b <;> rfl⟩, by simpa only [PyData.shown] using q⟩
  | int i =>
    obtain ⟨t, rfl⟩ := rv
    have hs' : i.natAbs.log2 < 1920 := by
      rw [PyData.showable, decide_eq_true_eq] at hs
      exact hs
    exact PySem.P.repr_of_int hs' ⟨.str (toString i), H, I.tok _, ⟨_, rfl⟩, by simpa only [PyData.shown] using q⟩
  | str x =>
    obtain ⟨t, rfl⟩ := rv
    have sz' : (reprText x).length ≤ sizeLine := by simpa only [PyData.shown] using sz
    exact PySem.P.repr_of_str ⟨.str (reprText x), H, I.tok _, ⟨_, rfl⟩, by simpa only [PyData.shown] using q⟩ sz'
  | lst hl hk =>
    cases rv
    obtain ⟨as, rd⟩ := Dp.reads I _ _ _ (Dp.lst hl hk) rfl
    exact repr_of_reads' rd hs (fun e => by rw [nd] at e; cases e) hG (by omega) (fun _ _ e => e) (fun h' t tk hk => ⟨.str _, H, I.kept hk, ⟨_, rfl⟩, q⟩) sz
  | tup hl hk =>
    cases rv
    obtain ⟨as, rd⟩ := Dp.reads I _ _ _ (Dp.tup hl hk) rfl
    exact repr_of_reads' rd hs (fun e => by rw [nd] at e; cases e) hG (by omega) (fun _ _ e => e) (fun h' t tk hk => ⟨.str _, H, I.kept hk, ⟨_, rfl⟩, q⟩) sz
end
/-! ### the end of a law -/
theorem lawG {P : Program} {w : World} {K : PySem.W.Frag} {mg mb : Str → Option Value} {k : Nat} {fa a : Addr} {fd : FuncData} {x : Str} {sp : Sp} {s : Shared} {vs : List Value} {ns : List Int}
    (KX : K.In s.heap) (n1 : s.heap.Ns mainGlobals mg) (n2 : s.heap.Ns builtinsNs mb) (n3 : ∀ x : Str, x ≠ "__name__" → mb x = bootBuiltins x) (noL : s.heap.NoLimit) (ng : s.gens = #[])
    (ha : s.heap.get? a = some { cls := .type "list", data := .seq vs.toArray }) (hi : IntsAre vs ns) (le : ns.length ≤ sizeLine) (hr : Room k callerA)
    (F : ∀ base : Heap, K.In base → base.Ns mainGlobals mg → FnG P w K mg base k fa fd [x] sp) (bd : ∀ (s : Shared) (u : Value), BindsTo s fd ⟨[u], []⟩ [(x, u)])
    (hsp : ∀ H : Hp, Only H → SqL K H a (ns.map V.int) → sp [.ref a] H (fun v _ => v = .bl true) fun _ _ _ => False) :
    codeAny (model P w) callerA (.call (.ref fa) ⟨[.ref a], []⟩) (fun r s' => r = .ok (.ret (.bool true)) ∧ OldK s.heap s'.heap ∧ s'.os = s.os ∧ AllBare s'.gens) s := by
  have rv := vals_ints hi
  have lv := hi.length
  have core : ∀ H : Hp, Only H → SqL K H a (ns.map V.int) → HOk P w H s.heap → (∀ b, H b ≠ none → b = a) → (H a ≠ none → K.lookup a = none) →
      codeAny (model P w) callerA (.call (.ref fa) ⟨[.ref a], []⟩) (fun r s' => r = .ok (.ret (.bool true)) ∧ OldK s.heap s'.heap ∧ s'.os = s.os ∧ AllBare s'.gens) s := by
    intro H hO hS ok only noK
    have got : ∀ {b : Addr} {o : Obj}, s.heap.get? b = some o → H b = none → (hidT s.heap H).get? b = some o := fun e n => hidT_get e n
    have noH : ∀ {b : Addr} {o : Obj} {es : Array DictEntry} {ep : Nat}, s.heap.get? b = some o → o.data = .dict es ep → H b = none := fun {b o es ep} e d => by
      by_cases z : H b = none
      · exact z
      · have e2 := only b z
        subst e2
        rw [ha] at e
        cases e
        have d2 : Data.seq vs.toArray _ = Data.dict es ep := d
        cases d2
    have ns' : ∀ {b : Addr} {m : Str → Option Value}, s.heap.Ns b m → (hidT s.heap H).Ns b m := fun {b m} ⟨o, es, ep, e, d, r⟩ => ⟨o, es, ep, got e (noH e d), d, r⟩
    have inK : K.In (hidT s.heap H) := fun b o e => got (KX b o e) (by
      by_cases z : H b = none
      · exact z
      · have e2 := only b z
        subst e2
        rw [noK z] at e
        cases e)
    have md : Mod K mg (hidT s.heap H) := ⟨inK, ns' n1, ⟨mb, ns' n2, n3⟩, let ⟨mc, h1, h2⟩ := noL; ⟨mc, ns' h1, h2⟩⟩
    have e0 : Env0 P w K mg (hidT s.heap H) callerA [] s H := ⟨rfl, md, fun b o e => of_hidT e, Nat.le_of_eq (hidT_size _ _), trivial, fun b hb => absurd (show b ∈ ([] : List Addr) from hb) (by simp), ok, .of_eq ng⟩
    refine codeAny_mono ((F _ inK (ns' n1)).go callerA [] s H ⟨[.ref a], []⟩ [.ref a] [.ref a] _ _ hr rfl e0 (bd s (.ref a)) (.cons rfl .nil) (hsp H hO hS)) fun r s2 h => ?_
    cases r with
    | error e => exact False.elim h
    | ok fl =>
      cases fl with
      | next => exact False.elim h
      | brk => exact False.elim h
      | cont => exact False.elim h
      | ret u =>
        obtain ⟨v, H2, os, bare, un, ok2, r2, q⟩ := h
        have q2 : v = .bl true := q
        subst q2
        obtain rfl : u = Value.bool true := r2
        refine ⟨rfl, OldK.of_keep fun b o e => ?_, os, bare⟩
        cases z : H b with
        | none => exact un.keep b o e z (fun z => absurd (show b ∈ ([] : List Addr) from z) (by simp)) (by simp)
        | some u =>
          rcases hO b with y | ⟨ob, xs, y⟩
          · rw [z] at y
            cases y
          · have y2 := un.frzs b ob _ y
            obtain ⟨e1, _⟩ := ok b _ y
            obtain ⟨e2, _⟩ := ok2 b _ y2
            rw [e] at e1
            cases e1
            exact e2
  cases hk : K.lookup a with
  | some o =>
    have e := KX a o hk
    rw [ha] at e
    cases e
    exact core (fun _ => none) (fun _ => .inl rfl) (.inr ⟨_, vs.toArray, _, hk, rfl, rfl, rfl, by rw [List.size_toArray, lv]; exact le, by simpa using rv⟩) (fun b u z => by cases (show (none : Option HO) = some u from z)) (fun b z => absurd rfl z) fun z => absurd rfl z
  | none =>
    let H1 : Hp := fun b => if b = a then some (.frz { cls := .type "list", data := .seq vs.toArray } (.lst (ns.map V.int))) else none
    have yes : H1 a = some (.frz { cls := .type "list", data := .seq vs.toArray } (.lst (ns.map V.int))) := if_pos rfl
    have no : ∀ b, b ≠ a → H1 b = none := fun b z => if_neg z
    refine core H1 (fun b => ?_) (.inl (.inr ⟨_, yes⟩)) (fun b u z => ?_) (fun b z => ?_) fun _ => hk
    · by_cases c : b = a
      · exact .inr ⟨_, _, c ▸ yes⟩
      · exact .inl (no b c)
    · by_cases c : b = a
      · subst c
        rw [yes] at z
        cases z
        exact ⟨ha, by rw [List.length_map]; exact le, vs, _, rv, ha⟩
      · rw [no b c] at z
        cases z
    · by_cases c : b = a
      · exact c
      · exact absurd (no b c) z
theorem walkG {l : PySem.W.OpenLaw} {n k : Nat} {q : Program} {loose : List Str} {XP : (Str → Option Value) → Heap → Prop} {YP : World → Heap → Prop} {d : DefRec} {x : Str}
    (hn : l.most = some n) (n2 : n ≤ sizeLine) (hdf : d.params.defaults = []) (hr : Room k callerA)
    (F : ∀ (w : World) (mg : Str → Option Value) (fa : Addr) (h : Heap), YP w h → h.Ns mainGlobals mg → mg d.name = some (.ref fa) →
      ∃ (K : PySem.W.Frag) (fd : FuncData) (sp : Sp), K.In h ∧ (∀ (s : Shared) (u : Value), BindsTo s fd ⟨[u], []⟩ [(x, u)]) ∧
        (∀ (H : Hp) (a : Addr) (ns : List Int), ns.length ≤ n → Only H → SqL K H a (ns.map V.int) → sp [.ref a] H (fun v _ => v = .bl true) fun _ _ _ => False) ∧
        ∀ base : Heap, K.In base → base.Ns mainGlobals mg → FnG l.prog w K mg base k fa fd [x] sp) :
    PySem.W.WalkO q loose XP YP l.row.toRowW d [] (fun f vs => PySem.call f vs) := by
  refine Att.attach_call hn hdf fun w s0 s1 mg mb fa o pm cd doc a vs ns G Y ho hd hcd hmg hob hints hlen hg => ?_
  obtain ⟨K, fd, sp, KX, hb, hsp, hF⟩ := F w mg fa _ Y G.T.g hmg
  exact lawG KX G.T.g G.T.b G.T.builtins G.T.nolimit hg hob hints (Nat.le_trans hlen n2) hr hF hb (fun H hO hS => hsp H a ns hlen hO hS)
end V


set_option Elab.async false
set_option linter.all false
set_option maxRecDepth 100000
set_option maxHeartbeats 400000
namespace V
open PySem PySem.Spec PyProof.Rows L2 Evl TL NumText
theorem room_u {k : Nat} {A : Around} (r : Room k A) : A.units + 80 < cLine := by
  have := r.un
  omega
theorem join2_len : ∀ ts : List Str, (Str.join ", " ts).length ≤ (ts.map (·.length)).sum + 2 * ts.length
  | [] => by
    show ("" : Str).length ≤ 0
    decide +kernel
  | [x] => by
    show x.length ≤ _
    rw [List.map_cons, List.sum_cons]
    omega
  | x :: y :: r => by
    have ih := join2_len (y :: r)
    show (x ++ ", " ++ Str.join ", " (y :: r)).length ≤ _
    rw [str_len_append, str_len_append, show (", " : Str).length = 2 by decide +kernel, List.map_cons, List.sum_cons, List.length_cons]
    omega
theorem tuple_len (ts : List Str) : (tupleText ts).length ≤ (ts.map (·.length)).sum + 2 * ts.length + 3 := by
  unfold tupleText
  have h := join2_len ts
  rw [str_len_append, str_len_append, show ("(" : Str).length = 1 by decide +kernel]
  have : ((if (ts.length == 1) = true then ",)" else ")" : String) : Str).length ≤ 2 := by
    split
    · decide +kernel
    · decide +kernel
  omega
theorem shownAll_map (ds : List PyData) : PyData.shownAll ds = ds.map PyData.shown := by
  induction ds with
  | nil => simp [PyData.shownAll]
  | cons d ds ih => rw [PyData.shownAll, ih, List.map_cons]
theorem shown_tup (ds : List PyData) : (PyData.tuple ds).shown.length ≤ (ds.map fun d => d.shown.length).sum + 2 * ds.length + 3 := by
  rw [PyData.shown]
  have h := tuple_len (PyData.shownAll ds)
  rw [shownAll_map, List.map_map, List.length_map] at h
  rw [shownAll_map]
  exact h
theorem shown_str {x : Str} (h : ∀ c ∈ tl x, c < 1114112) : (PyData.str x).shown.length ≤ 10 * x.length + 2 := by
  rw [PyData.shown]
  exact StrLaws.reprText_len x fun c hc => Nat.lt_trans (h c hc) (by decide)
theorem shown_nat {n : Nat} (h : n < 10000000) : (PyData.int (n : Int)).shown.length ≤ 7 := by
  rw [PyData.shown]
  exact nt_len h
theorem ascii_of {x : Str} (h : x.cps.toList.all (fun c => decide (c < 1114112)) = true) : ∀ c ∈ tl x, c < 1114112 := fun c hc => of_decide_eq_true (List.all_eq_true.mp h c hc)
theorem op_len (o : Op) : o.str.length ≤ 5 := by cases o <;> decide +kernel
theorem op_asc (o : Op) : ∀ c ∈ tl o.str, c < 1114112 := ascii_of (by cases o <;> decide +kernel)
theorem py_shown {M : Nat} (hM : M ≤ 1000002) : ∀ t : Tm, t.Ok M → t.py.shown.length ≤ 150 * t.size := by
  have each : ∀ ts : List Tm, (∀ t ∈ ts, t.py.shown.length ≤ 150 * t.size) → ((Tm.pys ts).map fun d => d.shown.length).sum ≤ 150 * Tm.sizes ts := by
    intro ts
    induction ts with
    | nil => exact fun _ => Nat.le_refl _
    | cons t ts ih =>
      intro h
      have i1 := ih fun u hu => h u (List.mem_cons_of_mem _ hu)
      have i2 := h t (List.mem_cons_self ..)
      show t.py.shown.length + ((Tm.pys ts).map fun d => d.shown.length).sum ≤ 150 * (t.size + Tm.sizes ts)
      omega
  refine Tm.ind (fun n k => ?_) (fun n k => ?_) fun h ts ih k => ?_
  · cases k with
    | num hn =>
      have h1 := shown_tup [.str "num", .int (n : Int)]
      have h2 := shown_str (x := "num") (ascii_of (by decide +kernel))
      have h3 := shown_nat (n := n) (by omega)
      have l3 : ("num" : Str).length = 3 := by decide +kernel
      show (PyData.tuple [.str "num", .int (n : Int)]).shown.length ≤ 150
      simp only [List.map_cons, List.map_nil, List.sum_cons, List.sum_nil, List.length_cons, List.length_nil] at h1
      omega
  · cases k with
    | arg hn =>
      have h1 := shown_tup [.str "arg", .int (n : Int)]
      have h2 := shown_str (x := "arg") (ascii_of (by decide +kernel))
      have h3 := shown_nat (n := n) (by omega)
      have l3 : ("arg" : Str).length = 3 := by decide +kernel
      show (PyData.tuple [.str "arg", .int (n : Int)]).shown.length ≤ 150
      simp only [List.map_cons, List.map_nil, List.sum_cons, List.sum_nil, List.length_cons, List.length_nil] at h1
      omega
  · cases k with
    | node hh hks =>
    have e := each ts fun t ht => ih t ht (hks t ht)
    have le := hh.le
    have nz : (Tm.node h ts).size = 1 + Tm.sizes ts := rfl
    have pl : (Tm.pys ts).length = ts.length := by rw [pys_map, List.length_map]
    have hp := shown_tup (Tm.pys ts)
    cases h with
    | op o =>
      have h1 := shown_tup (.str o.str :: Tm.pys ts)
      have h2 := shown_str (op_asc o)
      have h3 := op_len o
      show (PyData.tuple (.str o.str :: Tm.pys ts)).shown.length ≤ _
      simp only [List.map_cons, List.sum_cons, List.length_cons] at h1
      omega
    | call m =>
      have h1 := shown_tup [.str "call", .str m, .tuple (Tm.pys ts)]
      have h2 := shown_str (x := "call") (ascii_of (by decide +kernel))
      have h3 := shown_str (x := m) fun c hc => by have := hh.1.2 c hc; omega
      have l4 : ("call" : Str).length = 4 := by decide +kernel
      have l6 : m.length = 6 := hh.1.1
      show (PyData.tuple [.str "call", .str m, .tuple (Tm.pys ts)]).shown.length ≤ _
      simp only [List.map_cons, List.map_nil, List.sum_cons, List.sum_nil, List.length_cons, List.length_nil] at h1
      omega
    | ring m =>
      have h1 := shown_tup [.str "ring", .int (m : Int), .tuple (Tm.pys ts)]
      have h2 := shown_str (x := "ring") (ascii_of (by decide +kernel))
      have mM : m ≤ M := hh.1
      have h3 := shown_nat (n := m) (by omega)
      have l4 : ("ring" : Str).length = 4 := by decide +kernel
      show (PyData.tuple [.str "ring", .int (m : Int), .tuple (Tm.pys ts)]).shown.length ≤ _
      simp only [List.map_cons, List.map_nil, List.sum_cons, List.sum_nil, List.length_cons, List.length_nil] at h1
      omega
theorem py_showable {M : Nat} (hM : M ≤ 1000002) : ∀ t : Tm, t.Ok M → t.py.showable = true := by
  have each : ∀ ts : List Tm, (∀ t ∈ ts, t.py.showable = true) → PyData.showableAll (Tm.pys ts) = true := by
    intro ts
    induction ts with
    | nil => exact fun _ => by simp [Tm.pys, PyData.showableAll]
    | cons t ts ih =>
      intro h
      show PyData.showableAll (t.py :: Tm.pys ts) = true
      rw [PyData.showableAll, h t (List.mem_cons_self ..), ih fun u hu => h u (List.mem_cons_of_mem _ hu)]
      rfl
  have int : ∀ n : Nat, n ≤ 1000002 → PyData.showable (.int (n : Int)) = true := fun n hn => by
    rw [PyData.showable]
    exact decide_eq_true (log_small (by omega) (by omega))
  refine Tm.ind (fun n k => ?_) (fun n k => ?_) fun h ts ih k => ?_
  · cases k with
    | num hn =>
      show PyData.showable (.tuple [.str "num", .int (n : Int)]) = true
      rw [PyData.showable, PyData.showableAll, PyData.showableAll, PyData.showableAll, int n hn, PyData.showable]
      rfl
  · cases k with
    | arg hn =>
      show PyData.showable (.tuple [.str "arg", .int (n : Int)]) = true
      rw [PyData.showable, PyData.showableAll, PyData.showableAll, PyData.showableAll, int n (by omega), PyData.showable]
      rfl
  · cases k with
    | node hh hks =>
    have e := each ts fun t ht => ih t ht (hks t ht)
    cases h with
    | op o =>
      show PyData.showable (.tuple (.str o.str :: Tm.pys ts)) = true
      rw [PyData.showable, PyData.showableAll, PyData.showable, e]
      rfl
    | call m =>
      show PyData.showable (.tuple [.str "call", .str m, .tuple (Tm.pys ts)]) = true
      rw [PyData.showable, PyData.showableAll, PyData.showableAll, PyData.showableAll, PyData.showableAll, PyData.showable, PyData.showable, PyData.showable, e]
      rfl
    | ring m =>
      have mM : m ≤ M := hh.1
      show PyData.showable (.tuple [.str "ring", .int (m : Int), .tuple (Tm.pys ts)]) = true
      rw [PyData.showable, PyData.showableAll, PyData.showableAll, PyData.showableAll, PyData.showableAll, int m (by omega), PyData.showable, PyData.showable, e]
      rfl
theorem py_show {M : Nat} (hM : M ≤ 1000002) {t : Tm} (k : t.Ok M) (d : t.deep ≤ 32) (z : t.size ≤ 1000) : t.py.showable = true ∧ t.py.hasDict = false ∧ t.py.depth ≤ 64 ∧ t.py.shown.length ≤ sizeLine :=
  ⟨py_showable hM t k, PyData.hasDict_of_canLay _ (py_lay t k).1, by have := (py_lay t k).2; omega, by
    have h := py_shown hM t k
    have big : sizeLine = 16777216 := sizeLine_eq
    omega⟩
end V


set_option Elab.async false
set_option linter.all false
set_option maxRecDepth 100000
set_option maxHeartbeats 4000000
namespace V
open PySem PySem.Spec PyProof.Rows L2 Evl TL NumText
/-! ### things of any kind, of a bounded size -/
mutual
def wtD : PyData → Nat
  | .list xs => wtsD xs + 1
  | .tuple xs => wtsD xs + 1
  | .none => 1
  | .bool _ => 1
  | .int _ => 1
  | .str _ => 1
  | .dict _ => 1
def wtsD : List PyData → Nat
  | [] => 0
  | x :: xs => wtD x + wtsD xs
end
theorem wt_pos (d : PyData) : 1 ≤ wtD d := by
  cases d <;> simp [wtD]
theorem wts_app : ∀ xs ys : List PyData, wtsD (xs ++ ys) = wtsD xs + wtsD ys
  | [], ys => by simp [wtsD]
  | x :: xs, ys => by
    rw [List.cons_append, wtsD, wtsD, wts_app xs ys]
    omega
theorem wts_rev : ∀ xs : List PyData, wtsD xs.reverse = wtsD xs
  | [] => rfl
  | x :: xs => by
    rw [List.reverse_cons, wts_app, wts_rev xs, wtsD, wtsD, wtsD]
    omega
theorem wts_len : ∀ xs : List PyData, xs.length ≤ wtsD xs
  | [] => Nat.zero_le _
  | x :: xs => by
    have h1 := wts_len xs
    have h2 := wt_pos x
    rw [List.length_cons, wtsD]
    omega
theorem wts_mem : ∀ {xs : List PyData} {x : PyData}, x ∈ xs → wtD x ≤ wtsD xs
  | y :: xs, x, h => by
    rw [wtsD]
    rcases List.mem_cons.mp h with rfl | h
    · omega
    · have := wts_mem h
      omega
inductive FinD (m : Nat) : PyData → Prop where
  | non : FinD m .none
  | bl (b : Bool) : FinD m (.bool b)
  | int {i : Int} : i.natAbs ≤ 10 ^ 30 + m → FinD m (.int i)
  | str {x : Str} : x.length ≤ 40 + m → (∀ c ∈ tl x, c < 128) → FinD m (.str x)
  | lst {ds : List PyData} : (∀ d ∈ ds, FinD m d) → FinD m (.list ds)
  | tup {ds : List PyData} : (∀ d ∈ ds, FinD m d) → FinD m (.tuple ds)
theorem FinD.up {m k : Nat} (h : m ≤ k) {d : PyData} (f : FinD m d) : FinD k d := by
  induction f with
  | non => exact .non
  | bl b => exact .bl b
  | int z => exact .int (by omega)
  | str z a => exact .str (by omega) a
  | lst _ ih => exact .lst ih
  | tup _ ih => exact .tup ih
/-- a thing made of one: not much greater -/
structure Gr (m : Nat) (d e : PyData) : Prop where
  fin : FinD (m + 1) e
  dep : e.depth ≤ d.depth + 2
  wt : wtD e ≤ 2 * wtD d + 10
mutual
/-- what is written in the text of a program -/
def okC : PyData → Bool
  | .list xs => okCs xs
  | .tuple xs => okCs xs
  | .none => true
  | .bool _ => true
  | .int i => decide (i.natAbs ≤ 10 ^ 30)
  | .str x => decide (x.length ≤ 40) && x.cps.toList.all fun c => decide (c < 128)
  | .dict _ => false
def okCs : List PyData → Bool
  | [] => true
  | x :: xs => okC x && okCs xs
end
mutual
theorem okC_fin (m : Nat) : ∀ d : PyData, okC d = true → FinD m d
  | .none, _ => .non
  | .bool b, _ => .bl b
  | .int i, h => .int (by
      have := of_decide_eq_true (show decide (i.natAbs ≤ 10 ^ 30) = true from h)
      omega)
  | .str x, h => by
    have h2 : (decide (x.length ≤ 40) && x.cps.toList.all fun c => decide (c < 128)) = true := h
    rw [Bool.and_eq_true] at h2
    exact .str (by have := of_decide_eq_true h2.1; omega) fun c hc => of_decide_eq_true (List.all_eq_true.mp h2.2 c hc)
  | .list xs, h => .lst (okCs_fin m xs h)
  | .tuple xs, h => .tup (okCs_fin m xs h)
  | .dict _, h => by cases h
theorem okCs_fin (m : Nat) : ∀ ds : List PyData, okCs ds = true → ∀ d ∈ ds, FinD m d
  | [], _ => fun d hd => by cases hd
  | x :: xs, h => by
    have h2 : (okC x && okCs xs) = true := h
    rw [Bool.and_eq_true] at h2
    have h3 := okC_fin m x h2.1
    have h4 := okCs_fin m xs h2.2
    intro d hd
    rcases List.mem_cons.mp hd with e | hd
    · rw [e]
      exact h3
    · exact h4 d hd
end
def okG (d : PyData) : Bool := okC d && decide (d.depth ≤ 2) && decide (wtD d ≤ 8)
theorem okG_gr {m : Nat} {d e : PyData} (h : okG e = true) : Gr m d e := by
  unfold okG at h
  rw [Bool.and_eq_true, Bool.and_eq_true] at h
  exact ⟨okC_fin _ _ h.1.1, by have := of_decide_eq_true h.1.2; omega, by have := of_decide_eq_true h.2; omega⟩
theorem dep_all {n : Nat} : ∀ {ds : List PyData}, (∀ d ∈ ds, d.depth ≤ n) → PyData.depthAll ds ≤ n
  | [], _ => Nat.zero_le _
  | x :: xs, h => by
    rw [PyData.depthAll]
    exact Nat.max_le.mpr ⟨h x (List.mem_cons_self ..), dep_all fun d hd => h d (List.mem_cons_of_mem _ hd)⟩
theorem dep_mem : ∀ {ds : List PyData} {d : PyData}, d ∈ ds → d.depth ≤ PyData.depthAll ds
  | x :: xs, d, h => by
    rw [PyData.depthAll]
    rcases List.mem_cons.mp h with rfl | h
    · exact Nat.le_max_left _ _
    · exact Nat.le_trans (dep_mem h) (Nat.le_max_right _ _)
theorem gr_tup {m : Nat} {d : PyData} {es : List PyData} (h : ∀ e ∈ es, FinD (m + 1) e ∧ e.depth ≤ d.depth + 1) (w : wtsD es + 1 ≤ 2 * wtD d + 10) : Gr m d (.tuple es) :=
  ⟨.tup fun e he => (h e he).1, by rw [PyData.depth]; have := dep_all fun e he => (h e he).2; omega, by rw [wtD]; exact w⟩
theorem gr_lst {m : Nat} {d : PyData} {es : List PyData} (h : ∀ e ∈ es, FinD (m + 1) e ∧ e.depth ≤ d.depth + 1) (w : wtsD es + 1 ≤ 2 * wtD d + 10) : Gr m d (.list es) :=
  ⟨.lst fun e he => (h e he).1, by rw [PyData.depth]; have := dep_all fun e he => (h e he).2; omega, by rw [wtD]; exact w⟩
/-- parts of a written kind, or the thing -/
theorem gr_part {m : Nat} {d e : PyData} (f : FinD m d) (h : okC e = true ∧ e.depth ≤ 1 ∨ e = d) : FinD (m + 1) e ∧ e.depth ≤ d.depth + 1 := by
  rcases h with ⟨h1, h2⟩ | rfl
  · exact ⟨okC_fin _ _ h1, by omega⟩
  · exact ⟨f.up (Nat.le_succ m), Nat.le_succ _⟩
theorem FinD.lay {m : Nat} {d : PyData} (f : FinD m d) : d.canLay0 = true := by
  have all : ∀ ds : List PyData, (∀ d ∈ ds, d.canLay0 = true) → PyData.canLayAll0 ds = true := by
    intro ds
    induction ds with
    | nil => exact fun _ => by simp [PyData.canLayAll0]
    | cons x xs ih =>
      intro h
      rw [PyData.canLayAll0, h x (List.mem_cons_self ..), ih fun d hd => h d (List.mem_cons_of_mem _ hd)]
      rfl
  induction f with
  | non => simp [PyData.canLay0]
  | bl b => simp [PyData.canLay0]
  | int z => simp [PyData.canLay0]
  | @str x z a =>
    rw [PyData.canLay0]
    show x.cps.all _ = true
    rw [← Array.all_toList, List.all_eq_true]
    exact fun c hc => decide_eq_true (Nat.lt_trans (a c hc) (by decide))
  | lst _ ih => rw [PyData.canLay0]; exact all _ ih
  | tup _ ih => rw [PyData.canLay0]; exact all _ ih
theorem FinD.able {m : Nat} (hm : m ≤ 10) {d : PyData} (f : FinD m d) : d.showable = true := by
  have all : ∀ ds : List PyData, (∀ d ∈ ds, d.showable = true) → PyData.showableAll ds = true := by
    intro ds
    induction ds with
    | nil => exact fun _ => by simp [PyData.showableAll]
    | cons x xs ih =>
      intro h
      rw [PyData.showableAll, h x (List.mem_cons_self ..), ih fun d hd => h d (List.mem_cons_of_mem _ hd)]
      rfl
  induction f with
  | non => simp [PyData.showable]
  | bl b => simp [PyData.showable]
  | @int i z =>
    rw [PyData.showable]
    refine decide_eq_true ?_
    by_cases h0 : i.natAbs = 0
    · rw [h0]; decide
    · exact Nat.log2_lt h0 |>.mpr (Nat.lt_of_le_of_lt z (Nat.lt_of_le_of_lt (Nat.add_le_add_left hm _) (by decide +kernel : 10 ^ 30 + 10 < 2 ^ 1920)))
  | str z a => simp [PyData.showable]
  | lst _ ih => rw [PyData.showable]; exact all _ ih
  | tup _ ih => rw [PyData.showable]; exact all _ ih
/-- the text of a number: few signs, figures -/
theorem int_text {m : Nat} (hm : m ≤ 10) {i : Int} (z : i.natAbs ≤ 10 ^ 30 + m) : ((toString i : String) : Str).length ≤ 40 ∧ ∀ c ∈ tl ((toString i : String) : Str), c < 128 := by
  refine ⟨?_, fun c hc => ?_⟩
  · rw [len_tl, show tl ((toString i : String) : Str) = _ from signs_ofString _, List.length_map, Int.toString_eq_repr, Int.repr_eq_if]
    have big : (Nat.toDigits 10 i.natAbs).length ≤ 31 := toDigits_len_pow (by decide) (by decide) (Nat.lt_of_le_of_lt z (Nat.lt_of_le_of_lt (Nat.add_le_add_left hm _) (by decide +kernel : 10 ^ 30 + 10 < 10 ^ 31)))
    split
    · rename_i h
      rw [Nat.toList_repr]
      rw [show i.toNat = i.natAbs by omega]
      omega
    · rw [String.toList_append, List.length_append, Nat.toList_repr]
      rw [show (-i).toNat = i.natAbs by omega]
      have : "-".toList.length = 1 := by decide
      omega
  · rw [show tl ((toString i : String) : Str) = _ from signs_ofString _, List.mem_map] at hc
    obtain ⟨ch, hch, rfl⟩ := hc
    rcases int_sign i ch hch with h | h
    · have := digit_range h
      omega
    · rw [h]
      decide
theorem FinD.shown {m : Nat} (hm : m ≤ 10) {d : PyData} (f : FinD m d) : d.shown.length + 5 ≤ 600 * wtD d := by
  have all : ∀ ds : List PyData, (∀ d ∈ ds, d.shown.length + 5 ≤ 600 * wtD d) → (ds.map fun d => d.shown.length).sum + 5 * ds.length ≤ 600 * wtsD ds := by
    intro ds
    induction ds with
    | nil => exact fun _ => Nat.le_refl _
    | cons x xs ih =>
      intro h
      have h1 := h x (List.mem_cons_self ..)
      have h2 := ih fun d hd => h d (List.mem_cons_of_mem _ hd)
      rw [List.map_cons, List.sum_cons, List.length_cons, wtsD]
      omega
  induction f with
  | non => rw [PyData.shown, wtD]; decide +kernel
  | bl b => rw [PyData.shown, wtD]; cases b <;> decide +kernel
  | @int i z =>
    rw [PyData.shown, wtD]
    have := (int_text hm z).1
    omega
  | @str x z a =>
    have := shown_str (x := x) fun c hc => Nat.lt_trans (a c hc) (by decide)
    rw [wtD]
    omega
  | @lst ds _ ih =>
    have h1 := all _ ih
    have h2 := listText_len_le (PyData.shownAll ds)
    rw [shownAll_map, List.map_map, List.length_map] at h2
    have h3 : ((ds.map PyData.shown).map (·.length)).sum = (ds.map fun d => d.shown.length).sum := by rw [List.map_map]; rfl
    rw [PyData.shown, shownAll_map, wtD]
    have h4 : (List.map ((fun x => Str.length x) ∘ PyData.shown) ds).sum = (ds.map fun d => d.shown.length).sum := rfl
    omega
  | @tup ds _ ih =>
    have h1 := all _ ih
    have h2 := shown_tup ds
    rw [wtD]
    omega
theorem FinD.small {m : Nat} (hm : m ≤ 10) {d : PyData} (f : FinD m d) : wtD d ≤ 1000 → Small d := by
  induction f with
  | non => exact fun _ => .non
  | bl b => exact fun _ => .bl b
  | int z => exact fun _ => .int _
  | str z a => exact fun _ => .str (by omega)
  | @lst ds _ ih =>
    intro h
    rw [wtD] at h
    have h2 := wts_len ds
    exact .lst (by omega) fun d hd => ih d hd (by have := wts_mem hd; omega)
  | @tup ds _ ih =>
    intro h
    rw [wtD] at h
    have h2 := wts_len ds
    exact .tup (by omega) fun d hd => ih d hd (by have := wts_mem hd; omega)
theorem FinD.shaped {m : Nat} {d : PyData} (f : FinD m d) (h : d.depth ≤ 64) : SeqAt.shaped d = true := by
  unfold SeqAt.shaped
  rw [f.lay, decide_eq_true h]
  rfl
theorem FinD.show {m : Nat} (hm : m ≤ 10) {d : PyData} (f : FinD m d) (h : d.depth ≤ 64) (w : wtD d ≤ 1000) : d.showable = true ∧ d.hasDict = false ∧ d.depth ≤ 64 ∧ d.shown.length ≤ sizeLine :=
  ⟨f.able hm, PyData.hasDict_of_canLay _ f.lay, h, by
    have h1 := f.shown hm
    have big : sizeLine = 16777216 := sizeLine_eq
    omega⟩
/-- great letters -/
theorem upper_fin : ∀ (l : List Nat), (∀ c ∈ l, c < 128) → (Txt.upper ⟨l.toArray⟩).length = l.length ∧ ∀ c ∈ tl (Txt.upper ⟨l.toArray⟩), c < 128
  | [], _ => ⟨rfl, fun c hc => by cases hc⟩
  | c :: l, h => by
    obtain ⟨h1, h2⟩ := upper_fin l fun d hd => h d (List.mem_cons_of_mem _ hd)
    have hc := h c (List.mem_cons_self ..)
    have e : (⟨(c :: l).toArray⟩ : Str) = (⟨#[c]⟩ : Str) ++ ⟨l.toArray⟩ := Str.ext' (by
      rw [Str.cps_append]
      simp)
    rw [e, PySem.W.KOpn.upper_app, PySem.W.KOpn.upper_one hc, str_len_append]
    refine ⟨by rw [h1, List.length_cons]; show 1 + l.length = _; omega, fun d hd => ?_⟩
    have e2 : tl ((⟨#[if 97 ≤ c ∧ c ≤ 122 then c - 32 else c]⟩ : Str) ++ Txt.upper ⟨l.toArray⟩) = (if 97 ≤ c ∧ c ≤ 122 then c - 32 else c) :: tl (Txt.upper ⟨l.toArray⟩) := by
      show (((⟨#[if 97 ≤ c ∧ c ≤ 122 then c - 32 else c]⟩ : Str) ++ Txt.upper ⟨l.toArray⟩).cps).toList = _
      rw [Str.cps_append, Array.toList_append]
      rfl
    rw [e2] at hd
    rcases List.mem_cons.mp hd with rfl | hd
    · split <;> omega
    · exact h2 d hd
end V


set_option Elab.async false
set_option linter.all false
set_option maxRecDepth 100000
set_option maxHeartbeats 4000000
/-! ### tuple[::-1], list(text), tuple(text), truths and numbers -/
namespace V
open PySem PySem.Spec PyProof.Rows L2 Evl
section
variable {X : Cx}
/-- + and - of a number or a truth and a number -/
def numOf : V → Option Int
  | .int i => some i
  | .bl b => some (if b = true then 1 else 0)
  | _ => none
def rNum (g : Int → Int → Int) : R2 := fun x y H Q => ∃ i j, numOf x = some i ∧ y = .int j ∧ Q (.int (g i j)) H
theorem op_addN : OpR X (binaryOp .Add) (rNum fun i j => i + j) := by
  intro pins s σ H x y v u Q I rx ry h
  obtain ⟨i, j, hx, rfl, q⟩ := h
  obtain ⟨t, rfl⟩ := ry
  cases x with
  | int a =>
    cases hx
    obtain ⟨t2, rfl⟩ := rx
    exact add_int ⟨.int (i + j), H, I.tok _, ⟨_, rfl⟩, q⟩
  | bl b =>
    cases hx
    cases rx
    exact PySem.IntBool.add_bool_int ⟨.int _, H, I.tok _, ⟨_, rfl⟩, q⟩
  | _ => cases hx
theorem op_subN : OpR X (binaryOp .Sub) (rNum fun i j => i - j) := by
  intro pins s σ H x y v u Q I rx ry h
  obtain ⟨i, j, hx, rfl, q⟩ := h
  obtain ⟨t, rfl⟩ := ry
  cases x with
  | int a =>
    cases hx
    obtain ⟨t2, rfl⟩ := rx
    exact sub_int ⟨.int (i - j), H, I.tok _, ⟨_, rfl⟩, q⟩
  | bl b =>
    cases hx
    cases rx
    exact PySem.IntBool.sub_bool_int ⟨.int _, H, I.tok _, ⟨_, rfl⟩, q⟩
  | _ => cases hx
/-- str(number), str(truth) -/
def rStrN : List V → Hp → VK → Prop := fun xs H Q => (∃ i : Int, xs = [.int i] ∧ i.natAbs.log2 < 1920 ∧ Q (.str (toString i)) H) ∨ ∃ b : Bool, xs = [.bl b] ∧ Q (.str (if b = true then "True" else "False")) H
theorem call_strN : CallR X (.type "str") rStrN := by
  intro pins s σ H xs us Q I r h
  rcases h with ⟨i, rfl, hz, q⟩ | ⟨b, rfl, q⟩
  · exact call_str_int pins s σ H _ us Q I r ⟨i, rfl, hz, q⟩
  · obtain ⟨u, rfl, r1⟩ := vals1 r
    cases r1
    exact PySem.P.str_of_bool ⟨.str _, H, I.tok _, ⟨_, rfl⟩, q⟩
/-- the signs of a text -/
def sgV (x : Str) : List V := x.cps.toList.map fun c => .str ⟨#[c]⟩
theorem sg_vals : ∀ (l : List Nat) (us : List Value), us.length = l.length → (∀ (j : Nat) (v : Value), us[j]? = some v → ∃ c u, l[j]? = some c ∧ v = .str ⟨#[c]⟩ u) → Vals (l.map fun c => V.str ⟨#[c]⟩) us
  | [], [], _, _ => .nil
  | c :: l, u :: us, e, h => by
    obtain ⟨c2, t, h1, h2⟩ := h 0 u rfl
    cases h1
    subst h2
    exact .cons ⟨t, rfl⟩ (sg_vals l us (Nat.succ.inj e) fun j v hj => h (j + 1) v hj)
  | [], _ :: _, e, _ => by cases e
  | _ :: _, [], e, _ => by cases e
theorem sg_items {x : Str} {acc : Array Value} (h : ItemsOf (SignAt x) acc x.cps.size) : Vals (sgV x) acc.toList := by
  refine sg_vals _ _ (by rw [Array.length_toList, Array.length_toList]; exact h.1) fun j v hj => ?_
  obtain ⟨c, u, h1, h2⟩ := h.2 j v (by rw [← Array.getElem?_toList]; exact hj)
  exact ⟨c, u, by rw [Array.getElem?_toList]; exact h1, h2⟩
theorem sg_len (x : Str) : (sgV x).length = x.length := by
  unfold sgV
  rw [List.length_map, Array.length_toList]
  rfl
def rLstS : List V → Hp → VK → Prop := fun xs H Q => ∃ x : Str, xs = [.str x] ∧ x.length ≤ sizeLine ∧ ∀ l, H l = none → Q (.ref l) (upd H l (.lst (sgV x)))
def rTupS : List V → Hp → VK → Prop := fun xs H Q => ∃ x : Str, xs = [.str x] ∧ x.length ≤ sizeLine ∧ ∀ l, H l = none → Q (.ref l) (upd H l (.tup (sgV x)))
theorem call_lstS (hc : X.calm = true) : CallR X (.type "list") rLstS := by
  intro pins s σ H xs us Q I r h
  obtain ⟨x, rfl, hz, q⟩ := h
  obtain ⟨u, rfl, t, rfl⟩ := vals1 r
  refine PySem.call_list_str (I.ok.hd hc) x t (fun h' tk acc c' k e ha => ?_) hz
  have rv := sg_items ha
  refine ⟨.ref s.heap.objs.size, _, I.laid (t' := tk) (o := .lst (sgV x)) k (Nat.le_refl _) ?_, rfl, q _ I.fresh⟩
  exact ⟨by rw [sg_len]; exact hz, acc.toList, c', rv, by rw [Array.toArray_toList]; exact e⟩
theorem call_tupS (hc : X.calm = true) : CallR X (.type "tuple") rTupS := by
  intro pins s σ H xs us Q I r h
  obtain ⟨x, rfl, hz, q⟩ := h
  obtain ⟨u, rfl, t, rfl⟩ := vals1 r
  refine PySem.call_tuple_str (I.ok.hd hc) x t (fun h' tk acc k ha => ?_) hz
  have rv := sg_items ha
  have I1 : L2.Inv X pins σ H { s with heap := h', toks := tk } := I.kept (t' := tk) k
  refine ⟨.ref h'.objs.size, _, I1.laid (t' := tk) (o := .tup (sgV x)) (fun _ _ z => Heap.get?_push_of_some _ z) (Nat.le_refl _) ?_, rfl, q _ I1.fresh⟩
  refine ⟨by rw [sg_len]; exact hz, acc.toList, rv, ?_⟩
  rw [Array.toArray_toList]
  exact IsTup.new _ _
end
/-- a if t else b, as a test -/
def tIfT (t ta tb : TT) : TT := fun σ H Q => t σ H fun c H1 => if c = true then ta σ H1 Q else tb σ H1 Q
theorem pt_ifExp {X : Cx} {c a b : Expr} {tA ta tb : TT} {pos : Pos} (hc : PT X c tA) (ha : PT X a ta) (hb : PT X b tb) : PT X (.IfExp c a b pos) (tIfT tA ta tb) := by
  refine ⟨fun pins s σ H Q I h => ?_⟩
  refine isTrue_IfExp (thn (hc.run pins s σ H _ I h) fun d s1 ⟨H1, I1, q1⟩ => ?_)
  cases d with
  | true => exact ha.run pins s1 σ H1 Q I1 q1
  | false => exact hb.run pins s1 σ H1 Q I1 q1
/-! ### t[::-1] -/
section
variable {prog : Program} {w : World} {A : Around} {E : Value → Shared → Prop} {s : Shared}
theorem fm_congr {α β : Type} {f g : α → Option β} : ∀ {l : List α}, (∀ x ∈ l, f x = g x) → l.filterMap f = l.filterMap g
  | [], _ => rfl
  | x :: l, h => by
    rw [List.filterMap_cons, List.filterMap_cons, h x (List.mem_cons_self ..), fm_congr fun y hy => h y (List.mem_cons_of_mem _ hy)]
theorem rev_pick (xs : Array Value) : ((List.range xs.size).filterMap fun (m : Nat) => xs[(((xs.size : Int) - 1) + (m : Int) * (-1)).toNat]?).toArray = xs.toList.reverse.toArray := by
  refine congrArg List.toArray ?_
  refine List.ext_getElem? fun i => ?_
  have e : ∀ (k n : Nat), k ≤ n → (((List.range k).filterMap fun (m : Nat) => xs[(((xs.size : Int) - 1) + (m : Int) * (-1)).toNat]?)) = (List.range k).filterMap fun (m : Nat) => xs[xs.size - 1 - m]? := by
    intro k n _
    refine fm_congr fun m hm => ?_
    rw [show ((((xs.size : Int) - 1) + (m : Int) * (-1)).toNat) = xs.size - 1 - m by omega]
  rw [e xs.size xs.size (Nat.le_refl _)]
  have all : ∀ k, k ≤ xs.size → (List.range k).filterMap (fun (m : Nat) => xs[xs.size - 1 - m]?) = (List.range k).map fun m => xs.getD (xs.size - 1 - m) .none := by
    intro k hk
    rw [← List.filterMap_eq_map]
    refine fm_congr fun m hm => ?_
    have : m < k := List.mem_range.mp hm
    have h4 : xs.size - 1 - m < xs.size := by omega
    rw [Array.getElem?_eq_getElem h4]
    show _ = some (xs.getD (xs.size - 1 - m) .none)
    rw [Array.getD_eq_getD_getElem?, Array.getElem?_eq_getElem h4]
    rfl
  rw [all _ (Nat.le_refl _), List.getElem?_map]
  by_cases h : i < xs.size
  · have h2 : i < xs.toList.length := by rw [Array.length_toList]; exact h
    rw [List.getElem?_range h, List.getElem?_reverse h2, Array.length_toList]
    have h3 : xs.size - 1 - i < xs.toList.length := by rw [Array.length_toList]; omega
    rw [List.getElem?_eq_getElem h3]
    have h4 : xs.size - 1 - i < xs.size := by omega
    show some (xs.getD (xs.size - 1 - i) .none) = _
    rw [Array.getD_eq_getD_getElem?, Array.getElem?_eq_getElem h4]
    rfl
  · rw [List.getElem?_eq_none (by rw [List.length_range]; omega), List.getElem?_eq_none (by rw [List.length_reverse, Array.length_toList]; omega)]
    rfl
theorem rev_applied {sl : Addr} {u : Tok} {n : Nat} {Q : Int × Int × Nat → Shared → Prop} (hs : s.heap.IsSliceOf sl .none .none (.int (-1) u)) (h : Q ((n : Int) - 1, -1, n) s) :
    wpAny (model prog w) A (Builtin.Slice.sliceApplied (.ref sl) (pure (n : Int))) Q E s := by
  obtain ⟨os, hos, hcs, hds⟩ := id hs
  unfold Builtin.Slice.sliceApplied Builtin.Slice.sliceFields
  refine wpAny_bind (wpAny_bind (wpAny_field hos hds (x := .none) rfl (wpAny_bind (wpAny_field hos hds (x := .none) rfl (wpAny_bind (wpAny_field hos hds (x := .int (-1) u) rfl (wpAny_pure ?_)))))))
  refine wpAny_bind (HT.slicePart_ (.int (-1) u) ?_)
  show wpAny _ _ (if ((-1 : Int) == 0) = true then _ else _) _ _ s
  rw [if_neg (by decide)]
  refine wpAny_bind (HT.slicePart_ .none (wpAny_bind (HT.slicePart_ .none (wpAny_bind (wpAny_pure ?_)))))
  show wpAny _ _ (match Builtin.Slice.sliceAdjust none none (-1) (n : Int) with | (lo, hi) => pure (lo, (-1 : Int), Builtin.Slice.slicePlaces lo hi (-1))) _ _ s
  have e1 : Builtin.Slice.sliceAdjust none none (-1) (n : Int) = ((n : Int) - 1, -1) := by
    unfold Builtin.Slice.sliceAdjust
    rfl
  have e2 : Builtin.Slice.slicePlaces ((n : Int) - 1) (-1) (-1) = n := by
    unfold Builtin.Slice.slicePlaces
    simp
    omega
  rw [e1]
  show wpAny _ _ (pure ((n : Int) - 1, (-1 : Int), Builtin.Slice.slicePlaces ((n : Int) - 1) (-1) (-1))) _ _ s
  rw [e2]
  exact wpAny_pure h
theorem rev_tuple {t sl : Addr} {items : Array Value} {u : Tok} {Q : Value → Shared → Prop} (ht : IsTup s.heap t items) (hs : s.heap.IsSliceOf sl .none .none (.int (-1) u))
    (h : Q (.ref s.heap.objs.size) { s with heap := s.heap.push { cls := .type "tuple", data := .seq items.toList.reverse.toArray } }) (hsz : items.size ≤ sizeLine) : wpAny (model prog w) A (getItem (.ref t) (.ref sl)) Q E s := by
  have htake : sizeOk (.seq items.toList.reverse.toArray) := by
    show items.toList.reverse.toArray.size ≤ sizeLine
    rw [List.size_toArray, List.length_reverse, Array.length_toList]
    omega
  obtain ⟨os, hos, hcs, hds⟩ := id hs
  have hTs : s.TypeIs (.ref sl) "slice" := ⟨os, hos, hcs⟩
  unfold getItem
  try with_reducible refine wpAny_holding ?_
  first | refine wpAny_bind (wpAny_pure ?_) | skip
  refine wpAny_bind (wpAny_sequenceKey ht.typeIs (by decide) ?_)
  refine wpAny_bind (wpAny_callSpecial?_slot (name := Str.ofString "__getitem__") ht.typeIs PyProof.Rows.slot_tuple_getitem
    (wpAny_call_entry PyProof.Rows.slot_tuple_getitem ht.typeIs PyProof.Rows.entry_tuple_getitem ?_ (PyProof.Rows.args_tuple_getitem _ _)))
  show wpAny _ _ (Builtin.Tuple.tupleItemsOf (.ref t) >>= _) _ _ s
  refine wpAny_bind (PyProof.Rows.tupleItemsOf_ ht ?_)
  refine wpAny_bind (wpAny_typeOf hTs ?_)
  rw [if_pos (by decide)]
  refine wpAny_bind (rev_applied hs ?_)
  have hno : ¬ ((((items.size : Int) - 1) == 0 && (-1 : Int) == 1 && items.size == items.size) = true) := by
    rw [show ((-1 : Int) == 1) = false from rfl]
    simp
  show wpAny _ _ (if (((items.size : Int) - 1) == 0 && (-1 : Int) == 1 && items.size == items.size) = true then _ else _) _ _ s
  rw [if_neg hno, rev_pick]
  first
    | exact wpAny_bind (m := Builtin.Tuple.tupleExact _) (wpAny_newObj_type (wpAny_pure ⟨_, rfl, wpAny_pure h⟩) htake)
    | exact wpAny_bind (m := Builtin.Tuple.tupleExact _) (wpAny_newObj_type (wpAny_bind (wpAny_pure (wpAny_pure ⟨_, rfl, wpAny_pure h⟩))) htake)
    | exact wpAny_bind (wpAny_bind (m := Builtin.Tuple.tupleExact _) (wpAny_newObj_type (wpAny_pure (wpAny_pure ⟨_, rfl, wpAny_pure h⟩)) htake))
    | exact wpAny_bind (wpAny_bind (m := Builtin.Tuple.tupleExact _) (wpAny_newObj_type (wpAny_pure ⟨_, rfl, wpAny_pure h⟩) htake))
end
theorem vals_rev : ∀ {xs : List V} {us : List Value}, Vals xs us → Vals xs.reverse us.reverse
  | _, _, .nil => .nil
  | _, _, .cons r t => by
    rw [List.reverse_cons, List.reverse_cons]
    exact (vals_rev t).append (.cons r .nil)
def tRevT (K : PySem.W.Frag) (te : TE) : TE := fun σ H Q => te σ H fun x H1 => ∃ a xs, x = .ref a ∧ SqT K H1 a xs ∧ ∀ p, H1 p = none → Q (.ref p) (upd H1 p (.tup xs.reverse))
theorem pe_revT {X : Cx} {e : Expr} {te : TE} {k : Nat} {p1 p2 p3 pos : Pos} (he : PE X e te) : PE X (.Subscript e (.Slice none none (some (.UnaryOp .USub (.Constant (.int 1) k p1) p2)) p3) pos) (tRevT X.K te) := by
  refine ⟨fun pins s σ H Q I h => ?_⟩
  refine Subscript_ (thn (he.run pins s σ H _ I h) fun v s1 ⟨x, H1, I1, r1, q1⟩ => ?_)
  obtain ⟨a, xs, ex, hz, q⟩ := q1
  subst ex
  cases r1
  have hst : PO X (some (.UnaryOp .USub (.Constant (.int 1) k p1) p2)) (tPart (tUn (rU fun i => .int (-i)) (tC (.int 1)))) := po_some (pe_un un_neg pe_int)
  refine wpAny_Slice (thn (po_none.run pins s1 σ H1 (fun o H2 => o = none ∧ H2 = H1) I1 ⟨rfl, rfl⟩) fun vl s2 ⟨l, H2, I2, pl, el, e2⟩ => ?_)
  subst el e2
  refine thn (po_none.run pins s2 σ H2 (fun o H3 => o = none ∧ H3 = H2) I2 ⟨rfl, rfl⟩) fun vu s3 ⟨u, H3, I3, pu, eu, e3⟩ => ?_
  subst eu e3
  refine thn (hst.run pins s3 σ H3 (fun o H4 => o = some (-1) ∧ H4 = H3) I3 ⟨1, rfl, -1, rfl, rfl, rfl⟩) fun vs s4 ⟨o, H4, I4, ps, eo, e4⟩ => ?_
  subst eo e4
  have I5 : L2.Inv X pins σ H4 { s4 with heap := s4.heap.push { cls := .type "slice", data := .fields #[vl, vu, vs] } } := I4.kept (t' := s4.toks) fun b ob q => Heap.get?_push_of_some _ q
  cases pl
  cases pu
  cases ps with
  | int i tt =>
  obtain ⟨its, r, ht, hsz⟩ := I5.tuple hz
  show wpAny (model X.prog X.w) X.A (subscriptTail e (.Slice none none (some (.UnaryOp .USub (.Constant (.int 1) k p1) p2)) p3) (.ref a) (.ref s4.heap.objs.size)) (EP X pins σ Q) X.xe { s4 with heap := s4.heap.push { cls := .type "slice", data := .fields #[.none, .none, .int (-1) tt] } }
  refine tail_any (T := "tuple") (ops := [.ref a, .ref s4.heap.objs.size]) ht.typeIs (PyProof.Rows.slot_tuple_getitem.lookup) ?_ (by with_unfolding_all rfl)
  refine rev_tuple (u := tt) ht ⟨_, Heap.get?_push_size _ rfl, rfl, rfl⟩ ?_ (by rw [List.size_toArray, ← r.length]; exact hsz)
  refine ⟨.ref _, _, I5.laid (t' := s4.toks) (o := .tup xs.reverse) (fun b ob q => Heap.get?_push_of_some _ q) (Nat.le_refl _) ?_, rfl, q _ I5.fresh⟩
  exact ⟨by rw [List.length_reverse]; exact hsz, its.reverse, vals_rev r, IsTup.new _ _⟩
end V


set_option Elab.async false
set_option linter.all false
set_option maxRecDepth 100000
set_option maxHeartbeats 4000000
namespace V
open PySem PySem.Spec PyProof.Rows L2 Evl
/-! ### what is drawn -/
/-- the box at b: n things at least may still be drawn of it -/
def Box (H : Hp) (b : Addr) (n : Nat) : Prop := ∃ x y z : Int, H b = some (.lst [.int x, .int y, .int z]) ∧ 0 ≤ x ∧ 0 ≤ y ∧ y < 2147483647 ∧ 0 ≤ z ∧ z + (n : Int) ≤ 1099511627776
theorem Box.less {H : Hp} {b : Addr} {n m : Nat} (h : Box H b n) (le : m ≤ n) : Box H b m := by
  obtain ⟨x, y, z, e, h0, h1, h2, h3, h4⟩ := h
  exact ⟨x, y, z, e, h0, h1, h2, h3, by omega⟩
theorem Box.lst {H : Hp} {b : Addr} {n : Nat} (h : Box H b n) : ∃ xs, H b = some (.lst xs) := by
  obtain ⟨x, y, z, e, _⟩ := h
  exact ⟨_, e⟩
theorem Box.tu {H H' : Hp} {b : Addr} {n : Nat} (h : Box H b n) (e : But b H H') : Tu H H' := by
  obtain ⟨xs, q⟩ := h.lst
  exact e.tu q
theorem Box.ex {H H' : Hp} {b : Addr} {n : Nat} (h : Box H b n) (e : Ex H H') : Box H' b n := by
  obtain ⟨x, y, z, q, r⟩ := h
  exact ⟨x, y, z, e _ _ q, r⟩
/-- one thing below size -/
def spTake : Sp := fun vs H Q _ => ∃ (b : Addr) (size : Int) (n : Nat), vs = [.ref b, .int size] ∧ 0 < size ∧ size ≤ 10000000 ∧ Box H b (n + 1) ∧
  ∀ (H' : Hp) (r : Int), But b H H' → Box H' b n → 0 ≤ r → r < size → Q (.int r) H'
end V


set_option Elab.async false
set_option linter.all false
set_option maxRecDepth 100000
set_option maxHeartbeats 4000000
namespace V
open PySem PySem.Spec PyProof.Rows L2 Evl
theorem ite01 (c : Prop) [Decidable c] : (0 : Int) ≤ (if c then 1 else 0) ∧ (if c then (1 : Int) else 0) ≤ 1 := by
  split <;> decide
/-- a number of a term -/
def spNum : Sp := fun vs H Q _ => ∃ (b : Addr) (n : Nat), vs = [.ref b] ∧ Box H b (n + 4) ∧
  ∀ (H' : Hp) (r : Int), But b H H' → Box H' b n → 0 ≤ r → r ≤ 1000002 → Q (.int r) H'
/-- a box of its own -/
def spBox (K : PySem.W.Frag) : Sp := fun vs H Q _ => ∃ (a : Addr) (ns : List Int) (k : Nat), vs = [.ref a, .int (k : Int)] ∧ SqL K H a (ns.map V.int) ∧ k ≤ 100 ∧
  ∀ (H' : Hp) (b : Addr), H b = none → Ex H H' → Box H' b 1099511627776 → Q (.ref b) H'
end V


set_option Elab.async false
set_option linter.all false
set_option maxRecDepth 100000
set_option maxHeartbeats 400000
namespace V
open PySem PySem.Spec PyProof.Rows L2 Evl TL NumText
/-! ### drawn marks and terms -/
def spSomeMark : Sp := fun vs H Q _ => ∃ (b : Addr) (n : Nat), vs = [.ref b] ∧ Box H b (n + 7) ∧ ∀ (H' : Hp) (m : Str), But b H H' → Box H' b n → isMk m → Q (.str m) H'
def sg36 : Str := "0123456789abcdefghijklmnopqrstuvwxyz"
theorem sg36_at : ∀ d : Nat, d < 36 → ∃ c : Nat, atI sg36.cps.toList (d : Int) = some c ∧ ((48 ≤ c ∧ c ≤ 57) ∨ (97 ≤ c ∧ c ≤ 122)) := by
  intro d hd
  have all : ∀ d : Nat, d < 36 → ∃ c ∈ sg36.cps.toList, sg36.cps.toList[d]? = some c ∧ ((48 ≤ c ∧ c ≤ 57) ∨ (97 ≤ c ∧ c ≤ 122)) := by decide +kernel
  obtain ⟨c, _, h1, h2⟩ := all d hd
  exact ⟨c, atI_nat h1, h2⟩
theorem joinL_nil : ∀ l : List (List Nat), joinL [] l = l.flatten
  | [] => rfl
  | [p] => by
    show p = p ++ []
    rw [List.append_nil]
  | p :: q :: r => by
    show p ++ ([] ++ joinL [] (q :: r)) = p ++ (q :: r).flatten
    rw [joinL_nil (q :: r)]
    rfl
def ones (l : List Nat) : List Str := l.map fun c => ⟨#[c]⟩
theorem tl_ones (l : List Nat) : tl (Str.join "" (ones l)) = l := by
  rw [tl_join, show tl ("" : Str) = [] by decide +kernel, joinL_nil]
  unfold ones
  rw [List.map_map]
  induction l with
  | nil => rfl
  | cons c l ih =>
    show [c] ++ (l.map _).flatten = c :: l
    rw [ih]
    rfl
theorem ones_sum (l : List Nat) : ((ones l).map (·.length)).sum = l.length := by
  unfold ones
  induction l with
  | nil => rfl
  | cons c l ih =>
    rw [List.map_cons, List.map_cons, List.sum_cons, ih, List.length_cons]
    show 1 + l.length = l.length + 1
    omega
end V


set_option Elab.async false
set_option linter.all false
set_option maxRecDepth 100000
set_option maxHeartbeats 400000
namespace V
open PySem PySem.Spec PyProof.Rows L2 Evl TL NumText
/-! ### drawn terms -/
def Hd.L : Hd → List V
  | .op o => [.str o.str]
  | .call m => [.str "call", .str m]
  | .ring p => [.str "ring", .int (p : Int)]
def Hd.notOp : Hd → Bool
  | .op _ => false
  | _ => true
def Hd.pyd : Hd → PyData
  | .op o => .tuple [.str o.str]
  | .call m => .tuple [.str "call", .str m]
  | .ring p => .tuple [.str "ring", .int (p : Int)]
def HdAt (H : Hp) (v : V) (x : Hd × Nat) : Prop := ∃ a c, v = .ref a ∧ H a = some (.tup [.ref c, .int (x.2 : Int)]) ∧ H c = some (.tup x.1.L)
theorem HdAt.tu {H H' : Hp} (e : Tu H H') {v : V} {x : Hd × Nat} (h : HdAt H v x) : HdAt H' v x := by
  obtain ⟨a, c, h1, h2, h3⟩ := h
  exact ⟨a, c, h1, e _ _ h2, e _ _ h3⟩
theorem HdAt.dp {K : PySem.W.Frag} {H : Hp} {v : V} {h : Hd} {s : Nat} (k : HdAt H v (h, s)) : Dp K H v (.tuple [h.pyd, .int (s : Int)]) := by
  obtain ⟨a, c, rfl, h2, h3⟩ := k
  refine .tup (SqT.of h2) (.cons ?_ (.cons (.int _) .nil))
  cases h with
  | op o => exact .tup (SqT.of h3) (.cons (.str _) .nil)
  | call m => exact .tup (SqT.of h3) (.cons (.str _) (.cons (.str _) .nil))
  | ring p => exact .tup (SqT.of h3) (.cons (.str _) (.cons (.int _) .nil))
/-- four heads of calls -/
structure Heads (H : Hp) (hp : Addr) : Prop where
  ex : ∃ (v1 v2 v3 v4 : V) (m1 m2 : Str) (p1 p2 s1 s2 s3 s4 : Nat), H hp = some (.lst [v1, v2, v3, v4]) ∧ HdAt H v1 (.call m1, s1) ∧ HdAt H v2 (.call m2, s2) ∧ HdAt H v3 (.ring p1, s3) ∧ HdAt H v4 (.ring p2, s4) ∧
    isMk m1 ∧ isMk m2 ∧ p1 ≤ 11 ∧ p2 ≤ 11 ∧ s1 ≤ 4 ∧ s2 ≤ 4 ∧ s3 ≤ 4 ∧ s4 ≤ 4
theorem Heads.but {H H' : Hp} {hp b : Addr} {xs : List V} (h : Heads H hp) (hb : H b = some (.lst xs)) (n : hp ≠ b) (e : But b H H') : Heads H' hp := by
  obtain ⟨v1, v2, v3, v4, m1, m2, p1, p2, s1, s2, s3, s4, h0, h1, h2, h3, h4, r⟩ := h.ex
  have tu := e.tu hb
  exact ⟨v1, v2, v3, v4, m1, m2, p1, p2, s1, s2, s3, s4, e _ _ n h0, h1.tu tu, h2.tu tu, h3.tu tu, h4.tu tu, r⟩
/-- one of them -/
theorem Heads.get {H : Hp} {hp : Addr} (h : Heads H hp) : ∃ vs, H hp = some (.lst vs) ∧ vs.length = 4 ∧ ∀ i : Nat, i < 4 → ∃ v hd s, vs[i]? = some v ∧ HdAt H v (hd, s) ∧ hd.notOp = true ∧ hd.ok 11 s := by
  obtain ⟨v1, v2, v3, v4, m1, m2, p1, p2, s1, s2, s3, s4, h0, h1, h2, h3, h4, r1, r2, r3, r4, r5, r6, r7, r8⟩ := h.ex
  refine ⟨_, h0, rfl, fun i hi => ?_⟩
  match i, hi with
  | 0, _ => exact ⟨v1, _, s1, rfl, h1, rfl, r1, r5⟩
  | 1, _ => exact ⟨v2, _, s2, rfl, h2, rfl, r2, r6⟩
  | 2, _ => exact ⟨v3, _, s3, rfl, h3, rfl, r3, r7⟩
  | 3, _ => exact ⟨v4, _, s4, rfl, h4, rfl, r4, r8⟩
theorem mk_lay {m : Str} (h : isMk m) : PyData.canLay0 (.str m) = true := by
  have e : PyData.canLay0 (.str m) = m.cps.all (· < 0x110000) := by
    simp only [PyData.canLay0]
    rfl
  rw [e, ← Array.all_toList, List.all_eq_true]
  intro c hc
  have := h.2 c hc
  exact decide_eq_true (by omega)
theorem Heads.dp {K : PySem.W.Frag} {H : Hp} {hp : Addr} (h : Heads H hp) : ∃ d, Dp K H (.ref hp) d ∧ SeqAt.shaped d = true ∧ PyData.eqv d (.list []) = false := by
  obtain ⟨v1, v2, v3, v4, m1, m2, p1, p2, s1, s2, s3, s4, h0, h1, h2, h3, h4, r⟩ := h.ex
  refine ⟨_, .lst (SqL.of h0) (.cons h1.dp (.cons h2.dp (.cons h3.dp (.cons h4.dp .nil)))), ?_, ?_⟩
  · have k1 := mk_lay r.1
    have k2 := mk_lay r.2.1
    have c1 : PyData.canLay0 (.str "call") = true := by decide +kernel
    have c2 : PyData.canLay0 (.str "ring") = true := by decide +kernel
    unfold SeqAt.shaped
    simp only [Hd.pyd, PyData.canLay0, PyData.canLayAll0, PyData.depth, PyData.depthAll] at k1 k2 c1 c2 ⊢
    rw [k1, k2, c1, c2]
    decide
  · simp only [PyData.eqv, PyData.eqvAll]
def cost : Nat → Nat
  | 0 => 0
  | d + 1 => 5 + 4 * cost d
def most : Nat → Nat
  | 0 => 0
  | d + 1 => 1 + 4 * most d
/-- what comes of a draw of a term -/
def Drawn (b : Addr) (n d : Nat) (H : Hp) (Q : VK) : Prop := ∀ (H' : Hp) (v : V) (t : Tm), But b H H' → Box H' b n → TmAt H' v t → t.Ok 11 → t.deep ≤ d → t.size ≤ most d → Q v H'
def spTerm (d : Nat) : Sp := fun vs H Q _ => ∃ (b hp : Addr) (n many tall : Nat), vs = [.ref b, .int (many : Int), .ref hp, .int (tall : Int)] ∧ Box H b (n + cost d) ∧ 1 ≤ tall ∧ tall ≤ d ∧ 1 ≤ many ∧ many ≤ 4 ∧ hp ≠ b ∧ Heads H hp ∧ Drawn b n d H Q
theorem most_mono {a b : Nat} (h : a ≤ b) : most a ≤ most b := by
  induction b generalizing a with
  | zero => rw [Nat.le_zero.mp h]; exact Nat.le_refl _
  | succ b ih =>
    cases a with
    | zero => exact Nat.zero_le _
    | succ a =>
      have := ih (Nat.le_of_succ_le_succ h)
      show 1 + 4 * most a ≤ 1 + 4 * most b
      omega
end V


set_option Elab.async false
set_option linter.all false
set_option maxRecDepth 100000
set_option maxHeartbeats 400000
namespace V
open PySem PySem.Spec PyProof.Rows L2 Evl TL NumText
/-- from A a statement goes on to B -/
def Hs (t : TS) (A B : L2.St → Hp → Prop) : Prop := ∀ (D : Ends) (σ : L2.St) (H : Hp), A σ H → (∀ σ' H', B σ' H' → D.nx σ' H') → t D σ H
def He1 (t : TS) (A : L2.St → Hp → Prop) (Q : VK) : Prop := ∀ (D : Ends) (σ : L2.St) (H : Hp), A σ H → (∀ v H', Q v H' → D.rt v H') → t D σ H
theorem Hs.fin {t u : TS} {A B : L2.St → Hp → Prop} {Q : VK} (h1 : Hs t A B) (h2 : He1 u B Q) : He1 (tSeq t u) A Q := fun D σ H a k => h1 { D with nx := u D } σ H a fun σ' H' b => h2 D σ' H' b k
theorem dec_ii {a b : Int} : decide (V.int a = V.int b) = decide (a = b) := by
  rw [decide_eq_decide]
  exact ⟨V.int.inj, congrArg V.int⟩
theorem deeps_le (ts : List Tm) (m : Nat) (h : ∀ t ∈ ts, t.deep ≤ m) : Tm.deeps ts ≤ m := by
  induction ts with
  | nil => exact Nat.zero_le _
  | cons t r ih =>
    have h1 := h t (List.mem_cons_self ..)
    have h2 := ih fun u hu => h u (List.mem_cons_of_mem _ hu)
    show max t.deep (Tm.deeps r) ≤ m
    omega
theorem sizes_le (ts : List Tm) (m : Nat) (h : ∀ t ∈ ts, t.size ≤ m) : Tm.sizes ts ≤ ts.length * m := by
  induction ts with
  | nil => exact Nat.zero_le _
  | cons t r ih =>
    have h1 := h t (List.mem_cons_self ..)
    have h2 := ih fun u hu => h u (List.mem_cons_of_mem _ hu)
    show t.size + Tm.sizes r ≤ (r.length + 1) * m
    rw [Nat.add_mul, Nat.one_mul]
    omega
end V


set_option Elab.async false
set_option linter.all false
set_option maxRecDepth 100000
set_option maxHeartbeats 400000
namespace V
open PySem PySem.Spec PyProof.Rows L2 Evl TL NumText
theorem y_run {te : TE} {σ : L2.St} {H : Hp} {R : Hp → V → Prop} {Q : VK} (h : Yl te σ H R) (k : ∀ H2 v, Ex H H2 → R H2 v → Q v H2) : te σ H Q := h H (Ex.refl H) Q k
theorem y_set {te : TE} {i : Nat} {D : Ends} {σ : L2.St} {H : Hp} {R : Hp → V → Prop} (h : Yl te σ H R) (k : ∀ H2 v, Ex H H2 → R H2 v → D.nx (σ.set i (some v)) H2) : tAsg te (gName i) D σ H := h H (Ex.refl H) _ k
theorem y_lst {A : TA} {σ : L2.St} {H : Hp} {R : Hp → List V → Prop} {Q : VK} (h : Ya A σ H R) (k : ∀ H2 vs, Ex H H2 → R H2 vs → vs.length ≤ sizeLine ∧ ∀ p, H2 p = none → Q (.ref p) (upd H2 p (.lst vs))) : tLst A σ H Q := h H (Ex.refl H) _ k
theorem yl_callV {σ : L2.St} {H : Hp} {te : TE} {ta : TA} {m : Str} {ts : List Tm} (hm : Yl te σ H (IsV (.str m))) (h : Ya ta σ H (TmsR ts)) (k : ts.length ≤ 4 := by exact Nat.le_of_ble_eq_true rfl) :
    Yl (tTup (tCons (tC (.str "call")) (tCons te (tCons (tTup ta) tNil)))) σ H (TmR (.node (.call m) ts)) := fun H1 e Q q =>
  hm H1 e _ fun H2 v e2 r => by
    have r' : v = .str m := r
    subst r'
    exact h H2 (e.trans e2) _ fun H3 vs e3 r3 => ⟨by have := tms_len r3 k; omega, fun p hp => ⟨sz 3, fun p2 hp2 => by
      have f1 := Ex.new (o := .tup vs) hp
      have f2 := Ex.new (o := .tup [.str "call", .str m, .ref p]) hp2
      exact q _ _ (e2.trans (e3.trans (f1.trans f2))) (.call upd_same (f2 p _ upd_same) (TmsAt.ex r3 (f1.trans f2)))⟩⟩
theorem seqs {t u : TS} {A B : L2.St → Hp → Prop} {D : Ends} {σ : L2.St} {H : Hp} (h1 : Hs t A B) (a : A σ H) (k : ∀ σ' H', B σ' H' → u D σ' H') : tSeq t u D σ H := h1 { D with nx := u D } σ H a k
theorem asgE {te : TE} {g : TG} {D : Ends} {σ : L2.St} {H : Hp} (h : te σ H fun x H1 => g x σ H1 D.nx) : tAsg te g D σ H := h
end V


set_option Elab.async false
set_option linter.all false
set_option maxRecDepth 100000
set_option maxHeartbeats 4000000
namespace V
open PySem PySem.Spec PyProof.Rows L2 Evl TL NumText
/-! ### data that does not reach the box -/
def wo (b : Addr) (H : Hp) : Hp := fun a => if a = b then none else H a
section
variable {K : PySem.W.Frag} {b : Addr} {H H' : Hp}
theorem wo_ne {a : Addr} (h : a ≠ b) : wo b H a = H a := if_neg h
theorem wo_le : Ex (wo b H) H := fun a o h => by
  unfold wo at h
  split at h
  · cases h
  · exact h
theorem wo_but (e : But b H H') : Ex (wo b H) (wo b H') := fun a o h => by
  unfold wo at h ⊢
  split at h
  · cases h
  · rename_i n
    rw [if_neg n]
    exact e a o n h
theorem wo_ex (e : Ex H H') : Ex (wo b H) (wo b H') := wo_but (But.of e)
theorem wo_upd {p : Addr} {o : HO} (h : p ≠ b) : wo b (upd H p o) p = some o := by
  rw [wo_ne h, upd_same]
/-- a term lies there without the box -/
theorem TmAt.wo {xs : List V} {v : V} {t : Tm} (hb : H b = some (.lst xs)) (h : TmAt H v t) : TmAt (wo b H) v t := h.tu fun c ys hc => by
  rw [wo_ne]
  · exact hc
  · intro z
    rw [z, hb] at hc
    cases hc
end
/-- its data -/
def DR (K : PySem.W.Frag) (b : Addr) (d : PyData) : Hp → V → Prop := fun H v => H b ≠ none ∧ Dp K (wo b H) v d
def DRs (K : PySem.W.Frag) (b : Addr) (ds : List PyData) : Hp → List V → Prop := fun H vs => H b ≠ none ∧ DpAll K (wo b H) vs ds
theorem there {b : Addr} {H H' : Hp} (h : H b ≠ none) (e : Ex H H') : H' b ≠ none := by
  cases z : H b with
  | none => exact absurd z h
  | some o =>
    rw [e b o z]
    exact fun y => by cases y
theorem ne_fresh {b p : Addr} {H : Hp} (h : H b ≠ none) (hp : H p = none) : p ≠ b := fun z => h (by rw [← z]; exact hp)
section
variable {K : PySem.W.Frag} {b : Addr} {σ : L2.St} {H : Hp} {te : TE} {ta : TA} (hb : H b ≠ none)
theorem yd_c {v : V} {d : PyData} (hb : H b ≠ none) (h : ∀ H, Dp K H v d) : Yl (tC v) σ H (DR K b d) := fun H1 e Q q => q H1 v (Ex.refl H1) ⟨there hb e, h _⟩
theorem yd_int (i : Int) (hb : H b ≠ none) : Yl (tC (.int i)) σ H (DR K b (.int i)) := yd_c hb fun _ => .int i
theorem yd_str (x : Str) (hb : H b ≠ none) : Yl (tC (.str x)) σ H (DR K b (.str x)) := yd_c hb fun _ => .str x
theorem yd_bl (x : Bool) (hb : H b ≠ none) : Yl (tC (.bl x)) σ H (DR K b (.bool x)) := yd_c hb fun _ => .bl x
theorem yd_non (hb : H b ≠ none) : Yl (tC .non) σ H (DR K b .none) := yd_c hb fun _ => .non
theorem yd_neg (hb : H b ≠ none) : Yl (tUn (rU fun i => .int (-i)) (tC (.int 1))) σ H (DR K b (.int (-1))) := fun H1 e Q q => ⟨1, rfl, q H1 _ (Ex.refl H1) ⟨there hb e, .int _⟩⟩
theorem yd_pow (hb : H b ≠ none) : Yl (tOp (rI CPow fun i j => .int (i ^ j.toNat)) (tC (.int 10)) (tC (.int 30))) σ H (DR K b (.int (10 ^ 30))) := fun H1 e Q q =>
  ⟨10, 30, rfl, rfl, ⟨by decide, by decide, by decide⟩, q H1 _ (Ex.refl H1) ⟨there hb e, .int _⟩⟩
theorem yd_var {i : Nat} {v : V} {d : PyData} (hb : H b ≠ none) (h : Dp K (wo b H) v d) (hs : σ[i]? = some (some v) := by rfl) : Yl (tVar i) σ H (DR K b d) := fun H1 e Q q => ⟨v, hs, q H1 v (Ex.refl H1) ⟨there hb e, dp_ex (wo_ex e) h⟩⟩
theorem ya_d0 (hb : H b ≠ none) : Ya tNil σ H (DRs K b []) := fun H1 e Q q => q H1 [] (Ex.refl H1) ⟨there hb e, .nil⟩
theorem ya_d {d : PyData} {ds : List PyData} (h : Yl te σ H (DR K b d)) (hs : Ya ta σ H (DRs K b ds)) : Ya (tCons te ta) σ H (DRs K b (d :: ds)) := fun H1 e Q q =>
  h H1 e _ fun H2 v e2 r => hs H2 (e.trans e2) _ fun H3 vs e3 rs => q H3 _ (e2.trans e3) ⟨rs.1, .cons (dp_ex (wo_ex e3) r.2) rs.2⟩
theorem yd_tup {ds : List PyData} (h : Ya ta σ H (DRs K b ds)) (hl : ds.length ≤ 1000) : Yl (tTup ta) σ H (DR K b (.tuple ds)) := fun H1 e Q q =>
  h H1 e _ fun H2 vs e2 r => ⟨sz _ (by rw [dps_len r.2]; exact hl), fun p hp => by
    have f := Ex.new (o := .tup vs) hp
    exact q _ _ (e2.trans f) ⟨there r.1 f, .tup (SqT.of (wo_upd (ne_fresh r.1 hp))) (dps_ex (wo_ex f) r.2)⟩⟩
theorem yd_lst {ds : List PyData} (h : Ya ta σ H (DRs K b ds)) (hl : ds.length ≤ 1000) : Yl (tLst ta) σ H (DR K b (.list ds)) := fun H1 e Q q =>
  h H1 e _ fun H2 vs e2 r => ⟨sz _ (by rw [dps_len r.2]; exact hl), fun p hp => by
    have f := Ex.new (o := .lst vs) hp
    exact q _ _ (e2.trans f) ⟨there r.1 f, .lst (SqL.of (wo_upd (ne_fresh r.1 hp))) (dps_ex (wo_ex f) r.2)⟩⟩
end
section
variable {K : PySem.W.Frag} {b : Addr} {H : Hp}
theorem dps_app : ∀ {xs ys : List V} {ds es : List PyData}, DpAll K H xs ds → DpAll K H ys es → DpAll K H (xs ++ ys) (ds ++ es)
  | _, _, _, _, .nil, k => k
  | _, _, _, _, .cons h hs, k => .cons h (dps_app hs k)
theorem dps_rev : ∀ {xs : List V} {ds : List PyData}, DpAll K H xs ds → DpAll K H xs.reverse ds.reverse
  | _, _, .nil => .nil
  | _, _, .cons h hs => by
    rw [List.reverse_cons, List.reverse_cons]
    exact dps_app (dps_rev hs) (.cons h .nil)
theorem dps_drop : ∀ {xs : List V} {ds : List PyData} (n : Nat), DpAll K H xs ds → DpAll K H (xs.drop n) (ds.drop n)
  | _, _, 0, h => h
  | _, _, _ + 1, .nil => .nil
  | _, _, n + 1, .cons _ hs => dps_drop n hs
theorem dps_take : ∀ {xs : List V} {ds : List PyData} (n : Nat), DpAll K H xs ds → DpAll K H (xs.take n) (ds.take n)
  | _, _, 0, _ => .nil
  | _, _, _ + 1, .nil => .nil
  | _, _, n + 1, .cons h hs => .cons h (dps_take n hs)
theorem dps_sg (x : Str) : DpAll K H (sgV x) (x.cps.toList.map fun c => .str ⟨#[c]⟩) := by
  unfold sgV
  generalize x.cps.toList = l
  induction l with
  | nil => exact .nil
  | cons c l ih => exact .cons (.str _) ih
end
/-- ds[lo:hi] of data -/
def cutD (ds : List PyData) (lo hi : Option Int) : List PyData := (ds.drop (HT.sIx ds.length 0 lo)).take (HT.sIx ds.length ds.length hi - HT.sIx ds.length 0 lo)
theorem dps_cut {K : PySem.W.Frag} {H : Hp} {xs : List V} {ds : List PyData} (h : DpAll K H xs ds) (lo hi : Option Int) : DpAll K H (cutV xs lo hi) (cutD ds lo hi) := by
  unfold cutV cutD
  rw [dps_len h]
  exact dps_take _ (dps_drop _ h)
section
variable {K : PySem.W.Frag} {b : Addr} {σ : L2.St} {H : Hp} {te tf : TE} {tl th : TO}
/-- t[lo:hi] of a tuple -/
theorem yd_cut {ds : List PyData} {lo hi : Option Int} (h : Yl te σ H (DR K b (.tuple ds))) (hl : ∀ H1, Ex H H1 → ∀ Q : Option Int → Hp → Prop, Q lo H1 → tl σ H1 Q) (hu : ∀ H1, Ex H H1 → ∀ Q : Option Int → Hp → Prop, Q hi H1 → th σ H1 Q) :
    Yl (tSl (rSlA K) te tl th) σ H (DR K b (.tuple (cutD ds lo hi))) := fun H1 e Q q => by
  refine h H1 e _ fun H2 v e2 r => hl H2 (e.trans e2) _ (hu H2 (e.trans e2) _ ?_)
  obtain ⟨r1, r2⟩ := r
  cases r2 with
  | @tup a xs _ ha hs =>
    have ll := dps_len hs
    refine ⟨a, xs, rfl, ex_t wo_le ha, fun z => ?_, fun _ p hp => ?_⟩
    · have ec : cutD ds lo hi = ds := by
        unfold cutD
        rw [← ll, z.1, z.2, ll, List.drop_zero]
        exact List.take_length
      rw [ec] at q
      exact q _ _ e2 ⟨r1, .tup ha hs⟩
    · have f := Ex.new (o := .tup (cutV xs lo hi)) hp
      exact q _ _ (e2.trans f) ⟨there r1 f, .tup (SqT.of (wo_upd (ne_fresh r1 hp))) (dps_cut (dps_ex (wo_ex f) hs) lo hi)⟩
/-- t + u of tuples -/
theorem yd_cat {ds es : List PyData} (h : Yl te σ H (DR K b (.tuple ds))) (k : Yl tf σ H (DR K b (.tuple es))) (hl : ds.length + es.length ≤ 1000) :
    Yl (tOp (rCatA K) te tf) σ H (DR K b (.tuple (ds ++ es))) := fun H1 e Q q => by
  refine h H1 e _ fun H2 v e2 r => k H2 (e.trans e2) _ fun H3 u e3 r3 => ?_
  obtain ⟨r1, r2⟩ := r
  obtain ⟨r4, r5⟩ := r3
  cases dp_ex (wo_ex e3) r2 with
  | @tup a xs _ ha hs =>
    cases r5 with
    | @tup c ys _ hc ht =>
      have l1 := dps_len hs
      have l2 := dps_len ht
      refine ⟨a, c, xs, ys, rfl, rfl, ex_t wo_le ha, ex_t wo_le hc, sz _ (by omega), fun z => ?_, fun _ z => ?_, fun _ _ p hp => ?_⟩
      · subst z
        cases hs
        exact q _ _ (e2.trans e3) ⟨r4, .tup hc ht⟩
      · subst z
        cases ht
        rw [List.append_nil] at q
        exact q _ _ (e2.trans e3) ⟨r4, .tup ha hs⟩
      · have f := Ex.new (o := .tup (xs ++ ys)) hp
        exact q _ _ (e2.trans (e3.trans f)) ⟨there r4 f, .tup (SqT.of (wo_upd (ne_fresh r4 hp))) (dps_ex (wo_ex f) (dps_app hs ht))⟩
theorem yd_revT {ds : List PyData} (h : Yl te σ H (DR K b (.tuple ds))) : Yl (tRevT K te) σ H (DR K b (.tuple ds.reverse)) := fun H1 e Q q => by
  refine h H1 e _ fun H2 v e2 r => ?_
  obtain ⟨r1, r2⟩ := r
  cases r2 with
  | @tup a xs _ ha hs =>
    refine ⟨a, xs, rfl, ex_t wo_le ha, fun p hp => ?_⟩
    have f := Ex.new (o := .tup xs.reverse) hp
    exact q _ _ (e2.trans f) ⟨there r1 f, .tup (SqT.of (wo_upd (ne_fresh r1 hp))) (dps_ex (wo_ex f) (dps_rev hs))⟩
theorem yd_list {ds : List PyData} (h : Yl te σ H (DR K b (.tuple ds))) :
    Yl (tCB (fun xs H Q => ∃ p ys, xs = [.ref p] ∧ (SqL K H p ys ∨ SqT K H p ys) ∧ ∀ l, H l = none → Q (.ref l) (upd H l (.lst ys))) (tCons te tNil)) σ H (DR K b (.list ds)) := fun H1 e Q q => by
  refine h H1 e _ fun H2 v e2 r => ?_
  obtain ⟨r1, r2⟩ := r
  cases r2 with
  | @tup a xs _ ha hs =>
    refine ⟨a, xs, rfl, .inr (ex_t wo_le ha), fun p hp => ?_⟩
    have f := Ex.new (o := .lst xs) hp
    exact q _ _ (e2.trans f) ⟨there r1 f, .lst (SqL.of (wo_upd (ne_fresh r1 hp))) (dps_ex (wo_ex f) hs)⟩
end
end V


set_option Elab.async false
set_option linter.all false
set_option maxRecDepth 100000
set_option maxHeartbeats 400000
namespace V
open PySem PySem.Spec PyProof.Rows L2
/-! ### text[::-1] -/
def revS (z : Str) : Str := ⟨(z.cps.toList.reverse).toArray⟩
def tRevS (te : TE) : TE := fun σ H Q => te σ H fun x H1 => ∃ z, x = .str z ∧ z.length ≤ sizeLine ∧ Q (.str (revS z)) H1
theorem rev_is (x : Str) (u : Tok) : PySem.Txt.sliceBy x none none (-1, u) = revS x := by
  refine Str.ext' (Array.toList_inj.mp ((step_rev_list x u).trans ?_))
  show _ = x.cps.toList.reverse
  refine List.ext_getElem? fun i => ?_
  by_cases h : i < x.length
  · have h2 : i < x.cps.toList.length := by rw [Array.length_toList]; exact h
    rw [List.getElem?_map, List.getElem?_range h, List.getElem?_reverse h2, Array.length_toList]
    show some (x.cps.getD (x.length - 1 - i) 0) = _
    have h3 : x.cps.size - 1 - i < x.cps.toList.length := by
      rw [Array.length_toList]
      have : i < x.cps.size := h
      omega
    rw [List.getElem?_eq_getElem h3]
    have h4 : x.length - 1 - i < x.cps.size := by have : x.cps.size = x.length := rfl; omega
    rw [Array.getD_eq_getD_getElem?, Array.getElem?_eq_getElem h4]
    rfl
  · have h2 : ¬ i < x.cps.toList.length := by rw [Array.length_toList]; exact h
    rw [List.getElem?_eq_none (by rw [List.length_map, List.length_range]; omega), List.getElem?_eq_none (by rw [List.length_reverse]; omega)]
theorem pe_revS {X : Cx} {e : Expr} {te : TE} {k : Nat} {p1 p2 p3 pos : Pos} (he : PE X e te) : PE X (.Subscript e (.Slice none none (some (.UnaryOp .USub (.Constant (.int 1) k p1) p2)) p3) pos) (tRevS te) := by
  refine ⟨fun pins s σ H Q I h => ?_⟩
  refine Subscript_ (thn (he.run pins s σ H _ I h) fun v s1 ⟨x, H1, I1, r1, q1⟩ => ?_)
  obtain ⟨z, ex, hz, q⟩ := q1
  subst ex
  obtain ⟨tz, rfl⟩ := r1
  have hst : PO X (some (.UnaryOp .USub (.Constant (.int 1) k p1) p2)) (tPart (tUn (rU fun i => .int (-i)) (tC (.int 1)))) := po_some (pe_un un_neg pe_int)
  refine wpAny_Slice (thn (po_none.run pins s1 σ H1 (fun o H2 => o = none ∧ H2 = H1) I1 ⟨rfl, rfl⟩) fun vl s2 ⟨l, H2, I2, pl, el, e2⟩ => ?_)
  subst el e2
  refine thn (po_none.run pins s2 σ H2 (fun o H3 => o = none ∧ H3 = H2) I2 ⟨rfl, rfl⟩) fun vu s3 ⟨u, H3, I3, pu, eu, e3⟩ => ?_
  subst eu e3
  refine thn (hst.run pins s3 σ H3 (fun o H4 => o = some (-1) ∧ H4 = H3) I3 ⟨1, rfl, -1, rfl, rfl, rfl⟩) fun vs s4 ⟨o, H4, I4, ps, eo, e4⟩ => ?_
  subst eo e4
  have I5 : L2.Inv X pins σ H4 { s4 with heap := s4.heap.push { cls := .type "slice", data := .fields #[vl, vu, vs] } } := I4.kept (t' := s4.toks) fun b ob q => Heap.get?_push_of_some _ q
  obtain ⟨l0, rfl, hl0⟩ := IsPart.raw pl
  obtain ⟨u0, rfl, hu0⟩ := IsPart.raw pu
  obtain ⟨t0, rfl, ht0⟩ := IsPart.raw ps
  have l0n : l0 = none := by cases l0 with | none => rfl | some _ => cases hl0
  have u0n : u0 = none := by cases u0 with | none => rfl | some _ => cases hu0
  subst l0n u0n
  obtain ⟨tt, rfl⟩ : ∃ tt, t0 = some (-1, tt) := by
    cases t0 with
    | none => cases ht0
    | some y =>
      obtain ⟨y1, y2⟩ := y
      cases ht0
      exact ⟨y2, rfl⟩
  show wpAny (model X.prog X.w) X.A (subscriptTail e (.Slice none none (some (.UnaryOp .USub (.Constant (.int 1) k p1) p2)) p3) (.str z tz) (.ref s4.heap.objs.size)) (EP X pins σ Q) X.xe { s4 with heap := s4.heap.push { cls := .type "slice", data := .fields #[partValue none, partValue none, partValue (some (-1, tt))] } }
  refine tail_any (T := "str") (ops := [.str z tz, .ref s4.heap.objs.size]) (typeIs_str _ _ _) (PySem.F.slot_str_getitem.lookup) ?_ (by with_unfolding_all rfl)
  refine wpAny_getItem_str_slice (l := none) (u := none) (st := some (-1, tt)) ⟨_, Heap.get?_push_size _ rfl, rfl, rfl⟩ rfl ?_
  have hr : (revS z).length ≤ sizeLine := by
    show (z.cps.toList.reverse).toArray.size ≤ sizeLine
    rw [List.size_toArray, List.length_reverse, Array.length_toList]
    exact hz
  have hq := rev_is z tt
  unfold PySem.Txt.sliceBy at hq
  have h1 : ¬ (((((some ((-1 : Int), tt)).map (·.1)).getD 1 == 1) && ((slicePicked z none none (some (-1, tt))).length == z.length)) = true) := by
    have : ((((some ((-1 : Int), tt)).map (·.1)).getD 1 == 1)) = false := rfl
    rw [this]; simp
  rw [if_neg h1] at hq
  unfold sliceMade
  rw [if_neg h1, hq]
  exact ⟨hr, .str (revS z), H4, I5.tok _, ⟨_, rfl⟩, q⟩
end V


set_option Elab.async false
set_option linter.all false
set_option maxRecDepth 100000
set_option maxHeartbeats 4000000
namespace V
open PySem PySem.Spec PyProof.Rows L2 Evl TL NumText
theorem Box.no {H : Hp} {b : Addr} {n : Nat} (h : Box H b n) : H b ≠ none := by
  obtain ⟨x, y, z, e, _⟩ := h
  rw [e]
  exact fun k => by cases k
def spMarks (K : PySem.W.Frag) : Sp := fun vs H Q _ => ∃ (b : Addr) (n : Nat), vs = [.ref b] ∧ Box H b (n + 10) ∧ ∀ H' : Hp, But b H H' → Box H' b n → Q (.bl true) H'
def spOdd (K : PySem.W.Frag) : Sp := fun vs H Q _ => ∃ (b : Addr) (n m : Nat) (v : V) (d : PyData), vs = [.ref b, v] ∧ m ≤ 9 ∧ Box H b (n + 1) ∧ Dp K (wo b H) v d ∧ FinD m d ∧ wtD d ≤ 450 ∧
  ∀ (H' : Hp) (v' : V) (d' : PyData), But b H H' → Box H' b n → Dp K (wo b H') v' d' → Gr m d d' → Q v' H'
/-- what may be taken, so far -/
def SO (K : PySem.W.Frag) (b : Addr) (m : Nat) (v : V) (d : PyData) (H0 : Hp) : L2.St → Hp → Prop := fun σ H => ∃ (l : Addr) (vs : List V) (L : List PyData), σ = [some (.ref b), some v, some (.ref l)] ∧ Ex H0 H ∧ H l = some (.lst vs) ∧ l ≠ b ∧
  DpAll K (wo b H) vs L ∧ 0 < vs.length ∧ vs.length ≤ 100 ∧ ∀ x ∈ L, Gr m d x
/-- .. so many at most -/
def SOn (K : PySem.W.Frag) (b : Addr) (m : Nat) (v : V) (d : PyData) (H0 : Hp) (k : Nat) : L2.St → Hp → Prop := fun σ H => ∃ (l : Addr) (vs : List V) (L : List PyData), σ = [some (.ref b), some v, some (.ref l)] ∧ Ex H0 H ∧ H l = some (.lst vs) ∧ l ≠ b ∧
  DpAll K (wo b H) vs L ∧ 0 < vs.length ∧ vs.length ≤ k ∧ ∀ x ∈ L, Gr m d x
section
variable {K : PySem.W.Frag} {b : Addr} {m : Nat} {v : V} {d : PyData} {H0 : Hp}
theorem so_new {ta : TA} {L : List PyData} {k : Nat} {D : Ends} {x : Option V} (hb : H0 b ≠ none) (h : Ya ta [some (.ref b), some v, x] H0 (DRs K b L)) (h0 : 0 < L.length) (hk : L.length ≤ k) (h1 : k ≤ 1000) (hg : ∀ x ∈ L, Gr m d x)
    (q : ∀ σ' H', SOn K b m v d H0 k σ' H' → D.nx σ' H') : tAsg (tLst ta) (gName 2) D [some (.ref b), some v, x] H0 :=
  h H0 (Ex.refl H0) _ fun H2 vs e2 r => ⟨sz _ (by rw [dps_len r.2]; omega), fun p hp => by
    have f := Ex.new (o := .lst vs) hp
    have ll := dps_len r.2
    exact q _ _ ⟨p, vs, L, rfl, e2.trans f, upd_same, ne_fresh r.1 hp, dps_ex (wo_ex f) r.2, by omega, by omega, hg⟩⟩
theorem so_add {ta : TA} {k j : Nat} {D : Ends} {σ : L2.St} {H : Hp} (hb : H0 b ≠ none) (s : SOn K b m v d H0 k σ H)
    (h : ∀ l, ∃ L : List PyData, Ya ta [some (.ref b), some v, some (.ref l)] H (DRs K b L) ∧ L.length ≤ j ∧ ∀ x ∈ L, Gr m d x) (h1 : k + j ≤ 1000)
    (q : ∀ σ' H', SOn K b m v d H0 (k + j) σ' H' → D.nx σ' H') : tAsg (tOp rCat (tVar 2) (tLst ta)) (gName 2) D σ H := by
  obtain ⟨l, vs, L, rfl, e, hl, nl, hs, l0, lk, hg⟩ := s
  obtain ⟨L2, hy, hj, hg2⟩ := h l
  refine ⟨_, rfl, hy H (Ex.refl H) _ fun H2 us e2 r => ⟨sz _ (by rw [dps_len r.2]; omega), fun p hp => ?_⟩⟩
  have f := Ex.new (o := .lst us) hp
  have lu := dps_len r.2
  refine ⟨l, p, vs, us, rfl, rfl, f _ _ (e2 _ _ hl), upd_same, sz _ (by omega), fun p2 hp2 => ?_⟩
  have f2 := Ex.new (o := .lst (vs ++ us)) hp2
  refine q _ _ ⟨p2, vs ++ us, L ++ L2, rfl, e.trans (e2.trans (f.trans f2)), upd_same, ne_fresh (there r.1 f) hp2, dps_app (dps_ex (wo_ex (e2.trans (f.trans f2))) hs) (dps_ex (wo_ex (f.trans f2)) r.2), by rw [List.length_append]; omega, by rw [List.length_append]; omega, fun x hx => ?_⟩
  rcases List.mem_append.mp hx with hx | hx
  · exact hg x hx
  · exact hg2 x hx
theorem SOn.up {k j : Nat} {σ : L2.St} {H : Hp} (h : k ≤ j) (s : SOn K b m v d H0 k σ H) : SOn K b m v d H0 j σ H := by
  obtain ⟨l, vs, L, h1, h2, h3, h4, h5, h6, h7, h8⟩ := s
  exact ⟨l, vs, L, h1, h2, h3, h4, h5, h6, by omega, h8⟩
end
theorem SOn.ex {k : Nat} {σ : L2.St} {H : Hp} {K : PySem.W.Frag} {b : Addr} {m : Nat} {v : V} {d : PyData} {H0 : Hp} (s : SOn K b m v d H0 k σ H) : Ex H0 H := by
  obtain ⟨l, vs, L, h1, h2, h3⟩ := s
  exact h2
theorem SOn.there {k : Nat} {σ : L2.St} {H : Hp} {K : PySem.W.Frag} {b : Addr} {m : Nat} {v : V} {d : PyData} {H0 : Hp} (s : SOn K b m v d H0 k σ H) (hb : H0 b ≠ none) : H b ≠ none := V.there hb s.ex
section
variable {K : PySem.W.Frag} {b : Addr} {σ : L2.St} {H : Hp}
theorem yd_addN {v : V} {i : Int} (h : numOf v = some i) (hb : H b ≠ none) {x y : Option V} : Yl (tOp (rNum fun i j => i + j) (tVar 1) (tC (.int 1))) [x, some v, y] H (DR K b (.int (i + 1))) := fun H1 e Q q =>
  ⟨v, rfl, i, 1, h, rfl, q H1 _ (Ex.refl H1) ⟨V.there hb e, .int _⟩⟩
theorem yd_subN {v : V} {i : Int} (h : numOf v = some i) (hb : H b ≠ none) {x y : Option V} : Yl (tOp (rNum fun i j => i - j) (tVar 1) (tC (.int 1))) [x, some v, y] H (DR K b (.int (i - 1))) := fun H1 e Q q =>
  ⟨v, rfl, i, 1, h, rfl, q H1 _ (Ex.refl H1) ⟨V.there hb e, .int _⟩⟩
theorem yd_strN {i : Int} (h : i.natAbs.log2 < 1920) (hb : H b ≠ none) {x y : Option V} : Yl (tCB rStrN (tCons (tVar 1) tNil)) [x, some (.int i), y] H (DR K b (.str (toString i : String))) := fun H1 e Q q =>
  ⟨_, rfl, .inl ⟨i, rfl, h, q H1 _ (Ex.refl H1) ⟨V.there hb e, .str _⟩⟩⟩
theorem yd_strB (c : Bool) (hb : H b ≠ none) {x y : Option V} : Yl (tCB rStrN (tCons (tVar 1) tNil)) [x, some (.bl c), y] H (DR K b (.str (if c = true then "True" else "False"))) := fun H1 e Q q =>
  ⟨_, rfl, .inr ⟨c, rfl, q H1 _ (Ex.refl H1) ⟨V.there hb e, .str _⟩⟩⟩
theorem yd_add0 {z : Str} (h : z.length ≤ 100) (hb : H b ≠ none) {x y : Option V} : Yl (tOp (fun x y H Q => ∃ i j, x = .str i ∧ y = .str j ∧ i.length + j.length ≤ sizeLine ∧ Q (.str (i ++ j)) H) (tVar 1) (tC (.str "0"))) [x, some (.str z), y] H (DR K b (.str (z ++ "0"))) := fun H1 e Q q =>
  ⟨_, rfl, z, "0", rfl, rfl, sz _ (by rw [show ("0" : Str).length = 1 by decide +kernel]; omega), q H1 _ (Ex.refl H1) ⟨V.there hb e, .str _⟩⟩
theorem yd_cutS {z : Str} (h : z.length ≤ 100) (hb : H b ≠ none) {x y : Option V} : Yl (tSl rSlS (tVar 1) tNoPart (tPart (tUn (rU fun i => .int (-i)) (tC (.int 1))))) [x, some (.str z), y] H (DR K b (.str (cutS z none (some (-1))))) := fun H1 e Q q =>
  ⟨_, rfl, 1, rfl, _, rfl, z, rfl, sz _ (by omega), q H1 _ (Ex.refl H1) ⟨V.there hb e, .str _⟩⟩
theorem yd_upper {z : Str} (h : z.length ≤ 100) (hb : H b ≠ none) {x y : Option V} : Yl (tBM0 K "str" (fun x xs H Q => ∃ a, x = .str a ∧ xs = [] ∧ a.length ≤ 5592405 ∧ Q (.str (Txt.upper a)) H) (tVar 1)) [x, some (.str z), y] H (DR K b (.str (Txt.upper z))) := fun H1 e Q q =>
  ⟨_, rfl, rfl, z, rfl, rfl, by omega, q H1 _ (Ex.refl H1) ⟨V.there hb e, .str _⟩⟩
theorem yd_revS {z : Str} (h : z.length ≤ 100) (hb : H b ≠ none) {x y : Option V} : Yl (tRevS (tVar 1)) [x, some (.str z), y] H (DR K b (.str (revS z))) := fun H1 e Q q =>
  ⟨_, rfl, z, rfl, sz _ (by omega), q H1 _ (Ex.refl H1) ⟨V.there hb e, .str _⟩⟩
end
/-! ### the things themselves -/
def L0 : List PyData := [.none, .bool true, .bool false, .int (-1), .int 0, .int 3, .int 4, .int 11, .int 12, .int 1000002, .int 1000003, .int (10 ^ 30), .str "", .str "num", .str "arg", .str "add", .str "if", .str "call"]
def L1 : List PyData := [.str "ring", .str "Num", .str "000000", .str "00000", .str "0000000", .str "00000A", .tuple [], .list [], .tuple [.str "num", .int 0], .list [.str "num", .int 0], .tuple [.str "arg", .int 4]]
theorem gr_consts {m : Nat} {d : PyData} {L : List PyData} (h : L.all okG = true) : ∀ x ∈ L, Gr m d x := fun x hx => okG_gr (List.all_eq_true.mp h x hx)
theorem gr_L0 {m : Nat} {d : PyData} : ∀ x ∈ L0, Gr m d x := gr_consts (by decide +kernel)
theorem gr_L1 {m : Nat} {d : PyData} : ∀ x ∈ L1, Gr m d x := gr_consts (by decide +kernel)
def L2' (d : PyData) : List PyData := [.tuple [d], .list [d], .tuple [d, d], .tuple [.str "arg", .int 3], .tuple [.str "num", .bool true], .tuple [.str "ring", .int 0, .tuple []], .tuple [.str "call", .str "zzzzzz", .tuple []]]
theorem gr_L2 {m : Nat} {d : PyData} (f : FinD m d) : ∀ x ∈ L2' d, Gr m d x := by
  intro x hx
  have self : FinD (m + 1) d ∧ d.depth ≤ d.depth + 1 := ⟨f.up (Nat.le_succ m), Nat.le_succ _⟩
  have w := wt_pos d
  unfold L2' at hx
  rcases List.mem_cons.mp hx with rfl | hx
  · exact gr_tup (fun e he => by rw [List.mem_singleton.mp he]; exact self) (by simp only [wtsD]; omega)
  rcases List.mem_cons.mp hx with rfl | hx
  · exact gr_lst (fun e he => by rw [List.mem_singleton.mp he]; exact self) (by simp only [wtsD]; omega)
  rcases List.mem_cons.mp hx with rfl | hx
  · exact gr_tup (fun e he => by
      rcases List.mem_cons.mp he with rfl | he
      · exact self
      · rw [List.mem_singleton.mp he]; exact self) (by simp only [wtsD]; omega)
  · exact gr_consts (L := [.tuple [.str "arg", .int 3], .tuple [.str "num", .bool true], .tuple [.str "ring", .int 0, .tuple []], .tuple [.str "call", .str "zzzzzz", .tuple []]]) (by decide +kernel) x hx
theorem gr_atom {m : Nat} {d e : PyData} (f : FinD (m + 1) e) (h : e.depth = 0) (w : wtD e = 1) : Gr m d e := ⟨f, by omega, by omega⟩
theorem gr_str {m : Nat} {d : PyData} {x : Str} (h : x.length ≤ 41 + m) (a : ∀ c ∈ tl x, c < 128) : Gr m d (.str x) := gr_atom (.str (by omega) a) (by simp [PyData.depth]) (by simp [wtD])
theorem gr_int {m : Nat} {d : PyData} {i : Int} (h : i.natAbs ≤ 10 ^ 30 + (m + 1)) : Gr m d (.int i) := gr_atom (.int h) (by simp [PyData.depth]) (by simp [wtD])
/-- texts -/
theorem fin_add0 {x : Str} (a : ∀ c ∈ tl x, c < 128) : (x ++ "0").length = x.length + 1 ∧ ∀ c ∈ tl (x ++ "0"), c < 128 := by
  refine ⟨by rw [str_len_append]; rfl, fun c hc => ?_⟩
  have e : tl (x ++ "0") = tl x ++ tl ("0" : Str) := by
    show ((x ++ ("0" : Str)).cps).toList = _
    rw [Str.cps_append, Array.toList_append]
  rw [e] at hc
  rcases List.mem_append.mp hc with hc | hc
  · exact a c hc
  · exact (by decide +kernel : ∀ c ∈ tl ("0" : Str), c < 128) c hc
theorem fin_cut {x : Str} (lo hi : Option Int) (a : ∀ c ∈ tl x, c < 128) : ∀ c ∈ tl (cutS x lo hi), c < 128 := fun c hc => by
  have h2 : c ∈ (x.cps.toList.drop (HT.sIx x.length 0 lo)).take (HT.sIx x.length x.length hi - HT.sIx x.length 0 lo) := hc
  exact a c (List.mem_of_mem_drop (List.mem_of_mem_take h2))
theorem fin_rev {x : Str} (a : ∀ c ∈ tl x, c < 128) : (revS x).length = x.length ∧ ∀ c ∈ tl (revS x), c < 128 := by
  refine ⟨?_, fun c hc => a c ?_⟩
  · show (x.cps.toList.reverse).toArray.size = x.cps.size
    rw [List.size_toArray, List.length_reverse, Array.length_toList]
  · have h2 : c ∈ x.cps.toList.reverse := hc
    exact List.mem_reverse.mp h2
theorem fin_up {x : Str} (a : ∀ c ∈ tl x, c < 128) : (Txt.upper x).length = x.length ∧ ∀ c ∈ tl (Txt.upper x), c < 128 := by
  have h := upper_fin x.cps.toList a
  rw [Array.toArray_toList] at h
  exact ⟨h.1.trans (Array.length_toList ..), h.2⟩
/-- of a tuple -/
theorem cut_mem {ds : List PyData} {lo hi : Option Int} {x : PyData} (h : x ∈ cutD ds lo hi) : x ∈ ds := List.mem_of_mem_drop (List.mem_of_mem_take h)
theorem wts_drop : ∀ (n : Nat) (ds : List PyData), wtsD (ds.drop n) ≤ wtsD ds
  | 0, ds => by rw [List.drop_zero]; exact Nat.le_refl _
  | n + 1, [] => Nat.le_refl _
  | n + 1, x :: xs => by
    have := wts_drop n xs
    rw [List.drop_succ_cons, wtsD]
    omega
theorem wts_take : ∀ (n : Nat) (ds : List PyData), wtsD (ds.take n) ≤ wtsD ds
  | 0, ds => Nat.zero_le _
  | n + 1, [] => Nat.le_refl _
  | n + 1, x :: xs => by
    have := wts_take n xs
    rw [List.take_succ_cons, wtsD, wtsD]
    omega
theorem wts_cut (ds : List PyData) (lo hi : Option Int) : wtsD (cutD ds lo hi) ≤ wtsD ds := Nat.le_trans (wts_take _ _) (wts_drop _ _)
theorem cut_len (ds : List PyData) (lo hi : Option Int) : (cutD ds lo hi).length ≤ ds.length := by
  unfold cutD
  rw [List.length_take, List.length_drop]
  omega
def L3 (ds : List PyData) : List PyData := [.list ds, .tuple (ds ++ cutD ds (some (-1)) none), .tuple (cutD ds (some 1) none), .tuple ds.reverse, .tuple ([.str "less"] ++ cutD ds (some 1) none), .tuple ([.str "if"] ++ cutD ds (some 1) none)]
def L4 (d : PyData) (ds : List PyData) : List PyData := [.tuple [.str "call", .str "0a0a0a", .tuple [d]], .tuple [.str "add", d, d], .tuple [.str "ring", .int 11, d], .tuple (ds ++ [.tuple [.str "num", .int 0]])]
theorem gr_L3 {m : Nat} {ds : List PyData} (f : FinD m (.tuple ds)) : ∀ x ∈ L3 ds, Gr m (.tuple ds) x := by
  intro x hx
  cases f with
  | tup f =>
  have p : ∀ e ∈ ds, FinD (m + 1) e ∧ e.depth ≤ (PyData.tuple ds).depth + 1 := fun e he => ⟨(f e he).up (Nat.le_succ m), by rw [PyData.depth]; have := dep_mem he; omega⟩
  have c1 := wts_cut ds (some 1) none
  have c2 := wts_cut ds (some (-1)) none
  have wd : wtD (PyData.tuple ds) = wtsD ds + 1 := by rw [wtD]
  have word : ∀ z : Str, okC (.str z) = true → ∀ e ∈ [PyData.str z] ++ cutD ds (some 1) none, FinD (m + 1) e ∧ e.depth ≤ (PyData.tuple ds).depth + 1 := fun z hz e he => by
    rcases List.mem_append.mp he with he | he
    · rw [List.mem_singleton.mp he]
      exact ⟨okC_fin _ _ hz, by rw [show (PyData.str z).depth = 0 by simp [PyData.depth]]; omega⟩
    · exact p e (cut_mem he)
  unfold L3 at hx
  rcases List.mem_cons.mp hx with rfl | hx
  · exact gr_lst p (by omega)
  rcases List.mem_cons.mp hx with rfl | hx
  · refine gr_tup (fun e he => ?_) (by rw [wts_app]; omega)
    rcases List.mem_append.mp he with he | he
    · exact p e he
    · exact p e (cut_mem he)
  rcases List.mem_cons.mp hx with rfl | hx
  · exact gr_tup (fun e he => p e (cut_mem he)) (by omega)
  rcases List.mem_cons.mp hx with rfl | hx
  · exact gr_tup (fun e he => p e (List.mem_reverse.mp he)) (by rw [wts_rev]; omega)
  rcases List.mem_cons.mp hx with rfl | hx
  · exact gr_tup (word _ (by decide +kernel)) (by rw [wts_app]; simp only [wtsD, wtD]; omega)
  · rw [List.mem_singleton.mp hx]
    exact gr_tup (word _ (by decide +kernel)) (by rw [wts_app]; simp only [wtsD, wtD]; omega)
theorem gr_L4 {m : Nat} {ds : List PyData} (f : FinD m (.tuple ds)) : ∀ x ∈ L4 (.tuple ds) ds, Gr m (.tuple ds) x := by
  intro x hx
  have self : FinD (m + 1) (PyData.tuple ds) ∧ (PyData.tuple ds).depth ≤ (PyData.tuple ds).depth + 1 := ⟨f.up (Nat.le_succ m), Nat.le_succ _⟩
  have wd : wtD (PyData.tuple ds) = wtsD ds + 1 := by rw [wtD]
  have word : ∀ z : PyData, okC z = true → z.depth = 0 → FinD (m + 1) z ∧ z.depth ≤ (PyData.tuple ds).depth + 1 := fun z h1 h2 => ⟨okC_fin _ _ h1, by omega⟩
  unfold L4 at hx
  rcases List.mem_cons.mp hx with rfl | hx
  · refine gr_tup (fun e he => ?_) (by simp only [wtsD, wtD]; omega)
    rcases List.mem_cons.mp he with rfl | he
    · exact word _ (by decide +kernel) (by simp [PyData.depth])
    rcases List.mem_cons.mp he with rfl | he
    · exact word _ (by decide +kernel) (by simp [PyData.depth])
    · rw [List.mem_singleton.mp he]
      exact ⟨.tup fun e2 h2 => by rw [List.mem_singleton.mp h2]; exact self.1, by rw [PyData.depth, PyData.depthAll, PyData.depthAll]; omega⟩
  rcases List.mem_cons.mp hx with rfl | hx
  · refine gr_tup (fun e he => ?_) (by simp only [wtsD, wtD]; omega)
    rcases List.mem_cons.mp he with rfl | he
    · exact word _ (by decide +kernel) (by simp [PyData.depth])
    rcases List.mem_cons.mp he with rfl | he
    · exact self
    · rw [List.mem_singleton.mp he]; exact self
  rcases List.mem_cons.mp hx with rfl | hx
  · refine gr_tup (fun e he => ?_) (by simp only [wtsD, wtD]; omega)
    rcases List.mem_cons.mp he with rfl | he
    · exact word _ (by decide +kernel) (by simp [PyData.depth])
    rcases List.mem_cons.mp he with rfl | he
    · exact word _ (by decide +kernel) (by simp [PyData.depth])
    · rw [List.mem_singleton.mp he]; exact self
  · rw [List.mem_singleton.mp hx]
    cases f with
    | tup f =>
    refine gr_tup (fun e he => ?_) (by rw [wts_app]; simp only [wtsD, wtD]; omega)
    rcases List.mem_append.mp he with he | he
    · exact ⟨(f e he).up (Nat.le_succ m), by rw [PyData.depth]; have := dep_mem he; omega⟩
    · rw [List.mem_singleton.mp he]
      exact ⟨okC_fin _ _ (by decide +kernel), by rw [show (PyData.tuple [.str "num", .int 0]).depth = 1 by decide +kernel, PyData.depth]; omega⟩
end V


set_option Elab.async false
set_option linter.all false
set_option maxRecDepth 100000
set_option maxHeartbeats 4000000
namespace V
open PySem PySem.Spec PyProof.Rows L2 Evl TL NumText
def spBent (K : PySem.W.Frag) (n : Nat) : Sp := fun vs H Q _ => ∃ (b : Addr) (c m : Nat) (v : V) (d : PyData), vs = [.ref b, v] ∧ m ≤ 9 ∧ d.depth ≤ n ∧ d.depth ≤ 60 ∧ Box H b (c + 4 * n + 4) ∧ Dp K (wo b H) v d ∧ FinD m d ∧ wtD d ≤ 450 ∧
  ∀ (H' : Hp) (v' : V) (d' : PyData), But b H H' → Box H' b c → Dp K (wo b H') v' d' → Gr m d d' → Q v' H'
theorem cat_go {K : PySem.W.Frag} {b : Addr} {H : Hp} {x y : V} {ds es : List PyData} {Q : VK} (hb : H b ≠ none) (hx : Dp K (wo b H) x (.tuple ds)) (hy : Dp K (wo b H) y (.tuple es)) (hl : ds.length + es.length ≤ 1000)
    (q : ∀ H' v, Ex H H' → Dp K (wo b H') v (.tuple (ds ++ es)) → Q v H') : rCatA K x y H Q := by
  cases hx with
  | @tup a xs _ ha hs =>
    cases hy with
    | @tup c ys _ hc ht =>
      have l1 := dps_len hs
      have l2 := dps_len ht
      refine ⟨a, c, xs, ys, rfl, rfl, ex_t wo_le ha, ex_t wo_le hc, sz _ (by omega), fun z => ?_, fun _ z => ?_, fun _ _ p hp => ?_⟩
      · subst z
        cases hs
        exact q _ _ (Ex.refl H) (.tup hc ht)
      · subst z
        cases ht
        rw [List.append_nil] at q
        exact q _ _ (Ex.refl H) (.tup ha hs)
      · have f := Ex.new (o := .tup (xs ++ ys)) hp
        exact q _ _ f (.tup (SqT.of (wo_upd (ne_fresh hb hp))) (dps_ex (wo_ex f) (dps_app hs ht)))
theorem cut_to {ds : List PyData} {i : Nat} (h : i < ds.length) : cutD ds none (some (i : Int)) = ds.take i := by
  unfold cutD
  rw [HT.sIx_none, HT.sIx_nat, Nat.min_eq_left (by omega), List.drop_zero, Nat.sub_zero]
theorem cut_from {ds : List PyData} {i : Nat} (h : i < ds.length) : cutD ds (some ((i : Int) + 1)) none = ds.drop (i + 1) := by
  unfold cutD
  rw [show ((i : Int) + 1) = ((i + 1 : Nat) : Int) by omega, HT.sIx_none, HT.sIx_nat, Nat.min_eq_left (by omega)]
  refine List.take_of_length_le ?_
  rw [List.length_drop]
  omega
theorem wts_at : ∀ {ds : List PyData} {i : Nat} {d : PyData}, ds[i]? = some d → wtsD ds = wtsD (ds.take i) + wtD d + wtsD (ds.drop (i + 1))
  | x :: xs, 0, d, h => by
    cases h
    rw [List.take_zero, List.drop_succ_cons, List.drop_zero, wtsD, wtsD]
    omega
  | x :: xs, i + 1, d, h => by
    have h2 : xs[i]? = some d := h
    have := wts_at h2
    rw [List.take_succ_cons, List.drop_succ_cons, wtsD, wtsD]
    omega
theorem gr_at {m : Nat} {ds : List PyData} {i : Nat} {d e : PyData} (f : FinD m (.tuple ds)) (h : ds[i]? = some d) (g : Gr m d e) : Gr m (.tuple ds) (.tuple (ds.take i ++ [e] ++ ds.drop (i + 1))) := by
  cases f with
  | tup f =>
  have w := wts_at h
  have wd : wtD (PyData.tuple ds) = wtsD ds + 1 := by rw [wtD]
  have dm := dep_mem (get_mem h)
  have g2 := g.dep
  have g3 := g.wt
  refine ⟨.tup fun x hx => ?_, ?_, ?_⟩
  · rcases List.mem_append.mp hx with hx | hx
    · rcases List.mem_append.mp hx with hx | hx
      · exact (f x (List.mem_of_mem_take hx)).up (Nat.le_succ m)
      · rw [List.mem_singleton.mp hx]
        exact g.fin
    · exact (f x (List.mem_of_mem_drop hx)).up (Nat.le_succ m)
  · rw [PyData.depth, PyData.depth]
    have : PyData.depthAll (ds.take i ++ [e] ++ ds.drop (i + 1)) ≤ PyData.depthAll ds + 2 := dep_all fun x hx => by
      rcases List.mem_append.mp hx with hx | hx
      · rcases List.mem_append.mp hx with hx | hx
        · have := dep_mem (List.mem_of_mem_take hx)
          omega
        · rw [List.mem_singleton.mp hx]
          omega
      · have := dep_mem (List.mem_of_mem_drop hx)
        omega
    omega
  · rw [wtD, wts_app, wts_app, wtsD, wtsD]
    omega
/-- the state of a bending -/
def BA1 (K : PySem.W.Frag) (b : Addr) (n : Nat) (v : V) (d : PyData) (H : Hp) : L2.St → Hp → Prop := fun σ H' => σ = [some (.ref b), some v, none] ∧ But b H H' ∧ Box H' b n ∧ Dp K (wo b H') v d ∧ ∃ ds, d = .tuple ds ∧ 0 < ds.length
def BA2 (K : PySem.W.Frag) (b : Addr) (n : Nat) (v : V) (d : PyData) (H : Hp) : L2.St → Hp → Prop := fun σ H' => ∃ i : Nat, σ = [some (.ref b), some v, some (.int (i : Int))] ∧ But b H H' ∧ Box H' b n ∧ Dp K (wo b H') v d ∧ ∃ ds, d = .tuple ds ∧ i < ds.length
theorem FinD.part {m : Nat} {ds : List PyData} (f : FinD m (.tuple ds)) : ∀ d ∈ ds, FinD m d := by
  cases f with
  | tup f => exact f
end V


set_option Elab.async false
set_option linter.all false
set_option maxRecDepth 100000
set_option maxHeartbeats 4000000
namespace V
open PySem PySem.Spec PyProof.Rows L2 Evl TL NumText
theorem tw_all {p : Nat → Bool} : ∀ {l : List Nat}, (l.takeWhile p).length = l.length → ∀ x ∈ l, p x = true
  | [], _, x, h => by cases h
  | y :: l, e, x, h => by
    rw [List.takeWhile_cons] at e
    cases c : p y with
    | false => rw [c] at e; cases e
    | true =>
      rw [c] at e
      rcases List.mem_cons.mp h with rfl | h
      · exact c
      · exact tw_all (Nat.succ.inj e) x h
theorem tw_same {p : Nat → Bool} : ∀ {l : List Nat}, (∀ x ∈ l, p x = true) → l.takeWhile p = l
  | [], _ => rfl
  | y :: l, h => by
    rw [List.takeWhile_cons, h y (List.mem_cons_self ..)]
    show y :: l.takeWhile p = y :: l
    rw [tw_same fun x hx => h x (List.mem_cons_of_mem _ hx)]
theorem tw_len {p : Nat → Bool} (l : List Nat) : (l.takeWhile p).length ≤ l.length := (List.takeWhile_sublist p).length_le
theorem tw_stop {p : Nat → Bool} : ∀ {l : List Nat}, (l.takeWhile p).length < l.length → ∃ c r, l.drop (l.takeWhile p).length = c :: r ∧ p c = false
  | [], h => absurd h (Nat.lt_irrefl _)
  | y :: l, h => by
    cases c : p y with
    | false => exact ⟨y, l, by rw [List.takeWhile_cons, c]; rfl, c⟩
    | true =>
      rw [List.takeWhile_cons, c] at h
      obtain ⟨d, r, h1, h2⟩ := tw_stop (l := l) (Nat.lt_of_succ_lt_succ h)
      exact ⟨d, r, by rw [List.takeWhile_cons, c]; exact h1, h2⟩
theorem strip_nil (x y : Str) : (Txt.stripChars x y = "") ↔ ∀ c ∈ x.cps.toList, y.cps.contains c = true := by
  unfold Txt.stripChars
  rw [PyProof.Rows.stripBy_eq]
  have hl : (x.cps.toList.takeWhile y.cps.contains).length ≤ x.cps.toList.length := tw_len _
  have xl : x.cps.toList.length = x.length := Array.length_toList
  have size : ∀ i j : Nat, (Builtin.Str.strSub x i j).length = min j x.length - i := fun i j => by
    show (x.cps.extract i j).size = _
    rw [Array.size_extract]
    rfl
  constructor
  · intro e
    have e0 : (Builtin.Str.strSub x (stripLo y.cps.contains true x) (stripHi y.cps.contains true x (stripLo y.cps.contains true x))).length = 0 := by rw [e]; rfl
    rw [size] at e0
    have lo : stripLo y.cps.contains true x = (x.cps.toList.takeWhile y.cps.contains).length := rfl
    have hi : stripHi y.cps.contains true x (stripLo y.cps.contains true x) = x.length - ((x.cps.toList.drop (x.cps.toList.takeWhile y.cps.contains).length).reverse.takeWhile y.cps.contains).length := rfl
    rw [hi, lo] at e0
    by_cases c : (x.cps.toList.takeWhile y.cps.contains).length = x.cps.toList.length
    · exact tw_all c
    · exfalso
      obtain ⟨d, r, h1, h2⟩ := tw_stop (l := x.cps.toList) (p := y.cps.contains) (by omega)
      have h3 : (x.cps.toList.drop (x.cps.toList.takeWhile y.cps.contains).length).length = x.cps.toList.length - (x.cps.toList.takeWhile y.cps.contains).length := List.length_drop
      have h4 := tw_len (p := y.cps.contains) (x.cps.toList.drop (x.cps.toList.takeWhile y.cps.contains).length).reverse
      rw [List.length_reverse] at h4
      by_cases h5 : ((x.cps.toList.drop (x.cps.toList.takeWhile y.cps.contains).length).reverse.takeWhile y.cps.contains).length = (x.cps.toList.drop (x.cps.toList.takeWhile y.cps.contains).length).reverse.length
      · have h6 := tw_all h5 d (List.mem_reverse.mpr (by rw [h1]; exact List.mem_cons_self ..))
        rw [h2] at h6
        cases h6
      · rw [List.length_reverse] at h5
        omega
  · intro h
    have lo : stripLo y.cps.contains true x = x.length := by
      show (x.cps.toList.takeWhile y.cps.contains).length = x.length
      rw [tw_same h, xl]
    refine Str.ext' (Array.eq_empty_of_size_eq_zero ?_)
    show (Builtin.Str.strSub x _ _).length = 0
    rw [size, lo]
    omega
def spBelow (K : PySem.W.Frag) : Sp := fun vs H Q _ => ∃ (m : Int) (v : V) (d : PyData), vs = [v, .int m] ∧ Dp K H v d ∧ ∀ (H' : Hp), Ex H H' → Q (.bl (isNumD (m - 1) d)) H'
/-- what is asked about a thing, so deep -/
def Okd (d : PyData) : Prop := FinD 9 d ∧ wtD d ≤ 1000 ∧ d.depth ≤ 60
def spLawTm (K : PySem.W.Frag) (n : Nat) : Sp := fun vs H Q _ => ∃ (m : Nat) (v : V) (d : PyData), vs = [v, .int (m : Int)] ∧ m ≤ n ∧ Dp K H v d ∧ Okd d ∧ ∀ (H' : Hp), Ex H H' → Q (.bl (isTm m d)) H'
theorem Okd.tup {ds : List PyData} (h : Okd (.tuple ds)) : ∀ d ∈ ds, Okd d := fun d hd => by
  obtain ⟨h1, h2, h3⟩ := h
  rw [wtD] at h2
  rw [PyData.depth] at h3
  cases h1 with
  | tup f => exact ⟨f d hd, by have := wts_mem hd; omega, by have := dep_mem hd; omega⟩
theorem Okd.parts {d e : PyData} (h : Okd d) (he : e ∈ partsD d) : Okd e := by
  cases d with
  | tuple ds =>
    cases ds with
    | nil => cases he
    | cons c r =>
      cases c with
      | str z =>
        have he' : e ∈ (if z ∈ opWords then r else second r) := he
        split at he'
        · exact h.tup e (List.mem_cons_of_mem _ he')
        · unfold second at he'
          split at he'
          · rename_i x ds
            exact (h.tup (.tuple ds) (by simp)).tup e he'
          · cases he'
      | _ => cases he
  | _ => cases he
theorem Okd.few {d : PyData} (h : Okd d) : (partsD d).length ≤ 1000 := (h.1.small (by decide) h.2.1).few
/-- a word's number in a written dict -/
def dA : List (Key × V) := [(.inr "num", .int 1000003), (.inr "arg", .int 4)]
def dB : List (Key × V) := [(.inr "add", .int 2), (.inr "less", .int 2), (.inr "times", .int 2), (.inr "under", .int 2), (.inr "if", .int 3)]
theorem val_at {kvs : List (Key × V)} {z : Str} (h : ∀ p ∈ kvs, p.1 ≠ .inr z) : valV kvs (.inr z) = none := by
  induction kvs with
  | nil => rfl
  | cons p r ih =>
    have h1 := h p (List.mem_cons_self ..)
    have h2 := ih fun q hq => h q (List.mem_cons_of_mem _ hq)
    unfold valV at h2 ⊢
    rw [List.find?_cons_of_neg (by simpa using h1)]
    exact h2
end V


set_option Elab.async false
set_option linter.all false
set_option maxRecDepth 100000
set_option maxHeartbeats 400000
namespace V
open PySem PySem.Spec PyProof.Rows L2 Evl TL NumText
def spAny : Sp := fun vs H Q _ => ∃ (b : Addr) (n : Nat), vs = [.ref b] ∧ Box H b (n + 400) ∧ ∀ (H' : Hp) (v : V) (t : Tm), But b H H' → Box H' b n → TmAt H' v t → t.Ok 11 → t.deep ≤ 8 → t.size ≤ 50 → Q v H'
def CallHd (H : Hp) (v : V) : Prop := ∃ m s, HdAt H v (.call m, s) ∧ isMk m ∧ s ≤ 4
def RingHd (H : Hp) (v : V) : Prop := ∃ p s, HdAt H v (.ring p, s) ∧ p ≤ 11 ∧ s ≤ 4
theorem CallHd.tu {H H' : Hp} {v : V} (h : CallHd H v) (e : Tu H H') : CallHd H' v := by
  obtain ⟨m, s, h1, h2⟩ := h
  exact ⟨m, s, h1.tu e, h2⟩
theorem RingHd.tu {H H' : Hp} {v : V} (h : RingHd H v) (e : Tu H H') : RingHd H' v := by
  obtain ⟨m, s, h1, h2⟩ := h
  exact ⟨m, s, h1.tu e, h2⟩
/-- parts, not too deep, not too many -/
structure Few (H : Hp) (vs : List V) (ts : List Tm) (D S : Nat) : Prop where
  a : TmsAt H vs ts
  o : ∀ t ∈ ts, t.Ok 11
  d : Tm.deeps ts ≤ D
  z : Tm.sizes ts ≤ S
theorem few_nil (H : Hp) (D : Nat) : Few H [] [] D 0 := ⟨.nil, (fun t h => by cases h), Nat.zero_le _, Nat.le_refl _⟩
theorem few_cons {H : Hp} {v : V} {t : Tm} {vs : List V} {ts : List Tm} {D S s : Nat} (h : TmAt H v t) (o : t.Ok 11) (d : t.deep ≤ D) (z : t.size ≤ s) (k : Few H vs ts D S) : Few H (v :: vs) (t :: ts) D (s + S) :=
  ⟨.cons h k.a, (fun u hu => by
    rcases List.mem_cons.mp hu with rfl | hu
    · exact o
    · exact k.o u hu), (by show max t.deep (Tm.deeps ts) ≤ D; have := k.d; omega), (by show t.size + Tm.sizes ts ≤ s + S; have := k.z; omega)⟩
theorem Few.tu {H H' : Hp} {vs : List V} {ts : List Tm} {D S : Nat} (k : Few H vs ts D S) (e : Tu H H') : Few H' vs ts D S := ⟨k.a.tu e, k.o, k.d, k.z⟩
theorem Few.less {H : Hp} {vs : List V} {ts : List Tm} {D S S' : Nat} (k : Few H vs ts D S) (h : S ≤ S') : Few H vs ts D S' := ⟨k.a, k.o, k.d, Nat.le_trans k.z h⟩
theorem Few.node {H : Hp} {vs : List V} {ts : List Tm} {D S : Nat} (k : Few H vs ts D S) {h : Hd} (ho : h.ok 11 ts.length) : (Tm.node h ts).Ok 11 ∧ (Tm.node h ts).deep ≤ D + 1 ∧ (Tm.node h ts).size ≤ S + 1 :=
  ⟨.node ho k.o, (by show 1 + Tm.deeps ts ≤ D + 1; have := k.d; omega), (by show 1 + Tm.sizes ts ≤ S + 1; have := k.z; omega)⟩
theorem len_two {xs : List V} (h : xs.length = 2) : ∃ x y, xs = [x, y] := by
  match xs, h with
  | [x, y], _ => exact ⟨x, y, rfl⟩
/-- the box is let alone, a new list is led on -/
theorem But.on {H0 H4 H5 : Hp} {b l : Addr} {o : HO} (hl : H0 l = none) (u : But b H0 H4) (u5 : But b H4 H5) : But b H0 (L2.upd H5 l o) := fun a x ha ho => by
  have na : a ≠ l := fun z => by
    rw [z, hl] at ho
    cases ho
  rw [upd_ne na]
  exact u5 a x ha (u a x ha ho)
theorem Box.on {H : Hp} {b l : Addr} {n : Nat} {o : HO} (h : Box H b n) (k : l ≠ b) : Box (L2.upd H l o) b n := by
  obtain ⟨x, y, z, q1, q2⟩ := h
  exact ⟨x, y, z, by rw [upd_ne k.symm]; exact q1, q2⟩
theorem Box.ne {H : Hp} {b l : Addr} {n : Nat} (h : Box H b n) (hl : H l = none) : l ≠ b := fun z => by
  obtain ⟨xs, hx⟩ := h.lst
  rw [z, hx] at hl
  cases hl
end V


set_option Elab.async false
set_option linter.all false
set_option maxRecDepth 100000
set_option maxHeartbeats 4000000
namespace V
open PySem PySem.Spec PyProof.Rows L2 Evl TL NumText
/-! ### marks of numbers and of texts -/
def sgAt (d : Nat) : Nat := sgS.cps.toList.getD d 0
/-- so many figures ahead of these -/
def mkL : Nat → Nat → List Nat → List Nat
  | 0, _, acc => acc
  | k + 1, n, acc => mkL k (n / 36) (sgAt (n % 36) :: acc)
def mkS (n : Nat) : Str := ⟨(mkL 6 n []).toArray⟩
def sgIx (c : Nat) : Nat := sgS.cps.toList.findIdx (· == c)
def hashL (l : List Nat) (n : Nat) : Nat := l.foldl (fun a c => (a * 131 + sgIx c + 1) % 998244353) n
def spMarkN : Sp := fun vs H Q _ => ∃ n : Nat, vs = [.int (n : Int)] ∧ n < 2147483648 ∧ ∀ (H' : Hp), Ex H H' → Q (.str (mkS n)) H'
def spMarkT : Sp := fun vs H Q _ => ∃ z : Str, vs = [.str z] ∧ z.length ≤ 1000000 ∧ (∀ c ∈ tl z, c ∈ tl sgS) ∧ ∀ (H' : Hp), Ex H H' → Q (.str (mkS (hashL (tl z) 7))) H'
theorem sg_at : ∀ d : Nat, d < 36 → atI sgS.cps.toList (d : Int) = some (sgAt d) := by
  intro d hd
  refine atI_nat ?_
  have all : ∀ d : Nat, d < 36 → sgS.cps.toList[d]? = some (sgAt d) := by decide +kernel
  exact all d hd
theorem sg_ix : ∀ c ∈ tl sgS, ∃ rest, Builtin.Str.occurrences sgS ⟨#[c]⟩ 0 sgS.length 1 = sgIx c :: rest := by
  intro c hc
  have all : ∀ c ∈ tl sgS, (Builtin.Str.occurrences sgS ⟨#[c]⟩ 0 sgS.length 1).head? = some (sgIx c) := by decide +kernel
  have h := all c hc
  cases e : Builtin.Str.occurrences sgS ⟨#[c]⟩ 0 sgS.length 1 with
  | nil =>
    rw [e] at h
    cases h
  | cons x r =>
    rw [e] at h
    cases h
    exact ⟨r, rfl⟩
theorem sg_ix_lt : ∀ c ∈ tl sgS, sgIx c < 43 := by decide +kernel
theorem one_append (c : Nat) (l : List Nat) : (⟨#[c]⟩ : Str) ++ ⟨l.toArray⟩ = ⟨(c :: l).toArray⟩ := ext_tl (by rw [tl_append]; rfl)
end V


set_option Elab.async false
set_option linter.all false
set_option maxRecDepth 100000
set_option maxHeartbeats 400000
namespace V
open PySem PySem.Spec PyProof.Rows L2 Evl TL NumText
/-! ### the law's own marks and depths -/
theorem sg_at43 : ∀ d : Nat, d < 36 → atI sgS.cps.toList (d : Int) = some (sgAt d) := sg_at
end V


set_option Elab.async false
set_option linter.all false
set_option maxRecDepth 100000
set_option maxHeartbeats 400000
namespace V
open PySem PySem.Spec PyProof.Rows L2 Evl TL NumText
/-- a statement that may end it -/
def Hr (t : TS) (A B : L2.St → Hp → Prop) (Q : VK) : Prop := ∀ (D : Ends) (σ : L2.St) (H : Hp), A σ H → (∀ σ' H', B σ' H' → D.nx σ' H') → (∀ v H', Q v H' → D.rt v H') → t D σ H
theorem Hr.fin {t u : TS} {A B : L2.St → Hp → Prop} {Q : VK} (h1 : Hr t A B Q) (h2 : He1 u B Q) : He1 (tSeq t u) A Q := fun D σ H a k => h1 { D with nx := u D } σ H a (fun σ' H' b => h2 D σ' H' b k) k
theorem word_leaf {t : Tm} (h : ∀ hd ts, t ≠ .node hd ts) : inV (.str t.word) [.str "num", .str "arg"] = true := by
  cases t with
  | num n => show inV (.str "num") [.str "num", .str "arg"] = true; decide +kernel
  | arg n => show inV (.str "arg") [.str "num", .str "arg"] = true; decide +kernel
  | node hd ts => exact absurd rfl (h hd ts)
theorem word_node (hd : Hd) (ts : List Tm) : inV (.str (Tm.node hd ts).word) [.str "num", .str "arg"] = false := by
  cases hd with
  | op o => show inV (.str o.str) [.str "num", .str "arg"] = false; cases o <;> decide +kernel
  | call m => show inV (.str "call") [.str "num", .str "arg"] = false; decide +kernel
  | ring p => show inV (.str "ring") [.str "num", .str "arg"] = false; decide +kernel
theorem word_call (hd : Hd) (ts : List Tm) : inV (.str (Tm.node hd ts).word) [.str "call", .str "ring"] = hd.notOp := by
  cases hd with
  | op o => show inV (.str o.str) [.str "call", .str "ring"] = false; cases o <;> decide +kernel
  | call m => show inV (.str "call") [.str "call", .str "ring"] = true; decide +kernel
  | ring p => show inV (.str "ring") [.str "call", .str "ring"] = true; decide +kernel
end V


set_option Elab.async false
set_option linter.all false
set_option maxRecDepth 100000
set_option maxHeartbeats 4000000
namespace V
open PySem PySem.Spec PyProof.Rows L2 Evl TL NumText
theorem partsD_py (hd : Hd) (ts : List Tm) : partsD (Tm.node hd ts).py = Tm.pys ts := by
  cases hd with
  | op o =>
    have io : o.str ∈ opWords := by cases o <;> decide +kernel
    exact partsD_op io _
  | call m => exact partsD_no (by decide +kernel) _
  | ring p => exact partsD_no (by decide +kernel) _
theorem isTm_deep : ∀ (n : Nat) (t : Tm), isTm n t.py = true → t.deep ≤ n
  | 0, _, h => by cases h
  | n + 1, .num _, _ => Nat.succ_le_succ (Nat.zero_le n)
  | n + 1, .arg _, _ => Nat.succ_le_succ (Nat.zero_le n)
  | n + 1, .node hd ts, h => by
    have h2 : (headD (Tm.node hd ts).py && (partsD (Tm.node hd ts).py).all (isTm n)) = true := h
    rw [Bool.and_eq_true, partsD_py, pys_map, List.all_map, List.all_eq_true] at h2
    have h3 := deeps_le ts n fun u hu => isTm_deep n u (h2.2 u hu)
    show 1 + Tm.deeps ts ≤ n + 1
    omega
theorem op_fin (o : Op) : FinD 0 (.str o.str) := okC_fin _ _ (by cases o <;> decide +kernel)
theorem py_fin : ∀ t : Tm, t.Ok 11 → FinD 0 t.py := by
  have each : ∀ ts : List Tm, (∀ t ∈ ts, FinD 0 t.py) → ∀ d ∈ Tm.pys ts, FinD 0 d := fun ts h d hd => by
    rw [pys_map] at hd
    obtain ⟨t, ht, rfl⟩ := List.mem_map.mp hd
    exact h t ht
  have two : ∀ {a b : PyData}, FinD 0 a → FinD 0 b → FinD 0 (.tuple [a, b]) := fun ha hb => .tup fun d hd => by
    rcases List.mem_cons.mp hd with rfl | hd
    · exact ha
    · rw [List.mem_singleton.mp hd]; exact hb
  have three : ∀ {a b c : PyData}, FinD 0 a → FinD 0 b → FinD 0 c → FinD 0 (.tuple [a, b, c]) := fun ha hb hc => .tup fun d hd => by
    rcases List.mem_cons.mp hd with rfl | hd
    · exact ha
    rcases List.mem_cons.mp hd with rfl | hd
    · exact hb
    · rw [List.mem_singleton.mp hd]; exact hc
  have big : (1000002 : Nat) ≤ 10 ^ 30 := by decide
  refine Tm.ind (fun n k => ?_) (fun n k => ?_) fun h ts ih k => ?_
  · cases k with
    | num hn => exact two (okC_fin 0 (.str "num") (by decide +kernel)) (.int (by omega))
  · cases k with
    | arg hn => exact two (okC_fin 0 (.str "arg") (by decide +kernel)) (.int (by omega))
  · cases k with
    | node hh hks =>
    have e := each ts fun t ht => ih t ht (hks t ht)
    cases h with
    | op o =>
      refine .tup fun d hd => ?_
      rcases List.mem_cons.mp hd with rfl | hd
      · exact op_fin o
      · exact e d hd
    | call m => exact three (okC_fin 0 (.str "call") (by decide +kernel)) (.str (by have := hh.1.1; omega) fun c hc => by have := hh.1.2 c hc; omega) (.tup e)
    | ring m =>
      have := hh.1
      exact three (okC_fin 0 (.str "ring") (by decide +kernel)) (.int (by omega)) (.tup e)
theorem py_wt : ∀ t : Tm, wtD t.py ≤ 4 * t.size := by
  have each : ∀ ts : List Tm, (∀ t ∈ ts, wtD t.py ≤ 4 * t.size) → wtsD (Tm.pys ts) ≤ 4 * Tm.sizes ts := by
    intro ts
    induction ts with
    | nil => exact fun _ => by simp [Tm.pys, wtsD]
    | cons t ts ih =>
      intro h
      have h1 := h t (List.mem_cons_self ..)
      have h2 := ih fun u hu => h u (List.mem_cons_of_mem _ hu)
      show wtsD (t.py :: Tm.pys ts) ≤ 4 * (t.size + Tm.sizes ts)
      rw [wtsD]
      omega
  refine Tm.ind (fun n => ?_) (fun n => ?_) fun h ts ih => ?_
  · show wtD (.tuple [.str "num", .int (n : Int)]) ≤ 4
    simp [wtD, wtsD]
  · show wtD (.tuple [.str "arg", .int (n : Int)]) ≤ 4
    simp [wtD, wtsD]
  · have e := each ts ih
    have nz : (Tm.node h ts).size = 1 + Tm.sizes ts := rfl
    rw [nz]
    cases h with
    | op o =>
      show wtD (.tuple (.str o.str :: Tm.pys ts)) ≤ _
      simp only [wtD, wtsD]
      omega
    | call m =>
      show wtD (.tuple [.str "call", .str m, .tuple (Tm.pys ts)]) ≤ _
      simp only [wtD, wtsD]
      omega
    | ring m =>
      show wtD (.tuple [.str "ring", .int (m : Int), .tuple (Tm.pys ts)]) ≤ _
      simp only [wtD, wtsD]
      omega
theorem py_okd {t : Tm} (o : t.Ok 11) (d : t.deep ≤ 30) (z : t.size ≤ 240) : Okd t.py := ⟨(py_fin t o).up (by decide), by have := py_wt t; omega, by have := (py_lay t o).2; omega⟩
def spR1 : Sp := fun vs H Q _ => ∃ (b : Addr) (n : Nat), vs = [.ref b] ∧ Box H b (n + 2000) ∧ ∀ H' : Hp, But b H H' → Box H' b n → Q (.bl true) H'
/-- a term that grows -/
structure Grw (H : Hp) (v : V) (t : Tm) (i : Nat) : Prop where
  at_ : TmAt H v t
  ok : t.Ok 11
  lo : i + 1 ≤ t.deep
  hi : t.deep ≤ 8 + i
  sz : t.size ≤ 50 + 3 * i
theorem Grw.ex {H H' : Hp} {v : V} {t : Tm} {i : Nat} (g : Grw H v t i) (e : Ex H H') : Grw H' v t i := ⟨g.at_.ex e, g.ok, g.lo, g.hi, g.sz⟩
theorem seqr {t u : TS} {A B : L2.St → Hp → Prop} {Q : VK} {D : Ends} {σ : L2.St} {H : Hp} (h1 : Hr t A B Q) (a : A σ H) (rr : ∀ v H', Q v H' → D.rt v H') (k : ∀ σ' H', B σ' H' → u D σ' H') : tSeq t u D σ H := h1 { D with nx := u D } σ H a k rr
theorem ok_call1 {t : Tm} (o : t.Ok 11) : (Tm.node (.call "0a0a0a") [t]).Ok 11 := .node ⟨⟨by decide +kernel, by decide +kernel⟩, by exact Nat.le_of_ble_eq_true rfl⟩ fun u hu => by rw [List.mem_singleton.mp hu]; exact o
theorem ok_add1 {t : Tm} (o : t.Ok 11) : (Tm.node (.op .add) [.num 1, t]).Ok 11 := .node rfl fun u hu => by
  rcases List.mem_cons.mp hu with rfl | hu
  · exact .num (by decide)
  · rw [List.mem_singleton.mp hu]; exact o
theorem ok_ring1 {t : Tm} (o : t.Ok 11) : (Tm.node (.ring 3) [.arg 0, t]).Ok 11 := .node ⟨by decide, by exact Nat.le_of_ble_eq_true rfl⟩ fun u hu => by
  rcases List.mem_cons.mp hu with rfl | hu
  · exact .arg (by decide)
  · rw [List.mem_singleton.mp hu]; exact o
end V


set_option Elab.async false
set_option linter.all false
set_option maxRecDepth 100000
set_option maxHeartbeats 4000000
namespace V
open PySem PySem.Spec PyProof.Rows L2 Evl
theorem cutV_map {α : Type} (f : α → V) (xs : List α) (lo hi : Option Int) :
    cutV (xs.map f) lo hi = ((xs.drop (HT.sIx xs.length 0 lo)).take (HT.sIx xs.length xs.length hi - HT.sIx xs.length 0 lo)).map f := by
  unfold cutV
  rw [List.length_map, List.map_take, List.map_drop]
/-- the first numbers of the script, those behind added on -/
def spFold (K : PySem.W.Frag) : Sp := fun vs H Q _ => ∃ (a : Addr) (ns : List Int) (size : Nat), vs = [.ref a, .int (size : Int)] ∧ SqL K H a (ns.map V.int) ∧ ns.length ≤ 63 ∧ 0 < size ∧ size ≤ 10 ∧
  ∀ (H' : Hp) (p : Addr) (ms : List Int), H p = none → Ex H H' → H' p = some (.lst (ms.map V.int)) → ms.length ≤ size → Q (.ref p) H'
end V


set_option Elab.async false
set_option linter.all false
set_option maxRecDepth 100000
set_option maxHeartbeats 4000000
namespace V
open PySem PySem.Spec PyProof.Rows L2
/-! ### the text -/
def topS (i : Nat) : Stmt := PySem.Challenge.pw_contentnames_k01_marks_and_terms_or_not.main.body.getD i (.Pass ⟨0, 0, 0, 0⟩)
abbrev s_is_mark : Stmt := topS 11
abbrev s_is_number_to : Stmt := topS 12
abbrev s_is_term : Stmt := topS 13
abbrev s_is_term_within : Stmt := topS 14
abbrev s_is_headed : Stmt := topS 15
abbrev s_is_parts : Stmt := topS 16
abbrev s_parts_of : Stmt := topS 17
abbrev s__law_box : Stmt := topS 19
abbrev s__law_take : Stmt := topS 20
abbrev s__law_folded : Stmt := topS 21
abbrev s__law_same : Stmt := topS 22
abbrev s__law_number : Stmt := topS 23
abbrev s__law_term : Stmt := topS 24
abbrev s__law_some_mark : Stmt := topS 25
abbrev s__law_any_term : Stmt := topS 26
abbrev s__law_is_below : Stmt := topS 27
abbrev s__law_is_a_mark : Stmt := topS 28
abbrev s__law_is_a_term : Stmt := topS 29
abbrev s__law_odd : Stmt := topS 30
abbrev s__law_bent : Stmt := topS 31
abbrev s__law_marks_right : Stmt := topS 32
abbrev s__law_right : Stmt := topS 33
abbrev s_law : Stmt := topS 34
abbrev N_is_mark : List Str := ["thing", "sign"]
theorem sc_is_mark : FnScope N_is_mark ["thing"] (defScope s_is_mark) := ⟨rfl, rfl, rfl, by decide +kernel, rfl, by decide +kernel, by decide +kernel⟩
abbrev N_is_number_to : List Str := ["most", "thing"]
theorem sc_is_number_to : FnScope N_is_number_to ["most", "thing"] (defScope s_is_number_to) := ⟨rfl, rfl, rfl, by decide +kernel, rfl, by decide +kernel, by decide +kernel⟩
abbrev N_is_term : List Str := ["thing"]
theorem sc_is_term : FnScope N_is_term ["thing"] (defScope s_is_term) := ⟨rfl, rfl, rfl, by decide +kernel, rfl, by decide +kernel, by decide +kernel⟩
abbrev N_is_term_within : List Str := ["deep", "thing", "part"]
theorem sc_is_term_within : FnScope N_is_term_within ["deep", "thing"] (defScope s_is_term_within) := ⟨rfl, rfl, rfl, by decide +kernel, rfl, by decide +kernel, by decide +kernel⟩
abbrev N_is_headed : List Str := ["thing", "word"]
theorem sc_is_headed : FnScope N_is_headed ["thing"] (defScope s_is_headed) := ⟨rfl, rfl, rfl, by decide +kernel, rfl, by decide +kernel, by decide +kernel⟩
abbrev N_is_parts : List Str := ["thing"]
theorem sc_is_parts : FnScope N_is_parts ["thing"] (defScope s_is_parts) := ⟨rfl, rfl, rfl, by decide +kernel, rfl, by decide +kernel, by decide +kernel⟩
abbrev N_parts_of : List Str := ["term"]
theorem sc_parts_of : FnScope N_parts_of ["term"] (defScope s_parts_of) := ⟨rfl, rfl, rfl, by decide +kernel, rfl, by decide +kernel, by decide +kernel⟩
abbrev N__law_box : List Str := ["script", "k", "cell"]
theorem sc__law_box : FnScope N__law_box ["script", "k"] (defScope s__law_box) := ⟨rfl, rfl, rfl, by decide +kernel, rfl, by decide +kernel, by decide +kernel⟩
abbrev N__law_take : List Str := ["box", "size", "found", "step", "once", "twice"]
theorem sc__law_take : FnScope N__law_take ["box", "size"] (defScope s__law_take) := ⟨rfl, rfl, rfl, by decide +kernel, rfl, by decide +kernel, by decide +kernel⟩
abbrev N__law_folded : List Str := ["script", "size", "cells", "k", "cell"]
theorem sc__law_folded : FnScope N__law_folded ["script", "size"] (defScope s__law_folded) := ⟨rfl, rfl, rfl, by decide +kernel, rfl, by decide +kernel, by decide +kernel⟩
abbrev N__law_same : List Str := ["found", "due", "one", "other"]
theorem sc__law_same : FnScope N__law_same ["found", "due"] (defScope s__law_same) := ⟨rfl, rfl, rfl, by decide +kernel, rfl, by decide +kernel, by decide +kernel⟩
abbrev N__law_number : List Str := ["box"]
theorem sc__law_number : FnScope N__law_number ["box"] (defScope s__law_number) := ⟨rfl, rfl, rfl, by decide +kernel, rfl, by decide +kernel, by decide +kernel⟩
abbrev N__law_term : List Str := ["box", "many", "heads", "tall", "way", "op", "one", "other", "head", "size", "parts", "turn"]
theorem sc__law_term : FnScope N__law_term ["box", "many", "heads", "tall"] (defScope s__law_term) := ⟨rfl, rfl, rfl, by decide +kernel, rfl, by decide +kernel, by decide +kernel⟩
abbrev N__law_some_mark : List Str := ["box", "signs", "mode", "turn"]
theorem sc__law_some_mark : FnScope N__law_some_mark ["box"] (defScope s__law_some_mark) := ⟨rfl, rfl, rfl, by decide +kernel, rfl, by decide +kernel, by decide +kernel⟩
abbrev N__law_any_term : List Str := ["box", "heads", "term", "turn", "leaf", "mode", "head", "some", "op"]
theorem sc__law_any_term : FnScope N__law_any_term ["box"] (defScope s__law_any_term) := ⟨rfl, rfl, rfl, by decide +kernel, rfl, by decide +kernel, by decide +kernel⟩
abbrev N__law_is_below : List Str := ["thing", "many"]
theorem sc__law_is_below : FnScope N__law_is_below ["thing", "many"] (defScope s__law_is_below) := ⟨rfl, rfl, rfl, by decide +kernel, rfl, by decide +kernel, by decide +kernel⟩
abbrev N__law_is_a_mark : List Str := ["thing"]
theorem sc__law_is_a_mark : FnScope N__law_is_a_mark ["thing"] (defScope s__law_is_a_mark) := ⟨rfl, rfl, rfl, by decide +kernel, rfl, by decide +kernel, by decide +kernel⟩
abbrev N__law_is_a_term : List Str := ["thing", "deep", "parts", "part"]
theorem sc__law_is_a_term : FnScope N__law_is_a_term ["thing", "deep"] (defScope s__law_is_a_term) := ⟨rfl, rfl, rfl, by decide +kernel, rfl, by decide +kernel, by decide +kernel⟩
abbrev N__law_odd : List Str := ["box", "part", "some"]
theorem sc__law_odd : FnScope N__law_odd ["box", "part"] (defScope s__law_odd) := ⟨rfl, rfl, rfl, by decide +kernel, rfl, by decide +kernel, by decide +kernel⟩
abbrev N__law_bent : List Str := ["box", "thing", "at"]
theorem sc__law_bent : FnScope N__law_bent ["box", "thing"] (defScope s__law_bent) := ⟨rfl, rfl, rfl, by decide +kernel, rfl, by decide +kernel, by decide +kernel⟩
abbrev N__law_marks_right : List Str := ["box", "mark", "signs", "at", "sign", "ahead", "behind", "some", "one"]
theorem sc__law_marks_right : FnScope N__law_marks_right ["box"] (defScope s__law_marks_right) := ⟨rfl, rfl, rfl, by decide +kernel, rfl, by decide +kernel, by decide +kernel⟩
abbrev N__law_right : List Str := ["box", "term", "turn", "thing", "kept", "found"]
theorem sc__law_right : FnScope N__law_right ["box"] (defScope s__law_right) := ⟨rfl, rfl, rfl, by decide +kernel, rfl, by decide +kernel, by decide +kernel⟩
abbrev N_law : List Str := ["script", "cells", "k", "box", "turn"]
theorem sc_law : FnScope N_law ["script"] (defScope s_law) := ⟨rfl, rfl, rfl, by decide +kernel, rfl, by decide +kernel, by decide +kernel⟩
/-! ### the head -/
def d_is_mark : He.DefD := ⟨("is_mark", none), "is_mark", "is_mark", defArgs s_is_mark, defBody s_is_mark, defScope s_is_mark, [], []⟩
def d_is_number_to : He.DefD := ⟨("is_number_to", none), "is_number_to", "is_number_to", defArgs s_is_number_to, defBody s_is_number_to, defScope s_is_number_to, [], []⟩
def d_is_term : He.DefD := ⟨("is_term", none), "is_term", "is_term", defArgs s_is_term, defBody s_is_term, defScope s_is_term, [], []⟩
def d_is_term_within : He.DefD := ⟨("is_term_within", none), "is_term_within", "is_term_within", defArgs s_is_term_within, defBody s_is_term_within, defScope s_is_term_within, [], []⟩
def d_is_headed : He.DefD := ⟨("is_headed", none), "is_headed", "is_headed", defArgs s_is_headed, defBody s_is_headed, defScope s_is_headed, [], []⟩
def d_is_parts : He.DefD := ⟨("is_parts", none), "is_parts", "is_parts", defArgs s_is_parts, defBody s_is_parts, defScope s_is_parts, [], []⟩
def d_parts_of : He.DefD := ⟨("parts_of", none), "parts_of", "parts_of", defArgs s_parts_of, defBody s_parts_of, defScope s_parts_of, [], []⟩
def d__law_box : He.DefD := ⟨("_law_box", none), "_law_box", "_law_box", defArgs s__law_box, defBody s__law_box, defScope s__law_box, [], []⟩
def d__law_take : He.DefD := ⟨("_law_take", none), "_law_take", "_law_take", defArgs s__law_take, defBody s__law_take, defScope s__law_take, [], []⟩
def d__law_folded : He.DefD := ⟨("_law_folded", none), "_law_folded", "_law_folded", defArgs s__law_folded, defBody s__law_folded, defScope s__law_folded, [], []⟩
def d__law_same : He.DefD := ⟨("_law_same", none), "_law_same", "_law_same", defArgs s__law_same, defBody s__law_same, defScope s__law_same, [], []⟩
def d__law_number : He.DefD := ⟨("_law_number", none), "_law_number", "_law_number", defArgs s__law_number, defBody s__law_number, defScope s__law_number, [], []⟩
def d__law_term : He.DefD := ⟨("_law_term", none), "_law_term", "_law_term", defArgs s__law_term, defBody s__law_term, defScope s__law_term, [], []⟩
def d__law_some_mark : He.DefD := ⟨("_law_some_mark", none), "_law_some_mark", "_law_some_mark", defArgs s__law_some_mark, defBody s__law_some_mark, defScope s__law_some_mark, [], []⟩
def d__law_any_term : He.DefD := ⟨("_law_any_term", none), "_law_any_term", "_law_any_term", defArgs s__law_any_term, defBody s__law_any_term, defScope s__law_any_term, [], []⟩
def d__law_is_below : He.DefD := ⟨("_law_is_below", none), "_law_is_below", "_law_is_below", defArgs s__law_is_below, defBody s__law_is_below, defScope s__law_is_below, [], []⟩
def d__law_is_a_mark : He.DefD := ⟨("_law_is_a_mark", none), "_law_is_a_mark", "_law_is_a_mark", defArgs s__law_is_a_mark, defBody s__law_is_a_mark, defScope s__law_is_a_mark, [], []⟩
def d__law_is_a_term : He.DefD := ⟨("_law_is_a_term", none), "_law_is_a_term", "_law_is_a_term", defArgs s__law_is_a_term, defBody s__law_is_a_term, defScope s__law_is_a_term, [], []⟩
def d__law_odd : He.DefD := ⟨("_law_odd", none), "_law_odd", "_law_odd", defArgs s__law_odd, defBody s__law_odd, defScope s__law_odd, [], []⟩
def d__law_bent : He.DefD := ⟨("_law_bent", none), "_law_bent", "_law_bent", defArgs s__law_bent, defBody s__law_bent, defScope s__law_bent, [], []⟩
def d__law_marks_right : He.DefD := ⟨("_law_marks_right", none), "_law_marks_right", "_law_marks_right", defArgs s__law_marks_right, defBody s__law_marks_right, defScope s__law_marks_right, [], []⟩
def d__law_right : He.DefD := ⟨("_law_right", none), "_law_right", "_law_right", defArgs s__law_right, defBody s__law_right, defScope s__law_right, [], []⟩
def d_law : He.DefD := ⟨("law", none), "law", "law", defArgs s_law, defBody s_law, defScope s_law, [], []⟩
def fn : List He.DefD := ([d_is_mark, d_is_number_to, d_is_term, d_is_term_within, d_is_headed, d_is_parts, d_parts_of, d__law_box, d__law_take, d__law_folded, d__law_same, d__law_number, d__law_term, d__law_some_mark, d__law_any_term, d__law_is_below, d__law_is_a_mark, d__law_is_a_term, d__law_odd, d__law_bent] : List He.DefD) ++ ([d__law_marks_right, d__law_right, d_law] : List He.DefD)
def fa : List He.Fa := ([.glo "is_mark", .glo "is_number_to", .glo "is_term", .glo "is_term_within", .glo "is_headed", .glo "is_parts", .glo "parts_of", .glo "_law_box", .glo "_law_take", .glo "_law_folded", .glo "_law_same", .glo "_law_number", .glo "_law_term", .glo "_law_some_mark", .glo "_law_any_term", .glo "_law_is_below", .glo "_law_is_a_mark", .glo "_law_is_a_term", .glo "_law_odd", .glo "_law_bent"] : List He.Fa) ++ ([.glo "_law_marks_right", .glo "_law_right", .glo "law", .free "all", .free "isinstance", .free "str", .free "len", .free "int", .free "bool", .free "tuple", .free "abs", .free "divmod", .free "list", .free "enumerate", .free "zip", .free "range", .free "repr", .free "max", .str "SIGNS" "0123456789abcdefghijklmnopqrstuvwxyz #@();:", .int "BASE" 36] : List He.Fa) ++ ([.int "MARK_LENGTH" 6, .int "LARGEST" 1000002, .int "LAST_ARG" 3, .int "LAST_PLACE" 11, .int "MOST_PARTS" 4, .int "DEEPEST" 8, .glo "OPERATIONS", .glo "CALLS"] : List He.Fa)
def tabs : List He.Tab := [(fun K => He.ga K "OPERATIONS", ["add", "less", "times", "under", "if"])]
def ex (K : PySem.W.Frag) : Bool := He.valsB K (He.ga K "OPERATIONS") [("add", .int 2), ("less", .int 2), ("times", .int 2), ("under", .int 2), ("if", .int 3)] && He.tupB K "CALLS" [.str "call", .str "ring", .str "name"] && tupN K "CALLS"
abbrev R : PySem.W.OpenRow := PySem.W.OpenLaw.row PySem.Challenge.rw_contentnames_k01_marks_and_terms_or_not
abbrev hk : PySem.W.Hook := He.hookX 6 fa fn tabs [] ex
def ob (s : PySem.W.SharedT) : He.AlX := He.obsX 6 fa fn tabs [] ex (HandSHeadRun.getT s)
theorem ob_eq (s : PySem.W.SharedT) : ob s = hk.obs s.abs := He.obsX_eq (HandSHeadRun.getT_eq s)
def loose : List Str := (["SIGNS", "BASE", "MARK_LENGTH", "LARGEST", "LAST_ARG", "LAST_PLACE", "MOST_PARTS", "DEEPEST", "OPERATIONS", "CALLS", "is_mark", "is_number_to", "is_term", "is_term_within", "is_headed", "is_parts", "parts_of", "_law_box", "_law_take", "_law_folded"] : List Str) ++ (["_law_same", "_law_number", "_law_term", "_law_some_mark", "_law_any_term", "_law_is_below", "_law_is_a_mark", "_law_is_a_term", "_law_odd", "_law_bent", "_law_marks_right", "_law_right"] : List Str)
set_option maxHeartbeats 0 in
theorem run (w : World) : HandSHeadRun.RunEq R (PySem.W.view R.prog [34]) hk ob 6000 loose w :=
  PySem.W.byRow2 "special-get-raises" (P := fun w => HandSHeadRun.RunEq R (PySem.W.view R.prog [34]) hk ob 6000 loose w) (fun w os => by kernel_rfl) (fun w os => by kernel_rfl) w
/-! ### what the top has left, by names -/
structure Txt (K : PySem.W.Frag) (w : World) (mg : Str → Option Value) : Prop where
  D_is_mark : Def K mg "is_mark" s_is_mark ["thing"]
  D_is_number_to : Def K mg "is_number_to" s_is_number_to ["most", "thing"]
  D_is_term : Def K mg "is_term" s_is_term ["thing"]
  D_is_term_within : Def K mg "is_term_within" s_is_term_within ["deep", "thing"]
  D_is_headed : Def K mg "is_headed" s_is_headed ["thing"]
  D_is_parts : Def K mg "is_parts" s_is_parts ["thing"]
  D_parts_of : Def K mg "parts_of" s_parts_of ["term"]
  D__law_box : Def K mg "_law_box" s__law_box ["script", "k"]
  D__law_take : Def K mg "_law_take" s__law_take ["box", "size"]
  D__law_folded : Def K mg "_law_folded" s__law_folded ["script", "size"]
  D__law_same : Def K mg "_law_same" s__law_same ["found", "due"]
  D__law_number : Def K mg "_law_number" s__law_number ["box"]
  D__law_term : Def K mg "_law_term" s__law_term ["box", "many", "heads", "tall"]
  D__law_some_mark : Def K mg "_law_some_mark" s__law_some_mark ["box"]
  D__law_any_term : Def K mg "_law_any_term" s__law_any_term ["box"]
  D__law_is_below : Def K mg "_law_is_below" s__law_is_below ["thing", "many"]
  D__law_is_a_mark : Def K mg "_law_is_a_mark" s__law_is_a_mark ["thing"]
  D__law_is_a_term : Def K mg "_law_is_a_term" s__law_is_a_term ["thing", "deep"]
  D__law_odd : Def K mg "_law_odd" s__law_odd ["box", "part"]
  D__law_bent : Def K mg "_law_bent" s__law_bent ["box", "thing"]
  D__law_marks_right : Def K mg "_law_marks_right" s__law_marks_right ["box"]
  D__law_right : Def K mg "_law_right" s__law_right ["box"]
  D_law : Def K mg "law" s_law ["script"]
  z_all : mg "all" = none
  z_isinstance : mg "isinstance" = none
  z_str : mg "str" = none
  z_len : mg "len" = none
  z_int : mg "int" = none
  z_bool : mg "bool" = none
  z_tuple : mg "tuple" = none
  z_abs : mg "abs" = none
  z_divmod : mg "divmod" = none
  z_list : mg "list" = none
  z_enumerate : mg "enumerate" = none
  z_zip : mg "zip" = none
  z_range : mg "range" = none
  z_repr : mg "repr" = none
  z_max : mg "max" = none
  c_SIGNS : ∃ t, mg "SIGNS" = some (.str "0123456789abcdefghijklmnopqrstuvwxyz #@();:" t)
  c_BASE : ∃ t, mg "BASE" = some (.int 36 t)
  c_MARK_LENGTH : ∃ t, mg "MARK_LENGTH" = some (.int 6 t)
  c_LARGEST : ∃ t, mg "LARGEST" = some (.int 1000002 t)
  c_LAST_ARG : ∃ t, mg "LAST_ARG" = some (.int 3 t)
  c_LAST_PLACE : ∃ t, mg "LAST_PLACE" = some (.int 11 t)
  c_MOST_PARTS : ∃ t, mg "MOST_PARTS" = some (.int 4 t)
  c_DEEPEST : ∃ t, mg "DEEPEST" = some (.int 8 t)
  O : Ops K w mg
  g_CALLS : ∃ a, mg "CALLS" = some (.ref a) ∧ ∀ H, SqT K H a [.str "call", .str "ring", .str "name"]
  y_CALLS : ∃ a, mg "CALLS" = some (.ref a) ∧ ∃ o, K.lookup a = some o ∧ o.cls = .type "tuple" ∧ o.dict = none
theorem txt_of {K : PySem.W.Frag} {w : World} {mg : Str → Option Value} {h h0 : Heap} (X : K.In h) (G : h.Ns mainGlobals mg) (c : He.SaysX fa fn tabs [] ex w h0 K) : Txt K w mg := by
  have m : ex K = true := c.more
  unfold ex at m
  simp only [Bool.and_eq_true] at m
  obtain ⟨⟨x0, x1⟩, x2⟩ := m
  exact {
    D_is_mark := by
      obtain ⟨fd, F⟩ := c.t.d.def_ 0 (d := d_is_mark) rfl
      exact ⟨_, fd, F, He.glo_ok X G (c.t.d.fact 0 (f := .glo "is_mark") rfl), F.bindsN fun _ _ _ _ _ _ us hl => match us, hl with | [_], _ => rfl⟩
    D_is_number_to := by
      obtain ⟨fd, F⟩ := c.t.d.def_ 1 (d := d_is_number_to) rfl
      exact ⟨_, fd, F, He.glo_ok X G (c.t.d.fact 1 (f := .glo "is_number_to") rfl), F.bindsN fun _ _ _ _ _ _ us hl => match us, hl with | [_, _], _ => rfl⟩
    D_is_term := by
      obtain ⟨fd, F⟩ := c.t.d.def_ 2 (d := d_is_term) rfl
      exact ⟨_, fd, F, He.glo_ok X G (c.t.d.fact 2 (f := .glo "is_term") rfl), F.bindsN fun _ _ _ _ _ _ us hl => match us, hl with | [_], _ => rfl⟩
    D_is_term_within := by
      obtain ⟨fd, F⟩ := c.t.d.def_ 3 (d := d_is_term_within) rfl
      exact ⟨_, fd, F, He.glo_ok X G (c.t.d.fact 3 (f := .glo "is_term_within") rfl), F.bindsN fun _ _ _ _ _ _ us hl => match us, hl with | [_, _], _ => rfl⟩
    D_is_headed := by
      obtain ⟨fd, F⟩ := c.t.d.def_ 4 (d := d_is_headed) rfl
      exact ⟨_, fd, F, He.glo_ok X G (c.t.d.fact 4 (f := .glo "is_headed") rfl), F.bindsN fun _ _ _ _ _ _ us hl => match us, hl with | [_], _ => rfl⟩
    D_is_parts := by
      obtain ⟨fd, F⟩ := c.t.d.def_ 5 (d := d_is_parts) rfl
      exact ⟨_, fd, F, He.glo_ok X G (c.t.d.fact 5 (f := .glo "is_parts") rfl), F.bindsN fun _ _ _ _ _ _ us hl => match us, hl with | [_], _ => rfl⟩
    D_parts_of := by
      obtain ⟨fd, F⟩ := c.t.d.def_ 6 (d := d_parts_of) rfl
      exact ⟨_, fd, F, He.glo_ok X G (c.t.d.fact 6 (f := .glo "parts_of") rfl), F.bindsN fun _ _ _ _ _ _ us hl => match us, hl with | [_], _ => rfl⟩
    D__law_box := by
      obtain ⟨fd, F⟩ := c.t.d.def_ 7 (d := d__law_box) rfl
      exact ⟨_, fd, F, He.glo_ok X G (c.t.d.fact 7 (f := .glo "_law_box") rfl), F.bindsN fun _ _ _ _ _ _ us hl => match us, hl with | [_, _], _ => rfl⟩
    D__law_take := by
      obtain ⟨fd, F⟩ := c.t.d.def_ 8 (d := d__law_take) rfl
      exact ⟨_, fd, F, He.glo_ok X G (c.t.d.fact 8 (f := .glo "_law_take") rfl), F.bindsN fun _ _ _ _ _ _ us hl => match us, hl with | [_, _], _ => rfl⟩
    D__law_folded := by
      obtain ⟨fd, F⟩ := c.t.d.def_ 9 (d := d__law_folded) rfl
      exact ⟨_, fd, F, He.glo_ok X G (c.t.d.fact 9 (f := .glo "_law_folded") rfl), F.bindsN fun _ _ _ _ _ _ us hl => match us, hl with | [_, _], _ => rfl⟩
    D__law_same := by
      obtain ⟨fd, F⟩ := c.t.d.def_ 10 (d := d__law_same) rfl
      exact ⟨_, fd, F, He.glo_ok X G (c.t.d.fact 10 (f := .glo "_law_same") rfl), F.bindsN fun _ _ _ _ _ _ us hl => match us, hl with | [_, _], _ => rfl⟩
    D__law_number := by
      obtain ⟨fd, F⟩ := c.t.d.def_ 11 (d := d__law_number) rfl
      exact ⟨_, fd, F, He.glo_ok X G (c.t.d.fact 11 (f := .glo "_law_number") rfl), F.bindsN fun _ _ _ _ _ _ us hl => match us, hl with | [_], _ => rfl⟩
    D__law_term := by
      obtain ⟨fd, F⟩ := c.t.d.def_ 12 (d := d__law_term) rfl
      exact ⟨_, fd, F, He.glo_ok X G (c.t.d.fact 12 (f := .glo "_law_term") rfl), F.bindsN fun _ _ _ _ _ _ us hl => match us, hl with | [_, _, _, _], _ => rfl⟩
    D__law_some_mark := by
      obtain ⟨fd, F⟩ := c.t.d.def_ 13 (d := d__law_some_mark) rfl
      exact ⟨_, fd, F, He.glo_ok X G (c.t.d.fact 13 (f := .glo "_law_some_mark") rfl), F.bindsN fun _ _ _ _ _ _ us hl => match us, hl with | [_], _ => rfl⟩
    D__law_any_term := by
      obtain ⟨fd, F⟩ := c.t.d.def_ 14 (d := d__law_any_term) rfl
      exact ⟨_, fd, F, He.glo_ok X G (c.t.d.fact 14 (f := .glo "_law_any_term") rfl), F.bindsN fun _ _ _ _ _ _ us hl => match us, hl with | [_], _ => rfl⟩
    D__law_is_below := by
      obtain ⟨fd, F⟩ := c.t.d.def_ 15 (d := d__law_is_below) rfl
      exact ⟨_, fd, F, He.glo_ok X G (c.t.d.fact 15 (f := .glo "_law_is_below") rfl), F.bindsN fun _ _ _ _ _ _ us hl => match us, hl with | [_, _], _ => rfl⟩
    D__law_is_a_mark := by
      obtain ⟨fd, F⟩ := c.t.d.def_ 16 (d := d__law_is_a_mark) rfl
      exact ⟨_, fd, F, He.glo_ok X G (c.t.d.fact 16 (f := .glo "_law_is_a_mark") rfl), F.bindsN fun _ _ _ _ _ _ us hl => match us, hl with | [_], _ => rfl⟩
    D__law_is_a_term := by
      obtain ⟨fd, F⟩ := c.t.d.def_ 17 (d := d__law_is_a_term) rfl
      exact ⟨_, fd, F, He.glo_ok X G (c.t.d.fact 17 (f := .glo "_law_is_a_term") rfl), F.bindsN fun _ _ _ _ _ _ us hl => match us, hl with | [_, _], _ => rfl⟩
    D__law_odd := by
      obtain ⟨fd, F⟩ := c.t.d.def_ 18 (d := d__law_odd) rfl
      exact ⟨_, fd, F, He.glo_ok X G (c.t.d.fact 18 (f := .glo "_law_odd") rfl), F.bindsN fun _ _ _ _ _ _ us hl => match us, hl with | [_, _], _ => rfl⟩
    D__law_bent := by
      obtain ⟨fd, F⟩ := c.t.d.def_ 19 (d := d__law_bent) rfl
      exact ⟨_, fd, F, He.glo_ok X G (c.t.d.fact 19 (f := .glo "_law_bent") rfl), F.bindsN fun _ _ _ _ _ _ us hl => match us, hl with | [_, _], _ => rfl⟩
    D__law_marks_right := by
      obtain ⟨fd, F⟩ := c.t.d.def_ 20 (d := d__law_marks_right) rfl
      exact ⟨_, fd, F, He.glo_ok X G (c.t.d.fact 20 (f := .glo "_law_marks_right") rfl), F.bindsN fun _ _ _ _ _ _ us hl => match us, hl with | [_], _ => rfl⟩
    D__law_right := by
      obtain ⟨fd, F⟩ := c.t.d.def_ 21 (d := d__law_right) rfl
      exact ⟨_, fd, F, He.glo_ok X G (c.t.d.fact 21 (f := .glo "_law_right") rfl), F.bindsN fun _ _ _ _ _ _ us hl => match us, hl with | [_], _ => rfl⟩
    D_law := by
      obtain ⟨fd, F⟩ := c.t.d.def_ 22 (d := d_law) rfl
      exact ⟨_, fd, F, He.glo_ok X G (c.t.d.fact 22 (f := .glo "law") rfl), F.bindsN fun _ _ _ _ _ _ us hl => match us, hl with | [_], _ => rfl⟩
    z_all := He.free_ok X G (c.t.d.fact 23 (f := .free "all") rfl)
    z_isinstance := He.free_ok X G (c.t.d.fact 24 (f := .free "isinstance") rfl)
    z_str := He.free_ok X G (c.t.d.fact 25 (f := .free "str") rfl)
    z_len := He.free_ok X G (c.t.d.fact 26 (f := .free "len") rfl)
    z_int := He.free_ok X G (c.t.d.fact 27 (f := .free "int") rfl)
    z_bool := He.free_ok X G (c.t.d.fact 28 (f := .free "bool") rfl)
    z_tuple := He.free_ok X G (c.t.d.fact 29 (f := .free "tuple") rfl)
    z_abs := He.free_ok X G (c.t.d.fact 30 (f := .free "abs") rfl)
    z_divmod := He.free_ok X G (c.t.d.fact 31 (f := .free "divmod") rfl)
    z_list := He.free_ok X G (c.t.d.fact 32 (f := .free "list") rfl)
    z_enumerate := He.free_ok X G (c.t.d.fact 33 (f := .free "enumerate") rfl)
    z_zip := He.free_ok X G (c.t.d.fact 34 (f := .free "zip") rfl)
    z_range := He.free_ok X G (c.t.d.fact 35 (f := .free "range") rfl)
    z_repr := He.free_ok X G (c.t.d.fact 36 (f := .free "repr") rfl)
    z_max := He.free_ok X G (c.t.d.fact 37 (f := .free "max") rfl)
    c_SIGNS := He.str_ok X G (c.t.d.fact 38 (f := .str "SIGNS" "0123456789abcdefghijklmnopqrstuvwxyz #@();:") rfl)
    c_BASE := He.int_ok X G (c.t.d.fact 39 (f := .int "BASE" 36) rfl)
    c_MARK_LENGTH := He.int_ok X G (c.t.d.fact 40 (f := .int "MARK_LENGTH" 6) rfl)
    c_LARGEST := He.int_ok X G (c.t.d.fact 41 (f := .int "LARGEST" 1000002) rfl)
    c_LAST_ARG := He.int_ok X G (c.t.d.fact 42 (f := .int "LAST_ARG" 3) rfl)
    c_LAST_PLACE := He.int_ok X G (c.t.d.fact 43 (f := .int "LAST_PLACE" 11) rfl)
    c_MOST_PARTS := He.int_ok X G (c.t.d.fact 44 (f := .int "MOST_PARTS" 4) rfl)
    c_DEEPEST := He.int_ok X G (c.t.d.fact 45 (f := .int "DEEPEST" 8) rfl)
    O := by
      obtain ⟨es, n, KD⟩ := c.t.tab 0 (t := (fun K => He.ga K "OPERATIONS", opWords)) rfl
      have e1 : tabs.map (fun t => He.dicW K (t.1 K)) = tabs.map fun t => some (He.keysIn w.params t.2) := congrArg (fun z : He.AlT => z.2) c.t
      have e2 : He.dicW K (He.ga K "OPERATIONS") = some (He.keysIn w.params opWords) := congrArg (fun l => l.getD 0 none) e1
      refine ⟨_, es, n, He.glo_ok X G (c.t.d.fact 46 (f := .glo "OPERATIONS") rfl), KD, fun z => isSome_mem e2 z, fun o => ?_⟩
      cases o
      · exact He.valsB_ok x0 (q := ("add", .int 2)) (by simp)
      · exact He.valsB_ok x0 (q := ("less", .int 2)) (by simp)
      · exact He.valsB_ok x0 (q := ("times", .int 2)) (by simp)
      · exact He.valsB_ok x0 (q := ("under", .int 2)) (by simp)
      · exact He.valsB_ok x0 (q := ("if", .int 3)) (by simp)
    g_CALLS := ⟨_, He.glo_ok X G (c.t.d.fact 47 (f := .glo "CALLS") rfl), fun H => He.tupB_ok (vs := [.str "call", .str "ring", .str "name"]) x1 H⟩
    y_CALLS := ⟨_, He.glo_ok X G (c.t.d.fact 47 (f := .glo "CALLS") rfl), tupN_ok x2⟩
  }

end V


set_option Elab.async false
set_option linter.all false
set_option maxRecDepth 100000
set_option maxHeartbeats 400000
namespace V
open PySem PySem.Spec PyProof.Rows L2 Evl TL NumText
def spLaw (K : PySem.W.Frag) : Sp := fun vs H Q _ => ∃ (a : Addr) (ns : List Int), vs = [.ref a] ∧ SqL K H a (ns.map V.int) ∧ ns.length ≤ 63 ∧ ∀ H' : Hp, Q (.bl true) H'
section
variable {P : Program} {w : World} {K : PySem.W.Frag} {mg : Str → Option Value} {base : Heap}
theorem ok_law (T : Txt K w mg) {fL : Addr} {fd : FuncData} (F : FunD K "law" "law" (defArgs s_law) (defBody s_law) (defScope s_law) [] [] fL fd) (G__law_folded : Cal P w K mg base 1 "_law_folded" ["script", "size"] (spFold K))
    (G__law_box : Cal P w K mg base 1 "_law_box" ["script", "k"] (spBox K)) (G__law_right : CalG P w K mg base 26 "_law_right" ["box"] spR1) : FnG P w K mg base 27 fL fd ["script"] (spLaw K) := by
  refine FunD.okG F sc_law (fun vs H Q E h => ?_) (fun cdv A outer s H vs Q E hr hG h => ?_)
  · obtain ⟨a, ns, rfl, _⟩ := h
    rfl
  obtain ⟨a, ns, rfl, hS, hl, q⟩ := h
  have body : ∃ t, PSs (cxOf CX0 P w K mg base N_law "law" (defScope s_law) fL cdv A outer s H E).nox (defBody s_law) t ∧ t { nx := fun _ H' => Q .non H', rt := Q } (start N_law [.ref a]) H := by
    refine ⟨_, (pss_cons (ps_set (i := 1) sc_law.nd rfl (.inl rfl) (pe_fn G__law_folded hr (by omega) (pa_cons (pv 0) (pa_cons pe_int pa_nil))))
  (pss_cons (ps_for PassesOwn.never rfl (pi_range1 rfl T.z_range (pa_cons (pe_bi (call_max2 rfl) T.z_max (pa_cons pe_int (pa_cons (pe_bi call_len_seq T.z_len (pa_cons (pv 1) pa_nil)) pa_nil))) pa_nil)) (pg_name (i := 2) sc_law.nd rfl (.inl rfl))
    (pss_cons (ps_set (i := 3) sc_law.nd rfl (.inr rfl) (pe_fn G__law_box hr (by omega) (pa_cons (pv 1) (pa_cons (pv 2) pa_nil))))
    (pss_one (ps_if (pt_not (pt_val (pe_bi (cr_all rfl) T.z_all (pa_cons (pe_lc (own := [("turn", 4)]) (g := (gName 4)) (tt := tYes) rfl sc_law.nd (pi_range1 rfl T.z_range (pa_cons pe_int pa_nil)) (blkOk_by (N := N_law) (sc := defScope s_law) (by decide +kernel)) (fun _ _ _ _ _ => (pg_name (i := 4) sc_law.nd rfl (.inl rfl))) (fun _ _ _ _ _ => pts_nil) (fun _ _ _ _ _ => (pe_fnG G__law_right hG hr (by omega) (pa_cons (pv 3) pa_nil)))) pa_nil))))
      (pss_one (ps_ret pe_bl))
      pss_nil))))
  (pss_one (ps_ret pe_bl)))), ?_⟩
    refine ⟨_, rfl, a, ns, 3, rfl, hS, hl, by decide, by decide, fun H1 p ms hp e1 h1 hm => ?_⟩
    refine ⟨_, rfl, p, _, rfl, .inl (SqL.of h1), ?_⟩
    have hm2 : ms.length ≤ 3 := hm
    have lm : (ms.map V.int).length = ms.length := List.length_map ..
    refine ⟨_, _, rfl, _, rfl, ?_, ?_, ?_⟩
    · split <;> omega
    · split <;> omega
    have lj : (if (((ms.map V.int).length : Nat) : Int) > 1 then (((ms.map V.int).length : Nat) : Int) else 1).toNat ≤ 3 := by
      split <;> omega
    generalize (if (((ms.map V.int).length : Nat) : Int) > 1 then (((ms.map V.int).length : Nat) : Int) else 1).toNat = m at lj
    refine for_range (fun i σ H2 => (∃ y2 y3 y4, σ = [some (.ref a), some (.ref p), y2, y3, y4]) ∧ H2 p = some (.lst (ms.map V.int))) ⟨⟨none, none, none, rfl⟩, h1⟩ ?_ ?_
    · rintro i σ H2 hi ⟨⟨y2, y3, y4, rfl⟩, h2⟩
      refine ⟨_, rfl, _, rfl, p, ms, i, ?_, SqL.of h2, by omega, fun H3 b hb e3 hB => ?_⟩
      · rw [Int.zero_add]
      have hpb : p ≠ b := fun z => by
        rw [z, hb] at h2
        cases h2
      refine ⟨6, rfl, by decide, by decide, fun Dl hD => ?_⟩
      have hbl := hB.lst
      have hDb : Dl ≠ b := fun z => by
        obtain ⟨xs, hx⟩ := hbl
        rw [z, hx] at hD
        cases hD
      refine lc_range (lo := 0) (n := 6) (fun j H4 => But b H3 H4 ∧ Box H4 b (1099511627776 - 2000 * j) ∧ H4 Dl = some (.lst ((List.replicate j true).map V.bl))) ⟨But.of (Ex.new hD), hB.ex (Ex.new hD), upd_same⟩ ?_ ?_
      · rintro j H4 hj ⟨u4, B4, d4⟩
        refine ⟨rfl, yes ⟨_, rfl, b, 1099511627776 - 2000 * (j + 1), rfl, ?_, fun H5 u5 B5 => ⟨_, u5 Dl _ hDb d4, ?_, ?_, ?_, ?_⟩⟩⟩
        · rw [show 1099511627776 - 2000 * (j + 1) + 2000 = 1099511627776 - 2000 * j by omega]
          exact B4
        · rw [List.length_map, List.length_replicate]
          exact small1000 (by omega)
        · intro c o hc ho
          have n : c ≠ Dl := fun z => by
            rw [z, hD] at ho
            cases ho
          rw [upd_ne n]
          exact u5 c o hc (u4 c o hc ho)
        · obtain ⟨x, y, z, q1, q2⟩ := B5
          exact ⟨x, y, z, by rw [upd_ne hDb.symm]; exact q1, q2⟩
        · rw [upd_same]
          have e : List.replicate (j + 1) true = List.replicate j true ++ [true] := List.replicate_succ'
          rw [e, List.map_append]
          rfl
      · rintro H4 ⟨u4, B4, d4⟩
        refine ⟨Dl, _, rfl, SqL.of d4, _, rfl, iteF ⟨⟨_, _, _, rfl⟩, u4 p _ hpb (e3 p _ h2)⟩⟩
    · rintro σ H2 ⟨⟨y2, y3, y4, rfl⟩, h2⟩
      exact q H2
  obtain ⟨t, b1, b2⟩ := body
  exact ⟨t, b1.nox, b2⟩
end
end V


set_option Elab.async false
set_option linter.all false
set_option maxRecDepth 100000
set_option maxHeartbeats 4000000
namespace V
open PySem PySem.Spec PyProof.Rows L2 Evl TL NumText
section
variable {P : Program} {w : World} {K : PySem.W.Frag} {mg : Str → Option Value} {base : Heap}
theorem ok_right (T : Txt K w mg) (G__law_take : Cal P w K mg base 1 "_law_take" ["box", "size"] spTake) (G__law_any_term : Cal P w K mg base 6 "_law_any_term" ["box"] spAny) (G_is_term : Cal P w K mg base 12 "is_term" ["thing"] (spTest Small (isTm 8) K))
    (G__law_is_a_term : Cal P w K mg base 10 "_law_is_a_term" ["thing", "deep"] (spLawTm K 8)) (G__law_marks_right : Cal P w K mg base 3 "_law_marks_right" ["box"] (spMarks K)) (G__law_bent : Cal P w K mg base 25 "_law_bent" ["box", "thing"] (spBent K 22))
    (G__law_same : Cal P w K mg base 1 "_law_same" ["found", "due"] (fun vs H Q _ => ∃ x y : Bool, vs = [.bl x, .bl y] ∧ ∀ (H' : Hp), Ex H H' → Q (.bl (decide (x = y))) H')) : CalG P w K mg base 26 "_law_right" ["box"] spR1 := by
  refine T.D__law_right.calG sc__law_right (fun vs H Q E h => ?_) (fun f cdv A outer s H vs Q E hr hG h => ?_)
  · obtain ⟨b, n, rfl, _⟩ := h
    rfl
  obtain ⟨b, n, rfl, hB, q⟩ := h
  refine ⟨_, (pss_cons (ps_set (i := 1) sc__law_right.nd rfl (.inl rfl) (pe_fn G__law_any_term hr (by omega) (pa_cons (pv 0) pa_nil)))
  (pss_cons (ps_if (PW.pt (pw_or (pt_cmpR op_notBl (pe_fn G_is_term hr (by omega) (pa_cons (pv 1) pa_nil)) pe_bl (nomark _)) (pw_or (pt_not (pt_val (pe_fn G__law_is_a_term hr (by omega) (pa_cons (pv 1) (pa_cons pe_int pa_nil))))) (pw_or1 (pt_not (pt_val (pe_fn G__law_marks_right hr (by omega) (pa_cons (pv 0) pa_nil))))))))
    (pss_one (ps_ret pe_bl))
    pss_nil)
  (pss_cons (ps_for PassesOwn.never rfl (pi_range1 rfl T.z_range (pa_cons pe_int pa_nil)) (pg_name (i := 2) sc__law_right.nd rfl (.inl rfl))
    (pss_cons (ps_set (i := 3) sc__law_right.nd rfl (.inl rfl) (pe_fn G__law_bent hr (by omega) (pa_cons (pv 0) (pa_cons (pv 1) pa_nil))))
    (pss_cons (ps_if (pt_cmpR op_eq (pe_fn G__law_take hr (by omega) (pa_cons (pv 0) (pa_cons pe_int pa_nil))) pe_int (nomark _))
      (pss_one (ps_set (i := 3) sc__law_right.nd rfl (.inl rfl) (pe_fn G__law_bent hr (by omega) (pa_cons (pv 0) (pa_cons (pv 3) pa_nil)))))
      pss_nil)
    (pss_cons (ps_par (i := 4) (j := 5) rfl sc__law_right.nd rfl rfl (by decide) rfl rfl (pa_cons (pe_bi (cr_repr hG (room_u hr)) T.z_repr (pa_cons (pv 3) pa_nil)) (pa_cons (pe_fn G_is_term hr (by omega) (pa_cons (pv 3) pa_nil)) pa_nil)) rfl)
    (pss_one (ps_if (PW.pt (pw_or (pt_not (pt_val (pe_fn G__law_same hr (by omega) (pa_cons (pv 5) (pa_cons (pe_fn G__law_is_a_term hr (by omega) (pa_cons (pv 3) (pa_cons pe_int pa_nil))) pa_nil))))) (pw_or1 (pt_cmpR op_ne (pe_bi (cr_repr hG (room_u hr)) T.z_repr (pa_cons (pv 3) pa_nil)) (pv 4) (nomark _)))))
      (pss_one (ps_ret pe_bl))
      pss_nil))))))
  (pss_cons (ps_for PassesOwn.never rfl (pi_range1 rfl T.z_range (pa_cons pe_int pa_nil)) (pg_name (i := 2) sc__law_right.nd rfl (.inl rfl))
    (pss_cons (ps_if (pt_not (pt_val (pe_fn G__law_is_a_term hr (by omega) (pa_cons (pv 1) (pa_cons pe_int pa_nil)))))
      (pss_one (ps_ret (pe_cmpR op_gt (pv 2) pe_int (nomark _))))
      pss_nil)
    (pss_cons (ps_set (i := 1) sc__law_right.nd rfl (.inl rfl) (pe_ix (r := rIxL K) ix_list (pe_lst (pa_cons (pe_tup (pa_cons pe_str (pa_cons pe_str (pa_cons (pe_tup (pa_cons (pv 1) pa_nil)) pa_nil)))) (pa_cons (pe_tup (pa_cons pe_str (pa_cons (pe_tup (pa_cons pe_str (pa_cons pe_int pa_nil))) (pa_cons (pv 1) pa_nil)))) (pa_cons (pe_tup (pa_cons pe_str (pa_cons pe_int (pa_cons (pe_tup (pa_cons (pe_tup (pa_cons pe_str (pa_cons pe_int pa_nil))) (pa_cons (pv 1) pa_nil))) pa_nil)))) pa_nil)))) (pe_op op_mod (pv 2) pe_int) (fun _ _ => rfl)))
    (pss_one (ps_if (pt_not (pt_val (pe_fn G__law_same hr (by omega) (pa_cons (pe_fn G_is_term hr (by omega) (pa_cons (pv 1) pa_nil)) (pa_cons (pe_fn G__law_is_a_term hr (by omega) (pa_cons (pv 1) (pa_cons pe_int pa_nil))) pa_nil)))))
      (pss_one (ps_ret pe_bl))
      pss_nil)))))
  (pss_one (ps_ret (pe_not (pe_fn G__law_is_a_term hr (by omega) (pa_cons (pv 1) (pa_cons pe_int pa_nil)))))))))), ?_⟩
  let A0 : L2.St → Hp → Prop := fun σ H' => σ = [some (.ref b), none, none, none, none, none] ∧ H' = H
  let A1 : L2.St → Hp → Prop := fun σ H' => ∃ (v : V) (t : Tm), σ = [some (.ref b), some v, none, none, none, none] ∧ But b H H' ∧ Box H' b (n + 1600) ∧ TmAt H' v t ∧ t.Ok 11 ∧ t.deep ≤ 8 ∧ t.size ≤ 50
  let A2 : L2.St → Hp → Prop := fun σ H' => ∃ (v : V) (t : Tm), σ = [some (.ref b), some v, none, none, none, none] ∧ But b H H' ∧ Box H' b (n + 1590) ∧ TmAt H' v t ∧ t.Ok 11 ∧ t.deep ≤ 8 ∧ t.size ≤ 50
  let A3 : L2.St → Hp → Prop := fun σ H' => ∃ (v : V) (t : Tm) (y2 y3 y4 y5 : Option V), σ = [some (.ref b), some v, y2, y3, y4, y5] ∧ But b H H' ∧ Box H' b n ∧ TmAt H' v t ∧ t.Ok 11 ∧ t.deep ≤ 8 ∧ t.size ≤ 50
  let A4 : L2.St → Hp → Prop := fun σ H' => ∃ (v : V) (t : Tm) (y2 y3 y4 y5 : Option V), σ = [some (.ref b), some v, y2, y3, y4, y5] ∧ But b H H' ∧ Box H' b n ∧ Grw H' v t 8
  refine (Hs.fin (A := A0) (B := A1) ?_ (Hs.fin (B := A2) ?_ (Hs.fin (B := A3) ?_ (Hr.fin (B := A4) ?_ (Q := Q) ?_)))) _ _ H ⟨rfl, rfl⟩ fun v H' h => h
  · rintro D σ H1 ⟨rfl, rfl⟩ kk
    exact ⟨_, rfl, b, n + 1600, rfl, hB, fun H2 v t u2 B2 g o d z => kk _ _ ⟨v, t, rfl, u2, B2, g, o, d, z⟩⟩
  · rintro D σ H1 ⟨v, t, rfl, u1, B1, g, o, d, z⟩ kk
    have k8 : isTm 8 t.py = true := py_isTm 8 t o d
    refine ⟨_, rfl, v, t.py, rfl, g.dp, py_small t o, fun H2 e2 => ?_⟩
    rw [k8]
    refine ⟨_, _, rfl, rfl, _, rfl, ?_⟩
    rw [decide_eq_true rfl]
    refine iteF ⟨_, rfl, 8, v, t.py, rfl, Nat.le_refl _, (g.ex e2).dp, py_okd o (by omega) (by omega), fun H3 e3 => ?_⟩
    rw [k8]
    refine ⟨_, rfl, iteF ⟨_, rfl, b, n + 1590, rfl, (B1.ex e2).ex e3, fun H4 u4 B4 => ⟨_, rfl, iteF (kk _ _ ⟨v, t, rfl, u1.trans ((But.of (e2.trans e3)).trans u4), B4, (g.ex (e2.trans e3)).tu ((B1.ex (e2.trans e3)).tu u4), o, d, z⟩)⟩⟩⟩
  · rintro D σ H1 ⟨v, t, rfl, u1, B1, g, o, d, z⟩ kk
    have hl := (py_lay t o).2
    have hw := py_wt t
    refine ⟨8, rfl, by decide, by decide, ?_⟩
    refine for_range (n := 8) (fun i σ H4 => ∃ y2 y3 y4 y5, σ = [some (.ref b), some v, y2, y3, y4, y5] ∧ But b H H4 ∧ Box H4 b (n + 1590 - 190 * i) ∧ TmAt H4 v t)
      ⟨none, none, none, none, rfl, u1, B1, g⟩ ?_ ?_
    · rintro i σ H4 hi ⟨y2, y3, y4, y5, rfl, u4, B4, g4⟩
      obtain ⟨bx, hbx⟩ := B4.lst
      show tSeq _ _ _ [some (.ref b), some v, some (.int (0 + (i : Int))), y3, y4, y5] H4
      refine seqs (A := fun σ' H' => σ' = [some (.ref b), some v, some (.int (0 + (i : Int))), y3, y4, y5] ∧ H' = H4)
        (B := fun σ' H' => ∃ v5 d5, σ' = [some (.ref b), some v, some (.int (0 + (i : Int))), some v5, y4, y5] ∧ But b H4 H' ∧ Box H' b (n + 1590 - 190 * (i + 1) + 94) ∧ Dp K (wo b H') v5 d5 ∧ Gr 0 t.py d5) ?_ ⟨rfl, rfl⟩ ?_
      · rintro D2 σ2 H6 ⟨rfl, rfl⟩ k2
        exact ⟨_, rfl, _, rfl, b, n + 1590 - 190 * (i + 1) + 94, 0, v, t.py, rfl, by decide, by omega, by omega, B4.less (by omega), (TmAt.wo hbx g4).dp, py_fin t o, by omega, fun H5 v5 d5 u5 B5 dd5 g5 => k2 _ _ ⟨v5, d5, rfl, u5, B5, dd5, g5⟩⟩
      rintro σ5 H5 ⟨v5, d5, rfl, u5, B5, dd5, g5⟩
      have g5d := g5.dep
      have g5w := g5.wt
      have f5 := g5.fin
      have tm5 := g4.tu (B4.tu u5)
      refine seqs (A := fun σ' H' => σ' = [some (.ref b), some v, some (.int (0 + (i : Int))), some v5, y4, y5] ∧ H' = H5)
        (B := fun σ' H' => ∃ v6 d6, σ' = [some (.ref b), some v, some (.int (0 + (i : Int))), some v6, y4, y5] ∧ But b H5 H' ∧ Box H' b (n + 1590 - 190 * (i + 1)) ∧ Dp K (wo b H') v6 d6 ∧ FinD 2 d6 ∧ d6.depth ≤ 24 ∧ wtD d6 ≤ 900) ?_ ⟨rfl, rfl⟩ ?_
      · rintro D2 σ2 H6 ⟨rfl, rfl⟩ k2
        refine ⟨_, rfl, b, 3, n + 1590 - 190 * (i + 1) + 93, rfl, by decide, by decide, B5, fun H7 r u7 B7 r0 r1 => ⟨rfl, _, rfl, ?_⟩⟩
        by_cases c0 : r = 0
        · rw [decide_eq_true (show V.int r = V.int 0 by rw [c0])]
          refine iteT ⟨_, rfl, _, rfl, b, n + 1590 - 190 * (i + 1), 1, v5, d5, rfl, by decide, by omega, by omega, B7.less (by omega), dp_ex (wo_but u7) dd5, f5, by omega, fun H8 v8 d8 u8 B8 dd8 g8 => ?_⟩
          have g8d := g8.dep
          have g8w := g8.wt
          exact k2 _ _ ⟨v8, d8, rfl, u7.trans u8, B8, dd8, g8.fin, by omega, by omega⟩
        · rw [decide_eq_false (show ¬ V.int r = V.int 0 from fun z => c0 (V.int.inj z))]
          exact iteF (k2 _ _ ⟨v5, d5, rfl, u7, B7.less (by omega), dp_ex (wo_but u7) dd5, f5.up (by decide), by omega, by omega⟩)
      · rintro σ2 H6 ⟨v6, d6, rfl, u6, B6, dd6, f6, l6, w6⟩
        obtain ⟨r1, r2, r3, r4⟩ := f6.show (by decide) (by omega) (by omega)
        have dp6 := dp_ex (wo_le (b := b)) dd6
        have sm6 := f6.small (by decide) (by omega)
        have ok6 : Okd d6 := ⟨f6.up (by decide), by omega, by omega⟩
        refine ⟨_, rfl, v6, d6, rfl, dp6, r1, r2, r3, r4, _, rfl, v6, d6, rfl, dp6, sm6, fun H7 e7 => ⟨_, _, rfl, ?_⟩⟩
        refine ⟨_, rfl, _, rfl, 8, v6, d6, rfl, Nat.le_refl _, dp_ex e7 dp6, ok6, fun H8 e8 => ⟨isTm 8 d6, isTm 8 d6, rfl, fun H9 e9 => ?_⟩⟩
        rw [decide_eq_true rfl]
        have E := e7.trans (e8.trans e9)
        refine ⟨_, rfl, iteF ⟨_, rfl, v6, d6, rfl, dp_ex E dp6, r1, r2, r3, r4, _, rfl, rfl, _, rfl, ?_⟩⟩
        rw [decide_eq_true rfl]
        exact iteF ⟨_, _, _, _, rfl, u4.trans (u5.trans (u6.trans (But.of E))), B6.ex E, (tm5.tu (B5.tu u6)).ex E⟩
    · rintro σ H4 ⟨y2, y3, y4, y5, rfl, u4, B4, g4⟩
      exact kk _ _ ⟨v, t, y2, y3, y4, y5, rfl, u4, B4.less (by omega), g4, o, d, z⟩
  · rintro D σ H1 ⟨v, t, y2, y3, y4, y5, rfl, u1, B1, g, o, d, z⟩ kk rr
    refine ⟨8, rfl, by decide, by decide, ?_⟩
    refine for_range (n := 8) (fun i σ H4 => ∃ v t y2 y3 y4 y5, σ = [some (.ref b), some v, y2, y3, y4, y5] ∧ But b H H4 ∧ Box H4 b n ∧ Grw H4 v t i)
      ⟨v, t, y2, y3, y4, y5, rfl, u1, B1, g, o, deep_pos t, d, z⟩ ?_ ?_
    · rintro i σ H4 hi ⟨v, t, y2, y3, y4, y5, rfl, u4, B4, gr⟩
      have okt := py_okd gr.ok (by have := gr.hi; omega) (by have := gr.sz; omega)
      obtain ⟨bx, hbx⟩ := B4.lst
      have lo := gr.lo
      have hi2 := gr.hi
      have sz2 := gr.sz
      show tSeq _ _ _ [some (.ref b), some v, some (.int (0 + (i : Int))), y3, y4, y5] H4
      refine seqr (Q := Q) (A := fun σ' H' => σ' = [some (.ref b), some v, some (.int (0 + (i : Int))), y3, y4, y5] ∧ H' = H4)
        (B := fun σ' H' => σ' = [some (.ref b), some v, some (.int (0 + (i : Int))), y3, y4, y5] ∧ Ex H4 H') ?_ ⟨rfl, rfl⟩ rr ?_
      · rintro D2 σ2 H6 ⟨rfl, rfl⟩ k2 r2
        refine ⟨_, rfl, 8, v, t.py, rfl, Nat.le_refl _, gr.at_.dp, okt, fun H5 e5 => ⟨_, rfl, ?_⟩⟩
        cases c : isTm 8 t.py with
        | true => exact iteF (k2 _ _ ⟨rfl, e5⟩)
        | false =>
          have i0 : 0 < i := Nat.pos_of_ne_zero fun z => by
            have := py_isTm 8 t gr.ok (by omega)
            rw [c] at this
            cases this
          have q1 := q H5 (u4.trans (But.of e5)) (B4.ex e5)
          refine iteT ⟨_, rfl, _, _, rfl, rfl, r2 _ _ ?_⟩
          show Q (.bl (decide (0 < 0 + (i : Int)))) H5
          rw [decide_eq_true (show 0 < 0 + (i : Int) by omega)]
          exact q1
      rintro σ5 H5 ⟨rfl, e5⟩
      refine seqs (A := fun σ' H' => σ' = [some (.ref b), some v, some (.int (0 + (i : Int))), y3, y4, y5] ∧ H' = H5)
        (B := fun σ' H' => ∃ v6 t6, σ' = [some (.ref b), some v6, some (.int (0 + (i : Int))), y3, y4, y5] ∧ Ex H5 H' ∧ Grw H' v6 t6 (i + 1)) ?_ ⟨rfl, rfl⟩ ?_
      · rintro D2 σ2 H6 ⟨rfl, rfl⟩ k2
        have g5 := gr.at_.ex e5
        have yv : Yl (tVar 1) [some (.ref b), some v, some (.int (0 + (i : Int))), y3, y4, y5] H6 (TmR t) := yl_varT g5
        have yc : Yl (tTup (tCons (tC (.str "call")) (tCons (tC (.str "0a0a0a")) (tCons (tTup (tCons (tVar 1) tNil)) tNil)))) [some (.ref b), some v, some (.int (0 + (i : Int))), y3, y4, y5] H6 (TmR (.node (.call "0a0a0a") [t])) := yl_call "0a0a0a" (ya_t yv ya_tnil)
        have ya : Yl (tTup (tCons (tC (.str "add")) (tCons (tTup (tCons (tC (.str "num")) (tCons (tC (.int 1)) tNil))) (tCons (tVar 1) tNil)))) [some (.ref b), some v, some (.int (0 + (i : Int))), y3, y4, y5] H6 (TmR (.node (.op .add) [.num 1, t])) := yl_op .add (ya_t (yl_num (n := 1) (yl_c _)) (ya_t yv ya_tnil))
        have yr : Yl (tTup (tCons (tC (.str "ring")) (tCons (tC (.int 3)) (tCons (tTup (tCons (tTup (tCons (tC (.str "arg")) (tCons (tC (.int 0)) tNil))) (tCons (tVar 1) tNil))) tNil)))) [some (.ref b), some v, some (.int (0 + (i : Int))), y3, y4, y5] H6 (TmR (.node (.ring 3) [.arg 0, t])) := yl_ring 3 (ya_t (yl_arg (n := 0) (yl_c _)) (ya_t yv ya_tnil))
        refine asgE (show tLst _ _ _ _ from ?_)
        refine y_lst (R := TmsR [.node (.call "0a0a0a") [t], .node (.op .add) [.num 1, t], .node (.ring 3) [.arg 0, t]]) (ya_t yc (ya_t ya (ya_t yr ya_tnil))) fun H7 us e7 r7 => ⟨by rw [TmsAt.length r7]; exact sz 3, fun p hp => ?_⟩
        have f := Ex.new (o := .lst us) hp
        have r8 : TmsAt (upd H7 p (.lst us)) us [.node (.call "0a0a0a") [t], .node (.op .add) [.num 1, t], .node (.ring 3) [.arg 0, t]] := TmsAt.ex r7 f
        generalize hH : upd H7 p (.lst us) = H8 at f r8 ⊢
        have h8 : H8 p = some (.lst us) := by rw [← hH, upd_same]
        have E := e7.trans f
        have fin : ∀ (x : V) (t' : Tm), TmAt H8 x t' → t'.Ok 11 → t'.deep = t.deep + 1 → t'.size ≤ t.size + 3 → D2.nx [some (.ref b), some x, some (.int (0 + (i : Int))), y3, y4, y5] H8 := fun x t' h1 h2 h3 h4 =>
          k2 _ _ ⟨x, t', rfl, E, h1, h2, by omega, by omega, by omega⟩
        have dp := deep_pos t
        have ok1 := ok_call1 gr.ok
        have ok2 := ok_add1 gr.ok
        have ok3 := ok_ring1 gr.ok
        refine ⟨_, rfl, _, _, rfl, rfl, (show (0 : Int) < 3 by decide), ?_⟩
        have at3 : ∃ (x : V) (t' : Tm), atI us ((0 + (i : Int)) % 3) = some x ∧ TmAt H8 x t' ∧ t'.Ok 11 ∧ t'.deep = t.deep + 1 ∧ t'.size ≤ t.size + 3 := by
          rcases r8 with _ | ⟨g1, r9⟩
          rcases r9 with _ | ⟨g2, r10⟩
          rcases r10 with _ | ⟨g3, r11⟩
          have w3 : ((0 + (i : Int)) % 3) = 0 ∨ ((0 + (i : Int)) % 3) = 1 ∨ ((0 + (i : Int)) % 3) = 2 := by omega
          rcases w3 with e | e | e
          · exact ⟨_, _, by rw [e]; exact at0, g1, ok1, by show 1 + max t.deep 0 = _; omega, by show 1 + (t.size + 0) ≤ _; omega⟩
          · exact ⟨_, _, by rw [e]; exact at1, g2, ok2, by show 1 + max 1 (max t.deep 0) = _; omega, by show 1 + (1 + (t.size + 0)) ≤ _; omega⟩
          · exact ⟨_, _, by rw [e]; exact at2, g3, ok3, by show 1 + max 1 (max t.deep 0) = _; omega, by show 1 + (1 + (t.size + 0)) ≤ _; omega⟩
        obtain ⟨x, t', a1, a2, a3, a4, a5⟩ := at3
        exact ⟨p, us, _, x, rfl, rfl, SqL.of h8, a1, fin x t' a2 a3 a4 a5⟩
      rintro σ6 H6 ⟨v6, t6, rfl, e6, gr6⟩
      have ok6 := py_okd gr6.ok (by have := gr6.hi; omega) (by have := gr6.sz; omega)
      refine ⟨_, rfl, v6, t6.py, rfl, gr6.at_.dp, py_small t6 gr6.ok, fun H7 e7 => ⟨_, rfl, 8, v6, t6.py, rfl, Nat.le_refl _, (gr6.at_.ex e7).dp, ok6, fun H8 e8 => ⟨isTm 8 t6.py, isTm 8 t6.py, rfl, fun H9 e9 => ?_⟩⟩⟩
      rw [decide_eq_true rfl]
      have E := e7.trans (e8.trans e9)
      exact ⟨_, rfl, iteF ⟨v6, t6, _, _, _, _, rfl, u4.trans (But.of (e5.trans (e6.trans E))), B4.ex (e5.trans (e6.trans E)), gr6.ex E⟩⟩
    · rintro σ H4 ⟨v, t, y2, y3, y4, y5, rfl, u4, B4, gr⟩
      exact kk _ _ ⟨v, t, y2, y3, y4, y5, rfl, u4, B4, gr⟩
  · rintro D σ H1 ⟨v, t, y2, y3, y4, y5, rfl, u1, B1, gr⟩ kk
    have okt := py_okd gr.ok (by have := gr.hi; omega) (by have := gr.sz; omega)
    refine ⟨_, rfl, 8, v, t.py, rfl, Nat.le_refl _, gr.at_.dp, okt, fun H2 e2 => ⟨_, rfl, ?_⟩⟩
    have no : isTm 8 t.py = false := by
      cases c : isTm 8 t.py with
      | false => rfl
      | true => have := isTm_deep 8 t c; have := gr.lo; omega
    rw [no]
    exact kk _ _ (q H2 (u1.trans (But.of e2)) (B1.ex e2))
end
end V


set_option Elab.async false
set_option linter.all false
set_option maxRecDepth 100000
set_option maxHeartbeats 400000
namespace V
open PySem PySem.Spec PyProof.Rows L2
namespace B36
open PySem.NumText PySem.Calls
def IsF (c : Nat) : Prop := (48 ≤ c ∧ c ≤ 57) ∨ (97 ≤ c ∧ c ≤ 122)
def hv (c : Nat) : Nat := if c ≤ 57 then c - 48 else c - 87
def num (l : List Nat) : Nat := l.foldl (fun a c => a * 36 + hv c) 0
theorem hv_lt {c : Nat} (h : IsF c) : hv c < 36 := by
  unfold IsF at h
  unfold hv
  split <;> omega
theorem digit_f {c : Nat} (h : IsF c) : digit? c = some (hv c) := by
  unfold IsF at h
  unfold digit? hv
  rcases h with h | h
  · rw [if_pos (Hx.bb h.1 h.2), if_pos h.2]
  · rw [if_neg (Hx.bn (show ¬ (48 ≤ c ∧ c ≤ 57) by omega)), if_pos (Hx.bb h.1 h.2), if_neg (show ¬ c ≤ 57 by omega)]
theorem rng {c : Nat} (h : IsF c) : 48 ≤ c ∧ c ≤ 122 ∧ c ≠ 95 := by
  unfold IsF at h
  exact ⟨by omega, by omega, by omega⟩
theorem step_f {ds : Array Nat} {b : Bool} {c : Nat} (h : IsF c) : PySem.NumText.step 36 (ds, b) c = some (ds.push (hv c), true) := by
  have hr := rng h
  unfold PySem.NumText.step
  rw [if_neg (by rw [beq_iff_eq]; exact hr.2.2), digit_f h]
  exact if_pos (hv_lt h)
theorem foldl_f : ∀ (cs : List Nat) (ds : Array Nat), (∀ c ∈ cs, IsF c) → cs.foldlM (PySem.NumText.step 36) (ds, true) = some (cs.foldl (fun acc c => acc.push (hv c)) ds, true)
  | [], _, _ => rfl
  | c :: cs, ds, h => by
    rw [List.foldlM_cons, step_f (h c (List.mem_cons_self ..))]
    show cs.foldlM (PySem.NumText.step 36) (ds.push (hv c), true) = _
    exact foldl_f cs (ds.push (hv c)) fun d hd => h d (List.mem_cons_of_mem _ hd)
theorem digits_f {cs : List Nat} (h : ∀ c ∈ cs, IsF c) (hne : cs ≠ []) : digits? 36 cs = some (cs.foldl (fun acc c => acc.push (hv c)) #[]) := by
  cases cs with
  | nil => exact absurd rfl hne
  | cons c cs =>
    unfold digits?
    rw [List.foldlM_cons, step_f (h c (List.mem_cons_self ..))]
    show (cs.foldlM (PySem.NumText.step 36) ((#[] : Array Nat).push (hv c), true)).bind _ = _
    rw [foldl_f cs _ fun d hd => h d (List.mem_cons_of_mem _ hd)]
    rfl
theorem push_f : ∀ (cs : List Nat) (ds : Array Nat), (cs.foldl (fun acc c => acc.push (hv c)) ds).foldl (fun acc d => acc * 36 + d) 0 = cs.foldl (fun a c => a * 36 + hv c) (ds.foldl (fun acc d => acc * 36 + d) 0)
  | [], _ => rfl
  | c :: cs, ds => by
    rw [List.foldl_cons, push_f cs (ds.push (hv c)), List.foldl_cons]
    congr 1
    simp
theorem dropB {cs : List Nat} (h : ∀ c ∈ cs, IsF c) : cs.dropWhile blank = cs := by
  cases cs with
  | nil => rfl
  | cons c cs => exact dropWhile_of (by have := rng (h c (List.mem_cons_self ..)); omega)
theorem signH {cs : List Nat} (h : ∀ c ∈ cs, IsF c) : sign cs = (false, cs) := by
  cases cs with
  | nil => rfl
  | cons c cs =>
    have := rng (h c (List.mem_cons_self ..))
    exact sign_of (by omega) (by omega)
theorem prefH {cs : List Nat} : ∀ p, NumText.prefix? cs = some p → p ≠ 36 := by
  intro p hp
  unfold NumText.prefix? at hp
  split at hp
  · split at hp
    · cases hp; decide
    · split at hp
      · cases hp; decide
      · split at hp
        · cases hp; decide
        · cases hp
  · cases hp
theorem basedH {cs : List Nat} : based 36 cs = (36, false, cs) := by
  have hp := prefH (cs := cs)
  unfold based
  cases e : NumText.prefix? cs with
  | none => rfl
  | some p =>
    have hne : ((36 : Nat) == 0 || (36 : Nat) == p) = false := Bool.or_eq_false_iff.mpr ⟨rfl, beq_eq_false_iff_ne.mpr fun z => hp p e z.symm⟩
    show (if ((36 : Nat) == 0 || (36 : Nat) == p) = true then _ else (36, false, cs)) = (36, false, cs)
    rw [hne] <;> rfl
theorem read_f {cs : List Nat} (h : ∀ c ∈ cs, IsF c) (hne : cs ≠ []) : (int_private% "readNumeral") 0 36 cs = (int_private% "Numeral.value") ((num cs : Nat) : Int) := by
  have hr : ∀ c ∈ cs.reverse, IsF c := fun c hc => h c (List.mem_reverse.mp hc)
  refine (readNumeral_eq 0 36 cs).trans ?_
  rw [dropB h, signH h]
  show judge 0 false (based 36 cs).1 (based 36 cs).2.1 (digits? (based 36 cs).1 (((based 36 cs).2.2.reverse.dropWhile blank).reverse)) = _
  rw [basedH]
  show judge 0 false 36 false (digits? 36 ((cs.reverse.dropWhile blank).reverse)) = _
  rw [dropB hr, List.reverse_reverse, digits_f h hne]
  show (int_private% "Numeral.value") (((cs.foldl (fun acc c => acc.push (hv c)) (#[] : Array Nat)).foldl (fun acc d => acc * 36 + d) 0 : Nat) : Int) = _
  have z : (#[] : Array Nat).foldl (fun acc d => acc * 36 + d) 0 = 0 := by first | rfl | simp
  rw [push_f, z] <;> rfl
theorem seen_f {x : Str} (h : ∀ c ∈ x.cps.toList, IsF c) : numTextOf x = x.cps.toList ∧ numSeenOf x = x.cps.toList := by
  have e1 : numTextOf x = x.cps.toList := by
    refine if_pos ?_
    rw [← Array.all_toList, List.all_eq_true]
    intro c hc
    have := rng (h c hc)
    exact decide_eq_true (by omega)
  refine ⟨e1, ?_⟩
  show (numTextOf x).takeWhile _ = _
  rw [e1]
  refine takeWhile_all fun c hc => ?_
  have := rng (h c hc)
  exact bne_iff_ne.mpr (by omega)
set_option maxHeartbeats 4000000 in
theorem gives_f {x : PySem.Str} {u t : Tok} (hl : x.length ≤ 640) (h : ∀ c ∈ x.cps.toList, IsF c) (hne : x.cps.toList ≠ []) :
    Gives (Builtin.«int.__new__» ⟨[.type "int", .str x u, .int 36 t], []⟩) (.int ((num x.cps.toList : Nat) : Int)) :=
  .of_wp fun M A E s Q hQ => by
    obtain ⟨hp, g, d, tk, os⟩ := s
    have f1 := F.conv_sub_int
    have f2 := F.madeHere_int
    have f6 : typeOf (.str x u) = pure (.type "str") := rfl
    obtain ⟨e1, e2⟩ := seen_f h
    have hs : (numSeenOf x).length ≤ 640 := by
      rw [e2, Array.length_toList]
      exact hl
    have hr : (int_private% "readNumeral") 0 36 (numSeenOf x) = (int_private% "Numeral.value") ((num x.cps.toList : Nat) : Int) := by
      rw [e2]
      exact read_f h hne
    have ha : ((numSeenOf x).length == (numTextOf x).length) = true := by
      rw [e1, e2]
      exact beq_self_eq_true _
    have hk := Hx.Hid.mk (And.intro hs (And.intro hr ha))
    clear hs hr ha e1 e2 hl hne h
    repeat (any_goals (first
      | assumption
      | ((with_reducible show wpAny _ _ ((int_private% "intFromText") _ _ _) _ _ _); refine Hx.wp_textB hk.out.1 hk.out.2.1 hk.out.2.2 ?_)
      | wp_step))
    all_goals first | exact ⟨_, rfl, hQ⟩ | skip
theorem call_f {prog : Program} {w : World} {A : Around} {E : Value → Shared → Prop} {s : Shared} {Q : Value → Shared → Prop} {x : PySem.Str} {u t : Tok} (hl : x.length ≤ 640) (h : ∀ c ∈ x.cps.toList, IsF c) (hne : x.cps.toList ≠ [])
    (hQ : Q (.int ((num x.cps.toList : Nat) : Int) s.toks) { s with toks := s.toks + 1 }) : wpAny (model prog w) A (call (.type "int") [.str x u, .int 36 t]) Q E s :=
  callType_new F.called_int F.newNe_int (Hx.typeCall_int_2 _ _) (Hx.newCall_int_2 _ _) (fun obj => F.initArgs_range_2 obj _ _) F.entry_int_new (gives_f hl h hne).meets (show (Made.int ((num x.cps.toList : Nat) : Int)).post _ s from ⟨rfl, hQ⟩)
end B36
/-- int(t, 36) -/
def rInt36 : List V → Hp → VK → Prop := fun xs H Q => ∃ z : Str, xs = [.str z, .int 36] ∧ z.cps.toList ≠ [] ∧ z.length ≤ 640 ∧ (∀ c ∈ z.cps.toList, B36.IsF c) ∧ Q (.int ((B36.num z.cps.toList : Nat) : Int)) H
theorem call_int_36 {X : Cx} : CallR X (.type "int") rInt36 := by
  intro pins s σ H xs us Q I r h
  obtain ⟨z, rfl, hne, hl, hx, q⟩ := h
  obtain ⟨u, w', rfl, r1, r2⟩ := vals2 r
  obtain ⟨t1, rfl⟩ := r1
  obtain ⟨t2, rfl⟩ := r2
  exact B36.call_f hl hx hne ⟨.int ((B36.num z.cps.toList : Nat) : Int), H, I.tok _, ⟨_, rfl⟩, q⟩
end V


set_option Elab.async false
set_option linter.all false
set_option maxRecDepth 100000
set_option maxHeartbeats 4000000
namespace V
open PySem PySem.Spec PyProof.Rows L2 Evl TL NumText
section
variable {P : Program} {w : World} {K : PySem.W.Frag} {mg : Str → Option Value} {base : Heap}
theorem dps_texts {K : PySem.W.Frag} {H : Hp} : ∀ ss : List Str, DpAll K H (ss.map V.str) (ss.map PyData.str)
  | [] => .nil
  | x :: r => .cons (.str x) (dps_texts r)
theorem small_strs {ss : List Str} (h : ∀ x ∈ ss, x.length ≤ 1000) : ∀ d ∈ ss.map PyData.str, Small d := fun d hd => by
  obtain ⟨x, hx, rfl⟩ := List.mem_map.mp hd
  exact .str (by have := h x hx; omega)
def spSameB' : Sp := fun vs H Q _ => ∃ x y : Bool, vs = [.bl x, .bl y] ∧ ∀ (H' : Hp), Ex H H' → Q (.bl (decide (x = y))) H'
theorem ok_marks (T : Txt K w mg) (G__law_take : Cal P w K mg base 1 "_law_take" ["box", "size"] spTake) (G__law_some_mark : Cal P w K mg base 2 "_law_some_mark" ["box"] spSomeMark) (G__law_odd : Cal P w K mg base 2 "_law_odd" ["box", "part"] (spOdd K))
    (G__law_same : Cal P w K mg base 1 "_law_same" ["found", "due"] spSameB') (G_is_mark : Cal P w K mg base 1 "is_mark" ["thing"] (spTest Small isMarkD K)) (G__law_is_a_mark : Cal P w K mg base 1 "_law_is_a_mark" ["thing"] (spTest Small isMarkD K)) :
    Cal P w K mg base 3 "_law_marks_right" ["box"] (spMarks K) := by
  refine T.D__law_marks_right.cal sc__law_marks_right (fun vs H Q E h => ?_) (fun f cdv A outer s H vs Q E hr h => ?_)
  · obtain ⟨b, n, rfl, _⟩ := h
    rfl
  obtain ⟨b, n, rfl, hB, q⟩ := h
  refine ⟨_, (pss_cons (ps_par (i := 1) (j := 2) rfl sc__law_marks_right.nd rfl rfl (by decide) rfl rfl (pa_cons (pe_fn G__law_some_mark hr (by omega) (pa_cons (pv 0) pa_nil)) (pa_cons pe_str pa_nil)) rfl)
  (pss_cons (ps_par (i := 3) (j := 4) rfl sc__law_marks_right.nd rfl rfl (by decide) rfl rfl (pa_cons (pe_fn G__law_take hr (by omega) (pa_cons (pv 0) (pa_cons pe_int pa_nil))) (pa_cons (pe_ix ix_str (pv 2) (pe_fn G__law_take hr (by omega) (pa_cons (pv 0) (pa_cons pe_int pa_nil))) (fun _ _ => rfl)) pa_nil)) rfl)
  (pss_cons (ps_par (i := 5) (j := 6) rfl sc__law_marks_right.nd rfl rfl (by decide) rfl rfl (pa_cons (pe_slice sl_str (pv 1) po_none (po_some (pv 3))) (pa_cons (pe_slice sl_str (pv 1) (po_some (pe_op op_add (pv 3) pe_int)) po_none) pa_nil)) rfl)
  (pss_cons (ps_set (i := 7) sc__law_marks_right.nd rfl (.inl rfl) (pe_lst (pa_cons (pv 1) (pa_cons (pe_op op_add_str (pe_op op_add_str (pv 5) (pv 4)) (pv 6)) (pa_cons (pe_op op_add_str (pv 1) (pv 4)) (pa_cons (pe_op op_add_str (pv 5) (pv 6)) (pa_cons (pe_bm0 PySem.F.plainAttrs_str PySem.F.slot_str_upper PySem.F.type_str_upper mt_upper (pv 1)) (pa_cons pe_str (pa_cons (pe_op op_add_str pe_str (pv 1)) pa_nil)))))))))
  (pss_cons (ps_set (i := 7) sc__law_marks_right.nd rfl (.inl rfl) (pe_op op_cat (pv 7) (pe_lst (pa_cons (pe_fn G__law_odd hr (by omega) (pa_cons (pv 0) (pa_cons (pv 1) pa_nil))) (pa_cons (pe_bt (call_tupS rfl) T.z_tuple (pa_cons (pv 1) pa_nil)) (pa_cons (pe_bt (call_lstS rfl) T.z_list (pa_cons (pv 1) pa_nil)) (pa_cons (pe_bt call_int_36 T.z_int (pa_cons (pv 1) (pa_cons pe_int pa_nil))) pa_nil)))))))
  (pss_one (ps_ret (pe_bi (cr_all rfl) T.z_all (pa_cons (pe_lc (own := [("one", 8)]) (g := (gName 8)) (tt := tYes) rfl sc__law_marks_right.nd (pi_list (pv 7)) (blkOk_by (N := N__law_marks_right) (sc := defScope s__law_marks_right) (by decide +kernel)) (fun _ _ _ _ _ => (pg_name (i := 8) sc__law_marks_right.nd rfl (.inl rfl))) (fun _ _ _ _ _ => pts_nil) (fun _ _ _ _ _ => (pe_fn G__law_same hr (by omega) (pa_cons (pe_fn G_is_mark hr (by omega) (pa_cons (pv 8) pa_nil)) (pa_cons (pe_fn G__law_is_a_mark hr (by omega) (pa_cons (pv 8) pa_nil)) pa_nil))))) pa_nil))))))))), ?_⟩
  let A0 : L2.St → Hp → Prop := fun σ H' => σ = [some (.ref b), none, none, none, none, none, none, none, none] ∧ H' = H
  let A1 : L2.St → Hp → Prop := fun σ H' => ∃ m : Str, isMk m ∧ σ = [some (.ref b), some (.str m), some (.str "09azAZ #@_-{"), none, none, none, none, none, none] ∧ But b H H' ∧ Box H' b (n + 3)
  let A2 : L2.St → Hp → Prop := fun σ H' => ∃ (m sg : Str) (i : Int), isMk m ∧ sg.length = 1 ∧ σ = [some (.ref b), some (.str m), some (.str "09azAZ #@_-{"), some (.int i), some (.str sg), none, none, none, none] ∧ But b H H' ∧ Box H' b (n + 1)
  let A3 : L2.St → Hp → Prop := fun σ H' => ∃ (m sg u1 u2 : Str) (i : Int), isMk m ∧ sg.length = 1 ∧ u1.length ≤ 6 ∧ u2.length ≤ 6 ∧ σ = [some (.ref b), some (.str m), some (.str "09azAZ #@_-{"), some (.int i), some (.str sg), some (.str u1), some (.str u2), none, none] ∧ But b H H' ∧ Box H' b (n + 1)
  let A4 : L2.St → Hp → Prop := fun σ H' => ∃ (m : Str) (y2 y3 y4 y5 y6 : Option V) (l : Addr) (vs : List V) (L : List PyData), isMk m ∧ σ = [some (.ref b), some (.str m), y2, y3, y4, y5, y6, some (.ref l), none] ∧ But b H H' ∧ Box H' b (n + 1) ∧ H' l = some (.lst vs) ∧ l ≠ b ∧ DpAll K (wo b H') vs L ∧ vs.length ≤ 10 ∧ ∀ x ∈ L, Small x
  let A5 : L2.St → Hp → Prop := fun σ H' => ∃ (y1 y2 y3 y4 y5 y6 : Option V) (l : Addr) (vs : List V) (L : List PyData), σ = [some (.ref b), y1, y2, y3, y4, y5, y6, some (.ref l), none] ∧ But b H H' ∧ Box H' b n ∧ H' l = some (.lst vs) ∧ DpAll K H' vs L ∧ vs.length ≤ 20 ∧ ∀ x ∈ L, Small x
  refine (Hs.fin (A := A0) (B := A1) ?_ (Hs.fin (B := A2) ?_ (Hs.fin (B := A3) ?_ (Hs.fin (B := A4) ?_ (Hs.fin (B := A5) ?_ (Q := Q) ?_))))) _ _ H ⟨rfl, rfl⟩ fun v H' h => h
  · rintro D σ H1 ⟨rfl, rfl⟩ kk
    exact ⟨_, rfl, b, n + 3, rfl, hB, fun H2 m u2 B2 hm => ⟨_, _, rfl, kk _ _ ⟨m, hm, rfl, u2, B2⟩⟩⟩
  · rintro D σ H1 ⟨m, hm, rfl, u1, B1⟩ kk
    refine ⟨_, rfl, b, 6, n + 2, rfl, by decide, by decide, B1, fun H2 i u2 B2 i0 i1 => ⟨_, rfl, _, rfl, b, 12, n + 1, rfl, by decide, by decide, B2, fun H3 j u3 B3 j0 j1 => ?_⟩⟩
    obtain ⟨jn, rfl⟩ := Int.eq_ofNat_of_zero_le j0
    have len : ("09azAZ #@_-{" : Str).cps.toList.length = 12 := by decide +kernel
    have hx : ("09azAZ #@_-{" : Str).cps.toList[jn]? = some (("09azAZ #@_-{" : Str).cps.toList[jn]'(by omega)) := List.getElem?_eq_getElem _
    exact ⟨_, _, _, rfl, rfl, by decide +kernel, atI_nat hx, _, _, rfl, kk _ _ ⟨m, _, i, hm, rfl, rfl, u1.trans (u2.trans u3), B3⟩⟩
  · rintro D σ H1 ⟨m, sg, i, hm, hs, rfl, u1, B1⟩ kk
    have lm : m.length ≤ sizeLine := sz _ (by have := hm.1; omega)
    have c1 := cutS_length m none (some i)
    have c2 := cutS_length m (some (i + 1)) none
    have l6 := hm.1
    exact ⟨_, rfl, _, rfl, i, rfl, m, rfl, lm, _, rfl, _, rfl, _, _, rfl, rfl, _, rfl, m, rfl, lm, _, _, rfl, kk _ _ ⟨m, sg, _, _, i, hm, hs, by omega, by omega, rfl, u1, B1⟩⟩
  · rintro D σ H1 ⟨m, sg, w1, w2, i, hm, hs, l1, l2, rfl, u1, B1⟩ kk
    have l6 := hm.1
    have s7 : ∀ k : Nat, k ≤ 100 → k ≤ sizeLine := fun k hk => sz _ (by omega)
    refine ⟨_, rfl, _, rfl, _, rfl, w1, sg, rfl, rfl, s7 _ (by omega), _, rfl, w1 ++ sg, w2, rfl, rfl, s7 _ (by rw [str_len_append]; omega), _, rfl, _, rfl, m, sg, rfl, rfl, s7 _ (by omega), _, rfl, _, rfl, w1, w2, rfl, rfl, s7 _ (by omega), _, rfl, rfl, m, rfl, rfl, by omega, _, rfl, "#", m, rfl, rfl, s7 _ (by rw [show ("#" : Str).length = 1 by decide +kernel]; omega), sz 7, fun p hp => ?_⟩
    have f := Ex.new (o := .lst [.str m, .str (w1 ++ sg ++ w2), .str (m ++ sg), .str (w1 ++ w2), .str (Txt.upper m), .str "", .str ("#" ++ m)]) hp
    have c128 : ∀ c ∈ tl m, c < 128 := fun c hc => by have := hm.2 c hc; omega
    obtain ⟨up1, _⟩ := fin_up c128
    refine kk _ _ ⟨m, _, _, _, _, _, p, _, [m, w1 ++ sg ++ w2, m ++ sg, w1 ++ w2, Txt.upper m, "", "#" ++ m].map .str, hm, rfl, u1.trans (But.of f), B1.ex f, upd_same, ne_fresh B1.no hp, dps_texts [m, w1 ++ sg ++ w2, m ++ sg, w1 ++ w2, Txt.upper m, "", "#" ++ m], Nat.le_of_ble_eq_true rfl, small_strs fun x hx => ?_⟩
    have lz : ("#" : Str).length = 1 := by decide +kernel
    simp only [List.mem_cons, List.not_mem_nil, or_false] at hx
    rcases hx with rfl | rfl | rfl | rfl | rfl | rfl | rfl
    · omega
    · rw [str_len_append, str_len_append]; omega
    · rw [str_len_append]; omega
    · rw [str_len_append]; omega
    · omega
    · exact Nat.zero_le _
    · rw [str_len_append]; omega
  · rintro D σ H1 ⟨m, y2, y3, y4, y5, y6, l, vs, L, hm, rfl, u1, B1, hl, nl, hvs, lv, sm⟩ kk
    have l6 := hm.1
    have c128 : ∀ c ∈ tl m, c < 128 := fun c hc => by have := hm.2 c hc; omega
    have fm : FinD 0 (.str m) := .str (by omega) c128
    have lm : m.length ≤ sizeLine := sz _ (by omega)
    have ne : m.cps.toList ≠ [] := fun z => by
      have : m.cps.toList.length = m.length := Array.length_toList
      rw [z, l6] at this
      cases this
    refine ⟨_, rfl, _, rfl, _, rfl, b, n, 0, .str m, .str m, rfl, by decide, B1, .str m, fm, by simp [wtD], fun H2 v' d' u2 B2 d2 g => ⟨_, rfl, m, rfl, lm, fun pt hpt => ⟨_, rfl, m, rfl, lm, fun pl hpl => ⟨_, rfl, m, rfl, ne, by omega, fun c hc => hm.2 c hc, sz 4, fun pq hpq => ?_⟩⟩⟩⟩
    have f1 := Ex.new (o := .tup (sgV m)) hpt
    have f2 := Ex.new (o := .lst (sgV m)) hpl
    have f3 := Ex.new (o := .lst [v', .ref pt, .ref pl, .int ((B36.num m.cps.toList : Nat) : Int)]) hpq
    refine ⟨l, pq, vs, _, rfl, rfl, f3 _ _ (f2 _ _ (f1 _ _ (u2 l _ nl hl))), upd_same, sz _ (by show _ + 4 ≤ 1000; omega), fun p2 hp2 => ?_⟩
    have f4 := Ex.new (o := .lst (vs ++ [v', .ref pt, .ref pl, .int ((B36.num m.cps.toList : Nat) : Int)])) hp2
    have F := f1.trans (f2.trans (f3.trans f4))
    have sgs : ∀ x ∈ m.cps.toList.map (fun c => PyData.str ⟨#[c]⟩), Small x := fun x hx => by
      obtain ⟨c, _, rfl⟩ := List.mem_map.mp hx
      exact .str (by show 1 ≤ 100000; decide)
    have ls : (m.cps.toList.map (fun c => PyData.str ⟨#[c]⟩)).length ≤ 1000 := by
      rw [List.length_map, Array.length_toList]
      have : m.cps.size = m.length := rfl
      omega
    refine kk _ _ ⟨_, _, _, _, _, _, p2, _, L ++ [d', .tuple (m.cps.toList.map fun c => .str ⟨#[c]⟩), .list (m.cps.toList.map fun c => .str ⟨#[c]⟩), .int ((B36.num m.cps.toList : Nat) : Int)], rfl, u1.trans (u2.trans (But.of F)), B2.ex F, upd_same, ?_, by rw [List.length_append]; show _ + 4 ≤ 20; omega, fun x hx => ?_⟩
    · refine dps_app (dps_ex ((wo_but u2).trans (wo_le.trans F)) hvs) (.cons (dp_ex (wo_le.trans F) d2) (.cons (.tup (SqT.of ((f2.trans (f3.trans f4)) _ _ upd_same)) (dps_sg m)) (.cons (.lst (SqL.of ((f3.trans f4) _ _ upd_same)) (dps_sg m)) (.cons (.int _) .nil))))
    · rcases List.mem_append.mp hx with hx | hx
      · exact sm x hx
      · simp only [List.mem_cons, List.not_mem_nil, or_false] at hx
        rcases hx with rfl | rfl | rfl | rfl
        · exact g.fin.small (by decide) (by have := g.wt; simp only [wtD] at this; omega)
        · exact .tup ls sgs
        · exact .lst ls sgs
        · exact .int _
  · rintro D σ H1 ⟨y1, y2, y3, y4, y5, y6, l, vs, L, rfl, u1, B1, hl, hvs, lv, sm⟩ kk
    have hlen := dps_len hvs
    refine ⟨_, rfl, l, rfl, ⟨vs, SqL.of hl⟩, fun Dl hD => ?_⟩
    refine lc_list (xs := vs) (fun i H3 => Ex H1 H3 ∧ H3 Dl = some (.lst (((L.take i).map fun d => decide (isMarkD d = isMarkD d)).map V.bl))) ⟨Ex.new hD, upd_same⟩ (fun i H3 _ k => ex_l k.1 (SqL.of hl)) ?_ ?_
    · rintro i x H3 hi ⟨e3, h3⟩
      obtain ⟨u, hu, hxu⟩ := dps_get hvs hi
      have su := sm u (get_mem hu)
      refine ⟨rfl, yes ⟨_, rfl, x, u, rfl, dp_ex e3 hxu, su, fun H4 e4 => ⟨_, rfl, x, u, rfl, dp_ex (e3.trans e4) hxu, su, fun H5 e5 => ⟨isMarkD u, isMarkD u, rfl, fun H6 e6 => ⟨_, (e4.trans (e5.trans e6)) Dl _ h3, ?_, Ex.mut (e3.trans (e4.trans (e5.trans e6))) hD, ?_⟩⟩⟩⟩⟩
      · rw [List.length_map, List.length_map, List.length_take]
        exact small1000 (by omega)
      · rw [upd_same, take_more hu, List.map_append, List.map_append]
        rfl
    · rintro H3 ⟨e3, h3⟩
      rw [hlen, List.take_length] at h3
      refine ⟨Dl, _, rfl, SqL.of h3, kk _ _ ?_⟩
      rw [show ((L.map fun d => decide (isMarkD d = isMarkD d)).all id) = true by
        rw [List.all_map, List.all_eq_true]
        exact fun x _ => decide_eq_true rfl]
      exact q H3 (u1.trans (But.of e3)) (B1.ex e3)
end
end V


set_option Elab.async false
set_option linter.all false
set_option maxRecDepth 100000
set_option maxHeartbeats 4000000
namespace V
open PySem PySem.Spec PyProof.Rows L2 Evl TL NumText
section
variable {P : Program} {w : World} {K : PySem.W.Frag} {mg : Str → Option Value} {base : Heap}
theorem ok_below (T : Txt K w mg) : Cal P w K mg base 1 "_law_is_below" ["thing", "many"] (spBelow K) := by
  refine T.D__law_is_below.cal sc__law_is_below (fun vs H Q E h => ?_) (fun f cdv A outer s H vs Q E hr h => ?_)
  · obtain ⟨m, v, d, rfl, _⟩ := h
    rfl
  obtain ⟨m, v, d, rfl, hd, q⟩ := h
  refine ⟨_, (pss_one (ps_ret (pe_and (pe_bi call_isi T.z_isinstance (pa_cons (pv 0) (pa_cons (pe_ty T.z_int) pa_nil))) (pe_and (pe_not (pe_bi call_isi T.z_isinstance (pa_cons (pv 0) (pa_cons (pe_ty T.z_bool) pa_nil)))) (pe_one (pe_chain op_le op_lt pe_int (pv 0) (pv 1))))))), ?_⟩
  have q1 := q H (Ex.refl H)
  refine ⟨v, rfl, _, _, _, _, _, rfl, .ty _, (dp_ty hd), kit_ty (kit_int d), _, rfl, ?_⟩
  cases hd with
  | int i =>
    refine iteT ⟨_, rfl, _, _, _, _, _, rfl, .ty _, (dp_ty (Dp.int i)), kit_ty (kit_bool (.int i)), _, rfl, _, rfl, iteT ⟨_, rfl, _, _, rfl, rfl, _, rfl, ?_⟩⟩
    have e : isNumD (m - 1) (.int i) = (decide (0 ≤ i) && decide (i < m)) := by
      show (decide (0 ≤ i) && decide (i ≤ m - 1)) = _
      congr 1
      rw [decide_eq_decide]
      omega
    rw [e] at q1
    by_cases c : 0 ≤ i
    · rw [decide_eq_true c] at q1 ⊢
      exact iteT ⟨_, rfl, _, _, rfl, rfl, q1⟩
    · rw [decide_eq_false c] at q1 ⊢
      exact iteF q1
  | bl b => exact iteT ⟨_, rfl, _, _, _, _, _, rfl, .ty _, (dp_ty (Dp.bl b)), kit_ty (kit_bool (.bool b)), _, rfl, _, rfl, iteF q1⟩
  | _ => exact iteF q1
theorem ok_lawMark (T : Txt K w mg) : Cal P w K mg base 1 "_law_is_a_mark" ["thing"] (spTest Small isMarkD K) := by
  refine T.D__law_is_a_mark.cal sc__law_is_a_mark (fun vs H Q E h => ?_) (fun f cdv A outer s H vs Q E hr h => ?_)
  · obtain ⟨v, d, rfl, _⟩ := h
    rfl
  obtain ⟨v, d, rfl, hd, hs, q⟩ := h
  refine ⟨_, (pss_cons (ps_if (PW.pt (pw_or (pt_not (pt_val (pe_bi call_isi T.z_isinstance (pa_cons (pv 0) (pa_cons (pe_ty T.z_str) pa_nil))))) (pw_or1 (pt_cmpR op_ne (pe_bi call_len T.z_len (pa_cons (pv 0) pa_nil)) pe_int (nomark _)))))
    (pss_one (ps_ret pe_bl))
    pss_nil)
  (pss_one (ps_ret (pe_cmpR op_eq (pe_bm PySem.F.plainAttrs_str PySem.F.slot_str_strip PySem.F.type_str_strip mt_stripChars (pv 0) (pa_cons pe_str pa_nil)) pe_str (nomark _))))), ?_⟩
  refine ⟨v, rfl, _, _, _, _, _, rfl, .ty _, (dp_ty hd), kit_ty (kit_str d), _, rfl, ?_⟩
  have q1 := q H (Ex.refl H)
  cases hs with
  | str hx =>
    rename_i x
    cases hd
    refine iteF ⟨_, rfl, _, x.length, rfl, ⟨Nat.le_trans hx (by decide), rfl⟩, rfl, _, rfl, ?_⟩
    by_cases c : x.length = 6
    · rw [decide_eq_true (show V.int (x.length : Int) = V.int 6 by rw [c]; rfl)]
      refine iteF ⟨_, rfl, rfl, x, _, rfl, rfl, Nat.le_trans hx (by decide), ?_⟩
      have e1 : isMarkD (.str x) = decide (V.str (Txt.stripChars x "0123456789abcdefghijklmnopqrstuvwxyz") = V.str "") := by
        show (x.length == 6 && _) = _
        rw [c]
        show (x.cps.toList.all fun c => decide (c ∈ sgM.cps.toList)) = _
        have e2 := strip_nil x "0123456789abcdefghijklmnopqrstuvwxyz"
        by_cases c2 : Txt.stripChars x "0123456789abcdefghijklmnopqrstuvwxyz" = ""
        · rw [c2, decide_eq_true rfl, List.all_eq_true]
          refine fun z hz => decide_eq_true ?_
          have := e2.mp c2 z hz
          rw [Array.contains_iff_mem] at this
          exact Array.mem_toList_iff.mpr this
        · rw [decide_eq_false (fun z => c2 (V.str.inj z))]
          rw [List.all_eq_false]
          refine Classical.byContradiction fun no => c2 (e2.mpr fun z hz => ?_)
          rw [Array.contains_iff_mem]
          refine Classical.byContradiction fun n2 => no ⟨z, hz, ?_⟩
          rw [decide_eq_true_eq]
          exact fun z2 => n2 (Array.mem_toList_iff.mp z2)
      rw [e1] at q1
      exact ⟨rfl, q1⟩
    · rw [decide_eq_false (fun z => c (by have := V.int.inj z; omega))]
      have e1 : isMarkD (.str x) = false := by
        show (x.length == 6 && _) = false
        rw [beq_eq_false_iff_ne.mpr c]
        rfl
      rw [e1] at q1
      exact iteT q1
  | _ => exact iteT (iteT q1)
def spSameB : Sp := fun vs H Q _ => ∃ x y : Bool, vs = [.bl x, .bl y] ∧ ∀ (H' : Hp), Ex H H' → Q (.bl (decide (x = y))) H'
theorem ok_sameB (T : Txt K w mg) : Cal P w K mg base 1 "_law_same" ["found", "due"] spSameB := by
  have G__law_same : Cal P w K mg base 0 "_law_same" ["found", "due"] (fun _ _ _ _ => False) := T.D__law_same.never fun _ _ _ _ h => h
  refine T.D__law_same.cal sc__law_same (fun vs H Q E h => ?_) (fun f cdv A outer s H vs Q E hr h => ?_)
  · obtain ⟨x, y, rfl, _⟩ := h
    rfl
  obtain ⟨x, y, rfl, q⟩ := h
  refine ⟨_, (pss_cons (ps_if (pt_val (pe_bi call_isiT T.z_isinstance (pa_cons (pv 1) (pa_cons (pe_tup (pa_cons (pe_ty T.z_list) (pa_cons (pe_ty T.z_tuple) pa_nil))) pa_nil))))
    (pss_cons (ps_if (PW.pt (pw_or (pt_cmpR op_ne (pe_bi call_isi T.z_isinstance (pa_cons (pv 0) (pa_cons (pe_ty T.z_list) pa_nil))) (pe_bi call_isi T.z_isinstance (pa_cons (pv 1) (pa_cons (pe_ty T.z_list) pa_nil))) (nomark _)) (pw_or1 (pt_cmpR op_ne (pe_bi call_isi T.z_isinstance (pa_cons (pv 0) (pa_cons (pe_ty T.z_tuple) pa_nil))) (pe_bi call_isi T.z_isinstance (pa_cons (pv 1) (pa_cons (pe_ty T.z_tuple) pa_nil))) (nomark _)))))
      (pss_one (ps_ret pe_bl))
      pss_nil)
    (pss_one (ps_ret (pe_and (pe_cmpR op_eq (pe_bi call_len_seq T.z_len (pa_cons (pv 0) pa_nil)) (pe_bi call_len_seq T.z_len (pa_cons (pv 1) pa_nil)) (nomark _)) (pe_one (pe_bi (cr_all rfl) T.z_all (pa_cons (pe_lc (own := [("one", 2), ("other", 3)]) (g := (gTup K 2 (gCons (gName 2) (gCons (gName 3) gNil)))) (tt := tYes) rfl sc__law_same.nd (RZ.pi_zipA (by rfl) T.z_zip (pa_cons (pv 0) (pa_cons (pv 1) pa_nil))) (blkOk_by (N := N__law_same) (sc := defScope s__law_same) (by decide +kernel)) (fun _ _ _ _ _ => (pg_tup rfl (pgs_cons (pg_name (i := 2) sc__law_same.nd rfl (.inl rfl)) (pgs_cons (pg_name (i := 3) sc__law_same.nd rfl (.inl rfl)) pgs_nil)))) (fun _ _ _ _ _ => pts_nil) (fun _ _ _ _ _ => (pe_fn G__law_same hr (by omega) (pa_cons (pv 2) (pa_cons (pv 3) pa_nil))))) pa_nil)))))))
    pss_nil)
  (pss_cons (ps_if (PW.pt (pw_or (pt_cmpR op_isN (pv 1) pe_non (nomark _)) (pw_or1 (pt_val (pe_bi call_isi T.z_isinstance (pa_cons (pv 1) (pa_cons (pe_ty T.z_str) pa_nil)))))))
    (pss_one (ps_ret (pe_and (pe_cmpR op_eq (pv 0) (pv 1) (nomark _)) (pe_one (pe_cmpR op_eq (pe_bi call_isi T.z_isinstance (pa_cons (pv 0) (pa_cons (pe_ty T.z_str) pa_nil))) (pe_bi call_isi T.z_isinstance (pa_cons (pv 1) (pa_cons (pe_ty T.z_str) pa_nil))) (nomark _))))))
    pss_nil)
  (pss_one (ps_ret (pe_and (pe_bi call_isi T.z_isinstance (pa_cons (pv 0) (pa_cons (pe_ty T.z_int) pa_nil))) (pe_and (pe_cmpR op_eq (pe_bi call_isi T.z_isinstance (pa_cons (pv 0) (pa_cons (pe_ty T.z_bool) pa_nil))) (pe_bi call_isi T.z_isinstance (pa_cons (pv 1) (pa_cons (pe_ty T.z_bool) pa_nil))) (nomark _)) (pe_one (pe_cmpR op_eq (pv 0) (pv 1) (nomark _))))))))), ?_⟩
  refine ⟨_, rfl, sz 2, fun tp hp => ?_⟩
  have ep := Ex.new (o := .tup [.ty "list", .ty "tuple"]) hp
  refine ⟨_, tp, _, _, _, _, rfl, upd_same, .cons (.ty _) (.cons (.ty _) .nil), dp_ty (Dp.bl (K := K) y), kit_two K (.bool y), _, rfl, ?_⟩
  refine iteF ⟨_, rfl, rfl, _, rfl, iteF ?_⟩
  refine ⟨_, rfl, _, _, _, _, _, rfl, .ty _, dp_ty (Dp.bl y), kit_ty (kit_str (.bool y)), _, rfl, iteF ?_⟩
  refine ⟨_, rfl, _, _, _, _, _, rfl, .ty _, dp_ty (Dp.bl x), kit_ty (kit_int (.bool x)), _, rfl, iteT ?_⟩
  refine ⟨_, rfl, _, _, _, _, _, rfl, .ty _, dp_ty (Dp.bl x), kit_ty (kit_bool (.bool x)), _, rfl, _, _, _, _, _, rfl, .ty _, dp_ty (Dp.bl y), kit_ty (kit_bool (.bool y)), rfl, _, rfl, ?_⟩
  rw [show decide (V.bl (isBoolD (PyData.bool x)) = V.bl (isBoolD (PyData.bool y))) = true from decide_eq_true rfl]
  refine iteT ⟨_, rfl, _, rfl, ?_⟩
  have q1 := q _ ep
  cases x <;> cases y <;> exact ⟨rfl, q1⟩
end
end V


set_option Elab.async false
set_option linter.all false
set_option maxRecDepth 100000
set_option maxHeartbeats 4000000
namespace V
open PySem PySem.Spec PyProof.Rows L2 Evl TL NumText
theorem inV_two {z a b : Str} (h1 : z ≠ a) (h2 : z ≠ b) : inV (.str z) [.str a, .str b] = false := by
  unfold inV
  simp only [List.any_cons, List.any_nil, Bool.or_false, Bool.or_eq_false_iff]
  exact ⟨decide_eq_false fun e => h1 e.symm, decide_eq_false fun e => h2 e.symm⟩
theorem valB (z : Str) : (valV (mergeK [] dB) (.inr z)).getD (.int (-1)) = .int (if z ∈ opWords then (arOf z : Int) else -1) := by
  by_cases h : z ∈ opWords
  · rw [if_pos h]
    obtain ⟨o, rfl, _⟩ := op_of h
    cases o <;> decide +kernel
  · rw [if_neg h, val_at]
    · rfl
    · intro p hp z2
      refine h ?_
      have : p ∈ dB := hp
      unfold dB at this
      simp only [List.mem_cons, List.not_mem_nil, or_false] at this
      rcases this with rfl | rfl | rfl | rfl | rfl <;> (cases z2; decide +kernel)
section
variable {P : Program} {w : World} {K : PySem.W.Frag} {mg : Str → Option Value} {base : Heap}
/-- a headed thing, as it is asked -/
def TA1 (K : PySem.W.Frag) (H : Hp) (v : V) (d : PyData) (m : Nat) (ok : Str → Prop) : L2.St → Hp → Prop := fun σ H' => σ = [some v, some (.int ((m + 1 : Nat) : Int)), none, none] ∧ Ex H H' ∧ ∃ (a : Addr) (z : Str) (vr : List V) (dr : List PyData), v = .ref a ∧ d = .tuple (.str z :: dr) ∧ SqT K H' a (.str z :: vr) ∧ DpAll K H' vr dr ∧ ok z
def TA3 (K : PySem.W.Frag) (H : Hp) (v : V) (d : PyData) (m : Nat) (ok : Str → Prop) : L2.St → Hp → Prop := fun σ H' => Ex H H' ∧ ∃ (a p : Addr) (z : Str) (vr : List V) (dr : List PyData), σ = [some v, some (.int ((m + 1 : Nat) : Int)), some (.ref p), none] ∧ v = .ref a ∧ d = .tuple (.str z :: dr) ∧ SqT K H' a (.str z :: vr) ∧ DpAll K H' vr dr ∧ SqT K H' p vr ∧ ok z
def TA4 (K : PySem.W.Frag) (H : Hp) (v : V) (d : PyData) (m : Nat) : L2.St → Hp → Prop := fun σ H' => Ex H H' ∧ ∃ (p : Addr) (us : List V), σ = [some v, some (.int ((m + 1 : Nat) : Int)), some (.ref p), none] ∧ SqT K H' p us ∧ DpAll K H' us (partsD d) ∧ headD d = true
theorem ok_lawTm (T : Txt K w mg) (G__law_is_below : Cal P w K mg base 1 "_law_is_below" ["thing", "many"] (spBelow K)) (G__law_is_a_mark : Cal P w K mg base 1 "_law_is_a_mark" ["thing"] (spTest Small isMarkD K)) :
    ∀ n : Nat, Cal P w K mg base (n + 2) "_law_is_a_term" ["thing", "deep"] (spLawTm K n) := by
  have main : ∀ (n j : Nat) (hj : j ≤ n + 1) (sp : Sp) (imp : ∀ m vs H Q E, n = m + 1 → spLawTm K m vs H Q E → sp vs H Q E) (G__law_is_a_term : Cal P w K mg base j "_law_is_a_term" ["thing", "deep"] sp), Cal P w K mg base (n + 2) "_law_is_a_term" ["thing", "deep"] (spLawTm K n) := by
    intro n j hj sp imp G__law_is_a_term
    refine T.D__law_is_a_term.cal sc__law_is_a_term (fun vs H Q E h => ?_) (fun f cdv A outer s H vs Q E hr h => ?_)
    · obtain ⟨m, v, d, rfl, _⟩ := h
      rfl
    obtain ⟨m, v, d, rfl, hm, hd, ok, q⟩ := h
    refine ⟨_, (pss_cons (ps_if (PW.pt (pw_or (pt_cmpR op_lt (pv 1) pe_int (nomark _)) (pw_or (pt_not (pt_val (pe_bi call_isi T.z_isinstance (pa_cons (pv 0) (pa_cons (pe_ty T.z_tuple) pa_nil))))) (pw_or (pt_cmpR (op_eqD hr.units) (pv 0) (pe_tup pa_nil) (nomark _)) (pw_or1 (pt_not (pt_val (pe_bi call_isi T.z_isinstance (pa_cons (pe_ix (r := rIxT K) ix_tup (pv 0) pe_int (fun _ _ => rfl)) (pa_cons (pe_ty T.z_str) pa_nil))))))))))
    (pss_one (ps_ret pe_bl))
    pss_nil)
  (pss_cons (ps_if (pt_cmpR op_in_seq (pe_ix (r := rIxT K) ix_tup (pv 0) pe_int (fun _ _ => rfl)) (pe_tup (pa_cons pe_str (pa_cons pe_str pa_nil))) rfl)
    (pss_one (ps_ret (pe_and (pe_cmpR op_eq (pe_bi call_len_seq T.z_len (pa_cons (pv 0) pa_nil)) pe_int (nomark _)) (pe_one (pe_fn G__law_is_below hr (by omega) (pa_cons (pe_ix (r := rIxT K) ix_tup (pv 0) pe_int (fun _ _ => rfl)) (pa_cons (pe_dget (Nat.lt_of_le_of_lt (Nat.add_le_add_left (by decide : 1 ≤ 80) _) (room_u hr)) (pe_disp (pps_cons pe_str pe_int (pps_cons pe_str pe_int pps_nil)) rfl rfl (List.cons_ne_nil _ _) (Nat.le_of_ble_eq_true rfl)) (pe_ix (r := rIxT K) ix_tup (pv 0) pe_int (fun _ _ => rfl)) (fun _ _ => rfl)) pa_nil)))))))
    pss_nil)
  (pss_cons (ps_set (i := 2) sc__law_is_a_term.nd rfl (.inl rfl) (pe_slice sl_tupA (pv 0) (po_some pe_int) po_none))
  (pss_cons (ps_if (pt_cmpR op_in_seq (pe_ix (r := rIxT K) ix_tup (pv 0) pe_int (fun _ _ => rfl)) (pe_tup (pa_cons pe_str (pa_cons pe_str pa_nil))) rfl)
    (pss_cons (ps_if (PW.pt (pw_or (pt_cmpR op_ne (pe_bi call_len_seq T.z_len (pa_cons (pv 0) pa_nil)) pe_int (nomark _)) (pw_or (pt_not (pt_val (pe_bi call_isi T.z_isinstance (pa_cons (pe_ix (r := rIxT K) ix_tup (pv 0) pe_int (fun _ _ => rfl)) (pa_cons (pe_ty T.z_tuple) pa_nil))))) (pw_or1 (pt_cmpR op_gt (pe_bi call_len_seq T.z_len (pa_cons (pe_ix (r := rIxT K) ix_tup (pv 0) pe_int (fun _ _ => rfl)) pa_nil)) pe_int (nomark _))))))
      (pss_one (ps_ret pe_bl))
      pss_nil)
    (pss_cons (ps_if (pt_not (pt_ifExp (pt_cmpR op_eq (pe_ix (r := rIxT K) ix_tup (pv 0) pe_int (fun _ _ => rfl)) pe_str (nomark _)) (pt_val (pe_fn G__law_is_a_mark hr (by omega) (pa_cons (pe_ix (r := rIxT K) ix_tup (pv 0) pe_int (fun _ _ => rfl)) pa_nil))) (pt_val (pe_fn G__law_is_below hr (by omega) (pa_cons (pe_ix (r := rIxT K) ix_tup (pv 0) pe_int (fun _ _ => rfl)) (pa_cons pe_int pa_nil))))))
      (pss_one (ps_ret pe_bl))
      pss_nil)
    (pss_one (ps_set (i := 2) sc__law_is_a_term.nd rfl (.inl rfl) (pe_ix (r := rIxT K) ix_tup (pv 0) pe_int (fun _ _ => rfl))))))
    (pss_one (ps_if (pt_cmpR op_ne (pe_bi call_len_seq T.z_len (pa_cons (pv 2) pa_nil)) (pe_dget2 (Nat.lt_of_le_of_lt (Nat.add_le_add_left (by decide : 1 ≤ 80) _) (room_u hr)) (pe_disp (pps_cons pe_str pe_int (pps_cons pe_str pe_int (pps_cons pe_str pe_int (pps_cons pe_str pe_int (pps_cons pe_str pe_int pps_nil))))) rfl rfl (List.cons_ne_nil _ _) (Nat.le_of_ble_eq_true rfl)) (pe_ix (r := rIxT K) ix_tup (pv 0) pe_int (fun _ _ => rfl)) (pe_un un_neg pe_int) ⟨by rfl, by rfl, by rfl, by rfl⟩) (nomark _))
      (pss_one (ps_ret pe_bl))
      pss_nil)))
  (pss_one (ps_ret (pe_bi (cr_all rfl) T.z_all (pa_cons (pe_lc (own := [("part", 3)]) (g := (gName 3)) (tt := tYes) rfl sc__law_is_a_term.nd (pi_tup (pv 2)) (blkOk_by (N := N__law_is_a_term) (sc := defScope s__law_is_a_term) (by decide +kernel)) (fun _ _ _ _ _ => (pg_name (i := 3) sc__law_is_a_term.nd rfl (.inl rfl))) (fun _ _ _ _ _ => pts_nil) (fun _ _ _ _ _ => (pe_fn G__law_is_a_term hr (by omega) (pa_cons (pv 3) (pa_cons (pe_op op_sub (pv 1) pe_int) pa_nil))))) pa_nil)))))))), ?_⟩
    have q0 := q H (Ex.refl H)
    cases m with
    | zero => exact ⟨_, rfl, _, _, rfl, rfl, _, rfl, iteT (iteT q0)⟩
    | succ m =>
      have er : isTm (m + 1) d = (headD d && (partsD d).all (isTm m)) := rfl
      have qf : ∀ {H' : Hp}, Ex H H' → headD d = false → Q (.bl false) H' := fun {H'} e hh => by
        have q1 := q H' e
        rw [er, hh] at q1
        exact q1
      let A0 : L2.St → Hp → Prop := fun σ H' => σ = [some v, some (.int ((m + 1 : Nat) : Int)), none, none] ∧ H' = H
      refine (Hr.fin (A := A0) (B := TA1 K H v d m fun _ => True) ?_ (Hr.fin (B := TA1 K H v d m fun z => z ≠ "num" ∧ z ≠ "arg") ?_ (Hr.fin (B := TA3 K H v d m fun z => z ≠ "num" ∧ z ≠ "arg") ?_ (Hr.fin (B := TA4 K H v d m) ?_ (Q := Q) ?_)))) _ _ H ⟨rfl, rfl⟩ fun v H' h => h
      · rintro D σ H1 ⟨rfl, rfl⟩ kk rr
        refine ⟨_, rfl, _, _, rfl, rfl, _, rfl, ?_⟩
        rw [decide_eq_false (show ¬ ((m + 1 : Nat) : Int) < 1 by omega)]
        refine iteF ⟨v, rfl, _, _, _, _, _, rfl, .ty _, (dp_ty hd), kit_ty (kit_tup d), _, rfl, ?_⟩
        cases hd with
        | @tup a xs ds h hx =>
          refine iteF ⟨_, rfl, sz 0, fun p0 hp0 => ⟨.tuple ds, .tuple [], dp_ex (Ex.new hp0) (.tup h hx), .tup (SqT.of upd_same) .nil, ok.1.shaped (by have := ok.2.2; omega), by decide +kernel, _, rfl, ?_⟩⟩
          have e0 := Ex.new (o := .tup []) hp0
          generalize upd H1 p0 (.tup []) = H0 at e0 ⊢
          have h := ex_t e0 h
          have hx := dps_ex e0 hx
          cases hx with
          | nil =>
            rw [show PyData.eqv (.tuple []) (.tuple []) = true by decide +kernel]
            exact iteT (iteT (rr _ _ (qf e0 rfl)))
          | @cons v1 vr d1 dr h1 hr1 =>
            rw [show PyData.eqv (.tuple (d1 :: dr)) (.tuple []) = false by simp [PyData.eqv, PyData.eqvAll]]
            refine iteF ⟨_, rfl, a, _, 0, v1, rfl, rfl, h, at0, _, _, _, _, _, rfl, .ty _, dp_ty h1, kit_ty (kit_str d1), _, rfl, ?_⟩
            cases h1 with
            | str z => exact iteF (kk _ _ ⟨rfl, e0, a, z, vr, dr, rfl, rfl, h, hr1, trivial⟩)
            | _ => exact iteT (rr _ _ (qf e0 rfl))
        | _ => exact iteT (iteT (rr _ _ q0))
      · rintro D σ H1 ⟨rfl, e1, a, z, vr, dr, rfl, rfl, h, hr1, _⟩ kk rr
        refine ⟨_, rfl, a, _, 0, _, rfl, rfl, h, at0, sz 2, fun p hp => ⟨p, _, rfl, .inr (SqT.of upd_same), rfl, rfl, _, rfl, ?_⟩⟩
        have ep : Ex H1 (upd H1 p (.tup [.str "num", .str "arg"])) := Ex.new hp
        generalize upd H1 p (.tup [.str "num", .str "arg"]) = H2 at ep ⊢
        have e2 := e1.trans ep
        have h := ex_t ep h
        have hr1 := dps_ex ep hr1
        by_cases c1 : z = "num"
        · subst c1
          have hh : headD (.tuple (.str "num" :: dr)) = one1 (isNumD 1000002) dr := rfl
          refine iteT ⟨_, rfl, a, _, rfl, .inr h, rfl, _, rfl, ?_⟩
          rcases hr1 with _ | @⟨v2, vr2, d2, dr2, h2, hr2⟩
          · exact iteF (rr _ _ (qf e2 hh))
          · rcases hr2 with _ | ⟨h3, hr3⟩
            · refine iteT ⟨_, rfl, a, _, 1, _, rfl, rfl, h, rfl, fun pd hpd => ⟨upd_same, dA, rfl, by decide, _, rfl, a, _, 0, _, rfl, rfl, ex_t (Ex.mut (Ex.new hpd) hpd) h, at0, pd, .int 1000003, rfl, .inl ⟨_, .inr "num", .inl upd_same, rfl, by decide +kernel⟩, ?_⟩⟩
              have e3 := Ex.mut (o := .dK (mergeK [] dA)) (Ex.new (o := .dK []) hpd) hpd
              refine ⟨1000003, _, _, rfl, dp_ex e3 h2, fun H' e' => rr _ _ ?_⟩
              have q1 := q H' (e2.trans (e3.trans e'))
              rw [show isTm (m + 1) (.tuple [.str "num", d2]) = isNumD (1000003 - 1) d2 by show (isNumD 1000002 d2 && true) = _; rw [Bool.and_true]; rfl] at q1
              exact q1
            · rw [len_ne (by rw [List.length_cons, List.length_cons, List.length_cons]; omega)]
              exact iteF (rr _ _ (qf e2 hh))
        by_cases c2 : z = "arg"
        · subst c2
          have hh : headD (.tuple (.str "arg" :: dr)) = one1 (isNumD 3) dr := rfl
          refine iteT ⟨_, rfl, a, _, rfl, .inr h, rfl, _, rfl, ?_⟩
          rcases hr1 with _ | @⟨v2, vr2, d2, dr2, h2, hr2⟩
          · exact iteF (rr _ _ (qf e2 hh))
          · rcases hr2 with _ | ⟨h3, hr3⟩
            · refine iteT ⟨_, rfl, a, _, 1, _, rfl, rfl, h, rfl, fun pd hpd => ⟨upd_same, dA, rfl, by decide, _, rfl, a, _, 0, _, rfl, rfl, ex_t (Ex.mut (Ex.new hpd) hpd) h, at0, pd, .int 4, rfl, .inl ⟨_, .inr "arg", .inl upd_same, rfl, by decide +kernel⟩, ?_⟩⟩
              have e3 := Ex.mut (o := .dK (mergeK [] dA)) (Ex.new (o := .dK []) hpd) hpd
              refine ⟨4, _, _, rfl, dp_ex e3 h2, fun H' e' => rr _ _ ?_⟩
              have q1 := q H' (e2.trans (e3.trans e'))
              rw [show isTm (m + 1) (.tuple [.str "arg", d2]) = isNumD (4 - 1) d2 by show (isNumD 3 d2 && true) = _; rw [Bool.and_true]; rfl] at q1
              exact q1
            · rw [len_ne (by rw [List.length_cons, List.length_cons, List.length_cons]; omega)]
              exact iteF (rr _ _ (qf e2 hh))
        have no : inV (.str z) [.str "num", .str "arg"] = false := inV_two c1 c2
        rw [no]
        exact iteF (kk _ _ ⟨rfl, e2, a, z, vr, dr, rfl, rfl, h, hr1, c1, c2⟩)
      · rintro D σ H1 ⟨rfl, e1, a, z, vr, dr, rfl, rfl, h, hr1, c⟩ kk rr
        refine ⟨_, rfl, 1, rfl, a, _, rfl, h, fun y => ?_, fun _ p hp => ?_⟩
        · have z1 : HT.sIx (V.str z :: vr).length 0 (some ((1 : Nat) : Int)) = 0 := y.1
          rw [HT.sIx_nat, List.length_cons] at z1
          omega
        · rw [cut_tail]
          have f := Ex.new (o := .tup vr) hp
          exact kk _ _ ⟨e1.trans f, a, p, z, vr, dr, rfl, rfl, rfl, ex_t f h, dps_ex f hr1, SqT.of upd_same, c⟩
      · rintro D σ H1 ⟨e1, a, p, z, vr, dr, rfl, rfl, rfl, h, hr1, hp, cz⟩ kk rr
        have lr : vr.length = dr.length := dps_len hr1
        refine ⟨_, rfl, a, _, 0, _, rfl, rfl, h, at0, sz 2, fun p2 hp2 => ⟨p2, _, rfl, .inr (SqT.of upd_same), rfl, rfl, _, rfl, ?_⟩⟩
        have ep : Ex H1 (upd H1 p2 (.tup [.str "call", .str "ring"])) := Ex.new hp2
        generalize upd H1 p2 (.tup [.str "call", .str "ring"]) = H2 at ep ⊢
        have e2 := e1.trans ep
        have h := ex_t ep h
        have hp := ex_t ep hp
        have hr1 := dps_ex ep hr1
        by_cases cc : z = "call" ∨ z = "ring"
        · have co : z ∉ opWords := by rcases cc with rfl | rfl <;> decide +kernel
          rw [show inV (.str z) [.str "call", .str "ring"] = true by rcases cc with rfl | rfl <;> decide +kernel]
          have hh : ∃ f : PyData → Bool, headD (.tuple (.str z :: dr)) = two2 f isPartsD dr := by
            rcases cc with rfl | rfl
            · exact ⟨isMarkD, rfl⟩
            · exact ⟨isNumD 11, rfl⟩
          obtain ⟨f, hh⟩ := hh
          have bad : ∀ {H' : Hp}, Ex H H' → two2 f isPartsD dr = false → Q (.bl false) H' := fun {H'} e y => qf e (hh.trans y)
          refine iteT ⟨_, rfl, a, _, rfl, .inr h, rfl, _, rfl, ?_⟩
          rcases hr1 with _ | @⟨v2, vr2, d2, dr2, h2, hr2⟩
          · rw [len_ne (by rw [List.length_cons, List.length_nil]; omega)]
            exact iteT (iteT (rr _ _ (bad e2 rfl)))
          rcases hr2 with _ | @⟨v3, vr3, d3, dr3, h3, hr3⟩
          · rw [len_ne (by rw [List.length_cons, List.length_cons, List.length_nil]; omega)]
            exact iteT (iteT (rr _ _ (bad e2 rfl)))
          rcases hr3 with _ | ⟨h4, hr4⟩
          rotate_left 1
          · rw [len_ne (by rw [List.length_cons, List.length_cons, List.length_cons, List.length_cons]; omega)]
            exact iteT (iteT (rr _ _ (bad e2 rfl)))
          have w2 : two2 f isPartsD [d2, d3] = (f d2 && isPartsD d3) := rfl
          refine iteF ⟨_, rfl, a, _, 2, _, rfl, rfl, h, rfl, _, _, _, _, _, rfl, .ty _, dp_ty h3, kit_ty (kit_tup d3), _, rfl, ?_⟩
          cases h3 with
          | @tup b ys ts hb hbs =>
            have lt := dps_len hbs
            refine iteF ⟨_, rfl, a, _, 2, _, rfl, rfl, h, rfl, b, ys, rfl, .inr hb, _, _, rfl, rfl, _, rfl, ?_⟩
            by_cases c5 : ys.length ≤ 4
            · rw [decide_eq_false (show ¬ ((ys.length : Int) > 4) by omega)]
              have hp4 : isPartsD (.tuple ts) = true := decide_eq_true (by omega)
              have sm2 : Okd d2 := ok.tup d2 (by simp)
              have pd : partsD (.tuple [.str z, d2, .tuple ts]) = ts := if_neg co
              refine iteF ⟨_, rfl, a, _, 0, _, rfl, rfl, h, at0, rfl, _, rfl, ?_⟩
              rcases cc with rfl | rfl
              · have hf : headD (.tuple [.str "call", d2, .tuple ts]) = (isMarkD d2 && isPartsD (.tuple ts)) := rfl
                rw [decide_eq_true rfl]
                refine iteT ⟨_, rfl, a, _, 1, _, rfl, rfl, h, rfl, v2, d2, rfl, h2, sm2.1.small (by decide) sm2.2.1, fun H' e' => ⟨_, rfl, ?_⟩⟩
                cases cm : isMarkD d2 with
                | false => exact iteT (rr _ _ (qf (e2.trans e') (by rw [hf, cm]; rfl)))
                | true => exact iteF ⟨_, rfl, a, _, 2, _, rfl, rfl, ex_t e' h, rfl, kk _ _ ⟨e2.trans e', b, ys, rfl, ex_t e' hb, by rw [pd]; exact dps_ex e' hbs, by rw [hf, cm, hp4]; rfl⟩⟩
              · have hf : headD (.tuple [.str "ring", d2, .tuple ts]) = (isNumD 11 d2 && isPartsD (.tuple ts)) := rfl
                rw [decide_eq_false (show ¬ V.str "ring" = V.str "call" by decide +kernel)]
                refine iteF ⟨_, rfl, a, _, 1, _, rfl, rfl, h, rfl, 12, v2, d2, rfl, h2, fun H' e' => ⟨_, rfl, ?_⟩⟩
                have e12 : isNumD (12 - 1) d2 = isNumD 11 d2 := rfl
                rw [e12]
                cases cm : isNumD 11 d2 with
                | false => exact iteT (rr _ _ (qf (e2.trans e') (by rw [hf, cm]; rfl)))
                | true => exact iteF ⟨_, rfl, a, _, 2, _, rfl, rfl, ex_t e' h, rfl, kk _ _ ⟨e2.trans e', b, ys, rfl, ex_t e' hb, by rw [pd]; exact dps_ex e' hbs, by rw [hf, cm, hp4]; rfl⟩⟩
            · rw [decide_eq_true (show ((ys.length : Int) > 4) by omega)]
              refine iteT (rr _ _ (bad e2 ?_))
              rw [w2, show isPartsD (.tuple ts) = false from decide_eq_false (by omega), Bool.and_false]
          | _ => exact iteT (iteT (rr _ _ (bad e2 (by rw [w2]; exact Bool.and_false _))))
        · have c3 : z ≠ "call" := fun y => cc (.inl y)
          have c4 : z ≠ "ring" := fun y => cc (.inr y)
          rw [show inV (.str z) [.str "call", .str "ring"] = false from inV_two c3 c4]
          refine iteF ⟨_, rfl, p, vr, rfl, .inr hp, fun pd hpd => ⟨upd_same, dB, rfl, by decide, pd, rfl, .inl ⟨_, .inl upd_same⟩, _, rfl, a, _, 0, _, rfl, rfl, ex_t (Ex.mut (Ex.new hpd) hpd) h, at0, 1, rfl, _, .inl ⟨_, .inr z, .inl upd_same, rfl, rfl⟩, ?_⟩⟩
          have e3 := Ex.mut (o := .dK (mergeK [] dB)) (Ex.new (o := .dK []) hpd) hpd
          generalize upd (upd H2 pd (.dK [])) pd (.dK (mergeK [] dB)) = H3 at e3 ⊢
          rw [valB]
          refine ⟨rfl, _, rfl, ?_⟩
          by_cases co : z ∈ opWords
          · rw [if_pos co]
            have hf : headD (.tuple (.str z :: dr)) = decide (dr.length = arOf z) := if_pos co
            have pf : partsD (.tuple (.str z :: dr)) = dr := if_pos co
            by_cases c5 : dr.length = arOf z
            · rw [decide_eq_true (show V.int (vr.length : Int) = V.int (arOf z : Int) by rw [lr, c5])]
              exact iteF (kk _ _ ⟨e2.trans e3, p, vr, rfl, ex_t e3 hp, by rw [pf]; exact dps_ex e3 hr1, by rw [hf]; exact decide_eq_true c5⟩)
            · rw [decide_eq_false (show ¬ V.int (vr.length : Int) = V.int (arOf z : Int) from fun y => c5 (by have := V.int.inj y; omega))]
              exact iteT (rr _ _ (qf (e2.trans e3) (by rw [hf]; exact decide_eq_false c5)))
          · rw [if_neg co, decide_eq_false (show ¬ V.int (vr.length : Int) = V.int (-1) from fun y => by have := V.int.inj y; omega)]
            refine iteT (rr _ _ (qf (e2.trans e3) ?_))
            show (if z ∈ opWords then decide (dr.length = arOf z)
              else if z = "num" then one1 (isNumD 1000002) dr
              else if z = "arg" then one1 (isNumD 3) dr
              else if z = "call" then two2 isMarkD isPartsD dr
              else if z = "ring" then two2 (isNumD 11) isPartsD dr
              else false) = false
            rw [if_neg co, if_neg cz.1, if_neg cz.2, if_neg c3, if_neg c4]
      · rintro D σ H1 ⟨e1, p, us, rfl, h2, hus, hh⟩ rr
        obtain ⟨n', rfl⟩ : ∃ n', n = n' + 1 := ⟨n - 1, by omega⟩
        rw [er, hh] at q
        have hlen := dps_len hus
        refine ⟨_, rfl, p, rfl, ⟨us, h2⟩, fun Dl hD => ?_⟩
        refine lc_tup (xs := us) (fun i H3 => Ex H1 H3 ∧ H3 Dl = some (.lst ((((partsD d).take i).map (isTm m)).map V.bl))) ⟨Ex.new hD, upd_same⟩ (fun i H3 _ k => ex_t k.1 h2) ?_ ?_
        · rintro i x H3 hi ⟨e3, h3⟩
          obtain ⟨u, hu, hxu⟩ := dps_get hus hi
          refine ⟨rfl, yes ⟨_, rfl, _, rfl, _, _, rfl, rfl, imp n' _ _ _ _ rfl ⟨m, x, u, ?_, by omega, dp_ex e3 hxu, ok.parts (get_mem hu), fun H4 e4 => ⟨_, e4 Dl _ h3, ?_, Ex.mut (e3.trans e4) hD, ?_⟩⟩⟩⟩
          · show [x, V.int (((m + 1 : Nat) : Int) - 1)] = [x, V.int (m : Int)]
            rw [show (((m + 1 : Nat) : Int) - 1) = (m : Int) by omega]
          · rw [List.length_map, List.length_map, List.length_take]
            have := (List.getElem?_eq_some_iff.mp hu).1
            exact small1000 (by have := ok.few; omega)
          · rw [upd_same, take_more hu, List.map_append, List.map_append]
            rfl
        · rintro H3 ⟨e3, h3⟩
          rw [hlen, List.take_length] at h3
          refine ⟨Dl, _, rfl, SqL.of h3, rr _ _ ?_⟩
          have q1 := q H3 (e1.trans e3)
          rw [show (((partsD d).map (isTm m)).all id) = (partsD d).all (isTm m) by rw [List.all_map]; rfl]
          exact q1
  intro n
  induction n with
  | zero => exact main 0 0 (Nat.zero_le _) (fun _ _ _ _ => False) (fun m _ _ _ _ e _ => by cases e) (T.D__law_is_a_term.never fun _ _ _ _ h => h)
  | succ n ih => exact main (n + 1) (n + 2) (Nat.le_refl _) _ (fun m vs H Q E e h => by cases e; exact h) ih
end
end V


set_option Elab.async false
set_option linter.all false
set_option maxRecDepth 100000
set_option maxHeartbeats 4000000
namespace V
open PySem PySem.Spec PyProof.Rows L2 Evl TL NumText
section
variable {P : Program} {w : World} {K : PySem.W.Frag} {mg : Str → Option Value} {base : Heap}
theorem ok_bent (T : Txt K w mg) (G__law_take : Cal P w K mg base 1 "_law_take" ["box", "size"] spTake) (G__law_odd : Cal P w K mg base 2 "_law_odd" ["box", "part"] (spOdd K)) :
    ∀ n : Nat, Cal P w K mg base (n + 3) "_law_bent" ["box", "thing"] (spBent K n) := by
  have main : ∀ (n j : Nat) (hj : j ≤ n + 2) (sp : Sp) (imp : ∀ m vs H Q E, n = m + 1 → spBent K m vs H Q E → sp vs H Q E) (G__law_bent : Cal P w K mg base j "_law_bent" ["box", "thing"] sp), Cal P w K mg base (n + 3) "_law_bent" ["box", "thing"] (spBent K n) := by
    intro n j hj sp imp G__law_bent
    refine T.D__law_bent.cal sc__law_bent (fun vs H Q E h => ?_) (fun f cdv A outer s H vs Q E hr h => ?_)
    · obtain ⟨b, c, m, v, d, rfl, _⟩ := h
      rfl
    obtain ⟨b, c, m, v, d, rfl, hm, hdp, hdz, hB, hd, ff, hw, q⟩ := h
    refine ⟨_, (pss_cons (ps_if (PW.pt (pw_or (pt_not (pt_val (pe_bi call_isi T.z_isinstance (pa_cons (pv 1) (pa_cons (pe_ty T.z_tuple) pa_nil))))) (pw_or (pt_cmpR (op_eqD hr.units) (pv 1) (pe_tup pa_nil) (nomark _)) (pw_or1 (pt_cmpR op_eq (pe_fn G__law_take hr (by omega) (pa_cons (pv 0) (pa_cons pe_int pa_nil))) pe_int (nomark _))))))
    (pss_one (ps_ret (pe_fn G__law_odd hr (by omega) (pa_cons (pv 0) (pa_cons (pv 1) pa_nil)))))
    pss_nil)
  (pss_cons (ps_set (i := 2) sc__law_bent.nd rfl (.inl rfl) (pe_ifExp (pt_cmpR op_eq (pe_fn G__law_take hr (by omega) (pa_cons (pv 0) (pa_cons pe_int pa_nil))) pe_int (nomark _)) (pe_op op_sub (pe_bi call_len_seq T.z_len (pa_cons (pv 1) pa_nil)) pe_int) (pe_fn G__law_take hr (by omega) (pa_cons (pv 0) (pa_cons (pe_bi call_len_seq T.z_len (pa_cons (pv 1) pa_nil)) pa_nil)))))
  (pss_one (ps_ret (pe_op op_catA (pe_op op_catA (pe_slice sl_tupA (pv 1) po_none (po_some (pv 2))) (pe_tup (pa_cons (pe_fn G__law_bent hr (by omega) (pa_cons (pv 0) (pa_cons (pe_ix (r := rIxT K) ix_tup (pv 1) (pv 2) (fun _ _ => rfl)) pa_nil))) pa_nil))) (pe_slice sl_tupA (pv 1) (po_some (pe_op op_add (pv 2) pe_int)) po_none)))))), ?_⟩
    let A0 : L2.St → Hp → Prop := fun σ H' => σ = [some (.ref b), some v, none] ∧ H' = H
    refine (Hr.fin (A := A0) (B := BA1 K b (c + 4 * n + 3) v d H) ?_ (Hs.fin (B := BA2 K b (c + 4 * n) v d H) ?_ (Q := Q) ?_)) _ _ H ⟨rfl, rfl⟩ fun v H' h => h
    · rintro D σ H1 ⟨rfl, rfl⟩ kk rr
      have odd : ∀ {H2 : Hp} {k : Nat}, But b H1 H2 → Box H2 b (k + 1) → c ≤ k → Dp K (wo b H2) v d → tFn (spOdd K) (tCons (tVar 0) (tCons (tVar 1) tNil)) [some (.ref b), some v, none] H2 D.rt := fun {H2 k} u B hk dd =>
        ⟨_, rfl, _, rfl, b, k, m, v, d, rfl, hm, B, dd, ff, hw, fun H3 v' d' u3 B3 d3 g => rr _ _ (q H3 v' d' (u.trans u3) (B3.less hk) d3 g)⟩
      refine ⟨v, rfl, _, _, _, _, _, rfl, .ty _, (dp_ty (dp_ex wo_le hd)), kit_ty (kit_tup d), _, rfl, ?_⟩
      cases id hd with
      | @tup a xs ds h hx =>
        refine iteF ⟨_, rfl, sz 0, fun p0 hp0 => ⟨.tuple ds, .tuple [], dp_ex ((wo_le).trans (Ex.new hp0)) (.tup h hx), .tup (SqT.of upd_same) .nil, ff.shaped (by omega), by decide +kernel, _, rfl, ?_⟩⟩
        have e0 := Ex.new (o := .tup []) hp0
        have B0 := hB.ex e0
        generalize upd H1 p0 (.tup []) = H0 at e0 B0 ⊢
        have h := ex_t (wo_ex (b := b) e0) h
        have hx := dps_ex (wo_ex (b := b) e0) hx
        cases hx with
        | nil =>
          rw [show PyData.eqv (.tuple []) (.tuple []) = true by decide +kernel]
          exact iteT (iteT (odd (But.of e0) (k := c + 4 * n + 3) B0 (by omega) (.tup h .nil)))
        | @cons v1 vr d1 dr h1 hr1 =>
          rw [show PyData.eqv (.tuple (d1 :: dr)) (.tuple []) = false by simp [PyData.eqv, PyData.eqvAll]]
          refine iteF ⟨_, rfl, b, 4, c + 4 * n + 3, rfl, by decide, by decide, B0, fun H2 r u2 B2 r0 r1 => ⟨rfl, _, rfl, ?_⟩⟩
          have h := ex_t (wo_but u2) h
          have hd2 : Dp K (wo b H2) (.ref a) (.tuple (d1 :: dr)) := .tup h (dps_ex (wo_but u2) (.cons h1 hr1))
          by_cases c0 : r = 0
          · rw [decide_eq_true (show V.int r = V.int 0 by rw [c0])]
            exact iteT (odd ((But.of e0).trans u2) (k := c + 4 * n + 2) B2 (by omega) hd2)
          · rw [decide_eq_false (show ¬ V.int r = V.int 0 from fun z => c0 (V.int.inj z))]
            exact iteF (kk _ _ ⟨rfl, (But.of e0).trans u2, B2, hd2, d1 :: dr, rfl, Nat.succ_pos _⟩)
      | _ => exact iteT (iteT (odd (But.refl b H1) (k := c + 4 * n + 3) hB (by omega) hd))
    · rintro D σ H1 ⟨rfl, u1, B1, hd1, ds, rfl, hl⟩ kk
      cases id hd1 with
      | @tup a xs _ h hx =>
      have lx := dps_len hx
      refine ⟨_, rfl, b, 3, c + 4 * n + 2, rfl, by decide, by decide, B1, fun H2 r u2 B2 r0 r1 => ⟨rfl, _, rfl, ?_⟩⟩
      have hd2 := dp_ex (wo_but u2) hd1
      have h2 := ex_t (wo_but u2) h
      by_cases c0 : r = 0
      · rw [decide_eq_true (show V.int r = V.int 0 by rw [c0])]
        refine iteT ⟨_, rfl, a, xs, rfl, .inr (ex_t wo_le h2), _, _, rfl, rfl, ?_⟩
        show D.nx [some (.ref b), some (.ref a), some (.int ((xs.length : Int) - 1))] H2
        rw [show ((xs.length : Int) - 1) = ((ds.length - 1 : Nat) : Int) by omega]
        exact kk _ _ ⟨ds.length - 1, rfl, u1.trans u2, B2.less (by omega), hd2, ds, rfl, by omega⟩
      · rw [decide_eq_false (show ¬ V.int r = V.int 0 from fun z => c0 (V.int.inj z))]
        have wl := wts_len ds
        have wd : wtD (PyData.tuple ds) = wtsD ds + 1 := by rw [wtD]
        refine iteF ⟨_, rfl, _, rfl, a, xs, rfl, .inr (ex_t wo_le h2), b, (xs.length : Int), c + 4 * n + 1, rfl, by omega, by omega, B2, fun H3 i u3 B3 i0 i1 => ?_⟩
        obtain ⟨k, rfl⟩ := Int.eq_ofNat_of_zero_le i0
        exact kk _ _ ⟨k, rfl, u1.trans (u2.trans u3), B3.less (by omega), dp_ex (wo_but u3) hd2, ds, rfl, by omega⟩
    · rintro D σ H1 ⟨i, rfl, u1, B1, hd1, ds, rfl, hi⟩ rr
      have wl := wts_len ds
      have wd : wtD (PyData.tuple ds) = wtsD ds + 1 := by rw [wtD]
      obtain ⟨n', rfl⟩ : ∃ n', n = n' + 1 := ⟨n - 1, by rw [PyData.depth] at hdp; omega⟩
      have hb1 := B1.no
      refine yd_cut (K := K) (b := b) (lo := none) (hi := some (i : Int)) (yd_var hb1 hd1) (fun H2 e2 Q q => q) (fun H2 e2 Q q => ⟨_, rfl, _, rfl, q⟩) H1 (Ex.refl H1) _ fun H2 x e2 r2 => ?_
      rw [cut_to hi] at r2
      have hd2 := dp_ex (wo_ex e2) hd1
      cases id hd2 with
      | @tup a xs _ h hx =>
      have lx := dps_len hx
      have hix : xs[i]? = some (xs[i]'(by omega)) := List.getElem?_eq_getElem _
      obtain ⟨di, hdi, hdp2⟩ := dps_get hx hix
      refine ⟨_, rfl, _, rfl, _, rfl, a, xs, (i : Int), _, rfl, rfl, ex_t wo_le h, atI_nat hix, imp n' _ _ _ _ rfl ⟨b, c, m, _, di, rfl, hm, ?_, ?_, (B1.ex e2).less (by omega), hdp2, ff.part di (get_mem hdi), ?_, fun H3 y d' u3 B3 d3 g => ?_⟩⟩
      · rw [PyData.depth] at hdp
        have := dep_mem (get_mem hdi)
        omega
      · rw [PyData.depth] at hdz
        have := dep_mem (get_mem hdi)
        omega
      · have := wts_mem (get_mem hdi)
        omega
      refine ⟨sz 1, fun p hp => ?_⟩
      have f := Ex.new (o := .tup [y]) hp
      have hb3 := B3.no
      have nb := ne_fresh hb3 hp
      refine cat_go (b := b) (ds := ds.take i) (es := [d']) (there hb3 f) (dp_ex (wo_ex f) (dp_ex (wo_but u3) r2.2)) (.tup (SqT.of (wo_upd nb)) (.cons (dp_ex (wo_ex f) d3) .nil)) (by rw [List.length_take]; show _ + 1 ≤ 1000; omega) fun H4 z e4 r4 => ?_
      have hd4 := dp_ex (wo_ex e4) (dp_ex (wo_ex f) (dp_ex (wo_but u3) hd2))
      have hb4 := there hb3 (f.trans e4)
      refine yd_cut (K := K) (b := b) (lo := some ((i : Int) + 1)) (hi := none) (yd_var hb4 hd4) (fun H2 e2 Q q => ⟨_, rfl, _, _, rfl, rfl, _, rfl, q⟩) (fun H2 e2 Q q => q) H4 (Ex.refl H4) _ fun H5 w5 e5 r5 => ?_
      rw [cut_from hi] at r5
      refine cat_go (b := b) (there hb4 e5) (dp_ex (wo_ex e5) r4) r5.2 (by rw [List.length_append, List.length_take, List.length_drop]; show _ + 1 + _ ≤ 1000; omega) fun H6 z6 e6 r6 => ?_
      exact rr _ _ (q H6 z6 _ ((u1.trans (But.of e2)).trans (u3.trans (But.of (f.trans (e4.trans (e5.trans e6)))))) (B3.ex (f.trans (e4.trans (e5.trans e6)))) r6 (gr_at ff hdi g))
  intro n
  induction n with
  | zero => exact main 0 0 (Nat.zero_le _) (fun _ _ _ _ => False) (fun m _ _ _ _ e _ => by cases e) (T.D__law_bent.never fun _ _ _ _ h => h)
  | succ n ih => exact main (n + 1) (n + 3) (Nat.le_refl _) _ (fun m vs H Q E e h => by cases e; exact h) ih
end
end V


set_option Elab.async false
set_option linter.all false
set_option maxRecDepth 100000
set_option maxHeartbeats 4000000
namespace V
open PySem PySem.Spec PyProof.Rows L2 Evl TL NumText
section
variable {P : Program} {w : World} {K : PySem.W.Frag} {mg : Str → Option Value} {base : Heap}
theorem ok_odd (T : Txt K w mg) (G__law_take : Cal P w K mg base 1 "_law_take" ["box", "size"] spTake) : Cal P w K mg base 2 "_law_odd" ["box", "part"] (spOdd K) := by
  refine T.D__law_odd.cal sc__law_odd (fun vs H Q E h => ?_) (fun f cdv A outer s H vs Q E hr h => ?_)
  · obtain ⟨b, n, m, v, d, rfl, _⟩ := h
    rfl
  obtain ⟨b, n, m, v, d, rfl, hm, hB, hd, ff, hw, q⟩ := h
  have hb : H b ≠ none := by
    obtain ⟨x, y, z, e, _⟩ := hB
    rw [e]
    exact fun k => by cases k
  refine ⟨_, (pss_cons (ps_set (i := 2) sc__law_odd.nd rfl (.inl rfl) (pe_lst (pa_cons pe_non (pa_cons pe_bl (pa_cons pe_bl (pa_cons (pe_un un_neg pe_int) (pa_cons pe_int (pa_cons pe_int (pa_cons pe_int (pa_cons pe_int (pa_cons pe_int (pa_cons pe_int (pa_cons pe_int (pa_cons (pe_op op_pow pe_int pe_int) (pa_cons pe_str (pa_cons pe_str (pa_cons pe_str (pa_cons pe_str (pa_cons pe_str (pa_cons pe_str pa_nil))))))))))))))))))))
  (pss_cons (ps_set (i := 2) sc__law_odd.nd rfl (.inl rfl) (pe_op op_cat (pv 2) (pe_lst (pa_cons pe_str (pa_cons pe_str (pa_cons pe_str (pa_cons pe_str (pa_cons pe_str (pa_cons pe_str (pa_cons (pe_tup pa_nil) (pa_cons (pe_lst pa_nil) (pa_cons (pe_tup (pa_cons pe_str (pa_cons pe_int pa_nil))) (pa_cons (pe_lst (pa_cons pe_str (pa_cons pe_int pa_nil))) (pa_cons (pe_tup (pa_cons pe_str (pa_cons pe_int pa_nil))) pa_nil))))))))))))))
  (pss_cons (ps_set (i := 2) sc__law_odd.nd rfl (.inl rfl) (pe_op op_cat (pv 2) (pe_lst (pa_cons (pe_tup (pa_cons (pv 1) pa_nil)) (pa_cons (pe_lst (pa_cons (pv 1) pa_nil)) (pa_cons (pe_tup (pa_cons (pv 1) (pa_cons (pv 1) pa_nil))) (pa_cons (pe_tup (pa_cons pe_str (pa_cons pe_int pa_nil))) (pa_cons (pe_tup (pa_cons pe_str (pa_cons pe_bl pa_nil))) (pa_cons (pe_tup (pa_cons pe_str (pa_cons pe_int (pa_cons (pe_tup pa_nil) pa_nil)))) (pa_cons (pe_tup (pa_cons pe_str (pa_cons pe_str (pa_cons (pe_tup pa_nil) pa_nil)))) pa_nil))))))))))
  (pss_cons (ps_if (pt_val (pe_bi call_isi T.z_isinstance (pa_cons (pv 1) (pa_cons (pe_ty T.z_int) pa_nil))))
    (pss_one (ps_set (i := 2) sc__law_odd.nd rfl (.inl rfl) (pe_op op_cat (pv 2) (pe_lst (pa_cons (pe_op op_addN (pv 1) pe_int) (pa_cons (pe_op op_subN (pv 1) pe_int) (pa_cons (pe_bt call_strN T.z_str (pa_cons (pv 1) pa_nil)) pa_nil)))))))
    pss_nil)
  (pss_cons (ps_if (pt_val (pe_bi call_isi T.z_isinstance (pa_cons (pv 1) (pa_cons (pe_ty T.z_str) pa_nil))))
    (pss_one (ps_set (i := 2) sc__law_odd.nd rfl (.inl rfl) (pe_op op_cat (pv 2) (pe_lst (pa_cons (pe_op op_add_str (pv 1) pe_str) (pa_cons (pe_slice sl_str (pv 1) po_none (po_some (pe_un un_neg pe_int))) (pa_cons (pe_bm0 PySem.F.plainAttrs_str PySem.F.slot_str_upper PySem.F.type_str_upper mt_upper (pv 1)) (pa_cons (pe_revS (pv 1)) pa_nil))))))))
    pss_nil)
  (pss_cons (ps_if (pt_val (pe_bi call_isi T.z_isinstance (pa_cons (pv 1) (pa_cons (pe_ty T.z_tuple) pa_nil))))
    (pss_cons (ps_set (i := 2) sc__law_odd.nd rfl (.inl rfl) (pe_op op_cat (pv 2) (pe_lst (pa_cons (pe_bt call_list_of T.z_list (pa_cons (pv 1) pa_nil)) (pa_cons (pe_op op_catA (pv 1) (pe_slice sl_tupA (pv 1) (po_some (pe_un un_neg pe_int)) po_none)) (pa_cons (pe_slice sl_tupA (pv 1) (po_some pe_int) po_none) (pa_cons (pe_revT (pv 1)) (pa_cons (pe_op op_catA (pe_tup (pa_cons pe_str pa_nil)) (pe_slice sl_tupA (pv 1) (po_some pe_int) po_none)) (pa_cons (pe_op op_catA (pe_tup (pa_cons pe_str pa_nil)) (pe_slice sl_tupA (pv 1) (po_some pe_int) po_none)) pa_nil)))))))))
    (pss_one (ps_set (i := 2) sc__law_odd.nd rfl (.inl rfl) (pe_op op_cat (pv 2) (pe_lst (pa_cons (pe_tup (pa_cons pe_str (pa_cons pe_str (pa_cons (pe_tup (pa_cons (pv 1) pa_nil)) pa_nil)))) (pa_cons (pe_tup (pa_cons pe_str (pa_cons (pv 1) (pa_cons (pv 1) pa_nil)))) (pa_cons (pe_tup (pa_cons pe_str (pa_cons pe_int (pa_cons (pv 1) pa_nil)))) (pa_cons (pe_op op_catA (pv 1) (pe_tup (pa_cons (pe_tup (pa_cons pe_str (pa_cons pe_int pa_nil))) pa_nil))) pa_nil)))))))))
    pss_nil)
  (pss_one (ps_ret (pe_ix (r := rIxL K) ix_list (pv 2) (pe_fn G__law_take hr (by omega) (pa_cons (pv 0) (pa_cons (pe_bi call_len_seq T.z_len (pa_cons (pv 2) pa_nil)) pa_nil))) (fun _ _ => rfl)))))))))), ?_⟩
  let A0 : L2.St → Hp → Prop := fun σ H' => σ = [some (.ref b), some v, none] ∧ H' = H
  refine (Hs.fin (A := A0) (B := SOn K b m v d H 18) ?_ (Hs.fin (B := SOn K b m v d H 29) ?_ (Hs.fin (B := SOn K b m v d H 36) ?_ (Hs.fin (B := SOn K b m v d H 39) ?_ (Hs.fin (B := SOn K b m v d H 43) ?_ (Hs.fin (B := SOn K b m v d H 53) ?_ (Q := Q) ?_)))))) _ _ H ⟨rfl, rfl⟩ fun v H' h => h
  · rintro D σ H0 ⟨rfl, rfl⟩ kk
    exact so_new (L := L0) (k := 18) hb (ya_d (yd_non hb) (ya_d (yd_bl _ hb) (ya_d (yd_bl _ hb) (ya_d (yd_neg hb) (ya_d (yd_int _ hb) (ya_d (yd_int _ hb) (ya_d (yd_int _ hb) (ya_d (yd_int _ hb) (ya_d (yd_int _ hb) (ya_d (yd_int _ hb) (ya_d (yd_int _ hb) (ya_d (yd_pow hb)
      (ya_d (yd_str _ hb) (ya_d (yd_str _ hb) (ya_d (yd_str _ hb) (ya_d (yd_str _ hb) (ya_d (yd_str _ hb) (ya_d (yd_str _ hb) (ya_d0 hb))))))))))))))))))) (by decide) (by decide) (by decide) gr_L0 kk
  · rintro D σ H1 s kk
    have hb1 := s.there hb
    exact so_add (j := 11) hb s (fun l => ⟨L1, ya_d (yd_str _ hb1) (ya_d (yd_str _ hb1) (ya_d (yd_str _ hb1) (ya_d (yd_str _ hb1) (ya_d (yd_str _ hb1) (ya_d (yd_str _ hb1) (ya_d (yd_tup (ya_d0 hb1) (by decide)) (ya_d (yd_lst (ya_d0 hb1) (by decide))
      (ya_d (yd_tup (ya_d (yd_str _ hb1) (ya_d (yd_int _ hb1) (ya_d0 hb1))) (by decide)) (ya_d (yd_lst (ya_d (yd_str _ hb1) (ya_d (yd_int _ hb1) (ya_d0 hb1))) (by decide)) (ya_d (yd_tup (ya_d (yd_str _ hb1) (ya_d (yd_int _ hb1) (ya_d0 hb1))) (by decide)) (ya_d0 hb1))))))))))), by decide, gr_L1⟩) (by decide) kk
  · rintro D σ H1 s kk
    have hb1 := s.there hb
    have hv : ∀ {x : Option V}, Yl (tVar 1) [some (.ref b), some v, x] H1 (DR K b d) := fun {x} => yd_var hb1 (dp_ex (wo_ex s.ex) hd)
    exact so_add (j := 7) hb s (fun l => ⟨L2' d, ya_d (yd_tup (ya_d hv (ya_d0 hb1)) (Nat.le_of_ble_eq_true rfl)) (ya_d (yd_lst (ya_d hv (ya_d0 hb1)) (Nat.le_of_ble_eq_true rfl)) (ya_d (yd_tup (ya_d hv (ya_d hv (ya_d0 hb1))) (Nat.le_of_ble_eq_true rfl)) (ya_d (yd_tup (ya_d (yd_str _ hb1) (ya_d (yd_int _ hb1) (ya_d0 hb1))) (by decide))
      (ya_d (yd_tup (ya_d (yd_str _ hb1) (ya_d (yd_bl _ hb1) (ya_d0 hb1))) (by decide)) (ya_d (yd_tup (ya_d (yd_str _ hb1) (ya_d (yd_int _ hb1) (ya_d (yd_tup (ya_d0 hb1) (by decide)) (ya_d0 hb1)))) (by decide))
      (ya_d (yd_tup (ya_d (yd_str _ hb1) (ya_d (yd_str _ hb1) (ya_d (yd_tup (ya_d0 hb1) (by decide)) (ya_d0 hb1)))) (by decide)) (ya_d0 hb1))))))), by exact Nat.le_refl 7, gr_L2 ff⟩) (by decide) kk
  · rintro D σ H1 s kk
    have hb1 := s.there hb
    have hd1 := dp_ex (wo_ex s.ex) hd
    have hv : ∀ {x : Option V}, Yl (tVar 1) [some (.ref b), some v, x] H1 (DR K b d) := fun {x} => yd_var hb1 hd1
    obtain ⟨l0, vs0, L00, rfl, s2⟩ := id s
    refine ⟨v, rfl, _, _, _, _, _, rfl, .ty _, dp_ty (dp_ex wo_le hd1), kit_ty (kit_int d), _, rfl, ?_⟩
    have no : ∀ {σ : L2.St}, SOn K b m v d H 36 σ H1 → D.nx σ H1 := fun s => kk _ _ (s.up (by decide))
    cases hd1 with
    | int i =>
      cases ff with
      | int hi =>
      obtain ⟨t1, t2⟩ := int_text (by omega) hi
      exact iteT (so_add (j := 3) hb s (fun l => ⟨[.int (i + 1), .int (i - 1), .str (toString i : String)], ya_d (yd_addN rfl hb1) (ya_d (yd_subN rfl hb1) (ya_d (yd_strN (by exact of_decide_eq_true (FinD.able (m := m) (by omega) (.int hi))) hb1) (ya_d0 hb1))), by exact Nat.le_refl 3, fun x hx => by
        rcases List.mem_cons.mp hx with rfl | hx
        · exact gr_int (by omega)
        rcases List.mem_cons.mp hx with rfl | hx
        · exact gr_int (by omega)
        · rw [List.mem_singleton.mp hx]
          exact gr_str (by omega) t2⟩) (by decide) kk)
    | bl c =>
      have b1 : (if c = true then (1 : Int) else 0).natAbs ≤ 1 := by cases c <;> decide
      exact iteT (so_add (j := 3) hb s (fun l => ⟨[.int ((if c = true then 1 else 0) + 1), .int ((if c = true then 1 else 0) - 1), .str (if c = true then "True" else "False")], ya_d (yd_addN rfl hb1) (ya_d (yd_subN rfl hb1) (ya_d (yd_strB c hb1) (ya_d0 hb1))), by exact Nat.le_refl 3, fun x hx => by
        have big : (1000 : Nat) ≤ 10 ^ 30 := by decide
        rcases List.mem_cons.mp hx with rfl | hx
        · exact gr_int (by omega)
        rcases List.mem_cons.mp hx with rfl | hx
        · exact gr_int (by omega)
        · rw [List.mem_singleton.mp hx]
          cases c
          · exact okG_gr (by decide +kernel)
          · exact okG_gr (by decide +kernel)⟩) (by decide) kk)
    | _ => exact iteF (no s)
  · rintro D σ H1 s kk
    have hb1 := s.there hb
    have hd1 := dp_ex (wo_ex s.ex) hd
    obtain ⟨l0, vs0, L00, rfl, s2⟩ := id s
    refine ⟨v, rfl, _, _, _, _, _, rfl, .ty _, dp_ty (dp_ex wo_le hd1), kit_ty (kit_str d), _, rfl, ?_⟩
    have no : ∀ {σ : L2.St}, SOn K b m v d H 39 σ H1 → D.nx σ H1 := fun s => kk _ _ (s.up (by decide))
    cases hd1 with
    | str x =>
      cases ff with
      | str hx ha =>
      obtain ⟨a1, a2⟩ := fin_add0 ha
      obtain ⟨r1, r2⟩ := fin_rev ha
      obtain ⟨u1, u2⟩ := fin_up ha
      have c1 := cutS_length x none (some (-1))
      exact iteT (so_add (j := 4) hb s (fun l => ⟨[.str (x ++ "0"), .str (cutS x none (some (-1))), .str (Txt.upper x), .str (revS x)], ya_d (yd_add0 (by omega) hb1) (ya_d (yd_cutS (by omega) hb1) (ya_d (yd_upper (by omega) hb1) (ya_d (yd_revS (by omega) hb1) (ya_d0 hb1)))), by exact Nat.le_refl 4, fun z hz => by
        rcases List.mem_cons.mp hz with rfl | hz
        · exact gr_str (by omega) a2
        rcases List.mem_cons.mp hz with rfl | hz
        · exact gr_str (by omega) (fin_cut _ _ ha)
        rcases List.mem_cons.mp hz with rfl | hz
        · exact gr_str (by omega) u2
        · rw [List.mem_singleton.mp hz]
          exact gr_str (by omega) r2⟩) (by decide) kk)
    | _ => exact iteF (no s)
  · rintro D σ H1 s kk
    have hb1 := s.there hb
    have hd1 := dp_ex (wo_ex s.ex) hd
    obtain ⟨l0, vs0, L00, rfl, s2⟩ := id s
    refine ⟨v, rfl, _, _, _, _, _, rfl, .ty _, dp_ty (dp_ex wo_le hd1), kit_ty (kit_tup d), _, rfl, ?_⟩
    have no : ∀ {σ : L2.St}, SOn K b m v d H 43 σ H1 → D.nx σ H1 := fun s => kk _ _ (s.up (by decide))
    cases hk : hd1 with
    | @tup a xs ds h hx =>
      have wd : wtD (PyData.tuple ds) = wtsD ds + 1 := by rw [wtD]
      have wl := wts_len ds
      have hv : ∀ {x : Option V} {H1 : Hp}, Ex H H1 → Yl (tVar 1) [some (.ref b), some (.ref a), x] H1 (DR K b (.tuple ds)) := fun {x H1} e => yd_var (there hb e) (dp_ex (wo_ex e) hd)
      have c1 := cut_len ds (some 1) none
      have c2 := cut_len ds (some (-1)) none
      have one : ∀ {x : Option V} {H1 : Hp}, Ex H H1 → Yl (tSl (rSlA K) (tVar 1) (tPart (tC (.int 1))) tNoPart) [some (.ref b), some (.ref a), x] H1 (DR K b (.tuple (cutD ds (some 1) none))) := fun {x H1} e =>
        yd_cut (hv e) (fun H2 e2 Q q => ⟨1, rfl, q⟩) fun H2 e2 Q q => q
      have neg : ∀ {x : Option V} {H1 : Hp}, Ex H H1 → Yl (tSl (rSlA K) (tVar 1) (tPart (tUn (rU fun i => .int (-i)) (tC (.int 1)))) tNoPart) [some (.ref b), some (.ref a), x] H1 (DR K b (.tuple (cutD ds (some (-1)) none))) := fun {x H1} e =>
        yd_cut (hv e) (fun H2 e2 Q q => ⟨1, rfl, _, rfl, q⟩) fun H2 e2 Q q => q
      have e1 := s.ex
      refine iteT (seqs (A := SOn K b m (.ref a) (.tuple ds) H 43) (B := SOn K b m (.ref a) (.tuple ds) H 49) (fun D σ H1 s kk => so_add (j := 6) hb s (fun l => ?_) (by decide) kk) s fun σ2 H2 s2 => so_add (j := 4) hb s2 (fun l => ?_) (by decide) kk)
      · have e1 := s.ex
        have hb1 := s.there hb
        exact ⟨L3 ds, ya_d (yd_list (hv e1)) (ya_d (yd_cat (hv e1) (neg e1) (by omega)) (ya_d (one e1) (ya_d (yd_revT (hv e1)) (ya_d (yd_cat (yd_tup (ya_d (yd_str _ hb1) (ya_d0 hb1)) (by decide)) (one e1) (by show 1 + _ ≤ 1000; omega))
          (ya_d (yd_cat (yd_tup (ya_d (yd_str _ hb1) (ya_d0 hb1)) (by decide)) (one e1) (by show 1 + _ ≤ 1000; omega)) (ya_d0 hb1)))))), Nat.le_refl 6, gr_L3 ff⟩
      · have e1 := s2.ex
        have hb1 := s2.there hb
        exact ⟨L4 (.tuple ds) ds, ya_d (yd_tup (ya_d (yd_str _ hb1) (ya_d (yd_str _ hb1) (ya_d (yd_tup (ya_d (hv e1) (ya_d0 hb1)) (Nat.le_of_ble_eq_true rfl)) (ya_d0 hb1)))) (Nat.le_of_ble_eq_true rfl)) (ya_d (yd_tup (ya_d (yd_str _ hb1) (ya_d (hv e1) (ya_d (hv e1) (ya_d0 hb1)))) (Nat.le_of_ble_eq_true rfl))
          (ya_d (yd_tup (ya_d (yd_str _ hb1) (ya_d (yd_int _ hb1) (ya_d (hv e1) (ya_d0 hb1)))) (Nat.le_of_ble_eq_true rfl)) (ya_d (yd_cat (hv e1) (yd_tup (ya_d (yd_tup (ya_d (yd_str _ hb1) (ya_d (yd_int _ hb1) (ya_d0 hb1))) (Nat.le_of_ble_eq_true rfl)) (ya_d0 hb1)) (Nat.le_of_ble_eq_true rfl)) (by show _ + 1 ≤ 1000; omega)) (ya_d0 hb1)))), Nat.le_refl 4, gr_L4 ff⟩
    | _ => exact iteF (no s)
  · rintro D σ H1 ⟨l, vs, L, rfl, e, hl, nl, hs, l0, lk, hg⟩ kk
    refine ⟨_, rfl, _, rfl, _, rfl, l, vs, rfl, .inl (SqL.of hl), b, (vs.length : Int), n, rfl, by omega, by omega, hB.ex e, fun H2 i u2 B2 i0 i1 => ?_⟩
    obtain ⟨k, rfl⟩ := Int.eq_ofNat_of_zero_le i0
    have hk : k < vs.length := by omega
    obtain ⟨x, hx1, hx2⟩ := dps_get hs (List.getElem?_eq_getElem hk)
    exact ⟨l, vs, k, _, rfl, rfl, SqL.of (u2 l _ nl hl), atI_nat (List.getElem?_eq_getElem hk), kk _ _ (q H2 _ x ((But.of e).trans u2) B2 (dp_ex (wo_but u2) hx2) (hg x (get_mem hx1)))⟩
end
end V


set_option Elab.async false
set_option linter.all false
set_option maxRecDepth 100000
set_option maxHeartbeats 4000000
namespace V
open PySem PySem.Spec PyProof.Rows L2 Evl
section
variable {P : Program} {w : World} {K : PySem.W.Frag} {mg : Str → Option Value} {base : Heap}
theorem ok_take (D : Def K mg "_law_take" s__law_take ["box", "size"]) (zd : mg "divmod" = none) : Cal P w K mg base 1 "_law_take" ["box", "size"] spTake := by
  refine D.cal sc__law_take (fun vs H Q E h => ?_) (fun f cdv A outer s H vs Q E hr h => ?_)
  · obtain ⟨b, size, n, rfl, _⟩ := h
    rfl
  obtain ⟨b, size, n, rfl, s0, s1, hB, q⟩ := h
  obtain ⟨x, y, z, hb, x0, y0, y1, z0, z1⟩ := hB
  refine ⟨_, pss_cons (ps_if (pt_cmpR op_gt (pe_ix ix_list (pv 0) pe_int (fun _ _ => rfl)) pe_int (nomark _))
      (pss_cons (ps_asg (pe_bi call_divmod zd (pa_cons (pe_ix ix_list (pv 0) pe_int (fun _ _ => rfl)) (pa_cons (pv 1) pa_nil)))
          (pg_tup rfl (pgs_cons (pg_sub (pv 0) pe_int set_list) (pgs_cons (pg_name (i := 2) sc__law_take.nd rfl (.inl rfl)) pgs_nil))))
        (pss_one (ps_ret (pv 2)))) pss_nil)
    (pss_cons (ps_if (pt_cmpR op_gt (pv 1) (pe_op op_pow pe_int pe_int) (nomark _)) pss_never pss_nil)
    (pss_cons (ps_asg (pe_op op_add (pe_ix ix_list (pv 0) pe_int (fun _ _ => rfl)) pe_int) (pg_sub (pv 0) pe_int set_list))
    (pss_cons (ps_set (i := 3) sc__law_take.nd rfl (.inl rfl) (pe_op op_add pe_int (pe_op op_mul (pe_ix ix_list (pv 0) pe_int (fun _ _ => rfl)) (pe_ix ix_list (pv 0) pe_int (fun _ _ => rfl)))))
    (pss_cons (ps_set (i := 4) sc__law_take.nd rfl (.inl rfl) (pe_op op_mod (pe_op op_mul (pe_op op_add (pe_ix ix_list (pv 0) pe_int (fun _ _ => rfl)) (pe_op op_mul pe_int (pe_ix ix_list (pv 0) pe_int (fun _ _ => rfl)))) (pv 3)) pe_int))
    (pss_cons (ps_set (i := 5) sc__law_take.nd rfl (.inl rfl) (pe_op op_mod (pe_op op_add (pe_op op_mul (pv 4) (pe_op op_add (pe_op op_mod (pv 4) pe_int) pe_int)) (pe_ix ix_list (pv 0) pe_int (fun _ _ => rfl))) pe_int))
    (pss_one (ps_ret (pe_op op_mod (pe_op op_fdiv (pe_op op_mod (pe_op op_mul (pv 5) (pe_op op_add (pe_op op_mod (pv 5) pe_int) pe_int)) pe_int) pe_int) (pv 1))))))))), ?_⟩
  have hS : SqL K H b [.int x, .int y, .int z] := .inl (.inl hb)
  refine ⟨.ref b, rfl, b, _, 0, .int x, rfl, rfl, hS, rfl, x, 0, rfl, rfl, _, rfl, ite2 (fun c => ?_) (fun c => ?_)⟩
  · -- the number's own digits
    have hx : 0 < x := of_decide_eq_true c
    refine ⟨.ref b, rfl, b, _, 0, .int x, rfl, rfl, hS, rfl, .int size, rfl, x, size, rfl, ⟨s0, by omega⟩, fun p hp => ?_⟩
    have hbp : b ≠ p := ne_of_none hb hp
    have hb1 : (upd H p (.tup [.int (x / size), .int (x % size)])) b = some (.lst [.int x, .int y, .int z]) := by
      rw [upd_ne hbp]
      exact hb
    refine ⟨p, _, rfl, .inl (.inl upd_same), rfl, .int (x / size), _, rfl, .ref b, rfl, b, [.int x, .int y, .int z], 0, 0, rfl, rfl, hb1, rfl, .int (x % size), _, rfl, rfl, ?_⟩
    refine ⟨_, rfl, q _ _ (But.upd (But.of (Ex.new hp))) ⟨x / size, y, z, upd_same, Int.ediv_nonneg x0 (by omega), y0, y1, z0, by omega⟩ (Int.emod_nonneg _ (by omega)) (Int.emod_lt_of_pos _ s0)⟩
  · refine ⟨.int size, rfl, 10, 7, rfl, rfl, ⟨by decide, by decide, by decide⟩, size, _, rfl, rfl, _, rfl, ite2 (fun c2 => ?_) (fun _ => ?_)⟩
    · have : (10 : Int) ^ (7 : Int).toNat < size := of_decide_eq_true c2
      have e7 : (10 : Int) ^ (7 : Int).toNat = 10000000 := by decide
      omega
    refine ⟨.ref b, rfl, b, _, 2, .int z, rfl, rfl, hS, rfl, z, 1, rfl, rfl, .ref b, rfl, b, [.int x, .int y, .int z], 2, 2, rfl, rfl, hb, rfl, ?_⟩
    have hb1 : (upd H b (.lst [.int x, .int y, .int (z + 1)])) b = some (.lst [.int x, .int y, .int (z + 1)]) := upd_same
    have hS1 : SqL K (upd H b (.lst [.int x, .int y, .int (z + 1)])) b [.int x, .int y, .int (z + 1)] := .inl (.inl hb1)
    refine ⟨.ref b, rfl, b, _, 2, .int (z + 1), rfl, rfl, hS1, rfl, .ref b, rfl, b, _, 2, .int (z + 1), rfl, rfl, hS1, rfl, _, _, rfl, rfl, .inl ⟨by omega, by omega⟩, _, _, rfl, rfl, ?_⟩
    refine ⟨.ref b, rfl, b, _, 1, .int y, rfl, rfl, hS1, rfl, .ref b, rfl, b, _, 2, .int (z + 1), rfl, rfl, hS1, rfl, _, _, rfl, rfl, .inl ⟨by omega, by omega⟩, _, _, rfl, rfl, _, rfl, _, _, rfl, rfl, .inl ⟨by omega, by omega⟩, _, _, rfl, rfl, (by show (0 : Int) < 2147483587; decide), ?_⟩
    refine ⟨_, rfl, _, rfl, _, _, rfl, rfl, (by show (0 : Int) < 30011; decide), _, _, rfl, rfl, _, _, rfl, rfl, .inl ⟨by omega, by omega⟩, .ref b, rfl, b, _, 2, .int (z + 1), rfl, rfl, hS1, rfl, _, _, rfl, rfl, _, _, rfl, rfl, (by show (0 : Int) < 2147483563; decide), ?_⟩
    refine ⟨_, rfl, _, rfl, _, _, rfl, rfl, (by show (0 : Int) < 1013; decide), _, _, rfl, rfl, _, _, rfl, rfl, .inl ⟨by omega, by omega⟩, _, _, rfl, rfl, (by show (0 : Int) < 998244353; decide), _, _, rfl, rfl, ⟨by decide, by decide⟩, .int size, rfl, _, _, rfl, rfl, s0, ?_⟩
    exact q _ _ (But.upd (But.refl b H)) ⟨x, y, z + 1, upd_same, x0, y0, y1, by omega, by omega⟩ (Int.emod_nonneg _ (by omega)) (Int.emod_lt_of_pos _ s0)
end
end V


set_option Elab.async false
set_option linter.all false
set_option maxRecDepth 100000
set_option maxHeartbeats 4000000
namespace V
open PySem PySem.Spec PyProof.Rows L2 Evl
section
variable {P : Program} {w : World} {K : PySem.W.Frag} {mg : Str → Option Value} {base : Heap}
theorem ok_number (D : Def K mg "_law_number" s__law_number ["box"]) (G : Cal P w K mg base 1 "_law_take" ["box", "size"] spTake) : Cal P w K mg base 2 "_law_number" ["box"] spNum := by
  refine D.cal sc__law_number (fun vs H Q E h => ?_) (fun f cdv A outer s H vs Q E hr h => ?_)
  · obtain ⟨b, n, rfl, _⟩ := h
    rfl
  obtain ⟨b, n, rfl, hB, q⟩ := h
  refine ⟨_, pss_one (ps_ret (pe_ix ix_list (pe_lst (pa_cons (pe_fn G hr (by decide) (pa_cons (pv 0) (pa_cons pe_int pa_nil)))
    (pa_cons (pe_fn G hr (by decide) (pa_cons (pv 0) (pa_cons pe_int pa_nil)))
    (pa_cons (pe_op op_sub pe_int (pe_fn G hr (by decide) (pa_cons (pv 0) (pa_cons pe_int pa_nil)))) pa_nil))))
    (pe_fn G hr (by decide) (pa_cons (pv 0) (pa_cons pe_int pa_nil))) (fun _ _ => rfl))), ?_⟩
  refine ⟨_, rfl, b, 4, n + 3, rfl, by decide, by decide, hB, fun H1 r1 u1 B1 l1 g1 => ?_⟩
  refine ⟨_, rfl, b, 1000, n + 2, rfl, by decide, by decide, B1, fun H2 r2 u2 B2 l2 g2 => ?_⟩
  refine ⟨_, rfl, b, 3, n + 1, rfl, by decide, by decide, B2, fun H3 r3 u3 B3 l3 g3 => ?_⟩
  refine ⟨_, _, rfl, rfl, sz 3, fun p hp => ?_⟩
  have e4 : Ex H3 (upd H3 p (.lst [.int r1, .int r2, .int (1000002 - r3)])) := Ex.new hp
  refine ⟨_, rfl, b, 3, n, rfl, by decide, by decide, B3.ex e4, fun H5 r5 u5 B5 l5 g5 => ?_⟩
  have hbp : p ≠ b := by
    obtain ⟨xs, hx⟩ := B3.lst
    exact (ne_of_none hx hp).symm
  have h5 : H5 p = some (.lst [.int r1, .int r2, .int (1000002 - r3)]) := u5 p _ hbp upd_same
  have but : But b H H5 := ((u1.trans u2).trans u3).trans ((But.of e4).trans u5)
  have w5 : r5 = 0 ∨ r5 = 1 ∨ r5 = 2 := by omega
  rcases w5 with rfl | rfl | rfl
  · exact ⟨p, _, 0, _, rfl, rfl, SqL.of h5, rfl, q H5 _ but B5 (by omega) (by omega)⟩
  · exact ⟨p, _, 1, _, rfl, rfl, SqL.of h5, rfl, q H5 _ but B5 (by omega) (by omega)⟩
  · exact ⟨p, _, 2, _, rfl, rfl, SqL.of h5, rfl, q H5 _ but B5 (by omega) (by omega)⟩
theorem ok_box (D : Def K mg "_law_box" s__law_box ["script", "k"]) (zl : mg "len" = none) (za : mg "abs" = none) (zi : mg "int" = none) : Cal P w K mg base 1 "_law_box" ["script", "k"] (spBox K) := by
  refine D.cal sc__law_box (fun vs H Q E h => ?_) (fun f cdv A outer s H vs Q E hr h => ?_)
  · obtain ⟨a, ns, k, rfl, _⟩ := h
    rfl
  obtain ⟨a, ns, k, rfl, hS, hk, q⟩ := h
  refine ⟨_, pss_cons (ps_set (i := 2) sc__law_box.nd rfl (.inl rfl) (pe_ifExp (pt_cmpR op_lt (pv 1) (pe_bi call_len_seq zl (pa_cons (pv 0) pa_nil)) (nomark _)) (pe_ix ix_list (pv 0) (pv 1) (fun _ _ => rfl)) pe_int))
    (pss_one (ps_ret (pe_lst (pa_cons (pe_op op_mul (pe_bi call_abs za (pa_cons (pv 2) pa_nil)) (pe_bt call_int1 zi (pa_cons (pe_cmpR op_ge (pe_bi call_abs za (pa_cons (pv 2) pa_nil)) (pe_op op_pow pe_int pe_int) (nomark _)) pa_nil)))
      (pa_cons (pe_op op_mod (pe_op op_mul (pe_op op_add (pe_op op_add (pe_op op_mod (pv 2) pe_int) (pe_op op_mul pe_int (pv 1))) pe_int) pe_int) pe_int) (pa_cons pe_int pa_nil)))))), ?_⟩
  -- behind the cell
  have fin : ∀ cell : Int, tRet (tLst (tCons (tOp (rI CMul fun i j => .int (i * j)) (tCB (fun xs H Q => ∃ i, xs = [.int i] ∧ Q (.int (if i < 0 then -i else i)) H) (tCons (tVar 2) tNil))
      (tCB (fun xs H Q => (∃ i, xs = [.int i] ∧ Q (.int i) H) ∨ ∃ k, xs = [.bl k] ∧ Q (.int (if k then 1 else 0)) H) (tCons (tOp (rI0 fun i j => .bl (decide (j ≤ i))) (tCB (fun xs H Q => ∃ i, xs = [.int i] ∧ Q (.int (if i < 0 then -i else i)) H) (tCons (tVar 2) tNil)) (tOp (rI CPow fun i j => .int (i ^ j.toNat)) (tC (.int 10)) (tC (.int 18)))) tNil)))
      (tCons (tOp (rI (fun _ j => 0 < j) fun i j => .int (i % j)) (tOp (rI CMul fun i j => .int (i * j)) (tOp (rI0 fun i j => .int (i + j)) (tOp (rI0 fun i j => .int (i + j)) (tOp (rI (fun _ j => 0 < j) fun i j => .int (i % j)) (tVar 2) (tC (.int 2147483629))) (tOp (rI CMul fun i j => .int (i * j)) (tC (.int 15485863)) (tVar 1))) (tC (.int 43))) (tC (.int 48271))) (tC (.int 2147483647)))
      (tCons (tC (.int 0)) tNil)))) { nx := fun _ H' => Q .non H', rt := Q } [some (.ref a), some (.int (k : Int)), some (.int cell)] H := by
    intro cell
    have m0 : 0 ≤ cell % 2147483629 := Int.emod_nonneg _ (by decide)
    have m1 : cell % 2147483629 < 2147483629 := Int.emod_lt_of_pos _ (by decide)
    refine ⟨_, rfl, cell, rfl, _, rfl, cell, rfl, _, _, rfl, rfl, ⟨by decide, by decide, by decide⟩, _, _, rfl, rfl, .inr ⟨_, rfl, _, _, rfl, rfl, .inr ?_, ?_⟩⟩
    · have z := ite01 (decide ((10 : Int) ^ (18 : Int).toNat ≤ if cell < 0 then -cell else cell) = true)
      exact ⟨by omega, by omega⟩
    refine ⟨_, rfl, _, _, rfl, rfl, (by show (0 : Int) < 2147483629; decide), _, rfl, _, _, rfl, rfl, .inl ⟨by decide, by decide⟩, _, _, rfl, rfl, _, _, rfl, rfl, _, _, rfl, rfl, .inl ⟨by omega, by omega⟩, _, _, rfl, rfl, (by show (0 : Int) < 2147483647; decide), ?_⟩
    refine ⟨sz 3, fun p hp => q _ p hp (Ex.new hp) ⟨_, _, _, upd_same, ?_, Int.emod_nonneg _ (by decide), Int.emod_lt_of_pos _ (by decide), by decide, by decide⟩⟩
    exact Int.mul_nonneg (by split <;> omega) (ite01 (decide ((10 : Int) ^ (18 : Int).toNat ≤ if cell < 0 then -cell else cell) = true)).1
  refine ⟨_, rfl, _, rfl, a, _, rfl, .inl hS, _, _, rfl, rfl, _, rfl, ite2 (fun c => ?_) (fun c => ?_)⟩
  · have hlt : (k : Int) < ((ns.map V.int).length : Int) := of_decide_eq_true c
    rw [List.length_map] at hlt
    have hk2 : k < ns.length := by omega
    refine ⟨_, rfl, _, rfl, a, _, _, .int ns[k], rfl, rfl, hS, atI_nat (by rw [List.getElem?_map, List.getElem?_eq_getElem hk2]; rfl), ?_⟩
    exact fin _
  · exact fin 0
end
end V


set_option Elab.async false
set_option linter.all false
set_option maxRecDepth 100000
set_option maxHeartbeats 4000000
namespace V
open PySem PySem.Spec PyProof.Rows L2 Evl
section
variable {P : Program} {w : World} {K : PySem.W.Frag} {mg : Str → Option Value} {base : Heap}
theorem ok_folded (D : Def K mg "_law_folded" s__law_folded ["script", "size"]) (zl : mg "list" = none) (ze : mg "enumerate" = none) : Cal P w K mg base 1 "_law_folded" ["script", "size"] (spFold K) := by
  refine D.cal sc__law_folded (fun vs H Q E h => ?_) (fun f cdv A outer s H vs Q E hr h => ?_)
  · obtain ⟨a, ns, size, rfl, _⟩ := h
    rfl
  obtain ⟨a, ns, size, rfl, hS, h63, s0, s1, q⟩ := h
  refine ⟨_, pss_cons (ps_set (i := 2) sc__law_folded.nd rfl (.inl rfl) (pe_bt call_list_of zl (pa_cons (pe_slice sl_list (pv 0) po_none (po_some (pv 1))) pa_nil)))
    (pss_cons (ps_for PassesOwn.never rfl (pi_enum rfl ze (pa_cons (pe_slice sl_list (pv 0) (po_some (pv 1)) (po_some pe_int)) pa_nil))
        (pg_tup rfl (pgs_cons (pg_name (i := 3) sc__law_folded.nd rfl (.inl rfl)) (pgs_cons (pg_name (i := 4) sc__law_folded.nd rfl (.inl rfl)) pgs_nil)))
      (pss_one (ps_asg (pe_op op_add (pe_ix ix_list (pv 2) (pe_op op_mod (pv 3) (pv 1)) (fun _ _ => rfl)) (pe_op op_mul (pv 4) (pe_op op_add (pv 3) pe_int))) (pg_sub (pv 2) (pe_op op_mod (pv 3) (pv 1)) set_list))))
    (pss_one (ps_ret (pv 2)))), ?_⟩
  refine ⟨_, rfl, _, rfl, _, rfl, a, _, rfl, hS, fun p1 n1 => ?_⟩
  have e1 : Ex H (upd H p1 (.lst (cutV (ns.map V.int) none (some (size : Int))))) := Ex.new n1
  refine ⟨p1, _, rfl, .inl (SqL.of upd_same), fun l nl => ?_⟩
  have e2 := e1.trans (Ex.new (o := .lst (cutV (ns.map V.int) none (some (size : Int)))) nl)
  have nlH : H l = none := fresh_back e1 nl
  refine ⟨_, rfl, _, rfl, _, rfl, _, rfl, a, _, rfl, ex_l e2 hS, fun p2 n2 => ?_⟩
  have e3 := e2.trans (Ex.new (o := .lst (cutV (ns.map V.int) (some (size : Int)) (some 63))) n2)
  refine ⟨p2, _, rfl, SqL.of upd_same, ?_⟩
  have hl1 : HT.sIx ns.length 0 (some (size : Int)) = min size ns.length := HT.sIx_nat _ _ _
  obtain ⟨ms, em, lm⟩ : ∃ ms : List Int, cutV (ns.map V.int) none (some (size : Int)) = ms.map V.int ∧ ms.length = min size ns.length := by
    refine ⟨_, cutV_map V.int ns none (some (size : Int)), ?_⟩
    rw [List.length_take, List.length_drop, HT.sIx_nat, HT.sIx_none]
    omega
  obtain ⟨bs, eb, lb⟩ : ∃ bs : List Int, cutV (ns.map V.int) (some (size : Int)) (some 63) = bs.map V.int ∧ (bs ≠ [] → size < ns.length) ∧ bs.length ≤ 63 := by
    refine ⟨_, cutV_map V.int ns (some (size : Int)) (some 63), fun ne => ?_, ?_⟩
    · by_cases c : size < ns.length
      · exact c
      · refine absurd ?_ ne
        rw [hl1, List.drop_eq_nil_of_le (by omega), List.take_nil]
    · rw [List.length_take, List.length_drop]
      omega
  rw [em] at e2 e3
  rw [eb] at e3
  rw [em, eb]
  have hp2l : p2 ≠ l := fun z => by
    rw [z, upd_same] at n2
    cases n2
  refine for_it (walk_enum (xs := bs.map V.int)) (fun i σ H3 => ∃ (y3 y4 : Option V) (cs : List Int), σ = [some (.ref a), some (.int (size : Int)), some (.ref l), y3, y4] ∧ Ex H H3 ∧ H3 l = some (.lst (cs.map V.int)) ∧ cs.length = ms.length ∧ H3 p2 = some (.lst (bs.map V.int)))
    ⟨none, none, ms, rfl, e3, ?_, rfl, upd_same⟩ (fun i σ H3 hi ⟨_, _, _, _, _, _, _, h⟩ => SqL.of h) ?_ ?_
  · rw [upd_ne hp2l.symm, upd_same]
  · rintro i v σ H3 H4 hi ⟨y3, y4, cs, rfl, e, hl, lc, hp⟩ ⟨T, x, y, rfl, nT, rfl, hx, hy⟩
    obtain rfl : V.int ((i : Nat) : Int) = x := Option.some.inj hx
    rw [List.length_map] at hi
    obtain rfl : V.int bs[i] = y := by
      have hy2 : (bs.map V.int)[i]? = some y := hy
      rw [List.getElem?_map, List.getElem?_eq_getElem hi] at hy2
      exact Option.some.inj hy2
    have hne : bs ≠ [] := fun z => by
      subst z
      cases hi
    have hsz := lb.1 hne
    have lTl : l ≠ T := ne_of_none hl nT
    have lTp : p2 ≠ T := ne_of_none hp nT
    have eT : Ex H (upd H3 T (.tup [.int ((i : Nat) : Int), .int bs[i]])) := e.trans (Ex.new nT)
    have hlT : (upd H3 T (.tup [.int ((i : Nat) : Int), .int bs[i]])) l = some (.lst (cs.map V.int)) := by
      rw [upd_ne lTl]
      exact hl
    have m0 : 0 ≤ ((i : Nat) : Int) % (size : Int) := Int.emod_nonneg _ (by omega)
    have m1 : ((i : Nat) : Int) % (size : Int) < (size : Int) := Int.emod_lt_of_pos _ (by omega)
    obtain ⟨j, ej⟩ : ∃ j : Nat, ((i : Nat) : Int) % (size : Int) = (j : Int) := ⟨(((i : Nat) : Int) % (size : Int)).toNat, by omega⟩
    have hj : j < cs.length := by omega
    refine ⟨T, _, rfl, SqT.of upd_same, rfl, _, _, rfl, _, _, rfl, rfl, ?_⟩
    refine ⟨_, rfl, _, rfl, _, rfl, _, _, rfl, rfl, (by show (0 : Int) < (size : Int); omega), l, cs.map V.int, (j : Int), .int cs[j], rfl, congrArg V.int ej, SqL.of hlT, atI_nat (by rw [List.getElem?_map, List.getElem?_eq_getElem hj]; rfl),
      _, rfl, _, rfl, _, _, rfl, rfl, _, _, rfl, rfl, .inr ⟨by omega, by omega⟩, _, _, rfl, rfl, _, rfl, _, rfl, _, rfl, _, _, rfl, rfl, (by show (0 : Int) < (size : Int); omega), l, _, (j : Int), j, rfl, congrArg V.int ej, hlT, ixN_nat (by rw [List.length_map]; exact hj), ?_⟩
    refine ⟨some (.int ((i : Nat) : Int)), some (.int bs[i]), cs.set j (cs[j] + bs[i] * (((i : Nat) : Int) + 2)), rfl, Ex.mut eT nlH, ?_, ?_, ?_⟩
    · rw [upd_same, List.map_set]
    · rw [List.length_set]
      exact lc
    · rw [upd_ne hp2l, upd_ne lTp]
      exact hp
  · rintro σ H3 ⟨y3, y4, cs, rfl, e, hl, lc, hp⟩
    exact ⟨_, rfl, q H3 l cs nlH e hl (by omega)⟩
end
end V


set_option Elab.async false
set_option linter.all false
set_option maxRecDepth 100000
set_option maxHeartbeats 400000
namespace V
open PySem PySem.Spec PyProof.Rows L2 Evl TL NumText
section
variable {P : Program} {w : World} {K : PySem.W.Frag} {mg : Str → Option Value} {base : Heap}
theorem ok_someMark (T : Txt K w mg) (G__law_take : Cal P w K mg base 1 "_law_take" ["box", "size"] spTake) : Cal P w K mg base 2 "_law_some_mark" ["box"] spSomeMark := by
  refine T.D__law_some_mark.cal sc__law_some_mark (fun vs H Q E h => ?_) (fun f cdv A outer s H vs Q E hr h => ?_)
  · obtain ⟨b, n, rfl, _⟩ := h
    rfl
  obtain ⟨b, n, rfl, hB, q⟩ := h
  refine ⟨_, (pss_cons (ps_set (i := 1) sc__law_some_mark.nd rfl (.inr rfl) pe_str)
  (pss_cons (ps_set (i := 2) sc__law_some_mark.nd rfl (.inl rfl) (pe_fn G__law_take hr (by omega) (pa_cons (pv 0) (pa_cons pe_int pa_nil))))
  (pss_cons (ps_if (pt_cmpR op_lt (pv 2) pe_int (nomark _))
    (pss_one (ps_ret (pe_ix (r := rIxL K) ix_list (pe_lst (pa_cons pe_str (pa_cons pe_str pa_nil))) (pv 2) (fun _ _ => rfl))))
    pss_nil)
  (pss_one (ps_ret (pe_join pe_str (pe_lc (own := [("turn", 3)]) (g := (gName 3)) (tt := tYes) rfl sc__law_some_mark.nd (pi_range1 rfl T.z_range (pa_cons pe_int pa_nil)) (blkOk_by (N := N__law_some_mark) (sc := defScope s__law_some_mark) (by decide +kernel)) (fun _ _ _ _ _ => (pg_name (i := 3) sc__law_some_mark.nd rfl (.inl rfl))) (fun _ _ _ _ _ => pts_nil) (fun _ _ _ _ _ => (pe_ix ix_str (pv 1) (pe_fn G__law_take hr (by omega) (pa_cons (pv 0) (pa_cons pe_int pa_nil))) (fun _ _ => rfl)))))))))), ?_⟩
  refine ⟨_, rfl, b, 6, n + 6, rfl, by decide, by decide, hB, fun H1 r u1 B1 r0 r1 => ?_⟩
  refine ⟨_, rfl, _, _, rfl, rfl, _, rfl, ?_⟩
  by_cases c : r < 2
  · rw [decide_eq_true c]
    refine iteT ⟨sz 2, fun p hp => ⟨_, rfl, p, [.str "000000", .str "zzzzzz"], r, ?_⟩⟩
    have w2 : r = 0 ∨ r = 1 := by omega
    have fin : ∀ m : Str, isMk m → Q (.str m) (upd H1 p (.lst [.str "000000", .str "zzzzzz"])) := fun m hm => q _ m (u1.trans (But.of (Ex.new hp))) ((B1.ex (Ex.new hp)).less (by omega)) hm
    rcases w2 with rfl | rfl
    · exact ⟨_, rfl, rfl, SqL.of upd_same, at0, fin _ ⟨by decide +kernel, by decide +kernel⟩⟩
    · exact ⟨_, rfl, rfl, SqL.of upd_same, at1, fin _ ⟨by decide +kernel, by decide +kernel⟩⟩
  · rw [decide_eq_false c]
    refine iteF ⟨⟨_, rfl⟩, 6, rfl, by decide, by decide, fun Dl hD => ?_⟩
    have hDb : Dl ≠ b := fun z => by
      obtain ⟨xs, hx⟩ := B1.lst
      rw [z, hx] at hD
      cases hD
    refine lc_range (lo := 0) (n := 6) (fun j H4 => But b H1 H4 ∧ Box H4 b (n + 6 - j) ∧ ∃ l : List Nat, l.length = j ∧ (∀ c ∈ l, (48 ≤ c ∧ c ≤ 57) ∨ (97 ≤ c ∧ c ≤ 122)) ∧ H4 Dl = some (.lst ((ones l).map V.str))) ⟨But.of (Ex.new hD), B1.ex (Ex.new hD), [], rfl, (fun c h => by cases h), upd_same⟩ ?_ ?_
    · rintro j H4 hj ⟨u4, B4, l, l1, l2, d4⟩
      refine ⟨rfl, yes ⟨_, rfl, _, rfl, b, 36, n + 6 - (j + 1), rfl, by decide, by decide, ?_, fun H5 k u5 B5 k0 k1 => ?_⟩⟩
      · rw [show n + 6 - (j + 1) + 1 = n + 6 - j by omega]
        exact B4
      obtain ⟨kn, rfl⟩ := Int.eq_ofNat_of_zero_le k0
      obtain ⟨ch, hc1, hc2⟩ := sg36_at kn (by omega)
      refine ⟨sg36, _, ch, rfl, rfl, by decide +kernel, hc1, _, u5 Dl _ hDb d4, ?_, ?_, ?_, l ++ [ch], ?_, ?_, ?_⟩
      · rw [List.length_map, ones, List.length_map]
        exact small1000 (by omega)
      · intro a o ha ho
        have n : a ≠ Dl := fun z => by
          rw [z, hD] at ho
          cases ho
        rw [upd_ne n]
        exact u5 a o ha (u4 a o ha ho)
      · obtain ⟨x, y, z, q1, q2⟩ := B5
        exact ⟨x, y, z, by rw [upd_ne hDb.symm]; exact q1, q2⟩
      · rw [List.length_append, l1]
        rfl
      · intro c hc
        rcases List.mem_append.mp hc with hc | hc
        · exact l2 c hc
        · rw [List.mem_singleton.mp hc]
          exact hc2
      · have e : ones (l ++ [ch]) = ones l ++ [⟨#[ch]⟩] := List.map_append ..
        rw [upd_same, e, List.map_append]
        rfl
    · rintro H4 ⟨u4, B4, l, l1, l2, d4⟩
      refine ⟨"", Dl, ones l, rfl, rfl, .inl (SqL.of d4), ?_, ?_⟩
      · rw [ones_sum, show ("" : Str).length = 0 by decide +kernel]
        omega
      · rw [join_eq]
        refine q H4 _ (u1.trans u4) B4 ⟨?_, fun c hc => l2 c ?_⟩
        · rw [len_tl, tl_ones, l1]
        · have h2 : c ∈ tl (Str.join "" (ones l)) := hc
          rw [tl_ones] at h2
          exact h2
end
end V


set_option Elab.async false
set_option linter.all false
set_option maxRecDepth 100000
set_option maxHeartbeats 400000
namespace V
open PySem PySem.Spec PyProof.Rows L2 Evl TL NumText
section
variable {P : Program} {w : World} {K : PySem.W.Frag} {mg : Str → Option Value} {base : Heap}
theorem ok_term (T : Txt K w mg) (G__law_take : Cal P w K mg base 1 "_law_take" ["box", "size"] spTake) (G__law_number : Cal P w K mg base 2 "_law_number" ["box"] spNum) :
    ∀ d : Nat, Cal P w K mg base (d + 2) "_law_term" ["box", "many", "heads", "tall"] (spTerm d)
  | 0 => (T.D__law_term.never fun vs H Q E h => by
      obtain ⟨b, hp, n, many, tall, _, _, h1, h2, _⟩ := h
      omega).mono (Nat.zero_le _)
  | d + 1 => by
    have G__law_term := ok_term T G__law_take G__law_number d
    refine T.D__law_term.cal sc__law_term (fun vs H Q E h => ?_) (fun f cdv A outer s H vs Q E hr h => ?_)
    · obtain ⟨b, hp, n, many, tall, rfl, _⟩ := h
      rfl
    obtain ⟨b, hp, n, many, tall, rfl, hB, t1, t2, m1, m2, hn, hh, q⟩ := h
    refine ⟨_, (pss_cons (ps_set (i := 4) sc__law_term.nd rfl (.inl rfl) (pe_ifExp (pt_cmpR op_gt (pv 3) pe_int (nomark _)) (pe_fn G__law_take hr (by omega) (pa_cons (pv 0) (pa_cons pe_int pa_nil))) (pe_fn G__law_take hr (by omega) (pa_cons (pv 0) (pa_cons pe_int pa_nil)))))
  (pss_cons (ps_if (PW.pt (pw_or (pt_cmpR op_eq (pv 4) pe_int (nomark _)) (pw_or1 (PW.pt (pw_and (pt_cmpR op_eq (pv 4) pe_int (nomark _)) (pw_and1 (pt_cmpR op_eq (pv 1) pe_int (nomark _))))))))
    (pss_one (ps_ret (pe_tup (pa_cons pe_str (pa_cons (pe_fn G__law_number hr (by omega) (pa_cons (pv 0) pa_nil)) pa_nil)))))
    pss_nil)
  (pss_cons (ps_if (pt_cmpR op_eq (pv 4) pe_int (nomark _))
    (pss_one (ps_ret (pe_tup (pa_cons pe_str (pa_cons (pe_fn G__law_take hr (by omega) (pa_cons (pv 0) (pa_cons (pv 1) pa_nil))) pa_nil)))))
    pss_nil)
  (pss_cons (ps_if (PW.pt (pw_or (pt_cmpR op_lt (pv 4) pe_int (nomark _)) (pw_or1 (PW.pt (pw_and (pt_cmpR (op_eqD hr.units) (pv 2) (pe_lst pa_nil) (nomark _)) (pw_and1 (pt_cmpR op_gt (pv 4) pe_int (nomark _))))))))
    (pss_cons (ps_par (i := 5) (j := 6) rfl sc__law_term.nd rfl rfl (by decide) rfl rfl (pa_cons (pe_ix (r := rIxL K) ix_list (pe_lst (pa_cons pe_str (pa_cons pe_str (pa_cons pe_str (pa_cons pe_str pa_nil))))) (pe_fn G__law_take hr (by omega) (pa_cons (pv 0) (pa_cons pe_int pa_nil))) (fun _ _ => rfl)) (pa_cons (pe_fn G__law_term hr (by omega) (pa_cons (pv 0) (pa_cons (pv 1) (pa_cons (pv 2) (pa_cons (pe_op op_sub (pv 3) pe_int) pa_nil))))) pa_nil)) rfl)
    (pss_one (ps_ret (pe_tup (pa_cons (pv 5) (pa_cons (pv 6) (pa_cons (pe_fn G__law_term hr (by omega) (pa_cons (pv 0) (pa_cons (pv 1) (pa_cons (pv 2) (pa_cons (pe_op op_sub (pv 3) pe_int) pa_nil))))) pa_nil)))))))
    pss_nil)
  (pss_cons (ps_if (pt_cmpR op_eq (pv 4) pe_int (nomark _))
    (pss_cons (ps_par (i := 6) (j := 7) rfl sc__law_term.nd rfl rfl (by decide) rfl rfl (pa_cons (pe_fn G__law_term hr (by omega) (pa_cons (pv 0) (pa_cons (pv 1) (pa_cons (pv 2) (pa_cons (pe_op op_sub (pv 3) pe_int) pa_nil))))) (pa_cons (pe_fn G__law_term hr (by omega) (pa_cons (pv 0) (pa_cons (pv 1) (pa_cons (pv 2) (pa_cons (pe_op op_sub (pv 3) pe_int) pa_nil))))) pa_nil)) rfl)
    (pss_one (ps_ret (pe_tup (pa_cons pe_str (pa_cons (pv 6) (pa_cons (pv 7) (pa_cons (pe_fn G__law_term hr (by omega) (pa_cons (pv 0) (pa_cons (pv 1) (pa_cons (pv 2) (pa_cons (pe_op op_sub (pv 3) pe_int) pa_nil))))) pa_nil))))))))
    pss_nil)
  (pss_cons (ps_asg (pe_ix (r := rIxL K) ix_list (pv 2) (pe_fn G__law_take hr (by omega) (pa_cons (pv 0) (pa_cons (pe_bi call_len_seq T.z_len (pa_cons (pv 2) pa_nil)) pa_nil))) (fun _ _ => rfl)) (pg_tup rfl (pgs_cons (pg_name (i := 8) sc__law_term.nd rfl (.inl rfl)) (pgs_cons (pg_name (i := 9) sc__law_term.nd rfl (.inl rfl)) pgs_nil))))
  (pss_cons (ps_set (i := 10) sc__law_term.nd rfl (.inl rfl) (pe_lst pa_nil))
  (pss_cons (ps_for PassesOwn.never rfl (pi_range1 rfl T.z_range (pa_cons (pv 9) pa_nil)) (pg_name (i := 11) sc__law_term.nd rfl (.inl rfl))
    (pss_one (ps_expr (pe_bm PySem.F.plainAttrs_list PySem.F.slot_list_append PySem.F.type_list_append mt_append (pv 10) (pa_cons (pe_fn G__law_term hr (by omega) (pa_cons (pv 0) (pa_cons (pv 1) (pa_cons (pv 2) (pa_cons (pe_op op_sub (pv 3) pe_int) pa_nil))))) pa_nil)))))
  (pss_one (ps_ret (pe_op op_catA (pv 8) (pe_tup (pa_cons (pe_bt call_tuple_of T.z_tuple (pa_cons (pv 10) pa_nil)) pa_nil))))))))))))), ?_⟩
    let A0 : L2.St → Hp → Prop := fun σ H' => σ = [some (.ref b), some (.int (many : Int)), some (.ref hp), some (.int (tall : Int)), none, none, none, none, none, none, none, none] ∧ H' = H
    let A1 : L2.St → Hp → Prop := fun σ H' => ∃ r : Int, σ = [some (.ref b), some (.int (many : Int)), some (.ref hp), some (.int (tall : Int)), some (.int r), none, none, none, none, none, none, none] ∧ 0 ≤ r ∧ r < 9 ∧ (r < 2 ∨ 2 ≤ tall) ∧ But b H H' ∧ Box H' b (n + 4 + 4 * cost d) ∧ Heads H' hp
    have hB0 : Box H b (n + 4 + 4 * cost d + 1) := by
      have e : n + 4 + 4 * cost d + 1 = n + cost (d + 1) := by show _ = n + (5 + 4 * cost d); omega
      rw [e]
      exact hB
    refine (Hs.fin (A := A0) (B := A1) ?_ (Q := Q) ?_) _ _ H ⟨rfl, rfl⟩ fun v H' h => h
    · rintro D σ H' ⟨rfl, rfl⟩ kk
      obtain ⟨xs, hx⟩ := hB0.lst
      refine ⟨_, rfl, _, _, rfl, rfl, _, rfl, ?_⟩
      by_cases c : 2 ≤ tall
      · rw [show decide ((1 : Int) < (tall : Int)) = true from decide_eq_true (by omega)]
        exact iteT ⟨_, rfl, b, 9, _, rfl, by decide, by decide, hB0, fun H1 r u1 B1 r0 r1 => kk _ _ ⟨r, rfl, r0, r1, .inr c, u1, B1, hh.but hx hn u1⟩⟩
      · rw [show decide ((1 : Int) < (tall : Int)) = false from decide_eq_false (by omega)]
        exact iteF ⟨_, rfl, b, 2, _, rfl, by decide, by decide, hB0, fun H1 r u1 B1 r0 r1 => kk _ _ ⟨r, rfl, r0, by omega, .inl r1, u1, B1, hh.but hx hn u1⟩⟩
    · rintro D σ H1 ⟨r, rfl, r0, r9, rt, u1, B1, hh1⟩ kk
      have fin : ∀ (H' : Hp) (v : V) (t : Tm) (k : Nat), But b H H' → Box H' b (n + k) → TmAt H' v t → t.Ok 11 → t.deep ≤ d + 1 → t.size ≤ most (d + 1) → D.rt v H' := fun H' v t k a1 a2 a3 a4 a5 a6 => kk _ _ (q H' v t a1 (a2.less (by omega)) a3 a4 a5 a6)
      have szd : 1 + 4 * most d = most (d + 1) := rfl
      refine ⟨_, rfl, rfl, _, rfl, ?_⟩
      rw [dec_ii]
      by_cases c0 : r = 0
      · rw [decide_eq_true c0]
        refine iteT (iteT ⟨_, rfl, b, n + 4 * cost d, rfl, B1.less (by omega), fun H2 x u2 B2 x0 x1 => ⟨sz 2, fun p hp2 => ?_⟩⟩)
        obtain ⟨xn, rfl⟩ := Int.eq_ofNat_of_zero_le x0
        exact fin _ _ (.num xn) _ (u1.trans (u2.trans (But.of (Ex.new hp2)))) (B2.ex (Ex.new hp2)) (.num upd_same) (.num (by omega)) (by show 1 ≤ d + 1; omega) (by show 1 ≤ 1 + 4 * most d; omega)
      rw [decide_eq_false c0]
      refine iteF ⟨_, rfl, rfl, _, rfl, ?_⟩
      rw [dec_ii]
      by_cases c1 : r = 1
      · rw [decide_eq_true c1]
        refine iteT ⟨_, rfl, rfl, _, rfl, ?_⟩
        rw [dec_ii, decide_eq_false (by omega)]
        refine iteF ⟨_, rfl, rfl, _, rfl, ?_⟩
        rw [dec_ii, decide_eq_true c1]
        refine iteT ⟨_, rfl, _, rfl, b, many, n + 3 + 4 * cost d, rfl, by omega, by omega, B1.less (by omega), fun H2 x u2 B2 x0 x1 => ⟨sz 2, fun p hp2 => ?_⟩⟩
        obtain ⟨xn, rfl⟩ := Int.eq_ofNat_of_zero_le x0
        exact fin _ _ (.arg xn) (3 + 4 * cost d) (u1.trans (u2.trans (But.of (Ex.new hp2)))) ((B2.ex (Ex.new hp2)).less (by omega)) (.arg upd_same) (.arg (by omega)) (by show 1 ≤ d + 1; omega) (by show 1 ≤ 1 + 4 * most d; omega)
      rw [decide_eq_false c1]
      refine iteF (iteF ⟨_, rfl, rfl, _, rfl, ?_⟩)
      rw [dec_ii, decide_eq_false c1]
      have t3 : 2 ≤ tall := by omega
      have tm : ((tall - 1 : Nat) : Int) = (tall : Int) - 1 := by omega
      have sub : ∀ (H2 : Hp) (k : Nat) (Q2 : VK), Box H2 b (k + cost d) → Heads H2 hp → Drawn b k d H2 Q2 → spTerm d [.ref b, .int (many : Int), .ref hp, .int ((tall : Int) - 1)] H2 Q2 E0 := fun H2 k Q2 hB2 hh2 dr =>
        ⟨b, hp, k, many, tall - 1, by rw [tm], hB2, by omega, by omega, m1, m2, hn, hh2, dr⟩
      refine iteF ⟨_, rfl, _, _, rfl, rfl, _, rfl, ?_⟩
      by_cases c5 : r < 5
      · rw [decide_eq_true c5]
        refine iteT ⟨sz 4, fun pl hpl => ⟨_, rfl, b, 4, n + 3 + 4 * cost d, rfl, by decide, by decide, (B1.ex (Ex.new hpl)).less (by omega), fun H3 k u3 B3 k0 k1 => ?_⟩⟩
        obtain ⟨xs, hx⟩ := B1.lst
        have npl : pl ≠ b := fun z => by
          rw [z, hx] at hpl
          cases hpl
        have u13 : But b H1 H3 := (But.of (Ex.new hpl)).trans u3
        have hl3 := u3 pl _ npl upd_same
        have hh3 := hh1.but hx hn u13
        obtain ⟨o, ho, oa⟩ : ∃ o : Op, atI [V.str "add", V.str "less", V.str "times", V.str "under"] k = some (.str o.str) ∧ o.ar = 2 := by
          have w4 : k = 0 ∨ k = 1 ∨ k = 2 ∨ k = 3 := by omega
          rcases w4 with rfl | rfl | rfl | rfl
          · exact ⟨.add, rfl, rfl⟩
          · exact ⟨.less, rfl, rfl⟩
          · exact ⟨.times, rfl, rfl⟩
          · exact ⟨.under, rfl, rfl⟩
        refine ⟨pl, _, k, _, rfl, rfl, SqL.of hl3, ho, _, rfl, _, rfl, _, rfl, _, rfl, _, _, rfl, rfl, sub H3 (n + 3 * cost d) _ (B3.less (by omega)) hh3 fun H4 v1 s1 u4 B4 g1 o1 d1 z1 => ?_⟩
        obtain ⟨xs3, hx3⟩ := B3.lst
        have hh4 := hh3.but hx3 hn u4
        refine ⟨_, _, rfl, _, rfl, _, rfl, _, rfl, _, rfl, _, rfl, _, rfl, _, _, rfl, rfl, sub H4 (n + 2 * cost d) _ (B4.less (by omega)) hh4 fun H5 v2 s2 u5 B5 g2 o2 d2 z2 => ⟨sz 3, fun p hp5 => ?_⟩⟩
        have e6 := Ex.new (o := .tup [.str o.str, v1, v2]) hp5
        refine fin _ _ (.node (.op o) [s1, s2]) (2 * cost d) (u1.trans (u13.trans (u4.trans (u5.trans (But.of e6))))) (B5.ex e6) (.op upd_same (.cons ((g1.tu (B4.tu u5)).ex e6) (.cons (g2.ex e6) .nil))) (.node oa.symm fun t ht => ?_) ?_ ?_
        · simp only [List.mem_cons, List.not_mem_nil, or_false] at ht
          rcases ht with rfl | rfl
          · exact o1
          · exact o2
        · show 1 + max s1.deep (max s2.deep 0) ≤ d + 1
          omega
        · show 1 + (s1.size + (s2.size + 0)) ≤ 1 + 4 * most d
          omega
      rw [decide_eq_false c5]
      obtain ⟨dd, dp1, dp2, dp3⟩ := hh1.dp (K := K)
      refine iteF ⟨_, rfl, sz 0, fun pe hpe => ⟨dd, .list [], dp_ex (Ex.new hpe) dp1, .lst (SqL.of upd_same) .nil, dp2, rfl, _, rfl, ?_⟩⟩
      rw [dp3]
      have e2 := Ex.new (o := .lst []) hpe
      have u2 : But b H (upd H1 pe (.lst [])) := u1.trans (But.of e2)
      have B2 := B1.ex e2
      have hh2 : Heads (upd H1 pe (.lst [])) hp := by
        obtain ⟨xs, hx⟩ := B1.lst
        exact hh1.but hx hn (But.of e2)
      generalize upd H1 pe (.lst []) = H2 at u2 B2 hh2
      refine iteF (iteF ⟨_, rfl, rfl, _, rfl, ?_⟩)
      rw [dec_ii]
      by_cases c6 : r = 5
      · rw [decide_eq_true c6]
        obtain ⟨xs, hx⟩ := B2.lst
        refine iteT ⟨_, rfl, _, rfl, _, rfl, _, rfl, _, _, rfl, rfl, sub H2 (n + 3 * cost d) _ (B2.less (by omega)) hh2 fun H3 v1 s1 u3 B3 g1 o1 d1 z1 => ?_⟩
        have hh3 := hh2.but hx hn u3
        obtain ⟨xs3, hx3⟩ := B3.lst
        refine ⟨_, rfl, _, rfl, _, rfl, _, rfl, _, _, rfl, rfl, sub H3 (n + 2 * cost d) _ (B3.less (by omega)) hh3 fun H4 v2 s2 u4 B4 g2 o2 d2 z2 => ⟨_, _, rfl, ?_⟩⟩
        have hh4 := hh3.but hx3 hn u4
        refine ⟨_, rfl, _, rfl, _, rfl, _, rfl, _, rfl, _, rfl, _, _, rfl, rfl, sub H4 (n + cost d) _ (B4.less (by omega)) hh4 fun H5 v3 s3 u5 B5 g3 o3 d3 z3 => ⟨sz 4, fun p hp5 => ?_⟩⟩
        have e6 := Ex.new (o := .tup [.str "if", v1, v2, v3]) hp5
        refine fin _ _ (.node (.op .cond) [s1, s2, s3]) (cost d) (u2.trans (u3.trans (u4.trans (u5.trans (But.of e6))))) (B5.ex e6) (.op upd_same (.cons (((g1.tu (B3.tu u4)).tu (B4.tu u5)).ex e6) (.cons ((g2.tu (B4.tu u5)).ex e6) (.cons (g3.ex e6) .nil)))) (.node rfl fun t ht => ?_) ?_ ?_
        · simp only [List.mem_cons, List.not_mem_nil, or_false] at ht
          rcases ht with rfl | rfl | rfl
          · exact o1
          · exact o2
          · exact o3
        · show 1 + max s1.deep (max s2.deep (max s3.deep 0)) ≤ d + 1
          omega
        · show 1 + (s1.size + (s2.size + (s3.size + 0))) ≤ 1 + 4 * most d
          omega
      rw [decide_eq_false c6]
      obtain ⟨hv, hv1, hv2, hv3⟩ := hh2.get
      refine iteF ⟨_, rfl, _, rfl, _, rfl, hp, hv, rfl, .inl (SqL.of hv1), b, 4, n + 3 + 4 * cost d, by rw [hv2]; rfl, by decide, by decide, B2.less (by omega), fun H3 k u3 B3 k0 k1 => ?_⟩
      obtain ⟨xs, hx⟩ := B2.lst
      have hh3 := hh2.but hx hn u3
      obtain ⟨kn, rfl⟩ := Int.eq_ofNat_of_zero_le k0
      obtain ⟨v, hd, sn, e1, e2', e3, e4⟩ := hv3 kn (by omega)
      obtain ⟨a, c, rfl, ha, hc⟩ := e2'.tu (B2.tu u3)
      refine ⟨hp, hv, kn, _, rfl, rfl, SqL.of (u3 hp _ hn hv1), atI_nat e1, a, _, rfl, SqT.of ha, rfl, .ref c, _, rfl, .int (sn : Int), _, rfl, rfl, sz 0, fun l hl => ?_⟩
      have s4 : sn ≤ 4 := Hd.ok.le e4
      have nlb : l ≠ b := fun z => by
        obtain ⟨ys, hy⟩ := B3.lst
        rw [z, hy] at hl
        cases hl
      obtain ⟨xs3, hx3⟩ := B3.lst
      have step : ∀ i : Nat, i < 4 → (4 - i) * cost d = (4 - (i + 1)) * cost d + cost d := fun i hi => by rw [show 4 - i = (4 - (i + 1)) + 1 by omega, Nat.add_mul, Nat.one_mul]
      refine ⟨_, rfl, (sn : Int), rfl, by omega, by omega, ?_⟩
      refine for_range (n := sn) (fun i σ H' => ∃ (vs : List V) (ts : List Tm) (y : Option V), σ = [some (.ref b), some (.int (many : Int)), some (.ref hp), some (.int (tall : Int)), some (.int r), none, none, none, some (.ref c), some (.int (sn : Int)), some (.ref l), y] ∧
        But b H3 H' ∧ Box H' b (n + (4 - i) * cost d) ∧ H' l = some (.lst vs) ∧ TmsAt H' vs ts ∧ ts.length = i ∧ ∀ t ∈ ts, t.Ok 11 ∧ t.deep ≤ d ∧ t.size ≤ most d)
        ⟨[], [], none, rfl, But.of (Ex.new hl), (B3.less (by show n + 4 * cost d ≤ _; omega)).ex (Ex.new hl), upd_same, .nil, rfl, fun t h => by cases h⟩ ?_ ?_
      · rintro i σ H4 hi ⟨vs, ts, y, rfl, u4, B4, hl4, g4, len, all⟩
        have hh4 := hh3.but hx3 hn u4
        refine ⟨_, rfl, .inl ⟨rfl, vs, SqL.of hl4⟩, _, rfl, _, rfl, _, rfl, _, rfl, _, _, rfl, rfl, sub H4 (n + (4 - (i + 1)) * cost d) _ (B4.less (by rw [step i (by omega)]; omega)) hh4 fun H5 v t u5 B5 g5 o5 d5 z5 => ?_⟩
        have hl5 := u5 l _ nlb hl4
        have tu : Tu H5 (upd H5 l (.lst (vs ++ [v]))) := (But.upd (But.refl l H5)).tu hl5
        refine ⟨l, vs, v, rfl, rfl, hl5, small1000 (by rw [g4.length, len]; omega), vs ++ [v], ts ++ [t], _, rfl, ?_, ?_, upd_same, ((g4.tu (B4.tu u5)).tu tu).append (.cons (g5.tu tu) .nil), by rw [List.length_append, len]; rfl, fun x hx5 => ?_⟩
        · intro a o ha ho
          have na : a ≠ l := fun z => by
            rw [z, hl] at ho
            cases ho
          rw [upd_ne na]
          exact u5 a o ha (u4 a o ha ho)
        · obtain ⟨x, y, z, q1, q2⟩ := B5
          exact ⟨x, y, z, by rw [upd_ne nlb.symm]; exact q1, q2⟩
        · rcases List.mem_append.mp hx5 with hx5 | hx5
          · exact all x hx5
          · rw [List.mem_singleton.mp hx5]
            exact ⟨o5, d5, z5⟩
      · rintro σ H4 ⟨vs, ts, y, rfl, u4, B4, hl4, g4, len, all⟩
        have hc4 := B3.tu u4 c _ hc
        refine ⟨_, rfl, _, rfl, l, vs, rfl, .inl ⟨SqL.of hl4, fun pt hpt => ⟨sz 1, fun pp hpp => ?_⟩⟩⟩
        have f1 := Ex.new (o := .tup vs) hpt
        have f2 := Ex.new (o := .tup [.ref pt]) hpp
        have nL : hd.L ≠ [] := by cases hd <;> exact fun z => by cases z
        refine ⟨c, pp, hd.L, [.ref pt], rfl, rfl, SqT.of ((f1.trans f2) c _ hc4), SqT.of upd_same, ?_, fun z => absurd z nL, (fun _ z => by cases z), fun _ _ p hp6 => ?_⟩
        · have h3 : hd.L.length ≤ 2 := by cases hd <;> exact Nat.le_of_ble_eq_true rfl
          exact Nat.le_trans (show hd.L.length + 1 ≤ 3 by omega) (by decide)
        have f3 := Ex.new (o := .tup (hd.L ++ [.ref pt])) hp6
        have hpt3 := f3 _ _ (f2 _ _ (upd_same (H := H4) (a := pt) (o := .tup vs)))
        have gg := g4.ex (f1.trans (f2.trans f3))
        have uu := u2.trans (u3.trans (u4.trans (But.of (f1.trans (f2.trans f3)))))
        have BB := B4.ex (f1.trans (f2.trans f3))
        have hok : Tm.Ok 11 (.node hd ts) := .node (by rw [len]; exact e4) fun t ht => (all t ht).1
        have hdp : (Tm.node hd ts).deep ≤ d + 1 := by
          have := deeps_le ts d fun t ht => (all t ht).2.1
          show 1 + Tm.deeps ts ≤ d + 1
          omega
        have hsz : (Tm.node hd ts).size ≤ most (d + 1) := by
          have h1 := sizes_le ts (most d) fun t ht => (all t ht).2.2
          have h2 : ts.length * most d ≤ 4 * most d := Nat.mul_le_mul_right _ (by omega)
          show 1 + Tm.sizes ts ≤ 1 + 4 * most d
          omega
        cases hd with
        | op o => cases e3
        | call m => exact fin _ _ _ _ uu BB (.call upd_same hpt3 gg) hok hdp hsz
        | ring j => exact fin _ _ _ _ uu BB (.ring upd_same hpt3 gg) hok hdp hsz
end
end V


set_option Elab.async false
set_option linter.all false
set_option maxRecDepth 100000
set_option maxHeartbeats 400000
namespace V
open PySem PySem.Spec PyProof.Rows L2 Evl TL NumText
section
variable {P : Program} {w : World} {K : PySem.W.Frag} {mg : Str → Option Value} {base : Heap}
theorem ok_anyTerm (T : Txt K w mg) (G__law_take : Cal P w K mg base 1 "_law_take" ["box", "size"] spTake) (G__law_number : Cal P w K mg base 2 "_law_number" ["box"] spNum) (G__law_some_mark : Cal P w K mg base 2 "_law_some_mark" ["box"] spSomeMark)
    (G__law_term : Cal P w K mg base 5 "_law_term" ["box", "many", "heads", "tall"] (spTerm 3)) : Cal P w K mg base 6 "_law_any_term" ["box"] spAny := by
  refine T.D__law_any_term.cal sc__law_any_term (fun vs H Q E h => ?_) (fun f cdv A outer s H vs Q E hr h => ?_)
  · obtain ⟨b, n, rfl, _⟩ := h
    rfl
  obtain ⟨b, n, rfl, hB, q⟩ := h
  refine ⟨_, (pss_cons (ps_setLc (i := 1) (own := [("turn", 3)]) (g := (gName 3)) (tt := tYes) rfl sc__law_any_term.nd rfl rfl (sw_true rfl rfl rfl rfl) (pi_range1 rfl T.z_range (pa_cons pe_int pa_nil)) (blkOk_by (N := N__law_any_term) (sc := defScope s__law_any_term) (by decide +kernel)) (fun _ _ _ _ _ => (pg_name (i := 3) sc__law_any_term.nd rfl (.inl rfl))) (fun _ _ _ _ _ => pts_nil) (fun _ _ _ _ _ => (pe_tup (pa_cons (pe_tup (pa_cons pe_str (pa_cons (pe_fn G__law_some_mark hr (by omega) (pa_cons (pv 0) pa_nil)) pa_nil))) (pa_cons (pe_fn G__law_take hr (by omega) (pa_cons (pv 0) (pa_cons pe_int pa_nil))) pa_nil)))))
  (pss_cons (ps_set (i := 1) sc__law_any_term.nd rfl (.inl rfl) (pe_op op_cat (pv 1) (pe_lc (own := [("turn", 3)]) (g := (gName 3)) (tt := tYes) rfl sc__law_any_term.nd (pi_range1 rfl T.z_range (pa_cons pe_int pa_nil)) (blkOk_by (N := N__law_any_term) (sc := defScope s__law_any_term) (by decide +kernel)) (fun _ _ _ _ _ => (pg_name (i := 3) sc__law_any_term.nd rfl (.inl rfl))) (fun _ _ _ _ _ => pts_nil) (fun _ _ _ _ _ => (pe_tup (pa_cons (pe_tup (pa_cons pe_str (pa_cons (pe_ix (r := rIxL K) ix_list (pe_lst (pa_cons pe_int (pa_cons pe_int (pa_cons (pe_fn G__law_take hr (by omega) (pa_cons (pv 0) (pa_cons pe_int pa_nil))) pa_nil)))) (pe_fn G__law_take hr (by omega) (pa_cons (pv 0) (pa_cons pe_int pa_nil))) (fun _ _ => rfl)) pa_nil))) (pa_cons (pe_fn G__law_take hr (by omega) (pa_cons (pv 0) (pa_cons pe_int pa_nil))) pa_nil)))))))
  (pss_cons (ps_set (i := 2) sc__law_any_term.nd rfl (.inl rfl) (pe_fn G__law_term hr (by omega) (pa_cons (pv 0) (pa_cons (pe_op op_add pe_int (pe_fn G__law_take hr (by omega) (pa_cons (pv 0) (pa_cons pe_int pa_nil)))) (pa_cons (pv 1) (pa_cons (pe_op op_add pe_int (pe_fn G__law_take hr (by omega) (pa_cons (pv 0) (pa_cons pe_int pa_nil)))) pa_nil))))))
  (pss_cons (ps_for PassesOwn.never rfl (pi_range1 rfl T.z_range (pa_cons (pe_fn G__law_take hr (by omega) (pa_cons (pv 0) (pa_cons pe_int pa_nil))) pa_nil)) (pg_name (i := 3) sc__law_any_term.nd rfl (.inl rfl))
    (pss_cons (ps_par (i := 4) (j := 5) rfl sc__law_any_term.nd rfl rfl (by decide) rfl rfl (pa_cons (pe_ix (r := rIxL K) ix_list (pe_lst (pa_cons (pe_tup (pa_cons pe_str (pa_cons (pe_fn G__law_number hr (by omega) (pa_cons (pv 0) pa_nil)) pa_nil))) (pa_cons (pe_tup (pa_cons pe_str (pa_cons (pe_fn G__law_take hr (by omega) (pa_cons (pv 0) (pa_cons pe_int pa_nil))) pa_nil))) pa_nil))) (pe_fn G__law_take hr (by omega) (pa_cons (pv 0) (pa_cons pe_int pa_nil))) (fun _ _ => rfl)) (pa_cons (pe_fn G__law_take hr (by omega) (pa_cons (pv 0) (pa_cons pe_int pa_nil))) pa_nil)) rfl)
    (pss_one (ps_if (pt_cmpR op_lt (pv 5) pe_int (nomark _))
      (pss_cons (ps_set (i := 6) sc__law_any_term.nd rfl (.inl rfl) (pe_ix (r := rIxL K) ix_list (pe_lst (pa_cons (pe_tup (pa_cons pe_str (pa_cons (pe_fn G__law_some_mark hr (by omega) (pa_cons (pv 0) pa_nil)) pa_nil))) (pa_cons (pe_tup (pa_cons pe_str (pa_cons (pe_fn G__law_take hr (by omega) (pa_cons (pv 0) (pa_cons pe_int pa_nil))) pa_nil))) pa_nil))) (pv 5) (fun _ _ => rfl)))
      (pss_cons (ps_set (i := 7) sc__law_any_term.nd rfl (.inl rfl) (pe_lst (pa_cons (pe_tup (pa_cons (pv 2) pa_nil)) (pa_cons (pe_tup (pa_cons (pv 4) (pa_cons (pv 2) pa_nil))) (pa_cons (pe_tup (pa_cons (pv 2) (pa_cons (pv 4) pa_nil))) (pa_cons (pe_tup (pa_cons (pv 4) (pa_cons (pv 4) (pa_cons (pv 4) (pa_cons (pv 2) pa_nil))))) (pa_cons (pe_tup (pa_cons (pv 4) (pa_cons (pv 4) (pa_cons (pv 2) pa_nil)))) pa_nil)))))))
      (pss_one (ps_set (i := 2) sc__law_any_term.nd rfl (.inl rfl) (pe_op op_catA (pv 6) (pe_tup (pa_cons (pe_ix (r := rIxL K) ix_list (pv 7) (pe_fn G__law_take hr (by omega) (pa_cons (pv 0) (pa_cons pe_int pa_nil))) (fun _ _ => rfl)) pa_nil)))))))
      (pss_one (ps_if (pt_cmpR op_eq (pv 5) pe_int (nomark _))
        (pss_one (ps_set (i := 2) sc__law_any_term.nd rfl (.inl rfl) (pe_op op_catA (pe_tup (pa_cons pe_str pa_nil)) (pe_ix (r := rIxL K) ix_list (pe_lst (pa_cons (pe_tup (pa_cons (pv 2) (pa_cons (pv 4) (pa_cons (pv 4) pa_nil)))) (pa_cons (pe_tup (pa_cons (pv 4) (pa_cons (pv 2) (pa_cons (pv 4) pa_nil)))) (pa_cons (pe_tup (pa_cons (pv 4) (pa_cons (pv 4) (pa_cons (pv 2) pa_nil)))) pa_nil)))) (pe_fn G__law_take hr (by omega) (pa_cons (pv 0) (pa_cons pe_int pa_nil))) (fun _ _ => rfl)))))
        (pss_cons (ps_set (i := 8) sc__law_any_term.nd rfl (.inl rfl) (pe_ix (r := rIxL K) ix_list (pe_lst (pa_cons pe_str (pa_cons pe_str (pa_cons pe_str (pa_cons pe_str pa_nil))))) (pe_fn G__law_take hr (by omega) (pa_cons (pv 0) (pa_cons pe_int pa_nil))) (fun _ _ => rfl)))
        (pss_one (ps_set (i := 2) sc__law_any_term.nd rfl (.inl rfl) (pe_op op_catA (pe_tup (pa_cons (pv 8) pa_nil)) (pe_ix (r := rIxL K) ix_list (pe_lst (pa_cons (pe_tup (pa_cons (pv 2) (pa_cons (pv 4) pa_nil))) (pa_cons (pe_tup (pa_cons (pv 4) (pa_cons (pv 2) pa_nil))) pa_nil))) (pe_op op_sub (pv 5) pe_int) (fun _ _ => rfl))))))))))))
  (pss_one (ps_ret (pv 2))))))), ?_⟩
  let A0 : L2.St → Hp → Prop := fun σ H' => σ = [some (.ref b), none, none, none, none, none, none, none, none] ∧ H' = H
  let A1 : L2.St → Hp → Prop := fun σ H' => ∃ l v1 v2, σ = [some (.ref b), some (.ref l), none, none, none, none, none, none, none] ∧ But b H H' ∧ Box H' b (n + 384) ∧ l ≠ b ∧ H' l = some (.lst [v1, v2]) ∧ CallHd H' v1 ∧ CallHd H' v2
  let A2 : L2.St → Hp → Prop := fun σ H' => ∃ l, σ = [some (.ref b), some (.ref l), none, none, none, none, none, none, none] ∧ But b H H' ∧ Box H' b (n + 378) ∧ l ≠ b ∧ Heads H' l
  let A3 : L2.St → Hp → Prop := fun σ H' => ∃ l v t, σ = [some (.ref b), some (.ref l), some v, none, none, none, none, none, none] ∧ But b H H' ∧ Box H' b (n + 200) ∧ TmAt H' v t ∧ t.Ok 11 ∧ t.deep ≤ 3 ∧ t.size ≤ 21
  let A4 : L2.St → Hp → Prop := fun σ H' => ∃ l v t y3 y4 y5 y6 y7 y8, σ = [some (.ref b), some (.ref l), some v, y3, y4, y5, y6, y7, y8] ∧ But b H H' ∧ Box H' b n ∧ TmAt H' v t ∧ t.Ok 11 ∧ t.deep ≤ 8 ∧ t.size ≤ 50
  refine (Hs.fin (A := A0) (B := A1) ?_ (Hs.fin (B := A2) ?_ (Hs.fin (B := A3) ?_ (Hs.fin (B := A4) ?_ (Q := Q) ?_)))) _ _ H ⟨rfl, rfl⟩ fun v H' h => h
  · rintro D σ H0 ⟨rfl, rfl⟩ kk
    refine ⟨2, rfl, by decide, by decide, fun Dl hD => ?_⟩
    have nb := hB.ne hD
    refine lc_range (lo := 0) (n := 2) (fun j H4 => But b H0 H4 ∧ Box H4 b (n + 400 - 8 * j) ∧ ∃ xs, H4 Dl = some (.lst xs) ∧ xs.length = j ∧ ∀ v ∈ xs, CallHd H4 v) ⟨But.of (Ex.new hD), hB.ex (Ex.new hD), [], upd_same, rfl, fun v h => by cases h⟩ ?_ ?_
    · rintro j H4 hj ⟨u4, B4, xs, d4, l4, c4⟩
      refine ⟨rfl, yes ⟨_, rfl, b, n + 400 - 8 * (j + 1) + 1, rfl, ?_, fun H5 m u5 B5 hm => ⟨sz 2, fun pt hpt => ⟨_, rfl, b, 5, n + 400 - 8 * (j + 1), rfl, by decide, by decide, B5.ex (Ex.new hpt), fun H6 k u6 B6 k0 k1 => ⟨sz 2, fun p2 hp2 => ?_⟩⟩⟩⟩⟩
      · rw [show n + 400 - 8 * (j + 1) + 1 + 7 = n + 400 - 8 * j by omega]
        exact B4
      obtain ⟨kn, rfl⟩ := Int.eq_ofNat_of_zero_le k0
      have u56 : But b H4 H6 := u5.trans ((But.of (Ex.new hpt)).trans u6)
      have e2 := Ex.new (o := .tup [.ref pt, .int (kn : Int)]) hp2
      have u7 := u56.trans (But.of e2)
      have d7 := u7 Dl _ nb d4
      have hpt6 := (B5.ex (Ex.new (o := .tup [.str "call", .str m]) hpt)).tu u6 pt _ upd_same
      have tu : Tu _ (upd (upd H6 p2 (.tup [.ref pt, .int (kn : Int)])) Dl (.lst (xs ++ [.ref p2]))) := (But.upd (But.refl Dl _)).tu d7
      refine ⟨xs, d7, small1000 (by omega), But.on hD u4 u7, (B6.ex e2).on nb, xs ++ [.ref p2], upd_same, by rw [List.length_append, l4]; rfl, fun v hv => ?_⟩
      rcases List.mem_append.mp hv with hv | hv
      · exact ((c4 v hv).tu (B4.tu u7)).tu tu
      · rw [List.mem_singleton.mp hv]
        exact ⟨m, kn, ⟨p2, pt, rfl, tu _ _ upd_same, tu _ _ (e2 _ _ hpt6)⟩, hm, by omega⟩
    · rintro H4 ⟨u4, B4, xs, d4, l4, c4⟩
      obtain ⟨v1, v2, rfl⟩ := len_two l4
      exact kk _ _ ⟨Dl, v1, v2, rfl, u4, B4, nb, d4, c4 v1 (by simp), c4 v2 (by simp)⟩
  · rintro D σ H1 ⟨l, v1, v2, rfl, u1, B1, nl, h1, c1, c2⟩ kk
    refine ⟨_, rfl, 2, rfl, by decide, by decide, fun Dl hD => ?_⟩
    have nb := B1.ne hD
    refine lc_range (lo := 0) (n := 2) (fun j H4 => But b H1 H4 ∧ Box H4 b (n + 384 - 3 * j) ∧ ∃ xs, H4 Dl = some (.lst xs) ∧ xs.length = j ∧ ∀ v ∈ xs, RingHd H4 v) ⟨But.of (Ex.new hD), B1.ex (Ex.new hD), [], upd_same, rfl, fun v h => by cases h⟩ ?_ ?_
    · rintro j H4 hj ⟨u4, B4, xs, d4, l4, c4⟩
      refine ⟨rfl, yes ⟨_, rfl, b, 12, n + 384 - 3 * (j + 1) + 2, rfl, by decide, by decide, ?_, fun H5 k u5 B5 k0 k1 => ⟨sz 3, fun pl hpl => ⟨_, rfl, b, 3, n + 384 - 3 * (j + 1) + 1, rfl, by decide, by decide, B5.ex (Ex.new hpl), fun H6 i u6 B6 i0 i1 => ?_⟩⟩⟩⟩
      · rw [show n + 384 - 3 * (j + 1) + 2 + 1 = n + 384 - 3 * j by omega]
        exact B4
      obtain ⟨kn, rfl⟩ := Int.eq_ofNat_of_zero_le k0
      obtain ⟨pn, hat, pn1⟩ : ∃ pn : Nat, atI [V.int 0, V.int 11, V.int (kn : Int)] i = some (.int (pn : Int)) ∧ pn ≤ 11 := by
        have w3 : i = 0 ∨ i = 1 ∨ i = 2 := by omega
        rcases w3 with rfl | rfl | rfl
        · exact ⟨0, rfl, by decide⟩
        · exact ⟨11, rfl, by decide⟩
        · exact ⟨kn, rfl, by omega⟩
      refine ⟨pl, _, i, _, rfl, rfl, SqL.of (u6 pl _ (B5.ne hpl) upd_same), hat, sz 2, fun pt hpt => ⟨_, rfl, b, 5, n + 384 - 3 * (j + 1), rfl, by decide, by decide, B6.ex (Ex.new hpt), fun H7 s u7 B7 s0 s1 => ⟨sz 2, fun p2 hp2 => ?_⟩⟩⟩
      obtain ⟨sn, rfl⟩ := Int.eq_ofNat_of_zero_le s0
      have e2 := Ex.new (o := .tup [.ref pt, .int (sn : Int)]) hp2
      have u46 : But b H4 H6 := u5.trans ((But.of (Ex.new hpl)).trans u6)
      have u8 := (u46.trans ((But.of (Ex.new (o := .tup [.str "ring", .int (pn : Int)]) hpt)).trans u7)).trans (But.of e2)
      have d8 := u8 Dl _ nb d4
      have hpt7 := (B6.ex (Ex.new (o := .tup [.str "ring", .int (pn : Int)]) hpt)).tu u7 pt _ upd_same
      have tu : Tu _ (upd (upd H7 p2 (.tup [.ref pt, .int (sn : Int)])) Dl (.lst (xs ++ [.ref p2]))) := (But.upd (But.refl Dl _)).tu d8
      refine ⟨xs, d8, small1000 (by omega), But.on hD u4 u8, (B7.ex e2).on nb, xs ++ [.ref p2], upd_same, by rw [List.length_append, l4]; rfl, fun v hv => ?_⟩
      rcases List.mem_append.mp hv with hv | hv
      · exact ((c4 v hv).tu (B4.tu u8)).tu tu
      · rw [List.mem_singleton.mp hv]
        exact ⟨pn, sn, ⟨p2, pt, rfl, tu _ _ upd_same, tu _ _ (e2 _ _ hpt7)⟩, pn1, by omega⟩
    · rintro H4 ⟨u4, B4, xs, d4, l4, c4⟩
      obtain ⟨w1, w2, rfl⟩ := len_two l4
      refine ⟨l, Dl, [v1, v2], [w1, w2], rfl, rfl, u4 l _ nl h1, d4, sz 4, fun p5 np5 => kk _ _ ?_⟩
      have e5 := Ex.new (o := .lst [v1, v2, w1, w2]) np5
      have t5 := Tu.of e5
      obtain ⟨m1, s1, x1, y1, z1⟩ := (c1.tu (B1.tu u4)).tu t5
      obtain ⟨m2, s2, x2, y2, z2⟩ := (c2.tu (B1.tu u4)).tu t5
      obtain ⟨p1, s3, x3, y3, z3⟩ := (c4 w1 (by simp)).tu t5
      obtain ⟨p2, s4, x4, y4, z4⟩ := (c4 w2 (by simp)).tu t5
      exact ⟨p5, rfl, u1.trans (u4.trans (But.of e5)), B4.ex e5, B4.ne np5, ⟨v1, v2, w1, w2, m1, m2, p1, p2, s1, s2, s3, s4, upd_same, x1, x2, x3, x4, y1, y2, y3, y4, z1, z2, z3, z4⟩⟩
  · rintro D σ H1 ⟨l, rfl, u1, B1, nl, hh⟩ kk
    refine ⟨_, rfl, _, rfl, b, 4, n + 377, rfl, by decide, by decide, B1, fun H2 m u2 B2 m0 m1 => ⟨_, _, rfl, rfl, _, rfl, _, rfl, b, 3, n + 376, rfl, by decide, by decide, B2, fun H3 a u3 B3 a0 a1 => ⟨_, _, rfl, rfl, ?_⟩⟩⟩
    obtain ⟨mn, rfl⟩ := Int.eq_ofNat_of_zero_le m0
    obtain ⟨an, rfl⟩ := Int.eq_ofNat_of_zero_le a0
    obtain ⟨xs, hx⟩ := B1.lst
    refine ⟨b, l, n + 200, 1 + mn, 1 + an, ?_, B3.less (by show n + 200 + 105 ≤ n + 376; omega), by omega, by omega, by omega, by omega, nl, hh.but hx nl (u2.trans u3), fun H4 v t u4 B4 g o d z => kk _ _ ⟨l, v, t, rfl, u1.trans (u2.trans (u3.trans u4)), B4, g, o, d, z⟩⟩
    rw [show ((1 + mn : Nat) : Int) = 1 + (mn : Int) by omega, show ((1 + an : Nat) : Int) = 1 + (an : Int) by omega]
  · rintro D σ H1 ⟨l, v, t, rfl, u1, B1, hv, o1, d1, z1⟩ kk
    refine ⟨_, rfl, b, 6, n + 199, rfl, by decide, by decide, B1, fun H2 c u2 B2 c0 c6 => ?_⟩
    obtain ⟨cn, rfl⟩ := Int.eq_ofNat_of_zero_le c0
    refine ⟨(cn : Int), rfl, by omega, by omega, ?_⟩
    refine for_range (n := cn) (fun i σ H4 => ∃ v t y3 y4 y5 y6 y7 y8, σ = [some (.ref b), some (.ref l), some v, y3, y4, y5, y6, y7, y8] ∧ But b H H4 ∧ Box H4 b (n + 199 - 30 * i) ∧ TmAt H4 v t ∧ t.Ok 11 ∧ t.deep ≤ 3 + i ∧ t.size ≤ 21 + 4 * i)
      ⟨v, t, none, none, none, none, none, none, rfl, u1.trans u2, B2, hv.tu (B1.tu u2), o1, d1, z1⟩ ?_ ?_
    · rintro i σ H4 hi ⟨v, t, y3, y4, y5, y6, y7, y8, rfl, u4, B4, g4, o4, d4, z4⟩
      refine ⟨_, rfl, b, n + 199 - 30 * (i + 1) + 26, rfl, by rw [show n + 199 - 30 * (i + 1) + 26 + 4 = n + 199 - 30 * i by omega]; exact B4, fun H5 x u5 B5 x0 x1 => ⟨sz 2, fun p1 hp1 => ⟨_, rfl, b, 4, n + 199 - 30 * (i + 1) + 25, rfl, by decide, by decide, B5.ex (Ex.new hp1), fun H6 y u6 B6 y0 y1 => ⟨sz 2, fun p2 hp2 => ⟨sz 2, fun pl hpl => ?_⟩⟩⟩⟩⟩
      obtain ⟨xn, rfl⟩ := Int.eq_ofNat_of_zero_le x0
      obtain ⟨yn, rfl⟩ := Int.eq_ofNat_of_zero_le y0
      have f2 := Ex.new (o := .tup [.str "arg", .int (yn : Int)]) hp2
      have fl := Ex.new (o := .lst [.ref p1, .ref p2]) hpl
      refine ⟨_, rfl, b, 2, n + 199 - 30 * (i + 1) + 24, rfl, by decide, by decide, (B6.ex f2).ex fl, fun H7 j u7 B7 j0 j1 => ?_⟩
      have g1 : TmAt (upd (upd H6 p2 (.tup [.str "arg", .int (yn : Int)])) pl (.lst [.ref p1, .ref p2])) (.ref p1) (.num xn) := (TmAt.num (((B5.ex (Ex.new hp1)).tu u6) p1 _ upd_same)).ex (f2.trans fl)
      have g2 : TmAt (upd (upd H6 p2 (.tup [.str "arg", .int (yn : Int)])) pl (.lst [.ref p1, .ref p2])) (.ref p2) (.arg yn) := (TmAt.arg upd_same).ex fl
      obtain ⟨lv, lt, hat, gl, lo, ld, lz⟩ : ∃ lv lt, atI [V.ref p1, V.ref p2] j = some lv ∧ TmAt H7 lv lt ∧ lt.Ok 11 ∧ lt.deep = 1 ∧ lt.size = 1 := by
        have w2 : j = 0 ∨ j = 1 := by omega
        rcases w2 with rfl | rfl
        · exact ⟨_, _, rfl, g1.tu (((B6.ex f2).ex fl).tu u7), .num (by omega), rfl, rfl⟩
        · exact ⟨_, _, rfl, g2.tu (((B6.ex f2).ex fl).tu u7), .arg (by omega), rfl, rfl⟩
      have u47 : But b H4 H7 := u5.trans ((But.of (Ex.new hp1)).trans (u6.trans ((But.of (f2.trans fl)).trans u7)))
      refine ⟨pl, _, j, _, rfl, rfl, SqL.of (u7 pl _ ((B6.ex f2).ne hpl) upd_same), hat, _, rfl, b, 5, n + 199 - 30 * (i + 1) + 23, rfl, by decide, by decide, B7, fun H8 mo u8 B8 mo0 mo1 => ⟨_, _, rfl, ?_⟩⟩
      have u48 : But b H4 H8 := u47.trans u8
      have gt := g4.tu (B4.tu u48)
      have gf := gl.tu (B7.tu u8)
      refine ⟨_, rfl, _, _, rfl, rfl, _, rfl, ?_⟩
      by_cases c2 : mo < 2
      · rw [decide_eq_true c2]
        refine iteT ⟨_, rfl, b, n + 199 - 30 * (i + 1) + 16, rfl, B8, fun H9 m u9 B9 hm => ⟨sz 2, fun pc hpc => ⟨_, rfl, b, 12, n + 199 - 30 * (i + 1) + 15, rfl, by decide, by decide, B9.ex (Ex.new hpc), fun HA k uA BA k0 k1 => ⟨sz 2, fun pr hpr => ⟨sz 2, fun ph hph => ?_⟩⟩⟩⟩⟩
        obtain ⟨kn, rfl⟩ := Int.eq_ofNat_of_zero_le k0
        have fr := Ex.new (o := .tup [.str "ring", .int (kn : Int)]) hpr
        have fh := Ex.new (o := .lst [.ref pc, .ref pr]) hph
        have u8A : But b H8 HA := u9.trans ((But.of (Ex.new hpc)).trans uA)
        have uB := u8A.trans (But.of (fr.trans fh))
        have BB := BA.ex (fr.trans fh)
        have hcA := ((B9.ex (Ex.new (o := .tup [.str "call", .str m]) hpc)).tu uA) pc _ upd_same
        obtain ⟨px, hd, hat, hpx, hok, hno⟩ : ∃ (px : Addr) (hd : Hd), atI [V.ref pc, V.ref pr] mo = some (.ref px) ∧ (upd (upd HA pr (.tup [.str "ring", .int (kn : Int)])) ph (.lst [.ref pc, .ref pr])) px = some (.tup hd.L) ∧ (∀ z : Nat, z ≤ 4 → hd.ok 11 z) ∧ hd.notOp = true := by
          have w2 : mo = 0 ∨ mo = 1 := by omega
          rcases w2 with rfl | rfl
          · exact ⟨pc, .call m, rfl, (fr.trans fh) _ _ hcA, fun z hz => ⟨hm, hz⟩, rfl⟩
          · exact ⟨pr, .ring kn, rfl, fh _ _ upd_same, fun z hz => ⟨by omega, hz⟩, rfl⟩
        have gtB := gt.tu (B8.tu uB)
        have gfB := gf.tu (B8.tu uB)
        refine ⟨_, rfl, ph, _, mo, _, rfl, rfl, SqL.of upd_same, hat, ?_⟩
        generalize upd (upd HA pr (.tup [.str "ring", .int (kn : Int)])) ph (.lst [.ref pc, .ref pr]) = HB at uB BB hpx gtB gfB
        refine ⟨_, rfl, sz 1, fun s1 h1 => ⟨_, rfl, _, rfl, sz 2, fun s2 h2 => ⟨_, rfl, _, rfl, sz 2, fun s3 h3 => ⟨_, rfl, _, rfl, _, rfl, _, rfl, sz 4, fun s4 h4 => ⟨_, rfl, _, rfl, _, rfl, sz 3, fun s5 h5 => ⟨sz 5, fun ps hps => ?_⟩⟩⟩⟩⟩⟩
        have x1 := Ex.new (o := .tup [v]) h1
        have x2 := Ex.new (o := .tup [lv, v]) h2
        have x3 := Ex.new (o := .tup [v, lv]) h3
        have x4 := Ex.new (o := .tup [lv, lv, lv, v]) h4
        have x5 := Ex.new (o := .tup [lv, lv, v]) h5
        have x6 := Ex.new (o := .lst [.ref s1, .ref s2, .ref s3, .ref s4, .ref s5]) hps
        have F := x1.trans (x2.trans (x3.trans (x4.trans (x5.trans x6))))
        have BF := BB.ex F
        refine ⟨_, rfl, _, rfl, _, rfl, b, 5, n + 199 - 30 * (i + 1) + 14, rfl, by decide, by decide, BF, fun HC k2 uC BC k20 k21 => ?_⟩
        have tuC := BF.tu uC
        have gtC := (gtB.ex F).tu tuC
        have gfC := (gfB.ex F).tu tuC
        have lf : ∀ {us ts S}, Few HC us ts (3 + i) S → Few HC (lv :: us) (lt :: ts) (3 + i) (1 + S) := fun k => few_cons gfC lo (by omega) (Nat.le_of_eq lz) k
        have tf : ∀ {us ts S}, Few HC us ts (3 + i) S → Few HC (v :: us) (t :: ts) (3 + i) (21 + 4 * i + S) := fun k => few_cons gtC o4 d4 z4 k
        obtain ⟨pu, us, ts, hat2, hpu, few, len⟩ : ∃ pu us ts, atI [V.ref s1, V.ref s2, V.ref s3, V.ref s4, V.ref s5] k2 = some (.ref pu) ∧ HC pu = some (.tup us) ∧ Few HC us ts (3 + i) (21 + 4 * i + 3) ∧ us.length ≤ 4 := by
          have w5 : k2 = 0 ∨ k2 = 1 ∨ k2 = 2 ∨ k2 = 3 ∨ k2 = 4 := by omega
          rcases w5 with rfl | rfl | rfl | rfl | rfl
          · exact ⟨s1, _, _, rfl, tuC _ _ ((x2.trans (x3.trans (x4.trans (x5.trans x6)))) _ _ upd_same), (tf (few_nil HC _)).less (by omega), by show 1 ≤ 4; decide⟩
          · exact ⟨s2, _, _, rfl, tuC _ _ ((x3.trans (x4.trans (x5.trans x6))) _ _ upd_same), (lf (tf (few_nil HC _))).less (by omega), by show 2 ≤ 4; decide⟩
          · exact ⟨s3, _, _, rfl, tuC _ _ ((x4.trans (x5.trans x6)) _ _ upd_same), (tf (lf (few_nil HC _))).less (by omega), by show 2 ≤ 4; decide⟩
          · exact ⟨s4, _, _, rfl, tuC _ _ ((x5.trans x6) _ _ upd_same), (lf (lf (lf (tf (few_nil HC _))))).less (by omega), by show 4 ≤ 4; decide⟩
          · exact ⟨s5, _, _, rfl, tuC _ _ (x6 _ _ upd_same), (lf (lf (tf (few_nil HC _)))).less (by omega), by show 3 ≤ 4; decide⟩
        have nL : hd.L ≠ [] := by cases hd <;> exact fun z => by cases z
        have L2' : hd.L.length ≤ 2 := by cases hd <;> exact Nat.le_of_ble_eq_true rfl
        refine ⟨ps, _, k2, _, rfl, rfl, SqL.of (uC ps _ ((BB.ex (x1.trans (x2.trans (x3.trans (x4.trans x5))))).ne hps) upd_same), hat2, sz 1, fun pp hpp => ⟨px, pp, hd.L, [.ref pu], rfl, rfl, SqT.of ((Ex.new hpp) px _ (tuC _ _ (F px _ hpx))), SqT.of upd_same, Nat.le_trans (show hd.L.length + 1 ≤ 3 by omega) (by decide), (fun z => absurd z nL), (fun _ z => by cases z), fun _ _ p hp => ?_⟩⟩
        have y1 := Ex.new (o := .tup [.ref pu]) hpp
        have y2 := Ex.new (o := .tup (hd.L ++ [.ref pu])) hp
        obtain ⟨j1, j2, j3⟩ := few.node (h := hd) (hok _ (by rw [← few.a.length]; exact len))
        have gg := few.a.ex (y1.trans y2)
        have hpu2 := (y1.trans y2) _ _ hpu
        have uu := u4.trans (u48.trans (uB.trans ((But.of F).trans (uC.trans (But.of (y1.trans y2))))))
        have BBB := BC.ex (y1.trans y2)
        cases hd with
        | op o => cases hno
        | call m => exact ⟨.ref p, _, _, _, _, _, _, _, rfl, uu, BBB.less (by omega), .call upd_same hpu2 gg, j1, by omega, by omega⟩
        | ring j => exact ⟨.ref p, _, _, _, _, _, _, _, rfl, uu, BBB.less (by omega), .ring upd_same hpu2 gg, j1, by omega, by omega⟩
      rw [decide_eq_false c2]
      refine iteF ⟨_, rfl, rfl, _, rfl, ?_⟩
      rw [dec_ii]
      by_cases c3 : mo = 2
      · rw [decide_eq_true c3]
        refine iteT ⟨sz 1, fun pa hpa => ⟨_, rfl, _, rfl, _, rfl, sz 3, fun pb hpb => ⟨_, rfl, _, rfl, _, rfl, sz 3, fun pc hpc => ⟨_, rfl, _, rfl, _, rfl, sz 3, fun pd hpd => ⟨sz 3, fun pq hpq => ?_⟩⟩⟩⟩⟩
        have fa := Ex.new (o := .tup [.str "if"]) hpa
        have fb := Ex.new (o := .tup [v, lv, lv]) hpb
        have fc := Ex.new (o := .tup [lv, v, lv]) hpc
        have fd := Ex.new (o := .tup [lv, lv, v]) hpd
        have fq := Ex.new (o := .lst [.ref pb, .ref pc, .ref pd]) hpq
        have F := fa.trans (fb.trans (fc.trans (fd.trans fq)))
        have BF := B8.ex F
        refine ⟨_, rfl, b, 3, n + 199 - 30 * (i + 1) + 22, rfl, by decide, by decide, BF, fun H9 k u9 B9 k0 k1 => ?_⟩
        have tu9 := BF.tu u9
        have gt9 := (gt.ex F).tu tu9
        have gf9 := (gf.ex F).tu tu9
        have lf : ∀ {us ts S}, Few H9 us ts (3 + i) S → Few H9 (lv :: us) (lt :: ts) (3 + i) (1 + S) := fun k => few_cons gf9 lo (by omega) (Nat.le_of_eq lz) k
        have tf : ∀ {us ts S}, Few H9 us ts (3 + i) S → Few H9 (v :: us) (t :: ts) (3 + i) (21 + 4 * i + S) := fun k => few_cons gt9 o4 d4 z4 k
        obtain ⟨px, us, ts, hat2, hpx, few, len⟩ : ∃ px us ts, atI [V.ref pb, V.ref pc, V.ref pd] k = some (.ref px) ∧ H9 px = some (.tup us) ∧ Few H9 us ts (3 + i) (21 + 4 * i + 2) ∧ us.length = 3 := by
          have w3 : k = 0 ∨ k = 1 ∨ k = 2 := by omega
          rcases w3 with rfl | rfl | rfl
          · exact ⟨pb, _, _, rfl, tu9 _ _ ((fc.trans (fd.trans fq)) _ _ upd_same), (tf (lf (lf (few_nil H9 _)))).less (by omega), rfl⟩
          · exact ⟨pc, _, _, rfl, tu9 _ _ ((fd.trans fq) _ _ upd_same), (lf (tf (lf (few_nil H9 _)))).less (by omega), rfl⟩
          · exact ⟨pd, _, _, rfl, tu9 _ _ (fq _ _ upd_same), (lf (lf (tf (few_nil H9 _)))).less (by omega), rfl⟩
        refine ⟨pq, _, k, _, rfl, rfl, SqL.of (u9 pq _ ((B8.ex (fa.trans (fb.trans (fc.trans fd)))).ne hpq) upd_same), hat2, pa, px, [.str "if"], us, rfl, rfl, SqT.of (tu9 _ _ ((fb.trans (fc.trans (fd.trans fq))) pa _ upd_same)), SqT.of hpx, by rw [len]; exact sz 4, (fun z => by cases z), (fun _ z => by rw [z] at len; cases len), fun _ _ p hp => ?_⟩
        have fp := Ex.new (o := .tup ([.str "if"] ++ us)) hp
        obtain ⟨k1, k2, k3⟩ := few.node (h := .op .cond) (by rw [← few.a.length, len]; rfl)
        exact ⟨.ref p, _, _, _, _, _, _, _, rfl, u4.trans (u48.trans ((But.of F).trans (u9.trans (But.of fp)))), (B9.ex fp).less (by omega), .op (o := .cond) upd_same (few.a.ex fp), k1, by omega, by omega⟩
      rw [decide_eq_false c3]
      refine iteF ⟨sz 4, fun q1 hq1 => ⟨_, rfl, b, 4, n + 199 - 30 * (i + 1) + 22, rfl, by decide, by decide, B8.ex (Ex.new hq1), fun H9 k u9 B9 k0 k1 => ?_⟩⟩
      obtain ⟨o, ho, oa⟩ : ∃ o : Op, atI [V.str "add", V.str "less", V.str "times", V.str "under"] k = some (.str o.str) ∧ o.ar = 2 := by
        have w4 : k = 0 ∨ k = 1 ∨ k = 2 ∨ k = 3 := by omega
        rcases w4 with rfl | rfl | rfl | rfl
        · exact ⟨.add, rfl, rfl⟩
        · exact ⟨.less, rfl, rfl⟩
        · exact ⟨.times, rfl, rfl⟩
        · exact ⟨.under, rfl, rfl⟩
      have u89 : But b H8 H9 := (But.of (Ex.new hq1)).trans u9
      have gt9 := gt.tu (B8.tu u89)
      have gf9 := gf.tu (B8.tu u89)
      refine ⟨q1, _, k, _, rfl, rfl, SqL.of (u9 q1 _ (B8.ne hq1) upd_same), ho, _, rfl, sz 1, fun pa hpa => ⟨_, rfl, _, rfl, sz 2, fun pb hpb => ⟨_, rfl, _, rfl, sz 2, fun pc hpc => ⟨sz 2, fun pq hpq => ?_⟩⟩⟩⟩
      have fa := Ex.new (o := .tup [.str o.str]) hpa
      have fb := Ex.new (o := .tup [v, lv]) hpb
      have fc := Ex.new (o := .tup [lv, v]) hpc
      have fq := Ex.new (o := .lst [.ref pb, .ref pc]) hpq
      have F := fa.trans (fb.trans (fc.trans fq))
      obtain ⟨px, us, ts, hat2, hpx, few, len⟩ : ∃ px us ts, atI [V.ref pb, V.ref pc] (mo - 3) = some (.ref px) ∧ (upd (upd (upd (upd H9 pa (.tup [.str o.str])) pb (.tup [v, lv])) pc (.tup [lv, v])) pq (.lst [.ref pb, .ref pc])) px = some (.tup us) ∧ Few H9 us ts (3 + i) (21 + 4 * i + 1) ∧ us.length = 2 := by
        have w2 : mo = 3 ∨ mo = 4 := by omega
        rcases w2 with rfl | rfl
        · exact ⟨pb, _, _, rfl, (fc.trans fq) _ _ upd_same, few_cons gt9 o4 d4 z4 ((few_cons gf9 lo (by omega) (Nat.le_of_eq lz) (few_nil H9 (3 + i))).less (by omega)), rfl⟩
        · exact ⟨pc, _, _, rfl, fq _ _ upd_same, (few_cons gf9 lo (by omega) (Nat.le_of_eq lz) (few_cons gt9 o4 d4 z4 (few_nil H9 (3 + i)))).less (by omega), rfl⟩
      refine ⟨_, rfl, _, _, rfl, rfl, pq, _, _, _, rfl, rfl, SqL.of upd_same, hat2, pa, px, [.str o.str], us, rfl, rfl, SqT.of ((fb.trans (fc.trans fq)) pa _ upd_same), SqT.of hpx, by rw [len]; exact sz 3, (fun z => by cases z), (fun _ z => by rw [z] at len; cases len), fun _ _ p hp => ?_⟩
      have fp := Ex.new (o := .tup ([.str o.str] ++ us)) hp
      obtain ⟨k1, k2, k3⟩ := few.node (h := .op o) (by rw [← few.a.length, len]; exact oa.symm)
      exact ⟨.ref p, _, _, _, _, _, _, _, rfl, u4.trans (u48.trans (u89.trans (But.of (F.trans fp)))), (B9.ex (F.trans fp)).less (by omega), .op upd_same (few.a.ex (F.trans fp)), k1, by omega, by omega⟩
    · rintro σ H4 ⟨v, t, y3, y4, y5, y6, y7, y8, rfl, u4, B4, g4, o4, d4, z4⟩
      exact kk _ _ ⟨l, v, t, y3, y4, y5, y6, y7, y8, rfl, u4, B4.less (by omega), g4, o4, by omega, by omega⟩
  · rintro D σ H1 ⟨l, v, t, y3, y4, y5, y6, y7, y8, rfl, u1, B1, hv, o1, d1, z1⟩ kk
    exact ⟨_, rfl, kk _ _ (q H1 v t u1 B1 hv o1 d1 z1)⟩
end
end V


set_option Elab.async false
set_option linter.all false
set_option maxRecDepth 100000
set_option maxHeartbeats 4000000
namespace V
open PySem PySem.Spec PyProof.Rows L2 Evl
section
variable {P : Program} {w : World} {K : PySem.W.Frag} {mg : Str → Option Value} {base : Heap}
theorem ok_isMark (D : Def K mg "is_mark" s_is_mark ["thing"]) (zi : mg "isinstance" = none) (zs : mg "str" = none) (zl : mg "len" = none) (za : mg "all" = none) (cL : ∃ t, mg "MARK_LENGTH" = some (.int 6 t))
    (cS : ∃ t, mg "SIGNS" = some (.str sgS t)) (cB : ∃ t, mg "BASE" = some (.int 36 t)) : Cal P w K mg base 1 "is_mark" ["thing"] (spTest Small isMarkD K) := by
  refine D.cal sc_is_mark (fun vs H Q E h => ?_) (fun f cdv A outer s H vs Q E hr h => ?_)
  · obtain ⟨v, d, rfl, _⟩ := h
    rfl
  obtain ⟨v, d, rfl, hd, hs, q⟩ := h
  refine ⟨_, pss_cons (ps_if (PW.pt (pw_or (pt_not (pt_val (pe_bi call_isi zi (pa_cons (pv 0) (pa_cons (pe_ty zs) pa_nil))))) (pw_or1 (pt_cmpR op_ne (pe_bi call_len zl (pa_cons (pv 0) pa_nil)) (pe_gi cL) (nomark _)))))
      (pss_one (ps_ret pe_bl)) pss_nil)
    (pss_one (ps_ret (pe_bi (cr_all rfl) za (pa_cons (pe_lc (own := [("sign", 1)]) (g := gName 1) (tt := tYes) rfl sc_is_mark.nd (pi_str (pv 0)) (blkOk_by (N := N_is_mark) (sc := defScope s_is_mark) (by decide +kernel))
      (fun _ _ _ _ _ => pg_name (i := 1) sc_is_mark.nd rfl (.inl rfl)) (fun _ _ _ _ _ => pts_nil) (fun _ _ _ _ _ => pe_cmpR op_in_sign (pv 1) (pe_slice sl_str (pe_gs cS) po_none (po_some (pe_gi cB))) rfl)) pa_nil)))), ?_⟩
  refine ⟨v, rfl, _, _, _, _, _, rfl, .ty _, (dp_ty hd), kit_ty (kit_str d), _, rfl, ?_⟩
  have no : isMarkD d = false → tRet (tC (.bl false)) { nx := fun _ _ => True, rt := Q } [some v, none] H := fun e => by
    have q1 := q H (Ex.refl H)
    rw [e] at q1
    exact q1
  cases hs with
  | str hx =>
    rename_i x
    cases hd
    refine iteF ⟨_, rfl, _, x.length, rfl, ⟨Nat.le_trans hx (by decide), rfl⟩, rfl, _, rfl, ?_⟩
    by_cases c : x.length = 6
    · rw [decide_eq_true (show V.int (x.length : Int) = V.int 6 by rw [c]; rfl)]
      refine iteF ⟨_, rfl, x, rfl, fun Dl hD => ?_⟩
      refine lc_it walk_str (fun i H3 => Ex H H3 ∧ H3 Dl = some (.lst (((x.cps.toList.take i).map fun c => decide (c ∈ sgM.cps.toList)).map V.bl))) ⟨Ex.new hD, upd_same⟩ (fun _ _ _ _ => trivial) ?_ ?_
      · rintro i y H3 H4 hi ⟨e3, h3⟩ ⟨rfl, c, hc, rfl⟩
        have hc2 : x.cps.toList[i]? = some c := by rw [Array.getElem?_toList]; exact hc
        refine ⟨rfl, yes ⟨_, rfl, _, rfl, sgS, rfl, (by decide +kernel), c, _, rfl, rfl, _, h3, ?_, Ex.mut e3 hD, ?_⟩⟩
        · rw [List.length_map, List.length_map, List.length_take]
          exact small1000 (by have : x.cps.toList.length = x.length := Array.length_toList; omega)
        · rw [upd_same, take_more hc2, List.map_append, List.map_append, cut_sg]
          rfl
      · rintro H3 ⟨e3, h3⟩
        rw [show x.cps.size = x.cps.toList.length from Array.length_toList.symm, List.take_length] at h3
        refine ⟨Dl, _, rfl, SqL.of h3, ?_⟩
        rw [all_take]
        have q1 := q H3 e3
        have e1 : isMarkD (.str x) = x.cps.toList.all fun c => decide (c ∈ sgM.cps.toList) := by
          show (x.length == 6 && _) = _
          rw [c]
          rfl
        rw [e1] at q1
        exact q1
    · rw [decide_eq_false (fun z => c (by have := V.int.inj z; omega))]
      refine iteT (no ?_)
      show (x.length == 6 && _) = false
      rw [beq_eq_false_iff_ne.mpr c]
      rfl
  | _ => exact iteT (iteT (no rfl))
end
end V


set_option Elab.async false
set_option linter.all false
set_option maxRecDepth 100000
set_option maxHeartbeats 4000000
namespace V
open PySem PySem.Spec PyProof.Rows L2 Evl
section
variable {P : Program} {w : World} {K : PySem.W.Frag} {mg : Str → Option Value} {base : Heap}
theorem ok_numTo (D : Def K mg "is_number_to" s_is_number_to ["most", "thing"]) (zi : mg "isinstance" = none) (zn : mg "int" = none) (zb : mg "bool" = none) : Cal P w K mg base 1 "is_number_to" ["most", "thing"] (spNumTo K) := by
  refine D.cal sc_is_number_to (fun vs H Q E h => ?_) (fun f cdv A outer s H vs Q E hr h => ?_)
  · obtain ⟨m, v, d, rfl, _⟩ := h
    rfl
  obtain ⟨m, v, d, rfl, hd, q⟩ := h
  refine ⟨_, pss_one (ps_ret (pe_and (pe_bi call_isi zi (pa_cons (pv 1) (pa_cons (pe_ty zn) pa_nil))) (pe_and (pe_not (pe_bi call_isi zi (pa_cons (pv 1) (pa_cons (pe_ty zb) pa_nil)))) (pe_one (pe_chain op_le op_le pe_int (pv 1) (pv 0)))))), ?_⟩
  have q1 := q H (Ex.refl H)
  refine ⟨v, rfl, _, _, _, _, _, rfl, .ty _, (dp_ty hd), kit_ty (kit_int d), _, rfl, ?_⟩
  cases hd with
  | int i =>
    refine iteT ⟨_, rfl, _, _, _, _, _, rfl, .ty _, (dp_ty (Dp.int i)), kit_ty (kit_bool (.int i)), _, rfl, _, rfl, iteT ⟨_, rfl, _, _, rfl, rfl, _, rfl, ?_⟩⟩
    have e : isNumD m (.int i) = (decide (0 ≤ i) && decide (i ≤ m)) := rfl
    rw [e] at q1
    by_cases c : 0 ≤ i
    · rw [decide_eq_true c] at q1 ⊢
      exact iteT ⟨_, rfl, _, _, rfl, rfl, q1⟩
    · rw [decide_eq_false c] at q1 ⊢
      exact iteF q1
  | bl b => exact iteT ⟨_, rfl, _, _, _, _, _, rfl, .ty _, (dp_ty (Dp.bl b)), kit_ty (kit_bool (.bool b)), _, rfl, _, rfl, iteF q1⟩
  | _ => exact iteF q1
theorem ok_isParts (D : Def K mg "is_parts" s_is_parts ["thing"]) (zi : mg "isinstance" = none) (zt : mg "tuple" = none) (zl : mg "len" = none) (cM : ∃ t, mg "MOST_PARTS" = some (.int 4 t)) :
    Cal P w K mg base 1 "is_parts" ["thing"] (spTest (fun _ => True) isPartsD K) := by
  refine D.cal sc_is_parts (fun vs H Q E h => ?_) (fun f cdv A outer s H vs Q E hr h => ?_)
  · obtain ⟨v, d, rfl, _⟩ := h
    rfl
  obtain ⟨v, d, rfl, hd, _, q⟩ := h
  refine ⟨_, pss_one (ps_ret (pe_and (pe_bi call_isi zi (pa_cons (pv 0) (pa_cons (pe_ty zt) pa_nil))) (pe_one (pe_cmpR op_le (pe_bi call_len_seq zl (pa_cons (pv 0) pa_nil)) (pe_gi cM) (nomark _))))), ?_⟩
  have q1 := q H (Ex.refl H)
  refine ⟨v, rfl, _, _, _, _, _, rfl, .ty _, (dp_ty hd), kit_ty (kit_tup d), _, rfl, ?_⟩
  cases hd with
  | tup h hs =>
    rename_i a xs ds
    refine iteT ⟨_, rfl, a, xs, rfl, .inr h, _, _, rfl, rfl, ?_⟩
    have e : isPartsD (.tuple ds) = decide ((xs.length : Int) ≤ 4) := by
      show decide (ds.length ≤ 4) = _
      rw [dps_len hs, decide_eq_decide]
      omega
    rw [e] at q1
    exact q1
  | _ => exact iteF q1
end
end V


set_option Elab.async false
set_option linter.all false
set_option maxRecDepth 100000
set_option maxHeartbeats 4000000
namespace V
open PySem PySem.Spec PyProof.Rows L2 Evl
section
variable {P : Program} {w : World} {K : PySem.W.Frag} {mg : Str → Option Value} {base : Heap}
theorem ok_isHeaded (T : Txt K w mg) (G_is_number_to : Cal P w K mg base 1 "is_number_to" ["most", "thing"] (spNumTo K)) (G_is_mark : Cal P w K mg base 1 "is_mark" ["thing"] (spTest Small isMarkD K))
    (G_is_parts : Cal P w K mg base 1 "is_parts" ["thing"] (spTest (fun _ => True) isPartsD K)) : Cal P w K mg base 2 "is_headed" ["thing"] (spTest Small headD K) := by
  obtain ⟨d_OPERATIONS, es, n, g_OPERATIONS, KD, hin, hval⟩ := T.O.ex
  refine T.D_is_headed.cal sc_is_headed (fun vs H Q E h => ?_) (fun f cdv A outer s H vs Q E hr h => ?_)
  · obtain ⟨v, d, rfl, _⟩ := h
    rfl
  obtain ⟨v, d, rfl, hd, hs, q⟩ := h
  refine ⟨_, (pss_cons (ps_if (PW.pt (pw_or (pt_not (pt_val (pe_bi call_isi T.z_isinstance (pa_cons (pv 0) (pa_cons (pe_ty T.z_tuple) pa_nil))))) (pw_or1 (pt_cmpR op_eq (pe_bi call_len_seq T.z_len (pa_cons (pv 0) pa_nil)) pe_int (nomark _)))))
    (pss_one (ps_ret pe_bl))
    pss_nil)
  (pss_cons (ps_set (i := 1) sc_is_headed.nd rfl (.inl rfl) (pe_ix (r := rIxT K) ix_tup (pv 0) pe_int (fun _ _ => rfl)))
  (pss_cons (ps_if (pt_not (pt_val (pe_bi call_isi T.z_isinstance (pa_cons (pv 1) (pa_cons (pe_ty T.z_str) pa_nil)))))
    (pss_one (ps_ret pe_bl))
    pss_nil)
  (pss_cons (ps_if (pt_cmpR (op_in_kd KD) (pv 1) (pe_glob (v := .ref d_OPERATIONS) rfl g_OPERATIONS rfl) rfl)
    (pss_one (ps_ret (pe_cmpR op_eq (pe_bi call_len_seq T.z_len (pa_cons (pv 0) pa_nil)) (pe_op op_add pe_int (pe_ix (ix_kd KD) (pe_glob (v := .ref d_OPERATIONS) rfl g_OPERATIONS rfl) (pv 1) (fun _ _ => rfl))) (nomark _))))
    pss_nil)
  (pss_cons (ps_if (pt_cmpR op_eq (pv 1) pe_str (nomark _))
    (pss_one (ps_ret (pe_and (pe_cmpR op_eq (pe_bi call_len_seq T.z_len (pa_cons (pv 0) pa_nil)) pe_int (nomark _)) (pe_one (pe_fn G_is_number_to hr (by omega) (pa_cons (pe_gi T.c_LARGEST) (pa_cons (pe_ix (r := rIxT K) ix_tup (pv 0) pe_int (fun _ _ => rfl)) pa_nil)))))))
    pss_nil)
  (pss_cons (ps_if (pt_cmpR op_eq (pv 1) pe_str (nomark _))
    (pss_one (ps_ret (pe_and (pe_cmpR op_eq (pe_bi call_len_seq T.z_len (pa_cons (pv 0) pa_nil)) pe_int (nomark _)) (pe_one (pe_fn G_is_number_to hr (by omega) (pa_cons (pe_gi T.c_LAST_ARG) (pa_cons (pe_ix (r := rIxT K) ix_tup (pv 0) pe_int (fun _ _ => rfl)) pa_nil)))))))
    pss_nil)
  (pss_cons (ps_if (pt_cmpR op_eq (pv 1) pe_str (nomark _))
    (pss_one (ps_ret (pe_and (pe_cmpR op_eq (pe_bi call_len_seq T.z_len (pa_cons (pv 0) pa_nil)) pe_int (nomark _)) (pe_and (pe_fn G_is_mark hr (by omega) (pa_cons (pe_ix (r := rIxT K) ix_tup (pv 0) pe_int (fun _ _ => rfl)) pa_nil)) (pe_one (pe_fn G_is_parts hr (by omega) (pa_cons (pe_ix (r := rIxT K) ix_tup (pv 0) pe_int (fun _ _ => rfl)) pa_nil)))))))
    pss_nil)
  (pss_cons (ps_if (pt_cmpR op_eq (pv 1) pe_str (nomark _))
    (pss_one (ps_ret (pe_and (pe_cmpR op_eq (pe_bi call_len_seq T.z_len (pa_cons (pv 0) pa_nil)) pe_int (nomark _)) (pe_and (pe_fn G_is_number_to hr (by omega) (pa_cons (pe_gi T.c_LAST_PLACE) (pa_cons (pe_ix (r := rIxT K) ix_tup (pv 0) pe_int (fun _ _ => rfl)) pa_nil))) (pe_one (pe_fn G_is_parts hr (by omega) (pa_cons (pe_ix (r := rIxT K) ix_tup (pv 0) pe_int (fun _ _ => rfl)) pa_nil)))))))
    pss_nil)
  (pss_one (ps_ret pe_bl)))))))))), ?_⟩
  have q0 := q H (Ex.refl H)
  refine ⟨v, rfl, _, _, _, _, _, rfl, .ty _, dp_ty hd, kit_ty (kit_tup d), _, rfl, ?_⟩
  cases hd with
  | @tup a xs ds h hx =>
    have lx : xs.length = ds.length := dps_len hx
    refine iteF ⟨_, rfl, a, xs, rfl, .inr h, rfl, _, rfl, ?_⟩
    cases hx with
    | nil => exact iteT q0
    | @cons v1 vr d1 dr h1 hr1 =>
      rw [decide_eq_false (show ¬ V.int ((v1 :: vr).length : Int) = V.int 0 from fun z => by have := V.int.inj z; rw [List.length_cons] at this; omega)]
      refine iteF ⟨_, rfl, a, _, 0, v1, rfl, rfl, h, at0, _, rfl, _, _, _, _, _, rfl, .ty _, dp_ty h1, kit_ty (kit_str d1), _, rfl, ?_⟩
      cases h1 with
      | str z =>
        obtain ⟨r, hr2, hr3⟩ := hin z
        refine iteF ⟨_, rfl, z, r, rfl, rfl, hr2, _, rfl, ?_⟩
        rw [hr3]
        have lr : vr.length = dr.length := dps_len hr1
        by_cases co : z ∈ opWords
        · rw [decide_eq_true co]
          obtain ⟨o, rfl, ea⟩ := op_of co
          obtain ⟨u, hu1, hu2⟩ := hval o
          refine iteT ⟨_, rfl, a, _, rfl, .inr h, _, rfl, o.str, u, _, rfl, rfl, hu1, hu2, _, _, rfl, rfl, rfl, ?_⟩
          have e : headD (.tuple (.str o.str :: dr)) = decide (V.int (((V.str o.str :: vr).length : Nat) : Int) = V.int (1 + (o.ar : Int))) := by
            show (if o.str ∈ opWords then decide (dr.length = arOf o.str) else _) = _
            rw [if_pos co, ea, decide_eq_decide, V.int.injEq, List.length_cons]
            omega
          rw [e] at q0
          exact q0
        · rw [decide_eq_false co]
          have e0 : headD (.tuple (.str z :: dr)) = (if z = "num" then one1 (isNumD 1000002) dr else if z = "arg" then one1 (isNumD 3) dr
              else if z = "call" then two2 isMarkD isPartsD dr else if z = "ring" then two2 (isNumD 11) isPartsD dr else false) := if_neg co
          rw [e0] at q
          have sm : ∀ e ∈ dr, Small e := fun e he => by
            cases hs with
            | tup _ hk => exact hk e (List.mem_cons_of_mem _ he)
          have word : ∀ (y : Str), decide (V.str z = V.str y) = decide (z = y) := fun y => by
            rw [decide_eq_decide]
            exact ⟨V.str.inj, congrArg V.str⟩
          refine iteF ⟨_, rfl, rfl, _, rfl, ?_⟩
          rw [word]
          by_cases c1 : z = "num"
          · rw [decide_eq_true c1]
            rw [if_pos c1] at q
            refine iteT ⟨_, rfl, a, _, rfl, .inr h, rfl, _, rfl, ?_⟩
            rcases hr1 with _ | ⟨h2, hr2⟩
            · exact iteF (q H (Ex.refl H))
            · rcases hr2 with _ | ⟨h3, hr3⟩
              · exact iteT ⟨_, rfl, a, _, 1, _, rfl, rfl, h, rfl, _, _, _, rfl, h2, fun H' e' => q H' e'⟩
              · rw [len_ne (by rw [List.length_cons, List.length_cons, List.length_cons]; omega)]
                exact iteF (q H (Ex.refl H))
          rw [decide_eq_false c1]
          rw [if_neg c1] at q
          refine iteF ⟨_, rfl, rfl, _, rfl, ?_⟩
          rw [word]
          by_cases c2 : z = "arg"
          · rw [decide_eq_true c2]
            rw [if_pos c2] at q
            refine iteT ⟨_, rfl, a, _, rfl, .inr h, rfl, _, rfl, ?_⟩
            rcases hr1 with _ | ⟨h2, hr2⟩
            · exact iteF (q H (Ex.refl H))
            · rcases hr2 with _ | ⟨h3, hr3⟩
              · exact iteT ⟨_, rfl, a, _, 1, _, rfl, rfl, h, rfl, _, _, _, rfl, h2, fun H' e' => q H' e'⟩
              · rw [len_ne (by rw [List.length_cons, List.length_cons, List.length_cons]; omega)]
                exact iteF (q H (Ex.refl H))
          rw [decide_eq_false c2]
          rw [if_neg c2] at q
          refine iteF ⟨_, rfl, rfl, _, rfl, ?_⟩
          rw [word]
          by_cases c3 : z = "call"
          · rw [decide_eq_true c3]
            rw [if_pos c3] at q
            refine iteT ⟨_, rfl, a, _, rfl, .inr h, rfl, _, rfl, ?_⟩
            rcases hr1 with _ | ⟨h2, hr2⟩
            · exact iteF (q H (Ex.refl H))
            · rcases hr2 with _ | ⟨h3, hr3⟩
              · exact iteF (q H (Ex.refl H))
              · rcases hr3 with _ | ⟨h4, hr4⟩
                · refine iteT ⟨_, rfl, a, _, 1, _, rfl, rfl, h, rfl, _, _, rfl, h2, sm _ (List.mem_cons_self ..), fun H' e' => ⟨_, rfl, ?_⟩⟩
                  rename_i _ d2 _ d3


                  cases cm : isMarkD d2 with
                  | false =>
                    have q2 := q H' e'
                    rw [show two2 isMarkD isPartsD [d2, d3] = false by show (isMarkD d2 && isPartsD d3) = false; rw [cm]; rfl] at q2
                    exact iteF q2
                  | true =>
                    refine iteT ⟨_, rfl, a, _, 2, _, rfl, rfl, ex_t e' h, rfl, _, _, rfl, dp_ex e' h3, trivial, fun H'' e'' => ?_⟩
                    have q2 := q H'' (e'.trans e'')
                    rw [show two2 isMarkD isPartsD [d2, d3] = isPartsD d3 by show (isMarkD d2 && isPartsD d3) = _; rw [cm]; rfl] at q2
                    exact q2
                · rw [len_ne (by rw [List.length_cons, List.length_cons, List.length_cons, List.length_cons]; omega)]
                  exact iteF (q H (Ex.refl H))
          rw [decide_eq_false c3]
          rw [if_neg c3] at q
          refine iteF ⟨_, rfl, rfl, _, rfl, ?_⟩
          rw [word]
          by_cases c4 : z = "ring"
          · rw [decide_eq_true c4]
            rw [if_pos c4] at q
            refine iteT ⟨_, rfl, a, _, rfl, .inr h, rfl, _, rfl, ?_⟩
            rcases hr1 with _ | ⟨h2, hr2⟩
            · exact iteF (q H (Ex.refl H))
            · rcases hr2 with _ | ⟨h3, hr3⟩
              · exact iteF (q H (Ex.refl H))
              · rcases hr3 with _ | ⟨h4, hr4⟩
                · refine iteT ⟨_, rfl, a, _, 1, _, rfl, rfl, h, rfl, _, _, _, rfl, h2, fun H' e' => ⟨_, rfl, ?_⟩⟩
                  rename_i _ d2 _ d3

                  cases cm : isNumD 11 d2 with
                  | false =>
                    have q2 := q H' e'
                    rw [show two2 (isNumD 11) isPartsD [d2, d3] = false by show (isNumD 11 d2 && isPartsD d3) = false; rw [cm]; rfl] at q2
                    exact iteF q2
                  | true =>
                    refine iteT ⟨_, rfl, a, _, 2, _, rfl, rfl, ex_t e' h, rfl, _, _, rfl, dp_ex e' h3, trivial, fun H'' e'' => ?_⟩
                    have q2 := q H'' (e'.trans e'')
                    rw [show two2 (isNumD 11) isPartsD [d2, d3] = isPartsD d3 by show (isNumD 11 d2 && isPartsD d3) = _; rw [cm]; rfl] at q2
                    exact q2
                · rw [len_ne (by rw [List.length_cons, List.length_cons, List.length_cons, List.length_cons]; omega)]
                  exact iteF (q H (Ex.refl H))
          rw [decide_eq_false c4]
          rw [if_neg c4] at q
          exact iteF (q H (Ex.refl H))
      | _ => exact iteT q0
  | _ => exact iteT (iteT q0)
end
end V


set_option Elab.async false
set_option linter.all false
set_option maxRecDepth 100000
set_option maxHeartbeats 4000000
namespace V
open PySem PySem.Spec PyProof.Rows L2 Evl
section
variable {P : Program} {w : World} {K : PySem.W.Frag} {mg : Str → Option Value} {base : Heap}
theorem ok_partsD (T : Txt K w mg) : Cal P w K mg base 1 "parts_of" ["term"] (spPartsD K) := by
  obtain ⟨d_OPERATIONS, es, n, g_OPERATIONS, KD, hin, hval⟩ := T.O.ex
  obtain ⟨d_CALLS, g_CALLS, hC⟩ := T.g_CALLS
  refine T.D_parts_of.cal sc_parts_of (fun vs H Q E h => ?_) (fun f cdv A outer s H vs Q E hr h => ?_)
  · obtain ⟨v, d, rfl, _⟩ := h
    rfl
  obtain ⟨v, d, rfl, hd, hh, q⟩ := h
  refine ⟨_, (pss_cons (ps_if (pt_cmpR (op_in_kd KD) (pe_ix (r := rIxT K) ix_tup (pv 0) pe_int (fun _ _ => rfl)) (pe_glob (v := .ref d_OPERATIONS) rfl g_OPERATIONS rfl) rfl)
    (pss_one (ps_ret (pe_slice sl_tupA (pv 0) (po_some pe_int) po_none)))
    pss_nil)
  (pss_cons (ps_if (pt_cmpR op_in_seq (pe_ix (r := rIxT K) ix_tup (pv 0) pe_int (fun _ _ => rfl)) (pe_glob (v := .ref d_CALLS) rfl g_CALLS rfl) rfl)
    (pss_one (ps_ret (pe_ix (r := rIxT K) ix_tup (pv 0) pe_int (fun _ _ => rfl))))
    pss_nil)
  (pss_one (ps_ret (pe_tup pa_nil))))), ?_⟩
  cases hd with
  | @tup a xs ds h hx =>
    cases hx with
    | nil => cases hh
    | @cons v1 vr d1 dr h1 hr1 =>
      cases h1 with
      | str z =>
        obtain ⟨r, hr2, hr3⟩ := hin z
        refine ⟨_, rfl, a, _, 0, _, rfl, rfl, h, at0, z, r, rfl, rfl, hr2, _, rfl, ?_⟩
        rw [hr3]
        by_cases co : z ∈ opWords
        · rw [decide_eq_true co]
          refine iteT ⟨_, rfl, 1, rfl, a, _, rfl, h, fun y => ?_, fun _ p hp => ?_⟩
          · have z1 : HT.sIx (V.str z :: vr).length 0 (some ((1 : Nat) : Int)) = 0 := y.1
            rw [HT.sIx_nat, List.length_cons] at z1
            omega
          · rw [cut_tail]
            refine q _ p vr (Ex.new hp) (SqT.of upd_same) ?_
            have e : partsD (.tuple (.str z :: dr)) = dr := if_pos co
            rw [e]
            exact dps_ex (Ex.new hp) hr1
        · rw [decide_eq_false co]
          have e : partsD (.tuple (.str z :: dr)) = second dr := if_neg co
          have e0 : headD (.tuple (.str z :: dr)) = (if z = "num" then one1 (isNumD 1000002) dr else if z = "arg" then one1 (isNumD 3) dr
              else if z = "call" then two2 isMarkD isPartsD dr else if z = "ring" then two2 (isNumD 11) isPartsD dr else false) := if_neg co
          rw [e] at q
          rw [e0] at hh
          refine iteF ⟨_, rfl, a, _, 0, _, rfl, rfl, h, at0, d_CALLS, _, rfl, .inr (hC H), rfl, rfl, _, rfl, ?_⟩
          have ep : Ex H H := Ex.refl H
          have short : one1 (fun _ => true) dr = true → inV (.str z) [.str "call", .str "ring", .str "name"] = false → (tTup tNil) [some (.ref a)] H Q := fun o1 _ => by
            refine ⟨sz 0, fun p2 hp2 => ?_⟩
            refine q _ p2 [] (ep.trans (Ex.new hp2)) (SqT.of upd_same) ?_
            rcases hr1 with _ | ⟨h2, hr2⟩
            · exact .nil
            · rcases hr2 with _ | ⟨h3, hr3⟩
              · exact .nil
              · cases o1
          have long : ∀ f : PyData → Bool, two2 f isPartsD dr = true → (tOp (rIxT K) (tVar 0) (tC (.int 2))) [some (.ref a)] H Q := fun f t2 => by
            rcases hr1 with _ | ⟨h2, hr2⟩
            · cases t2
            · rcases hr2 with _ | ⟨h3, hr3⟩
              · cases t2
              · rcases hr3 with _ | ⟨h4, hr4⟩
                · rename_i _ d2 _ d3
                  have t3 : (f d2 && isPartsD d3) = true := t2
                  rw [Bool.and_eq_true] at t3
                  cases h3 with
                  | tup hb hbs => exact ⟨_, rfl, a, _, 2, _, rfl, rfl, ex_t ep h, rfl, q _ _ _ ep (ex_t ep hb) (dps_ex ep hbs)⟩
                  | _ => cases t3.2
                · cases t2
          by_cases c1 : z = "num"
          · subst c1
            rw [if_pos rfl] at hh
            refine iteF (short ?_ (by decide +kernel))
            cases dr with
            | nil => cases hh
            | cons x r => cases r <;> first | rfl | cases hh
          rw [if_neg c1] at hh
          by_cases c2 : z = "arg"
          · subst c2
            rw [if_pos rfl] at hh
            refine iteF (short ?_ (by decide +kernel))
            cases dr with
            | nil => cases hh
            | cons x r => cases r <;> first | rfl | cases hh
          rw [if_neg c2] at hh
          by_cases c3 : z = "call"
          · subst c3
            rw [if_pos rfl] at hh
            exact iteT (long _ hh)
          rw [if_neg c3] at hh
          by_cases c4 : z = "ring"
          · subst c4
            rw [if_pos rfl] at hh
            exact iteT (long _ hh)
          rw [if_neg c4] at hh
          cases hh
      | _ => cases hh
  | _ => cases hh
theorem ok_within (T : Txt K w mg) (G_is_headed : Cal P w K mg base 2 "is_headed" ["thing"] (spTest Small headD K)) (G_parts_of : Cal P w K mg base 1 "parts_of" ["term"] (spPartsD K)) :
    ∀ n : Nat, Cal P w K mg base (n + 3) "is_term_within" ["deep", "thing"] (spWithin K n) := by
  intro n
  induction n with
  | zero =>
    refine T.D_is_term_within.cal sc_is_term_within (fun vs H Q E h => ?_) (fun f cdv A outer s H vs Q E hr h => ?_)
    · obtain ⟨m, v, d, rfl, _⟩ := h
      rfl
    obtain ⟨m, v, d, rfl, hm, hd, hs, q⟩ := h
    have G_is_term_within : Cal P w K mg base 0 "is_term_within" ["deep", "thing"] (fun _ _ _ _ => False) := T.D_is_term_within.never fun _ _ _ _ h => h
    refine ⟨_, (pss_cons (ps_if (PW.pt (pw_or (pt_cmpR op_eq (pv 0) pe_int (nomark _)) (pw_or1 (pt_not (pt_val (pe_fn G_is_headed hr (by omega) (pa_cons (pv 1) pa_nil)))))))
    (pss_one (ps_ret pe_bl))
    pss_nil)
  (pss_one (ps_ret (pe_bi (cr_all rfl) T.z_all (pa_cons (pe_lc (own := [("part", 2)]) (g := (gName 2)) (tt := tYes) rfl sc_is_term_within.nd (pi_tup (pe_fn G_parts_of hr (by omega) (pa_cons (pv 1) pa_nil))) (blkOk_by (N := N_is_term_within) (sc := defScope s_is_term_within) (by decide +kernel)) (fun _ _ _ _ _ => (pg_name (i := 2) sc_is_term_within.nd rfl (.inl rfl))) (fun _ _ _ _ _ => pts_nil) (fun _ _ _ _ _ => (pe_fn G_is_term_within hr (by omega) (pa_cons (pe_op op_sub (pv 0) pe_int) (pa_cons (pv 2) pa_nil))))) pa_nil))))), ?_⟩
    have m0 : m = 0 := by omega
    subst m0
    exact ⟨_, rfl, rfl, _, rfl, iteT (iteT (q H (Ex.refl H)))⟩
  | succ n ih =>
    have G_is_term_within := ih
    refine T.D_is_term_within.cal sc_is_term_within (fun vs H Q E h => ?_) (fun f cdv A outer s H vs Q E hr h => ?_)
    · obtain ⟨m, v, d, rfl, _⟩ := h
      rfl
    obtain ⟨m, v, d, rfl, hm, hd, hs, q⟩ := h
    refine ⟨_, (pss_cons (ps_if (PW.pt (pw_or (pt_cmpR op_eq (pv 0) pe_int (nomark _)) (pw_or1 (pt_not (pt_val (pe_fn G_is_headed hr (by omega) (pa_cons (pv 1) pa_nil)))))))
    (pss_one (ps_ret pe_bl))
    pss_nil)
  (pss_one (ps_ret (pe_bi (cr_all rfl) T.z_all (pa_cons (pe_lc (own := [("part", 2)]) (g := (gName 2)) (tt := tYes) rfl sc_is_term_within.nd (pi_tup (pe_fn G_parts_of hr (by omega) (pa_cons (pv 1) pa_nil))) (blkOk_by (N := N_is_term_within) (sc := defScope s_is_term_within) (by decide +kernel)) (fun _ _ _ _ _ => (pg_name (i := 2) sc_is_term_within.nd rfl (.inl rfl))) (fun _ _ _ _ _ => pts_nil) (fun _ _ _ _ _ => (pe_fn G_is_term_within hr (by omega) (pa_cons (pe_op op_sub (pv 0) pe_int) (pa_cons (pv 2) pa_nil))))) pa_nil))))), ?_⟩
    refine ⟨_, rfl, rfl, _, rfl, ?_⟩
    cases m with
    | zero => exact iteT (iteT (q H (Ex.refl H)))
    | succ m =>
      rw [decide_eq_false (show ¬ V.int ((m + 1 : Nat) : Int) = V.int 0 from fun z => by have := V.int.inj z; omega)]
      refine iteF ⟨_, rfl, v, d, rfl, hd, hs, fun H1 e1 => ⟨_, rfl, ?_⟩⟩
      cases ch : headD d with
      | false =>
        have q1 := q H1 e1
        rw [show isTm (m + 1) d = false by show (headD d && _) = false; rw [ch]; rfl] at q1
        exact iteT q1
      | true =>
        have et : isTm (m + 1) d = (partsD d).all (isTm m) := by
          show (headD d && _) = _
          rw [ch]
          rfl
        rw [et] at q
        refine iteF ⟨_, rfl, v, d, rfl, dp_ex e1 hd, ch, fun H2 p us e2 h2 hus => ⟨p, rfl, ⟨us, h2⟩, fun Dl hD => ?_⟩⟩
        have hlen := dps_len hus
        refine lc_tup (xs := us) (fun i H3 => Ex H2 H3 ∧ H3 Dl = some (.lst ((((partsD d).take i).map (isTm m)).map V.bl))) ⟨Ex.new hD, upd_same⟩ (fun i H3 _ k => ex_t k.1 h2) ?_ ?_
        · rintro i x H3 hi ⟨e3, h3⟩
          obtain ⟨u, hu, hxu⟩ := dps_get hus hi
          refine ⟨rfl, yes ⟨_, rfl, _, _, rfl, rfl, _, rfl, m, x, u, ?_, by omega, dp_ex e3 hxu, hs.parts (get_mem hu), fun H4 e4 => ⟨_, e4 Dl _ h3, ?_, Ex.mut (e3.trans e4) hD, ?_⟩⟩⟩
          · show [V.int (((m + 1 : Nat) : Int) - 1), x] = [V.int (m : Int), x]
            rw [show (((m + 1 : Nat) : Int) - 1) = (m : Int) by omega]
          · rw [List.length_map, List.length_map, List.length_take]
            have := (List.getElem?_eq_some_iff.mp hu).1
            exact small1000 (by have := hs.few; omega)
          · rw [upd_same, take_more hu, List.map_append, List.map_append]
            rfl
        · rintro H3 ⟨e3, h3⟩
          rw [hlen, List.take_length] at h3
          refine ⟨Dl, _, rfl, SqL.of h3, ?_⟩
          have q1 := q H3 (e1.trans (e2.trans e3))
          rw [show (((partsD d).map (isTm m)).all id) = (partsD d).all (isTm m) by rw [List.all_map]; rfl]
          exact q1
theorem ok_isTerm (T : Txt K w mg) (G_is_term_within : Cal P w K mg base 11 "is_term_within" ["deep", "thing"] (spWithin K 8)) : Cal P w K mg base 12 "is_term" ["thing"] (spTest Small (isTm 8) K) := by
  refine T.D_is_term.cal sc_is_term (fun vs H Q E h => ?_) (fun f cdv A outer s H vs Q E hr h => ?_)
  · obtain ⟨v, d, rfl, _⟩ := h
    rfl
  obtain ⟨v, d, rfl, hd, hs, q⟩ := h
  refine ⟨_, (pss_one (ps_ret (pe_fn G_is_term_within hr (by omega) (pa_cons (pe_gi T.c_DEEPEST) (pa_cons (pv 0) pa_nil))))), ?_⟩
  exact ⟨_, rfl, 8, v, d, rfl, Nat.le_refl _, hd, hs, q⟩
end
end V


set_option Elab.async false
set_option linter.all false
set_option maxRecDepth 100000
set_option maxHeartbeats 4000000
namespace V
open PySem PySem.Spec PyProof.Rows L2 Evl TL NumText
section
variable {P : Program} {w : World} {K : PySem.W.Frag} {mg : Str → Option Value} {base : Heap}
theorem all_k01 (T : Txt K w mg) {fL : Addr} {fd : FuncData} (F : FunD K "law" "law" (defArgs s_law) (defBody s_law) (defScope s_law) [] [] fL fd) : FnG P w K mg base 27 fL fd ["script"] (spLaw K) := by
  have G_take : Cal P w K mg base 1 "_law_take" ["box", "size"] spTake := ok_take T.D__law_take T.z_divmod
  have G_num : Cal P w K mg base 2 "_law_number" ["box"] spNum := ok_number T.D__law_number G_take
  have G_sm := ok_someMark (P := P) (base := base) T G_take
  have G_any := ok_anyTerm (P := P) (base := base) T G_take G_num G_sm (ok_term T G_take G_num 3)
  have G_mk : Cal P w K mg base 1 "is_mark" ["thing"] (spTest Small isMarkD K) := ok_isMark T.D_is_mark T.z_isinstance T.z_str T.z_len T.z_all T.c_MARK_LENGTH T.c_SIGNS T.c_BASE
  have G_it := ok_isTerm (P := P) (base := base) T (ok_within T (ok_isHeaded T (ok_numTo T.D_is_number_to T.z_isinstance T.z_int T.z_bool) G_mk (ok_isParts T.D_is_parts T.z_isinstance T.z_tuple T.z_len T.c_MOST_PARTS)) (ok_partsD T) 8)
  have G_odd := ok_odd (P := P) (base := base) T G_take
  have G_lm := ok_lawMark (P := P) (base := base) T
  have G_right := ok_right (P := P) (base := base) T G_take G_any G_it (ok_lawTm T (ok_below T) G_lm 8) (ok_marks T G_take G_sm G_odd (ok_sameB T) G_mk G_lm) (ok_bent T G_take G_odd 22) (ok_sameB T)
  exact ok_law T F (ok_folded T.D__law_folded T.z_list T.z_enumerate) (ok_box T.D__law_box T.z_len T.z_abs T.z_int) G_right
end
end V


set_option Elab.async false
set_option linter.all false
set_option maxRecDepth 100000
set_option maxHeartbeats 4000000
namespace V
open PySem PySem.Spec PyProof.Rows L2
theorem facts {P : Program} {w : World} {K : PySem.W.Frag} {h h0 : Heap} {mg : Str → Option Value} {f : Addr} (X : K.In h) (G : h.Ns mainGlobals mg) (hfa : mg ("law" : Str) = some (.ref f)) (c : He.SaysX fa fn tabs [] ex w h0 K) :
    ∃ fd : FuncData, (∀ (s : Shared) (v : Value), BindsTo s fd ⟨[v], []⟩ [("script", v)]) ∧ ∀ base : Heap, K.In base → base.Ns mainGlobals mg → FnG P w K mg base 27 f fd ["script"] (spLaw K) := by
  have T : Txt K w mg := txt_of X G c
  obtain ⟨fd, F⟩ := c.t.d.def_ 22 (d := d_law) rfl
  have e := hfa.symm.trans (He.glo_ok X G (c.t.d.fact 22 (f := .glo "law") rfl))
  cases e
  have b := FunD.bindsA (ps := ["script"]) F fun _ _ _ _ _ _ us hl => match us, hl with | [_], _ => rfl
  exact ⟨fd, fun s v => b s [v] rfl, fun base _ _ => all_k01 T F⟩
end V
open PySem PySem.W PySem.Calls PyProof.Rows
theorem PySem.Challenge.cw_contentnames_k01_marks_and_terms_or_not_holds : PySem.Challenge.rw_contentnames_k01_marks_and_terms_or_not.Holds := by
  w_on; o_law
  refine HandSHeadRun.head_any (r := OpenLaw.row PySem.Challenge.rw_contentnames_k01_marks_and_terms_or_not) (q := view (OpenLaw.row PySem.Challenge.rw_contentnames_k01_marks_and_terms_or_not).prog [34]) (H := V.hk) (ob := V.ob) (M := 6000) (loose := V.loose)
    (d := HandSHeadRun.topDef (OpenLaw.row PySem.Challenge.rw_contentnames_k01_marks_and_terms_or_not).prog 34) (kwd := []) V.ob_eq
    (by kernel_rfl) (fun s => by kernel_rfl) V.run (by kernel_rfl) (by kernel_rfl) (by kernel_rfl) (by rfl) (by first | assumption | decide +kernel) (by decide +kernel) ⟨rfl, rfl, rfl, rfl, rfl, by decide +kernel⟩ ?hw ?hc
  case hw => w_witness2
  case hc =>
    refine V.walkG (l := PySem.Challenge.rw_contentnames_k01_marks_and_terms_or_not) (n := 63) (k := 27) (x := "script") rfl (by decide) (by kernel_rfl) ⟨rfl, by decide, by decide⟩ ?F
    intro w mg fa h Y G hmg0
    obtain ⟨K, KX, c⟩ := Y
    have hmg : mg ("law" : PySem.Str) = some (.ref fa) := by
      have e : (HandSHeadRun.topDef (OpenLaw.row PySem.Challenge.rw_contentnames_k01_marks_and_terms_or_not).prog 34).name = ("law" : PySem.Str) := by kernel_rfl
      rw [← e]
      exact hmg0
    obtain ⟨fd, hb, hF⟩ := V.facts (P := (PySem.Challenge.rw_contentnames_k01_marks_and_terms_or_not).prog) (w := w) KX G hmg c
    exact ⟨K, fd, V.spLaw K, KX, hb, fun H a ns hl _ hS => ⟨a, ns, rfl, hS, hl, fun _ => rfl⟩, hF⟩

