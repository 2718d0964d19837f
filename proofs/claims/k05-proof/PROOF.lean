import PyProof.Rows.All
import Wide.All
import OpenK.AllK
import Wide.FinOn
import HandS.ForMost
import HandS.More
import HandS.Defaults
import HandS.IsInst
import HandS.WideBits
import HandS.Wide
import HandS.Style
import HandS.TupAny
import HandS.StrMore
import HandS.SetKeys
import HandS.SetBool
import HandS.Flow
import HandS.RaiseOp
import HandS.Zip
import HandS.Walk
import HandS.Conv
import HandS.EndBits
import HandS.Evl
import HandS.SortKw
import KE.DatumOrd
import HandS.HeadHook4
import KE.IntTextText
import KE.KIntText
import PyProof.Rows.SortShellAny
import HandS.Replace
import HandS.Strs
import PyProof.StrOps2
import HandS.IntHex
import HandS.Head0
import HandS.Head1
import HandS.Head2
import HandS.HeadEnd
import HandS.HeadHook1
import HandS.HeadHook2
import HandS.HeadHook3
import HandS.HeadWalk
import PySem.Challenge.RW_contentnames_k05_marks_of_texts
set_option Elab.async false
set_option linter.all false
set_option maxRecDepth 100000
set_option maxHeartbeats 4000000
namespace V
open PySem PySem.Spec PyProof.Rows L2 Evl
/-! ### defs of the top, called by their names -/
/-- the def of this name stands at the top -/
structure Def (K : PySem.W.Frag) (mg : Str → Option Value) (x : Str) (st : Stmt) (ps : List Str) : Prop where
  ex : ∃ (f : Addr) (fd : FuncData), FunD K x x (defArgs st) (defBody st) (defScope st) [] [] f fd ∧ mg x = some (.ref f) ∧ Binds K fd ps []
/-- .. and keeps this promise, with k calls within one another -/
structure Cal (P : Program) (w : World) (K : PySem.W.Frag) (mg : Str → Option Value) (base : Heap) (k : Nat) (x : Str) (ps : List Str) (sp : Sp) : Prop where
  ex : ∃ (f : Addr) (fd : FuncData), FnOk P w K mg base CX0 k f fd ps sp ∧ mg x = some (.ref f) ∧ PySem.W.keepIn K (.ref f) = true ∧ Binds K fd ps []
section
variable {P : Program} {w : World} {K : PySem.W.Frag} {mg : Str → Option Value} {base : Heap} {x : Str} {st : Stmt} {ps N : List Str} {k : Nat} {sp sp' : Sp}
theorem Def.cal (D : Def K mg x st ps) (S : FnScope N ps (defScope st)) (len : ∀ vs H Q E, sp vs H Q E → vs.length = ps.length)
    (body : ∀ (f : Addr) (cdv : Value) (A : Around) (outer : List Env) (s : Shared) (H : Hp) (vs : List V) (Q : VK) (E : XK),
      Room k (A.deeper (envOfC x (defScope st) s.heap.objs.size f cdv)) → sp vs H Q E →
      ∃ t, PSs (cxOf CX0 P w K mg base N x (defScope st) f cdv A outer s H E).nox (defBody st) t ∧
        t { nx := fun _ H' => Q .non H', rt := Q } (start N vs) H) : Cal P w K mg base (k + 1) x ps sp := by
  obtain ⟨f, fd, F, hm, hb⟩ := D.ex
  refine ⟨f, fd, F.ok S len (fun cdv A outer s H vs Q E hr h => ?_), hm, F.kp, hb⟩
  obtain ⟨t, h1, h2⟩ := body f cdv A outer s H vs Q E hr h
  exact ⟨t, h1.nox, h2⟩
theorem Cal.mono {j : Nat} (C : Cal P w K mg base j x ps sp) (h : j ≤ k) : Cal P w K mg base k x ps sp := by
  obtain ⟨f, fd, F, h1, h2, h3⟩ := C.ex
  exact ⟨f, fd, F.mono h, h1, h2, h3⟩
theorem Cal.imp (C : Cal P w K mg base k x ps sp) (h : ∀ vs H Q E, sp' vs H Q E → sp vs H Q E) : Cal P w K mg base k x ps sp' := by
  obtain ⟨f, fd, F, h1, h2, h3⟩ := C.ex
  exact ⟨f, fd, F.imp h, h1, h2, h3⟩
/-- nothing is promised: none may call it -/
theorem Def.never (D : Def K mg x st ps) (no : ∀ vs H Q E, ¬ sp vs H Q E) : Cal P w K mg base 0 x ps sp := by
  obtain ⟨f, fd, F, hm, hb⟩ := D.ex
  exact ⟨f, fd, ⟨fun vs H Q E h => absurd h (no vs H Q E), fun A outer s H args us vs Q E _ _ _ _ h => absurd h (no vs H Q E)⟩, hm, F.kp, hb⟩
end
/-- its call -/
def tFn (sp : Sp) (t : TA) : TE := fun σ H Q => t σ H fun vs H1 => sp vs H1 Q E0
section
variable {X : Cx}
theorem pe_fn {j k : Nat} {x : Str} {ps : List Str} {sp : Sp} {e : Expr} {es : List Expr} {t : TA} {p pos : Pos} (C : Cal X.prog X.w X.K X.mg X.base k x ps sp) (hr : Room j X.A) (hk : k ≤ j) (ha : PA X (e :: es) t)
    (hg : Gl X x := by rfl) (hdb : (x == ("__debug__" : Str)) = false := by decide) (he : starEach (e :: es) X.env = (false, eval e X.env) :: starEach es X.env := by rfl)
    (hpl : (backTo pos (starEach es X.env)).any (·.1) = false := by rfl) : PE X (.Call (.Name x p) (e :: es) [] pos) (tFn sp t) := by
  obtain ⟨f, fd, F, h1, h2, h3⟩ := C.ex
  have h := pe_call (ds := []) (dvs := []) (E := E0) (p := p) F (hr.mono hk) hg h1 h2 h3 .nil pass0 ha hdb he hpl
  refine ⟨fun pins s σ H Q I q => h.run pins s σ H Q I ?_⟩
  have e1 : (fun (vs : List V) (H1 : Hp) => sp (vs ++ []) H1 Q E0) = fun vs H1 => sp vs H1 Q E0 := by
    funext vs H1
    rw [List.append_nil]
  show t σ H fun vs H1 => sp (vs ++ []) H1 Q E0
  rw [e1]
  exact q
/-- a built-in function, a built-in type, called -/
theorem pe_bi {id : String} {r : List V → Hp → VK → Prop} {x : Str} {e : Expr} {es : List Expr} {t : TA} {p pos : Pos} (hc : CallR X (.builtin id) r) (hm : X.mg x = none) (ha : PA X (e :: es) t) (hg : Gl X x := by rfl)
    (hv : bootBuiltins x = some (.builtin id) := by decide +kernel) (hn : x ≠ "__name__" := by decide) (hdb : (x == ("__debug__" : Str)) = false := by decide)
    (he : starEach (e :: es) X.env = (false, eval e X.env) :: starEach es X.env := by rfl) (hpl : (backTo pos (starEach es X.env)).any (·.1) = false := by rfl) : PE X (.Call (.Name x p) (e :: es) [] pos) (tCB r t) :=
  pe_callB hc hg hm hv ha hn hdb he hpl
theorem pe_bt {T : String} {r : List V → Hp → VK → Prop} {x : Str} {e : Expr} {es : List Expr} {t : TA} {p pos : Pos} (hc : CallR X (.type T) r) (hm : X.mg x = none) (ha : PA X (e :: es) t) (hg : Gl X x := by rfl)
    (hv : bootBuiltins x = some (.type T) := by decide +kernel) (hn : x ≠ "__name__" := by decide) (hdb : (x == ("__debug__" : Str)) = false := by decide)
    (he : starEach (e :: es) X.env = (false, eval e X.env) :: starEach es X.env := by rfl) (hpl : (backTo pos (starEach es X.env)).any (·.1) = false := by rfl) : PE X (.Call (.Name x p) (e :: es) [] pos) (tCB r t) :=
  pe_callTy hc hg hm hv ha hn hdb he hpl
theorem ev_fn {sp : Sp} {σ : L2.St} {H : Hp} {vs : List V} {z : V} {ta : TA} (h : EvA ta σ H vs) (hs : SpV sp vs H z) : Ev (tFn sp ta) σ H z := fun H1 e Q q =>
  h H1 e _ fun H2 e2 => hs H2 (e.trans e2) Q (fun H3 e3 => q H3 (e2.trans e3)) E0
theorem el_fn {sp : Sp} {σ : L2.St} {H : Hp} {vs xs : List V} {ta : TA} (h : EvA ta σ H vs) (hs : SpL sp vs H xs) : EvL (tFn sp ta) σ H xs := fun H1 e Q q =>
  h H1 e _ fun H2 e2 => hs H2 (e.trans e2) Q (fun p H3 hp e3 h3 => q p H3 (fresh_back e2 hp) (e2.trans e3) h3) E0
end
theorem sz (n : Nat) (h : n ≤ 1000 := by decide) : n ≤ sizeLine := Nat.le_of_lt (small1000 h)
theorem at0 {α : Type} {x : α} {r : List α} : atI (x :: r) 0 = some x := atI_nat (j := 0) rfl
theorem at1 {α : Type} {x y : α} {r : List α} : atI (x :: y :: r) 1 = some y := atI_nat (j := 1) rfl
theorem at2 {α : Type} {x y z : α} {r : List α} : atI (x :: y :: z :: r) 2 = some z := atI_nat (j := 2) rfl
/-- a turn of a comprehension without a test -/
theorem yes {σ : L2.St} {H : Hp} {A B : Hp → Prop} (h : A H) : tYes σ H fun b H3 => if b = true then A H3 else B H3 := by
  show (fun b H3 => if b = true then A H3 else B H3) true H
  exact iteT h
/-! ### heaps -/
/-- all that was tracked but at b is as it was -/
def But (b : Addr) (H H' : Hp) : Prop := ∀ c o, c ≠ b → H c = some o → H' c = some o
theorem But.refl (b : Addr) (H : Hp) : But b H H := fun _ _ _ h => h
theorem But.trans {b : Addr} {H H1 H2 : Hp} (x : But b H H1) (y : But b H1 H2) : But b H H2 := fun c o n h => y c o n (x c o n h)
theorem But.of {b : Addr} {H H' : Hp} (e : Ex H H') : But b H H' := fun c o _ h => e c o h
theorem But.upd {b : Addr} {H H' : Hp} {o : HO} (e : But b H H') : But b H (upd H' b o) := fun c u n h => by
  rw [upd_ne n]
  exact e c u n h
/-- the tuples stay -/
def Tu (H H' : Hp) : Prop := ∀ c xs, H c = some (.tup xs) → H' c = some (.tup xs)
theorem Tu.refl (H : Hp) : Tu H H := fun _ _ h => h
theorem Tu.trans {H H1 H2 : Hp} (x : Tu H H1) (y : Tu H1 H2) : Tu H H2 := fun c xs h => y c xs (x c xs h)
theorem Tu.of {H H' : Hp} (e : Ex H H') : Tu H H' := fun c _ h => e c _ h
theorem But.tu {b : Addr} {xs : List V} {H H' : Hp} (e : But b H H') (hb : H b = some (.lst xs)) : Tu H H' := fun c ys h => e c _ (fun z => by
  rw [z, hb] at h
  cases h) h
end V


set_option Elab.async false
set_option linter.all false
set_option maxRecDepth 100000
set_option maxHeartbeats 4000000
namespace V
open PySem PySem.Spec PyProof.Rows L2 Evl
/-! ### max(numbers, default=d) -/
def rMaxDf (K : PySem.W.Frag) : List V → List V → Hp → VK → Prop := fun vs zs H Q => ∃ (a : Addr) (ns : List Int) (d : Int), vs = [V.ref a] ∧ zs = [V.int d] ∧ SqL K H a (ns.map V.int) ∧
  (ns = [] → Q (.int d) H) ∧ ∀ m, m ∈ ns → (∀ y, y ∈ ns → y ≤ m) → Q (.int m) H
theorem top_of : ∀ (xs : List Int) (x : Int), (xs.foldl (fun a y => if PySem.W.DatumOrd.lt a y = true then y else a) x) ∈ x :: xs ∧ ∀ y ∈ x :: xs, y ≤ xs.foldl (fun a y => if PySem.W.DatumOrd.lt a y = true then y else a) x
  | [], x => ⟨List.mem_cons_self .., fun y h => by
    rw [List.mem_singleton.mp h]
    exact Int.le_refl _⟩
  | z :: xs, x => by
    obtain ⟨h1, h2⟩ := top_of xs (if PySem.W.DatumOrd.lt x z = true then z else x)
    rw [List.foldl_cons]
    generalize List.foldl (fun a y => if PySem.W.DatumOrd.lt a y = true then y else a) (if PySem.W.DatumOrd.lt x z = true then z else x) xs = top at h1 h2 ⊢
    have lt_is : PySem.W.DatumOrd.lt x z = decide (x < z) := rfl
    have h3 := h2 _ (List.mem_cons_self ..)
    rw [lt_is] at h1 h3
    by_cases c : x < z
    · rw [if_pos (decide_eq_true c)] at h1 h3
      refine ⟨List.mem_cons_of_mem _ h1, fun y hy => ?_⟩
      rcases List.mem_cons.mp hy with rfl | hy
      · omega
      · rcases List.mem_cons.mp hy with rfl | hy
        · exact h3
        · exact h2 y (List.mem_cons_of_mem _ hy)
    · rw [if_neg (by rw [decide_eq_true_eq]; exact c)] at h1 h3
      refine ⟨?_, fun y hy => ?_⟩
      · rcases List.mem_cons.mp h1 with e | h1
        · rw [e]
          exact List.mem_cons_self ..
        · exact List.mem_cons_of_mem _ (List.mem_cons_of_mem _ h1)
      · rcases List.mem_cons.mp hy with rfl | hy
        · exact h3
        · rcases List.mem_cons.mp hy with rfl | hy
          · omega
          · exact h2 y (List.mem_cons_of_mem _ hy)
section
variable {X : Cx}
theorem cr_maxDf (hc : X.calm = true) (hu : X.A.units + 64 < cLine) : CallRK X (.builtin "max") ["default"] (rMaxDf X.K) := by
  intro pins s σ H vs zs us ws Q I r rz h
  obtain ⟨a, ns, d, rfl, rfl, hs, q0, q⟩ := h
  obtain ⟨its, rv, hl, _⟩ := I.list hs
  obtain ⟨u, rfl, t, rfl⟩ := vals1 rz
  rw [Vals.ref1 r]
  refine PySem.W.max_list_datum_default (xs := ns) (I.ok.hd hc) hl.isList (PySem.W.HoldAll.of_ints (by simpa using rv.ints)) (by show X.A.units + 1 + 0 < cLine; omega) (fun e h' tk hk => ?_) fun y ys i v h' tk e hi hh hk => ?_
  · exact ⟨.int d, H, I.kept hk, ⟨_, rfl⟩, q0 e⟩
  · have hv : ∃ t', v = .int (PySem.W.maxOf y ys) t' := by
      have ha : PySem.W.HoldAll h' [v] [PySem.W.maxOf y ys] := .cons hh .nil
      have hb := PySem.W.HoldAll.toInts ha
      cases hb with
      | cons n t _ => exact ⟨t, rfl⟩
    have hm := top_of ys y
    subst e
    exact ⟨.int (PySem.W.maxOf y ys), H, I.kept hk, hv, q _ hm.1 hm.2⟩
/-- .. as it's written: one argument, one keyword -/
theorem pe_maxDf {e : Expr} {es : List Expr} {kws : List Keyword} {t tk : TA} {p pos : Pos} (hc : X.calm = true) (hu : X.A.units + 64 < cLine) (hm : X.mg "max" = none) (ha : PA X (e :: es) t) (hk : PK X kws tk) (hg : Gl X "max" := by rfl)
    (h1 : backTo pos (starEach (e :: es) X.env) = (false, eval e X.env) :: backTo pos (starEach es X.env) := by rfl) (h2 : (backTo pos (starEach (e :: es) X.env)).any (·.1) = false := by rfl)
    (h3 : (backToKw pos (keywordEach kws X.env)).all (·.1.isSome) = true := by rfl) (h4 : (backToKw pos (keywordEach kws X.env)).any (·.1.isNone) = false := by rfl)
    (h5 : (backToKw pos (keywordEach kws X.env)).filterMap (·.1) = (["default"] : List Str) := by rfl) :
    PE X (.Call (.Name "max" p) (e :: es) kws pos) (tCKw (rMaxDf X.K) t tk) :=
  pe_callBK (cr_maxDf hc hu) hg hm (by decide +kernel) ha hk (by decide) (by decide) h1 h2 h3 h4 h5
end
end V


set_option Elab.async false
set_option linter.all false
set_option maxRecDepth 100000
set_option maxHeartbeats 4000000
namespace V
open PySem PySem.Spec PyProof.Rows L2 Evl
/-! ### terms -/
inductive Op where
  | add | less | times | under | cond
  deriving DecidableEq
def Op.str : Op → Str
  | .add => "add" | .less => "less" | .times => "times" | .under => "under" | .cond => "if"
def Op.ar : Op → Nat
  | .cond => 3
  | _ => 2
inductive Hd where
  | op (o : Op) | call (m : Str) | ring (p : Nat)
  deriving DecidableEq
inductive Tm where
  | num (n : Nat) | arg (k : Nat) | node (h : Hd) (ts : List Tm)
theorem Tm.ind {M : Tm → Prop} (h1 : ∀ n, M (.num n)) (h2 : ∀ k, M (.arg k)) (h3 : ∀ h ts, (∀ t ∈ ts, M t) → M (.node h ts)) : ∀ t, M t
  | .num n => h1 n
  | .arg k => h2 k
  | .node h ts => h3 h ts fun t ht => by
    have : sizeOf t < sizeOf (Tm.node h ts) := by
      have := List.sizeOf_lt_of_mem ht
      simp only [Tm.node.sizeOf_spec]
      omega
    exact Tm.ind h1 h2 h3 t
termination_by t => sizeOf t
def Tm.parts : Tm → List Tm
  | .node _ ts => ts
  | _ => []
mutual
def Tm.deep : Tm → Nat
  | .num _ => 1
  | .arg _ => 1
  | .node _ ts => 1 + Tm.deeps ts
def Tm.deeps : List Tm → Nat
  | [] => 0
  | t :: ts => max t.deep (Tm.deeps ts)
end
mutual
def Tm.size : Tm → Nat
  | .num _ => 1
  | .arg _ => 1
  | .node _ ts => 1 + Tm.sizes ts
def Tm.sizes : List Tm → Nat
  | [] => 0
  | t :: ts => t.size + Tm.sizes ts
end
mutual
/-- it and all in it, from left to right -/
def Tm.all : Tm → List Tm
  | .num n => [.num n]
  | .arg k => [.arg k]
  | .node h ts => .node h ts :: Tm.alls ts
def Tm.alls : List Tm → List Tm
  | [] => []
  | t :: ts => t.all ++ Tm.alls ts
end
/-- a mark: six figures or letters -/
def isMk (m : Str) : Prop := m.length = 6 ∧ ∀ c ∈ m.cps.toList, (48 ≤ c ∧ c ≤ 57) ∨ (97 ≤ c ∧ c ≤ 122)
def Hd.ok (M : Nat) : Hd → Nat → Prop
  | .op o, n => n = o.ar
  | .call m, n => isMk m ∧ n ≤ 4
  | .ring p, n => p ≤ M ∧ n ≤ 4
/-- as terms are, places to M -/
inductive Tm.Ok (M : Nat) : Tm → Prop where
  | num {n : Nat} : n ≤ 1000002 → Tm.Ok M (.num n)
  | arg {k : Nat} : k ≤ 3 → Tm.Ok M (.arg k)
  | node {h : Hd} {ts : List Tm} : h.ok M ts.length → (∀ t ∈ ts, Tm.Ok M t) → Tm.Ok M (.node h ts)
theorem Hd.ok.le {M : Nat} {h : Hd} {n : Nat} (k : h.ok M n) : n ≤ 4 := by
  cases h with
  | op o =>
    have e : n = o.ar := k
    rw [e]
    cases o <;> decide
  | call m => exact k.2
  | ring p => exact k.2
theorem deep_pos : ∀ t : Tm, 1 ≤ t.deep
  | .num _ => Nat.le_refl _
  | .arg _ => Nat.le_refl _
  | .node h ts => by
    show 1 ≤ 1 + Tm.deeps ts
    omega
theorem deep_le {t : Tm} {ts : List Tm} (h : t ∈ ts) : t.deep ≤ Tm.deeps ts := by
  induction ts with
  | nil => cases h
  | cons u us ih =>
    show t.deep ≤ max u.deep (Tm.deeps us)
    rcases List.mem_cons.mp h with rfl | h
    · omega
    · have := ih h
      omega
theorem all_len : ∀ t : Tm, t.all.length = t.size
  | .num _ => rfl
  | .arg _ => rfl
  | .node h ts => by
    have alls_len : ∀ us : List Tm, (∀ u ∈ us, u.all.length = u.size) → (Tm.alls us).length = Tm.sizes us := by
      intro us
      induction us with
      | nil => intro _; rfl
      | cons u us ih =>
        intro hu
        show (u.all ++ Tm.alls us).length = u.size + Tm.sizes us
        rw [List.length_append, hu u (List.mem_cons_self ..), ih fun v hv => hu v (List.mem_cons_of_mem _ hv)]
    show (Tm.alls ts).length + 1 = 1 + Tm.sizes ts
    rw [alls_len ts fun u hu => all_len u]
    omega
/-! ### terms as they lie -/
mutual
/-- v is the term t -/
inductive TmAt (H : Hp) : V → Tm → Prop where
  | num {a : Addr} {n : Nat} : H a = some (.tup [.str "num", .int (n : Int)]) → TmAt H (.ref a) (.num n)
  | arg {a : Addr} {k : Nat} : H a = some (.tup [.str "arg", .int (k : Int)]) → TmAt H (.ref a) (.arg k)
  | op {a : Addr} {o : Op} {vs : List V} {ts : List Tm} : H a = some (.tup (.str o.str :: vs)) → TmsAt H vs ts → TmAt H (.ref a) (.node (.op o) ts)
  | call {a p : Addr} {m : Str} {vs : List V} {ts : List Tm} : H a = some (.tup [.str "call", .str m, .ref p]) → H p = some (.tup vs) → TmsAt H vs ts → TmAt H (.ref a) (.node (.call m) ts)
  | ring {a p : Addr} {k : Nat} {vs : List V} {ts : List Tm} : H a = some (.tup [.str "ring", .int (k : Int), .ref p]) → H p = some (.tup vs) → TmsAt H vs ts → TmAt H (.ref a) (.node (.ring k) ts)
inductive TmsAt (H : Hp) : List V → List Tm → Prop where
  | nil : TmsAt H [] []
  | cons {v : V} {vs : List V} {t : Tm} {ts : List Tm} : TmAt H v t → TmsAt H vs ts → TmsAt H (v :: vs) (t :: ts)
end
mutual
theorem TmAt.tu {H H' : Hp} (e : Tu H H') : ∀ {v : V} {t : Tm}, TmAt H v t → TmAt H' v t
  | _, _, .num h => .num (e _ _ h)
  | _, _, .arg h => .arg (e _ _ h)
  | _, _, .op h hs => .op (e _ _ h) (hs.tu e)
  | _, _, .call h hp hs => .call (e _ _ h) (e _ _ hp) (hs.tu e)
  | _, _, .ring h hp hs => .ring (e _ _ h) (e _ _ hp) (hs.tu e)
theorem TmsAt.tu {H H' : Hp} (e : Tu H H') : ∀ {vs : List V} {ts : List Tm}, TmsAt H vs ts → TmsAt H' vs ts
  | _, _, .nil => .nil
  | _, _, .cons h hs => .cons (h.tu e) (hs.tu e)
end
theorem TmAt.ex {H H' : Hp} {v : V} {t : Tm} (h : TmAt H v t) (e : Ex H H') : TmAt H' v t := h.tu (Tu.of e)
theorem TmsAt.ex {H H' : Hp} {vs : List V} {ts : List Tm} (h : TmsAt H vs ts) (e : Ex H H') : TmsAt H' vs ts := h.tu (Tu.of e)
theorem TmsAt.length {H : Hp} : ∀ {vs : List V} {ts : List Tm}, TmsAt H vs ts → vs.length = ts.length
  | _, _, .nil => rfl
  | _, _, .cons _ hs => by rw [List.length_cons, List.length_cons, hs.length]
theorem TmsAt.get {H : Hp} : ∀ {vs : List V} {ts : List Tm}, TmsAt H vs ts → ∀ {i : Nat} {v : V}, vs[i]? = some v → ∃ t, ts[i]? = some t ∧ TmAt H v t
  | _, _, .nil, i, v, e => by simp at e
  | _, _, .cons h hs, 0, v, e => by
    cases Option.some.inj e
    exact ⟨_, rfl, h⟩
  | _, _, .cons h hs, i + 1, v, e => hs.get (i := i) (v := v) e
theorem TmsAt.append {H : Hp} : ∀ {vs ws : List V} {ts us : List Tm}, TmsAt H vs ts → TmsAt H ws us → TmsAt H (vs ++ ws) (ts ++ us)
  | _, _, _, _, .nil, q => q
  | _, _, _, _, .cons h hs, q => .cons h (hs.append q)
theorem TmsAt.take {H : Hp} : ∀ {vs : List V} {ts : List Tm} (n : Nat), TmsAt H vs ts → TmsAt H (vs.take n) (ts.take n)
  | _, _, 0, _ => .nil
  | _, _, _ + 1, .nil => .nil
  | _, _, n + 1, .cons h hs => .cons h (hs.take n)
theorem TmsAt.drop {H : Hp} : ∀ {vs : List V} {ts : List Tm} (n : Nat), TmsAt H vs ts → TmsAt H (vs.drop n) (ts.drop n)
  | _, _, 0, h => h
  | _, _, _ + 1, .nil => .nil
  | _, _, n + 1, .cons _ hs => hs.drop n
/-! ### the words of operations -/
def opWords : List Str := ["add", "less", "times", "under", "if"]
theorem dic_at {K : PySem.W.Frag} {a : Addr} {ls : List (Option (Str × Int))} (h : He.dicW K a = some ls) :
    ∃ oc od es n sl, K.lookup a = some ⟨oc, od, .dict es n, sl⟩ ∧ es.toList.map He.keyOf = ls := by
  unfold He.dicW at h
  split at h
  · rename_i c es n sl q
    split at h
    · exact ⟨_, _, es, n, sl, q, Option.some.inj h⟩
    · cases h
  · cases h
theorem find_key {P : Params} {z : Str} : ∀ {l : List DictEntry} {ks : List Str}, l.map He.keyOf = He.keysIn P ks →
    (l.find? (·.key.isStr z)).isSome = decide (z ∈ ks) ∧ l.any (·.refKey) = false
  | [], [], _ => ⟨rfl, rfl⟩
  | [], _ :: _, e => by cases e
  | _ :: _, [], e => by cases e
  | e :: l, k :: ks, h => by
    have h1 : He.keyOf e :: l.map He.keyOf = some (k, PyData.keyHash P k) :: He.keysIn P ks := h
    injection h1 with h2 h3
    obtain ⟨i1, i2⟩ := find_key (z := z) h3
    have hk : ∃ t, e.key = .str k t := by
      unfold He.keyOf at h2
      split at h2
      · rename_i x t q
        have := (Prod.mk.inj (Option.some.inj h2)).1
        exact ⟨t, by rw [q, this]⟩
      · cases h2
    obtain ⟨t, hk⟩ := hk
    have hs : e.key.isStr z = decide (k = z) := by
      rw [hk]
      first
        | rfl
        | (simp only [Value.isStr]; rw [Bool.eq_iff_iff]; simp)
    refine ⟨?_, ?_⟩
    · rw [List.find?_cons, hs]
      by_cases c : k = z
      · subst c
        simp
      · have c' : ¬ z = k := fun x => c x.symm
        rw [decide_eq_false c]
        simp only [List.mem_cons, c', false_or]
        exact i1
    · rw [List.any_cons, i2, Bool.or_false]
      unfold DictEntry.refKey
      rw [hk] <;> rfl
theorem isSome_mem {K : PySem.W.Frag} {P : Params} {a : Addr} {ks : List Str} (h : He.dicW K a = some (He.keysIn P ks)) (z : Str) : ∃ r, PySem.W.nsIn K a z = some r ∧ r.isSome = decide (z ∈ ks) := by
  obtain ⟨oc, od, es, n, sl, q, e⟩ := dic_at h
  obtain ⟨f1, f2⟩ := find_key (z := z) e
  unfold PySem.W.nsIn
  rw [q]
  dsimp only
  cases g : es.toList.find? (·.key.isStr z) with
  | some d =>
    rw [g] at f1
    exact ⟨some d.val, rfl, f1⟩
  | none =>
    rw [g] at f1
    rw [f2]
    exact ⟨none, rfl, f1⟩
/-- the table of operations, as the module has it -/
structure Ops (K : PySem.W.Frag) (w : World) (mg : Str → Option Value) : Prop where
  ex : ∃ (d : Addr) (es : Array DictEntry) (n : Nat), mg "OPERATIONS" = some (.ref d) ∧ KDict K w d es n ∧ (∀ z : Str, ∃ r, PySem.W.nsIn K d z = some r ∧ r.isSome = decide (z ∈ opWords)) ∧
    ∀ o : Op, ∃ u, PySem.W.nsIn K d o.str = some (some u) ∧ RelV (.int (o.ar : Int)) u
/-- the module's name x is a tuple, without a __dict__ -/
def tupN (K : PySem.W.Frag) (x : Str) : Bool := match K.lookup (He.ga K x) with
  | some ⟨.type c, none, _, _⟩ => decide (c = "tuple")
  | _ => false
theorem tupN_ok {K : PySem.W.Frag} {x : Str} (h : tupN K x = true) : ∃ o, K.lookup (He.ga K x) = some o ∧ o.cls = .type "tuple" ∧ o.dict = none := by
  unfold tupN at h
  cases q : K.lookup (He.ga K x) with
  | none =>
    rw [q] at h
    cases h
  | some o =>
    obtain ⟨oc, od, dt, osl⟩ := o
    rw [q] at h
    cases oc with
    | type c =>
      cases od with
      | none => exact ⟨_, rfl, congrArg Value.type (of_decide_eq_true h), rfl⟩
      | some a => cases h
    | _ => cases od <;> cases h
end V


set_option Elab.async false
set_option linter.all false
set_option maxRecDepth 100000
set_option maxHeartbeats 4000000
namespace V
open PySem PySem.Spec PyProof.Rows L2 Evl TL NumText
/-! ### texts of terms -/
/-- the figures of a number -/
def nt (n : Nat) : Str := Str.ofString (toString (n : Int))
def dig (n : Nat) : List Nat := (Nat.toDigits 10 n).map Char.toNat
theorem tl_nt (n : Nat) : tl (nt n) = dig n := PySem.W.KIN.signs_num n
theorem dig_all (n : Nat) : AllDigits (dig n) := by
  intro c hc
  obtain ⟨ch, hch, e⟩ := List.mem_map.mp hc
  have r := PyProof.Rows.digit_range (Nat.isDigit_of_mem_toDigits (by decide) (by decide) hch)
  rw [← e]
  exact r
theorem dig_ne (n : Nat) : dig n ≠ [] := fun e => by
  have h := toDigits_len_ge 10 n
  rw [List.map_eq_nil_iff.mp e] at h
  exact absurd h (by decide)
theorem dig_len {n : Nat} (h : n < 10000000) : (dig n).length ≤ 7 := by
  unfold dig
  rw [List.length_map]
  exact toDigits_len_pow (by decide) (by decide) (by show n < 10 ^ 7; omega)
theorem nt_len {n : Nat} (h : n < 10000000) : (nt n).length ≤ 7 := by
  rw [len_tl, tl_nt]
  exact dig_len h
def letter (k : Nat) : Str := (["a", "b", "c", "d"] : List Str).getD k "a"
def Hd.S : Hd → Str
  | .op o => o.str
  | .call m => "#" ++ m
  | .ring p => "@" ++ nt p
mutual
def Tm.txt : Tm → Str
  | .num n => nt n
  | .arg k => letter k
  | .node h ts => ("(" : Str) ++ Str.join " " (h.S :: Tm.txts ts) ++ ")"
def Tm.txts : List Tm → List Str
  | [] => []
  | t :: ts => t.txt :: Tm.txts ts
end
theorem txts_map (ts : List Tm) : Tm.txts ts = ts.map Tm.txt := by
  induction ts with
  | nil => rfl
  | cons t ts ih =>
    show t.txt :: Tm.txts ts = t.txt :: ts.map Tm.txt
    rw [ih]
theorem str_len_append (a b : Str) : (a ++ b).length = a.length + b.length := by
  rw [len_tl, len_tl, len_tl, tl_append, List.length_append]
theorem join_len (ys : List Str) : (Str.join " " ys).length ≤ (ys.map (·.length)).sum + ys.length := by
  have h := StrLaws.join_length_le " " ys
  have e : (" " : Str).length = 1 := by decide +kernel
  rw [e, Nat.mul_one] at h
  exact h
theorem letter_len {k : Nat} (h : k ≤ 3) : (letter k).length = 1 := by
  match k, h with
  | 0, _ => decide +kernel
  | 1, _ => decide +kernel
  | 2, _ => decide +kernel
  | 3, _ => decide +kernel
  | n + 4, h => omega
theorem Hd.S_len {M n : Nat} {h : Hd} (k : h.ok M n) (hM : M ≤ 1000000) : h.S.length ≤ 8 := by
  cases h with
  | op o => cases o <;> decide +kernel
  | call m =>
    show (("#" : Str) ++ m).length ≤ 8
    rw [str_len_append, k.1.1]
    decide +kernel
  | ring p =>
    show (("@" : Str) ++ nt p).length ≤ 8
    rw [str_len_append]
    have h1 : p ≤ M := k.1
    have := nt_len (n := p) (by omega)
    have e : ("@" : Str).length = 1 := by decide +kernel
    omega
theorem txt_len {M : Nat} (hM : M ≤ 1000000) : ∀ t : Tm, t.Ok M → t.txt.length ≤ 16 * t.size := by
  refine Tm.ind (fun n k => ?_) (fun j k => ?_) fun h ts ih k => ?_
  · cases k with
    | num hn =>
      show (nt n).length ≤ 16 * 1
      have := nt_len (n := n) (by omega)
      omega
  · cases k with
    | arg hk =>
      show (letter j).length ≤ 16 * 1
      rw [letter_len hk]
      omega
  · cases k with
    | node hh hks =>
      have sum : ∀ us : List Tm, (∀ u ∈ us, u.txt.length ≤ 16 * u.size) → ((Tm.txts us).map (·.length)).sum ≤ 16 * Tm.sizes us ∧ (Tm.txts us).length = us.length := by
        intro us
        induction us with
        | nil => intro _; exact ⟨Nat.le_refl _, rfl⟩
        | cons u us ih2 =>
          intro hu
          obtain ⟨i1, i2⟩ := ih2 fun v hv => hu v (List.mem_cons_of_mem _ hv)
          have h1 := hu u (List.mem_cons_self ..)
          refine ⟨?_, by show (Tm.txts us).length + 1 = us.length + 1; rw [i2]⟩
          show u.txt.length + ((Tm.txts us).map (·.length)).sum ≤ 16 * (u.size + Tm.sizes us)
          omega
      obtain ⟨s1, s2⟩ := sum ts fun u hu => ih u hu (hks u hu)
      show ((("(" : Str) ++ Str.join " " (h.S :: Tm.txts ts)) ++ ")").length ≤ 16 * (1 + Tm.sizes ts)
      rw [str_len_append, str_len_append]
      have j := join_len (h.S :: Tm.txts ts)
      rw [List.map_cons, List.sum_cons, List.length_cons] at j
      have e1 : ("(" : Str).length = 1 := by decide +kernel
      have e2 : (")" : Str).length = 1 := by decide +kernel
      have h4 := hh.le
      have h8 := Hd.S_len hh hM
      omega
theorem log_small {i : Int} (h0 : 0 ≤ i) (h1 : i < 10000000) : i.natAbs.log2 < 1920 := by
  have : i.natAbs < 2 ^ 24 := by
    have : (2 : Nat) ^ 24 = 16777216 := by decide
    omega
  exact Nat.lt_of_lt_of_le (PySem.Flt.log2_lt_of (by decide) this) (by decide)
theorem eq_word {a b : Str} : decide (V.str a = V.str b) = decide (a = b) := by
  rw [decide_eq_decide]
  exact ⟨V.str.inj, congrArg V.str⟩
end V


set_option Elab.async false
set_option linter.all false
set_option maxRecDepth 100000
set_option maxHeartbeats 4000000
/-! sets of texts: made, added to, by a comprehension, sorted -/
namespace VS
open PySem PySem.Spec PyProof.Rows L2 Evl
/-- the text of a member -/
def txO (m : Int × Value) : Str := match m.2 with
  | .str x _ => x
  | _ => Str.empty
def MemS (w : World) (m : Int × Value) : Prop := ∃ x t, m.2 = Value.str x t ∧ m.1 = hashStr w x
/-- a set of texts lies at a: S its members, n how many; its table rises, it can be walked -/
def SetS (w : World) (h : Heap) (a : Addr) (S : Str → Bool) (n : Nat) : Prop :=
  ∃ ob ms ep tb, h.get? a = some ob ∧ ob.ExactSet ∧ ob.data = .set ms ep tb ∧ (∀ m ∈ ms.toList, MemS w m) ∧ (ms.toList.map txO).Nodup ∧
    (∀ x, S x = true ↔ x ∈ ms.toList.map txO) ∧ ms.size < scanBound ∧ tb.fits ms.size = true ∧ ms.size = n ∧ Ris tb.place.toList ∧ (w.params.followText "set-order" = true ∨ tb.led = true)
section
variable {P : Program} {w : World} {h h' : Heap} {a : Addr} {S : Str → Bool} {n : Nat}
theorem SetS.keep (R : SetS w h a S n) (k : ∀ o, h.get? a = some o → h'.get? a = some o) : SetS w h' a S n := by
  obtain ⟨ob, ms, ep, tb, g, rest⟩ := R
  exact ⟨ob, ms, ep, tb, k ob g, rest⟩
theorem MemS.is {m : Int × Value} (g : MemS w m) (x : Str) : (PySem.strKind P w).is x m.2 = true ↔ txO m = x := by
  obtain ⟨y, t, e, _⟩ := g
  unfold txO
  rw [e]
  show (y == x) = true ↔ y = x
  exact beq_iff_eq
theorem elems_S {l : List (Int × Value)} (g : ∀ m ∈ l, MemS w m) : ElemsOf (PySem.strKind P w) l := fun m hm => by
  obtain ⟨y, t, e, eh⟩ := g m hm
  refine ⟨⟨y, ?_, eh⟩, ?_⟩
  · rw [e]
    exact PySem.strKind_is _ _ _ _
  · rw [e] <;> rfl
theorem in_S {l : List (Int × Value)} (g : ∀ m ∈ l, MemS w m) (x : Str) : x ∈ l.map txO ↔ ∃ m ∈ l, (PySem.strKind P w).is x m.2 = true := by
  rw [List.mem_map]
  exact ⟨fun ⟨m, hm, q⟩ => ⟨m, hm, ((g m hm).is x).2 q⟩, fun ⟨m, hm, q⟩ => ⟨m, hm, ((g m hm).is x).1 q⟩⟩
theorem SetS.of (R : SetS w h a S n) : h.SetOf (PySem.strKind P w) a S n := by
  obtain ⟨ob, ms, ep, tb, g, gx, gd, gm, _, gS, gb, gf, gn, _⟩ := R
  exact ⟨ob, ms, ep, tb, g, gx, gd, elems_S gm, fun x => (gS x).trans (in_S gm x), gb, gf, gn⟩
end
section
variable {P : Program} {w : World} {A : Around} {E : Value → Shared → Prop} {s : Shared} {a : Addr} {S : Str → Bool} {n : Nat}
theorem tail_S {gv : Bool → Sem Unit} (hgv : ∀ (b : Bool) (s₁ : Shared) (Q' : Unit → Shared → Prop), Q' () s₁ → wpAny (model P w) A (gv b) Q' E s₁)
    {ob : Obj} {ms : Array (Int × Value)} {ep : Nat} {tb : SetTable} (g : s.heap.get? a = some ob) (gx : ob.ExactSet) (gd : ob.data = .set ms ep tb)
    {ms1 : Array (Int × Value)} {tb2 : SetTable} {S' : Str → Bool} (q1 : ∀ m ∈ ms1.toList, MemS w m) (q2 : (ms1.toList.map txO).Nodup) (q3 : ∀ x, S' x = true ↔ x ∈ ms1.toList.map txO)
    (q4 : ms1.size < scanBound) (q5 : tb2.fits ms1.size = true) (q6 : Ris tb2.place.toList) (q7 : w.params.followText "set-order" = true ∨ tb2.led = true) {dmy : Bool} {R : Option Bool → Shared → Prop}
    (fin : ∀ h', Heap.SameBut a s.heap h' → SetS w h' a S' ms1.size → R (some true) { s with heap := h' }) :
    wpAny (model P w) A (do
        storeSet a ms1 tb2
        if (!dmy && tb2.tooFull) = true then do
            gv (relayAll tb2 ms1 (SetTable.grown ms1.size)).2.2
            storeSet a (relayAll tb2 ms1 (SetTable.grown ms1.size)).1 (relayAll tb2 ms1 (SetTable.grown ms1.size)).2.1
            pure (some true)
          else pure (some true)) R E s := by
  refine wpAny_bind (wpAny_storeSet_of g gd ?_ (fits_of_scanBound q4))
  have g1 := PpSet.storeB_at (es' := ms1) (t' := tb2) g gd
  have sb1 := Heap.SameBut.update s.heap a (Obj.putSet ms1 tb2)
  split
  · have p1 := relayAll_perm tb2 ms1 (SetTable.grown ms1.size)
    have p2 := relayAll_fits tb2 ms1 (SetTable.grown ms1.size)
    have p3 := relayAll_ris tb2 ms1 (SetTable.grown ms1.size)
    have p4 := relayAll_led tb2 ms1 (SetTable.grown ms1.size)
    generalize relayAll tb2 ms1 (SetTable.grown ms1.size) = Z at p1 p2 p3 p4 ⊢
    obtain ⟨ms2, tb3, gave⟩ := Z
    dsimp only at p1 p2 p3 p4 ⊢
    have z : ms2.size = ms1.size := by rw [← Array.length_toList, p1.length_eq, Array.length_toList]
    have b2 : ms2.size < scanBound := by rw [z]; exact q4
    refine wpAny_bind (hgv _ _ _ (wpAny_bind (wpAny_storeSet_of g1 rfl ?_ (fits_of_scanBound b2))))
    have g2 := PpSet.storeB_at (es' := ms2) (t' := tb3) g1 rfl
    exact wpAny_pure (fin _ (sb1.trans (Heap.SameBut.update _ a _)) ⟨_, ms2, _, tb3, g2, gx, rfl, fun m hm => q1 m (p1.mem_iff.mp hm), (p1.map txO).nodup_iff.mpr q2, fun x => (q3 x).trans (p1.map txO).mem_iff.symm, b2, p2, z, p3,
      q7.imp id fun y => by rw [p4]; exact y⟩)
  · exact wpAny_pure (fin _ sb1 ⟨_, ms1, _, tb2, g1, gx, rfl, q1, q2, q3, q4, q5, rfl, q6, q7⟩)
theorem addHashed_S {x : Str} {tk : Tok} {Q : Bool → Shared → Prop} (R : SetS w s.heap a S n) (room : n + 1 < scanBound)
    (hQ : ∀ h', Heap.SameBut a s.heap h' → SetS w h' a (fun y => S y || decide (y = x)) (if S x = true then n else n + 1) → Q (!S x) { s with heap := h' }) :
    wpAny (model P w) A (setAddHashed a (.str x tk) ((PySem.strKind P w).hash x)) Q E s := by
  obtain ⟨ob, ms, ep, tb, g, gx, gd, gm, gN, gS, gb, gf, gn, gR, gL⟩ := R
  have key : (PySem.strKind P w).is x (.str x tk) = true := PySem.strKind_is _ _ _ _
  have sc : (Value.str x tk).scannable = true := rfl
  have el : ElemsOf (PySem.strKind P w) ms.toList := elems_S gm
  unfold setAddHashed setAddHashedIn
  refine wpAny_holding (wpAny_bind (wpAny_setState_of g gd gf ?_))
  dsimp only
  rw [byScan_of sc gb el]
  simp only [↓reduceIte]
  unfold setAddByScan
  refine wpAny_bind (wpAny_bind (wpAny_rule (wpAny_bind (wpAny_setScan_of key g gd gf el ?_))))
  cases fi : List.findIdx? (fun m => (PySem.strKind P w).is x m.2) ms.toList with
  | some j =>
    dsimp only
    obtain ⟨j1, j2, _⟩ := List.findIdx?_eq_some_iff_getElem.mp fi
    have yes : S x = true := (gS x).2 ((in_S (P := P) gm x).2 ⟨ms.toList[j], List.getElem_mem j1, j2⟩)
    refine wpAny_pure (wpAny_pure ?_)
    have q := hQ s.heap (Heap.SameBut.refl a s.heap) ⟨ob, ms, ep, tb, g, gx, gd, gm, gN, fun y => by
      rw [Bool.or_eq_true, decide_eq_true_eq, ← gS y]
      exact ⟨fun z => z.elim id (fun e => e ▸ yes), .inl⟩, gb, gf, by rw [if_pos yes]; exact gn, gR, gL⟩
    rw [yes] at q
    exact q
  | none =>
    dsimp only
    have nx : x ∉ ms.toList.map txO := fun z => by
      obtain ⟨m, hm, q⟩ := (in_S (P := P) gm x).1 z
      have c := List.findIdx?_eq_none_iff.mp fi m hm
      rw [q] at c
      cases c
    have no : S x = false := by
      cases q : S x with
      | false => rfl
      | true => exact absurd ((gS x).1 q) nx
    have gw : ∀ (b : Bool) {s₁ : Shared} {Q' : Unit → Shared → Prop}, Q' () s₁ → wpAny (model P w) A (match b with | true => rule "set.scan.the-table-gave-way" | false => pure ()) Q' E s₁ :=
      fun b s₁ Q' q => by cases b <;> first | exact wpAny_pure q | exact wpAny_rule q
    have p1 := layNew_perm tb ms ((PySem.strKind P w).hash x) (.str x tk)
    have p2 := layNew_fits tb ms ((PySem.strKind P w).hash x) (.str x tk)
    have p3 := layNew_ris tb ms ((PySem.strKind P w).hash x) (.str x tk) gR
    have p4 := layNew_led tb ms ((PySem.strKind P w).hash x) (.str x tk)
    generalize layNew tb ms ((PySem.strKind P w).hash x) (.str x tk) = Z at p1 p2 p3 p4 ⊢
    obtain ⟨ms1, tb1, dmy, gave⟩ := Z
    dsimp only at p1 p2 p3 p4 ⊢
    rw [Array.toList_push] at p1
    have pc : ms1.toList.Perm (((PySem.strKind P w).hash x, Value.str x tk) :: ms.toList) := p1.trans (List.perm_append_singleton _ _)
    have pk : (ms1.toList.map txO).Perm (x :: ms.toList.map txO) := pc.map txO
    have q1 : ∀ m ∈ ms1.toList, MemS w m := fun m hm => by
      rcases List.mem_cons.mp (pc.mem_iff.mp hm) with z | z
      · rw [z]
        exact ⟨x, tk, rfl, rfl⟩
      · exact gm m z
    have q2 : (ms1.toList.map txO).Nodup := pk.nodup_iff.mpr (List.nodup_cons.mpr ⟨nx, gN⟩)
    have q3 : ∀ y, (S y || decide (y = x)) = true ↔ y ∈ ms1.toList.map txO := fun y => by
      rw [Bool.or_eq_true, decide_eq_true_eq, gS y, pk.mem_iff, List.mem_cons]
      exact Or.comm
    have z1 : ms1.size = n + 1 := by rw [← Array.length_toList, pc.length_eq, List.length_cons, Array.length_toList, gn]
    have q4 : ms1.size < scanBound := by rw [z1]; exact room
    have q7 : w.params.followText "set-order" = true ∨ tb1.led = true := gL.imp id fun z => by rw [p4]; exact z
    have fin : ∀ h', Heap.SameBut a s.heap h' → SetS w h' a (fun y => S y || decide (y = x)) ms1.size → Q true { s with heap := h' } := fun h' sb r => by
      have q := hQ h' sb
      rw [no] at q
      rw [z1] at r
      exact q r
    refine wpAny_bind (gw _ ?_)
    split
    · refine wpAny_bind ?_
      rw [hashByValue_scannable 8 sc]
      refine wpAny_pure ?_
      refine tail_S (fun b s₁ Q' q => by cases b <;> first | exact wpAny_pure q | exact wpAny_rule q) g gx gd q1 q2 q3 q4 ?_ ?_ ?_ fun h' sb r => by dsimp only; exact wpAny_pure (fin h' sb r)
      · first | (split <;> first | exact p2 | exact SetTable.fits_plain_off p2) | exact p2
      · first | (split <;> exact p3) | exact p3
      · first | (split <;> exact q7) | exact q7
    · refine wpAny_bind (wpAny_pure ?_)
      simp only [↓reduceIte]
      exact tail_S (fun b s₁ Q' q => by cases b <;> first | exact wpAny_pure q | exact wpAny_rule q) g gx gd q1 q2 q3 q4 p2 p3 q7 fun h' sb r => by dsimp only; exact wpAny_pure (fin h' sb r)
theorem add_S {x : Str} {tk : Tok} {Q : Value → Shared → Prop} (R : SetS w s.heap a S n) (room : n + 1 < scanBound)
    (hQ : ∀ h', Heap.SameBut a s.heap h' → SetS w h' a (fun y => S y || decide (y = x)) (if S x = true then n else n + 1) → Q .none { s with heap := h', toks := s.toks + 1 }) :
    wpAny (model P w) A (call (.builtin "set.add") [.ref a, .str x tk]) Q E s := by
  have hS : s.heap.SetOf (PySem.strKind P w) a S n := R.of
  refine wpAny_call_entry F.slot_set_add hS.typeIs F.entry_set_add ?_ (F.args_set_add_2 _ _)
  unfold Builtin.«set.add» Builtin.Frozenset.oneOther
  simp only [List.isEmpty_nil, bind_assoc]
  unfold Builtin.Frozenset.addrOf setAdd
  refine wpAny_bind (wpAny_pure ?_)
  try dsimp only
  refine wpAny_bind (wpAny_pure ?_)
  try dsimp only
  refine wpAny_bind (wpAny_holding (wpAny_bind ((PySem.strKind P w).pyHash (PySem.strKind_is _ _ _ _) ?_)))
  refine addHashed_S (s := { s with toks := s.toks + 1 }) R room fun h' sb r => ?_
  show wpAny _ _ (ret Value.none) _ _ _
  exact wpAny_pure ⟨_, rfl, hQ h' sb r⟩
theorem fresh_S {h : Heap} (w : World) : SetS w (h.push { cls := .type "set", dict := none, data := .set #[] 0 (.fresh 0 0 (!w.params.followText "set-order")) }) h.objs.size (fun _ => false) 0 :=
  ⟨_, #[], 0, _, Heap.get?_push_size _ rfl, ⟨rfl, rfl, rfl⟩, rfl, (fun m hm => by simp at hm), (by simp), (fun x => by simp), (by decide), (by rfl), rfl, List.Pairwise.nil, by
    show _ ∨ (!w.params.followText "set-order") = true
    cases w.params.followText "set-order"
    · exact .inr rfl
    · exact .inl rfl⟩
end
end VS


set_option Elab.async false
set_option linter.all false
set_option maxRecDepth 100000
set_option maxHeartbeats 4000000
namespace VS
open PySem PySem.Spec PyProof.Rows L2 Evl
/-- .. as a tracked thing -/
def SetSO (w : World) (a : Addr) (S : Str → Bool) (n : Nat) : HO := .ext fun h => SetS w h a S n
theorem SetSO.mk {w : World} {P : Program} {H : Hp} {h : Heap} {a : Addr} {S : Str → Bool} {n : Nat} (R : SetS w h a S n) : ObjOk P w H h a (SetSO w a S n) := by
  have ⟨ob, _, _, _, g, _⟩ := R
  exact ⟨R, ⟨ob, g⟩, fun h1 h2 p k => SetS.keep p k⟩
section
variable {X : Cx}
theorem SetSO.get {pins : List (Addr × Obj)} {σ : L2.St} {H : Hp} {s : Shared} {a : Addr} {S : Str → Bool} {n : Nat} (I : Inv X pins σ H s) (ha : H a = some (SetSO X.w a S n)) : SetS X.w s.heap a S n := (I.hok a _ ha).1
theorem add_inv {pins : List (Addr × Obj)} {σ : L2.St} {H : Hp} {s : Shared} {E : Value → Shared → Prop} {D : Addr} {S : Str → Bool} {n : Nat} {x : Str} {tk : Tok} {Q : Value → Shared → Prop} (I : Inv X pins σ H s) (hD : H D = some (SetSO X.w D S n)) (room : n + 1 < scanBound)
    (h : ∀ s', Inv X pins σ (upd H D (SetSO X.w D (fun y => S y || decide (y = x)) (if S x = true then n else n + 1))) s' → Q .none s') : wpAny (model X.prog X.w) X.A (call (.builtin "set.add") [.ref D, .str x tk]) Q E s := by
  refine add_S (SetSO.get I hD) room fun h' sb new => ?_
  have there : ∃ u, h'.get? D = some u := by
    have ⟨ob, _, _, _, g, _⟩ := new
    exact ⟨ob, g⟩
  exact h _ (I.write (e := D) (t' := s.toks + 1) (by rw [hD]; trivial) (.inl rfl) (fun b u hb hu => (sb.2 b hb).trans hu) there (SetSO.mk new))
/-- {elt for target in iter if ..}, elt a text; D: where the new set lies -/
def tScS (w : World) (wi : TI) (g : TG) (tt : TT) (te : TE) (vs : List Nat) : TE := fun σ H Q => wi σ H fun J H1 => ∀ D, H1 D = none → ∃ W : Nat → Nat → Hp → Prop,
  (∃ m, W 0 m (upd H1 D (SetSO w D (fun _ => false) 0))) ∧ ∀ i m H, W i m H → (J.stop i H ∧ Q (.ref D) H) ∨ (J.go i H ∧ ∃ Nx : Hp → Prop, (∀ H', Nx H' → ∃ m', m' < m ∧ W (i + 1) m' H') ∧
    ∀ x H', J.yld i H x H' → g x (wipe σ vs) H' fun σ2 H2 => wipe σ2 vs = wipe σ vs ∧ tt σ2 H2 fun b H3 => if b = true then te σ2 H3 fun y H4 => ∃ (c : Str) (S : Str → Bool) (n : Nat), y = .str c ∧
      H4 D = some (SetSO w D S n) ∧ n + 1 < scanBound ∧ Nx (upd H4 D (SetSO w D (fun z => S z || decide (z = c)) (if S c = true then n else n + 1))) else Nx H3)
theorem run_scS {pins : List (Addr × Obj)} {s : Shared} {σ : L2.St} {H : Hp} {Q : VK} {elt tg iter : Expr} {ifs : List Expr} {scope : Scope} {own : List (PySem.Str × Nat)} {pos pos' : Pos} {wi : TI} {g : TG} {tt : TT} {te : TE}
    {use : Option (Value → Sem Unit)} {Qf : Value → Shared → Prop} (hc : X.calm = true) (hN : X.N.Nodup) (I : Inv X pins σ H s) (hi : PI X tg iter wi) (ok : BlkOk X.N X.env.scope scope own)
    (hg : ∀ (s : Shared) (H : Hp) (C : Addr) (cl : List (PySem.Str × Addr)) (fp : List Addr), PG (X.blk s H scope (compEnvC scope cl C X.env) fp) tg g)
    (ht : ∀ (s : Shared) (H : Hp) (C : Addr) (cl : List (PySem.Str × Addr)) (fp : List Addr), PTs (X.blk s H scope (compEnvC scope cl C X.env) fp) ifs tt)
    (he : ∀ (s : Shared) (H : Hp) (C : Addr) (cl : List (PySem.Str × Addr)) (fp : List Addr), PE (X.blk s H scope (compEnvC scope cl C X.env) fp) elt te)
    (hs : ∀ x, foldedSetIterable iter X.env x = pure x) (h : tScS X.w wi g tt te (own.map (·.2)) σ H Q)
    (fin : ∀ D C s' m H', Inv X pins σ H' s' → Q (.ref D) H' → s'.heap.Ns C m → FpOk X pins H' C → compPost (model X.prog X.w) X.A X.xe use Qf (.ref D) C (.ok .next) s') :
    wpAny (model X.prog X.w) X.A (comprehension (.SetComp elt [⟨tg, iter, ifs, 0⟩] scope pos) scope X.env pos' (newSet (.type "set")) false (eval iter X.env) use) Qf X.xe s := by
  have free : ∀ y ∈ scope.names, y.2 = .free → ∃ c, X.env.cells.lookup y.1 = some c := fun y hy e => by
    rcases ok.free y hy e with k | k
    · exact I.ok.has _ (.inl k)
    · exact I.ok.has _ (.inr k)
  refine wpAny_comprehension_free (use := use) rfl hs (closure_ok free) ok.kind (fun y hy e => by rw [ok.uniq y hy, e]) (thn (hi.run pins s σ H _ I h) fun xv s1 hx => thn hx fun itv s2 h2 => ?_)
  obtain ⟨it, fp, tn, J, H2, e, I2, T, st2, f2, q⟩ := h2
  subst e
  refine PpSet.newSet_ok (newEnv_comp ?_)
  generalize hD : s2.heap.objs.size = D
  have nD : H2 D = none := I2.hok.fresh (Nat.le_of_eq hD)
  obtain ⟨W, ⟨m0, w0⟩, turn⟩ := q D nD
  generalize hs3 : ({ s2 with heap := s2.heap.push { cls := .type "set", dict := none, data := .set #[] 0 (.fresh 0 0 (!X.w.params.followText "set-order")) } } : Shared) = s3
  have I3 : Inv X pins σ (upd H2 D (SetSO X.w D (fun _ => false) 0)) s3 := by
    rw [← hs3]
    refine I2.laid (t' := s2.toks) (fun b o e => Heap.get?_push_of_some _ e) (Nat.le_of_eq hD) ?_
    rw [← hD]
    exact SetSO.mk (fresh_S X.w)
  have h3 : s3.heap = s2.heap.push { cls := .type "set", dict := none, data := .set #[] 0 (.fresh 0 0 (!X.w.params.followText "set-order")) } := by rw [← hs3]
  have lt : ∀ b ∈ fp, b < s2.heap.objs.size := fun b hb => by
    obtain ⟨o, e, _⟩ := T.obj _ _ st2 b hb
    exact Heap.lt_size e
  have f3 : ∀ b ∈ fp, FpOk X pins (upd H2 D (SetSO X.w D (fun _ => false) 0)) b ∧ b < s3.heap.objs.size := fun b hb => by
    have l := lt b hb
    refine ⟨⟨?_, (f2 b hb).2⟩, by rw [h3, Heap.size_push]; exact Nat.lt_succ_of_lt l⟩
    rw [upd_ne (by rw [← hD]; exact Nat.ne_of_lt l)]
    exact (f2 b hb).1
  have st3 : tn 0 s3.heap := T.keep _ _ _ st2 fun b _ o e => by rw [h3]; exact Heap.get?_push_of_some _ e
  have I4 := block_start I3 ok hN f3
  have pg := hg s3 (upd H2 D (SetSO X.w D (fun _ => false) 0)) s3.heap.objs.size (cellsFrom (s3.heap.objs.size + 1) scope.names (cloFrom X.env.cells scope.names [])) fp
  have pt := ht s3 (upd H2 D (SetSO X.w D (fun _ => false) 0)) s3.heap.objs.size (cellsFrom (s3.heap.objs.size + 1) scope.names (cloFrom X.env.cells scope.names [])) fp
  have pe := he s3 (upd H2 D (SetSO X.w D (fun _ => false) 0)) s3.heap.objs.size (cellsFrom (s3.heap.objs.size + 1) scope.names (cloFrom X.env.cells scope.names [])) fp
  show codeAny _ _ (.compStart (.SetComp elt [⟨tg, iter, ifs, 0⟩] scope pos) 0 (.ref it) (.ref D) (compEnvC scope (cellsFrom (s3.heap.objs.size + 1) scope.names (cloFrom X.env.cells scope.names [])) s3.heap.objs.size X.env))
    (compPost (model X.prog X.w) X.A X.xe use Qf (.ref D) s3.heap.objs.size) { s3 with heap := pushCells (s3.heap.push { cls := .type "dict", data := .dict #[] }) scope.names }
  have nfp : ∀ b ∈ fp, (upd H2 D (SetSO X.w D (fun _ => false) 0)) b = none := fun b hb => (f3 b hb).1.1
  generalize hce : compEnvC scope (cellsFrom (s3.heap.objs.size + 1) scope.names (cloFrom X.env.cells scope.names [])) s3.heap.objs.size X.env = ce at I4 pg pt pe ⊢
  have cL : ce.locals = s3.heap.objs.size := by subst hce; rfl
  generalize hH3 : upd H2 D (SetSO X.w D (fun _ => false) 0) = H3 at I3 I4 pg pt pe w0 nfp f3
  generalize hs4 : ({ s3 with heap := pushCells (s3.heap.push { cls := .type "dict", data := .dict #[] }) scope.names } : Shared) = s4 at I4 ⊢
  have st4 : tn 0 s4.heap := T.keep _ _ _ st3 fun b _ o e => by rw [← hs4]; exact pushCells_keeps _ _ _ _ (Heap.get?_push_of_some _ e)
  have stat : ∀ {σ' : L2.St} {H' : Hp} {s' : Shared}, Inv (X.blk s3 H3 scope ce fp) [] σ' H' s' → (∀ b ∈ fp, H' b = none) → ∀ b ∈ fp, FpOk (X.blk s3 H3 scope ce fp) [] H' b := fun {σ' H' s'} J hn b hb =>
    ⟨hn b hb, (J.ok.exf b hb).1, J.ok.exfs b hb, .inl hb, fun x c e => (J.ok.exf b hb).2 x c e, fun p hp => absurd (show p ∈ ([] : List (Addr × Obj)) ++ [] from hp) (by simp)⟩
  have loop : codeAny (model X.prog X.w) X.A (.compLoop (.SetComp elt [⟨tg, iter, ifs, 0⟩] scope pos) 0 (.ref it) (.ref D) ce) (compPost (model X.prog X.w) X.A X.xe use Qf (.ref D) s3.heap.objs.size) s4 := by
    refine PpSet.compLoopS_any (fun n s' => ∃ i H', Inv (X.blk s3 H3 scope ce fp) [] (wipe σ (own.map (·.2))) H' s' ∧ tn i s'.heap ∧ (∀ b ∈ fp, H' b = none) ∧ W i n H') ?_ m0 ⟨0, H3, I4, st4, nfp, w0⟩
    rintro n s5 ⟨i, H5, I5, st5, n5, w5⟩
    rcases turn i n H5 w5 with ⟨stop, qq⟩ | ⟨go, Nx, hNx, step⟩
    · refine thnF (T.done (X.blk s3 H3 scope ce fp) rfl rfl rfl hc i [] s5 _ H5 (fun _ _ => False) I5 (stat I5 n5) st5 stop) fun r s6 ⟨hr, I6⟩ => ?_
      subst hr
      have I7 : Inv X pins σ H5 s6 := I3.call' (ch := fp) I6.os I6.base I6.hok I6.bare fun b hb => ⟨(f3 b hb).1.2.2.2.1, (f3 b hb).1.2.1, (f3 b hb).1.2.2.2.2.1, (f3 b hb).1.2.2.2.2.2⟩
      have nC : H5 s3.heap.objs.size = none := by
        have z : H5 ce.locals = none := I6.free
        rw [cL] at z
        exact z
      obtain ⟨m, hn, _⟩ := I6.loc
      have hn : s6.heap.Ns ce.locals m := hn
      rw [cL] at hn
      exact fin D s3.heap.objs.size s6 m H5 I7 qq hn (I3.fpOk (Nat.le_refl _) nC)
    · refine thnF (T.item (X.blk s3 H3 scope ce fp) rfl rfl rfl hc i [] s5 _ H5 (fun _ _ => False) I5 (stat I5 n5) st5 go) fun r s6 ⟨u, hr, h6⟩ => ?_
      subst hr
      refine thnF h6 fun _ s7 ⟨x, H7, I7, r7, y7, st7, n7⟩ => ?_
      refine thnF (pg.run _ s7 _ H7 x u _ (I7.pinned (stat I7 n7) (T.obj _ _ st7)) r7 (step x H7 y7)) fun _ s8 ⟨σ8, H8, I8, hw8, q8⟩ => ?_
      refine thnF (pt.run _ s8 σ8 H8 _ I8 q8) fun b s9 ⟨H9, I9, q9⟩ => ?_
      have back : ∀ {s' : Shared} {H' : Hp}, Inv (X.blk s3 H3 scope ce fp) ([] ++ pinsAt fp s7.heap) σ8 H' s' → Nx H' → ∃ m, m < n ∧ ∃ i H', Inv (X.blk s3 H3 scope ce fp) [] (wipe σ (own.map (·.2))) H' s' ∧ tn i s'.heap ∧ (∀ b ∈ fp, H' b = none) ∧ W i m H' := fun {s' H'} J nx => by
        obtain ⟨m', hm, w'⟩ := hNx H' nx
        have pin' : ∀ b ∈ fp, ∀ o, s7.heap.get? b = some o → s'.heap.get? b = some o ∧ H' b = none := fun b hb o e =>
          let z := J.pin (b, o) (List.mem_append_right _ (List.mem_append_right _ (mem_pinsAt hb e)))
          ⟨z.1, z.2.1⟩
        have hl : (wipe σ (own.map (·.2))).length = σ8.length := by rw [← hw8, wipe_length]
        refine ⟨m', hm, i + 1, H', (J.unpinned (pins := [])).weak hl (fun j v e => ?_), T.keep _ _ _ st7 fun b hb o e => (pin' b hb o e).1, fun b hb => ?_, w'⟩
        · rw [← hw8] at e
          exact (wipe_some e).1
        · obtain ⟨o, e, _⟩ := T.obj _ _ st7 b hb
          exact (pin' b hb o e).2
      cases b with
      | false =>
        simp only [Bool.false_eq_true, if_false] at q9 ⊢
        exact back I9 q9
      | true =>
        simp only [if_true] at q9 ⊢
        refine thnF (pe.run _ s9 σ8 H9 _ I9 q9) fun z s10 ⟨yv, H10, I10, r10, c, S0, n0, ey, hD10, hz10, nx⟩ => ?_
        subst ey
        obtain ⟨tk, rfl⟩ : ∃ tk, z = Value.str c tk := r10
        exact add_inv (X := X.blk s3 H3 scope ce fp) I10 hD10 hz10 fun s11 I11 => back I11 nx
  exact PpSet.codeAny_compStart_set loop (T.self X.A 0 _ _ _ st4 loop)
theorem pe_scS {elt tg iter : Expr} {ifs : List Expr} {scope : Scope} {own : List (PySem.Str × Nat)} {pos : Pos} {wi : TI} {g : TG} {tt : TT} {te : TE} (hc : X.calm = true) (hN : X.N.Nodup) (hi : PI X tg iter wi) (ok : BlkOk X.N X.env.scope scope own)
    (hg : ∀ (s : Shared) (H : Hp) (C : Addr) (cl : List (PySem.Str × Addr)) (fp : List Addr), PG (X.blk s H scope (compEnvC scope cl C X.env) fp) tg g)
    (ht : ∀ (s : Shared) (H : Hp) (C : Addr) (cl : List (PySem.Str × Addr)) (fp : List Addr), PTs (X.blk s H scope (compEnvC scope cl C X.env) fp) ifs tt)
    (he : ∀ (s : Shared) (H : Hp) (C : Addr) (cl : List (PySem.Str × Addr)) (fp : List Addr), PE (X.blk s H scope (compEnvC scope cl C X.env) fp) elt te)
    (hs : ∀ x, foldedSetIterable iter X.env x = pure x := by intro _; rfl) : PE X (.SetComp elt [⟨tg, iter, ifs, 0⟩] scope pos) (tScS X.w wi g tt te (own.map (·.2))) := by
  refine ⟨fun pins s σ H Q I h => ?_⟩
  rw [PpSet.eval_SetComp]
  refine run_scS hc hN I hi ok hg ht he hs h fun D C s' m H' J q hn f => ⟨m, hn, fun h'' sb => ?_⟩
  obtain ⟨f0, f1, f2, f3, f4, f5⟩ := f
  exact ⟨.ref D, H', J.turned (t' := s'.toks) (fun b o hb e => (sb.2 b hb).trans e) f0 f1 f3 f4 f5, rfl, q⟩
end
/-- the reading over a list that stands still -/
theorem scS_list {w : World} {K : PySem.W.Frag} {a : Addr} {xs : List V} {g : TG} {tt : TT} {te : TE} {vs : List Nat} {σ : L2.St} {H1 : Hp} {D : Addr} {Qd : Hp → Prop} (Pv : Nat → Hp → Prop) (h0 : Pv 0 (upd H1 D (SetSO w D (fun _ => false) 0)))
    (hl : ∀ i H, i ≤ xs.length → Pv i H → SqL K H a xs)
    (hs : ∀ i x H, xs[i]? = some x → Pv i H → g x (wipe σ vs) H fun σ2 H2 => wipe σ2 vs = wipe σ vs ∧ tt σ2 H2 fun b H3 => if b = true then te σ2 H3 fun y H4 => ∃ (c : Str) (S : Str → Bool) (n : Nat), y = .str c ∧ H4 D = some (SetSO w D S n) ∧
      n + 1 < scanBound ∧ Pv (i + 1) (upd H4 D (SetSO w D (fun z => S z || decide (z = c)) (if S c = true then n else n + 1))) else Pv (i + 1) H3) (hd : ∀ H, Pv xs.length H → Qd H) :
    ∃ W : Nat → Nat → Hp → Prop, (∃ m, W 0 m (upd H1 D (SetSO w D (fun _ => false) 0))) ∧ ∀ i m H, W i m H → ((Itl K a).stop i H ∧ Qd H) ∨ ((Itl K a).go i H ∧ ∃ Nx : Hp → Prop, (∀ H', Nx H' → ∃ m', m' < m ∧ W (i + 1) m' H') ∧
      ∀ x H', (Itl K a).yld i H x H' → g x (wipe σ vs) H' fun σ2 H2 => wipe σ2 vs = wipe σ vs ∧ tt σ2 H2 fun b H3 => if b = true then te σ2 H3 fun y H4 => ∃ (c : Str) (S : Str → Bool) (n : Nat), y = .str c ∧
        H4 D = some (SetSO w D S n) ∧ n + 1 < scanBound ∧ Nx (upd H4 D (SetSO w D (fun z => S z || decide (z = c)) (if S c = true then n else n + 1))) else Nx H3) := by
  refine ⟨fun i m H => m = xs.length - i ∧ i ≤ xs.length ∧ Pv i H, ⟨xs.length, by simp, Nat.zero_le _, h0⟩, ?_⟩
  rintro i m H ⟨rfl, hi, p⟩
  have q := hl i H hi p
  by_cases c : i < xs.length
  · refine .inr ⟨⟨xs, xs[i], q, by simp [c]⟩, Pv (i + 1), fun H' p' => ⟨xs.length - (i + 1), by omega, rfl, c, p'⟩, fun x H' y => ?_⟩
    obtain ⟨e, y⟩ := y
    subst e
    exact hs i x _ (y xs q) p
  · have e : i = xs.length := by omega
    subst e
    exact .inl ⟨⟨xs, q, Nat.le_refl _⟩, hd H p⟩
/-! ### sorted(a set of texts) -/
theorem strs_of : ∀ (l : List Value), (∀ v ∈ l, ∃ x tk, v = Value.str x tk) → ∃ xs, StrsAre l xs ∧ l.map (fun v => match v with | .str x _ => x | _ => Str.empty) = xs
  | [], _ => ⟨[], .nil, rfl⟩
  | v :: l, h => by
    obtain ⟨x, tk, rfl⟩ := h v (List.mem_cons_self ..)
    obtain ⟨xs, h1, h2⟩ := strs_of l fun u hu => h u (List.mem_cons_of_mem _ hu)
    exact ⟨x :: xs, .cons x tk h1, by rw [List.map_cons, h2]⟩
section
variable {P : Program} {w : World} {A : Around} {E : Value → Shared → Prop} {s : Shared} {a : Addr}
theorem sorted_S {S : Str → Bool} {n : Nat} {Q : Value → Shared → Prop} (R : SetS w s.heap a S n) (hh : A.handled = none)
    (hQ : ∀ s' p (out : Array Value) (c : Nat) (xs : List Str), (∀ b o, s.heap.get? b = some o → s'.heap.get? b = some o) → s'.gens = s.gens → s'.os = s.os → s.heap.objs.size ≤ p →
      s'.heap.get? p = some (seqObj "list" out c) → StrsAre out.toList xs → sortedS xs = true → xs.Nodup → (∀ x, x ∈ xs ↔ S x = true) → xs.length = n → Q (.ref p) s') :
    wpAny (model P w) A (call (.builtin "sorted") [.ref a]) Q E s := by
  obtain ⟨ob, ms, ep, tb, g, gx, gd, gm, gN, gS, gb, gf, gn, gR, gL⟩ := R
  refine Calls.call_function_entry kind_sorted plain_sorted entry_sorted (args_sorted1 _) ?_
  unfold Builtin.«sorted»
  refine wpAny_bind (m := checkCount "sorted" 1 1 _) (wpAny_pure ?_)
  refine wpAny_bind (collect_set (A := A.in1) hh ⟨ob, g, gx.1, gd⟩ gf gb gR gL fun s1 vs k1 hz g1 o1 pm => ?_)
  have lv : vs.length = n := by rw [pm.length_eq, List.length_map, Array.length_toList]; exact gn
  have hb : n < 4096 := by rw [← gn]; exact gb
  obtain ⟨xs, hX, eX⟩ := strs_of vs fun v hv => by
    obtain ⟨m, hm, q⟩ := List.mem_map.mp (pm.mem_iff.mp hv)
    obtain ⟨x, tk, h1, _⟩ := gm m hm
    exact ⟨x, tk, by rw [← q]; exact h1⟩
  have pk : xs.Perm (ms.toList.map txO) := by
    have q := pm.map (fun v => match v with | .str x _ => x | _ => Str.empty)
    rw [eX, List.map_map] at q
    exact q
  have lz : vs.length ≤ sizeLine := by rw [lv, sizeLine_eq]; omega
  refine wpAny_bind (wpAny_newList ?_ lz)
  have hoL : (s1.heap.push (seqObj "list" vs.toArray 0)).get? s1.heap.objs.size = some (seqObj "list" vs.toArray 0) := Heap.get?_push_size _ rfl
  refine wpAny_bind (wpAny_holding (wpAny_call_entry slot_list_sort ⟨_, hoL, rfl⟩ entry_list_sort
    (list_sort_treeKAny strKind_oneLt hoL hX.keysOf (fun v₁ v₂ rest e => keyKind_strs (by rw [← e]; exact hX)) lz fun st' hp hs => ⟨_, rfl, ?_⟩) (args_list_sort _)))
  obtain ⟨ys, a1, a2, a3⟩ := sorted_out_str hX hp hs
  obtain ⟨c, hc⟩ := sortedHeap_at (vs := vs) (out := (arrOf st').map (·.2)) hoL
  have pn : ys.Perm (ms.toList.map txO) := a2.trans pk
  refine wpAny_pure ⟨_, rfl, hQ _ s1.heap.objs.size _ c ys (fun b u e => ?_) g1 o1 hz hc a1 a3 (pn.nodup_iff.mpr gN) (fun x => by rw [pn.mem_iff, ← gS x]) ?_⟩
  · have q := k1 b u e
    have hlt := Heap.lt_size q
    show (sortedHeap (s1.heap.push (seqObj "list" vs.toArray 0)) s1.heap.objs.size vs ((arrOf st').map (·.2))).get? b = some u
    rw [sortedHeap_old (Nat.ne_of_lt hlt) (by rw [size_push']; exact Nat.lt_succ_of_lt hlt)]
    exact Heap.get?_push_of_some _ q
  · rw [pn.length_eq, List.length_map, Array.length_toList]; exact gn
end
section
variable {X : Cx}
/-- sorted(found) -/
def rSortS (w : World) : List V → Hp → VK → Prop := fun vs H Q => ∃ (a : Addr) (S : Str → Bool) (n : Nat), vs = [V.ref a] ∧ H a = some (SetSO w a S n) ∧
  ∀ (xs : List Str) (p : Addr), sortedS xs = true → xs.Nodup → (∀ x, x ∈ xs ↔ S x = true) → H p = none → Q (.ref p) (upd H p (.lst (xs.map V.str)))
theorem cr_sortS (hc : X.calm = true) : CallR X (.builtin "sorted") (rSortS X.w) := by
  intro pins s σ H vs us Q I r h
  obtain ⟨a, S, n, rfl, ha, q⟩ := h
  have R := SetSO.get I ha
  have hb : n < 4096 := by
    obtain ⟨_, _, _, _, _, _, _, _, _, _, gb, _, gn, _⟩ := R
    rw [← gn]
    exact gb
  rw [Vals.ref1 r]
  refine sorted_S R (I.ok.hd hc) fun s' p out c xs k g o hp hg hi hs hn hm hl => ?_
  have hlen : (xs.map V.str).length ≤ sizeLine := by rw [List.length_map, hl, sizeLine_eq]; omega
  have np : H p = none := I.hok.fresh hp
  have J : Inv X pins σ (upd H p (.lst (xs.map V.str))) { s with heap := s'.heap, gens := s'.gens, drawn := s'.drawn, toks := s'.toks } :=
    I.call (ch := []) (Un.laid k hp np) (I.hok.laid k hp ⟨hlen, out.toList, c, vals_of_strs hi, hg⟩) (by rw [g]; exact I.bare) (fun _ z => nomatch z)
  have e : s' = { s with heap := s'.heap, gens := s'.gens, drawn := s'.drawn, toks := s'.toks } := by
    cases s'
    cases s
    cases o
    rfl
  rw [e]
  exact ⟨.ref p, _, J, rfl, q xs p hs hn hm np⟩
end
end VS


set_option Elab.async false
set_option linter.all false
set_option maxRecDepth 100000
set_option maxHeartbeats 4000000
namespace V
open PySem PySem.Spec PyProof.Rows L2 Evl
def Tm.word : Tm → Str
  | .num _ => "num"
  | .arg _ => "arg"
  | .node (.op o) _ => o.str
  | .node (.call _) _ => "call"
  | .node (.ring _) _ => "ring"
theorem TmAt.head {H : Hp} {v : V} {t : Tm} (h : TmAt H v t) : ∃ a r, v = .ref a ∧ H a = some (.tup (.str t.word :: r)) := by
  cases h with
  | num h => exact ⟨_, _, rfl, h⟩
  | arg h => exact ⟨_, _, rfl, h⟩
  | op h _ => exact ⟨_, _, rfl, h⟩
  | call h _ _ => exact ⟨_, _, rfl, h⟩
  | ring h _ _ => exact ⟨_, _, rfl, h⟩
theorem op_in (o : Op) : decide (o.str ∈ opWords) = true := by
  cases o <;> decide +kernel
theorem out_num : decide (("num" : Str) ∈ opWords) = false := by decide +kernel
theorem out_arg : decide (("arg" : Str) ∈ opWords) = false := by decide +kernel
theorem out_call : decide (("call" : Str) ∈ opWords) = false := by decide +kernel
theorem out_ring : decide (("ring" : Str) ∈ opWords) = false := by decide +kernel
/-- the terms that stand straight in it -/
def spParts : Sp := fun vs H Q _ => ∃ (v : V) (t : Tm), vs = [v] ∧ TmAt H v t ∧ t.parts.length ≤ 4 ∧
  ∀ (H' : Hp) (p : Addr) (us : List V), Ex H H' → H' p = some (.tup us) → TmsAt H' us t.parts → Q (.ref p) H'
theorem parts_deep {t u : Tm} (h : u ∈ t.parts) : u.deep + 1 ≤ t.deep := by
  cases t with
  | num n => cases h
  | arg k => cases h
  | node hd ts =>
    have := deep_le (t := u) (ts := ts) h
    show u.deep + 1 ≤ 1 + Tm.deeps ts
    omega
theorem Tm.Ok.parts {M : Nat} {t u : Tm} (k : t.Ok M) (h : u ∈ t.parts) : u.Ok M := by
  cases k with
  | num _ => cases h
  | arg _ => cases h
  | node _ ks => exact ks u h
theorem Tm.Ok.few {M : Nat} {t : Tm} (k : t.Ok M) : t.parts.length ≤ 4 := by
  cases k with
  | num _ => exact Nat.zero_le _
  | arg _ => exact Nat.zero_le _
  | node h _ => exact h.le
theorem size_pos : ∀ t : Tm, 1 ≤ t.size
  | .num _ => Nat.le_refl _
  | .arg _ => Nat.le_refl _
  | .node h ts => by
    show 1 ≤ 1 + Tm.sizes ts
    omega
theorem all_parts (t : Tm) : t.all = t :: Tm.alls t.parts := by
  cases t <;> rfl
theorem size_parts (t : Tm) : t.size = 1 + Tm.sizes t.parts := by
  cases t <;> rfl
theorem deep_parts (t : Tm) : t.deep = 1 + Tm.deeps t.parts := by
  cases t <;> rfl
theorem alls_append (ts us : List Tm) : Tm.alls (ts ++ us) = Tm.alls ts ++ Tm.alls us := by
  induction ts with
  | nil => rfl
  | cons t ts ih =>
    show t.all ++ Tm.alls (ts ++ us) = (t.all ++ Tm.alls ts) ++ Tm.alls us
    rw [ih, List.append_assoc]
theorem alls_len (ts : List Tm) : (Tm.alls ts).length = Tm.sizes ts := by
  induction ts with
  | nil => rfl
  | cons t ts ih =>
    show (t.all ++ Tm.alls ts).length = t.size + Tm.sizes ts
    rw [List.length_append, all_len, ih]
theorem sizes_take (ts : List Tm) (i : Nat) : Tm.sizes (ts.take i) ≤ Tm.sizes ts := by
  induction ts generalizing i with
  | nil => simp [Tm.sizes]
  | cons t ts ih =>
    cases i with
    | zero => exact Nat.zero_le _
    | succ i =>
      have := ih i
      show t.size + Tm.sizes (ts.take i) ≤ t.size + Tm.sizes ts
      omega
theorem size_mem {ts : List Tm} {t : Tm} (h : t ∈ ts) : t.size ≤ Tm.sizes ts := by
  induction ts with
  | nil => cases h
  | cons u us ih =>
    show t.size ≤ u.size + Tm.sizes us
    rcases List.mem_cons.mp h with rfl | h
    · omega
    · have := ih h
      omega
theorem take_more {α : Type} {l : List α} {i : Nat} {x : α} (h : l[i]? = some x) : l.take (i + 1) = l.take i ++ [x] := by
  rw [List.take_add_one, h]
  rfl
theorem get_mem {α : Type} {l : List α} {i : Nat} {x : α} (h : l[i]? = some x) : x ∈ l := List.mem_of_getElem? h
/-- all terms in it, itself ahead: a new list -/
def spAll (n : Nat) : Sp := fun vs H Q _ => ∃ (v : V) (t : Tm) (M : Nat), vs = [v] ∧ TmAt H v t ∧ t.Ok M ∧ t.deep ≤ n ∧ t.size ≤ 1000 ∧
  ∀ (H' : Hp) (p : Addr) (us : List V), H p = none → Ex H H' → H' p = some (.lst us) → TmsAt H' us t.all → Q (.ref p) H'
def spSize (n : Nat) : Sp := fun vs H Q _ => ∃ (v : V) (t : Tm) (M : Nat), vs = [v] ∧ TmAt H v t ∧ t.Ok M ∧ t.deep ≤ n ∧ t.size ≤ 1000 ∧ ∀ (H' : Hp), Ex H H' → Q (.int (t.size : Int)) H'
def spDeep (n : Nat) : Sp := fun vs H Q _ => ∃ (v : V) (t : Tm) (M : Nat), vs = [v] ∧ TmAt H v t ∧ t.Ok M ∧ t.deep ≤ n ∧ ∀ (H' : Hp), Ex H H' → Q (.int (t.deep : Int)) H'
theorem deeps_max (ts : List Tm) (m : Int) (hm : m ∈ ts.map fun t => (t.deep : Int)) (top : ∀ y ∈ ts.map (fun t => (t.deep : Int)), y ≤ m) : m = (Tm.deeps ts : Int) := by
  have le : ∀ us : List Tm, (∀ u ∈ us, (u.deep : Int) ≤ m) → 0 ≤ m → (Tm.deeps us : Int) ≤ m := by
    intro us
    induction us with
    | nil => intro _ h; exact h
    | cons u us ih =>
      intro h h0
      have h1 := h u (List.mem_cons_self ..)
      have h2 := ih (fun v hv => h v (List.mem_cons_of_mem _ hv)) h0
      show ((max u.deep (Tm.deeps us) : Nat) : Int) ≤ m
      omega
  obtain ⟨t, ht, rfl⟩ := List.mem_map.mp hm
  have h1 := deep_le ht
  have h2 := le ts (fun u hu => top _ (List.mem_map.mpr ⟨u, hu, rfl⟩)) (by omega)
  omega
/-! ### rising lists of texts -/
def tlt (a b : Str) : Prop := a.cps.toList < b.cps.toList
theorem tlt_irr (a : Str) : ¬ tlt a a := List.lt_irrefl _
theorem tlt_trans {a b c : Str} (h : tlt a b) (k : tlt b c) : tlt a c := List.lt_trans h k
theorem str_ext {a b : Str} (h : a.cps.toList = b.cps.toList) : a = b := by
  cases a
  cases b
  exact congrArg Str.mk (Array.toList_inj.mp h)
theorem tlt_of {a b : Str} (h : ltCps b.cps.toList a.cps.toList = false) (ne : a ≠ b) : tlt a b := by
  rw [ltCps_eq, decide_eq_false_iff_not] at h
  rcases Nat.lt_or_ge 0 0 with z | z
  · omega
  · by_cases c : a.cps.toList < b.cps.toList
    · exact c
    · exact absurd (str_ext (List.le_antisymm h c)) ne
theorem rise_of : ∀ (l : List Str) (p : Str), risingS p l = true → (p :: l).Nodup → (p :: l).Pairwise tlt
  | [], p, _, _ => List.pairwise_singleton _ _
  | x :: r, p, h, d => by
    have h1 : (!ltCps x.cps.toList p.cps.toList && risingS x r) = true := h
    rw [Bool.and_eq_true, Bool.not_eq_true'] at h1
    obtain ⟨d1, d2⟩ := List.nodup_cons.mp d
    have ih := rise_of r x h1.2 d2
    have px : tlt p x := tlt_of h1.1 fun e => d1 (e ▸ List.mem_cons_self ..)
    refine List.pairwise_cons.mpr ⟨fun y hy => ?_, ih⟩
    rcases List.mem_cons.mp hy with rfl | hy
    · exact px
    · exact tlt_trans px ((List.pairwise_cons.mp ih).1 y hy)
theorem sorted_rise {l : List Str} (h : sortedS l = true) (d : l.Nodup) : l.Pairwise tlt := by
  cases l with
  | nil => exact List.Pairwise.nil
  | cons x r => exact rise_of r x h d
/-- rising lists of the same members are one -/
theorem rise_same : ∀ {l k : List Str}, l.Pairwise tlt → k.Pairwise tlt → (∀ x, x ∈ l ↔ x ∈ k) → l = k
  | [], [], _, _, _ => rfl
  | [], y :: k, _, _, h => absurd ((h y).2 (List.mem_cons_self ..)) (by simp)
  | x :: l, [], _, _, h => absurd ((h x).1 (List.mem_cons_self ..)) (by simp)
  | x :: l, y :: k, hl, hk, h => by
    obtain ⟨l1, l2⟩ := List.pairwise_cons.mp hl
    obtain ⟨k1, k2⟩ := List.pairwise_cons.mp hk
    have e : x = y := by
      rcases List.mem_cons.mp ((h x).1 (List.mem_cons_self ..)) with e | hx
      · exact e
      · rcases List.mem_cons.mp ((h y).2 (List.mem_cons_self ..)) with e | hy
        · exact e.symm
        · exact absurd (tlt_trans (k1 x hx) (l1 y hy)) (tlt_irr y)
    subst e
    refine congrArg (x :: ·) (rise_same l2 k2 fun z => ⟨fun hz => ?_, fun hz => ?_⟩)
    · rcases List.mem_cons.mp ((h z).1 (List.mem_cons_of_mem _ hz)) with rfl | q
      · exact absurd (l1 z hz) (tlt_irr z)
      · exact q
    · rcases List.mem_cons.mp ((h z).2 (List.mem_cons_of_mem _ hz)) with rfl | q
      · exact absurd (k1 z hz) (tlt_irr z)
      · exact q
/-! ### marks and places of a term -/
def Tm.mk1 : Tm → List Str
  | .node (.call m) _ => [m]
  | _ => []
def Tm.pl1 : Tm → List Nat
  | .node (.ring p) _ => [p]
  | _ => []
/-- the marks that it calls, from left to right -/
def Tm.marks (t : Tm) : List Str := t.all.flatMap Tm.mk1
def Tm.places (t : Tm) : List Nat := t.all.flatMap Tm.pl1
def spCalls (n : Nat) : Sp := fun vs H Q _ => ∃ (v : V) (t : Tm) (M : Nat), vs = [v] ∧ TmAt H v t ∧ t.Ok M ∧ t.deep ≤ n ∧ t.size ≤ 1000 ∧
  ∀ (H' : Hp) (p : Addr) (xs : List Str), H p = none → Ex H H' → H' p = some (.lst (xs.map V.str)) → xs.Pairwise tlt → (∀ x, x ∈ xs ↔ x ∈ t.marks) → Q (.ref p) H'
def spPlaces (n : Nat) : Sp := fun vs H Q _ => ∃ (v : V) (t : Tm) (M : Nat), vs = [v] ∧ TmAt H v t ∧ t.Ok M ∧ t.deep ≤ n ∧ t.size ≤ 1000 ∧
  ∀ (H' : Hp) (p : Addr), H p = none → Ex H H' → H' p = some (.lst (t.places.map fun k : Nat => V.int (k : Int))) → Q (.ref p) H'
theorem take_flat {α β : Type} {l : List α} {f : α → List β} {i : Nat} {x : α} (h : l[i]? = some x) : (l.take (i + 1)).flatMap f = (l.take i).flatMap f ++ f x := by
  rw [take_more h, List.flatMap_append, List.flatMap_singleton]
end V


set_option Elab.async false
set_option linter.all false
set_option maxRecDepth 100000
set_option maxHeartbeats 4000000
namespace V
open PySem PySem.Spec PyProof.Rows L2 Evl
/-! ### what is drawn -/
/-- the box at b: n things at least may still be drawn of it -/
def Box (H : Hp) (b : Addr) (n : Nat) : Prop := ∃ x y z : Int, H b = some (.lst [.int x, .int y, .int z]) ∧ 0 ≤ x ∧ 0 ≤ y ∧ y < 2147483647 ∧ 0 ≤ z ∧ z + (n : Int) ≤ 1099511627776
theorem Box.less {H : Hp} {b : Addr} {n m : Nat} (h : Box H b n) (le : m ≤ n) : Box H b m := by
  obtain ⟨x, y, z, e, h0, h1, h2, h3, h4⟩ := h
  exact ⟨x, y, z, e, h0, h1, h2, h3, by omega⟩
theorem Box.lst {H : Hp} {b : Addr} {n : Nat} (h : Box H b n) : ∃ xs, H b = some (.lst xs) := by
  obtain ⟨x, y, z, e, _⟩ := h
  exact ⟨_, e⟩
theorem Box.tu {H H' : Hp} {b : Addr} {n : Nat} (h : Box H b n) (e : But b H H') : Tu H H' := by
  obtain ⟨xs, q⟩ := h.lst
  exact e.tu q
theorem Box.ex {H H' : Hp} {b : Addr} {n : Nat} (h : Box H b n) (e : Ex H H') : Box H' b n := by
  obtain ⟨x, y, z, q, r⟩ := h
  exact ⟨x, y, z, e _ _ q, r⟩
/-- one thing below size -/
def spTake : Sp := fun vs H Q _ => ∃ (b : Addr) (size : Int) (n : Nat), vs = [.ref b, .int size] ∧ 0 < size ∧ size ≤ 10000000 ∧ Box H b (n + 1) ∧
  ∀ (H' : Hp) (r : Int), But b H H' → Box H' b n → 0 ≤ r → r < size → Q (.int r) H'
end V


set_option Elab.async false
set_option linter.all false
set_option maxRecDepth 100000
set_option maxHeartbeats 4000000
namespace V
open PySem PySem.Spec PyProof.Rows L2 Evl
theorem ite01 (c : Prop) [Decidable c] : (0 : Int) ≤ (if c then 1 else 0) ∧ (if c then (1 : Int) else 0) ≤ 1 := by
  split <;> decide
/-- a number of a term -/
def spNum : Sp := fun vs H Q _ => ∃ (b : Addr) (n : Nat), vs = [.ref b] ∧ Box H b (n + 4) ∧
  ∀ (H' : Hp) (r : Int), But b H H' → Box H' b n → 0 ≤ r → r ≤ 1000002 → Q (.int r) H'
/-- a box of its own -/
def spBox (K : PySem.W.Frag) : Sp := fun vs H Q _ => ∃ (a : Addr) (ns : List Int) (k : Nat), vs = [.ref a, .int (k : Int)] ∧ SqL K H a (ns.map V.int) ∧ k ≤ 100 ∧
  ∀ (H' : Hp) (b : Addr), H b = none → Ex H H' → Box H' b 1099511627776 → Q (.ref b) H'
end V


set_option Elab.async false
set_option linter.all false
set_option maxRecDepth 100000
set_option maxHeartbeats 400000
namespace V
open PySem PySem.Spec PyProof.Rows L2 Evl TL NumText
/-! ### drawn marks and terms -/
def spSomeMark : Sp := fun vs H Q _ => ∃ (b : Addr) (n : Nat), vs = [.ref b] ∧ Box H b (n + 7) ∧ ∀ (H' : Hp) (m : Str), But b H H' → Box H' b n → isMk m → Q (.str m) H'
def sg36 : Str := "0123456789abcdefghijklmnopqrstuvwxyz"
theorem sg36_at : ∀ d : Nat, d < 36 → ∃ c : Nat, atI sg36.cps.toList (d : Int) = some c ∧ ((48 ≤ c ∧ c ≤ 57) ∨ (97 ≤ c ∧ c ≤ 122)) := by
  intro d hd
  have all : ∀ d : Nat, d < 36 → ∃ c ∈ sg36.cps.toList, sg36.cps.toList[d]? = some c ∧ ((48 ≤ c ∧ c ≤ 57) ∨ (97 ≤ c ∧ c ≤ 122)) := by decide +kernel
  obtain ⟨c, _, h1, h2⟩ := all d hd
  exact ⟨c, atI_nat h1, h2⟩
theorem joinL_nil : ∀ l : List (List Nat), joinL [] l = l.flatten
  | [] => rfl
  | [p] => by
    show p = p ++ []
    rw [List.append_nil]
  | p :: q :: r => by
    show p ++ ([] ++ joinL [] (q :: r)) = p ++ (q :: r).flatten
    rw [joinL_nil (q :: r)]
    rfl
def ones (l : List Nat) : List Str := l.map fun c => ⟨#[c]⟩
theorem tl_ones (l : List Nat) : tl (Str.join "" (ones l)) = l := by
  rw [tl_join, show tl ("" : Str) = [] by decide +kernel, joinL_nil]
  unfold ones
  rw [List.map_map]
  induction l with
  | nil => rfl
  | cons c l ih =>
    show [c] ++ (l.map _).flatten = c :: l
    rw [ih]
    rfl
theorem ones_sum (l : List Nat) : ((ones l).map (·.length)).sum = l.length := by
  unfold ones
  induction l with
  | nil => rfl
  | cons c l ih =>
    rw [List.map_cons, List.map_cons, List.sum_cons, ih, List.length_cons]
    show 1 + l.length = l.length + 1
    omega
end V


set_option Elab.async false
set_option linter.all false
set_option maxRecDepth 100000
set_option maxHeartbeats 4000000
namespace V
open PySem PySem.Spec PyProof.Rows L2 Evl
/-! ### data of any kind -/
section
variable {K : PySem.W.Frag} {H H' : Hp}
mutual
theorem dp_ex (e : Ex H H') : ∀ {v : V} {d : PyData}, Dp K H v d → Dp K H' v d
  | _, _, .non => .non
  | _, _, .bl b => .bl b
  | _, _, .int i => .int i
  | _, _, .str x => .str x
  | _, _, .lst h hs => .lst (ex_l e h) (dps_ex e hs)
  | _, _, .tup h hs => .tup (ex_t e h) (dps_ex e hs)
theorem dps_ex (e : Ex H H') : ∀ {vs : List V} {ds : List PyData}, DpAll K H vs ds → DpAll K H' vs ds
  | _, _, .nil => .nil
  | _, _, .cons h hs => .cons (dp_ex e h) (dps_ex e hs)
end
theorem dps_len : ∀ {vs : List V} {ds : List PyData}, DpAll K H vs ds → vs.length = ds.length
  | _, _, .nil => rfl
  | _, _, .cons _ hs => by rw [List.length_cons, List.length_cons, dps_len hs]
theorem dps_get : ∀ {vs : List V} {ds : List PyData}, DpAll K H vs ds → ∀ {i : Nat} {v : V}, vs[i]? = some v → ∃ d, ds[i]? = some d ∧ Dp K H v d
  | _, _, .nil, i, v, e => by simp at e
  | _, _, .cons h hs, 0, v, e => by
    cases Option.some.inj e
    exact ⟨_, rfl, h⟩
  | _, _, .cons h hs, i + 1, v, e => dps_get hs (i := i) (v := v) e
/-- the name of its class -/
def kind : PyData → String
  | .none => "NoneType"
  | .bool _ => "bool"
  | .int _ => "int"
  | .str _ => "str"
  | .list _ => "list"
  | .tuple _ => "tuple"
  | .dict _ => "dict"
theorem dp_ty {v : V} {d : PyData} (h : Dp K H v d) : TyX K H v (.type (kind d)) := by
  cases h with
  | non => exact .base .non
  | bl b => exact .base (.bl b)
  | int i => exact .base (.int i)
  | str x => exact .base (.str x)
  | lst h _ =>
    rcases h with (h | ⟨o, h⟩) | ⟨o, its, n, h, c, _⟩
    · exact .base (.lst h)
    · exact .base (.frz h)
    · exact .kList h c
  | tup h _ =>
    rcases h with (h | ⟨o, h⟩) | ⟨o, its, n, h, c, _⟩
    · exact .base (.tup h)
    · exact .fTuple h
    · exact .kTuple h c
end
def sgS : Str := "0123456789abcdefghijklmnopqrstuvwxyz #@();:"
def sgM : Str := "0123456789abcdefghijklmnopqrstuvwxyz"
theorem cut_sg : cutS sgS none (some 36) = sgM := by decide +kernel
/-- a text of six figures and letters -/
def isMarkD : PyData → Bool
  | .str x => x.length == 6 && x.cps.toList.all fun c => decide (c ∈ sgM.cps.toList)
  | _ => false
def isStrD : PyData → Bool
  | .str _ => true
  | _ => false
def isTupD : PyData → Bool
  | .tuple _ => true
  | _ => false
def isBoolD : PyData → Bool
  | .bool _ => true
  | _ => false
def isIntD : PyData → Bool
  | .int _ => true
  | .bool _ => true
  | _ => false
theorem kit_str : ∀ d : PyData, kitB (kind d) "str" = some (isStrD d)
  | .none => (by decide +kernel : kitB "NoneType" "str" = some false)
  | .bool _ => (by decide +kernel : kitB "bool" "str" = some false)
  | .int _ => (by decide +kernel : kitB "int" "str" = some false)
  | .str _ => (by decide +kernel : kitB "str" "str" = some true)
  | .list _ => (by decide +kernel : kitB "list" "str" = some false)
  | .tuple _ => (by decide +kernel : kitB "tuple" "str" = some false)
  | .dict _ => (by decide +kernel : kitB "dict" "str" = some false)
theorem kit_tup : ∀ d : PyData, kitB (kind d) "tuple" = some (isTupD d)
  | .none => (by decide +kernel : kitB "NoneType" "tuple" = some false)
  | .bool _ => (by decide +kernel : kitB "bool" "tuple" = some false)
  | .int _ => (by decide +kernel : kitB "int" "tuple" = some false)
  | .str _ => (by decide +kernel : kitB "str" "tuple" = some false)
  | .list _ => (by decide +kernel : kitB "list" "tuple" = some false)
  | .tuple _ => (by decide +kernel : kitB "tuple" "tuple" = some true)
  | .dict _ => (by decide +kernel : kitB "dict" "tuple" = some false)
theorem kit_bool : ∀ d : PyData, kitB (kind d) "bool" = some (isBoolD d)
  | .none => (by decide +kernel : kitB "NoneType" "bool" = some false)
  | .bool _ => (by decide +kernel : kitB "bool" "bool" = some true)
  | .int _ => (by decide +kernel : kitB "int" "bool" = some false)
  | .str _ => (by decide +kernel : kitB "str" "bool" = some false)
  | .list _ => (by decide +kernel : kitB "list" "bool" = some false)
  | .tuple _ => (by decide +kernel : kitB "tuple" "bool" = some false)
  | .dict _ => (by decide +kernel : kitB "dict" "bool" = some false)
theorem kit_int : ∀ d : PyData, kitB (kind d) "int" = some (isIntD d)
  | .none => (by decide +kernel : kitB "NoneType" "int" = some false)
  | .bool _ => (by decide +kernel : kitB "bool" "int" = some true)
  | .int _ => (by decide +kernel : kitB "int" "int" = some true)
  | .str _ => (by decide +kernel : kitB "str" "int" = some false)
  | .list _ => (by decide +kernel : kitB "list" "int" = some false)
  | .tuple _ => (by decide +kernel : kitB "tuple" "int" = some false)
  | .dict _ => (by decide +kernel : kitB "dict" "int" = some false)
def isNumD (most : Int) : PyData → Bool
  | .int i => decide (0 ≤ i) && decide (i ≤ most)
  | _ => false
def isPartsD : PyData → Bool
  | .tuple ds => decide (ds.length ≤ 4)
  | _ => false
/-- a test of one thing: its answer, all else as it was -/
def spTest (ok : PyData → Prop) (f : PyData → Bool) (K : PySem.W.Frag) : Sp := fun vs H Q _ => ∃ (v : V) (d : PyData), vs = [v] ∧ Dp K H v d ∧ ok d ∧ ∀ (H' : Hp), Ex H H' → Q (.bl (f d)) H'
def spNumTo (K : PySem.W.Frag) : Sp := fun vs H Q _ => ∃ (most : Int) (v : V) (d : PyData), vs = [.int most, v] ∧ Dp K H v d ∧ ∀ (H' : Hp), Ex H H' → Q (.bl (isNumD most d)) H'
/-- the texts in it are not too long, nor its lists -/
inductive Small : PyData → Prop where
  | non : Small .none
  | bl (b : Bool) : Small (.bool b)
  | int (i : Int) : Small (.int i)
  | str {x : Str} : x.length ≤ 100000 → Small (.str x)
  | lst {ds : List PyData} : ds.length ≤ 1000 → (∀ d ∈ ds, Small d) → Small (.list ds)
  | tup {ds : List PyData} : ds.length ≤ 1000 → (∀ d ∈ ds, Small d) → Small (.tuple ds)
section
variable {P : Program} {w : World} {K : PySem.W.Frag} {mg : Str → Option Value} {base : Heap}
theorem pe_ty {X : Cx} {T : String} {pos : Pos} (hm : X.mg (T : Str) = none) (hg : Gl X (T : Str) := by rfl) (hv : bootBuiltins (T : Str) = some (.type T) := by decide +kernel) (hn : (T : Str) ≠ "__name__" := by decide)
    (hd : ((T : Str) == ("__debug__" : Str)) = false := by decide) : PE X (.Name (T : Str) pos) (tC (.ty T)) := pe_bltn hg hm hv rfl hn hd
theorem pe_gi {X : Cx} {x : Str} {i : Int} {pos : Pos} (hm : ∃ t, X.mg x = some (.int i t)) (hg : Gl X x := by rfl) (hd : (x == ("__debug__" : Str)) = false := by decide) : PE X (.Name x pos) (tC (.int i)) := by
  obtain ⟨t, h⟩ := hm
  exact pe_glob hg h ⟨_, rfl⟩ hd
theorem pe_gs {X : Cx} {x z : Str} {pos : Pos} (hm : ∃ t, X.mg x = some (.str z t)) (hg : Gl X x := by rfl) (hd : (x == ("__debug__" : Str)) = false := by decide) : PE X (.Name x pos) (tC (.str z)) := by
  obtain ⟨t, h⟩ := hm
  exact pe_glob hg h ⟨_, rfl⟩ hd
theorem isi_at {H : Hp} {v : V} {d : PyData} {T : String} {b : Bool} (h : Dp K H v d) (e : kitB (kind d) T = some b) {Q : VK} (q : Q (.bl b) H) : rIsi K [v, .ty T] H Q :=
  ⟨v, .ty T, _, _, b, rfl, .ty T, dp_ty h, kit_ty e, q⟩
theorem all_take {p : Nat → Bool} {l : List Nat} : ((l.map p).all id) = l.all p := by
  rw [List.all_map]
  rfl
end
end V


set_option Elab.async false
set_option linter.all false
set_option maxRecDepth 100000
set_option maxHeartbeats 4000000
namespace V
open PySem PySem.Spec PyProof.Rows L2 Evl TL NumText
/-! ### what is built without a change of what is there: by the word of what comes -/
def Yl (te : TE) (σ : L2.St) (H : Hp) (R : Hp → V → Prop) : Prop := ∀ H1, Ex H H1 → ∀ Q : VK, (∀ H2 v, Ex H1 H2 → R H2 v → Q v H2) → te σ H1 Q
def Ya (ta : TA) (σ : L2.St) (H : Hp) (R : Hp → List V → Prop) : Prop := ∀ H1, Ex H H1 → ∀ Q : List V → Hp → Prop, (∀ H2 vs, Ex H1 H2 → R H2 vs → Q vs H2) → ta σ H1 Q
def TmR (t : Tm) : Hp → V → Prop := fun H v => TmAt H v t
def TmsR (ts : List Tm) : Hp → List V → Prop := fun H vs => TmsAt H vs ts
def ShS (x : Str) (m : Nat) : Hp → V → Prop := fun _ v => v = .str x ∧ x.length ≤ m
def IsV (w : V) : Hp → V → Prop := fun _ v => v = w
def IsVs (ws : List V) : Hp → List V → Prop := fun _ vs => vs = ws
section
variable {σ : L2.St} {H : Hp} {te tb : TE} {ta : TA}
theorem Yl.up {R : Hp → V → Prop} {H' : Hp} (h : Yl te σ H R) (e : Ex H H') : Yl te σ H' R := fun H1 e1 Q q => h H1 (e.trans e1) Q q
theorem Yl.imp {R R' : Hp → V → Prop} (h : Yl te σ H R) (f : ∀ H v, R H v → R' H v) : Yl te σ H R' := fun H1 e1 Q q => h H1 e1 Q fun H2 v e2 r => q H2 v e2 (f H2 v r)
theorem yl_c (v : V) : Yl (tC v) σ H (IsV v) := fun H1 e Q q => q H1 v (Ex.refl H1) rfl
theorem yl_s (x : Str) (m : Nat) (h : x.length ≤ m := by decide +kernel) : Yl (tC (.str x)) σ H (ShS x m) := fun H1 e Q q => q H1 _ (Ex.refl H1) ⟨rfl, h⟩
theorem yl_varT {i : Nat} {v : V} {t : Tm} (h : TmAt H v t) (hs : σ[i]? = some (some v) := by rfl) : Yl (tVar i) σ H (TmR t) := fun H1 e Q q => ⟨v, hs, q H1 v (Ex.refl H1) (h.ex e)⟩
theorem yl_varS {i : Nat} {x : Str} {m : Nat} (h : x.length ≤ m) (hs : σ[i]? = some (some (.str x)) := by rfl) : Yl (tVar i) σ H (ShS x m) := fun H1 e Q q => ⟨_, hs, q H1 _ (Ex.refl H1) ⟨rfl, h⟩⟩
theorem yl_varV {i : Nat} (v : V) (hs : σ[i]? = some (some v) := by rfl) : Yl (tVar i) σ H (IsV v) := fun H1 e Q q => ⟨_, hs, q H1 _ (Ex.refl H1) rfl⟩
theorem yl_add {x y : Str} {m n : Nat} (ha : Yl te σ H (ShS x m)) (hb : Yl tb σ H (ShS y n)) (k : m + n ≤ 1000 := by decide) :
    Yl (tOp (fun x y H Q => ∃ i j, x = .str i ∧ y = .str j ∧ i.length + j.length ≤ sizeLine ∧ Q (.str (i ++ j)) H) te tb) σ H (ShS (x ++ y) (m + n)) := fun H1 e Q q => by
  refine ha H1 e _ fun H2 v e2 ⟨r1, r2⟩ => hb H2 (e.trans e2) _ fun H3 u e3 ⟨r3, r4⟩ => ?_
  refine ⟨x, y, r1, r3, Nat.le_trans (by omega) (by decide : 1000 ≤ sizeLine), q H3 _ (e2.trans e3) ⟨rfl, ?_⟩⟩
  rw [str_len_append]
  omega
theorem ya_nil : Ya tNil σ H (IsVs []) := fun H1 e Q q => q H1 [] (Ex.refl H1) rfl
theorem ya_v {v : V} {vs : List V} (h : Ya ta σ H (IsVs vs)) : Ya (tCons (tC v) ta) σ H (IsVs (v :: vs)) := fun H1 e Q q => h H1 e _ fun H2 us e2 r => q H2 _ e2 (by rw [show us = vs from r]; rfl)
theorem ya_tnil : Ya tNil σ H (TmsR []) := fun H1 e Q q => q H1 [] (Ex.refl H1) .nil
theorem ya_t {t : Tm} {ts : List Tm} (h : Yl te σ H (TmR t)) (hs : Ya ta σ H (TmsR ts)) : Ya (tCons te ta) σ H (TmsR (t :: ts)) := fun H1 e Q q =>
  h H1 e _ fun H2 v e2 r => hs H2 (e.trans e2) _ fun H3 vs e3 rs => q H3 _ (e2.trans e3) (.cons (TmAt.ex r e3) rs)
theorem tms_len {vs : List V} {ts : List Tm} (h : TmsAt H vs ts) (k : ts.length ≤ 4) : vs.length + 3 ≤ sizeLine := by
  rw [h.length]
  exact Nat.le_trans (by omega) (by decide : 7 ≤ sizeLine)
theorem yl_op (o : Op) {ts : List Tm} (h : Ya ta σ H (TmsR ts)) (k : ts.length ≤ 4 := by exact Nat.le_of_ble_eq_true rfl) : Yl (tTup (tCons (tC (.str o.str)) ta)) σ H (TmR (.node (.op o) ts)) := fun H1 e Q q =>
  h H1 e _ fun H2 vs e2 r => ⟨by have := tms_len r k; rw [List.length_cons]; omega, fun p hp => q _ _ (e2.trans (Ex.new hp)) (.op upd_same (TmsAt.ex r (Ex.new hp)))⟩
theorem yl_call (m : Str) {ts : List Tm} (h : Ya ta σ H (TmsR ts)) (k : ts.length ≤ 4 := by exact Nat.le_of_ble_eq_true rfl) : Yl (tTup (tCons (tC (.str "call")) (tCons (tC (.str m)) (tCons (tTup ta) tNil)))) σ H (TmR (.node (.call m) ts)) := fun H1 e Q q =>
  h H1 e _ fun H2 vs e2 r => ⟨by have := tms_len r k; omega, fun p hp => ⟨sz 3, fun p2 hp2 => by
    have f1 := Ex.new (o := .tup vs) hp
    have f2 := Ex.new (o := .tup [.str "call", .str m, .ref p]) hp2
    exact q _ _ (e2.trans (f1.trans f2)) (.call upd_same (f2 p _ upd_same) (TmsAt.ex r (f1.trans f2)))⟩⟩
theorem yl_ring (j : Nat) {ts : List Tm} (h : Ya ta σ H (TmsR ts)) (k : ts.length ≤ 4 := by exact Nat.le_of_ble_eq_true rfl) : Yl (tTup (tCons (tC (.str "ring")) (tCons (tC (.int (j : Int))) (tCons (tTup ta) tNil)))) σ H (TmR (.node (.ring j) ts)) := fun H1 e Q q =>
  h H1 e _ fun H2 vs e2 r => ⟨by have := tms_len r k; omega, fun p hp => ⟨sz 3, fun p2 hp2 => by
    have f1 := Ex.new (o := .tup vs) hp
    have f2 := Ex.new (o := .tup [.str "ring", .int (j : Int), .ref p]) hp2
    exact q _ _ (e2.trans (f1.trans f2)) (.ring upd_same (f2 p _ upd_same) (TmsAt.ex r (f1.trans f2)))⟩⟩
theorem yl_num {n : Nat} (h : Yl te σ H (IsV (.int (n : Int)))) : Yl (tTup (tCons (tC (.str "num")) (tCons te tNil))) σ H (TmR (.num n)) := fun H1 e Q q =>
  h H1 e _ fun H2 v e2 r => ⟨sz 2, fun p hp => q _ _ (e2.trans (Ex.new hp)) (.num (by rw [show v = .int (n : Int) from r, upd_same]))⟩
theorem yl_arg {n : Nat} (h : Yl te σ H (IsV (.int (n : Int)))) : Yl (tTup (tCons (tC (.str "arg")) (tCons te tNil))) σ H (TmR (.arg n)) := fun H1 e Q q =>
  h H1 e _ fun H2 v e2 r => ⟨sz 2, fun p hp => q _ _ (e2.trans (Ex.new hp)) (.arg (by rw [show v = .int (n : Int) from r, upd_same]))⟩
/-- a term and what is written of it -/
def Good (t : Tm) (ms : List Str) : Prop := t.Ok 11 ∧ t.deep ≤ 6 ∧ t.size ≤ 100 ∧ t.txt.length ≤ 1000 ∧ ms.length ≤ 100 ∧ ms.Pairwise tlt ∧ ∀ x, x ∈ ms ↔ x ∈ t.marks
def KnAt (N : Addr → Prop) (H : Hp) (v : V) (t : Tm) : Prop := ∃ (a : Addr) (tv : V) (c q : Addr) (ms : List Str), v = .ref a ∧ H a = some (.tup [tv, .str t.txt, .int (t.deep : Int), .int (t.size : Int), .ref c, .ref q]) ∧ TmAt H tv t ∧
  H c = some (.lst (ms.map V.str)) ∧ H q = some (.lst (t.places.map fun k : Nat => V.int (k : Int))) ∧ ¬ N c ∧ ¬ N q ∧ Good t ms
theorem KnAt.ex {N : Addr → Prop} {v : V} {t : Tm} {H' : Hp} (h : KnAt N H v t) (e : Ex H H') : KnAt N H' v t := by
  obtain ⟨a, tv, c, q, ms, h1, h2, h3, h4, h5, h6⟩ := h
  exact ⟨a, tv, c, q, ms, h1, e _ _ h2, h3.ex e, e _ _ h4, e _ _ h5, h6⟩
theorem KnAt.but {p : Addr} {v : V} {t : Tm} {H' : Hp} {xs : List V} (h : KnAt (· = p) H v t) (hp : H p = some (.lst xs)) (e : But p H H') : KnAt (· = p) H' v t := by
  obtain ⟨a, tv, c, q, ms, h1, h2, h3, h4, h5, h6, h7, h8⟩ := h
  have tu := e.tu hp
  exact ⟨a, tv, c, q, ms, h1, tu _ _ h2, h3.tu tu, e _ _ h6 h4, e _ _ h7 h5, h6, h7, h8⟩
theorem KnAt.new {p : Addr} {v : V} {t : Tm} {o : HO} (h : KnAt (fun _ => False) H v t) (hp : H p = none) : KnAt (· = p) (upd H p o) v t := by
  obtain ⟨a, tv, c, q, ms, h1, h2, h3, h4, h5, h6, h7, h8⟩ := h
  have e := Ex.new (o := o) hp
  exact ⟨a, tv, c, q, ms, h1, e _ _ h2, h3.ex e, e _ _ h4, e _ _ h5, (fun (z : c = p) => by rw [z, hp] at h4; cases h4), (fun (z : q = p) => by rw [z, hp] at h5; cases h5), h8⟩
theorem yl_kn {N : Addr → Prop} {t : Tm} {ms : List Str} {m : Nat} {d z : Int} {ca qa : TA} {tx : TE} {qs : List V} (hN : ∀ c, N c → H c ≠ none) (g : Good t ms) (h1 : Yl te σ H (TmR t)) (h2 : Yl tx σ H (ShS t.txt m)) (hd : d = (t.deep : Int)) (hz : z = (t.size : Int))
    (hc : Ya ca σ H (IsVs (ms.map V.str))) (hq : Ya qa σ H (IsVs qs)) (eq_ : qs = t.places.map fun k : Nat => V.int (k : Int)) (few : t.places.length ≤ 100) :
    Yl (tTup (tCons te (tCons tx (tCons (tC (.int d)) (tCons (tC (.int z)) (tCons (tLst ca) (tCons (tLst qa) tNil))))))) σ H (fun H v => KnAt N H v t) := fun H1 e Q q =>
  h1 H1 e _ fun H2 v e2 r => h2 H2 (e.trans e2) _ fun H3 u e3 ⟨s1, s2⟩ => hc H3 (e.trans (e2.trans e3)) _ fun H4 cs e4 rc => by
    have rc' : cs = ms.map V.str := rc
    subst rc'
    refine ⟨by rw [List.length_map]; exact Nat.le_trans g.2.2.2.2.1 (by decide), fun c hcn => ?_⟩
    have f1 := Ex.new (o := .lst (ms.map V.str)) hcn
    refine hq _ (e.trans (e2.trans (e3.trans (e4.trans f1)))) _ fun H5 us e5 rq => ?_
    have rq' : us = t.places.map fun k : Nat => V.int (k : Int) := (show us = qs from rq).trans eq_
    subst rq'
    refine ⟨by rw [List.length_map]; exact Nat.le_trans few (by decide), fun q1 hq1 => ⟨sz 6, fun p hp => ?_⟩⟩
    have f2 := Ex.new (o := .lst (t.places.map fun k : Nat => V.int (k : Int))) hq1
    have f3 := Ex.new (o := .tup [v, u, .int d, .int z, .ref c, .ref q1]) hp
    have hh : Ex H H4 := e.trans (e2.trans (e3.trans e4))
    refine q _ _ (e2.trans (e3.trans (e4.trans (f1.trans (e5.trans (f2.trans f3)))))) ⟨p, v, c, q1, ms, rfl, by rw [upd_same, s1, hd, hz], TmAt.ex r (e3.trans (e4.trans (f1.trans (e5.trans (f2.trans f3))))), (f2.trans f3) _ _ (e5 _ _ upd_same), f3 _ _ upd_same, ?_, ?_, g⟩
    · intro n
      have n0 := hN c n
      cases w : H c with
      | none => exact n0 w
      | some o =>
        rw [hh _ _ w] at hcn
        cases hcn
    · intro n
      have n0 := hN q1 n
      cases w : H q1 with
      | none => exact n0 w
      | some o =>
        rw [e5 _ _ (f1 _ _ (hh _ _ w))] at hq1
        cases hq1
end
inductive KnsAt (N : Addr → Prop) (H : Hp) : List V → List Tm → Prop where
  | nil : KnsAt N H [] []
  | cons {v : V} {vs : List V} {t : Tm} {ts : List Tm} : KnAt N H v t → KnsAt N H vs ts → KnsAt N H (v :: vs) (t :: ts)
theorem KnsAt.map {N N' : Addr → Prop} {H H' : Hp} (f : ∀ v t, KnAt N H v t → KnAt N' H' v t) : ∀ {vs : List V} {ts : List Tm}, KnsAt N H vs ts → KnsAt N' H' vs ts
  | _, _, .nil => .nil
  | _, _, .cons h hs => .cons (f _ _ h) (hs.map f)
theorem KnsAt.add {N : Addr → Prop} {H : Hp} {v : V} {t : Tm} (h : KnAt N H v t) : ∀ {vs : List V} {ts : List Tm}, KnsAt N H vs ts → KnsAt N H (vs ++ [v]) (ts ++ [t])
  | _, _, .nil => .cons h .nil
  | _, _, .cons k ks => .cons k (ks.add h)
theorem KnsAt.len {N : Addr → Prop} {H : Hp} : ∀ {vs : List V} {ts : List Tm}, KnsAt N H vs ts → vs.length = ts.length
  | _, _, .nil => rfl
  | _, _, .cons _ hs => by rw [List.length_cons, List.length_cons, hs.len]
theorem KnsAt.get {N : Addr → Prop} {H : Hp} : ∀ {vs : List V} {ts : List Tm}, KnsAt N H vs ts → ∀ {i : Nat} {v : V}, vs[i]? = some v → ∃ t, ts[i]? = some t ∧ KnAt N H v t
  | _, _, .nil, i, v, e => by simp at e
  | _, _, .cons h hs, 0, v, e => by
    cases Option.some.inj e
    exact ⟨_, rfl, h⟩
  | _, _, .cons h hs, i + 1, v, e => hs.get (i := i) (v := v) e
end V


set_option Elab.async false
set_option linter.all false
set_option maxRecDepth 100000
set_option maxHeartbeats 400000
namespace V
open PySem PySem.Spec PyProof.Rows L2 Evl TL NumText
/-! ### drawn terms -/
def Hd.L : Hd → List V
  | .op o => [.str o.str]
  | .call m => [.str "call", .str m]
  | .ring p => [.str "ring", .int (p : Int)]
def Hd.notOp : Hd → Bool
  | .op _ => false
  | _ => true
def Hd.pyd : Hd → PyData
  | .op o => .tuple [.str o.str]
  | .call m => .tuple [.str "call", .str m]
  | .ring p => .tuple [.str "ring", .int (p : Int)]
def HdAt (H : Hp) (v : V) (x : Hd × Nat) : Prop := ∃ a c, v = .ref a ∧ H a = some (.tup [.ref c, .int (x.2 : Int)]) ∧ H c = some (.tup x.1.L)
theorem HdAt.tu {H H' : Hp} (e : Tu H H') {v : V} {x : Hd × Nat} (h : HdAt H v x) : HdAt H' v x := by
  obtain ⟨a, c, h1, h2, h3⟩ := h
  exact ⟨a, c, h1, e _ _ h2, e _ _ h3⟩
theorem HdAt.dp {K : PySem.W.Frag} {H : Hp} {v : V} {h : Hd} {s : Nat} (k : HdAt H v (h, s)) : Dp K H v (.tuple [h.pyd, .int (s : Int)]) := by
  obtain ⟨a, c, rfl, h2, h3⟩ := k
  refine .tup (SqT.of h2) (.cons ?_ (.cons (.int _) .nil))
  cases h with
  | op o => exact .tup (SqT.of h3) (.cons (.str _) .nil)
  | call m => exact .tup (SqT.of h3) (.cons (.str _) (.cons (.str _) .nil))
  | ring p => exact .tup (SqT.of h3) (.cons (.str _) (.cons (.int _) .nil))
/-- four heads of calls -/
structure Heads (H : Hp) (hp : Addr) : Prop where
  ex : ∃ (v1 v2 v3 v4 : V) (m1 m2 : Str) (p1 p2 s1 s2 s3 s4 : Nat), H hp = some (.lst [v1, v2, v3, v4]) ∧ HdAt H v1 (.call m1, s1) ∧ HdAt H v2 (.call m2, s2) ∧ HdAt H v3 (.ring p1, s3) ∧ HdAt H v4 (.ring p2, s4) ∧
    isMk m1 ∧ isMk m2 ∧ p1 ≤ 11 ∧ p2 ≤ 11 ∧ s1 ≤ 4 ∧ s2 ≤ 4 ∧ s3 ≤ 4 ∧ s4 ≤ 4
theorem Heads.but {H H' : Hp} {hp b : Addr} {xs : List V} (h : Heads H hp) (hb : H b = some (.lst xs)) (n : hp ≠ b) (e : But b H H') : Heads H' hp := by
  obtain ⟨v1, v2, v3, v4, m1, m2, p1, p2, s1, s2, s3, s4, h0, h1, h2, h3, h4, r⟩ := h.ex
  have tu := e.tu hb
  exact ⟨v1, v2, v3, v4, m1, m2, p1, p2, s1, s2, s3, s4, e _ _ n h0, h1.tu tu, h2.tu tu, h3.tu tu, h4.tu tu, r⟩
/-- one of them -/
theorem Heads.get {H : Hp} {hp : Addr} (h : Heads H hp) : ∃ vs, H hp = some (.lst vs) ∧ vs.length = 4 ∧ ∀ i : Nat, i < 4 → ∃ v hd s, vs[i]? = some v ∧ HdAt H v (hd, s) ∧ hd.notOp = true ∧ hd.ok 11 s := by
  obtain ⟨v1, v2, v3, v4, m1, m2, p1, p2, s1, s2, s3, s4, h0, h1, h2, h3, h4, r1, r2, r3, r4, r5, r6, r7, r8⟩ := h.ex
  refine ⟨_, h0, rfl, fun i hi => ?_⟩
  match i, hi with
  | 0, _ => exact ⟨v1, _, s1, rfl, h1, rfl, r1, r5⟩
  | 1, _ => exact ⟨v2, _, s2, rfl, h2, rfl, r2, r6⟩
  | 2, _ => exact ⟨v3, _, s3, rfl, h3, rfl, r3, r7⟩
  | 3, _ => exact ⟨v4, _, s4, rfl, h4, rfl, r4, r8⟩
theorem mk_lay {m : Str} (h : isMk m) : PyData.canLay0 (.str m) = true := by
  have e : PyData.canLay0 (.str m) = m.cps.all (· < 0x110000) := by
    simp only [PyData.canLay0]
    rfl
  rw [e, ← Array.all_toList, List.all_eq_true]
  intro c hc
  have := h.2 c hc
  exact decide_eq_true (by omega)
theorem Heads.dp {K : PySem.W.Frag} {H : Hp} {hp : Addr} (h : Heads H hp) : ∃ d, Dp K H (.ref hp) d ∧ SeqAt.shaped d = true ∧ PyData.eqv d (.list []) = false := by
  obtain ⟨v1, v2, v3, v4, m1, m2, p1, p2, s1, s2, s3, s4, h0, h1, h2, h3, h4, r⟩ := h.ex
  refine ⟨_, .lst (SqL.of h0) (.cons h1.dp (.cons h2.dp (.cons h3.dp (.cons h4.dp .nil)))), ?_, ?_⟩
  · have k1 := mk_lay r.1
    have k2 := mk_lay r.2.1
    have c1 : PyData.canLay0 (.str "call") = true := by decide +kernel
    have c2 : PyData.canLay0 (.str "ring") = true := by decide +kernel
    unfold SeqAt.shaped
    simp only [Hd.pyd, PyData.canLay0, PyData.canLayAll0, PyData.depth, PyData.depthAll] at k1 k2 c1 c2 ⊢
    rw [k1, k2, c1, c2]
    decide
  · simp only [PyData.eqv, PyData.eqvAll]
def cost : Nat → Nat
  | 0 => 0
  | d + 1 => 5 + 4 * cost d
def most : Nat → Nat
  | 0 => 0
  | d + 1 => 1 + 4 * most d
/-- what comes of a draw of a term -/
def Drawn (b : Addr) (n d : Nat) (H : Hp) (Q : VK) : Prop := ∀ (H' : Hp) (v : V) (t : Tm), But b H H' → Box H' b n → TmAt H' v t → t.Ok 11 → t.deep ≤ d → t.size ≤ most d → Q v H'
def spTerm (d : Nat) : Sp := fun vs H Q _ => ∃ (b hp : Addr) (n many tall : Nat), vs = [.ref b, .int (many : Int), .ref hp, .int (tall : Int)] ∧ Box H b (n + cost d) ∧ 1 ≤ tall ∧ tall ≤ d ∧ 1 ≤ many ∧ many ≤ 4 ∧ hp ≠ b ∧ Heads H hp ∧ Drawn b n d H Q
theorem most_mono {a b : Nat} (h : a ≤ b) : most a ≤ most b := by
  induction b generalizing a with
  | zero => rw [Nat.le_zero.mp h]; exact Nat.le_refl _
  | succ b ih =>
    cases a with
    | zero => exact Nat.zero_le _
    | succ a =>
      have := ih (Nat.le_of_succ_le_succ h)
      show 1 + 4 * most a ≤ 1 + 4 * most b
      omega
end V


set_option Elab.async false
set_option linter.all false
set_option maxRecDepth 100000
set_option maxHeartbeats 400000
namespace V
open PySem PySem.Spec PyProof.Rows L2 Evl TL NumText
/-- from A a statement goes on to B -/
def Hs (t : TS) (A B : L2.St → Hp → Prop) : Prop := ∀ (D : Ends) (σ : L2.St) (H : Hp), A σ H → (∀ σ' H', B σ' H' → D.nx σ' H') → t D σ H
def He1 (t : TS) (A : L2.St → Hp → Prop) (Q : VK) : Prop := ∀ (D : Ends) (σ : L2.St) (H : Hp), A σ H → (∀ v H', Q v H' → D.rt v H') → t D σ H
theorem Hs.fin {t u : TS} {A B : L2.St → Hp → Prop} {Q : VK} (h1 : Hs t A B) (h2 : He1 u B Q) : He1 (tSeq t u) A Q := fun D σ H a k => h1 { D with nx := u D } σ H a fun σ' H' b => h2 D σ' H' b k
theorem dec_ii {a b : Int} : decide (V.int a = V.int b) = decide (a = b) := by
  rw [decide_eq_decide]
  exact ⟨V.int.inj, congrArg V.int⟩
theorem deeps_le (ts : List Tm) (m : Nat) (h : ∀ t ∈ ts, t.deep ≤ m) : Tm.deeps ts ≤ m := by
  induction ts with
  | nil => exact Nat.zero_le _
  | cons t r ih =>
    have h1 := h t (List.mem_cons_self ..)
    have h2 := ih fun u hu => h u (List.mem_cons_of_mem _ hu)
    show max t.deep (Tm.deeps r) ≤ m
    omega
theorem sizes_le (ts : List Tm) (m : Nat) (h : ∀ t ∈ ts, t.size ≤ m) : Tm.sizes ts ≤ ts.length * m := by
  induction ts with
  | nil => exact Nat.zero_le _
  | cons t r ih =>
    have h1 := h t (List.mem_cons_self ..)
    have h2 := ih fun u hu => h u (List.mem_cons_of_mem _ hu)
    show t.size + Tm.sizes r ≤ (r.length + 1) * m
    rw [Nat.add_mul, Nat.one_mul]
    omega
end V


set_option Elab.async false
set_option linter.all false
set_option maxRecDepth 100000
set_option maxHeartbeats 400000
namespace V
open PySem PySem.Spec PyProof.Rows L2 Evl TL NumText
def spAny : Sp := fun vs H Q _ => ∃ (b : Addr) (n : Nat), vs = [.ref b] ∧ Box H b (n + 400) ∧ ∀ (H' : Hp) (v : V) (t : Tm), But b H H' → Box H' b n → TmAt H' v t → t.Ok 11 → t.deep ≤ 8 → t.size ≤ 50 → Q v H'
def CallHd (H : Hp) (v : V) : Prop := ∃ m s, HdAt H v (.call m, s) ∧ isMk m ∧ s ≤ 4
def RingHd (H : Hp) (v : V) : Prop := ∃ p s, HdAt H v (.ring p, s) ∧ p ≤ 11 ∧ s ≤ 4
theorem CallHd.tu {H H' : Hp} {v : V} (h : CallHd H v) (e : Tu H H') : CallHd H' v := by
  obtain ⟨m, s, h1, h2⟩ := h
  exact ⟨m, s, h1.tu e, h2⟩
theorem RingHd.tu {H H' : Hp} {v : V} (h : RingHd H v) (e : Tu H H') : RingHd H' v := by
  obtain ⟨m, s, h1, h2⟩ := h
  exact ⟨m, s, h1.tu e, h2⟩
/-- parts, not too deep, not too many -/
structure Few (H : Hp) (vs : List V) (ts : List Tm) (D S : Nat) : Prop where
  a : TmsAt H vs ts
  o : ∀ t ∈ ts, t.Ok 11
  d : Tm.deeps ts ≤ D
  z : Tm.sizes ts ≤ S
theorem few_nil (H : Hp) (D : Nat) : Few H [] [] D 0 := ⟨.nil, (fun t h => by cases h), Nat.zero_le _, Nat.le_refl _⟩
theorem few_cons {H : Hp} {v : V} {t : Tm} {vs : List V} {ts : List Tm} {D S s : Nat} (h : TmAt H v t) (o : t.Ok 11) (d : t.deep ≤ D) (z : t.size ≤ s) (k : Few H vs ts D S) : Few H (v :: vs) (t :: ts) D (s + S) :=
  ⟨.cons h k.a, (fun u hu => by
    rcases List.mem_cons.mp hu with rfl | hu
    · exact o
    · exact k.o u hu), (by show max t.deep (Tm.deeps ts) ≤ D; have := k.d; omega), (by show t.size + Tm.sizes ts ≤ s + S; have := k.z; omega)⟩
theorem Few.tu {H H' : Hp} {vs : List V} {ts : List Tm} {D S : Nat} (k : Few H vs ts D S) (e : Tu H H') : Few H' vs ts D S := ⟨k.a.tu e, k.o, k.d, k.z⟩
theorem Few.less {H : Hp} {vs : List V} {ts : List Tm} {D S S' : Nat} (k : Few H vs ts D S) (h : S ≤ S') : Few H vs ts D S' := ⟨k.a, k.o, k.d, Nat.le_trans k.z h⟩
theorem Few.node {H : Hp} {vs : List V} {ts : List Tm} {D S : Nat} (k : Few H vs ts D S) {h : Hd} (ho : h.ok 11 ts.length) : (Tm.node h ts).Ok 11 ∧ (Tm.node h ts).deep ≤ D + 1 ∧ (Tm.node h ts).size ≤ S + 1 :=
  ⟨.node ho k.o, (by show 1 + Tm.deeps ts ≤ D + 1; have := k.d; omega), (by show 1 + Tm.sizes ts ≤ S + 1; have := k.z; omega)⟩
theorem len_two {xs : List V} (h : xs.length = 2) : ∃ x y, xs = [x, y] := by
  match xs, h with
  | [x, y], _ => exact ⟨x, y, rfl⟩
/-- the box is let alone, a new list is led on -/
theorem But.on {H0 H4 H5 : Hp} {b l : Addr} {o : HO} (hl : H0 l = none) (u : But b H0 H4) (u5 : But b H4 H5) : But b H0 (L2.upd H5 l o) := fun a x ha ho => by
  have na : a ≠ l := fun z => by
    rw [z, hl] at ho
    cases ho
  rw [upd_ne na]
  exact u5 a x ha (u a x ha ho)
theorem Box.on {H : Hp} {b l : Addr} {n : Nat} {o : HO} (h : Box H b n) (k : l ≠ b) : Box (L2.upd H l o) b n := by
  obtain ⟨x, y, z, q1, q2⟩ := h
  exact ⟨x, y, z, by rw [upd_ne k.symm]; exact q1, q2⟩
theorem Box.ne {H : Hp} {b l : Addr} {n : Nat} (h : Box H b n) (hl : H l = none) : l ≠ b := fun z => by
  obtain ⟨xs, hx⟩ := h.lst
  rw [z, hx] at hl
  cases hl
end V


set_option Elab.async false
set_option linter.all false
set_option maxRecDepth 100000
set_option maxHeartbeats 400000
namespace V
open PySem PySem.Spec PyProof.Rows L2 Evl TL NumText
theorem words_len {M : Nat} (hM : M ≤ 1000000) {h : Hd} {ts : List Tm} (hh : h.ok M ts.length) (hks : ∀ t ∈ ts, t.Ok M) (hz : (Tm.node h ts).size ≤ 1000) : ((h.S :: ts.map Tm.txt).map (·.length)).sum + (h.S :: ts.map Tm.txt).length ≤ 100000 := by
  have each : ∀ us : List Tm, (∀ u ∈ us, u.Ok M) → ((us.map Tm.txt).map (·.length)).sum ≤ 16 * Tm.sizes us := by
    intro us
    induction us with
    | nil => intro _; exact Nat.le_refl _
    | cons u us ih =>
      intro hu
      have i1 := ih fun v hv => hu v (List.mem_cons_of_mem _ hv)
      have i2 := txt_len hM u (hu u (List.mem_cons_self ..))
      show u.txt.length + ((us.map Tm.txt).map (·.length)).sum ≤ 16 * (u.size + Tm.sizes us)
      omega
  have i1 := each ts hks
  have i2 := Hd.S_len hh hM
  have few := hh.le
  have tsz : (Tm.node h ts).size = 1 + Tm.sizes ts := rfl
  rw [List.map_cons, List.sum_cons, List.length_cons, List.length_map]
  omega
theorem node_txt (h : Hd) (ts : List Tm) : (Tm.node h ts).txt = ("(" : Str) ++ Str.join " " (h.S :: ts.map Tm.txt) ++ ")" := by
  show ("(" : Str) ++ Str.join " " (h.S :: Tm.txts ts) ++ ")" = _
  rw [txts_map]
def Sg (l : List Nat) : Prop := ∀ c ∈ l, c ∈ tl sgS
theorem Sg.app {l k : List Nat} (h : Sg l) (g : Sg k) : Sg (l ++ k) := fun c hc => (List.mem_append.mp hc).elim (h c) (g c)
theorem sg_nums (n : Nat) : Sg (TL.numL n) := fun c hc => by
  have r := TL.numL_digits n c hc
  have all : ∀ c : Nat, c < 58 → 48 ≤ c → c ∈ tl sgS := by decide +kernel
  exact all c (by omega) r.1
theorem sg_mk {m : Str} (h : isMk m) : Sg (tl m) := fun c hc => by
  have r := h.2 c hc
  have all : ∀ c : Nat, c < 123 → ((48 ≤ c ∧ c ≤ 57) ∨ (97 ≤ c ∧ c ≤ 122)) → c ∈ tl sgS := by decide +kernel
  exact all c (by omega) r
theorem sg_hd {M n : Nat} {h : Hd} (k : h.ok M n) : Sg (tl h.S) := by
  cases h with
  | op o => cases o <;> (unfold Sg; decide +kernel)
  | call m =>
    show Sg (tl (("#" : Str) ++ m))
    rw [tl_append]
    exact Sg.app (by unfold Sg; decide +kernel) (sg_mk k.1)
  | ring p =>
    show Sg (tl (("@" : Str) ++ nt p))
    rw [tl_append, tl_nt]
    exact Sg.app (by unfold Sg; decide +kernel) (sg_nums p)
theorem sg_join : ∀ l : List (List Nat), (∀ x ∈ l, Sg x) → Sg (joinL [32] l)
  | [], _ => fun c hc => by cases hc
  | [p], h => h p (List.mem_cons_self ..)
  | p :: q :: r, h => by
    show Sg (p ++ ([32] ++ joinL [32] (q :: r)))
    exact Sg.app (h p (List.mem_cons_self ..)) (Sg.app (by unfold Sg; decide +kernel) (sg_join (q :: r) fun x hx => h x (List.mem_cons_of_mem _ hx)))
theorem sg_txt {M : Nat} : ∀ t : Tm, t.Ok M → Sg (tl t.txt) := by
  refine Tm.ind (fun n k => ?_) (fun j k => ?_) fun h ts ih k => ?_
  · show Sg (tl (nt n))
    rw [tl_nt]
    exact sg_nums n
  · cases k with
    | arg hk =>
      show Sg (tl (letter j))
      match j, hk with
      | 0, _ => unfold Sg; decide +kernel
      | 1, _ => unfold Sg; decide +kernel
      | 2, _ => unfold Sg; decide +kernel
      | 3, _ => unfold Sg; decide +kernel
      | n + 4, h => omega
  · cases k with
    | node hh hks =>
      rw [node_txt, tl_append, tl_append, tl_join, show tl (" " : Str) = [32] by decide +kernel]
      refine Sg.app (Sg.app (by unfold Sg; decide +kernel) (sg_join _ fun x hx => ?_)) (by unfold Sg; decide +kernel)
      obtain ⟨s, hs, rfl⟩ := List.mem_map.mp hx
      rcases List.mem_cons.mp hs with rfl | hs
      · exact sg_hd hh
      · obtain ⟨u, hu, rfl⟩ := List.mem_map.mp hs
        exact ih u hu (hks u hu)
end V


set_option Elab.async false
set_option linter.all false
set_option maxRecDepth 100000
set_option maxHeartbeats 400000
namespace V
open PySem PySem.Spec PyProof.Rows L2 Evl TL NumText
/-! ### the law's own text of a term -/
def spTx (n : Nat) : Sp := fun vs H Q _ => ∃ (v : V) (t : Tm) (M : Nat), vs = [v] ∧ TmAt H v t ∧ t.Ok M ∧ M ≤ 1000000 ∧ t.deep ≤ n ∧ t.size ≤ 1000 ∧ ∀ (H' : Hp), Ex H H' → Q (.str t.txt) H'
theorem abcd_sign : ∀ k : Nat, k ≤ 3 → ∃ c : Nat, atI ("abcd" : Str).cps.toList (k : Int) = some c ∧ (⟨#[c]⟩ : Str) = letter k
  | 0, _ => ⟨97, by decide +kernel, by decide +kernel⟩
  | 1, _ => ⟨98, by decide +kernel, by decide +kernel⟩
  | 2, _ => ⟨99, by decide +kernel, by decide +kernel⟩
  | 3, _ => ⟨100, by decide +kernel, by decide +kernel⟩
  | n + 4, h => by omega
theorem wd_num {h : Hd} {ts : List Tm} : decide ((Tm.node h ts).word = "num") = false ∧ decide ((Tm.node h ts).word = "arg") = false := by
  cases h with
  | op o => refine ⟨?_, ?_⟩; · show decide (o.str = "num") = false; cases o <;> decide +kernel
            · show decide (o.str = "arg") = false; cases o <;> decide +kernel
  | call m => exact ⟨(by decide +kernel : decide (("call" : Str) = "num") = false), (by decide +kernel : decide (("call" : Str) = "arg") = false)⟩
  | ring p => exact ⟨(by decide +kernel : decide (("ring" : Str) = "num") = false), (by decide +kernel : decide (("ring" : Str) = "arg") = false)⟩
theorem cut_one_off (v : V) (ws : List V) : cutV (v :: ws) (some 1) none = ws := by
  show cutV (v :: ws) (some ((1 : Nat) : Int)) none = ws
  unfold cutV
  rw [HT.sIx_nat, HT.sIx_none, List.length_cons, Nat.min_eq_left (by omega)]
  show (List.take (ws.length + 1 - 1) ws) = ws
  exact List.take_length
end V


set_option Elab.async false
set_option linter.all false
set_option maxRecDepth 100000
set_option maxHeartbeats 4000000
namespace V
open PySem PySem.Spec PyProof.Rows L2 Evl TL NumText
/-! ### marks of numbers and of texts -/
def sgAt (d : Nat) : Nat := sgS.cps.toList.getD d 0
/-- so many figures ahead of these -/
def mkL : Nat → Nat → List Nat → List Nat
  | 0, _, acc => acc
  | k + 1, n, acc => mkL k (n / 36) (sgAt (n % 36) :: acc)
def mkS (n : Nat) : Str := ⟨(mkL 6 n []).toArray⟩
def sgIx (c : Nat) : Nat := sgS.cps.toList.findIdx (· == c)
def hashL (l : List Nat) (n : Nat) : Nat := l.foldl (fun a c => (a * 131 + sgIx c + 1) % 998244353) n
def spMarkN : Sp := fun vs H Q _ => ∃ n : Nat, vs = [.int (n : Int)] ∧ n < 2147483648 ∧ ∀ (H' : Hp), Ex H H' → Q (.str (mkS n)) H'
def spMarkT : Sp := fun vs H Q _ => ∃ z : Str, vs = [.str z] ∧ z.length ≤ 1000000 ∧ (∀ c ∈ tl z, c ∈ tl sgS) ∧ ∀ (H' : Hp), Ex H H' → Q (.str (mkS (hashL (tl z) 7))) H'
theorem sg_at : ∀ d : Nat, d < 36 → atI sgS.cps.toList (d : Int) = some (sgAt d) := by
  intro d hd
  refine atI_nat ?_
  have all : ∀ d : Nat, d < 36 → sgS.cps.toList[d]? = some (sgAt d) := by decide +kernel
  exact all d hd
theorem sg_ix : ∀ c ∈ tl sgS, ∃ rest, Builtin.Str.occurrences sgS ⟨#[c]⟩ 0 sgS.length 1 = sgIx c :: rest := by
  intro c hc
  have all : ∀ c ∈ tl sgS, (Builtin.Str.occurrences sgS ⟨#[c]⟩ 0 sgS.length 1).head? = some (sgIx c) := by decide +kernel
  have h := all c hc
  cases e : Builtin.Str.occurrences sgS ⟨#[c]⟩ 0 sgS.length 1 with
  | nil =>
    rw [e] at h
    cases h
  | cons x r =>
    rw [e] at h
    cases h
    exact ⟨r, rfl⟩
theorem sg_ix_lt : ∀ c ∈ tl sgS, sgIx c < 43 := by decide +kernel
theorem one_append (c : Nat) (l : List Nat) : (⟨#[c]⟩ : Str) ++ ⟨l.toArray⟩ = ⟨(c :: l).toArray⟩ := ext_tl (by rw [tl_append]; rfl)
end V


set_option Elab.async false
set_option linter.all false
set_option maxRecDepth 100000
set_option maxHeartbeats 400000
namespace V
open PySem PySem.Spec PyProof.Rows L2 Evl TL NumText
/-! ### the law's own marks and depths -/
theorem sg_at43 : ∀ d : Nat, d < 36 → atI sgS.cps.toList (d : Int) = some (sgAt d) := sg_at
end V


set_option Elab.async false
set_option linter.all false
set_option maxRecDepth 100000
set_option maxHeartbeats 400000
namespace V
open PySem PySem.Spec PyProof.Rows L2 Evl TL NumText
/-- the sum of a text, from one on -/
def spSum : Sp := fun vs H Q _ => ∃ (z : Str) (n : Nat), vs = [.str z, .int (n : Int)] ∧ (∀ c ∈ tl z, c ∈ tl sgS) ∧ ∀ (H' : Hp), Ex H H' → Q (.int ((hashL (tl z) n : Nat) : Int)) H'
end V


set_option Elab.async false
set_option linter.all false
set_option maxRecDepth 100000
set_option maxHeartbeats 400000
namespace V
open PySem PySem.Spec PyProof.Rows L2 Evl TL NumText
/-- a text so many times -/
def rep (x : Str) (n : Nat) : Str := ⟨((List.replicate n (tl x)).flatten).toArray⟩
theorem tl_rep (x : Str) (n : Nat) : tl (rep x n) = (List.replicate n (tl x)).flatten := rfl
theorem rep_fold (x : Str) (n : Nat) : (⟨(List.replicate n x.cps).foldl (· ++ ·) #[]⟩ : Str) = rep x n := by
  refine ext_tl ?_
  rw [tl_rep]
  have h : ∀ (k : Nat) (acc : Array Nat), ((List.replicate k x.cps).foldl (· ++ ·) acc).toList = acc.toList ++ (List.replicate k (tl x)).flatten := by
    intro k
    induction k with
    | zero => intro acc; show acc.toList = acc.toList ++ []; rw [List.append_nil]
    | succ k ih =>
      intro acc
      rw [List.replicate_succ, List.foldl_cons, ih, Array.toList_append, List.replicate_succ, List.flatten_cons, List.append_assoc]
  exact h n #[]
theorem op_mulS {X : Cx} : OpR X (binaryOp .Mult) (fun x y H Q => ∃ (a : Str) (n : Nat), x = .str a ∧ y = .int (n : Int) ∧ a.length ≤ 1000 ∧ n ≤ 1000 ∧ Q (.str (rep a n)) H) := by
  intro pins s σ H x y v u Q I rx ry h
  obtain ⟨a, n, rfl, rfl, ha, hn, q⟩ := h
  obtain ⟨t, rfl⟩ := rx
  obtain ⟨t', rfl⟩ := ry
  refine PySem.P.mul_str ?_ (fun h1 h2 => ?_) (fun h1 h2 => ?_) ?_
  · rw [decide_eq_false (by omega), decide_eq_false (by omega)]
    rfl
  · have hm : (a.length : Int) * (n : Int) ≤ 2 ^ 63 - 1 := by
      have h3 : a.length * n ≤ 1000 * 1000 := Nat.mul_le_mul ha hn
      have h4 : ((a.length * n : Nat) : Int) = (a.length : Int) * (n : Int) := Int.natCast_mul ..
      omega
    have := (Int.le_ediv_iff_mul_le (a := (a.length : Int)) (b := 2 ^ 63 - 1) (c := (n : Int)) (by omega)).mpr hm
    omega
  · have h3 : a.length * n ≤ 1000 * 1000 := Nat.mul_le_mul ha hn
    exact decide_eq_false (by
      have big : sizeLine = 16777216 := sizeLine_eq
      show ¬ (a.length * n > sizeLine)
      omega)
  · have give : ∀ z : Str, z = rep a n → ∀ tok, ∃ v H', L2.Inv X pins σ H' { s with toks := s.toks + 1 } ∧ L2.RelV v (Value.str z tok) ∧ Q v H' := fun z hz tok => ⟨.str z, H, I.tok _, ⟨_, rfl⟩, by rw [hz]; exact q⟩
    split
    · rename_i h1
      have n0 : n = 0 := by omega
      subst n0
      exact ⟨by decide, give _ (ext_tl rfl) _⟩
    · split
      · rename_i h1 h2
        refine ⟨.str a, H, I, ⟨_, rfl⟩, ?_⟩
        have e : a = rep a n := by
          refine ext_tl ?_
          rw [tl_rep]
          rw [Bool.or_eq_true, beq_iff_eq, beq_iff_eq] at h2
          rcases h2 with h2 | h2
          · have n1 : n = 1 := by omega
            subst n1
            show tl a = tl a ++ []
            rw [List.append_nil]
          · rw [len_tl] at h2
            have e0 : tl a = [] := List.length_eq_zero_iff.mp h2
            rw [e0]
            clear h1 ha hn q give e0
            induction n with
            | zero => rfl
            | succ n ih =>
              rw [List.replicate_succ, List.flatten_cons]
              exact ih
        rw [← e] at q
        exact q
      · refine ⟨?_, give _ (rep_fold a n) _⟩
        show (⟨(List.replicate n a.cps).foldl (· ++ ·) #[]⟩ : Str).length ≤ sizeLine
        rw [rep_fold, len_tl, tl_rep, List.length_flatten, List.map_replicate, List.sum_replicate_nat, ← len_tl]
        have h3 : n * a.length ≤ 1000 * 1000 := Nat.mul_le_mul hn ha
        have big : sizeLine = 16777216 := sizeLine_eq
        omega
end V


set_option Elab.async false
set_option linter.all false
set_option maxRecDepth 100000
set_option maxHeartbeats 400000
namespace V
open PySem PySem.Spec PyProof.Rows L2 Evl TL NumText
/-! ### drawn texts -/
theorem sg_rep {x : Str} (h : Sg (tl x)) (n : Nat) : Sg (tl (rep x n)) := fun c hc => by
  rw [tl_rep] at hc
  obtain ⟨l, hl, hc2⟩ := List.mem_flatten.mp hc
  rw [List.eq_of_mem_replicate hl] at hc2
  exact h c hc2
theorem rep_len (x : Str) (n : Nat) : (rep x n).length = n * x.length := by
  rw [len_tl, tl_rep, List.length_flatten, List.map_replicate, List.sum_replicate_nat, ← len_tl]
theorem sg_any : ∀ d : Nat, d < 43 → ∃ c : Nat, atI sgS.cps.toList (d : Int) = some c ∧ c ∈ tl sgS := by
  intro d hd
  have all : ∀ d : Nat, d < 43 → ∃ c ∈ tl sgS, sgS.cps.toList[d]? = some c := by decide +kernel
  obtain ⟨c, h1, h2⟩ := all d hd
  exact ⟨c, atI_nat h2, h1⟩
def spSomeText : Sp := fun vs H Q _ => ∃ (b : Addr) (n : Nat), vs = [.ref b] ∧ Box H b (n + 1000) ∧ ∀ (H' : Hp) (z : Str), But b H H' → Box H' b n → z.length ≤ 900 → Sg (tl z) → Q (.str z) H'
end V


set_option Elab.async false
set_option linter.all false
set_option maxRecDepth 100000
set_option maxHeartbeats 400000
namespace V
open PySem PySem.Spec PyProof.Rows L2 Evl TL NumText

end V


set_option Elab.async false
set_option linter.all false
set_option maxRecDepth 100000
set_option maxHeartbeats 400000
namespace V
open PySem PySem.Spec PyProof.Rows L2
/-! ### text[::-1] -/
def revS (z : Str) : Str := ⟨(z.cps.toList.reverse).toArray⟩
def tRevS (te : TE) : TE := fun σ H Q => te σ H fun x H1 => ∃ z, x = .str z ∧ z.length ≤ sizeLine ∧ Q (.str (revS z)) H1
theorem rev_is (x : Str) (u : Tok) : PySem.Txt.sliceBy x none none (-1, u) = revS x := by
  refine Str.ext' (Array.toList_inj.mp ((step_rev_list x u).trans ?_))
  show _ = x.cps.toList.reverse
  refine List.ext_getElem? fun i => ?_
  by_cases h : i < x.length
  · have h2 : i < x.cps.toList.length := by rw [Array.length_toList]; exact h
    rw [List.getElem?_map, List.getElem?_range h, List.getElem?_reverse h2, Array.length_toList]
    show some (x.cps.getD (x.length - 1 - i) 0) = _
    have h3 : x.cps.size - 1 - i < x.cps.toList.length := by
      rw [Array.length_toList]
      have : i < x.cps.size := h
      omega
    rw [List.getElem?_eq_getElem h3]
    have h4 : x.length - 1 - i < x.cps.size := by have : x.cps.size = x.length := rfl; omega
    rw [Array.getD_eq_getD_getElem?, Array.getElem?_eq_getElem h4]
    rfl
  · have h2 : ¬ i < x.cps.toList.length := by rw [Array.length_toList]; exact h
    rw [List.getElem?_eq_none (by rw [List.length_map, List.length_range]; omega), List.getElem?_eq_none (by rw [List.length_reverse]; omega)]
theorem pe_revS {X : Cx} {e : Expr} {te : TE} {k : Nat} {p1 p2 p3 pos : Pos} (he : PE X e te) : PE X (.Subscript e (.Slice none none (some (.UnaryOp .USub (.Constant (.int 1) k p1) p2)) p3) pos) (tRevS te) := by
  refine ⟨fun pins s σ H Q I h => ?_⟩
  refine Subscript_ (thn (he.run pins s σ H _ I h) fun v s1 ⟨x, H1, I1, r1, q1⟩ => ?_)
  obtain ⟨z, ex, hz, q⟩ := q1
  subst ex
  obtain ⟨tz, rfl⟩ := r1
  have hst : PO X (some (.UnaryOp .USub (.Constant (.int 1) k p1) p2)) (tPart (tUn (rU fun i => .int (-i)) (tC (.int 1)))) := po_some (pe_un un_neg pe_int)
  refine wpAny_Slice (thn (po_none.run pins s1 σ H1 (fun o H2 => o = none ∧ H2 = H1) I1 ⟨rfl, rfl⟩) fun vl s2 ⟨l, H2, I2, pl, el, e2⟩ => ?_)
  subst el e2
  refine thn (po_none.run pins s2 σ H2 (fun o H3 => o = none ∧ H3 = H2) I2 ⟨rfl, rfl⟩) fun vu s3 ⟨u, H3, I3, pu, eu, e3⟩ => ?_
  subst eu e3
  refine thn (hst.run pins s3 σ H3 (fun o H4 => o = some (-1) ∧ H4 = H3) I3 ⟨1, rfl, -1, rfl, rfl, rfl⟩) fun vs s4 ⟨o, H4, I4, ps, eo, e4⟩ => ?_
  subst eo e4
  have I5 : L2.Inv X pins σ H4 { s4 with heap := s4.heap.push { cls := .type "slice", data := .fields #[vl, vu, vs] } } := I4.kept (t' := s4.toks) fun b ob q => Heap.get?_push_of_some _ q
  obtain ⟨l0, rfl, hl0⟩ := IsPart.raw pl
  obtain ⟨u0, rfl, hu0⟩ := IsPart.raw pu
  obtain ⟨t0, rfl, ht0⟩ := IsPart.raw ps
  have l0n : l0 = none := by cases l0 with | none => rfl | some _ => cases hl0
  have u0n : u0 = none := by cases u0 with | none => rfl | some _ => cases hu0
  subst l0n u0n
  obtain ⟨tt, rfl⟩ : ∃ tt, t0 = some (-1, tt) := by
    cases t0 with
    | none => cases ht0
    | some y =>
      obtain ⟨y1, y2⟩ := y
      cases ht0
      exact ⟨y2, rfl⟩
  show wpAny (model X.prog X.w) X.A (subscriptTail e (.Slice none none (some (.UnaryOp .USub (.Constant (.int 1) k p1) p2)) p3) (.str z tz) (.ref s4.heap.objs.size)) (EP X pins σ Q) X.xe { s4 with heap := s4.heap.push { cls := .type "slice", data := .fields #[partValue none, partValue none, partValue (some (-1, tt))] } }
  refine tail_any (T := "str") (ops := [.str z tz, .ref s4.heap.objs.size]) (typeIs_str _ _ _) (PySem.F.slot_str_getitem.lookup) ?_ (by with_unfolding_all rfl)
  refine wpAny_getItem_str_slice (l := none) (u := none) (st := some (-1, tt)) ⟨_, Heap.get?_push_size _ rfl, rfl, rfl⟩ rfl ?_
  have hr : (revS z).length ≤ sizeLine := by
    show (z.cps.toList.reverse).toArray.size ≤ sizeLine
    rw [List.size_toArray, List.length_reverse, Array.length_toList]
    exact hz
  have hq := rev_is z tt
  unfold PySem.Txt.sliceBy at hq
  have h1 : ¬ (((((some ((-1 : Int), tt)).map (·.1)).getD 1 == 1) && ((slicePicked z none none (some (-1, tt))).length == z.length)) = true) := by
    have : ((((some ((-1 : Int), tt)).map (·.1)).getD 1 == 1)) = false := rfl
    rw [this]; simp
  rw [if_neg h1] at hq
  unfold sliceMade
  rw [if_neg h1, hq]
  exact ⟨hr, .str (revS z), H4, I5.tok _, ⟨_, rfl⟩, q⟩
end V


set_option Elab.async false
set_option linter.all false
set_option maxRecDepth 100000
set_option maxHeartbeats 400000
namespace V
open PySem PySem.Spec PyProof.Rows L2
namespace B36
open PySem.NumText PySem.Calls
def IsF (c : Nat) : Prop := (48 ≤ c ∧ c ≤ 57) ∨ (97 ≤ c ∧ c ≤ 122)
def hv (c : Nat) : Nat := if c ≤ 57 then c - 48 else c - 87
def num (l : List Nat) : Nat := l.foldl (fun a c => a * 36 + hv c) 0
theorem hv_lt {c : Nat} (h : IsF c) : hv c < 36 := by
  unfold IsF at h
  unfold hv
  split <;> omega
theorem digit_f {c : Nat} (h : IsF c) : digit? c = some (hv c) := by
  unfold IsF at h
  unfold digit? hv
  rcases h with h | h
  · rw [if_pos (Hx.bb h.1 h.2), if_pos h.2]
  · rw [if_neg (Hx.bn (show ¬ (48 ≤ c ∧ c ≤ 57) by omega)), if_pos (Hx.bb h.1 h.2), if_neg (show ¬ c ≤ 57 by omega)]
theorem rng {c : Nat} (h : IsF c) : 48 ≤ c ∧ c ≤ 122 ∧ c ≠ 95 := by
  unfold IsF at h
  exact ⟨by omega, by omega, by omega⟩
theorem step_f {ds : Array Nat} {b : Bool} {c : Nat} (h : IsF c) : PySem.NumText.step 36 (ds, b) c = some (ds.push (hv c), true) := by
  have hr := rng h
  unfold PySem.NumText.step
  rw [if_neg (by rw [beq_iff_eq]; exact hr.2.2), digit_f h]
  exact if_pos (hv_lt h)
theorem foldl_f : ∀ (cs : List Nat) (ds : Array Nat), (∀ c ∈ cs, IsF c) → cs.foldlM (PySem.NumText.step 36) (ds, true) = some (cs.foldl (fun acc c => acc.push (hv c)) ds, true)
  | [], _, _ => rfl
  | c :: cs, ds, h => by
    rw [List.foldlM_cons, step_f (h c (List.mem_cons_self ..))]
    show cs.foldlM (PySem.NumText.step 36) (ds.push (hv c), true) = _
    exact foldl_f cs (ds.push (hv c)) fun d hd => h d (List.mem_cons_of_mem _ hd)
theorem digits_f {cs : List Nat} (h : ∀ c ∈ cs, IsF c) (hne : cs ≠ []) : digits? 36 cs = some (cs.foldl (fun acc c => acc.push (hv c)) #[]) := by
  cases cs with
  | nil => exact absurd rfl hne
  | cons c cs =>
    unfold digits?
    rw [List.foldlM_cons, step_f (h c (List.mem_cons_self ..))]
    show (cs.foldlM (PySem.NumText.step 36) ((#[] : Array Nat).push (hv c), true)).bind _ = _
    rw [foldl_f cs _ fun d hd => h d (List.mem_cons_of_mem _ hd)]
    rfl
theorem push_f : ∀ (cs : List Nat) (ds : Array Nat), (cs.foldl (fun acc c => acc.push (hv c)) ds).foldl (fun acc d => acc * 36 + d) 0 = cs.foldl (fun a c => a * 36 + hv c) (ds.foldl (fun acc d => acc * 36 + d) 0)
  | [], _ => rfl
  | c :: cs, ds => by
    rw [List.foldl_cons, push_f cs (ds.push (hv c)), List.foldl_cons]
    congr 1
    simp
theorem dropB {cs : List Nat} (h : ∀ c ∈ cs, IsF c) : cs.dropWhile blank = cs := by
  cases cs with
  | nil => rfl
  | cons c cs => exact dropWhile_of (by have := rng (h c (List.mem_cons_self ..)); omega)
theorem signH {cs : List Nat} (h : ∀ c ∈ cs, IsF c) : sign cs = (false, cs) := by
  cases cs with
  | nil => rfl
  | cons c cs =>
    have := rng (h c (List.mem_cons_self ..))
    exact sign_of (by omega) (by omega)
theorem prefH {cs : List Nat} : ∀ p, NumText.prefix? cs = some p → p ≠ 36 := by
  intro p hp
  unfold NumText.prefix? at hp
  split at hp
  · split at hp
    · cases hp; decide
    · split at hp
      · cases hp; decide
      · split at hp
        · cases hp; decide
        · cases hp
  · cases hp
theorem basedH {cs : List Nat} : based 36 cs = (36, false, cs) := by
  have hp := prefH (cs := cs)
  unfold based
  cases e : NumText.prefix? cs with
  | none => rfl
  | some p =>
    have hne : ((36 : Nat) == 0 || (36 : Nat) == p) = false := Bool.or_eq_false_iff.mpr ⟨rfl, beq_eq_false_iff_ne.mpr fun z => hp p e z.symm⟩
    show (if ((36 : Nat) == 0 || (36 : Nat) == p) = true then _ else (36, false, cs)) = (36, false, cs)
    rw [hne] <;> rfl
theorem read_f {cs : List Nat} (h : ∀ c ∈ cs, IsF c) (hne : cs ≠ []) : (int_private% "readNumeral") 0 36 cs = (int_private% "Numeral.value") ((num cs : Nat) : Int) := by
  have hr : ∀ c ∈ cs.reverse, IsF c := fun c hc => h c (List.mem_reverse.mp hc)
  refine (readNumeral_eq 0 36 cs).trans ?_
  rw [dropB h, signH h]
  show judge 0 false (based 36 cs).1 (based 36 cs).2.1 (digits? (based 36 cs).1 (((based 36 cs).2.2.reverse.dropWhile blank).reverse)) = _
  rw [basedH]
  show judge 0 false 36 false (digits? 36 ((cs.reverse.dropWhile blank).reverse)) = _
  rw [dropB hr, List.reverse_reverse, digits_f h hne]
  show (int_private% "Numeral.value") (((cs.foldl (fun acc c => acc.push (hv c)) (#[] : Array Nat)).foldl (fun acc d => acc * 36 + d) 0 : Nat) : Int) = _
  have z : (#[] : Array Nat).foldl (fun acc d => acc * 36 + d) 0 = 0 := by first | rfl | simp
  rw [push_f, z] <;> rfl
theorem seen_f {x : Str} (h : ∀ c ∈ x.cps.toList, IsF c) : numTextOf x = x.cps.toList ∧ numSeenOf x = x.cps.toList := by
  have e1 : numTextOf x = x.cps.toList := by
    refine if_pos ?_
    rw [← Array.all_toList, List.all_eq_true]
    intro c hc
    have := rng (h c hc)
    exact decide_eq_true (by omega)
  refine ⟨e1, ?_⟩
  show (numTextOf x).takeWhile _ = _
  rw [e1]
  refine takeWhile_all fun c hc => ?_
  have := rng (h c hc)
  exact bne_iff_ne.mpr (by omega)
set_option maxHeartbeats 4000000 in
theorem gives_f {x : PySem.Str} {u t : Tok} (hl : x.length ≤ 640) (h : ∀ c ∈ x.cps.toList, IsF c) (hne : x.cps.toList ≠ []) :
    Gives (Builtin.«int.__new__» ⟨[.type "int", .str x u, .int 36 t], []⟩) (.int ((num x.cps.toList : Nat) : Int)) :=
  .of_wp fun M A E s Q hQ => by
    obtain ⟨hp, g, d, tk, os⟩ := s
    have f1 := F.conv_sub_int
    have f2 := F.madeHere_int
    have f6 : typeOf (.str x u) = pure (.type "str") := rfl
    obtain ⟨e1, e2⟩ := seen_f h
    have hs : (numSeenOf x).length ≤ 640 := by
      rw [e2, Array.length_toList]
      exact hl
    have hr : (int_private% "readNumeral") 0 36 (numSeenOf x) = (int_private% "Numeral.value") ((num x.cps.toList : Nat) : Int) := by
      rw [e2]
      exact read_f h hne
    have ha : ((numSeenOf x).length == (numTextOf x).length) = true := by
      rw [e1, e2]
      exact beq_self_eq_true _
    have hk := Hx.Hid.mk (And.intro hs (And.intro hr ha))
    clear hs hr ha e1 e2 hl hne h
    repeat (any_goals (first
      | assumption
      | ((with_reducible show wpAny _ _ ((int_private% "intFromText") _ _ _) _ _ _); refine Hx.wp_textB hk.out.1 hk.out.2.1 hk.out.2.2 ?_)
      | wp_step))
    all_goals first | exact ⟨_, rfl, hQ⟩ | skip
theorem call_f {prog : Program} {w : World} {A : Around} {E : Value → Shared → Prop} {s : Shared} {Q : Value → Shared → Prop} {x : PySem.Str} {u t : Tok} (hl : x.length ≤ 640) (h : ∀ c ∈ x.cps.toList, IsF c) (hne : x.cps.toList ≠ [])
    (hQ : Q (.int ((num x.cps.toList : Nat) : Int) s.toks) { s with toks := s.toks + 1 }) : wpAny (model prog w) A (call (.type "int") [.str x u, .int 36 t]) Q E s :=
  callType_new F.called_int F.newNe_int (Hx.typeCall_int_2 _ _) (Hx.newCall_int_2 _ _) (fun obj => F.initArgs_range_2 obj _ _) F.entry_int_new (gives_f hl h hne).meets (show (Made.int ((num x.cps.toList : Nat) : Int)).post _ s from ⟨rfl, hQ⟩)
end B36
/-- int(t, 36) -/
def rInt36 : List V → Hp → VK → Prop := fun xs H Q => ∃ z : Str, xs = [.str z, .int 36] ∧ z.cps.toList ≠ [] ∧ z.length ≤ 640 ∧ (∀ c ∈ z.cps.toList, B36.IsF c) ∧ Q (.int ((B36.num z.cps.toList : Nat) : Int)) H
theorem call_int_36 {X : Cx} : CallR X (.type "int") rInt36 := by
  intro pins s σ H xs us Q I r h
  obtain ⟨z, rfl, hne, hl, hx, q⟩ := h
  obtain ⟨u, w', rfl, r1, r2⟩ := vals2 r
  obtain ⟨t1, rfl⟩ := r1
  obtain ⟨t2, rfl⟩ := r2
  exact B36.call_f hl hx hne ⟨.int ((B36.num z.cps.toList : Nat) : Int), H, I.tok _, ⟨_, rfl⟩, q⟩
end V


set_option Elab.async false
set_option linter.all false
set_option maxRecDepth 100000
set_option maxHeartbeats 400000
namespace V
open PySem PySem.Spec PyProof.Rows L2 Evl TL NumText
/-! ### a mark, read as a number -/
theorem sgAt_f : ∀ d : Nat, d < 36 → B36.IsF (sgAt d) ∧ B36.hv (sgAt d) = d ∧ sgAt d ∈ sgM.cps.toList := by
  intro d hd
  have all : ∀ d : Nat, d < 36 → ((48 ≤ sgAt d ∧ sgAt d ≤ 57) ∨ (97 ≤ sgAt d ∧ sgAt d ≤ 122)) ∧ B36.hv (sgAt d) = d ∧ sgAt d ∈ sgM.cps.toList := by decide +kernel
  exact all d hd
theorem mkL_len : ∀ (k n : Nat) (acc : List Nat), (mkL k n acc).length = k + acc.length
  | 0, _, acc => (Nat.zero_add _).symm
  | k + 1, n, acc => by
    show (mkL k (n / 36) (sgAt (n % 36) :: acc)).length = _
    rw [mkL_len k, List.length_cons]
    omega
theorem mkL_all {p : Nat → Prop} (hp : ∀ d, d < 36 → p (sgAt d)) : ∀ (k n : Nat) (acc : List Nat), (∀ c ∈ acc, p c) → ∀ c ∈ mkL k n acc, p c
  | 0, _, acc, h => h
  | k + 1, n, acc, h => mkL_all hp k (n / 36) (sgAt (n % 36) :: acc) fun c hc => by
    rcases List.mem_cons.mp hc with rfl | hc
    · exact hp _ (Nat.mod_lt _ (by decide))
    · exact h c hc
theorem mkL_num : ∀ (k n : Nat) (acc : List Nat), (mkL k n acc).foldl (fun a c => a * 36 + B36.hv c) 0 = acc.foldl (fun a c => a * 36 + B36.hv c) (n % 36 ^ k)
  | 0, n, acc => by
    show acc.foldl _ 0 = acc.foldl _ (n % 1)
    rw [Nat.mod_one]
  | k + 1, n, acc => by
    show (mkL k (n / 36) (sgAt (n % 36) :: acc)).foldl _ 0 = _
    rw [mkL_num k, List.foldl_cons, (sgAt_f (n % 36) (Nat.mod_lt _ (by decide))).2.1]
    congr 1
    rw [Nat.pow_succ, Nat.mul_comm (36 ^ k) 36, Nat.mod_mul]
    omega
theorem mk_num {n : Nat} (h : n < 2176782336) : B36.num (mkS n).cps.toList = n := by
  have e := mkL_num 6 n []
  have e2 : n % 36 ^ 6 = n := Nat.mod_eq_of_lt (by omega)
  rw [e2] at e
  exact e
theorem mk_inj {n m : Nat} (hn : n < 2176782336) (hm : m < 2176782336) (h : mkS n = mkS m) : n = m := by
  rw [← mk_num hn, h, mk_num hm]
theorem mk_len (n : Nat) : (mkS n).length = 6 := by
  show (mkL 6 n []).toArray.size = 6
  rw [List.size_toArray, mkL_len]
  rfl
theorem mk_ne (n : Nat) : (mkS n).cps.toList ≠ [] := fun z => by
  have := mk_len n
  have e : (mkS n).length = (mkS n).cps.toList.length := Array.length_toList.symm
  rw [z] at e
  rw [e] at this
  cases this
theorem mk_f (n : Nat) : ∀ c ∈ (mkS n).cps.toList, B36.IsF c := mkL_all (fun d hd => (sgAt_f d hd).1) 6 n [] (fun c h => by cases h)
theorem mk_isMark (n : Nat) : isMarkD (.str (mkS n)) = true := by
  show ((mkS n).length == 6 && (mkS n).cps.toList.all fun c => decide (c ∈ sgM.cps.toList)) = true
  rw [mk_len, Bool.and_eq_true]
  exact ⟨rfl, List.all_eq_true.mpr fun c hc => decide_eq_true (mkL_all (fun d hd => (sgAt_f d hd).2.2) 6 n [] (fun c h => by cases h) c hc)⟩
theorem hash_lt : ∀ (l : List Nat) (n : Nat), n < 998244353 → hashL l n < 998244353
  | [], n, h => h
  | c :: l, n, h => hash_lt l _ (Nat.mod_lt _ (by decide))
theorem hash_app (l k : List Nat) (n : Nat) : hashL (l ++ k) n = hashL k (hashL l n) := List.foldl_append
theorem hash_one (l : List Nat) (c n : Nat) : hashL (l ++ [c]) n = (hashL l n * 131 + sgIx c + 1) % 998244353 := by
  rw [hash_app]
  rfl
end V


set_option Elab.async false
set_option linter.all false
set_option maxRecDepth 100000
set_option maxHeartbeats 4000000
namespace V
open PySem PySem.Spec PyProof.Rows L2 Evl TL NumText
/-! ### alike, kind by kind -/
inductive DepN : Nat → PyData → Prop where
  | int {n : Nat} (i : Int) : DepN (n + 1) (.int i)
  | str {n : Nat} (x : Str) : DepN (n + 1) (.str x)
  | lst {n : Nat} {ds : List PyData} : ds.length ≤ 1000 → (∀ d ∈ ds, DepN n d) → DepN (n + 1) (.list ds)
  | tup {n : Nat} {ds : List PyData} : ds.length ≤ 1000 → (∀ d ∈ ds, DepN n d) → DepN (n + 1) (.tuple ds)
theorem DepN.up : ∀ {n m : Nat} {d : PyData}, DepN n d → n ≤ m → DepN m d
  | n + 1, m + 1, _, .int i, h => .int i
  | n + 1, m + 1, _, .str i, h => .str i
  | n + 1, m + 1, _, .lst l k, h => .lst l fun d hd => (k d hd).up (Nat.le_of_succ_le_succ h)
  | n + 1, m + 1, _, .tup l k, h => .tup l fun d hd => (k d hd).up (Nat.le_of_succ_le_succ h)
def isLstD : PyData → Bool
  | .list _ => true
  | _ => false
theorem kit_lst : ∀ d : PyData, kitB (kind d) "list" = some (isLstD d)
  | .none => (by decide +kernel : kitB "NoneType" "list" = some false)
  | .bool _ => (by decide +kernel : kitB "bool" "list" = some false)
  | .int _ => (by decide +kernel : kitB "int" "list" = some false)
  | .str _ => (by decide +kernel : kitB "str" "list" = some false)
  | .list _ => (by decide +kernel : kitB "list" "list" = some true)
  | .tuple _ => (by decide +kernel : kitB "tuple" "list" = some false)
  | .dict _ => (by decide +kernel : kitB "dict" "list" = some false)
theorem kit_two (K : PySem.W.Frag) (d : PyData) : PySem.W.kitAny K (.type (kind d)) [.type "list", .type "tuple"] = some (isLstD d || isTupD d) := by
  refine kitAny_cons (kit_ty (kit_lst d)) (fun h => ?_) (fun h => by rw [h]; rfl)
  rw [h]
  refine kitAny_cons (kit_ty (kit_tup d)) (fun h => ?_) (fun h => by rw [h]; rfl)
  rw [h]
  rfl
theorem walk_zip2 {K : PySem.W.Frag} {a b : Addr} {us ws : List V} (hl : us.length = ws.length) : Walk (RZ.ItzT K a b) us.length (fun H => SqT K H a us ∧ SqT K H b ws) (YPair (fun i => us[i]?) (fun i => ws[i]?)) := by
  refine ⟨fun i _ hi g => ?_, fun _ g => ⟨us, ws, g.1, g.2, .inl (Nat.le_refl _)⟩, fun i H v H' _ g e => ?_⟩
  · exact ⟨us, ws, us[i], ws[i]'(by omega), g.1, g.2, List.getElem?_eq_getElem hi, List.getElem?_eq_getElem (by omega)⟩
  · obtain ⟨t, u, c, k1, k2, k3, k4, k5⟩ := e
    exact ⟨t, u, c, k1, k2, k3, k4 us g.1, k5 ws g.2⟩
def spSame (K : PySem.W.Frag) (n : Nat) : Sp := fun vs H Q _ => ∃ (v w : V) (d : PyData), vs = [v, w] ∧ Dp K H v d ∧ Dp K H w d ∧ DepN n d ∧ ∀ (H' : Hp), Ex H H' → Q (.bl true) H'
end V


set_option Elab.async false
set_option linter.all false
set_option maxRecDepth 100000
set_option maxHeartbeats 4000000
namespace V
open PySem PySem.Spec PyProof.Rows L2
/-! ### the text -/
def topS (i : Nat) : Stmt := PySem.Challenge.pw_contentnames_k05_marks_of_texts.main.body.getD i (.Pass ⟨0, 0, 0, 0⟩)
abbrev s_mark_of_text : Stmt := topS 7
abbrev s_mark_of_number : Stmt := topS 8
abbrev s_is_mark : Stmt := topS 10
abbrev s__law_box : Stmt := topS 12
abbrev s__law_take : Stmt := topS 13
abbrev s__law_folded : Stmt := topS 14
abbrev s__law_same : Stmt := topS 15
abbrev s__law_number : Stmt := topS 16
abbrev s__law_term : Stmt := topS 17
abbrev s__law_some_mark : Stmt := topS 18
abbrev s__law_any_term : Stmt := topS 19
abbrev s__law_text : Stmt := topS 20
abbrev s__law_mark : Stmt := topS 21
abbrev s__law_some_text : Stmt := topS 22
abbrev s__law_sum : Stmt := topS 23
abbrev s__law_right : Stmt := topS 24
abbrev s__law_long_right : Stmt := topS 25
abbrev s_law : Stmt := topS 26
abbrev N_mark_of_text : List Str := ["text", "number", "sign"]
theorem sc_mark_of_text : FnScope N_mark_of_text ["text"] (defScope s_mark_of_text) := ⟨rfl, rfl, rfl, by decide +kernel, rfl, by decide +kernel, by decide +kernel⟩
abbrev N_mark_of_number : List Str := ["number", "mark", "_"]
theorem sc_mark_of_number : FnScope N_mark_of_number ["number"] (defScope s_mark_of_number) := ⟨rfl, rfl, rfl, by decide +kernel, rfl, by decide +kernel, by decide +kernel⟩
abbrev N_is_mark : List Str := ["thing", "sign"]
theorem sc_is_mark : FnScope N_is_mark ["thing"] (defScope s_is_mark) := ⟨rfl, rfl, rfl, by decide +kernel, rfl, by decide +kernel, by decide +kernel⟩
abbrev N__law_box : List Str := ["script", "k", "cell"]
theorem sc__law_box : FnScope N__law_box ["script", "k"] (defScope s__law_box) := ⟨rfl, rfl, rfl, by decide +kernel, rfl, by decide +kernel, by decide +kernel⟩
abbrev N__law_take : List Str := ["box", "size", "found", "step", "once", "twice"]
theorem sc__law_take : FnScope N__law_take ["box", "size"] (defScope s__law_take) := ⟨rfl, rfl, rfl, by decide +kernel, rfl, by decide +kernel, by decide +kernel⟩
abbrev N__law_folded : List Str := ["script", "size", "cells", "k", "cell"]
theorem sc__law_folded : FnScope N__law_folded ["script", "size"] (defScope s__law_folded) := ⟨rfl, rfl, rfl, by decide +kernel, rfl, by decide +kernel, by decide +kernel⟩
abbrev N__law_same : List Str := ["found", "due", "one", "other"]
theorem sc__law_same : FnScope N__law_same ["found", "due"] (defScope s__law_same) := ⟨rfl, rfl, rfl, by decide +kernel, rfl, by decide +kernel, by decide +kernel⟩
abbrev N__law_number : List Str := ["box"]
theorem sc__law_number : FnScope N__law_number ["box"] (defScope s__law_number) := ⟨rfl, rfl, rfl, by decide +kernel, rfl, by decide +kernel, by decide +kernel⟩
abbrev N__law_term : List Str := ["box", "many", "heads", "tall", "way", "op", "one", "other", "head", "size", "parts", "turn"]
theorem sc__law_term : FnScope N__law_term ["box", "many", "heads", "tall"] (defScope s__law_term) := ⟨rfl, rfl, rfl, by decide +kernel, rfl, by decide +kernel, by decide +kernel⟩
abbrev N__law_some_mark : List Str := ["box", "signs", "mode", "turn"]
theorem sc__law_some_mark : FnScope N__law_some_mark ["box"] (defScope s__law_some_mark) := ⟨rfl, rfl, rfl, by decide +kernel, rfl, by decide +kernel, by decide +kernel⟩
abbrev N__law_any_term : List Str := ["box", "heads", "term", "turn", "leaf", "mode", "head", "some", "op"]
theorem sc__law_any_term : FnScope N__law_any_term ["box"] (defScope s__law_any_term) := ⟨rfl, rfl, rfl, by decide +kernel, rfl, by decide +kernel, by decide +kernel⟩
abbrev N__law_text : List Str := ["term", "head", "one"]
theorem sc__law_text : FnScope N__law_text ["term"] (defScope s__law_text) := ⟨rfl, rfl, rfl, by decide +kernel, rfl, by decide +kernel, by decide +kernel⟩
abbrev N__law_mark : List Str := ["text", "signs", "number", "found", "sign", "turn"]
theorem sc__law_mark : FnScope N__law_mark ["text"] (defScope s__law_mark) := ⟨rfl, rfl, rfl, by decide +kernel, rfl, by decide +kernel, by decide +kernel⟩
abbrev N__law_some_text : List Str := ["box", "signs", "mode", "size", "turn"]
theorem sc__law_some_text : FnScope N__law_some_text ["box"] (defScope s__law_some_text) := ⟨rfl, rfl, rfl, by decide +kernel, rfl, by decide +kernel, by decide +kernel⟩
abbrev N__law_sum : List Str := ["text", "start", "signs", "sign"]
theorem sc__law_sum : FnScope N__law_sum ["text", "start"] (defScope s__law_sum) := ⟨rfl, rfl, rfl, by decide +kernel, rfl, by decide +kernel, by decide +kernel⟩
abbrev N__law_right : List Str := ["box", "signs", "said", "more", "at", "sign", "ahead", "behind", "some", "one", "found", "due"]
theorem sc__law_right : FnScope N__law_right ["box"] (defScope s__law_right) := ⟨rfl, rfl, rfl, by decide +kernel, rfl, by decide +kernel, by decide +kernel⟩
abbrev N__law_long_right : List Str := ["box", "signs", "piece", "said", "at", "some", "told", "turn", "one"]
theorem sc__law_long_right : FnScope N__law_long_right ["box"] (defScope s__law_long_right) := ⟨rfl, rfl, rfl, by decide +kernel, rfl, by decide +kernel, by decide +kernel⟩
abbrev N_law : List Str := ["script", "cells", "k", "box", "turn"]
theorem sc_law : FnScope N_law ["script"] (defScope s_law) := ⟨rfl, rfl, rfl, by decide +kernel, rfl, by decide +kernel, by decide +kernel⟩
/-! ### the head -/
def d_mark_of_text : He.DefD := ⟨("mark_of_text", none), "mark_of_text", "mark_of_text", defArgs s_mark_of_text, defBody s_mark_of_text, defScope s_mark_of_text, [], []⟩
def d_mark_of_number : He.DefD := ⟨("mark_of_number", none), "mark_of_number", "mark_of_number", defArgs s_mark_of_number, defBody s_mark_of_number, defScope s_mark_of_number, [], []⟩
def d_is_mark : He.DefD := ⟨("is_mark", none), "is_mark", "is_mark", defArgs s_is_mark, defBody s_is_mark, defScope s_is_mark, [], []⟩
def d__law_box : He.DefD := ⟨("_law_box", none), "_law_box", "_law_box", defArgs s__law_box, defBody s__law_box, defScope s__law_box, [], []⟩
def d__law_take : He.DefD := ⟨("_law_take", none), "_law_take", "_law_take", defArgs s__law_take, defBody s__law_take, defScope s__law_take, [], []⟩
def d__law_folded : He.DefD := ⟨("_law_folded", none), "_law_folded", "_law_folded", defArgs s__law_folded, defBody s__law_folded, defScope s__law_folded, [], []⟩
def d__law_same : He.DefD := ⟨("_law_same", none), "_law_same", "_law_same", defArgs s__law_same, defBody s__law_same, defScope s__law_same, [], []⟩
def d__law_number : He.DefD := ⟨("_law_number", none), "_law_number", "_law_number", defArgs s__law_number, defBody s__law_number, defScope s__law_number, [], []⟩
def d__law_term : He.DefD := ⟨("_law_term", none), "_law_term", "_law_term", defArgs s__law_term, defBody s__law_term, defScope s__law_term, [], []⟩
def d__law_some_mark : He.DefD := ⟨("_law_some_mark", none), "_law_some_mark", "_law_some_mark", defArgs s__law_some_mark, defBody s__law_some_mark, defScope s__law_some_mark, [], []⟩
def d__law_any_term : He.DefD := ⟨("_law_any_term", none), "_law_any_term", "_law_any_term", defArgs s__law_any_term, defBody s__law_any_term, defScope s__law_any_term, [], []⟩
def d__law_text : He.DefD := ⟨("_law_text", none), "_law_text", "_law_text", defArgs s__law_text, defBody s__law_text, defScope s__law_text, [], []⟩
def d__law_mark : He.DefD := ⟨("_law_mark", none), "_law_mark", "_law_mark", defArgs s__law_mark, defBody s__law_mark, defScope s__law_mark, [], []⟩
def d__law_some_text : He.DefD := ⟨("_law_some_text", none), "_law_some_text", "_law_some_text", defArgs s__law_some_text, defBody s__law_some_text, defScope s__law_some_text, [], []⟩
def d__law_sum : He.DefD := ⟨("_law_sum", none), "_law_sum", "_law_sum", defArgs s__law_sum, defBody s__law_sum, defScope s__law_sum, [], []⟩
def d__law_right : He.DefD := ⟨("_law_right", none), "_law_right", "_law_right", defArgs s__law_right, defBody s__law_right, defScope s__law_right, [], []⟩
def d__law_long_right : He.DefD := ⟨("_law_long_right", none), "_law_long_right", "_law_long_right", defArgs s__law_long_right, defBody s__law_long_right, defScope s__law_long_right, [], []⟩
def d_law : He.DefD := ⟨("law", none), "law", "law", defArgs s_law, defBody s_law, defScope s_law, [], []⟩
def fn : List He.DefD := ([d_mark_of_text, d_mark_of_number, d_is_mark, d__law_box, d__law_take, d__law_folded, d__law_same, d__law_number, d__law_term, d__law_some_mark, d__law_any_term, d__law_text, d__law_mark, d__law_some_text, d__law_sum, d__law_right, d__law_long_right, d_law] : List He.DefD)
def fa : List He.Fa := ([.glo "mark_of_text", .glo "mark_of_number", .glo "is_mark", .glo "_law_box", .glo "_law_take", .glo "_law_folded", .glo "_law_same", .glo "_law_number", .glo "_law_term", .glo "_law_some_mark", .glo "_law_any_term", .glo "_law_text", .glo "_law_mark", .glo "_law_some_text", .glo "_law_sum", .glo "_law_right", .glo "_law_long_right", .glo "law", .free "range", .free "all"] : List He.Fa) ++ ([.free "isinstance", .free "str", .free "len", .free "abs", .free "int", .free "divmod", .free "list", .free "enumerate", .free "tuple", .free "bool", .free "zip", .free "max", .str "SIGNS" "0123456789abcdefghijklmnopqrstuvwxyz #@();:", .int "BASE" 36, .int "MARK_LENGTH" 6, .int "FIRST_NUMBER" 7, .int "FACTOR" 131, .int "MODULUS" 998244353] : List He.Fa)
def tabs : List He.Tab := []
def ex (K : PySem.W.Frag) : Bool := true
abbrev R : PySem.W.OpenRow := PySem.W.OpenLaw.row PySem.Challenge.rw_contentnames_k05_marks_of_texts
abbrev hk : PySem.W.Hook := He.hookX 6 fa fn tabs [] ex
def ob (s : PySem.W.SharedT) : He.AlX := He.obsX 6 fa fn tabs [] ex (HandSHeadRun.getT s)
theorem ob_eq (s : PySem.W.SharedT) : ob s = hk.obs s.abs := He.obsX_eq (HandSHeadRun.getT_eq s)
def loose : List Str := (["SIGNS", "BASE", "MARK_LENGTH", "FIRST_NUMBER", "FACTOR", "MODULUS", "mark_of_text", "mark_of_number", "is_mark", "_law_box", "_law_take", "_law_folded", "_law_same", "_law_number", "_law_term", "_law_some_mark", "_law_any_term", "_law_text", "_law_mark", "_law_some_text"] : List Str) ++ (["_law_sum", "_law_right", "_law_long_right"] : List Str)
set_option maxHeartbeats 0 in
theorem run (w : World) : HandSHeadRun.RunEq R (PySem.W.view R.prog [26]) hk ob 6000 loose w := by
  intro os
  kernel_rfl
/-! ### what the top has left, by names -/
structure Txt (K : PySem.W.Frag) (w : World) (mg : Str → Option Value) : Prop where
  D_mark_of_text : Def K mg "mark_of_text" s_mark_of_text ["text"]
  D_mark_of_number : Def K mg "mark_of_number" s_mark_of_number ["number"]
  D_is_mark : Def K mg "is_mark" s_is_mark ["thing"]
  D__law_box : Def K mg "_law_box" s__law_box ["script", "k"]
  D__law_take : Def K mg "_law_take" s__law_take ["box", "size"]
  D__law_folded : Def K mg "_law_folded" s__law_folded ["script", "size"]
  D__law_same : Def K mg "_law_same" s__law_same ["found", "due"]
  D__law_number : Def K mg "_law_number" s__law_number ["box"]
  D__law_term : Def K mg "_law_term" s__law_term ["box", "many", "heads", "tall"]
  D__law_some_mark : Def K mg "_law_some_mark" s__law_some_mark ["box"]
  D__law_any_term : Def K mg "_law_any_term" s__law_any_term ["box"]
  D__law_text : Def K mg "_law_text" s__law_text ["term"]
  D__law_mark : Def K mg "_law_mark" s__law_mark ["text"]
  D__law_some_text : Def K mg "_law_some_text" s__law_some_text ["box"]
  D__law_sum : Def K mg "_law_sum" s__law_sum ["text", "start"]
  D__law_right : Def K mg "_law_right" s__law_right ["box"]
  D__law_long_right : Def K mg "_law_long_right" s__law_long_right ["box"]
  D_law : Def K mg "law" s_law ["script"]
  z_range : mg "range" = none
  z_all : mg "all" = none
  z_isinstance : mg "isinstance" = none
  z_str : mg "str" = none
  z_len : mg "len" = none
  z_abs : mg "abs" = none
  z_int : mg "int" = none
  z_divmod : mg "divmod" = none
  z_list : mg "list" = none
  z_enumerate : mg "enumerate" = none
  z_tuple : mg "tuple" = none
  z_bool : mg "bool" = none
  z_zip : mg "zip" = none
  z_max : mg "max" = none
  c_SIGNS : ∃ t, mg "SIGNS" = some (.str "0123456789abcdefghijklmnopqrstuvwxyz #@();:" t)
  c_BASE : ∃ t, mg "BASE" = some (.int 36 t)
  c_MARK_LENGTH : ∃ t, mg "MARK_LENGTH" = some (.int 6 t)
  c_FIRST_NUMBER : ∃ t, mg "FIRST_NUMBER" = some (.int 7 t)
  c_FACTOR : ∃ t, mg "FACTOR" = some (.int 131 t)
  c_MODULUS : ∃ t, mg "MODULUS" = some (.int 998244353 t)
theorem txt_of {K : PySem.W.Frag} {w : World} {mg : Str → Option Value} {h h0 : Heap} (X : K.In h) (G : h.Ns mainGlobals mg) (c : He.SaysX fa fn tabs [] ex w h0 K) : Txt K w mg := by
  have m : ex K = true := c.more
  exact {
    D_mark_of_text := by
      obtain ⟨fd, F⟩ := c.t.d.def_ 0 (d := d_mark_of_text) rfl
      exact ⟨_, fd, F, He.glo_ok X G (c.t.d.fact 0 (f := .glo "mark_of_text") rfl), F.bindsN fun _ _ _ _ _ _ us hl => match us, hl with | [_], _ => rfl⟩
    D_mark_of_number := by
      obtain ⟨fd, F⟩ := c.t.d.def_ 1 (d := d_mark_of_number) rfl
      exact ⟨_, fd, F, He.glo_ok X G (c.t.d.fact 1 (f := .glo "mark_of_number") rfl), F.bindsN fun _ _ _ _ _ _ us hl => match us, hl with | [_], _ => rfl⟩
    D_is_mark := by
      obtain ⟨fd, F⟩ := c.t.d.def_ 2 (d := d_is_mark) rfl
      exact ⟨_, fd, F, He.glo_ok X G (c.t.d.fact 2 (f := .glo "is_mark") rfl), F.bindsN fun _ _ _ _ _ _ us hl => match us, hl with | [_], _ => rfl⟩
    D__law_box := by
      obtain ⟨fd, F⟩ := c.t.d.def_ 3 (d := d__law_box) rfl
      exact ⟨_, fd, F, He.glo_ok X G (c.t.d.fact 3 (f := .glo "_law_box") rfl), F.bindsN fun _ _ _ _ _ _ us hl => match us, hl with | [_, _], _ => rfl⟩
    D__law_take := by
      obtain ⟨fd, F⟩ := c.t.d.def_ 4 (d := d__law_take) rfl
      exact ⟨_, fd, F, He.glo_ok X G (c.t.d.fact 4 (f := .glo "_law_take") rfl), F.bindsN fun _ _ _ _ _ _ us hl => match us, hl with | [_, _], _ => rfl⟩
    D__law_folded := by
      obtain ⟨fd, F⟩ := c.t.d.def_ 5 (d := d__law_folded) rfl
      exact ⟨_, fd, F, He.glo_ok X G (c.t.d.fact 5 (f := .glo "_law_folded") rfl), F.bindsN fun _ _ _ _ _ _ us hl => match us, hl with | [_, _], _ => rfl⟩
    D__law_same := by
      obtain ⟨fd, F⟩ := c.t.d.def_ 6 (d := d__law_same) rfl
      exact ⟨_, fd, F, He.glo_ok X G (c.t.d.fact 6 (f := .glo "_law_same") rfl), F.bindsN fun _ _ _ _ _ _ us hl => match us, hl with | [_, _], _ => rfl⟩
    D__law_number := by
      obtain ⟨fd, F⟩ := c.t.d.def_ 7 (d := d__law_number) rfl
      exact ⟨_, fd, F, He.glo_ok X G (c.t.d.fact 7 (f := .glo "_law_number") rfl), F.bindsN fun _ _ _ _ _ _ us hl => match us, hl with | [_], _ => rfl⟩
    D__law_term := by
      obtain ⟨fd, F⟩ := c.t.d.def_ 8 (d := d__law_term) rfl
      exact ⟨_, fd, F, He.glo_ok X G (c.t.d.fact 8 (f := .glo "_law_term") rfl), F.bindsN fun _ _ _ _ _ _ us hl => match us, hl with | [_, _, _, _], _ => rfl⟩
    D__law_some_mark := by
      obtain ⟨fd, F⟩ := c.t.d.def_ 9 (d := d__law_some_mark) rfl
      exact ⟨_, fd, F, He.glo_ok X G (c.t.d.fact 9 (f := .glo "_law_some_mark") rfl), F.bindsN fun _ _ _ _ _ _ us hl => match us, hl with | [_], _ => rfl⟩
    D__law_any_term := by
      obtain ⟨fd, F⟩ := c.t.d.def_ 10 (d := d__law_any_term) rfl
      exact ⟨_, fd, F, He.glo_ok X G (c.t.d.fact 10 (f := .glo "_law_any_term") rfl), F.bindsN fun _ _ _ _ _ _ us hl => match us, hl with | [_], _ => rfl⟩
    D__law_text := by
      obtain ⟨fd, F⟩ := c.t.d.def_ 11 (d := d__law_text) rfl
      exact ⟨_, fd, F, He.glo_ok X G (c.t.d.fact 11 (f := .glo "_law_text") rfl), F.bindsN fun _ _ _ _ _ _ us hl => match us, hl with | [_], _ => rfl⟩
    D__law_mark := by
      obtain ⟨fd, F⟩ := c.t.d.def_ 12 (d := d__law_mark) rfl
      exact ⟨_, fd, F, He.glo_ok X G (c.t.d.fact 12 (f := .glo "_law_mark") rfl), F.bindsN fun _ _ _ _ _ _ us hl => match us, hl with | [_], _ => rfl⟩
    D__law_some_text := by
      obtain ⟨fd, F⟩ := c.t.d.def_ 13 (d := d__law_some_text) rfl
      exact ⟨_, fd, F, He.glo_ok X G (c.t.d.fact 13 (f := .glo "_law_some_text") rfl), F.bindsN fun _ _ _ _ _ _ us hl => match us, hl with | [_], _ => rfl⟩
    D__law_sum := by
      obtain ⟨fd, F⟩ := c.t.d.def_ 14 (d := d__law_sum) rfl
      exact ⟨_, fd, F, He.glo_ok X G (c.t.d.fact 14 (f := .glo "_law_sum") rfl), F.bindsN fun _ _ _ _ _ _ us hl => match us, hl with | [_, _], _ => rfl⟩
    D__law_right := by
      obtain ⟨fd, F⟩ := c.t.d.def_ 15 (d := d__law_right) rfl
      exact ⟨_, fd, F, He.glo_ok X G (c.t.d.fact 15 (f := .glo "_law_right") rfl), F.bindsN fun _ _ _ _ _ _ us hl => match us, hl with | [_], _ => rfl⟩
    D__law_long_right := by
      obtain ⟨fd, F⟩ := c.t.d.def_ 16 (d := d__law_long_right) rfl
      exact ⟨_, fd, F, He.glo_ok X G (c.t.d.fact 16 (f := .glo "_law_long_right") rfl), F.bindsN fun _ _ _ _ _ _ us hl => match us, hl with | [_], _ => rfl⟩
    D_law := by
      obtain ⟨fd, F⟩ := c.t.d.def_ 17 (d := d_law) rfl
      exact ⟨_, fd, F, He.glo_ok X G (c.t.d.fact 17 (f := .glo "law") rfl), F.bindsN fun _ _ _ _ _ _ us hl => match us, hl with | [_], _ => rfl⟩
    z_range := He.free_ok X G (c.t.d.fact 18 (f := .free "range") rfl)
    z_all := He.free_ok X G (c.t.d.fact 19 (f := .free "all") rfl)
    z_isinstance := He.free_ok X G (c.t.d.fact 20 (f := .free "isinstance") rfl)
    z_str := He.free_ok X G (c.t.d.fact 21 (f := .free "str") rfl)
    z_len := He.free_ok X G (c.t.d.fact 22 (f := .free "len") rfl)
    z_abs := He.free_ok X G (c.t.d.fact 23 (f := .free "abs") rfl)
    z_int := He.free_ok X G (c.t.d.fact 24 (f := .free "int") rfl)
    z_divmod := He.free_ok X G (c.t.d.fact 25 (f := .free "divmod") rfl)
    z_list := He.free_ok X G (c.t.d.fact 26 (f := .free "list") rfl)
    z_enumerate := He.free_ok X G (c.t.d.fact 27 (f := .free "enumerate") rfl)
    z_tuple := He.free_ok X G (c.t.d.fact 28 (f := .free "tuple") rfl)
    z_bool := He.free_ok X G (c.t.d.fact 29 (f := .free "bool") rfl)
    z_zip := He.free_ok X G (c.t.d.fact 30 (f := .free "zip") rfl)
    z_max := He.free_ok X G (c.t.d.fact 31 (f := .free "max") rfl)
    c_SIGNS := He.str_ok X G (c.t.d.fact 32 (f := .str "SIGNS" "0123456789abcdefghijklmnopqrstuvwxyz #@();:") rfl)
    c_BASE := He.int_ok X G (c.t.d.fact 33 (f := .int "BASE" 36) rfl)
    c_MARK_LENGTH := He.int_ok X G (c.t.d.fact 34 (f := .int "MARK_LENGTH" 6) rfl)
    c_FIRST_NUMBER := He.int_ok X G (c.t.d.fact 35 (f := .int "FIRST_NUMBER" 7) rfl)
    c_FACTOR := He.int_ok X G (c.t.d.fact 36 (f := .int "FACTOR" 131) rfl)
    c_MODULUS := He.int_ok X G (c.t.d.fact 37 (f := .int "MODULUS" 998244353) rfl)
  }

end V


set_option Elab.async false
set_option linter.all false
set_option maxRecDepth 100000
set_option maxHeartbeats 400000
namespace V
open PySem PySem.Spec PyProof.Rows L2 Evl TL NumText
/-- a text of the signs, not too long -/
def Tx (z : Str) : Prop := z.length ≤ 20000 ∧ Sg (tl z)
theorem sg_cut {z : Str} (h : Sg (tl z)) (lo hi : Option Int) : Sg (tl (cutS z lo hi)) := fun c hc => by
  have e : tl (cutS z lo hi) = ((z.cps.toList.drop (HT.sIx z.length 0 lo)).take (HT.sIx z.length z.length hi - HT.sIx z.length 0 lo)) := rfl
  rw [e] at hc
  exact h c (List.mem_of_mem_drop (List.mem_of_mem_take hc))
theorem sg_rev {z : Str} (h : Sg (tl z)) : Sg (tl (revS z)) := fun c hc => by
  have e : tl (revS z) = (tl z).reverse := rfl
  rw [e] at hc
  exact h c (List.mem_reverse.mp hc)
theorem rev_len (z : Str) : (revS z).length = z.length := by
  show (z.cps.toList.reverse).toArray.size = z.cps.size
  rw [List.size_toArray, List.length_reverse, Array.length_toList]
theorem sg_app {x y : Str} (h : Sg (tl x)) (g : Sg (tl y)) : Sg (tl (x ++ y)) := by
  rw [tl_append]
  exact Sg.app h g
theorem big_line {n : Nat} (h : n ≤ 1000000) : n ≤ sizeLine := by
  have big : sizeLine = 16777216 := sizeLine_eq
  omega
theorem dep_str {n : Nat} (z : Str) : DepN (n + 1) (.str z) := by
  first
    | exact .str z
    | exact .str
    | (constructor)
def spRight : Sp := fun vs H Q _ => ∃ (b : Addr) (n : Nat), vs = [.ref b] ∧ Box H b (n + 2002) ∧ ∀ (H' : Hp), But b H H' → Box H' b n → Q (.bl true) H'
section
variable {P : Program} {w : World} {K : PySem.W.Frag} {mg : Str → Option Value} {base : Heap}
theorem ok_right (T : Txt K w mg) (G__law_take : Cal P w K mg base 1 "_law_take" ["box", "size"] spTake) (G__law_some_text : Cal P w K mg base 10 "_law_some_text" ["box"] spSomeText)
    (G_mark_of_text : Cal P w K mg base 2 "mark_of_text" ["text"] spMarkT) (G__law_mark : Cal P w K mg base 1 "_law_mark" ["text"] spMarkT) (G__law_same : Cal P w K mg base 3 "_law_same" ["found", "due"] (spSame K 3))
    (G_is_mark : Cal P w K mg base 1 "is_mark" ["thing"] (spTest Small isMarkD K)) (G__law_sum : Cal P w K mg base 1 "_law_sum" ["text", "start"] spSum) : Cal P w K mg base 11 "_law_right" ["box"] spRight := by
  refine T.D__law_right.cal sc__law_right (fun vs H Q E h => ?_) (fun f cdv A outer s H vs Q E hr h => ?_)
  · obtain ⟨b, n, rfl, _⟩ := h
    rfl
  obtain ⟨b, n, rfl, hB, q⟩ := h
  refine ⟨_, (pss_cons (ps_set (i := 1) sc__law_right.nd rfl (.inl rfl) pe_str)
  (pss_cons (ps_par (i := 2) (j := 3) rfl sc__law_right.nd rfl rfl (by decide) rfl rfl (pa_cons (pe_fn G__law_some_text hr (by omega) (pa_cons (pv 0) pa_nil)) (pa_cons (pe_fn G__law_some_text hr (by omega) (pa_cons (pv 0) pa_nil)) pa_nil)) rfl)
  (pss_cons (ps_par (i := 4) (j := 5) rfl sc__law_right.nd rfl rfl (by decide) rfl rfl (pa_cons (pe_fn G__law_take hr (by omega) (pa_cons (pv 0) (pa_cons (pe_op op_add (pe_bi call_len T.z_len (pa_cons (pv 2) pa_nil)) pe_int) pa_nil))) (pa_cons (pe_ix ix_str (pv 1) (pe_fn G__law_take hr (by omega) (pa_cons (pv 0) (pa_cons pe_int pa_nil))) (fun _ _ => rfl)) pa_nil)) rfl)
  (pss_cons (ps_par (i := 6) (j := 7) rfl sc__law_right.nd rfl rfl (by decide) rfl rfl (pa_cons (pe_slice sl_str (pv 2) po_none (po_some (pv 4))) (pa_cons (pe_slice sl_str (pv 2) (po_some (pv 4)) po_none) pa_nil)) rfl)
  (pss_cons (ps_set (i := 8) sc__law_right.nd rfl (.inl rfl) (pe_lst (pa_cons (pv 2) (pa_cons (pv 3) (pa_cons (pe_op op_add_str (pv 2) (pv 3)) (pa_cons (pe_op op_add_str (pe_op op_add_str (pv 6) (pv 5)) (pv 7)) (pa_cons (pe_op op_add_str (pe_op op_add_str (pv 6) (pv 5)) (pe_slice sl_str (pv 7) (po_some pe_int) po_none)) (pa_cons (pv 6) pa_nil))))))))
  (pss_cons (ps_expr (pe_bm PySem.F.plainAttrs_list PySem.F.slot_list_append PySem.F.type_list_append mt_append (pv 8) (pa_cons (pe_op op_add_str (pe_op op_add_str (pv 6) (pe_revS (pe_slice sl_str (pv 7) po_none (po_some pe_int)))) (pe_slice sl_str (pv 7) (po_some pe_int) po_none)) pa_nil)))
  (pss_cons (ps_for PassesOwn.never rfl (pi_list (pv 8)) (pg_name (i := 9) sc__law_right.nd rfl (.inl rfl))
    (pss_cons (ps_set (i := 10) sc__law_right.nd rfl (.inl rfl) (pe_fn G_mark_of_text hr (by omega) (pa_cons (pv 9) pa_nil)))
    (pss_cons (ps_if (PW.pt (pw_or (pt_not (pt_val (pe_fn G__law_same hr (by omega) (pa_cons (pv 10) (pa_cons (pe_fn G__law_mark hr (by omega) (pa_cons (pv 9) pa_nil)) pa_nil))))) (pw_or (pt_cmpR op_notBl (pe_fn G_is_mark hr (by omega) (pa_cons (pv 10) pa_nil)) pe_bl (nomark _)) (pw_or1 (pt_cmpR op_ne (pe_fn G_mark_of_text hr (by omega) (pa_cons (pv 9) pa_nil)) (pv 10) (nomark _))))))
      (pss_one (ps_ret pe_bl))
      pss_nil)
    (pss_one (ps_if (pt_cmpR op_ne (pe_bt call_int_36 T.z_int (pa_cons (pv 10) (pa_cons pe_int pa_nil))) (pe_fn G__law_sum hr (by omega) (pa_cons (pv 9) (pa_cons pe_int pa_nil))) (nomark _))
      (pss_one (ps_ret pe_bl))
      pss_nil)))))
  (pss_cons (ps_set (i := 11) sc__law_right.nd rfl (.inl rfl) (pe_fn G__law_sum hr (by omega) (pa_cons (pv 3) (pa_cons (pe_bt call_int_36 T.z_int (pa_cons (pe_fn G_mark_of_text hr (by omega) (pa_cons (pv 2) pa_nil)) (pa_cons pe_int pa_nil))) pa_nil))))
  (pss_one (ps_ret (pe_and (pe_cmpR op_eq (pe_bt call_int_36 T.z_int (pa_cons (pe_fn G_mark_of_text hr (by omega) (pa_cons (pe_op op_add_str (pv 2) (pv 3)) pa_nil)) (pa_cons pe_int pa_nil))) (pv 11) (nomark _)) (pe_one (pe_cmpR op_eq (pe_gs T.c_SIGNS) (pv 1) (nomark _)))))))))))))), ?_⟩
  refine ⟨_, rfl, b, n + 1002, rfl, hB, fun H1 said u1 B1 sl1 ss1 => ⟨_, rfl, b, n + 2, rfl, B1, fun H2 more u2 B2 ml ms => ⟨_, _, rfl, ?_⟩⟩⟩
  refine ⟨_, rfl, _, rfl, _, said.length, rfl, ⟨big_line (by omega), rfl⟩, _, _, rfl, rfl, b, _, n + 1, rfl, by omega, by omega, B2, fun H3 r u3 B3 r0 r1 => ?_⟩
  refine ⟨_, rfl, _, rfl, b, 43, n, rfl, by decide, by decide, B3, fun H4 k u4 B4 k0 k1 => ?_⟩
  obtain ⟨rn, rfl⟩ := Int.eq_ofNat_of_zero_le r0
  obtain ⟨kn, rfl⟩ := Int.eq_ofNat_of_zero_le k0
  obtain ⟨c, hc, hs⟩ := sg_any kn (by omega)
  have hu4 : But b H H4 := ((u1.trans u2).trans u3).trans u4
  refine ⟨sgS, _, c, rfl, rfl, by decide +kernel, hc, _, _, rfl, ?_⟩
  refine ⟨_, rfl, _, rfl, _, rfl, said, rfl, big_line (by omega), _, rfl, _, rfl, _, rfl, said, rfl, big_line (by omega), _, _, rfl, ?_⟩
  generalize hah : cutS said none (some ((rn : Nat) : Int)) = ahead
  generalize hbe : cutS said (some ((rn : Nat) : Int)) none = behind
  have ta : Tx ahead := by
    rw [← hah]
    exact ⟨Nat.le_trans (cutS_length _ _ _) (by omega), sg_cut ss1 _ _⟩
  have tb : Tx behind := by
    rw [← hbe]
    exact ⟨Nat.le_trans (cutS_length _ _ _) (by omega), sg_cut ss1 _ _⟩
  have la : ahead.length ≤ 900 := by
    rw [← hah]
    exact Nat.le_trans (cutS_length _ _ _) (by omega)
  have lb : behind.length ≤ 900 := by
    rw [← hbe]
    exact Nat.le_trans (cutS_length _ _ _) (by omega)
  have tc : Sg (tl (⟨#[c]⟩ : Str)) := fun d hd => by
    rw [List.mem_singleton.mp (show d ∈ [c] from hd)]
    exact hs
  have lc : (⟨#[c]⟩ : Str).length = 1 := rfl
  generalize (⟨#[c]⟩ : Str) = sg at tc lc
  have lb1 := cutS_length behind (some 1) none
  refine ⟨_, rfl, _, rfl, _, rfl, _, rfl, said, more, rfl, rfl, big_line (by omega), _, rfl, _, rfl, ahead, sg, rfl, rfl, big_line (by omega), _, rfl, _, _, rfl, rfl, big_line (by rw [str_len_append]; omega), ?_⟩
  refine ⟨_, rfl, _, rfl, ahead, sg, rfl, rfl, big_line (by omega), _, rfl, 1, rfl, behind, rfl, big_line (by omega), _, _, rfl, rfl, big_line (by rw [str_len_append]; omega), _, rfl, sz 6, fun p hp => ?_⟩
  have e5 := Ex.new (o := .lst [V.str said, V.str more, V.str (said ++ more), V.str (ahead ++ sg ++ behind), V.str (ahead ++ sg ++ cutS behind (some 1) none), V.str ahead]) hp
  have lb2 := cutS_length behind none (some 2)
  have lb3 := cutS_length behind (some 2) none
  have lr2 := rev_len (cutS behind none (some 2))
  refine ⟨_, rfl, .inl ⟨rfl, _, SqL.of upd_same⟩, _, rfl, _, rfl, 2, rfl, behind, rfl, big_line (by omega), _, rfl, big_line (by omega), _, _, rfl, rfl, big_line (by omega), _, rfl, 2, rfl, behind, rfl, big_line (by omega), _, _, rfl, rfl, big_line (by rw [str_len_append]; omega), ?_⟩
  refine ⟨p, _, _, rfl, rfl, upd_same, sz 7, ?_⟩
  have all : ∀ z ∈ [said, more, said ++ more, ahead ++ sg ++ behind, ahead ++ sg ++ cutS behind (some 1) none, ahead, ahead ++ revS (cutS behind none (some 2)) ++ cutS behind (some 2) none], Tx z := by
    intro z hz
    simp only [List.mem_cons, List.not_mem_nil, or_false] at hz
    rcases hz with rfl | rfl | rfl | rfl | rfl | rfl | rfl
    · exact ⟨by omega, ss1⟩
    · exact ⟨by omega, ms⟩
    · exact ⟨by rw [str_len_append]; omega, sg_app ss1 ms⟩
    · exact ⟨by rw [str_len_append, str_len_append]; omega, sg_app (sg_app ta.2 tc) tb.2⟩
    · exact ⟨by rw [str_len_append, str_len_append]; omega, sg_app (sg_app ta.2 tc) (sg_cut tb.2 _ _)⟩
    · exact ta
    · exact ⟨by rw [str_len_append, str_len_append]; omega, sg_app (sg_app ta.2 (sg_rev (sg_cut tb.2 _ _))) (sg_cut tb.2 _ _)⟩
  generalize hzs : [said, more, said ++ more, ahead ++ sg ++ behind, ahead ++ sg ++ cutS behind (some 1) none, ahead, ahead ++ revS (cutS behind none (some 2)) ++ cutS behind (some 2) none] = zs at all
  have ex5 := Ex.mut (o := .lst (zs.map V.str)) e5 hp
  have hp5 := upd_same (H := upd H4 p (.lst [V.str said, V.str more, V.str (said ++ more), V.str (ahead ++ sg ++ behind), V.str (ahead ++ sg ++ cutS behind (some 1) none), V.str ahead])) (a := p) (o := .lst (zs.map V.str))
  have hzs2 : [V.str said, V.str more, V.str (said ++ more), V.str (ahead ++ sg ++ behind), V.str (ahead ++ sg ++ cutS behind (some 1) none), V.str ahead] ++ [V.str (ahead ++ revS (cutS behind none (some 2)) ++ cutS behind (some 2) none)] = zs.map V.str := by
    rw [← hzs]
    rfl
  show tSeq _ _ _ _ (upd _ p (.lst ([V.str said, V.str more, V.str (said ++ more), V.str (ahead ++ sg ++ behind), V.str (ahead ++ sg ++ cutS behind (some 1) none), V.str ahead] ++ [V.str (ahead ++ revS (cutS behind none (some 2)) ++ cutS behind (some 2) none)])))
  rw [hzs2]
  generalize upd (upd H4 p (.lst [V.str said, V.str more, V.str (said ++ more), V.str (ahead ++ sg ++ behind), V.str (ahead ++ sg ++ cutS behind (some 1) none), V.str ahead])) p (.lst (zs.map V.str)) = H5 at ex5 hp5
  have B5 := B4.ex ex5
  have hu5 : But b H H5 := hu4.trans (But.of ex5)
  clear e5 hzs hzs2 hah hbe
  refine ⟨_, rfl, p, rfl, ⟨_, SqL.of hp5⟩, ?_⟩
  refine for_it (walk_list (xs := zs.map V.str)) (fun i σ H6 => (∃ y9 y10, σ = [some (.ref b), some (.str sgS), some (.str said), some (.str more), some (.int ((rn : Nat) : Int)), some (.str sg), some (.str ahead), some (.str behind), some (.ref p), y9, y10, none]) ∧ Ex H5 H6)
    ⟨⟨none, none, rfl⟩, Ex.refl H5⟩ (fun i σ H6 _ g => SqL.of (g.2 p _ hp5)) ?_ ?_
  · rintro i x σ H6 H7 hi ⟨⟨y9, y10, rfl⟩, e6⟩ ⟨rfl, hx⟩
    obtain ⟨z, hz, rfl⟩ : ∃ z, z ∈ zs ∧ x = .str z := by
      rw [List.getElem?_map] at hx
      cases e : zs[i]? with
      | none =>
        rw [e] at hx
        cases hx
      | some z =>
        rw [e] at hx
        cases hx
        exact ⟨z, get_mem e, rfl⟩
    obtain ⟨zl, zs'⟩ := all z hz
    have hlt := hash_lt (tl z) 7 (by decide)
    refine ⟨_, rfl, z, rfl, by omega, zs', fun H8 e8 => ?_⟩
    refine ⟨_, rfl, _, rfl, z, rfl, by omega, zs', fun H9 e9 => ⟨_, _, .str (mkS (hashL (tl z) 7)), rfl, .str _, .str _, .str _, fun H10 e10 => ⟨_, rfl, iteF ?_⟩⟩⟩
    refine ⟨_, rfl, _, _, rfl, .str _, .str (by rw [mk_len]; decide), fun H11 e11 => ?_⟩
    rw [mk_isMark]
    refine ⟨_, _, rfl, rfl, _, rfl, iteF ?_⟩
    refine ⟨_, rfl, z, rfl, by omega, zs', fun H12 e12 => ⟨_, rfl, rfl, _, rfl, ?_⟩⟩
    rw [decide_eq_true rfl]
    refine iteF ?_
    refine ⟨_, rfl, _, rfl, mk_ne _, by rw [mk_len]; decide, mk_f _, _, rfl, z, 7, rfl, zs', fun H13 e13 => ⟨rfl, _, rfl, ?_⟩⟩
    rw [mk_num (by omega), decide_eq_true rfl]
    exact iteF ⟨⟨_, _, rfl⟩, e6.trans (e8.trans (e9.trans (e10.trans (e11.trans (e12.trans e13)))))⟩
  · rintro σ H6 ⟨⟨y9, y10, rfl⟩, e6⟩
    have hl1 := hash_lt (tl said) 7 (by decide)
    have hl2 := hash_lt (tl (said ++ more)) 7 (by decide)
    refine ⟨_, rfl, _, rfl, said, rfl, by omega, ss1, fun H7 e7 => ⟨_, rfl, mk_ne _, by rw [mk_len]; decide, mk_f _, more, _, rfl, ms, fun H8 e8 => ?_⟩⟩
    rw [mk_num (by omega), ← hash_app, ← tl_append]
    refine ⟨_, rfl, _, rfl, _, _, rfl, rfl, big_line (by omega), _, rfl, by rw [str_len_append]; omega, sg_app ss1 ms, fun H9 e9 => ⟨_, rfl, mk_ne _, by rw [mk_len]; decide, mk_f _, _, rfl, rfl, ?_⟩⟩
    rw [mk_num (by omega), decide_eq_true rfl]
    refine ⟨_, rfl, iteT ⟨_, rfl, rfl, ?_⟩⟩
    show Q (.bl (decide (V.str sgS = V.str sgS))) H9
    rw [decide_eq_true rfl]
    exact q H9 (hu5.trans (But.of (e6.trans (e7.trans (e8.trans e9))))) ((B5.ex (e6.trans (e7.trans (e8.trans e9)))).less (by omega))
end
end V


set_option Elab.async false
set_option linter.all false
set_option maxRecDepth 100000
set_option maxHeartbeats 400000
namespace V
open PySem PySem.Spec PyProof.Rows L2 Evl TL NumText
def spLong : Sp := fun vs H Q _ => ∃ (b : Addr) (n : Nat), vs = [.ref b] ∧ Box H b (n + 25) ∧ ∀ (H' : Hp), But b H H' → Box H' b n → Q (.bl true) H'
theorem sg_all : ∀ d : Nat, d < 43 → ∃ c : Nat, atI sgS.cps.toList (d : Int) = some c ∧ c ∈ tl sgS ∧ sgIx c = d := by
  intro d hd
  have all : ∀ d : Nat, d < 43 → ∃ c ∈ tl sgS, sgS.cps.toList[d]? = some c ∧ sgIx c = d := by decide +kernel
  obtain ⟨c, h1, h2, h3⟩ := all d hd
  exact ⟨c, atI_nat h2, h1, h3⟩
section
variable {P : Program} {w : World} {K : PySem.W.Frag} {mg : Str → Option Value} {base : Heap}
theorem ok_long (T : Txt K w mg) (G__law_take : Cal P w K mg base 1 "_law_take" ["box", "size"] spTake)
    (G_mark_of_text : Cal P w K mg base 2 "mark_of_text" ["text"] spMarkT) (G__law_mark : Cal P w K mg base 1 "_law_mark" ["text"] spMarkT) (G__law_same : Cal P w K mg base 3 "_law_same" ["found", "due"] (spSame K 3)) :
    Cal P w K mg base 4 "_law_long_right" ["box"] spLong := by
  refine T.D__law_long_right.cal sc__law_long_right (fun vs H Q E h => ?_) (fun f cdv A outer s H vs Q E hr h => ?_)
  · obtain ⟨b, n, rfl, _⟩ := h
    rfl
  obtain ⟨b, n, rfl, hB, q⟩ := h
  refine ⟨_, (pss_cons (ps_set (i := 1) sc__law_long_right.nd rfl (.inr rfl) pe_str)
  (pss_cons (ps_set (i := 2) sc__law_long_right.nd rfl (.inl rfl) (pe_join pe_str (pe_lc (own := [("turn", 7)]) (g := (gName 7)) (tt := tYes) rfl sc__law_long_right.nd (pi_range1 rfl T.z_range (pa_cons pe_int pa_nil)) (blkOk_by (N := N__law_long_right) (sc := defScope s__law_long_right) (by decide +kernel)) (fun _ _ _ _ _ => (pg_name (i := 7) sc__law_long_right.nd rfl (.inl rfl))) (fun _ _ _ _ _ => pts_nil) (fun _ _ _ _ _ => (pe_ix ix_str (pv 1) (pe_fn G__law_take hr (by omega) (pa_cons (pv 0) (pa_cons pe_int pa_nil))) (fun _ _ => rfl))))))
  (pss_cons (ps_par (i := 3) (j := 4) rfl sc__law_long_right.nd rfl rfl (by decide) rfl rfl (pa_cons (pe_slice sl_str (pe_op op_mulS (pv 2) pe_int) po_none (po_some pe_int)) (pa_cons (pe_fn G__law_take hr (by omega) (pa_cons (pv 0) (pa_cons pe_int pa_nil))) pa_nil)) rfl)
  (pss_cons (ps_set (i := 5) sc__law_long_right.nd rfl (.inl rfl) (pe_lst (pa_cons (pe_op op_add_str (pv 3) (pe_ix ix_str (pv 1) (pv 4) (fun _ _ => rfl))) (pa_cons (pe_op op_add_str (pv 3) (pe_ix ix_str (pv 1) (pe_op op_mod (pe_op op_add (pe_op op_add (pv 4) pe_int) (pe_fn G__law_take hr (by omega) (pa_cons (pv 0) (pa_cons pe_int pa_nil)))) pe_int) (fun _ _ => rfl))) pa_nil))))
  (pss_cons (ps_setLc (i := 6) (own := [("one", 8)]) (g := (gName 8)) (tt := tYes) rfl sc__law_long_right.nd rfl rfl (sw_true rfl rfl rfl rfl) (pi_list (pv 5)) (blkOk_by (N := N__law_long_right) (sc := defScope s__law_long_right) (by decide +kernel)) (fun _ _ _ _ _ => (pg_name (i := 8) sc__law_long_right.nd rfl (.inl rfl))) (fun _ _ _ _ _ => pts_nil) (fun _ _ _ _ _ => (pe_fn G_mark_of_text hr (by omega) (pa_cons (pv 8) pa_nil))))
  (pss_one (ps_ret (pe_and (pe_fn G__law_same hr (by omega) (pa_cons (pv 6) (pa_cons (pe_lc (own := [("one", 8)]) (g := (gName 8)) (tt := tYes) rfl sc__law_long_right.nd (pi_list (pv 5)) (blkOk_by (N := N__law_long_right) (sc := defScope s__law_long_right) (by decide +kernel)) (fun _ _ _ _ _ => (pg_name (i := 8) sc__law_long_right.nd rfl (.inl rfl))) (fun _ _ _ _ _ => pts_nil) (fun _ _ _ _ _ => (pe_fn G__law_mark hr (by omega) (pa_cons (pv 8) pa_nil)))) pa_nil))) (pe_one (pe_cmpR op_ne (pe_ix (r := rIxL K) ix_list (pv 6) pe_int (fun _ _ => rfl)) (pe_ix (r := rIxL K) ix_list (pv 6) pe_int (fun _ _ => rfl)) (nomark _))))))))))), ?_⟩
  refine ⟨⟨_, rfl⟩, 23, rfl, by decide, by decide, fun Dl hD => ?_⟩
  have nb := hB.ne hD
  refine lc_range (lo := 0) (n := 23) (fun j H4 => But b H H4 ∧ Box H4 b (n + 25 - j) ∧ ∃ l : List Nat, l.length = j ∧ Sg l ∧ H4 Dl = some (.lst ((ones l).map V.str))) ⟨But.of (Ex.new hD), hB.ex (Ex.new hD), [], rfl, (fun c h => by cases h), upd_same⟩ ?_ ?_
  · rintro j H4 hj ⟨u4, B4, l, l1, l2, d4⟩
    refine ⟨rfl, yes ⟨_, rfl, _, rfl, b, 43, n + 25 - (j + 1), rfl, by decide, by decide, ?_, fun H5 k u5 B5 k0 k1 => ?_⟩⟩
    · rw [show n + 25 - (j + 1) + 1 = n + 25 - j by omega]
      exact B4
    obtain ⟨kn, rfl⟩ := Int.eq_ofNat_of_zero_le k0
    obtain ⟨ch, hc1, hc2⟩ := sg_any kn (by omega)
    refine ⟨sgS, _, ch, rfl, rfl, by decide +kernel, hc1, _, u5 Dl _ nb d4, ?_, But.on hD u4 u5, B5.on nb, l ++ [ch], ?_, Sg.app l2 fun c hc => ?_, ?_⟩
    · rw [List.length_map, ones, List.length_map]
      exact small1000 (by omega)
    · rw [List.length_append, l1]
      rfl
    · rw [List.mem_singleton.mp hc]
      exact hc2
    · have e : ones (l ++ [ch]) = ones l ++ [⟨#[ch]⟩] := List.map_append ..
      rw [upd_same, e, List.map_append]
      rfl
  rintro H1 ⟨u1, B1, l, l1, l2, d1⟩
  refine ⟨"", Dl, ones l, rfl, rfl, .inl (SqL.of d1), ?_, ?_⟩
  · rw [ones_sum, show ("" : Str).length = 0 by decide +kernel]
    omega
  rw [join_eq]
  have pl : (Str.join "" (ones l)).length = 23 := by rw [len_tl, tl_ones, l1]
  have ps : Sg (tl (Str.join "" (ones l))) := by
    rw [tl_ones]
    exact l2
  generalize Str.join "" (ones l) = piece at pl ps
  have rl := rep_len piece 87
  have rs := sg_rep ps 87
  refine ⟨_, rfl, piece, 87, rfl, rfl, by omega, by decide, 1999, rfl, _, rfl, big_line (by omega), _, rfl, b, 43, n + 1, rfl, by decide, by decide, B1.less (by omega), fun H2 k u2 B2 k0 k1 => ?_⟩
  obtain ⟨kn, rfl⟩ := Int.eq_ofNat_of_zero_le k0
  have cl := cutS_length (rep piece 87) none (some 1999)
  have cs := sg_cut rs none (some 1999)
  generalize cutS (rep piece 87) none (some 1999) = said at cl cs
  obtain ⟨c, hc, hcs, hci⟩ := sg_all kn (by omega)
  refine ⟨_, _, rfl, ?_⟩
  refine ⟨_, rfl, _, rfl, _, rfl, sgS, _, c, rfl, rfl, by decide +kernel, hc, _, _, rfl, rfl, big_line (by show said.length + 1 ≤ _; omega), ?_⟩
  refine ⟨_, rfl, _, rfl, _, rfl, _, _, rfl, rfl, _, rfl, b, 42, n, rfl, by decide, by decide, B2, fun H3 r u3 B3 r0 r1 => ?_⟩
  obtain ⟨rn, rfl⟩ := Int.eq_ofNat_of_zero_le r0
  obtain ⟨c', hc', hcs', hci'⟩ := sg_all ((kn + 1 + rn) % 43) (Nat.mod_lt _ (by decide))
  refine ⟨_, _, rfl, rfl, _, _, rfl, rfl, (by show (0 : Int) < 43; decide), sgS, _, c', rfl, rfl, by decide +kernel, ?_, _, _, rfl, rfl, big_line (by show said.length + 1 ≤ _; omega), sz 2, fun p hp => ?_⟩
  · rw [show ((kn : Int) + 1 + (rn : Int)) % 43 = (((kn + 1 + rn) % 43 : Nat) : Int) by omega]
    exact hc'
  have one : ∀ c, c ∈ tl sgS → Sg (tl (said ++ (⟨#[c]⟩ : Str))) := fun c hcs => sg_app cs fun d hd => by
    rw [List.mem_singleton.mp (show d ∈ [c] from hd)]
    exact hcs
  have all : ∀ z ∈ [said ++ (⟨#[c]⟩ : Str), said ++ ⟨#[c']⟩], Tx z := by
    intro z hz
    simp only [List.mem_cons, List.not_mem_nil, or_false] at hz
    rcases hz with rfl | rfl
    · exact ⟨by rw [str_len_append]; show said.length + 1 ≤ 20000; omega, one c hcs⟩
    · exact ⟨by rw [str_len_append]; show said.length + 1 ≤ 20000; omega, one c' hcs'⟩
  have unlike : mkS (hashL (tl (said ++ (⟨#[c]⟩ : Str))) 7) ≠ mkS (hashL (tl (said ++ (⟨#[c']⟩ : Str))) 7) := fun z => by
    have h1 := hash_lt (tl (said ++ (⟨#[c]⟩ : Str))) 7 (by decide)
    have h2 := hash_lt (tl (said ++ (⟨#[c']⟩ : Str))) 7 (by decide)
    have e := mk_inj (by omega) (by omega) z
    rw [tl_append, tl_append] at e
    have e1 : hashL (tl said ++ tl (⟨#[c]⟩ : Str)) 7 = (hashL (tl said) 7 * 131 + sgIx c + 1) % 998244353 := hash_one _ _ _
    have e2 : hashL (tl said ++ tl (⟨#[c']⟩ : Str)) 7 = (hashL (tl said) 7 * 131 + sgIx c' + 1) % 998244353 := hash_one _ _ _
    rw [e1, e2, hci, hci'] at e
    omega
  generalize hz1 : said ++ (⟨#[c]⟩ : Str) = z1 at all unlike
  generalize hz2 : said ++ (⟨#[c']⟩ : Str) = z2 at all unlike
  have e4 := Ex.new (o := .lst [.str z1, .str z2]) hp
  have hp4 := upd_same (H := H3) (a := p) (o := .lst [.str z1, .str z2])
  have hu4 : But b H (upd H3 p (.lst [.str z1, .str z2])) := ((u1.trans u2).trans u3).trans (But.of e4)
  have B4 := B3.ex e4
  generalize upd H3 p (.lst [.str z1, .str z2]) = H4 at e4 hp4 hu4 B4
  -- the marks of both
  have turn : ∀ (Hs : Hp) (sp : Sp), True := fun _ _ => trivial
  refine ⟨_, rfl, p, rfl, ⟨_, SqL.of hp4⟩, fun D1 hD1 => ?_⟩
  refine lc_it (walk_list (xs := [.str z1, .str z2])) (fun i H5 => Ex H4 H5 ∧ H5 D1 = some (.lst ((([z1, z2].take i).map fun z => mkS (hashL (tl z) 7)).map V.str))) ⟨Ex.new hD1, upd_same⟩ (fun i H5 _ g => SqL.of (g.1 p _ hp4)) ?_ ?_
  · rintro i x H5 H6 hi ⟨e5, h5⟩ ⟨rfl, hx⟩
    obtain ⟨z, hz, rfl⟩ : ∃ z, [z1, z2][i]? = some z ∧ x = .str z := by
      rw [show [V.str z1, V.str z2] = [z1, z2].map V.str from rfl, List.getElem?_map] at hx
      cases e : [z1, z2][i]? with
      | none =>
        rw [e] at hx
        cases hx
      | some z =>
        rw [e] at hx
        cases hx
        exact ⟨z, rfl, rfl⟩
    obtain ⟨zl, zs'⟩ := all z (get_mem hz)
    refine ⟨rfl, yes ⟨_, rfl, z, rfl, by omega, zs', fun H7 e7 => ⟨_, e7 D1 _ h5, ?_, Ex.mut (e5.trans e7) hD1, ?_⟩⟩⟩
    · rw [List.length_map, List.length_map, List.length_take]
      exact small1000 (by have : [z1, z2].length = 2 := rfl; omega)
    · rw [upd_same, take_more hz, List.map_append, List.map_append]
      rfl
  rintro H5 ⟨e5, h5⟩
  refine ⟨_, rfl, _, rfl, p, rfl, ⟨_, SqL.of (e5 p _ hp4)⟩, fun D2 hD2 => ?_⟩
  refine lc_it (walk_list (xs := [.str z1, .str z2])) (fun i H6 => Ex H5 H6 ∧ H6 D2 = some (.lst ((([z1, z2].take i).map fun z => mkS (hashL (tl z) 7)).map V.str))) ⟨Ex.new hD2, upd_same⟩ (fun i H6 _ g => SqL.of (g.1 p _ (e5 p _ hp4))) ?_ ?_
  · rintro i x H6 H7 hi ⟨e6, h6⟩ ⟨rfl, hx⟩
    obtain ⟨z, hz, rfl⟩ : ∃ z, [z1, z2][i]? = some z ∧ x = .str z := by
      rw [show [V.str z1, V.str z2] = [z1, z2].map V.str from rfl, List.getElem?_map] at hx
      cases e : [z1, z2][i]? with
      | none =>
        rw [e] at hx
        cases hx
      | some z =>
        rw [e] at hx
        cases hx
        exact ⟨z, rfl, rfl⟩
    obtain ⟨zl, zs'⟩ := all z (get_mem hz)
    refine ⟨rfl, yes ⟨_, rfl, z, rfl, by omega, zs', fun H8 e8 => ⟨_, e8 D2 _ h6, ?_, Ex.mut (e6.trans e8) hD2, ?_⟩⟩⟩
    · rw [List.length_map, List.length_map, List.length_take]
      exact small1000 (by have : [z1, z2].length = 2 := rfl; omega)
    · rw [upd_same, take_more hz, List.map_append, List.map_append]
      rfl
  rintro H6 ⟨e6, h6⟩
  have g1 : H6 D1 = some (.lst [.str (mkS (hashL (tl z1) 7)), .str (mkS (hashL (tl z2) 7))]) := e6 D1 _ h5
  refine ⟨.ref D1, .ref D2, .list [.str (mkS (hashL (tl z1) 7)), .str (mkS (hashL (tl z2) 7))], rfl, .lst (SqL.of g1) (.cons (.str _) (.cons (.str _) .nil)), .lst (SqL.of h6) (.cons (.str _) (.cons (.str _) .nil)), .lst (by show 2 ≤ 1000; decide) (fun d hd => ?_), fun H7 e7 => ?_⟩
  · simp only [List.mem_cons, List.not_mem_nil, or_false] at hd
    rcases hd with rfl | rfl
    · exact .str _
    · exact .str _
  refine ⟨_, rfl, iteT ⟨_, rfl, D1, _, 0, _, rfl, rfl, SqL.of (e7 D1 _ g1), at0, _, rfl, D1, _, 1, _, rfl, rfl, SqL.of (e7 D1 _ g1), at1, rfl, ?_⟩⟩
  rw [decide_eq_false (fun z => unlike (V.str.inj z))]
  exact q H7 (hu4.trans (But.of (e5.trans (e6.trans e7)))) ((B4.ex (e5.trans (e6.trans e7))).less (by omega))
end
end V


set_option Elab.async false
set_option linter.all false
set_option maxRecDepth 100000
set_option maxHeartbeats 4000000
namespace V
open PySem PySem.Spec PyProof.Rows L2 Evl
theorem cutV_map {α : Type} (f : α → V) (xs : List α) (lo hi : Option Int) :
    cutV (xs.map f) lo hi = ((xs.drop (HT.sIx xs.length 0 lo)).take (HT.sIx xs.length xs.length hi - HT.sIx xs.length 0 lo)).map f := by
  unfold cutV
  rw [List.length_map, List.map_take, List.map_drop]
/-- the first numbers of the script, those behind added on -/
def spFold (K : PySem.W.Frag) : Sp := fun vs H Q _ => ∃ (a : Addr) (ns : List Int) (size : Nat), vs = [.ref a, .int (size : Int)] ∧ SqL K H a (ns.map V.int) ∧ ns.length ≤ 63 ∧ 0 < size ∧ size ≤ 10 ∧
  ∀ (H' : Hp) (p : Addr) (ms : List Int), H p = none → Ex H H' → H' p = some (.lst (ms.map V.int)) → ms.length ≤ size → Q (.ref p) H'
end V


set_option Elab.async false
set_option linter.all false
set_option maxRecDepth 100000
set_option maxHeartbeats 400000
namespace V
open PySem PySem.Spec PyProof.Rows L2 Evl TL NumText
def spLaw (K : PySem.W.Frag) : Sp := fun vs H Q _ => ∃ (a : Addr) (ns : List Int), vs = [.ref a] ∧ SqL K H a (ns.map V.int) ∧ ns.length ≤ 63 ∧ ∀ H' : Hp, Q (.bl true) H'
section
variable {P : Program} {w : World} {K : PySem.W.Frag} {mg : Str → Option Value} {base : Heap}
theorem ok_law (T : Txt K w mg) {fL : Addr} {fd : FuncData} (F : FunD K "law" "law" (defArgs s_law) (defBody s_law) (defScope s_law) [] [] fL fd) (G__law_folded : Cal P w K mg base 1 "_law_folded" ["script", "size"] (spFold K))
    (G__law_box : Cal P w K mg base 1 "_law_box" ["script", "k"] (spBox K)) (G__law_long_right : Cal P w K mg base 4 "_law_long_right" ["box"] spLong) (G__law_right : Cal P w K mg base 11 "_law_right" ["box"] spRight) : FnOk P w K mg base CX0 12 fL fd ["script"] (spLaw K) := by
  refine F.ok sc_law (fun vs H Q E h => ?_) (fun cdv A outer s H vs Q E hr h => ?_)
  · obtain ⟨a, ns, rfl, _⟩ := h
    rfl
  obtain ⟨a, ns, rfl, hS, hl, q⟩ := h
  have body : ∃ t, PSs (cxOf CX0 P w K mg base N_law "law" (defScope s_law) fL cdv A outer s H E).nox (defBody s_law) t ∧ t { nx := fun _ H' => Q .non H', rt := Q } (start N_law [.ref a]) H := by
    refine ⟨_, (pss_cons (ps_set (i := 1) sc_law.nd rfl (.inl rfl) (pe_fn G__law_folded hr (by omega) (pa_cons (pv 0) (pa_cons pe_int pa_nil))))
  (pss_cons (ps_if (pt_not (pt_val (pe_fn G__law_long_right hr (by omega) (pa_cons (pe_fn G__law_box hr (by omega) (pa_cons (pv 1) (pa_cons pe_int pa_nil))) pa_nil))))
    (pss_one (ps_ret pe_bl))
    pss_nil)
  (pss_cons (ps_for PassesOwn.never rfl (pi_range1 rfl T.z_range (pa_cons (pe_bi (call_max2 rfl) T.z_max (pa_cons pe_int (pa_cons (pe_bi call_len_seq T.z_len (pa_cons (pv 1) pa_nil)) pa_nil))) pa_nil)) (pg_name (i := 2) sc_law.nd rfl (.inl rfl))
    (pss_cons (ps_set (i := 3) sc_law.nd rfl (.inr rfl) (pe_fn G__law_box hr (by omega) (pa_cons (pv 1) (pa_cons (pv 2) pa_nil))))
    (pss_one (ps_if (pt_not (pt_val (pe_bi (cr_all rfl) T.z_all (pa_cons (pe_lc (own := [("turn", 4)]) (g := (gName 4)) (tt := tYes) rfl sc_law.nd (pi_range1 rfl T.z_range (pa_cons pe_int pa_nil)) (blkOk_by (N := N_law) (sc := defScope s_law) (by decide +kernel)) (fun _ _ _ _ _ => (pg_name (i := 4) sc_law.nd rfl (.inl rfl))) (fun _ _ _ _ _ => pts_nil) (fun _ _ _ _ _ => (pe_fn G__law_right hr (by omega) (pa_cons (pv 3) pa_nil)))) pa_nil))))
      (pss_one (ps_ret pe_bl))
      pss_nil))))
  (pss_one (ps_ret pe_bl))))), ?_⟩
    refine ⟨_, rfl, a, ns, 3, rfl, hS, hl, by decide, by decide, fun H1 p ms hp e1 h1 hm => ?_⟩
    refine ⟨_, rfl, p, ms, 0, rfl, SqL.of h1, by decide, fun H2 b0 hb0 e2 hB0 => ⟨b0, 1099511627751, rfl, hB0, fun H3 u3 B3 => ⟨_, rfl, iteF ?_⟩⟩⟩
    have h3 : H3 p = some (.lst (ms.map V.int)) := u3 p _ (ne_of_none h1 hb0) (e2 p _ h1)
    refine ⟨_, rfl, p, _, rfl, .inl (SqL.of h3), ?_⟩
    have hm2 : ms.length ≤ 3 := hm
    have lm : (ms.map V.int).length = ms.length := List.length_map ..
    refine ⟨_, _, rfl, _, rfl, ?_, ?_, ?_⟩
    · split <;> omega
    · split <;> omega
    have lj : (if (((ms.map V.int).length : Nat) : Int) > 1 then (((ms.map V.int).length : Nat) : Int) else 1).toNat ≤ 3 := by
      split <;> omega
    generalize (if (((ms.map V.int).length : Nat) : Int) > 1 then (((ms.map V.int).length : Nat) : Int) else 1).toNat = m at lj
    refine for_range (fun i σ H2 => (∃ y2 y3 y4, σ = [some (.ref a), some (.ref p), y2, y3, y4]) ∧ H2 p = some (.lst (ms.map V.int))) ⟨⟨none, none, none, rfl⟩, h3⟩ ?_ ?_
    · rintro i σ H2 hi ⟨⟨y2, y3, y4, rfl⟩, h2⟩
      refine ⟨_, rfl, _, rfl, p, ms, i, ?_, SqL.of h2, by omega, fun H3 b hb e3 hB => ?_⟩
      · rw [Int.zero_add]
      have hpb : p ≠ b := fun z => by
        rw [z, hb] at h2
        cases h2
      refine ⟨10, rfl, by decide, by decide, fun Dl hD => ?_⟩
      have hbl := hB.lst
      have hDb : Dl ≠ b := fun z => by
        obtain ⟨xs, hx⟩ := hbl
        rw [z, hx] at hD
        cases hD
      refine lc_range (lo := 0) (n := 10) (fun j H4 => But b H3 H4 ∧ Box H4 b (1099511627776 - 2002 * j) ∧ H4 Dl = some (.lst ((List.replicate j true).map V.bl))) ⟨But.of (Ex.new hD), hB.ex (Ex.new hD), upd_same⟩ ?_ ?_
      · rintro j H4 hj ⟨u4, B4, d4⟩
        refine ⟨rfl, yes ⟨_, rfl, b, 1099511627776 - 2002 * (j + 1), rfl, ?_, fun H5 u5 B5 => ⟨_, u5 Dl _ hDb d4, ?_, ?_, ?_, ?_⟩⟩⟩
        · rw [show 1099511627776 - 2002 * (j + 1) + 2002 = 1099511627776 - 2002 * j by omega]
          exact B4
        · rw [List.length_map, List.length_replicate]
          exact small1000 (by omega)
        · intro c o hc ho
          have n : c ≠ Dl := fun z => by
            rw [z, hD] at ho
            cases ho
          rw [upd_ne n]
          exact u5 c o hc (u4 c o hc ho)
        · obtain ⟨x, y, z, q1, q2⟩ := B5
          exact ⟨x, y, z, by rw [upd_ne hDb.symm]; exact q1, q2⟩
        · rw [upd_same]
          have e : List.replicate (j + 1) true = List.replicate j true ++ [true] := List.replicate_succ'
          rw [e, List.map_append]
          rfl
      · rintro H4 ⟨u4, B4, d4⟩
        refine ⟨Dl, _, rfl, SqL.of d4, _, rfl, iteF ⟨⟨_, _, _, rfl⟩, u4 p _ hpb (e3 p _ h2)⟩⟩
    · rintro σ H2 ⟨⟨y2, y3, y4, rfl⟩, h2⟩
      exact q H2
  obtain ⟨t, b1, b2⟩ := body
  exact ⟨t, b1.nox, b2⟩
end
end V


set_option Elab.async false
set_option linter.all false
set_option maxRecDepth 100000
set_option maxHeartbeats 4000000
namespace V
open PySem PySem.Spec PyProof.Rows L2 Evl
section
variable {P : Program} {w : World} {K : PySem.W.Frag} {mg : Str → Option Value} {base : Heap}
theorem ok_take (D : Def K mg "_law_take" s__law_take ["box", "size"]) (zd : mg "divmod" = none) : Cal P w K mg base 1 "_law_take" ["box", "size"] spTake := by
  refine D.cal sc__law_take (fun vs H Q E h => ?_) (fun f cdv A outer s H vs Q E hr h => ?_)
  · obtain ⟨b, size, n, rfl, _⟩ := h
    rfl
  obtain ⟨b, size, n, rfl, s0, s1, hB, q⟩ := h
  obtain ⟨x, y, z, hb, x0, y0, y1, z0, z1⟩ := hB
  refine ⟨_, pss_cons (ps_if (pt_cmpR op_gt (pe_ix ix_list (pv 0) pe_int (fun _ _ => rfl)) pe_int (nomark _))
      (pss_cons (ps_asg (pe_bi call_divmod zd (pa_cons (pe_ix ix_list (pv 0) pe_int (fun _ _ => rfl)) (pa_cons (pv 1) pa_nil)))
          (pg_tup rfl (pgs_cons (pg_sub (pv 0) pe_int set_list) (pgs_cons (pg_name (i := 2) sc__law_take.nd rfl (.inl rfl)) pgs_nil))))
        (pss_one (ps_ret (pv 2)))) pss_nil)
    (pss_cons (ps_if (pt_cmpR op_gt (pv 1) (pe_op op_pow pe_int pe_int) (nomark _)) pss_never pss_nil)
    (pss_cons (ps_asg (pe_op op_add (pe_ix ix_list (pv 0) pe_int (fun _ _ => rfl)) pe_int) (pg_sub (pv 0) pe_int set_list))
    (pss_cons (ps_set (i := 3) sc__law_take.nd rfl (.inl rfl) (pe_op op_add pe_int (pe_op op_mul (pe_ix ix_list (pv 0) pe_int (fun _ _ => rfl)) (pe_ix ix_list (pv 0) pe_int (fun _ _ => rfl)))))
    (pss_cons (ps_set (i := 4) sc__law_take.nd rfl (.inl rfl) (pe_op op_mod (pe_op op_mul (pe_op op_add (pe_ix ix_list (pv 0) pe_int (fun _ _ => rfl)) (pe_op op_mul pe_int (pe_ix ix_list (pv 0) pe_int (fun _ _ => rfl)))) (pv 3)) pe_int))
    (pss_cons (ps_set (i := 5) sc__law_take.nd rfl (.inl rfl) (pe_op op_mod (pe_op op_add (pe_op op_mul (pv 4) (pe_op op_add (pe_op op_mod (pv 4) pe_int) pe_int)) (pe_ix ix_list (pv 0) pe_int (fun _ _ => rfl))) pe_int))
    (pss_one (ps_ret (pe_op op_mod (pe_op op_fdiv (pe_op op_mod (pe_op op_mul (pv 5) (pe_op op_add (pe_op op_mod (pv 5) pe_int) pe_int)) pe_int) pe_int) (pv 1))))))))), ?_⟩
  have hS : SqL K H b [.int x, .int y, .int z] := .inl (.inl hb)
  refine ⟨.ref b, rfl, b, _, 0, .int x, rfl, rfl, hS, rfl, x, 0, rfl, rfl, _, rfl, ite2 (fun c => ?_) (fun c => ?_)⟩
  · -- the number's own digits
    have hx : 0 < x := of_decide_eq_true c
    refine ⟨.ref b, rfl, b, _, 0, .int x, rfl, rfl, hS, rfl, .int size, rfl, x, size, rfl, ⟨s0, by omega⟩, fun p hp => ?_⟩
    have hbp : b ≠ p := ne_of_none hb hp
    have hb1 : (upd H p (.tup [.int (x / size), .int (x % size)])) b = some (.lst [.int x, .int y, .int z]) := by
      rw [upd_ne hbp]
      exact hb
    refine ⟨p, _, rfl, .inl (.inl upd_same), rfl, .int (x / size), _, rfl, .ref b, rfl, b, [.int x, .int y, .int z], 0, 0, rfl, rfl, hb1, rfl, .int (x % size), _, rfl, rfl, ?_⟩
    refine ⟨_, rfl, q _ _ (But.upd (But.of (Ex.new hp))) ⟨x / size, y, z, upd_same, Int.ediv_nonneg x0 (by omega), y0, y1, z0, by omega⟩ (Int.emod_nonneg _ (by omega)) (Int.emod_lt_of_pos _ s0)⟩
  · refine ⟨.int size, rfl, 10, 7, rfl, rfl, ⟨by decide, by decide, by decide⟩, size, _, rfl, rfl, _, rfl, ite2 (fun c2 => ?_) (fun _ => ?_)⟩
    · have : (10 : Int) ^ (7 : Int).toNat < size := of_decide_eq_true c2
      have e7 : (10 : Int) ^ (7 : Int).toNat = 10000000 := by decide
      omega
    refine ⟨.ref b, rfl, b, _, 2, .int z, rfl, rfl, hS, rfl, z, 1, rfl, rfl, .ref b, rfl, b, [.int x, .int y, .int z], 2, 2, rfl, rfl, hb, rfl, ?_⟩
    have hb1 : (upd H b (.lst [.int x, .int y, .int (z + 1)])) b = some (.lst [.int x, .int y, .int (z + 1)]) := upd_same
    have hS1 : SqL K (upd H b (.lst [.int x, .int y, .int (z + 1)])) b [.int x, .int y, .int (z + 1)] := .inl (.inl hb1)
    refine ⟨.ref b, rfl, b, _, 2, .int (z + 1), rfl, rfl, hS1, rfl, .ref b, rfl, b, _, 2, .int (z + 1), rfl, rfl, hS1, rfl, _, _, rfl, rfl, .inl ⟨by omega, by omega⟩, _, _, rfl, rfl, ?_⟩
    refine ⟨.ref b, rfl, b, _, 1, .int y, rfl, rfl, hS1, rfl, .ref b, rfl, b, _, 2, .int (z + 1), rfl, rfl, hS1, rfl, _, _, rfl, rfl, .inl ⟨by omega, by omega⟩, _, _, rfl, rfl, _, rfl, _, _, rfl, rfl, .inl ⟨by omega, by omega⟩, _, _, rfl, rfl, (by show (0 : Int) < 2147483587; decide), ?_⟩
    refine ⟨_, rfl, _, rfl, _, _, rfl, rfl, (by show (0 : Int) < 30011; decide), _, _, rfl, rfl, _, _, rfl, rfl, .inl ⟨by omega, by omega⟩, .ref b, rfl, b, _, 2, .int (z + 1), rfl, rfl, hS1, rfl, _, _, rfl, rfl, _, _, rfl, rfl, (by show (0 : Int) < 2147483563; decide), ?_⟩
    refine ⟨_, rfl, _, rfl, _, _, rfl, rfl, (by show (0 : Int) < 1013; decide), _, _, rfl, rfl, _, _, rfl, rfl, .inl ⟨by omega, by omega⟩, _, _, rfl, rfl, (by show (0 : Int) < 998244353; decide), _, _, rfl, rfl, ⟨by decide, by decide⟩, .int size, rfl, _, _, rfl, rfl, s0, ?_⟩
    exact q _ _ (But.upd (But.refl b H)) ⟨x, y, z + 1, upd_same, x0, y0, y1, by omega, by omega⟩ (Int.emod_nonneg _ (by omega)) (Int.emod_lt_of_pos _ s0)
end
end V


set_option Elab.async false
set_option linter.all false
set_option maxRecDepth 100000
set_option maxHeartbeats 4000000
namespace V
open PySem PySem.Spec PyProof.Rows L2 Evl
section
variable {P : Program} {w : World} {K : PySem.W.Frag} {mg : Str → Option Value} {base : Heap}
theorem ok_number (D : Def K mg "_law_number" s__law_number ["box"]) (G : Cal P w K mg base 1 "_law_take" ["box", "size"] spTake) : Cal P w K mg base 2 "_law_number" ["box"] spNum := by
  refine D.cal sc__law_number (fun vs H Q E h => ?_) (fun f cdv A outer s H vs Q E hr h => ?_)
  · obtain ⟨b, n, rfl, _⟩ := h
    rfl
  obtain ⟨b, n, rfl, hB, q⟩ := h
  refine ⟨_, pss_one (ps_ret (pe_ix ix_list (pe_lst (pa_cons (pe_fn G hr (by decide) (pa_cons (pv 0) (pa_cons pe_int pa_nil)))
    (pa_cons (pe_fn G hr (by decide) (pa_cons (pv 0) (pa_cons pe_int pa_nil)))
    (pa_cons (pe_op op_sub pe_int (pe_fn G hr (by decide) (pa_cons (pv 0) (pa_cons pe_int pa_nil)))) pa_nil))))
    (pe_fn G hr (by decide) (pa_cons (pv 0) (pa_cons pe_int pa_nil))) (fun _ _ => rfl))), ?_⟩
  refine ⟨_, rfl, b, 4, n + 3, rfl, by decide, by decide, hB, fun H1 r1 u1 B1 l1 g1 => ?_⟩
  refine ⟨_, rfl, b, 1000, n + 2, rfl, by decide, by decide, B1, fun H2 r2 u2 B2 l2 g2 => ?_⟩
  refine ⟨_, rfl, b, 3, n + 1, rfl, by decide, by decide, B2, fun H3 r3 u3 B3 l3 g3 => ?_⟩
  refine ⟨_, _, rfl, rfl, sz 3, fun p hp => ?_⟩
  have e4 : Ex H3 (upd H3 p (.lst [.int r1, .int r2, .int (1000002 - r3)])) := Ex.new hp
  refine ⟨_, rfl, b, 3, n, rfl, by decide, by decide, B3.ex e4, fun H5 r5 u5 B5 l5 g5 => ?_⟩
  have hbp : p ≠ b := by
    obtain ⟨xs, hx⟩ := B3.lst
    exact (ne_of_none hx hp).symm
  have h5 : H5 p = some (.lst [.int r1, .int r2, .int (1000002 - r3)]) := u5 p _ hbp upd_same
  have but : But b H H5 := ((u1.trans u2).trans u3).trans ((But.of e4).trans u5)
  have w5 : r5 = 0 ∨ r5 = 1 ∨ r5 = 2 := by omega
  rcases w5 with rfl | rfl | rfl
  · exact ⟨p, _, 0, _, rfl, rfl, SqL.of h5, rfl, q H5 _ but B5 (by omega) (by omega)⟩
  · exact ⟨p, _, 1, _, rfl, rfl, SqL.of h5, rfl, q H5 _ but B5 (by omega) (by omega)⟩
  · exact ⟨p, _, 2, _, rfl, rfl, SqL.of h5, rfl, q H5 _ but B5 (by omega) (by omega)⟩
theorem ok_box (D : Def K mg "_law_box" s__law_box ["script", "k"]) (zl : mg "len" = none) (za : mg "abs" = none) (zi : mg "int" = none) : Cal P w K mg base 1 "_law_box" ["script", "k"] (spBox K) := by
  refine D.cal sc__law_box (fun vs H Q E h => ?_) (fun f cdv A outer s H vs Q E hr h => ?_)
  · obtain ⟨a, ns, k, rfl, _⟩ := h
    rfl
  obtain ⟨a, ns, k, rfl, hS, hk, q⟩ := h
  refine ⟨_, pss_cons (ps_set (i := 2) sc__law_box.nd rfl (.inl rfl) (pe_ifExp (pt_cmpR op_lt (pv 1) (pe_bi call_len_seq zl (pa_cons (pv 0) pa_nil)) (nomark _)) (pe_ix ix_list (pv 0) (pv 1) (fun _ _ => rfl)) pe_int))
    (pss_one (ps_ret (pe_lst (pa_cons (pe_op op_mul (pe_bi call_abs za (pa_cons (pv 2) pa_nil)) (pe_bt call_int1 zi (pa_cons (pe_cmpR op_ge (pe_bi call_abs za (pa_cons (pv 2) pa_nil)) (pe_op op_pow pe_int pe_int) (nomark _)) pa_nil)))
      (pa_cons (pe_op op_mod (pe_op op_mul (pe_op op_add (pe_op op_add (pe_op op_mod (pv 2) pe_int) (pe_op op_mul pe_int (pv 1))) pe_int) pe_int) pe_int) (pa_cons pe_int pa_nil)))))), ?_⟩
  -- behind the cell
  have fin : ∀ cell : Int, tRet (tLst (tCons (tOp (rI CMul fun i j => .int (i * j)) (tCB (fun xs H Q => ∃ i, xs = [.int i] ∧ Q (.int (if i < 0 then -i else i)) H) (tCons (tVar 2) tNil))
      (tCB (fun xs H Q => (∃ i, xs = [.int i] ∧ Q (.int i) H) ∨ ∃ k, xs = [.bl k] ∧ Q (.int (if k then 1 else 0)) H) (tCons (tOp (rI0 fun i j => .bl (decide (j ≤ i))) (tCB (fun xs H Q => ∃ i, xs = [.int i] ∧ Q (.int (if i < 0 then -i else i)) H) (tCons (tVar 2) tNil)) (tOp (rI CPow fun i j => .int (i ^ j.toNat)) (tC (.int 10)) (tC (.int 18)))) tNil)))
      (tCons (tOp (rI (fun _ j => 0 < j) fun i j => .int (i % j)) (tOp (rI CMul fun i j => .int (i * j)) (tOp (rI0 fun i j => .int (i + j)) (tOp (rI0 fun i j => .int (i + j)) (tOp (rI (fun _ j => 0 < j) fun i j => .int (i % j)) (tVar 2) (tC (.int 2147483629))) (tOp (rI CMul fun i j => .int (i * j)) (tC (.int 15485863)) (tVar 1))) (tC (.int 43))) (tC (.int 48271))) (tC (.int 2147483647)))
      (tCons (tC (.int 0)) tNil)))) { nx := fun _ H' => Q .non H', rt := Q } [some (.ref a), some (.int (k : Int)), some (.int cell)] H := by
    intro cell
    have m0 : 0 ≤ cell % 2147483629 := Int.emod_nonneg _ (by decide)
    have m1 : cell % 2147483629 < 2147483629 := Int.emod_lt_of_pos _ (by decide)
    refine ⟨_, rfl, cell, rfl, _, rfl, cell, rfl, _, _, rfl, rfl, ⟨by decide, by decide, by decide⟩, _, _, rfl, rfl, .inr ⟨_, rfl, _, _, rfl, rfl, .inr ?_, ?_⟩⟩
    · have z := ite01 (decide ((10 : Int) ^ (18 : Int).toNat ≤ if cell < 0 then -cell else cell) = true)
      exact ⟨by omega, by omega⟩
    refine ⟨_, rfl, _, _, rfl, rfl, (by show (0 : Int) < 2147483629; decide), _, rfl, _, _, rfl, rfl, .inl ⟨by decide, by decide⟩, _, _, rfl, rfl, _, _, rfl, rfl, _, _, rfl, rfl, .inl ⟨by omega, by omega⟩, _, _, rfl, rfl, (by show (0 : Int) < 2147483647; decide), ?_⟩
    refine ⟨sz 3, fun p hp => q _ p hp (Ex.new hp) ⟨_, _, _, upd_same, ?_, Int.emod_nonneg _ (by decide), Int.emod_lt_of_pos _ (by decide), by decide, by decide⟩⟩
    exact Int.mul_nonneg (by split <;> omega) (ite01 (decide ((10 : Int) ^ (18 : Int).toNat ≤ if cell < 0 then -cell else cell) = true)).1
  refine ⟨_, rfl, _, rfl, a, _, rfl, .inl hS, _, _, rfl, rfl, _, rfl, ite2 (fun c => ?_) (fun c => ?_)⟩
  · have hlt : (k : Int) < ((ns.map V.int).length : Int) := of_decide_eq_true c
    rw [List.length_map] at hlt
    have hk2 : k < ns.length := by omega
    refine ⟨_, rfl, _, rfl, a, _, _, .int ns[k], rfl, rfl, hS, atI_nat (by rw [List.getElem?_map, List.getElem?_eq_getElem hk2]; rfl), ?_⟩
    exact fin _
  · exact fin 0
end
end V


set_option Elab.async false
set_option linter.all false
set_option maxRecDepth 100000
set_option maxHeartbeats 4000000
namespace V
open PySem PySem.Spec PyProof.Rows L2 Evl
section
variable {P : Program} {w : World} {K : PySem.W.Frag} {mg : Str → Option Value} {base : Heap}
theorem ok_folded (D : Def K mg "_law_folded" s__law_folded ["script", "size"]) (zl : mg "list" = none) (ze : mg "enumerate" = none) : Cal P w K mg base 1 "_law_folded" ["script", "size"] (spFold K) := by
  refine D.cal sc__law_folded (fun vs H Q E h => ?_) (fun f cdv A outer s H vs Q E hr h => ?_)
  · obtain ⟨a, ns, size, rfl, _⟩ := h
    rfl
  obtain ⟨a, ns, size, rfl, hS, h63, s0, s1, q⟩ := h
  refine ⟨_, pss_cons (ps_set (i := 2) sc__law_folded.nd rfl (.inl rfl) (pe_bt call_list_of zl (pa_cons (pe_slice sl_list (pv 0) po_none (po_some (pv 1))) pa_nil)))
    (pss_cons (ps_for PassesOwn.never rfl (pi_enum rfl ze (pa_cons (pe_slice sl_list (pv 0) (po_some (pv 1)) (po_some pe_int)) pa_nil))
        (pg_tup rfl (pgs_cons (pg_name (i := 3) sc__law_folded.nd rfl (.inl rfl)) (pgs_cons (pg_name (i := 4) sc__law_folded.nd rfl (.inl rfl)) pgs_nil)))
      (pss_one (ps_asg (pe_op op_add (pe_ix ix_list (pv 2) (pe_op op_mod (pv 3) (pv 1)) (fun _ _ => rfl)) (pe_op op_mul (pv 4) (pe_op op_add (pv 3) pe_int))) (pg_sub (pv 2) (pe_op op_mod (pv 3) (pv 1)) set_list))))
    (pss_one (ps_ret (pv 2)))), ?_⟩
  refine ⟨_, rfl, _, rfl, _, rfl, a, _, rfl, hS, fun p1 n1 => ?_⟩
  have e1 : Ex H (upd H p1 (.lst (cutV (ns.map V.int) none (some (size : Int))))) := Ex.new n1
  refine ⟨p1, _, rfl, .inl (SqL.of upd_same), fun l nl => ?_⟩
  have e2 := e1.trans (Ex.new (o := .lst (cutV (ns.map V.int) none (some (size : Int)))) nl)
  have nlH : H l = none := fresh_back e1 nl
  refine ⟨_, rfl, _, rfl, _, rfl, _, rfl, a, _, rfl, ex_l e2 hS, fun p2 n2 => ?_⟩
  have e3 := e2.trans (Ex.new (o := .lst (cutV (ns.map V.int) (some (size : Int)) (some 63))) n2)
  refine ⟨p2, _, rfl, SqL.of upd_same, ?_⟩
  have hl1 : HT.sIx ns.length 0 (some (size : Int)) = min size ns.length := HT.sIx_nat _ _ _
  obtain ⟨ms, em, lm⟩ : ∃ ms : List Int, cutV (ns.map V.int) none (some (size : Int)) = ms.map V.int ∧ ms.length = min size ns.length := by
    refine ⟨_, cutV_map V.int ns none (some (size : Int)), ?_⟩
    rw [List.length_take, List.length_drop, HT.sIx_nat, HT.sIx_none]
    omega
  obtain ⟨bs, eb, lb⟩ : ∃ bs : List Int, cutV (ns.map V.int) (some (size : Int)) (some 63) = bs.map V.int ∧ (bs ≠ [] → size < ns.length) ∧ bs.length ≤ 63 := by
    refine ⟨_, cutV_map V.int ns (some (size : Int)) (some 63), fun ne => ?_, ?_⟩
    · by_cases c : size < ns.length
      · exact c
      · refine absurd ?_ ne
        rw [hl1, List.drop_eq_nil_of_le (by omega), List.take_nil]
    · rw [List.length_take, List.length_drop]
      omega
  rw [em] at e2 e3
  rw [eb] at e3
  rw [em, eb]
  have hp2l : p2 ≠ l := fun z => by
    rw [z, upd_same] at n2
    cases n2
  refine for_it (walk_enum (xs := bs.map V.int)) (fun i σ H3 => ∃ (y3 y4 : Option V) (cs : List Int), σ = [some (.ref a), some (.int (size : Int)), some (.ref l), y3, y4] ∧ Ex H H3 ∧ H3 l = some (.lst (cs.map V.int)) ∧ cs.length = ms.length ∧ H3 p2 = some (.lst (bs.map V.int)))
    ⟨none, none, ms, rfl, e3, ?_, rfl, upd_same⟩ (fun i σ H3 hi ⟨_, _, _, _, _, _, _, h⟩ => SqL.of h) ?_ ?_
  · rw [upd_ne hp2l.symm, upd_same]
  · rintro i v σ H3 H4 hi ⟨y3, y4, cs, rfl, e, hl, lc, hp⟩ ⟨T, x, y, rfl, nT, rfl, hx, hy⟩
    obtain rfl : V.int ((i : Nat) : Int) = x := Option.some.inj hx
    rw [List.length_map] at hi
    obtain rfl : V.int bs[i] = y := by
      have hy2 : (bs.map V.int)[i]? = some y := hy
      rw [List.getElem?_map, List.getElem?_eq_getElem hi] at hy2
      exact Option.some.inj hy2
    have hne : bs ≠ [] := fun z => by
      subst z
      cases hi
    have hsz := lb.1 hne
    have lTl : l ≠ T := ne_of_none hl nT
    have lTp : p2 ≠ T := ne_of_none hp nT
    have eT : Ex H (upd H3 T (.tup [.int ((i : Nat) : Int), .int bs[i]])) := e.trans (Ex.new nT)
    have hlT : (upd H3 T (.tup [.int ((i : Nat) : Int), .int bs[i]])) l = some (.lst (cs.map V.int)) := by
      rw [upd_ne lTl]
      exact hl
    have m0 : 0 ≤ ((i : Nat) : Int) % (size : Int) := Int.emod_nonneg _ (by omega)
    have m1 : ((i : Nat) : Int) % (size : Int) < (size : Int) := Int.emod_lt_of_pos _ (by omega)
    obtain ⟨j, ej⟩ : ∃ j : Nat, ((i : Nat) : Int) % (size : Int) = (j : Int) := ⟨(((i : Nat) : Int) % (size : Int)).toNat, by omega⟩
    have hj : j < cs.length := by omega
    refine ⟨T, _, rfl, SqT.of upd_same, rfl, _, _, rfl, _, _, rfl, rfl, ?_⟩
    refine ⟨_, rfl, _, rfl, _, rfl, _, _, rfl, rfl, (by show (0 : Int) < (size : Int); omega), l, cs.map V.int, (j : Int), .int cs[j], rfl, congrArg V.int ej, SqL.of hlT, atI_nat (by rw [List.getElem?_map, List.getElem?_eq_getElem hj]; rfl),
      _, rfl, _, rfl, _, _, rfl, rfl, _, _, rfl, rfl, .inr ⟨by omega, by omega⟩, _, _, rfl, rfl, _, rfl, _, rfl, _, rfl, _, _, rfl, rfl, (by show (0 : Int) < (size : Int); omega), l, _, (j : Int), j, rfl, congrArg V.int ej, hlT, ixN_nat (by rw [List.length_map]; exact hj), ?_⟩
    refine ⟨some (.int ((i : Nat) : Int)), some (.int bs[i]), cs.set j (cs[j] + bs[i] * (((i : Nat) : Int) + 2)), rfl, Ex.mut eT nlH, ?_, ?_, ?_⟩
    · rw [upd_same, List.map_set]
    · rw [List.length_set]
      exact lc
    · rw [upd_ne hp2l, upd_ne lTp]
      exact hp
  · rintro σ H3 ⟨y3, y4, cs, rfl, e, hl, lc, hp⟩
    exact ⟨_, rfl, q H3 l cs nlH e hl (by omega)⟩
end
end V


set_option Elab.async false
set_option linter.all false
set_option maxRecDepth 100000
set_option maxHeartbeats 400000
namespace V
open PySem PySem.Spec PyProof.Rows L2 Evl TL NumText
section
variable {P : Program} {w : World} {K : PySem.W.Frag} {mg : Str → Option Value} {base : Heap}
theorem ok_someMark (T : Txt K w mg) (G__law_take : Cal P w K mg base 1 "_law_take" ["box", "size"] spTake) : Cal P w K mg base 2 "_law_some_mark" ["box"] spSomeMark := by
  refine T.D__law_some_mark.cal sc__law_some_mark (fun vs H Q E h => ?_) (fun f cdv A outer s H vs Q E hr h => ?_)
  · obtain ⟨b, n, rfl, _⟩ := h
    rfl
  obtain ⟨b, n, rfl, hB, q⟩ := h
  refine ⟨_, (pss_cons (ps_set (i := 1) sc__law_some_mark.nd rfl (.inr rfl) pe_str)
  (pss_cons (ps_set (i := 2) sc__law_some_mark.nd rfl (.inl rfl) (pe_fn G__law_take hr (by omega) (pa_cons (pv 0) (pa_cons pe_int pa_nil))))
  (pss_cons (ps_if (pt_cmpR op_lt (pv 2) pe_int (nomark _))
    (pss_one (ps_ret (pe_ix (r := rIxL K) ix_list (pe_lst (pa_cons pe_str (pa_cons pe_str pa_nil))) (pv 2) (fun _ _ => rfl))))
    pss_nil)
  (pss_one (ps_ret (pe_join pe_str (pe_lc (own := [("turn", 3)]) (g := (gName 3)) (tt := tYes) rfl sc__law_some_mark.nd (pi_range1 rfl T.z_range (pa_cons pe_int pa_nil)) (blkOk_by (N := N__law_some_mark) (sc := defScope s__law_some_mark) (by decide +kernel)) (fun _ _ _ _ _ => (pg_name (i := 3) sc__law_some_mark.nd rfl (.inl rfl))) (fun _ _ _ _ _ => pts_nil) (fun _ _ _ _ _ => (pe_ix ix_str (pv 1) (pe_fn G__law_take hr (by omega) (pa_cons (pv 0) (pa_cons pe_int pa_nil))) (fun _ _ => rfl)))))))))), ?_⟩
  refine ⟨_, rfl, b, 6, n + 6, rfl, by decide, by decide, hB, fun H1 r u1 B1 r0 r1 => ?_⟩
  refine ⟨_, rfl, _, _, rfl, rfl, _, rfl, ?_⟩
  by_cases c : r < 2
  · rw [decide_eq_true c]
    refine iteT ⟨sz 2, fun p hp => ⟨_, rfl, p, [.str "000000", .str "zzzzzz"], r, ?_⟩⟩
    have w2 : r = 0 ∨ r = 1 := by omega
    have fin : ∀ m : Str, isMk m → Q (.str m) (upd H1 p (.lst [.str "000000", .str "zzzzzz"])) := fun m hm => q _ m (u1.trans (But.of (Ex.new hp))) ((B1.ex (Ex.new hp)).less (by omega)) hm
    rcases w2 with rfl | rfl
    · exact ⟨_, rfl, rfl, SqL.of upd_same, at0, fin _ ⟨by decide +kernel, by decide +kernel⟩⟩
    · exact ⟨_, rfl, rfl, SqL.of upd_same, at1, fin _ ⟨by decide +kernel, by decide +kernel⟩⟩
  · rw [decide_eq_false c]
    refine iteF ⟨⟨_, rfl⟩, 6, rfl, by decide, by decide, fun Dl hD => ?_⟩
    have hDb : Dl ≠ b := fun z => by
      obtain ⟨xs, hx⟩ := B1.lst
      rw [z, hx] at hD
      cases hD
    refine lc_range (lo := 0) (n := 6) (fun j H4 => But b H1 H4 ∧ Box H4 b (n + 6 - j) ∧ ∃ l : List Nat, l.length = j ∧ (∀ c ∈ l, (48 ≤ c ∧ c ≤ 57) ∨ (97 ≤ c ∧ c ≤ 122)) ∧ H4 Dl = some (.lst ((ones l).map V.str))) ⟨But.of (Ex.new hD), B1.ex (Ex.new hD), [], rfl, (fun c h => by cases h), upd_same⟩ ?_ ?_
    · rintro j H4 hj ⟨u4, B4, l, l1, l2, d4⟩
      refine ⟨rfl, yes ⟨_, rfl, _, rfl, b, 36, n + 6 - (j + 1), rfl, by decide, by decide, ?_, fun H5 k u5 B5 k0 k1 => ?_⟩⟩
      · rw [show n + 6 - (j + 1) + 1 = n + 6 - j by omega]
        exact B4
      obtain ⟨kn, rfl⟩ := Int.eq_ofNat_of_zero_le k0
      obtain ⟨ch, hc1, hc2⟩ := sg36_at kn (by omega)
      refine ⟨sg36, _, ch, rfl, rfl, by decide +kernel, hc1, _, u5 Dl _ hDb d4, ?_, ?_, ?_, l ++ [ch], ?_, ?_, ?_⟩
      · rw [List.length_map, ones, List.length_map]
        exact small1000 (by omega)
      · intro a o ha ho
        have n : a ≠ Dl := fun z => by
          rw [z, hD] at ho
          cases ho
        rw [upd_ne n]
        exact u5 a o ha (u4 a o ha ho)
      · obtain ⟨x, y, z, q1, q2⟩ := B5
        exact ⟨x, y, z, by rw [upd_ne hDb.symm]; exact q1, q2⟩
      · rw [List.length_append, l1]
        rfl
      · intro c hc
        rcases List.mem_append.mp hc with hc | hc
        · exact l2 c hc
        · rw [List.mem_singleton.mp hc]
          exact hc2
      · have e : ones (l ++ [ch]) = ones l ++ [⟨#[ch]⟩] := List.map_append ..
        rw [upd_same, e, List.map_append]
        rfl
    · rintro H4 ⟨u4, B4, l, l1, l2, d4⟩
      refine ⟨"", Dl, ones l, rfl, rfl, .inl (SqL.of d4), ?_, ?_⟩
      · rw [ones_sum, show ("" : Str).length = 0 by decide +kernel]
        omega
      · rw [join_eq]
        refine q H4 _ (u1.trans u4) B4 ⟨?_, fun c hc => l2 c ?_⟩
        · rw [len_tl, tl_ones, l1]
        · have h2 : c ∈ tl (Str.join "" (ones l)) := hc
          rw [tl_ones] at h2
          exact h2
end
end V


set_option Elab.async false
set_option linter.all false
set_option maxRecDepth 100000
set_option maxHeartbeats 400000
namespace V
open PySem PySem.Spec PyProof.Rows L2 Evl TL NumText
section
variable {P : Program} {w : World} {K : PySem.W.Frag} {mg : Str → Option Value} {base : Heap}
theorem ok_term (T : Txt K w mg) (G__law_take : Cal P w K mg base 1 "_law_take" ["box", "size"] spTake) (G__law_number : Cal P w K mg base 2 "_law_number" ["box"] spNum) :
    ∀ d : Nat, Cal P w K mg base (d + 2) "_law_term" ["box", "many", "heads", "tall"] (spTerm d)
  | 0 => (T.D__law_term.never fun vs H Q E h => by
      obtain ⟨b, hp, n, many, tall, _, _, h1, h2, _⟩ := h
      omega).mono (Nat.zero_le _)
  | d + 1 => by
    have G__law_term := ok_term T G__law_take G__law_number d
    refine T.D__law_term.cal sc__law_term (fun vs H Q E h => ?_) (fun f cdv A outer s H vs Q E hr h => ?_)
    · obtain ⟨b, hp, n, many, tall, rfl, _⟩ := h
      rfl
    obtain ⟨b, hp, n, many, tall, rfl, hB, t1, t2, m1, m2, hn, hh, q⟩ := h
    refine ⟨_, (pss_cons (ps_set (i := 4) sc__law_term.nd rfl (.inl rfl) (pe_ifExp (pt_cmpR op_gt (pv 3) pe_int (nomark _)) (pe_fn G__law_take hr (by omega) (pa_cons (pv 0) (pa_cons pe_int pa_nil))) (pe_fn G__law_take hr (by omega) (pa_cons (pv 0) (pa_cons pe_int pa_nil)))))
  (pss_cons (ps_if (PW.pt (pw_or (pt_cmpR op_eq (pv 4) pe_int (nomark _)) (pw_or1 (PW.pt (pw_and (pt_cmpR op_eq (pv 4) pe_int (nomark _)) (pw_and1 (pt_cmpR op_eq (pv 1) pe_int (nomark _))))))))
    (pss_one (ps_ret (pe_tup (pa_cons pe_str (pa_cons (pe_fn G__law_number hr (by omega) (pa_cons (pv 0) pa_nil)) pa_nil)))))
    pss_nil)
  (pss_cons (ps_if (pt_cmpR op_eq (pv 4) pe_int (nomark _))
    (pss_one (ps_ret (pe_tup (pa_cons pe_str (pa_cons (pe_fn G__law_take hr (by omega) (pa_cons (pv 0) (pa_cons (pv 1) pa_nil))) pa_nil)))))
    pss_nil)
  (pss_cons (ps_if (PW.pt (pw_or (pt_cmpR op_lt (pv 4) pe_int (nomark _)) (pw_or1 (PW.pt (pw_and (pt_cmpR (op_eqD hr.units) (pv 2) (pe_lst pa_nil) (nomark _)) (pw_and1 (pt_cmpR op_gt (pv 4) pe_int (nomark _))))))))
    (pss_cons (ps_par (i := 5) (j := 6) rfl sc__law_term.nd rfl rfl (by decide) rfl rfl (pa_cons (pe_ix (r := rIxL K) ix_list (pe_lst (pa_cons pe_str (pa_cons pe_str (pa_cons pe_str (pa_cons pe_str pa_nil))))) (pe_fn G__law_take hr (by omega) (pa_cons (pv 0) (pa_cons pe_int pa_nil))) (fun _ _ => rfl)) (pa_cons (pe_fn G__law_term hr (by omega) (pa_cons (pv 0) (pa_cons (pv 1) (pa_cons (pv 2) (pa_cons (pe_op op_sub (pv 3) pe_int) pa_nil))))) pa_nil)) rfl)
    (pss_one (ps_ret (pe_tup (pa_cons (pv 5) (pa_cons (pv 6) (pa_cons (pe_fn G__law_term hr (by omega) (pa_cons (pv 0) (pa_cons (pv 1) (pa_cons (pv 2) (pa_cons (pe_op op_sub (pv 3) pe_int) pa_nil))))) pa_nil)))))))
    pss_nil)
  (pss_cons (ps_if (pt_cmpR op_eq (pv 4) pe_int (nomark _))
    (pss_cons (ps_par (i := 6) (j := 7) rfl sc__law_term.nd rfl rfl (by decide) rfl rfl (pa_cons (pe_fn G__law_term hr (by omega) (pa_cons (pv 0) (pa_cons (pv 1) (pa_cons (pv 2) (pa_cons (pe_op op_sub (pv 3) pe_int) pa_nil))))) (pa_cons (pe_fn G__law_term hr (by omega) (pa_cons (pv 0) (pa_cons (pv 1) (pa_cons (pv 2) (pa_cons (pe_op op_sub (pv 3) pe_int) pa_nil))))) pa_nil)) rfl)
    (pss_one (ps_ret (pe_tup (pa_cons pe_str (pa_cons (pv 6) (pa_cons (pv 7) (pa_cons (pe_fn G__law_term hr (by omega) (pa_cons (pv 0) (pa_cons (pv 1) (pa_cons (pv 2) (pa_cons (pe_op op_sub (pv 3) pe_int) pa_nil))))) pa_nil))))))))
    pss_nil)
  (pss_cons (ps_asg (pe_ix (r := rIxL K) ix_list (pv 2) (pe_fn G__law_take hr (by omega) (pa_cons (pv 0) (pa_cons (pe_bi call_len_seq T.z_len (pa_cons (pv 2) pa_nil)) pa_nil))) (fun _ _ => rfl)) (pg_tup rfl (pgs_cons (pg_name (i := 8) sc__law_term.nd rfl (.inl rfl)) (pgs_cons (pg_name (i := 9) sc__law_term.nd rfl (.inl rfl)) pgs_nil))))
  (pss_cons (ps_set (i := 10) sc__law_term.nd rfl (.inl rfl) (pe_lst pa_nil))
  (pss_cons (ps_for PassesOwn.never rfl (pi_range1 rfl T.z_range (pa_cons (pv 9) pa_nil)) (pg_name (i := 11) sc__law_term.nd rfl (.inl rfl))
    (pss_one (ps_expr (pe_bm PySem.F.plainAttrs_list PySem.F.slot_list_append PySem.F.type_list_append mt_append (pv 10) (pa_cons (pe_fn G__law_term hr (by omega) (pa_cons (pv 0) (pa_cons (pv 1) (pa_cons (pv 2) (pa_cons (pe_op op_sub (pv 3) pe_int) pa_nil))))) pa_nil)))))
  (pss_one (ps_ret (pe_op op_catA (pv 8) (pe_tup (pa_cons (pe_bt call_tuple_of T.z_tuple (pa_cons (pv 10) pa_nil)) pa_nil))))))))))))), ?_⟩
    let A0 : L2.St → Hp → Prop := fun σ H' => σ = [some (.ref b), some (.int (many : Int)), some (.ref hp), some (.int (tall : Int)), none, none, none, none, none, none, none, none] ∧ H' = H
    let A1 : L2.St → Hp → Prop := fun σ H' => ∃ r : Int, σ = [some (.ref b), some (.int (many : Int)), some (.ref hp), some (.int (tall : Int)), some (.int r), none, none, none, none, none, none, none] ∧ 0 ≤ r ∧ r < 9 ∧ (r < 2 ∨ 2 ≤ tall) ∧ But b H H' ∧ Box H' b (n + 4 + 4 * cost d) ∧ Heads H' hp
    have hB0 : Box H b (n + 4 + 4 * cost d + 1) := by
      have e : n + 4 + 4 * cost d + 1 = n + cost (d + 1) := by show _ = n + (5 + 4 * cost d); omega
      rw [e]
      exact hB
    refine (Hs.fin (A := A0) (B := A1) ?_ (Q := Q) ?_) _ _ H ⟨rfl, rfl⟩ fun v H' h => h
    · rintro D σ H' ⟨rfl, rfl⟩ kk
      obtain ⟨xs, hx⟩ := hB0.lst
      refine ⟨_, rfl, _, _, rfl, rfl, _, rfl, ?_⟩
      by_cases c : 2 ≤ tall
      · rw [show decide ((1 : Int) < (tall : Int)) = true from decide_eq_true (by omega)]
        exact iteT ⟨_, rfl, b, 9, _, rfl, by decide, by decide, hB0, fun H1 r u1 B1 r0 r1 => kk _ _ ⟨r, rfl, r0, r1, .inr c, u1, B1, hh.but hx hn u1⟩⟩
      · rw [show decide ((1 : Int) < (tall : Int)) = false from decide_eq_false (by omega)]
        exact iteF ⟨_, rfl, b, 2, _, rfl, by decide, by decide, hB0, fun H1 r u1 B1 r0 r1 => kk _ _ ⟨r, rfl, r0, by omega, .inl r1, u1, B1, hh.but hx hn u1⟩⟩
    · rintro D σ H1 ⟨r, rfl, r0, r9, rt, u1, B1, hh1⟩ kk
      have fin : ∀ (H' : Hp) (v : V) (t : Tm) (k : Nat), But b H H' → Box H' b (n + k) → TmAt H' v t → t.Ok 11 → t.deep ≤ d + 1 → t.size ≤ most (d + 1) → D.rt v H' := fun H' v t k a1 a2 a3 a4 a5 a6 => kk _ _ (q H' v t a1 (a2.less (by omega)) a3 a4 a5 a6)
      have szd : 1 + 4 * most d = most (d + 1) := rfl
      refine ⟨_, rfl, rfl, _, rfl, ?_⟩
      rw [dec_ii]
      by_cases c0 : r = 0
      · rw [decide_eq_true c0]
        refine iteT (iteT ⟨_, rfl, b, n + 4 * cost d, rfl, B1.less (by omega), fun H2 x u2 B2 x0 x1 => ⟨sz 2, fun p hp2 => ?_⟩⟩)
        obtain ⟨xn, rfl⟩ := Int.eq_ofNat_of_zero_le x0
        exact fin _ _ (.num xn) _ (u1.trans (u2.trans (But.of (Ex.new hp2)))) (B2.ex (Ex.new hp2)) (.num upd_same) (.num (by omega)) (by show 1 ≤ d + 1; omega) (by show 1 ≤ 1 + 4 * most d; omega)
      rw [decide_eq_false c0]
      refine iteF ⟨_, rfl, rfl, _, rfl, ?_⟩
      rw [dec_ii]
      by_cases c1 : r = 1
      · rw [decide_eq_true c1]
        refine iteT ⟨_, rfl, rfl, _, rfl, ?_⟩
        rw [dec_ii, decide_eq_false (by omega)]
        refine iteF ⟨_, rfl, rfl, _, rfl, ?_⟩
        rw [dec_ii, decide_eq_true c1]
        refine iteT ⟨_, rfl, _, rfl, b, many, n + 3 + 4 * cost d, rfl, by omega, by omega, B1.less (by omega), fun H2 x u2 B2 x0 x1 => ⟨sz 2, fun p hp2 => ?_⟩⟩
        obtain ⟨xn, rfl⟩ := Int.eq_ofNat_of_zero_le x0
        exact fin _ _ (.arg xn) (3 + 4 * cost d) (u1.trans (u2.trans (But.of (Ex.new hp2)))) ((B2.ex (Ex.new hp2)).less (by omega)) (.arg upd_same) (.arg (by omega)) (by show 1 ≤ d + 1; omega) (by show 1 ≤ 1 + 4 * most d; omega)
      rw [decide_eq_false c1]
      refine iteF (iteF ⟨_, rfl, rfl, _, rfl, ?_⟩)
      rw [dec_ii, decide_eq_false c1]
      have t3 : 2 ≤ tall := by omega
      have tm : ((tall - 1 : Nat) : Int) = (tall : Int) - 1 := by omega
      have sub : ∀ (H2 : Hp) (k : Nat) (Q2 : VK), Box H2 b (k + cost d) → Heads H2 hp → Drawn b k d H2 Q2 → spTerm d [.ref b, .int (many : Int), .ref hp, .int ((tall : Int) - 1)] H2 Q2 E0 := fun H2 k Q2 hB2 hh2 dr =>
        ⟨b, hp, k, many, tall - 1, by rw [tm], hB2, by omega, by omega, m1, m2, hn, hh2, dr⟩
      refine iteF ⟨_, rfl, _, _, rfl, rfl, _, rfl, ?_⟩
      by_cases c5 : r < 5
      · rw [decide_eq_true c5]
        refine iteT ⟨sz 4, fun pl hpl => ⟨_, rfl, b, 4, n + 3 + 4 * cost d, rfl, by decide, by decide, (B1.ex (Ex.new hpl)).less (by omega), fun H3 k u3 B3 k0 k1 => ?_⟩⟩
        obtain ⟨xs, hx⟩ := B1.lst
        have npl : pl ≠ b := fun z => by
          rw [z, hx] at hpl
          cases hpl
        have u13 : But b H1 H3 := (But.of (Ex.new hpl)).trans u3
        have hl3 := u3 pl _ npl upd_same
        have hh3 := hh1.but hx hn u13
        obtain ⟨o, ho, oa⟩ : ∃ o : Op, atI [V.str "add", V.str "less", V.str "times", V.str "under"] k = some (.str o.str) ∧ o.ar = 2 := by
          have w4 : k = 0 ∨ k = 1 ∨ k = 2 ∨ k = 3 := by omega
          rcases w4 with rfl | rfl | rfl | rfl
          · exact ⟨.add, rfl, rfl⟩
          · exact ⟨.less, rfl, rfl⟩
          · exact ⟨.times, rfl, rfl⟩
          · exact ⟨.under, rfl, rfl⟩
        refine ⟨pl, _, k, _, rfl, rfl, SqL.of hl3, ho, _, rfl, _, rfl, _, rfl, _, rfl, _, _, rfl, rfl, sub H3 (n + 3 * cost d) _ (B3.less (by omega)) hh3 fun H4 v1 s1 u4 B4 g1 o1 d1 z1 => ?_⟩
        obtain ⟨xs3, hx3⟩ := B3.lst
        have hh4 := hh3.but hx3 hn u4
        refine ⟨_, _, rfl, _, rfl, _, rfl, _, rfl, _, rfl, _, rfl, _, rfl, _, _, rfl, rfl, sub H4 (n + 2 * cost d) _ (B4.less (by omega)) hh4 fun H5 v2 s2 u5 B5 g2 o2 d2 z2 => ⟨sz 3, fun p hp5 => ?_⟩⟩
        have e6 := Ex.new (o := .tup [.str o.str, v1, v2]) hp5
        refine fin _ _ (.node (.op o) [s1, s2]) (2 * cost d) (u1.trans (u13.trans (u4.trans (u5.trans (But.of e6))))) (B5.ex e6) (.op upd_same (.cons ((g1.tu (B4.tu u5)).ex e6) (.cons (g2.ex e6) .nil))) (.node oa.symm fun t ht => ?_) ?_ ?_
        · simp only [List.mem_cons, List.not_mem_nil, or_false] at ht
          rcases ht with rfl | rfl
          · exact o1
          · exact o2
        · show 1 + max s1.deep (max s2.deep 0) ≤ d + 1
          omega
        · show 1 + (s1.size + (s2.size + 0)) ≤ 1 + 4 * most d
          omega
      rw [decide_eq_false c5]
      obtain ⟨dd, dp1, dp2, dp3⟩ := hh1.dp (K := K)
      refine iteF ⟨_, rfl, sz 0, fun pe hpe => ⟨dd, .list [], dp_ex (Ex.new hpe) dp1, .lst (SqL.of upd_same) .nil, dp2, rfl, _, rfl, ?_⟩⟩
      rw [dp3]
      have e2 := Ex.new (o := .lst []) hpe
      have u2 : But b H (upd H1 pe (.lst [])) := u1.trans (But.of e2)
      have B2 := B1.ex e2
      have hh2 : Heads (upd H1 pe (.lst [])) hp := by
        obtain ⟨xs, hx⟩ := B1.lst
        exact hh1.but hx hn (But.of e2)
      generalize upd H1 pe (.lst []) = H2 at u2 B2 hh2
      refine iteF (iteF ⟨_, rfl, rfl, _, rfl, ?_⟩)
      rw [dec_ii]
      by_cases c6 : r = 5
      · rw [decide_eq_true c6]
        obtain ⟨xs, hx⟩ := B2.lst
        refine iteT ⟨_, rfl, _, rfl, _, rfl, _, rfl, _, _, rfl, rfl, sub H2 (n + 3 * cost d) _ (B2.less (by omega)) hh2 fun H3 v1 s1 u3 B3 g1 o1 d1 z1 => ?_⟩
        have hh3 := hh2.but hx hn u3
        obtain ⟨xs3, hx3⟩ := B3.lst
        refine ⟨_, rfl, _, rfl, _, rfl, _, rfl, _, _, rfl, rfl, sub H3 (n + 2 * cost d) _ (B3.less (by omega)) hh3 fun H4 v2 s2 u4 B4 g2 o2 d2 z2 => ⟨_, _, rfl, ?_⟩⟩
        have hh4 := hh3.but hx3 hn u4
        refine ⟨_, rfl, _, rfl, _, rfl, _, rfl, _, rfl, _, rfl, _, _, rfl, rfl, sub H4 (n + cost d) _ (B4.less (by omega)) hh4 fun H5 v3 s3 u5 B5 g3 o3 d3 z3 => ⟨sz 4, fun p hp5 => ?_⟩⟩
        have e6 := Ex.new (o := .tup [.str "if", v1, v2, v3]) hp5
        refine fin _ _ (.node (.op .cond) [s1, s2, s3]) (cost d) (u2.trans (u3.trans (u4.trans (u5.trans (But.of e6))))) (B5.ex e6) (.op upd_same (.cons (((g1.tu (B3.tu u4)).tu (B4.tu u5)).ex e6) (.cons ((g2.tu (B4.tu u5)).ex e6) (.cons (g3.ex e6) .nil)))) (.node rfl fun t ht => ?_) ?_ ?_
        · simp only [List.mem_cons, List.not_mem_nil, or_false] at ht
          rcases ht with rfl | rfl | rfl
          · exact o1
          · exact o2
          · exact o3
        · show 1 + max s1.deep (max s2.deep (max s3.deep 0)) ≤ d + 1
          omega
        · show 1 + (s1.size + (s2.size + (s3.size + 0))) ≤ 1 + 4 * most d
          omega
      rw [decide_eq_false c6]
      obtain ⟨hv, hv1, hv2, hv3⟩ := hh2.get
      refine iteF ⟨_, rfl, _, rfl, _, rfl, hp, hv, rfl, .inl (SqL.of hv1), b, 4, n + 3 + 4 * cost d, by rw [hv2]; rfl, by decide, by decide, B2.less (by omega), fun H3 k u3 B3 k0 k1 => ?_⟩
      obtain ⟨xs, hx⟩ := B2.lst
      have hh3 := hh2.but hx hn u3
      obtain ⟨kn, rfl⟩ := Int.eq_ofNat_of_zero_le k0
      obtain ⟨v, hd, sn, e1, e2', e3, e4⟩ := hv3 kn (by omega)
      obtain ⟨a, c, rfl, ha, hc⟩ := e2'.tu (B2.tu u3)
      refine ⟨hp, hv, kn, _, rfl, rfl, SqL.of (u3 hp _ hn hv1), atI_nat e1, a, _, rfl, SqT.of ha, rfl, .ref c, _, rfl, .int (sn : Int), _, rfl, rfl, sz 0, fun l hl => ?_⟩
      have s4 : sn ≤ 4 := Hd.ok.le e4
      have nlb : l ≠ b := fun z => by
        obtain ⟨ys, hy⟩ := B3.lst
        rw [z, hy] at hl
        cases hl
      obtain ⟨xs3, hx3⟩ := B3.lst
      have step : ∀ i : Nat, i < 4 → (4 - i) * cost d = (4 - (i + 1)) * cost d + cost d := fun i hi => by rw [show 4 - i = (4 - (i + 1)) + 1 by omega, Nat.add_mul, Nat.one_mul]
      refine ⟨_, rfl, (sn : Int), rfl, by omega, by omega, ?_⟩
      refine for_range (n := sn) (fun i σ H' => ∃ (vs : List V) (ts : List Tm) (y : Option V), σ = [some (.ref b), some (.int (many : Int)), some (.ref hp), some (.int (tall : Int)), some (.int r), none, none, none, some (.ref c), some (.int (sn : Int)), some (.ref l), y] ∧
        But b H3 H' ∧ Box H' b (n + (4 - i) * cost d) ∧ H' l = some (.lst vs) ∧ TmsAt H' vs ts ∧ ts.length = i ∧ ∀ t ∈ ts, t.Ok 11 ∧ t.deep ≤ d ∧ t.size ≤ most d)
        ⟨[], [], none, rfl, But.of (Ex.new hl), (B3.less (by show n + 4 * cost d ≤ _; omega)).ex (Ex.new hl), upd_same, .nil, rfl, fun t h => by cases h⟩ ?_ ?_
      · rintro i σ H4 hi ⟨vs, ts, y, rfl, u4, B4, hl4, g4, len, all⟩
        have hh4 := hh3.but hx3 hn u4
        refine ⟨_, rfl, .inl ⟨rfl, vs, SqL.of hl4⟩, _, rfl, _, rfl, _, rfl, _, rfl, _, _, rfl, rfl, sub H4 (n + (4 - (i + 1)) * cost d) _ (B4.less (by rw [step i (by omega)]; omega)) hh4 fun H5 v t u5 B5 g5 o5 d5 z5 => ?_⟩
        have hl5 := u5 l _ nlb hl4
        have tu : Tu H5 (upd H5 l (.lst (vs ++ [v]))) := (But.upd (But.refl l H5)).tu hl5
        refine ⟨l, vs, v, rfl, rfl, hl5, small1000 (by rw [g4.length, len]; omega), vs ++ [v], ts ++ [t], _, rfl, ?_, ?_, upd_same, ((g4.tu (B4.tu u5)).tu tu).append (.cons (g5.tu tu) .nil), by rw [List.length_append, len]; rfl, fun x hx5 => ?_⟩
        · intro a o ha ho
          have na : a ≠ l := fun z => by
            rw [z, hl] at ho
            cases ho
          rw [upd_ne na]
          exact u5 a o ha (u4 a o ha ho)
        · obtain ⟨x, y, z, q1, q2⟩ := B5
          exact ⟨x, y, z, by rw [upd_ne nlb.symm]; exact q1, q2⟩
        · rcases List.mem_append.mp hx5 with hx5 | hx5
          · exact all x hx5
          · rw [List.mem_singleton.mp hx5]
            exact ⟨o5, d5, z5⟩
      · rintro σ H4 ⟨vs, ts, y, rfl, u4, B4, hl4, g4, len, all⟩
        have hc4 := B3.tu u4 c _ hc
        refine ⟨_, rfl, _, rfl, l, vs, rfl, .inl ⟨SqL.of hl4, fun pt hpt => ⟨sz 1, fun pp hpp => ?_⟩⟩⟩
        have f1 := Ex.new (o := .tup vs) hpt
        have f2 := Ex.new (o := .tup [.ref pt]) hpp
        have nL : hd.L ≠ [] := by cases hd <;> exact fun z => by cases z
        refine ⟨c, pp, hd.L, [.ref pt], rfl, rfl, SqT.of ((f1.trans f2) c _ hc4), SqT.of upd_same, ?_, fun z => absurd z nL, (fun _ z => by cases z), fun _ _ p hp6 => ?_⟩
        · have h3 : hd.L.length ≤ 2 := by cases hd <;> exact Nat.le_of_ble_eq_true rfl
          exact Nat.le_trans (show hd.L.length + 1 ≤ 3 by omega) (by decide)
        have f3 := Ex.new (o := .tup (hd.L ++ [.ref pt])) hp6
        have hpt3 := f3 _ _ (f2 _ _ (upd_same (H := H4) (a := pt) (o := .tup vs)))
        have gg := g4.ex (f1.trans (f2.trans f3))
        have uu := u2.trans (u3.trans (u4.trans (But.of (f1.trans (f2.trans f3)))))
        have BB := B4.ex (f1.trans (f2.trans f3))
        have hok : Tm.Ok 11 (.node hd ts) := .node (by rw [len]; exact e4) fun t ht => (all t ht).1
        have hdp : (Tm.node hd ts).deep ≤ d + 1 := by
          have := deeps_le ts d fun t ht => (all t ht).2.1
          show 1 + Tm.deeps ts ≤ d + 1
          omega
        have hsz : (Tm.node hd ts).size ≤ most (d + 1) := by
          have h1 := sizes_le ts (most d) fun t ht => (all t ht).2.2
          have h2 : ts.length * most d ≤ 4 * most d := Nat.mul_le_mul_right _ (by omega)
          show 1 + Tm.sizes ts ≤ 1 + 4 * most d
          omega
        cases hd with
        | op o => cases e3
        | call m => exact fin _ _ _ _ uu BB (.call upd_same hpt3 gg) hok hdp hsz
        | ring j => exact fin _ _ _ _ uu BB (.ring upd_same hpt3 gg) hok hdp hsz
end
end V


set_option Elab.async false
set_option linter.all false
set_option maxRecDepth 100000
set_option maxHeartbeats 400000
namespace V
open PySem PySem.Spec PyProof.Rows L2 Evl TL NumText
section
variable {P : Program} {w : World} {K : PySem.W.Frag} {mg : Str → Option Value} {base : Heap}
theorem ok_anyTerm (T : Txt K w mg) (G__law_take : Cal P w K mg base 1 "_law_take" ["box", "size"] spTake) (G__law_number : Cal P w K mg base 2 "_law_number" ["box"] spNum) (G__law_some_mark : Cal P w K mg base 2 "_law_some_mark" ["box"] spSomeMark)
    (G__law_term : Cal P w K mg base 5 "_law_term" ["box", "many", "heads", "tall"] (spTerm 3)) : Cal P w K mg base 6 "_law_any_term" ["box"] spAny := by
  refine T.D__law_any_term.cal sc__law_any_term (fun vs H Q E h => ?_) (fun f cdv A outer s H vs Q E hr h => ?_)
  · obtain ⟨b, n, rfl, _⟩ := h
    rfl
  obtain ⟨b, n, rfl, hB, q⟩ := h
  refine ⟨_, (pss_cons (ps_setLc (i := 1) (own := [("turn", 3)]) (g := (gName 3)) (tt := tYes) rfl sc__law_any_term.nd rfl rfl (sw_true rfl rfl rfl rfl) (pi_range1 rfl T.z_range (pa_cons pe_int pa_nil)) (blkOk_by (N := N__law_any_term) (sc := defScope s__law_any_term) (by decide +kernel)) (fun _ _ _ _ _ => (pg_name (i := 3) sc__law_any_term.nd rfl (.inl rfl))) (fun _ _ _ _ _ => pts_nil) (fun _ _ _ _ _ => (pe_tup (pa_cons (pe_tup (pa_cons pe_str (pa_cons (pe_fn G__law_some_mark hr (by omega) (pa_cons (pv 0) pa_nil)) pa_nil))) (pa_cons (pe_fn G__law_take hr (by omega) (pa_cons (pv 0) (pa_cons pe_int pa_nil))) pa_nil)))))
  (pss_cons (ps_set (i := 1) sc__law_any_term.nd rfl (.inl rfl) (pe_op op_cat (pv 1) (pe_lc (own := [("turn", 3)]) (g := (gName 3)) (tt := tYes) rfl sc__law_any_term.nd (pi_range1 rfl T.z_range (pa_cons pe_int pa_nil)) (blkOk_by (N := N__law_any_term) (sc := defScope s__law_any_term) (by decide +kernel)) (fun _ _ _ _ _ => (pg_name (i := 3) sc__law_any_term.nd rfl (.inl rfl))) (fun _ _ _ _ _ => pts_nil) (fun _ _ _ _ _ => (pe_tup (pa_cons (pe_tup (pa_cons pe_str (pa_cons (pe_ix (r := rIxL K) ix_list (pe_lst (pa_cons pe_int (pa_cons pe_int (pa_cons (pe_fn G__law_take hr (by omega) (pa_cons (pv 0) (pa_cons pe_int pa_nil))) pa_nil)))) (pe_fn G__law_take hr (by omega) (pa_cons (pv 0) (pa_cons pe_int pa_nil))) (fun _ _ => rfl)) pa_nil))) (pa_cons (pe_fn G__law_take hr (by omega) (pa_cons (pv 0) (pa_cons pe_int pa_nil))) pa_nil)))))))
  (pss_cons (ps_set (i := 2) sc__law_any_term.nd rfl (.inl rfl) (pe_fn G__law_term hr (by omega) (pa_cons (pv 0) (pa_cons (pe_op op_add pe_int (pe_fn G__law_take hr (by omega) (pa_cons (pv 0) (pa_cons pe_int pa_nil)))) (pa_cons (pv 1) (pa_cons (pe_op op_add pe_int (pe_fn G__law_take hr (by omega) (pa_cons (pv 0) (pa_cons pe_int pa_nil)))) pa_nil))))))
  (pss_cons (ps_for PassesOwn.never rfl (pi_range1 rfl T.z_range (pa_cons (pe_fn G__law_take hr (by omega) (pa_cons (pv 0) (pa_cons pe_int pa_nil))) pa_nil)) (pg_name (i := 3) sc__law_any_term.nd rfl (.inl rfl))
    (pss_cons (ps_par (i := 4) (j := 5) rfl sc__law_any_term.nd rfl rfl (by decide) rfl rfl (pa_cons (pe_ix (r := rIxL K) ix_list (pe_lst (pa_cons (pe_tup (pa_cons pe_str (pa_cons (pe_fn G__law_number hr (by omega) (pa_cons (pv 0) pa_nil)) pa_nil))) (pa_cons (pe_tup (pa_cons pe_str (pa_cons (pe_fn G__law_take hr (by omega) (pa_cons (pv 0) (pa_cons pe_int pa_nil))) pa_nil))) pa_nil))) (pe_fn G__law_take hr (by omega) (pa_cons (pv 0) (pa_cons pe_int pa_nil))) (fun _ _ => rfl)) (pa_cons (pe_fn G__law_take hr (by omega) (pa_cons (pv 0) (pa_cons pe_int pa_nil))) pa_nil)) rfl)
    (pss_one (ps_if (pt_cmpR op_lt (pv 5) pe_int (nomark _))
      (pss_cons (ps_set (i := 6) sc__law_any_term.nd rfl (.inl rfl) (pe_ix (r := rIxL K) ix_list (pe_lst (pa_cons (pe_tup (pa_cons pe_str (pa_cons (pe_fn G__law_some_mark hr (by omega) (pa_cons (pv 0) pa_nil)) pa_nil))) (pa_cons (pe_tup (pa_cons pe_str (pa_cons (pe_fn G__law_take hr (by omega) (pa_cons (pv 0) (pa_cons pe_int pa_nil))) pa_nil))) pa_nil))) (pv 5) (fun _ _ => rfl)))
      (pss_cons (ps_set (i := 7) sc__law_any_term.nd rfl (.inl rfl) (pe_lst (pa_cons (pe_tup (pa_cons (pv 2) pa_nil)) (pa_cons (pe_tup (pa_cons (pv 4) (pa_cons (pv 2) pa_nil))) (pa_cons (pe_tup (pa_cons (pv 2) (pa_cons (pv 4) pa_nil))) (pa_cons (pe_tup (pa_cons (pv 4) (pa_cons (pv 4) (pa_cons (pv 4) (pa_cons (pv 2) pa_nil))))) (pa_cons (pe_tup (pa_cons (pv 4) (pa_cons (pv 4) (pa_cons (pv 2) pa_nil)))) pa_nil)))))))
      (pss_one (ps_set (i := 2) sc__law_any_term.nd rfl (.inl rfl) (pe_op op_catA (pv 6) (pe_tup (pa_cons (pe_ix (r := rIxL K) ix_list (pv 7) (pe_fn G__law_take hr (by omega) (pa_cons (pv 0) (pa_cons pe_int pa_nil))) (fun _ _ => rfl)) pa_nil)))))))
      (pss_one (ps_if (pt_cmpR op_eq (pv 5) pe_int (nomark _))
        (pss_one (ps_set (i := 2) sc__law_any_term.nd rfl (.inl rfl) (pe_op op_catA (pe_tup (pa_cons pe_str pa_nil)) (pe_ix (r := rIxL K) ix_list (pe_lst (pa_cons (pe_tup (pa_cons (pv 2) (pa_cons (pv 4) (pa_cons (pv 4) pa_nil)))) (pa_cons (pe_tup (pa_cons (pv 4) (pa_cons (pv 2) (pa_cons (pv 4) pa_nil)))) (pa_cons (pe_tup (pa_cons (pv 4) (pa_cons (pv 4) (pa_cons (pv 2) pa_nil)))) pa_nil)))) (pe_fn G__law_take hr (by omega) (pa_cons (pv 0) (pa_cons pe_int pa_nil))) (fun _ _ => rfl)))))
        (pss_cons (ps_set (i := 8) sc__law_any_term.nd rfl (.inl rfl) (pe_ix (r := rIxL K) ix_list (pe_lst (pa_cons pe_str (pa_cons pe_str (pa_cons pe_str (pa_cons pe_str pa_nil))))) (pe_fn G__law_take hr (by omega) (pa_cons (pv 0) (pa_cons pe_int pa_nil))) (fun _ _ => rfl)))
        (pss_one (ps_set (i := 2) sc__law_any_term.nd rfl (.inl rfl) (pe_op op_catA (pe_tup (pa_cons (pv 8) pa_nil)) (pe_ix (r := rIxL K) ix_list (pe_lst (pa_cons (pe_tup (pa_cons (pv 2) (pa_cons (pv 4) pa_nil))) (pa_cons (pe_tup (pa_cons (pv 4) (pa_cons (pv 2) pa_nil))) pa_nil))) (pe_op op_sub (pv 5) pe_int) (fun _ _ => rfl))))))))))))
  (pss_one (ps_ret (pv 2))))))), ?_⟩
  let A0 : L2.St → Hp → Prop := fun σ H' => σ = [some (.ref b), none, none, none, none, none, none, none, none] ∧ H' = H
  let A1 : L2.St → Hp → Prop := fun σ H' => ∃ l v1 v2, σ = [some (.ref b), some (.ref l), none, none, none, none, none, none, none] ∧ But b H H' ∧ Box H' b (n + 384) ∧ l ≠ b ∧ H' l = some (.lst [v1, v2]) ∧ CallHd H' v1 ∧ CallHd H' v2
  let A2 : L2.St → Hp → Prop := fun σ H' => ∃ l, σ = [some (.ref b), some (.ref l), none, none, none, none, none, none, none] ∧ But b H H' ∧ Box H' b (n + 378) ∧ l ≠ b ∧ Heads H' l
  let A3 : L2.St → Hp → Prop := fun σ H' => ∃ l v t, σ = [some (.ref b), some (.ref l), some v, none, none, none, none, none, none] ∧ But b H H' ∧ Box H' b (n + 200) ∧ TmAt H' v t ∧ t.Ok 11 ∧ t.deep ≤ 3 ∧ t.size ≤ 21
  let A4 : L2.St → Hp → Prop := fun σ H' => ∃ l v t y3 y4 y5 y6 y7 y8, σ = [some (.ref b), some (.ref l), some v, y3, y4, y5, y6, y7, y8] ∧ But b H H' ∧ Box H' b n ∧ TmAt H' v t ∧ t.Ok 11 ∧ t.deep ≤ 8 ∧ t.size ≤ 50
  refine (Hs.fin (A := A0) (B := A1) ?_ (Hs.fin (B := A2) ?_ (Hs.fin (B := A3) ?_ (Hs.fin (B := A4) ?_ (Q := Q) ?_)))) _ _ H ⟨rfl, rfl⟩ fun v H' h => h
  · rintro D σ H0 ⟨rfl, rfl⟩ kk
    refine ⟨2, rfl, by decide, by decide, fun Dl hD => ?_⟩
    have nb := hB.ne hD
    refine lc_range (lo := 0) (n := 2) (fun j H4 => But b H0 H4 ∧ Box H4 b (n + 400 - 8 * j) ∧ ∃ xs, H4 Dl = some (.lst xs) ∧ xs.length = j ∧ ∀ v ∈ xs, CallHd H4 v) ⟨But.of (Ex.new hD), hB.ex (Ex.new hD), [], upd_same, rfl, fun v h => by cases h⟩ ?_ ?_
    · rintro j H4 hj ⟨u4, B4, xs, d4, l4, c4⟩
      refine ⟨rfl, yes ⟨_, rfl, b, n + 400 - 8 * (j + 1) + 1, rfl, ?_, fun H5 m u5 B5 hm => ⟨sz 2, fun pt hpt => ⟨_, rfl, b, 5, n + 400 - 8 * (j + 1), rfl, by decide, by decide, B5.ex (Ex.new hpt), fun H6 k u6 B6 k0 k1 => ⟨sz 2, fun p2 hp2 => ?_⟩⟩⟩⟩⟩
      · rw [show n + 400 - 8 * (j + 1) + 1 + 7 = n + 400 - 8 * j by omega]
        exact B4
      obtain ⟨kn, rfl⟩ := Int.eq_ofNat_of_zero_le k0
      have u56 : But b H4 H6 := u5.trans ((But.of (Ex.new hpt)).trans u6)
      have e2 := Ex.new (o := .tup [.ref pt, .int (kn : Int)]) hp2
      have u7 := u56.trans (But.of e2)
      have d7 := u7 Dl _ nb d4
      have hpt6 := (B5.ex (Ex.new (o := .tup [.str "call", .str m]) hpt)).tu u6 pt _ upd_same
      have tu : Tu _ (upd (upd H6 p2 (.tup [.ref pt, .int (kn : Int)])) Dl (.lst (xs ++ [.ref p2]))) := (But.upd (But.refl Dl _)).tu d7
      refine ⟨xs, d7, small1000 (by omega), But.on hD u4 u7, (B6.ex e2).on nb, xs ++ [.ref p2], upd_same, by rw [List.length_append, l4]; rfl, fun v hv => ?_⟩
      rcases List.mem_append.mp hv with hv | hv
      · exact ((c4 v hv).tu (B4.tu u7)).tu tu
      · rw [List.mem_singleton.mp hv]
        exact ⟨m, kn, ⟨p2, pt, rfl, tu _ _ upd_same, tu _ _ (e2 _ _ hpt6)⟩, hm, by omega⟩
    · rintro H4 ⟨u4, B4, xs, d4, l4, c4⟩
      obtain ⟨v1, v2, rfl⟩ := len_two l4
      exact kk _ _ ⟨Dl, v1, v2, rfl, u4, B4, nb, d4, c4 v1 (by simp), c4 v2 (by simp)⟩
  · rintro D σ H1 ⟨l, v1, v2, rfl, u1, B1, nl, h1, c1, c2⟩ kk
    refine ⟨_, rfl, 2, rfl, by decide, by decide, fun Dl hD => ?_⟩
    have nb := B1.ne hD
    refine lc_range (lo := 0) (n := 2) (fun j H4 => But b H1 H4 ∧ Box H4 b (n + 384 - 3 * j) ∧ ∃ xs, H4 Dl = some (.lst xs) ∧ xs.length = j ∧ ∀ v ∈ xs, RingHd H4 v) ⟨But.of (Ex.new hD), B1.ex (Ex.new hD), [], upd_same, rfl, fun v h => by cases h⟩ ?_ ?_
    · rintro j H4 hj ⟨u4, B4, xs, d4, l4, c4⟩
      refine ⟨rfl, yes ⟨_, rfl, b, 12, n + 384 - 3 * (j + 1) + 2, rfl, by decide, by decide, ?_, fun H5 k u5 B5 k0 k1 => ⟨sz 3, fun pl hpl => ⟨_, rfl, b, 3, n + 384 - 3 * (j + 1) + 1, rfl, by decide, by decide, B5.ex (Ex.new hpl), fun H6 i u6 B6 i0 i1 => ?_⟩⟩⟩⟩
      · rw [show n + 384 - 3 * (j + 1) + 2 + 1 = n + 384 - 3 * j by omega]
        exact B4
      obtain ⟨kn, rfl⟩ := Int.eq_ofNat_of_zero_le k0
      obtain ⟨pn, hat, pn1⟩ : ∃ pn : Nat, atI [V.int 0, V.int 11, V.int (kn : Int)] i = some (.int (pn : Int)) ∧ pn ≤ 11 := by
        have w3 : i = 0 ∨ i = 1 ∨ i = 2 := by omega
        rcases w3 with rfl | rfl | rfl
        · exact ⟨0, rfl, by decide⟩
        · exact ⟨11, rfl, by decide⟩
        · exact ⟨kn, rfl, by omega⟩
      refine ⟨pl, _, i, _, rfl, rfl, SqL.of (u6 pl _ (B5.ne hpl) upd_same), hat, sz 2, fun pt hpt => ⟨_, rfl, b, 5, n + 384 - 3 * (j + 1), rfl, by decide, by decide, B6.ex (Ex.new hpt), fun H7 s u7 B7 s0 s1 => ⟨sz 2, fun p2 hp2 => ?_⟩⟩⟩
      obtain ⟨sn, rfl⟩ := Int.eq_ofNat_of_zero_le s0
      have e2 := Ex.new (o := .tup [.ref pt, .int (sn : Int)]) hp2
      have u46 : But b H4 H6 := u5.trans ((But.of (Ex.new hpl)).trans u6)
      have u8 := (u46.trans ((But.of (Ex.new (o := .tup [.str "ring", .int (pn : Int)]) hpt)).trans u7)).trans (But.of e2)
      have d8 := u8 Dl _ nb d4
      have hpt7 := (B6.ex (Ex.new (o := .tup [.str "ring", .int (pn : Int)]) hpt)).tu u7 pt _ upd_same
      have tu : Tu _ (upd (upd H7 p2 (.tup [.ref pt, .int (sn : Int)])) Dl (.lst (xs ++ [.ref p2]))) := (But.upd (But.refl Dl _)).tu d8
      refine ⟨xs, d8, small1000 (by omega), But.on hD u4 u8, (B7.ex e2).on nb, xs ++ [.ref p2], upd_same, by rw [List.length_append, l4]; rfl, fun v hv => ?_⟩
      rcases List.mem_append.mp hv with hv | hv
      · exact ((c4 v hv).tu (B4.tu u8)).tu tu
      · rw [List.mem_singleton.mp hv]
        exact ⟨pn, sn, ⟨p2, pt, rfl, tu _ _ upd_same, tu _ _ (e2 _ _ hpt7)⟩, pn1, by omega⟩
    · rintro H4 ⟨u4, B4, xs, d4, l4, c4⟩
      obtain ⟨w1, w2, rfl⟩ := len_two l4
      refine ⟨l, Dl, [v1, v2], [w1, w2], rfl, rfl, u4 l _ nl h1, d4, sz 4, fun p5 np5 => kk _ _ ?_⟩
      have e5 := Ex.new (o := .lst [v1, v2, w1, w2]) np5
      have t5 := Tu.of e5
      obtain ⟨m1, s1, x1, y1, z1⟩ := (c1.tu (B1.tu u4)).tu t5
      obtain ⟨m2, s2, x2, y2, z2⟩ := (c2.tu (B1.tu u4)).tu t5
      obtain ⟨p1, s3, x3, y3, z3⟩ := (c4 w1 (by simp)).tu t5
      obtain ⟨p2, s4, x4, y4, z4⟩ := (c4 w2 (by simp)).tu t5
      exact ⟨p5, rfl, u1.trans (u4.trans (But.of e5)), B4.ex e5, B4.ne np5, ⟨v1, v2, w1, w2, m1, m2, p1, p2, s1, s2, s3, s4, upd_same, x1, x2, x3, x4, y1, y2, y3, y4, z1, z2, z3, z4⟩⟩
  · rintro D σ H1 ⟨l, rfl, u1, B1, nl, hh⟩ kk
    refine ⟨_, rfl, _, rfl, b, 4, n + 377, rfl, by decide, by decide, B1, fun H2 m u2 B2 m0 m1 => ⟨_, _, rfl, rfl, _, rfl, _, rfl, b, 3, n + 376, rfl, by decide, by decide, B2, fun H3 a u3 B3 a0 a1 => ⟨_, _, rfl, rfl, ?_⟩⟩⟩
    obtain ⟨mn, rfl⟩ := Int.eq_ofNat_of_zero_le m0
    obtain ⟨an, rfl⟩ := Int.eq_ofNat_of_zero_le a0
    obtain ⟨xs, hx⟩ := B1.lst
    refine ⟨b, l, n + 200, 1 + mn, 1 + an, ?_, B3.less (by show n + 200 + 105 ≤ n + 376; omega), by omega, by omega, by omega, by omega, nl, hh.but hx nl (u2.trans u3), fun H4 v t u4 B4 g o d z => kk _ _ ⟨l, v, t, rfl, u1.trans (u2.trans (u3.trans u4)), B4, g, o, d, z⟩⟩
    rw [show ((1 + mn : Nat) : Int) = 1 + (mn : Int) by omega, show ((1 + an : Nat) : Int) = 1 + (an : Int) by omega]
  · rintro D σ H1 ⟨l, v, t, rfl, u1, B1, hv, o1, d1, z1⟩ kk
    refine ⟨_, rfl, b, 6, n + 199, rfl, by decide, by decide, B1, fun H2 c u2 B2 c0 c6 => ?_⟩
    obtain ⟨cn, rfl⟩ := Int.eq_ofNat_of_zero_le c0
    refine ⟨(cn : Int), rfl, by omega, by omega, ?_⟩
    refine for_range (n := cn) (fun i σ H4 => ∃ v t y3 y4 y5 y6 y7 y8, σ = [some (.ref b), some (.ref l), some v, y3, y4, y5, y6, y7, y8] ∧ But b H H4 ∧ Box H4 b (n + 199 - 30 * i) ∧ TmAt H4 v t ∧ t.Ok 11 ∧ t.deep ≤ 3 + i ∧ t.size ≤ 21 + 4 * i)
      ⟨v, t, none, none, none, none, none, none, rfl, u1.trans u2, B2, hv.tu (B1.tu u2), o1, d1, z1⟩ ?_ ?_
    · rintro i σ H4 hi ⟨v, t, y3, y4, y5, y6, y7, y8, rfl, u4, B4, g4, o4, d4, z4⟩
      refine ⟨_, rfl, b, n + 199 - 30 * (i + 1) + 26, rfl, by rw [show n + 199 - 30 * (i + 1) + 26 + 4 = n + 199 - 30 * i by omega]; exact B4, fun H5 x u5 B5 x0 x1 => ⟨sz 2, fun p1 hp1 => ⟨_, rfl, b, 4, n + 199 - 30 * (i + 1) + 25, rfl, by decide, by decide, B5.ex (Ex.new hp1), fun H6 y u6 B6 y0 y1 => ⟨sz 2, fun p2 hp2 => ⟨sz 2, fun pl hpl => ?_⟩⟩⟩⟩⟩
      obtain ⟨xn, rfl⟩ := Int.eq_ofNat_of_zero_le x0
      obtain ⟨yn, rfl⟩ := Int.eq_ofNat_of_zero_le y0
      have f2 := Ex.new (o := .tup [.str "arg", .int (yn : Int)]) hp2
      have fl := Ex.new (o := .lst [.ref p1, .ref p2]) hpl
      refine ⟨_, rfl, b, 2, n + 199 - 30 * (i + 1) + 24, rfl, by decide, by decide, (B6.ex f2).ex fl, fun H7 j u7 B7 j0 j1 => ?_⟩
      have g1 : TmAt (upd (upd H6 p2 (.tup [.str "arg", .int (yn : Int)])) pl (.lst [.ref p1, .ref p2])) (.ref p1) (.num xn) := (TmAt.num (((B5.ex (Ex.new hp1)).tu u6) p1 _ upd_same)).ex (f2.trans fl)
      have g2 : TmAt (upd (upd H6 p2 (.tup [.str "arg", .int (yn : Int)])) pl (.lst [.ref p1, .ref p2])) (.ref p2) (.arg yn) := (TmAt.arg upd_same).ex fl
      obtain ⟨lv, lt, hat, gl, lo, ld, lz⟩ : ∃ lv lt, atI [V.ref p1, V.ref p2] j = some lv ∧ TmAt H7 lv lt ∧ lt.Ok 11 ∧ lt.deep = 1 ∧ lt.size = 1 := by
        have w2 : j = 0 ∨ j = 1 := by omega
        rcases w2 with rfl | rfl
        · exact ⟨_, _, rfl, g1.tu (((B6.ex f2).ex fl).tu u7), .num (by omega), rfl, rfl⟩
        · exact ⟨_, _, rfl, g2.tu (((B6.ex f2).ex fl).tu u7), .arg (by omega), rfl, rfl⟩
      have u47 : But b H4 H7 := u5.trans ((But.of (Ex.new hp1)).trans (u6.trans ((But.of (f2.trans fl)).trans u7)))
      refine ⟨pl, _, j, _, rfl, rfl, SqL.of (u7 pl _ ((B6.ex f2).ne hpl) upd_same), hat, _, rfl, b, 5, n + 199 - 30 * (i + 1) + 23, rfl, by decide, by decide, B7, fun H8 mo u8 B8 mo0 mo1 => ⟨_, _, rfl, ?_⟩⟩
      have u48 : But b H4 H8 := u47.trans u8
      have gt := g4.tu (B4.tu u48)
      have gf := gl.tu (B7.tu u8)
      refine ⟨_, rfl, _, _, rfl, rfl, _, rfl, ?_⟩
      by_cases c2 : mo < 2
      · rw [decide_eq_true c2]
        refine iteT ⟨_, rfl, b, n + 199 - 30 * (i + 1) + 16, rfl, B8, fun H9 m u9 B9 hm => ⟨sz 2, fun pc hpc => ⟨_, rfl, b, 12, n + 199 - 30 * (i + 1) + 15, rfl, by decide, by decide, B9.ex (Ex.new hpc), fun HA k uA BA k0 k1 => ⟨sz 2, fun pr hpr => ⟨sz 2, fun ph hph => ?_⟩⟩⟩⟩⟩
        obtain ⟨kn, rfl⟩ := Int.eq_ofNat_of_zero_le k0
        have fr := Ex.new (o := .tup [.str "ring", .int (kn : Int)]) hpr
        have fh := Ex.new (o := .lst [.ref pc, .ref pr]) hph
        have u8A : But b H8 HA := u9.trans ((But.of (Ex.new hpc)).trans uA)
        have uB := u8A.trans (But.of (fr.trans fh))
        have BB := BA.ex (fr.trans fh)
        have hcA := ((B9.ex (Ex.new (o := .tup [.str "call", .str m]) hpc)).tu uA) pc _ upd_same
        obtain ⟨px, hd, hat, hpx, hok, hno⟩ : ∃ (px : Addr) (hd : Hd), atI [V.ref pc, V.ref pr] mo = some (.ref px) ∧ (upd (upd HA pr (.tup [.str "ring", .int (kn : Int)])) ph (.lst [.ref pc, .ref pr])) px = some (.tup hd.L) ∧ (∀ z : Nat, z ≤ 4 → hd.ok 11 z) ∧ hd.notOp = true := by
          have w2 : mo = 0 ∨ mo = 1 := by omega
          rcases w2 with rfl | rfl
          · exact ⟨pc, .call m, rfl, (fr.trans fh) _ _ hcA, fun z hz => ⟨hm, hz⟩, rfl⟩
          · exact ⟨pr, .ring kn, rfl, fh _ _ upd_same, fun z hz => ⟨by omega, hz⟩, rfl⟩
        have gtB := gt.tu (B8.tu uB)
        have gfB := gf.tu (B8.tu uB)
        refine ⟨_, rfl, ph, _, mo, _, rfl, rfl, SqL.of upd_same, hat, ?_⟩
        generalize upd (upd HA pr (.tup [.str "ring", .int (kn : Int)])) ph (.lst [.ref pc, .ref pr]) = HB at uB BB hpx gtB gfB
        refine ⟨_, rfl, sz 1, fun s1 h1 => ⟨_, rfl, _, rfl, sz 2, fun s2 h2 => ⟨_, rfl, _, rfl, sz 2, fun s3 h3 => ⟨_, rfl, _, rfl, _, rfl, _, rfl, sz 4, fun s4 h4 => ⟨_, rfl, _, rfl, _, rfl, sz 3, fun s5 h5 => ⟨sz 5, fun ps hps => ?_⟩⟩⟩⟩⟩⟩
        have x1 := Ex.new (o := .tup [v]) h1
        have x2 := Ex.new (o := .tup [lv, v]) h2
        have x3 := Ex.new (o := .tup [v, lv]) h3
        have x4 := Ex.new (o := .tup [lv, lv, lv, v]) h4
        have x5 := Ex.new (o := .tup [lv, lv, v]) h5
        have x6 := Ex.new (o := .lst [.ref s1, .ref s2, .ref s3, .ref s4, .ref s5]) hps
        have F := x1.trans (x2.trans (x3.trans (x4.trans (x5.trans x6))))
        have BF := BB.ex F
        refine ⟨_, rfl, _, rfl, _, rfl, b, 5, n + 199 - 30 * (i + 1) + 14, rfl, by decide, by decide, BF, fun HC k2 uC BC k20 k21 => ?_⟩
        have tuC := BF.tu uC
        have gtC := (gtB.ex F).tu tuC
        have gfC := (gfB.ex F).tu tuC
        have lf : ∀ {us ts S}, Few HC us ts (3 + i) S → Few HC (lv :: us) (lt :: ts) (3 + i) (1 + S) := fun k => few_cons gfC lo (by omega) (Nat.le_of_eq lz) k
        have tf : ∀ {us ts S}, Few HC us ts (3 + i) S → Few HC (v :: us) (t :: ts) (3 + i) (21 + 4 * i + S) := fun k => few_cons gtC o4 d4 z4 k
        obtain ⟨pu, us, ts, hat2, hpu, few, len⟩ : ∃ pu us ts, atI [V.ref s1, V.ref s2, V.ref s3, V.ref s4, V.ref s5] k2 = some (.ref pu) ∧ HC pu = some (.tup us) ∧ Few HC us ts (3 + i) (21 + 4 * i + 3) ∧ us.length ≤ 4 := by
          have w5 : k2 = 0 ∨ k2 = 1 ∨ k2 = 2 ∨ k2 = 3 ∨ k2 = 4 := by omega
          rcases w5 with rfl | rfl | rfl | rfl | rfl
          · exact ⟨s1, _, _, rfl, tuC _ _ ((x2.trans (x3.trans (x4.trans (x5.trans x6)))) _ _ upd_same), (tf (few_nil HC _)).less (by omega), by show 1 ≤ 4; decide⟩
          · exact ⟨s2, _, _, rfl, tuC _ _ ((x3.trans (x4.trans (x5.trans x6))) _ _ upd_same), (lf (tf (few_nil HC _))).less (by omega), by show 2 ≤ 4; decide⟩
          · exact ⟨s3, _, _, rfl, tuC _ _ ((x4.trans (x5.trans x6)) _ _ upd_same), (tf (lf (few_nil HC _))).less (by omega), by show 2 ≤ 4; decide⟩
          · exact ⟨s4, _, _, rfl, tuC _ _ ((x5.trans x6) _ _ upd_same), (lf (lf (lf (tf (few_nil HC _))))).less (by omega), by show 4 ≤ 4; decide⟩
          · exact ⟨s5, _, _, rfl, tuC _ _ (x6 _ _ upd_same), (lf (lf (tf (few_nil HC _)))).less (by omega), by show 3 ≤ 4; decide⟩
        have nL : hd.L ≠ [] := by cases hd <;> exact fun z => by cases z
        have L2' : hd.L.length ≤ 2 := by cases hd <;> exact Nat.le_of_ble_eq_true rfl
        refine ⟨ps, _, k2, _, rfl, rfl, SqL.of (uC ps _ ((BB.ex (x1.trans (x2.trans (x3.trans (x4.trans x5))))).ne hps) upd_same), hat2, sz 1, fun pp hpp => ⟨px, pp, hd.L, [.ref pu], rfl, rfl, SqT.of ((Ex.new hpp) px _ (tuC _ _ (F px _ hpx))), SqT.of upd_same, Nat.le_trans (show hd.L.length + 1 ≤ 3 by omega) (by decide), (fun z => absurd z nL), (fun _ z => by cases z), fun _ _ p hp => ?_⟩⟩
        have y1 := Ex.new (o := .tup [.ref pu]) hpp
        have y2 := Ex.new (o := .tup (hd.L ++ [.ref pu])) hp
        obtain ⟨j1, j2, j3⟩ := few.node (h := hd) (hok _ (by rw [← few.a.length]; exact len))
        have gg := few.a.ex (y1.trans y2)
        have hpu2 := (y1.trans y2) _ _ hpu
        have uu := u4.trans (u48.trans (uB.trans ((But.of F).trans (uC.trans (But.of (y1.trans y2))))))
        have BBB := BC.ex (y1.trans y2)
        cases hd with
        | op o => cases hno
        | call m => exact ⟨.ref p, _, _, _, _, _, _, _, rfl, uu, BBB.less (by omega), .call upd_same hpu2 gg, j1, by omega, by omega⟩
        | ring j => exact ⟨.ref p, _, _, _, _, _, _, _, rfl, uu, BBB.less (by omega), .ring upd_same hpu2 gg, j1, by omega, by omega⟩
      rw [decide_eq_false c2]
      refine iteF ⟨_, rfl, rfl, _, rfl, ?_⟩
      rw [dec_ii]
      by_cases c3 : mo = 2
      · rw [decide_eq_true c3]
        refine iteT ⟨sz 1, fun pa hpa => ⟨_, rfl, _, rfl, _, rfl, sz 3, fun pb hpb => ⟨_, rfl, _, rfl, _, rfl, sz 3, fun pc hpc => ⟨_, rfl, _, rfl, _, rfl, sz 3, fun pd hpd => ⟨sz 3, fun pq hpq => ?_⟩⟩⟩⟩⟩
        have fa := Ex.new (o := .tup [.str "if"]) hpa
        have fb := Ex.new (o := .tup [v, lv, lv]) hpb
        have fc := Ex.new (o := .tup [lv, v, lv]) hpc
        have fd := Ex.new (o := .tup [lv, lv, v]) hpd
        have fq := Ex.new (o := .lst [.ref pb, .ref pc, .ref pd]) hpq
        have F := fa.trans (fb.trans (fc.trans (fd.trans fq)))
        have BF := B8.ex F
        refine ⟨_, rfl, b, 3, n + 199 - 30 * (i + 1) + 22, rfl, by decide, by decide, BF, fun H9 k u9 B9 k0 k1 => ?_⟩
        have tu9 := BF.tu u9
        have gt9 := (gt.ex F).tu tu9
        have gf9 := (gf.ex F).tu tu9
        have lf : ∀ {us ts S}, Few H9 us ts (3 + i) S → Few H9 (lv :: us) (lt :: ts) (3 + i) (1 + S) := fun k => few_cons gf9 lo (by omega) (Nat.le_of_eq lz) k
        have tf : ∀ {us ts S}, Few H9 us ts (3 + i) S → Few H9 (v :: us) (t :: ts) (3 + i) (21 + 4 * i + S) := fun k => few_cons gt9 o4 d4 z4 k
        obtain ⟨px, us, ts, hat2, hpx, few, len⟩ : ∃ px us ts, atI [V.ref pb, V.ref pc, V.ref pd] k = some (.ref px) ∧ H9 px = some (.tup us) ∧ Few H9 us ts (3 + i) (21 + 4 * i + 2) ∧ us.length = 3 := by
          have w3 : k = 0 ∨ k = 1 ∨ k = 2 := by omega
          rcases w3 with rfl | rfl | rfl
          · exact ⟨pb, _, _, rfl, tu9 _ _ ((fc.trans (fd.trans fq)) _ _ upd_same), (tf (lf (lf (few_nil H9 _)))).less (by omega), rfl⟩
          · exact ⟨pc, _, _, rfl, tu9 _ _ ((fd.trans fq) _ _ upd_same), (lf (tf (lf (few_nil H9 _)))).less (by omega), rfl⟩
          · exact ⟨pd, _, _, rfl, tu9 _ _ (fq _ _ upd_same), (lf (lf (tf (few_nil H9 _)))).less (by omega), rfl⟩
        refine ⟨pq, _, k, _, rfl, rfl, SqL.of (u9 pq _ ((B8.ex (fa.trans (fb.trans (fc.trans fd)))).ne hpq) upd_same), hat2, pa, px, [.str "if"], us, rfl, rfl, SqT.of (tu9 _ _ ((fb.trans (fc.trans (fd.trans fq))) pa _ upd_same)), SqT.of hpx, by rw [len]; exact sz 4, (fun z => by cases z), (fun _ z => by rw [z] at len; cases len), fun _ _ p hp => ?_⟩
        have fp := Ex.new (o := .tup ([.str "if"] ++ us)) hp
        obtain ⟨k1, k2, k3⟩ := few.node (h := .op .cond) (by rw [← few.a.length, len]; rfl)
        exact ⟨.ref p, _, _, _, _, _, _, _, rfl, u4.trans (u48.trans ((But.of F).trans (u9.trans (But.of fp)))), (B9.ex fp).less (by omega), .op (o := .cond) upd_same (few.a.ex fp), k1, by omega, by omega⟩
      rw [decide_eq_false c3]
      refine iteF ⟨sz 4, fun q1 hq1 => ⟨_, rfl, b, 4, n + 199 - 30 * (i + 1) + 22, rfl, by decide, by decide, B8.ex (Ex.new hq1), fun H9 k u9 B9 k0 k1 => ?_⟩⟩
      obtain ⟨o, ho, oa⟩ : ∃ o : Op, atI [V.str "add", V.str "less", V.str "times", V.str "under"] k = some (.str o.str) ∧ o.ar = 2 := by
        have w4 : k = 0 ∨ k = 1 ∨ k = 2 ∨ k = 3 := by omega
        rcases w4 with rfl | rfl | rfl | rfl
        · exact ⟨.add, rfl, rfl⟩
        · exact ⟨.less, rfl, rfl⟩
        · exact ⟨.times, rfl, rfl⟩
        · exact ⟨.under, rfl, rfl⟩
      have u89 : But b H8 H9 := (But.of (Ex.new hq1)).trans u9
      have gt9 := gt.tu (B8.tu u89)
      have gf9 := gf.tu (B8.tu u89)
      refine ⟨q1, _, k, _, rfl, rfl, SqL.of (u9 q1 _ (B8.ne hq1) upd_same), ho, _, rfl, sz 1, fun pa hpa => ⟨_, rfl, _, rfl, sz 2, fun pb hpb => ⟨_, rfl, _, rfl, sz 2, fun pc hpc => ⟨sz 2, fun pq hpq => ?_⟩⟩⟩⟩
      have fa := Ex.new (o := .tup [.str o.str]) hpa
      have fb := Ex.new (o := .tup [v, lv]) hpb
      have fc := Ex.new (o := .tup [lv, v]) hpc
      have fq := Ex.new (o := .lst [.ref pb, .ref pc]) hpq
      have F := fa.trans (fb.trans (fc.trans fq))
      obtain ⟨px, us, ts, hat2, hpx, few, len⟩ : ∃ px us ts, atI [V.ref pb, V.ref pc] (mo - 3) = some (.ref px) ∧ (upd (upd (upd (upd H9 pa (.tup [.str o.str])) pb (.tup [v, lv])) pc (.tup [lv, v])) pq (.lst [.ref pb, .ref pc])) px = some (.tup us) ∧ Few H9 us ts (3 + i) (21 + 4 * i + 1) ∧ us.length = 2 := by
        have w2 : mo = 3 ∨ mo = 4 := by omega
        rcases w2 with rfl | rfl
        · exact ⟨pb, _, _, rfl, (fc.trans fq) _ _ upd_same, few_cons gt9 o4 d4 z4 ((few_cons gf9 lo (by omega) (Nat.le_of_eq lz) (few_nil H9 (3 + i))).less (by omega)), rfl⟩
        · exact ⟨pc, _, _, rfl, fq _ _ upd_same, (few_cons gf9 lo (by omega) (Nat.le_of_eq lz) (few_cons gt9 o4 d4 z4 (few_nil H9 (3 + i)))).less (by omega), rfl⟩
      refine ⟨_, rfl, _, _, rfl, rfl, pq, _, _, _, rfl, rfl, SqL.of upd_same, hat2, pa, px, [.str o.str], us, rfl, rfl, SqT.of ((fb.trans (fc.trans fq)) pa _ upd_same), SqT.of hpx, by rw [len]; exact sz 3, (fun z => by cases z), (fun _ z => by rw [z] at len; cases len), fun _ _ p hp => ?_⟩
      have fp := Ex.new (o := .tup ([.str o.str] ++ us)) hp
      obtain ⟨k1, k2, k3⟩ := few.node (h := .op o) (by rw [← few.a.length, len]; exact oa.symm)
      exact ⟨.ref p, _, _, _, _, _, _, _, rfl, u4.trans (u48.trans (u89.trans (But.of (F.trans fp)))), (B9.ex (F.trans fp)).less (by omega), .op upd_same (few.a.ex (F.trans fp)), k1, by omega, by omega⟩
    · rintro σ H4 ⟨v, t, y3, y4, y5, y6, y7, y8, rfl, u4, B4, g4, o4, d4, z4⟩
      exact kk _ _ ⟨l, v, t, y3, y4, y5, y6, y7, y8, rfl, u4, B4.less (by omega), g4, o4, by omega, by omega⟩
  · rintro D σ H1 ⟨l, v, t, y3, y4, y5, y6, y7, y8, rfl, u1, B1, hv, o1, d1, z1⟩ kk
    exact ⟨_, rfl, kk _ _ (q H1 v t u1 B1 hv o1 d1 z1)⟩
end
end V


set_option Elab.async false
set_option linter.all false
set_option maxRecDepth 100000
set_option maxHeartbeats 400000
namespace V
open PySem PySem.Spec PyProof.Rows L2 Evl TL NumText
section
variable {P : Program} {w : World} {K : PySem.W.Frag} {mg : Str → Option Value} {base : Heap}
theorem ok_lawMark (T : Txt K w mg) : Cal P w K mg base 1 "_law_mark" ["text"] spMarkT := by
  refine T.D__law_mark.cal sc__law_mark (fun vs H Q E h => ?_) (fun f cdv A outer s H vs Q E hr h => ?_)
  · obtain ⟨z, rfl, _⟩ := h
    rfl
  obtain ⟨z, rfl, hz, hs, q⟩ := h
  refine ⟨_, (pss_cons (ps_asg (pe_tup (pa_cons pe_str (pa_cons pe_int (pa_cons pe_str pa_nil)))) (pg_tup rfl (pgs_cons (pg_name (i := 1) sc__law_mark.nd rfl (.inl rfl)) (pgs_cons (pg_name (i := 2) sc__law_mark.nd rfl (.inl rfl)) (pgs_cons (pg_name (i := 3) sc__law_mark.nd rfl (.inl rfl)) pgs_nil)))))
  (pss_cons (ps_for PassesOwn.never rfl (pi_str (pv 0)) (pg_name (i := 4) sc__law_mark.nd rfl (.inl rfl))
    (pss_one (ps_set (i := 2) sc__law_mark.nd rfl (.inl rfl) (pe_op op_mod (pe_op op_add (pe_op op_add (pe_op op_mul (pv 2) pe_int) (pe_bm PySem.F.plainAttrs_str PySem.F.slot_str_index PySem.F.type_str_index mt_sindex (pv 1) (pa_cons (pv 4) pa_nil))) pe_int) pe_int))))
  (pss_cons (ps_for PassesOwn.never rfl (pi_range1 rfl T.z_range (pa_cons pe_int pa_nil)) (pg_name (i := 5) sc__law_mark.nd rfl (.inl rfl))
    (pss_one (ps_par (i := 2) (j := 3) rfl sc__law_mark.nd rfl rfl (by decide) rfl rfl (pa_cons (pe_op op_fdiv (pv 2) pe_int) (pa_cons (pe_op op_add_str (pe_ix ix_str (pv 1) (pe_op op_mod (pv 2) pe_int) (fun _ _ => rfl)) (pv 3)) pa_nil)) rfl)))
  (pss_one (ps_ret (pv 3)))))), ?_⟩
  let N0 := hashL (tl z) 7
  let A0 : L2.St → Hp → Prop := fun σ H' => σ = [some (.str z), none, none, none, none, none] ∧ H' = H
  let A1 : L2.St → Hp → Prop := fun σ H' => σ = [some (.str z), some (.str sgS), some (.int ((7 : Nat) : Int)), some (.str ""), none, none] ∧ Ex H H'
  let A2 : L2.St → Hp → Prop := fun σ H' => ∃ y, σ = [some (.str z), some (.str sgS), some (.int ((hashL (tl z) 7 : Nat) : Int)), some (.str ""), y, none] ∧ Ex H H'
  let A3 : L2.St → Hp → Prop := fun σ H' => ∃ m y4 y5, σ = [some (.str z), some (.str sgS), some (.int m), some (.str (mkS (hashL (tl z) 7))), y4, y5] ∧ Ex H H'
  have lt : ∀ (l : List Nat) (n : Nat), n < 998244353 → hashL l n < 998244353 := by
    intro l
    induction l with
    | nil => exact fun n h => h
    | cons c l ih =>
      intro n h
      show hashL l ((n * 131 + sgIx c + 1) % 998244353) < _
      exact ih _ (Nat.mod_lt _ (by decide))
  refine (Hs.fin (A := A0) (B := A1) ?_ (Hs.fin (B := A2) ?_ (Hs.fin (B := A3) ?_ (Q := Q) ?_))) _ _ H ⟨rfl, rfl⟩ fun v H' h => h
  · rintro D σ H' ⟨rfl, rfl⟩ kk
    exact ⟨sz 3, fun p hp => ⟨p, _, rfl, SqT.of upd_same, rfl, _, _, rfl, _, _, rfl, _, _, rfl, rfl, kk _ _ ⟨rfl, Ex.new hp⟩⟩⟩
  · rintro D σ H' ⟨rfl, ex⟩ kk
    refine ⟨_, rfl, z, rfl, ?_⟩
    refine for_it walk_str (fun i σ H1 => ∃ y, σ = [some (.str z), some (.str sgS), some (.int ((hashL ((tl z).take i) 7 : Nat) : Int)), some (.str ""), y, none] ∧ H1 = H') ⟨none, rfl, rfl⟩ (fun _ _ _ _ _ => trivial) ?_ ?_
    · rintro i x σ H1 H2 hi ⟨y, rfl, rfl⟩ ⟨rfl, c, hc, rfl⟩
      have hc2 : (tl z)[i]? = some c := by rw [← hc]; exact Array.getElem?_toList
      obtain ⟨rest, ho⟩ := sg_ix c (hs c (get_mem hc2))
      refine ⟨_, rfl, _, _, rfl, rfl, .inr ⟨by decide, by decide⟩, _, rfl, rfl, _, rfl, sgS, ⟨#[c]⟩, sgIx c, rest, rfl, rfl, ho, _, _, rfl, rfl, _, _, rfl, rfl, _, _, rfl, rfl, (by show (0 : Int) < 998244353; decide), ?_⟩
      refine ⟨some (.str ⟨#[c]⟩), ?_, rfl⟩
      have e : ((hashL ((tl z).take (i + 1)) 7 : Nat) : Int) = (((hashL ((tl z).take i) 7 : Nat) : Int) * 131 + (sgIx c : Nat) + 1) % 998244353 := by
        have f : hashL ((tl z).take (i + 1)) 7 = (hashL ((tl z).take i) 7 * 131 + sgIx c + 1) % 998244353 := by
          rw [take_more hc2]
          unfold hashL
          rw [List.foldl_append]
          rfl
        rw [f]
        omega
      rw [e]
      rfl
    · rintro σ H1 ⟨y, rfl, rfl⟩
      have e : (tl z).take z.cps.size = tl z := by rw [show z.cps.size = (tl z).length from len_tl z, List.take_length]
      rw [e]
      exact kk _ _ ⟨y, rfl, ex⟩
  · rintro D σ H' ⟨y, rfl, ex⟩ kk
    refine ⟨6, rfl, by decide, by decide, ?_⟩
    refine for_range (n := 6) (fun i σ H1 => ∃ (m : Nat) (l : List Nat) (y5 : Option V), σ = [some (.str z), some (.str sgS), some (.int (m : Int)), some (.str ⟨l.toArray⟩), y, y5] ∧ m < 2147483648 ∧ l.length = i ∧ mkL (6 - i) m l = mkL 6 (hashL (tl z) 7) [] ∧ H1 = H')
      ⟨hashL (tl z) 7, [], none, rfl, by have := lt (tl z) 7 (by decide); omega, rfl, rfl, rfl⟩ ?_ ?_
    · rintro i σ H1 hi ⟨m, l, y5, rfl, hm, hl, he, rfl⟩
      have em : (m : Int) % 36 = ((m % 36 : Nat) : Int) := by omega
      refine ⟨_, rfl, _, _, rfl, rfl, ⟨by decide, by decide⟩, _, rfl, _, rfl, _, _, rfl, rfl, (by show (0 : Int) < 36; decide), sgS, _, sgAt (m % 36), rfl, rfl, by decide +kernel, ?_, _, rfl, _, _, rfl, rfl, ?_, _, _, rfl, ?_⟩
      · rw [em]
        exact sg_at (m % 36) (Nat.mod_lt _ (by decide))
      · show 1 + l.length ≤ sizeLine
        exact Nat.le_trans (by omega : 1 + l.length ≤ 7) (by decide)
      · rw [one_append]
        refine ⟨m / 36, sgAt (m % 36) :: l, some (.int (0 + (i : Int))), ?_, by omega, by rw [List.length_cons, hl], ?_, rfl⟩
        · rw [show ((m / 36 : Nat) : Int) = (m : Int) / 36 by omega]
          rfl
        · rw [← he, show 6 - i = (6 - (i + 1)) + 1 by omega]
          rfl
    · rintro σ H1 ⟨m, l, y5, rfl, hm, hl, he, rfl⟩
      refine kk _ _ ⟨m, y, y5, ?_, ex⟩
      have e : mkS (hashL (tl z) 7) = ⟨l.toArray⟩ := by
        unfold mkS
        rw [← he]
        rfl
      rw [e]
  · rintro D σ H' ⟨m, y4, y5, rfl, ex⟩ kk
    exact ⟨_, rfl, kk _ _ (q H' ex)⟩
end
end V


set_option Elab.async false
set_option linter.all false
set_option maxRecDepth 100000
set_option maxHeartbeats 400000
namespace V
open PySem PySem.Spec PyProof.Rows L2 Evl TL NumText
section
variable {P : Program} {w : World} {K : PySem.W.Frag} {mg : Str → Option Value} {base : Heap}
theorem ok_lawText (T : Txt K w mg) : ∀ n : Nat, Cal P w K mg base (n + 1) "_law_text" ["term"] (spTx n)
  | 0 => (T.D__law_text.never fun vs H Q E h => by
      obtain ⟨v, t, M, _, _, _, _, h1, _⟩ := h
      have := deep_pos t
      omega).mono (Nat.zero_le _)
  | n + 1 => by
    have G__law_text := ok_lawText T n
    refine T.D__law_text.cal sc__law_text (fun vs H Q E h => ?_) (fun f cdv A outer s H vs Q E hr h => ?_)
    · obtain ⟨v, t, M, rfl, _⟩ := h
      rfl
    obtain ⟨v, t, M, rfl, hT, hO, hM, hd, hz, q⟩ := h
    refine ⟨_, (pss_cons (ps_if (pt_cmpR op_eq (pe_ix (r := rIxT K) ix_tup (pv 0) pe_int (fun _ _ => rfl)) pe_str (nomark _))
    (pss_one (ps_ret (pe_bt call_str_int T.z_str (pa_cons (pe_ix (r := rIxT K) ix_tup (pv 0) pe_int (fun _ _ => rfl)) pa_nil))))
    pss_nil)
  (pss_cons (ps_if (pt_cmpR op_eq (pe_ix (r := rIxT K) ix_tup (pv 0) pe_int (fun _ _ => rfl)) pe_str (nomark _))
    (pss_one (ps_ret (pe_ix ix_str pe_str (pe_ix (r := rIxT K) ix_tup (pv 0) pe_int (fun _ _ => rfl)) (fun _ _ => rfl))))
    pss_nil)
  (pss_cons (ps_if (pt_cmpR op_in_seq (pe_ix (r := rIxT K) ix_tup (pv 0) pe_int (fun _ _ => rfl)) (pe_tup (pa_cons pe_str (pa_cons pe_str pa_nil))) rfl)
    (pss_cons (ps_set (i := 1) sc__law_text.nd rfl (.inl rfl) (pe_ifExp (pt_cmpR op_eq (pe_ix (r := rIxT K) ix_tup (pv 0) pe_int (fun _ _ => rfl)) pe_str (nomark _)) (pe_op op_add_str pe_str (pe_ix (r := rIxT K) ix_tup (pv 0) pe_int (fun _ _ => rfl))) (pe_op op_add_str pe_str (pe_bt call_str_int T.z_str (pa_cons (pe_ix (r := rIxT K) ix_tup (pv 0) pe_int (fun _ _ => rfl)) pa_nil)))))
    (pss_one (ps_ret (pe_op op_add_str (pe_op op_add_str pe_str (pe_join pe_str (pe_op op_cat (pe_lst (pa_cons (pv 1) pa_nil)) (pe_lc (own := [("one", 2)]) (g := (gName 2)) (tt := tYes) rfl sc__law_text.nd (pi_tup (pe_ix (r := rIxT K) ix_tup (pv 0) pe_int (fun _ _ => rfl))) (blkOk_by (N := N__law_text) (sc := defScope s__law_text) (by decide +kernel)) (fun _ _ _ _ _ => (pg_name (i := 2) sc__law_text.nd rfl (.inl rfl))) (fun _ _ _ _ _ => pts_nil) (fun _ _ _ _ _ => (pe_fn G__law_text hr (by omega) (pa_cons (pv 2) pa_nil))))))) pe_str))))
    pss_nil)
  (pss_one (ps_ret (pe_op op_add_str (pe_op op_add_str pe_str (pe_join pe_str (pe_op op_cat (pe_lst (pa_cons (pe_ix (r := rIxT K) ix_tup (pv 0) pe_int (fun _ _ => rfl)) pa_nil)) (pe_lc (own := [("one", 2)]) (g := (gName 2)) (tt := tYes) rfl sc__law_text.nd (pi_tup (pe_slice sl_tupA (pv 0) (po_some pe_int) po_none)) (blkOk_by (N := N__law_text) (sc := defScope s__law_text) (by decide +kernel)) (fun _ _ _ _ _ => (pg_name (i := 2) sc__law_text.nd rfl (.inl rfl))) (fun _ _ _ _ _ => pts_nil) (fun _ _ _ _ _ => (pe_fn G__law_text hr (by omega) (pa_cons (pv 2) pa_nil))))))) pe_str)))))), ?_⟩
    obtain ⟨a, r, rfl, ha⟩ := hT.head
    refine ⟨_, rfl, a, _, 0, _, rfl, rfl, SqT.of ha, at0, rfl, _, rfl, ?_⟩
    rw [eq_word]
    cases hO with
    | @num k hk =>
      cases hT with
      | num h =>
        rw [show decide ((Tm.num k).word = "num") = true from decide_eq_true rfl]
        exact iteT ⟨_, rfl, a, _, 1, _, rfl, rfl, SqT.of h, rfl, _, rfl, log_small (by omega) (by omega), q H (Ex.refl H)⟩
    | @arg k hk =>
      cases hT with
      | arg h =>
        obtain ⟨c, hc, ec⟩ := abcd_sign k hk
        rw [show decide ((Tm.arg k).word = "num") = false by show decide (("arg" : Str) = "num") = false; decide +kernel]
        refine iteF ⟨_, rfl, a, _, 0, _, rfl, rfl, SqT.of h, at0, rfl, _, rfl, ?_⟩
        rw [eq_word, show decide (("arg" : Str) = "arg") = true from decide_eq_true rfl]
        refine iteT ⟨_, rfl, a, _, 1, _, rfl, rfl, SqT.of h, rfl, "abcd", _, c, rfl, rfl, by decide +kernel, hc, ?_⟩
        rw [ec]
        exact q H (Ex.refl H)
    | @node h ts hh hks =>
      rw [wd_num.1]
      refine iteF ⟨_, rfl, a, _, 0, _, rfl, rfl, SqT.of ha, at0, rfl, _, rfl, ?_⟩
      rw [eq_word, wd_num.2]
      refine iteF ⟨_, rfl, a, _, 0, _, rfl, rfl, SqT.of ha, at0, sz 2, fun p1 hp1 => ⟨p1, _, rfl, .inr (SqT.of upd_same), rfl, rfl, _, rfl, ?_⟩⟩
      rw [if_neg (by decide)]
      have e1 := Ex.new (o := .tup [.str "call", .str "ring"]) hp1
      have few := hh.le
      have tot := words_len hM hh hks hz
      have jl := join_len (h.S :: ts.map Tm.txt)
      have o1 : ("(" : Str).length = 1 := by decide +kernel
      have o2 : (")" : Str).length = 1 := by decide +kernel
      have o3 : (" " : Str).length = 1 := by decide +kernel
      have big : sizeLine = 16777216 := sizeLine_eq
      have tsz : (Tm.node h ts).size = 1 + Tm.sizes ts := rfl
      have qn := q
      rw [node_txt] at qn
      cases hT with
      | @op _ o ws _ hh2 hs =>
        rw [show inV (.str (Tm.node (.op o) ts).word) [.str "call", .str "ring"] = false by show inV (.str o.str) [.str "call", .str "ring"] = false; cases o <;> decide +kernel]
        refine iteF ⟨⟨_, rfl⟩, _, rfl, a, _, 0, _, rfl, rfl, SqT.of (e1 _ _ ha), at0, sz 1, fun l nl => ⟨_, rfl, 1, rfl, a, _, rfl, SqT.of ((Ex.new nl) _ _ (e1 _ _ hh2)), fun z => ?_, fun _ pp hpp => ?_⟩⟩
        · have z1 : HT.sIx (V.str o.str :: ws).length 0 (some ((1 : Nat) : Int)) = 0 := z.1
          rw [HT.sIx_nat, List.length_cons] at z1
          omega
        · rw [cut_one_off]
          refine ⟨pp, rfl, ⟨ws, SqT.of upd_same⟩, fun Dl hD => ?_⟩
          have el := Ex.new (o := .lst [.str (Hd.op o).S]) nl
          have ep := Ex.new (o := .tup ws) hpp
          have E1 := e1.trans (el.trans ep)
          have HP := upd_same (H := upd (upd H p1 (.tup [.str "call", .str "ring"])) l (.lst [.str (Hd.op o).S])) (a := pp) (o := .tup ws)
          refine lc_tup (xs := ws) (fun i H3 => Ex _ H3 ∧ H3 Dl = some (.lst (((ts.take i).map Tm.txt).map V.str))) ⟨Ex.new hD, upd_same⟩ (fun i H3 _ k => SqT.of (k.1 _ _ HP)) ?_ ?_
          · rintro i x H3 hi ⟨e3, h3⟩
            obtain ⟨u, hu, hxu⟩ := hs.get hi
            have hum : u ∈ ts := get_mem hu
            have usz : u.size ≤ Tm.sizes ts := size_mem hum
            have ud : u.deep + 1 ≤ (Tm.node (.op o) ts).deep := parts_deep (t := .node (.op o) ts) hum
            refine ⟨rfl, yes ⟨_, rfl, x, u, M, rfl, hxu.ex (E1.trans e3), hks u hum, hM, by omega, by omega, fun H4 e4 => ⟨_, e4 Dl _ h3, ?_, Ex.mut (e3.trans e4) hD, ?_⟩⟩⟩
            · rw [List.length_map, List.length_map, List.length_take]
              exact small1000 (by omega)
            · rw [upd_same, take_more hu, List.map_append, List.map_append]
              rfl
          · rintro H3 ⟨e3, h3⟩
            rw [hs.length, List.take_length] at h3
            refine ⟨l, Dl, [.str (Hd.op o).S], (ts.map Tm.txt).map V.str, rfl, rfl, e3 l _ (ep l _ upd_same), h3, ?_, fun p5 np5 => ?_⟩
            · rw [List.length_map, List.length_map]
              exact Nat.le_trans (by show 1 + ts.length ≤ 5; omega) (by decide)
            refine ⟨" ", p5, (Hd.op o).S :: ts.map Tm.txt, rfl, rfl, .inl (SqL.of upd_same), ?_, ?_⟩
            · rw [o3, Nat.mul_one]
              exact Nat.le_trans tot (by decide)
            rw [join_eq]
            exact ⟨_, _, rfl, rfl, by rw [o1, big]; omega, _, _, rfl, rfl, by rw [str_len_append, o1, o2, big]; omega, qn _ (E1.trans (e3.trans (Ex.new np5)))⟩
      | @call _ b m ws _ hh2 h2 hs =>
        rw [show inV (.str (Tm.node (.call m) ts).word) [.str "call", .str "ring"] = true by show inV (.str "call") [.str "call", .str "ring"] = true; decide +kernel]
        refine iteT ⟨_, rfl, a, _, 0, _, rfl, rfl, SqT.of (e1 _ _ hh2), at0, rfl, _, rfl, ?_⟩
        rw [eq_word, decide_eq_true rfl]
        have ml : m.length = 6 := hh.1.1
        refine iteT ⟨_, rfl, a, _, 1, _, rfl, rfl, SqT.of (e1 _ _ hh2), rfl, _, _, rfl, rfl, ?_, ?_⟩
        · rw [show ("#" : Str).length = 1 by decide +kernel, ml]
          decide
        refine ⟨⟨_, rfl⟩, _, rfl, sz 1, fun l nl => ⟨_, rfl, a, _, 2, _, rfl, rfl, SqT.of ((Ex.new nl) _ _ (e1 _ _ hh2)), rfl, b, rfl, ⟨ws, SqT.of ((Ex.new nl) _ _ (e1 _ _ h2))⟩, fun Dl hD => ?_⟩⟩
        · have el := Ex.new (o := .lst [.str (Hd.call m).S]) nl
          have HP := el _ _ (e1 _ _ h2)
          have E1 := e1.trans el
          refine lc_tup (xs := ws) (fun i H3 => Ex _ H3 ∧ H3 Dl = some (.lst (((ts.take i).map Tm.txt).map V.str))) ⟨Ex.new hD, upd_same⟩ (fun i H3 _ k => SqT.of (k.1 _ _ HP)) ?_ ?_
          · rintro i x H3 hi ⟨e3, h3⟩
            obtain ⟨u, hu, hxu⟩ := hs.get hi
            have hum : u ∈ ts := get_mem hu
            have usz : u.size ≤ Tm.sizes ts := size_mem hum
            have ud : u.deep + 1 ≤ (Tm.node (.call m) ts).deep := parts_deep (t := .node (.call m) ts) hum
            refine ⟨rfl, yes ⟨_, rfl, x, u, M, rfl, hxu.ex (E1.trans e3), hks u hum, hM, by omega, by omega, fun H4 e4 => ⟨_, e4 Dl _ h3, ?_, Ex.mut (e3.trans e4) hD, ?_⟩⟩⟩
            · rw [List.length_map, List.length_map, List.length_take]
              exact small1000 (by omega)
            · rw [upd_same, take_more hu, List.map_append, List.map_append]
              rfl
          · rintro H3 ⟨e3, h3⟩
            rw [hs.length, List.take_length] at h3
            refine ⟨l, Dl, [.str (Hd.call m).S], (ts.map Tm.txt).map V.str, rfl, rfl, e3 l _ upd_same, h3, ?_, fun p5 np5 => ?_⟩
            · rw [List.length_map, List.length_map]
              exact Nat.le_trans (by show 1 + ts.length ≤ 5; omega) (by decide)
            refine ⟨" ", p5, (Hd.call m).S :: ts.map Tm.txt, rfl, rfl, .inl (SqL.of upd_same), ?_, ?_⟩
            · rw [o3, Nat.mul_one]
              exact Nat.le_trans tot (by decide)
            rw [join_eq]
            exact ⟨_, _, rfl, rfl, by rw [o1, big]; omega, _, _, rfl, rfl, by rw [str_len_append, o1, o2, big]; omega, qn _ (E1.trans (e3.trans (Ex.new np5)))⟩
      | @ring _ b k ws _ hh2 h2 hs =>
        rw [show inV (.str (Tm.node (.ring k) ts).word) [.str "call", .str "ring"] = true by show inV (.str "ring") [.str "call", .str "ring"] = true; decide +kernel]
        refine iteT ⟨_, rfl, a, _, 0, _, rfl, rfl, SqT.of (e1 _ _ hh2), at0, rfl, _, rfl, ?_⟩
        rw [eq_word, show decide (("ring" : Str) = "call") = false by decide +kernel]
        have kM : k ≤ M := hh.1
        refine iteF ⟨_, rfl, a, _, 1, _, rfl, rfl, SqT.of (e1 _ _ hh2), rfl, _, rfl, log_small (by omega) (by omega), _, _, rfl, rfl, ?_, ?_⟩
        · have := nt_len (n := k) (by omega)
          rw [show ("@" : Str).length = 1 by decide +kernel]
          show 1 + (nt k).length ≤ sizeLine
          exact Nat.le_trans (by omega : _ ≤ 8) (by decide)
        refine ⟨⟨_, rfl⟩, _, rfl, sz 1, fun l nl => ⟨_, rfl, a, _, 2, _, rfl, rfl, SqT.of ((Ex.new nl) _ _ (e1 _ _ hh2)), rfl, b, rfl, ⟨ws, SqT.of ((Ex.new nl) _ _ (e1 _ _ h2))⟩, fun Dl hD => ?_⟩⟩
        · have el := Ex.new (o := .lst [.str (Hd.ring k).S]) nl
          have HP := el _ _ (e1 _ _ h2)
          have E1 := e1.trans el
          refine lc_tup (xs := ws) (fun i H3 => Ex _ H3 ∧ H3 Dl = some (.lst (((ts.take i).map Tm.txt).map V.str))) ⟨Ex.new hD, upd_same⟩ (fun i H3 _ k => SqT.of (k.1 _ _ HP)) ?_ ?_
          · rintro i x H3 hi ⟨e3, h3⟩
            obtain ⟨u, hu, hxu⟩ := hs.get hi
            have hum : u ∈ ts := get_mem hu
            have usz : u.size ≤ Tm.sizes ts := size_mem hum
            have ud : u.deep + 1 ≤ (Tm.node (.ring k) ts).deep := parts_deep (t := .node (.ring k) ts) hum
            refine ⟨rfl, yes ⟨_, rfl, x, u, M, rfl, hxu.ex (E1.trans e3), hks u hum, hM, by omega, by omega, fun H4 e4 => ⟨_, e4 Dl _ h3, ?_, Ex.mut (e3.trans e4) hD, ?_⟩⟩⟩
            · rw [List.length_map, List.length_map, List.length_take]
              exact small1000 (by omega)
            · rw [upd_same, take_more hu, List.map_append, List.map_append]
              rfl
          · rintro H3 ⟨e3, h3⟩
            rw [hs.length, List.take_length] at h3
            refine ⟨l, Dl, [.str (Hd.ring k).S], (ts.map Tm.txt).map V.str, rfl, rfl, e3 l _ upd_same, h3, ?_, fun p5 np5 => ?_⟩
            · rw [List.length_map, List.length_map]
              exact Nat.le_trans (by show 1 + ts.length ≤ 5; omega) (by decide)
            refine ⟨" ", p5, (Hd.ring k).S :: ts.map Tm.txt, rfl, rfl, .inl (SqL.of upd_same), ?_, ?_⟩
            · rw [o3, Nat.mul_one]
              exact Nat.le_trans tot (by decide)
            rw [join_eq]
            exact ⟨_, _, rfl, rfl, by rw [o1, big]; omega, _, _, rfl, rfl, by rw [str_len_append, o1, o2, big]; omega, qn _ (E1.trans (e3.trans (Ex.new np5)))⟩
end
end V


set_option Elab.async false
set_option linter.all false
set_option maxRecDepth 100000
set_option maxHeartbeats 400000
namespace V
open PySem PySem.Spec PyProof.Rows L2 Evl TL NumText
section
variable {P : Program} {w : World} {K : PySem.W.Frag} {mg : Str → Option Value} {base : Heap}
theorem ok_lawSum (T : Txt K w mg) : Cal P w K mg base 1 "_law_sum" ["text", "start"] spSum := by
  refine T.D__law_sum.cal sc__law_sum (fun vs H Q E h => ?_) (fun f cdv A outer s H vs Q E hr h => ?_)
  · obtain ⟨z, n, rfl, _⟩ := h
    rfl
  obtain ⟨z, n, rfl, hs, q⟩ := h
  refine ⟨_, (pss_cons (ps_set (i := 2) sc__law_sum.nd rfl (.inl rfl) pe_str)
  (pss_cons (ps_for PassesOwn.never rfl (pi_str (pv 0)) (pg_name (i := 3) sc__law_sum.nd rfl (.inl rfl))
    (pss_one (ps_set (i := 1) sc__law_sum.nd rfl (.inl rfl) (pe_op op_mod (pe_op op_add (pe_op op_add (pe_op op_mul (pv 1) pe_int) (pe_bm PySem.F.plainAttrs_str PySem.F.slot_str_index PySem.F.type_str_index mt_sindex (pv 2) (pa_cons (pv 3) pa_nil))) pe_int) pe_int))))
  (pss_one (ps_ret (pv 1))))), ?_⟩
  refine ⟨_, rfl, z, rfl, ?_⟩
  refine for_it walk_str (fun i σ H1 => ∃ y, σ = [some (.str z), some (.int ((hashL ((tl z).take i) n : Nat) : Int)), some (.str sgS), y] ∧ H1 = H) ⟨none, rfl, rfl⟩ (fun _ _ _ _ _ => trivial) ?_ ?_
  · rintro i x σ H1 H2 hi ⟨y, rfl, rfl⟩ ⟨rfl, c, hc, rfl⟩
    have hc2 : (tl z)[i]? = some c := by rw [← hc]; exact Array.getElem?_toList
    obtain ⟨rest, ho⟩ := sg_ix c (hs c (get_mem hc2))
    refine ⟨_, rfl, _, _, rfl, rfl, .inr ⟨by decide, by decide⟩, _, rfl, rfl, _, rfl, sgS, ⟨#[c]⟩, sgIx c, rest, rfl, rfl, ho, _, _, rfl, rfl, _, _, rfl, rfl, _, _, rfl, rfl, (by show (0 : Int) < 998244353; decide), ?_⟩
    refine ⟨some (.str ⟨#[c]⟩), ?_, rfl⟩
    have e : ((hashL ((tl z).take (i + 1)) n : Nat) : Int) = (((hashL ((tl z).take i) n : Nat) : Int) * 131 + (sgIx c : Nat) + 1) % 998244353 := by
      have f : hashL ((tl z).take (i + 1)) n = (hashL ((tl z).take i) n * 131 + sgIx c + 1) % 998244353 := by
        rw [take_more hc2]
        unfold hashL
        rw [List.foldl_append]
        rfl
      rw [f]
      omega
    rw [e]
    rfl
  · rintro σ H1 ⟨y, rfl, rfl⟩
    have e : (tl z).take z.cps.size = tl z := by rw [show z.cps.size = (tl z).length from len_tl z, List.take_length]
    rw [e]
    exact ⟨_, rfl, q _ (Ex.refl _)⟩
end
end V


set_option Elab.async false
set_option linter.all false
set_option maxRecDepth 100000
set_option maxHeartbeats 400000
namespace V
open PySem PySem.Spec PyProof.Rows L2 Evl TL NumText
section
variable {P : Program} {w : World} {K : PySem.W.Frag} {mg : Str → Option Value} {base : Heap}
theorem ok_someText (T : Txt K w mg) (G__law_take : Cal P w K mg base 1 "_law_take" ["box", "size"] spTake) (G__law_any_term : Cal P w K mg base 6 "_law_any_term" ["box"] spAny) (G__law_text : Cal P w K mg base 9 "_law_text" ["term"] (spTx 8)) :
    Cal P w K mg base 10 "_law_some_text" ["box"] spSomeText := by
  refine T.D__law_some_text.cal sc__law_some_text (fun vs H Q E h => ?_) (fun f cdv A outer s H vs Q E hr h => ?_)
  · obtain ⟨b, n, rfl, _⟩ := h
    rfl
  obtain ⟨b, n, rfl, hB, q⟩ := h
  refine ⟨_, (pss_cons (ps_asg (pe_tup (pa_cons pe_str (pa_cons (pe_fn G__law_take hr (by omega) (pa_cons (pv 0) (pa_cons pe_int pa_nil))) pa_nil))) (pg_tup rfl (pgs_cons (pg_name (i := 1) sc__law_some_text.nd rfl (.inr rfl)) (pgs_cons (pg_name (i := 2) sc__law_some_text.nd rfl (.inl rfl)) pgs_nil))))
  (pss_cons (ps_set (i := 3) sc__law_some_text.nd rfl (.inl rfl) (pe_ix (r := rIxL K) ix_list (pe_lst (pa_cons pe_int (pa_cons pe_int (pa_cons (pe_fn G__law_take hr (by omega) (pa_cons (pv 0) (pa_cons pe_int pa_nil))) (pa_cons pe_int (pa_cons (pe_fn G__law_take hr (by omega) (pa_cons (pv 0) (pa_cons pe_int pa_nil))) (pa_cons pe_int pa_nil))))))) (pe_fn G__law_take hr (by omega) (pa_cons (pv 0) (pa_cons pe_int pa_nil))) (fun _ _ => rfl)))
  (pss_cons (ps_if (pt_cmpR op_eq (pv 2) pe_int (nomark _))
    (pss_one (ps_ret (pe_op op_mulS (pe_ix ix_str (pv 1) (pe_fn G__law_take hr (by omega) (pa_cons (pv 0) (pa_cons pe_int pa_nil))) (fun _ _ => rfl)) (pv 3))))
    pss_nil)
  (pss_cons (ps_if (pt_cmpR op_eq (pv 2) pe_int (nomark _))
    (pss_one (ps_ret (pe_op op_add_str (pe_op op_mulS (pe_ix ix_str (pe_op op_add_str (pe_op op_add_str pe_str (pe_ix ix_str (pv 1) pe_int (fun _ _ => rfl))) pe_str) (pe_fn G__law_take hr (by omega) (pa_cons (pv 0) (pa_cons pe_int pa_nil))) (fun _ _ => rfl)) (pv 3)) pe_str)))
    pss_nil)
  (pss_cons (ps_if (pt_cmpR op_eq (pv 2) pe_int (nomark _))
    (pss_one (ps_ret (pe_fn G__law_text hr (by omega) (pa_cons (pe_fn G__law_any_term hr (by omega) (pa_cons (pv 0) pa_nil)) pa_nil))))
    pss_nil)
  (pss_one (ps_ret (pe_join pe_str (pe_lc (own := [("turn", 4)]) (g := (gName 4)) (tt := tYes) rfl sc__law_some_text.nd (pi_range1 rfl T.z_range (pa_cons (pv 3) pa_nil)) (blkOk_by (N := N__law_some_text) (sc := defScope s__law_some_text) (by decide +kernel)) (fun _ _ _ _ _ => (pg_name (i := 4) sc__law_some_text.nd rfl (.inl rfl))) (fun _ _ _ _ _ => pts_nil) (fun _ _ _ _ _ => (pe_ix ix_str (pv 1) (pe_fn G__law_take hr (by omega) (pa_cons (pv 0) (pa_cons pe_int pa_nil))) (fun _ _ => rfl)))))))))))), ?_⟩
  let A0 : L2.St → Hp → Prop := fun σ H' => σ = [some (.ref b), none, none, none, none] ∧ H' = H
  let A1 : L2.St → Hp → Prop := fun σ H' => ∃ m : Int, σ = [some (.ref b), some (.str sgS), some (.int m), none, none] ∧ But b H H' ∧ Box H' b (n + 999)
  let A2 : L2.St → Hp → Prop := fun σ H' => ∃ (m : Int) (z : Nat), σ = [some (.ref b), some (.str sgS), some (.int m), some (.int (z : Int)), none] ∧ But b H H' ∧ Box H' b (n + 990) ∧ z ≤ 200
  refine (Hs.fin (A := A0) (B := A1) ?_ (Hs.fin (B := A2) ?_ (Q := Q) ?_)) _ _ H ⟨rfl, rfl⟩ fun v H' h => h
  · rintro D σ H0 ⟨rfl, rfl⟩ kk
    exact ⟨_, rfl, b, 6, n + 999, rfl, by decide, by decide, hB, fun H1 m u1 B1 m0 m1 => ⟨sz 2, fun p hp => ⟨p, _, rfl, SqT.of upd_same, rfl, _, _, rfl, _, _, rfl, rfl, kk _ _ ⟨m, rfl, u1.trans (But.of (Ex.new hp)), B1.ex (Ex.new hp)⟩⟩⟩⟩
  · rintro D σ H1 ⟨m, rfl, u1, B1⟩ kk
    refine ⟨_, rfl, b, 12, n + 998, rfl, by decide, by decide, B1, fun H2 x u2 B2 x0 x1 => ⟨_, rfl, b, 60, n + 997, rfl, by decide, by decide, B2, fun H3 y u3 B3 y0 y1 => ⟨sz 6, fun pl hpl => ⟨_, rfl, b, 6, n + 996, rfl, by decide, by decide, B3.ex (Ex.new hpl), fun H4 k u4 B4 k0 k1 => ?_⟩⟩⟩⟩
    obtain ⟨xn, rfl⟩ := Int.eq_ofNat_of_zero_le x0
    obtain ⟨yn, rfl⟩ := Int.eq_ofNat_of_zero_le y0
    obtain ⟨z, hat, hz⟩ : ∃ z : Nat, atI [V.int 0, V.int 1, V.int (xn : Int), V.int 200, V.int (yn : Int), V.int 7] k = some (.int (z : Int)) ∧ z ≤ 200 := by
      have w6 : k = 0 ∨ k = 1 ∨ k = 2 ∨ k = 3 ∨ k = 4 ∨ k = 5 := by omega
      rcases w6 with rfl | rfl | rfl | rfl | rfl | rfl
      · exact ⟨0, rfl, by decide⟩
      · exact ⟨1, rfl, by decide⟩
      · exact ⟨xn, rfl, by omega⟩
      · exact ⟨200, rfl, by decide⟩
      · exact ⟨yn, rfl, by omega⟩
      · exact ⟨7, rfl, by decide⟩
    exact ⟨pl, _, k, _, rfl, rfl, SqL.of (u4 pl _ (B3.ne hpl) upd_same), hat, kk _ _ ⟨m, z, rfl, u1.trans (u2.trans (u3.trans ((But.of (Ex.new hpl)).trans u4))), B4.less (by omega), hz⟩⟩
  · rintro D σ H1 ⟨m, z, rfl, u1, B1, hz⟩ kk
    refine ⟨_, rfl, rfl, _, rfl, ?_⟩
    rw [dec_ii]
    by_cases c0 : m = 0
    · rw [decide_eq_true c0]
      refine iteT ⟨_, rfl, _, rfl, b, 43, n + 989, rfl, by decide, by decide, B1, fun H2 k u2 B2 k0 k1 => ?_⟩
      obtain ⟨kn, rfl⟩ := Int.eq_ofNat_of_zero_le k0
      obtain ⟨c, hc, hs⟩ := sg_any kn (by omega)
      refine ⟨sgS, _, c, rfl, rfl, by decide +kernel, hc, _, rfl, ⟨#[c]⟩, z, rfl, rfl, by show 1 ≤ 1000; decide, by omega, kk _ _ (q H2 _ (u1.trans u2) (B2.less (by omega)) ?_ (sg_rep (x := ⟨#[c]⟩) ?_ z))⟩
      · rw [rep_len]
        show z * 1 ≤ 900
        omega
      · intro d hd
        rw [List.mem_singleton.mp (show d ∈ [c] from hd)]
        exact hs
    rw [decide_eq_false c0]
    refine iteF ⟨_, rfl, rfl, _, rfl, ?_⟩
    rw [dec_ii]
    by_cases c1 : m = 1
    · rw [decide_eq_true c1]
      have e58 : atI sgS.cps.toList (42 : Int) = some 58 := atI_nat (j := 42) (by decide +kernel)
      refine iteT ⟨_, rfl, sgS, _, 58, rfl, rfl, by decide +kernel, e58, _, _, rfl, rfl, by decide +kernel, _, _, rfl, rfl, by decide +kernel, ?_⟩
      rw [show (("0" : Str) ++ ⟨#[58]⟩ ++ "z") = "0:z" by decide +kernel]
      refine ⟨_, rfl, b, 3, n + 989, rfl, by decide, by decide, B1, fun H2 k u2 B2 k0 k1 => ?_⟩
      obtain ⟨c, hc, hs⟩ : ∃ c : Nat, atI ("0:z" : Str).cps.toList k = some c ∧ c ∈ tl sgS := by
        have w3 : k = 0 ∨ k = 1 ∨ k = 2 := by omega
        rcases w3 with rfl | rfl | rfl
        · exact ⟨48, atI_nat (j := 0) (by decide +kernel), by decide +kernel⟩
        · exact ⟨58, atI_nat (j := 1) (by decide +kernel), by decide +kernel⟩
        · exact ⟨122, atI_nat (j := 2) (by decide +kernel), by decide +kernel⟩
      have l1 : ("1" : Str).length = 1 := by decide +kernel
      have lr : (rep ⟨#[c]⟩ z).length = z * 1 := rep_len ⟨#[c]⟩ z
      refine ⟨"0:z", _, c, rfl, rfl, by decide +kernel, hc, _, rfl, ⟨#[c]⟩, z, rfl, rfl, by show 1 ≤ 1000; decide, by omega, _, _, rfl, rfl, ?_, kk _ _ (q H2 _ (u1.trans u2) (B2.less (by omega)) ?_ ?_)⟩
      · rw [lr, l1]
        exact Nat.le_trans (by omega : z * 1 + 1 ≤ 201) (by decide)
      · rw [str_len_append, lr, l1]
        omega
      · rw [tl_append]
        refine Sg.app (sg_rep (x := ⟨#[c]⟩) (fun d hd => ?_) z) (by unfold Sg; decide +kernel)
        rw [List.mem_singleton.mp (show d ∈ [c] from hd)]
        exact hs
    rw [decide_eq_false c1]
    refine iteF ⟨_, rfl, rfl, _, rfl, ?_⟩
    rw [dec_ii]
    by_cases c2 : m = 2
    · rw [decide_eq_true c2]
      refine iteT ⟨_, rfl, b, n + 590, rfl, B1, fun H2 v t u2 B2 g o d zz => ⟨v, t, 11, rfl, g, o, by decide, d, by omega, fun H3 e3 => kk _ _ (q H3 t.txt (u1.trans (u2.trans (But.of e3))) ((B2.ex e3).less (by omega)) ?_ (sg_txt t o))⟩⟩
      have := txt_len (M := 11) (by decide) t o
      omega
    rw [decide_eq_false c2]
    refine iteF ⟨⟨_, rfl⟩, _, rfl, (z : Int), rfl, by omega, by omega, fun Dl hD => ?_⟩
    have nb := B1.ne hD
    refine lc_range (lo := 0) (n := z) (fun j H4 => But b H1 H4 ∧ Box H4 b (n + 990 - j) ∧ ∃ l : List Nat, l.length = j ∧ Sg l ∧ H4 Dl = some (.lst ((ones l).map V.str))) ⟨But.of (Ex.new hD), B1.ex (Ex.new hD), [], rfl, (fun c h => by cases h), upd_same⟩ ?_ ?_
    · rintro j H4 hj ⟨u4, B4, l, l1, l2, d4⟩
      refine ⟨rfl, yes ⟨_, rfl, _, rfl, b, 43, n + 990 - (j + 1), rfl, by decide, by decide, ?_, fun H5 k u5 B5 k0 k1 => ?_⟩⟩
      · rw [show n + 990 - (j + 1) + 1 = n + 990 - j by omega]
        exact B4
      obtain ⟨kn, rfl⟩ := Int.eq_ofNat_of_zero_le k0
      obtain ⟨ch, hc1, hc2⟩ := sg_any kn (by omega)
      refine ⟨sgS, _, ch, rfl, rfl, by decide +kernel, hc1, _, u5 Dl _ nb d4, ?_, But.on hD u4 u5, B5.on nb, l ++ [ch], ?_, Sg.app l2 fun c hc => ?_, ?_⟩
      · rw [List.length_map, ones, List.length_map]
        exact small1000 (by omega)
      · rw [List.length_append, l1]
        rfl
      · rw [List.mem_singleton.mp hc]
        exact hc2
      · have e : ones (l ++ [ch]) = ones l ++ [⟨#[ch]⟩] := List.map_append ..
        rw [upd_same, e, List.map_append]
        rfl
    · rintro H4 ⟨u4, B4, l, l1, l2, d4⟩
      refine ⟨"", Dl, ones l, rfl, rfl, .inl (SqL.of d4), ?_, kk _ _ ?_⟩
      · rw [ones_sum, show ("" : Str).length = 0 by decide +kernel]
        omega
      · rw [join_eq]
        refine q H4 _ (u1.trans u4) (B4.less (by omega)) ?_ ?_
        · rw [len_tl, tl_ones, l1]
          omega
        · rw [tl_ones]
          exact l2
end
end V


set_option Elab.async false
set_option linter.all false
set_option maxRecDepth 100000
set_option maxHeartbeats 4000000
namespace V
open PySem PySem.Spec PyProof.Rows L2 Evl
section
variable {P : Program} {w : World} {K : PySem.W.Frag} {mg : Str → Option Value} {base : Heap}
theorem ok_isMark (D : Def K mg "is_mark" s_is_mark ["thing"]) (zi : mg "isinstance" = none) (zs : mg "str" = none) (zl : mg "len" = none) (za : mg "all" = none) (cL : ∃ t, mg "MARK_LENGTH" = some (.int 6 t))
    (cS : ∃ t, mg "SIGNS" = some (.str sgS t)) (cB : ∃ t, mg "BASE" = some (.int 36 t)) : Cal P w K mg base 1 "is_mark" ["thing"] (spTest Small isMarkD K) := by
  refine D.cal sc_is_mark (fun vs H Q E h => ?_) (fun f cdv A outer s H vs Q E hr h => ?_)
  · obtain ⟨v, d, rfl, _⟩ := h
    rfl
  obtain ⟨v, d, rfl, hd, hs, q⟩ := h
  refine ⟨_, pss_cons (ps_if (PW.pt (pw_or (pt_not (pt_val (pe_bi call_isi zi (pa_cons (pv 0) (pa_cons (pe_ty zs) pa_nil))))) (pw_or1 (pt_cmpR op_ne (pe_bi call_len zl (pa_cons (pv 0) pa_nil)) (pe_gi cL) (nomark _)))))
      (pss_one (ps_ret pe_bl)) pss_nil)
    (pss_one (ps_ret (pe_bi (cr_all rfl) za (pa_cons (pe_lc (own := [("sign", 1)]) (g := gName 1) (tt := tYes) rfl sc_is_mark.nd (pi_str (pv 0)) (blkOk_by (N := N_is_mark) (sc := defScope s_is_mark) (by decide +kernel))
      (fun _ _ _ _ _ => pg_name (i := 1) sc_is_mark.nd rfl (.inl rfl)) (fun _ _ _ _ _ => pts_nil) (fun _ _ _ _ _ => pe_cmpR op_in_sign (pv 1) (pe_slice sl_str (pe_gs cS) po_none (po_some (pe_gi cB))) rfl)) pa_nil)))), ?_⟩
  refine ⟨v, rfl, _, _, _, _, _, rfl, .ty _, (dp_ty hd), kit_ty (kit_str d), _, rfl, ?_⟩
  have no : isMarkD d = false → tRet (tC (.bl false)) { nx := fun _ _ => True, rt := Q } [some v, none] H := fun e => by
    have q1 := q H (Ex.refl H)
    rw [e] at q1
    exact q1
  cases hs with
  | str hx =>
    rename_i x
    cases hd
    refine iteF ⟨_, rfl, _, x.length, rfl, ⟨Nat.le_trans hx (by decide), rfl⟩, rfl, _, rfl, ?_⟩
    by_cases c : x.length = 6
    · rw [decide_eq_true (show V.int (x.length : Int) = V.int 6 by rw [c]; rfl)]
      refine iteF ⟨_, rfl, x, rfl, fun Dl hD => ?_⟩
      refine lc_it walk_str (fun i H3 => Ex H H3 ∧ H3 Dl = some (.lst (((x.cps.toList.take i).map fun c => decide (c ∈ sgM.cps.toList)).map V.bl))) ⟨Ex.new hD, upd_same⟩ (fun _ _ _ _ => trivial) ?_ ?_
      · rintro i y H3 H4 hi ⟨e3, h3⟩ ⟨rfl, c, hc, rfl⟩
        have hc2 : x.cps.toList[i]? = some c := by rw [Array.getElem?_toList]; exact hc
        refine ⟨rfl, yes ⟨_, rfl, _, rfl, sgS, rfl, (by decide +kernel), c, _, rfl, rfl, _, h3, ?_, Ex.mut e3 hD, ?_⟩⟩
        · rw [List.length_map, List.length_map, List.length_take]
          exact small1000 (by have : x.cps.toList.length = x.length := Array.length_toList; omega)
        · rw [upd_same, take_more hc2, List.map_append, List.map_append, cut_sg]
          rfl
      · rintro H3 ⟨e3, h3⟩
        rw [show x.cps.size = x.cps.toList.length from Array.length_toList.symm, List.take_length] at h3
        refine ⟨Dl, _, rfl, SqL.of h3, ?_⟩
        rw [all_take]
        have q1 := q H3 e3
        have e1 : isMarkD (.str x) = x.cps.toList.all fun c => decide (c ∈ sgM.cps.toList) := by
          show (x.length == 6 && _) = _
          rw [c]
          rfl
        rw [e1] at q1
        exact q1
    · rw [decide_eq_false (fun z => c (by have := V.int.inj z; omega))]
      refine iteT (no ?_)
      show (x.length == 6 && _) = false
      rw [beq_eq_false_iff_ne.mpr c]
      rfl
  | _ => exact iteT (iteT (no rfl))
end
end V


set_option Elab.async false
set_option linter.all false
set_option maxRecDepth 100000
set_option maxHeartbeats 4000000
namespace V
open PySem PySem.Spec PyProof.Rows L2 Evl TL NumText
section
variable {P : Program} {w : World} {K : PySem.W.Frag} {mg : Str → Option Value} {base : Heap}
theorem ok_markN (T : Txt K w mg) : Cal P w K mg base 1 "mark_of_number" ["number"] spMarkN := by
  refine T.D_mark_of_number.cal sc_mark_of_number (fun vs H Q E h => ?_) (fun f cdv A outer s H vs Q E hr h => ?_)
  · obtain ⟨n, rfl, _⟩ := h
    rfl
  obtain ⟨n, rfl, hn, q⟩ := h
  refine ⟨_, (pss_cons (ps_set (i := 1) sc_mark_of_number.nd rfl (.inl rfl) pe_str)
  (pss_cons (ps_for PassesOwn.never rfl (pi_range1 rfl T.z_range (pa_cons (pe_gi T.c_MARK_LENGTH) pa_nil)) (pg_name (i := 2) sc_mark_of_number.nd rfl (.inl rfl))
    (pss_cons (ps_set (i := 1) sc_mark_of_number.nd rfl (.inl rfl) (pe_op op_add_str (pe_ix ix_str (pe_gs T.c_SIGNS) (pe_op op_mod (pv 0) (pe_gi T.c_BASE)) (fun _ _ => rfl)) (pv 1)))
    (pss_one (ps_set (i := 0) sc_mark_of_number.nd rfl (.inl rfl) (pe_op op_fdiv (pv 0) (pe_gi T.c_BASE))))))
  (pss_one (ps_ret (pv 1))))), ?_⟩
  refine ⟨6, rfl, by decide, by decide, ?_⟩
  refine for_range (n := 6) (fun i σ H' => ∃ (m : Nat) (l : List Nat) (y : Option V), σ = [some (.int (m : Int)), some (.str ⟨l.toArray⟩), y] ∧ m < 2147483648 ∧ l.length = i ∧ mkL (6 - i) m l = mkL 6 n [] ∧ H' = H) ⟨n, [], none, rfl, hn, rfl, rfl, rfl⟩ ?_ ?_
  · rintro i σ H' hi ⟨m, l, y, rfl, hm, hl, he, rfl⟩
    have em : (m : Int) % 36 = ((m % 36 : Nat) : Int) := by omega
    refine ⟨_, rfl, _, _, rfl, rfl, (by show (0 : Int) < 36; decide), sgS, _, sgAt (m % 36), rfl, rfl, by decide +kernel, ?_, _, rfl, _, _, rfl, rfl, ?_, _, rfl, _, _, rfl, rfl, ⟨by decide, by decide⟩, ?_⟩
    · rw [em]
      exact sg_at (m % 36) (Nat.mod_lt _ (by decide))
    · show 1 + l.length ≤ sizeLine
      exact Nat.le_trans (by omega : 1 + l.length ≤ 7) (by decide)
    · rw [one_append]
      refine ⟨m / 36, sgAt (m % 36) :: l, some (.int (0 + (i : Int))), ?_, by omega, by rw [List.length_cons, hl], ?_, rfl⟩
      · rw [show ((m / 36 : Nat) : Int) = (m : Int) / 36 by omega]
        rfl
      · rw [← he, show 6 - i = (6 - (i + 1)) + 1 by omega]
        rfl
  · rintro σ H' ⟨m, l, y, rfl, hm, hl, he, rfl⟩
    have q1 := q H' (Ex.refl _)
    unfold mkS at q1
    rw [← he] at q1
    exact ⟨_, rfl, q1⟩
theorem ok_markT (T : Txt K w mg) (G_mark_of_number : Cal P w K mg base 1 "mark_of_number" ["number"] spMarkN) : Cal P w K mg base 2 "mark_of_text" ["text"] spMarkT := by
  refine T.D_mark_of_text.cal sc_mark_of_text (fun vs H Q E h => ?_) (fun f cdv A outer s H vs Q E hr h => ?_)
  · obtain ⟨z, rfl, _⟩ := h
    rfl
  obtain ⟨z, rfl, hz, hs, q⟩ := h
  refine ⟨_, (pss_cons (ps_set (i := 1) sc_mark_of_text.nd rfl (.inl rfl) (pe_gi T.c_FIRST_NUMBER))
  (pss_cons (ps_for PassesOwn.never rfl (pi_str (pv 0)) (pg_name (i := 2) sc_mark_of_text.nd rfl (.inl rfl))
    (pss_one (ps_set (i := 1) sc_mark_of_text.nd rfl (.inl rfl) (pe_op op_mod (pe_op op_add (pe_op op_add (pe_op op_mul (pv 1) (pe_gi T.c_FACTOR)) (pe_bm PySem.F.plainAttrs_str PySem.F.slot_str_index PySem.F.type_str_index mt_sindex (pe_gs T.c_SIGNS) (pa_cons (pv 2) pa_nil))) pe_int) (pe_gi T.c_MODULUS)))))
  (pss_one (ps_ret (pe_fn G_mark_of_number hr (by omega) (pa_cons (pv 1) pa_nil)))))), ?_⟩
  refine ⟨_, rfl, z, rfl, ?_⟩
  refine for_it walk_str (fun i σ H' => ∃ (y : Option V), σ = [some (.str z), some (.int ((hashL ((tl z).take i) 7 : Nat) : Int)), y] ∧ H' = H) ⟨none, rfl, rfl⟩ (fun _ _ _ _ _ => trivial) ?_ ?_
  · rintro i x σ H1 H2 hi ⟨y, rfl, rfl⟩ ⟨rfl, c, hc, rfl⟩
    have hc2 : (tl z)[i]? = some c := by rw [← hc]; exact Array.getElem?_toList
    have hcs := hs c (get_mem hc2)
    obtain ⟨rest, ho⟩ := sg_ix c hcs
    refine ⟨_, rfl, _, _, rfl, rfl, ?_, rfl, _, rfl, sgS, ⟨#[c]⟩, sgIx c, rest, rfl, rfl, ho, _, _, rfl, rfl, _, _, rfl, rfl, _, _, rfl, rfl, (by show (0 : Int) < 998244353; decide), ?_⟩
    · exact .inr ⟨by decide, by decide⟩
    · refine ⟨some (.str ⟨#[c]⟩), ?_, rfl⟩
      have e : ((hashL ((tl z).take (i + 1)) 7 : Nat) : Int) = (((hashL ((tl z).take i) 7 : Nat) : Int) * 131 + (sgIx c : Nat) + 1) % 998244353 := by
        have f : hashL ((tl z).take (i + 1)) 7 = (hashL ((tl z).take i) 7 * 131 + sgIx c + 1) % 998244353 := by
          rw [take_more hc2]
          unfold hashL
          rw [List.foldl_append]
          rfl
        rw [f]
        omega
      rw [e]
      rfl
  · rintro σ H1 ⟨y, rfl, rfl⟩
    have e : (tl z).take z.cps.size = tl z := by rw [show z.cps.size = (tl z).length from len_tl z, List.take_length]
    rw [e]
    refine ⟨_, rfl, hashL (tl z) 7, rfl, ?_, fun H2 e2 => q H2 e2⟩
    have lt : ∀ (l : List Nat) (n : Nat), n < 998244353 → hashL l n < 998244353 := by
      intro l
      induction l with
      | nil => exact fun n h => h
      | cons c l ih =>
        intro n h
        show hashL l ((n * 131 + sgIx c + 1) % 998244353) < _
        exact ih _ (Nat.mod_lt _ (by decide))
    have := lt (tl z) 7 (by decide)
    omega
end
end V


set_option Elab.async false
set_option linter.all false
set_option maxRecDepth 100000
set_option maxHeartbeats 4000000
namespace V
open PySem PySem.Spec PyProof.Rows L2 Evl TL NumText
section
variable {P : Program} {w : World} {K : PySem.W.Frag} {mg : Str → Option Value} {base : Heap}
theorem ok_same (T : Txt K w mg) : ∀ n : Nat, Cal P w K mg base n "_law_same" ["found", "due"] (spSame K n)
  | 0 => T.D__law_same.never fun vs H Q E h => by
      obtain ⟨v, w, d, _, _, _, h, _⟩ := h
      cases h
  | n + 1 => by
    have G__law_same := ok_same T n
    refine T.D__law_same.cal sc__law_same (fun vs H Q E h => ?_) (fun f cdv A outer s H vs Q E hr h => ?_)
    · obtain ⟨v, w, d, rfl, _⟩ := h
      rfl
    obtain ⟨v, w, d, rfl, h1, h2, hD, q⟩ := h
    refine ⟨_, (pss_cons (ps_if (pt_val (pe_bi call_isiT T.z_isinstance (pa_cons (pv 1) (pa_cons (pe_tup (pa_cons (pe_ty T.z_list) (pa_cons (pe_ty T.z_tuple) pa_nil))) pa_nil))))
    (pss_cons (ps_if (PW.pt (pw_or (pt_cmpR op_ne (pe_bi call_isi T.z_isinstance (pa_cons (pv 0) (pa_cons (pe_ty T.z_list) pa_nil))) (pe_bi call_isi T.z_isinstance (pa_cons (pv 1) (pa_cons (pe_ty T.z_list) pa_nil))) (nomark _)) (pw_or1 (pt_cmpR op_ne (pe_bi call_isi T.z_isinstance (pa_cons (pv 0) (pa_cons (pe_ty T.z_tuple) pa_nil))) (pe_bi call_isi T.z_isinstance (pa_cons (pv 1) (pa_cons (pe_ty T.z_tuple) pa_nil))) (nomark _)))))
      (pss_one (ps_ret pe_bl))
      pss_nil)
    (pss_one (ps_ret (pe_and (pe_cmpR op_eq (pe_bi call_len_seq T.z_len (pa_cons (pv 0) pa_nil)) (pe_bi call_len_seq T.z_len (pa_cons (pv 1) pa_nil)) (nomark _)) (pe_one (pe_bi (cr_all rfl) T.z_all (pa_cons (pe_lc (own := [("one", 2), ("other", 3)]) (g := (gTup K 2 (gCons (gName 2) (gCons (gName 3) gNil)))) (tt := tYes) rfl sc__law_same.nd (RZ.pi_zipA (by rfl) T.z_zip (pa_cons (pv 0) (pa_cons (pv 1) pa_nil))) (blkOk_by (N := N__law_same) (sc := defScope s__law_same) (by decide +kernel)) (fun _ _ _ _ _ => (pg_tup rfl (pgs_cons (pg_name (i := 2) sc__law_same.nd rfl (.inl rfl)) (pgs_cons (pg_name (i := 3) sc__law_same.nd rfl (.inl rfl)) pgs_nil)))) (fun _ _ _ _ _ => pts_nil) (fun _ _ _ _ _ => (pe_fn G__law_same hr (by omega) (pa_cons (pv 2) (pa_cons (pv 3) pa_nil))))) pa_nil)))))))
    pss_nil)
  (pss_cons (ps_if (PW.pt (pw_or (pt_cmpR op_isN (pv 1) pe_non (nomark _)) (pw_or1 (pt_val (pe_bi call_isi T.z_isinstance (pa_cons (pv 1) (pa_cons (pe_ty T.z_str) pa_nil)))))))
    (pss_one (ps_ret (pe_and (pe_cmpR op_eq (pv 0) (pv 1) (nomark _)) (pe_one (pe_cmpR op_eq (pe_bi call_isi T.z_isinstance (pa_cons (pv 0) (pa_cons (pe_ty T.z_str) pa_nil))) (pe_bi call_isi T.z_isinstance (pa_cons (pv 1) (pa_cons (pe_ty T.z_str) pa_nil))) (nomark _))))))
    pss_nil)
  (pss_one (ps_ret (pe_and (pe_bi call_isi T.z_isinstance (pa_cons (pv 0) (pa_cons (pe_ty T.z_int) pa_nil))) (pe_and (pe_cmpR op_eq (pe_bi call_isi T.z_isinstance (pa_cons (pv 0) (pa_cons (pe_ty T.z_bool) pa_nil))) (pe_bi call_isi T.z_isinstance (pa_cons (pv 1) (pa_cons (pe_ty T.z_bool) pa_nil))) (nomark _)) (pe_one (pe_cmpR op_eq (pv 0) (pv 1) (nomark _))))))))), ?_⟩
    refine ⟨_, rfl, sz 2, fun tp hp => ?_⟩
    have ep := Ex.new (o := .tup [.ty "list", .ty "tuple"]) hp
    refine ⟨_, tp, _, _, _, _, rfl, upd_same, .cons (.ty _) (.cons (.ty _) .nil), dp_ty (dp_ex ep h2), kit_two K d, _, rfl, ?_⟩
    have g1 := dp_ex ep h1
    have g2 := dp_ex ep h2
    generalize upd H tp (.tup [.ty "list", .ty "tuple"]) = H1 at ep g1 g2
    have qd : ∀ (x : V) (H' : Hp), Ex H H' → Q (.bl (decide (x = x))) H' := fun x H' e => by
      rw [decide_eq_true rfl]
      exact q H' e
    have nd : ∀ x : V, (!decide (x = x)) = false := fun x => by rw [decide_eq_true rfl]; rfl
    cases hD with
    | int i =>
      cases g1
      cases g2
      refine iteF ⟨_, rfl, rfl, _, rfl, iteF ?_⟩
      refine ⟨_, rfl, _, _, _, _, _, rfl, .ty _, dp_ty (Dp.int i), kit_ty (kit_str (.int i)), _, rfl, iteF ?_⟩
      refine ⟨_, rfl, _, _, _, _, _, rfl, .ty _, dp_ty (Dp.int i), kit_ty (kit_int (.int i)), _, rfl, iteT ?_⟩
      refine ⟨_, rfl, _, _, _, _, _, rfl, .ty _, dp_ty (Dp.int i), kit_ty (kit_bool (.int i)), _, rfl, _, _, _, _, _, rfl, .ty _, dp_ty (Dp.int i), kit_ty (kit_bool (.int i)), rfl, _, rfl, ?_⟩
      rw [decide_eq_true rfl]
      exact iteT ⟨_, rfl, _, rfl, rfl, qd _ _ ep⟩
    | str x =>
      cases g1
      cases g2
      refine iteF ⟨_, rfl, rfl, _, rfl, iteF ?_⟩
      refine ⟨_, rfl, _, _, _, _, _, rfl, .ty _, dp_ty (Dp.str x), kit_ty (kit_str (.str x)), _, rfl, iteT ⟨_, rfl, _, rfl, rfl, _, rfl, ?_⟩⟩
      rw [decide_eq_true rfl]
      exact iteT ⟨_, rfl, _, _, _, _, _, rfl, .ty _, dp_ty (Dp.str x), kit_ty (kit_str (.str x)), _, rfl, _, _, _, _, _, rfl, .ty _, dp_ty (Dp.str x), kit_ty (kit_str (.str x)), rfl, qd _ _ ep⟩
    | @lst _ ds hl hks =>
      cases g1 with
      | @lst a1 xs _ k1 m1 =>
      cases g2 with
      | @lst a2 ys _ k2 m2 =>
      refine iteT ⟨_, rfl, _, _, _, _, _, rfl, .ty _, dp_ty (Dp.lst (K := K) k1 m1), kit_ty (kit_lst _), _, rfl, _, _, _, _, _, rfl, .ty _, dp_ty (Dp.lst (K := K) k2 m2), kit_ty (kit_lst _), rfl, _, rfl, ?_⟩
      rw [nd]
      refine iteF ⟨_, rfl, _, _, _, _, _, rfl, .ty _, dp_ty (Dp.lst (K := K) k1 m1), kit_ty (kit_tup _), _, rfl, _, _, _, _, _, rfl, .ty _, dp_ty (Dp.lst (K := K) k2 m2), kit_ty (kit_tup _), rfl, _, rfl, ?_⟩
      rw [nd]
      have l1 := dps_len m1
      have l2 := dps_len m2
      refine iteF ⟨_, rfl, a1, xs, rfl, .inl k1, _, rfl, a2, ys, rfl, .inl k2, rfl, _, rfl, ?_⟩
      rw [show decide (V.int (xs.length : Int) = V.int (ys.length : Int)) = true from decide_eq_true (by rw [l1, l2])]
      refine iteT ⟨_, rfl, _, rfl, a1, a2, xs, ys, rfl, .inl ⟨k1, k2, fun Dl hN => ?_⟩⟩
      refine lc_it (walk_zip (n := xs.length) (by omega)) (fun i H3 => Ex H1 H3 ∧ H3 Dl = some (.lst (((ds.take i).map fun _ => true).map V.bl))) ⟨Ex.new hN, upd_same⟩ (fun i H3 _ p => ⟨ex_l p.1 k1, ex_l p.1 k2⟩) ?_ ?_
      · rintro i x H3 H4 hi ⟨e3, h3⟩ ⟨t, x1, x2, rfl, hT, rfl, hx1, hx2⟩
        obtain ⟨d1, u1, u2⟩ := dps_get m1 hx1
        obtain ⟨d2, u3, u4⟩ := dps_get m2 hx2
        rw [u1] at u3
        cases u3
        have f4 : Ex H1 (upd H3 t (.tup [x1, x2])) := e3.trans (Ex.new hT)
        have h4 : (upd H3 t (.tup [x1, x2])) Dl = some (.lst (((ds.take i).map fun _ => true).map V.bl)) := (Ex.new hT) Dl _ h3
        refine ⟨t, _, rfl, SqT.of upd_same, rfl, x1, _, rfl, x2, _, rfl, rfl, rfl, yes ⟨_, rfl, _, rfl, x1, x2, d1, rfl, dp_ex f4 u2, dp_ex f4 u4, hks d1 (get_mem u1), fun H5 e5 => ⟨_, e5 Dl _ h4, ?_, Ex.mut (f4.trans e5) hN, ?_⟩⟩⟩
        · rw [List.length_map, List.length_map, List.length_take]
          exact small1000 (by omega)
        · rw [upd_same, take_more u1, List.map_append, List.map_append]
          rfl
      · rintro H3 ⟨e3, h3⟩
        rw [show xs.length = ds.length from l1, List.take_length] at h3
        refine ⟨Dl, _, rfl, SqL.of h3, ?_⟩
        have ea : ((ds.map fun _ => true).all id) = true := by
          rw [List.all_map]
          exact List.all_eq_true.mpr fun _ _ => rfl
        rw [ea]
        exact q H3 (ep.trans e3)
    | @tup _ ds hl hks =>
      cases g1 with
      | @tup a1 xs _ k1 m1 =>
      cases g2 with
      | @tup a2 ys _ k2 m2 =>
      refine iteT ⟨_, rfl, _, _, _, _, _, rfl, .ty _, dp_ty (Dp.tup (K := K) k1 m1), kit_ty (kit_lst _), _, rfl, _, _, _, _, _, rfl, .ty _, dp_ty (Dp.tup (K := K) k2 m2), kit_ty (kit_lst _), rfl, _, rfl, ?_⟩
      rw [nd]
      refine iteF ⟨_, rfl, _, _, _, _, _, rfl, .ty _, dp_ty (Dp.tup (K := K) k1 m1), kit_ty (kit_tup _), _, rfl, _, _, _, _, _, rfl, .ty _, dp_ty (Dp.tup (K := K) k2 m2), kit_ty (kit_tup _), rfl, _, rfl, ?_⟩
      rw [nd]
      have l1 := dps_len m1
      have l2 := dps_len m2
      refine iteF ⟨_, rfl, a1, xs, rfl, .inr k1, _, rfl, a2, ys, rfl, .inr k2, rfl, _, rfl, ?_⟩
      rw [show decide (V.int (xs.length : Int) = V.int (ys.length : Int)) = true from decide_eq_true (by rw [l1, l2])]
      refine iteT ⟨_, rfl, _, rfl, a1, a2, xs, ys, rfl, .inr ⟨k1, k2, fun Dl hN => ?_⟩⟩
      refine lc_it (walk_zip2 (by omega)) (fun i H3 => Ex H1 H3 ∧ H3 Dl = some (.lst (((ds.take i).map fun _ => true).map V.bl))) ⟨Ex.new hN, upd_same⟩ (fun i H3 _ p => ⟨ex_t p.1 k1, ex_t p.1 k2⟩) ?_ ?_
      · rintro i x H3 H4 hi ⟨e3, h3⟩ ⟨t, x1, x2, rfl, hT, rfl, hx1, hx2⟩
        obtain ⟨d1, u1, u2⟩ := dps_get m1 hx1
        obtain ⟨d2, u3, u4⟩ := dps_get m2 hx2
        rw [u1] at u3
        cases u3
        have f4 : Ex H1 (upd H3 t (.tup [x1, x2])) := e3.trans (Ex.new hT)
        have h4 : (upd H3 t (.tup [x1, x2])) Dl = some (.lst (((ds.take i).map fun _ => true).map V.bl)) := (Ex.new hT) Dl _ h3
        refine ⟨t, _, rfl, SqT.of upd_same, rfl, x1, _, rfl, x2, _, rfl, rfl, rfl, yes ⟨_, rfl, _, rfl, x1, x2, d1, rfl, dp_ex f4 u2, dp_ex f4 u4, hks d1 (get_mem u1), fun H5 e5 => ⟨_, e5 Dl _ h4, ?_, Ex.mut (f4.trans e5) hN, ?_⟩⟩⟩
        · rw [List.length_map, List.length_map, List.length_take]
          exact small1000 (by omega)
        · rw [upd_same, take_more u1, List.map_append, List.map_append]
          rfl
      · rintro H3 ⟨e3, h3⟩
        rw [show xs.length = ds.length from l1, List.take_length] at h3
        refine ⟨Dl, _, rfl, SqL.of h3, ?_⟩
        have ea : ((ds.map fun _ => true).all id) = true := by
          rw [List.all_map]
          exact List.all_eq_true.mpr fun _ _ => rfl
        rw [ea]
        exact q H3 (ep.trans e3)
end
end V


set_option Elab.async false
set_option linter.all false
set_option maxRecDepth 100000
set_option maxHeartbeats 4000000
namespace V
open PySem PySem.Spec PyProof.Rows L2 Evl TL NumText
section
variable {P : Program} {w : World} {K : PySem.W.Frag} {mg : Str → Option Value} {base : Heap}
theorem all_k05 (T : Txt K w mg) {fL : Addr} {fd : FuncData} (F : FunD K "law" "law" (defArgs s_law) (defBody s_law) (defScope s_law) [] [] fL fd) : FnOk P w K mg base CX0 12 fL fd ["script"] (spLaw K) := by
  have G_take : Cal P w K mg base 1 "_law_take" ["box", "size"] spTake := ok_take T.D__law_take T.z_divmod
  have G_num : Cal P w K mg base 2 "_law_number" ["box"] spNum := ok_number T.D__law_number G_take
  have G_sm := ok_someMark (P := P) (base := base) T G_take
  have G_any := ok_anyTerm (P := P) (base := base) T G_take G_num G_sm (ok_term T G_take G_num 3)
  have G_st := ok_someText (P := P) (base := base) T G_take G_any (ok_lawText T 8)
  have G_mt : Cal P w K mg base 2 "mark_of_text" ["text"] spMarkT := ok_markT T (ok_markN T)
  have G_lm : Cal P w K mg base 1 "_law_mark" ["text"] spMarkT := ok_lawMark T
  have G_same : Cal P w K mg base 3 "_law_same" ["found", "due"] (spSame K 3) := ok_same T 3
  have G_right := ok_right (P := P) (base := base) T G_take G_st G_mt G_lm G_same (ok_isMark T.D_is_mark T.z_isinstance T.z_str T.z_len T.z_all T.c_MARK_LENGTH T.c_SIGNS T.c_BASE) (ok_lawSum T)
  have G_long := ok_long (P := P) (base := base) T G_take G_mt G_lm G_same
  exact ok_law T F (ok_folded T.D__law_folded T.z_list T.z_enumerate) (ok_box T.D__law_box T.z_len T.z_abs T.z_int) G_long G_right
end
end V


set_option Elab.async false
set_option linter.all false
set_option maxRecDepth 100000
set_option maxHeartbeats 4000000
namespace V
open PySem PySem.Spec PyProof.Rows L2
theorem facts {P : Program} {w : World} {K : PySem.W.Frag} {h h0 : Heap} {mg : Str → Option Value} {f : Addr} (X : K.In h) (G : h.Ns mainGlobals mg) (hfa : mg ("law" : Str) = some (.ref f)) (c : He.SaysX fa fn tabs [] ex w h0 K) :
    ∃ fd : FuncData, (∀ (s : Shared) (v : Value), BindsTo s fd ⟨[v], []⟩ [("script", v)]) ∧ ∀ base : Heap, K.In base → base.Ns mainGlobals mg → FnOk P w K mg base CX0 12 f fd ["script"] (spLaw K) := by
  have T : Txt K w mg := txt_of X G c
  obtain ⟨fd, F⟩ := c.t.d.def_ 17 (d := d_law) rfl
  have e := hfa.symm.trans (He.glo_ok X G (c.t.d.fact 17 (f := .glo "law") rfl))
  cases e
  have b := FunD.bindsA (ps := ["script"]) F fun _ _ _ _ _ _ us hl => match us, hl with | [_], _ => rfl
  exact ⟨fd, fun s v => b s [v] rfl, fun base _ _ => all_k05 T F⟩
end V
open PySem PySem.W PySem.Calls PyProof.Rows
theorem PySem.Challenge.cw_contentnames_k05_marks_of_texts_holds : PySem.Challenge.rw_contentnames_k05_marks_of_texts.Holds := by
  w_on; o_law
  refine HandSHeadRun.head_any (r := OpenLaw.row PySem.Challenge.rw_contentnames_k05_marks_of_texts) (q := view (OpenLaw.row PySem.Challenge.rw_contentnames_k05_marks_of_texts).prog [26]) (H := V.hk) (ob := V.ob) (M := 6000) (loose := V.loose)
    (d := HandSHeadRun.topDef (OpenLaw.row PySem.Challenge.rw_contentnames_k05_marks_of_texts).prog 26) (kwd := []) V.ob_eq
    (by kernel_rfl) (fun s => by kernel_rfl) V.run (by kernel_rfl) (by kernel_rfl) (by kernel_rfl) (by rfl) (by first | assumption | decide +kernel) (by decide +kernel) ⟨rfl, rfl, rfl, rfl, rfl, by decide +kernel⟩ ?hw ?hc
  case hw => w_witness2
  case hc =>
    refine L2.walk_ofE (l := PySem.Challenge.rw_contentnames_k05_marks_of_texts) (n := 63) (k := 12) (x := "script") (CX := L2.CX0) rfl (by decide) (by kernel_rfl) ⟨rfl, by decide, by decide⟩ ?F (fun _ _ _ _ z => z)
    intro w mg fa h Y G hmg0
    obtain ⟨K, KX, c⟩ := Y
    have hmg : mg ("law" : PySem.Str) = some (.ref fa) := by
      have e : (HandSHeadRun.topDef (OpenLaw.row PySem.Challenge.rw_contentnames_k05_marks_of_texts).prog 26).name = ("law" : PySem.Str) := by kernel_rfl
      rw [← e]
      exact hmg0
    obtain ⟨fd, hb, hF⟩ := V.facts (P := (PySem.Challenge.rw_contentnames_k05_marks_of_texts).prog) (w := w) KX G hmg c
    exact ⟨K, fd, V.spLaw K, KX, hb, fun H a ns hl _ hS => ⟨a, ns, rfl, hS, hl, fun _ => rfl⟩, hF⟩

