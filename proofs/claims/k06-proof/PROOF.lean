import PyProof.Rows.All
import Wide.All
import OpenK.AllK
import Wide.FinOn
import HandS.ForMost
import HandS.More
import HandS.Defaults
import HandS.IsInst
import HandS.WideBits
import HandS.Wide
import HandS.Style
import HandS.TupAny
import HandS.StrMore
import HandS.SetKeys
import HandS.SetBool
import HandS.Flow
import HandS.RaiseOp
import HandS.Zip
import HandS.Walk
import HandS.Conv
import HandS.EndBits
import HandS.Evl
import HandS.SortKw
import KE.DatumOrd
import HandS.HeadHook4
import PyProof.Rows.SortShellAny
import KE.IntTextText
import KE.KIntText
import HandS.Strs
import HandS.Replace
import HandS.Head0
import HandS.Head1
import HandS.Head2
import HandS.HeadEnd
import HandS.HeadHook1
import HandS.HeadHook2
import HandS.HeadHook3
import HandS.HeadWalk
import HandS.Star
import PySem.Challenge.RW_contentnames_k06_known_terms_and_marks
set_option Elab.async false
set_option linter.all false
set_option maxRecDepth 100000
set_option maxHeartbeats 4000000
namespace V
open PySem PySem.Spec PyProof.Rows L2 Evl
/-! ### defs of the top, called by their names -/
/-- the def of this name stands at the top -/
structure Def (K : PySem.W.Frag) (mg : Str → Option Value) (x : Str) (st : Stmt) (ps : List Str) : Prop where
  ex : ∃ (f : Addr) (fd : FuncData), FunD K x x (defArgs st) (defBody st) (defScope st) [] [] f fd ∧ mg x = some (.ref f) ∧ Binds K fd ps []
/-- .. and keeps this promise, with k calls within one another -/
structure Cal (P : Program) (w : World) (K : PySem.W.Frag) (mg : Str → Option Value) (base : Heap) (k : Nat) (x : Str) (ps : List Str) (sp : Sp) : Prop where
  ex : ∃ (f : Addr) (fd : FuncData), FnOk P w K mg base CX0 k f fd ps sp ∧ mg x = some (.ref f) ∧ PySem.W.keepIn K (.ref f) = true ∧ Binds K fd ps []
section
variable {P : Program} {w : World} {K : PySem.W.Frag} {mg : Str → Option Value} {base : Heap} {x : Str} {st : Stmt} {ps N : List Str} {k : Nat} {sp sp' : Sp}
theorem Def.cal (D : Def K mg x st ps) (S : FnScope N ps (defScope st)) (len : ∀ vs H Q E, sp vs H Q E → vs.length = ps.length)
    (body : ∀ (f : Addr) (cdv : Value) (A : Around) (outer : List Env) (s : Shared) (H : Hp) (vs : List V) (Q : VK) (E : XK),
      Room k (A.deeper (envOfC x (defScope st) s.heap.objs.size f cdv)) → sp vs H Q E →
      ∃ t, PSs (cxOf CX0 P w K mg base N x (defScope st) f cdv A outer s H E).nox (defBody st) t ∧
        t { nx := fun _ H' => Q .non H', rt := Q } (start N vs) H) : Cal P w K mg base (k + 1) x ps sp := by
  obtain ⟨f, fd, F, hm, hb⟩ := D.ex
  refine ⟨f, fd, F.ok S len (fun cdv A outer s H vs Q E hr h => ?_), hm, F.kp, hb⟩
  obtain ⟨t, h1, h2⟩ := body f cdv A outer s H vs Q E hr h
  exact ⟨t, h1.nox, h2⟩
theorem Cal.mono {j : Nat} (C : Cal P w K mg base j x ps sp) (h : j ≤ k) : Cal P w K mg base k x ps sp := by
  obtain ⟨f, fd, F, h1, h2, h3⟩ := C.ex
  exact ⟨f, fd, F.mono h, h1, h2, h3⟩
theorem Cal.imp (C : Cal P w K mg base k x ps sp) (h : ∀ vs H Q E, sp' vs H Q E → sp vs H Q E) : Cal P w K mg base k x ps sp' := by
  obtain ⟨f, fd, F, h1, h2, h3⟩ := C.ex
  exact ⟨f, fd, F.imp h, h1, h2, h3⟩
/-- nothing is promised: none may call it -/
theorem Def.never (D : Def K mg x st ps) (no : ∀ vs H Q E, ¬ sp vs H Q E) : Cal P w K mg base 0 x ps sp := by
  obtain ⟨f, fd, F, hm, hb⟩ := D.ex
  exact ⟨f, fd, ⟨fun vs H Q E h => absurd h (no vs H Q E), fun A outer s H args us vs Q E _ _ _ _ h => absurd h (no vs H Q E)⟩, hm, F.kp, hb⟩
end
/-- its call -/
def tFn (sp : Sp) (t : TA) : TE := fun σ H Q => t σ H fun vs H1 => sp vs H1 Q E0
section
variable {X : Cx}
theorem pe_fn {j k : Nat} {x : Str} {ps : List Str} {sp : Sp} {e : Expr} {es : List Expr} {t : TA} {p pos : Pos} (C : Cal X.prog X.w X.K X.mg X.base k x ps sp) (hr : Room j X.A) (hk : k ≤ j) (ha : PA X (e :: es) t)
    (hg : Gl X x := by rfl) (hdb : (x == ("__debug__" : Str)) = false := by decide) (he : starEach (e :: es) X.env = (false, eval e X.env) :: starEach es X.env := by rfl)
    (hpl : (backTo pos (starEach es X.env)).any (·.1) = false := by rfl) : PE X (.Call (.Name x p) (e :: es) [] pos) (tFn sp t) := by
  obtain ⟨f, fd, F, h1, h2, h3⟩ := C.ex
  have h := pe_call (ds := []) (dvs := []) (E := E0) (p := p) F (hr.mono hk) hg h1 h2 h3 .nil pass0 ha hdb he hpl
  refine ⟨fun pins s σ H Q I q => h.run pins s σ H Q I ?_⟩
  have e1 : (fun (vs : List V) (H1 : Hp) => sp (vs ++ []) H1 Q E0) = fun vs H1 => sp vs H1 Q E0 := by
    funext vs H1
    rw [List.append_nil]
  show t σ H fun vs H1 => sp (vs ++ []) H1 Q E0
  rw [e1]
  exact q
/-- a built-in function, a built-in type, called -/
theorem pe_bi {id : String} {r : List V → Hp → VK → Prop} {x : Str} {e : Expr} {es : List Expr} {t : TA} {p pos : Pos} (hc : CallR X (.builtin id) r) (hm : X.mg x = none) (ha : PA X (e :: es) t) (hg : Gl X x := by rfl)
    (hv : bootBuiltins x = some (.builtin id) := by decide +kernel) (hn : x ≠ "__name__" := by decide) (hdb : (x == ("__debug__" : Str)) = false := by decide)
    (he : starEach (e :: es) X.env = (false, eval e X.env) :: starEach es X.env := by rfl) (hpl : (backTo pos (starEach es X.env)).any (·.1) = false := by rfl) : PE X (.Call (.Name x p) (e :: es) [] pos) (tCB r t) :=
  pe_callB hc hg hm hv ha hn hdb he hpl
theorem pe_bt {T : String} {r : List V → Hp → VK → Prop} {x : Str} {e : Expr} {es : List Expr} {t : TA} {p pos : Pos} (hc : CallR X (.type T) r) (hm : X.mg x = none) (ha : PA X (e :: es) t) (hg : Gl X x := by rfl)
    (hv : bootBuiltins x = some (.type T) := by decide +kernel) (hn : x ≠ "__name__" := by decide) (hdb : (x == ("__debug__" : Str)) = false := by decide)
    (he : starEach (e :: es) X.env = (false, eval e X.env) :: starEach es X.env := by rfl) (hpl : (backTo pos (starEach es X.env)).any (·.1) = false := by rfl) : PE X (.Call (.Name x p) (e :: es) [] pos) (tCB r t) :=
  pe_callTy hc hg hm hv ha hn hdb he hpl
theorem ev_fn {sp : Sp} {σ : L2.St} {H : Hp} {vs : List V} {z : V} {ta : TA} (h : EvA ta σ H vs) (hs : SpV sp vs H z) : Ev (tFn sp ta) σ H z := fun H1 e Q q =>
  h H1 e _ fun H2 e2 => hs H2 (e.trans e2) Q (fun H3 e3 => q H3 (e2.trans e3)) E0
theorem el_fn {sp : Sp} {σ : L2.St} {H : Hp} {vs xs : List V} {ta : TA} (h : EvA ta σ H vs) (hs : SpL sp vs H xs) : EvL (tFn sp ta) σ H xs := fun H1 e Q q =>
  h H1 e _ fun H2 e2 => hs H2 (e.trans e2) Q (fun p H3 hp e3 h3 => q p H3 (fresh_back e2 hp) (e2.trans e3) h3) E0
end
theorem sz (n : Nat) (h : n ≤ 1000 := by decide) : n ≤ sizeLine := Nat.le_of_lt (small1000 h)
theorem at0 {α : Type} {x : α} {r : List α} : atI (x :: r) 0 = some x := atI_nat (j := 0) rfl
theorem at1 {α : Type} {x y : α} {r : List α} : atI (x :: y :: r) 1 = some y := atI_nat (j := 1) rfl
theorem at2 {α : Type} {x y z : α} {r : List α} : atI (x :: y :: z :: r) 2 = some z := atI_nat (j := 2) rfl
/-- a turn of a comprehension without a test -/
theorem yes {σ : L2.St} {H : Hp} {A B : Hp → Prop} (h : A H) : tYes σ H fun b H3 => if b = true then A H3 else B H3 := by
  show (fun b H3 => if b = true then A H3 else B H3) true H
  exact iteT h
/-! ### heaps -/
/-- all that was tracked but at b is as it was -/
def But (b : Addr) (H H' : Hp) : Prop := ∀ c o, c ≠ b → H c = some o → H' c = some o
theorem But.refl (b : Addr) (H : Hp) : But b H H := fun _ _ _ h => h
theorem But.trans {b : Addr} {H H1 H2 : Hp} (x : But b H H1) (y : But b H1 H2) : But b H H2 := fun c o n h => y c o n (x c o n h)
theorem But.of {b : Addr} {H H' : Hp} (e : Ex H H') : But b H H' := fun c o _ h => e c o h
theorem But.upd {b : Addr} {H H' : Hp} {o : HO} (e : But b H H') : But b H (upd H' b o) := fun c u n h => by
  rw [upd_ne n]
  exact e c u n h
/-- the tuples stay -/
def Tu (H H' : Hp) : Prop := ∀ c xs, H c = some (.tup xs) → H' c = some (.tup xs)
theorem Tu.refl (H : Hp) : Tu H H := fun _ _ h => h
theorem Tu.trans {H H1 H2 : Hp} (x : Tu H H1) (y : Tu H1 H2) : Tu H H2 := fun c xs h => y c xs (x c xs h)
theorem Tu.of {H H' : Hp} (e : Ex H H') : Tu H H' := fun c _ h => e c _ h
theorem But.tu {b : Addr} {xs : List V} {H H' : Hp} (e : But b H H') (hb : H b = some (.lst xs)) : Tu H H' := fun c ys h => e c _ (fun z => by
  rw [z, hb] at h
  cases h) h
end V


set_option Elab.async false
set_option linter.all false
set_option maxRecDepth 100000
set_option maxHeartbeats 4000000
namespace V
open PySem PySem.Spec PyProof.Rows L2 Evl
/-! ### max(numbers, default=d) -/
def rMaxDf (K : PySem.W.Frag) : List V → List V → Hp → VK → Prop := fun vs zs H Q => ∃ (a : Addr) (ns : List Int) (d : Int), vs = [V.ref a] ∧ zs = [V.int d] ∧ SqL K H a (ns.map V.int) ∧
  (ns = [] → Q (.int d) H) ∧ ∀ m, m ∈ ns → (∀ y, y ∈ ns → y ≤ m) → Q (.int m) H
theorem top_of : ∀ (xs : List Int) (x : Int), (xs.foldl (fun a y => if PySem.W.DatumOrd.lt a y = true then y else a) x) ∈ x :: xs ∧ ∀ y ∈ x :: xs, y ≤ xs.foldl (fun a y => if PySem.W.DatumOrd.lt a y = true then y else a) x
  | [], x => ⟨List.mem_cons_self .., fun y h => by
    rw [List.mem_singleton.mp h]
    exact Int.le_refl _⟩
  | z :: xs, x => by
    obtain ⟨h1, h2⟩ := top_of xs (if PySem.W.DatumOrd.lt x z = true then z else x)
    rw [List.foldl_cons]
    generalize List.foldl (fun a y => if PySem.W.DatumOrd.lt a y = true then y else a) (if PySem.W.DatumOrd.lt x z = true then z else x) xs = top at h1 h2 ⊢
    have lt_is : PySem.W.DatumOrd.lt x z = decide (x < z) := rfl
    have h3 := h2 _ (List.mem_cons_self ..)
    rw [lt_is] at h1 h3
    by_cases c : x < z
    · rw [if_pos (decide_eq_true c)] at h1 h3
      refine ⟨List.mem_cons_of_mem _ h1, fun y hy => ?_⟩
      rcases List.mem_cons.mp hy with rfl | hy
      · omega
      · rcases List.mem_cons.mp hy with rfl | hy
        · exact h3
        · exact h2 y (List.mem_cons_of_mem _ hy)
    · rw [if_neg (by rw [decide_eq_true_eq]; exact c)] at h1 h3
      refine ⟨?_, fun y hy => ?_⟩
      · rcases List.mem_cons.mp h1 with e | h1
        · rw [e]
          exact List.mem_cons_self ..
        · exact List.mem_cons_of_mem _ (List.mem_cons_of_mem _ h1)
      · rcases List.mem_cons.mp hy with rfl | hy
        · exact h3
        · rcases List.mem_cons.mp hy with rfl | hy
          · omega
          · exact h2 y (List.mem_cons_of_mem _ hy)
section
variable {X : Cx}
theorem cr_maxDf (hc : X.calm = true) (hu : X.A.units + 64 < cLine) : CallRK X (.builtin "max") ["default"] (rMaxDf X.K) := by
  intro pins s σ H vs zs us ws Q I r rz h
  obtain ⟨a, ns, d, rfl, rfl, hs, q0, q⟩ := h
  obtain ⟨its, rv, hl, _⟩ := I.list hs
  obtain ⟨u, rfl, t, rfl⟩ := vals1 rz
  rw [Vals.ref1 r]
  refine PySem.W.max_list_datum_default (xs := ns) (I.ok.hd hc) hl.isList (PySem.W.HoldAll.of_ints (by simpa using rv.ints)) (by show X.A.units + 1 + 0 < cLine; omega) (fun e h' tk hk => ?_) fun y ys i v h' tk e hi hh hk => ?_
  · exact ⟨.int d, H, I.kept hk, ⟨_, rfl⟩, q0 e⟩
  · have hv : ∃ t', v = .int (PySem.W.maxOf y ys) t' := by
      have ha : PySem.W.HoldAll h' [v] [PySem.W.maxOf y ys] := .cons hh .nil
      have hb := PySem.W.HoldAll.toInts ha
      cases hb with
      | cons n t _ => exact ⟨t, rfl⟩
    have hm := top_of ys y
    subst e
    exact ⟨.int (PySem.W.maxOf y ys), H, I.kept hk, hv, q _ hm.1 hm.2⟩
/-- .. as it's written: one argument, one keyword -/
theorem pe_maxDf {e : Expr} {es : List Expr} {kws : List Keyword} {t tk : TA} {p pos : Pos} (hc : X.calm = true) (hu : X.A.units + 64 < cLine) (hm : X.mg "max" = none) (ha : PA X (e :: es) t) (hk : PK X kws tk) (hg : Gl X "max" := by rfl)
    (h1 : backTo pos (starEach (e :: es) X.env) = (false, eval e X.env) :: backTo pos (starEach es X.env) := by rfl) (h2 : (backTo pos (starEach (e :: es) X.env)).any (·.1) = false := by rfl)
    (h3 : (backToKw pos (keywordEach kws X.env)).all (·.1.isSome) = true := by rfl) (h4 : (backToKw pos (keywordEach kws X.env)).any (·.1.isNone) = false := by rfl)
    (h5 : (backToKw pos (keywordEach kws X.env)).filterMap (·.1) = (["default"] : List Str) := by rfl) :
    PE X (.Call (.Name "max" p) (e :: es) kws pos) (tCKw (rMaxDf X.K) t tk) :=
  pe_callBK (cr_maxDf hc hu) hg hm (by decide +kernel) ha hk (by decide) (by decide) h1 h2 h3 h4 h5
end
end V


set_option Elab.async false
set_option linter.all false
set_option maxRecDepth 100000
set_option maxHeartbeats 4000000
namespace V
open PySem PySem.Spec PyProof.Rows L2 Evl
/-! ### terms -/
inductive Op where
  | add | less | times | under | cond
  deriving DecidableEq
def Op.str : Op → Str
  | .add => "add" | .less => "less" | .times => "times" | .under => "under" | .cond => "if"
def Op.ar : Op → Nat
  | .cond => 3
  | _ => 2
inductive Hd where
  | op (o : Op) | call (m : Str) | ring (p : Nat)
  deriving DecidableEq
inductive Tm where
  | num (n : Nat) | arg (k : Nat) | node (h : Hd) (ts : List Tm)
theorem Tm.ind {M : Tm → Prop} (h1 : ∀ n, M (.num n)) (h2 : ∀ k, M (.arg k)) (h3 : ∀ h ts, (∀ t ∈ ts, M t) → M (.node h ts)) : ∀ t, M t
  | .num n => h1 n
  | .arg k => h2 k
  | .node h ts => h3 h ts fun t ht => by
    have : sizeOf t < sizeOf (Tm.node h ts) := by
      have := List.sizeOf_lt_of_mem ht
      simp only [Tm.node.sizeOf_spec]
      omega
    exact Tm.ind h1 h2 h3 t
termination_by t => sizeOf t
def Tm.parts : Tm → List Tm
  | .node _ ts => ts
  | _ => []
mutual
def Tm.deep : Tm → Nat
  | .num _ => 1
  | .arg _ => 1
  | .node _ ts => 1 + Tm.deeps ts
def Tm.deeps : List Tm → Nat
  | [] => 0
  | t :: ts => max t.deep (Tm.deeps ts)
end
mutual
def Tm.size : Tm → Nat
  | .num _ => 1
  | .arg _ => 1
  | .node _ ts => 1 + Tm.sizes ts
def Tm.sizes : List Tm → Nat
  | [] => 0
  | t :: ts => t.size + Tm.sizes ts
end
mutual
/-- it and all in it, from left to right -/
def Tm.all : Tm → List Tm
  | .num n => [.num n]
  | .arg k => [.arg k]
  | .node h ts => .node h ts :: Tm.alls ts
def Tm.alls : List Tm → List Tm
  | [] => []
  | t :: ts => t.all ++ Tm.alls ts
end
/-- a mark: six figures or letters -/
def isMk (m : Str) : Prop := m.length = 6 ∧ ∀ c ∈ m.cps.toList, (48 ≤ c ∧ c ≤ 57) ∨ (97 ≤ c ∧ c ≤ 122)
def Hd.ok (M : Nat) : Hd → Nat → Prop
  | .op o, n => n = o.ar
  | .call m, n => isMk m ∧ n ≤ 4
  | .ring p, n => p ≤ M ∧ n ≤ 4
/-- as terms are, places to M -/
inductive Tm.Ok (M : Nat) : Tm → Prop where
  | num {n : Nat} : n ≤ 1000002 → Tm.Ok M (.num n)
  | arg {k : Nat} : k ≤ 3 → Tm.Ok M (.arg k)
  | node {h : Hd} {ts : List Tm} : h.ok M ts.length → (∀ t ∈ ts, Tm.Ok M t) → Tm.Ok M (.node h ts)
theorem Hd.ok.le {M : Nat} {h : Hd} {n : Nat} (k : h.ok M n) : n ≤ 4 := by
  cases h with
  | op o =>
    have e : n = o.ar := k
    rw [e]
    cases o <;> decide
  | call m => exact k.2
  | ring p => exact k.2
theorem deep_pos : ∀ t : Tm, 1 ≤ t.deep
  | .num _ => Nat.le_refl _
  | .arg _ => Nat.le_refl _
  | .node h ts => by
    show 1 ≤ 1 + Tm.deeps ts
    omega
theorem deep_le {t : Tm} {ts : List Tm} (h : t ∈ ts) : t.deep ≤ Tm.deeps ts := by
  induction ts with
  | nil => cases h
  | cons u us ih =>
    show t.deep ≤ max u.deep (Tm.deeps us)
    rcases List.mem_cons.mp h with rfl | h
    · omega
    · have := ih h
      omega
theorem all_len : ∀ t : Tm, t.all.length = t.size
  | .num _ => rfl
  | .arg _ => rfl
  | .node h ts => by
    have alls_len : ∀ us : List Tm, (∀ u ∈ us, u.all.length = u.size) → (Tm.alls us).length = Tm.sizes us := by
      intro us
      induction us with
      | nil => intro _; rfl
      | cons u us ih =>
        intro hu
        show (u.all ++ Tm.alls us).length = u.size + Tm.sizes us
        rw [List.length_append, hu u (List.mem_cons_self ..), ih fun v hv => hu v (List.mem_cons_of_mem _ hv)]
    show (Tm.alls ts).length + 1 = 1 + Tm.sizes ts
    rw [alls_len ts fun u hu => all_len u]
    omega
/-! ### terms as they lie -/
mutual
/-- v is the term t -/
inductive TmAt (H : Hp) : V → Tm → Prop where
  | num {a : Addr} {n : Nat} : H a = some (.tup [.str "num", .int (n : Int)]) → TmAt H (.ref a) (.num n)
  | arg {a : Addr} {k : Nat} : H a = some (.tup [.str "arg", .int (k : Int)]) → TmAt H (.ref a) (.arg k)
  | op {a : Addr} {o : Op} {vs : List V} {ts : List Tm} : H a = some (.tup (.str o.str :: vs)) → TmsAt H vs ts → TmAt H (.ref a) (.node (.op o) ts)
  | call {a p : Addr} {m : Str} {vs : List V} {ts : List Tm} : H a = some (.tup [.str "call", .str m, .ref p]) → H p = some (.tup vs) → TmsAt H vs ts → TmAt H (.ref a) (.node (.call m) ts)
  | ring {a p : Addr} {k : Nat} {vs : List V} {ts : List Tm} : H a = some (.tup [.str "ring", .int (k : Int), .ref p]) → H p = some (.tup vs) → TmsAt H vs ts → TmAt H (.ref a) (.node (.ring k) ts)
inductive TmsAt (H : Hp) : List V → List Tm → Prop where
  | nil : TmsAt H [] []
  | cons {v : V} {vs : List V} {t : Tm} {ts : List Tm} : TmAt H v t → TmsAt H vs ts → TmsAt H (v :: vs) (t :: ts)
end
mutual
theorem TmAt.tu {H H' : Hp} (e : Tu H H') : ∀ {v : V} {t : Tm}, TmAt H v t → TmAt H' v t
  | _, _, .num h => .num (e _ _ h)
  | _, _, .arg h => .arg (e _ _ h)
  | _, _, .op h hs => .op (e _ _ h) (hs.tu e)
  | _, _, .call h hp hs => .call (e _ _ h) (e _ _ hp) (hs.tu e)
  | _, _, .ring h hp hs => .ring (e _ _ h) (e _ _ hp) (hs.tu e)
theorem TmsAt.tu {H H' : Hp} (e : Tu H H') : ∀ {vs : List V} {ts : List Tm}, TmsAt H vs ts → TmsAt H' vs ts
  | _, _, .nil => .nil
  | _, _, .cons h hs => .cons (h.tu e) (hs.tu e)
end
theorem TmAt.ex {H H' : Hp} {v : V} {t : Tm} (h : TmAt H v t) (e : Ex H H') : TmAt H' v t := h.tu (Tu.of e)
theorem TmsAt.ex {H H' : Hp} {vs : List V} {ts : List Tm} (h : TmsAt H vs ts) (e : Ex H H') : TmsAt H' vs ts := h.tu (Tu.of e)
theorem TmsAt.length {H : Hp} : ∀ {vs : List V} {ts : List Tm}, TmsAt H vs ts → vs.length = ts.length
  | _, _, .nil => rfl
  | _, _, .cons _ hs => by rw [List.length_cons, List.length_cons, hs.length]
theorem TmsAt.get {H : Hp} : ∀ {vs : List V} {ts : List Tm}, TmsAt H vs ts → ∀ {i : Nat} {v : V}, vs[i]? = some v → ∃ t, ts[i]? = some t ∧ TmAt H v t
  | _, _, .nil, i, v, e => by simp at e
  | _, _, .cons h hs, 0, v, e => by
    cases Option.some.inj e
    exact ⟨_, rfl, h⟩
  | _, _, .cons h hs, i + 1, v, e => hs.get (i := i) (v := v) e
theorem TmsAt.append {H : Hp} : ∀ {vs ws : List V} {ts us : List Tm}, TmsAt H vs ts → TmsAt H ws us → TmsAt H (vs ++ ws) (ts ++ us)
  | _, _, _, _, .nil, q => q
  | _, _, _, _, .cons h hs, q => .cons h (hs.append q)
theorem TmsAt.take {H : Hp} : ∀ {vs : List V} {ts : List Tm} (n : Nat), TmsAt H vs ts → TmsAt H (vs.take n) (ts.take n)
  | _, _, 0, _ => .nil
  | _, _, _ + 1, .nil => .nil
  | _, _, n + 1, .cons h hs => .cons h (hs.take n)
theorem TmsAt.drop {H : Hp} : ∀ {vs : List V} {ts : List Tm} (n : Nat), TmsAt H vs ts → TmsAt H (vs.drop n) (ts.drop n)
  | _, _, 0, h => h
  | _, _, _ + 1, .nil => .nil
  | _, _, n + 1, .cons _ hs => hs.drop n
/-! ### the words of operations -/
def opWords : List Str := ["add", "less", "times", "under", "if"]
theorem dic_at {K : PySem.W.Frag} {a : Addr} {ls : List (Option (Str × Int))} (h : He.dicW K a = some ls) :
    ∃ oc od es n sl, K.lookup a = some ⟨oc, od, .dict es n, sl⟩ ∧ es.toList.map He.keyOf = ls := by
  unfold He.dicW at h
  split at h
  · rename_i c es n sl q
    split at h
    · exact ⟨_, _, es, n, sl, q, Option.some.inj h⟩
    · cases h
  · cases h
theorem find_key {P : Params} {z : Str} : ∀ {l : List DictEntry} {ks : List Str}, l.map He.keyOf = He.keysIn P ks →
    (l.find? (·.key.isStr z)).isSome = decide (z ∈ ks) ∧ l.any (·.refKey) = false
  | [], [], _ => ⟨rfl, rfl⟩
  | [], _ :: _, e => by cases e
  | _ :: _, [], e => by cases e
  | e :: l, k :: ks, h => by
    have h1 : He.keyOf e :: l.map He.keyOf = some (k, PyData.keyHash P k) :: He.keysIn P ks := h
    injection h1 with h2 h3
    obtain ⟨i1, i2⟩ := find_key (z := z) h3
    have hk : ∃ t, e.key = .str k t := by
      unfold He.keyOf at h2
      split at h2
      · rename_i x t q
        have := (Prod.mk.inj (Option.some.inj h2)).1
        exact ⟨t, by rw [q, this]⟩
      · cases h2
    obtain ⟨t, hk⟩ := hk
    have hs : e.key.isStr z = decide (k = z) := by
      rw [hk]
      first
        | rfl
        | (simp only [Value.isStr]; rw [Bool.eq_iff_iff]; simp)
    refine ⟨?_, ?_⟩
    · rw [List.find?_cons, hs]
      by_cases c : k = z
      · subst c
        simp
      · have c' : ¬ z = k := fun x => c x.symm
        rw [decide_eq_false c]
        simp only [List.mem_cons, c', false_or]
        exact i1
    · rw [List.any_cons, i2, Bool.or_false]
      unfold DictEntry.refKey
      rw [hk] <;> rfl
theorem isSome_mem {K : PySem.W.Frag} {P : Params} {a : Addr} {ks : List Str} (h : He.dicW K a = some (He.keysIn P ks)) (z : Str) : ∃ r, PySem.W.nsIn K a z = some r ∧ r.isSome = decide (z ∈ ks) := by
  obtain ⟨oc, od, es, n, sl, q, e⟩ := dic_at h
  obtain ⟨f1, f2⟩ := find_key (z := z) e
  unfold PySem.W.nsIn
  rw [q]
  dsimp only
  cases g : es.toList.find? (·.key.isStr z) with
  | some d =>
    rw [g] at f1
    exact ⟨some d.val, rfl, f1⟩
  | none =>
    rw [g] at f1
    rw [f2]
    exact ⟨none, rfl, f1⟩
/-- the table of operations, as the module has it -/
structure Ops (K : PySem.W.Frag) (w : World) (mg : Str → Option Value) : Prop where
  ex : ∃ (d : Addr) (es : Array DictEntry) (n : Nat), mg "OPERATIONS" = some (.ref d) ∧ KDict K w d es n ∧ (∀ z : Str, ∃ r, PySem.W.nsIn K d z = some r ∧ r.isSome = decide (z ∈ opWords)) ∧
    ∀ o : Op, ∃ u, PySem.W.nsIn K d o.str = some (some u) ∧ RelV (.int (o.ar : Int)) u
/-- the module's name x is a tuple, without a __dict__ -/
def tupN (K : PySem.W.Frag) (x : Str) : Bool := match K.lookup (He.ga K x) with
  | some ⟨.type c, none, _, _⟩ => decide (c = "tuple")
  | _ => false
theorem tupN_ok {K : PySem.W.Frag} {x : Str} (h : tupN K x = true) : ∃ o, K.lookup (He.ga K x) = some o ∧ o.cls = .type "tuple" ∧ o.dict = none := by
  unfold tupN at h
  cases q : K.lookup (He.ga K x) with
  | none =>
    rw [q] at h
    cases h
  | some o =>
    obtain ⟨oc, od, dt, osl⟩ := o
    rw [q] at h
    cases oc with
    | type c =>
      cases od with
      | none => exact ⟨_, rfl, congrArg Value.type (of_decide_eq_true h), rfl⟩
      | some a => cases h
    | _ => cases od <;> cases h
end V


set_option Elab.async false
set_option linter.all false
set_option maxRecDepth 100000
set_option maxHeartbeats 4000000
/-! sets of texts: made, added to, by a comprehension, sorted -/
namespace VS
open PySem PySem.Spec PyProof.Rows L2 Evl
/-- the text of a member -/
def txO (m : Int × Value) : Str := match m.2 with
  | .str x _ => x
  | _ => Str.empty
def MemS (w : World) (m : Int × Value) : Prop := ∃ x t, m.2 = Value.str x t ∧ m.1 = hashStr w x
/-- a set of texts lies at a: S its members, n how many; its table rises, it can be walked -/
def SetS (w : World) (h : Heap) (a : Addr) (S : Str → Bool) (n : Nat) : Prop :=
  ∃ ob ms ep tb, h.get? a = some ob ∧ ob.ExactSet ∧ ob.data = .set ms ep tb ∧ (∀ m ∈ ms.toList, MemS w m) ∧ (ms.toList.map txO).Nodup ∧
    (∀ x, S x = true ↔ x ∈ ms.toList.map txO) ∧ ms.size < scanBound ∧ tb.fits ms.size = true ∧ ms.size = n ∧ Ris tb.place.toList ∧ (w.params.followText "set-order" = true ∨ tb.led = true)
section
variable {P : Program} {w : World} {h h' : Heap} {a : Addr} {S : Str → Bool} {n : Nat}
theorem SetS.keep (R : SetS w h a S n) (k : ∀ o, h.get? a = some o → h'.get? a = some o) : SetS w h' a S n := by
  obtain ⟨ob, ms, ep, tb, g, rest⟩ := R
  exact ⟨ob, ms, ep, tb, k ob g, rest⟩
theorem MemS.is {m : Int × Value} (g : MemS w m) (x : Str) : (PySem.strKind P w).is x m.2 = true ↔ txO m = x := by
  obtain ⟨y, t, e, _⟩ := g
  unfold txO
  rw [e]
  show (y == x) = true ↔ y = x
  exact beq_iff_eq
theorem elems_S {l : List (Int × Value)} (g : ∀ m ∈ l, MemS w m) : ElemsOf (PySem.strKind P w) l := fun m hm => by
  obtain ⟨y, t, e, eh⟩ := g m hm
  refine ⟨⟨y, ?_, eh⟩, ?_⟩
  · rw [e]
    exact PySem.strKind_is _ _ _ _
  · rw [e] <;> rfl
theorem in_S {l : List (Int × Value)} (g : ∀ m ∈ l, MemS w m) (x : Str) : x ∈ l.map txO ↔ ∃ m ∈ l, (PySem.strKind P w).is x m.2 = true := by
  rw [List.mem_map]
  exact ⟨fun ⟨m, hm, q⟩ => ⟨m, hm, ((g m hm).is x).2 q⟩, fun ⟨m, hm, q⟩ => ⟨m, hm, ((g m hm).is x).1 q⟩⟩
theorem SetS.of (R : SetS w h a S n) : h.SetOf (PySem.strKind P w) a S n := by
  obtain ⟨ob, ms, ep, tb, g, gx, gd, gm, _, gS, gb, gf, gn, _⟩ := R
  exact ⟨ob, ms, ep, tb, g, gx, gd, elems_S gm, fun x => (gS x).trans (in_S gm x), gb, gf, gn⟩
end
section
variable {P : Program} {w : World} {A : Around} {E : Value → Shared → Prop} {s : Shared} {a : Addr} {S : Str → Bool} {n : Nat}
theorem tail_S {gv : Bool → Sem Unit} (hgv : ∀ (b : Bool) (s₁ : Shared) (Q' : Unit → Shared → Prop), Q' () s₁ → wpAny (model P w) A (gv b) Q' E s₁)
    {ob : Obj} {ms : Array (Int × Value)} {ep : Nat} {tb : SetTable} (g : s.heap.get? a = some ob) (gx : ob.ExactSet) (gd : ob.data = .set ms ep tb)
    {ms1 : Array (Int × Value)} {tb2 : SetTable} {S' : Str → Bool} (q1 : ∀ m ∈ ms1.toList, MemS w m) (q2 : (ms1.toList.map txO).Nodup) (q3 : ∀ x, S' x = true ↔ x ∈ ms1.toList.map txO)
    (q4 : ms1.size < scanBound) (q5 : tb2.fits ms1.size = true) (q6 : Ris tb2.place.toList) (q7 : w.params.followText "set-order" = true ∨ tb2.led = true) {dmy : Bool} {R : Option Bool → Shared → Prop}
    (fin : ∀ h', Heap.SameBut a s.heap h' → SetS w h' a S' ms1.size → R (some true) { s with heap := h' }) :
    wpAny (model P w) A (do
        storeSet a ms1 tb2
        if (!dmy && tb2.tooFull) = true then do
            gv (relayAll tb2 ms1 (SetTable.grown ms1.size)).2.2
            storeSet a (relayAll tb2 ms1 (SetTable.grown ms1.size)).1 (relayAll tb2 ms1 (SetTable.grown ms1.size)).2.1
            pure (some true)
          else pure (some true)) R E s := by
  refine wpAny_bind (wpAny_storeSet_of g gd ?_ (fits_of_scanBound q4))
  have g1 := PpSet.storeB_at (es' := ms1) (t' := tb2) g gd
  have sb1 := Heap.SameBut.update s.heap a (Obj.putSet ms1 tb2)
  split
  · have p1 := relayAll_perm tb2 ms1 (SetTable.grown ms1.size)
    have p2 := relayAll_fits tb2 ms1 (SetTable.grown ms1.size)
    have p3 := relayAll_ris tb2 ms1 (SetTable.grown ms1.size)
    have p4 := relayAll_led tb2 ms1 (SetTable.grown ms1.size)
    generalize relayAll tb2 ms1 (SetTable.grown ms1.size) = Z at p1 p2 p3 p4 ⊢
    obtain ⟨ms2, tb3, gave⟩ := Z
    dsimp only at p1 p2 p3 p4 ⊢
    have z : ms2.size = ms1.size := by rw [← Array.length_toList, p1.length_eq, Array.length_toList]
    have b2 : ms2.size < scanBound := by rw [z]; exact q4
    refine wpAny_bind (hgv _ _ _ (wpAny_bind (wpAny_storeSet_of g1 rfl ?_ (fits_of_scanBound b2))))
    have g2 := PpSet.storeB_at (es' := ms2) (t' := tb3) g1 rfl
    exact wpAny_pure (fin _ (sb1.trans (Heap.SameBut.update _ a _)) ⟨_, ms2, _, tb3, g2, gx, rfl, fun m hm => q1 m (p1.mem_iff.mp hm), (p1.map txO).nodup_iff.mpr q2, fun x => (q3 x).trans (p1.map txO).mem_iff.symm, b2, p2, z, p3,
      q7.imp id fun y => by rw [p4]; exact y⟩)
  · exact wpAny_pure (fin _ sb1 ⟨_, ms1, _, tb2, g1, gx, rfl, q1, q2, q3, q4, q5, rfl, q6, q7⟩)
theorem addHashed_S {x : Str} {tk : Tok} {Q : Bool → Shared → Prop} (R : SetS w s.heap a S n) (room : n + 1 < scanBound)
    (hQ : ∀ h', Heap.SameBut a s.heap h' → SetS w h' a (fun y => S y || decide (y = x)) (if S x = true then n else n + 1) → Q (!S x) { s with heap := h' }) :
    wpAny (model P w) A (setAddHashed a (.str x tk) ((PySem.strKind P w).hash x)) Q E s := by
  obtain ⟨ob, ms, ep, tb, g, gx, gd, gm, gN, gS, gb, gf, gn, gR, gL⟩ := R
  have key : (PySem.strKind P w).is x (.str x tk) = true := PySem.strKind_is _ _ _ _
  have sc : (Value.str x tk).scannable = true := rfl
  have el : ElemsOf (PySem.strKind P w) ms.toList := elems_S gm
  unfold setAddHashed setAddHashedIn
  refine wpAny_holding (wpAny_bind (wpAny_setState_of g gd gf ?_))
  dsimp only
  rw [byScan_of sc gb el]
  simp only [↓reduceIte]
  unfold setAddByScan
  refine wpAny_bind (wpAny_bind (wpAny_rule (wpAny_bind (wpAny_setScan_of key g gd gf el ?_))))
  cases fi : List.findIdx? (fun m => (PySem.strKind P w).is x m.2) ms.toList with
  | some j =>
    dsimp only
    obtain ⟨j1, j2, _⟩ := List.findIdx?_eq_some_iff_getElem.mp fi
    have yes : S x = true := (gS x).2 ((in_S (P := P) gm x).2 ⟨ms.toList[j], List.getElem_mem j1, j2⟩)
    refine wpAny_pure (wpAny_pure ?_)
    have q := hQ s.heap (Heap.SameBut.refl a s.heap) ⟨ob, ms, ep, tb, g, gx, gd, gm, gN, fun y => by
      rw [Bool.or_eq_true, decide_eq_true_eq, ← gS y]
      exact ⟨fun z => z.elim id (fun e => e ▸ yes), .inl⟩, gb, gf, by rw [if_pos yes]; exact gn, gR, gL⟩
    rw [yes] at q
    exact q
  | none =>
    dsimp only
    have nx : x ∉ ms.toList.map txO := fun z => by
      obtain ⟨m, hm, q⟩ := (in_S (P := P) gm x).1 z
      have c := List.findIdx?_eq_none_iff.mp fi m hm
      rw [q] at c
      cases c
    have no : S x = false := by
      cases q : S x with
      | false => rfl
      | true => exact absurd ((gS x).1 q) nx
    have gw : ∀ (b : Bool) {s₁ : Shared} {Q' : Unit → Shared → Prop}, Q' () s₁ → wpAny (model P w) A (match b with | true => rule "set.scan.the-table-gave-way" | false => pure ()) Q' E s₁ :=
      fun b s₁ Q' q => by cases b <;> first | exact wpAny_pure q | exact wpAny_rule q
    have p1 := layNew_perm tb ms ((PySem.strKind P w).hash x) (.str x tk)
    have p2 := layNew_fits tb ms ((PySem.strKind P w).hash x) (.str x tk)
    have p3 := layNew_ris tb ms ((PySem.strKind P w).hash x) (.str x tk) gR
    have p4 := layNew_led tb ms ((PySem.strKind P w).hash x) (.str x tk)
    generalize layNew tb ms ((PySem.strKind P w).hash x) (.str x tk) = Z at p1 p2 p3 p4 ⊢
    obtain ⟨ms1, tb1, dmy, gave⟩ := Z
    dsimp only at p1 p2 p3 p4 ⊢
    rw [Array.toList_push] at p1
    have pc : ms1.toList.Perm (((PySem.strKind P w).hash x, Value.str x tk) :: ms.toList) := p1.trans (List.perm_append_singleton _ _)
    have pk : (ms1.toList.map txO).Perm (x :: ms.toList.map txO) := pc.map txO
    have q1 : ∀ m ∈ ms1.toList, MemS w m := fun m hm => by
      rcases List.mem_cons.mp (pc.mem_iff.mp hm) with z | z
      · rw [z]
        exact ⟨x, tk, rfl, rfl⟩
      · exact gm m z
    have q2 : (ms1.toList.map txO).Nodup := pk.nodup_iff.mpr (List.nodup_cons.mpr ⟨nx, gN⟩)
    have q3 : ∀ y, (S y || decide (y = x)) = true ↔ y ∈ ms1.toList.map txO := fun y => by
      rw [Bool.or_eq_true, decide_eq_true_eq, gS y, pk.mem_iff, List.mem_cons]
      exact Or.comm
    have z1 : ms1.size = n + 1 := by rw [← Array.length_toList, pc.length_eq, List.length_cons, Array.length_toList, gn]
    have q4 : ms1.size < scanBound := by rw [z1]; exact room
    have q7 : w.params.followText "set-order" = true ∨ tb1.led = true := gL.imp id fun z => by rw [p4]; exact z
    have fin : ∀ h', Heap.SameBut a s.heap h' → SetS w h' a (fun y => S y || decide (y = x)) ms1.size → Q true { s with heap := h' } := fun h' sb r => by
      have q := hQ h' sb
      rw [no] at q
      rw [z1] at r
      exact q r
    refine wpAny_bind (gw _ ?_)
    split
    · refine wpAny_bind ?_
      rw [hashByValue_scannable 8 sc]
      refine wpAny_pure ?_
      refine tail_S (fun b s₁ Q' q => by cases b <;> first | exact wpAny_pure q | exact wpAny_rule q) g gx gd q1 q2 q3 q4 ?_ ?_ ?_ fun h' sb r => by dsimp only; exact wpAny_pure (fin h' sb r)
      · first | (split <;> first | exact p2 | exact SetTable.fits_plain_off p2) | exact p2
      · first | (split <;> exact p3) | exact p3
      · first | (split <;> exact q7) | exact q7
    · refine wpAny_bind (wpAny_pure ?_)
      simp only [↓reduceIte]
      exact tail_S (fun b s₁ Q' q => by cases b <;> first | exact wpAny_pure q | exact wpAny_rule q) g gx gd q1 q2 q3 q4 p2 p3 q7 fun h' sb r => by dsimp only; exact wpAny_pure (fin h' sb r)
theorem add_S {x : Str} {tk : Tok} {Q : Value → Shared → Prop} (R : SetS w s.heap a S n) (room : n + 1 < scanBound)
    (hQ : ∀ h', Heap.SameBut a s.heap h' → SetS w h' a (fun y => S y || decide (y = x)) (if S x = true then n else n + 1) → Q .none { s with heap := h', toks := s.toks + 1 }) :
    wpAny (model P w) A (call (.builtin "set.add") [.ref a, .str x tk]) Q E s := by
  have hS : s.heap.SetOf (PySem.strKind P w) a S n := R.of
  refine wpAny_call_entry F.slot_set_add hS.typeIs F.entry_set_add ?_ (F.args_set_add_2 _ _)
  unfold Builtin.«set.add» Builtin.Frozenset.oneOther
  simp only [List.isEmpty_nil, bind_assoc]
  unfold Builtin.Frozenset.addrOf setAdd
  refine wpAny_bind (wpAny_pure ?_)
  try dsimp only
  refine wpAny_bind (wpAny_pure ?_)
  try dsimp only
  refine wpAny_bind (wpAny_holding (wpAny_bind ((PySem.strKind P w).pyHash (PySem.strKind_is _ _ _ _) ?_)))
  refine addHashed_S (s := { s with toks := s.toks + 1 }) R room fun h' sb r => ?_
  show wpAny _ _ (ret Value.none) _ _ _
  exact wpAny_pure ⟨_, rfl, hQ h' sb r⟩
theorem fresh_S {h : Heap} (w : World) : SetS w (h.push { cls := .type "set", dict := none, data := .set #[] 0 (.fresh 0 0 (!w.params.followText "set-order")) }) h.objs.size (fun _ => false) 0 :=
  ⟨_, #[], 0, _, Heap.get?_push_size _ rfl, ⟨rfl, rfl, rfl⟩, rfl, (fun m hm => by simp at hm), (by simp), (fun x => by simp), (by decide), (by rfl), rfl, List.Pairwise.nil, by
    show _ ∨ (!w.params.followText "set-order") = true
    cases w.params.followText "set-order"
    · exact .inr rfl
    · exact .inl rfl⟩
end
end VS


set_option Elab.async false
set_option linter.all false
set_option maxRecDepth 100000
set_option maxHeartbeats 4000000
namespace VS
open PySem PySem.Spec PyProof.Rows L2 Evl
/-- .. as a tracked thing -/
def SetSO (w : World) (a : Addr) (S : Str → Bool) (n : Nat) : HO := .ext fun h => SetS w h a S n
theorem SetSO.mk {w : World} {P : Program} {H : Hp} {h : Heap} {a : Addr} {S : Str → Bool} {n : Nat} (R : SetS w h a S n) : ObjOk P w H h a (SetSO w a S n) := by
  have ⟨ob, _, _, _, g, _⟩ := R
  exact ⟨R, ⟨ob, g⟩, fun h1 h2 p k => SetS.keep p k⟩
section
variable {X : Cx}
theorem SetSO.get {pins : List (Addr × Obj)} {σ : L2.St} {H : Hp} {s : Shared} {a : Addr} {S : Str → Bool} {n : Nat} (I : Inv X pins σ H s) (ha : H a = some (SetSO X.w a S n)) : SetS X.w s.heap a S n := (I.hok a _ ha).1
theorem add_inv {pins : List (Addr × Obj)} {σ : L2.St} {H : Hp} {s : Shared} {E : Value → Shared → Prop} {D : Addr} {S : Str → Bool} {n : Nat} {x : Str} {tk : Tok} {Q : Value → Shared → Prop} (I : Inv X pins σ H s) (hD : H D = some (SetSO X.w D S n)) (room : n + 1 < scanBound)
    (h : ∀ s', Inv X pins σ (upd H D (SetSO X.w D (fun y => S y || decide (y = x)) (if S x = true then n else n + 1))) s' → Q .none s') : wpAny (model X.prog X.w) X.A (call (.builtin "set.add") [.ref D, .str x tk]) Q E s := by
  refine add_S (SetSO.get I hD) room fun h' sb new => ?_
  have there : ∃ u, h'.get? D = some u := by
    have ⟨ob, _, _, _, g, _⟩ := new
    exact ⟨ob, g⟩
  exact h _ (I.write (e := D) (t' := s.toks + 1) (by rw [hD]; trivial) (.inl rfl) (fun b u hb hu => (sb.2 b hb).trans hu) there (SetSO.mk new))
/-- {elt for target in iter if ..}, elt a text; D: where the new set lies -/
def tScS (w : World) (wi : TI) (g : TG) (tt : TT) (te : TE) (vs : List Nat) : TE := fun σ H Q => wi σ H fun J H1 => ∀ D, H1 D = none → ∃ W : Nat → Nat → Hp → Prop,
  (∃ m, W 0 m (upd H1 D (SetSO w D (fun _ => false) 0))) ∧ ∀ i m H, W i m H → (J.stop i H ∧ Q (.ref D) H) ∨ (J.go i H ∧ ∃ Nx : Hp → Prop, (∀ H', Nx H' → ∃ m', m' < m ∧ W (i + 1) m' H') ∧
    ∀ x H', J.yld i H x H' → g x (wipe σ vs) H' fun σ2 H2 => wipe σ2 vs = wipe σ vs ∧ tt σ2 H2 fun b H3 => if b = true then te σ2 H3 fun y H4 => ∃ (c : Str) (S : Str → Bool) (n : Nat), y = .str c ∧
      H4 D = some (SetSO w D S n) ∧ n + 1 < scanBound ∧ Nx (upd H4 D (SetSO w D (fun z => S z || decide (z = c)) (if S c = true then n else n + 1))) else Nx H3)
theorem run_scS {pins : List (Addr × Obj)} {s : Shared} {σ : L2.St} {H : Hp} {Q : VK} {elt tg iter : Expr} {ifs : List Expr} {scope : Scope} {own : List (PySem.Str × Nat)} {pos pos' : Pos} {wi : TI} {g : TG} {tt : TT} {te : TE}
    {use : Option (Value → Sem Unit)} {Qf : Value → Shared → Prop} (hc : X.calm = true) (hN : X.N.Nodup) (I : Inv X pins σ H s) (hi : PI X tg iter wi) (ok : BlkOk X.N X.env.scope scope own)
    (hg : ∀ (s : Shared) (H : Hp) (C : Addr) (cl : List (PySem.Str × Addr)) (fp : List Addr), PG (X.blk s H scope (compEnvC scope cl C X.env) fp) tg g)
    (ht : ∀ (s : Shared) (H : Hp) (C : Addr) (cl : List (PySem.Str × Addr)) (fp : List Addr), PTs (X.blk s H scope (compEnvC scope cl C X.env) fp) ifs tt)
    (he : ∀ (s : Shared) (H : Hp) (C : Addr) (cl : List (PySem.Str × Addr)) (fp : List Addr), PE (X.blk s H scope (compEnvC scope cl C X.env) fp) elt te)
    (hs : ∀ x, foldedSetIterable iter X.env x = pure x) (h : tScS X.w wi g tt te (own.map (·.2)) σ H Q)
    (fin : ∀ D C s' m H', Inv X pins σ H' s' → Q (.ref D) H' → s'.heap.Ns C m → FpOk X pins H' C → compPost (model X.prog X.w) X.A X.xe use Qf (.ref D) C (.ok .next) s') :
    wpAny (model X.prog X.w) X.A (comprehension (.SetComp elt [⟨tg, iter, ifs, 0⟩] scope pos) scope X.env pos' (newSet (.type "set")) false (eval iter X.env) use) Qf X.xe s := by
  have free : ∀ y ∈ scope.names, y.2 = .free → ∃ c, X.env.cells.lookup y.1 = some c := fun y hy e => by
    rcases ok.free y hy e with k | k
    · exact I.ok.has _ (.inl k)
    · exact I.ok.has _ (.inr k)
  refine wpAny_comprehension_free (use := use) rfl hs (closure_ok free) ok.kind (fun y hy e => by rw [ok.uniq y hy, e]) (thn (hi.run pins s σ H _ I h) fun xv s1 hx => thn hx fun itv s2 h2 => ?_)
  obtain ⟨it, fp, tn, J, H2, e, I2, T, st2, f2, q⟩ := h2
  subst e
  refine PpSet.newSet_ok (newEnv_comp ?_)
  generalize hD : s2.heap.objs.size = D
  have nD : H2 D = none := I2.hok.fresh (Nat.le_of_eq hD)
  obtain ⟨W, ⟨m0, w0⟩, turn⟩ := q D nD
  generalize hs3 : ({ s2 with heap := s2.heap.push { cls := .type "set", dict := none, data := .set #[] 0 (.fresh 0 0 (!X.w.params.followText "set-order")) } } : Shared) = s3
  have I3 : Inv X pins σ (upd H2 D (SetSO X.w D (fun _ => false) 0)) s3 := by
    rw [← hs3]
    refine I2.laid (t' := s2.toks) (fun b o e => Heap.get?_push_of_some _ e) (Nat.le_of_eq hD) ?_
    rw [← hD]
    exact SetSO.mk (fresh_S X.w)
  have h3 : s3.heap = s2.heap.push { cls := .type "set", dict := none, data := .set #[] 0 (.fresh 0 0 (!X.w.params.followText "set-order")) } := by rw [← hs3]
  have lt : ∀ b ∈ fp, b < s2.heap.objs.size := fun b hb => by
    obtain ⟨o, e, _⟩ := T.obj _ _ st2 b hb
    exact Heap.lt_size e
  have f3 : ∀ b ∈ fp, FpOk X pins (upd H2 D (SetSO X.w D (fun _ => false) 0)) b ∧ b < s3.heap.objs.size := fun b hb => by
    have l := lt b hb
    refine ⟨⟨?_, (f2 b hb).2⟩, by rw [h3, Heap.size_push]; exact Nat.lt_succ_of_lt l⟩
    rw [upd_ne (by rw [← hD]; exact Nat.ne_of_lt l)]
    exact (f2 b hb).1
  have st3 : tn 0 s3.heap := T.keep _ _ _ st2 fun b _ o e => by rw [h3]; exact Heap.get?_push_of_some _ e
  have I4 := block_start I3 ok hN f3
  have pg := hg s3 (upd H2 D (SetSO X.w D (fun _ => false) 0)) s3.heap.objs.size (cellsFrom (s3.heap.objs.size + 1) scope.names (cloFrom X.env.cells scope.names [])) fp
  have pt := ht s3 (upd H2 D (SetSO X.w D (fun _ => false) 0)) s3.heap.objs.size (cellsFrom (s3.heap.objs.size + 1) scope.names (cloFrom X.env.cells scope.names [])) fp
  have pe := he s3 (upd H2 D (SetSO X.w D (fun _ => false) 0)) s3.heap.objs.size (cellsFrom (s3.heap.objs.size + 1) scope.names (cloFrom X.env.cells scope.names [])) fp
  show codeAny _ _ (.compStart (.SetComp elt [⟨tg, iter, ifs, 0⟩] scope pos) 0 (.ref it) (.ref D) (compEnvC scope (cellsFrom (s3.heap.objs.size + 1) scope.names (cloFrom X.env.cells scope.names [])) s3.heap.objs.size X.env))
    (compPost (model X.prog X.w) X.A X.xe use Qf (.ref D) s3.heap.objs.size) { s3 with heap := pushCells (s3.heap.push { cls := .type "dict", data := .dict #[] }) scope.names }
  have nfp : ∀ b ∈ fp, (upd H2 D (SetSO X.w D (fun _ => false) 0)) b = none := fun b hb => (f3 b hb).1.1
  generalize hce : compEnvC scope (cellsFrom (s3.heap.objs.size + 1) scope.names (cloFrom X.env.cells scope.names [])) s3.heap.objs.size X.env = ce at I4 pg pt pe ⊢
  have cL : ce.locals = s3.heap.objs.size := by subst hce; rfl
  generalize hH3 : upd H2 D (SetSO X.w D (fun _ => false) 0) = H3 at I3 I4 pg pt pe w0 nfp f3
  generalize hs4 : ({ s3 with heap := pushCells (s3.heap.push { cls := .type "dict", data := .dict #[] }) scope.names } : Shared) = s4 at I4 ⊢
  have st4 : tn 0 s4.heap := T.keep _ _ _ st3 fun b _ o e => by rw [← hs4]; exact pushCells_keeps _ _ _ _ (Heap.get?_push_of_some _ e)
  have stat : ∀ {σ' : L2.St} {H' : Hp} {s' : Shared}, Inv (X.blk s3 H3 scope ce fp) [] σ' H' s' → (∀ b ∈ fp, H' b = none) → ∀ b ∈ fp, FpOk (X.blk s3 H3 scope ce fp) [] H' b := fun {σ' H' s'} J hn b hb =>
    ⟨hn b hb, (J.ok.exf b hb).1, J.ok.exfs b hb, .inl hb, fun x c e => (J.ok.exf b hb).2 x c e, fun p hp => absurd (show p ∈ ([] : List (Addr × Obj)) ++ [] from hp) (by simp)⟩
  have loop : codeAny (model X.prog X.w) X.A (.compLoop (.SetComp elt [⟨tg, iter, ifs, 0⟩] scope pos) 0 (.ref it) (.ref D) ce) (compPost (model X.prog X.w) X.A X.xe use Qf (.ref D) s3.heap.objs.size) s4 := by
    refine PpSet.compLoopS_any (fun n s' => ∃ i H', Inv (X.blk s3 H3 scope ce fp) [] (wipe σ (own.map (·.2))) H' s' ∧ tn i s'.heap ∧ (∀ b ∈ fp, H' b = none) ∧ W i n H') ?_ m0 ⟨0, H3, I4, st4, nfp, w0⟩
    rintro n s5 ⟨i, H5, I5, st5, n5, w5⟩
    rcases turn i n H5 w5 with ⟨stop, qq⟩ | ⟨go, Nx, hNx, step⟩
    · refine thnF (T.done (X.blk s3 H3 scope ce fp) rfl rfl rfl hc i [] s5 _ H5 (fun _ _ => False) I5 (stat I5 n5) st5 stop) fun r s6 ⟨hr, I6⟩ => ?_
      subst hr
      have I7 : Inv X pins σ H5 s6 := I3.call' (ch := fp) I6.os I6.base I6.hok I6.bare fun b hb => ⟨(f3 b hb).1.2.2.2.1, (f3 b hb).1.2.1, (f3 b hb).1.2.2.2.2.1, (f3 b hb).1.2.2.2.2.2⟩
      have nC : H5 s3.heap.objs.size = none := by
        have z : H5 ce.locals = none := I6.free
        rw [cL] at z
        exact z
      obtain ⟨m, hn, _⟩ := I6.loc
      have hn : s6.heap.Ns ce.locals m := hn
      rw [cL] at hn
      exact fin D s3.heap.objs.size s6 m H5 I7 qq hn (I3.fpOk (Nat.le_refl _) nC)
    · refine thnF (T.item (X.blk s3 H3 scope ce fp) rfl rfl rfl hc i [] s5 _ H5 (fun _ _ => False) I5 (stat I5 n5) st5 go) fun r s6 ⟨u, hr, h6⟩ => ?_
      subst hr
      refine thnF h6 fun _ s7 ⟨x, H7, I7, r7, y7, st7, n7⟩ => ?_
      refine thnF (pg.run _ s7 _ H7 x u _ (I7.pinned (stat I7 n7) (T.obj _ _ st7)) r7 (step x H7 y7)) fun _ s8 ⟨σ8, H8, I8, hw8, q8⟩ => ?_
      refine thnF (pt.run _ s8 σ8 H8 _ I8 q8) fun b s9 ⟨H9, I9, q9⟩ => ?_
      have back : ∀ {s' : Shared} {H' : Hp}, Inv (X.blk s3 H3 scope ce fp) ([] ++ pinsAt fp s7.heap) σ8 H' s' → Nx H' → ∃ m, m < n ∧ ∃ i H', Inv (X.blk s3 H3 scope ce fp) [] (wipe σ (own.map (·.2))) H' s' ∧ tn i s'.heap ∧ (∀ b ∈ fp, H' b = none) ∧ W i m H' := fun {s' H'} J nx => by
        obtain ⟨m', hm, w'⟩ := hNx H' nx
        have pin' : ∀ b ∈ fp, ∀ o, s7.heap.get? b = some o → s'.heap.get? b = some o ∧ H' b = none := fun b hb o e =>
          let z := J.pin (b, o) (List.mem_append_right _ (List.mem_append_right _ (mem_pinsAt hb e)))
          ⟨z.1, z.2.1⟩
        have hl : (wipe σ (own.map (·.2))).length = σ8.length := by rw [← hw8, wipe_length]
        refine ⟨m', hm, i + 1, H', (J.unpinned (pins := [])).weak hl (fun j v e => ?_), T.keep _ _ _ st7 fun b hb o e => (pin' b hb o e).1, fun b hb => ?_, w'⟩
        · rw [← hw8] at e
          exact (wipe_some e).1
        · obtain ⟨o, e, _⟩ := T.obj _ _ st7 b hb
          exact (pin' b hb o e).2
      cases b with
      | false =>
        simp only [Bool.false_eq_true, if_false] at q9 ⊢
        exact back I9 q9
      | true =>
        simp only [if_true] at q9 ⊢
        refine thnF (pe.run _ s9 σ8 H9 _ I9 q9) fun z s10 ⟨yv, H10, I10, r10, c, S0, n0, ey, hD10, hz10, nx⟩ => ?_
        subst ey
        obtain ⟨tk, rfl⟩ : ∃ tk, z = Value.str c tk := r10
        exact add_inv (X := X.blk s3 H3 scope ce fp) I10 hD10 hz10 fun s11 I11 => back I11 nx
  exact PpSet.codeAny_compStart_set loop (T.self X.A 0 _ _ _ st4 loop)
theorem pe_scS {elt tg iter : Expr} {ifs : List Expr} {scope : Scope} {own : List (PySem.Str × Nat)} {pos : Pos} {wi : TI} {g : TG} {tt : TT} {te : TE} (hc : X.calm = true) (hN : X.N.Nodup) (hi : PI X tg iter wi) (ok : BlkOk X.N X.env.scope scope own)
    (hg : ∀ (s : Shared) (H : Hp) (C : Addr) (cl : List (PySem.Str × Addr)) (fp : List Addr), PG (X.blk s H scope (compEnvC scope cl C X.env) fp) tg g)
    (ht : ∀ (s : Shared) (H : Hp) (C : Addr) (cl : List (PySem.Str × Addr)) (fp : List Addr), PTs (X.blk s H scope (compEnvC scope cl C X.env) fp) ifs tt)
    (he : ∀ (s : Shared) (H : Hp) (C : Addr) (cl : List (PySem.Str × Addr)) (fp : List Addr), PE (X.blk s H scope (compEnvC scope cl C X.env) fp) elt te)
    (hs : ∀ x, foldedSetIterable iter X.env x = pure x := by intro _; rfl) : PE X (.SetComp elt [⟨tg, iter, ifs, 0⟩] scope pos) (tScS X.w wi g tt te (own.map (·.2))) := by
  refine ⟨fun pins s σ H Q I h => ?_⟩
  rw [PpSet.eval_SetComp]
  refine run_scS hc hN I hi ok hg ht he hs h fun D C s' m H' J q hn f => ⟨m, hn, fun h'' sb => ?_⟩
  obtain ⟨f0, f1, f2, f3, f4, f5⟩ := f
  exact ⟨.ref D, H', J.turned (t' := s'.toks) (fun b o hb e => (sb.2 b hb).trans e) f0 f1 f3 f4 f5, rfl, q⟩
end
/-- the reading over a list that stands still -/
theorem scS_list {w : World} {K : PySem.W.Frag} {a : Addr} {xs : List V} {g : TG} {tt : TT} {te : TE} {vs : List Nat} {σ : L2.St} {H1 : Hp} {D : Addr} {Qd : Hp → Prop} (Pv : Nat → Hp → Prop) (h0 : Pv 0 (upd H1 D (SetSO w D (fun _ => false) 0)))
    (hl : ∀ i H, i ≤ xs.length → Pv i H → SqL K H a xs)
    (hs : ∀ i x H, xs[i]? = some x → Pv i H → g x (wipe σ vs) H fun σ2 H2 => wipe σ2 vs = wipe σ vs ∧ tt σ2 H2 fun b H3 => if b = true then te σ2 H3 fun y H4 => ∃ (c : Str) (S : Str → Bool) (n : Nat), y = .str c ∧ H4 D = some (SetSO w D S n) ∧
      n + 1 < scanBound ∧ Pv (i + 1) (upd H4 D (SetSO w D (fun z => S z || decide (z = c)) (if S c = true then n else n + 1))) else Pv (i + 1) H3) (hd : ∀ H, Pv xs.length H → Qd H) :
    ∃ W : Nat → Nat → Hp → Prop, (∃ m, W 0 m (upd H1 D (SetSO w D (fun _ => false) 0))) ∧ ∀ i m H, W i m H → ((Itl K a).stop i H ∧ Qd H) ∨ ((Itl K a).go i H ∧ ∃ Nx : Hp → Prop, (∀ H', Nx H' → ∃ m', m' < m ∧ W (i + 1) m' H') ∧
      ∀ x H', (Itl K a).yld i H x H' → g x (wipe σ vs) H' fun σ2 H2 => wipe σ2 vs = wipe σ vs ∧ tt σ2 H2 fun b H3 => if b = true then te σ2 H3 fun y H4 => ∃ (c : Str) (S : Str → Bool) (n : Nat), y = .str c ∧
        H4 D = some (SetSO w D S n) ∧ n + 1 < scanBound ∧ Nx (upd H4 D (SetSO w D (fun z => S z || decide (z = c)) (if S c = true then n else n + 1))) else Nx H3) := by
  refine ⟨fun i m H => m = xs.length - i ∧ i ≤ xs.length ∧ Pv i H, ⟨xs.length, by simp, Nat.zero_le _, h0⟩, ?_⟩
  rintro i m H ⟨rfl, hi, p⟩
  have q := hl i H hi p
  by_cases c : i < xs.length
  · refine .inr ⟨⟨xs, xs[i], q, by simp [c]⟩, Pv (i + 1), fun H' p' => ⟨xs.length - (i + 1), by omega, rfl, c, p'⟩, fun x H' y => ?_⟩
    obtain ⟨e, y⟩ := y
    subst e
    exact hs i x _ (y xs q) p
  · have e : i = xs.length := by omega
    subst e
    exact .inl ⟨⟨xs, q, Nat.le_refl _⟩, hd H p⟩
/-! ### sorted(a set of texts) -/
theorem strs_of : ∀ (l : List Value), (∀ v ∈ l, ∃ x tk, v = Value.str x tk) → ∃ xs, StrsAre l xs ∧ l.map (fun v => match v with | .str x _ => x | _ => Str.empty) = xs
  | [], _ => ⟨[], .nil, rfl⟩
  | v :: l, h => by
    obtain ⟨x, tk, rfl⟩ := h v (List.mem_cons_self ..)
    obtain ⟨xs, h1, h2⟩ := strs_of l fun u hu => h u (List.mem_cons_of_mem _ hu)
    exact ⟨x :: xs, .cons x tk h1, by rw [List.map_cons, h2]⟩
section
variable {P : Program} {w : World} {A : Around} {E : Value → Shared → Prop} {s : Shared} {a : Addr}
theorem sorted_S {S : Str → Bool} {n : Nat} {Q : Value → Shared → Prop} (R : SetS w s.heap a S n) (hh : A.handled = none)
    (hQ : ∀ s' p (out : Array Value) (c : Nat) (xs : List Str), (∀ b o, s.heap.get? b = some o → s'.heap.get? b = some o) → s'.gens = s.gens → s'.os = s.os → s.heap.objs.size ≤ p →
      s'.heap.get? p = some (seqObj "list" out c) → StrsAre out.toList xs → sortedS xs = true → xs.Nodup → (∀ x, x ∈ xs ↔ S x = true) → xs.length = n → Q (.ref p) s') :
    wpAny (model P w) A (call (.builtin "sorted") [.ref a]) Q E s := by
  obtain ⟨ob, ms, ep, tb, g, gx, gd, gm, gN, gS, gb, gf, gn, gR, gL⟩ := R
  refine Calls.call_function_entry kind_sorted plain_sorted entry_sorted (args_sorted1 _) ?_
  unfold Builtin.«sorted»
  refine wpAny_bind (m := checkCount "sorted" 1 1 _) (wpAny_pure ?_)
  refine wpAny_bind (collect_set (A := A.in1) hh ⟨ob, g, gx.1, gd⟩ gf gb gR gL fun s1 vs k1 hz g1 o1 pm => ?_)
  have lv : vs.length = n := by rw [pm.length_eq, List.length_map, Array.length_toList]; exact gn
  have hb : n < 4096 := by rw [← gn]; exact gb
  obtain ⟨xs, hX, eX⟩ := strs_of vs fun v hv => by
    obtain ⟨m, hm, q⟩ := List.mem_map.mp (pm.mem_iff.mp hv)
    obtain ⟨x, tk, h1, _⟩ := gm m hm
    exact ⟨x, tk, by rw [← q]; exact h1⟩
  have pk : xs.Perm (ms.toList.map txO) := by
    have q := pm.map (fun v => match v with | .str x _ => x | _ => Str.empty)
    rw [eX, List.map_map] at q
    exact q
  have lz : vs.length ≤ sizeLine := by rw [lv, sizeLine_eq]; omega
  refine wpAny_bind (wpAny_newList ?_ lz)
  have hoL : (s1.heap.push (seqObj "list" vs.toArray 0)).get? s1.heap.objs.size = some (seqObj "list" vs.toArray 0) := Heap.get?_push_size _ rfl
  refine wpAny_bind (wpAny_holding (wpAny_call_entry slot_list_sort ⟨_, hoL, rfl⟩ entry_list_sort
    (list_sort_treeKAny strKind_oneLt hoL hX.keysOf (fun v₁ v₂ rest e => keyKind_strs (by rw [← e]; exact hX)) lz fun st' hp hs => ⟨_, rfl, ?_⟩) (args_list_sort _)))
  obtain ⟨ys, a1, a2, a3⟩ := sorted_out_str hX hp hs
  obtain ⟨c, hc⟩ := sortedHeap_at (vs := vs) (out := (arrOf st').map (·.2)) hoL
  have pn : ys.Perm (ms.toList.map txO) := a2.trans pk
  refine wpAny_pure ⟨_, rfl, hQ _ s1.heap.objs.size _ c ys (fun b u e => ?_) g1 o1 hz hc a1 a3 (pn.nodup_iff.mpr gN) (fun x => by rw [pn.mem_iff, ← gS x]) ?_⟩
  · have q := k1 b u e
    have hlt := Heap.lt_size q
    show (sortedHeap (s1.heap.push (seqObj "list" vs.toArray 0)) s1.heap.objs.size vs ((arrOf st').map (·.2))).get? b = some u
    rw [sortedHeap_old (Nat.ne_of_lt hlt) (by rw [size_push']; exact Nat.lt_succ_of_lt hlt)]
    exact Heap.get?_push_of_some _ q
  · rw [pn.length_eq, List.length_map, Array.length_toList]; exact gn
end
section
variable {X : Cx}
/-- sorted(found) -/
def rSortS (w : World) : List V → Hp → VK → Prop := fun vs H Q => ∃ (a : Addr) (S : Str → Bool) (n : Nat), vs = [V.ref a] ∧ H a = some (SetSO w a S n) ∧
  ∀ (xs : List Str) (p : Addr), sortedS xs = true → xs.Nodup → (∀ x, x ∈ xs ↔ S x = true) → H p = none → Q (.ref p) (upd H p (.lst (xs.map V.str)))
theorem cr_sortS (hc : X.calm = true) : CallR X (.builtin "sorted") (rSortS X.w) := by
  intro pins s σ H vs us Q I r h
  obtain ⟨a, S, n, rfl, ha, q⟩ := h
  have R := SetSO.get I ha
  have hb : n < 4096 := by
    obtain ⟨_, _, _, _, _, _, _, _, _, _, gb, _, gn, _⟩ := R
    rw [← gn]
    exact gb
  rw [Vals.ref1 r]
  refine sorted_S R (I.ok.hd hc) fun s' p out c xs k g o hp hg hi hs hn hm hl => ?_
  have hlen : (xs.map V.str).length ≤ sizeLine := by rw [List.length_map, hl, sizeLine_eq]; omega
  have np : H p = none := I.hok.fresh hp
  have J : Inv X pins σ (upd H p (.lst (xs.map V.str))) { s with heap := s'.heap, gens := s'.gens, drawn := s'.drawn, toks := s'.toks } :=
    I.call (ch := []) (Un.laid k hp np) (I.hok.laid k hp ⟨hlen, out.toList, c, vals_of_strs hi, hg⟩) (by rw [g]; exact I.bare) (fun _ z => nomatch z)
  have e : s' = { s with heap := s'.heap, gens := s'.gens, drawn := s'.drawn, toks := s'.toks } := by
    cases s'
    cases s
    cases o
    rfl
  rw [e]
  exact ⟨.ref p, _, J, rfl, q xs p hs hn hm np⟩
end
end VS


set_option Elab.async false
set_option linter.all false
set_option maxRecDepth 100000
set_option maxHeartbeats 4000000
namespace V
open PySem PySem.Spec PyProof.Rows L2 Evl
def Tm.word : Tm → Str
  | .num _ => "num"
  | .arg _ => "arg"
  | .node (.op o) _ => o.str
  | .node (.call _) _ => "call"
  | .node (.ring _) _ => "ring"
theorem TmAt.head {H : Hp} {v : V} {t : Tm} (h : TmAt H v t) : ∃ a r, v = .ref a ∧ H a = some (.tup (.str t.word :: r)) := by
  cases h with
  | num h => exact ⟨_, _, rfl, h⟩
  | arg h => exact ⟨_, _, rfl, h⟩
  | op h _ => exact ⟨_, _, rfl, h⟩
  | call h _ _ => exact ⟨_, _, rfl, h⟩
  | ring h _ _ => exact ⟨_, _, rfl, h⟩
theorem op_in (o : Op) : decide (o.str ∈ opWords) = true := by
  cases o <;> decide +kernel
theorem out_num : decide (("num" : Str) ∈ opWords) = false := by decide +kernel
theorem out_arg : decide (("arg" : Str) ∈ opWords) = false := by decide +kernel
theorem out_call : decide (("call" : Str) ∈ opWords) = false := by decide +kernel
theorem out_ring : decide (("ring" : Str) ∈ opWords) = false := by decide +kernel
/-- the terms that stand straight in it -/
def spParts : Sp := fun vs H Q _ => ∃ (v : V) (t : Tm), vs = [v] ∧ TmAt H v t ∧ t.parts.length ≤ 4 ∧
  ∀ (H' : Hp) (p : Addr) (us : List V), Ex H H' → H' p = some (.tup us) → TmsAt H' us t.parts → Q (.ref p) H'
theorem parts_deep {t u : Tm} (h : u ∈ t.parts) : u.deep + 1 ≤ t.deep := by
  cases t with
  | num n => cases h
  | arg k => cases h
  | node hd ts =>
    have := deep_le (t := u) (ts := ts) h
    show u.deep + 1 ≤ 1 + Tm.deeps ts
    omega
theorem Tm.Ok.parts {M : Nat} {t u : Tm} (k : t.Ok M) (h : u ∈ t.parts) : u.Ok M := by
  cases k with
  | num _ => cases h
  | arg _ => cases h
  | node _ ks => exact ks u h
theorem Tm.Ok.few {M : Nat} {t : Tm} (k : t.Ok M) : t.parts.length ≤ 4 := by
  cases k with
  | num _ => exact Nat.zero_le _
  | arg _ => exact Nat.zero_le _
  | node h _ => exact h.le
theorem size_pos : ∀ t : Tm, 1 ≤ t.size
  | .num _ => Nat.le_refl _
  | .arg _ => Nat.le_refl _
  | .node h ts => by
    show 1 ≤ 1 + Tm.sizes ts
    omega
theorem all_parts (t : Tm) : t.all = t :: Tm.alls t.parts := by
  cases t <;> rfl
theorem size_parts (t : Tm) : t.size = 1 + Tm.sizes t.parts := by
  cases t <;> rfl
theorem deep_parts (t : Tm) : t.deep = 1 + Tm.deeps t.parts := by
  cases t <;> rfl
theorem alls_append (ts us : List Tm) : Tm.alls (ts ++ us) = Tm.alls ts ++ Tm.alls us := by
  induction ts with
  | nil => rfl
  | cons t ts ih =>
    show t.all ++ Tm.alls (ts ++ us) = (t.all ++ Tm.alls ts) ++ Tm.alls us
    rw [ih, List.append_assoc]
theorem alls_len (ts : List Tm) : (Tm.alls ts).length = Tm.sizes ts := by
  induction ts with
  | nil => rfl
  | cons t ts ih =>
    show (t.all ++ Tm.alls ts).length = t.size + Tm.sizes ts
    rw [List.length_append, all_len, ih]
theorem sizes_take (ts : List Tm) (i : Nat) : Tm.sizes (ts.take i) ≤ Tm.sizes ts := by
  induction ts generalizing i with
  | nil => simp [Tm.sizes]
  | cons t ts ih =>
    cases i with
    | zero => exact Nat.zero_le _
    | succ i =>
      have := ih i
      show t.size + Tm.sizes (ts.take i) ≤ t.size + Tm.sizes ts
      omega
theorem size_mem {ts : List Tm} {t : Tm} (h : t ∈ ts) : t.size ≤ Tm.sizes ts := by
  induction ts with
  | nil => cases h
  | cons u us ih =>
    show t.size ≤ u.size + Tm.sizes us
    rcases List.mem_cons.mp h with rfl | h
    · omega
    · have := ih h
      omega
theorem take_more {α : Type} {l : List α} {i : Nat} {x : α} (h : l[i]? = some x) : l.take (i + 1) = l.take i ++ [x] := by
  rw [List.take_add_one, h]
  rfl
theorem get_mem {α : Type} {l : List α} {i : Nat} {x : α} (h : l[i]? = some x) : x ∈ l := List.mem_of_getElem? h
/-- all terms in it, itself ahead: a new list -/
def spAll (n : Nat) : Sp := fun vs H Q _ => ∃ (v : V) (t : Tm) (M : Nat), vs = [v] ∧ TmAt H v t ∧ t.Ok M ∧ t.deep ≤ n ∧ t.size ≤ 1000 ∧
  ∀ (H' : Hp) (p : Addr) (us : List V), H p = none → Ex H H' → H' p = some (.lst us) → TmsAt H' us t.all → Q (.ref p) H'
def spSize (n : Nat) : Sp := fun vs H Q _ => ∃ (v : V) (t : Tm) (M : Nat), vs = [v] ∧ TmAt H v t ∧ t.Ok M ∧ t.deep ≤ n ∧ t.size ≤ 1000 ∧ ∀ (H' : Hp), Ex H H' → Q (.int (t.size : Int)) H'
def spDeep (n : Nat) : Sp := fun vs H Q _ => ∃ (v : V) (t : Tm) (M : Nat), vs = [v] ∧ TmAt H v t ∧ t.Ok M ∧ t.deep ≤ n ∧ ∀ (H' : Hp), Ex H H' → Q (.int (t.deep : Int)) H'
theorem deeps_max (ts : List Tm) (m : Int) (hm : m ∈ ts.map fun t => (t.deep : Int)) (top : ∀ y ∈ ts.map (fun t => (t.deep : Int)), y ≤ m) : m = (Tm.deeps ts : Int) := by
  have le : ∀ us : List Tm, (∀ u ∈ us, (u.deep : Int) ≤ m) → 0 ≤ m → (Tm.deeps us : Int) ≤ m := by
    intro us
    induction us with
    | nil => intro _ h; exact h
    | cons u us ih =>
      intro h h0
      have h1 := h u (List.mem_cons_self ..)
      have h2 := ih (fun v hv => h v (List.mem_cons_of_mem _ hv)) h0
      show ((max u.deep (Tm.deeps us) : Nat) : Int) ≤ m
      omega
  obtain ⟨t, ht, rfl⟩ := List.mem_map.mp hm
  have h1 := deep_le ht
  have h2 := le ts (fun u hu => top _ (List.mem_map.mpr ⟨u, hu, rfl⟩)) (by omega)
  omega
/-! ### rising lists of texts -/
def tlt (a b : Str) : Prop := a.cps.toList < b.cps.toList
theorem tlt_irr (a : Str) : ¬ tlt a a := List.lt_irrefl _
theorem tlt_trans {a b c : Str} (h : tlt a b) (k : tlt b c) : tlt a c := List.lt_trans h k
theorem str_ext {a b : Str} (h : a.cps.toList = b.cps.toList) : a = b := by
  cases a
  cases b
  exact congrArg Str.mk (Array.toList_inj.mp h)
theorem tlt_of {a b : Str} (h : ltCps b.cps.toList a.cps.toList = false) (ne : a ≠ b) : tlt a b := by
  rw [ltCps_eq, decide_eq_false_iff_not] at h
  rcases Nat.lt_or_ge 0 0 with z | z
  · omega
  · by_cases c : a.cps.toList < b.cps.toList
    · exact c
    · exact absurd (str_ext (List.le_antisymm h c)) ne
theorem rise_of : ∀ (l : List Str) (p : Str), risingS p l = true → (p :: l).Nodup → (p :: l).Pairwise tlt
  | [], p, _, _ => List.pairwise_singleton _ _
  | x :: r, p, h, d => by
    have h1 : (!ltCps x.cps.toList p.cps.toList && risingS x r) = true := h
    rw [Bool.and_eq_true, Bool.not_eq_true'] at h1
    obtain ⟨d1, d2⟩ := List.nodup_cons.mp d
    have ih := rise_of r x h1.2 d2
    have px : tlt p x := tlt_of h1.1 fun e => d1 (e ▸ List.mem_cons_self ..)
    refine List.pairwise_cons.mpr ⟨fun y hy => ?_, ih⟩
    rcases List.mem_cons.mp hy with rfl | hy
    · exact px
    · exact tlt_trans px ((List.pairwise_cons.mp ih).1 y hy)
theorem sorted_rise {l : List Str} (h : sortedS l = true) (d : l.Nodup) : l.Pairwise tlt := by
  cases l with
  | nil => exact List.Pairwise.nil
  | cons x r => exact rise_of r x h d
/-- rising lists of the same members are one -/
theorem rise_same : ∀ {l k : List Str}, l.Pairwise tlt → k.Pairwise tlt → (∀ x, x ∈ l ↔ x ∈ k) → l = k
  | [], [], _, _, _ => rfl
  | [], y :: k, _, _, h => absurd ((h y).2 (List.mem_cons_self ..)) (by simp)
  | x :: l, [], _, _, h => absurd ((h x).1 (List.mem_cons_self ..)) (by simp)
  | x :: l, y :: k, hl, hk, h => by
    obtain ⟨l1, l2⟩ := List.pairwise_cons.mp hl
    obtain ⟨k1, k2⟩ := List.pairwise_cons.mp hk
    have e : x = y := by
      rcases List.mem_cons.mp ((h x).1 (List.mem_cons_self ..)) with e | hx
      · exact e
      · rcases List.mem_cons.mp ((h y).2 (List.mem_cons_self ..)) with e | hy
        · exact e.symm
        · exact absurd (tlt_trans (k1 x hx) (l1 y hy)) (tlt_irr y)
    subst e
    refine congrArg (x :: ·) (rise_same l2 k2 fun z => ⟨fun hz => ?_, fun hz => ?_⟩)
    · rcases List.mem_cons.mp ((h z).1 (List.mem_cons_of_mem _ hz)) with rfl | q
      · exact absurd (l1 z hz) (tlt_irr z)
      · exact q
    · rcases List.mem_cons.mp ((h z).2 (List.mem_cons_of_mem _ hz)) with rfl | q
      · exact absurd (k1 z hz) (tlt_irr z)
      · exact q
/-! ### marks and places of a term -/
def Tm.mk1 : Tm → List Str
  | .node (.call m) _ => [m]
  | _ => []
def Tm.pl1 : Tm → List Nat
  | .node (.ring p) _ => [p]
  | _ => []
/-- the marks that it calls, from left to right -/
def Tm.marks (t : Tm) : List Str := t.all.flatMap Tm.mk1
def Tm.places (t : Tm) : List Nat := t.all.flatMap Tm.pl1
def spCalls (n : Nat) : Sp := fun vs H Q _ => ∃ (v : V) (t : Tm) (M : Nat), vs = [v] ∧ TmAt H v t ∧ t.Ok M ∧ t.deep ≤ n ∧ t.size ≤ 1000 ∧
  ∀ (H' : Hp) (p : Addr) (xs : List Str), H p = none → Ex H H' → H' p = some (.lst (xs.map V.str)) → xs.Pairwise tlt → (∀ x, x ∈ xs ↔ x ∈ t.marks) → Q (.ref p) H'
def spPlaces (n : Nat) : Sp := fun vs H Q _ => ∃ (v : V) (t : Tm) (M : Nat), vs = [v] ∧ TmAt H v t ∧ t.Ok M ∧ t.deep ≤ n ∧ t.size ≤ 1000 ∧
  ∀ (H' : Hp) (p : Addr), H p = none → Ex H H' → H' p = some (.lst (t.places.map fun k : Nat => V.int (k : Int))) → Q (.ref p) H'
theorem take_flat {α β : Type} {l : List α} {f : α → List β} {i : Nat} {x : α} (h : l[i]? = some x) : (l.take (i + 1)).flatMap f = (l.take i).flatMap f ++ f x := by
  rw [take_more h, List.flatMap_append, List.flatMap_singleton]
end V


set_option Elab.async false
set_option linter.all false
set_option maxRecDepth 100000
set_option maxHeartbeats 4000000
namespace V
open PySem PySem.Spec PyProof.Rows L2 Evl
/-! ### data of any kind -/
section
variable {K : PySem.W.Frag} {H H' : Hp}
mutual
theorem dp_ex (e : Ex H H') : ∀ {v : V} {d : PyData}, Dp K H v d → Dp K H' v d
  | _, _, .non => .non
  | _, _, .bl b => .bl b
  | _, _, .int i => .int i
  | _, _, .str x => .str x
  | _, _, .lst h hs => .lst (ex_l e h) (dps_ex e hs)
  | _, _, .tup h hs => .tup (ex_t e h) (dps_ex e hs)
theorem dps_ex (e : Ex H H') : ∀ {vs : List V} {ds : List PyData}, DpAll K H vs ds → DpAll K H' vs ds
  | _, _, .nil => .nil
  | _, _, .cons h hs => .cons (dp_ex e h) (dps_ex e hs)
end
theorem dps_len : ∀ {vs : List V} {ds : List PyData}, DpAll K H vs ds → vs.length = ds.length
  | _, _, .nil => rfl
  | _, _, .cons _ hs => by rw [List.length_cons, List.length_cons, dps_len hs]
theorem dps_get : ∀ {vs : List V} {ds : List PyData}, DpAll K H vs ds → ∀ {i : Nat} {v : V}, vs[i]? = some v → ∃ d, ds[i]? = some d ∧ Dp K H v d
  | _, _, .nil, i, v, e => by simp at e
  | _, _, .cons h hs, 0, v, e => by
    cases Option.some.inj e
    exact ⟨_, rfl, h⟩
  | _, _, .cons h hs, i + 1, v, e => dps_get hs (i := i) (v := v) e
/-- the name of its class -/
def kind : PyData → String
  | .none => "NoneType"
  | .bool _ => "bool"
  | .int _ => "int"
  | .str _ => "str"
  | .list _ => "list"
  | .tuple _ => "tuple"
  | .dict _ => "dict"
theorem dp_ty {v : V} {d : PyData} (h : Dp K H v d) : TyX K H v (.type (kind d)) := by
  cases h with
  | non => exact .base .non
  | bl b => exact .base (.bl b)
  | int i => exact .base (.int i)
  | str x => exact .base (.str x)
  | lst h _ =>
    rcases h with (h | ⟨o, h⟩) | ⟨o, its, n, h, c, _⟩
    · exact .base (.lst h)
    · exact .base (.frz h)
    · exact .kList h c
  | tup h _ =>
    rcases h with (h | ⟨o, h⟩) | ⟨o, its, n, h, c, _⟩
    · exact .base (.tup h)
    · exact .fTuple h
    · exact .kTuple h c
end
def sgS : Str := "0123456789abcdefghijklmnopqrstuvwxyz #@();:"
def sgM : Str := "0123456789abcdefghijklmnopqrstuvwxyz"
theorem cut_sg : cutS sgS none (some 36) = sgM := by decide +kernel
/-- a text of six figures and letters -/
def isMarkD : PyData → Bool
  | .str x => x.length == 6 && x.cps.toList.all fun c => decide (c ∈ sgM.cps.toList)
  | _ => false
def isStrD : PyData → Bool
  | .str _ => true
  | _ => false
def isTupD : PyData → Bool
  | .tuple _ => true
  | _ => false
def isBoolD : PyData → Bool
  | .bool _ => true
  | _ => false
def isIntD : PyData → Bool
  | .int _ => true
  | .bool _ => true
  | _ => false
theorem kit_str : ∀ d : PyData, kitB (kind d) "str" = some (isStrD d)
  | .none => (by decide +kernel : kitB "NoneType" "str" = some false)
  | .bool _ => (by decide +kernel : kitB "bool" "str" = some false)
  | .int _ => (by decide +kernel : kitB "int" "str" = some false)
  | .str _ => (by decide +kernel : kitB "str" "str" = some true)
  | .list _ => (by decide +kernel : kitB "list" "str" = some false)
  | .tuple _ => (by decide +kernel : kitB "tuple" "str" = some false)
  | .dict _ => (by decide +kernel : kitB "dict" "str" = some false)
theorem kit_tup : ∀ d : PyData, kitB (kind d) "tuple" = some (isTupD d)
  | .none => (by decide +kernel : kitB "NoneType" "tuple" = some false)
  | .bool _ => (by decide +kernel : kitB "bool" "tuple" = some false)
  | .int _ => (by decide +kernel : kitB "int" "tuple" = some false)
  | .str _ => (by decide +kernel : kitB "str" "tuple" = some false)
  | .list _ => (by decide +kernel : kitB "list" "tuple" = some false)
  | .tuple _ => (by decide +kernel : kitB "tuple" "tuple" = some true)
  | .dict _ => (by decide +kernel : kitB "dict" "tuple" = some false)
theorem kit_bool : ∀ d : PyData, kitB (kind d) "bool" = some (isBoolD d)
  | .none => (by decide +kernel : kitB "NoneType" "bool" = some false)
  | .bool _ => (by decide +kernel : kitB "bool" "bool" = some true)
  | .int _ => (by decide +kernel : kitB "int" "bool" = some false)
  | .str _ => (by decide +kernel : kitB "str" "bool" = some false)
  | .list _ => (by decide +kernel : kitB "list" "bool" = some false)
  | .tuple _ => (by decide +kernel : kitB "tuple" "bool" = some false)
  | .dict _ => (by decide +kernel : kitB "dict" "bool" = some false)
theorem kit_int : ∀ d : PyData, kitB (kind d) "int" = some (isIntD d)
  | .none => (by decide +kernel : kitB "NoneType" "int" = some false)
  | .bool _ => (by decide +kernel : kitB "bool" "int" = some true)
  | .int _ => (by decide +kernel : kitB "int" "int" = some true)
  | .str _ => (by decide +kernel : kitB "str" "int" = some false)
  | .list _ => (by decide +kernel : kitB "list" "int" = some false)
  | .tuple _ => (by decide +kernel : kitB "tuple" "int" = some false)
  | .dict _ => (by decide +kernel : kitB "dict" "int" = some false)
def isNumD (most : Int) : PyData → Bool
  | .int i => decide (0 ≤ i) && decide (i ≤ most)
  | _ => false
def isPartsD : PyData → Bool
  | .tuple ds => decide (ds.length ≤ 4)
  | _ => false
/-- a test of one thing: its answer, all else as it was -/
def spTest (ok : PyData → Prop) (f : PyData → Bool) (K : PySem.W.Frag) : Sp := fun vs H Q _ => ∃ (v : V) (d : PyData), vs = [v] ∧ Dp K H v d ∧ ok d ∧ ∀ (H' : Hp), Ex H H' → Q (.bl (f d)) H'
def spNumTo (K : PySem.W.Frag) : Sp := fun vs H Q _ => ∃ (most : Int) (v : V) (d : PyData), vs = [.int most, v] ∧ Dp K H v d ∧ ∀ (H' : Hp), Ex H H' → Q (.bl (isNumD most d)) H'
/-- the texts in it are not too long, nor its lists -/
inductive Small : PyData → Prop where
  | non : Small .none
  | bl (b : Bool) : Small (.bool b)
  | int (i : Int) : Small (.int i)
  | str {x : Str} : x.length ≤ 100000 → Small (.str x)
  | lst {ds : List PyData} : ds.length ≤ 1000 → (∀ d ∈ ds, Small d) → Small (.list ds)
  | tup {ds : List PyData} : ds.length ≤ 1000 → (∀ d ∈ ds, Small d) → Small (.tuple ds)
section
variable {P : Program} {w : World} {K : PySem.W.Frag} {mg : Str → Option Value} {base : Heap}
theorem pe_ty {X : Cx} {T : String} {pos : Pos} (hm : X.mg (T : Str) = none) (hg : Gl X (T : Str) := by rfl) (hv : bootBuiltins (T : Str) = some (.type T) := by decide +kernel) (hn : (T : Str) ≠ "__name__" := by decide)
    (hd : ((T : Str) == ("__debug__" : Str)) = false := by decide) : PE X (.Name (T : Str) pos) (tC (.ty T)) := pe_bltn hg hm hv rfl hn hd
theorem pe_gi {X : Cx} {x : Str} {i : Int} {pos : Pos} (hm : ∃ t, X.mg x = some (.int i t)) (hg : Gl X x := by rfl) (hd : (x == ("__debug__" : Str)) = false := by decide) : PE X (.Name x pos) (tC (.int i)) := by
  obtain ⟨t, h⟩ := hm
  exact pe_glob hg h ⟨_, rfl⟩ hd
theorem pe_gs {X : Cx} {x z : Str} {pos : Pos} (hm : ∃ t, X.mg x = some (.str z t)) (hg : Gl X x := by rfl) (hd : (x == ("__debug__" : Str)) = false := by decide) : PE X (.Name x pos) (tC (.str z)) := by
  obtain ⟨t, h⟩ := hm
  exact pe_glob hg h ⟨_, rfl⟩ hd
theorem isi_at {H : Hp} {v : V} {d : PyData} {T : String} {b : Bool} (h : Dp K H v d) (e : kitB (kind d) T = some b) {Q : VK} (q : Q (.bl b) H) : rIsi K [v, .ty T] H Q :=
  ⟨v, .ty T, _, _, b, rfl, .ty T, dp_ty h, kit_ty e, q⟩
theorem all_take {p : Nat → Bool} {l : List Nat} : ((l.map p).all id) = l.all p := by
  rw [List.all_map]
  rfl
end
end V


set_option Elab.async false
set_option linter.all false
set_option maxRecDepth 100000
set_option maxHeartbeats 4000000
namespace V
open PySem PySem.Spec PyProof.Rows L2 Evl TL NumText
/-! ### texts of terms -/
/-- the figures of a number -/
def nt (n : Nat) : Str := Str.ofString (toString (n : Int))
def dig (n : Nat) : List Nat := (Nat.toDigits 10 n).map Char.toNat
theorem tl_nt (n : Nat) : tl (nt n) = dig n := PySem.W.KIN.signs_num n
theorem dig_all (n : Nat) : AllDigits (dig n) := by
  intro c hc
  obtain ⟨ch, hch, e⟩ := List.mem_map.mp hc
  have r := PyProof.Rows.digit_range (Nat.isDigit_of_mem_toDigits (by decide) (by decide) hch)
  rw [← e]
  exact r
theorem dig_ne (n : Nat) : dig n ≠ [] := fun e => by
  have h := toDigits_len_ge 10 n
  rw [List.map_eq_nil_iff.mp e] at h
  exact absurd h (by decide)
theorem dig_len {n : Nat} (h : n < 10000000) : (dig n).length ≤ 7 := by
  unfold dig
  rw [List.length_map]
  exact toDigits_len_pow (by decide) (by decide) (by show n < 10 ^ 7; omega)
theorem nt_len {n : Nat} (h : n < 10000000) : (nt n).length ≤ 7 := by
  rw [len_tl, tl_nt]
  exact dig_len h
def letter (k : Nat) : Str := (["a", "b", "c", "d"] : List Str).getD k "a"
def Hd.S : Hd → Str
  | .op o => o.str
  | .call m => "#" ++ m
  | .ring p => "@" ++ nt p
mutual
def Tm.txt : Tm → Str
  | .num n => nt n
  | .arg k => letter k
  | .node h ts => ("(" : Str) ++ Str.join " " (h.S :: Tm.txts ts) ++ ")"
def Tm.txts : List Tm → List Str
  | [] => []
  | t :: ts => t.txt :: Tm.txts ts
end
theorem txts_map (ts : List Tm) : Tm.txts ts = ts.map Tm.txt := by
  induction ts with
  | nil => rfl
  | cons t ts ih =>
    show t.txt :: Tm.txts ts = t.txt :: ts.map Tm.txt
    rw [ih]
theorem str_len_append (a b : Str) : (a ++ b).length = a.length + b.length := by
  rw [len_tl, len_tl, len_tl, tl_append, List.length_append]
theorem join_len (ys : List Str) : (Str.join " " ys).length ≤ (ys.map (·.length)).sum + ys.length := by
  have h := StrLaws.join_length_le " " ys
  have e : (" " : Str).length = 1 := by decide +kernel
  rw [e, Nat.mul_one] at h
  exact h
theorem letter_len {k : Nat} (h : k ≤ 3) : (letter k).length = 1 := by
  match k, h with
  | 0, _ => decide +kernel
  | 1, _ => decide +kernel
  | 2, _ => decide +kernel
  | 3, _ => decide +kernel
  | n + 4, h => omega
theorem Hd.S_len {M n : Nat} {h : Hd} (k : h.ok M n) (hM : M ≤ 1000000) : h.S.length ≤ 8 := by
  cases h with
  | op o => cases o <;> decide +kernel
  | call m =>
    show (("#" : Str) ++ m).length ≤ 8
    rw [str_len_append, k.1.1]
    decide +kernel
  | ring p =>
    show (("@" : Str) ++ nt p).length ≤ 8
    rw [str_len_append]
    have h1 : p ≤ M := k.1
    have := nt_len (n := p) (by omega)
    have e : ("@" : Str).length = 1 := by decide +kernel
    omega
theorem txt_len {M : Nat} (hM : M ≤ 1000000) : ∀ t : Tm, t.Ok M → t.txt.length ≤ 16 * t.size := by
  refine Tm.ind (fun n k => ?_) (fun j k => ?_) fun h ts ih k => ?_
  · cases k with
    | num hn =>
      show (nt n).length ≤ 16 * 1
      have := nt_len (n := n) (by omega)
      omega
  · cases k with
    | arg hk =>
      show (letter j).length ≤ 16 * 1
      rw [letter_len hk]
      omega
  · cases k with
    | node hh hks =>
      have sum : ∀ us : List Tm, (∀ u ∈ us, u.txt.length ≤ 16 * u.size) → ((Tm.txts us).map (·.length)).sum ≤ 16 * Tm.sizes us ∧ (Tm.txts us).length = us.length := by
        intro us
        induction us with
        | nil => intro _; exact ⟨Nat.le_refl _, rfl⟩
        | cons u us ih2 =>
          intro hu
          obtain ⟨i1, i2⟩ := ih2 fun v hv => hu v (List.mem_cons_of_mem _ hv)
          have h1 := hu u (List.mem_cons_self ..)
          refine ⟨?_, by show (Tm.txts us).length + 1 = us.length + 1; rw [i2]⟩
          show u.txt.length + ((Tm.txts us).map (·.length)).sum ≤ 16 * (u.size + Tm.sizes us)
          omega
      obtain ⟨s1, s2⟩ := sum ts fun u hu => ih u hu (hks u hu)
      show ((("(" : Str) ++ Str.join " " (h.S :: Tm.txts ts)) ++ ")").length ≤ 16 * (1 + Tm.sizes ts)
      rw [str_len_append, str_len_append]
      have j := join_len (h.S :: Tm.txts ts)
      rw [List.map_cons, List.sum_cons, List.length_cons] at j
      have e1 : ("(" : Str).length = 1 := by decide +kernel
      have e2 : (")" : Str).length = 1 := by decide +kernel
      have h4 := hh.le
      have h8 := Hd.S_len hh hM
      omega
theorem log_small {i : Int} (h0 : 0 ≤ i) (h1 : i < 10000000) : i.natAbs.log2 < 1920 := by
  have : i.natAbs < 2 ^ 24 := by
    have : (2 : Nat) ^ 24 = 16777216 := by decide
    omega
  exact Nat.lt_of_lt_of_le (PySem.Flt.log2_lt_of (by decide) this) (by decide)
theorem eq_word {a b : Str} : decide (V.str a = V.str b) = decide (a = b) := by
  rw [decide_eq_decide]
  exact ⟨V.str.inj, congrArg V.str⟩
end V


set_option Elab.async false
set_option linter.all false
set_option maxRecDepth 100000
set_option maxHeartbeats 4000000
namespace V
open PySem PySem.Spec PyProof.Rows L2 Evl TL NumText
/-! ### what is built without a change of what is there: by the word of what comes -/
def Yl (te : TE) (σ : L2.St) (H : Hp) (R : Hp → V → Prop) : Prop := ∀ H1, Ex H H1 → ∀ Q : VK, (∀ H2 v, Ex H1 H2 → R H2 v → Q v H2) → te σ H1 Q
def Ya (ta : TA) (σ : L2.St) (H : Hp) (R : Hp → List V → Prop) : Prop := ∀ H1, Ex H H1 → ∀ Q : List V → Hp → Prop, (∀ H2 vs, Ex H1 H2 → R H2 vs → Q vs H2) → ta σ H1 Q
def TmR (t : Tm) : Hp → V → Prop := fun H v => TmAt H v t
def TmsR (ts : List Tm) : Hp → List V → Prop := fun H vs => TmsAt H vs ts
def ShS (x : Str) (m : Nat) : Hp → V → Prop := fun _ v => v = .str x ∧ x.length ≤ m
def IsV (w : V) : Hp → V → Prop := fun _ v => v = w
def IsVs (ws : List V) : Hp → List V → Prop := fun _ vs => vs = ws
section
variable {σ : L2.St} {H : Hp} {te tb : TE} {ta : TA}
theorem Yl.up {R : Hp → V → Prop} {H' : Hp} (h : Yl te σ H R) (e : Ex H H') : Yl te σ H' R := fun H1 e1 Q q => h H1 (e.trans e1) Q q
theorem Yl.imp {R R' : Hp → V → Prop} (h : Yl te σ H R) (f : ∀ H v, R H v → R' H v) : Yl te σ H R' := fun H1 e1 Q q => h H1 e1 Q fun H2 v e2 r => q H2 v e2 (f H2 v r)
theorem yl_c (v : V) : Yl (tC v) σ H (IsV v) := fun H1 e Q q => q H1 v (Ex.refl H1) rfl
theorem yl_s (x : Str) (m : Nat) (h : x.length ≤ m := by decide +kernel) : Yl (tC (.str x)) σ H (ShS x m) := fun H1 e Q q => q H1 _ (Ex.refl H1) ⟨rfl, h⟩
theorem yl_varT {i : Nat} {v : V} {t : Tm} (h : TmAt H v t) (hs : σ[i]? = some (some v) := by rfl) : Yl (tVar i) σ H (TmR t) := fun H1 e Q q => ⟨v, hs, q H1 v (Ex.refl H1) (h.ex e)⟩
theorem yl_varS {i : Nat} {x : Str} {m : Nat} (h : x.length ≤ m) (hs : σ[i]? = some (some (.str x)) := by rfl) : Yl (tVar i) σ H (ShS x m) := fun H1 e Q q => ⟨_, hs, q H1 _ (Ex.refl H1) ⟨rfl, h⟩⟩
theorem yl_varV {i : Nat} (v : V) (hs : σ[i]? = some (some v) := by rfl) : Yl (tVar i) σ H (IsV v) := fun H1 e Q q => ⟨_, hs, q H1 _ (Ex.refl H1) rfl⟩
theorem yl_add {x y : Str} {m n : Nat} (ha : Yl te σ H (ShS x m)) (hb : Yl tb σ H (ShS y n)) (k : m + n ≤ 1000 := by decide) :
    Yl (tOp (fun x y H Q => ∃ i j, x = .str i ∧ y = .str j ∧ i.length + j.length ≤ sizeLine ∧ Q (.str (i ++ j)) H) te tb) σ H (ShS (x ++ y) (m + n)) := fun H1 e Q q => by
  refine ha H1 e _ fun H2 v e2 ⟨r1, r2⟩ => hb H2 (e.trans e2) _ fun H3 u e3 ⟨r3, r4⟩ => ?_
  refine ⟨x, y, r1, r3, Nat.le_trans (by omega) (by decide : 1000 ≤ sizeLine), q H3 _ (e2.trans e3) ⟨rfl, ?_⟩⟩
  rw [str_len_append]
  omega
theorem ya_nil : Ya tNil σ H (IsVs []) := fun H1 e Q q => q H1 [] (Ex.refl H1) rfl
theorem ya_v {v : V} {vs : List V} (h : Ya ta σ H (IsVs vs)) : Ya (tCons (tC v) ta) σ H (IsVs (v :: vs)) := fun H1 e Q q => h H1 e _ fun H2 us e2 r => q H2 _ e2 (by rw [show us = vs from r]; rfl)
theorem ya_tnil : Ya tNil σ H (TmsR []) := fun H1 e Q q => q H1 [] (Ex.refl H1) .nil
theorem ya_t {t : Tm} {ts : List Tm} (h : Yl te σ H (TmR t)) (hs : Ya ta σ H (TmsR ts)) : Ya (tCons te ta) σ H (TmsR (t :: ts)) := fun H1 e Q q =>
  h H1 e _ fun H2 v e2 r => hs H2 (e.trans e2) _ fun H3 vs e3 rs => q H3 _ (e2.trans e3) (.cons (TmAt.ex r e3) rs)
theorem tms_len {vs : List V} {ts : List Tm} (h : TmsAt H vs ts) (k : ts.length ≤ 4) : vs.length + 3 ≤ sizeLine := by
  rw [h.length]
  exact Nat.le_trans (by omega) (by decide : 7 ≤ sizeLine)
theorem yl_op (o : Op) {ts : List Tm} (h : Ya ta σ H (TmsR ts)) (k : ts.length ≤ 4 := by exact Nat.le_of_ble_eq_true rfl) : Yl (tTup (tCons (tC (.str o.str)) ta)) σ H (TmR (.node (.op o) ts)) := fun H1 e Q q =>
  h H1 e _ fun H2 vs e2 r => ⟨by have := tms_len r k; rw [List.length_cons]; omega, fun p hp => q _ _ (e2.trans (Ex.new hp)) (.op upd_same (TmsAt.ex r (Ex.new hp)))⟩
theorem yl_call (m : Str) {ts : List Tm} (h : Ya ta σ H (TmsR ts)) (k : ts.length ≤ 4 := by exact Nat.le_of_ble_eq_true rfl) : Yl (tTup (tCons (tC (.str "call")) (tCons (tC (.str m)) (tCons (tTup ta) tNil)))) σ H (TmR (.node (.call m) ts)) := fun H1 e Q q =>
  h H1 e _ fun H2 vs e2 r => ⟨by have := tms_len r k; omega, fun p hp => ⟨sz 3, fun p2 hp2 => by
    have f1 := Ex.new (o := .tup vs) hp
    have f2 := Ex.new (o := .tup [.str "call", .str m, .ref p]) hp2
    exact q _ _ (e2.trans (f1.trans f2)) (.call upd_same (f2 p _ upd_same) (TmsAt.ex r (f1.trans f2)))⟩⟩
theorem yl_ring (j : Nat) {ts : List Tm} (h : Ya ta σ H (TmsR ts)) (k : ts.length ≤ 4 := by exact Nat.le_of_ble_eq_true rfl) : Yl (tTup (tCons (tC (.str "ring")) (tCons (tC (.int (j : Int))) (tCons (tTup ta) tNil)))) σ H (TmR (.node (.ring j) ts)) := fun H1 e Q q =>
  h H1 e _ fun H2 vs e2 r => ⟨by have := tms_len r k; omega, fun p hp => ⟨sz 3, fun p2 hp2 => by
    have f1 := Ex.new (o := .tup vs) hp
    have f2 := Ex.new (o := .tup [.str "ring", .int (j : Int), .ref p]) hp2
    exact q _ _ (e2.trans (f1.trans f2)) (.ring upd_same (f2 p _ upd_same) (TmsAt.ex r (f1.trans f2)))⟩⟩
theorem yl_num {n : Nat} (h : Yl te σ H (IsV (.int (n : Int)))) : Yl (tTup (tCons (tC (.str "num")) (tCons te tNil))) σ H (TmR (.num n)) := fun H1 e Q q =>
  h H1 e _ fun H2 v e2 r => ⟨sz 2, fun p hp => q _ _ (e2.trans (Ex.new hp)) (.num (by rw [show v = .int (n : Int) from r, upd_same]))⟩
theorem yl_arg {n : Nat} (h : Yl te σ H (IsV (.int (n : Int)))) : Yl (tTup (tCons (tC (.str "arg")) (tCons te tNil))) σ H (TmR (.arg n)) := fun H1 e Q q =>
  h H1 e _ fun H2 v e2 r => ⟨sz 2, fun p hp => q _ _ (e2.trans (Ex.new hp)) (.arg (by rw [show v = .int (n : Int) from r, upd_same]))⟩
/-- a term and what is written of it -/
def Good (t : Tm) (ms : List Str) : Prop := t.Ok 11 ∧ t.deep ≤ 6 ∧ t.size ≤ 100 ∧ t.txt.length ≤ 1000 ∧ ms.length ≤ 100 ∧ ms.Pairwise tlt ∧ ∀ x, x ∈ ms ↔ x ∈ t.marks
def KnAt (N : Addr → Prop) (H : Hp) (v : V) (t : Tm) : Prop := ∃ (a : Addr) (tv : V) (c q : Addr) (ms : List Str), v = .ref a ∧ H a = some (.tup [tv, .str t.txt, .int (t.deep : Int), .int (t.size : Int), .ref c, .ref q]) ∧ TmAt H tv t ∧
  H c = some (.lst (ms.map V.str)) ∧ H q = some (.lst (t.places.map fun k : Nat => V.int (k : Int))) ∧ ¬ N c ∧ ¬ N q ∧ Good t ms
theorem KnAt.ex {N : Addr → Prop} {v : V} {t : Tm} {H' : Hp} (h : KnAt N H v t) (e : Ex H H') : KnAt N H' v t := by
  obtain ⟨a, tv, c, q, ms, h1, h2, h3, h4, h5, h6⟩ := h
  exact ⟨a, tv, c, q, ms, h1, e _ _ h2, h3.ex e, e _ _ h4, e _ _ h5, h6⟩
theorem KnAt.but {p : Addr} {v : V} {t : Tm} {H' : Hp} {xs : List V} (h : KnAt (· = p) H v t) (hp : H p = some (.lst xs)) (e : But p H H') : KnAt (· = p) H' v t := by
  obtain ⟨a, tv, c, q, ms, h1, h2, h3, h4, h5, h6, h7, h8⟩ := h
  have tu := e.tu hp
  exact ⟨a, tv, c, q, ms, h1, tu _ _ h2, h3.tu tu, e _ _ h6 h4, e _ _ h7 h5, h6, h7, h8⟩
theorem KnAt.new {p : Addr} {v : V} {t : Tm} {o : HO} (h : KnAt (fun _ => False) H v t) (hp : H p = none) : KnAt (· = p) (upd H p o) v t := by
  obtain ⟨a, tv, c, q, ms, h1, h2, h3, h4, h5, h6, h7, h8⟩ := h
  have e := Ex.new (o := o) hp
  exact ⟨a, tv, c, q, ms, h1, e _ _ h2, h3.ex e, e _ _ h4, e _ _ h5, (fun (z : c = p) => by rw [z, hp] at h4; cases h4), (fun (z : q = p) => by rw [z, hp] at h5; cases h5), h8⟩
theorem yl_kn {N : Addr → Prop} {t : Tm} {ms : List Str} {m : Nat} {d z : Int} {ca qa : TA} {tx : TE} {qs : List V} (hN : ∀ c, N c → H c ≠ none) (g : Good t ms) (h1 : Yl te σ H (TmR t)) (h2 : Yl tx σ H (ShS t.txt m)) (hd : d = (t.deep : Int)) (hz : z = (t.size : Int))
    (hc : Ya ca σ H (IsVs (ms.map V.str))) (hq : Ya qa σ H (IsVs qs)) (eq_ : qs = t.places.map fun k : Nat => V.int (k : Int)) (few : t.places.length ≤ 100) :
    Yl (tTup (tCons te (tCons tx (tCons (tC (.int d)) (tCons (tC (.int z)) (tCons (tLst ca) (tCons (tLst qa) tNil))))))) σ H (fun H v => KnAt N H v t) := fun H1 e Q q =>
  h1 H1 e _ fun H2 v e2 r => h2 H2 (e.trans e2) _ fun H3 u e3 ⟨s1, s2⟩ => hc H3 (e.trans (e2.trans e3)) _ fun H4 cs e4 rc => by
    have rc' : cs = ms.map V.str := rc
    subst rc'
    refine ⟨by rw [List.length_map]; exact Nat.le_trans g.2.2.2.2.1 (by decide), fun c hcn => ?_⟩
    have f1 := Ex.new (o := .lst (ms.map V.str)) hcn
    refine hq _ (e.trans (e2.trans (e3.trans (e4.trans f1)))) _ fun H5 us e5 rq => ?_
    have rq' : us = t.places.map fun k : Nat => V.int (k : Int) := (show us = qs from rq).trans eq_
    subst rq'
    refine ⟨by rw [List.length_map]; exact Nat.le_trans few (by decide), fun q1 hq1 => ⟨sz 6, fun p hp => ?_⟩⟩
    have f2 := Ex.new (o := .lst (t.places.map fun k : Nat => V.int (k : Int))) hq1
    have f3 := Ex.new (o := .tup [v, u, .int d, .int z, .ref c, .ref q1]) hp
    have hh : Ex H H4 := e.trans (e2.trans (e3.trans e4))
    refine q _ _ (e2.trans (e3.trans (e4.trans (f1.trans (e5.trans (f2.trans f3)))))) ⟨p, v, c, q1, ms, rfl, by rw [upd_same, s1, hd, hz], TmAt.ex r (e3.trans (e4.trans (f1.trans (e5.trans (f2.trans f3))))), (f2.trans f3) _ _ (e5 _ _ upd_same), f3 _ _ upd_same, ?_, ?_, g⟩
    · intro n
      have n0 := hN c n
      cases w : H c with
      | none => exact n0 w
      | some o =>
        rw [hh _ _ w] at hcn
        cases hcn
    · intro n
      have n0 := hN q1 n
      cases w : H q1 with
      | none => exact n0 w
      | some o =>
        rw [e5 _ _ (f1 _ _ (hh _ _ w))] at hq1
        cases hq1
end
inductive KnsAt (N : Addr → Prop) (H : Hp) : List V → List Tm → Prop where
  | nil : KnsAt N H [] []
  | cons {v : V} {vs : List V} {t : Tm} {ts : List Tm} : KnAt N H v t → KnsAt N H vs ts → KnsAt N H (v :: vs) (t :: ts)
theorem KnsAt.map {N N' : Addr → Prop} {H H' : Hp} (f : ∀ v t, KnAt N H v t → KnAt N' H' v t) : ∀ {vs : List V} {ts : List Tm}, KnsAt N H vs ts → KnsAt N' H' vs ts
  | _, _, .nil => .nil
  | _, _, .cons h hs => .cons (f _ _ h) (hs.map f)
theorem KnsAt.add {N : Addr → Prop} {H : Hp} {v : V} {t : Tm} (h : KnAt N H v t) : ∀ {vs : List V} {ts : List Tm}, KnsAt N H vs ts → KnsAt N H (vs ++ [v]) (ts ++ [t])
  | _, _, .nil => .cons h .nil
  | _, _, .cons k ks => .cons k (ks.add h)
theorem KnsAt.len {N : Addr → Prop} {H : Hp} : ∀ {vs : List V} {ts : List Tm}, KnsAt N H vs ts → vs.length = ts.length
  | _, _, .nil => rfl
  | _, _, .cons _ hs => by rw [List.length_cons, List.length_cons, hs.len]
theorem KnsAt.get {N : Addr → Prop} {H : Hp} : ∀ {vs : List V} {ts : List Tm}, KnsAt N H vs ts → ∀ {i : Nat} {v : V}, vs[i]? = some v → ∃ t, ts[i]? = some t ∧ KnAt N H v t
  | _, _, .nil, i, v, e => by simp at e
  | _, _, .cons h hs, 0, v, e => by
    cases Option.some.inj e
    exact ⟨_, rfl, h⟩
  | _, _, .cons h hs, i + 1, v, e => hs.get (i := i) (v := v) e
end V


set_option Elab.async false
set_option linter.all false
set_option maxRecDepth 100000
set_option maxHeartbeats 4000000
namespace V
open PySem PySem.Spec PyProof.Rows L2 Evl

end V


set_option Elab.async false
set_option linter.all false
set_option maxRecDepth 100000
set_option maxHeartbeats 4000000
namespace V
open PySem PySem.Spec PyProof.Rows L2 Evl
/-- d[key] of a written dict -/
def rIxD (K : PySem.W.Frag) (d : Addr) : R2 := fun x y H Q => ∃ (z : Str) (u0 : Value) (v0 : V), x = .ref d ∧ y = .str z ∧ PySem.W.nsIn K d z = some (some u0) ∧ RelV v0 u0 ∧ Q v0 H
theorem ix_kd {X : Cx} {d : Addr} {es : Array DictEntry} {n : Nat} (D : KDict X.K X.w d es n) : IxR X (rIxD X.K d) := by
  intro value slice pins s σ H x y v u Q I rx ry h hs
  obtain ⟨z, u0, v0, rfl, rfl, e, r, q⟩ := h
  cases rx
  exact tail_any (kd_type D I) PySem.F.slot_dict_getitem.lookup (op_item_kd D pins s σ H (.ref d) (.str z) _ _ Q I rfl ry ⟨z, u0, v0, rfl, rfl, e, r, q⟩) hs
def arOf (z : Str) : Nat := if z = "if" then 3 else 2
theorem op_of {z : Str} (h : z ∈ opWords) : ∃ o : Op, z = o.str ∧ arOf z = o.ar := by
  have h2 : z = "add" ∨ z = "less" ∨ z = "times" ∨ z = "under" ∨ z = "if" := by
    simpa [opWords] using h
  rcases h2 with rfl | rfl | rfl | rfl | rfl
  · exact ⟨.add, rfl, by decide +kernel⟩
  · exact ⟨.less, rfl, by decide +kernel⟩
  · exact ⟨.times, rfl, by decide +kernel⟩
  · exact ⟨.under, rfl, by decide +kernel⟩
  · exact ⟨.cond, rfl, by decide +kernel⟩
def one1 (f : PyData → Bool) : List PyData → Bool
  | [d] => f d
  | _ => false
def two2 (f g : PyData → Bool) : List PyData → Bool
  | [d, e] => f d && g e
  | _ => false
/-- it would be a term if its parts were -/
def headD : PyData → Bool
  | .tuple (.str z :: r) =>
    if z ∈ opWords then decide (r.length = arOf z)
    else if z = "num" then one1 (isNumD 1000002) r
    else if z = "arg" then one1 (isNumD 3) r
    else if z = "call" then two2 isMarkD isPartsD r
    else if z = "ring" then two2 (isNumD 11) isPartsD r
    else false
  | _ => false
theorem len_ne {xs : List V} {n : Int} (h : (xs.length : Int) ≠ n) : decide (V.int (xs.length : Int) = V.int n) = false := decide_eq_false fun z => h (V.int.inj z)
end V


set_option Elab.async false
set_option linter.all false
set_option maxRecDepth 100000
set_option maxHeartbeats 4000000
namespace V
open PySem PySem.Spec PyProof.Rows L2 Evl
def second : List PyData → List PyData
  | [_, .tuple ds] => ds
  | _ => []
/-- what would be its parts, of what is headed -/
def partsD : PyData → List PyData
  | .tuple (.str z :: r) => if z ∈ opWords then r else second r
  | _ => []
def isTm : Nat → PyData → Bool
  | 0, _ => false
  | n + 1, d => headD d && (partsD d).all (isTm n)
theorem Small.parts {d e : PyData} (s : Small d) (h : e ∈ partsD d) : Small e := by
  cases s with
  | tup h1 hk =>
    rename_i ds
    cases ds with
    | nil => cases h
    | cons c r =>
      cases c with
      | str z =>
        have h' : e ∈ (if z ∈ opWords then r else second r) := h
        split at h'
        · exact hk e (List.mem_cons_of_mem _ h')
        · unfold second at h'
          split at h'
          · rename_i x ds
            have := hk (.tuple ds) (by simp)
            cases this with
            | tup _ k2 => exact k2 e h'
          · cases h'
      | _ => cases h
  | _ => cases h
theorem Small.few {d : PyData} (s : Small d) : (partsD d).length ≤ 1000 := by
  cases s with
  | tup h1 hk =>
    rename_i ds
    cases ds with
    | nil => exact Nat.zero_le _
    | cons c r =>
      rw [List.length_cons] at h1
      cases c with
      | str z =>
        show (if z ∈ opWords then r else second r).length ≤ 1000
        split
        · omega
        · unfold second
          split
          · rename_i x ds
            have := hk (.tuple ds) (by simp)
            cases this with
            | tup k1 _ => exact k1
          · exact Nat.zero_le _
      | _ => exact Nat.zero_le _
  | _ => exact Nat.zero_le _
def spPartsD (K : PySem.W.Frag) : Sp := fun vs H Q _ => ∃ (v : V) (d : PyData), vs = [v] ∧ Dp K H v d ∧ headD d = true ∧
  ∀ (H' : Hp) (p : Addr) (us : List V), Ex H H' → SqT K H' p us → DpAll K H' us (partsD d) → Q (.ref p) H'
def spWithin (K : PySem.W.Frag) (n : Nat) : Sp := fun vs H Q _ => ∃ (m : Nat) (v : V) (d : PyData), vs = [.int (m : Int), v] ∧ m ≤ n ∧ Dp K H v d ∧ Small d ∧ ∀ (H' : Hp), Ex H H' → Q (.bl (isTm m d)) H'
theorem cut_tail (v : V) (ws : List V) : cutV (v :: ws) (some 1) none = ws := by
  show cutV (v :: ws) (some ((1 : Nat) : Int)) none = ws
  unfold cutV
  rw [HT.sIx_nat, HT.sIx_none, List.length_cons, Nat.min_eq_left (by omega)]
  show (List.take (ws.length + 1 - 1) ws) = ws
  exact List.take_length
end V


set_option Elab.async false
set_option linter.all false
set_option maxRecDepth 100000
set_option maxHeartbeats 4000000
namespace V
open PySem PySem.Spec PyProof.Rows L2 Evl TL NumText
def spHeadText : Sp := fun vs H Q _ => ∃ (v : V) (h : Hd) (ts : List Tm) (M : Nat), vs = [v] ∧ TmAt H v (.node h ts) ∧ h.ok M ts.length ∧ M ≤ 1000000 ∧ ∀ (H' : Hp), Ex H H' → Q (.str h.S) H'
def spText (n : Nat) : Sp := fun vs H Q _ => ∃ (v : V) (t : Tm) (M : Nat), vs = [v] ∧ TmAt H v t ∧ t.Ok M ∧ M ≤ 1000000 ∧ t.deep ≤ n ∧ t.size ≤ 1000 ∧ ∀ (H' : Hp), Ex H H' → Q (.str t.txt) H'
end V


set_option Elab.async false
set_option linter.all false
set_option maxRecDepth 100000
set_option maxHeartbeats 4000000
namespace V
open PySem PySem.Spec PyProof.Rows L2 Evl TL NumText
/-! ### numbers of texts -/
def figs : List Nat := [48, 49, 50, 51, 52, 53, 54, 55, 56, 57]
theorem figs_iff (c : Nat) : c ∈ figs ↔ 48 ≤ c ∧ c ≤ 57 := by
  unfold figs
  simp only [List.mem_cons, List.not_mem_nil, or_false]
  omega
def isNumL (l : List Nat) : Bool := decide (1 ≤ l.length) && decide (l.length ≤ 7) && l.all (fun c => decide (c ∈ figs)) && decide (digitsVal l ≤ 1000002) && decide (TL.numL (digitsVal l) = l)
/-- the number that it writes -/
def numV (z : Str) : V := if isNumL (tl z) then .int ((digitsVal (tl z) : Nat) : Int) else .non
theorem numV_nt {n : Nat} (h : n ≤ 1000002) : numV (nt n) = .int (n : Int) := by
  have e : tl (nt n) = TL.numL n := tl_nt n
  have d := TL.numL_digits n
  unfold numV
  rw [e, TL.numL_val]
  refine if_pos ?_
  unfold isNumL
  rw [TL.numL_val]
  simp only [Bool.and_eq_true, decide_eq_true_eq, List.all_eq_true]
  refine ⟨⟨⟨⟨?_, ?_⟩, fun c hc => (figs_iff c).mpr (d c hc)⟩, h⟩, trivial⟩
  · exact List.length_pos_iff.mpr (TL.numL_ne n)
  · have := nt_len (n := n) (by omega)
    rw [len_tl, e] at this
    exact this
def spNumIn : Sp := fun vs H Q _ => ∃ z : Str, vs = [.str z] ∧ z.length ≤ 1000000 ∧ ∀ (H' : Hp), Ex H H' → Q (numV z) H'
theorem nat_le_int {a b : Nat} : decide ((a : Int) ≤ (b : Int)) = decide (a ≤ b) := by
  rw [decide_eq_decide]
  omega
def figS : Str := "0123456789"
theorem figS_tl : figS.cps.toList = figs := by decide +kernel
end V


set_option Elab.async false
set_option linter.all false
set_option maxRecDepth 100000
set_option maxHeartbeats 4000000
namespace V
open PySem PySem.Spec PyProof.Rows L2 Evl TL NumText
/-! ### words of texts -/
def letters : List Str := ["a", "b", "c", "d"]
def lix (z : Str) : Option Nat := if z = "a" then some 0 else if z = "b" then some 1 else if z = "c" then some 2 else if z = "d" then some 3 else none
def leafL (z : Str) : List V := match lix z with
  | some k => [.str "arg", .int (k : Int)]
  | none => [.str "num", numV z]
theorem lix_some {z : Str} {k : Nat} (h : lix z = some k) : letters[k]? = some z ∧ ∀ m, m < k → letters[m]? ≠ some z := by
  unfold lix at h
  split at h
  · rename_i e
    cases h
    subst e
    exact ⟨rfl, fun m hm => absurd hm (by omega)⟩
  split at h
  · rename_i e
    cases h
    subst e
    exact ⟨rfl, by decide +kernel⟩
  split at h
  · rename_i e
    cases h
    subst e
    exact ⟨rfl, by decide +kernel⟩
  split at h
  · rename_i e
    cases h
    subst e
    exact ⟨rfl, by decide +kernel⟩
  · cases h
theorem lix_in (z : Str) : inV (.str z) [.str "a", .str "b", .str "c", .str "d"] = (lix z).isSome := by
  have e : inV (.str z) [.str "a", .str "b", .str "c", .str "d"] = ((("a" : Str) == z) || ((("b" : Str) == z) || ((("c" : Str) == z) || ((("d" : Str) == z) || false)))) := rfl
  rw [e]
  unfold lix
  by_cases c1 : z = "a"
  · subst c1; decide +kernel
  by_cases c2 : z = "b"
  · subst c2; decide +kernel
  by_cases c3 : z = "c"
  · subst c3; decide +kernel
  by_cases c4 : z = "d"
  · subst c4; decide +kernel
  rw [if_neg c1, if_neg c2, if_neg c3, if_neg c4, beq_eq_false_iff_ne.mpr (Ne.symm c1), beq_eq_false_iff_ne.mpr (Ne.symm c2), beq_eq_false_iff_ne.mpr (Ne.symm c3), beq_eq_false_iff_ne.mpr (Ne.symm c4)]
  rfl
def spLeaf : Sp := fun vs H Q _ => ∃ z : Str, vs = [.str z] ∧ z.length ≤ 1000000 ∧ ∀ (H' : Hp) (p : Addr), Ex H H' → H' p = some (.tup (leafL z)) → Q (.ref p) H'
/-- blank, brackets -/
def stops : List Nat := [32, 40, 41]
def stopS : Str := " ()"
theorem stopS_tl : stopS.cps.toList = stops := by decide +kernel
def spWordAt : Sp := fun vs H Q _ => ∃ (z x : Str) (a b : List Nat), vs = [.str z, .int (a.length : Int)] ∧ z.length ≤ 1000000 ∧ tl z = a ++ (tl x ++ b) ∧ (∀ c ∈ tl x, c ∉ stops) ∧ (∀ c, b.head? = some c → c ∈ stops) ∧
  ∀ (H' : Hp), Ex H H' → Q (.str x) H'
theorem cut_mid {z x : Str} {a b : List Nat} (h : tl z = a ++ (tl x ++ b)) : cutS z (some (a.length : Int)) (some ((a.length + x.length : Nat) : Int)) = x := by
  have hz : z.length = a.length + (x.length + b.length) := by
    rw [len_tl, h, List.length_append, List.length_append, ← len_tl]
  unfold cutS
  rw [HT.sIx_nat, HT.sIx_nat, Nat.min_eq_left (by omega), Nat.min_eq_left (by omega)]
  refine ext_tl ?_
  show List.take _ (List.drop _ (tl z)) = tl x
  rw [h, List.drop_left, show a.length + x.length - a.length = (tl x).length by rw [← len_tl]; omega, List.take_left]
end V


set_option Elab.async false
set_option linter.all false
set_option maxRecDepth 100000
set_option maxHeartbeats 4000000
namespace V
open PySem PySem.Spec PyProof.Rows L2 Evl TL NumText
/-! ### terms of texts -/
/-- the parts, a blank ahead of each -/
def tails (ts : List Tm) : List Nat := ts.flatMap fun t => 32 :: tl t.txt
theorem join_tails (x : List Nat) (ts : List Tm) : joinL [32] (x :: (ts.map fun t => tl t.txt)) = x ++ tails ts := by
  induction ts generalizing x with
  | nil => show x = x ++ []; rw [List.append_nil]
  | cons t ts ih =>
    show x ++ ([32] ++ joinL [32] (tl t.txt :: ts.map fun t => tl t.txt)) = x ++ ((32 :: tl t.txt) ++ tails ts)
    rw [ih]
    rfl
theorem tl_node (h : Hd) (ts : List Tm) : tl (Tm.node h ts).txt = 40 :: (tl h.S ++ (tails ts ++ [41])) := by
  show tl (("(" : Str) ++ Str.join " " (h.S :: Tm.txts ts) ++ ")") = _
  have o1 : tl ("(" : Str) = [40] := by decide +kernel
  have o2 : tl (")" : Str) = [41] := by decide +kernel
  have o3 : tl (" " : Str) = [32] := by decide +kernel
  rw [tl_append, tl_append, tl_join, o1, o2, o3, txts_map, List.map_cons, List.map_map]
  show [40] ++ joinL [32] (tl h.S :: ts.map fun t => tl t.txt) ++ [41] = _
  rw [join_tails, List.append_assoc, List.append_assoc]
  rfl
theorem tails_take {ts : List Tm} {i : Nat} {t : Tm} (h : ts[i]? = some t) : tails ts = tails (ts.take i) ++ (32 :: (tl t.txt ++ tails (ts.drop (i + 1)))) := by
  have hi := (List.getElem?_eq_some_iff.mp h)
  obtain ⟨h1, h2⟩ := hi
  conv => lhs; rw [← List.take_append_drop i ts, List.drop_eq_getElem_cons h1, h2]
  unfold tails
  rw [List.flatMap_append, List.flatMap_cons]
  rfl
theorem tails_more {ts : List Tm} {i : Nat} {t : Tm} (h : ts[i]? = some t) : tails (ts.take (i + 1)) = tails (ts.take i) ++ (32 :: tl t.txt) := by
  rw [take_more h]
  unfold tails
  rw [List.flatMap_append]
  show _ ++ ((32 :: tl t.txt) ++ []) = _
  rw [List.append_nil]
theorem cut_one {z : Str} {a b : List Nat} {c : Nat} (h : tl z = a ++ (c :: b)) : cutS z (some (a.length : Int)) (some ((a.length : Int) + 1)) = ⟨#[c]⟩ := cut_mid (x := ⟨#[c]⟩) h
theorem cut_first {z : Str} {b : List Nat} {c : Nat} (h : tl z = c :: b) : cutS z none (some 1) = ⟨#[c]⟩ := by
  have e : cutS z (some ((0 : Nat) : Int)) (some 1) = ⟨#[c]⟩ := cut_one (a := []) h
  have e2 : cutS z none (some 1) = cutS z (some ((0 : Nat) : Int)) (some 1) := by
    unfold cutS
    rw [HT.sIx_none, HT.sIx_nat, Nat.zero_min]
  rw [e2, e]
theorem cut_rest {z x : Str} {c : Nat} (h : tl z = c :: tl x) : cutS z (some 1) none = x := by
  have e : cutS z (some (([c].length : Nat) : Int)) (some (([c].length + x.length : Nat) : Int)) = x := cut_mid (a := [c]) (b := []) (by rw [h, List.append_nil]; rfl)
  have e2 : cutS z (some 1) none = cutS z (some (([c].length : Nat) : Int)) (some (([c].length + x.length : Nat) : Int)) := by
    have hz : z.length = 1 + x.length := by rw [len_tl, h, List.length_cons, ← len_tl]; omega
    have e1 : HT.sIx z.length z.length (some (([c].length + x.length : Nat) : Int)) = z.length := by
      rw [HT.sIx_nat]
      show min (1 + x.length) z.length = z.length
      omega
    unfold cutS
    rw [HT.sIx_none, e1]
    rfl
  rw [e2, e]
theorem letter_stops {k : Nat} (h : k ≤ 3) : ∀ c ∈ tl (letter k), c ∉ stops := by
  match k, h with
  | 0, _ => decide +kernel
  | 1, _ => decide +kernel
  | 2, _ => decide +kernel
  | 3, _ => decide +kernel
  | n + 4, h => omega
theorem num_stops (n : Nat) : ∀ c ∈ TL.numL n, c ∉ stops := fun c hc => by
  have := TL.numL_digits n c hc
  unfold stops
  simp only [List.mem_cons, List.not_mem_nil, or_false]
  omega
theorem mk_stops {m : Str} (h : isMk m) : ∀ c ∈ tl m, c ∉ stops := fun c hc => by
  have := h.2 c hc
  unfold stops
  simp only [List.mem_cons, List.not_mem_nil, or_false]
  omega
theorem hd_stops {M n : Nat} {h : Hd} (k : h.ok M n) : ∀ c ∈ tl h.S, c ∉ stops := by
  cases h with
  | op o => cases o <;> decide +kernel
  | call m =>
    show ∀ c ∈ tl (("#" : Str) ++ m), c ∉ stops
    rw [tl_append]
    intro c hc
    rcases List.mem_append.mp hc with hc | hc
    · exact (by decide +kernel : ∀ c ∈ tl ("#" : Str), c ∉ stops) c hc
    · exact mk_stops k.1 c hc
  | ring p =>
    show ∀ c ∈ tl (("@" : Str) ++ nt p), c ∉ stops
    rw [tl_append, tl_nt]
    intro c hc
    rcases List.mem_append.mp hc with hc | hc
    · exact (by decide +kernel : ∀ c ∈ tl ("@" : Str), c ∉ stops) c hc
    · exact num_stops p c hc
/-- a number or an argument: no bracket, just this leaf -/
theorem leaf_stops {M : Nat} {t : Tm} (h : t.Ok M) (hn : t.parts = []) (hh : ∀ h ts, t ≠ .node h ts) : (∀ c ∈ tl t.txt, c ∉ stops) ∧ tl t.txt ≠ [] := by
  cases h with
  | @num n hn' =>
    show (∀ c ∈ tl (nt n), c ∉ stops) ∧ tl (nt n) ≠ []
    rw [tl_nt]
    exact ⟨num_stops n, TL.numL_ne n⟩
  | arg hk =>
    rename_i k
    refine ⟨letter_stops hk, fun e => ?_⟩
    have l := letter_len hk
    rw [len_tl] at l
    have e' : tl (letter k) = [] := e
    rw [e'] at l
    cases l
  | node _ _ => exact absurd rfl (hh _ _)
theorem lix_letter {k : Nat} (h : k ≤ 3) : lix (letter k) = some k := by
  match k, h with
  | 0, _ => decide +kernel
  | 1, _ => decide +kernel
  | 2, _ => decide +kernel
  | 3, _ => decide +kernel
  | n + 4, h => omega
theorem lix_nt (n : Nat) : lix (nt n) = none := by
  have no : ∀ s : Str, (∃ c ∈ tl s, 57 < c) → nt n ≠ s := fun s ⟨c, h1, h2⟩ e => by
    have h3 := congrArg tl e
    rw [tl_nt] at h3
    have := TL.numL_digits n c (by
      show c ∈ dig n
      rw [h3]
      exact h1)
    omega
  unfold lix
  rw [if_neg (no "a" (by decide +kernel)), if_neg (no "b" (by decide +kernel)), if_neg (no "c" (by decide +kernel)), if_neg (no "d" (by decide +kernel))]
/-- the leaf that it writes -/
theorem leaf_at {M : Nat} {t : Tm} {H : Hp} {p : Addr} (h : t.Ok M) (hh : ∀ h ts, t ≠ .node h ts) (hp : H p = some (.tup (leafL t.txt))) : TmAt H (.ref p) t := by
  cases h with
  | num hn =>
    rename_i n
    have e : leafL (Tm.num n).txt = [.str "num", .int (n : Int)] := by
      show leafL (nt n) = _
      unfold leafL
      rw [lix_nt, numV_nt hn]
    rw [e] at hp
    exact .num hp
  | arg hk =>
    rename_i k
    have e : leafL (Tm.arg k).txt = [.str "arg", .int (k : Int)] := by
      show leafL (letter k) = _
      unfold leafL
      rw [lix_letter hk]
    rw [e] at hp
    exact .arg hp
  | node _ _ => exact absurd rfl (hh _ _)
end V


set_option Elab.async false
set_option linter.all false
set_option maxRecDepth 100000
set_option maxHeartbeats 4000000
namespace V
open PySem PySem.Spec PyProof.Rows L2 Evl TL NumText
/-! ### the known ones of the law -/
def tCall (n k : Nat) : Tm := .node (.call "zz9z0a") [.arg k, .node (.ring 11) [.num n], .node (.call "b00000") [], .node (.ring 2) []]
def tBig (n k : Nat) : Tm := .node (.op .cond) [.node (.op .less) [.arg k, .num 1], .node (.ring 1) [.node (.ring 0) [.arg k], .node (.op .times) [.arg k, tCall n k]], tCall n k]
def kn (n k : Nat) : List Tm := [.num n, .arg k, .node (.op .add) [.arg k, .num n], .node (.op .under) [.num n, .arg k], .node (.ring 0) [], .node (.call "000000") [], tCall n k, tBig n k]
theorem tl_num1 (n : Nat) : tl (Tm.num n).txt = TL.numL n := tl_nt n
theorem tl_arg1 (k : Nat) : tl (Tm.arg k).txt = tl (letter k) := rfl
theorem txt_add (n k : Nat) : ("(add " : Str) ++ letter k ++ " " ++ nt n ++ ")" = (Tm.node (.op .add) [.arg k, .num n]).txt := ext_tl (by
  have c1 : tl ("(add " : Str) = [40, 97, 100, 100, 32] := by decide +kernel
  have c2 : tl (" " : Str) = [32] := by decide +kernel
  have c3 : tl (")" : Str) = [41] := by decide +kernel
  have c4 : tl (Hd.op .add).S = [97, 100, 100] := by decide +kernel
  have c5 : tl (nt n) = TL.numL n := tl_nt n
  simp only [tl_append, tl_node, tails, List.flatMap_cons, List.flatMap_nil, tl_num1, tl_arg1, c1, c2, c3, c4, c5, List.append_assoc, List.cons_append, List.nil_append])
theorem txt_under (n k : Nat) : ("(under " : Str) ++ nt n ++ " " ++ letter k ++ ")" = (Tm.node (.op .under) [.num n, .arg k]).txt := ext_tl (by
  have c1 : tl ("(under " : Str) = [40, 117, 110, 100, 101, 114, 32] := by decide +kernel
  have c2 : tl (" " : Str) = [32] := by decide +kernel
  have c3 : tl (")" : Str) = [41] := by decide +kernel
  have c4 : tl (Hd.op .under).S = [117, 110, 100, 101, 114] := by decide +kernel
  have c5 : tl (nt n) = TL.numL n := tl_nt n
  simp only [tl_append, tl_node, tails, List.flatMap_cons, List.flatMap_nil, tl_num1, tl_arg1, c1, c2, c3, c4, c5, List.append_assoc, List.cons_append, List.nil_append])
theorem txt_ring0 : ("(@0)" : Str) = (Tm.node (.ring 0) []).txt := by decide +kernel
theorem txt_call0 : ("(#000000)" : Str) = (Tm.node (.call "000000") []).txt := by decide +kernel
theorem txt_b : tl (Tm.node (.call "b00000") []).txt = [40, 35, 98, 48, 48, 48, 48, 48, 41] := by decide +kernel
theorem txt_r2 : tl (Tm.node (.ring 2) []).txt = [40, 64, 50, 41] := by decide +kernel
theorem txt_call (n k : Nat) : ("(#zz9z0a " : Str) ++ letter k ++ " (@11 " ++ nt n ++ ") (#b00000) (@2))" = (tCall n k).txt := ext_tl (by
  have c1 : tl ("(#zz9z0a " : Str) = [40, 35, 122, 122, 57, 122, 48, 97, 32] := by decide +kernel
  have c2 : tl (" (@11 " : Str) = [32, 40, 64, 49, 49, 32] := by decide +kernel
  have c3 : tl (") (#b00000) (@2))" : Str) = [41, 32, 40, 35, 98, 48, 48, 48, 48, 48, 41, 32, 40, 64, 50, 41, 41] := by decide +kernel
  have c4 : tl (Hd.call "zz9z0a").S = [35, 122, 122, 57, 122, 48, 97] := by decide +kernel
  have c6 : tl (Hd.ring 11).S = [64, 49, 49] := by decide +kernel
  have c5 : tl (nt n) = TL.numL n := tl_nt n
  have e := tl_node (.call "zz9z0a") [.arg k, .node (.ring 11) [.num n], .node (.call "b00000") [], .node (.ring 2) []]
  have e2 := tl_node (.ring 11) [.num n]
  unfold tCall
  rw [e]
  simp only [tails, List.flatMap_cons, List.flatMap_nil, txt_b, txt_r2]
  rw [e2]
  simp only [tl_append, tails, List.flatMap_cons, List.flatMap_nil, tl_num1, tl_arg1, c1, c2, c3, c4, c5, c6, List.append_assoc, List.cons_append, List.nil_append])
theorem txt_big (n k : Nat) : (("(if (less " : Str) ++ letter k ++ " 1) (@1 (@0 " ++ letter k ++ ") (times " ++ letter k ++ " ") ++ (tCall n k).txt ++ ")) " ++ (tCall n k).txt ++ ")" = (tBig n k).txt := ext_tl (by
  have c1 : tl ("(if (less " : Str) = [40, 105, 102, 32, 40, 108, 101, 115, 115, 32] := by decide +kernel
  have c2 : tl (" 1) (@1 (@0 " : Str) = [32, 49, 41, 32, 40, 64, 49, 32, 40, 64, 48, 32] := by decide +kernel
  have c3 : tl (") (times " : Str) = [41, 32, 40, 116, 105, 109, 101, 115, 32] := by decide +kernel
  have c7 : tl (" " : Str) = [32] := by decide +kernel
  have c8 : tl (")) " : Str) = [41, 41, 32] := by decide +kernel
  have c9 : tl (")" : Str) = [41] := by decide +kernel
  have d1 : tl (Hd.op .cond).S = [105, 102] := by decide +kernel
  have d2 : tl (Hd.op .less).S = [108, 101, 115, 115] := by decide +kernel
  have d3 : tl (Hd.op .times).S = [116, 105, 109, 101, 115] := by decide +kernel
  have d4 : tl (Hd.ring 1).S = [64, 49] := by decide +kernel
  have d5 : tl (Hd.ring 0).S = [64, 48] := by decide +kernel
  have d6 : tl (Tm.num 1).txt = [49] := by decide +kernel
  unfold tBig
  generalize tCall n k = c
  simp only [tl_append, tl_node, tails, List.flatMap_cons, List.flatMap_nil, d6, tl_arg1, c1, c2, c3, c7, c8, c9, d1, d2, d3, d4, d5, List.append_assoc, List.cons_append, List.nil_append])
theorem mk_of {s : Str} (h : s.length = 6 ∧ s.cps.toList.all (fun c => decide ((48 ≤ c ∧ c ≤ 57) ∨ (97 ≤ c ∧ c ≤ 122))) = true) : isMk s := ⟨h.1, fun c hc => of_decide_eq_true (List.all_eq_true.mp h.2 c hc)⟩
section
variable {n k : Nat} (hn : n ≤ 1000002) (hk : k ≤ 3)
include hn hk
theorem ok_tCall : (tCall n k).Ok 11 := by
  refine .node ⟨mk_of (by decide +kernel), by show 4 ≤ 4; decide⟩ fun t ht => ?_
  simp only [List.mem_cons, List.not_mem_nil, or_false] at ht
  rcases ht with rfl | rfl | rfl | rfl
  · exact .arg hk
  · exact .node ⟨by decide, by show 1 ≤ 4; decide⟩ fun t ht => by
      rw [List.mem_singleton.mp ht]
      exact .num hn
  · exact .node ⟨mk_of (by decide +kernel), by show 0 ≤ 4; decide⟩ fun t ht => by cases ht
  · exact .node ⟨by decide, by show 0 ≤ 4; decide⟩ fun t ht => by cases ht
theorem ok_tBig : (tBig n k).Ok 11 := by
  refine .node rfl fun t ht => ?_
  simp only [List.mem_cons, List.not_mem_nil, or_false] at ht
  rcases ht with rfl | rfl | rfl
  · refine .node rfl fun t ht => ?_
    simp only [List.mem_cons, List.not_mem_nil, or_false] at ht
    rcases ht with rfl | rfl
    · exact .arg hk
    · exact .num (by decide)
  · refine .node ⟨by decide, by show 2 ≤ 4; decide⟩ fun t ht => ?_
    simp only [List.mem_cons, List.not_mem_nil, or_false] at ht
    rcases ht with rfl | rfl
    · exact .node ⟨by decide, by show 1 ≤ 4; decide⟩ fun t ht => by
        rw [List.mem_singleton.mp ht]
        exact .arg hk
    · refine .node rfl fun t ht => ?_
      simp only [List.mem_cons, List.not_mem_nil, or_false] at ht
      rcases ht with rfl | rfl
      · exact .arg hk
      · exact ok_tCall hn hk
  · exact ok_tCall hn hk
end
theorem good_of {t : Tm} {ms : List Str} (h1 : t.Ok 11) (h2 : t.deep ≤ 6) (h3 : t.size ≤ 60) (h4 : ms.length ≤ 100) (h5 : ms.Pairwise tlt) (h6 : ∀ x, x ∈ ms ↔ x ∈ t.marks) : Good t ms := by
  refine ⟨h1, h2, by omega, ?_, h4, h5, h6⟩
  have := txt_len (M := 11) (by decide) t h1
  omega
end V


set_option Elab.async false
set_option linter.all false
set_option maxRecDepth 100000
set_option maxHeartbeats 400000
namespace V
open PySem PySem.Spec PyProof.Rows L2 Evl TL NumText
/-! ### their measures -/
structure Mea (t : Tm) (d z : Nat) (ms : List Str) (ps : List Nat) : Prop where
  d : t.deep = d
  z : t.size = z
  m : t.marks = ms
  p : t.places = ps
structure MeaL (ts : List Tm) (d z : Nat) (ms : List Str) (ps : List Nat) : Prop where
  d : Tm.deeps ts = d
  z : Tm.sizes ts = z
  m : (Tm.alls ts).flatMap Tm.mk1 = ms
  p : (Tm.alls ts).flatMap Tm.pl1 = ps
theorem mea_num (n : Nat) : Mea (.num n) 1 1 [] [] := by
  constructor <;> simp only [Tm.deep, Tm.size, Tm.marks, Tm.places, Tm.all, Tm.alls, Tm.mk1, Tm.pl1, List.flatMap_cons, List.flatMap_nil, List.append_nil]
theorem mea_arg (k : Nat) : Mea (.arg k) 1 1 [] [] := by
  constructor <;> simp only [Tm.deep, Tm.size, Tm.marks, Tm.places, Tm.all, Tm.alls, Tm.mk1, Tm.pl1, List.flatMap_cons, List.flatMap_nil, List.append_nil]
theorem mea_nil : MeaL [] 0 0 [] [] := by
  constructor <;> simp only [Tm.deeps, Tm.sizes, Tm.alls, List.flatMap_nil]
theorem mea_cons {t : Tm} {ts : List Tm} {d z d' z' : Nat} {ms ms' : List Str} {ps ps' : List Nat} (h : Mea t d z ms ps) (k : MeaL ts d' z' ms' ps') : MeaL (t :: ts) (max d d') (z + z') (ms ++ ms') (ps ++ ps') := by
  obtain ⟨h1, h2, h3, h4⟩ := h
  obtain ⟨k1, k2, k3, k4⟩ := k
  unfold Tm.marks at h3
  unfold Tm.places at h4
  constructor
  · rw [Tm.deeps, h1, k1]
  · rw [Tm.sizes, h2, k2]
  · rw [Tm.alls, List.flatMap_append, h3, k3]
  · rw [Tm.alls, List.flatMap_append, h4, k4]
section
variable {ts : List Tm} {d z : Nat} {ms : List Str} {ps : List Nat}
theorem mea_op (o : Op) (h : MeaL ts d z ms ps) : Mea (.node (.op o) ts) (1 + d) (1 + z) ms ps := by
  obtain ⟨h1, h2, h3, h4⟩ := h
  constructor
  · rw [Tm.deep, h1]
  · rw [Tm.size, h2]
  · rw [Tm.marks, Tm.all, List.flatMap_cons, h3]; rfl
  · rw [Tm.places, Tm.all, List.flatMap_cons, h4]; rfl
theorem mea_call (m : Str) (h : MeaL ts d z ms ps) : Mea (.node (.call m) ts) (1 + d) (1 + z) (m :: ms) ps := by
  obtain ⟨h1, h2, h3, h4⟩ := h
  constructor
  · rw [Tm.deep, h1]
  · rw [Tm.size, h2]
  · rw [Tm.marks, Tm.all, List.flatMap_cons, h3]; rfl
  · rw [Tm.places, Tm.all, List.flatMap_cons, h4]; rfl
theorem mea_ring (j : Nat) (h : MeaL ts d z ms ps) : Mea (.node (.ring j) ts) (1 + d) (1 + z) ms (j :: ps) := by
  obtain ⟨h1, h2, h3, h4⟩ := h
  constructor
  · rw [Tm.deep, h1]
  · rw [Tm.size, h2]
  · rw [Tm.marks, Tm.all, List.flatMap_cons, h3]; rfl
  · rw [Tm.places, Tm.all, List.flatMap_cons, h4]; rfl
end
theorem Mea.of {t : Tm} {d z d' z' : Nat} {ms ms' : List Str} {ps ps' : List Nat} (h : Mea t d z ms ps) (e1 : d = d') (e2 : z = z') (e3 : ms = ms') (e4 : ps = ps') : Mea t d' z' ms' ps' := by
  subst e1 e2 e3 e4
  exact h
theorem mea_tAdd (n k : Nat) : Mea (.node (.op .add) [.arg k, .num n]) 2 3 [] [] := (mea_op .add (mea_cons (mea_arg k) (mea_cons (mea_num n) mea_nil))).of (by decide) (by decide) rfl rfl
theorem mea_tUnder (n k : Nat) : Mea (.node (.op .under) [.num n, .arg k]) 2 3 [] [] := (mea_op .under (mea_cons (mea_num n) (mea_cons (mea_arg k) mea_nil))).of (by decide) (by decide) rfl rfl
theorem mea_tRing : Mea (.node (.ring 0) []) 1 1 [] [0] := mea_ring 0 mea_nil
theorem mea_tCall0 : Mea (.node (.call "000000") []) 1 1 ["000000"] [] := mea_call "000000" mea_nil
theorem mea_tCall (n k : Nat) : Mea (tCall n k) 3 6 ["zz9z0a", "b00000"] [11, 2] :=
  (mea_call "zz9z0a" (mea_cons (mea_arg k) (mea_cons (mea_ring 11 (mea_cons (mea_num n) mea_nil)) (mea_cons (mea_call "b00000" mea_nil) (mea_cons (mea_ring 2 mea_nil) mea_nil))))).of (by decide) (by decide) rfl rfl
theorem mea_tBig (n k : Nat) : Mea (tBig n k) 6 21 ["zz9z0a", "b00000", "zz9z0a", "b00000"] [1, 0, 11, 2, 11, 2] :=
  (mea_op .cond (mea_cons (mea_op .less (mea_cons (mea_arg k) (mea_cons (mea_num 1) mea_nil))) (mea_cons (mea_ring 1 (mea_cons (mea_ring 0 (mea_cons (mea_arg k) mea_nil)) (mea_cons (mea_op .times (mea_cons (mea_arg k) (mea_cons (mea_tCall n k) mea_nil))) mea_nil)))
    (mea_cons (mea_tCall n k) mea_nil)))).of (by decide) (by decide) rfl rfl
theorem good_by {t : Tm} {ms ms' : List Str} {d z : Nat} {ps : List Nat} (h1 : t.Ok 11) (me : Mea t d z ms' ps) (h2 : d ≤ 6) (h3 : z ≤ 60) (h4 : ms.length ≤ 100) (h5 : ms.Pairwise tlt) (h6 : ∀ x, x ∈ ms ↔ x ∈ ms') : Good t ms :=
  good_of h1 (by rw [me.d]; exact h2) (by rw [me.z]; exact h3) h4 h5 (fun x => by rw [me.m]; exact h6 x)
theorem yl_known {σ : L2.St} {H : Hp} {te : TE} {N : Addr → Prop} {t : Tm} {ms ms' : List Str} {ps : List Nat} {m d' z' : Nat} {d z : Int} {ca qa : TA} {tx : TE} {qs : List V} (hN : ∀ c, N c → H c ≠ none) (g : Good t ms) (me : Mea t d' z' ms' ps) (h1 : Yl te σ H (TmR t)) (h2 : Yl tx σ H (ShS t.txt m))
    (hc : Ya ca σ H (IsVs (ms.map V.str))) (hq : Ya qa σ H (IsVs qs)) (hd : d = (d' : Int)) (hz : z = (z' : Int)) (eq_ : qs = ps.map fun k : Nat => V.int (k : Int)) (few : ps.length ≤ 100) :
    Yl (tTup (tCons te (tCons tx (tCons (tC (.int d)) (tCons (tC (.int z)) (tCons (tLst ca) (tCons (tLst qa) tNil))))))) σ H (fun H v => KnAt N H v t) :=
  yl_kn hN g h1 h2 (by rw [me.d]; exact hd) (by rw [me.z]; exact hz) hc hq (by rw [me.p]; exact eq_) (by rw [me.p]; exact few)
section
variable {n k : Nat} (hn : n ≤ 1000002) (hk : k ≤ 3)
include hn hk
theorem g_add : Good (.node (.op .add) [.arg k, .num n]) [] := good_by (.node rfl fun t ht => by
  simp only [List.mem_cons, List.not_mem_nil, or_false] at ht
  rcases ht with rfl | rfl
  · exact .arg hk
  · exact .num hn) (mea_tAdd n k) (by decide) (by decide) (by decide) .nil fun x => Iff.rfl
theorem g_under : Good (.node (.op .under) [.num n, .arg k]) [] := good_by (.node rfl fun t ht => by
  simp only [List.mem_cons, List.not_mem_nil, or_false] at ht
  rcases ht with rfl | rfl
  · exact .num hn
  · exact .arg hk) (mea_tUnder n k) (by decide) (by decide) (by decide) .nil fun x => Iff.rfl
theorem g_num : Good (.num n) [] := good_by (.num hn) (mea_num n) (by decide) (by decide) (by decide) .nil fun x => Iff.rfl
theorem g_arg : Good (.arg k) [] := good_by (.arg hk) (mea_arg k) (by decide) (by decide) (by decide) .nil fun x => Iff.rfl
theorem two_ms : (["b00000", "zz9z0a"] : List Str).Pairwise tlt :=
  .cons (fun x hx => by rw [List.mem_singleton.mp hx]; show ("b00000" : Str).cps.toList < ("zz9z0a" : Str).cps.toList; decide +kernel) (.cons (fun _ h => by cases h) .nil)
theorem g_call : Good (tCall n k) ["b00000", "zz9z0a"] := good_by (ok_tCall hn hk) (mea_tCall n k) (by decide) (by decide) (by show 2 ≤ 100; decide) (two_ms hn hk) fun x => by
  simp only [List.mem_cons, List.not_mem_nil, or_false]
  exact Or.comm
theorem g_big : Good (tBig n k) ["b00000", "zz9z0a"] := good_by (ok_tBig hn hk) (mea_tBig n k) (by decide) (by decide) (by show 2 ≤ 100; decide) (two_ms hn hk) fun x => by
  simp only [List.mem_cons, List.not_mem_nil, or_false]
  exact ⟨fun h => h.elim (fun h => .inr (.inl h)) .inl, fun h => h.elim .inr fun h => h.elim .inl fun h => h.elim .inr .inl⟩
end
theorem g_ring : Good (.node (.ring 0) []) [] := good_by (.node ⟨by decide, by show 0 ≤ 4; decide⟩ fun t ht => by cases ht) mea_tRing (by decide) (by decide) (by decide) .nil fun x => Iff.rfl
theorem g_call0 : Good (.node (.call "000000") []) ["000000"] := good_by (.node ⟨mk_of (by decide +kernel), by show 0 ≤ 4; decide⟩ fun t ht => by cases ht) mea_tCall0 (by decide) (by decide) (by show 1 ≤ 100; decide) (.cons (fun _ h => by cases h) .nil) fun x => Iff.rfl
end V


set_option Elab.async false
set_option linter.all false
set_option maxRecDepth 100000
set_option maxHeartbeats 4000000
namespace V
open PySem PySem.Spec PyProof.Rows L2
/-! ### the text -/
def topS (i : Nat) : Stmt := PySem.Challenge.pw_contentnames_k06_known_terms_and_marks.main.body.getD i (.Pass ⟨0, 0, 0, 0⟩)
abbrev s_mark_of_text : Stmt := topS 9
abbrev s_mark_of_number : Stmt := topS 10
abbrev s_is_mark : Stmt := topS 19
abbrev s_is_number_to : Stmt := topS 20
abbrev s_is_term : Stmt := topS 21
abbrev s_is_term_within : Stmt := topS 22
abbrev s_is_headed : Stmt := topS 23
abbrev s_is_parts : Stmt := topS 24
abbrev s_parts_of : Stmt := topS 25
abbrev s_terms_of : Stmt := topS 26
abbrev s_deep_of : Stmt := topS 27
abbrev s_size_of : Stmt := topS 28
abbrev s_calls_of : Stmt := topS 29
abbrev s_places_of : Stmt := topS 30
abbrev s_term_text : Stmt := topS 34
abbrev s_head_text : Stmt := topS 35
abbrev s_term_in : Stmt := topS 36
abbrev s_term_at : Stmt := topS 37
abbrev s_bracket_at : Stmt := topS 38
abbrev s_word_at : Stmt := topS 39
abbrev s_leaf_of : Stmt := topS 40
abbrev s_number_in : Stmt := topS 41
abbrev s__law_box : Stmt := topS 43
abbrev s__law_take : Stmt := topS 44
abbrev s__law_folded : Stmt := topS 45
abbrev s__law_same : Stmt := topS 46
abbrev s__law_number : Stmt := topS 47
abbrev s__law_known : Stmt := topS 48
abbrev s__law_right : Stmt := topS 49
abbrev s_law : Stmt := topS 50
abbrev N_mark_of_text : List Str := ["text", "number", "sign"]
theorem sc_mark_of_text : FnScope N_mark_of_text ["text"] (defScope s_mark_of_text) := ⟨rfl, rfl, rfl, by decide +kernel, rfl, by decide +kernel, by decide +kernel⟩
abbrev N_mark_of_number : List Str := ["number", "mark", "_"]
theorem sc_mark_of_number : FnScope N_mark_of_number ["number"] (defScope s_mark_of_number) := ⟨rfl, rfl, rfl, by decide +kernel, rfl, by decide +kernel, by decide +kernel⟩
abbrev N_is_mark : List Str := ["thing", "sign"]
theorem sc_is_mark : FnScope N_is_mark ["thing"] (defScope s_is_mark) := ⟨rfl, rfl, rfl, by decide +kernel, rfl, by decide +kernel, by decide +kernel⟩
abbrev N_is_number_to : List Str := ["most", "thing"]
theorem sc_is_number_to : FnScope N_is_number_to ["most", "thing"] (defScope s_is_number_to) := ⟨rfl, rfl, rfl, by decide +kernel, rfl, by decide +kernel, by decide +kernel⟩
abbrev N_is_term : List Str := ["thing"]
theorem sc_is_term : FnScope N_is_term ["thing"] (defScope s_is_term) := ⟨rfl, rfl, rfl, by decide +kernel, rfl, by decide +kernel, by decide +kernel⟩
abbrev N_is_term_within : List Str := ["deep", "thing", "part"]
theorem sc_is_term_within : FnScope N_is_term_within ["deep", "thing"] (defScope s_is_term_within) := ⟨rfl, rfl, rfl, by decide +kernel, rfl, by decide +kernel, by decide +kernel⟩
abbrev N_is_headed : List Str := ["thing", "word"]
theorem sc_is_headed : FnScope N_is_headed ["thing"] (defScope s_is_headed) := ⟨rfl, rfl, rfl, by decide +kernel, rfl, by decide +kernel, by decide +kernel⟩
abbrev N_is_parts : List Str := ["thing"]
theorem sc_is_parts : FnScope N_is_parts ["thing"] (defScope s_is_parts) := ⟨rfl, rfl, rfl, by decide +kernel, rfl, by decide +kernel, by decide +kernel⟩
abbrev N_parts_of : List Str := ["term"]
theorem sc_parts_of : FnScope N_parts_of ["term"] (defScope s_parts_of) := ⟨rfl, rfl, rfl, by decide +kernel, rfl, by decide +kernel, by decide +kernel⟩
abbrev N_terms_of : List Str := ["term", "terms", "part"]
theorem sc_terms_of : FnScope N_terms_of ["term"] (defScope s_terms_of) := ⟨rfl, rfl, rfl, by decide +kernel, rfl, by decide +kernel, by decide +kernel⟩
abbrev N_deep_of : List Str := ["term", "part"]
theorem sc_deep_of : FnScope N_deep_of ["term"] (defScope s_deep_of) := ⟨rfl, rfl, rfl, by decide +kernel, rfl, by decide +kernel, by decide +kernel⟩
abbrev N_size_of : List Str := ["term"]
theorem sc_size_of : FnScope N_size_of ["term"] (defScope s_size_of) := ⟨rfl, rfl, rfl, by decide +kernel, rfl, by decide +kernel, by decide +kernel⟩
abbrev N_calls_of : List Str := ["term", "inner"]
theorem sc_calls_of : FnScope N_calls_of ["term"] (defScope s_calls_of) := ⟨rfl, rfl, rfl, by decide +kernel, rfl, by decide +kernel, by decide +kernel⟩
abbrev N_places_of : List Str := ["term", "inner"]
theorem sc_places_of : FnScope N_places_of ["term"] (defScope s_places_of) := ⟨rfl, rfl, rfl, by decide +kernel, rfl, by decide +kernel, by decide +kernel⟩
abbrev N_term_text : List Str := ["term", "word", "words", "part"]
theorem sc_term_text : FnScope N_term_text ["term"] (defScope s_term_text) := ⟨rfl, rfl, rfl, by decide +kernel, rfl, by decide +kernel, by decide +kernel⟩
abbrev N_head_text : List Str := ["term"]
theorem sc_head_text : FnScope N_head_text ["term"] (defScope s_head_text) := ⟨rfl, rfl, rfl, by decide +kernel, rfl, by decide +kernel, by decide +kernel⟩
abbrev N_term_in : List Str := ["text", "term", "end"]
theorem sc_term_in : FnScope N_term_in ["text"] (defScope s_term_in) := ⟨rfl, rfl, rfl, by decide +kernel, rfl, by decide +kernel, by decide +kernel⟩
abbrev N_term_at : List Str := ["text", "start", "deep", "word"]
theorem sc_term_at : FnScope N_term_at ["text", "start", "deep"] (defScope s_term_at) := ⟨rfl, rfl, rfl, by decide +kernel, rfl, by decide +kernel, by decide +kernel⟩
abbrev N_bracket_at : List Str := ["text", "start", "deep", "word", "end", "parts", "part"]
theorem sc_bracket_at : FnScope N_bracket_at ["text", "start", "deep"] (defScope s_bracket_at) := ⟨rfl, rfl, rfl, by decide +kernel, rfl, by decide +kernel, by decide +kernel⟩
abbrev N_word_at : List Str := ["text", "start", "end"]
theorem sc_word_at : FnScope N_word_at ["text", "start"] (defScope s_word_at) := ⟨rfl, rfl, rfl, by decide +kernel, rfl, by decide +kernel, by decide +kernel⟩
abbrev N_leaf_of : List Str := ["word"]
theorem sc_leaf_of : FnScope N_leaf_of ["word"] (defScope s_leaf_of) := ⟨rfl, rfl, rfl, by decide +kernel, rfl, by decide +kernel, by decide +kernel⟩
abbrev N_number_in : List Str := ["word", "number", "sign"]
theorem sc_number_in : FnScope N_number_in ["word"] (defScope s_number_in) := ⟨rfl, rfl, rfl, by decide +kernel, rfl, by decide +kernel, by decide +kernel⟩
abbrev N__law_box : List Str := ["script", "k", "cell"]
theorem sc__law_box : FnScope N__law_box ["script", "k"] (defScope s__law_box) := ⟨rfl, rfl, rfl, by decide +kernel, rfl, by decide +kernel, by decide +kernel⟩
abbrev N__law_take : List Str := ["box", "size", "found", "step", "once", "twice"]
theorem sc__law_take : FnScope N__law_take ["box", "size"] (defScope s__law_take) := ⟨rfl, rfl, rfl, by decide +kernel, rfl, by decide +kernel, by decide +kernel⟩
abbrev N__law_folded : List Str := ["script", "size", "cells", "k", "cell"]
theorem sc__law_folded : FnScope N__law_folded ["script", "size"] (defScope s__law_folded) := ⟨rfl, rfl, rfl, by decide +kernel, rfl, by decide +kernel, by decide +kernel⟩
abbrev N__law_same : List Str := ["found", "due", "one", "other"]
theorem sc__law_same : FnScope N__law_same ["found", "due"] (defScope s__law_same) := ⟨rfl, rfl, rfl, by decide +kernel, rfl, by decide +kernel, by decide +kernel⟩
abbrev N__law_number : List Str := ["box"]
theorem sc__law_number : FnScope N__law_number ["box"] (defScope s__law_number) := ⟨rfl, rfl, rfl, by decide +kernel, rfl, by decide +kernel, by decide +kernel⟩
abbrev N__law_known : List Str := ["n", "k", "a", "num", "sign", "figures", "found", "call", "text", "term", "head"]
theorem sc__law_known : FnScope N__law_known ["n", "k"] (defScope s__law_known) := ⟨rfl, rfl, rfl, by decide +kernel, rfl, by decide +kernel, by decide +kernel⟩
abbrev N__law_right : List Str := ["box", "term", "text", "tall", "size", "calls", "places", "found", "marks", "mark"]
theorem sc__law_right : FnScope N__law_right ["box"] (defScope s__law_right) := ⟨rfl, rfl, rfl, by decide +kernel, rfl, by decide +kernel, by decide +kernel⟩
abbrev N_law : List Str := ["script", "cells", "k", "box", "turn"]
theorem sc_law : FnScope N_law ["script"] (defScope s_law) := ⟨rfl, rfl, rfl, by decide +kernel, rfl, by decide +kernel, by decide +kernel⟩
/-! ### the head -/
def d_mark_of_text : He.DefD := ⟨("mark_of_text", none), "mark_of_text", "mark_of_text", defArgs s_mark_of_text, defBody s_mark_of_text, defScope s_mark_of_text, [], []⟩
def d_mark_of_number : He.DefD := ⟨("mark_of_number", none), "mark_of_number", "mark_of_number", defArgs s_mark_of_number, defBody s_mark_of_number, defScope s_mark_of_number, [], []⟩
def d_is_mark : He.DefD := ⟨("is_mark", none), "is_mark", "is_mark", defArgs s_is_mark, defBody s_is_mark, defScope s_is_mark, [], []⟩
def d_is_number_to : He.DefD := ⟨("is_number_to", none), "is_number_to", "is_number_to", defArgs s_is_number_to, defBody s_is_number_to, defScope s_is_number_to, [], []⟩
def d_is_term : He.DefD := ⟨("is_term", none), "is_term", "is_term", defArgs s_is_term, defBody s_is_term, defScope s_is_term, [], []⟩
def d_is_term_within : He.DefD := ⟨("is_term_within", none), "is_term_within", "is_term_within", defArgs s_is_term_within, defBody s_is_term_within, defScope s_is_term_within, [], []⟩
def d_is_headed : He.DefD := ⟨("is_headed", none), "is_headed", "is_headed", defArgs s_is_headed, defBody s_is_headed, defScope s_is_headed, [], []⟩
def d_is_parts : He.DefD := ⟨("is_parts", none), "is_parts", "is_parts", defArgs s_is_parts, defBody s_is_parts, defScope s_is_parts, [], []⟩
def d_parts_of : He.DefD := ⟨("parts_of", none), "parts_of", "parts_of", defArgs s_parts_of, defBody s_parts_of, defScope s_parts_of, [], []⟩
def d_terms_of : He.DefD := ⟨("terms_of", none), "terms_of", "terms_of", defArgs s_terms_of, defBody s_terms_of, defScope s_terms_of, [], []⟩
def d_deep_of : He.DefD := ⟨("deep_of", none), "deep_of", "deep_of", defArgs s_deep_of, defBody s_deep_of, defScope s_deep_of, [], []⟩
def d_size_of : He.DefD := ⟨("size_of", none), "size_of", "size_of", defArgs s_size_of, defBody s_size_of, defScope s_size_of, [], []⟩
def d_calls_of : He.DefD := ⟨("calls_of", none), "calls_of", "calls_of", defArgs s_calls_of, defBody s_calls_of, defScope s_calls_of, [], []⟩
def d_places_of : He.DefD := ⟨("places_of", none), "places_of", "places_of", defArgs s_places_of, defBody s_places_of, defScope s_places_of, [], []⟩
def d_term_text : He.DefD := ⟨("term_text", none), "term_text", "term_text", defArgs s_term_text, defBody s_term_text, defScope s_term_text, [], []⟩
def d_head_text : He.DefD := ⟨("head_text", none), "head_text", "head_text", defArgs s_head_text, defBody s_head_text, defScope s_head_text, [], []⟩
def d_term_in : He.DefD := ⟨("term_in", none), "term_in", "term_in", defArgs s_term_in, defBody s_term_in, defScope s_term_in, [], []⟩
def d_term_at : He.DefD := ⟨("term_at", none), "term_at", "term_at", defArgs s_term_at, defBody s_term_at, defScope s_term_at, [], []⟩
def d_bracket_at : He.DefD := ⟨("bracket_at", none), "bracket_at", "bracket_at", defArgs s_bracket_at, defBody s_bracket_at, defScope s_bracket_at, [], []⟩
def d_word_at : He.DefD := ⟨("word_at", none), "word_at", "word_at", defArgs s_word_at, defBody s_word_at, defScope s_word_at, [], []⟩
def d_leaf_of : He.DefD := ⟨("leaf_of", none), "leaf_of", "leaf_of", defArgs s_leaf_of, defBody s_leaf_of, defScope s_leaf_of, [], []⟩
def d_number_in : He.DefD := ⟨("number_in", none), "number_in", "number_in", defArgs s_number_in, defBody s_number_in, defScope s_number_in, [], []⟩
def d__law_box : He.DefD := ⟨("_law_box", none), "_law_box", "_law_box", defArgs s__law_box, defBody s__law_box, defScope s__law_box, [], []⟩
def d__law_take : He.DefD := ⟨("_law_take", none), "_law_take", "_law_take", defArgs s__law_take, defBody s__law_take, defScope s__law_take, [], []⟩
def d__law_folded : He.DefD := ⟨("_law_folded", none), "_law_folded", "_law_folded", defArgs s__law_folded, defBody s__law_folded, defScope s__law_folded, [], []⟩
def d__law_same : He.DefD := ⟨("_law_same", none), "_law_same", "_law_same", defArgs s__law_same, defBody s__law_same, defScope s__law_same, [], []⟩
def d__law_number : He.DefD := ⟨("_law_number", none), "_law_number", "_law_number", defArgs s__law_number, defBody s__law_number, defScope s__law_number, [], []⟩
def d__law_known : He.DefD := ⟨("_law_known", none), "_law_known", "_law_known", defArgs s__law_known, defBody s__law_known, defScope s__law_known, [], []⟩
def d__law_right : He.DefD := ⟨("_law_right", none), "_law_right", "_law_right", defArgs s__law_right, defBody s__law_right, defScope s__law_right, [], []⟩
def d_law : He.DefD := ⟨("law", none), "law", "law", defArgs s_law, defBody s_law, defScope s_law, [], []⟩
def fn : List He.DefD := ([d_mark_of_text, d_mark_of_number, d_is_mark, d_is_number_to, d_is_term, d_is_term_within, d_is_headed, d_is_parts, d_parts_of, d_terms_of, d_deep_of, d_size_of, d_calls_of, d_places_of, d_term_text, d_head_text, d_term_in, d_term_at, d_bracket_at, d_word_at] : List He.DefD) ++ ([d_leaf_of, d_number_in, d__law_box, d__law_take, d__law_folded, d__law_same, d__law_number, d__law_known, d__law_right, d_law] : List He.DefD)
def fa : List He.Fa := ([.glo "mark_of_text", .glo "mark_of_number", .glo "is_mark", .glo "is_number_to", .glo "is_term", .glo "is_term_within", .glo "is_headed", .glo "is_parts", .glo "parts_of", .glo "terms_of", .glo "deep_of", .glo "size_of", .glo "calls_of", .glo "places_of", .glo "term_text", .glo "head_text", .glo "term_in", .glo "term_at", .glo "bracket_at", .glo "word_at"] : List He.Fa) ++ ([.glo "leaf_of", .glo "number_in", .glo "_law_box", .glo "_law_take", .glo "_law_folded", .glo "_law_same", .glo "_law_number", .glo "_law_known", .glo "_law_right", .glo "law", .free "range", .free "all", .free "isinstance", .free "str", .free "len", .free "int", .free "bool", .free "tuple", .free "max", .free "sorted"] : List He.Fa) ++ ([.free "abs", .free "divmod", .free "list", .free "enumerate", .free "zip", .str "SIGNS" "0123456789abcdefghijklmnopqrstuvwxyz #@();:", .int "BASE" 36, .int "MARK_LENGTH" 6, .int "FIRST_NUMBER" 7, .int "FACTOR" 131, .int "MODULUS" 998244353, .int "LARGEST" 1000002, .int "LAST_ARG" 3, .int "LAST_PLACE" 11, .int "MOST_PARTS" 4, .int "DEEPEST" 8, .glo "OPERATIONS", .glo "CALLS", .str "FIGURES" "0123456789", .glo "LETTERS"] : List He.Fa)
def tabs : List He.Tab := [(fun K => He.ga K "OPERATIONS", ["add", "less", "times", "under", "if"])]
def ex (K : PySem.W.Frag) : Bool := He.valsB K (He.ga K "OPERATIONS") [("add", .int 2), ("less", .int 2), ("times", .int 2), ("under", .int 2), ("if", .int 3)] && He.tupB K "CALLS" [.str "call", .str "ring", .str "name"] && tupN K "CALLS" && He.tupB K "LETTERS" [.str "a", .str "b", .str "c", .str "d"] && tupN K "LETTERS"
abbrev R : PySem.W.OpenRow := PySem.W.OpenLaw.row PySem.Challenge.rw_contentnames_k06_known_terms_and_marks
abbrev hk : PySem.W.Hook := He.hookX 6 fa fn tabs [] ex
def ob (s : PySem.W.SharedT) : He.AlX := He.obsX 6 fa fn tabs [] ex (HandSHeadRun.getT s)
theorem ob_eq (s : PySem.W.SharedT) : ob s = hk.obs s.abs := He.obsX_eq (HandSHeadRun.getT_eq s)
def loose : List Str := (["BadText", "SIGNS", "BASE", "MARK_LENGTH", "FIRST_NUMBER", "FACTOR", "MODULUS", "LARGEST", "LAST_ARG", "LAST_PLACE", "MOST_PARTS", "DEEPEST", "OPERATIONS", "CALLS", "FIGURES", "LETTERS", "mark_of_text", "mark_of_number", "is_mark", "is_number_to"] : List Str) ++ (["is_term", "is_term_within", "is_headed", "is_parts", "parts_of", "terms_of", "deep_of", "size_of", "calls_of", "places_of", "term_text", "head_text", "term_in", "term_at", "bracket_at", "word_at", "leaf_of", "number_in", "_law_box", "_law_take"] : List Str) ++ (["_law_folded", "_law_same", "_law_number", "_law_known", "_law_right"] : List Str)
set_option maxHeartbeats 0 in
theorem run (w : World) : HandSHeadRun.RunEq R (PySem.W.view R.prog [50]) hk ob 6000 loose w :=
  PySem.W.byRow2 "special-get-raises" (P := fun w => HandSHeadRun.RunEq R (PySem.W.view R.prog [50]) hk ob 6000 loose w) (fun w os => by kernel_rfl) (fun w os => by kernel_rfl) w
/-! ### what the top has left, by names -/
structure Txt (K : PySem.W.Frag) (w : World) (mg : Str → Option Value) : Prop where
  D_mark_of_text : Def K mg "mark_of_text" s_mark_of_text ["text"]
  D_mark_of_number : Def K mg "mark_of_number" s_mark_of_number ["number"]
  D_is_mark : Def K mg "is_mark" s_is_mark ["thing"]
  D_is_number_to : Def K mg "is_number_to" s_is_number_to ["most", "thing"]
  D_is_term : Def K mg "is_term" s_is_term ["thing"]
  D_is_term_within : Def K mg "is_term_within" s_is_term_within ["deep", "thing"]
  D_is_headed : Def K mg "is_headed" s_is_headed ["thing"]
  D_is_parts : Def K mg "is_parts" s_is_parts ["thing"]
  D_parts_of : Def K mg "parts_of" s_parts_of ["term"]
  D_terms_of : Def K mg "terms_of" s_terms_of ["term"]
  D_deep_of : Def K mg "deep_of" s_deep_of ["term"]
  D_size_of : Def K mg "size_of" s_size_of ["term"]
  D_calls_of : Def K mg "calls_of" s_calls_of ["term"]
  D_places_of : Def K mg "places_of" s_places_of ["term"]
  D_term_text : Def K mg "term_text" s_term_text ["term"]
  D_head_text : Def K mg "head_text" s_head_text ["term"]
  D_term_in : Def K mg "term_in" s_term_in ["text"]
  D_term_at : Def K mg "term_at" s_term_at ["text", "start", "deep"]
  D_bracket_at : Def K mg "bracket_at" s_bracket_at ["text", "start", "deep"]
  D_word_at : Def K mg "word_at" s_word_at ["text", "start"]
  D_leaf_of : Def K mg "leaf_of" s_leaf_of ["word"]
  D_number_in : Def K mg "number_in" s_number_in ["word"]
  D__law_box : Def K mg "_law_box" s__law_box ["script", "k"]
  D__law_take : Def K mg "_law_take" s__law_take ["box", "size"]
  D__law_folded : Def K mg "_law_folded" s__law_folded ["script", "size"]
  D__law_same : Def K mg "_law_same" s__law_same ["found", "due"]
  D__law_number : Def K mg "_law_number" s__law_number ["box"]
  D__law_known : Def K mg "_law_known" s__law_known ["n", "k"]
  D__law_right : Def K mg "_law_right" s__law_right ["box"]
  D_law : Def K mg "law" s_law ["script"]
  z_range : mg "range" = none
  z_all : mg "all" = none
  z_isinstance : mg "isinstance" = none
  z_str : mg "str" = none
  z_len : mg "len" = none
  z_int : mg "int" = none
  z_bool : mg "bool" = none
  z_tuple : mg "tuple" = none
  z_max : mg "max" = none
  z_sorted : mg "sorted" = none
  z_abs : mg "abs" = none
  z_divmod : mg "divmod" = none
  z_list : mg "list" = none
  z_enumerate : mg "enumerate" = none
  z_zip : mg "zip" = none
  c_SIGNS : ∃ t, mg "SIGNS" = some (.str "0123456789abcdefghijklmnopqrstuvwxyz #@();:" t)
  c_BASE : ∃ t, mg "BASE" = some (.int 36 t)
  c_MARK_LENGTH : ∃ t, mg "MARK_LENGTH" = some (.int 6 t)
  c_FIRST_NUMBER : ∃ t, mg "FIRST_NUMBER" = some (.int 7 t)
  c_FACTOR : ∃ t, mg "FACTOR" = some (.int 131 t)
  c_MODULUS : ∃ t, mg "MODULUS" = some (.int 998244353 t)
  c_LARGEST : ∃ t, mg "LARGEST" = some (.int 1000002 t)
  c_LAST_ARG : ∃ t, mg "LAST_ARG" = some (.int 3 t)
  c_LAST_PLACE : ∃ t, mg "LAST_PLACE" = some (.int 11 t)
  c_MOST_PARTS : ∃ t, mg "MOST_PARTS" = some (.int 4 t)
  c_DEEPEST : ∃ t, mg "DEEPEST" = some (.int 8 t)
  O : Ops K w mg
  g_CALLS : ∃ a, mg "CALLS" = some (.ref a) ∧ ∀ H, SqT K H a [.str "call", .str "ring", .str "name"]
  y_CALLS : ∃ a, mg "CALLS" = some (.ref a) ∧ ∃ o, K.lookup a = some o ∧ o.cls = .type "tuple" ∧ o.dict = none
  c_FIGURES : ∃ t, mg "FIGURES" = some (.str "0123456789" t)
  g_LETTERS : ∃ a, mg "LETTERS" = some (.ref a) ∧ ∀ H, SqT K H a [.str "a", .str "b", .str "c", .str "d"]
  y_LETTERS : ∃ a, mg "LETTERS" = some (.ref a) ∧ ∃ o, K.lookup a = some o ∧ o.cls = .type "tuple" ∧ o.dict = none
theorem txt_of {K : PySem.W.Frag} {w : World} {mg : Str → Option Value} {h h0 : Heap} (X : K.In h) (G : h.Ns mainGlobals mg) (c : He.SaysX fa fn tabs [] ex w h0 K) : Txt K w mg := by
  have m : ex K = true := c.more
  unfold ex at m
  simp only [Bool.and_eq_true] at m
  obtain ⟨⟨⟨⟨x0, x1⟩, x2⟩, x3⟩, x4⟩ := m
  exact {
    D_mark_of_text := by
      obtain ⟨fd, F⟩ := c.t.d.def_ 0 (d := d_mark_of_text) rfl
      exact ⟨_, fd, F, He.glo_ok X G (c.t.d.fact 0 (f := .glo "mark_of_text") rfl), F.bindsN fun _ _ _ _ _ _ us hl => match us, hl with | [_], _ => rfl⟩
    D_mark_of_number := by
      obtain ⟨fd, F⟩ := c.t.d.def_ 1 (d := d_mark_of_number) rfl
      exact ⟨_, fd, F, He.glo_ok X G (c.t.d.fact 1 (f := .glo "mark_of_number") rfl), F.bindsN fun _ _ _ _ _ _ us hl => match us, hl with | [_], _ => rfl⟩
    D_is_mark := by
      obtain ⟨fd, F⟩ := c.t.d.def_ 2 (d := d_is_mark) rfl
      exact ⟨_, fd, F, He.glo_ok X G (c.t.d.fact 2 (f := .glo "is_mark") rfl), F.bindsN fun _ _ _ _ _ _ us hl => match us, hl with | [_], _ => rfl⟩
    D_is_number_to := by
      obtain ⟨fd, F⟩ := c.t.d.def_ 3 (d := d_is_number_to) rfl
      exact ⟨_, fd, F, He.glo_ok X G (c.t.d.fact 3 (f := .glo "is_number_to") rfl), F.bindsN fun _ _ _ _ _ _ us hl => match us, hl with | [_, _], _ => rfl⟩
    D_is_term := by
      obtain ⟨fd, F⟩ := c.t.d.def_ 4 (d := d_is_term) rfl
      exact ⟨_, fd, F, He.glo_ok X G (c.t.d.fact 4 (f := .glo "is_term") rfl), F.bindsN fun _ _ _ _ _ _ us hl => match us, hl with | [_], _ => rfl⟩
    D_is_term_within := by
      obtain ⟨fd, F⟩ := c.t.d.def_ 5 (d := d_is_term_within) rfl
      exact ⟨_, fd, F, He.glo_ok X G (c.t.d.fact 5 (f := .glo "is_term_within") rfl), F.bindsN fun _ _ _ _ _ _ us hl => match us, hl with | [_, _], _ => rfl⟩
    D_is_headed := by
      obtain ⟨fd, F⟩ := c.t.d.def_ 6 (d := d_is_headed) rfl
      exact ⟨_, fd, F, He.glo_ok X G (c.t.d.fact 6 (f := .glo "is_headed") rfl), F.bindsN fun _ _ _ _ _ _ us hl => match us, hl with | [_], _ => rfl⟩
    D_is_parts := by
      obtain ⟨fd, F⟩ := c.t.d.def_ 7 (d := d_is_parts) rfl
      exact ⟨_, fd, F, He.glo_ok X G (c.t.d.fact 7 (f := .glo "is_parts") rfl), F.bindsN fun _ _ _ _ _ _ us hl => match us, hl with | [_], _ => rfl⟩
    D_parts_of := by
      obtain ⟨fd, F⟩ := c.t.d.def_ 8 (d := d_parts_of) rfl
      exact ⟨_, fd, F, He.glo_ok X G (c.t.d.fact 8 (f := .glo "parts_of") rfl), F.bindsN fun _ _ _ _ _ _ us hl => match us, hl with | [_], _ => rfl⟩
    D_terms_of := by
      obtain ⟨fd, F⟩ := c.t.d.def_ 9 (d := d_terms_of) rfl
      exact ⟨_, fd, F, He.glo_ok X G (c.t.d.fact 9 (f := .glo "terms_of") rfl), F.bindsN fun _ _ _ _ _ _ us hl => match us, hl with | [_], _ => rfl⟩
    D_deep_of := by
      obtain ⟨fd, F⟩ := c.t.d.def_ 10 (d := d_deep_of) rfl
      exact ⟨_, fd, F, He.glo_ok X G (c.t.d.fact 10 (f := .glo "deep_of") rfl), F.bindsN fun _ _ _ _ _ _ us hl => match us, hl with | [_], _ => rfl⟩
    D_size_of := by
      obtain ⟨fd, F⟩ := c.t.d.def_ 11 (d := d_size_of) rfl
      exact ⟨_, fd, F, He.glo_ok X G (c.t.d.fact 11 (f := .glo "size_of") rfl), F.bindsN fun _ _ _ _ _ _ us hl => match us, hl with | [_], _ => rfl⟩
    D_calls_of := by
      obtain ⟨fd, F⟩ := c.t.d.def_ 12 (d := d_calls_of) rfl
      exact ⟨_, fd, F, He.glo_ok X G (c.t.d.fact 12 (f := .glo "calls_of") rfl), F.bindsN fun _ _ _ _ _ _ us hl => match us, hl with | [_], _ => rfl⟩
    D_places_of := by
      obtain ⟨fd, F⟩ := c.t.d.def_ 13 (d := d_places_of) rfl
      exact ⟨_, fd, F, He.glo_ok X G (c.t.d.fact 13 (f := .glo "places_of") rfl), F.bindsN fun _ _ _ _ _ _ us hl => match us, hl with | [_], _ => rfl⟩
    D_term_text := by
      obtain ⟨fd, F⟩ := c.t.d.def_ 14 (d := d_term_text) rfl
      exact ⟨_, fd, F, He.glo_ok X G (c.t.d.fact 14 (f := .glo "term_text") rfl), F.bindsN fun _ _ _ _ _ _ us hl => match us, hl with | [_], _ => rfl⟩
    D_head_text := by
      obtain ⟨fd, F⟩ := c.t.d.def_ 15 (d := d_head_text) rfl
      exact ⟨_, fd, F, He.glo_ok X G (c.t.d.fact 15 (f := .glo "head_text") rfl), F.bindsN fun _ _ _ _ _ _ us hl => match us, hl with | [_], _ => rfl⟩
    D_term_in := by
      obtain ⟨fd, F⟩ := c.t.d.def_ 16 (d := d_term_in) rfl
      exact ⟨_, fd, F, He.glo_ok X G (c.t.d.fact 16 (f := .glo "term_in") rfl), F.bindsN fun _ _ _ _ _ _ us hl => match us, hl with | [_], _ => rfl⟩
    D_term_at := by
      obtain ⟨fd, F⟩ := c.t.d.def_ 17 (d := d_term_at) rfl
      exact ⟨_, fd, F, He.glo_ok X G (c.t.d.fact 17 (f := .glo "term_at") rfl), F.bindsN fun _ _ _ _ _ _ us hl => match us, hl with | [_, _, _], _ => rfl⟩
    D_bracket_at := by
      obtain ⟨fd, F⟩ := c.t.d.def_ 18 (d := d_bracket_at) rfl
      exact ⟨_, fd, F, He.glo_ok X G (c.t.d.fact 18 (f := .glo "bracket_at") rfl), F.bindsN fun _ _ _ _ _ _ us hl => match us, hl with | [_, _, _], _ => rfl⟩
    D_word_at := by
      obtain ⟨fd, F⟩ := c.t.d.def_ 19 (d := d_word_at) rfl
      exact ⟨_, fd, F, He.glo_ok X G (c.t.d.fact 19 (f := .glo "word_at") rfl), F.bindsN fun _ _ _ _ _ _ us hl => match us, hl with | [_, _], _ => rfl⟩
    D_leaf_of := by
      obtain ⟨fd, F⟩ := c.t.d.def_ 20 (d := d_leaf_of) rfl
      exact ⟨_, fd, F, He.glo_ok X G (c.t.d.fact 20 (f := .glo "leaf_of") rfl), F.bindsN fun _ _ _ _ _ _ us hl => match us, hl with | [_], _ => rfl⟩
    D_number_in := by
      obtain ⟨fd, F⟩ := c.t.d.def_ 21 (d := d_number_in) rfl
      exact ⟨_, fd, F, He.glo_ok X G (c.t.d.fact 21 (f := .glo "number_in") rfl), F.bindsN fun _ _ _ _ _ _ us hl => match us, hl with | [_], _ => rfl⟩
    D__law_box := by
      obtain ⟨fd, F⟩ := c.t.d.def_ 22 (d := d__law_box) rfl
      exact ⟨_, fd, F, He.glo_ok X G (c.t.d.fact 22 (f := .glo "_law_box") rfl), F.bindsN fun _ _ _ _ _ _ us hl => match us, hl with | [_, _], _ => rfl⟩
    D__law_take := by
      obtain ⟨fd, F⟩ := c.t.d.def_ 23 (d := d__law_take) rfl
      exact ⟨_, fd, F, He.glo_ok X G (c.t.d.fact 23 (f := .glo "_law_take") rfl), F.bindsN fun _ _ _ _ _ _ us hl => match us, hl with | [_, _], _ => rfl⟩
    D__law_folded := by
      obtain ⟨fd, F⟩ := c.t.d.def_ 24 (d := d__law_folded) rfl
      exact ⟨_, fd, F, He.glo_ok X G (c.t.d.fact 24 (f := .glo "_law_folded") rfl), F.bindsN fun _ _ _ _ _ _ us hl => match us, hl with | [_, _], _ => rfl⟩
    D__law_same := by
      obtain ⟨fd, F⟩ := c.t.d.def_ 25 (d := d__law_same) rfl
      exact ⟨_, fd, F, He.glo_ok X G (c.t.d.fact 25 (f := .glo "_law_same") rfl), F.bindsN fun _ _ _ _ _ _ us hl => match us, hl with | [_, _], _ => rfl⟩
    D__law_number := by
      obtain ⟨fd, F⟩ := c.t.d.def_ 26 (d := d__law_number) rfl
      exact ⟨_, fd, F, He.glo_ok X G (c.t.d.fact 26 (f := .glo "_law_number") rfl), F.bindsN fun _ _ _ _ _ _ us hl => match us, hl with | [_], _ => rfl⟩
    D__law_known := by
      obtain ⟨fd, F⟩ := c.t.d.def_ 27 (d := d__law_known) rfl
      exact ⟨_, fd, F, He.glo_ok X G (c.t.d.fact 27 (f := .glo "_law_known") rfl), F.bindsN fun _ _ _ _ _ _ us hl => match us, hl with | [_, _], _ => rfl⟩
    D__law_right := by
      obtain ⟨fd, F⟩ := c.t.d.def_ 28 (d := d__law_right) rfl
      exact ⟨_, fd, F, He.glo_ok X G (c.t.d.fact 28 (f := .glo "_law_right") rfl), F.bindsN fun _ _ _ _ _ _ us hl => match us, hl with | [_], _ => rfl⟩
    D_law := by
      obtain ⟨fd, F⟩ := c.t.d.def_ 29 (d := d_law) rfl
      exact ⟨_, fd, F, He.glo_ok X G (c.t.d.fact 29 (f := .glo "law") rfl), F.bindsN fun _ _ _ _ _ _ us hl => match us, hl with | [_], _ => rfl⟩
    z_range := He.free_ok X G (c.t.d.fact 30 (f := .free "range") rfl)
    z_all := He.free_ok X G (c.t.d.fact 31 (f := .free "all") rfl)
    z_isinstance := He.free_ok X G (c.t.d.fact 32 (f := .free "isinstance") rfl)
    z_str := He.free_ok X G (c.t.d.fact 33 (f := .free "str") rfl)
    z_len := He.free_ok X G (c.t.d.fact 34 (f := .free "len") rfl)
    z_int := He.free_ok X G (c.t.d.fact 35 (f := .free "int") rfl)
    z_bool := He.free_ok X G (c.t.d.fact 36 (f := .free "bool") rfl)
    z_tuple := He.free_ok X G (c.t.d.fact 37 (f := .free "tuple") rfl)
    z_max := He.free_ok X G (c.t.d.fact 38 (f := .free "max") rfl)
    z_sorted := He.free_ok X G (c.t.d.fact 39 (f := .free "sorted") rfl)
    z_abs := He.free_ok X G (c.t.d.fact 40 (f := .free "abs") rfl)
    z_divmod := He.free_ok X G (c.t.d.fact 41 (f := .free "divmod") rfl)
    z_list := He.free_ok X G (c.t.d.fact 42 (f := .free "list") rfl)
    z_enumerate := He.free_ok X G (c.t.d.fact 43 (f := .free "enumerate") rfl)
    z_zip := He.free_ok X G (c.t.d.fact 44 (f := .free "zip") rfl)
    c_SIGNS := He.str_ok X G (c.t.d.fact 45 (f := .str "SIGNS" "0123456789abcdefghijklmnopqrstuvwxyz #@();:") rfl)
    c_BASE := He.int_ok X G (c.t.d.fact 46 (f := .int "BASE" 36) rfl)
    c_MARK_LENGTH := He.int_ok X G (c.t.d.fact 47 (f := .int "MARK_LENGTH" 6) rfl)
    c_FIRST_NUMBER := He.int_ok X G (c.t.d.fact 48 (f := .int "FIRST_NUMBER" 7) rfl)
    c_FACTOR := He.int_ok X G (c.t.d.fact 49 (f := .int "FACTOR" 131) rfl)
    c_MODULUS := He.int_ok X G (c.t.d.fact 50 (f := .int "MODULUS" 998244353) rfl)
    c_LARGEST := He.int_ok X G (c.t.d.fact 51 (f := .int "LARGEST" 1000002) rfl)
    c_LAST_ARG := He.int_ok X G (c.t.d.fact 52 (f := .int "LAST_ARG" 3) rfl)
    c_LAST_PLACE := He.int_ok X G (c.t.d.fact 53 (f := .int "LAST_PLACE" 11) rfl)
    c_MOST_PARTS := He.int_ok X G (c.t.d.fact 54 (f := .int "MOST_PARTS" 4) rfl)
    c_DEEPEST := He.int_ok X G (c.t.d.fact 55 (f := .int "DEEPEST" 8) rfl)
    O := by
      obtain ⟨es, n, KD⟩ := c.t.tab 0 (t := (fun K => He.ga K "OPERATIONS", opWords)) rfl
      have e1 : tabs.map (fun t => He.dicW K (t.1 K)) = tabs.map fun t => some (He.keysIn w.params t.2) := congrArg (fun z : He.AlT => z.2) c.t
      have e2 : He.dicW K (He.ga K "OPERATIONS") = some (He.keysIn w.params opWords) := congrArg (fun l => l.getD 0 none) e1
      refine ⟨_, es, n, He.glo_ok X G (c.t.d.fact 56 (f := .glo "OPERATIONS") rfl), KD, fun z => isSome_mem e2 z, fun o => ?_⟩
      cases o
      · exact He.valsB_ok x0 (q := ("add", .int 2)) (by simp)
      · exact He.valsB_ok x0 (q := ("less", .int 2)) (by simp)
      · exact He.valsB_ok x0 (q := ("times", .int 2)) (by simp)
      · exact He.valsB_ok x0 (q := ("under", .int 2)) (by simp)
      · exact He.valsB_ok x0 (q := ("if", .int 3)) (by simp)
    g_CALLS := ⟨_, He.glo_ok X G (c.t.d.fact 57 (f := .glo "CALLS") rfl), fun H => He.tupB_ok (vs := [.str "call", .str "ring", .str "name"]) x1 H⟩
    y_CALLS := ⟨_, He.glo_ok X G (c.t.d.fact 57 (f := .glo "CALLS") rfl), tupN_ok x2⟩
    c_FIGURES := He.str_ok X G (c.t.d.fact 58 (f := .str "FIGURES" "0123456789") rfl)
    g_LETTERS := ⟨_, He.glo_ok X G (c.t.d.fact 59 (f := .glo "LETTERS") rfl), fun H => He.tupB_ok (vs := [.str "a", .str "b", .str "c", .str "d"]) x3 H⟩
    y_LETTERS := ⟨_, He.glo_ok X G (c.t.d.fact 59 (f := .glo "LETTERS") rfl), tupN_ok x4⟩
  }

end V


set_option Elab.async false
set_option linter.all false
set_option maxRecDepth 100000
set_option maxHeartbeats 400000
namespace V
open PySem PySem.Spec PyProof.Rows L2 Evl TL NumText
def IsP (p : Addr) : Addr → Prop := fun c => c = p
/-- the list p that is made, so far -/
structure Kst (H0 : Hp) (p : Addr) (H : Hp) (ws : List V) (ts : List Tm) : Prop where
  e : Ex H0 H
  n : H0 p = none
  l : H p = some (.lst ws)
  k : KnsAt (· = p) H ws ts
theorem Kst.add {H0 H H2 : Hp} {p : Addr} {ws : List V} {ts : List Tm} {v : V} {t : Tm} (s : Kst H0 p H ws ts) (e : Ex H H2) (k : KnAt (· = p) H2 v t) : Kst H0 p (upd H2 p (.lst (ws ++ [v]))) (ws ++ [v]) (ts ++ [t]) := by
  have b : But p H2 (upd H2 p (.lst (ws ++ [v]))) := But.upd (But.refl p H2)
  exact ⟨Ex.mut (s.e.trans e) s.n, s.n, upd_same, KnsAt.add (k.but (e _ _ s.l) b) (s.k.map fun v t h => (h.ex e).but (e _ _ s.l) b)⟩
theorem Kst.tu {H0 H H2 : Hp} {p : Addr} {ws : List V} {ts : List Tm} {v : V} (s : Kst H0 p H ws ts) (e : Ex H H2) : Tu H (upd H2 p (.lst (ws ++ [v]))) :=
  (Tu.of e).trans ((But.upd (But.refl p H2)).tu (e _ _ s.l))
theorem Kst.no {H0 H : Hp} {p : Addr} {ws : List V} {ts : List Tm} (s : Kst H0 p H ws ts) : ∀ c, c = p → H c ≠ none := fun c z => by
  rw [z, s.l]
  exact fun k => nomatch k
theorem Kst.up {H0 H H2 : Hp} {p : Addr} {ws : List V} {ts : List Tm} (s : Kst H0 p H ws ts) (e : Ex H H2) : Kst H0 p H2 ws ts :=
  ⟨s.e.trans e, s.n, e _ _ s.l, s.k.map fun v t h => h.ex e⟩
theorem Yl.txt {te : TE} {σ : L2.St} {H : Hp} {x y : Str} {m : Nat} (h : Yl te σ H (ShS x m)) (e : x = y) : Yl te σ H (ShS y m) := e ▸ h
theorem yl_go {te : TE} {σ : L2.St} {H : Hp} {R : Hp → V → Prop} {Q : VK} (h : Yl te σ H R) (k : ∀ H2 v, Ex H H2 → R H2 v → Q v H2) : te σ H Q := h H (Ex.refl H) Q k
theorem cons_go {A : TE} {B : TA} {σ : L2.St} {H : Hp} {Q : List V → Hp → Prop} (h : A σ H fun x H1 => B σ H1 fun xs H2 => Q (x :: xs) H2) : tCons A B σ H Q := h
theorem tup_go {A : TA} {σ : L2.St} {H : Hp} {Q : VK} (h : A σ H fun xs H1 => xs.length ≤ sizeLine ∧ ∀ p, H1 p = none → Q (.ref p) (upd H1 p (.tup xs))) : tTup A σ H Q := h
theorem lst_go {A : TA} {σ : L2.St} {H : Hp} {Q : VK} (h : A σ H fun xs H1 => xs.length ≤ sizeLine ∧ ∀ p, H1 p = none → Q (.ref p) (upd H1 p (.lst xs))) : tLst A σ H Q := h
theorem asg_go {te : TE} {g : TG} {D : Ends} {σ : L2.St} {H : Hp} (h : te σ H fun x H1 => g x σ H1 D.nx) : tAsg te g D σ H := h
theorem seq_go {t u : TS} {D : Ends} {σ : L2.St} {H : Hp} (h : t { D with nx := u D } σ H) : tSeq t u D σ H := h
def spKnown : Sp := fun vs H Q _ => ∃ n k : Nat, vs = [.int (n : Int), .int (k : Int)] ∧ n ≤ 1000002 ∧ k ≤ 3 ∧ ∀ (H' : Hp) (p : Addr) (ws : List V), Ex H H' → H' p = some (.lst ws) → KnsAt (· = p) H' ws (kn n k) → Q (.ref p) H'
theorem abcd_at : ∀ k : Nat, k ≤ 3 → ∃ c : Nat, atI ("abcd" : Str).cps.toList (k : Int) = some c ∧ (⟨#[c]⟩ : Str) = letter k
  | 0, _ => ⟨97, by decide +kernel, by decide +kernel⟩
  | 1, _ => ⟨98, by decide +kernel, by decide +kernel⟩
  | 2, _ => ⟨99, by decide +kernel, by decide +kernel⟩
  | 3, _ => ⟨100, by decide +kernel, by decide +kernel⟩
  | n + 4, h => by omega
theorem mk_empty {t : Tm} (h : t.marks = []) : ∀ x, x ∈ ([] : List Str) ↔ x ∈ t.marks := fun x => by rw [h]
/-- from A a statement goes on to B -/
def Hs (t : TS) (A B : L2.St → Hp → Prop) : Prop := ∀ (D : Ends) (σ : L2.St) (H : Hp), A σ H → (∀ σ' H', B σ' H' → D.nx σ' H') → t D σ H
theorem Hs.seq {t u : TS} {A B C : L2.St → Hp → Prop} (h1 : Hs t A B) (h2 : Hs u B C) : Hs (tSeq t u) A C := fun D σ H a k => h1 { D with nx := u D } σ H a fun σ' H' b => h2 D σ' H' b k
/-- .. and comes to an end -/
def He1 (t : TS) (A : L2.St → Hp → Prop) (Q : VK) : Prop := ∀ (D : Ends) (σ : L2.St) (H : Hp), A σ H → (∀ v H', Q v H' → D.rt v H') → t D σ H
theorem Hs.fin {t u : TS} {A B : L2.St → Hp → Prop} {Q : VK} (h1 : Hs t A B) (h2 : He1 u B Q) : He1 (tSeq t u) A Q := fun D σ H a k => h1 { D with nx := u D } σ H a fun σ' H' b => h2 D σ' H' b k
def OT (H : Hp) : Option V → Option Tm → Prop
  | none, none => True
  | some v, some t => TmAt H v t
  | _, _ => False
theorem OT.tu {H H' : Hp} (e : Tu H H') : ∀ {y : Option V} {o : Option Tm}, OT H y o → OT H' y o
  | none, none, h => h
  | some _, some _, h => TmAt.tu e h
def SK (H0 : Hp) (n k : Nat) (ts : List Tm) (o7 : Option Tm) (o8 : Option Str) (o9 : Option Tm) (o10 : Option Str) : L2.St → Hp → Prop := fun σ H => ∃ (va vn : V) (p : Addr) (ws : List V) (y7 y9 : Option V),
  σ = [some (.int (n : Int)), some (.int (k : Int)), some va, some vn, some (.str (letter k)), some (.str (nt n)), some (.ref p), y7, o8.map V.str, y9, o10.map V.str] ∧ TmAt H va (.arg k) ∧ TmAt H vn (.num n) ∧ OT H y7 o7 ∧ OT H y9 o9 ∧ Kst H0 p H ws ts
section
variable {P : Program} {w : World} {K : PySem.W.Frag} {mg : Str → Option Value} {base : Heap}
theorem ok_known (T : Txt K w mg) : Cal P w K mg base 1 "_law_known" ["n", "k"] spKnown := by
  refine T.D__law_known.cal sc__law_known (fun vs H Q E h => ?_) (fun f cdv A outer s H vs Q E hr h => ?_)
  · obtain ⟨n, k, rfl, _⟩ := h
    rfl
  obtain ⟨n, k, rfl, hn, hk, q⟩ := h
  refine ⟨_, (pss_cons (ps_asg (pe_tup (pa_cons (pe_tup (pa_cons pe_str (pa_cons (pv 1) pa_nil))) (pa_cons (pe_tup (pa_cons pe_str (pa_cons (pv 0) pa_nil))) (pa_cons (pe_ix ix_str pe_str (pv 1) (fun _ _ => rfl)) (pa_cons (pe_bt call_str_int T.z_str (pa_cons (pv 0) pa_nil)) pa_nil))))) (pg_tup rfl (pgs_cons (pg_name (i := 2) sc__law_known.nd rfl (.inl rfl)) (pgs_cons (pg_name (i := 3) sc__law_known.nd rfl (.inl rfl)) (pgs_cons (pg_name (i := 4) sc__law_known.nd rfl (.inl rfl)) (pgs_cons (pg_name (i := 5) sc__law_known.nd rfl (.inl rfl)) pgs_nil))))))
  (pss_cons (ps_set (i := 6) sc__law_known.nd rfl (.inl rfl) (pe_lst (pa_cons (pe_tup (pa_cons (pv 3) (pa_cons (pv 5) (pa_cons pe_int (pa_cons pe_int (pa_cons (pe_lst pa_nil) (pa_cons (pe_lst pa_nil) pa_nil))))))) (pa_cons (pe_tup (pa_cons (pv 2) (pa_cons (pv 4) (pa_cons pe_int (pa_cons pe_int (pa_cons (pe_lst pa_nil) (pa_cons (pe_lst pa_nil) pa_nil))))))) pa_nil))))
  (pss_cons (ps_expr (pe_bm PySem.F.plainAttrs_list PySem.F.slot_list_append PySem.F.type_list_append mt_append (pv 6) (pa_cons (pe_tup (pa_cons (pe_tup (pa_cons pe_str (pa_cons (pv 2) (pa_cons (pv 3) pa_nil)))) (pa_cons (pe_op op_add_str (pe_op op_add_str (pe_op op_add_str (pe_op op_add_str pe_str (pv 4)) pe_str) (pv 5)) pe_str) (pa_cons pe_int (pa_cons pe_int (pa_cons (pe_lst pa_nil) (pa_cons (pe_lst pa_nil) pa_nil))))))) pa_nil)))
  (pss_cons (ps_expr (pe_bm PySem.F.plainAttrs_list PySem.F.slot_list_append PySem.F.type_list_append mt_append (pv 6) (pa_cons (pe_tup (pa_cons (pe_tup (pa_cons pe_str (pa_cons (pv 3) (pa_cons (pv 2) pa_nil)))) (pa_cons (pe_op op_add_str (pe_op op_add_str (pe_op op_add_str (pe_op op_add_str pe_str (pv 5)) pe_str) (pv 4)) pe_str) (pa_cons pe_int (pa_cons pe_int (pa_cons (pe_lst pa_nil) (pa_cons (pe_lst pa_nil) pa_nil))))))) pa_nil)))
  (pss_cons (ps_expr (pe_bm PySem.F.plainAttrs_list PySem.F.slot_list_append PySem.F.type_list_append mt_append (pv 6) (pa_cons (pe_tup (pa_cons (pe_tup (pa_cons pe_str (pa_cons pe_int (pa_cons (pe_tup pa_nil) pa_nil)))) (pa_cons pe_str (pa_cons pe_int (pa_cons pe_int (pa_cons (pe_lst pa_nil) (pa_cons (pe_lst (pa_cons pe_int pa_nil)) pa_nil))))))) pa_nil)))
  (pss_cons (ps_expr (pe_bm PySem.F.plainAttrs_list PySem.F.slot_list_append PySem.F.type_list_append mt_append (pv 6) (pa_cons (pe_tup (pa_cons (pe_tup (pa_cons pe_str (pa_cons pe_str (pa_cons (pe_tup pa_nil) pa_nil)))) (pa_cons pe_str (pa_cons pe_int (pa_cons pe_int (pa_cons (pe_lst (pa_cons pe_str pa_nil)) (pa_cons (pe_lst pa_nil) pa_nil))))))) pa_nil)))
  (pss_cons (ps_set (i := 7) sc__law_known.nd rfl (.inl rfl) (pe_tup (pa_cons pe_str (pa_cons pe_str (pa_cons (pe_tup (pa_cons (pv 2) (pa_cons (pe_tup (pa_cons pe_str (pa_cons pe_int (pa_cons (pe_tup (pa_cons (pv 3) pa_nil)) pa_nil)))) (pa_cons (pe_tup (pa_cons pe_str (pa_cons pe_str (pa_cons (pe_tup pa_nil) pa_nil)))) (pa_cons (pe_tup (pa_cons pe_str (pa_cons pe_int (pa_cons (pe_tup pa_nil) pa_nil)))) pa_nil))))) pa_nil)))))
  (pss_cons (ps_set (i := 8) sc__law_known.nd rfl (.inl rfl) (pe_op op_add_str (pe_op op_add_str (pe_op op_add_str (pe_op op_add_str pe_str (pv 4)) pe_str) (pv 5)) pe_str))
  (pss_cons (ps_expr (pe_bm PySem.F.plainAttrs_list PySem.F.slot_list_append PySem.F.type_list_append mt_append (pv 6) (pa_cons (pe_tup (pa_cons (pv 7) (pa_cons (pv 8) (pa_cons pe_int (pa_cons pe_int (pa_cons (pe_lst (pa_cons pe_str (pa_cons pe_str pa_nil))) (pa_cons (pe_lst (pa_cons pe_int (pa_cons pe_int pa_nil))) pa_nil))))))) pa_nil)))
  (pss_cons (ps_set (i := 9) sc__law_known.nd rfl (.inl rfl) (pe_tup (pa_cons pe_str (pa_cons (pe_tup (pa_cons pe_str (pa_cons (pv 2) (pa_cons (pe_tup (pa_cons pe_str (pa_cons pe_int pa_nil))) pa_nil)))) (pa_cons (pe_tup (pa_cons pe_str (pa_cons pe_int (pa_cons (pe_tup (pa_cons (pe_tup (pa_cons pe_str (pa_cons pe_int (pa_cons (pe_tup (pa_cons (pv 2) pa_nil)) pa_nil)))) (pa_cons (pe_tup (pa_cons pe_str (pa_cons (pv 2) (pa_cons (pv 7) pa_nil)))) pa_nil))) pa_nil)))) (pa_cons (pv 7) pa_nil))))))
  (pss_cons (ps_set (i := 10) sc__law_known.nd rfl (.inl rfl) (pe_op op_add_str (pe_op op_add_str (pe_op op_add_str (pe_op op_add_str (pe_op op_add_str (pe_op op_add_str pe_str (pv 4)) pe_str) (pv 4)) pe_str) (pv 4)) pe_str))
  (pss_cons (ps_expr (pe_bm PySem.F.plainAttrs_list PySem.F.slot_list_append PySem.F.type_list_append mt_append (pv 6) (pa_cons (pe_tup (pa_cons (pv 9) (pa_cons (pe_op op_add_str (pe_op op_add_str (pe_op op_add_str (pe_op op_add_str (pv 10) (pv 8)) pe_str) (pv 8)) pe_str) (pa_cons pe_int (pa_cons pe_int (pa_cons (pe_lst (pa_cons pe_str (pa_cons pe_str pa_nil))) (pa_cons (pe_lst (pa_cons pe_int (pa_cons pe_int (pa_cons pe_int (pa_cons pe_int (pa_cons pe_int (pa_cons pe_int pa_nil))))))) pa_nil))))))) pa_nil)))
  (pss_one (ps_ret (pv 6))))))))))))))), ?_⟩
  obtain ⟨c, hc, ec⟩ := abcd_at k hk
  have ll : (letter k).length ≤ 1 := Nat.le_of_eq (letter_len hk)
  have ln : (nt n).length ≤ 7 := nt_len (by omega)
  have lc : (tCall n k).txt.length ≤ 100 := by
    have := txt_len (M := 11) (by decide) (tCall n k) (ok_tCall hn hk)
    rw [(mea_tCall n k).z] at this
    omega
  have lh : (("(if (less " : Str) ++ letter k ++ " 1) (@1 (@0 " ++ letter k ++ ") (times " ++ letter k ++ " ").length ≤ 35 := by
    simp only [str_len_append]
    have e1 : ("(if (less " : Str).length = 10 := by decide +kernel
    have e2 : (" 1) (@1 (@0 " : Str).length = 12 := by decide +kernel
    have e3 : (") (times " : Str).length = 9 := by decide +kernel
    have e4 : (" " : Str).length = 1 := by decide +kernel
    omega
  let A0 : L2.St → Hp → Prop := fun σ H' => σ = [some (.int (n : Int)), some (.int (k : Int)), none, none, none, none, none, none, none, none, none] ∧ H' = H
  let A1 : L2.St → Hp → Prop := fun σ H' => ∃ va vn, σ = [some (.int (n : Int)), some (.int (k : Int)), some va, some vn, some (.str (letter k)), some (.str (nt n)), none, none, none, none, none] ∧ Ex H H' ∧ TmAt H' va (.arg k) ∧ TmAt H' vn (.num n)
  refine (Hs.fin (A := A0) (B := A1) ?_ (Hs.fin (B := SK H n k [.num n, .arg k] none none none none) ?_ (Hs.fin (B := SK H n k ((kn n k).take 3) none none none none) ?_ (Hs.fin (B := SK H n k ((kn n k).take 4) none none none none) ?_
    (Hs.fin (B := SK H n k ((kn n k).take 5) none none none none) ?_ (Hs.fin (B := SK H n k ((kn n k).take 6) none none none none) ?_
    (Hs.fin (B := SK H n k ((kn n k).take 6) (some (tCall n k)) none none none) ?_ (Hs.fin (B := SK H n k ((kn n k).take 6) (some (tCall n k)) (some (tCall n k).txt) none none) ?_
    (Hs.fin (B := SK H n k ((kn n k).take 7) (some (tCall n k)) (some (tCall n k).txt) none none) ?_
    (Hs.fin (B := SK H n k ((kn n k).take 7) (some (tCall n k)) (some (tCall n k).txt) (some (tBig n k)) none) ?_
    (Hs.fin (B := SK H n k ((kn n k).take 7) (some (tCall n k)) (some (tCall n k).txt) (some (tBig n k)) (some (("(if (less " : Str) ++ letter k ++ " 1) (@1 (@0 " ++ letter k ++ ") (times " ++ letter k ++ " "))) ?_
    (Hs.fin (B := SK H n k (kn n k) (some (tCall n k)) (some (tCall n k).txt) (some (tBig n k)) (some (("(if (less " : Str) ++ letter k ++ " 1) (@1 (@0 " ++ letter k ++ ") (times " ++ letter k ++ " "))) ?_ (Q := Q) ?_)))))))))))) _ _ H ⟨rfl, rfl⟩ fun v H' h => h
  · rintro D σ H' ⟨rfl, rfl⟩ kk
    refine asg_go (tup_go (cons_go (yl_go (yl_arg (yl_varV (.int (k : Int)))) fun H1 va e1 r1 => ?_)))
    refine cons_go (yl_go (yl_num (yl_varV (.int (n : Int)))) fun H2 vn e2 r2 => ?_)
    refine ⟨_, rfl, "abcd", _, c, rfl, rfl, by decide +kernel, hc, _, rfl, _, rfl, log_small (by omega) (by omega), sz 4, fun q0 hq0 => ⟨q0, _, rfl, SqT.of upd_same, rfl, va, _, rfl, vn, _, rfl, _, _, rfl, _, _, rfl, rfl, kk _ _ ?_⟩⟩
    have e3 := Ex.new (o := .tup [va, vn, .str ⟨#[c]⟩, .str (nt n)]) hq0
    refine ⟨va, vn, ?_, e1.trans (e2.trans e3), TmAt.ex (TmAt.ex r1 e2) e3, TmAt.ex r2 e3⟩
    rw [← ec]
    rfl
  · rintro D σ H4 ⟨va, vn, rfl, e4, s2, s3⟩ kk
    refine asg_go (lst_go (cons_go (yl_go (yl_known (N := fun _ => False) (t := .num n) (ms := []) (fun _ z => z.elim) (g_num hn hk) (mea_num n) (yl_varT s3) (yl_varS (x := nt n) ln) ya_nil ya_nil rfl rfl rfl (by decide)) fun H5 v0 e5 k0 => ?_)))
    refine cons_go (yl_go (yl_known (N := fun _ => False) (t := .arg k) (ms := []) (fun _ z => z.elim) (g_arg hn hk) (mea_arg k) (yl_varT (s2.ex e5)) (yl_varS (x := letter k) ll) ya_nil ya_nil rfl rfl rfl (by decide)) fun H6 v1 e6 k1 => ?_)
    refine ⟨sz 2, fun p hp => kk _ _ ?_⟩
    have e7 : Ex H H6 := e4.trans (e5.trans e6)
    refine ⟨va, vn, p, _, none, none, rfl, s2.ex (e5.trans (e6.trans (Ex.new hp))), s3.ex (e5.trans (e6.trans (Ex.new hp))), trivial, trivial, e7.trans (Ex.new hp), ?_, upd_same, .cons ((k0.ex e6).new hp) (.cons (k1.new hp) .nil)⟩
    cases hw : H p with
    | none => rfl
    | some o =>
      rw [e7 _ _ hw] at hp
      cases hp
  · rintro D σ H1 ⟨va, vn, p, ws, y7, y9, rfl, a, m, c7, c9, st⟩ kk
    refine ⟨_, rfl, .inl ⟨rfl, _, SqL.of st.l⟩, cons_go (yl_go (yl_known (N := (· = p)) (t := (.node (.op .add) [.arg k, .num n])) (ms := []) st.no (g_add hn hk) (mea_tAdd n k)
      (yl_op .add (ya_t (yl_varT a) (ya_t (yl_varT m) ya_tnil)))
      (Yl.txt (yl_add (yl_add (yl_add (yl_add (yl_s "(add " 5) (yl_varS (x := letter k) ll)) (yl_s " " 1)) (yl_varS (x := nt n) ln)) (yl_s ")" 1)) (txt_add n k)) ya_nil ya_nil rfl rfl rfl (by decide)) fun H2 v e kv => ⟨p, ws, v, rfl, rfl, e _ _ st.l, small1000 (by rw [st.k.len]; show (2 : Nat) ≤ 1000; decide), kk _ _ ?_⟩)⟩
    have tu := st.tu (v := v) e
    exact ⟨va, vn, p, _, y7, y9, rfl, a.tu tu, m.tu tu, c7.tu tu, c9.tu tu, st.add e kv⟩
  · rintro D σ H1 ⟨va, vn, p, ws, y7, y9, rfl, a, m, c7, c9, st⟩ kk
    refine ⟨_, rfl, .inl ⟨rfl, _, SqL.of st.l⟩, cons_go (yl_go (yl_known (N := (· = p)) (t := (.node (.op .under) [.num n, .arg k])) (ms := []) st.no (g_under hn hk) (mea_tUnder n k)
      (yl_op .under (ya_t (yl_varT m) (ya_t (yl_varT a) ya_tnil)))
      (Yl.txt (yl_add (yl_add (yl_add (yl_add (yl_s "(under " 7) (yl_varS (x := nt n) ln)) (yl_s " " 1)) (yl_varS (x := letter k) ll)) (yl_s ")" 1)) (txt_under n k)) ya_nil ya_nil rfl rfl rfl (by decide)) fun H2 v e kv => ⟨p, ws, v, rfl, rfl, e _ _ st.l, small1000 (by rw [st.k.len]; show (3 : Nat) ≤ 1000; decide), kk _ _ ?_⟩)⟩
    have tu := st.tu (v := v) e
    exact ⟨va, vn, p, _, y7, y9, rfl, a.tu tu, m.tu tu, c7.tu tu, c9.tu tu, st.add e kv⟩
  · rintro D σ H1 ⟨va, vn, p, ws, y7, y9, rfl, a, m, c7, c9, st⟩ kk
    refine ⟨_, rfl, .inl ⟨rfl, _, SqL.of st.l⟩, cons_go (yl_go (yl_known (N := (· = p)) (t := (.node (.ring 0) [])) (ms := []) st.no g_ring mea_tRing
      (yl_ring 0 ya_tnil)
      (Yl.txt (yl_s "(@0)" 4) txt_ring0) ya_nil (ya_v ya_nil) rfl rfl rfl (by decide)) fun H2 v e kv => ⟨p, ws, v, rfl, rfl, e _ _ st.l, small1000 (by rw [st.k.len]; show (4 : Nat) ≤ 1000; decide), kk _ _ ?_⟩)⟩
    have tu := st.tu (v := v) e
    exact ⟨va, vn, p, _, y7, y9, rfl, a.tu tu, m.tu tu, c7.tu tu, c9.tu tu, st.add e kv⟩
  · rintro D σ H1 ⟨va, vn, p, ws, y7, y9, rfl, a, m, c7, c9, st⟩ kk
    refine ⟨_, rfl, .inl ⟨rfl, _, SqL.of st.l⟩, cons_go (yl_go (yl_known (N := (· = p)) (t := (.node (.call "000000") [])) (ms := ["000000"]) st.no g_call0 mea_tCall0
      (yl_call "000000" ya_tnil)
      (Yl.txt (yl_s "(#000000)" 9) txt_call0) (ya_v ya_nil) ya_nil rfl rfl rfl (by decide)) fun H2 v e kv => ⟨p, ws, v, rfl, rfl, e _ _ st.l, small1000 (by rw [st.k.len]; show (5 : Nat) ≤ 1000; decide), kk _ _ ?_⟩)⟩
    have tu := st.tu (v := v) e
    exact ⟨va, vn, p, _, y7, y9, rfl, a.tu tu, m.tu tu, c7.tu tu, c9.tu tu, st.add e kv⟩
  · rintro D σ H1 ⟨va, vn, p, ws, y7, y9, rfl, a, m, c7, c9, st⟩ kk
    refine asg_go (yl_go (yl_call "zz9z0a" (ya_t (yl_varT a) (ya_t (yl_ring 11 (ya_t (yl_varT m) ya_tnil)) (ya_t (yl_call "b00000" ya_tnil) (ya_t (yl_ring 2 ya_tnil) ya_tnil))))) fun H2 v e r => kk _ _ ?_)
    exact ⟨va, vn, p, ws, some v, y9, rfl, TmAt.ex a e, TmAt.ex m e, r, c9.tu (Tu.of e), st.up e⟩
  · rintro D σ H1 ⟨va, vn, p, ws, y7, y9, rfl, a, m, c7, c9, st⟩ kk
    refine asg_go (yl_go (Yl.txt (yl_add (yl_add (yl_add (yl_add (yl_s "(#zz9z0a " 9) (yl_varS (x := letter k) ll)) (yl_s " (@11 " 6)) (yl_varS (x := nt n) ln)) (yl_s ") (#b00000) (@2))" 17)) (txt_call n k)) fun H2 v e r => kk _ _ ?_)
    obtain ⟨r1, r2⟩ := r
    exact ⟨va, vn, p, ws, y7, y9, by rw [r1]; rfl, TmAt.ex a e, TmAt.ex m e, c7.tu (Tu.of e), c9.tu (Tu.of e), st.up e⟩
  · rintro D σ H1 ⟨va, vn, p, ws, y7, y9, rfl, a, m, c7, c9, st⟩ kk
    obtain ⟨vc, rfl⟩ : ∃ vc, y7 = some vc := by
      cases y7 with
      | none => exact c7.elim
      | some vc => exact ⟨vc, rfl⟩
    have tc : TmAt H1 vc (tCall n k) := c7
    refine ⟨_, rfl, .inl ⟨rfl, _, SqL.of st.l⟩, cons_go (yl_go (yl_known (N := (· = p)) (t := tCall n k) (ms := ["b00000", "zz9z0a"]) st.no (g_call hn hk) (mea_tCall n k)
      (yl_varT tc) (yl_varS (x := (tCall n k).txt) lc) (ya_v (ya_v ya_nil)) (ya_v (ya_v ya_nil)) rfl rfl rfl (by decide)) fun H2 v e kv => ⟨p, ws, v, rfl, rfl, e _ _ st.l, small1000 (by rw [st.k.len]; show (6 : Nat) ≤ 1000; decide), kk _ _ ?_⟩)⟩
    have tu := st.tu (v := v) e
    exact ⟨va, vn, p, _, some vc, y9, rfl, a.tu tu, m.tu tu, tc.tu tu, c9.tu tu, st.add e kv⟩
  · rintro D σ H1 ⟨va, vn, p, ws, y7, y9, rfl, a, m, c7, c9, st⟩ kk
    obtain ⟨vc, rfl⟩ : ∃ vc, y7 = some vc := by
      cases y7 with
      | none => exact c7.elim
      | some vc => exact ⟨vc, rfl⟩
    have tc : TmAt H1 vc (tCall n k) := c7
    refine asg_go (yl_go (yl_op .cond (ya_t (yl_op .less (ya_t (yl_varT a) (ya_t (yl_num (n := 1) (yl_c _)) ya_tnil))) (ya_t (yl_ring 1 (ya_t (yl_ring 0 (ya_t (yl_varT a) ya_tnil)) (ya_t (yl_op .times (ya_t (yl_varT a) (ya_t (yl_varT tc) ya_tnil))) ya_tnil))) (ya_t (yl_varT tc) ya_tnil)))) fun H2 v e r => kk _ _ ?_)
    exact ⟨va, vn, p, ws, some vc, some v, rfl, TmAt.ex a e, TmAt.ex m e, TmAt.ex tc e, r, st.up e⟩
  · rintro D σ H1 ⟨va, vn, p, ws, y7, y9, rfl, a, m, c7, c9, st⟩ kk
    refine asg_go (yl_go (yl_add (yl_add (yl_add (yl_add (yl_add (yl_add (yl_s "(if (less " 10) (yl_varS (x := letter k) ll)) (yl_s " 1) (@1 (@0 " 12)) (yl_varS (x := letter k) ll)) (yl_s ") (times " 9)) (yl_varS (x := letter k) ll)) (yl_s " " 1)) fun H2 v e r => kk _ _ ?_)
    obtain ⟨r1, r2⟩ := r
    exact ⟨va, vn, p, ws, y7, y9, by rw [r1]; rfl, TmAt.ex a e, TmAt.ex m e, c7.tu (Tu.of e), c9.tu (Tu.of e), st.up e⟩
  · rintro D σ H1 ⟨va, vn, p, ws, y7, y9, rfl, a, m, c7, c9, st⟩ kk
    obtain ⟨vb, rfl⟩ : ∃ vb, y9 = some vb := by
      cases y9 with
      | none => exact c9.elim
      | some vb => exact ⟨vb, rfl⟩
    have tb : TmAt H1 vb (tBig n k) := c9
    refine ⟨_, rfl, .inl ⟨rfl, _, SqL.of st.l⟩, cons_go (yl_go (yl_known (N := (· = p)) (t := tBig n k) (ms := ["b00000", "zz9z0a"]) st.no (g_big hn hk) (mea_tBig n k)
      (yl_varT tb) (Yl.txt (yl_add (yl_add (yl_add (yl_add (yl_varS (m := 35) lh) (yl_varS (x := (tCall n k).txt) lc)) (yl_s ")) " 3)) (yl_varS (x := (tCall n k).txt) lc)) (yl_s ")" 1)) (txt_big n k)) (ya_v (ya_v ya_nil)) (ya_v (ya_v (ya_v (ya_v (ya_v (ya_v ya_nil)))))) rfl rfl rfl (by decide)) fun H2 v e kv => ⟨p, ws, v, rfl, rfl, e _ _ st.l, small1000 (by rw [st.k.len]; show (7 : Nat) ≤ 1000; decide), kk _ _ ?_⟩)⟩
    have tu := st.tu (v := v) e
    exact ⟨va, vn, p, _, y7, some vb, rfl, a.tu tu, m.tu tu, c7.tu tu, tb.tu tu, st.add e kv⟩
  · rintro D σ H1 ⟨va, vn, p, ws, y7, y9, rfl, a, m, c7, c9, st⟩ kk
    exact ⟨_, rfl, kk _ _ (q H1 p ws st.e st.l st.k)⟩
end
end V


set_option Elab.async false
set_option linter.all false
set_option maxRecDepth 100000
set_option maxHeartbeats 4000000
namespace V
open PySem PySem.Spec PyProof.Rows L2 Evl TL NumText
/-! ### alike, kind by kind -/
inductive DepN : Nat → PyData → Prop where
  | int {n : Nat} (i : Int) : DepN (n + 1) (.int i)
  | str {n : Nat} (x : Str) : DepN (n + 1) (.str x)
  | lst {n : Nat} {ds : List PyData} : ds.length ≤ 1000 → (∀ d ∈ ds, DepN n d) → DepN (n + 1) (.list ds)
  | tup {n : Nat} {ds : List PyData} : ds.length ≤ 1000 → (∀ d ∈ ds, DepN n d) → DepN (n + 1) (.tuple ds)
theorem DepN.up : ∀ {n m : Nat} {d : PyData}, DepN n d → n ≤ m → DepN m d
  | n + 1, m + 1, _, .int i, h => .int i
  | n + 1, m + 1, _, .str i, h => .str i
  | n + 1, m + 1, _, .lst l k, h => .lst l fun d hd => (k d hd).up (Nat.le_of_succ_le_succ h)
  | n + 1, m + 1, _, .tup l k, h => .tup l fun d hd => (k d hd).up (Nat.le_of_succ_le_succ h)
def isLstD : PyData → Bool
  | .list _ => true
  | _ => false
theorem kit_lst : ∀ d : PyData, kitB (kind d) "list" = some (isLstD d)
  | .none => (by decide +kernel : kitB "NoneType" "list" = some false)
  | .bool _ => (by decide +kernel : kitB "bool" "list" = some false)
  | .int _ => (by decide +kernel : kitB "int" "list" = some false)
  | .str _ => (by decide +kernel : kitB "str" "list" = some false)
  | .list _ => (by decide +kernel : kitB "list" "list" = some true)
  | .tuple _ => (by decide +kernel : kitB "tuple" "list" = some false)
  | .dict _ => (by decide +kernel : kitB "dict" "list" = some false)
theorem kit_two (K : PySem.W.Frag) (d : PyData) : PySem.W.kitAny K (.type (kind d)) [.type "list", .type "tuple"] = some (isLstD d || isTupD d) := by
  refine kitAny_cons (kit_ty (kit_lst d)) (fun h => ?_) (fun h => by rw [h]; rfl)
  rw [h]
  refine kitAny_cons (kit_ty (kit_tup d)) (fun h => ?_) (fun h => by rw [h]; rfl)
  rw [h]
  rfl
theorem walk_zip2 {K : PySem.W.Frag} {a b : Addr} {us ws : List V} (hl : us.length = ws.length) : Walk (RZ.ItzT K a b) us.length (fun H => SqT K H a us ∧ SqT K H b ws) (YPair (fun i => us[i]?) (fun i => ws[i]?)) := by
  refine ⟨fun i _ hi g => ?_, fun _ g => ⟨us, ws, g.1, g.2, .inl (Nat.le_refl _)⟩, fun i H v H' _ g e => ?_⟩
  · exact ⟨us, ws, us[i], ws[i]'(by omega), g.1, g.2, List.getElem?_eq_getElem hi, List.getElem?_eq_getElem (by omega)⟩
  · obtain ⟨t, u, c, k1, k2, k3, k4, k5⟩ := e
    exact ⟨t, u, c, k1, k2, k3, k4 us g.1, k5 ws g.2⟩
def spSame (K : PySem.W.Frag) (n : Nat) : Sp := fun vs H Q _ => ∃ (v w : V) (d : PyData), vs = [v, w] ∧ Dp K H v d ∧ Dp K H w d ∧ DepN n d ∧ ∀ (H' : Hp), Ex H H' → Q (.bl true) H'
end V


set_option Elab.async false
set_option linter.all false
set_option maxRecDepth 100000
set_option maxHeartbeats 4000000
namespace V
open PySem PySem.Spec PyProof.Rows L2 Evl TL NumText
def spTermAt (n : Nat) : Sp := fun vs H Q _ => ∃ (z : Str) (a b : List Nat) (t : Tm) (d M : Nat), vs = [.str z, .int (a.length : Int), .int (d : Int)] ∧ z.length ≤ 1000000 ∧ tl z = a ++ (tl t.txt ++ b) ∧
  (∀ c, b.head? = some c → c ∈ stops) ∧ t.Ok M ∧ M ≤ 1000000 ∧ t.deep ≤ d ∧ d ≤ n ∧
  ∀ (H' : Hp) (p : Addr) (v : V), Ex H H' → H' p = some (.tup [v, .int ((a.length + t.txt.length : Nat) : Int)]) → TmAt H' v t → Q (.ref p) H'
def spBracketAt (n : Nat) : Sp := fun vs H Q _ => ∃ (z : Str) (a b : List Nat) (h : Hd) (ts : List Tm) (d M : Nat), vs = [.str z, .int (a.length : Int), .int (d : Int)] ∧ z.length ≤ 1000000 ∧ tl z = a ++ (tl (Tm.node h ts).txt ++ b) ∧
  (Tm.node h ts).Ok M ∧ M ≤ 1000000 ∧ (Tm.node h ts).deep ≤ d ∧ d ≤ n ∧
  ∀ (H' : Hp) (p : Addr) (v : V), Ex H H' → H' p = some (.tup [v, .int ((a.length + (Tm.node h ts).txt.length : Nat) : Int)]) → TmAt H' v (.node h ts) → Q (.ref p) H'
theorem eq_sign {c : Nat} {s : Str} {d : Nat} (h : s = ⟨#[d]⟩) : decide (V.str ⟨#[c]⟩ = V.str s) = decide (c = d) := by
  subst h
  rw [eq_word, decide_eq_decide]
  refine ⟨fun e => ?_, fun e => by rw [e]⟩
  have := congrArg tl e
  exact (List.cons.inj this).1
section
variable {P : Program} {w : World} {K : PySem.W.Frag} {mg : Str → Option Value} {base : Heap}
def spTermIn (K : PySem.W.Frag) : Sp := fun vs H Q _ => ∃ (t : Tm) (M : Nat), vs = [.str t.txt] ∧ t.txt.length ≤ 1000000 ∧ t.Ok M ∧ M ≤ 11 ∧ t.deep ≤ 8 ∧ ∀ (H' : Hp) (v : V), Ex H H' → TmAt H' v t → Q v H'
end
end V


set_option Elab.async false
set_option linter.all false
set_option maxRecDepth 100000
set_option maxHeartbeats 4000000
namespace V
open PySem PySem.Spec PyProof.Rows L2 Evl TL NumText
/-! ### terms as data -/
mutual
def Tm.py : Tm → PyData
  | .num n => .tuple [.str "num", .int (n : Int)]
  | .arg k => .tuple [.str "arg", .int (k : Int)]
  | .node h ts => match h with
    | .op o => .tuple (.str o.str :: Tm.pys ts)
    | .call m => .tuple [.str "call", .str m, .tuple (Tm.pys ts)]
    | .ring p => .tuple [.str "ring", .int (p : Int), .tuple (Tm.pys ts)]
def Tm.pys : List Tm → List PyData
  | [] => []
  | t :: ts => t.py :: Tm.pys ts
end
theorem pys_map (ts : List Tm) : Tm.pys ts = ts.map Tm.py := by
  induction ts with
  | nil => rfl
  | cons t ts ih =>
    show t.py :: Tm.pys ts = t.py :: ts.map Tm.py
    rw [ih]
section
variable {K : PySem.W.Frag} {H : Hp}
mutual
theorem TmAt.dp : ∀ {v : V} {t : Tm}, TmAt H v t → Dp K H v t.py
  | _, _, .num h => .tup (SqT.of h) (.cons (.str _) (.cons (.int _) .nil))
  | _, _, .arg h => .tup (SqT.of h) (.cons (.str _) (.cons (.int _) .nil))
  | _, _, .op h hs => .tup (SqT.of h) (.cons (.str _) hs.dp)
  | _, _, .call h hp hs => .tup (SqT.of h) (.cons (.str _) (.cons (.str _) (.cons (.tup (SqT.of hp) hs.dp) .nil)))
  | _, _, .ring h hp hs => .tup (SqT.of h) (.cons (.str _) (.cons (.int _) (.cons (.tup (SqT.of hp) hs.dp) .nil)))
theorem TmsAt.dp : ∀ {vs : List V} {ts : List Tm}, TmsAt H vs ts → DpAll K H vs (Tm.pys ts)
  | _, _, .nil => .nil
  | _, _, .cons h hs => .cons h.dp hs.dp
end
end
theorem mk_in {m : Str} (h : isMk m) : isMarkD (.str m) = true := by
  show (m.length == 6 && m.cps.toList.all fun c => decide (c ∈ sgM.cps.toList)) = true
  rw [h.1]
  show (m.cps.toList.all fun c => decide (c ∈ sgM.cps.toList)) = true
  rw [List.all_eq_true]
  intro c hc
  have r := h.2 c hc
  have all : ∀ c : Nat, c < 123 → ((48 ≤ c ∧ c ≤ 57) ∨ (97 ≤ c ∧ c ≤ 122)) → c ∈ sgM.cps.toList := by decide +kernel
  exact decide_eq_true (all c (by omega) r)
theorem headD_eq (z : Str) (r : List PyData) : headD (.tuple (.str z :: r)) = if z ∈ opWords then decide (r.length = arOf z) else if z = "num" then one1 (isNumD 1000002) r else if z = "arg" then one1 (isNumD 3) r
    else if z = "call" then two2 isMarkD isPartsD r else if z = "ring" then two2 (isNumD 11) isPartsD r else false := rfl
theorem headD_num (r : List PyData) : headD (.tuple (.str "num" :: r)) = one1 (isNumD 1000002) r := by
  rw [headD_eq, if_neg (by decide +kernel), if_pos rfl]
theorem headD_arg (r : List PyData) : headD (.tuple (.str "arg" :: r)) = one1 (isNumD 3) r := by
  rw [headD_eq, if_neg (by decide +kernel), if_neg (by decide +kernel), if_pos rfl]
theorem headD_call (r : List PyData) : headD (.tuple (.str "call" :: r)) = two2 isMarkD isPartsD r := by
  rw [headD_eq, if_neg (by decide +kernel), if_neg (by decide +kernel), if_neg (by decide +kernel), if_pos rfl]
theorem headD_ring (r : List PyData) : headD (.tuple (.str "ring" :: r)) = two2 (isNumD 11) isPartsD r := by
  rw [headD_eq, if_neg (by decide +kernel), if_neg (by decide +kernel), if_neg (by decide +kernel), if_neg (by decide +kernel), if_pos rfl]
theorem Hd.ok.up {M M' n : Nat} (h : M ≤ M') {hd : Hd} (k : hd.ok M n) : hd.ok M' n := by
  cases hd with
  | op o => exact k
  | call m => exact k
  | ring p => exact ⟨Nat.le_trans k.1 h, k.2⟩
theorem Tm.Ok.up {M M' : Nat} (h : M ≤ M') : ∀ {t : Tm}, t.Ok M → t.Ok M'
  | _, .num k => .num k
  | _, .arg k => .arg k
  | _, .node k ks => .node (k.up h) fun t ht => (ks t ht).up h
theorem headD_op {z : Str} (h : z ∈ opWords) (r : List PyData) : headD (.tuple (.str z :: r)) = decide (r.length = arOf z) := if_pos h
theorem partsD_op {z : Str} (h : z ∈ opWords) (r : List PyData) : partsD (.tuple (.str z :: r)) = r := if_pos h
theorem partsD_no {z : Str} (h : z ∉ opWords) (r : List PyData) : partsD (.tuple (.str z :: r)) = second r := if_neg h
theorem py_isTm : ∀ (n : Nat) (t : Tm), t.Ok 11 → t.deep ≤ n → isTm n t.py = true
  | 0, t, _, h => by
    have := deep_pos t
    omega
  | n + 1, t, k, h => by
    cases k with
    | @num m hm =>
      show (headD (.tuple [.str "num", .int (m : Int)]) && (partsD (.tuple [.str "num", .int (m : Int)])).all (isTm n)) = true
      have e1 : headD (.tuple [.str "num", .int (m : Int)]) = (decide (0 ≤ (m : Int)) && decide ((m : Int) ≤ 1000002)) := by
        exact headD_num _
      have e2 : partsD (.tuple [.str "num", .int (m : Int)]) = [] := by
        exact partsD_no (by decide +kernel) _
      rw [e1, e2, decide_eq_true (by omega), decide_eq_true (by omega)]
      rfl
    | @arg m hm =>
      show (headD (.tuple [.str "arg", .int (m : Int)]) && (partsD (.tuple [.str "arg", .int (m : Int)])).all (isTm n)) = true
      have e1 : headD (.tuple [.str "arg", .int (m : Int)]) = (decide (0 ≤ (m : Int)) && decide ((m : Int) ≤ 3)) := by
        exact headD_arg _
      have e2 : partsD (.tuple [.str "arg", .int (m : Int)]) = [] := by
        exact partsD_no (by decide +kernel) _
      rw [e1, e2, decide_eq_true (by omega), decide_eq_true (by omega)]
      rfl
    | @node hd ts hok hks =>
      have hdl : ∀ u ∈ ts, u.deep ≤ n := fun u hu => by
        have : u.deep + 1 ≤ (Tm.node hd ts).deep := parts_deep (t := .node hd ts) hu
        omega
      have rest : (Tm.pys ts).all (isTm n) = true := by
        rw [pys_map, List.all_map, List.all_eq_true]
        exact fun u hu => py_isTm n u (hks u hu) (hdl u hu)
      have len : (Tm.pys ts).length = ts.length := by rw [pys_map, List.length_map]
      show (headD (Tm.node hd ts).py && (partsD (Tm.node hd ts).py).all (isTm n)) = true
      cases hd with
      | op o =>
        have io : o.str ∈ opWords := by cases o <;> decide +kernel
        have e1 : headD (Tm.node (.op o) ts).py = true := by
          refine (headD_op io _).trans ?_
          rw [len]
          refine decide_eq_true ?_
          have : ts.length = o.ar := hok
          rw [this]
          cases o <;> decide +kernel
        have e2 : partsD (Tm.node (.op o) ts).py = Tm.pys ts := partsD_op io _
        rw [e1, e2, rest]
        rfl
      | call m =>
        have e1 : headD (Tm.node (.call m) ts).py = true := by
          refine (headD_call _).trans ?_
          show (isMarkD (.str m) && decide ((Tm.pys ts).length ≤ 4)) = true
          rw [mk_in hok.1, len, decide_eq_true hok.2]
          rfl
        have e2 : partsD (Tm.node (.call m) ts).py = Tm.pys ts := partsD_no (by decide +kernel) _
        rw [e1, e2, rest]
        rfl
      | ring p =>
        have e1 : headD (Tm.node (.ring p) ts).py = true := by
          refine (headD_ring _).trans ?_
          show ((decide (0 ≤ (p : Int)) && decide ((p : Int) ≤ 11)) && decide ((Tm.pys ts).length ≤ 4)) = true
          have hp : p ≤ 11 := hok.1
          rw [decide_eq_true (by omega), decide_eq_true (by omega), len, decide_eq_true hok.2]
          rfl
        have e2 : partsD (Tm.node (.ring p) ts).py = Tm.pys ts := partsD_no (by decide +kernel) _
        rw [e1, e2, rest]
        rfl
theorem py_small : ∀ {M : Nat} (t : Tm), t.Ok M → Small t.py
  | M, t, k => by
    have w : ∀ x : Str, x.length ≤ 5 → Small (.str x) := fun x h => .str (by omega)
    have two : ∀ {a b : PyData}, Small a → Small b → Small (.tuple [a, b]) := fun ha hb => .tup (by show 2 ≤ 1000; omega) fun d hd => by
      rcases List.mem_cons.mp hd with rfl | hd
      · exact ha
      · rw [List.mem_singleton.mp hd]
        exact hb
    have three : ∀ {a b c : PyData}, Small a → Small b → Small c → Small (.tuple [a, b, c]) := fun ha hb hc => .tup (by show 3 ≤ 1000; omega) fun d hd => by
      rcases List.mem_cons.mp hd with rfl | hd
      · exact ha
      rcases List.mem_cons.mp hd with rfl | hd
      · exact hb
      · rw [List.mem_singleton.mp hd]
        exact hc
    cases k with
    | num _ => exact two (w _ (by decide +kernel)) (.int _)
    | arg _ => exact two (w _ (by decide +kernel)) (.int _)
    | @node hd ts hok hks =>
      have le := hok.le
      have rest : ∀ d ∈ Tm.pys ts, Small d := fun d hd => by
        rw [pys_map] at hd
        obtain ⟨u, hu, rfl⟩ := List.mem_map.mp hd
        exact py_small u (hks u hu)
      have len : (Tm.pys ts).length = ts.length := by rw [pys_map, List.length_map]
      have pt : Small (.tuple (Tm.pys ts)) := .tup (by omega) rest
      cases hd with
      | op o =>
        refine .tup (by rw [List.length_cons]; omega) fun d hd => ?_
        rcases List.mem_cons.mp hd with rfl | hd
        · exact w _ (by cases o <;> decide +kernel)
        · exact rest d hd
      | call m => exact three (w _ (by decide +kernel)) (.str (by rw [hok.1.1]; decide)) pt
      | ring p => exact three (w _ (by decide +kernel)) (.int _) pt
end V


set_option Elab.async false
set_option linter.all false
set_option maxRecDepth 100000
set_option maxHeartbeats 400000
namespace V
open PySem PySem.Spec PyProof.Rows L2 Evl TL NumText
theorem pys_dep {n : Nat} (ts : List Tm) (h : ∀ t ∈ ts, DepN n t.py) : ∀ d ∈ Tm.pys ts, DepN n d := fun d hd => by
  rw [pys_map] at hd
  obtain ⟨t, ht, rfl⟩ := List.mem_map.mp hd
  exact h t ht
theorem py_dep : ∀ (n M : Nat) (t : Tm), t.Ok M → t.deep ≤ n → DepN (2 * n) t.py
  | 0, _, t, _, h => by
    have := deep_pos t
    omega
  | n + 1, M, t, k, h => by
    have flat2 : ∀ {a b : PyData}, DepN (2 * n + 1) a → DepN (2 * n + 1) b → DepN (2 * (n + 1)) (.tuple [a, b]) := fun ha hb => .tup (by show 2 ≤ 1000; omega) fun d hd => by
      rcases List.mem_cons.mp hd with rfl | hd
      · exact ha
      · rw [List.mem_singleton.mp hd]
        exact hb
    have flat3 : ∀ {a b c : PyData}, DepN (2 * n + 1) a → DepN (2 * n + 1) b → DepN (2 * n + 1) c → DepN (2 * (n + 1)) (.tuple [a, b, c]) := fun ha hb hc => .tup (by show 3 ≤ 1000; omega) fun d hd => by
      rcases List.mem_cons.mp hd with rfl | hd
      · exact ha
      rcases List.mem_cons.mp hd with rfl | hd
      · exact hb
      · rw [List.mem_singleton.mp hd]
        exact hc
    cases k with
    | num _ => exact flat2 (.str _) (.int _)
    | arg _ => exact flat2 (.str _) (.int _)
    | @node hd ts hok hks =>
      have le := hok.le
      have each : ∀ u ∈ ts, DepN (2 * n) u.py := fun u hu => by
        have : u.deep + 1 ≤ (Tm.node hd ts).deep := parts_deep (t := .node hd ts) hu
        exact py_dep n M u (hks u hu) (by omega)
      have len : (Tm.pys ts).length = ts.length := by rw [pys_map, List.length_map]
      have pt : DepN (2 * n + 1) (.tuple (Tm.pys ts)) := .tup (by omega) (pys_dep ts each)
      cases hd with
      | op o =>
        refine .tup (by rw [List.length_cons]; omega) fun d hd => ?_
        rcases List.mem_cons.mp hd with rfl | hd
        · exact .str _
        · exact (pys_dep ts each d hd).up (Nat.le_succ (2 * n))
      | call m => exact flat3 (.str _) (.str _) pt
      | ring p => exact flat3 (.str _) (.int _) pt
theorem places_len (t : Tm) : t.places.length ≤ t.size := by
  rw [← all_len t]
  unfold Tm.places
  have h : ∀ l : List Tm, (l.flatMap Tm.pl1).length ≤ l.length := by
    intro l
    induction l with
    | nil => exact Nat.le_refl _
    | cons t r ih =>
      rw [List.flatMap_cons, List.length_append, List.length_cons]
      have : (Tm.pl1 t).length ≤ 1 := by
        unfold Tm.pl1
        split
        · exact Nat.le_refl 1
        · exact Nat.zero_le 1
      omega
  exact h _
section
variable {K : PySem.W.Frag} {H : Hp}
theorem dps_strs : ∀ xs : List Str, DpAll K H (xs.map V.str) (xs.map PyData.str)
  | [] => .nil
  | x :: xs => .cons (.str x) (dps_strs xs)
theorem dps_nats : ∀ xs : List Nat, DpAll K H (xs.map fun k : Nat => V.int (k : Int)) (xs.map fun k : Nat => PyData.int (k : Int))
  | [] => .nil
  | x :: xs => .cons (.int _) (dps_nats xs)
end
theorem mks_len (t : Tm) : t.marks.length ≤ t.size := by
  rw [← all_len t]
  unfold Tm.marks
  have h : ∀ l : List Tm, (l.flatMap Tm.mk1).length ≤ l.length := by
    intro l
    induction l with
    | nil => exact Nat.le_refl _
    | cons t r ih =>
      rw [List.flatMap_cons, List.length_append, List.length_cons]
      have : (Tm.mk1 t).length ≤ 1 := by
        unfold Tm.mk1
        split
        · exact Nat.le_refl 1
        · exact Nat.zero_le 1
      omega
  exact h _
/-- a rising list of what stands in another one is no longer -/
theorem rise_len : ∀ (xs l : List Str), xs.Pairwise tlt → (∀ x ∈ xs, x ∈ l) → xs.length ≤ l.length
  | [], l, _, _ => Nat.zero_le _
  | x :: xs, l, h, s => by
    obtain ⟨h1, h2⟩ := List.pairwise_cons.mp h
    have hx := s x (List.mem_cons_self ..)
    have ih := rise_len xs (l.erase x) h2 fun y hy => (List.mem_erase_of_ne (fun e => tlt_irr x (by
      have := h1 y hy
      rw [e] at this
      exact this))).mpr (s y (List.mem_cons_of_mem _ hy))
    have e := List.length_erase_of_mem hx
    have pos : 0 < l.length := List.length_pos_of_mem hx
    rw [List.length_cons]
    omega
/-- the marks, the places of a head -/
def Hd.ms : Hd → List Str
  | .call m => [m]
  | _ => []
def Hd.ps : Hd → List Nat
  | .ring p => [p]
  | _ => []
theorem alls_flat (ts : List Tm) : Tm.alls ts = ts.flatMap Tm.all := by
  induction ts with
  | nil => rfl
  | cons t ts ih =>
    show t.all ++ Tm.alls ts = _
    rw [ih]
    rfl
theorem marks_node (h : Hd) (ts : List Tm) : (Tm.node h ts).marks = h.ms ++ ts.flatMap Tm.marks := by
  have e : (Tm.node h ts).marks = Tm.mk1 (.node h ts) ++ (Tm.alls ts).flatMap Tm.mk1 := by
    unfold Tm.marks
    rw [all_parts, List.flatMap_cons]
    rfl
  rw [e, alls_flat, List.flatMap_assoc]
  cases h <;> rfl
theorem places_node (h : Hd) (ts : List Tm) : (Tm.node h ts).places = h.ps ++ ts.flatMap Tm.places := by
  have e : (Tm.node h ts).places = Tm.pl1 (.node h ts) ++ (Tm.alls ts).flatMap Tm.pl1 := by
    unfold Tm.places
    rw [all_parts, List.flatMap_cons]
    rfl
  rw [e, alls_flat, List.flatMap_assoc]
  cases h <;> rfl
end V


set_option Elab.async false
set_option linter.all false
set_option maxRecDepth 100000
set_option maxHeartbeats 4000000
namespace V
open PySem PySem.Spec PyProof.Rows L2 Evl TL NumText
/-! ### marks of numbers and of texts -/
def sgAt (d : Nat) : Nat := sgS.cps.toList.getD d 0
/-- so many figures ahead of these -/
def mkL : Nat → Nat → List Nat → List Nat
  | 0, _, acc => acc
  | k + 1, n, acc => mkL k (n / 36) (sgAt (n % 36) :: acc)
def mkS (n : Nat) : Str := ⟨(mkL 6 n []).toArray⟩
def sgIx (c : Nat) : Nat := sgS.cps.toList.findIdx (· == c)
def hashL (l : List Nat) (n : Nat) : Nat := l.foldl (fun a c => (a * 131 + sgIx c + 1) % 998244353) n
def spMarkN : Sp := fun vs H Q _ => ∃ n : Nat, vs = [.int (n : Int)] ∧ n < 2147483648 ∧ ∀ (H' : Hp), Ex H H' → Q (.str (mkS n)) H'
def spMarkT : Sp := fun vs H Q _ => ∃ z : Str, vs = [.str z] ∧ z.length ≤ 1000000 ∧ (∀ c ∈ tl z, c ∈ tl sgS) ∧ ∀ (H' : Hp), Ex H H' → Q (.str (mkS (hashL (tl z) 7))) H'
theorem sg_at : ∀ d : Nat, d < 36 → atI sgS.cps.toList (d : Int) = some (sgAt d) := by
  intro d hd
  refine atI_nat ?_
  have all : ∀ d : Nat, d < 36 → sgS.cps.toList[d]? = some (sgAt d) := by decide +kernel
  exact all d hd
theorem sg_ix : ∀ c ∈ tl sgS, ∃ rest, Builtin.Str.occurrences sgS ⟨#[c]⟩ 0 sgS.length 1 = sgIx c :: rest := by
  intro c hc
  have all : ∀ c ∈ tl sgS, (Builtin.Str.occurrences sgS ⟨#[c]⟩ 0 sgS.length 1).head? = some (sgIx c) := by decide +kernel
  have h := all c hc
  cases e : Builtin.Str.occurrences sgS ⟨#[c]⟩ 0 sgS.length 1 with
  | nil =>
    rw [e] at h
    cases h
  | cons x r =>
    rw [e] at h
    cases h
    exact ⟨r, rfl⟩
theorem sg_ix_lt : ∀ c ∈ tl sgS, sgIx c < 43 := by decide +kernel
theorem one_append (c : Nat) (l : List Nat) : (⟨#[c]⟩ : Str) ++ ⟨l.toArray⟩ = ⟨(c :: l).toArray⟩ := ext_tl (by rw [tl_append]; rfl)
end V


set_option Elab.async false
set_option linter.all false
set_option maxRecDepth 100000
set_option maxHeartbeats 400000
namespace V
open PySem PySem.Spec PyProof.Rows L2 Evl TL NumText
/-- what is told of a term, and what is due -/
def told (t : Tm) (ms : List Str) : PyData := .list [.str t.txt, t.py, .int (t.deep : Int), .int (t.size : Int), .list (ms.map PyData.str), .list (t.places.map fun k : Nat => PyData.int (k : Int))]
theorem told_dep {t : Tm} {ms : List Str} (g : Good t ms) : DepN 13 (told t ms) := by
  obtain ⟨h1, h2, h3, h4, h5, h6, h7⟩ := g
  refine .lst (by show 6 ≤ 1000; decide) fun d hd => ?_
  simp only [List.mem_cons, List.not_mem_nil, or_false] at hd
  rcases hd with rfl | rfl | rfl | rfl | rfl | rfl
  · exact .str _
  · exact (py_dep 6 11 t h1 h2).up (by decide)
  · exact .int _
  · exact .int _
  · refine .lst (by rw [List.length_map]; omega) fun d hd => ?_
    obtain ⟨x, _, rfl⟩ := List.mem_map.mp hd
    exact .str _
  · refine .lst (by rw [List.length_map]; have := places_len t; omega) fun d hd => ?_
    obtain ⟨x, _, rfl⟩ := List.mem_map.mp hd
    exact .int _
theorem told_dp {K : PySem.W.Frag} {H : Hp} {p c q : Addr} {v : V} {t : Tm} {ms : List Str} (h : H p = some (.lst [.str t.txt, v, .int (t.deep : Int), .int (t.size : Int), .ref c, .ref q])) (hv : TmAt H v t)
    (hc : H c = some (.lst (ms.map V.str))) (hq : H q = some (.lst (t.places.map fun k : Nat => V.int (k : Int)))) : Dp K H (.ref p) (told t ms) :=
  .lst (SqL.of h) (.cons (.str _) (.cons hv.dp (.cons (.int _) (.cons (.int _) (.cons (.lst (SqL.of hc) (dps_strs ms)) (.cons (.lst (SqL.of hq) (dps_nats _)) .nil))))))
/-! ### marks of the law -/
def mks : List (Str × Str) := [("", "000007"), ("0", "0000pi"), ("a", "0000ps"), (" ", "0000qi"), (":", "0000qo"), ("00", "002ksj")]
theorem mks_ok : ∀ x ∈ mks, (∀ c ∈ tl x.1, c ∈ tl sgS) ∧ x.1.length ≤ 2 ∧ mkS (hashL (tl x.1) 7) = x.2 := by decide +kernel
inductive PrsAt (H : Hp) : List V → List (Str × Str) → Prop where
  | nil : PrsAt H [] []
  | cons {a : Addr} {x y : Str} {vs : List V} {ps : List (Str × Str)} : H a = some (.tup [.str x, .str y]) → PrsAt H vs ps → PrsAt H (.ref a :: vs) ((x, y) :: ps)
theorem PrsAt.ex {H H' : Hp} (e : Ex H H') : ∀ {vs : List V} {ps : List (Str × Str)}, PrsAt H vs ps → PrsAt H' vs ps
  | _, _, .nil => .nil
  | _, _, .cons h hs => .cons (e _ _ h) (hs.ex e)
theorem PrsAt.len {H : Hp} : ∀ {vs : List V} {ps : List (Str × Str)}, PrsAt H vs ps → vs.length = ps.length
  | _, _, .nil => rfl
  | _, _, .cons _ hs => by rw [List.length_cons, List.length_cons, hs.len]
theorem PrsAt.get {H : Hp} : ∀ {vs : List V} {ps : List (Str × Str)}, PrsAt H vs ps → ∀ {i : Nat} {v : V}, vs[i]? = some v → ∃ a x y, v = .ref a ∧ ps[i]? = some (x, y) ∧ H a = some (.tup [.str x, .str y])
  | _, _, .nil, i, v, e => by simp at e
  | _, _, .cons h hs, 0, v, e => by
    cases Option.some.inj e
    exact ⟨_, _, _, rfl, rfl, h⟩
  | _, _, .cons h hs, i + 1, v, e => hs.get (i := i) (v := v) e
theorem ya_p {ta : TA} {σ : L2.St} {H : Hp} {x y : Str} {ps : List (Str × Str)} (h : Ya ta σ H (fun H vs => PrsAt H vs ps)) : Ya (tCons (tTup (tCons (tC (.str x)) (tCons (tC (.str y)) tNil))) ta) σ H (fun H vs => PrsAt H vs ((x, y) :: ps)) := fun H1 e Q q =>
  ⟨sz 2, fun p hp => h _ (e.trans (Ex.new hp)) _ fun H2 vs e2 r => q H2 _ ((Ex.new hp).trans e2) (.cons (e2 _ _ upd_same) r)⟩
theorem ya_pnil {σ : L2.St} {H : Hp} : Ya tNil σ H (fun H vs => PrsAt H vs []) := fun H1 e Q q => q H1 [] (Ex.refl H1) .nil
theorem ya_go {ta : TA} {σ : L2.St} {H : Hp} {R : Hp → List V → Prop} {Q : List V → Hp → Prop} (h : Ya ta σ H R) (k : ∀ H2 v, Ex H H2 → R H2 v → Q v H2) : ta σ H Q := h H (Ex.refl H) Q k
end V


set_option Elab.async false
set_option linter.all false
set_option maxRecDepth 100000
set_option maxHeartbeats 4000000
namespace V
open PySem PySem.Spec PyProof.Rows L2 Evl

end V


set_option Elab.async false
set_option linter.all false
set_option maxRecDepth 100000
set_option maxHeartbeats 4000000
namespace V
open PySem PySem.Spec PyProof.Rows L2 Evl

end V


set_option Elab.async false
set_option linter.all false
set_option maxRecDepth 100000
set_option maxHeartbeats 4000000
namespace V
open PySem PySem.Spec PyProof.Rows L2 Evl
open VS in
section
variable {P : Program} {w : World} {K : PySem.W.Frag} {mg : Str → Option Value} {base : Heap}
theorem scal_str {a b : Str} : scal (.str a) (.str b) = true := rfl
end
end V


set_option Elab.async false
set_option linter.all false
set_option maxRecDepth 100000
set_option maxHeartbeats 4000000
namespace V
open PySem PySem.Spec PyProof.Rows L2 Evl
/-! ### what is drawn -/
/-- the box at b: n things at least may still be drawn of it -/
def Box (H : Hp) (b : Addr) (n : Nat) : Prop := ∃ x y z : Int, H b = some (.lst [.int x, .int y, .int z]) ∧ 0 ≤ x ∧ 0 ≤ y ∧ y < 2147483647 ∧ 0 ≤ z ∧ z + (n : Int) ≤ 1099511627776
theorem Box.less {H : Hp} {b : Addr} {n m : Nat} (h : Box H b n) (le : m ≤ n) : Box H b m := by
  obtain ⟨x, y, z, e, h0, h1, h2, h3, h4⟩ := h
  exact ⟨x, y, z, e, h0, h1, h2, h3, by omega⟩
theorem Box.lst {H : Hp} {b : Addr} {n : Nat} (h : Box H b n) : ∃ xs, H b = some (.lst xs) := by
  obtain ⟨x, y, z, e, _⟩ := h
  exact ⟨_, e⟩
theorem Box.tu {H H' : Hp} {b : Addr} {n : Nat} (h : Box H b n) (e : But b H H') : Tu H H' := by
  obtain ⟨xs, q⟩ := h.lst
  exact e.tu q
theorem Box.ex {H H' : Hp} {b : Addr} {n : Nat} (h : Box H b n) (e : Ex H H') : Box H' b n := by
  obtain ⟨x, y, z, q, r⟩ := h
  exact ⟨x, y, z, e _ _ q, r⟩
/-- one thing below size -/
def spTake : Sp := fun vs H Q _ => ∃ (b : Addr) (size : Int) (n : Nat), vs = [.ref b, .int size] ∧ 0 < size ∧ size ≤ 10000000 ∧ Box H b (n + 1) ∧
  ∀ (H' : Hp) (r : Int), But b H H' → Box H' b n → 0 ≤ r → r < size → Q (.int r) H'
end V


set_option Elab.async false
set_option linter.all false
set_option maxRecDepth 100000
set_option maxHeartbeats 4000000
namespace V
open PySem PySem.Spec PyProof.Rows L2 Evl
theorem ite01 (c : Prop) [Decidable c] : (0 : Int) ≤ (if c then 1 else 0) ∧ (if c then (1 : Int) else 0) ≤ 1 := by
  split <;> decide
/-- a number of a term -/
def spNum : Sp := fun vs H Q _ => ∃ (b : Addr) (n : Nat), vs = [.ref b] ∧ Box H b (n + 4) ∧
  ∀ (H' : Hp) (r : Int), But b H H' → Box H' b n → 0 ≤ r → r ≤ 1000002 → Q (.int r) H'
/-- a box of its own -/
def spBox (K : PySem.W.Frag) : Sp := fun vs H Q _ => ∃ (a : Addr) (ns : List Int) (k : Nat), vs = [.ref a, .int (k : Int)] ∧ SqL K H a (ns.map V.int) ∧ k ≤ 100 ∧
  ∀ (H' : Hp) (b : Addr), H b = none → Ex H H' → Box H' b 1099511627776 → Q (.ref b) H'
end V


set_option Elab.async false
set_option linter.all false
set_option maxRecDepth 100000
set_option maxHeartbeats 4000000
namespace V
open PySem PySem.Spec PyProof.Rows L2 Evl
theorem cutV_map {α : Type} (f : α → V) (xs : List α) (lo hi : Option Int) :
    cutV (xs.map f) lo hi = ((xs.drop (HT.sIx xs.length 0 lo)).take (HT.sIx xs.length xs.length hi - HT.sIx xs.length 0 lo)).map f := by
  unfold cutV
  rw [List.length_map, List.map_take, List.map_drop]
/-- the first numbers of the script, those behind added on -/
def spFold (K : PySem.W.Frag) : Sp := fun vs H Q _ => ∃ (a : Addr) (ns : List Int) (size : Nat), vs = [.ref a, .int (size : Int)] ∧ SqL K H a (ns.map V.int) ∧ ns.length ≤ 63 ∧ 0 < size ∧ size ≤ 10 ∧
  ∀ (H' : Hp) (p : Addr) (ms : List Int), H p = none → Ex H H' → H' p = some (.lst (ms.map V.int)) → ms.length ≤ size → Q (.ref p) H'
end V


set_option Elab.async false
set_option linter.all false
set_option maxRecDepth 100000
set_option maxHeartbeats 400000
namespace V
open PySem PySem.Spec PyProof.Rows L2 Evl TL NumText
def spRight : Sp := fun vs H Q _ => ∃ (b : Addr) (n : Nat), vs = [.ref b] ∧ Box H b (n + 5) ∧ ∀ (H' : Hp), But b H H' → Box H' b n → Q (.bl true) H'
section
variable {P : Program} {w : World} {K : PySem.W.Frag} {mg : Str → Option Value} {base : Heap}
theorem ok_right (T : Txt K w mg) (G__law_known : Cal P w K mg base 1 "_law_known" ["n", "k"] spKnown) (G__law_number : Cal P w K mg base 2 "_law_number" ["box"] spNum) (G__law_take : Cal P w K mg base 1 "_law_take" ["box", "size"] spTake)
    (G_term_text : Cal P w K mg base 7 "term_text" ["term"] (spText 6)) (G_term_in : Cal P w K mg base 20 "term_in" ["text"] (spTermIn K)) (G_deep_of : Cal P w K mg base 7 "deep_of" ["term"] (spDeep 6)) (G_size_of : Cal P w K mg base 8 "size_of" ["term"] (spSize 6))
    (G_calls_of : Cal P w K mg base 8 "calls_of" ["term"] (spCalls 6)) (G_places_of : Cal P w K mg base 8 "places_of" ["term"] (spPlaces 6)) (G__law_same : Cal P w K mg base 13 "_law_same" ["found", "due"] (spSame K 13))
    (G_is_term : Cal P w K mg base 12 "is_term" ["thing"] (spTest Small (isTm 8) K)) (G_mark_of_text : Cal P w K mg base 2 "mark_of_text" ["text"] spMarkT) : Cal P w K mg base 21 "_law_right" ["box"] spRight := by
  refine T.D__law_right.cal sc__law_right (fun vs H Q E h => ?_) (fun f cdv A outer s H vs Q E hr h => ?_)
  · obtain ⟨b, n, rfl, _⟩ := h
    rfl
  obtain ⟨b, n, rfl, hB, q⟩ := h
  refine ⟨_, (pss_cons (ps_for PassesOwn.never rfl (pi_list (pe_fn G__law_known hr (by omega) (pa_cons (pe_fn G__law_number hr (by omega) (pa_cons (pv 0) pa_nil)) (pa_cons (pe_fn G__law_take hr (by omega) (pa_cons (pv 0) (pa_cons pe_int pa_nil))) pa_nil)))) (pg_tup rfl (pgs_cons (pg_name (i := 1) sc__law_right.nd rfl (.inl rfl)) (pgs_cons (pg_name (i := 2) sc__law_right.nd rfl (.inl rfl)) (pgs_cons (pg_name (i := 3) sc__law_right.nd rfl (.inl rfl)) (pgs_cons (pg_name (i := 4) sc__law_right.nd rfl (.inl rfl)) (pgs_cons (pg_name (i := 5) sc__law_right.nd rfl (.inl rfl)) (pgs_cons (pg_name (i := 6) sc__law_right.nd rfl (.inl rfl)) pgs_nil)))))))
    (pss_cons (ps_set (i := 7) sc__law_right.nd rfl (.inl rfl) (pe_lst (pa_cons (pe_fn G_term_text hr (by omega) (pa_cons (pv 1) pa_nil)) (pa_cons (pe_fn G_term_in hr (by omega) (pa_cons (pv 2) pa_nil)) (pa_cons (pe_fn G_deep_of hr (by omega) (pa_cons (pv 1) pa_nil)) (pa_cons (pe_fn G_size_of hr (by omega) (pa_cons (pv 1) pa_nil)) (pa_cons (pe_fn G_calls_of hr (by omega) (pa_cons (pv 1) pa_nil)) (pa_cons (pe_fn G_places_of hr (by omega) (pa_cons (pv 1) pa_nil)) pa_nil))))))))
    (pss_one (ps_if (PW.pt (pw_or (pt_not (pt_val (pe_fn G__law_same hr (by omega) (pa_cons (pv 7) (pa_cons (pe_lst (pa_cons (pv 2) (pa_cons (pv 1) (pa_cons (pv 3) (pa_cons (pv 4) (pa_cons (pv 5) (pa_cons (pv 6) pa_nil))))))) pa_nil))))) (pw_or1 (pt_cmpR op_notBl (pe_fn G_is_term hr (by omega) (pa_cons (pv 1) pa_nil)) pe_bl (nomark _)))))
      (pss_one (ps_ret pe_bl))
      pss_nil))))
  (pss_cons (ps_set (i := 8) sc__law_right.nd rfl (.inl rfl) (pe_lst (pa_cons (pe_tup (pa_cons pe_str (pa_cons pe_str pa_nil))) (pa_cons (pe_tup (pa_cons pe_str (pa_cons pe_str pa_nil))) (pa_cons (pe_tup (pa_cons pe_str (pa_cons pe_str pa_nil))) (pa_cons (pe_tup (pa_cons pe_str (pa_cons pe_str pa_nil))) (pa_cons (pe_tup (pa_cons pe_str (pa_cons pe_str pa_nil))) (pa_cons (pe_tup (pa_cons pe_str (pa_cons pe_str pa_nil))) pa_nil))))))))
  (pss_one (ps_ret (pe_bi (cr_all rfl) T.z_all (pa_cons (pe_lc (own := [("text", 2), ("mark", 9)]) (g := (gTup K 2 (gCons (gName 2) (gCons (gName 9) gNil)))) (tt := tYes) rfl sc__law_right.nd (pi_list (pv 8)) (blkOk_by (N := N__law_right) (sc := defScope s__law_right) (by decide +kernel)) (fun _ _ _ _ _ => (pg_tup rfl (pgs_cons (pg_name (i := 2) sc__law_right.nd rfl (.inl rfl)) (pgs_cons (pg_name (i := 9) sc__law_right.nd rfl (.inl rfl)) pgs_nil)))) (fun _ _ _ _ _ => pts_nil) (fun _ _ _ _ _ => (pe_cmpR op_eq (pe_fn G_mark_of_text hr (by omega) (pa_cons (pv 2) pa_nil)) (pv 9) (nomark _)))) pa_nil)))))), ?_⟩
  let A0 : L2.St → Hp → Prop := fun σ H' => σ = [some (.ref b), none, none, none, none, none, none, none, none, none] ∧ H' = H
  let A1 : L2.St → Hp → Prop := fun σ H' => (∃ y1 y2 y3 y4 y5 y6 y7, σ = [some (.ref b), y1, y2, y3, y4, y5, y6, y7, none, none]) ∧ But b H H' ∧ Box H' b n
  let A2 : L2.St → Hp → Prop := fun σ H' => (∃ y1 y2 y3 y4 y5 y6 y7 p vs, σ = [some (.ref b), y1, y2, y3, y4, y5, y6, y7, some (.ref p), none] ∧ H' p = some (.lst vs) ∧ PrsAt H' vs mks) ∧ But b H H' ∧ Box H' b n
  refine (Hs.fin (A := A0) (B := A1) ?_ (Hs.fin (B := A2) ?_ (Q := Q) ?_)) _ _ H ⟨rfl, rfl⟩ fun v H' h => h
  · rintro D σ H' ⟨rfl, rfl⟩ kk
    refine ⟨_, rfl, b, n + 1, rfl, hB, fun H1 r u1 B1 r0 r1 => ⟨_, rfl, b, 4, n, rfl, by decide, by decide, B1, fun H2 j u2 B2 j0 j1 => ?_⟩⟩
    obtain ⟨rn, rfl⟩ := Int.eq_ofNat_of_zero_le r0
    obtain ⟨jn, rfl⟩ := Int.eq_ofNat_of_zero_le j0
    refine ⟨rn, jn, rfl, by omega, by omega, fun H3 p ws e3 hp hk => ⟨p, rfl, ⟨ws, SqL.of hp⟩, ?_⟩⟩
    refine for_it (walk_list (xs := ws)) (fun i σ H4 => (∃ y1 y2 y3 y4 y5 y6 y7, σ = [some (.ref b), y1, y2, y3, y4, y5, y6, y7, none, none]) ∧ Ex H3 H4) ⟨⟨_, _, _, _, _, _, _, rfl⟩, Ex.refl H3⟩ (fun i σ H4 _ g => SqL.of (g.2 p _ hp)) ?_ ?_
    · rintro i x σ H4 H5 hi ⟨⟨y1, y2, y3, y4, y5, y6, y7, rfl⟩, e4⟩ ⟨rfl, hx⟩
      obtain ⟨t, _, ⟨a, tv, c, q1, ms, rfl, ha, ht, hc, hq, _, _, g⟩⟩ := hk.get hx
      obtain ⟨o1, o2, o3, o4, o5, o6, o7⟩ := id g
      refine ⟨a, _, rfl, SqT.of (e4 a _ ha), rfl, tv, _, rfl, .str t.txt, _, rfl, .int (t.deep : Int), _, rfl, .int (t.size : Int), _, rfl, .ref c, _, rfl, .ref q1, _, rfl, rfl, ?_⟩
      have t4 := ht.ex e4
      refine ⟨_, rfl, tv, t, 11, rfl, t4, o1, by decide, o2, by omega, fun G1 f1 => ⟨_, rfl, t, 11, rfl, by omega, o1, Nat.le_refl _, by omega, fun G2 v2 f2 s2 => ⟨_, rfl, tv, t, 11, rfl, t4.ex (f1.trans f2), o1, o2, fun G3 f3 => ?_⟩⟩⟩
      refine ⟨_, rfl, tv, t, 11, rfl, t4.ex (f1.trans (f2.trans f3)), o1, o2, by omega, fun G4 f4 => ⟨_, rfl, tv, t, 11, rfl, t4.ex (f1.trans (f2.trans (f3.trans f4))), o1, o2, by omega, fun G5 p5 xs n5 f5 h5 rise same => ?_⟩⟩
      refine ⟨_, rfl, tv, t, 11, rfl, t4.ex (f1.trans (f2.trans (f3.trans (f4.trans f5)))), o1, o2, by omega, fun G6 p6 n6 f6 h6 => ⟨sz 6, fun pf hpf => ?_⟩⟩
      have exs : xs = ms := rise_same rise o6 fun x => (same x).trans (o7 x).symm
      subst exs
      have f7 := Ex.new (o := .lst [.str t.txt, v2, .int (t.deep : Int), .int (t.size : Int), .ref p5, .ref p6]) hpf
      have d2 : Ex _ G2 := f1.trans f2
      have d6 : Ex G2 G6 := f3.trans (f4.trans (f5.trans f6))
      refine ⟨_, rfl, _, rfl, _, rfl, _, rfl, _, rfl, _, rfl, _, rfl, sz 6, fun pd hpd => ?_⟩
      have f8 := Ex.new (o := .lst [.str t.txt, tv, .int (t.deep : Int), .int (t.size : Int), .ref c, .ref q1]) hpd
      have d8 : Ex G6 _ := f7.trans f8
      refine ⟨.ref pf, .ref pd, told t xs, rfl, ?_, ?_, told_dep g, fun G9 f9 => ⟨_, rfl, iteF ⟨_, rfl, tv, t.py, rfl, (t4.ex (d2.trans (d6.trans (d8.trans f9)))).dp, py_small t o1, fun G10 f10 => ?_⟩⟩⟩
      · exact told_dp (f8 pf _ upd_same) (TmAt.ex s2 (d6.trans d8)) (d8 p5 _ (f6 p5 _ h5)) (d8 p6 _ h6)
      · exact told_dp upd_same (t4.ex (d2.trans (d6.trans d8))) (d8 c _ (d6 c _ (d2 c _ (e4 c _ hc)))) (d8 q1 _ (d6 q1 _ (d2 q1 _ (e4 q1 _ hq))))
      · rw [py_isTm 8 t o1 (by omega)]
        exact ⟨_, _, rfl, rfl, _, rfl, iteF ⟨⟨_, _, _, _, _, _, _, rfl⟩, e4.trans (d2.trans (d6.trans (d8.trans (f9.trans f10))))⟩⟩
    · rintro σ H4 ⟨⟨y1, y2, y3, y4, y5, y6, y7, rfl⟩, e4⟩
      exact kk _ _ ⟨⟨y1, y2, y3, y4, y5, y6, y7, rfl⟩, u1.trans (u2.trans ((But.of e3).trans (But.of e4))), (B2.ex e3).ex e4⟩
  · rintro D σ H' ⟨⟨y1, y2, y3, y4, y5, y6, y7, rfl⟩, hb, hB'⟩ kk
    refine asg_go (lst_go (ya_go (ya_p (ya_p (ya_p (ya_p (ya_p (ya_p ya_pnil)))))) fun H2 vs e r => ⟨?_, fun p hp => kk _ _ ?_⟩))
    · rw [PrsAt.len r]
      exact sz 6
    · exact ⟨⟨y1, y2, y3, y4, y5, y6, y7, p, vs, rfl, upd_same, PrsAt.ex (Ex.new hp) r⟩, hb.trans (But.of (e.trans (Ex.new hp))), hB'.ex (e.trans (Ex.new hp))⟩
  · rintro D σ H' ⟨⟨y1, y2, y3, y4, y5, y6, y7, p, vs, rfl, hp, hr⟩, hb, hB'⟩ kk
    refine ⟨_, rfl, p, rfl, ⟨vs, SqL.of hp⟩, fun Dl hD => ?_⟩
    refine lc_it (walk_list (xs := vs)) (fun i H3 => Ex H' H3 ∧ H3 Dl = some (.lst (((mks.take i).map fun _ => true).map V.bl))) ⟨Ex.new hD, upd_same⟩ (fun i H3 _ g => SqL.of (g.1 p _ hp)) ?_ ?_
    · rintro i x H3 H4 hi ⟨e3, h3⟩ ⟨rfl, hx⟩
      obtain ⟨a, x1, x2, rfl, hm, ha⟩ := hr.get hx
      obtain ⟨k1, k2, k3⟩ := mks_ok _ (get_mem hm)
      refine ⟨a, _, rfl, SqT.of (e3 a _ ha), rfl, .str x1, _, rfl, .str x2, _, rfl, rfl, rfl, yes ⟨_, rfl, x1, rfl, Nat.le_trans k2 (by decide), k1, fun H5 e5 => ⟨_, rfl, rfl, _, e5 Dl _ h3, ?_, Ex.mut (e3.trans e5) hD, ?_⟩⟩⟩
      · rw [List.length_map, List.length_map, List.length_take]
        exact small1000 (by have : mks.length = 6 := rfl; omega)
      · have k3' : mkS (hashL (tl x1) 7) = x2 := k3
        rw [k3', decide_eq_true rfl, upd_same, take_more hm, List.map_append, List.map_append]
        rfl
    · rintro H3 ⟨e3, h3⟩
      rw [show vs.length = mks.length from hr.len, List.take_length] at h3
      refine ⟨Dl, _, rfl, SqL.of h3, kk _ _ ?_⟩
      have ea : ((mks.map fun _ => true).all id) = true := by
        rw [List.all_map]
        exact List.all_eq_true.mpr fun _ _ => rfl
      rw [ea]
      exact q H3 (hb.trans (But.of e3)) (hB'.ex e3)
end
end V


set_option Elab.async false
set_option linter.all false
set_option maxRecDepth 100000
set_option maxHeartbeats 400000
namespace V
open PySem PySem.Spec PyProof.Rows L2 Evl TL NumText
def spLaw (K : PySem.W.Frag) : Sp := fun vs H Q _ => ∃ (a : Addr) (ns : List Int), vs = [.ref a] ∧ SqL K H a (ns.map V.int) ∧ ns.length ≤ 63 ∧ ∀ H' : Hp, Q (.bl true) H'
section
variable {P : Program} {w : World} {K : PySem.W.Frag} {mg : Str → Option Value} {base : Heap}
theorem ok_law (T : Txt K w mg) {fL : Addr} {fd : FuncData} (F : FunD K "law" "law" (defArgs s_law) (defBody s_law) (defScope s_law) [] [] fL fd) (G__law_folded : Cal P w K mg base 1 "_law_folded" ["script", "size"] (spFold K))
    (G__law_box : Cal P w K mg base 1 "_law_box" ["script", "k"] (spBox K)) (G__law_right : Cal P w K mg base 21 "_law_right" ["box"] spRight) : FnOk P w K mg base CX0 22 fL fd ["script"] (spLaw K) := by
  refine F.ok sc_law (fun vs H Q E h => ?_) (fun cdv A outer s H vs Q E hr h => ?_)
  · obtain ⟨a, ns, rfl, _⟩ := h
    rfl
  obtain ⟨a, ns, rfl, hS, hl, q⟩ := h
  have body : ∃ t, PSs (cxOf CX0 P w K mg base N_law "law" (defScope s_law) fL cdv A outer s H E).nox (defBody s_law) t ∧ t { nx := fun _ H' => Q .non H', rt := Q } (start N_law [.ref a]) H := by
    refine ⟨_, (pss_cons (ps_set (i := 1) sc_law.nd rfl (.inl rfl) (pe_fn G__law_folded hr (by omega) (pa_cons (pv 0) (pa_cons pe_int pa_nil))))
  (pss_cons (ps_for PassesOwn.never rfl (pi_range1 rfl T.z_range (pa_cons (pe_bi (call_max2 rfl) T.z_max (pa_cons pe_int (pa_cons (pe_bi call_len_seq T.z_len (pa_cons (pv 1) pa_nil)) pa_nil))) pa_nil)) (pg_name (i := 2) sc_law.nd rfl (.inl rfl))
    (pss_cons (ps_set (i := 3) sc_law.nd rfl (.inr rfl) (pe_fn G__law_box hr (by omega) (pa_cons (pv 1) (pa_cons (pv 2) pa_nil))))
    (pss_one (ps_if (pt_not (pt_val (pe_bi (cr_all rfl) T.z_all (pa_cons (pe_lc (own := [("turn", 4)]) (g := (gName 4)) (tt := tYes) rfl sc_law.nd (pi_range1 rfl T.z_range (pa_cons pe_int pa_nil)) (blkOk_by (N := N_law) (sc := defScope s_law) (by decide +kernel)) (fun _ _ _ _ _ => (pg_name (i := 4) sc_law.nd rfl (.inl rfl))) (fun _ _ _ _ _ => pts_nil) (fun _ _ _ _ _ => (pe_fn G__law_right hr (by omega) (pa_cons (pv 3) pa_nil)))) pa_nil))))
      (pss_one (ps_ret pe_bl))
      pss_nil))))
  (pss_one (ps_ret pe_bl)))), ?_⟩
    refine ⟨_, rfl, a, ns, 2, rfl, hS, hl, by decide, by decide, fun H1 p ms hp e1 h1 hm => ?_⟩
    refine ⟨_, rfl, p, _, rfl, .inl (SqL.of h1), ?_⟩
    have hm2 : ms.length ≤ 2 := hm
    have lm : (ms.map V.int).length = ms.length := List.length_map ..
    refine ⟨_, _, rfl, _, rfl, ?_, ?_, ?_⟩
    · split <;> omega
    · split <;> omega
    have lj : (if (((ms.map V.int).length : Nat) : Int) > 1 then (((ms.map V.int).length : Nat) : Int) else 1).toNat ≤ 2 := by
      split <;> omega
    generalize (if (((ms.map V.int).length : Nat) : Int) > 1 then (((ms.map V.int).length : Nat) : Int) else 1).toNat = m at lj
    refine for_range (fun i σ H2 => (∃ y2 y3 y4, σ = [some (.ref a), some (.ref p), y2, y3, y4]) ∧ H2 p = some (.lst (ms.map V.int))) ⟨⟨none, none, none, rfl⟩, h1⟩ ?_ ?_
    · rintro i σ H2 hi ⟨⟨y2, y3, y4, rfl⟩, h2⟩
      refine ⟨_, rfl, _, rfl, p, ms, i, ?_, SqL.of h2, by omega, fun H3 b hb e3 hB => ?_⟩
      · rw [Int.zero_add]
      have hpb : p ≠ b := fun z => by
        rw [z, hb] at h2
        cases h2
      refine ⟨2, rfl, by decide, by decide, fun Dl hD => ?_⟩
      have hbl := hB.lst
      have hDb : Dl ≠ b := fun z => by
        obtain ⟨xs, hx⟩ := hbl
        rw [z, hx] at hD
        cases hD
      refine lc_range (lo := 0) (n := 2) (fun j H4 => But b H3 H4 ∧ Box H4 b (1099511627776 - 5 * j) ∧ H4 Dl = some (.lst ((List.replicate j true).map V.bl))) ⟨But.of (Ex.new hD), hB.ex (Ex.new hD), upd_same⟩ ?_ ?_
      · rintro j H4 hj ⟨u4, B4, d4⟩
        refine ⟨rfl, yes ⟨_, rfl, b, 1099511627776 - 5 * (j + 1), rfl, ?_, fun H5 u5 B5 => ⟨_, u5 Dl _ hDb d4, ?_, ?_, ?_, ?_⟩⟩⟩
        · rw [show 1099511627776 - 5 * (j + 1) + 5 = 1099511627776 - 5 * j by omega]
          exact B4
        · rw [List.length_map, List.length_replicate]
          exact small1000 (by omega)
        · intro c o hc ho
          have n : c ≠ Dl := fun z => by
            rw [z, hD] at ho
            cases ho
          rw [upd_ne n]
          exact u5 c o hc (u4 c o hc ho)
        · obtain ⟨x, y, z, q1, q2⟩ := B5
          exact ⟨x, y, z, by rw [upd_ne hDb.symm]; exact q1, q2⟩
        · rw [upd_same]
          have e : List.replicate (j + 1) true = List.replicate j true ++ [true] := List.replicate_succ'
          rw [e, List.map_append]
          rfl
      · rintro H4 ⟨u4, B4, d4⟩
        refine ⟨Dl, _, rfl, SqL.of d4, _, rfl, iteF ⟨⟨_, _, _, rfl⟩, u4 p _ hpb (e3 p _ h2)⟩⟩
    · rintro σ H2 ⟨⟨y2, y3, y4, rfl⟩, h2⟩
      exact q H2
  obtain ⟨t, b1, b2⟩ := body
  exact ⟨t, b1.nox, b2⟩
end
end V


set_option Elab.async false
set_option linter.all false
set_option maxRecDepth 100000
set_option maxHeartbeats 4000000
namespace V
open PySem PySem.Spec PyProof.Rows L2 Evl
section
variable {P : Program} {w : World} {K : PySem.W.Frag} {mg : Str → Option Value} {base : Heap}
theorem ok_take (D : Def K mg "_law_take" s__law_take ["box", "size"]) (zd : mg "divmod" = none) : Cal P w K mg base 1 "_law_take" ["box", "size"] spTake := by
  refine D.cal sc__law_take (fun vs H Q E h => ?_) (fun f cdv A outer s H vs Q E hr h => ?_)
  · obtain ⟨b, size, n, rfl, _⟩ := h
    rfl
  obtain ⟨b, size, n, rfl, s0, s1, hB, q⟩ := h
  obtain ⟨x, y, z, hb, x0, y0, y1, z0, z1⟩ := hB
  refine ⟨_, pss_cons (ps_if (pt_cmpR op_gt (pe_ix ix_list (pv 0) pe_int (fun _ _ => rfl)) pe_int (nomark _))
      (pss_cons (ps_asg (pe_bi call_divmod zd (pa_cons (pe_ix ix_list (pv 0) pe_int (fun _ _ => rfl)) (pa_cons (pv 1) pa_nil)))
          (pg_tup rfl (pgs_cons (pg_sub (pv 0) pe_int set_list) (pgs_cons (pg_name (i := 2) sc__law_take.nd rfl (.inl rfl)) pgs_nil))))
        (pss_one (ps_ret (pv 2)))) pss_nil)
    (pss_cons (ps_if (pt_cmpR op_gt (pv 1) (pe_op op_pow pe_int pe_int) (nomark _)) pss_never pss_nil)
    (pss_cons (ps_asg (pe_op op_add (pe_ix ix_list (pv 0) pe_int (fun _ _ => rfl)) pe_int) (pg_sub (pv 0) pe_int set_list))
    (pss_cons (ps_set (i := 3) sc__law_take.nd rfl (.inl rfl) (pe_op op_add pe_int (pe_op op_mul (pe_ix ix_list (pv 0) pe_int (fun _ _ => rfl)) (pe_ix ix_list (pv 0) pe_int (fun _ _ => rfl)))))
    (pss_cons (ps_set (i := 4) sc__law_take.nd rfl (.inl rfl) (pe_op op_mod (pe_op op_mul (pe_op op_add (pe_ix ix_list (pv 0) pe_int (fun _ _ => rfl)) (pe_op op_mul pe_int (pe_ix ix_list (pv 0) pe_int (fun _ _ => rfl)))) (pv 3)) pe_int))
    (pss_cons (ps_set (i := 5) sc__law_take.nd rfl (.inl rfl) (pe_op op_mod (pe_op op_add (pe_op op_mul (pv 4) (pe_op op_add (pe_op op_mod (pv 4) pe_int) pe_int)) (pe_ix ix_list (pv 0) pe_int (fun _ _ => rfl))) pe_int))
    (pss_one (ps_ret (pe_op op_mod (pe_op op_fdiv (pe_op op_mod (pe_op op_mul (pv 5) (pe_op op_add (pe_op op_mod (pv 5) pe_int) pe_int)) pe_int) pe_int) (pv 1))))))))), ?_⟩
  have hS : SqL K H b [.int x, .int y, .int z] := .inl (.inl hb)
  refine ⟨.ref b, rfl, b, _, 0, .int x, rfl, rfl, hS, rfl, x, 0, rfl, rfl, _, rfl, ite2 (fun c => ?_) (fun c => ?_)⟩
  · -- the number's own digits
    have hx : 0 < x := of_decide_eq_true c
    refine ⟨.ref b, rfl, b, _, 0, .int x, rfl, rfl, hS, rfl, .int size, rfl, x, size, rfl, ⟨s0, by omega⟩, fun p hp => ?_⟩
    have hbp : b ≠ p := ne_of_none hb hp
    have hb1 : (upd H p (.tup [.int (x / size), .int (x % size)])) b = some (.lst [.int x, .int y, .int z]) := by
      rw [upd_ne hbp]
      exact hb
    refine ⟨p, _, rfl, .inl (.inl upd_same), rfl, .int (x / size), _, rfl, .ref b, rfl, b, [.int x, .int y, .int z], 0, 0, rfl, rfl, hb1, rfl, .int (x % size), _, rfl, rfl, ?_⟩
    refine ⟨_, rfl, q _ _ (But.upd (But.of (Ex.new hp))) ⟨x / size, y, z, upd_same, Int.ediv_nonneg x0 (by omega), y0, y1, z0, by omega⟩ (Int.emod_nonneg _ (by omega)) (Int.emod_lt_of_pos _ s0)⟩
  · refine ⟨.int size, rfl, 10, 7, rfl, rfl, ⟨by decide, by decide, by decide⟩, size, _, rfl, rfl, _, rfl, ite2 (fun c2 => ?_) (fun _ => ?_)⟩
    · have : (10 : Int) ^ (7 : Int).toNat < size := of_decide_eq_true c2
      have e7 : (10 : Int) ^ (7 : Int).toNat = 10000000 := by decide
      omega
    refine ⟨.ref b, rfl, b, _, 2, .int z, rfl, rfl, hS, rfl, z, 1, rfl, rfl, .ref b, rfl, b, [.int x, .int y, .int z], 2, 2, rfl, rfl, hb, rfl, ?_⟩
    have hb1 : (upd H b (.lst [.int x, .int y, .int (z + 1)])) b = some (.lst [.int x, .int y, .int (z + 1)]) := upd_same
    have hS1 : SqL K (upd H b (.lst [.int x, .int y, .int (z + 1)])) b [.int x, .int y, .int (z + 1)] := .inl (.inl hb1)
    refine ⟨.ref b, rfl, b, _, 2, .int (z + 1), rfl, rfl, hS1, rfl, .ref b, rfl, b, _, 2, .int (z + 1), rfl, rfl, hS1, rfl, _, _, rfl, rfl, .inl ⟨by omega, by omega⟩, _, _, rfl, rfl, ?_⟩
    refine ⟨.ref b, rfl, b, _, 1, .int y, rfl, rfl, hS1, rfl, .ref b, rfl, b, _, 2, .int (z + 1), rfl, rfl, hS1, rfl, _, _, rfl, rfl, .inl ⟨by omega, by omega⟩, _, _, rfl, rfl, _, rfl, _, _, rfl, rfl, .inl ⟨by omega, by omega⟩, _, _, rfl, rfl, (by show (0 : Int) < 2147483587; decide), ?_⟩
    refine ⟨_, rfl, _, rfl, _, _, rfl, rfl, (by show (0 : Int) < 30011; decide), _, _, rfl, rfl, _, _, rfl, rfl, .inl ⟨by omega, by omega⟩, .ref b, rfl, b, _, 2, .int (z + 1), rfl, rfl, hS1, rfl, _, _, rfl, rfl, _, _, rfl, rfl, (by show (0 : Int) < 2147483563; decide), ?_⟩
    refine ⟨_, rfl, _, rfl, _, _, rfl, rfl, (by show (0 : Int) < 1013; decide), _, _, rfl, rfl, _, _, rfl, rfl, .inl ⟨by omega, by omega⟩, _, _, rfl, rfl, (by show (0 : Int) < 998244353; decide), _, _, rfl, rfl, ⟨by decide, by decide⟩, .int size, rfl, _, _, rfl, rfl, s0, ?_⟩
    exact q _ _ (But.upd (But.refl b H)) ⟨x, y, z + 1, upd_same, x0, y0, y1, by omega, by omega⟩ (Int.emod_nonneg _ (by omega)) (Int.emod_lt_of_pos _ s0)
end
end V


set_option Elab.async false
set_option linter.all false
set_option maxRecDepth 100000
set_option maxHeartbeats 4000000
namespace V
open PySem PySem.Spec PyProof.Rows L2 Evl
section
variable {P : Program} {w : World} {K : PySem.W.Frag} {mg : Str → Option Value} {base : Heap}
theorem ok_number (D : Def K mg "_law_number" s__law_number ["box"]) (G : Cal P w K mg base 1 "_law_take" ["box", "size"] spTake) : Cal P w K mg base 2 "_law_number" ["box"] spNum := by
  refine D.cal sc__law_number (fun vs H Q E h => ?_) (fun f cdv A outer s H vs Q E hr h => ?_)
  · obtain ⟨b, n, rfl, _⟩ := h
    rfl
  obtain ⟨b, n, rfl, hB, q⟩ := h
  refine ⟨_, pss_one (ps_ret (pe_ix ix_list (pe_lst (pa_cons (pe_fn G hr (by decide) (pa_cons (pv 0) (pa_cons pe_int pa_nil)))
    (pa_cons (pe_fn G hr (by decide) (pa_cons (pv 0) (pa_cons pe_int pa_nil)))
    (pa_cons (pe_op op_sub pe_int (pe_fn G hr (by decide) (pa_cons (pv 0) (pa_cons pe_int pa_nil)))) pa_nil))))
    (pe_fn G hr (by decide) (pa_cons (pv 0) (pa_cons pe_int pa_nil))) (fun _ _ => rfl))), ?_⟩
  refine ⟨_, rfl, b, 4, n + 3, rfl, by decide, by decide, hB, fun H1 r1 u1 B1 l1 g1 => ?_⟩
  refine ⟨_, rfl, b, 1000, n + 2, rfl, by decide, by decide, B1, fun H2 r2 u2 B2 l2 g2 => ?_⟩
  refine ⟨_, rfl, b, 3, n + 1, rfl, by decide, by decide, B2, fun H3 r3 u3 B3 l3 g3 => ?_⟩
  refine ⟨_, _, rfl, rfl, sz 3, fun p hp => ?_⟩
  have e4 : Ex H3 (upd H3 p (.lst [.int r1, .int r2, .int (1000002 - r3)])) := Ex.new hp
  refine ⟨_, rfl, b, 3, n, rfl, by decide, by decide, B3.ex e4, fun H5 r5 u5 B5 l5 g5 => ?_⟩
  have hbp : p ≠ b := by
    obtain ⟨xs, hx⟩ := B3.lst
    exact (ne_of_none hx hp).symm
  have h5 : H5 p = some (.lst [.int r1, .int r2, .int (1000002 - r3)]) := u5 p _ hbp upd_same
  have but : But b H H5 := ((u1.trans u2).trans u3).trans ((But.of e4).trans u5)
  have w5 : r5 = 0 ∨ r5 = 1 ∨ r5 = 2 := by omega
  rcases w5 with rfl | rfl | rfl
  · exact ⟨p, _, 0, _, rfl, rfl, SqL.of h5, rfl, q H5 _ but B5 (by omega) (by omega)⟩
  · exact ⟨p, _, 1, _, rfl, rfl, SqL.of h5, rfl, q H5 _ but B5 (by omega) (by omega)⟩
  · exact ⟨p, _, 2, _, rfl, rfl, SqL.of h5, rfl, q H5 _ but B5 (by omega) (by omega)⟩
theorem ok_box (D : Def K mg "_law_box" s__law_box ["script", "k"]) (zl : mg "len" = none) (za : mg "abs" = none) (zi : mg "int" = none) : Cal P w K mg base 1 "_law_box" ["script", "k"] (spBox K) := by
  refine D.cal sc__law_box (fun vs H Q E h => ?_) (fun f cdv A outer s H vs Q E hr h => ?_)
  · obtain ⟨a, ns, k, rfl, _⟩ := h
    rfl
  obtain ⟨a, ns, k, rfl, hS, hk, q⟩ := h
  refine ⟨_, pss_cons (ps_set (i := 2) sc__law_box.nd rfl (.inl rfl) (pe_ifExp (pt_cmpR op_lt (pv 1) (pe_bi call_len_seq zl (pa_cons (pv 0) pa_nil)) (nomark _)) (pe_ix ix_list (pv 0) (pv 1) (fun _ _ => rfl)) pe_int))
    (pss_one (ps_ret (pe_lst (pa_cons (pe_op op_mul (pe_bi call_abs za (pa_cons (pv 2) pa_nil)) (pe_bt call_int1 zi (pa_cons (pe_cmpR op_ge (pe_bi call_abs za (pa_cons (pv 2) pa_nil)) (pe_op op_pow pe_int pe_int) (nomark _)) pa_nil)))
      (pa_cons (pe_op op_mod (pe_op op_mul (pe_op op_add (pe_op op_add (pe_op op_mod (pv 2) pe_int) (pe_op op_mul pe_int (pv 1))) pe_int) pe_int) pe_int) (pa_cons pe_int pa_nil)))))), ?_⟩
  -- behind the cell
  have fin : ∀ cell : Int, tRet (tLst (tCons (tOp (rI CMul fun i j => .int (i * j)) (tCB (fun xs H Q => ∃ i, xs = [.int i] ∧ Q (.int (if i < 0 then -i else i)) H) (tCons (tVar 2) tNil))
      (tCB (fun xs H Q => (∃ i, xs = [.int i] ∧ Q (.int i) H) ∨ ∃ k, xs = [.bl k] ∧ Q (.int (if k then 1 else 0)) H) (tCons (tOp (rI0 fun i j => .bl (decide (j ≤ i))) (tCB (fun xs H Q => ∃ i, xs = [.int i] ∧ Q (.int (if i < 0 then -i else i)) H) (tCons (tVar 2) tNil)) (tOp (rI CPow fun i j => .int (i ^ j.toNat)) (tC (.int 10)) (tC (.int 18)))) tNil)))
      (tCons (tOp (rI (fun _ j => 0 < j) fun i j => .int (i % j)) (tOp (rI CMul fun i j => .int (i * j)) (tOp (rI0 fun i j => .int (i + j)) (tOp (rI0 fun i j => .int (i + j)) (tOp (rI (fun _ j => 0 < j) fun i j => .int (i % j)) (tVar 2) (tC (.int 2147483629))) (tOp (rI CMul fun i j => .int (i * j)) (tC (.int 15485863)) (tVar 1))) (tC (.int 43))) (tC (.int 48271))) (tC (.int 2147483647)))
      (tCons (tC (.int 0)) tNil)))) { nx := fun _ H' => Q .non H', rt := Q } [some (.ref a), some (.int (k : Int)), some (.int cell)] H := by
    intro cell
    have m0 : 0 ≤ cell % 2147483629 := Int.emod_nonneg _ (by decide)
    have m1 : cell % 2147483629 < 2147483629 := Int.emod_lt_of_pos _ (by decide)
    refine ⟨_, rfl, cell, rfl, _, rfl, cell, rfl, _, _, rfl, rfl, ⟨by decide, by decide, by decide⟩, _, _, rfl, rfl, .inr ⟨_, rfl, _, _, rfl, rfl, .inr ?_, ?_⟩⟩
    · have z := ite01 (decide ((10 : Int) ^ (18 : Int).toNat ≤ if cell < 0 then -cell else cell) = true)
      exact ⟨by omega, by omega⟩
    refine ⟨_, rfl, _, _, rfl, rfl, (by show (0 : Int) < 2147483629; decide), _, rfl, _, _, rfl, rfl, .inl ⟨by decide, by decide⟩, _, _, rfl, rfl, _, _, rfl, rfl, _, _, rfl, rfl, .inl ⟨by omega, by omega⟩, _, _, rfl, rfl, (by show (0 : Int) < 2147483647; decide), ?_⟩
    refine ⟨sz 3, fun p hp => q _ p hp (Ex.new hp) ⟨_, _, _, upd_same, ?_, Int.emod_nonneg _ (by decide), Int.emod_lt_of_pos _ (by decide), by decide, by decide⟩⟩
    exact Int.mul_nonneg (by split <;> omega) (ite01 (decide ((10 : Int) ^ (18 : Int).toNat ≤ if cell < 0 then -cell else cell) = true)).1
  refine ⟨_, rfl, _, rfl, a, _, rfl, .inl hS, _, _, rfl, rfl, _, rfl, ite2 (fun c => ?_) (fun c => ?_)⟩
  · have hlt : (k : Int) < ((ns.map V.int).length : Int) := of_decide_eq_true c
    rw [List.length_map] at hlt
    have hk2 : k < ns.length := by omega
    refine ⟨_, rfl, _, rfl, a, _, _, .int ns[k], rfl, rfl, hS, atI_nat (by rw [List.getElem?_map, List.getElem?_eq_getElem hk2]; rfl), ?_⟩
    exact fin _
  · exact fin 0
end
end V


set_option Elab.async false
set_option linter.all false
set_option maxRecDepth 100000
set_option maxHeartbeats 4000000
namespace V
open PySem PySem.Spec PyProof.Rows L2 Evl
section
variable {P : Program} {w : World} {K : PySem.W.Frag} {mg : Str → Option Value} {base : Heap}
theorem ok_folded (D : Def K mg "_law_folded" s__law_folded ["script", "size"]) (zl : mg "list" = none) (ze : mg "enumerate" = none) : Cal P w K mg base 1 "_law_folded" ["script", "size"] (spFold K) := by
  refine D.cal sc__law_folded (fun vs H Q E h => ?_) (fun f cdv A outer s H vs Q E hr h => ?_)
  · obtain ⟨a, ns, size, rfl, _⟩ := h
    rfl
  obtain ⟨a, ns, size, rfl, hS, h63, s0, s1, q⟩ := h
  refine ⟨_, pss_cons (ps_set (i := 2) sc__law_folded.nd rfl (.inl rfl) (pe_bt call_list_of zl (pa_cons (pe_slice sl_list (pv 0) po_none (po_some (pv 1))) pa_nil)))
    (pss_cons (ps_for PassesOwn.never rfl (pi_enum rfl ze (pa_cons (pe_slice sl_list (pv 0) (po_some (pv 1)) (po_some pe_int)) pa_nil))
        (pg_tup rfl (pgs_cons (pg_name (i := 3) sc__law_folded.nd rfl (.inl rfl)) (pgs_cons (pg_name (i := 4) sc__law_folded.nd rfl (.inl rfl)) pgs_nil)))
      (pss_one (ps_asg (pe_op op_add (pe_ix ix_list (pv 2) (pe_op op_mod (pv 3) (pv 1)) (fun _ _ => rfl)) (pe_op op_mul (pv 4) (pe_op op_add (pv 3) pe_int))) (pg_sub (pv 2) (pe_op op_mod (pv 3) (pv 1)) set_list))))
    (pss_one (ps_ret (pv 2)))), ?_⟩
  refine ⟨_, rfl, _, rfl, _, rfl, a, _, rfl, hS, fun p1 n1 => ?_⟩
  have e1 : Ex H (upd H p1 (.lst (cutV (ns.map V.int) none (some (size : Int))))) := Ex.new n1
  refine ⟨p1, _, rfl, .inl (SqL.of upd_same), fun l nl => ?_⟩
  have e2 := e1.trans (Ex.new (o := .lst (cutV (ns.map V.int) none (some (size : Int)))) nl)
  have nlH : H l = none := fresh_back e1 nl
  refine ⟨_, rfl, _, rfl, _, rfl, _, rfl, a, _, rfl, ex_l e2 hS, fun p2 n2 => ?_⟩
  have e3 := e2.trans (Ex.new (o := .lst (cutV (ns.map V.int) (some (size : Int)) (some 63))) n2)
  refine ⟨p2, _, rfl, SqL.of upd_same, ?_⟩
  have hl1 : HT.sIx ns.length 0 (some (size : Int)) = min size ns.length := HT.sIx_nat _ _ _
  obtain ⟨ms, em, lm⟩ : ∃ ms : List Int, cutV (ns.map V.int) none (some (size : Int)) = ms.map V.int ∧ ms.length = min size ns.length := by
    refine ⟨_, cutV_map V.int ns none (some (size : Int)), ?_⟩
    rw [List.length_take, List.length_drop, HT.sIx_nat, HT.sIx_none]
    omega
  obtain ⟨bs, eb, lb⟩ : ∃ bs : List Int, cutV (ns.map V.int) (some (size : Int)) (some 63) = bs.map V.int ∧ (bs ≠ [] → size < ns.length) ∧ bs.length ≤ 63 := by
    refine ⟨_, cutV_map V.int ns (some (size : Int)) (some 63), fun ne => ?_, ?_⟩
    · by_cases c : size < ns.length
      · exact c
      · refine absurd ?_ ne
        rw [hl1, List.drop_eq_nil_of_le (by omega), List.take_nil]
    · rw [List.length_take, List.length_drop]
      omega
  rw [em] at e2 e3
  rw [eb] at e3
  rw [em, eb]
  have hp2l : p2 ≠ l := fun z => by
    rw [z, upd_same] at n2
    cases n2
  refine for_it (walk_enum (xs := bs.map V.int)) (fun i σ H3 => ∃ (y3 y4 : Option V) (cs : List Int), σ = [some (.ref a), some (.int (size : Int)), some (.ref l), y3, y4] ∧ Ex H H3 ∧ H3 l = some (.lst (cs.map V.int)) ∧ cs.length = ms.length ∧ H3 p2 = some (.lst (bs.map V.int)))
    ⟨none, none, ms, rfl, e3, ?_, rfl, upd_same⟩ (fun i σ H3 hi ⟨_, _, _, _, _, _, _, h⟩ => SqL.of h) ?_ ?_
  · rw [upd_ne hp2l.symm, upd_same]
  · rintro i v σ H3 H4 hi ⟨y3, y4, cs, rfl, e, hl, lc, hp⟩ ⟨T, x, y, rfl, nT, rfl, hx, hy⟩
    obtain rfl : V.int ((i : Nat) : Int) = x := Option.some.inj hx
    rw [List.length_map] at hi
    obtain rfl : V.int bs[i] = y := by
      have hy2 : (bs.map V.int)[i]? = some y := hy
      rw [List.getElem?_map, List.getElem?_eq_getElem hi] at hy2
      exact Option.some.inj hy2
    have hne : bs ≠ [] := fun z => by
      subst z
      cases hi
    have hsz := lb.1 hne
    have lTl : l ≠ T := ne_of_none hl nT
    have lTp : p2 ≠ T := ne_of_none hp nT
    have eT : Ex H (upd H3 T (.tup [.int ((i : Nat) : Int), .int bs[i]])) := e.trans (Ex.new nT)
    have hlT : (upd H3 T (.tup [.int ((i : Nat) : Int), .int bs[i]])) l = some (.lst (cs.map V.int)) := by
      rw [upd_ne lTl]
      exact hl
    have m0 : 0 ≤ ((i : Nat) : Int) % (size : Int) := Int.emod_nonneg _ (by omega)
    have m1 : ((i : Nat) : Int) % (size : Int) < (size : Int) := Int.emod_lt_of_pos _ (by omega)
    obtain ⟨j, ej⟩ : ∃ j : Nat, ((i : Nat) : Int) % (size : Int) = (j : Int) := ⟨(((i : Nat) : Int) % (size : Int)).toNat, by omega⟩
    have hj : j < cs.length := by omega
    refine ⟨T, _, rfl, SqT.of upd_same, rfl, _, _, rfl, _, _, rfl, rfl, ?_⟩
    refine ⟨_, rfl, _, rfl, _, rfl, _, _, rfl, rfl, (by show (0 : Int) < (size : Int); omega), l, cs.map V.int, (j : Int), .int cs[j], rfl, congrArg V.int ej, SqL.of hlT, atI_nat (by rw [List.getElem?_map, List.getElem?_eq_getElem hj]; rfl),
      _, rfl, _, rfl, _, _, rfl, rfl, _, _, rfl, rfl, .inr ⟨by omega, by omega⟩, _, _, rfl, rfl, _, rfl, _, rfl, _, rfl, _, _, rfl, rfl, (by show (0 : Int) < (size : Int); omega), l, _, (j : Int), j, rfl, congrArg V.int ej, hlT, ixN_nat (by rw [List.length_map]; exact hj), ?_⟩
    refine ⟨some (.int ((i : Nat) : Int)), some (.int bs[i]), cs.set j (cs[j] + bs[i] * (((i : Nat) : Int) + 2)), rfl, Ex.mut eT nlH, ?_, ?_, ?_⟩
    · rw [upd_same, List.map_set]
    · rw [List.length_set]
      exact lc
    · rw [upd_ne hp2l, upd_ne lTp]
      exact hp
  · rintro σ H3 ⟨y3, y4, cs, rfl, e, hl, lc, hp⟩
    exact ⟨_, rfl, q H3 l cs nlH e hl (by omega)⟩
end
end V


set_option Elab.async false
set_option linter.all false
set_option maxRecDepth 100000
set_option maxHeartbeats 4000000
namespace V
open PySem PySem.Spec PyProof.Rows L2 Evl
section
variable {P : Program} {w : World} {K : PySem.W.Frag} {mg : Str → Option Value} {base : Heap}
theorem ok_parts (D : Def K mg "parts_of" s_parts_of ["term"]) (O : Ops K w mg) (gC : ∃ a, mg "CALLS" = some (.ref a) ∧ ∀ H, SqT K H a [.str "call", .str "ring", .str "name"]) : Cal P w K mg base 1 "parts_of" ["term"] spParts := by
  obtain ⟨d, es, n, gO, KD, hin, hval⟩ := O.ex
  obtain ⟨dc, gC, hC⟩ := gC
  refine D.cal sc_parts_of (fun vs H Q E h => ?_) (fun f cdv A outer s H vs Q E hr h => ?_)
  · obtain ⟨v, t, rfl, _⟩ := h
    rfl
  obtain ⟨v, t, rfl, hT, hl, q⟩ := h
  refine ⟨_, pss_cons (ps_if (pt_cmpR (op_in_kd KD) (pe_ix ix_tup (pv 0) pe_int (fun _ _ => rfl)) (pe_glob (v := .ref d) rfl gO rfl) rfl) (pss_one (ps_ret (pe_slice sl_tupA (pv 0) (po_some pe_int) po_none))) pss_nil)
    (pss_cons (ps_if (pt_cmpR op_in_seq (pe_ix ix_tup (pv 0) pe_int (fun _ _ => rfl)) (pe_glob (v := .ref dc) rfl gC rfl) rfl) (pss_one (ps_ret (pe_ix ix_tup (pv 0) pe_int (fun _ _ => rfl)))) pss_nil)
    (pss_one (ps_ret (pe_tup pa_nil)))), ?_⟩
  obtain ⟨a, r, rfl, ha⟩ := hT.head
  obtain ⟨x, hx, hx2⟩ := hin t.word
  refine ⟨_, rfl, a, _, 0, _, rfl, rfl, SqT.of ha, at0, t.word, x, rfl, rfl, hx, _, rfl, ?_⟩
  rw [hx2]
  cases hT with
  | @op _ o ws ts h hs =>
    rw [show decide ((Tm.node (.op o) ts).word ∈ opWords) = true from op_in o]
    refine iteT ⟨_, rfl, 1, rfl, a, _, rfl, SqT.of h, fun z => ?_, fun _ p hp => ?_⟩
    · have z1 : HT.sIx (V.str o.str :: ws).length 0 (some ((1 : Nat) : Int)) = 0 := z.1
      rw [HT.sIx_nat, List.length_cons] at z1
      omega
    · have e1 : cutV (V.str o.str :: ws) (some 1) none = ws := by
        show cutV (V.str o.str :: ws) (some ((1 : Nat) : Int)) none = ws
        unfold cutV
        rw [HT.sIx_nat, HT.sIx_none, List.length_cons, Nat.min_eq_left (by omega)]
        show (List.take (ws.length + 1 - 1) ws) = ws
        exact List.take_length
      rw [e1]
      exact q _ p ws (Ex.new hp) upd_same (hs.ex (Ex.new hp))
  | num h =>
    refine iteF ⟨_, rfl, a, _, 0, _, rfl, rfl, SqT.of h, rfl, dc, _, rfl, .inr (hC _), rfl, rfl, _, rfl, iteF ⟨sz 0, fun p2 hp2 => ?_⟩⟩
    exact q _ p2 [] (Ex.new hp2) upd_same .nil
  | arg h =>
    refine iteF ⟨_, rfl, a, _, 0, _, rfl, rfl, SqT.of h, rfl, dc, _, rfl, .inr (hC _), rfl, rfl, _, rfl, iteF ⟨sz 0, fun p2 hp2 => ?_⟩⟩
    exact q _ p2 [] (Ex.new hp2) upd_same .nil
  | @call _ b m ws ts h h2 hs =>
    refine iteF ⟨_, rfl, a, _, 0, _, rfl, rfl, SqT.of h, rfl, dc, _, rfl, .inr (hC _), rfl, rfl, _, rfl, iteT ⟨_, rfl, a, _, 2, _, rfl, rfl, SqT.of h, rfl, ?_⟩⟩
    exact q _ b ws (Ex.refl H) h2 hs
  | @ring _ b m ws ts h h2 hs =>
    refine iteF ⟨_, rfl, a, _, 0, _, rfl, rfl, SqT.of h, rfl, dc, _, rfl, .inr (hC _), rfl, rfl, _, rfl, iteT ⟨_, rfl, a, _, 2, _, rfl, rfl, SqT.of h, rfl, ?_⟩⟩
    exact q _ b ws (Ex.refl H) h2 hs
end
end V


set_option Elab.async false
set_option linter.all false
set_option maxRecDepth 100000
set_option maxHeartbeats 4000000
namespace V
open PySem PySem.Spec PyProof.Rows L2 Evl
section
variable {P : Program} {w : World} {K : PySem.W.Frag} {mg : Str → Option Value} {base : Heap}
theorem ok_all (D : Def K mg "terms_of" s_terms_of ["term"]) (GP : Cal P w K mg base 1 "parts_of" ["term"] spParts) : ∀ n : Nat, Cal P w K mg base (n + 1) "terms_of" ["term"] (spAll n)
  | 0 => (D.never fun vs H Q E h => by
      obtain ⟨v, t, M, _, _, _, h1, _⟩ := h
      have := deep_pos t
      omega).mono (Nat.zero_le _)
  | n + 1 => by
    have G := ok_all D GP n
    refine D.cal sc_terms_of (fun vs H Q E h => ?_) (fun f cdv A outer s H vs Q E hr h => ?_)
    · obtain ⟨v, t, M, rfl, _⟩ := h
      rfl
    obtain ⟨v, t, M, rfl, hT, hO, hd, hz, q⟩ := h
    refine ⟨_, pss_cons (ps_set (i := 1) sc_terms_of.nd rfl (.inl rfl) (pe_lst (pa_cons (pv 0) pa_nil)))
      (pss_cons (ps_for PassesOwn.never rfl (pi_tup (pe_fn GP hr (by omega) (pa_cons (pv 0) pa_nil))) (pg_name (i := 2) sc_terms_of.nd rfl (.inl rfl))
        (pss_one (ps_expr (pe_bm PySem.F.plainAttrs_list PySem.F.slot_list_extend PySem.F.type_list_extend mt_extend (pv 1) (pa_cons (pe_fn G hr (by omega) (pa_cons (pv 2) pa_nil)) pa_nil)))))
      (pss_one (ps_ret (pv 1)))), ?_⟩
    refine ⟨_, rfl, sz 1, fun l nl => ?_⟩
    have e1 : Ex H (upd H l (.lst [v])) := Ex.new nl
    refine ⟨_, rfl, v, t, rfl, hT.ex e1, hO.few, fun H2 p us e2 h2 hus => ?_⟩
    have hlen : us.length = t.parts.length := hus.length
    refine ⟨p, rfl, ⟨us, SqT.of h2⟩, for_tup (xs := us) (fun i σ H3 => ∃ (y : Option V) (ws : List V), σ = [some v, some (.ref l), y] ∧ Ex H H3 ∧ Tu H2 H3 ∧ H3 l = some (.lst ws) ∧ TmsAt H3 ws (t :: Tm.alls (t.parts.take i)))
      ⟨none, [v], rfl, e1.trans e2, Tu.refl _, e2 l _ upd_same, .cons (hT.ex (e1.trans e2)) .nil⟩ (fun i σ H3 _ ⟨_, _, _, _, t3, _⟩ => SqT.of (t3 p _ h2)) ?_ ?_⟩
    · rintro i x σ H3 hi ⟨y, ws, rfl, e3, t3, hl, hws⟩
      obtain ⟨u, hu, hxu⟩ := hus.get hi
      have hum := get_mem hu
      have usz : u.size ≤ Tm.sizes t.parts := size_mem hum
      have tsz := size_parts t
      refine ⟨_, rfl, .inl ⟨rfl, ws, SqL.of hl⟩, _, rfl, x, u, M, rfl, hxu.tu t3, hO.parts hum, by have := parts_deep hum; omega, by omega, fun H4 p4 us4 n4 e4 h4 hus4 => ?_⟩
      have lw : ws.length ≤ 1000 := by
        rw [hws.length, List.length_cons, alls_len]
        have := sizes_take t.parts i
        omega
      have lu : us4.length ≤ 1000 := by
        rw [hus4.length, all_len]
        omega
      have hl4 := e4 l _ hl
      refine ⟨l, p4, ws, us4, rfl, rfl, hl4, h4, Nat.le_trans (Nat.add_le_add lw lu) (by decide), ?_⟩
      have tu4 : Tu H4 (upd H4 l (.lst (ws ++ us4))) := But.tu (But.upd (But.refl l H4)) hl4
      refine ⟨some x, ws ++ us4, rfl, Ex.mut (e3.trans e4) nl, t3.trans ((Tu.of e4).trans tu4), upd_same, ?_⟩
      rw [take_more hu, alls_append]
      have : Tm.alls [u] = u.all := List.append_nil _
      rw [this]
      exact ((hws.ex e4).tu tu4).append (hus4.tu tu4)
    · rintro σ H3 ⟨y, ws, rfl, e3, t3, hl, hws⟩
      rw [hlen, List.take_length, ← all_parts] at hws
      exact ⟨_, rfl, q H3 l ws nl e3 hl hws⟩
/-- its size -/
theorem ok_size {n : Nat} (D : Def K mg "size_of" s_size_of ["term"]) (G : Cal P w K mg base (n + 1) "terms_of" ["term"] (spAll n)) (zl : mg "len" = none) : Cal P w K mg base (n + 2) "size_of" ["term"] (spSize n) := by
  refine D.cal sc_size_of (fun vs H Q E h => ?_) (fun f cdv A outer s H vs Q E hr h => ?_)
  · obtain ⟨v, t, M, rfl, _⟩ := h
    rfl
  obtain ⟨v, t, M, rfl, hT, hO, hd, hz, q⟩ := h
  refine ⟨_, pss_one (ps_ret (pe_bi call_len_seq zl (pa_cons (pe_fn G hr (by omega) (pa_cons (pv 0) pa_nil)) pa_nil))), ?_⟩
  refine ⟨_, rfl, v, t, M, rfl, hT, hO, hd, hz, fun H1 p us np e1 h1 hus => ⟨p, us, rfl, .inl (SqL.of h1), ?_⟩⟩
  rw [hus.length, all_len]
  exact q H1 e1
/-- how deep it is -/
theorem ok_deep (D : Def K mg "deep_of" s_deep_of ["term"]) (GP : Cal P w K mg base 1 "parts_of" ["term"] spParts) (zm : mg "max" = none) : ∀ n : Nat, Cal P w K mg base (n + 1) "deep_of" ["term"] (spDeep n)
  | 0 => (D.never fun vs H Q E h => by
      obtain ⟨v, t, M, _, _, _, h1, _⟩ := h
      have := deep_pos t
      omega).mono (Nat.zero_le _)
  | n + 1 => by
    have G := ok_deep D GP zm n
    refine D.cal sc_deep_of (fun vs H Q E h => ?_) (fun f cdv A outer s H vs Q E hr h => ?_)
    · obtain ⟨v, t, M, rfl, _⟩ := h
      rfl
    obtain ⟨v, t, M, rfl, hT, hO, hd, q⟩ := h
    refine ⟨_, pss_one (ps_ret (pe_op op_add pe_int (pe_maxDf rfl hr.units zm (pa_cons (pe_lc (own := [("part", 1)]) (g := gName 1) (tt := tYes) rfl sc_deep_of.nd (pi_tup (pe_fn GP hr (by omega) (pa_cons (pv 0) pa_nil)))
      (blkOk_by (N := N_deep_of) (sc := defScope s_deep_of) (by decide +kernel)) (fun _ _ _ _ _ => pg_name (i := 1) sc_deep_of.nd rfl (.inl rfl)) (fun _ _ _ _ _ => pts_nil) (fun _ _ _ _ _ => pe_fn G hr (by omega) (pa_cons (pv 1) pa_nil))) pa_nil) (pk_cons pe_int pk_nil)))), ?_⟩
    refine ⟨_, rfl, v, t, rfl, hT, hO.few, fun H1 p us e1 h1 hus => ?_⟩
    have hlen : us.length = t.parts.length := hus.length
    refine ⟨p, rfl, ⟨us, SqT.of h1⟩, fun Dl hD => ?_⟩
    refine lc_tup (xs := us) (fun i H3 => Ex H1 H3 ∧ H3 Dl = some (.lst (((t.parts.take i).map fun u => (u.deep : Int)).map V.int))) ⟨Ex.new hD, upd_same⟩ (fun i H3 _ k => SqT.of (k.1 p _ h1)) ?_ ?_
    · rintro i x H3 hi ⟨e3, h3⟩
      obtain ⟨u, hu, hxu⟩ := hus.get hi
      have hum := get_mem hu
      refine ⟨rfl, yes ⟨_, rfl, x, u, M, rfl, hxu.ex e3, hO.parts hum, by have := parts_deep hum; omega, fun H4 e4 => ⟨_, e4 Dl _ h3, ?_, Ex.mut (e3.trans e4) hD, ?_⟩⟩⟩
      · rw [List.length_map, List.length_map, List.length_take]
        exact small1000 (by have := hO.few; omega)
      · rw [upd_same, take_more hu, List.map_append, List.map_append]
        rfl
    · rintro H3 ⟨e3, h3⟩
      rw [hlen, List.take_length] at h3
      have hdp := deep_parts t
      have fin : ∀ m : Int, m = (Tm.deeps t.parts : Int) → ∃ i j, V.int 1 = V.int i ∧ V.int m = V.int j ∧ Q (.int (i + j)) H3 := fun m em => ⟨1, m, rfl, rfl, by
        rw [em, show (1 : Int) + (Tm.deeps t.parts : Int) = (t.deep : Int) by omega]
        exact q H3 (e1.trans e3)⟩
      refine ⟨Dl, _, 0, rfl, rfl, SqL.of h3, fun en => ?_, fun m hm top => fin m (deeps_max _ m hm top)⟩
      refine fin 0 ?_
      have : t.parts = [] := List.map_eq_nil_iff.mp en
      rw [this]
      rfl
end
end V


set_option Elab.async false
set_option linter.all false
set_option maxRecDepth 100000
set_option maxHeartbeats 4000000
namespace V
open PySem PySem.Spec PyProof.Rows L2 Evl
open VS in
section
variable {P : Program} {w : World} {K : PySem.W.Frag} {mg : Str → Option Value} {base : Heap}
theorem ok_places {n : Nat} (D : Def K mg "places_of" s_places_of ["term"]) (G : Cal P w K mg base (n + 1) "terms_of" ["term"] (spAll n)) : Cal P w K mg base (n + 2) "places_of" ["term"] (spPlaces n) := by
  refine D.cal sc_places_of (fun vs H Q E h => ?_) (fun f cdv A outer s H vs Q E hr h => ?_)
  · obtain ⟨v, t, M, rfl, _⟩ := h
    rfl
  obtain ⟨v, t, M, rfl, hT, hO, hd, hz, q⟩ := h
  refine ⟨_, pss_one (ps_ret (pe_lc (own := [("inner", 1)]) (g := gName 1) rfl sc_places_of.nd (pi_list (pe_fn G hr (by omega) (pa_cons (pv 0) pa_nil)))
    (blkOk_by (N := N_places_of) (sc := defScope s_places_of) (by decide +kernel)) (fun _ _ _ _ _ => pg_name (i := 1) sc_places_of.nd rfl (.inl rfl))
    (fun _ _ _ _ _ => pts_one (pt_cmpR op_eq (pe_ix (r := rIxT K) ix_tup (pv 1) pe_int (fun _ _ => rfl)) pe_str (nomark _))) (fun _ _ _ _ _ => pe_ix (r := rIxT K) ix_tup (pv 1) pe_int (fun _ _ => rfl)))), ?_⟩
  refine ⟨_, rfl, v, t, M, rfl, hT, hO, hd, hz, fun H1 p us np e1 h1 hus => ⟨p, rfl, ⟨us, SqL.of h1⟩, fun Dl hD => ?_⟩⟩
  have hlen : us.length = t.all.length := hus.length
  refine lc_list (xs := us) (fun i H3 => Ex H1 H3 ∧ H3 Dl = some (.lst (((t.all.take i).flatMap Tm.pl1).map fun k : Nat => V.int (k : Int)))) ⟨Ex.new hD, upd_same⟩ (fun i H3 _ k => SqL.of (k.1 p _ h1)) ?_ ?_
  · rintro i x H3 hi ⟨e3, h3⟩
    obtain ⟨u, hu, hxu⟩ := hus.get hi
    have hx3 := hxu.ex e3
    have bnd : ((t.all.take i).flatMap Tm.pl1).length ≤ i := by
      have : ∀ l : List Tm, (l.flatMap Tm.pl1).length ≤ l.length := by
        intro l
        induction l with
        | nil => exact Nat.zero_le _
        | cons c l ih =>
          rw [List.flatMap_cons, List.length_append, List.length_cons]
          have h1 : c.pl1.length ≤ 1 := by
            unfold Tm.pl1
            split <;> simp
          omega
      have h1 := this (t.all.take i)
      rw [List.length_take] at h1
      omega
    have hi2 := (List.getElem?_eq_some_iff.mp hu).1
    have lt : (((t.all.take i).flatMap Tm.pl1).map fun k : Nat => V.int (k : Int)).length < sizeLine := by
      rw [List.length_map]
      rw [all_len] at hi2
      exact small1000 (by omega)
    refine ⟨rfl, ?_⟩
    have no : ∀ {a : Addr} {r : List V} {wd : Str}, x = .ref a → H3 a = some (.tup (.str wd :: r)) → wd ≠ "ring" → u.pl1 = [] →
        (tTest (tOp rEq (tOp (rIxT K) (tVar 1) (tC (.int 0))) (tC (.str "ring")))) [some v, some x] H3 fun b H3' => if b = true then (tOp (rIxT K) (tVar 1) (tC (.int 1))) [some v, some x] H3' fun y H4 => ∃ acc, H4 Dl = some (.lst acc) ∧ acc.length < sizeLine ∧
          (Ex H1 (upd H4 Dl (.lst (acc ++ [y]))) ∧ upd H4 Dl (.lst (acc ++ [y])) Dl = some (.lst (((t.all.take (i + 1)).flatMap Tm.pl1).map fun k : Nat => V.int (k : Int))))
          else (Ex H1 H3' ∧ H3' Dl = some (.lst (((t.all.take (i + 1)).flatMap Tm.pl1).map fun k : Nat => V.int (k : Int)))) := by
      rintro a r wd rfl ha ne e0
      refine ⟨_, rfl, a, _, 0, _, rfl, rfl, SqT.of ha, at0, rfl, _, rfl, ?_⟩
      rw [decide_eq_false (fun z => ne (V.str.inj z))]
      refine iteF ⟨e3, ?_⟩
      rw [take_flat hu, e0, List.append_nil]
      exact h3
    cases hx3 with
    | num h => exact no rfl h (by decide +kernel) rfl
    | arg h => exact no rfl h (by decide +kernel) rfl
    | @op _ o _ _ h _ => exact no rfl h (by cases o <;> decide +kernel) rfl
    | call h _ _ => exact no rfl h (by decide +kernel) rfl
    | @ring a b k ws ts h h2 hs =>
      refine ⟨_, rfl, a, _, 0, _, rfl, rfl, SqT.of h, rfl, rfl, _, rfl, ?_⟩
      rw [decide_eq_true rfl]
      refine iteT ⟨_, rfl, a, _, 1, _, rfl, rfl, SqT.of h, rfl, _, h3, lt, Ex.mut e3 hD, ?_⟩
      rw [upd_same, take_flat hu, List.map_append]
      rfl
  · rintro H3 ⟨e3, h3⟩
    rw [hlen, List.take_length] at h3
    exact q H3 Dl (fresh_back e1 hD) (e1.trans e3) h3
theorem ok_calls {n : Nat} (D : Def K mg "calls_of" s_calls_of ["term"]) (G : Cal P w K mg base (n + 1) "terms_of" ["term"] (spAll n)) (zs : mg "sorted" = none) : Cal P w K mg base (n + 2) "calls_of" ["term"] (spCalls n) := by
  refine D.cal sc_calls_of (fun vs H Q E h => ?_) (fun f cdv A outer s H vs Q E hr h => ?_)
  · obtain ⟨v, t, M, rfl, _⟩ := h
    rfl
  obtain ⟨v, t, M, rfl, hT, hO, hd, hz, q⟩ := h
  refine ⟨_, pss_one (ps_ret (pe_bi (cr_sortS rfl) zs (pa_cons (pe_scS (own := [("inner", 1)]) (g := gName 1) rfl sc_calls_of.nd (pi_list (pe_fn G hr (by omega) (pa_cons (pv 0) pa_nil)))
    (blkOk_by (N := N_calls_of) (sc := defScope s_calls_of) (by decide +kernel)) (fun _ _ _ _ _ => pg_name (i := 1) sc_calls_of.nd rfl (.inl rfl))
    (fun _ _ _ _ _ => pts_one (pt_cmpR op_eq (pe_ix (r := rIxT K) ix_tup (pv 1) pe_int (fun _ _ => rfl)) pe_str (nomark _))) (fun _ _ _ _ _ => pe_ix (r := rIxT K) ix_tup (pv 1) pe_int (fun _ _ => rfl))) pa_nil))), ?_⟩
  refine ⟨_, rfl, v, t, M, rfl, hT, hO, hd, hz, fun H1 p us np e1 h1 hus => ⟨p, rfl, ⟨us, SqL.of h1⟩, fun Dl hD => ?_⟩⟩
  have hlen : us.length = t.all.length := hus.length
  refine scS_list (xs := us) (fun i H3 => Ex H1 H3 ∧ ∃ (S : Str → Bool) (m : Nat), H3 Dl = some (SetSO w Dl S m) ∧ m ≤ i ∧ ∀ x, S x = true ↔ x ∈ (t.all.take i).flatMap Tm.mk1) ⟨Ex.new hD, _, 0, upd_same, Nat.le_refl _, fun x => by simp⟩
    (fun i H3 _ k => SqL.of (k.1 p _ h1)) ?_ ?_
  · rintro i x H3 hi ⟨e3, S, m, h3, hm, hS⟩
    obtain ⟨u, hu, hxu⟩ := hus.get hi
    have hx3 := hxu.ex e3
    have hi2 := (List.getElem?_eq_some_iff.mp hu).1
    rw [all_len] at hi2
    refine ⟨rfl, ?_⟩
    have no : ∀ {a : Addr} {r : List V} {wd : Str}, x = .ref a → H3 a = some (.tup (.str wd :: r)) → wd ≠ "call" → u.mk1 = [] →
        (tTest (tOp rEq (tOp (rIxT K) (tVar 1) (tC (.int 0))) (tC (.str "call")))) [some v, some x] H3 fun b H3' => if b = true then (tOp (rIxT K) (tVar 1) (tC (.int 1))) [some v, some x] H3' fun y H4 => ∃ (c : Str) (S : Str → Bool) (n : Nat), y = .str c ∧
          H4 Dl = some (SetSO w Dl S n) ∧ n + 1 < scanBound ∧ (Ex H1 (upd H4 Dl (SetSO w Dl (fun z => S z || decide (z = c)) (if S c = true then n else n + 1))) ∧ ∃ (S' : Str → Bool) (m : Nat),
            upd H4 Dl (SetSO w Dl (fun z => S z || decide (z = c)) (if S c = true then n else n + 1)) Dl = some (SetSO w Dl S' m) ∧ m ≤ i + 1 ∧ ∀ x, S' x = true ↔ x ∈ (t.all.take (i + 1)).flatMap Tm.mk1)
          else (Ex H1 H3' ∧ ∃ (S : Str → Bool) (m : Nat), H3' Dl = some (SetSO w Dl S m) ∧ m ≤ i + 1 ∧ ∀ x, S x = true ↔ x ∈ (t.all.take (i + 1)).flatMap Tm.mk1) := by
      rintro a r wd rfl ha ne e0
      refine ⟨_, rfl, a, _, 0, _, rfl, rfl, SqT.of ha, at0, rfl, _, rfl, ?_⟩
      rw [decide_eq_false (fun z => ne (V.str.inj z))]
      refine iteF ⟨e3, S, m, h3, by omega, fun y => ?_⟩
      rw [take_flat hu, e0, List.append_nil]
      exact hS y
    cases hx3 with
    | num h => exact no rfl h (by decide +kernel) rfl
    | arg h => exact no rfl h (by decide +kernel) rfl
    | @op _ o _ _ h _ => exact no rfl h (by cases o <;> decide +kernel) rfl
    | ring h _ _ => exact no rfl h (by decide +kernel) rfl
    | @call a b c ws ts h h2 hs =>
      refine ⟨_, rfl, a, _, 0, _, rfl, rfl, SqT.of h, rfl, rfl, _, rfl, ?_⟩
      rw [decide_eq_true rfl]
      refine iteT ⟨_, rfl, a, _, 1, _, rfl, rfl, SqT.of h, rfl, c, S, m, rfl, h3, by unfold scanBound; omega, Ex.mut e3 hD, _, _, upd_same, ?_, fun y => ?_⟩
      · split <;> omega
      · rw [take_flat hu, List.mem_append, ← hS y, Bool.or_eq_true, decide_eq_true_eq]
        show _ ↔ _ ∨ y ∈ [c]
        rw [List.mem_singleton]
  · rintro H3 ⟨e3, S, m, h3, hm, hS⟩
    rw [hlen, List.take_length] at hS
    refine ⟨Dl, S, m, rfl, h3, fun xs p2 s1 s2 s3 n2 => ?_⟩
    exact q _ p2 xs (fresh_back (e1.trans e3) n2) ((e1.trans e3).trans (Ex.new n2)) upd_same (sorted_rise s1 s2) fun x => (s3 x).trans (hS x)
end
end V


set_option Elab.async false
set_option linter.all false
set_option maxRecDepth 100000
set_option maxHeartbeats 4000000
namespace V
open PySem PySem.Spec PyProof.Rows L2 Evl
section
variable {P : Program} {w : World} {K : PySem.W.Frag} {mg : Str → Option Value} {base : Heap}
theorem ok_isMark (D : Def K mg "is_mark" s_is_mark ["thing"]) (zi : mg "isinstance" = none) (zs : mg "str" = none) (zl : mg "len" = none) (za : mg "all" = none) (cL : ∃ t, mg "MARK_LENGTH" = some (.int 6 t))
    (cS : ∃ t, mg "SIGNS" = some (.str sgS t)) (cB : ∃ t, mg "BASE" = some (.int 36 t)) : Cal P w K mg base 1 "is_mark" ["thing"] (spTest Small isMarkD K) := by
  refine D.cal sc_is_mark (fun vs H Q E h => ?_) (fun f cdv A outer s H vs Q E hr h => ?_)
  · obtain ⟨v, d, rfl, _⟩ := h
    rfl
  obtain ⟨v, d, rfl, hd, hs, q⟩ := h
  refine ⟨_, pss_cons (ps_if (PW.pt (pw_or (pt_not (pt_val (pe_bi call_isi zi (pa_cons (pv 0) (pa_cons (pe_ty zs) pa_nil))))) (pw_or1 (pt_cmpR op_ne (pe_bi call_len zl (pa_cons (pv 0) pa_nil)) (pe_gi cL) (nomark _)))))
      (pss_one (ps_ret pe_bl)) pss_nil)
    (pss_one (ps_ret (pe_bi (cr_all rfl) za (pa_cons (pe_lc (own := [("sign", 1)]) (g := gName 1) (tt := tYes) rfl sc_is_mark.nd (pi_str (pv 0)) (blkOk_by (N := N_is_mark) (sc := defScope s_is_mark) (by decide +kernel))
      (fun _ _ _ _ _ => pg_name (i := 1) sc_is_mark.nd rfl (.inl rfl)) (fun _ _ _ _ _ => pts_nil) (fun _ _ _ _ _ => pe_cmpR op_in_sign (pv 1) (pe_slice sl_str (pe_gs cS) po_none (po_some (pe_gi cB))) rfl)) pa_nil)))), ?_⟩
  refine ⟨v, rfl, _, _, _, _, _, rfl, .ty _, (dp_ty hd), kit_ty (kit_str d), _, rfl, ?_⟩
  have no : isMarkD d = false → tRet (tC (.bl false)) { nx := fun _ _ => True, rt := Q } [some v, none] H := fun e => by
    have q1 := q H (Ex.refl H)
    rw [e] at q1
    exact q1
  cases hs with
  | str hx =>
    rename_i x
    cases hd
    refine iteF ⟨_, rfl, _, x.length, rfl, ⟨Nat.le_trans hx (by decide), rfl⟩, rfl, _, rfl, ?_⟩
    by_cases c : x.length = 6
    · rw [decide_eq_true (show V.int (x.length : Int) = V.int 6 by rw [c]; rfl)]
      refine iteF ⟨_, rfl, x, rfl, fun Dl hD => ?_⟩
      refine lc_it walk_str (fun i H3 => Ex H H3 ∧ H3 Dl = some (.lst (((x.cps.toList.take i).map fun c => decide (c ∈ sgM.cps.toList)).map V.bl))) ⟨Ex.new hD, upd_same⟩ (fun _ _ _ _ => trivial) ?_ ?_
      · rintro i y H3 H4 hi ⟨e3, h3⟩ ⟨rfl, c, hc, rfl⟩
        have hc2 : x.cps.toList[i]? = some c := by rw [Array.getElem?_toList]; exact hc
        refine ⟨rfl, yes ⟨_, rfl, _, rfl, sgS, rfl, (by decide +kernel), c, _, rfl, rfl, _, h3, ?_, Ex.mut e3 hD, ?_⟩⟩
        · rw [List.length_map, List.length_map, List.length_take]
          exact small1000 (by have : x.cps.toList.length = x.length := Array.length_toList; omega)
        · rw [upd_same, take_more hc2, List.map_append, List.map_append, cut_sg]
          rfl
      · rintro H3 ⟨e3, h3⟩
        rw [show x.cps.size = x.cps.toList.length from Array.length_toList.symm, List.take_length] at h3
        refine ⟨Dl, _, rfl, SqL.of h3, ?_⟩
        rw [all_take]
        have q1 := q H3 e3
        have e1 : isMarkD (.str x) = x.cps.toList.all fun c => decide (c ∈ sgM.cps.toList) := by
          show (x.length == 6 && _) = _
          rw [c]
          rfl
        rw [e1] at q1
        exact q1
    · rw [decide_eq_false (fun z => c (by have := V.int.inj z; omega))]
      refine iteT (no ?_)
      show (x.length == 6 && _) = false
      rw [beq_eq_false_iff_ne.mpr c]
      rfl
  | _ => exact iteT (iteT (no rfl))
end
end V


set_option Elab.async false
set_option linter.all false
set_option maxRecDepth 100000
set_option maxHeartbeats 4000000
namespace V
open PySem PySem.Spec PyProof.Rows L2 Evl
section
variable {P : Program} {w : World} {K : PySem.W.Frag} {mg : Str → Option Value} {base : Heap}
theorem ok_numTo (D : Def K mg "is_number_to" s_is_number_to ["most", "thing"]) (zi : mg "isinstance" = none) (zn : mg "int" = none) (zb : mg "bool" = none) : Cal P w K mg base 1 "is_number_to" ["most", "thing"] (spNumTo K) := by
  refine D.cal sc_is_number_to (fun vs H Q E h => ?_) (fun f cdv A outer s H vs Q E hr h => ?_)
  · obtain ⟨m, v, d, rfl, _⟩ := h
    rfl
  obtain ⟨m, v, d, rfl, hd, q⟩ := h
  refine ⟨_, pss_one (ps_ret (pe_and (pe_bi call_isi zi (pa_cons (pv 1) (pa_cons (pe_ty zn) pa_nil))) (pe_and (pe_not (pe_bi call_isi zi (pa_cons (pv 1) (pa_cons (pe_ty zb) pa_nil)))) (pe_one (pe_chain op_le op_le pe_int (pv 1) (pv 0)))))), ?_⟩
  have q1 := q H (Ex.refl H)
  refine ⟨v, rfl, _, _, _, _, _, rfl, .ty _, (dp_ty hd), kit_ty (kit_int d), _, rfl, ?_⟩
  cases hd with
  | int i =>
    refine iteT ⟨_, rfl, _, _, _, _, _, rfl, .ty _, (dp_ty (Dp.int i)), kit_ty (kit_bool (.int i)), _, rfl, _, rfl, iteT ⟨_, rfl, _, _, rfl, rfl, _, rfl, ?_⟩⟩
    have e : isNumD m (.int i) = (decide (0 ≤ i) && decide (i ≤ m)) := rfl
    rw [e] at q1
    by_cases c : 0 ≤ i
    · rw [decide_eq_true c] at q1 ⊢
      exact iteT ⟨_, rfl, _, _, rfl, rfl, q1⟩
    · rw [decide_eq_false c] at q1 ⊢
      exact iteF q1
  | bl b => exact iteT ⟨_, rfl, _, _, _, _, _, rfl, .ty _, (dp_ty (Dp.bl b)), kit_ty (kit_bool (.bool b)), _, rfl, _, rfl, iteF q1⟩
  | _ => exact iteF q1
theorem ok_isParts (D : Def K mg "is_parts" s_is_parts ["thing"]) (zi : mg "isinstance" = none) (zt : mg "tuple" = none) (zl : mg "len" = none) (cM : ∃ t, mg "MOST_PARTS" = some (.int 4 t)) :
    Cal P w K mg base 1 "is_parts" ["thing"] (spTest (fun _ => True) isPartsD K) := by
  refine D.cal sc_is_parts (fun vs H Q E h => ?_) (fun f cdv A outer s H vs Q E hr h => ?_)
  · obtain ⟨v, d, rfl, _⟩ := h
    rfl
  obtain ⟨v, d, rfl, hd, _, q⟩ := h
  refine ⟨_, pss_one (ps_ret (pe_and (pe_bi call_isi zi (pa_cons (pv 0) (pa_cons (pe_ty zt) pa_nil))) (pe_one (pe_cmpR op_le (pe_bi call_len_seq zl (pa_cons (pv 0) pa_nil)) (pe_gi cM) (nomark _))))), ?_⟩
  have q1 := q H (Ex.refl H)
  refine ⟨v, rfl, _, _, _, _, _, rfl, .ty _, (dp_ty hd), kit_ty (kit_tup d), _, rfl, ?_⟩
  cases hd with
  | tup h hs =>
    rename_i a xs ds
    refine iteT ⟨_, rfl, a, xs, rfl, .inr h, _, _, rfl, rfl, ?_⟩
    have e : isPartsD (.tuple ds) = decide ((xs.length : Int) ≤ 4) := by
      show decide (ds.length ≤ 4) = _
      rw [dps_len hs, decide_eq_decide]
      omega
    rw [e] at q1
    exact q1
  | _ => exact iteF q1
end
end V


set_option Elab.async false
set_option linter.all false
set_option maxRecDepth 100000
set_option maxHeartbeats 4000000
namespace V
open PySem PySem.Spec PyProof.Rows L2 Evl
section
variable {P : Program} {w : World} {K : PySem.W.Frag} {mg : Str → Option Value} {base : Heap}
theorem ok_isHeaded (T : Txt K w mg) (G_is_number_to : Cal P w K mg base 1 "is_number_to" ["most", "thing"] (spNumTo K)) (G_is_mark : Cal P w K mg base 1 "is_mark" ["thing"] (spTest Small isMarkD K))
    (G_is_parts : Cal P w K mg base 1 "is_parts" ["thing"] (spTest (fun _ => True) isPartsD K)) : Cal P w K mg base 2 "is_headed" ["thing"] (spTest Small headD K) := by
  obtain ⟨d_OPERATIONS, es, n, g_OPERATIONS, KD, hin, hval⟩ := T.O.ex
  refine T.D_is_headed.cal sc_is_headed (fun vs H Q E h => ?_) (fun f cdv A outer s H vs Q E hr h => ?_)
  · obtain ⟨v, d, rfl, _⟩ := h
    rfl
  obtain ⟨v, d, rfl, hd, hs, q⟩ := h
  refine ⟨_, (pss_cons (ps_if (PW.pt (pw_or (pt_not (pt_val (pe_bi call_isi T.z_isinstance (pa_cons (pv 0) (pa_cons (pe_ty T.z_tuple) pa_nil))))) (pw_or1 (pt_cmpR op_eq (pe_bi call_len_seq T.z_len (pa_cons (pv 0) pa_nil)) pe_int (nomark _)))))
    (pss_one (ps_ret pe_bl))
    pss_nil)
  (pss_cons (ps_set (i := 1) sc_is_headed.nd rfl (.inl rfl) (pe_ix (r := rIxT K) ix_tup (pv 0) pe_int (fun _ _ => rfl)))
  (pss_cons (ps_if (pt_not (pt_val (pe_bi call_isi T.z_isinstance (pa_cons (pv 1) (pa_cons (pe_ty T.z_str) pa_nil)))))
    (pss_one (ps_ret pe_bl))
    pss_nil)
  (pss_cons (ps_if (pt_cmpR (op_in_kd KD) (pv 1) (pe_glob (v := .ref d_OPERATIONS) rfl g_OPERATIONS rfl) rfl)
    (pss_one (ps_ret (pe_cmpR op_eq (pe_bi call_len_seq T.z_len (pa_cons (pv 0) pa_nil)) (pe_op op_add pe_int (pe_ix (ix_kd KD) (pe_glob (v := .ref d_OPERATIONS) rfl g_OPERATIONS rfl) (pv 1) (fun _ _ => rfl))) (nomark _))))
    pss_nil)
  (pss_cons (ps_if (pt_cmpR op_eq (pv 1) pe_str (nomark _))
    (pss_one (ps_ret (pe_and (pe_cmpR op_eq (pe_bi call_len_seq T.z_len (pa_cons (pv 0) pa_nil)) pe_int (nomark _)) (pe_one (pe_fn G_is_number_to hr (by omega) (pa_cons (pe_gi T.c_LARGEST) (pa_cons (pe_ix (r := rIxT K) ix_tup (pv 0) pe_int (fun _ _ => rfl)) pa_nil)))))))
    pss_nil)
  (pss_cons (ps_if (pt_cmpR op_eq (pv 1) pe_str (nomark _))
    (pss_one (ps_ret (pe_and (pe_cmpR op_eq (pe_bi call_len_seq T.z_len (pa_cons (pv 0) pa_nil)) pe_int (nomark _)) (pe_one (pe_fn G_is_number_to hr (by omega) (pa_cons (pe_gi T.c_LAST_ARG) (pa_cons (pe_ix (r := rIxT K) ix_tup (pv 0) pe_int (fun _ _ => rfl)) pa_nil)))))))
    pss_nil)
  (pss_cons (ps_if (pt_cmpR op_eq (pv 1) pe_str (nomark _))
    (pss_one (ps_ret (pe_and (pe_cmpR op_eq (pe_bi call_len_seq T.z_len (pa_cons (pv 0) pa_nil)) pe_int (nomark _)) (pe_and (pe_fn G_is_mark hr (by omega) (pa_cons (pe_ix (r := rIxT K) ix_tup (pv 0) pe_int (fun _ _ => rfl)) pa_nil)) (pe_one (pe_fn G_is_parts hr (by omega) (pa_cons (pe_ix (r := rIxT K) ix_tup (pv 0) pe_int (fun _ _ => rfl)) pa_nil)))))))
    pss_nil)
  (pss_cons (ps_if (pt_cmpR op_eq (pv 1) pe_str (nomark _))
    (pss_one (ps_ret (pe_and (pe_cmpR op_eq (pe_bi call_len_seq T.z_len (pa_cons (pv 0) pa_nil)) pe_int (nomark _)) (pe_and (pe_fn G_is_number_to hr (by omega) (pa_cons (pe_gi T.c_LAST_PLACE) (pa_cons (pe_ix (r := rIxT K) ix_tup (pv 0) pe_int (fun _ _ => rfl)) pa_nil))) (pe_one (pe_fn G_is_parts hr (by omega) (pa_cons (pe_ix (r := rIxT K) ix_tup (pv 0) pe_int (fun _ _ => rfl)) pa_nil)))))))
    pss_nil)
  (pss_one (ps_ret pe_bl)))))))))), ?_⟩
  have q0 := q H (Ex.refl H)
  refine ⟨v, rfl, _, _, _, _, _, rfl, .ty _, dp_ty hd, kit_ty (kit_tup d), _, rfl, ?_⟩
  cases hd with
  | @tup a xs ds h hx =>
    have lx : xs.length = ds.length := dps_len hx
    refine iteF ⟨_, rfl, a, xs, rfl, .inr h, rfl, _, rfl, ?_⟩
    cases hx with
    | nil => exact iteT q0
    | @cons v1 vr d1 dr h1 hr1 =>
      rw [decide_eq_false (show ¬ V.int ((v1 :: vr).length : Int) = V.int 0 from fun z => by have := V.int.inj z; rw [List.length_cons] at this; omega)]
      refine iteF ⟨_, rfl, a, _, 0, v1, rfl, rfl, h, at0, _, rfl, _, _, _, _, _, rfl, .ty _, dp_ty h1, kit_ty (kit_str d1), _, rfl, ?_⟩
      cases h1 with
      | str z =>
        obtain ⟨r, hr2, hr3⟩ := hin z
        refine iteF ⟨_, rfl, z, r, rfl, rfl, hr2, _, rfl, ?_⟩
        rw [hr3]
        have lr : vr.length = dr.length := dps_len hr1
        by_cases co : z ∈ opWords
        · rw [decide_eq_true co]
          obtain ⟨o, rfl, ea⟩ := op_of co
          obtain ⟨u, hu1, hu2⟩ := hval o
          refine iteT ⟨_, rfl, a, _, rfl, .inr h, _, rfl, o.str, u, _, rfl, rfl, hu1, hu2, _, _, rfl, rfl, rfl, ?_⟩
          have e : headD (.tuple (.str o.str :: dr)) = decide (V.int (((V.str o.str :: vr).length : Nat) : Int) = V.int (1 + (o.ar : Int))) := by
            show (if o.str ∈ opWords then decide (dr.length = arOf o.str) else _) = _
            rw [if_pos co, ea, decide_eq_decide, V.int.injEq, List.length_cons]
            omega
          rw [e] at q0
          exact q0
        · rw [decide_eq_false co]
          have e0 : headD (.tuple (.str z :: dr)) = (if z = "num" then one1 (isNumD 1000002) dr else if z = "arg" then one1 (isNumD 3) dr
              else if z = "call" then two2 isMarkD isPartsD dr else if z = "ring" then two2 (isNumD 11) isPartsD dr else false) := if_neg co
          rw [e0] at q
          have sm : ∀ e ∈ dr, Small e := fun e he => by
            cases hs with
            | tup _ hk => exact hk e (List.mem_cons_of_mem _ he)
          have word : ∀ (y : Str), decide (V.str z = V.str y) = decide (z = y) := fun y => by
            rw [decide_eq_decide]
            exact ⟨V.str.inj, congrArg V.str⟩
          refine iteF ⟨_, rfl, rfl, _, rfl, ?_⟩
          rw [word]
          by_cases c1 : z = "num"
          · rw [decide_eq_true c1]
            rw [if_pos c1] at q
            refine iteT ⟨_, rfl, a, _, rfl, .inr h, rfl, _, rfl, ?_⟩
            rcases hr1 with _ | ⟨h2, hr2⟩
            · exact iteF (q H (Ex.refl H))
            · rcases hr2 with _ | ⟨h3, hr3⟩
              · exact iteT ⟨_, rfl, a, _, 1, _, rfl, rfl, h, rfl, _, _, _, rfl, h2, fun H' e' => q H' e'⟩
              · rw [len_ne (by rw [List.length_cons, List.length_cons, List.length_cons]; omega)]
                exact iteF (q H (Ex.refl H))
          rw [decide_eq_false c1]
          rw [if_neg c1] at q
          refine iteF ⟨_, rfl, rfl, _, rfl, ?_⟩
          rw [word]
          by_cases c2 : z = "arg"
          · rw [decide_eq_true c2]
            rw [if_pos c2] at q
            refine iteT ⟨_, rfl, a, _, rfl, .inr h, rfl, _, rfl, ?_⟩
            rcases hr1 with _ | ⟨h2, hr2⟩
            · exact iteF (q H (Ex.refl H))
            · rcases hr2 with _ | ⟨h3, hr3⟩
              · exact iteT ⟨_, rfl, a, _, 1, _, rfl, rfl, h, rfl, _, _, _, rfl, h2, fun H' e' => q H' e'⟩
              · rw [len_ne (by rw [List.length_cons, List.length_cons, List.length_cons]; omega)]
                exact iteF (q H (Ex.refl H))
          rw [decide_eq_false c2]
          rw [if_neg c2] at q
          refine iteF ⟨_, rfl, rfl, _, rfl, ?_⟩
          rw [word]
          by_cases c3 : z = "call"
          · rw [decide_eq_true c3]
            rw [if_pos c3] at q
            refine iteT ⟨_, rfl, a, _, rfl, .inr h, rfl, _, rfl, ?_⟩
            rcases hr1 with _ | ⟨h2, hr2⟩
            · exact iteF (q H (Ex.refl H))
            · rcases hr2 with _ | ⟨h3, hr3⟩
              · exact iteF (q H (Ex.refl H))
              · rcases hr3 with _ | ⟨h4, hr4⟩
                · refine iteT ⟨_, rfl, a, _, 1, _, rfl, rfl, h, rfl, _, _, rfl, h2, sm _ (List.mem_cons_self ..), fun H' e' => ⟨_, rfl, ?_⟩⟩
                  rename_i _ d2 _ d3


                  cases cm : isMarkD d2 with
                  | false =>
                    have q2 := q H' e'
                    rw [show two2 isMarkD isPartsD [d2, d3] = false by show (isMarkD d2 && isPartsD d3) = false; rw [cm]; rfl] at q2
                    exact iteF q2
                  | true =>
                    refine iteT ⟨_, rfl, a, _, 2, _, rfl, rfl, ex_t e' h, rfl, _, _, rfl, dp_ex e' h3, trivial, fun H'' e'' => ?_⟩
                    have q2 := q H'' (e'.trans e'')
                    rw [show two2 isMarkD isPartsD [d2, d3] = isPartsD d3 by show (isMarkD d2 && isPartsD d3) = _; rw [cm]; rfl] at q2
                    exact q2
                · rw [len_ne (by rw [List.length_cons, List.length_cons, List.length_cons, List.length_cons]; omega)]
                  exact iteF (q H (Ex.refl H))
          rw [decide_eq_false c3]
          rw [if_neg c3] at q
          refine iteF ⟨_, rfl, rfl, _, rfl, ?_⟩
          rw [word]
          by_cases c4 : z = "ring"
          · rw [decide_eq_true c4]
            rw [if_pos c4] at q
            refine iteT ⟨_, rfl, a, _, rfl, .inr h, rfl, _, rfl, ?_⟩
            rcases hr1 with _ | ⟨h2, hr2⟩
            · exact iteF (q H (Ex.refl H))
            · rcases hr2 with _ | ⟨h3, hr3⟩
              · exact iteF (q H (Ex.refl H))
              · rcases hr3 with _ | ⟨h4, hr4⟩
                · refine iteT ⟨_, rfl, a, _, 1, _, rfl, rfl, h, rfl, _, _, _, rfl, h2, fun H' e' => ⟨_, rfl, ?_⟩⟩
                  rename_i _ d2 _ d3

                  cases cm : isNumD 11 d2 with
                  | false =>
                    have q2 := q H' e'
                    rw [show two2 (isNumD 11) isPartsD [d2, d3] = false by show (isNumD 11 d2 && isPartsD d3) = false; rw [cm]; rfl] at q2
                    exact iteF q2
                  | true =>
                    refine iteT ⟨_, rfl, a, _, 2, _, rfl, rfl, ex_t e' h, rfl, _, _, rfl, dp_ex e' h3, trivial, fun H'' e'' => ?_⟩
                    have q2 := q H'' (e'.trans e'')
                    rw [show two2 (isNumD 11) isPartsD [d2, d3] = isPartsD d3 by show (isNumD 11 d2 && isPartsD d3) = _; rw [cm]; rfl] at q2
                    exact q2
                · rw [len_ne (by rw [List.length_cons, List.length_cons, List.length_cons, List.length_cons]; omega)]
                  exact iteF (q H (Ex.refl H))
          rw [decide_eq_false c4]
          rw [if_neg c4] at q
          exact iteF (q H (Ex.refl H))
      | _ => exact iteT q0
  | _ => exact iteT (iteT q0)
end
end V


set_option Elab.async false
set_option linter.all false
set_option maxRecDepth 100000
set_option maxHeartbeats 4000000
namespace V
open PySem PySem.Spec PyProof.Rows L2 Evl
section
variable {P : Program} {w : World} {K : PySem.W.Frag} {mg : Str → Option Value} {base : Heap}
theorem ok_partsD (T : Txt K w mg) : Cal P w K mg base 1 "parts_of" ["term"] (spPartsD K) := by
  obtain ⟨d_OPERATIONS, es, n, g_OPERATIONS, KD, hin, hval⟩ := T.O.ex
  obtain ⟨d_CALLS, g_CALLS, hC⟩ := T.g_CALLS
  refine T.D_parts_of.cal sc_parts_of (fun vs H Q E h => ?_) (fun f cdv A outer s H vs Q E hr h => ?_)
  · obtain ⟨v, d, rfl, _⟩ := h
    rfl
  obtain ⟨v, d, rfl, hd, hh, q⟩ := h
  refine ⟨_, (pss_cons (ps_if (pt_cmpR (op_in_kd KD) (pe_ix (r := rIxT K) ix_tup (pv 0) pe_int (fun _ _ => rfl)) (pe_glob (v := .ref d_OPERATIONS) rfl g_OPERATIONS rfl) rfl)
    (pss_one (ps_ret (pe_slice sl_tupA (pv 0) (po_some pe_int) po_none)))
    pss_nil)
  (pss_cons (ps_if (pt_cmpR op_in_seq (pe_ix (r := rIxT K) ix_tup (pv 0) pe_int (fun _ _ => rfl)) (pe_glob (v := .ref d_CALLS) rfl g_CALLS rfl) rfl)
    (pss_one (ps_ret (pe_ix (r := rIxT K) ix_tup (pv 0) pe_int (fun _ _ => rfl))))
    pss_nil)
  (pss_one (ps_ret (pe_tup pa_nil))))), ?_⟩
  cases hd with
  | @tup a xs ds h hx =>
    cases hx with
    | nil => cases hh
    | @cons v1 vr d1 dr h1 hr1 =>
      cases h1 with
      | str z =>
        obtain ⟨r, hr2, hr3⟩ := hin z
        refine ⟨_, rfl, a, _, 0, _, rfl, rfl, h, at0, z, r, rfl, rfl, hr2, _, rfl, ?_⟩
        rw [hr3]
        by_cases co : z ∈ opWords
        · rw [decide_eq_true co]
          refine iteT ⟨_, rfl, 1, rfl, a, _, rfl, h, fun y => ?_, fun _ p hp => ?_⟩
          · have z1 : HT.sIx (V.str z :: vr).length 0 (some ((1 : Nat) : Int)) = 0 := y.1
            rw [HT.sIx_nat, List.length_cons] at z1
            omega
          · rw [cut_tail]
            refine q _ p vr (Ex.new hp) (SqT.of upd_same) ?_
            have e : partsD (.tuple (.str z :: dr)) = dr := if_pos co
            rw [e]
            exact dps_ex (Ex.new hp) hr1
        · rw [decide_eq_false co]
          have e : partsD (.tuple (.str z :: dr)) = second dr := if_neg co
          have e0 : headD (.tuple (.str z :: dr)) = (if z = "num" then one1 (isNumD 1000002) dr else if z = "arg" then one1 (isNumD 3) dr
              else if z = "call" then two2 isMarkD isPartsD dr else if z = "ring" then two2 (isNumD 11) isPartsD dr else false) := if_neg co
          rw [e] at q
          rw [e0] at hh
          refine iteF ⟨_, rfl, a, _, 0, _, rfl, rfl, h, at0, d_CALLS, _, rfl, .inr (hC H), rfl, rfl, _, rfl, ?_⟩
          have ep : Ex H H := Ex.refl H
          have short : one1 (fun _ => true) dr = true → inV (.str z) [.str "call", .str "ring", .str "name"] = false → (tTup tNil) [some (.ref a)] H Q := fun o1 _ => by
            refine ⟨sz 0, fun p2 hp2 => ?_⟩
            refine q _ p2 [] (ep.trans (Ex.new hp2)) (SqT.of upd_same) ?_
            rcases hr1 with _ | ⟨h2, hr2⟩
            · exact .nil
            · rcases hr2 with _ | ⟨h3, hr3⟩
              · exact .nil
              · cases o1
          have long : ∀ f : PyData → Bool, two2 f isPartsD dr = true → (tOp (rIxT K) (tVar 0) (tC (.int 2))) [some (.ref a)] H Q := fun f t2 => by
            rcases hr1 with _ | ⟨h2, hr2⟩
            · cases t2
            · rcases hr2 with _ | ⟨h3, hr3⟩
              · cases t2
              · rcases hr3 with _ | ⟨h4, hr4⟩
                · rename_i _ d2 _ d3
                  have t3 : (f d2 && isPartsD d3) = true := t2
                  rw [Bool.and_eq_true] at t3
                  cases h3 with
                  | tup hb hbs => exact ⟨_, rfl, a, _, 2, _, rfl, rfl, ex_t ep h, rfl, q _ _ _ ep (ex_t ep hb) (dps_ex ep hbs)⟩
                  | _ => cases t3.2
                · cases t2
          by_cases c1 : z = "num"
          · subst c1
            rw [if_pos rfl] at hh
            refine iteF (short ?_ (by decide +kernel))
            cases dr with
            | nil => cases hh
            | cons x r => cases r <;> first | rfl | cases hh
          rw [if_neg c1] at hh
          by_cases c2 : z = "arg"
          · subst c2
            rw [if_pos rfl] at hh
            refine iteF (short ?_ (by decide +kernel))
            cases dr with
            | nil => cases hh
            | cons x r => cases r <;> first | rfl | cases hh
          rw [if_neg c2] at hh
          by_cases c3 : z = "call"
          · subst c3
            rw [if_pos rfl] at hh
            exact iteT (long _ hh)
          rw [if_neg c3] at hh
          by_cases c4 : z = "ring"
          · subst c4
            rw [if_pos rfl] at hh
            exact iteT (long _ hh)
          rw [if_neg c4] at hh
          cases hh
      | _ => cases hh
  | _ => cases hh
theorem ok_within (T : Txt K w mg) (G_is_headed : Cal P w K mg base 2 "is_headed" ["thing"] (spTest Small headD K)) (G_parts_of : Cal P w K mg base 1 "parts_of" ["term"] (spPartsD K)) :
    ∀ n : Nat, Cal P w K mg base (n + 3) "is_term_within" ["deep", "thing"] (spWithin K n) := by
  intro n
  induction n with
  | zero =>
    refine T.D_is_term_within.cal sc_is_term_within (fun vs H Q E h => ?_) (fun f cdv A outer s H vs Q E hr h => ?_)
    · obtain ⟨m, v, d, rfl, _⟩ := h
      rfl
    obtain ⟨m, v, d, rfl, hm, hd, hs, q⟩ := h
    have G_is_term_within : Cal P w K mg base 0 "is_term_within" ["deep", "thing"] (fun _ _ _ _ => False) := T.D_is_term_within.never fun _ _ _ _ h => h
    refine ⟨_, (pss_cons (ps_if (PW.pt (pw_or (pt_cmpR op_eq (pv 0) pe_int (nomark _)) (pw_or1 (pt_not (pt_val (pe_fn G_is_headed hr (by omega) (pa_cons (pv 1) pa_nil)))))))
    (pss_one (ps_ret pe_bl))
    pss_nil)
  (pss_one (ps_ret (pe_bi (cr_all rfl) T.z_all (pa_cons (pe_lc (own := [("part", 2)]) (g := (gName 2)) (tt := tYes) rfl sc_is_term_within.nd (pi_tup (pe_fn G_parts_of hr (by omega) (pa_cons (pv 1) pa_nil))) (blkOk_by (N := N_is_term_within) (sc := defScope s_is_term_within) (by decide +kernel)) (fun _ _ _ _ _ => (pg_name (i := 2) sc_is_term_within.nd rfl (.inl rfl))) (fun _ _ _ _ _ => pts_nil) (fun _ _ _ _ _ => (pe_fn G_is_term_within hr (by omega) (pa_cons (pe_op op_sub (pv 0) pe_int) (pa_cons (pv 2) pa_nil))))) pa_nil))))), ?_⟩
    have m0 : m = 0 := by omega
    subst m0
    exact ⟨_, rfl, rfl, _, rfl, iteT (iteT (q H (Ex.refl H)))⟩
  | succ n ih =>
    have G_is_term_within := ih
    refine T.D_is_term_within.cal sc_is_term_within (fun vs H Q E h => ?_) (fun f cdv A outer s H vs Q E hr h => ?_)
    · obtain ⟨m, v, d, rfl, _⟩ := h
      rfl
    obtain ⟨m, v, d, rfl, hm, hd, hs, q⟩ := h
    refine ⟨_, (pss_cons (ps_if (PW.pt (pw_or (pt_cmpR op_eq (pv 0) pe_int (nomark _)) (pw_or1 (pt_not (pt_val (pe_fn G_is_headed hr (by omega) (pa_cons (pv 1) pa_nil)))))))
    (pss_one (ps_ret pe_bl))
    pss_nil)
  (pss_one (ps_ret (pe_bi (cr_all rfl) T.z_all (pa_cons (pe_lc (own := [("part", 2)]) (g := (gName 2)) (tt := tYes) rfl sc_is_term_within.nd (pi_tup (pe_fn G_parts_of hr (by omega) (pa_cons (pv 1) pa_nil))) (blkOk_by (N := N_is_term_within) (sc := defScope s_is_term_within) (by decide +kernel)) (fun _ _ _ _ _ => (pg_name (i := 2) sc_is_term_within.nd rfl (.inl rfl))) (fun _ _ _ _ _ => pts_nil) (fun _ _ _ _ _ => (pe_fn G_is_term_within hr (by omega) (pa_cons (pe_op op_sub (pv 0) pe_int) (pa_cons (pv 2) pa_nil))))) pa_nil))))), ?_⟩
    refine ⟨_, rfl, rfl, _, rfl, ?_⟩
    cases m with
    | zero => exact iteT (iteT (q H (Ex.refl H)))
    | succ m =>
      rw [decide_eq_false (show ¬ V.int ((m + 1 : Nat) : Int) = V.int 0 from fun z => by have := V.int.inj z; omega)]
      refine iteF ⟨_, rfl, v, d, rfl, hd, hs, fun H1 e1 => ⟨_, rfl, ?_⟩⟩
      cases ch : headD d with
      | false =>
        have q1 := q H1 e1
        rw [show isTm (m + 1) d = false by show (headD d && _) = false; rw [ch]; rfl] at q1
        exact iteT q1
      | true =>
        have et : isTm (m + 1) d = (partsD d).all (isTm m) := by
          show (headD d && _) = _
          rw [ch]
          rfl
        rw [et] at q
        refine iteF ⟨_, rfl, v, d, rfl, dp_ex e1 hd, ch, fun H2 p us e2 h2 hus => ⟨p, rfl, ⟨us, h2⟩, fun Dl hD => ?_⟩⟩
        have hlen := dps_len hus
        refine lc_tup (xs := us) (fun i H3 => Ex H2 H3 ∧ H3 Dl = some (.lst ((((partsD d).take i).map (isTm m)).map V.bl))) ⟨Ex.new hD, upd_same⟩ (fun i H3 _ k => ex_t k.1 h2) ?_ ?_
        · rintro i x H3 hi ⟨e3, h3⟩
          obtain ⟨u, hu, hxu⟩ := dps_get hus hi
          refine ⟨rfl, yes ⟨_, rfl, _, _, rfl, rfl, _, rfl, m, x, u, ?_, by omega, dp_ex e3 hxu, hs.parts (get_mem hu), fun H4 e4 => ⟨_, e4 Dl _ h3, ?_, Ex.mut (e3.trans e4) hD, ?_⟩⟩⟩
          · show [V.int (((m + 1 : Nat) : Int) - 1), x] = [V.int (m : Int), x]
            rw [show (((m + 1 : Nat) : Int) - 1) = (m : Int) by omega]
          · rw [List.length_map, List.length_map, List.length_take]
            have := (List.getElem?_eq_some_iff.mp hu).1
            exact small1000 (by have := hs.few; omega)
          · rw [upd_same, take_more hu, List.map_append, List.map_append]
            rfl
        · rintro H3 ⟨e3, h3⟩
          rw [hlen, List.take_length] at h3
          refine ⟨Dl, _, rfl, SqL.of h3, ?_⟩
          have q1 := q H3 (e1.trans (e2.trans e3))
          rw [show (((partsD d).map (isTm m)).all id) = (partsD d).all (isTm m) by rw [List.all_map]; rfl]
          exact q1
theorem ok_isTerm (T : Txt K w mg) (G_is_term_within : Cal P w K mg base 11 "is_term_within" ["deep", "thing"] (spWithin K 8)) : Cal P w K mg base 12 "is_term" ["thing"] (spTest Small (isTm 8) K) := by
  refine T.D_is_term.cal sc_is_term (fun vs H Q E h => ?_) (fun f cdv A outer s H vs Q E hr h => ?_)
  · obtain ⟨v, d, rfl, _⟩ := h
    rfl
  obtain ⟨v, d, rfl, hd, hs, q⟩ := h
  refine ⟨_, (pss_one (ps_ret (pe_fn G_is_term_within hr (by omega) (pa_cons (pe_gi T.c_DEEPEST) (pa_cons (pv 0) pa_nil))))), ?_⟩
  exact ⟨_, rfl, 8, v, d, rfl, Nat.le_refl _, hd, hs, q⟩
end
end V


set_option Elab.async false
set_option linter.all false
set_option maxRecDepth 100000
set_option maxHeartbeats 4000000
namespace V
open PySem PySem.Spec PyProof.Rows L2 Evl TL NumText
section
variable {P : Program} {w : World} {K : PySem.W.Frag} {mg : Str → Option Value} {base : Heap}
theorem ok_headText (T : Txt K w mg) : Cal P w K mg base 1 "head_text" ["term"] spHeadText := by
  refine T.D_head_text.cal sc_head_text (fun vs H Q E h => ?_) (fun f cdv A outer s H vs Q E hr h => ?_)
  · obtain ⟨v, h, ts, M, rfl, _⟩ := h
    rfl
  obtain ⟨v, hd, ts, M, rfl, hT, hO, hM, q⟩ := h
  refine ⟨_, (pss_cons (ps_if (pt_cmpR op_eq (pe_ix (r := rIxT K) ix_tup (pv 0) pe_int (fun _ _ => rfl)) pe_str (nomark _))
    (pss_one (ps_ret (pe_op op_add_str pe_str (pe_ix (r := rIxT K) ix_tup (pv 0) pe_int (fun _ _ => rfl)))))
    pss_nil)
  (pss_cons (ps_if (pt_cmpR op_eq (pe_ix (r := rIxT K) ix_tup (pv 0) pe_int (fun _ _ => rfl)) pe_str (nomark _))
    (pss_one (ps_ret (pe_op op_add_str pe_str (pe_bt call_str_int T.z_str (pa_cons (pe_ix (r := rIxT K) ix_tup (pv 0) pe_int (fun _ _ => rfl)) pa_nil)))))
    pss_nil)
  (pss_one (ps_ret (pe_ix (r := rIxT K) ix_tup (pv 0) pe_int (fun _ _ => rfl)))))), ?_⟩
  have q0 := q H (Ex.refl H)
  cases hT with
  | @op a o ws _ h hs =>
    refine ⟨_, rfl, a, _, 0, _, rfl, rfl, SqT.of h, at0, rfl, _, rfl, ?_⟩
    rw [eq_word, show decide (o.str = "call") = false by cases o <;> decide +kernel]
    refine iteF ⟨_, rfl, a, _, 0, _, rfl, rfl, SqT.of h, at0, rfl, _, rfl, ?_⟩
    rw [eq_word, show decide (o.str = "ring") = false by cases o <;> decide +kernel]
    exact iteF ⟨_, rfl, a, _, 0, _, rfl, rfl, SqT.of h, at0, q0⟩
  | @call a b m ws _ h h2 hs =>
    refine ⟨_, rfl, a, _, 0, _, rfl, rfl, SqT.of h, at0, rfl, _, rfl, ?_⟩
    rw [eq_word, decide_eq_true rfl]
    refine iteT ⟨_, rfl, a, _, 1, _, rfl, rfl, SqT.of h, rfl, _, _, rfl, rfl, ?_, q0⟩
    have e : ("#" : Str).length = 1 := by decide +kernel
    rw [e, hO.1.1]
    decide
  | @ring a b p ws _ h h2 hs =>
    have hp : p ≤ M := hO.1
    refine ⟨_, rfl, a, _, 0, _, rfl, rfl, SqT.of h, at0, rfl, _, rfl, ?_⟩
    rw [eq_word, show decide (("ring" : Str) = "call") = false by decide +kernel]
    refine iteF ⟨_, rfl, a, _, 0, _, rfl, rfl, SqT.of h, at0, rfl, _, rfl, ?_⟩
    rw [eq_word, decide_eq_true rfl]
    refine iteT ⟨_, rfl, a, _, 1, _, rfl, rfl, SqT.of h, rfl, _, rfl, log_small (by omega) (by omega), _, _, rfl, rfl, ?_, q0⟩
    have e : ("@" : Str).length = 1 := by decide +kernel
    have := nt_len (n := p) (by omega)
    rw [e]
    show 1 + (nt p).length ≤ sizeLine
    exact Nat.le_trans (by omega) (by decide : 8 ≤ sizeLine)
theorem ok_text (T : Txt K w mg) (G_parts_of : Cal P w K mg base 1 "parts_of" ["term"] spParts) (G_head_text : Cal P w K mg base 1 "head_text" ["term"] spHeadText) : ∀ n : Nat, Cal P w K mg base (n + 1) "term_text" ["term"] (spText n)
  | 0 => (T.D_term_text.never fun vs H Q E h => by
      obtain ⟨v, t, M, _, _, _, _, h1, _⟩ := h
      have := deep_pos t
      omega).mono (Nat.zero_le _)
  | n + 1 => by
    have G_term_text := ok_text T G_parts_of G_head_text n
    obtain ⟨d_LETTERS, g_LETTERS, hL⟩ := T.g_LETTERS
    refine T.D_term_text.cal sc_term_text (fun vs H Q E h => ?_) (fun f cdv A outer s H vs Q E hr h => ?_)
    · obtain ⟨v, t, M, rfl, _⟩ := h
      rfl
    obtain ⟨v, t, M, rfl, hT, hO, hM, hd, hz, q⟩ := h
    refine ⟨_, (pss_cons (ps_set (i := 1) sc_term_text.nd rfl (.inl rfl) (pe_ix (r := rIxT K) ix_tup (pv 0) pe_int (fun _ _ => rfl)))
  (pss_cons (ps_if (pt_cmpR op_eq (pv 1) pe_str (nomark _))
    (pss_one (ps_ret (pe_bt call_str_int T.z_str (pa_cons (pe_ix (r := rIxT K) ix_tup (pv 0) pe_int (fun _ _ => rfl)) pa_nil))))
    pss_nil)
  (pss_cons (ps_if (pt_cmpR op_eq (pv 1) pe_str (nomark _))
    (pss_one (ps_ret (pe_ix (r := rIxT K) ix_tup (pe_glob (v := .ref d_LETTERS) rfl g_LETTERS rfl) (pe_ix (r := rIxT K) ix_tup (pv 0) pe_int (fun _ _ => rfl)) (fun _ _ => rfl))))
    pss_nil)
  (pss_cons (ps_set (i := 2) sc_term_text.nd rfl (.inl rfl) (pe_op op_cat (pe_lst (pa_cons (pe_fn G_head_text hr (by omega) (pa_cons (pv 0) pa_nil)) pa_nil)) (pe_lc (own := [("part", 3)]) (g := (gName 3)) (tt := tYes) rfl sc_term_text.nd (pi_tup (pe_fn G_parts_of hr (by omega) (pa_cons (pv 0) pa_nil))) (blkOk_by (N := N_term_text) (sc := defScope s_term_text) (by decide +kernel)) (fun _ _ _ _ _ => (pg_name (i := 3) sc_term_text.nd rfl (.inl rfl))) (fun _ _ _ _ _ => pts_nil) (fun _ _ _ _ _ => (pe_fn G_term_text hr (by omega) (pa_cons (pv 3) pa_nil))))))
  (pss_one (ps_ret (pe_op op_add_str (pe_op op_add_str pe_str (pe_join pe_str (pv 2))) pe_str))))))), ?_⟩
    obtain ⟨a, r, rfl, ha⟩ := hT.head
    refine ⟨_, rfl, a, _, 0, _, rfl, rfl, SqT.of ha, at0, ?_⟩
    refine ⟨_, rfl, rfl, _, rfl, ?_⟩
    rw [eq_word]
    cases t with
    | num k =>
      cases hT with
      | num h =>
        cases hO with
        | num hk =>
          rw [show decide ((Tm.num k).word = "num") = true from decide_eq_true rfl]
          exact iteT ⟨_, rfl, a, _, 1, _, rfl, rfl, SqT.of h, rfl, _, rfl, log_small (by omega) (by omega), q H (Ex.refl H)⟩
    | arg k =>
      cases hT with
      | arg h =>
        cases hO with
        | arg hk =>
          rw [show decide ((Tm.arg k).word = "num") = false by show decide (("arg" : Str) = "num") = false; decide +kernel]
          refine iteF ⟨_, rfl, rfl, _, rfl, ?_⟩
          rw [eq_word, show decide ((Tm.arg k).word = "arg") = true from decide_eq_true rfl]
          refine iteT ⟨_, rfl, a, _, 1, _, rfl, rfl, SqT.of h, rfl, d_LETTERS, _, (k : Int), .str (letter k), rfl, rfl, hL H, ?_, q H (Ex.refl H)⟩
          match k, hk with
          | 0, _ => rfl
          | 1, _ => rfl
          | 2, _ => rfl
          | 3, _ => rfl
          | n + 4, h => omega
    | node h ts =>
      cases hO with
      | node hh hks =>
        have w1 : decide ((Tm.node h ts).word = "num") = false := by
          cases h with
          | op o => show decide (o.str = "num") = false; cases o <;> decide +kernel
          | call m => show decide (("call" : Str) = "num") = false; decide +kernel
          | ring p => show decide (("ring" : Str) = "num") = false; decide +kernel
        have w2 : decide ((Tm.node h ts).word = "arg") = false := by
          cases h with
          | op o => show decide (o.str = "arg") = false; cases o <;> decide +kernel
          | call m => show decide (("call" : Str) = "arg") = false; decide +kernel
          | ring p => show decide (("ring" : Str) = "arg") = false; decide +kernel
        rw [w1]
        refine iteF ⟨_, rfl, rfl, _, rfl, ?_⟩
        rw [eq_word, w2]
        refine iteF ⟨_, rfl, _, h, ts, M, rfl, hT, hh, hM, fun H1 e1 => ⟨sz 1, fun l nl => ?_⟩⟩
        have el : Ex H1 (upd H1 l (.lst [.str h.S])) := Ex.new nl
        refine ⟨_, rfl, _, .node h ts, rfl, hT.ex (e1.trans el), hh.le, fun H2 p us e2 h2 hus => ⟨p, rfl, ⟨us, SqT.of h2⟩, fun Dl hD => ?_⟩⟩
        have hlen : us.length = ts.length := hus.length
        have few := hh.le
        refine lc_tup (xs := us) (fun i H3 => Ex H2 H3 ∧ H3 Dl = some (.lst (((ts.take i).map Tm.txt).map V.str))) ⟨Ex.new hD, upd_same⟩ (fun i H3 _ k => SqT.of (k.1 p _ h2)) ?_ ?_
        · rintro i x H3 hi ⟨e3, h3⟩
          obtain ⟨u, hu, hxu⟩ := hus.get hi
          have hu' : ts[i]? = some u := hu
          have hum : u ∈ ts := get_mem hu'
          have usz : u.size ≤ Tm.sizes ts := size_mem hum
          have tsz : (Tm.node h ts).size = 1 + Tm.sizes ts := rfl
          have ud : u.deep + 1 ≤ (Tm.node h ts).deep := parts_deep (t := .node h ts) hum
          refine ⟨rfl, yes ⟨_, rfl, x, u, M, rfl, hxu.ex e3, hks u hum, hM, by omega, by omega, fun H4 e4 => ⟨_, e4 Dl _ h3, ?_, Ex.mut (e3.trans e4) hD, ?_⟩⟩⟩
          · rw [List.length_map, List.length_map, List.length_take]
            exact small1000 (by omega)
          · rw [upd_same, take_more hu', List.map_append, List.map_append]
            rfl
        · rintro H3 ⟨e3, h3⟩
          rw [hlen, List.take_length] at h3
          have hl3 : H3 l = some (.lst [.str h.S]) := e3 l _ (e2 l _ upd_same)
          have txl := txt_len hM (.node h ts) (.node hh hks)
          refine ⟨l, Dl, [.str h.S], (ts.map Tm.txt).map V.str, rfl, rfl, hl3, h3, ?_, fun p5 np5 => ?_⟩
          · rw [List.length_map, List.length_map]
            exact Nat.le_trans (by show 1 + ts.length ≤ 5; omega) (by decide)
          have el5 := Ex.new (o := .lst ([.str h.S] ++ (ts.map Tm.txt).map V.str)) np5
          have total : ((h.S :: ts.map Tm.txt).map (·.length)).sum + (h.S :: ts.map Tm.txt).length ≤ 100000 := by
            have each : ∀ us : List Tm, (∀ u ∈ us, u.Ok M) → ((us.map Tm.txt).map (·.length)).sum ≤ 16 * Tm.sizes us := by
              intro us
              induction us with
              | nil => intro _; exact Nat.le_refl _
              | cons u us ih =>
                intro hu
                have i1 := ih fun v hv => hu v (List.mem_cons_of_mem _ hv)
                have i2 := txt_len hM u (hu u (List.mem_cons_self ..))
                show u.txt.length + ((us.map Tm.txt).map (·.length)).sum ≤ 16 * (u.size + Tm.sizes us)
                omega
            have i1 := each ts hks
            have i2 := Hd.S_len hh hM
            have tsz : (Tm.node h ts).size = 1 + Tm.sizes ts := rfl
            rw [List.map_cons, List.sum_cons, List.length_cons, List.length_map]
            omega
          refine ⟨⟨_, rfl⟩, _, rfl, " ", p5, h.S :: ts.map Tm.txt, rfl, rfl, .inl (SqL.of upd_same), ?_, ?_⟩
          · have e : (" " : Str).length = 1 := by decide +kernel
            rw [e, Nat.mul_one]
            omega
          have jl := join_len (h.S :: ts.map Tm.txt)
          have o1 : ("(" : Str).length = 1 := by decide +kernel
          have o2 : (")" : Str).length = 1 := by decide +kernel
          rw [join_eq]
          have big : sizeLine = 16777216 := sizeLine_eq
          refine ⟨_, _, rfl, rfl, by rw [o1, big]; omega, _, _, rfl, rfl, by rw [str_len_append, o1, o2, big]; omega, ?_⟩
          have q1 := q (upd H3 p5 (.lst ([.str h.S] ++ (ts.map Tm.txt).map V.str))) (e1.trans (el.trans (e2.trans (e3.trans el5))))
          have et : (Tm.node h ts).txt = ("(" : Str) ++ Str.join " " (h.S :: ts.map Tm.txt) ++ ")" := by
            show ("(" : Str) ++ Str.join " " (h.S :: Tm.txts ts) ++ ")" = _
            rw [txts_map]
          rw [et] at q1
          exact q1
end
end V


set_option Elab.async false
set_option linter.all false
set_option maxRecDepth 100000
set_option maxHeartbeats 4000000
namespace V
open PySem PySem.Spec PyProof.Rows L2 Evl TL NumText
section
variable {P : Program} {w : World} {K : PySem.W.Frag} {mg : Str → Option Value} {base : Heap}
theorem ok_numberIn (T : Txt K w mg) : Cal P w K mg base 1 "number_in" ["word"] spNumIn := by
  refine T.D_number_in.cal sc_number_in (fun vs H Q E h => ?_) (fun f cdv A outer s H vs Q E hr h => ?_)
  · obtain ⟨z, rfl, _⟩ := h
    rfl
  obtain ⟨z, rfl, hz, q⟩ := h
  refine ⟨_, (pss_cons (ps_if (pt_not (pt_chain op_le op_le pe_int (pe_bi call_len T.z_len (pa_cons (pv 0) pa_nil)) (pe_bi call_len T.z_len (pa_cons (pe_bt call_str_int T.z_str (pa_cons (pe_gi T.c_LARGEST) pa_nil)) pa_nil))))
    (pss_one (ps_ret pe_non))
    pss_nil)
  (pss_cons (ps_if (pt_not (pt_val (pe_bi (cr_all rfl) T.z_all (pa_cons (pe_lc (own := [("sign", 2)]) (g := (gName 2)) (tt := tYes) rfl sc_number_in.nd (pi_str (pv 0)) (blkOk_by (N := N_number_in) (sc := defScope s_number_in) (by decide +kernel)) (fun _ _ _ _ _ => (pg_name (i := 2) sc_number_in.nd rfl (.inl rfl))) (fun _ _ _ _ _ => pts_nil) (fun _ _ _ _ _ => (pe_cmpR op_in_sign (pv 2) (pe_gs T.c_FIGURES) rfl))) pa_nil))))
    (pss_one (ps_ret pe_non))
    pss_nil)
  (pss_cons (ps_set (i := 1) sc_number_in.nd rfl (.inl rfl) (pe_bt call_int_str T.z_int (pa_cons (pv 0) pa_nil)))
  (pss_cons (ps_if (PW.pt (pw_or (pt_cmpR op_gt (pv 1) (pe_gi T.c_LARGEST) (nomark _)) (pw_or1 (pt_cmpR op_ne (pe_bt call_str_int T.z_str (pa_cons (pv 1) pa_nil)) (pv 0) (nomark _)))))
    (pss_one (ps_ret pe_non))
    pss_nil)
  (pss_one (ps_ret (pv 1))))))), ?_⟩
  have zl : z.length = (tl z).length := len_tl z
  have no : isNumL (tl z) = false → ∀ H' σ, Ex H H' → tRet (tC .non) { nx := fun _ _ => True, rt := Q } σ H' := fun e H' σ eh => by
    have q1 := q H' eh
    unfold numV at q1
    rw [if_neg (by rw [e]; decide)] at q1
    exact q1
  have l7 : (nt 1000002).length = 7 := by decide +kernel
  refine ⟨_, rfl, _, z.length, rfl, ⟨Nat.le_trans hz (by decide), rfl⟩, _, _, rfl, rfl, _, rfl, ?_⟩
  have e1 : decide ((1 : Int) ≤ (z.length : Int)) = decide (1 ≤ (tl z).length) := by rw [decide_eq_decide]; omega
  rw [e1]
  by_cases c1 : 1 ≤ (tl z).length
  case neg =>
    rw [decide_eq_false c1]
    refine iteF ⟨_, rfl, iteT (no ?_ H _ (Ex.refl H))⟩
    unfold isNumL
    rw [decide_eq_false c1]
    rfl
  rw [decide_eq_true c1]
  refine iteT ⟨_, rfl, log_small (by decide) (by decide), _, 7, rfl, ⟨by decide, l7⟩, _, _, rfl, rfl, _, rfl, ?_⟩
  have e2 : decide ((z.length : Int) ≤ ((7 : Nat) : Int)) = decide ((tl z).length ≤ 7) := by rw [decide_eq_decide]; omega
  rw [e2]
  by_cases c2 : (tl z).length ≤ 7
  case neg =>
    rw [decide_eq_false c2]
    refine iteT (no ?_ H _ (Ex.refl H))
    unfold isNumL
    rw [decide_eq_true c1, decide_eq_false c2]
    rfl
  rw [decide_eq_true c2]
  refine iteF ⟨_, rfl, z, rfl, fun Dl hD => ?_⟩
  refine lc_it walk_str (fun i H3 => Ex H H3 ∧ H3 Dl = some (.lst (((z.cps.toList.take i).map fun c => decide (c ∈ figS.cps.toList)).map V.bl))) ⟨Ex.new hD, upd_same⟩ (fun _ _ _ _ => trivial) ?_ ?_
  · rintro i y H3 H4 hi ⟨e3, h3⟩ ⟨rfl, c, hc, rfl⟩
    have hc2 : z.cps.toList[i]? = some c := by rw [Array.getElem?_toList]; exact hc
    refine ⟨rfl, yes ⟨_, rfl, c, figS, rfl, rfl, _, h3, ?_, Ex.mut e3 hD, ?_⟩⟩
    · rw [List.length_map, List.length_map, List.length_take]
      exact small1000 (by have : z.cps.toList.length = z.length := Array.length_toList; omega)
    · rw [upd_same, take_more hc2, List.map_append, List.map_append]
      rfl
  rintro H3 ⟨e3, h3⟩
  rw [show z.cps.size = z.cps.toList.length from Array.length_toList.symm, List.take_length] at h3
  refine ⟨Dl, _, rfl, SqL.of h3, ?_⟩
  rw [all_take, figS_tl]
  refine ⟨_, rfl, ?_⟩
  have ez : z.cps.toList = tl z := rfl
  rw [ez]
  cases c3 : (tl z).all (fun c => decide (c ∈ figs)) with
  | false =>
    refine iteT (no ?_ H3 _ e3)
    unfold isNumL
    rw [c3]
    simp
  | true =>
    have dz : AllDigits (tl z) := fun c hc => (figs_iff c).mp (of_decide_eq_true (List.all_eq_true.mp c3 c hc))
    have vz := intText_digits (x := z) dz (List.length_pos_iff.mp c1) (by omega)
    have v7 : digitsVal (tl z) < 10000000 := by
      have hx : ∀ (l : List Nat) (a : Nat), AllDigits l → l.foldl (fun acc c => acc * 10 + (c - 48)) a < (a + 1) * 10 ^ l.length := by
        intro l
        induction l with
        | nil => intro a _; show a < (a + 1) * 1; omega
        | cons c r ih =>
          intro a hl
          have hc := hl.head
          have i1 := ih (a * 10 + (c - 48)) hl.tail
          rw [List.foldl_cons, List.length_cons, Nat.pow_succ]
          have : (a * 10 + (c - 48) + 1) * 10 ^ r.length ≤ ((a + 1) * 10) * 10 ^ r.length := Nat.mul_le_mul_right _ (by omega)
          have e : (a + 1) * 10 * 10 ^ r.length = (a + 1) * (10 ^ r.length * 10) := by rw [Nat.mul_assoc, Nat.mul_comm 10]
          omega
      have h1 := hx (tl z) 0 dz
      have h2 : 10 ^ (tl z).length ≤ 10 ^ 7 := Nat.pow_le_pow_right (by decide) c2
      have h3 : (10 : Nat) ^ 7 = 10000000 := by decide
      unfold digitsVal
      omega
    refine iteF ⟨_, rfl, z, _, rfl, vz, by omega, _, rfl, _, _, rfl, rfl, _, rfl, ?_⟩
    by_cases c4 : 1000002 < digitsVal (tl z)
    · rw [show decide ((1000002 : Int) < ((digitsVal z.cps.toList : Nat) : Int)) = true from decide_eq_true (by rw [ez]; omega)]
      refine iteT (iteT (no ?_ H3 _ e3))
      unfold isNumL
      rw [show decide (digitsVal (tl z) ≤ 1000002) = false from decide_eq_false (by omega)]
      simp
    · rw [show decide ((1000002 : Int) < ((digitsVal z.cps.toList : Nat) : Int)) = false from decide_eq_false (by rw [ez]; omega)]
      refine iteF ⟨_, rfl, _, rfl, log_small (by omega) (by rw [ez]; omega), _, rfl, ?_⟩
      refine ⟨rfl, _, rfl, ?_⟩
      have en : decide (V.str (Str.ofString (toString ((digitsVal z.cps.toList : Nat) : Int))) = V.str z) = decide (TL.numL (digitsVal (tl z)) = tl z) := by
        rw [eq_word, decide_eq_decide]
        refine ⟨fun e => ?_, fun e => ext_tl ?_⟩
        · have := congrArg tl e
          rw [TL.tl_num] at this
          exact this
        · rw [TL.tl_num]
          exact e
      have q1 := q H3 e3
      unfold numV at q1
      have en2 : isNumL (tl z) = decide (TL.numL (digitsVal (tl z)) = tl z) := by
        unfold isNumL
        rw [decide_eq_true c1, decide_eq_true c2, c3, show decide (digitsVal (tl z) ≤ 1000002) = true from decide_eq_true (by omega)]
        rfl
      rw [en2] at q1
      rw [en]
      cases c5 : decide (TL.numL (digitsVal (tl z)) = tl z) with
      | true =>
        rw [c5] at q1
        exact iteF ⟨_, rfl, q1⟩
      | false =>
        rw [c5] at q1
        exact iteT q1
end
end V


set_option Elab.async false
set_option linter.all false
set_option maxRecDepth 100000
set_option maxHeartbeats 4000000
namespace V
open PySem PySem.Spec PyProof.Rows L2 Evl TL NumText
section
variable {P : Program} {w : World} {K : PySem.W.Frag} {mg : Str → Option Value} {base : Heap}
theorem ok_leafOf (T : Txt K w mg) (G_number_in : Cal P w K mg base 1 "number_in" ["word"] spNumIn) : Cal P w K mg base 2 "leaf_of" ["word"] spLeaf := by
  obtain ⟨d_LETTERS, g_LETTERS, hL⟩ := T.g_LETTERS
  obtain ⟨d2, g2, hy⟩ := T.y_LETTERS
  have e2 : d_LETTERS = d2 := by
    rw [g_LETTERS] at g2
    cases g2
    rfl
  subst e2
  refine T.D_leaf_of.cal sc_leaf_of (fun vs H Q E h => ?_) (fun f cdv A outer s H vs Q E hr h => ?_)
  · obtain ⟨z, rfl, _⟩ := h
    rfl
  obtain ⟨z, rfl, hz, q⟩ := h
  refine ⟨_, (pss_cons (ps_if (pt_cmpR op_in_seq (pv 0) (pe_glob (v := .ref d_LETTERS) rfl g_LETTERS rfl) rfl)
    (pss_one (ps_ret (pe_tup (pa_cons pe_str (pa_cons (pe_bm PySem.F.plainAttrs_tuple PySem.F.slot_tuple_index PySem.F.type_tuple_index mt_tup_index (pe_glob (v := .ref d_LETTERS) rfl g_LETTERS rfl) (pa_cons (pv 0) pa_nil)) pa_nil)))))
    pss_nil)
  (pss_one (ps_ret (pe_tup (pa_cons pe_str (pa_cons (pe_fn G_number_in hr (by omega) (pa_cons (pv 0) pa_nil)) pa_nil)))))), ?_⟩
  refine ⟨_, rfl, _, _, rfl, .inr (hL H), rfl, rfl, _, rfl, ?_⟩
  rw [if_neg (by decide), lix_in]
  cases hx : lix z with
  | some k =>
    obtain ⟨l1, l2⟩ := lix_some hx
    refine iteT ⟨.inr (.inl ⟨rfl, hy⟩), _, rfl, d_LETTERS, letters, z, k, rfl, rfl, hL H, l1, l2, sz 2, fun p hp => q _ p (Ex.new hp) ?_⟩
    have e : leafL z = [.str "arg", .int (k : Int)] := by unfold leafL; rw [hx]
    rw [e, upd_same]
  | none =>
    refine iteF ⟨_, rfl, z, rfl, hz, fun H1 e1 => ⟨sz 2, fun p hp => q _ p (e1.trans (Ex.new hp)) ?_⟩⟩
    have e : leafL z = [.str "num", numV z] := by unfold leafL; rw [hx]
    rw [e, upd_same]
theorem ok_wordAt (T : Txt K w mg) : Cal P w K mg base 1 "word_at" ["text", "start"] spWordAt := by
  refine T.D_word_at.cal sc_word_at (fun vs H Q E h => ?_) (fun f cdv A outer s H vs Q E hr h => ?_)
  · obtain ⟨z, x, a, b, rfl, _⟩ := h
    rfl
  obtain ⟨z, x, a, b, rfl, hz, e, h1, h2, q⟩ := h
  refine ⟨_, (pss_cons (ps_set (i := 2) sc_word_at.nd rfl (.inl rfl) (pv 1))
  (pss_cons (ps_while PassesOwn.never (PW.pt (pw_and (pt_cmpR op_lt (pv 2) (pe_bi call_len T.z_len (pa_cons (pv 0) pa_nil)) (nomark _)) (pw_and1 (pt_cmpR op_notIn_sign (pe_ix ix_str (pv 0) (pv 2) (fun _ _ => rfl)) pe_str rfl))))
    (pss_one (ps_aug (i := 2) sc_word_at.nd rfl (.inl rfl) pe_int ip_add)))
  (pss_one (ps_ret (pe_slice sl_str (pv 0) (po_some (pv 1)) (po_some (pv 2))))))), ?_⟩
  refine ⟨_, rfl, ?_⟩
  refine ⟨fun m σ H' => ∃ i, i + m = (tl x).length ∧ σ = [some (.str z), some (.int (a.length : Int)), some (.int ((a.length : Int) + (i : Int)))] ∧ Ex H H', ⟨_, 0, Nat.zero_add _, ?_, Ex.refl H⟩, ?_⟩
  · show [some (V.str z), some (V.int (a.length : Int)), some (V.int (a.length : Int))] = _
    rw [show (a.length : Int) + ((0 : Nat) : Int) = a.length by omega]
  rintro m σ H1 ⟨i, hm, rfl, e1⟩
  have hzl : z.length = a.length + ((tl x).length + b.length) := by rw [len_tl, e, List.length_append, List.length_append]
  have hzc : z.cps.toList = a ++ (tl x ++ b) := e
  refine ⟨_, rfl, _, rfl, _, z.length, rfl, ⟨Nat.le_trans hz (by decide), rfl⟩, _, _, rfl, rfl, _, rfl, ?_⟩
  have ret : ∀ H2, Ex H H2 → m = 0 → tRet (tSl rSlS (tVar 0) (tPart (tVar 1)) (tPart (tVar 2))) { nx := fun x H' => Q V.non H', rt := Q } [some (V.str z), some (V.int (a.length : Int)), some (V.int ((a.length : Int) + (i : Int)))] H2 := fun H2 e2 hm0 => by
    refine ⟨_, rfl, ⟨_, rfl, _, rfl, ⟨_, rfl, _, rfl, z, rfl, Nat.le_trans hz (by decide), ?_⟩⟩⟩
    have ei : (a.length : Int) + (i : Int) = ((a.length + x.length : Nat) : Int) := by rw [len_tl]; omega
    rw [ei, cut_mid e]
    exact q H2 e2
  have at_ : ∀ (k : Nat) (c : Nat), (tl x ++ b)[k]? = some c → atI z.cps.toList ((a.length : Int) + (k : Int)) = some c := fun k c hk => by
    have ek : (a.length : Int) + (k : Int) = ((a.length + k : Nat) : Int) := by omega
    rw [ek]
    refine atI_nat ?_
    rw [hzc, List.getElem?_append_right (by omega), show a.length + k - a.length = k by omega]
    exact hk
  cases m with
  | zero =>
    have hi : i = (tl x).length := by omega
    cases hb : b with
    | nil =>
      rw [hb] at hzl
      rw [show decide ((a.length : Int) + (i : Int) < (z.length : Int)) = false from decide_eq_false (by have hq : z.length = a.length + ((tl x).length + 0) := hzl; omega)]
      exact iteF (iteF (ret H1 e1 rfl))
    | cons c r =>
      have hb1 : b.length = r.length + 1 := by rw [hb]; rfl
      rw [show decide ((a.length : Int) + (i : Int) < (z.length : Int)) = true from decide_eq_true (by omega)]
      refine iteT ⟨_, rfl, _, rfl, z, _, c, rfl, rfl, Nat.le_trans hz (by decide), at_ i c ?_, c, stopS, rfl, rfl, _, rfl, ?_⟩
      · rw [hb, hi, List.getElem?_append_right (Nat.le_refl _), Nat.sub_self]
        rfl
      · rw [stopS_tl, decide_eq_true (h2 c (by rw [hb]; rfl))]
        exact iteF (ret H1 e1 rfl)
  | succ m =>
    rw [show decide ((a.length : Int) + (i : Int) < (z.length : Int)) = true from decide_eq_true (by omega)]
    have hlt : i < (tl x).length := by omega
    refine iteT ⟨_, rfl, _, rfl, z, _, (tl x)[i], rfl, rfl, Nat.le_trans hz (by decide), at_ i _ ?_, (tl x)[i], stopS, rfl, rfl, _, rfl, ?_⟩
    · rw [List.getElem?_append_left hlt, List.getElem?_eq_getElem hlt]
    · rw [stopS_tl, decide_eq_false (h1 _ (List.getElem_mem hlt))]
      refine iteT ⟨fun σ' H' => (i + 1) + m = (tl x).length ∧ σ' = [some (.str z), some (.int (a.length : Int)), some (.int ((a.length : Int) + ((i + 1 : Nat) : Int)))] ∧ Ex H H', fun σ' H' h => ⟨m, Nat.lt_succ_self m, i + 1, h⟩, ?_⟩
      refine ⟨_, rfl, _, _, rfl, rfl, by omega, ?_, e1⟩
      show [some (V.str z), some (V.int (a.length : Int)), some (V.int ((a.length : Int) + (i : Int) + 1))] = _
      rw [show (a.length : Int) + (i : Int) + 1 = (a.length : Int) + ((i + 1 : Nat) : Int) by omega]
end
end V


set_option Elab.async false
set_option linter.all false
set_option maxRecDepth 100000
set_option maxHeartbeats 4000000
namespace V
open PySem PySem.Spec PyProof.Rows L2 Evl TL NumText
section
variable {P : Program} {w : World} {K : PySem.W.Frag} {mg : Str → Option Value} {base : Heap}
theorem ok_termAt1 (T : Txt K w mg) {n k : Nat} (hk : 2 ≤ k) (G_word_at : Cal P w K mg base 1 "word_at" ["text", "start"] spWordAt) (G_leaf_of : Cal P w K mg base 2 "leaf_of" ["word"] spLeaf) (G_bracket_at : Cal P w K mg base k "bracket_at" ["text", "start", "deep"] (spBracketAt n)) :
    Cal P w K mg base (k + 1) "term_at" ["text", "start", "deep"] (spTermAt n) := by
  refine T.D_term_at.cal sc_term_at (fun vs H Q E h => ?_) (fun f cdv A outer s H vs Q E hr h => ?_)
  · obtain ⟨z, a, b, t, d, M, rfl, _⟩ := h
    rfl
  obtain ⟨z, a, b, t, d, M, rfl, hz, e, hb, hO, hM, hd, hn, q⟩ := h
  refine ⟨_, (pss_cons (ps_if (pt_cmpR op_eq (pv 2) pe_int (nomark _))
    pss_never
    pss_nil)
  (pss_cons (ps_if (pt_cmpR op_eq (pe_slice sl_str (pv 0) (po_some (pv 1)) (po_some (pe_op op_add (pv 1) pe_int))) pe_str (nomark _))
    (pss_one (ps_ret (pe_fn G_bracket_at hr (by omega) (pa_cons (pv 0) (pa_cons (pv 1) (pa_cons (pv 2) pa_nil))))))
    pss_nil)
  (pss_cons (ps_set (i := 3) sc_term_at.nd rfl (.inl rfl) (pe_fn G_word_at hr (by omega) (pa_cons (pv 0) (pa_cons (pv 1) pa_nil))))
  (pss_one (ps_ret (pe_tup (pa_cons (pe_fn G_leaf_of hr (by omega) (pa_cons (pv 3) pa_nil)) (pa_cons (pe_op op_add (pv 1) (pe_bi call_len T.z_len (pa_cons (pv 3) pa_nil))) pa_nil)))))))), ?_⟩
  have dp := deep_pos t
  refine ⟨_, rfl, rfl, _, rfl, ?_⟩
  rw [decide_eq_false (fun x => by have := V.int.inj x; omega)]
  refine iteF ⟨_, rfl, ⟨_, rfl, _, rfl, ⟨_, rfl, _, _, rfl, rfl, _, rfl, z, rfl, Nat.le_trans hz (by decide), ?_⟩⟩⟩
  have so : ("(" : Str) = ⟨#[40]⟩ := by decide +kernel
  by_cases hnode : ∃ h ts, t = .node h ts
  · obtain ⟨h, ts, rfl⟩ := hnode
    rw [cut_one (c := 40) (b := (tl h.S ++ (tails ts ++ [41])) ++ b) (by rw [e, tl_node]; rfl)]
    refine ⟨rfl, _, rfl, ?_⟩
    rw [eq_sign so]
    refine iteT ⟨_, rfl, _, rfl, _, rfl, z, a, b, h, ts, d, M, rfl, hz, e, hO, hM, hd, hn, fun H' p v e1 hp hv => q H' p v e1 hp hv⟩
  · have hno : ∀ h ts, t ≠ .node h ts := fun h ts x => hnode ⟨h, ts, x⟩
    have hparts : t.parts = [] := by
      cases t with
      | node h ts => exact absurd rfl (hno h ts)
      | _ => rfl
    obtain ⟨ls, ln⟩ := leaf_stops hO hparts hno
    obtain ⟨c, r, er⟩ := List.exists_cons_of_ne_nil ln
    rw [cut_one (c := c) (b := r ++ b) (by rw [e, er]; rfl)]
    refine ⟨rfl, _, rfl, ?_⟩
    rw [eq_sign so, decide_eq_false (fun x => ls c (by rw [er]; exact List.mem_cons_self ..) (by rw [x]; decide))]
    have tlen : t.txt.length ≤ z.length := by
      rw [len_tl, len_tl z, e, List.length_append, List.length_append]
      omega
    refine iteF ⟨_, rfl, _, rfl, z, t.txt, a, b, rfl, hz, e, ls, hb, fun H1 e1 => ?_⟩
    refine ⟨_, rfl, t.txt, rfl, by omega, fun H2 p e2 hp => ?_⟩
    refine ⟨_, rfl, _, rfl, _, t.txt.length, rfl, ⟨Nat.le_trans tlen (Nat.le_trans hz (by decide)), rfl⟩, _, _, rfl, rfl, sz 2, fun p2 hp2 => ?_⟩
    have e3 := Ex.new (o := .tup [.ref p, .int ((a.length : Int) + (t.txt.length : Int))]) hp2
    refine q _ p2 (.ref p) (e1.trans (e2.trans e3)) ?_ ((leaf_at hO hno hp).ex e3)
    rw [upd_same, Int.natCast_add]
theorem ok_bracketAt1 (T : Txt K w mg) {n k : Nat} (hk : 1 ≤ k) (G_word_at : Cal P w K mg base 1 "word_at" ["text", "start"] spWordAt) (G_number_in : Cal P w K mg base 1 "number_in" ["word"] spNumIn) (G_term_at : Cal P w K mg base k "term_at" ["text", "start", "deep"] (spTermAt n)) :
    Cal P w K mg base (k + 1) "bracket_at" ["text", "start", "deep"] (spBracketAt (n + 1)) := by
  obtain ⟨d_OPERATIONS, es, n0, g_OPERATIONS, KD, hin, hval⟩ := T.O.ex
  refine T.D_bracket_at.cal sc_bracket_at (fun vs H Q E h => ?_) (fun f cdv A outer s H vs Q E hr h => ?_)
  · obtain ⟨z, a, b, hh, ts, d, M, rfl, _⟩ := h
    rfl
  obtain ⟨z, a, b, hd, ts, d, M, rfl, hz, e, hO, hM, hdp, hn, q⟩ := h
  refine ⟨_, (pss_cons (ps_set (i := 3) sc_bracket_at.nd rfl (.inl rfl) (pe_fn G_word_at hr (by omega) (pa_cons (pv 0) (pa_cons (pe_op op_add (pv 1) pe_int) pa_nil))))
  (pss_cons (ps_set (i := 4) sc_bracket_at.nd rfl (.inl rfl) (pe_op op_add (pe_op op_add (pv 1) pe_int) (pe_bi call_len T.z_len (pa_cons (pv 3) pa_nil))))
  (pss_cons (ps_set (i := 5) sc_bracket_at.nd rfl (.inl rfl) (pe_lst pa_nil))
  (pss_cons (ps_while PassesOwn.never (pt_cmpR op_eq (pe_slice sl_str (pv 0) (po_some (pv 4)) (po_some (pe_op op_add (pv 4) pe_int))) pe_str (nomark _))
    (pss_cons (ps_asg (pe_fn G_term_at hr (by omega) (pa_cons (pv 0) (pa_cons (pe_op op_add (pv 4) pe_int) (pa_cons (pe_op op_sub (pv 2) pe_int) pa_nil)))) (pg_tup rfl (pgs_cons (pg_name (i := 6) sc_bracket_at.nd rfl (.inl rfl)) (pgs_cons (pg_name (i := 4) sc_bracket_at.nd rfl (.inl rfl)) pgs_nil))))
    (pss_one (ps_expr (pe_bm PySem.F.plainAttrs_list PySem.F.slot_list_append PySem.F.type_list_append mt_append (pv 5) (pa_cons (pv 6) pa_nil))))))
  (pss_cons (ps_if (pt_cmpR op_ne (pe_slice sl_str (pv 0) (po_some (pv 4)) (po_some (pe_op op_add (pv 4) pe_int))) pe_str (nomark _))
    pss_never
    pss_nil)
  (pss_cons (ps_if (pt_cmpR (op_in_kd KD) (pv 3) (pe_glob (v := .ref d_OPERATIONS) rfl g_OPERATIONS rfl) rfl)
    (pss_one (ps_ret (pe_tup (pa_cons (pe_tup (pa_cons (pv 3) (StX.pa_star (pv 5) pa_nil))) (pa_cons (pe_op op_add (pv 4) pe_int) pa_nil)))))
    pss_nil)
  (pss_cons (ps_if (pt_cmpR op_eq (pe_slice sl_str (pv 3) po_none (po_some pe_int)) pe_str (nomark _))
    (pss_one (ps_ret (pe_tup (pa_cons (pe_tup (pa_cons pe_str (pa_cons (pe_slice sl_str (pv 3) (po_some pe_int) po_none) (pa_cons (pe_bt call_tuple_of T.z_tuple (pa_cons (pv 5) pa_nil)) pa_nil)))) (pa_cons (pe_op op_add (pv 4) pe_int) pa_nil)))))
    pss_nil)
  (pss_cons (ps_if (pt_cmpR op_eq (pe_slice sl_str (pv 3) po_none (po_some pe_int)) pe_str (nomark _))
    (pss_one (ps_ret (pe_tup (pa_cons (pe_tup (pa_cons pe_str (pa_cons (pe_fn G_number_in hr (by omega) (pa_cons (pe_slice sl_str (pv 3) (po_some pe_int) po_none) pa_nil)) (pa_cons (pe_bt call_tuple_of T.z_tuple (pa_cons (pv 5) pa_nil)) pa_nil)))) (pa_cons (pe_op op_add (pv 4) pe_int) pa_nil)))))
    pss_nil)
  pss_never)))))))), ?_⟩
  cases hO with
  | node hok hks =>
  have e' : tl z = (a ++ [40]) ++ (tl hd.S ++ ((tails ts ++ [41]) ++ b)) := by
    rw [e, tl_node]
    simp only [List.append_assoc, List.cons_append, List.nil_append]
  have ea : ((a.length : Int) + 1) = (((a ++ [40]).length : Nat) : Int) := by rw [List.length_append]; show _ = ((a.length + 1 : Nat) : Int); omega
  refine ⟨_, rfl, _, rfl, _, _, rfl, rfl, z, hd.S, a ++ [40], (tails ts ++ [41]) ++ b, by show [V.str z, V.int ((a.length : Int) + 1)] = _; rw [ea], hz, e', hd_stops hok, ?_, fun H1 e1 => ?_⟩
  · intro c hc
    cases ts with
    | nil => cases hc; decide
    | cons t r => cases hc; decide
  have zl : z.length = a.length + 1 + (hd.S.length + ((tails ts).length + 1 + b.length)) := by
    rw [len_tl, e', List.length_append, List.length_append, List.length_append, List.length_append, List.length_append, ← len_tl]
    rfl
  have fits : ∀ m : Nat, m ≤ 1000000 → m ≤ sizeLine := fun m hm => Nat.le_trans hm (by decide)
  refine ⟨_, rfl, _, _, rfl, rfl, _, rfl, _, hd.S.length, rfl, ⟨fits _ (by omega), rfl⟩, _, _, rfl, rfl, sz 0, fun l hl => ?_⟩
  have el : Ex H1 (upd H1 l (.lst [])) := Ex.new hl
  refine ⟨fun m σ H' => ∃ (i : Nat) (us : List V) (y : Option V), i + m = ts.length ∧ σ = [some (.str z), some (.int (a.length : Int)), some (.int (d : Int)), some (.str hd.S), some (.int ((a.length + 1 + hd.S.length + (tails (ts.take i)).length : Nat) : Int)), some (.ref l), y] ∧
    Ex H1 H' ∧ H' l = some (.lst us) ∧ TmsAt H' us (ts.take i), ⟨_, 0, [], none, Nat.zero_add _, ?_, el, upd_same, .nil⟩, ?_⟩
  · have e0 : ((a.length + 1 + hd.S.length + (tails (ts.take 0)).length : Nat) : Int) = (a.length : Int) + 1 + (hd.S.length : Int) := by
      rw [List.take_zero]
      show ((a.length + 1 + hd.S.length + 0 : Nat) : Int) = _
      omega
    rw [e0]
    rfl
  rintro m σ H2 ⟨i, us, y, hm, rfl, e2, h2, hus⟩
  have so1 : (" " : Str) = ⟨#[32]⟩ := by decide +kernel
  have so2 : (")" : Str) = ⟨#[41]⟩ := by decide +kernel
  let pre := (a ++ [40]) ++ (tl hd.S ++ tails (ts.take i))
  have prl : pre.length = a.length + 1 + hd.S.length + (tails (ts.take i)).length := by
    show ((a ++ [40]) ++ (tl hd.S ++ tails (ts.take i))).length = _
    rw [List.length_append, List.length_append, List.length_append, ← len_tl]
    show a.length + 1 + (hd.S.length + _) = _
    omega
  rw [← prl]
  refine ⟨_, rfl, ⟨_, rfl, _, rfl, ⟨_, rfl, _, _, rfl, rfl, _, rfl, z, rfl, fits _ hz, ?_⟩⟩⟩
  cases m with
  | zero =>
    have hi : ts.take i = ts := by rw [show i = ts.length by omega]; exact List.take_length
    have ez : tl z = pre ++ (41 :: b) := by
      show tl z = ((a ++ [40]) ++ (tl hd.S ++ tails (ts.take i))) ++ (41 :: b)
      rw [e', hi]
      simp only [List.append_assoc, List.cons_append, List.nil_append]
    rw [cut_one ez]
    refine ⟨rfl, _, rfl, ?_⟩
    rw [eq_sign so1]
    refine iteF ?_
    refine ⟨_, rfl, ⟨_, rfl, _, rfl, ⟨_, rfl, _, _, rfl, rfl, _, rfl, z, rfl, fits _ hz, ?_⟩⟩⟩
    rw [cut_one ez]
    refine ⟨rfl, _, rfl, ?_⟩
    rw [eq_sign so2]
    refine iteF ?_
    have hu : TmsAt H2 us ts := by rw [hi] at hus; exact hus
    have few : us.length ≤ 4 := by rw [hu.length]; exact hok.le
    have done : ∀ (H' : Hp) (p : Addr) (v : V), Ex H2 H' → H' p = some (.tup [v, .int ((pre.length : Int) + 1)]) → TmAt H' v (.node hd ts) → Q (.ref p) H' := fun H' p v e3 hp hv => by
      refine q H' p v (e1.trans (e2.trans e3)) ?_ hv
      · rw [hp]
        have : (Tm.node hd ts).txt.length + a.length = pre.length + 1 := by
          rw [len_tl, tl_node, prl, hi, List.length_cons, List.length_append, List.length_append, ← len_tl]
          show _ + 1 + a.length = _
          have : [41].length = 1 := rfl
          omega
        rw [show ((a.length + (Tm.node hd ts).txt.length : Nat) : Int) = (pre.length : Int) + 1 by omega]
    obtain ⟨r, hr2, hr3⟩ := hin hd.S
    refine ⟨_, rfl, hd.S, r, rfl, rfl, hr2, _, rfl, ?_⟩
    rw [hr3]
    have small5 : us.length + 1 ≤ sizeLine := Nat.le_trans (by omega) (by decide : 5 ≤ sizeLine)
    cases hd with
    | op o =>
      rw [decide_eq_true (show (Hd.op o).S ∈ opWords by cases o <;> decide +kernel)]
      refine iteT ⟨_, rfl, _, rfl, l, us, rfl, .inr (SqL.of h2), ?_, fun p hp => ⟨_, rfl, _, _, rfl, rfl, sz 2, fun p2 hp2 => ?_⟩⟩
      · rw [List.append_nil]
        exact small5
      have f1 := Ex.new (o := .tup (.str (Hd.op o).S :: (us ++ []))) hp
      have f2 := Ex.new (o := .tup [.ref p, .int ((pre.length : Int) + 1)]) hp2
      refine done _ p2 (.ref p) (f1.trans f2) upd_same ?_
      refine .op (vs := us) ?_ (hu.ex (f1.trans f2))
      have h3 := f2 p _ upd_same
      exact h3.trans (by rw [List.append_nil]; rfl)
    | call m =>
      have tm : tl (Hd.call m).S = 35 :: tl m := by
        show tl (("#" : Str) ++ m) = _
        rw [tl_append, show tl ("#" : Str) = [35] by decide +kernel]
        rfl
      rw [decide_eq_false (show (Hd.call m).S ∉ opWords from fun x => ?_)]
      · have sl : (Hd.call m).S.length ≤ sizeLine := fits _ (by omega)
        refine iteF ⟨_, rfl, _, rfl, (Hd.call m).S, rfl, sl, ?_⟩
        rw [cut_first tm]
        refine ⟨rfl, _, rfl, ?_⟩
        rw [eq_sign (show ("#" : Str) = ⟨#[35]⟩ by decide +kernel)]
        refine iteT ⟨_, rfl, _, rfl, (Hd.call m).S, rfl, sl, ?_⟩
        rw [cut_rest tm]
        refine ⟨_, rfl, l, us, rfl, .inl ⟨SqL.of h2, fun p hp => ⟨sz 3, fun p2 hp2 => ⟨_, rfl, _, _, rfl, rfl, sz 2, fun p3 hp3 => ?_⟩⟩⟩⟩
        have f1 := Ex.new (o := .tup us) hp
        have f2 := Ex.new (o := .tup [.str "call", .str m, .ref p]) hp2
        have f3 := Ex.new (o := .tup [.ref p2, .int ((pre.length : Int) + 1)]) hp3
        exact done _ p3 (.ref p2) (f1.trans (f2.trans f3)) upd_same (.call (f3 p2 _ upd_same) (f3 p _ (f2 p _ upd_same)) (hu.ex (f1.trans (f2.trans f3))))
      · have all : ∀ s ∈ opWords, (tl s).head! ≠ 35 := by decide +kernel
        exact all _ x (by rw [tm]; rfl)
    | ring k =>
      have tm : tl (Hd.ring k).S = 64 :: tl (nt k) := by
        show tl (("@" : Str) ++ nt k) = _
        rw [tl_append, show tl ("@" : Str) = [64] by decide +kernel]
        rfl
      rw [decide_eq_false (show (Hd.ring k).S ∉ opWords from fun x => ?_)]
      · have sl : (Hd.ring k).S.length ≤ sizeLine := fits _ (by omega)
        have hkM : k ≤ M := hok.1
        refine iteF ⟨_, rfl, _, rfl, (Hd.ring k).S, rfl, sl, ?_⟩
        rw [cut_first tm]
        refine ⟨rfl, _, rfl, ?_⟩
        rw [eq_sign (show ("#" : Str) = ⟨#[35]⟩ by decide +kernel)]
        refine iteF ⟨_, rfl, _, rfl, (Hd.ring k).S, rfl, sl, ?_⟩
        rw [cut_first tm]
        refine ⟨rfl, _, rfl, ?_⟩
        rw [eq_sign (show ("@" : Str) = ⟨#[64]⟩ by decide +kernel)]
        refine iteT ⟨_, rfl, _, rfl, (Hd.ring k).S, rfl, sl, ?_⟩
        rw [cut_rest tm]
        refine ⟨nt k, rfl, Nat.le_trans (nt_len (by omega)) (by decide), fun H3 e3 => ?_⟩
        rw [numV_nt (by omega)]
        refine ⟨_, rfl, l, us, rfl, .inl ⟨SqL.of (e3 l _ h2), fun p hp => ⟨sz 3, fun p2 hp2 => ⟨_, rfl, _, _, rfl, rfl, sz 2, fun p3 hp3 => ?_⟩⟩⟩⟩
        have f1 := e3.trans (Ex.new (o := .tup us) hp)
        have f2 := Ex.new (o := .tup [.str "ring", .int (k : Int), .ref p]) hp2
        have f3 := Ex.new (o := .tup [.ref p2, .int ((pre.length : Int) + 1)]) hp3
        exact done _ p3 (.ref p2) (f1.trans (f2.trans f3)) upd_same (.ring (f3 p2 _ upd_same) (f3 p _ (f2 p _ upd_same)) (hu.ex (f1.trans (f2.trans f3))))
      · have all : ∀ s ∈ opWords, (tl s).head! ≠ 64 := by decide +kernel
        exact all _ x (by rw [tm]; rfl)
  | succ m =>
    have hlt : i < ts.length := by omega
    have ht : ts[i]? = some ts[i] := List.getElem?_eq_getElem hlt
    have htm : ts[i] ∈ ts := List.getElem_mem hlt
    generalize ts[i] = t at ht htm
    have ez : tl z = pre ++ (32 :: (tl t.txt ++ (tails (ts.drop (i + 1)) ++ (41 :: b)))) := by
      show tl z = ((a ++ [40]) ++ (tl hd.S ++ tails (ts.take i))) ++ _
      rw [e', tails_take ht]
      simp only [List.append_assoc, List.cons_append, List.nil_append]
    rw [cut_one ez]
    refine ⟨rfl, _, rfl, ?_⟩
    rw [eq_sign so1]
    have td : t.deep + 1 ≤ (Tm.node hd ts).deep := parts_deep (t := .node hd ts) htm
    refine iteT ⟨fun σ' H' => ∃ (us : List V) (y : Option V), (i + 1) + m = ts.length ∧ σ' = [some (.str z), some (.int (a.length : Int)), some (.int (d : Int)), some (.str hd.S), some (.int ((a.length + 1 + hd.S.length + (tails (ts.take (i + 1))).length : Nat) : Int)), some (.ref l), y] ∧
      Ex H1 H' ∧ H' l = some (.lst us) ∧ TmsAt H' us (ts.take (i + 1)), fun σ' H' ⟨us, y, h⟩ => ⟨m, Nat.lt_succ_self m, i + 1, us, y, h⟩, ?_⟩
    refine ⟨_, rfl, _, rfl, _, _, rfl, rfl, _, rfl, _, _, rfl, rfl, z, pre ++ [32], tails (ts.drop (i + 1)) ++ (41 :: b), t, d - 1, M, ?_, hz, ?_, ?_, hks t htm, hM, by omega, by omega, fun H3 p v e3 hp hv => ?_⟩
    · have ee : ((pre ++ [32]).length : Int) = (pre.length : Int) + 1 := by rw [List.length_append]; rfl
      have ed : ((d - 1 : Nat) : Int) = (d : Int) - 1 := by omega
      rw [ee, ed]
    · rw [ez]
      simp only [List.append_assoc, List.cons_append, List.nil_append]
    · intro c hc
      cases hdr : ts.drop (i + 1) with
      | nil =>
        rw [hdr] at hc
        cases hc
        decide
      | cons t2 r2 =>
        rw [hdr] at hc
        cases hc
        decide
    refine ⟨p, _, rfl, SqT.of hp, rfl, v, _, rfl, _, _, rfl, rfl, _, rfl, .inl ⟨rfl, us, SqL.of (e3 l _ h2)⟩, _, rfl, l, us, v, rfl, rfl, e3 l _ h2, ?_, ?_⟩
    · rw [hus.length, List.length_take]
      have := hok.le
      exact small1000 (by omega)
    refine ⟨us ++ [v], some v, by omega, ?_, ?_, upd_same, ?_⟩
    · have e0 : (((pre ++ [32]).length + t.txt.length : Nat) : Int) = ((a.length + 1 + hd.S.length + (tails (ts.take (i + 1))).length : Nat) : Int) := by
        have f1 : (pre ++ [32]).length = pre.length + 1 := List.length_append
        have f2 : (tails (ts.take i) ++ (32 :: tl t.txt)).length = (tails (ts.take i)).length + (t.txt.length + 1) := by rw [List.length_append, List.length_cons, ← len_tl]
        rw [tails_more ht, f1, f2, prl]
        omega
      rw [e0]
      rfl
    · exact Ex.mut (e2.trans e3) hl
    · rw [take_more ht]
      have tu : Tu H3 (upd H3 l (.lst (us ++ [v]))) := (But.upd (But.refl l H3)).tu (e3 l _ h2)
      exact ((hus.ex e3).tu tu).append (.cons (hv.tu tu) .nil)
/-- the parse of the text of a term, any place in a text -/
theorem ok_termAt (T : Txt K w mg) (G_word_at : Cal P w K mg base 1 "word_at" ["text", "start"] spWordAt) (G_number_in : Cal P w K mg base 1 "number_in" ["word"] spNumIn) (G_leaf_of : Cal P w K mg base 2 "leaf_of" ["word"] spLeaf) :
    ∀ n : Nat, Cal P w K mg base (2 * n + 3) "term_at" ["text", "start", "deep"] (spTermAt n)
  | 0 => (T.D_term_at.never fun vs H Q E h => by
      obtain ⟨z, a, b, t, d, M, _, _, _, _, _, _, h1, h2, _⟩ := h
      have := deep_pos t
      omega).mono (Nat.zero_le _)
  | n + 1 => ok_termAt1 T (n := n + 1) (k := 2 * n + 3 + 1) (by omega) G_word_at G_leaf_of (ok_bracketAt1 T (by omega) G_word_at G_number_in (ok_termAt T G_word_at G_number_in G_leaf_of n))
end
end V


set_option Elab.async false
set_option linter.all false
set_option maxRecDepth 100000
set_option maxHeartbeats 4000000
namespace V
open PySem PySem.Spec PyProof.Rows L2 Evl TL NumText
section
variable {P : Program} {w : World} {K : PySem.W.Frag} {mg : Str → Option Value} {base : Heap}
theorem ok_termIn (T : Txt K w mg) (G_term_at : Cal P w K mg base 19 "term_at" ["text", "start", "deep"] (spTermAt 8)) (G_is_term : Cal P w K mg base 12 "is_term" ["thing"] (spTest Small (isTm 8) K)) :
    Cal P w K mg base 20 "term_in" ["text"] (spTermIn K) := by
  refine T.D_term_in.cal sc_term_in (fun vs H Q E h => ?_) (fun f cdv A outer s H vs Q E hr h => ?_)
  · obtain ⟨t, M, rfl, _⟩ := h
    rfl
  obtain ⟨t, M, rfl, hz, hO, hM, hd, q⟩ := h
  refine ⟨_, (pss_cons (ps_asg (pe_fn G_term_at hr (by omega) (pa_cons (pv 0) (pa_cons pe_int (pa_cons (pe_gi T.c_DEEPEST) pa_nil)))) (pg_tup rfl (pgs_cons (pg_name (i := 1) sc_term_in.nd rfl (.inl rfl)) (pgs_cons (pg_name (i := 2) sc_term_in.nd rfl (.inl rfl)) pgs_nil))))
  (pss_cons (ps_if (PW.pt (pw_or (pt_cmpR op_ne (pv 2) (pe_bi call_len T.z_len (pa_cons (pv 0) pa_nil)) (nomark _)) (pw_or1 (pt_not (pt_val (pe_fn G_is_term hr (by omega) (pa_cons (pv 1) pa_nil)))))))
    pss_never
    pss_nil)
  (pss_one (ps_ret (pv 1))))), ?_⟩
  have ok11 : t.Ok 11 := hO.up hM
  refine ⟨_, rfl, t.txt, [], [], t, 8, M, rfl, hz, by rw [List.nil_append, List.append_nil], (fun c hc => by cases hc), hO, by omega, hd, by omega, fun H1 p v e1 hp hv => ?_⟩
  refine ⟨p, _, rfl, SqT.of hp, rfl, v, _, rfl, _, _, rfl, rfl, ?_⟩
  refine ⟨_, rfl, _, rfl, _, t.txt.length, rfl, ⟨Nat.le_trans hz (by decide), rfl⟩, rfl, _, rfl, ?_⟩
  rw [show decide (V.int ((([] : List Nat).length + t.txt.length : Nat) : Int) = V.int (t.txt.length : Int)) = true from decide_eq_true (by rw [List.length_nil, Nat.zero_add])]
  refine iteF ⟨_, rfl, v, t.py, rfl, hv.dp, py_small t hO, fun H2 e2 => ?_⟩
  rw [py_isTm 8 t ok11 hd]
  exact ⟨_, rfl, iteF ⟨_, rfl, q H2 v (e1.trans e2) (hv.ex e2)⟩⟩
end
end V


set_option Elab.async false
set_option linter.all false
set_option maxRecDepth 100000
set_option maxHeartbeats 4000000
namespace V
open PySem PySem.Spec PyProof.Rows L2 Evl TL NumText
section
variable {P : Program} {w : World} {K : PySem.W.Frag} {mg : Str → Option Value} {base : Heap}
theorem ok_markN (T : Txt K w mg) : Cal P w K mg base 1 "mark_of_number" ["number"] spMarkN := by
  refine T.D_mark_of_number.cal sc_mark_of_number (fun vs H Q E h => ?_) (fun f cdv A outer s H vs Q E hr h => ?_)
  · obtain ⟨n, rfl, _⟩ := h
    rfl
  obtain ⟨n, rfl, hn, q⟩ := h
  refine ⟨_, (pss_cons (ps_set (i := 1) sc_mark_of_number.nd rfl (.inl rfl) pe_str)
  (pss_cons (ps_for PassesOwn.never rfl (pi_range1 rfl T.z_range (pa_cons (pe_gi T.c_MARK_LENGTH) pa_nil)) (pg_name (i := 2) sc_mark_of_number.nd rfl (.inl rfl))
    (pss_cons (ps_set (i := 1) sc_mark_of_number.nd rfl (.inl rfl) (pe_op op_add_str (pe_ix ix_str (pe_gs T.c_SIGNS) (pe_op op_mod (pv 0) (pe_gi T.c_BASE)) (fun _ _ => rfl)) (pv 1)))
    (pss_one (ps_set (i := 0) sc_mark_of_number.nd rfl (.inl rfl) (pe_op op_fdiv (pv 0) (pe_gi T.c_BASE))))))
  (pss_one (ps_ret (pv 1))))), ?_⟩
  refine ⟨6, rfl, by decide, by decide, ?_⟩
  refine for_range (n := 6) (fun i σ H' => ∃ (m : Nat) (l : List Nat) (y : Option V), σ = [some (.int (m : Int)), some (.str ⟨l.toArray⟩), y] ∧ m < 2147483648 ∧ l.length = i ∧ mkL (6 - i) m l = mkL 6 n [] ∧ H' = H) ⟨n, [], none, rfl, hn, rfl, rfl, rfl⟩ ?_ ?_
  · rintro i σ H' hi ⟨m, l, y, rfl, hm, hl, he, rfl⟩
    have em : (m : Int) % 36 = ((m % 36 : Nat) : Int) := by omega
    refine ⟨_, rfl, _, _, rfl, rfl, (by show (0 : Int) < 36; decide), sgS, _, sgAt (m % 36), rfl, rfl, by decide +kernel, ?_, _, rfl, _, _, rfl, rfl, ?_, _, rfl, _, _, rfl, rfl, ⟨by decide, by decide⟩, ?_⟩
    · rw [em]
      exact sg_at (m % 36) (Nat.mod_lt _ (by decide))
    · show 1 + l.length ≤ sizeLine
      exact Nat.le_trans (by omega : 1 + l.length ≤ 7) (by decide)
    · rw [one_append]
      refine ⟨m / 36, sgAt (m % 36) :: l, some (.int (0 + (i : Int))), ?_, by omega, by rw [List.length_cons, hl], ?_, rfl⟩
      · rw [show ((m / 36 : Nat) : Int) = (m : Int) / 36 by omega]
        rfl
      · rw [← he, show 6 - i = (6 - (i + 1)) + 1 by omega]
        rfl
  · rintro σ H' ⟨m, l, y, rfl, hm, hl, he, rfl⟩
    have q1 := q H' (Ex.refl _)
    unfold mkS at q1
    rw [← he] at q1
    exact ⟨_, rfl, q1⟩
theorem ok_markT (T : Txt K w mg) (G_mark_of_number : Cal P w K mg base 1 "mark_of_number" ["number"] spMarkN) : Cal P w K mg base 2 "mark_of_text" ["text"] spMarkT := by
  refine T.D_mark_of_text.cal sc_mark_of_text (fun vs H Q E h => ?_) (fun f cdv A outer s H vs Q E hr h => ?_)
  · obtain ⟨z, rfl, _⟩ := h
    rfl
  obtain ⟨z, rfl, hz, hs, q⟩ := h
  refine ⟨_, (pss_cons (ps_set (i := 1) sc_mark_of_text.nd rfl (.inl rfl) (pe_gi T.c_FIRST_NUMBER))
  (pss_cons (ps_for PassesOwn.never rfl (pi_str (pv 0)) (pg_name (i := 2) sc_mark_of_text.nd rfl (.inl rfl))
    (pss_one (ps_set (i := 1) sc_mark_of_text.nd rfl (.inl rfl) (pe_op op_mod (pe_op op_add (pe_op op_add (pe_op op_mul (pv 1) (pe_gi T.c_FACTOR)) (pe_bm PySem.F.plainAttrs_str PySem.F.slot_str_index PySem.F.type_str_index mt_sindex (pe_gs T.c_SIGNS) (pa_cons (pv 2) pa_nil))) pe_int) (pe_gi T.c_MODULUS)))))
  (pss_one (ps_ret (pe_fn G_mark_of_number hr (by omega) (pa_cons (pv 1) pa_nil)))))), ?_⟩
  refine ⟨_, rfl, z, rfl, ?_⟩
  refine for_it walk_str (fun i σ H' => ∃ (y : Option V), σ = [some (.str z), some (.int ((hashL ((tl z).take i) 7 : Nat) : Int)), y] ∧ H' = H) ⟨none, rfl, rfl⟩ (fun _ _ _ _ _ => trivial) ?_ ?_
  · rintro i x σ H1 H2 hi ⟨y, rfl, rfl⟩ ⟨rfl, c, hc, rfl⟩
    have hc2 : (tl z)[i]? = some c := by rw [← hc]; exact Array.getElem?_toList
    have hcs := hs c (get_mem hc2)
    obtain ⟨rest, ho⟩ := sg_ix c hcs
    refine ⟨_, rfl, _, _, rfl, rfl, ?_, rfl, _, rfl, sgS, ⟨#[c]⟩, sgIx c, rest, rfl, rfl, ho, _, _, rfl, rfl, _, _, rfl, rfl, _, _, rfl, rfl, (by show (0 : Int) < 998244353; decide), ?_⟩
    · exact .inr ⟨by decide, by decide⟩
    · refine ⟨some (.str ⟨#[c]⟩), ?_, rfl⟩
      have e : ((hashL ((tl z).take (i + 1)) 7 : Nat) : Int) = (((hashL ((tl z).take i) 7 : Nat) : Int) * 131 + (sgIx c : Nat) + 1) % 998244353 := by
        have f : hashL ((tl z).take (i + 1)) 7 = (hashL ((tl z).take i) 7 * 131 + sgIx c + 1) % 998244353 := by
          rw [take_more hc2]
          unfold hashL
          rw [List.foldl_append]
          rfl
        rw [f]
        omega
      rw [e]
      rfl
  · rintro σ H1 ⟨y, rfl, rfl⟩
    have e : (tl z).take z.cps.size = tl z := by rw [show z.cps.size = (tl z).length from len_tl z, List.take_length]
    rw [e]
    refine ⟨_, rfl, hashL (tl z) 7, rfl, ?_, fun H2 e2 => q H2 e2⟩
    have lt : ∀ (l : List Nat) (n : Nat), n < 998244353 → hashL l n < 998244353 := by
      intro l
      induction l with
      | nil => exact fun n h => h
      | cons c l ih =>
        intro n h
        show hashL l ((n * 131 + sgIx c + 1) % 998244353) < _
        exact ih _ (Nat.mod_lt _ (by decide))
    have := lt (tl z) 7 (by decide)
    omega
end
end V


set_option Elab.async false
set_option linter.all false
set_option maxRecDepth 100000
set_option maxHeartbeats 4000000
namespace V
open PySem PySem.Spec PyProof.Rows L2 Evl TL NumText
section
variable {P : Program} {w : World} {K : PySem.W.Frag} {mg : Str → Option Value} {base : Heap}
theorem ok_same (T : Txt K w mg) : ∀ n : Nat, Cal P w K mg base n "_law_same" ["found", "due"] (spSame K n)
  | 0 => T.D__law_same.never fun vs H Q E h => by
      obtain ⟨v, w, d, _, _, _, h, _⟩ := h
      cases h
  | n + 1 => by
    have G__law_same := ok_same T n
    refine T.D__law_same.cal sc__law_same (fun vs H Q E h => ?_) (fun f cdv A outer s H vs Q E hr h => ?_)
    · obtain ⟨v, w, d, rfl, _⟩ := h
      rfl
    obtain ⟨v, w, d, rfl, h1, h2, hD, q⟩ := h
    refine ⟨_, (pss_cons (ps_if (pt_val (pe_bi call_isiT T.z_isinstance (pa_cons (pv 1) (pa_cons (pe_tup (pa_cons (pe_ty T.z_list) (pa_cons (pe_ty T.z_tuple) pa_nil))) pa_nil))))
    (pss_cons (ps_if (PW.pt (pw_or (pt_cmpR op_ne (pe_bi call_isi T.z_isinstance (pa_cons (pv 0) (pa_cons (pe_ty T.z_list) pa_nil))) (pe_bi call_isi T.z_isinstance (pa_cons (pv 1) (pa_cons (pe_ty T.z_list) pa_nil))) (nomark _)) (pw_or1 (pt_cmpR op_ne (pe_bi call_isi T.z_isinstance (pa_cons (pv 0) (pa_cons (pe_ty T.z_tuple) pa_nil))) (pe_bi call_isi T.z_isinstance (pa_cons (pv 1) (pa_cons (pe_ty T.z_tuple) pa_nil))) (nomark _)))))
      (pss_one (ps_ret pe_bl))
      pss_nil)
    (pss_one (ps_ret (pe_and (pe_cmpR op_eq (pe_bi call_len_seq T.z_len (pa_cons (pv 0) pa_nil)) (pe_bi call_len_seq T.z_len (pa_cons (pv 1) pa_nil)) (nomark _)) (pe_one (pe_bi (cr_all rfl) T.z_all (pa_cons (pe_lc (own := [("one", 2), ("other", 3)]) (g := (gTup K 2 (gCons (gName 2) (gCons (gName 3) gNil)))) (tt := tYes) rfl sc__law_same.nd (RZ.pi_zipA (by rfl) T.z_zip (pa_cons (pv 0) (pa_cons (pv 1) pa_nil))) (blkOk_by (N := N__law_same) (sc := defScope s__law_same) (by decide +kernel)) (fun _ _ _ _ _ => (pg_tup rfl (pgs_cons (pg_name (i := 2) sc__law_same.nd rfl (.inl rfl)) (pgs_cons (pg_name (i := 3) sc__law_same.nd rfl (.inl rfl)) pgs_nil)))) (fun _ _ _ _ _ => pts_nil) (fun _ _ _ _ _ => (pe_fn G__law_same hr (by omega) (pa_cons (pv 2) (pa_cons (pv 3) pa_nil))))) pa_nil)))))))
    pss_nil)
  (pss_cons (ps_if (PW.pt (pw_or (pt_cmpR op_isN (pv 1) pe_non (nomark _)) (pw_or1 (pt_val (pe_bi call_isi T.z_isinstance (pa_cons (pv 1) (pa_cons (pe_ty T.z_str) pa_nil)))))))
    (pss_one (ps_ret (pe_and (pe_cmpR op_eq (pv 0) (pv 1) (nomark _)) (pe_one (pe_cmpR op_eq (pe_bi call_isi T.z_isinstance (pa_cons (pv 0) (pa_cons (pe_ty T.z_str) pa_nil))) (pe_bi call_isi T.z_isinstance (pa_cons (pv 1) (pa_cons (pe_ty T.z_str) pa_nil))) (nomark _))))))
    pss_nil)
  (pss_one (ps_ret (pe_and (pe_bi call_isi T.z_isinstance (pa_cons (pv 0) (pa_cons (pe_ty T.z_int) pa_nil))) (pe_and (pe_cmpR op_eq (pe_bi call_isi T.z_isinstance (pa_cons (pv 0) (pa_cons (pe_ty T.z_bool) pa_nil))) (pe_bi call_isi T.z_isinstance (pa_cons (pv 1) (pa_cons (pe_ty T.z_bool) pa_nil))) (nomark _)) (pe_one (pe_cmpR op_eq (pv 0) (pv 1) (nomark _))))))))), ?_⟩
    refine ⟨_, rfl, sz 2, fun tp hp => ?_⟩
    have ep := Ex.new (o := .tup [.ty "list", .ty "tuple"]) hp
    refine ⟨_, tp, _, _, _, _, rfl, upd_same, .cons (.ty _) (.cons (.ty _) .nil), dp_ty (dp_ex ep h2), kit_two K d, _, rfl, ?_⟩
    have g1 := dp_ex ep h1
    have g2 := dp_ex ep h2
    generalize upd H tp (.tup [.ty "list", .ty "tuple"]) = H1 at ep g1 g2
    have qd : ∀ (x : V) (H' : Hp), Ex H H' → Q (.bl (decide (x = x))) H' := fun x H' e => by
      rw [decide_eq_true rfl]
      exact q H' e
    have nd : ∀ x : V, (!decide (x = x)) = false := fun x => by rw [decide_eq_true rfl]; rfl
    cases hD with
    | int i =>
      cases g1
      cases g2
      refine iteF ⟨_, rfl, rfl, _, rfl, iteF ?_⟩
      refine ⟨_, rfl, _, _, _, _, _, rfl, .ty _, dp_ty (Dp.int i), kit_ty (kit_str (.int i)), _, rfl, iteF ?_⟩
      refine ⟨_, rfl, _, _, _, _, _, rfl, .ty _, dp_ty (Dp.int i), kit_ty (kit_int (.int i)), _, rfl, iteT ?_⟩
      refine ⟨_, rfl, _, _, _, _, _, rfl, .ty _, dp_ty (Dp.int i), kit_ty (kit_bool (.int i)), _, rfl, _, _, _, _, _, rfl, .ty _, dp_ty (Dp.int i), kit_ty (kit_bool (.int i)), rfl, _, rfl, ?_⟩
      rw [decide_eq_true rfl]
      exact iteT ⟨_, rfl, _, rfl, rfl, qd _ _ ep⟩
    | str x =>
      cases g1
      cases g2
      refine iteF ⟨_, rfl, rfl, _, rfl, iteF ?_⟩
      refine ⟨_, rfl, _, _, _, _, _, rfl, .ty _, dp_ty (Dp.str x), kit_ty (kit_str (.str x)), _, rfl, iteT ⟨_, rfl, _, rfl, rfl, _, rfl, ?_⟩⟩
      rw [decide_eq_true rfl]
      exact iteT ⟨_, rfl, _, _, _, _, _, rfl, .ty _, dp_ty (Dp.str x), kit_ty (kit_str (.str x)), _, rfl, _, _, _, _, _, rfl, .ty _, dp_ty (Dp.str x), kit_ty (kit_str (.str x)), rfl, qd _ _ ep⟩
    | @lst _ ds hl hks =>
      cases g1 with
      | @lst a1 xs _ k1 m1 =>
      cases g2 with
      | @lst a2 ys _ k2 m2 =>
      refine iteT ⟨_, rfl, _, _, _, _, _, rfl, .ty _, dp_ty (Dp.lst (K := K) k1 m1), kit_ty (kit_lst _), _, rfl, _, _, _, _, _, rfl, .ty _, dp_ty (Dp.lst (K := K) k2 m2), kit_ty (kit_lst _), rfl, _, rfl, ?_⟩
      rw [nd]
      refine iteF ⟨_, rfl, _, _, _, _, _, rfl, .ty _, dp_ty (Dp.lst (K := K) k1 m1), kit_ty (kit_tup _), _, rfl, _, _, _, _, _, rfl, .ty _, dp_ty (Dp.lst (K := K) k2 m2), kit_ty (kit_tup _), rfl, _, rfl, ?_⟩
      rw [nd]
      have l1 := dps_len m1
      have l2 := dps_len m2
      refine iteF ⟨_, rfl, a1, xs, rfl, .inl k1, _, rfl, a2, ys, rfl, .inl k2, rfl, _, rfl, ?_⟩
      rw [show decide (V.int (xs.length : Int) = V.int (ys.length : Int)) = true from decide_eq_true (by rw [l1, l2])]
      refine iteT ⟨_, rfl, _, rfl, a1, a2, xs, ys, rfl, .inl ⟨k1, k2, fun Dl hN => ?_⟩⟩
      refine lc_it (walk_zip (n := xs.length) (by omega)) (fun i H3 => Ex H1 H3 ∧ H3 Dl = some (.lst (((ds.take i).map fun _ => true).map V.bl))) ⟨Ex.new hN, upd_same⟩ (fun i H3 _ p => ⟨ex_l p.1 k1, ex_l p.1 k2⟩) ?_ ?_
      · rintro i x H3 H4 hi ⟨e3, h3⟩ ⟨t, x1, x2, rfl, hT, rfl, hx1, hx2⟩
        obtain ⟨d1, u1, u2⟩ := dps_get m1 hx1
        obtain ⟨d2, u3, u4⟩ := dps_get m2 hx2
        rw [u1] at u3
        cases u3
        have f4 : Ex H1 (upd H3 t (.tup [x1, x2])) := e3.trans (Ex.new hT)
        have h4 : (upd H3 t (.tup [x1, x2])) Dl = some (.lst (((ds.take i).map fun _ => true).map V.bl)) := (Ex.new hT) Dl _ h3
        refine ⟨t, _, rfl, SqT.of upd_same, rfl, x1, _, rfl, x2, _, rfl, rfl, rfl, yes ⟨_, rfl, _, rfl, x1, x2, d1, rfl, dp_ex f4 u2, dp_ex f4 u4, hks d1 (get_mem u1), fun H5 e5 => ⟨_, e5 Dl _ h4, ?_, Ex.mut (f4.trans e5) hN, ?_⟩⟩⟩
        · rw [List.length_map, List.length_map, List.length_take]
          exact small1000 (by omega)
        · rw [upd_same, take_more u1, List.map_append, List.map_append]
          rfl
      · rintro H3 ⟨e3, h3⟩
        rw [show xs.length = ds.length from l1, List.take_length] at h3
        refine ⟨Dl, _, rfl, SqL.of h3, ?_⟩
        have ea : ((ds.map fun _ => true).all id) = true := by
          rw [List.all_map]
          exact List.all_eq_true.mpr fun _ _ => rfl
        rw [ea]
        exact q H3 (ep.trans e3)
    | @tup _ ds hl hks =>
      cases g1 with
      | @tup a1 xs _ k1 m1 =>
      cases g2 with
      | @tup a2 ys _ k2 m2 =>
      refine iteT ⟨_, rfl, _, _, _, _, _, rfl, .ty _, dp_ty (Dp.tup (K := K) k1 m1), kit_ty (kit_lst _), _, rfl, _, _, _, _, _, rfl, .ty _, dp_ty (Dp.tup (K := K) k2 m2), kit_ty (kit_lst _), rfl, _, rfl, ?_⟩
      rw [nd]
      refine iteF ⟨_, rfl, _, _, _, _, _, rfl, .ty _, dp_ty (Dp.tup (K := K) k1 m1), kit_ty (kit_tup _), _, rfl, _, _, _, _, _, rfl, .ty _, dp_ty (Dp.tup (K := K) k2 m2), kit_ty (kit_tup _), rfl, _, rfl, ?_⟩
      rw [nd]
      have l1 := dps_len m1
      have l2 := dps_len m2
      refine iteF ⟨_, rfl, a1, xs, rfl, .inr k1, _, rfl, a2, ys, rfl, .inr k2, rfl, _, rfl, ?_⟩
      rw [show decide (V.int (xs.length : Int) = V.int (ys.length : Int)) = true from decide_eq_true (by rw [l1, l2])]
      refine iteT ⟨_, rfl, _, rfl, a1, a2, xs, ys, rfl, .inr ⟨k1, k2, fun Dl hN => ?_⟩⟩
      refine lc_it (walk_zip2 (by omega)) (fun i H3 => Ex H1 H3 ∧ H3 Dl = some (.lst (((ds.take i).map fun _ => true).map V.bl))) ⟨Ex.new hN, upd_same⟩ (fun i H3 _ p => ⟨ex_t p.1 k1, ex_t p.1 k2⟩) ?_ ?_
      · rintro i x H3 H4 hi ⟨e3, h3⟩ ⟨t, x1, x2, rfl, hT, rfl, hx1, hx2⟩
        obtain ⟨d1, u1, u2⟩ := dps_get m1 hx1
        obtain ⟨d2, u3, u4⟩ := dps_get m2 hx2
        rw [u1] at u3
        cases u3
        have f4 : Ex H1 (upd H3 t (.tup [x1, x2])) := e3.trans (Ex.new hT)
        have h4 : (upd H3 t (.tup [x1, x2])) Dl = some (.lst (((ds.take i).map fun _ => true).map V.bl)) := (Ex.new hT) Dl _ h3
        refine ⟨t, _, rfl, SqT.of upd_same, rfl, x1, _, rfl, x2, _, rfl, rfl, rfl, yes ⟨_, rfl, _, rfl, x1, x2, d1, rfl, dp_ex f4 u2, dp_ex f4 u4, hks d1 (get_mem u1), fun H5 e5 => ⟨_, e5 Dl _ h4, ?_, Ex.mut (f4.trans e5) hN, ?_⟩⟩⟩
        · rw [List.length_map, List.length_map, List.length_take]
          exact small1000 (by omega)
        · rw [upd_same, take_more u1, List.map_append, List.map_append]
          rfl
      · rintro H3 ⟨e3, h3⟩
        rw [show xs.length = ds.length from l1, List.take_length] at h3
        refine ⟨Dl, _, rfl, SqL.of h3, ?_⟩
        have ea : ((ds.map fun _ => true).all id) = true := by
          rw [List.all_map]
          exact List.all_eq_true.mpr fun _ _ => rfl
        rw [ea]
        exact q H3 (ep.trans e3)
end
end V


set_option Elab.async false
set_option linter.all false
set_option maxRecDepth 100000
set_option maxHeartbeats 4000000
namespace V
open PySem PySem.Spec PyProof.Rows L2 Evl TL NumText
section
variable {P : Program} {w : World} {K : PySem.W.Frag} {mg : Str → Option Value} {base : Heap}
theorem all_k06 (T : Txt K w mg) {fL : Addr} {fd : FuncData} (F : FunD K "law" "law" (defArgs s_law) (defBody s_law) (defScope s_law) [] [] fL fd) : FnOk P w K mg base CX0 22 fL fd ["script"] (spLaw K) := by
  have G_parts : Cal P w K mg base 1 "parts_of" ["term"] spParts := ok_parts T.D_parts_of T.O T.g_CALLS
  have G_all : Cal P w K mg base 7 "terms_of" ["term"] (spAll 6) := ok_all T.D_terms_of G_parts 6
  have G_isTerm : Cal P w K mg base 12 "is_term" ["thing"] (spTest Small (isTm 8) K) :=
    ok_isTerm T (ok_within T (ok_isHeaded T (ok_numTo T.D_is_number_to T.z_isinstance T.z_int T.z_bool) (ok_isMark T.D_is_mark T.z_isinstance T.z_str T.z_len T.z_all T.c_MARK_LENGTH T.c_SIGNS T.c_BASE)
      (ok_isParts T.D_is_parts T.z_isinstance T.z_tuple T.z_len T.c_MOST_PARTS)) (ok_partsD T) 8)
  have G_num : Cal P w K mg base 1 "number_in" ["word"] spNumIn := ok_numberIn T
  have G_termIn := ok_termIn (P := P) (base := base) T (ok_termAt T (ok_wordAt T) G_num (ok_leafOf T G_num) 8) G_isTerm
  have G_take : Cal P w K mg base 1 "_law_take" ["box", "size"] spTake := ok_take T.D__law_take T.z_divmod
  have G_right := ok_right (P := P) (base := base) T (ok_known T) (ok_number T.D__law_number G_take) G_take (ok_text T G_parts (ok_headText T) 6) G_termIn (ok_deep T.D_deep_of G_parts T.z_max 6) (ok_size T.D_size_of G_all T.z_len)
    (ok_calls T.D_calls_of G_all T.z_sorted) (ok_places T.D_places_of G_all) (ok_same T 13) G_isTerm (ok_markT T (ok_markN T))
  exact ok_law T F (ok_folded T.D__law_folded T.z_list T.z_enumerate) (ok_box T.D__law_box T.z_len T.z_abs T.z_int) G_right
end
end V


set_option Elab.async false
set_option linter.all false
set_option maxRecDepth 100000
set_option maxHeartbeats 4000000
namespace V
open PySem PySem.Spec PyProof.Rows L2
theorem facts {P : Program} {w : World} {K : PySem.W.Frag} {h h0 : Heap} {mg : Str → Option Value} {f : Addr} (X : K.In h) (G : h.Ns mainGlobals mg) (hfa : mg ("law" : Str) = some (.ref f)) (c : He.SaysX fa fn tabs [] ex w h0 K) :
    ∃ fd : FuncData, (∀ (s : Shared) (v : Value), BindsTo s fd ⟨[v], []⟩ [("script", v)]) ∧ ∀ base : Heap, K.In base → base.Ns mainGlobals mg → FnOk P w K mg base CX0 22 f fd ["script"] (spLaw K) := by
  have T : Txt K w mg := txt_of X G c
  obtain ⟨fd, F⟩ := c.t.d.def_ 29 (d := d_law) rfl
  have e := hfa.symm.trans (He.glo_ok X G (c.t.d.fact 29 (f := .glo "law") rfl))
  cases e
  have b := FunD.bindsA (ps := ["script"]) F fun _ _ _ _ _ _ us hl => match us, hl with | [_], _ => rfl
  exact ⟨fd, fun s v => b s [v] rfl, fun base _ _ => all_k06 T F⟩
end V
open PySem PySem.W PySem.Calls PyProof.Rows
theorem PySem.Challenge.cw_contentnames_k06_known_terms_and_marks_holds : PySem.Challenge.rw_contentnames_k06_known_terms_and_marks.Holds := by
  w_on; o_law
  refine HandSHeadRun.head_any (r := OpenLaw.row PySem.Challenge.rw_contentnames_k06_known_terms_and_marks) (q := view (OpenLaw.row PySem.Challenge.rw_contentnames_k06_known_terms_and_marks).prog [50]) (H := V.hk) (ob := V.ob) (M := 6000) (loose := V.loose)
    (d := HandSHeadRun.topDef (OpenLaw.row PySem.Challenge.rw_contentnames_k06_known_terms_and_marks).prog 50) (kwd := []) V.ob_eq
    (by kernel_rfl) (fun s => by kernel_rfl) V.run (by kernel_rfl) (by kernel_rfl) (by kernel_rfl) (by rfl) (by first | assumption | decide +kernel) (by decide +kernel) ⟨rfl, rfl, rfl, rfl, rfl, by decide +kernel⟩ ?hw ?hc
  case hw => w_witness2
  case hc =>
    refine L2.walk_ofE (l := PySem.Challenge.rw_contentnames_k06_known_terms_and_marks) (n := 63) (k := 22) (x := "script") (CX := L2.CX0) rfl (by decide) (by kernel_rfl) ⟨rfl, by decide, by decide⟩ ?F (fun _ _ _ _ z => z)
    intro w mg fa h Y G hmg0
    obtain ⟨K, KX, c⟩ := Y
    have hmg : mg ("law" : PySem.Str) = some (.ref fa) := by
      have e : (HandSHeadRun.topDef (OpenLaw.row PySem.Challenge.rw_contentnames_k06_known_terms_and_marks).prog 50).name = ("law" : PySem.Str) := by kernel_rfl
      rw [← e]
      exact hmg0
    obtain ⟨fd, hb, hF⟩ := V.facts (P := (PySem.Challenge.rw_contentnames_k06_known_terms_and_marks).prog) (w := w) KX G hmg c
    exact ⟨K, fd, V.spLaw K, KX, hb, fun H a ns hl _ hS => ⟨a, ns, rfl, hS, hl, fun _ => rfl⟩, hF⟩

