import PyProof.Rows.All
import Wide.All
import OpenK.AllK
import Wide.FinOn
import HandS.ForMost
import HandS.More
import HandS.Defaults
import HandS.IsInst
import HandS.WideBits
import HandS.Wide
import HandS.Style
import HandS.TupAny
import HandS.StrMore
import HandS.SetKeys
import HandS.SetBool
import HandS.Flow
import HandS.RaiseOp
import HandS.Zip
import HandS.Walk
import HandS.Conv
import HandS.EndBits
import HandS.Evl
import HandS.SortKw
import KE.DatumOrd
import HandS.HeadHook4
import KE.IntTextText
import KE.KIntText
import PyProof.Rows.SortShellAny
import HandS.Replace
import HandS.Strs
import HandS.Star
import HandS.Head0
import HandS.Head1
import HandS.Head2
import HandS.HeadEnd
import HandS.HeadHook1
import HandS.HeadHook2
import HandS.HeadHook3
import HandS.HeadWalk
import KE.DatumIndex
import PyProof.StrLawsRepr
import HandS.SetFor
import PySem.Challenge.RW_contentnames_k02_deep_size_calls_places
set_option Elab.async false
set_option linter.all false
set_option maxRecDepth 100000
set_option maxHeartbeats 4000000
namespace V
open PySem PySem.Spec PyProof.Rows L2 Evl
/-! ### defs of the top, called by their names -/
/-- the def of this name stands at the top -/
structure Def (K : PySem.W.Frag) (mg : Str → Option Value) (x : Str) (st : Stmt) (ps : List Str) : Prop where
  ex : ∃ (f : Addr) (fd : FuncData), FunD K x x (defArgs st) (defBody st) (defScope st) [] [] f fd ∧ mg x = some (.ref f) ∧ Binds K fd ps []
/-- .. and keeps this promise, with k calls within one another -/
structure Cal (P : Program) (w : World) (K : PySem.W.Frag) (mg : Str → Option Value) (base : Heap) (k : Nat) (x : Str) (ps : List Str) (sp : Sp) : Prop where
  ex : ∃ (f : Addr) (fd : FuncData), FnOk P w K mg base CX0 k f fd ps sp ∧ mg x = some (.ref f) ∧ PySem.W.keepIn K (.ref f) = true ∧ Binds K fd ps []
section
variable {P : Program} {w : World} {K : PySem.W.Frag} {mg : Str → Option Value} {base : Heap} {x : Str} {st : Stmt} {ps N : List Str} {k : Nat} {sp sp' : Sp}
theorem Def.cal (D : Def K mg x st ps) (S : FnScope N ps (defScope st)) (len : ∀ vs H Q E, sp vs H Q E → vs.length = ps.length)
    (body : ∀ (f : Addr) (cdv : Value) (A : Around) (outer : List Env) (s : Shared) (H : Hp) (vs : List V) (Q : VK) (E : XK),
      Room k (A.deeper (envOfC x (defScope st) s.heap.objs.size f cdv)) → sp vs H Q E →
      ∃ t, PSs (cxOf CX0 P w K mg base N x (defScope st) f cdv A outer s H E).nox (defBody st) t ∧
        t { nx := fun _ H' => Q .non H', rt := Q } (start N vs) H) : Cal P w K mg base (k + 1) x ps sp := by
  obtain ⟨f, fd, F, hm, hb⟩ := D.ex
  refine ⟨f, fd, F.ok S len (fun cdv A outer s H vs Q E hr h => ?_), hm, F.kp, hb⟩
  obtain ⟨t, h1, h2⟩ := body f cdv A outer s H vs Q E hr h
  exact ⟨t, h1.nox, h2⟩
theorem Cal.mono {j : Nat} (C : Cal P w K mg base j x ps sp) (h : j ≤ k) : Cal P w K mg base k x ps sp := by
  obtain ⟨f, fd, F, h1, h2, h3⟩ := C.ex
  exact ⟨f, fd, F.mono h, h1, h2, h3⟩
theorem Cal.imp (C : Cal P w K mg base k x ps sp) (h : ∀ vs H Q E, sp' vs H Q E → sp vs H Q E) : Cal P w K mg base k x ps sp' := by
  obtain ⟨f, fd, F, h1, h2, h3⟩ := C.ex
  exact ⟨f, fd, F.imp h, h1, h2, h3⟩
/-- nothing is promised: none may call it -/
theorem Def.never (D : Def K mg x st ps) (no : ∀ vs H Q E, ¬ sp vs H Q E) : Cal P w K mg base 0 x ps sp := by
  obtain ⟨f, fd, F, hm, hb⟩ := D.ex
  exact ⟨f, fd, ⟨fun vs H Q E h => absurd h (no vs H Q E), fun A outer s H args us vs Q E _ _ _ _ h => absurd h (no vs H Q E)⟩, hm, F.kp, hb⟩
end
/-- its call -/
def tFn (sp : Sp) (t : TA) : TE := fun σ H Q => t σ H fun vs H1 => sp vs H1 Q E0
section
variable {X : Cx}
theorem pe_fn {j k : Nat} {x : Str} {ps : List Str} {sp : Sp} {e : Expr} {es : List Expr} {t : TA} {p pos : Pos} (C : Cal X.prog X.w X.K X.mg X.base k x ps sp) (hr : Room j X.A) (hk : k ≤ j) (ha : PA X (e :: es) t)
    (hg : Gl X x := by rfl) (hdb : (x == ("__debug__" : Str)) = false := by decide) (he : starEach (e :: es) X.env = (false, eval e X.env) :: starEach es X.env := by rfl)
    (hpl : (backTo pos (starEach es X.env)).any (·.1) = false := by rfl) : PE X (.Call (.Name x p) (e :: es) [] pos) (tFn sp t) := by
  obtain ⟨f, fd, F, h1, h2, h3⟩ := C.ex
  have h := pe_call (ds := []) (dvs := []) (E := E0) (p := p) F (hr.mono hk) hg h1 h2 h3 .nil pass0 ha hdb he hpl
  refine ⟨fun pins s σ H Q I q => h.run pins s σ H Q I ?_⟩
  have e1 : (fun (vs : List V) (H1 : Hp) => sp (vs ++ []) H1 Q E0) = fun vs H1 => sp vs H1 Q E0 := by
    funext vs H1
    rw [List.append_nil]
  show t σ H fun vs H1 => sp (vs ++ []) H1 Q E0
  rw [e1]
  exact q
/-- a built-in function, a built-in type, called -/
theorem pe_bi {id : String} {r : List V → Hp → VK → Prop} {x : Str} {e : Expr} {es : List Expr} {t : TA} {p pos : Pos} (hc : CallR X (.builtin id) r) (hm : X.mg x = none) (ha : PA X (e :: es) t) (hg : Gl X x := by rfl)
    (hv : bootBuiltins x = some (.builtin id) := by decide +kernel) (hn : x ≠ "__name__" := by decide) (hdb : (x == ("__debug__" : Str)) = false := by decide)
    (he : starEach (e :: es) X.env = (false, eval e X.env) :: starEach es X.env := by rfl) (hpl : (backTo pos (starEach es X.env)).any (·.1) = false := by rfl) : PE X (.Call (.Name x p) (e :: es) [] pos) (tCB r t) :=
  pe_callB hc hg hm hv ha hn hdb he hpl
theorem pe_bt {T : String} {r : List V → Hp → VK → Prop} {x : Str} {e : Expr} {es : List Expr} {t : TA} {p pos : Pos} (hc : CallR X (.type T) r) (hm : X.mg x = none) (ha : PA X (e :: es) t) (hg : Gl X x := by rfl)
    (hv : bootBuiltins x = some (.type T) := by decide +kernel) (hn : x ≠ "__name__" := by decide) (hdb : (x == ("__debug__" : Str)) = false := by decide)
    (he : starEach (e :: es) X.env = (false, eval e X.env) :: starEach es X.env := by rfl) (hpl : (backTo pos (starEach es X.env)).any (·.1) = false := by rfl) : PE X (.Call (.Name x p) (e :: es) [] pos) (tCB r t) :=
  pe_callTy hc hg hm hv ha hn hdb he hpl
theorem ev_fn {sp : Sp} {σ : L2.St} {H : Hp} {vs : List V} {z : V} {ta : TA} (h : EvA ta σ H vs) (hs : SpV sp vs H z) : Ev (tFn sp ta) σ H z := fun H1 e Q q =>
  h H1 e _ fun H2 e2 => hs H2 (e.trans e2) Q (fun H3 e3 => q H3 (e2.trans e3)) E0
theorem el_fn {sp : Sp} {σ : L2.St} {H : Hp} {vs xs : List V} {ta : TA} (h : EvA ta σ H vs) (hs : SpL sp vs H xs) : EvL (tFn sp ta) σ H xs := fun H1 e Q q =>
  h H1 e _ fun H2 e2 => hs H2 (e.trans e2) Q (fun p H3 hp e3 h3 => q p H3 (fresh_back e2 hp) (e2.trans e3) h3) E0
end
theorem sz (n : Nat) (h : n ≤ 1000 := by decide) : n ≤ sizeLine := Nat.le_of_lt (small1000 h)
theorem at0 {α : Type} {x : α} {r : List α} : atI (x :: r) 0 = some x := atI_nat (j := 0) rfl
theorem at1 {α : Type} {x y : α} {r : List α} : atI (x :: y :: r) 1 = some y := atI_nat (j := 1) rfl
theorem at2 {α : Type} {x y z : α} {r : List α} : atI (x :: y :: z :: r) 2 = some z := atI_nat (j := 2) rfl
/-- a turn of a comprehension without a test -/
theorem yes {σ : L2.St} {H : Hp} {A B : Hp → Prop} (h : A H) : tYes σ H fun b H3 => if b = true then A H3 else B H3 := by
  show (fun b H3 => if b = true then A H3 else B H3) true H
  exact iteT h
/-! ### heaps -/
/-- all that was tracked but at b is as it was -/
def But (b : Addr) (H H' : Hp) : Prop := ∀ c o, c ≠ b → H c = some o → H' c = some o
theorem But.refl (b : Addr) (H : Hp) : But b H H := fun _ _ _ h => h
theorem But.trans {b : Addr} {H H1 H2 : Hp} (x : But b H H1) (y : But b H1 H2) : But b H H2 := fun c o n h => y c o n (x c o n h)
theorem But.of {b : Addr} {H H' : Hp} (e : Ex H H') : But b H H' := fun c o _ h => e c o h
theorem But.upd {b : Addr} {H H' : Hp} {o : HO} (e : But b H H') : But b H (upd H' b o) := fun c u n h => by
  rw [upd_ne n]
  exact e c u n h
/-- the tuples stay -/
def Tu (H H' : Hp) : Prop := ∀ c xs, H c = some (.tup xs) → H' c = some (.tup xs)
theorem Tu.refl (H : Hp) : Tu H H := fun _ _ h => h
theorem Tu.trans {H H1 H2 : Hp} (x : Tu H H1) (y : Tu H1 H2) : Tu H H2 := fun c xs h => y c xs (x c xs h)
theorem Tu.of {H H' : Hp} (e : Ex H H') : Tu H H' := fun c _ h => e c _ h
theorem But.tu {b : Addr} {xs : List V} {H H' : Hp} (e : But b H H') (hb : H b = some (.lst xs)) : Tu H H' := fun c ys h => e c _ (fun z => by
  rw [z, hb] at h
  cases h) h
end V


set_option Elab.async false
set_option linter.all false
set_option maxRecDepth 100000
set_option maxHeartbeats 4000000
namespace V
open PySem PySem.Spec PyProof.Rows L2 Evl
/-! ### max(numbers, default=d) -/
def rMaxDf (K : PySem.W.Frag) : List V → List V → Hp → VK → Prop := fun vs zs H Q => ∃ (a : Addr) (ns : List Int) (d : Int), vs = [V.ref a] ∧ zs = [V.int d] ∧ SqL K H a (ns.map V.int) ∧
  (ns = [] → Q (.int d) H) ∧ ∀ m, m ∈ ns → (∀ y, y ∈ ns → y ≤ m) → Q (.int m) H
theorem top_of : ∀ (xs : List Int) (x : Int), (xs.foldl (fun a y => if PySem.W.DatumOrd.lt a y = true then y else a) x) ∈ x :: xs ∧ ∀ y ∈ x :: xs, y ≤ xs.foldl (fun a y => if PySem.W.DatumOrd.lt a y = true then y else a) x
  | [], x => ⟨List.mem_cons_self .., fun y h => by
    rw [List.mem_singleton.mp h]
    exact Int.le_refl _⟩
  | z :: xs, x => by
    obtain ⟨h1, h2⟩ := top_of xs (if PySem.W.DatumOrd.lt x z = true then z else x)
    rw [List.foldl_cons]
    generalize List.foldl (fun a y => if PySem.W.DatumOrd.lt a y = true then y else a) (if PySem.W.DatumOrd.lt x z = true then z else x) xs = top at h1 h2 ⊢
    have lt_is : PySem.W.DatumOrd.lt x z = decide (x < z) := rfl
    have h3 := h2 _ (List.mem_cons_self ..)
    rw [lt_is] at h1 h3
    by_cases c : x < z
    · rw [if_pos (decide_eq_true c)] at h1 h3
      refine ⟨List.mem_cons_of_mem _ h1, fun y hy => ?_⟩
      rcases List.mem_cons.mp hy with rfl | hy
      · omega
      · rcases List.mem_cons.mp hy with rfl | hy
        · exact h3
        · exact h2 y (List.mem_cons_of_mem _ hy)
    · rw [if_neg (by rw [decide_eq_true_eq]; exact c)] at h1 h3
      refine ⟨?_, fun y hy => ?_⟩
      · rcases List.mem_cons.mp h1 with e | h1
        · rw [e]
          exact List.mem_cons_self ..
        · exact List.mem_cons_of_mem _ (List.mem_cons_of_mem _ h1)
      · rcases List.mem_cons.mp hy with rfl | hy
        · exact h3
        · rcases List.mem_cons.mp hy with rfl | hy
          · omega
          · exact h2 y (List.mem_cons_of_mem _ hy)
section
variable {X : Cx}
theorem cr_maxDf (hc : X.calm = true) (hu : X.A.units + 64 < cLine) : CallRK X (.builtin "max") ["default"] (rMaxDf X.K) := by
  intro pins s σ H vs zs us ws Q I r rz h
  obtain ⟨a, ns, d, rfl, rfl, hs, q0, q⟩ := h
  obtain ⟨its, rv, hl, _⟩ := I.list hs
  obtain ⟨u, rfl, t, rfl⟩ := vals1 rz
  rw [Vals.ref1 r]
  refine PySem.W.max_list_datum_default (xs := ns) (I.ok.hd hc) hl.isList (PySem.W.HoldAll.of_ints (by simpa using rv.ints)) (by show X.A.units + 1 + 0 < cLine; omega) (fun e h' tk hk => ?_) fun y ys i v h' tk e hi hh hk => ?_
  · exact ⟨.int d, H, I.kept hk, ⟨_, rfl⟩, q0 e⟩
  · have hv : ∃ t', v = .int (PySem.W.maxOf y ys) t' := by
      have ha : PySem.W.HoldAll h' [v] [PySem.W.maxOf y ys] := .cons hh .nil
      have hb := PySem.W.HoldAll.toInts ha
      cases hb with
      | cons n t _ => exact ⟨t, rfl⟩
    have hm := top_of ys y
    subst e
    exact ⟨.int (PySem.W.maxOf y ys), H, I.kept hk, hv, q _ hm.1 hm.2⟩
/-- .. as it's written: one argument, one keyword -/
theorem pe_maxDf {e : Expr} {es : List Expr} {kws : List Keyword} {t tk : TA} {p pos : Pos} (hc : X.calm = true) (hu : X.A.units + 64 < cLine) (hm : X.mg "max" = none) (ha : PA X (e :: es) t) (hk : PK X kws tk) (hg : Gl X "max" := by rfl)
    (h1 : backTo pos (starEach (e :: es) X.env) = (false, eval e X.env) :: backTo pos (starEach es X.env) := by rfl) (h2 : (backTo pos (starEach (e :: es) X.env)).any (·.1) = false := by rfl)
    (h3 : (backToKw pos (keywordEach kws X.env)).all (·.1.isSome) = true := by rfl) (h4 : (backToKw pos (keywordEach kws X.env)).any (·.1.isNone) = false := by rfl)
    (h5 : (backToKw pos (keywordEach kws X.env)).filterMap (·.1) = (["default"] : List Str) := by rfl) :
    PE X (.Call (.Name "max" p) (e :: es) kws pos) (tCKw (rMaxDf X.K) t tk) :=
  pe_callBK (cr_maxDf hc hu) hg hm (by decide +kernel) ha hk (by decide) (by decide) h1 h2 h3 h4 h5
end
end V


set_option Elab.async false
set_option linter.all false
set_option maxRecDepth 100000
set_option maxHeartbeats 4000000
namespace V
open PySem PySem.Spec PyProof.Rows L2 Evl
/-! ### terms -/
inductive Op where
  | add | less | times | under | cond
  deriving DecidableEq
def Op.str : Op → Str
  | .add => "add" | .less => "less" | .times => "times" | .under => "under" | .cond => "if"
def Op.ar : Op → Nat
  | .cond => 3
  | _ => 2
inductive Hd where
  | op (o : Op) | call (m : Str) | ring (p : Nat)
  deriving DecidableEq
inductive Tm where
  | num (n : Nat) | arg (k : Nat) | node (h : Hd) (ts : List Tm)
theorem Tm.ind {M : Tm → Prop} (h1 : ∀ n, M (.num n)) (h2 : ∀ k, M (.arg k)) (h3 : ∀ h ts, (∀ t ∈ ts, M t) → M (.node h ts)) : ∀ t, M t
  | .num n => h1 n
  | .arg k => h2 k
  | .node h ts => h3 h ts fun t ht => by
    have : sizeOf t < sizeOf (Tm.node h ts) := by
      have := List.sizeOf_lt_of_mem ht
      simp only [Tm.node.sizeOf_spec]
      omega
    exact Tm.ind h1 h2 h3 t
termination_by t => sizeOf t
def Tm.parts : Tm → List Tm
  | .node _ ts => ts
  | _ => []
mutual
def Tm.deep : Tm → Nat
  | .num _ => 1
  | .arg _ => 1
  | .node _ ts => 1 + Tm.deeps ts
def Tm.deeps : List Tm → Nat
  | [] => 0
  | t :: ts => max t.deep (Tm.deeps ts)
end
mutual
def Tm.size : Tm → Nat
  | .num _ => 1
  | .arg _ => 1
  | .node _ ts => 1 + Tm.sizes ts
def Tm.sizes : List Tm → Nat
  | [] => 0
  | t :: ts => t.size + Tm.sizes ts
end
mutual
/-- it and all in it, from left to right -/
def Tm.all : Tm → List Tm
  | .num n => [.num n]
  | .arg k => [.arg k]
  | .node h ts => .node h ts :: Tm.alls ts
def Tm.alls : List Tm → List Tm
  | [] => []
  | t :: ts => t.all ++ Tm.alls ts
end
/-- a mark: six figures or letters -/
def isMk (m : Str) : Prop := m.length = 6 ∧ ∀ c ∈ m.cps.toList, (48 ≤ c ∧ c ≤ 57) ∨ (97 ≤ c ∧ c ≤ 122)
def Hd.ok (M : Nat) : Hd → Nat → Prop
  | .op o, n => n = o.ar
  | .call m, n => isMk m ∧ n ≤ 4
  | .ring p, n => p ≤ M ∧ n ≤ 4
/-- as terms are, places to M -/
inductive Tm.Ok (M : Nat) : Tm → Prop where
  | num {n : Nat} : n ≤ 1000002 → Tm.Ok M (.num n)
  | arg {k : Nat} : k ≤ 3 → Tm.Ok M (.arg k)
  | node {h : Hd} {ts : List Tm} : h.ok M ts.length → (∀ t ∈ ts, Tm.Ok M t) → Tm.Ok M (.node h ts)
theorem Hd.ok.le {M : Nat} {h : Hd} {n : Nat} (k : h.ok M n) : n ≤ 4 := by
  cases h with
  | op o =>
    have e : n = o.ar := k
    rw [e]
    cases o <;> decide
  | call m => exact k.2
  | ring p => exact k.2
theorem deep_pos : ∀ t : Tm, 1 ≤ t.deep
  | .num _ => Nat.le_refl _
  | .arg _ => Nat.le_refl _
  | .node h ts => by
    show 1 ≤ 1 + Tm.deeps ts
    omega
theorem deep_le {t : Tm} {ts : List Tm} (h : t ∈ ts) : t.deep ≤ Tm.deeps ts := by
  induction ts with
  | nil => cases h
  | cons u us ih =>
    show t.deep ≤ max u.deep (Tm.deeps us)
    rcases List.mem_cons.mp h with rfl | h
    · omega
    · have := ih h
      omega
theorem all_len : ∀ t : Tm, t.all.length = t.size
  | .num _ => rfl
  | .arg _ => rfl
  | .node h ts => by
    have alls_len : ∀ us : List Tm, (∀ u ∈ us, u.all.length = u.size) → (Tm.alls us).length = Tm.sizes us := by
      intro us
      induction us with
      | nil => intro _; rfl
      | cons u us ih =>
        intro hu
        show (u.all ++ Tm.alls us).length = u.size + Tm.sizes us
        rw [List.length_append, hu u (List.mem_cons_self ..), ih fun v hv => hu v (List.mem_cons_of_mem _ hv)]
    show (Tm.alls ts).length + 1 = 1 + Tm.sizes ts
    rw [alls_len ts fun u hu => all_len u]
    omega
/-! ### terms as they lie -/
mutual
/-- v is the term t -/
inductive TmAt (H : Hp) : V → Tm → Prop where
  | num {a : Addr} {n : Nat} : H a = some (.tup [.str "num", .int (n : Int)]) → TmAt H (.ref a) (.num n)
  | arg {a : Addr} {k : Nat} : H a = some (.tup [.str "arg", .int (k : Int)]) → TmAt H (.ref a) (.arg k)
  | op {a : Addr} {o : Op} {vs : List V} {ts : List Tm} : H a = some (.tup (.str o.str :: vs)) → TmsAt H vs ts → TmAt H (.ref a) (.node (.op o) ts)
  | call {a p : Addr} {m : Str} {vs : List V} {ts : List Tm} : H a = some (.tup [.str "call", .str m, .ref p]) → H p = some (.tup vs) → TmsAt H vs ts → TmAt H (.ref a) (.node (.call m) ts)
  | ring {a p : Addr} {k : Nat} {vs : List V} {ts : List Tm} : H a = some (.tup [.str "ring", .int (k : Int), .ref p]) → H p = some (.tup vs) → TmsAt H vs ts → TmAt H (.ref a) (.node (.ring k) ts)
inductive TmsAt (H : Hp) : List V → List Tm → Prop where
  | nil : TmsAt H [] []
  | cons {v : V} {vs : List V} {t : Tm} {ts : List Tm} : TmAt H v t → TmsAt H vs ts → TmsAt H (v :: vs) (t :: ts)
end
mutual
theorem TmAt.tu {H H' : Hp} (e : Tu H H') : ∀ {v : V} {t : Tm}, TmAt H v t → TmAt H' v t
  | _, _, .num h => .num (e _ _ h)
  | _, _, .arg h => .arg (e _ _ h)
  | _, _, .op h hs => .op (e _ _ h) (hs.tu e)
  | _, _, .call h hp hs => .call (e _ _ h) (e _ _ hp) (hs.tu e)
  | _, _, .ring h hp hs => .ring (e _ _ h) (e _ _ hp) (hs.tu e)
theorem TmsAt.tu {H H' : Hp} (e : Tu H H') : ∀ {vs : List V} {ts : List Tm}, TmsAt H vs ts → TmsAt H' vs ts
  | _, _, .nil => .nil
  | _, _, .cons h hs => .cons (h.tu e) (hs.tu e)
end
theorem TmAt.ex {H H' : Hp} {v : V} {t : Tm} (h : TmAt H v t) (e : Ex H H') : TmAt H' v t := h.tu (Tu.of e)
theorem TmsAt.ex {H H' : Hp} {vs : List V} {ts : List Tm} (h : TmsAt H vs ts) (e : Ex H H') : TmsAt H' vs ts := h.tu (Tu.of e)
theorem TmsAt.length {H : Hp} : ∀ {vs : List V} {ts : List Tm}, TmsAt H vs ts → vs.length = ts.length
  | _, _, .nil => rfl
  | _, _, .cons _ hs => by rw [List.length_cons, List.length_cons, hs.length]
theorem TmsAt.get {H : Hp} : ∀ {vs : List V} {ts : List Tm}, TmsAt H vs ts → ∀ {i : Nat} {v : V}, vs[i]? = some v → ∃ t, ts[i]? = some t ∧ TmAt H v t
  | _, _, .nil, i, v, e => by simp at e
  | _, _, .cons h hs, 0, v, e => by
    cases Option.some.inj e
    exact ⟨_, rfl, h⟩
  | _, _, .cons h hs, i + 1, v, e => hs.get (i := i) (v := v) e
theorem TmsAt.append {H : Hp} : ∀ {vs ws : List V} {ts us : List Tm}, TmsAt H vs ts → TmsAt H ws us → TmsAt H (vs ++ ws) (ts ++ us)
  | _, _, _, _, .nil, q => q
  | _, _, _, _, .cons h hs, q => .cons h (hs.append q)
theorem TmsAt.take {H : Hp} : ∀ {vs : List V} {ts : List Tm} (n : Nat), TmsAt H vs ts → TmsAt H (vs.take n) (ts.take n)
  | _, _, 0, _ => .nil
  | _, _, _ + 1, .nil => .nil
  | _, _, n + 1, .cons h hs => .cons h (hs.take n)
theorem TmsAt.drop {H : Hp} : ∀ {vs : List V} {ts : List Tm} (n : Nat), TmsAt H vs ts → TmsAt H (vs.drop n) (ts.drop n)
  | _, _, 0, h => h
  | _, _, _ + 1, .nil => .nil
  | _, _, n + 1, .cons _ hs => hs.drop n
/-! ### the words of operations -/
def opWords : List Str := ["add", "less", "times", "under", "if"]
theorem dic_at {K : PySem.W.Frag} {a : Addr} {ls : List (Option (Str × Int))} (h : He.dicW K a = some ls) :
    ∃ oc od es n sl, K.lookup a = some ⟨oc, od, .dict es n, sl⟩ ∧ es.toList.map He.keyOf = ls := by
  unfold He.dicW at h
  split at h
  · rename_i c es n sl q
    split at h
    · exact ⟨_, _, es, n, sl, q, Option.some.inj h⟩
    · cases h
  · cases h
theorem find_key {P : Params} {z : Str} : ∀ {l : List DictEntry} {ks : List Str}, l.map He.keyOf = He.keysIn P ks →
    (l.find? (·.key.isStr z)).isSome = decide (z ∈ ks) ∧ l.any (·.refKey) = false
  | [], [], _ => ⟨rfl, rfl⟩
  | [], _ :: _, e => by cases e
  | _ :: _, [], e => by cases e
  | e :: l, k :: ks, h => by
    have h1 : He.keyOf e :: l.map He.keyOf = some (k, PyData.keyHash P k) :: He.keysIn P ks := h
    injection h1 with h2 h3
    obtain ⟨i1, i2⟩ := find_key (z := z) h3
    have hk : ∃ t, e.key = .str k t := by
      unfold He.keyOf at h2
      split at h2
      · rename_i x t q
        have := (Prod.mk.inj (Option.some.inj h2)).1
        exact ⟨t, by rw [q, this]⟩
      · cases h2
    obtain ⟨t, hk⟩ := hk
    have hs : e.key.isStr z = decide (k = z) := by
      rw [hk]
      first
        | rfl
        | (simp only [Value.isStr]; rw [Bool.eq_iff_iff]; simp)
    refine ⟨?_, ?_⟩
    · rw [List.find?_cons, hs]
      by_cases c : k = z
      · subst c
        simp
      · have c' : ¬ z = k := fun x => c x.symm
        rw [decide_eq_false c]
        simp only [List.mem_cons, c', false_or]
        exact i1
    · rw [List.any_cons, i2, Bool.or_false]
      unfold DictEntry.refKey
      rw [hk] <;> rfl
theorem isSome_mem {K : PySem.W.Frag} {P : Params} {a : Addr} {ks : List Str} (h : He.dicW K a = some (He.keysIn P ks)) (z : Str) : ∃ r, PySem.W.nsIn K a z = some r ∧ r.isSome = decide (z ∈ ks) := by
  obtain ⟨oc, od, es, n, sl, q, e⟩ := dic_at h
  obtain ⟨f1, f2⟩ := find_key (z := z) e
  unfold PySem.W.nsIn
  rw [q]
  dsimp only
  cases g : es.toList.find? (·.key.isStr z) with
  | some d =>
    rw [g] at f1
    exact ⟨some d.val, rfl, f1⟩
  | none =>
    rw [g] at f1
    rw [f2]
    exact ⟨none, rfl, f1⟩
/-- the table of operations, as the module has it -/
structure Ops (K : PySem.W.Frag) (w : World) (mg : Str → Option Value) : Prop where
  ex : ∃ (d : Addr) (es : Array DictEntry) (n : Nat), mg "OPERATIONS" = some (.ref d) ∧ KDict K w d es n ∧ (∀ z : Str, ∃ r, PySem.W.nsIn K d z = some r ∧ r.isSome = decide (z ∈ opWords)) ∧
    ∀ o : Op, ∃ u, PySem.W.nsIn K d o.str = some (some u) ∧ RelV (.int (o.ar : Int)) u
/-- the module's name x is a tuple, without a __dict__ -/
def tupN (K : PySem.W.Frag) (x : Str) : Bool := match K.lookup (He.ga K x) with
  | some ⟨.type c, none, _, _⟩ => decide (c = "tuple")
  | _ => false
theorem tupN_ok {K : PySem.W.Frag} {x : Str} (h : tupN K x = true) : ∃ o, K.lookup (He.ga K x) = some o ∧ o.cls = .type "tuple" ∧ o.dict = none := by
  unfold tupN at h
  cases q : K.lookup (He.ga K x) with
  | none =>
    rw [q] at h
    cases h
  | some o =>
    obtain ⟨oc, od, dt, osl⟩ := o
    rw [q] at h
    cases oc with
    | type c =>
      cases od with
      | none => exact ⟨_, rfl, congrArg Value.type (of_decide_eq_true h), rfl⟩
      | some a => cases h
    | _ => cases od <;> cases h
end V


set_option Elab.async false
set_option linter.all false
set_option maxRecDepth 100000
set_option maxHeartbeats 4000000
namespace V
open PySem PySem.Spec PyProof.Rows L2 Evl TL NumText
/-! ### texts of terms -/
/-- the figures of a number -/
def nt (n : Nat) : Str := Str.ofString (toString (n : Int))
def dig (n : Nat) : List Nat := (Nat.toDigits 10 n).map Char.toNat
theorem tl_nt (n : Nat) : tl (nt n) = dig n := PySem.W.KIN.signs_num n
theorem dig_all (n : Nat) : AllDigits (dig n) := by
  intro c hc
  obtain ⟨ch, hch, e⟩ := List.mem_map.mp hc
  have r := PyProof.Rows.digit_range (Nat.isDigit_of_mem_toDigits (by decide) (by decide) hch)
  rw [← e]
  exact r
theorem dig_ne (n : Nat) : dig n ≠ [] := fun e => by
  have h := toDigits_len_ge 10 n
  rw [List.map_eq_nil_iff.mp e] at h
  exact absurd h (by decide)
theorem dig_len {n : Nat} (h : n < 10000000) : (dig n).length ≤ 7 := by
  unfold dig
  rw [List.length_map]
  exact toDigits_len_pow (by decide) (by decide) (by show n < 10 ^ 7; omega)
theorem nt_len {n : Nat} (h : n < 10000000) : (nt n).length ≤ 7 := by
  rw [len_tl, tl_nt]
  exact dig_len h
def letter (k : Nat) : Str := (["a", "b", "c", "d"] : List Str).getD k "a"
def Hd.S : Hd → Str
  | .op o => o.str
  | .call m => "#" ++ m
  | .ring p => "@" ++ nt p
mutual
def Tm.txt : Tm → Str
  | .num n => nt n
  | .arg k => letter k
  | .node h ts => ("(" : Str) ++ Str.join " " (h.S :: Tm.txts ts) ++ ")"
def Tm.txts : List Tm → List Str
  | [] => []
  | t :: ts => t.txt :: Tm.txts ts
end
theorem txts_map (ts : List Tm) : Tm.txts ts = ts.map Tm.txt := by
  induction ts with
  | nil => rfl
  | cons t ts ih =>
    show t.txt :: Tm.txts ts = t.txt :: ts.map Tm.txt
    rw [ih]
theorem str_len_append (a b : Str) : (a ++ b).length = a.length + b.length := by
  rw [len_tl, len_tl, len_tl, tl_append, List.length_append]
theorem join_len (ys : List Str) : (Str.join " " ys).length ≤ (ys.map (·.length)).sum + ys.length := by
  have h := StrLaws.join_length_le " " ys
  have e : (" " : Str).length = 1 := by decide +kernel
  rw [e, Nat.mul_one] at h
  exact h
theorem letter_len {k : Nat} (h : k ≤ 3) : (letter k).length = 1 := by
  match k, h with
  | 0, _ => decide +kernel
  | 1, _ => decide +kernel
  | 2, _ => decide +kernel
  | 3, _ => decide +kernel
  | n + 4, h => omega
theorem Hd.S_len {M n : Nat} {h : Hd} (k : h.ok M n) (hM : M ≤ 1000000) : h.S.length ≤ 8 := by
  cases h with
  | op o => cases o <;> decide +kernel
  | call m =>
    show (("#" : Str) ++ m).length ≤ 8
    rw [str_len_append, k.1.1]
    decide +kernel
  | ring p =>
    show (("@" : Str) ++ nt p).length ≤ 8
    rw [str_len_append]
    have h1 : p ≤ M := k.1
    have := nt_len (n := p) (by omega)
    have e : ("@" : Str).length = 1 := by decide +kernel
    omega
theorem txt_len {M : Nat} (hM : M ≤ 1000000) : ∀ t : Tm, t.Ok M → t.txt.length ≤ 16 * t.size := by
  refine Tm.ind (fun n k => ?_) (fun j k => ?_) fun h ts ih k => ?_
  · cases k with
    | num hn =>
      show (nt n).length ≤ 16 * 1
      have := nt_len (n := n) (by omega)
      omega
  · cases k with
    | arg hk =>
      show (letter j).length ≤ 16 * 1
      rw [letter_len hk]
      omega
  · cases k with
    | node hh hks =>
      have sum : ∀ us : List Tm, (∀ u ∈ us, u.txt.length ≤ 16 * u.size) → ((Tm.txts us).map (·.length)).sum ≤ 16 * Tm.sizes us ∧ (Tm.txts us).length = us.length := by
        intro us
        induction us with
        | nil => intro _; exact ⟨Nat.le_refl _, rfl⟩
        | cons u us ih2 =>
          intro hu
          obtain ⟨i1, i2⟩ := ih2 fun v hv => hu v (List.mem_cons_of_mem _ hv)
          have h1 := hu u (List.mem_cons_self ..)
          refine ⟨?_, by show (Tm.txts us).length + 1 = us.length + 1; rw [i2]⟩
          show u.txt.length + ((Tm.txts us).map (·.length)).sum ≤ 16 * (u.size + Tm.sizes us)
          omega
      obtain ⟨s1, s2⟩ := sum ts fun u hu => ih u hu (hks u hu)
      show ((("(" : Str) ++ Str.join " " (h.S :: Tm.txts ts)) ++ ")").length ≤ 16 * (1 + Tm.sizes ts)
      rw [str_len_append, str_len_append]
      have j := join_len (h.S :: Tm.txts ts)
      rw [List.map_cons, List.sum_cons, List.length_cons] at j
      have e1 : ("(" : Str).length = 1 := by decide +kernel
      have e2 : (")" : Str).length = 1 := by decide +kernel
      have h4 := hh.le
      have h8 := Hd.S_len hh hM
      omega
theorem log_small {i : Int} (h0 : 0 ≤ i) (h1 : i < 10000000) : i.natAbs.log2 < 1920 := by
  have : i.natAbs < 2 ^ 24 := by
    have : (2 : Nat) ^ 24 = 16777216 := by decide
    omega
  exact Nat.lt_of_lt_of_le (PySem.Flt.log2_lt_of (by decide) this) (by decide)
theorem eq_word {a b : Str} : decide (V.str a = V.str b) = decide (a = b) := by
  rw [decide_eq_decide]
  exact ⟨V.str.inj, congrArg V.str⟩
end V


set_option Elab.async false
set_option linter.all false
set_option maxRecDepth 100000
set_option maxHeartbeats 4000000
/-! sets of texts: made, added to, by a comprehension, sorted -/
namespace VS
open PySem PySem.Spec PyProof.Rows L2 Evl
/-- the text of a member -/
def txO (m : Int × Value) : Str := match m.2 with
  | .str x _ => x
  | _ => Str.empty
def MemS (w : World) (m : Int × Value) : Prop := ∃ x t, m.2 = Value.str x t ∧ m.1 = hashStr w x
/-- a set of texts lies at a: S its members, n how many; its table rises, it can be walked -/
def SetS (w : World) (h : Heap) (a : Addr) (S : Str → Bool) (n : Nat) : Prop :=
  ∃ ob ms ep tb, h.get? a = some ob ∧ ob.ExactSet ∧ ob.data = .set ms ep tb ∧ (∀ m ∈ ms.toList, MemS w m) ∧ (ms.toList.map txO).Nodup ∧
    (∀ x, S x = true ↔ x ∈ ms.toList.map txO) ∧ ms.size < scanBound ∧ tb.fits ms.size = true ∧ ms.size = n ∧ Ris tb.place.toList ∧ (w.params.followText "set-order" = true ∨ tb.led = true)
section
variable {P : Program} {w : World} {h h' : Heap} {a : Addr} {S : Str → Bool} {n : Nat}
theorem SetS.keep (R : SetS w h a S n) (k : ∀ o, h.get? a = some o → h'.get? a = some o) : SetS w h' a S n := by
  obtain ⟨ob, ms, ep, tb, g, rest⟩ := R
  exact ⟨ob, ms, ep, tb, k ob g, rest⟩
theorem MemS.is {m : Int × Value} (g : MemS w m) (x : Str) : (PySem.strKind P w).is x m.2 = true ↔ txO m = x := by
  obtain ⟨y, t, e, _⟩ := g
  unfold txO
  rw [e]
  show (y == x) = true ↔ y = x
  exact beq_iff_eq
theorem elems_S {l : List (Int × Value)} (g : ∀ m ∈ l, MemS w m) : ElemsOf (PySem.strKind P w) l := fun m hm => by
  obtain ⟨y, t, e, eh⟩ := g m hm
  refine ⟨⟨y, ?_, eh⟩, ?_⟩
  · rw [e]
    exact PySem.strKind_is _ _ _ _
  · rw [e] <;> rfl
theorem in_S {l : List (Int × Value)} (g : ∀ m ∈ l, MemS w m) (x : Str) : x ∈ l.map txO ↔ ∃ m ∈ l, (PySem.strKind P w).is x m.2 = true := by
  rw [List.mem_map]
  exact ⟨fun ⟨m, hm, q⟩ => ⟨m, hm, ((g m hm).is x).2 q⟩, fun ⟨m, hm, q⟩ => ⟨m, hm, ((g m hm).is x).1 q⟩⟩
theorem SetS.of (R : SetS w h a S n) : h.SetOf (PySem.strKind P w) a S n := by
  obtain ⟨ob, ms, ep, tb, g, gx, gd, gm, _, gS, gb, gf, gn, _⟩ := R
  exact ⟨ob, ms, ep, tb, g, gx, gd, elems_S gm, fun x => (gS x).trans (in_S gm x), gb, gf, gn⟩
end
section
variable {P : Program} {w : World} {A : Around} {E : Value → Shared → Prop} {s : Shared} {a : Addr} {S : Str → Bool} {n : Nat}
theorem tail_S {gv : Bool → Sem Unit} (hgv : ∀ (b : Bool) (s₁ : Shared) (Q' : Unit → Shared → Prop), Q' () s₁ → wpAny (model P w) A (gv b) Q' E s₁)
    {ob : Obj} {ms : Array (Int × Value)} {ep : Nat} {tb : SetTable} (g : s.heap.get? a = some ob) (gx : ob.ExactSet) (gd : ob.data = .set ms ep tb)
    {ms1 : Array (Int × Value)} {tb2 : SetTable} {S' : Str → Bool} (q1 : ∀ m ∈ ms1.toList, MemS w m) (q2 : (ms1.toList.map txO).Nodup) (q3 : ∀ x, S' x = true ↔ x ∈ ms1.toList.map txO)
    (q4 : ms1.size < scanBound) (q5 : tb2.fits ms1.size = true) (q6 : Ris tb2.place.toList) (q7 : w.params.followText "set-order" = true ∨ tb2.led = true) {dmy : Bool} {R : Option Bool → Shared → Prop}
    (fin : ∀ h', Heap.SameBut a s.heap h' → SetS w h' a S' ms1.size → R (some true) { s with heap := h' }) :
    wpAny (model P w) A (do
        storeSet a ms1 tb2
        if (!dmy && tb2.tooFull) = true then do
            gv (relayAll tb2 ms1 (SetTable.grown ms1.size)).2.2
            storeSet a (relayAll tb2 ms1 (SetTable.grown ms1.size)).1 (relayAll tb2 ms1 (SetTable.grown ms1.size)).2.1
            pure (some true)
          else pure (some true)) R E s := by
  refine wpAny_bind (wpAny_storeSet_of g gd ?_ (fits_of_scanBound q4))
  have g1 := PpSet.storeB_at (es' := ms1) (t' := tb2) g gd
  have sb1 := Heap.SameBut.update s.heap a (Obj.putSet ms1 tb2)
  split
  · have p1 := relayAll_perm tb2 ms1 (SetTable.grown ms1.size)
    have p2 := relayAll_fits tb2 ms1 (SetTable.grown ms1.size)
    have p3 := relayAll_ris tb2 ms1 (SetTable.grown ms1.size)
    have p4 := relayAll_led tb2 ms1 (SetTable.grown ms1.size)
    generalize relayAll tb2 ms1 (SetTable.grown ms1.size) = Z at p1 p2 p3 p4 ⊢
    obtain ⟨ms2, tb3, gave⟩ := Z
    dsimp only at p1 p2 p3 p4 ⊢
    have z : ms2.size = ms1.size := by rw [← Array.length_toList, p1.length_eq, Array.length_toList]
    have b2 : ms2.size < scanBound := by rw [z]; exact q4
    refine wpAny_bind (hgv _ _ _ (wpAny_bind (wpAny_storeSet_of g1 rfl ?_ (fits_of_scanBound b2))))
    have g2 := PpSet.storeB_at (es' := ms2) (t' := tb3) g1 rfl
    exact wpAny_pure (fin _ (sb1.trans (Heap.SameBut.update _ a _)) ⟨_, ms2, _, tb3, g2, gx, rfl, fun m hm => q1 m (p1.mem_iff.mp hm), (p1.map txO).nodup_iff.mpr q2, fun x => (q3 x).trans (p1.map txO).mem_iff.symm, b2, p2, z, p3,
      q7.imp id fun y => by rw [p4]; exact y⟩)
  · exact wpAny_pure (fin _ sb1 ⟨_, ms1, _, tb2, g1, gx, rfl, q1, q2, q3, q4, q5, rfl, q6, q7⟩)
theorem addHashed_S {x : Str} {tk : Tok} {Q : Bool → Shared → Prop} (R : SetS w s.heap a S n) (room : n + 1 < scanBound)
    (hQ : ∀ h', Heap.SameBut a s.heap h' → SetS w h' a (fun y => S y || decide (y = x)) (if S x = true then n else n + 1) → Q (!S x) { s with heap := h' }) :
    wpAny (model P w) A (setAddHashed a (.str x tk) ((PySem.strKind P w).hash x)) Q E s := by
  obtain ⟨ob, ms, ep, tb, g, gx, gd, gm, gN, gS, gb, gf, gn, gR, gL⟩ := R
  have key : (PySem.strKind P w).is x (.str x tk) = true := PySem.strKind_is _ _ _ _
  have sc : (Value.str x tk).scannable = true := rfl
  have el : ElemsOf (PySem.strKind P w) ms.toList := elems_S gm
  unfold setAddHashed setAddHashedIn
  refine wpAny_holding (wpAny_bind (wpAny_setState_of g gd gf ?_))
  dsimp only
  rw [byScan_of sc gb el]
  simp only [↓reduceIte]
  unfold setAddByScan
  refine wpAny_bind (wpAny_bind (wpAny_rule (wpAny_bind (wpAny_setScan_of key g gd gf el ?_))))
  cases fi : List.findIdx? (fun m => (PySem.strKind P w).is x m.2) ms.toList with
  | some j =>
    dsimp only
    obtain ⟨j1, j2, _⟩ := List.findIdx?_eq_some_iff_getElem.mp fi
    have yes : S x = true := (gS x).2 ((in_S (P := P) gm x).2 ⟨ms.toList[j], List.getElem_mem j1, j2⟩)
    refine wpAny_pure (wpAny_pure ?_)
    have q := hQ s.heap (Heap.SameBut.refl a s.heap) ⟨ob, ms, ep, tb, g, gx, gd, gm, gN, fun y => by
      rw [Bool.or_eq_true, decide_eq_true_eq, ← gS y]
      exact ⟨fun z => z.elim id (fun e => e ▸ yes), .inl⟩, gb, gf, by rw [if_pos yes]; exact gn, gR, gL⟩
    rw [yes] at q
    exact q
  | none =>
    dsimp only
    have nx : x ∉ ms.toList.map txO := fun z => by
      obtain ⟨m, hm, q⟩ := (in_S (P := P) gm x).1 z
      have c := List.findIdx?_eq_none_iff.mp fi m hm
      rw [q] at c
      cases c
    have no : S x = false := by
      cases q : S x with
      | false => rfl
      | true => exact absurd ((gS x).1 q) nx
    have gw : ∀ (b : Bool) {s₁ : Shared} {Q' : Unit → Shared → Prop}, Q' () s₁ → wpAny (model P w) A (match b with | true => rule "set.scan.the-table-gave-way" | false => pure ()) Q' E s₁ :=
      fun b s₁ Q' q => by cases b <;> first | exact wpAny_pure q | exact wpAny_rule q
    have p1 := layNew_perm tb ms ((PySem.strKind P w).hash x) (.str x tk)
    have p2 := layNew_fits tb ms ((PySem.strKind P w).hash x) (.str x tk)
    have p3 := layNew_ris tb ms ((PySem.strKind P w).hash x) (.str x tk) gR
    have p4 := layNew_led tb ms ((PySem.strKind P w).hash x) (.str x tk)
    generalize layNew tb ms ((PySem.strKind P w).hash x) (.str x tk) = Z at p1 p2 p3 p4 ⊢
    obtain ⟨ms1, tb1, dmy, gave⟩ := Z
    dsimp only at p1 p2 p3 p4 ⊢
    rw [Array.toList_push] at p1
    have pc : ms1.toList.Perm (((PySem.strKind P w).hash x, Value.str x tk) :: ms.toList) := p1.trans (List.perm_append_singleton _ _)
    have pk : (ms1.toList.map txO).Perm (x :: ms.toList.map txO) := pc.map txO
    have q1 : ∀ m ∈ ms1.toList, MemS w m := fun m hm => by
      rcases List.mem_cons.mp (pc.mem_iff.mp hm) with z | z
      · rw [z]
        exact ⟨x, tk, rfl, rfl⟩
      · exact gm m z
    have q2 : (ms1.toList.map txO).Nodup := pk.nodup_iff.mpr (List.nodup_cons.mpr ⟨nx, gN⟩)
    have q3 : ∀ y, (S y || decide (y = x)) = true ↔ y ∈ ms1.toList.map txO := fun y => by
      rw [Bool.or_eq_true, decide_eq_true_eq, gS y, pk.mem_iff, List.mem_cons]
      exact Or.comm
    have z1 : ms1.size = n + 1 := by rw [← Array.length_toList, pc.length_eq, List.length_cons, Array.length_toList, gn]
    have q4 : ms1.size < scanBound := by rw [z1]; exact room
    have q7 : w.params.followText "set-order" = true ∨ tb1.led = true := gL.imp id fun z => by rw [p4]; exact z
    have fin : ∀ h', Heap.SameBut a s.heap h' → SetS w h' a (fun y => S y || decide (y = x)) ms1.size → Q true { s with heap := h' } := fun h' sb r => by
      have q := hQ h' sb
      rw [no] at q
      rw [z1] at r
      exact q r
    refine wpAny_bind (gw _ ?_)
    split
    · refine wpAny_bind ?_
      rw [hashByValue_scannable 8 sc]
      refine wpAny_pure ?_
      refine tail_S (fun b s₁ Q' q => by cases b <;> first | exact wpAny_pure q | exact wpAny_rule q) g gx gd q1 q2 q3 q4 ?_ ?_ ?_ fun h' sb r => by dsimp only; exact wpAny_pure (fin h' sb r)
      · first | (split <;> first | exact p2 | exact SetTable.fits_plain_off p2) | exact p2
      · first | (split <;> exact p3) | exact p3
      · first | (split <;> exact q7) | exact q7
    · refine wpAny_bind (wpAny_pure ?_)
      simp only [↓reduceIte]
      exact tail_S (fun b s₁ Q' q => by cases b <;> first | exact wpAny_pure q | exact wpAny_rule q) g gx gd q1 q2 q3 q4 p2 p3 q7 fun h' sb r => by dsimp only; exact wpAny_pure (fin h' sb r)
theorem add_S {x : Str} {tk : Tok} {Q : Value → Shared → Prop} (R : SetS w s.heap a S n) (room : n + 1 < scanBound)
    (hQ : ∀ h', Heap.SameBut a s.heap h' → SetS w h' a (fun y => S y || decide (y = x)) (if S x = true then n else n + 1) → Q .none { s with heap := h', toks := s.toks + 1 }) :
    wpAny (model P w) A (call (.builtin "set.add") [.ref a, .str x tk]) Q E s := by
  have hS : s.heap.SetOf (PySem.strKind P w) a S n := R.of
  refine wpAny_call_entry F.slot_set_add hS.typeIs F.entry_set_add ?_ (F.args_set_add_2 _ _)
  unfold Builtin.«set.add» Builtin.Frozenset.oneOther
  simp only [List.isEmpty_nil, bind_assoc]
  unfold Builtin.Frozenset.addrOf setAdd
  refine wpAny_bind (wpAny_pure ?_)
  try dsimp only
  refine wpAny_bind (wpAny_pure ?_)
  try dsimp only
  refine wpAny_bind (wpAny_holding (wpAny_bind ((PySem.strKind P w).pyHash (PySem.strKind_is _ _ _ _) ?_)))
  refine addHashed_S (s := { s with toks := s.toks + 1 }) R room fun h' sb r => ?_
  show wpAny _ _ (ret Value.none) _ _ _
  exact wpAny_pure ⟨_, rfl, hQ h' sb r⟩
theorem fresh_S {h : Heap} (w : World) : SetS w (h.push { cls := .type "set", dict := none, data := .set #[] 0 (.fresh 0 0 (!w.params.followText "set-order")) }) h.objs.size (fun _ => false) 0 :=
  ⟨_, #[], 0, _, Heap.get?_push_size _ rfl, ⟨rfl, rfl, rfl⟩, rfl, (fun m hm => by simp at hm), (by simp), (fun x => by simp), (by decide), (by rfl), rfl, List.Pairwise.nil, by
    show _ ∨ (!w.params.followText "set-order") = true
    cases w.params.followText "set-order"
    · exact .inr rfl
    · exact .inl rfl⟩
end
end VS


set_option Elab.async false
set_option linter.all false
set_option maxRecDepth 100000
set_option maxHeartbeats 4000000
namespace VS
open PySem PySem.Spec PyProof.Rows L2 Evl
/-- .. as a tracked thing -/
def SetSO (w : World) (a : Addr) (S : Str → Bool) (n : Nat) : HO := .ext fun h => SetS w h a S n
theorem SetSO.mk {w : World} {P : Program} {H : Hp} {h : Heap} {a : Addr} {S : Str → Bool} {n : Nat} (R : SetS w h a S n) : ObjOk P w H h a (SetSO w a S n) := by
  have ⟨ob, _, _, _, g, _⟩ := R
  exact ⟨R, ⟨ob, g⟩, fun h1 h2 p k => SetS.keep p k⟩
section
variable {X : Cx}
theorem SetSO.get {pins : List (Addr × Obj)} {σ : L2.St} {H : Hp} {s : Shared} {a : Addr} {S : Str → Bool} {n : Nat} (I : Inv X pins σ H s) (ha : H a = some (SetSO X.w a S n)) : SetS X.w s.heap a S n := (I.hok a _ ha).1
theorem add_inv {pins : List (Addr × Obj)} {σ : L2.St} {H : Hp} {s : Shared} {E : Value → Shared → Prop} {D : Addr} {S : Str → Bool} {n : Nat} {x : Str} {tk : Tok} {Q : Value → Shared → Prop} (I : Inv X pins σ H s) (hD : H D = some (SetSO X.w D S n)) (room : n + 1 < scanBound)
    (h : ∀ s', Inv X pins σ (upd H D (SetSO X.w D (fun y => S y || decide (y = x)) (if S x = true then n else n + 1))) s' → Q .none s') : wpAny (model X.prog X.w) X.A (call (.builtin "set.add") [.ref D, .str x tk]) Q E s := by
  refine add_S (SetSO.get I hD) room fun h' sb new => ?_
  have there : ∃ u, h'.get? D = some u := by
    have ⟨ob, _, _, _, g, _⟩ := new
    exact ⟨ob, g⟩
  exact h _ (I.write (e := D) (t' := s.toks + 1) (by rw [hD]; trivial) (.inl rfl) (fun b u hb hu => (sb.2 b hb).trans hu) there (SetSO.mk new))
/-- {elt for target in iter if ..}, elt a text; D: where the new set lies -/
def tScS (w : World) (wi : TI) (g : TG) (tt : TT) (te : TE) (vs : List Nat) : TE := fun σ H Q => wi σ H fun J H1 => ∀ D, H1 D = none → ∃ W : Nat → Nat → Hp → Prop,
  (∃ m, W 0 m (upd H1 D (SetSO w D (fun _ => false) 0))) ∧ ∀ i m H, W i m H → (J.stop i H ∧ Q (.ref D) H) ∨ (J.go i H ∧ ∃ Nx : Hp → Prop, (∀ H', Nx H' → ∃ m', m' < m ∧ W (i + 1) m' H') ∧
    ∀ x H', J.yld i H x H' → g x (wipe σ vs) H' fun σ2 H2 => wipe σ2 vs = wipe σ vs ∧ tt σ2 H2 fun b H3 => if b = true then te σ2 H3 fun y H4 => ∃ (c : Str) (S : Str → Bool) (n : Nat), y = .str c ∧
      H4 D = some (SetSO w D S n) ∧ n + 1 < scanBound ∧ Nx (upd H4 D (SetSO w D (fun z => S z || decide (z = c)) (if S c = true then n else n + 1))) else Nx H3)
theorem run_scS {pins : List (Addr × Obj)} {s : Shared} {σ : L2.St} {H : Hp} {Q : VK} {elt tg iter : Expr} {ifs : List Expr} {scope : Scope} {own : List (PySem.Str × Nat)} {pos pos' : Pos} {wi : TI} {g : TG} {tt : TT} {te : TE}
    {use : Option (Value → Sem Unit)} {Qf : Value → Shared → Prop} (hc : X.calm = true) (hN : X.N.Nodup) (I : Inv X pins σ H s) (hi : PI X tg iter wi) (ok : BlkOk X.N X.env.scope scope own)
    (hg : ∀ (s : Shared) (H : Hp) (C : Addr) (cl : List (PySem.Str × Addr)) (fp : List Addr), PG (X.blk s H scope (compEnvC scope cl C X.env) fp) tg g)
    (ht : ∀ (s : Shared) (H : Hp) (C : Addr) (cl : List (PySem.Str × Addr)) (fp : List Addr), PTs (X.blk s H scope (compEnvC scope cl C X.env) fp) ifs tt)
    (he : ∀ (s : Shared) (H : Hp) (C : Addr) (cl : List (PySem.Str × Addr)) (fp : List Addr), PE (X.blk s H scope (compEnvC scope cl C X.env) fp) elt te)
    (hs : ∀ x, foldedSetIterable iter X.env x = pure x) (h : tScS X.w wi g tt te (own.map (·.2)) σ H Q)
    (fin : ∀ D C s' m H', Inv X pins σ H' s' → Q (.ref D) H' → s'.heap.Ns C m → FpOk X pins H' C → compPost (model X.prog X.w) X.A X.xe use Qf (.ref D) C (.ok .next) s') :
    wpAny (model X.prog X.w) X.A (comprehension (.SetComp elt [⟨tg, iter, ifs, 0⟩] scope pos) scope X.env pos' (newSet (.type "set")) false (eval iter X.env) use) Qf X.xe s := by
  have free : ∀ y ∈ scope.names, y.2 = .free → ∃ c, X.env.cells.lookup y.1 = some c := fun y hy e => by
    rcases ok.free y hy e with k | k
    · exact I.ok.has _ (.inl k)
    · exact I.ok.has _ (.inr k)
  refine wpAny_comprehension_free (use := use) rfl hs (closure_ok free) ok.kind (fun y hy e => by rw [ok.uniq y hy, e]) (thn (hi.run pins s σ H _ I h) fun xv s1 hx => thn hx fun itv s2 h2 => ?_)
  obtain ⟨it, fp, tn, J, H2, e, I2, T, st2, f2, q⟩ := h2
  subst e
  refine PpSet.newSet_ok (newEnv_comp ?_)
  generalize hD : s2.heap.objs.size = D
  have nD : H2 D = none := I2.hok.fresh (Nat.le_of_eq hD)
  obtain ⟨W, ⟨m0, w0⟩, turn⟩ := q D nD
  generalize hs3 : ({ s2 with heap := s2.heap.push { cls := .type "set", dict := none, data := .set #[] 0 (.fresh 0 0 (!X.w.params.followText "set-order")) } } : Shared) = s3
  have I3 : Inv X pins σ (upd H2 D (SetSO X.w D (fun _ => false) 0)) s3 := by
    rw [← hs3]
    refine I2.laid (t' := s2.toks) (fun b o e => Heap.get?_push_of_some _ e) (Nat.le_of_eq hD) ?_
    rw [← hD]
    exact SetSO.mk (fresh_S X.w)
  have h3 : s3.heap = s2.heap.push { cls := .type "set", dict := none, data := .set #[] 0 (.fresh 0 0 (!X.w.params.followText "set-order")) } := by rw [← hs3]
  have lt : ∀ b ∈ fp, b < s2.heap.objs.size := fun b hb => by
    obtain ⟨o, e, _⟩ := T.obj _ _ st2 b hb
    exact Heap.lt_size e
  have f3 : ∀ b ∈ fp, FpOk X pins (upd H2 D (SetSO X.w D (fun _ => false) 0)) b ∧ b < s3.heap.objs.size := fun b hb => by
    have l := lt b hb
    refine ⟨⟨?_, (f2 b hb).2⟩, by rw [h3, Heap.size_push]; exact Nat.lt_succ_of_lt l⟩
    rw [upd_ne (by rw [← hD]; exact Nat.ne_of_lt l)]
    exact (f2 b hb).1
  have st3 : tn 0 s3.heap := T.keep _ _ _ st2 fun b _ o e => by rw [h3]; exact Heap.get?_push_of_some _ e
  have I4 := block_start I3 ok hN f3
  have pg := hg s3 (upd H2 D (SetSO X.w D (fun _ => false) 0)) s3.heap.objs.size (cellsFrom (s3.heap.objs.size + 1) scope.names (cloFrom X.env.cells scope.names [])) fp
  have pt := ht s3 (upd H2 D (SetSO X.w D (fun _ => false) 0)) s3.heap.objs.size (cellsFrom (s3.heap.objs.size + 1) scope.names (cloFrom X.env.cells scope.names [])) fp
  have pe := he s3 (upd H2 D (SetSO X.w D (fun _ => false) 0)) s3.heap.objs.size (cellsFrom (s3.heap.objs.size + 1) scope.names (cloFrom X.env.cells scope.names [])) fp
  show codeAny _ _ (.compStart (.SetComp elt [⟨tg, iter, ifs, 0⟩] scope pos) 0 (.ref it) (.ref D) (compEnvC scope (cellsFrom (s3.heap.objs.size + 1) scope.names (cloFrom X.env.cells scope.names [])) s3.heap.objs.size X.env))
    (compPost (model X.prog X.w) X.A X.xe use Qf (.ref D) s3.heap.objs.size) { s3 with heap := pushCells (s3.heap.push { cls := .type "dict", data := .dict #[] }) scope.names }
  have nfp : ∀ b ∈ fp, (upd H2 D (SetSO X.w D (fun _ => false) 0)) b = none := fun b hb => (f3 b hb).1.1
  generalize hce : compEnvC scope (cellsFrom (s3.heap.objs.size + 1) scope.names (cloFrom X.env.cells scope.names [])) s3.heap.objs.size X.env = ce at I4 pg pt pe ⊢
  have cL : ce.locals = s3.heap.objs.size := by subst hce; rfl
  generalize hH3 : upd H2 D (SetSO X.w D (fun _ => false) 0) = H3 at I3 I4 pg pt pe w0 nfp f3
  generalize hs4 : ({ s3 with heap := pushCells (s3.heap.push { cls := .type "dict", data := .dict #[] }) scope.names } : Shared) = s4 at I4 ⊢
  have st4 : tn 0 s4.heap := T.keep _ _ _ st3 fun b _ o e => by rw [← hs4]; exact pushCells_keeps _ _ _ _ (Heap.get?_push_of_some _ e)
  have stat : ∀ {σ' : L2.St} {H' : Hp} {s' : Shared}, Inv (X.blk s3 H3 scope ce fp) [] σ' H' s' → (∀ b ∈ fp, H' b = none) → ∀ b ∈ fp, FpOk (X.blk s3 H3 scope ce fp) [] H' b := fun {σ' H' s'} J hn b hb =>
    ⟨hn b hb, (J.ok.exf b hb).1, J.ok.exfs b hb, .inl hb, fun x c e => (J.ok.exf b hb).2 x c e, fun p hp => absurd (show p ∈ ([] : List (Addr × Obj)) ++ [] from hp) (by simp)⟩
  have loop : codeAny (model X.prog X.w) X.A (.compLoop (.SetComp elt [⟨tg, iter, ifs, 0⟩] scope pos) 0 (.ref it) (.ref D) ce) (compPost (model X.prog X.w) X.A X.xe use Qf (.ref D) s3.heap.objs.size) s4 := by
    refine PpSet.compLoopS_any (fun n s' => ∃ i H', Inv (X.blk s3 H3 scope ce fp) [] (wipe σ (own.map (·.2))) H' s' ∧ tn i s'.heap ∧ (∀ b ∈ fp, H' b = none) ∧ W i n H') ?_ m0 ⟨0, H3, I4, st4, nfp, w0⟩
    rintro n s5 ⟨i, H5, I5, st5, n5, w5⟩
    rcases turn i n H5 w5 with ⟨stop, qq⟩ | ⟨go, Nx, hNx, step⟩
    · refine thnF (T.done (X.blk s3 H3 scope ce fp) rfl rfl rfl hc i [] s5 _ H5 (fun _ _ => False) I5 (stat I5 n5) st5 stop) fun r s6 ⟨hr, I6⟩ => ?_
      subst hr
      have I7 : Inv X pins σ H5 s6 := I3.call' (ch := fp) I6.os I6.base I6.hok I6.bare fun b hb => ⟨(f3 b hb).1.2.2.2.1, (f3 b hb).1.2.1, (f3 b hb).1.2.2.2.2.1, (f3 b hb).1.2.2.2.2.2⟩
      have nC : H5 s3.heap.objs.size = none := by
        have z : H5 ce.locals = none := I6.free
        rw [cL] at z
        exact z
      obtain ⟨m, hn, _⟩ := I6.loc
      have hn : s6.heap.Ns ce.locals m := hn
      rw [cL] at hn
      exact fin D s3.heap.objs.size s6 m H5 I7 qq hn (I3.fpOk (Nat.le_refl _) nC)
    · refine thnF (T.item (X.blk s3 H3 scope ce fp) rfl rfl rfl hc i [] s5 _ H5 (fun _ _ => False) I5 (stat I5 n5) st5 go) fun r s6 ⟨u, hr, h6⟩ => ?_
      subst hr
      refine thnF h6 fun _ s7 ⟨x, H7, I7, r7, y7, st7, n7⟩ => ?_
      refine thnF (pg.run _ s7 _ H7 x u _ (I7.pinned (stat I7 n7) (T.obj _ _ st7)) r7 (step x H7 y7)) fun _ s8 ⟨σ8, H8, I8, hw8, q8⟩ => ?_
      refine thnF (pt.run _ s8 σ8 H8 _ I8 q8) fun b s9 ⟨H9, I9, q9⟩ => ?_
      have back : ∀ {s' : Shared} {H' : Hp}, Inv (X.blk s3 H3 scope ce fp) ([] ++ pinsAt fp s7.heap) σ8 H' s' → Nx H' → ∃ m, m < n ∧ ∃ i H', Inv (X.blk s3 H3 scope ce fp) [] (wipe σ (own.map (·.2))) H' s' ∧ tn i s'.heap ∧ (∀ b ∈ fp, H' b = none) ∧ W i m H' := fun {s' H'} J nx => by
        obtain ⟨m', hm, w'⟩ := hNx H' nx
        have pin' : ∀ b ∈ fp, ∀ o, s7.heap.get? b = some o → s'.heap.get? b = some o ∧ H' b = none := fun b hb o e =>
          let z := J.pin (b, o) (List.mem_append_right _ (List.mem_append_right _ (mem_pinsAt hb e)))
          ⟨z.1, z.2.1⟩
        have hl : (wipe σ (own.map (·.2))).length = σ8.length := by rw [← hw8, wipe_length]
        refine ⟨m', hm, i + 1, H', (J.unpinned (pins := [])).weak hl (fun j v e => ?_), T.keep _ _ _ st7 fun b hb o e => (pin' b hb o e).1, fun b hb => ?_, w'⟩
        · rw [← hw8] at e
          exact (wipe_some e).1
        · obtain ⟨o, e, _⟩ := T.obj _ _ st7 b hb
          exact (pin' b hb o e).2
      cases b with
      | false =>
        simp only [Bool.false_eq_true, if_false] at q9 ⊢
        exact back I9 q9
      | true =>
        simp only [if_true] at q9 ⊢
        refine thnF (pe.run _ s9 σ8 H9 _ I9 q9) fun z s10 ⟨yv, H10, I10, r10, c, S0, n0, ey, hD10, hz10, nx⟩ => ?_
        subst ey
        obtain ⟨tk, rfl⟩ : ∃ tk, z = Value.str c tk := r10
        exact add_inv (X := X.blk s3 H3 scope ce fp) I10 hD10 hz10 fun s11 I11 => back I11 nx
  exact PpSet.codeAny_compStart_set loop (T.self X.A 0 _ _ _ st4 loop)
theorem pe_scS {elt tg iter : Expr} {ifs : List Expr} {scope : Scope} {own : List (PySem.Str × Nat)} {pos : Pos} {wi : TI} {g : TG} {tt : TT} {te : TE} (hc : X.calm = true) (hN : X.N.Nodup) (hi : PI X tg iter wi) (ok : BlkOk X.N X.env.scope scope own)
    (hg : ∀ (s : Shared) (H : Hp) (C : Addr) (cl : List (PySem.Str × Addr)) (fp : List Addr), PG (X.blk s H scope (compEnvC scope cl C X.env) fp) tg g)
    (ht : ∀ (s : Shared) (H : Hp) (C : Addr) (cl : List (PySem.Str × Addr)) (fp : List Addr), PTs (X.blk s H scope (compEnvC scope cl C X.env) fp) ifs tt)
    (he : ∀ (s : Shared) (H : Hp) (C : Addr) (cl : List (PySem.Str × Addr)) (fp : List Addr), PE (X.blk s H scope (compEnvC scope cl C X.env) fp) elt te)
    (hs : ∀ x, foldedSetIterable iter X.env x = pure x := by intro _; rfl) : PE X (.SetComp elt [⟨tg, iter, ifs, 0⟩] scope pos) (tScS X.w wi g tt te (own.map (·.2))) := by
  refine ⟨fun pins s σ H Q I h => ?_⟩
  rw [PpSet.eval_SetComp]
  refine run_scS hc hN I hi ok hg ht he hs h fun D C s' m H' J q hn f => ⟨m, hn, fun h'' sb => ?_⟩
  obtain ⟨f0, f1, f2, f3, f4, f5⟩ := f
  exact ⟨.ref D, H', J.turned (t' := s'.toks) (fun b o hb e => (sb.2 b hb).trans e) f0 f1 f3 f4 f5, rfl, q⟩
end
/-- the reading over a list that stands still -/
theorem scS_list {w : World} {K : PySem.W.Frag} {a : Addr} {xs : List V} {g : TG} {tt : TT} {te : TE} {vs : List Nat} {σ : L2.St} {H1 : Hp} {D : Addr} {Qd : Hp → Prop} (Pv : Nat → Hp → Prop) (h0 : Pv 0 (upd H1 D (SetSO w D (fun _ => false) 0)))
    (hl : ∀ i H, i ≤ xs.length → Pv i H → SqL K H a xs)
    (hs : ∀ i x H, xs[i]? = some x → Pv i H → g x (wipe σ vs) H fun σ2 H2 => wipe σ2 vs = wipe σ vs ∧ tt σ2 H2 fun b H3 => if b = true then te σ2 H3 fun y H4 => ∃ (c : Str) (S : Str → Bool) (n : Nat), y = .str c ∧ H4 D = some (SetSO w D S n) ∧
      n + 1 < scanBound ∧ Pv (i + 1) (upd H4 D (SetSO w D (fun z => S z || decide (z = c)) (if S c = true then n else n + 1))) else Pv (i + 1) H3) (hd : ∀ H, Pv xs.length H → Qd H) :
    ∃ W : Nat → Nat → Hp → Prop, (∃ m, W 0 m (upd H1 D (SetSO w D (fun _ => false) 0))) ∧ ∀ i m H, W i m H → ((Itl K a).stop i H ∧ Qd H) ∨ ((Itl K a).go i H ∧ ∃ Nx : Hp → Prop, (∀ H', Nx H' → ∃ m', m' < m ∧ W (i + 1) m' H') ∧
      ∀ x H', (Itl K a).yld i H x H' → g x (wipe σ vs) H' fun σ2 H2 => wipe σ2 vs = wipe σ vs ∧ tt σ2 H2 fun b H3 => if b = true then te σ2 H3 fun y H4 => ∃ (c : Str) (S : Str → Bool) (n : Nat), y = .str c ∧
        H4 D = some (SetSO w D S n) ∧ n + 1 < scanBound ∧ Nx (upd H4 D (SetSO w D (fun z => S z || decide (z = c)) (if S c = true then n else n + 1))) else Nx H3) := by
  refine ⟨fun i m H => m = xs.length - i ∧ i ≤ xs.length ∧ Pv i H, ⟨xs.length, by simp, Nat.zero_le _, h0⟩, ?_⟩
  rintro i m H ⟨rfl, hi, p⟩
  have q := hl i H hi p
  by_cases c : i < xs.length
  · refine .inr ⟨⟨xs, xs[i], q, by simp [c]⟩, Pv (i + 1), fun H' p' => ⟨xs.length - (i + 1), by omega, rfl, c, p'⟩, fun x H' y => ?_⟩
    obtain ⟨e, y⟩ := y
    subst e
    exact hs i x _ (y xs q) p
  · have e : i = xs.length := by omega
    subst e
    exact .inl ⟨⟨xs, q, Nat.le_refl _⟩, hd H p⟩
/-! ### sorted(a set of texts) -/
theorem strs_of : ∀ (l : List Value), (∀ v ∈ l, ∃ x tk, v = Value.str x tk) → ∃ xs, StrsAre l xs ∧ l.map (fun v => match v with | .str x _ => x | _ => Str.empty) = xs
  | [], _ => ⟨[], .nil, rfl⟩
  | v :: l, h => by
    obtain ⟨x, tk, rfl⟩ := h v (List.mem_cons_self ..)
    obtain ⟨xs, h1, h2⟩ := strs_of l fun u hu => h u (List.mem_cons_of_mem _ hu)
    exact ⟨x :: xs, .cons x tk h1, by rw [List.map_cons, h2]⟩
section
variable {P : Program} {w : World} {A : Around} {E : Value → Shared → Prop} {s : Shared} {a : Addr}
theorem sorted_S {S : Str → Bool} {n : Nat} {Q : Value → Shared → Prop} (R : SetS w s.heap a S n) (hh : A.handled = none)
    (hQ : ∀ s' p (out : Array Value) (c : Nat) (xs : List Str), (∀ b o, s.heap.get? b = some o → s'.heap.get? b = some o) → s'.gens = s.gens → s'.os = s.os → s.heap.objs.size ≤ p →
      s'.heap.get? p = some (seqObj "list" out c) → StrsAre out.toList xs → sortedS xs = true → xs.Nodup → (∀ x, x ∈ xs ↔ S x = true) → xs.length = n → Q (.ref p) s') :
    wpAny (model P w) A (call (.builtin "sorted") [.ref a]) Q E s := by
  obtain ⟨ob, ms, ep, tb, g, gx, gd, gm, gN, gS, gb, gf, gn, gR, gL⟩ := R
  refine Calls.call_function_entry kind_sorted plain_sorted entry_sorted (args_sorted1 _) ?_
  unfold Builtin.«sorted»
  refine wpAny_bind (m := checkCount "sorted" 1 1 _) (wpAny_pure ?_)
  refine wpAny_bind (collect_set (A := A.in1) hh ⟨ob, g, gx.1, gd⟩ gf gb gR gL fun s1 vs k1 hz g1 o1 pm => ?_)
  have lv : vs.length = n := by rw [pm.length_eq, List.length_map, Array.length_toList]; exact gn
  have hb : n < 4096 := by rw [← gn]; exact gb
  obtain ⟨xs, hX, eX⟩ := strs_of vs fun v hv => by
    obtain ⟨m, hm, q⟩ := List.mem_map.mp (pm.mem_iff.mp hv)
    obtain ⟨x, tk, h1, _⟩ := gm m hm
    exact ⟨x, tk, by rw [← q]; exact h1⟩
  have pk : xs.Perm (ms.toList.map txO) := by
    have q := pm.map (fun v => match v with | .str x _ => x | _ => Str.empty)
    rw [eX, List.map_map] at q
    exact q
  have lz : vs.length ≤ sizeLine := by rw [lv, sizeLine_eq]; omega
  refine wpAny_bind (wpAny_newList ?_ lz)
  have hoL : (s1.heap.push (seqObj "list" vs.toArray 0)).get? s1.heap.objs.size = some (seqObj "list" vs.toArray 0) := Heap.get?_push_size _ rfl
  refine wpAny_bind (wpAny_holding (wpAny_call_entry slot_list_sort ⟨_, hoL, rfl⟩ entry_list_sort
    (list_sort_treeKAny strKind_oneLt hoL hX.keysOf (fun v₁ v₂ rest e => keyKind_strs (by rw [← e]; exact hX)) lz fun st' hp hs => ⟨_, rfl, ?_⟩) (args_list_sort _)))
  obtain ⟨ys, a1, a2, a3⟩ := sorted_out_str hX hp hs
  obtain ⟨c, hc⟩ := sortedHeap_at (vs := vs) (out := (arrOf st').map (·.2)) hoL
  have pn : ys.Perm (ms.toList.map txO) := a2.trans pk
  refine wpAny_pure ⟨_, rfl, hQ _ s1.heap.objs.size _ c ys (fun b u e => ?_) g1 o1 hz hc a1 a3 (pn.nodup_iff.mpr gN) (fun x => by rw [pn.mem_iff, ← gS x]) ?_⟩
  · have q := k1 b u e
    have hlt := Heap.lt_size q
    show (sortedHeap (s1.heap.push (seqObj "list" vs.toArray 0)) s1.heap.objs.size vs ((arrOf st').map (·.2))).get? b = some u
    rw [sortedHeap_old (Nat.ne_of_lt hlt) (by rw [size_push']; exact Nat.lt_succ_of_lt hlt)]
    exact Heap.get?_push_of_some _ q
  · rw [pn.length_eq, List.length_map, Array.length_toList]; exact gn
end
section
variable {X : Cx}
/-- sorted(found) -/
def rSortS (w : World) : List V → Hp → VK → Prop := fun vs H Q => ∃ (a : Addr) (S : Str → Bool) (n : Nat), vs = [V.ref a] ∧ H a = some (SetSO w a S n) ∧
  ∀ (xs : List Str) (p : Addr), sortedS xs = true → xs.Nodup → (∀ x, x ∈ xs ↔ S x = true) → H p = none → Q (.ref p) (upd H p (.lst (xs.map V.str)))
theorem cr_sortS (hc : X.calm = true) : CallR X (.builtin "sorted") (rSortS X.w) := by
  intro pins s σ H vs us Q I r h
  obtain ⟨a, S, n, rfl, ha, q⟩ := h
  have R := SetSO.get I ha
  have hb : n < 4096 := by
    obtain ⟨_, _, _, _, _, _, _, _, _, _, gb, _, gn, _⟩ := R
    rw [← gn]
    exact gb
  rw [Vals.ref1 r]
  refine sorted_S R (I.ok.hd hc) fun s' p out c xs k g o hp hg hi hs hn hm hl => ?_
  have hlen : (xs.map V.str).length ≤ sizeLine := by rw [List.length_map, hl, sizeLine_eq]; omega
  have np : H p = none := I.hok.fresh hp
  have J : Inv X pins σ (upd H p (.lst (xs.map V.str))) { s with heap := s'.heap, gens := s'.gens, drawn := s'.drawn, toks := s'.toks } :=
    I.call (ch := []) (Un.laid k hp np) (I.hok.laid k hp ⟨hlen, out.toList, c, vals_of_strs hi, hg⟩) (by rw [g]; exact I.bare) (fun _ z => nomatch z)
  have e : s' = { s with heap := s'.heap, gens := s'.gens, drawn := s'.drawn, toks := s'.toks } := by
    cases s'
    cases s
    cases o
    rfl
  rw [e]
  exact ⟨.ref p, _, J, rfl, q xs p hs hn hm np⟩
end
end VS


set_option Elab.async false
set_option linter.all false
set_option maxRecDepth 100000
set_option maxHeartbeats 4000000
namespace V
open PySem PySem.Spec PyProof.Rows L2 Evl
def Tm.word : Tm → Str
  | .num _ => "num"
  | .arg _ => "arg"
  | .node (.op o) _ => o.str
  | .node (.call _) _ => "call"
  | .node (.ring _) _ => "ring"
theorem TmAt.head {H : Hp} {v : V} {t : Tm} (h : TmAt H v t) : ∃ a r, v = .ref a ∧ H a = some (.tup (.str t.word :: r)) := by
  cases h with
  | num h => exact ⟨_, _, rfl, h⟩
  | arg h => exact ⟨_, _, rfl, h⟩
  | op h _ => exact ⟨_, _, rfl, h⟩
  | call h _ _ => exact ⟨_, _, rfl, h⟩
  | ring h _ _ => exact ⟨_, _, rfl, h⟩
theorem op_in (o : Op) : decide (o.str ∈ opWords) = true := by
  cases o <;> decide +kernel
theorem out_num : decide (("num" : Str) ∈ opWords) = false := by decide +kernel
theorem out_arg : decide (("arg" : Str) ∈ opWords) = false := by decide +kernel
theorem out_call : decide (("call" : Str) ∈ opWords) = false := by decide +kernel
theorem out_ring : decide (("ring" : Str) ∈ opWords) = false := by decide +kernel
/-- the terms that stand straight in it -/
def spParts : Sp := fun vs H Q _ => ∃ (v : V) (t : Tm), vs = [v] ∧ TmAt H v t ∧ t.parts.length ≤ 4 ∧
  ∀ (H' : Hp) (p : Addr) (us : List V), Ex H H' → H' p = some (.tup us) → TmsAt H' us t.parts → Q (.ref p) H'
theorem parts_deep {t u : Tm} (h : u ∈ t.parts) : u.deep + 1 ≤ t.deep := by
  cases t with
  | num n => cases h
  | arg k => cases h
  | node hd ts =>
    have := deep_le (t := u) (ts := ts) h
    show u.deep + 1 ≤ 1 + Tm.deeps ts
    omega
theorem Tm.Ok.parts {M : Nat} {t u : Tm} (k : t.Ok M) (h : u ∈ t.parts) : u.Ok M := by
  cases k with
  | num _ => cases h
  | arg _ => cases h
  | node _ ks => exact ks u h
theorem Tm.Ok.few {M : Nat} {t : Tm} (k : t.Ok M) : t.parts.length ≤ 4 := by
  cases k with
  | num _ => exact Nat.zero_le _
  | arg _ => exact Nat.zero_le _
  | node h _ => exact h.le
theorem size_pos : ∀ t : Tm, 1 ≤ t.size
  | .num _ => Nat.le_refl _
  | .arg _ => Nat.le_refl _
  | .node h ts => by
    show 1 ≤ 1 + Tm.sizes ts
    omega
theorem all_parts (t : Tm) : t.all = t :: Tm.alls t.parts := by
  cases t <;> rfl
theorem size_parts (t : Tm) : t.size = 1 + Tm.sizes t.parts := by
  cases t <;> rfl
theorem deep_parts (t : Tm) : t.deep = 1 + Tm.deeps t.parts := by
  cases t <;> rfl
theorem alls_append (ts us : List Tm) : Tm.alls (ts ++ us) = Tm.alls ts ++ Tm.alls us := by
  induction ts with
  | nil => rfl
  | cons t ts ih =>
    show t.all ++ Tm.alls (ts ++ us) = (t.all ++ Tm.alls ts) ++ Tm.alls us
    rw [ih, List.append_assoc]
theorem alls_len (ts : List Tm) : (Tm.alls ts).length = Tm.sizes ts := by
  induction ts with
  | nil => rfl
  | cons t ts ih =>
    show (t.all ++ Tm.alls ts).length = t.size + Tm.sizes ts
    rw [List.length_append, all_len, ih]
theorem sizes_take (ts : List Tm) (i : Nat) : Tm.sizes (ts.take i) ≤ Tm.sizes ts := by
  induction ts generalizing i with
  | nil => simp [Tm.sizes]
  | cons t ts ih =>
    cases i with
    | zero => exact Nat.zero_le _
    | succ i =>
      have := ih i
      show t.size + Tm.sizes (ts.take i) ≤ t.size + Tm.sizes ts
      omega
theorem size_mem {ts : List Tm} {t : Tm} (h : t ∈ ts) : t.size ≤ Tm.sizes ts := by
  induction ts with
  | nil => cases h
  | cons u us ih =>
    show t.size ≤ u.size + Tm.sizes us
    rcases List.mem_cons.mp h with rfl | h
    · omega
    · have := ih h
      omega
theorem take_more {α : Type} {l : List α} {i : Nat} {x : α} (h : l[i]? = some x) : l.take (i + 1) = l.take i ++ [x] := by
  rw [List.take_add_one, h]
  rfl
theorem get_mem {α : Type} {l : List α} {i : Nat} {x : α} (h : l[i]? = some x) : x ∈ l := List.mem_of_getElem? h
/-- all terms in it, itself ahead: a new list -/
def spAll (n : Nat) : Sp := fun vs H Q _ => ∃ (v : V) (t : Tm) (M : Nat), vs = [v] ∧ TmAt H v t ∧ t.Ok M ∧ t.deep ≤ n ∧ t.size ≤ 1000 ∧
  ∀ (H' : Hp) (p : Addr) (us : List V), H p = none → Ex H H' → H' p = some (.lst us) → TmsAt H' us t.all → Q (.ref p) H'
def spSize (n : Nat) : Sp := fun vs H Q _ => ∃ (v : V) (t : Tm) (M : Nat), vs = [v] ∧ TmAt H v t ∧ t.Ok M ∧ t.deep ≤ n ∧ t.size ≤ 1000 ∧ ∀ (H' : Hp), Ex H H' → Q (.int (t.size : Int)) H'
def spDeep (n : Nat) : Sp := fun vs H Q _ => ∃ (v : V) (t : Tm) (M : Nat), vs = [v] ∧ TmAt H v t ∧ t.Ok M ∧ t.deep ≤ n ∧ ∀ (H' : Hp), Ex H H' → Q (.int (t.deep : Int)) H'
theorem deeps_max (ts : List Tm) (m : Int) (hm : m ∈ ts.map fun t => (t.deep : Int)) (top : ∀ y ∈ ts.map (fun t => (t.deep : Int)), y ≤ m) : m = (Tm.deeps ts : Int) := by
  have le : ∀ us : List Tm, (∀ u ∈ us, (u.deep : Int) ≤ m) → 0 ≤ m → (Tm.deeps us : Int) ≤ m := by
    intro us
    induction us with
    | nil => intro _ h; exact h
    | cons u us ih =>
      intro h h0
      have h1 := h u (List.mem_cons_self ..)
      have h2 := ih (fun v hv => h v (List.mem_cons_of_mem _ hv)) h0
      show ((max u.deep (Tm.deeps us) : Nat) : Int) ≤ m
      omega
  obtain ⟨t, ht, rfl⟩ := List.mem_map.mp hm
  have h1 := deep_le ht
  have h2 := le ts (fun u hu => top _ (List.mem_map.mpr ⟨u, hu, rfl⟩)) (by omega)
  omega
/-! ### rising lists of texts -/
def tlt (a b : Str) : Prop := a.cps.toList < b.cps.toList
theorem tlt_irr (a : Str) : ¬ tlt a a := List.lt_irrefl _
theorem tlt_trans {a b c : Str} (h : tlt a b) (k : tlt b c) : tlt a c := List.lt_trans h k
theorem str_ext {a b : Str} (h : a.cps.toList = b.cps.toList) : a = b := by
  cases a
  cases b
  exact congrArg Str.mk (Array.toList_inj.mp h)
theorem tlt_of {a b : Str} (h : ltCps b.cps.toList a.cps.toList = false) (ne : a ≠ b) : tlt a b := by
  rw [ltCps_eq, decide_eq_false_iff_not] at h
  rcases Nat.lt_or_ge 0 0 with z | z
  · omega
  · by_cases c : a.cps.toList < b.cps.toList
    · exact c
    · exact absurd (str_ext (List.le_antisymm h c)) ne
theorem rise_of : ∀ (l : List Str) (p : Str), risingS p l = true → (p :: l).Nodup → (p :: l).Pairwise tlt
  | [], p, _, _ => List.pairwise_singleton _ _
  | x :: r, p, h, d => by
    have h1 : (!ltCps x.cps.toList p.cps.toList && risingS x r) = true := h
    rw [Bool.and_eq_true, Bool.not_eq_true'] at h1
    obtain ⟨d1, d2⟩ := List.nodup_cons.mp d
    have ih := rise_of r x h1.2 d2
    have px : tlt p x := tlt_of h1.1 fun e => d1 (e ▸ List.mem_cons_self ..)
    refine List.pairwise_cons.mpr ⟨fun y hy => ?_, ih⟩
    rcases List.mem_cons.mp hy with rfl | hy
    · exact px
    · exact tlt_trans px ((List.pairwise_cons.mp ih).1 y hy)
theorem sorted_rise {l : List Str} (h : sortedS l = true) (d : l.Nodup) : l.Pairwise tlt := by
  cases l with
  | nil => exact List.Pairwise.nil
  | cons x r => exact rise_of r x h d
/-- rising lists of the same members are one -/
theorem rise_same : ∀ {l k : List Str}, l.Pairwise tlt → k.Pairwise tlt → (∀ x, x ∈ l ↔ x ∈ k) → l = k
  | [], [], _, _, _ => rfl
  | [], y :: k, _, _, h => absurd ((h y).2 (List.mem_cons_self ..)) (by simp)
  | x :: l, [], _, _, h => absurd ((h x).1 (List.mem_cons_self ..)) (by simp)
  | x :: l, y :: k, hl, hk, h => by
    obtain ⟨l1, l2⟩ := List.pairwise_cons.mp hl
    obtain ⟨k1, k2⟩ := List.pairwise_cons.mp hk
    have e : x = y := by
      rcases List.mem_cons.mp ((h x).1 (List.mem_cons_self ..)) with e | hx
      · exact e
      · rcases List.mem_cons.mp ((h y).2 (List.mem_cons_self ..)) with e | hy
        · exact e.symm
        · exact absurd (tlt_trans (k1 x hx) (l1 y hy)) (tlt_irr y)
    subst e
    refine congrArg (x :: ·) (rise_same l2 k2 fun z => ⟨fun hz => ?_, fun hz => ?_⟩)
    · rcases List.mem_cons.mp ((h z).1 (List.mem_cons_of_mem _ hz)) with rfl | q
      · exact absurd (l1 z hz) (tlt_irr z)
      · exact q
    · rcases List.mem_cons.mp ((h z).2 (List.mem_cons_of_mem _ hz)) with rfl | q
      · exact absurd (k1 z hz) (tlt_irr z)
      · exact q
/-! ### marks and places of a term -/
def Tm.mk1 : Tm → List Str
  | .node (.call m) _ => [m]
  | _ => []
def Tm.pl1 : Tm → List Nat
  | .node (.ring p) _ => [p]
  | _ => []
/-- the marks that it calls, from left to right -/
def Tm.marks (t : Tm) : List Str := t.all.flatMap Tm.mk1
def Tm.places (t : Tm) : List Nat := t.all.flatMap Tm.pl1
def spCalls (n : Nat) : Sp := fun vs H Q _ => ∃ (v : V) (t : Tm) (M : Nat), vs = [v] ∧ TmAt H v t ∧ t.Ok M ∧ t.deep ≤ n ∧ t.size ≤ 1000 ∧
  ∀ (H' : Hp) (p : Addr) (xs : List Str), H p = none → Ex H H' → H' p = some (.lst (xs.map V.str)) → xs.Pairwise tlt → (∀ x, x ∈ xs ↔ x ∈ t.marks) → Q (.ref p) H'
def spPlaces (n : Nat) : Sp := fun vs H Q _ => ∃ (v : V) (t : Tm) (M : Nat), vs = [v] ∧ TmAt H v t ∧ t.Ok M ∧ t.deep ≤ n ∧ t.size ≤ 1000 ∧
  ∀ (H' : Hp) (p : Addr), H p = none → Ex H H' → H' p = some (.lst (t.places.map fun k : Nat => V.int (k : Int))) → Q (.ref p) H'
theorem take_flat {α β : Type} {l : List α} {f : α → List β} {i : Nat} {x : α} (h : l[i]? = some x) : (l.take (i + 1)).flatMap f = (l.take i).flatMap f ++ f x := by
  rw [take_more h, List.flatMap_append, List.flatMap_singleton]
end V


set_option Elab.async false
set_option linter.all false
set_option maxRecDepth 100000
set_option maxHeartbeats 4000000
namespace V
open PySem PySem.Spec PyProof.Rows L2 Evl
/-! ### what is drawn -/
/-- the box at b: n things at least may still be drawn of it -/
def Box (H : Hp) (b : Addr) (n : Nat) : Prop := ∃ x y z : Int, H b = some (.lst [.int x, .int y, .int z]) ∧ 0 ≤ x ∧ 0 ≤ y ∧ y < 2147483647 ∧ 0 ≤ z ∧ z + (n : Int) ≤ 1099511627776
theorem Box.less {H : Hp} {b : Addr} {n m : Nat} (h : Box H b n) (le : m ≤ n) : Box H b m := by
  obtain ⟨x, y, z, e, h0, h1, h2, h3, h4⟩ := h
  exact ⟨x, y, z, e, h0, h1, h2, h3, by omega⟩
theorem Box.lst {H : Hp} {b : Addr} {n : Nat} (h : Box H b n) : ∃ xs, H b = some (.lst xs) := by
  obtain ⟨x, y, z, e, _⟩ := h
  exact ⟨_, e⟩
theorem Box.tu {H H' : Hp} {b : Addr} {n : Nat} (h : Box H b n) (e : But b H H') : Tu H H' := by
  obtain ⟨xs, q⟩ := h.lst
  exact e.tu q
theorem Box.ex {H H' : Hp} {b : Addr} {n : Nat} (h : Box H b n) (e : Ex H H') : Box H' b n := by
  obtain ⟨x, y, z, q, r⟩ := h
  exact ⟨x, y, z, e _ _ q, r⟩
/-- one thing below size -/
def spTake : Sp := fun vs H Q _ => ∃ (b : Addr) (size : Int) (n : Nat), vs = [.ref b, .int size] ∧ 0 < size ∧ size ≤ 10000000 ∧ Box H b (n + 1) ∧
  ∀ (H' : Hp) (r : Int), But b H H' → Box H' b n → 0 ≤ r → r < size → Q (.int r) H'
end V


set_option Elab.async false
set_option linter.all false
set_option maxRecDepth 100000
set_option maxHeartbeats 4000000
namespace V
open PySem PySem.Spec PyProof.Rows L2 Evl
theorem ite01 (c : Prop) [Decidable c] : (0 : Int) ≤ (if c then 1 else 0) ∧ (if c then (1 : Int) else 0) ≤ 1 := by
  split <;> decide
/-- a number of a term -/
def spNum : Sp := fun vs H Q _ => ∃ (b : Addr) (n : Nat), vs = [.ref b] ∧ Box H b (n + 4) ∧
  ∀ (H' : Hp) (r : Int), But b H H' → Box H' b n → 0 ≤ r → r ≤ 1000002 → Q (.int r) H'
/-- a box of its own -/
def spBox (K : PySem.W.Frag) : Sp := fun vs H Q _ => ∃ (a : Addr) (ns : List Int) (k : Nat), vs = [.ref a, .int (k : Int)] ∧ SqL K H a (ns.map V.int) ∧ k ≤ 100 ∧
  ∀ (H' : Hp) (b : Addr), H b = none → Ex H H' → Box H' b 1099511627776 → Q (.ref b) H'
end V


set_option Elab.async false
set_option linter.all false
set_option maxRecDepth 100000
set_option maxHeartbeats 400000
namespace V
open PySem PySem.Spec PyProof.Rows L2 Evl TL NumText
/-! ### drawn marks and terms -/
def spSomeMark : Sp := fun vs H Q _ => ∃ (b : Addr) (n : Nat), vs = [.ref b] ∧ Box H b (n + 7) ∧ ∀ (H' : Hp) (m : Str), But b H H' → Box H' b n → isMk m → Q (.str m) H'
def sg36 : Str := "0123456789abcdefghijklmnopqrstuvwxyz"
theorem sg36_at : ∀ d : Nat, d < 36 → ∃ c : Nat, atI sg36.cps.toList (d : Int) = some c ∧ ((48 ≤ c ∧ c ≤ 57) ∨ (97 ≤ c ∧ c ≤ 122)) := by
  intro d hd
  have all : ∀ d : Nat, d < 36 → ∃ c ∈ sg36.cps.toList, sg36.cps.toList[d]? = some c ∧ ((48 ≤ c ∧ c ≤ 57) ∨ (97 ≤ c ∧ c ≤ 122)) := by decide +kernel
  obtain ⟨c, _, h1, h2⟩ := all d hd
  exact ⟨c, atI_nat h1, h2⟩
theorem joinL_nil : ∀ l : List (List Nat), joinL [] l = l.flatten
  | [] => rfl
  | [p] => by
    show p = p ++ []
    rw [List.append_nil]
  | p :: q :: r => by
    show p ++ ([] ++ joinL [] (q :: r)) = p ++ (q :: r).flatten
    rw [joinL_nil (q :: r)]
    rfl
def ones (l : List Nat) : List Str := l.map fun c => ⟨#[c]⟩
theorem tl_ones (l : List Nat) : tl (Str.join "" (ones l)) = l := by
  rw [tl_join, show tl ("" : Str) = [] by decide +kernel, joinL_nil]
  unfold ones
  rw [List.map_map]
  induction l with
  | nil => rfl
  | cons c l ih =>
    show [c] ++ (l.map _).flatten = c :: l
    rw [ih]
    rfl
theorem ones_sum (l : List Nat) : ((ones l).map (·.length)).sum = l.length := by
  unfold ones
  induction l with
  | nil => rfl
  | cons c l ih =>
    rw [List.map_cons, List.map_cons, List.sum_cons, ih, List.length_cons]
    show 1 + l.length = l.length + 1
    omega
end V


set_option Elab.async false
set_option linter.all false
set_option maxRecDepth 100000
set_option maxHeartbeats 4000000
namespace V
open PySem PySem.Spec PyProof.Rows L2 Evl
/-! ### data of any kind -/
section
variable {K : PySem.W.Frag} {H H' : Hp}
mutual
theorem dp_ex (e : Ex H H') : ∀ {v : V} {d : PyData}, Dp K H v d → Dp K H' v d
  | _, _, .non => .non
  | _, _, .bl b => .bl b
  | _, _, .int i => .int i
  | _, _, .str x => .str x
  | _, _, .lst h hs => .lst (ex_l e h) (dps_ex e hs)
  | _, _, .tup h hs => .tup (ex_t e h) (dps_ex e hs)
theorem dps_ex (e : Ex H H') : ∀ {vs : List V} {ds : List PyData}, DpAll K H vs ds → DpAll K H' vs ds
  | _, _, .nil => .nil
  | _, _, .cons h hs => .cons (dp_ex e h) (dps_ex e hs)
end
theorem dps_len : ∀ {vs : List V} {ds : List PyData}, DpAll K H vs ds → vs.length = ds.length
  | _, _, .nil => rfl
  | _, _, .cons _ hs => by rw [List.length_cons, List.length_cons, dps_len hs]
theorem dps_get : ∀ {vs : List V} {ds : List PyData}, DpAll K H vs ds → ∀ {i : Nat} {v : V}, vs[i]? = some v → ∃ d, ds[i]? = some d ∧ Dp K H v d
  | _, _, .nil, i, v, e => by simp at e
  | _, _, .cons h hs, 0, v, e => by
    cases Option.some.inj e
    exact ⟨_, rfl, h⟩
  | _, _, .cons h hs, i + 1, v, e => dps_get hs (i := i) (v := v) e
/-- the name of its class -/
def kind : PyData → String
  | .none => "NoneType"
  | .bool _ => "bool"
  | .int _ => "int"
  | .str _ => "str"
  | .list _ => "list"
  | .tuple _ => "tuple"
  | .dict _ => "dict"
theorem dp_ty {v : V} {d : PyData} (h : Dp K H v d) : TyX K H v (.type (kind d)) := by
  cases h with
  | non => exact .base .non
  | bl b => exact .base (.bl b)
  | int i => exact .base (.int i)
  | str x => exact .base (.str x)
  | lst h _ =>
    rcases h with (h | ⟨o, h⟩) | ⟨o, its, n, h, c, _⟩
    · exact .base (.lst h)
    · exact .base (.frz h)
    · exact .kList h c
  | tup h _ =>
    rcases h with (h | ⟨o, h⟩) | ⟨o, its, n, h, c, _⟩
    · exact .base (.tup h)
    · exact .fTuple h
    · exact .kTuple h c
end
def sgS : Str := "0123456789abcdefghijklmnopqrstuvwxyz #@();:"
def sgM : Str := "0123456789abcdefghijklmnopqrstuvwxyz"
theorem cut_sg : cutS sgS none (some 36) = sgM := by decide +kernel
/-- a text of six figures and letters -/
def isMarkD : PyData → Bool
  | .str x => x.length == 6 && x.cps.toList.all fun c => decide (c ∈ sgM.cps.toList)
  | _ => false
def isStrD : PyData → Bool
  | .str _ => true
  | _ => false
def isTupD : PyData → Bool
  | .tuple _ => true
  | _ => false
def isBoolD : PyData → Bool
  | .bool _ => true
  | _ => false
def isIntD : PyData → Bool
  | .int _ => true
  | .bool _ => true
  | _ => false
theorem kit_str : ∀ d : PyData, kitB (kind d) "str" = some (isStrD d)
  | .none => (by decide +kernel : kitB "NoneType" "str" = some false)
  | .bool _ => (by decide +kernel : kitB "bool" "str" = some false)
  | .int _ => (by decide +kernel : kitB "int" "str" = some false)
  | .str _ => (by decide +kernel : kitB "str" "str" = some true)
  | .list _ => (by decide +kernel : kitB "list" "str" = some false)
  | .tuple _ => (by decide +kernel : kitB "tuple" "str" = some false)
  | .dict _ => (by decide +kernel : kitB "dict" "str" = some false)
theorem kit_tup : ∀ d : PyData, kitB (kind d) "tuple" = some (isTupD d)
  | .none => (by decide +kernel : kitB "NoneType" "tuple" = some false)
  | .bool _ => (by decide +kernel : kitB "bool" "tuple" = some false)
  | .int _ => (by decide +kernel : kitB "int" "tuple" = some false)
  | .str _ => (by decide +kernel : kitB "str" "tuple" = some false)
  | .list _ => (by decide +kernel : kitB "list" "tuple" = some false)
  | .tuple _ => (by decide +kernel : kitB "tuple" "tuple" = some true)
  | .dict _ => (by decide +kernel : kitB "dict" "tuple" = some false)
theorem kit_bool : ∀ d : PyData, kitB (kind d) "bool" = some (isBoolD d)
  | .none => (by decide +kernel : kitB "NoneType" "bool" = some false)
  | .bool _ => (by decide +kernel : kitB "bool" "bool" = some true)
  | .int _ => (by decide +kernel : kitB "int" "bool" = some false)
  | .str _ => (by decide +kernel : kitB "str" "bool" = some false)
  | .list _ => (by decide +kernel : kitB "list" "bool" = some false)
  | .tuple _ => (by decide +kernel : kitB "tuple" "bool" = some false)
  | .dict _ => (by decide +kernel : kitB "dict" "bool" = some false)
theorem kit_int : ∀ d : PyData, kitB (kind d) "int" = some (isIntD d)
  | .none => (by decide +kernel : kitB "NoneType" "int" = some false)
  | .bool _ => (by decide +kernel : kitB "bool" "int" = some true)
  | .int _ => (by decide +kernel : kitB "int" "int" = some true)
  | .str _ => (by decide +kernel : kitB "str" "int" = some false)
  | .list _ => (by decide +kernel : kitB "list" "int" = some false)
  | .tuple _ => (by decide +kernel : kitB "tuple" "int" = some false)
  | .dict _ => (by decide +kernel : kitB "dict" "int" = some false)
def isNumD (most : Int) : PyData → Bool
  | .int i => decide (0 ≤ i) && decide (i ≤ most)
  | _ => false
def isPartsD : PyData → Bool
  | .tuple ds => decide (ds.length ≤ 4)
  | _ => false
/-- a test of one thing: its answer, all else as it was -/
def spTest (ok : PyData → Prop) (f : PyData → Bool) (K : PySem.W.Frag) : Sp := fun vs H Q _ => ∃ (v : V) (d : PyData), vs = [v] ∧ Dp K H v d ∧ ok d ∧ ∀ (H' : Hp), Ex H H' → Q (.bl (f d)) H'
def spNumTo (K : PySem.W.Frag) : Sp := fun vs H Q _ => ∃ (most : Int) (v : V) (d : PyData), vs = [.int most, v] ∧ Dp K H v d ∧ ∀ (H' : Hp), Ex H H' → Q (.bl (isNumD most d)) H'
/-- the texts in it are not too long, nor its lists -/
inductive Small : PyData → Prop where
  | non : Small .none
  | bl (b : Bool) : Small (.bool b)
  | int (i : Int) : Small (.int i)
  | str {x : Str} : x.length ≤ 100000 → Small (.str x)
  | lst {ds : List PyData} : ds.length ≤ 1000 → (∀ d ∈ ds, Small d) → Small (.list ds)
  | tup {ds : List PyData} : ds.length ≤ 1000 → (∀ d ∈ ds, Small d) → Small (.tuple ds)
section
variable {P : Program} {w : World} {K : PySem.W.Frag} {mg : Str → Option Value} {base : Heap}
theorem pe_ty {X : Cx} {T : String} {pos : Pos} (hm : X.mg (T : Str) = none) (hg : Gl X (T : Str) := by rfl) (hv : bootBuiltins (T : Str) = some (.type T) := by decide +kernel) (hn : (T : Str) ≠ "__name__" := by decide)
    (hd : ((T : Str) == ("__debug__" : Str)) = false := by decide) : PE X (.Name (T : Str) pos) (tC (.ty T)) := pe_bltn hg hm hv rfl hn hd
theorem pe_gi {X : Cx} {x : Str} {i : Int} {pos : Pos} (hm : ∃ t, X.mg x = some (.int i t)) (hg : Gl X x := by rfl) (hd : (x == ("__debug__" : Str)) = false := by decide) : PE X (.Name x pos) (tC (.int i)) := by
  obtain ⟨t, h⟩ := hm
  exact pe_glob hg h ⟨_, rfl⟩ hd
theorem pe_gs {X : Cx} {x z : Str} {pos : Pos} (hm : ∃ t, X.mg x = some (.str z t)) (hg : Gl X x := by rfl) (hd : (x == ("__debug__" : Str)) = false := by decide) : PE X (.Name x pos) (tC (.str z)) := by
  obtain ⟨t, h⟩ := hm
  exact pe_glob hg h ⟨_, rfl⟩ hd
theorem isi_at {H : Hp} {v : V} {d : PyData} {T : String} {b : Bool} (h : Dp K H v d) (e : kitB (kind d) T = some b) {Q : VK} (q : Q (.bl b) H) : rIsi K [v, .ty T] H Q :=
  ⟨v, .ty T, _, _, b, rfl, .ty T, dp_ty h, kit_ty e, q⟩
theorem all_take {p : Nat → Bool} {l : List Nat} : ((l.map p).all id) = l.all p := by
  rw [List.all_map]
  rfl
end
end V


set_option Elab.async false
set_option linter.all false
set_option maxRecDepth 100000
set_option maxHeartbeats 4000000
namespace V
open PySem PySem.Spec PyProof.Rows L2 Evl TL NumText
/-! ### what is built without a change of what is there: by the word of what comes -/
def Yl (te : TE) (σ : L2.St) (H : Hp) (R : Hp → V → Prop) : Prop := ∀ H1, Ex H H1 → ∀ Q : VK, (∀ H2 v, Ex H1 H2 → R H2 v → Q v H2) → te σ H1 Q
def Ya (ta : TA) (σ : L2.St) (H : Hp) (R : Hp → List V → Prop) : Prop := ∀ H1, Ex H H1 → ∀ Q : List V → Hp → Prop, (∀ H2 vs, Ex H1 H2 → R H2 vs → Q vs H2) → ta σ H1 Q
def TmR (t : Tm) : Hp → V → Prop := fun H v => TmAt H v t
def TmsR (ts : List Tm) : Hp → List V → Prop := fun H vs => TmsAt H vs ts
def ShS (x : Str) (m : Nat) : Hp → V → Prop := fun _ v => v = .str x ∧ x.length ≤ m
def IsV (w : V) : Hp → V → Prop := fun _ v => v = w
def IsVs (ws : List V) : Hp → List V → Prop := fun _ vs => vs = ws
section
variable {σ : L2.St} {H : Hp} {te tb : TE} {ta : TA}
theorem Yl.up {R : Hp → V → Prop} {H' : Hp} (h : Yl te σ H R) (e : Ex H H') : Yl te σ H' R := fun H1 e1 Q q => h H1 (e.trans e1) Q q
theorem Yl.imp {R R' : Hp → V → Prop} (h : Yl te σ H R) (f : ∀ H v, R H v → R' H v) : Yl te σ H R' := fun H1 e1 Q q => h H1 e1 Q fun H2 v e2 r => q H2 v e2 (f H2 v r)
theorem yl_c (v : V) : Yl (tC v) σ H (IsV v) := fun H1 e Q q => q H1 v (Ex.refl H1) rfl
theorem yl_s (x : Str) (m : Nat) (h : x.length ≤ m := by decide +kernel) : Yl (tC (.str x)) σ H (ShS x m) := fun H1 e Q q => q H1 _ (Ex.refl H1) ⟨rfl, h⟩
theorem yl_varT {i : Nat} {v : V} {t : Tm} (h : TmAt H v t) (hs : σ[i]? = some (some v) := by rfl) : Yl (tVar i) σ H (TmR t) := fun H1 e Q q => ⟨v, hs, q H1 v (Ex.refl H1) (h.ex e)⟩
theorem yl_varS {i : Nat} {x : Str} {m : Nat} (h : x.length ≤ m) (hs : σ[i]? = some (some (.str x)) := by rfl) : Yl (tVar i) σ H (ShS x m) := fun H1 e Q q => ⟨_, hs, q H1 _ (Ex.refl H1) ⟨rfl, h⟩⟩
theorem yl_varV {i : Nat} (v : V) (hs : σ[i]? = some (some v) := by rfl) : Yl (tVar i) σ H (IsV v) := fun H1 e Q q => ⟨_, hs, q H1 _ (Ex.refl H1) rfl⟩
theorem yl_add {x y : Str} {m n : Nat} (ha : Yl te σ H (ShS x m)) (hb : Yl tb σ H (ShS y n)) (k : m + n ≤ 1000 := by decide) :
    Yl (tOp (fun x y H Q => ∃ i j, x = .str i ∧ y = .str j ∧ i.length + j.length ≤ sizeLine ∧ Q (.str (i ++ j)) H) te tb) σ H (ShS (x ++ y) (m + n)) := fun H1 e Q q => by
  refine ha H1 e _ fun H2 v e2 ⟨r1, r2⟩ => hb H2 (e.trans e2) _ fun H3 u e3 ⟨r3, r4⟩ => ?_
  refine ⟨x, y, r1, r3, Nat.le_trans (by omega) (by decide : 1000 ≤ sizeLine), q H3 _ (e2.trans e3) ⟨rfl, ?_⟩⟩
  rw [str_len_append]
  omega
theorem ya_nil : Ya tNil σ H (IsVs []) := fun H1 e Q q => q H1 [] (Ex.refl H1) rfl
theorem ya_v {v : V} {vs : List V} (h : Ya ta σ H (IsVs vs)) : Ya (tCons (tC v) ta) σ H (IsVs (v :: vs)) := fun H1 e Q q => h H1 e _ fun H2 us e2 r => q H2 _ e2 (by rw [show us = vs from r]; rfl)
theorem ya_tnil : Ya tNil σ H (TmsR []) := fun H1 e Q q => q H1 [] (Ex.refl H1) .nil
theorem ya_t {t : Tm} {ts : List Tm} (h : Yl te σ H (TmR t)) (hs : Ya ta σ H (TmsR ts)) : Ya (tCons te ta) σ H (TmsR (t :: ts)) := fun H1 e Q q =>
  h H1 e _ fun H2 v e2 r => hs H2 (e.trans e2) _ fun H3 vs e3 rs => q H3 _ (e2.trans e3) (.cons (TmAt.ex r e3) rs)
theorem tms_len {vs : List V} {ts : List Tm} (h : TmsAt H vs ts) (k : ts.length ≤ 4) : vs.length + 3 ≤ sizeLine := by
  rw [h.length]
  exact Nat.le_trans (by omega) (by decide : 7 ≤ sizeLine)
theorem yl_op (o : Op) {ts : List Tm} (h : Ya ta σ H (TmsR ts)) (k : ts.length ≤ 4 := by exact Nat.le_of_ble_eq_true rfl) : Yl (tTup (tCons (tC (.str o.str)) ta)) σ H (TmR (.node (.op o) ts)) := fun H1 e Q q =>
  h H1 e _ fun H2 vs e2 r => ⟨by have := tms_len r k; rw [List.length_cons]; omega, fun p hp => q _ _ (e2.trans (Ex.new hp)) (.op upd_same (TmsAt.ex r (Ex.new hp)))⟩
theorem yl_call (m : Str) {ts : List Tm} (h : Ya ta σ H (TmsR ts)) (k : ts.length ≤ 4 := by exact Nat.le_of_ble_eq_true rfl) : Yl (tTup (tCons (tC (.str "call")) (tCons (tC (.str m)) (tCons (tTup ta) tNil)))) σ H (TmR (.node (.call m) ts)) := fun H1 e Q q =>
  h H1 e _ fun H2 vs e2 r => ⟨by have := tms_len r k; omega, fun p hp => ⟨sz 3, fun p2 hp2 => by
    have f1 := Ex.new (o := .tup vs) hp
    have f2 := Ex.new (o := .tup [.str "call", .str m, .ref p]) hp2
    exact q _ _ (e2.trans (f1.trans f2)) (.call upd_same (f2 p _ upd_same) (TmsAt.ex r (f1.trans f2)))⟩⟩
theorem yl_ring (j : Nat) {ts : List Tm} (h : Ya ta σ H (TmsR ts)) (k : ts.length ≤ 4 := by exact Nat.le_of_ble_eq_true rfl) : Yl (tTup (tCons (tC (.str "ring")) (tCons (tC (.int (j : Int))) (tCons (tTup ta) tNil)))) σ H (TmR (.node (.ring j) ts)) := fun H1 e Q q =>
  h H1 e _ fun H2 vs e2 r => ⟨by have := tms_len r k; omega, fun p hp => ⟨sz 3, fun p2 hp2 => by
    have f1 := Ex.new (o := .tup vs) hp
    have f2 := Ex.new (o := .tup [.str "ring", .int (j : Int), .ref p]) hp2
    exact q _ _ (e2.trans (f1.trans f2)) (.ring upd_same (f2 p _ upd_same) (TmsAt.ex r (f1.trans f2)))⟩⟩
theorem yl_num {n : Nat} (h : Yl te σ H (IsV (.int (n : Int)))) : Yl (tTup (tCons (tC (.str "num")) (tCons te tNil))) σ H (TmR (.num n)) := fun H1 e Q q =>
  h H1 e _ fun H2 v e2 r => ⟨sz 2, fun p hp => q _ _ (e2.trans (Ex.new hp)) (.num (by rw [show v = .int (n : Int) from r, upd_same]))⟩
theorem yl_arg {n : Nat} (h : Yl te σ H (IsV (.int (n : Int)))) : Yl (tTup (tCons (tC (.str "arg")) (tCons te tNil))) σ H (TmR (.arg n)) := fun H1 e Q q =>
  h H1 e _ fun H2 v e2 r => ⟨sz 2, fun p hp => q _ _ (e2.trans (Ex.new hp)) (.arg (by rw [show v = .int (n : Int) from r, upd_same]))⟩
/-- a term and what is written of it -/
def Good (t : Tm) (ms : List Str) : Prop := t.Ok 11 ∧ t.deep ≤ 6 ∧ t.size ≤ 100 ∧ t.txt.length ≤ 1000 ∧ ms.length ≤ 100 ∧ ms.Pairwise tlt ∧ ∀ x, x ∈ ms ↔ x ∈ t.marks
def KnAt (N : Addr → Prop) (H : Hp) (v : V) (t : Tm) : Prop := ∃ (a : Addr) (tv : V) (c q : Addr) (ms : List Str), v = .ref a ∧ H a = some (.tup [tv, .str t.txt, .int (t.deep : Int), .int (t.size : Int), .ref c, .ref q]) ∧ TmAt H tv t ∧
  H c = some (.lst (ms.map V.str)) ∧ H q = some (.lst (t.places.map fun k : Nat => V.int (k : Int))) ∧ ¬ N c ∧ ¬ N q ∧ Good t ms
theorem KnAt.ex {N : Addr → Prop} {v : V} {t : Tm} {H' : Hp} (h : KnAt N H v t) (e : Ex H H') : KnAt N H' v t := by
  obtain ⟨a, tv, c, q, ms, h1, h2, h3, h4, h5, h6⟩ := h
  exact ⟨a, tv, c, q, ms, h1, e _ _ h2, h3.ex e, e _ _ h4, e _ _ h5, h6⟩
theorem KnAt.but {p : Addr} {v : V} {t : Tm} {H' : Hp} {xs : List V} (h : KnAt (· = p) H v t) (hp : H p = some (.lst xs)) (e : But p H H') : KnAt (· = p) H' v t := by
  obtain ⟨a, tv, c, q, ms, h1, h2, h3, h4, h5, h6, h7, h8⟩ := h
  have tu := e.tu hp
  exact ⟨a, tv, c, q, ms, h1, tu _ _ h2, h3.tu tu, e _ _ h6 h4, e _ _ h7 h5, h6, h7, h8⟩
theorem KnAt.new {p : Addr} {v : V} {t : Tm} {o : HO} (h : KnAt (fun _ => False) H v t) (hp : H p = none) : KnAt (· = p) (upd H p o) v t := by
  obtain ⟨a, tv, c, q, ms, h1, h2, h3, h4, h5, h6, h7, h8⟩ := h
  have e := Ex.new (o := o) hp
  exact ⟨a, tv, c, q, ms, h1, e _ _ h2, h3.ex e, e _ _ h4, e _ _ h5, (fun (z : c = p) => by rw [z, hp] at h4; cases h4), (fun (z : q = p) => by rw [z, hp] at h5; cases h5), h8⟩
theorem yl_kn {N : Addr → Prop} {t : Tm} {ms : List Str} {m : Nat} {d z : Int} {ca qa : TA} {tx : TE} {qs : List V} (hN : ∀ c, N c → H c ≠ none) (g : Good t ms) (h1 : Yl te σ H (TmR t)) (h2 : Yl tx σ H (ShS t.txt m)) (hd : d = (t.deep : Int)) (hz : z = (t.size : Int))
    (hc : Ya ca σ H (IsVs (ms.map V.str))) (hq : Ya qa σ H (IsVs qs)) (eq_ : qs = t.places.map fun k : Nat => V.int (k : Int)) (few : t.places.length ≤ 100) :
    Yl (tTup (tCons te (tCons tx (tCons (tC (.int d)) (tCons (tC (.int z)) (tCons (tLst ca) (tCons (tLst qa) tNil))))))) σ H (fun H v => KnAt N H v t) := fun H1 e Q q =>
  h1 H1 e _ fun H2 v e2 r => h2 H2 (e.trans e2) _ fun H3 u e3 ⟨s1, s2⟩ => hc H3 (e.trans (e2.trans e3)) _ fun H4 cs e4 rc => by
    have rc' : cs = ms.map V.str := rc
    subst rc'
    refine ⟨by rw [List.length_map]; exact Nat.le_trans g.2.2.2.2.1 (by decide), fun c hcn => ?_⟩
    have f1 := Ex.new (o := .lst (ms.map V.str)) hcn
    refine hq _ (e.trans (e2.trans (e3.trans (e4.trans f1)))) _ fun H5 us e5 rq => ?_
    have rq' : us = t.places.map fun k : Nat => V.int (k : Int) := (show us = qs from rq).trans eq_
    subst rq'
    refine ⟨by rw [List.length_map]; exact Nat.le_trans few (by decide), fun q1 hq1 => ⟨sz 6, fun p hp => ?_⟩⟩
    have f2 := Ex.new (o := .lst (t.places.map fun k : Nat => V.int (k : Int))) hq1
    have f3 := Ex.new (o := .tup [v, u, .int d, .int z, .ref c, .ref q1]) hp
    have hh : Ex H H4 := e.trans (e2.trans (e3.trans e4))
    refine q _ _ (e2.trans (e3.trans (e4.trans (f1.trans (e5.trans (f2.trans f3)))))) ⟨p, v, c, q1, ms, rfl, by rw [upd_same, s1, hd, hz], TmAt.ex r (e3.trans (e4.trans (f1.trans (e5.trans (f2.trans f3))))), (f2.trans f3) _ _ (e5 _ _ upd_same), f3 _ _ upd_same, ?_, ?_, g⟩
    · intro n
      have n0 := hN c n
      cases w : H c with
      | none => exact n0 w
      | some o =>
        rw [hh _ _ w] at hcn
        cases hcn
    · intro n
      have n0 := hN q1 n
      cases w : H q1 with
      | none => exact n0 w
      | some o =>
        rw [e5 _ _ (f1 _ _ (hh _ _ w))] at hq1
        cases hq1
end
inductive KnsAt (N : Addr → Prop) (H : Hp) : List V → List Tm → Prop where
  | nil : KnsAt N H [] []
  | cons {v : V} {vs : List V} {t : Tm} {ts : List Tm} : KnAt N H v t → KnsAt N H vs ts → KnsAt N H (v :: vs) (t :: ts)
theorem KnsAt.map {N N' : Addr → Prop} {H H' : Hp} (f : ∀ v t, KnAt N H v t → KnAt N' H' v t) : ∀ {vs : List V} {ts : List Tm}, KnsAt N H vs ts → KnsAt N' H' vs ts
  | _, _, .nil => .nil
  | _, _, .cons h hs => .cons (f _ _ h) (hs.map f)
theorem KnsAt.add {N : Addr → Prop} {H : Hp} {v : V} {t : Tm} (h : KnAt N H v t) : ∀ {vs : List V} {ts : List Tm}, KnsAt N H vs ts → KnsAt N H (vs ++ [v]) (ts ++ [t])
  | _, _, .nil => .cons h .nil
  | _, _, .cons k ks => .cons k (ks.add h)
theorem KnsAt.len {N : Addr → Prop} {H : Hp} : ∀ {vs : List V} {ts : List Tm}, KnsAt N H vs ts → vs.length = ts.length
  | _, _, .nil => rfl
  | _, _, .cons _ hs => by rw [List.length_cons, List.length_cons, hs.len]
theorem KnsAt.get {N : Addr → Prop} {H : Hp} : ∀ {vs : List V} {ts : List Tm}, KnsAt N H vs ts → ∀ {i : Nat} {v : V}, vs[i]? = some v → ∃ t, ts[i]? = some t ∧ KnAt N H v t
  | _, _, .nil, i, v, e => by simp at e
  | _, _, .cons h hs, 0, v, e => by
    cases Option.some.inj e
    exact ⟨_, rfl, h⟩
  | _, _, .cons h hs, i + 1, v, e => hs.get (i := i) (v := v) e
end V


set_option Elab.async false
set_option linter.all false
set_option maxRecDepth 100000
set_option maxHeartbeats 400000
namespace V
open PySem PySem.Spec PyProof.Rows L2 Evl TL NumText
/-! ### drawn terms -/
def Hd.L : Hd → List V
  | .op o => [.str o.str]
  | .call m => [.str "call", .str m]
  | .ring p => [.str "ring", .int (p : Int)]
def Hd.notOp : Hd → Bool
  | .op _ => false
  | _ => true
def Hd.pyd : Hd → PyData
  | .op o => .tuple [.str o.str]
  | .call m => .tuple [.str "call", .str m]
  | .ring p => .tuple [.str "ring", .int (p : Int)]
def HdAt (H : Hp) (v : V) (x : Hd × Nat) : Prop := ∃ a c, v = .ref a ∧ H a = some (.tup [.ref c, .int (x.2 : Int)]) ∧ H c = some (.tup x.1.L)
theorem HdAt.tu {H H' : Hp} (e : Tu H H') {v : V} {x : Hd × Nat} (h : HdAt H v x) : HdAt H' v x := by
  obtain ⟨a, c, h1, h2, h3⟩ := h
  exact ⟨a, c, h1, e _ _ h2, e _ _ h3⟩
theorem HdAt.dp {K : PySem.W.Frag} {H : Hp} {v : V} {h : Hd} {s : Nat} (k : HdAt H v (h, s)) : Dp K H v (.tuple [h.pyd, .int (s : Int)]) := by
  obtain ⟨a, c, rfl, h2, h3⟩ := k
  refine .tup (SqT.of h2) (.cons ?_ (.cons (.int _) .nil))
  cases h with
  | op o => exact .tup (SqT.of h3) (.cons (.str _) .nil)
  | call m => exact .tup (SqT.of h3) (.cons (.str _) (.cons (.str _) .nil))
  | ring p => exact .tup (SqT.of h3) (.cons (.str _) (.cons (.int _) .nil))
/-- four heads of calls -/
structure Heads (H : Hp) (hp : Addr) : Prop where
  ex : ∃ (v1 v2 v3 v4 : V) (m1 m2 : Str) (p1 p2 s1 s2 s3 s4 : Nat), H hp = some (.lst [v1, v2, v3, v4]) ∧ HdAt H v1 (.call m1, s1) ∧ HdAt H v2 (.call m2, s2) ∧ HdAt H v3 (.ring p1, s3) ∧ HdAt H v4 (.ring p2, s4) ∧
    isMk m1 ∧ isMk m2 ∧ p1 ≤ 11 ∧ p2 ≤ 11 ∧ s1 ≤ 4 ∧ s2 ≤ 4 ∧ s3 ≤ 4 ∧ s4 ≤ 4
theorem Heads.but {H H' : Hp} {hp b : Addr} {xs : List V} (h : Heads H hp) (hb : H b = some (.lst xs)) (n : hp ≠ b) (e : But b H H') : Heads H' hp := by
  obtain ⟨v1, v2, v3, v4, m1, m2, p1, p2, s1, s2, s3, s4, h0, h1, h2, h3, h4, r⟩ := h.ex
  have tu := e.tu hb
  exact ⟨v1, v2, v3, v4, m1, m2, p1, p2, s1, s2, s3, s4, e _ _ n h0, h1.tu tu, h2.tu tu, h3.tu tu, h4.tu tu, r⟩
/-- one of them -/
theorem Heads.get {H : Hp} {hp : Addr} (h : Heads H hp) : ∃ vs, H hp = some (.lst vs) ∧ vs.length = 4 ∧ ∀ i : Nat, i < 4 → ∃ v hd s, vs[i]? = some v ∧ HdAt H v (hd, s) ∧ hd.notOp = true ∧ hd.ok 11 s := by
  obtain ⟨v1, v2, v3, v4, m1, m2, p1, p2, s1, s2, s3, s4, h0, h1, h2, h3, h4, r1, r2, r3, r4, r5, r6, r7, r8⟩ := h.ex
  refine ⟨_, h0, rfl, fun i hi => ?_⟩
  match i, hi with
  | 0, _ => exact ⟨v1, _, s1, rfl, h1, rfl, r1, r5⟩
  | 1, _ => exact ⟨v2, _, s2, rfl, h2, rfl, r2, r6⟩
  | 2, _ => exact ⟨v3, _, s3, rfl, h3, rfl, r3, r7⟩
  | 3, _ => exact ⟨v4, _, s4, rfl, h4, rfl, r4, r8⟩
theorem mk_lay {m : Str} (h : isMk m) : PyData.canLay0 (.str m) = true := by
  have e : PyData.canLay0 (.str m) = m.cps.all (· < 0x110000) := by
    simp only [PyData.canLay0]
    rfl
  rw [e, ← Array.all_toList, List.all_eq_true]
  intro c hc
  have := h.2 c hc
  exact decide_eq_true (by omega)
theorem Heads.dp {K : PySem.W.Frag} {H : Hp} {hp : Addr} (h : Heads H hp) : ∃ d, Dp K H (.ref hp) d ∧ SeqAt.shaped d = true ∧ PyData.eqv d (.list []) = false := by
  obtain ⟨v1, v2, v3, v4, m1, m2, p1, p2, s1, s2, s3, s4, h0, h1, h2, h3, h4, r⟩ := h.ex
  refine ⟨_, .lst (SqL.of h0) (.cons h1.dp (.cons h2.dp (.cons h3.dp (.cons h4.dp .nil)))), ?_, ?_⟩
  · have k1 := mk_lay r.1
    have k2 := mk_lay r.2.1
    have c1 : PyData.canLay0 (.str "call") = true := by decide +kernel
    have c2 : PyData.canLay0 (.str "ring") = true := by decide +kernel
    unfold SeqAt.shaped
    simp only [Hd.pyd, PyData.canLay0, PyData.canLayAll0, PyData.depth, PyData.depthAll] at k1 k2 c1 c2 ⊢
    rw [k1, k2, c1, c2]
    decide
  · simp only [PyData.eqv, PyData.eqvAll]
def cost : Nat → Nat
  | 0 => 0
  | d + 1 => 5 + 4 * cost d
def most : Nat → Nat
  | 0 => 0
  | d + 1 => 1 + 4 * most d
/-- what comes of a draw of a term -/
def Drawn (b : Addr) (n d : Nat) (H : Hp) (Q : VK) : Prop := ∀ (H' : Hp) (v : V) (t : Tm), But b H H' → Box H' b n → TmAt H' v t → t.Ok 11 → t.deep ≤ d → t.size ≤ most d → Q v H'
def spTerm (d : Nat) : Sp := fun vs H Q _ => ∃ (b hp : Addr) (n many tall : Nat), vs = [.ref b, .int (many : Int), .ref hp, .int (tall : Int)] ∧ Box H b (n + cost d) ∧ 1 ≤ tall ∧ tall ≤ d ∧ 1 ≤ many ∧ many ≤ 4 ∧ hp ≠ b ∧ Heads H hp ∧ Drawn b n d H Q
theorem most_mono {a b : Nat} (h : a ≤ b) : most a ≤ most b := by
  induction b generalizing a with
  | zero => rw [Nat.le_zero.mp h]; exact Nat.le_refl _
  | succ b ih =>
    cases a with
    | zero => exact Nat.zero_le _
    | succ a =>
      have := ih (Nat.le_of_succ_le_succ h)
      show 1 + 4 * most a ≤ 1 + 4 * most b
      omega
end V


set_option Elab.async false
set_option linter.all false
set_option maxRecDepth 100000
set_option maxHeartbeats 400000
namespace V
open PySem PySem.Spec PyProof.Rows L2 Evl TL NumText
/-- from A a statement goes on to B -/
def Hs (t : TS) (A B : L2.St → Hp → Prop) : Prop := ∀ (D : Ends) (σ : L2.St) (H : Hp), A σ H → (∀ σ' H', B σ' H' → D.nx σ' H') → t D σ H
def He1 (t : TS) (A : L2.St → Hp → Prop) (Q : VK) : Prop := ∀ (D : Ends) (σ : L2.St) (H : Hp), A σ H → (∀ v H', Q v H' → D.rt v H') → t D σ H
theorem Hs.fin {t u : TS} {A B : L2.St → Hp → Prop} {Q : VK} (h1 : Hs t A B) (h2 : He1 u B Q) : He1 (tSeq t u) A Q := fun D σ H a k => h1 { D with nx := u D } σ H a fun σ' H' b => h2 D σ' H' b k
theorem dec_ii {a b : Int} : decide (V.int a = V.int b) = decide (a = b) := by
  rw [decide_eq_decide]
  exact ⟨V.int.inj, congrArg V.int⟩
theorem deeps_le (ts : List Tm) (m : Nat) (h : ∀ t ∈ ts, t.deep ≤ m) : Tm.deeps ts ≤ m := by
  induction ts with
  | nil => exact Nat.zero_le _
  | cons t r ih =>
    have h1 := h t (List.mem_cons_self ..)
    have h2 := ih fun u hu => h u (List.mem_cons_of_mem _ hu)
    show max t.deep (Tm.deeps r) ≤ m
    omega
theorem sizes_le (ts : List Tm) (m : Nat) (h : ∀ t ∈ ts, t.size ≤ m) : Tm.sizes ts ≤ ts.length * m := by
  induction ts with
  | nil => exact Nat.zero_le _
  | cons t r ih =>
    have h1 := h t (List.mem_cons_self ..)
    have h2 := ih fun u hu => h u (List.mem_cons_of_mem _ hu)
    show t.size + Tm.sizes r ≤ (r.length + 1) * m
    rw [Nat.add_mul, Nat.one_mul]
    omega
end V


set_option Elab.async false
set_option linter.all false
set_option maxRecDepth 100000
set_option maxHeartbeats 400000
namespace V
open PySem PySem.Spec PyProof.Rows L2 Evl TL NumText
def spAny : Sp := fun vs H Q _ => ∃ (b : Addr) (n : Nat), vs = [.ref b] ∧ Box H b (n + 400) ∧ ∀ (H' : Hp) (v : V) (t : Tm), But b H H' → Box H' b n → TmAt H' v t → t.Ok 11 → t.deep ≤ 8 → t.size ≤ 50 → Q v H'
def CallHd (H : Hp) (v : V) : Prop := ∃ m s, HdAt H v (.call m, s) ∧ isMk m ∧ s ≤ 4
def RingHd (H : Hp) (v : V) : Prop := ∃ p s, HdAt H v (.ring p, s) ∧ p ≤ 11 ∧ s ≤ 4
theorem CallHd.tu {H H' : Hp} {v : V} (h : CallHd H v) (e : Tu H H') : CallHd H' v := by
  obtain ⟨m, s, h1, h2⟩ := h
  exact ⟨m, s, h1.tu e, h2⟩
theorem RingHd.tu {H H' : Hp} {v : V} (h : RingHd H v) (e : Tu H H') : RingHd H' v := by
  obtain ⟨m, s, h1, h2⟩ := h
  exact ⟨m, s, h1.tu e, h2⟩
/-- parts, not too deep, not too many -/
structure Few (H : Hp) (vs : List V) (ts : List Tm) (D S : Nat) : Prop where
  a : TmsAt H vs ts
  o : ∀ t ∈ ts, t.Ok 11
  d : Tm.deeps ts ≤ D
  z : Tm.sizes ts ≤ S
theorem few_nil (H : Hp) (D : Nat) : Few H [] [] D 0 := ⟨.nil, (fun t h => by cases h), Nat.zero_le _, Nat.le_refl _⟩
theorem few_cons {H : Hp} {v : V} {t : Tm} {vs : List V} {ts : List Tm} {D S s : Nat} (h : TmAt H v t) (o : t.Ok 11) (d : t.deep ≤ D) (z : t.size ≤ s) (k : Few H vs ts D S) : Few H (v :: vs) (t :: ts) D (s + S) :=
  ⟨.cons h k.a, (fun u hu => by
    rcases List.mem_cons.mp hu with rfl | hu
    · exact o
    · exact k.o u hu), (by show max t.deep (Tm.deeps ts) ≤ D; have := k.d; omega), (by show t.size + Tm.sizes ts ≤ s + S; have := k.z; omega)⟩
theorem Few.tu {H H' : Hp} {vs : List V} {ts : List Tm} {D S : Nat} (k : Few H vs ts D S) (e : Tu H H') : Few H' vs ts D S := ⟨k.a.tu e, k.o, k.d, k.z⟩
theorem Few.less {H : Hp} {vs : List V} {ts : List Tm} {D S S' : Nat} (k : Few H vs ts D S) (h : S ≤ S') : Few H vs ts D S' := ⟨k.a, k.o, k.d, Nat.le_trans k.z h⟩
theorem Few.node {H : Hp} {vs : List V} {ts : List Tm} {D S : Nat} (k : Few H vs ts D S) {h : Hd} (ho : h.ok 11 ts.length) : (Tm.node h ts).Ok 11 ∧ (Tm.node h ts).deep ≤ D + 1 ∧ (Tm.node h ts).size ≤ S + 1 :=
  ⟨.node ho k.o, (by show 1 + Tm.deeps ts ≤ D + 1; have := k.d; omega), (by show 1 + Tm.sizes ts ≤ S + 1; have := k.z; omega)⟩
theorem len_two {xs : List V} (h : xs.length = 2) : ∃ x y, xs = [x, y] := by
  match xs, h with
  | [x, y], _ => exact ⟨x, y, rfl⟩
/-- the box is let alone, a new list is led on -/
theorem But.on {H0 H4 H5 : Hp} {b l : Addr} {o : HO} (hl : H0 l = none) (u : But b H0 H4) (u5 : But b H4 H5) : But b H0 (L2.upd H5 l o) := fun a x ha ho => by
  have na : a ≠ l := fun z => by
    rw [z, hl] at ho
    cases ho
  rw [upd_ne na]
  exact u5 a x ha (u a x ha ho)
theorem Box.on {H : Hp} {b l : Addr} {n : Nat} {o : HO} (h : Box H b n) (k : l ≠ b) : Box (L2.upd H l o) b n := by
  obtain ⟨x, y, z, q1, q2⟩ := h
  exact ⟨x, y, z, by rw [upd_ne k.symm]; exact q1, q2⟩
theorem Box.ne {H : Hp} {b l : Addr} {n : Nat} (h : Box H b n) (hl : H l = none) : l ≠ b := fun z => by
  obtain ⟨xs, hx⟩ := h.lst
  rw [z, hx] at hl
  cases hl
end V


set_option Elab.async false
set_option linter.all false
set_option maxRecDepth 100000
set_option maxHeartbeats 4000000
namespace V
open PySem PySem.Spec PyProof.Rows L2 Evl TL NumText
/-! ### marks of numbers and of texts -/
def sgAt (d : Nat) : Nat := sgS.cps.toList.getD d 0
/-- so many figures ahead of these -/
def mkL : Nat → Nat → List Nat → List Nat
  | 0, _, acc => acc
  | k + 1, n, acc => mkL k (n / 36) (sgAt (n % 36) :: acc)
def mkS (n : Nat) : Str := ⟨(mkL 6 n []).toArray⟩
def sgIx (c : Nat) : Nat := sgS.cps.toList.findIdx (· == c)
def hashL (l : List Nat) (n : Nat) : Nat := l.foldl (fun a c => (a * 131 + sgIx c + 1) % 998244353) n
def spMarkN : Sp := fun vs H Q _ => ∃ n : Nat, vs = [.int (n : Int)] ∧ n < 2147483648 ∧ ∀ (H' : Hp), Ex H H' → Q (.str (mkS n)) H'
def spMarkT : Sp := fun vs H Q _ => ∃ z : Str, vs = [.str z] ∧ z.length ≤ 1000000 ∧ (∀ c ∈ tl z, c ∈ tl sgS) ∧ ∀ (H' : Hp), Ex H H' → Q (.str (mkS (hashL (tl z) 7))) H'
theorem sg_at : ∀ d : Nat, d < 36 → atI sgS.cps.toList (d : Int) = some (sgAt d) := by
  intro d hd
  refine atI_nat ?_
  have all : ∀ d : Nat, d < 36 → sgS.cps.toList[d]? = some (sgAt d) := by decide +kernel
  exact all d hd
theorem sg_ix : ∀ c ∈ tl sgS, ∃ rest, Builtin.Str.occurrences sgS ⟨#[c]⟩ 0 sgS.length 1 = sgIx c :: rest := by
  intro c hc
  have all : ∀ c ∈ tl sgS, (Builtin.Str.occurrences sgS ⟨#[c]⟩ 0 sgS.length 1).head? = some (sgIx c) := by decide +kernel
  have h := all c hc
  cases e : Builtin.Str.occurrences sgS ⟨#[c]⟩ 0 sgS.length 1 with
  | nil =>
    rw [e] at h
    cases h
  | cons x r =>
    rw [e] at h
    cases h
    exact ⟨r, rfl⟩
theorem sg_ix_lt : ∀ c ∈ tl sgS, sgIx c < 43 := by decide +kernel
theorem one_append (c : Nat) (l : List Nat) : (⟨#[c]⟩ : Str) ++ ⟨l.toArray⟩ = ⟨(c :: l).toArray⟩ := ext_tl (by rw [tl_append]; rfl)
end V


set_option Elab.async false
set_option linter.all false
set_option maxRecDepth 100000
set_option maxHeartbeats 400000
namespace V
open PySem PySem.Spec PyProof.Rows L2 Evl TL NumText
/-! ### the law's own marks and depths -/
theorem sg_at43 : ∀ d : Nat, d < 36 → atI sgS.cps.toList (d : Int) = some (sgAt d) := sg_at
end V


set_option Elab.async false
set_option linter.all false
set_option maxRecDepth 100000
set_option maxHeartbeats 4000000
namespace V
open PySem PySem.Spec PyProof.Rows L2 Evl

end V


set_option Elab.async false
set_option linter.all false
set_option maxRecDepth 100000
set_option maxHeartbeats 4000000
namespace V
open PySem PySem.Spec PyProof.Rows L2 Evl
/-- d[key] of a written dict -/
def rIxD (K : PySem.W.Frag) (d : Addr) : R2 := fun x y H Q => ∃ (z : Str) (u0 : Value) (v0 : V), x = .ref d ∧ y = .str z ∧ PySem.W.nsIn K d z = some (some u0) ∧ RelV v0 u0 ∧ Q v0 H
theorem ix_kd {X : Cx} {d : Addr} {es : Array DictEntry} {n : Nat} (D : KDict X.K X.w d es n) : IxR X (rIxD X.K d) := by
  intro value slice pins s σ H x y v u Q I rx ry h hs
  obtain ⟨z, u0, v0, rfl, rfl, e, r, q⟩ := h
  cases rx
  exact tail_any (kd_type D I) PySem.F.slot_dict_getitem.lookup (op_item_kd D pins s σ H (.ref d) (.str z) _ _ Q I rfl ry ⟨z, u0, v0, rfl, rfl, e, r, q⟩) hs
def arOf (z : Str) : Nat := if z = "if" then 3 else 2
theorem op_of {z : Str} (h : z ∈ opWords) : ∃ o : Op, z = o.str ∧ arOf z = o.ar := by
  have h2 : z = "add" ∨ z = "less" ∨ z = "times" ∨ z = "under" ∨ z = "if" := by
    simpa [opWords] using h
  rcases h2 with rfl | rfl | rfl | rfl | rfl
  · exact ⟨.add, rfl, by decide +kernel⟩
  · exact ⟨.less, rfl, by decide +kernel⟩
  · exact ⟨.times, rfl, by decide +kernel⟩
  · exact ⟨.under, rfl, by decide +kernel⟩
  · exact ⟨.cond, rfl, by decide +kernel⟩
def one1 (f : PyData → Bool) : List PyData → Bool
  | [d] => f d
  | _ => false
def two2 (f g : PyData → Bool) : List PyData → Bool
  | [d, e] => f d && g e
  | _ => false
/-- it would be a term if its parts were -/
def headD : PyData → Bool
  | .tuple (.str z :: r) =>
    if z ∈ opWords then decide (r.length = arOf z)
    else if z = "num" then one1 (isNumD 1000002) r
    else if z = "arg" then one1 (isNumD 3) r
    else if z = "call" then two2 isMarkD isPartsD r
    else if z = "ring" then two2 (isNumD 11) isPartsD r
    else false
  | _ => false
theorem len_ne {xs : List V} {n : Int} (h : (xs.length : Int) ≠ n) : decide (V.int (xs.length : Int) = V.int n) = false := decide_eq_false fun z => h (V.int.inj z)
end V


set_option Elab.async false
set_option linter.all false
set_option maxRecDepth 100000
set_option maxHeartbeats 4000000
namespace V
open PySem PySem.Spec PyProof.Rows L2 Evl
def second : List PyData → List PyData
  | [_, .tuple ds] => ds
  | _ => []
/-- what would be its parts, of what is headed -/
def partsD : PyData → List PyData
  | .tuple (.str z :: r) => if z ∈ opWords then r else second r
  | _ => []
def isTm : Nat → PyData → Bool
  | 0, _ => false
  | n + 1, d => headD d && (partsD d).all (isTm n)
theorem Small.parts {d e : PyData} (s : Small d) (h : e ∈ partsD d) : Small e := by
  cases s with
  | tup h1 hk =>
    rename_i ds
    cases ds with
    | nil => cases h
    | cons c r =>
      cases c with
      | str z =>
        have h' : e ∈ (if z ∈ opWords then r else second r) := h
        split at h'
        · exact hk e (List.mem_cons_of_mem _ h')
        · unfold second at h'
          split at h'
          · rename_i x ds
            have := hk (.tuple ds) (by simp)
            cases this with
            | tup _ k2 => exact k2 e h'
          · cases h'
      | _ => cases h
  | _ => cases h
theorem Small.few {d : PyData} (s : Small d) : (partsD d).length ≤ 1000 := by
  cases s with
  | tup h1 hk =>
    rename_i ds
    cases ds with
    | nil => exact Nat.zero_le _
    | cons c r =>
      rw [List.length_cons] at h1
      cases c with
      | str z =>
        show (if z ∈ opWords then r else second r).length ≤ 1000
        split
        · omega
        · unfold second
          split
          · rename_i x ds
            have := hk (.tuple ds) (by simp)
            cases this with
            | tup k1 _ => exact k1
          · exact Nat.zero_le _
      | _ => exact Nat.zero_le _
  | _ => exact Nat.zero_le _
def spPartsD (K : PySem.W.Frag) : Sp := fun vs H Q _ => ∃ (v : V) (d : PyData), vs = [v] ∧ Dp K H v d ∧ headD d = true ∧
  ∀ (H' : Hp) (p : Addr) (us : List V), Ex H H' → SqT K H' p us → DpAll K H' us (partsD d) → Q (.ref p) H'
def spWithin (K : PySem.W.Frag) (n : Nat) : Sp := fun vs H Q _ => ∃ (m : Nat) (v : V) (d : PyData), vs = [.int (m : Int), v] ∧ m ≤ n ∧ Dp K H v d ∧ Small d ∧ ∀ (H' : Hp), Ex H H' → Q (.bl (isTm m d)) H'
theorem cut_tail (v : V) (ws : List V) : cutV (v :: ws) (some 1) none = ws := by
  show cutV (v :: ws) (some ((1 : Nat) : Int)) none = ws
  unfold cutV
  rw [HT.sIx_nat, HT.sIx_none, List.length_cons, Nat.min_eq_left (by omega)]
  show (List.take (ws.length + 1 - 1) ws) = ws
  exact List.take_length
end V


set_option Elab.async false
set_option linter.all false
set_option maxRecDepth 100000
set_option maxHeartbeats 400000
namespace V
open PySem PySem.Spec PyProof.Rows L2 Evl TL NumText
/-- a statement that may end it -/
def Hr (t : TS) (A B : L2.St → Hp → Prop) (Q : VK) : Prop := ∀ (D : Ends) (σ : L2.St) (H : Hp), A σ H → (∀ σ' H', B σ' H' → D.nx σ' H') → (∀ v H', Q v H' → D.rt v H') → t D σ H
theorem Hr.fin {t u : TS} {A B : L2.St → Hp → Prop} {Q : VK} (h1 : Hr t A B Q) (h2 : He1 u B Q) : He1 (tSeq t u) A Q := fun D σ H a k => h1 { D with nx := u D } σ H a (fun σ' H' b => h2 D σ' H' b k) k
theorem word_leaf {t : Tm} (h : ∀ hd ts, t ≠ .node hd ts) : inV (.str t.word) [.str "num", .str "arg"] = true := by
  cases t with
  | num n => show inV (.str "num") [.str "num", .str "arg"] = true; decide +kernel
  | arg n => show inV (.str "arg") [.str "num", .str "arg"] = true; decide +kernel
  | node hd ts => exact absurd rfl (h hd ts)
theorem word_node (hd : Hd) (ts : List Tm) : inV (.str (Tm.node hd ts).word) [.str "num", .str "arg"] = false := by
  cases hd with
  | op o => show inV (.str o.str) [.str "num", .str "arg"] = false; cases o <;> decide +kernel
  | call m => show inV (.str "call") [.str "num", .str "arg"] = false; decide +kernel
  | ring p => show inV (.str "ring") [.str "num", .str "arg"] = false; decide +kernel
theorem word_call (hd : Hd) (ts : List Tm) : inV (.str (Tm.node hd ts).word) [.str "call", .str "ring"] = hd.notOp := by
  cases hd with
  | op o => show inV (.str o.str) [.str "call", .str "ring"] = false; cases o <;> decide +kernel
  | call m => show inV (.str "call") [.str "call", .str "ring"] = true; decide +kernel
  | ring p => show inV (.str "ring") [.str "call", .str "ring"] = true; decide +kernel
end V


set_option Elab.async false
set_option linter.all false
set_option maxRecDepth 100000
set_option maxHeartbeats 4000000
namespace V
open PySem PySem.Spec PyProof.Rows L2 Evl TL NumText
/-! ### alike, kind by kind -/
inductive DepN : Nat → PyData → Prop where
  | int {n : Nat} (i : Int) : DepN (n + 1) (.int i)
  | str {n : Nat} (x : Str) : DepN (n + 1) (.str x)
  | lst {n : Nat} {ds : List PyData} : ds.length ≤ 1000 → (∀ d ∈ ds, DepN n d) → DepN (n + 1) (.list ds)
  | tup {n : Nat} {ds : List PyData} : ds.length ≤ 1000 → (∀ d ∈ ds, DepN n d) → DepN (n + 1) (.tuple ds)
theorem DepN.up : ∀ {n m : Nat} {d : PyData}, DepN n d → n ≤ m → DepN m d
  | n + 1, m + 1, _, .int i, h => .int i
  | n + 1, m + 1, _, .str i, h => .str i
  | n + 1, m + 1, _, .lst l k, h => .lst l fun d hd => (k d hd).up (Nat.le_of_succ_le_succ h)
  | n + 1, m + 1, _, .tup l k, h => .tup l fun d hd => (k d hd).up (Nat.le_of_succ_le_succ h)
def isLstD : PyData → Bool
  | .list _ => true
  | _ => false
theorem kit_lst : ∀ d : PyData, kitB (kind d) "list" = some (isLstD d)
  | .none => (by decide +kernel : kitB "NoneType" "list" = some false)
  | .bool _ => (by decide +kernel : kitB "bool" "list" = some false)
  | .int _ => (by decide +kernel : kitB "int" "list" = some false)
  | .str _ => (by decide +kernel : kitB "str" "list" = some false)
  | .list _ => (by decide +kernel : kitB "list" "list" = some true)
  | .tuple _ => (by decide +kernel : kitB "tuple" "list" = some false)
  | .dict _ => (by decide +kernel : kitB "dict" "list" = some false)
theorem kit_two (K : PySem.W.Frag) (d : PyData) : PySem.W.kitAny K (.type (kind d)) [.type "list", .type "tuple"] = some (isLstD d || isTupD d) := by
  refine kitAny_cons (kit_ty (kit_lst d)) (fun h => ?_) (fun h => by rw [h]; rfl)
  rw [h]
  refine kitAny_cons (kit_ty (kit_tup d)) (fun h => ?_) (fun h => by rw [h]; rfl)
  rw [h]
  rfl
theorem walk_zip2 {K : PySem.W.Frag} {a b : Addr} {us ws : List V} (hl : us.length = ws.length) : Walk (RZ.ItzT K a b) us.length (fun H => SqT K H a us ∧ SqT K H b ws) (YPair (fun i => us[i]?) (fun i => ws[i]?)) := by
  refine ⟨fun i _ hi g => ?_, fun _ g => ⟨us, ws, g.1, g.2, .inl (Nat.le_refl _)⟩, fun i H v H' _ g e => ?_⟩
  · exact ⟨us, ws, us[i], ws[i]'(by omega), g.1, g.2, List.getElem?_eq_getElem hi, List.getElem?_eq_getElem (by omega)⟩
  · obtain ⟨t, u, c, k1, k2, k3, k4, k5⟩ := e
    exact ⟨t, u, c, k1, k2, k3, k4 us g.1, k5 ws g.2⟩
def spSame (K : PySem.W.Frag) (n : Nat) : Sp := fun vs H Q _ => ∃ (v w : V) (d : PyData), vs = [v, w] ∧ Dp K H v d ∧ Dp K H w d ∧ DepN n d ∧ ∀ (H' : Hp), Ex H H' → Q (.bl true) H'
end V


set_option Elab.async false
set_option linter.all false
set_option maxRecDepth 100000
set_option maxHeartbeats 4000000
namespace V
open PySem PySem.Spec PyProof.Rows L2 Evl TL NumText
def spHeadText : Sp := fun vs H Q _ => ∃ (v : V) (h : Hd) (ts : List Tm) (M : Nat), vs = [v] ∧ TmAt H v (.node h ts) ∧ h.ok M ts.length ∧ M ≤ 1000000 ∧ ∀ (H' : Hp), Ex H H' → Q (.str h.S) H'
def spText (n : Nat) : Sp := fun vs H Q _ => ∃ (v : V) (t : Tm) (M : Nat), vs = [v] ∧ TmAt H v t ∧ t.Ok M ∧ M ≤ 1000000 ∧ t.deep ≤ n ∧ t.size ≤ 1000 ∧ ∀ (H' : Hp), Ex H H' → Q (.str t.txt) H'
end V


set_option Elab.async false
set_option linter.all false
set_option maxRecDepth 100000
set_option maxHeartbeats 4000000
namespace V
open PySem PySem.Spec PyProof.Rows L2 Evl TL NumText
/-! ### numbers of texts -/
def figs : List Nat := [48, 49, 50, 51, 52, 53, 54, 55, 56, 57]
theorem figs_iff (c : Nat) : c ∈ figs ↔ 48 ≤ c ∧ c ≤ 57 := by
  unfold figs
  simp only [List.mem_cons, List.not_mem_nil, or_false]
  omega
def isNumL (l : List Nat) : Bool := decide (1 ≤ l.length) && decide (l.length ≤ 7) && l.all (fun c => decide (c ∈ figs)) && decide (digitsVal l ≤ 1000002) && decide (TL.numL (digitsVal l) = l)
/-- the number that it writes -/
def numV (z : Str) : V := if isNumL (tl z) then .int ((digitsVal (tl z) : Nat) : Int) else .non
theorem numV_nt {n : Nat} (h : n ≤ 1000002) : numV (nt n) = .int (n : Int) := by
  have e : tl (nt n) = TL.numL n := tl_nt n
  have d := TL.numL_digits n
  unfold numV
  rw [e, TL.numL_val]
  refine if_pos ?_
  unfold isNumL
  rw [TL.numL_val]
  simp only [Bool.and_eq_true, decide_eq_true_eq, List.all_eq_true]
  refine ⟨⟨⟨⟨?_, ?_⟩, fun c hc => (figs_iff c).mpr (d c hc)⟩, h⟩, trivial⟩
  · exact List.length_pos_iff.mpr (TL.numL_ne n)
  · have := nt_len (n := n) (by omega)
    rw [len_tl, e] at this
    exact this
def spNumIn : Sp := fun vs H Q _ => ∃ z : Str, vs = [.str z] ∧ z.length ≤ 1000000 ∧ ∀ (H' : Hp), Ex H H' → Q (numV z) H'
theorem nat_le_int {a b : Nat} : decide ((a : Int) ≤ (b : Int)) = decide (a ≤ b) := by
  rw [decide_eq_decide]
  omega
def figS : Str := "0123456789"
theorem figS_tl : figS.cps.toList = figs := by decide +kernel
end V


set_option Elab.async false
set_option linter.all false
set_option maxRecDepth 100000
set_option maxHeartbeats 4000000
namespace V
open PySem PySem.Spec PyProof.Rows L2 Evl TL NumText
/-! ### words of texts -/
def letters : List Str := ["a", "b", "c", "d"]
def lix (z : Str) : Option Nat := if z = "a" then some 0 else if z = "b" then some 1 else if z = "c" then some 2 else if z = "d" then some 3 else none
def leafL (z : Str) : List V := match lix z with
  | some k => [.str "arg", .int (k : Int)]
  | none => [.str "num", numV z]
theorem lix_some {z : Str} {k : Nat} (h : lix z = some k) : letters[k]? = some z ∧ ∀ m, m < k → letters[m]? ≠ some z := by
  unfold lix at h
  split at h
  · rename_i e
    cases h
    subst e
    exact ⟨rfl, fun m hm => absurd hm (by omega)⟩
  split at h
  · rename_i e
    cases h
    subst e
    exact ⟨rfl, by decide +kernel⟩
  split at h
  · rename_i e
    cases h
    subst e
    exact ⟨rfl, by decide +kernel⟩
  split at h
  · rename_i e
    cases h
    subst e
    exact ⟨rfl, by decide +kernel⟩
  · cases h
theorem lix_in (z : Str) : inV (.str z) [.str "a", .str "b", .str "c", .str "d"] = (lix z).isSome := by
  have e : inV (.str z) [.str "a", .str "b", .str "c", .str "d"] = ((("a" : Str) == z) || ((("b" : Str) == z) || ((("c" : Str) == z) || ((("d" : Str) == z) || false)))) := rfl
  rw [e]
  unfold lix
  by_cases c1 : z = "a"
  · subst c1; decide +kernel
  by_cases c2 : z = "b"
  · subst c2; decide +kernel
  by_cases c3 : z = "c"
  · subst c3; decide +kernel
  by_cases c4 : z = "d"
  · subst c4; decide +kernel
  rw [if_neg c1, if_neg c2, if_neg c3, if_neg c4, beq_eq_false_iff_ne.mpr (Ne.symm c1), beq_eq_false_iff_ne.mpr (Ne.symm c2), beq_eq_false_iff_ne.mpr (Ne.symm c3), beq_eq_false_iff_ne.mpr (Ne.symm c4)]
  rfl
def spLeaf : Sp := fun vs H Q _ => ∃ z : Str, vs = [.str z] ∧ z.length ≤ 1000000 ∧ ∀ (H' : Hp) (p : Addr), Ex H H' → H' p = some (.tup (leafL z)) → Q (.ref p) H'
/-- blank, brackets -/
def stops : List Nat := [32, 40, 41]
def stopS : Str := " ()"
theorem stopS_tl : stopS.cps.toList = stops := by decide +kernel
def spWordAt : Sp := fun vs H Q _ => ∃ (z x : Str) (a b : List Nat), vs = [.str z, .int (a.length : Int)] ∧ z.length ≤ 1000000 ∧ tl z = a ++ (tl x ++ b) ∧ (∀ c ∈ tl x, c ∉ stops) ∧ (∀ c, b.head? = some c → c ∈ stops) ∧
  ∀ (H' : Hp), Ex H H' → Q (.str x) H'
theorem cut_mid {z x : Str} {a b : List Nat} (h : tl z = a ++ (tl x ++ b)) : cutS z (some (a.length : Int)) (some ((a.length + x.length : Nat) : Int)) = x := by
  have hz : z.length = a.length + (x.length + b.length) := by
    rw [len_tl, h, List.length_append, List.length_append, ← len_tl]
  unfold cutS
  rw [HT.sIx_nat, HT.sIx_nat, Nat.min_eq_left (by omega), Nat.min_eq_left (by omega)]
  refine ext_tl ?_
  show List.take _ (List.drop _ (tl z)) = tl x
  rw [h, List.drop_left, show a.length + x.length - a.length = (tl x).length by rw [← len_tl]; omega, List.take_left]
end V


set_option Elab.async false
set_option linter.all false
set_option maxRecDepth 100000
set_option maxHeartbeats 4000000
namespace V
open PySem PySem.Spec PyProof.Rows L2 Evl TL NumText
/-! ### terms of texts -/
/-- the parts, a blank ahead of each -/
def tails (ts : List Tm) : List Nat := ts.flatMap fun t => 32 :: tl t.txt
theorem join_tails (x : List Nat) (ts : List Tm) : joinL [32] (x :: (ts.map fun t => tl t.txt)) = x ++ tails ts := by
  induction ts generalizing x with
  | nil => show x = x ++ []; rw [List.append_nil]
  | cons t ts ih =>
    show x ++ ([32] ++ joinL [32] (tl t.txt :: ts.map fun t => tl t.txt)) = x ++ ((32 :: tl t.txt) ++ tails ts)
    rw [ih]
    rfl
theorem tl_node (h : Hd) (ts : List Tm) : tl (Tm.node h ts).txt = 40 :: (tl h.S ++ (tails ts ++ [41])) := by
  show tl (("(" : Str) ++ Str.join " " (h.S :: Tm.txts ts) ++ ")") = _
  have o1 : tl ("(" : Str) = [40] := by decide +kernel
  have o2 : tl (")" : Str) = [41] := by decide +kernel
  have o3 : tl (" " : Str) = [32] := by decide +kernel
  rw [tl_append, tl_append, tl_join, o1, o2, o3, txts_map, List.map_cons, List.map_map]
  show [40] ++ joinL [32] (tl h.S :: ts.map fun t => tl t.txt) ++ [41] = _
  rw [join_tails, List.append_assoc, List.append_assoc]
  rfl
theorem tails_take {ts : List Tm} {i : Nat} {t : Tm} (h : ts[i]? = some t) : tails ts = tails (ts.take i) ++ (32 :: (tl t.txt ++ tails (ts.drop (i + 1)))) := by
  have hi := (List.getElem?_eq_some_iff.mp h)
  obtain ⟨h1, h2⟩ := hi
  conv => lhs; rw [← List.take_append_drop i ts, List.drop_eq_getElem_cons h1, h2]
  unfold tails
  rw [List.flatMap_append, List.flatMap_cons]
  rfl
theorem tails_more {ts : List Tm} {i : Nat} {t : Tm} (h : ts[i]? = some t) : tails (ts.take (i + 1)) = tails (ts.take i) ++ (32 :: tl t.txt) := by
  rw [take_more h]
  unfold tails
  rw [List.flatMap_append]
  show _ ++ ((32 :: tl t.txt) ++ []) = _
  rw [List.append_nil]
theorem cut_one {z : Str} {a b : List Nat} {c : Nat} (h : tl z = a ++ (c :: b)) : cutS z (some (a.length : Int)) (some ((a.length : Int) + 1)) = ⟨#[c]⟩ := cut_mid (x := ⟨#[c]⟩) h
theorem cut_first {z : Str} {b : List Nat} {c : Nat} (h : tl z = c :: b) : cutS z none (some 1) = ⟨#[c]⟩ := by
  have e : cutS z (some ((0 : Nat) : Int)) (some 1) = ⟨#[c]⟩ := cut_one (a := []) h
  have e2 : cutS z none (some 1) = cutS z (some ((0 : Nat) : Int)) (some 1) := by
    unfold cutS
    rw [HT.sIx_none, HT.sIx_nat, Nat.zero_min]
  rw [e2, e]
theorem cut_rest {z x : Str} {c : Nat} (h : tl z = c :: tl x) : cutS z (some 1) none = x := by
  have e : cutS z (some (([c].length : Nat) : Int)) (some (([c].length + x.length : Nat) : Int)) = x := cut_mid (a := [c]) (b := []) (by rw [h, List.append_nil]; rfl)
  have e2 : cutS z (some 1) none = cutS z (some (([c].length : Nat) : Int)) (some (([c].length + x.length : Nat) : Int)) := by
    have hz : z.length = 1 + x.length := by rw [len_tl, h, List.length_cons, ← len_tl]; omega
    have e1 : HT.sIx z.length z.length (some (([c].length + x.length : Nat) : Int)) = z.length := by
      rw [HT.sIx_nat]
      show min (1 + x.length) z.length = z.length
      omega
    unfold cutS
    rw [HT.sIx_none, e1]
    rfl
  rw [e2, e]
theorem letter_stops {k : Nat} (h : k ≤ 3) : ∀ c ∈ tl (letter k), c ∉ stops := by
  match k, h with
  | 0, _ => decide +kernel
  | 1, _ => decide +kernel
  | 2, _ => decide +kernel
  | 3, _ => decide +kernel
  | n + 4, h => omega
theorem num_stops (n : Nat) : ∀ c ∈ TL.numL n, c ∉ stops := fun c hc => by
  have := TL.numL_digits n c hc
  unfold stops
  simp only [List.mem_cons, List.not_mem_nil, or_false]
  omega
theorem mk_stops {m : Str} (h : isMk m) : ∀ c ∈ tl m, c ∉ stops := fun c hc => by
  have := h.2 c hc
  unfold stops
  simp only [List.mem_cons, List.not_mem_nil, or_false]
  omega
theorem hd_stops {M n : Nat} {h : Hd} (k : h.ok M n) : ∀ c ∈ tl h.S, c ∉ stops := by
  cases h with
  | op o => cases o <;> decide +kernel
  | call m =>
    show ∀ c ∈ tl (("#" : Str) ++ m), c ∉ stops
    rw [tl_append]
    intro c hc
    rcases List.mem_append.mp hc with hc | hc
    · exact (by decide +kernel : ∀ c ∈ tl ("#" : Str), c ∉ stops) c hc
    · exact mk_stops k.1 c hc
  | ring p =>
    show ∀ c ∈ tl (("@" : Str) ++ nt p), c ∉ stops
    rw [tl_append, tl_nt]
    intro c hc
    rcases List.mem_append.mp hc with hc | hc
    · exact (by decide +kernel : ∀ c ∈ tl ("@" : Str), c ∉ stops) c hc
    · exact num_stops p c hc
/-- a number or an argument: no bracket, just this leaf -/
theorem leaf_stops {M : Nat} {t : Tm} (h : t.Ok M) (hn : t.parts = []) (hh : ∀ h ts, t ≠ .node h ts) : (∀ c ∈ tl t.txt, c ∉ stops) ∧ tl t.txt ≠ [] := by
  cases h with
  | @num n hn' =>
    show (∀ c ∈ tl (nt n), c ∉ stops) ∧ tl (nt n) ≠ []
    rw [tl_nt]
    exact ⟨num_stops n, TL.numL_ne n⟩
  | arg hk =>
    rename_i k
    refine ⟨letter_stops hk, fun e => ?_⟩
    have l := letter_len hk
    rw [len_tl] at l
    have e' : tl (letter k) = [] := e
    rw [e'] at l
    cases l
  | node _ _ => exact absurd rfl (hh _ _)
theorem lix_letter {k : Nat} (h : k ≤ 3) : lix (letter k) = some k := by
  match k, h with
  | 0, _ => decide +kernel
  | 1, _ => decide +kernel
  | 2, _ => decide +kernel
  | 3, _ => decide +kernel
  | n + 4, h => omega
theorem lix_nt (n : Nat) : lix (nt n) = none := by
  have no : ∀ s : Str, (∃ c ∈ tl s, 57 < c) → nt n ≠ s := fun s ⟨c, h1, h2⟩ e => by
    have h3 := congrArg tl e
    rw [tl_nt] at h3
    have := TL.numL_digits n c (by
      show c ∈ dig n
      rw [h3]
      exact h1)
    omega
  unfold lix
  rw [if_neg (no "a" (by decide +kernel)), if_neg (no "b" (by decide +kernel)), if_neg (no "c" (by decide +kernel)), if_neg (no "d" (by decide +kernel))]
/-- the leaf that it writes -/
theorem leaf_at {M : Nat} {t : Tm} {H : Hp} {p : Addr} (h : t.Ok M) (hh : ∀ h ts, t ≠ .node h ts) (hp : H p = some (.tup (leafL t.txt))) : TmAt H (.ref p) t := by
  cases h with
  | num hn =>
    rename_i n
    have e : leafL (Tm.num n).txt = [.str "num", .int (n : Int)] := by
      show leafL (nt n) = _
      unfold leafL
      rw [lix_nt, numV_nt hn]
    rw [e] at hp
    exact .num hp
  | arg hk =>
    rename_i k
    have e : leafL (Tm.arg k).txt = [.str "arg", .int (k : Int)] := by
      show leafL (letter k) = _
      unfold leafL
      rw [lix_letter hk]
    rw [e] at hp
    exact .arg hp
  | node _ _ => exact absurd rfl (hh _ _)
end V


set_option Elab.async false
set_option linter.all false
set_option maxRecDepth 100000
set_option maxHeartbeats 4000000
namespace V
open PySem PySem.Spec PyProof.Rows L2 Evl TL NumText
def spTermAt (n : Nat) : Sp := fun vs H Q _ => ∃ (z : Str) (a b : List Nat) (t : Tm) (d M : Nat), vs = [.str z, .int (a.length : Int), .int (d : Int)] ∧ z.length ≤ 1000000 ∧ tl z = a ++ (tl t.txt ++ b) ∧
  (∀ c, b.head? = some c → c ∈ stops) ∧ t.Ok M ∧ M ≤ 1000000 ∧ t.deep ≤ d ∧ d ≤ n ∧
  ∀ (H' : Hp) (p : Addr) (v : V), Ex H H' → H' p = some (.tup [v, .int ((a.length + t.txt.length : Nat) : Int)]) → TmAt H' v t → Q (.ref p) H'
def spBracketAt (n : Nat) : Sp := fun vs H Q _ => ∃ (z : Str) (a b : List Nat) (h : Hd) (ts : List Tm) (d M : Nat), vs = [.str z, .int (a.length : Int), .int (d : Int)] ∧ z.length ≤ 1000000 ∧ tl z = a ++ (tl (Tm.node h ts).txt ++ b) ∧
  (Tm.node h ts).Ok M ∧ M ≤ 1000000 ∧ (Tm.node h ts).deep ≤ d ∧ d ≤ n ∧
  ∀ (H' : Hp) (p : Addr) (v : V), Ex H H' → H' p = some (.tup [v, .int ((a.length + (Tm.node h ts).txt.length : Nat) : Int)]) → TmAt H' v (.node h ts) → Q (.ref p) H'
theorem eq_sign {c : Nat} {s : Str} {d : Nat} (h : s = ⟨#[d]⟩) : decide (V.str ⟨#[c]⟩ = V.str s) = decide (c = d) := by
  subst h
  rw [eq_word, decide_eq_decide]
  refine ⟨fun e => ?_, fun e => by rw [e]⟩
  have := congrArg tl e
  exact (List.cons.inj this).1
section
variable {P : Program} {w : World} {K : PySem.W.Frag} {mg : Str → Option Value} {base : Heap}
def spTermIn (K : PySem.W.Frag) : Sp := fun vs H Q _ => ∃ (t : Tm) (M : Nat), vs = [.str t.txt] ∧ t.txt.length ≤ 1000000 ∧ t.Ok M ∧ M ≤ 11 ∧ t.deep ≤ 8 ∧ ∀ (H' : Hp) (v : V), Ex H H' → TmAt H' v t → Q v H'
end
end V


set_option Elab.async false
set_option linter.all false
set_option maxRecDepth 100000
set_option maxHeartbeats 4000000
namespace V
open PySem PySem.Spec PyProof.Rows L2 Evl TL NumText
/-! ### terms as data -/
mutual
def Tm.py : Tm → PyData
  | .num n => .tuple [.str "num", .int (n : Int)]
  | .arg k => .tuple [.str "arg", .int (k : Int)]
  | .node h ts => match h with
    | .op o => .tuple (.str o.str :: Tm.pys ts)
    | .call m => .tuple [.str "call", .str m, .tuple (Tm.pys ts)]
    | .ring p => .tuple [.str "ring", .int (p : Int), .tuple (Tm.pys ts)]
def Tm.pys : List Tm → List PyData
  | [] => []
  | t :: ts => t.py :: Tm.pys ts
end
theorem pys_map (ts : List Tm) : Tm.pys ts = ts.map Tm.py := by
  induction ts with
  | nil => rfl
  | cons t ts ih =>
    show t.py :: Tm.pys ts = t.py :: ts.map Tm.py
    rw [ih]
section
variable {K : PySem.W.Frag} {H : Hp}
mutual
theorem TmAt.dp : ∀ {v : V} {t : Tm}, TmAt H v t → Dp K H v t.py
  | _, _, .num h => .tup (SqT.of h) (.cons (.str _) (.cons (.int _) .nil))
  | _, _, .arg h => .tup (SqT.of h) (.cons (.str _) (.cons (.int _) .nil))
  | _, _, .op h hs => .tup (SqT.of h) (.cons (.str _) hs.dp)
  | _, _, .call h hp hs => .tup (SqT.of h) (.cons (.str _) (.cons (.str _) (.cons (.tup (SqT.of hp) hs.dp) .nil)))
  | _, _, .ring h hp hs => .tup (SqT.of h) (.cons (.str _) (.cons (.int _) (.cons (.tup (SqT.of hp) hs.dp) .nil)))
theorem TmsAt.dp : ∀ {vs : List V} {ts : List Tm}, TmsAt H vs ts → DpAll K H vs (Tm.pys ts)
  | _, _, .nil => .nil
  | _, _, .cons h hs => .cons h.dp hs.dp
end
end
theorem mk_in {m : Str} (h : isMk m) : isMarkD (.str m) = true := by
  show (m.length == 6 && m.cps.toList.all fun c => decide (c ∈ sgM.cps.toList)) = true
  rw [h.1]
  show (m.cps.toList.all fun c => decide (c ∈ sgM.cps.toList)) = true
  rw [List.all_eq_true]
  intro c hc
  have r := h.2 c hc
  have all : ∀ c : Nat, c < 123 → ((48 ≤ c ∧ c ≤ 57) ∨ (97 ≤ c ∧ c ≤ 122)) → c ∈ sgM.cps.toList := by decide +kernel
  exact decide_eq_true (all c (by omega) r)
theorem headD_eq (z : Str) (r : List PyData) : headD (.tuple (.str z :: r)) = if z ∈ opWords then decide (r.length = arOf z) else if z = "num" then one1 (isNumD 1000002) r else if z = "arg" then one1 (isNumD 3) r
    else if z = "call" then two2 isMarkD isPartsD r else if z = "ring" then two2 (isNumD 11) isPartsD r else false := rfl
theorem headD_num (r : List PyData) : headD (.tuple (.str "num" :: r)) = one1 (isNumD 1000002) r := by
  rw [headD_eq, if_neg (by decide +kernel), if_pos rfl]
theorem headD_arg (r : List PyData) : headD (.tuple (.str "arg" :: r)) = one1 (isNumD 3) r := by
  rw [headD_eq, if_neg (by decide +kernel), if_neg (by decide +kernel), if_pos rfl]
theorem headD_call (r : List PyData) : headD (.tuple (.str "call" :: r)) = two2 isMarkD isPartsD r := by
  rw [headD_eq, if_neg (by decide +kernel), if_neg (by decide +kernel), if_neg (by decide +kernel), if_pos rfl]
theorem headD_ring (r : List PyData) : headD (.tuple (.str "ring" :: r)) = two2 (isNumD 11) isPartsD r := by
  rw [headD_eq, if_neg (by decide +kernel), if_neg (by decide +kernel), if_neg (by decide +kernel), if_neg (by decide +kernel), if_pos rfl]
theorem Hd.ok.up {M M' n : Nat} (h : M ≤ M') {hd : Hd} (k : hd.ok M n) : hd.ok M' n := by
  cases hd with
  | op o => exact k
  | call m => exact k
  | ring p => exact ⟨Nat.le_trans k.1 h, k.2⟩
theorem Tm.Ok.up {M M' : Nat} (h : M ≤ M') : ∀ {t : Tm}, t.Ok M → t.Ok M'
  | _, .num k => .num k
  | _, .arg k => .arg k
  | _, .node k ks => .node (k.up h) fun t ht => (ks t ht).up h
theorem headD_op {z : Str} (h : z ∈ opWords) (r : List PyData) : headD (.tuple (.str z :: r)) = decide (r.length = arOf z) := if_pos h
theorem partsD_op {z : Str} (h : z ∈ opWords) (r : List PyData) : partsD (.tuple (.str z :: r)) = r := if_pos h
theorem partsD_no {z : Str} (h : z ∉ opWords) (r : List PyData) : partsD (.tuple (.str z :: r)) = second r := if_neg h
theorem py_isTm : ∀ (n : Nat) (t : Tm), t.Ok 11 → t.deep ≤ n → isTm n t.py = true
  | 0, t, _, h => by
    have := deep_pos t
    omega
  | n + 1, t, k, h => by
    cases k with
    | @num m hm =>
      show (headD (.tuple [.str "num", .int (m : Int)]) && (partsD (.tuple [.str "num", .int (m : Int)])).all (isTm n)) = true
      have e1 : headD (.tuple [.str "num", .int (m : Int)]) = (decide (0 ≤ (m : Int)) && decide ((m : Int) ≤ 1000002)) := by
        exact headD_num _
      have e2 : partsD (.tuple [.str "num", .int (m : Int)]) = [] := by
        exact partsD_no (by decide +kernel) _
      rw [e1, e2, decide_eq_true (by omega), decide_eq_true (by omega)]
      rfl
    | @arg m hm =>
      show (headD (.tuple [.str "arg", .int (m : Int)]) && (partsD (.tuple [.str "arg", .int (m : Int)])).all (isTm n)) = true
      have e1 : headD (.tuple [.str "arg", .int (m : Int)]) = (decide (0 ≤ (m : Int)) && decide ((m : Int) ≤ 3)) := by
        exact headD_arg _
      have e2 : partsD (.tuple [.str "arg", .int (m : Int)]) = [] := by
        exact partsD_no (by decide +kernel) _
      rw [e1, e2, decide_eq_true (by omega), decide_eq_true (by omega)]
      rfl
    | @node hd ts hok hks =>
      have hdl : ∀ u ∈ ts, u.deep ≤ n := fun u hu => by
        have : u.deep + 1 ≤ (Tm.node hd ts).deep := parts_deep (t := .node hd ts) hu
        omega
      have rest : (Tm.pys ts).all (isTm n) = true := by
        rw [pys_map, List.all_map, List.all_eq_true]
        exact fun u hu => py_isTm n u (hks u hu) (hdl u hu)
      have len : (Tm.pys ts).length = ts.length := by rw [pys_map, List.length_map]
      show (headD (Tm.node hd ts).py && (partsD (Tm.node hd ts).py).all (isTm n)) = true
      cases hd with
      | op o =>
        have io : o.str ∈ opWords := by cases o <;> decide +kernel
        have e1 : headD (Tm.node (.op o) ts).py = true := by
          refine (headD_op io _).trans ?_
          rw [len]
          refine decide_eq_true ?_
          have : ts.length = o.ar := hok
          rw [this]
          cases o <;> decide +kernel
        have e2 : partsD (Tm.node (.op o) ts).py = Tm.pys ts := partsD_op io _
        rw [e1, e2, rest]
        rfl
      | call m =>
        have e1 : headD (Tm.node (.call m) ts).py = true := by
          refine (headD_call _).trans ?_
          show (isMarkD (.str m) && decide ((Tm.pys ts).length ≤ 4)) = true
          rw [mk_in hok.1, len, decide_eq_true hok.2]
          rfl
        have e2 : partsD (Tm.node (.call m) ts).py = Tm.pys ts := partsD_no (by decide +kernel) _
        rw [e1, e2, rest]
        rfl
      | ring p =>
        have e1 : headD (Tm.node (.ring p) ts).py = true := by
          refine (headD_ring _).trans ?_
          show ((decide (0 ≤ (p : Int)) && decide ((p : Int) ≤ 11)) && decide ((Tm.pys ts).length ≤ 4)) = true
          have hp : p ≤ 11 := hok.1
          rw [decide_eq_true (by omega), decide_eq_true (by omega), len, decide_eq_true hok.2]
          rfl
        have e2 : partsD (Tm.node (.ring p) ts).py = Tm.pys ts := partsD_no (by decide +kernel) _
        rw [e1, e2, rest]
        rfl
theorem py_small : ∀ {M : Nat} (t : Tm), t.Ok M → Small t.py
  | M, t, k => by
    have w : ∀ x : Str, x.length ≤ 5 → Small (.str x) := fun x h => .str (by omega)
    have two : ∀ {a b : PyData}, Small a → Small b → Small (.tuple [a, b]) := fun ha hb => .tup (by show 2 ≤ 1000; omega) fun d hd => by
      rcases List.mem_cons.mp hd with rfl | hd
      · exact ha
      · rw [List.mem_singleton.mp hd]
        exact hb
    have three : ∀ {a b c : PyData}, Small a → Small b → Small c → Small (.tuple [a, b, c]) := fun ha hb hc => .tup (by show 3 ≤ 1000; omega) fun d hd => by
      rcases List.mem_cons.mp hd with rfl | hd
      · exact ha
      rcases List.mem_cons.mp hd with rfl | hd
      · exact hb
      · rw [List.mem_singleton.mp hd]
        exact hc
    cases k with
    | num _ => exact two (w _ (by decide +kernel)) (.int _)
    | arg _ => exact two (w _ (by decide +kernel)) (.int _)
    | @node hd ts hok hks =>
      have le := hok.le
      have rest : ∀ d ∈ Tm.pys ts, Small d := fun d hd => by
        rw [pys_map] at hd
        obtain ⟨u, hu, rfl⟩ := List.mem_map.mp hd
        exact py_small u (hks u hu)
      have len : (Tm.pys ts).length = ts.length := by rw [pys_map, List.length_map]
      have pt : Small (.tuple (Tm.pys ts)) := .tup (by omega) rest
      cases hd with
      | op o =>
        refine .tup (by rw [List.length_cons]; omega) fun d hd => ?_
        rcases List.mem_cons.mp hd with rfl | hd
        · exact w _ (by cases o <;> decide +kernel)
        · exact rest d hd
      | call m => exact three (w _ (by decide +kernel)) (.str (by rw [hok.1.1]; decide)) pt
      | ring p => exact three (w _ (by decide +kernel)) (.int _) pt
end V


set_option Elab.async false
set_option linter.all false
set_option maxRecDepth 100000
set_option maxHeartbeats 400000
namespace V
open PySem PySem.Spec PyProof.Rows L2 Evl TL NumText
theorem pys_dep {n : Nat} (ts : List Tm) (h : ∀ t ∈ ts, DepN n t.py) : ∀ d ∈ Tm.pys ts, DepN n d := fun d hd => by
  rw [pys_map] at hd
  obtain ⟨t, ht, rfl⟩ := List.mem_map.mp hd
  exact h t ht
theorem py_dep : ∀ (n M : Nat) (t : Tm), t.Ok M → t.deep ≤ n → DepN (2 * n) t.py
  | 0, _, t, _, h => by
    have := deep_pos t
    omega
  | n + 1, M, t, k, h => by
    have flat2 : ∀ {a b : PyData}, DepN (2 * n + 1) a → DepN (2 * n + 1) b → DepN (2 * (n + 1)) (.tuple [a, b]) := fun ha hb => .tup (by show 2 ≤ 1000; omega) fun d hd => by
      rcases List.mem_cons.mp hd with rfl | hd
      · exact ha
      · rw [List.mem_singleton.mp hd]
        exact hb
    have flat3 : ∀ {a b c : PyData}, DepN (2 * n + 1) a → DepN (2 * n + 1) b → DepN (2 * n + 1) c → DepN (2 * (n + 1)) (.tuple [a, b, c]) := fun ha hb hc => .tup (by show 3 ≤ 1000; omega) fun d hd => by
      rcases List.mem_cons.mp hd with rfl | hd
      · exact ha
      rcases List.mem_cons.mp hd with rfl | hd
      · exact hb
      · rw [List.mem_singleton.mp hd]
        exact hc
    cases k with
    | num _ => exact flat2 (.str _) (.int _)
    | arg _ => exact flat2 (.str _) (.int _)
    | @node hd ts hok hks =>
      have le := hok.le
      have each : ∀ u ∈ ts, DepN (2 * n) u.py := fun u hu => by
        have : u.deep + 1 ≤ (Tm.node hd ts).deep := parts_deep (t := .node hd ts) hu
        exact py_dep n M u (hks u hu) (by omega)
      have len : (Tm.pys ts).length = ts.length := by rw [pys_map, List.length_map]
      have pt : DepN (2 * n + 1) (.tuple (Tm.pys ts)) := .tup (by omega) (pys_dep ts each)
      cases hd with
      | op o =>
        refine .tup (by rw [List.length_cons]; omega) fun d hd => ?_
        rcases List.mem_cons.mp hd with rfl | hd
        · exact .str _
        · exact (pys_dep ts each d hd).up (Nat.le_succ (2 * n))
      | call m => exact flat3 (.str _) (.str _) pt
      | ring p => exact flat3 (.str _) (.int _) pt
theorem places_len (t : Tm) : t.places.length ≤ t.size := by
  rw [← all_len t]
  unfold Tm.places
  have h : ∀ l : List Tm, (l.flatMap Tm.pl1).length ≤ l.length := by
    intro l
    induction l with
    | nil => exact Nat.le_refl _
    | cons t r ih =>
      rw [List.flatMap_cons, List.length_append, List.length_cons]
      have : (Tm.pl1 t).length ≤ 1 := by
        unfold Tm.pl1
        split
        · exact Nat.le_refl 1
        · exact Nat.zero_le 1
      omega
  exact h _
section
variable {K : PySem.W.Frag} {H : Hp}
theorem dps_strs : ∀ xs : List Str, DpAll K H (xs.map V.str) (xs.map PyData.str)
  | [] => .nil
  | x :: xs => .cons (.str x) (dps_strs xs)
theorem dps_nats : ∀ xs : List Nat, DpAll K H (xs.map fun k : Nat => V.int (k : Int)) (xs.map fun k : Nat => PyData.int (k : Int))
  | [] => .nil
  | x :: xs => .cons (.int _) (dps_nats xs)
end
theorem mks_len (t : Tm) : t.marks.length ≤ t.size := by
  rw [← all_len t]
  unfold Tm.marks
  have h : ∀ l : List Tm, (l.flatMap Tm.mk1).length ≤ l.length := by
    intro l
    induction l with
    | nil => exact Nat.le_refl _
    | cons t r ih =>
      rw [List.flatMap_cons, List.length_append, List.length_cons]
      have : (Tm.mk1 t).length ≤ 1 := by
        unfold Tm.mk1
        split
        · exact Nat.le_refl 1
        · exact Nat.zero_le 1
      omega
  exact h _
/-- a rising list of what stands in another one is no longer -/
theorem rise_len : ∀ (xs l : List Str), xs.Pairwise tlt → (∀ x ∈ xs, x ∈ l) → xs.length ≤ l.length
  | [], l, _, _ => Nat.zero_le _
  | x :: xs, l, h, s => by
    obtain ⟨h1, h2⟩ := List.pairwise_cons.mp h
    have hx := s x (List.mem_cons_self ..)
    have ih := rise_len xs (l.erase x) h2 fun y hy => (List.mem_erase_of_ne (fun e => tlt_irr x (by
      have := h1 y hy
      rw [e] at this
      exact this))).mpr (s y (List.mem_cons_of_mem _ hy))
    have e := List.length_erase_of_mem hx
    have pos : 0 < l.length := List.length_pos_of_mem hx
    rw [List.length_cons]
    omega
/-- the marks, the places of a head -/
def Hd.ms : Hd → List Str
  | .call m => [m]
  | _ => []
def Hd.ps : Hd → List Nat
  | .ring p => [p]
  | _ => []
theorem alls_flat (ts : List Tm) : Tm.alls ts = ts.flatMap Tm.all := by
  induction ts with
  | nil => rfl
  | cons t ts ih =>
    show t.all ++ Tm.alls ts = _
    rw [ih]
    rfl
theorem marks_node (h : Hd) (ts : List Tm) : (Tm.node h ts).marks = h.ms ++ ts.flatMap Tm.marks := by
  have e : (Tm.node h ts).marks = Tm.mk1 (.node h ts) ++ (Tm.alls ts).flatMap Tm.mk1 := by
    unfold Tm.marks
    rw [all_parts, List.flatMap_cons]
    rfl
  rw [e, alls_flat, List.flatMap_assoc]
  cases h <;> rfl
theorem places_node (h : Hd) (ts : List Tm) : (Tm.node h ts).places = h.ps ++ ts.flatMap Tm.places := by
  have e : (Tm.node h ts).places = Tm.pl1 (.node h ts) ++ (Tm.alls ts).flatMap Tm.pl1 := by
    unfold Tm.places
    rw [all_parts, List.flatMap_cons]
    rfl
  rw [e, alls_flat, List.flatMap_assoc]
  cases h <;> rfl
end V


set_option Elab.async false
set_option linter.all false
set_option maxRecDepth 100000
set_option maxHeartbeats 400000
namespace V
open PySem PySem.Spec PyProof.Rows L2 Evl TL NumText
theorem words_len {M : Nat} (hM : M ≤ 1000000) {h : Hd} {ts : List Tm} (hh : h.ok M ts.length) (hks : ∀ t ∈ ts, t.Ok M) (hz : (Tm.node h ts).size ≤ 1000) : ((h.S :: ts.map Tm.txt).map (·.length)).sum + (h.S :: ts.map Tm.txt).length ≤ 100000 := by
  have each : ∀ us : List Tm, (∀ u ∈ us, u.Ok M) → ((us.map Tm.txt).map (·.length)).sum ≤ 16 * Tm.sizes us := by
    intro us
    induction us with
    | nil => intro _; exact Nat.le_refl _
    | cons u us ih =>
      intro hu
      have i1 := ih fun v hv => hu v (List.mem_cons_of_mem _ hv)
      have i2 := txt_len hM u (hu u (List.mem_cons_self ..))
      show u.txt.length + ((us.map Tm.txt).map (·.length)).sum ≤ 16 * (u.size + Tm.sizes us)
      omega
  have i1 := each ts hks
  have i2 := Hd.S_len hh hM
  have few := hh.le
  have tsz : (Tm.node h ts).size = 1 + Tm.sizes ts := rfl
  rw [List.map_cons, List.sum_cons, List.length_cons, List.length_map]
  omega
theorem node_txt (h : Hd) (ts : List Tm) : (Tm.node h ts).txt = ("(" : Str) ++ Str.join " " (h.S :: ts.map Tm.txt) ++ ")" := by
  show ("(" : Str) ++ Str.join " " (h.S :: Tm.txts ts) ++ ")" = _
  rw [txts_map]
def Sg (l : List Nat) : Prop := ∀ c ∈ l, c ∈ tl sgS
theorem Sg.app {l k : List Nat} (h : Sg l) (g : Sg k) : Sg (l ++ k) := fun c hc => (List.mem_append.mp hc).elim (h c) (g c)
theorem sg_nums (n : Nat) : Sg (TL.numL n) := fun c hc => by
  have r := TL.numL_digits n c hc
  have all : ∀ c : Nat, c < 58 → 48 ≤ c → c ∈ tl sgS := by decide +kernel
  exact all c (by omega) r.1
theorem sg_mk {m : Str} (h : isMk m) : Sg (tl m) := fun c hc => by
  have r := h.2 c hc
  have all : ∀ c : Nat, c < 123 → ((48 ≤ c ∧ c ≤ 57) ∨ (97 ≤ c ∧ c ≤ 122)) → c ∈ tl sgS := by decide +kernel
  exact all c (by omega) r
theorem sg_hd {M n : Nat} {h : Hd} (k : h.ok M n) : Sg (tl h.S) := by
  cases h with
  | op o => cases o <;> (unfold Sg; decide +kernel)
  | call m =>
    show Sg (tl (("#" : Str) ++ m))
    rw [tl_append]
    exact Sg.app (by unfold Sg; decide +kernel) (sg_mk k.1)
  | ring p =>
    show Sg (tl (("@" : Str) ++ nt p))
    rw [tl_append, tl_nt]
    exact Sg.app (by unfold Sg; decide +kernel) (sg_nums p)
theorem sg_join : ∀ l : List (List Nat), (∀ x ∈ l, Sg x) → Sg (joinL [32] l)
  | [], _ => fun c hc => by cases hc
  | [p], h => h p (List.mem_cons_self ..)
  | p :: q :: r, h => by
    show Sg (p ++ ([32] ++ joinL [32] (q :: r)))
    exact Sg.app (h p (List.mem_cons_self ..)) (Sg.app (by unfold Sg; decide +kernel) (sg_join (q :: r) fun x hx => h x (List.mem_cons_of_mem _ hx)))
theorem sg_txt {M : Nat} : ∀ t : Tm, t.Ok M → Sg (tl t.txt) := by
  refine Tm.ind (fun n k => ?_) (fun j k => ?_) fun h ts ih k => ?_
  · show Sg (tl (nt n))
    rw [tl_nt]
    exact sg_nums n
  · cases k with
    | arg hk =>
      show Sg (tl (letter j))
      match j, hk with
      | 0, _ => unfold Sg; decide +kernel
      | 1, _ => unfold Sg; decide +kernel
      | 2, _ => unfold Sg; decide +kernel
      | 3, _ => unfold Sg; decide +kernel
      | n + 4, h => omega
  · cases k with
    | node hh hks =>
      rw [node_txt, tl_append, tl_append, tl_join, show tl (" " : Str) = [32] by decide +kernel]
      refine Sg.app (Sg.app (by unfold Sg; decide +kernel) (sg_join _ fun x hx => ?_)) (by unfold Sg; decide +kernel)
      obtain ⟨s, hs, rfl⟩ := List.mem_map.mp hx
      rcases List.mem_cons.mp hs with rfl | hs
      · exact sg_hd hh
      · obtain ⟨u, hu, rfl⟩ := List.mem_map.mp hs
        exact ih u hu (hks u hu)
end V


set_option Elab.async false
set_option linter.all false
set_option maxRecDepth 100000
set_option maxHeartbeats 4000000
namespace V
open PySem PySem.Spec PyProof.Rows L2
/-! ### the text -/
def topS (i : Nat) : Stmt := PySem.Challenge.pw_contentnames_k02_deep_size_calls_places.main.body.getD i (.Pass ⟨0, 0, 0, 0⟩)
abbrev s_parts_of : Stmt := topS 3
abbrev s_terms_of : Stmt := topS 4
abbrev s_deep_of : Stmt := topS 5
abbrev s_size_of : Stmt := topS 6
abbrev s_calls_of : Stmt := topS 7
abbrev s_places_of : Stmt := topS 8
abbrev s__law_box : Stmt := topS 10
abbrev s__law_take : Stmt := topS 11
abbrev s__law_folded : Stmt := topS 12
abbrev s__law_same : Stmt := topS 13
abbrev s__law_number : Stmt := topS 14
abbrev s__law_term : Stmt := topS 15
abbrev s__law_some_mark : Stmt := topS 16
abbrev s__law_any_term : Stmt := topS 17
abbrev s__law_spots : Stmt := topS 18
abbrev s__law_deep : Stmt := topS 19
abbrev s__law_size : Stmt := topS 20
abbrev s__law_marks : Stmt := topS 21
abbrev s__law_right : Stmt := topS 22
abbrev s_law : Stmt := topS 23
abbrev N_parts_of : List Str := ["term"]
theorem sc_parts_of : FnScope N_parts_of ["term"] (defScope s_parts_of) := ⟨rfl, rfl, rfl, by decide +kernel, rfl, by decide +kernel, by decide +kernel⟩
abbrev N_terms_of : List Str := ["term", "terms", "part"]
theorem sc_terms_of : FnScope N_terms_of ["term"] (defScope s_terms_of) := ⟨rfl, rfl, rfl, by decide +kernel, rfl, by decide +kernel, by decide +kernel⟩
abbrev N_deep_of : List Str := ["term", "part"]
theorem sc_deep_of : FnScope N_deep_of ["term"] (defScope s_deep_of) := ⟨rfl, rfl, rfl, by decide +kernel, rfl, by decide +kernel, by decide +kernel⟩
abbrev N_size_of : List Str := ["term"]
theorem sc_size_of : FnScope N_size_of ["term"] (defScope s_size_of) := ⟨rfl, rfl, rfl, by decide +kernel, rfl, by decide +kernel, by decide +kernel⟩
abbrev N_calls_of : List Str := ["term", "inner"]
theorem sc_calls_of : FnScope N_calls_of ["term"] (defScope s_calls_of) := ⟨rfl, rfl, rfl, by decide +kernel, rfl, by decide +kernel, by decide +kernel⟩
abbrev N_places_of : List Str := ["term", "inner"]
theorem sc_places_of : FnScope N_places_of ["term"] (defScope s_places_of) := ⟨rfl, rfl, rfl, by decide +kernel, rfl, by decide +kernel, by decide +kernel⟩
abbrev N__law_box : List Str := ["script", "k", "cell"]
theorem sc__law_box : FnScope N__law_box ["script", "k"] (defScope s__law_box) := ⟨rfl, rfl, rfl, by decide +kernel, rfl, by decide +kernel, by decide +kernel⟩
abbrev N__law_take : List Str := ["box", "size", "found", "step", "once", "twice"]
theorem sc__law_take : FnScope N__law_take ["box", "size"] (defScope s__law_take) := ⟨rfl, rfl, rfl, by decide +kernel, rfl, by decide +kernel, by decide +kernel⟩
abbrev N__law_folded : List Str := ["script", "size", "cells", "k", "cell"]
theorem sc__law_folded : FnScope N__law_folded ["script", "size"] (defScope s__law_folded) := ⟨rfl, rfl, rfl, by decide +kernel, rfl, by decide +kernel, by decide +kernel⟩
abbrev N__law_same : List Str := ["found", "due", "one", "other"]
theorem sc__law_same : FnScope N__law_same ["found", "due"] (defScope s__law_same) := ⟨rfl, rfl, rfl, by decide +kernel, rfl, by decide +kernel, by decide +kernel⟩
abbrev N__law_number : List Str := ["box"]
theorem sc__law_number : FnScope N__law_number ["box"] (defScope s__law_number) := ⟨rfl, rfl, rfl, by decide +kernel, rfl, by decide +kernel, by decide +kernel⟩
abbrev N__law_term : List Str := ["box", "many", "heads", "tall", "way", "op", "one", "other", "head", "size", "parts", "turn"]
theorem sc__law_term : FnScope N__law_term ["box", "many", "heads", "tall"] (defScope s__law_term) := ⟨rfl, rfl, rfl, by decide +kernel, rfl, by decide +kernel, by decide +kernel⟩
abbrev N__law_some_mark : List Str := ["box", "signs", "mode", "turn"]
theorem sc__law_some_mark : FnScope N__law_some_mark ["box"] (defScope s__law_some_mark) := ⟨rfl, rfl, rfl, by decide +kernel, rfl, by decide +kernel, by decide +kernel⟩
abbrev N__law_any_term : List Str := ["box", "heads", "term", "turn", "leaf", "mode", "head", "some", "op"]
theorem sc__law_any_term : FnScope N__law_any_term ["box"] (defScope s__law_any_term) := ⟨rfl, rfl, rfl, by decide +kernel, rfl, by decide +kernel, by decide +kernel⟩
abbrev N__law_spots : List Str := ["term", "found", "parts", "one"]
theorem sc__law_spots : FnScope N__law_spots ["term"] (defScope s__law_spots) := ⟨rfl, rfl, rfl, by decide +kernel, rfl, by decide +kernel, by decide +kernel⟩
abbrev N__law_deep : List Str := ["term", "parts", "part"]
theorem sc__law_deep : FnScope N__law_deep ["term"] (defScope s__law_deep) := ⟨rfl, rfl, rfl, by decide +kernel, rfl, by decide +kernel, by decide +kernel⟩
abbrev N__law_size : List Str := ["term", "part"]
theorem sc__law_size : FnScope N__law_size ["term"] (defScope s__law_size) := ⟨rfl, rfl, rfl, by decide +kernel, rfl, by decide +kernel, by decide +kernel⟩
abbrev N__law_marks : List Str := ["term", "found", "part"]
theorem sc__law_marks : FnScope N__law_marks ["term"] (defScope s__law_marks) := ⟨rfl, rfl, rfl, by decide +kernel, rfl, by decide +kernel, by decide +kernel⟩
abbrev N__law_right : List Str := ["box", "term", "other", "mark", "some", "wider", "kept", "due", "turn", "told"]
theorem sc__law_right : FnScope N__law_right ["box"] (defScope s__law_right) := ⟨rfl, rfl, rfl, by decide +kernel, rfl, by decide +kernel, by decide +kernel⟩
abbrev N_law : List Str := ["script", "cells", "k", "box", "turn"]
theorem sc_law : FnScope N_law ["script"] (defScope s_law) := ⟨rfl, rfl, rfl, by decide +kernel, rfl, by decide +kernel, by decide +kernel⟩
/-! ### the head -/
def d_parts_of : He.DefD := ⟨("parts_of", none), "parts_of", "parts_of", defArgs s_parts_of, defBody s_parts_of, defScope s_parts_of, [], []⟩
def d_terms_of : He.DefD := ⟨("terms_of", none), "terms_of", "terms_of", defArgs s_terms_of, defBody s_terms_of, defScope s_terms_of, [], []⟩
def d_deep_of : He.DefD := ⟨("deep_of", none), "deep_of", "deep_of", defArgs s_deep_of, defBody s_deep_of, defScope s_deep_of, [], []⟩
def d_size_of : He.DefD := ⟨("size_of", none), "size_of", "size_of", defArgs s_size_of, defBody s_size_of, defScope s_size_of, [], []⟩
def d_calls_of : He.DefD := ⟨("calls_of", none), "calls_of", "calls_of", defArgs s_calls_of, defBody s_calls_of, defScope s_calls_of, [], []⟩
def d_places_of : He.DefD := ⟨("places_of", none), "places_of", "places_of", defArgs s_places_of, defBody s_places_of, defScope s_places_of, [], []⟩
def d__law_box : He.DefD := ⟨("_law_box", none), "_law_box", "_law_box", defArgs s__law_box, defBody s__law_box, defScope s__law_box, [], []⟩
def d__law_take : He.DefD := ⟨("_law_take", none), "_law_take", "_law_take", defArgs s__law_take, defBody s__law_take, defScope s__law_take, [], []⟩
def d__law_folded : He.DefD := ⟨("_law_folded", none), "_law_folded", "_law_folded", defArgs s__law_folded, defBody s__law_folded, defScope s__law_folded, [], []⟩
def d__law_same : He.DefD := ⟨("_law_same", none), "_law_same", "_law_same", defArgs s__law_same, defBody s__law_same, defScope s__law_same, [], []⟩
def d__law_number : He.DefD := ⟨("_law_number", none), "_law_number", "_law_number", defArgs s__law_number, defBody s__law_number, defScope s__law_number, [], []⟩
def d__law_term : He.DefD := ⟨("_law_term", none), "_law_term", "_law_term", defArgs s__law_term, defBody s__law_term, defScope s__law_term, [], []⟩
def d__law_some_mark : He.DefD := ⟨("_law_some_mark", none), "_law_some_mark", "_law_some_mark", defArgs s__law_some_mark, defBody s__law_some_mark, defScope s__law_some_mark, [], []⟩
def d__law_any_term : He.DefD := ⟨("_law_any_term", none), "_law_any_term", "_law_any_term", defArgs s__law_any_term, defBody s__law_any_term, defScope s__law_any_term, [], []⟩
def d__law_spots : He.DefD := ⟨("_law_spots", none), "_law_spots", "_law_spots", defArgs s__law_spots, defBody s__law_spots, defScope s__law_spots, [], []⟩
def d__law_deep : He.DefD := ⟨("_law_deep", none), "_law_deep", "_law_deep", defArgs s__law_deep, defBody s__law_deep, defScope s__law_deep, [], []⟩
def d__law_size : He.DefD := ⟨("_law_size", none), "_law_size", "_law_size", defArgs s__law_size, defBody s__law_size, defScope s__law_size, [], []⟩
def d__law_marks : He.DefD := ⟨("_law_marks", none), "_law_marks", "_law_marks", defArgs s__law_marks, defBody s__law_marks, defScope s__law_marks, [], []⟩
def d__law_right : He.DefD := ⟨("_law_right", none), "_law_right", "_law_right", defArgs s__law_right, defBody s__law_right, defScope s__law_right, [], []⟩
def d_law : He.DefD := ⟨("law", none), "law", "law", defArgs s_law, defBody s_law, defScope s_law, [], []⟩
def fn : List He.DefD := ([d_parts_of, d_terms_of, d_deep_of, d_size_of, d_calls_of, d_places_of, d__law_box, d__law_take, d__law_folded, d__law_same, d__law_number, d__law_term, d__law_some_mark, d__law_any_term, d__law_spots, d__law_deep, d__law_size, d__law_marks, d__law_right, d_law] : List He.DefD)
def fa : List He.Fa := ([.glo "parts_of", .glo "terms_of", .glo "deep_of", .glo "size_of", .glo "calls_of", .glo "places_of", .glo "_law_box", .glo "_law_take", .glo "_law_folded", .glo "_law_same", .glo "_law_number", .glo "_law_term", .glo "_law_some_mark", .glo "_law_any_term", .glo "_law_spots", .glo "_law_deep", .glo "_law_size", .glo "_law_marks", .glo "_law_right", .glo "law"] : List He.Fa) ++ ([.free "max", .free "len", .free "sorted", .free "abs", .free "int", .free "divmod", .free "list", .free "enumerate", .free "isinstance", .free "tuple", .free "str", .free "all", .free "bool", .free "zip", .free "range", .free "sum", .free "repr", .free "set", .glo "OPERATIONS", .glo "CALLS"] : List He.Fa)
def tabs : List He.Tab := [(fun K => He.ga K "OPERATIONS", ["add", "less", "times", "under", "if"])]
def ex (K : PySem.W.Frag) : Bool := He.valsB K (He.ga K "OPERATIONS") [("add", .int 2), ("less", .int 2), ("times", .int 2), ("under", .int 2), ("if", .int 3)] && He.tupB K "CALLS" [.str "call", .str "ring", .str "name"] && tupN K "CALLS"
abbrev R : PySem.W.OpenRow := PySem.W.OpenLaw.row PySem.Challenge.rw_contentnames_k02_deep_size_calls_places
abbrev hk : PySem.W.Hook := He.hookX 6 fa fn tabs [] ex
def ob (s : PySem.W.SharedT) : He.AlX := He.obsX 6 fa fn tabs [] ex (HandSHeadRun.getT s)
theorem ob_eq (s : PySem.W.SharedT) : ob s = hk.obs s.abs := He.obsX_eq (HandSHeadRun.getT_eq s)
def loose : List Str := (["OPERATIONS", "CALLS", "parts_of", "terms_of", "deep_of", "size_of", "calls_of", "places_of", "_law_box", "_law_take", "_law_folded", "_law_same", "_law_number", "_law_term", "_law_some_mark", "_law_any_term", "_law_spots", "_law_deep", "_law_size", "_law_marks"] : List Str) ++ (["_law_right"] : List Str)
set_option maxHeartbeats 0 in
theorem run (w : World) : HandSHeadRun.RunEq R (PySem.W.view R.prog [23]) hk ob 6000 loose w :=
  PySem.W.byRow2 "special-get-raises" (P := fun w => HandSHeadRun.RunEq R (PySem.W.view R.prog [23]) hk ob 6000 loose w) (fun w os => by kernel_rfl) (fun w os => by kernel_rfl) w
/-! ### what the top has left, by names -/
structure Txt (K : PySem.W.Frag) (w : World) (mg : Str → Option Value) : Prop where
  D_parts_of : Def K mg "parts_of" s_parts_of ["term"]
  D_terms_of : Def K mg "terms_of" s_terms_of ["term"]
  D_deep_of : Def K mg "deep_of" s_deep_of ["term"]
  D_size_of : Def K mg "size_of" s_size_of ["term"]
  D_calls_of : Def K mg "calls_of" s_calls_of ["term"]
  D_places_of : Def K mg "places_of" s_places_of ["term"]
  D__law_box : Def K mg "_law_box" s__law_box ["script", "k"]
  D__law_take : Def K mg "_law_take" s__law_take ["box", "size"]
  D__law_folded : Def K mg "_law_folded" s__law_folded ["script", "size"]
  D__law_same : Def K mg "_law_same" s__law_same ["found", "due"]
  D__law_number : Def K mg "_law_number" s__law_number ["box"]
  D__law_term : Def K mg "_law_term" s__law_term ["box", "many", "heads", "tall"]
  D__law_some_mark : Def K mg "_law_some_mark" s__law_some_mark ["box"]
  D__law_any_term : Def K mg "_law_any_term" s__law_any_term ["box"]
  D__law_spots : Def K mg "_law_spots" s__law_spots ["term"]
  D__law_deep : Def K mg "_law_deep" s__law_deep ["term"]
  D__law_size : Def K mg "_law_size" s__law_size ["term"]
  D__law_marks : Def K mg "_law_marks" s__law_marks ["term"]
  D__law_right : Def K mg "_law_right" s__law_right ["box"]
  D_law : Def K mg "law" s_law ["script"]
  z_max : mg "max" = none
  z_len : mg "len" = none
  z_sorted : mg "sorted" = none
  z_abs : mg "abs" = none
  z_int : mg "int" = none
  z_divmod : mg "divmod" = none
  z_list : mg "list" = none
  z_enumerate : mg "enumerate" = none
  z_isinstance : mg "isinstance" = none
  z_tuple : mg "tuple" = none
  z_str : mg "str" = none
  z_all : mg "all" = none
  z_bool : mg "bool" = none
  z_zip : mg "zip" = none
  z_range : mg "range" = none
  z_sum : mg "sum" = none
  z_repr : mg "repr" = none
  z_set : mg "set" = none
  O : Ops K w mg
  g_CALLS : ∃ a, mg "CALLS" = some (.ref a) ∧ ∀ H, SqT K H a [.str "call", .str "ring", .str "name"]
  y_CALLS : ∃ a, mg "CALLS" = some (.ref a) ∧ ∃ o, K.lookup a = some o ∧ o.cls = .type "tuple" ∧ o.dict = none
theorem txt_of {K : PySem.W.Frag} {w : World} {mg : Str → Option Value} {h h0 : Heap} (X : K.In h) (G : h.Ns mainGlobals mg) (c : He.SaysX fa fn tabs [] ex w h0 K) : Txt K w mg := by
  have m : ex K = true := c.more
  unfold ex at m
  simp only [Bool.and_eq_true] at m
  obtain ⟨⟨x0, x1⟩, x2⟩ := m
  exact {
    D_parts_of := by
      obtain ⟨fd, F⟩ := c.t.d.def_ 0 (d := d_parts_of) rfl
      exact ⟨_, fd, F, He.glo_ok X G (c.t.d.fact 0 (f := .glo "parts_of") rfl), F.bindsN fun _ _ _ _ _ _ us hl => match us, hl with | [_], _ => rfl⟩
    D_terms_of := by
      obtain ⟨fd, F⟩ := c.t.d.def_ 1 (d := d_terms_of) rfl
      exact ⟨_, fd, F, He.glo_ok X G (c.t.d.fact 1 (f := .glo "terms_of") rfl), F.bindsN fun _ _ _ _ _ _ us hl => match us, hl with | [_], _ => rfl⟩
    D_deep_of := by
      obtain ⟨fd, F⟩ := c.t.d.def_ 2 (d := d_deep_of) rfl
      exact ⟨_, fd, F, He.glo_ok X G (c.t.d.fact 2 (f := .glo "deep_of") rfl), F.bindsN fun _ _ _ _ _ _ us hl => match us, hl with | [_], _ => rfl⟩
    D_size_of := by
      obtain ⟨fd, F⟩ := c.t.d.def_ 3 (d := d_size_of) rfl
      exact ⟨_, fd, F, He.glo_ok X G (c.t.d.fact 3 (f := .glo "size_of") rfl), F.bindsN fun _ _ _ _ _ _ us hl => match us, hl with | [_], _ => rfl⟩
    D_calls_of := by
      obtain ⟨fd, F⟩ := c.t.d.def_ 4 (d := d_calls_of) rfl
      exact ⟨_, fd, F, He.glo_ok X G (c.t.d.fact 4 (f := .glo "calls_of") rfl), F.bindsN fun _ _ _ _ _ _ us hl => match us, hl with | [_], _ => rfl⟩
    D_places_of := by
      obtain ⟨fd, F⟩ := c.t.d.def_ 5 (d := d_places_of) rfl
      exact ⟨_, fd, F, He.glo_ok X G (c.t.d.fact 5 (f := .glo "places_of") rfl), F.bindsN fun _ _ _ _ _ _ us hl => match us, hl with | [_], _ => rfl⟩
    D__law_box := by
      obtain ⟨fd, F⟩ := c.t.d.def_ 6 (d := d__law_box) rfl
      exact ⟨_, fd, F, He.glo_ok X G (c.t.d.fact 6 (f := .glo "_law_box") rfl), F.bindsN fun _ _ _ _ _ _ us hl => match us, hl with | [_, _], _ => rfl⟩
    D__law_take := by
      obtain ⟨fd, F⟩ := c.t.d.def_ 7 (d := d__law_take) rfl
      exact ⟨_, fd, F, He.glo_ok X G (c.t.d.fact 7 (f := .glo "_law_take") rfl), F.bindsN fun _ _ _ _ _ _ us hl => match us, hl with | [_, _], _ => rfl⟩
    D__law_folded := by
      obtain ⟨fd, F⟩ := c.t.d.def_ 8 (d := d__law_folded) rfl
      exact ⟨_, fd, F, He.glo_ok X G (c.t.d.fact 8 (f := .glo "_law_folded") rfl), F.bindsN fun _ _ _ _ _ _ us hl => match us, hl with | [_, _], _ => rfl⟩
    D__law_same := by
      obtain ⟨fd, F⟩ := c.t.d.def_ 9 (d := d__law_same) rfl
      exact ⟨_, fd, F, He.glo_ok X G (c.t.d.fact 9 (f := .glo "_law_same") rfl), F.bindsN fun _ _ _ _ _ _ us hl => match us, hl with | [_, _], _ => rfl⟩
    D__law_number := by
      obtain ⟨fd, F⟩ := c.t.d.def_ 10 (d := d__law_number) rfl
      exact ⟨_, fd, F, He.glo_ok X G (c.t.d.fact 10 (f := .glo "_law_number") rfl), F.bindsN fun _ _ _ _ _ _ us hl => match us, hl with | [_], _ => rfl⟩
    D__law_term := by
      obtain ⟨fd, F⟩ := c.t.d.def_ 11 (d := d__law_term) rfl
      exact ⟨_, fd, F, He.glo_ok X G (c.t.d.fact 11 (f := .glo "_law_term") rfl), F.bindsN fun _ _ _ _ _ _ us hl => match us, hl with | [_, _, _, _], _ => rfl⟩
    D__law_some_mark := by
      obtain ⟨fd, F⟩ := c.t.d.def_ 12 (d := d__law_some_mark) rfl
      exact ⟨_, fd, F, He.glo_ok X G (c.t.d.fact 12 (f := .glo "_law_some_mark") rfl), F.bindsN fun _ _ _ _ _ _ us hl => match us, hl with | [_], _ => rfl⟩
    D__law_any_term := by
      obtain ⟨fd, F⟩ := c.t.d.def_ 13 (d := d__law_any_term) rfl
      exact ⟨_, fd, F, He.glo_ok X G (c.t.d.fact 13 (f := .glo "_law_any_term") rfl), F.bindsN fun _ _ _ _ _ _ us hl => match us, hl with | [_], _ => rfl⟩
    D__law_spots := by
      obtain ⟨fd, F⟩ := c.t.d.def_ 14 (d := d__law_spots) rfl
      exact ⟨_, fd, F, He.glo_ok X G (c.t.d.fact 14 (f := .glo "_law_spots") rfl), F.bindsN fun _ _ _ _ _ _ us hl => match us, hl with | [_], _ => rfl⟩
    D__law_deep := by
      obtain ⟨fd, F⟩ := c.t.d.def_ 15 (d := d__law_deep) rfl
      exact ⟨_, fd, F, He.glo_ok X G (c.t.d.fact 15 (f := .glo "_law_deep") rfl), F.bindsN fun _ _ _ _ _ _ us hl => match us, hl with | [_], _ => rfl⟩
    D__law_size := by
      obtain ⟨fd, F⟩ := c.t.d.def_ 16 (d := d__law_size) rfl
      exact ⟨_, fd, F, He.glo_ok X G (c.t.d.fact 16 (f := .glo "_law_size") rfl), F.bindsN fun _ _ _ _ _ _ us hl => match us, hl with | [_], _ => rfl⟩
    D__law_marks := by
      obtain ⟨fd, F⟩ := c.t.d.def_ 17 (d := d__law_marks) rfl
      exact ⟨_, fd, F, He.glo_ok X G (c.t.d.fact 17 (f := .glo "_law_marks") rfl), F.bindsN fun _ _ _ _ _ _ us hl => match us, hl with | [_], _ => rfl⟩
    D__law_right := by
      obtain ⟨fd, F⟩ := c.t.d.def_ 18 (d := d__law_right) rfl
      exact ⟨_, fd, F, He.glo_ok X G (c.t.d.fact 18 (f := .glo "_law_right") rfl), F.bindsN fun _ _ _ _ _ _ us hl => match us, hl with | [_], _ => rfl⟩
    D_law := by
      obtain ⟨fd, F⟩ := c.t.d.def_ 19 (d := d_law) rfl
      exact ⟨_, fd, F, He.glo_ok X G (c.t.d.fact 19 (f := .glo "law") rfl), F.bindsN fun _ _ _ _ _ _ us hl => match us, hl with | [_], _ => rfl⟩
    z_max := He.free_ok X G (c.t.d.fact 20 (f := .free "max") rfl)
    z_len := He.free_ok X G (c.t.d.fact 21 (f := .free "len") rfl)
    z_sorted := He.free_ok X G (c.t.d.fact 22 (f := .free "sorted") rfl)
    z_abs := He.free_ok X G (c.t.d.fact 23 (f := .free "abs") rfl)
    z_int := He.free_ok X G (c.t.d.fact 24 (f := .free "int") rfl)
    z_divmod := He.free_ok X G (c.t.d.fact 25 (f := .free "divmod") rfl)
    z_list := He.free_ok X G (c.t.d.fact 26 (f := .free "list") rfl)
    z_enumerate := He.free_ok X G (c.t.d.fact 27 (f := .free "enumerate") rfl)
    z_isinstance := He.free_ok X G (c.t.d.fact 28 (f := .free "isinstance") rfl)
    z_tuple := He.free_ok X G (c.t.d.fact 29 (f := .free "tuple") rfl)
    z_str := He.free_ok X G (c.t.d.fact 30 (f := .free "str") rfl)
    z_all := He.free_ok X G (c.t.d.fact 31 (f := .free "all") rfl)
    z_bool := He.free_ok X G (c.t.d.fact 32 (f := .free "bool") rfl)
    z_zip := He.free_ok X G (c.t.d.fact 33 (f := .free "zip") rfl)
    z_range := He.free_ok X G (c.t.d.fact 34 (f := .free "range") rfl)
    z_sum := He.free_ok X G (c.t.d.fact 35 (f := .free "sum") rfl)
    z_repr := He.free_ok X G (c.t.d.fact 36 (f := .free "repr") rfl)
    z_set := He.free_ok X G (c.t.d.fact 37 (f := .free "set") rfl)
    O := by
      obtain ⟨es, n, KD⟩ := c.t.tab 0 (t := (fun K => He.ga K "OPERATIONS", opWords)) rfl
      have e1 : tabs.map (fun t => He.dicW K (t.1 K)) = tabs.map fun t => some (He.keysIn w.params t.2) := congrArg (fun z : He.AlT => z.2) c.t
      have e2 : He.dicW K (He.ga K "OPERATIONS") = some (He.keysIn w.params opWords) := congrArg (fun l => l.getD 0 none) e1
      refine ⟨_, es, n, He.glo_ok X G (c.t.d.fact 38 (f := .glo "OPERATIONS") rfl), KD, fun z => isSome_mem e2 z, fun o => ?_⟩
      cases o
      · exact He.valsB_ok x0 (q := ("add", .int 2)) (by simp)
      · exact He.valsB_ok x0 (q := ("less", .int 2)) (by simp)
      · exact He.valsB_ok x0 (q := ("times", .int 2)) (by simp)
      · exact He.valsB_ok x0 (q := ("under", .int 2)) (by simp)
      · exact He.valsB_ok x0 (q := ("if", .int 3)) (by simp)
    g_CALLS := ⟨_, He.glo_ok X G (c.t.d.fact 39 (f := .glo "CALLS") rfl), fun H => He.tupB_ok (vs := [.str "call", .str "ring", .str "name"]) x1 H⟩
    y_CALLS := ⟨_, He.glo_ok X G (c.t.d.fact 39 (f := .glo "CALLS") rfl), tupN_ok x2⟩
  }

end V


set_option Elab.async false
set_option linter.all false
set_option maxRecDepth 100000
set_option maxHeartbeats 400000
namespace V
open PySem PySem.Spec PyProof.Rows L2 Evl TL NumText
def rInT (K : PySem.W.Frag) (i : Nat) (x y : Str) : TT := tTest (tOp (rIn K false) (tOp (rIxT K) (tVar i) (tC (.int 0))) (tTup (tCons (tC (.str x)) (tCons (tC (.str y)) tNil))))
/-- is the word of the term one of these? -/
theorem word_in {K : PySem.W.Frag} {i : Nat} {x y : Str} {σ : L2.St} {H : Hp} {Q : Bool → Hp → Prop} {v : V} {t : Tm} (hv : σ[i]? = some (some v)) (g : TmAt H v t) (q : ∀ H', Ex H H' → Q (inV (.str t.word) [.str x, .str y]) H') : rInT K i x y σ H Q := by
  obtain ⟨a, r, rfl, ha⟩ := g.head
  refine ⟨_, hv, a, _, 0, _, rfl, rfl, SqT.of ha, at0, sz 2, fun p1 hp1 => ⟨p1, _, rfl, .inr (SqT.of upd_same), rfl, rfl, _, rfl, ?_⟩⟩
  rw [if_neg (by decide)]
  exact q _ (Ex.new hp1)
def tParts (K : PySem.W.Frag) (i : Nat) : TE := tIf (rInT K i "call" "ring") (tOp (rIxT K) (tVar i) (tC (.int 2))) (tSl (rSlA K) (tVar i) (tPart (tC (.int 1))) tNoPart)
/-- the parts of a term, by this law's own words -/
theorem parts_go {K : PySem.W.Frag} {i : Nat} {σ : L2.St} {H : Hp} {Q : VK} {v : V} {h : Hd} {ts : List Tm} (hv : σ[i]? = some (some v)) (g : TmAt H v (.node h ts)) (ne : h.notOp = true ∨ ts ≠ [] ∨ True)
    (q : ∀ (H' : Hp) (p : Addr) (ws : List V), Ex H H' → H' p = some (.tup ws) → TmsAt H' ws ts → Q (.ref p) H') : tParts K i σ H Q := by
  refine word_in hv g fun H1 e1 => ?_
  rw [word_call]
  cases g with
  | @op a o ws _ hh hs =>
    refine iteF ⟨_, hv, 1, rfl, a, _, rfl, SqT.of (e1 _ _ hh), fun z => ?_, fun _ p hp => ?_⟩
    · have z1 : HT.sIx (V.str o.str :: ws).length 0 (some ((1 : Nat) : Int)) = 0 := z.1
      rw [HT.sIx_nat, List.length_cons] at z1
      omega
    · rw [cut_tail]
      exact q _ p ws (e1.trans (Ex.new hp)) upd_same (hs.ex (e1.trans (Ex.new hp)))
  | @call a b m ws _ hh h2 hs => exact iteT ⟨_, hv, a, _, 2, _, rfl, rfl, SqT.of (e1 _ _ hh), rfl, q _ b ws e1 (e1 _ _ h2) (hs.ex e1)⟩
  | @ring a b m ws _ hh h2 hs => exact iteT ⟨_, hv, a, _, 2, _, rfl, rfl, SqT.of (e1 _ _ hh), rfl, q _ b ws e1 (e1 _ _ h2) (hs.ex e1)⟩
/-- the marks of a term, as they stand -/
def spMarksL (n : Nat) : Sp := fun vs H Q _ => ∃ (v : V) (t : Tm) (M : Nat), vs = [v] ∧ TmAt H v t ∧ t.Ok M ∧ t.deep ≤ n ∧ t.size ≤ 1000 ∧ ∀ (H' : Hp) (p : Addr), H p = none → Ex H H' → H' p = some (.lst (t.marks.map V.str)) → Q (.ref p) H'
theorem mks_leaf {t : Tm} (h : ∀ hd ts, t ≠ .node hd ts) : t.marks = [] ∧ t.places = [] ∧ t.size = 1 := by
  cases t with
  | num n => exact ⟨rfl, rfl, rfl⟩
  | arg n => exact ⟨rfl, rfl, rfl⟩
  | node hd ts => exact absurd rfl (h hd ts)
theorem line2 {n : Nat} (h : n ≤ 1000000) : n ≤ sizeLine := by
  have big : sizeLine = 16777216 := sizeLine_eq
  omega
theorem flat_leS {f : Tm → List Str} (hf : ∀ t, (f t).length ≤ t.size) (ts : List Tm) : (ts.flatMap f).length ≤ Tm.sizes ts := by
  induction ts with
  | nil => exact Nat.le_refl _
  | cons t ts ih =>
    rw [List.flatMap_cons, List.length_append]
    have := hf t
    show _ ≤ t.size + Tm.sizes ts
    omega
theorem flat_leN {f : Tm → List Nat} (hf : ∀ t, (f t).length ≤ t.size) (ts : List Tm) : (ts.flatMap f).length ≤ Tm.sizes ts := by
  induction ts with
  | nil => exact Nat.le_refl _
  | cons t ts ih =>
    rw [List.flatMap_cons, List.length_append]
    have := hf t
    show _ ≤ t.size + Tm.sizes ts
    omega
theorem ms_le (h : Hd) : h.ms.length ≤ 1 := by cases h <;> first | exact Nat.le_refl 1 | exact Nat.zero_le 1
theorem ps_le (h : Hd) : h.ps.length ≤ 1 := by cases h <;> first | exact Nat.le_refl 1 | exact Nat.zero_le 1
theorem sum_size (ts : List Tm) : ((ts.map fun t => (t.size : Int))).sum = (Tm.sizes ts : Int) := by
  induction ts with
  | nil => rfl
  | cons t ts ih =>
    rw [List.map_cons, List.sum_cons, ih]
    show (t.size : Int) + (Tm.sizes ts : Int) = ((t.size + Tm.sizes ts : Nat) : Int)
    omega
theorem word_is_call (h : Hd) (ts : List Tm) : decide ((Tm.node h ts).word = "call") = (match h with | .call _ => true | _ => false) := by
  cases h with
  | op o => show decide (o.str = "call") = false; cases o <;> decide +kernel
  | call m => exact decide_eq_true rfl
  | ring p => show decide (("ring" : Str) = "call") = false; decide +kernel
theorem word_is_ring (h : Hd) (ts : List Tm) : decide ((Tm.node h ts).word = "ring") = (match h with | .ring _ => true | _ => false) := by
  cases h with
  | op o => show decide (o.str = "ring") = false; cases o <;> decide +kernel
  | ring m => exact decide_eq_true rfl
  | call p => show decide (("call" : Str) = "ring") = false; decide +kernel
section
variable {P : Program} {w : World} {K : PySem.W.Frag} {mg : Str → Option Value} {base : Heap}
theorem ok_lawSize (T : Txt K w mg) : ∀ n : Nat, Cal P w K mg base (n + 1) "_law_size" ["term"] (spSize n)
  | 0 => (T.D__law_size.never fun vs H Q E h => by
      obtain ⟨v, t, M, _, _, _, h1, _⟩ := h
      have := deep_pos t
      omega).mono (Nat.zero_le _)
  | n + 1 => by
    have G__law_size := ok_lawSize T n
    refine T.D__law_size.cal sc__law_size (fun vs H Q E h => ?_) (fun f cdv A outer s H vs Q E hr h => ?_)
    · obtain ⟨v, t, M, rfl, _⟩ := h
      rfl
    obtain ⟨v, t, M, rfl, hT, hO, hd, hz, q⟩ := h
    refine ⟨_, (pss_cons (ps_if (pt_cmpR op_in_seq (pe_ix (r := rIxT K) ix_tup (pv 0) pe_int (fun _ _ => rfl)) (pe_tup (pa_cons pe_str (pa_cons pe_str pa_nil))) rfl)
    (pss_one (ps_ret pe_int))
    pss_nil)
  (pss_one (ps_ret (pe_op op_add pe_int (pe_bi (cr_sum rfl) T.z_sum (pa_cons (pe_lc (own := [("part", 1)]) (g := (gName 1)) (tt := tYes) rfl sc__law_size.nd (pi_tup (pe_ifExp (pt_cmpR op_in_seq (pe_ix (r := rIxT K) ix_tup (pv 0) pe_int (fun _ _ => rfl)) (pe_tup (pa_cons pe_str (pa_cons pe_str pa_nil))) rfl) (pe_ix (r := rIxT K) ix_tup (pv 0) pe_int (fun _ _ => rfl)) (pe_slice sl_tupA (pv 0) (po_some pe_int) po_none))) (blkOk_by (N := N__law_size) (sc := defScope s__law_size) (by decide +kernel)) (fun _ _ _ _ _ => (pg_name (i := 1) sc__law_size.nd rfl (.inl rfl))) (fun _ _ _ _ _ => pts_nil) (fun _ _ _ _ _ => (pe_fn G__law_size hr (by omega) (pa_cons (pv 1) pa_nil)))) pa_nil)))))), ?_⟩
    refine word_in (v := v) rfl hT fun H1 e1 => ?_
    by_cases leaf : ∀ hd ts, t ≠ .node hd ts
    · rw [word_leaf leaf]
      have q1 := q _ e1
      rw [(mks_leaf leaf).2.2] at q1
      exact iteT q1
    obtain ⟨h, ts, rfl⟩ : ∃ h ts, t = .node h ts := by
      cases t with
      | node h ts => exact ⟨h, ts, rfl⟩
      | num n => exact absurd (fun h ts z => by cases z) leaf
      | arg n => exact absurd (fun h ts z => by cases z) leaf
    rw [word_node]
    refine iteF (parts_go (v := v) rfl (hT.ex e1) (.inr (.inr trivial)) fun H2 p ws e2 hp hws => ⟨p, rfl, ⟨_, SqT.of hp⟩, fun Dl hD => ?_⟩)
    have nz : (Tm.node h ts).size = 1 + Tm.sizes ts := rfl
    have f4 := hO.few
    have f4' : ts.length ≤ 4 := f4
    refine lc_tup (xs := ws) (fun i H3 => Ex H2 H3 ∧ H3 Dl = some (.lst (((ts.take i).map fun u => (u.size : Int)).map V.int))) ⟨Ex.new hD, upd_same⟩ (fun i H3 _ k => SqT.of (k.1 p _ hp)) ?_ ?_
    · rintro i x H3 hi ⟨e3, h3⟩
      obtain ⟨u, hu, hxu⟩ := hws.get hi
      have hum := get_mem hu
      have z1 := size_mem hum
      have d1 : u.deep + 1 ≤ (Tm.node h ts).deep := parts_deep (t := .node h ts) hum
      refine ⟨rfl, yes ⟨_, rfl, x, u, M, rfl, hxu.ex e3, hO.parts hum, by omega, by omega, fun H4 e4 => ⟨_, e4 Dl _ h3, ?_, Ex.mut (e3.trans e4) hD, ?_⟩⟩⟩
      · rw [List.length_map, List.length_map, List.length_take]
        exact small1000 (by omega)
      · rw [upd_same, take_more hu, List.map_append, List.map_append]
        rfl
    · rintro H3 ⟨e3, h3⟩
      rw [hws.length, List.take_length] at h3
      refine ⟨Dl, _, rfl, SqL.of h3, _, _, rfl, rfl, ?_⟩
      have q1 := q _ (e1.trans (e2.trans e3))
      show Q (.int (1 + (ts.map fun u => (u.size : Int)).sum)) H3
      rw [sum_size, show (1 : Int) + (Tm.sizes ts : Int) = ((Tm.node h ts).size : Int) by omega]
      exact q1
theorem ok_lawMarks (T : Txt K w mg) : ∀ n : Nat, Cal P w K mg base (n + 1) "_law_marks" ["term"] (spMarksL n)
  | 0 => (T.D__law_marks.never fun vs H Q E h => by
      obtain ⟨v, t, M, _, _, _, h1, _⟩ := h
      have := deep_pos t
      omega).mono (Nat.zero_le _)
  | n + 1 => by
    have G__law_marks := ok_lawMarks T n
    refine T.D__law_marks.cal sc__law_marks (fun vs H Q E h => ?_) (fun f cdv A outer s H vs Q E hr h => ?_)
    · obtain ⟨v, t, M, rfl, _⟩ := h
      rfl
    obtain ⟨v, t, M, rfl, hT, hO, hd, hz, q⟩ := h
    refine ⟨_, (pss_cons (ps_if (pt_cmpR op_in_seq (pe_ix (r := rIxT K) ix_tup (pv 0) pe_int (fun _ _ => rfl)) (pe_tup (pa_cons pe_str (pa_cons pe_str pa_nil))) rfl)
    (pss_one (ps_ret (pe_lst pa_nil)))
    pss_nil)
  (pss_cons (ps_set (i := 1) sc__law_marks.nd rfl (.inl rfl) (pe_ifExp (pt_cmpR op_eq (pe_ix (r := rIxT K) ix_tup (pv 0) pe_int (fun _ _ => rfl)) pe_str (nomark _)) (pe_lst (pa_cons (pe_ix (r := rIxT K) ix_tup (pv 0) pe_int (fun _ _ => rfl)) pa_nil)) (pe_lst pa_nil)))
  (pss_cons (ps_for PassesOwn.never rfl (pi_tup (pe_ifExp (pt_cmpR op_in_seq (pe_ix (r := rIxT K) ix_tup (pv 0) pe_int (fun _ _ => rfl)) (pe_tup (pa_cons pe_str (pa_cons pe_str pa_nil))) rfl) (pe_ix (r := rIxT K) ix_tup (pv 0) pe_int (fun _ _ => rfl)) (pe_slice sl_tupA (pv 0) (po_some pe_int) po_none))) (pg_name (i := 2) sc__law_marks.nd rfl (.inl rfl))
    (pss_one (ps_set (i := 1) sc__law_marks.nd rfl (.inl rfl) (pe_op op_cat (pv 1) (pe_fn G__law_marks hr (by omega) (pa_cons (pv 2) pa_nil))))))
  (pss_one (ps_ret (pv 1)))))), ?_⟩
    let A0 : L2.St → Hp → Prop := fun σ H' => σ = [some v, none, none] ∧ H' = H
    let A1 : L2.St → Hp → Prop := fun σ H' => σ = [some v, none, none] ∧ Ex H H' ∧ ∃ h ts, t = .node h ts
    let A2 : L2.St → Hp → Prop := fun σ H' => ∃ (p : Addr) (h : Hd) (ts : List Tm), σ = [some v, some (.ref p), none] ∧ Ex H H' ∧ t = .node h ts ∧ H p = none ∧ H' p = some (.lst (h.ms.map V.str))
    let A3 : L2.St → Hp → Prop := fun σ H' => ∃ (p : Addr) (y : Option V), σ = [some v, some (.ref p), y] ∧ Ex H H' ∧ H p = none ∧ H' p = some (.lst (t.marks.map V.str))
    refine (Hr.fin (A := A0) (B := A1) ?_ (Hs.fin (B := A2) ?_ (Hs.fin (B := A3) ?_ (Q := Q) ?_))) _ _ H ⟨rfl, rfl⟩ fun v H' h => h
    · rintro D σ H0 ⟨rfl, rfl⟩ kk kr
      refine word_in (v := v) rfl hT fun H1 e1 => ?_
      by_cases leaf : ∀ hd ts, t ≠ .node hd ts
      · rw [word_leaf leaf]
        refine iteT ⟨sz 0, fun p hp => kr _ _ (q _ p (fresh_back e1 hp) (e1.trans (Ex.new hp)) ?_)⟩
        rw [(mks_leaf leaf).1]
        exact upd_same
      · have nod : ∃ h ts, t = .node h ts := by
          cases t with
          | node h ts => exact ⟨h, ts, rfl⟩
          | num n => exact absurd (fun h ts z => by cases z) leaf
          | arg n => exact absurd (fun h ts z => by cases z) leaf
        obtain ⟨h, ts, rfl⟩ := nod
        rw [word_node]
        exact iteF (kk _ _ ⟨rfl, e1, h, ts, rfl⟩)
    · rintro D σ H1 ⟨rfl, e1, h, ts, rfl⟩ kk
      have g1 := hT.ex e1
      obtain ⟨a, r, rfl, ha⟩ := g1.head
      refine ⟨_, rfl, a, _, 0, _, rfl, rfl, SqT.of ha, at0, rfl, _, rfl, ?_⟩
      rw [eq_word, word_is_call]
      cases g1 with
      | @op _ o ws _ hh hs => exact iteF ⟨sz 0, fun p hp => kk _ _ ⟨p, _, _, rfl, e1.trans (Ex.new hp), rfl, fresh_back e1 hp, upd_same⟩⟩
      | @ring _ b m ws _ hh h2 hs => exact iteF ⟨sz 0, fun p hp => kk _ _ ⟨p, _, _, rfl, e1.trans (Ex.new hp), rfl, fresh_back e1 hp, upd_same⟩⟩
      | @call _ b m ws _ hh h2 hs => exact iteT ⟨_, rfl, a, _, 1, _, rfl, rfl, SqT.of hh, rfl, sz 1, fun p hp => kk _ _ ⟨p, _, _, rfl, e1.trans (Ex.new hp), rfl, fresh_back e1 hp, upd_same⟩⟩
    · rintro D σ H1 ⟨p, h, ts, rfl, e1, rfl, np, hp⟩ kk
      have nz : (Tm.node h ts).size = 1 + Tm.sizes ts := rfl
      refine parts_go (v := v) rfl (hT.ex e1) (.inr (.inr trivial)) fun H2 pp ws e2 hpp hws => ⟨pp, rfl, ⟨_, SqT.of hpp⟩, ?_⟩
      refine for_it (walk_tup (xs := ws)) (fun i σ H3 => ∃ (p : Addr) (y : Option V), σ = [some v, some (.ref p), y] ∧ Ex H H3 ∧ Ex H2 H3 ∧ H p = none ∧ H3 p = some (.lst ((h.ms ++ (ts.take i).flatMap Tm.marks).map V.str)))
        ⟨p, none, rfl, e1.trans e2, Ex.refl H2, np, by rw [show (ts.take 0).flatMap Tm.marks = [] from rfl, List.append_nil]; exact e2 _ _ hp⟩ (fun i σ H3 _ ⟨_, _, _, _, e3, _⟩ => SqT.of (e3 _ _ hpp)) ?_ ?_
      · rintro i x σ H3 H4 hi ⟨p', y, rfl, e3, e3', np', hp'⟩ ⟨rfl, hx⟩
        obtain ⟨u, hu, hxu⟩ := hws.get hx
        have hum := get_mem hu
        have z1 := size_mem hum
        have d1 : u.deep + 1 ≤ (Tm.node h ts).deep := parts_deep (t := .node h ts) hum
        refine ⟨_, rfl, _, rfl, x, u, M, rfl, hxu.ex e3', hO.parts hum, by omega, by omega, fun H5 p5 n5 e5 h5 => ?_⟩
        have l1 := ms_le h
        have l2 := flat_leS mks_len (ts.take i)
        have l3 := sizes_take ts i
        have l4 := mks_len u
        refine ⟨p', p5, _, _, rfl, rfl, e5 _ _ hp', h5, line2 (by rw [List.length_map, List.length_map, List.length_append]; omega), fun p6 n6 => ⟨p6, some x, rfl, e3.trans (e5.trans (Ex.new n6)), e3'.trans (e5.trans (Ex.new n6)), fresh_back (e3.trans e5) n6, ?_⟩⟩
        rw [upd_same, take_flat hu, ← List.map_append, List.append_assoc]
      · rintro σ H3 ⟨p', y, rfl, e3, e3', np', hp'⟩
        rw [hws.length, List.take_length, ← marks_node] at hp'
        exact kk _ _ ⟨p', y, rfl, e3, np', hp'⟩
    · rintro D σ H1 ⟨p, y, rfl, e1, np, hp⟩ kr
      exact ⟨_, rfl, kr _ _ (q _ p np e1 hp)⟩
theorem ok_lawSpots (T : Txt K w mg) : ∀ n : Nat, Cal P w K mg base (n + 1) "_law_spots" ["term"] (spPlaces n)
  | 0 => (T.D__law_spots.never fun vs H Q E h => by
      obtain ⟨v, t, M, _, _, _, h1, _⟩ := h
      have := deep_pos t
      omega).mono (Nat.zero_le _)
  | n + 1 => by
    have G__law_spots := ok_lawSpots T n
    refine T.D__law_spots.cal sc__law_spots (fun vs H Q E h => ?_) (fun f cdv A outer s H vs Q E hr h => ?_)
    · obtain ⟨v, t, M, rfl, _⟩ := h
      rfl
    obtain ⟨v, t, M, rfl, hT, hO, hd, hz, q⟩ := h
    refine ⟨_, (pss_cons (ps_if (pt_cmpR op_in_seq (pe_ix (r := rIxT K) ix_tup (pv 0) pe_int (fun _ _ => rfl)) (pe_tup (pa_cons pe_str (pa_cons pe_str pa_nil))) rfl)
    (pss_one (ps_ret (pe_lst pa_nil)))
    pss_nil)
  (pss_cons (ps_par (i := 1) (j := 2) rfl sc__law_spots.nd rfl rfl (by decide) rfl rfl (pa_cons (pe_lst pa_nil) (pa_cons (pe_slice sl_tupA (pv 0) (po_some pe_int) po_none) pa_nil)) rfl)
  (pss_cons (ps_if (pt_cmpR op_in_seq (pe_ix (r := rIxT K) ix_tup (pv 0) pe_int (fun _ _ => rfl)) (pe_tup (pa_cons pe_str (pa_cons pe_str pa_nil))) rfl)
    (pss_one (ps_par (i := 1) (j := 2) rfl sc__law_spots.nd rfl rfl (by decide) rfl rfl (pa_cons (pe_op op_rep (pe_lst (pa_cons (pe_ix (r := rIxT K) ix_tup (pv 0) pe_int (fun _ _ => rfl)) pa_nil)) (pe_bt call_int1 T.z_int (pa_cons (pe_cmpR op_eq (pe_ix (r := rIxT K) ix_tup (pv 0) pe_int (fun _ _ => rfl)) pe_str (nomark _)) pa_nil))) (pa_cons (pe_ix (r := rIxT K) ix_tup (pv 0) pe_int (fun _ _ => rfl)) pa_nil)) rfl))
    pss_nil)
  (pss_cons (ps_for PassesOwn.never rfl (pi_tup (pv 2)) (pg_name (i := 3) sc__law_spots.nd rfl (.inl rfl))
    (pss_one (ps_set (i := 1) sc__law_spots.nd rfl (.inl rfl) (pe_op op_cat (pv 1) (pe_fn G__law_spots hr (by omega) (pa_cons (pv 3) pa_nil))))))
  (pss_one (ps_ret (pv 1))))))), ?_⟩
    let A0 : L2.St → Hp → Prop := fun σ H' => σ = [some v, none, none, none] ∧ H' = H
    let A1 : L2.St → Hp → Prop := fun σ H' => σ = [some v, none, none, none] ∧ Ex H H' ∧ ∃ h ts, t = .node h ts
    let A2 : L2.St → Hp → Prop := fun σ H' => ∃ (p pp : Addr) (h : Hd) (ts : List Tm), σ = [some v, some (.ref p), some (.ref pp), none] ∧ Ex H H' ∧ t = .node h ts ∧ H p = none ∧ H' p = some (.lst []) ∧ (h.notOp = false → ∃ ws, H' pp = some (.tup ws) ∧ TmsAt H' ws ts)
    let A3 : L2.St → Hp → Prop := fun σ H' => ∃ (p pp : Addr) (h : Hd) (ts : List Tm) (ws : List V), σ = [some v, some (.ref p), some (.ref pp), none] ∧ Ex H H' ∧ t = .node h ts ∧ H p = none ∧ H' p = some (.lst (h.ps.map fun k : Nat => V.int (k : Int))) ∧ H' pp = some (.tup ws) ∧ TmsAt H' ws ts
    let A4 : L2.St → Hp → Prop := fun σ H' => ∃ (p : Addr) (z y : Option V), σ = [some v, some (.ref p), z, y] ∧ Ex H H' ∧ H p = none ∧ H' p = some (.lst (t.places.map fun k : Nat => V.int (k : Int)))
    refine (Hr.fin (A := A0) (B := A1) ?_ (Hs.fin (B := A2) ?_ (Hs.fin (B := A3) ?_ (Hs.fin (B := A4) ?_ (Q := Q) ?_)))) _ _ H ⟨rfl, rfl⟩ fun v H' h => h
    · rintro D σ H0 ⟨rfl, rfl⟩ kk kr
      refine word_in (v := v) rfl hT fun H1 e1 => ?_
      by_cases leaf : ∀ hd ts, t ≠ .node hd ts
      · rw [word_leaf leaf]
        refine iteT ⟨sz 0, fun p hp => kr _ _ (q _ p (fresh_back e1 hp) (e1.trans (Ex.new hp)) ?_)⟩
        rw [(mks_leaf leaf).2.1]
        exact upd_same
      · have nod : ∃ h ts, t = .node h ts := by
          cases t with
          | node h ts => exact ⟨h, ts, rfl⟩
          | num n => exact absurd (fun h ts z => by cases z) leaf
          | arg n => exact absurd (fun h ts z => by cases z) leaf
        obtain ⟨h, ts, rfl⟩ := nod
        rw [word_node]
        exact iteF (kk _ _ ⟨rfl, e1, h, ts, rfl⟩)
    · rintro D σ H1 ⟨rfl, e1, h, ts, rfl⟩ kk
      have g1 := hT.ex e1
      refine ⟨sz 0, fun p hp => ?_⟩
      have e2 := e1.trans (Ex.new (o := .lst []) hp)
      have nH := fresh_back e1 hp
      have f1 := Ex.new (o := .lst []) hp
      cases g1 with
      | @op a o ws _ hh hs =>
        refine ⟨_, rfl, 1, rfl, a, _, rfl, SqT.of (f1 _ _ hh), fun z => ?_, fun _ pp hpp => ⟨_, _, rfl, kk _ _ ⟨p, pp, _, _, rfl, e2.trans (Ex.new hpp), rfl, nH, (Ex.new hpp) _ _ upd_same, fun _ => ⟨ws, ?_, hs.ex (f1.trans (Ex.new hpp))⟩⟩⟩⟩
        · have z1 : HT.sIx (V.str o.str :: ws).length 0 (some ((1 : Nat) : Int)) = 0 := z.1
          rw [HT.sIx_nat, List.length_cons] at z1
          omega
        · rw [upd_same, cut_tail]
      | @call a b m ws _ hh h2 hs =>
        refine ⟨_, rfl, 1, rfl, a, _, rfl, SqT.of (f1 _ _ hh), fun z => ⟨_, _, rfl, kk _ _ ⟨p, a, _, _, rfl, e2, rfl, nH, upd_same, fun z => by cases z⟩⟩, fun _ pp hpp => ⟨_, _, rfl, kk _ _ ⟨p, pp, _, _, rfl, e2.trans (Ex.new hpp), rfl, nH, (Ex.new hpp) _ _ upd_same, fun z => by cases z⟩⟩⟩
      | @ring a b m ws _ hh h2 hs =>
        refine ⟨_, rfl, 1, rfl, a, _, rfl, SqT.of (f1 _ _ hh), fun z => ⟨_, _, rfl, kk _ _ ⟨p, a, _, _, rfl, e2, rfl, nH, upd_same, fun z => by cases z⟩⟩, fun _ pp hpp => ⟨_, _, rfl, kk _ _ ⟨p, pp, _, _, rfl, e2.trans (Ex.new hpp), rfl, nH, (Ex.new hpp) _ _ upd_same, fun z => by cases z⟩⟩⟩
    · rintro D σ H1 ⟨p, pp, h, ts, rfl, e1, rfl, np, hp, op⟩ kk
      have g1 := hT.ex e1
      refine word_in (v := v) rfl g1 fun H2 e2 => ?_
      rw [word_call]
      cases h with
      | op o =>
        obtain ⟨ws, h1, h2⟩ := op rfl
        exact iteF (kk _ _ ⟨p, pp, _, _, ws, rfl, e1.trans e2, rfl, np, e2 _ _ hp, e2 _ _ h1, h2.ex e2⟩)
      | call m =>
        have g2 := g1.ex e2
        cases g2 with
        | @call a b _ ws _ hh h2 hs =>
          refine iteT ⟨_, rfl, a, _, 1, _, rfl, rfl, SqT.of hh, rfl, sz 1, fun l hl => ⟨_, rfl, a, _, 0, _, rfl, rfl, SqT.of ((Ex.new hl) _ _ hh), at0, rfl, .inr ⟨_, rfl, ?_⟩⟩⟩
          have f1 := Ex.new (o := .lst [V.str m]) hl
          rw [eq_word, show decide (("call" : Str) = "ring") = false by decide +kernel]
          refine ⟨l, 0, _, rfl, rfl, upd_same, by decide, by decide, Nat.zero_le _, fun p2 hp2 => ⟨_, rfl, a, _, 2, _, rfl, rfl, SqT.of ((f1.trans (Ex.new hp2)) _ _ hh), rfl, _, _, rfl, kk _ _ ⟨p2, b, _, _, ws, rfl, e1.trans (e2.trans (f1.trans (Ex.new hp2))), rfl, fresh_back (e1.trans (e2.trans f1)) hp2, upd_same, (f1.trans (Ex.new hp2)) _ _ h2, hs.ex (f1.trans (Ex.new hp2))⟩⟩⟩
      | ring m =>
        have g2 := g1.ex e2
        cases g2 with
        | @ring a b _ ws _ hh h2 hs =>
          refine iteT ⟨_, rfl, a, _, 1, _, rfl, rfl, SqT.of hh, rfl, sz 1, fun l hl => ⟨_, rfl, a, _, 0, _, rfl, rfl, SqT.of ((Ex.new hl) _ _ hh), at0, rfl, .inr ⟨_, rfl, ?_⟩⟩⟩
          have f1 := Ex.new (o := .lst [V.int (m : Int)]) hl
          rw [eq_word, decide_eq_true rfl]
          refine ⟨l, 1, _, rfl, rfl, upd_same, by decide, by decide, line2 (by show 1 * 1 ≤ 1000000; decide), fun p2 hp2 => ⟨_, rfl, a, _, 2, _, rfl, rfl, SqT.of ((f1.trans (Ex.new hp2)) _ _ hh), rfl, _, _, rfl, kk _ _ ⟨p2, b, _, _, ws, rfl, e1.trans (e2.trans (f1.trans (Ex.new hp2))), rfl, fresh_back (e1.trans (e2.trans f1)) hp2, upd_same, (f1.trans (Ex.new hp2)) _ _ h2, hs.ex (f1.trans (Ex.new hp2))⟩⟩⟩
    · rintro D σ H2 ⟨p, pp, h, ts, ws, rfl, e2, rfl, np, hp, hpp, hws⟩ kk
      have nz : (Tm.node h ts).size = 1 + Tm.sizes ts := rfl
      refine ⟨_, rfl, pp, rfl, ⟨_, SqT.of hpp⟩, ?_⟩
      refine for_it (walk_tup (xs := ws)) (fun i σ H3 => ∃ (p : Addr) (y : Option V), σ = [some v, some (.ref p), some (.ref pp), y] ∧ Ex H H3 ∧ Ex H2 H3 ∧ H p = none ∧ H3 p = some (.lst ((h.ps ++ (ts.take i).flatMap Tm.places).map fun k : Nat => V.int (k : Int))))
        ⟨p, none, rfl, e2, Ex.refl H2, np, by rw [show (ts.take 0).flatMap Tm.places = [] from rfl, List.append_nil]; exact hp⟩ (fun i σ H3 _ ⟨_, _, _, _, e3, _⟩ => SqT.of (e3 _ _ hpp)) ?_ ?_
      · rintro i x σ H3 H4 hi ⟨p', y, rfl, e3, e3', np', hp'⟩ ⟨rfl, hx⟩
        obtain ⟨u, hu, hxu⟩ := hws.get hx
        have hum := get_mem hu
        have z1 := size_mem hum
        have d1 : u.deep + 1 ≤ (Tm.node h ts).deep := parts_deep (t := .node h ts) hum
        refine ⟨_, rfl, _, rfl, x, u, M, rfl, hxu.ex e3', hO.parts hum, by omega, by omega, fun H5 p5 n5 e5 h5 => ?_⟩
        have l1 := ps_le h
        have l2 := flat_leN places_len (ts.take i)
        have l3 := sizes_take ts i
        have l4 := places_len u
        refine ⟨p', p5, _, _, rfl, rfl, e5 _ _ hp', h5, line2 (by rw [List.length_map, List.length_map, List.length_append]; omega), fun p6 n6 => ⟨p6, some x, rfl, e3.trans (e5.trans (Ex.new n6)), e3'.trans (e5.trans (Ex.new n6)), fresh_back (e3.trans e5) n6, ?_⟩⟩
        rw [upd_same, take_flat hu, ← List.map_append, List.append_assoc]
      · rintro σ H3 ⟨p', y, rfl, e3, e3', np', hp'⟩
        rw [hws.length, List.take_length, ← places_node] at hp'
        exact kk _ _ ⟨p', _, y, rfl, e3, np', hp'⟩
    · rintro D σ H1 ⟨p, z, y, rfl, e1, np, hp⟩ kr
      exact ⟨_, rfl, kr _ _ (q _ p np e1 hp)⟩
end
end V


set_option Elab.async false
set_option linter.all false
set_option maxRecDepth 100000
set_option maxHeartbeats 400000
namespace V
open PySem PySem.Spec PyProof.Rows L2 Evl TL NumText
/-! ### unlike terms have unlike texts -/
def Stp (a : List Nat) : Prop := ∀ c, a.head? = some c → c ∈ stops
theorem split_word : ∀ {x y a b : List Nat}, (∀ c ∈ x, c ∉ stops) → (∀ c ∈ y, c ∉ stops) → Stp a → Stp b → x ++ a = y ++ b → x = y ∧ a = b
  | [], [], a, b, _, _, _, _, e => ⟨rfl, e⟩
  | [], d :: y, a, b, _, hy, ha, _, e => absurd (ha d (by
      have e2 : a = d :: (y ++ b) := e
      rw [e2]
      rfl)) (hy d (List.mem_cons_self ..))
  | c :: x, [], a, b, hx, _, _, hb, e => absurd (hb c (by
      have e2 : c :: (x ++ a) = b := e
      rw [← e2]
      rfl)) (hx c (List.mem_cons_self ..))
  | c :: x, d :: y, a, b, hx, hy, ha, hb, e => by
    have e2 : c :: (x ++ a) = d :: (y ++ b) := e
    obtain ⟨e3, e4⟩ := List.cons.inj e2
    obtain ⟨e5, e6⟩ := split_word (fun z hz => hx z (List.mem_cons_of_mem _ hz)) (fun z hz => hy z (List.mem_cons_of_mem _ hz)) ha hb e4
    exact ⟨by rw [e3, e5], e6⟩
theorem dig_rng {n : Nat} : ∀ c ∈ tl (nt n), 48 ≤ c ∧ c ≤ 57 := fun c hc => by
  rw [tl_nt] at hc
  exact TL.numL_digits n c hc
theorem nt_stops {n : Nat} : ∀ c ∈ tl (nt n), c ∉ stops := fun c hc => by
  have := dig_rng c hc
  unfold stops
  simp only [List.mem_cons, List.not_mem_nil, or_false]
  omega
theorem nt_inj {n m : Nat} (hn : n ≤ 1000002) (hm : m ≤ 1000002) (e : tl (nt n) = tl (nt m)) : n = m := by
  have e1 : numV (nt n) = numV (nt m) := by rw [ext_tl e]
  rw [numV_nt hn, numV_nt hm] at e1
  have := V.int.inj e1
  omega
theorem nt_head (n : Nat) : ∃ c l, tl (nt n) = c :: l ∧ 48 ≤ c ∧ c ≤ 57 := by
  cases e : tl (nt n) with
  | nil =>
    rw [tl_nt] at e
    exact absurd e (dig_ne n)
  | cons c l => exact ⟨c, l, rfl, dig_rng c (by rw [e]; exact List.mem_cons_self ..)⟩
theorem letter_head {k : Nat} (h : k ≤ 3) : tl (letter k) = [97 + k] := by
  match k, h with
  | 0, _ => decide +kernel
  | 1, _ => decide +kernel
  | 2, _ => decide +kernel
  | 3, _ => decide +kernel
  | n + 4, h => omega
theorem letter_st {k : Nat} (h : k ≤ 3) : ∀ c ∈ tl (letter k), c ∉ stops := fun c hc => by
  rw [letter_head h] at hc
  rw [List.mem_singleton.mp hc]
  unfold stops
  simp only [List.mem_cons, List.not_mem_nil, or_false]
  omega
theorem op_head (o : Op) : ∃ c l, tl o.str = c :: l ∧ 97 ≤ c := by
  cases o <;> exact ⟨_, _, by rfl, by decide⟩
theorem op_inj {o p : Op} (e : tl o.str = tl p.str) : o = p := by
  cases o <;> cases p <;> first | rfl | (exact absurd e (by decide +kernel))
theorem hd_st {M n : Nat} {h : Hd} (k : h.ok M n) : ∀ c ∈ tl h.S, c ∉ stops := fun c hc => by
  cases h with
  | op o =>
    have all : ∀ o : Op, ∀ c ∈ tl o.str, c ∉ stops := by intro o; cases o <;> decide +kernel
    exact all o c hc
  | call m =>
    have e : tl (Hd.call m).S = 35 :: tl m := by
      show tl (("#" : Str) ++ m) = _
      rw [tl_append]
      rfl
    rw [e] at hc
    rcases List.mem_cons.mp hc with rfl | hc
    · decide
    · have := k.1.2 c hc
      unfold stops
      simp only [List.mem_cons, List.not_mem_nil, or_false]
      omega
  | ring p =>
    have e : tl (Hd.ring p).S = 64 :: tl (nt p) := by
      show tl (("@" : Str) ++ nt p) = _
      rw [tl_append]
      rfl
    rw [e] at hc
    rcases List.mem_cons.mp hc with rfl | hc
    · decide
    · exact nt_stops c hc
theorem hd_inj {M n m : Nat} (hM : M ≤ 1000002) {h g : Hd} (k : h.ok M n) (j : g.ok M m) (e : tl h.S = tl g.S) : h = g := by
  have ec : ∀ m : Str, tl (Hd.call m).S = 35 :: tl m := fun m => by
    show tl (("#" : Str) ++ m) = _
    rw [tl_append]
    rfl
  have er : ∀ p : Nat, tl (Hd.ring p).S = 64 :: tl (nt p) := fun p => by
    show tl (("@" : Str) ++ nt p) = _
    rw [tl_append]
    rfl
  have eo : ∀ o : Op, tl (Hd.op o).S = tl o.str := fun _ => rfl
  cases h with
  | op o =>
    obtain ⟨c, l, e1, e2⟩ := op_head o
    cases g with
    | op p =>
      rw [eo, eo] at e
      rw [op_inj e]
    | call m =>
      rw [eo, ec, e1] at e
      have := (List.cons.inj e).1
      omega
    | ring p =>
      rw [eo, er, e1] at e
      have := (List.cons.inj e).1
      omega
  | call m =>
    cases g with
    | op p =>
      obtain ⟨c, l, e1, e2⟩ := op_head p
      rw [eo, ec, e1] at e
      have := (List.cons.inj e).1
      omega
    | call m' =>
      rw [ec, ec] at e
      rw [ext_tl (List.cons.inj e).2]
    | ring p =>
      rw [ec, er] at e
      have := (List.cons.inj e).1
      omega
  | ring p =>
    cases g with
    | op o =>
      obtain ⟨c, l, e1, e2⟩ := op_head o
      rw [eo, er, e1] at e
      have := (List.cons.inj e).1
      omega
    | call m =>
      rw [ec, er] at e
      have := (List.cons.inj e).1
      omega
    | ring p' =>
      rw [er, er] at e
      have h1 : p ≤ M := k.1
      have h2 : p' ≤ M := j.1
      rw [nt_inj (by omega) (by omega) (List.cons.inj e).2]
theorem stp_tails (ts : List Tm) (a : List Nat) : Stp (tails ts ++ (41 :: a)) := fun c hc => by
  cases ts with
  | nil =>
    have e : (41 : Nat) = c := Option.some.inj hc
    rw [← e]
    decide
  | cons t ts =>
    have e : (32 : Nat) = c := Option.some.inj hc
    rw [← e]
    decide
theorem txt_cut {M : Nat} (hM : M ≤ 1000002) : ∀ t : Tm, t.Ok M → ∀ (u : Tm) (a b : List Nat), u.Ok M → Stp a → Stp b → tl t.txt ++ a = tl u.txt ++ b → t = u ∧ a = b := by
  have nn : ∀ n, tl (Tm.num n).txt = tl (nt n) := fun _ => rfl
  have aa : ∀ k, tl (Tm.arg k).txt = tl (letter k) := fun _ => rfl
  refine Tm.ind (fun n k => ?_) (fun j k => ?_) fun h ts ih k => ?_
  · intro u a b ku ha hb e
    cases k with
    | num hn =>
    cases ku with
    | num hm =>
      obtain ⟨e1, e2⟩ := split_word nt_stops nt_stops ha hb e
      rw [nt_inj hn hm e1]
      exact ⟨rfl, e2⟩
    | arg hm =>
      obtain ⟨e1, e2⟩ := split_word nt_stops (letter_st hm) ha hb e
      obtain ⟨c, l, e3, e4⟩ := nt_head n
      rw [e3, letter_head hm] at e1
      have := (List.cons.inj e1).1
      omega
    | node _ _ =>
      obtain ⟨c, l, e3, e4⟩ := nt_head n
      rw [nn, e3, tl_node] at e
      have := (List.cons.inj e).1
      omega
  · intro u a b ku ha hb e
    cases k with
    | arg hj =>
    cases ku with
    | num hm =>
      obtain ⟨e1, e2⟩ := split_word (letter_st hj) nt_stops ha hb e
      rename_i n
      obtain ⟨c, l, e3, e4⟩ := nt_head n
      rw [e3, letter_head hj] at e1
      have := (List.cons.inj e1).1
      omega
    | arg hm =>
      obtain ⟨e1, e2⟩ := split_word (letter_st hj) (letter_st hm) ha hb e
      rw [letter_head hj, letter_head hm] at e1
      have e3 := (List.cons.inj e1).1
      rename_i m
      obtain rfl : j = m := by omega
      exact ⟨rfl, e2⟩
    | node _ _ =>
      rw [aa, letter_head hj, tl_node] at e
      have := (List.cons.inj e).1
      omega
  · intro u a b ku ha hb e
    cases k with
    | node hh hks =>
    cases ku with
    | num hm =>
      rename_i n
      obtain ⟨c, l, e3, e4⟩ := nt_head n
      rw [nn, e3, tl_node] at e
      have := (List.cons.inj e).1
      omega
    | arg hm =>
      rw [aa, letter_head hm, tl_node] at e
      have := (List.cons.inj e).1
      omega
    | @node g us hg hus =>
      rw [tl_node, tl_node] at e
      have e1 : (tl h.S ++ (tails ts ++ [41])) ++ a = (tl g.S ++ (tails us ++ [41])) ++ b := (List.cons.inj e).2
      rw [List.append_assoc, List.append_assoc, List.append_assoc, List.append_assoc] at e1
      obtain ⟨e2, e3⟩ := split_word (hd_st hh) (hd_st hg) (stp_tails ts a) (stp_tails us b) e1
      have eh := hd_inj hM hh hg e2
      have parts : ∀ (ts us : List Tm), (∀ t ∈ ts, t.Ok M ∧ ∀ (u : Tm) (a b : List Nat), u.Ok M → Stp a → Stp b → tl t.txt ++ a = tl u.txt ++ b → t = u ∧ a = b) → (∀ u ∈ us, u.Ok M) →
          tails ts ++ (41 :: a) = tails us ++ (41 :: b) → ts = us ∧ a = b := by
        intro ts
        induction ts with
        | nil =>
          intro us _ _ e
          cases us with
          | nil => exact ⟨rfl, (List.cons.inj e).2⟩
          | cons u us =>
            have := (List.cons.inj (show (41 : Nat) :: a = 32 :: (tl u.txt ++ tails us ++ 41 :: b) from e)).1
            omega
        | cons t ts ih2 =>
          intro us ht hu e
          cases us with
          | nil =>
            have := (List.cons.inj (show 32 :: (tl t.txt ++ tails ts ++ 41 :: a) = (41 : Nat) :: b from e)).1
            omega
          | cons u us =>
            have e4 := (List.cons.inj (show 32 :: (tl t.txt ++ tails ts ++ 41 :: a) = 32 :: (tl u.txt ++ tails us ++ 41 :: b) from e)).2
            rw [List.append_assoc, List.append_assoc] at e4
            obtain ⟨e5, e6⟩ := (ht t (List.mem_cons_self ..)).2 u _ _ (hu u (List.mem_cons_self ..)) (stp_tails ts a) (stp_tails us b) e4
            obtain ⟨e7, e8⟩ := ih2 us (fun v hv => ht v (List.mem_cons_of_mem _ hv)) (fun v hv => hu v (List.mem_cons_of_mem _ hv)) e6
            exact ⟨by rw [e5, e7], e8⟩
      obtain ⟨e9, e10⟩ := parts ts us (fun t ht => ⟨hks t ht, fun u a b => ih t ht (hks t ht) u a b⟩) hus e3
      rw [eh, e9]
      exact ⟨rfl, e10⟩
theorem txt_inj {M : Nat} (hM : M ≤ 1000002) {t u : Tm} (k : t.Ok M) (j : u.Ok M) (e : t.txt = u.txt) : t = u :=
  (txt_cut hM t k u [] [] j (fun c h => by cases h) (fun c h => by cases h) (by rw [e])).1
/-! ### terms that are alike -/
theorem eqv_str (x y : Str) : PyData.eqv (.str x) (.str y) = (x == y) := by simp only [PyData.eqv]
theorem eqv_int (x y : Int) : PyData.eqv (.int x) (.int y) = (x == y) := by simp only [PyData.eqv]
theorem eqv_tup (xs ys : List PyData) : PyData.eqv (.tuple xs) (.tuple ys) = PyData.eqvAll xs ys := by simp only [PyData.eqv]
theorem eqv_lst (xs ys : List PyData) : PyData.eqv (.list xs) (.list ys) = PyData.eqvAll xs ys := by simp only [PyData.eqv]
theorem eqvs_cons (x y : PyData) (xs ys : List PyData) : PyData.eqvAll (x :: xs) (y :: ys) = (PyData.eqv x y && PyData.eqvAll xs ys) := by simp only [PyData.eqvAll]
theorem eqvs_nil : PyData.eqvAll [] [] = true := by simp only [PyData.eqvAll]
theorem py_word : ∀ t : Tm, ∃ r, t.py = .tuple (.str t.word :: r)
  | .num n => ⟨_, rfl⟩
  | .arg n => ⟨_, rfl⟩
  | .node (.op o) ts => ⟨_, rfl⟩
  | .node (.call m) ts => ⟨_, rfl⟩
  | .node (.ring m) ts => ⟨_, rfl⟩
theorem eqv_word {t u : Tm} (e : PyData.eqv t.py u.py = true) : t.word = u.word := by
  obtain ⟨r, e1⟩ := py_word t
  obtain ⟨q, e2⟩ := py_word u
  rw [e1, e2, eqv_tup, eqvs_cons, Bool.and_eq_true, eqv_str, beq_iff_eq] at e
  exact e.1
theorem eqv_py : ∀ t u : Tm, PyData.eqv t.py u.py = true → t = u := by
  have nu : ∀ n, (Tm.num n).py = .tuple [.str "num", .int (n : Int)] := fun _ => rfl
  have ar : ∀ n, (Tm.arg n).py = .tuple [.str "arg", .int (n : Int)] := fun _ => rfl
  have op : ∀ o ts, (Tm.node (.op o) ts).py = .tuple (.str o.str :: Tm.pys ts) := fun _ _ => rfl
  have ca : ∀ m ts, (Tm.node (.call m) ts).py = .tuple [.str "call", .str m, .tuple (Tm.pys ts)] := fun _ _ => rfl
  have ri : ∀ m ts, (Tm.node (.ring m) ts).py = .tuple [.str "ring", .int (m : Int), .tuple (Tm.pys ts)] := fun _ _ => rfl
  have wd : ∀ t u : Tm, t.word = u.word → (match t, u with | .num _, .num _ => True | .arg _, .arg _ => True | .node (.op o) _, .node (.op p) _ => o = p | .node (.call _) _, .node (.call _) _ => True | .node (.ring _) _, .node (.ring _) _ => True | _, _ => False) := by
    have ow : ∀ o : Op, o.str ≠ "num" ∧ o.str ≠ "arg" ∧ o.str ≠ "call" ∧ o.str ≠ "ring" := by intro o; cases o <;> decide +kernel
    intro t u e
    cases t with
    | num n =>
      cases u with
      | num m => trivial
      | arg m => exact absurd e (by show ("num" : Str) ≠ "arg"; decide +kernel)
      | node g us =>
        cases g with
        | op p => exact absurd e.symm (ow p).1
        | call m => exact absurd e (by show ("num" : Str) ≠ "call"; decide +kernel)
        | ring m => exact absurd e (by show ("num" : Str) ≠ "ring"; decide +kernel)
    | arg n =>
      cases u with
      | arg m => trivial
      | num m => exact absurd e (by show ("arg" : Str) ≠ "num"; decide +kernel)
      | node g us =>
        cases g with
        | op p => exact absurd e.symm (ow p).2.1
        | call m => exact absurd e (by show ("arg" : Str) ≠ "call"; decide +kernel)
        | ring m => exact absurd e (by show ("arg" : Str) ≠ "ring"; decide +kernel)
    | node h ts =>
      cases h with
      | op o =>
        cases u with
        | num m => exact absurd e (ow o).1
        | arg m => exact absurd e (ow o).2.1
        | node g us =>
          cases g with
          | op p => exact op_inj (congrArg tl (show o.str = p.str from e))
          | call m => exact absurd e (ow o).2.2.1
          | ring m => exact absurd e (ow o).2.2.2
      | call m =>
        cases u with
        | num m => exact absurd e (by show ("call" : Str) ≠ "num"; decide +kernel)
        | arg m => exact absurd e (by show ("call" : Str) ≠ "arg"; decide +kernel)
        | node g us =>
          cases g with
          | op p => exact absurd e.symm (ow p).2.2.1
          | call m => trivial
          | ring m => exact absurd e (by show ("call" : Str) ≠ "ring"; decide +kernel)
      | ring m =>
        cases u with
        | num m => exact absurd e (by show ("ring" : Str) ≠ "num"; decide +kernel)
        | arg m => exact absurd e (by show ("ring" : Str) ≠ "arg"; decide +kernel)
        | node g us =>
          cases g with
          | op p => exact absurd e.symm (ow p).2.2.2
          | call m => exact absurd e (by show ("ring" : Str) ≠ "call"; decide +kernel)
          | ring m => trivial
  have all : ∀ (ts us : List Tm), (∀ t ∈ ts, ∀ u : Tm, PyData.eqv t.py u.py = true → t = u) → PyData.eqvAll (Tm.pys ts) (Tm.pys us) = true → ts = us := by
    intro ts
    induction ts with
    | nil =>
      intro us _ e
      cases us with
      | nil => rfl
      | cons u us => exact absurd e (by show PyData.eqvAll [] (u.py :: Tm.pys us) ≠ true; simp [PyData.eqvAll])
    | cons t ts ih =>
      intro us h e
      cases us with
      | nil => exact absurd e (by show PyData.eqvAll (t.py :: Tm.pys ts) [] ≠ true; simp [PyData.eqvAll])
      | cons u us =>
        have e1 : PyData.eqvAll (t.py :: Tm.pys ts) (u.py :: Tm.pys us) = true := e
        rw [eqvs_cons, Bool.and_eq_true] at e1
        rw [h t (List.mem_cons_self ..) u e1.1, ih us (fun v hv => h v (List.mem_cons_of_mem _ hv)) e1.2]
  refine Tm.ind (fun n u e => ?_) (fun n u e => ?_) fun h ts ih u e => ?_
  · have w := wd _ _ (eqv_word e)
    cases u with
    | num m =>
      rw [nu, nu, eqv_tup, eqvs_cons, eqvs_cons, eqv_int, Bool.and_eq_true, Bool.and_eq_true, beq_iff_eq] at e
      have := e.2.1
      obtain rfl : n = m := by omega
      rfl
    | _ => exact w.elim
  · have w := wd _ _ (eqv_word e)
    cases u with
    | arg m =>
      rw [ar, ar, eqv_tup, eqvs_cons, eqvs_cons, eqv_int, Bool.and_eq_true, Bool.and_eq_true, beq_iff_eq] at e
      have := e.2.1
      obtain rfl : n = m := by omega
      rfl
    | num _ => exact w.elim
    | node _ _ => exact w.elim
  · have w := wd _ _ (eqv_word e)
    cases u with
    | num m => cases h <;> exact w.elim
    | arg m => cases h <;> exact w.elim
    | node g us =>
      cases h with
      | op o =>
        cases g with
        | op p =>
          have w2 : o = p := w
          subst w2
          rw [op, op, eqv_tup, eqvs_cons, Bool.and_eq_true] at e
          rw [all ts us ih e.2]
        | call _ => exact w.elim
        | ring _ => exact w.elim
      | call m =>
        cases g with
        | op _ => exact w.elim
        | ring _ => exact w.elim
        | call k =>
          rw [ca, ca, eqv_tup, eqvs_cons, eqvs_cons, eqvs_cons, eqv_str, eqv_str, eqv_tup, Bool.and_eq_true, Bool.and_eq_true, Bool.and_eq_true, beq_iff_eq, beq_iff_eq] at e
          rw [e.2.1, all ts us ih e.2.2.1]
      | ring m =>
        cases g with
        | op _ => exact w.elim
        | call _ => exact w.elim
        | ring k =>
          rw [ri, ri, eqv_tup, eqvs_cons, eqvs_cons, eqvs_cons, eqv_str, eqv_int, eqv_tup, Bool.and_eq_true, Bool.and_eq_true, Bool.and_eq_true, beq_iff_eq, beq_iff_eq] at e
          have e1 := e.2.1
          obtain rfl : m = k := by omega
          rw [all ts us ih e.2.2.1]
/-! ### terms as data that can be laid -/
theorem str_ok {x : Str} (h : ∀ c ∈ tl x, c < 1114112) : PyData.strOk x = true := by
  unfold PyData.strOk
  rw [← Array.all_toList, List.all_eq_true]
  exact fun c hc => decide_eq_true (h c hc)
theorem py_lay : ∀ {M : Nat} (t : Tm), t.Ok M → t.py.canLay0 = true ∧ t.py.depth ≤ 2 * t.deep := by
  intro M
  have wo : ∀ o : Op, PyData.canLay0 (.str o.str) = true := by intro o; cases o <;> decide +kernel
  have all : ∀ ts : List Tm, (∀ t ∈ ts, t.py.canLay0 = true ∧ t.py.depth ≤ 2 * t.deep) → PyData.canLayAll0 (Tm.pys ts) = true ∧ PyData.depthAll (Tm.pys ts) ≤ 2 * Tm.deeps ts := by
    intro ts
    induction ts with
    | nil => exact fun _ => ⟨by simp [Tm.pys, PyData.canLayAll0], by simp [Tm.pys, PyData.depthAll]⟩
    | cons t ts ih =>
      intro h
      obtain ⟨h1, h2⟩ := h t (List.mem_cons_self ..)
      obtain ⟨i1, i2⟩ := ih fun u hu => h u (List.mem_cons_of_mem _ hu)
      refine ⟨?_, ?_⟩
      · show PyData.canLayAll0 (t.py :: Tm.pys ts) = true
        rw [PyData.canLayAll0, h1, i1]
        rfl
      · show PyData.depthAll (t.py :: Tm.pys ts) ≤ 2 * max t.deep (Tm.deeps ts)
        rw [PyData.depthAll]
        omega
  refine Tm.ind (fun n k => ⟨?_, ?_⟩) (fun n k => ⟨?_, ?_⟩) fun h ts ih k => ?_
  · show PyData.canLay0 (.tuple [.str "num", .int (n : Int)]) = true
    have : PyData.canLay0 (.str "num") = true := by decide +kernel
    simp only [PyData.canLay0, PyData.canLayAll0] at this ⊢
    rw [this]
    rfl
  · show PyData.depth (.tuple [.str "num", .int (n : Int)]) ≤ 2
    simp [PyData.depth, PyData.depthAll]
  · show PyData.canLay0 (.tuple [.str "arg", .int (n : Int)]) = true
    have : PyData.canLay0 (.str "arg") = true := by decide +kernel
    simp only [PyData.canLay0, PyData.canLayAll0] at this ⊢
    rw [this]
    rfl
  · show PyData.depth (.tuple [.str "arg", .int (n : Int)]) ≤ 2
    simp [PyData.depth, PyData.depthAll]
  · cases k with
    | node hh hks =>
    obtain ⟨a1, a2⟩ := all ts fun t ht => ih t ht (hks t ht)
    have td : (Tm.node h ts).deep = 1 + Tm.deeps ts := rfl
    cases h with
    | op o =>
      refine ⟨?_, ?_⟩
      · show PyData.canLay0 (.tuple (.str o.str :: Tm.pys ts)) = true
        have := wo o
        rw [PyData.canLay0, PyData.canLayAll0, this, a1]
        rfl
      · show PyData.depth (.tuple (.str o.str :: Tm.pys ts)) ≤ _
        rw [PyData.depth, PyData.depthAll, PyData.depth]
        omega
    | call m =>
      refine ⟨?_, ?_⟩
      · show PyData.canLay0 (.tuple [.str "call", .str m, .tuple (Tm.pys ts)]) = true
        have w1 : PyData.canLay0 (.str "call") = true := by decide +kernel
        have w2 : PyData.canLay0 (.str m) = true := by
          rw [PyData.canLay0]
          exact str_ok fun c hc => by
            have := hh.1.2 c hc
            omega
        rw [PyData.canLay0, PyData.canLayAll0, PyData.canLayAll0, PyData.canLayAll0, PyData.canLayAll0, w1, w2]
        rw [PyData.canLay0, a1]
        rfl
      · show PyData.depth (.tuple [.str "call", .str m, .tuple (Tm.pys ts)]) ≤ _
        simp only [PyData.depth, PyData.depthAll]
        omega
    | ring m =>
      refine ⟨?_, ?_⟩
      · show PyData.canLay0 (.tuple [.str "ring", .int (m : Int), .tuple (Tm.pys ts)]) = true
        have w1 : PyData.canLay0 (.str "ring") = true := by decide +kernel
        rw [PyData.canLay0, PyData.canLayAll0, PyData.canLayAll0, PyData.canLayAll0, PyData.canLayAll0, w1]
        rw [PyData.canLay0, PyData.canLay0, a1]
        rfl
      · show PyData.depth (.tuple [.str "ring", .int (m : Int), .tuple (Tm.pys ts)]) ≤ _
        simp only [PyData.depth, PyData.depthAll]
        omega
theorem py_shaped {M : Nat} {t : Tm} (k : t.Ok M) (h : t.deep ≤ 32) : SeqAt.shaped t.py = true := by
  obtain ⟨h1, h2⟩ := py_lay t k
  unfold SeqAt.shaped
  rw [h1, decide_eq_true (by omega)]
  rfl
theorem py_refl {M : Nat} {t : Tm} (k : t.Ok M) : PyData.eqv t.py t.py = true := SeqAt.eqv_refl _ (py_lay t k).1
end V


set_option Elab.async false
set_option linter.all false
set_option maxRecDepth 100000
set_option maxHeartbeats 4000000
/-! defs that ask for repr: their promise holds where no repr is under way -/
namespace V
open PySem PySem.Spec PyProof.Rows L2 Evl
structure FnG (P : Program) (w : World) (K : PySem.W.Frag) (mg : Str → Option Value) (base : Heap) (k : Nat) (f : Addr) (fd : FuncData) (ps : List Str) (sp : Sp) : Prop where
  len : ∀ vs H Q E, sp vs H Q E → vs.length = ps.length
  go : ∀ (B : Around) (fr : List Env) (s : Shared) (H : Hp) (ar : Args) (us : List Value) (vs : List V) (Q : VK) (E : XK), Room k B → B.guards = some [] → Env0 P w K mg base B fr s H → BindsTo s fd ar (ps.zip us) → Vals vs us → sp vs H Q E →
    codeAny (model P w) B (.call (.ref f) ar) (CR CX0 fr P w H s Q E) s
theorem FnG.of {P : Program} {w : World} {K : PySem.W.Frag} {mg : Str → Option Value} {base : Heap} {k : Nat} {f : Addr} {fd : FuncData} {ps : List Str} {sp : Sp} (F : FnOk P w K mg base CX0 k f fd ps sp) : FnG P w K mg base k f fd ps sp :=
  ⟨F.len, fun B fr s H ar us vs Q E hr _ => F.run B fr s H ar us vs Q E hr⟩
structure CalG (P : Program) (w : World) (K : PySem.W.Frag) (mg : Str → Option Value) (base : Heap) (k : Nat) (x : Str) (ps : List Str) (sp : Sp) : Prop where
  ex : ∃ (f : Addr) (fd : FuncData), FnG P w K mg base k f fd ps sp ∧ mg x = some (.ref f) ∧ PySem.W.keepIn K (.ref f) = true ∧ Binds K fd ps []
section
variable {P : Program} {w : World} {K : PySem.W.Frag} {mg : Str → Option Value} {base : Heap} {x : Str} {st : Stmt} {ps N : List Str} {k : Nat} {sp : Sp} {f : Addr} {fd : FuncData} {qual : Str} {scope : Scope} {params : Arguments} {blk : List Stmt}
theorem fnG_of {cdv dV kV doc pm ct oc : Value} {an od : Option Addr} {osl : Array (Option Value)} (lk : K.lookup f = some ⟨oc, od, .func (PySem.W.fnOf x qual params blk scope dV kV doc pm an cdv ct), osl⟩) (cdI : PySem.W.codeIn K cdv qual = true)
    (S : FnScope N ps scope) (len : ∀ vs H Q E, sp vs H Q E → vs.length = ps.length)
    (body : ∀ (B : Around) (fr : List Env) (s : Shared) (H : Hp) (vs : List V) (Q : VK) (E : XK), Room k (B.deeper (envOfC qual scope s.heap.objs.size f cdv)) → (B.deeper (envOfC qual scope s.heap.objs.size f cdv)).guards = some [] → sp vs H Q E →
      ∃ t, PSs (cxOf CX0 P w K mg base N qual scope f cdv B fr s H E) blk t ∧ t { nx := fun _ H' => Q .non H', rt := Q } (start N vs) H) :
    FnG P w K mg base (k + 1) f (PySem.W.fnOf x qual params blk scope dV kV doc pm an cdv ct) ps sp := by
  refine ⟨len, fun B fr s H ar us vs Q E hr hG e0 hb r hs => ?_⟩
  have ll := len _ _ _ _ hs
  have inK : K.In s.heap := e0.mod.kin.keeps fun c o e => (e0.bs c o e).1
  have noL : s.heap.NoLimit := e0.mod.nolimit.keeps fun c o e => (e0.bs c o e).1
  have kinds : ∀ y ∈ ps.zip us, scope.names.lookup y.1 = some .local ∨ (scope.names.lookup y.1 = some .cell ∧ ((cellsFrom (s.heap.objs.size + 1) scope.names []).lookup y.1).isSome = true) := fun ⟨n, v⟩ hy => by
    rcases S.par n (List.of_mem_zip hy).1 with c | c
    · exact .inl c
    · exact .inr ⟨c, PySem.W.cellsFrom_some _ _ _ (.inl c)⟩
  refine codeAny_call_function hr.depth (inK _ _ lk) rfl S.co S.gen rfl (PySem.W.codeRec_of inK cdI) (hb _ _ _ _ ?_)
  refine wpAny_newFunctionEnv_cells S.kind kinds fun env he s1 y => ?_
  subst he
  refine ⟨noL.keeps y.toInCall.keep, codeAny_func ?_⟩
  obtain ⟨t, ht, hq⟩ := body B fr s H vs Q E (hr.deeper _) hG hs
  have I : L2.Inv (cxOf CX0 P w K mg base N qual scope f cdv B fr s H E) [] (start N vs) H s1 := inv_start S hr.hd e0 ll r y
  refine wpAny_mono (ht.run [] s1 (start N vs) H _ I hq) (fun fl s2 hs => ?_) fun e s2 hs => hs
  have fin : ∀ {τ : L2.St} {H2 : Hp} {v : V} {u : Value}, L2.Inv (cxOf CX0 P w K mg base N qual scope f cdv B fr s H E) [] τ H2 s2 → RelV v u → Q v H2 → CE fr P w H s Q u s2 :=
    fun {τ H2 v u} J rv q => ⟨v, H2, J.os, J.bare, J.base, J.hok, rv, q⟩
  cases fl with
  | ret u =>
    obtain ⟨v, τ, H2, J, rv, q⟩ := hs
    exact fin J rv q
  | next =>
    obtain ⟨τ, H2, J, q⟩ := hs
    exact fin (v := V.non) (u := Value.none) J rfl q
  | brk => exact False.elim hs.choose_spec.choose_spec.2
  | cont => exact False.elim hs.choose_spec.choose_spec.2
theorem FunD.okG {dvs : List V} {kws : List (Str × V)} (F : FunD K x qual params blk scope dvs kws f fd) (S : FnScope N ps scope) (len : ∀ vs H Q E, sp vs H Q E → vs.length = ps.length)
    (body : ∀ (cdv : Value) (B : Around) (fr : List Env) (s : Shared) (H : Hp) (vs : List V) (Q : VK) (E : XK), Room k (B.deeper (envOfC qual scope s.heap.objs.size f cdv)) → (B.deeper (envOfC qual scope s.heap.objs.size f cdv)).guards = some [] → sp vs H Q E →
      ∃ t, PSs (cxOf CX0 P w K mg base N qual scope f cdv B fr s H E) blk t ∧ t { nx := fun _ H' => Q .non H', rt := Q } (start N vs) H) : FnG P w K mg base (k + 1) f fd ps sp := by
  obtain ⟨oc, od, dV, kV, doc, pm, an, cdv, ct, osl, rfl, lk, hcd, _, _⟩ := F.ex
  exact fnG_of lk hcd S len fun B fr s H vs Q E hr hG hs => body cdv B fr s H vs Q E hr hG hs
theorem Def.calG (D : Def K mg x st ps) (S : FnScope N ps (defScope st)) (len : ∀ vs H Q E, sp vs H Q E → vs.length = ps.length)
    (body : ∀ (f : Addr) (cdv : Value) (B : Around) (fr : List Env) (s : Shared) (H : Hp) (vs : List V) (Q : VK) (E : XK),
      Room k (B.deeper (envOfC x (defScope st) s.heap.objs.size f cdv)) → (B.deeper (envOfC x (defScope st) s.heap.objs.size f cdv)).guards = some [] → sp vs H Q E →
      ∃ t, PSs (cxOf CX0 P w K mg base N x (defScope st) f cdv B fr s H E).nox (defBody st) t ∧
        t { nx := fun _ H' => Q .non H', rt := Q } (start N vs) H) : CalG P w K mg base (k + 1) x ps sp := by
  obtain ⟨f, fd, F, hm, hb⟩ := D.ex
  refine ⟨f, fd, FunD.okG F S len (fun cdv B fr s H vs Q E hr hG h => ?_), hm, F.kp, hb⟩
  obtain ⟨t, h1, h2⟩ := body f cdv B fr s H vs Q E hr hG h
  exact ⟨t, h1.nox, h2⟩
theorem Cal.g (C : Cal P w K mg base k x ps sp) : CalG P w K mg base k x ps sp := by
  obtain ⟨f, fd, F, h1, h2, h3⟩ := C.ex
  exact ⟨f, fd, FnG.of F, h1, h2, h3⟩
end
section
variable {X : Cx}
theorem run_G {pins : List (Addr × Obj)} {σ : L2.St} {H : Hp} {s : Shared} {Q : VK} {us : List Value} {vs : List V} {k : Nat} {f : Addr} {fd : FuncData} {ps : List Str} {sp : Sp} (F : FnG X.prog X.w X.K X.mg X.base k f fd ps sp) (hr : Room k X.A) (hG : X.A.guards = some [])
    (hb : Binds X.K fd ps []) (I : L2.Inv X pins σ H s) (r : Vals vs us) (h : sp vs H Q E0) : wpAny (model X.prog X.w) X.A (call (.ref f) us) (EP X pins σ Q) X.xe s := by
  have ll : (us ++ []).length = ps.length := by rw [List.append_nil, ← r.length]; exact F.len _ _ _ _ h
  have b := hb s us I.kIn ll
  rw [List.append_nil] at b
  refine wpAny_call (codeAny_mono (F.go X.A X.stack s H ⟨us, []⟩ us vs Q E0 hr hG I.env0 b r h) fun res s2 hq => ?_)
  cases res with
  | error e => exact pass0 pins σ H s e s2 I hq
  | ok fl =>
    cases fl with
    | ret u => exact I.after hq
    | next => exact False.elim hq
    | brk => exact False.elim hq
    | cont => exact False.elim hq
theorem pe_fnG {j k : Nat} {x : Str} {ps : List Str} {sp : Sp} {e : Expr} {es : List Expr} {t : TA} {p pos : Pos} (C : CalG X.prog X.w X.K X.mg X.base k x ps sp) (hG : X.A.guards = some []) (hr : Room j X.A) (hk : k ≤ j) (ha : PA X (e :: es) t)
    (hg : Gl X x := by rfl) (hdb : (x == ("__debug__" : Str)) = false := by decide) (he : starEach (e :: es) X.env = (false, eval e X.env) :: starEach es X.env := by rfl)
    (hpl : (backTo pos (starEach es X.env)).any (·.1) = false := by rfl) : PE X (.Call (.Name x p) (e :: es) [] pos) (tFn sp t) := by
  obtain ⟨f, fd, F, h1, h2, h3⟩ := C.ex
  refine ⟨fun pins s σ H Q I q => ?_⟩
  refine wpAny_Call_Name_kw (ld_glob I hg h1 ?_ hdb)
  refine PySem.W.callWith_K (h₀ := X.base) I.ok.mod.kin h2 (thn (ha.run pos pins s σ H _ I q) fun us s1 ⟨vs, H1, I1, r, q1⟩ => ⟨I1.kIn, ?_⟩) he hpl
  exact run_G F (hr.mono hk) hG h3 I1 r q1
/-- repr(x) of data -/
def rRepr (K : PySem.W.Frag) : List V → Hp → VK → Prop := fun vs H Q => ∃ (v : V) (d : PyData), vs = [v] ∧ Dp K H v d ∧ d.showable = true ∧ d.hasDict = false ∧ d.depth ≤ 64 ∧ d.shown.length ≤ sizeLine ∧ Q (.str d.shown) H
theorem cr_repr (hG : X.A.guards = some []) (hu : X.A.units + 80 < cLine) : CallR X (.builtin "repr") (rRepr X.K) := by
  intro pins s σ H vs us Q I r h
  obtain ⟨v, d, rfl, hd, hs, nd, dp, sz, q⟩ := h
  obtain ⟨u, rfl, rv⟩ := vals1 r
  cases hd with
  | non =>
    cases rv
    exact PySem.P.repr_of_none ⟨.str "None", H, I.tok _, ⟨_, rfl⟩, by simpa only [PyData.shown] using q⟩
  | bl b =>
    cases rv
    exact PySem.P.repr_of_bool ⟨.str (if b then "True" else "False"), H, I.tok _, ⟨_, by cases b <;> rfl⟩, by simpa only [PyData.shown] using q⟩
  | int i =>
    obtain ⟨t, rfl⟩ := rv
    have hs' : i.natAbs.log2 < 1920 := by
      rw [PyData.showable, decide_eq_true_eq] at hs
      exact hs
    exact PySem.P.repr_of_int hs' ⟨.str (toString i), H, I.tok _, ⟨_, rfl⟩, by simpa only [PyData.shown] using q⟩
  | str x =>
    obtain ⟨t, rfl⟩ := rv
    have sz' : (reprText x).length ≤ sizeLine := by simpa only [PyData.shown] using sz
    exact PySem.P.repr_of_str ⟨.str (reprText x), H, I.tok _, ⟨_, rfl⟩, by simpa only [PyData.shown] using q⟩ sz'
  | lst hl hk =>
    cases rv
    obtain ⟨as, rd⟩ := Dp.reads I _ _ _ (Dp.lst hl hk) rfl
    exact repr_of_reads' rd hs (fun e => by rw [nd] at e; cases e) hG (by omega) (fun _ _ e => e) (fun h' t tk hk => ⟨.str _, H, I.kept hk, ⟨_, rfl⟩, q⟩) sz
  | tup hl hk =>
    cases rv
    obtain ⟨as, rd⟩ := Dp.reads I _ _ _ (Dp.tup hl hk) rfl
    exact repr_of_reads' rd hs (fun e => by rw [nd] at e; cases e) hG (by omega) (fun _ _ e => e) (fun h' t tk hk => ⟨.str _, H, I.kept hk, ⟨_, rfl⟩, q⟩) sz
end
/-! ### the end of a law -/
theorem lawG {P : Program} {w : World} {K : PySem.W.Frag} {mg mb : Str → Option Value} {k : Nat} {fa a : Addr} {fd : FuncData} {x : Str} {sp : Sp} {s : Shared} {vs : List Value} {ns : List Int}
    (KX : K.In s.heap) (n1 : s.heap.Ns mainGlobals mg) (n2 : s.heap.Ns builtinsNs mb) (n3 : ∀ x : Str, x ≠ "__name__" → mb x = bootBuiltins x) (noL : s.heap.NoLimit) (ng : s.gens = #[])
    (ha : s.heap.get? a = some { cls := .type "list", data := .seq vs.toArray }) (hi : IntsAre vs ns) (le : ns.length ≤ sizeLine) (hr : Room k callerA)
    (F : ∀ base : Heap, K.In base → base.Ns mainGlobals mg → FnG P w K mg base k fa fd [x] sp) (bd : ∀ (s : Shared) (u : Value), BindsTo s fd ⟨[u], []⟩ [(x, u)])
    (hsp : ∀ H : Hp, Only H → SqL K H a (ns.map V.int) → sp [.ref a] H (fun v _ => v = .bl true) fun _ _ _ => False) :
    codeAny (model P w) callerA (.call (.ref fa) ⟨[.ref a], []⟩) (fun r s' => r = .ok (.ret (.bool true)) ∧ OldK s.heap s'.heap ∧ s'.os = s.os ∧ AllBare s'.gens) s := by
  have rv := vals_ints hi
  have lv := hi.length
  have core : ∀ H : Hp, Only H → SqL K H a (ns.map V.int) → HOk P w H s.heap → (∀ b, H b ≠ none → b = a) → (H a ≠ none → K.lookup a = none) →
      codeAny (model P w) callerA (.call (.ref fa) ⟨[.ref a], []⟩) (fun r s' => r = .ok (.ret (.bool true)) ∧ OldK s.heap s'.heap ∧ s'.os = s.os ∧ AllBare s'.gens) s := by
    intro H hO hS ok only noK
    have got : ∀ {b : Addr} {o : Obj}, s.heap.get? b = some o → H b = none → (hidT s.heap H).get? b = some o := fun e n => hidT_get e n
    have noH : ∀ {b : Addr} {o : Obj} {es : Array DictEntry} {ep : Nat}, s.heap.get? b = some o → o.data = .dict es ep → H b = none := fun {b o es ep} e d => by
      by_cases z : H b = none
      · exact z
      · have e2 := only b z
        subst e2
        rw [ha] at e
        cases e
        have d2 : Data.seq vs.toArray _ = Data.dict es ep := d
        cases d2
    have ns' : ∀ {b : Addr} {m : Str → Option Value}, s.heap.Ns b m → (hidT s.heap H).Ns b m := fun {b m} ⟨o, es, ep, e, d, r⟩ => ⟨o, es, ep, got e (noH e d), d, r⟩
    have inK : K.In (hidT s.heap H) := fun b o e => got (KX b o e) (by
      by_cases z : H b = none
      · exact z
      · have e2 := only b z
        subst e2
        rw [noK z] at e
        cases e)
    have md : Mod K mg (hidT s.heap H) := ⟨inK, ns' n1, ⟨mb, ns' n2, n3⟩, let ⟨mc, h1, h2⟩ := noL; ⟨mc, ns' h1, h2⟩⟩
    have e0 : Env0 P w K mg (hidT s.heap H) callerA [] s H := ⟨rfl, md, fun b o e => of_hidT e, Nat.le_of_eq (hidT_size _ _), trivial, fun b hb => absurd (show b ∈ ([] : List Addr) from hb) (by simp), ok, .of_eq ng⟩
    refine codeAny_mono ((F _ inK (ns' n1)).go callerA [] s H ⟨[.ref a], []⟩ [.ref a] [.ref a] _ _ hr rfl e0 (bd s (.ref a)) (.cons rfl .nil) (hsp H hO hS)) fun r s2 h => ?_
    cases r with
    | error e => exact False.elim h
    | ok fl =>
      cases fl with
      | next => exact False.elim h
      | brk => exact False.elim h
      | cont => exact False.elim h
      | ret u =>
        obtain ⟨v, H2, os, bare, un, ok2, r2, q⟩ := h
        have q2 : v = .bl true := q
        subst q2
        obtain rfl : u = Value.bool true := r2
        refine ⟨rfl, OldK.of_keep fun b o e => ?_, os, bare⟩
        cases z : H b with
        | none => exact un.keep b o e z (fun z => absurd (show b ∈ ([] : List Addr) from z) (by simp)) (by simp)
        | some u =>
          rcases hO b with y | ⟨ob, xs, y⟩
          · rw [z] at y
            cases y
          · have y2 := un.frzs b ob _ y
            obtain ⟨e1, _⟩ := ok b _ y
            obtain ⟨e2, _⟩ := ok2 b _ y2
            rw [e] at e1
            cases e1
            exact e2
  cases hk : K.lookup a with
  | some o =>
    have e := KX a o hk
    rw [ha] at e
    cases e
    exact core (fun _ => none) (fun _ => .inl rfl) (.inr ⟨_, vs.toArray, _, hk, rfl, rfl, rfl, by rw [List.size_toArray, lv]; exact le, by simpa using rv⟩) (fun b u z => by cases (show (none : Option HO) = some u from z)) (fun b z => absurd rfl z) fun z => absurd rfl z
  | none =>
    let H1 : Hp := fun b => if b = a then some (.frz { cls := .type "list", data := .seq vs.toArray } (.lst (ns.map V.int))) else none
    have yes : H1 a = some (.frz { cls := .type "list", data := .seq vs.toArray } (.lst (ns.map V.int))) := if_pos rfl
    have no : ∀ b, b ≠ a → H1 b = none := fun b z => if_neg z
    refine core H1 (fun b => ?_) (.inl (.inr ⟨_, yes⟩)) (fun b u z => ?_) (fun b z => ?_) fun _ => hk
    · by_cases c : b = a
      · exact .inr ⟨_, _, c ▸ yes⟩
      · exact .inl (no b c)
    · by_cases c : b = a
      · subst c
        rw [yes] at z
        cases z
        exact ⟨ha, by rw [List.length_map]; exact le, vs, _, rv, ha⟩
      · rw [no b c] at z
        cases z
    · by_cases c : b = a
      · exact c
      · exact absurd (no b c) z
theorem walkG {l : PySem.W.OpenLaw} {n k : Nat} {q : Program} {loose : List Str} {XP : (Str → Option Value) → Heap → Prop} {YP : World → Heap → Prop} {d : DefRec} {x : Str}
    (hn : l.most = some n) (n2 : n ≤ sizeLine) (hdf : d.params.defaults = []) (hr : Room k callerA)
    (F : ∀ (w : World) (mg : Str → Option Value) (fa : Addr) (h : Heap), YP w h → h.Ns mainGlobals mg → mg d.name = some (.ref fa) →
      ∃ (K : PySem.W.Frag) (fd : FuncData) (sp : Sp), K.In h ∧ (∀ (s : Shared) (u : Value), BindsTo s fd ⟨[u], []⟩ [(x, u)]) ∧
        (∀ (H : Hp) (a : Addr) (ns : List Int), ns.length ≤ n → Only H → SqL K H a (ns.map V.int) → sp [.ref a] H (fun v _ => v = .bl true) fun _ _ _ => False) ∧
        ∀ base : Heap, K.In base → base.Ns mainGlobals mg → FnG l.prog w K mg base k fa fd [x] sp) :
    PySem.W.WalkO q loose XP YP l.row.toRowW d [] (fun f vs => PySem.call f vs) := by
  refine Att.attach_call hn hdf fun w s0 s1 mg mb fa o pm cd doc a vs ns G Y ho hd hcd hmg hob hints hlen hg => ?_
  obtain ⟨K, fd, sp, KX, hb, hsp, hF⟩ := F w mg fa _ Y G.T.g hmg
  exact lawG KX G.T.g G.T.b G.T.builtins G.T.nolimit hg hob hints (Nat.le_trans hlen n2) hr hF hb (fun H hO hS => hsp H a ns hlen hO hS)
end V


set_option Elab.async false
set_option linter.all false
set_option maxRecDepth 100000
set_option maxHeartbeats 400000
namespace V
open PySem PySem.Spec PyProof.Rows L2 Evl TL NumText
theorem room_u {k : Nat} {A : Around} (r : Room k A) : A.units + 80 < cLine := by
  have := r.un
  omega
theorem join2_len : ∀ ts : List Str, (Str.join ", " ts).length ≤ (ts.map (·.length)).sum + 2 * ts.length
  | [] => by
    show ("" : Str).length ≤ 0
    decide +kernel
  | [x] => by
    show x.length ≤ _
    rw [List.map_cons, List.sum_cons]
    omega
  | x :: y :: r => by
    have ih := join2_len (y :: r)
    show (x ++ ", " ++ Str.join ", " (y :: r)).length ≤ _
    rw [str_len_append, str_len_append, show (", " : Str).length = 2 by decide +kernel, List.map_cons, List.sum_cons, List.length_cons]
    omega
theorem tuple_len (ts : List Str) : (tupleText ts).length ≤ (ts.map (·.length)).sum + 2 * ts.length + 3 := by
  unfold tupleText
  have h := join2_len ts
  rw [str_len_append, str_len_append, show ("(" : Str).length = 1 by decide +kernel]
  have : ((if (ts.length == 1) = true then ",)" else ")" : String) : Str).length ≤ 2 := by
    split
    · decide +kernel
    · decide +kernel
  omega
theorem shownAll_map (ds : List PyData) : PyData.shownAll ds = ds.map PyData.shown := by
  induction ds with
  | nil => simp [PyData.shownAll]
  | cons d ds ih => rw [PyData.shownAll, ih, List.map_cons]
theorem shown_tup (ds : List PyData) : (PyData.tuple ds).shown.length ≤ (ds.map fun d => d.shown.length).sum + 2 * ds.length + 3 := by
  rw [PyData.shown]
  have h := tuple_len (PyData.shownAll ds)
  rw [shownAll_map, List.map_map, List.length_map] at h
  rw [shownAll_map]
  exact h
theorem shown_str {x : Str} (h : ∀ c ∈ tl x, c < 1114112) : (PyData.str x).shown.length ≤ 10 * x.length + 2 := by
  rw [PyData.shown]
  exact StrLaws.reprText_len x fun c hc => Nat.lt_trans (h c hc) (by decide)
theorem shown_nat {n : Nat} (h : n < 10000000) : (PyData.int (n : Int)).shown.length ≤ 7 := by
  rw [PyData.shown]
  exact nt_len h
theorem ascii_of {x : Str} (h : x.cps.toList.all (fun c => decide (c < 1114112)) = true) : ∀ c ∈ tl x, c < 1114112 := fun c hc => of_decide_eq_true (List.all_eq_true.mp h c hc)
theorem op_len (o : Op) : o.str.length ≤ 5 := by cases o <;> decide +kernel
theorem op_asc (o : Op) : ∀ c ∈ tl o.str, c < 1114112 := ascii_of (by cases o <;> decide +kernel)
theorem py_shown {M : Nat} (hM : M ≤ 1000002) : ∀ t : Tm, t.Ok M → t.py.shown.length ≤ 150 * t.size := by
  have each : ∀ ts : List Tm, (∀ t ∈ ts, t.py.shown.length ≤ 150 * t.size) → ((Tm.pys ts).map fun d => d.shown.length).sum ≤ 150 * Tm.sizes ts := by
    intro ts
    induction ts with
    | nil => exact fun _ => Nat.le_refl _
    | cons t ts ih =>
      intro h
      have i1 := ih fun u hu => h u (List.mem_cons_of_mem _ hu)
      have i2 := h t (List.mem_cons_self ..)
      show t.py.shown.length + ((Tm.pys ts).map fun d => d.shown.length).sum ≤ 150 * (t.size + Tm.sizes ts)
      omega
  refine Tm.ind (fun n k => ?_) (fun n k => ?_) fun h ts ih k => ?_
  · cases k with
    | num hn =>
      have h1 := shown_tup [.str "num", .int (n : Int)]
      have h2 := shown_str (x := "num") (ascii_of (by decide +kernel))
      have h3 := shown_nat (n := n) (by omega)
      have l3 : ("num" : Str).length = 3 := by decide +kernel
      show (PyData.tuple [.str "num", .int (n : Int)]).shown.length ≤ 150
      simp only [List.map_cons, List.map_nil, List.sum_cons, List.sum_nil, List.length_cons, List.length_nil] at h1
      omega
  · cases k with
    | arg hn =>
      have h1 := shown_tup [.str "arg", .int (n : Int)]
      have h2 := shown_str (x := "arg") (ascii_of (by decide +kernel))
      have h3 := shown_nat (n := n) (by omega)
      have l3 : ("arg" : Str).length = 3 := by decide +kernel
      show (PyData.tuple [.str "arg", .int (n : Int)]).shown.length ≤ 150
      simp only [List.map_cons, List.map_nil, List.sum_cons, List.sum_nil, List.length_cons, List.length_nil] at h1
      omega
  · cases k with
    | node hh hks =>
    have e := each ts fun t ht => ih t ht (hks t ht)
    have le := hh.le
    have nz : (Tm.node h ts).size = 1 + Tm.sizes ts := rfl
    have pl : (Tm.pys ts).length = ts.length := by rw [pys_map, List.length_map]
    have hp := shown_tup (Tm.pys ts)
    cases h with
    | op o =>
      have h1 := shown_tup (.str o.str :: Tm.pys ts)
      have h2 := shown_str (op_asc o)
      have h3 := op_len o
      show (PyData.tuple (.str o.str :: Tm.pys ts)).shown.length ≤ _
      simp only [List.map_cons, List.sum_cons, List.length_cons] at h1
      omega
    | call m =>
      have h1 := shown_tup [.str "call", .str m, .tuple (Tm.pys ts)]
      have h2 := shown_str (x := "call") (ascii_of (by decide +kernel))
      have h3 := shown_str (x := m) fun c hc => by have := hh.1.2 c hc; omega
      have l4 : ("call" : Str).length = 4 := by decide +kernel
      have l6 : m.length = 6 := hh.1.1
      show (PyData.tuple [.str "call", .str m, .tuple (Tm.pys ts)]).shown.length ≤ _
      simp only [List.map_cons, List.map_nil, List.sum_cons, List.sum_nil, List.length_cons, List.length_nil] at h1
      omega
    | ring m =>
      have h1 := shown_tup [.str "ring", .int (m : Int), .tuple (Tm.pys ts)]
      have h2 := shown_str (x := "ring") (ascii_of (by decide +kernel))
      have mM : m ≤ M := hh.1
      have h3 := shown_nat (n := m) (by omega)
      have l4 : ("ring" : Str).length = 4 := by decide +kernel
      show (PyData.tuple [.str "ring", .int (m : Int), .tuple (Tm.pys ts)]).shown.length ≤ _
      simp only [List.map_cons, List.map_nil, List.sum_cons, List.sum_nil, List.length_cons, List.length_nil] at h1
      omega
theorem py_showable {M : Nat} (hM : M ≤ 1000002) : ∀ t : Tm, t.Ok M → t.py.showable = true := by
  have each : ∀ ts : List Tm, (∀ t ∈ ts, t.py.showable = true) → PyData.showableAll (Tm.pys ts) = true := by
    intro ts
    induction ts with
    | nil => exact fun _ => by simp [Tm.pys, PyData.showableAll]
    | cons t ts ih =>
      intro h
      show PyData.showableAll (t.py :: Tm.pys ts) = true
      rw [PyData.showableAll, h t (List.mem_cons_self ..), ih fun u hu => h u (List.mem_cons_of_mem _ hu)]
      rfl
  have int : ∀ n : Nat, n ≤ 1000002 → PyData.showable (.int (n : Int)) = true := fun n hn => by
    rw [PyData.showable]
    exact decide_eq_true (log_small (by omega) (by omega))
  refine Tm.ind (fun n k => ?_) (fun n k => ?_) fun h ts ih k => ?_
  · cases k with
    | num hn =>
      show PyData.showable (.tuple [.str "num", .int (n : Int)]) = true
      rw [PyData.showable, PyData.showableAll, PyData.showableAll, PyData.showableAll, int n hn, PyData.showable]
      rfl
  · cases k with
    | arg hn =>
      show PyData.showable (.tuple [.str "arg", .int (n : Int)]) = true
      rw [PyData.showable, PyData.showableAll, PyData.showableAll, PyData.showableAll, int n (by omega), PyData.showable]
      rfl
  · cases k with
    | node hh hks =>
    have e := each ts fun t ht => ih t ht (hks t ht)
    cases h with
    | op o =>
      show PyData.showable (.tuple (.str o.str :: Tm.pys ts)) = true
      rw [PyData.showable, PyData.showableAll, PyData.showable, e]
      rfl
    | call m =>
      show PyData.showable (.tuple [.str "call", .str m, .tuple (Tm.pys ts)]) = true
      rw [PyData.showable, PyData.showableAll, PyData.showableAll, PyData.showableAll, PyData.showableAll, PyData.showable, PyData.showable, PyData.showable, e]
      rfl
    | ring m =>
      have mM : m ≤ M := hh.1
      show PyData.showable (.tuple [.str "ring", .int (m : Int), .tuple (Tm.pys ts)]) = true
      rw [PyData.showable, PyData.showableAll, PyData.showableAll, PyData.showableAll, PyData.showableAll, int m (by omega), PyData.showable, PyData.showable, e]
      rfl
theorem py_show {M : Nat} (hM : M ≤ 1000002) {t : Tm} (k : t.Ok M) (d : t.deep ≤ 32) (z : t.size ≤ 1000) : t.py.showable = true ∧ t.py.hasDict = false ∧ t.py.depth ≤ 64 ∧ t.py.shown.length ≤ sizeLine :=
  ⟨py_showable hM t k, PyData.hasDict_of_canLay _ (py_lay t k).1, by have := (py_lay t k).2; omega, by
    have h := py_shown hM t k
    have big : sizeLine = 16777216 := sizeLine_eq
    omega⟩
end V


set_option Elab.async false
set_option linter.all false
set_option maxRecDepth 100000
set_option maxHeartbeats 4000000
/-! set(xs), xs a list of texts -/
namespace VS
open PySem PySem.Spec PyProof.Rows L2 Evl
/-- a set as it is made -/
def nuS (w : World) : Obj := { cls := .type "set", dict := none, data := .set #[] 0 (.fresh 0 0 (!w.params.followText "set-order")) }
theorem nu_S {w : World} {h : Heap} {a : Addr} (g : h.get? a = some (nuS w)) : SetS w h a (fun _ => false) 0 :=
  ⟨_, #[], 0, _, g, ⟨rfl, rfl, rfl⟩, rfl, (fun m hm => by simp at hm), (by simp), (fun x => by simp), (by decide), (by rfl), rfl, List.Pairwise.nil, by
    show _ ∨ (!w.params.followText "set-order") = true
    cases w.params.followText "set-order"
    · exact .inr rfl
    · exact .inl rfl⟩
theorem SetS.like {w : World} {h : Heap} {a : Addr} {S S' : Str → Bool} {n : Nat} (R : SetS w h a S n) (e : ∀ x, S x = S' x) : SetS w h a S' n := by
  have : S = S' := funext e
  rw [← this]
  exact R
section
variable {P : Program} {w : World} {A : Around} {E : Value → Shared → Prop} {s : Shared}
theorem upd_loop {J : Addr} {fs ws : List Addr} {G : Array GenState → Array GenState → Prop} {m : Nat} {Pv : Nat → Value → Prop} {St : Nat → Shared → Prop} {R : Result → Shared → Prop}
    (W : WalksS P w A.in1 J fs ws G m Pv St) (a : Addr) (na : a ∉ fs) (xs : List Str) (em : m = xs.length) (few : xs.length + 1 < scanBound) (at_ : ∀ i v, Pv i v → ∃ x t, xs[i]? = some x ∧ v = .str x t) :
    ∀ (k i : Nat) (s : Shared), m - i = k → i ≤ m → St i s → (∃ c, c ≤ i ∧ SetS w s.heap a (fun y => decide (y ∈ xs.take i)) c) →
      (∀ s' c, Moved (a :: ws) G s s' → c ≤ m → SetS w s'.heap a (fun y => decide (y ∈ xs)) c → R (.ok (.ret .none)) s') →
      codeAny (model P w) A (.builtin "set.update.loop" ⟨[.ref a, .ref J], []⟩) R s := by
  have nw : a ∉ ws := fun z => na (W.sub _ z)
  have sub : ∀ b ∈ ws, b ∈ a :: ws := fun b z => List.mem_cons_of_mem _ z
  intro k
  induction k with
  | zero =>
    intro i s ek hi st ⟨c, hc, hS⟩ fin
    obtain rfl : i = m := by omega
    refine codeAny_builtin F.entry_set_update_loop ?_
    rw [Around.under_plainId F.plain_set_update_loop _]
    show wpAny _ A.in1 (pyNext (.ref J) >>= _) _ _ s
    refine wpAny_bind (W.done s _ _ st fun s' mv => ?_)
    show wpAny _ A.in1 (ret Value.none) _ _ s'
    have e : xs.take i = xs := List.take_of_length_le (by omega)
    rw [e] at hS
    exact wpAny_pure (fin s' c (mv.mono sub) hc (hS.keep fun o z => mv.heap a o nw z))
  | succ k ih =>
    intro i s ek hi st ⟨c, hc, hS⟩ fin
    have lt : i < m := by omega
    refine codeAny_builtin F.entry_set_update_loop ?_
    rw [Around.under_plainId F.plain_set_update_loop _]
    show wpAny _ A.in1 (pyNext (.ref J) >>= _) _ _ s
    refine wpAny_bind (W.item i s _ _ lt st fun v s' pv st' mv => ?_)
    obtain ⟨x, t, hx, rfl⟩ := at_ i v pv
    have hS' : SetS w s'.heap a (fun y => decide (y ∈ xs.take i)) c := hS.keep fun o z => mv.heap a o nw z
    show wpAny _ A.in1 (holding [Value.str x t] (setAdd a (.str x t)) >>= _) _ _ s'
    refine wpAny_bind (wpAny_holding ?_)
    unfold setAdd
    refine wpAny_holding ?_
    refine wpAny_bind ((PySem.strKind P w).pyHash (k := x) (PySem.strKind_is _ _ _ _) ?_)
    refine addHashed_S (s := { s' with toks := s'.toks + 1 }) hS' (by omega) fun h' sb new => ?_
    have new' : SetS w h' a (fun y => decide (y ∈ xs.take (i + 1))) (if decide (x ∈ xs.take i) = true then c else c + 1) := new.like fun y => by
      rw [List.take_add_one, hx]
      simp [List.mem_append]
    have hc' : (if decide (x ∈ xs.take i) = true then c else c + 1) ≤ i + 1 := by
      split <;> omega
    refine wpAny_pure ⟨plainId_quiet F.plain_set_update_loop _, ih (i + 1) _ (by omega) lt (W.frame _ s' _ _ st' (Nat.le_succ _) fun b hb o z => ?_) ⟨_, hc', new'⟩ fun s2 c2 mv2 le2 S2 => ?_⟩
    · rw [sb.2 b fun z => na (z ▸ hb)]
      exact z
    · refine fin s2 c2 (Moved.trans W.gtrans ((mv.mono sub).then_heap (Nat.le_succ _) fun b o hb z => ?_) mv2) le2 S2
      rw [sb.2 b fun z => hb (z ▸ List.mem_cons_self)]
      exact z
set_option maxRecDepth 100000 in
set_option maxHeartbeats 3200000 in
theorem call_setS {l : Addr} {items : Array Value} (xs : List Str) {Q : Value → Shared → Prop} (nh : A.handled = none) (hl : s.heap.IsList l items) (hit : StrsAre items.toList xs) (few : xs.length + 1 < scanBound)
    (q : ∀ (h' : Heap) (tk c : Nat), SetS w h' s.heap.objs.size (fun y => decide (y ∈ xs)) c → c ≤ xs.length → (∀ b o, s.heap.get? b = some o → h'.get? b = some o) → Q (.ref s.heap.objs.size) { s with heap := h', toks := tk }) :
    wpAny (model P w) A (call (.type "set") [.ref l]) Q E s := by
  have sz : items.size = xs.length := by
    have z := PyProof.Rows.StrsAre.len_eq hit
    rw [Array.length_toList] at z
    exact z
  obtain ⟨c, tl, hmro⟩ := F.called_set.mro
  have m1 := F.called_set.made
  have m2 := F.called_set.sub
  refine wpAny_call (codeAny_of_tree ?_)
  show wpAny _ _ (callAny (.type "set") _) _ _ _
  refine wpAny_pure ⟨Code.quiet_builtin _ (by decide +kernel), codeAny_builtin F.entry_type_call ?_⟩
  rw [Around.under_plain (weight_type_call_type "set" [.ref l] []) rfl]
  have m3 := F.called_set.notType
  have m4 := F.called_set.canCreate
  have m5 := F.typeCall_set_1 (.ref l)
  repeat (any_goals (first | assumption | wp_step))
  refine codeAny_mono (code_set_led1 (.ref l) (E := E) (Q₁ := fun ob s1 => ob = .ref s.heap.objs.size ∧ s1 = { s with heap := s.heap.push (nuS w) }) ⟨rfl, rfl⟩) fun r s1 hr => ?_
  cases r with
  | error e => exact hr
  | ok fl =>
    cases fl with
    | ret ob =>
      obtain ⟨rfl, rfl⟩ := hr
      have g0 : (s.heap.push (nuS w)).get? s.heap.objs.size = some (nuS w) := Heap.get?_push_size _ rfl
      have ty : Shared.TypeIs { s with heap := s.heap.push (nuS w) } (.ref s.heap.objs.size) "set" := ⟨_, g0, rfl⟩
      have m6 := F.called_set.init.lookup
      have m7 := F.called_set.init.bind (.ref s.heap.objs.size)
      repeat (any_goals (first | assumption | wp_step))
      refine codeAny_mono (codeAny_call_builtin (R := wants (fun r s2 => r = .none ∧ ∃ h' tk c, s2 = { s with heap := h', toks := tk } ∧ SetS w h' s.heap.objs.size (fun y => decide (y ∈ xs)) c ∧ c ≤ xs.length ∧
          (∀ b o, s.heap.get? b = some o → h'.get? b = some o)) E) F.called_set.init.plain F.entry_set_init (check_set_init_1 ty ?_)) fun r2 s2 hr2 => ?_
      · obtain ⟨ol, hol, hcl, nl, hdl⟩ := hl
        obtain ⟨ocls, odict, odata, oslots⟩ := ol
        simp only at hcl hdl
        subst hcl; subst hdl
        have hol' : (s.heap.push (nuS w)).get? l = some { cls := .type "list", dict := odict, data := .seq items nl, slots := oslots } := Heap.get?_push_of_some _ hol
        have n1 := F.sub_list_set
        have n2 := F.sub_list_frozenset
        have n3 : (Value.type "list" == Value.type "dict") = false := by decide
        have hl1 : (s.heap.push (nuS w)).IsList l items := ⟨_, hol', rfl, nl, rfl⟩
        unfold Builtin.«set.__init__» noKeywords Builtin.Frozenset.updateFrom
        generalize hPI : pyIter = PI
        wp_walk
        subst hPI
        refine wpAny_pyIter_list hl1 ?_
        refine wpAny_bind (wpAny_runValue ?_)
        have ll : l < s.heap.objs.size := Heap.lt_size hol
        have nh3 : A.in1.in1.in1.handled = none := by simp [nh]
        have nl1 : l ≠ (s.heap.push (nuS w)).objs.size := by
          rw [Heap.size_push]
          exact Nat.ne_of_lt (Nat.lt_succ_of_lt ll)
        have na : s.heap.objs.size ∉ [(s.heap.push (nuS w)).objs.size, l] := by
          rw [Heap.size_push]
          intro z
          rcases List.mem_cons.mp z with z | z
          · exact Nat.ne_of_lt (Nat.lt_succ_self _) z
          · exact Nat.ne_of_lt ll (List.mem_singleton.mp z).symm
        have at_ : ∀ (i : Nat) (v : Value), items[i]? = some v → ∃ x t, xs[i]? = some x ∧ v = .str x t := fun i v hv => by
          have hi : i < xs.length := by rw [← sz]; exact (Array.getElem?_eq_some_iff.mp hv).1
          obtain ⟨t, e⟩ := SS.strs_at hit i v (by rw [Array.getElem?_toList]; exact hv)
          refine ⟨xs[i], t, List.getElem?_eq_getElem hi, ?_⟩
          rw [e, List.getD_eq_getElem?_getD, List.getElem?_eq_getElem hi] <;> rfl
        refine upd_loop ((Walks.list nh3 _ l nl1 items).toS) s.heap.objs.size na xs sz few at_ (items.size - 0) 0 _ (by omega) (Nat.zero_le _) ⟨⟨_, Heap.get?_push_size _ rfl, rfl, rfl⟩, (hl1.push _)⟩ ?one ?two
        case one =>
          have gg : ((s.heap.push (nuS w)).push { cls := .type "list_iterator", data := .fields #[.ref l, .int 0 0] }).get? s.heap.objs.size = some (nuS w) := Heap.get?_push_of_some _ g0
          exact ⟨0, Nat.le_refl 0, (nu_S gg).like fun y => by simp⟩
        case two =>
          intro s3 c3 mv le3 S3
          obtain ⟨h', g2, d', tk', os'⟩ := s3
          have z1 : g2 = s.gens := mv.gens
          have z2 : d' = s.drawn := mv.drawn
          have z3 : os' = s.os := mv.os
          subst z1; subst z2; subst z3
          show wpAny _ _ _ _ _ _
          refine wpAny_pure ?_
          show wpAny _ _ (ret Value.none) _ _ _
          rw [sz] at le3
          refine wpAny_pure ⟨rfl, h', tk', c3, rfl, S3, le3, fun b o e => ?_⟩
          have lb : b < s.heap.objs.size := Heap.lt_size e
          refine mv.heap b o (fun z => ?_) (Heap.get?_push_of_some _ (Heap.get?_push_of_some _ e))
          rcases List.mem_cons.mp z with z | z
          · exact Nat.ne_of_lt lb z
          · have z4 := List.mem_singleton.mp z
            rw [Heap.size_push] at z4
            exact Nat.ne_of_lt (Nat.lt_succ_of_lt lb) z4
      · cases r2 with
        | error e => exact hr2
        | ok fl2 =>
          cases fl2 with
          | ret r =>
            obtain ⟨rfl, h', tk, c3, rfl, S3, le3, k3⟩ := hr2
            repeat (any_goals (first | assumption | wp_step))
            exact q _ _ _ S3 le3 k3
          | _ => exact hr2.elim
    | _ => exact hr.elim
end
section
variable {X : Cx}
/-- set(xs) -/
def rSetS (w : World) (K : PySem.W.Frag) : List V → Hp → VK → Prop := fun vs H Q => ∃ (a : Addr) (xs : List Str), vs = [V.ref a] ∧ SqL K H a (xs.map V.str) ∧ xs.length ≤ 4000 ∧
  ∀ (p : Addr) (n : Nat), H p = none → n ≤ xs.length → Q (.ref p) (upd H p (SetSO w p (fun y => decide (y ∈ xs)) n))
theorem cr_setS (hc : X.calm = true) : CallR X (.type "set") (rSetS X.w X.K) := by
  intro pins s σ H vs us Q I r h
  obtain ⟨a, xs, rfl, ha, few, q⟩ := h
  obtain ⟨its, rv, pl, hz⟩ := I.list ha
  rw [Vals.ref1 r]
  refine call_setS xs (I.ok.hd hc) pl.isList (by simpa using strsAre_of rv) (by unfold scanBound; omega) fun h' tk n new le k => ?_
  have np : H s.heap.objs.size = none := I.hok.fresh (Nat.le_refl _)
  exact ⟨.ref _, _, I.laid (t' := tk) (o := SetSO X.w s.heap.objs.size (fun y => decide (y ∈ xs)) n) (fun b o e => k b o e) (Nat.le_refl _) (SetSO.mk new), rfl, q _ n np le⟩
end
end VS


set_option Elab.async false
set_option linter.all false
set_option maxRecDepth 100000
set_option maxHeartbeats 400000
namespace V
open PySem PySem.Spec PyProof.Rows L2 Evl TL NumText
theorem y_run {te : TE} {σ : L2.St} {H : Hp} {R : Hp → V → Prop} {Q : VK} (h : Yl te σ H R) (k : ∀ H2 v, Ex H H2 → R H2 v → Q v H2) : te σ H Q := h H (Ex.refl H) Q k
theorem y_set {te : TE} {i : Nat} {D : Ends} {σ : L2.St} {H : Hp} {R : Hp → V → Prop} (h : Yl te σ H R) (k : ∀ H2 v, Ex H H2 → R H2 v → D.nx (σ.set i (some v)) H2) : tAsg te (gName i) D σ H := h H (Ex.refl H) _ k
theorem y_lst {A : TA} {σ : L2.St} {H : Hp} {R : Hp → List V → Prop} {Q : VK} (h : Ya A σ H R) (k : ∀ H2 vs, Ex H H2 → R H2 vs → vs.length ≤ sizeLine ∧ ∀ p, H2 p = none → Q (.ref p) (upd H2 p (.lst vs))) : tLst A σ H Q := h H (Ex.refl H) _ k
theorem yl_callV {σ : L2.St} {H : Hp} {te : TE} {ta : TA} {m : Str} {ts : List Tm} (hm : Yl te σ H (IsV (.str m))) (h : Ya ta σ H (TmsR ts)) (k : ts.length ≤ 4 := by exact Nat.le_of_ble_eq_true rfl) :
    Yl (tTup (tCons (tC (.str "call")) (tCons te (tCons (tTup ta) tNil)))) σ H (TmR (.node (.call m) ts)) := fun H1 e Q q =>
  hm H1 e _ fun H2 v e2 r => by
    have r' : v = .str m := r
    subst r'
    exact h H2 (e.trans e2) _ fun H3 vs e3 r3 => ⟨by have := tms_len r3 k; omega, fun p hp => ⟨sz 3, fun p2 hp2 => by
      have f1 := Ex.new (o := .tup vs) hp
      have f2 := Ex.new (o := .tup [.str "call", .str m, .ref p]) hp2
      exact q _ _ (e2.trans (e3.trans (f1.trans f2))) (.call upd_same (f2 p _ upd_same) (TmsAt.ex r3 (f1.trans f2)))⟩⟩
theorem seqs {t u : TS} {A B : L2.St → Hp → Prop} {D : Ends} {σ : L2.St} {H : Hp} (h1 : Hs t A B) (a : A σ H) (k : ∀ σ' H', B σ' H' → u D σ' H') : tSeq t u D σ H := h1 { D with nx := u D } σ H a k
theorem asgE {te : TE} {g : TG} {D : Ends} {σ : L2.St} {H : Hp} (h : te σ H fun x H1 => g x σ H1 D.nx) : tAsg te g D σ H := h
end V


set_option Elab.async false
set_option linter.all false
set_option maxRecDepth 100000
set_option maxHeartbeats 400000
namespace V
open PySem PySem.Spec PyProof.Rows L2 Evl TL NumText
def spRight : Sp := fun vs H Q _ => ∃ (b : Addr) (n : Nat), vs = [.ref b] ∧ Box H b (n + 1000) ∧ ∀ (H' : Hp), But b H H' → Box H' b n → Q (.bl true) H'
theorem tup_new {H : Hp} {p : Addr} {xs : List V} (hp : H p = none) : Ex H (upd H p (.tup xs)) := Ex.new hp
section
variable {P : Program} {w : World} {K : PySem.W.Frag} {mg : Str → Option Value} {base : Heap}
theorem ok_right (T : Txt K w mg) (G__law_take : Cal P w K mg base 1 "_law_take" ["box", "size"] spTake) (G__law_some_mark : Cal P w K mg base 2 "_law_some_mark" ["box"] spSomeMark) (G__law_any_term : Cal P w K mg base 6 "_law_any_term" ["box"] spAny)
    (G__law_deep : Cal P w K mg base 11 "_law_deep" ["term"] (spDeep 10)) (G__law_size : Cal P w K mg base 9 "_law_size" ["term"] (spSize 8)) (G__law_marks : Cal P w K mg base 9 "_law_marks" ["term"] (spMarksL 8)) (G__law_spots : Cal P w K mg base 9 "_law_spots" ["term"] (spPlaces 8))
    (G_calls_of : Cal P w K mg base 10 "calls_of" ["term"] (spCalls 8)) (G_places_of : Cal P w K mg base 10 "places_of" ["term"] (spPlaces 8)) (G_size_of : Cal P w K mg base 10 "size_of" ["term"] (spSize 8)) (G_deep_of : Cal P w K mg base 9 "deep_of" ["term"] (spDeep 8))
    (G__law_same : Cal P w K mg base 4 "_law_same" ["found", "due"] (spSame K 4)) : CalG P w K mg base 12 "_law_right" ["box"] spRight := by
  refine T.D__law_right.calG sc__law_right (fun vs H Q E h => ?_) (fun f cdv A outer s H vs Q E hr hG h => ?_)
  · obtain ⟨b, n, rfl, _⟩ := h
    rfl
  obtain ⟨b, n, rfl, hB, q⟩ := h
  refine ⟨_, (pss_cons (ps_set (i := 1) sc__law_right.nd rfl (.inl rfl) (pe_fn G__law_any_term hr (by omega) (pa_cons (pv 0) pa_nil)))
  (pss_cons (ps_if (pt_cmpR op_eq (pe_fn G__law_take hr (by omega) (pa_cons (pv 0) (pa_cons pe_int pa_nil))) pe_int (nomark _))
    (pss_cons (ps_par (i := 2) (j := 3) rfl sc__law_right.nd rfl rfl (by decide) rfl rfl (pa_cons (pe_fn G__law_any_term hr (by omega) (pa_cons (pv 0) pa_nil)) (pa_cons (pe_fn G__law_some_mark hr (by omega) (pa_cons (pv 0) pa_nil)) pa_nil)) rfl)
    (pss_cons (ps_set (i := 4) sc__law_right.nd rfl (.inl rfl) (pe_lst (pa_cons (pe_tup (pa_cons pe_str (pa_cons (pv 1) (pa_cons (pe_tup (pa_cons pe_str (pa_cons (pv 3) (pa_cons (pe_tup (pa_cons (pe_tup (pa_cons pe_str (pa_cons (pv 3) (pa_cons (pe_tup pa_nil) pa_nil)))) (pa_cons (pv 2) pa_nil))) pa_nil)))) pa_nil)))) (pa_cons (pe_tup (pa_cons pe_str (pa_cons pe_int (pa_cons (pe_tup (pa_cons (pv 2) (pa_cons (pe_tup (pa_cons pe_str (pa_cons pe_int (pa_cons (pe_tup pa_nil) pa_nil)))) (pa_cons (pv 1) pa_nil)))) pa_nil)))) pa_nil))))
    (pss_cons (ps_set (i := 5) sc__law_right.nd rfl (.inl rfl) (pe_ix (r := rIxL K) ix_list (pv 4) (pe_fn G__law_take hr (by omega) (pa_cons (pv 0) (pa_cons pe_int pa_nil))) (fun _ _ => rfl)))
    (pss_one (ps_set (i := 1) sc__law_right.nd rfl (.inl rfl) (pe_ifExp (pt_cmpR op_lt (pe_fn G__law_deep hr (by omega) (pa_cons (pv 5) pa_nil)) pe_int (nomark _)) (pv 5) (pv 2)))))))
    pss_nil)
  (pss_cons (ps_par (i := 6) (j := 7) rfl sc__law_right.nd rfl rfl (by decide) rfl rfl (pa_cons (pe_bi (cr_repr hG (room_u hr)) T.z_repr (pa_cons (pv 1) pa_nil)) (pa_cons (pe_lst (pa_cons (pe_bi (VS.cr_sortS rfl) T.z_sorted (pa_cons (pe_bt (VS.cr_setS rfl) T.z_set (pa_cons (pe_fn G__law_marks hr (by omega) (pa_cons (pv 1) pa_nil)) pa_nil)) pa_nil)) (pa_cons (pe_fn G__law_spots hr (by omega) (pa_cons (pv 1) pa_nil)) pa_nil))) pa_nil)) rfl)
  (pss_cons (ps_for PassesOwn.never rfl (pi_range1 rfl T.z_range (pa_cons pe_int pa_nil)) (pg_name (i := 8) sc__law_right.nd rfl (.inl rfl))
    (pss_cons (ps_set (i := 9) sc__law_right.nd rfl (.inl rfl) (pe_lst (pa_cons (pe_fn G_calls_of hr (by omega) (pa_cons (pv 1) pa_nil)) (pa_cons (pe_fn G_places_of hr (by omega) (pa_cons (pv 1) pa_nil)) pa_nil))))
    (pss_cons (ps_if (pt_not (pt_val (pe_fn G__law_same hr (by omega) (pa_cons (pe_lst (pa_cons (pe_fn G_deep_of hr (by omega) (pa_cons (pv 1) pa_nil)) (pa_cons (pe_fn G_size_of hr (by omega) (pa_cons (pv 1) pa_nil)) pa_nil))) (pa_cons (pe_lst (pa_cons (pe_fn G__law_deep hr (by omega) (pa_cons (pv 1) pa_nil)) (pa_cons (pe_fn G__law_size hr (by omega) (pa_cons (pv 1) pa_nil)) pa_nil))) pa_nil)))))
      (pss_one (ps_ret pe_bl))
      pss_nil)
    (pss_cons (ps_if (pt_not (pt_val (pe_fn G__law_same hr (by omega) (pa_cons (pv 9) (pa_cons (pv 7) pa_nil)))))
      (pss_one (ps_ret pe_bl))
      pss_nil)
    (pss_one (ps_for PassesOwn.never rfl (pi_list (pv 9)) (pg_name (i := 4) sc__law_right.nd rfl (.inl rfl))
      (pss_cons (ps_expr (pe_bm0 PySem.F.plainAttrs_list PySem.F.slot_list_reverse PySem.F.type_list_reverse mt_reverse (pv 4)))
      (pss_one (ps_expr (pe_bm PySem.F.plainAttrs_list PySem.F.slot_list_append PySem.F.type_list_append mt_append (pv 4) (pa_cons pe_str pa_nil)))))))))))
  (pss_one (ps_ret (pe_cmpR op_eq (pe_bi (cr_repr hG (room_u hr)) T.z_repr (pa_cons (pv 1) pa_nil)) (pv 6) (nomark _)))))))), ?_⟩
  let A0 : L2.St → Hp → Prop := fun σ H' => σ = [some (.ref b), none, none, none, none, none, none, none, none, none] ∧ H' = H
  let A1 : L2.St → Hp → Prop := fun σ H' => ∃ (v : V) (t : Tm), σ = [some (.ref b), some v, none, none, none, none, none, none, none, none] ∧ But b H H' ∧ Box H' b (n + 600) ∧ TmAt H' v t ∧ t.Ok 11 ∧ t.deep ≤ 8 ∧ t.size ≤ 50
  let A2 : L2.St → Hp → Prop := fun σ H' => ∃ (v : V) (t : Tm) (y2 y3 y4 y5 : Option V), σ = [some (.ref b), some v, y2, y3, y4, y5, none, none, none, none] ∧ But b H H' ∧ Box H' b n ∧ TmAt H' v t ∧ t.Ok 11 ∧ t.deep ≤ 8 ∧ t.size ≤ 110
  let A3 : L2.St → Hp → Prop := fun σ H' => ∃ (v : V) (t : Tm) (y2 y3 y4 y5 y8 y9 : Option V) (pd m1 s1 : Addr) (ms : List Str), σ = [some (.ref b), some v, y2, y3, y4, y5, some (.str t.py.shown), some (.ref pd), y8, y9] ∧ But b H H' ∧ Box H' b n ∧ TmAt H' v t ∧ t.Ok 11 ∧ t.deep ≤ 8 ∧ t.size ≤ 110 ∧
    H' pd = some (.lst [.ref m1, .ref s1]) ∧ H' m1 = some (.lst (ms.map V.str)) ∧ H' s1 = some (.lst (t.places.map fun k : Nat => V.int (k : Int))) ∧ ms.Pairwise tlt ∧ (∀ x, x ∈ ms ↔ x ∈ t.marks)
  refine (Hs.fin (A := A0) (B := A1) ?_ (Hs.fin (B := A2) ?_ (Hs.fin (B := A3) ?_ (Hs.fin (B := A3) ?_ (Q := Q) ?_)))) _ _ H ⟨rfl, rfl⟩ fun v H' h => h
  · rintro D σ H0 ⟨rfl, rfl⟩ kk
    exact ⟨_, rfl, b, n + 600, rfl, hB, fun H1 v t u1 B1 g o d z => kk _ _ ⟨v, t, rfl, u1, B1, g, o, d, z⟩⟩
  · rintro D σ H1 ⟨v, t, rfl, u1, B1, g, o, d, z⟩ kk
    refine ⟨_, rfl, b, 2, n + 599, rfl, by decide, by decide, B1, fun H2 r u2 B2 r0 r1 => ⟨rfl, _, rfl, ?_⟩⟩
    have g2 := g.tu (B1.tu u2)
    by_cases c0 : r = 0
    · subst c0
      rw [decide_eq_true rfl]
      let C0 : L2.St → Hp → Prop := fun σ H' => σ = [some (.ref b), some v, none, none, none, none, none, none, none, none] ∧ H' = H2
      let C1 : L2.St → Hp → Prop := fun σ H4 => ∃ (v2 : V) (t2 : Tm) (m : Str), σ = [some (.ref b), some v, some v2, some (.str m), none, none, none, none, none, none] ∧ But b H H4 ∧ Box H4 b (n + 50) ∧ TmAt H4 v t ∧ TmAt H4 v2 t2 ∧ t2.Ok 11 ∧ t2.deep ≤ 8 ∧ t2.size ≤ 50 ∧ isMk m
      let C2 : L2.St → Hp → Prop := fun σ H4 => ∃ (v2 : V) (t2 : Tm) (m : Str) (pl : Addr) (vs : List V), σ = [some (.ref b), some v, some v2, some (.str m), some (.ref pl), none, none, none, none, none] ∧ But b H H4 ∧ Box H4 b (n + 50) ∧ TmAt H4 v t ∧ TmAt H4 v2 t2 ∧ t2.Ok 11 ∧ t2.deep ≤ 8 ∧ t2.size ≤ 50 ∧ isMk m ∧
        pl ≠ b ∧ H4 pl = some (.lst vs) ∧ TmsAt H4 vs [.node (.op .add) [t, .node (.call m) [.node (.call m) [], t2]], .node (.ring 7) [t2, .node (.ring 7) [], t]]
      refine iteT (seqs (A := C0) (B := C1) ?_ ⟨rfl, rfl⟩ fun σ1 H4' c1 => seqs (A := C1) (B := C2) ?_ c1 ?_)
      · rintro D σ H' ⟨rfl, rfl⟩ k1
        exact ⟨_, rfl, b, n + 100, rfl, B2.less (by omega), fun H3 v2 t2 u3 B3 g3 o3 d3 z3 => ⟨_, rfl, b, n + 50, rfl, B3.less (by omega), fun H4 m u4 B4 hm => ⟨_, _, rfl, k1 _ _ ⟨v2, t2, m, rfl, u1.trans (u2.trans (u3.trans u4)), B4, (g2.tu (B2.tu u3)).tu (B3.tu u4), g3.tu (B3.tu u4), o3, d3, z3, hm⟩⟩⟩⟩
      · rintro D σ H4 ⟨v2, t2, m, rfl, u04, B4, ga, gb, o3, d3, z3, hm⟩ k1
        refine asgE (y_lst (R := TmsR [.node (.op .add) [t, .node (.call m) [.node (.call m) [], t2]], .node (.ring 7) [t2, .node (.ring 7) [], t]]) (ya_t (yl_op .add (ya_t (yl_varT ga) (ya_t (yl_callV (yl_varV (.str m)) (ya_t (yl_callV (yl_varV (.str m)) ya_tnil) (ya_t (yl_varT gb) ya_tnil))) ya_tnil)))
          (ya_t (yl_ring 7 (ya_t (yl_varT gb) (ya_t (yl_ring 7 ya_tnil) (ya_t (yl_varT ga) ya_tnil)))) ya_tnil)) fun H5 vs e5 r5 => ⟨?_, fun pl hpl => k1 _ _ ?_⟩)
        · rw [TmsAt.length r5]
          exact sz 2
        · have e6 := e5.trans (Ex.new (o := .lst vs) hpl)
          exact ⟨v2, t2, m, pl, vs, rfl, u04.trans (But.of e6), B4.ex e6, ga.ex e6, gb.ex e6, o3, d3, z3, hm, (B4.ex e5).ne hpl, upd_same, TmsAt.ex r5 (Ex.new hpl)⟩
      rintro σ H5 ⟨v2, t2, m, pl, vs, rfl, u05, B5, ga, gb, o3, d3, z3, hm, npl, hpl, r5⟩
      let t3 : Tm := .node (.op .add) [t, .node (.call m) [.node (.call m) [], t2]]
      let t4 : Tm := .node (.ring 7) [t2, .node (.ring 7) [], t]
      refine ⟨_, rfl, _, rfl, b, 2, n + 49, rfl, by decide, by decide, B5, fun H6 k u6 B6 k0 k1 => ?_⟩
      have u06 : But b H H6 := u05.trans u6
      have okm : ∀ x : Tm, x = t3 ∨ x = t4 → x.Ok 11 ∧ x.deep ≤ 10 ∧ x.size ≤ 110 := by
        rintro x (rfl | rfl)
        · refine ⟨.node rfl fun y hy => ?_, ?_, ?_⟩
          · simp only [List.mem_cons, List.not_mem_nil, or_false] at hy
            rcases hy with rfl | rfl
            · exact o
            · refine .node ⟨hm, Nat.le_of_ble_eq_true rfl⟩ fun y hy => ?_
              simp only [List.mem_cons, List.not_mem_nil, or_false] at hy
              rcases hy with rfl | rfl
              · exact .node ⟨hm, by decide⟩ fun y hy => by cases hy
              · exact o3
          · show 1 + max t.deep (max (1 + max (1 + 0) (max t2.deep 0)) 0) ≤ 10
            omega
          · show 1 + (t.size + ((1 + ((1 + 0) + (t2.size + 0))) + 0)) ≤ 110
            omega
        · refine ⟨.node ⟨by decide, Nat.le_of_ble_eq_true rfl⟩ fun y hy => ?_, ?_, ?_⟩
          · simp only [List.mem_cons, List.not_mem_nil, or_false] at hy
            rcases hy with rfl | rfl | rfl
            · exact o3
            · exact .node ⟨by decide, by decide⟩ fun y hy => by cases hy
            · exact o
          · show 1 + max t2.deep (max (1 + 0) (max t.deep 0)) ≤ 10
            omega
          · show 1 + (t2.size + ((1 + 0) + (t.size + 0))) ≤ 110
            omega
      obtain ⟨wv, wt, hat, gw, hx⟩ : ∃ (wv : V) (wt : Tm), atI vs k = some wv ∧ TmAt H6 wv wt ∧ (wt = t3 ∨ wt = t4) := by
        have r6 : TmsAt H6 vs [t3, t4] := TmsAt.tu (B5.tu u6) r5
        have w2 : k = 0 ∨ k = 1 := by omega
        cases r6 with
        | @cons x xs _ _ g1 r7 =>
          cases r7 with
          | @cons y ys _ _ g2 r8 =>
            rcases w2 with rfl | rfl
            · exact ⟨x, t3, at0, g1, .inl rfl⟩
            · exact ⟨y, t4, at1, g2, .inr rfl⟩
      obtain ⟨wO, wD, wZ⟩ := okm wt hx
      have gb6 := gb.tu (B5.tu u6)
      refine ⟨pl, _, k, _, rfl, rfl, SqL.of (u6 pl _ npl hpl), hat, ?_⟩
      refine ⟨_, rfl, wv, wt, 11, rfl, gw, wO, wD, fun H7 e7 => ⟨_, _, rfl, rfl, _, rfl, ite2 (fun c => ?_) fun _ => ?_⟩⟩
      · have d9 : (wt.deep : Int) < 9 := of_decide_eq_true c
        exact ⟨_, rfl, kk _ _ ⟨wv, wt, some v2, some (.str m), some (.ref pl), some wv, rfl, u06.trans (But.of e7), (B6.ex e7).less (by omega), gw.ex e7, wO, by omega, wZ⟩⟩
      · exact ⟨_, rfl, kk _ _ ⟨v2, t2, some v2, some (.str m), some (.ref pl), some wv, rfl, u06.trans (But.of e7), (B6.ex e7).less (by omega), gb6.ex e7, o3, d3, by omega⟩⟩
    · rw [decide_eq_false fun z => c0 (V.int.inj z)]
      exact iteF (kk _ _ ⟨v, t, none, none, none, none, rfl, u1.trans u2, B2.less (by omega), g2, o, d, by omega⟩)
  · rintro D σ H1 ⟨v, t, y2, y3, y4, y5, rfl, u1, B1, g, o, d, z⟩ kk
    have ml := mks_len t
    obtain ⟨r1, r2, r3, r4⟩ := py_show (by decide) o (by omega) (by omega)
    refine ⟨_, rfl, v, t.py, rfl, g.dp, r1, r2, r3, r4, _, rfl, v, t, 11, rfl, g, o, d, by omega, fun H2 p2 n2 e2 h2 => ?_⟩
    refine ⟨_, _, rfl, SqL.of h2, by omega, fun ps m hps hm => ⟨ps, _, m, rfl, upd_same, fun ys pz sorted nodup mem hpz => ?_⟩⟩
    have f1 := Ex.new (o := VS.SetSO w ps (fun y => decide (y ∈ t.marks)) m) hps
    have f2 := Ex.new (o := .lst (ys.map V.str)) hpz
    have e3 := e2.trans (f1.trans f2)
    refine ⟨_, rfl, v, t, 11, rfl, g.ex e3, o, d, by omega, fun H3 p3 n3 e4 h3 => ⟨sz 2, fun pd hpd => ⟨_, _, rfl, kk _ _ ?_⟩⟩⟩
    have f5 := Ex.new (o := .lst [.ref pz, .ref p3]) hpd
    have e5 := e3.trans (e4.trans f5)
    exact ⟨v, t, y2, y3, y4, y5, none, none, pd, pz, p3, ys, rfl, u1.trans (But.of e5), B1.ex e5, g.ex e5, o, d, z, upd_same, f5 _ _ (e4 _ _ upd_same), f5 _ _ h3, sorted_rise sorted nodup, fun x => (mem x).trans decide_eq_true_iff⟩
  · rintro D σ H1 ⟨v, t, y2, y3, y4, y5, y8, y9, pd, m1, s1, ms, rfl, u1, B1, g, o, d, z, hpd, hm1, hs1, rise0, same0⟩ kk
    have pll := places_len t
    have mll := mks_len t
    refine ⟨2, rfl, by decide, by decide, ?_⟩
    refine for_range (n := 2) (fun i σ H' => (∃ y4 y8 y9, σ = [some (.ref b), some v, y2, y3, y4, y5, some (.str t.py.shown), some (.ref pd), y8, y9]) ∧ Ex H1 H') ⟨⟨y4, y8, y9, rfl⟩, Ex.refl H1⟩ ?_ ?_
    · rintro i σ H2 hi ⟨⟨y4, y8, y9, rfl⟩, e2⟩
      have g2 := g.ex e2
      refine ⟨_, rfl, v, t, 11, rfl, g2, o, d, by omega, fun H3 p3 xs n3 e3 h3 rise same => ⟨_, rfl, v, t, 11, rfl, g2.ex e3, o, d, by omega, fun H4 p4 n4 e4 h4 => ⟨sz 2, fun pt hpt => ?_⟩⟩⟩
      obtain rfl : xs = ms := rise_same rise rise0 fun x => (same x).trans (same0 x).symm
      have xl : xs.length ≤ 110 := Nat.le_trans (rise_len xs _ rise fun z hz => (same z).1 hz) (by omega)
      have f5 := Ex.new (o := .lst [.ref p3, .ref p4]) hpt
      have n4' : H2 p4 = none := fresh_back e3 n4
      have npt : H2 pt = none := fresh_back (e3.trans e4) hpt
      have np3 : p3 ≠ pt := ne_of_none (e4 _ _ h3) hpt
      have np4 : p4 ≠ pt := ne_of_none h4 hpt
      have e5 := e3.trans (e4.trans f5)
      have h35 := f5 _ _ (e4 _ _ h3)
      have h45 := f5 _ _ h4
      have hpt5 := upd_same (H := H4) (a := pt) (o := .lst [.ref p3, .ref p4])
      generalize upd H4 pt (.lst [.ref p3, .ref p4]) = H5 at f5 e5 h35 h45 hpt5
      have g5 := g2.ex e5
      refine ⟨_, rfl, v, t, 11, rfl, g5, o, d, fun H6 e6 => ⟨_, rfl, v, t, 11, rfl, g5.ex e6, o, d, by omega, fun H7 e7 => ⟨sz 2, fun pa hpa => ?_⟩⟩⟩
      have fa := Ex.new (o := .lst [.int (t.deep : Int), .int (t.size : Int)]) hpa
      have e8 := e6.trans (e7.trans fa)
      refine ⟨_, rfl, v, t, 11, rfl, g5.ex e8, o, by omega, fun H9 e9 => ⟨_, rfl, v, t, 11, rfl, g5.ex (e8.trans e9), o, d, by omega, fun H10 e10 => ⟨sz 2, fun pb hpb => ?_⟩⟩⟩
      have fb := Ex.new (o := .lst [.int (t.deep : Int), .int (t.size : Int)]) hpb
      refine ⟨.ref pa, .ref pb, .list [.int (t.deep : Int), .int (t.size : Int)], rfl, .lst (SqL.of (fb _ _ (e10 _ _ (e9 _ _ upd_same)))) (.cons (.int _) (.cons (.int _) .nil)), .lst (SqL.of upd_same) (.cons (.int _) (.cons (.int _) .nil)),
        .lst (by show 2 ≤ 1000; decide) (fun x hx => ?_), fun H11 e11 => ⟨_, rfl, iteF ?_⟩⟩
      · rcases List.mem_cons.mp hx with rfl | hx
        · exact .int _
        · rw [List.mem_singleton.mp hx]
          exact .int _
      have e12 := e8.trans (e9.trans (e10.trans (fb.trans e11)))
      have all2 := e2.trans (e5.trans e12)
      refine ⟨_, rfl, _, rfl, .ref pt, .ref pd, .list [.list (xs.map PyData.str), .list (t.places.map fun k : Nat => PyData.int (k : Int))], rfl, .lst (SqL.of (e12 _ _ hpt5)) (.cons (.lst (SqL.of (e12 _ _ h35)) (dps_strs _)) (.cons (.lst (SqL.of (e12 _ _ h45)) (dps_nats _)) .nil)),
        .lst (SqL.of (all2 _ _ hpd)) (.cons (.lst (SqL.of (all2 _ _ hm1)) (dps_strs _)) (.cons (.lst (SqL.of (all2 _ _ hs1)) (dps_nats _)) .nil)), .lst (by show 2 ≤ 1000; decide) (fun x hx => ?_), fun H13 e13 => ⟨_, rfl, iteF ?_⟩⟩
      · rcases List.mem_cons.mp hx with rfl | hx
        · refine .lst (by rw [List.length_map]; omega) fun x hx => ?_
          obtain ⟨y, _, rfl⟩ := List.mem_map.mp hx
          exact .str _
        · rw [List.mem_singleton.mp hx]
          refine .lst (by rw [List.length_map]; omega) fun x hx => ?_
          obtain ⟨y, _, rfl⟩ := List.mem_map.mp hx
          exact .int _
      have e14 := e12.trans e13
      refine ⟨_, rfl, pt, rfl, ⟨_, SqL.of (e14 _ _ hpt5)⟩, ?_⟩
      refine for_it (walk_list (xs := [.ref p3, .ref p4])) (fun j σ H' => (∃ y4 y8 y9, σ = [some (.ref b), some v, y2, y3, y4, y5, some (.str t.py.shown), some (.ref pd), y8, y9]) ∧ Ex H2 H' ∧ H' pt = some (.lst [.ref p3, .ref p4]) ∧
          (∃ zs, H' p3 = some (.lst zs) ∧ zs.length ≤ 200 + 2 * j) ∧ (∃ zs, H' p4 = some (.lst zs) ∧ zs.length ≤ 200 + 2 * j))
        ⟨⟨_, _, _, rfl⟩, e5.trans e14, e14 _ _ hpt5, ⟨_, e14 _ _ h35, by rw [List.length_map]; omega⟩, ⟨_, e14 _ _ h45, by rw [List.length_map]; omega⟩⟩ (fun j σ H' _ g => SqL.of g.2.2.1) ?_ ?_
      · rintro j x σ H15 H16 hj ⟨⟨y4, y8, y9, rfl⟩, e15, hp15, ⟨z3, h3', l3⟩, ⟨z4, h4', l4⟩⟩ ⟨rfl, hx⟩
        obtain ⟨l, nl, np, zs, hz, lz, rfl⟩ : ∃ l, H2 l = none ∧ l ≠ pt ∧ ∃ zs, H16 l = some (.lst zs) ∧ zs.length ≤ 200 + 2 * j ∧ x = .ref l := by
          have hj2 : j = 0 ∨ j = 1 := by
            have : j < 2 := hj
            omega
          rcases hj2 with rfl | rfl
          · exact ⟨p3, n3, np3, z3, h3', l3, (Option.some.inj hx).symm⟩
          · exact ⟨p4, n4', np4, z4, h4', l4, (Option.some.inj hx).symm⟩
        have j2 : j < 2 := hj
        refine ⟨_, rfl, .inl ⟨rfl, _, SqL.of hz⟩, l, zs, rfl, rfl, hz, ?_⟩
        refine ⟨_, rfl, .inl ⟨rfl, _, SqL.of upd_same⟩, l, _, _, rfl, rfl, upd_same, small1000 (by rw [List.length_reverse]; omega), ⟨_, _, _, rfl⟩, Ex.mut (Ex.mut e15 nl) nl, ?_, ?_, ?_⟩
        · rw [upd_ne np.symm, upd_ne np.symm]
          exact hp15
        · by_cases c : p3 = l
          · rw [c, upd_same]
            exact ⟨_, rfl, by rw [List.length_append, List.length_reverse]; show zs.length + 1 ≤ _; omega⟩
          · rw [upd_ne c, upd_ne c]
            exact ⟨z3, h3', by omega⟩
        · by_cases c : p4 = l
          · rw [c, upd_same]
            exact ⟨_, rfl, by rw [List.length_append, List.length_reverse]; show zs.length + 1 ≤ _; omega⟩
          · rw [upd_ne c, upd_ne c]
            exact ⟨z4, h4', by omega⟩
      · rintro σ H15 ⟨hσ, e15, _⟩
        exact ⟨hσ, e2.trans e15⟩
    · rintro σ H2 ⟨⟨y4, y8, y9, rfl⟩, e2⟩
      exact kk _ _ ⟨v, t, y2, y3, y4, y5, y8, y9, pd, m1, s1, ms, rfl, u1.trans (But.of e2), B1.ex e2, g.ex e2, o, d, z, e2 _ _ hpd, e2 _ _ hm1, e2 _ _ hs1, rise0, same0⟩
  · rintro D σ H1 ⟨v, t, y2, y3, y4, y5, y8, y9, pd, m1, s1, ms, rfl, u1, B1, g, o, d, z, hpd, hm1, hs1, rise0, same0⟩ kr
    obtain ⟨r1, r2, r3, r4⟩ := py_show (by decide) o (by omega) (by omega)
    refine ⟨_, rfl, v, t.py, rfl, g.dp, r1, r2, r3, r4, _, rfl, rfl, kr _ _ ?_⟩
    rw [decide_eq_true rfl]
    exact q _ u1 B1
end
end V


set_option Elab.async false
set_option linter.all false
set_option maxRecDepth 100000
set_option maxHeartbeats 4000000
namespace V
open PySem PySem.Spec PyProof.Rows L2 Evl
theorem cutV_map {α : Type} (f : α → V) (xs : List α) (lo hi : Option Int) :
    cutV (xs.map f) lo hi = ((xs.drop (HT.sIx xs.length 0 lo)).take (HT.sIx xs.length xs.length hi - HT.sIx xs.length 0 lo)).map f := by
  unfold cutV
  rw [List.length_map, List.map_take, List.map_drop]
/-- the first numbers of the script, those behind added on -/
def spFold (K : PySem.W.Frag) : Sp := fun vs H Q _ => ∃ (a : Addr) (ns : List Int) (size : Nat), vs = [.ref a, .int (size : Int)] ∧ SqL K H a (ns.map V.int) ∧ ns.length ≤ 63 ∧ 0 < size ∧ size ≤ 10 ∧
  ∀ (H' : Hp) (p : Addr) (ms : List Int), H p = none → Ex H H' → H' p = some (.lst (ms.map V.int)) → ms.length ≤ size → Q (.ref p) H'
end V


set_option Elab.async false
set_option linter.all false
set_option maxRecDepth 100000
set_option maxHeartbeats 400000
namespace V
open PySem PySem.Spec PyProof.Rows L2 Evl TL NumText
def spLaw (K : PySem.W.Frag) : Sp := fun vs H Q _ => ∃ (a : Addr) (ns : List Int), vs = [.ref a] ∧ SqL K H a (ns.map V.int) ∧ ns.length ≤ 63 ∧ ∀ H' : Hp, Q (.bl true) H'
section
variable {P : Program} {w : World} {K : PySem.W.Frag} {mg : Str → Option Value} {base : Heap}
theorem ok_law (T : Txt K w mg) {fL : Addr} {fd : FuncData} (F : FunD K "law" "law" (defArgs s_law) (defBody s_law) (defScope s_law) [] [] fL fd) (G__law_folded : Cal P w K mg base 1 "_law_folded" ["script", "size"] (spFold K))
    (G__law_box : Cal P w K mg base 1 "_law_box" ["script", "k"] (spBox K)) (G__law_right : CalG P w K mg base 12 "_law_right" ["box"] spRight) : FnG P w K mg base 13 fL fd ["script"] (spLaw K) := by
  refine FunD.okG F sc_law (fun vs H Q E h => ?_) (fun cdv A outer s H vs Q E hr hG h => ?_)
  · obtain ⟨a, ns, rfl, _⟩ := h
    rfl
  obtain ⟨a, ns, rfl, hS, hl, q⟩ := h
  have body : ∃ t, PSs (cxOf CX0 P w K mg base N_law "law" (defScope s_law) fL cdv A outer s H E).nox (defBody s_law) t ∧ t { nx := fun _ H' => Q .non H', rt := Q } (start N_law [.ref a]) H := by
    refine ⟨_, (pss_cons (ps_set (i := 1) sc_law.nd rfl (.inl rfl) (pe_fn G__law_folded hr (by omega) (pa_cons (pv 0) (pa_cons pe_int pa_nil))))
  (pss_cons (ps_for PassesOwn.never rfl (pi_range1 rfl T.z_range (pa_cons (pe_bi (call_max2 rfl) T.z_max (pa_cons pe_int (pa_cons (pe_bi call_len_seq T.z_len (pa_cons (pv 1) pa_nil)) pa_nil))) pa_nil)) (pg_name (i := 2) sc_law.nd rfl (.inl rfl))
    (pss_cons (ps_set (i := 3) sc_law.nd rfl (.inr rfl) (pe_fn G__law_box hr (by omega) (pa_cons (pv 1) (pa_cons (pv 2) pa_nil))))
    (pss_one (ps_if (pt_not (pt_val (pe_bi (cr_all rfl) T.z_all (pa_cons (pe_lc (own := [("turn", 4)]) (g := (gName 4)) (tt := tYes) rfl sc_law.nd (pi_range1 rfl T.z_range (pa_cons pe_int pa_nil)) (blkOk_by (N := N_law) (sc := defScope s_law) (by decide +kernel)) (fun _ _ _ _ _ => (pg_name (i := 4) sc_law.nd rfl (.inl rfl))) (fun _ _ _ _ _ => pts_nil) (fun _ _ _ _ _ => (pe_fnG G__law_right hG hr (by omega) (pa_cons (pv 3) pa_nil)))) pa_nil))))
      (pss_one (ps_ret pe_bl))
      pss_nil))))
  (pss_one (ps_ret pe_bl)))), ?_⟩
    refine ⟨_, rfl, a, ns, 3, rfl, hS, hl, by decide, by decide, fun H1 p ms hp e1 h1 hm => ?_⟩
    refine ⟨_, rfl, p, _, rfl, .inl (SqL.of h1), ?_⟩
    have hm2 : ms.length ≤ 3 := hm
    have lm : (ms.map V.int).length = ms.length := List.length_map ..
    refine ⟨_, _, rfl, _, rfl, ?_, ?_, ?_⟩
    · split <;> omega
    · split <;> omega
    have lj : (if (((ms.map V.int).length : Nat) : Int) > 1 then (((ms.map V.int).length : Nat) : Int) else 1).toNat ≤ 3 := by
      split <;> omega
    generalize (if (((ms.map V.int).length : Nat) : Int) > 1 then (((ms.map V.int).length : Nat) : Int) else 1).toNat = m at lj
    refine for_range (fun i σ H2 => (∃ y2 y3 y4, σ = [some (.ref a), some (.ref p), y2, y3, y4]) ∧ H2 p = some (.lst (ms.map V.int))) ⟨⟨none, none, none, rfl⟩, h1⟩ ?_ ?_
    · rintro i σ H2 hi ⟨⟨y2, y3, y4, rfl⟩, h2⟩
      refine ⟨_, rfl, _, rfl, p, ms, i, ?_, SqL.of h2, by omega, fun H3 b hb e3 hB => ?_⟩
      · rw [Int.zero_add]
      have hpb : p ≠ b := fun z => by
        rw [z, hb] at h2
        cases h2
      refine ⟨8, rfl, by decide, by decide, fun Dl hD => ?_⟩
      have hbl := hB.lst
      have hDb : Dl ≠ b := fun z => by
        obtain ⟨xs, hx⟩ := hbl
        rw [z, hx] at hD
        cases hD
      refine lc_range (lo := 0) (n := 8) (fun j H4 => But b H3 H4 ∧ Box H4 b (1099511627776 - 1000 * j) ∧ H4 Dl = some (.lst ((List.replicate j true).map V.bl))) ⟨But.of (Ex.new hD), hB.ex (Ex.new hD), upd_same⟩ ?_ ?_
      · rintro j H4 hj ⟨u4, B4, d4⟩
        refine ⟨rfl, yes ⟨_, rfl, b, 1099511627776 - 1000 * (j + 1), rfl, ?_, fun H5 u5 B5 => ⟨_, u5 Dl _ hDb d4, ?_, ?_, ?_, ?_⟩⟩⟩
        · rw [show 1099511627776 - 1000 * (j + 1) + 1000 = 1099511627776 - 1000 * j by omega]
          exact B4
        · rw [List.length_map, List.length_replicate]
          exact small1000 (by omega)
        · intro c o hc ho
          have n : c ≠ Dl := fun z => by
            rw [z, hD] at ho
            cases ho
          rw [upd_ne n]
          exact u5 c o hc (u4 c o hc ho)
        · obtain ⟨x, y, z, q1, q2⟩ := B5
          exact ⟨x, y, z, by rw [upd_ne hDb.symm]; exact q1, q2⟩
        · rw [upd_same]
          have e : List.replicate (j + 1) true = List.replicate j true ++ [true] := List.replicate_succ'
          rw [e, List.map_append]
          rfl
      · rintro H4 ⟨u4, B4, d4⟩
        refine ⟨Dl, _, rfl, SqL.of d4, _, rfl, iteF ⟨⟨_, _, _, rfl⟩, u4 p _ hpb (e3 p _ h2)⟩⟩
    · rintro σ H2 ⟨⟨y2, y3, y4, rfl⟩, h2⟩
      exact q H2
  obtain ⟨t, b1, b2⟩ := body
  exact ⟨t, b1.nox, b2⟩
end
end V


set_option Elab.async false
set_option linter.all false
set_option maxRecDepth 100000
set_option maxHeartbeats 4000000
namespace V
open PySem PySem.Spec PyProof.Rows L2 Evl
section
variable {P : Program} {w : World} {K : PySem.W.Frag} {mg : Str → Option Value} {base : Heap}
theorem ok_take (D : Def K mg "_law_take" s__law_take ["box", "size"]) (zd : mg "divmod" = none) : Cal P w K mg base 1 "_law_take" ["box", "size"] spTake := by
  refine D.cal sc__law_take (fun vs H Q E h => ?_) (fun f cdv A outer s H vs Q E hr h => ?_)
  · obtain ⟨b, size, n, rfl, _⟩ := h
    rfl
  obtain ⟨b, size, n, rfl, s0, s1, hB, q⟩ := h
  obtain ⟨x, y, z, hb, x0, y0, y1, z0, z1⟩ := hB
  refine ⟨_, pss_cons (ps_if (pt_cmpR op_gt (pe_ix ix_list (pv 0) pe_int (fun _ _ => rfl)) pe_int (nomark _))
      (pss_cons (ps_asg (pe_bi call_divmod zd (pa_cons (pe_ix ix_list (pv 0) pe_int (fun _ _ => rfl)) (pa_cons (pv 1) pa_nil)))
          (pg_tup rfl (pgs_cons (pg_sub (pv 0) pe_int set_list) (pgs_cons (pg_name (i := 2) sc__law_take.nd rfl (.inl rfl)) pgs_nil))))
        (pss_one (ps_ret (pv 2)))) pss_nil)
    (pss_cons (ps_if (pt_cmpR op_gt (pv 1) (pe_op op_pow pe_int pe_int) (nomark _)) pss_never pss_nil)
    (pss_cons (ps_asg (pe_op op_add (pe_ix ix_list (pv 0) pe_int (fun _ _ => rfl)) pe_int) (pg_sub (pv 0) pe_int set_list))
    (pss_cons (ps_set (i := 3) sc__law_take.nd rfl (.inl rfl) (pe_op op_add pe_int (pe_op op_mul (pe_ix ix_list (pv 0) pe_int (fun _ _ => rfl)) (pe_ix ix_list (pv 0) pe_int (fun _ _ => rfl)))))
    (pss_cons (ps_set (i := 4) sc__law_take.nd rfl (.inl rfl) (pe_op op_mod (pe_op op_mul (pe_op op_add (pe_ix ix_list (pv 0) pe_int (fun _ _ => rfl)) (pe_op op_mul pe_int (pe_ix ix_list (pv 0) pe_int (fun _ _ => rfl)))) (pv 3)) pe_int))
    (pss_cons (ps_set (i := 5) sc__law_take.nd rfl (.inl rfl) (pe_op op_mod (pe_op op_add (pe_op op_mul (pv 4) (pe_op op_add (pe_op op_mod (pv 4) pe_int) pe_int)) (pe_ix ix_list (pv 0) pe_int (fun _ _ => rfl))) pe_int))
    (pss_one (ps_ret (pe_op op_mod (pe_op op_fdiv (pe_op op_mod (pe_op op_mul (pv 5) (pe_op op_add (pe_op op_mod (pv 5) pe_int) pe_int)) pe_int) pe_int) (pv 1))))))))), ?_⟩
  have hS : SqL K H b [.int x, .int y, .int z] := .inl (.inl hb)
  refine ⟨.ref b, rfl, b, _, 0, .int x, rfl, rfl, hS, rfl, x, 0, rfl, rfl, _, rfl, ite2 (fun c => ?_) (fun c => ?_)⟩
  · -- the number's own digits
    have hx : 0 < x := of_decide_eq_true c
    refine ⟨.ref b, rfl, b, _, 0, .int x, rfl, rfl, hS, rfl, .int size, rfl, x, size, rfl, ⟨s0, by omega⟩, fun p hp => ?_⟩
    have hbp : b ≠ p := ne_of_none hb hp
    have hb1 : (upd H p (.tup [.int (x / size), .int (x % size)])) b = some (.lst [.int x, .int y, .int z]) := by
      rw [upd_ne hbp]
      exact hb
    refine ⟨p, _, rfl, .inl (.inl upd_same), rfl, .int (x / size), _, rfl, .ref b, rfl, b, [.int x, .int y, .int z], 0, 0, rfl, rfl, hb1, rfl, .int (x % size), _, rfl, rfl, ?_⟩
    refine ⟨_, rfl, q _ _ (But.upd (But.of (Ex.new hp))) ⟨x / size, y, z, upd_same, Int.ediv_nonneg x0 (by omega), y0, y1, z0, by omega⟩ (Int.emod_nonneg _ (by omega)) (Int.emod_lt_of_pos _ s0)⟩
  · refine ⟨.int size, rfl, 10, 7, rfl, rfl, ⟨by decide, by decide, by decide⟩, size, _, rfl, rfl, _, rfl, ite2 (fun c2 => ?_) (fun _ => ?_)⟩
    · have : (10 : Int) ^ (7 : Int).toNat < size := of_decide_eq_true c2
      have e7 : (10 : Int) ^ (7 : Int).toNat = 10000000 := by decide
      omega
    refine ⟨.ref b, rfl, b, _, 2, .int z, rfl, rfl, hS, rfl, z, 1, rfl, rfl, .ref b, rfl, b, [.int x, .int y, .int z], 2, 2, rfl, rfl, hb, rfl, ?_⟩
    have hb1 : (upd H b (.lst [.int x, .int y, .int (z + 1)])) b = some (.lst [.int x, .int y, .int (z + 1)]) := upd_same
    have hS1 : SqL K (upd H b (.lst [.int x, .int y, .int (z + 1)])) b [.int x, .int y, .int (z + 1)] := .inl (.inl hb1)
    refine ⟨.ref b, rfl, b, _, 2, .int (z + 1), rfl, rfl, hS1, rfl, .ref b, rfl, b, _, 2, .int (z + 1), rfl, rfl, hS1, rfl, _, _, rfl, rfl, .inl ⟨by omega, by omega⟩, _, _, rfl, rfl, ?_⟩
    refine ⟨.ref b, rfl, b, _, 1, .int y, rfl, rfl, hS1, rfl, .ref b, rfl, b, _, 2, .int (z + 1), rfl, rfl, hS1, rfl, _, _, rfl, rfl, .inl ⟨by omega, by omega⟩, _, _, rfl, rfl, _, rfl, _, _, rfl, rfl, .inl ⟨by omega, by omega⟩, _, _, rfl, rfl, (by show (0 : Int) < 2147483587; decide), ?_⟩
    refine ⟨_, rfl, _, rfl, _, _, rfl, rfl, (by show (0 : Int) < 30011; decide), _, _, rfl, rfl, _, _, rfl, rfl, .inl ⟨by omega, by omega⟩, .ref b, rfl, b, _, 2, .int (z + 1), rfl, rfl, hS1, rfl, _, _, rfl, rfl, _, _, rfl, rfl, (by show (0 : Int) < 2147483563; decide), ?_⟩
    refine ⟨_, rfl, _, rfl, _, _, rfl, rfl, (by show (0 : Int) < 1013; decide), _, _, rfl, rfl, _, _, rfl, rfl, .inl ⟨by omega, by omega⟩, _, _, rfl, rfl, (by show (0 : Int) < 998244353; decide), _, _, rfl, rfl, ⟨by decide, by decide⟩, .int size, rfl, _, _, rfl, rfl, s0, ?_⟩
    exact q _ _ (But.upd (But.refl b H)) ⟨x, y, z + 1, upd_same, x0, y0, y1, by omega, by omega⟩ (Int.emod_nonneg _ (by omega)) (Int.emod_lt_of_pos _ s0)
end
end V


set_option Elab.async false
set_option linter.all false
set_option maxRecDepth 100000
set_option maxHeartbeats 4000000
namespace V
open PySem PySem.Spec PyProof.Rows L2 Evl
section
variable {P : Program} {w : World} {K : PySem.W.Frag} {mg : Str → Option Value} {base : Heap}
theorem ok_number (D : Def K mg "_law_number" s__law_number ["box"]) (G : Cal P w K mg base 1 "_law_take" ["box", "size"] spTake) : Cal P w K mg base 2 "_law_number" ["box"] spNum := by
  refine D.cal sc__law_number (fun vs H Q E h => ?_) (fun f cdv A outer s H vs Q E hr h => ?_)
  · obtain ⟨b, n, rfl, _⟩ := h
    rfl
  obtain ⟨b, n, rfl, hB, q⟩ := h
  refine ⟨_, pss_one (ps_ret (pe_ix ix_list (pe_lst (pa_cons (pe_fn G hr (by decide) (pa_cons (pv 0) (pa_cons pe_int pa_nil)))
    (pa_cons (pe_fn G hr (by decide) (pa_cons (pv 0) (pa_cons pe_int pa_nil)))
    (pa_cons (pe_op op_sub pe_int (pe_fn G hr (by decide) (pa_cons (pv 0) (pa_cons pe_int pa_nil)))) pa_nil))))
    (pe_fn G hr (by decide) (pa_cons (pv 0) (pa_cons pe_int pa_nil))) (fun _ _ => rfl))), ?_⟩
  refine ⟨_, rfl, b, 4, n + 3, rfl, by decide, by decide, hB, fun H1 r1 u1 B1 l1 g1 => ?_⟩
  refine ⟨_, rfl, b, 1000, n + 2, rfl, by decide, by decide, B1, fun H2 r2 u2 B2 l2 g2 => ?_⟩
  refine ⟨_, rfl, b, 3, n + 1, rfl, by decide, by decide, B2, fun H3 r3 u3 B3 l3 g3 => ?_⟩
  refine ⟨_, _, rfl, rfl, sz 3, fun p hp => ?_⟩
  have e4 : Ex H3 (upd H3 p (.lst [.int r1, .int r2, .int (1000002 - r3)])) := Ex.new hp
  refine ⟨_, rfl, b, 3, n, rfl, by decide, by decide, B3.ex e4, fun H5 r5 u5 B5 l5 g5 => ?_⟩
  have hbp : p ≠ b := by
    obtain ⟨xs, hx⟩ := B3.lst
    exact (ne_of_none hx hp).symm
  have h5 : H5 p = some (.lst [.int r1, .int r2, .int (1000002 - r3)]) := u5 p _ hbp upd_same
  have but : But b H H5 := ((u1.trans u2).trans u3).trans ((But.of e4).trans u5)
  have w5 : r5 = 0 ∨ r5 = 1 ∨ r5 = 2 := by omega
  rcases w5 with rfl | rfl | rfl
  · exact ⟨p, _, 0, _, rfl, rfl, SqL.of h5, rfl, q H5 _ but B5 (by omega) (by omega)⟩
  · exact ⟨p, _, 1, _, rfl, rfl, SqL.of h5, rfl, q H5 _ but B5 (by omega) (by omega)⟩
  · exact ⟨p, _, 2, _, rfl, rfl, SqL.of h5, rfl, q H5 _ but B5 (by omega) (by omega)⟩
theorem ok_box (D : Def K mg "_law_box" s__law_box ["script", "k"]) (zl : mg "len" = none) (za : mg "abs" = none) (zi : mg "int" = none) : Cal P w K mg base 1 "_law_box" ["script", "k"] (spBox K) := by
  refine D.cal sc__law_box (fun vs H Q E h => ?_) (fun f cdv A outer s H vs Q E hr h => ?_)
  · obtain ⟨a, ns, k, rfl, _⟩ := h
    rfl
  obtain ⟨a, ns, k, rfl, hS, hk, q⟩ := h
  refine ⟨_, pss_cons (ps_set (i := 2) sc__law_box.nd rfl (.inl rfl) (pe_ifExp (pt_cmpR op_lt (pv 1) (pe_bi call_len_seq zl (pa_cons (pv 0) pa_nil)) (nomark _)) (pe_ix ix_list (pv 0) (pv 1) (fun _ _ => rfl)) pe_int))
    (pss_one (ps_ret (pe_lst (pa_cons (pe_op op_mul (pe_bi call_abs za (pa_cons (pv 2) pa_nil)) (pe_bt call_int1 zi (pa_cons (pe_cmpR op_ge (pe_bi call_abs za (pa_cons (pv 2) pa_nil)) (pe_op op_pow pe_int pe_int) (nomark _)) pa_nil)))
      (pa_cons (pe_op op_mod (pe_op op_mul (pe_op op_add (pe_op op_add (pe_op op_mod (pv 2) pe_int) (pe_op op_mul pe_int (pv 1))) pe_int) pe_int) pe_int) (pa_cons pe_int pa_nil)))))), ?_⟩
  -- behind the cell
  have fin : ∀ cell : Int, tRet (tLst (tCons (tOp (rI CMul fun i j => .int (i * j)) (tCB (fun xs H Q => ∃ i, xs = [.int i] ∧ Q (.int (if i < 0 then -i else i)) H) (tCons (tVar 2) tNil))
      (tCB (fun xs H Q => (∃ i, xs = [.int i] ∧ Q (.int i) H) ∨ ∃ k, xs = [.bl k] ∧ Q (.int (if k then 1 else 0)) H) (tCons (tOp (rI0 fun i j => .bl (decide (j ≤ i))) (tCB (fun xs H Q => ∃ i, xs = [.int i] ∧ Q (.int (if i < 0 then -i else i)) H) (tCons (tVar 2) tNil)) (tOp (rI CPow fun i j => .int (i ^ j.toNat)) (tC (.int 10)) (tC (.int 18)))) tNil)))
      (tCons (tOp (rI (fun _ j => 0 < j) fun i j => .int (i % j)) (tOp (rI CMul fun i j => .int (i * j)) (tOp (rI0 fun i j => .int (i + j)) (tOp (rI0 fun i j => .int (i + j)) (tOp (rI (fun _ j => 0 < j) fun i j => .int (i % j)) (tVar 2) (tC (.int 2147483629))) (tOp (rI CMul fun i j => .int (i * j)) (tC (.int 15485863)) (tVar 1))) (tC (.int 43))) (tC (.int 48271))) (tC (.int 2147483647)))
      (tCons (tC (.int 0)) tNil)))) { nx := fun _ H' => Q .non H', rt := Q } [some (.ref a), some (.int (k : Int)), some (.int cell)] H := by
    intro cell
    have m0 : 0 ≤ cell % 2147483629 := Int.emod_nonneg _ (by decide)
    have m1 : cell % 2147483629 < 2147483629 := Int.emod_lt_of_pos _ (by decide)
    refine ⟨_, rfl, cell, rfl, _, rfl, cell, rfl, _, _, rfl, rfl, ⟨by decide, by decide, by decide⟩, _, _, rfl, rfl, .inr ⟨_, rfl, _, _, rfl, rfl, .inr ?_, ?_⟩⟩
    · have z := ite01 (decide ((10 : Int) ^ (18 : Int).toNat ≤ if cell < 0 then -cell else cell) = true)
      exact ⟨by omega, by omega⟩
    refine ⟨_, rfl, _, _, rfl, rfl, (by show (0 : Int) < 2147483629; decide), _, rfl, _, _, rfl, rfl, .inl ⟨by decide, by decide⟩, _, _, rfl, rfl, _, _, rfl, rfl, _, _, rfl, rfl, .inl ⟨by omega, by omega⟩, _, _, rfl, rfl, (by show (0 : Int) < 2147483647; decide), ?_⟩
    refine ⟨sz 3, fun p hp => q _ p hp (Ex.new hp) ⟨_, _, _, upd_same, ?_, Int.emod_nonneg _ (by decide), Int.emod_lt_of_pos _ (by decide), by decide, by decide⟩⟩
    exact Int.mul_nonneg (by split <;> omega) (ite01 (decide ((10 : Int) ^ (18 : Int).toNat ≤ if cell < 0 then -cell else cell) = true)).1
  refine ⟨_, rfl, _, rfl, a, _, rfl, .inl hS, _, _, rfl, rfl, _, rfl, ite2 (fun c => ?_) (fun c => ?_)⟩
  · have hlt : (k : Int) < ((ns.map V.int).length : Int) := of_decide_eq_true c
    rw [List.length_map] at hlt
    have hk2 : k < ns.length := by omega
    refine ⟨_, rfl, _, rfl, a, _, _, .int ns[k], rfl, rfl, hS, atI_nat (by rw [List.getElem?_map, List.getElem?_eq_getElem hk2]; rfl), ?_⟩
    exact fin _
  · exact fin 0
end
end V


set_option Elab.async false
set_option linter.all false
set_option maxRecDepth 100000
set_option maxHeartbeats 4000000
namespace V
open PySem PySem.Spec PyProof.Rows L2 Evl
section
variable {P : Program} {w : World} {K : PySem.W.Frag} {mg : Str → Option Value} {base : Heap}
theorem ok_folded (D : Def K mg "_law_folded" s__law_folded ["script", "size"]) (zl : mg "list" = none) (ze : mg "enumerate" = none) : Cal P w K mg base 1 "_law_folded" ["script", "size"] (spFold K) := by
  refine D.cal sc__law_folded (fun vs H Q E h => ?_) (fun f cdv A outer s H vs Q E hr h => ?_)
  · obtain ⟨a, ns, size, rfl, _⟩ := h
    rfl
  obtain ⟨a, ns, size, rfl, hS, h63, s0, s1, q⟩ := h
  refine ⟨_, pss_cons (ps_set (i := 2) sc__law_folded.nd rfl (.inl rfl) (pe_bt call_list_of zl (pa_cons (pe_slice sl_list (pv 0) po_none (po_some (pv 1))) pa_nil)))
    (pss_cons (ps_for PassesOwn.never rfl (pi_enum rfl ze (pa_cons (pe_slice sl_list (pv 0) (po_some (pv 1)) (po_some pe_int)) pa_nil))
        (pg_tup rfl (pgs_cons (pg_name (i := 3) sc__law_folded.nd rfl (.inl rfl)) (pgs_cons (pg_name (i := 4) sc__law_folded.nd rfl (.inl rfl)) pgs_nil)))
      (pss_one (ps_asg (pe_op op_add (pe_ix ix_list (pv 2) (pe_op op_mod (pv 3) (pv 1)) (fun _ _ => rfl)) (pe_op op_mul (pv 4) (pe_op op_add (pv 3) pe_int))) (pg_sub (pv 2) (pe_op op_mod (pv 3) (pv 1)) set_list))))
    (pss_one (ps_ret (pv 2)))), ?_⟩
  refine ⟨_, rfl, _, rfl, _, rfl, a, _, rfl, hS, fun p1 n1 => ?_⟩
  have e1 : Ex H (upd H p1 (.lst (cutV (ns.map V.int) none (some (size : Int))))) := Ex.new n1
  refine ⟨p1, _, rfl, .inl (SqL.of upd_same), fun l nl => ?_⟩
  have e2 := e1.trans (Ex.new (o := .lst (cutV (ns.map V.int) none (some (size : Int)))) nl)
  have nlH : H l = none := fresh_back e1 nl
  refine ⟨_, rfl, _, rfl, _, rfl, _, rfl, a, _, rfl, ex_l e2 hS, fun p2 n2 => ?_⟩
  have e3 := e2.trans (Ex.new (o := .lst (cutV (ns.map V.int) (some (size : Int)) (some 63))) n2)
  refine ⟨p2, _, rfl, SqL.of upd_same, ?_⟩
  have hl1 : HT.sIx ns.length 0 (some (size : Int)) = min size ns.length := HT.sIx_nat _ _ _
  obtain ⟨ms, em, lm⟩ : ∃ ms : List Int, cutV (ns.map V.int) none (some (size : Int)) = ms.map V.int ∧ ms.length = min size ns.length := by
    refine ⟨_, cutV_map V.int ns none (some (size : Int)), ?_⟩
    rw [List.length_take, List.length_drop, HT.sIx_nat, HT.sIx_none]
    omega
  obtain ⟨bs, eb, lb⟩ : ∃ bs : List Int, cutV (ns.map V.int) (some (size : Int)) (some 63) = bs.map V.int ∧ (bs ≠ [] → size < ns.length) ∧ bs.length ≤ 63 := by
    refine ⟨_, cutV_map V.int ns (some (size : Int)) (some 63), fun ne => ?_, ?_⟩
    · by_cases c : size < ns.length
      · exact c
      · refine absurd ?_ ne
        rw [hl1, List.drop_eq_nil_of_le (by omega), List.take_nil]
    · rw [List.length_take, List.length_drop]
      omega
  rw [em] at e2 e3
  rw [eb] at e3
  rw [em, eb]
  have hp2l : p2 ≠ l := fun z => by
    rw [z, upd_same] at n2
    cases n2
  refine for_it (walk_enum (xs := bs.map V.int)) (fun i σ H3 => ∃ (y3 y4 : Option V) (cs : List Int), σ = [some (.ref a), some (.int (size : Int)), some (.ref l), y3, y4] ∧ Ex H H3 ∧ H3 l = some (.lst (cs.map V.int)) ∧ cs.length = ms.length ∧ H3 p2 = some (.lst (bs.map V.int)))
    ⟨none, none, ms, rfl, e3, ?_, rfl, upd_same⟩ (fun i σ H3 hi ⟨_, _, _, _, _, _, _, h⟩ => SqL.of h) ?_ ?_
  · rw [upd_ne hp2l.symm, upd_same]
  · rintro i v σ H3 H4 hi ⟨y3, y4, cs, rfl, e, hl, lc, hp⟩ ⟨T, x, y, rfl, nT, rfl, hx, hy⟩
    obtain rfl : V.int ((i : Nat) : Int) = x := Option.some.inj hx
    rw [List.length_map] at hi
    obtain rfl : V.int bs[i] = y := by
      have hy2 : (bs.map V.int)[i]? = some y := hy
      rw [List.getElem?_map, List.getElem?_eq_getElem hi] at hy2
      exact Option.some.inj hy2
    have hne : bs ≠ [] := fun z => by
      subst z
      cases hi
    have hsz := lb.1 hne
    have lTl : l ≠ T := ne_of_none hl nT
    have lTp : p2 ≠ T := ne_of_none hp nT
    have eT : Ex H (upd H3 T (.tup [.int ((i : Nat) : Int), .int bs[i]])) := e.trans (Ex.new nT)
    have hlT : (upd H3 T (.tup [.int ((i : Nat) : Int), .int bs[i]])) l = some (.lst (cs.map V.int)) := by
      rw [upd_ne lTl]
      exact hl
    have m0 : 0 ≤ ((i : Nat) : Int) % (size : Int) := Int.emod_nonneg _ (by omega)
    have m1 : ((i : Nat) : Int) % (size : Int) < (size : Int) := Int.emod_lt_of_pos _ (by omega)
    obtain ⟨j, ej⟩ : ∃ j : Nat, ((i : Nat) : Int) % (size : Int) = (j : Int) := ⟨(((i : Nat) : Int) % (size : Int)).toNat, by omega⟩
    have hj : j < cs.length := by omega
    refine ⟨T, _, rfl, SqT.of upd_same, rfl, _, _, rfl, _, _, rfl, rfl, ?_⟩
    refine ⟨_, rfl, _, rfl, _, rfl, _, _, rfl, rfl, (by show (0 : Int) < (size : Int); omega), l, cs.map V.int, (j : Int), .int cs[j], rfl, congrArg V.int ej, SqL.of hlT, atI_nat (by rw [List.getElem?_map, List.getElem?_eq_getElem hj]; rfl),
      _, rfl, _, rfl, _, _, rfl, rfl, _, _, rfl, rfl, .inr ⟨by omega, by omega⟩, _, _, rfl, rfl, _, rfl, _, rfl, _, rfl, _, _, rfl, rfl, (by show (0 : Int) < (size : Int); omega), l, _, (j : Int), j, rfl, congrArg V.int ej, hlT, ixN_nat (by rw [List.length_map]; exact hj), ?_⟩
    refine ⟨some (.int ((i : Nat) : Int)), some (.int bs[i]), cs.set j (cs[j] + bs[i] * (((i : Nat) : Int) + 2)), rfl, Ex.mut eT nlH, ?_, ?_, ?_⟩
    · rw [upd_same, List.map_set]
    · rw [List.length_set]
      exact lc
    · rw [upd_ne hp2l, upd_ne lTp]
      exact hp
  · rintro σ H3 ⟨y3, y4, cs, rfl, e, hl, lc, hp⟩
    exact ⟨_, rfl, q H3 l cs nlH e hl (by omega)⟩
end
end V


set_option Elab.async false
set_option linter.all false
set_option maxRecDepth 100000
set_option maxHeartbeats 400000
namespace V
open PySem PySem.Spec PyProof.Rows L2 Evl TL NumText
section
variable {P : Program} {w : World} {K : PySem.W.Frag} {mg : Str → Option Value} {base : Heap}
theorem ok_someMark (T : Txt K w mg) (G__law_take : Cal P w K mg base 1 "_law_take" ["box", "size"] spTake) : Cal P w K mg base 2 "_law_some_mark" ["box"] spSomeMark := by
  refine T.D__law_some_mark.cal sc__law_some_mark (fun vs H Q E h => ?_) (fun f cdv A outer s H vs Q E hr h => ?_)
  · obtain ⟨b, n, rfl, _⟩ := h
    rfl
  obtain ⟨b, n, rfl, hB, q⟩ := h
  refine ⟨_, (pss_cons (ps_set (i := 1) sc__law_some_mark.nd rfl (.inr rfl) pe_str)
  (pss_cons (ps_set (i := 2) sc__law_some_mark.nd rfl (.inl rfl) (pe_fn G__law_take hr (by omega) (pa_cons (pv 0) (pa_cons pe_int pa_nil))))
  (pss_cons (ps_if (pt_cmpR op_lt (pv 2) pe_int (nomark _))
    (pss_one (ps_ret (pe_ix (r := rIxL K) ix_list (pe_lst (pa_cons pe_str (pa_cons pe_str pa_nil))) (pv 2) (fun _ _ => rfl))))
    pss_nil)
  (pss_one (ps_ret (pe_join pe_str (pe_lc (own := [("turn", 3)]) (g := (gName 3)) (tt := tYes) rfl sc__law_some_mark.nd (pi_range1 rfl T.z_range (pa_cons pe_int pa_nil)) (blkOk_by (N := N__law_some_mark) (sc := defScope s__law_some_mark) (by decide +kernel)) (fun _ _ _ _ _ => (pg_name (i := 3) sc__law_some_mark.nd rfl (.inl rfl))) (fun _ _ _ _ _ => pts_nil) (fun _ _ _ _ _ => (pe_ix ix_str (pv 1) (pe_fn G__law_take hr (by omega) (pa_cons (pv 0) (pa_cons pe_int pa_nil))) (fun _ _ => rfl)))))))))), ?_⟩
  refine ⟨_, rfl, b, 6, n + 6, rfl, by decide, by decide, hB, fun H1 r u1 B1 r0 r1 => ?_⟩
  refine ⟨_, rfl, _, _, rfl, rfl, _, rfl, ?_⟩
  by_cases c : r < 2
  · rw [decide_eq_true c]
    refine iteT ⟨sz 2, fun p hp => ⟨_, rfl, p, [.str "000000", .str "zzzzzz"], r, ?_⟩⟩
    have w2 : r = 0 ∨ r = 1 := by omega
    have fin : ∀ m : Str, isMk m → Q (.str m) (upd H1 p (.lst [.str "000000", .str "zzzzzz"])) := fun m hm => q _ m (u1.trans (But.of (Ex.new hp))) ((B1.ex (Ex.new hp)).less (by omega)) hm
    rcases w2 with rfl | rfl
    · exact ⟨_, rfl, rfl, SqL.of upd_same, at0, fin _ ⟨by decide +kernel, by decide +kernel⟩⟩
    · exact ⟨_, rfl, rfl, SqL.of upd_same, at1, fin _ ⟨by decide +kernel, by decide +kernel⟩⟩
  · rw [decide_eq_false c]
    refine iteF ⟨⟨_, rfl⟩, 6, rfl, by decide, by decide, fun Dl hD => ?_⟩
    have hDb : Dl ≠ b := fun z => by
      obtain ⟨xs, hx⟩ := B1.lst
      rw [z, hx] at hD
      cases hD
    refine lc_range (lo := 0) (n := 6) (fun j H4 => But b H1 H4 ∧ Box H4 b (n + 6 - j) ∧ ∃ l : List Nat, l.length = j ∧ (∀ c ∈ l, (48 ≤ c ∧ c ≤ 57) ∨ (97 ≤ c ∧ c ≤ 122)) ∧ H4 Dl = some (.lst ((ones l).map V.str))) ⟨But.of (Ex.new hD), B1.ex (Ex.new hD), [], rfl, (fun c h => by cases h), upd_same⟩ ?_ ?_
    · rintro j H4 hj ⟨u4, B4, l, l1, l2, d4⟩
      refine ⟨rfl, yes ⟨_, rfl, _, rfl, b, 36, n + 6 - (j + 1), rfl, by decide, by decide, ?_, fun H5 k u5 B5 k0 k1 => ?_⟩⟩
      · rw [show n + 6 - (j + 1) + 1 = n + 6 - j by omega]
        exact B4
      obtain ⟨kn, rfl⟩ := Int.eq_ofNat_of_zero_le k0
      obtain ⟨ch, hc1, hc2⟩ := sg36_at kn (by omega)
      refine ⟨sg36, _, ch, rfl, rfl, by decide +kernel, hc1, _, u5 Dl _ hDb d4, ?_, ?_, ?_, l ++ [ch], ?_, ?_, ?_⟩
      · rw [List.length_map, ones, List.length_map]
        exact small1000 (by omega)
      · intro a o ha ho
        have n : a ≠ Dl := fun z => by
          rw [z, hD] at ho
          cases ho
        rw [upd_ne n]
        exact u5 a o ha (u4 a o ha ho)
      · obtain ⟨x, y, z, q1, q2⟩ := B5
        exact ⟨x, y, z, by rw [upd_ne hDb.symm]; exact q1, q2⟩
      · rw [List.length_append, l1]
        rfl
      · intro c hc
        rcases List.mem_append.mp hc with hc | hc
        · exact l2 c hc
        · rw [List.mem_singleton.mp hc]
          exact hc2
      · have e : ones (l ++ [ch]) = ones l ++ [⟨#[ch]⟩] := List.map_append ..
        rw [upd_same, e, List.map_append]
        rfl
    · rintro H4 ⟨u4, B4, l, l1, l2, d4⟩
      refine ⟨"", Dl, ones l, rfl, rfl, .inl (SqL.of d4), ?_, ?_⟩
      · rw [ones_sum, show ("" : Str).length = 0 by decide +kernel]
        omega
      · rw [join_eq]
        refine q H4 _ (u1.trans u4) B4 ⟨?_, fun c hc => l2 c ?_⟩
        · rw [len_tl, tl_ones, l1]
        · have h2 : c ∈ tl (Str.join "" (ones l)) := hc
          rw [tl_ones] at h2
          exact h2
end
end V


set_option Elab.async false
set_option linter.all false
set_option maxRecDepth 100000
set_option maxHeartbeats 400000
namespace V
open PySem PySem.Spec PyProof.Rows L2 Evl TL NumText
section
variable {P : Program} {w : World} {K : PySem.W.Frag} {mg : Str → Option Value} {base : Heap}
theorem ok_term (T : Txt K w mg) (G__law_take : Cal P w K mg base 1 "_law_take" ["box", "size"] spTake) (G__law_number : Cal P w K mg base 2 "_law_number" ["box"] spNum) :
    ∀ d : Nat, Cal P w K mg base (d + 2) "_law_term" ["box", "many", "heads", "tall"] (spTerm d)
  | 0 => (T.D__law_term.never fun vs H Q E h => by
      obtain ⟨b, hp, n, many, tall, _, _, h1, h2, _⟩ := h
      omega).mono (Nat.zero_le _)
  | d + 1 => by
    have G__law_term := ok_term T G__law_take G__law_number d
    refine T.D__law_term.cal sc__law_term (fun vs H Q E h => ?_) (fun f cdv A outer s H vs Q E hr h => ?_)
    · obtain ⟨b, hp, n, many, tall, rfl, _⟩ := h
      rfl
    obtain ⟨b, hp, n, many, tall, rfl, hB, t1, t2, m1, m2, hn, hh, q⟩ := h
    refine ⟨_, (pss_cons (ps_set (i := 4) sc__law_term.nd rfl (.inl rfl) (pe_ifExp (pt_cmpR op_gt (pv 3) pe_int (nomark _)) (pe_fn G__law_take hr (by omega) (pa_cons (pv 0) (pa_cons pe_int pa_nil))) (pe_fn G__law_take hr (by omega) (pa_cons (pv 0) (pa_cons pe_int pa_nil)))))
  (pss_cons (ps_if (PW.pt (pw_or (pt_cmpR op_eq (pv 4) pe_int (nomark _)) (pw_or1 (PW.pt (pw_and (pt_cmpR op_eq (pv 4) pe_int (nomark _)) (pw_and1 (pt_cmpR op_eq (pv 1) pe_int (nomark _))))))))
    (pss_one (ps_ret (pe_tup (pa_cons pe_str (pa_cons (pe_fn G__law_number hr (by omega) (pa_cons (pv 0) pa_nil)) pa_nil)))))
    pss_nil)
  (pss_cons (ps_if (pt_cmpR op_eq (pv 4) pe_int (nomark _))
    (pss_one (ps_ret (pe_tup (pa_cons pe_str (pa_cons (pe_fn G__law_take hr (by omega) (pa_cons (pv 0) (pa_cons (pv 1) pa_nil))) pa_nil)))))
    pss_nil)
  (pss_cons (ps_if (PW.pt (pw_or (pt_cmpR op_lt (pv 4) pe_int (nomark _)) (pw_or1 (PW.pt (pw_and (pt_cmpR (op_eqD hr.units) (pv 2) (pe_lst pa_nil) (nomark _)) (pw_and1 (pt_cmpR op_gt (pv 4) pe_int (nomark _))))))))
    (pss_cons (ps_par (i := 5) (j := 6) rfl sc__law_term.nd rfl rfl (by decide) rfl rfl (pa_cons (pe_ix (r := rIxL K) ix_list (pe_lst (pa_cons pe_str (pa_cons pe_str (pa_cons pe_str (pa_cons pe_str pa_nil))))) (pe_fn G__law_take hr (by omega) (pa_cons (pv 0) (pa_cons pe_int pa_nil))) (fun _ _ => rfl)) (pa_cons (pe_fn G__law_term hr (by omega) (pa_cons (pv 0) (pa_cons (pv 1) (pa_cons (pv 2) (pa_cons (pe_op op_sub (pv 3) pe_int) pa_nil))))) pa_nil)) rfl)
    (pss_one (ps_ret (pe_tup (pa_cons (pv 5) (pa_cons (pv 6) (pa_cons (pe_fn G__law_term hr (by omega) (pa_cons (pv 0) (pa_cons (pv 1) (pa_cons (pv 2) (pa_cons (pe_op op_sub (pv 3) pe_int) pa_nil))))) pa_nil)))))))
    pss_nil)
  (pss_cons (ps_if (pt_cmpR op_eq (pv 4) pe_int (nomark _))
    (pss_cons (ps_par (i := 6) (j := 7) rfl sc__law_term.nd rfl rfl (by decide) rfl rfl (pa_cons (pe_fn G__law_term hr (by omega) (pa_cons (pv 0) (pa_cons (pv 1) (pa_cons (pv 2) (pa_cons (pe_op op_sub (pv 3) pe_int) pa_nil))))) (pa_cons (pe_fn G__law_term hr (by omega) (pa_cons (pv 0) (pa_cons (pv 1) (pa_cons (pv 2) (pa_cons (pe_op op_sub (pv 3) pe_int) pa_nil))))) pa_nil)) rfl)
    (pss_one (ps_ret (pe_tup (pa_cons pe_str (pa_cons (pv 6) (pa_cons (pv 7) (pa_cons (pe_fn G__law_term hr (by omega) (pa_cons (pv 0) (pa_cons (pv 1) (pa_cons (pv 2) (pa_cons (pe_op op_sub (pv 3) pe_int) pa_nil))))) pa_nil))))))))
    pss_nil)
  (pss_cons (ps_asg (pe_ix (r := rIxL K) ix_list (pv 2) (pe_fn G__law_take hr (by omega) (pa_cons (pv 0) (pa_cons (pe_bi call_len_seq T.z_len (pa_cons (pv 2) pa_nil)) pa_nil))) (fun _ _ => rfl)) (pg_tup rfl (pgs_cons (pg_name (i := 8) sc__law_term.nd rfl (.inl rfl)) (pgs_cons (pg_name (i := 9) sc__law_term.nd rfl (.inl rfl)) pgs_nil))))
  (pss_cons (ps_set (i := 10) sc__law_term.nd rfl (.inl rfl) (pe_lst pa_nil))
  (pss_cons (ps_for PassesOwn.never rfl (pi_range1 rfl T.z_range (pa_cons (pv 9) pa_nil)) (pg_name (i := 11) sc__law_term.nd rfl (.inl rfl))
    (pss_one (ps_expr (pe_bm PySem.F.plainAttrs_list PySem.F.slot_list_append PySem.F.type_list_append mt_append (pv 10) (pa_cons (pe_fn G__law_term hr (by omega) (pa_cons (pv 0) (pa_cons (pv 1) (pa_cons (pv 2) (pa_cons (pe_op op_sub (pv 3) pe_int) pa_nil))))) pa_nil)))))
  (pss_one (ps_ret (pe_op op_catA (pv 8) (pe_tup (pa_cons (pe_bt call_tuple_of T.z_tuple (pa_cons (pv 10) pa_nil)) pa_nil))))))))))))), ?_⟩
    let A0 : L2.St → Hp → Prop := fun σ H' => σ = [some (.ref b), some (.int (many : Int)), some (.ref hp), some (.int (tall : Int)), none, none, none, none, none, none, none, none] ∧ H' = H
    let A1 : L2.St → Hp → Prop := fun σ H' => ∃ r : Int, σ = [some (.ref b), some (.int (many : Int)), some (.ref hp), some (.int (tall : Int)), some (.int r), none, none, none, none, none, none, none] ∧ 0 ≤ r ∧ r < 9 ∧ (r < 2 ∨ 2 ≤ tall) ∧ But b H H' ∧ Box H' b (n + 4 + 4 * cost d) ∧ Heads H' hp
    have hB0 : Box H b (n + 4 + 4 * cost d + 1) := by
      have e : n + 4 + 4 * cost d + 1 = n + cost (d + 1) := by show _ = n + (5 + 4 * cost d); omega
      rw [e]
      exact hB
    refine (Hs.fin (A := A0) (B := A1) ?_ (Q := Q) ?_) _ _ H ⟨rfl, rfl⟩ fun v H' h => h
    · rintro D σ H' ⟨rfl, rfl⟩ kk
      obtain ⟨xs, hx⟩ := hB0.lst
      refine ⟨_, rfl, _, _, rfl, rfl, _, rfl, ?_⟩
      by_cases c : 2 ≤ tall
      · rw [show decide ((1 : Int) < (tall : Int)) = true from decide_eq_true (by omega)]
        exact iteT ⟨_, rfl, b, 9, _, rfl, by decide, by decide, hB0, fun H1 r u1 B1 r0 r1 => kk _ _ ⟨r, rfl, r0, r1, .inr c, u1, B1, hh.but hx hn u1⟩⟩
      · rw [show decide ((1 : Int) < (tall : Int)) = false from decide_eq_false (by omega)]
        exact iteF ⟨_, rfl, b, 2, _, rfl, by decide, by decide, hB0, fun H1 r u1 B1 r0 r1 => kk _ _ ⟨r, rfl, r0, by omega, .inl r1, u1, B1, hh.but hx hn u1⟩⟩
    · rintro D σ H1 ⟨r, rfl, r0, r9, rt, u1, B1, hh1⟩ kk
      have fin : ∀ (H' : Hp) (v : V) (t : Tm) (k : Nat), But b H H' → Box H' b (n + k) → TmAt H' v t → t.Ok 11 → t.deep ≤ d + 1 → t.size ≤ most (d + 1) → D.rt v H' := fun H' v t k a1 a2 a3 a4 a5 a6 => kk _ _ (q H' v t a1 (a2.less (by omega)) a3 a4 a5 a6)
      have szd : 1 + 4 * most d = most (d + 1) := rfl
      refine ⟨_, rfl, rfl, _, rfl, ?_⟩
      rw [dec_ii]
      by_cases c0 : r = 0
      · rw [decide_eq_true c0]
        refine iteT (iteT ⟨_, rfl, b, n + 4 * cost d, rfl, B1.less (by omega), fun H2 x u2 B2 x0 x1 => ⟨sz 2, fun p hp2 => ?_⟩⟩)
        obtain ⟨xn, rfl⟩ := Int.eq_ofNat_of_zero_le x0
        exact fin _ _ (.num xn) _ (u1.trans (u2.trans (But.of (Ex.new hp2)))) (B2.ex (Ex.new hp2)) (.num upd_same) (.num (by omega)) (by show 1 ≤ d + 1; omega) (by show 1 ≤ 1 + 4 * most d; omega)
      rw [decide_eq_false c0]
      refine iteF ⟨_, rfl, rfl, _, rfl, ?_⟩
      rw [dec_ii]
      by_cases c1 : r = 1
      · rw [decide_eq_true c1]
        refine iteT ⟨_, rfl, rfl, _, rfl, ?_⟩
        rw [dec_ii, decide_eq_false (by omega)]
        refine iteF ⟨_, rfl, rfl, _, rfl, ?_⟩
        rw [dec_ii, decide_eq_true c1]
        refine iteT ⟨_, rfl, _, rfl, b, many, n + 3 + 4 * cost d, rfl, by omega, by omega, B1.less (by omega), fun H2 x u2 B2 x0 x1 => ⟨sz 2, fun p hp2 => ?_⟩⟩
        obtain ⟨xn, rfl⟩ := Int.eq_ofNat_of_zero_le x0
        exact fin _ _ (.arg xn) (3 + 4 * cost d) (u1.trans (u2.trans (But.of (Ex.new hp2)))) ((B2.ex (Ex.new hp2)).less (by omega)) (.arg upd_same) (.arg (by omega)) (by show 1 ≤ d + 1; omega) (by show 1 ≤ 1 + 4 * most d; omega)
      rw [decide_eq_false c1]
      refine iteF (iteF ⟨_, rfl, rfl, _, rfl, ?_⟩)
      rw [dec_ii, decide_eq_false c1]
      have t3 : 2 ≤ tall := by omega
      have tm : ((tall - 1 : Nat) : Int) = (tall : Int) - 1 := by omega
      have sub : ∀ (H2 : Hp) (k : Nat) (Q2 : VK), Box H2 b (k + cost d) → Heads H2 hp → Drawn b k d H2 Q2 → spTerm d [.ref b, .int (many : Int), .ref hp, .int ((tall : Int) - 1)] H2 Q2 E0 := fun H2 k Q2 hB2 hh2 dr =>
        ⟨b, hp, k, many, tall - 1, by rw [tm], hB2, by omega, by omega, m1, m2, hn, hh2, dr⟩
      refine iteF ⟨_, rfl, _, _, rfl, rfl, _, rfl, ?_⟩
      by_cases c5 : r < 5
      · rw [decide_eq_true c5]
        refine iteT ⟨sz 4, fun pl hpl => ⟨_, rfl, b, 4, n + 3 + 4 * cost d, rfl, by decide, by decide, (B1.ex (Ex.new hpl)).less (by omega), fun H3 k u3 B3 k0 k1 => ?_⟩⟩
        obtain ⟨xs, hx⟩ := B1.lst
        have npl : pl ≠ b := fun z => by
          rw [z, hx] at hpl
          cases hpl
        have u13 : But b H1 H3 := (But.of (Ex.new hpl)).trans u3
        have hl3 := u3 pl _ npl upd_same
        have hh3 := hh1.but hx hn u13
        obtain ⟨o, ho, oa⟩ : ∃ o : Op, atI [V.str "add", V.str "less", V.str "times", V.str "under"] k = some (.str o.str) ∧ o.ar = 2 := by
          have w4 : k = 0 ∨ k = 1 ∨ k = 2 ∨ k = 3 := by omega
          rcases w4 with rfl | rfl | rfl | rfl
          · exact ⟨.add, rfl, rfl⟩
          · exact ⟨.less, rfl, rfl⟩
          · exact ⟨.times, rfl, rfl⟩
          · exact ⟨.under, rfl, rfl⟩
        refine ⟨pl, _, k, _, rfl, rfl, SqL.of hl3, ho, _, rfl, _, rfl, _, rfl, _, rfl, _, _, rfl, rfl, sub H3 (n + 3 * cost d) _ (B3.less (by omega)) hh3 fun H4 v1 s1 u4 B4 g1 o1 d1 z1 => ?_⟩
        obtain ⟨xs3, hx3⟩ := B3.lst
        have hh4 := hh3.but hx3 hn u4
        refine ⟨_, _, rfl, _, rfl, _, rfl, _, rfl, _, rfl, _, rfl, _, rfl, _, _, rfl, rfl, sub H4 (n + 2 * cost d) _ (B4.less (by omega)) hh4 fun H5 v2 s2 u5 B5 g2 o2 d2 z2 => ⟨sz 3, fun p hp5 => ?_⟩⟩
        have e6 := Ex.new (o := .tup [.str o.str, v1, v2]) hp5
        refine fin _ _ (.node (.op o) [s1, s2]) (2 * cost d) (u1.trans (u13.trans (u4.trans (u5.trans (But.of e6))))) (B5.ex e6) (.op upd_same (.cons ((g1.tu (B4.tu u5)).ex e6) (.cons (g2.ex e6) .nil))) (.node oa.symm fun t ht => ?_) ?_ ?_
        · simp only [List.mem_cons, List.not_mem_nil, or_false] at ht
          rcases ht with rfl | rfl
          · exact o1
          · exact o2
        · show 1 + max s1.deep (max s2.deep 0) ≤ d + 1
          omega
        · show 1 + (s1.size + (s2.size + 0)) ≤ 1 + 4 * most d
          omega
      rw [decide_eq_false c5]
      obtain ⟨dd, dp1, dp2, dp3⟩ := hh1.dp (K := K)
      refine iteF ⟨_, rfl, sz 0, fun pe hpe => ⟨dd, .list [], dp_ex (Ex.new hpe) dp1, .lst (SqL.of upd_same) .nil, dp2, rfl, _, rfl, ?_⟩⟩
      rw [dp3]
      have e2 := Ex.new (o := .lst []) hpe
      have u2 : But b H (upd H1 pe (.lst [])) := u1.trans (But.of e2)
      have B2 := B1.ex e2
      have hh2 : Heads (upd H1 pe (.lst [])) hp := by
        obtain ⟨xs, hx⟩ := B1.lst
        exact hh1.but hx hn (But.of e2)
      generalize upd H1 pe (.lst []) = H2 at u2 B2 hh2
      refine iteF (iteF ⟨_, rfl, rfl, _, rfl, ?_⟩)
      rw [dec_ii]
      by_cases c6 : r = 5
      · rw [decide_eq_true c6]
        obtain ⟨xs, hx⟩ := B2.lst
        refine iteT ⟨_, rfl, _, rfl, _, rfl, _, rfl, _, _, rfl, rfl, sub H2 (n + 3 * cost d) _ (B2.less (by omega)) hh2 fun H3 v1 s1 u3 B3 g1 o1 d1 z1 => ?_⟩
        have hh3 := hh2.but hx hn u3
        obtain ⟨xs3, hx3⟩ := B3.lst
        refine ⟨_, rfl, _, rfl, _, rfl, _, rfl, _, _, rfl, rfl, sub H3 (n + 2 * cost d) _ (B3.less (by omega)) hh3 fun H4 v2 s2 u4 B4 g2 o2 d2 z2 => ⟨_, _, rfl, ?_⟩⟩
        have hh4 := hh3.but hx3 hn u4
        refine ⟨_, rfl, _, rfl, _, rfl, _, rfl, _, rfl, _, rfl, _, _, rfl, rfl, sub H4 (n + cost d) _ (B4.less (by omega)) hh4 fun H5 v3 s3 u5 B5 g3 o3 d3 z3 => ⟨sz 4, fun p hp5 => ?_⟩⟩
        have e6 := Ex.new (o := .tup [.str "if", v1, v2, v3]) hp5
        refine fin _ _ (.node (.op .cond) [s1, s2, s3]) (cost d) (u2.trans (u3.trans (u4.trans (u5.trans (But.of e6))))) (B5.ex e6) (.op upd_same (.cons (((g1.tu (B3.tu u4)).tu (B4.tu u5)).ex e6) (.cons ((g2.tu (B4.tu u5)).ex e6) (.cons (g3.ex e6) .nil)))) (.node rfl fun t ht => ?_) ?_ ?_
        · simp only [List.mem_cons, List.not_mem_nil, or_false] at ht
          rcases ht with rfl | rfl | rfl
          · exact o1
          · exact o2
          · exact o3
        · show 1 + max s1.deep (max s2.deep (max s3.deep 0)) ≤ d + 1
          omega
        · show 1 + (s1.size + (s2.size + (s3.size + 0))) ≤ 1 + 4 * most d
          omega
      rw [decide_eq_false c6]
      obtain ⟨hv, hv1, hv2, hv3⟩ := hh2.get
      refine iteF ⟨_, rfl, _, rfl, _, rfl, hp, hv, rfl, .inl (SqL.of hv1), b, 4, n + 3 + 4 * cost d, by rw [hv2]; rfl, by decide, by decide, B2.less (by omega), fun H3 k u3 B3 k0 k1 => ?_⟩
      obtain ⟨xs, hx⟩ := B2.lst
      have hh3 := hh2.but hx hn u3
      obtain ⟨kn, rfl⟩ := Int.eq_ofNat_of_zero_le k0
      obtain ⟨v, hd, sn, e1, e2', e3, e4⟩ := hv3 kn (by omega)
      obtain ⟨a, c, rfl, ha, hc⟩ := e2'.tu (B2.tu u3)
      refine ⟨hp, hv, kn, _, rfl, rfl, SqL.of (u3 hp _ hn hv1), atI_nat e1, a, _, rfl, SqT.of ha, rfl, .ref c, _, rfl, .int (sn : Int), _, rfl, rfl, sz 0, fun l hl => ?_⟩
      have s4 : sn ≤ 4 := Hd.ok.le e4
      have nlb : l ≠ b := fun z => by
        obtain ⟨ys, hy⟩ := B3.lst
        rw [z, hy] at hl
        cases hl
      obtain ⟨xs3, hx3⟩ := B3.lst
      have step : ∀ i : Nat, i < 4 → (4 - i) * cost d = (4 - (i + 1)) * cost d + cost d := fun i hi => by rw [show 4 - i = (4 - (i + 1)) + 1 by omega, Nat.add_mul, Nat.one_mul]
      refine ⟨_, rfl, (sn : Int), rfl, by omega, by omega, ?_⟩
      refine for_range (n := sn) (fun i σ H' => ∃ (vs : List V) (ts : List Tm) (y : Option V), σ = [some (.ref b), some (.int (many : Int)), some (.ref hp), some (.int (tall : Int)), some (.int r), none, none, none, some (.ref c), some (.int (sn : Int)), some (.ref l), y] ∧
        But b H3 H' ∧ Box H' b (n + (4 - i) * cost d) ∧ H' l = some (.lst vs) ∧ TmsAt H' vs ts ∧ ts.length = i ∧ ∀ t ∈ ts, t.Ok 11 ∧ t.deep ≤ d ∧ t.size ≤ most d)
        ⟨[], [], none, rfl, But.of (Ex.new hl), (B3.less (by show n + 4 * cost d ≤ _; omega)).ex (Ex.new hl), upd_same, .nil, rfl, fun t h => by cases h⟩ ?_ ?_
      · rintro i σ H4 hi ⟨vs, ts, y, rfl, u4, B4, hl4, g4, len, all⟩
        have hh4 := hh3.but hx3 hn u4
        refine ⟨_, rfl, .inl ⟨rfl, vs, SqL.of hl4⟩, _, rfl, _, rfl, _, rfl, _, rfl, _, _, rfl, rfl, sub H4 (n + (4 - (i + 1)) * cost d) _ (B4.less (by rw [step i (by omega)]; omega)) hh4 fun H5 v t u5 B5 g5 o5 d5 z5 => ?_⟩
        have hl5 := u5 l _ nlb hl4
        have tu : Tu H5 (upd H5 l (.lst (vs ++ [v]))) := (But.upd (But.refl l H5)).tu hl5
        refine ⟨l, vs, v, rfl, rfl, hl5, small1000 (by rw [g4.length, len]; omega), vs ++ [v], ts ++ [t], _, rfl, ?_, ?_, upd_same, ((g4.tu (B4.tu u5)).tu tu).append (.cons (g5.tu tu) .nil), by rw [List.length_append, len]; rfl, fun x hx5 => ?_⟩
        · intro a o ha ho
          have na : a ≠ l := fun z => by
            rw [z, hl] at ho
            cases ho
          rw [upd_ne na]
          exact u5 a o ha (u4 a o ha ho)
        · obtain ⟨x, y, z, q1, q2⟩ := B5
          exact ⟨x, y, z, by rw [upd_ne nlb.symm]; exact q1, q2⟩
        · rcases List.mem_append.mp hx5 with hx5 | hx5
          · exact all x hx5
          · rw [List.mem_singleton.mp hx5]
            exact ⟨o5, d5, z5⟩
      · rintro σ H4 ⟨vs, ts, y, rfl, u4, B4, hl4, g4, len, all⟩
        have hc4 := B3.tu u4 c _ hc
        refine ⟨_, rfl, _, rfl, l, vs, rfl, .inl ⟨SqL.of hl4, fun pt hpt => ⟨sz 1, fun pp hpp => ?_⟩⟩⟩
        have f1 := Ex.new (o := .tup vs) hpt
        have f2 := Ex.new (o := .tup [.ref pt]) hpp
        have nL : hd.L ≠ [] := by cases hd <;> exact fun z => by cases z
        refine ⟨c, pp, hd.L, [.ref pt], rfl, rfl, SqT.of ((f1.trans f2) c _ hc4), SqT.of upd_same, ?_, fun z => absurd z nL, (fun _ z => by cases z), fun _ _ p hp6 => ?_⟩
        · have h3 : hd.L.length ≤ 2 := by cases hd <;> exact Nat.le_of_ble_eq_true rfl
          exact Nat.le_trans (show hd.L.length + 1 ≤ 3 by omega) (by decide)
        have f3 := Ex.new (o := .tup (hd.L ++ [.ref pt])) hp6
        have hpt3 := f3 _ _ (f2 _ _ (upd_same (H := H4) (a := pt) (o := .tup vs)))
        have gg := g4.ex (f1.trans (f2.trans f3))
        have uu := u2.trans (u3.trans (u4.trans (But.of (f1.trans (f2.trans f3)))))
        have BB := B4.ex (f1.trans (f2.trans f3))
        have hok : Tm.Ok 11 (.node hd ts) := .node (by rw [len]; exact e4) fun t ht => (all t ht).1
        have hdp : (Tm.node hd ts).deep ≤ d + 1 := by
          have := deeps_le ts d fun t ht => (all t ht).2.1
          show 1 + Tm.deeps ts ≤ d + 1
          omega
        have hsz : (Tm.node hd ts).size ≤ most (d + 1) := by
          have h1 := sizes_le ts (most d) fun t ht => (all t ht).2.2
          have h2 : ts.length * most d ≤ 4 * most d := Nat.mul_le_mul_right _ (by omega)
          show 1 + Tm.sizes ts ≤ 1 + 4 * most d
          omega
        cases hd with
        | op o => cases e3
        | call m => exact fin _ _ _ _ uu BB (.call upd_same hpt3 gg) hok hdp hsz
        | ring j => exact fin _ _ _ _ uu BB (.ring upd_same hpt3 gg) hok hdp hsz
end
end V


set_option Elab.async false
set_option linter.all false
set_option maxRecDepth 100000
set_option maxHeartbeats 400000
namespace V
open PySem PySem.Spec PyProof.Rows L2 Evl TL NumText
section
variable {P : Program} {w : World} {K : PySem.W.Frag} {mg : Str → Option Value} {base : Heap}
theorem ok_anyTerm (T : Txt K w mg) (G__law_take : Cal P w K mg base 1 "_law_take" ["box", "size"] spTake) (G__law_number : Cal P w K mg base 2 "_law_number" ["box"] spNum) (G__law_some_mark : Cal P w K mg base 2 "_law_some_mark" ["box"] spSomeMark)
    (G__law_term : Cal P w K mg base 5 "_law_term" ["box", "many", "heads", "tall"] (spTerm 3)) : Cal P w K mg base 6 "_law_any_term" ["box"] spAny := by
  refine T.D__law_any_term.cal sc__law_any_term (fun vs H Q E h => ?_) (fun f cdv A outer s H vs Q E hr h => ?_)
  · obtain ⟨b, n, rfl, _⟩ := h
    rfl
  obtain ⟨b, n, rfl, hB, q⟩ := h
  refine ⟨_, (pss_cons (ps_setLc (i := 1) (own := [("turn", 3)]) (g := (gName 3)) (tt := tYes) rfl sc__law_any_term.nd rfl rfl (sw_true rfl rfl rfl rfl) (pi_range1 rfl T.z_range (pa_cons pe_int pa_nil)) (blkOk_by (N := N__law_any_term) (sc := defScope s__law_any_term) (by decide +kernel)) (fun _ _ _ _ _ => (pg_name (i := 3) sc__law_any_term.nd rfl (.inl rfl))) (fun _ _ _ _ _ => pts_nil) (fun _ _ _ _ _ => (pe_tup (pa_cons (pe_tup (pa_cons pe_str (pa_cons (pe_fn G__law_some_mark hr (by omega) (pa_cons (pv 0) pa_nil)) pa_nil))) (pa_cons (pe_fn G__law_take hr (by omega) (pa_cons (pv 0) (pa_cons pe_int pa_nil))) pa_nil)))))
  (pss_cons (ps_set (i := 1) sc__law_any_term.nd rfl (.inl rfl) (pe_op op_cat (pv 1) (pe_lc (own := [("turn", 3)]) (g := (gName 3)) (tt := tYes) rfl sc__law_any_term.nd (pi_range1 rfl T.z_range (pa_cons pe_int pa_nil)) (blkOk_by (N := N__law_any_term) (sc := defScope s__law_any_term) (by decide +kernel)) (fun _ _ _ _ _ => (pg_name (i := 3) sc__law_any_term.nd rfl (.inl rfl))) (fun _ _ _ _ _ => pts_nil) (fun _ _ _ _ _ => (pe_tup (pa_cons (pe_tup (pa_cons pe_str (pa_cons (pe_ix (r := rIxL K) ix_list (pe_lst (pa_cons pe_int (pa_cons pe_int (pa_cons (pe_fn G__law_take hr (by omega) (pa_cons (pv 0) (pa_cons pe_int pa_nil))) pa_nil)))) (pe_fn G__law_take hr (by omega) (pa_cons (pv 0) (pa_cons pe_int pa_nil))) (fun _ _ => rfl)) pa_nil))) (pa_cons (pe_fn G__law_take hr (by omega) (pa_cons (pv 0) (pa_cons pe_int pa_nil))) pa_nil)))))))
  (pss_cons (ps_set (i := 2) sc__law_any_term.nd rfl (.inl rfl) (pe_fn G__law_term hr (by omega) (pa_cons (pv 0) (pa_cons (pe_op op_add pe_int (pe_fn G__law_take hr (by omega) (pa_cons (pv 0) (pa_cons pe_int pa_nil)))) (pa_cons (pv 1) (pa_cons (pe_op op_add pe_int (pe_fn G__law_take hr (by omega) (pa_cons (pv 0) (pa_cons pe_int pa_nil)))) pa_nil))))))
  (pss_cons (ps_for PassesOwn.never rfl (pi_range1 rfl T.z_range (pa_cons (pe_fn G__law_take hr (by omega) (pa_cons (pv 0) (pa_cons pe_int pa_nil))) pa_nil)) (pg_name (i := 3) sc__law_any_term.nd rfl (.inl rfl))
    (pss_cons (ps_par (i := 4) (j := 5) rfl sc__law_any_term.nd rfl rfl (by decide) rfl rfl (pa_cons (pe_ix (r := rIxL K) ix_list (pe_lst (pa_cons (pe_tup (pa_cons pe_str (pa_cons (pe_fn G__law_number hr (by omega) (pa_cons (pv 0) pa_nil)) pa_nil))) (pa_cons (pe_tup (pa_cons pe_str (pa_cons (pe_fn G__law_take hr (by omega) (pa_cons (pv 0) (pa_cons pe_int pa_nil))) pa_nil))) pa_nil))) (pe_fn G__law_take hr (by omega) (pa_cons (pv 0) (pa_cons pe_int pa_nil))) (fun _ _ => rfl)) (pa_cons (pe_fn G__law_take hr (by omega) (pa_cons (pv 0) (pa_cons pe_int pa_nil))) pa_nil)) rfl)
    (pss_one (ps_if (pt_cmpR op_lt (pv 5) pe_int (nomark _))
      (pss_cons (ps_set (i := 6) sc__law_any_term.nd rfl (.inl rfl) (pe_ix (r := rIxL K) ix_list (pe_lst (pa_cons (pe_tup (pa_cons pe_str (pa_cons (pe_fn G__law_some_mark hr (by omega) (pa_cons (pv 0) pa_nil)) pa_nil))) (pa_cons (pe_tup (pa_cons pe_str (pa_cons (pe_fn G__law_take hr (by omega) (pa_cons (pv 0) (pa_cons pe_int pa_nil))) pa_nil))) pa_nil))) (pv 5) (fun _ _ => rfl)))
      (pss_cons (ps_set (i := 7) sc__law_any_term.nd rfl (.inl rfl) (pe_lst (pa_cons (pe_tup (pa_cons (pv 2) pa_nil)) (pa_cons (pe_tup (pa_cons (pv 4) (pa_cons (pv 2) pa_nil))) (pa_cons (pe_tup (pa_cons (pv 2) (pa_cons (pv 4) pa_nil))) (pa_cons (pe_tup (pa_cons (pv 4) (pa_cons (pv 4) (pa_cons (pv 4) (pa_cons (pv 2) pa_nil))))) (pa_cons (pe_tup (pa_cons (pv 4) (pa_cons (pv 4) (pa_cons (pv 2) pa_nil)))) pa_nil)))))))
      (pss_one (ps_set (i := 2) sc__law_any_term.nd rfl (.inl rfl) (pe_op op_catA (pv 6) (pe_tup (pa_cons (pe_ix (r := rIxL K) ix_list (pv 7) (pe_fn G__law_take hr (by omega) (pa_cons (pv 0) (pa_cons pe_int pa_nil))) (fun _ _ => rfl)) pa_nil)))))))
      (pss_one (ps_if (pt_cmpR op_eq (pv 5) pe_int (nomark _))
        (pss_one (ps_set (i := 2) sc__law_any_term.nd rfl (.inl rfl) (pe_op op_catA (pe_tup (pa_cons pe_str pa_nil)) (pe_ix (r := rIxL K) ix_list (pe_lst (pa_cons (pe_tup (pa_cons (pv 2) (pa_cons (pv 4) (pa_cons (pv 4) pa_nil)))) (pa_cons (pe_tup (pa_cons (pv 4) (pa_cons (pv 2) (pa_cons (pv 4) pa_nil)))) (pa_cons (pe_tup (pa_cons (pv 4) (pa_cons (pv 4) (pa_cons (pv 2) pa_nil)))) pa_nil)))) (pe_fn G__law_take hr (by omega) (pa_cons (pv 0) (pa_cons pe_int pa_nil))) (fun _ _ => rfl)))))
        (pss_cons (ps_set (i := 8) sc__law_any_term.nd rfl (.inl rfl) (pe_ix (r := rIxL K) ix_list (pe_lst (pa_cons pe_str (pa_cons pe_str (pa_cons pe_str (pa_cons pe_str pa_nil))))) (pe_fn G__law_take hr (by omega) (pa_cons (pv 0) (pa_cons pe_int pa_nil))) (fun _ _ => rfl)))
        (pss_one (ps_set (i := 2) sc__law_any_term.nd rfl (.inl rfl) (pe_op op_catA (pe_tup (pa_cons (pv 8) pa_nil)) (pe_ix (r := rIxL K) ix_list (pe_lst (pa_cons (pe_tup (pa_cons (pv 2) (pa_cons (pv 4) pa_nil))) (pa_cons (pe_tup (pa_cons (pv 4) (pa_cons (pv 2) pa_nil))) pa_nil))) (pe_op op_sub (pv 5) pe_int) (fun _ _ => rfl))))))))))))
  (pss_one (ps_ret (pv 2))))))), ?_⟩
  let A0 : L2.St → Hp → Prop := fun σ H' => σ = [some (.ref b), none, none, none, none, none, none, none, none] ∧ H' = H
  let A1 : L2.St → Hp → Prop := fun σ H' => ∃ l v1 v2, σ = [some (.ref b), some (.ref l), none, none, none, none, none, none, none] ∧ But b H H' ∧ Box H' b (n + 384) ∧ l ≠ b ∧ H' l = some (.lst [v1, v2]) ∧ CallHd H' v1 ∧ CallHd H' v2
  let A2 : L2.St → Hp → Prop := fun σ H' => ∃ l, σ = [some (.ref b), some (.ref l), none, none, none, none, none, none, none] ∧ But b H H' ∧ Box H' b (n + 378) ∧ l ≠ b ∧ Heads H' l
  let A3 : L2.St → Hp → Prop := fun σ H' => ∃ l v t, σ = [some (.ref b), some (.ref l), some v, none, none, none, none, none, none] ∧ But b H H' ∧ Box H' b (n + 200) ∧ TmAt H' v t ∧ t.Ok 11 ∧ t.deep ≤ 3 ∧ t.size ≤ 21
  let A4 : L2.St → Hp → Prop := fun σ H' => ∃ l v t y3 y4 y5 y6 y7 y8, σ = [some (.ref b), some (.ref l), some v, y3, y4, y5, y6, y7, y8] ∧ But b H H' ∧ Box H' b n ∧ TmAt H' v t ∧ t.Ok 11 ∧ t.deep ≤ 8 ∧ t.size ≤ 50
  refine (Hs.fin (A := A0) (B := A1) ?_ (Hs.fin (B := A2) ?_ (Hs.fin (B := A3) ?_ (Hs.fin (B := A4) ?_ (Q := Q) ?_)))) _ _ H ⟨rfl, rfl⟩ fun v H' h => h
  · rintro D σ H0 ⟨rfl, rfl⟩ kk
    refine ⟨2, rfl, by decide, by decide, fun Dl hD => ?_⟩
    have nb := hB.ne hD
    refine lc_range (lo := 0) (n := 2) (fun j H4 => But b H0 H4 ∧ Box H4 b (n + 400 - 8 * j) ∧ ∃ xs, H4 Dl = some (.lst xs) ∧ xs.length = j ∧ ∀ v ∈ xs, CallHd H4 v) ⟨But.of (Ex.new hD), hB.ex (Ex.new hD), [], upd_same, rfl, fun v h => by cases h⟩ ?_ ?_
    · rintro j H4 hj ⟨u4, B4, xs, d4, l4, c4⟩
      refine ⟨rfl, yes ⟨_, rfl, b, n + 400 - 8 * (j + 1) + 1, rfl, ?_, fun H5 m u5 B5 hm => ⟨sz 2, fun pt hpt => ⟨_, rfl, b, 5, n + 400 - 8 * (j + 1), rfl, by decide, by decide, B5.ex (Ex.new hpt), fun H6 k u6 B6 k0 k1 => ⟨sz 2, fun p2 hp2 => ?_⟩⟩⟩⟩⟩
      · rw [show n + 400 - 8 * (j + 1) + 1 + 7 = n + 400 - 8 * j by omega]
        exact B4
      obtain ⟨kn, rfl⟩ := Int.eq_ofNat_of_zero_le k0
      have u56 : But b H4 H6 := u5.trans ((But.of (Ex.new hpt)).trans u6)
      have e2 := Ex.new (o := .tup [.ref pt, .int (kn : Int)]) hp2
      have u7 := u56.trans (But.of e2)
      have d7 := u7 Dl _ nb d4
      have hpt6 := (B5.ex (Ex.new (o := .tup [.str "call", .str m]) hpt)).tu u6 pt _ upd_same
      have tu : Tu _ (upd (upd H6 p2 (.tup [.ref pt, .int (kn : Int)])) Dl (.lst (xs ++ [.ref p2]))) := (But.upd (But.refl Dl _)).tu d7
      refine ⟨xs, d7, small1000 (by omega), But.on hD u4 u7, (B6.ex e2).on nb, xs ++ [.ref p2], upd_same, by rw [List.length_append, l4]; rfl, fun v hv => ?_⟩
      rcases List.mem_append.mp hv with hv | hv
      · exact ((c4 v hv).tu (B4.tu u7)).tu tu
      · rw [List.mem_singleton.mp hv]
        exact ⟨m, kn, ⟨p2, pt, rfl, tu _ _ upd_same, tu _ _ (e2 _ _ hpt6)⟩, hm, by omega⟩
    · rintro H4 ⟨u4, B4, xs, d4, l4, c4⟩
      obtain ⟨v1, v2, rfl⟩ := len_two l4
      exact kk _ _ ⟨Dl, v1, v2, rfl, u4, B4, nb, d4, c4 v1 (by simp), c4 v2 (by simp)⟩
  · rintro D σ H1 ⟨l, v1, v2, rfl, u1, B1, nl, h1, c1, c2⟩ kk
    refine ⟨_, rfl, 2, rfl, by decide, by decide, fun Dl hD => ?_⟩
    have nb := B1.ne hD
    refine lc_range (lo := 0) (n := 2) (fun j H4 => But b H1 H4 ∧ Box H4 b (n + 384 - 3 * j) ∧ ∃ xs, H4 Dl = some (.lst xs) ∧ xs.length = j ∧ ∀ v ∈ xs, RingHd H4 v) ⟨But.of (Ex.new hD), B1.ex (Ex.new hD), [], upd_same, rfl, fun v h => by cases h⟩ ?_ ?_
    · rintro j H4 hj ⟨u4, B4, xs, d4, l4, c4⟩
      refine ⟨rfl, yes ⟨_, rfl, b, 12, n + 384 - 3 * (j + 1) + 2, rfl, by decide, by decide, ?_, fun H5 k u5 B5 k0 k1 => ⟨sz 3, fun pl hpl => ⟨_, rfl, b, 3, n + 384 - 3 * (j + 1) + 1, rfl, by decide, by decide, B5.ex (Ex.new hpl), fun H6 i u6 B6 i0 i1 => ?_⟩⟩⟩⟩
      · rw [show n + 384 - 3 * (j + 1) + 2 + 1 = n + 384 - 3 * j by omega]
        exact B4
      obtain ⟨kn, rfl⟩ := Int.eq_ofNat_of_zero_le k0
      obtain ⟨pn, hat, pn1⟩ : ∃ pn : Nat, atI [V.int 0, V.int 11, V.int (kn : Int)] i = some (.int (pn : Int)) ∧ pn ≤ 11 := by
        have w3 : i = 0 ∨ i = 1 ∨ i = 2 := by omega
        rcases w3 with rfl | rfl | rfl
        · exact ⟨0, rfl, by decide⟩
        · exact ⟨11, rfl, by decide⟩
        · exact ⟨kn, rfl, by omega⟩
      refine ⟨pl, _, i, _, rfl, rfl, SqL.of (u6 pl _ (B5.ne hpl) upd_same), hat, sz 2, fun pt hpt => ⟨_, rfl, b, 5, n + 384 - 3 * (j + 1), rfl, by decide, by decide, B6.ex (Ex.new hpt), fun H7 s u7 B7 s0 s1 => ⟨sz 2, fun p2 hp2 => ?_⟩⟩⟩
      obtain ⟨sn, rfl⟩ := Int.eq_ofNat_of_zero_le s0
      have e2 := Ex.new (o := .tup [.ref pt, .int (sn : Int)]) hp2
      have u46 : But b H4 H6 := u5.trans ((But.of (Ex.new hpl)).trans u6)
      have u8 := (u46.trans ((But.of (Ex.new (o := .tup [.str "ring", .int (pn : Int)]) hpt)).trans u7)).trans (But.of e2)
      have d8 := u8 Dl _ nb d4
      have hpt7 := (B6.ex (Ex.new (o := .tup [.str "ring", .int (pn : Int)]) hpt)).tu u7 pt _ upd_same
      have tu : Tu _ (upd (upd H7 p2 (.tup [.ref pt, .int (sn : Int)])) Dl (.lst (xs ++ [.ref p2]))) := (But.upd (But.refl Dl _)).tu d8
      refine ⟨xs, d8, small1000 (by omega), But.on hD u4 u8, (B7.ex e2).on nb, xs ++ [.ref p2], upd_same, by rw [List.length_append, l4]; rfl, fun v hv => ?_⟩
      rcases List.mem_append.mp hv with hv | hv
      · exact ((c4 v hv).tu (B4.tu u8)).tu tu
      · rw [List.mem_singleton.mp hv]
        exact ⟨pn, sn, ⟨p2, pt, rfl, tu _ _ upd_same, tu _ _ (e2 _ _ hpt7)⟩, pn1, by omega⟩
    · rintro H4 ⟨u4, B4, xs, d4, l4, c4⟩
      obtain ⟨w1, w2, rfl⟩ := len_two l4
      refine ⟨l, Dl, [v1, v2], [w1, w2], rfl, rfl, u4 l _ nl h1, d4, sz 4, fun p5 np5 => kk _ _ ?_⟩
      have e5 := Ex.new (o := .lst [v1, v2, w1, w2]) np5
      have t5 := Tu.of e5
      obtain ⟨m1, s1, x1, y1, z1⟩ := (c1.tu (B1.tu u4)).tu t5
      obtain ⟨m2, s2, x2, y2, z2⟩ := (c2.tu (B1.tu u4)).tu t5
      obtain ⟨p1, s3, x3, y3, z3⟩ := (c4 w1 (by simp)).tu t5
      obtain ⟨p2, s4, x4, y4, z4⟩ := (c4 w2 (by simp)).tu t5
      exact ⟨p5, rfl, u1.trans (u4.trans (But.of e5)), B4.ex e5, B4.ne np5, ⟨v1, v2, w1, w2, m1, m2, p1, p2, s1, s2, s3, s4, upd_same, x1, x2, x3, x4, y1, y2, y3, y4, z1, z2, z3, z4⟩⟩
  · rintro D σ H1 ⟨l, rfl, u1, B1, nl, hh⟩ kk
    refine ⟨_, rfl, _, rfl, b, 4, n + 377, rfl, by decide, by decide, B1, fun H2 m u2 B2 m0 m1 => ⟨_, _, rfl, rfl, _, rfl, _, rfl, b, 3, n + 376, rfl, by decide, by decide, B2, fun H3 a u3 B3 a0 a1 => ⟨_, _, rfl, rfl, ?_⟩⟩⟩
    obtain ⟨mn, rfl⟩ := Int.eq_ofNat_of_zero_le m0
    obtain ⟨an, rfl⟩ := Int.eq_ofNat_of_zero_le a0
    obtain ⟨xs, hx⟩ := B1.lst
    refine ⟨b, l, n + 200, 1 + mn, 1 + an, ?_, B3.less (by show n + 200 + 105 ≤ n + 376; omega), by omega, by omega, by omega, by omega, nl, hh.but hx nl (u2.trans u3), fun H4 v t u4 B4 g o d z => kk _ _ ⟨l, v, t, rfl, u1.trans (u2.trans (u3.trans u4)), B4, g, o, d, z⟩⟩
    rw [show ((1 + mn : Nat) : Int) = 1 + (mn : Int) by omega, show ((1 + an : Nat) : Int) = 1 + (an : Int) by omega]
  · rintro D σ H1 ⟨l, v, t, rfl, u1, B1, hv, o1, d1, z1⟩ kk
    refine ⟨_, rfl, b, 6, n + 199, rfl, by decide, by decide, B1, fun H2 c u2 B2 c0 c6 => ?_⟩
    obtain ⟨cn, rfl⟩ := Int.eq_ofNat_of_zero_le c0
    refine ⟨(cn : Int), rfl, by omega, by omega, ?_⟩
    refine for_range (n := cn) (fun i σ H4 => ∃ v t y3 y4 y5 y6 y7 y8, σ = [some (.ref b), some (.ref l), some v, y3, y4, y5, y6, y7, y8] ∧ But b H H4 ∧ Box H4 b (n + 199 - 30 * i) ∧ TmAt H4 v t ∧ t.Ok 11 ∧ t.deep ≤ 3 + i ∧ t.size ≤ 21 + 4 * i)
      ⟨v, t, none, none, none, none, none, none, rfl, u1.trans u2, B2, hv.tu (B1.tu u2), o1, d1, z1⟩ ?_ ?_
    · rintro i σ H4 hi ⟨v, t, y3, y4, y5, y6, y7, y8, rfl, u4, B4, g4, o4, d4, z4⟩
      refine ⟨_, rfl, b, n + 199 - 30 * (i + 1) + 26, rfl, by rw [show n + 199 - 30 * (i + 1) + 26 + 4 = n + 199 - 30 * i by omega]; exact B4, fun H5 x u5 B5 x0 x1 => ⟨sz 2, fun p1 hp1 => ⟨_, rfl, b, 4, n + 199 - 30 * (i + 1) + 25, rfl, by decide, by decide, B5.ex (Ex.new hp1), fun H6 y u6 B6 y0 y1 => ⟨sz 2, fun p2 hp2 => ⟨sz 2, fun pl hpl => ?_⟩⟩⟩⟩⟩
      obtain ⟨xn, rfl⟩ := Int.eq_ofNat_of_zero_le x0
      obtain ⟨yn, rfl⟩ := Int.eq_ofNat_of_zero_le y0
      have f2 := Ex.new (o := .tup [.str "arg", .int (yn : Int)]) hp2
      have fl := Ex.new (o := .lst [.ref p1, .ref p2]) hpl
      refine ⟨_, rfl, b, 2, n + 199 - 30 * (i + 1) + 24, rfl, by decide, by decide, (B6.ex f2).ex fl, fun H7 j u7 B7 j0 j1 => ?_⟩
      have g1 : TmAt (upd (upd H6 p2 (.tup [.str "arg", .int (yn : Int)])) pl (.lst [.ref p1, .ref p2])) (.ref p1) (.num xn) := (TmAt.num (((B5.ex (Ex.new hp1)).tu u6) p1 _ upd_same)).ex (f2.trans fl)
      have g2 : TmAt (upd (upd H6 p2 (.tup [.str "arg", .int (yn : Int)])) pl (.lst [.ref p1, .ref p2])) (.ref p2) (.arg yn) := (TmAt.arg upd_same).ex fl
      obtain ⟨lv, lt, hat, gl, lo, ld, lz⟩ : ∃ lv lt, atI [V.ref p1, V.ref p2] j = some lv ∧ TmAt H7 lv lt ∧ lt.Ok 11 ∧ lt.deep = 1 ∧ lt.size = 1 := by
        have w2 : j = 0 ∨ j = 1 := by omega
        rcases w2 with rfl | rfl
        · exact ⟨_, _, rfl, g1.tu (((B6.ex f2).ex fl).tu u7), .num (by omega), rfl, rfl⟩
        · exact ⟨_, _, rfl, g2.tu (((B6.ex f2).ex fl).tu u7), .arg (by omega), rfl, rfl⟩
      have u47 : But b H4 H7 := u5.trans ((But.of (Ex.new hp1)).trans (u6.trans ((But.of (f2.trans fl)).trans u7)))
      refine ⟨pl, _, j, _, rfl, rfl, SqL.of (u7 pl _ ((B6.ex f2).ne hpl) upd_same), hat, _, rfl, b, 5, n + 199 - 30 * (i + 1) + 23, rfl, by decide, by decide, B7, fun H8 mo u8 B8 mo0 mo1 => ⟨_, _, rfl, ?_⟩⟩
      have u48 : But b H4 H8 := u47.trans u8
      have gt := g4.tu (B4.tu u48)
      have gf := gl.tu (B7.tu u8)
      refine ⟨_, rfl, _, _, rfl, rfl, _, rfl, ?_⟩
      by_cases c2 : mo < 2
      · rw [decide_eq_true c2]
        refine iteT ⟨_, rfl, b, n + 199 - 30 * (i + 1) + 16, rfl, B8, fun H9 m u9 B9 hm => ⟨sz 2, fun pc hpc => ⟨_, rfl, b, 12, n + 199 - 30 * (i + 1) + 15, rfl, by decide, by decide, B9.ex (Ex.new hpc), fun HA k uA BA k0 k1 => ⟨sz 2, fun pr hpr => ⟨sz 2, fun ph hph => ?_⟩⟩⟩⟩⟩
        obtain ⟨kn, rfl⟩ := Int.eq_ofNat_of_zero_le k0
        have fr := Ex.new (o := .tup [.str "ring", .int (kn : Int)]) hpr
        have fh := Ex.new (o := .lst [.ref pc, .ref pr]) hph
        have u8A : But b H8 HA := u9.trans ((But.of (Ex.new hpc)).trans uA)
        have uB := u8A.trans (But.of (fr.trans fh))
        have BB := BA.ex (fr.trans fh)
        have hcA := ((B9.ex (Ex.new (o := .tup [.str "call", .str m]) hpc)).tu uA) pc _ upd_same
        obtain ⟨px, hd, hat, hpx, hok, hno⟩ : ∃ (px : Addr) (hd : Hd), atI [V.ref pc, V.ref pr] mo = some (.ref px) ∧ (upd (upd HA pr (.tup [.str "ring", .int (kn : Int)])) ph (.lst [.ref pc, .ref pr])) px = some (.tup hd.L) ∧ (∀ z : Nat, z ≤ 4 → hd.ok 11 z) ∧ hd.notOp = true := by
          have w2 : mo = 0 ∨ mo = 1 := by omega
          rcases w2 with rfl | rfl
          · exact ⟨pc, .call m, rfl, (fr.trans fh) _ _ hcA, fun z hz => ⟨hm, hz⟩, rfl⟩
          · exact ⟨pr, .ring kn, rfl, fh _ _ upd_same, fun z hz => ⟨by omega, hz⟩, rfl⟩
        have gtB := gt.tu (B8.tu uB)
        have gfB := gf.tu (B8.tu uB)
        refine ⟨_, rfl, ph, _, mo, _, rfl, rfl, SqL.of upd_same, hat, ?_⟩
        generalize upd (upd HA pr (.tup [.str "ring", .int (kn : Int)])) ph (.lst [.ref pc, .ref pr]) = HB at uB BB hpx gtB gfB
        refine ⟨_, rfl, sz 1, fun s1 h1 => ⟨_, rfl, _, rfl, sz 2, fun s2 h2 => ⟨_, rfl, _, rfl, sz 2, fun s3 h3 => ⟨_, rfl, _, rfl, _, rfl, _, rfl, sz 4, fun s4 h4 => ⟨_, rfl, _, rfl, _, rfl, sz 3, fun s5 h5 => ⟨sz 5, fun ps hps => ?_⟩⟩⟩⟩⟩⟩
        have x1 := Ex.new (o := .tup [v]) h1
        have x2 := Ex.new (o := .tup [lv, v]) h2
        have x3 := Ex.new (o := .tup [v, lv]) h3
        have x4 := Ex.new (o := .tup [lv, lv, lv, v]) h4
        have x5 := Ex.new (o := .tup [lv, lv, v]) h5
        have x6 := Ex.new (o := .lst [.ref s1, .ref s2, .ref s3, .ref s4, .ref s5]) hps
        have F := x1.trans (x2.trans (x3.trans (x4.trans (x5.trans x6))))
        have BF := BB.ex F
        refine ⟨_, rfl, _, rfl, _, rfl, b, 5, n + 199 - 30 * (i + 1) + 14, rfl, by decide, by decide, BF, fun HC k2 uC BC k20 k21 => ?_⟩
        have tuC := BF.tu uC
        have gtC := (gtB.ex F).tu tuC
        have gfC := (gfB.ex F).tu tuC
        have lf : ∀ {us ts S}, Few HC us ts (3 + i) S → Few HC (lv :: us) (lt :: ts) (3 + i) (1 + S) := fun k => few_cons gfC lo (by omega) (Nat.le_of_eq lz) k
        have tf : ∀ {us ts S}, Few HC us ts (3 + i) S → Few HC (v :: us) (t :: ts) (3 + i) (21 + 4 * i + S) := fun k => few_cons gtC o4 d4 z4 k
        obtain ⟨pu, us, ts, hat2, hpu, few, len⟩ : ∃ pu us ts, atI [V.ref s1, V.ref s2, V.ref s3, V.ref s4, V.ref s5] k2 = some (.ref pu) ∧ HC pu = some (.tup us) ∧ Few HC us ts (3 + i) (21 + 4 * i + 3) ∧ us.length ≤ 4 := by
          have w5 : k2 = 0 ∨ k2 = 1 ∨ k2 = 2 ∨ k2 = 3 ∨ k2 = 4 := by omega
          rcases w5 with rfl | rfl | rfl | rfl | rfl
          · exact ⟨s1, _, _, rfl, tuC _ _ ((x2.trans (x3.trans (x4.trans (x5.trans x6)))) _ _ upd_same), (tf (few_nil HC _)).less (by omega), by show 1 ≤ 4; decide⟩
          · exact ⟨s2, _, _, rfl, tuC _ _ ((x3.trans (x4.trans (x5.trans x6))) _ _ upd_same), (lf (tf (few_nil HC _))).less (by omega), by show 2 ≤ 4; decide⟩
          · exact ⟨s3, _, _, rfl, tuC _ _ ((x4.trans (x5.trans x6)) _ _ upd_same), (tf (lf (few_nil HC _))).less (by omega), by show 2 ≤ 4; decide⟩
          · exact ⟨s4, _, _, rfl, tuC _ _ ((x5.trans x6) _ _ upd_same), (lf (lf (lf (tf (few_nil HC _))))).less (by omega), by show 4 ≤ 4; decide⟩
          · exact ⟨s5, _, _, rfl, tuC _ _ (x6 _ _ upd_same), (lf (lf (tf (few_nil HC _)))).less (by omega), by show 3 ≤ 4; decide⟩
        have nL : hd.L ≠ [] := by cases hd <;> exact fun z => by cases z
        have L2' : hd.L.length ≤ 2 := by cases hd <;> exact Nat.le_of_ble_eq_true rfl
        refine ⟨ps, _, k2, _, rfl, rfl, SqL.of (uC ps _ ((BB.ex (x1.trans (x2.trans (x3.trans (x4.trans x5))))).ne hps) upd_same), hat2, sz 1, fun pp hpp => ⟨px, pp, hd.L, [.ref pu], rfl, rfl, SqT.of ((Ex.new hpp) px _ (tuC _ _ (F px _ hpx))), SqT.of upd_same, Nat.le_trans (show hd.L.length + 1 ≤ 3 by omega) (by decide), (fun z => absurd z nL), (fun _ z => by cases z), fun _ _ p hp => ?_⟩⟩
        have y1 := Ex.new (o := .tup [.ref pu]) hpp
        have y2 := Ex.new (o := .tup (hd.L ++ [.ref pu])) hp
        obtain ⟨j1, j2, j3⟩ := few.node (h := hd) (hok _ (by rw [← few.a.length]; exact len))
        have gg := few.a.ex (y1.trans y2)
        have hpu2 := (y1.trans y2) _ _ hpu
        have uu := u4.trans (u48.trans (uB.trans ((But.of F).trans (uC.trans (But.of (y1.trans y2))))))
        have BBB := BC.ex (y1.trans y2)
        cases hd with
        | op o => cases hno
        | call m => exact ⟨.ref p, _, _, _, _, _, _, _, rfl, uu, BBB.less (by omega), .call upd_same hpu2 gg, j1, by omega, by omega⟩
        | ring j => exact ⟨.ref p, _, _, _, _, _, _, _, rfl, uu, BBB.less (by omega), .ring upd_same hpu2 gg, j1, by omega, by omega⟩
      rw [decide_eq_false c2]
      refine iteF ⟨_, rfl, rfl, _, rfl, ?_⟩
      rw [dec_ii]
      by_cases c3 : mo = 2
      · rw [decide_eq_true c3]
        refine iteT ⟨sz 1, fun pa hpa => ⟨_, rfl, _, rfl, _, rfl, sz 3, fun pb hpb => ⟨_, rfl, _, rfl, _, rfl, sz 3, fun pc hpc => ⟨_, rfl, _, rfl, _, rfl, sz 3, fun pd hpd => ⟨sz 3, fun pq hpq => ?_⟩⟩⟩⟩⟩
        have fa := Ex.new (o := .tup [.str "if"]) hpa
        have fb := Ex.new (o := .tup [v, lv, lv]) hpb
        have fc := Ex.new (o := .tup [lv, v, lv]) hpc
        have fd := Ex.new (o := .tup [lv, lv, v]) hpd
        have fq := Ex.new (o := .lst [.ref pb, .ref pc, .ref pd]) hpq
        have F := fa.trans (fb.trans (fc.trans (fd.trans fq)))
        have BF := B8.ex F
        refine ⟨_, rfl, b, 3, n + 199 - 30 * (i + 1) + 22, rfl, by decide, by decide, BF, fun H9 k u9 B9 k0 k1 => ?_⟩
        have tu9 := BF.tu u9
        have gt9 := (gt.ex F).tu tu9
        have gf9 := (gf.ex F).tu tu9
        have lf : ∀ {us ts S}, Few H9 us ts (3 + i) S → Few H9 (lv :: us) (lt :: ts) (3 + i) (1 + S) := fun k => few_cons gf9 lo (by omega) (Nat.le_of_eq lz) k
        have tf : ∀ {us ts S}, Few H9 us ts (3 + i) S → Few H9 (v :: us) (t :: ts) (3 + i) (21 + 4 * i + S) := fun k => few_cons gt9 o4 d4 z4 k
        obtain ⟨px, us, ts, hat2, hpx, few, len⟩ : ∃ px us ts, atI [V.ref pb, V.ref pc, V.ref pd] k = some (.ref px) ∧ H9 px = some (.tup us) ∧ Few H9 us ts (3 + i) (21 + 4 * i + 2) ∧ us.length = 3 := by
          have w3 : k = 0 ∨ k = 1 ∨ k = 2 := by omega
          rcases w3 with rfl | rfl | rfl
          · exact ⟨pb, _, _, rfl, tu9 _ _ ((fc.trans (fd.trans fq)) _ _ upd_same), (tf (lf (lf (few_nil H9 _)))).less (by omega), rfl⟩
          · exact ⟨pc, _, _, rfl, tu9 _ _ ((fd.trans fq) _ _ upd_same), (lf (tf (lf (few_nil H9 _)))).less (by omega), rfl⟩
          · exact ⟨pd, _, _, rfl, tu9 _ _ (fq _ _ upd_same), (lf (lf (tf (few_nil H9 _)))).less (by omega), rfl⟩
        refine ⟨pq, _, k, _, rfl, rfl, SqL.of (u9 pq _ ((B8.ex (fa.trans (fb.trans (fc.trans fd)))).ne hpq) upd_same), hat2, pa, px, [.str "if"], us, rfl, rfl, SqT.of (tu9 _ _ ((fb.trans (fc.trans (fd.trans fq))) pa _ upd_same)), SqT.of hpx, by rw [len]; exact sz 4, (fun z => by cases z), (fun _ z => by rw [z] at len; cases len), fun _ _ p hp => ?_⟩
        have fp := Ex.new (o := .tup ([.str "if"] ++ us)) hp
        obtain ⟨k1, k2, k3⟩ := few.node (h := .op .cond) (by rw [← few.a.length, len]; rfl)
        exact ⟨.ref p, _, _, _, _, _, _, _, rfl, u4.trans (u48.trans ((But.of F).trans (u9.trans (But.of fp)))), (B9.ex fp).less (by omega), .op (o := .cond) upd_same (few.a.ex fp), k1, by omega, by omega⟩
      rw [decide_eq_false c3]
      refine iteF ⟨sz 4, fun q1 hq1 => ⟨_, rfl, b, 4, n + 199 - 30 * (i + 1) + 22, rfl, by decide, by decide, B8.ex (Ex.new hq1), fun H9 k u9 B9 k0 k1 => ?_⟩⟩
      obtain ⟨o, ho, oa⟩ : ∃ o : Op, atI [V.str "add", V.str "less", V.str "times", V.str "under"] k = some (.str o.str) ∧ o.ar = 2 := by
        have w4 : k = 0 ∨ k = 1 ∨ k = 2 ∨ k = 3 := by omega
        rcases w4 with rfl | rfl | rfl | rfl
        · exact ⟨.add, rfl, rfl⟩
        · exact ⟨.less, rfl, rfl⟩
        · exact ⟨.times, rfl, rfl⟩
        · exact ⟨.under, rfl, rfl⟩
      have u89 : But b H8 H9 := (But.of (Ex.new hq1)).trans u9
      have gt9 := gt.tu (B8.tu u89)
      have gf9 := gf.tu (B8.tu u89)
      refine ⟨q1, _, k, _, rfl, rfl, SqL.of (u9 q1 _ (B8.ne hq1) upd_same), ho, _, rfl, sz 1, fun pa hpa => ⟨_, rfl, _, rfl, sz 2, fun pb hpb => ⟨_, rfl, _, rfl, sz 2, fun pc hpc => ⟨sz 2, fun pq hpq => ?_⟩⟩⟩⟩
      have fa := Ex.new (o := .tup [.str o.str]) hpa
      have fb := Ex.new (o := .tup [v, lv]) hpb
      have fc := Ex.new (o := .tup [lv, v]) hpc
      have fq := Ex.new (o := .lst [.ref pb, .ref pc]) hpq
      have F := fa.trans (fb.trans (fc.trans fq))
      obtain ⟨px, us, ts, hat2, hpx, few, len⟩ : ∃ px us ts, atI [V.ref pb, V.ref pc] (mo - 3) = some (.ref px) ∧ (upd (upd (upd (upd H9 pa (.tup [.str o.str])) pb (.tup [v, lv])) pc (.tup [lv, v])) pq (.lst [.ref pb, .ref pc])) px = some (.tup us) ∧ Few H9 us ts (3 + i) (21 + 4 * i + 1) ∧ us.length = 2 := by
        have w2 : mo = 3 ∨ mo = 4 := by omega
        rcases w2 with rfl | rfl
        · exact ⟨pb, _, _, rfl, (fc.trans fq) _ _ upd_same, few_cons gt9 o4 d4 z4 ((few_cons gf9 lo (by omega) (Nat.le_of_eq lz) (few_nil H9 (3 + i))).less (by omega)), rfl⟩
        · exact ⟨pc, _, _, rfl, fq _ _ upd_same, (few_cons gf9 lo (by omega) (Nat.le_of_eq lz) (few_cons gt9 o4 d4 z4 (few_nil H9 (3 + i)))).less (by omega), rfl⟩
      refine ⟨_, rfl, _, _, rfl, rfl, pq, _, _, _, rfl, rfl, SqL.of upd_same, hat2, pa, px, [.str o.str], us, rfl, rfl, SqT.of ((fb.trans (fc.trans fq)) pa _ upd_same), SqT.of hpx, by rw [len]; exact sz 3, (fun z => by cases z), (fun _ z => by rw [z] at len; cases len), fun _ _ p hp => ?_⟩
      have fp := Ex.new (o := .tup ([.str o.str] ++ us)) hp
      obtain ⟨k1, k2, k3⟩ := few.node (h := .op o) (by rw [← few.a.length, len]; exact oa.symm)
      exact ⟨.ref p, _, _, _, _, _, _, _, rfl, u4.trans (u48.trans (u89.trans (But.of (F.trans fp)))), (B9.ex (F.trans fp)).less (by omega), .op upd_same (few.a.ex (F.trans fp)), k1, by omega, by omega⟩
    · rintro σ H4 ⟨v, t, y3, y4, y5, y6, y7, y8, rfl, u4, B4, g4, o4, d4, z4⟩
      exact kk _ _ ⟨l, v, t, y3, y4, y5, y6, y7, y8, rfl, u4, B4.less (by omega), g4, o4, by omega, by omega⟩
  · rintro D σ H1 ⟨l, v, t, y3, y4, y5, y6, y7, y8, rfl, u1, B1, hv, o1, d1, z1⟩ kk
    exact ⟨_, rfl, kk _ _ (q H1 v t u1 B1 hv o1 d1 z1)⟩
end
end V


set_option Elab.async false
set_option linter.all false
set_option maxRecDepth 100000
set_option maxHeartbeats 400000
namespace V
open PySem PySem.Spec PyProof.Rows L2 Evl TL NumText
section
variable {P : Program} {w : World} {K : PySem.W.Frag} {mg : Str → Option Value} {base : Heap}
theorem ok_lawDeep (T : Txt K w mg) : ∀ n : Nat, Cal P w K mg base (n + 1) "_law_deep" ["term"] (spDeep n)
  | 0 => (T.D__law_deep.never fun vs H Q E h => by
      obtain ⟨v, t, M, _, _, _, h1, _⟩ := h
      have := deep_pos t
      omega).mono (Nat.zero_le _)
  | n + 1 => by
    have G__law_deep := ok_lawDeep T n
    refine T.D__law_deep.cal sc__law_deep (fun vs H Q E h => ?_) (fun f cdv A outer s H vs Q E hr h => ?_)
    · obtain ⟨v, t, M, rfl, _⟩ := h
      rfl
    obtain ⟨v, t, M, rfl, hT, hO, hd, q⟩ := h
    refine ⟨_, (pss_cons (ps_if (pt_cmpR op_in_seq (pe_ix (r := rIxT K) ix_tup (pv 0) pe_int (fun _ _ => rfl)) (pe_tup (pa_cons pe_str (pa_cons pe_str pa_nil))) rfl)
    (pss_one (ps_ret pe_int))
    pss_nil)
  (pss_cons (ps_set (i := 1) sc__law_deep.nd rfl (.inl rfl) (pe_ifExp (pt_cmpR op_in_seq (pe_ix (r := rIxT K) ix_tup (pv 0) pe_int (fun _ _ => rfl)) (pe_tup (pa_cons pe_str (pa_cons pe_str pa_nil))) rfl) (pe_ix (r := rIxT K) ix_tup (pv 0) pe_int (fun _ _ => rfl)) (pe_slice sl_tupA (pv 0) (po_some pe_int) po_none)))
  (pss_one (ps_ret (pe_op op_add pe_int (pe_bi (cr_max rfl) T.z_max (pa_cons (pe_op op_cat (pe_lst (pa_cons pe_int pa_nil)) (pe_lc (own := [("part", 2)]) (g := (gName 2)) (tt := tYes) rfl sc__law_deep.nd (pi_tup (pv 1)) (blkOk_by (N := N__law_deep) (sc := defScope s__law_deep) (by decide +kernel)) (fun _ _ _ _ _ => (pg_name (i := 2) sc__law_deep.nd rfl (.inl rfl))) (fun _ _ _ _ _ => pts_nil) (fun _ _ _ _ _ => (pe_fn G__law_deep hr (by omega) (pa_cons (pv 2) pa_nil))))) pa_nil))))))), ?_⟩
    obtain ⟨a, r, rfl, ha⟩ := hT.head
    let A0 : L2.St → Hp → Prop := fun σ H' => σ = [some (.ref a), none, none] ∧ H' = H
    let A1 : L2.St → Hp → Prop := fun σ H' => σ = [some (.ref a), none, none] ∧ Ex H H' ∧ ∃ h ts, t = .node h ts
    let A2 : L2.St → Hp → Prop := fun σ H' => ∃ p us, σ = [some (.ref a), some (.ref p), none] ∧ Ex H H' ∧ H' p = some (.tup us) ∧ TmsAt H' us t.parts
    refine (Hr.fin (A := A0) (B := A1) ?_ (Hs.fin (B := A2) ?_ (Q := Q) ?_)) _ _ H ⟨rfl, rfl⟩ fun v H' h => h
    · rintro D σ H0 ⟨rfl, rfl⟩ kk kr
      refine ⟨_, rfl, a, _, 0, _, rfl, rfl, SqT.of ha, at0, sz 2, fun p1 hp1 => ⟨p1, _, rfl, .inr (SqT.of upd_same), rfl, rfl, _, rfl, ?_⟩⟩
      rw [if_neg (by decide)]
      by_cases c : ∃ h ts, t = .node h ts
      · obtain ⟨h, ts, rfl⟩ := c
        rw [word_node]
        exact iteF (kk _ _ ⟨rfl, Ex.new hp1, h, ts, rfl⟩)
      · have no : ∀ h ts, t ≠ .node h ts := fun h ts e => c ⟨h, ts, e⟩
        rw [word_leaf no]
        refine iteT (kr _ _ ?_)
        have e : t.deep = 1 := by
          cases t with
          | node h ts => exact absurd rfl (no h ts)
          | _ => rfl
        have q1 := q _ (Ex.new (o := .tup [.str "num", .str "arg"]) hp1)
        rw [e] at q1
        exact q1
    · rintro D σ H1 ⟨rfl, e1, h, ts, rfl⟩ kk
      refine ⟨_, rfl, a, _, 0, _, rfl, rfl, SqT.of (e1 _ _ ha), at0, sz 2, fun p1 hp1 => ⟨p1, _, rfl, .inr (SqT.of upd_same), rfl, rfl, _, rfl, ?_⟩⟩
      rw [if_neg (by decide), word_call]
      have e2 := Ex.new (o := .tup [.str "call", .str "ring"]) hp1
      have e3 := e1.trans e2
      cases hT with
      | @op _ o ws _ hh hs =>
        refine iteF ⟨_, rfl, 1, rfl, a, _, rfl, SqT.of (e3 _ _ hh), fun z => ?_, fun _ p hp => ?_⟩
        · have z1 : HT.sIx (V.str o.str :: ws).length 0 (some ((1 : Nat) : Int)) = 0 := z.1
          rw [HT.sIx_nat, List.length_cons] at z1
          omega
        · rw [cut_tail]
          exact kk _ _ ⟨p, ws, rfl, e3.trans (Ex.new hp), upd_same, hs.ex (e3.trans (Ex.new hp))⟩
      | @call _ b m ws _ hh h2 hs => exact iteT ⟨_, rfl, a, _, 2, _, rfl, rfl, SqT.of (e3 _ _ hh), rfl, kk _ _ ⟨b, ws, rfl, e3, e3 _ _ h2, hs.ex e3⟩⟩
      | @ring _ b m ws _ hh h2 hs => exact iteT ⟨_, rfl, a, _, 2, _, rfl, rfl, SqT.of (e3 _ _ hh), rfl, kk _ _ ⟨b, ws, rfl, e3, e3 _ _ h2, hs.ex e3⟩⟩
    · rintro D σ H1 ⟨p, us, rfl, e1, h1, hus⟩ kk
      have hlen : us.length = t.parts.length := hus.length
      refine ⟨sz 1, fun l0 hl0 => ⟨_, rfl, p, rfl, ⟨us, SqT.of ((Ex.new hl0) p _ h1)⟩, fun Dl hD => ?_⟩⟩
      have e0 := Ex.new (o := .lst [.int 0]) hl0
      refine lc_tup (xs := us) (fun i H3 => Ex (upd H1 l0 (.lst [.int 0])) H3 ∧ H3 Dl = some (.lst (((t.parts.take i).map fun u => (u.deep : Int)).map V.int))) ⟨Ex.new hD, upd_same⟩ (fun i H3 _ k => SqT.of (k.1 p _ (e0 p _ h1))) ?_ ?_
      · rintro i x H3 hi ⟨e3, h3⟩
        obtain ⟨u, hu, hxu⟩ := hus.get hi
        have hum := get_mem hu
        refine ⟨rfl, yes ⟨_, rfl, x, u, M, rfl, hxu.ex (e0.trans e3), hO.parts hum, by have := parts_deep hum; omega, fun H4 e4 => ⟨_, e4 Dl _ h3, ?_, Ex.mut (e3.trans e4) hD, ?_⟩⟩⟩
        · rw [List.length_map, List.length_map, List.length_take]
          exact small1000 (by have := hO.few; omega)
        · rw [upd_same, take_more hu, List.map_append, List.map_append]
          rfl
      · rintro H3 ⟨e3, h3⟩
        rw [hlen, List.take_length] at h3
        refine ⟨l0, Dl, [.int 0], _, rfl, rfl, e3 l0 _ upd_same, h3, ?_, fun p5 np5 => ?_⟩
        · rw [List.length_map, List.length_map]
          exact Nat.le_trans (by have := hO.few; show 1 + t.parts.length ≤ 5; omega) (by decide)
        refine ⟨p5, 0 :: (t.parts.map fun u => (u.deep : Int)), rfl, SqL.of upd_same, Nat.succ_pos _, fun m hm top => ⟨_, _, rfl, rfl, kk _ _ ?_⟩⟩
        have em : m = (Tm.deeps t.parts : Int) := by
          rcases List.mem_cons.mp hm with rfl | hm
          · cases hp : t.parts with
            | nil => rfl
            | cons u us =>
              have h1 := top (u.deep : Int) (by rw [hp]; simp)
              have h2 := deep_pos u
              omega
          · exact deeps_max _ m hm fun y hy => top y (List.mem_cons_of_mem _ hy)
        have hdp := deep_parts t
        rw [em]
        show Q (.int ((1 : Int) + (Tm.deeps t.parts : Int))) _
        rw [show (1 : Int) + (Tm.deeps t.parts : Int) = (t.deep : Int) by omega]
        exact q _ (e1.trans (e0.trans (e3.trans (Ex.new np5))))
end
end V


set_option Elab.async false
set_option linter.all false
set_option maxRecDepth 100000
set_option maxHeartbeats 4000000
namespace V
open PySem PySem.Spec PyProof.Rows L2 Evl

end V


set_option Elab.async false
set_option linter.all false
set_option maxRecDepth 100000
set_option maxHeartbeats 4000000
namespace V
open PySem PySem.Spec PyProof.Rows L2 Evl
section
variable {P : Program} {w : World} {K : PySem.W.Frag} {mg : Str → Option Value} {base : Heap}
theorem ok_parts (D : Def K mg "parts_of" s_parts_of ["term"]) (O : Ops K w mg) (gC : ∃ a, mg "CALLS" = some (.ref a) ∧ ∀ H, SqT K H a [.str "call", .str "ring", .str "name"]) : Cal P w K mg base 1 "parts_of" ["term"] spParts := by
  obtain ⟨d, es, n, gO, KD, hin, hval⟩ := O.ex
  obtain ⟨dc, gC, hC⟩ := gC
  refine D.cal sc_parts_of (fun vs H Q E h => ?_) (fun f cdv A outer s H vs Q E hr h => ?_)
  · obtain ⟨v, t, rfl, _⟩ := h
    rfl
  obtain ⟨v, t, rfl, hT, hl, q⟩ := h
  refine ⟨_, pss_cons (ps_if (pt_cmpR (op_in_kd KD) (pe_ix ix_tup (pv 0) pe_int (fun _ _ => rfl)) (pe_glob (v := .ref d) rfl gO rfl) rfl) (pss_one (ps_ret (pe_slice sl_tupA (pv 0) (po_some pe_int) po_none))) pss_nil)
    (pss_cons (ps_if (pt_cmpR op_in_seq (pe_ix ix_tup (pv 0) pe_int (fun _ _ => rfl)) (pe_glob (v := .ref dc) rfl gC rfl) rfl) (pss_one (ps_ret (pe_ix ix_tup (pv 0) pe_int (fun _ _ => rfl)))) pss_nil)
    (pss_one (ps_ret (pe_tup pa_nil)))), ?_⟩
  obtain ⟨a, r, rfl, ha⟩ := hT.head
  obtain ⟨x, hx, hx2⟩ := hin t.word
  refine ⟨_, rfl, a, _, 0, _, rfl, rfl, SqT.of ha, at0, t.word, x, rfl, rfl, hx, _, rfl, ?_⟩
  rw [hx2]
  cases hT with
  | @op _ o ws ts h hs =>
    rw [show decide ((Tm.node (.op o) ts).word ∈ opWords) = true from op_in o]
    refine iteT ⟨_, rfl, 1, rfl, a, _, rfl, SqT.of h, fun z => ?_, fun _ p hp => ?_⟩
    · have z1 : HT.sIx (V.str o.str :: ws).length 0 (some ((1 : Nat) : Int)) = 0 := z.1
      rw [HT.sIx_nat, List.length_cons] at z1
      omega
    · have e1 : cutV (V.str o.str :: ws) (some 1) none = ws := by
        show cutV (V.str o.str :: ws) (some ((1 : Nat) : Int)) none = ws
        unfold cutV
        rw [HT.sIx_nat, HT.sIx_none, List.length_cons, Nat.min_eq_left (by omega)]
        show (List.take (ws.length + 1 - 1) ws) = ws
        exact List.take_length
      rw [e1]
      exact q _ p ws (Ex.new hp) upd_same (hs.ex (Ex.new hp))
  | num h =>
    refine iteF ⟨_, rfl, a, _, 0, _, rfl, rfl, SqT.of h, rfl, dc, _, rfl, .inr (hC _), rfl, rfl, _, rfl, iteF ⟨sz 0, fun p2 hp2 => ?_⟩⟩
    exact q _ p2 [] (Ex.new hp2) upd_same .nil
  | arg h =>
    refine iteF ⟨_, rfl, a, _, 0, _, rfl, rfl, SqT.of h, rfl, dc, _, rfl, .inr (hC _), rfl, rfl, _, rfl, iteF ⟨sz 0, fun p2 hp2 => ?_⟩⟩
    exact q _ p2 [] (Ex.new hp2) upd_same .nil
  | @call _ b m ws ts h h2 hs =>
    refine iteF ⟨_, rfl, a, _, 0, _, rfl, rfl, SqT.of h, rfl, dc, _, rfl, .inr (hC _), rfl, rfl, _, rfl, iteT ⟨_, rfl, a, _, 2, _, rfl, rfl, SqT.of h, rfl, ?_⟩⟩
    exact q _ b ws (Ex.refl H) h2 hs
  | @ring _ b m ws ts h h2 hs =>
    refine iteF ⟨_, rfl, a, _, 0, _, rfl, rfl, SqT.of h, rfl, dc, _, rfl, .inr (hC _), rfl, rfl, _, rfl, iteT ⟨_, rfl, a, _, 2, _, rfl, rfl, SqT.of h, rfl, ?_⟩⟩
    exact q _ b ws (Ex.refl H) h2 hs
end
end V


set_option Elab.async false
set_option linter.all false
set_option maxRecDepth 100000
set_option maxHeartbeats 4000000
namespace V
open PySem PySem.Spec PyProof.Rows L2 Evl

end V


set_option Elab.async false
set_option linter.all false
set_option maxRecDepth 100000
set_option maxHeartbeats 4000000
namespace V
open PySem PySem.Spec PyProof.Rows L2 Evl
section
variable {P : Program} {w : World} {K : PySem.W.Frag} {mg : Str → Option Value} {base : Heap}
theorem ok_all (D : Def K mg "terms_of" s_terms_of ["term"]) (GP : Cal P w K mg base 1 "parts_of" ["term"] spParts) : ∀ n : Nat, Cal P w K mg base (n + 1) "terms_of" ["term"] (spAll n)
  | 0 => (D.never fun vs H Q E h => by
      obtain ⟨v, t, M, _, _, _, h1, _⟩ := h
      have := deep_pos t
      omega).mono (Nat.zero_le _)
  | n + 1 => by
    have G := ok_all D GP n
    refine D.cal sc_terms_of (fun vs H Q E h => ?_) (fun f cdv A outer s H vs Q E hr h => ?_)
    · obtain ⟨v, t, M, rfl, _⟩ := h
      rfl
    obtain ⟨v, t, M, rfl, hT, hO, hd, hz, q⟩ := h
    refine ⟨_, pss_cons (ps_set (i := 1) sc_terms_of.nd rfl (.inl rfl) (pe_lst (pa_cons (pv 0) pa_nil)))
      (pss_cons (ps_for PassesOwn.never rfl (pi_tup (pe_fn GP hr (by omega) (pa_cons (pv 0) pa_nil))) (pg_name (i := 2) sc_terms_of.nd rfl (.inl rfl))
        (pss_one (ps_expr (pe_bm PySem.F.plainAttrs_list PySem.F.slot_list_extend PySem.F.type_list_extend mt_extend (pv 1) (pa_cons (pe_fn G hr (by omega) (pa_cons (pv 2) pa_nil)) pa_nil)))))
      (pss_one (ps_ret (pv 1)))), ?_⟩
    refine ⟨_, rfl, sz 1, fun l nl => ?_⟩
    have e1 : Ex H (upd H l (.lst [v])) := Ex.new nl
    refine ⟨_, rfl, v, t, rfl, hT.ex e1, hO.few, fun H2 p us e2 h2 hus => ?_⟩
    have hlen : us.length = t.parts.length := hus.length
    refine ⟨p, rfl, ⟨us, SqT.of h2⟩, for_tup (xs := us) (fun i σ H3 => ∃ (y : Option V) (ws : List V), σ = [some v, some (.ref l), y] ∧ Ex H H3 ∧ Tu H2 H3 ∧ H3 l = some (.lst ws) ∧ TmsAt H3 ws (t :: Tm.alls (t.parts.take i)))
      ⟨none, [v], rfl, e1.trans e2, Tu.refl _, e2 l _ upd_same, .cons (hT.ex (e1.trans e2)) .nil⟩ (fun i σ H3 _ ⟨_, _, _, _, t3, _⟩ => SqT.of (t3 p _ h2)) ?_ ?_⟩
    · rintro i x σ H3 hi ⟨y, ws, rfl, e3, t3, hl, hws⟩
      obtain ⟨u, hu, hxu⟩ := hus.get hi
      have hum := get_mem hu
      have usz : u.size ≤ Tm.sizes t.parts := size_mem hum
      have tsz := size_parts t
      refine ⟨_, rfl, .inl ⟨rfl, ws, SqL.of hl⟩, _, rfl, x, u, M, rfl, hxu.tu t3, hO.parts hum, by have := parts_deep hum; omega, by omega, fun H4 p4 us4 n4 e4 h4 hus4 => ?_⟩
      have lw : ws.length ≤ 1000 := by
        rw [hws.length, List.length_cons, alls_len]
        have := sizes_take t.parts i
        omega
      have lu : us4.length ≤ 1000 := by
        rw [hus4.length, all_len]
        omega
      have hl4 := e4 l _ hl
      refine ⟨l, p4, ws, us4, rfl, rfl, hl4, h4, Nat.le_trans (Nat.add_le_add lw lu) (by decide), ?_⟩
      have tu4 : Tu H4 (upd H4 l (.lst (ws ++ us4))) := But.tu (But.upd (But.refl l H4)) hl4
      refine ⟨some x, ws ++ us4, rfl, Ex.mut (e3.trans e4) nl, t3.trans ((Tu.of e4).trans tu4), upd_same, ?_⟩
      rw [take_more hu, alls_append]
      have : Tm.alls [u] = u.all := List.append_nil _
      rw [this]
      exact ((hws.ex e4).tu tu4).append (hus4.tu tu4)
    · rintro σ H3 ⟨y, ws, rfl, e3, t3, hl, hws⟩
      rw [hlen, List.take_length, ← all_parts] at hws
      exact ⟨_, rfl, q H3 l ws nl e3 hl hws⟩
/-- its size -/
theorem ok_size {n : Nat} (D : Def K mg "size_of" s_size_of ["term"]) (G : Cal P w K mg base (n + 1) "terms_of" ["term"] (spAll n)) (zl : mg "len" = none) : Cal P w K mg base (n + 2) "size_of" ["term"] (spSize n) := by
  refine D.cal sc_size_of (fun vs H Q E h => ?_) (fun f cdv A outer s H vs Q E hr h => ?_)
  · obtain ⟨v, t, M, rfl, _⟩ := h
    rfl
  obtain ⟨v, t, M, rfl, hT, hO, hd, hz, q⟩ := h
  refine ⟨_, pss_one (ps_ret (pe_bi call_len_seq zl (pa_cons (pe_fn G hr (by omega) (pa_cons (pv 0) pa_nil)) pa_nil))), ?_⟩
  refine ⟨_, rfl, v, t, M, rfl, hT, hO, hd, hz, fun H1 p us np e1 h1 hus => ⟨p, us, rfl, .inl (SqL.of h1), ?_⟩⟩
  rw [hus.length, all_len]
  exact q H1 e1
/-- how deep it is -/
theorem ok_deep (D : Def K mg "deep_of" s_deep_of ["term"]) (GP : Cal P w K mg base 1 "parts_of" ["term"] spParts) (zm : mg "max" = none) : ∀ n : Nat, Cal P w K mg base (n + 1) "deep_of" ["term"] (spDeep n)
  | 0 => (D.never fun vs H Q E h => by
      obtain ⟨v, t, M, _, _, _, h1, _⟩ := h
      have := deep_pos t
      omega).mono (Nat.zero_le _)
  | n + 1 => by
    have G := ok_deep D GP zm n
    refine D.cal sc_deep_of (fun vs H Q E h => ?_) (fun f cdv A outer s H vs Q E hr h => ?_)
    · obtain ⟨v, t, M, rfl, _⟩ := h
      rfl
    obtain ⟨v, t, M, rfl, hT, hO, hd, q⟩ := h
    refine ⟨_, pss_one (ps_ret (pe_op op_add pe_int (pe_maxDf rfl hr.units zm (pa_cons (pe_lc (own := [("part", 1)]) (g := gName 1) (tt := tYes) rfl sc_deep_of.nd (pi_tup (pe_fn GP hr (by omega) (pa_cons (pv 0) pa_nil)))
      (blkOk_by (N := N_deep_of) (sc := defScope s_deep_of) (by decide +kernel)) (fun _ _ _ _ _ => pg_name (i := 1) sc_deep_of.nd rfl (.inl rfl)) (fun _ _ _ _ _ => pts_nil) (fun _ _ _ _ _ => pe_fn G hr (by omega) (pa_cons (pv 1) pa_nil))) pa_nil) (pk_cons pe_int pk_nil)))), ?_⟩
    refine ⟨_, rfl, v, t, rfl, hT, hO.few, fun H1 p us e1 h1 hus => ?_⟩
    have hlen : us.length = t.parts.length := hus.length
    refine ⟨p, rfl, ⟨us, SqT.of h1⟩, fun Dl hD => ?_⟩
    refine lc_tup (xs := us) (fun i H3 => Ex H1 H3 ∧ H3 Dl = some (.lst (((t.parts.take i).map fun u => (u.deep : Int)).map V.int))) ⟨Ex.new hD, upd_same⟩ (fun i H3 _ k => SqT.of (k.1 p _ h1)) ?_ ?_
    · rintro i x H3 hi ⟨e3, h3⟩
      obtain ⟨u, hu, hxu⟩ := hus.get hi
      have hum := get_mem hu
      refine ⟨rfl, yes ⟨_, rfl, x, u, M, rfl, hxu.ex e3, hO.parts hum, by have := parts_deep hum; omega, fun H4 e4 => ⟨_, e4 Dl _ h3, ?_, Ex.mut (e3.trans e4) hD, ?_⟩⟩⟩
      · rw [List.length_map, List.length_map, List.length_take]
        exact small1000 (by have := hO.few; omega)
      · rw [upd_same, take_more hu, List.map_append, List.map_append]
        rfl
    · rintro H3 ⟨e3, h3⟩
      rw [hlen, List.take_length] at h3
      have hdp := deep_parts t
      have fin : ∀ m : Int, m = (Tm.deeps t.parts : Int) → ∃ i j, V.int 1 = V.int i ∧ V.int m = V.int j ∧ Q (.int (i + j)) H3 := fun m em => ⟨1, m, rfl, rfl, by
        rw [em, show (1 : Int) + (Tm.deeps t.parts : Int) = (t.deep : Int) by omega]
        exact q H3 (e1.trans e3)⟩
      refine ⟨Dl, _, 0, rfl, rfl, SqL.of h3, fun en => ?_, fun m hm top => fin m (deeps_max _ m hm top)⟩
      refine fin 0 ?_
      have : t.parts = [] := List.map_eq_nil_iff.mp en
      rw [this]
      rfl
end
end V


set_option Elab.async false
set_option linter.all false
set_option maxRecDepth 100000
set_option maxHeartbeats 4000000
namespace V
open PySem PySem.Spec PyProof.Rows L2 Evl
open VS in
section
variable {P : Program} {w : World} {K : PySem.W.Frag} {mg : Str → Option Value} {base : Heap}
theorem scal_str {a b : Str} : scal (.str a) (.str b) = true := rfl
end
end V


set_option Elab.async false
set_option linter.all false
set_option maxRecDepth 100000
set_option maxHeartbeats 4000000
namespace V
open PySem PySem.Spec PyProof.Rows L2 Evl
open VS in
section
variable {P : Program} {w : World} {K : PySem.W.Frag} {mg : Str → Option Value} {base : Heap}
theorem ok_places {n : Nat} (D : Def K mg "places_of" s_places_of ["term"]) (G : Cal P w K mg base (n + 1) "terms_of" ["term"] (spAll n)) : Cal P w K mg base (n + 2) "places_of" ["term"] (spPlaces n) := by
  refine D.cal sc_places_of (fun vs H Q E h => ?_) (fun f cdv A outer s H vs Q E hr h => ?_)
  · obtain ⟨v, t, M, rfl, _⟩ := h
    rfl
  obtain ⟨v, t, M, rfl, hT, hO, hd, hz, q⟩ := h
  refine ⟨_, pss_one (ps_ret (pe_lc (own := [("inner", 1)]) (g := gName 1) rfl sc_places_of.nd (pi_list (pe_fn G hr (by omega) (pa_cons (pv 0) pa_nil)))
    (blkOk_by (N := N_places_of) (sc := defScope s_places_of) (by decide +kernel)) (fun _ _ _ _ _ => pg_name (i := 1) sc_places_of.nd rfl (.inl rfl))
    (fun _ _ _ _ _ => pts_one (pt_cmpR op_eq (pe_ix (r := rIxT K) ix_tup (pv 1) pe_int (fun _ _ => rfl)) pe_str (nomark _))) (fun _ _ _ _ _ => pe_ix (r := rIxT K) ix_tup (pv 1) pe_int (fun _ _ => rfl)))), ?_⟩
  refine ⟨_, rfl, v, t, M, rfl, hT, hO, hd, hz, fun H1 p us np e1 h1 hus => ⟨p, rfl, ⟨us, SqL.of h1⟩, fun Dl hD => ?_⟩⟩
  have hlen : us.length = t.all.length := hus.length
  refine lc_list (xs := us) (fun i H3 => Ex H1 H3 ∧ H3 Dl = some (.lst (((t.all.take i).flatMap Tm.pl1).map fun k : Nat => V.int (k : Int)))) ⟨Ex.new hD, upd_same⟩ (fun i H3 _ k => SqL.of (k.1 p _ h1)) ?_ ?_
  · rintro i x H3 hi ⟨e3, h3⟩
    obtain ⟨u, hu, hxu⟩ := hus.get hi
    have hx3 := hxu.ex e3
    have bnd : ((t.all.take i).flatMap Tm.pl1).length ≤ i := by
      have : ∀ l : List Tm, (l.flatMap Tm.pl1).length ≤ l.length := by
        intro l
        induction l with
        | nil => exact Nat.zero_le _
        | cons c l ih =>
          rw [List.flatMap_cons, List.length_append, List.length_cons]
          have h1 : c.pl1.length ≤ 1 := by
            unfold Tm.pl1
            split <;> simp
          omega
      have h1 := this (t.all.take i)
      rw [List.length_take] at h1
      omega
    have hi2 := (List.getElem?_eq_some_iff.mp hu).1
    have lt : (((t.all.take i).flatMap Tm.pl1).map fun k : Nat => V.int (k : Int)).length < sizeLine := by
      rw [List.length_map]
      rw [all_len] at hi2
      exact small1000 (by omega)
    refine ⟨rfl, ?_⟩
    have no : ∀ {a : Addr} {r : List V} {wd : Str}, x = .ref a → H3 a = some (.tup (.str wd :: r)) → wd ≠ "ring" → u.pl1 = [] →
        (tTest (tOp rEq (tOp (rIxT K) (tVar 1) (tC (.int 0))) (tC (.str "ring")))) [some v, some x] H3 fun b H3' => if b = true then (tOp (rIxT K) (tVar 1) (tC (.int 1))) [some v, some x] H3' fun y H4 => ∃ acc, H4 Dl = some (.lst acc) ∧ acc.length < sizeLine ∧
          (Ex H1 (upd H4 Dl (.lst (acc ++ [y]))) ∧ upd H4 Dl (.lst (acc ++ [y])) Dl = some (.lst (((t.all.take (i + 1)).flatMap Tm.pl1).map fun k : Nat => V.int (k : Int))))
          else (Ex H1 H3' ∧ H3' Dl = some (.lst (((t.all.take (i + 1)).flatMap Tm.pl1).map fun k : Nat => V.int (k : Int)))) := by
      rintro a r wd rfl ha ne e0
      refine ⟨_, rfl, a, _, 0, _, rfl, rfl, SqT.of ha, at0, rfl, _, rfl, ?_⟩
      rw [decide_eq_false (fun z => ne (V.str.inj z))]
      refine iteF ⟨e3, ?_⟩
      rw [take_flat hu, e0, List.append_nil]
      exact h3
    cases hx3 with
    | num h => exact no rfl h (by decide +kernel) rfl
    | arg h => exact no rfl h (by decide +kernel) rfl
    | @op _ o _ _ h _ => exact no rfl h (by cases o <;> decide +kernel) rfl
    | call h _ _ => exact no rfl h (by decide +kernel) rfl
    | @ring a b k ws ts h h2 hs =>
      refine ⟨_, rfl, a, _, 0, _, rfl, rfl, SqT.of h, rfl, rfl, _, rfl, ?_⟩
      rw [decide_eq_true rfl]
      refine iteT ⟨_, rfl, a, _, 1, _, rfl, rfl, SqT.of h, rfl, _, h3, lt, Ex.mut e3 hD, ?_⟩
      rw [upd_same, take_flat hu, List.map_append]
      rfl
  · rintro H3 ⟨e3, h3⟩
    rw [hlen, List.take_length] at h3
    exact q H3 Dl (fresh_back e1 hD) (e1.trans e3) h3
theorem ok_calls {n : Nat} (D : Def K mg "calls_of" s_calls_of ["term"]) (G : Cal P w K mg base (n + 1) "terms_of" ["term"] (spAll n)) (zs : mg "sorted" = none) : Cal P w K mg base (n + 2) "calls_of" ["term"] (spCalls n) := by
  refine D.cal sc_calls_of (fun vs H Q E h => ?_) (fun f cdv A outer s H vs Q E hr h => ?_)
  · obtain ⟨v, t, M, rfl, _⟩ := h
    rfl
  obtain ⟨v, t, M, rfl, hT, hO, hd, hz, q⟩ := h
  refine ⟨_, pss_one (ps_ret (pe_bi (cr_sortS rfl) zs (pa_cons (pe_scS (own := [("inner", 1)]) (g := gName 1) rfl sc_calls_of.nd (pi_list (pe_fn G hr (by omega) (pa_cons (pv 0) pa_nil)))
    (blkOk_by (N := N_calls_of) (sc := defScope s_calls_of) (by decide +kernel)) (fun _ _ _ _ _ => pg_name (i := 1) sc_calls_of.nd rfl (.inl rfl))
    (fun _ _ _ _ _ => pts_one (pt_cmpR op_eq (pe_ix (r := rIxT K) ix_tup (pv 1) pe_int (fun _ _ => rfl)) pe_str (nomark _))) (fun _ _ _ _ _ => pe_ix (r := rIxT K) ix_tup (pv 1) pe_int (fun _ _ => rfl))) pa_nil))), ?_⟩
  refine ⟨_, rfl, v, t, M, rfl, hT, hO, hd, hz, fun H1 p us np e1 h1 hus => ⟨p, rfl, ⟨us, SqL.of h1⟩, fun Dl hD => ?_⟩⟩
  have hlen : us.length = t.all.length := hus.length
  refine scS_list (xs := us) (fun i H3 => Ex H1 H3 ∧ ∃ (S : Str → Bool) (m : Nat), H3 Dl = some (SetSO w Dl S m) ∧ m ≤ i ∧ ∀ x, S x = true ↔ x ∈ (t.all.take i).flatMap Tm.mk1) ⟨Ex.new hD, _, 0, upd_same, Nat.le_refl _, fun x => by simp⟩
    (fun i H3 _ k => SqL.of (k.1 p _ h1)) ?_ ?_
  · rintro i x H3 hi ⟨e3, S, m, h3, hm, hS⟩
    obtain ⟨u, hu, hxu⟩ := hus.get hi
    have hx3 := hxu.ex e3
    have hi2 := (List.getElem?_eq_some_iff.mp hu).1
    rw [all_len] at hi2
    refine ⟨rfl, ?_⟩
    have no : ∀ {a : Addr} {r : List V} {wd : Str}, x = .ref a → H3 a = some (.tup (.str wd :: r)) → wd ≠ "call" → u.mk1 = [] →
        (tTest (tOp rEq (tOp (rIxT K) (tVar 1) (tC (.int 0))) (tC (.str "call")))) [some v, some x] H3 fun b H3' => if b = true then (tOp (rIxT K) (tVar 1) (tC (.int 1))) [some v, some x] H3' fun y H4 => ∃ (c : Str) (S : Str → Bool) (n : Nat), y = .str c ∧
          H4 Dl = some (SetSO w Dl S n) ∧ n + 1 < scanBound ∧ (Ex H1 (upd H4 Dl (SetSO w Dl (fun z => S z || decide (z = c)) (if S c = true then n else n + 1))) ∧ ∃ (S' : Str → Bool) (m : Nat),
            upd H4 Dl (SetSO w Dl (fun z => S z || decide (z = c)) (if S c = true then n else n + 1)) Dl = some (SetSO w Dl S' m) ∧ m ≤ i + 1 ∧ ∀ x, S' x = true ↔ x ∈ (t.all.take (i + 1)).flatMap Tm.mk1)
          else (Ex H1 H3' ∧ ∃ (S : Str → Bool) (m : Nat), H3' Dl = some (SetSO w Dl S m) ∧ m ≤ i + 1 ∧ ∀ x, S x = true ↔ x ∈ (t.all.take (i + 1)).flatMap Tm.mk1) := by
      rintro a r wd rfl ha ne e0
      refine ⟨_, rfl, a, _, 0, _, rfl, rfl, SqT.of ha, at0, rfl, _, rfl, ?_⟩
      rw [decide_eq_false (fun z => ne (V.str.inj z))]
      refine iteF ⟨e3, S, m, h3, by omega, fun y => ?_⟩
      rw [take_flat hu, e0, List.append_nil]
      exact hS y
    cases hx3 with
    | num h => exact no rfl h (by decide +kernel) rfl
    | arg h => exact no rfl h (by decide +kernel) rfl
    | @op _ o _ _ h _ => exact no rfl h (by cases o <;> decide +kernel) rfl
    | ring h _ _ => exact no rfl h (by decide +kernel) rfl
    | @call a b c ws ts h h2 hs =>
      refine ⟨_, rfl, a, _, 0, _, rfl, rfl, SqT.of h, rfl, rfl, _, rfl, ?_⟩
      rw [decide_eq_true rfl]
      refine iteT ⟨_, rfl, a, _, 1, _, rfl, rfl, SqT.of h, rfl, c, S, m, rfl, h3, by unfold scanBound; omega, Ex.mut e3 hD, _, _, upd_same, ?_, fun y => ?_⟩
      · split <;> omega
      · rw [take_flat hu, List.mem_append, ← hS y, Bool.or_eq_true, decide_eq_true_eq]
        show _ ↔ _ ∨ y ∈ [c]
        rw [List.mem_singleton]
  · rintro H3 ⟨e3, S, m, h3, hm, hS⟩
    rw [hlen, List.take_length] at hS
    refine ⟨Dl, S, m, rfl, h3, fun xs p2 s1 s2 s3 n2 => ?_⟩
    exact q _ p2 xs (fresh_back (e1.trans e3) n2) ((e1.trans e3).trans (Ex.new n2)) upd_same (sorted_rise s1 s2) fun x => (s3 x).trans (hS x)
end
end V


set_option Elab.async false
set_option linter.all false
set_option maxRecDepth 100000
set_option maxHeartbeats 4000000
namespace V
open PySem PySem.Spec PyProof.Rows L2 Evl TL NumText
section
variable {P : Program} {w : World} {K : PySem.W.Frag} {mg : Str → Option Value} {base : Heap}
theorem ok_same (T : Txt K w mg) : ∀ n : Nat, Cal P w K mg base n "_law_same" ["found", "due"] (spSame K n)
  | 0 => T.D__law_same.never fun vs H Q E h => by
      obtain ⟨v, w, d, _, _, _, h, _⟩ := h
      cases h
  | n + 1 => by
    have G__law_same := ok_same T n
    refine T.D__law_same.cal sc__law_same (fun vs H Q E h => ?_) (fun f cdv A outer s H vs Q E hr h => ?_)
    · obtain ⟨v, w, d, rfl, _⟩ := h
      rfl
    obtain ⟨v, w, d, rfl, h1, h2, hD, q⟩ := h
    refine ⟨_, (pss_cons (ps_if (pt_val (pe_bi call_isiT T.z_isinstance (pa_cons (pv 1) (pa_cons (pe_tup (pa_cons (pe_ty T.z_list) (pa_cons (pe_ty T.z_tuple) pa_nil))) pa_nil))))
    (pss_cons (ps_if (PW.pt (pw_or (pt_cmpR op_ne (pe_bi call_isi T.z_isinstance (pa_cons (pv 0) (pa_cons (pe_ty T.z_list) pa_nil))) (pe_bi call_isi T.z_isinstance (pa_cons (pv 1) (pa_cons (pe_ty T.z_list) pa_nil))) (nomark _)) (pw_or1 (pt_cmpR op_ne (pe_bi call_isi T.z_isinstance (pa_cons (pv 0) (pa_cons (pe_ty T.z_tuple) pa_nil))) (pe_bi call_isi T.z_isinstance (pa_cons (pv 1) (pa_cons (pe_ty T.z_tuple) pa_nil))) (nomark _)))))
      (pss_one (ps_ret pe_bl))
      pss_nil)
    (pss_one (ps_ret (pe_and (pe_cmpR op_eq (pe_bi call_len_seq T.z_len (pa_cons (pv 0) pa_nil)) (pe_bi call_len_seq T.z_len (pa_cons (pv 1) pa_nil)) (nomark _)) (pe_one (pe_bi (cr_all rfl) T.z_all (pa_cons (pe_lc (own := [("one", 2), ("other", 3)]) (g := (gTup K 2 (gCons (gName 2) (gCons (gName 3) gNil)))) (tt := tYes) rfl sc__law_same.nd (RZ.pi_zipA (by rfl) T.z_zip (pa_cons (pv 0) (pa_cons (pv 1) pa_nil))) (blkOk_by (N := N__law_same) (sc := defScope s__law_same) (by decide +kernel)) (fun _ _ _ _ _ => (pg_tup rfl (pgs_cons (pg_name (i := 2) sc__law_same.nd rfl (.inl rfl)) (pgs_cons (pg_name (i := 3) sc__law_same.nd rfl (.inl rfl)) pgs_nil)))) (fun _ _ _ _ _ => pts_nil) (fun _ _ _ _ _ => (pe_fn G__law_same hr (by omega) (pa_cons (pv 2) (pa_cons (pv 3) pa_nil))))) pa_nil)))))))
    pss_nil)
  (pss_cons (ps_if (PW.pt (pw_or (pt_cmpR op_isN (pv 1) pe_non (nomark _)) (pw_or1 (pt_val (pe_bi call_isi T.z_isinstance (pa_cons (pv 1) (pa_cons (pe_ty T.z_str) pa_nil)))))))
    (pss_one (ps_ret (pe_and (pe_cmpR op_eq (pv 0) (pv 1) (nomark _)) (pe_one (pe_cmpR op_eq (pe_bi call_isi T.z_isinstance (pa_cons (pv 0) (pa_cons (pe_ty T.z_str) pa_nil))) (pe_bi call_isi T.z_isinstance (pa_cons (pv 1) (pa_cons (pe_ty T.z_str) pa_nil))) (nomark _))))))
    pss_nil)
  (pss_one (ps_ret (pe_and (pe_bi call_isi T.z_isinstance (pa_cons (pv 0) (pa_cons (pe_ty T.z_int) pa_nil))) (pe_and (pe_cmpR op_eq (pe_bi call_isi T.z_isinstance (pa_cons (pv 0) (pa_cons (pe_ty T.z_bool) pa_nil))) (pe_bi call_isi T.z_isinstance (pa_cons (pv 1) (pa_cons (pe_ty T.z_bool) pa_nil))) (nomark _)) (pe_one (pe_cmpR op_eq (pv 0) (pv 1) (nomark _))))))))), ?_⟩
    refine ⟨_, rfl, sz 2, fun tp hp => ?_⟩
    have ep := Ex.new (o := .tup [.ty "list", .ty "tuple"]) hp
    refine ⟨_, tp, _, _, _, _, rfl, upd_same, .cons (.ty _) (.cons (.ty _) .nil), dp_ty (dp_ex ep h2), kit_two K d, _, rfl, ?_⟩
    have g1 := dp_ex ep h1
    have g2 := dp_ex ep h2
    generalize upd H tp (.tup [.ty "list", .ty "tuple"]) = H1 at ep g1 g2
    have qd : ∀ (x : V) (H' : Hp), Ex H H' → Q (.bl (decide (x = x))) H' := fun x H' e => by
      rw [decide_eq_true rfl]
      exact q H' e
    have nd : ∀ x : V, (!decide (x = x)) = false := fun x => by rw [decide_eq_true rfl]; rfl
    cases hD with
    | int i =>
      cases g1
      cases g2
      refine iteF ⟨_, rfl, rfl, _, rfl, iteF ?_⟩
      refine ⟨_, rfl, _, _, _, _, _, rfl, .ty _, dp_ty (Dp.int i), kit_ty (kit_str (.int i)), _, rfl, iteF ?_⟩
      refine ⟨_, rfl, _, _, _, _, _, rfl, .ty _, dp_ty (Dp.int i), kit_ty (kit_int (.int i)), _, rfl, iteT ?_⟩
      refine ⟨_, rfl, _, _, _, _, _, rfl, .ty _, dp_ty (Dp.int i), kit_ty (kit_bool (.int i)), _, rfl, _, _, _, _, _, rfl, .ty _, dp_ty (Dp.int i), kit_ty (kit_bool (.int i)), rfl, _, rfl, ?_⟩
      rw [decide_eq_true rfl]
      exact iteT ⟨_, rfl, _, rfl, rfl, qd _ _ ep⟩
    | str x =>
      cases g1
      cases g2
      refine iteF ⟨_, rfl, rfl, _, rfl, iteF ?_⟩
      refine ⟨_, rfl, _, _, _, _, _, rfl, .ty _, dp_ty (Dp.str x), kit_ty (kit_str (.str x)), _, rfl, iteT ⟨_, rfl, _, rfl, rfl, _, rfl, ?_⟩⟩
      rw [decide_eq_true rfl]
      exact iteT ⟨_, rfl, _, _, _, _, _, rfl, .ty _, dp_ty (Dp.str x), kit_ty (kit_str (.str x)), _, rfl, _, _, _, _, _, rfl, .ty _, dp_ty (Dp.str x), kit_ty (kit_str (.str x)), rfl, qd _ _ ep⟩
    | @lst _ ds hl hks =>
      cases g1 with
      | @lst a1 xs _ k1 m1 =>
      cases g2 with
      | @lst a2 ys _ k2 m2 =>
      refine iteT ⟨_, rfl, _, _, _, _, _, rfl, .ty _, dp_ty (Dp.lst (K := K) k1 m1), kit_ty (kit_lst _), _, rfl, _, _, _, _, _, rfl, .ty _, dp_ty (Dp.lst (K := K) k2 m2), kit_ty (kit_lst _), rfl, _, rfl, ?_⟩
      rw [nd]
      refine iteF ⟨_, rfl, _, _, _, _, _, rfl, .ty _, dp_ty (Dp.lst (K := K) k1 m1), kit_ty (kit_tup _), _, rfl, _, _, _, _, _, rfl, .ty _, dp_ty (Dp.lst (K := K) k2 m2), kit_ty (kit_tup _), rfl, _, rfl, ?_⟩
      rw [nd]
      have l1 := dps_len m1
      have l2 := dps_len m2
      refine iteF ⟨_, rfl, a1, xs, rfl, .inl k1, _, rfl, a2, ys, rfl, .inl k2, rfl, _, rfl, ?_⟩
      rw [show decide (V.int (xs.length : Int) = V.int (ys.length : Int)) = true from decide_eq_true (by rw [l1, l2])]
      refine iteT ⟨_, rfl, _, rfl, a1, a2, xs, ys, rfl, .inl ⟨k1, k2, fun Dl hN => ?_⟩⟩
      refine lc_it (walk_zip (n := xs.length) (by omega)) (fun i H3 => Ex H1 H3 ∧ H3 Dl = some (.lst (((ds.take i).map fun _ => true).map V.bl))) ⟨Ex.new hN, upd_same⟩ (fun i H3 _ p => ⟨ex_l p.1 k1, ex_l p.1 k2⟩) ?_ ?_
      · rintro i x H3 H4 hi ⟨e3, h3⟩ ⟨t, x1, x2, rfl, hT, rfl, hx1, hx2⟩
        obtain ⟨d1, u1, u2⟩ := dps_get m1 hx1
        obtain ⟨d2, u3, u4⟩ := dps_get m2 hx2
        rw [u1] at u3
        cases u3
        have f4 : Ex H1 (upd H3 t (.tup [x1, x2])) := e3.trans (Ex.new hT)
        have h4 : (upd H3 t (.tup [x1, x2])) Dl = some (.lst (((ds.take i).map fun _ => true).map V.bl)) := (Ex.new hT) Dl _ h3
        refine ⟨t, _, rfl, SqT.of upd_same, rfl, x1, _, rfl, x2, _, rfl, rfl, rfl, yes ⟨_, rfl, _, rfl, x1, x2, d1, rfl, dp_ex f4 u2, dp_ex f4 u4, hks d1 (get_mem u1), fun H5 e5 => ⟨_, e5 Dl _ h4, ?_, Ex.mut (f4.trans e5) hN, ?_⟩⟩⟩
        · rw [List.length_map, List.length_map, List.length_take]
          exact small1000 (by omega)
        · rw [upd_same, take_more u1, List.map_append, List.map_append]
          rfl
      · rintro H3 ⟨e3, h3⟩
        rw [show xs.length = ds.length from l1, List.take_length] at h3
        refine ⟨Dl, _, rfl, SqL.of h3, ?_⟩
        have ea : ((ds.map fun _ => true).all id) = true := by
          rw [List.all_map]
          exact List.all_eq_true.mpr fun _ _ => rfl
        rw [ea]
        exact q H3 (ep.trans e3)
    | @tup _ ds hl hks =>
      cases g1 with
      | @tup a1 xs _ k1 m1 =>
      cases g2 with
      | @tup a2 ys _ k2 m2 =>
      refine iteT ⟨_, rfl, _, _, _, _, _, rfl, .ty _, dp_ty (Dp.tup (K := K) k1 m1), kit_ty (kit_lst _), _, rfl, _, _, _, _, _, rfl, .ty _, dp_ty (Dp.tup (K := K) k2 m2), kit_ty (kit_lst _), rfl, _, rfl, ?_⟩
      rw [nd]
      refine iteF ⟨_, rfl, _, _, _, _, _, rfl, .ty _, dp_ty (Dp.tup (K := K) k1 m1), kit_ty (kit_tup _), _, rfl, _, _, _, _, _, rfl, .ty _, dp_ty (Dp.tup (K := K) k2 m2), kit_ty (kit_tup _), rfl, _, rfl, ?_⟩
      rw [nd]
      have l1 := dps_len m1
      have l2 := dps_len m2
      refine iteF ⟨_, rfl, a1, xs, rfl, .inr k1, _, rfl, a2, ys, rfl, .inr k2, rfl, _, rfl, ?_⟩
      rw [show decide (V.int (xs.length : Int) = V.int (ys.length : Int)) = true from decide_eq_true (by rw [l1, l2])]
      refine iteT ⟨_, rfl, _, rfl, a1, a2, xs, ys, rfl, .inr ⟨k1, k2, fun Dl hN => ?_⟩⟩
      refine lc_it (walk_zip2 (by omega)) (fun i H3 => Ex H1 H3 ∧ H3 Dl = some (.lst (((ds.take i).map fun _ => true).map V.bl))) ⟨Ex.new hN, upd_same⟩ (fun i H3 _ p => ⟨ex_t p.1 k1, ex_t p.1 k2⟩) ?_ ?_
      · rintro i x H3 H4 hi ⟨e3, h3⟩ ⟨t, x1, x2, rfl, hT, rfl, hx1, hx2⟩
        obtain ⟨d1, u1, u2⟩ := dps_get m1 hx1
        obtain ⟨d2, u3, u4⟩ := dps_get m2 hx2
        rw [u1] at u3
        cases u3
        have f4 : Ex H1 (upd H3 t (.tup [x1, x2])) := e3.trans (Ex.new hT)
        have h4 : (upd H3 t (.tup [x1, x2])) Dl = some (.lst (((ds.take i).map fun _ => true).map V.bl)) := (Ex.new hT) Dl _ h3
        refine ⟨t, _, rfl, SqT.of upd_same, rfl, x1, _, rfl, x2, _, rfl, rfl, rfl, yes ⟨_, rfl, _, rfl, x1, x2, d1, rfl, dp_ex f4 u2, dp_ex f4 u4, hks d1 (get_mem u1), fun H5 e5 => ⟨_, e5 Dl _ h4, ?_, Ex.mut (f4.trans e5) hN, ?_⟩⟩⟩
        · rw [List.length_map, List.length_map, List.length_take]
          exact small1000 (by omega)
        · rw [upd_same, take_more u1, List.map_append, List.map_append]
          rfl
      · rintro H3 ⟨e3, h3⟩
        rw [show xs.length = ds.length from l1, List.take_length] at h3
        refine ⟨Dl, _, rfl, SqL.of h3, ?_⟩
        have ea : ((ds.map fun _ => true).all id) = true := by
          rw [List.all_map]
          exact List.all_eq_true.mpr fun _ _ => rfl
        rw [ea]
        exact q H3 (ep.trans e3)
end
end V


set_option Elab.async false
set_option linter.all false
set_option maxRecDepth 100000
set_option maxHeartbeats 4000000
namespace V
open PySem PySem.Spec PyProof.Rows L2 Evl TL NumText
section
variable {P : Program} {w : World} {K : PySem.W.Frag} {mg : Str → Option Value} {base : Heap}
theorem all_k02 (T : Txt K w mg) {fL : Addr} {fd : FuncData} (F : FunD K "law" "law" (defArgs s_law) (defBody s_law) (defScope s_law) [] [] fL fd) : FnG P w K mg base 13 fL fd ["script"] (spLaw K) := by
  have G_take : Cal P w K mg base 1 "_law_take" ["box", "size"] spTake := ok_take T.D__law_take T.z_divmod
  have G_num : Cal P w K mg base 2 "_law_number" ["box"] spNum := ok_number T.D__law_number G_take
  have G_sm := ok_someMark (P := P) (base := base) T G_take
  have G_any := ok_anyTerm (P := P) (base := base) T G_take G_num G_sm (ok_term T G_take G_num 3)
  have G_parts : Cal P w K mg base 1 "parts_of" ["term"] spParts := ok_parts T.D_parts_of T.O T.g_CALLS
  have G_all : Cal P w K mg base 9 "terms_of" ["term"] (spAll 8) := ok_all T.D_terms_of G_parts 8
  have G_right := ok_right (P := P) (base := base) T G_take G_sm G_any (ok_lawDeep T 10) (ok_lawSize T 8) (ok_lawMarks T 8) (ok_lawSpots T 8) (ok_calls T.D_calls_of G_all T.z_sorted) (ok_places T.D_places_of G_all) (ok_size T.D_size_of G_all T.z_len)
    (ok_deep T.D_deep_of G_parts T.z_max 8) (ok_same T 4)
  exact ok_law T F (ok_folded T.D__law_folded T.z_list T.z_enumerate) (ok_box T.D__law_box T.z_len T.z_abs T.z_int) G_right
end
end V


set_option Elab.async false
set_option linter.all false
set_option maxRecDepth 100000
set_option maxHeartbeats 4000000
namespace V
open PySem PySem.Spec PyProof.Rows L2
theorem facts {P : Program} {w : World} {K : PySem.W.Frag} {h h0 : Heap} {mg : Str → Option Value} {f : Addr} (X : K.In h) (G : h.Ns mainGlobals mg) (hfa : mg ("law" : Str) = some (.ref f)) (c : He.SaysX fa fn tabs [] ex w h0 K) :
    ∃ fd : FuncData, (∀ (s : Shared) (v : Value), BindsTo s fd ⟨[v], []⟩ [("script", v)]) ∧ ∀ base : Heap, K.In base → base.Ns mainGlobals mg → FnG P w K mg base 13 f fd ["script"] (spLaw K) := by
  have T : Txt K w mg := txt_of X G c
  obtain ⟨fd, F⟩ := c.t.d.def_ 19 (d := d_law) rfl
  have e := hfa.symm.trans (He.glo_ok X G (c.t.d.fact 19 (f := .glo "law") rfl))
  cases e
  have b := FunD.bindsA (ps := ["script"]) F fun _ _ _ _ _ _ us hl => match us, hl with | [_], _ => rfl
  exact ⟨fd, fun s v => b s [v] rfl, fun base _ _ => all_k02 T F⟩
end V
open PySem PySem.W PySem.Calls PyProof.Rows
theorem PySem.Challenge.cw_contentnames_k02_deep_size_calls_places_holds : PySem.Challenge.rw_contentnames_k02_deep_size_calls_places.Holds := by
  w_on; o_law
  refine HandSHeadRun.head_any (r := OpenLaw.row PySem.Challenge.rw_contentnames_k02_deep_size_calls_places) (q := view (OpenLaw.row PySem.Challenge.rw_contentnames_k02_deep_size_calls_places).prog [23]) (H := V.hk) (ob := V.ob) (M := 6000) (loose := V.loose)
    (d := HandSHeadRun.topDef (OpenLaw.row PySem.Challenge.rw_contentnames_k02_deep_size_calls_places).prog 23) (kwd := []) V.ob_eq
    (by kernel_rfl) (fun s => by kernel_rfl) V.run (by kernel_rfl) (by kernel_rfl) (by kernel_rfl) (by rfl) (by first | assumption | decide +kernel) (by decide +kernel) ⟨rfl, rfl, rfl, rfl, rfl, by decide +kernel⟩ ?hw ?hc
  case hw => w_witness2
  case hc =>
    refine V.walkG (l := PySem.Challenge.rw_contentnames_k02_deep_size_calls_places) (n := 63) (k := 13) (x := "script") rfl (by decide) (by kernel_rfl) ⟨rfl, by decide, by decide⟩ ?F
    intro w mg fa h Y G hmg0
    obtain ⟨K, KX, c⟩ := Y
    have hmg : mg ("law" : PySem.Str) = some (.ref fa) := by
      have e : (HandSHeadRun.topDef (OpenLaw.row PySem.Challenge.rw_contentnames_k02_deep_size_calls_places).prog 23).name = ("law" : PySem.Str) := by kernel_rfl
      rw [← e]
      exact hmg0
    obtain ⟨fd, hb, hF⟩ := V.facts (P := (PySem.Challenge.rw_contentnames_k02_deep_size_calls_places).prog) (w := w) KX G hmg c
    exact ⟨K, fd, V.spLaw K, KX, hb, fun H a ns hl _ hS => ⟨a, ns, rfl, hS, hl, fun _ => rfl⟩, hF⟩

