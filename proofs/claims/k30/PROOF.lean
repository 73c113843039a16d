import PyProof.Rows.All
import Wide.All
import OpenK.AllK
import Wide.FinOn
import HandS.ForMost
import HandS.ForExc
import HandS.Wide
import HandS.IsInst
import HandS.ExcInit
import HandS.ExcField
import HandS.Conv
import HandS.TupLe
import HandS.TryOnly
import HandS.ExcIs
import HandS.Codes
import KE.GoesMore
import HandS.Zip
import HandS.Deep
import HandS.TupSets
import HandS.NoneIn
import KE.KExcIs
import KE.KSortTupG
import HandS.DictTup
import HandS.Sort
import HandS.Small
import HandS.Defaults
import HandS.ClsMeth
import PyProof.MinMaxWalk
import PyProof.WalkInts
import PyProof.SeqI3
import HandS.TupAny
import KE.KSort
import HandS.TryMany
import PyProof.TupleOfSeq
import PyProof.Rows.SumAny
import PyProof.Rows.SortShellAny
import HandS.ExcOwn
import HandS.ExcValue
import HandS.SortInts
import HandS.Style
import KE.KFmtOwn
import PyProof.InstEq
import HandS.Property
import PySem.Challenge.RW_joinedguests_k30_a_sketch_is_made
set_option Elab.async false
set_option linter.all false
set_option maxRecDepth 100000
set_option maxHeartbeats 2000000
namespace J
open PySem PySem.Spec PyProof.Rows L2
def top (i : Nat) : Stmt := PySem.Challenge.pw_joinedguests_k30_a_sketch_is_made.main.body.getD i (.Pass ⟨0, 0, 0, 0⟩)
/-! ### a def that may be called -/
structure Cal (P : Program) (w : World) (K : PySem.W.Frag) (mg : Str → Option Value) (base : Heap) (CX : CXT) (k : Nat) (x : Str) (f : Addr) (fd : FuncData) (ps : List Str) (sp : Sp) : Prop where
  F : FnOk P w K mg base CX k f fd ps sp
  m : mg x = some (.ref f)
  kp : PySem.W.keepIn K (.ref f) = true
  b : Binds K fd ps []
section
variable {X : Cx} {CX : CXT} {k j : Nat} {x : Str} {f : Addr} {fd : FuncData} {ps : List Str} {sp : Sp} {E : XK} {p pos : Pos} {e : Expr} {es : List Expr} {t : TA}
theorem pcal (c : Cal X.prog X.w X.K X.mg X.base CX k x f fd ps sp) (hr : Room j X.A) (hx : Passes CX X E) (ha : PA X (e :: es) t) (hk : k ≤ j := by decide) (hg : Gl X x := by rfl)
    (hdb : (x == ("__debug__" : Str)) = false := by decide) (he : starEach (e :: es) X.env = (false, eval e X.env) :: starEach es X.env := by rfl) (hpl : (backTo pos (starEach es X.env)).any (·.1) = false := by rfl) :
    PE X (.Call (.Name x p) (e :: es) [] pos) (tCall sp [] E t) := pe_call c.F (hr.mono hk) hg c.m c.kp c.b .nil hx ha hdb he hpl
end
/-! ### loops over enumerate -/
theorem for_enum {K : PySem.W.Frag} {a : Addr} {xs : List V} {g : TG} {tb : TS} {D : Ends} {σ : L2.St} {H : Hp} (Pv : Nat → L2.St → Hp → Prop) (h0 : Pv 0 σ H) (hl : ∀ i σ H, i ≤ xs.length → Pv i σ H → SqL K H a xs)
    (hs : ∀ i x σ H T, xs[i]? = some x → Pv i σ H → H T = none → g (.ref T) σ (upd H T (.tup [.int (i : Nat), x])) fun σ2 H2 => tb { D with nx := Pv (i + 1), ct := Pv (i + 1), bk := D.nx } σ2 H2) (hd : ∀ σ H, Pv xs.length σ H → D.nx σ H) :
    ∃ W : Nat → Nat → L2.St → Hp → Prop, (∃ m, W 0 m σ H) ∧ ∀ i m σ H, W i m σ H →
      ((Ite K a).stop i H ∧ D.nx σ H) ∨ ((Ite K a).go i H ∧ ∃ N : L2.St → Hp → Prop, (∀ σ' H', N σ' H' → ∃ m', m' < m ∧ W (i + 1) m' σ' H') ∧ ∀ x H', (Ite K a).yld i H x H' → g x σ H' fun σ2 H2 => tb { D with nx := N, ct := N, bk := D.nx } σ2 H2) := by
  refine ⟨fun i m s h => m + i = xs.length ∧ Pv i s h, ⟨xs.length, rfl, h0⟩, ?_⟩
  rintro i m σ H ⟨em, p⟩
  have hi : i ≤ xs.length := by omega
  have q := hl i σ H hi p
  rcases Nat.lt_or_ge i xs.length with hlt | hge
  · refine .inr ⟨⟨xs, xs[i], q, by simp [hlt]⟩, Pv (i + 1), fun σ' H' p' => ⟨m - 1, by omega, by omega, p'⟩, ?_⟩
    rintro x H' ⟨T, y, rfl, hT, rfl, hy⟩
    exact hs i y σ H T (hy xs q) p hT
  · have e : i = xs.length := by omega
    subst e
    exact .inl ⟨⟨xs, q, Nat.le_refl _⟩, hd σ H p⟩

/-! ### mix -/
abbrev s_Lmix : Stmt := top 39
theorem sc_Lmix : FnScope ["_law_number", "_law_turn", "_law_once", "_law_twice"] ["_law_number", "_law_turn"] (defScope s_Lmix) := ⟨rfl, rfl, rfl, by decide +kernel, rfl, by decide +kernel, by decide +kernel⟩
def spMix : Sp := fun vs H Q _ => ∃ n t : Int, vs = [.int n, .int t] ∧ ∀ r : Int, 0 ≤ r → Q (.int r) H
section
variable {P : Program} {w : World} {K : PySem.W.Frag} {mg : Str → Option Value} {base : Heap}
theorem ok_Lmix {f : Addr} {fd : FuncData} (F : Fun K "_law_mix" "_law_mix" s_Lmix f fd) (ni : mg "int" = none) : FnOk P w K mg base CX0 1 f fd ["_law_number", "_law_turn"] spMix := by
  refine F.ok sc_Lmix (fun vs H Q E h => ?_) (fun cdv A outer s H vs Q E hr h => ?_)
  · obtain ⟨n, t, rfl, _⟩ := h
    rfl
  · obtain ⟨n, t, rfl, k⟩ := h
    refine ⟨_, (pss_cons 
  (ps_set (i := 2) sc_Lmix.nd rfl (Or.inl rfl) (pe_op op_mod (pe_callTy call_int1 (by rfl) ni (by decide +kernel) (pa_cons (pe_op op_add (pe_op op_add (pe_op op_mul (pv 0) pe_int) (pe_op op_mul (pv 1) pe_int)) pe_int) pa_nil)) pe_int)) (pss_cons 
  (ps_set (i := 3) sc_Lmix.nd rfl (Or.inl rfl) (pe_op op_mod (pe_callTy call_int1 (by rfl) ni (by decide +kernel) (pa_cons (pe_op op_add (pe_op op_add (pe_op op_mul (pv 2) (pv 2)) (pe_op op_mul (pe_op op_fdiv (pv 2) pe_int) pe_int)) (pe_op op_mul (pv 1) pe_int)) pa_nil)) pe_int)) (pss_one 
  (ps_ret (pe_op op_fdiv (pe_op op_mod (pe_callTy call_int1 (by rfl) ni (by decide +kernel) (pa_cons (pe_op op_add (pe_op op_fdiv (pe_op op_mul (pv 3) (pv 3)) pe_int) (pv 2)) pa_nil)) pe_int) pe_int))))), ?_⟩
    refine ⟨_, rfl, _, _, rfl, rfl, .inr (by decide), _, rfl, _, _, rfl, rfl, .inr (by decide), _, _, rfl, rfl, _, _, rfl, rfl, .inl ⟨_, rfl, ?_⟩⟩
    refine ⟨_, _, rfl, rfl, (by show (0 : Int) < 2147483647; decide), ?_⟩
    have b1 := Int.emod_nonneg (n * 48271 + t * 16807 + 11) (b := 2147483647) (by decide)
    have b2 := Int.emod_lt_of_pos (n * 48271 + t * 16807 + 11) (b := 2147483647) (by decide)
    generalize (n * 48271 + t * 16807 + 11) % 2147483647 = o at b1 b2 ⊢
    refine ⟨_, rfl, _, rfl, _, _, rfl, rfl, .inl ⟨by omega, by omega⟩, ?_⟩
    refine ⟨_, rfl, _, _, rfl, rfl, ⟨by decide, by decide⟩, _, _, rfl, rfl, .inr (by decide), _, _, rfl, rfl, _, rfl, _, _, rfl, rfl, .inr (by decide), _, _, rfl, rfl, .inl ⟨_, rfl, ?_⟩⟩
    refine ⟨_, _, rfl, rfl, (by show (0 : Int) < 2147483399; decide), ?_⟩
    have b3 := Int.emod_nonneg (o * o + o / 127 * 40692 + t * 69621) (b := 2147483399) (by decide)
    have b4 := Int.emod_lt_of_pos (o * o + o / 127 * 40692 + t * 69621) (b := 2147483399) (by decide)
    generalize (o * o + o / 127 * 40692 + t * 69621) % 2147483399 = u at b3 b4 ⊢
    refine ⟨_, rfl, _, rfl, _, _, rfl, rfl, .inl ⟨by omega, by omega⟩, _, _, rfl, rfl, ⟨by decide, by decide⟩, _, rfl, _, _, rfl, rfl, .inl ⟨_, rfl, ?_⟩⟩
    refine ⟨_, _, rfl, rfl, (by show (0 : Int) < 2147483563; decide), _, _, rfl, rfl, ⟨by decide, by decide⟩, k _ ?_⟩
    have b5 := Int.emod_nonneg (u * u / 1009 + o) (b := 2147483563) (by decide)
    omega
end
end J

set_option Elab.async false
set_option linter.all false
set_option maxRecDepth 100000
set_option maxHeartbeats 2000000
namespace J
open PySem PySem.Spec PyProof.Rows L2
/-! ### the hand that is drawn from -/
/-- at h the hand stands: its cells at q -/
def Hand (H : Hp) (h q : Addr) : Prop := ∃ (cs : List Int) (i r t : Int), H h = some (.lst [.ref q, .int i, .int r, .int t]) ∧ H q = some (.lst (cs.map V.int)) ∧ q ≠ h ∧ 0 ≤ i ∧ 0 ≤ r ∧ 0 ≤ t ∧ t < 2147483629 ∧ (∀ c ∈ cs, 0 ≤ c) ∧ cs.length ≤ 63
/-- all that was tracked stands as it stood, but for what is at h -/
def But (h : Addr) (H H' : Hp) : Prop := ∀ b o, b ≠ h → H b = some o → H' b = some o
theorem But.refl (h : Addr) (H : Hp) : But h H H := fun _ _ _ e => e
theorem But.trans {h : Addr} {H H1 H2 : Hp} (a : But h H H1) (b : But h H1 H2) : But h H H2 := fun c o n e => b c o n (a c o n e)
theorem But.put {h : Addr} {H : Hp} {o : HO} : But h H (upd H h o) := fun c u n e => by rw [upd_ne n]; exact e
theorem But.new {h a : Addr} {H : Hp} {o : HO} (n : H a = none) : But h H (upd H a o) := fun c u _ e => by rw [upd_ne (ne_of_none e n)]; exact e
theorem But.same {h : Addr} {H H1 : Hp} (s : Same H H1) : But h H H1 := fun c o _ e => s c o e
theorem Hand.keep {H H' : Hp} {h q : Addr} (x : Hand H h q) (s : Same H H') : Hand H' h q := by
  obtain ⟨cs, i, r, t, e1, e2, z⟩ := x
  exact ⟨cs, i, r, t, s _ _ e1, s _ _ e2, z⟩
theorem Hand.put {H : Hp} {h q a : Addr} {o : HO} (x : Hand H h q) (n1 : h ≠ a) (n2 : q ≠ a) : Hand (upd H a o) h q := by
  obtain ⟨cs, i, r, t, e1, e2, z⟩ := x
  exact ⟨cs, i, r, t, by rw [upd_ne n1]; exact e1, by rw [upd_ne n2]; exact e2, z⟩
theorem Hand.new {H : Hp} {h q a : Addr} {o : HO} (x : Hand H h q) (n : H a = none) : Hand (upd H a o) h q :=
  x.keep fun c u e => by rw [upd_ne (ne_of_none e n)]; exact e
theorem yesT {A B : Hp → Prop} {σ : L2.St} {H : Hp} (h : A H) : tYes σ H (fun b H3 => if b = true then A H3 else B H3) := by
  show if true = true then A H else B H
  rw [if_pos rfl]
  exact h
abbrev s_Lhand : Stmt := top 40
theorem sc_Lhand : FnScope ["_law_script", "_law_total", "_law_k", "_law_cell"] ["_law_script"] (defScope s_Lhand) := ⟨rfl, rfl, rfl, by decide +kernel, rfl, by decide +kernel, by decide +kernel⟩
def spHand (K : PySem.W.Frag) : Sp := fun vs H Q _ => ∃ (a : Addr) (ns : List Int), vs = [.ref a] ∧ SqL K H a (ns.map V.int) ∧ ns.length ≤ 63 ∧ ∀ (H' : Hp) (h q : Addr), Same H H' → H h = none → H q = none → Hand H' h q → Q (.ref h) H'
section
variable {P : Program} {w : World} {K : PySem.W.Frag} {mg : Str → Option Value} {base : Heap}
theorem ok_Lhand {f : Addr} {fd : FuncData} (F : Fun K "_law_hand" "_law_hand" s_Lhand f fd) (ni : mg "int" = none) (na : mg "abs" = none) (ne : mg "enumerate" = none) : FnOk P w K mg base CX0 1 f fd ["_law_script"] (spHand K) := by
  refine F.ok sc_Lhand (fun vs H Q E h => ?_) (fun cdv A outer s H vs Q E hr h => ?_)
  · obtain ⟨a, ns, rfl, _⟩ := h
    rfl
  · obtain ⟨a, ns, rfl, hS, hn, k⟩ := h
    refine ⟨_, (pss_cons 
  (ps_set (i := 1) sc_Lhand.nd rfl (Or.inl rfl) pe_int) (pss_cons 
  (ps_for PassesOwn.never rfl (pi_enum (by rfl) ne (pa_cons (pv 0) pa_nil)) (pg_tup (by rfl) (pgs_cons (pg_name (i := 2) sc_Lhand.nd rfl (Or.inl rfl)) (pgs_cons (pg_name (i := 3) sc_Lhand.nd rfl (Or.inl rfl)) pgs_nil))) (pss_one 
    (ps_set (i := 1) sc_Lhand.nd rfl (Or.inl rfl) (pe_op op_mod (pe_callTy call_int1 (by rfl) ni (by decide +kernel) (pa_cons (pe_op op_add (pe_op op_mul (pv 1) pe_int) (pe_op op_mul (pe_callTy call_int1 (by rfl) ni (by decide +kernel) (pa_cons (pv 3) pa_nil)) (pe_op op_add (pv 2) pe_int))) pa_nil)) pe_int)))) (pss_one 
  (ps_ret (pe_lst (pa_cons (pe_lc (own := [("_law_cell", 3)]) (g := gName 3) (by rfl) sc_Lhand.nd (pi_list (pv 0)) (blkOk_by (own := [("_law_cell", 3)]) (N := ["_law_script", "_law_total", "_law_k", "_law_cell"]) (sc := defScope s_Lhand) (by decide +kernel)) (fun _ _ _ _ _ => pg_name (i := 3) sc_Lhand.nd rfl (Or.inl rfl)) (fun _ _ _ _ _ => pts_nil) (fun _ _ _ _ _ => (pe_callB call_abs (by rfl) na (by decide +kernel) (pa_cons (pe_callTy call_int1 (by rfl) ni (by decide +kernel) (pa_cons (pv 3) pa_nil)) pa_nil)))) (pa_cons pe_int (pa_cons pe_int (pa_cons (pv 1) pa_nil))))))))), ?_⟩
    refine ⟨_, rfl, a, _, rfl, hS, for_enum (K := K) (a := a) (xs := ns.map V.int) (fun i σ H' => ∃ (t : Int) (v2 v3 : Option V), σ = [some (.ref a), some (.int t), v2, v3] ∧ Same H H' ∧ 0 ≤ t ∧ t < 2147483629)
      ⟨0, none, none, rfl, Same.refl H, by decide, by decide⟩ (fun i σ H' _ ⟨_, _, _, _, S, _⟩ => S.seq hS) ?_ ?_⟩
    · rintro i x σ H' T hx ⟨t, v2, v3, rfl, S, t0, t1⟩ hT
      obtain ⟨c, rfl⟩ : ∃ c, x = V.int c := by
        rw [List.getElem?_map] at hx
        cases e : ns[i]? with
        | none => rw [e] at hx; cases hx
        | some c => rw [e] at hx; exact ⟨c, (Option.some.inj hx).symm⟩
      have hi : i < 63 := by
        have q := (List.getElem?_eq_some_iff.mp hx).1
        rw [List.length_map] at q
        omega
      refine ⟨T, _, rfl, SqT.of upd_same, rfl, _, _, rfl, _, _, rfl, rfl, ?_⟩
      refine ⟨_, rfl, _, _, rfl, rfl, .inr (by decide), _, rfl, .inl ⟨_, rfl, _, rfl, _, _, rfl, rfl, _, _, rfl, rfl, .inr ⟨by omega, by omega⟩, _, _, rfl, rfl, .inl ⟨_, rfl, _, _, rfl, rfl, (by show (0 : Int) < 2147483629; decide), ?_⟩⟩⟩
      refine ⟨_, _, _, rfl, fun b o e => ?_, Int.emod_nonneg _ (by decide), Int.emod_lt_of_pos _ (by decide)⟩
      rw [upd_ne (ne_of_none (S _ _ e) hT)]
      exact S _ _ e
    · rintro σ H' ⟨t, v2, v3, rfl, S, t0, t1⟩
      refine ⟨_, rfl, a, rfl, ⟨_, S.seq hS⟩, fun D hD => ?_⟩
      refine lc_list (K := K) (a := a) (xs := ns.map V.int) (fun i H1 => Same H H1 ∧ H D = none ∧ H1 D = some (.lst ((ns.take i).map fun c => V.int (if c < 0 then -c else c)))) ⟨fun b o e => ?_, S.free hD, upd_same⟩ (fun i H1 _ ⟨S1, _⟩ => S1.seq hS) ?_ ?_
      · rw [upd_ne (ne_of_none (S _ _ e) hD)]
        exact S _ _ e
      · rintro i x H1 hx ⟨S1, D0, e1⟩
        obtain ⟨c, hc, rfl⟩ : ∃ c, ns[i]? = some c ∧ x = V.int c := by
          rw [List.getElem?_map] at hx
          cases e : ns[i]? with
          | none => rw [e] at hx; cases hx
          | some c => rw [e] at hx; exact ⟨c, rfl, (Option.some.inj hx).symm⟩
        refine ⟨rfl, yesT ?_⟩
        refine ⟨_, rfl, .inl ⟨_, rfl, _, rfl, _, e1, ?_, fun b o e => ?_, D0, ?_⟩⟩
        · rw [List.length_map, List.length_take]
          exact small1000 (by omega)
        · rw [upd_ne (ne_of_none e D0)]
          exact S1 _ _ e
        · rw [upd_same, List.take_add_one, hc, List.map_append]
          rfl
      · rintro H1 ⟨S1, D0, e1⟩
        rw [List.length_map, List.take_length] at e1
        refine ⟨_, rfl, (by show 4 ≤ sizeLine; decide), fun p hp => k _ p D (fun b o e => ?_) (S1.free hp) D0 ?_⟩
        · rw [upd_ne (ne_of_none (S1 _ _ e) hp)]
          exact S1 _ _ e
        · refine ⟨ns.map fun c => if c < 0 then -c else c, 0, 0, t, upd_same, ?_, ne_of_none e1 hp, by decide, by decide, t0, t1, ?_, by rw [List.length_map]; exact hn⟩
          · rw [upd_ne (ne_of_none e1 hp), e1, List.map_map]
            rfl
          · intro c hc
            obtain ⟨z, _, rfl⟩ := List.mem_map.mp hc
            split <;> omega
end
end J

set_option Elab.async false
set_option linter.all false
set_option maxRecDepth 100000
set_option maxHeartbeats 2000000
namespace J
open PySem PySem.Spec PyProof.Rows L2
theorem ifD {c A B : Prop} [Decidable c] (h1 : c → A) (h2 : ¬ c → B) : if decide c = true then A else B := by
  by_cases h : c
  · rw [if_pos (decide_eq_true h)]
    exact h1 h
  · rw [if_neg (by simp [h])]
    exact h2 h
theorem v_int {a b : Int} (h : a = b) : V.int a = V.int b := by rw [h]
abbrev s_Ldraw : Stmt := top 41
theorem sc_Ldraw : FnScope ["_law_hand_here", "_law_many", "_law_cell", "_law_rest"] ["_law_hand_here", "_law_many"] (defScope s_Ldraw) := ⟨rfl, rfl, rfl, by decide +kernel, rfl, by decide +kernel, by decide +kernel⟩
def spDraw : Sp := fun vs H Q _ => ∃ (h q : Addr) (m : Int), vs = [.ref h, .int m] ∧ 0 < m ∧ m < 2 ^ 62 ∧ Hand H h q ∧ ∀ (v : Int) (H' : Hp), 0 ≤ v → v < m → But h H H' → Hand H' h q → Q (.int v) H'
theorem hand_put {H : Hp} {h q : Addr} {cs : List Int} {i r t : Int} (e2 : H q = some (.lst (cs.map V.int))) (nq : q ≠ h) (i0 : 0 ≤ i) (r0 : 0 ≤ r) (t0 : 0 ≤ t) (t1 : t < 2147483629) (hc : ∀ c ∈ cs, 0 ≤ c) (hl : cs.length ≤ 63) :
    Hand (upd H h (.lst [.ref q, .int i, .int r, .int t])) h q := ⟨cs, i, r, t, upd_same, by rw [upd_ne nq]; exact e2, nq, i0, r0, t0, t1, hc, hl⟩
theorem fmod_in {a m : Int} (h : 0 < m) : 0 ≤ a.fmod m ∧ a.fmod m < m := by
  rw [Int.fmod_eq_emod_of_nonneg a (by omega)]
  exact ⟨Int.emod_nonneg _ (by omega), Int.emod_lt_of_pos _ h⟩
section
variable {P : Program} {w : World} {K : PySem.W.Frag} {mg : Str → Option Value} {base : Heap}
theorem ok_Ldraw {f fM : Addr} {fd fdM : FuncData} (F : Fun K "_law_draw" "_law_draw" s_Ldraw f fd) (ni : mg "int" = none) (nl : mg "len" = none) (GM : Cal P w K mg base CX0 1 "_law_mix" fM fdM ["_law_number", "_law_turn"] spMix) : FnOk P w K mg base CX0 2 f fd ["_law_hand_here", "_law_many"] spDraw := by
  refine F.ok sc_Ldraw (fun vs H Q E h => ?_) (fun cdv A outer s H vs Q E hr h => ?_)
  · obtain ⟨n, q, t, rfl, _⟩ := h
    rfl
  · obtain ⟨h, q, m, rfl, m0, m1, ⟨cs, i, r, t, e1, e2, nq, i0, r0, t0, t1, hc, hl⟩, k⟩ := h
    refine ⟨_, (C8.pss_cut 
  (ps_if (PW.pt (pw_and (pt_cmpR op_eq (pe_ix ix_list (pv 0) pe_int (fun _ _ => rfl)) pe_int (nomark _)) (pw_and1 (pt_cmpR op_lt (pe_ix ix_list (pv 0) pe_int (fun _ _ => rfl)) (pe_callB call_len_seq (by rfl) nl PySem.boot_len (pa_cons (pe_ix ix_list (pv 0) pe_int (fun _ _ => rfl)) pa_nil)) (nomark _))))) (pss_cons 
    (ps_set (i := 2) sc_Ldraw.nd rfl (Or.inl rfl) (pe_ix ix_list (pe_ix ix_list (pv 0) pe_int (fun _ _ => rfl)) (pe_ix ix_list (pv 0) pe_int (fun _ _ => rfl)) (fun _ _ => rfl))) (pss_cons 
    (ps_asg (pe_op op_add (pe_ix ix_list (pv 0) pe_int (fun _ _ => rfl)) pe_int) (pg_sub (pv 0) pe_int set_list)) (pss_cons 
    (ps_if (pt_cmpR op_lt (pv 2) (pe_op op_pow pe_int pe_int) (nomark _)) (pss_one 
      (ps_ret (pe_op op_modN (pe_callTy call_int1 (by rfl) ni (by decide +kernel) (pa_cons (pcal GM hr pass0 (pa_cons (pe_op op_mod (pe_callTy call_int1 (by rfl) ni (by decide +kernel) (pa_cons (pv 2) pa_nil)) pe_int) (pa_cons (pe_ix ix_list (pv 0) pe_int (fun _ _ => rfl)) pa_nil))) pa_nil)) (pv 1)))) pss_nil) (pss_one 
    (ps_asg (pv 2) (pg_sub (pv 0) pe_int set_list)))))) pss_nil) (pss_cons 
  (ps_if (pt_cmpR op_gt (pe_ix ix_list (pv 0) pe_int (fun _ _ => rfl)) pe_int (nomark _)) (pss_cons 
    (ps_set (i := 3) sc_Ldraw.nd rfl (Or.inl rfl) (pe_ix ix_list (pv 0) pe_int (fun _ _ => rfl))) (pss_cons 
    (ps_asg (pe_op op_fdivW (pv 3) (pv 1)) (pg_sub (pv 0) pe_int set_list)) (pss_one 
    (ps_ret (pe_op op_modN (pe_callTy call_int1 (by rfl) ni (by decide +kernel) (pa_cons (pv 3) pa_nil)) (pv 1)))))) pss_nil) (pss_cons 
  (ps_asg (pe_op op_mod (pe_callTy call_int1 (by rfl) ni (by decide +kernel) (pa_cons (pe_op op_add (pe_ix ix_list (pv 0) pe_int (fun _ _ => rfl)) pe_int) pa_nil)) pe_int) (pg_sub (pv 0) pe_int set_list)) (pss_one 
  (ps_ret (pe_op op_modN (pe_callTy call_int1 (by rfl) ni (by decide +kernel) (pa_cons (pcal GM hr pass0 (pa_cons (pe_ix ix_list (pv 0) pe_int (fun _ _ => rfl)) (pa_cons (pe_ix ix_list (pv 0) pe_int (fun _ _ => rfl)) pa_nil))) pa_nil)) (pv 1))))))), ?_⟩
    refine ⟨fun σ' H' => ∃ (v2 : Option V) (i r t : Int), σ' = [some (.ref h), some (.int m), v2, none] ∧ But h H H' ∧ H' h = some (.lst [.ref q, .int i, .int r, .int t]) ∧ 0 ≤ i ∧ 0 ≤ r ∧ 0 ≤ t ∧ t < 2147483629, ?_, ?_⟩
    · -- hand[2] == 0
      refine ⟨_, rfl, _, _, _, _, rfl, rfl, SqL.of e1, rfl, rfl, _, rfl, ?_⟩
      refine ifD (fun c1 => ?_) (fun c1 => iteF ⟨none, i, r, t, rfl, But.refl h H, e1, i0, r0, t0, t1⟩)
      refine ⟨_, rfl, _, _, _, _, rfl, rfl, SqL.of e1, rfl, _, rfl, _, _, _, _, rfl, rfl, SqL.of e1, rfl, _, _, rfl, .inl (SqL.of e2), _, _, rfl, rfl, _, rfl, ?_⟩
      refine ifD (fun c2 => ?_) (fun c2 => ⟨none, i, r, t, rfl, But.refl h H, e1, i0, r0, t0, t1⟩)
      rw [List.length_map] at c2
      have hi : i.toNat < cs.length := by omega
      have hic : ((i.toNat : Nat) : Int) = i := Int.toNat_of_nonneg i0
      have hat : (cs.map V.int)[i.toNat]? = some (V.int cs[i.toNat]) := by
        rw [List.getElem?_map, List.getElem?_eq_getElem hi]
        rfl
      have cp : 0 ≤ cs[i.toNat] := hc _ (List.getElem_mem hi)
      generalize cs[i.toNat] = c at hat cp
      refine ⟨_, rfl, _, _, _, _, rfl, rfl, SqL.of e1, rfl, _, rfl, _, _, _, _, rfl, rfl, SqL.of e1, rfl, _, _, _, _, rfl, rfl, SqL.of e2, at_of hic.symm hat, ?_⟩
      refine ⟨_, rfl, _, _, _, _, rfl, rfl, SqL.of e1, rfl, _, _, rfl, rfl, _, rfl, _, _, _, _, rfl, rfl, e1, rfl, ?_⟩
      have e3 : (upd H h (.lst [.ref q, .int (i + 1), .int r, .int t])) h = some (.lst [.ref q, .int (i + 1), .int r, .int t]) := upd_same
      refine ⟨_, rfl, _, _, rfl, rfl, ⟨by decide, by decide, by decide⟩, _, _, rfl, rfl, _, rfl, ?_⟩
      refine ifD (fun c3 => ?_) (fun c3 => ?_)
      · refine ⟨_, rfl, .inl ⟨_, rfl, _, _, rfl, rfl, (by show (0 : Int) < 2147483647; decide), _, rfl, _, _, _, _, rfl, rfl, SqL.of e3, rfl, _, _, rfl, fun z z0 => .inl ⟨_, rfl, _, rfl, _, _, rfl, rfl, (by show m ≠ 0; omega), ?_⟩⟩⟩
        exact k _ _ (fmod_in m0).1 (fmod_in m0).2 But.put (hand_put e2 nq (by omega) r0 t0 t1 hc hl)
      · refine ⟨_, rfl, _, rfl, _, _, _, _, rfl, rfl, e3, rfl, ?_⟩
        exact ⟨_, i + 1, c, t, rfl, But.put.trans But.put, upd_same, by omega, cp, t0, t1⟩
    · rintro σ' H' ⟨v2, i, r, t, rfl, B1, e1, i0, r0, t0, t1⟩
      have e2' := B1 _ _ nq e2
      refine ⟨_, rfl, _, _, _, _, rfl, rfl, SqL.of e1, rfl, _, _, rfl, rfl, _, rfl, ?_⟩
      refine ifD (fun c1 => ?_) (fun c1 => ?_)
      · refine ⟨_, rfl, _, _, _, _, rfl, rfl, SqL.of e1, rfl, _, rfl, _, rfl, _, _, rfl, rfl, wide_div (b := 62) m0 (by omega) (by decide) (by decide), _, rfl, _, _, _, _, rfl, rfl, e1, rfl, ?_⟩
        refine ⟨_, rfl, .inl ⟨_, rfl, _, rfl, _, _, rfl, rfl, (by show m ≠ 0; omega), ?_⟩⟩
        exact k _ _ (fmod_in m0).1 (fmod_in m0).2 (B1.trans But.put) (hand_put e2' nq i0 (Int.ediv_nonneg r0 (by omega)) t0 t1 hc hl)
      · refine ⟨_, rfl, _, _, _, _, rfl, rfl, SqL.of e1, rfl, _, _, rfl, rfl, .inl ⟨_, rfl, _, _, rfl, rfl, (by show (0 : Int) < 2147483629; decide), _, rfl, _, _, _, _, rfl, rfl, e1, rfl, ?_⟩⟩
        have e3 : (upd H' h (.lst [.ref q, .int i, .int r, .int ((t + 1) % 2147483629)])) h = some (.lst [.ref q, .int i, .int r, .int ((t + 1) % 2147483629)]) := upd_same
        refine ⟨_, rfl, _, _, _, _, rfl, rfl, SqL.of e3, rfl, _, rfl, _, _, _, _, rfl, rfl, SqL.of e3, rfl, _, _, rfl, fun z z0 => .inl ⟨_, rfl, _, rfl, _, _, rfl, rfl, (by show m ≠ 0; omega), ?_⟩⟩
        exact k _ _ (fmod_in m0).1 (fmod_in m0).2 (B1.trans But.put) (hand_put e2' nq i0 r0 (Int.emod_nonneg _ (by decide)) (Int.emod_lt_of_pos _ (by decide)) hc hl)
end
end J

set_option Elab.async false
set_option linter.all false
set_option maxRecDepth 100000
set_option maxHeartbeats 2000000
namespace J
open PySem PySem.Spec PyProof.Rows L2
/-! ### things of many kinds -/
/-- the shape of a thing -/
inductive Sh where
  | sc (v : V) | dk | lst (xs : List V) | tup (xs : List V)
def isSc : V → Bool
  | .non => true | .bl _ => true | .int _ => true | .str _ => true | _ => false
def Is (H : Hp) (x : V) : Sh → Prop
  | .sc v => x = v ∧ isSc v = true
  | .dk => ∃ a kvs, x = .ref a ∧ H a = some (.dK kvs)
  | .lst xs => ∃ a, x = .ref a ∧ H a = some (.lst xs)
  | .tup xs => ∃ a, x = .ref a ∧ H a = some (.tup xs)
def Sh.int : Sh → Bool
  | .sc (.int _) => true | _ => false
def Sh.bl : Sh → Bool
  | .sc (.bl _) => true | _ => false
def Sh.isL : Sh → Bool
  | .lst _ => true | _ => false
def Sh.isT : Sh → Bool
  | .tup _ => true | _ => false
theorem Is.keep {H H' : Hp} {x : V} {s : Sh} (h : Is H x s) (S : Same H H') : Is H' x s := by
  cases s with
  | sc v => exact h
  | dk => obtain ⟨a, kvs, e, q⟩ := h; exact ⟨a, kvs, e, S _ _ q⟩
  | lst xs => obtain ⟨a, e, q⟩ := h; exact ⟨a, e, S _ _ q⟩
  | tup xs => obtain ⟨a, e, q⟩ := h; exact ⟨a, e, S _ _ q⟩
theorem kt_NoneType_int : kitB "NoneType" "int" = some false := by decide +kernel
theorem kt_NoneType_bool : kitB "NoneType" "bool" = some false := by decide +kernel
theorem kt_NoneType_list : kitB "NoneType" "list" = some false := by decide +kernel
theorem kt_NoneType_tuple : kitB "NoneType" "tuple" = some false := by decide +kernel
theorem kt_bool_int : kitB "bool" "int" = some true := by decide +kernel
theorem kt_bool_bool : kitB "bool" "bool" = some true := by decide +kernel
theorem kt_bool_list : kitB "bool" "list" = some false := by decide +kernel
theorem kt_bool_tuple : kitB "bool" "tuple" = some false := by decide +kernel
theorem kt_int_int : kitB "int" "int" = some true := by decide +kernel
theorem kt_int_bool : kitB "int" "bool" = some false := by decide +kernel
theorem kt_int_list : kitB "int" "list" = some false := by decide +kernel
theorem kt_int_tuple : kitB "int" "tuple" = some false := by decide +kernel
theorem kt_str_int : kitB "str" "int" = some false := by decide +kernel
theorem kt_str_bool : kitB "str" "bool" = some false := by decide +kernel
theorem kt_str_list : kitB "str" "list" = some false := by decide +kernel
theorem kt_str_tuple : kitB "str" "tuple" = some false := by decide +kernel
theorem kt_dict_int : kitB "dict" "int" = some false := by decide +kernel
theorem kt_dict_bool : kitB "dict" "bool" = some false := by decide +kernel
theorem kt_dict_list : kitB "dict" "list" = some false := by decide +kernel
theorem kt_dict_tuple : kitB "dict" "tuple" = some false := by decide +kernel
theorem kt_list_int : kitB "list" "int" = some false := by decide +kernel
theorem kt_list_bool : kitB "list" "bool" = some false := by decide +kernel
theorem kt_list_list : kitB "list" "list" = some true := by decide +kernel
theorem kt_list_tuple : kitB "list" "tuple" = some false := by decide +kernel
theorem kt_tuple_int : kitB "tuple" "int" = some false := by decide +kernel
theorem kt_tuple_bool : kitB "tuple" "bool" = some false := by decide +kernel
theorem kt_tuple_list : kitB "tuple" "list" = some false := by decide +kernel
theorem kt_tuple_tuple : kitB "tuple" "tuple" = some true := by decide +kernel
theorem Is.ty {K : PySem.W.Frag} {H : Hp} {x : V} {s : Sh} (h : Is H x s) : ∃ t : String, TyX K H x (.type t) ∧ kitB t "int" = some (s.int || s.bl) ∧ kitB t "bool" = some s.bl ∧ kitB t "list" = some s.isL ∧ kitB t "tuple" = some s.isT := by
  cases s with
  | sc v =>
    obtain ⟨rfl, e⟩ := h
    cases x with
    | non => exact ⟨_, .base .non, kt_NoneType_int, kt_NoneType_bool, kt_NoneType_list, kt_NoneType_tuple⟩
    | bl b => exact ⟨_, .base (.bl b), kt_bool_int, kt_bool_bool, kt_bool_list, kt_bool_tuple⟩
    | int b => exact ⟨_, .base (.int b), kt_int_int, kt_int_bool, kt_int_list, kt_int_tuple⟩
    | str b => exact ⟨_, .base (.str b), kt_str_int, kt_str_bool, kt_str_list, kt_str_tuple⟩
    | byt b => cases e
    | flt b => cases e
    | ref b => cases e
    | ty b => cases e
  | dk => obtain ⟨a, kvs, rfl, q⟩ := h; exact ⟨_, .base (.dK q), kt_dict_int, kt_dict_bool, kt_dict_list, kt_dict_tuple⟩
  | lst xs => obtain ⟨a, rfl, q⟩ := h; exact ⟨_, .base (.lst q), kt_list_int, kt_list_bool, kt_list_list, kt_list_tuple⟩
  | tup xs => obtain ⟨a, rfl, q⟩ := h; exact ⟨_, .base (.tup q), kt_tuple_int, kt_tuple_bool, kt_tuple_list, kt_tuple_tuple⟩
/-- isinstance(x, (list, tuple)) -/
theorem kit_seq {K : PySem.W.Frag} {t : String} {a b : Bool} (h1 : kitB t "list" = some a) (h2 : kitB t "tuple" = some b) : PySem.W.kitAny K (.type t) [.type "list", .type "tuple"] = some (a || b) :=
  kitAny_cons (kit_ty h1) (fun e => by subst e; exact kitAny_cons (kit_ty h2) (fun e => by subst e; exact kitAny_nil) (fun e => by subst e; rfl)) (fun e => by subst e; rfl)
def wholeB (x : V) (lo hi : Int) : Bool := match x with
  | .int i => decide (lo ≤ i) && decide (i ≤ hi)
  | _ => false

abbrev s_is_whole : Stmt := top 16
theorem sc_is_whole : FnScope ["thing", "low", "high"] ["thing", "low", "high"] (defScope s_is_whole) := ⟨rfl, rfl, rfl, by decide +kernel, rfl, by decide +kernel, by decide +kernel⟩
def spWhole : Sp := fun vs H Q _ => ∃ (x : V) (s : Sh) (lo hi : Int), vs = [x, .int lo, .int hi] ∧ Is H x s ∧ Q (.bl (wholeB x lo hi)) H
theorem if_tr {A B : Prop} {c : Bool} (e : c = true) (h : A) : if c = true then A else B := by rw [if_pos e]; exact h
theorem if_fa {A B : Prop} {c : Bool} (e : c = false) (h : B) : if c = true then A else B := by rw [if_neg (by simp [e])]; exact h
section
variable {P : Program} {w : World} {K : PySem.W.Frag} {mg : Str → Option Value} {base : Heap}
theorem ok_is_whole {f : Addr} {fd : FuncData} (F : Fun K "is_whole" "is_whole" s_is_whole f fd) (ns : mg "isinstance" = none) (ni : mg "int" = none) (nb : mg "bool" = none) : FnOk P w K mg base CX0 1 f fd ["thing", "low", "high"] spWhole := by
  refine F.ok sc_is_whole (fun vs H Q E h => ?_) (fun cdv A outer s H vs Q E hr h => ?_)
  · obtain ⟨x, s, lo, hi, rfl, _⟩ := h
    rfl
  · obtain ⟨x, sh, lo, hi, rfl, hx, k⟩ := h
    refine ⟨_, (pss_one 
  (ps_ret (pe_and (pe_callB call_isi (by rfl) ns (by decide +kernel) (pa_cons (pv 0) (pa_cons (pe_bltn (by rfl) ni (by decide +kernel) (v := .ty "int") rfl) pa_nil))) (pe_and (pe_not (pe_callB call_isi (by rfl) ns (by decide +kernel) (pa_cons (pv 0) (pa_cons (pe_bltn (by rfl) nb (by decide +kernel) (v := .ty "bool") rfl) pa_nil)))) (pe_one (pe_chain op_le op_le (pv 1) (pv 0) (pv 2))))))), ?_⟩
    obtain ⟨t, ht, k1, k2, _⟩ := hx.ty (K := K)
    refine ⟨_, rfl, _, _, _, _, _, rfl, .ty "int", ht, kit_ty k1, _, rfl, ?_⟩
    cases e1 : sh.int with
    | true =>
      obtain ⟨i, rfl⟩ : ∃ i, sh = .sc (.int i) := by
        cases sh with
        | sc v => cases v <;> first | exact ⟨_, rfl⟩ | cases e1
        | _ => cases e1
      obtain ⟨rfl, _⟩ := hx
      refine if_tr rfl ?_
      refine ⟨_, rfl, _, _, _, _, _, rfl, .ty "bool", ht, kit_ty k2, _, rfl, _, rfl, ?_⟩
      refine if_tr rfl ?_
      refine ⟨_, rfl, _, rfl, _, _, rfl, rfl, _, rfl, ?_⟩
      by_cases c : lo ≤ i
      · refine if_tr (decide_eq_true c) ⟨_, rfl, _, _, rfl, rfl, ?_⟩
        have e : wholeB (.int i) lo hi = decide (i ≤ hi) := by
          show (decide (lo ≤ i) && decide (i ≤ hi)) = _
          rw [decide_eq_true c, Bool.true_and]
        rw [e] at k
        exact k
      · refine if_fa (decide_eq_false c) ?_
        have e : wholeB (.int i) lo hi = false := by
          show (decide (lo ≤ i) && decide (i ≤ hi)) = _
          rw [decide_eq_false c, Bool.false_and]
        rw [e] at k
        exact k
    | false =>
      have e : wholeB x lo hi = false := by
        cases sh with
        | sc v =>
          obtain ⟨rfl, _⟩ := hx
          cases x <;> first | rfl | cases e1
        | dk => obtain ⟨a, _, rfl, _⟩ := hx; rfl
        | lst => obtain ⟨a, rfl, _⟩ := hx; rfl
        | tup => obtain ⟨a, rfl, _⟩ := hx; rfl
      rw [e] at k
      cases e2 : sh.bl with
      | true =>
        refine if_tr rfl ?_
        refine ⟨_, rfl, _, _, _, _, _, rfl, .ty "bool", ht, kit_ty (e2 ▸ k2), _, rfl, _, rfl, ?_⟩
        exact if_fa rfl k
      | false => exact if_fa rfl k
abbrev s_is_sequence : Stmt := top 18
theorem sc_is_sequence : FnScope ["thing"] ["thing"] (defScope s_is_sequence) := ⟨rfl, rfl, rfl, by decide +kernel, rfl, by decide +kernel, by decide +kernel⟩
def spSeq : Sp := fun vs H Q _ => ∃ (x : V) (s : Sh), vs = [x] ∧ Is H x s ∧ ∀ H', Same H H' → Q (.bl (s.isL || s.isT)) H'
theorem new_same {H : Hp} {p : Addr} {o : HO} (n : H p = none) : Same H (upd H p o) := fun b u e => by
  rw [upd_ne (ne_of_none e n)]
  exact e
/-- the test isinstance(x, (list, tuple)) -/
theorem isi_seq {K : PySem.W.Frag} {H : Hp} {x : V} {s : Sh} {Q : VK} (hx : Is H x s) (k : ∀ H', Same H H' → Q (.bl (s.isL || s.isT)) H') : 2 ≤ sizeLine ∧ ∀ p, H p = none → rIsiT K [x, .ref p] (upd H p (.tup [.ty "list", .ty "tuple"])) Q := by
  refine ⟨by decide, fun p hp => ?_⟩
  have S : Same H (upd H p (.tup [.ty "list", .ty "tuple"])) := new_same hp
  obtain ⟨t, ht, _, _, k1, k2⟩ := (hx.keep S).ty (K := K)
  exact ⟨_, _, _, _, _, _, rfl, upd_same, .cons (.ty "list") (.cons (.ty "tuple") .nil), ht, kit_seq k1 k2, k _ S⟩
theorem ok_is_sequence {f : Addr} {fd : FuncData} (F : Fun K "is_sequence" "is_sequence" s_is_sequence f fd) (ns : mg "isinstance" = none) (nl : mg "list" = none) (nt : mg "tuple" = none) : FnOk P w K mg base CX0 1 f fd ["thing"] spSeq := by
  refine F.ok sc_is_sequence (fun vs H Q E h => ?_) (fun cdv A outer s H vs Q E hr h => ?_)
  · obtain ⟨x, s, rfl, _⟩ := h
    rfl
  · obtain ⟨x, sh, rfl, hx, k⟩ := h
    refine ⟨_, (pss_one 
  (ps_ret (pe_callB call_isiT (by rfl) ns (by decide +kernel) (pa_cons (pv 0) (pa_cons (pe_tup (pa_cons (pe_bltn (by rfl) nl (by decide +kernel) (v := .ty "list") rfl) (pa_cons (pe_bltn (by rfl) nt (by decide +kernel) (v := .ty "tuple") rfl) pa_nil))) pa_nil))))), ?_⟩
    exact ⟨_, rfl, isi_seq hx k⟩
end
end J

set_option Elab.async false
set_option linter.all false
set_option maxRecDepth 100000
set_option maxHeartbeats 2000000
namespace J
open PySem PySem.Spec PyProof.Rows L2
/-! ### own errors with one field -/
def spXI (C : Addr) (f : Str) : Sp := fun vs H Q _ => ∃ (a : Addr) (v : V), vs = [.ref a, v] ∧ H a = some (exo a C none) ∧ ∀ dx, H dx = none → dx ≠ a → Q .non (upd (upd H dx (exd dx [(f, v)])) a (exo a C (some dx)))
structure Ex (P : Program) (w : World) (K : PySem.W.Frag) (mg : Str → Option Value) (base : Heap) (x fld : Str) (C fI : Addr) (fd : FuncData) (ps : List Str) : Prop where
  o : OexC K C
  i : PySem.W.findIn K (.ref C) "__init__" = some (some (.ref fI))
  t : PySem.W.typeIn K (.ref fI) = some (.type "function")
  F : FnOk P w K mg base CX0 1 fI fd ps (spXI C fld)
  b : Binds K fd ps []
  m : mg x = some (.ref C)
  xf : XfC K C
  no : PySem.W.findIn K (.ref C) fld = some none
  te : PySem.W.exmOne K (.ref C) (.ref C) = some true
/-- how an error is told: new, with its field -/
def Tells (H : Hp) (C : Addr) (f : Str) (v : V) (E : XK) : Prop := ∀ d H', H d = none → Same H H' → H' d = some (.xd [(f, v)]) → E (.ref C) (some d) H'
theorem mkO_of {C : Addr} {f : Str} {v : V} {H : Hp} {Q : XK} (h : Tells H C f v Q) : [v].length ≤ 1000 ∧ ∀ a, H a = none → spXI C f (.ref a :: ([v] ++ [])) (upd H a (exo a C none))
    (fun u H2 => u = .non ∧ ∃ (d : Addr) (fs : List (Str × V)), H2 a = some (exo a C (some d)) ∧ H2 d = some (exd d fs) ∧ H d = none ∧ Q (.ref C) (some d) (upd (del H2 a) d (.xd fs))) (fun _ _ _ => False) := by
  refine ⟨(by show 1 ≤ 1000; decide), fun a ha => ⟨a, v, rfl, upd_same, fun dx hdx ne => ⟨rfl, dx, [(f, v)], upd_same, ?_, ?_, ?_⟩⟩⟩
  · rw [upd_ne ne, upd_same]
  · rw [upd_ne ne] at hdx
    exact hdx
  · rw [upd_ne ne] at hdx
    refine h _ _ hdx (fun b o e => ?_) upd_same
    rw [upd_ne (ne_of_none e hdx), del_ne (ne_of_none e ha), upd_ne (ne_of_none e ha), upd_ne (ne_of_none e hdx), upd_ne (ne_of_none e ha)]
    exact e
abbrev s_BadTies_init : Stmt := inClass (top 5) 0
abbrev s_NoTie_init : Stmt := inClass (top 6) 0
theorem sc_BadTies_init : FnScope ["self", "what"] ["self", "what"] (defScope s_BadTies_init) := ⟨rfl, rfl, rfl, by decide +kernel, rfl, by decide +kernel, by decide +kernel⟩
theorem sc_NoTie_init : FnScope ["self", "tie"] ["self", "tie"] (defScope s_NoTie_init) := ⟨rfl, rfl, rfl, by decide +kernel, rfl, by decide +kernel, by decide +kernel⟩
section
variable {P : Program} {w : World} {K : PySem.W.Frag} {mg : Str → Option Value} {base : Heap}
theorem ok_BadTies_init {f C : Addr} {fd : FuncData} (F : Fun K "__init__" "BadTies.__init__" s_BadTies_init f fd) (o : OexC K C) (no : PySem.W.findIn K (.ref C) "what" = some none) : FnOk P w K mg base CX0 1 f fd ["self", "what"] (spXI C "what") := by
  refine F.ok sc_BadTies_init (fun vs H Q E h => ?_) (fun cdv A outer s H vs Q E hr h => ?_)
  · obtain ⟨x, s, rfl, _⟩ := h
    rfl
  · obtain ⟨a, v, rfl, ha, k⟩ := h
    refine ⟨_, pss_one (ps_ost (pv 0) (pv 1)), ?_⟩
    exact ⟨_, rfl, _, rfl, a, C, rfl, o, no, .inl ⟨ha, k⟩⟩
theorem ok_NoTie_init {f C : Addr} {fd : FuncData} (F : Fun K "__init__" "NoTie.__init__" s_NoTie_init f fd) (o : OexC K C) (no : PySem.W.findIn K (.ref C) "tie" = some none) : FnOk P w K mg base CX0 1 f fd ["self", "tie"] (spXI C "tie") := by
  refine F.ok sc_NoTie_init (fun vs H Q E h => ?_) (fun cdv A outer s H vs Q E hr h => ?_)
  · obtain ⟨x, s, rfl, _⟩ := h
    rfl
  · obtain ⟨a, v, rfl, ha, k⟩ := h
    refine ⟨_, pss_one (ps_ost (pv 0) (pv 1)), ?_⟩
    exact ⟨_, rfl, _, rfl, a, C, rfl, o, no, .inl ⟨ha, k⟩⟩
end
/-! ### Ties -/
theorem bm_ : ¬ (("backs" : Str) = "many") := by decide +kernel
theorem mb_ : ¬ (("many" : Str) = "backs") := by decide +kernel
def tf (t : Addr) (n : Int) : List (Str × V) := putF "many" (.int n) (putF "backs" (.ref t) [])
theorem tf_backs (t : Addr) (n : Int) : (tf t n).lookup ("backs" : Str) = some (.ref t) := by
  unfold tf
  rw [lookup_putF, if_neg bm_, lookup_putF, if_pos rfl]
theorem tf_many (t : Addr) (n : Int) : (tf t n).lookup ("many" : Str) = some (.int n) := by
  unfold tf
  rw [lookup_putF, if_pos rfl]
theorem tf_no (t : Addr) (n : Int) {m : Str} (h1 : ¬ m = "many") (h2 : ¬ m = "backs") : (tf t n).lookup m = none := by
  unfold tf
  rw [lookup_putF, if_neg h1, lookup_putF, if_neg h2]
  all_goals rfl
def TiesAt (C : Addr) (H : Hp) (x : Addr) (ns : List Int) : Prop := ∃ dx t, H x = some (.ins C dx (tf t (ns.length : Nat))) ∧ H t = some (.tup (ns.map V.int))
theorem TiesAt.keep {C : Addr} {H H' : Hp} {x : Addr} {ns : List Int} (h : TiesAt C H x ns) (S : Same H H') : TiesAt C H' x ns := by
  obtain ⟨dx, t, a, b⟩ := h
  exact ⟨dx, t, S _ _ a, S _ _ b⟩
/-- the class Ties in the written part -/
structure TiC (K : PySem.W.Frag) (C : Addr) : Prop where
  cl : Cls K C
  nB : NoAttr K C "backs"
  nM : NoAttr K C "many"
structure Mt (P : Program) (w : World) (K : PySem.W.Frag) (mg : Str → Option Value) (base : Heap) (CX : CXT) (k : Nat) (C : Addr) (m : Str) (f : Addr) (fd : FuncData) (ps : List Str) (sp : Sp) : Prop where
  M : Meth K C m f
  F : FnOk P w K mg base CX k f fd ps sp
  b : Binds K fd ps []
abbrev s_Ties_has : Stmt := inClass (top 20) 2
abbrev s_Ties_back : Stmt := inClass (top 20) 3
theorem sc_Ties_has : FnScope ["self", "thing"] ["self", "thing"] (defScope s_Ties_has) := ⟨rfl, rfl, rfl, by decide +kernel, rfl, by decide +kernel, by decide +kernel⟩
theorem sc_Ties_back : FnScope ["self", "tie"] ["self", "tie"] (defScope s_Ties_back) := ⟨rfl, rfl, rfl, by decide +kernel, rfl, by decide +kernel, by decide +kernel⟩
def tieB (ns : List Int) (x : V) : Bool := wholeB x 0 ((ns.length : Nat) - 1)
def spHas (C : Addr) : Sp := fun vs H Q _ => ∃ (x : Addr) (ns : List Int) (v : V) (s : Sh), vs = [.ref x, v] ∧ TiesAt C H x ns ∧ Is H v s ∧ Q (.bl (tieB ns v)) H
def spBack (C CN : Addr) : Sp := fun vs H Q E => ∃ (x : Addr) (ns : List Int) (v : V) (s : Sh), vs = [.ref x, v] ∧ TiesAt C H x ns ∧ Is H v s ∧ (∀ (i : Nat) (b : Int), v = .int (i : Nat) → ns[i]? = some b → Q (.int b) H) ∧ (tieB ns v = false → Tells H CN "tie" v E)
def spOneWay (C CN : Addr) : Sp := fun vs H Q E => ∃ (x : Addr) (ns : List Int) (v : V) (s : Sh), vs = [.ref x, v] ∧ TiesAt C H x ns ∧ Is H v s ∧ (∀ (i : Nat) (b : Int), v = .int (i : Nat) → ns[i]? = some b → Q (.bl (!decide (b = (i : Nat)))) H) ∧ (tieB ns v = false → Tells H CN "tie" v E)
theorem tieB_true {ns : List Int} {v : V} (h : tieB ns v = true) : ∃ (i : Nat) (b : Int), v = .int (i : Nat) ∧ ns[i]? = some b := by
  cases v with
  | int i =>
    have h' : (decide (0 ≤ i) && decide (i ≤ (ns.length : Nat) - 1)) = true := h
    obtain ⟨h1, h2⟩ := Bool.and_eq_true_iff.mp h'
    have h1 := of_decide_eq_true h1
    have h2 := of_decide_eq_true h2
    have hl : i.toNat < ns.length := by omega
    exact ⟨i.toNat, ns[i.toNat], by rw [Int.toNat_of_nonneg h1], List.getElem?_eq_getElem hl⟩
  | _ => cases h
section
variable {P : Program} {w : World} {K : PySem.W.Frag} {mg : Str → Option Value} {base : Heap}
theorem ok_Ties_has {f C fW : Addr} {fd fdW : FuncData} (F : Fun K "has" "Ties.has" s_Ties_has f fd) (T : TiC K C) (GW : Cal P w K mg base CX0 1 "is_whole" fW fdW ["thing", "low", "high"] spWhole) : FnOk P w K mg base CX0 2 f fd ["self", "thing"] (spHas C) := by
  refine F.ok sc_Ties_has (fun vs H Q E h => ?_) (fun cdv A outer s H vs Q E hr h => ?_)
  · obtain ⟨x, ns, v, s, rfl, _⟩ := h
    rfl
  · obtain ⟨x, ns, v, s, rfl, ⟨dx, t, hx, ht⟩, hv, k⟩ := h
    refine ⟨_, (pss_one 
  (ps_ret (pcal GW hr pass0 (pa_cons (pv 1) (pa_cons pe_int (pa_cons (pe_op op_sub (pe_fld (pv 0) rfl) pe_int) pa_nil)))))), ?_⟩
    exact ⟨_, rfl, _, rfl, x, C, dx, _, _, rfl, hx, T.cl, T.nM, tf_many _ _, _, _, rfl, rfl, v, s, _, _, rfl, hv, k⟩
theorem ok_Ties_back {f C CN fH fI : Addr} {fd fdH fdI : FuncData} (F : Fun K "back" "Ties.back" s_Ties_back f fd) (T : TiC K C) (GH : Mt P w K mg base CX0 2 C "has" fH fdH ["self", "thing"] (spHas C)) (GN : Ex P w K mg base "NoTie" "tie" CN fI fdI ["self", "tie"]) :
    FnOk P w K mg base (L2.CX P w) 3 f fd ["self", "tie"] (spBack C CN) := by
  refine F.okX sc_Ties_back (fun vs H Q E h => ?_) (fun cdv A outer s H vs Q E hr h => ?_)
  · obtain ⟨x, ns, v, s, rfl, _⟩ := h
    rfl
  · obtain ⟨x, ns, v, s, rfl, hT, hv, k1, k2⟩ := h
    obtain ⟨dx, t, hx, ht⟩ := id hT
    refine ⟨_, (pss_cons 
  (ps_if (pt_not (pt_val (pe_meth (pv 0) T.cl GH.M GH.F hr GH.b .nil pass0 (pa_cons (pv 1) pa_nil)))) (pss_one 
    (ps_raise rfl (takes_of rfl rfl rfl rfl) (pmk_oex GN.o GN.i GN.t GN.F hr GN.b .nil pass0 rfl GN.m (pa_cons (pv 1) pa_nil)))) pss_nil) (pss_one 
  (ps_ret (pe_ix ix_tup (pe_fld (pv 0) rfl) (pv 1) (fun _ _ => rfl))))), ?_⟩
    refine ⟨_, rfl, x, dx, _, rfl, hx, tf_no _ _ (by decide +kernel) (by decide +kernel), _, rfl, x, ns, v, s, rfl, hT, hv, _, rfl, ?_⟩
    cases e : tieB ns v with
    | true =>
      obtain ⟨i, b, rfl, hb⟩ := tieB_true e
      refine if_fa rfl ⟨_, rfl, x, C, dx, _, _, rfl, hx, T.cl, T.nB, tf_backs _ _, _, rfl, _, _, _, _, rfl, rfl, SqT.of ht, at_of (v := .int b) rfl ?_, k1 i b rfl hb⟩
      rw [List.getElem?_map, hb]
      rfl
    | false => exact if_tr rfl ⟨_, rfl, mkO_of (k2 e)⟩
end
end J

set_option Elab.async false
set_option linter.all false
set_option maxRecDepth 100000
set_option maxHeartbeats 4000000
namespace J
open PySem PySem.Spec PyProof.Rows L2
/-! ### which word is due -/
def backB (xs : List V) (k : Nat) : Bool := match xs[k]? with
  | some (.int n) => decide (xs[n.toNat]? = some (.int (k : Nat)))
  | _ => false
def dueS (xs : List V) : Option Str :=
  if 2 ≤ xs.length ∧ xs.length ≤ 4 then
    if ∀ x ∈ xs, wholeB x 0 ((xs.length : Nat) - 1) = true then
      if ∀ k, k < xs.length → backB xs k = true then none else some "back"
    else some "tie"
  else some "count"
def due : Sh → Option Str
  | .lst xs => dueS xs
  | .tup xs => dueS xs
  | _ => some "row"
def items : Sh → List V
  | .lst xs => xs
  | .tup xs => xs
  | _ => []
def Known (H : Hp) (xs : List V) : Prop := ∀ x ∈ xs, ∃ s, Is H x s
theorem Known.keep {H H' : Hp} {xs : List V} (h : Known H xs) (S : Same H H') : Known H' xs := fun x hx => by
  obtain ⟨s, q⟩ := h x hx
  exact ⟨s, q.keep S⟩
/-- what stands behind a due of none -/
structure GoodB (ns : List Int) : Prop where
  lo : 2 ≤ ns.length
  hi : ns.length ≤ 4
  rng : ∀ n ∈ ns, 0 ≤ n ∧ n < (ns.length : Nat)
  inv : ∀ (k : Nat) (b : Int), ns[k]? = some b → ns[b.toNat]? = some (k : Int)
theorem whole_int {x : V} {hi : Int} (h : wholeB x 0 hi = true) : ∃ n : Int, x = .int n ∧ 0 ≤ n ∧ n ≤ hi := by
  cases x with
  | int i =>
    have h' : (decide (0 ≤ i) && decide (i ≤ hi)) = true := h
    obtain ⟨h1, h2⟩ := Bool.and_eq_true_iff.mp h'
    exact ⟨i, rfl, of_decide_eq_true h1, of_decide_eq_true h2⟩
  | _ => cases h
theorem whole_of {n hi : Int} (h : 0 ≤ n) (h2 : n ≤ hi) : wholeB (.int n) 0 hi = true := by
  show (decide (0 ≤ n) && decide (n ≤ hi)) = true
  rw [decide_eq_true h, decide_eq_true h2]
  rfl
theorem all_ints {hi : Int} : ∀ {xs : List V}, (∀ x ∈ xs, wholeB x 0 hi = true) → ∃ ns : List Int, xs = ns.map V.int ∧ ∀ n ∈ ns, 0 ≤ n ∧ n ≤ hi
  | [], _ => ⟨[], rfl, fun n h => by cases h⟩
  | x :: xs, h => by
    obtain ⟨n, rfl, h1, h2⟩ := whole_int (h x List.mem_cons_self)
    obtain ⟨ns, rfl, q⟩ := all_ints (xs := xs) fun y hy => h y (List.mem_cons_of_mem _ hy)
    refine ⟨n :: ns, rfl, fun m hm => ?_⟩
    rcases List.mem_cons.mp hm with rfl | hm
    · exact ⟨h1, h2⟩
    · exact q m hm
theorem ints_at {ns : List Int} {k : Nat} {b : Int} (h : ns[k]? = some b) : (ns.map V.int)[k]? = some (V.int b) := by
  rw [List.getElem?_map, h]
  rfl
theorem backB_iff {ns : List Int} {k : Nat} {b : Int} (h : ns[k]? = some b) : backB (ns.map V.int) k = decide (ns[b.toNat]? = some (k : Int)) := by
  unfold backB
  rw [ints_at h]
  show decide ((ns.map V.int)[b.toNat]? = some (V.int (k : Nat))) = _
  rw [List.getElem?_map]
  cases e : ns[b.toNat]? with
  | none => simp
  | some c => simp
theorem good_of {xs : List V} (h : dueS xs = none) : ∃ ns : List Int, xs = ns.map V.int ∧ GoodB ns := by
  unfold dueS at h
  split at h
  · rename_i h1
    split at h
    · rename_i h2
      split at h
      · rename_i h3
        obtain ⟨ns, rfl, q⟩ := all_ints h2
        rw [List.length_map] at h1 h3 q
        refine ⟨ns, rfl, h1.1, h1.2, fun n hn => ⟨(q n hn).1, by have := (q n hn).2; omega⟩, fun k b hb => ?_⟩
        have hk := (List.getElem?_eq_some_iff.mp hb).1
        have z := h3 k hk
        rw [backB_iff hb] at z
        exact of_decide_eq_true z
      · cases h
    · cases h
  · cases h
theorem due_of {ns : List Int} (g : GoodB ns) : dueS (ns.map V.int) = none := by
  unfold dueS
  rw [List.length_map, if_pos ⟨g.lo, g.hi⟩, if_pos, if_pos]
  · intro k hk
    obtain ⟨b, hb⟩ : ∃ b, ns[k]? = some b := ⟨ns[k], List.getElem?_eq_getElem hk⟩
    rw [backB_iff hb]
    exact decide_eq_true (g.inv k b hb)
  · intro x hx
    obtain ⟨n, hn, rfl⟩ := List.mem_map.mp hx
    have := g.rng n hn
    exact whole_of this.1 (by omega)
theorem Tells.mono {H H1 : Hp} {C : Addr} {f : Str} {v : V} {E : XK} (h : Tells H C f v E) (S : Same H H1) : Tells H1 C f v E := fun d H' n S1 e => h d H' (S.free n) (S.trans S1) e
theorem fault_count {xs : List V} (h : ¬ (2 ≤ xs.length ∧ xs.length ≤ 4)) : dueS xs = some ("count" : Str) := by
  unfold dueS
  rw [if_neg h]
theorem fault_tie {xs : List V} {x : V} (h : 2 ≤ xs.length ∧ xs.length ≤ 4) (hx : x ∈ xs) (e : wholeB x 0 ((xs.length : Nat) - 1) = false) : dueS xs = some ("tie" : Str) := by
  unfold dueS
  rw [if_pos h, if_neg]
  intro q
  rw [q x hx] at e
  cases e
theorem fault_back {xs : List V} {k : Nat} (h : 2 ≤ xs.length ∧ xs.length ≤ 4) (ha : ∀ x ∈ xs, wholeB x 0 ((xs.length : Nat) - 1) = true) (hk : k < xs.length) (e : backB xs k = false) : dueS xs = some ("back" : Str) := by
  unfold dueS
  rw [if_pos h, if_pos ha, if_neg]
  intro q
  rw [q k hk] at e
  cases e
theorem fault_none {xs : List V} (h : 2 ≤ xs.length ∧ xs.length ≤ 4) (ha : ∀ x ∈ xs, wholeB x 0 ((xs.length : Nat) - 1) = true) (e : ∀ k, k < xs.length → backB xs k = true) : dueS xs = none := by
  unfold dueS
  rw [if_pos h, if_pos ha, if_pos e]
def faultV : Option Str → V
  | none => .non
  | some w => .str w
abbrev s_ties_fault : Stmt := top 21
theorem sc_ties_fault : FnScope ["backs", "many", "back", "tie"] ["backs"] (defScope s_ties_fault) := ⟨rfl, rfl, rfl, by decide +kernel, rfl, by decide +kernel, by decide +kernel⟩
def spFault : Sp := fun vs H Q _ => ∃ (v : V) (s : Sh), vs = [v] ∧ Is H v s ∧ Known H (items s) ∧ ∀ H', Same H H' → Q (faultV (due s)) H'
abbrev s_Ties_init : Stmt := inClass (top 20) 0
theorem sc_Ties_init : FnScope ["self", "backs", "what"] ["self", "backs"] (defScope s_Ties_init) := ⟨rfl, rfl, rfl, by decide +kernel, rfl, by decide +kernel, by decide +kernel⟩
def spTies (C CB : Addr) : Sp := fun vs H Q E => ∃ (x dx : Addr) (v : V) (s : Sh), vs = [.ref x, v] ∧ H x = some (.ins C dx []) ∧ Is H v s ∧ Known H (items s) ∧ (∀ w, due s = some w → Tells H CB "what" (.str w) E) ∧
  (∀ ns, due s = none → items s = ns.map V.int → ∀ H', But x H H' → TiesAt C H' x ns → Q .non H')
section
variable {P : Program} {w : World} {K : PySem.W.Frag} {mg : Str → Option Value} {base : Heap}
theorem ok_ties_fault {f fS fW : Addr} {fd fdS fdW : FuncData} (F : Fun K "ties_fault" "ties_fault" s_ties_fault f fd) (nl : mg "len" = none) (nr : mg "range" = none) (na : mg "all" = none) (mM : ∃ t, mg "MOST_TIES" = some (.int 4 t))
    (GS : Cal P w K mg base CX0 1 "is_sequence" fS fdS ["thing"] spSeq) (GW : Cal P w K mg base CX0 1 "is_whole" fW fdW ["thing", "low", "high"] spWhole) : FnOk P w K mg base CX0 2 f fd ["backs"] spFault := by
  obtain ⟨tM, mM⟩ := mM
  refine F.ok sc_ties_fault (fun vs H Q E h => ?_) (fun cdv A outer s H vs Q E hr h => ?_)
  · obtain ⟨v, s, rfl, _⟩ := h
    rfl
  · obtain ⟨v, sh, rfl, hv, kn, k⟩ := h
    cases sh with
    | sc u =>
      refine ⟨_, (pss_cons 
  (ps_if (pt_not (pt_val (pcal GS hr pass0 (pa_cons (pv 0) pa_nil)))) (pss_one 
    (ps_ret pe_str)) pss_nil) (pss_cons 
  (ps_set (i := 1) sc_ties_fault.nd rfl (Or.inr rfl) (pe_callB call_len_seq (by rfl) nl PySem.boot_len (pa_cons (pv 0) pa_nil))) (pss_cons 
  (ps_if (pt_not (pt_chain op_le op_le pe_int (pv 1) (pe_glob (v := .int 4) rfl mM ⟨_, rfl⟩))) (pss_one 
    (ps_ret pe_str)) pss_nil) (pss_cons 
  (ps_if (pt_not (pt_val (pe_callB (cr_all rfl) (by rfl) na (by decide +kernel) (pa_cons (pe_lc (own := [("back", 2)]) (g := gName 2) (by rfl) sc_ties_fault.nd (pi_list (pv 0)) (blkOk_by (own := [("back", 2)]) (N := ["backs", "many", "back", "tie"]) (sc := defScope s_ties_fault) (by decide +kernel)) (fun _ _ _ _ _ => pg_name (i := 2) sc_ties_fault.nd rfl (Or.inl rfl)) (fun _ _ _ _ _ => pts_nil) (fun _ _ _ _ _ => (pcal GW hr pass0 (pa_cons (pv 2) (pa_cons pe_int (pa_cons (pe_op op_sub (pv 1) pe_int) pa_nil)))))) pa_nil)))) (pss_one 
    (ps_ret pe_str)) pss_nil) (pss_cons 
  (ps_if (pt_not (pt_val (pe_callB (cr_all rfl) (by rfl) na (by decide +kernel) (pa_cons (pe_lc (own := [("tie", 3)]) (g := gName 3) (by rfl) sc_ties_fault.nd (pi_range1 (by rfl) nr (pa_cons (pv 1) pa_nil)) (blkOk_by (own := [("tie", 3)]) (N := ["backs", "many", "back", "tie"]) (sc := defScope s_ties_fault) (by decide +kernel)) (fun _ _ _ _ _ => pg_name (i := 3) sc_ties_fault.nd rfl (Or.inl rfl)) (fun _ _ _ _ _ => pts_nil) (fun _ _ _ _ _ => (pe_cmpR op_eq (pe_ix (r := rIxL K) ix_list (pv 0) (pe_ix (r := rIxL K) ix_list (pv 0) (pv 3) (fun _ _ => rfl)) (fun _ _ => rfl)) (pv 3) (nomark _)))) pa_nil)))) (pss_one 
    (ps_ret pe_str)) pss_nil) (pss_one 
  (ps_ret pe_non))))))), ?_⟩
      exact ⟨_, rfl, _, (.sc u), rfl, hv, fun H1 S1 => ⟨_, rfl, iteT (k _ S1)⟩⟩
    | dk =>
      refine ⟨_, (pss_cons 
  (ps_if (pt_not (pt_val (pcal GS hr pass0 (pa_cons (pv 0) pa_nil)))) (pss_one 
    (ps_ret pe_str)) pss_nil) (pss_cons 
  (ps_set (i := 1) sc_ties_fault.nd rfl (Or.inr rfl) (pe_callB call_len_seq (by rfl) nl PySem.boot_len (pa_cons (pv 0) pa_nil))) (pss_cons 
  (ps_if (pt_not (pt_chain op_le op_le pe_int (pv 1) (pe_glob (v := .int 4) rfl mM ⟨_, rfl⟩))) (pss_one 
    (ps_ret pe_str)) pss_nil) (pss_cons 
  (ps_if (pt_not (pt_val (pe_callB (cr_all rfl) (by rfl) na (by decide +kernel) (pa_cons (pe_lc (own := [("back", 2)]) (g := gName 2) (by rfl) sc_ties_fault.nd (pi_list (pv 0)) (blkOk_by (own := [("back", 2)]) (N := ["backs", "many", "back", "tie"]) (sc := defScope s_ties_fault) (by decide +kernel)) (fun _ _ _ _ _ => pg_name (i := 2) sc_ties_fault.nd rfl (Or.inl rfl)) (fun _ _ _ _ _ => pts_nil) (fun _ _ _ _ _ => (pcal GW hr pass0 (pa_cons (pv 2) (pa_cons pe_int (pa_cons (pe_op op_sub (pv 1) pe_int) pa_nil)))))) pa_nil)))) (pss_one 
    (ps_ret pe_str)) pss_nil) (pss_cons 
  (ps_if (pt_not (pt_val (pe_callB (cr_all rfl) (by rfl) na (by decide +kernel) (pa_cons (pe_lc (own := [("tie", 3)]) (g := gName 3) (by rfl) sc_ties_fault.nd (pi_range1 (by rfl) nr (pa_cons (pv 1) pa_nil)) (blkOk_by (own := [("tie", 3)]) (N := ["backs", "many", "back", "tie"]) (sc := defScope s_ties_fault) (by decide +kernel)) (fun _ _ _ _ _ => pg_name (i := 3) sc_ties_fault.nd rfl (Or.inl rfl)) (fun _ _ _ _ _ => pts_nil) (fun _ _ _ _ _ => (pe_cmpR op_eq (pe_ix (r := rIxL K) ix_list (pv 0) (pe_ix (r := rIxL K) ix_list (pv 0) (pv 3) (fun _ _ => rfl)) (fun _ _ => rfl)) (pv 3) (nomark _)))) pa_nil)))) (pss_one 
    (ps_ret pe_str)) pss_nil) (pss_one 
  (ps_ret pe_non))))))), ?_⟩
      exact ⟨_, rfl, _, .dk, rfl, hv, fun H1 S1 => ⟨_, rfl, iteT (k _ S1)⟩⟩
    | lst xs =>
      obtain ⟨p, rfl, hp⟩ := hv
      refine ⟨_, (pss_cons 
  (ps_if (pt_not (pt_val (pcal GS hr pass0 (pa_cons (pv 0) pa_nil)))) (pss_one 
    (ps_ret pe_str)) pss_nil) (pss_cons 
  (ps_set (i := 1) sc_ties_fault.nd rfl (Or.inr rfl) (pe_callB call_len_seq (by rfl) nl PySem.boot_len (pa_cons (pv 0) pa_nil))) (pss_cons 
  (ps_if (pt_not (pt_chain op_le op_le pe_int (pv 1) (pe_glob (v := .int 4) rfl mM ⟨_, rfl⟩))) (pss_one 
    (ps_ret pe_str)) pss_nil) (pss_cons 
  (ps_if (pt_not (pt_val (pe_callB (cr_all rfl) (by rfl) na (by decide +kernel) (pa_cons (pe_lc (own := [("back", 2)]) (g := gName 2) (by rfl) sc_ties_fault.nd (pi_list (pv 0)) (blkOk_by (own := [("back", 2)]) (N := ["backs", "many", "back", "tie"]) (sc := defScope s_ties_fault) (by decide +kernel)) (fun _ _ _ _ _ => pg_name (i := 2) sc_ties_fault.nd rfl (Or.inl rfl)) (fun _ _ _ _ _ => pts_nil) (fun _ _ _ _ _ => (pcal GW hr pass0 (pa_cons (pv 2) (pa_cons pe_int (pa_cons (pe_op op_sub (pv 1) pe_int) pa_nil)))))) pa_nil)))) (pss_one 
    (ps_ret pe_str)) pss_nil) (pss_cons 
  (ps_if (pt_not (pt_val (pe_callB (cr_all rfl) (by rfl) na (by decide +kernel) (pa_cons (pe_lc (own := [("tie", 3)]) (g := gName 3) (by rfl) sc_ties_fault.nd (pi_range1 (by rfl) nr (pa_cons (pv 1) pa_nil)) (blkOk_by (own := [("tie", 3)]) (N := ["backs", "many", "back", "tie"]) (sc := defScope s_ties_fault) (by decide +kernel)) (fun _ _ _ _ _ => pg_name (i := 3) sc_ties_fault.nd rfl (Or.inl rfl)) (fun _ _ _ _ _ => pts_nil) (fun _ _ _ _ _ => (pe_cmpR op_eq (pe_ix (r := rIxL K) ix_list (pv 0) (pe_ix (r := rIxL K) ix_list (pv 0) (pv 3) (fun _ _ => rfl)) (fun _ _ => rfl)) (pv 3) (nomark _)))) pa_nil)))) (pss_one 
    (ps_ret pe_str)) pss_nil) (pss_one 
  (ps_ret pe_non))))))), ?_⟩
      refine ⟨_, rfl, _, .lst xs, rfl, ⟨p, rfl, hp⟩, fun H1 S1 => ⟨_, rfl, iteF ?_⟩⟩
      have h1 := S1 _ _ hp
      have kn1 : Known H1 xs := kn.keep S1
      have say : ∀ (H2 : Hp) (o : Option Str), Same H1 H2 → dueS xs = o → Q (faultV o) H2 := fun H2 o S2 e => by
        have z := k _ (S1.trans S2)
        have e2 : due (.lst xs) = o := e
        rw [e2] at z
        exact z
      refine ⟨_, rfl, p, xs, rfl, .inl (SqL.of h1), ?_⟩
      refine ⟨_, rfl, _, _, rfl, rfl, _, rfl, ?_⟩
      by_cases c1 : (2 : Int) ≤ ((xs.length : Nat) : Int)
      case neg => exact if_fa (decide_eq_false c1) ⟨_, rfl, iteT (say _ (some "count") (Same.refl _) (fault_count (by omega)))⟩
      refine if_tr (decide_eq_true c1) ⟨_, _, rfl, rfl, _, rfl, ?_⟩
      by_cases c2 : ((xs.length : Nat) : Int) ≤ 4
      case neg =>
        rw [decide_eq_false c2]
        exact iteT (say _ (some "count") (Same.refl _) (fault_count (by omega)))
      rw [decide_eq_true c2]
      refine iteF ?_
      have c12 : 2 ≤ xs.length ∧ xs.length ≤ 4 := by omega
      refine ⟨_, rfl, p, rfl, ⟨_, SqL.of h1⟩, fun D hD => ?_⟩
      refine lc_list (K := K) (a := p) (xs := xs) (fun i H2 => Same H1 H2 ∧ H1 D = none ∧ H2 D = some (.lst ((xs.take i).map fun y => V.bl (wholeB y 0 ((xs.length : Nat) - 1))))) ⟨new_same hD, hD, upd_same⟩ (fun i H2 _ ⟨S, _⟩ => SqL.of (S _ _ h1)) ?_ ?_
      · rintro i y H2 hy ⟨S2, D0, eD⟩
        have hi := (List.getElem?_eq_some_iff.mp hy).1
        obtain ⟨sy, isy⟩ := kn1 y (List.mem_of_getElem? hy)
        refine ⟨rfl, yesT ?_⟩
        refine ⟨_, rfl, _, rfl, _, _, rfl, rfl, y, sy, _, _, rfl, isy.keep S2, _, eD, small1000 (by rw [List.length_map, List.length_take]; omega), fun b o e => ?_, D0, by rw [upd_same, List.take_add_one, hy, List.map_append]; rfl⟩
        rw [upd_ne (ne_of_none e D0)]
        exact S2 _ _ e
      rintro H2 ⟨S2, D0, eD⟩
      rw [List.take_length] at eD
      refine ⟨D, xs.map fun y => wholeB y 0 ((xs.length : Nat) - 1), rfl, SqL.of (by rw [eD, List.map_map]; rfl), _, rfl, ?_⟩
      cases ea : (xs.map fun y => wholeB y 0 ((xs.length : Nat) - 1)).all id with
      | false =>
        refine iteT (say _ (some "tie") S2 ?_)
        rw [List.all_map, List.all_eq_false] at ea
        obtain ⟨x, hx, hw⟩ := ea
        exact fault_tie c12 hx (by simpa using hw)
      | true =>
        refine iteF ?_
        rw [List.all_map, List.all_eq_true] at ea
        have hall : ∀ x ∈ xs, wholeB x 0 ((xs.length : Nat) - 1) = true := fun x hx => ea x hx
        obtain ⟨ns, hns, hr2⟩ := all_ints hall
        have hln : xs.length = ns.length := by rw [hns, List.length_map]
        refine ⟨_, rfl, (xs.length : Nat), rfl, by omega, by omega, fun E' hE => ?_⟩
        refine lc_range (lo := 0) (n := xs.length) (fun i H3 => Same H2 H3 ∧ H2 E' = none ∧ H3 E' = some (.lst ((List.range i).map fun j => V.bl (backB xs j)))) ⟨new_same hE, hE, upd_same⟩ ?_ ?_
        · rintro i H3 hi ⟨S3, E0, eE⟩
          have h3 := S3 _ _ (S2 _ _ h1)
          have hi' : i < ns.length := by omega
          have hbi : ns[i]? = some ns[i] := List.getElem?_eq_getElem hi'
          have hmem := hr2 _ (List.getElem_mem hi')
          generalize ns[i] = b at hbi hmem
          have hbl : b.toNat < ns.length := by omega
          have hci : ns[b.toNat]? = some ns[b.toNat] := List.getElem?_eq_getElem hbl
          generalize ns[b.toNat] = c at hci
          have hbk := backB_iff hbi
          rw [← hns, hci] at hbk
          have val : decide (V.int c = V.int (0 + (i : Nat))) = backB xs i := by
            rw [hbk]
            by_cases z : c = (i : Int) <;> simp [z]
          refine ⟨rfl, yesT ?_⟩
          refine ⟨_, rfl, _, rfl, _, rfl, _, _, _, _, rfl, rfl, SqL.of h3, at_of (j := i) (v := .int b) (by omega) (by rw [hns]; exact ints_at hbi), _, _, _, _, rfl, rfl, SqL.of h3, at_of (j := b.toNat) (v := .int c) (by omega) (by rw [hns]; exact ints_at hci), _, rfl, rfl, _, eE, small1000 (by rw [List.length_map, List.length_range]; omega), fun b' o e => ?_, E0, ?_⟩
          · rw [upd_ne (ne_of_none e E0)]
            exact S3 _ _ e
          · rw [upd_same, val, List.range_succ, List.map_append]
            rfl
        rintro H3 ⟨S3, E0, eE⟩
        refine ⟨E', (List.range xs.length).map (backB xs), rfl, SqL.of (by rw [eE, List.map_map]; rfl), _, rfl, ?_⟩
        cases eb : ((List.range xs.length).map (backB xs)).all id with
        | false =>
          refine iteT (say _ (some "back") (S2.trans S3) ?_)
          rw [List.all_map, List.all_eq_false] at eb
          obtain ⟨j, hj, hw⟩ := eb
          exact fault_back c12 hall (List.mem_range.mp hj) (by simpa using hw)
        | true =>
          refine iteF (say _ none (S2.trans S3) ?_)
          rw [List.all_map, List.all_eq_true] at eb
          exact fault_none c12 hall fun j hj => eb j (List.mem_range.mpr hj)
    | tup xs =>
      obtain ⟨p, rfl, hp⟩ := hv
      refine ⟨_, (pss_cons 
  (ps_if (pt_not (pt_val (pcal GS hr pass0 (pa_cons (pv 0) pa_nil)))) (pss_one 
    (ps_ret pe_str)) pss_nil) (pss_cons 
  (ps_set (i := 1) sc_ties_fault.nd rfl (Or.inr rfl) (pe_callB call_len_seq (by rfl) nl PySem.boot_len (pa_cons (pv 0) pa_nil))) (pss_cons 
  (ps_if (pt_not (pt_chain op_le op_le pe_int (pv 1) (pe_glob (v := .int 4) rfl mM ⟨_, rfl⟩))) (pss_one 
    (ps_ret pe_str)) pss_nil) (pss_cons 
  (ps_if (pt_not (pt_val (pe_callB (cr_all rfl) (by rfl) na (by decide +kernel) (pa_cons (pe_lc (own := [("back", 2)]) (g := gName 2) (by rfl) sc_ties_fault.nd (pi_tup (pv 0)) (blkOk_by (own := [("back", 2)]) (N := ["backs", "many", "back", "tie"]) (sc := defScope s_ties_fault) (by decide +kernel)) (fun _ _ _ _ _ => pg_name (i := 2) sc_ties_fault.nd rfl (Or.inl rfl)) (fun _ _ _ _ _ => pts_nil) (fun _ _ _ _ _ => (pcal GW hr pass0 (pa_cons (pv 2) (pa_cons pe_int (pa_cons (pe_op op_sub (pv 1) pe_int) pa_nil)))))) pa_nil)))) (pss_one 
    (ps_ret pe_str)) pss_nil) (pss_cons 
  (ps_if (pt_not (pt_val (pe_callB (cr_all rfl) (by rfl) na (by decide +kernel) (pa_cons (pe_lc (own := [("tie", 3)]) (g := gName 3) (by rfl) sc_ties_fault.nd (pi_range1 (by rfl) nr (pa_cons (pv 1) pa_nil)) (blkOk_by (own := [("tie", 3)]) (N := ["backs", "many", "back", "tie"]) (sc := defScope s_ties_fault) (by decide +kernel)) (fun _ _ _ _ _ => pg_name (i := 3) sc_ties_fault.nd rfl (Or.inl rfl)) (fun _ _ _ _ _ => pts_nil) (fun _ _ _ _ _ => (pe_cmpR op_eq (pe_ix (r := rIxT K) ix_tup (pv 0) (pe_ix (r := rIxT K) ix_tup (pv 0) (pv 3) (fun _ _ => rfl)) (fun _ _ => rfl)) (pv 3) (nomark _)))) pa_nil)))) (pss_one 
    (ps_ret pe_str)) pss_nil) (pss_one 
  (ps_ret pe_non))))))), ?_⟩
      refine ⟨_, rfl, _, .tup xs, rfl, ⟨p, rfl, hp⟩, fun H1 S1 => ⟨_, rfl, iteF ?_⟩⟩
      have h1 := S1 _ _ hp
      have kn1 : Known H1 xs := kn.keep S1
      have say : ∀ (H2 : Hp) (o : Option Str), Same H1 H2 → dueS xs = o → Q (faultV o) H2 := fun H2 o S2 e => by
        have z := k _ (S1.trans S2)
        have e2 : due (.tup xs) = o := e
        rw [e2] at z
        exact z
      refine ⟨_, rfl, p, xs, rfl, .inr (SqT.of h1), ?_⟩
      refine ⟨_, rfl, _, _, rfl, rfl, _, rfl, ?_⟩
      by_cases c1 : (2 : Int) ≤ ((xs.length : Nat) : Int)
      case neg => exact if_fa (decide_eq_false c1) ⟨_, rfl, iteT (say _ (some "count") (Same.refl _) (fault_count (by omega)))⟩
      refine if_tr (decide_eq_true c1) ⟨_, _, rfl, rfl, _, rfl, ?_⟩
      by_cases c2 : ((xs.length : Nat) : Int) ≤ 4
      case neg =>
        rw [decide_eq_false c2]
        exact iteT (say _ (some "count") (Same.refl _) (fault_count (by omega)))
      rw [decide_eq_true c2]
      refine iteF ?_
      have c12 : 2 ≤ xs.length ∧ xs.length ≤ 4 := by omega
      refine ⟨_, rfl, p, rfl, ⟨_, SqT.of h1⟩, fun D hD => ?_⟩
      refine lc_tup (K := K) (a := p) (xs := xs) (fun i H2 => Same H1 H2 ∧ H1 D = none ∧ H2 D = some (.lst ((xs.take i).map fun y => V.bl (wholeB y 0 ((xs.length : Nat) - 1))))) ⟨new_same hD, hD, upd_same⟩ (fun i H2 _ ⟨S, _⟩ => SqT.of (S _ _ h1)) ?_ ?_
      · rintro i y H2 hy ⟨S2, D0, eD⟩
        have hi := (List.getElem?_eq_some_iff.mp hy).1
        obtain ⟨sy, isy⟩ := kn1 y (List.mem_of_getElem? hy)
        refine ⟨rfl, yesT ?_⟩
        refine ⟨_, rfl, _, rfl, _, _, rfl, rfl, y, sy, _, _, rfl, isy.keep S2, _, eD, small1000 (by rw [List.length_map, List.length_take]; omega), fun b o e => ?_, D0, by rw [upd_same, List.take_add_one, hy, List.map_append]; rfl⟩
        rw [upd_ne (ne_of_none e D0)]
        exact S2 _ _ e
      rintro H2 ⟨S2, D0, eD⟩
      rw [List.take_length] at eD
      refine ⟨D, xs.map fun y => wholeB y 0 ((xs.length : Nat) - 1), rfl, SqL.of (by rw [eD, List.map_map]; rfl), _, rfl, ?_⟩
      cases ea : (xs.map fun y => wholeB y 0 ((xs.length : Nat) - 1)).all id with
      | false =>
        refine iteT (say _ (some "tie") S2 ?_)
        rw [List.all_map, List.all_eq_false] at ea
        obtain ⟨x, hx, hw⟩ := ea
        exact fault_tie c12 hx (by simpa using hw)
      | true =>
        refine iteF ?_
        rw [List.all_map, List.all_eq_true] at ea
        have hall : ∀ x ∈ xs, wholeB x 0 ((xs.length : Nat) - 1) = true := fun x hx => ea x hx
        obtain ⟨ns, hns, hr2⟩ := all_ints hall
        have hln : xs.length = ns.length := by rw [hns, List.length_map]
        refine ⟨_, rfl, (xs.length : Nat), rfl, by omega, by omega, fun E' hE => ?_⟩
        refine lc_range (lo := 0) (n := xs.length) (fun i H3 => Same H2 H3 ∧ H2 E' = none ∧ H3 E' = some (.lst ((List.range i).map fun j => V.bl (backB xs j)))) ⟨new_same hE, hE, upd_same⟩ ?_ ?_
        · rintro i H3 hi ⟨S3, E0, eE⟩
          have h3 := S3 _ _ (S2 _ _ h1)
          have hi' : i < ns.length := by omega
          have hbi : ns[i]? = some ns[i] := List.getElem?_eq_getElem hi'
          have hmem := hr2 _ (List.getElem_mem hi')
          generalize ns[i] = b at hbi hmem
          have hbl : b.toNat < ns.length := by omega
          have hci : ns[b.toNat]? = some ns[b.toNat] := List.getElem?_eq_getElem hbl
          generalize ns[b.toNat] = c at hci
          have hbk := backB_iff hbi
          rw [← hns, hci] at hbk
          have val : decide (V.int c = V.int (0 + (i : Nat))) = backB xs i := by
            rw [hbk]
            by_cases z : c = (i : Int) <;> simp [z]
          refine ⟨rfl, yesT ?_⟩
          refine ⟨_, rfl, _, rfl, _, rfl, _, _, _, _, rfl, rfl, SqT.of h3, at_of (j := i) (v := .int b) (by omega) (by rw [hns]; exact ints_at hbi), _, _, _, _, rfl, rfl, SqT.of h3, at_of (j := b.toNat) (v := .int c) (by omega) (by rw [hns]; exact ints_at hci), _, rfl, rfl, _, eE, small1000 (by rw [List.length_map, List.length_range]; omega), fun b' o e => ?_, E0, ?_⟩
          · rw [upd_ne (ne_of_none e E0)]
            exact S3 _ _ e
          · rw [upd_same, val, List.range_succ, List.map_append]
            rfl
        rintro H3 ⟨S3, E0, eE⟩
        refine ⟨E', (List.range xs.length).map (backB xs), rfl, SqL.of (by rw [eE, List.map_map]; rfl), _, rfl, ?_⟩
        cases eb : ((List.range xs.length).map (backB xs)).all id with
        | false =>
          refine iteT (say _ (some "back") (S2.trans S3) ?_)
          rw [List.all_map, List.all_eq_false] at eb
          obtain ⟨j, hj, hw⟩ := eb
          exact fault_back c12 hall (List.mem_range.mp hj) (by simpa using hw)
        | true =>
          refine iteF (say _ none (S2.trans S3) ?_)
          rw [List.all_map, List.all_eq_true] at eb
          exact fault_none c12 hall fun j hj => eb j (List.mem_range.mpr hj)
theorem ok_Ties_init {f C CB fC fI : Addr} {fd fdC fdI : FuncData} (F : Fun K "__init__" "Ties.__init__" s_Ties_init f fd) (T : TiC K C) (nl : mg "len" = none) (nt : mg "tuple" = none)
    (GF : Cal P w K mg base CX0 2 "ties_fault" fC fdC ["backs"] spFault) (GB : Ex P w K mg base "BadTies" "what" CB fI fdI ["self", "what"]) : FnOk P w K mg base (L2.CX P w) 4 f fd ["self", "backs"] (spTies C CB) := by
  refine F.okX sc_Ties_init (fun vs H Q E h => ?_) (fun cdv A outer s H vs Q E hr h => ?_)
  · obtain ⟨x, dx, v, s, rfl, _⟩ := h
    rfl
  · obtain ⟨x, dx, v, sh, rfl, hx, hv, kn, k1, k2⟩ := h
    refine ⟨_, (pss_cons 
  (ps_set (i := 2) sc_Ties_init.nd rfl (Or.inl rfl) (pcal GF hr pass0 (pa_cons (pv 1) pa_nil))) (pss_cons 
  (ps_if (pt_cmpR op_notN (pv 2) pe_non (nomark _)) (pss_one 
    (ps_raise rfl (takes_of rfl rfl rfl rfl) (pmk_oex GB.o GB.i GB.t GB.F (hr.mono (by decide)) GB.b .nil pass0 rfl GB.m (pa_cons (pv 2) pa_nil)))) pss_nil) (pss_cons 
  (ps_fld (pv 0) (pe_callTy (T := "tuple") (r := fun xs H Q => ∃ p ys, xs = [.ref p] ∧ ((SqL K H p ys ∧ ∀ l, H l = none → Q (.ref l) (upd H l (.tup ys))) ∨ (SqT K H p ys ∧ Q (.ref p) H))) call_tuple_of (by rfl) nt (by decide +kernel) (pa_cons (pv 1) pa_nil)) rfl) (pss_one 
  (ps_fld (pv 0) (pe_callB call_len_seq (by rfl) nl PySem.boot_len (pa_cons (pe_fld (pv 0) rfl) pa_nil)) rfl))))), ?_⟩
    refine ⟨_, rfl, v, sh, rfl, hv, kn, fun H1 S1 => ?_⟩
    have k1' := k1
    cases hd : due sh with
    | some u =>
      refine ⟨_, rfl, rfl, _, rfl, if_tr (by simp [faultV]) ⟨_, rfl, mkO_of ((k1 u hd).mono S1)⟩⟩
    | none =>
      refine ⟨_, rfl, rfl, _, rfl, if_fa (by simp [faultV]) ?_⟩
      have hx1 := S1 _ _ hx
      cases sh with
      | sc u => cases hd
      | dk => cases hd
      | lst xs =>
        obtain ⟨p, rfl, hp⟩ := hv
        obtain ⟨ns, e, g⟩ := good_of hd
        subst e
        have npx : p ≠ x := ne_of hp hx (by intro z; cases z)
        have h1 := S1 _ _ hp
        refine ⟨_, rfl, p, _, rfl, .inl ⟨SqL.of h1, fun t ht => ?_⟩⟩
        have ntx : t ≠ x := (ne_of_none hx1 ht).symm
        refine ⟨_, rfl, x, C, dx, [], rfl, (by rw [upd_ne ntx.symm]; exact hx1), T.cl, T.nB, (by show 0 < 1000; decide), ?_⟩
        refine ⟨_, rfl, x, C, dx, _, _, rfl, upd_same, T.cl, T.nB, (by rw [lookup_putF, if_pos rfl]), t, _, rfl, .inr (SqT.of (by rw [upd_ne ntx, upd_same])), ?_⟩
        refine ⟨_, rfl, x, C, dx, _, rfl, upd_same, T.cl, T.nM, (by show 1 < 1000; decide), ?_⟩
        refine k2 ns hd rfl _ (fun b o nb eb => ?_) ⟨dx, t, by rw [upd_same, List.length_map]; rfl, by rw [upd_ne ntx, upd_ne ntx, upd_same]⟩
        have e1 := S1 _ _ eb
        rw [upd_ne nb, upd_ne nb, upd_ne (ne_of_none e1 ht)]
        exact e1
      | tup xs =>
        obtain ⟨p, rfl, hp⟩ := hv
        obtain ⟨ns, e, g⟩ := good_of hd
        subst e
        have npx : p ≠ x := ne_of hp hx (by intro z; cases z)
        have h1 := S1 _ _ hp
        refine ⟨_, rfl, p, _, rfl, .inr ⟨SqT.of h1, ?_⟩⟩
        refine ⟨_, rfl, x, C, dx, [], rfl, hx1, T.cl, T.nB, (by show 0 < 1000; decide), ?_⟩
        refine ⟨_, rfl, x, C, dx, _, _, rfl, upd_same, T.cl, T.nB, (by rw [lookup_putF, if_pos rfl]), p, _, rfl, .inr (SqT.of (by rw [upd_ne npx]; exact h1)), ?_⟩
        refine ⟨_, rfl, x, C, dx, _, rfl, upd_same, T.cl, T.nM, (by show 1 < 1000; decide), ?_⟩
        refine k2 ns hd rfl _ (fun b o nb eb => ?_) ⟨dx, p, by rw [upd_same, List.length_map]; rfl, by rw [upd_ne npx, upd_ne npx]; exact h1⟩
        rw [upd_ne nb, upd_ne nb]
        exact S1 _ _ eb
end
end J

set_option Elab.async false
set_option linter.all false
set_option maxRecDepth 100000
set_option maxHeartbeats 4000000
namespace J
open PySem PySem.Spec PyProof.Rows L2
def wordV : Option Str → V
  | none => .non
  | some w => .str w
def spDueX : Sp := fun vs H Q E => ∃ (v : V) (s : Sh), vs = [v] ∧ Is H v s ∧ Known H (items s) ∧ ∀ H', Same H H' → Q (wordV (due s)) H'
theorem dueS_count {xs : List V} (h : ¬ (2 ≤ xs.length ∧ xs.length ≤ 4)) : dueS xs = some ("count" : Str) := by
  unfold dueS
  rw [if_neg h]
theorem dueS_tie {xs : List V} {x : V} (h : 2 ≤ xs.length ∧ xs.length ≤ 4) (hx : x ∈ xs) (e : wholeB x 0 ((xs.length : Nat) - 1) = false) : dueS xs = some ("tie" : Str) := by
  unfold dueS
  rw [if_pos h, if_neg]
  intro q
  rw [q x hx] at e
  cases e
theorem dueS_back {xs : List V} {k : Nat} (h : 2 ≤ xs.length ∧ xs.length ≤ 4) (ha : ∀ x ∈ xs, wholeB x 0 ((xs.length : Nat) - 1) = true) (hk : k < xs.length) (e : backB xs k = false) : dueS xs = some ("back" : Str) := by
  unfold dueS
  rw [if_pos h, if_pos ha, if_neg]
  intro q
  rw [q k hk] at e
  cases e
theorem dueS_none {xs : List V} (h : 2 ≤ xs.length ∧ xs.length ≤ 4) (ha : ∀ x ∈ xs, wholeB x 0 ((xs.length : Nat) - 1) = true) (e : ∀ k, k < xs.length → backB xs k = true) : dueS xs = none := by
  unfold dueS
  rw [if_pos h, if_pos ha, if_pos e]
theorem whole_lo {n lo hi : Int} (h : ¬ lo ≤ n) : wholeB (.int n) lo hi = false := by
  show (decide (lo ≤ n) && decide (n ≤ hi)) = false
  rw [decide_eq_false h]
  rfl
theorem whole_hi {n lo hi : Int} (h : ¬ n ≤ hi) : wholeB (.int n) lo hi = false := by
  show (decide (lo ≤ n) && decide (n ≤ hi)) = false
  rw [decide_eq_false h, Bool.and_false]
theorem is_new {K : PySem.W.Frag} {H : Hp} {x : V} {s : Sh} {p : Addr} (hx : Is H x s) (hp : H p = none) : ∃ t : String, TyX K (upd H p (.tup [.ty "list", .ty "tuple"])) x (.type t) ∧ PySem.W.kitAny K (.type t) [.type "list", .type "tuple"] = some (s.isL || s.isT) := by
  obtain ⟨t, ht, _, _, k1, k2⟩ := (hx.keep (new_same hp)).ty (K := K)
  exact ⟨t, ht, kit_seq k1 k2⟩
theorem isi_seq2 {K : PySem.W.Frag} {H : Hp} {x : V} {s : Sh} {Q : VK} {p : Addr} (hx : Is H x s) (hp : H p = none) (k : ∀ H', Same H H' → Q (.bl (s.isL || s.isT)) H') : rIsiT K [x, .ref p] (upd H p (.tup [.ty "list", .ty "tuple"])) Q := (isi_seq hx k).2 p hp
section
variable {P : Program} {w : World} {K : PySem.W.Frag} {mg : Str → Option Value} {base : Heap}
end
end J

set_option Elab.async false
set_option linter.all false
set_option maxRecDepth 100000
set_option maxHeartbeats 4000000
namespace J
open PySem PySem.Spec PyProof.Rows L2
/-! ### calls that may raise, within a try -/
section
variable {X : Cx} {CX : CXT} {k : Nat} {f C : Addr} {fd : FuncData} {ps : List Str} {sp : Sp} {E : L2.St → XK} {x m : Str} {p pos apos : Pos} {e o : Expr} {es : List Expr} {ta : TE} {t : TA}
def tMethS (m : Str) (sp : Sp) (C : Addr) (E : L2.St → XK) (ta : TE) (t : TA) : TE := fun σ H Q => ta σ H fun x H1 => ∃ a dx fs, x = .ref a ∧ H1 a = some (.ins C dx fs) ∧ fs.lookup m = none ∧ t σ H1 fun vs H2 => sp (.ref a :: vs) H2 Q (E σ)
theorem pmetS {pl : Sem Bool} (he : PE X o ta) (c : Cls X.K C) (hm : Meth X.K C m f) (F : FnOk X.prog X.w X.K X.mg X.base CX k f fd ps sp) (hr : Room k X.A) (hb : Binds X.K fd ps [])
    (hx : ∀ σ, PassesAt CX X σ (E σ)) (ha : PA X (e :: es) t)
    (hst : starEach (e :: es) X.env = (false, eval e X.env) :: starEach es X.env := by rfl)
    (hpl : (backTo pos (starEach es X.env)).any (·.1) = false := by rfl)
    (ht : eval (.Call (.Attribute o m apos) (e :: es) [] pos) X.env = (do let ov ← eval o X.env; standAt apos.atName; let (f, first) ← holding [ov] (getMethod ov m pl); callWith pos f first (backTo pos (starEach (e :: es) X.env)) (backToKw pos (keywordEach [] X.env))) := by rfl) :
    PE X (.Call (.Attribute o m apos) (e :: es) [] pos) (tMethS m sp C E ta t) := by
  constructor
  intro pins s σ H Q I h
  refine PySem.W.methodCall_KW (pl := pl) (thn (he.run pins s σ H _ I h) ?_) ht
  rintro u s1 ⟨x, H1, I1, rx, a, dx, fs, ex, ea, l, q⟩
  subst ex
  obtain rfl : u = Value.ref a := rx
  apply getmeth_ok I1 ea c hm l
  refine PySem.W.callWith_K (first := [.ref a]) (h₀ := X.base) I.ok.mod.kin hm.kp (thn (ha.run pos pins s1 σ H1 _ I1 q) ?_) hst hpl
  rintro us s2 ⟨vs, H2, I2, r, q2⟩
  refine ⟨I2.kIn, ?_⟩
  exact run_fnS (us := .ref a :: us) (vs := .ref a :: vs) F hr hb (hx σ) I2 (.cons rfl r) q2
def tMakeS (C : Addr) (sp : Sp) (E : L2.St → XK) (t : TA) : TE := fun σ H Q => t σ H fun vs H1 => ∀ x dx, H1 x = none → H1 dx = none → dx ≠ x → sp (.ref x :: vs) (upd (upd H1 dx (.own x)) x (.ins C dx [])) (fun v H2 => v = .non ∧ Q (.ref x) H2) (E σ)
theorem pmakS (M : Mk X.K C f) (F : FnOk X.prog X.w X.K X.mg X.base CX k f fd ps sp) (hr : Room (k + 1) X.A) (hg : Gl X x) (hm : X.mg x = some (.ref C)) (hb : Binds X.K fd ps []) (hx : ∀ σ, PassesAt CX X σ (E σ))
    (ha : PA X (e :: es) t) (hdb : (x == ("__debug__" : Str)) = false := by decide)
    (he : starEach (e :: es) X.env = (false, eval e X.env) :: starEach es X.env := by rfl)
    (hpl : (backTo pos (starEach es X.env)).any (·.1) = false := by rfl) :
    PE X (.Call (.Name x p) (e :: es) [] pos) (tMakeS C sp E t) := by
  constructor
  intro pins s σ H Q I h
  refine wpAny_Call_Name_kw (ld_glob I hg hm ?_ hdb)
  refine PySem.W.callWith_K (h₀ := X.base) I.ok.mod.kin M.kp (thn (ha.run pos pins s σ H _ I h) ?_) he hpl
  rintro us s1 ⟨vs, H1, I1, r, q⟩
  refine ⟨I1.kIn, ?_⟩
  have hq := q (s1.heap.objs.size + 1) s1.heap.objs.size (I1.hok.fresh (Nat.le_succ _)) (I1.hok.fresh (Nat.le_refl _)) (Nat.ne_of_lt (Nat.lt_succ_self _))
  have I2 := Inv.made (C := C) I1
  have r2 : Vals (V.ref (s1.heap.objs.size + 1) :: vs) (Value.ref (s1.heap.objs.size + 1) :: us) := .cons rfl r
  have hl : (Value.ref (s1.heap.objs.size + 1) :: us).length = ps.length := by
    rw [← r2.length]
    exact F.len _ _ _ _ hq
  have bd := hb _ (Value.ref (s1.heap.objs.size + 1) :: us) I2.kIn (by rw [List.append_nil]; exact hl)
  rw [List.append_nil] at bd
  have run := F.run _ X.stack _ _ ⟨Value.ref (s1.heap.objs.size + 1) :: us, []⟩ (Value.ref (s1.heap.objs.size + 1) :: us) _ _ (E σ) (hr.make C us []) (I2.env0.make C us []) bd r2 hq
  refine wpAny_call (make_map (f := f) I1.kIn M.makes M.init (beq_iff_eq.mp M.fn) (codeAny_mono run ?_))
  intro r s' hq'
  rcases r with er | fl
  · exact hx σ pins _ _ er s' I2 hq'
  · cases fl with
    | ret u =>
      obtain ⟨v, H', I3, rv, ev, q3⟩ := I2.after hq'
      subst ev
      exact ⟨rv, V.ref (s1.heap.objs.size + 1), H', I3, rfl, q3⟩
    | next => exact hq'.elim
    | brk => exact hq'.elim
    | cont => exact hq'.elim
end
/-! ### == by the text's own __eq__ -/
def rEqOwn (C : Addr) (sp : Sp) (E : XK) : R2 := fun x y H Q => ∃ a b dx fs, x = .ref a ∧ y = .ref b ∧ H a = some (.ins C dx fs) ∧ ((∃ dy gs, H b = some (.ins C dy gs)) ∨ ∃ ys, H b = some (.tup ys)) ∧ sp [x, y] H (fun v H' => (∃ c, v = .bl c) ∧ Q v H') E
theorem op_eqOwn {X : Cx} {CX : CXT} {n : Nat} {C f : Addr} {fd : FuncData} {ps : List Str} {sp : Sp} {E : XK} (F : FnOk X.prog X.w X.K X.mg X.base CX n f fd ps sp)
    (hs : PySem.W.findIn X.K (.ref C) "__eq__" = some (some (.ref f))) (hf : PySem.W.isFn X.K (.ref f) = true) (hb : Binds X.K fd ps []) (hx : Passes CX X E) (hr : Room n X.A)
    (hn : PySem.W.notFirst X.K C (.type "tuple") = true) : OpR X (compareOp .Eq) (rEqOwn C sp E) := by
  intro pins s σ H x y v u Q I rx ry ⟨a, b, dx, fs, ex, ey, ha, hy, q⟩
  subst ex
  subst ey
  obtain rfl : v = Value.ref a := rx
  obtain rfl : u = Value.ref b := ry
  show wpAny (model X.prog X.w) X.A (richCompare .Eq (.ref a) (.ref b)) (EP X pins σ Q) X.xe s
  obtain ⟨mA, J, _⟩ := ins_get I.hok ha
  obtain ⟨od, J, _⟩ := J.look
  obtain ⟨m, hF⟩ := I.fr
  have r2 : Vals [V.ref a, V.ref b] [Value.ref a, Value.ref b] := .cons rfl (.cons rfl .nil)
  have fin : wpAny (model X.prog X.w) X.A (call (.ref f) [.ref a, .ref b]) (PySem.W.CmpBack (EP X pins σ Q)) X.xe s := by
    refine wpAny_mono (run_fn (dvs := []) (ds := []) (us := [.ref a, .ref b]) (vs := [.ref a, .ref b]) F hr hb .nil hx I r2 q) ?_ fun _ _ z => z
    rintro w s' ⟨z, H', I', rz, ⟨c, rfl⟩, qz⟩
    obtain rfl : w = Value.bool c := rz
    exact ⟨V.bl c, H', I', rfl, qz⟩
  rcases hy with ⟨dy, gs, hb'⟩ | ⟨ys, hb'⟩
  · obtain ⟨mB, J', _⟩ := ins_get I.hok hb'
    obtain ⟨od', J', _⟩ := J'.look
    exact PySem.W.cmp_K (op := .Eq) (tb := .ref C) hr.units0 hF I.ok.mod.kin J J'.type (by simp [PySem.W.notFirst]) hs hf fin
  · obtain ⟨its, rv, ⟨o, h1, h2, _⟩, _⟩ := I.tuple (SqT.of hb')
    have LT : PySem.W.Looks (model X.prog X.w) s.heap (typeOf (.ref b)) (.type "tuple") := fun A Q E s k q => wpAny_typeOf_ref (k _ _ h1) (by rw [h2]; exact q)
    exact PySem.W.cmp_K (op := .Eq) (tb := .type "tuple") hr.units0 hF I.ok.mod.kin J LT hn hs hf fin
/-! ### == of data -/
theorem eqv_ints : ∀ ns ms : List Int, PyData.eqvAll (ns.map PyData.int) (ms.map PyData.int) = decide (ns = ms)
  | [], [] => by simp [PyData.eqvAll]
  | [], m :: ms => by simp [PyData.eqvAll]
  | n :: ns, [] => by simp [PyData.eqvAll]
  | n :: ns, m :: ms => by
    have ih := eqv_ints ns ms
    simp only [List.map_cons, PyData.eqvAll, PyData.eqv, ih]
    by_cases h : n = m
    · by_cases h2 : ns = ms
      · simp [h, h2]
      · simp [h, h2]
    · simp [h]
theorem dp_ints {K : PySem.W.Frag} {H : Hp} : ∀ ns : List Int, DpAll K H (ns.map V.int) (ns.map PyData.int)
  | [] => .nil
  | n :: ns => .cons (.int n) (dp_ints ns)
theorem ints_lay : ∀ ns : List Int, PyData.canLayAll0 (ns.map PyData.int) = true
  | [] => by simp [PyData.canLayAll0]
  | n :: ns => by
    have ih := ints_lay ns
    simp only [List.map_cons, PyData.canLayAll0, ih, PyData.canLay0, Bool.and_self]
theorem ints_depth : ∀ ns : List Int, PyData.depthAll (ns.map PyData.int) ≤ 1
  | [] => by simp [PyData.depthAll]
  | n :: ns => by
    have ih := ints_depth ns
    simp only [List.map_cons, PyData.depthAll, PyData.depth]
    omega
theorem shaped_li (ns : List Int) : SeqAt.shaped (.list (ns.map PyData.int)) = true := by
  have h := ints_depth ns
  show (PyData.canLay0 (.list (ns.map PyData.int)) && decide (PyData.depth (.list (ns.map PyData.int)) ≤ 64)) = true
  rw [Bool.and_eq_true]
  refine ⟨by simp only [PyData.canLay0]; exact ints_lay ns, decide_eq_true ?_⟩
  simp only [PyData.depth]
  omega
theorem shaped_ti (ns : List Int) : SeqAt.shaped (.tuple (ns.map PyData.int)) = true := by
  have h := ints_depth ns
  show (PyData.canLay0 (.tuple (ns.map PyData.int)) && decide (PyData.depth (.tuple (ns.map PyData.int)) ≤ 64)) = true
  rw [Bool.and_eq_true]
  refine ⟨by simp only [PyData.canLay0]; exact ints_lay ns, decide_eq_true ?_⟩
  simp only [PyData.depth]
  omega
theorem eqv_li (ns ms : List Int) : PyData.eqv (.list (ns.map PyData.int)) (.list (ms.map PyData.int)) = decide (ns = ms) := by
  simp only [PyData.eqv]
  exact eqv_ints ns ms
theorem eqv_ti (ns ms : List Int) : PyData.eqv (.tuple (ns.map PyData.int)) (.tuple (ms.map PyData.int)) = decide (ns = ms) := by
  simp only [PyData.eqv]
  exact eqv_ints ns ms
end J

set_option Elab.async false
set_option linter.all false
set_option maxRecDepth 100000
set_option maxHeartbeats 4000000
namespace J
open PySem PySem.Spec PyProof.Rows L2
/-! ### backs that are drawn: the mathematics -/
structure BI (m : Nat) (ns ls : List Int) : Prop where
  len : ns.length = m
  rng : ∀ n ∈ ns, 0 ≤ n ∧ n < (m : Nat)
  inv : ∀ (k : Nat) (b : Int), ns[k]? = some b → ns[b.toNat]? = some (k : Int)
  nd : ls.Nodup
  fx : ∀ z ∈ ls, 0 ≤ z ∧ z < (m : Nat) ∧ ns[z.toNat]? = some z
theorem map_erase {α β : Type} (f : α → β) : ∀ (l : List α) (k : Nat), (l.map f).eraseIdx k = (l.eraseIdx k).map f
  | [], _ => rfl
  | a :: l, 0 => rfl
  | a :: l, k + 1 => by
    show f a :: (l.map f).eraseIdx k = f a :: (l.eraseIdx k).map f
    rw [map_erase f l k]
theorem erase_mem {l : List Int} (nd : l.Nodup) {i : Nat} {a z : Int} (ha : l[i]? = some a) (hz : z ∈ l.eraseIdx i) : z ∈ l ∧ z ≠ a := by
  obtain ⟨j, hj, e⟩ := List.mem_eraseIdx_iff_getElem?.mp hz
  refine ⟨List.mem_of_getElem? e, fun q => hj ?_⟩
  subst q
  exact nd_ix nd e ha
theorem BI.step {m : Nat} {ns ls : List Int} (B : BI m ns ls) {i j : Nat} {a b : Int} (ha : ls[i]? = some a) (hb : (ls.eraseIdx i)[j]? = some b) : BI m ((ns.set a.toNat b).set b.toNat a) ((ls.eraseIdx i).eraseIdx j) := by
  have nd1 : (ls.eraseIdx i).Nodup := B.nd.sublist (List.eraseIdx_sublist ls i)
  obtain ⟨mb, nab⟩ := erase_mem B.nd ha (List.mem_of_getElem? hb)
  have ma := List.mem_of_getElem? ha
  obtain ⟨a0, a1, af⟩ := B.fx a ma
  obtain ⟨b0, b1, bf⟩ := B.fx b mb
  have nt : b.toNat ≠ a.toNat := by omega
  have la : a.toNat < ns.length := by rw [B.len]; omega
  have lb : b.toNat < ns.length := by rw [B.len]; omega
  have get : ∀ k : Nat, ((ns.set a.toNat b).set b.toNat a)[k]? = if b.toNat = k then some a else if a.toNat = k then some b else ns[k]? := fun k => by
    rw [List.getElem?_set]
    split
    · rw [List.length_set, if_pos (by omega)]
    · rw [List.getElem?_set]
      split
      · first
          | rfl
          | rw [if_pos (by omega)]
      · rfl
  refine ⟨by rw [List.length_set, List.length_set]; exact B.len, fun n hn => ?_, fun k c hc => ?_, nd1.sublist (List.eraseIdx_sublist _ j), fun z hz => ?_⟩
  · rcases List.mem_or_eq_of_mem_set hn with hn | rfl
    · rcases List.mem_or_eq_of_mem_set hn with hn | rfl
      · exact B.rng n hn
      · exact ⟨b0, b1⟩
    · exact ⟨a0, a1⟩
  · rw [get] at hc
    split at hc
    · rename_i e
      obtain rfl := Option.some.inj hc
      rw [get, if_neg nt, if_pos rfl]
      congr 1
      omega
    · rename_i e1
      split at hc
      · rename_i e2
        obtain rfl := Option.some.inj hc
        rw [get, if_pos rfl]
        congr 1
        omega
      · rename_i e2
        have q := B.inv k c hc
        rw [get, if_neg, if_neg]
        · exact q
        · intro e
          rw [← e, af] at q
          have := Option.some.inj q
          omega
        · intro e
          rw [← e, bf] at q
          have := Option.some.inj q
          omega
  · obtain ⟨z1, zb⟩ := erase_mem nd1 hb hz
    obtain ⟨z2, za⟩ := erase_mem B.nd ha z1
    obtain ⟨c0, c1, cf⟩ := B.fx z z2
    refine ⟨c0, c1, ?_⟩
    rw [get, if_neg (by omega), if_neg (by omega)]
    exact cf
def idI (m : Nat) : List Int := (List.range m).map fun i => ((i : Nat) : Int)
theorem idI_at {m k : Nat} {b : Int} (h : (idI m)[k]? = some b) : b = k ∧ k < m := by
  unfold idI at h
  rw [List.getElem?_map] at h
  have hk : k < m := by
    have q := (List.getElem?_eq_some_iff.mp (by rw [← List.getElem?_map] at h; exact h)).1
    simpa using q
  rw [List.getElem?_range hk] at h
  exact ⟨(Option.some.inj h).symm, hk⟩
theorem idI_get {m k : Nat} (h : k < m) : (idI m)[k]? = some (k : Int) := by
  unfold idI
  rw [List.getElem?_map, List.getElem?_range h]
  rfl
theorem BI.start (m : Nat) : BI m (idI m) (idI m) := by
  have mem : ∀ n ∈ idI m, 0 ≤ n ∧ n < (m : Nat) := fun n hn => by
    obtain ⟨k, hk⟩ := List.getElem?_of_mem hn
    obtain ⟨rfl, h⟩ := idI_at hk
    omega
  refine ⟨by simp [idI], mem, fun k b hb => ?_, ?_, fun z hz => ?_⟩
  · obtain ⟨rfl, h⟩ := idI_at hb
    exact idI_get (by omega)
  · unfold idI
    exact List.Pairwise.map _ (fun a b (h : a ≠ b) => by omega) List.nodup_range
  · obtain ⟨h1, h2⟩ := mem z hz
    refine ⟨h1, h2, ?_⟩
    rw [idI_get (by omega)]
    congr 1
    omega
theorem rgV_id {m : Int} (h : 0 ≤ m) : rgV 0 m = (idI m.toNat).map V.int := by
  unfold rgV idI
  rw [List.map_map, show m - 0 = m by omega]
  refine List.map_congr_left fun i _ => ?_
  show V.int (0 + (i : Int)) = V.int (i : Int)
  rw [Int.zero_add]
theorem seq_at {i : Int} {n : Nat} (h0 : 0 ≤ i) (h : i < (n : Nat)) : seqIndex? i n = some i.toNat := by
  have h1 : ixN n i = some i.toNat := by
    unfold ixN
    rw [if_pos h0, if_pos h]
  exact (ixN_seq h1).1
theorem ixN_at {i : Int} {n : Nat} (h0 : 0 ≤ i) (h : i < (n : Nat)) : ixN n i = some i.toNat := by
  unfold ixN
  rw [if_pos h0, if_pos h]
abbrev s_Lbacks : Stmt := top 43
theorem sc_Lbacks : FnScope ["_law_hand_here", "_law_many", "_law_backs_here", "_law_left", "_law_k", "_law_one", "_law_other"] ["_law_hand_here", "_law_many"] (defScope s_Lbacks) := ⟨rfl, rfl, rfl, by decide +kernel, rfl, by decide +kernel, by decide +kernel⟩
def spBacks : Sp := fun vs H Q _ => ∃ (h q : Addr) (m : Int), vs = [.ref h, .int m] ∧ 2 ≤ m ∧ m ≤ 4 ∧ Hand H h q ∧ ∀ (ns : List Int) (p : Addr) (H' : Hp), (ns.length : Nat) = m → GoodB ns → But h H H' → H p = none → H' p = some (.lst (ns.map V.int)) → Hand H' h q → Q (.ref p) H'
theorem Hand.h_ne {H : Hp} {h q p : Addr} (x : Hand H h q) (n : H p = none) : h ≠ p ∧ q ≠ p := by
  obtain ⟨cs, i, r, t, e1, e2, _⟩ := x
  exact ⟨ne_of_none e1 n, ne_of_none e2 n⟩
theorem But.put2 {h p : Addr} {H H' : Hp} {o : HO} (B : But h H H') (n : H p = none) : But h H (upd H' p o) := fun b u nb e => by
  rw [upd_ne (ne_of_none e n)]
  exact B b u nb e
section
variable {P : Program} {w : World} {K : PySem.W.Frag} {mg : Str → Option Value} {base : Heap}
theorem ok_Lbacks {f fD : Addr} {fd fdD : FuncData} (F : Fun K "_law_backs" "_law_backs" s_Lbacks f fd) (nli : mg "list" = none) (nl : mg "len" = none) (nr : mg "range" = none)
    (GD : Cal P w K mg base CX0 2 "_law_draw" fD fdD ["_law_hand_here", "_law_many"] spDraw) : FnOk P w K mg base CX0 3 f fd ["_law_hand_here", "_law_many"] spBacks := by
  refine F.ok sc_Lbacks (fun vs H Q E h => ?_) (fun cdv A outer s H vs Q E hr h => ?_)
  · obtain ⟨h, q, m, rfl, _⟩ := h
    rfl
  · obtain ⟨h, q, m, rfl, m2, m4, hh, k⟩ := h
    refine ⟨_, (pss_cons 
  (ps_set (i := 2) sc_Lbacks.nd rfl (Or.inl rfl) (pe_listRg rfl (by rfl) nli (prg_1 (by rfl) nr (pv 1)))) (pss_cons 
  (ps_set (i := 3) sc_Lbacks.nd rfl (Or.inl rfl) (pe_listRg rfl (by rfl) nli (prg_1 (by rfl) nr (pv 1)))) (pss_cons 
  (ps_for PassesOwn.never rfl (pi_range1 (by rfl) nr (pa_cons (pe_op op_fdiv (pv 1) pe_int) pa_nil)) (pg_name (i := 4) sc_Lbacks.nd rfl (Or.inl rfl)) (pss_one 
    (ps_if (pt_cmpR op_eq (pcal GD hr pass0 (pa_cons (pv 0) (pa_cons pe_int pa_nil))) pe_int (nomark _)) (pss_cons 
      (ps_set (i := 5) sc_Lbacks.nd rfl (Or.inl rfl) (pe_bm PySem.F.plainAttrs_list PySem.F.slot_list_pop PySem.F.type_list_pop mt_popAt (pv 3) (pa_cons (pcal GD hr pass0 (pa_cons (pv 0) (pa_cons (pe_callB call_len_seq (by rfl) nl PySem.boot_len (pa_cons (pv 3) pa_nil)) pa_nil))) pa_nil))) (pss_cons 
      (ps_set (i := 6) sc_Lbacks.nd rfl (Or.inl rfl) (pe_bm PySem.F.plainAttrs_list PySem.F.slot_list_pop PySem.F.type_list_pop mt_popAt (pv 3) (pa_cons (pcal GD hr pass0 (pa_cons (pv 0) (pa_cons (pe_callB call_len_seq (by rfl) nl PySem.boot_len (pa_cons (pv 3) pa_nil)) pa_nil))) pa_nil))) (pss_cons 
      (ps_asg (pv 6) (pg_sub (pv 2) (pv 5) set_list)) (pss_one 
      (ps_asg (pv 5) (pg_sub (pv 2) (pv 6) set_list)))))) pss_nil))) (pss_one 
  (ps_ret (pv 2)))))), ?_⟩
    have rg : RgOk 0 m := RgOk.of_le (by omega) (by omega) (by omega) (by omega)
    refine ⟨_, rfl, m, rfl, rg, fun p hp => ?_⟩
    refine ⟨_, rfl, m, rfl, rg, fun l hl => ?_⟩
    rw [rgV_id (by omega)]
    rw [rgV_id (by omega)] at hl
    have npl : p ≠ l := ne_of_none upd_same hl
    have hl0 : H l = none := by
      rw [upd_ne npl.symm] at hl
      exact hl
    obtain ⟨nhp, nqp⟩ := hh.h_ne hp
    obtain ⟨nhl, nql⟩ := hh.h_ne hl0
    refine ⟨_, rfl, _, _, rfl, rfl, ⟨by decide, by decide⟩, _, rfl, by omega, by omega, for_range (lo := 0) (n := (m / 2).toNat) (fun i σ H' => ∃ (ns ls : List Int) (v4 v5 v6 : Option V), σ = [some (.ref h), some (.int m), some (.ref p), some (.ref l), v4, v5, v6] ∧
        BI m.toNat ns ls ∧ m.toNat ≤ ls.length + 2 * i ∧ ls.length ≤ m.toNat ∧ But h H H' ∧ Hand H' h q ∧ H' p = some (.lst (ns.map V.int)) ∧ H' l = some (.lst (ls.map V.int)))
      ⟨idI m.toNat, idI m.toNat, none, none, none, rfl, BI.start _, by simp [idI], by simp [idI], ((But.refl h H).put2 hp).put2 hl0, (hh.put nhp nqp).put nhl nql, by rw [upd_ne npl, upd_same], upd_same⟩ ?_ ?_⟩
    · rintro i σ H1 hi ⟨ns, ls, v4, v5, v6, rfl, B, hc, lsm, b1, h1, ep, el⟩
      have hls : 2 ≤ ls.length := by omega
      refine ⟨_, rfl, h, q, 3, rfl, by decide, by decide, h1, fun v H2 v0 v3 b2 h2 => ⟨rfl, _, rfl, ?_⟩⟩
      refine ifD (fun c => ?_) (fun c => ⟨ns, ls, _, _, _, rfl, B, by omega, lsm, b1.trans b2, h2, b2 _ _ nhp.symm ep, b2 _ _ nhl.symm el⟩)
      have ep2 := b2 _ _ nhp.symm ep
      have el2 := b2 _ _ nhl.symm el
      have lml : (ls.map V.int).length = ls.length := List.length_map _
      refine ⟨_, rfl, .inl ⟨rfl, _, SqL.of el2⟩, _, rfl, _, rfl, l, _, rfl, .inl (SqL.of el2), h, q, _, rfl, by omega, by omega, h2, fun a H3 a0 a1 b3 h3 => ?_⟩
      have ep3 := b3 _ _ nhp.symm ep2
      have el3 := b3 _ _ nhl.symm el2
      rw [lml] at a1
      have hla : a.toNat < ls.length := by omega
      have hA : ls[a.toNat]? = some ls[a.toNat] := List.getElem?_eq_getElem hla
      generalize ls[a.toNat] = x at hA
      refine ⟨l, _, a, a.toNat, .int x, rfl, rfl, el3, by omega, by omega, seq_at a0 (by omega), ints_at hA, ?_⟩
      rw [map_erase]
      have e1 : (upd H3 l (.lst ((ls.eraseIdx a.toNat).map V.int))) l = some (.lst ((ls.eraseIdx a.toNat).map V.int)) := upd_same
      have ep4 : (upd H3 l (.lst ((ls.eraseIdx a.toNat).map V.int))) p = some (.lst (ns.map V.int)) := by rw [upd_ne npl]; exact ep3
      have h4 : Hand (upd H3 l (.lst ((ls.eraseIdx a.toNat).map V.int))) h q := h3.put nhl nql
      have b4 : But h H (upd H3 l (.lst ((ls.eraseIdx a.toNat).map V.int))) := ((b1.trans b2).trans b3).put2 hl0
      have le : (ls.eraseIdx a.toNat).length = ls.length - 1 := by rw [List.length_eraseIdx, if_pos hla]
      have lml2 : ((ls.eraseIdx a.toNat).map V.int).length = ls.length - 1 := by rw [List.length_map, le]
      generalize upd H3 l (.lst ((ls.eraseIdx a.toNat).map V.int)) = H4 at e1 ep4 h4 b4
      refine ⟨_, rfl, .inl ⟨rfl, _, SqL.of e1⟩, _, rfl, _, rfl, l, _, rfl, .inl (SqL.of e1), h, q, _, rfl, by omega, by omega, h4, fun b H5 b0' b1' b5 h5 => ?_⟩
      have ep5 := b5 _ _ nhp.symm ep4
      have el5 := b5 _ _ nhl.symm e1
      rw [lml2] at b1'
      have hlb : b.toNat < (ls.eraseIdx a.toNat).length := by omega
      have hB : (ls.eraseIdx a.toNat)[b.toNat]? = some (ls.eraseIdx a.toNat)[b.toNat] := List.getElem?_eq_getElem hlb
      generalize (ls.eraseIdx a.toNat)[b.toNat] = y at hB
      refine ⟨l, _, b, b.toNat, .int y, rfl, rfl, el5, by omega, by omega, seq_at b0' (by omega), ints_at hB, ?_⟩
      rw [map_erase]
      have B2 := B.step hA hB
      obtain ⟨x0, x1, _⟩ := B.fx x (List.mem_of_getElem? hA)
      obtain ⟨y0, y1, _⟩ := B.fx y (erase_mem B.nd hA (List.mem_of_getElem? hB)).1
      have lns := B.len
      have ep6 : (upd H5 l (.lst (((ls.eraseIdx a.toNat).eraseIdx b.toNat).map V.int))) p = some (.lst (ns.map V.int)) := by rw [upd_ne npl]; exact ep5
      refine ⟨_, rfl, _, rfl, _, rfl, p, _, _, x.toNat, rfl, rfl, ep6, ixN_at x0 (by rw [List.length_map]; omega), ?_⟩
      refine ⟨_, rfl, _, rfl, _, rfl, p, _, _, y.toNat, rfl, rfl, upd_same, ixN_at y0 (by rw [List.length_set, List.length_map]; omega), ?_⟩
      refine ⟨_, _, _, _, _, rfl, B2, ?_, ?_, ?_, ?_, ?_, ?_⟩
      · rw [List.length_eraseIdx, if_pos hlb, le]
        omega
      · rw [List.length_eraseIdx, if_pos hlb, le]
        omega
      · exact (((b4.trans b5).put2 hl0).put2 hp).put2 hp
      · exact (((h5.put nhl nql).put nhp nqp).put nhp nqp)
      · rw [upd_same, List.map_set, List.map_set]
      · rw [upd_ne npl.symm, upd_ne npl.symm, upd_same]
    · rintro σ H1 ⟨ns, ls, v4, v5, v6, rfl, B, hc, lsm, b1, h1, ep, el⟩
      have lns := B.len
      refine ⟨_, rfl, k ns p H1 (by omega) ⟨by omega, by omega, fun n hn => ?_, B.inv⟩ b1 hp ep h1⟩
      have := B.rng n hn
      omega
end
end J

set_option Elab.async false
set_option linter.all false
set_option maxRecDepth 100000
set_option maxHeartbeats 2000000
/-! enumerate over a tuple -/
namespace PySem
open Sem (wp)
open AutoSeq1 (wpAny_loadPart')
abbrev enumO (h : Heap) : Obj := { cls := .type "enumerate", data := .fields #[.none, .bool false, .ref h.objs.size, rawInt 0, .none, .none] }
theorem jMeetsEnum {v : Value} {o : Obj} {H0 : Heap → Prop} (B : Begins v o H0) :
    Meets (Builtin.«enumerate.__new__» ⟨[.type "enumerate", v], []⟩) (fun _ R s => H0 s.heap ∧ R (.ok (.ret (.ref (s.heap.push o).objs.size))) { s with heap := (s.heap.push o).push (enumO s.heap) }) := .of_wp fun prog w A R s h => by
  obtain ⟨hp, g, d, tk, os⟩ := s
  obtain ⟨h1, h⟩ := h
  have hsub := sub_enumerate
  have q1 : ∀ {A' : Around} {E : Value → Shared → Prop} {Q : Value → Shared → Prop}, Q (.ref hp.objs.size) ⟨hp.push o, g, d, tk, os⟩ → wpAny (model prog w) A' (pyIter v) Q E ⟨hp, g, d, tk, os⟩ := fun q => B.iter prog w _ _ ⟨hp, g, d, tk, os⟩ _ h1 q
  wp_walk
  refine wpAny_stack_any fun st => wpAny_pure ?_
  split
  · rename_i c _ _ _ _ _
    cases (c == Value.type "enumerate")
    · wp_walk using q1
      exact ⟨_, rfl, h⟩
    · wp_walk using q1
      exact ⟨_, rfl, h⟩
  · wp_walk using q1
    exact ⟨_, rfl, h⟩
theorem jEnumTup {prog : Program} {w : World} {A : Around} {E : Value → Shared → Prop} {s : Shared} {t : Addr} {items : Array Value} {Q : Value → Shared → Prop} (hT : s.heap.IsTuple t items)
    (h : ∀ h', IsEnum h' (s.heap.objs.size + 1) s.heap.objs.size 0 .none → h'.IsTupleIter s.heap.objs.size t 0 → (∀ b o, s.heap.get? b = some o → h'.get? b = some o) → Q (.ref (s.heap.objs.size + 1)) { s with heap := h' }) :
    wpAny (model prog w) A (call (.type "enumerate") [.ref t]) Q E s := by
  refine callType_new F.called_enumerate (by decide) (F.typeCall_enumerate_1 _) (F.newCall_enumerate_1 _) (fun obj => F.args_object_init_2 obj _) F.entry_enumerate_new (jMeetsEnum (begins_tuple t items)) ⟨hT, ?_⟩
  generalize eo : ({ cls := .type "tuple_iterator", data := .fields #[.ref t, .int 0 0] } : Obj) = o
  have hz : (s.heap.push o).objs.size = s.heap.objs.size + 1 := Heap.size_push ..
  show _ ∧ _
  rw [hz]
  have he : IsEnum ((s.heap.push o).push (enumO s.heap)) (s.heap.objs.size + 1) s.heap.objs.size 0 .none := by
    have q := Heap.get?_push_size (s.heap.push o) (o := enumO s.heap) rfl
    rw [hz] at q
    exact q
  refine ⟨⟨_, he, rfl⟩, h _ he ⟨o, Heap.get?_push_of_some _ (Heap.get?_push_size _ (by subst eo; rfl)), by subst eo; rfl, by subst eo; rfl⟩ fun b ob x => Heap.get?_push_of_some _ (Heap.get?_push_of_some _ x)⟩
end PySem
namespace J
open PySem PySem.Spec PyProof.Rows L2
/-- the tuple at a, its items in new pairs with their places -/
def Itet (K : PySem.W.Frag) (a : Addr) : It :=
  ⟨fun i H => ∃ (xs : List V) (x : V), SqT K H a xs ∧ xs[i]? = some x, fun i H v H' => ∃ T x, v = .ref T ∧ H T = none ∧ H' = upd H T (.tup [.int (i : Nat), x]) ∧ ∀ xs, SqT K H a xs → xs[i]? = some x, fun i H => ∃ xs : List V, SqT K H a xs ∧ xs.length = i⟩
theorem tup_apart {h : Heap} {a e it : Addr} {items : Array Value} {old : Value} {i : Nat} {c : Int} (ht : h.IsTuple a items) (he : IsEnum h e it c old) (hi : h.IsTupleIter it a i) : a ≠ it ∧ a ≠ e := by
  obtain ⟨o, ho, hc, _⟩ := ht
  obtain ⟨o2, ho2, hc2, _⟩ := hi
  refine ⟨fun q => ?_, fun q => ?_⟩
  · rw [q, ho2] at ho
    have := Option.some.inj ho
    subst this
    rw [hc2] at hc
    exact absurd hc (by decide)
  · have he' : h.get? e = _ := he
    rw [q, he'] at ho
    have := Option.some.inj ho
    subst this
    have hc2 : Value.type "enumerate" = Value.type "tuple" := hc
    injection hc2 with z
    exact absurd z (by decide)
theorem turn_enumT {P : Program} {w : World} {K : PySem.W.Frag} {elts : List Expr} {kk : Nat} {tpos : Pos} (a e it : Addr) :
    Turn P w K (.Tuple elts kk tpos) (Itet K a) [e, it] e (fun i h => (∃ old, IsEnum h e it ((i : Nat) : Int) old) ∧ h.IsTupleIter it a i ∧ e ≠ it) where
  mem := by simp
  obj := by
    rintro i h ⟨⟨old, he⟩, ⟨o, ho, hc, hd⟩, _⟩ b hb
    have e' : b = e ∨ b = it := by simpa using hb
    rcases e' with rfl | rfl
    · exact ⟨_, he, fun v q => nomatch q⟩
    · exact ⟨o, ho, fun v q => by rw [hd] at q; cases q⟩
  keep := by
    rintro i h h' ⟨⟨old, he⟩, ⟨o, ho, hr⟩, hne⟩ k
    exact ⟨⟨old, k e (by simp) _ he⟩, ⟨o, k it (by simp) _ ho, hr⟩, hne⟩
  item := by
    intro X hP hw hK hc i pins s σ H E I hf st hg
    subst hP hw hK
    obtain ⟨⟨old, he⟩, hit, hne⟩ := st
    obtain ⟨xs, x, hq, hx⟩ := hg
    obtain ⟨its, rv, p, hz⟩ := I.tuple hq
    obtain ⟨u, hu, ru⟩ := rv.get hx
    have ht : s.heap.IsTuple a its.toArray := p
    obtain ⟨n1, n2⟩ := tup_apart ht he hit
    have hel : e < s.heap.objs.size := Heap.lt_size he
    have hil : it < s.heap.objs.size := by
      obtain ⟨_, q, _⟩ := hit
      exact Heap.lt_size q
    have hlt : i < its.toArray.size := by
      have q := (List.getElem?_eq_some_iff.mp hu).1
      simpa using q
    have D := Draws.tuple (prog := X.prog) (w := X.w) (A := X.A.in1) (I.ok.hd hc) it a n1 its.toArray
    have nin : e ∉ [it, a] := by
      simp only [List.mem_cons, List.not_mem_nil, or_false, not_or]
      exact ⟨hne, fun q => n2 q.symm⟩
    refine wpAny_pyNext_enum_itemD D he ⟨hit, ht⟩ hlt hne nin ?_
    intro u2 h' tk hP ho hst hT hsz hk
    obtain rfl : u = u2 := by
      have q : its.toArray[i]? = some u2 := hP
      have q2 : its.toArray[i]? = some u := by simpa using hu
      rw [q2] at q
      exact Option.some.inj q
    refine ⟨_, rfl, wpAny_letOwnedTupleGo_enum (s := { s with heap := h', toks := tk + 1 }) ho ?_⟩
    intro h2 he2 sb
    have hT2 : h2.get? s.heap.objs.size = some { cls := .type "tuple", data := .seq #[.int i tk, u] } := (sb.2 _ (Nat.ne_of_gt hel)).trans hT
    have new : ObjOk X.prog X.w (upd H s.heap.objs.size (.tup [.int (i : Nat), x])) h2 s.heap.objs.size (.tup [.int (i : Nat), x]) :=
      ⟨by show 2 ≤ sizeLine; decide, [.int i tk, u], .cons ⟨_, rfl⟩ (.cons ru .nil), ⟨_, hT2, rfl, _, rfl⟩⟩
    have kept : ∀ (b : Addr) (ob : Obj), b ∉ [e, it] → s.heap.get? b = some ob → h2.get? b = some ob := fun b ob hb q => by
      have b1 : b ≠ e := fun z => hb (by simp [z])
      have b2 : b ≠ it := fun z => hb (by simp [z])
      exact (sb.2 b b1).trans (hk b ob b1 b2 q)
    have I1 : Inv X pins σ (upd H s.heap.objs.size (.tup [.int (i : Nat), x])) { s with heap := h2, toks := tk + 1 } := I.turnedNew (ch := [e, it]) kept hf (Nat.le_refl _) new
    refine ⟨.ref s.heap.objs.size, _, I1, rfl, ⟨_, x, rfl, I.hok.fresh (Nat.le_refl _), rfl, fun ys hy => by rw [I.tuple_inj hy hq]; exact hx⟩, ⟨⟨u, ?_⟩, hst.1.at fun o q => (sb.2 it (Ne.symm hne)).trans q, hne⟩, fun b hb => ?_⟩
    · have e1 : ((i + 1 : Nat) : Int) = (i : Int) + 1 := by omega
      rw [e1]
      exact he2
    · have hb' : b < s.heap.objs.size := by
        have e' : b = e ∨ b = it := by simpa using hb
        rcases e' with z | z
        · rw [z]
          exact hel
        · rw [z]
          exact hil
      rw [upd_ne (Nat.ne_of_lt hb')]
      exact (hf b hb).1
  done := by
    intro X hP hw hK hc i pins s σ H E I hf st hg
    subst hP hw hK
    obtain ⟨⟨old, he⟩, hit, hne⟩ := st
    obtain ⟨xs, hq, hx⟩ := hg
    obtain ⟨its, rv, p, hz⟩ := I.tuple hq
    have ht : s.heap.IsTuple a its.toArray := p
    obtain ⟨n1, n2⟩ := tup_apart ht he hit
    obtain ⟨f0, f1, f2, f3, f4, f5⟩ := hf it (by simp)
    have D := Draws.tuple (prog := X.prog) (w := X.w) (A := X.A.in1) (I.ok.hd hc) it a n1 its.toArray
    have hn : its.toArray.size = i := by
      have hl := rv.length
      simp
      omega
    refine wpAny_pyNext_enum_endD D he ⟨by rw [hn]; exact hit, ht⟩ ?_
    intro h' eb
    exact ⟨rfl, I.turned (t' := s.toks) (fun b o hb q => eb b o hb q) f0 f1 f3 f4 f5⟩
  self := fun A i s Q E ⟨⟨_, he⟩, _⟩ h => wpAny_pyIter_enum he h
def iEnumT (K : PySem.W.Frag) (ta : TA) : TI := fun σ H R => ta σ H fun vs H1 => ∃ a xs, vs = [.ref a] ∧ SqT K H1 a xs ∧ R (Itet K a) H1
theorem pi_enumT {X : Cx} {e : Expr} {ta : TA} {p pos tpos : Pos} {elts : List Expr} {kk : Nat} (hg : Gl X "enumerate") (hm : X.mg "enumerate" = none) (ha : PA X [e] ta)
    (hs : starEach [e] X.env = [(false, eval e X.env)] := by rfl) : PI X (.Tuple elts kk tpos) (.Call (.Name "enumerate" p) [e] [] pos) (iEnumT X.K ta) := by
  constructor
  intro pins s σ H R I h
  refine Call_ (ld_blt I hg hm boot_enumerate (PyProof.Rows.callWith_type1 (thn (ha.run pos pins s σ H _ I h) ?_) hs rfl))
  rintro us s1 ⟨vs, H1, I1, r1, a, xs, ex, hq, q⟩
  subst ex
  cases r1 with
  | cons r rr =>
    cases rr
    cases r
    obtain ⟨its, rv, p', hz⟩ := I1.tuple hq
    refine jEnumTup (items := its.toArray) p' ?_
    intro h' he hit hk
    refine wpAny_pyIter_enum he ?_
    have I2 : Inv X pins σ H1 { s1 with heap := h' } := I1.kept (t' := s1.toks) hk
    refine ⟨s1.heap.objs.size + 1, [s1.heap.objs.size + 1, s1.heap.objs.size], _, _, H1, rfl, I2, turn_enumT a (s1.heap.objs.size + 1) s1.heap.objs.size, ⟨⟨.none, he⟩, hit, Nat.succ_ne_self _⟩, ?_, q⟩
    intro b hb
    have e' : b = s1.heap.objs.size + 1 ∨ b = s1.heap.objs.size := by simpa using hb
    have hle : s1.heap.objs.size ≤ b := by
      rcases e' with z | z
      · rw [z]
        exact Nat.le_succ _
      · rw [z]
        exact Nat.le_refl _
    exact I1.fpOk hle (I1.hok.fresh hle)
theorem for_enumT {K : PySem.W.Frag} {a : Addr} {xs : List V} {g : TG} {tb : TS} {D : Ends} {σ : L2.St} {H : Hp} (Pv : Nat → L2.St → Hp → Prop) (h0 : Pv 0 σ H) (hl : ∀ i σ H, i ≤ xs.length → Pv i σ H → SqT K H a xs)
    (hs : ∀ i x σ H T, xs[i]? = some x → Pv i σ H → H T = none → g (.ref T) σ (upd H T (.tup [.int (i : Nat), x])) fun σ2 H2 => tb { D with nx := Pv (i + 1), ct := Pv (i + 1), bk := D.nx } σ2 H2) (hd : ∀ σ H, Pv xs.length σ H → D.nx σ H) :
    ∃ W : Nat → Nat → L2.St → Hp → Prop, (∃ m, W 0 m σ H) ∧ ∀ i m σ H, W i m σ H →
      ((Itet K a).stop i H ∧ D.nx σ H) ∨ ((Itet K a).go i H ∧ ∃ N : L2.St → Hp → Prop, (∀ σ' H', N σ' H' → ∃ m', m' < m ∧ W (i + 1) m' σ' H') ∧ ∀ x H', (Itet K a).yld i H x H' → g x σ H' fun σ2 H2 => tb { D with nx := N, ct := N, bk := D.nx } σ2 H2) := by
  refine ⟨fun i m s h => m + i = xs.length ∧ Pv i s h, ⟨xs.length, rfl, h0⟩, ?_⟩
  rintro i m σ H ⟨em, p⟩
  have hi : i ≤ xs.length := by omega
  have q := hl i σ H hi p
  rcases Nat.lt_or_ge i xs.length with hlt | hge
  · refine .inr ⟨⟨xs, xs[i], q, by simp [hlt]⟩, Pv (i + 1), fun σ' H' p' => ⟨m - 1, by omega, by omega, p'⟩, ?_⟩
    rintro x H' ⟨T, y, rfl, hT, rfl, hy⟩
    exact hs i y σ H T (hy xs q) p hT
  · have e : i = xs.length := by omega
    subst e
    exact .inl ⟨⟨xs, q, rfl⟩, hd σ H p⟩
end J

set_option Elab.async false
set_option linter.all false
set_option maxRecDepth 100000
set_option maxHeartbeats 4000000
namespace J
open PySem PySem.Spec PyProof.Rows L2
/-! ### list comprehensions of any number of clauses, none with tests -/
abbrev lcE (elt : Expr) (gens : List Comprehension) (scope : Scope) (pos : Pos) : Expr := .ListComp elt gens scope pos
section
variable {prog : Program} {w : World} {A : Around} {R : Result → Shared → Prop} {s : Shared} {elt : Expr} {gens : List Comprehension} {scope : Scope} {pos : Pos} {it acc : Value} {env : Env} {d : Nat} {t i : Expr}
/-- the raising ways of a turn -/
abbrev Nw (prog : Program) (w : World) (A : Around) (env : Env) (R : Result → Shared → Prop) : Value → Shared → Prop := notedBy (model prog w) A env fun e s' => R (.error e) s'
/-- what a turn does behind its store: the next clause, or the item -/
def Rest (prog : Program) (w : World) (A : Around) (elt : Expr) (gens : List Comprehension) (scope : Scope) (pos : Pos) (d : Nat) (acc : Value) (env : Env) (N : Value → Shared → Prop) (B : Shared → Prop) (s : Shared) : Prop :=
  match gens[d + 1]? with
  | some g => g.is_async = 0 ∧ (∀ x, foldedSetIterable g.iter env x = pure x) ∧ wpAny (model prog w) A (eval g.iter env) (fun x s1 => wpAny (model prog w) A (pyIter x) (fun it1 s2 =>
      codeAny (model prog w) A (.compStart (lcE elt gens scope pos) (d + 1) it1 acc env) (fun r s' => match r with
        | .ok _ => B s'
        | .error _ => False) s2) N s1) N s
  | none => wpAny (model prog w) A (eval elt env) (fun x s1 => wpAny (model prog w) A (call (.builtin "list.append") [acc, x]) (fun _ s2 => B s2) N s1) N s
theorem loop_at (hg : gens[d]? = some ⟨t, i, [], 0⟩) (I : Nat → Shared → Prop)
    (turn : ∀ n s, I n s → wpAny (model prog w) A (pyNext it) (fun r s₁ => match r with
      | none => R (.ok .next) s₁
      | some v => wpAny (model prog w) A (letOwnedTupleGo t it v) (fun _ s₂ => wpAny (model prog w) A (assign t env v) (fun _ s₃ => Rest prog w A elt gens scope pos d acc env (Nw prog w A env R) (fun s' => ∃ m, m < n ∧ I m s') s₃) (Nw prog w A env R) s₂) (Nw prog w A env R) s₁) (Nw prog w A env R) s)
    (n : Nat) (h : I n s) : codeAny (model prog w) A (.compLoop (lcE elt gens scope pos) d it acc env) R s := by
  refine codeAny_loop rfl I (fun n s hI => ?_) n h
  show wpAny _ A ((compTurn (lcE elt gens scope pos) d it acc env).onRaise (fun x => do noteFrame x env; theTreesLotGoes x)) _ _ s
  refine wpAny_noted ?_
  unfold compTurn lcE
  dsimp only
  rw [hg]
  dsimp only
  refine wpAny_bind (wpAny_standAt (wpAny_bind ?_))
  show wpAny _ A (pyNext it) _ _ _
  refine wpAny_mono (turn n s hI) (fun r s₁ h₁ => ?_) fun _ _ h' => h'
  cases r with
  | none => exact wpAny_pure h₁
  | some v =>
    refine wpAny_bind (wpAny_mono h₁ (fun _ s₂ h₂ => wpAny_bind (wpAny_mono h₂ (fun _ s₃ h₃ => ?_) fun _ _ h' => h')) fun _ _ h' => h')
    refine wpAny_bind ?_
    rw [List.forIn_nil]
    refine wpAny_pure ?_
    unfold Rest at h₃
    rw [if_pos rfl]
    split at h₃
    · rename_i g' eg
      rw [eg]
      obtain ⟨ha, hs, h₃⟩ := h₃
      dsimp only
      refine wpAny_bind (wpAny_mono h₃ (fun x s₄ h₄ => ?_) fun _ _ h' => h')
      refine wpAny_bind (wpAny_standAt ?_)
      have a0 : (g'.is_async != 0) = false := by rw [ha]; rfl
      simp only [a0, Bool.false_eq_true, if_false]
      refine wpAny_bind (wpAny_of_eq (hs x) (wpAny_bind (wpAny_holding (wpAny_mono h₄ (fun it1 s₅ h₅ => ?_) fun _ _ h' => h'))))
      refine wpAny_bind (wpAny_runOwn ?_)
      rw [Around.mark_none]
      refine codeAny_mono h₅ fun r s' hr => ?_
      cases r with
      | ok f =>
        first
          | exact wpAny_pure ⟨rfl, hr⟩
          | exact wpAny_bind (wpAny_pure (wpAny_pure ⟨rfl, hr⟩))
      | error e => exact hr.elim
    · rename_i eg
      rw [eg]
      exact wpAny_bind (wpAny_bind (wpAny_mono h₃ (fun x s₄ h₄ => wpAny_bind (wpAny_mono h₄ (fun _ s₅ h₅ => wpAny_pure (wpAny_pure ⟨rfl, h₅⟩)) fun _ _ h' => h')) fun _ _ h' => h'))
theorem start_at (hg : gens[d]? = some ⟨t, i, [], 0⟩) (h0 : codeAny (model prog w) A (.compLoop (lcE elt gens scope pos) d it acc env) R s)
    (h : wpAny (model prog w) A (pyIter it) (fun it' s' => codeAny (model prog w) A (.compLoop (lcE elt gens scope pos) d it' acc env) R s') (Nw prog w A env R) s) :
    codeAny (model prog w) A (.compStart (lcE elt gens scope pos) d it acc env) R s := by
  refine codeAny_of_tree ?_
  have e1 : (clausesOf (lcE elt gens scope pos))[d]? = some ⟨t, i, [], 0⟩ := hg
  show wpAny _ _ ((compStart (lcE elt gens scope pos) d it acc env).onRaise (fun x => do noteFrame x env; standAt theWindowsPlace)) _ _ s
  refine wpAny_notedAt ?_
  unfold compStart
  rw [e1]
  show wpAny _ _ (ask >>= _) _ _ s
  refine wpAny_bind (wpAny_askSetting (wpAny_ite ?_))
  split
  · first
      | exact wpAny_bind (wpAny_pure (wpAny_pure (And.intro rfl h0)))
      | exact wpAny_pure (And.intro rfl h0)
  · have fin := wpAny_mono h (fun it' s' h' => (wpAny_pure (And.intro rfl h') : wpAny (model prog w) A (again (.compLoop (lcE elt gens scope pos) d it' acc env)) (fun f s' => match f with | .done f => R (.ok f) s' | .again c' => c'.quiet = true ∧ codeAny (model prog w) A c' R s') (Nw prog w A env R) s')) fun _ _ x => x
    first
      | exact wpAny_bind (wpAny_rule (wpAny_bind (wpAny_standAt (wpAny_bind fin))))
      | (refine wpAny_bind (wpAny_rule ?_); show wpAny _ _ (standAt i.pos >>= _) _ _ s; exact wpAny_bind (wpAny_standAt (wpAny_bind fin)))
end
/-! ### in the words of the hand layer -/
abbrev TB := L2.St → Hp → (Hp → Prop) → Prop
/-- the item that is put behind the list at D -/
def bElt (te : TE) (D : Addr) : TB := fun σ H Nx => te σ H fun y H7 => ∃ acc, H7 D = some (.lst acc) ∧ acc.length < sizeLine ∧ Nx (upd H7 D (.lst (acc ++ [y])))
/-- a clause, and what stands behind it -/
def bFor (wi : TI) (g : TG) (vs : List Nat) (body : TB) : TB := fun σ H Nx => wi σ H fun J H4 => ∃ W : Nat → Nat → Hp → Prop, (∃ m, W 0 m H4) ∧ ∀ j k H, W j k H →
  (J.stop j H ∧ Nx H) ∨ (J.go j H ∧ ∃ N1 : Hp → Prop, (∀ H', N1 H' → ∃ k', k' < k ∧ W (j + 1) k' H') ∧ ∀ x H', J.yld j H x H' → g x (wipe σ vs) H' fun σ3 H5 => wipe σ3 vs = wipe σ vs ∧ body σ3 H5 N1)
/-- the body does what its word says, from a block's context; fs: the slots that it may forget -/
def Real (Y : Cx) (elt : Expr) (gens : List Comprehension) (scope : Scope) (pos : Pos) (d : Nat) (D : Addr) (fs : List Nat) (body : TB) : Prop :=
  ∀ (pins : List (Addr × Obj)) (σ : L2.St) (H : Hp) (s : Shared) (Nx : Hp → Prop) (N : Value → Shared → Prop), Inv Y pins σ H s → body σ H Nx →
    Rest Y.prog Y.w Y.A elt gens scope pos d (.ref D) Y.env N (fun s' => ∃ (σ' : L2.St) (H' : Hp), Inv Y pins σ' H' s' ∧ σ'.length = σ.length ∧ (∀ (j : Nat) v, j ∉ fs → σ[j]? = some (some v) → σ'[j]? = some (some v)) ∧ Nx H') s
section
variable {Y : Cx} {elt t i : Expr} {gens : List Comprehension} {scope : Scope} {pos : Pos} {d : Nat} {D : Addr} {te : TE} {wi : TI} {g : TG} {vs fs : List Nat} {body : TB}
theorem quiet {α : Type} {m : Sem α} {M : Model} {A : Around} {P P' : α → Shared → Prop} {E E' : Value → Shared → Prop} {s : Shared} (hE : ∀ v s, ¬ E v s) (h : wpAny M A m P E s) (hP : ∀ a s, P a s → P' a s) : wpAny M A m P' E' s := wpAny_mono h hP fun v s z => (hE v s z).elim
theorem real_elt (hx : ∀ v s, ¬ Y.xe v s) (hn : gens[d + 1]? = none) (he : PE Y elt te) : Real Y elt gens scope pos d D [] (bElt te D) := by
  intro pins σ H s Nx N I h
  unfold Rest
  rw [hn]
  refine quiet hx (he.run pins s σ H _ I h) fun z s1 ⟨yv, H1, I1, r1, acc, hD, hz, nx⟩ => ?_
  exact app_ok (X := Y) I1 hD hz r1 fun s2 I2 => ⟨σ, _, I2, rfl, fun j v _ e => e, nx⟩
theorem real_for (hx : ∀ v s, ¬ Y.xe v s) (hc : Y.calm = true) (hn : gens[d + 1]? = some ⟨t, i, [], 0⟩) (hs : ∀ x, foldedSetIterable i Y.env x = pure x) (hi : PI Y t i wi) (hg : PG Y t g) (hf : ∀ j ∈ fs, j ∈ vs)
    (hb : Real Y elt gens scope pos (d + 1) D fs body) : Real Y elt gens scope pos d D vs (bFor wi g vs body) := by
  intro pins σ H s Nx N I h
  unfold Rest
  rw [hn]
  refine ⟨rfl, hs, quiet hx (hi.run pins s σ H _ I h) fun xv s1 e1 => quiet hx e1 fun itv s2 e2 => ?_⟩
  obtain ⟨a, fp, tn, J, H2, rfl, I2, T, st2, f2, W, ⟨m0, w0⟩, turn⟩ := e2
  have stay : ∀ {H' : Hp}, (∀ b ∈ fp, H' b = none) → ∀ b ∈ fp, FpOk Y pins H' b := fun hn b hb => ⟨hn b hb, (f2 b hb).2⟩
  have wl : (wipe σ vs).length = σ.length := wipe_length _ _
  have lp : codeAny (model Y.prog Y.w) Y.A (.compLoop (lcE elt gens scope pos) (d + 1) (.ref a) (.ref D) Y.env)
      (fun r s' => match r with
        | .ok _ => ∃ (σ' : L2.St) (H' : Hp), Inv Y pins σ' H' s' ∧ σ'.length = σ.length ∧ (∀ (j : Nat) v, j ∉ vs → σ[j]? = some (some v) → σ'[j]? = some (some v)) ∧ Nx H'
        | .error _ => False) s2 := by
    refine loop_at hn (fun k s' => ∃ j H', Inv Y pins (wipe σ vs) H' s' ∧ tn j s'.heap ∧ (∀ b ∈ fp, H' b = none) ∧ W j k H') ?_ m0 ⟨0, H2, I2.weak wl (fun j v e => (wipe_some e).1), st2, fun b hb => (f2 b hb).1, w0⟩
    rintro k s3 ⟨j, H3, I3, st3, n3, w3⟩
    rcases turn j k H3 w3 with ⟨stop, nx⟩ | ⟨go, N1, hN, step⟩
    · refine quiet (fun _ _ z => z) (T.done Y rfl rfl rfl hc j pins s3 (wipe σ vs) H3 (fun _ _ => False) I3 (stay n3) st3 stop) fun r s4 ⟨hr, I4⟩ => ?_
      subst hr
      exact ⟨wipe σ vs, H3, I4, wl, fun j v hj e => by rw [wipe_out hj]; exact e, nx⟩
    · refine quiet (fun _ _ z => z) (T.item Y rfl rfl rfl hc j pins s3 (wipe σ vs) H3 (fun _ _ => False) I3 (stay n3) st3 go) fun r s4 ⟨u, hr, e4⟩ => ?_
      subst hr
      refine quiet (fun _ _ z => z) e4 fun _ s5 ⟨x, H5, I5, r5, y5, st5, n5⟩ => ?_
      have J5 := I5.pinned (stay n5) (T.obj _ _ st5)
      refine quiet hx (hg.run _ s5 (wipe σ vs) H5 x u _ J5 r5 (step x H5 y5)) fun _ s6 ⟨σ6, H6, I6, hw, q6⟩ => ?_
      have l6 : σ6.length = σ.length := by
        have := congrArg List.length hw
        rw [wipe_length, wipe_length] at this
        exact this
      have back := hb _ σ6 H6 s6 N1 (Nw Y.prog Y.w Y.A Y.env fun r s' => match r with
        | .ok _ => ∃ (σ' : L2.St) (H' : Hp), Inv Y pins σ' H' s' ∧ σ'.length = σ.length ∧ (∀ (j : Nat) v, j ∉ vs → σ[j]? = some (some v) → σ'[j]? = some (some v)) ∧ Nx H'
        | .error _ => False) I6 q6
      have fin : ∀ s', (∃ (σ' : L2.St) (H' : Hp), Inv Y (pins ++ pinsAt fp s5.heap) σ' H' s' ∧ σ'.length = σ6.length ∧ (∀ (j : Nat) v, j ∉ fs → σ6[j]? = some (some v) → σ'[j]? = some (some v)) ∧ N1 H') →
          ∃ m, m < k ∧ ∃ j H', Inv Y pins (wipe σ vs) H' s' ∧ tn j s'.heap ∧ (∀ b ∈ fp, H' b = none) ∧ W j m H' := by
        rintro s' ⟨σ', H', I', hl, hk, nx⟩
        obtain ⟨m', hm, w'⟩ := hN H' nx
        have held : ∀ b ∈ fp, ∀ o, s5.heap.get? b = some o → s'.heap.get? b = some o ∧ H' b = none := fun b hb o e =>
          ⟨(I'.pin (b, o) (List.mem_append_right _ (List.mem_append_right _ (mem_pinsAt hb e)))).1, (I'.pin (b, o) (List.mem_append_right _ (List.mem_append_right _ (mem_pinsAt hb e)))).2.1⟩
        refine ⟨m', hm, j + 1, H', I'.unpinned.weak (by rw [wl, hl, l6]) (fun n v e => ?_), T.keep _ _ _ st5 fun b hb o e => (held b hb o e).1, fun b hb => ?_, w'⟩
        · rw [← hw] at e
          obtain ⟨p1, p2⟩ := wipe_some e
          exact hk n v (fun z => p2 (hf n z)) p1
        · obtain ⟨o, e, _⟩ := T.obj _ _ st5 b hb
          exact (held b hb o e).2
      -- what the body leaves is the next turn
      unfold Rest at back ⊢
      split at back
      · rename_i g' eg
        try rw [eg]
        obtain ⟨b1, b2, b3⟩ := back
        refine ⟨b1, b2, wpAny_mono b3 (fun _ _ z => wpAny_mono z (fun _ _ y => codeAny_mono y fun r s' q => ?_) fun _ _ z => z) fun _ _ z => z⟩
        cases r with
        | ok f => exact fin s' q
        | error e => exact q
      · rename_i eg
        try rw [eg]
        exact wpAny_mono back (fun _ _ z => wpAny_mono z (fun _ s' q => fin s' q) fun _ _ z => z) fun _ _ z => z
  exact start_at hn lp (T.self Y.A 0 _ _ _ st2 lp)
end
/-- a whole comprehension: its first clause walked, the new list at D, the rest by its body -/
def tLcN (wi : TI) (g : TG) (body : Addr → TB) (vs : List Nat) : TE := fun σ H Q => wi σ H fun J H1 => ∀ D, H1 D = none → ∃ W : Nat → Nat → Hp → Prop, (∃ m, W 0 m (upd H1 D (.lst []))) ∧ ∀ j k H, W j k H →
  (J.stop j H ∧ Q (.ref D) H) ∨ (J.go j H ∧ ∃ N1 : Hp → Prop, (∀ H', N1 H' → ∃ k', k' < k ∧ W (j + 1) k' H') ∧ ∀ x H', J.yld j H x H' → g x (wipe σ vs) H' fun σ3 H5 => wipe σ3 vs = wipe σ vs ∧ body D σ3 H5 N1)
section
variable {X : Cx}
theorem pe_lcN {elt tg iter : Expr} {rest : List Comprehension} {scope : Scope} {own : List (Str × Nat)} {pos : Pos} {wi : TI} {g : TG} {body : Addr → TB} {fs : List Nat} (hc : X.calm = true) (hN : X.N.Nodup) (hi : PI X tg iter wi) (ok : BlkOk X.N X.env.scope scope own)
    (hg : ∀ (s : Shared) (H : Hp) (C : Addr) (cl : List (Str × Addr)) (fp : List Addr), PG (X.blk s H scope (compEnvC scope cl C X.env) fp) tg g)
    (hb : ∀ (s : Shared) (H : Hp) (C : Addr) (cl : List (Str × Addr)) (fp : List Addr) (D : Addr), Real (X.blk s H scope (compEnvC scope cl C X.env) fp) elt (⟨tg, iter, [], 0⟩ :: rest) scope pos 0 D fs (body D)) (hf : ∀ j ∈ fs, j ∈ own.map (·.2))
    (hs : ∀ x, foldedSetIterable iter X.env x = pure x := by intro _; rfl) : PE X (.ListComp elt (⟨tg, iter, [], 0⟩ :: rest) scope pos) (tLcN wi g body (own.map (·.2))) := by
  refine ⟨fun pins s σ H Q I h => ?_⟩
  rw [eval_ListComp]
  have fr : ∀ y ∈ scope.names, y.2 = .free → ∃ c, X.env.cells.lookup y.1 = some c := fun y hy e => (ok.free y hy e).elim (fun k => I.ok.has _ (.inl k)) fun k => I.ok.has _ (.inr k)
  refine wpAny_comprehension_free (use := none) rfl hs (closure_ok fr) ok.kind (fun y hy e => by rw [ok.uniq y hy, e])
    (thn (hi.run pins s σ H _ I h) fun xv s1 e1 => thn e1 fun itv s2 e2 => ?_)
  obtain ⟨a, fp, tn, J, H2, rfl, I2, T, st2, f2, q⟩ := e2
  refine wpAny_newObj_type (newEnv_comp ?_) (by show 0 ≤ sizeLine; decide)
  generalize eD : s2.heap.objs.size = D
  have nD : H2 D = none := I2.hok.fresh (Nat.le_of_eq eD)
  obtain ⟨W, ⟨m0, w0⟩, turn⟩ := q D nD
  generalize es3 : ({ s2 with heap := s2.heap.push { cls := .type "list", data := .seq ([] : List Value).toArray } } : Shared) = s3
  have hp3 : s3.heap = s2.heap.push { cls := .type "list", data := .seq ([] : List Value).toArray } := by rw [← es3]
  have I3 : Inv X pins σ (upd H2 D (.lst [])) s3 := by
    subst es3
    exact I2.laid (t' := s2.toks) (fun b o e => Heap.get?_push_of_some _ e) (Nat.le_of_eq eD) ⟨Nat.zero_le _, [], 0, .nil, by rw [← eD]; exact Heap.get?_push_size _ rfl⟩
  have low : ∀ b ∈ fp, b < s2.heap.objs.size := fun b hb => let ⟨o, e, _⟩ := T.obj _ _ st2 b hb; Heap.lt_size e
  have f3 : ∀ b ∈ fp, FpOk X pins (upd H2 D (.lst [])) b ∧ b < s3.heap.objs.size := fun b hb =>
    ⟨⟨by rw [upd_ne (by rw [← eD]; exact Nat.ne_of_lt (low b hb))]; exact (f2 b hb).1, (f2 b hb).2⟩, by rw [hp3, Heap.size_push]; exact Nat.lt_succ_of_lt (low b hb)⟩
  have st3 : tn 0 s3.heap := T.keep _ _ _ st2 fun b _ o e => by rw [hp3]; exact Heap.get?_push_of_some _ e
  have I4 := block_start I3 ok hN f3
  have G := hg s3 (upd H2 D (.lst [])) s3.heap.objs.size (cellsFrom (s3.heap.objs.size + 1) scope.names (cloFrom X.env.cells scope.names [])) fp
  have B := hb s3 (upd H2 D (.lst [])) s3.heap.objs.size (cellsFrom (s3.heap.objs.size + 1) scope.names (cloFrom X.env.cells scope.names [])) fp D
  have no3 : ∀ b ∈ fp, (upd H2 D (.lst [])) b = none := fun b hb => (f3 b hb).1.1
  show codeAny _ _ (.compStart (lcE elt (⟨tg, iter, [], 0⟩ :: rest) scope pos) 0 (.ref a) (.ref D) (compEnvC scope (cellsFrom (s3.heap.objs.size + 1) scope.names (cloFrom X.env.cells scope.names [])) s3.heap.objs.size X.env)) (compPost (model X.prog X.w) X.A X.xe none (EP X pins σ Q) (.ref D) s3.heap.objs.size) { s3 with heap := pushCells (s3.heap.push { cls := .type "dict", data := .dict #[] }) scope.names }
  generalize ece : compEnvC scope (cellsFrom (s3.heap.objs.size + 1) scope.names (cloFrom X.env.cells scope.names [])) s3.heap.objs.size X.env = ce at I4 G B ⊢
  have cl : ce.locals = s3.heap.objs.size := by subst ece; rfl
  generalize eH3 : upd H2 D (.lst []) = H3 at I3 I4 G B w0 no3 f3
  generalize es4 : ({ s3 with heap := pushCells (s3.heap.push { cls := .type "dict", data := .dict #[] }) scope.names } : Shared) = s4 at I4 ⊢
  have st4 : tn 0 s4.heap := T.keep _ _ _ st3 fun b _ o e => by rw [← es4]; exact pushCells_keeps _ _ _ _ (Heap.get?_push_of_some _ e)
  have stay : ∀ {σ' : L2.St} {H' : Hp} {s' : Shared}, Inv (X.blk s3 H3 scope ce fp) [] σ' H' s' → (∀ b ∈ fp, H' b = none) → ∀ b ∈ fp, FpOk (X.blk s3 H3 scope ce fp) [] H' b := fun {σ' H' s'} I' hn b hb =>
    ⟨hn b hb, (I'.ok.exf b hb).1, I'.ok.exfs b hb, .inl hb, fun x c e => (I'.ok.exf b hb).2 x c e, fun p hp => absurd (show p ∈ ([] : List (Addr × Obj)) ++ [] from hp) (by simp)⟩
  have hx : ∀ v s, ¬ (X.blk s3 H3 scope ce fp).xe v s := fun _ _ z => z
  have lp : codeAny (model X.prog X.w) X.A (.compLoop (lcE elt (⟨tg, iter, [], 0⟩ :: rest) scope pos) 0 (.ref a) (.ref D) ce) (compPost (model X.prog X.w) X.A X.xe none (EP X pins σ Q) (.ref D) s3.heap.objs.size) s4 := by
    refine loop_at (t := tg) (i := iter) rfl (fun k s' => ∃ j H', Inv (X.blk s3 H3 scope ce fp) [] (wipe σ (own.map (·.2))) H' s' ∧ tn j s'.heap ∧ (∀ b ∈ fp, H' b = none) ∧ W j k H') ?_ m0 ⟨0, H3, I4, st4, no3, w0⟩
    rintro k s5 ⟨j, H5, I5, st5, n5, w5⟩
    rcases turn j k H5 w5 with ⟨stop, qq⟩ | ⟨go, N1, hN1, step⟩
    · refine quiet (fun _ _ z => z) (T.done (X.blk s3 H3 scope ce fp) rfl rfl rfl hc j [] s5 _ H5 (fun _ _ => False) I5 (stay I5 n5) st5 stop) fun r s6 ⟨hr, I6⟩ => ?_
      subst hr
      have I7 : Inv X pins σ H5 s6 := I3.call' (ch := fp) I6.os I6.base I6.hok I6.bare fun b hb => ⟨(f3 b hb).1.2.2.2.1, (f3 b hb).1.2.1, (f3 b hb).1.2.2.2.2.1, (f3 b hb).1.2.2.2.2.2⟩
      have free : H5 s3.heap.objs.size = none := by
        have z : H5 ce.locals = none := I6.free
        rwa [cl] at z
      obtain ⟨m, hm, _⟩ := I6.loc
      have hm : s6.heap.Ns ce.locals m := hm
      rw [cl] at hm
      obtain ⟨g0, g1, g2, g3, g4, g5⟩ := I3.fpOk (Nat.le_refl _) free
      exact ⟨m, hm, fun h' sb => ⟨.ref D, H5, I7.turned (t' := s6.toks) (fun b o hb e => (sb.2 b hb).trans e) g0 g1 g3 g4 g5, rfl, qq⟩⟩
    · refine quiet (fun _ _ z => z) (T.item (X.blk s3 H3 scope ce fp) rfl rfl rfl hc j [] s5 _ H5 (fun _ _ => False) I5 (stay I5 n5) st5 go) fun r s6 ⟨u, hr, e6⟩ => ?_
      subst hr
      refine quiet (fun _ _ z => z) e6 fun _ s7 ⟨x, H7, I7, r7, y7, st7, n7⟩ => ?_
      have J7 := I7.pinned (stay I7 n7) (T.obj _ _ st7)
      refine quiet hx (G.run _ s7 _ H7 x u _ J7 r7 (step x H7 y7)) fun _ s8 ⟨σ8, H8, I8, hw, q8⟩ => ?_
      have back := B _ σ8 H8 s8 N1 (Nw X.prog X.w X.A ce fun r s' => compPost (model X.prog X.w) X.A X.xe none (EP X pins σ Q) (.ref D) s3.heap.objs.size r s') I8 q8
      have l8 : σ8.length = σ.length := by
        have := congrArg List.length hw
        rw [wipe_length, wipe_length] at this
        exact this
      have fin : ∀ s', (∃ (σ' : L2.St) (H' : Hp), Inv (X.blk s3 H3 scope ce fp) ([] ++ pinsAt fp s7.heap) σ' H' s' ∧ σ'.length = σ8.length ∧ (∀ (n : Nat) v, n ∉ fs → σ8[n]? = some (some v) → σ'[n]? = some (some v)) ∧ N1 H') →
          ∃ m, m < k ∧ ∃ j H', Inv (X.blk s3 H3 scope ce fp) [] (wipe σ (own.map (·.2))) H' s' ∧ tn j s'.heap ∧ (∀ b ∈ fp, H' b = none) ∧ W j m H' := by
        rintro s' ⟨σ', H', I', hl, hk, nx⟩
        obtain ⟨m', hm, w'⟩ := hN1 H' nx
        have held : ∀ b ∈ fp, ∀ o, s7.heap.get? b = some o → s'.heap.get? b = some o ∧ H' b = none := fun b hb o e =>
          ⟨(I'.pin (b, o) (List.mem_append_right _ (List.mem_append_right _ (mem_pinsAt hb e)))).1, (I'.pin (b, o) (List.mem_append_right _ (List.mem_append_right _ (mem_pinsAt hb e)))).2.1⟩
        refine ⟨m', hm, j + 1, H', (I'.unpinned (pins := [])).weak (by rw [wipe_length, hl, l8]) (fun n v e => ?_), T.keep _ _ _ st7 fun b hb o e => (held b hb o e).1, fun b hb => ?_, w'⟩
        · rw [← hw] at e
          obtain ⟨p1, p2⟩ := wipe_some e
          exact hk n v (fun z => p2 (hf n z)) p1
        · obtain ⟨o, e, _⟩ := T.obj _ _ st7 b hb
          exact (held b hb o e).2
      unfold Rest at back ⊢
      split at back
      · rename_i g' eg
        try rw [eg]
        obtain ⟨b1, b2, b3⟩ := back
        refine ⟨b1, b2, wpAny_mono b3 (fun _ _ z => wpAny_mono z (fun _ _ y => codeAny_mono y fun r s' q => ?_) fun _ _ z => z) fun _ _ z => z⟩
        cases r with
        | ok f => exact fin s' q
        | error e => exact q
      · rename_i eg
        try rw [eg]
        exact wpAny_mono back (fun _ _ z => wpAny_mono z (fun _ s' q => fin s' q) fun _ _ z => z) fun _ _ z => z
  exact codeAny_compStart_list lp (T.self X.A 0 _ _ _ st4 lp)
end
end J

set_option Elab.async false
set_option linter.all false
set_option maxRecDepth 100000
set_option maxHeartbeats 4000000
namespace J
open PySem PySem.Spec PyProof.Rows L2
abbrev rTup (K : PySem.W.Frag) : List V → Hp → VK → Prop := fun xs H Q => ∃ p ys, xs = [.ref p] ∧ ((SqL K H p ys ∧ ∀ l, H l = none → Q (.ref l) (upd H l (.tup ys))) ∨ (SqT K H p ys ∧ Q (.ref p) H))
abbrev rLen (K : PySem.W.Frag) : List V → Hp → VK → Prop := fun xs H Q => ∃ p ys, xs = [.ref p] ∧ (SqL K H p ys ∨ SqT K H p ys) ∧ Q (.int (ys.length : Nat)) H
abbrev rLst (K : PySem.W.Frag) : List V → Hp → VK → Prop := fun xs H Q => ∃ p ys, xs = [.ref p] ∧ (SqL K H p ys ∨ SqT K H p ys) ∧ ∀ l, H l = none → Q (.ref l) (upd H l (.lst ys))
/-! ### a three -/
def threeB (ns : List Int) : Sh → Bool
  | .lst xs => decide (xs.length = 3) && xs.all (tieB ns)
  | .tup xs => decide (xs.length = 3) && xs.all (tieB ns)
  | _ => false
theorem threeB_len {ns : List Int} {xs : List V} (h : ¬ xs.length = 3) : threeB ns (.lst xs) = false := by
  show (decide (xs.length = 3) && xs.all (tieB ns)) = false
  rw [decide_eq_false h]
  rfl
theorem threeB_all {ns : List Int} {xs : List V} (h : xs.length = 3) : threeB ns (.lst xs) = (xs.map (tieB ns)).all id := by
  show (decide (xs.length = 3) && xs.all (tieB ns)) = _
  rw [decide_eq_true h, List.all_map, Bool.true_and]
  rfl
theorem V.int_nat {n : Nat} (h : V.int ((n : Nat) : Int) = V.int 3) : n = 3 := by
  injection h with h
  omega
theorem ifB {c A B : Prop} [Decidable c] (h1 : ¬ c → A) (h2 : c → B) : if (!decide c) = true then A else B := by
  by_cases h : c
  · rw [decide_eq_true h]
    exact iteF (h2 h)
  · rw [decide_eq_false h]
    exact iteT (h1 h)
abbrev s_is_three : Stmt := top 30
theorem sc_is_three : FnScope ["ties", "thing", "tie"] ["ties", "thing"] (defScope s_is_three) := ⟨rfl, rfl, rfl, by decide +kernel, rfl, by decide +kernel, by decide +kernel⟩
def spThree (C : Addr) : Sp := fun vs H Q _ => ∃ (x : Addr) (ns : List Int) (v : V) (s : Sh), vs = [.ref x, v] ∧ TiesAt C H x ns ∧ Is H v s ∧ Known H (items s) ∧ ∀ H', Same H H' → Q (.bl (threeB ns s)) H'
section
variable {P : Program} {w : World} {K : PySem.W.Frag} {mg : Str → Option Value} {base : Heap}
theorem ok_is_three {f C fS fH : Addr} {fd fdS fdH : FuncData} (F : Fun K "is_three" "is_three" s_is_three f fd) (T : TiC K C) (nl : mg "len" = none) (na : mg "all" = none) (GS : Cal P w K mg base CX0 1 "is_sequence" fS fdS ["thing"] spSeq)
    (GH : Mt P w K mg base CX0 2 C "has" fH fdH ["self", "thing"] (spHas C)) : FnOk P w K mg base CX0 3 f fd ["ties", "thing"] (spThree C) := by
  refine F.ok sc_is_three (fun vs H Q E h => ?_) (fun cdv A outer s H vs Q E hr h => ?_)
  · obtain ⟨x, ns, v, s, rfl, _⟩ := h
    rfl
  · obtain ⟨x, ns, v, s, rfl, hT, hv, kn, k⟩ := h
    cases s with
    | sc u =>
      refine ⟨_, (pss_cons 
  (ps_if (PW.pt (pw_or (pt_not (pt_val (pcal GS hr pass0 (pa_cons (pv 1) pa_nil)))) (pw_or1 (pt_cmpR op_ne (pe_callB call_len_seq (by rfl) nl PySem.boot_len (pa_cons (pv 1) pa_nil)) pe_int (nomark _))))) (pss_one 
    (ps_ret pe_bl)) pss_nil) (pss_one 
  (ps_ret (pe_callB (cr_all rfl) (by rfl) na (by decide +kernel) (pa_cons (pe_lc (own := [("tie", 2)]) (g := gName 2) (by rfl) sc_is_three.nd (pi_list (pv 1)) (blkOk_by (own := [("tie", 2)]) (N := ["ties", "thing", "tie"]) (sc := defScope s_is_three) (by decide +kernel)) (fun _ _ _ _ _ => pg_name (i := 2) sc_is_three.nd rfl (Or.inl rfl)) (fun _ _ _ _ _ => pts_nil) (fun _ _ _ _ _ => (pe_meth (pv 0) T.cl GH.M GH.F hr GH.b .nil pass0 (pa_cons (pv 2) pa_nil)))) pa_nil))))), ?_⟩
      exact ⟨_, rfl, v, .sc u, rfl, hv, fun H1 S1 => ⟨_, rfl, iteT (k _ S1)⟩⟩
    | dk =>
      refine ⟨_, (pss_cons 
  (ps_if (PW.pt (pw_or (pt_not (pt_val (pcal GS hr pass0 (pa_cons (pv 1) pa_nil)))) (pw_or1 (pt_cmpR op_ne (pe_callB call_len_seq (by rfl) nl PySem.boot_len (pa_cons (pv 1) pa_nil)) pe_int (nomark _))))) (pss_one 
    (ps_ret pe_bl)) pss_nil) (pss_one 
  (ps_ret (pe_callB (cr_all rfl) (by rfl) na (by decide +kernel) (pa_cons (pe_lc (own := [("tie", 2)]) (g := gName 2) (by rfl) sc_is_three.nd (pi_list (pv 1)) (blkOk_by (own := [("tie", 2)]) (N := ["ties", "thing", "tie"]) (sc := defScope s_is_three) (by decide +kernel)) (fun _ _ _ _ _ => pg_name (i := 2) sc_is_three.nd rfl (Or.inl rfl)) (fun _ _ _ _ _ => pts_nil) (fun _ _ _ _ _ => (pe_meth (pv 0) T.cl GH.M GH.F hr GH.b .nil pass0 (pa_cons (pv 2) pa_nil)))) pa_nil))))), ?_⟩
      exact ⟨_, rfl, v, .dk, rfl, hv, fun H1 S1 => ⟨_, rfl, iteT (k _ S1)⟩⟩
    | lst xs =>
      obtain ⟨p, rfl, hp⟩ := hv
      refine ⟨_, (pss_cons 
  (ps_if (PW.pt (pw_or (pt_not (pt_val (pcal GS hr pass0 (pa_cons (pv 1) pa_nil)))) (pw_or1 (pt_cmpR op_ne (pe_callB call_len_seq (by rfl) nl PySem.boot_len (pa_cons (pv 1) pa_nil)) pe_int (nomark _))))) (pss_one 
    (ps_ret pe_bl)) pss_nil) (pss_one 
  (ps_ret (pe_callB (cr_all rfl) (by rfl) na (by decide +kernel) (pa_cons (pe_lc (own := [("tie", 2)]) (g := gName 2) (by rfl) sc_is_three.nd (pi_list (pv 1)) (blkOk_by (own := [("tie", 2)]) (N := ["ties", "thing", "tie"]) (sc := defScope s_is_three) (by decide +kernel)) (fun _ _ _ _ _ => pg_name (i := 2) sc_is_three.nd rfl (Or.inl rfl)) (fun _ _ _ _ _ => pts_nil) (fun _ _ _ _ _ => (pe_meth (pv 0) T.cl GH.M GH.F hr GH.b .nil pass0 (pa_cons (pv 2) pa_nil)))) pa_nil))))), ?_⟩
      refine ⟨_, rfl, _, Sh.lst xs, rfl, ⟨p, rfl, hp⟩, fun H1 S1 => ⟨_, rfl, iteF ?_⟩⟩
      have hp1 := S1 _ _ hp
      refine ⟨_, rfl, p, xs, rfl, .inl (SqL.of hp1), rfl, _, rfl, ?_⟩
      refine ifB (fun c => ?_) (fun c => ?_)
      · have e : threeB ns (.lst xs) = false := threeB_len fun z => c (congrArg (fun n : Nat => V.int (n : Int)) z)
        rw [e] at k
        exact k _ S1
      have l3 : xs.length = 3 := V.int_nat c
      refine ⟨_, rfl, p, rfl, ⟨_, SqL.of hp1⟩, fun D hD => ?_⟩
      refine lc_list (K := K) (a := p) (xs := xs) (fun i H2 => Same H1 H2 ∧ H1 D = none ∧ H2 D = some (.lst ((xs.take i).map fun y => V.bl (tieB ns y)))) ⟨new_same hD, hD, upd_same⟩ (fun i H2 _ ⟨S, _⟩ => SqL.of (S _ _ hp1)) ?_ ?_
      · rintro i y H2 hy ⟨S2, D0, eD⟩
        have hi := (List.getElem?_eq_some_iff.mp hy).1
        obtain ⟨sy, isy⟩ := kn y (List.mem_of_getElem? hy)
        have SS := S1.trans S2
        obtain ⟨dx, t, hx, ht⟩ := id (hT.keep SS)
        refine ⟨rfl, yesT ?_⟩
        refine ⟨_, rfl, x, dx, _, rfl, hx, tf_no _ _ (by decide +kernel) (by decide +kernel), _, rfl, x, ns, y, sy, rfl, ⟨dx, t, hx, ht⟩, isy.keep SS, ?_⟩
        refine ⟨_, eD, by rw [List.length_map, List.length_take]; exact small1000 (by omega), fun b o e => ?_, D0, by rw [upd_same, List.take_add_one, hy, List.map_append]; rfl⟩
        rw [upd_ne (ne_of_none e D0)]
        exact S2 _ _ e
      · rintro H2 ⟨S2, D0, eD⟩
        rw [List.take_length] at eD
        refine ⟨D, xs.map (tieB ns), rfl, SqL.of (by rw [eD, List.map_map]; rfl), ?_⟩
        have e : threeB ns (.lst xs) = (xs.map (tieB ns)).all id := threeB_all l3
        rw [e] at k
        exact k _ (S1.trans S2)
    | tup xs =>
      obtain ⟨p, rfl, hp⟩ := hv
      refine ⟨_, (pss_cons 
  (ps_if (PW.pt (pw_or (pt_not (pt_val (pcal GS hr pass0 (pa_cons (pv 1) pa_nil)))) (pw_or1 (pt_cmpR op_ne (pe_callB call_len_seq (by rfl) nl PySem.boot_len (pa_cons (pv 1) pa_nil)) pe_int (nomark _))))) (pss_one 
    (ps_ret pe_bl)) pss_nil) (pss_one 
  (ps_ret (pe_callB (cr_all rfl) (by rfl) na (by decide +kernel) (pa_cons (pe_lc (own := [("tie", 2)]) (g := gName 2) (by rfl) sc_is_three.nd (pi_tup (pv 1)) (blkOk_by (own := [("tie", 2)]) (N := ["ties", "thing", "tie"]) (sc := defScope s_is_three) (by decide +kernel)) (fun _ _ _ _ _ => pg_name (i := 2) sc_is_three.nd rfl (Or.inl rfl)) (fun _ _ _ _ _ => pts_nil) (fun _ _ _ _ _ => (pe_meth (pv 0) T.cl GH.M GH.F hr GH.b .nil pass0 (pa_cons (pv 2) pa_nil)))) pa_nil))))), ?_⟩
      refine ⟨_, rfl, _, Sh.tup xs, rfl, ⟨p, rfl, hp⟩, fun H1 S1 => ⟨_, rfl, iteF ?_⟩⟩
      have hp1 := S1 _ _ hp
      refine ⟨_, rfl, p, xs, rfl, .inr (SqT.of hp1), rfl, _, rfl, ?_⟩
      refine ifB (fun c => ?_) (fun c => ?_)
      · have e : threeB ns (.tup xs) = false := threeB_len fun z => c (congrArg (fun n : Nat => V.int (n : Int)) z)
        rw [e] at k
        exact k _ S1
      have l3 : xs.length = 3 := V.int_nat c
      refine ⟨_, rfl, p, rfl, ⟨_, SqT.of hp1⟩, fun D hD => ?_⟩
      refine lc_tup (K := K) (a := p) (xs := xs) (fun i H2 => Same H1 H2 ∧ H1 D = none ∧ H2 D = some (.lst ((xs.take i).map fun y => V.bl (tieB ns y)))) ⟨new_same hD, hD, upd_same⟩ (fun i H2 _ ⟨S, _⟩ => SqT.of (S _ _ hp1)) ?_ ?_
      · rintro i y H2 hy ⟨S2, D0, eD⟩
        have hi := (List.getElem?_eq_some_iff.mp hy).1
        obtain ⟨sy, isy⟩ := kn y (List.mem_of_getElem? hy)
        have SS := S1.trans S2
        obtain ⟨dx, t, hx, ht⟩ := id (hT.keep SS)
        refine ⟨rfl, yesT ?_⟩
        refine ⟨_, rfl, x, dx, _, rfl, hx, tf_no _ _ (by decide +kernel) (by decide +kernel), _, rfl, x, ns, y, sy, rfl, ⟨dx, t, hx, ht⟩, isy.keep SS, ?_⟩
        refine ⟨_, eD, by rw [List.length_map, List.length_take]; exact small1000 (by omega), fun b o e => ?_, D0, by rw [upd_same, List.take_add_one, hy, List.map_append]; rfl⟩
        rw [upd_ne (ne_of_none e D0)]
        exact S2 _ _ e
      · rintro H2 ⟨S2, D0, eD⟩
        rw [List.take_length] at eD
        refine ⟨D, xs.map (tieB ns), rfl, SqL.of (by rw [eD, List.map_map]; rfl), ?_⟩
        have e : threeB ns (.tup xs) = (xs.map (tieB ns)).all id := threeB_all l3
        rw [e] at k
        exact k _ (S1.trans S2)
end
end J

set_option Elab.async false
set_option linter.all false
set_option maxRecDepth 100000
set_option maxHeartbeats 8000000
namespace J
open PySem PySem.Spec PyProof.Rows L2
/-! ### the readings of a three -/
def bk (ns : List Int) (t : Int) : Int := (ns[t.toNat]?).getD 0
def InT (ns : List Int) (t : Int) : Prop := 0 ≤ t ∧ t < (ns.length : Nat)
theorem bk_get {ns : List Int} {t : Int} (h : InT ns t) : ns[t.toNat]? = some (bk ns t) := by
  have hl : t.toNat < ns.length := by have := h.1; have := h.2; omega
  unfold bk
  rw [List.getElem?_eq_getElem hl]
  rfl
theorem bk_in {ns : List Int} {t : Int} (g : GoodB ns) (h : InT ns t) : InT ns (bk ns t) := g.rng _ (List.mem_of_getElem? (bk_get h))
theorem bk_bk {ns : List Int} {t : Int} (g : GoodB ns) (h : InT ns t) : bk ns (bk ns t) = t := by
  have := g.inv _ _ (bk_get h)
  show (ns[(bk ns t).toNat]?).getD 0 = t
  rw [this]
  show ((t.toNat : Nat) : Int) = t
  exact Int.toNat_of_nonneg h.1
def six (ns : List Int) (p q r : Int) : List (List Int) := [[p, q, r], [r, bk ns q, p], [bk ns p, r, q], [q, bk ns r, bk ns p], [bk ns r, p, bk ns q], [bk ns q, bk ns p, bk ns r]]
/-- the readings, ascending, each once -/
def RdL (ns : List Int) (p q r : Int) (L : List (List Int)) : Prop := L.Pairwise (fun a b => TS.code 4 a < TS.code 4 b) ∧ ∀ x, x ∈ L ↔ x ∈ six ns p q r
def ks6 (ns : List Int) (p q r : Int) (t1 t2 t3 t4 t5 t6 : Addr) : List (Addr × List Int) := [(t1, [p, q, r]), (t2, [r, bk ns q, p]), (t3, [bk ns p, r, q]), (t4, [q, bk ns r, bk ns p]), (t5, [bk ns r, p, bk ns q]), (t6, [bk ns q, bk ns p, bk ns r])]
theorem ks6_six {ns : List Int} {p q r : Int} {t1 t2 t3 t4 t5 t6 : Addr} {y : Addr × List Int} (h : y ∈ ks6 ns p q r t1 t2 t3 t4 t5 t6) : y.2 ∈ six ns p q r := by
  simp only [ks6, List.mem_cons, List.not_mem_nil, or_false] at h
  rcases h with rfl | rfl | rfl | rfl | rfl | rfl <;> simp [six]
theorem six_ks6 {ns : List Int} {p q r : Int} {t1 t2 t3 t4 t5 t6 : Addr} {x : List Int} (h : x ∈ six ns p q r) : ∃ y ∈ ks6 ns p q r t1 t2 t3 t4 t5 t6, y.2 = x := by
  simp only [six, List.mem_cons, List.not_mem_nil, or_false] at h
  rcases h with rfl | rfl | rfl | rfl | rfl | rfl
  · exact ⟨(t1, _), by simp [ks6], rfl⟩
  · exact ⟨(t2, _), by simp [ks6], rfl⟩
  · exact ⟨(t3, _), by simp [ks6], rfl⟩
  · exact ⟨(t4, _), by simp [ks6], rfl⟩
  · exact ⟨(t5, _), by simp [ks6], rfl⟩
  · exact ⟨(t6, _), by simp [ks6], rfl⟩
theorem six_in {ns : List Int} {p q r : Int} (g : GoodB ns) (ip : InT ns p) (iq : InT ns q) (ir : InT ns r) : ∀ x ∈ six ns p q r, ∃ a b c, x = [a, b, c] ∧ InT ns a ∧ InT ns b ∧ InT ns c := by
  have bp := bk_in g ip
  have bq := bk_in g iq
  have br := bk_in g ir
  intro x h
  simp only [six, List.mem_cons, List.not_mem_nil, or_false] at h
  rcases h with rfl | rfl | rfl | rfl | rfl | rfl
  · exact ⟨_, _, _, rfl, ip, iq, ir⟩
  · exact ⟨_, _, _, rfl, ir, bq, ip⟩
  · exact ⟨_, _, _, rfl, bp, ir, iq⟩
  · exact ⟨_, _, _, rfl, iq, br, bp⟩
  · exact ⟨_, _, _, rfl, br, ip, bq⟩
  · exact ⟨_, _, _, rfl, bq, bp, br⟩
theorem six_bd {ns : List Int} {p q r : Int} (g : GoodB ns) (ip : InT ns p) (iq : InT ns q) (ir : InT ns r) : ∀ x ∈ six ns p q r, x.length = 3 ∧ TS.Bd 4 x := by
  intro x h
  obtain ⟨a, b, c, rfl, ia, ib, ic⟩ := six_in g ip iq ir x h
  have h4 := g.hi
  refine ⟨rfl, fun m hm => ?_⟩
  simp only [List.mem_cons, List.not_mem_nil, or_false] at hm
  rcases hm with rfl | rfl | rfl
  · exact ⟨ia.1, by have := ia.2; omega⟩
  · exact ⟨ib.1, by have := ib.2; omega⟩
  · exact ⟨ic.1, by have := ic.2; omega⟩
theorem code_inj {B : Int} : ∀ {r q : List Int}, r.length = q.length → TS.Bd B r → TS.Bd B q → TS.code B r = TS.code B q → r = q
  | [], [], _, _, _, _ => rfl
  | [], _ :: _, h, _, _, _ => by cases h
  | _ :: _, [], h, _, _, _ => by cases h
  | d :: r, e :: q, h, b1, b2, c => by
    have hl : r.length = q.length := Nat.succ.inj h
    rcases Int.lt_trichotomy d e with h1 | h1 | h1
    · have := TS.code_lt hl b1.tail b2.tail h1
      omega
    · subst h1
      have n1 : ¬ TS.code B r < TS.code B q := fun z => by have := (TS.code_same (d := d) hl).mpr z; omega
      have n2 : ¬ TS.code B q < TS.code B r := fun z => by have := (TS.code_same (d := d) hl.symm).mpr z; omega
      rw [code_inj hl b1.tail b2.tail (by omega)]
    · have := TS.code_lt hl.symm b2.tail b1.tail h1
      omega
theorem threeB_ints {ns : List Int} {xs : List V} (h : (decide (xs.length = 3) && xs.all (tieB ns)) = true) : ∃ p q r, xs = [.int p, .int q, .int r] ∧ InT ns p ∧ InT ns q ∧ InT ns r := by
  obtain ⟨h1, h2⟩ := Bool.and_eq_true_iff.mp h
  have l3 := of_decide_eq_true h1
  rw [List.all_eq_true] at h2
  obtain ⟨a, b, c, rfl⟩ : ∃ a b c, xs = [a, b, c] := match xs, l3 with | [a, b, c], _ => ⟨a, b, c, rfl⟩
  have one : ∀ y ∈ [a, b, c], ∃ t, y = V.int t ∧ InT ns t := fun y hy => by
    obtain ⟨i, v, e, e2⟩ := tieB_true (h2 y hy)
    exact ⟨_, e, by omega, by have := (List.getElem?_eq_some_iff.mp e2).1; omega⟩
  obtain ⟨p, rfl, ip⟩ := one a (by simp)
  obtain ⟨q, rfl, iq⟩ := one b (by simp)
  obtain ⟨r, rfl, ir⟩ := one c (by simp)
  exact ⟨p, q, r, rfl, ip, iq, ir⟩
theorem bk_of {ns : List Int} {t b : Int} {i : Nat} (ht : InT ns t) (e1 : V.int t = V.int ((i : Nat) : Int)) (e2 : ns[i]? = some b) : bk ns t = b := by
  have e : t = (i : Int) := by injection e1
  subst e
  have q := bk_get ht
  rw [show ((i : Int)).toNat = i from Int.toNat_natCast i, e2] at q
  exact (Option.some.inj q).symm
theorem tie_in {ns : List Int} {t : Int} (ht : InT ns t) : tieB ns (.int t) = true := by
  show (decide (0 ≤ t) && decide (t ≤ ((ns.length : Nat) : Int) - 1)) = true
  rw [decide_eq_true ht.1, decide_eq_true (by have := ht.2; omega)]
  rfl
theorem tie_no {ns : List Int} {t : Int} {A : Prop} (ht : InT ns t) (e : tieB ns (.int t) = false) : A := by
  rw [tie_in ht] at e
  cases e
def TupsAt (H : Hp) (z : Addr) (L : List (List Int)) : Prop := ∃ ps : List Addr, H z = some (.tup (ps.map V.ref)) ∧ ps.length = L.length ∧ ∀ (j : Nat) (a : Addr) (ts : List Int), ps[j]? = some a → L[j]? = some ts → H a = some (.tup (ts.map V.int))
theorem TupsAt.keep {H H' : Hp} {z : Addr} {L : List (List Int)} (h : TupsAt H z L) (S : Same H H') : TupsAt H' z L := by
  obtain ⟨ps, a, b, c⟩ := h
  exact ⟨ps, S _ _ a, b, fun j x ts e1 e2 => S _ _ (c j x ts e1 e2)⟩
theorem same_free {H H' : Hp} {a : Addr} (S : Same H H') (e : H' a = none) : H a = none := by
  cases q : H a with
  | none => rfl
  | some o =>
    have := S _ _ q
    rw [e] at this
    cases this
abbrev s_NoThree_init : Stmt := inClass (top 9) 0
theorem sc_NoThree_init : FnScope ["self", "three"] ["self", "three"] (defScope s_NoThree_init) := ⟨rfl, rfl, rfl, by decide +kernel, rfl, by decide +kernel, by decide +kernel⟩
abbrev s_readings_of : Stmt := top 31
theorem sc_readings_of : FnScope ["ties", "three", "p", "q", "r", "p_back", "q_back", "r_back", "readings"] ["ties", "three"] (defScope s_readings_of) := ⟨rfl, rfl, rfl, by decide +kernel, rfl, by decide +kernel, by decide +kernel⟩
def spReadings (C CT : Addr) : Sp := fun vs H Q E => ∃ (x : Addr) (ns : List Int) (v : V) (s : Sh), vs = [.ref x, v] ∧ TiesAt C H x ns ∧ GoodB ns ∧ Is H v s ∧ Known H (items s) ∧ (threeB ns s = false → Tells H CT "three" v E) ∧
  (∀ p q r, items s = [.int p, .int q, .int r] → InT ns p → InT ns q → InT ns r → ∀ (H' : Hp) (z : Addr) (L : List (List Int)), Same H H' → H z = none → TupsAt H' z L → RdL ns p q r L → Q (.ref z) H')
abbrev s_least_reading : Stmt := top 32
theorem sc_least_reading : FnScope ["ties", "three"] ["ties", "three"] (defScope s_least_reading) := ⟨rfl, rfl, rfl, by decide +kernel, rfl, by decide +kernel, by decide +kernel⟩
def spLeast (C CT : Addr) : Sp := fun vs H Q E => ∃ (x : Addr) (ns : List Int) (v : V) (s : Sh), vs = [.ref x, v] ∧ TiesAt C H x ns ∧ GoodB ns ∧ Is H v s ∧ Known H (items s) ∧ (threeB ns s = false → Tells H CT "three" v E) ∧
  (∀ p q r, items s = [.int p, .int q, .int r] → InT ns p → InT ns q → InT ns r → ∀ (H' : Hp) (z : Addr) (t : List Int) (L : List (List Int)), Same H H' → H' z = some (.tup (t.map V.int)) → RdL ns p q r (t :: L) → Q (.ref z) H')
section
variable {P : Program} {w : World} {K : PySem.W.Frag} {mg : Str → Option Value} {base : Heap}
theorem ok_NoThree_init {f C : Addr} {fd : FuncData} (F : Fun K "__init__" "NoThree.__init__" s_NoThree_init f fd) (o : OexC K C) (no : PySem.W.findIn K (.ref C) "three" = some none) : FnOk P w K mg base CX0 1 f fd ["self", "three"] (spXI C "three") := by
  refine F.ok sc_NoThree_init (fun vs H Q E h => ?_) (fun cdv A outer s H vs Q E hr h => ?_)
  · obtain ⟨x, s, rfl, _⟩ := h
    rfl
  · obtain ⟨a, v, rfl, ha, k⟩ := h
    refine ⟨_, pss_one (ps_ost (pv 0) (pv 1)), ?_⟩
    exact ⟨_, rfl, _, rfl, a, C, rfl, o, no, .inl ⟨ha, k⟩⟩
theorem ok_readings_of {f C CN CT fI fB fT : Addr} {fd fdI fdB fdT : FuncData} (F : Fun K "readings_of" "readings_of" s_readings_of f fd) (T : TiC K C) (nt : mg "tuple" = none) (nso : mg "sorted" = none) (nse : mg "set" = none)
    (GI : Cal P w K mg base CX0 3 "is_three" fI fdI ["ties", "thing"] (spThree C)) (GB : Mt P w K mg base (L2.CX P w) 3 C "back" fB fdB ["self", "tie"] (spBack C CN)) (GT : Ex P w K mg base "NoThree" "three" CT fT fdT ["self", "three"]) :
    FnOk P w K mg base (L2.CX P w) 4 f fd ["ties", "three"] (spReadings C CT) := by
  refine F.okX sc_readings_of (fun vs H Q E h => ?_) (fun cdv A outer s H vs Q E hr h => ?_)
  · obtain ⟨x, ns, v, s, rfl, _⟩ := h
    rfl
  · obtain ⟨x, ns, v, s, rfl, hT, gb, hv, kn, k1, k2⟩ := h
    have hr2 : Room 2 _ := hr.mono (by decide)
    cases s with
    | sc u =>
      refine ⟨_, (pss_cons 
  (ps_if (pt_not (pt_val (pcal GI hr pass0 (pa_cons (pv 0) (pa_cons (pv 1) pa_nil))))) (pss_one 
    (ps_raise rfl (takes_of rfl rfl rfl rfl) (pmk_oex GT.o GT.i GT.t GT.F hr2 GT.b .nil pass0 rfl GT.m (pa_cons (pv 1) pa_nil)))) pss_nil) (pss_cons 
  (ps_asg (pv 1) (pg_tup (by rfl) (pgs_cons (pg_name (i := 2) sc_readings_of.nd rfl (Or.inl rfl)) (pgs_cons (pg_name (i := 3) sc_readings_of.nd rfl (Or.inl rfl)) (pgs_cons (pg_name (i := 4) sc_readings_of.nd rfl (Or.inl rfl)) pgs_nil))))) (pss_cons 
  (ps_set (i := 5) sc_readings_of.nd rfl (Or.inl rfl) (pe_meth (pv 0) T.cl GB.M GB.F hr GB.b .nil passL (pa_cons (pv 2) pa_nil))) (pss_cons 
  (ps_set (i := 6) sc_readings_of.nd rfl (Or.inl rfl) (pe_meth (pv 0) T.cl GB.M GB.F hr GB.b .nil passL (pa_cons (pv 3) pa_nil))) (pss_cons 
  (ps_set (i := 7) sc_readings_of.nd rfl (Or.inl rfl) (pe_meth (pv 0) T.cl GB.M GB.F hr GB.b .nil passL (pa_cons (pv 4) pa_nil))) (pss_cons 
  (ps_set (i := 8) sc_readings_of.nd rfl (Or.inl rfl) (pe_lst (pa_cons (pe_tup (pa_cons (pv 2) (pa_cons (pv 3) (pa_cons (pv 4) pa_nil)))) (pa_cons (pe_tup (pa_cons (pv 4) (pa_cons (pv 6) (pa_cons (pv 2) pa_nil)))) (pa_cons (pe_tup (pa_cons (pv 5) (pa_cons (pv 4) (pa_cons (pv 3) pa_nil)))) (pa_cons (pe_tup (pa_cons (pv 3) (pa_cons (pv 7) (pa_cons (pv 5) pa_nil)))) (pa_cons (pe_tup (pa_cons (pv 7) (pa_cons (pv 2) (pa_cons (pv 6) pa_nil)))) (pa_cons (pe_tup (pa_cons (pv 6) (pa_cons (pv 5) (pa_cons (pv 7) pa_nil)))) pa_nil)))))))) (pss_one 
  (ps_ret (pe_callTy (T := "tuple") (r := rTup K) call_tuple_of (by rfl) nt (by decide +kernel) (pa_cons (pe_callB (cr_sortedT rfl) (by rfl) nso (by decide +kernel) (pa_cons (pe_callTy (cr_setOfT rfl hr.units) (by rfl) nse (by decide +kernel) (pa_cons (pv 8) pa_nil)) pa_nil)) pa_nil)))))))))), ?_⟩
      exact ⟨_, rfl, _, rfl, x, ns, v, .sc u, rfl, hT, hv, kn, fun H1 S1 => ⟨_, rfl, iteT ⟨_, rfl, mkO_of ((k1 rfl).mono S1)⟩⟩⟩
    | dk =>
      refine ⟨_, (pss_cons 
  (ps_if (pt_not (pt_val (pcal GI hr pass0 (pa_cons (pv 0) (pa_cons (pv 1) pa_nil))))) (pss_one 
    (ps_raise rfl (takes_of rfl rfl rfl rfl) (pmk_oex GT.o GT.i GT.t GT.F hr2 GT.b .nil pass0 rfl GT.m (pa_cons (pv 1) pa_nil)))) pss_nil) (pss_cons 
  (ps_asg (pv 1) (pg_tup (by rfl) (pgs_cons (pg_name (i := 2) sc_readings_of.nd rfl (Or.inl rfl)) (pgs_cons (pg_name (i := 3) sc_readings_of.nd rfl (Or.inl rfl)) (pgs_cons (pg_name (i := 4) sc_readings_of.nd rfl (Or.inl rfl)) pgs_nil))))) (pss_cons 
  (ps_set (i := 5) sc_readings_of.nd rfl (Or.inl rfl) (pe_meth (pv 0) T.cl GB.M GB.F hr GB.b .nil passL (pa_cons (pv 2) pa_nil))) (pss_cons 
  (ps_set (i := 6) sc_readings_of.nd rfl (Or.inl rfl) (pe_meth (pv 0) T.cl GB.M GB.F hr GB.b .nil passL (pa_cons (pv 3) pa_nil))) (pss_cons 
  (ps_set (i := 7) sc_readings_of.nd rfl (Or.inl rfl) (pe_meth (pv 0) T.cl GB.M GB.F hr GB.b .nil passL (pa_cons (pv 4) pa_nil))) (pss_cons 
  (ps_set (i := 8) sc_readings_of.nd rfl (Or.inl rfl) (pe_lst (pa_cons (pe_tup (pa_cons (pv 2) (pa_cons (pv 3) (pa_cons (pv 4) pa_nil)))) (pa_cons (pe_tup (pa_cons (pv 4) (pa_cons (pv 6) (pa_cons (pv 2) pa_nil)))) (pa_cons (pe_tup (pa_cons (pv 5) (pa_cons (pv 4) (pa_cons (pv 3) pa_nil)))) (pa_cons (pe_tup (pa_cons (pv 3) (pa_cons (pv 7) (pa_cons (pv 5) pa_nil)))) (pa_cons (pe_tup (pa_cons (pv 7) (pa_cons (pv 2) (pa_cons (pv 6) pa_nil)))) (pa_cons (pe_tup (pa_cons (pv 6) (pa_cons (pv 5) (pa_cons (pv 7) pa_nil)))) pa_nil)))))))) (pss_one 
  (ps_ret (pe_callTy (T := "tuple") (r := rTup K) call_tuple_of (by rfl) nt (by decide +kernel) (pa_cons (pe_callB (cr_sortedT rfl) (by rfl) nso (by decide +kernel) (pa_cons (pe_callTy (cr_setOfT rfl hr.units) (by rfl) nse (by decide +kernel) (pa_cons (pv 8) pa_nil)) pa_nil)) pa_nil)))))))))), ?_⟩
      exact ⟨_, rfl, _, rfl, x, ns, v, .dk, rfl, hT, hv, kn, fun H1 S1 => ⟨_, rfl, iteT ⟨_, rfl, mkO_of ((k1 rfl).mono S1)⟩⟩⟩
    | lst xs =>
      obtain ⟨pp, rfl, hp⟩ := hv
      refine ⟨_, (pss_cons 
  (ps_if (pt_not (pt_val (pcal GI hr pass0 (pa_cons (pv 0) (pa_cons (pv 1) pa_nil))))) (pss_one 
    (ps_raise rfl (takes_of rfl rfl rfl rfl) (pmk_oex GT.o GT.i GT.t GT.F hr2 GT.b .nil pass0 rfl GT.m (pa_cons (pv 1) pa_nil)))) pss_nil) (pss_cons 
  (ps_asg (pv 1) (pg_unl rfl (pgs_cons (pg_name (i := 2) sc_readings_of.nd rfl (Or.inl rfl)) (pgs_cons (pg_name (i := 3) sc_readings_of.nd rfl (Or.inl rfl)) (pgs_cons (pg_name (i := 4) sc_readings_of.nd rfl (Or.inl rfl)) pgs_nil))))) (pss_cons 
  (ps_set (i := 5) sc_readings_of.nd rfl (Or.inl rfl) (pe_meth (pv 0) T.cl GB.M GB.F hr GB.b .nil passL (pa_cons (pv 2) pa_nil))) (pss_cons 
  (ps_set (i := 6) sc_readings_of.nd rfl (Or.inl rfl) (pe_meth (pv 0) T.cl GB.M GB.F hr GB.b .nil passL (pa_cons (pv 3) pa_nil))) (pss_cons 
  (ps_set (i := 7) sc_readings_of.nd rfl (Or.inl rfl) (pe_meth (pv 0) T.cl GB.M GB.F hr GB.b .nil passL (pa_cons (pv 4) pa_nil))) (pss_cons 
  (ps_set (i := 8) sc_readings_of.nd rfl (Or.inl rfl) (pe_lst (pa_cons (pe_tup (pa_cons (pv 2) (pa_cons (pv 3) (pa_cons (pv 4) pa_nil)))) (pa_cons (pe_tup (pa_cons (pv 4) (pa_cons (pv 6) (pa_cons (pv 2) pa_nil)))) (pa_cons (pe_tup (pa_cons (pv 5) (pa_cons (pv 4) (pa_cons (pv 3) pa_nil)))) (pa_cons (pe_tup (pa_cons (pv 3) (pa_cons (pv 7) (pa_cons (pv 5) pa_nil)))) (pa_cons (pe_tup (pa_cons (pv 7) (pa_cons (pv 2) (pa_cons (pv 6) pa_nil)))) (pa_cons (pe_tup (pa_cons (pv 6) (pa_cons (pv 5) (pa_cons (pv 7) pa_nil)))) pa_nil)))))))) (pss_one 
  (ps_ret (pe_callTy (T := "tuple") (r := rTup K) call_tuple_of (by rfl) nt (by decide +kernel) (pa_cons (pe_callB (cr_sortedT rfl) (by rfl) nso (by decide +kernel) (pa_cons (pe_callTy (cr_setOfT rfl hr.units) (by rfl) nse (by decide +kernel) (pa_cons (pv 8) pa_nil)) pa_nil)) pa_nil)))))))))), ?_⟩
      refine ⟨_, rfl, _, rfl, x, ns, _, Sh.lst xs, rfl, hT, ⟨pp, rfl, hp⟩, kn, fun H1 S1 => ⟨_, rfl, ?_⟩⟩
      cases e : threeB ns (.lst xs) with
      | false => exact iteT ⟨_, rfl, mkO_of ((k1 e).mono S1)⟩
      | true =>
        obtain ⟨p, q, r, rfl, ip, iq, ir⟩ := threeB_ints e
        refine iteF ?_
        refine ⟨_, rfl, pp, _, rfl, SqL.of (S1 _ _ hp), rfl, _, _, rfl, _, _, rfl, _, _, rfl, rfl, ?_⟩
        have hT1 := hT.keep S1
        obtain ⟨dx, t, hx, ht⟩ := id hT1
        have nl : (tf t (ns.length : Nat)).lookup ("back" : Str) = none := tf_no _ _ (by decide +kernel) (by decide +kernel)
        refine ⟨_, rfl, x, dx, _, rfl, hx, nl, _, rfl, x, ns, .int p, .sc (.int p), rfl, hT1, ⟨rfl, rfl⟩, fun jp bp e1 e2 => ?_, fun e => tie_no ip e⟩
        obtain rfl := bk_of ip e1 e2
        refine ⟨_, rfl, x, dx, _, rfl, hx, nl, _, rfl, x, ns, .int q, .sc (.int q), rfl, hT1, ⟨rfl, rfl⟩, fun jq bq e1 e2 => ?_, fun e => tie_no iq e⟩
        obtain rfl := bk_of iq e1 e2
        refine ⟨_, rfl, x, dx, _, rfl, hx, nl, _, rfl, x, ns, .int r, .sc (.int r), rfl, hT1, ⟨rfl, rfl⟩, fun jr br e1 e2 => ?_, fun e => tie_no ir e⟩
        obtain rfl := bk_of ir e1 e2
        refine ⟨_, rfl, _, rfl, _, rfl, (by show 3 ≤ sizeLine; decide), fun t1 ht1 => ?_⟩
        have W1 : Same H1 (upd H1 t1 (.tup [.int p, .int q, .int r])) := new_same ht1
        have f1 : (upd H1 t1 (.tup [.int p, .int q, .int r])) t1 = some (.tup [.int p, .int q, .int r]) := upd_same
        generalize upd H1 t1 (.tup [.int p, .int q, .int r]) = K1 at W1 f1
        refine ⟨_, rfl, _, rfl, _, rfl, (by show 3 ≤ sizeLine; decide), fun t2 ht2 => ?_⟩
        have W2 : Same K1 (upd K1 t2 (.tup [.int r, .int (bk ns q), .int p])) := new_same ht2
        have f2 : (upd K1 t2 (.tup [.int r, .int (bk ns q), .int p])) t2 = some (.tup [.int r, .int (bk ns q), .int p]) := upd_same
        generalize upd K1 t2 (.tup [.int r, .int (bk ns q), .int p]) = K2 at W2 f2
        refine ⟨_, rfl, _, rfl, _, rfl, (by show 3 ≤ sizeLine; decide), fun t3 ht3 => ?_⟩
        have W3 : Same K2 (upd K2 t3 (.tup [.int (bk ns p), .int r, .int q])) := new_same ht3
        have f3 : (upd K2 t3 (.tup [.int (bk ns p), .int r, .int q])) t3 = some (.tup [.int (bk ns p), .int r, .int q]) := upd_same
        generalize upd K2 t3 (.tup [.int (bk ns p), .int r, .int q]) = K3 at W3 f3
        refine ⟨_, rfl, _, rfl, _, rfl, (by show 3 ≤ sizeLine; decide), fun t4 ht4 => ?_⟩
        have W4 : Same K3 (upd K3 t4 (.tup [.int q, .int (bk ns r), .int (bk ns p)])) := new_same ht4
        have f4 : (upd K3 t4 (.tup [.int q, .int (bk ns r), .int (bk ns p)])) t4 = some (.tup [.int q, .int (bk ns r), .int (bk ns p)]) := upd_same
        generalize upd K3 t4 (.tup [.int q, .int (bk ns r), .int (bk ns p)]) = K4 at W4 f4
        refine ⟨_, rfl, _, rfl, _, rfl, (by show 3 ≤ sizeLine; decide), fun t5 ht5 => ?_⟩
        have W5 : Same K4 (upd K4 t5 (.tup [.int (bk ns r), .int p, .int (bk ns q)])) := new_same ht5
        have f5 : (upd K4 t5 (.tup [.int (bk ns r), .int p, .int (bk ns q)])) t5 = some (.tup [.int (bk ns r), .int p, .int (bk ns q)]) := upd_same
        generalize upd K4 t5 (.tup [.int (bk ns r), .int p, .int (bk ns q)]) = K5 at W5 f5
        refine ⟨_, rfl, _, rfl, _, rfl, (by show 3 ≤ sizeLine; decide), fun t6 ht6 => ?_⟩
        have W6 : Same K5 (upd K5 t6 (.tup [.int (bk ns q), .int (bk ns p), .int (bk ns r)])) := new_same ht6
        have f6 : (upd K5 t6 (.tup [.int (bk ns q), .int (bk ns p), .int (bk ns r)])) t6 = some (.tup [.int (bk ns q), .int (bk ns p), .int (bk ns r)]) := upd_same
        generalize upd K5 t6 (.tup [.int (bk ns q), .int (bk ns p), .int (bk ns r)]) = K6 at W6 f6
        refine ⟨(by show 6 ≤ sizeLine; decide), fun l hl => ?_⟩
        have W7 : Same K6 (upd K6 l (.lst [.ref t1, .ref t2, .ref t3, .ref t4, .ref t5, .ref t6])) := new_same hl
        have f7 : (upd K6 l (.lst [.ref t1, .ref t2, .ref t3, .ref t4, .ref t5, .ref t6])) l = some (.lst [.ref t1, .ref t2, .ref t3, .ref t4, .ref t5, .ref t6]) := upd_same
        generalize upd K6 l (.lst [.ref t1, .ref t2, .ref t3, .ref t4, .ref t5, .ref t6]) = K7 at W7 f7
        have V6 := W7
        have V5 := W6.trans V6
        have V4 := W5.trans V5
        have V3 := W4.trans V4
        have V2 := W3.trans V3
        have V1 := W2.trans V2
        have S7 : Same H K7 := (S1.trans W1).trans V1
        have hks : ∀ y ∈ ks6 ns p q r t1 t2 t3 t4 t5 t6, K7 y.1 = some (.tup (y.2.map V.int)) := fun y hy => by
          simp only [ks6, List.mem_cons, List.not_mem_nil, or_false] at hy
          rcases hy with rfl | rfl | rfl | rfl | rfl | rfl
          · exact V1 _ _ f1
          · exact V2 _ _ f2
          · exact V3 _ _ f3
          · exact V4 _ _ f4
          · exact V5 _ _ f5
          · exact V6 _ _ f6
        refine ⟨_, rfl, l, ks6 ns p q r t1 t2 t3 t4 t5 t6, rfl, SqL.of f7, fun y hy => SqT.of (hks y hy), (by show 6 < 64; decide), fun a L ha hL1 hL2 => ?_⟩
        have W8 : Same K7 (upd K7 a (SetTO P w a L)) := new_same ha
        have bd : ∀ y ∈ L, y.2.length = 3 ∧ TS.Bd 4 y.2 := fun y hy => six_bd gb ip iq ir _ (ks6_six (hL1 y hy))
        refine ⟨a, L, 3, 4, rfl, upd_same, fun y hy => SqT.of (W8 _ _ (hks y (hL1 y hy))), by decide, bd, fun L' z2 pm nd _ pw hz2 => ?_⟩
        have W9 : Same (upd K7 a (SetTO P w a L)) (upd (upd K7 a (SetTO P w a L)) z2 (.lst (L'.map fun q => V.ref q.1))) := new_same hz2
        have mem' : ∀ y ∈ L', y ∈ L := fun y hy => pm.mem_iff.mp hy
        refine ⟨z2, _, rfl, .inl ⟨SqL.of upd_same, fun z hz => ?_⟩⟩
        have W10 := new_same (o := .tup (L'.map fun q => V.ref q.1)) hz
        refine k2 p q r rfl ip iq ir _ z (L'.map (·.2)) (((S7.trans W8).trans W9).trans W10) (by
            have := same_free W9 hz
            exact same_free S7 (same_free W8 this)) ⟨L'.map (·.1), by rw [upd_same, List.map_map]; rfl, by rw [List.length_map, List.length_map], fun j a' ts e1 e2 => ?_⟩ ⟨?_, fun x => ⟨fun hx => ?_, fun hx => ?_⟩⟩
        · rw [List.getElem?_map] at e1 e2
          cases ej : L'[j]? with
          | none => rw [ej] at e1; cases e1
          | some y =>
            rw [ej] at e1 e2
            obtain rfl := Option.some.inj e1
            obtain rfl := Option.some.inj e2
            have my := mem' y (List.mem_of_getElem? ej)
            exact W10 _ _ (W9 _ _ (W8 _ _ (hks y (hL1 y my))))
        · rw [List.pairwise_map]
          have nd' : L'.Pairwise fun a b => a.2 ≠ b.2 := by
            have : (L'.map (·.2)).Pairwise (· ≠ ·) := nd
            rwa [List.pairwise_map] at this
          refine (pw.and nd').imp_of_mem fun {a b} ma mb h => ?_
          obtain ⟨h1, h2⟩ := h
          rcases Int.lt_or_eq_of_le h1 with h3 | h3
          · exact h3
          · obtain ⟨l1, b1⟩ := bd a (mem' a ma)
            obtain ⟨l2, b2⟩ := bd b (mem' b mb)
            exact absurd (code_inj (by omega) b1 b2 h3) h2
        · obtain ⟨y, hy, rfl⟩ := List.mem_map.mp hx
          exact ks6_six (hL1 y (mem' y hy))
        · obtain ⟨y, hy, rfl⟩ := six_ks6 (t1 := t1) (t2 := t2) (t3 := t3) (t4 := t4) (t5 := t5) (t6 := t6) hx
          obtain ⟨y', hy', e⟩ := List.mem_map.mp (hL2 y hy)
          exact List.mem_map.mpr ⟨y', pm.mem_iff.mpr hy', e⟩
    | tup xs =>
      obtain ⟨pp, rfl, hp⟩ := hv
      refine ⟨_, (pss_cons 
  (ps_if (pt_not (pt_val (pcal GI hr pass0 (pa_cons (pv 0) (pa_cons (pv 1) pa_nil))))) (pss_one 
    (ps_raise rfl (takes_of rfl rfl rfl rfl) (pmk_oex GT.o GT.i GT.t GT.F hr2 GT.b .nil pass0 rfl GT.m (pa_cons (pv 1) pa_nil)))) pss_nil) (pss_cons 
  (ps_asg (pv 1) (pg_tup (by rfl) (pgs_cons (pg_name (i := 2) sc_readings_of.nd rfl (Or.inl rfl)) (pgs_cons (pg_name (i := 3) sc_readings_of.nd rfl (Or.inl rfl)) (pgs_cons (pg_name (i := 4) sc_readings_of.nd rfl (Or.inl rfl)) pgs_nil))))) (pss_cons 
  (ps_set (i := 5) sc_readings_of.nd rfl (Or.inl rfl) (pe_meth (pv 0) T.cl GB.M GB.F hr GB.b .nil passL (pa_cons (pv 2) pa_nil))) (pss_cons 
  (ps_set (i := 6) sc_readings_of.nd rfl (Or.inl rfl) (pe_meth (pv 0) T.cl GB.M GB.F hr GB.b .nil passL (pa_cons (pv 3) pa_nil))) (pss_cons 
  (ps_set (i := 7) sc_readings_of.nd rfl (Or.inl rfl) (pe_meth (pv 0) T.cl GB.M GB.F hr GB.b .nil passL (pa_cons (pv 4) pa_nil))) (pss_cons 
  (ps_set (i := 8) sc_readings_of.nd rfl (Or.inl rfl) (pe_lst (pa_cons (pe_tup (pa_cons (pv 2) (pa_cons (pv 3) (pa_cons (pv 4) pa_nil)))) (pa_cons (pe_tup (pa_cons (pv 4) (pa_cons (pv 6) (pa_cons (pv 2) pa_nil)))) (pa_cons (pe_tup (pa_cons (pv 5) (pa_cons (pv 4) (pa_cons (pv 3) pa_nil)))) (pa_cons (pe_tup (pa_cons (pv 3) (pa_cons (pv 7) (pa_cons (pv 5) pa_nil)))) (pa_cons (pe_tup (pa_cons (pv 7) (pa_cons (pv 2) (pa_cons (pv 6) pa_nil)))) (pa_cons (pe_tup (pa_cons (pv 6) (pa_cons (pv 5) (pa_cons (pv 7) pa_nil)))) pa_nil)))))))) (pss_one 
  (ps_ret (pe_callTy (T := "tuple") (r := rTup K) call_tuple_of (by rfl) nt (by decide +kernel) (pa_cons (pe_callB (cr_sortedT rfl) (by rfl) nso (by decide +kernel) (pa_cons (pe_callTy (cr_setOfT rfl hr.units) (by rfl) nse (by decide +kernel) (pa_cons (pv 8) pa_nil)) pa_nil)) pa_nil)))))))))), ?_⟩
      refine ⟨_, rfl, _, rfl, x, ns, _, Sh.tup xs, rfl, hT, ⟨pp, rfl, hp⟩, kn, fun H1 S1 => ⟨_, rfl, ?_⟩⟩
      cases e : threeB ns (.tup xs) with
      | false => exact iteT ⟨_, rfl, mkO_of ((k1 e).mono S1)⟩
      | true =>
        obtain ⟨p, q, r, rfl, ip, iq, ir⟩ := threeB_ints e
        refine iteF ?_
        refine ⟨_, rfl, pp, _, rfl, SqT.of (S1 _ _ hp), rfl, _, _, rfl, _, _, rfl, _, _, rfl, rfl, ?_⟩
        have hT1 := hT.keep S1
        obtain ⟨dx, t, hx, ht⟩ := id hT1
        have nl : (tf t (ns.length : Nat)).lookup ("back" : Str) = none := tf_no _ _ (by decide +kernel) (by decide +kernel)
        refine ⟨_, rfl, x, dx, _, rfl, hx, nl, _, rfl, x, ns, .int p, .sc (.int p), rfl, hT1, ⟨rfl, rfl⟩, fun jp bp e1 e2 => ?_, fun e => tie_no ip e⟩
        obtain rfl := bk_of ip e1 e2
        refine ⟨_, rfl, x, dx, _, rfl, hx, nl, _, rfl, x, ns, .int q, .sc (.int q), rfl, hT1, ⟨rfl, rfl⟩, fun jq bq e1 e2 => ?_, fun e => tie_no iq e⟩
        obtain rfl := bk_of iq e1 e2
        refine ⟨_, rfl, x, dx, _, rfl, hx, nl, _, rfl, x, ns, .int r, .sc (.int r), rfl, hT1, ⟨rfl, rfl⟩, fun jr br e1 e2 => ?_, fun e => tie_no ir e⟩
        obtain rfl := bk_of ir e1 e2
        refine ⟨_, rfl, _, rfl, _, rfl, (by show 3 ≤ sizeLine; decide), fun t1 ht1 => ?_⟩
        have W1 : Same H1 (upd H1 t1 (.tup [.int p, .int q, .int r])) := new_same ht1
        have f1 : (upd H1 t1 (.tup [.int p, .int q, .int r])) t1 = some (.tup [.int p, .int q, .int r]) := upd_same
        generalize upd H1 t1 (.tup [.int p, .int q, .int r]) = K1 at W1 f1
        refine ⟨_, rfl, _, rfl, _, rfl, (by show 3 ≤ sizeLine; decide), fun t2 ht2 => ?_⟩
        have W2 : Same K1 (upd K1 t2 (.tup [.int r, .int (bk ns q), .int p])) := new_same ht2
        have f2 : (upd K1 t2 (.tup [.int r, .int (bk ns q), .int p])) t2 = some (.tup [.int r, .int (bk ns q), .int p]) := upd_same
        generalize upd K1 t2 (.tup [.int r, .int (bk ns q), .int p]) = K2 at W2 f2
        refine ⟨_, rfl, _, rfl, _, rfl, (by show 3 ≤ sizeLine; decide), fun t3 ht3 => ?_⟩
        have W3 : Same K2 (upd K2 t3 (.tup [.int (bk ns p), .int r, .int q])) := new_same ht3
        have f3 : (upd K2 t3 (.tup [.int (bk ns p), .int r, .int q])) t3 = some (.tup [.int (bk ns p), .int r, .int q]) := upd_same
        generalize upd K2 t3 (.tup [.int (bk ns p), .int r, .int q]) = K3 at W3 f3
        refine ⟨_, rfl, _, rfl, _, rfl, (by show 3 ≤ sizeLine; decide), fun t4 ht4 => ?_⟩
        have W4 : Same K3 (upd K3 t4 (.tup [.int q, .int (bk ns r), .int (bk ns p)])) := new_same ht4
        have f4 : (upd K3 t4 (.tup [.int q, .int (bk ns r), .int (bk ns p)])) t4 = some (.tup [.int q, .int (bk ns r), .int (bk ns p)]) := upd_same
        generalize upd K3 t4 (.tup [.int q, .int (bk ns r), .int (bk ns p)]) = K4 at W4 f4
        refine ⟨_, rfl, _, rfl, _, rfl, (by show 3 ≤ sizeLine; decide), fun t5 ht5 => ?_⟩
        have W5 : Same K4 (upd K4 t5 (.tup [.int (bk ns r), .int p, .int (bk ns q)])) := new_same ht5
        have f5 : (upd K4 t5 (.tup [.int (bk ns r), .int p, .int (bk ns q)])) t5 = some (.tup [.int (bk ns r), .int p, .int (bk ns q)]) := upd_same
        generalize upd K4 t5 (.tup [.int (bk ns r), .int p, .int (bk ns q)]) = K5 at W5 f5
        refine ⟨_, rfl, _, rfl, _, rfl, (by show 3 ≤ sizeLine; decide), fun t6 ht6 => ?_⟩
        have W6 : Same K5 (upd K5 t6 (.tup [.int (bk ns q), .int (bk ns p), .int (bk ns r)])) := new_same ht6
        have f6 : (upd K5 t6 (.tup [.int (bk ns q), .int (bk ns p), .int (bk ns r)])) t6 = some (.tup [.int (bk ns q), .int (bk ns p), .int (bk ns r)]) := upd_same
        generalize upd K5 t6 (.tup [.int (bk ns q), .int (bk ns p), .int (bk ns r)]) = K6 at W6 f6
        refine ⟨(by show 6 ≤ sizeLine; decide), fun l hl => ?_⟩
        have W7 : Same K6 (upd K6 l (.lst [.ref t1, .ref t2, .ref t3, .ref t4, .ref t5, .ref t6])) := new_same hl
        have f7 : (upd K6 l (.lst [.ref t1, .ref t2, .ref t3, .ref t4, .ref t5, .ref t6])) l = some (.lst [.ref t1, .ref t2, .ref t3, .ref t4, .ref t5, .ref t6]) := upd_same
        generalize upd K6 l (.lst [.ref t1, .ref t2, .ref t3, .ref t4, .ref t5, .ref t6]) = K7 at W7 f7
        have V6 := W7
        have V5 := W6.trans V6
        have V4 := W5.trans V5
        have V3 := W4.trans V4
        have V2 := W3.trans V3
        have V1 := W2.trans V2
        have S7 : Same H K7 := (S1.trans W1).trans V1
        have hks : ∀ y ∈ ks6 ns p q r t1 t2 t3 t4 t5 t6, K7 y.1 = some (.tup (y.2.map V.int)) := fun y hy => by
          simp only [ks6, List.mem_cons, List.not_mem_nil, or_false] at hy
          rcases hy with rfl | rfl | rfl | rfl | rfl | rfl
          · exact V1 _ _ f1
          · exact V2 _ _ f2
          · exact V3 _ _ f3
          · exact V4 _ _ f4
          · exact V5 _ _ f5
          · exact V6 _ _ f6
        refine ⟨_, rfl, l, ks6 ns p q r t1 t2 t3 t4 t5 t6, rfl, SqL.of f7, fun y hy => SqT.of (hks y hy), (by show 6 < 64; decide), fun a L ha hL1 hL2 => ?_⟩
        have W8 : Same K7 (upd K7 a (SetTO P w a L)) := new_same ha
        have bd : ∀ y ∈ L, y.2.length = 3 ∧ TS.Bd 4 y.2 := fun y hy => six_bd gb ip iq ir _ (ks6_six (hL1 y hy))
        refine ⟨a, L, 3, 4, rfl, upd_same, fun y hy => SqT.of (W8 _ _ (hks y (hL1 y hy))), by decide, bd, fun L' z2 pm nd _ pw hz2 => ?_⟩
        have W9 : Same (upd K7 a (SetTO P w a L)) (upd (upd K7 a (SetTO P w a L)) z2 (.lst (L'.map fun q => V.ref q.1))) := new_same hz2
        have mem' : ∀ y ∈ L', y ∈ L := fun y hy => pm.mem_iff.mp hy
        refine ⟨z2, _, rfl, .inl ⟨SqL.of upd_same, fun z hz => ?_⟩⟩
        have W10 := new_same (o := .tup (L'.map fun q => V.ref q.1)) hz
        refine k2 p q r rfl ip iq ir _ z (L'.map (·.2)) (((S7.trans W8).trans W9).trans W10) (by
            have := same_free W9 hz
            exact same_free S7 (same_free W8 this)) ⟨L'.map (·.1), by rw [upd_same, List.map_map]; rfl, by rw [List.length_map, List.length_map], fun j a' ts e1 e2 => ?_⟩ ⟨?_, fun x => ⟨fun hx => ?_, fun hx => ?_⟩⟩
        · rw [List.getElem?_map] at e1 e2
          cases ej : L'[j]? with
          | none => rw [ej] at e1; cases e1
          | some y =>
            rw [ej] at e1 e2
            obtain rfl := Option.some.inj e1
            obtain rfl := Option.some.inj e2
            have my := mem' y (List.mem_of_getElem? ej)
            exact W10 _ _ (W9 _ _ (W8 _ _ (hks y (hL1 y my))))
        · rw [List.pairwise_map]
          have nd' : L'.Pairwise fun a b => a.2 ≠ b.2 := by
            have : (L'.map (·.2)).Pairwise (· ≠ ·) := nd
            rwa [List.pairwise_map] at this
          refine (pw.and nd').imp_of_mem fun {a b} ma mb h => ?_
          obtain ⟨h1, h2⟩ := h
          rcases Int.lt_or_eq_of_le h1 with h3 | h3
          · exact h3
          · obtain ⟨l1, b1⟩ := bd a (mem' a ma)
            obtain ⟨l2, b2⟩ := bd b (mem' b mb)
            exact absurd (code_inj (by omega) b1 b2 h3) h2
        · obtain ⟨y, hy, rfl⟩ := List.mem_map.mp hx
          exact ks6_six (hL1 y (mem' y hy))
        · obtain ⟨y, hy, rfl⟩ := six_ks6 (t1 := t1) (t2 := t2) (t3 := t3) (t4 := t4) (t5 := t5) (t6 := t6) hx
          obtain ⟨y', hy', e⟩ := List.mem_map.mp (hL2 y hy)
          exact List.mem_map.mpr ⟨y', pm.mem_iff.mpr hy', e⟩
theorem ok_least_reading {f C CT fR : Addr} {fd fdR : FuncData} (F : Fun K "least_reading" "least_reading" s_least_reading f fd) (GR : Cal P w K mg base (L2.CX P w) 4 "readings_of" fR fdR ["ties", "three"] (spReadings C CT)) :
    FnOk P w K mg base (L2.CX P w) 5 f fd ["ties", "three"] (spLeast C CT) := by
  refine F.okX sc_least_reading (fun vs H Q E h => ?_) (fun cdv A outer s H vs Q E hr h => ?_)
  · obtain ⟨x, ns, v, s, rfl, _⟩ := h
    rfl
  · obtain ⟨x, ns, v, s, rfl, hT, gb, hv, kn, k1, k2⟩ := h
    refine ⟨_, (pss_one 
  (ps_ret (pe_ix ix_tup (pcal GR hr (passes_call (takes_of rfl rfl rfl rfl) (fun _ _ _ _ h => h)) (pa_cons (pv 0) (pa_cons (pv 1) pa_nil))) pe_int (fun _ _ => rfl)))), ?_⟩
    refine ⟨_, rfl, _, rfl, x, ns, v, s, rfl, hT, gb, hv, kn, k1, fun p q r e ip iq ir H1 z L S1 nz TA R => ?_⟩
    cases L with
    | nil =>
      have : [p, q, r] ∈ ([] : List (List Int)) := (R.2 _).mpr (by simp [six])
      cases this
    | cons t L =>
      obtain ⟨ps, e1, e2, e3⟩ := TA
      obtain ⟨a, ps', rfl⟩ : ∃ a ps', ps = a :: ps' := match ps, e2 with | a :: ps', _ => ⟨a, ps', rfl⟩
      exact ⟨_, _, _, _, rfl, rfl, SqT.of e1, at_of (j := 0) (v := .ref a) rfl rfl, k2 p q r e ip iq ir H1 a t L S1 (e3 0 a t rfl rfl) R⟩
end
end J

set_option Elab.async false
set_option linter.all false
set_option maxRecDepth 100000
set_option maxHeartbeats 8000000
namespace J
open PySem PySem.Spec PyProof.Rows L2
/-! ### ranges in comprehensions of several clauses -/
theorem bFor_range {lo : Int} {n : Nat} {g : TG} {vs : List Nat} {σ : L2.St} {H0 : Hp} {body : TB} {Nx : Hp → Prop} (Pv : Nat → Hp → Prop) (h0 : Pv 0 H0)
    (hs : ∀ i H, i < n → Pv i H → g (.int (lo + i)) (wipe σ vs) H fun σ3 H5 => wipe σ3 vs = wipe σ vs ∧ body σ3 H5 (Pv (i + 1))) (hd : ∀ H, Pv n H → Nx H) :
    ∃ W : Nat → Nat → Hp → Prop, (∃ m, W 0 m H0) ∧ ∀ j k H, W j k H →
      ((Itr lo n).stop j H ∧ Nx H) ∨ ((Itr lo n).go j H ∧ ∃ N1 : Hp → Prop, (∀ H', N1 H' → ∃ k', k' < k ∧ W (j + 1) k' H') ∧ ∀ x H', (Itr lo n).yld j H x H' → g x (wipe σ vs) H' fun σ3 H5 => wipe σ3 vs = wipe σ vs ∧ body σ3 H5 N1) := by
  refine ⟨fun j k H => k + j = n ∧ Pv j H, ⟨n, rfl, h0⟩, fun j k H ⟨e, p⟩ => ?_⟩
  rcases Nat.lt_or_ge j n with c | c
  · exact .inr ⟨c, Pv (j + 1), fun H' p' => ⟨k - 1, by omega, by omega, p'⟩, fun x H' ⟨e1, e2⟩ => by subst e1 e2; exact hs j _ c p⟩
  · obtain rfl : j = n := by omega
    exact .inl ⟨c, hd H p⟩
/-! ### all threes -/
def A1 (p q k : Nat) : List (List Int) := (List.range k).map fun r : Nat => [(p : Int), (q : Int), ((r : Nat) : Int)]
def A2 (n p j : Nat) : List (List Int) := (List.range j).flatMap fun q => A1 p q n
def A3 (n i : Nat) : List (List Int) := (List.range i).flatMap fun p => A2 n p n
theorem A1_succ (p q k : Nat) : A1 p q (k + 1) = A1 p q k ++ [[(p : Int), (q : Int), (k : Int)]] := by
  unfold A1
  rw [List.range_succ, List.map_append]
  rfl
theorem A2_succ (n p j : Nat) : A2 n p (j + 1) = A2 n p j ++ A1 p j n := by
  unfold A2
  rw [List.range_succ, List.flatMap_append]
  simp
theorem A3_succ (n i : Nat) : A3 n (i + 1) = A3 n i ++ A2 n i n := by
  unfold A3
  rw [List.range_succ, List.flatMap_append]
  simp
theorem A_len : ∀ n, n ≤ 4 → ∀ i, i < n → ∀ j, j < n → ∀ k, k < n → (A3 n i ++ A2 n i j ++ A1 i j k).length ≤ 64 := by decide +kernel
theorem A3_len : ∀ n, n ≤ 4 → (A3 n n).length ≤ 64 := by decide +kernel
theorem A3_mem {n : Nat} {t : List Int} : t ∈ A3 n n ↔ ∃ p q r : Nat, p < n ∧ q < n ∧ r < n ∧ t = [(p : Int), (q : Int), (r : Int)] := by
  unfold A3 A2 A1
  simp only [List.mem_flatMap, List.mem_map, List.mem_range]
  constructor
  · rintro ⟨p, hp, q, hq, r, hr, rfl⟩
    exact ⟨p, q, r, hp, hq, hr, rfl⟩
  · rintro ⟨p, q, r, hp, hq, hr, rfl⟩
    exact ⟨p, hp, q, hq, r, hr, rfl⟩
/-- tuples that were put one behind another into the list at D -/
structure Gro (H1 H : Hp) (D : Addr) (L : List (List Int)) : Prop where
  S : Same H1 H
  n : H1 D = none
  d : ∃ ps : List Addr, H D = some (.lst (ps.map V.ref)) ∧ ps.length = L.length ∧ ∀ (j : Nat) (a : Addr) (ts : List Int), ps[j]? = some a → L[j]? = some ts → a ≠ D ∧ H a = some (.tup (ts.map V.int))
theorem Gro.nil {H1 : Hp} {D : Addr} (hD : H1 D = none) : Gro H1 (upd H1 D (.lst [])) D [] := ⟨new_same hD, hD, [], upd_same, rfl, fun j a ts e => by simp at e⟩
theorem Gro.snoc {H1 H : Hp} {D z : Addr} {L : List (List Int)} {ts : List Int} (G : Gro H1 H D L) (hz : H z = none) : ∃ acc, (upd H z (.tup (ts.map V.int))) D = some (.lst acc) ∧ acc.length = L.length ∧ Gro H1 (upd (upd H z (.tup (ts.map V.int))) D (.lst (acc ++ [.ref z]))) D (L ++ [ts]) := by
  obtain ⟨ps, e1, e2, e3⟩ := G.d
  have nz : z ≠ D := (ne_of_none e1 hz).symm
  refine ⟨ps.map V.ref, new_same hz _ _ e1, by rw [List.length_map, e2], fun b o e => ?_, G.n, ps ++ [z], by rw [upd_same, List.map_append]; rfl, by rw [List.length_append, List.length_append, e2]; rfl, fun j a us q1 q2 => ?_⟩
  · rw [upd_ne (ne_of_none e G.n), upd_ne (ne_of_none (G.S _ _ e) hz)]
    exact G.S _ _ e
  · rcases Nat.lt_or_ge j ps.length with hj | hj
    · rw [List.getElem?_append_left hj] at q1
      rw [List.getElem?_append_left (by omega)] at q2
      obtain ⟨w1, w2⟩ := e3 j a us q1 q2
      exact ⟨w1, by rw [upd_ne w1, upd_ne (ne_of_none w2 hz)]; exact w2⟩
    · have hj2 : j = ps.length := by
        have := (List.getElem?_eq_some_iff.mp q1).1
        rw [List.length_append] at this
        have l : [z].length = 1 := rfl
        omega
      subst hj2
      rw [List.getElem?_append_right (Nat.le_refl _), Nat.sub_self] at q1
      rw [e2, List.getElem?_append_right (Nat.le_refl _), Nat.sub_self] at q2
      obtain rfl : z = a := Option.some.inj q1
      obtain rfl : ts = us := Option.some.inj q2
      exact ⟨nz, by rw [upd_ne nz, upd_same]⟩
theorem Gro.tup {H1 H : Hp} {D z : Addr} {L : List (List Int)} {acc : List V} (G : Gro H1 H D L) (e : H D = some (.lst acc)) (hz : H z = none) : TupsAt (upd H z (.tup acc)) z L := by
  obtain ⟨ps, e1, e2, e3⟩ := G.d
  rw [e1] at e
  injection e with e
  injection e with e
  refine ⟨ps, by rw [upd_same, e], e2, fun j a ts q1 q2 => ?_⟩
  exact new_same hz _ _ (e3 j a ts q1 q2).2
def spAll (C : Addr) : Sp := fun vs H Q _ => ∃ (x : Addr) (ns : List Int), vs = [.ref x] ∧ TiesAt C H x ns ∧ GoodB ns ∧ ∀ (H' : Hp) (z : Addr), Same H H' → H z = none → TupsAt H' z (A3 ns.length ns.length) → Q (.ref z) H'
section
variable {P : Program} {w : World} {K : PySem.W.Frag} {mg : Str → Option Value} {base : Heap}
end
end J

set_option Elab.async false
set_option linter.all false
set_option maxRecDepth 100000
set_option maxHeartbeats 8000000
namespace J
open PySem PySem.Spec PyProof.Rows L2
/-! ### the classes of readings -/
def isL (ns : List Int) : List Int → Bool
  | [p, q, r] => (six ns p q r).all fun x => decide (TS.code 4 [p, q, r] ≤ TS.code 4 x)
  | _ => false
theorem isL_iff {ns : List Int} {p q r : Int} {t : List Int} {L : List (List Int)} (R : RdL ns p q r (t :: L)) : decide ([p, q, r] = t) = isL ns [p, q, r] := by
  obtain ⟨pw, mem⟩ := R
  have low := (List.pairwise_cons.mp pw).1
  have tm : t ∈ six ns p q r := (mem t).mp (List.mem_cons_self ..)
  have me : [p, q, r] ∈ t :: L := (mem _).mpr (by simp [six])
  have lo : ∀ x ∈ six ns p q r, TS.code 4 t ≤ TS.code 4 x := fun x hx => by
    rcases List.mem_cons.mp ((mem x).mpr hx) with e | e
    · rw [e]; exact Int.le_refl _
    · exact Int.le_of_lt (low x e)
  show decide ([p, q, r] = t) = (six ns p q r).all fun x => decide (TS.code 4 [p, q, r] ≤ TS.code 4 x)
  by_cases h : [p, q, r] = t
  · rw [decide_eq_true h, eq_comm, List.all_eq_true]
    exact fun x hx => decide_eq_true (by rw [h]; exact lo x hx)
  · rw [decide_eq_false h, eq_comm, List.all_eq_false]
    refine ⟨t, tm, fun z => ?_⟩
    have z := of_decide_eq_true z
    rcases List.mem_cons.mp me with e | e
    · exact h e
    · have := low _ e
      omega
theorem A3_in {n : Nat} {t : List Int} (h : t ∈ A3 n n) {ns : List Int} (e : ns.length = n) : ∃ p q r, t = [p, q, r] ∧ InT ns p ∧ InT ns q ∧ InT ns r := by
  obtain ⟨p, q, r, hp, hq, hr, rfl⟩ := A3_mem.mp h
  exact ⟨_, _, _, rfl, ⟨by omega, by omega⟩, ⟨by omega, by omega⟩, ⟨by omega, by omega⟩⟩
theorem ints_known {H : Hp} (ts : List Int) : Known H (ts.map V.int) := fun y hy => by
  obtain ⟨n, _, rfl⟩ := List.mem_map.mp hy
  exact ⟨.sc (.int n), rfl, rfl⟩
def spNo : Sp := fun _ _ _ _ => False
def spP0 : Sp := fun vs H Q _ => ((∃ n : Int, vs = [.int n, .int n]) ∨ ∃ b : Bool, vs = [.bl b, .bl b]) ∧ Q (.bl true) H
def spP1 : Sp := fun vs H Q _ => ∃ (a b : Addr) (ts : List Int), vs = [.ref a, .ref b] ∧ H a = some (.tup (ts.map V.int)) ∧ H b = some (.tup (ts.map V.int)) ∧ ∀ H', Same H H' → Q (.bl true) H'
def spP2 : Sp := fun vs H Q _ => ∃ (a b : Addr) (L : List (List Int)), vs = [.ref a, .ref b] ∧ TupsAt H a L ∧ TupsAt H b L ∧ ∀ H', Same H H' → Q (.bl true) H'
section
variable {P : Program} {w : World} {K : PySem.W.Frag} {mg : Str → Option Value} {base : Heap}
theorem fn_no {CX : CXT} {k : Nat} {f : Addr} {fd : FuncData} {ps : List Str} : FnOk P w K mg base CX k f fd ps spNo := ⟨fun _ _ _ _ h => h.elim, fun _ _ _ _ _ _ _ _ _ _ _ _ _ h => h.elim⟩
end
end J

set_option Elab.async false
set_option linter.all false
set_option maxRecDepth 100000
set_option maxHeartbeats 8000000
namespace J
open PySem PySem.Spec PyProof.Rows L2
abbrev s_Lpick : Stmt := top 42
theorem sc_Lpick : FnScope ["_law_hand_here", "_law_things"] ["_law_hand_here", "_law_things"] (defScope s_Lpick) := ⟨rfl, rfl, rfl, by decide +kernel, rfl, by decide +kernel, by decide +kernel⟩
def spPick : Sp := fun vs H Q _ => ∃ (h q l : Addr) (xs : List V), vs = [.ref h, .ref l] ∧ Hand H h q ∧ l ≠ h ∧ H l = some (.lst xs) ∧ 0 < xs.length ∧ xs.length ≤ 1000 ∧ ∀ (H' : Hp) (y : V), y ∈ xs → But h H H' → Hand H' h q → Q y H'

def addAll (L : List (List Int)) : List (List Int) → List (List Int)
  | [] => L
  | t :: ts => addAll (if t ∈ L then L else L ++ [t]) ts
theorem addAll_snoc : ∀ {ts : List (List Int)} {L : List (List Int)} {t : List Int}, addAll L (ts ++ [t]) = if t ∈ addAll L ts then addAll L ts else addAll L ts ++ [t]
  | [], L, t => rfl
  | x :: ts, L, t => addAll_snoc (ts := ts)
theorem addAll_len : ∀ {ts L : List (List Int)}, (addAll L ts).length ≤ L.length + ts.length
  | [], L => by simp [addAll]
  | t :: ts, L => by
    have h := addAll_len (ts := ts) (L := if t ∈ L then L else L ++ [t])
    show (addAll (if t ∈ L then L else L ++ [t]) ts).length ≤ _
    rw [List.length_cons]
    split at h
    · rename_i c; rw [if_pos c]; omega
    · rename_i c; rw [if_neg c]; rw [List.length_append] at h; simp at h; omega
theorem addAll_mem : ∀ {ts L : List (List Int)} {x : List Int}, x ∈ addAll L ts ↔ x ∈ L ∨ x ∈ ts
  | [], L, x => by simp [addAll]
  | t :: ts, L, x => by
    show x ∈ addAll (if t ∈ L then L else L ++ [t]) ts ↔ _
    rw [addAll_mem, List.mem_cons]
    by_cases c : t ∈ L
    · rw [if_pos c]
      constructor
      · rintro (h | h) <;> simp [h]
      · rintro (h | h | h)
        · exact .inl h
        · exact .inl (h ▸ c)
        · exact .inr h
    · rw [if_neg c, List.mem_append, List.mem_singleton, or_assoc]
theorem addAll_nodup : ∀ {ts L : List (List Int)}, L.Nodup → (addAll L ts).Nodup
  | [], L, h => h
  | t :: ts, L, h => by
    show (addAll (if t ∈ L then L else L ++ [t]) ts).Nodup
    refine addAll_nodup ?_
    by_cases c : t ∈ L
    · rw [if_pos c]; exact h
    · rw [if_neg c, List.nodup_append]
      exact ⟨h, by simp, fun a ha b hb => by rw [List.mem_singleton] at hb; subst hb; exact fun e => c (e ▸ ha)⟩
theorem units65 {k : Nat} {A : Around} (r : Room k A) : A.units + 65 < cLine := by have := r.un; omega
theorem perm_map_inv {α β : Type} {f : α → β} : ∀ {ys ws : List β}, ys.Perm ws → ∀ {zs : List α}, ws = zs.map f → ∃ zs' : List α, zs'.Perm zs ∧ ys = zs'.map f := by
  intro ys ws h
  induction h with
  | nil => intro zs e; exact ⟨[], by rw [List.eq_nil_of_map_eq_nil e.symm], rfl⟩
  | cons x h ih =>
    intro zs e
    cases zs with
    | nil => cases e
    | cons z zs =>
      rw [List.map_cons] at e
      injection e with e1 e2
      obtain ⟨zs', p, q⟩ := ih e2
      exact ⟨z :: zs', p.cons z, by rw [List.map_cons, e1, q]⟩
  | swap x y l =>
    intro zs e
    match zs, e with
    | a :: b :: r, e =>
      rw [List.map_cons, List.map_cons] at e
      injection e with e1 e2
      injection e2 with e2 e3
      exact ⟨b :: a :: r, List.Perm.swap a b r, by rw [List.map_cons, List.map_cons, e1, e2, e3]⟩
  | trans h1 h2 ih1 ih2 =>
    intro zs e
    obtain ⟨zs', p, q⟩ := ih2 e
    obtain ⟨zs2, p2, q2⟩ := ih1 q
    exact ⟨zs2, p2.trans p, q2⟩
theorem Gro.keep {H1 H H' : Hp} {D : Addr} {L : List (List Int)} (G : Gro H1 H D L) (S : Same H H') : Gro H1 H' D L := by
  obtain ⟨ps, e1, e2, e3⟩ := G.d
  exact ⟨G.S.trans S, G.n, ps, S _ _ e1, e2, fun j a ts q1 q2 => ⟨(e3 j a ts q1 q2).1, S _ _ (e3 j a ts q1 q2).2⟩⟩
theorem Gro.app {H1 H : Hp} {D z : Addr} {L : List (List Int)} {ts : List Int} (G : Gro H1 H D L) (ez : H z = some (.tup (ts.map V.int))) : ∃ acc, H D = some (.lst acc) ∧ acc.length = L.length ∧ Gro H1 (upd H D (.lst (acc ++ [.ref z]))) D (L ++ [ts]) := by
  obtain ⟨ps, e1, e2, e3⟩ := G.d
  have nz : z ≠ D := ne_of ez e1 (by intro z; cases z)
  refine ⟨ps.map V.ref, e1, by rw [List.length_map, e2], fun b o e => ?_, G.n, ps ++ [z], by rw [upd_same, List.map_append]; rfl, by rw [List.length_append, List.length_append, e2]; rfl, fun j a us q1 q2 => ?_⟩
  · rw [upd_ne (ne_of_none e G.n)]
    exact G.S _ _ e
  · rcases Nat.lt_or_ge j ps.length with hj | hj
    · rw [List.getElem?_append_left hj] at q1
      rw [List.getElem?_append_left (by omega)] at q2
      obtain ⟨w1, w2⟩ := e3 j a us q1 q2
      exact ⟨w1, by rw [upd_ne w1]; exact w2⟩
    · have hj2 : j = ps.length := by
        have := (List.getElem?_eq_some_iff.mp q1).1
        rw [List.length_append] at this
        have l : [z].length = 1 := rfl
        omega
      subst hj2
      rw [List.getElem?_append_right (Nat.le_refl _), Nat.sub_self] at q1
      rw [e2, List.getElem?_append_right (Nat.le_refl _), Nat.sub_self] at q2
      obtain rfl : z = a := Option.some.inj q1
      obtain rfl : ts = us := Option.some.inj q2
      exact ⟨nz, by rw [upd_ne nz]; exact ez⟩
/-- lists of tuples as data -/
def tupsD (L : List (List Int)) : List PyData := L.map fun ts => .tuple (ts.map PyData.int)
theorem lay_tupsD : ∀ L : List (List Int), PyData.canLayAll0 (tupsD L) = true ∧ PyData.depthAll (tupsD L) ≤ 2
  | [] => by simp [tupsD, PyData.canLayAll0, PyData.depthAll]
  | t :: ts => by
    obtain ⟨a, b⟩ := lay_tupsD ts
    have h1 := ints_lay t
    have h2 := ints_depth t
    refine ⟨?_, ?_⟩
    · show (PyData.canLay0 (.tuple (t.map PyData.int)) && PyData.canLayAll0 (tupsD ts)) = true
      rw [a, Bool.and_true]
      simp only [PyData.canLay0]
      exact h1
    · show max (PyData.depth (.tuple (t.map PyData.int))) (PyData.depthAll (tupsD ts)) ≤ 2
      simp only [PyData.depth]
      omega
theorem shaped_tupsD (L : List (List Int)) : SeqAt.shaped (.list (tupsD L)) = true := by
  obtain ⟨a, b⟩ := lay_tupsD L
  show (PyData.canLay0 (.list (tupsD L)) && decide (PyData.depth (.list (tupsD L)) ≤ 64)) = true
  rw [Bool.and_eq_true]
  refine ⟨by simp only [PyData.canLay0]; exact a, decide_eq_true ?_⟩
  simp only [PyData.depth]
  omega
theorem dp_tupsD {K : PySem.W.Frag} {H : Hp} : ∀ {ps : List Addr} {L : List (List Int)}, ps.length = L.length → (∀ (j : Nat) (a : Addr) (ts : List Int), ps[j]? = some a → L[j]? = some ts → H a = some (.tup (ts.map V.int))) → DpAll K H (ps.map V.ref) (tupsD L)
  | [], [], _, _ => .nil
  | [], _ :: _, h, _ => by cases h
  | _ :: _, [], h, _ => by cases h
  | p :: ps, t :: ts, h, f => .cons (.tup (SqT.of (f 0 p t rfl rfl)) (dp_ints t)) (dp_tupsD (Nat.succ.inj h) fun j a b e1 e2 => f (j + 1) a b (by simpa using e1) (by simpa using e2))
theorem Gro.data {K : PySem.W.Frag} {H1 H : Hp} {D : Addr} {L : List (List Int)} (G : Gro H1 H D L) : Dp K H (.ref D) (.list (tupsD L)) ∧ SeqAt.shaped (.list (tupsD L)) = true := by
  obtain ⟨ps, e1, e2, e3⟩ := G.d
  exact ⟨.lst (SqL.of e1) (dp_tupsD e2 fun j a ts q1 q2 => (e3 j a ts q1 q2).2), shaped_tupsD L⟩
theorem any_tup {t : List Int} : ∀ {L : List (List Int)}, ((tupsD L).any fun z => PyData.eqv z (.tuple (t.map PyData.int))) = decide (t ∈ L)
  | [] => by simp [tupsD]
  | u :: L => by
    have ih := any_tup (t := t) (L := L)
    show (PyData.eqv (.tuple (u.map PyData.int)) (.tuple (t.map PyData.int)) || (tupsD L).any fun z => PyData.eqv z (.tuple (t.map PyData.int))) = _
    rw [eqv_ti, ih]
    by_cases h : u = t
    · simp [h]
    · have h' : ¬ t = u := fun e => h e.symm
      simp [h, h']
def LstsAt (H : Hp) (z : Addr) (L : List (List Int)) : Prop := ∃ ps : List Addr, H z = some (.lst (ps.map V.ref)) ∧ ps.length = L.length ∧ ∀ (j : Nat) (a : Addr) (ts : List Int), ps[j]? = some a → L[j]? = some ts → H a = some (.tup (ts.map V.int))
theorem LstsAt.keep {H H' : Hp} {z : Addr} {L : List (List Int)} (h : LstsAt H z L) (S : Same H H') : LstsAt H' z L := by
  obtain ⟨ps, a, b, c⟩ := h
  exact ⟨ps, S _ _ a, b, fun j x ts e1 e2 => S _ _ (c j x ts e1 e2)⟩
def spShape : Sp := fun vs H Q _ => ∃ (h q t : Addr) (ts : List Int), vs = [.ref h, .ref t] ∧ Hand H h q ∧ H t = some (.tup (ts.map V.int)) ∧ ∀ (H' : Hp) (z : Addr) (s : Sh), But h H H' → Hand H' h q → Is H' (.ref z) s → items s = ts.map V.int → (s.isL || s.isT) = true → z ≠ h → Q (.ref z) H'
section
variable {P : Program} {w : World} {K : PySem.W.Frag} {mg : Str → Option Value} {base : Heap}
theorem ok_Lpick {f fD : Addr} {fd fdD : FuncData} (F : Fun K "_law_pick" "_law_pick" s_Lpick f fd) (nl : mg "len" = none) (GD : Cal P w K mg base CX0 2 "_law_draw" fD fdD ["_law_hand_here", "_law_many"] spDraw) : FnOk P w K mg base CX0 3 f fd ["_law_hand_here", "_law_things"] spPick := by
  refine F.ok sc_Lpick (fun vs H Q E h => ?_) (fun cdv A outer s H vs Q E hr h => ?_)
  · obtain ⟨h, q, l, xs, rfl, _⟩ := h
    rfl
  · obtain ⟨h, q, l, xs, rfl, hh, nlh, el, g0, g1, k⟩ := h
    refine ⟨_, (pss_one (ps_ret (pe_ix ix_list (pv 1) (pcal GD hr pass0 (pa_cons (pv 0) (pa_cons (pe_callB call_len_seq (by rfl) nl PySem.boot_len (pa_cons (pv 1) pa_nil)) pa_nil))) (fun _ _ => rfl)))), ?_⟩
    refine ⟨_, rfl, _, rfl, _, rfl, l, xs, rfl, .inl (SqL.of el), h, q, _, rfl, by omega, by omega, hh, fun v H1 v0 v1 b1 h1 => ?_⟩
    have hv : v.toNat < xs.length := by omega
    exact ⟨l, xs, v, xs[v.toNat], rfl, rfl, SqL.of (b1 _ _ nlh el), at_of (j := v.toNat) (by omega) (List.getElem?_eq_getElem hv), k H1 _ (List.getElem_mem hv) b1 h1⟩

end
end J

set_option Elab.async false
set_option linter.all false
set_option maxRecDepth 100000
set_option maxHeartbeats 8000000
namespace J
open PySem PySem.Spec PyProof.Rows L2
/-! ### isinstance of the caught error, an error with fields -/
def rIsX (K : PySem.W.Frag) (C a : Addr) (cls : Value) (d : Option Addr) : List V → Hp → VK → Prop := fun xs H Q => ∃ (c : V) (cv : Value) (b : Bool) (dd : Addr) (fs : List (Str × V)), xs = [.ref a, c] ∧ cls = .ref C ∧ d = some dd ∧ H dd = some (.xd fs) ∧ ClsV c cv ∧ PySem.W.kitOne K (.ref C) cv = some b ∧ Q (.bl b) H
theorem call_isX {X : Cx} {a C : Addr} {oe : Obj} {cls : Value} {d : Option Addr} {pn : List (Addr × Obj)} (E : ExcC X.K C) (hz : Zc cls d oe) (hf : ∃ vs, oe.data = .fields vs) : CallR (X.suite a ((a, oe) :: pn)) (.builtin "isinstance") (rIsX X.K C a cls d) := by
  intro pins s σ H xs us Q I r h
  obtain ⟨c, cv, b, dd, fs, rfl, rfl, rfl, ea, k, e, q⟩ := h
  obtain ⟨u1, u2, rfl, r1, r2⟩ := vals2 r
  have e2 := k.eq r2
  subst e2
  obtain rfl : u1 = Value.ref a := r1
  obtain ⟨hget, _⟩ := I.pin (a, oe) (List.mem_append_left _ List.mem_cons_self)
  obtain ⟨vs, hd⟩ := hf
  have hx : ObjOk X.prog X.w H s.heap dd (.xd fs) := I.hok dd _ ea
  obtain ⟨mA, hns, hr⟩ := hx
  obtain ⟨od, ho, hl⟩ := lookIn_ns hns
  have J : PySem.W.InstAt s.heap a oe C (some od) := ⟨hget, hz.1, by unfold PySem.W.notCls; rw [hd] <;> rfl, by rw [hz.2]; exact ho⟩
  have hcl : (PySem.W.clsIn X.K C).isSome = true := by
    obtain ⟨cd, hc, _⟩ := PySem.W.any_some E.hd
    rw [hc]
    rfl
  exact PySem.W.kia_one (PySem.W.kitx_exc hcl E.hg E.hk E.hs E.ha E.hn E.ht E.hm) I.kIn J e (fun z => nomatch z) fun tk => ⟨.bl b, H, I.tok tk, rfl, q⟩
/-! ### things that are no threes -/
/-- an item: a thing with its data -/
def Itm (K : PySem.W.Frag) (H : Hp) (y : V) : Prop := (∃ s, Is H y s) ∧ ∃ d : PyData, d.canLay0 = true ∧ d.depth ≤ 1 ∧ ∀ H', Same H H' → Dp K H' y d
theorem Itm.keep {K : PySem.W.Frag} {H H' : Hp} {y : V} (h : Itm K H y) (S : Same H H') : Itm K H' y := by
  obtain ⟨⟨s, a⟩, d, b, c, e⟩ := h
  exact ⟨⟨s, a.keep S⟩, d, b, c, fun H2 S2 => e H2 (S.trans S2)⟩
theorem itm_int {K : PySem.W.Frag} {H : Hp} (n : Int) : Itm K H (.int n) := ⟨⟨.sc (.int n), rfl, rfl⟩, .int n, by simp [PyData.canLay0], by simp [PyData.depth], fun _ _ => .int n⟩
theorem itm_bl {K : PySem.W.Frag} {H : Hp} (b : Bool) : Itm K H (.bl b) := ⟨⟨.sc (.bl b), rfl, rfl⟩, .bool b, by simp [PyData.canLay0], by simp [PyData.depth], fun _ _ => .bl b⟩
theorem itm_non {K : PySem.W.Frag} {H : Hp} : Itm K H .non := ⟨⟨.sc .non, rfl, rfl⟩, .none, by simp [PyData.canLay0], by simp [PyData.depth], fun _ _ => .non⟩
theorem itm_tup {K : PySem.W.Frag} {H : Hp} {z : Addr} (h : H z = some (.tup [.int 0])) : Itm K H (.ref z) := ⟨⟨.tup _, z, rfl, h⟩, .tuple [.int 0], by simp [PyData.canLay0, PyData.canLayAll0], by simp [PyData.depth, PyData.depthAll], fun H' S => .tup (SqT.of (S _ _ h)) (.cons (.int 0) .nil)⟩
theorem itm_all {K : PySem.W.Frag} {H : Hp} : ∀ {xs : List V}, (∀ y ∈ xs, Itm K H y) → ∃ ds : List PyData, PyData.canLayAll0 ds = true ∧ PyData.depthAll ds ≤ 1 ∧ ∀ H', Same H H' → DpAll K H' xs ds
  | [], _ => ⟨[], by simp [PyData.canLayAll0], by simp [PyData.depthAll], fun _ _ => .nil⟩
  | x :: xs, h => by
    obtain ⟨ds, a, b, c⟩ := itm_all (xs := xs) fun y hy => h y (List.mem_cons_of_mem _ hy)
    obtain ⟨_, d, a1, b1, c1⟩ := h x List.mem_cons_self
    refine ⟨d :: ds, by simp only [PyData.canLayAll0, a1, a, Bool.and_self], ?_, fun H' S => .cons (c1 H' S) (c H' S)⟩
    simp only [PyData.depthAll]
    omega
/-- no three of m ties -/
def BadT (K : PySem.W.Frag) (m : Nat) (H : Hp) (v : V) (s : Sh) : Prop := Is H v s ∧ Known H (items s) ∧ (∀ ns : List Int, ns.length = m → threeB ns s = false) ∧ ∃ d : PyData, SeqAt.shaped d = true ∧ PyData.eqv d d = true ∧ ∀ H', Same H H' → Dp K H' v d
theorem BadT.keep {K : PySem.W.Frag} {m : Nat} {H H' : Hp} {v : V} {s : Sh} (h : BadT K m H v s) (S : Same H H') : BadT K m H' v s := by
  obtain ⟨a, b, c, d, e, f, g⟩ := h
  exact ⟨a.keep S, fun y hy => by obtain ⟨t, ht⟩ := b y hy; exact ⟨t, ht.keep S⟩, c, d, e, f, fun H2 S2 => g H2 (S.trans S2)⟩
theorem badT_lst {K : PySem.W.Frag} {m : Nat} {H : Hp} {z : Addr} {xs : List V} (e : H z = some (.lst xs)) (h : ∀ y ∈ xs, Itm K H y) (b : ∀ ns : List Int, ns.length = m → threeB ns (.lst xs) = false) : BadT K m H (.ref z) (.lst xs) := by
  obtain ⟨ds, a1, a2, a3⟩ := itm_all h
  refine ⟨⟨z, rfl, e⟩, fun y hy => (h y hy).1, b, .list ds, ?_, ?_, fun H' S => .lst (SqL.of (S _ _ e)) (a3 H' S)⟩
  · show (PyData.canLay0 (.list ds) && decide (PyData.depth (.list ds) ≤ 64)) = true
    rw [Bool.and_eq_true]
    refine ⟨by simp only [PyData.canLay0]; exact a1, decide_eq_true ?_⟩
    simp only [PyData.depth]
    omega
  · simp only [PyData.eqv]
    exact SeqAt.eqvAll_refl ds a1
theorem badT_tup {K : PySem.W.Frag} {m : Nat} {H : Hp} {z : Addr} {xs : List V} (e : H z = some (.tup xs)) (h : ∀ y ∈ xs, Itm K H y) (b : ∀ ns : List Int, ns.length = m → threeB ns (.tup xs) = false) : BadT K m H (.ref z) (.tup xs) := by
  obtain ⟨ds, a1, a2, a3⟩ := itm_all h
  refine ⟨⟨z, rfl, e⟩, fun y hy => (h y hy).1, b, .tuple ds, ?_, ?_, fun H' S => .tup (SqT.of (S _ _ e)) (a3 H' S)⟩
  · show (PyData.canLay0 (.tuple ds) && decide (PyData.depth (.tuple ds) ≤ 64)) = true
    rw [Bool.and_eq_true]
    refine ⟨by simp only [PyData.canLay0]; exact a1, decide_eq_true ?_⟩
    simp only [PyData.depth]
    omega
  · simp only [PyData.eqv]
    exact SeqAt.eqvAll_refl ds a1
theorem badT_sc {K : PySem.W.Frag} {m : Nat} {H : Hp} {v : V} {d : PyData} (s : isSc v = true) (a1 : d.canLay0 = true) (a2 : d.depth ≤ 1) (a3 : PyData.eqv d d = true) (a4 : ∀ H', Dp K H' v d) : BadT K m H v (.sc v) := by
  refine ⟨(⟨rfl, s⟩ : v = v ∧ isSc v = true), (fun y hy => by cases hy), fun _ _ => rfl, d, ?_, a3, fun H' _ => a4 H'⟩
  show (d.canLay0 && decide (d.depth ≤ 64)) = true
  rw [a1, Bool.true_and]
  exact decide_eq_true (by omega)
theorem all3 {f : V → Bool} {a b c : V} (h : f a = false ∨ f b = false ∨ f c = false) : (decide (([a, b, c] : List V).length = 3) && ([a, b, c] : List V).all f) = false := by
  rcases h with h | h | h <;> simp [h]
/-- an item that is no tie of m ties -/
def Odd (m : Nat) (y : V) : Prop := ∀ ns : List Int, ns.length = m → tieB ns y = false
theorem odd_int {m : Nat} {n : Int} (h : n < 0 ∨ (m : Int) ≤ n) : Odd m (.int n) := fun ns hn => by
  cases e : tieB ns (.int n) with
  | false => rfl
  | true =>
    obtain ⟨i, b, e1, e2⟩ := tieB_true e
    injection e1 with e1
    have := (List.getElem?_eq_some_iff.mp e2).1
    omega
theorem odd_sc {m : Nat} {y : V} (h : ∀ n : Int, y ≠ .int n) : Odd m y := fun ns hn => by
  cases e : tieB ns y with
  | false => rfl
  | true =>
    obtain ⟨i, b, e1, e2⟩ := tieB_true e
    exact absurd e1 (h _)
section
variable {P : Program} {w : World} {K : PySem.W.Frag} {mg : Str → Option Value} {base : Heap}
theorem no_three {ns : List Int} {s : Sh} (h : threeB ns s = false) {A : Prop} {p q r : Int} (e : items s = [.int p, .int q, .int r]) (ip : InT ns p) (iq : InT ns q) (ir : InT ns r) : A := by
  have t : ([V.int p, .int q, .int r] : List V).all (tieB ns) = true := by
    simp only [List.all_cons, List.all_nil, tie_in ip, tie_in iq, tie_in ir, Bool.and_self]
  cases s with
  | sc u => cases e
  | dk => cases e
  | lst xs =>
    obtain rfl : xs = _ := e
    have q : (decide (([V.int p, .int q, .int r] : List V).length = 3) && ([V.int p, .int q, .int r] : List V).all (tieB ns)) = false := h
    rw [t] at q
    cases q
  | tup xs =>
    obtain rfl : xs = _ := e
    have q : (decide (([V.int p, .int q, .int r] : List V).length = 3) && ([V.int p, .int q, .int r] : List V).all (tieB ns)) = false := h
    rw [t] at q
    cases q
theorem iteT' {b : Bool} {A B : Prop} (e : b = true) (h : A) : if b = true then A else B := by
  rw [if_pos e]
  exact h
end
end J

set_option Elab.async false
set_option linter.all false
set_option maxRecDepth 100000
set_option maxHeartbeats 8000000
namespace J
open PySem PySem.Spec PyProof.Rows L2
/-! ### ascending lists, readings once more -/
theorem asc_unique {α : Type} {f : α → Int} : ∀ {L1 L2 : List α}, L1.Pairwise (fun a b => f a < f b) → L2.Pairwise (fun a b => f a < f b) → (∀ x, x ∈ L1 ↔ x ∈ L2) → L1 = L2
  | [], [], _, _, _ => rfl
  | [], y :: ys, _, _, h => by
    have := (h y).mpr List.mem_cons_self
    cases this
  | x :: xs, [], _, _, h => by
    have := (h x).mp List.mem_cons_self
    cases this
  | x :: xs, y :: ys, h1, h2, h => by
    rw [List.pairwise_cons] at h1 h2
    have e : x = y := by
      have a := (h x).mp List.mem_cons_self
      have b := (h y).mpr List.mem_cons_self
      rw [List.mem_cons] at a b
      rcases a with a | a
      · exact a
      · rcases b with b | b
        · exact b.symm
        · have := h1.1 _ b
          have := h2.1 _ a
          omega
    subst e
    have t : xs = ys := asc_unique h1.2 h2.2 fun z => by
      have q := h z
      rw [List.mem_cons, List.mem_cons] at q
      constructor
      · intro m
        rcases q.mp (.inr m) with e | e
        · subst e
          have := h1.1 _ m
          omega
        · exact e
      · intro m
        rcases q.mpr (.inr m) with e | e
        · subst e
          have := h2.1 _ m
          omega
        · exact e
    rw [t]
theorem rdl_unique {ns : List Int} {p q r : Int} {L L' : List (List Int)} (a : RdL ns p q r L) (b : RdL ns p q r L') : L = L' := asc_unique a.1 b.1 fun x => by rw [a.2, b.2]
theorem six_same {ns : List Int} {p q r a b c : Int} (g : GoodB ns) (ip : InT ns p) (iq : InT ns q) (ir : InT ns r) (h : [a, b, c] ∈ six ns p q r) : ∀ x, x ∈ six ns a b c ↔ x ∈ six ns p q r := by
  have e1 := bk_bk g ip
  have e2 := bk_bk g iq
  have e3 := bk_bk g ir
  intro x
  simp only [six, List.mem_cons, List.not_mem_nil, or_false, List.cons.injEq, and_true] at h
  rcases h with ⟨rfl, rfl, rfl⟩ | ⟨rfl, rfl, rfl⟩ | ⟨rfl, rfl, rfl⟩ | ⟨rfl, rfl, rfl⟩ | ⟨rfl, rfl, rfl⟩ | ⟨rfl, rfl, rfl⟩ <;>
    (simp only [six, List.mem_cons, List.not_mem_nil, or_false, e1, e2, e3]
     try (constructor <;> (rintro (h | h | h | h | h | h) <;> simp [h])))
theorem rdl_same {ns : List Int} {p q r a b c : Int} {L : List (List Int)} (g : GoodB ns) (ip : InT ns p) (iq : InT ns q) (ir : InT ns r) (h : [a, b, c] ∈ six ns p q r) (R : RdL ns a b c L) : RdL ns p q r L := ⟨R.1, fun x => by rw [R.2, six_same g ip iq ir h]⟩
theorem rdl_same' {ns : List Int} {p q r a b c : Int} {L : List (List Int)} (g : GoodB ns) (ip : InT ns p) (iq : InT ns q) (ir : InT ns r) (h : [a, b, c] ∈ six ns p q r) (R : RdL ns p q r L) : RdL ns a b c L := ⟨R.1, fun x => by rw [R.2, six_same g ip iq ir h]⟩
theorem len_sub : ∀ {L S : List (List Int)}, L.Nodup → (∀ x ∈ L, x ∈ S) → L.length ≤ S.length
  | [], _, _, _ => Nat.zero_le _
  | x :: xs, S, n, h => by
    rw [List.nodup_cons] at n
    have m := h x List.mem_cons_self
    have := len_sub (L := xs) (S := S.erase x) n.2 fun y hy => by
      have ne : y ≠ x := fun e => n.1 (e ▸ hy)
      exact (List.mem_erase_of_ne ne).mpr (h y (List.mem_cons_of_mem _ hy))
    rw [List.length_erase_of_mem m] at this
    have := List.length_pos_of_mem m
    rw [List.length_cons]
    omega
theorem asc_nodup {f : List Int → Int} {L : List (List Int)} (h : L.Pairwise (fun a b => f a < f b)) : L.Nodup := h.imp fun {a b} q e => by
  subst e
  omega
theorem rdl_len {ns : List Int} {p q r : Int} {L : List (List Int)} (R : RdL ns p q r L) : L.length ≤ 6 := len_sub (S := six ns p q r) (asc_nodup R.1) fun x hx => (R.2 x).mp hx
theorem rdl_pos {ns : List Int} {p q r : Int} {L : List (List Int)} (R : RdL ns p q r L) : ∃ t L', L = t :: L' := by
  cases L with
  | nil =>
    have : [p, q, r] ∈ ([] : List (List Int)) := (R.2 _).mpr (by simp [six])
    cases this
  | cons t L' => exact ⟨t, L', rfl⟩
theorem A3_asc : ∀ n, n ≤ 4 → (A3 n n).Pairwise (fun a b => TS.code 4 a < TS.code 4 b) := by decide +kernel
theorem in_A3 {ns : List Int} {a b c : Int} (ia : InT ns a) (ib : InT ns b) (ic : InT ns c) : [a, b, c] ∈ A3 ns.length ns.length := by
  refine A3_mem.mpr ⟨a.toNat, b.toNat, c.toNat, ?_, ?_, ?_, ?_⟩
  · have := ia.1; have := ia.2; omega
  · have := ib.1; have := ib.2; omega
  · have := ic.1; have := ic.2; omega
  · rw [Int.toNat_of_nonneg ia.1, Int.toNat_of_nonneg ib.1, Int.toNat_of_nonneg ic.1]
/-- the classes that were found among the first i threes -/
structure ClsF (ns : List Int) (i : Nat) (Cs : List (List Int)) : Prop where
  nd : Cs.Nodup
  sub : ∀ c ∈ Cs, c ∈ A3 ns.length ns.length ∧ isL ns c = true
  ex : ∀ (j : Nat) (p q r : Int), j < i → (A3 ns.length ns.length)[j]? = some [p, q, r] → ∃ L, RdL ns p q r L
  all : ∀ (j : Nat) (p q r : Int) (t : List Int) (L : List (List Int)), j < i → (A3 ns.length ns.length)[j]? = some [p, q, r] → RdL ns p q r (t :: L) → t ∈ Cs
theorem ClsF.nil {ns : List Int} : ClsF ns 0 [] := ⟨List.nodup_nil, fun c h => by (cases h), fun j p q r h => by omega, fun j p q r t L h => by omega⟩
theorem least_ok {ns : List Int} {p q r : Int} {t : List Int} {L : List (List Int)} (g : GoodB ns) (ip : InT ns p) (iq : InT ns q) (ir : InT ns r) (R : RdL ns p q r (t :: L)) : t ∈ A3 ns.length ns.length ∧ isL ns t = true := by
  have m := (R.2 t).mp List.mem_cons_self
  obtain ⟨a, b, c, rfl, ia, ib, ic⟩ := six_in g ip iq ir t m
  refine ⟨in_A3 ia ib ic, ?_⟩
  rw [← isL_iff (rdl_same' g ip iq ir m R)]
  exact decide_eq_true rfl
theorem ClsF.step {ns : List Int} {i : Nat} {Cs : List (List Int)} {p q r : Int} {t : List Int} {L : List (List Int)} (h : ClsF ns i Cs) (g : GoodB ns) (e : (A3 ns.length ns.length)[i]? = some [p, q, r]) (ip : InT ns p) (iq : InT ns q) (ir : InT ns r) (R : RdL ns p q r (t :: L)) :
    ClsF ns (i + 1) (if t ∈ Cs then Cs else Cs ++ [t]) := by
  have ok := least_ok g ip iq ir R
  have last : ∀ (p' q' r' : Int) (t' : List Int) (L' : List (List Int)), (A3 ns.length ns.length)[i]? = some [p', q', r'] → RdL ns p' q' r' (t' :: L') → t' = t := fun p' q' r' t' L' e' R' => by
    rw [e] at e'
    have e' := Option.some.inj e'
    injection e' with e1 e'
    injection e' with e2 e'
    injection e' with e3 e'
    subst e1 e2 e3
    have := rdl_unique R' R
    injection this
  have exs : ∀ (j : Nat) (p' q' r' : Int), j < i + 1 → (A3 ns.length ns.length)[j]? = some [p', q', r'] → ∃ L, RdL ns p' q' r' L := fun j p' q' r' hj e' => by
    rcases Nat.lt_or_ge j i with hi | hi
    · exact h.ex j p' q' r' hi e'
    · obtain rfl : j = i := by omega
      rw [e] at e'
      have e' := Option.some.inj e'
      injection e' with e1 e'
      injection e' with e2 e'
      injection e' with e3 e'
      subst e1 e2 e3
      exact ⟨_, R⟩
  by_cases c : t ∈ Cs
  · rw [if_pos c]
    refine ⟨h.nd, h.sub, exs, fun j p' q' r' t' L' hj e' R' => ?_⟩
    rcases Nat.lt_or_ge j i with hi | hi
    · exact h.all j p' q' r' t' L' hi e' R'
    · obtain rfl : j = i := by omega
      rw [last p' q' r' t' L' e' R']
      exact c
  · rw [if_neg c]
    refine ⟨?_, fun x hx => ?_, exs, fun j p' q' r' t' L' hj e' R' => ?_⟩
    · rw [List.nodup_append]
      exact ⟨h.nd, by simp, fun a ha b hb => by rw [List.mem_singleton] at hb; subst hb; exact fun e => c (e ▸ ha)⟩
    · rw [List.mem_append, List.mem_singleton] at hx
      rcases hx with hx | rfl
      · exact h.sub x hx
      · exact ok
    · rw [List.mem_append, List.mem_singleton]
      rcases Nat.lt_or_ge j i with hi | hi
      · exact .inl (h.all j p' q' r' t' L' hi e' R')
      · obtain rfl : j = i := by omega
        exact .inr (last p' q' r' t' L' e' R')
theorem A3_len3 : ∀ n, n ≤ 3 → (A3 n n).length ≤ 27 := by decide +kernel
theorem not_isL {ns : List Int} (g : GoodB ns) (h4 : ns.length = 4) : isL ns [3, 0, 0] = false := by
  have i0 : InT ns 0 := ⟨by omega, by omega⟩
  have b0 := bk_in g i0
  show ((six ns 3 0 0).all fun x => decide (TS.code 4 [3, 0, 0] ≤ TS.code 4 x)) = false
  rw [List.all_eq_false]
  refine ⟨[0, bk ns 0, 3], by simp [six], fun z => ?_⟩
  have z := of_decide_eq_true z
  have := b0.1
  have := b0.2
  simp only [TS.code] at z
  simp at z
  omega
theorem ClsF.len {ns : List Int} {i : Nat} {Cs : List (List Int)} (h : ClsF ns i Cs) (g : GoodB ns) : Cs.length < 64 := by
  rcases Nat.lt_or_ge ns.length 4 with n3 | n4
  · have := len_sub h.nd fun x hx => (h.sub x hx).1
    have := A3_len3 ns.length (by omega)
    omega
  · have h4 : ns.length = 4 := by have := g.hi; omega
    have i0 : InT ns 0 := ⟨by omega, by omega⟩
    have i3 : InT ns 3 := ⟨by omega, by omega⟩
    have m := in_A3 i3 i0 i0
    have := len_sub (S := (A3 ns.length ns.length).erase [3, 0, 0]) h.nd fun x hx => by
      have ne : x ≠ [3, 0, 0] := fun e => by
        have := (h.sub x hx).2
        rw [e, not_isL g h4] at this
        cases this
      exact (List.mem_erase_of_ne ne).mpr (h.sub x hx).1
    rw [List.length_erase_of_mem m] at this
    have := A3_len ns.length g.hi
    have := List.length_pos_of_mem m
    omega
/-- the classes, sorted, are the least readings -/
theorem ClsF.sorted {ns : List Int} {Cs Ds : List (List Int)} (h : ClsF ns (A3 ns.length ns.length).length Cs) (g : GoodB ns) (pm : Ds.Perm Cs) (pw : Ds.Pairwise (fun a b => TS.code 4 a < TS.code 4 b)) : Ds = (A3 ns.length ns.length).filter (isL ns) := by
  refine asc_unique pw ((A3_asc ns.length g.hi).filter _) fun x => ?_
  rw [pm.mem_iff, List.mem_filter]
  refine ⟨fun m => h.sub x m, fun ⟨m, l⟩ => ?_⟩
  obtain ⟨p, q, r, rfl, ip, iq, ir⟩ := A3_in m rfl
  obtain ⟨j, hj⟩ := List.getElem?_of_mem m
  obtain ⟨L, R⟩ := h.ex j p q r (List.getElem?_eq_some_iff.mp hj).1 hj
  obtain ⟨t, L', rfl⟩ := rdl_pos R
  have tm := h.all j p q r t L' (List.getElem?_eq_some_iff.mp hj).1 hj R
  have := isL_iff R
  rw [l] at this
  rw [of_decide_eq_true this]
  exact tm
theorem LstsAt.app {H H' : Hp} {z w u : Addr} {L M : List (List Int)} {xs ys : List V} (hz : LstsAt H z L) (hw : LstsAt H w M) (ex : H z = some (.lst xs)) (ey : H w = some (.lst ys)) (S : Same H H') (e : H' u = some (.lst (xs ++ ys))) : LstsAt H' u (L ++ M) := by
  obtain ⟨ps, a1, a2, a3⟩ := hz
  obtain ⟨qs, b1, b2, b3⟩ := hw
  rw [a1] at ex
  rw [b1] at ey
  obtain rfl : _ = xs := HO.lst.inj (Option.some.inj ex)
  obtain rfl : _ = ys := HO.lst.inj (Option.some.inj ey)
  refine ⟨ps ++ qs, by rw [e, List.map_append], by rw [List.length_append, List.length_append, a2, b2], fun j a ts q1 q2 => ?_⟩
  rcases Nat.lt_or_ge j ps.length with hj | hj
  · rw [List.getElem?_append_left hj] at q1
    rw [List.getElem?_append_left (by omega)] at q2
    exact S _ _ (a3 j a ts q1 q2)
  · rw [List.getElem?_append_right hj] at q1
    rw [List.getElem?_append_right (by omega), ← a2] at q2
    exact S _ _ (b3 _ a ts q1 q2)
theorem Gro.lsts {H1 H : Hp} {D : Addr} {L : List (List Int)} (G : Gro H1 H D L) : LstsAt H D L := by
  obtain ⟨ps, a, b, c⟩ := G.d
  exact ⟨ps, a, b, fun j x ts e1 e2 => (c j x ts e1 e2).2⟩
/-- all but two lists stand -/
def Fr (h cl : Addr) (H H' : Hp) : Prop := ∀ a o, a ≠ h → a ≠ cl → H a = some o → H' a = some o
theorem Fr.but {h cl : Addr} {H H1 H2 : Hp} (f : Fr h cl H H1) (b : But h H1 H2) : Fr h cl H H2 := fun a o n1 n2 e => b a o n1 (f a o n1 n2 e)
theorem Fr.same {h cl : Addr} {H H1 H2 : Hp} (f : Fr h cl H H1) (S : Same H1 H2) : Fr h cl H H2 := fun a o n1 n2 e => S a o (f a o n1 n2 e)
theorem LstsAt.fr {h cl : Addr} {H H' : Hp} {z : Addr} {L : List (List Int)} {us vs : List V} (hz : LstsAt H z L) (eh : H h = some (.lst us)) (ec : H cl = some (.lst vs)) (n1 : z ≠ h) (n2 : z ≠ cl) (f : Fr h cl H H') : LstsAt H' z L := by
  obtain ⟨ps, a1, a2, a3⟩ := hz
  exact ⟨ps, f _ _ n1 n2 a1, a2, fun j a ts e1 e2 => f _ _ (ne_of (a3 j a ts e1 e2) eh (by intro z; cases z)) (ne_of (a3 j a ts e1 e2) ec (by intro z; cases z)) (a3 j a ts e1 e2)⟩
theorem LstsAt.but {h : Addr} {H H' : Hp} {z : Addr} {L : List (List Int)} {us : List V} (hz : LstsAt H z L) (eh : H h = some (.lst us)) (n1 : z ≠ h) (f : But h H H') : LstsAt H' z L := by
  obtain ⟨ps, a1, a2, a3⟩ := hz
  exact ⟨ps, f _ _ n1 a1, a2, fun j a ts e1 e2 => f _ _ (ne_of (a3 j a ts e1 e2) eh (by intro z; cases z)) (a3 j a ts e1 e2)⟩
theorem LstsAt.tup {H : Hp} {z w : Addr} {L : List (List Int)} {xs : List V} (hz : LstsAt H z L) (ex : H z = some (.lst xs)) (hw : H w = none) : TupsAt (upd H w (.tup xs)) w L := by
  obtain ⟨ps, a1, a2, a3⟩ := hz
  rw [a1] at ex
  obtain rfl : _ = xs := HO.lst.inj (Option.some.inj ex)
  exact ⟨ps, upd_same, a2, fun j a ts e1 e2 => new_same hw _ _ (a3 j a ts e1 e2)⟩
theorem LstsAt.data {K : PySem.W.Frag} {H : Hp} {z : Addr} {L : List (List Int)} (h : LstsAt H z L) : Dp K H (.ref z) (.list (tupsD L)) ∧ SeqAt.shaped (.list (tupsD L)) = true := by
  obtain ⟨ps, e1, e2, e3⟩ := h
  exact ⟨.lst (SqL.of e1) (dp_tupsD e2 e3), shaped_tupsD L⟩
theorem TiesAt.fr {C h cl : Addr} {H H' : Hp} {x : Addr} {ns us vs : List _} (T : TiesAt C H x ns) (eh : H h = some (.lst us)) (ec : H cl = some (.lst vs)) (f : Fr h cl H H') : TiesAt C H' x ns := by
  obtain ⟨dx, t, e1, e2⟩ := T
  exact ⟨dx, t, f _ _ (ne_of e1 eh (by intro z; cases z)) (ne_of e1 ec (by intro z; cases z)) e1, f _ _ (ne_of e2 eh (by intro z; cases z)) (ne_of e2 ec (by intro z; cases z)) e2⟩
theorem TiesAt.but {C h : Addr} {H H' : Hp} {x : Addr} {ns us : List _} (T : TiesAt C H x ns) (eh : H h = some (.lst us)) (f : But h H H') : TiesAt C H' x ns := by
  obtain ⟨dx, t, e1, e2⟩ := T
  exact ⟨dx, t, f _ _ (ne_of e1 eh (by intro z; cases z)) e1, f _ _ (ne_of e2 eh (by intro z; cases z)) e2⟩
/-- sorted(classes) -/
theorem sort_pre {K : PySem.W.Frag} {H : Hp} {cl : Addr} {ns : List Int} {Cs : List (List Int)} (hc : LstsAt H cl Cs) (h : ClsF ns (A3 ns.length ns.length).length Cs) (g : GoodB ns) :
    ∃ xs, H cl = some (.lst xs) ∧ xs.length < 64 ∧ (∀ x ∈ xs, ∃ ms, TupI K H x ms ∧ ms.length = 3 ∧ TS.Bd 4 ms) ∧
      ∀ (ys : List V) (z : Addr), ys.Perm xs → ys.Pairwise (fun x y => ∀ n m, TupI K H x n → TupI K H y m → TS.code 4 n ≤ TS.code 4 m) → H z = none → LstsAt (upd H z (.lst ys)) z ((A3 ns.length ns.length).filter (isL ns)) := by
  obtain ⟨ps, e1, e2, e3⟩ := hc
  have la := h.len g
  have BD : ∀ x ∈ Cs, x.length = 3 ∧ TS.Bd 4 x := fun x hx => by
    obtain ⟨p, q, r, rfl, ip, iq, ir⟩ := A3_in (h.sub x hx).1 rfl
    exact six_bd g ip iq ir _ (by simp [six])
  have inL : ∀ (j : Nat) (a : Addr), ps[j]? = some a → ∃ ts, Cs[j]? = some ts ∧ H a = some (.tup (ts.map V.int)) := fun j a ej => by
    have hj := (List.getElem?_eq_some_iff.mp ej).1
    have q := List.getElem?_eq_getElem (l := Cs) (i := j) (by omega)
    exact ⟨_, q, e3 j a _ ej q⟩
  refine ⟨_, e1, by rw [List.length_map, e2]; exact la, fun x hx => ?_, fun ys z pm pw hz => ?_⟩
  · obtain ⟨a, ha, rfl⟩ := List.mem_map.mp hx
    obtain ⟨j, hj⟩ := List.getElem?_of_mem ha
    obtain ⟨ts, q1, q2⟩ := inL j a hj
    obtain ⟨b1, b2⟩ := BD ts (List.mem_of_getElem? q1)
    exact ⟨ts, ⟨a, rfl, SqT.of q2⟩, b1, b2⟩
  · have zm : (ps.zip Cs).map (fun w => V.ref w.1) = ps.map V.ref := by
      rw [show (fun w : Addr × List Int => V.ref w.1) = V.ref ∘ Prod.fst from rfl, ← List.map_map, List.map_fst_zip (by omega)]
    rw [← zm] at pm
    obtain ⟨zs, pz, rfl⟩ := perm_map_inv pm rfl
    have zc : ∀ w ∈ zs, w.2 ∈ Cs ∧ H w.1 = some (.tup (w.2.map V.int)) := fun w hw => by
      have hw2 := pz.mem_iff.mp hw
      obtain ⟨j, hj⟩ := List.getElem?_of_mem hw2
      rw [List.getElem?_zip_eq_some] at hj
      obtain ⟨h1, h2⟩ := hj
      exact ⟨List.mem_of_getElem? h2, e3 j _ _ h1 h2⟩
    have p2 : (zs.map Prod.snd).Perm Cs := by
      have := pz.map Prod.snd
      rwa [List.map_snd_zip (by omega)] at this
    have T' : Same H (upd H z (.lst (zs.map fun w => V.ref w.1))) := new_same hz
    have asc : (zs.map Prod.snd).Pairwise (fun a b => TS.code 4 a < TS.code 4 b) := by
      have nd2 : (zs.map Prod.snd).Nodup := p2.nodup_iff.mpr h.nd
      rw [List.pairwise_map]
      have nd' : zs.Pairwise fun a b => a.2 ≠ b.2 := by
        have : (zs.map Prod.snd).Pairwise (· ≠ ·) := nd2
        rwa [List.pairwise_map] at this
      rw [List.pairwise_map] at pw
      refine (pw.and nd').imp_of_mem fun {a b} ma mb hh => ?_
      obtain ⟨h1, h2⟩ := hh
      obtain ⟨a1, a2⟩ := zc a ma
      obtain ⟨b1, b2⟩ := zc b mb
      have h1 := h1 a.2 b.2 ⟨a.1, rfl, SqT.of a2⟩ ⟨b.1, rfl, SqT.of b2⟩
      rcases Int.lt_or_eq_of_le h1 with h3 | h3
      · exact h3
      · obtain ⟨l1, c1⟩ := BD _ a1
        obtain ⟨l2, c2⟩ := BD _ b1
        exact absurd (code_inj (by omega) c1 c2 h3) h2
    rw [← h.sorted g p2 asc]
    refine ⟨zs.map Prod.fst, by rw [upd_same, List.map_map]; rfl, by rw [List.length_map, List.length_map], fun j a ts q1 q2 => ?_⟩
    rw [List.getElem?_map] at q1 q2
    cases ej : zs[j]? with
    | none => rw [ej] at q1; cases q1
    | some w =>
      rw [ej] at q1 q2
      obtain rfl := Option.some.inj q1
      obtain rfl := Option.some.inj q2
      exact T' _ _ (zc w (List.mem_of_getElem? ej)).2
theorem made_same {H : Hp} {x dx : Addr} {o u : HO} (hx : H x = none) (hd : H dx = none) : Same H (upd (upd H dx o) x u) := fun b v e => by
  rw [upd_ne (ne_of_none e hx), upd_ne (ne_of_none e hd)]
  exact e
theorem made_but {H H' : Hp} {x dx : Addr} {o u : HO} (hx : H x = none) (hd : H dx = none) (B : ∀ b v, b ≠ x → (upd (upd H dx o) x u) b = some v → H' b = some v) : Same H H' := fun b v e => B b v (ne_of_none e hx) (made_same hx hd b v e)
theorem map_int_inj : ∀ {xs ys : List Int}, xs.map V.int = ys.map V.int → xs = ys
  | [], [], _ => rfl
  | [], _ :: _, h => by cases h
  | _ :: _, [], h => by cases h
  | x :: xs, y :: ys, h => by
    rw [List.map_cons, List.map_cons] at h
    injection h with h1 h2
    injection h1 with h1
    rw [h1, map_int_inj h2]
theorem mk_ties {C CB : Addr} {H : Hp} {E : XK} {R : Addr → VK} {ns : List Int} {v : V} {s : Sh} (hs : Is H v s) (g : GoodB ns) (hq : (s.isL || s.isT) = true) (hi : items s = ns.map V.int) (k : ∀ (H' : Hp) (x : Addr), Same H H' → H x = none → TiesAt C H' x ns → R x .non H') :
    ∀ x dx, H x = none → H dx = none → dx ≠ x → spTies C CB [.ref x, v] (upd (upd H dx (.own x)) x (.ins C dx [])) (R x) E := by
  intro x dx hx hd _
  have S := made_same (H := H) (o := .own x) (u := .ins C dx []) hx hd
  have dn : due s = none := by
    cases s with
    | sc u => cases hq
    | dk => cases hq
    | lst xs => have e : xs = ns.map V.int := hi; subst e; exact due_of g
    | tup xs => have e : xs = ns.map V.int := hi; subst e; exact due_of g
  refine ⟨x, dx, v, s, rfl, upd_same, hs.keep S, fun y hy => ?_, fun w e => ?_, fun ms _ e H' B T => ?_⟩
  · rw [hi] at hy
    obtain ⟨n, _, rfl⟩ := List.mem_map.mp hy
    exact ⟨.sc (.int n), rfl, rfl⟩
  · rw [dn] at e
    cases e
  · obtain rfl := map_int_inj (hi.symm.trans e)
    exact k H' x (made_but hx hd B) hx T
theorem But.free {h l : Addr} {H H' : Hp} (B : But h H H') (n : l ≠ h) (e : H' l = none) : H l = none := by
  cases q : H l with
  | none => rfl
  | some o =>
    have := B _ _ n q
    rw [e] at this
    cases this
theorem A_len2 : ∀ n, n ≤ 4 → ∀ i, i < n → ∀ j, j < n → (A3 n i ++ A2 n i j).length + (A1 i j n).length ≤ 64 := by decide +kernel
theorem LstsAt.push {H : Hp} {z d : Addr} {L : List (List Int)} {t : List Int} {ps : List Addr} (h : LstsAt H z L) (e : H z = some (.lst (ps.map V.ref))) (ed : H d = some (.tup (t.map V.int))) : LstsAt (upd H z (.lst (ps.map V.ref ++ [.ref d]))) z (L ++ [t]) := by
  obtain ⟨qs, e1, e2, e3⟩ := h
  rw [e1] at e
  have w : qs.map V.ref = ps.map V.ref := HO.lst.inj (Option.some.inj e)
  rw [← w]
  have nz : d ≠ z := ne_of ed e1 (by intro z; cases z)
  refine ⟨qs ++ [d], by rw [upd_same, List.map_append]; rfl, by rw [List.length_append, List.length_append, e2]; rfl, fun j a us q1 q2 => ?_⟩
  rcases Nat.lt_or_ge j qs.length with hj | hj
  · rw [List.getElem?_append_left hj] at q1
    rw [List.getElem?_append_left (by omega)] at q2
    have := e3 j a us q1 q2
    rw [upd_ne (ne_of this e1 (by intro z; cases z))]
    exact this
  · have hj2 : j = qs.length := by
      have := (List.getElem?_eq_some_iff.mp q1).1
      rw [List.length_append] at this
      have l : [d].length = 1 := rfl
      omega
    subst hj2
    rw [List.getElem?_append_right (Nat.le_refl _), Nat.sub_self] at q1
    rw [e2, List.getElem?_append_right (Nat.le_refl _), Nat.sub_self] at q2
    obtain rfl : d = a := Option.some.inj q1
    obtain rfl : t = us := Option.some.inj q2
    rw [upd_ne nz]
    exact ed
theorem map_ref_inj : ∀ {xs ys : List Addr}, xs.map V.ref = ys.map V.ref → xs = ys
  | [], [], _ => rfl
  | [], _ :: _, h => by cases h
  | _ :: _, [], h => by cases h
  | x :: xs, y :: ys, h => by
    rw [List.map_cons, List.map_cons] at h
    injection h with h1 h2
    injection h1 with h1
    rw [h1, map_ref_inj h2]
theorem ints3 {s : Sh} {p q r p' q' r' : Int} (e : items s = ([p, q, r] : List Int).map V.int) (e' : items s = [.int p', .int q', .int r']) : p' = p ∧ q' = q ∧ r' = r := by
  rw [e] at e'
  injection e' with e1 e'
  injection e' with e2 e'
  injection e' with e3 e'
  injection e1 with e1
  injection e2 with e2
  injection e3 with e3
  exact ⟨e1.symm, e2.symm, e3.symm⟩
theorem is_seq {K : PySem.W.Frag} {H : Hp} {z : Addr} {s : Sh} {ys : List V} (h : Is H (.ref z) s) (e : items s = ys) (sq : (s.isL || s.isT) = true) : SqL K H z ys ∨ SqT K H z ys := by
  cases s with
  | sc u => cases sq
  | dk => cases sq
  | lst xs =>
    obtain ⟨p, e1, e2⟩ := h
    obtain rfl : z = p := V.ref.inj e1
    obtain rfl : xs = ys := e
    exact .inl (SqL.of e2)
  | tup xs =>
    obtain ⟨p, e1, e2⟩ := h
    obtain rfl : z = p := V.ref.inj e1
    obtain rfl : xs = ys := e
    exact .inr (SqT.of e2)
theorem three_yes {ns : List Int} {s : Sh} {p q r : Int} (e : items s = ([p, q, r] : List Int).map V.int) (sq : (s.isL || s.isT) = true) (ip : InT ns p) (iq : InT ns q) (ir : InT ns r) : threeB ns s = true := by
  have t : ([V.int p, .int q, .int r] : List V).all (tieB ns) = true := by
    simp only [List.all_cons, List.all_nil, tie_in ip, tie_in iq, tie_in ir, Bool.and_self]
  cases s with
  | sc u => cases sq
  | dk => cases sq
  | lst xs =>
    obtain rfl : xs = _ := e
    show (decide (([V.int p, .int q, .int r] : List V).length = 3) && ([V.int p, .int q, .int r] : List V).all (tieB ns)) = true
    rw [t]
    rfl
  | tup xs =>
    obtain rfl : xs = _ := e
    show (decide (([V.int p, .int q, .int r] : List V).length = 3) && ([V.int p, .int q, .int r] : List V).all (tieB ns)) = true
    rw [t]
    rfl
theorem known_ints {H : Hp} {s : Sh} {ts : List Int} (e : items s = ts.map V.int) : Known H (items s) := by
  rw [e]
  exact ints_known ts
theorem Hand.same_h' {H : Hp} {h q z : Addr} (x : Hand H h q) (hz : H z = none) : z ≠ h ∧ z ≠ q := ⟨fun e => (x.h_ne hz).1 e.symm, fun e => (x.h_ne hz).2 e.symm⟩
end J

set_option Elab.async false
set_option linter.all false
set_option maxRecDepth 100000
set_option maxHeartbeats 4000000
/-! sorted(d), d a dict whose keys are tuples of ints, at any length -/
namespace SD
open PySem PyProof.Rows PySem.W
open Classical in
noncomputable def keyIn (h : Heap) (d : Nat) (B : Int) (v : Value) : Option Int := if ∃ ns, TS.TupInts h v ns ∧ ns.length = d ∧ TS.Bd B ns then some (TS.code B (TS.intsOf h v)) else none
theorem keyIn_some {h : Heap} {d : Nat} {B : Int} {v : Value} {c : Int} (e : keyIn h d B v = some c) : ∃ ns, TS.TupInts h v ns ∧ ns.length = d ∧ TS.Bd B ns ∧ c = TS.code B ns := by
  unfold keyIn at e
  split at e
  · rename_i q
    obtain ⟨ns, t, l, b⟩ := q
    exact ⟨ns, t, l, b, by rw [← Option.some.inj e, t.ints]⟩
  · cases e
theorem keyIn_of {h : Heap} {d : Nat} {B : Int} {v : Value} {ns : List Int} (t : TS.TupInts h v ns) (l : ns.length = d) (b : TS.Bd B ns) : keyIn h d B v = some (TS.code B ns) := by
  unfold keyIn
  rw [if_pos ⟨ns, t, l, b⟩, t.ints]
@[reducible] noncomputable def knd (h : Heap) (d : Nat) (B : Int) : PyProof.Rows.KeyKind where
  α := Int
  blt a b := decide (a < b)
  irrefl a := decide_eq_false (Int.lt_irrefl a)
  trans a b c h1 h2 := decide_eq_true (Int.lt_trans (of_decide_eq_true h1) (of_decide_eq_true h2))
  negTrans a b c h1 := by
    have z := of_decide_eq_true h1
    rcases Int.lt_or_le a b with x | x
    · exact .inl (decide_eq_true x)
    · exact .inr (decide_eq_true (by omega))
  total a b h1 h2 := by
    have z1 := of_decide_eq_false h1
    have z2 := of_decide_eq_false h2
    omega
  keyOf := keyIn h d B
  dflt := 0
section
variable {prog : Program} {w : World} {A : Around} {E : Value → Shared → Prop} {s : Shared}
theorem lt_at {h : Heap} {d : Nat} {B : Int} (bo : Bool) (k : G.KeepsTups h s.heap) : G.LtAt prog w s (knd h d B) (tuples' bo) := by
  intro A E x y p q Q hx hy hq
  obtain ⟨ns, tp, lp, bp, rfl⟩ := keyIn_some hx
  obtain ⟨ms, tq, lq, bq, rfl⟩ := keyIn_some hy
  obtain ⟨a, xs, rfl, ⟨o, ho, hc, n, hdt⟩, i⟩ := tp
  obtain ⟨a', ys, rfl, ⟨o', ho', hc', n', hdt'⟩, i'⟩ := tq
  refine PySem.W.kat_lt (k _ _ ho hc) hdt (k _ _ ho' hc') hdt' ?_
  have sz : decide (xs.size < ys.size) = false := by
    have l1 := i.length
    have l2 := i'.length
    rw [Array.length_toList] at l1 l2
    exact decide_eq_false (by omega)
  rw [sz]
  exact TS.lex_ints 0 i i' (by omega) bp bq hq
theorem kind_at {M : Model} {d : Nat} {B : Int} {vs : List Value} {Q : SortKind → Shared → Prop} (hd : 1 ≤ d) (h2 : 2 ≤ vs.length) (x : TS.TupsOk s.heap d B vs) (h : Q (tuples' true) s) : wpAny M A (keyKind' vs.toArray) Q E s := by
  obtain ⟨fs, k, hl, hi⟩ := TS.firsts_of hd vs x
  have e : (Value.type "int" != Value.type "tuple") = true := by first | rfl | decide
  refine PySem.W.kat_kind (T := Value.type "int") k (by omega) (fun f hf => ?_) rfl (by rw [e]; exact h)
  obtain ⟨n, t, rfl⟩ := hi f hf
  exact PySem.W.Looks.of_pure rfl
theorem collectK {T : String} {r d : Addr} {n : Nat} {P : Nat → Value → Prop} {OK : Heap → Prop} {R : List Value → Shared → Prop} (K : PySem.W.KdlSrc prog w T r d n P OK) (hh : A.handled = none) (hok : OK s.heap) (hn : n ≤ sizeLine)
    (h : ∀ (h' : Heap) (tk : Nat) (vs : List Value), (∀ b o, s.heap.get? b = some o → h'.get? b = some o) → s.heap.objs.size < h'.objs.size → vs.length = n → (∀ j v, vs[j]? = some v → P j v) → R vs { s with heap := h', toks := tk }) :
    wpAny (model prog w) A (collect (.ref r)) R E s := by
  obtain ⟨hr, hd⟩ := K.there _ hok
  unfold collect
  refine wpAny_bind (wpAny_runValue (codeAny_builtin entry_proto_collect' ?_))
  rw [Around.under_plainId PySem.F.plain_proto_collect _]
  show wpAny _ A.in1 (newList [] >>= fun l => again (.builtin "list.__iadd__" ⟨[l, .ref r], []⟩)) _ _ s
  refine wpAny_bind (wpAny_newObj_type ?_)
  refine wpAny_pure ⟨plainId_quiet PySem.F.plain_list_iadd _, codeAny_builtin entry_list_iadd' ?_⟩
  rw [Around.under_plainId PySem.F.plain_list_iadd _]
  have hS₁ : (s.heap.push { cls := .type "list", data := .seq ([] : List Value).toArray }).get? s.heap.objs.size = some { cls := .type "list", data := .seq #[] } := Heap.get?_push_size _ rfl
  show wpAny _ A.in1 (Builtin.List.listExtendWith (.ref s.heap.objs.size) (.ref r) (.ref s.heap.objs.size)) _ _ _
  have key := PySem.W.kdl_extend (prog := prog) (w := w) (A := A) (s := { s with heap := s.heap.push { cls := .type "list", data := .seq ([] : List Value).toArray } })
    (R := fun (q : Result) (s' : Shared) => ∃ (h' : Heap) (tk : Nat) (acc' : Array Value) (c' : Nat), q = .ok (.ret (.ref s.heap.objs.size)) ∧ s' = { s with heap := h', toks := tk } ∧
      (∀ b o, s.heap.get? b = some o → h'.get? b = some o) ∧ h'.get? s.heap.objs.size = some { cls := .type "list", dict := none, data := .seq acc' c', slots := #[] } ∧ acc'.toList.length = n ∧ ∀ j v, acc'.toList[j]? = some v → P j v)
    K hh (K.keep _ _ hok fun b _ o e => Heap.get?_push_of_some _ e) s.heap.objs.size (Nat.ne_of_gt hr) (Nat.ne_of_gt hd) (.ref s.heap.objs.size) 0 hS₁
    (fun h' tk acc' c' hk hS' hacc => ⟨h', tk, acc', c', rfl, rfl, fun b o e => hk b o (Nat.ne_of_lt (Heap.lt_size e)) (Heap.get?_push_of_some _ e), hS', by rw [Array.length_toList]; exact hacc.1, fun j v e => hacc.2 j v (by rw [← Array.getElem?_toList]; exact e)⟩) hn
  refine wpAny_mono key (fun fin s' x => ?_) fun e s' x => ?_
  · cases fin with
    | done f =>
      obtain ⟨h', tk, acc', c', e, rfl, hk, hS', hl, hP⟩ := x
      cases e
      show wpAny _ A (load s.heap.objs.size >>= _) _ _ _
      refine wpAny_bind (wpAny_load hS' ?_)
      refine wpAny_pure ?_
      exact h h' tk acc'.toList hk (Heap.lt_size hS') hl hP
    | again c₁ =>
      refine ⟨x.1, codeAny_mono x.2 fun q s₂ y => ?_⟩
      obtain ⟨h', tk, acc', c', rfl, rfl, hk, hS', hl, hP⟩ := y
      show wpAny _ A (load s.heap.objs.size >>= _) _ _ _
      refine wpAny_bind (wpAny_load hS' ?_)
      refine wpAny_pure ?_
      exact h h' tk acc'.toList hk (Heap.lt_size hS') hl hP
  · obtain ⟨h', tk, acc', c', e, _⟩ := x
    cases e
/-- what the sort leaves, said of the values -/
theorem out_code {h : Heap} {d : Nat} {B : Int} {vs : List Value} {arr : Array Keyed} (hp : arr.Perm (pairsOf vs)) (x : TS.TupsOk h d B vs) (hs : SortedToK (knd h d B) arr (pairsOf vs).size) :
    (arr.map (·.2)).toList.Perm vs ∧ (arr.map (·.2)).toList.Pairwise (fun u v => TS.code B (TS.intsOf h u) ≤ TS.code B (TS.intsOf h v)) := by
  have pl : arr.toList.Perm (vs.zip vs) := by
    have z := hp.toList
    rw [pairsOf_toList] at z
    exact z
  have m : ∀ p ∈ arr.toList, p.1 = p.2 ∧ p.1 ∈ vs := fun p hp' => mem_zip_self (pl.mem_iff.mp hp')
  refine ⟨?_, ?_⟩
  · rw [Array.toList_map]
    have z := pl.map Prod.snd
    rw [List.map_snd_zip (Nat.le_refl _)] at z
    exact z
  · rw [Array.toList_map, List.pairwise_map, List.pairwise_iff_getElem]
    intro i j hi hj hij
    have sz : arr.size = (pairsOf vs).size := hp.size_eq
    rw [Array.length_toList] at hi hj
    have k := hs i j (Nat.le_of_lt hij) (by rw [← sz]; exact hj)
    have at_ : ∀ (n : Nat) (hn : n < arr.size), KK (knd h d B) arr n = TS.code B (TS.intsOf h arr[n].2) := by
      intro n hn
      obtain ⟨e1, e2⟩ := m arr[n] (Array.mem_toList_iff.mpr (Array.getElem_mem hn))
      obtain ⟨ns, t, l, b⟩ := x _ e2
      unfold KK
      rw [Array.getElem?_eq_getElem hn]
      show (keyIn h d B arr[n].1).getD 0 = _
      rw [keyIn_of t l b, ← e1, t.ints]
      rfl
    rw [at_ i hi, at_ j hj] at k
    have k' : decide (TS.code B (TS.intsOf h arr[j].2) < TS.code B (TS.intsOf h arr[i].2)) = false := k
    have := of_decide_eq_false k'
    rw [Array.getElem_toList, Array.getElem_toList]
    omega
theorem sortedK {T : String} {r dd : Addr} {n : Nat} {P : Nat → Value → Prop} {OK : Heap → Prop} {Q : Value → Shared → Prop} (K : PySem.W.KdlSrc prog w T r dd n P OK) (hh : A.handled = none) (hok : OK s.heap) (hn : n ≤ sizeLine) {d : Nat} {B : Int} (hd1 : 1 ≤ d)
    (hP : ∀ vs : List Value, vs.length = n → (∀ j v, vs[j]? = some v → P j v) → TS.TupsOk s.heap d B vs)
    (hQ : ∀ (h' : Heap) (tk : Nat) (p : Addr) (out : Array Value) (c : Nat) (vs : List Value), (∀ b o, s.heap.get? b = some o → h'.get? b = some o) → s.heap.objs.size ≤ p → h'.get? p = some (seqObj "list" out c) → vs.length = n → (∀ j v, vs[j]? = some v → P j v) →
      out.toList.Perm vs → out.toList.Pairwise (fun u v => TS.code B (TS.intsOf s.heap u) ≤ TS.code B (TS.intsOf s.heap v)) → Q (.ref p) { s with heap := h', toks := tk }) :
    wpAny (model prog w) A (call (.builtin "sorted") [.ref r]) Q E s := by
  refine Calls.call_function_entry kind_sorted plain_sorted entry_sorted (args_sorted1 _) ?_
  unfold Builtin.«sorted»
  refine wpAny_bind (m := checkCount "sorted" 1 1 _) (wpAny_pure ?_)
  refine wpAny_bind (collectK (A := A.in1) K hh hok hn fun h' tk vs hk hlt hl hPv => ?_)
  have X := hP vs hl hPv
  refine wpAny_bind (wpAny_newList ?_ (by rw [hl]; exact hn))
  have hoL : (h'.push (seqObj "list" vs.toArray 0)).get? h'.objs.size = some (seqObj "list" vs.toArray 0) := Heap.get?_push_size _ rfl
  have kb : G.KeepsTups s.heap (h'.push (seqObj "list" vs.toArray 0)) := fun b o e _ => Heap.get?_push_of_some _ (hk b o e)
  have k6 : G.KeepsTups s.heap (G.sortHeap6 (h'.push (seqObj "list" vs.toArray 0)) h'.objs.size vs) := kb.trans (G.keeps_sort6 hoL)
  refine wpAny_bind (wpAny_holding (wpAny_call_entry slot_list_sort ⟨_, hoL, rfl⟩ entry_list_sort
    (G.list_sort_treeG (s := { s with heap := h'.push (seqObj "list" vs.toArray 0), toks := tk }) (κ := knd s.heap d B) (kd := tuples' true) hoL (fun p hp => ?_) (lt_at true k6) (fun h2 Q' hq => kind_at hd1 h2 (X.keeps k6) hq) (by rw [hl]; exact hn)
      fun st' a1 a2 a3 => ⟨_, rfl, ?_⟩) (args_list_sort _)))
  · rw [pairsOf_toList] at hp
    obtain ⟨e, hm⟩ := mem_zip_self hp
    obtain ⟨ns, t, l, b⟩ := X _ hm
    exact ⟨_, keyIn_of t l b⟩
  · obtain ⟨o1, o2⟩ := out_code a1 X a2
    obtain ⟨c, hc⟩ := sortedHeap_at (vs := vs) (out := (arrOf st').map (·.2)) hoL
    refine wpAny_pure ⟨_, rfl, hQ _ tk h'.objs.size _ c vs (fun b u e => ?_) (Nat.le_of_lt hlt) hc hl hPv o1 o2⟩
    have q := hk b u e
    have hlt2 := Heap.lt_size q
    rw [sortedHeap_old (Nat.ne_of_lt hlt2) (by rw [size_push']; exact Nat.lt_succ_of_lt hlt2)]
    exact Heap.get?_push_of_some _ q
end
end SD
namespace L2
open PySem PySem.Spec PyProof.Rows
/-- sorted(d), d a dict with tuples of dd ints in [0, B) as keys -/
def rSortD (dd : Nat) (B : Int) : List V → Hp → VK → Prop := fun vs H Q => ∃ (a : Addr) (kvs : List (List Key × V)) (ks : List (List Int)), vs = [V.ref a] ∧ H a = some (.dT kvs) ∧ kvs.map (·.1) = ks.map (fun k => k.map Sum.inl) ∧ (∀ k ∈ ks, k.length = dd ∧ TS.Bd B k) ∧
  ∀ (L : List (Addr × List Int)) (p : Addr), (L.map (·.2)).Perm ks → (L.map (·.2)).Nodup → L.Pairwise (fun q r => TS.code B q.2 ≤ TS.code B r.2) → (∀ q ∈ L, H q.1 = some (.tup (q.2.map V.int))) → H p = none → Q (.ref p) (upd H p (.lst (L.map fun q => V.ref q.1)))
theorem kVl_ints (k : List Int) : ((k.map Sum.inl : List Key)).map kV = k.map V.int := by
  rw [List.map_map]
  rfl
theorem inl_inj : ∀ {a b : List Int}, (a.map Sum.inl : List Key) = b.map Sum.inl → a = b
  | [], [], _ => rfl
  | [], _ :: _, e => by cases e
  | _ :: _, [], e => by cases e
  | x :: a, y :: b, e => by
    rw [List.map_cons, List.map_cons] at e
    injection e with e1 e2
    injection e1 with e1
    rw [e1, inl_inj e2]
section
variable {X : Cx}
theorem cr_sortedD (hc : X.calm = true) {dd : Nat} {B : Int} (hd : 1 ≤ dd) : CallR X (.builtin "sorted") (rSortD dd B) := by
  intro pins s σ H vs us Q I r h
  obtain ⟨a, kvs, ks, rfl, ha, ek, hB, q⟩ := h
  rw [Vals.ref1 r]
  obtain ⟨z, lo, xs, pr, o, es, ep, ho, hx, hdt, he, hn⟩ := (show ObjOk X.prog X.w H s.heap a (.dT kvs) from I.hok a _ ha)
  have l1 : es.size = xs.length := size_of_entries he
  have l2 : kvs.length = xs.length := Paired.length pr
  have l3 : ks.length = xs.length := by
    have := congrArg List.length ek
    rw [List.length_map, List.length_map] at this
    omega
  -- each key: its tuple
  have at_ : ∀ (j : Nat) (x : List Key × Addr × Value), xs[j]? = some x → ∃ k, ks[j]? = some k ∧ x.1 = k.map Sum.inl ∧ H x.2.1 = some (.tup (k.map V.int)) := by
    intro j x hj
    obtain ⟨p, hp, r1, r2, r3⟩ := DX.pget pr hj
    have e1 : (kvs.map (·.1))[j]? = some p.1 := by rw [List.getElem?_map, hp]; rfl
    rw [ek, List.getElem?_map] at e1
    cases hk : ks[j]? with
    | none =>
      rw [hk] at e1
      exact nomatch (show (none : Option (List Key)) = some p.1 from e1)
    | some k =>
      rw [hk] at e1
      have e2 : k.map Sum.inl = p.1 := Option.some.inj e1
      refine ⟨k, rfl, by rw [← r1, e2], ?_⟩
      rw [r2, ← e2, kVl_ints]
  have key_at : ∀ (j : Nat) (v : Value), (∃ en : DictEntry, es[j]? = some en ∧ v = en.key) → ∃ x, xs[j]? = some x ∧ v = Value.ref x.2.1 := by
    rintro j v ⟨en, hen, rfl⟩
    have qe := entry_at he j
    rw [hen] at qe
    cases hb : xs[j]? with
    | none =>
      rw [hb] at qe
      exact nomatch (show some en = none from qe)
    | some b =>
      rw [hb] at qe
      have e2 : en = entryOfKey (tupleKind (mixKind X.prog X.w)) b := Option.some.inj qe
      exact ⟨b, rfl, by rw [e2]; rfl⟩
  have tup : ∀ (j : Nat) (x : List Key × Addr × Value) (k : List Int), xs[j]? = some x → ks[j]? = some k → TS.TupInts s.heap (.ref x.2.1) k := by
    intro j x k hj hk
    obtain ⟨k', hk', _, ht⟩ := at_ j x hj
    rw [hk] at hk'
    cases hk'
    exact tupInts_of (P := X.prog) (w := X.w) (I.isT (SqT.of ht))
  have okT : ∀ vs : List Value, vs.length = es.size → (∀ (j : Nat) (v : Value), vs[j]? = some v → ∃ en : DictEntry, es[j]? = some en ∧ v = en.key) → TS.TupsOk s.heap dd B vs := by
    intro vs hl hv v hm
    obtain ⟨j, hj⟩ := List.mem_iff_getElem?.mp hm
    obtain ⟨x, hx, rfl⟩ := key_at j v (hv j v hj)
    obtain ⟨k, hk, _⟩ := at_ j x hx
    exact ⟨k, tup j x k hx hk, hB k (List.mem_of_getElem? hk)⟩
  refine SD.sortedK (kdl_raw lo hx hdt) (I.ok.hd hc) ho (by omega) hd okT fun h' tk p out c vs hk hp hg hl hv pm pw => ?_
  -- the keys with their tuples
  have hL : ((xs.map fun x => x.2.1).zip ks).map (fun q => Value.ref q.1) = vs := by
    apply List.ext_getElem?
    intro j
    rw [List.getElem?_map]
    cases hj : vs[j]? with
    | none =>
      have h1 := List.getElem?_eq_none_iff.mp hj
      rw [List.getElem?_eq_none (by rw [List.length_zip, List.length_map]; omega)]
      rfl
    | some v =>
      obtain ⟨x, hx, rfl⟩ := key_at j v (hv j v hj)
      obtain ⟨k, hk, _⟩ := at_ j x hx
      have : ((xs.map fun x => x.2.1).zip ks)[j]? = some (x.2.1, k) := List.getElem?_zip_eq_some.mpr ⟨by rw [List.getElem?_map, hx]; rfl, hk⟩
      rw [this]
      rfl
  obtain ⟨L, pL, eL⟩ := perm_lift (fun q : Addr × List Int => Value.ref q.1) pm ((xs.map fun x => x.2.1).zip ks) hL
  have inL : ∀ y ∈ L, ∃ (j : Nat) (x : List Key × Addr × Value), xs[j]? = some x ∧ ks[j]? = some y.2 ∧ y.1 = x.2.1 := by
    intro y hy
    obtain ⟨j, hj⟩ := List.mem_iff_getElem?.mp (pL.mem_iff.mp hy)
    obtain ⟨h1, h2⟩ := List.getElem?_zip_eq_some.mp hj
    rw [List.getElem?_map] at h1
    cases hx : xs[j]? with
    | none =>
      rw [hx] at h1
      exact nomatch (show (none : Option Addr) = some y.1 from h1)
    | some x =>
      rw [hx] at h1
      exact ⟨j, x, hx, h2, (Option.some.inj h1).symm⟩
  have p2 : (L.map (·.2)).Perm ks := by
    have e := pL.map (·.2)
    have m2 : ((xs.map fun x => x.2.1).zip ks).map (·.2) = ks := List.map_snd_zip (by rw [List.length_map]; omega)
    rw [m2] at e
    exact e
  have nk : ks.Nodup := by
    have e1 : xs.map (·.1) = ks.map (fun k => k.map Sum.inl) := by
      rw [← ek]
      apply List.ext_getElem?
      intro j
      rw [List.getElem?_map, List.getElem?_map]
      cases hj : xs[j]? with
      | none =>
        have h1 := List.getElem?_eq_none_iff.mp hj
        rw [List.getElem?_eq_none (by omega)]
        rfl
      | some x =>
        obtain ⟨p, hp, r1, _⟩ := DX.pget pr hj
        rw [hp]
        show some x.1 = some p.1
        rw [r1]
    rw [e1] at hn
    exact List.Pairwise.of_map _ (fun a b hne e => hne (by rw [e])) hn
  have pwL : L.Pairwise (fun q r => TS.code B q.2 ≤ TS.code B r.2) := by
    rw [← eL, List.pairwise_map] at pw
    refine List.Pairwise.imp_of_mem (fun {y u} hy hu hle => ?_) pw
    obtain ⟨j, x, h1, h2, h3⟩ := inL y hy
    obtain ⟨j', x', h1', h2', h3'⟩ := inL u hu
    have f1 : TS.intsOf s.heap (.ref y.1) = y.2 := by rw [h3]; exact (tup j x _ h1 h2).ints
    have f2 : TS.intsOf s.heap (.ref u.1) = u.2 := by rw [h3']; exact (tup j' x' _ h1' h2').ints
    rw [← f1, ← f2]
    exact hle
  have hn0 : H p = none := I.hok.fresh hp
  have hlen : (L.map fun q => V.ref q.1).length ≤ sizeLine := by
    have := p2.length_eq
    rw [List.length_map] at this ⊢
    omega
  have rv : Vals (L.map fun q => V.ref q.1) out.toList := by
    rw [← eL]
    exact vals_of_refs L
  exact ⟨.ref p, _, I.laid (a := p) (t' := tk) (o := .lst (L.map fun q => V.ref q.1)) hk hp ⟨hlen, out.toList, c, rv, hg⟩, rfl, q L p p2 (p2.nodup_iff.mpr nk) pwL (fun y hy => by
    obtain ⟨j, x, h1, h2, h3⟩ := inL y hy
    obtain ⟨k, hk', _, ht⟩ := at_ j x h1
    rw [h2] at hk'
    cases hk'
    rw [h3]
    exact ht) hn0⟩
end
end L2

set_option Elab.async false
set_option linter.all false
set_option maxRecDepth 100000
set_option maxHeartbeats 8000000
namespace J
open PySem PySem.Spec PyProof.Rows L2
/-! ### an own error with two fields -/
def spXI2 (C : Addr) (f g : Str) : Sp := fun vs H Q _ => ∃ (a : Addr) (v u : V), vs = [.ref a, v, u] ∧ H a = some (exo a C none) ∧ ∀ dx, H dx = none → dx ≠ a → Q .non (upd (upd (upd H dx (exd dx [(f, v)])) a (exo a C (some dx))) dx (exd dx [(g, u), (f, v)]))
structure Ex2 (P : Program) (w : World) (K : PySem.W.Frag) (mg : Str → Option Value) (base : Heap) (x f g : Str) (C fI : Addr) (fd : FuncData) (ps : List Str) : Prop where
  o : OexC K C
  i : PySem.W.findIn K (.ref C) "__init__" = some (some (.ref fI))
  t : PySem.W.typeIn K (.ref fI) = some (.type "function")
  F : FnOk P w K mg base CX0 1 fI fd ps (spXI2 C f g)
  b : Binds K fd ps []
  m : mg x = some (.ref C)
  xf : XfC K C
  no1 : PySem.W.findIn K (.ref C) f = some none
  no2 : PySem.W.findIn K (.ref C) g = some none
  te : PySem.W.exmOne K (.ref C) (.ref C) = some true
def Tells2 (H : Hp) (C : Addr) (f g : Str) (v u : V) (E : XK) : Prop := ∀ d H', H d = none → Same H H' → H' d = some (.xd [(g, u), (f, v)]) → E (.ref C) (some d) H'
theorem Tells2.mono {H H1 : Hp} {C : Addr} {f g : Str} {v u : V} {E : XK} (h : Tells2 H C f g v u E) (S : Same H H1) : Tells2 H1 C f g v u E := fun d H' n S1 e => h d H' (S.free n) (S.trans S1) e
theorem mkO_of2 {C : Addr} {f g : Str} {v u : V} {H : Hp} {Q : XK} (h : Tells2 H C f g v u Q) : [v, u].length ≤ 1000 ∧ ∀ a, H a = none → spXI2 C f g (.ref a :: ([v, u] ++ [])) (upd H a (exo a C none))
    (fun z H2 => z = .non ∧ ∃ (d : Addr) (fs : List (Str × V)), H2 a = some (exo a C (some d)) ∧ H2 d = some (exd d fs) ∧ H d = none ∧ Q (.ref C) (some d) (upd (del H2 a) d (.xd fs))) (fun _ _ _ => False) := by
  refine ⟨(by show 2 ≤ 1000; decide), fun a ha => ⟨a, v, u, rfl, upd_same, fun dx hdx ne => ⟨rfl, dx, [(g, u), (f, v)], ?_, upd_same, ?_, ?_⟩⟩⟩
  · rw [upd_ne ne.symm, upd_same]
  · rw [upd_ne ne] at hdx
    exact hdx
  · rw [upd_ne ne] at hdx
    refine h _ _ hdx (fun b o e => ?_) upd_same
    have n1 := ne_of_none e hdx
    have n2 := ne_of_none e ha
    rw [upd_ne n1, del_ne n2, upd_ne n1, upd_ne n2, upd_ne n1, upd_ne n2]
    exact e
def ShAll (H : Hp) : List V → List Sh → Prop := Paired fun x s => Is H x s ∧ Known H (items s)
theorem ShAll.keep {H H' : Hp} (S : Same H H') : ∀ {xs : List V} {ss : List Sh}, ShAll H xs ss → ShAll H' xs ss
  | _, _, .nil => .nil
  | _, _, .cons h t => .cons ⟨h.1.keep S, h.2.keep S⟩ (ShAll.keep S t)
theorem ShAll.at_ {H : Hp} : ∀ {xs : List V} {ss : List Sh} {j : Nat} {x : V}, ShAll H xs ss → xs[j]? = some x → ∃ s, ss[j]? = some s ∧ Is H x s ∧ Known H (items s)
  | _, _, _, _, .nil, e => by simp at e
  | _, _, 0, _, .cons h _, e => by
    simp at e
    subst e
    exact ⟨_, rfl, h⟩
  | _, _, j + 1, x, .cons _ t, e => by
    obtain ⟨s, a, b⟩ := ShAll.at_ (j := j) (x := x) t (by simpa using e)
    exact ⟨s, by simpa using a, b⟩
theorem ShAll.len {H : Hp} {xs : List V} {ss : List Sh} (h : ShAll H xs ss) : xs.length = ss.length := Paired.length h
structure TiX (K : PySem.W.Frag) (mg : Str → Option Value) (C : Addr) : Prop extends TiC K C where
  isc : C8.InsC K C
  nt : PySem.W.kitOne K (.type "tuple") (.ref C) = some false
  nl : PySem.W.kitOne K (.type "list") (.ref C) = some false
  nf : PySem.W.notFirst K C (.type "tuple") = true
  mT : mg "Ties" = some (.ref C)
abbrev s_BadBook_init : Stmt := inClass (top 10) 0
theorem sc_BadBook_init : FnScope ["self", "index", "what"] ["self", "index", "what"] (defScope s_BadBook_init) := ⟨rfl, rfl, rfl, by decide +kernel, rfl, by decide +kernel, by decide +kernel⟩
abbrev s_check_threes : Stmt := top 35
theorem sc_check_threes : FnScope ["ties", "threes", "word", "index", "three"] ["ties", "threes", "word"] (defScope s_check_threes) := ⟨rfl, rfl, rfl, by decide +kernel, rfl, by decide +kernel, by decide +kernel⟩
/-- how a wrong book is told -/
abbrev Told (H : Hp) (CB : Addr) (j : Int) (u : Str) (E : XK) : Prop := Tells2 H CB "index" "what" (.int j) (.str u) E
def spChk (C CB : Addr) : Sp := fun vs H Q E => ∃ (t v : V) (u : Str), vs = [t, v, .str u] ∧ (((∃ z xs, t = .ref z ∧ H z = some (.lst xs)) ∧ Told H CB 0 "ties" E) ∨
  (∃ (x : Addr) (ns : List Int) (s : Sh) (ss : List Sh), t = .ref x ∧ TiesAt C H x ns ∧ Is H v s ∧ ShAll H (items s) ss ∧ ((s.isL || s.isT) = false → Told H CB 0 u E) ∧
    (∀ (j : Nat) (s' : Sh), (s.isL || s.isT) = true → ss[j]? = some s' → threeB ns s' = false → (∀ (i : Nat) (s' : Sh), i < j → ss[i]? = some s' → threeB ns s' = true) → Told H CB (j : Nat) "three" E) ∧
    ((s.isL || s.isT) = true → (∀ s' ∈ ss, threeB ns s' = true) → ∀ H', Same H H' → Q .non H')))
section
variable {P : Program} {w : World} {K : PySem.W.Frag} {mg : Str → Option Value} {base : Heap}
theorem ok_BadBook_init {f C : Addr} {fd : FuncData} (F : Fun K "__init__" "BadBook.__init__" s_BadBook_init f fd) (o : OexC K C) (no1 : PySem.W.findIn K (.ref C) "index" = some none) (no2 : PySem.W.findIn K (.ref C) "what" = some none) :
    FnOk P w K mg base CX0 1 f fd ["self", "index", "what"] (spXI2 C "index" "what") := by
  refine F.ok sc_BadBook_init (fun vs H Q E h => ?_) (fun cdv A outer s H vs Q E hr h => ?_)
  · obtain ⟨x, s, u, rfl, _⟩ := h
    rfl
  · obtain ⟨a, v, u, rfl, ha, k⟩ := h
    refine ⟨_, pss_cons (ps_ost (pv 0) (pv 1)) (pss_one (ps_ost (pv 0) (pv 2))), ?_⟩
    refine ⟨_, rfl, _, rfl, a, C, rfl, o, no1, .inl ⟨ha, fun dx hdx ne => ?_⟩⟩
    refine ⟨_, rfl, _, rfl, a, C, rfl, o, no2, .inr ⟨dx, [("index", v)], upd_same, by rw [upd_ne ne, upd_same], (by show 1 ≤ 900; decide), ?_⟩⟩
    exact k dx hdx ne
theorem ok_check_threes {f C CB fS fH fI : Addr} {fd fdS fdH fdI : FuncData} (F : Fun K "_check_threes" "_check_threes" s_check_threes f fd) (T : TiX K mg C) (nis : mg "isinstance" = none) (ne : mg "enumerate" = none)
    (GS : Cal P w K mg base CX0 1 "is_sequence" fS fdS ["thing"] spSeq) (GI : Cal P w K mg base CX0 3 "is_three" fH fdH ["ties", "thing"] (spThree C)) (GB : Ex2 P w K mg base "BadBook" "index" "what" CB fI fdI ["self", "index", "what"]) :
    FnOk P w K mg base (L2.CX P w) 4 f fd ["ties", "threes", "word"] (spChk C CB) := by
  refine F.okX sc_check_threes (fun vs H Q E h => ?_) (fun cdv A outer s H vs Q E hr h => ?_)
  · obtain ⟨t, v, u, rfl, _⟩ := h
    rfl
  · obtain ⟨t, v, u, rfl, h⟩ := h
    have hr2 : Room 2 _ := hr.mono (by decide)
    rcases h with ⟨⟨z, xs, rfl, hz⟩, k⟩ | ⟨x, ns, sh, ss, rfl, hT, hv, hs, k1, k2, k3⟩
    · refine ⟨_, (pss_cons 
  (ps_if (pt_not (pt_val (pe_callB call_isi (by rfl) nis (by decide +kernel) (pa_cons (pv 0) (pa_cons (pe_glob (v := .ref C) rfl T.mT rfl) pa_nil))))) (pss_one (ps_raise rfl (takes_of rfl rfl rfl rfl) (pmk_oex GB.o GB.i GB.t GB.F hr2 GB.b .nil pass0 rfl GB.m (pa_cons pe_int (pa_cons pe_str pa_nil))))) pss_nil) (pss_cons 
  (ps_if (pt_not (pt_val (pcal GS hr pass0 (pa_cons (pv 1) pa_nil)))) (pss_one (ps_raise rfl (takes_of rfl rfl rfl rfl) (pmk_oex GB.o GB.i GB.t GB.F hr2 GB.b .nil pass0 rfl GB.m (pa_cons pe_int (pa_cons (pv 2) pa_nil))))) pss_nil) (pss_one 
  (ps_for (passes_of rfl) rfl (pi_enum (by rfl) ne (pa_cons (pv 1) pa_nil)) (pg_tup (by rfl) (pgs_cons (pg_name (i := 3) sc_check_threes.nd rfl (Or.inl rfl)) (pgs_cons (pg_name (i := 4) sc_check_threes.nd rfl (Or.inl rfl)) pgs_nil))) (pss_one 
    (ps_if (pt_not (pt_val (pcal GI hr pass0 (pa_cons (pv 0) (pa_cons (pv 4) pa_nil))))) (pss_one (ps_raise rfl (takes_of rfl rfl rfl rfl) (pmk_oex GB.o GB.i GB.t GB.F hr2 GB.b .nil pass0 rfl GB.m (pa_cons (pv 3) (pa_cons pe_str pa_nil))))) pss_nil)))))), ?_⟩
      exact ⟨_, rfl, _, _, _, _, false, rfl, .own C, .base (.lst hz), T.nl, _, rfl, iteT (mkO_of2 k)⟩
    obtain ⟨dx, tt, hx, htt⟩ := id hT
    cases sh with
    | sc w =>
      refine ⟨_, (pss_cons 
  (ps_if (pt_not (pt_val (pe_callB call_isi (by rfl) nis (by decide +kernel) (pa_cons (pv 0) (pa_cons (pe_glob (v := .ref C) rfl T.mT rfl) pa_nil))))) (pss_one (ps_raise rfl (takes_of rfl rfl rfl rfl) (pmk_oex GB.o GB.i GB.t GB.F hr2 GB.b .nil pass0 rfl GB.m (pa_cons pe_int (pa_cons pe_str pa_nil))))) pss_nil) (pss_cons 
  (ps_if (pt_not (pt_val (pcal GS hr pass0 (pa_cons (pv 1) pa_nil)))) (pss_one (ps_raise rfl (takes_of rfl rfl rfl rfl) (pmk_oex GB.o GB.i GB.t GB.F hr2 GB.b .nil pass0 rfl GB.m (pa_cons pe_int (pa_cons (pv 2) pa_nil))))) pss_nil) (pss_one 
  (ps_for (passes_of rfl) rfl (pi_enum (by rfl) ne (pa_cons (pv 1) pa_nil)) (pg_tup (by rfl) (pgs_cons (pg_name (i := 3) sc_check_threes.nd rfl (Or.inl rfl)) (pgs_cons (pg_name (i := 4) sc_check_threes.nd rfl (Or.inl rfl)) pgs_nil))) (pss_one 
    (ps_if (pt_not (pt_val (pcal GI hr pass0 (pa_cons (pv 0) (pa_cons (pv 4) pa_nil))))) (pss_one (ps_raise rfl (takes_of rfl rfl rfl rfl) (pmk_oex GB.o GB.i GB.t GB.F hr2 GB.b .nil pass0 rfl GB.m (pa_cons (pv 3) (pa_cons pe_str pa_nil))))) pss_nil)))))), ?_⟩
      refine ⟨_, rfl, _, _, _, _, true, rfl, .own C, .base (.ins hx T.cl T.isc.ha T.isc.hn T.isc.htk T.isc.hm), T.isc.me, _, rfl, iteF ?_⟩
      exact ⟨_, rfl, _, Sh.sc w, rfl, hv, fun H1 S1 => ⟨_, rfl, iteT ⟨_, rfl, mkO_of2 ((k1 rfl).mono S1)⟩⟩⟩
    | dk =>
      refine ⟨_, (pss_cons 
  (ps_if (pt_not (pt_val (pe_callB call_isi (by rfl) nis (by decide +kernel) (pa_cons (pv 0) (pa_cons (pe_glob (v := .ref C) rfl T.mT rfl) pa_nil))))) (pss_one (ps_raise rfl (takes_of rfl rfl rfl rfl) (pmk_oex GB.o GB.i GB.t GB.F hr2 GB.b .nil pass0 rfl GB.m (pa_cons pe_int (pa_cons pe_str pa_nil))))) pss_nil) (pss_cons 
  (ps_if (pt_not (pt_val (pcal GS hr pass0 (pa_cons (pv 1) pa_nil)))) (pss_one (ps_raise rfl (takes_of rfl rfl rfl rfl) (pmk_oex GB.o GB.i GB.t GB.F hr2 GB.b .nil pass0 rfl GB.m (pa_cons pe_int (pa_cons (pv 2) pa_nil))))) pss_nil) (pss_one 
  (ps_for (passes_of rfl) rfl (pi_enum (by rfl) ne (pa_cons (pv 1) pa_nil)) (pg_tup (by rfl) (pgs_cons (pg_name (i := 3) sc_check_threes.nd rfl (Or.inl rfl)) (pgs_cons (pg_name (i := 4) sc_check_threes.nd rfl (Or.inl rfl)) pgs_nil))) (pss_one 
    (ps_if (pt_not (pt_val (pcal GI hr pass0 (pa_cons (pv 0) (pa_cons (pv 4) pa_nil))))) (pss_one (ps_raise rfl (takes_of rfl rfl rfl rfl) (pmk_oex GB.o GB.i GB.t GB.F hr2 GB.b .nil pass0 rfl GB.m (pa_cons (pv 3) (pa_cons pe_str pa_nil))))) pss_nil)))))), ?_⟩
      refine ⟨_, rfl, _, _, _, _, true, rfl, .own C, .base (.ins hx T.cl T.isc.ha T.isc.hn T.isc.htk T.isc.hm), T.isc.me, _, rfl, iteF ?_⟩
      exact ⟨_, rfl, _, Sh.dk, rfl, hv, fun H1 S1 => ⟨_, rfl, iteT ⟨_, rfl, mkO_of2 ((k1 rfl).mono S1)⟩⟩⟩
    | lst xs =>
      obtain ⟨p, rfl, hp⟩ := hv
      refine ⟨_, (pss_cons 
  (ps_if (pt_not (pt_val (pe_callB call_isi (by rfl) nis (by decide +kernel) (pa_cons (pv 0) (pa_cons (pe_glob (v := .ref C) rfl T.mT rfl) pa_nil))))) (pss_one (ps_raise rfl (takes_of rfl rfl rfl rfl) (pmk_oex GB.o GB.i GB.t GB.F hr2 GB.b .nil pass0 rfl GB.m (pa_cons pe_int (pa_cons pe_str pa_nil))))) pss_nil) (pss_cons 
  (ps_if (pt_not (pt_val (pcal GS hr pass0 (pa_cons (pv 1) pa_nil)))) (pss_one (ps_raise rfl (takes_of rfl rfl rfl rfl) (pmk_oex GB.o GB.i GB.t GB.F hr2 GB.b .nil pass0 rfl GB.m (pa_cons pe_int (pa_cons (pv 2) pa_nil))))) pss_nil) (pss_one 
  (ps_for (passes_of rfl) rfl (pi_enum (by rfl) ne (pa_cons (pv 1) pa_nil)) (pg_tup (by rfl) (pgs_cons (pg_name (i := 3) sc_check_threes.nd rfl (Or.inl rfl)) (pgs_cons (pg_name (i := 4) sc_check_threes.nd rfl (Or.inl rfl)) pgs_nil))) (pss_one 
    (ps_if (pt_not (pt_val (pcal GI hr pass0 (pa_cons (pv 0) (pa_cons (pv 4) pa_nil))))) (pss_one (ps_raise rfl (takes_of rfl rfl rfl rfl) (pmk_oex GB.o GB.i GB.t GB.F hr2 GB.b .nil pass0 rfl GB.m (pa_cons (pv 3) (pa_cons pe_str pa_nil))))) pss_nil)))))), ?_⟩
      refine ⟨_, rfl, _, _, _, _, true, rfl, .own C, .base (.ins hx T.cl T.isc.ha T.isc.hn T.isc.htk T.isc.hm), T.isc.me, _, rfl, iteF ?_⟩
      refine ⟨_, rfl, _, Sh.lst xs, rfl, ⟨p, rfl, hp⟩, fun H1 S1 => ⟨_, rfl, iteF ?_⟩⟩
      have h1 := S1 _ _ hp
      refine ⟨_, rfl, p, xs, rfl, SqL.of h1, for_enum (K := K) (a := p) (xs := xs) (fun i σ H' => ∃ v3 v4 : Option V, σ = [some (.ref x), some (.ref p), some (.str u), v3, v4] ∧ Same H1 H' ∧ ∀ a s', a < i → ss[a]? = some s' → threeB ns s' = true)
        ⟨none, none, rfl, Same.refl _, fun a s' ha => absurd ha (Nat.not_lt_zero a)⟩ (fun i σ H' _ ⟨_, _, _, S, _⟩ => SqL.of (S _ _ h1)) ?_ ?_⟩
      · rintro i y σ H' T0 hy ⟨v3, v4, rfl, S3, hb⟩ hT0
        have S4 : Same H1 (upd H' T0 (.tup [.int (i : Nat), y])) := S3.trans (new_same hT0)
        refine ⟨T0, _, rfl, SqT.of upd_same, rfl, _, _, rfl, _, _, rfl, rfl, ?_⟩
        generalize upd H' T0 (.tup [.int (i : Nat), y]) = H4 at S4
        have SA := S1.trans S4
        obtain ⟨sy, esy, isy, kny⟩ := (hs.keep SA).at_ hy
        refine ⟨_, rfl, _, rfl, x, ns, y, sy, rfl, hT.keep SA, isy, kny, fun H5 S5 => ⟨_, rfl, ?_⟩⟩
        cases e : threeB ns sy with
        | false => exact iteT ⟨_, rfl, mkO_of2 ((k2 i sy rfl esy e hb).mono (SA.trans S5))⟩
        | true =>
          refine iteF ⟨_, _, rfl, S4.trans S5, fun a s' ha es => ?_⟩
          rcases Nat.lt_or_ge a i with h | h
          · exact hb a s' h es
          · obtain rfl : a = i := by omega
            rw [esy] at es
            obtain rfl := Option.some.inj es
            exact e
      · rintro σ H' ⟨v3, v4, rfl, S3, hb⟩
        refine k3 rfl (fun s' hm => ?_) _ (S1.trans S3)
        obtain ⟨j, hj⟩ := List.mem_iff_getElem?.mp hm
        have l := hs.len
        have lj := (List.getElem?_eq_some_iff.mp hj).1
        exact hb j s' (by show j < xs.length; have : (items (Sh.lst xs)).length = xs.length := rfl; omega) hj
    | tup xs =>
      obtain ⟨p, rfl, hp⟩ := hv
      refine ⟨_, (pss_cons 
  (ps_if (pt_not (pt_val (pe_callB call_isi (by rfl) nis (by decide +kernel) (pa_cons (pv 0) (pa_cons (pe_glob (v := .ref C) rfl T.mT rfl) pa_nil))))) (pss_one (ps_raise rfl (takes_of rfl rfl rfl rfl) (pmk_oex GB.o GB.i GB.t GB.F hr2 GB.b .nil pass0 rfl GB.m (pa_cons pe_int (pa_cons pe_str pa_nil))))) pss_nil) (pss_cons 
  (ps_if (pt_not (pt_val (pcal GS hr pass0 (pa_cons (pv 1) pa_nil)))) (pss_one (ps_raise rfl (takes_of rfl rfl rfl rfl) (pmk_oex GB.o GB.i GB.t GB.F hr2 GB.b .nil pass0 rfl GB.m (pa_cons pe_int (pa_cons (pv 2) pa_nil))))) pss_nil) (pss_one 
  (ps_for (passes_of rfl) rfl (pi_enumT (by rfl) ne (pa_cons (pv 1) pa_nil)) (pg_tup (by rfl) (pgs_cons (pg_name (i := 3) sc_check_threes.nd rfl (Or.inl rfl)) (pgs_cons (pg_name (i := 4) sc_check_threes.nd rfl (Or.inl rfl)) pgs_nil))) (pss_one 
    (ps_if (pt_not (pt_val (pcal GI hr pass0 (pa_cons (pv 0) (pa_cons (pv 4) pa_nil))))) (pss_one (ps_raise rfl (takes_of rfl rfl rfl rfl) (pmk_oex GB.o GB.i GB.t GB.F hr2 GB.b .nil pass0 rfl GB.m (pa_cons (pv 3) (pa_cons pe_str pa_nil))))) pss_nil)))))), ?_⟩
      refine ⟨_, rfl, _, _, _, _, true, rfl, .own C, .base (.ins hx T.cl T.isc.ha T.isc.hn T.isc.htk T.isc.hm), T.isc.me, _, rfl, iteF ?_⟩
      refine ⟨_, rfl, _, Sh.tup xs, rfl, ⟨p, rfl, hp⟩, fun H1 S1 => ⟨_, rfl, iteF ?_⟩⟩
      have h1 := S1 _ _ hp
      refine ⟨_, rfl, p, xs, rfl, SqT.of h1, for_enumT (K := K) (a := p) (xs := xs) (fun i σ H' => ∃ v3 v4 : Option V, σ = [some (.ref x), some (.ref p), some (.str u), v3, v4] ∧ Same H1 H' ∧ ∀ a s', a < i → ss[a]? = some s' → threeB ns s' = true)
        ⟨none, none, rfl, Same.refl _, fun a s' ha => absurd ha (Nat.not_lt_zero a)⟩ (fun i σ H' _ ⟨_, _, _, S, _⟩ => SqT.of (S _ _ h1)) ?_ ?_⟩
      · rintro i y σ H' T0 hy ⟨v3, v4, rfl, S3, hb⟩ hT0
        have S4 : Same H1 (upd H' T0 (.tup [.int (i : Nat), y])) := S3.trans (new_same hT0)
        refine ⟨T0, _, rfl, SqT.of upd_same, rfl, _, _, rfl, _, _, rfl, rfl, ?_⟩
        generalize upd H' T0 (.tup [.int (i : Nat), y]) = H4 at S4
        have SA := S1.trans S4
        obtain ⟨sy, esy, isy, kny⟩ := (hs.keep SA).at_ hy
        refine ⟨_, rfl, _, rfl, x, ns, y, sy, rfl, hT.keep SA, isy, kny, fun H5 S5 => ⟨_, rfl, ?_⟩⟩
        cases e : threeB ns sy with
        | false => exact iteT ⟨_, rfl, mkO_of2 ((k2 i sy rfl esy e hb).mono (SA.trans S5))⟩
        | true =>
          refine iteF ⟨_, _, rfl, S4.trans S5, fun a s' ha es => ?_⟩
          rcases Nat.lt_or_ge a i with h | h
          · exact hb a s' h es
          · obtain rfl : a = i := by omega
            rw [esy] at es
            obtain rfl := Option.some.inj es
            exact e
      · rintro σ H' ⟨v3, v4, rfl, S3, hb⟩
        refine k3 rfl (fun s' hm => ?_) _ (S1.trans S3)
        obtain ⟨j, hj⟩ := List.mem_iff_getElem?.mp hm
        have l := hs.len
        have lj := (List.getElem?_eq_some_iff.mp hj).1
        exact hb j s' (by show j < xs.length; have : (items (Sh.tup xs)).length = xs.length := rfl; omega) hj
end
end J

set_option Elab.async false
set_option linter.all false
set_option maxRecDepth 100000
set_option maxHeartbeats 4000000
/-! range objects as values that are walked; in, not in of tuples -/
namespace L2
open PySem PySem.Spec PyProof.Rows
section
variable {X : Cx} {tg : Expr}
theorem cr_range1 : CallR X (.type "range") (fun vs H Q => ∃ j, vs = [V.int j] ∧ ∀ p, H p = none → Q (.ref p) (upd H p (.rng 0 j))) := by
  intro pins s σ H vs us Q I r h
  obtain ⟨j, rfl, q⟩ := h
  obtain ⟨u1, rfl, ri⟩ := vals1 r
  obtain ⟨t, rfl⟩ := ri
  refine call_range_1 ⟨.ref s.heap.objs.size, upd H s.heap.objs.size (.rng 0 j), I.laid (t' := s.toks + 2) (fun b o e => Heap.get?_push_of_some _ e) (Nat.le_refl _) ?_, rfl, q _ (I.hok.fresh (Nat.le_refl _))⟩
  exact ⟨_, _, _, Heap.get?_push_size _ rfl⟩
def iRngO (tl : TE) : TI := fun σ H R => tl σ H fun x H1 => ∃ (a : Addr) (n : Nat), x = .ref a ∧ H1 a = some (.rng 0 (n : Nat)) ∧ n ≤ 1000 ∧ R (Itr 0 n) H1
theorem pi_rngO {l : Expr} {tl : TE} (hl : PE X l tl) : PI X tg l (iRngO tl) := by
  refine ⟨fun pins s σ H R I h => ?_⟩
  refine thn (hl.run pins s σ H _ I h) fun v s1 ⟨x, H1, I1, r1, q1⟩ => ?_
  obtain ⟨a, n, e, ha, hn, q⟩ := q1
  subst e
  cases r1
  obtain ⟨t, u, w, ho⟩ := (show ∃ t u v, s1.heap.get? a = some { cls := .type "range", data := .fields #[.int 0 t, .int (n : Nat) u, .int 1 v] } from I1.hok a _ ha)
  refine wpAny_pyIter_range (show IsRange s1.heap a 0 (n : Nat) 1 t u w from ho) (small_one (by omega) (by omega) (by omega) (by omega)) ?_
  refine ⟨s1.heap.objs.size, [s1.heap.objs.size], _, _, H1, rfl, I1.kept (t' := s1.toks) fun b o e => Heap.get?_push_of_some _ e, turn_range _ 0 n, ?_, fun b hb => ?_, q⟩
  · have e1 : (0 : Int) + ((0 : Nat) : Int) * 1 = 0 := by simp
    have e2 : (n : Int) - ((0 : Nat) : Int) = Builtin.Range.rangeSize 0 (n : Nat) 1 := by rw [rangeSize_one]; split <;> omega
    show IsRangeIter _ _ (0 + ((0 : Nat) : Int) * 1) ((n : Int) - ((0 : Nat) : Int)) 1
    rw [e1, e2]
    exact Heap.get?_push_size _ rfl
  · have e : b = s1.heap.objs.size := by simpa using hb
    subst e
    exact I1.fpOk (Nat.le_refl _) (I1.hok.fresh (Nat.le_refl _))
def rInDT (K : PySem.W.Frag) : R2 := fun x y H Q => ∃ d ds, Dp K H x d ∧ Dp K H y (.tuple ds) ∧ SeqAt.shaped d = true ∧ SeqAt.shaped (.tuple ds) = true ∧ Q (.bl (ds.any fun z => PyData.eqv z d)) H
def rNotInDT (K : PySem.W.Frag) : R2 := fun x y H Q => ∃ d ds, Dp K H x d ∧ Dp K H y (.tuple ds) ∧ SeqAt.shaped d = true ∧ SeqAt.shaped (.tuple ds) = true ∧ Q (.bl (!ds.any fun z => PyData.eqv z d)) H
theorem op_inDT (hu : X.A.units + 65 < cLine) : OpR X (compareOp .In) (rInDT X.K) := by
  intro pins s σ H x y v u Q I rx ry h
  obtain ⟨d, ds, hd, he, sd, se, q⟩ := h
  obtain ⟨as, r1⟩ := Dp.reads I d x v hd rx
  obtain ⟨bs, r2⟩ := Dp.reads I (.tuple ds) y u he ry
  exact SeqAt.in_tuple_reads r2 r1 (SeqAt.canLay_of_shaped se) (SeqAt.canLay_of_shaped sd) (room_in_shaped sd hu) ⟨.bl _, H, I, rfl, q⟩
theorem op_notInDT (hu : X.A.units + 65 < cLine) : OpR X (compareOp .NotIn) (rNotInDT X.K) := by
  intro pins s σ H x y v u Q I rx ry h
  obtain ⟨d, ds, hd, he, sd, se, q⟩ := h
  obtain ⟨as, r1⟩ := Dp.reads I d x v hd rx
  obtain ⟨bs, r2⟩ := Dp.reads I (.tuple ds) y u he ry
  exact SeqAt.notIn_tuple_reads r2 r1 (SeqAt.canLay_of_shaped se) (SeqAt.canLay_of_shaped sd) (room_in_shaped sd hu) ⟨.bl _, H, I, rfl, q⟩
end
end L2

set_option Elab.async false
set_option linter.all false
set_option maxRecDepth 100000
set_option maxHeartbeats 8000000
namespace J
open PySem PySem.Spec PyProof.Rows L2
/-! ### all readings of given threes: the mathematics -/
def inR (ns : List Int) (t : List Int) : List Int → Bool
  | [p, q, r] => decide (t ∈ six ns p q r)
  | _ => false
/-- the threes that are barred with ts, ascending -/
def brd (ns : List Int) (ts : List (List Int)) : List (List Int) := (A3 ns.length ns.length).filter fun t => ts.any (inR ns t)
theorem inR_A3 {ns : List Int} {t u : List Int} (g : GoodB ns) (hu : u ∈ A3 ns.length ns.length) (h : inR ns t u = true) : t ∈ A3 ns.length ns.length := by
  obtain ⟨p, q, r, rfl, ip, iq, ir⟩ := A3_in hu (ns := ns) rfl
  obtain ⟨a, b, c, rfl, ia, ib, ic⟩ := six_in g ip iq ir t (of_decide_eq_true h)
  exact in_A3 ia ib ic
theorem brd_mem {ns : List Int} {ts : List (List Int)} {t : List Int} (g : GoodB ns) (ha : ∀ u ∈ ts, u ∈ A3 ns.length ns.length) : t ∈ brd ns ts ↔ ∃ u ∈ ts, inR ns t u = true := by
  unfold brd
  rw [List.mem_filter, List.any_eq_true]
  exact ⟨fun h => h.2, fun ⟨u, hu, e⟩ => ⟨inR_A3 g (ha u hu) e, u, hu, e⟩⟩
theorem brd_of {ns : List Int} {ts L : List (List Int)} (g : GoodB ns) (ha : ∀ u ∈ ts, u ∈ A3 ns.length ns.length) (pw : L.Pairwise (fun a b => TS.code 4 a < TS.code 4 b)) (mem : ∀ t, t ∈ L ↔ ∃ u ∈ ts, inR ns t u = true) : L = brd ns ts :=
  asc_unique (f := TS.code 4) pw ((A3_asc _ g.hi).sublist List.filter_sublist) fun t => by rw [mem, brd_mem g ha]
theorem A3_bd {n : Nat} {t : List Int} (hn : n ≤ 4) (h : t ∈ A3 n n) : t.length = 3 ∧ TS.Bd 4 t := by
  obtain ⟨p, q, r, hp, hq, hr, rfl⟩ := A3_mem.mp h
  refine ⟨rfl, fun m hm => ?_⟩
  simp only [List.mem_cons, List.not_mem_nil, or_false] at hm
  rcases hm with rfl | rfl | rfl <;> omega
/-- the keys of a dict -/
def KeysAre (kvs : List (List Key × V)) (ks : List (List Int)) : Prop := kvs.map (·.1) = ks.map (fun k => (k.map Sum.inl : List Key))
theorem keys_put {kvs : List (List Key × V)} {ks : List (List Int)} {k : List Int} {v : V} (h : KeysAre kvs ks) : KeysAre (putK kvs (k.map Sum.inl) v) (if k ∈ ks then ks else ks ++ [k]) := by
  unfold KeysAre at h ⊢
  have e : (kvs.any fun kv => decide (kv.1 = k.map Sum.inl)) = decide (k ∈ ks) := by
    rw [Bool.eq_iff_iff, List.any_eq_true, decide_eq_true_iff]
    constructor
    · rintro ⟨kv, hm, e⟩
      have e := of_decide_eq_true e
      have m : kv.1 ∈ kvs.map (·.1) := List.mem_map_of_mem hm
      rw [h, e] at m
      obtain ⟨k', hk', e2⟩ := List.mem_map.mp m
      rw [← inl_inj e2]
      exact hk'
    · intro hm
      have m : (k.map Sum.inl : List Key) ∈ kvs.map (·.1) := by
        rw [h]
        exact List.mem_map_of_mem hm
      obtain ⟨kv, hkv, e2⟩ := List.mem_map.mp m
      exact ⟨kv, hkv, decide_eq_true e2⟩
  unfold putK
  rw [e]
  by_cases c : k ∈ ks
  · rw [if_pos (decide_eq_true c), if_pos c, List.map_map, ← h]
    refine List.map_congr_left fun kv _ => ?_
    show (if kv.1 = k.map Sum.inl then (kv.1, v) else kv).1 = kv.1
    split <;> rfl
  · rw [if_neg (fun z => c (of_decide_eq_true z)), if_neg c, List.map_append, List.map_append, h]
    rfl
theorem keys_len {kvs : List (List Key × V)} {ks : List (List Int)} (h : KeysAre kvs ks) : kvs.length = ks.length := by
  have := congrArg List.length h
  rwa [List.length_map, List.length_map] at this
/-- things that are threes -/
def ThrAt (H : Hp) (xs : List V) (ts : List (List Int)) : Prop := Paired (fun x t => ∃ s, Is H x s ∧ (s.isL || s.isT) = true ∧ items s = t.map V.int) xs ts
theorem ThrAt.keep {H H' : Hp} {xs : List V} {ts : List (List Int)} (h : ThrAt H xs ts) (S : Same H H') : ThrAt H' xs ts := Paired.mapP h fun x t ⟨s, a, b, c⟩ => ⟨s, a.keep S, b, c⟩
theorem ThrAt.len {H : Hp} {xs : List V} {ts : List (List Int)} (h : ThrAt H xs ts) : xs.length = ts.length := Paired.length h
theorem paired_at {α β : Type} {F : α → β → Prop} : ∀ {xs : List α} {ts : List β} {j : Nat} {x : α}, Paired F xs ts → xs[j]? = some x → ∃ t, ts[j]? = some t ∧ F x t
  | _, _, _, _, .nil, e => by simp at e
  | _, _, 0, _, .cons r _, e => ⟨_, rfl, by rw [← Option.some.inj e]; exact r⟩
  | _, _, j + 1, _, .cons _ t, e => by
    obtain ⟨y, h1, h2⟩ := paired_at (j := j) t (by simpa using e)
    exact ⟨y, by simpa using h1, h2⟩
/-- the dict while it grows -/
structure Dct (n : Nat) (H1 H : Hp) (D : Addr) (ks : List (List Int)) : Prop where
  S : Same H1 H
  f : H1 D = none
  nd : ks.Nodup
  A : ∀ k ∈ ks, k ∈ A3 n n
  d : ∃ kvs, H D = some (.dT kvs) ∧ KeysAre kvs ks
theorem Dct.keep {n : Nat} {H1 H H' : Hp} {D : Addr} {ks : List (List Int)} (G : Dct n H1 H D ks) (S : Same H H') : Dct n H1 H' D ks := by
  obtain ⟨a, b, c, d, kvs, e, f⟩ := G
  exact ⟨a.trans S, b, c, d, kvs, S _ _ e, f⟩
theorem Dct.put {n : Nat} {H1 H : Hp} {D a : Addr} {ks : List (List Int)} {k : List Int} {v : V} (hn : n ≤ 4) (G : Dct n H1 H D ks) (ha : H a = some (.tup (k.map V.int))) (hk : k ∈ A3 n n) : ∃ H', DPut H D (.ref a) v H' ∧ Dct n H1 H' D (if k ∈ ks then ks else ks ++ [k]) := by
  obtain ⟨S, f, nd, A, kvs, e, K⟩ := G
  have l : kvs.length ≤ 64 := by
    rw [keys_len K]
    exact Nat.le_trans (len_sub nd A) (A3_len n hn)
  refine ⟨_, DPut.t (k := k.map Sum.inl) e (by rw [kVl_ints]; exact ha) (by rw [sizeLine_eq]; omega), fun b o eb => ?_, f, ?_, ?_, _, upd_same, keys_put K⟩
  · rw [upd_ne (ne_of_none eb f)]
    exact S _ _ eb
  · split
    · exact nd
    · rename_i c
      exact nd_snoc nd c
  · intro u hu
    split at hu
    · exact A u hu
    · rcases List.mem_append.mp hu with h | h
      · exact A u h
      · rw [List.mem_singleton.mp h]
        exact hk
theorem put_mem {ks : List (List Int)} {k t : List Int} : t ∈ (if k ∈ ks then ks else ks ++ [k]) ↔ t ∈ ks ∨ t = k := by
  split
  · rename_i c
    exact ⟨.inl, fun h => h.elim id (fun e => e ▸ c)⟩
  · rw [List.mem_append, List.mem_singleton]
theorem un1 {k : Nat} {A : Around} (r : Room k A) : A.units + 1 < cLine := by have := r.un; omega
abbrev s_with_readings : Stmt := top 36
theorem sc_with_readings : FnScope ["ties", "threes", "readings", "three", "reading"] ["ties", "threes"] (defScope s_with_readings) := ⟨rfl, rfl, rfl, by decide +kernel, rfl, by decide +kernel, by decide +kernel⟩
def spWith (C : Addr) : Sp := fun vs H Q _ => ∃ (x : Addr) (ns : List Int) (v : V) (s : Sh) (ts : List (List Int)), vs = [.ref x, v] ∧ TiesAt C H x ns ∧ GoodB ns ∧ Is H v s ∧ (s.isL || s.isT) = true ∧ ThrAt H (items s) ts ∧ (∀ t ∈ ts, t ∈ A3 ns.length ns.length) ∧
  ∀ (H' : Hp) (z : Addr), Same H H' → H z = none → TupsAt H' z (brd ns ts) → Q (.ref z) H'
section
variable {P : Program} {w : World} {K : PySem.W.Frag} {mg : Str → Option Value} {base : Heap}
theorem ok_with_readings {f C CT fR : Addr} {fd fdR : FuncData} (F : Fun K "_with_readings" "_with_readings" s_with_readings f fd) (nt : mg "tuple" = none) (nso : mg "sorted" = none)
    (GR : Cal P w K mg base (L2.CX P w) 4 "readings_of" fR fdR ["ties", "three"] (spReadings C CT)) : FnOk P w K mg base CX0 5 f fd ["ties", "threes"] (spWith C) := by
  refine F.ok sc_with_readings (fun vs H Q E h => ?_) (fun cdv A outer s H vs Q E hr h => ?_)
  · obtain ⟨x, ns, v, s, ts, rfl, _⟩ := h
    rfl
  · obtain ⟨x, ns, v, sh, ts, rfl, hT, gb, hv, hq, hth, hA, k⟩ := h
    cases sh with
    | sc u => cases hq
    | dk => cases hq
    | lst xs =>
      obtain ⟨p0, rfl, hp⟩ := hv
      have h4 := gb.hi
      refine ⟨_, (pss_cons 
  (ps_set (i := 2) sc_with_readings.nd rfl (Or.inl rfl) pe_dnewT) (pss_cons 
  (ps_for PassesOwn.never rfl (pi_list (pv 1)) (pg_name (i := 3) sc_with_readings.nd rfl (Or.inl rfl)) (pss_one 
    (ps_for PassesOwn.never rfl (pi_tup (pcal GR hr passL (pa_cons (pv 0) (pa_cons (pv 3) pa_nil)))) (pg_name (i := 4) sc_with_readings.nd rfl (Or.inl rfl)) (pss_one 
      (ps_asg pe_bl (pg_sub (pv 2) (pv 4) (set_dict (un1 hr)))))))) (pss_one 
  (ps_ret (pe_callTy (T := "tuple") (r := rTup K) call_tuple_of (by rfl) nt (by decide +kernel) (pa_cons (pe_callB (r := rSortD 3 4) (cr_sortedD rfl (by decide)) (by rfl) nso (by decide +kernel) (pa_cons (pv 2) pa_nil)) pa_nil)))))), ?_⟩
      refine fun D hD => ?_
      have S0 : Same H (upd H D (.dT [])) := new_same hD
      have hp1 := S0 _ _ hp
      refine ⟨_, rfl, p0, rfl, ⟨xs, SqL.of hp1⟩, for_list (K := K) (a := p0) (xs := xs) (fun i σ H' => ∃ (v3 v4 : Option V) (ks : List (List Int)), σ = [some (.ref x), some (.ref p0), some (.ref D), v3, v4] ∧ Dct ns.length H H' D ks ∧ ∀ t, t ∈ ks ↔ ∃ u ∈ ts.take i, inR ns t u = true)
        ⟨none, none, [], rfl, ⟨S0, hD, List.nodup_nil, fun k hk => by (cases hk), [], upd_same, rfl⟩, fun t => ⟨fun h => by (cases h), fun ⟨u, hu, _⟩ => by simp at hu⟩⟩ (fun i σ H' _ ⟨_, _, _, _, G, _⟩ => SqL.of (G.S _ _ hp)) ?_ ?_⟩
      · rintro i y σ H2 hy ⟨v3, v4, ks, rfl, G, hk⟩
        obtain ⟨t, et, sy, isy, sq, iy⟩ := paired_at (hth.keep G.S) hy
        have mt := hA t (List.mem_of_getElem? et)
        obtain ⟨p, q, r, rfl, ip, iq, ir⟩ := A3_in mt (ns := ns) rfl
        refine ⟨_, rfl, _, rfl, x, ns, y, sy, rfl, hT.keep G.S, gb, isy, known_ints iy, fun e => absurd (three_yes iy sq ip iq ir) (by rw [e]; decide), fun p' q' r' e' ip' iq' ir' H3 z L S3 nz hz R => ?_⟩
        obtain ⟨rfl, rfl, rfl⟩ := ints3 iy e'
        obtain ⟨ps, z1, z2, z3⟩ := hz
        have G3 := G.keep S3
        have z1D : z ≠ D := fun e => by
          obtain ⟨_, _, _, _, kvs, eD, _⟩ := G
          rw [e, eD] at nz
          cases nz
        refine ⟨z, rfl, ⟨_, SqT.of z1⟩, for_tup (K := K) (a := z) (xs := ps.map V.ref) (fun j σ H' => ∃ (v4 : Option V) (ks' : List (List Int)), σ = [some (.ref x), some (.ref p0), some (.ref D), some y, v4] ∧ Dct ns.length H H' D ks' ∧ But D H3 H' ∧ ∀ t, t ∈ ks' ↔ (t ∈ ks ∨ t ∈ L.take j))
          ⟨_, ks, rfl, G3, But.refl _ _, fun t => by simp⟩ (fun j σ H' _ ⟨_, _, _, _, F', _⟩ => SqT.of (F' _ _ z1D z1)) ?_ ?_⟩
        · rintro j w σ H4 hw ⟨v4, ks', rfl, G4, F4, m4⟩
          rw [List.getElem?_map] at hw
          cases ea : ps[j]? with
          | none =>
            rw [ea] at hw
            cases hw
          | some a =>
            rw [ea] at hw
            obtain rfl : V.ref a = w := Option.some.inj hw
            have lj := (List.getElem?_eq_some_iff.mp ea).1
            have el : L[j]? = some L[j] := List.getElem?_eq_getElem (by omega)
            generalize L[j] = t at el
            have ha := z3 j a t ea el
            have mL := (R.2 t).mp (List.mem_of_getElem? el)
            have aD : a ≠ D := fun e => by
              obtain ⟨_, _, _, _, kvs, eD, _⟩ := G3
              rw [e, eD] at ha
              cases ha
            obtain ⟨H5, dp, G5⟩ := G4.put (v := .bl true) h4 (F4 _ _ aD ha) (inR_A3 gb mt (decide_eq_true mL))
            refine ⟨_, rfl, _, rfl, D, H5, rfl, dp, _, _, rfl, G5, fun b o nb eb => ?_, fun u => ?_⟩
            · have e4 := F4 b o nb eb
              rcases dp with ⟨kvs, k, q1, q2, q3, q4⟩ | ⟨kvs, k, b', q1, q2, q3, q4, q5⟩
              · rw [q4, upd_ne nb]
                exact e4
              · rw [q5, upd_ne nb]
                exact e4
            · rw [put_mem, m4 u, List.take_add_one, el, List.mem_append]
              simp [or_assoc]
        · rintro σ H4 ⟨v4, ks', rfl, G4, F4, m4⟩
          refine ⟨_, _, ks', rfl, G4, fun t => ?_⟩
          rw [m4 t, hk t, List.length_map, z2, List.take_length, R.2 t, List.take_add_one, et]
          constructor
          · rintro (⟨u, hu, e⟩ | h)
            · exact ⟨u, List.mem_append_left _ hu, e⟩
            · exact ⟨_, List.mem_append_right _ (List.mem_singleton.mpr rfl), decide_eq_true h⟩
          · rintro ⟨u, hu, e⟩
            rcases List.mem_append.mp hu with h | h
            · exact .inl ⟨u, h, e⟩
            · obtain rfl := List.mem_singleton.mp h
              exact .inr (of_decide_eq_true e)
      · rintro σ H2 ⟨v3, v4, ks, rfl, ⟨S2, f2, nd, A, kvs, eD, K2⟩, hk⟩
        rw [show xs.length = ts.length from hth.len, List.take_length] at hk
        refine ⟨_, rfl, D, kvs, ks, rfl, eD, K2, fun t ht => A3_bd h4 (A t ht), fun L p pm ndL pw hL np => ?_⟩
        refine ⟨p, _, rfl, .inl ⟨SqL.of upd_same, fun z hz => ?_⟩⟩
        have S3 : Same H2 (upd H2 p (.lst (L.map fun q => V.ref q.1))) := new_same np
        have S4 := S3.trans (new_same (o := .tup (L.map fun q => V.ref q.1)) hz)
        have hz0 : H z = none := same_free S2 (same_free S3 hz)
        have e : L.map (·.2) = brd ns ts := by
          refine brd_of gb hA ?_ fun t => by rw [pm.mem_iff, hk t]
          rw [List.pairwise_map]
          refine List.Pairwise.imp_of_mem (fun {a b} ma mb h => ?_) (List.Pairwise.and pw (List.pairwise_map.mp ndL))
          have b1 := A3_bd h4 (A _ (pm.mem_iff.mp (List.mem_map_of_mem ma)))
          have b2 := A3_bd h4 (A _ (pm.mem_iff.mp (List.mem_map_of_mem mb)))
          rcases Int.lt_or_eq_of_le h.1 with c | c
          · exact c
          · exact absurd (code_inj (by omega) b1.2 b2.2 c) h.2
        refine k _ z (S2.trans S4) hz0 ⟨L.map (·.1), by rw [upd_same, List.map_map]; rfl, by rw [← e, List.length_map, List.length_map], fun j a t q1 q2 => ?_⟩
        rw [← e, List.getElem?_map] at q2
        rw [List.getElem?_map] at q1
        cases el : L[j]? with
        | none =>
          rw [el] at q1
          cases q1
        | some y =>
          rw [el] at q1 q2
          obtain rfl := Option.some.inj q1
          obtain rfl := Option.some.inj q2
          exact S4 _ _ (hL y (List.mem_of_getElem? el))
    | tup xs =>
      obtain ⟨p0, rfl, hp⟩ := hv
      have h4 := gb.hi
      refine ⟨_, (pss_cons 
  (ps_set (i := 2) sc_with_readings.nd rfl (Or.inl rfl) pe_dnewT) (pss_cons 
  (ps_for PassesOwn.never rfl (pi_tup (pv 1)) (pg_name (i := 3) sc_with_readings.nd rfl (Or.inl rfl)) (pss_one 
    (ps_for PassesOwn.never rfl (pi_tup (pcal GR hr passL (pa_cons (pv 0) (pa_cons (pv 3) pa_nil)))) (pg_name (i := 4) sc_with_readings.nd rfl (Or.inl rfl)) (pss_one 
      (ps_asg pe_bl (pg_sub (pv 2) (pv 4) (set_dict (un1 hr)))))))) (pss_one 
  (ps_ret (pe_callTy (T := "tuple") (r := rTup K) call_tuple_of (by rfl) nt (by decide +kernel) (pa_cons (pe_callB (r := rSortD 3 4) (cr_sortedD rfl (by decide)) (by rfl) nso (by decide +kernel) (pa_cons (pv 2) pa_nil)) pa_nil)))))), ?_⟩
      refine fun D hD => ?_
      have S0 : Same H (upd H D (.dT [])) := new_same hD
      have hp1 := S0 _ _ hp
      refine ⟨_, rfl, p0, rfl, ⟨xs, SqT.of hp1⟩, for_tup (K := K) (a := p0) (xs := xs) (fun i σ H' => ∃ (v3 v4 : Option V) (ks : List (List Int)), σ = [some (.ref x), some (.ref p0), some (.ref D), v3, v4] ∧ Dct ns.length H H' D ks ∧ ∀ t, t ∈ ks ↔ ∃ u ∈ ts.take i, inR ns t u = true)
        ⟨none, none, [], rfl, ⟨S0, hD, List.nodup_nil, fun k hk => by (cases hk), [], upd_same, rfl⟩, fun t => ⟨fun h => by (cases h), fun ⟨u, hu, _⟩ => by simp at hu⟩⟩ (fun i σ H' _ ⟨_, _, _, _, G, _⟩ => SqT.of (G.S _ _ hp)) ?_ ?_⟩
      · rintro i y σ H2 hy ⟨v3, v4, ks, rfl, G, hk⟩
        obtain ⟨t, et, sy, isy, sq, iy⟩ := paired_at (hth.keep G.S) hy
        have mt := hA t (List.mem_of_getElem? et)
        obtain ⟨p, q, r, rfl, ip, iq, ir⟩ := A3_in mt (ns := ns) rfl
        refine ⟨_, rfl, _, rfl, x, ns, y, sy, rfl, hT.keep G.S, gb, isy, known_ints iy, fun e => absurd (three_yes iy sq ip iq ir) (by rw [e]; decide), fun p' q' r' e' ip' iq' ir' H3 z L S3 nz hz R => ?_⟩
        obtain ⟨rfl, rfl, rfl⟩ := ints3 iy e'
        obtain ⟨ps, z1, z2, z3⟩ := hz
        have G3 := G.keep S3
        have z1D : z ≠ D := fun e => by
          obtain ⟨_, _, _, _, kvs, eD, _⟩ := G
          rw [e, eD] at nz
          cases nz
        refine ⟨z, rfl, ⟨_, SqT.of z1⟩, for_tup (K := K) (a := z) (xs := ps.map V.ref) (fun j σ H' => ∃ (v4 : Option V) (ks' : List (List Int)), σ = [some (.ref x), some (.ref p0), some (.ref D), some y, v4] ∧ Dct ns.length H H' D ks' ∧ But D H3 H' ∧ ∀ t, t ∈ ks' ↔ (t ∈ ks ∨ t ∈ L.take j))
          ⟨_, ks, rfl, G3, But.refl _ _, fun t => by simp⟩ (fun j σ H' _ ⟨_, _, _, _, F', _⟩ => SqT.of (F' _ _ z1D z1)) ?_ ?_⟩
        · rintro j w σ H4 hw ⟨v4, ks', rfl, G4, F4, m4⟩
          rw [List.getElem?_map] at hw
          cases ea : ps[j]? with
          | none =>
            rw [ea] at hw
            cases hw
          | some a =>
            rw [ea] at hw
            obtain rfl : V.ref a = w := Option.some.inj hw
            have lj := (List.getElem?_eq_some_iff.mp ea).1
            have el : L[j]? = some L[j] := List.getElem?_eq_getElem (by omega)
            generalize L[j] = t at el
            have ha := z3 j a t ea el
            have mL := (R.2 t).mp (List.mem_of_getElem? el)
            have aD : a ≠ D := fun e => by
              obtain ⟨_, _, _, _, kvs, eD, _⟩ := G3
              rw [e, eD] at ha
              cases ha
            obtain ⟨H5, dp, G5⟩ := G4.put (v := .bl true) h4 (F4 _ _ aD ha) (inR_A3 gb mt (decide_eq_true mL))
            refine ⟨_, rfl, _, rfl, D, H5, rfl, dp, _, _, rfl, G5, fun b o nb eb => ?_, fun u => ?_⟩
            · have e4 := F4 b o nb eb
              rcases dp with ⟨kvs, k, q1, q2, q3, q4⟩ | ⟨kvs, k, b', q1, q2, q3, q4, q5⟩
              · rw [q4, upd_ne nb]
                exact e4
              · rw [q5, upd_ne nb]
                exact e4
            · rw [put_mem, m4 u, List.take_add_one, el, List.mem_append]
              simp [or_assoc]
        · rintro σ H4 ⟨v4, ks', rfl, G4, F4, m4⟩
          refine ⟨_, _, ks', rfl, G4, fun t => ?_⟩
          rw [m4 t, hk t, List.length_map, z2, List.take_length, R.2 t, List.take_add_one, et]
          constructor
          · rintro (⟨u, hu, e⟩ | h)
            · exact ⟨u, List.mem_append_left _ hu, e⟩
            · exact ⟨_, List.mem_append_right _ (List.mem_singleton.mpr rfl), decide_eq_true h⟩
          · rintro ⟨u, hu, e⟩
            rcases List.mem_append.mp hu with h | h
            · exact .inl ⟨u, h, e⟩
            · obtain rfl := List.mem_singleton.mp h
              exact .inr (of_decide_eq_true e)
      · rintro σ H2 ⟨v3, v4, ks, rfl, ⟨S2, f2, nd, A, kvs, eD, K2⟩, hk⟩
        rw [show xs.length = ts.length from hth.len, List.take_length] at hk
        refine ⟨_, rfl, D, kvs, ks, rfl, eD, K2, fun t ht => A3_bd h4 (A t ht), fun L p pm ndL pw hL np => ?_⟩
        refine ⟨p, _, rfl, .inl ⟨SqL.of upd_same, fun z hz => ?_⟩⟩
        have S3 : Same H2 (upd H2 p (.lst (L.map fun q => V.ref q.1))) := new_same np
        have S4 := S3.trans (new_same (o := .tup (L.map fun q => V.ref q.1)) hz)
        have hz0 : H z = none := same_free S2 (same_free S3 hz)
        have e : L.map (·.2) = brd ns ts := by
          refine brd_of gb hA ?_ fun t => by rw [pm.mem_iff, hk t]
          rw [List.pairwise_map]
          refine List.Pairwise.imp_of_mem (fun {a b} ma mb h => ?_) (List.Pairwise.and pw (List.pairwise_map.mp ndL))
          have b1 := A3_bd h4 (A _ (pm.mem_iff.mp (List.mem_map_of_mem ma)))
          have b2 := A3_bd h4 (A _ (pm.mem_iff.mp (List.mem_map_of_mem mb)))
          rcases Int.lt_or_eq_of_le h.1 with c | c
          · exact c
          · exact absurd (code_inj (by omega) b1.2 b2.2 c) h.2
        refine k _ z (S2.trans S4) hz0 ⟨L.map (·.1), by rw [upd_same, List.map_map]; rfl, by rw [← e, List.length_map, List.length_map], fun j a t q1 q2 => ?_⟩
        rw [← e, List.getElem?_map] at q2
        rw [List.getElem?_map] at q1
        cases el : L[j]? with
        | none =>
          rw [el] at q1
          cases q1
        | some y =>
          rw [el] at q1 q2
          obtain rfl := Option.some.inj q1
          obtain rfl := Option.some.inj q2
          exact S4 _ _ (hL y (List.mem_of_getElem? el))
end
end J

set_option Elab.async false
set_option linter.all false
set_option maxRecDepth 100000
set_option maxHeartbeats 8000000
namespace J
open PySem PySem.Spec PyProof.Rows L2
theorem take_filter {α : Type} {p : α → Bool} {l : List α} {i : Nat} {x : α} (h : l[i]? = some x) : (l.take (i + 1)).filter p = (l.take i).filter p ++ (if p x = true then [x] else []) := by
  rw [List.take_add_one, h, List.filter_append]
  show _ ++ [x].filter p = _
  by_cases c : p x = true
  · rw [if_pos c, List.filter_cons_of_pos c]
    rfl
  · rw [if_neg c, List.filter_cons_of_neg c]
    rfl
theorem shaped_tupsT (L : List (List Int)) : SeqAt.shaped (.tuple (tupsD L)) = true := by
  obtain ⟨a, b⟩ := lay_tupsD L
  show (PyData.canLay0 (.tuple (tupsD L)) && decide (PyData.depth (.tuple (tupsD L)) ≤ 64)) = true
  rw [Bool.and_eq_true]
  refine ⟨by simp only [PyData.canLay0]; exact a, decide_eq_true ?_⟩
  simp only [PyData.depth]
  omega
theorem TupsAt.data {K : PySem.W.Frag} {H : Hp} {z : Addr} {L : List (List Int)} (h : TupsAt H z L) : Dp K H (.ref z) (.tuple (tupsD L)) := by
  obtain ⟨ps, e1, e2, e3⟩ := h
  exact .tup (SqT.of e1) (dp_tupsD e2 e3)
/-- any three in a tuple of threes -/
theorem in_tups {K : PySem.W.Frag} {H : Hp} {z a : Addr} {L : List (List Int)} {t : List Int} (h : TupsAt H z L) (ha : H a = some (.tup (t.map V.int))) {Q : VK} (k : Q (.bl (decide (t ∈ L))) H) : rInDT K (.ref a) (.ref z) H Q :=
  ⟨_, _, .tup (SqT.of ha) (dp_ints t), h.data, shaped_ti t, shaped_tupsT L, by rw [any_tup]; exact k⟩
theorem notIn_tups {K : PySem.W.Frag} {H : Hp} {z a : Addr} {L : List (List Int)} {t : List Int} (h : TupsAt H z L) (ha : H a = some (.tup (t.map V.int))) {Q : VK} (k : Q (.bl (!decide (t ∈ L))) H) : rNotInDT K (.ref a) (.ref z) H Q :=
  ⟨_, _, .tup (SqT.of ha) (dp_ints t), h.data, shaped_ti t, shaped_tupsT L, by rw [any_tup]; exact k⟩
def spBut : Sp := fun vs H Q _ => ∃ (a b : Addr) (L M : List (List Int)), vs = [.ref a, .ref b] ∧ TupsAt H a L ∧ TupsAt H b M ∧ L.length ≤ 64 ∧ ∀ (H' : Hp) (z : Addr), Same H H' → H z = none → LstsAt H' z (L.filter fun t => !decide (t ∈ M)) → Q (.ref z) H'
/-- things that were put one behind another into the list at D -/
structure GroP (R : Hp → Nat → Addr → Prop) (H1 H : Hp) (D : Addr) (i : Nat) : Prop where
  S : Same H1 H
  f : H1 D = none
  d : ∃ qs : List Addr, H D = some (.lst (qs.map V.ref)) ∧ qs.length = i ∧ ∀ (j : Nat) (a : Addr), qs[j]? = some a → R H j a
theorem GroP.nil {R : Hp → Nat → Addr → Prop} {H1 : Hp} {D : Addr} (hD : H1 D = none) : GroP R H1 (upd H1 D (.lst [])) D 0 := ⟨new_same hD, hD, [], upd_same, rfl, fun j a e => by simp at e⟩
theorem GroP.keep {R : Hp → Nat → Addr → Prop} {H1 H H' : Hp} {D : Addr} {i : Nat} (G : GroP R H1 H D i) (S : Same H H') (m : ∀ j a, R H j a → R H' j a) : GroP R H1 H' D i := by
  obtain ⟨a, b, qs, c, d, e⟩ := G
  exact ⟨a.trans S, b, qs, S _ _ c, d, fun j x h => m j x (e j x h)⟩
theorem GroP.app {R : Hp → Nat → Addr → Prop} {H1 H : Hp} {D z : Addr} {i : Nat} (G : GroP R H1 H D i) (m : ∀ H', But D H H' → ∀ j a, R H j a → R H' j a) (hz : R H i z) : ∃ acc, H D = some (.lst acc) ∧ acc.length = i ∧ GroP R H1 (upd H D (.lst (acc ++ [.ref z]))) D (i + 1) := by
  obtain ⟨S, f, qs, c, d, e⟩ := G
  refine ⟨_, c, by rw [List.length_map, d], fun b o eb => ?_, f, qs ++ [z], by rw [upd_same, List.map_append]; rfl, by rw [List.length_append, d]; rfl, fun j a h => ?_⟩
  · rw [upd_ne (ne_of_none eb f)]
    exact S _ _ eb
  · have mm := m _ (But.put (h := D) (H := H) (o := .lst (qs.map V.ref ++ [.ref z])))
    rcases Nat.lt_or_ge j qs.length with hj | hj
    · rw [List.getElem?_append_left hj] at h
      exact mm j a (e j a h)
    · have hj2 : j = qs.length := by
        have := (List.getElem?_eq_some_iff.mp h).1
        rw [List.length_append] at this
        have l : [z].length = 1 := rfl
        omega
      subst hj2
      rw [List.getElem?_append_right (Nat.le_refl _), Nat.sub_self] at h
      obtain rfl : z = a := Option.some.inj h
      rw [d]
      exact mm i z hz
/-- tuples stand under what is done to a list -/
theorem tup_but {H H' : Hp} {D b : Addr} {xs ys : List V} (hD : H D = some (.lst ys)) (B : But D H H') (e : H b = some (.tup xs)) : H' b = some (.tup xs) := B _ _ (fun q => by rw [q, hD] at e; cases e) e
/-! ### the table of what is barred -/
def rowB (L : List (List Int)) (n p q k : Nat) : List V := (List.range k).map fun r : Nat => V.bl (decide ([(p : Int), (q : Int), (r : Int)] ∈ L))
def Tab2 (n : Nat) (L : List (List Int)) (p : Nat) (H : Hp) (a : Addr) : Prop := ∃ qs : List Addr, H a = some (.tup (qs.map V.ref)) ∧ qs.length = n ∧ ∀ (q : Nat) (b : Addr), qs[q]? = some b → H b = some (.tup (rowB L n p q n))
def TabAt (n : Nat) (L : List (List Int)) (H : Hp) (z : Addr) : Prop := ∃ ps : List Addr, H z = some (.tup (ps.map V.ref)) ∧ ps.length = n ∧ ∀ (p : Nat) (a : Addr), ps[p]? = some a → Tab2 n L p H a
theorem Tab2.keep {n : Nat} {L : List (List Int)} {p : Nat} {H H' : Hp} {a : Addr} (h : Tab2 n L p H a) (S : ∀ b xs, H b = some (.tup xs) → H' b = some (.tup xs)) : Tab2 n L p H' a := by
  obtain ⟨qs, e, l, f⟩ := h
  exact ⟨qs, S _ _ e, l, fun q b hb => S _ _ (f q b hb)⟩
theorem TabAt.keep {n : Nat} {L : List (List Int)} {H H' : Hp} {z : Addr} (h : TabAt n L H z) (S : Same H H') : TabAt n L H' z := by
  obtain ⟨ps, e, l, f⟩ := h
  exact ⟨ps, S _ _ e, l, fun p a ha => (f p a ha).keep fun b xs e => S _ _ e⟩
abbrev s_bar_table : Stmt := top 37
theorem sc_bar_table : FnScope ["ties", "barred", "many", "p", "q", "r"] ["ties", "barred"] (defScope s_bar_table) := ⟨rfl, rfl, rfl, by decide +kernel, rfl, by decide +kernel, by decide +kernel⟩
def spTab (C : Addr) : Sp := fun vs H Q _ => ∃ (x b : Addr) (ns : List Int) (L : List (List Int)), vs = [.ref x, .ref b] ∧ TiesAt C H x ns ∧ GoodB ns ∧ TupsAt H b L ∧ ∀ (H' : Hp) (z : Addr), Same H H' → H z = none → TabAt ns.length L H' z → Q (.ref z) H'
section
variable {P : Program} {w : World} {K : PySem.W.Frag} {mg : Str → Option Value} {base : Heap}
theorem ok_bar_table {f C : Addr} {fd : FuncData} (F : Fun K "_bar_table" "_bar_table" s_bar_table f fd) (T : TiC K C) (nt : mg "tuple" = none) (nr : mg "range" = none) : FnOk P w K mg base CX0 1 f fd ["ties", "barred"] (spTab C) := by
  refine F.ok sc_bar_table (fun vs H Q E h => ?_) (fun cdv A outer s H vs Q E hr h => ?_)
  · obtain ⟨x, b, ns, L, rfl, _⟩ := h
    rfl
  · obtain ⟨x, b, ns, L, rfl, hT, gb, hL, k⟩ := h
    refine ⟨_, (pss_cons 
  (ps_set (i := 2) sc_bar_table.nd rfl (Or.inr rfl) (pe_callTy (T := "range") cr_range1 (by rfl) nr (by decide +kernel) (pa_cons (pe_fld (pv 0) rfl) pa_nil))) (pss_one 
  (ps_ret (pe_callTy (T := "tuple") (r := rTup K) call_tuple_of (by rfl) nt (by decide +kernel) (pa_cons (pe_lc (own := [("p", 3)]) (g := gName 3) (by rfl) sc_bar_table.nd (pi_rngO (pv 2)) (blkOk_by (own := [("p", 3)]) (N := ["ties", "barred", "many", "p", "q", "r"]) (sc := defScope s_bar_table) (by decide +kernel)) (fun _ _ _ _ _ => pg_name (i := 3) sc_bar_table.nd rfl (Or.inr rfl)) (fun _ _ _ _ _ => pts_nil) (fun _ _ _ _ _ => (pe_callTy (T := "tuple") (r := rTup K) call_tuple_of (by rfl) nt (by decide +kernel) (pa_cons (pe_lc (own := [("q", 4)]) (g := gName 4) (by rfl) sc_bar_table.nd (pi_rngO (pv 2)) (blkOk_by (own := [("q", 4)]) (N := ["ties", "barred", "many", "p", "q", "r"]) (by rfl)) (fun _ _ _ _ _ => pg_name (i := 4) sc_bar_table.nd rfl (Or.inr rfl)) (fun _ _ _ _ _ => pts_nil) (fun _ _ _ _ _ => (pe_callTy (T := "tuple") (r := rTup K) call_tuple_of (by rfl) nt (by decide +kernel) (pa_cons (pe_lc (own := [("r", 5)]) (g := gName 5) (by rfl) sc_bar_table.nd (pi_rngO (pv 2)) (blkOk_by (own := [("r", 5)]) (N := ["ties", "barred", "many", "p", "q", "r"]) (by rfl)) (fun _ _ _ _ _ => pg_name (i := 5) sc_bar_table.nd rfl (Or.inl rfl)) (fun _ _ _ _ _ => pts_nil) (fun _ _ _ _ _ => (pe_cmpR (r := rInDT K) (op_inDT (units65 hr)) (pe_tup (pa_cons (pv 3) (pa_cons (pv 4) (pa_cons (pv 5) pa_nil)))) (pv 1) (by rfl)))) pa_nil)))) pa_nil)))) pa_nil))))), ?_⟩
    obtain ⟨dx, t, hx, ht⟩ := id hT
    have h4 := gb.hi
    refine ⟨_, rfl, x, C, dx, _, _, rfl, hx, T.cl, T.nM, tf_many _ _, _, rfl, fun m hm => ?_⟩
    have Sm : Same H (upd H m (.rng 0 (ns.length : Nat))) := new_same hm
    have em : (upd H m (.rng 0 (ns.length : Nat))) m = some (.rng 0 (ns.length : Nat)) := upd_same
    generalize upd H m (.rng 0 (ns.length : Nat)) = H1 at Sm em
    refine ⟨_, rfl, m, ns.length, rfl, em, by omega, fun D hD => ?_⟩
    refine lc_range (lo := 0) (n := ns.length) (fun i H2 => GroP (fun H p a => Tab2 ns.length L p H a) H1 H2 D i) (GroP.nil hD) ?_ ?_
    · intro i H2 hi G
      have em2 := G.S _ _ em
      refine ⟨rfl, yesT ?_⟩
      refine ⟨_, rfl, m, ns.length, rfl, em2, by omega, fun D2 hD2 => ?_⟩
      refine lc_range (lo := 0) (n := ns.length) (fun j H3 => GroP (fun H q b => H b = some (.tup (rowB L ns.length i q ns.length))) H2 H3 D2 j) (GroP.nil hD2) ?_ ?_
      · intro j H3 hj G3
        have em3 := G3.S _ _ em2
        refine ⟨rfl, yesT ?_⟩
        refine ⟨_, rfl, m, ns.length, rfl, em3, by omega, fun D3 hD3 => ?_⟩
        refine lc_range (lo := 0) (n := ns.length) (fun l H4 => Same H3 H4 ∧ H3 D3 = none ∧ H4 D3 = some (.lst (rowB L ns.length i j l))) ⟨new_same hD3, hD3, upd_same⟩ ?_ ?_
        · rintro l H4 hl ⟨S4, n4, e4⟩
          refine ⟨rfl, yesT ?_⟩
          refine ⟨_, rfl, _, rfl, _, rfl, (by show 3 ≤ sizeLine; decide), fun z hz => ?_⟩
          have et : ([(i : Int), (j : Int), (l : Int)].map V.int) = [V.int (0 + (i : Nat)), V.int (0 + (j : Nat)), V.int (0 + (l : Nat))] := by simp
          have S5 : Same H4 (upd H4 z (.tup [V.int (0 + (i : Nat)), V.int (0 + (j : Nat)), V.int (0 + (l : Nat))])) := new_same hz
          have ez : (upd H4 z (.tup [V.int (0 + (i : Nat)), V.int (0 + (j : Nat)), V.int (0 + (l : Nat))])) z = some (.tup ([(i : Int), (j : Int), (l : Int)].map V.int)) := by rw [upd_same, et]
          generalize upd H4 z (.tup [V.int (0 + (i : Nat)), V.int (0 + (j : Nat)), V.int (0 + (l : Nat))]) = H5 at S5 ez
          have SA := ((((Sm.trans G.S).trans G3.S).trans S4).trans S5)
          refine ⟨_, rfl, in_tups (hL.keep SA) ez ⟨_, S5 _ _ e4, ?_, fun b o e => ?_, n4, ?_⟩⟩
          · unfold rowB
            rw [List.length_map, List.length_range]
            exact small1000 (by omega)
          · rw [upd_ne (ne_of_none e n4)]
            exact S5 _ _ (S4 _ _ e)
          · rw [upd_same]
            unfold rowB
            rw [List.range_succ, List.map_append]
            rfl
        · rintro H4 ⟨S4, n4, e4⟩
          refine ⟨D3, _, rfl, .inl ⟨SqL.of e4, fun z hz => ?_⟩⟩
          have S5 : Same H4 (upd H4 z (.tup (rowB L ns.length i j ns.length))) := new_same hz
          have G5 := G3.keep (S4.trans S5) fun q b e => (S4.trans S5) _ _ e
          have e5 : (upd H4 z (.tup (rowB L ns.length i j ns.length))) z = some (.tup (rowB L ns.length i j ns.length)) := upd_same
          generalize upd H4 z (.tup (rowB L ns.length i j ns.length)) = H5 at S5 G5 e5
          have eD : ∃ ys, H5 D2 = some (.lst ys) := by
            obtain ⟨_, _, qs, c, _⟩ := G5
            exact ⟨_, c⟩
          obtain ⟨ys, eD⟩ := eD
          obtain ⟨acc, q1, q2, q3⟩ := G5.app (fun H' B q b e => tup_but eD B e) e5
          exact ⟨acc, q1, by rw [q2]; exact small1000 (by omega), q3⟩
      · rintro H3 G3
        obtain ⟨S3, n3, qs, c, l3, f3⟩ := G3
        refine ⟨D2, _, rfl, .inl ⟨SqL.of c, fun z hz => ?_⟩⟩
        have S5 : Same H3 (upd H3 z (.tup (qs.map V.ref))) := new_same hz
        have t5 : Tab2 ns.length L i (upd H3 z (.tup (qs.map V.ref))) z := ⟨qs, upd_same, l3, fun q b hb => S5 _ _ (f3 q b hb)⟩
        generalize upd H3 z (.tup (qs.map V.ref)) = H5 at S5 t5
        have G5 := G.keep (S3.trans S5) fun p a e => e.keep fun b xs e => (S3.trans S5) _ _ e
        have eD : ∃ ys, H5 D = some (.lst ys) := by
          obtain ⟨_, _, qs, c, _⟩ := G5
          exact ⟨_, c⟩
        obtain ⟨ys, eD⟩ := eD
        obtain ⟨acc, q1, q2, q3⟩ := G5.app (fun H' B p a e => e.keep fun b xs e => tup_but eD B e) t5
        exact ⟨acc, q1, by rw [q2]; exact small1000 (by omega), q3⟩
    · rintro H2 G
      obtain ⟨S2, n2, ps, c, l2, f2⟩ := G
      refine ⟨D, _, rfl, .inl ⟨SqL.of c, fun z hz => ?_⟩⟩
      have S5 : Same H2 (upd H2 z (.tup (ps.map V.ref))) := new_same hz
      exact k _ z ((Sm.trans S2).trans S5) (same_free Sm (same_free S2 hz)) ⟨ps, upd_same, l2, fun p a ha => (f2 p a ha).keep fun b xs e => S5 _ _ e⟩
end
end J

set_option Elab.async false
set_option linter.all false
set_option maxRecDepth 100000
set_option maxHeartbeats 8000000
namespace J
open PySem PySem.Spec PyProof.Rows L2
/-! ### books: the fields -/
theorem nd_tb : ¬ (("ties" : Str) = "barred") := by decide +kernel
theorem nd_tl : ¬ (("ties" : Str) = "least_barred") := by decide +kernel
theorem nd_tr : ¬ (("ties" : Str) = "bar_table") := by decide +kernel
theorem nd_bl : ¬ (("barred" : Str) = "least_barred") := by decide +kernel
theorem nd_br : ¬ (("barred" : Str) = "bar_table") := by decide +kernel
theorem nd_lr : ¬ (("least_barred" : Str) = "bar_table") := by decide +kernel
def b1 (t : Addr) : List (Str × V) := putF "ties" (.ref t) []
def b2 (t b : Addr) : List (Str × V) := putF "barred" (.ref b) (b1 t)
def b3 (t b l : Addr) : List (Str × V) := putF "least_barred" (.ref l) (b2 t b)
def bf (t b l r : Addr) : List (Str × V) := putF "bar_table" (.ref r) (b3 t b l)
theorem lp {f : Str} {v : V} {fs : List (Str × V)} {n : Nat} (h : fs.length ≤ n) : (putF f v fs).length ≤ n + 1 := Nat.le_trans (length_putF _ _ _) (by omega)
theorem l1 (t : Addr) : (b1 t).length < 1000 := Nat.lt_of_le_of_lt (lp (n := 0) (Nat.le_refl _)) (by decide)
theorem l2 (t b : Addr) : (b2 t b).length < 1000 := Nat.lt_of_le_of_lt (lp (n := 1) (lp (n := 0) (Nat.le_refl _))) (by decide)
theorem l3 (t b l : Addr) : (b3 t b l).length < 1000 := Nat.lt_of_le_of_lt (lp (n := 2) (lp (n := 1) (lp (n := 0) (Nat.le_refl _)))) (by decide)
theorem b2_barred (t b : Addr) : (b2 t b).lookup ("barred" : Str) = some (.ref b) := by
  unfold b2
  rw [lookup_putF, if_pos rfl]
theorem b3_barred (t b l : Addr) : (b3 t b l).lookup ("barred" : Str) = some (.ref b) := by
  unfold b3
  rw [lookup_putF, if_neg nd_bl, b2_barred]
theorem bf_barred (t b l r : Addr) : (bf t b l r).lookup ("barred" : Str) = some (.ref b) := by
  unfold bf
  rw [lookup_putF, if_neg nd_br, b3_barred]
theorem bf_ties (t b l r : Addr) : (bf t b l r).lookup ("ties" : Str) = some (.ref t) := by
  unfold bf b3 b2 b1
  rw [lookup_putF, if_neg nd_tr, lookup_putF, if_neg nd_tl, lookup_putF, if_neg nd_tb, lookup_putF, if_pos rfl]
theorem bf_least (t b l r : Addr) : (bf t b l r).lookup ("least_barred" : Str) = some (.ref l) := by
  unfold bf b3
  rw [lookup_putF, if_neg nd_lr, lookup_putF, if_pos rfl]
theorem bf_table (t b l r : Addr) : (bf t b l r).lookup ("bar_table" : Str) = some (.ref r) := by
  unfold bf
  rw [lookup_putF, if_pos rfl]
theorem bf_no (t b l r : Addr) {m : Str} (h1 : ¬ m = "bar_table") (h2 : ¬ m = "least_barred") (h3 : ¬ m = "barred") (h4 : ¬ m = "ties") : (bf t b l r).lookup m = none := by
  unfold bf b3 b2 b1
  rw [lookup_putF, if_neg h1, lookup_putF, if_neg h2, lookup_putF, if_neg h3, lookup_putF, if_neg h4]
  rfl
def BookAt (C CB : Addr) (H : Hp) (x : Addr) (ns : List Int) (L : List (List Int)) : Prop := ∃ dx t b l r, H x = some (.ins CB dx (bf t b l r)) ∧ TiesAt C H t ns ∧ TupsAt H b L ∧ TupsAt H l (L.filter (isL ns)) ∧ TabAt ns.length L H r
theorem BookAt.keep {C CB : Addr} {H H' : Hp} {x : Addr} {ns : List Int} {L : List (List Int)} (h : BookAt C CB H x ns L) (S : Same H H') : BookAt C CB H' x ns L := by
  obtain ⟨dx, t, b, l, r, a1, a2, a3, a4, a5⟩ := h
  exact ⟨dx, t, b, l, r, S _ _ a1, a2.keep S, a3.keep S, a4.keep S, a5.keep S⟩
structure BoC (K : PySem.W.Frag) (C : Addr) : Prop where
  cl : Cls K C
  nT : NoAttr K C "ties"
  nB : NoAttr K C "barred"
  nL : NoAttr K C "least_barred"
  nR : NoAttr K C "bar_table"
structure BoX (K : PySem.W.Frag) (mg : Str → Option Value) (C : Addr) : Prop extends BoC K C where
  isc : C8.InsC K C
  mB : mg "Book" = some (.ref C)
  ni : PySem.W.kitOne K (.type "int") (.ref C) = some false
/-! ### what is no instance stays -/
def NI (H H' : Hp) : Prop := ∀ b o, (∀ C dx fs, o ≠ .ins C dx fs) → H b = some o → H' b = some o
theorem NI.of_but {x C dx : Addr} {fs : List (Str × V)} {H H' : Hp} (B : But x H H') (hx : H x = some (.ins C dx fs)) : NI H H' := fun b o ho e => B b o (fun q => by
  rw [q, hx] at e
  exact ho _ _ _ (Option.some.inj e).symm) e
theorem NI.of_same {H H' : Hp} (S : Same H H') : NI H H' := fun b o _ e => S b o e
theorem NI.trans {H H1 H2 : Hp} (a : NI H H1) (b : NI H1 H2) : NI H H2 := fun c o ho e => b c o ho (a c o ho e)
theorem NI.tup {H H' : Hp} (N : NI H H') {b : Addr} {xs : List V} (e : H b = some (.tup xs)) : H' b = some (.tup xs) := N _ _ (fun _ _ _ z => nomatch z) e
theorem NI.is {H H' : Hp} (N : NI H H') {x : V} {s : Sh} (h : Is H x s) : Is H' x s := by
  cases s with
  | sc v => exact h
  | dk => obtain ⟨a, kvs, e, q⟩ := h; exact ⟨a, kvs, e, N _ _ (fun _ _ _ z => nomatch z) q⟩
  | lst xs => obtain ⟨a, e, q⟩ := h; exact ⟨a, e, N _ _ (fun _ _ _ z => nomatch z) q⟩
  | tup xs => obtain ⟨a, e, q⟩ := h; exact ⟨a, e, N.tup q⟩
theorem NI.thr {H H' : Hp} (N : NI H H') {xs : List V} {ts : List (List Int)} (h : ThrAt H xs ts) : ThrAt H' xs ts := Paired.mapP h fun x t ⟨s, a, b, c⟩ => ⟨s, N.is a, b, c⟩
theorem NI.tups {H H' : Hp} (N : NI H H') {z : Addr} {L : List (List Int)} (h : TupsAt H z L) : TupsAt H' z L := by
  obtain ⟨ps, a, b, c⟩ := h
  exact ⟨ps, N.tup a, b, fun j x ts e1 e2 => N.tup (c j x ts e1 e2)⟩
theorem NI.tab {n : Nat} {H H' : Hp} (N : NI H H') {z : Addr} {L : List (List Int)} (h : TabAt n L H z) : TabAt n L H' z := by
  obtain ⟨ps, a, b, c⟩ := h
  exact ⟨ps, N.tup a, b, fun p x e => (c p x e).keep fun _ _ q => N.tup q⟩
theorem TiesAt.ne {C CC : Addr} {H : Hp} {x dx t : Addr} {fs : List (Str × V)} {ns : List Int} (h : TiesAt C H t ns) (hx : H x = some (.ins CC dx fs)) (hf : fs.lookup ("many" : Str) = none) : t ≠ x := by
  obtain ⟨d, tb, e, _⟩ := h
  rintro rfl
  rw [e] at hx
  have z : HO.ins C d (tf tb (ns.length : Nat)) = .ins CC dx fs := Option.some.inj hx
  injection z with _ _ z
  rw [← z, tf_many] at hf
  cases hf
theorem TiesAt.off {C x CC dx : Addr} {fs : List (Str × V)} {H H' : Hp} {t : Addr} {ns : List Int} (h : TiesAt C H t ns) (B : But x H H') (n : t ≠ x) (hx : H x = some (.ins CC dx fs)) : TiesAt C H' t ns := by
  obtain ⟨d, tb, a, b⟩ := h
  exact ⟨d, tb, B _ _ n a, (NI.of_but B hx).tup b⟩
/-! ### what a book is made of -/
def ofV : V → Int
  | .int n => n
  | _ => 0
def trs (ss : List Sh) : List (List Int) := ss.map fun s => (items s).map ofV
theorem thr_sh {ns : List Int} {s : Sh} (h : threeB ns s = true) : ∃ p q r, items s = [.int p, .int q, .int r] ∧ InT ns p ∧ InT ns q ∧ InT ns r ∧ (s.isL || s.isT) = true := by
  cases s with
  | sc u => cases h
  | dk => cases h
  | lst xs =>
    obtain ⟨p, q, r, e, ip, iq, ir⟩ := threeB_ints h
    exact ⟨p, q, r, e, ip, iq, ir, rfl⟩
  | tup xs =>
    obtain ⟨p, q, r, e, ip, iq, ir⟩ := threeB_ints h
    exact ⟨p, q, r, e, ip, iq, ir, rfl⟩
theorem thr_of {ns : List Int} {H : Hp} : ∀ {xs : List V} {ss : List Sh}, ShAll H xs ss → (∀ s ∈ ss, threeB ns s = true) → ThrAt H xs (trs ss) ∧ ∀ t ∈ trs ss, t ∈ A3 ns.length ns.length
  | _, _, .nil, _ => ⟨.nil, fun t h => by cases h⟩
  | _, s :: ss, .cons r t, h => by
    obtain ⟨i1, i2⟩ := thr_of t fun u hu => h u (List.mem_cons_of_mem _ hu)
    obtain ⟨p, q, r', e, ip, iq, ir, sq⟩ := thr_sh (h s List.mem_cons_self)
    have ee : (items s).map ofV = [p, q, r'] := by rw [e]; rfl
    refine ⟨.cons ⟨s, r.1, sq, by show items s = ((items s).map ofV).map V.int; rw [ee, e]; rfl⟩ i1, fun u hu => ?_⟩
    rcases List.mem_cons.mp hu with z | z
    · rw [z, show (fun s : Sh => (items s).map ofV) s = [p, q, r'] from ee]
      exact in_A3 ip iq ir
    · exact i2 u z
def ArgB (C CE : Addr) (w : Str) (t v : V) (H : Hp) (E : XK) (k : List Int → List (List Int) → Prop) : Prop :=
  ((∃ z xs, t = .ref z ∧ H z = some (.lst xs)) ∧ Told H CE 0 "ties" E) ∨ ∃ (x : Addr) (ns : List Int) (s : Sh) (ss : List Sh), t = .ref x ∧ TiesAt C H x ns ∧ GoodB ns ∧ Is H v s ∧ ShAll H (items s) ss ∧ ((s.isL || s.isT) = false → Told H CE 0 w E) ∧
    (∀ (j : Nat) (s' : Sh), (s.isL || s.isT) = true → ss[j]? = some s' → threeB ns s' = false → (∀ (i : Nat) (s' : Sh), i < j → ss[i]? = some s' → threeB ns s' = true) → Told H CE (j : Nat) "three" E) ∧
    ((s.isL || s.isT) = true → (∀ s' ∈ ss, threeB ns s' = true) → k ns (trs ss))
/-- what is let beside given threes -/
def lts (ns : List Int) (ts : List (List Int)) : List (List Int) := (A3 ns.length ns.length).filter fun t => !decide (t ∈ brd ns ts)
theorem lts_A3 {ns : List Int} {ts : List (List Int)} : ∀ t ∈ lts ns ts, t ∈ A3 ns.length ns.length := fun t h => (List.mem_filter.mp h).1
theorem inR_self {ns : List Int} {t : List Int} (h : t ∈ A3 ns.length ns.length) : inR ns t t = true := by
  obtain ⟨p, q, r, rfl, _⟩ := A3_in h (ns := ns) rfl
  exact decide_eq_true (by simp [six])
theorem inR_swap {ns : List Int} {t u : List Int} (g : GoodB ns) (hu : u ∈ A3 ns.length ns.length) (h : inR ns t u = true) : inR ns u t = true := by
  have ht := inR_A3 g hu h
  obtain ⟨p, q, r, rfl, ip, iq, ir⟩ := A3_in hu (ns := ns) rfl
  obtain ⟨a, b, c, rfl, ia, ib, ic⟩ := A3_in ht (ns := ns) rfl
  have h' : [a, b, c] ∈ six ns p q r := of_decide_eq_true h
  exact decide_eq_true ((six_same g ip iq ir h' [p, q, r]).mpr (by simp [six]))
theorem inR_trans {ns : List Int} {t u v : List Int} (g : GoodB ns) (hv : v ∈ A3 ns.length ns.length) (h : inR ns t u = true) (h2 : inR ns u v = true) : inR ns t v = true := by
  have hu := inR_A3 g hv h2
  obtain ⟨p, q, r, rfl, ip, iq, ir⟩ := A3_in hv (ns := ns) rfl
  obtain ⟨a, b, c, rfl, ia, ib, ic⟩ := A3_in hu (ns := ns) rfl
  have h' : [a, b, c] ∈ six ns p q r := of_decide_eq_true h2
  have h1 : t ∈ six ns a b c := of_decide_eq_true h
  exact decide_eq_true ((six_same g ip iq ir h' t).mp h1)
theorem brd_A3 {ns : List Int} {ts : List (List Int)} : ∀ t ∈ brd ns ts, t ∈ A3 ns.length ns.length := fun t h => (List.mem_filter.mp h).1
theorem brd_in {ns : List Int} {ts : List (List Int)} {t u : List Int} (g : GoodB ns) (ha : ∀ u ∈ ts, u ∈ A3 ns.length ns.length) (h : inR ns t u = true) (hu : u ∈ brd ns ts) : t ∈ brd ns ts := by
  obtain ⟨v, hv, e⟩ := (brd_mem g ha).mp hu
  exact (brd_mem g ha).mpr ⟨v, hv, inR_trans g (ha v hv) h e⟩
/-- what is closed under readings bars itself -/
theorem brd_closed {ns : List Int} {p : List Int → Bool} (g : GoodB ns) (h : ∀ t u, u ∈ A3 ns.length ns.length → inR ns t u = true → p u = true → p t = true) : brd ns ((A3 ns.length ns.length).filter p) = (A3 ns.length ns.length).filter p := by
  refine (brd_of g (fun u hu => (List.mem_filter.mp hu).1) ((A3_asc _ g.hi).sublist List.filter_sublist) fun t => ?_).symm
  constructor
  · intro ht
    exact ⟨t, ht, inR_self (List.mem_filter.mp ht).1⟩
  · rintro ⟨u, hu, e⟩
    obtain ⟨h1, h2⟩ := List.mem_filter.mp hu
    exact List.mem_filter.mpr ⟨inR_A3 g h1 e, h t u h1 e h2⟩
theorem brd_lts {ns : List Int} {ts : List (List Int)} (g : GoodB ns) (ha : ∀ u ∈ ts, u ∈ A3 ns.length ns.length) : brd ns (lts ns ts) = lts ns ts := by
  refine brd_closed g fun t u hu e h => ?_
  have h' : ¬ u ∈ brd ns ts := by simpa using h
  have : ¬ t ∈ brd ns ts := fun z => h' (brd_in g ha (inR_swap g hu e) z)
  simp [this]
theorem brd_brd {ns : List Int} {ts : List (List Int)} (g : GoodB ns) (ha : ∀ u ∈ ts, u ∈ A3 ns.length ns.length) : brd ns (brd ns ts) = brd ns ts := by
  refine brd_closed g fun t u hu e h => ?_
  rw [List.any_eq_true] at h ⊢
  obtain ⟨v, hv, e2⟩ := h
  exact ⟨v, hv, inR_trans g (ha v hv) e e2⟩
end J

set_option Elab.async false
set_option linter.all false
set_option maxRecDepth 100000
set_option maxHeartbeats 8000000
namespace J
open PySem PySem.Spec PyProof.Rows L2
/-! ### the default () lies in the written part -/
def KT (K : PySem.W.Frag) (a : Addr) : Prop := ∃ (o : Obj) (its : Array Value) (n : Nat), K.lookup a = some o ∧ o.cls = .type "tuple" ∧ o.data = .seq its n ∧ its.size ≤ sizeLine ∧ Vals [] its.toList
theorem KT.sq {K : PySem.W.Frag} {a : Addr} (h : KT K a) (H : Hp) : SqT K H a [] := .inr h
theorem isi_seqK {K : PySem.W.Frag} {H : Hp} {a : Addr} {Q : VK} (h : KT K a) (k : ∀ H', Same H H' → Q (.bl true) H') : 2 ≤ sizeLine ∧ ∀ p, H p = none → rIsiT K [.ref a, .ref p] (upd H p (.tup [.ty "list", .ty "tuple"])) Q := by
  obtain ⟨o, its, n, lk, hc, _⟩ := h
  exact ⟨by decide, fun p hp => ⟨_, _, _, _, _, _, rfl, upd_same, .cons (.ty "list") (.cons (.ty "tuple") .nil), .kTuple lk hc, kit_seq kt_tuple_list kt_tuple_tuple, k _ (new_same hp)⟩⟩
def spSeqK (K : PySem.W.Frag) : Sp := fun vs H Q _ => ∃ a : Addr, vs = [.ref a] ∧ KT K a ∧ ∀ H', Same H H' → Q (.bl true) H'
def spChkK (K : PySem.W.Frag) (C : Addr) : Sp := fun vs H Q _ => ∃ (x a : Addr) (ns : List Int) (u : Str), vs = [.ref x, .ref a, .str u] ∧ TiesAt C H x ns ∧ KT K a ∧ ∀ H', Same H H' → Q .non H'
def spWithK (K : PySem.W.Frag) (C : Addr) : Sp := fun vs H Q _ => ∃ (x a : Addr), vs = [.ref x, .ref a] ∧ KT K a ∧ ∀ (H' : Hp) (z : Addr), Same H H' → H z = none → TupsAt H' z [] → Q (.ref z) H'
abbrev s_Book_init : Stmt := inClass (top 34) 0
theorem sc_Book_init : FnScope ["self", "ties", "barred", "three"] ["self", "ties", "barred"] (defScope s_Book_init) := ⟨rfl, rfl, rfl, by decide +kernel, rfl, by decide +kernel, by decide +kernel⟩
def spBI (K : PySem.W.Frag) (C CB CE : Addr) : Sp := fun vs H Q E => ∃ (x dx : Addr) (t v : V), vs = [.ref x, t, v] ∧ H x = some (.ins CB dx []) ∧
  (ArgB C CE "barred" t v H E (fun ns ts => ∀ H', But x H H' → BookAt C CB H' x ns (brd ns ts) → Q .non H') ∨
    ∃ (tt a : Addr) (ns : List Int), t = .ref tt ∧ v = .ref a ∧ TiesAt C H tt ns ∧ GoodB ns ∧ KT K a ∧ ∀ H', But x H H' → BookAt C CB H' x ns [] → Q .non H')
section
variable {P : Program} {w : World} {K : PySem.W.Frag} {mg : Str → Option Value} {base : Heap}
theorem ok_is_sequenceK {f : Addr} {fd : FuncData} (F : Fun K "is_sequence" "is_sequence" s_is_sequence f fd) (ns : mg "isinstance" = none) (nl : mg "list" = none) (nt : mg "tuple" = none) : FnOk P w K mg base CX0 1 f fd ["thing"] (spSeqK K) := by
  refine F.ok sc_is_sequence (fun vs H Q E h => ?_) (fun cdv A outer s H vs Q E hr h => ?_)
  · obtain ⟨a, rfl, _⟩ := h
    rfl
  · obtain ⟨a, rfl, ha, k⟩ := h
    refine ⟨_, (pss_one 
  (ps_ret (pe_callB call_isiT (by rfl) ns (by decide +kernel) (pa_cons (pv 0) (pa_cons (pe_tup (pa_cons (pe_bltn (by rfl) nl (by decide +kernel) (v := .ty "list") rfl) (pa_cons (pe_bltn (by rfl) nt (by decide +kernel) (v := .ty "tuple") rfl) pa_nil))) pa_nil))))), ?_⟩
    exact ⟨_, rfl, isi_seqK ha k⟩
theorem ok_check_threesK {f C CB fS fH fI : Addr} {fd fdS fdH fdI : FuncData} (F : Fun K "_check_threes" "_check_threes" s_check_threes f fd) (T : TiX K mg C) (nis : mg "isinstance" = none) (ne : mg "enumerate" = none)
    (GS : Cal P w K mg base CX0 1 "is_sequence" fS fdS ["thing"] (spSeqK K)) (GI : Cal P w K mg base CX0 3 "is_three" fH fdH ["ties", "thing"] (spThree C)) (GB : Ex2 P w K mg base "BadBook" "index" "what" CB fI fdI ["self", "index", "what"]) :
    FnOk P w K mg base (L2.CX P w) 4 f fd ["ties", "threes", "word"] (spChkK K C) := by
  refine F.okX sc_check_threes (fun vs H Q E h => ?_) (fun cdv A outer s H vs Q E hr h => ?_)
  · obtain ⟨x, a, ns, u, rfl, _⟩ := h
    rfl
  · obtain ⟨x, a, ns, u, rfl, hT, ha, k⟩ := h
    have hr2 : Room 2 _ := hr.mono (by decide)
    obtain ⟨dx, tt, hx, htt⟩ := id hT
    refine ⟨_, (pss_cons 
  (ps_if (pt_not (pt_val (pe_callB call_isi (by rfl) nis (by decide +kernel) (pa_cons (pv 0) (pa_cons (pe_glob (v := .ref C) rfl T.mT rfl) pa_nil))))) (pss_one (ps_raise rfl (takes_of rfl rfl rfl rfl) (pmk_oex GB.o GB.i GB.t GB.F hr2 GB.b .nil pass0 rfl GB.m (pa_cons pe_int (pa_cons pe_str pa_nil))))) pss_nil) (pss_cons 
  (ps_if (pt_not (pt_val (pcal GS hr pass0 (pa_cons (pv 1) pa_nil)))) (pss_one (ps_raise rfl (takes_of rfl rfl rfl rfl) (pmk_oex GB.o GB.i GB.t GB.F hr2 GB.b .nil pass0 rfl GB.m (pa_cons pe_int (pa_cons (pv 2) pa_nil))))) pss_nil) (pss_one 
  (ps_for (passes_of rfl) rfl (pi_enumT (by rfl) ne (pa_cons (pv 1) pa_nil)) (pg_tup (by rfl) (pgs_cons (pg_name (i := 3) sc_check_threes.nd rfl (Or.inl rfl)) (pgs_cons (pg_name (i := 4) sc_check_threes.nd rfl (Or.inl rfl)) pgs_nil))) (pss_one 
    (ps_if (pt_not (pt_val (pcal GI hr pass0 (pa_cons (pv 0) (pa_cons (pv 4) pa_nil))))) (pss_one (ps_raise rfl (takes_of rfl rfl rfl rfl) (pmk_oex GB.o GB.i GB.t GB.F hr2 GB.b .nil pass0 rfl GB.m (pa_cons (pv 3) (pa_cons pe_str pa_nil))))) pss_nil)))))), ?_⟩
    refine ⟨_, rfl, _, _, _, _, true, rfl, .own C, .base (.ins hx T.cl T.isc.ha T.isc.hn T.isc.htk T.isc.hm), T.isc.me, _, rfl, iteF ?_⟩
    refine ⟨_, rfl, a, rfl, ha, fun H1 S1 => ⟨_, rfl, iteF ?_⟩⟩
    refine ⟨_, rfl, a, [], rfl, ha.sq _, for_enumT (K := K) (a := a) (xs := []) (fun i σ H' => ∃ v3 v4 : Option V, σ = [some (.ref x), some (.ref a), some (.str u), v3, v4] ∧ Same H1 H')
      ⟨none, none, rfl, Same.refl _⟩ (fun i σ H' _ _ => ha.sq _) ?_ ?_⟩
    · rintro i y σ H' T0 hy
      simp at hy
    · rintro σ H' ⟨v3, v4, rfl, S3⟩
      exact k _ (S1.trans S3)
theorem ok_with_readingsK {f C CT fR : Addr} {fd fdR : FuncData} (F : Fun K "_with_readings" "_with_readings" s_with_readings f fd) (nt : mg "tuple" = none) (nso : mg "sorted" = none)
    (GR : Cal P w K mg base (L2.CX P w) 4 "readings_of" fR fdR ["ties", "three"] (spReadings C CT)) : FnOk P w K mg base CX0 5 f fd ["ties", "threes"] (spWithK K C) := by
  refine F.ok sc_with_readings (fun vs H Q E h => ?_) (fun cdv A outer s H vs Q E hr h => ?_)
  · obtain ⟨x, a, rfl, _⟩ := h
    rfl
  · obtain ⟨x, a, rfl, ha, k⟩ := h
    refine ⟨_, (pss_cons 
  (ps_set (i := 2) sc_with_readings.nd rfl (Or.inl rfl) pe_dnewT) (pss_cons 
  (ps_for PassesOwn.never rfl (pi_tup (pv 1)) (pg_name (i := 3) sc_with_readings.nd rfl (Or.inl rfl)) (pss_one 
    (ps_for PassesOwn.never rfl (pi_tup (pcal GR hr passL (pa_cons (pv 0) (pa_cons (pv 3) pa_nil)))) (pg_name (i := 4) sc_with_readings.nd rfl (Or.inl rfl)) (pss_one 
      (ps_asg pe_bl (pg_sub (pv 2) (pv 4) (set_dict (un1 hr)))))))) (pss_one 
  (ps_ret (pe_callTy (T := "tuple") (r := rTup K) call_tuple_of (by rfl) nt (by decide +kernel) (pa_cons (pe_callB (r := rSortD 3 4) (cr_sortedD rfl (by decide)) (by rfl) nso (by decide +kernel) (pa_cons (pv 2) pa_nil)) pa_nil)))))), ?_⟩
    refine fun D hD => ?_
    refine ⟨_, rfl, a, rfl, ⟨[], ha.sq _⟩, for_tup (K := K) (a := a) (xs := []) (fun i σ H' => ∃ (v3 v4 : Option V), σ = [some (.ref x), some (.ref a), some (.ref D), v3, v4] ∧ H' = upd H D (.dT []))
        ⟨none, none, rfl, rfl⟩ (fun i σ H' _ _ => ha.sq _) ?_ ?_⟩
    · rintro i y σ H2 hy
      simp at hy
    · rintro σ H2 ⟨v3, v4, rfl, rfl⟩
      have S2 : Same H (upd H D (.dT [])) := new_same hD
      refine ⟨_, rfl, D, [], [], rfl, upd_same, rfl, (fun t ht => by cases ht), fun L p pm ndL pw hL np => ?_⟩
      have e : L = [] := by
        have := pm.length_eq
        rw [List.length_map] at this
        exact List.eq_nil_of_length_eq_zero this
      subst e
      refine ⟨p, [], rfl, .inl ⟨SqL.of upd_same, fun z hz => ?_⟩⟩
      have S3 : Same (upd H D (.dT [])) (upd (upd H D (.dT [])) p (.lst [])) := new_same np
      exact k _ z ((S2.trans S3).trans (new_same hz)) (same_free S2 (same_free S3 hz)) ⟨[], upd_same, rfl, fun j a t q => by simp at q⟩
theorem ok_Book_init {f C CB CE CT fK fW fL fT fK' fW' : Addr} {fd fdK fdW fdL fdT fdK' fdW' : FuncData} {dvs : List V} (F : FunD K "__init__" "Book.__init__" (defArgs s_Book_init) (defBody s_Book_init) (defScope s_Book_init) dvs [] f fd) (c : BoC K CB) (nt : mg "tuple" = none)
    (GC : Cal P w K mg base (L2.CX P w) 4 "_check_threes" fK fdK ["ties", "threes", "word"] (spChk C CE)) (GW : Cal P w K mg base CX0 5 "_with_readings" fW fdW ["ties", "threes"] (spWith C)) (GL : Cal P w K mg base (L2.CX P w) 5 "least_reading" fL fdL ["ties", "three"] (spLeast C CT)) (GT : Cal P w K mg base CX0 1 "_bar_table" fT fdT ["ties", "barred"] (spTab C))
    (GCK : Cal P w K mg base (L2.CX P w) 4 "_check_threes" fK' fdK' ["ties", "threes", "word"] (spChkK K C)) (GWK : Cal P w K mg base CX0 5 "_with_readings" fW' fdW' ["ties", "threes"] (spWithK K C)) : FnOk P w K mg base (L2.CX P w) 6 f fd ["self", "ties", "barred"] (spBI K C CB CE) := by
  refine F.ok sc_Book_init (fun vs H Q E h => ?_) (fun cdv A outer s H vs Q E hr h => ?_)
  · obtain ⟨x, dx, t, v, rfl, _⟩ := h
    rfl
  · obtain ⟨x, dx, t, v, rfl, hx, h⟩ := h
    have nmany : (([] : List (Str × V)).lookup ("many" : Str)) = none := rfl
    rcases h with (⟨hz, k⟩ | ⟨tt, ns, sh, ss, rfl, hT, gb, hv, hs, k1, k2, k3⟩) | ⟨tt, a, ns, rfl, rfl, hT, gb, ha, k3⟩
    · refine ⟨_, (pss_cons (ps_expr (pcal GC hr (passes_call (takes_of rfl rfl rfl rfl) (fun _ _ _ _ h => h)) (pa_cons (pv 1) (pa_cons (pv 2) (pa_cons pe_str pa_nil))))) (pss_cons 
 (ps_fld (pv 0) (pv 1) rfl) (pss_cons 
 (ps_fld (pv 0) (pcal GW hr pass0 (pa_cons (pv 1) (pa_cons (pv 2) pa_nil))) rfl) (pss_cons 
 (ps_fld (pv 0) (pe_callTy (T := "tuple") (r := rTup K) call_tuple_of (by rfl) nt (by decide +kernel) (pa_cons (pe_lc (own := [("three", 3)]) (g := gName 3) (by rfl) sc_Book_init.nd (pi_tup (pe_fld (pv 0) rfl)) (blkOk_by (own := [("three", 3)]) (N := ["self", "ties", "barred", "three"]) (sc := defScope s_Book_init) (by decide +kernel)) (fun _ _ _ _ _ => pg_name (i := 3) sc_Book_init.nd rfl (Or.inl rfl)) (fun _ _ _ _ _ => pts_one (pt_cmpR (r := rEqD K) (op_eqD hr.units) (pv 3) (pcal GL hr passL (pa_cons (pv 1) (pa_cons (pv 3) pa_nil))) (nomark _))) (fun _ _ _ _ _ => (pv 3))) pa_nil)) rfl) (pss_one 
 (ps_fld (pv 0) (pcal GT hr pass0 (pa_cons (pv 1) (pa_cons (pe_fld (pv 0) rfl) pa_nil))) rfl)))))), ?_⟩
      exact ⟨_, rfl, _, rfl, t, v, "barred", rfl, .inl ⟨hz, k⟩⟩
    · refine ⟨_, (pss_cons (ps_expr (pcal GC hr (passes_call (takes_of rfl rfl rfl rfl) (fun _ _ _ _ h => h)) (pa_cons (pv 1) (pa_cons (pv 2) (pa_cons pe_str pa_nil))))) (pss_cons 
 (ps_fld (pv 0) (pv 1) rfl) (pss_cons 
 (ps_fld (pv 0) (pcal GW hr pass0 (pa_cons (pv 1) (pa_cons (pv 2) pa_nil))) rfl) (pss_cons 
 (ps_fld (pv 0) (pe_callTy (T := "tuple") (r := rTup K) call_tuple_of (by rfl) nt (by decide +kernel) (pa_cons (pe_lc (own := [("three", 3)]) (g := gName 3) (by rfl) sc_Book_init.nd (pi_tup (pe_fld (pv 0) rfl)) (blkOk_by (own := [("three", 3)]) (N := ["self", "ties", "barred", "three"]) (sc := defScope s_Book_init) (by decide +kernel)) (fun _ _ _ _ _ => pg_name (i := 3) sc_Book_init.nd rfl (Or.inl rfl)) (fun _ _ _ _ _ => pts_one (pt_cmpR (r := rEqD K) (op_eqD hr.units) (pv 3) (pcal GL hr passL (pa_cons (pv 1) (pa_cons (pv 3) pa_nil))) (nomark _))) (fun _ _ _ _ _ => (pv 3))) pa_nil)) rfl) (pss_one 
 (ps_fld (pv 0) (pcal GT hr pass0 (pa_cons (pv 1) (pa_cons (pe_fld (pv 0) rfl) pa_nil))) rfl)))))), ?_⟩
      refine ⟨_, rfl, _, rfl, _, v, "barred", rfl, .inr ⟨tt, ns, sh, ss, rfl, hT, hv, hs, k1, k2, fun sq hb H1 S1 => ?_⟩⟩
      obtain ⟨thr, hA⟩ := thr_of hs hb
      have k : ∀ H', But x H H' → BookAt C CB H' x ns (brd ns (trs ss)) → Q .non H' := k3 sq hb
      have hx1 := S1 _ _ hx
      refine ⟨_, rfl, _, rfl, x, CB, dx, [], rfl, hx1, c.cl, c.nT, (by show 0 < 1000; decide), ?_⟩
      have hx2 : (upd H1 x (.ins CB dx (b1 tt))) x = some (.ins CB dx (b1 tt)) := upd_same
      have B2 : But x H1 (upd H1 x (.ins CB dx (b1 tt))) := But.put
      have nx := hT.ne hx nmany
      have hT2 := (hT.keep S1).off B2 nx hx1
      have N2 := NI.of_but B2 hx1
      have hv2 := N2.is (hv.keep S1)
      have thr2 := N2.thr (thr.keep S1)
      show tSeq _ _ _ _ (upd H1 x (.ins CB dx (b1 tt)))
      have BA : But x H (upd H1 x (.ins CB dx (b1 tt))) := (But.same S1).trans B2
      generalize upd H1 x (.ins CB dx (b1 tt)) = H2 at hx2 hT2 hv2 thr2 BA
      refine ⟨_, rfl, _, rfl, tt, ns, v, sh, trs ss, rfl, hT2, gb, hv2, sq, thr2, hA, fun H3 z S3 nz TZ => ?_⟩
      have hx3 := S3 _ _ hx2
      refine ⟨_, rfl, x, CB, dx, _, rfl, hx3, c.cl, c.nB, l1 tt, ?_⟩
      have hx4 : (upd H3 x (.ins CB dx (b2 tt z))) x = some (.ins CB dx (b2 tt z)) := upd_same
      have B4 : But x H3 (upd H3 x (.ins CB dx (b2 tt z))) := But.put
      have hT4 := (hT2.keep S3).off B4 nx hx3
      have TZ4 := (NI.of_but B4 hx3).tups TZ
      have BA4 := (BA.trans (But.same S3)).trans B4
      show tSeq _ _ _ _ (upd H3 x (.ins CB dx (b2 tt z)))
      generalize upd H3 x (.ins CB dx (b2 tt z)) = H4 at hx4 hT4 TZ4 BA4
      have hLA := brd_A3 (ns := ns) (ts := trs ss)
      have l64 : (brd ns (trs ss)).length ≤ 64 := Nat.le_trans (List.length_filter_le _ _) (A3_len _ gb.hi)
      generalize hL : brd ns (trs ss) = L at TZ4 hLA l64 k
      obtain ⟨ps, e1, e2, e3⟩ := id TZ4
      refine ⟨_, rfl, x, CB, dx, _, _, rfl, hx4, c.cl, c.nB, b2_barred _ _, z, rfl, ⟨_, SqT.of e1⟩, fun D hD => ?_⟩
      refine lc_tup (K := K) (a := z) (xs := ps.map V.ref) (fun i H5 => Gro H4 H5 D ((L.take i).filter (isL ns))) (Gro.nil hD) (fun i H5 _ G => SqT.of (G.S _ _ e1)) ?_ ?_
      · rintro i y H5 hy G
        rw [List.getElem?_map] at hy
        cases ea : ps[i]? with
        | none =>
          rw [ea] at hy
          cases hy
        | some b =>
          rw [ea] at hy
          obtain rfl : V.ref b = y := Option.some.inj hy
          have li := (List.getElem?_eq_some_iff.mp ea).1
          have el : L[i]? = some L[i] := List.getElem?_eq_getElem (by omega)
          generalize L[i] = u at el
          obtain ⟨p, q, r, rfl, ip, iq, ir⟩ := A3_in (hLA u (List.mem_of_getElem? el)) (ns := ns) rfl
          have hb := G.S _ _ (e3 i b _ ea el)
          have tf := take_filter (p := isL ns) el
          refine ⟨rfl, ?_⟩
          refine ⟨_, rfl, _, rfl, _, rfl, tt, ns, .ref b, .tup ([p, q, r].map V.int), rfl, hT4.keep G.S, gb, ⟨b, rfl, hb⟩, ints_known _, fun e => ?_, fun p' q' r' e ip' iq' ir' H6 z' t' L' S6 hz' R => ?_⟩
          · have : threeB ns (.tup ([p, q, r].map V.int)) = true := three_yes (s := .tup ([p, q, r].map V.int)) rfl rfl ip iq ir
            rw [this] at e
            cases e
          · obtain ⟨rfl, rfl, rfl⟩ := ints3 (s := .tup ([p, q, r].map V.int)) rfl e
            refine ⟨_, _, .tup (SqT.of (S6 _ _ hb)) (dp_ints _), .tup (SqT.of hz') (dp_ints _), shaped_ti _, shaped_ti _, _, rfl, ?_⟩
            rw [eqv_ti, isL_iff R]
            have G6 := G.keep S6
            cases hc : isL ns [p', q', r'] with
            | true =>
              obtain ⟨acc, q1, q2, q3⟩ := G6.app (S6 _ _ hb)
              refine iteT ⟨_, rfl, acc, q1, ?_, ?_⟩
              · have := List.length_filter_le (isL ns) (L.take i)
                rw [List.length_take] at this
                rw [q2]
                exact small1000 (by omega)
              · rw [tf, if_pos hc]
                exact q3
            | false =>
              refine iteF ?_
              rw [tf, if_neg (by rw [hc]; decide), List.append_nil]
              exact G6
      · rintro H5 G
        rw [List.length_map, e2, List.take_length] at G
        obtain ⟨qs, d1, d2, d3⟩ := G.d
        refine ⟨D, _, rfl, .inl ⟨SqL.of d1, fun l hl => ?_⟩⟩
        have TL := G.tup d1 hl
        have S6 : Same H5 (upd H5 l (.tup (qs.map V.ref))) := new_same hl
        generalize upd H5 l (.tup (qs.map V.ref)) = H6 at TL S6
        have SA := G.S.trans S6
        have hx6 := SA _ _ hx4
        refine ⟨_, rfl, x, CB, dx, _, rfl, hx6, c.cl, c.nL, l2 tt z, ?_⟩
        have hx7 : (upd H6 x (.ins CB dx (b3 tt z l))) x = some (.ins CB dx (b3 tt z l)) := upd_same
        have B7 : But x H6 (upd H6 x (.ins CB dx (b3 tt z l))) := But.put
        have hT7 := (hT4.keep SA).off B7 nx hx6
        have TZ7 := (NI.of_but B7 hx6).tups (TZ4.keep SA)
        have TL7 := (NI.of_but B7 hx6).tups TL
        have BA7 := (BA4.trans (But.same SA)).trans B7
        show Ends.nx _ _ (upd H6 x (.ins CB dx (b3 tt z l)))
        generalize upd H6 x (.ins CB dx (b3 tt z l)) = H7 at hx7 hT7 TZ7 TL7 BA7
        refine ⟨_, rfl, _, rfl, x, CB, dx, _, _, rfl, hx7, c.cl, c.nB, b3_barred _ _ _, tt, z, ns, L, rfl, hT7, gb, TZ7, fun H8 r S8 nr TR => ?_⟩
        have hx8 := S8 _ _ hx7
        refine ⟨_, rfl, x, CB, dx, _, rfl, hx8, c.cl, c.nR, l3 tt z l, ?_⟩
        have B9 : But x H8 (upd H8 x (.ins CB dx (bf tt z l r))) := But.put
        have N9 := NI.of_but B9 hx8
        exact k _ ((BA7.trans (But.same S8)).trans B9) ⟨dx, tt, z, l, r, upd_same, (hT7.keep S8).off B9 nx hx8, N9.tups (TZ7.keep S8), N9.tups (TL7.keep S8), N9.tab TR⟩
    · refine ⟨_, (pss_cons (ps_expr (pcal GCK hr (passes_call (takes_of rfl rfl rfl rfl) (fun _ _ _ _ h => h)) (pa_cons (pv 1) (pa_cons (pv 2) (pa_cons pe_str pa_nil))))) (pss_cons 
 (ps_fld (pv 0) (pv 1) rfl) (pss_cons 
 (ps_fld (pv 0) (pcal GWK hr pass0 (pa_cons (pv 1) (pa_cons (pv 2) pa_nil))) rfl) (pss_cons 
 (ps_fld (pv 0) (pe_callTy (T := "tuple") (r := rTup K) call_tuple_of (by rfl) nt (by decide +kernel) (pa_cons (pe_lc (own := [("three", 3)]) (g := gName 3) (by rfl) sc_Book_init.nd (pi_tup (pe_fld (pv 0) rfl)) (blkOk_by (own := [("three", 3)]) (N := ["self", "ties", "barred", "three"]) (sc := defScope s_Book_init) (by decide +kernel)) (fun _ _ _ _ _ => pg_name (i := 3) sc_Book_init.nd rfl (Or.inl rfl)) (fun _ _ _ _ _ => pts_one (pt_cmpR (r := rEqD K) (op_eqD hr.units) (pv 3) (pcal GL hr passL (pa_cons (pv 1) (pa_cons (pv 3) pa_nil))) (nomark _))) (fun _ _ _ _ _ => (pv 3))) pa_nil)) rfl) (pss_one 
 (ps_fld (pv 0) (pcal GT hr pass0 (pa_cons (pv 1) (pa_cons (pe_fld (pv 0) rfl) pa_nil))) rfl)))))), ?_⟩
      refine ⟨_, rfl, _, rfl, tt, a, ns, "barred", rfl, hT, ha, fun H1 S1 => ?_⟩
      have k : ∀ H', But x H H' → BookAt C CB H' x ns (brd ns []) → Q .non H' := fun H' B Bk => k3 H' B (by rw [show brd ns [] = [] from List.filter_eq_nil_iff.mpr (by simp)] at Bk; exact Bk)
      have hA : ∀ t ∈ ([] : List (List Int)), t ∈ A3 ns.length ns.length := fun t ht => by cases ht
      have hx1 := S1 _ _ hx
      refine ⟨_, rfl, _, rfl, x, CB, dx, [], rfl, hx1, c.cl, c.nT, (by show 0 < 1000; decide), ?_⟩
      have hx2 : (upd H1 x (.ins CB dx (b1 tt))) x = some (.ins CB dx (b1 tt)) := upd_same
      have B2 : But x H1 (upd H1 x (.ins CB dx (b1 tt))) := But.put
      have nx := hT.ne hx nmany
      have hT2 := (hT.keep S1).off B2 nx hx1
      show tSeq _ _ _ _ (upd H1 x (.ins CB dx (b1 tt)))
      have BA : But x H (upd H1 x (.ins CB dx (b1 tt))) := (But.same S1).trans B2
      generalize upd H1 x (.ins CB dx (b1 tt)) = H2 at hx2 hT2 BA
      refine ⟨_, rfl, _, rfl, tt, a, rfl, ha, fun H3 z S3 nz TZ => ?_⟩
      rw [show ([] : List (List Int)) = brd ns [] from (List.filter_eq_nil_iff.mpr (by simp)).symm] at TZ
      have hx3 := S3 _ _ hx2
      refine ⟨_, rfl, x, CB, dx, _, rfl, hx3, c.cl, c.nB, l1 tt, ?_⟩
      have hx4 : (upd H3 x (.ins CB dx (b2 tt z))) x = some (.ins CB dx (b2 tt z)) := upd_same
      have B4 : But x H3 (upd H3 x (.ins CB dx (b2 tt z))) := But.put
      have hT4 := (hT2.keep S3).off B4 nx hx3
      have TZ4 := (NI.of_but B4 hx3).tups TZ
      have BA4 := (BA.trans (But.same S3)).trans B4
      show tSeq _ _ _ _ (upd H3 x (.ins CB dx (b2 tt z)))
      generalize upd H3 x (.ins CB dx (b2 tt z)) = H4 at hx4 hT4 TZ4 BA4
      have hLA := brd_A3 (ns := ns) (ts := [])
      have l64 : (brd ns ([])).length ≤ 64 := Nat.le_trans (List.length_filter_le _ _) (A3_len _ gb.hi)
      generalize hL : brd ns ([]) = L at TZ4 hLA l64 k
      obtain ⟨ps, e1, e2, e3⟩ := id TZ4
      refine ⟨_, rfl, x, CB, dx, _, _, rfl, hx4, c.cl, c.nB, b2_barred _ _, z, rfl, ⟨_, SqT.of e1⟩, fun D hD => ?_⟩
      refine lc_tup (K := K) (a := z) (xs := ps.map V.ref) (fun i H5 => Gro H4 H5 D ((L.take i).filter (isL ns))) (Gro.nil hD) (fun i H5 _ G => SqT.of (G.S _ _ e1)) ?_ ?_
      · rintro i y H5 hy G
        rw [List.getElem?_map] at hy
        cases ea : ps[i]? with
        | none =>
          rw [ea] at hy
          cases hy
        | some b =>
          rw [ea] at hy
          obtain rfl : V.ref b = y := Option.some.inj hy
          have li := (List.getElem?_eq_some_iff.mp ea).1
          have el : L[i]? = some L[i] := List.getElem?_eq_getElem (by omega)
          generalize L[i] = u at el
          obtain ⟨p, q, r, rfl, ip, iq, ir⟩ := A3_in (hLA u (List.mem_of_getElem? el)) (ns := ns) rfl
          have hb := G.S _ _ (e3 i b _ ea el)
          have tf := take_filter (p := isL ns) el
          refine ⟨rfl, ?_⟩
          refine ⟨_, rfl, _, rfl, _, rfl, tt, ns, .ref b, .tup ([p, q, r].map V.int), rfl, hT4.keep G.S, gb, ⟨b, rfl, hb⟩, ints_known _, fun e => ?_, fun p' q' r' e ip' iq' ir' H6 z' t' L' S6 hz' R => ?_⟩
          · have : threeB ns (.tup ([p, q, r].map V.int)) = true := three_yes (s := .tup ([p, q, r].map V.int)) rfl rfl ip iq ir
            rw [this] at e
            cases e
          · obtain ⟨rfl, rfl, rfl⟩ := ints3 (s := .tup ([p, q, r].map V.int)) rfl e
            refine ⟨_, _, .tup (SqT.of (S6 _ _ hb)) (dp_ints _), .tup (SqT.of hz') (dp_ints _), shaped_ti _, shaped_ti _, _, rfl, ?_⟩
            rw [eqv_ti, isL_iff R]
            have G6 := G.keep S6
            cases hc : isL ns [p', q', r'] with
            | true =>
              obtain ⟨acc, q1, q2, q3⟩ := G6.app (S6 _ _ hb)
              refine iteT ⟨_, rfl, acc, q1, ?_, ?_⟩
              · have := List.length_filter_le (isL ns) (L.take i)
                rw [List.length_take] at this
                rw [q2]
                exact small1000 (by omega)
              · rw [tf, if_pos hc]
                exact q3
            | false =>
              refine iteF ?_
              rw [tf, if_neg (by rw [hc]; decide), List.append_nil]
              exact G6
      · rintro H5 G
        rw [List.length_map, e2, List.take_length] at G
        obtain ⟨qs, d1, d2, d3⟩ := G.d
        refine ⟨D, _, rfl, .inl ⟨SqL.of d1, fun l hl => ?_⟩⟩
        have TL := G.tup d1 hl
        have S6 : Same H5 (upd H5 l (.tup (qs.map V.ref))) := new_same hl
        generalize upd H5 l (.tup (qs.map V.ref)) = H6 at TL S6
        have SA := G.S.trans S6
        have hx6 := SA _ _ hx4
        refine ⟨_, rfl, x, CB, dx, _, rfl, hx6, c.cl, c.nL, l2 tt z, ?_⟩
        have hx7 : (upd H6 x (.ins CB dx (b3 tt z l))) x = some (.ins CB dx (b3 tt z l)) := upd_same
        have B7 : But x H6 (upd H6 x (.ins CB dx (b3 tt z l))) := But.put
        have hT7 := (hT4.keep SA).off B7 nx hx6
        have TZ7 := (NI.of_but B7 hx6).tups (TZ4.keep SA)
        have TL7 := (NI.of_but B7 hx6).tups TL
        have BA7 := (BA4.trans (But.same SA)).trans B7
        show Ends.nx _ _ (upd H6 x (.ins CB dx (b3 tt z l)))
        generalize upd H6 x (.ins CB dx (b3 tt z l)) = H7 at hx7 hT7 TZ7 TL7 BA7
        refine ⟨_, rfl, _, rfl, x, CB, dx, _, _, rfl, hx7, c.cl, c.nB, b3_barred _ _ _, tt, z, ns, L, rfl, hT7, gb, TZ7, fun H8 r S8 nr TR => ?_⟩
        have hx8 := S8 _ _ hx7
        refine ⟨_, rfl, x, CB, dx, _, rfl, hx8, c.cl, c.nR, l3 tt z l, ?_⟩
        have B9 : But x H8 (upd H8 x (.ins CB dx (bf tt z l r))) := But.put
        have N9 := NI.of_but B9 hx8
        exact k _ ((BA7.trans (But.same S8)).trans B9) ⟨dx, tt, z, l, r, upd_same, (hT7.keep S8).off B9 nx hx8, N9.tups (TZ7.keep S8), N9.tups (TL7.keep S8), N9.tab TR⟩
end
end J

set_option Elab.async false
set_option linter.all false
set_option maxRecDepth 100000
set_option maxHeartbeats 8000000
namespace L2
open PySem PySem.Spec PyProof.Rows
/-! ### e.m(..), e a class, m a staticmethod of it -/
structure CSta (K : PySem.W.Frag) (C : Addr) (mc : Value) (m : Str) (p g : Addr) : Prop where
  at_ : PySem.W.findCls K (.ref C) mc m = some (.get (.builtin "staticmethod.__get__") (.ref p) .none (.ref C))
  rc : ∃ rest, PySem.W.recIn K p "staticmethod" = some (.ref g :: rest)
  kp : PySem.W.keepIn K (.ref g) = true
def tSta (C : Addr) (sp : Sp) (E : XK) (ta : TE) (t : TA) : TE := fun σ H Q => ta σ H fun x H1 => x = .ref C ∧ t σ H1 fun vs H2 => sp vs H2 Q E
section
variable {X : Cx} {CX : CXT} {k : Nat} {C p g : Addr} {mc : Value} {fd : FuncData} {ps : List Str} {sp : Sp} {E : XK} {o e : Expr} {es : List Expr} {m : Str} {pos apos : Pos} {ta : TE} {t : TA} {pl : Sem Bool}
theorem pe_sta (he : PE X o ta) (r : ClX.CRead X.K C mc) (c : CSta X.K C mc m p g) (F : FnOk X.prog X.w X.K X.mg X.base CX k g fd ps sp) (hr : Room k X.A) (hb : Binds X.K fd ps []) (hx : Passes CX X E) (ha : PA X (e :: es) t)
    (hst : starEach (e :: es) X.env = (false, eval e X.env) :: starEach es X.env := by rfl) (hpl : (backTo pos (starEach es X.env)).any (·.1) = false := by rfl)
    (ht : eval (.Call (.Attribute o m apos) (e :: es) [] pos) X.env = (do
      let ov ← eval o X.env
      standAt apos.atName
      let (f, first) ← holding [ov] (getMethod ov m pl)
      callWith pos f first (backTo pos (starEach (e :: es) X.env)) (backToKw pos (keywordEach [] X.env))) := by rfl) :
    PE X (.Call (.Attribute o m apos) (e :: es) [] pos) (tSta C sp E ta t) := by
  refine ⟨fun pins s σ H Q I h => ?_⟩
  refine PySem.W.methodCall_KW (pl := pl) (thn (he.run pins s σ H _ I h) fun u s1 ⟨x, H1, I1, rx, ex, q⟩ => ?_) ht
  subst ex
  obtain rfl : u = Value.ref C := rx
  obtain ⟨rest, hp⟩ := c.rc
  refine PySem.W.method_cls I1.kIn r.ga (PySem.W.cls_bind I1.kIn r.rd c.at_ (wpAny_call (PySem.W.sm_get (s := { s1 with toks := s1.toks + 1 }) I1.kIn hp (PySem.W.handed_on rfl ?_))))
  have I2 := I1.tok (s1.toks + 1)
  refine PySem.W.callWith_K (first := []) (h₀ := X.base) I.ok.mod.kin c.kp (thn (ha.run pos pins _ σ H1 _ I2 q) fun us s2 ⟨vs, H2, I3, rv, q2⟩ => ⟨I3.kIn, ?_⟩) hst hpl
  exact run_fn (us := us) (vs := vs) F hr hb .nil hx I3 rv (by rw [List.append_nil]; exact q2)
end
end L2
namespace J
open PySem PySem.Spec PyProof.Rows L2
/-- x == 5 by the text's own __eq__ -/
def rEqOwnI (C : Addr) (sp : Sp) (E : XK) : R2 := fun x y H Q => ∃ a n dx fs, x = .ref a ∧ y = .int n ∧ H a = some (.ins C dx fs) ∧ sp [x, y] H (fun v H' => (∃ c, v = .bl c) ∧ Q v H') E
theorem op_eqOwnI {X : Cx} {CX : CXT} {n : Nat} {C f : Addr} {fd : FuncData} {ps : List Str} {sp : Sp} {E : XK} (F : FnOk X.prog X.w X.K X.mg X.base CX n f fd ps sp)
    (hs : PySem.W.findIn X.K (.ref C) "__eq__" = some (some (.ref f))) (hf : PySem.W.isFn X.K (.ref f) = true) (hb : Binds X.K fd ps []) (hx : Passes CX X E) (hr : Room n X.A)
    (hn : PySem.W.notFirst X.K C (.type "int") = true) : OpR X (compareOp .Eq) (rEqOwnI C sp E) := by
  intro pins s σ H x y v u Q I rx ry ⟨a, b, dx, fs, ex, ey, ha, q⟩
  subst ex
  subst ey
  obtain rfl : v = Value.ref a := rx
  obtain ⟨t, rfl⟩ := ry
  show wpAny (model X.prog X.w) X.A (richCompare .Eq (.ref a) (.int b t)) (EP X pins σ Q) X.xe s
  obtain ⟨mA, J, _⟩ := ins_get I.hok ha
  obtain ⟨od, J, _⟩ := J.look
  obtain ⟨m, hF⟩ := I.fr
  have r2 : Vals [V.ref a, V.int b] [Value.ref a, Value.int b t] := .cons rfl (.cons ⟨t, rfl⟩ .nil)
  have fin : wpAny (model X.prog X.w) X.A (call (.ref f) [.ref a, .int b t]) (PySem.W.CmpBack (EP X pins σ Q)) X.xe s := by
    refine wpAny_mono (run_fn (dvs := []) (ds := []) (us := [.ref a, .int b t]) (vs := [.ref a, .int b]) F hr hb .nil hx I r2 q) ?_ fun _ _ z => z
    rintro w s' ⟨z, H', I', rz, ⟨c, rfl⟩, qz⟩
    obtain rfl : w = Value.bool c := rz
    exact ⟨V.bl c, H', I', rfl, qz⟩
  have LT : PySem.W.Looks (model X.prog X.w) s.heap (typeOf (.int b t)) (.type "int") := PySem.W.Looks.of_pure rfl
  exact PySem.W.cmp_K (op := .Eq) (tb := .type "int") hr.units0 hF I.ok.mod.kin J LT hn hs hf fin
/-! ### Ties.__eq__ -/
abbrev s_Ties_eq : Stmt := inClass (top 20) 1
theorem sc_Ties_eq : FnScope ["self", "other"] ["self", "other"] (defScope s_Ties_eq) := ⟨rfl, rfl, rfl, by decide +kernel, rfl, by decide +kernel, by decide +kernel⟩
def spTEq (C : Addr) : Sp := fun vs H Q _ => ∃ (a b : Addr) (ns ms : List Int), vs = [.ref a, .ref b] ∧ TiesAt C H a ns ∧ TiesAt C H b ms ∧ Q (.bl (decide (ns = ms))) H
abbrev s_Book_eq : Stmt := inClass (top 34) 2
theorem sc_Book_eq : FnScope ["self", "other"] ["self", "other"] (defScope s_Book_eq) := ⟨rfl, rfl, rfl, by decide +kernel, rfl, by decide +kernel, by decide +kernel⟩
def spBEq (C CB : Addr) : Sp := fun vs H Q _ => ∃ (x : Addr) (y : V) (ns : List Int) (L : List (List Int)), vs = [.ref x, y] ∧ BookAt C CB H x ns L ∧
  ((∃ (y' : Addr) (ms : List Int) (M : List (List Int)), y = .ref y' ∧ BookAt C CB H y' ms M ∧ Q (.bl (decide (ns = ms ∧ L = M))) H) ∨ ((∃ n, y = .int n) ∧ Q (.bl false) H))
/-- the first thing that is no tie -/
def FirstNo (ns : List Int) (ys : List V) (y : V) : Prop := ∃ j : Nat, ys[j]? = some y ∧ tieB ns y = false ∧ ∀ (i : Nat) (y' : V), i < j → ys[i]? = some y' → tieB ns y' = true
def spEach (C CB CN : Addr) : Sp := fun vs H Q E => ∃ (x z : Addr) (ns : List Int) (L : List (List Int)) (ys : List V), vs = [.ref x, .ref z] ∧ BookAt C CB H x ns L ∧ H z = some (.tup ys) ∧ Known H ys ∧ (∀ y, FirstNo ns ys y → Tells H CN "tie" y E) ∧ ((∀ y ∈ ys, tieB ns y = true) → Q .non H)
def spBars (C CB CN : Addr) : Sp := fun vs H Q E => ∃ (x : Addr) (ns : List Int) (L : List (List Int)) (a b c : V), vs = [.ref x, a, b, c] ∧ BookAt C CB H x ns L ∧ Known H [a, b, c] ∧ (∀ y, FirstNo ns [a, b, c] y → Tells H CN "tie" y E) ∧
  (∀ p q r : Nat, a = .int p → b = .int q → c = .int r → p < ns.length → q < ns.length → r < ns.length → ∀ H', Same H H' → Q (.bl (decide ([(p : Int), (q : Int), (r : Int)] ∈ L))) H')
/-- the ties that fit -/
def fitL (L : List (List Int)) (n p q : Nat) : List Int := ((List.range n).filter fun r : Nat => !decide ([(p : Int), (q : Int), (r : Int)] ∈ L)).map fun r : Nat => (r : Int)
def spFit (C CB CN : Addr) : Sp := fun vs H Q E => ∃ (x : Addr) (ns : List Int) (L : List (List Int)) (a b : V), vs = [.ref x, a, b] ∧ BookAt C CB H x ns L ∧ GoodB ns ∧ Known H [a, b] ∧ (∀ y, FirstNo ns [a, b] y → Tells H CN "tie" y E) ∧
  (∀ p q : Nat, a = .int p → b = .int q → p < ns.length → q < ns.length → ∀ (H' : Hp) (z : Addr), Same H H' → H z = none → H' z = some (.tup ((fitL L ns.length p q).map V.int)) → Q (.ref z) H')
/-- the couples that a tie is barred with -/
def cpl (t : List Int) : List Int := t.take 2
def cplL (L : List (List Int)) (p : Nat) : List (List Int) := (L.filter fun t => decide (t[2]? = some (p : Int))).map cpl
def spBarring (C CB CN : Addr) : Sp := fun vs H Q E => ∃ (x : Addr) (ns : List Int) (L : List (List Int)) (a : V), vs = [.ref x, a] ∧ BookAt C CB H x ns L ∧ (∀ t ∈ L, t ∈ A3 ns.length ns.length) ∧ L.length ≤ 64 ∧ Known H [a] ∧ (∀ y, FirstNo ns [a] y → Tells H CN "tie" y E) ∧
  (∀ p : Nat, a = .int p → p < ns.length → ∀ (H' : Hp) (z : Addr), Same H H' → H z = none → TupsAt H' z (cplL L p) → Q (.ref z) H')
theorem tie_nat {ns : List Int} {p : Nat} (h : p < ns.length) : tieB ns (.int (p : Nat)) = true := tie_in ⟨by omega, by omega⟩
theorem TabAt.get {n : Nat} {L : List (List Int)} {H : Hp} {z : Addr} {p q : Nat} (h : TabAt n L H z) (hp : p < n) (hq : q < n) : ∃ (ps qs : List Addr) (a b : Addr), H z = some (.tup (ps.map V.ref)) ∧ ps[p]? = some a ∧ H a = some (.tup (qs.map V.ref)) ∧ qs[q]? = some b ∧ H b = some (.tup (rowB L n p q n)) := by
  obtain ⟨ps, e, l, f⟩ := h
  have ep : ps[p]? = some ps[p] := List.getElem?_eq_getElem (by omega)
  obtain ⟨qs, e2, l2, f2⟩ := f p _ ep
  have eq : qs[q]? = some qs[q] := List.getElem?_eq_getElem (by omega)
  exact ⟨ps, qs, _, _, e, ep, e2, eq, f2 q _ eq⟩
theorem rowB_at {L : List (List Int)} {n p q r : Nat} (h : r < n) : (rowB L n p q n)[r]? = some (.bl (decide ([(p : Int), (q : Int), (r : Int)] ∈ L))) := by
  unfold rowB
  rw [List.getElem?_map, List.getElem?_range h]
  rfl
theorem ref_at {ps : List Addr} {p : Nat} {a : Addr} (h : ps[p]? = some a) : (ps.map V.ref)[p]? = some (.ref a) := by
  rw [List.getElem?_map, h]
  rfl
section
variable {P : Program} {w : World} {K : PySem.W.Frag} {mg : Str → Option Value} {base : Heap}
theorem ok_Ties_eq {f C : Addr} {fd : FuncData} (F : Fun K "__eq__" "Ties.__eq__" s_Ties_eq f fd) (T : TiX K mg C) (nis : mg "isinstance" = none) : FnOk P w K mg base CX0 1 f fd ["self", "other"] (spTEq C) := by
  refine F.ok sc_Ties_eq (fun vs H Q E h => ?_) (fun cdv A outer s H vs Q E hr h => ?_)
  · obtain ⟨a, b, ns, ms, rfl, _⟩ := h
    rfl
  · obtain ⟨a, b, ns, ms, rfl, ⟨dx, t, ha, ht⟩, ⟨dy, u, hb, hu⟩, k⟩ := h
    refine ⟨_, (pss_one 
  (ps_ret (pe_and (pe_callB call_isi (by rfl) nis (by decide +kernel) (pa_cons (pv 1) (pa_cons (pe_glob (v := .ref C) rfl T.mT rfl) pa_nil))) (pe_one (pe_cmpR (op_eqD hr.units) (pe_fld (pv 0) rfl) (pe_fld (pv 1) rfl) (nomark _)))))), ?_⟩
    refine ⟨_, rfl, _, _, _, _, true, rfl, .own C, .base (.ins hb T.cl T.isc.ha T.isc.hn T.isc.htk T.isc.hm), T.isc.me, _, rfl, if_tr rfl ?_⟩
    refine ⟨_, rfl, a, C, dx, _, _, rfl, ha, T.cl, T.nB, tf_backs _ _, _, rfl, b, C, dy, _, _, rfl, hb, T.cl, T.nB, tf_backs _ _, _, _, .tup (SqT.of ht) (dp_ints ns), .tup (SqT.of hu) (dp_ints ms), shaped_ti ns, shaped_ti ms, ?_⟩
    rw [eqv_ti]
    exact k
theorem eqv_tups : ∀ L M : List (List Int), PyData.eqvAll (tupsD L) (tupsD M) = decide (L = M)
  | [], [] => by simp [tupsD, PyData.eqvAll]
  | [], u :: us => by simp [tupsD, PyData.eqvAll]
  | t :: ts, [] => by simp [tupsD, PyData.eqvAll]
  | t :: ts, u :: us => by
    have ih := eqv_tups ts us
    have h1 := eqv_ti t u
    show (PyData.eqv (.tuple (t.map PyData.int)) (.tuple (u.map PyData.int)) && PyData.eqvAll (tupsD ts) (tupsD us)) = _
    rw [h1, ih]
    by_cases h : t = u
    · by_cases h2 : ts = us
      · simp [h, h2]
      · simp [h, h2]
    · simp [h]
theorem eqv_tupT (L M : List (List Int)) : PyData.eqv (.tuple (tupsD L)) (.tuple (tupsD M)) = decide (L = M) := by
  rw [show PyData.eqv (.tuple (tupsD L)) (.tuple (tupsD M)) = PyData.eqvAll (tupsD L) (tupsD M) by simp only [PyData.eqv], eqv_tups]
theorem ok_Book_eq {f C CB fE : Addr} {fd fdE : FuncData} (F : Fun K "__eq__" "Book.__eq__" s_Book_eq f fd) (T : TiX K mg C) (c : BoX K mg CB) (nis : mg "isinstance" = none)
    (FE : FnOk P w K mg base CX0 1 fE fdE ["self", "other"] (spTEq C)) (aE : PySem.W.findIn K (.ref C) "__eq__" = some (some (.ref fE))) (iE : PySem.W.isFn K (.ref fE) = true) (bE : Binds K fdE ["self", "other"] []) : FnOk P w K mg base CX0 2 f fd ["self", "other"] (spBEq C CB) := by
  refine F.ok sc_Book_eq (fun vs H Q E h => ?_) (fun cdv A outer s H vs Q E hr h => ?_)
  · obtain ⟨x, y, ns, L, rfl, _⟩ := h
    rfl
  · obtain ⟨x, y, ns, L, rfl, ⟨dx, t, b, l, r, a1, a2, a3, a4, a5⟩, h⟩ := h
    refine ⟨_, (pss_one 
  (ps_ret (pe_and (pe_callB call_isi (by rfl) nis (by decide +kernel) (pa_cons (pv 1) (pa_cons (pe_glob (v := .ref CB) rfl c.mB rfl) pa_nil))) (pe_and (pe_cmpR (op_eqOwn FE aE iE bE pass0 hr T.nf) (pe_fld (pv 0) rfl) (pe_fld (pv 1) rfl) (nomark _)) (pe_one (pe_cmpR (op_eqD hr.units) (pe_fld (pv 0) rfl) (pe_fld (pv 1) rfl) (nomark _))))))), ?_⟩
    rcases h with ⟨y', ms, M, rfl, ⟨dy, t', b', l', r', c1, c2, c3, c4, c5⟩, k⟩ | ⟨⟨n, rfl⟩, k⟩
    · obtain ⟨d1, tb1, w1, w2⟩ := id a2
      obtain ⟨d2, tb2, w3, w4⟩ := id c2
      refine ⟨_, rfl, _, _, _, _, true, rfl, .own CB, .base (.ins c1 c.cl c.isc.ha c.isc.hn c.isc.htk c.isc.hm), c.isc.me, _, rfl, if_tr rfl ?_⟩
      refine ⟨_, rfl, x, CB, dx, _, _, rfl, a1, c.cl, c.nT, bf_ties _ _ _ _, _, rfl, y', CB, dy, _, _, rfl, c1, c.cl, c.nT, bf_ties _ _ _ _, t, t', d1, _, rfl, rfl, w1, .inl ⟨d2, _, w3⟩, t, t', ns, ms, rfl, a2, c2, ⟨_, rfl⟩, _, rfl, ?_⟩
      by_cases h1 : ns = ms
      case neg =>
        refine if_fa (decide_eq_false h1) ?_
        rw [decide_eq_false (fun z => h1 z.1)] at k
        exact k
      refine if_tr (decide_eq_true h1) ?_
      refine ⟨_, rfl, x, CB, dx, _, _, rfl, a1, c.cl, c.nB, bf_barred _ _ _ _, _, rfl, y', CB, dy, _, _, rfl, c1, c.cl, c.nB, bf_barred _ _ _ _, _, _, a3.data, c3.data, shaped_tupsT L, shaped_tupsT M, ?_⟩
      rw [eqv_tupT]
      have e : decide (L = M) = decide (ns = ms ∧ L = M) := by simp [h1]
      rw [e]
      exact k
    · exact ⟨_, rfl, _, _, _, _, false, rfl, .own CB, .base (.int n), c.ni, _, rfl, if_fa rfl k⟩
end
end J

set_option Elab.async false
set_option linter.all false
set_option maxRecDepth 100000
set_option maxHeartbeats 8000000
namespace J
open PySem PySem.Spec PyProof.Rows L2
theorem fit_take {L : List (List Int)} {p q i : Nat} : ((List.range (i + 1)).filter fun r : Nat => !decide ([(p : Int), (q : Int), (r : Int)] ∈ L)) = ((List.range i).filter fun r : Nat => !decide ([(p : Int), (q : Int), (r : Int)] ∈ L)) ++ (if (!decide ([(p : Int), (q : Int), (i : Int)] ∈ L)) = true then [i] else []) := by
  rw [List.range_succ, List.filter_append]
  have e : [i].filter (fun r : Nat => !decide ([(p : Int), (q : Int), (r : Int)] ∈ L)) = if (!decide ([(p : Int), (q : Int), (i : Int)] ∈ L)) = true then [i] else [] := by
    simp only [List.filter]
    cases hc : (!decide ([(p : Int), (q : Int), (i : Int)] ∈ L)) <;> rfl
  rw [e]
theorem fit_len {L : List (List Int)} {p q i : Nat} : (fitL L i p q).length ≤ i := by
  unfold fitL
  rw [List.length_map]
  have := List.length_filter_le (fun r : Nat => !decide ([(p : Int), (q : Int), (r : Int)] ∈ L)) (List.range i)
  rw [List.length_range] at this
  exact this
section
variable {P : Program} {w : World} {K : PySem.W.Frag} {mg : Str → Option Value} {base : Heap}
end
end J

set_option Elab.async false
set_option linter.all false
set_option maxRecDepth 100000
set_option maxHeartbeats 8000000
namespace J
open PySem PySem.Spec PyProof.Rows L2
/-! ### books are made -/
theorem ArgB.mono {C CE : Addr} {w : Str} {t v : V} {H H' : Hp} {E : XK} {k k' : List Int → List (List Int) → Prop} (h : ArgB C CE w t v H E k) (S : Same H H') (hk : ∀ ns ts, k ns ts → k' ns ts) : ArgB C CE w t v H' E k' := by
  rcases h with ⟨⟨z, xs, e, hz⟩, T⟩ | ⟨x, ns, s, ss, e, hT, gb, hv, hs, k1, k2, k3⟩
  · exact .inl ⟨⟨z, xs, e, S _ _ hz⟩, T.mono S⟩
  · exact .inr ⟨x, ns, s, ss, e, hT.keep S, gb, hv.keep S, hs.keep S, fun a => (k1 a).mono S, fun j s' a b c d => (k2 j s' a b c d).mono S, fun a b => hk _ _ (k3 a b)⟩
theorem ArgB.good {C CE : Addr} {w : Str} {v : V} {H : Hp} {E : XK} {k : List Int → List (List Int) → Prop} {x : Addr} {ns : List Int} {s : Sh} {ss : List Sh} (hT : TiesAt C H x ns) (gb : GoodB ns) (hv : Is H v s) (sq : (s.isL || s.isT) = true) (hs : ShAll H (items s) ss)
    (hb : ∀ s' ∈ ss, threeB ns s' = true) (hk : k ns (trs ss)) : ArgB C CE w (.ref x) v H E k :=
  .inr ⟨x, ns, s, ss, rfl, hT, gb, hv, hs, (fun a => by rw [sq] at a; cases a), (fun j s' _ e1 e2 _ => by rw [hb s' (List.mem_of_getElem? e1)] at e2; cases e2), fun _ _ => hk⟩
/-- the book that is made -/
abbrev BookK (C CB : Addr) (H : Hp) (R : Addr → VK) : List Int → List (List Int) → Prop := fun ns ts => ∀ H' x, Same H H' → H x = none → BookAt C CB H' x ns (brd ns ts) → R x .non H'
theorem mk_book {K : PySem.W.Frag} {C CB CE : Addr} {t v : V} {H : Hp} {E : XK} {R : Addr → VK} (h : ArgB C CE "barred" t v H E (BookK C CB H R)) :
    ∀ x dx, H x = none → H dx = none → dx ≠ x → spBI K C CB CE [.ref x, t, v] (upd (upd H dx (.own x)) x (.ins CB dx [])) (R x) E := fun x dx hx hd _ =>
  ⟨x, dx, t, v, rfl, upd_same, .inl (h.mono (made_same (H := H) (o := .own x) (u := .ins CB dx []) hx hd) fun ns ts k H' B Bk => k H' x (made_but hx hd B) hx Bk)⟩
theorem mk_book0 {K : PySem.W.Frag} {C CB CE : Addr} {tt a : Addr} {ns : List Int} {H : Hp} {E : XK} {R : Addr → VK} (hT : TiesAt C H tt ns) (gb : GoodB ns) (ha : KT K a) (k : ∀ H' x, Same H H' → H x = none → BookAt C CB H' x ns [] → R x .non H') :
    ∀ x dx, H x = none → H dx = none → dx ≠ x → spBI K C CB CE [.ref x, .ref tt, .ref a] (upd (upd H dx (.own x)) x (.ins CB dx [])) (R x) E := fun x dx hx hd _ =>
  ⟨x, dx, .ref tt, .ref a, rfl, upd_same, .inr ⟨tt, a, ns, rfl, rfl, hT.keep (made_same (H := H) (o := .own x) (u := .ins CB dx []) hx hd), gb, ha, fun H' B Bk => k H' x (made_but hx hd B) hx Bk⟩⟩
theorem sh_three {ns : List Int} {t : List Int} (h : t ∈ A3 ns.length ns.length) : threeB ns (.tup (t.map V.int)) = true := by
  obtain ⟨p, q, r, rfl, ip, iq, ir⟩ := A3_in h (ns := ns) rfl
  exact three_yes (s := .tup ([p, q, r].map V.int)) rfl rfl ip iq ir
def shT (L : List (List Int)) : List Sh := L.map fun t => Sh.tup (t.map V.int)
theorem trs_shT : ∀ L : List (List Int), trs (shT L) = L
  | [] => rfl
  | t :: L => by
    show (t.map V.int).map ofV :: trs (shT L) = t :: L
    rw [trs_shT L, List.map_map]
    congr 1
    have : (ofV ∘ V.int) = id := rfl
    rw [this, List.map_id]
theorem sh_tups {H : Hp} : ∀ {ps : List Addr} {L : List (List Int)}, ps.length = L.length → (∀ (j : Nat) (a : Addr) (ts : List Int), ps[j]? = some a → L[j]? = some ts → H a = some (.tup (ts.map V.int))) → ShAll H (ps.map V.ref) (shT L)
  | [], [], _, _ => .nil
  | [], _ :: _, h, _ => by cases h
  | _ :: _, [], h, _ => by cases h
  | p :: ps, t :: ts, h, f => .cons ⟨⟨p, rfl, f 0 p t rfl rfl⟩, ints_known t⟩ (sh_tups (Nat.succ.inj h) fun j a b e1 e2 => f (j + 1) a b (by simpa using e1) (by simpa using e2))
theorem LstsAt.arg {C CE : Addr} {w : Str} {H : Hp} {E : XK} {k : List Int → List (List Int) → Prop} {x z : Addr} {ns : List Int} {L : List (List Int)} (h : LstsAt H z L) (hT : TiesAt C H x ns) (gb : GoodB ns) (hA : ∀ t ∈ L, t ∈ A3 ns.length ns.length) (hk : k ns L) : ArgB C CE w (.ref x) (.ref z) H E k := by
  obtain ⟨ps, e1, e2, e3⟩ := h
  refine ArgB.good hT gb (s := .lst (ps.map V.ref)) ⟨z, rfl, e1⟩ rfl (sh_tups e2 e3) (fun s' hs' => ?_) (by rw [trs_shT]; exact hk)
  obtain ⟨t, ht, rfl⟩ := List.mem_map.mp hs'
  exact sh_three (hA t ht)
def spLet (C CB CE : Addr) : Sp := fun vs H Q E => ∃ t v : V, vs = [t, v] ∧ ArgB C CE "threes" t v H E (fun ns ts => ∀ H' x, Same H H' → H x = none → BookAt C CB H' x ns (lts ns ts) → Q (.ref x) H')
section
variable {P : Program} {w : World} {K : PySem.W.Frag} {mg : Str → Option Value} {base : Heap}
end
end J

set_option Elab.async false
set_option linter.all false
set_option maxRecDepth 100000
set_option maxHeartbeats 4000000
/-! min(xs), xs a list of tuples of ints: the comparison looks at the heap, so what stood before the call has to stay -/
namespace TM
open PySem PyProof.Rows
/-- everything that stood in h0 stands -/
def Old (h0 h : Heap) : Prop := ∀ b o, h0.get? b = some o → h.get? b = some o
theorem Old.but {h0 h h' : Heap} {wr : List Addr} {S : Addr} (x : Old h0 h) (hw : ∀ b ∈ wr, h0.objs.size ≤ b) (hS : h0.objs.size ≤ S) (k : ∀ b o, b ∉ wr → b ≠ S → h.get? b = some o → h'.get? b = some o) : Old h0 h' := fun b o e =>
  k b o (fun m => Nat.not_lt.mpr (hw b m) (Heap.lt_size e)) (fun q => by subst q; exact Nat.not_lt.mpr hS (Heap.lt_size e)) (x b o e)
section
variable {prog : Program} {w : World} {A : Around} {R : Result → Shared → Prop} {I : Addr} {fp wr : List Addr} {n : Nat} {P : Nat → Value → Prop} {St : Nat → Heap → Prop}
def LtOld (prog : Program) (w : World) (A : Around) (h0 : Heap) (P : Nat → Value → Prop) (bt : Nat → Nat → Bool) : Prop :=
  ∀ i j vi vj (s : Shared) (Q : Value → Shared → Prop) (E : Value → Shared → Prop), Old h0 s.heap → P i vi → P j vj → Q (.bool (bt i j)) s → wpAny (model prog w) A (richCompare .Lt vi vj) Q E s
theorem loop_from (h0 : Heap) (W : Walks prog w A.in1 I fp wr n P St) (bt : Nat → Nat → Bool) (cmp : LtOld prog w A.in1 h0 P bt) (S : Addr) (nS : S ∉ fp) (hw : ∀ b ∈ wr, h0.objs.size ≤ b) (hS0 : h0.objs.size ≤ S) :
    ∀ (m j : Nat) (s : Shared) (best : Value) (c : Nat), n - (j + 1) = m → j + 1 ≤ n → Old h0 s.heap → St (j + 1) s.heap → P (argBest bt j) best →
    s.heap.get? S = some { cls := .type "list", dict := none, data := .seq #[best, best] c, slots := #[] } →
    (∀ v h' tk, P (argBest bt (n - 1)) v → Old h0 h' → R (.ok (.ret v)) { s with heap := h', toks := tk }) →
    codeAny (model prog w) A (.builtin "min.loop" ⟨[.ref I, .none, .ref S], []⟩) R s := by
  have nW : S ∉ wr := fun q => nS (W.sub _ q)
  have nm : (toString "min" ++ toString ".loop" : String) = "min.loop" := by decide
  intro m
  induction m with
  | zero =>
    intro j s best c em hj old hst pb hS fin
    have ej : j + 1 = n := by omega
    refine codeAny_builtin F.entry_min_loop ?_
    rw [Around.under_plainId F.plain_min_loop _]
    show wpAny _ A.in1 (seqItems? (.ref S) >>= _) _ _ s
    refine wpAny_bind (wpAny_seqItems hS rfl ?_)
    show wpAny _ A.in1 (tryCatch (pyNext (.ref I)) _ >>= _) _ _ s
    refine wpAny_bind (wpAny_tryCatch (W.done s _ _ (ej ▸ hst) fun h1 tk k1 => ?_))
    have hS1 := k1 S _ nW hS
    show wpAny _ A.in1 (updateSeq S (fun _ => #[]) >>= _) _ _ _
    refine wpAny_bind ?_
    refine wpAny_updateSeq hS1 rfl (wpAny_bind (wpAny_letGo (wpAny_pure ?_)))
    exact fin best _ tk (by rw [← ej]; exact pb) (old.but hw hS0 fun b o q1 q2 e => (Heap.get?_update_other _ _ (Ne.symm q2)).trans (k1 b o q1 e))
  | succ m ih =>
    intro j s best c em hj old hst pb hS fin
    have lt : j + 1 < n := by omega
    refine codeAny_builtin F.entry_min_loop ?_
    rw [Around.under_plainId F.plain_min_loop _]
    show wpAny _ A.in1 (seqItems? (.ref S) >>= _) _ _ s
    refine wpAny_bind (wpAny_seqItems hS rfl ?_)
    show wpAny _ A.in1 (tryCatch (pyNext (.ref I)) _ >>= _) _ _ s
    refine wpAny_bind (wpAny_tryCatch (W.item (j + 1) s _ _ lt hst fun v h1 tk pv st1 k1 => ?_))
    have hS1 := k1 S _ nW hS
    have old1 : Old h0 h1 := old.but hw hS0 fun b o q1 _ e => k1 b o q1 e
    show wpAny _ A.in1 (tryCatch (holding [v, v] (richCompare .Lt v best >>= _)) _ >>= _) _ _ _
    refine wpAny_bind (wpAny_tryCatch (wpAny_holding (wpAny_bind (cmp (j + 1) (argBest bt j) v best _ _ _ old1 pv pb ?_))))
    refine wpAny_bind (wpAny_holding (wpAny_truthy_bool ?_))
    refine wpAny_bind (wpAny_letGo (wpAny_pure ?_))
    cases hb : bt (j + 1) (argBest bt j) with
    | true =>
      simp only [if_true]
      refine wpAny_bind ?_
      refine wpAny_updateSeq hS1 rfl (wpAny_bind (wpAny_letGo ?_))
      rw [nm]
      refine wpAny_pure ⟨plainId_quiet F.plain_min_loop _, ih (j + 1) _ v _ (by omega) lt (old1.but hw hS0 fun b o _ q e => (Heap.get?_update_other _ _ (Ne.symm q)).trans e) (W.frame _ _ _ st1 fun b mb o e => ?_) (by simp only [argBest, hb, if_true]; exact pv) (Heap.get?_update_self _ hS1 rfl) fin⟩
      exact (Heap.get?_update_other _ _ (fun q : S = b => nS (by rw [q]; exact mb))).trans e
    | false =>
      simp only [Bool.false_eq_true, if_false]
      refine wpAny_bind (wpAny_letGo ?_)
      rw [nm]
      exact wpAny_pure ⟨plainId_quiet F.plain_min_loop _, ih (j + 1) _ best c (by omega) lt old1 st1 (by simp only [argBest, hb, Bool.false_eq_true, if_false]; exact pb) hS1 fin⟩
theorem loop_all (h0 : Heap) (W : Walks prog w A.in1 I fp wr n P St) (bt : Nat → Nat → Bool) (cmp : LtOld prog w A.in1 h0 P bt) (S : Addr) (nS : S ∉ fp) (hw : ∀ b ∈ wr, h0.objs.size ≤ b) (hS0 : h0.objs.size ≤ S) (hn : 0 < n) {s : Shared} {c : Nat} (old : Old h0 s.heap) (hst : St 0 s.heap)
    (hS : s.heap.get? S = some { cls := .type "list", dict := none, data := .seq #[] c, slots := #[] }) (fin : ∀ v h' tk, P (argBest bt (n - 1)) v → Old h0 h' → R (.ok (.ret v)) { s with heap := h', toks := tk }) :
    codeAny (model prog w) A (.builtin "min.loop" ⟨[.ref I, .none, .ref S], []⟩) R s := by
  have nW : S ∉ wr := fun q => nS (W.sub _ q)
  have nm : (toString "min" ++ toString ".loop" : String) = "min.loop" := by decide
  refine codeAny_builtin F.entry_min_loop ?_
  rw [Around.under_plainId F.plain_min_loop _]
  show wpAny _ A.in1 (seqItems? (.ref S) >>= _) _ _ s
  refine wpAny_bind (wpAny_seqItems hS rfl ?_)
  show wpAny _ A.in1 (tryCatch (pyNext (.ref I)) _ >>= _) _ _ s
  refine wpAny_bind (wpAny_tryCatch (W.item 0 s _ _ hn hst fun v h1 tk pv st1 k1 => ?_))
  have hS1 := k1 S _ nW hS
  have old1 : Old h0 h1 := old.but hw hS0 fun b o q1 _ e => k1 b o q1 e
  show wpAny _ A.in1 (updateSeq S (fun _ => #[v, v]) >>= _) _ _ _
  refine wpAny_bind ?_
  refine wpAny_updateSeq hS1 rfl ?_
  rw [nm]
  refine wpAny_pure ⟨plainId_quiet F.plain_min_loop _, loop_from h0 W bt cmp S nS hw hS0 _ 0 _ v _ rfl hn (old1.but hw hS0 fun b o _ q e => (Heap.get?_update_other _ _ (Ne.symm q)).trans e) (W.frame _ _ _ st1 fun b mb o e => ?_) pv (Heap.get?_update_self _ hS1 rfl) fin⟩
  exact (Heap.get?_update_other _ _ (fun q : S = b => nS (by rw [q]; exact mb))).trans e
end
section
variable {prog : Program} {w : World} {A : Around} {E : Value → Shared → Prop} {s : Shared}
theorem min_list {l : Addr} {items : Array Value} {bt : Nat → Nat → Bool} {Q : Value → Shared → Prop} (hh : A.handled = none) (hl : s.heap.IsList l items) (hn : 0 < items.size) (cmp : LtOld prog w A.in1 s.heap (fun i v => items[i]? = some v) bt)
    (fin : ∀ v h' tk, items[argBest bt (items.size - 1)]? = some v → Old s.heap h' → Q v { s with heap := h', toks := tk }) : wpAny (model prog w) A (call (.builtin "min") [.ref l]) Q E s := by
  have nm : (toString "min" ++ toString ".loop" : String) = "min.loop" := by decide
  have lt : l < s.heap.objs.size := let ⟨_, e, _⟩ := hl; Heap.lt_size e
  refine call_function_tree F.kind_min F.plain_min F.entry_min (F.args_min1 _) ?_
  show wpAny _ A.in1 (Builtin.Builtins.bindParams "min" ["key", "default"] 0 ⟨[], []⟩ >>= _) _ _ s
  refine wpAny_bind (wpAny_of_eq (show Builtin.Builtins.bindParams "min" ["key", "default"] 0 ⟨[], []⟩ = pure [none, none] from rfl) ?_)
  refine wpAny_bind (wpAny_pure ?_)
  refine wpAny_bind (wpAny_pyIter_list hl ?_)
  refine wpAny_bind (wpAny_newObj_type ?_)
  rw [nm]
  have W := Walks.list (prog := prog) (w := w) (A := A.in1) hh s.heap.objs.size l (Nat.ne_of_lt lt) items
  refine wpAny_pure ⟨plainId_quiet F.plain_min_loop _, loop_all s.heap W bt cmp _ ?_ ?_ ?_ hn (fun b o e => Heap.get?_push_of_some _ (Heap.get?_push_of_some _ e)) (W.frame _ _ _ ⟨⟨_, Heap.get?_push_size _ rfl, rfl, rfl⟩, ?_⟩ fun b _ o e => Heap.get?_push_of_some _ e) (Heap.get?_push_size _ rfl) fun v h' tk p old => fin v h' tk p old⟩
  · intro m
    have z := Heap.size_push s.heap { cls := .type "list_iterator", data := .fields #[.ref l, .int 0 0] }
    rcases List.mem_cons.mp m with q | q
    · exact absurd q (Nat.ne_of_gt (Nat.lt_of_lt_of_eq (Nat.lt_succ_self _) z.symm))
    · exact absurd (List.mem_singleton.mp q) (Nat.ne_of_gt (Nat.lt_of_lt_of_eq (Nat.lt_succ_of_lt lt) z.symm))
  · intro b m
    rw [List.mem_singleton.mp m]
    exact Nat.le_refl _
  · rw [Heap.size_push]
    exact Nat.le_succ _
  · obtain ⟨o, e, x⟩ := hl
    exact ⟨o, Heap.get?_push_of_some _ e, x⟩
end
end TM

set_option Elab.async false
set_option linter.all false
set_option maxRecDepth 100000
set_option maxHeartbeats 8000000
namespace L2
open PySem PySem.Spec PyProof.Rows
theorem refs_only : ∀ {ps : List Addr} {us : List Value}, Vals (ps.map V.ref) us → us = ps.map Value.ref
  | [], _, .nil => rfl
  | p :: ps, _, .cons r t => by
    cases r
    rw [refs_only t]
    rfl
theorem code3 (a b c : Int) : TS.code 4 [a, b, c] = a * 16 + (b * 4 + c) := by
  show a * 4 ^ 2 + (b * 4 ^ 1 + (c * 4 ^ 0 + 0)) = _
  have e2 : (4 : Int) ^ 2 = 16 := by decide
  have e1 : (4 : Int) ^ 1 = 4 := by decide
  have e0 : (4 : Int) ^ 0 = 1 := by decide
  rw [e2, e1, e0]
  omega
theorem lex3 {ns ms : List Int} (l1 : ns.length = 3) (l2 : ms.length = 3) (b1 : TS.Bd 4 ns) (b2 : TS.Bd 4 ms) :
    Ob.lexAt (fun j => decide (ns.getD j 0 = ms.getD j 0)) (fun j => decide (ns.getD j 0 < ms.getD j 0)) (decide (ns.length < ms.length)) 0 (min ns.length ms.length) = decide (TS.code 4 ns < TS.code 4 ms) := by
  obtain ⟨a, b, c, rfl⟩ : ∃ a b c, ns = [a, b, c] := match ns, l1 with | [a, b, c], _ => ⟨a, b, c, rfl⟩
  obtain ⟨a', b', c', rfl⟩ : ∃ a b c, ms = [a, b, c] := match ms, l2 with | [a, b, c], _ => ⟨a, b, c, rfl⟩
  have p1 := b1 a (by simp)
  have p2 := b1 b (by simp)
  have p3 := b1 c (by simp)
  have q1 := b2 a' (by simp)
  have q2 := b2 b' (by simp)
  have q3 := b2 c' (by simp)
  rw [code3, code3]
  show (if decide (a = a') = true then (if decide (b = b') = true then (if decide (c = c') = true then decide (3 < 3) else decide (c < c')) else decide (b < b')) else decide (a < a')) = _
  by_cases h1 : a = a'
  · rw [if_pos (decide_eq_true h1)]
    by_cases h2 : b = b'
    · rw [if_pos (decide_eq_true h2)]
      by_cases h3 : c = c'
      · rw [if_pos (decide_eq_true h3), decide_eq_false (by decide), decide_eq_false (by omega)]
      · rw [if_neg (by simpa using h3)]
        exact decide_eq_decide.mpr (by omega)
    · rw [if_neg (by simpa using h2)]
      exact decide_eq_decide.mpr (by omega)
  · rw [if_neg (by simpa using h1)]
    exact decide_eq_decide.mpr (by omega)
/-- min(xs), xs a list of tuples of three ties -/
def rMinT : List V → Hp → VK → Prop := fun vs H Q => ∃ (a : Addr) (L : List (List Int)), vs = [V.ref a] ∧ J.LstsAt H a L ∧ 0 < L.length ∧ (∀ t ∈ L, t.length = 3 ∧ TS.Bd 4 t) ∧ ∀ (z : Addr) (t : List Int), t ∈ L → (∀ u ∈ L, TS.code 4 t ≤ TS.code 4 u) → H z = some (.tup (t.map V.int)) → Q (.ref z) H
section
variable {X : Cx}
theorem cr_minT (hc : X.calm = true) (hu : X.A.units + 64 < cLine) : CallR X (.builtin "min") rMinT := by
  intro pins s σ H vs us Q I r h
  obtain ⟨a, L, rfl, ⟨ps, e1, e2, e3⟩, hne, hB, q⟩ := h
  obtain ⟨its, rv, hl, hz⟩ := I.list (SqL.of e1)
  have ei := refs_only rv
  subst ei
  rw [Vals.ref1 r]
  have sz : (ps.map Value.ref).toArray.size = L.length := by simp [e2]
  have at_ : ∀ (i : Nat) (v : Value), (ps.map Value.ref).toArray[i]? = some v → ∃ b, ps[i]? = some b ∧ v = .ref b := by
    intro i v e
    have e' : (ps.map Value.ref)[i]? = some v := by simpa using e
    rw [List.getElem?_map] at e'
    cases hb : ps[i]? with
    | none =>
      rw [hb] at e'
      cases e'
    | some b =>
      rw [hb] at e'
      exact ⟨b, rfl, (Option.some.inj e').symm⟩
  have tup : ∀ (i : Nat) (b : Addr), ps[i]? = some b → ∃ t, L[i]? = some t ∧ t ∈ L ∧ H b = some (.tup (t.map V.int)) := by
    intro i b hb
    have li := (List.getElem?_eq_some_iff.mp hb).1
    have el : L[i]? = some L[i] := List.getElem?_eq_getElem (by omega)
    exact ⟨_, el, List.mem_of_getElem? el, e3 i b _ hb el⟩
  have gd : ∀ (i : Nat) (t : List Int), L[i]? = some t → L.getD i [] = t := fun i t e => by rw [List.getD_eq_getElem?_getD, e]; rfl
  refine TM.min_list (bt := fun i j => decide (TS.code 4 (L.getD i []) < TS.code 4 (L.getD j []))) (I.ok.hd hc) hl.isList (by omega) ?_ ?_
  · intro i j vi vj s' Q' E' old hi hj hq
    obtain ⟨b, hb, rfl⟩ := at_ i vi hi
    obtain ⟨b', hb', rfl⟩ := at_ j vj hj
    obtain ⟨ns, en, mn, tn⟩ := tup i b hb
    obtain ⟨ms, em, mm, tm⟩ := tup j b' hb'
    dsimp only at hq
    rw [gd i ns en, gd j ms em] at hq
    obtain ⟨xs, r1, p1, _⟩ := I.tuple (SqT.of tn)
    obtain ⟨ys, r2, p2, _⟩ := I.tuple (SqT.of tm)
    have P1 : s'.heap.IsTuple b xs.toArray := by
      obtain ⟨o, ho, x⟩ := p1
      exact ⟨o, old _ _ ho, x⟩
    have P2 : s'.heap.IsTuple b' ys.toArray := by
      obtain ⟨o, ho, x⟩ := p2
      exact ⟨o, old _ _ ho, x⟩
    have i1 : IntsAre xs ns := Vals.ints r1
    have i2 : IntsAre ys ms := Vals.ints r2
    have s1 : xs.toArray.size = ns.length := by rw [List.size_toArray]; exact i1.length
    have s2 : ys.toArray.size = ms.length := by rw [List.size_toArray]; exact i2.length
    have at1 : ∀ k (h1 : k < xs.toArray.size), ∃ t, xs.toArray[k] = .int (ns.getD k 0) t := fun k h1 => PyProof.Rows.IntsAre.int_at i1 _ _ (by simp at h1; simp [h1])
    have at2 : ∀ k (h1 : k < ys.toArray.size), ∃ t, ys.toArray[k] = .int (ms.getD k 0) t := fun k h1 => PyProof.Rows.IntsAre.int_at i2 _ _ (by simp at h1; simp [h1])
    have Rc := Ob.RcOp.tuples_lt (A := X.A.in1) (s := s') (e := fun k => decide (ns.getD k 0 = ms.getD k 0)) (r := fun k => decide (ns.getD k 0 < ms.getD k 0)) P1 P2 (by show X.A.units + 1 < cLine; omega) (fun k h1 h2 => by
      obtain ⟨t, et⟩ := at1 k h1
      obtain ⟨t', et'⟩ := at2 k h2
      rw [et, et']
      have z : (ns.getD k 0 == ms.getD k 0) = decide (ns.getD k 0 = ms.getD k 0) := by
        by_cases c : ns.getD k 0 = ms.getD k 0
        · rw [decide_eq_true c]
          exact beq_iff_eq.mpr c
        · rw [decide_eq_false c]
          exact beq_eq_false_iff_ne.mpr c
      rw [← z]
      exact SeqAt.EqAt.int_int _ _ _ _) (fun k h1 h2 _ => by
      obtain ⟨t, et⟩ := at1 k h1
      obtain ⟨t', et'⟩ := at2 k h2
      rw [et, et']
      exact Ob.RcOp.lt_int _ _ _ _)
    rw [s1, s2, lex3 (hB ns mn).1 (hB ms mm).1 (hB ns mn).2 (hB ms mm).2] at Rc
    exact Rc X.prog X.w E' Q' hq
  · intro v h' tk hv old
    obtain ⟨b, hb, rfl⟩ := at_ _ v hv
    obtain ⟨t, et, mt, ht⟩ := tup _ b hb
    obtain ⟨h1, h2⟩ := argBest_lt (fun i => TS.code 4 (L.getD i [])) ((ps.map Value.ref).toArray.size - 1)
    refine ⟨.ref b, H, I.kept old, rfl, q b t mt (fun u hu => ?_) ht⟩
    obtain ⟨j, hj⟩ := List.mem_iff_getElem?.mp hu
    have lj := (List.getElem?_eq_some_iff.mp hj).1
    have z := h2 j (by omega)
    rw [gd _ t et, gd j u hj] at z
    exact z
end
end L2
namespace J
open PySem PySem.Spec PyProof.Rows L2
/-! ### the law's own readings and classes -/
abbrev s_Lreadings : Stmt := top 44
theorem sc_Lreadings : FnScope ["_law_backs_here", "_law_p", "_law_q", "_law_r"] ["_law_backs_here", "_law_p", "_law_q", "_law_r"] (defScope s_Lreadings) := ⟨rfl, rfl, rfl, by decide +kernel, rfl, by decide +kernel, by decide +kernel⟩
def spLR : Sp := fun vs H Q _ => ∃ (b : Addr) (ns : List Int) (p q r : Nat), vs = [.ref b, .int p, .int q, .int r] ∧ H b = some (.lst (ns.map V.int)) ∧ GoodB ns ∧ p < ns.length ∧ q < ns.length ∧ r < ns.length ∧ ∀ (H' : Hp) (z : Addr), Same H H' → H z = none → LstsAt H' z (six ns p q r) → Q (.ref z) H'
theorem bk_at {ns : List Int} {p : Nat} (h : p < ns.length) : (ns.map V.int)[p]? = some (.int (bk ns p)) := by
  have := bk_get (ns := ns) (t := (p : Int)) ⟨by omega, by omega⟩
  rw [Int.toNat_natCast] at this
  rw [List.getElem?_map, this]
  rfl
section
variable {P : Program} {w : World} {K : PySem.W.Frag} {mg : Str → Option Value} {base : Heap}
theorem ok_Lreadings {f : Addr} {fd : FuncData} (F : Fun K "_law_readings" "_law_readings" s_Lreadings f fd) : FnOk P w K mg base CX0 1 f fd ["_law_backs_here", "_law_p", "_law_q", "_law_r"] spLR := by
  refine F.ok sc_Lreadings (fun vs H Q E h => ?_) (fun cdv A outer s H vs Q E hr h => ?_)
  · obtain ⟨b, ns, p, q, r, rfl, _⟩ := h
    rfl
  · obtain ⟨b, ns, p, q, r, rfl, hb, gb, lp, lq, lr, k⟩ := h
    refine ⟨_, (pss_one 
  (ps_ret (pe_lst (pa_cons (pe_tup (pa_cons (pv 1) (pa_cons (pv 2) (pa_cons (pv 3) pa_nil)))) (pa_cons (pe_tup (pa_cons (pv 3) (pa_cons (pe_ix ix_list (pv 0) (pv 2) (fun _ _ => rfl)) (pa_cons (pv 1) pa_nil)))) (pa_cons (pe_tup (pa_cons (pe_ix ix_list (pv 0) (pv 1) (fun _ _ => rfl)) (pa_cons (pv 3) (pa_cons (pv 2) pa_nil)))) (pa_cons (pe_tup (pa_cons (pv 2) (pa_cons (pe_ix ix_list (pv 0) (pv 3) (fun _ _ => rfl)) (pa_cons (pe_ix ix_list (pv 0) (pv 1) (fun _ _ => rfl)) pa_nil)))) (pa_cons (pe_tup (pa_cons (pe_ix ix_list (pv 0) (pv 3) (fun _ _ => rfl)) (pa_cons (pv 1) (pa_cons (pe_ix ix_list (pv 0) (pv 2) (fun _ _ => rfl)) pa_nil)))) (pa_cons (pe_tup (pa_cons (pe_ix ix_list (pv 0) (pv 2) (fun _ _ => rfl)) (pa_cons (pe_ix ix_list (pv 0) (pv 1) (fun _ _ => rfl)) (pa_cons (pe_ix ix_list (pv 0) (pv 3) (fun _ _ => rfl)) pa_nil)))) pa_nil))))))))), ?_⟩
    have S0 : Same H H := Same.refl H
    refine ⟨_, rfl, _, rfl, _, rfl, (by show 3 ≤ sizeLine; decide), fun t1 ht1 => ?_⟩
    have W1 : Same H (upd H t1 (.tup [V.int ((p : Int)), V.int ((q : Int)), V.int ((r : Int))])) := new_same ht1
    have f1 : (upd H t1 (.tup [V.int ((p : Int)), V.int ((q : Int)), V.int ((r : Int))])) t1 = some (.tup (([(p : Int), (q : Int), (r : Int)] : List Int).map V.int)) := upd_same
    have S1 := S0.trans W1
    generalize upd H t1 (.tup [V.int ((p : Int)), V.int ((q : Int)), V.int ((r : Int))]) = K1 at W1 f1 S1
    refine ⟨_, rfl, _, rfl, _, rfl, _, _, _, _, rfl, rfl, SqL.of (S1 _ _ hb), at_of (j := q) (v := .int _) rfl (bk_at lq), _, rfl, (by show 3 ≤ sizeLine; decide), fun t2 ht2 => ?_⟩
    have W2 : Same K1 (upd K1 t2 (.tup [V.int ((r : Int)), V.int (bk ns (q : Nat)), V.int ((p : Int))])) := new_same ht2
    have f2 : (upd K1 t2 (.tup [V.int ((r : Int)), V.int (bk ns (q : Nat)), V.int ((p : Int))])) t2 = some (.tup (([(r : Int), bk ns (q : Nat), (p : Int)] : List Int).map V.int)) := upd_same
    have S2 := S1.trans W2
    generalize upd K1 t2 (.tup [V.int ((r : Int)), V.int (bk ns (q : Nat)), V.int ((p : Int))]) = K2 at W2 f2 S2
    refine ⟨_, rfl, _, rfl, _, _, _, _, rfl, rfl, SqL.of (S2 _ _ hb), at_of (j := p) (v := .int _) rfl (bk_at lp), _, rfl, _, rfl, (by show 3 ≤ sizeLine; decide), fun t3 ht3 => ?_⟩
    have W3 : Same K2 (upd K2 t3 (.tup [V.int (bk ns (p : Nat)), V.int ((r : Int)), V.int ((q : Int))])) := new_same ht3
    have f3 : (upd K2 t3 (.tup [V.int (bk ns (p : Nat)), V.int ((r : Int)), V.int ((q : Int))])) t3 = some (.tup (([bk ns (p : Nat), (r : Int), (q : Int)] : List Int).map V.int)) := upd_same
    have S3 := S2.trans W3
    generalize upd K2 t3 (.tup [V.int (bk ns (p : Nat)), V.int ((r : Int)), V.int ((q : Int))]) = K3 at W3 f3 S3
    refine ⟨_, rfl, _, rfl, _, rfl, _, _, _, _, rfl, rfl, SqL.of (S3 _ _ hb), at_of (j := r) (v := .int _) rfl (bk_at lr), _, rfl, _, rfl, _, _, _, _, rfl, rfl, SqL.of (S3 _ _ hb), at_of (j := p) (v := .int _) rfl (bk_at lp), (by show 3 ≤ sizeLine; decide), fun t4 ht4 => ?_⟩
    have W4 : Same K3 (upd K3 t4 (.tup [V.int ((q : Int)), V.int (bk ns (r : Nat)), V.int (bk ns (p : Nat))])) := new_same ht4
    have f4 : (upd K3 t4 (.tup [V.int ((q : Int)), V.int (bk ns (r : Nat)), V.int (bk ns (p : Nat))])) t4 = some (.tup (([(q : Int), bk ns (r : Nat), bk ns (p : Nat)] : List Int).map V.int)) := upd_same
    have S4 := S3.trans W4
    generalize upd K3 t4 (.tup [V.int ((q : Int)), V.int (bk ns (r : Nat)), V.int (bk ns (p : Nat))]) = K4 at W4 f4 S4
    refine ⟨_, rfl, _, rfl, _, _, _, _, rfl, rfl, SqL.of (S4 _ _ hb), at_of (j := r) (v := .int _) rfl (bk_at lr), _, rfl, _, rfl, _, rfl, _, _, _, _, rfl, rfl, SqL.of (S4 _ _ hb), at_of (j := q) (v := .int _) rfl (bk_at lq), (by show 3 ≤ sizeLine; decide), fun t5 ht5 => ?_⟩
    have W5 : Same K4 (upd K4 t5 (.tup [V.int (bk ns (r : Nat)), V.int ((p : Int)), V.int (bk ns (q : Nat))])) := new_same ht5
    have f5 : (upd K4 t5 (.tup [V.int (bk ns (r : Nat)), V.int ((p : Int)), V.int (bk ns (q : Nat))])) t5 = some (.tup (([bk ns (r : Nat), (p : Int), bk ns (q : Nat)] : List Int).map V.int)) := upd_same
    have S5 := S4.trans W5
    generalize upd K4 t5 (.tup [V.int (bk ns (r : Nat)), V.int ((p : Int)), V.int (bk ns (q : Nat))]) = K5 at W5 f5 S5
    refine ⟨_, rfl, _, rfl, _, _, _, _, rfl, rfl, SqL.of (S5 _ _ hb), at_of (j := q) (v := .int _) rfl (bk_at lq), _, rfl, _, rfl, _, _, _, _, rfl, rfl, SqL.of (S5 _ _ hb), at_of (j := p) (v := .int _) rfl (bk_at lp), _, rfl, _, rfl, _, _, _, _, rfl, rfl, SqL.of (S5 _ _ hb), at_of (j := r) (v := .int _) rfl (bk_at lr), (by show 3 ≤ sizeLine; decide), fun t6 ht6 => ?_⟩
    have W6 : Same K5 (upd K5 t6 (.tup [V.int (bk ns (q : Nat)), V.int (bk ns (p : Nat)), V.int (bk ns (r : Nat))])) := new_same ht6
    have f6 : (upd K5 t6 (.tup [V.int (bk ns (q : Nat)), V.int (bk ns (p : Nat)), V.int (bk ns (r : Nat))])) t6 = some (.tup (([bk ns (q : Nat), bk ns (p : Nat), bk ns (r : Nat)] : List Int).map V.int)) := upd_same
    have S6 := S5.trans W6
    generalize upd K5 t6 (.tup [V.int (bk ns (q : Nat)), V.int (bk ns (p : Nat)), V.int (bk ns (r : Nat))]) = K6 at W6 f6 S6
    refine ⟨(by show 6 ≤ sizeLine; decide), fun l hl => ?_⟩
    have W7 : Same K6 (upd K6 l (.lst [.ref t1, .ref t2, .ref t3, .ref t4, .ref t5, .ref t6])) := new_same hl
    have hl0 : H l = none := same_free S6 hl
    have V6 := W7
    have V5 := W6.trans V6
    have V4 := W5.trans V5
    have V3 := W4.trans V4
    have V2 := W3.trans V3
    have V1 := W2.trans V2
    refine k _ l (S6.trans W7) hl0 ⟨[t1, t2, t3, t4, t5, t6], upd_same, rfl, fun j a ts q1 q2 => ?_⟩
    match j, q1, q2 with
    | 0, q1, q2 =>
      obtain rfl : t1 = a := Option.some.inj q1
      obtain rfl : ([(p : Int), (q : Int), (r : Int)] : List Int) = ts := Option.some.inj q2
      exact V1 _ _ f1
    | 1, q1, q2 =>
      obtain rfl : t2 = a := Option.some.inj q1
      obtain rfl : ([(r : Int), bk ns (q : Nat), (p : Int)] : List Int) = ts := Option.some.inj q2
      exact V2 _ _ f2
    | 2, q1, q2 =>
      obtain rfl : t3 = a := Option.some.inj q1
      obtain rfl : ([bk ns (p : Nat), (r : Int), (q : Int)] : List Int) = ts := Option.some.inj q2
      exact V3 _ _ f3
    | 3, q1, q2 =>
      obtain rfl : t4 = a := Option.some.inj q1
      obtain rfl : ([(q : Int), bk ns (r : Nat), bk ns (p : Nat)] : List Int) = ts := Option.some.inj q2
      exact V4 _ _ f4
    | 4, q1, q2 =>
      obtain rfl : t5 = a := Option.some.inj q1
      obtain rfl : ([bk ns (r : Nat), (p : Int), bk ns (q : Nat)] : List Int) = ts := Option.some.inj q2
      exact V5 _ _ f5
    | 5, q1, q2 =>
      obtain rfl : t6 = a := Option.some.inj q1
      obtain rfl : ([bk ns (q : Nat), bk ns (p : Nat), bk ns (r : Nat)] : List Int) = ts := Option.some.inj q2
      exact V6 _ _ f6
    | j + 6, q1, q2 => simp at q1
end
end J

set_option Elab.async false
set_option linter.all false
set_option maxRecDepth 100000
set_option maxHeartbeats 8000000
namespace J
open PySem PySem.Spec PyProof.Rows L2
theorem min_isL {ns : List Int} {p q r : Int} {t : List Int} (g : GoodB ns) (ip : InT ns p) (iq : InT ns q) (ir : InT ns r) (ht : t ∈ six ns p q r) (hm : ∀ u ∈ six ns p q r, TS.code 4 t ≤ TS.code 4 u) : decide (t = [p, q, r]) = isL ns [p, q, r] := by
  show _ = (six ns p q r).all fun x => decide (TS.code 4 [p, q, r] ≤ TS.code 4 x)
  have me : [p, q, r] ∈ six ns p q r := by simp [six]
  by_cases h : t = [p, q, r]
  · rw [decide_eq_true h, eq_comm, List.all_eq_true]
    exact fun x hx => decide_eq_true (by rw [← h]; exact hm x hx)
  · rw [decide_eq_false h, eq_comm, List.all_eq_false]
    refine ⟨t, ht, fun z => h ?_⟩
    have z := of_decide_eq_true z
    have z2 := hm _ me
    obtain ⟨l1, b1⟩ := six_bd g ip iq ir t ht
    obtain ⟨l2, b2⟩ := six_bd g ip iq ir _ me
    exact code_inj (by omega) b1 b2 (by omega)
abbrev s_Lclasses : Stmt := top 45
theorem sc_Lclasses : FnScope ["_law_backs_here", "_law_many", "_law_found", "_law_p", "_law_q", "_law_r"] ["_law_backs_here"] (defScope s_Lclasses) := ⟨rfl, rfl, rfl, by decide +kernel, rfl, by decide +kernel, by decide +kernel⟩
def spLC : Sp := fun vs H Q _ => ∃ (b : Addr) (ns : List Int), vs = [.ref b] ∧ H b = some (.lst (ns.map V.int)) ∧ GoodB ns ∧ ∀ (H' : Hp) (z : Addr), Same H H' → H z = none → LstsAt H' z ((A3 ns.length ns.length).filter (isL ns)) → Q (.ref z) H'
section
variable {P : Program} {w : World} {K : PySem.W.Frag} {mg : Str → Option Value} {base : Heap}
theorem ok_Lclasses {f fR : Addr} {fd fdR : FuncData} (F : Fun K "_law_classes" "_law_classes" s_Lclasses f fd) (nl : mg "len" = none) (nr : mg "range" = none) (nm : mg "min" = none)
    (GR : Cal P w K mg base CX0 1 "_law_readings" fR fdR ["_law_backs_here", "_law_p", "_law_q", "_law_r"] spLR) : FnOk P w K mg base CX0 2 f fd ["_law_backs_here"] spLC := by
  refine F.ok sc_Lclasses (fun vs H Q E h => ?_) (fun cdv A outer s H vs Q E hr h => ?_)
  · obtain ⟨b, ns, rfl, _⟩ := h
    rfl
  · obtain ⟨b, ns, rfl, hb, gb, k⟩ := h
    have h4 := gb.hi
    refine ⟨_, (pss_cons 
  (ps_set (i := 1) sc_Lclasses.nd rfl (Or.inl rfl) (pe_callB call_len_seq (by rfl) nl PySem.boot_len (pa_cons (pv 0) pa_nil))) (pss_cons 
  (ps_set (i := 2) sc_Lclasses.nd rfl (Or.inl rfl) (pe_lst pa_nil)) (pss_cons 
  (ps_for PassesOwn.never rfl (pi_range1 (by rfl) nr (pa_cons (pv 1) pa_nil)) (pg_name (i := 3) sc_Lclasses.nd rfl (Or.inl rfl)) (pss_one 
    (ps_for PassesOwn.never rfl (pi_range1 (by rfl) nr (pa_cons (pv 1) pa_nil)) (pg_name (i := 4) sc_Lclasses.nd rfl (Or.inl rfl)) (pss_one 
      (ps_for PassesOwn.never rfl (pi_range1 (by rfl) nr (pa_cons (pv 1) pa_nil)) (pg_name (i := 5) sc_Lclasses.nd rfl (Or.inl rfl)) (pss_one 
        (ps_if (pt_cmpR (r := rEqD K) (op_eqD hr.units) (pe_callB (r := rMinT) (cr_minT rfl hr.units) (by rfl) nm (by decide +kernel) (pa_cons (pcal GR hr pass0 (pa_cons (pv 0) (pa_cons (pv 3) (pa_cons (pv 4) (pa_cons (pv 5) pa_nil))))) pa_nil)) (pe_tup (pa_cons (pv 3) (pa_cons (pv 4) (pa_cons (pv 5) pa_nil)))) (nomark _)) (pss_one 
          (ps_expr (pe_bm PySem.F.plainAttrs_list PySem.F.slot_list_append PySem.F.type_list_append mt_append (pv 2) (pa_cons (pe_tup (pa_cons (pv 3) (pa_cons (pv 4) (pa_cons (pv 5) pa_nil)))) pa_nil)))) pss_nil))))))) (pss_one 
  (ps_ret (pv 2)))))), ?_⟩
    have lm : (ns.map V.int).length = ns.length := List.length_map _
    refine ⟨_, rfl, b, _, rfl, .inl (SqL.of hb), ?_⟩
    rw [lm]
    refine ⟨(by show 0 ≤ sizeLine; decide), fun D hD => ?_⟩
    refine ⟨_, rfl, (ns.length : Nat), rfl, by omega, by omega, for_range (lo := 0) (n := ns.length) (fun i σ H' => ∃ v3 v4 v5 : Option V, σ = [some (.ref b), some (.int (ns.length : Nat)), some (.ref D), v3, v4, v5] ∧ Gro H H' D ((A3 ns.length i).filter (isL ns)))
      ⟨none, none, none, rfl, Gro.nil hD⟩ ?_ ?_⟩
    · rintro i σ H2 hi ⟨v3, v4, v5, rfl, G2⟩
      refine ⟨_, rfl, (ns.length : Nat), rfl, by omega, by omega, for_range (lo := 0) (n := ns.length) (fun j σ H' => ∃ v4 v5 : Option V, σ = [some (.ref b), some (.int (ns.length : Nat)), some (.ref D), some (.int (0 + (i : Nat))), v4, v5] ∧ Gro H H' D ((A3 ns.length i ++ A2 ns.length i j).filter (isL ns)))
        ⟨_, _, rfl, by unfold A2; simpa using G2⟩ ?_ ?_⟩
      · rintro j σ H3 hj ⟨v4, v5, rfl, G3⟩
        refine ⟨_, rfl, (ns.length : Nat), rfl, by omega, by omega, for_range (lo := 0) (n := ns.length) (fun l σ H' => ∃ v5 : Option V, σ = [some (.ref b), some (.int (ns.length : Nat)), some (.ref D), some (.int (0 + (i : Nat))), some (.int (0 + (j : Nat))), v5] ∧ Gro H H' D ((A3 ns.length i ++ A2 ns.length i j ++ A1 i j l).filter (isL ns)))
          ⟨_, rfl, by unfold A1; simpa using G3⟩ ?_ ?_⟩
        · rintro l σ H4 hl ⟨v5, rfl, G4⟩
          have ln := A_len ns.length h4 i hi j hj l hl
          have ip : InT ns (i : Int) := ⟨by omega, by omega⟩
          have iq : InT ns (j : Int) := ⟨by omega, by omega⟩
          have ir : InT ns (l : Int) := ⟨by omega, by omega⟩
          have nxt : (A3 ns.length i ++ A2 ns.length i j ++ A1 i j (l + 1)).filter (isL ns) = (A3 ns.length i ++ A2 ns.length i j ++ A1 i j l).filter (isL ns) ++ (if isL ns [(i : Int), (j : Int), (l : Int)] = true then [[(i : Int), (j : Int), (l : Int)]] else []) := by
            rw [A1_succ, ← List.append_assoc, List.filter_append]
            by_cases c : isL ns [(i : Int), (j : Int), (l : Int)] = true
            · rw [if_pos c, List.filter_cons_of_pos c]
              rfl
            · rw [if_neg c, List.filter_cons_of_neg c]
              rfl
          refine ⟨_, rfl, _, rfl, _, rfl, _, rfl, b, ns, i, j, l, (by simp), G4.S _ _ hb, gb, hi, hj, hl, fun H5 z S5 nz Lz => ?_⟩
          refine ⟨z, _, rfl, Lz, (by show 0 < 6; decide), fun t ht => six_bd gb ip iq ir t ht, fun zt t mt hmin et => ?_⟩
          refine ⟨_, rfl, _, rfl, _, rfl, (by show 3 ≤ sizeLine; decide), fun y hy => ?_⟩
          have e3 : ([(i : Int), (j : Int), (l : Int)].map V.int) = [V.int (0 + (i : Nat)), V.int (0 + (j : Nat)), V.int (0 + (l : Nat))] := by simp
          have S6 : Same H5 (upd H5 y (.tup [V.int (0 + (i : Nat)), V.int (0 + (j : Nat)), V.int (0 + (l : Nat))])) := new_same hy
          have ey : (upd H5 y (.tup [V.int (0 + (i : Nat)), V.int (0 + (j : Nat)), V.int (0 + (l : Nat))])) y = some (.tup ([(i : Int), (j : Int), (l : Int)].map V.int)) := by rw [upd_same, e3]
          generalize upd H5 y (.tup [V.int (0 + (i : Nat)), V.int (0 + (j : Nat)), V.int (0 + (l : Nat))]) = H6 at S6 ey
          have G6 := G4.keep (S5.trans S6)
          refine ⟨_, _, .tup (SqT.of (S6 _ _ et)) (dp_ints _), .tup (SqT.of ey) (dp_ints _), shaped_ti _, shaped_ti _, _, rfl, ?_⟩
          rw [eqv_ti, min_isL gb ip iq ir mt hmin]
          cases hc : isL ns [(i : Int), (j : Int), (l : Int)] with
          | true =>
            obtain ⟨ps, d1, d2, d3⟩ := id G6.d
            refine iteT ⟨_, rfl, .inl ⟨rfl, _, SqL.of d1⟩, _, rfl, _, rfl, _, rfl, (by show 3 ≤ sizeLine; decide), fun u hu => ?_⟩
            obtain ⟨acc, q1, q2, q3⟩ := G6.snoc (ts := [(i : Int), (j : Int), (l : Int)]) hu
            rw [e3] at q1 q3
            have fl := List.length_filter_le (isL ns) (A3 ns.length i ++ A2 ns.length i j ++ A1 i j l)
            refine ⟨D, _, _, rfl, rfl, q1, small1000 (by omega), _, rfl, ?_⟩
            rw [nxt, if_pos hc]
            exact q3
          | false =>
            refine iteF ⟨_, rfl, ?_⟩
            rw [nxt, if_neg (by rw [hc]; decide), List.append_nil]
            exact G6
        · rintro σ H4 ⟨v5, rfl, G4⟩
          refine ⟨_, _, rfl, ?_⟩
          rw [A2_succ, ← List.append_assoc]
          exact G4
      · rintro σ H3 ⟨v4, v5, rfl, G3⟩
        refine ⟨_, _, _, rfl, ?_⟩
        rw [A3_succ]
        exact G3
    · rintro σ H2 ⟨v3, v4, v5, rfl, G2⟩
      exact ⟨_, rfl, k _ D G2.S hD G2.lsts⟩
end
end J

set_option Elab.async false
set_option linter.all false
set_option maxRecDepth 100000
set_option maxHeartbeats 8000000
namespace J
open PySem PySem.Spec PyProof.Rows L2
/-! ### the law's world: a table three deep, changed in place -/
def rIxS (K : PySem.W.Frag) : V → V → Hp → VK → Prop := fun x y H Q => rIxL K x y H Q ∨ rIxT K x y H Q
theorem ix_seq {X : Cx} : IxR X (rIxS X.K) := by
  intro e1 e2 pins s σ H x y v u Q I rx ry h hs
  rcases h with h | h
  · exact ix_list e1 e2 pins s σ H x y v u Q I rx ry h hs
  · exact ix_tup e1 e2 pins s σ H x y v u Q I rx ry h hs
abbrev boolsL (n : Nat) (g : Nat → Bool) : List V := (List.range n).map fun r => V.bl (g r)
abbrev refsL (n : Nat) (g : Nat → Addr) : List V := (List.range n).map fun r => V.ref (g r)
structure W3 (H0 H : Hp) (z : Addr) (n : Nat) (po : Nat → Addr) (ro : Nat → Nat → Addr) (f : Nat → Nat → Nat → Bool) : Prop where
  S : Same H0 H
  fz : H0 z = none
  o : H z = some (.lst (refsL n po))
  m : ∀ p, p < n → H (po p) = some (.lst (refsL n (ro p)))
  r : ∀ p q, p < n → q < n → H (ro p q) = some (.lst (boolsL n (f p q)))
  inj : ∀ p q p' q', p < n → q < n → p' < n → q' < n → ro p q = ro p' q' → p = p' ∧ q = q'
  fr : ∀ p q, p < n → q < n → H0 (ro p q) = none
theorem W3.keep {H0 H H' : Hp} {z : Addr} {n : Nat} {po : Nat → Addr} {ro : Nat → Nat → Addr} {f : Nat → Nat → Nat → Bool} (w : W3 H0 H z n po ro f) (S : Same H H') : W3 H0 H' z n po ro f :=
  ⟨w.S.trans S, w.fz, S _ _ w.o, fun p hp => S _ _ (w.m p hp), fun p q hp hq => S _ _ (w.r p q hp hq), w.inj, w.fr⟩
theorem W3.congr {H0 H : Hp} {z : Addr} {n : Nat} {po : Nat → Addr} {ro : Nat → Nat → Addr} {f g : Nat → Nat → Nat → Bool} (w : W3 H0 H z n po ro f) (h : ∀ p q r, p < n → q < n → r < n → f p q r = g p q r) : W3 H0 H z n po ro g :=
  ⟨w.S, w.fz, w.o, w.m, fun p q hp hq => by
    rw [w.r p q hp hq]
    congr 2
    exact List.map_congr_left fun r hr => by rw [h p q r hp hq (List.mem_range.mp hr)], w.inj, w.fr⟩
theorem refs_at {n : Nat} {g : Nat → Addr} {k : Nat} (h : k < n) : (refsL n g)[k]? = some (.ref (g k)) := by
  rw [List.getElem?_map, List.getElem?_range h]
  rfl
theorem bools_at {n : Nat} {g : Nat → Bool} {k : Nat} (h : k < n) : (boolsL n g)[k]? = some (.bl (g k)) := by
  rw [List.getElem?_map, List.getElem?_range h]
  rfl
theorem bools_set {n : Nat} {g : Nat → Bool} {c : Nat} : (boolsL n g).set c (.bl false) = boolsL n (fun r => g r && !decide (r = c)) := by
  apply List.ext_getElem?
  intro k
  rw [List.getElem?_set]
  by_cases hk : k < n
  · rw [bools_at hk, bools_at hk]
    by_cases e : c = k
    · rw [if_pos e, if_pos (by rw [List.length_map, List.length_range]; omega)]
      simp [e]
    · rw [if_neg e]
      have : ¬ k = c := fun z => e z.symm
      simp [this]
  · have h1 : (boolsL n g)[k]? = none := List.getElem?_eq_none (by rw [List.length_map, List.length_range]; omega)
    have h2 : (boolsL n fun r => g r && !decide (r = c))[k]? = none := List.getElem?_eq_none (by rw [List.length_map, List.length_range]; omega)
    rw [h1, h2]
    by_cases e : c = k
    · rw [if_pos e, if_neg (by rw [List.length_map, List.length_range]; omega)]
    · rw [if_neg e]
theorem refs_ne {n : Nat} {g : Nat → Addr} {h : Nat → Bool} (hn : 0 < n) : (refsL n g) ≠ boolsL n h := fun e => by
  have e1 := congrArg (fun l : List V => l[0]?) e
  simp only [refs_at hn, bools_at hn] at e1
  injection e1 with e1
  cases e1
theorem W3.set {H0 H : Hp} {z : Addr} {n : Nat} {po : Nat → Addr} {ro : Nat → Nat → Addr} {f : Nat → Nat → Nat → Bool} {a b c : Nat} (w : W3 H0 H z n po ro f) (ha : a < n) (hb : b < n) :
    W3 H0 (upd H (ro a b) (.lst ((boolsL n (f a b)).set c (.bl false)))) z n po ro (fun p q r => f p q r && !decide (p = a ∧ q = b ∧ r = c)) := by
  have hn : 0 < n := by omega
  have er := w.r a b ha hb
  refine ⟨fun y o e => ?_, w.fz, ?_, fun p hp => ?_, fun p q hp hq => ?_, w.inj, w.fr⟩
  · rw [upd_ne (fun q => by rw [q, w.fr a b ha hb] at e; cases e)]
    exact w.S _ _ e
  · rw [upd_ne (fun q => by rw [← q, w.o] at er; injection er with er; injection er with er; exact refs_ne hn er)]
    exact w.o
  · rw [upd_ne (fun q => by rw [← q, w.m p hp] at er; injection er with er; injection er with er; exact refs_ne hn er)]
    exact w.m p hp
  · by_cases e : p = a ∧ q = b
    · obtain ⟨rfl, rfl⟩ := e
      rw [upd_same, bools_set]
      congr 2
      exact List.map_congr_left fun r _ => by simp
    · rw [upd_ne (fun z => e (w.inj p q a b hp hq ha hb z)), w.r p q hp hq]
      congr 2
      refine List.map_congr_left fun r _ => ?_
      have : ¬ (p = a ∧ q = b ∧ r = c) := fun z => e ⟨z.1, z.2.1⟩
      simp [this]
/-- what is let where L is barred -/
def fB (L : List (List Int)) (p q r : Nat) : Bool := !decide ([(p : Int), (q : Int), (r : Int)] ∈ L)
abbrev s_Llet : Stmt := top 46
theorem sc_Llet : FnScope ["_law_backs_here", "_law_classes_here", "_law_many", "_law_let_here", "_law_three", "_law_reading", "_law_row", "_law_p", "_law_q", "_law_r"] ["_law_backs_here", "_law_classes_here"] (defScope s_Llet) := ⟨rfl, rfl, rfl, by decide +kernel, rfl, by decide +kernel, by decide +kernel⟩
def spLL : Sp := fun vs H Q _ => ∃ (b c : Addr) (ns : List Int) (xs : List V) (ts : List (List Int)), vs = [.ref b, .ref c] ∧ H b = some (.lst (ns.map V.int)) ∧ GoodB ns ∧ H c = some (.lst xs) ∧ ThrAt H xs ts ∧ (∀ t ∈ ts, t ∈ A3 ns.length ns.length) ∧
  ∀ (H' : Hp) (z : Addr) (po : Nat → Addr) (ro : Nat → Nat → Addr), W3 H H' z ns.length po ro (fB (brd ns ts)) → Q (.ref z) H'
/-- rows while they are put one behind another -/
structure GroF (H1 H : Hp) (D : Addr) (i : Nat) (adr : Nat → Addr) (R : Hp → Nat → Addr → Prop) : Prop where
  S : Same H1 H
  f : H1 D = none
  d : H D = some (.lst (refsL i adr))
  r : ∀ k, k < i → R H k (adr k)
  fr : ∀ k, k < i → H1 (adr k) = none
  ne : ∀ k, k < i → adr k ≠ D
  inj : ∀ k k', k < i → k' < i → adr k = adr k' → k = k'
theorem GroF.nil {H1 : Hp} {D : Addr} {R : Hp → Nat → Addr → Prop} {adr : Nat → Addr} (hD : H1 D = none) : GroF H1 (upd H1 D (.lst [])) D 0 adr R :=
  ⟨new_same hD, hD, upd_same, fun k h => absurd h (Nat.not_lt_zero k), fun k h => absurd h (Nat.not_lt_zero k), fun k h => absurd h (Nat.not_lt_zero k), fun k k' h => absurd h (Nat.not_lt_zero k)⟩
/-- H: before the new thing was made, H': behind it -/
theorem GroF.app {H1 H H' : Hp} {D y : Addr} {i : Nat} {adr : Nat → Addr} {R : Hp → Nat → Addr → Prop} (G : GroF H1 H D i adr R) (S : Same H H') (hy : H y = none) (hR : R (upd H' D (.lst (refsL i adr ++ [.ref y]))) i y)
    (m : ∀ k a, k < i → R H k a → R (upd H' D (.lst (refsL i adr ++ [.ref y]))) k a) (hl : ∀ k, k < i → H (adr k) ≠ none) : ∃ adr', GroF H1 (upd H' D (.lst (refsL i adr ++ [.ref y]))) D (i + 1) adr' R ∧ (∀ k, k < i → adr' k = adr k) ∧ adr' i = y := by
  refine ⟨fun k => if k = i then y else adr k, ⟨fun b o e => ?_, G.f, ?_, fun k hk => ?_, fun k hk => ?_, fun k hk => ?_, fun k k' hk hk' e => ?_⟩, fun k hk => if_neg (by omega), if_pos rfl⟩
  · rw [upd_ne (ne_of_none e G.f)]
    exact S _ _ (G.S _ _ e)
  · rw [upd_same]
    congr 2
    show _ = List.map _ _
    rw [List.range_succ, List.map_append]
    congr 1
    · refine List.map_congr_left fun k hk => ?_
      have := List.mem_range.mp hk
      show V.ref (adr k) = V.ref (if k = i then y else adr k)
      rw [if_neg (by omega)]
    · simp
  · by_cases c : k = i
    · subst c
      rw [if_pos rfl]
      exact hR
    · rw [if_neg c]
      exact m k _ (by omega) (G.r k (by omega))
  · by_cases c : k = i
    · rw [if_pos c]
      exact same_free G.S hy
    · rw [if_neg c]
      exact G.fr k (by omega)
  · by_cases c : k = i
    · rw [if_pos c]
      exact (ne_of_none G.d hy).symm
    · rw [if_neg c]
      exact G.ne k (by omega)
  · by_cases c : k = i
    · by_cases c' : k' = i
      · omega
      · rw [if_pos c, if_neg c'] at e
        exact absurd hy (by rw [e]; exact hl k' (by omega))
    · by_cases c' : k' = i
      · rw [if_neg c, if_pos c'] at e
        exact absurd hy (by rw [← e]; exact hl k (by omega))
      · rw [if_neg c, if_neg c'] at e
        exact G.inj k k' (by omega) (by omega) e
/-- a row of rows -/
def RowsT (n : Nat) (H1 : Hp) (H : Hp) (a : Addr) (ro : Nat → Addr) : Prop := H a = some (.lst (refsL n ro)) ∧ (∀ q, q < n → H (ro q) = some (.lst (boolsL n fun _ => true))) ∧ (∀ q, q < n → H1 (ro q) = none) ∧ ∀ q q', q < n → q' < n → ro q = ro q' → q = q'
end J

set_option Elab.async false
set_option linter.all false
set_option maxRecDepth 100000
set_option maxHeartbeats 8000000
namespace J
open PySem PySem.Spec PyProof.Rows L2
theorem refs_ne2 {i n : Nat} {g : Nat → Addr} {h : Nat → Bool} (hi : 0 < i) : (refsL i g) ≠ boolsL n h := fun e => by
  have e1 := congrArg (fun l : List V => l[0]?) e
  simp only [refs_at hi] at e1
  by_cases c : 0 < n
  · rw [bools_at c] at e1
    injection e1 with e1
    cases e1
  · rw [List.getElem?_eq_none (by rw [List.length_map, List.length_range]; omega)] at e1
    cases e1
abbrev trueL (n : Nat) : List V := boolsL n fun _ => true
abbrev TrueR (n : Nat) : Hp → Nat → Addr → Prop := fun H _ a => H a = some (.lst (trueL n))
structure OutI (n : Nat) (H1 H : Hp) (D : Addr) (i : Nat) (po : Nat → Addr) (ro : Nat → Nat → Addr) : Prop where
  S : Same H1 H
  f : H1 D = none
  d : H D = some (.lst (refsL i po))
  m : ∀ p, p < i → H (po p) = some (.lst (refsL n (ro p)))
  r : ∀ p q, p < i → q < n → H (ro p q) = some (.lst (trueL n))
  fr : ∀ p q, p < i → q < n → H1 (ro p q) = none
  ne : ∀ p, p < i → po p ≠ D
  ner : ∀ p q, p < i → q < n → ro p q ≠ D
  inj : ∀ p q p' q', p < i → q < n → p' < i → q' < n → ro p q = ro p' q' → p = p' ∧ q = q'
theorem OutI.app {n : Nat} {H1 H2 H3 : Hp} {D D2 : Addr} {i : Nat} {po : Nat → Addr} {ro : Nat → Nat → Addr} {adr : Nat → Addr} (O : OutI n H1 H2 D i po ro) (G : GroF H2 H3 D2 n adr (TrueR n)) :
    OutI n H1 (upd H3 D (.lst (refsL i po ++ [.ref D2]))) D (i + 1) (fun p => if p = i then D2 else po p) (fun p => if p = i then adr else ro p) := by
  have nD : D2 ≠ D := (ne_of_none O.d G.f).symm
  have nA : ∀ q, q < n → adr q ≠ D := fun q hq => (ne_of_none O.d (G.fr q hq)).symm
  refine ⟨fun b o e => ?_, O.f, ?_, fun p hp => ?_, fun p q hp hq => ?_, fun p q hp hq => ?_, fun p hp => ?_, fun p q hp hq => ?_, fun p q p' q' hp hq hp' hq' e => ?_⟩
  · rw [upd_ne (ne_of_none e O.f)]
    exact G.S _ _ (O.S _ _ e)
  · rw [upd_same]
    congr 2
    show _ = List.map _ _
    rw [List.range_succ, List.map_append]
    congr 1
    · refine List.map_congr_left fun k hk => ?_
      have := List.mem_range.mp hk
      show V.ref (po k) = V.ref (if k = i then D2 else po k)
      rw [if_neg (by omega)]
    · simp
  · by_cases c : p = i
    · simp only [if_pos c]
      rw [upd_ne nD]
      exact G.d
    · simp only [if_neg c]
      rw [upd_ne (O.ne p (by omega))]
      exact G.S _ _ (O.m p (by omega))
  · by_cases c : p = i
    · simp only [if_pos c]
      rw [upd_ne (nA q hq)]
      exact G.r q hq
    · simp only [if_neg c]
      rw [upd_ne (O.ner p q (by omega) hq)]
      exact G.S _ _ (O.r p q (by omega) hq)
  · by_cases c : p = i
    · simp only [if_pos c]
      exact same_free O.S (G.fr q hq)
    · simp only [if_neg c]
      exact O.fr p q (by omega) hq
  · by_cases c : p = i
    · simp only [if_pos c]
      exact nD
    · simp only [if_neg c]
      exact O.ne p (by omega)
  · by_cases c : p = i
    · simp only [if_pos c]
      exact nA q hq
    · simp only [if_neg c]
      exact O.ner p q (by omega) hq
  · by_cases c : p = i
    · by_cases c' : p' = i
      · simp only [if_pos c, if_pos c'] at e
        exact ⟨by omega, G.inj q q' hq hq' e⟩
      · simp only [if_pos c, if_neg c'] at e
        have := O.r p' q' (by omega) hq'
        rw [← e, G.fr q hq] at this
        cases this
    · by_cases c' : p' = i
      · simp only [if_neg c, if_pos c'] at e
        have := O.r p q (by omega) hq
        rw [e, G.fr q' hq'] at this
        cases this
      · simp only [if_neg c, if_neg c'] at e
        exact O.inj p q p' q' (by omega) hq (by omega) hq' e
theorem inT_nat {ns : List Int} {t : Int} (h : InT ns t) : ∃ k : Nat, t = (k : Int) ∧ k < ns.length := ⟨t.toNat, by have := h.1; omega, by have := h.1; have := h.2; omega⟩
theorem fB_any {ns : List Int} {ts : List (List Int)} (g : GoodB ns) (ha : ∀ u ∈ ts, u ∈ A3 ns.length ns.length) (p q r : Nat) : (!(ts.any (inR ns [(p : Int), (q : Int), (r : Int)]))) = fB (brd ns ts) p q r := by
  unfold fB
  congr 1
  rw [Bool.eq_iff_iff, decide_eq_true_iff, brd_mem g ha, List.any_eq_true]
section
variable {P : Program} {w : World} {K : PySem.W.Frag} {mg : Str → Option Value} {base : Heap}
theorem ok_Llet {f fR : Addr} {fd fdR : FuncData} (F : Fun K "_law_let" "_law_let" s_Llet f fd) (nl : mg "len" = none) (nr : mg "range" = none)
    (GR : Cal P w K mg base CX0 1 "_law_readings" fR fdR ["_law_backs_here", "_law_p", "_law_q", "_law_r"] spLR) : FnOk P w K mg base CX0 2 f fd ["_law_backs_here", "_law_classes_here"] spLL := by
  refine F.ok sc_Llet (fun vs H Q E h => ?_) (fun cdv A outer s H vs Q E hr h => ?_)
  · obtain ⟨b, c, ns, xs, ts, rfl, _⟩ := h
    rfl
  · obtain ⟨b, c, ns, xs, ts, rfl, hb, gb, hc, thr, hA, k⟩ := h
    have h4 := gb.hi
    have hn : 0 < ns.length := by have := gb.lo; omega
    refine ⟨_, (pss_cons 
  (ps_set (i := 2) sc_Llet.nd rfl (Or.inr rfl) (pe_callB call_len_seq (by rfl) nl PySem.boot_len (pa_cons (pv 0) pa_nil))) (pss_cons 
  (ps_setLc (i := 3) (own := [("_law_p", 7)]) (g := gName 7) rfl sc_Llet.nd rfl rfl (sw_true rfl rfl rfl (by decide +kernel)) (pi_range1 (by rfl) nr (pa_cons (pv 2) pa_nil)) (blkOk_by (own := [("_law_p", 7)]) (N := ["_law_backs_here", "_law_classes_here", "_law_many", "_law_let_here", "_law_three", "_law_reading", "_law_row", "_law_p", "_law_q", "_law_r"]) (sc := defScope s_Llet) (by decide +kernel)) (fun _ _ _ _ _ => pg_name (i := 7) sc_Llet.nd rfl (Or.inl rfl)) (fun _ _ _ _ _ => pts_nil) (fun _ _ _ _ _ => (pe_lc (own := [("_law_q", 8)]) (g := gName 8) (by rfl) sc_Llet.nd (pi_range1 (by rfl) nr (pa_cons (pv 2) pa_nil)) (blkOk_by (own := [("_law_q", 8)]) (N := ["_law_backs_here", "_law_classes_here", "_law_many", "_law_let_here", "_law_three", "_law_reading", "_law_row", "_law_p", "_law_q", "_law_r"]) (by rfl)) (fun _ _ _ _ _ => pg_name (i := 8) sc_Llet.nd rfl (Or.inl rfl)) (fun _ _ _ _ _ => pts_nil) (fun _ _ _ _ _ => (pe_lc (own := [("_law_r", 9)]) (g := gName 9) (by rfl) sc_Llet.nd (pi_range1 (by rfl) nr (pa_cons (pv 2) pa_nil)) (blkOk_by (own := [("_law_r", 9)]) (N := ["_law_backs_here", "_law_classes_here", "_law_many", "_law_let_here", "_law_three", "_law_reading", "_law_row", "_law_p", "_law_q", "_law_r"]) (by rfl)) (fun _ _ _ _ _ => pg_name (i := 9) sc_Llet.nd rfl (Or.inl rfl)) (fun _ _ _ _ _ => pts_nil) (fun _ _ _ _ _ => pe_bl)))))) (pss_cons 
  (ps_for PassesOwn.never rfl (pi_list (pv 1)) (pg_name (i := 4) sc_Llet.nd rfl (Or.inl rfl)) (pss_one 
    (ps_for PassesOwn.never rfl (pi_list (pcal GR hr pass0 (pa_cons (pv 0) (pa_cons (pe_ix (r := rIxS K) ix_seq (pv 4) pe_int (fun _ _ => rfl)) (pa_cons (pe_ix (r := rIxS K) ix_seq (pv 4) pe_int (fun _ _ => rfl)) (pa_cons (pe_ix (r := rIxS K) ix_seq (pv 4) pe_int (fun _ _ => rfl)) pa_nil)))))) (pg_name (i := 5) sc_Llet.nd rfl (Or.inl rfl)) (pss_cons 
      (ps_set (i := 6) sc_Llet.nd rfl (Or.inl rfl) (pe_ix ix_list (pe_ix ix_list (pv 3) (pe_ix ix_tup (pv 5) pe_int (fun _ _ => rfl)) (fun _ _ => rfl)) (pe_ix ix_tup (pv 5) pe_int (fun _ _ => rfl)) (fun _ _ => rfl))) (pss_one 
      (ps_asg pe_bl (pg_sub (pv 6) (pe_ix ix_tup (pv 5) pe_int (fun _ _ => rfl)) set_list))))))) (pss_one 
  (ps_ret (pv 3)))))), ?_⟩
    have lm : (ns.map V.int).length = ns.length := List.length_map _
    refine ⟨_, rfl, b, _, rfl, .inl (SqL.of hb), ?_⟩
    rw [lm]
    refine ⟨_, rfl, (ns.length : Nat), rfl, by omega, by omega, fun D hD => ?_⟩
    refine lc_range (lo := 0) (n := ns.length) (fun i H2 => ∃ po ro, OutI ns.length H H2 D i po ro)
      ⟨fun _ => 0, fun _ _ => 0, new_same hD, hD, upd_same, fun p h => absurd h (Nat.not_lt_zero p), fun p q h => absurd h (Nat.not_lt_zero p), fun p q h => absurd h (Nat.not_lt_zero p), fun p h => absurd h (Nat.not_lt_zero p), fun p q h => absurd h (Nat.not_lt_zero p), fun p q p' q' h => absurd h (Nat.not_lt_zero p)⟩ ?_ ?_
    · rintro i H2 hi ⟨po, ro, O⟩
      refine ⟨rfl, yesT ?_⟩
      refine ⟨_, rfl, (ns.length : Nat), rfl, by omega, by omega, fun D2 hD2 => ?_⟩
      refine lc_range (lo := 0) (n := ns.length) (fun j H3 => ∃ adr, GroF H2 H3 D2 j adr (TrueR ns.length)) ⟨fun _ => 0, GroF.nil hD2⟩ ?_ ?_
      · rintro j H3 hj ⟨adr, G⟩
        refine ⟨rfl, yesT ?_⟩
        refine ⟨_, rfl, (ns.length : Nat), rfl, by omega, by omega, fun D3 hD3 => ?_⟩
        refine lc_range (lo := 0) (n := ns.length) (fun l H4 => Same H3 H4 ∧ H3 D3 = none ∧ H4 D3 = some (.lst (trueL l))) ⟨new_same hD3, hD3, upd_same⟩ ?_ ?_
        · rintro l H4 hl ⟨S4, n4, e4⟩
          refine ⟨rfl, yesT ⟨_, e4, ?_, fun b o e => ?_, n4, ?_⟩⟩
          · rw [List.length_map, List.length_range]
            exact small1000 (by omega)
          · rw [upd_ne (ne_of_none e n4)]
            exact S4 _ _ e
          · rw [upd_same]
            show _ = some (HO.lst (List.map _ _))
            rw [List.range_succ, List.map_append]
            rfl
        · rintro H4 ⟨S4, n4, e4⟩
          have n32 : D3 ≠ D2 := (ne_of_none G.d hD3).symm
          obtain ⟨adr', G', _⟩ := G.app (H' := H4) (y := D3) S4 hD3 (by show upd _ _ _ _ = _; rw [upd_ne n32]; exact e4) (fun k' a hk' e => by
            show upd _ _ _ _ = _
            have e' : H3 a = some (.lst (trueL ns.length)) := e
            rw [upd_ne (fun z => by rw [z, G.d] at e'; injection e' with e'; injection e' with e'; exact refs_ne2 (by omega) e')]
            exact S4 _ _ e') (fun k' hk' z => by rw [G.r k' hk'] at z; cases z)
          refine ⟨refsL j adr, S4 _ _ G.d, ?_, adr', G'⟩
          rw [List.length_map, List.length_range]
          exact small1000 (by omega)
      · rintro H3 ⟨adr, G⟩
        refine ⟨refsL i po, G.S _ _ O.d, ?_, _, _, O.app G⟩
        rw [List.length_map, List.length_range]
        exact small1000 (by omega)
    · rintro H2 ⟨po, ro, O⟩
      have w0 : W3 H H2 D ns.length po ro (fun _ _ _ => true) := ⟨O.S, O.f, O.d, O.m, O.r, O.inj, O.fr⟩
      refine ⟨_, rfl, c, rfl, ⟨_, SqL.of (O.S _ _ hc)⟩, for_list (K := K) (a := c) (xs := xs) (fun i σ H' => ∃ v4 v5 v6 v7 v8 v9 : Option V, σ = [some (.ref b), some (.ref c), some (.int (ns.length : Nat)), some (.ref D), v4, v5, v6, v7, v8, v9] ∧ W3 H H' D ns.length po ro (fun p q r => !((ts.take i).any (inR ns [(p : Int), (q : Int), (r : Int)]))))
        ⟨_, _, _, _, _, _, rfl, w0.congr fun p q r _ _ _ => by simp⟩ (fun i σ H' _ ⟨_, _, _, _, _, _, _, w⟩ => SqL.of (w.S _ _ hc)) ?_ ?_⟩
      · rintro i y σ H3 hy ⟨v4, v5, v6, v7, v8, v9, rfl, w3⟩
        obtain ⟨t, et, sy, isy, sq, iy⟩ := paired_at (thr.keep w3.S) hy
        have mt := hA t (List.mem_of_getElem? et)
        obtain ⟨p, q, r, rfl, ip, iq, ir⟩ := A3_in mt (ns := ns) rfl
        obtain ⟨p, rfl, lp⟩ := inT_nat ip
        obtain ⟨q, rfl, lq⟩ := inT_nat iq
        obtain ⟨r, rfl, lr⟩ := inT_nat ir
        obtain ⟨zy, rfl⟩ : ∃ zy, y = .ref zy := by
          cases sy with
          | sc u => cases sq
          | dk => cases sq
          | lst us => obtain ⟨zy, e, _⟩ := isy; exact ⟨zy, e⟩
          | tup us => obtain ⟨zy, e, _⟩ := isy; exact ⟨zy, e⟩
        have sqy := is_seq (K := K) isy iy sq
        have ixy : ∀ (j : Nat) (v : V) (Q' : VK), (([(p : Int), (q : Int), (r : Int)] : List Int).map V.int)[j]? = some v → Q' v H3 → rIxS K (.ref zy) (.int (j : Nat)) H3 Q' := by
          intro j v Q' ej kq
          rcases sqy with h | h
          · exact .inl ⟨_, _, _, _, rfl, rfl, h, at_of (j := j) (v := v) rfl ej, kq⟩
          · exact .inr ⟨_, _, _, _, rfl, rfl, h, at_of (j := j) (v := v) rfl ej, kq⟩
        refine ⟨_, rfl, _, rfl, ixy 0 _ _ rfl ⟨_, rfl, ixy 1 _ _ rfl ⟨_, rfl, ixy 2 _ _ rfl ⟨b, ns, p, q, r, rfl, w3.S _ _ hb, gb, lp, lq, lr, fun H4 zr S4 nzr Lz => ?_⟩⟩⟩⟩
        obtain ⟨rs, d1, d2, d3⟩ := id Lz
        have w4 := w3.keep S4
        have zro : ∀ a b', a < ns.length → b' < ns.length → zr ≠ ro a b' := fun a b' ha hb' z => by
          have := w3.r a b' ha hb'
          rw [← z, nzr] at this
          cases this
        refine ⟨zr, rfl, ⟨_, SqL.of d1⟩, for_list (K := K) (a := zr) (xs := rs.map V.ref) (fun j σ H' => ∃ v5 v6 v7 v8 v9 : Option V, σ = [some (.ref b), some (.ref c), some (.int (ns.length : Nat)), some (.ref D), some (.ref zy), v5, v6, v7, v8, v9] ∧
            W3 H H' D ns.length po ro (fun a b' c' => !((ts.take i).any (inR ns [(a : Int), (b' : Int), (c' : Int)])) && !decide ([(a : Int), (b' : Int), (c' : Int)] ∈ (six ns p q r).take j)) ∧ ∀ u o, (∀ a b', a < ns.length → b' < ns.length → u ≠ ro a b') → H4 u = some o → H' u = some o)
          ⟨_, _, _, _, _, rfl, w4.congr fun a b' c' _ _ _ => by simp, fun u o _ e => e⟩ (fun j σ H' _ ⟨_, _, _, _, _, _, _, fr⟩ => SqL.of (fr _ _ zro d1)) ?_ ?_⟩
        · rintro j y2 σ H5 hy2 ⟨v5, v6, v7, v8, v9, rfl, w5, fr⟩
          rw [List.getElem?_map] at hy2
          cases ea : rs[j]? with
          | none =>
            rw [ea] at hy2
            cases hy2
          | some a0 =>
            rw [ea] at hy2
            obtain rfl : V.ref a0 = y2 := Option.some.inj hy2
            have lj := (List.getElem?_eq_some_iff.mp ea).1
            have el : (six ns p q r)[j]? = some (six ns p q r)[j] := List.getElem?_eq_getElem (by omega)
            generalize (six ns p q r)[j] = t2 at el
            have ha0 := d3 j a0 t2 ea el
            obtain ⟨x1, x2, x3, rfl, i1, i2, i3⟩ := six_in gb ip iq ir t2 (List.mem_of_getElem? el)
            obtain ⟨x1, rfl, l1⟩ := inT_nat i1
            obtain ⟨x2, rfl, l2⟩ := inT_nat i2
            obtain ⟨x3, rfl, l3⟩ := inT_nat i3
            have e0 := fr a0 _ (fun a b' ha hb' z => by
              have := w4.r a b' ha hb'
              rw [← z, ha0] at this
              cases this) ha0
            refine ⟨_, rfl, _, rfl, _, _, _, _, rfl, rfl, SqT.of e0, at_of (j := 0) (v := .int (x1 : Nat)) rfl rfl, _, _, _, _, rfl, rfl, SqL.of w5.o, at_of (j := x1) (v := .ref (po x1)) rfl (refs_at l1), _, rfl, _, _, _, _, rfl, rfl, SqT.of e0, at_of (j := 1) (v := .int (x2 : Nat)) rfl rfl, _, _, _, _, rfl, rfl, SqL.of (w5.m x1 l1), at_of (j := x2) (v := .ref (ro x1 x2)) rfl (refs_at l2), ?_⟩
            refine ⟨_, rfl, _, rfl, _, _, _, _, rfl, rfl, SqT.of e0, at_of (j := 2) (v := .int (x3 : Nat)) rfl rfl, ro x1 x2, _, _, x3, rfl, rfl, w5.r x1 x2 l1 l2, ixN_at (by omega) (by rw [List.length_map, List.length_range]; omega), ?_⟩
            refine ⟨_, _, _, _, _, rfl, (w5.set l1 l2).congr fun a b' c' _ _ _ => ?_, fun u o hu e => ?_⟩
            · rw [List.take_add_one, el, Bool.and_assoc]
              congr 1
              rw [← Bool.not_or]
              congr 1
              rw [Bool.eq_iff_iff, Bool.or_eq_true, decide_eq_true_iff, decide_eq_true_iff, decide_eq_true_iff]
              have cast : ∀ m n : Nat, ((m : Int) = (n : Int)) ↔ m = n := fun m n => by omega
              simp only [List.mem_append, List.mem_cons, List.not_mem_nil, or_false, Option.toList, List.cons.injEq, and_true, cast]
            · rw [upd_ne (hu x1 x2 l1 l2)]
              exact fr u o hu e
        · rintro σ H5 ⟨v5, v6, v7, v8, v9, rfl, w5, fr⟩
          refine ⟨_, _, _, _, _, _, rfl, w5.congr fun a b' c' _ _ _ => ?_⟩
          rw [List.length_map, d2, List.take_length, List.take_add_one, et, List.any_append, ← Bool.not_or]
          simp [inR]
      · rintro σ H3 ⟨v4, v5, v6, v7, v8, v9, rfl, w3⟩
        have e := thr.len
        rw [e, List.take_length] at w3
        exact ⟨_, rfl, k _ D po ro (w3.congr fun p q r _ _ _ => fB_any gb hA p q r)⟩
end
end J

set_option Elab.async false
set_option linter.all false
set_option maxRecDepth 100000
set_option maxHeartbeats 8000000
namespace J
open PySem PySem.Spec PyProof.Rows L2
/-- the world: backs and the table of what is let -/
def WAt (H : Hp) (w : Addr) (ns : List Int) (L : List (List Int)) : Prop := ∃ (b z : Addr) (po : Nat → Addr) (ro : Nat → Nat → Addr), H w = some (.tup [.ref b, .ref z]) ∧ H b = some (.lst (ns.map V.int)) ∧ H z = some (.lst (refsL ns.length po)) ∧
  (∀ p, p < ns.length → H (po p) = some (.lst (refsL ns.length (ro p)))) ∧ ∀ p q, p < ns.length → q < ns.length → H (ro p q) = some (.lst (boolsL ns.length (fB L p q)))
theorem WAt.keep {H H' : Hp} {w : Addr} {ns : List Int} {L : List (List Int)} (h : WAt H w ns L) (S : Same H H') : WAt H' w ns L := by
  obtain ⟨b, z, po, ro, a1, a2, a3, a4, a5⟩ := h
  exact ⟨b, z, po, ro, S _ _ a1, S _ _ a2, S _ _ a3, fun p hp => S _ _ (a4 p hp), fun p q hp hq => S _ _ (a5 p q hp hq)⟩
theorem W3.world {H0 H : Hp} {b z w : Addr} {ns : List Int} {po : Nat → Addr} {ro : Nat → Nat → Addr} {L : List (List Int)} (h : W3 H0 H z ns.length po ro (fB L)) (hb : H b = some (.lst (ns.map V.int))) (hw : H w = some (.tup [.ref b, .ref z])) : WAt H w ns L :=
  ⟨b, z, po, ro, hw, hb, h.o, h.m, h.r⟩
abbrev inL (L : List (List Int)) : List Int → Bool := fun t => decide (t ∈ L)
theorem filt1 {L : List (List Int)} {p q l : Nat} {M : List (List Int)} : (M ++ A1 p q (l + 1)).filter (inL L) = (M ++ A1 p q l).filter (inL L) ++ (if fB L p q l = true then [] else [[(p : Int), (q : Int), (l : Int)]]) := by
  rw [A1_succ, ← List.append_assoc, List.filter_append]
  congr 1
  unfold fB
  by_cases c : [(p : Int), (q : Int), (l : Int)] ∈ L
  · simp [c]
  · simp [c]
abbrev s_Lbarred : Stmt := top 47
theorem sc_Lbarred : FnScope ["_law_world", "_law_many", "_law_found", "_law_p", "_law_q", "_law_r"] ["_law_world"] (defScope s_Lbarred) := ⟨rfl, rfl, rfl, by decide +kernel, rfl, by decide +kernel, by decide +kernel⟩
def spLB : Sp := fun vs H Q _ => ∃ (w : Addr) (ns : List Int) (L : List (List Int)), vs = [.ref w] ∧ WAt H w ns L ∧ GoodB ns ∧ ∀ (H' : Hp) (z : Addr), Same H H' → H z = none → LstsAt H' z ((A3 ns.length ns.length).filter (inL L)) → Q (.ref z) H'
def spLS (C CB : Addr) : Sp := fun vs H Q _ => ∃ (x w : Addr) (ns : List Int) (L : List (List Int)), vs = [.ref x, .ref w] ∧ BookAt C CB H x ns L ∧ WAt H w ns L ∧ GoodB ns ∧ (A3 ns.length ns.length).filter (inL L) = L ∧ ∀ H', Same H H' → Q (.bl true) H'
section
variable {P : Program} {w : World} {K : PySem.W.Frag} {mg : Str → Option Value} {base : Heap}
theorem ok_Lbarred {f : Addr} {fd : FuncData} (F : Fun K "_law_barred" "_law_barred" s_Lbarred f fd) (nl : mg "len" = none) (nr : mg "range" = none) : FnOk P w K mg base CX0 1 f fd ["_law_world"] spLB := by
  refine F.ok sc_Lbarred (fun vs H Q E h => ?_) (fun cdv A outer s H vs Q E hr h => ?_)
  · obtain ⟨w, ns, L, rfl, _⟩ := h
    rfl
  · obtain ⟨w, ns, L, rfl, hW, gb, k⟩ := h
    have h4 := gb.hi
    obtain ⟨b, z, po, ro, a1, a2, a3, a4, a5⟩ := id hW
    refine ⟨_, (pss_cons 
  (ps_set (i := 1) sc_Lbarred.nd rfl (Or.inl rfl) (pe_callB call_len_seq (by rfl) nl PySem.boot_len (pa_cons (pe_ix ix_tup (pv 0) pe_int (fun _ _ => rfl)) pa_nil))) (pss_cons 
  (ps_set (i := 2) sc_Lbarred.nd rfl (Or.inl rfl) (pe_lst pa_nil)) (pss_cons 
  (ps_for PassesOwn.never rfl (pi_range1 (by rfl) nr (pa_cons (pv 1) pa_nil)) (pg_name (i := 3) sc_Lbarred.nd rfl (Or.inr rfl)) (pss_one 
    (ps_for PassesOwn.never rfl (pi_range1 (by rfl) nr (pa_cons (pv 1) pa_nil)) (pg_name (i := 4) sc_Lbarred.nd rfl (Or.inr rfl)) (pss_one 
      (ps_set (i := 2) sc_Lbarred.nd rfl (Or.inl rfl) (pe_op op_cat (pv 2) (pe_lc (own := [("_law_r", 5)]) (g := gName 5) (by rfl) sc_Lbarred.nd (pi_range1 (by rfl) nr (pa_cons (pv 1) pa_nil)) (blkOk_by (own := [("_law_r", 5)]) (N := ["_law_world", "_law_many", "_law_found", "_law_p", "_law_q", "_law_r"]) (sc := defScope s_Lbarred) (by decide +kernel)) (fun _ _ _ _ _ => pg_name (i := 5) sc_Lbarred.nd rfl (Or.inl rfl)) (fun _ _ _ _ _ => pts_one (pt_not (pt_val (pe_ix (r := rIxL K) ix_list (pe_ix (r := rIxL K) ix_list (pe_ix (r := rIxL K) ix_list (pe_ix (r := rIxT K) ix_tup (pv 0) pe_int (fun _ _ => rfl)) (pv 3) (fun _ _ => rfl)) (pv 4) (fun _ _ => rfl)) (pv 5) (fun _ _ => rfl))))) (fun _ _ _ _ _ => (pe_tup (pa_cons (pv 3) (pa_cons (pv 4) (pa_cons (pv 5) pa_nil)))))))))))) (pss_one 
  (ps_ret (pv 2)))))), ?_⟩
    have lm : (ns.map V.int).length = ns.length := List.length_map _
    refine ⟨_, rfl, _, _, _, _, rfl, rfl, SqT.of a1, at_of (j := 0) (v := .ref b) rfl rfl, b, _, rfl, .inl (SqL.of a2), ?_⟩
    rw [lm]
    refine ⟨(by show 0 ≤ sizeLine; decide), fun D hD => ?_⟩
    refine ⟨_, rfl, (ns.length : Nat), rfl, by omega, by omega, for_range (lo := 0) (n := ns.length) (fun i σ H' => ∃ (D : Addr) (v3 v4 v5 : Option V), σ = [some (.ref w), some (.int (ns.length : Nat)), some (.ref D), v3, v4, v5] ∧ H D = none ∧ Same H H' ∧ LstsAt H' D ((A3 ns.length i).filter (inL L)))
      ⟨D, none, none, none, rfl, hD, new_same hD, [], upd_same, rfl, fun j a ts e => by simp at e⟩ ?_ ?_⟩
    · rintro i σ H2 hi ⟨D, v3, v4, v5, rfl, nD, S2, L2⟩
      refine ⟨_, rfl, (ns.length : Nat), rfl, by omega, by omega, for_range (lo := 0) (n := ns.length) (fun j σ H' => ∃ (D : Addr) (v4 v5 : Option V), σ = [some (.ref w), some (.int (ns.length : Nat)), some (.ref D), some (.int (0 + (i : Nat))), v4, v5] ∧ H D = none ∧ Same H H' ∧ LstsAt H' D ((A3 ns.length i ++ A2 ns.length i j).filter (inL L)))
        ⟨D, _, _, rfl, nD, S2, by unfold A2; simpa using L2⟩ ?_ ?_⟩
      · rintro j σ H3 hj ⟨D, v4, v5, rfl, nD, S3, L3⟩
        have c1 := S3 _ _ a1
        have c3 := S3 _ _ a3
        have c4 := S3 _ _ (a4 i hi)
        have c5 := S3 _ _ (a5 i j hi hj)
        refine ⟨_, rfl, _, rfl, (ns.length : Nat), rfl, by omega, by omega, fun D2 hD2 => ?_⟩
        refine lc_range (lo := 0) (n := ns.length) (fun l H4 => Gro H3 H4 D2 ((A1 i j l).filter (inL L))) (by unfold A1; exact Gro.nil hD2) ?_ ?_
        · intro l H4 hl G4
          have ln := A_len ns.length h4 i hi j hj l hl
          refine ⟨rfl, _, rfl, _, _, _, _, rfl, rfl, SqT.of (G4.S _ _ c1), at_of (j := 1) (v := .ref z) rfl rfl, _, rfl, _, _, _, _, rfl, rfl, SqL.of (G4.S _ _ c3), at_of (j := i) (v := .ref (po i)) (by rw [Int.zero_add]) (refs_at hi), _, rfl, _, _, _, _, rfl, rfl, SqL.of (G4.S _ _ c4), at_of (j := j) (v := .ref (ro i j)) (by rw [Int.zero_add]) (refs_at hj), _, rfl, _, _, _, _, rfl, rfl, SqL.of (G4.S _ _ c5), at_of (j := l) (v := .bl (fB L i j l)) (by rw [Int.zero_add]) (bools_at hl), _, rfl, ?_⟩
          have nx := filt1 (L := L) (p := i) (q := j) (l := l) (M := [])
          rw [List.nil_append, List.nil_append] at nx
          cases hc : fB L i j l with
          | true =>
            refine iteF ?_
            rw [nx, if_pos hc, List.append_nil]
            exact G4
          | false =>
            refine iteT ⟨_, rfl, _, rfl, _, rfl, (by show 3 ≤ sizeLine; decide), fun u hu => ?_⟩
            obtain ⟨acc, q1, q2, q3⟩ := G4.snoc (ts := [(i : Int), (j : Int), (l : Int)]) hu
            have e3 : ([(i : Int), (j : Int), (l : Int)].map V.int) = [V.int (0 + (i : Nat)), V.int (0 + (j : Nat)), V.int (0 + (l : Nat))] := by simp
            rw [e3] at q1 q3
            have fl := List.length_filter_le (inL L) (A1 i j l)
            refine ⟨acc, q1, ?_, ?_⟩
            · rw [q2]
              have : (A1 i j l).length ≤ (A3 ns.length i ++ A2 ns.length i j ++ A1 i j l).length := by rw [List.length_append]; omega
              exact small1000 (by omega)
            · rw [nx, if_neg (by rw [hc]; decide)]
              exact q3
        · rintro H4 G4
          obtain ⟨xs1, d1, d2, d3⟩ := L3.keep G4.S
          obtain ⟨xs2, f1, f2, f3⟩ := id G4.d
          have len2 := A_len2 ns.length h4 i hi j hj
          have fl1 := List.length_filter_le (inL L) (A3 ns.length i ++ A2 ns.length i j)
          have fl2 := List.length_filter_le (inL L) (A1 i j ns.length)
          refine ⟨D, D2, _, _, rfl, rfl, d1, f1, ?_, fun D3 hD3 => ?_⟩
          · rw [List.length_map, List.length_map, d2, f2, sizeLine_eq]
            omega
          · refine ⟨D3, _, _, rfl, same_free S3 (same_free G4.S hD3), (S3.trans G4.S).trans (new_same hD3), ?_⟩
            have e : (A3 ns.length i ++ A2 ns.length i (j + 1)).filter (inL L) = (A3 ns.length i ++ A2 ns.length i j).filter (inL L) ++ (A1 i j ns.length).filter (inL L) := by
              rw [A2_succ, ← List.append_assoc, List.filter_append]
            rw [e]
            exact LstsAt.app ⟨xs1, d1, d2, d3⟩ G4.lsts d1 f1 (new_same hD3) upd_same
      · rintro σ H3 ⟨D, v4, v5, rfl, nD, S3, L3⟩
        refine ⟨D, _, _, _, rfl, nD, S3, ?_⟩
        rw [A3_succ]
        exact L3
    · rintro σ H2 ⟨D, v3, v4, v5, rfl, nD, S2, L2⟩
      exact ⟨_, rfl, k _ D S2 nD L2⟩
end
end J

set_option Elab.async false
set_option linter.all false
set_option maxRecDepth 100000
set_option maxHeartbeats 8000000
namespace J
open PySem PySem.Spec PyProof.Rows L2
/-! ### the mathematics of the law -/
theorem Is.but {h : Addr} {H H' : Hp} {v : V} {s : Sh} (i : Is H v s) (n : v ≠ .ref h) (B : But h H H') : Is H' v s := by
  cases s with
  | sc u => exact i
  | dk => obtain ⟨a, kvs, e, q⟩ := i; exact ⟨a, kvs, e, B _ _ (fun z => n (by rw [e, z])) q⟩
  | lst xs => obtain ⟨a, e, q⟩ := i; exact ⟨a, e, B _ _ (fun z => n (by rw [e, z])) q⟩
  | tup xs => obtain ⟨a, e, q⟩ := i; exact ⟨a, e, B _ _ (fun z => n (by rw [e, z])) q⟩
theorem hand_free {H : Hp} {h q z : Addr} (x : Hand H h q) (hz : H z = none) : z ≠ h := fun e => (x.h_ne hz).1 e.symm
theorem filt_self {A : List (List Int)} {p : List Int → Bool} : A.filter (fun t => decide (t ∈ A.filter p)) = A.filter p :=
  List.filter_congr fun x hx => by
    cases h : p x with
    | true => exact decide_eq_true (List.mem_filter.mpr ⟨hx, h⟩)
    | false =>
      refine decide_eq_false fun z => ?_
      have := (List.mem_filter.mp z).2
      rw [h] at this
      cases this
theorem inL_brd {ns : List Int} {ts : List (List Int)} : (A3 ns.length ns.length).filter (inL (brd ns ts)) = brd ns ts := by
  unfold inL brd
  exact filt_self
theorem inL_lts {ns : List Int} {ts : List (List Int)} : (A3 ns.length ns.length).filter (inL (lts ns ts)) = lts ns ts := by
  unfold inL lts
  exact filt_self
theorem inL_A3 {ns : List Int} : (A3 ns.length ns.length).filter (inL (A3 ns.length ns.length)) = A3 ns.length ns.length := by
  rw [List.filter_eq_self]
  exact fun x hx => decide_eq_true hx
theorem least_filter {ns : List Int} {ts : List (List Int)} : ((A3 ns.length ns.length).filter (isL ns)).filter (inL (brd ns ts)) = (brd ns ts).filter (isL ns) := by
  rw [← inL_brd, List.filter_filter, List.filter_filter]
  refine List.filter_congr fun x _ => ?_
  rw [Bool.and_comm, inL_brd]
theorem min_ex : ∀ {L : List (List Int)}, L ≠ [] → ∃ t ∈ L, ∀ u ∈ L, TS.code 4 t ≤ TS.code 4 u
  | [], h => absurd rfl h
  | [t], _ => ⟨t, List.mem_cons_self, fun u hu => by
      rw [List.mem_singleton.mp hu]
      exact Int.le_refl _⟩
  | t :: v :: L, _ => by
    obtain ⟨m, hm, hl⟩ := min_ex (L := v :: L) (by simp)
    by_cases c : TS.code 4 t ≤ TS.code 4 m
    · refine ⟨t, List.mem_cons_self, fun u hu => ?_⟩
      rcases List.mem_cons.mp hu with rfl | hu
      · exact Int.le_refl _
      · exact Int.le_trans c (hl u hu)
    · refine ⟨m, List.mem_cons_of_mem _ hm, fun u hu => ?_⟩
      rcases List.mem_cons.mp hu with rfl | hu
      · omega
      · exact hl u hu
theorem least_ex {ns : List Int} {t : List Int} (g : GoodB ns) (ht : t ∈ A3 ns.length ns.length) : ∃ u ∈ A3 ns.length ns.length, isL ns u = true ∧ inR ns u t = true := by
  obtain ⟨p, q, r, rfl, ip, iq, ir⟩ := A3_in ht (ns := ns) rfl
  obtain ⟨m, hm, hl⟩ := min_ex (L := six ns p q r) (by simp [six])
  obtain ⟨a, b, c, rfl, ia, ib, ic⟩ := six_in g ip iq ir m hm
  refine ⟨[a, b, c], in_A3 ia ib ic, ?_, decide_eq_true hm⟩
  have sm := six_same g ip iq ir hm
  have := min_isL g ia ib ic (t := [a, b, c]) (by simp [six]) fun u hu => hl u ((sm u).mp hu)
  rw [← this]
  exact decide_eq_true rfl
theorem brd_eq {ns : List Int} {us ts : List (List Int)} (g : GoodB ns) (hu : ∀ u ∈ us, u ∈ A3 ns.length ns.length) (ht : ∀ u ∈ ts, u ∈ A3 ns.length ns.length) (h : ∀ t, t ∈ A3 ns.length ns.length → ((∃ u ∈ us, inR ns t u = true) ↔ ∃ u ∈ ts, inR ns t u = true)) : brd ns us = brd ns ts := by
  unfold brd
  refine List.filter_congr fun x hx => ?_
  rw [Bool.eq_iff_iff, List.any_eq_true, List.any_eq_true]
  exact h x hx
theorem brd_least {ns : List Int} (g : GoodB ns) : brd ns ((A3 ns.length ns.length).filter (isL ns)) = A3 ns.length ns.length := by
  unfold brd
  rw [List.filter_eq_self]
  intro x hx
  obtain ⟨u, hu, h1, h2⟩ := least_ex g hx
  exact List.any_eq_true.mpr ⟨u, List.mem_filter.mpr ⟨hu, h1⟩, inR_swap g hx h2⟩
/-- any readings of the least that are barred bar the same -/
theorem brd_again {ns : List Int} {ts us : List (List Int)} (g : GoodB ns) (ha : ∀ u ∈ ts, u ∈ A3 ns.length ns.length) (h : Paired (fun u m => inR ns u m = true) us ((brd ns ts).filter (isL ns))) : brd ns us = brd ns ts := by
  have hm : ∀ m ∈ (brd ns ts).filter (isL ns), m ∈ brd ns ts := fun m hm => (List.mem_filter.mp hm).1
  have hb : ∀ m ∈ brd ns ts, isL ns m = true → m ∈ (brd ns ts).filter (isL ns) := fun m h1 h2 => List.mem_filter.mpr ⟨h1, h2⟩
  generalize (brd ns ts).filter (isL ns) = M at h hm hb
  have fw : ∀ u ∈ us, ∃ m ∈ M, inR ns u m = true := by
    clear hm hb
    induction h with
    | nil => intro u hu; cases hu
    | cons r _ ih =>
      intro u hu
      rcases List.mem_cons.mp hu with rfl | hu
      · exact ⟨_, List.mem_cons_self, r⟩
      · obtain ⟨m, h1, h2⟩ := ih u hu
        exact ⟨m, List.mem_cons_of_mem _ h1, h2⟩
  have bw : ∀ m ∈ M, ∃ u ∈ us, inR ns u m = true := by
    clear hm hb fw
    induction h with
    | nil => intro u hu; cases hu
    | cons r _ ih =>
      intro u hu
      rcases List.mem_cons.mp hu with rfl | hu
      · exact ⟨_, List.mem_cons_self, r⟩
      · obtain ⟨m, h1, h2⟩ := ih u hu
        exact ⟨m, List.mem_cons_of_mem _ h1, h2⟩
  have uA : ∀ u ∈ us, u ∈ A3 ns.length ns.length := fun u hu => by
    obtain ⟨m, h1, h2⟩ := fw u hu
    exact inR_A3 g (brd_A3 m (hm m h1)) h2
  refine brd_eq g uA ha fun t ht => ⟨?_, ?_⟩
  · rintro ⟨u, hu, e⟩
    obtain ⟨m, h1, h2⟩ := fw u hu
    have := brd_in g ha (inR_trans g (brd_A3 m (hm m h1)) e h2) (hm m h1)
    exact (brd_mem g ha).mp this
  · intro e
    have tb : t ∈ brd ns ts := (brd_mem g ha).mpr e
    obtain ⟨m, m1, m2, m3⟩ := least_ex g ht
    have mb := brd_in g ha m3 tb
    obtain ⟨u, hu, e2⟩ := bw m (hb m mb m2)
    exact ⟨u, hu, inR_trans g (uA u hu) (inR_swap g ht m3) (inR_swap g m1 e2)⟩
theorem brd_nil {ns : List Int} : brd ns [] = [] := by
  unfold brd
  rw [List.filter_eq_nil_iff]
  intro a _ h
  cases h
/-- the indices of the wrong ones -/
def wrs : Nat → List Bool → List Int
  | _, [] => []
  | k, true :: gs => wrs (k + 1) gs
  | k, false :: gs => (k : Int) :: wrs (k + 1) gs
theorem wrs_app : ∀ {gs hs : List Bool} {k : Nat}, wrs k (gs ++ hs) = wrs k gs ++ wrs (k + gs.length) hs
  | [], hs, k => by simp [wrs]
  | true :: gs, hs, k => by
    show wrs (k + 1) (gs ++ hs) = wrs (k + 1) gs ++ wrs (k + (gs.length + 1)) hs
    rw [wrs_app, show k + 1 + gs.length = k + (gs.length + 1) by omega]
  | false :: gs, hs, k => by
    show (k : Int) :: wrs (k + 1) (gs ++ hs) = (k : Int) :: (wrs (k + 1) gs ++ wrs (k + (gs.length + 1)) hs)
    rw [wrs_app, show k + 1 + gs.length = k + (gs.length + 1) by omega]
theorem wrs_take {gs : List Bool} {i : Nat} {g : Bool} (h : gs[i]? = some g) : wrs 0 (gs.take (i + 1)) = wrs 0 (gs.take i) ++ if g = true then [] else [(i : Int)] := by
  have hi := (List.getElem?_eq_some_iff.mp h).1
  rw [List.take_add_one, h, wrs_app, List.length_take, Nat.min_eq_left (Nat.le_of_lt hi), Nat.zero_add]
  cases g <;> rfl
theorem wrs_len : ∀ {gs : List Bool} {k : Nat}, (wrs k gs).length ≤ gs.length
  | [], _ => Nat.le_refl _
  | true :: gs, k => Nat.le_succ_of_le (wrs_len (gs := gs))
  | false :: gs, k => Nat.succ_le_succ (wrs_len (gs := gs))
theorem wrs_head : ∀ {gs : List Bool} {k : Nat} {a : Int} {r : List Int}, wrs k gs = a :: r → ∃ j : Nat, a = ((k + j : Nat) : Int) ∧ gs[j]? = some false ∧ ∀ (i : Nat) (g : Bool), i < j → gs[i]? = some g → g = true
  | [], _, _, _, h => by cases h
  | true :: gs, k, a, r, h => by
    obtain ⟨j, e1, e2, e3⟩ := wrs_head (gs := gs) (k := k + 1) h
    refine ⟨j + 1, by rw [e1]; congr 1; omega, by simpa using e2, fun i g hi eg => ?_⟩
    cases i with
    | zero => simpa using eg.symm
    | succ i => exact e3 i g (by omega) (by simpa using eg)
  | false :: gs, k, a, r, h => by
    injection h with h1 h2
    exact ⟨0, by rw [← h1]; rfl, rfl, fun i g hi => by omega⟩
/-! ### what the hand's draws leave -/
theorem WAt.but {H H' : Hp} {h q w : Addr} {ns : List Int} {L : List (List Int)} (W : WAt H w ns L) (hh : Hand H h q) (gb : GoodB ns) (n2 : 2 ≤ ns.length) (B : But h H H') : WAt H' w ns L := by
  obtain ⟨b, z, po, ro, a1, a2, a3, a4, a5⟩ := W
  obtain ⟨cs, i, r, t, e1, _⟩ := hh
  have nl : ∀ (a : Addr) (xs : List V), H a = some (.lst xs) → (∀ u v ws, xs = u :: v :: ws → (∀ x, u ≠ .ref x) ∨ ∀ j, v ≠ .int j) → 2 ≤ xs.length → H' a = some (.lst xs) := fun a xs ea hx hl => by
    refine B a _ (fun e => ?_) ea
    rw [e, e1] at ea
    have ea := HO.lst.inj (Option.some.inj ea)
    rcases hx _ _ _ ea.symm with k | k
    · exact k _ rfl
    · exact k _ rfl
  have two : ∀ {α : Type} {ls : List α}, 2 ≤ ls.length → ∃ u v ws, ls = u :: v :: ws := fun {α} {ls} hl => by
    match ls, hl with
    | u :: v :: ws, _ => exact ⟨u, v, ws, rfl⟩
  have refs : ∀ (g : Nat → Addr) (u v : V) (ws : List V), refsL ns.length g = u :: v :: ws → (∀ x, u ≠ .ref x) ∨ ∀ j, v ≠ .int j := fun g u v ws e => .inr fun j ej => by
    have : (refsL ns.length g)[1]? = some v := by rw [e]; rfl
    rw [refs_at (by omega), ej] at this
    cases this
  have bools : ∀ (g : Nat → Bool) (u v : V) (ws : List V), boolsL ns.length g = u :: v :: ws → (∀ x, u ≠ .ref x) ∨ ∀ j, v ≠ .int j := fun g u v ws e => .inl fun j ej => by
    have : (boolsL ns.length g)[0]? = some u := by rw [e]; rfl
    rw [bools_at (by omega), ej] at this
    cases this
  have lr : ∀ g, 2 ≤ (refsL ns.length g).length := fun g => by simp only [refsL, List.length_map, List.length_range]; exact n2
  have lb : ∀ g, 2 ≤ (boolsL ns.length g).length := fun g => by simp only [boolsL, List.length_map, List.length_range]; exact n2
  refine ⟨b, z, po, ro, B _ _ (fun e => ?_) a1, nl _ _ a2 (fun u v ws e => .inl fun x ex => ?_) (by rw [List.length_map]; exact n2), nl _ _ a3 (refs _) (lr _), fun p hp => nl _ _ (a4 p hp) (refs _) (lr _), fun p q hp hq => nl _ _ (a5 p q hp hq) (bools _) (lb _)⟩
  · rw [e, e1] at a1
    cases a1
  · cases ns with
    | nil => cases e
    | cons m ms =>
      rw [List.map_cons] at e
      injection e with e _
      rw [← e] at ex
      cases ex
theorem TupsAt.but {H H' : Hp} {h z : Addr} {us : List V} {L : List (List Int)} (T : TupsAt H z L) (eh : H h = some (.lst us)) (B : But h H H') : TupsAt H' z L := by
  obtain ⟨ps, a, b, c⟩ := T
  exact ⟨ps, tup_but eh B a, b, fun j x ts e1 e2 => tup_but eh B (c j x ts e1 e2)⟩
theorem TabAt.but {n : Nat} {H H' : Hp} {h z : Addr} {us : List V} {L : List (List Int)} (T : TabAt n L H z) (eh : H h = some (.lst us)) (B : But h H H') : TabAt n L H' z := by
  obtain ⟨ps, a, b, c⟩ := T
  exact ⟨ps, tup_but eh B a, b, fun p x e => (c p x e).keep fun y xs e => tup_but eh B e⟩
theorem BookAt.but {C CB : Addr} {H H' : Hp} {h x : Addr} {us : List V} {ns : List Int} {L : List (List Int)} (T : BookAt C CB H x ns L) (eh : H h = some (.lst us)) (B : But h H H') : BookAt C CB H' x ns L := by
  obtain ⟨dx, t, b, l, r, a1, a2, a3, a4, a5⟩ := T
  exact ⟨dx, t, b, l, r, B _ _ (fun e => by rw [e, eh] at a1; cases a1) a1, a2.but eh B, a3.but eh B, a4.but eh B, a5.but eh B⟩
/-- what is no list stays, and all that stood in S0 -/
def NL (S0 H H' : Hp) : Prop := ∀ a o, H a = some o → ((∀ xs, o ≠ .lst xs) ∨ S0 a ≠ none) → H' a = some o
theorem NL.refl (S0 H : Hp) : NL S0 H H := fun _ _ e _ => e
theorem NL.trans {S0 H H1 H2 : Hp} (a : NL S0 H H1) (b : NL S0 H1 H2) : NL S0 H H2 := fun c o e n => b c o (a c o e n) n
theorem NL.put {S0 H : Hp} {a : Addr} {xs ys : List V} (e : H a = some (.lst xs)) (n : S0 a = none) : NL S0 H (upd H a (.lst ys)) := fun c o ec h => by
  by_cases q : c = a
  · subst q
    rw [e] at ec
    obtain rfl := Option.some.inj ec
    rcases h with h | h
    · exact (h _ rfl).elim
    · exact (h n).elim
  · rw [upd_ne q]
    exact ec
theorem NL.same {S0 H H' : Hp} (S : Same H H') : NL S0 H H' := fun a o e _ => S a o e
theorem NL.tup {S0 H H' : Hp} (N : NL S0 H H') {b : Addr} {xs : List V} (e : H b = some (.tup xs)) : H' b = some (.tup xs) := N _ _ e (.inl fun _ z => nomatch z)
theorem TupsAt.nl {S0 H H' : Hp} {z : Addr} {L : List (List Int)} (T : TupsAt H z L) (N : NL S0 H H') : TupsAt H' z L := by
  obtain ⟨ps, a, b, c⟩ := T
  exact ⟨ps, N.tup a, b, fun j x ts e1 e2 => N.tup (c j x ts e1 e2)⟩
theorem TabAt.nl {S0 : Hp} {n : Nat} {H H' : Hp} {z : Addr} {L : List (List Int)} (T : TabAt n L H z) (N : NL S0 H H') : TabAt n L H' z := by
  obtain ⟨ps, a, b, c⟩ := T
  exact ⟨ps, N.tup a, b, fun p x e => (c p x e).keep fun y xs e => N.tup e⟩
theorem TiesAt.nl {S0 H H' : Hp} {C x : Addr} {ns : List Int} (T : TiesAt C H x ns) (N : NL S0 H H') : TiesAt C H' x ns := by
  obtain ⟨d, tb, a, b⟩ := T
  exact ⟨d, tb, N _ _ a (.inl fun _ z => nomatch z), N.tup b⟩
theorem BookAt.nl {S0 H H' : Hp} {C CB : Addr} {x : Addr} {ns : List Int} {L : List (List Int)} (T : BookAt C CB H x ns L) (N : NL S0 H H') : BookAt C CB H' x ns L := by
  obtain ⟨dx, t, b, l, r, a1, a2, a3, a4, a5⟩ := T
  exact ⟨dx, t, b, l, r, N _ _ a1 (.inl fun _ z => nomatch z), a2.nl N, a3.nl N, a4.nl N, a5.nl N⟩
theorem NL.old {S0 H H' : Hp} (N : NL S0 H H') {a : Addr} {o : HO} (e : H a = some o) (n : S0 a ≠ none) : H' a = some o := N _ _ e (.inr n)
theorem Hand.nl {S0 H H' : Hp} {h q : Addr} (x : Hand H h q) (N : NL S0 H H') (n1 : S0 h ≠ none) (n2 : S0 q ≠ none) : Hand H' h q := by
  obtain ⟨cs, i, r, t, e1, e2, z⟩ := x
  exact ⟨cs, i, r, t, N.old e1 n1, N.old e2 n2, z⟩
theorem some_ne {H : Hp} {a : Addr} {o : HO} (e : H a = some o) : H a ≠ none := fun z => by rw [e] at z; cases z
def spShape2 : Sp := fun vs H Q _ => ∃ (h q : Addr) (v : V) (s : Sh), vs = [.ref h, v] ∧ Hand H h q ∧ Is H v s ∧ (s.isL || s.isT) = true ∧ v ≠ .ref h ∧ ∀ (H' : Hp) (z : Addr) (s' : Sh), But h H H' → Hand H' h q → Is H' (.ref z) s' → items s' = items s → (s'.isL || s'.isT) = true → z ≠ h → (s'.isL = true → H z = none) → Q (.ref z) H'
section
variable {P : Program} {w : World} {K : PySem.W.Frag} {mg : Str → Option Value} {base : Heap}
end
end J

set_option Elab.async false
set_option linter.all false
set_option maxRecDepth 100000
set_option maxHeartbeats 4000000
/-! sorted(xs), xs a list of tuples of ints, at any length -/
namespace L2
open PySem PySem.Spec PyProof.Rows
/-- sorted(xs), xs a list of tuples of dd ints in [0, B) -/
def rSortLT (dd : Nat) (B : Int) : List V → Hp → VK → Prop := fun vs H Q => ∃ (a : Addr) (L : List (Addr × List Int)), vs = [V.ref a] ∧ H a = some (.lst (L.map fun q => V.ref q.1)) ∧ L.length ≤ 1000 ∧ (∀ q ∈ L, H q.1 = some (.tup (q.2.map V.int)) ∧ q.2.length = dd ∧ TS.Bd B q.2) ∧
  ∀ (M : List (Addr × List Int)) (p : Addr), M.Perm L → M.Pairwise (fun q r => TS.code B q.2 ≤ TS.code B r.2) → H p = none → Q (.ref p) (upd H p (.lst (M.map fun q => V.ref q.1)))
section
variable {X : Cx}
theorem cr_sortedLT {dd : Nat} {B : Int} (hd : 1 ≤ dd) : CallR X (.builtin "sorted") (rSortLT dd B) := by
  intro pins s σ H vs us Q I r h
  obtain ⟨a, L, rfl, ha, l1000, hL, q⟩ := h
  obtain ⟨its, rv, hl, _⟩ := I.list (SqL.of ha)
  rw [Vals.ref1 r]
  have ei : its = L.map fun q => Value.ref q.1 := by
    have : ∀ (L : List (Addr × List Int)) (its : List Value), Vals (L.map fun q => V.ref q.1) its → its = L.map fun q => Value.ref q.1 := by
      intro L
      induction L with
      | nil => intro its h; cases h; rfl
      | cons x L ih =>
        intro its h
        cases h with
        | cons r t =>
          rw [ih _ t]
          obtain rfl := r
          rfl
    exact this _ _ rv
  subst ei
  have tup : ∀ q ∈ L, TS.TupInts s.heap (.ref q.1) q.2 := fun q hq => tupInts_of (P := X.prog) (w := X.w) (I.isT (SqT.of (hL q hq).1))
  have okT : TS.TupsOk s.heap dd B (L.map fun q => Value.ref q.1) := fun v hv => by
    obtain ⟨q, hq, rfl⟩ := List.mem_map.mp hv
    exact ⟨q.2, tup q hq, (hL q hq).2.1, (hL q hq).2.2⟩
  refine PyProof.Rows.G.sortedG (κ := SD.knd s.heap dd B) (kd := tuples' true) hl.isList (fun p hp => ?_) (fun s2 k => SD.lt_at true k) (fun h2 A' E' s2 Q' k hq => SD.kind_at hd h2 (okT.keeps k) hq) (by rw [List.length_map]; exact Nat.le_of_lt (small1000 l1000)) fun st' a1 a2 a3 => ?_
  · rw [pairsOf_toList] at hp
    obtain ⟨e, hm⟩ := mem_zip_self hp
    obtain ⟨ns, t, l, b⟩ := okT _ hm
    exact ⟨_, SD.keyIn_of t l b⟩
  · obtain ⟨o1, o2⟩ := SD.out_code a1 okT a2
    obtain ⟨M, pM, eM⟩ := perm_lift (fun q : Addr × List Int => Value.ref q.1) o1 L rfl
    obtain ⟨ep, he'⟩ := PyProof.Rows.sortedAll_at s.heap (L.map fun q => Value.ref q.1) ((arrOf st').map (·.2))
    have lM : M.length = L.length := pM.length_eq
    have hlen : (M.map fun q => V.ref q.1).length ≤ sizeLine := by
      rw [List.length_map, lM]
      exact Nat.le_of_lt (small1000 l1000)
    have rv' : Vals (M.map fun q => V.ref q.1) ((arrOf st').map (·.2)).toList := by
      rw [← eM]
      exact vals_of_refs M
    have pwM : M.Pairwise (fun q r => TS.code B q.2 ≤ TS.code B r.2) := by
      rw [← eM, List.pairwise_map] at o2
      refine List.Pairwise.imp_of_mem (fun {y u} hy hu hle => ?_) o2
      rw [← (tup y (pM.mem_iff.mp hy)).ints, ← (tup u (pM.mem_iff.mp hu)).ints]
      exact hle
    exact ⟨.ref _, upd H (s.heap.objs.size + 1) (.lst (M.map fun q => V.ref q.1)), I.laid (t' := s.toks) (fun _ _ => PyProof.Rows.sortedAll_old) (Nat.le_succ _) ⟨hlen, _, ep, rv', he'⟩, rfl, q M _ pM pwM (I.hok.fresh (Nat.le_succ _))⟩
end
end L2

set_option Elab.async false
set_option linter.all false
set_option maxRecDepth 100000
set_option maxHeartbeats 4000000
namespace J
open PySem PySem.Spec PyProof.Rows L2
structure GroX {α : Type} (R : Hp → Addr → α → Prop) (H1 H : Hp) (D : Addr) (L : List α) : Prop where
  S : Same H1 H
  n : H1 D = none
  d : ∃ ps : List Addr, H D = some (.lst (ps.map V.ref)) ∧ ps.length = L.length ∧ ∀ (j : Nat) (a : Addr) (x : α), ps[j]? = some a → L[j]? = some x → R H a x
section
variable {α : Type} {R : Hp → Addr → α → Prop}
theorem GroX.nil {H1 : Hp} {D : Addr} (hD : H1 D = none) : GroX R H1 (upd H1 D (.lst [])) D [] := ⟨new_same hD, hD, [], upd_same, rfl, fun j a x e => by simp at e⟩
theorem GroX.keep {H1 H H' : Hp} {D : Addr} {L : List α} (G : GroX R H1 H D L) (S : Same H H') (m : ∀ a x, R H a x → R H' a x) : GroX R H1 H' D L := by
  obtain ⟨ps, a, b, c⟩ := G.d
  exact ⟨G.S.trans S, G.n, ps, S _ _ a, b, fun j p x e1 e2 => m p x (c j p x e1 e2)⟩
theorem GroX.app {H1 H : Hp} {D z : Addr} {L : List α} {x : α} (G : GroX R H1 H D L) (m : ∀ H', But D H H' → ∀ a x, R H a x → R H' a x) (hz : R H z x) : ∃ acc, H D = some (.lst acc) ∧ acc.length = L.length ∧ GroX R H1 (upd H D (.lst (acc ++ [.ref z]))) D (L ++ [x]) := by
  obtain ⟨ps, e1, e2, e3⟩ := G.d
  have B : But D H (upd H D (.lst (ps.map V.ref ++ [.ref z]))) := But.put
  refine ⟨ps.map V.ref, e1, by rw [List.length_map, e2], fun b o e => ?_, G.n, ps ++ [z], by rw [upd_same, List.map_append]; rfl, by rw [List.length_append, List.length_append, e2]; rfl, fun j a y q1 q2 => ?_⟩
  · rw [upd_ne (ne_of_none e G.n)]
    exact G.S _ _ e
  · refine m _ B a y ?_
    rcases Nat.lt_or_ge j ps.length with c | c
    · rw [List.getElem?_append_left c] at q1
      rw [List.getElem?_append_left (by omega)] at q2
      exact e3 j a y q1 q2
    · rw [List.getElem?_append_right c] at q1
      rw [List.getElem?_append_right (by omega)] at q2
      have l := (List.getElem?_eq_some_iff.mp q1).1
      have e0 : j - ps.length = 0 := by simpa using l
      rw [e0] at q1
      rw [show j - L.length = 0 from by omega] at q2
      obtain rfl := Option.some.inj q1
      obtain rfl := Option.some.inj q2
      exact hz
end
abbrev s_chosen_from : Stmt := top 2
theorem sc_chosen_from : FnScope ["things", "count", "lots", "place", "first", "rest"] ["things", "count"] (defScope s_chosen_from) := ⟨rfl, rfl, rfl, by decide +kernel, rfl, by decide +kernel, by decide +kernel⟩
/-! ### all tuples of so many of the things -/
def rCatN : R2 := fun x y H Q => ∃ a b xs ys, x = .ref a ∧ y = .ref b ∧ H a = some (.tup xs) ∧ H b = some (.tup ys) ∧ xs.length + ys.length ≤ 1000 ∧ ∀ H' z, Same H H' → H' z = some (.tup (xs ++ ys)) → Q (.ref z) H'
theorem op_catN {X : Cx} : OpR X (binaryOp .Add) rCatN := by
  intro pins s σ H x y v u Q I rx ry h
  obtain ⟨a, b, xs, ys, rfl, rfl, ha, hb, hl, q⟩ := h
  exact op_catA pins s σ H _ _ v u Q I rx ry ⟨a, b, xs, ys, rfl, rfl, SqT.of ha, SqT.of hb, Nat.le_of_lt (small1000 hl), fun e => q H b (Same.refl _) (by rw [e]; exact hb), fun _ e => q H a (Same.refl _) (by rw [e, List.append_nil]; exact ha), fun _ _ p hp => q _ p (new_same hp) upd_same⟩
def chP (g : List V → List (List V)) (xs : List V) (i : Nat) : List (List V) := (List.range i).flatMap fun j => (g (xs.drop (j + 1))).map (xs.getD j .non :: ·)
def chos : Nat → List V → List (List V)
  | 0, _ => [[]]
  | c + 1, xs => chP (chos c) xs xs.length
theorem chP_succ {g : List V → List (List V)} {xs : List V} {i : Nat} : chP g xs (i + 1) = chP g xs i ++ (g (xs.drop (i + 1))).map (xs.getD i .non :: ·) := by
  unfold chP
  rw [List.range_succ, List.flatMap_append]
  simp
theorem chP_len {g : List V → List (List V)} {xs : List V} (hg : ∀ ys : List V, (g ys).length ≤ 2 ^ ys.length) : ∀ i, i ≤ xs.length → (chP g xs i).length + 2 ^ (xs.length - i) ≤ 2 ^ xs.length := by
  intro i
  induction i with
  | zero => intro _; simp [chP]
  | succ i ih =>
    intro hi
    have h := ih (by omega)
    rw [chP_succ, List.length_append, List.length_map]
    have h2 := hg (xs.drop (i + 1))
    rw [List.length_drop] at h2
    have e : 2 ^ (xs.length - i) = 2 ^ (xs.length - (i + 1)) + 2 ^ (xs.length - (i + 1)) := by
      rw [show xs.length - i = (xs.length - (i + 1)) + 1 by omega, Nat.pow_succ]
      omega
    omega
theorem chos_len : ∀ (c : Nat) (xs : List V), (chos c xs).length ≤ 2 ^ xs.length
  | 0, xs => Nat.one_le_two_pow
  | c + 1, xs => by
    exact Nat.le_trans (Nat.le_add_right _ _) (chP_len (xs := xs) (chos_len c) xs.length (Nat.le_refl _))
theorem chP_small {c : Nat} {xs : List V} {i : Nat} (h6 : xs.length ≤ 6) (hi : i ≤ xs.length) : (chP (chos c) xs i).length ≤ 64 := by
  exact Nat.le_trans (Nat.le_trans (Nat.le_add_right _ _) (chP_len (xs := xs) (chos_len c) i hi)) (Nat.pow_le_pow_right (by decide : 0 < 2) h6)
theorem cutV_drop {xs : List V} {i : Nat} (h : i < xs.length) : cutV xs (some ((i : Nat) + 1)) none = xs.drop (i + 1) := by
  unfold cutV
  have e : HT.sIx xs.length 0 (some ((i : Nat) + 1 : Int)) = i + 1 := by
    rw [show ((i : Nat) + 1 : Int) = ((i + 1 : Nat) : Int) by omega, HT.sIx_nat]
    omega
  rw [e, HT.sIx_none]
  exact List.take_of_length_le (by rw [List.length_drop]; exact Nat.le_refl _)
def TupV (H : Hp) (a : Addr) (vs : List V) : Prop := H a = some (.tup vs)
def LotsAt (H : Hp) (z : Addr) (L : List (List V)) : Prop := ∃ ps : List Addr, H z = some (.lst (ps.map V.ref)) ∧ ps.length = L.length ∧ ∀ (j : Nat) (a : Addr) (vs : List V), ps[j]? = some a → L[j]? = some vs → TupV H a vs
theorem tupV_but {D : Addr} {H H' : Hp} {us : List V} (eD : H D = some (.lst us)) (B : But D H H') : ∀ a x, TupV H a x → TupV H' a x := fun a x h => B _ _ (fun e => by rw [TupV, e, eD] at h; cases h) h
def spChos (c : Nat) : Sp := fun vs H Q _ => ∃ (t : Addr) (xs : List V), vs = [.ref t, .int (c : Nat)] ∧ H t = some (.tup xs) ∧ xs.length ≤ 6 ∧ c ≤ 100 ∧ ∀ (H' : Hp) (z : Addr), Same H H' → H z = none → LotsAt H' z (chos c xs) → Q (.ref z) H'
theorem chos_wd : ∀ (c : Nat) (xs : List V), ∀ y ∈ chos c xs, y.length = c
  | 0, xs, y, h => by rw [List.mem_singleton.mp h]; rfl
  | c + 1, xs, y, h => by
    obtain ⟨j, _, h⟩ := List.mem_flatMap.mp h
    obtain ⟨z, hz, rfl⟩ := List.mem_map.mp h
    rw [List.length_cons, chos_wd c _ z hz]
section
variable {P : Program} {w : World} {K : PySem.W.Frag} {mg : Str → Option Value} {base : Heap}
theorem ok_chosen {k c : Nat} {f fG : Addr} {fd fdG : FuncData} (F : Fun K "chosen_from" "chosen_from" s_chosen_from f fd) (ne : mg "enumerate" = none) (GG : Cal P w K mg base CX0 k "chosen_from" fG fdG ["things", "count"] (spChos c)) : FnOk P w K mg base CX0 (k + 1) f fd ["things", "count"] (fun vs H Q E => spChos 0 vs H Q E ∨ spChos (c + 1) vs H Q E) := by
  refine F.ok sc_chosen_from (fun vs H Q E h => ?_) (fun cdv A outer s H vs Q E hr h => ?_)
  · rcases h with ⟨t, xs, rfl, _⟩ | ⟨t, xs, rfl, _⟩ <;> rfl
  · refine ⟨_, (pss_cons 
  (ps_if (pt_cmpR (r := rEq) op_eq (pv 1) pe_int (nomark _)) (pss_one 
    (ps_ret (pe_lst (pa_cons (pe_tup pa_nil) pa_nil)))) pss_nil) (pss_cons 
  (ps_set (i := 2) sc_chosen_from.nd rfl (Or.inl rfl) (pe_lst pa_nil)) (pss_cons 
  (ps_for PassesOwn.never rfl (pi_enumT (by rfl) ne (pa_cons (pv 0) pa_nil)) (pg_tup (by rfl) (pgs_cons (pg_name (i := 3) sc_chosen_from.nd rfl (Or.inl rfl)) (pgs_cons (pg_name (i := 4) sc_chosen_from.nd rfl (Or.inl rfl)) pgs_nil))) (pss_one 
    (ps_for PassesOwn.never rfl (pi_list (pcal GG hr pass0 (pa_cons (pe_slice sl_tup (pv 0) (po_some (pe_op op_add (pv 3) pe_int)) po_none) (pa_cons (pe_op op_sub (pv 1) pe_int) pa_nil)) (hk := Nat.le_refl _))) (pg_name (i := 5) sc_chosen_from.nd rfl (Or.inl rfl)) (pss_one 
      (ps_expr (pe_bm PySem.F.plainAttrs_list PySem.F.slot_list_append PySem.F.type_list_append mt_append (pv 2) (pa_cons (pe_op op_catN (pe_tup (pa_cons (pv 4) pa_nil)) (pv 5)) pa_nil))))))) (pss_one 
  (ps_ret (pv 2)))))), ?_⟩
    rcases h with ⟨t, xs, rfl, et, h6, c100, q⟩ | ⟨t, xs, rfl, et, h6, c100, q⟩
    · refine ⟨_, rfl, rfl, _, rfl, if_tr rfl ⟨(by show 0 ≤ sizeLine; decide), fun a ha => ⟨(by show 1 ≤ sizeLine; decide), fun z hz => ?_⟩⟩⟩
      have S := new_same (o := .tup []) ha
      have S2 := new_same (o := .lst [.ref a]) hz
      refine q _ z (S.trans S2) (S.free hz) ⟨[a], upd_same, rfl, fun j u vs e1 e2 => ?_⟩
      have hj : j = 0 := by have := (List.getElem?_eq_some_iff.mp e1).1; simpa using this
      subst hj
      obtain rfl := Option.some.inj e1
      obtain rfl : [] = vs := Option.some.inj e2
      exact S2 _ _ upd_same
    · refine ⟨_, rfl, rfl, _, rfl, if_fa (decide_eq_false (fun e => by have := V.int.inj e; omega)) ⟨(by show 0 ≤ sizeLine; decide), fun D hD => ?_⟩⟩
      have G0 : GroX TupV H (upd H D (.lst [])) D [] := GroX.nil hD
      generalize upd H D (.lst []) = H1 at G0
      have et1 := G0.S _ _ et
      refine ⟨_, rfl, t, xs, rfl, SqT.of et1, for_enumT (K := K) (a := t) (xs := xs) (fun i σ H' => (∃ v3 v4 v5, σ = [some (.ref t), some (.int ((c + 1 : Nat) : Int)), some (.ref D), v3, v4, v5]) ∧ GroX TupV H H' D (chP (chos c) xs i)) ⟨⟨_, _, _, rfl⟩, G0⟩ (fun i σ H' _ ⟨_, G⟩ => SqT.of (G.S _ _ et)) ?_ ?_⟩
      · rintro i x σ H2 T0 hx ⟨⟨v3, v4, v5, rfl⟩, G⟩ hT0
        have hi := (List.getElem?_eq_some_iff.mp hx).1
        refine ⟨T0, _, rfl, SqT.of upd_same, rfl, _, _, rfl, _, _, rfl, rfl, ?_⟩
        have S3 : Same H2 (upd H2 T0 (.tup [.int (i : Nat), x])) := new_same hT0
        generalize upd H2 T0 (.tup [.int (i : Nat), x]) = H3 at S3
        have G3 := G.keep S3 fun a v h => S3 _ _ h
        refine ⟨_, rfl, _, rfl, _, _, rfl, rfl, _, rfl, t, xs, rfl, SqT.of (G3.S _ _ et), fun e => ?_, fun p hp => ?_⟩
        · have h0 := e.1
          rw [show ((i : Nat) + 1 : Int) = ((i + 1 : Nat) : Int) by omega, HT.sIx_nat] at h0
          omega
        rw [cutV_drop hi]
        have S4 : Same H3 (upd H3 p (.tup (xs.drop (i + 1)))) := new_same hp
        have ep : (upd H3 p (.tup (xs.drop (i + 1)))) p = some (.tup (xs.drop (i + 1))) := upd_same
        generalize upd H3 p (.tup (xs.drop (i + 1))) = H4 at S4 ep
        have G4 := G3.keep S4 fun a v h => S4 _ _ h
        refine ⟨_, rfl, _, _, rfl, rfl, p, xs.drop (i + 1), by show [V.ref p, V.int (((c + 1 : Nat) : Int) - 1)] = _; rw [show ((c + 1 : Nat) : Int) - 1 = (c : Nat) by omega], ep, by rw [List.length_drop]; omega, by omega, fun H5 z S5 nz Lz => ?_⟩
        have G5 := G4.keep S5 fun a v h => S5 _ _ h
        obtain ⟨ps, e1, e2, e3⟩ := Lz
        obtain ⟨us5, e1D, _⟩ := G5.d
        have zD : z ≠ D := fun e => by
          obtain ⟨us, u1, _⟩ := G4.d
          rw [← e, nz] at u1
          cases u1
        refine ⟨z, rfl, ⟨_, SqL.of e1⟩, for_list (K := K) (a := z) (xs := ps.map V.ref) (fun j σ H' => But D H5 H' ∧ (∃ v5, σ = [some (.ref t), some (.int ((c + 1 : Nat) : Int)), some (.ref D), some (.int (i : Nat)), some x, v5]) ∧ GroX TupV H H' D (chP (chos c) xs i ++ ((chos c (xs.drop (i + 1))).take j).map (x :: ·))) ⟨But.refl _ _, ⟨_, rfl⟩, by rw [List.take_zero, List.map_nil, List.append_nil]; exact G5⟩ ?_ ?_ ?_⟩
        · exact fun j σ H' _ h => SqL.of (h.1 _ _ zD e1)
        · rintro j v σ H6 ev ⟨B6, ⟨v5, rfl⟩, G6⟩
          rw [List.getElem?_map] at ev
          cases ep' : ps[j]? with
          | none => rw [ep'] at ev; cases ev
          | some u =>
            rw [ep'] at ev
            obtain rfl : V.ref u = v := Option.some.inj ev
            have hj := (List.getElem?_eq_some_iff.mp ep').1
            have ey := List.getElem?_eq_getElem (l := chos c (xs.drop (i + 1))) (i := j) (by omega)
            generalize (chos c (xs.drop (i + 1)))[j]'(by omega) = y at ey
            have eu := tupV_but e1D B6 _ _ (e3 j u y ep' ey)
            have ly := chos_wd c _ y (List.mem_of_getElem? ey)
            have b64 : (chP (chos c) xs i ++ ((chos c (xs.drop (i + 1))).take j).map (x :: ·)).length ≤ 128 := by
              have h1 := chP_small (c := c) h6 (Nat.le_of_lt hi)
              have h2 := chos_len c (xs.drop (i + 1))
              have h3 : 2 ^ (xs.drop (i + 1)).length ≤ 2 ^ 6 := Nat.pow_le_pow_right (by decide : 0 < 2) (by rw [List.length_drop]; omega)
              have h4 := Nat.le_trans h2 h3
              rw [List.length_append, List.length_map, List.length_take]
              omega
            obtain ⟨us6, eD6, _⟩ := G6.d
            refine ⟨_, rfl, .inl ⟨rfl, _, SqL.of eD6⟩, _, rfl, (by show 1 ≤ sizeLine; decide), fun w hw => ?_⟩
            have S7 : Same H6 (upd H6 w (.tup [x])) := new_same hw
            have ew : (upd H6 w (.tup [x])) w = some (.tup [x]) := upd_same
            generalize upd H6 w (.tup [x]) = H7 at S7 ew
            refine ⟨_, rfl, w, u, [x], y, rfl, rfl, ew, S7 _ _ eu, by rw [ly]; show 1 + c ≤ 1000; omega, fun H8 r S8 er => ?_⟩
            have G8 := G6.keep (S7.trans S8) fun a v h => (S7.trans S8) _ _ h
            obtain ⟨us8, eD8, _⟩ := G8.d
            obtain ⟨acc, w1, w2, w3⟩ := G8.app (z := r) (x := x :: y) (fun H' B => tupV_but eD8 B) er
            refine ⟨D, acc, _, rfl, rfl, w1, by rw [w2]; exact small1000 (by omega), fun b o n e => ?_, ⟨_, rfl⟩, ?_⟩
            · rw [upd_ne n]
              exact S8 _ _ (S7 _ _ (B6 _ _ n e))
            · rw [List.take_add_one, ey, List.map_append, ← List.append_assoc]
              exact w3
        · rintro σ H6 ⟨B6, ⟨v5, rfl⟩, G6⟩
          refine ⟨⟨_, _, _, rfl⟩, ?_⟩
          rw [List.length_map, e2, List.take_length] at G6
          rw [chP_succ, show xs.getD i .non = x by rw [List.getD_eq_getElem?_getD, hx]; rfl]
          exact G6
      · rintro σ H2 ⟨⟨v3, v4, v5, rfl⟩, G⟩
        exact ⟨_, rfl, q H2 D G.S hD G.d⟩
end
end J

set_option Elab.async false
set_option linter.all false
set_option maxRecDepth 100000
set_option maxHeartbeats 4000000
namespace L2
open PySem PySem.Spec PyProof.Rows
/-! ### one of two ways -/
def gOr (a b : TG) : TG := fun v σ H Q => a v σ H Q ∨ b v σ H Q
theorem pg_or {X : Cx} {tg : Expr} {a b : TG} (h1 : PG X tg a) (h2 : PG X tg b) : PG X tg (gOr a b) :=
  ⟨fun pins s σ H v u Q I r hw => hw.elim (h1.run pins s σ H v u Q I r) (h2.run pins s σ H v u Q I r)⟩
def iOr (a b : TI) : TI := fun σ H R => a σ H R ∨ b σ H R
theorem pi_or {X : Cx} {tg e : Expr} {a b : TI} (h1 : PI X tg e a) (h2 : PI X tg e b) : PI X tg e (iOr a b) :=
  ⟨fun pins s σ H R I hw => hw.elim (h1.run pins s σ H R I) (h2.run pins s σ H R I)⟩
end L2
namespace J
open PySem PySem.Spec PyProof.Rows L2
theorem un_seq {K : PySem.W.Frag} {n : Nat} {t : TGs} {y : V} {s : Sh} {H : Hp} {xs : List V} {σ : L2.St} {Q : L2.St → Hp → Prop} (i : Is H y s) (sq : (s.isL || s.isT) = true) (e : items s = xs) (l : xs.length = n) (h : t xs σ H Q) : gOr (gTup K n t) (gUnl K n t) y σ H Q := by
  cases s with
  | sc u => cases sq
  | dk => cases sq
  | lst ys =>
    obtain ⟨p, rfl, hp⟩ := i
    subst e
    exact .inr ⟨p, _, rfl, SqL.of hp, l, h⟩
  | tup ys =>
    obtain ⟨p, rfl, hp⟩ := i
    subst e
    exact .inl ⟨p, _, rfl, SqT.of hp, l, h⟩
/-! ### a dict whose keys are couples of ints -/
def k2 (x y : Int) : List Key := [Sum.inl x, Sum.inl y]
theorem k2_val {x y : Int} : (k2 x y).map kV = [V.int x, V.int y] := rfl
theorem k2_inj {x y a b : Int} : k2 x y = k2 a b ↔ x = a ∧ y = b := by
  unfold k2
  constructor
  · intro h
    injection h with h1 h2
    injection h2 with h2 _
    injection h1 with h1
    injection h2 with h2
    exact ⟨h1, h2⟩
  · rintro ⟨rfl, rfl⟩
    rfl
def DiT (H : Hp) (D : Addr) (n : Nat) (f : Int → Int → Option V) : Prop := ∃ kvs : List (List Key × V), H D = some (.dT kvs) ∧ kvs.length ≤ n ∧ ∀ x y, valV kvs (k2 x y) = f x y
def putC (f : Int → Int → Option V) (a b : Int) (v : V) : Int → Int → Option V := fun x y => if x = a ∧ y = b then some v else f x y
theorem put_len {kvs : List (List Key × V)} {k : List Key} {v : V} : (putK kvs k v).length ≤ kvs.length + 1 := by
  unfold putK
  split
  · rw [List.length_map]; omega
  · rw [List.length_append]; exact Nat.le_refl _
theorem DiT.nil {H : Hp} {D : Addr} : DiT (upd H D (.dT [])) D 0 (fun _ _ => none) := ⟨[], upd_same, Nat.le_refl _, fun _ _ => rfl⟩
theorem DiT.get {H : Hp} {D b : Addr} {n : Nat} {f : Int → Int → Option V} {x y : Int} (d : DiT H D n f) (eb : H b = some (.tup [.int x, .int y])) : DGet H D (.ref b) (f x y) := by
  obtain ⟨kvs, e, _, h⟩ := d
  rw [← h x y]
  exact DGet.t e eb
theorem DiT.put {H : Hp} {D b : Addr} {n : Nat} {f : Int → Int → Option V} {x y : Int} {v : V} (d : DiT H D n f) (hn : n < 1000) (eb : H b = some (.tup [.int x, .int y])) : ∃ H', DPut H D (.ref b) v H' ∧ DiT H' D (n + 1) (putC f x y v) ∧ But D H H' := by
  obtain ⟨kvs, e, l, h⟩ := d
  refine ⟨_, DPut.t (k := k2 x y) (v := v) e eb (small1000 (by omega)), ⟨_, upd_same, Nat.le_trans put_len (by omega), fun a c => ?_⟩, But.put⟩
  rw [valV_put]
  unfold putC
  by_cases q : a = x ∧ c = y
  · rw [if_pos q, if_pos (k2_inj.mpr q)]
  · rw [if_neg q, if_neg (fun z => q (k2_inj.mp z)), h]
theorem DiT.keep {H H' : Hp} {D : Addr} {n : Nat} {f : Int → Int → Option V} (d : DiT H D n f) (S : Same H H') : DiT H' D n f := by
  obtain ⟨kvs, e, l, h⟩ := d
  exact ⟨kvs, S _ _ e, l, h⟩
/-! ### turned_row -/
abbrev s_turned : Stmt := top 25
theorem sc_turned : FnScope ["ties", "row", "x", "y", "tie"] ["ties", "row"] (defScope s_turned) := ⟨rfl, rfl, rfl, by decide +kernel, rfl, by decide +kernel, by decide +kernel⟩
def turn3 (ns : List Int) (a b t : Int) : List Int := if a < b then [a, b, t] else [b, a, bk ns t]
def spTurn (C : Addr) : Sp := fun vs H Q _ => ∃ (x : Addr) (ns : List Int) (v : V) (s : Sh) (a b t : Int), vs = [.ref x, v] ∧ TiesAt C H x ns ∧ Is H v s ∧ (s.isL || s.isT) = true ∧ items s = [.int a, .int b, .int t] ∧ InT ns t ∧ ∀ (H' : Hp) (z : Addr), Same H H' → H z = none → H' z = some (.tup ((turn3 ns a b t).map V.int)) → Q (.ref z) H'
section
variable {P : Program} {w : World} {K : PySem.W.Frag} {mg : Str → Option Value} {base : Heap}
theorem ok_turned {f C CN fB : Addr} {fd fdB : FuncData} (F : Fun K "turned_row" "turned_row" s_turned f fd) (T : TiC K C) (GK : Mt P w K mg base (L2.CX P w) 3 C "back" fB fdB ["self", "tie"] (spBack C CN)) : FnOk P w K mg base CX0 4 f fd ["ties", "row"] (spTurn C) := by
  refine F.ok sc_turned (fun vs H Q E h => ?_) (fun cdv A outer s H vs Q E hr h => ?_)
  · obtain ⟨x, ns, v, s, a, b, t, rfl, _⟩ := h
    rfl
  · obtain ⟨x, ns, v, s, a, b, t, rfl, hT, is, sq, ei, it, k⟩ := h
    refine ⟨_, (pss_cons 
  (ps_asg (pv 1) (pg_or (pg_tup (by rfl) (pgs_cons (pg_name (i := 2) sc_turned.nd rfl (Or.inl rfl)) (pgs_cons (pg_name (i := 3) sc_turned.nd rfl (Or.inl rfl)) (pgs_cons (pg_name (i := 4) sc_turned.nd rfl (Or.inl rfl)) pgs_nil)))) (pg_unl rfl (pgs_cons (pg_name (i := 2) sc_turned.nd rfl (Or.inl rfl)) (pgs_cons (pg_name (i := 3) sc_turned.nd rfl (Or.inl rfl)) (pgs_cons (pg_name (i := 4) sc_turned.nd rfl (Or.inl rfl)) pgs_nil)))))) (pss_one 
  (ps_ret (pe_ifExp (pt_cmpR op_lt (pv 2) (pv 3) (nomark _)) (pe_tup (pa_cons (pv 2) (pa_cons (pv 3) (pa_cons (pv 4) pa_nil)))) (pe_tup (pa_cons (pv 3) (pa_cons (pv 2) (pa_cons (pe_meth (pv 0) T.cl GK.M GK.F hr GK.b .nil passL (pa_cons (pv 4) pa_nil)) pa_nil)))))))), ?_⟩
    obtain ⟨dx, tt, ex, et⟩ := id hT
    refine ⟨_, rfl, un_seq is sq ei rfl ⟨_, _, rfl, _, _, rfl, _, _, rfl, rfl, ?_⟩⟩
    refine ⟨_, rfl, _, rfl, a, b, rfl, rfl, _, rfl, ?_⟩
    by_cases c : a < b
    · refine if_tr (decide_eq_true c) ⟨_, rfl, _, rfl, _, rfl, (by show 3 ≤ sizeLine; decide), fun z hz => ?_⟩
      exact k _ z (new_same hz) hz (by rw [upd_same]; unfold turn3; rw [if_pos c]; rfl)
    · have eb : ns[t.toNat]? = some (bk ns t) := bk_get it
      refine if_fa (decide_eq_false c) ⟨_, rfl, _, rfl, _, rfl, x, dx, _, rfl, ex, rfl, _, rfl, x, ns, .int t, .sc (.int t), rfl, hT, ⟨rfl, rfl⟩, fun i b' e1 e2 => ?_, fun e => (by rw [tie_in it] at e; cases e)⟩
      have hi : i = t.toNat := by have := V.int.inj e1; omega
      rw [hi, eb] at e2
      obtain rfl := Option.some.inj e2
      refine ⟨(by show 3 ≤ sizeLine; decide), fun z hz => ?_⟩
      exact k _ z (new_same hz) hz (by rw [upd_same]; unfold turn3; rw [if_neg c]; rfl)
end
end J

set_option Elab.async false
set_option linter.all false
set_option maxRecDepth 100000
set_option maxHeartbeats 4000000
namespace J
open PySem PySem.Spec PyProof.Rows L2
abbrev s_both : Stmt := top 28
theorem sc_both : FnScope ["ties", "rows", "both", "x", "y", "tie"] ["ties", "rows"] (defScope s_both) := ⟨rfl, rfl, rfl, by decide +kernel, rfl, by decide +kernel, by decide +kernel⟩
abbrev r0 (r : List Int) : Int := r.getD 0 0
abbrev r1 (r : List Int) : Int := r.getD 1 0
abbrev r2 (r : List Int) : Int := r.getD 2 0
/-- what a dict of ties tells, one row more -/
def putR (ns : List Int) (f : Int → Int → Option V) (r : List Int) : Int → Int → Option V := putC (putC f (r0 r) (r1 r) (.int (r2 r))) (r1 r) (r0 r) (.int (bk ns (r2 r)))
def bothF (ns : List Int) (R : List (List Int)) : Int → Int → Option V := R.foldl (putR ns) (fun _ _ => none)
theorem bothF_snoc {ns : List Int} {R : List (List Int)} {i : Nat} {r : List Int} (h : R[i]? = some r) : bothF ns (R.take (i + 1)) = putR ns (bothF ns (R.take i)) r := by
  unfold bothF
  rw [List.take_add_one, h, List.foldl_append]
  rfl
def RowOk (ns : List Int) (r : List Int) : Prop := ∃ a b t, r = [a, b, t] ∧ InT ns t
def spBoth2 (C : Addr) : Sp := fun vs H Q _ => ∃ (x r : Addr) (ns : List Int) (R : List (List Int)), vs = [.ref x, .ref r] ∧ TiesAt C H x ns ∧ TupsAt H r R ∧ R.length ≤ 100 ∧ (∀ y ∈ R, RowOk ns y) ∧ ∀ (H' : Hp) (z : Addr), Same H H' → H z = none → DiT H' z (2 * R.length) (bothF ns R) → Q (.ref z) H'
section
variable {P : Program} {w : World} {K : PySem.W.Frag} {mg : Str → Option Value} {base : Heap}
theorem ok_both {f C CN fB : Addr} {fd fdB : FuncData} (F : Fun K "_ties_both_ways" "_ties_both_ways" s_both f fd) (T : TiC K C) (GK : Mt P w K mg base (L2.CX P w) 3 C "back" fB fdB ["self", "tie"] (spBack C CN)) : FnOk P w K mg base CX0 4 f fd ["ties", "rows"] (spBoth2 C) := by
  refine F.ok sc_both (fun vs H Q E h => ?_) (fun cdv A outer s H vs Q E hr h => ?_)
  · obtain ⟨x, r, ns, R, rfl, _⟩ := h
    rfl
  · obtain ⟨x, r, ns, R, rfl, hT, hr', l100, ok, k⟩ := h
    refine ⟨_, (pss_cons 
  (ps_set (i := 2) sc_both.nd rfl (Or.inl rfl) pe_dnewT) (pss_cons 
  (ps_for PassesOwn.never rfl (pi_tup (pv 1)) (pg_tup (by rfl) (pgs_cons (pg_name (i := 3) sc_both.nd rfl (Or.inl rfl)) (pgs_cons (pg_name (i := 4) sc_both.nd rfl (Or.inl rfl)) (pgs_cons (pg_name (i := 5) sc_both.nd rfl (Or.inl rfl)) pgs_nil)))) (pss_cons 
    (ps_asg (pv 5) (pg_sub (pv 2) (pe_tup (pa_cons (pv 3) (pa_cons (pv 4) pa_nil))) (set_dict (un1 hr)))) (pss_one 
    (ps_asg (pe_meth (pv 0) T.cl GK.M GK.F hr GK.b .nil passL (pa_cons (pv 5) pa_nil)) (pg_sub (pv 2) (pe_tup (pa_cons (pv 4) (pa_cons (pv 3) pa_nil))) (set_dict (un1 hr))))))) (pss_one 
  (ps_ret (pv 2))))), ?_⟩
    refine fun D hD => ?_
    have S0 : Same H (upd H D (.dT [])) := new_same hD
    have d0 : DiT (upd H D (.dT [])) D 0 (fun _ _ => none) := DiT.nil
    generalize upd H D (.dT []) = H1 at S0 d0
    obtain ⟨ps, e1, e2, e3⟩ := hr'
    refine ⟨_, rfl, r, rfl, ⟨_, SqT.of (S0 _ _ e1)⟩, for_tup (K := K) (a := r) (xs := ps.map V.ref) (fun i σ H' => Same H H' ∧ (∃ v3 v4 v5, σ = [some (.ref x), some (.ref r), some (.ref D), v3, v4, v5]) ∧ DiT H' D (2 * i) (bothF ns (R.take i))) ⟨S0, ⟨_, _, _, rfl⟩, d0⟩ (fun i σ H' _ h => SqT.of (h.1 _ _ e1)) ?_ ?_⟩
    · rintro i v σ H2 ev ⟨S2, ⟨v3, v4, v5, rfl⟩, d2⟩
      rw [List.getElem?_map] at ev
      cases ep : ps[i]? with
      | none => rw [ep] at ev; cases ev
      | some p =>
        rw [ep] at ev
        obtain rfl : V.ref p = v := Option.some.inj ev
        have hp := (List.getElem?_eq_some_iff.mp ep).1
        have er := List.getElem?_eq_getElem (l := R) (i := i) (by omega)
        generalize R[i]'(by omega) = row at er
        obtain ⟨a, b, t, rfl, it⟩ := ok row (List.mem_of_getElem? er)
        have hp2 := S2 _ _ (e3 i p _ ep er)
        refine ⟨p, _, rfl, SqT.of hp2, rfl, _, _, rfl, _, _, rfl, _, _, rfl, rfl, ?_⟩
        refine ⟨_, rfl, _, rfl, _, rfl, _, rfl, (by show 2 ≤ sizeLine; decide), fun z hz => ?_⟩
        have S3 : Same H2 (upd H2 z (.tup [.int a, .int b])) := new_same hz
        obtain ⟨H4, dp, d4, B4⟩ := (d2.keep S3).put (x := a) (y := b) (v := .int t) (by omega) (upd_same (o := .tup [.int a, .int b]))
        generalize upd H2 z (.tup [.int a, .int b]) = H3 at S3 dp B4
        refine ⟨D, H4, rfl, dp, ?_⟩
        have nD : H D = none := hD
        have S4 : Same H H4 := fun c o e => B4 c o (ne_of_none e nD) ((S2.trans S3) c o e)
        have hT4 := hT.keep S4
        obtain ⟨dx, tt, ex, et⟩ := id hT4
        refine ⟨_, rfl, x, dx, _, rfl, ex, rfl, _, rfl, x, ns, .int t, .sc (.int t), rfl, hT4, ⟨rfl, rfl⟩, fun i' b' q1 q2 => ?_, fun e => (by rw [tie_in it] at e; cases e)⟩
        have eb : ns[t.toNat]? = some (bk ns t) := bk_get it
        have hi : i' = t.toNat := by have := V.int.inj q1; omega
        rw [hi, eb] at q2
        obtain rfl := Option.some.inj q2
        refine ⟨_, rfl, _, rfl, _, rfl, (by show 2 ≤ sizeLine; decide), fun z2 hz2 => ?_⟩
        have S5 : Same H4 (upd H4 z2 (.tup [.int b, .int a])) := new_same hz2
        obtain ⟨H6, dp6, d6, B6⟩ := (d4.keep S5).put (x := b) (y := a) (v := .int (bk ns t)) (by omega) (upd_same (o := .tup [.int b, .int a]))
        generalize upd H4 z2 (.tup [.int b, .int a]) = H5 at S5 dp6 B6
        refine ⟨D, H6, rfl, dp6, fun c o e => B6 c o (ne_of_none e nD) ((S4.trans S5) c o e), ⟨_, _, _, rfl⟩, ?_⟩
        rw [bothF_snoc er]
        obtain ⟨kvs, g1, g2, g3⟩ := d6
        exact ⟨kvs, g1, by omega, g3⟩
    · rintro σ H2 ⟨S2, ⟨v3, v4, v5, rfl⟩, d2⟩
      rw [List.length_map, e2, List.take_length] at d2
      exact ⟨_, rfl, k H2 D S2 hD d2⟩
end
end J

set_option Elab.async false
set_option linter.all false
set_option maxRecDepth 100000
set_option maxHeartbeats 8000000
namespace J
open PySem PySem.Spec PyProof.Rows L2
section
variable {P : Program} {w : World} {K : PySem.W.Frag} {mg : Str → Option Value} {base : Heap}
abbrev s_is_label : Stmt := top 17
theorem sc_is_label : FnScope ["thing"] ["thing"] (defScope s_is_label) := ⟨rfl, rfl, rfl, by decide +kernel, rfl, by decide +kernel, by decide +kernel⟩
def spLabel : Sp := fun vs H Q _ => ∃ (x : V) (s : Sh), vs = [x] ∧ Is H x s ∧ Q (.bl (wholeB x 0 1000000000)) H
theorem ok_is_label {f fW : Addr} {fd fdW : FuncData} (F : Fun K "is_label" "is_label" s_is_label f fd) (GW : Cal P w K mg base CX0 1 "is_whole" fW fdW ["thing", "low", "high"] spWhole) (mL : ∃ t, mg "MOST_LABEL" = some (.int 1000000000 t)) : FnOk P w K mg base CX0 2 f fd ["thing"] spLabel := by
  obtain ⟨t, mL⟩ := mL
  refine F.ok sc_is_label (fun vs H Q E h => ?_) (fun cdv A outer s H vs Q E hr h => ?_)
  · obtain ⟨x, s, rfl, _⟩ := h
    rfl
  · obtain ⟨x, sh, rfl, hx, k⟩ := h
    refine ⟨_, (pss_one 
  (ps_ret (pcal GW hr pass0 (pa_cons (pv 0) (pa_cons pe_int (pa_cons (pe_glob (v := .int 1000000000) rfl mL ⟨_, rfl⟩) pa_nil)))))), ?_⟩
    exact ⟨_, rfl, x, sh, 0, 1000000000, rfl, hx, k⟩
end
theorem for_enumOr {K : PySem.W.Frag} {i : Nat} {a : Addr} {xs : List V} {g : TG} {tb : TS} {D : Ends} {σ : L2.St} {H : Hp} (hσ : σ[i]? = some (some (.ref a))) (hA : H a = some (.lst xs) ∨ H a = some (.tup xs)) (Pv : Nat → L2.St → Hp → Prop) (h0 : Pv 0 σ H) (hl : ∀ i σ H', i ≤ xs.length → Pv i σ H' → H' a = H a)
    (hs : ∀ i x σ H T, xs[i]? = some x → Pv i σ H → H T = none → g (.ref T) σ (upd H T (.tup [.int (i : Nat), x])) fun σ2 H2 => tb { D with nx := Pv (i + 1), ct := Pv (i + 1), bk := D.nx } σ2 H2) (hd : ∀ σ H, Pv xs.length σ H → D.nx σ H) : tFor (iOr (iEnum K (tCons (tVar i) tNil)) (iEnumT K (tCons (tVar i) tNil))) g tb D σ H := by
  rcases hA with e | e
  · exact .inl ⟨_, hσ, a, xs, rfl, SqL.of e, for_enum (K := K) (a := a) (xs := xs) Pv h0 (fun i σ H' hi p => SqL.of ((hl i σ H' hi p).trans e)) hs hd⟩
  · exact .inr ⟨_, hσ, a, xs, rfl, SqT.of e, for_enumT (K := K) (a := a) (xs := xs) Pv h0 (fun i σ H' hi p => SqT.of ((hl i σ H' hi p).trans e)) hs hd⟩
/-! ### known rows, judged -/
def labB (v : V) : Bool := wholeB v 0 1000000000
def toldB (R : List (List Int)) (a b : Int) : Bool := R.any fun r => (decide (r0 r = a) && decide (r1 r = b)) || (decide (r0 r = b) && decide (r1 r = a))
def coupJ (ls : List Int) (x y : V) : Bool := labB x && (labB y && (inV x (ls.map V.int) && (inV y (ls.map V.int) && !decide (x = y))))
def num3 (R : List (List Int)) : V → V → V → Sum Str (List Int)
  | .int a, .int b, .int c => if toldB R a b = true then .inl "twice" else .inr [a, b, c]
  | _, _, _ => .inl "couple"
def rowJ (ns ls : List Int) (R : List (List Int)) (s : Sh) : Sum Str (List Int) :=
  if (s.isL || s.isT) = true then
    match items s with
    | [x, y, t] =>
      if coupJ ls x y = true then
        if tieB ns t = true then
          num3 R x y t
        else .inl "tie"
      else .inl "couple"
    | _ => .inl "row"
  else .inl "row"
def rowsJ (ns ls : List Int) : List Sh → List (List Int) → Sum (Nat × Str) (List (List Int))
  | [], R => .inr R
  | s :: ss, R => match rowJ ns ls R s with
    | .inl w => .inl (R.length, w)
    | .inr r => rowsJ ns ls ss (R ++ [r])
theorem rowsJ_step {ns ls : List Int} {ss : List Sh} {R : List (List Int)} {i : Nat} {s : Sh} (h : ss[i]? = some s) : rowsJ ns ls (ss.drop i) R = match rowJ ns ls R s with
    | .inl w => .inl (R.length, w)
    | .inr r => rowsJ ns ls (ss.drop (i + 1)) (R ++ [r]) := by
  have hi := (List.getElem?_eq_some_iff.mp h).1
  rw [List.drop_eq_getElem_cons hi]
  rw [(List.getElem?_eq_some_iff.mp h).2]
  rfl
def toldF (R : List (List Int)) : Int → Int → Option V := fun a b => if toldB R a b = true then some (.bl true) else none
theorem toldF_put {R : List (List Int)} {a b c : Int} : putC (putC (toldF R) a b (.bl true)) b a (.bl true) = toldF (R ++ [[a, b, c]]) := by
  funext x y
  unfold putC toldF toldB
  rw [List.any_append]
  have e : (List.any [[a, b, c]] fun r => (decide (r0 r = x) && decide (r1 r = y)) || (decide (r0 r = y) && decide (r1 r = x))) = ((decide (a = x) && decide (b = y)) || (decide (a = y) && decide (b = x))) := by
    simp [List.any_cons]
  rw [e]
  by_cases h1 : x = b ∧ y = a
  · rw [if_pos h1]
    obtain ⟨rfl, rfl⟩ := h1
    simp
  · rw [if_neg h1]
    by_cases h2 : x = a ∧ y = b
    · rw [if_pos h2]
      obtain ⟨rfl, rfl⟩ := h2
      simp
    · rw [if_neg h2]
      have e1 : (decide (a = x) && decide (b = y)) = false := by
        rw [Bool.and_eq_false_iff, decide_eq_false_iff_not, decide_eq_false_iff_not]
        by_cases q : a = x
        · exact .inr fun z => h2 ⟨q.symm, z.symm⟩
        · exact .inl q
      have e2 : (decide (a = y) && decide (b = x)) = false := by
        rw [Bool.and_eq_false_iff, decide_eq_false_iff_not, decide_eq_false_iff_not]
        by_cases q : a = y
        · exact .inr fun z => h1 ⟨z.symm, q.symm⟩
        · exact .inl q
      rw [e1, e2, Bool.or_false, Bool.or_false]
theorem toldF_nil : toldF [] = fun _ _ => none := by
  funext x y
  rfl
abbrev s_chkKnown : Stmt := top 27
theorem sc_chkKnown : FnScope ["book", "labels", "known", "told", "index", "row", "x", "y", "tie"] ["book", "labels", "known"] (defScope s_chkKnown) := ⟨rfl, rfl, rfl, by decide +kernel, rfl, by decide +kernel, by decide +kernel⟩
def spCK (C CB CE : Addr) : Sp := fun vs H Q E => ∃ (x : Addr) (ns : List Int) (L : List (List Int)) (l v : V) (sl s : Sh) (ls : List Int) (ss : List Sh), vs = [.ref x, l, v] ∧ BookAt C CB H x ns L ∧ Is H l sl ∧ (sl.isL || sl.isT) = true ∧ items sl = ls.map V.int ∧ Is H v s ∧ (s.isL || s.isT) = true ∧ ShAll H (items s) ss ∧ ss.length ≤ 400 ∧
  (∀ j u, rowsJ ns ls ss [] = .inl (j, u) → Told H CE (j : Nat) u E) ∧ (∀ R, rowsJ ns ls ss [] = .inr R → ∀ H', Same H H' → Q .non H')
theorem coup_test {K : PySem.W.Frag} {σ : L2.St} {H : Hp} {Q : Bool → Hp → Prop} {x y : V} {pl : Addr} {ls : List Int} (h6 : σ[6]? = some (some x)) (h7 : σ[7]? = some (some y)) (h1 : σ[1]? = some (some (.ref pl))) (hl : SqL K H pl (ls.map V.int) ∨ SqT K H pl (ls.map V.int)) (isx : ∃ s, Is H x s) (isy : ∃ s, Is H y s) (q : Q (!coupJ ls x y) H) :
    (tOr (tNot (tB (tCall spLabel [] E0 (tCons (tVar 6) tNil)))) (tOr (tNot (tB (tCall spLabel [] E0 (tCons (tVar 7) tNil)))) (tOr (tTest (tOp (rIn K true) (tVar 6) (tVar 1))) (tOr (tTest (tOp (rIn K true) (tVar 7) (tVar 1))) (tTest (tOp rEq (tVar 6) (tVar 7))))))) σ H Q := by
  obtain ⟨sx, isx⟩ := isx
  obtain ⟨sy, isy⟩ := isy
  unfold coupJ at q
  refine ⟨_, h6, x, sx, rfl, isx, _, rfl, ?_⟩
  cases lx : labB x with
  | false =>
    rw [lx] at q
    exact if_tr (by rw [show wholeB x 0 1000000000 = false from lx]; rfl) q
  | true =>
    rw [lx, Bool.true_and] at q
    refine if_fa (by rw [show wholeB x 0 1000000000 = true from lx]; rfl) ⟨_, h7, y, sy, rfl, isy, _, rfl, ?_⟩
    cases ly : labB y with
    | false =>
      rw [ly] at q
      exact if_tr (by rw [show wholeB y 0 1000000000 = false from ly]; rfl) q
    | true =>
      rw [ly, Bool.true_and] at q
      obtain ⟨a, rfl, _⟩ := whole_int lx
      obtain ⟨b, rfl, _⟩ := whole_int ly
      have fl : (ls.map V.int).all flatV = true := by
        rw [List.all_map]
        exact List.all_eq_true.mpr fun _ _ => rfl
      refine if_fa (by rw [show wholeB (.int b) 0 1000000000 = true from ly]; rfl) ⟨_, h6, _, h1, pl, _, rfl, hl, rfl, fl, _, rfl, ?_⟩
      rw [if_pos rfl]
      cases ix : inV (.int a) (ls.map V.int) with
      | false =>
        rw [ix] at q
        exact if_tr rfl q
      | true =>
        rw [ix, Bool.true_and] at q
        refine if_fa rfl ⟨_, h7, _, h1, pl, _, rfl, hl, rfl, fl, _, rfl, ?_⟩
        rw [if_pos rfl]
        cases iy : inV (.int b) (ls.map V.int) with
        | false =>
          rw [iy] at q
          exact if_tr rfl q
        | true =>
          rw [iy, Bool.true_and] at q
          refine if_fa rfl ⟨_, h6, _, h7, rfl, _, rfl, ?_⟩
          rw [Bool.not_not] at q
          exact q
section
variable {P : Program} {w : World} {K : PySem.W.Frag} {mg : Str → Option Value} {base : Heap}
theorem ok_chkKnown {f C CB CE fS fL fH fI : Addr} {fd fdS fdL fdH fdI : FuncData} (F : Fun K "_check_known" "_check_known" s_chkKnown f fd) (T : TiC K C) (c : BoC K CB) (nl : mg "len" = none) (ne : mg "enumerate" = none)
    (GS : Cal P w K mg base CX0 1 "is_sequence" fS fdS ["thing"] spSeq) (GL : Cal P w K mg base CX0 2 "is_label" fL fdL ["thing"] spLabel) (GH : Mt P w K mg base CX0 2 C "has" fH fdH ["self", "thing"] (spHas C)) (GB : Ex2 P w K mg base "BadSketch" "index" "what" CE fI fdI ["self", "index", "what"]) :
    FnOk P w K mg base (L2.CX P w) 4 f fd ["book", "labels", "known"] (spCK C CB CE) := by
  refine F.okX sc_chkKnown (fun vs H Q E h => ?_) (fun cdv A outer s H vs Q E hr h => ?_)
  · obtain ⟨x, ns, L, l, v, sl, s, ls, ss, rfl, _⟩ := h
    rfl
  · obtain ⟨x, ns, L, l, v, sl, sv, ls, ss, rfl, hB, isl, sql, eil, isv, sqv, sa, l400, k1, k2⟩ := h
    have hr2 : Room 2 (A.deeper (envOfC "_check_known" (defScope s_chkKnown) s.heap.objs.size f cdv)) := hr.mono (by decide)
    refine ⟨_, (pss_cons 
  (ps_set (i := 3) sc_chkKnown.nd rfl (Or.inl rfl) pe_dnewT) (pss_one 
  (ps_for (passes_of rfl) rfl (pi_or (pi_enum (by rfl) ne (pa_cons (pv 2) pa_nil)) (pi_enumT (by rfl) ne (pa_cons (pv 2) pa_nil))) (pg_tup (by rfl) (pgs_cons (pg_name (i := 4) sc_chkKnown.nd rfl (Or.inl rfl)) (pgs_cons (pg_name (i := 5) sc_chkKnown.nd rfl (Or.inl rfl)) pgs_nil))) (pss_cons 
    (ps_if (PW.pt (pw_or (pt_not (pt_val (pcal GS hr pass0 (pa_cons (pv 5) pa_nil)))) (pw_or1 (pt_cmpR (r := rNe) op_ne (pe_callB call_len_seq (by rfl) nl PySem.boot_len (pa_cons (pv 5) pa_nil)) pe_int (nomark _))))) (pss_one 
      (ps_raise rfl (takes_of rfl rfl rfl rfl) (pmk_oex GB.o GB.i GB.t GB.F hr2 GB.b .nil pass0 rfl GB.m (pa_cons (pv 4) (pa_cons pe_str pa_nil))))) pss_nil) (pss_cons 
    (ps_asg (pv 5) (pg_or (pg_tup (by rfl) (pgs_cons (pg_name (i := 6) sc_chkKnown.nd rfl (Or.inl rfl)) (pgs_cons (pg_name (i := 7) sc_chkKnown.nd rfl (Or.inl rfl)) (pgs_cons (pg_name (i := 8) sc_chkKnown.nd rfl (Or.inl rfl)) pgs_nil)))) (pg_unl rfl (pgs_cons (pg_name (i := 6) sc_chkKnown.nd rfl (Or.inl rfl)) (pgs_cons (pg_name (i := 7) sc_chkKnown.nd rfl (Or.inl rfl)) (pgs_cons (pg_name (i := 8) sc_chkKnown.nd rfl (Or.inl rfl)) pgs_nil)))))) (pss_cons 
    (ps_if (PW.pt (pw_or (pt_not (pt_val (pcal GL hr pass0 (pa_cons (pv 6) pa_nil)))) (pw_or (pt_not (pt_val (pcal GL hr pass0 (pa_cons (pv 7) pa_nil)))) (pw_or (pt_cmpR (r := rIn K true) op_notIn_seq (pv 6) (pv 1) (by rfl)) (pw_or (pt_cmpR (r := rIn K true) op_notIn_seq (pv 7) (pv 1) (by rfl)) (pw_or1 (pt_cmpR (r := rEq) op_eq (pv 6) (pv 7) (nomark _)))))))) (pss_one 
      (ps_raise rfl (takes_of rfl rfl rfl rfl) (pmk_oex GB.o GB.i GB.t GB.F hr2 GB.b .nil pass0 rfl GB.m (pa_cons (pv 4) (pa_cons pe_str pa_nil))))) pss_nil) (pss_cons 
    (ps_if (pt_not (pt_val (pe_meth (pe_fld (pv 0) rfl) T.cl GH.M GH.F hr2 GH.b .nil pass0 (pa_cons (pv 8) pa_nil)))) (pss_one 
      (ps_raise rfl (takes_of rfl rfl rfl rfl) (pmk_oex GB.o GB.i GB.t GB.F hr2 GB.b .nil pass0 rfl GB.m (pa_cons (pv 4) (pa_cons pe_str pa_nil))))) pss_nil) (pss_cons 
    (ps_if (pt_cmp (pc_din (un1 hr) (pe_tup (pa_cons (pv 6) (pa_cons (pv 7) pa_nil))) (pv 3))) (pss_one 
      (ps_raise rfl (takes_of rfl rfl rfl rfl) (pmk_oex GB.o GB.i GB.t GB.F hr2 GB.b .nil pass0 rfl GB.m (pa_cons (pv 4) (pa_cons pe_str pa_nil))))) pss_nil) (pss_cons 
    (ps_asg pe_bl (pg_sub (pv 3) (pe_tup (pa_cons (pv 6) (pa_cons (pv 7) pa_nil))) (set_dict (un1 hr)))) (pss_one 
    (ps_asg pe_bl (pg_sub (pv 3) (pe_tup (pa_cons (pv 7) (pa_cons (pv 6) pa_nil))) (set_dict (un1 hr)))))))))))))), ?_⟩
    obtain ⟨p, xs, rfl, ep, ei⟩ : ∃ p xs, v = .ref p ∧ (H p = some (.lst xs) ∨ H p = some (.tup xs)) ∧ items sv = xs := by
      cases sv with
      | sc u => cases sqv
      | dk => cases sqv
      | lst xs => obtain ⟨p, e, h⟩ := isv; exact ⟨p, xs, e, .inl h, rfl⟩
      | tup xs => obtain ⟨p, e, h⟩ := isv; exact ⟨p, xs, e, .inr h, rfl⟩
    obtain ⟨pl, rfl, epl⟩ : ∃ pl, l = .ref pl ∧ (H pl = some (.lst (ls.map V.int)) ∨ H pl = some (.tup (ls.map V.int))) := by
      rw [← eil]
      cases sl with
      | sc u => cases sql
      | dk => cases sql
      | lst xs => obtain ⟨p, e, h⟩ := isl; exact ⟨p, e, .inl h⟩
      | tup xs => obtain ⟨p, e, h⟩ := isl; exact ⟨p, e, .inr h⟩
    subst ei
    refine fun D hD => ?_
    have S0 : Same H (upd H D (.dT [])) := new_same hD
    have d0 : DiT (upd H D (.dT [])) D 0 (toldF []) := by rw [toldF_nil]; exact DiT.nil
    generalize upd H D (.dT []) = H1 at S0 d0
    have lxs : ss.length = (items sv).length := (ShAll.len sa).symm
    refine for_enumOr (a := p) (xs := items sv) rfl (ep.imp (S0 _ _) (S0 _ _)) (fun i σ H' => Same H H' ∧ ∃ (R : List (List Int)) (v4 v5 v6 v7 v8 : Option V), σ = [some (.ref x), some (.ref pl), some (.ref p), some (.ref D), v4, v5, v6, v7, v8] ∧ DiT H' D (2 * i) (toldF R) ∧ rowsJ ns ls ss [] = rowsJ ns ls (ss.drop i) R ∧ R.length = i)
      ⟨S0, [], _, _, _, _, _, rfl, d0, rfl, rfl⟩ (fun i σ H' _ h => by rcases ep with e | e <;> rw [h.1 _ _ e, S0 _ _ e]) ?_ ?_
    · rintro i y σ H' T0 hy ⟨S2, R, v4, v5, v6, v7, v8, rfl, d2, run, lR⟩ hT0
      refine ⟨T0, _, rfl, SqT.of upd_same, rfl, _, _, rfl, _, _, rfl, rfl, ?_⟩
      have S3 : Same H' (upd H' T0 (.tup [.int (i : Nat), y])) := new_same hT0
      generalize upd H' T0 (.tup [.int (i : Nat), y]) = H3 at S3
      have S03 := S2.trans S3
      obtain ⟨sy, hsy, isy, kny⟩ := ShAll.at_ sa hy
      have hi : i < ss.length := (List.getElem?_eq_some_iff.mp hsy).1
      have st := rowsJ_step (ns := ns) (ls := ls) (R := R) hsy
      have say : ∀ w, rowJ ns ls R sy = .inl w → Told H CE (i : Nat) w E := fun w e => by
        rw [e, lR] at st
        have st : rowsJ ns ls (ss.drop i) R = .inl (i, w) := st
        exact k1 i w (run.trans st)
      refine ⟨_, rfl, y, sy, rfl, isy.keep S03, fun H5 S5 => ⟨_, rfl, ?_⟩⟩
      have S05 := S03.trans S5
      have d5 := d2.keep (S3.trans S5)
      cases sqy : (sy.isL || sy.isT) with
      | false =>
        refine if_tr rfl (iteT ⟨_, rfl, mkO_of2 ((say "row" ?_).mono S05)⟩)
        unfold rowJ
        rw [sqy, if_neg Bool.false_ne_true]
      | true =>
        obtain ⟨u, ys, rfl, eu, eys⟩ : ∃ u ys, y = .ref u ∧ (H u = some (.lst ys) ∨ H u = some (.tup ys)) ∧ items sy = ys := by
          cases sy with
          | sc u => cases sqy
          | dk => cases sqy
          | lst xs => obtain ⟨p, e, h⟩ := isy; exact ⟨p, xs, e, .inl h, rfl⟩
          | tup xs => obtain ⟨p, e, h⟩ := isy; exact ⟨p, xs, e, .inr h, rfl⟩
        subst eys
        have su : SqL K H5 u (items sy) ∨ SqT K H5 u (items sy) := eu.imp (fun e => SqL.of (S05 _ _ e)) (fun e => SqT.of (S05 _ _ e))
        refine if_fa rfl ⟨_, rfl, u, _, rfl, su, rfl, _, rfl, ?_⟩
        have rj : rowJ ns ls R sy = match items sy with
            | [x, y, t] =>
              if coupJ ls x y = true then
                if tieB ns t = true then
                  num3 R x y t
                else .inl "tie"
              else .inl "couple"
            | _ => .inl "row" := by unfold rowJ; rw [sqy, if_pos rfl]
        by_cases l3 : (items sy).length = 3
        · refine if_fa (by show (!decide (V.int ((items sy).length : Nat) = V.int 3)) = false; rw [l3]; rfl) ?_
          obtain ⟨xv, yv, tv, e3⟩ : ∃ a b c, items sy = [a, b, c] := by
            generalize items sy = zs at l3
            match zs, l3 with
            | [a, b, c], _ => exact ⟨a, b, c, rfl⟩
          rw [e3] at rj
          have rj : rowJ ns ls R sy = if coupJ ls xv yv = true then
                if tieB ns tv = true then
                  num3 R xv yv tv
                else .inl "tie"
              else .inl "couple" := rj
          have kn5 := kny.keep S05
          rw [e3] at kn5
          refine ⟨_, rfl, un_seq ((show Is H (.ref u) sy from isy).keep S05) sqy e3 rfl ⟨_, _, rfl, _, _, rfl, _, _, rfl, rfl, ?_⟩⟩
          have hl5 : SqL K H5 pl (ls.map V.int) ∨ SqT K H5 pl (ls.map V.int) := epl.imp (fun e => SqL.of (S05 _ _ e)) (fun e => SqT.of (S05 _ _ e))
          refine coup_test (x := xv) (y := yv) (pl := pl) (ls := ls) rfl rfl rfl hl5 (kn5 _ List.mem_cons_self) (kn5 _ (List.mem_cons_of_mem _ List.mem_cons_self)) ?_
          cases cj : coupJ ls xv yv with
          | false =>
            rw [cj, if_neg Bool.false_ne_true] at rj
            exact iteT ⟨_, rfl, mkO_of2 ((say "couple" rj).mono S05)⟩
          | true =>
            rw [cj, if_pos rfl] at rj
            obtain ⟨dx, tt, bb, lb, rb, a1, a2, a3, a4, a5⟩ := hB.keep S05
            obtain ⟨dt, tb, w1, w2⟩ := id a2
            obtain ⟨st', ist⟩ := kn5 tv (List.mem_cons_of_mem _ (List.mem_cons_of_mem _ List.mem_cons_self))
            refine iteF ⟨_, rfl, x, CB, dx, _, _, rfl, a1, c.cl, c.nT, bf_ties _ _ _ _, tt, dt, _, rfl, w1, rfl, _, rfl, tt, ns, tv, st', rfl, a2, ist, _, rfl, ?_⟩
            cases tj : tieB ns tv with
            | false =>
              rw [tj, if_neg Bool.false_ne_true] at rj
              exact iteT ⟨_, rfl, mkO_of2 ((say "tie" rj).mono S05)⟩
            | true =>
              rw [tj, if_pos rfl] at rj
              have lx : labB xv = true := by
                unfold coupJ at cj
                cases e : labB xv with
                | true => rfl
                | false => rw [e] at cj; cases cj
              have ly : labB yv = true := by
                unfold coupJ at cj
                rw [lx] at cj
                cases e : labB yv with
                | true => rfl
                | false => rw [e] at cj; cases cj
              obtain ⟨va, rfl, _⟩ := whole_int lx
              obtain ⟨vb, rfl, _⟩ := whole_int ly
              obtain ⟨vc, rfl, _⟩ := whole_int tj
              have rj : rowJ ns ls R sy = if toldB R va vb = true then .inl "twice" else .inr [va, vb, vc] := rj
              refine iteF ⟨_, rfl, _, rfl, (by show 2 ≤ sizeLine; decide), fun z hz => ?_⟩
              have S6 : Same H5 (upd H5 z (.tup [.int va, .int vb])) := new_same hz
              have ez : (upd H5 z (.tup [.int va, .int vb])) z = some (.tup [.int va, .int vb]) := upd_same
              generalize upd H5 z (.tup [.int va, .int vb]) = H6 at S6 ez
              have S06 := S05.trans S6
              have d6 := d5.keep S6
              refine ⟨_, rfl, D, _, rfl, d6.get ez, _, rfl, ?_⟩
              cases tw : toldB R va vb with
              | true =>
                rw [tw, if_pos rfl] at rj
                exact if_tr (by unfold toldF; rw [tw]; rfl) ⟨_, rfl, mkO_of2 ((say "twice" rj).mono S06)⟩
              | false =>
                rw [tw, if_neg Bool.false_ne_true] at rj
                refine if_fa (by unfold toldF; rw [tw]; rfl) ⟨_, rfl, _, rfl, _, rfl, (by show 2 ≤ sizeLine; decide), fun z2 hz2 => ?_⟩
                have S7 : Same H6 (upd H6 z2 (.tup [.int va, .int vb])) := new_same hz2
                obtain ⟨H8, dp8, d8, B8⟩ := (d6.keep S7).put (x := va) (y := vb) (v := .bl true) (by omega) (upd_same (o := .tup [.int va, .int vb]))
                generalize upd H6 z2 (.tup [.int va, .int vb]) = H7 at S7 dp8 B8
                have S08 : Same H H8 := fun q o e => B8 q o (ne_of_none e hD) ((S06.trans S7) q o e)
                refine ⟨D, H8, rfl, dp8, _, rfl, _, rfl, _, rfl, (by show 2 ≤ sizeLine; decide), fun z3 hz3 => ?_⟩
                have S9 : Same H8 (upd H8 z3 (.tup [.int vb, .int va])) := new_same hz3
                obtain ⟨H10, dp10, d10, B10⟩ := (d8.keep S9).put (x := vb) (y := va) (v := .bl true) (by omega) (upd_same (o := .tup [.int vb, .int va]))
                generalize upd H8 z3 (.tup [.int vb, .int va]) = H9 at S9 dp10 B10
                refine ⟨D, H10, rfl, dp10, fun q o e => B10 q o (ne_of_none e hD) ((S08.trans S9) q o e), R ++ [[va, vb, vc]], _, _, _, _, _, rfl, ?_, ?_, by rw [List.length_append, lR]; rfl⟩
                · rw [toldF_put] at d10
                  obtain ⟨kvs, g1, g2, g3⟩ := d10
                  exact ⟨kvs, g1, by omega, g3⟩
                · rw [run, st, rj]
        · refine if_tr (by show (!decide (V.int ((items sy).length : Nat) = V.int 3)) = true; rw [decide_eq_false (fun e => l3 (by have := V.int.inj e; omega))]; rfl) ⟨_, rfl, mkO_of2 ((say "row" ?_).mono S05)⟩
          rw [rj]
          generalize items sy = zs at l3
          match zs, l3 with
          | [], _ => rfl
          | [_], _ => rfl
          | [_, _], _ => rfl
          | [_, _, _], l3 => exact absurd rfl l3
          | _ :: _ :: _ :: _ :: _, _ => rfl
    · rintro σ H' ⟨S2, R, v4, v5, v6, v7, v8, rfl, d2, run, lR⟩
      rw [← lxs, List.drop_length] at run
      exact k2 R run H' S2
end
end J

set_option Elab.async false
set_option linter.all false
set_option maxRecDepth 100000
set_option maxHeartbeats 8000000
namespace J
open PySem PySem.Spec PyProof.Rows L2
/-! ### labels, judged -/
def lastOk (ls : List Int) (n : Int) : Bool := match ls.getLast? with
  | none => true
  | some m => decide (m < n)
def labOne (ls : List Int) (v : V) : Option Int := match v with
  | .int n => if (labB (.int n) && lastOk ls n) = true then some n else none
  | _ => none
def labsJ : List V → List Int → Sum Nat (List Int)
  | [], ls => .inr ls
  | v :: vs, ls => match labOne ls v with
    | none => .inl ls.length
    | some n => labsJ vs (ls ++ [n])
theorem labsJ_step {xs : List V} {ls : List Int} {i : Nat} {v : V} (h : xs[i]? = some v) : labsJ (xs.drop i) ls = match labOne ls v with
    | none => .inl ls.length
    | some n => labsJ (xs.drop (i + 1)) (ls ++ [n]) := by
  have hi := (List.getElem?_eq_some_iff.mp h).1
  rw [List.drop_eq_getElem_cons hi]
  rw [(List.getElem?_eq_some_iff.mp h).2]
  rfl
/-- labels and known rows, judged -/
def skJ (ns : List Int) (sl sv : Sh) (ss : List Sh) : Sum (Nat × Str) (List Int × List (List Int)) :=
  if (sl.isL || sl.isT) = true then
    if (sv.isL || sv.isT) = true then
      if (items sl).length ≤ 6 then
        match labsJ (items sl) [] with
        | .inl j => .inl (j, "label")
        | .inr ls => match rowsJ ns ls ss [] with
          | .inl p => .inl p
          | .inr R => .inr (ls, R)
      else .inl (6, "many")
    else .inl (1, "sequence")
  else .inl (0, "sequence")
abbrev s_chkSk : Stmt := top 26
theorem sc_chkSk : FnScope ["book", "labels", "known", "index", "thing", "label"] ["book", "labels", "known"] (defScope s_chkSk) := ⟨rfl, rfl, rfl, by decide +kernel, rfl, by decide +kernel, by decide +kernel⟩
def spCS (C CB CE : Addr) : Sp := fun vs H Q E => ∃ (x : Addr) (ns : List Int) (L : List (List Int)) (l v : V) (sl s : Sh) (ss : List Sh), vs = [.ref x, l, v] ∧ BookAt C CB H x ns L ∧ Is H l sl ∧ Known H (items sl) ∧ Is H v s ∧ ShAll H (items s) ss ∧ ss.length ≤ 400 ∧
  (∀ j u, skJ ns sl s ss = .inl (j, u) → Told H CE (j : Nat) u E) ∧ (∀ ls R, skJ ns sl s ss = .inr (ls, R) → ∀ H', Same H H' → Q .non H')
section
variable {P : Program} {w : World} {K : PySem.W.Frag} {mg : Str → Option Value} {base : Heap}
theorem ok_chkSk {f C CB CE fS fL fK fI : Addr} {fd fdS fdL fdK fdI : FuncData} (F : Fun K "_check_sketch" "_check_sketch" s_chkSk f fd) (nl : mg "len" = none) (ne : mg "enumerate" = none) (mM : ∃ t, mg "MOST_LABELS" = some (.int 6 t))
    (GS : Cal P w K mg base CX0 1 "is_sequence" fS fdS ["thing"] spSeq) (GL : Cal P w K mg base CX0 2 "is_label" fL fdL ["thing"] spLabel) (GK : Cal P w K mg base (L2.CX P w) 4 "_check_known" fK fdK ["book", "labels", "known"] (spCK C CB CE)) (GB : Ex2 P w K mg base "BadSketch" "index" "what" CE fI fdI ["self", "index", "what"]) :
    FnOk P w K mg base (L2.CX P w) 5 f fd ["book", "labels", "known"] (spCS C CB CE) := by
  obtain ⟨tM, mM⟩ := mM
  refine F.okX sc_chkSk (fun vs H Q E h => ?_) (fun cdv A outer s H vs Q E hr h => ?_)
  · obtain ⟨x, ns, L, l, v, sl, s, ss, rfl, _⟩ := h
    rfl
  · obtain ⟨x, ns, L, l, v, sl, sv, ss, rfl, hB, isl, knl, isv, sa, l400, k1, k2⟩ := h
    have hr2 : Room 2 (A.deeper (envOfC "_check_sketch" (defScope s_chkSk) s.heap.objs.size f cdv)) := hr.mono (by decide)
    refine ⟨_, (pss_cons 
  (ps_for (passes_of rfl) rfl (pi_enumT (by rfl) ne (pa_cons (pe_tup (pa_cons (pv 1) (pa_cons (pv 2) pa_nil))) pa_nil)) (pg_tup (by rfl) (pgs_cons (pg_name (i := 3) sc_chkSk.nd rfl (Or.inl rfl)) (pgs_cons (pg_name (i := 4) sc_chkSk.nd rfl (Or.inl rfl)) pgs_nil))) (pss_one 
    (ps_if (pt_not (pt_val (pcal GS hr pass0 (pa_cons (pv 4) pa_nil)))) (pss_one 
      (ps_raise rfl (takes_of rfl rfl rfl rfl) (pmk_oex GB.o GB.i GB.t GB.F hr2 GB.b .nil pass0 rfl GB.m (pa_cons (pv 3) (pa_cons pe_str pa_nil))))) pss_nil))) (pss_cons 
  (ps_if (pt_cmpR op_gt (pe_callB call_len_seq (by rfl) nl PySem.boot_len (pa_cons (pv 1) pa_nil)) (pe_glob (v := .int 6) rfl mM ⟨_, rfl⟩) (nomark _)) (pss_one 
    (ps_raise rfl (takes_of rfl rfl rfl rfl) (pmk_oex GB.o GB.i GB.t GB.F hr2 GB.b .nil pass0 rfl GB.m (pa_cons (pe_glob (v := .int 6) rfl mM ⟨_, rfl⟩) (pa_cons pe_str pa_nil))))) pss_nil) (pss_cons 
  (ps_for (passes_of rfl) rfl (pi_or (pi_enum (by rfl) ne (pa_cons (pv 1) pa_nil)) (pi_enumT (by rfl) ne (pa_cons (pv 1) pa_nil))) (pg_tup (by rfl) (pgs_cons (pg_name (i := 3) sc_chkSk.nd rfl (Or.inl rfl)) (pgs_cons (pg_name (i := 5) sc_chkSk.nd rfl (Or.inl rfl)) pgs_nil))) (pss_one 
    (ps_if (PW.pt (pw_or (pt_not (pt_val (pcal GL hr pass0 (pa_cons (pv 5) pa_nil)))) (pw_or1 (PW.pt (pw_and (pt_cmpR op_gt (pv 3) pe_int (nomark _)) (pw_and1 (pt_cmpR op_le (pv 5) (pe_ix (r := rIxS K) ix_seq (pv 1) (pe_op op_sub (pv 3) pe_int) (fun _ _ => rfl)) (nomark _)))))))) (pss_one 
      (ps_raise rfl (takes_of rfl rfl rfl rfl) (pmk_oex GB.o GB.i GB.t GB.F hr2 GB.b .nil pass0 rfl GB.m (pa_cons (pv 3) (pa_cons pe_str pa_nil))))) pss_nil))) (pss_one 
  (ps_expr (pcal GK hr (passes_call (takes_of rfl rfl rfl rfl) (fun _ _ _ _ h => h)) (pa_cons (pv 0) (pa_cons (pv 1) (pa_cons (pv 2) pa_nil))))))))), ?_⟩
    refine ⟨_, rfl, _, rfl, (by show 2 ≤ sizeLine; decide), fun t0 ht0 => ?_⟩
    have S0 : Same H (upd H t0 (.tup [l, v])) := new_same ht0
    have et0 : (upd H t0 (.tup [l, v])) t0 = some (.tup [l, v]) := upd_same
    generalize upd H t0 (.tup [l, v]) = H0 at S0 et0
    refine ⟨t0, _, rfl, SqT.of et0, for_enumT (K := K) (a := t0) (xs := [l, v]) (fun i σ H' => Same H0 H' ∧ (∃ v3 v4, σ = [some (.ref x), some l, some v, v3, v4, none]) ∧ (0 < i → (sl.isL || sl.isT) = true) ∧ (1 < i → (sv.isL || sv.isT) = true)) ⟨Same.refl _, ⟨_, _, rfl⟩, fun h => absurd h (by omega), fun h => absurd h (by omega)⟩ (fun i σ H' _ h => SqT.of (h.1 _ _ et0)) ?_ ?_⟩
    · rintro i y σ H' T0 hy ⟨S2, ⟨v3, v4, rfl⟩, t1, t2⟩ hT0
      refine ⟨T0, _, rfl, SqT.of upd_same, rfl, _, _, rfl, _, _, rfl, rfl, ?_⟩
      have S3 : Same H' (upd H' T0 (.tup [.int (i : Nat), y])) := new_same hT0
      generalize upd H' T0 (.tup [.int (i : Nat), y]) = H3 at S3
      have S03 := (S0.trans S2).trans S3
      match i, hy with
      | 0, hy =>
        obtain rfl : l = y := Option.some.inj hy
        refine ⟨_, rfl, l, sl, rfl, isl.keep S03, fun H5 S5 => ⟨_, rfl, ?_⟩⟩
        cases e : (sl.isL || sl.isT) with
        | false =>
          refine iteT ⟨_, rfl, mkO_of2 ((k1 0 "sequence" ?_).mono (S03.trans S5))⟩
          unfold skJ
          rw [e, if_neg Bool.false_ne_true]
        | true => exact iteF ⟨(S2.trans S3).trans S5, ⟨_, _, rfl⟩, fun _ => rfl, fun h => absurd h (by omega)⟩
      | 1, hy =>
        obtain rfl : v = y := Option.some.inj hy
        refine ⟨_, rfl, v, sv, rfl, isv.keep S03, fun H5 S5 => ⟨_, rfl, ?_⟩⟩
        have e0 := t1 (by omega)
        cases e : (sv.isL || sv.isT) with
        | false =>
          refine iteT ⟨_, rfl, mkO_of2 ((k1 1 "sequence" ?_).mono (S03.trans S5))⟩
          unfold skJ
          rw [e0, if_pos rfl, e, if_neg Bool.false_ne_true]
        | true => exact iteF ⟨(S2.trans S3).trans S5, ⟨_, _, rfl⟩, fun _ => e0, fun _ => rfl⟩
      | i + 2, hy => simp at hy
    · rintro σ H1 ⟨S1, ⟨v3, v4, rfl⟩, t1, t2⟩
      have sql := t1 (by decide : 0 < 2)
      have sqv := t2 (by decide : 1 < 2)
      have S01 := S0.trans S1
      obtain ⟨pl, xs, rfl, epl, exs⟩ : ∃ p xs, l = .ref p ∧ (H p = some (.lst xs) ∨ H p = some (.tup xs)) ∧ items sl = xs := by
        cases sl with
        | sc u => cases sql
        | dk => cases sql
        | lst xs => obtain ⟨p, e, h⟩ := isl; exact ⟨p, xs, e, .inl h, rfl⟩
        | tup xs => obtain ⟨p, e, h⟩ := isl; exact ⟨p, xs, e, .inr h, rfl⟩
      have sk0 : skJ ns sl sv ss = if (items sl).length ≤ 6 then
          match labsJ (items sl) [] with
          | .inl j => .inl (j, "label")
          | .inr ls => match rowsJ ns ls ss [] with
            | .inl p => .inl p
            | .inr R => .inr (ls, R)
        else .inl (6, "many") := by
        unfold skJ
        rw [sql, sqv, if_pos rfl, if_pos rfl]
      have ep1 : H1 pl = some (.lst xs) ∨ H1 pl = some (.tup xs) := epl.imp (S01 _ _) (S01 _ _)
      have sq1 : SqL K H1 pl xs ∨ SqT K H1 pl xs := ep1.imp SqL.of SqT.of
      rw [exs] at sk0
      refine ⟨_, rfl, pl, xs, rfl, sq1, _, _, rfl, rfl, _, rfl, ?_⟩
      by_cases c6 : xs.length ≤ 6
      case neg =>
        rw [if_neg c6] at sk0
        exact if_tr (decide_eq_true (by omega)) (mkO_of2 ((k1 6 "many" sk0).mono S01))
      rw [if_pos c6] at sk0
      refine if_fa (decide_eq_false (by omega)) ?_
      refine for_enumOr (a := pl) (xs := xs) rfl ep1 (fun i σ H' => Same H1 H' ∧ (∃ v3 v4 v5, σ = [some (.ref x), some (.ref pl), some v, v3, v4, v5]) ∧ ∃ ls : List Int, ls.length = i ∧ xs.take i = ls.map V.int ∧ labsJ xs [] = labsJ (xs.drop i) ls) ⟨Same.refl _, ⟨_, _, _, rfl⟩, [], rfl, by rw [List.take_zero]; rfl, rfl⟩ (fun i σ H' _ h => by rcases ep1 with e | e <;> rw [h.1 _ _ e, e]) ?_ ?_
      · rintro i y σ H' T0 hy ⟨S2, ⟨v3, v4, v5, rfl⟩, ls, lls, tk, run⟩ hT0
        refine ⟨T0, _, rfl, SqT.of upd_same, rfl, _, _, rfl, _, _, rfl, rfl, ?_⟩
        have S3 : Same H' (upd H' T0 (.tup [.int (i : Nat), y])) := new_same hT0
        generalize upd H' T0 (.tup [.int (i : Nat), y]) = H3 at S3
        have S13 := S2.trans S3
        have S03 := S01.trans S13
        have st := labsJ_step (ls := ls) hy
        have say : labOne ls y = none → Told H CE (i : Nat) "label" E := fun e => by
          rw [e, lls] at st
          have st : labsJ (xs.drop i) ls = .inl i := st
          exact k1 i "label" (by rw [sk0, run, st])
        obtain ⟨sy, isy⟩ := knl y (by rw [exs]; exact List.mem_of_getElem? hy)
        refine ⟨_, rfl, y, sy, rfl, isy.keep S03, _, rfl, ?_⟩
        cases ly : labB y with
        | false =>
          refine if_tr (by rw [show wholeB y 0 1000000000 = false from ly]; rfl) (iteT ⟨_, rfl, mkO_of2 ((say ?_).mono S03)⟩)
          unfold labOne
          cases y with
          | int n => show (if (labB (.int n) && lastOk ls n) = true then some n else none) = none; rw [ly, Bool.false_and, if_neg Bool.false_ne_true]
          | _ => rfl
        | true =>
          obtain ⟨n, rfl, _⟩ := whole_int ly
          have l1 : labOne ls (.int n) = if lastOk ls n = true then some n else none := by
            show (if (labB (.int n) && lastOk ls n) = true then some n else none) = _
            rw [ly, Bool.true_and]
          refine if_fa (by rw [show wholeB (.int n) 0 1000000000 = true from ly]; rfl) ⟨_, rfl, _, _, rfl, rfl, _, rfl, ?_⟩
          have nxt : lastOk ls n = true → Same H1 H3 ∧ (∃ v3' v4' v5', [some (.ref x), some (.ref pl), some v, some (.int (i : Nat)), v4, some (.int n)] = [some (.ref x), some (.ref pl), some v, v3', v4', v5']) ∧ ∃ ls' : List Int, ls'.length = i + 1 ∧ xs.take (i + 1) = ls'.map V.int ∧ labsJ xs [] = labsJ (xs.drop (i + 1)) ls' := fun e => by
            refine ⟨S13, ⟨_, _, _, rfl⟩, ls ++ [n], by rw [List.length_append, lls]; rfl, ?_, ?_⟩
            · rw [List.take_add_one, hy, tk, List.map_append]; rfl
            · rw [run, st, l1, e, if_pos rfl]
          cases i with
          | zero =>
            obtain rfl : ls = [] := List.length_eq_zero_iff.mp lls
            exact if_fa (by rfl) (iteF (nxt rfl))
          | succ i =>
            have hi : i < ls.length := by omega
            have em := List.getElem?_eq_getElem hi
            generalize ls[i] = m at em
            have ex : xs[i]? = some (.int m) := by
              have : (xs.take (i + 1))[i]? = some (.int m) := by rw [tk, List.getElem?_map, em]; rfl
              rwa [List.getElem?_take_of_lt (by omega)] at this
            have lk : lastOk ls n = decide (m < n) := by
              unfold lastOk
              rw [List.getLast?_eq_getElem?, show ls.length - 1 = i by omega, em]
            have ep3 : H3 pl = some (.lst xs) ∨ H3 pl = some (.tup xs) := ep1.imp (S13 _ _) (S13 _ _)
            have ix : ∀ Q' : VK, Q' (.int m) H3 → rIxS K (.ref pl) (.int (((i + 1 : Nat) : Int) - 1)) H3 Q' := fun Q' q => by
              rcases ep3 with e | e
              · exact .inl ⟨pl, _, _, _, rfl, rfl, SqL.of e, at_of (j := i) (by omega) ex, q⟩
              · exact .inr ⟨pl, _, _, _, rfl, rfl, SqT.of e, at_of (j := i) (by omega) ex, q⟩
            refine if_tr (by show decide ((0 : Int) < ((i + 1 : Nat) : Int)) = true; exact decide_eq_true (by omega)) ⟨_, rfl, _, rfl, _, rfl, _, _, rfl, rfl, ix _ ⟨_, _, rfl, rfl, _, rfl, ?_⟩⟩
            by_cases c : m < n
            · exact if_fa (by show decide (n ≤ m) = false; exact decide_eq_false (by omega)) (nxt (by rw [lk]; exact decide_eq_true c))
            · refine if_tr (by show decide (n ≤ m) = true; exact decide_eq_true (by omega)) ⟨_, rfl, mkO_of2 ((say ?_).mono S03)⟩
              rw [l1, lk, decide_eq_false c, if_neg Bool.false_ne_true]
      · rintro σ H' ⟨S2, ⟨v3, v4, v5, rfl⟩, ls, lls, tk, run⟩
        rw [List.drop_length] at run
        rw [List.take_length] at tk
        have run : labsJ xs [] = .inr ls := run
        rw [run] at sk0
        have sk0 : skJ ns sl sv ss = match rowsJ ns ls ss [] with
            | .inl p => .inl p
            | .inr R => .inr (ls, R) := sk0
        have S02 := S01.trans S2
        refine ⟨_, rfl, _, rfl, _, rfl, x, ns, L, .ref pl, v, sl, sv, ls, ss, rfl, hB.keep S02, isl.keep S02, sql, by rw [exs]; exact tk, isv.keep S02, sqv, sa.keep S02, l400, fun j u e => ?_, fun R e H3 S3 => ?_⟩
        · exact (k1 j u (by rw [sk0, e])).mono S02
        · exact k2 ls R (by rw [sk0, e]) H3 (S02.trans S3)
end
end J

set_option Elab.async false
set_option linter.all false
set_option maxRecDepth 100000
set_option maxHeartbeats 8000000
namespace J
open PySem PySem.Spec PyProof.Rows L2
/-! ### what is right of known rows -/
def RwGood (ns ls : List Int) (r : List Int) : Prop := ∃ a b t, r = [a, b, t] ∧ (0 ≤ a ∧ a ≤ 1000000000) ∧ (0 ≤ b ∧ b ≤ 1000000000) ∧ a ∈ ls ∧ b ∈ ls ∧ a ≠ b ∧ InT ns t
def unlike (r r' : List Int) : Prop := ¬ ((r0 r = r0 r' ∧ r1 r = r1 r') ∨ (r0 r = r1 r' ∧ r1 r = r0 r'))
structure RwOk (ns ls : List Int) (ss : List Sh) (i : Nat) (R : List (List Int)) : Prop where
  len : R.length = i
  at_ : ∀ j s, j < i → ss[j]? = some s → ∃ a b t, R[j]? = some [a, b, t] ∧ items s = [.int a, .int b, .int t] ∧ (s.isL || s.isT) = true
  good : ∀ r ∈ R, RwGood ns ls r
  un : R.Pairwise unlike
theorem inV_mem {n : Int} {o : List Int} : inV (.int n) (o.map V.int) = true ↔ n ∈ o := by
  unfold inV
  rw [List.any_map, List.any_eq_true]
  constructor
  · rintro ⟨x, hx, e⟩
    have e : eqV (.int n) (.int x) = true ∨ eqV (.int x) (.int n) = true := by first | exact .inl e | exact .inr e
    rcases e with e | e
    · have : (n == x) = true := e
      rw [beq_iff_eq.mp this]; exact hx
    · have : (x == n) = true := e
      rw [← beq_iff_eq.mp this]; exact hx
  · intro h
    exact ⟨n, h, beq_self_eq_true n⟩
theorem coupJ_yes {ls : List Int} {x y : V} (h : coupJ ls x y = true) : ∃ a b, x = .int a ∧ y = .int b ∧ (0 ≤ a ∧ a ≤ 1000000000) ∧ (0 ≤ b ∧ b ≤ 1000000000) ∧ a ∈ ls ∧ b ∈ ls ∧ a ≠ b := by
  unfold coupJ at h
  rw [Bool.and_eq_true, Bool.and_eq_true, Bool.and_eq_true, Bool.and_eq_true] at h
  obtain ⟨h1, h2, h3, h4, h5⟩ := h
  obtain ⟨a, rfl, a0, a1⟩ := whole_int h1
  obtain ⟨b, rfl, b0, b1⟩ := whole_int h2
  refine ⟨a, b, rfl, rfl, ⟨a0, a1⟩, ⟨b0, b1⟩, inV_mem.mp h3, inV_mem.mp h4, fun e => ?_⟩
  rw [e] at h5
  simp at h5
theorem rowJ_yes {ns ls : List Int} {R : List (List Int)} {s : Sh} {r : List Int} (h : rowJ ns ls R s = .inr r) : ∃ a b t, r = [a, b, t] ∧ items s = [.int a, .int b, .int t] ∧ (s.isL || s.isT) = true ∧ RwGood ns ls r ∧ toldB R a b = false := by
  unfold rowJ at h
  split at h
  case isFalse => cases h
  case isTrue sq =>
    split at h
    case h_2 => cases h
    case h_1 x y t ei =>
      split at h
      case isFalse => cases h
      case isTrue cj =>
        split at h
        case isFalse => cases h
        case isTrue tj =>
          obtain ⟨a, b, rfl, rfl, ra, rb, ia, ib, ne⟩ := coupJ_yes cj
          obtain ⟨c, rfl, c0, c1⟩ := whole_int tj
          have h : (if toldB R a b = true then .inl "twice" else .inr [a, b, c] : Sum Str (List Int)) = .inr r := h
          split at h
          case isTrue => cases h
          case isFalse tw =>
            obtain rfl := Sum.inr.inj h
            exact ⟨a, b, c, rfl, ei, sq, ⟨a, b, c, rfl, ra, rb, ia, ib, ne, ⟨c0, by omega⟩⟩, Bool.eq_false_iff.mpr tw⟩
theorem RwOk.snoc {ns ls : List Int} {ss : List Sh} {i : Nat} {R : List (List Int)} {s : Sh} {r : List Int} (h : RwOk ns ls ss i R) (hs : ss[i]? = some s) (e : rowJ ns ls R s = .inr r) : RwOk ns ls ss (i + 1) (R ++ [r]) := by
  obtain ⟨a, b, t, rfl, ei, sq, g, tw⟩ := rowJ_yes e
  refine ⟨by rw [List.length_append, h.len]; rfl, fun j s' hj e' => ?_, fun r' hr' => ?_, ?_⟩
  · rcases Nat.lt_or_ge j i with c | c
    · obtain ⟨a', b', t', q1, q2⟩ := h.at_ j s' c e'
      exact ⟨a', b', t', by rw [List.getElem?_append_left (by rw [h.len]; exact c)]; exact q1, q2⟩
    · obtain rfl : j = i := by omega
      rw [hs] at e'
      obtain rfl := Option.some.inj e'
      exact ⟨a, b, t, by rw [List.getElem?_append_right (by rw [h.len]; exact Nat.le_refl _), h.len, Nat.sub_self]; rfl, ei, sq⟩
  · rcases List.mem_append.mp hr' with q | q
    · exact h.good r' q
    · rw [List.mem_singleton.mp q]; exact g
  · refine List.pairwise_append.mpr ⟨h.un, List.pairwise_singleton _ _, fun r' hr' z hz => ?_⟩
    rw [List.mem_singleton.mp hz]
    intro q
    unfold toldB at tw
    have := List.any_eq_false.mp tw r' hr'
    apply this
    rcases q with ⟨q1, q2⟩ | ⟨q1, q2⟩
    · have q1 : r0 r' = a := q1
      have q2 : r1 r' = b := q2
      rw [q1, q2]; simp
    · have q1 : r0 r' = b := q1
      have q2 : r1 r' = a := q2
      rw [q1, q2]; simp
theorem rows_ok {ns ls : List Int} {ss : List Sh} : ∀ (k i : Nat) (R R' : List (List Int)), k + i = ss.length → RwOk ns ls ss i R → rowsJ ns ls (ss.drop i) R = .inr R' → RwOk ns ls ss ss.length R' := by
  intro k
  induction k with
  | zero =>
    intro i R R' e ok h
    obtain rfl : i = ss.length := by omega
    rw [List.drop_length] at h
    obtain rfl : R = R' := Sum.inr.inj h
    exact ok
  | succ k ih =>
    intro i R R' e ok h
    have es := List.getElem?_eq_getElem (l := ss) (i := i) (by omega)
    generalize ss[i]'(by omega) = s at es
    rw [rowsJ_step es] at h
    cases er : rowJ ns ls R s with
    | inl w => rw [er] at h; cases h
    | inr r =>
      rw [er] at h
      exact ih (i + 1) (R ++ [r]) R' (by omega) (ok.snoc es er) h
theorem rows_all {ns ls : List Int} {ss : List Sh} {R : List (List Int)} (h : rowsJ ns ls ss [] = .inr R) : RwOk ns ls ss ss.length R :=
  rows_ok ss.length 0 [] R rfl ⟨rfl, fun j s hj _ => absurd hj (by omega), (fun r hr => nomatch hr), List.Pairwise.nil⟩ h
/-! ### the rows turned and in order -/
def turnR (ns : List Int) (r : List Int) : List Int := turn3 ns (r0 r) (r1 r) (r2 r)
abbrev big : Int := 1000000001
theorem turn_ok {ns ls : List Int} {r : List Int} (gb : GoodB ns) (g : RwGood ns ls r) : (turnR ns r).length = 3 ∧ TS.Bd big (turnR ns r) ∧ RowOk ns (turnR ns r) := by
  obtain ⟨a, b, t, rfl, ra, rb, ia, ib, ne, it⟩ := g
  have h4 := gb.hi
  have t0 := it.1
  have t1 := it.2
  have bt := bk_in gb it
  have b0 := bt.1
  have b1 := bt.2
  show (turn3 ns a b t).length = 3 ∧ _ ∧ RowOk ns (turn3 ns a b t)
  unfold turnR
  show (turn3 ns a b t).length = 3 ∧ TS.Bd big (turn3 ns a b t) ∧ RowOk ns (turn3 ns a b t)
  unfold turn3
  split
  · refine ⟨rfl, fun m hm => ?_, a, b, t, rfl, it⟩
    simp only [List.mem_cons, List.not_mem_nil, or_false] at hm
    rcases hm with rfl | rfl | rfl
    · show 0 ≤ m ∧ m < (1000000001 : Int); omega
    · show 0 ≤ m ∧ m < (1000000001 : Int); omega
    · show 0 ≤ m ∧ m < (1000000001 : Int); omega
  · refine ⟨rfl, fun m hm => ?_, b, a, _, rfl, bt⟩
    simp only [List.mem_cons, List.not_mem_nil, or_false] at hm
    rcases hm with rfl | rfl | rfl
    · show 0 ≤ m ∧ m < (1000000001 : Int); omega
    · show 0 ≤ m ∧ m < (1000000001 : Int); omega
    · show 0 ≤ bk ns t ∧ bk ns t < (1000000001 : Int); omega
/-- known rows as a sketch holds them -/
def IsKn (ns : List Int) (R K : List (List Int)) : Prop := K.Perm (R.map (turnR ns)) ∧ K.Pairwise (fun q r => TS.code big q ≤ TS.code big r)
end J

set_option Elab.async false
set_option linter.all false
set_option maxRecDepth 100000
set_option maxHeartbeats 8000000
namespace J
open PySem PySem.Spec PyProof.Rows L2
/-! ### a sketch: its fields -/
theorem nd_bo : ¬ (("book" : Str) = "labels") := by decide +kernel
theorem nd_bn : ¬ (("book" : Str) = "known") := by decide +kernel
theorem nd_bt : ¬ (("book" : Str) = "known_ties") := by decide +kernel
theorem nd_ln : ¬ (("labels" : Str) = "known") := by decide +kernel
theorem nd_lt : ¬ (("labels" : Str) = "known_ties") := by decide +kernel
theorem nd_nt : ¬ (("known" : Str) = "known_ties") := by decide +kernel
def g1 (b : Addr) : List (Str × V) := L2.putF "book" (.ref b) []
def g2 (b l : Addr) : List (Str × V) := L2.putF "labels" (.ref l) (g1 b)
def g3 (b l k : Addr) : List (Str × V) := L2.putF "known" (.ref k) (g2 b l)
def gf (b l k d : Addr) : List (Str × V) := L2.putF "known_ties" (.ref d) (g3 b l k)
theorem gl1 (b : Addr) : (g1 b).length < 1000 := Nat.lt_of_le_of_lt (lp (n := 0) (Nat.le_refl _)) (by decide)
theorem gl2 (b l : Addr) : (g2 b l).length < 1000 := Nat.lt_of_le_of_lt (lp (n := 1) (lp (n := 0) (Nat.le_refl _))) (by decide)
theorem gl3 (b l k : Addr) : (g3 b l k).length < 1000 := Nat.lt_of_le_of_lt (lp (n := 2) (lp (n := 1) (lp (n := 0) (Nat.le_refl _)))) (by decide)
theorem g3_known (b l k : Addr) : (g3 b l k).lookup ("known" : Str) = some (.ref k) := by unfold g3; rw [lookup_putF, if_pos rfl]
theorem gf_ties (b l k d : Addr) : (gf b l k d).lookup ("known_ties" : Str) = some (.ref d) := by unfold gf; rw [lookup_putF, if_pos rfl]
theorem gf_known (b l k d : Addr) : (gf b l k d).lookup ("known" : Str) = some (.ref k) := by unfold gf; rw [lookup_putF, if_neg nd_nt, g3_known]
theorem gf_labels (b l k d : Addr) : (gf b l k d).lookup ("labels" : Str) = some (.ref l) := by
  unfold gf g3 g2
  rw [lookup_putF, if_neg nd_lt, lookup_putF, if_neg nd_ln, lookup_putF, if_pos rfl]
theorem gf_book (b l k d : Addr) : (gf b l k d).lookup ("book" : Str) = some (.ref b) := by
  unfold gf g3 g2 g1
  rw [lookup_putF, if_neg nd_bt, lookup_putF, if_neg nd_bn, lookup_putF, if_neg nd_bo, lookup_putF, if_pos rfl]
theorem g_none {b l k : Addr} {m : Str} (h1 : ¬ m = "known") (h2 : ¬ m = "labels") (h3 : ¬ m = "book") : (g1 b).lookup m = none ∧ (g2 b l).lookup m = none ∧ (g3 b l k).lookup m = none := by
  have e1 : (g1 b).lookup m = none := by unfold g1; rw [lookup_putF, if_neg h3]; rfl
  have e2 : (g2 b l).lookup m = none := by unfold g2; rw [lookup_putF, if_neg h2, e1]
  exact ⟨e1, e2, by unfold g3; rw [lookup_putF, if_neg h1, e2]⟩
theorem gf_no (b l k d : Addr) {m : Str} (h0 : ¬ m = "known_ties") (h1 : ¬ m = "known") (h2 : ¬ m = "labels") (h3 : ¬ m = "book") : (gf b l k d).lookup m = none := by
  unfold gf
  rw [lookup_putF, if_neg h0]
  exact (g_none (b := b) (l := l) (k := k) h1 h2 h3).2.2
structure SkC (K : PySem.W.Frag) (C : Addr) : Prop where
  cl : Cls K C
  nB : NoAttr K C "book"
  nL : NoAttr K C "labels"
  nK : NoAttr K C "known"
  nT : NoAttr K C "known_ties"
def SkAt (C CB CS : Addr) (H : Hp) (z : Addr) (ns : List Int) (L : List (List Int)) (ls : List Int) (Kn : List (List Int)) : Prop := ∃ dx b l k d, H z = some (.ins CS dx (gf b l k d)) ∧ BookAt C CB H b ns L ∧ H l = some (.tup (ls.map V.int)) ∧ TupsAt H k Kn ∧ DiT H d (2 * Kn.length) (bothF ns Kn)
theorem SkAt.keep {C CB CS : Addr} {H H' : Hp} {z : Addr} {ns : List Int} {L : List (List Int)} {ls : List Int} {Kn : List (List Int)} (h : SkAt C CB CS H z ns L ls Kn) (S : Same H H') : SkAt C CB CS H' z ns L ls Kn := by
  obtain ⟨dx, b, l, k, d, a1, a2, a3, a4, a5⟩ := h
  exact ⟨dx, b, l, k, d, S _ _ a1, a2.keep S, S _ _ a3, a4.keep S, a5.keep S⟩
theorem BookAt.off {C CB : Addr} {H H' : Hp} {y z CC dz : Addr} {fs : List (Str × V)} {ns : List Int} {L : List (List Int)} (h : BookAt C CB H y ns L) (hz : H z = some (.ins CC dz fs)) (nt : fs.lookup ("ties" : Str) = none) (nm : fs.lookup ("many" : Str) = none) (B : But z H H') : BookAt C CB H' y ns L := by
  obtain ⟨dx, t, b, l, r, a1, a2, a3, a4, a5⟩ := h
  have ny : y ≠ z := fun e => by
    rw [e, hz] at a1
    have := (HO.ins.inj (Option.some.inj a1)).2.2
    rw [this, bf_ties] at nt
    cases nt
  have N := NI.of_but B hz
  exact ⟨dx, t, b, l, r, B _ _ ny a1, a2.off B (a2.ne hz nm) hz, N.tups a3, N.tups a4, N.tab a5⟩
theorem DiT.off {H H' : Hp} {D z CC dz n : _} {fs : List (Str × V)} {f : Int → Int → Option V} (d : DiT H D n f) (hz : H z = some (.ins CC dz fs)) (B : But z H H') : DiT H' D n f := by
  obtain ⟨kvs, e, l, h⟩ := d
  exact ⟨kvs, B _ _ (fun q => by rw [q, hz] at e; cases e) e, l, h⟩
theorem lc_or {K : PySem.W.Frag} {i : Nat} {a : Addr} {xs : List V} {g : TG} {tt : TT} {te : TE} {vs : List Nat} {σ : L2.St} {H : Hp} {Q : VK} (hσ : σ[i]? = some (some (.ref a))) (hA : H a = some (.lst xs) ∨ H a = some (.tup xs))
    (h : ∀ D, H D = none → ∃ Pv : Nat → Hp → Prop, Pv 0 (upd H D (.lst [])) ∧ (∀ i H', i ≤ xs.length → Pv i H' → Same H H') ∧ (∀ i x H', xs[i]? = some x → Pv i H' → g x (wipe σ vs) H' fun σ2 H2 => wipe σ2 vs = wipe σ vs ∧ tt σ2 H2 fun b H3 =>
      if b = true then te σ2 H3 fun y H4 => ∃ acc, H4 D = some (.lst acc) ∧ acc.length < sizeLine ∧ Pv (i + 1) (upd H4 D (.lst (acc ++ [y]))) else Pv (i + 1) H3) ∧ ∀ H', Pv xs.length H' → Q (.ref D) H') : tLc (iOr (iList K (tVar i)) (iTup K (tVar i))) g tt te vs σ H Q := by
  rcases hA with e | e
  · refine .inl ⟨_, hσ, a, rfl, ⟨_, SqL.of e⟩, fun D hD => ?_⟩
    obtain ⟨Pv, p0, p1, p2, p3⟩ := h D hD
    exact lc_list (K := K) (a := a) (xs := xs) Pv p0 (fun i H' hi p => SqL.of (p1 i H' hi p _ _ e)) p2 p3
  · refine .inr ⟨_, hσ, a, rfl, ⟨_, SqT.of e⟩, fun D hD => ?_⟩
    obtain ⟨Pv, p0, p1, p2, p3⟩ := h D hD
    exact lc_tup (K := K) (a := a) (xs := xs) Pv p0 (fun i H' hi p => SqT.of (p1 i H' hi p _ _ e)) p2 p3
abbrev s_Sketch_init : Stmt := inClass (top 24) 0
theorem sc_Sketch_init : FnScope ["self", "book", "labels", "known", "row"] ["self", "book", "labels", "known"] (defScope s_Sketch_init) := ⟨rfl, rfl, rfl, by decide +kernel, rfl, by decide +kernel, by decide +kernel⟩
def spSI (C CB CS CE : Addr) : Sp := fun vs H Q E => ∃ (z dx b : Addr) (ns : List Int) (L : List (List Int)) (l v : V) (sl s : Sh) (ss : List Sh), vs = [.ref z, .ref b, l, v] ∧ H z = some (.ins CS dx []) ∧ BookAt C CB H b ns L ∧ GoodB ns ∧ Is H l sl ∧ Known H (items sl) ∧ Is H v s ∧ ShAll H (items s) ss ∧ ss.length ≤ 100 ∧
  (∀ j u, skJ ns sl s ss = .inl (j, u) → Told H CE (j : Nat) u E) ∧ (∀ ls R Kn, skJ ns sl s ss = .inr (ls, R) → IsKn ns R Kn → ∀ H', But z H H' → SkAt C CB CS H' z ns L ls Kn → Q .non H')
theorem skJ_yes {ns : List Int} {sl s : Sh} {ss : List Sh} {ls : List Int} {R : List (List Int)} (h : skJ ns sl s ss = .inr (ls, R)) : (sl.isL || sl.isT) = true ∧ (s.isL || s.isT) = true ∧ (items sl).length ≤ 6 ∧ labsJ (items sl) [] = .inr ls ∧ rowsJ ns ls ss [] = .inr R := by
  unfold skJ at h
  split at h
  case isFalse => cases h
  case isTrue h1 =>
    split at h
    case isFalse => cases h
    case isTrue h2 =>
      split at h
      case isFalse => cases h
      case isTrue h3 =>
        cases e : labsJ (items sl) [] with
        | inl j => rw [e] at h; cases h
        | inr l =>
          rw [e] at h
          have h : (match rowsJ ns l ss [] with | .inl p => .inl p | .inr R => .inr (l, R) : Sum (Nat × Str) (List Int × List (List Int))) = .inr (ls, R) := h
          cases e2 : rowsJ ns l ss [] with
          | inl p => rw [e2] at h; cases h
          | inr R' =>
            rw [e2] at h
            have := Sum.inr.inj h
            obtain ⟨rfl, rfl⟩ := Prod.mk.inj this
            exact ⟨h1, h2, h3, rfl, e2⟩
theorem labs_items : ∀ {xs : List V} {ls ls' : List Int}, labsJ xs ls = .inr ls' → ls.map V.int ++ xs = ls'.map V.int
  | [], ls, ls', h => by
    obtain rfl : ls = ls' := Sum.inr.inj h
    rw [List.append_nil]
  | v :: xs, ls, ls', h => by
    have h : (match labOne ls v with | none => .inl ls.length | some n => labsJ xs (ls ++ [n]) : Sum Nat (List Int)) = .inr ls' := h
    cases e : labOne ls v with
    | none => rw [e] at h; cases h
    | some n =>
      rw [e] at h
      have := labs_items h
      have ev : v = .int n := by
        unfold labOne at e
        cases v with
        | int m =>
          have e : (if (labB (.int m) && lastOk ls m) = true then some m else none) = some n := e
          split at e
          · rw [Option.some.inj e]
          · cases e
        | _ => cases e
      rw [← this, List.map_append, ev, List.append_assoc]
      rfl
end J

set_option Elab.async false
set_option linter.all false
set_option maxRecDepth 100000
set_option maxHeartbeats 8000000
namespace J
open PySem PySem.Spec PyProof.Rows L2
def rTupA : List V → Hp → VK → Prop := fun vs H Q => ∃ p xs, vs = [V.ref p] ∧ (H p = some (.lst xs) ∨ H p = some (.tup xs)) ∧ ∀ H' a, Same H H' → H' a = some (.tup xs) → Q (.ref a) H'
theorem call_tupA {X : Cx} : CallR X (.type "tuple") rTupA := fun pins s σ H vs us Q I r h => call_tuple_of pins s σ H vs us Q I r (by
  obtain ⟨p, xs, rfl, e, q⟩ := h
  rcases e with e | e
  · exact ⟨p, xs, rfl, .inl ⟨SqL.of e, fun l hl => q _ l (new_same hl) upd_same⟩⟩
  · exact ⟨p, xs, rfl, .inr ⟨SqT.of e, q H p (Same.refl _) e⟩⟩)
section
variable {P : Program} {w : World} {K : PySem.W.Frag} {mg : Str → Option Value} {base : Heap}
theorem ok_Sketch_init {f C CB CS CE fC fT fB : Addr} {fd fdC fdT fdB : FuncData} {dvs : List V} (F : FunD K "__init__" "Sketch.__init__" (defArgs s_Sketch_init) (defBody s_Sketch_init) (defScope s_Sketch_init) dvs [] f fd) (c : SkC K CS) (cb : BoC K CB) (nt : mg "tuple" = none) (nso : mg "sorted" = none)
    (GC : Cal P w K mg base (L2.CX P w) 5 "_check_sketch" fC fdC ["book", "labels", "known"] (spCS C CB CE)) (GT : Cal P w K mg base CX0 4 "turned_row" fT fdT ["ties", "row"] (spTurn C)) (GB : Cal P w K mg base CX0 4 "_ties_both_ways" fB fdB ["ties", "rows"] (spBoth2 C)) :
    FnOk P w K mg base (L2.CX P w) 6 f fd ["self", "book", "labels", "known"] (spSI C CB CS CE) := by
  refine F.ok sc_Sketch_init (fun vs H Q E h => ?_) (fun cdv A outer s H vs Q E hr h => ?_)
  · obtain ⟨z, dx, b, ns, L, l, v, sl, s, ss, rfl, _⟩ := h
    rfl
  · obtain ⟨z, dx, b, ns, L, l, v, sl, sv, ss, rfl, hz, hB, gb, isl, knl, isv, sa, l100, k1, k2⟩ := h
    refine ⟨_, (pss_cons (ps_expr (pcal GC hr (passes_call (takes_of rfl rfl rfl rfl) (fun _ _ _ _ h => h)) (pa_cons (pv 1) (pa_cons (pv 2) (pa_cons (pv 3) pa_nil))))) (pss_cons 
  (ps_fld (pv 0) (pv 1) rfl) (pss_cons 
  (ps_fld (pv 0) (pe_callTy (T := "tuple") (r := rTupA) call_tupA (by rfl) nt (by decide +kernel) (pa_cons (pv 2) pa_nil)) rfl) (pss_cons 
  (ps_fld (pv 0) (pe_callTy (T := "tuple") (r := rTupA) call_tupA (by rfl) nt (by decide +kernel) (pa_cons (pe_callB (r := rSortLT 3 big) (cr_sortedLT (by decide)) (by rfl) nso (by decide +kernel) (pa_cons (pe_lc (own := [("row", 4)]) (g := gName 4) (by rfl) sc_Sketch_init.nd (pi_or (pi_list (pv 3)) (pi_tup (pv 3))) (blkOk_by (own := [("row", 4)]) (N := ["self", "book", "labels", "known", "row"]) (sc := defScope s_Sketch_init) (by decide +kernel)) (fun _ _ _ _ _ => pg_name (i := 4) sc_Sketch_init.nd rfl (Or.inl rfl)) (fun _ _ _ _ _ => pts_nil) (fun _ _ _ _ _ => (pcal GT hr pass0 (pa_cons (show PE _ _ (tFld K (tVar 1) "ties") from pe_fld (pv 1) rfl) (pa_cons (pv 4) pa_nil))))) pa_nil)) pa_nil)) rfl) (pss_one 
  (ps_fld (pv 0) (pcal GB hr pass0 (pa_cons (pe_fld (pv 1) rfl) (pa_cons (pe_fld (pv 0) rfl) pa_nil))) rfl)))))), ?_⟩
    refine ⟨_, rfl, _, rfl, _, rfl, b, ns, L, l, v, sl, sv, ss, rfl, hB, isl, knl, isv, sa, by omega, k1, fun ls R sk H1 S1 => ?_⟩
    obtain ⟨sql, sqv, l6, lj, rj⟩ := skJ_yes sk
    have ro := rows_all rj
    have li : items sl = ls.map V.int := by have := labs_items lj; simpa using this
    obtain ⟨pl, rfl, epl⟩ : ∃ p, l = .ref p ∧ (H p = some (.lst (ls.map V.int)) ∨ H p = some (.tup (ls.map V.int))) := by
      rw [← li]
      cases sl with
      | sc u => cases sql
      | dk => cases sql
      | lst xs => obtain ⟨p, e, h⟩ := isl; exact ⟨p, e, .inl h⟩
      | tup xs => obtain ⟨p, e, h⟩ := isl; exact ⟨p, e, .inr h⟩
    obtain ⟨pk, rfl, epk⟩ : ∃ p, v = .ref p ∧ (H p = some (.lst (items sv)) ∨ H p = some (.tup (items sv))) := by
      cases sv with
      | sc u => cases sqv
      | dk => cases sqv
      | lst xs => obtain ⟨p, e, h⟩ := isv; exact ⟨p, e, .inl h⟩
      | tup xs => obtain ⟨p, e, h⟩ := isv; exact ⟨p, e, .inr h⟩
    have hz1 := S1 _ _ hz
    refine ⟨_, rfl, _, rfl, z, CS, dx, [], rfl, hz1, c.cl, c.nB, (by show 0 < 1000; decide), ?_⟩
    have B2 : But z H1 (upd H1 z (.ins CS dx (L2.putF "book" (.ref b) []))) := But.put
    have hz2 : (upd H1 z (.ins CS dx (L2.putF "book" (.ref b) []))) z = some (.ins CS dx (g1 b)) := upd_same
    have X2 : BookAt C CB (upd H1 z (.ins CS dx (L2.putF "book" (.ref b) []))) b ns L := (hB.keep S1).off hz1 rfl rfl B2
    have N2 := NI.of_but B2 hz1
    have pl2 : (upd H1 z (.ins CS dx (L2.putF "book" (.ref b) []))) pl = some (.lst (ls.map V.int)) ∨ (upd H1 z (.ins CS dx (L2.putF "book" (.ref b) []))) pl = some (.tup (ls.map V.int)) := epl.imp (fun e => N2 _ _ (fun _ _ _ q => nomatch q) (S1 _ _ e)) (fun e => N2 _ _ (fun _ _ _ q => nomatch q) (S1 _ _ e))
    have pk2 : (upd H1 z (.ins CS dx (L2.putF "book" (.ref b) []))) pk = some (.lst (items sv)) ∨ (upd H1 z (.ins CS dx (L2.putF "book" (.ref b) []))) pk = some (.tup (items sv)) := epk.imp (fun e => N2 _ _ (fun _ _ _ q => nomatch q) (S1 _ _ e)) (fun e => N2 _ _ (fun _ _ _ q => nomatch q) (S1 _ _ e))
    have sa2 : Paired (fun x s => Is (upd H1 z (.ins CS dx (L2.putF "book" (.ref b) []))) x s) (items sv) ss := Paired.mapP (sa.keep S1) fun x s h => N2.is h.1
    have BB2 : But z H (upd H1 z (.ins CS dx (L2.putF "book" (.ref b) []))) := (But.same S1).trans B2
    generalize upd H1 z (.ins CS dx (L2.putF "book" (.ref b) [])) = H2 at hz2 X2 pl2 pk2 sa2 BB2
    refine ⟨_, rfl, pl, _, rfl, pl2, fun H3 kl S3 ekl => ?_⟩
    have hz3 := S3 _ _ hz2
    refine ⟨_, rfl, z, CS, dx, _, rfl, hz3, c.cl, c.nL, gl1 b, ?_⟩
    have B4 : But z H3 (upd H3 z (.ins CS dx (L2.putF "labels" (.ref kl) (g1 b)))) := But.put
    have hz4 : (upd H3 z (.ins CS dx (L2.putF "labels" (.ref kl) (g1 b)))) z = some (.ins CS dx (g2 b kl)) := upd_same
    have gn1 := (g_none (b := b) (l := b) (k := b) (m := "ties") (by decide +kernel) (by decide +kernel) (by decide +kernel)).1
    have gm1 := (g_none (b := b) (l := b) (k := b) (m := "many") (by decide +kernel) (by decide +kernel) (by decide +kernel)).1
    have X4 : BookAt C CB (upd H3 z (.ins CS dx (L2.putF "labels" (.ref kl) (g1 b)))) b ns L := (X2.keep S3).off hz3 gn1 gm1 B4
    have N4 := NI.of_but B4 hz3
    have ekl4 := N4.tup ekl
    have pk4 : (upd H3 z (.ins CS dx (L2.putF "labels" (.ref kl) (g1 b)))) pk = some (.lst (items sv)) ∨ (upd H3 z (.ins CS dx (L2.putF "labels" (.ref kl) (g1 b)))) pk = some (.tup (items sv)) := pk2.imp (fun e => N4 _ _ (fun _ _ _ q => nomatch q) (S3 _ _ e)) (fun e => N4 _ _ (fun _ _ _ q => nomatch q) (S3 _ _ e))
    have sa4 : Paired (fun x s => Is (upd H3 z (.ins CS dx (L2.putF "labels" (.ref kl) (g1 b)))) x s) (items sv) ss := Paired.mapP sa2 fun x s h => N4.is (h.keep S3)
    have BB4 : But z H (upd H3 z (.ins CS dx (L2.putF "labels" (.ref kl) (g1 b)))) := (BB2.trans (But.same S3)).trans B4
    generalize upd H3 z (.ins CS dx (L2.putF "labels" (.ref kl) (g1 b))) = H4 at hz4 X4 ekl4 pk4 sa4 BB4
    have lss : (items sv).length = ss.length := Paired.length sa4
    rcases pk4 with e4 | e4
    · refine .inl ⟨_, rfl, pk, rfl, ⟨_, SqL.of e4⟩, fun D hD => lc_list (K := K) (a := pk) (xs := items sv) (fun i H' => GroX (fun H a (r : List Int) => H a = some (.tup (r.map V.int))) H4 H' D ((R.take i).map (turnR ns))) (GroX.nil hD) (fun i H' _ G => SqL.of (G.S _ _ e4)) ?_ ?_⟩
      · intro i y H5 ey G
        have hi := (List.getElem?_eq_some_iff.mp ey).1
        have es := List.getElem?_eq_getElem (l := ss) (i := i) (by omega)
        generalize ss[i]'(by omega) = sy at es
        have isy : Is H4 y sy := by
          have : ∀ {xs : List V} {ss : List Sh} {j : Nat} {x : V} {s : Sh}, Paired (fun x s => Is H4 x s) xs ss → xs[j]? = some x → ss[j]? = some s → Is H4 x s := by
            intro xs ss j x s h
            induction h generalizing j with
            | nil => intro e; simp at e
            | cons a _ ih =>
              intro e1 e2
              cases j with
              | zero => simp at e1 e2; rw [← e1, ← e2]; exact a
              | succ j => exact ih (by simpa using e1) (by simpa using e2)
          exact this sa4 ey es
        obtain ⟨ra, rb, rt, eR, ei, sq⟩ := ro.at_ i sy (by omega) es
        obtain ⟨a', b', t', eq', _, _, _, _, _, it⟩ := ro.good _ (List.mem_of_getElem? eR)
        obtain ⟨rfl, rfl, rfl⟩ : ra = a' ∧ rb = b' ∧ rt = t' := by
          injection eq' with e1 e2
          injection e2 with e2 e3
          injection e3 with e3 _
          exact ⟨e1, e2, e3⟩
        obtain ⟨dxb, tt, bb, lb, rrb, q1, q2, q3, q4, q5⟩ := X4.keep G.S
        refine ⟨rfl, yesT ⟨_, rfl, b, CB, dxb, _, _, rfl, q1, cb.cl, cb.nT, bf_ties _ _ _ _, _, rfl, tt, ns, y, sy, ra, rb, rt, rfl, q2, isy.keep G.S, sq, ei, it, fun H6 z6 S6 nz6 ez6 => ?_⟩⟩
        have G6 := G.keep S6 fun a r h => S6 _ _ h
        obtain ⟨us, eD, _⟩ := G6.d
        obtain ⟨acc, w1, w2, w3⟩ := G6.app (z := z6) (x := turnR ns [ra, rb, rt]) (fun H' B a r h => B _ _ (fun e => by rw [e, eD] at h; cases h) h) ez6
        refine ⟨acc, w1, by rw [w2, List.length_map, List.length_take]; exact small1000 (by omega), ?_⟩
        rw [List.take_add_one, eR, List.map_append]
        exact w3
      · intro H5 G
        rw [lss, ← ro.len, List.take_length] at G
        obtain ⟨ps, p1, p2, p3⟩ := G.d
        have lps : ps.length = (R.map (turnR ns)).length := p2
        have zf : (ps.zip (R.map (turnR ns))).map (·.1) = ps := List.map_fst_zip (by omega)
        have zs : (ps.zip (R.map (turnR ns))).map (·.2) = R.map (turnR ns) := List.map_snd_zip (by omega)
        refine ⟨D, ps.zip (R.map (turnR ns)), rfl, ?_, ?_, fun q hq => ?_, fun M p pm pw hp => ?_⟩
        · rw [p1]
          have : (ps.zip (R.map (turnR ns))).map (fun q => V.ref q.1) = ((ps.zip (R.map (turnR ns))).map (·.1)).map V.ref := by rw [List.map_map]; rfl
          rw [this, zf]
        · rw [List.length_zip, List.length_map, ro.len]
          omega
        · obtain ⟨j, hj⟩ := List.mem_iff_getElem?.mp hq
          obtain ⟨j1, j2⟩ := List.getElem?_zip_eq_some.mp hj
          have hm := List.mem_of_getElem? j2
          obtain ⟨r, hr', er⟩ := List.mem_map.mp hm
          have tk := turn_ok gb (ro.good r hr')
          rw [er] at tk
          exact ⟨p3 j _ _ j1 j2, tk.1, tk.2.1⟩
        · have zr : (M.map (·.2)).Perm (R.map (turnR ns)) := by
            have := pm.map (·.2)
            rwa [zs] at this
          have kn : IsKn ns R (M.map (·.2)) := ⟨zr, by rw [List.pairwise_map]; exact pw⟩
          have lM : (M.map (·.2)).length = R.length := by rw [zr.length_eq, List.length_map]
          have inM : ∀ q ∈ M, H5 q.1 = some (.tup (q.2.map V.int)) := fun q hq => by
            obtain ⟨j, hj⟩ := List.mem_iff_getElem?.mp (pm.mem_iff.mp hq)
            obtain ⟨j1, j2⟩ := List.getElem?_zip_eq_some.mp hj
            exact p3 j _ _ j1 j2
          refine ⟨p, _, rfl, .inl upd_same, fun H7 kk S7 ekk => ?_⟩
          have S57 : Same H5 H7 := (new_same hp).trans S7
          have S47 := G.S.trans S57
          have hz7 := S47 _ _ hz4
          have TK : TupsAt H7 kk (M.map (·.2)) := ⟨M.map (·.1), by rw [ekk, List.map_map]; rfl, by rw [List.length_map, List.length_map], fun j a ts e1 e2 => by
            rw [List.getElem?_map] at e1 e2
            cases em : M[j]? with
            | none => rw [em] at e1; cases e1
            | some q =>
              rw [em] at e1 e2
              obtain rfl := Option.some.inj e1
              obtain rfl := Option.some.inj e2
              exact S57 _ _ (inM q (List.mem_of_getElem? em))⟩
          have gn2 := (g_none (b := b) (l := kl) (k := b) (m := "ties") (by decide +kernel) (by decide +kernel) (by decide +kernel)).2
          have gm2 := (g_none (b := b) (l := kl) (k := b) (m := "many") (by decide +kernel) (by decide +kernel) (by decide +kernel)).2
          have gn3 := (g_none (b := b) (l := kl) (k := kk) (m := "ties") (by decide +kernel) (by decide +kernel) (by decide +kernel)).2.2
          have gm3 := (g_none (b := b) (l := kl) (k := kk) (m := "many") (by decide +kernel) (by decide +kernel) (by decide +kernel)).2.2
          refine ⟨_, rfl, z, CS, dx, _, rfl, hz7, c.cl, c.nK, gl2 b kl, ?_⟩
          have B8 : But z H7 (upd H7 z (.ins CS dx (L2.putF "known" (.ref kk) (g2 b kl)))) := But.put
          have hz8 : (upd H7 z (.ins CS dx (L2.putF "known" (.ref kk) (g2 b kl)))) z = some (.ins CS dx (g3 b kl kk)) := upd_same
          have X8 : BookAt C CB (upd H7 z (.ins CS dx (L2.putF "known" (.ref kk) (g2 b kl)))) b ns L := (X4.keep S47).off hz7 gn2.1 gm2.1 B8
          have N8 := NI.of_but B8 hz7
          have ekl8 := N8.tup (S47 _ _ ekl4)
          have TK8 := N8.tups TK
          have BB8 : But z H (upd H7 z (.ins CS dx (L2.putF "known" (.ref kk) (g2 b kl)))) := (BB4.trans (But.same S47)).trans B8
          generalize upd H7 z (.ins CS dx (L2.putF "known" (.ref kk) (g2 b kl))) = H8 at hz8 X8 ekl8 TK8 BB8
          obtain ⟨dxb, tt, bb, lb, rrb, q1, q2, q3, q4, q5⟩ := id X8
          have okK : ∀ r ∈ M.map (·.2), RowOk ns r := fun r hr => by
            obtain ⟨r', hr', rfl⟩ := List.mem_map.mp (zr.mem_iff.mp hr)
            exact (turn_ok gb (ro.good r' hr')).2.2
          refine ⟨_, rfl, b, CB, dxb, _, _, rfl, q1, cb.cl, cb.nT, bf_ties _ _ _ _, _, rfl, z, CS, dx, _, _, rfl, hz8, c.cl, c.nK, g3_known _ _ _, tt, kk, ns, M.map (·.2), rfl, q2, TK8, by rw [lM, ro.len]; exact l100, okK, fun H9 d S9 nd9 dd9 => ?_⟩
          have hz9 := S9 _ _ hz8
          refine ⟨_, rfl, z, CS, dx, _, rfl, hz9, c.cl, c.nT, gl3 b kl kk, ?_⟩
          have B10 : But z H9 (upd H9 z (.ins CS dx (L2.putF "known_ties" (.ref d) (g3 b kl kk)))) := But.put
          have N10 := NI.of_but B10 hz9
          exact k2 ls R _ sk kn _ ((BB8.trans (But.same S9)).trans B10) ⟨dx, b, kl, kk, d, upd_same, (X8.keep S9).off hz9 gn3 gm3 B10, N10.tup (S9 _ _ ekl8), N10.tups (TK8.keep S9), dd9.off hz9 B10⟩
    · refine .inr ⟨_, rfl, pk, rfl, ⟨_, SqT.of e4⟩, fun D hD => lc_tup (K := K) (a := pk) (xs := items sv) (fun i H' => GroX (fun H a (r : List Int) => H a = some (.tup (r.map V.int))) H4 H' D ((R.take i).map (turnR ns))) (GroX.nil hD) (fun i H' _ G => SqT.of (G.S _ _ e4)) ?_ ?_⟩
      · intro i y H5 ey G
        have hi := (List.getElem?_eq_some_iff.mp ey).1
        have es := List.getElem?_eq_getElem (l := ss) (i := i) (by omega)
        generalize ss[i]'(by omega) = sy at es
        have isy : Is H4 y sy := by
          have : ∀ {xs : List V} {ss : List Sh} {j : Nat} {x : V} {s : Sh}, Paired (fun x s => Is H4 x s) xs ss → xs[j]? = some x → ss[j]? = some s → Is H4 x s := by
            intro xs ss j x s h
            induction h generalizing j with
            | nil => intro e; simp at e
            | cons a _ ih =>
              intro e1 e2
              cases j with
              | zero => simp at e1 e2; rw [← e1, ← e2]; exact a
              | succ j => exact ih (by simpa using e1) (by simpa using e2)
          exact this sa4 ey es
        obtain ⟨ra, rb, rt, eR, ei, sq⟩ := ro.at_ i sy (by omega) es
        obtain ⟨a', b', t', eq', _, _, _, _, _, it⟩ := ro.good _ (List.mem_of_getElem? eR)
        obtain ⟨rfl, rfl, rfl⟩ : ra = a' ∧ rb = b' ∧ rt = t' := by
          injection eq' with e1 e2
          injection e2 with e2 e3
          injection e3 with e3 _
          exact ⟨e1, e2, e3⟩
        obtain ⟨dxb, tt, bb, lb, rrb, q1, q2, q3, q4, q5⟩ := X4.keep G.S
        refine ⟨rfl, yesT ⟨_, rfl, b, CB, dxb, _, _, rfl, q1, cb.cl, cb.nT, bf_ties _ _ _ _, _, rfl, tt, ns, y, sy, ra, rb, rt, rfl, q2, isy.keep G.S, sq, ei, it, fun H6 z6 S6 nz6 ez6 => ?_⟩⟩
        have G6 := G.keep S6 fun a r h => S6 _ _ h
        obtain ⟨us, eD, _⟩ := G6.d
        obtain ⟨acc, w1, w2, w3⟩ := G6.app (z := z6) (x := turnR ns [ra, rb, rt]) (fun H' B a r h => B _ _ (fun e => by rw [e, eD] at h; cases h) h) ez6
        refine ⟨acc, w1, by rw [w2, List.length_map, List.length_take]; exact small1000 (by omega), ?_⟩
        rw [List.take_add_one, eR, List.map_append]
        exact w3
      · intro H5 G
        rw [lss, ← ro.len, List.take_length] at G
        obtain ⟨ps, p1, p2, p3⟩ := G.d
        have lps : ps.length = (R.map (turnR ns)).length := p2
        have zf : (ps.zip (R.map (turnR ns))).map (·.1) = ps := List.map_fst_zip (by omega)
        have zs : (ps.zip (R.map (turnR ns))).map (·.2) = R.map (turnR ns) := List.map_snd_zip (by omega)
        refine ⟨D, ps.zip (R.map (turnR ns)), rfl, ?_, ?_, fun q hq => ?_, fun M p pm pw hp => ?_⟩
        · rw [p1]
          have : (ps.zip (R.map (turnR ns))).map (fun q => V.ref q.1) = ((ps.zip (R.map (turnR ns))).map (·.1)).map V.ref := by rw [List.map_map]; rfl
          rw [this, zf]
        · rw [List.length_zip, List.length_map, ro.len]
          omega
        · obtain ⟨j, hj⟩ := List.mem_iff_getElem?.mp hq
          obtain ⟨j1, j2⟩ := List.getElem?_zip_eq_some.mp hj
          have hm := List.mem_of_getElem? j2
          obtain ⟨r, hr', er⟩ := List.mem_map.mp hm
          have tk := turn_ok gb (ro.good r hr')
          rw [er] at tk
          exact ⟨p3 j _ _ j1 j2, tk.1, tk.2.1⟩
        · have zr : (M.map (·.2)).Perm (R.map (turnR ns)) := by
            have := pm.map (·.2)
            rwa [zs] at this
          have kn : IsKn ns R (M.map (·.2)) := ⟨zr, by rw [List.pairwise_map]; exact pw⟩
          have lM : (M.map (·.2)).length = R.length := by rw [zr.length_eq, List.length_map]
          have inM : ∀ q ∈ M, H5 q.1 = some (.tup (q.2.map V.int)) := fun q hq => by
            obtain ⟨j, hj⟩ := List.mem_iff_getElem?.mp (pm.mem_iff.mp hq)
            obtain ⟨j1, j2⟩ := List.getElem?_zip_eq_some.mp hj
            exact p3 j _ _ j1 j2
          refine ⟨p, _, rfl, .inl upd_same, fun H7 kk S7 ekk => ?_⟩
          have S57 : Same H5 H7 := (new_same hp).trans S7
          have S47 := G.S.trans S57
          have hz7 := S47 _ _ hz4
          have TK : TupsAt H7 kk (M.map (·.2)) := ⟨M.map (·.1), by rw [ekk, List.map_map]; rfl, by rw [List.length_map, List.length_map], fun j a ts e1 e2 => by
            rw [List.getElem?_map] at e1 e2
            cases em : M[j]? with
            | none => rw [em] at e1; cases e1
            | some q =>
              rw [em] at e1 e2
              obtain rfl := Option.some.inj e1
              obtain rfl := Option.some.inj e2
              exact S57 _ _ (inM q (List.mem_of_getElem? em))⟩
          have gn2 := (g_none (b := b) (l := kl) (k := b) (m := "ties") (by decide +kernel) (by decide +kernel) (by decide +kernel)).2
          have gm2 := (g_none (b := b) (l := kl) (k := b) (m := "many") (by decide +kernel) (by decide +kernel) (by decide +kernel)).2
          have gn3 := (g_none (b := b) (l := kl) (k := kk) (m := "ties") (by decide +kernel) (by decide +kernel) (by decide +kernel)).2.2
          have gm3 := (g_none (b := b) (l := kl) (k := kk) (m := "many") (by decide +kernel) (by decide +kernel) (by decide +kernel)).2.2
          refine ⟨_, rfl, z, CS, dx, _, rfl, hz7, c.cl, c.nK, gl2 b kl, ?_⟩
          have B8 : But z H7 (upd H7 z (.ins CS dx (L2.putF "known" (.ref kk) (g2 b kl)))) := But.put
          have hz8 : (upd H7 z (.ins CS dx (L2.putF "known" (.ref kk) (g2 b kl)))) z = some (.ins CS dx (g3 b kl kk)) := upd_same
          have X8 : BookAt C CB (upd H7 z (.ins CS dx (L2.putF "known" (.ref kk) (g2 b kl)))) b ns L := (X4.keep S47).off hz7 gn2.1 gm2.1 B8
          have N8 := NI.of_but B8 hz7
          have ekl8 := N8.tup (S47 _ _ ekl4)
          have TK8 := N8.tups TK
          have BB8 : But z H (upd H7 z (.ins CS dx (L2.putF "known" (.ref kk) (g2 b kl)))) := (BB4.trans (But.same S47)).trans B8
          generalize upd H7 z (.ins CS dx (L2.putF "known" (.ref kk) (g2 b kl))) = H8 at hz8 X8 ekl8 TK8 BB8
          obtain ⟨dxb, tt, bb, lb, rrb, q1, q2, q3, q4, q5⟩ := id X8
          have okK : ∀ r ∈ M.map (·.2), RowOk ns r := fun r hr => by
            obtain ⟨r', hr', rfl⟩ := List.mem_map.mp (zr.mem_iff.mp hr)
            exact (turn_ok gb (ro.good r' hr')).2.2
          refine ⟨_, rfl, b, CB, dxb, _, _, rfl, q1, cb.cl, cb.nT, bf_ties _ _ _ _, _, rfl, z, CS, dx, _, _, rfl, hz8, c.cl, c.nK, g3_known _ _ _, tt, kk, ns, M.map (·.2), rfl, q2, TK8, by rw [lM, ro.len]; exact l100, okK, fun H9 d S9 nd9 dd9 => ?_⟩
          have hz9 := S9 _ _ hz8
          refine ⟨_, rfl, z, CS, dx, _, rfl, hz9, c.cl, c.nT, gl3 b kl kk, ?_⟩
          have B10 : But z H9 (upd H9 z (.ins CS dx (L2.putF "known_ties" (.ref d) (g3 b kl kk)))) := But.put
          have N10 := NI.of_but B10 hz9
          exact k2 ls R _ sk kn _ ((BB8.trans (But.same S9)).trans B10) ⟨dx, b, kl, kk, d, upd_same, (X8.keep S9).off hz9 gn3 gm3 B10, N10.tup (S9 _ _ ekl8), N10.tups (TK8.keep S9), dd9.off hz9 B10⟩
end
end J

set_option Elab.async false
set_option linter.all false
set_option maxRecDepth 100000
set_option maxHeartbeats 8000000
namespace J
open PySem PySem.Spec PyProof.Rows L2
theorem mk_sketch {C CB CS CE : Addr} {b : Addr} {ns : List Int} {L : List (List Int)} {l v : V} {sl sv : Sh} {ss : List Sh} {H : Hp} {E : XK} {R : Addr → VK} (hB : BookAt C CB H b ns L) (gb : GoodB ns) (isl : Is H l sl) (kn : Known H (items sl)) (isv : Is H v sv) (sa : ShAll H (items sv) ss) (l100 : ss.length ≤ 100)
    (e1 : ∀ j u, skJ ns sl sv ss = .inl (j, u) → Told H CE (j : Nat) u E) (e2 : ∀ ls Ro Kn, skJ ns sl sv ss = .inr (ls, Ro) → IsKn ns Ro Kn → ∀ H' x, Same H H' → H x = none → SkAt C CB CS H' x ns L ls Kn → R x .non H') :
    ∀ x dx, H x = none → H dx = none → dx ≠ x → spSI C CB CS CE [.ref x, .ref b, l, v] (upd (upd H dx (.own x)) x (.ins CS dx [])) (R x) E := fun x dx hx hd _ =>
  have S : Same H (upd (upd H dx (.own x)) x (.ins CS dx [])) := made_same (H := H) (o := .own x) (u := .ins CS dx []) hx hd
  ⟨x, dx, b, ns, L, l, v, sl, sv, ss, rfl, upd_same, hB.keep S, gb, isl.keep S, kn.keep S, isv.keep S, sa.keep S, l100, fun j u e => (e1 j u e).mono S, fun ls Ro Kn e k H' B sk => e2 ls Ro Kn e k H' x (made_but hx hd B) hx sk⟩
theorem known_nums {H : Hp} {ls : List Int} : Known H (ls.map V.int) := fun y hy => by
  obtain ⟨n, _, rfl⟩ := List.mem_map.mp hy
  exact ⟨.sc (.int n), rfl, rfl⟩
theorem sh_app {H : Hp} : ∀ {xs ys : List V} {ss us : List Sh}, ShAll H xs ss → ShAll H ys us → ShAll H (xs ++ ys) (ss ++ us)
  | _, _, _, _, .nil, b => b
  | _, _, _, _, .cons r t, b => .cons r (sh_app t b)
abbrev s_Sketch_only : Stmt := inClass (top 24) 6
theorem sc_Sketch_only : FnScope ["self", "rows"] ["self", "rows"] (defScope s_Sketch_only) := ⟨rfl, rfl, rfl, by decide +kernel, rfl, by decide +kernel, by decide +kernel⟩
/-- a new sketch of the same book and labels -/
def NewSk (C CB CS CE : Addr) (H : Hp) (E : XK) (Q : VK) (ns : List Int) (L : List (List Int)) (ls : List Int) (sv : Sh) (ss : List Sh) : Prop :=
  (∀ j u, skJ ns (.tup (ls.map V.int)) sv ss = .inl (j, u) → Told H CE (j : Nat) u E) ∧ (∀ ls' Ro Kn, skJ ns (.tup (ls.map V.int)) sv ss = .inr (ls', Ro) → IsKn ns Ro Kn → ∀ H' x, Same H H' → H x = none → SkAt C CB CS H' x ns L ls' Kn → Q (.ref x) H')
def spOnly (C CB CS CE : Addr) : Sp := fun vs H Q E => ∃ (z : Addr) (ns : List Int) (L : List (List Int)) (ls : List Int) (K0 : List (List Int)) (v : V) (sv : Sh) (ss : List Sh), vs = [.ref z, v] ∧ SkAt C CB CS H z ns L ls K0 ∧ GoodB ns ∧ Is H v sv ∧ ShAll H (items sv) ss ∧ ss.length ≤ 100 ∧ NewSk C CB CS CE H E Q ns L ls sv ss
abbrev s_Sketch_with : Stmt := inClass (top 24) 5
theorem sc_Sketch_with : FnScope ["self", "x", "y", "tie"] ["self", "x", "y", "tie"] (defScope s_Sketch_with) := ⟨rfl, rfl, rfl, by decide +kernel, rfl, by decide +kernel, by decide +kernel⟩
def spWithKn (C CB CS CE : Addr) : Sp := fun vs H Q E => ∃ (z : Addr) (ns : List Int) (L : List (List Int)) (ls : List Int) (K0 : List (List Int)) (x y t : V), vs = [.ref z, x, y, t] ∧ SkAt C CB CS H z ns L ls K0 ∧ GoodB ns ∧ Known H [x, y, t] ∧ K0.length ≤ 90 ∧
  ∀ (sv : Sh), sv.isT = true → NewSk C CB CS CE H E Q ns L ls sv (shT K0 ++ [.tup [x, y, t]])
section
variable {P : Program} {w : World} {K : PySem.W.Frag} {mg : Str → Option Value} {base : Heap}
theorem ok_only {f C CB CS CE fI : Addr} {fd fdI : FuncData} (F : Fun K "only" "Sketch.only" s_Sketch_only f fd) (c : SkC K CS) (mS : mg "Sketch" = some (.ref CS)) (MI : Mk K CS fI) (FI : FnOk P w K mg base (L2.CX P w) 6 fI fdI ["self", "book", "labels", "known"] (spSI C CB CS CE)) (bI : Binds K fdI ["self", "book", "labels", "known"] []) :
    FnOk P w K mg base (L2.CX P w) 8 f fd ["self", "rows"] (spOnly C CB CS CE) := by
  refine F.okX sc_Sketch_only (fun vs H Q E h => ?_) (fun cdv A outer s H vs Q E hr h => ?_)
  · obtain ⟨z, ns, L, ls, K0, v, sv, ss, rfl, _⟩ := h
    rfl
  · obtain ⟨z, ns, L, ls, K0, v, sv, ss, rfl, hz, gb, isv, sa, l100, e1, e2⟩ := h
    obtain ⟨dx, b, l, k, d, a1, a2, a3, a4, a5⟩ := id hz
    refine ⟨_, (pss_one 
  (ps_ret (pe_make MI FI hr rfl mS bI .nil (passes_call (takes_of rfl rfl rfl rfl) (fun _ _ _ _ h => h)) (pa_cons (pe_fld (pv 0) rfl) (pa_cons (pe_fld (pv 0) rfl) (pa_cons (pv 1) pa_nil)))))), ?_⟩
    refine ⟨_, rfl, z, CS, dx, _, _, rfl, a1, c.cl, c.nB, gf_book _ _ _ _, _, rfl, z, CS, dx, _, _, rfl, a1, c.cl, c.nL, gf_labels _ _ _ _, _, rfl, ?_⟩
    refine mk_sketch (sl := .tup (ls.map V.int)) a2 gb ⟨l, rfl, a3⟩ known_nums isv sa l100 e1 fun ls' Ro Kn e kn H' x S nx sk => ?_
    exact ⟨rfl, e2 ls' Ro Kn e kn H' x S nx sk⟩
theorem ok_withK {f C CB CS CE fI : Addr} {fd fdI : FuncData} (F : Fun K "with_known" "Sketch.with_known" s_Sketch_with f fd) (c : SkC K CS) (mS : mg "Sketch" = some (.ref CS)) (MI : Mk K CS fI) (FI : FnOk P w K mg base (L2.CX P w) 6 fI fdI ["self", "book", "labels", "known"] (spSI C CB CS CE)) (bI : Binds K fdI ["self", "book", "labels", "known"] []) :
    FnOk P w K mg base (L2.CX P w) 8 f fd ["self", "x", "y", "tie"] (spWithKn C CB CS CE) := by
  refine F.okX sc_Sketch_with (fun vs H Q E h => ?_) (fun cdv A outer s H vs Q E hr h => ?_)
  · obtain ⟨z, ns, L, ls, K0, x, y, t, rfl, _⟩ := h
    rfl
  · obtain ⟨z, ns, L, ls, K0, x, y, t, rfl, hz, gb, kn, l90, nk⟩ := h
    obtain ⟨dx, b, l, k, d, a1, a2, a3, a4, a5⟩ := id hz
    refine ⟨_, (pss_one 
  (ps_ret (pe_make MI FI hr rfl mS bI .nil (passes_call (takes_of rfl rfl rfl rfl) (fun _ _ _ _ h => h)) (pa_cons (pe_fld (pv 0) rfl) (pa_cons (pe_fld (pv 0) rfl) (pa_cons (pe_op op_catN (pe_fld (pv 0) rfl) (pe_tup (pa_cons (pe_tup (pa_cons (pv 1) (pa_cons (pv 2) (pa_cons (pv 3) pa_nil)))) pa_nil))) pa_nil)))))), ?_⟩
    obtain ⟨ps, e1, e2, e3⟩ := a4
    refine ⟨_, rfl, z, CS, dx, _, _, rfl, a1, c.cl, c.nB, gf_book _ _ _ _, _, rfl, z, CS, dx, _, _, rfl, a1, c.cl, c.nL, gf_labels _ _ _ _, _, rfl, z, CS, dx, _, _, rfl, a1, c.cl, c.nK, gf_known _ _ _ _, _, rfl, _, rfl, _, rfl, (by show 3 ≤ sizeLine; decide), fun r hr' => ⟨(by show 1 ≤ sizeLine; decide), fun q hq => ?_⟩⟩
    have S1 : Same H (upd H r (.tup [x, y, t])) := new_same hr'
    have er : (upd H r (.tup [x, y, t])) r = some (.tup [x, y, t]) := upd_same
    generalize upd H r (.tup [x, y, t]) = H1 at S1 er hq
    have S2 : Same H1 (upd H1 q (.tup [.ref r])) := new_same hq
    have eq : (upd H1 q (.tup [.ref r])) q = some (.tup [.ref r]) := upd_same
    generalize upd H1 q (.tup [.ref r]) = H2 at S2 eq
    have S02 := S1.trans S2
    refine ⟨k, q, _, _, rfl, rfl, S02 _ _ e1, eq, by rw [List.length_map, e2]; show K0.length + 1 ≤ 1000; omega, fun H3 p S3 ep => ?_⟩
    have S03 := S02.trans S3
    have sr : ShAll H3 [.ref r] [.tup [x, y, t]] := .cons (b := Sh.tup [x, y, t]) ⟨⟨r, rfl, S3 _ _ (S2 _ _ er)⟩, kn.keep S03⟩ .nil
    obtain ⟨n1, n2⟩ := nk (.tup (ps.map V.ref ++ [.ref r])) rfl
    refine mk_sketch (sl := .tup (ls.map V.int)) (sv := .tup (ps.map V.ref ++ [.ref r])) (ss := shT K0 ++ [.tup [x, y, t]]) (a2.keep S03) gb ⟨l, rfl, S03 _ _ a3⟩ known_nums ⟨p, rfl, ep⟩ (sh_app (sh_tups e2 fun j a ts q1 q2 => S03 _ _ (e3 j a ts q1 q2)) sr) (by rw [List.length_append]; unfold shT; rw [List.length_map]; show K0.length + 1 ≤ 100; omega) (fun j u e => (n1 j u e).mono S03) fun ls' Ro Kn e kn' H' x' S nx sk => ?_
    exact ⟨rfl, n2 ls' Ro Kn e kn' H' x' (S03.trans S) (S03.free nx) sk⟩
end
end J

set_option Elab.async false
set_option linter.all false
set_option maxRecDepth 100000
set_option maxHeartbeats 8000000
namespace J
open PySem PySem.Spec PyProof.Rows L2
abbrev s_Sketch_web : Stmt := inClass (top 24) 2
theorem sc_Sketch_web : FnScope ["self", "x", "y", "_"] ["self"] (defScope s_Sketch_web) := ⟨rfl, rfl, rfl, by decide +kernel, rfl, by decide +kernel, by decide +kernel⟩
abbrev s_Sketch_unknown : Stmt := inClass (top 24) 3
theorem sc_Sketch_unknown : FnScope ["self", "couple"] ["self"] (defScope s_Sketch_unknown) := ⟨rfl, rfl, rfl, by decide +kernel, rfl, by decide +kernel, by decide +kernel⟩
def Rows3 (Kn : List (List Int)) : Prop := ∀ r ∈ Kn, ∃ a b t, r = [a, b, t]
def spWeb (C CB CS : Addr) : Sp := fun vs H Q _ => ∃ (z : Addr) (ns : List Int) (L : List (List Int)) (ls : List Int) (K0 : List (List Int)), vs = [.ref z] ∧ SkAt C CB CS H z ns L ls K0 ∧ Rows3 K0 ∧ K0.length ≤ 100 ∧ ∀ (H' : Hp) (p : Addr), Same H H' → H p = none → TupsAt H' p (K0.map (List.take 2)) → Q (.ref p) H'
/-- the couples of labels -/
def coupL (ls : List Int) : List (List V) := chos 2 (ls.map V.int)
def unkF (ns : List Int) (Kn : List (List Int)) (c : List V) : Bool := match c with
  | [.int x, .int y] => (bothF ns Kn x y).isNone
  | _ => false
def TupVs (H : Hp) (z : Addr) (L : List (List V)) : Prop := ∃ ps : List Addr, H z = some (.tup (ps.map V.ref)) ∧ ps.length = L.length ∧ ∀ (j : Nat) (a : Addr) (vs : List V), ps[j]? = some a → L[j]? = some vs → TupV H a vs
def spUnk (C CB CS : Addr) : Sp := fun vs H Q _ => ∃ (z : Addr) (ns : List Int) (L : List (List Int)) (ls : List Int) (K0 : List (List Int)), vs = [.ref z] ∧ SkAt C CB CS H z ns L ls K0 ∧ ls.length ≤ 6 ∧ K0.length ≤ 100 ∧ ∀ (H' : Hp) (p : Addr), Same H H' → H p = none → TupVs H' p ((coupL ls).filter (unkF ns K0)) → Q (.ref p) H'
theorem chos1_ints {xs : List V} (h : ∀ x ∈ xs, ∃ n : Int, x = .int n) : ∀ (c : Nat) (ys : List V), (∀ y ∈ ys, ∃ n : Int, y = .int n) → ∀ z ∈ chos c ys, ∀ v ∈ z, ∃ n : Int, v = .int n
  | 0, ys, _, z, hz, v, hv => by rw [List.mem_singleton.mp hz] at hv; cases hv
  | c + 1, ys, hy, z, hz, v, hv => by
    obtain ⟨j, hj, hz⟩ := List.mem_flatMap.mp hz
    obtain ⟨u, hu, rfl⟩ := List.mem_map.mp hz
    have hj' := List.mem_range.mp hj
    rcases List.mem_cons.mp hv with e | e
    · rw [e]
      refine hy _ ?_
      rw [List.getD_eq_getElem?_getD, List.getElem?_eq_getElem hj']
      exact List.getElem_mem hj'
    · exact chos1_ints h c _ (fun y q => hy y (List.mem_of_mem_drop q)) u hu v e
theorem coup_two {ls : List Int} {z : List V} (h : z ∈ coupL ls) : ∃ x y : Int, z = [.int x, .int y] := by
  have l := chos_wd 2 _ z h
  have i := chos1_ints (xs := []) (fun x h => nomatch h) 2 (ls.map V.int) (fun y hy => by obtain ⟨n, _, rfl⟩ := List.mem_map.mp hy; exact ⟨n, rfl⟩) z h
  match z, l with
  | [u, v], _ =>
    obtain ⟨x, rfl⟩ := i u List.mem_cons_self
    obtain ⟨y, rfl⟩ := i v (List.mem_cons_of_mem _ List.mem_cons_self)
    exact ⟨x, y, rfl⟩
section
variable {P : Program} {w : World} {K : PySem.W.Frag} {mg : Str → Option Value} {base : Heap}
theorem ok_web {f C CB CS : Addr} {fd : FuncData} (F : Fun K "web" "Sketch.web" s_Sketch_web f fd) (c : SkC K CS) (nt : mg "tuple" = none) : FnOk P w K mg base CX0 1 f fd ["self"] (spWeb C CB CS) := by
  refine F.ok sc_Sketch_web (fun vs H Q E h => ?_) (fun cdv A outer s H vs Q E hr h => ?_)
  · obtain ⟨z, ns, L, ls, K0, rfl, _⟩ := h
    rfl
  · obtain ⟨z, ns, L, ls, K0, rfl, hz, r3, l100, q⟩ := h
    obtain ⟨dx, b, l, k, d, a1, a2, a3, a4, a5⟩ := id hz
    refine ⟨_, (pss_one 
  (ps_ret (pe_callTy (T := "tuple") (r := rTup K) call_tuple_of (by rfl) nt (by decide +kernel) (pa_cons (pe_lc (own := [("x", 1), ("y", 2), ("_", 3)]) (g := gTup K 3 (gCons (gName 1) (gCons (gName 2) (gCons (gName 3) gNil)))) (by rfl) sc_Sketch_web.nd (pi_tup (pe_fld (pv 0) rfl)) (blkOk_by (own := [("x", 1), ("y", 2), ("_", 3)]) (N := ["self", "x", "y", "_"]) (sc := defScope s_Sketch_web) (by decide +kernel)) (fun _ _ _ _ _ => pg_tup (by rfl) (pgs_cons (pg_name (i := 1) sc_Sketch_web.nd rfl (Or.inl rfl)) (pgs_cons (pg_name (i := 2) sc_Sketch_web.nd rfl (Or.inl rfl)) (pgs_cons (pg_name (i := 3) sc_Sketch_web.nd rfl (Or.inl rfl)) pgs_nil)))) (fun _ _ _ _ _ => pts_nil) (fun _ _ _ _ _ => (pe_tup (pa_cons (pv 1) (pa_cons (pv 2) pa_nil))))) pa_nil)))), ?_⟩
    obtain ⟨ps, e1, e2, e3⟩ := a4
    refine ⟨_, rfl, z, CS, dx, _, _, rfl, a1, c.cl, c.nK, gf_known _ _ _ _, k, rfl, ⟨_, SqT.of e1⟩, fun D hD => ?_⟩
    refine lc_tup (K := K) (a := k) (xs := ps.map V.ref) (fun i H' => Gro H H' D ((K0.take i).map (List.take 2))) (Gro.nil hD) (fun i H' _ G => SqT.of (G.S _ _ e1)) ?_ ?_
    · rintro i y H2 hy G
      rw [List.getElem?_map] at hy
      cases ea : ps[i]? with
      | none => rw [ea] at hy; cases hy
      | some u =>
        rw [ea] at hy
        obtain rfl : V.ref u = y := Option.some.inj hy
        have li := (List.getElem?_eq_some_iff.mp ea).1
        have el := List.getElem?_eq_getElem (l := K0) (i := i) (by omega)
        generalize K0[i]'(by omega) = row at el
        obtain ⟨a, b', t, rfl⟩ := r3 row (List.mem_of_getElem? el)
        have hu := G.S _ _ (e3 i u _ ea el)
        refine ⟨u, _, rfl, SqT.of hu, rfl, _, _, rfl, _, _, rfl, _, _, rfl, rfl, rfl, yesT ⟨_, rfl, _, rfl, (by show 2 ≤ sizeLine; decide), fun z' hz' => ?_⟩⟩
        obtain ⟨acc, q1, q2, q3⟩ := G.snoc (ts := [a, b']) hz'
        refine ⟨acc, q1, by rw [q2, List.length_map, List.length_take]; exact small1000 (by omega), ?_⟩
        rw [List.take_add_one, el, List.map_append]
        exact q3
    · intro H2 G
      rw [List.length_map, e2, List.take_length] at G
      obtain ⟨qs, d1, d2, d3⟩ := id G.lsts
      refine ⟨D, _, rfl, .inl ⟨SqL.of d1, fun t ht => ?_⟩⟩
      exact q _ t (G.S.trans (new_same ht)) (G.S.free ht) (G.lsts.tup d1 ht)
theorem ok_unknown {f C CB CS fC : Addr} {fd fdC : FuncData} (F : Fun K "unknown" "Sketch.unknown" s_Sketch_unknown f fd) (c : SkC K CS) (nt : mg "tuple" = none) (GC : Cal P w K mg base CX0 3 "chosen_from" fC fdC ["things", "count"] (spChos 2)) : FnOk P w K mg base CX0 4 f fd ["self"] (spUnk C CB CS) := by
  refine F.ok sc_Sketch_unknown (fun vs H Q E h => ?_) (fun cdv A outer s H vs Q E hr h => ?_)
  · obtain ⟨z, ns, L, ls, K0, rfl, _⟩ := h
    rfl
  · obtain ⟨z, ns, L, ls, K0, rfl, hz, l6, l100, q⟩ := h
    obtain ⟨dx, b, l, k, d, a1, a2, a3, a4, a5⟩ := id hz
    refine ⟨_, (pss_one 
  (ps_ret (pe_callTy (T := "tuple") (r := rTup K) call_tuple_of (by rfl) nt (by decide +kernel) (pa_cons (pe_lc (own := [("couple", 1)]) (g := gName 1) (by rfl) sc_Sketch_unknown.nd (pi_list (pcal GC hr pass0 (pa_cons (pe_fld (pv 0) rfl) (pa_cons pe_int pa_nil)))) (blkOk_by (own := [("couple", 1)]) (N := ["self", "couple"]) (sc := defScope s_Sketch_unknown) (by decide +kernel)) (fun _ _ _ _ _ => pg_name (i := 1) sc_Sketch_unknown.nd rfl (Or.inl rfl)) (fun _ _ _ _ _ => pts_one (show PT _ _ (tB (tDNotIn (tVar 1) (tFld K (tVar 0) "known_ties"))) from pt_cmp (pc_dnotin (un1 hr) (pv 1) (pe_fld (pv 0) rfl)))) (fun _ _ _ _ _ => (pv 1))) pa_nil)))), ?_⟩
    refine ⟨_, rfl, z, CS, dx, _, _, rfl, a1, c.cl, c.nL, gf_labels _ _ _ _, l, ls.map V.int, rfl, a3, by rw [List.length_map]; exact l6, by decide, fun H1 y S1 ny Ly => ?_⟩
    obtain ⟨ps, e1, e2, e3⟩ := Ly
    refine ⟨y, rfl, ⟨_, SqL.of e1⟩, fun D hD => ?_⟩
    have b64 : (coupL ls).length ≤ 64 := Nat.le_trans (chos_len 2 _) (Nat.pow_le_pow_right (n := 2) (i := (ls.map V.int).length) (j := 6) (by decide) (by rw [List.length_map]; exact l6))
    refine lc_list (K := K) (a := y) (xs := ps.map V.ref) (fun i H' => GroX TupV H1 H' D (((coupL ls).take i).filter (unkF ns K0))) (GroX.nil hD) (fun i H' _ G => SqL.of (G.S _ _ e1)) ?_ ?_
    · rintro i v H2 hy G
      rw [List.getElem?_map] at hy
      cases ea : ps[i]? with
      | none => rw [ea] at hy; cases hy
      | some u =>
        rw [ea] at hy
        obtain rfl : V.ref u = v := Option.some.inj hy
        have li := (List.getElem?_eq_some_iff.mp ea).1
        have e2' : ps.length = (coupL ls).length := e2
        have el := List.getElem?_eq_getElem (l := coupL ls) (i := i) (by omega)
        generalize (coupL ls)[i]'(by omega) = cc at el
        obtain ⟨xx, yy, rfl⟩ := coup_two (List.mem_of_getElem? el)
        have hu : H2 u = some (.tup [.int xx, .int yy]) := G.S _ _ (e3 i u _ ea el)
        have S02 := S1.trans G.S
        have tk : (coupL ls).take (i + 1) = (coupL ls).take i ++ [[.int xx, .int yy]] := by rw [List.take_add_one, el]; rfl
        have uv : unkF ns K0 [.int xx, .int yy] = !(bothF ns K0 xx yy).isSome := by
          show (bothF ns K0 xx yy).isNone = _
          cases bothF ns K0 xx yy <;> rfl
        refine ⟨rfl, _, rfl, _, rfl, z, CS, dx, _, _, rfl, S02 _ _ a1, c.cl, c.nT, gf_ties _ _ _ _, d, _, rfl, (a5.keep S02).get hu, _, rfl, ?_⟩
        obtain ⟨us, eD, _⟩ := G.d
        cases ek : unkF ns K0 [.int xx, .int yy] with
        | true =>
          obtain ⟨acc, w1, w2, w3⟩ := G.app (z := u) (x := [.int xx, .int yy]) (fun H' B => tupV_but eD B) (show TupV H2 u [.int xx, .int yy] from hu)
          refine if_tr (by rw [← uv]; exact ek) ⟨_, rfl, acc, w1, ?_, ?_⟩
          · rw [w2]
            have := List.length_filter_le (unkF ns K0) ((coupL ls).take i)
            rw [List.length_take] at this
            exact small1000 (by omega)
          · rw [tk, List.filter_append, List.filter_cons_of_pos ek, List.filter_nil]
            exact w3
        | false =>
          refine if_fa (by rw [← uv]; exact ek) ?_
          rw [tk, List.filter_append, List.filter_cons_of_neg (by rw [ek]; decide), List.filter_nil, List.append_nil]
          exact G
    · intro H2 G
      rw [List.length_map, e2] at G
      have G : GroX TupV H1 H2 D ((coupL ls).filter (unkF ns K0)) := by
        have t : (coupL ls).take (chos 2 (ls.map V.int)).length = coupL ls := List.take_length
        rwa [t] at G
      obtain ⟨qs, d1, d2, d3⟩ := G.d
      refine ⟨D, _, rfl, .inl ⟨SqL.of d1, fun t ht => ?_⟩⟩
      have S3 := new_same (o := .tup (qs.map V.ref)) ht
      exact q _ t ((S1.trans G.S).trans S3) ((S1.trans G.S).free ht) ⟨qs, upd_same, d2, fun j a vs q1 q2 => S3 _ _ (d3 j a vs q1 q2)⟩
end
end J

set_option Elab.async false
set_option linter.all false
set_option maxRecDepth 100000
set_option maxHeartbeats 8000000
namespace J
open PySem PySem.Spec PyProof.Rows L2
abbrev s_NoGuest_init : Stmt := inClass (top 7) 0
abbrev s_Alike_init : Stmt := inClass (top 8) 0
abbrev s_Sketch_tie : Stmt := inClass (top 24) 4
theorem sc_Sketch_tie : FnScope ["self", "x", "y", "label"] ["self", "x", "y"] (defScope s_Sketch_tie) := ⟨rfl, rfl, rfl, by decide +kernel, rfl, by decide +kernel, by decide +kernel⟩
def inSk (ls : List Int) (v : V) : Bool := labB v && inV v (ls.map V.int)
def spTie (C CB CS CG CA : Addr) : Sp := fun vs H Q E => ∃ (z : Addr) (ns : List Int) (L : List (List Int)) (ls : List Int) (K0 : List (List Int)) (x y : V), vs = [.ref z, x, y] ∧ SkAt C CB CS H z ns L ls K0 ∧ Known H [x, y] ∧
  (inSk ls x = false → Tells H CG "label" x E) ∧ (inSk ls x = true → inSk ls y = false → Tells H CG "label" y E) ∧ (inSk ls x = true → inSk ls y = true → x = y → Tells H CA "label" x E) ∧
  (∀ a b : Int, x = .int a → y = .int b → inSk ls x = true → inSk ls y = true → a ≠ b → ∀ H', Same H H' → Q ((bothF ns K0 a b).getD .non) H')
section
variable {P : Program} {w : World} {K : PySem.W.Frag} {mg : Str → Option Value} {base : Heap}
theorem in_test {K : PySem.W.Frag} {CS : Addr} {σ : L2.St} {H : Hp} {Q : Bool → Hp → Prop} {v : V} {z l : Addr} {ls : List Int} {te : TE} (h3 : σ[3]? = some (some v)) (isv : ∃ s, Is H v s) (ht : ∀ Q' : VK, Q' (.ref l) H → te σ H Q') (el : H l = some (.tup (ls.map V.int))) (q : Q (!inSk ls v) H) :
    (tOr (tNot (tB (tCall spLabel [] E0 (tCons (tVar 3) tNil)))) (tTest (tOp (rIn K true) (tVar 3) te))) σ H Q := by
  obtain ⟨sv, isv⟩ := isv
  unfold inSk at q
  refine ⟨_, h3, v, sv, rfl, isv, _, rfl, ?_⟩
  cases lv : labB v with
  | false =>
    rw [lv] at q
    exact if_tr (by rw [show wholeB v 0 1000000000 = false from lv]; rfl) q
  | true =>
    rw [lv, Bool.true_and] at q
    obtain ⟨a, rfl, _⟩ := whole_int lv
    have fl : (ls.map V.int).all flatV = true := by
      rw [List.all_map]
      exact List.all_eq_true.mpr fun _ _ => rfl
    refine if_fa (by rw [show wholeB (.int a) 0 1000000000 = true from lv]; rfl) ⟨_, h3, ht _ ⟨l, _, rfl, .inr (SqT.of el), rfl, fl, _, rfl, ?_⟩⟩
    rw [if_pos rfl]
    exact q
theorem ok_tieOf {f C CB CS CG CA fL fG fA : Addr} {fd fdL fdG fdA : FuncData} (F : Fun K "tie_of" "Sketch.tie_of" s_Sketch_tie f fd) (c : SkC K CS) (GL : Cal P w K mg base CX0 2 "is_label" fL fdL ["thing"] spLabel) (GG : Ex P w K mg base "NoGuest" "label" CG fG fdG ["self", "label"]) (GA : Ex P w K mg base "Alike" "label" CA fA fdA ["self", "label"]) :
    FnOk P w K mg base (L2.CX P w) 3 f fd ["self", "x", "y"] (spTie C CB CS CG CA) := by
  refine F.okX sc_Sketch_tie (fun vs H Q E h => ?_) (fun cdv A outer s H vs Q E hr h => ?_)
  · obtain ⟨z, ns, L, ls, K0, x, y, rfl, _⟩ := h
    rfl
  · obtain ⟨z, ns, L, ls, K0, x, y, rfl, hz, kn, k1, k2, k3, k4⟩ := h
    obtain ⟨dx, b, l, k, d, a1, a2, a3, a4, a5⟩ := id hz
    refine ⟨_, (pss_cons 
  (ps_for (passes_of rfl) rfl (pi_tup (pe_tup (pa_cons (pv 1) (pa_cons (pv 2) pa_nil)))) (pg_name (i := 3) sc_Sketch_tie.nd rfl (Or.inl rfl)) (pss_one 
    (ps_if (PW.pt (pw_or (pt_not (pt_val (pcal GL hr pass0 (pa_cons (pv 3) pa_nil)))) (pw_or1 (pt_cmpR (r := rIn K true) op_notIn_seq (pv 3) (pe_fld (pv 0) rfl) (by rfl))))) (pss_one 
      (ps_raise rfl (takes_of rfl rfl rfl rfl) (pmk_oex GG.o GG.i GG.t GG.F hr GG.b .nil pass0 rfl GG.m (pa_cons (pv 3) pa_nil)))) pss_nil))) (pss_cons 
  (ps_if (pt_cmpR (r := rEq) op_eq (pv 1) (pv 2) (nomark _)) (pss_one 
    (ps_raise rfl (takes_of rfl rfl rfl rfl) (pmk_oex GA.o GA.i GA.t GA.F hr GA.b .nil pass0 rfl GA.m (pa_cons (pv 1) pa_nil)))) pss_nil) (pss_one 
  (ps_ret (pe_dget1 (un1 hr) (pe_fld (pv 0) rfl) (pe_tup (pa_cons (pv 1) (pa_cons (pv 2) pa_nil))) ⟨rfl, rfl, rfl, rfl⟩))))), ?_⟩
    refine ⟨_, rfl, _, rfl, (by show 2 ≤ sizeLine; decide), fun t0 ht0 => ?_⟩
    have S0 : Same H (upd H t0 (.tup [x, y])) := new_same ht0
    have et0 : (upd H t0 (.tup [x, y])) t0 = some (.tup [x, y]) := upd_same
    generalize upd H t0 (.tup [x, y]) = H0 at S0 et0
    refine ⟨t0, rfl, ⟨_, SqT.of et0⟩, for_tup (K := K) (a := t0) (xs := [x, y]) (fun i σ H' => H' = H0 ∧ (∃ v3, σ = [some (.ref z), some x, some y, v3]) ∧ (0 < i → inSk ls x = true) ∧ (1 < i → inSk ls y = true)) ⟨rfl, ⟨_, rfl⟩, fun h => absurd h (by omega), fun h => absurd h (by omega)⟩ (fun i σ H' _ h => by rw [h.1]; exact SqT.of et0) ?_ ?_⟩
    · rintro i v σ H1 ev ⟨rfl, ⟨v3, rfl⟩, t1, t2⟩
      have kv : ∃ s, Is H1 v s := (kn.keep S0) v (List.mem_of_getElem? ev)
      have hte : ∀ Q' : VK, Q' (.ref l) H1 → tFld K (tVar 0) "labels" [some (.ref z), some x, some y, some v] H1 Q' := fun Q' q => ⟨_, rfl, z, CS, dx, _, _, rfl, S0 _ _ a1, c.cl, c.nL, gf_labels _ _ _ _, q⟩
      refine in_test (CS := CS) (z := z) (l := l) (ls := ls) (v := v) rfl kv hte (S0 _ _ a3) ?_
      match i, ev with
      | 0, ev =>
        obtain rfl : x = v := Option.some.inj ev
        cases e : inSk ls x with
        | false => exact iteT ⟨_, rfl, mkO_of (k1 e |>.mono S0)⟩
        | true => exact iteF ⟨rfl, ⟨_, rfl⟩, fun _ => rfl, fun h => absurd h (by omega)⟩
      | 1, ev =>
        obtain rfl : y = v := Option.some.inj ev
        have e0 := t1 (by omega)
        cases e : inSk ls y with
        | false => exact iteT ⟨_, rfl, mkO_of (k2 e0 e |>.mono S0)⟩
        | true => exact iteF ⟨rfl, ⟨_, rfl⟩, fun _ => e0, fun _ => rfl⟩
      | i + 2, ev => simp at ev
    · rintro σ H1 ⟨rfl, ⟨v3, rfl⟩, t1, t2⟩
      have ix := t1 (by decide : 0 < 2)
      have iy := t2 (by decide : 1 < 2)
      have lx : labB x = true := by
        unfold inSk at ix
        rw [Bool.and_eq_true] at ix
        exact ix.1
      have ly : labB y = true := by
        unfold inSk at iy
        rw [Bool.and_eq_true] at iy
        exact iy.1
      obtain ⟨a, rfl, _⟩ := whole_int lx
      obtain ⟨b', rfl, _⟩ := whole_int ly
      refine ⟨_, rfl, _, rfl, rfl, _, rfl, ?_⟩
      by_cases c0 : a = b'
      · refine if_tr (decide_eq_true (by rw [c0])) ⟨_, rfl, mkO_of ((k3 ix iy (by rw [c0])).mono S0)⟩
      · refine if_fa (decide_eq_false (fun e => c0 (V.int.inj e))) ?_
        obtain ⟨kvs, dk, _⟩ := id a5
        refine ⟨_, rfl, z, CS, dx, _, _, rfl, S0 _ _ a1, c.cl, c.nT, gf_ties _ _ _ _, d, rfl, .inr ⟨kvs, .inl (S0 _ _ dk)⟩, _, rfl, _, rfl, (by show 2 ≤ sizeLine; decide), fun t ht => ?_⟩
        exact ⟨_, (a5.keep (S0.trans (new_same ht))).get upd_same, k4 a b' rfl rfl ix iy c0 _ (S0.trans (new_same ht))⟩
end
end J

set_option Elab.async false
set_option linter.all false
set_option maxRecDepth 100000
set_option maxHeartbeats 8000000
namespace J
open PySem PySem.Spec PyProof.Rows L2
structure SkX (K : PySem.W.Frag) (mg : Str → Option Value) (C : Addr) : Prop extends SkC K C where
  isc : C8.InsC K C
  mS : mg "Sketch" = some (.ref C)
  nt : PySem.W.kitOne K (.type "tuple") (.ref C) = some false
theorem BookAt.obj {C CB : Addr} {H : Hp} {x : Addr} {ns : List Int} {L : List (List Int)} (h : BookAt C CB H x ns L) : ∃ dx t b l r, H x = some (.ins CB dx (bf t b l r)) := by
  obtain ⟨dx, t, b, l, r, e, _⟩ := h
  exact ⟨dx, t, b, l, r, e⟩
abbrev s_Sketch_eq : Stmt := inClass (top 24) 1
theorem sc_Sketch_eq : FnScope ["self", "other"] ["self", "other"] (defScope s_Sketch_eq) := ⟨rfl, rfl, rfl, by decide +kernel, rfl, by decide +kernel, by decide +kernel⟩
def spSEq (C CB CS : Addr) : Sp := fun vs H Q _ => ∃ (x y : Addr) (ns : List Int) (L : List (List Int)) (ls : List Int) (K0 : List (List Int)), vs = [.ref x, .ref y] ∧ SkAt C CB CS H x ns L ls K0 ∧
  ((∃ ms M ls' K1, SkAt C CB CS H y ms M ls' K1 ∧ Q (.bl (decide (ns = ms ∧ L = M ∧ ls = ls' ∧ K0 = K1))) H) ∨ (∃ ys, H y = some (.tup ys) ∧ Q (.bl false) H))
section
variable {P : Program} {w : World} {K : PySem.W.Frag} {mg : Str → Option Value} {base : Heap}
theorem ok_Sketch_eq {f C CB CS fQ : Addr} {fd fdQ : FuncData} (F : Fun K "__eq__" "Sketch.__eq__" s_Sketch_eq f fd) (c : SkX K mg CS) (nis : mg "isinstance" = none)
    (FQ : FnOk P w K mg base CX0 2 fQ fdQ ["self", "other"] (spBEq C CB)) (aQ : PySem.W.findIn K (.ref CB) "__eq__" = some (some (.ref fQ))) (iQ : PySem.W.isFn K (.ref fQ) = true) (bQ : Binds K fdQ ["self", "other"] []) (nfB : PySem.W.notFirst K CB (.type "tuple") = true) :
    FnOk P w K mg base CX0 3 f fd ["self", "other"] (spSEq C CB CS) := by
  refine F.ok sc_Sketch_eq (fun vs H Q E h => ?_) (fun cdv A outer s H vs Q E hr h => ?_)
  · obtain ⟨x, y, ns, L, ls, K0, rfl, _⟩ := h
    rfl
  · obtain ⟨x, y, ns, L, ls, K0, rfl, ⟨dx, b, l, k, d, a1, a2, a3, a4, a5⟩, h⟩ := h
    refine ⟨_, (pss_cons 
  (ps_if (pt_not (pt_val (pe_callB (id := "isinstance") (r := rIsi K) call_isi (by rfl) nis (by decide +kernel) (pa_cons (pv 1) (pa_cons (pe_glob (v := .ref CS) rfl c.mS rfl) pa_nil))))) (pss_one 
    (ps_ret pe_bl)) pss_nil) (pss_one 
  (ps_ret (pe_and (pe_cmpR (op_eqOwn FQ aQ iQ bQ pass0 hr nfB) (pe_fld (pv 0) rfl) (pe_fld (pv 1) rfl) (nomark _)) (pe_and (pe_cmpR (r := rEqD K) (op_eqD hr.units) (pe_fld (pv 0) rfl) (pe_fld (pv 1) rfl) (nomark _)) (pe_one (pe_cmpR (r := rEqD K) (op_eqD hr.units) (pe_fld (pv 0) rfl) (pe_fld (pv 1) rfl) (nomark _)))))))), ?_⟩
    rcases h with ⟨ms, M, ls', K1, ⟨dy, b', l', k', d', c1, c2, c3, c4, c5⟩, q⟩ | ⟨ys, hy, q⟩
    · obtain ⟨db, t1, t2, t3, t4, e1⟩ := BookAt.obj a2
      obtain ⟨db', t1', t2', t3', t4', e1'⟩ := BookAt.obj c2
      refine ⟨_, rfl, _, _, _, _, true, rfl, .own CS, .base (.ins c1 c.cl c.isc.ha c.isc.hn c.isc.htk c.isc.hm), c.isc.me, _, rfl, iteF ?_⟩
      refine ⟨_, rfl, x, CS, dx, _, _, rfl, a1, c.cl, c.nB, gf_book _ _ _ _, _, rfl, y, CS, dy, _, _, rfl, c1, c.cl, c.nB, gf_book _ _ _ _, b, b', db, _, rfl, rfl, e1, .inl ⟨db', _, e1'⟩, b, .ref b', ns, L, rfl, a2, .inl ⟨b', ms, M, rfl, c2, ⟨_, rfl⟩, _, rfl, ?_⟩⟩
      by_cases h1 : ns = ms ∧ L = M
      case neg =>
        refine if_fa (decide_eq_false h1) ?_
        rw [decide_eq_false (fun z => h1 ⟨z.1, z.2.1⟩)] at q
        exact q
      refine if_tr (decide_eq_true h1) ⟨_, rfl, x, CS, dx, _, _, rfl, a1, c.cl, c.nL, gf_labels _ _ _ _, _, rfl, y, CS, dy, _, _, rfl, c1, c.cl, c.nL, gf_labels _ _ _ _, _, _, .tup (SqT.of a3) (dp_ints ls), .tup (SqT.of c3) (dp_ints ls'), shaped_ti ls, shaped_ti ls', ?_⟩
      rw [eqv_ti]
      refine ⟨_, rfl, ?_⟩
      by_cases h2 : ls = ls'
      case neg =>
        refine if_fa (decide_eq_false h2) ?_
        rw [decide_eq_false (fun z => h2 z.2.2.1)] at q
        exact q
      refine if_tr (decide_eq_true h2) ⟨_, rfl, x, CS, dx, _, _, rfl, a1, c.cl, c.nK, gf_known _ _ _ _, _, rfl, y, CS, dy, _, _, rfl, c1, c.cl, c.nK, gf_known _ _ _ _, _, _, a4.data, c4.data, shaped_tupsT K0, shaped_tupsT K1, ?_⟩
      rw [eqv_tupT]
      have e : decide (K0 = K1) = decide (ns = ms ∧ L = M ∧ ls = ls' ∧ K0 = K1) := by
        by_cases h3 : K0 = K1
        · rw [decide_eq_true h3, decide_eq_true ⟨h1.1, h1.2, h2, h3⟩]
        · rw [decide_eq_false h3, decide_eq_false (fun z => h3 z.2.2.2)]
      rw [e]
      exact q
    · exact ⟨_, rfl, _, _, _, _, false, rfl, .own CS, .base (.tup hy), c.nt, _, rfl, iteT q⟩
end
end J

set_option Elab.async false
set_option linter.all false
set_option maxRecDepth 100000
set_option maxHeartbeats 8000000
namespace J
open PySem PySem.Spec PyProof.Rows L2
/-- two lists that change while the hand changes -/
structure GrW (h q : Addr) (H1 H : Hp) (A D : Addr) (xs ys : List V) : Prop where
  B : But h H1 H
  hh : Hand H h q
  fA : H1 A = none
  fD : H1 D = none
  nA : A ≠ h ∧ A ≠ q
  nD : D ≠ h ∧ D ≠ q
  ne : A ≠ D
  lA : H A = some (.lst xs)
  lD : H D = some (.lst ys)
theorem GrW.step {h q A D : Addr} {H1 H H' : Hp} {xs ys : List V} (G : GrW h q H1 H A D xs ys) (B : But h H H') (hh : Hand H' h q) : GrW h q H1 H' A D xs ys := ⟨G.B.trans B, hh, G.fA, G.fD, G.nA, G.nD, G.ne, B _ _ G.nA.1 G.lA, B _ _ G.nD.1 G.lD⟩
theorem GrW.putA {h q A D : Addr} {H1 H : Hp} {xs ys : List V} (zs : List V) (G : GrW h q H1 H A D xs ys) : GrW h q H1 (upd H A (.lst zs)) A D zs ys := ⟨G.B.put2 G.fA, G.hh.put G.nA.1.symm G.nA.2.symm, G.fA, G.fD, G.nA, G.nD, G.ne, upd_same, by rw [upd_ne G.ne.symm]; exact G.lD⟩
theorem GrW.putD {h q A D : Addr} {H1 H : Hp} {xs ys : List V} (zs : List V) (G : GrW h q H1 H A D xs ys) : GrW h q H1 (upd H D (.lst zs)) A D xs zs := ⟨G.B.put2 G.fD, G.hh.put G.nD.1.symm G.nD.2.symm, G.fA, G.fD, G.nA, G.nD, G.ne, by rw [upd_ne G.ne]; exact G.lA, upd_same⟩
abbrev s_Lshuf : Stmt := top 50
theorem sc_Lshuf : FnScope ["_law_hand_here", "_law_things", "_law_left", "_law_told_here", "_law_k"] ["_law_hand_here", "_law_things"] (defScope s_Lshuf) := ⟨rfl, rfl, rfl, by decide +kernel, rfl, by decide +kernel, by decide +kernel⟩
def spShuf : Sp := fun vs H Q _ => ∃ (h q a : Addr) (xs : List V), vs = [.ref h, .ref a] ∧ Hand H h q ∧ a ≠ h ∧ H a = some (.lst xs) ∧ xs.length ≤ 100 ∧ ∀ (H' : Hp) (z : Addr) (ys : List V), But h H H' → Hand H' h q → H z = none → H' z = some (.lst ys) → ys.Perm xs → Q (.ref z) H'
theorem erase_perm {α : Type} : ∀ {l : List α} {j : Nat} {x : α}, l[j]? = some x → (l.eraseIdx j ++ [x]).Perm l
  | [], j, x, h => by simp at h
  | a :: l, 0, x, h => by
    obtain rfl : a = x := by simpa using h
    show (l ++ [a]).Perm (a :: l)
    exact List.perm_append_comm
  | a :: l, j + 1, x, h => by
    show (a :: (l.eraseIdx j ++ [x])).Perm (a :: l)
    exact (erase_perm (l := l) (j := j) (by simpa using h)).cons a
section
variable {P : Program} {w : World} {K : PySem.W.Frag} {mg : Str → Option Value} {base : Heap}
theorem ok_Lshuf {f fD : Addr} {fd fdD : FuncData} (F : Fun K "_law_shuffled" "_law_shuffled" s_Lshuf f fd) (nl : mg "len" = none) (nr : mg "range" = none) (nli : mg "list" = none) (GD : Cal P w K mg base CX0 2 "_law_draw" fD fdD ["_law_hand_here", "_law_many"] spDraw) :
    FnOk P w K mg base CX0 3 f fd ["_law_hand_here", "_law_things"] spShuf := by
  refine F.ok sc_Lshuf (fun vs H Q E h => ?_) (fun cdv A outer s H vs Q E hr h => ?_)
  · obtain ⟨h, q, a, xs, rfl, _⟩ := h
    rfl
  · obtain ⟨h, q, a, xs, rfl, hh, ah, ea, l100, k⟩ := h
    refine ⟨_, (pss_cons 
  (ps_par (i := 2) (j := 3) rfl sc_Lshuf.nd rfl rfl (by decide) rfl rfl (pa_cons (pe_callTy (T := "list") (r := rLst K) call_list_of (by rfl) nli (by decide +kernel) (pa_cons (pv 1) pa_nil)) (pa_cons (pe_lst pa_nil) pa_nil)) rfl) (pss_cons 
  (ps_for PassesOwn.never rfl (pi_range1 (by rfl) nr (pa_cons (pe_callB call_len_seq (by rfl) nl PySem.boot_len (pa_cons (pv 2) pa_nil)) pa_nil)) (pg_name (i := 4) sc_Lshuf.nd rfl (Or.inl rfl)) (pss_one 
    (ps_expr (pe_bm PySem.F.plainAttrs_list PySem.F.slot_list_append PySem.F.type_list_append mt_append (pv 3) (pa_cons (pe_bm PySem.F.plainAttrs_list PySem.F.slot_list_pop PySem.F.type_list_pop mt_popAt (pv 2) (pa_cons (pcal GD hr pass0 (pa_cons (pv 0) (pa_cons (pe_callB call_len_seq (by rfl) nl PySem.boot_len (pa_cons (pv 2) pa_nil)) pa_nil))) pa_nil)) pa_nil))))) (pss_one 
  (ps_ret (pv 3))))), ?_⟩
    refine ⟨_, rfl, a, xs, rfl, .inl (SqL.of ea), fun A hA => ⟨(by show 0 ≤ sizeLine; decide), fun D hD => ⟨_, _, rfl, ?_⟩⟩⟩
    obtain ⟨nA1, nA2⟩ := hh.same_h' hA
    have hhA : Hand (upd H A (.lst xs)) h q := hh.new hA
    obtain ⟨nD1, nD2⟩ := hhA.same_h' hD
    have neAD : A ≠ D := fun e => by rw [← e, upd_same] at hD; cases hD
    have hD0 : H D = none := by rwa [upd_ne neAD.symm] at hD
    have G0 : GrW h q H (upd (upd H A (.lst xs)) D (.lst [])) A D xs [] := ⟨(But.new hA).trans (But.new hD), hhA.new hD, hA, hD0, ⟨nA1, nA2⟩, ⟨nD1, nD2⟩, neAD, by rw [upd_ne neAD]; exact upd_same, upd_same⟩
    generalize upd (upd H A (.lst xs)) D (.lst []) = H0 at G0
    refine ⟨_, rfl, A, _, rfl, .inl (SqL.of G0.lA), _, rfl, by omega, by omega, for_range (lo := 0) (n := xs.length) (fun i σ H' => ∃ (ls ts : List V) (v4 : Option V), σ = [some (.ref h), some (.ref a), some (.ref A), some (.ref D), v4] ∧ GrW h q H H' A D ls ts ∧ (ls ++ ts).Perm xs ∧ ts.length = i) ⟨xs, [], none, rfl, G0, by rw [List.append_nil], rfl⟩ ?_ ?_⟩
    · rintro i σ H2 hi ⟨ls, ts, v4, rfl, G, pm, lt⟩
      have ll : ls.length + i = xs.length := by
        have := pm.length_eq
        rw [List.length_append] at this
        omega
      refine ⟨_, rfl, .inl ⟨rfl, _, SqL.of G.lD⟩, _, rfl, .inl ⟨rfl, _, SqL.of G.lA⟩, _, rfl, _, rfl, A, _, rfl, .inl (SqL.of G.lA), h, q, (ls.length : Nat), rfl, by omega, by omega, G.hh, fun u H3 u0 u1 B3 h3 => ?_⟩
      have G3 := G.step B3 h3
      have un : u.toNat < ls.length := by omega
      have ey := List.getElem?_eq_getElem un
      generalize ls[u.toNat] = y at ey
      refine ⟨A, ls, u, u.toNat, y, rfl, rfl, G3.lA, by omega, by omega, ?_, ey, ?_⟩
      · exact seq_at u0 u1
      · have G4 := G3.putA (ls.eraseIdx u.toNat)
        refine ⟨D, ts, y, rfl, rfl, G4.lD, small1000 (by omega), ls.eraseIdx u.toNat, ts ++ [y], _, rfl, G4.putD _, ?_, by rw [List.length_append, lt]; rfl⟩
        refine List.Perm.trans ?_ pm
        have h1 : (ls.eraseIdx u.toNat ++ (ts ++ [y])).Perm ((ls.eraseIdx u.toNat ++ [y]) ++ ts) := by
          rw [List.append_assoc]
          exact List.perm_append_comm.append_left _
        exact h1.trans ((erase_perm ey).append_right ts)
    · rintro σ H2 ⟨ls, ts, v4, rfl, G, pm, lt⟩
      have : ls = [] := by
        have := pm.length_eq
        rw [List.length_append] at this
        exact List.eq_nil_of_length_eq_zero (by omega)
      subst this
      exact ⟨_, rfl, k H2 D ts G.B G.hh hD0 G.lD (by simpa using pm)⟩
end
end J

set_option Elab.async false
set_option linter.all false
set_option maxRecDepth 100000
set_option maxHeartbeats 4000000
namespace J
open PySem PySem.Spec PyProof.Rows L2
abbrev s_Lis_label : Stmt := top 53
theorem sc_Lis_label : FnScope ["_law_thing"] ["_law_thing"] (defScope s_Lis_label) := ⟨rfl, rfl, rfl, by decide +kernel, rfl, by decide +kernel, by decide +kernel⟩
section
variable {P : Program} {w : World} {K : PySem.W.Frag} {mg : Str → Option Value} {base : Heap}
theorem ok_Lis_label {f : Addr} {fd : FuncData} (F : Fun K "_law_is_label" "_law_is_label" s_Lis_label f fd) (ns : mg "isinstance" = none) (ni : mg "int" = none) (nb : mg "bool" = none) : FnOk P w K mg base CX0 1 f fd ["_law_thing"] spLabel := by
  refine F.ok sc_Lis_label (fun vs H Q E h => ?_) (fun cdv A outer s H vs Q E hr h => ?_)
  · obtain ⟨x, s, rfl, _⟩ := h
    rfl
  · obtain ⟨x, sh, rfl, hx, k⟩ := h
    refine ⟨_, (pss_one 
  (ps_ret (pe_and (pe_callB call_isi (by rfl) ns (by decide +kernel) (pa_cons (pv 0) (pa_cons (pe_bltn (by rfl) ni (by decide +kernel) (v := .ty "int") rfl) pa_nil))) (pe_and (pe_not (pe_callB call_isi (by rfl) ns (by decide +kernel) (pa_cons (pv 0) (pa_cons (pe_bltn (by rfl) nb (by decide +kernel) (v := .ty "bool") rfl) pa_nil)))) (pe_one (pe_chain op_le op_le pe_int (pv 0) (pe_op op_pow pe_int pe_int))))))), ?_⟩
    obtain ⟨t, ht, k1, k2, _⟩ := hx.ty (K := K)
    refine ⟨_, rfl, _, _, _, _, _, rfl, .ty "int", ht, kit_ty k1, _, rfl, ?_⟩
    cases e1 : sh.int with
    | true =>
      obtain ⟨i, rfl⟩ : ∃ i, sh = .sc (.int i) := by
        cases sh with
        | sc v => cases v <;> first | exact ⟨_, rfl⟩ | cases e1
        | _ => cases e1
      obtain ⟨rfl, _⟩ := hx
      refine if_tr rfl ?_
      refine ⟨_, rfl, _, _, _, _, _, rfl, .ty "bool", ht, kit_ty k2, _, rfl, _, rfl, ?_⟩
      refine if_tr rfl ?_
      refine ⟨_, rfl, _, _, rfl, rfl, _, rfl, ?_⟩
      by_cases c : 0 ≤ i
      · refine if_tr (decide_eq_true c) ⟨_, _, rfl, rfl, ⟨by decide, by decide, by decide⟩, _, _, rfl, rfl, ?_⟩
        have e : wholeB (.int i) 0 1000000000 = decide (i ≤ 1000000000) := by
          show (decide (0 ≤ i) && decide (i ≤ 1000000000)) = _
          rw [decide_eq_true c, Bool.true_and]
        rw [e] at k
        exact k
      · refine if_fa (decide_eq_false c) ?_
        have e : wholeB (.int i) 0 1000000000 = false := by
          show (decide (0 ≤ i) && decide (i ≤ 1000000000)) = _
          rw [decide_eq_false c, Bool.false_and]
        rw [e] at k
        exact k
    | false =>
      have e : wholeB x 0 1000000000 = false := by
        cases sh with
        | sc v =>
          obtain ⟨rfl, _⟩ := hx
          cases x <;> first | rfl | cases e1
        | dk => obtain ⟨a, _, rfl, _⟩ := hx; rfl
        | lst => obtain ⟨a, rfl, _⟩ := hx; rfl
        | tup => obtain ⟨a, rfl, _⟩ := hx; rfl
      rw [e] at k
      cases e2 : sh.bl with
      | true =>
        refine if_tr rfl ?_
        refine ⟨_, rfl, _, _, _, _, _, rfl, .ty "bool", ht, kit_ty (e2 ▸ k2), _, rfl, _, rfl, ?_⟩
        exact if_fa rfl k
      | false => exact if_fa rfl k
end
end J

set_option Elab.async false
set_option linter.all false
set_option maxRecDepth 100000
set_option maxHeartbeats 4000000
namespace J
open PySem PySem.Spec PyProof.Rows L2
abbrev s_Lplain_rows : Stmt := top 52
theorem sc_Lplain_rows : FnScope ["_law_world", "_law_rows", "_law_row"] ["_law_world", "_law_rows"] (defScope s_Lplain_rows) := ⟨rfl, rfl, rfl, by decide +kernel, rfl, by decide +kernel, by decide +kernel⟩
/-- the rows of a list in order, from lesser to greater labels -/
def spPR : Sp := fun vs H Q _ => ∃ (x r : Addr) (ns ls : List Int) (L R : List (List Int)), vs = [.ref x, .ref r] ∧ WAt H x ns L ∧ GoodB ns ∧ LstsAt H r R ∧ R.length ≤ 100 ∧ (∀ y ∈ R, RwGood ns ls y) ∧ ∀ (H' : Hp) (z : Addr) (Kn : List (List Int)), Same H H' → H z = none → LstsAt H' z Kn → IsKn ns R Kn → Q (.ref z) H'
section
variable {P : Program} {w : World} {K : PySem.W.Frag} {mg : Str → Option Value} {base : Heap}
theorem ok_Lplain_rows {f : Addr} {fd : FuncData} (F : Fun K "_law_plain_rows" "_law_plain_rows" s_Lplain_rows f fd) (nso : mg "sorted" = none) : FnOk P w K mg base CX0 1 f fd ["_law_world", "_law_rows"] spPR := by
  refine F.ok sc_Lplain_rows (fun vs H Q E h => ?_) (fun cdv A outer s H vs Q E hr h => ?_)
  · obtain ⟨x, r, ns, ls, L, R, rfl, _⟩ := h
    rfl
  · obtain ⟨x, r, ns, ls, L, R, rfl, hW, gb, hR, l100, ok, k⟩ := h
    refine ⟨_, (pss_one 
  (ps_ret (pe_callB (r := rSortLT 3 big) (cr_sortedLT (by decide)) (by rfl) nso (by decide +kernel) (pa_cons (pe_lc (own := [("_law_row", 2)]) (g := gName 2) (by rfl) sc_Lplain_rows.nd (pi_list (pv 1)) (blkOk_by (own := [("_law_row", 2)]) (N := ["_law_world", "_law_rows", "_law_row"]) (sc := defScope s_Lplain_rows) (by decide +kernel)) (fun _ _ _ _ _ => pg_name (i := 2) sc_Lplain_rows.nd rfl (Or.inl rfl)) (fun _ _ _ _ _ => pts_nil) (fun _ _ _ _ _ => (pe_ifExp (pt_cmpR op_lt (pe_ix (r := rIxT K) ix_tup (pv 2) pe_int (fun _ _ => rfl)) (pe_ix (r := rIxT K) ix_tup (pv 2) pe_int (fun _ _ => rfl)) (nomark _)) (pv 2) (pe_tup (pa_cons (pe_ix (r := rIxT K) ix_tup (pv 2) pe_int (fun _ _ => rfl)) (pa_cons (pe_ix (r := rIxT K) ix_tup (pv 2) pe_int (fun _ _ => rfl)) (pa_cons (pe_ix (r := rIxL K) ix_list (pe_ix (r := rIxT K) ix_tup (pv 0) pe_int (fun _ _ => rfl)) (pe_ix (r := rIxT K) ix_tup (pv 2) pe_int (fun _ _ => rfl)) (fun _ _ => rfl)) pa_nil))))))) pa_nil)))), ?_⟩
    obtain ⟨b, zz, po, ro, x1, x2, x3, x4, x5⟩ := id hW
    obtain ⟨ps, e1, e2, e3⟩ := id hR
    refine ⟨_, rfl, r, rfl, ⟨_, SqL.of e1⟩, fun D hD => ?_⟩
    refine lc_list (K := K) (a := r) (xs := ps.map V.ref) (fun i H' => GroX (fun H a (y : List Int) => H a = some (.tup (y.map V.int))) H H' D ((R.take i).map (turnR ns))) (GroX.nil hD) (fun i H' _ G => SqL.of (G.S _ _ e1)) ?_ ?_
    · rintro i y H2 hy G
      rw [List.getElem?_map] at hy
      cases ea : ps[i]? with
      | none => rw [ea] at hy; cases hy
      | some u =>
        rw [ea] at hy
        obtain rfl : V.ref u = y := Option.some.inj hy
        have li := (List.getElem?_eq_some_iff.mp ea).1
        have el := List.getElem?_eq_getElem (l := R) (i := i) (by omega)
        generalize R[i]'(by omega) = row at el
        obtain ⟨a, b', t, rfl, _, _, _, _, _, it⟩ := ok row (List.mem_of_getElem? el)
        have hu : H2 u = some (.tup [.int a, .int b', .int t]) := G.S _ _ (e3 i u _ ea el)
        have su := SqT.of (K := K) hu
        have tk : (R.take (i + 1)).map (turnR ns) = (R.take i).map (turnR ns) ++ [turn3 ns a b' t] := by rw [List.take_add_one, el, List.map_append]; rfl
        have b100 : ((R.take i).map (turnR ns)).length ≤ 100 := by rw [List.length_map, List.length_take]; omega
        refine ⟨rfl, yesT ⟨_, rfl, _, _, _, _, rfl, rfl, su, at_of (j := 0) (v := .int a) rfl rfl, _, rfl, _, _, _, _, rfl, rfl, su, at_of (j := 1) (v := .int b') rfl rfl, _, _, rfl, rfl, _, rfl, ?_⟩⟩
        by_cases c : a < b'
        · obtain ⟨us, eD, _⟩ := G.d
          obtain ⟨acc, w1, w2, w3⟩ := G.app (z := u) (x := turn3 ns a b' t) (fun H' B q r h => B _ _ (fun e => by rw [e, eD] at h; cases h) h) (by unfold turn3; rw [if_pos c]; exact hu)
          refine if_tr (decide_eq_true c) ⟨_, rfl, acc, w1, by rw [w2]; exact small1000 (by omega), ?_⟩
          rw [tk]
          exact w3
        · refine if_fa (decide_eq_false c) ⟨_, rfl, _, _, _, _, rfl, rfl, su, at_of (j := 1) (v := .int b') rfl rfl, _, rfl, _, _, _, _, rfl, rfl, su, at_of (j := 0) (v := .int a) rfl rfl, _, rfl, _, _, _, _, rfl, rfl, SqT.of (G.S _ _ x1), at_of (j := 0) (v := .ref b) rfl rfl, _, rfl, _, _, _, _, rfl, rfl, su, at_of (j := 2) (v := .int t) rfl rfl, _, _, _, _, rfl, rfl, SqL.of (G.S _ _ x2), at_of (j := t.toNat) (v := .int (bk ns t)) (by have := it.1; omega) (by rw [List.getElem?_map, bk_get it]; rfl), (by show 3 ≤ sizeLine; decide), fun z hz => ?_⟩
          have S3 : Same H2 (upd H2 z (.tup [.int b', .int a, .int (bk ns t)])) := new_same hz
          have ez : (upd H2 z (.tup [.int b', .int a, .int (bk ns t)])) z = some (.tup ((turn3 ns a b' t).map V.int)) := by rw [upd_same]; unfold turn3; rw [if_neg c]; rfl
          generalize upd H2 z (.tup [.int b', .int a, .int (bk ns t)]) = H3 at S3 ez
          have G3 := G.keep S3 fun a r h => S3 _ _ h
          obtain ⟨us, eD, _⟩ := G3.d
          obtain ⟨acc, w1, w2, w3⟩ := G3.app (z := z) (x := turn3 ns a b' t) (fun H' B q r h => B _ _ (fun e => by rw [e, eD] at h; cases h) h) ez
          refine ⟨acc, w1, by rw [w2]; exact small1000 (by omega), ?_⟩
          rw [tk]
          exact w3
    · intro H2 G
      rw [List.length_map, e2, List.take_length] at G
      obtain ⟨qs, p1, p2, p3⟩ := G.d
      have zs : (qs.zip (R.map (turnR ns))).map (·.2) = R.map (turnR ns) := List.map_snd_zip (by omega)
      have zf : (qs.zip (R.map (turnR ns))).map (·.1) = qs := List.map_fst_zip (by omega)
      refine ⟨D, qs.zip (R.map (turnR ns)), rfl, ?_, ?_, fun q hq => ?_, fun M p pm pw hp => ?_⟩
      · rw [p1]
        have : (qs.zip (R.map (turnR ns))).map (fun q => V.ref q.1) = ((qs.zip (R.map (turnR ns))).map (·.1)).map V.ref := by rw [List.map_map]; rfl
        rw [this, zf]
      · rw [List.length_zip, List.length_map]
        omega
      · obtain ⟨j, hj⟩ := List.mem_iff_getElem?.mp hq
        obtain ⟨j1, j2⟩ := List.getElem?_zip_eq_some.mp hj
        obtain ⟨r', hr', er⟩ := List.mem_map.mp (List.mem_of_getElem? j2)
        have tk := turn_ok gb (ok r' hr')
        rw [er] at tk
        exact ⟨p3 j _ _ j1 j2, tk.1, tk.2.1⟩
      · have zr : (M.map (·.2)).Perm (R.map (turnR ns)) := by
          have := pm.map (·.2)
          rwa [zs] at this
        have inM : ∀ q ∈ M, H2 q.1 = some (.tup (q.2.map V.int)) := fun q hq => by
          obtain ⟨j, hj⟩ := List.mem_iff_getElem?.mp (pm.mem_iff.mp hq)
          obtain ⟨j1, j2⟩ := List.getElem?_zip_eq_some.mp hj
          exact p3 j _ _ j1 j2
        have S3 : Same H2 (upd H2 p (.lst (M.map fun q => V.ref q.1))) := new_same hp
        refine k _ p (M.map (·.2)) (G.S.trans S3) (G.S.free hp) ⟨M.map (·.1), by rw [upd_same, List.map_map]; rfl, by rw [List.length_map, List.length_map], fun j a ts q1 q2 => ?_⟩ ⟨zr, by rw [List.pairwise_map]; exact pw⟩
        rw [List.getElem?_map] at q1 q2
        cases em : M[j]? with
        | none => rw [em] at q1; cases q1
        | some q =>
          rw [em] at q1 q2
          obtain rfl := Option.some.inj q1
          obtain rfl := Option.some.inj q2
          exact S3 _ _ (inM q (List.mem_of_getElem? em))
end
end J

set_option Elab.async false
set_option linter.all false
set_option maxRecDepth 100000
set_option maxHeartbeats 4000000
namespace J
open PySem PySem.Spec PyProof.Rows L2
/-! ### known rows are one list -/
theorem map_code_inj {L M : List (List Int)} (hL : ∀ t ∈ L, t.length = 3 ∧ TS.Bd big t) (hM : ∀ t ∈ M, t.length = 3 ∧ TS.Bd big t) (h : L.map (TS.code big) = M.map (TS.code big)) : L = M := by
  induction L generalizing M with
  | nil =>
    cases M with
    | nil => rfl
    | cons y M => cases h
  | cons x L ih =>
    cases M with
    | nil => cases h
    | cons y M =>
      rw [List.map_cons, List.map_cons] at h
      injection h with h1 h2
      obtain ⟨l1, b1⟩ := hL x List.mem_cons_self
      obtain ⟨l2, b2⟩ := hM y List.mem_cons_self
      rw [code_inj (by omega) b1 b2 h1, ih (fun t ht => hL t (List.mem_cons_of_mem _ ht)) (fun t ht => hM t (List.mem_cons_of_mem _ ht)) h2]
theorem IsKn.bd {ns ls : List Int} {R Kn : List (List Int)} (gb : GoodB ns) (ok : ∀ y ∈ R, RwGood ns ls y) (h : IsKn ns R Kn) : ∀ t ∈ Kn, t.length = 3 ∧ TS.Bd big t := fun t ht => by
  obtain ⟨r, hr, rfl⟩ := List.mem_map.mp (h.1.mem_iff.mp ht)
  obtain ⟨a, b, _⟩ := turn_ok gb (ok r hr)
  exact ⟨a, b⟩
theorem IsKn.uniq {ns ls ls' : List Int} {R R' K K' : List (List Int)} (gb : GoodB ns) (ok : ∀ y ∈ R, RwGood ns ls y) (ok' : ∀ y ∈ R', RwGood ns ls' y) (p : (R.map (turnR ns)).Perm (R'.map (turnR ns))) (h : IsKn ns R K) (h' : IsKn ns R' K') : K = K' := by
  refine map_code_inj (h.bd gb ok) (h'.bd gb ok') (PySem.W.lks_uniq (((h.1.trans p).trans h'.1.symm).map _) ?_ ?_)
  · rw [List.pairwise_map]; exact h.2
  · rw [List.pairwise_map]; exact h'.2
theorem IsKn.len {ns : List Int} {R Kn : List (List Int)} (h : IsKn ns R Kn) : Kn.length = R.length := by
  rw [h.1.length_eq, List.length_map]
theorem IsKn.rows3 {ns ls : List Int} {R Kn : List (List Int)} (gb : GoodB ns) (ok : ∀ y ∈ R, RwGood ns ls y) (h : IsKn ns R Kn) : Rows3 Kn := fun t ht => by
  obtain ⟨r, hr, rfl⟩ := List.mem_map.mp (h.1.mem_iff.mp ht)
  obtain ⟨_, _, a, b, t, e, _⟩ := turn_ok gb (ok r hr)
  exact ⟨a, b, t, e⟩
/-- a row that is turned already stays -/
theorem turn_again {ns ls : List Int} {r : List Int} (gb : GoodB ns) (g : RwGood ns ls r) : RwGood ns ls (turnR ns r) ∧ turnR ns (turnR ns r) = turnR ns r ∧ r0 (turnR ns r) < r1 (turnR ns r) := by
  obtain ⟨a, b, t, rfl, ra, rb, ia, ib, ne, it⟩ := g
  have e : turnR ns [a, b, t] = turn3 ns a b t := rfl
  rw [e]
  by_cases c : a < b
  · have e1 : turn3 ns a b t = [a, b, t] := by unfold turn3; rw [if_pos c]
    rw [e1]
    exact ⟨⟨a, b, t, rfl, ra, rb, ia, ib, ne, it⟩, e1, c⟩
  · have e1 : turn3 ns a b t = [b, a, bk ns t] := by unfold turn3; rw [if_neg c]
    have c' : b < a := by omega
    rw [e1]
    refine ⟨⟨b, a, _, rfl, rb, ra, ib, ia, Ne.symm ne, bk_in gb it⟩, ?_, c'⟩
    show turn3 ns b a (bk ns t) = _
    unfold turn3
    rw [if_pos c']
end J

set_option Elab.async false
set_option linter.all false
set_option maxRecDepth 100000
set_option maxHeartbeats 8000000
namespace J
open PySem PySem.Spec PyProof.Rows L2
theorem lk_ix {u v : V} : List.lookup ("index" : Str) [(("what" : Str), u), (("index" : Str), v)] = some v := by
  have e : (("index" : Str) == ("what" : Str)) = false := by decide +kernel
  simp [List.lookup, e]
theorem lk_wh {u v : V} : List.lookup ("what" : Str) [(("what" : Str), u), (("index" : Str), v)] = some u := by simp [List.lookup]
abbrev s_Ltold : Stmt := top 55
theorem sc_Ltold : FnScope ["_law_book", "_law_labels_here", "_law_rows", "e"] ["_law_book", "_law_labels_here", "_law_rows"] (defScope s_Ltold) := ⟨rfl, rfl, rfl, by decide +kernel, rfl, by decide +kernel, by decide +kernel⟩
/-- what is told of labels and rows -/
def SkTold (H : Hp) (z : Addr) (ns : List Int) : Sum (Nat × Str) (List Int × List (List Int)) → Prop
  | .inl (j, u) => H z = some (.tup [.str "bad", .int (j : Nat), .str u])
  | .inr (_, R) => ∃ Kn k, IsKn ns R Kn ∧ H z = some (.tup [.str "is", .ref k]) ∧ TupsAt H k Kn
def spSkTold (C CB : Addr) : Sp := fun vs H Q _ => ∃ (b : Addr) (ns : List Int) (L : List (List Int)) (l v : V) (sl sv : Sh) (ss : List Sh), vs = [.ref b, l, v] ∧ BookAt C CB H b ns L ∧ GoodB ns ∧ Is H l sl ∧ Known H (items sl) ∧ Is H v sv ∧ ShAll H (items sv) ss ∧ ss.length ≤ 100 ∧
  ∀ (H' : Hp) (z : Addr), Same H H' → SkTold H' z ns (skJ ns sl sv ss) → Q (.ref z) H'
section
variable {P : Program} {w : World} {K : PySem.W.Frag} {mg : Str → Option Value} {base : Heap}
theorem ok_Ltold {f C CB CS CE fI fX : Addr} {fd fdI fdX : FuncData} (F : Fun K "_law_told" "_law_told" s_Ltold f fd) (c : SkC K CS) (mS : mg "Sketch" = some (.ref CS)) (MI : Mk K CS fI) (FI : FnOk P w K mg base (L2.CX P w) 6 fI fdI ["self", "book", "labels", "known"] (spSI C CB CS CE)) (bI : Binds K fdI ["self", "book", "labels", "known"] [])
    (GE : Ex2 P w K mg base "BadSketch" "index" "what" CE fX fdX ["self", "index", "what"]) : FnOk P w K mg base CX0 8 f fd ["_law_book", "_law_labels_here", "_law_rows"] (spSkTold C CB) := by
  refine F.ok sc_Ltold (fun vs H Q E h => ?_) (fun cdv A outer s H vs Q E hr h => ?_)
  · obtain ⟨b, ns, L, l, v, sl, sv, ss, rfl, _⟩ := h
    rfl
  · obtain ⟨b, ns, L, l, v, sl, sv, ss, rfl, hB, gb, isl, kn, isv, sa, l100, k⟩ := h
    refine ⟨_, (pss_one 
  (ps_try_as (i := 3) (Wout := fun _ _ _ _ => False) rfl rfl sc_Ltold.nd rfl rfl ⟨rfl, by decide, Or.inl GE.m⟩ takes0 (fun W pn xe tk _ => (pss_one 
    (by exact (ps_ret (pe_tup (pa_cons pe_str (pa_cons (show PE _ _ (tFld K (tMakeS CS (spSI C CB CS CE) _ (tCons (tVar 0) (tCons (tVar 1) (tCons (tVar 2) tNil)))) "known") from pe_fld (pmakS MI FI hr (by rfl) mS bI (fun σ => passAt tk σ) (pa_cons (pv 0) (pa_cons (pv 1) (pa_cons (pv 2) pa_nil)))) rfl) pa_nil))))))) (fun a oe cls d pn hz hf => (pss_one 
    (ps_ret (pe_tup (pa_cons pe_str (pa_cons (pe_xf GE.xf GE.no1 hz hf (pv 3)) (pa_cons (pe_xf GE.xf GE.no2 hz hf (pv 3)) pa_nil))))))))), ?_⟩
    refine ⟨_, rfl, _, rfl, _, rfl, mk_sketch hB gb isl kn isv sa l100 (fun j u e d H1 nd S1 e1 => ⟨true, GE.te, fun _ a haa => ?_, fun q => nomatch q⟩) (fun ls R Kn e ikn H1 x S1 nx sk => ?_)⟩
    · refine ⟨_, rfl, rfl, rfl, d, _, _, rfl, e1, lk_ix, _, rfl, rfl, rfl, d, _, _, rfl, e1, lk_wh, (by show 3 ≤ sizeLine; decide), fun y hy => ?_⟩
      refine k _ y (S1.trans (new_same hy)) ?_
      rw [e]
      exact upd_same
    · obtain ⟨dx, b', l', k', d', a1, a2, a3, a4, a5⟩ := id sk
      refine ⟨rfl, x, CS, dx, _, _, rfl, a1, c.cl, c.nK, gf_known _ _ _ _, (by show 2 ≤ sizeLine; decide), fun y hy => ?_⟩
      have S2 := new_same (o := .tup [.str "is", .ref k']) hy
      refine k _ y (S1.trans S2) ?_
      rw [e]
      exact ⟨Kn, k', ikn, upd_same, a4.keep S2⟩
end
end J

set_option Elab.async false
set_option linter.all false
set_option maxRecDepth 100000
set_option maxHeartbeats 8000000
namespace J
open PySem PySem.Spec PyProof.Rows L2
abbrev s_Lmore : Stmt := top 56
theorem sc_Lmore : FnScope ["_law_sketch", "_law_x", "_law_y", "_law_tie_here", "e"] ["_law_sketch", "_law_x", "_law_y", "_law_tie_here"] (defScope s_Lmore) := ⟨rfl, rfl, rfl, by decide +kernel, rfl, by decide +kernel, by decide +kernel⟩
theorem skJ_tup {ns : List Int} {sl sv : Sh} {ss : List Sh} (h : sv.isT = true) : skJ ns sl sv ss = skJ ns sl (.tup []) ss := by
  have e : (sv.isL || sv.isT) = true := by rw [h, Bool.or_true]
  have e2 : ((Sh.tup []).isL || (Sh.tup []).isT) = true := rfl
  unfold skJ
  rw [e, e2]
def SkMore (H : Hp) (z : Addr) (ns : List Int) : Sum (Nat × Str) (List Int × List (List Int)) → Prop
  | .inl (j, u) => H z = some (.tup [.str "bad", .int (j : Nat), .str u, .bl true])
  | .inr (_, R) => ∃ Kn k, IsKn ns R Kn ∧ H z = some (.tup [.str "is", .ref k]) ∧ TupsAt H k Kn
def spMore (C CB CS : Addr) : Sp := fun vs H Q _ => ∃ (z : Addr) (ns : List Int) (L : List (List Int)) (ls : List Int) (K0 : List (List Int)) (x y t : V), vs = [.ref z, x, y, t] ∧ SkAt C CB CS H z ns L ls K0 ∧ GoodB ns ∧ Known H [x, y, t] ∧ K0.length ≤ 90 ∧
  ∀ (H' : Hp) (r : Addr), Same H H' → SkMore H' r ns (skJ ns (.tup (ls.map V.int)) (.tup []) (shT K0 ++ [.tup [x, y, t]])) → Q (.ref r) H'
section
variable {P : Program} {w : World} {K : PySem.W.Frag} {mg : Str → Option Value} {base : Heap}
theorem ok_Lmore {f C CB CS CE CG fW fX : Addr} {fd fdW fdX : FuncData} (F : Fun K "_law_more" "_law_more" s_Lmore f fd) (c : SkC K CS) (nis : mg "isinstance" = none) (GW : Mt P w K mg base (L2.CX P w) 8 CS "with_known" fW fdW ["self", "x", "y", "tie"] (spWithKn C CB CS CE))
    (GE : Ex2 P w K mg base "BadSketch" "index" "what" CE fX fdX ["self", "index", "what"]) (XC : ExcC K CE) (mG : mg "GuestError" = some (.ref CG)) (kg : PySem.W.kitOne K (.ref CE) (.ref CG) = some true) : FnOk P w K mg base CX0 9 f fd ["_law_sketch", "_law_x", "_law_y", "_law_tie_here"] (spMore C CB CS) := by
  refine F.ok sc_Lmore (fun vs H Q E h => ?_) (fun cdv A outer s H vs Q E hr h => ?_)
  · obtain ⟨z, ns, L, ls, K0, x, y, t, rfl, _⟩ := h
    rfl
  · obtain ⟨z, ns, L, ls, K0, x, y, t, rfl, hz, gb, kn, l90, k⟩ := h
    obtain ⟨dx, b', l', k', d', a1, a2, a3, a4, a5⟩ := id hz
    refine ⟨_, (pss_one 
  (ps_try_as (i := 4) (Wout := fun _ _ _ _ => False) rfl rfl sc_Lmore.nd rfl rfl ⟨rfl, by decide, Or.inl GE.m⟩ takes0 (fun W pn xe tk _ => (pss_one 
    (by exact (ps_ret (pe_tup (pa_cons pe_str (pa_cons (show PE _ _ (tFld K (tMethS "with_known" (spWithKn C CB CS CE) CS _ (tVar 0) (tCons (tVar 1) (tCons (tVar 2) (tCons (tVar 3) tNil)))) "known") from pe_fld (pmetS (pv 0) c.cl GW.M GW.F hr GW.b (fun σ => passAt tk σ) (pa_cons (pv 1) (pa_cons (pv 2) (pa_cons (pv 3) pa_nil)))) rfl) pa_nil))))))) (fun a oe cls d pn hz hf => (pss_one 
    (ps_ret (pe_tup (pa_cons pe_str (pa_cons (pe_xf GE.xf GE.no1 hz hf (pv 4)) (pa_cons (pe_xf GE.xf GE.no2 hz hf (pv 4)) (pa_cons (pe_callB (id := "isinstance") (r := rIsX K CE a cls d) (call_isX XC hz hf) (by rfl) nis (by decide +kernel) (pa_cons (pv 4) (pa_cons (pe_glob (v := .ref CG) rfl mG rfl) pa_nil))) pa_nil)))))))))), ?_⟩
    refine ⟨_, rfl, z, dx, _, rfl, a1, gf_no _ _ _ _ (by decide +kernel) (by decide +kernel) (by decide +kernel) (by decide +kernel), _, rfl, _, rfl, _, rfl, z, ns, L, ls, K0, x, y, t, rfl, hz, gb, kn, l90, fun sv hsv => ⟨fun j u e d H1 nd S1 e1 => ⟨true, GE.te, fun _ a haa => ?_, fun q => nomatch q⟩, fun ls' R Kn e ikn H1 z1 S1 nz1 sk => ?_⟩⟩
    · rw [skJ_tup hsv] at e
      refine ⟨_, rfl, rfl, rfl, d, _, _, rfl, e1, lk_ix, _, rfl, rfl, rfl, d, _, _, rfl, e1, lk_wh, _, rfl, _, _, true, d, _, rfl, rfl, rfl, e1, .own CG, kg, (by show 4 ≤ sizeLine; decide), fun r hr' => ?_⟩
      refine k _ r (S1.trans (new_same hr')) ?_
      rw [e]
      exact upd_same
    · rw [skJ_tup hsv] at e
      obtain ⟨dy, b2, l2, k2, d2, c1, c2, c3, c4, c5⟩ := id sk
      refine ⟨z1, CS, dy, _, _, rfl, c1, c.cl, c.nK, gf_known _ _ _ _, (by show 2 ≤ sizeLine; decide), fun r hr' => ?_⟩
      have S2 := new_same (o := .tup [.str "is", .ref k2]) hr'
      refine k _ r (S1.trans S2) ?_
      rw [e]
      exact ⟨Kn, k2, ikn, upd_same, c4.keep S2⟩
end
end J

set_option Elab.async false
set_option linter.all false
set_option maxRecDepth 100000
set_option maxHeartbeats 2000000
/-! try with several clauses of the form except X as n -/
namespace L2
open PySem PySem.Spec PyProof.Rows
def wManyAs (K : PySem.W.Frag) (Wout : WX) (D : Ends) : List (Value × Nat × (Addr → Value → Option Addr → TS)) → WX
  | [] => Wout
  | (c, i, ts) :: r => wAs K c i ts (wManyAs K Wout D r) D
inductive HdsAs (X : Cx) : List ExceptHandler → List (Value × Nat × (Addr → Value → Option Addr → TS)) → Prop
  | nil : HdsAs X [] []
  | cons {x n : Str} {i : Nat} {c : Value} {ts : Addr → Value → Option Addr → TS} {b₀ : Stmt} {suite : List Stmt} {np pos' : Pos} {hds : List ExceptHandler} {l : List (Value × Nat × (Addr → Value → Option Addr → TS))} (hi : X.N[i]? = some n) (hln : X.env.kindOf n = some .local) (hc : Names X x c)
      (hsu : ∀ (a : Addr) (oe : Obj) (cls : Value) (d : Option Addr) (pn : List (Addr × Obj)), Zc cls d oe → (∃ vs, oe.data = .fields vs) → PSs (X.suite a ((a, oe) :: pn)) (b₀ :: suite) (ts a cls d)) (r : HdsAs X hds l) :
      HdsAs X (.ExceptHandler (some (.Name x np)) (some n) (b₀ :: suite) pos' :: hds) ((c, i, ts) :: l)
section
variable {X : Cx} {body : List Stmt} {h₀ : ExceptHandler} {hds : List ExceptHandler} {l : List (Value × Nat × (Addr → Value → Option Addr → TS))} {pos : Pos} {tb : WX → TS} {Wout : WX}
theorem ps_try_many_as (hs : X.stack = X.env :: X.outer) (hf : X.env.frame = some X.env.locals) (hN : X.N.Nodup) (tk : Takes X Wout)
    (hb : ∀ (W : WX) (pn : List (Addr × Obj)) (xe : Value → Shared → Prop), Takes (X.tr pn xe) W → PassesOwn (model X.prog X.w) X.A X.env xe → PSs (X.tr pn xe) body (tb W))
    (hh : HdsAs X (h₀ :: hds) l) : PS X (.Try body (h₀ :: hds) [] [] pos) (fun D σ H => tb (wManyAs X.K Wout D l) D σ H) := by
  refine ⟨fun pins s σ H D I h => ?_⟩
  have ok := I.ok
  have hfr : X.A.frames = some (X.env :: X.outer) := by rw [ok.frames, hs]
  refine wpAny_Try_except ?_
  refine wpAny_mono ((hb (wManyAs X.K Wout D l) (X.pn ++ pins) (fun e s₁ => wpAny (model X.prog X.w) X.A (noteFrame e X.env) (fun _ s₂ => wpAny (model X.prog X.w) X.A (setFlight e none) (fun _ s₃ =>
    wpAny (model X.prog X.w) X.A (handleBy e X.env (h₀ :: hds)) (SP X pins D) X.xe s₃) X.xe s₂) X.xe s₁) (fun u s' xx => ?_) PassesOwn.looking).run [] s σ H D (I.toTry _) h) (fun f s1 hsp => ?_) (fun e s1 he => he)
  · obtain ⟨a, B, sI, pins', σ', H', cls, d, rfl, J', nb, up, sky, na, os, ag, w⟩ := xx
    have J : Inv X pins σ' H' sI := J'.ofTry ok
    have sky' : Sky B (X.env :: X.outer) a (Zc cls d) X.env.locals s'.heap := by rw [← hs]; exact sky
    show wpAny (model X.prog X.w) X.A (noteFrame (.ref a) X.env) _ _ _
    refine Sky.land Zc.steady hfr hf sky' fun h3 fl3 up3 => ?_
    have J3 : Inv X pins σ' H' { s' with heap := h3 } := J.landed nb fl3.1 (up.trans up3) os ag
    obtain ⟨oe3, vs3, he3, hz3, hd3⟩ := fl3.there
    have nfr : a ∉ frs (X.env :: X.outer) := fun hm => by
      obtain ⟨_, o', e', hnf⟩ := fl3.2.2.1.mem hm
      rw [he3] at e'
      cases e'
      exact hnf _ hd3
    have nL : a ≠ X.env.locals := fun z => nfr (List.mem_filterMap.mpr ⟨X.env, List.mem_cons_self, by rw [hf, z]⟩)
    have nF : a ∉ X.fs := fun hm => by
      obtain ⟨e, he, q⟩ := List.mem_filterMap.mp hm
      exact nfr (List.mem_filterMap.mpr ⟨e, List.mem_cons_of_mem _ he, q⟩)
    have S3 := J3.suite he3 hd3 na nL nF
    have go : ∀ {hds' : List ExceptHandler} {l' : List (Value × Nat × (Addr → Value → Option Addr → TS))}, HdsAs X hds' l' → wManyAs X.K Wout D l' cls d σ' H' →
        wpAny (model X.prog X.w) X.A (handleBy (.ref a) X.env hds') (SP X pins D) X.xe { s' with heap := h3 } := by
      intro hds' l' hk
      induction hk with
      | nil =>
        intro w
        refine wpAny_handleBy_nil ?_
        obtain ⟨k1, k2, k3, oe, vs, T, oT, ts', he, hz, hd, h1, hr⟩ := id fl3
        unfold PySem.passOn
        refine wpAny_bind (wpAny_field he hd h1 ?_)
        rw [if_neg (show ¬ ((Value.ref T == Value.none) = true) from by simp)]
        have fin : wpAny (model X.prog X.w) X.A (setFlight (.ref a) X.env.frame) (fun _ s4 => wpAny (model X.prog X.w) X.A (throw (.ref a) : Sem Flow) (SP X pins D) X.xe s4) X.xe { s' with heap := h3 } := by
          rw [hf]
          refine HandSPX.setFlight_upZ fl3 fun h4 hh4 up4 => wpAny_throw (tk _ _ ?_)
          exact ⟨a, B, sI, pins, σ', H', cls, d, rfl, J, nb, (up.trans up3).trans up4, .inr (.inr (by rw [hs]; exact hh4)), na, os, ag, w⟩
        first
          | exact wpAny_bind (wpAny_pure (wpAny_bind fin))
          | exact wpAny_bind fin
      | @cons x n i c ts b₀ suite np pos' hds2 l2 hi hln hc hsu r ih =>
        intro w
        have hloc : Loc X.env.scope n := .inl hln
        obtain ⟨b, hb1, hyes, hno⟩ := w
        refine wpAny_handleBy_cons (codeAny_handlers_test ?_) (by intro q; cases q)
        have LT : PySem.W.Looks (model X.prog X.w) h3 (typeOf (.ref a)) cls := fun A Q E s k q => wpAny_typeOf_ref (k _ _ he3) (by rw [hz3.1]; exact q)
        have LM := PySem.W.exm_one (M := model X.prog X.w) (J3.kIn) LT hb1
        have test : ∀ {Q : Value → Shared → Prop} {E : Value → Shared → Prop}, Q c { s' with heap := h3 } → wpAny (model X.prog X.w) (X.A.mark (some (.ref a))) (eval (.Name x np) X.env) Q E { s' with heap := h3 } := fun {Q E} q => by
          obtain ⟨hg, hdbg, hm | ⟨hm, hv, hnn⟩⟩ := hc
          · exact ld_glob (X := X.suite a ((a, oe3) :: (X.pn ++ pins))) S3 hg hm q hdbg
          · exact ld_blt (X := X.suite a ((a, oe3) :: (X.pn ++ pins))) S3 hg hm hv q hnn hdbg
        refine test (LM.here ?_)
        cases b with
        | true =>
          refine codeAny_handlers_suite_as ?_
          refine HandSPX.lands_againZ fl3 fun h4 fl4 up4 => ?_
          have J4 : Inv X pins σ' H' { s' with heap := h4 } := J.landed nb fl4.1 ((up.trans up3).trans up4) os ag
          obtain ⟨oe4, vs4, he4, hz4, hd4⟩ := fl4.there
          have S4 := J4.suite he4 hd4 na nL nF
          refine store_ok (X := X.suite a ((a, oe4) :: (X.pn ++ pins))) (v := .ref a) S4 hN hi hloc rfl (fun s5 S5 => ?_) (.inr hln)
          refine wpAny_mono ((hsu a oe4 cls d (X.pn ++ pins) hz4 ⟨_, hd4⟩).run [] s5 _ H' _ S5 (hyes rfl a na)) (fun f s6 hsp => ?_) (fun _ _ z => False.elim z)
          have end_ : ∀ {σ6 : St} {H6 : Hp} {Q : Shared → Prop}, Inv (X.suite a ((a, oe4) :: (X.pn ++ pins))) [] σ6 H6 s6 → (∀ s7, Inv X pins (σ6.set i none) H6 s7 → Q s7) →
              wpAny (model X.prog X.w) X.A (do bindName X.env n .none; unbindBehindTheSuite X.env n pos') (fun _ s7 => Q s7) X.xe s6 := fun {σ6 H6 Q} S6 hq => gone_ok (S6.unsuite ok) hN hi hln hq
          cases f with
          | next =>
            obtain ⟨σ6, H6, S6, q6⟩ := hsp
            exact end_ S6 fun s7 J7 => ⟨_, _, J7, q6⟩
          | brk =>
            obtain ⟨σ6, H6, S6, q6⟩ := hsp
            exact end_ S6 fun s7 J7 => ⟨_, _, J7, q6⟩
          | cont =>
            obtain ⟨σ6, H6, S6, q6⟩ := hsp
            exact end_ S6 fun s7 J7 => ⟨_, _, J7, q6⟩
          | ret u =>
            obtain ⟨v6, σ6, H6, S6, r6, q6⟩ := hsp
            exact end_ S6 fun s7 J7 => ⟨_, _, _, J7, r6, q6⟩
        | false =>
          show wpAny _ X.A (handleBy (.ref a) X.env hds2) _ _ _
          exact ih (hno rfl)
    exact go hh w
  · cases f with
    | next =>
      obtain ⟨σ', H', J', q⟩ := hsp
      exact wpAny_execs_nil ⟨σ', H', J'.ofTry ok, q⟩
    | brk =>
      obtain ⟨σ', H', J', q⟩ := hsp
      exact ⟨σ', H', J'.ofTry ok, q⟩
    | cont =>
      obtain ⟨σ', H', J', q⟩ := hsp
      exact ⟨σ', H', J'.ofTry ok, q⟩
    | ret u =>
      obtain ⟨v, σ', H', J', r, q⟩ := hsp
      exact ⟨v, σ', H', J'.ofTry ok, r, q⟩
end
end L2

set_option Elab.async false
set_option linter.all false
set_option maxRecDepth 100000
set_option maxHeartbeats 8000000
namespace J
open PySem PySem.Spec PyProof.Rows L2
abbrev s_Ltie : Stmt := top 57
theorem sc_Ltie : FnScope ["_law_sketch", "_law_x", "_law_y", "e"] ["_law_sketch", "_law_x", "_law_y"] (defScope s_Ltie) := ⟨rfl, rfl, rfl, by decide +kernel, rfl, by decide +kernel, by decide +kernel⟩
/-- what is told of the tie from x to y -/
def tieSay (ns ls : List Int) (Kn : List (List Int)) (x y : V) : Str × V :=
  if inSk ls x = true then
    if inSk ls y = true then
      if x = y then ("alike", x) else match x, y with
        | .int a, .int b => ("is", (bothF ns Kn a b).getD .non)
        | _, _ => ("is", .non)
    else ("none", y)
  else ("none", x)
def spLTie (C CB CS : Addr) : Sp := fun vs H Q _ => ∃ (z : Addr) (ns : List Int) (L : List (List Int)) (ls : List Int) (K0 : List (List Int)) (x y : V), vs = [.ref z, x, y] ∧ SkAt C CB CS H z ns L ls K0 ∧ Known H [x, y] ∧
  ∀ (H' : Hp) (r : Addr), Same H H' → H' r = some (.tup [.str (tieSay ns ls K0 x y).1, (tieSay ns ls K0 x y).2]) → Q (.ref r) H'
section
variable {P : Program} {w : World} {K : PySem.W.Frag} {mg : Str → Option Value} {base : Heap}
theorem ok_Ltie {f C CB CS CG CA fT fG fA : Addr} {fd fdT fdG fdA : FuncData} (F : Fun K "_law_tie" "_law_tie" s_Ltie f fd) (c : SkC K CS) (GT : Mt P w K mg base (L2.CX P w) 3 CS "tie_of" fT fdT ["self", "x", "y"] (spTie C CB CS CG CA))
    (GN : Ex P w K mg base "NoGuest" "label" CG fG fdG ["self", "label"]) (GA : Ex P w K mg base "Alike" "label" CA fA fdA ["self", "label"]) (xn : PySem.W.exmOne K (.ref CA) (.ref CG) = some false) : FnOk P w K mg base CX0 4 f fd ["_law_sketch", "_law_x", "_law_y"] (spLTie C CB CS) := by
  refine F.ok sc_Ltie (fun vs H Q E h => ?_) (fun cdv A outer s H vs Q E hr h => ?_)
  · obtain ⟨z, ns, L, ls, K0, x, y, rfl, _⟩ := h
    rfl
  · obtain ⟨z, ns, L, ls, K0, x, y, rfl, hz, kn, k⟩ := h
    obtain ⟨dx, b', l', k', d', a1, a2, a3, a4, a5⟩ := id hz
    refine ⟨_, (pss_one 
  (ps_try_many_as (Wout := fun _ _ _ _ => False) rfl rfl sc_Ltie.nd takes0 (fun W pn xe tk _ => (pss_one 
    (by exact (ps_ret (pe_tup (pa_cons pe_str (pa_cons (pmetS (pv 0) c.cl GT.M GT.F hr GT.b (fun σ => passAt tk σ) (pa_cons (pv 1) (pa_cons (pv 2) pa_nil))) pa_nil))))))) 
    (.cons (i := 3) rfl rfl ⟨rfl, by decide, Or.inl GN.m⟩ (fun a oe cls d pn hz hf => (pss_one (ps_ret (pe_tup (pa_cons pe_str (pa_cons (pe_xf GN.xf GN.no hz hf (pv 3)) pa_nil))))))
    (.cons (i := 3) rfl rfl ⟨rfl, by decide, Or.inl GA.m⟩ (fun a oe cls d pn hz hf => (pss_one (ps_ret (pe_tup (pa_cons pe_str (pa_cons (pe_xf GA.xf GA.no hz hf (pv 3)) pa_nil)))))) .nil)))), ?_⟩
    refine ⟨_, rfl, z, dx, _, rfl, a1, gf_no _ _ _ _ (by decide +kernel) (by decide +kernel) (by decide +kernel) (by decide +kernel), _, rfl, _, rfl, z, ns, L, ls, K0, x, y, rfl, hz, kn, ?_, ?_, ?_, ?_⟩
    · intro e d H1 nd S1 e1
      refine ⟨true, GN.te, fun _ a haa => ?_, fun q => nomatch q⟩
      refine ⟨_, rfl, rfl, rfl, d, _, _, rfl, e1, (by first | rfl | simp [List.lookup]), (by show 2 ≤ sizeLine; decide), fun r hr' => ?_⟩
      refine k _ r (S1.trans (new_same hr')) ?_
      unfold tieSay
      rw [e, if_neg Bool.false_ne_true]
      exact upd_same
    · intro e0 e d H1 nd S1 e1
      refine ⟨true, GN.te, fun _ a haa => ?_, fun q => nomatch q⟩
      refine ⟨_, rfl, rfl, rfl, d, _, _, rfl, e1, (by first | rfl | simp [List.lookup]), (by show 2 ≤ sizeLine; decide), fun r hr' => ?_⟩
      refine k _ r (S1.trans (new_same hr')) ?_
      unfold tieSay
      rw [e0, if_pos rfl, e, if_neg Bool.false_ne_true]
      exact upd_same
    · intro e0 e1' exy d H1 nd S1 e1
      refine ⟨false, xn, (fun q => by cases q), fun _ => ⟨true, GA.te, fun _ a haa => ?_, fun q => nomatch q⟩⟩
      refine ⟨_, rfl, rfl, rfl, d, _, _, rfl, e1, (by first | rfl | simp [List.lookup]), (by show 2 ≤ sizeLine; decide), fun r hr' => ?_⟩
      refine k _ r (S1.trans (new_same hr')) ?_
      unfold tieSay
      rw [e0, if_pos rfl, e1', if_pos rfl, if_pos exy]
      exact upd_same
    · rintro a b rfl rfl e0 e1' ne H1 S1
      refine ⟨(by show 2 ≤ sizeLine; decide), fun r hr' => ?_⟩
      refine k _ r (S1.trans (new_same hr')) ?_
      unfold tieSay
      rw [e0, if_pos rfl, e1', if_pos rfl, if_neg (fun e => ne (V.int.inj e))]
      exact upd_same
end
end J

set_option Elab.async false
set_option linter.all false
set_option maxRecDepth 100000
set_option maxHeartbeats 4000000
/-! max, sum and sorted of a tuple of ints -/
namespace TQ
open PySem PyProof.Rows PySem.W SD
section
variable {prog : Program} {w : World} {A : Around} {E : Value → Shared → Prop} {s : Shared} {l : Addr} {xs : Array (Int × Tok)}
theorem iter_intTup {Q : Value → Shared → Prop} (hl : s.heap.IsTuple l (intItems xs))
    (h : ∀ s₂ : Shared, s₂ = { s with heap := s.heap.push { cls := .type "tuple_iterator", data := .fields #[.ref l, .int 0 0] } } →
      (s₂.heap.IsTupleIter s.heap.objs.size l 0 ∧ s₂.heap.IsTuple l (intItems xs)) → (∀ b ∈ [s.heap.objs.size, l], b < s₂.heap.objs.size) → l ≠ s.heap.objs.size → Q (.ref s.heap.objs.size) s₂) :
    wpAny (model prog w) A (pyIter (.ref l)) Q E s := by
  have hlt : l < s.heap.objs.size := by obtain ⟨_, e, _⟩ := hl; exact Heap.lt_size e
  refine wpAny_pyIter_tuple hl (h _ rfl ⟨⟨_, Heap.get?_push_size _ rfl, rfl, rfl⟩, hl.push _⟩ (fun b hb => ?_) (Nat.ne_of_lt hlt))
  show b < (s.heap.push _).objs.size
  rw [Heap.size_push]
  rcases List.mem_cons.mp hb with rfl | hb
  · exact Nat.lt_succ_self _
  · rcases List.mem_cons.mp hb with rfl | hb
    · exact Nat.lt_succ_of_lt hlt
    · cases hb
theorem old_kept {h' : Heap} (hk : ∀ b o, b ∉ [s.heap.objs.size] → (s.heap.push { cls := .type "tuple_iterator", data := .fields #[.ref l, .int 0 0] }).get? b = some o → h'.get? b = some o) :
    ∀ b o, s.heap.get? b = some o → h'.get? b = some o := fun b o e => by
  refine hk b o (fun hm => ?_) (Heap.get?_push_of_some _ e)
  rcases List.mem_cons.mp hm with e1 | hm
  · exact absurd (e1 ▸ Heap.lt_size e) (Nat.lt_irrefl _)
  · cases hm
theorem sum_intTup {Q : Value → Shared → Prop} (hh : A.handled = none) (hl : s.heap.IsTuple l (intItems xs))
    (h : ∀ h' tk t', (∀ b o, s.heap.get? b = some o → h'.get? b = some o) → Q (.int (preSum (numAt xs) xs.size) t') { s with heap := h', toks := tk }) :
    wpAny (model prog w) A (call (.builtin "sum") [.ref l]) Q E s := by
  refine call_sum_walkG (iter_intTup hl fun s₂ e st hfp hlI => ?_)
  subst e
  refine ⟨_, _, _, _, _, _, numAt xs, rfl, Walks.tuple (A := A.in1) hh _ l hlI (intItems xs), st, hfp, (fun _ _ => intItems_at), fun h' tk t' hk => ?_⟩
  have := h h' tk t' (old_kept hk)
  simpa [intItems] using this
theorem max_intTup {Q : Value → Shared → Prop} (hh : A.handled = none) (hl : s.heap.IsTuple l (intItems xs)) (hne : 0 < xs.size)
    (h : ∀ v h' tk, (intItems xs)[argBest (fun i j => decide (numAt xs i > numAt xs j)) (xs.size - 1)]? = some v → (∀ b o, s.heap.get? b = some o → h'.get? b = some o) → Q v { s with heap := h', toks := tk }) :
    wpAny (model prog w) A (call (.builtin "max") [.ref l]) Q E s := by
  refine call_max_walk (iter_intTup hl fun s₂ e st hfp hlI => ?_)
  subst e
  refine ⟨_, _, _, _, _, _, _, rfl, Walks.tuple (A := A.in1) hh _ l hlI (intItems xs), st, hfp, by simpa [intItems] using hne, CmpOf.ints_gt (numAt xs) (fun _ _ => intItems_at), fun v h' tk hP hk => ?_⟩
  exact h v h' tk (by simpa [intItems] using hP) (old_kept hk)
end
section
variable {prog : Program} {w : World} {A : Around} {E : Value → Shared → Prop} {s : Shared} {l : Addr}
theorem sorted_intTup {vs : List Value} {ns : List Int} {Q : Value → Shared → Prop} (hl : IsTup s.heap l vs.toArray) (hI : IntsAre vs ns) (hL : vs.length ≤ sizeLine)
    (hQ : ∀ (h' : Heap) (p : Addr) (out : Array Value) (c : Nat) (ns' : List Int), (∀ b o, s.heap.get? b = some o → h'.get? b = some o) → s.heap.get? p = none → h'.get? p = some (seqObj "list" out c) → IntsAre out.toList ns' → ns'.Perm ns → ns'.Pairwise (· ≤ ·) → Q (.ref p) { s with heap := h' }) :
    wpAny (model prog w) A (call (.builtin "sorted") [.ref l]) Q E s := by
  obtain ⟨o, ho, hc, n, hd⟩ := hl
  refine Calls.call_function_entry kind_sorted plain_sorted entry_sorted (args_sorted1 _) ?_
  unfold Builtin.«sorted»
  refine wpAny_bind (m := checkCount "sorted" 1 1 _) (wpAny_pure ?_)
  refine wpAny_bind (wpAny_collect_seq (A := A.in1) l (T := "tuple") (items := vs.toArray) (.inr rfl) ho hc hd (fun h' hk => ?_) (by rw [List.size_toArray]; exact hL))
  refine wpAny_bind (wpAny_newList ?_ (by simpa using hL))
  have hoL : (h'.push (seqObj "list" vs.toArray 0)).get? h'.objs.size = some (seqObj "list" vs.toArray 0) := Heap.get?_push_size _ rfl
  have lt : s.heap.get? h'.objs.size = none := by
    cases e : s.heap.get? h'.objs.size with
    | none => rfl
    | some u => exact absurd (Heap.lt_size (hk _ _ e)) (Nat.lt_irrefl _)
  refine wpAny_bind (wpAny_holding (wpAny_call_entry slot_list_sort ⟨_, hoL, rfl⟩ entry_list_sort
    (list_sort_treeAny (s := { s with heap := h'.push (seqObj "list" vs.toArray 0) }) hoL hI hL fun out ns' h1 h2 h3 => ⟨_, rfl, ?_⟩) (args_list_sort _)))
  obtain ⟨c, hcc⟩ := sortedHeap_at (vs := vs) (out := out) hoL
  refine wpAny_pure ⟨_, rfl, hQ _ h'.objs.size out c ns' (fun b u e => ?_) lt hcc h1 h2 h3⟩
  have q := hk b u e
  have hlt2 := Heap.lt_size q
  rw [sortedHeap_old (Nat.ne_of_lt hlt2) (by rw [size_push']; exact Nat.lt_succ_of_lt hlt2)]
  exact Heap.get?_push_of_some _ q
end
end TQ
namespace L2
open PySem PySem.Spec PyProof.Rows
def rSumT (K : PySem.W.Frag) : List V → Hp → VK → Prop := fun vs H Q => ∃ (a : Addr) (ns : List Int), vs = [V.ref a] ∧ SqT K H a (ns.map V.int) ∧ Q (.int ns.sum) H
def rMaxT (K : PySem.W.Frag) : List V → Hp → VK → Prop := fun vs H Q => ∃ (a : Addr) (ns : List Int), vs = [V.ref a] ∧ SqT K H a (ns.map V.int) ∧ 0 < ns.length ∧ ∀ m, m ∈ ns → (∀ y, y ∈ ns → y ≤ m) → Q (.int m) H
def rSortTI (K : PySem.W.Frag) : List V → Hp → VK → Prop := fun vs H Q => ∃ (a : Addr) (ns : List Int), vs = [V.ref a] ∧ SqT K H a (ns.map V.int) ∧ ∀ (ns' : List Int) (p : Addr), ns'.Perm ns → ns'.Pairwise (· ≤ ·) → H p = none → Q (.ref p) (upd H p (.lst (ns'.map V.int)))
section
variable {X : Cx}
theorem cr_sumT (hc : X.calm = true) : CallR X (.builtin "sum") (rSumT X.K) := by
  intro pins s σ H vs us Q I r h
  obtain ⟨a, ns, rfl, hs, q⟩ := h
  obtain ⟨its, rv, hl, _⟩ := I.tuple hs
  rw [Vals.ref1 r]
  have hi := rv.ints
  obtain ⟨xs, e⟩ := hi.allInts.items
  have hn : numsOf (intItems xs).toList = ns := by rw [← e]; exact hi.numsOf
  rw [nums_intItems] at hn
  rw [e] at hl
  refine TQ.sum_intTup (I.ok.hd hc) hl fun h' tk t' hk => ?_
  rw [preSum_eq, List.take_of_length_le (by simp), hn]
  exact ⟨.int _, H, I.kept hk, ⟨_, rfl⟩, q⟩
theorem cr_maxT (hc : X.calm = true) : CallR X (.builtin "max") (rMaxT X.K) := by
  intro pins s σ H vs us Q I r h
  obtain ⟨a, ns, rfl, hs, hne, q⟩ := h
  obtain ⟨its, rv, hl, _⟩ := I.tuple hs
  rw [Vals.ref1 r]
  have hi := rv.ints
  obtain ⟨xs, e⟩ := hi.allInts.items
  have hn : numsOf (intItems xs).toList = ns := by rw [← e]; exact hi.numsOf
  rw [nums_intItems] at hn
  subst hn
  rw [e] at hl
  have hsz : 0 < xs.size := by simpa using hne
  refine TQ.max_intTup (I.ok.hd hc) hl hsz fun v h' tk hv hk => ?_
  obtain ⟨t, rfl⟩ := intItems_at hv
  obtain ⟨h1, h2⟩ := argBest_gt (numAt xs) (xs.size - 1)
  refine ⟨.int _, H, I.kept hk, ⟨_, rfl⟩, q _ ?_ fun a ha => ?_⟩
  · rw [numAt_eq]; exact PySem.getD_mem (by rw [List.length_map, Array.length_toList]; omega)
  · obtain ⟨j, hj, rfl⟩ := mem_getD ha
    rw [List.length_map, Array.length_toList] at hj
    rw [← numAt_eq]; exact h2 j (by omega)
theorem cr_sortedTI : CallR X (.builtin "sorted") (rSortTI X.K) := by
  intro pins s σ H vs us Q I r h
  obtain ⟨a, ns, rfl, hs, q⟩ := h
  obtain ⟨its, rv, hl, hz⟩ := I.tuple hs
  rw [Vals.ref1 r]
  have hi := rv.ints
  have il : its.length ≤ sizeLine := by rw [← rv.length]; exact hz
  refine TQ.sorted_intTup hl hi il fun h' p out c ns' hk hp hg h1 h2 h3 => ?_
  have hlen : (ns'.map V.int).length ≤ sizeLine := by rw [List.length_map, h2.length_eq, ← List.length_map (f := V.int) (as := ns)]; exact hz
  exact ⟨.ref _, upd H p (.lst (ns'.map V.int)), I.laidN (t' := s.toks) hk hp (I.hok.gone hp) ⟨hlen, out.toList, c, vals_of_ints h1, by simpa using hg⟩, rfl, q ns' _ h2 h3 (I.hok.gone hp)⟩
end
end L2

set_option Elab.async false
set_option linter.all false
set_option maxRecDepth 100000
set_option maxHeartbeats 4000000
namespace J
open PySem PySem.Spec PyProof.Rows L2
/-! ### labels that are drawn -/
def Asc (is : List Int) : Prop := ∀ (i : Nat) (a b : Int), is[i]? = some a → is[i + 1]? = some b → a < b
abbrev s_Llabels : Stmt := top 49
theorem sc_Llabels : FnScope ["_law_hand_here", "_law_many", "_law_base", "_law_step", "_law_k"] ["_law_hand_here", "_law_many"] (defScope s_Llabels) := ⟨rfl, rfl, rfl, by decide +kernel, rfl, by decide +kernel, by decide +kernel⟩
def spLabels : Sp := fun vs H Q _ => ∃ (h q : Addr) (m : Nat), vs = [.ref h, .int (m : Nat)] ∧ m ≤ 1000 ∧ Hand H h q ∧ ∀ (H' : Hp) (l : Addr) (ns : List Int), ns.length = m → Asc ns → (∀ n ∈ ns, 0 ≤ n ∧ n < 1000000000) → But h H H' → Hand H' h q → H l = none → H' l = some (.lst (ns.map V.int)) → Q (.ref l) H'
/-- labels by a first one and a step -/
def LabOk (m : Nat) (c d : Int) : Prop := 0 ≤ c ∧ 1 ≤ d ∧ ∀ k : Nat, k < m → c + (k : Int) * d < 1000000000
def labsOf (m : Nat) (c d : Int) : List Int := (List.range m).map fun k => c + (0 + ((k : Nat) : Int)) * d
theorem labs_at {m : Nat} {c d : Int} {i : Nat} {a : Int} (e : (labsOf m c d)[i]? = some a) : i < m ∧ a = c + (i : Int) * d := by
  have hi := (List.getElem?_eq_some_iff.mp e).1
  unfold labsOf at hi e
  rw [List.length_map, List.length_range] at hi
  rw [List.getElem?_map, List.getElem?_range hi] at e
  have q : c + (0 + (i : Int)) * d = a := Option.some.inj e
  rw [Int.zero_add] at q
  exact ⟨hi, q.symm⟩
theorem labs_asc {m : Nat} {c d : Int} (h : LabOk m c d) : Asc (labsOf m c d) := by
  intro i a b e1 e2
  obtain ⟨_, rfl⟩ := labs_at e1
  obtain ⟨_, rfl⟩ := labs_at e2
  have h1 := h.2.1
  have : ((i + 1 : Nat) : Int) * d = (i : Int) * d + d := by
    rw [show ((i + 1 : Nat) : Int) = (i : Int) + 1 by omega, Int.add_mul, Int.one_mul]
  omega
theorem labs_in {m : Nat} {c d : Int} (h : LabOk m c d) : ∀ n ∈ labsOf m c d, 0 ≤ n ∧ n < 1000000000 := by
  intro n hn
  obtain ⟨i, e⟩ := List.getElem?_of_mem hn
  obtain ⟨hi, rfl⟩ := labs_at e
  have h0 := h.1
  have h1 := h.2.1
  have h2 := h.2.2 i hi
  have h3 : 0 ≤ (i : Int) * d := Int.mul_nonneg (by omega) (by omega)
  omega
theorem labs_small {m : Nat} {c d : Int} (hm : m ≤ 1000) (h0 : 0 ≤ c) (h3 : c < 3) (hd : d = 1) : LabOk m c d := by
  subst hd
  refine ⟨h0, by omega, fun k hk => ?_⟩
  rw [Int.mul_one]
  omega
theorem labs_wide {m : Nat} {c e u : Int} (hu : (if ((m : Nat) : Int) > 1 then ((m : Nat) : Int) else 1) = u) (u0 : 0 < u) (c0 : 0 ≤ c) (c1 : c < 100000000) (e0 : 0 ≤ e) (e1 : e < 9 * 100000000 / u) : LabOk m c (1 + e) := by
  refine ⟨c0, by omega, fun k hk => ?_⟩
  have hm : (m : Int) ≤ u := by
    rw [← hu]
    split <;> omega
  have h1 : (1 + e) * u ≤ 9 * 100000000 := Int.mul_le_of_le_ediv u0 (by omega)
  have h2 : (k : Int) * (1 + e) ≤ u * (1 + e) := Int.mul_le_mul_of_nonneg_right (by omega) (by omega)
  rw [Int.mul_comm u] at h2
  omega
section
variable {P : Program} {w : World} {K : PySem.W.Frag} {mg : Str → Option Value} {base : Heap}
theorem ok_Llabels {f fD : Addr} {fd fdD : FuncData} (F : Fun K "_law_labels" "_law_labels" s_Llabels f fd) (nr : mg "range" = none) (nm : mg "max" = none) (GD : Cal P w K mg base CX0 2 "_law_draw" fD fdD ["_law_hand_here", "_law_many"] spDraw) : FnOk P w K mg base CX0 3 f fd ["_law_hand_here", "_law_many"] spLabels := by
  refine F.ok sc_Llabels (fun vs H Q E h => ?_) (fun cdv A outer s H vs Q E hr h => ?_)
  · obtain ⟨h, q, m, rfl, _⟩ := h
    rfl
  · obtain ⟨h, q, m, rfl, hm, hh, k⟩ := h
    refine ⟨_, (pss_cons 
  (ps_set (i := 2) sc_Llabels.nd rfl (Or.inr rfl) (pcal GD hr pass0 (pa_cons (pv 0) (pa_cons pe_int pa_nil)))) (pss_cons 
  (ps_set (i := 3) sc_Llabels.nd rfl (Or.inr rfl) pe_int) (C8.pss_cut 
  (ps_if (pt_cmpR op_eq (pcal GD hr pass0 (pa_cons (pv 0) (pa_cons pe_int pa_nil))) pe_int (nomark _)) (pss_cons 
    (ps_set (i := 2) sc_Llabels.nd rfl (Or.inr rfl) (pcal GD hr pass0 (pa_cons (pv 0) (pa_cons (pe_op op_pow pe_int pe_int) pa_nil)))) (pss_one 
    (ps_set (i := 3) sc_Llabels.nd rfl (Or.inr rfl) (pe_op op_add pe_int (pcal GD hr pass0 (pa_cons (pv 0) (pa_cons (pe_op op_fdivW (pe_op op_mul pe_int (pe_op op_pow pe_int pe_int)) (pe_callB (call_max2 rfl) (by rfl) nm (by decide +kernel) (pa_cons pe_int (pa_cons (pv 1) pa_nil)))) pa_nil))))))) pss_nil) (pss_one 
  (ps_ret (pe_lc (own := [("_law_k", 4)]) (g := gName 4) (by rfl) sc_Llabels.nd (pi_range1 (by rfl) nr (pa_cons (pv 1) pa_nil)) (blkOk_by (own := [("_law_k", 4)]) (N := ["_law_hand_here", "_law_many", "_law_base", "_law_step", "_law_k"]) (sc := defScope s_Llabels) (by decide +kernel)) (fun _ _ _ _ _ => pg_name (i := 4) sc_Llabels.nd rfl (Or.inl rfl)) (fun _ _ _ _ _ => pts_nil) (fun _ _ _ _ _ => (pe_op op_add (pv 2) (pe_op op_mul (pv 4) (pv 3)))))))))), ?_⟩
    refine ⟨_, rfl, h, q, 3, rfl, by decide, by decide, hh, fun b H1 b0 b1 B1 h1 => ⟨fun σ' H' => ∃ c d : Int, σ' = [some (.ref h), some (.int (m : Nat)), some (.int c), some (.int d), none] ∧ LabOk m c d ∧ But h H H' ∧ Hand H' h q, ?_, ?_⟩⟩
    · refine ⟨_, rfl, h, q, 2, rfl, by decide, by decide, h1, fun z H2 z0 z1 B2 h2 => ⟨rfl, _, rfl, ?_⟩⟩
      refine ifD (fun c => ?_) (fun c => ⟨_, _, rfl, labs_small hm b0 b1 rfl, B1.trans B2, h2⟩)
      refine ⟨_, rfl, _, _, rfl, rfl, ⟨by decide, by decide, by decide⟩, h, q, _, rfl, by decide +kernel, by decide +kernel, h2, fun c2 H3 c0 c1 B3 h3 => ?_⟩
      have e9 : (10 : Int) ^ (8 : Int).toNat = 100000000 := by decide +kernel
      have mx : ∃ u : Int, (if ((m : Nat) : Int) > 1 then ((m : Nat) : Int) else 1) = u ∧ 0 < u ∧ u ≤ 1000 := by
        refine ⟨_, rfl, ?_⟩
        split <;> omega
      obtain ⟨u, eu, u0, u1⟩ := mx
      refine ⟨_, rfl, _, _, rfl, rfl, ⟨by decide, by decide, by decide⟩, _, _, rfl, rfl, .inl ⟨by decide, by decide⟩, _, rfl, _, _, rfl, ?_⟩
      rw [eu, e9]
      refine ⟨_, _, rfl, rfl, wide_div (b := 62) u0 (by omega) (by decide) (by decide), h, q, _, rfl, ?_, ?_, h3, fun c3 H4 y0 y1 B4 h4 => ⟨_, _, rfl, rfl, _, _, rfl, labs_wide eu u0 c0 (by rw [e9] at c1; exact c1) y0 y1, ((B1.trans B2).trans B3).trans B4, h4⟩⟩
      · have := Int.le_ediv_of_mul_le (a := 1) (b := 9 * 100000000) u0 (by omega)
        show (0 : Int) < 9 * 100000000 / u
        omega
      · have := Int.ediv_le_self (a := 9 * 100000000) u (by decide)
        show (9 * 100000000 / u : Int) < 2 ^ 62
        omega
    · rintro σ' H' ⟨c, d, rfl, LO, B, hh'⟩
      refine ⟨_, rfl, (m : Nat), rfl, by omega, by omega, fun D hD => ?_⟩
      have nD := (hh'.h_ne hD).1
      refine lc_range (lo := 0) (n := m) (fun i H5 => H5 D = some (.lst ((labsOf i c d).map V.int)) ∧ Same H' H5 ∧ H' D = none) ⟨upd_same, new_same hD, hD⟩ ?_ ?_
      · rintro i H5 hi ⟨eD, S5, D0⟩
        refine ⟨rfl, yesT ?_⟩
        refine ⟨_, rfl, _, rfl, _, rfl, _, _, rfl, rfl, .inl ⟨by omega, by omega⟩, _, _, rfl, rfl, _, eD, ?_, by rw [upd_same]; unfold labsOf; rw [List.range_succ, List.map_append, List.map_append]; rfl, fun b o e => ?_, D0⟩
        · rw [List.length_map]
          unfold labsOf
          rw [List.length_map, List.length_range]
          exact small1000 (by omega)
        · rw [upd_ne (ne_of_none e D0)]
          exact S5 _ _ e
      · rintro H5 ⟨eD, S5, D0⟩
        exact k H5 D (labsOf m c d) (by unfold labsOf; rw [List.length_map, List.length_range]) (labs_asc LO) (labs_in LO) (B.trans (But.same S5)) (hh'.keep S5) (B.free nD.symm D0) eD
end
end J

set_option Elab.async false
set_option linter.all false
set_option maxRecDepth 100000
set_option maxHeartbeats 8000000
namespace J
open PySem PySem.Spec PyProof.Rows L2
def LinesAt (H : Hp) (l : Addr) (ps : List Addr) (tss : List (List Int)) : Prop := H l = some (.lst (ps.map V.ref)) ∧ ps.length = tss.length ∧ ∀ (j : Nat) (a : Addr) (ts : List Int), ps[j]? = some a → tss[j]? = some ts → a ≠ l ∧ H a = some (.lst (ts.map V.int))
theorem LinesAt.keep {H H' : Hp} {l : Addr} {ps : List Addr} {tss : List (List Int)} (h : LinesAt H l ps tss) (S : Same H H') : LinesAt H' l ps tss :=
  ⟨S _ _ h.1, h.2.1, fun j a ts e1 e2 => ⟨(h.2.2 j a ts e1 e2).1, S _ _ (h.2.2 j a ts e1 e2).2⟩⟩
def shL (tss : List (List Int)) : List Sh := tss.map fun ts => .lst (ts.map V.int)
theorem shL_all {H : Hp} : ∀ {ps : List Addr} {tss : List (List Int)}, ps.length = tss.length → (∀ (j : Nat) (a : Addr) (ts : List Int), ps[j]? = some a → tss[j]? = some ts → H a = some (.lst (ts.map V.int))) → ShAll H (ps.map V.ref) (shL tss)
  | [], [], _, _ => .nil
  | [], _ :: _, h, _ => by cases h
  | _ :: _, [], h, _ => by cases h
  | p :: ps, t :: ts, h, f => .cons ⟨⟨p, rfl, f 0 p t rfl rfl⟩, ints_known t⟩ (shL_all (Nat.succ.inj h) fun j a b e1 e2 => f (j + 1) a b (by simpa using e1) (by simpa using e2))
/-- a list of lists as data -/
def linesD (tss : List (List Int)) : List PyData := tss.map fun ts => .list (ts.map PyData.int)
theorem eqv_linesD : ∀ tss uss : List (List Int), PyData.eqvAll (linesD tss) (linesD uss) = decide (tss = uss)
  | [], [] => by simp [linesD, PyData.eqvAll]
  | [], u :: us => by simp [linesD, PyData.eqvAll]
  | t :: ts, [] => by simp [linesD, PyData.eqvAll]
  | t :: ts, u :: us => by
    have ih := eqv_linesD ts us
    have h1 := eqv_li t u
    show (PyData.eqv (.list (t.map PyData.int)) (.list (u.map PyData.int)) && PyData.eqvAll (linesD ts) (linesD us)) = _
    rw [h1, ih]
    by_cases h : t = u
    · by_cases h2 : ts = us
      · simp [h, h2]
      · simp [h, h2]
    · simp [h]
theorem lay_linesD : ∀ tss : List (List Int), PyData.canLayAll0 (linesD tss) = true ∧ PyData.depthAll (linesD tss) ≤ 2
  | [] => by simp [linesD, PyData.canLayAll0, PyData.depthAll]
  | t :: ts => by
    obtain ⟨a, b⟩ := lay_linesD ts
    have h1 := ints_lay t
    have h2 := ints_depth t
    refine ⟨?_, ?_⟩
    · show (PyData.canLay0 (.list (t.map PyData.int)) && PyData.canLayAll0 (linesD ts)) = true
      rw [a, Bool.and_true]
      simp only [PyData.canLay0]
      exact h1
    · show max (PyData.depth (.list (t.map PyData.int))) (PyData.depthAll (linesD ts)) ≤ 2
      simp only [PyData.depth]
      omega
theorem shaped_linesD (tss : List (List Int)) : SeqAt.shaped (.list (linesD tss)) = true := by
  obtain ⟨a, b⟩ := lay_linesD tss
  show (PyData.canLay0 (.list (linesD tss)) && decide (PyData.depth (.list (linesD tss)) ≤ 64)) = true
  rw [Bool.and_eq_true]
  refine ⟨by simp only [PyData.canLay0]; exact a, decide_eq_true ?_⟩
  simp only [PyData.depth]
  omega
theorem eqv_lines (tss uss : List (List Int)) : PyData.eqv (.list (linesD tss)) (.list (linesD uss)) = decide (tss = uss) := by
  rw [show PyData.eqv (.list (linesD tss)) (.list (linesD uss)) = PyData.eqvAll (linesD tss) (linesD uss) by simp only [PyData.eqv], eqv_linesD]
theorem dp_linesD {K : PySem.W.Frag} {H : Hp} : ∀ {ps : List Addr} {tss : List (List Int)}, ps.length = tss.length → (∀ (j : Nat) (a : Addr) (ts : List Int), ps[j]? = some a → tss[j]? = some ts → H a = some (.lst (ts.map V.int))) → DpAll K H (ps.map V.ref) (linesD tss)
  | [], [], _, _ => .nil
  | [], _ :: _, h, _ => by cases h
  | _ :: _, [], h, _ => by cases h
  | p :: ps, t :: ts, h, f => .cons (.lst (SqL.of (f 0 p t rfl rfl)) (dp_ints t)) (dp_linesD (Nat.succ.inj h) fun j a b e1 e2 => f (j + 1) a b (by simpa using e1) (by simpa using e2))
theorem LinesAt.dp {K : PySem.W.Frag} {H : Hp} {l : Addr} {ps : List Addr} {tss : List (List Int)} (L : LinesAt H l ps tss) : Dp K H (.ref l) (.list (linesD tss)) := .lst (SqL.of L.1) (dp_linesD L.2.1 fun j a ts e1 e2 => (L.2.2 j a ts e1 e2).2)
theorem LinesAt.sh {H : Hp} {l : Addr} {ps : List Addr} {tss : List (List Int)} (L : LinesAt H l ps tss) : ShAll H (ps.map V.ref) (shL tss) := shL_all L.2.1 fun j a ts e1 e2 => (L.2.2 j a ts e1 e2).2
/-! ### lists of lists -/
def RowT (D : Addr) (H : Hp) (a : Addr) (ts : List Int) : Prop := a ≠ D ∧ H a = some (.lst (ts.map V.int))
def RwsAt (H : Hp) (z : Addr) (L : List (List Int)) : Prop := ∃ ps : List Addr, LinesAt H z ps L
theorem RwsAt.keep {H H' : Hp} {z : Addr} {L : List (List Int)} (h : RwsAt H z L) (S : Same H H') : RwsAt H' z L := by
  obtain ⟨ps, q⟩ := h
  exact ⟨ps, q.keep S⟩
theorem RwsAt.at_ {H : Hp} {z : Addr} {L : List (List Int)} (h : RwsAt H z L) : ∃ ps : List Addr, H z = some (.lst (ps.map V.ref)) ∧ ps.length = L.length ∧ ∀ (j : Nat) (a : Addr) (ts : List Int), ps[j]? = some a → L[j]? = some ts → H a = some (.lst (ts.map V.int)) := by
  obtain ⟨ps, a, b, c⟩ := h
  exact ⟨ps, a, b, fun j p ts e1 e2 => (c j p ts e1 e2).2⟩
theorem rowT_but {D : Addr} {H H' : Hp} (B : But D H H') : ∀ a x, RowT D H a x → RowT D H' a x := fun a x h => ⟨h.1, B _ _ h.1 h.2⟩
theorem GroX.rows {H1 H : Hp} {D : Addr} {L : List (List Int)} (G : GroX (RowT D) H1 H D L) : RwsAt H D L := by
  obtain ⟨ps, a, b, c⟩ := G.d
  exact ⟨ps, a, b, c⟩
theorem GroX.keepR {H1 H H' : Hp} {D : Addr} {L : List (List Int)} (G : GroX (RowT D) H1 H D L) (S : Same H H') : GroX (RowT D) H1 H' D L := G.keep S fun a x h => ⟨h.1, S _ _ h.2⟩
/-- one row more -/
theorem GroX.row {H1 H : Hp} {D z : Addr} {L : List (List Int)} {ts : List Int} (G : GroX (RowT D) H1 H D L) (nz : H z = none) : ∃ acc, (upd H z (.lst (ts.map V.int))) D = some (.lst acc) ∧ acc.length = L.length ∧ GroX (RowT D) H1 (upd (upd H z (.lst (ts.map V.int))) D (.lst (acc ++ [.ref z]))) D (L ++ [ts]) := by
  have S : Same H (upd H z (.lst (ts.map V.int))) := new_same nz
  have ne : z ≠ D := fun e => by
    obtain ⟨ps, a, _⟩ := G.d
    rw [e, a] at nz
    cases nz
  exact (G.keepR S).app (fun H' B => rowT_but B) ⟨ne, upd_same⟩
theorem RwsAt.cat {H : Hp} {a b p : Addr} {L M : List (List Int)} (ha : RwsAt H a L) (hb : RwsAt H b M) : ∃ xs zs, H a = some (.lst xs) ∧ H b = some (.lst zs) ∧ xs.length = L.length ∧ zs.length = M.length ∧ (H p = none → RwsAt (upd H p (.lst (xs ++ zs))) p (L ++ M)) := by
  obtain ⟨ps, a1, a2, a3⟩ := ha
  obtain ⟨qs, b1, b2, b3⟩ := hb
  refine ⟨_, _, a1, b1, by rw [List.length_map, a2], by rw [List.length_map, b2], fun np => ⟨ps ++ qs, by rw [upd_same, List.map_append], by rw [List.length_append, List.length_append, a2, b2], fun j u ts e1 e2 => ?_⟩⟩
  have key : H u = some (.lst (ts.map V.int)) := by
    rcases Nat.lt_or_ge j ps.length with c | c
    · rw [List.getElem?_append_left c] at e1
      rw [List.getElem?_append_left (by omega)] at e2
      exact (a3 j u ts e1 e2).2
    · rw [List.getElem?_append_right c] at e1
      rw [List.getElem?_append_right (by omega)] at e2
      rw [show j - L.length = j - ps.length from by omega] at e2
      exact (b3 _ u ts e1 e2).2
  have ne : u ≠ p := fun e => by rw [e, np] at key; cases key
  exact ⟨ne, new_same np _ _ key⟩
/-- what a hand's draw leaves alone -/
theorem int_nh {H : Hp} {h q a : Addr} {ts : List Int} (hh : Hand H h q) (e : H a = some (.lst (ts.map V.int))) : a ≠ h := fun c => by
  obtain ⟨cs, i, r, t, f1, _⟩ := hh
  rw [c, f1] at e
  cases ts with
  | nil => exact nomatch e
  | cons x xs => exact nomatch e
theorem ref_nh {H : Hp} {h q a : Addr} {ps : List Addr} (hh : Hand H h q) (e : H a = some (.lst (ps.map V.ref))) : a ≠ h := fun c => by
  obtain ⟨cs, i, r, t, f1, _⟩ := hh
  rw [c, f1] at e
  match ps, e with
  | [], e => exact nomatch e
  | [x], e => exact nomatch e
  | x :: y :: xs, e => exact nomatch e
theorem RwsAt.but {H H' : Hp} {h q z : Addr} {L : List (List Int)} (R : RwsAt H z L) (hh : Hand H h q) (B : But h H H') : RwsAt H' z L := by
  obtain ⟨ps, a, b, c⟩ := R
  exact ⟨ps, B _ _ (ref_nh hh a) a, b, fun j u ts e1 e2 => ⟨(c j u ts e1 e2).1, B _ _ (int_nh hh (c j u ts e1 e2).2) (c j u ts e1 e2).2⟩⟩
end J

set_option Elab.async false
set_option linter.all false
set_option maxRecDepth 100000
set_option maxHeartbeats 8000000
namespace L2
open PySem PySem.Spec PyProof.Rows
/-! ### slices and sorted of a list or a tuple -/
def rSlN (K : PySem.W.Frag) : V → Option Int → Option Int → Hp → VK → Prop := fun x lo hi H Q => ∃ a xs, x = .ref a ∧ (H a = some (.lst xs) ∨ H a = some (.tup xs)) ∧
  ∀ H' p, Same H H' → (H a = some (.lst xs) ∧ H' p = some (.lst (cutV xs lo hi)) ∨ H a = some (.tup xs) ∧ H' p = some (.tup (cutV xs lo hi))) → Q (.ref p) H'
theorem cutV_whole {xs : List V} {lo hi : Option Int} (h : HT.sIx xs.length 0 lo = 0 ∧ HT.sIx xs.length xs.length hi = xs.length) : cutV xs lo hi = xs := by
  unfold cutV
  rw [h.1, h.2, List.drop_zero, Nat.sub_zero, List.take_length]
theorem sl_N {X : Cx} : SlR X (rSlN X.K) := by
  intro pins s σ H x v vl vu lo hi sl Q I rx hs pl pu h
  obtain ⟨a, xs, rfl, e | e, q⟩ := h
  · exact sl_list pins s σ H _ v vl vu lo hi sl Q I rx hs pl pu ⟨a, xs, rfl, SqL.of e, fun p hp => q _ p (J.new_same hp) (.inl ⟨e, upd_same⟩)⟩
  · refine sl_tupA pins s σ H _ v vl vu lo hi sl Q I rx hs pl pu ⟨a, xs, rfl, SqT.of e, fun c => q H a (Same.refl _) (.inr ⟨e, ?_⟩), fun _ p hp => q _ p (J.new_same hp) (.inr ⟨e, upd_same⟩)⟩
    rw [cutV_whole c]
    exact e
def rSortN : List V → Hp → VK → Prop := fun vs H Q => ∃ (a : Addr) (ns : List Int), vs = [V.ref a] ∧ (H a = some (.lst (ns.map V.int)) ∨ H a = some (.tup (ns.map V.int))) ∧
  ∀ (ns' : List Int) (p : Addr), ns'.Perm ns → ns'.Pairwise (· ≤ ·) → H p = none → Q (.ref p) (upd H p (.lst (ns'.map V.int)))
theorem cr_sortedN {X : Cx} : CallR X (.builtin "sorted") rSortN := by
  intro pins s σ H vs us Q I r h
  obtain ⟨a, ns, rfl, e | e, q⟩ := h
  · exact cr_sortedI pins s σ H _ us Q I r ⟨a, ns, rfl, SqL.of e, q⟩
  · exact cr_sortedTI pins s σ H _ us Q I r ⟨a, ns, rfl, SqT.of e, q⟩
end L2
namespace J
open PySem PySem.Spec PyProof.Rows L2
def so2 (a b : Int) : List Int := if a ≤ b then [a, b] else [b, a]
theorem so2_of {a b : Int} {xs : List Int} (p : xs.Perm [a, b]) (w : xs.Pairwise (· ≤ ·)) : xs = so2 a b := by
  unfold so2
  have q : (if a ≤ b then [a, b] else [b, a]).Perm [a, b] := by
    split
    · exact List.Perm.refl _
    · exact List.Perm.swap a b []
  have w2 : (if a ≤ b then [a, b] else [b, a]).Pairwise (· ≤ ·) := by
    split
    · simp; omega
    · simp; omega
  exact (p.trans q.symm).eq_of_pairwise (fun x y _ _ h1 h2 => by omega) w w2
theorem so2_eq {a b c d : Int} : so2 a b = so2 c d ↔ (a = c ∧ b = d) ∨ (a = d ∧ b = c) := by
  unfold so2
  split <;> split
  all_goals
    constructor
    · intro h
      injection h with h1 h2
      injection h2 with h2 _
      omega
    · intro h
      first
        | (have e1 : a = c := by omega
           have e2 : b = d := by omega
           rw [e1, e2])
        | (have e1 : a = d := by omega
           have e2 : b = c := by omega
           rw [e1, e2])
theorem told_so {R : List (List Int)} {a b : Int} : decide (so2 a b ∈ R.map fun r => so2 (r0 r) (r1 r)) = toldB R a b := by
  unfold toldB
  rw [Bool.eq_iff_iff, decide_eq_true_eq, List.any_eq_true, List.mem_map]
  constructor
  · rintro ⟨r, hr, e⟩
    refine ⟨r, hr, ?_⟩
    rw [Bool.or_eq_true, Bool.and_eq_true, Bool.and_eq_true, decide_eq_true_eq, decide_eq_true_eq, decide_eq_true_eq, decide_eq_true_eq]
    exact so2_eq.mp e
  · rintro ⟨r, hr, e⟩
    refine ⟨r, hr, so2_eq.mpr ?_⟩
    rw [Bool.or_eq_true, Bool.and_eq_true, Bool.and_eq_true, decide_eq_true_eq, decide_eq_true_eq, decide_eq_true_eq, decide_eq_true_eq] at e
    exact e
theorem any_line {t : List Int} : ∀ {L : List (List Int)}, ((linesD L).any fun z => PyData.eqv z (.list (t.map PyData.int))) = decide (t ∈ L)
  | [] => by simp [linesD]
  | r :: L => by
    have ih := any_line (t := t) (L := L)
    show (PyData.eqv (.list (r.map PyData.int)) (.list (t.map PyData.int)) || (linesD L).any _) = _
    rw [eqv_li, ih]
    by_cases c : r = t
    · simp [c]
    · have c' : ¬ t = r := fun e => c e.symm
      simp [c, c']
theorem RwsAt.dp {K : PySem.W.Frag} {H : Hp} {z : Addr} {L : List (List Int)} (h : RwsAt H z L) : Dp K H (.ref z) (.list (linesD L)) := by
  obtain ⟨ps, l⟩ := h
  exact l.dp
theorem in_rows {K : PySem.W.Frag} {H : Hp} {z a : Addr} {L : List (List Int)} {t : List Int} (h : RwsAt H z L) (ha : H a = some (.lst (t.map V.int))) {Q : VK} (k : Q (.bl (decide (t ∈ L))) H) : rInD K (.ref a) (.ref z) H Q :=
  ⟨_, _, .lst (SqL.of ha) (dp_ints t), h.dp, shaped_li t, shaped_linesD L, by rw [any_line]; exact k⟩
/-- a loop over a slice of a list or a tuple -/
theorem for_sl {K : PySem.W.Frag} {te : TE} {xs : List V} {g : TG} {tb : TS} {D : Ends} {σ : L2.St} {H : Hp}
    (hte : (∀ Q : VK, (∀ H' p, Same H H' → H' p = some (.lst xs) → Q (.ref p) H') → te σ H Q) ∨ (∀ Q : VK, (∀ H' p, Same H H' → H' p = some (.tup xs) → Q (.ref p) H') → te σ H Q))
    (Pv : Hp → Nat → L2.St → Hp → Prop) (h0 : ∀ H', Same H H' → Pv H' 0 σ H') (hS : ∀ H1 i σ' H', Pv H1 i σ' H' → Same H1 H')
    (hs : ∀ H1 i x σ' H', xs[i]? = some x → Pv H1 i σ' H' → g x σ' H' fun σ2 H2 => tb { D with nx := Pv H1 (i + 1), ct := Pv H1 (i + 1), bk := D.nx } σ2 H2) (hd : ∀ H1 σ' H', Same H H1 → Pv H1 xs.length σ' H' → D.nx σ' H') : tFor (iOr (iList K te) (iTup K te)) g tb D σ H := by
  rcases hte with hte | hte
  · refine .inl (hte _ fun H1 p S1 e => ⟨p, rfl, ⟨_, SqL.of e⟩, ?_⟩)
    exact for_list (K := K) (a := p) (xs := xs) (Pv H1) (h0 H1 S1) (fun i σ' H' _ h => SqL.of (hS _ _ _ _ h _ _ e)) (hs H1) (fun σ' H' h => hd H1 σ' H' S1 h)
  · refine .inr (hte _ fun H1 p S1 e => ⟨p, rfl, ⟨_, SqT.of e⟩, ?_⟩)
    exact for_tup (K := K) (a := p) (xs := xs) (Pv H1) (h0 H1 S1) (fun i σ' H' _ h => SqT.of (hS _ _ _ _ h _ _ e)) (hs H1) (fun σ' H' h => hd H1 σ' H' S1 h)
theorem tie_lab {ns : List Int} {v : V} (h4 : ns.length ≤ 4) (h : labB v = false) : tieB ns v = false := by
  unfold labB at h
  unfold tieB
  cases v with
  | int n =>
    have h : (decide (0 ≤ n) && decide (n ≤ 1000000000)) = false := h
    show (decide (0 ≤ n) && decide (n ≤ ((ns.length : Nat) : Int) - 1)) = false
    rw [Bool.and_eq_false_iff, decide_eq_false_iff_not, decide_eq_false_iff_not] at h ⊢
    omega
  | _ => rfl
theorem tie_lt {ns : List Int} {n : Int} (h : labB (.int n) = true) : tieB ns (.int n) = !decide (((ns.length : Nat) : Int) ≤ n) := by
  obtain ⟨m, e, h0, _⟩ := whole_int h
  obtain rfl : n = m := V.int.inj e
  show (decide (0 ≤ n) && decide (n ≤ ((ns.length : Nat) : Int) - 1)) = _
  rw [decide_eq_true h0, Bool.true_and]
  by_cases c : ((ns.length : Nat) : Int) ≤ n
  · rw [decide_eq_true c, decide_eq_false (by omega)]; rfl
  · rw [decide_eq_false c, decide_eq_true (by omega)]; rfl
end J

set_option Elab.async false
set_option linter.all false
set_option maxRecDepth 100000
set_option maxHeartbeats 8000000
namespace J
open PySem PySem.Spec PyProof.Rows L2
abbrev s_Ldue : Stmt := top 54
theorem sc_Ldue : FnScope ["_law_world", "_law_labels_here", "_law_rows", "_law_k", "_law_label", "_law_seen", "_law_row", "_law_thing"] ["_law_world", "_law_labels_here", "_law_rows"] (defScope s_Ldue) := ⟨rfl, rfl, rfl, by decide +kernel, rfl, by decide +kernel, by decide +kernel⟩
def spDue : Sp := fun vs H Q _ => ∃ (x : Addr) (ns : List Int) (L : List (List Int)) (l v : V) (sl sv : Sh) (ss : List Sh), vs = [.ref x, l, v] ∧ WAt H x ns L ∧ GoodB ns ∧ Is H l sl ∧ Known H (items sl) ∧ Is H v sv ∧ ShAll H (items sv) ss ∧ ss.length ≤ 100 ∧
  ∀ (H' : Hp) (z : Addr), Same H H' → SkTold H' z ns (skJ ns sl sv ss) → Q (.ref z) H'
/-- a thing is no label, or none of these -/
theorem no_lab {K : PySem.W.Frag} {j : Nat} {σ : L2.St} {H : Hp} {Q : Bool → Hp → Prop} {v : V} {pl : Addr} {ls : List Int} (h7 : σ[j]? = some (some v)) (h1 : σ[1]? = some (some (.ref pl))) (hl : H pl = some (.lst (ls.map V.int)) ∨ H pl = some (.tup (ls.map V.int))) (isv : ∃ s, Is H v s) (q : Q (!inSk ls v) H) :
    (tOr (tNot (tB (tCall spLabel [] E0 (tCons (tVar j) tNil)))) (tTest (tOp (rIn K true) (tVar j) (tVar 1)))) σ H Q := by
  obtain ⟨sv, isv⟩ := isv
  unfold inSk at q
  refine ⟨_, h7, v, sv, rfl, isv, _, rfl, ?_⟩
  cases lv : labB v with
  | false =>
    rw [lv] at q
    exact if_tr (by rw [show wholeB v 0 1000000000 = false from lv]; rfl) q
  | true =>
    rw [lv, Bool.true_and] at q
    obtain ⟨a, rfl, _⟩ := whole_int lv
    have fl : (ls.map V.int).all flatV = true := by
      rw [List.all_map]
      exact List.all_eq_true.mpr fun _ _ => rfl
    refine if_fa (by rw [show wholeB (.int a) 0 1000000000 = true from lv]; rfl) ⟨_, h7, _, h1, pl, _, rfl, hl.imp SqL.of SqT.of, rfl, fl, _, rfl, ?_⟩
    rw [if_pos rfl]
    exact q
theorem coup_in {ls : List Int} {x y : V} : coupJ ls x y = (inSk ls x && (inSk ls y && !decide (x = y))) := by
  unfold coupJ inSk
  cases labB x <;> cases labB y <;> cases inV x (ls.map V.int) <;> cases inV y (ls.map V.int) <;> rfl
theorem ix_any {K : PySem.W.Frag} {H : Hp} {u : Addr} {xs : List V} {j : Nat} {v : V} {Q : VK} (e : H u = some (.lst xs) ∨ H u = some (.tup xs)) (h : xs[j]? = some v) (q : Q v H) : rIxS K (.ref u) (.int (j : Nat)) H Q := by
  rcases e with e | e
  · exact .inl ⟨u, _, _, _, rfl, rfl, SqL.of e, at_of (j := j) rfl h, q⟩
  · exact .inr ⟨u, _, _, _, rfl, rfl, SqT.of e, at_of (j := j) rfl h, q⟩
theorem isi_ty {K : PySem.W.Frag} {H : Hp} {x : V} {s : Sh} {p : Addr} (hx : Is H x s) (hp : H p = none) : ∃ t, TyX K (upd H p (.tup [.ty "list", .ty "tuple"])) x t ∧ PySem.W.kitAny K t [.type "list", .type "tuple"] = some (s.isL || s.isT) ∧ Same H (upd H p (.tup [.ty "list", .ty "tuple"])) := by
  have S : Same H (upd H p (.tup [.ty "list", .ty "tuple"])) := new_same hp
  obtain ⟨t, ht, _, _, k1, k2⟩ := (hx.keep S).ty (K := K)
  exact ⟨_, ht, kit_seq k1 k2, S⟩
section
variable {P : Program} {w : World} {K : PySem.W.Frag} {mg : Str → Option Value} {base : Heap}
theorem ok_Ldue {f fL fP : Addr} {fd fdL fdP : FuncData} (F : Fun K "_law_due" "_law_due" s_Ldue f fd) (nis : mg "isinstance" = none) (nli : mg "list" = none) (nt : mg "tuple" = none) (nl : mg "len" = none) (ne : mg "enumerate" = none) (nso : mg "sorted" = none)
    (GL : Cal P w K mg base CX0 1 "_law_is_label" fL fdL ["_law_thing"] spLabel) (GP : Cal P w K mg base CX0 1 "_law_plain_rows" fP fdP ["_law_world", "_law_rows"] spPR) : FnOk P w K mg base CX0 2 f fd ["_law_world", "_law_labels_here", "_law_rows"] spDue := by
  refine F.ok sc_Ldue (fun vs H Q E h => ?_) (fun cdv A outer s H vs Q E hr h => ?_)
  · obtain ⟨x, ns, L, l, v, sl, sv, ss, rfl, _⟩ := h
    rfl
  · obtain ⟨x, ns, L, l, v, sl, sv, ss, rfl, hW, gb, isl, knl, isv, sa, l100, k⟩ := h
    have h4 := gb.hi
    refine ⟨_, (pss_cons 
  (ps_if (pt_not (pt_val (pe_callB call_isiT (by rfl) nis (by decide +kernel) (pa_cons (pv 1) (pa_cons (pe_tup (pa_cons (pe_bltn (by rfl) nli (by decide +kernel) (v := .ty "list") rfl) (pa_cons (pe_bltn (by rfl) nt (by decide +kernel) (v := .ty "tuple") rfl) pa_nil))) pa_nil))))) (pss_one 
    (ps_ret (pe_tup (pa_cons pe_str (pa_cons pe_int (pa_cons pe_str pa_nil)))))) pss_nil) (pss_cons 
  (ps_if (pt_not (pt_val (pe_callB call_isiT (by rfl) nis (by decide +kernel) (pa_cons (pv 2) (pa_cons (pe_tup (pa_cons (pe_bltn (by rfl) nli (by decide +kernel) (v := .ty "list") rfl) (pa_cons (pe_bltn (by rfl) nt (by decide +kernel) (v := .ty "tuple") rfl) pa_nil))) pa_nil))))) (pss_one 
    (ps_ret (pe_tup (pa_cons pe_str (pa_cons pe_int (pa_cons pe_str pa_nil)))))) pss_nil) (pss_cons 
  (ps_if (pt_cmpR op_gt (pe_callB call_len_seq (by rfl) nl PySem.boot_len (pa_cons (pv 1) pa_nil)) pe_int (nomark _)) (pss_one 
    (ps_ret (pe_tup (pa_cons pe_str (pa_cons pe_int (pa_cons pe_str pa_nil)))))) pss_nil) (pss_cons 
  (ps_for PassesOwn.never rfl (pi_or (pi_enum (by rfl) ne (pa_cons (pv 1) pa_nil)) (pi_enumT (by rfl) ne (pa_cons (pv 1) pa_nil))) (pg_tup (by rfl) (pgs_cons (pg_name (i := 3) sc_Ldue.nd rfl (Or.inl rfl)) (pgs_cons (pg_name (i := 4) sc_Ldue.nd rfl (Or.inl rfl)) pgs_nil))) (pss_one 
    (ps_if (PW.pt (pw_or (pt_not (pt_val (pcal GL hr pass0 (pa_cons (pv 4) pa_nil)))) (pw_or1 (PW.pt (pw_and (pt_cmpR op_gt (pv 3) pe_int (nomark _)) (pw_and1 (pt_cmpR op_ge (pe_ix (r := rIxS K) ix_seq (pv 1) (pe_op op_sub (pv 3) pe_int) (fun _ _ => rfl)) (pv 4) (nomark _)))))))) (pss_one 
      (ps_ret (pe_tup (pa_cons pe_str (pa_cons (pv 3) (pa_cons pe_str pa_nil)))))) pss_nil))) (pss_cons 
  (ps_set (i := 5) sc_Ldue.nd rfl (Or.inl rfl) (pe_lst pa_nil)) (pss_cons 
  (ps_for PassesOwn.never rfl (pi_or (pi_enum (by rfl) ne (pa_cons (pv 2) pa_nil)) (pi_enumT (by rfl) ne (pa_cons (pv 2) pa_nil))) (pg_tup (by rfl) (pgs_cons (pg_name (i := 3) sc_Ldue.nd rfl (Or.inl rfl)) (pgs_cons (pg_name (i := 6) sc_Ldue.nd rfl (Or.inl rfl)) pgs_nil))) (pss_cons 
    (ps_if (PW.pt (pw_or (pt_not (pt_val (pe_callB call_isiT (by rfl) nis (by decide +kernel) (pa_cons (pv 6) (pa_cons (pe_tup (pa_cons (pe_bltn (by rfl) nli (by decide +kernel) (v := .ty "list") rfl) (pa_cons (pe_bltn (by rfl) nt (by decide +kernel) (v := .ty "tuple") rfl) pa_nil))) pa_nil))))) (pw_or1 (pt_cmpR (r := rNe) op_ne (pe_callB call_len_seq (by rfl) nl PySem.boot_len (pa_cons (pv 6) pa_nil)) pe_int (nomark _))))) (pss_one 
      (ps_ret (pe_tup (pa_cons pe_str (pa_cons (pv 3) (pa_cons pe_str pa_nil)))))) pss_nil) (pss_cons 
    (ps_for PassesOwn.never rfl (pi_or (pi_list (pe_slice (r := rSlN K) sl_N (pv 6) po_none (po_some pe_int))) (pi_tup (pe_slice (r := rSlN K) sl_N (pv 6) po_none (po_some pe_int)))) (pg_name (i := 7) sc_Ldue.nd rfl (Or.inl rfl)) (pss_one 
      (ps_if (PW.pt (pw_or (pt_not (pt_val (pcal GL hr pass0 (pa_cons (pv 7) pa_nil)))) (pw_or1 (pt_cmpR (r := rIn K true) op_notIn_seq (pv 7) (pv 1) (by rfl))))) (pss_one 
        (ps_ret (pe_tup (pa_cons pe_str (pa_cons (pv 3) (pa_cons pe_str pa_nil)))))) pss_nil))) (pss_cons 
    (ps_if (pt_cmpR (r := rEq) op_eq (pe_ix (r := rIxS K) ix_seq (pv 6) pe_int (fun _ _ => rfl)) (pe_ix (r := rIxS K) ix_seq (pv 6) pe_int (fun _ _ => rfl)) (nomark _)) (pss_one 
      (ps_ret (pe_tup (pa_cons pe_str (pa_cons (pv 3) (pa_cons pe_str pa_nil)))))) pss_nil) (pss_cons 
    (ps_if (PW.pt (pw_or (pt_not (pt_val (pcal GL hr pass0 (pa_cons (pe_ix (r := rIxS K) ix_seq (pv 6) pe_int (fun _ _ => rfl)) pa_nil)))) (pw_or1 (pt_cmpR op_ge (pe_ix (r := rIxS K) ix_seq (pv 6) pe_int (fun _ _ => rfl)) (pe_callB call_len_seq (by rfl) nl PySem.boot_len (pa_cons (pe_ix (r := rIxT K) ix_tup (pv 0) pe_int (fun _ _ => rfl)) pa_nil)) (nomark _))))) (pss_one 
      (ps_ret (pe_tup (pa_cons pe_str (pa_cons (pv 3) (pa_cons pe_str pa_nil)))))) pss_nil) (pss_cons 
    (ps_if (pt_cmpR (r := rInD K) (op_inD (units65 hr)) (pe_callB (r := rSortN) cr_sortedN (by rfl) nso (by decide +kernel) (pa_cons (pe_slice (r := rSlN K) sl_N (pv 6) po_none (po_some pe_int)) pa_nil)) (pv 5) (by rfl)) (pss_one 
      (ps_ret (pe_tup (pa_cons pe_str (pa_cons (pv 3) (pa_cons pe_str pa_nil)))))) pss_nil) (pss_one 
    (ps_expr (pe_bm PySem.F.plainAttrs_list PySem.F.slot_list_append PySem.F.type_list_append mt_append (pv 5) (pa_cons (pe_callB (r := rSortN) cr_sortedN (by rfl) nso (by decide +kernel) (pa_cons (pe_slice (r := rSlN K) sl_N (pv 6) po_none (po_some pe_int)) pa_nil)) pa_nil)))))))))) (pss_one 
  (ps_ret (pe_tup (pa_cons pe_str (pa_cons (pe_callTy (T := "tuple") (r := rTupA) call_tupA (by rfl) nt (by decide +kernel) (pa_cons (pcal GP hr pass0 (pa_cons (pv 0) (pa_cons (pe_lc (own := [("_law_row", 6)]) (g := gName 6) (by rfl) sc_Ldue.nd (pi_or (pi_list (pv 2)) (pi_tup (pv 2))) (blkOk_by (own := [("_law_row", 6)]) (N := ["_law_world", "_law_labels_here", "_law_rows", "_law_k", "_law_label", "_law_seen", "_law_row", "_law_thing"]) (sc := defScope s_Ldue) (by decide +kernel)) (fun _ _ _ _ _ => pg_name (i := 6) sc_Ldue.nd rfl (Or.inl rfl)) (fun _ _ _ _ _ => pts_nil) (fun _ _ _ _ _ => (pe_callTy (T := "tuple") (r := rTupA) call_tupA (by rfl) nt (by decide +kernel) (pa_cons (pv 6) pa_nil)))) pa_nil))) pa_nil)) pa_nil))))))))))), ?_⟩
    have say : ∀ (H1 : Hp) (j : Nat) (u : Str) (y : Addr), Same H H1 → skJ ns sl sv ss = .inl (j, u) → H1 y = none → Q (.ref y) (upd H1 y (.tup [.str "bad", .int (j : Nat), .str u])) := fun H1 j u y S1 e ny => by
      refine k _ y (S1.trans (new_same ny)) ?_
      rw [e]
      exact upd_same
    refine ⟨_, rfl, (by decide), fun p hp => ?_⟩
    obtain ⟨ty, hty, kty, S1⟩ := isi_ty (K := K) isl hp
    refine ⟨_, _, _, _, _, _, rfl, upd_same, .cons (.ty "list") (.cons (.ty "tuple") .nil), hty, kty, _, rfl, ?_⟩
    generalize upd H p (.tup [.ty "list", .ty "tuple"]) = H1 at S1 hty
    cases sql : (sl.isL || sl.isT) with
    | false =>
      exact iteT ⟨(by show 3 ≤ sizeLine; decide), fun y hy => say H1 0 "sequence" y S1 (by unfold skJ; rw [sql, if_neg Bool.false_ne_true]) hy⟩
    | true =>
    refine iteF ?_
    refine ⟨_, rfl, (by decide), fun p hp => ?_⟩
    obtain ⟨ty, hty, kty, S2⟩ := isi_ty (K := K) (isv.keep S1) hp
    refine ⟨_, _, _, _, _, _, rfl, upd_same, .cons (.ty "list") (.cons (.ty "tuple") .nil), hty, kty, _, rfl, ?_⟩
    generalize upd H1 p (.tup [.ty "list", .ty "tuple"]) = H2 at S2 hty
    have S02 := S1.trans S2
    cases sqv : (sv.isL || sv.isT) with
    | false =>
      exact iteT ⟨(by show 3 ≤ sizeLine; decide), fun y hy => say H2 1 "sequence" y S02 (by unfold skJ; rw [sql, if_pos rfl, sqv, if_neg Bool.false_ne_true]) hy⟩
    | true =>
    have sk0 : skJ ns sl sv ss = if (items sl).length ≤ 6 then
        match labsJ (items sl) [] with
        | .inl j => .inl (j, "label")
        | .inr ls => match rowsJ ns ls ss [] with
          | .inl p => .inl p
          | .inr R => .inr (ls, R)
      else .inl (6, "many") := by
      unfold skJ
      (rw [sql, sqv, if_pos rfl, if_pos rfl]) <;> rfl
    obtain ⟨pl, xs, rfl, epl, exs⟩ : ∃ p xs, l = .ref p ∧ (H p = some (.lst xs) ∨ H p = some (.tup xs)) ∧ items sl = xs := by
      cases sl with
      | sc u => cases sql
      | dk => cases sql
      | lst xs => obtain ⟨p, e, h⟩ := isl; exact ⟨p, xs, e, .inl h, rfl⟩
      | tup xs => obtain ⟨p, e, h⟩ := isl; exact ⟨p, xs, e, .inr h, rfl⟩
    obtain ⟨pk, zs, rfl, epk, ezs⟩ : ∃ p xs, v = .ref p ∧ (H p = some (.lst xs) ∨ H p = some (.tup xs)) ∧ items sv = xs := by
      cases sv with
      | sc u => cases sqv
      | dk => cases sqv
      | lst xs => obtain ⟨p, e, h⟩ := isv; exact ⟨p, xs, e, .inl h, rfl⟩
      | tup xs => obtain ⟨p, e, h⟩ := isv; exact ⟨p, xs, e, .inr h, rfl⟩
    rw [exs] at sk0 knl
    rw [ezs] at sa
    have ep2 : H2 pl = some (.lst xs) ∨ H2 pl = some (.tup xs) := epl.imp (S02 _ _) (S02 _ _)
    refine iteF ⟨_, rfl, pl, xs, rfl, ep2.imp SqL.of SqT.of, _, _, rfl, rfl, _, rfl, ?_⟩
    by_cases c6 : xs.length ≤ 6
    case neg =>
      rw [if_neg c6] at sk0
      exact if_tr (decide_eq_true (by omega)) ⟨(by show 3 ≤ sizeLine; decide), fun y hy => say H2 6 "many" y S02 sk0 hy⟩
    rw [if_pos c6] at sk0
    refine if_fa (decide_eq_false (by omega)) ?_
    refine for_enumOr (a := pl) (xs := xs) rfl ep2 (fun i σ H' => Same H2 H' ∧ (∃ v3 v4, σ = [some (.ref x), some (.ref pl), some (.ref pk), v3, v4, none, none, none]) ∧ ∃ ls : List Int, ls.length = i ∧ xs.take i = ls.map V.int ∧ labsJ xs [] = labsJ (xs.drop i) ls) ⟨Same.refl _, ⟨_, _, rfl⟩, [], rfl, by rw [List.take_zero]; rfl, rfl⟩ (fun i σ H' _ h => by rcases ep2 with e | e <;> rw [h.1 _ _ e, e]) ?_ ?_
    · rintro i y σ H' T0 hy ⟨S2', ⟨v3, v4, rfl⟩, ls, lls, tk, run⟩ hT0
      refine ⟨T0, _, rfl, SqT.of upd_same, rfl, _, _, rfl, _, _, rfl, rfl, ?_⟩
      have S3 : Same H' (upd H' T0 (.tup [.int (i : Nat), y])) := new_same hT0
      generalize upd H' T0 (.tup [.int (i : Nat), y]) = H3 at S3
      have S23 := S2'.trans S3
      have S03 := S02.trans S23
      have st := labsJ_step (ls := ls) hy
      have sayL : labOne ls y = none → ∀ z, H3 z = none → Q (.ref z) (upd H3 z (.tup [.str "bad", .int (i : Nat), .str "label"])) := fun e z hz => by
        rw [e, lls] at st
        have st : labsJ (xs.drop i) ls = .inl i := st
        exact say H3 i "label" z S03 (by rw [sk0, run, st]) hz
      obtain ⟨sy, isy⟩ := knl y (List.mem_of_getElem? hy)
      refine ⟨_, rfl, y, sy, rfl, isy.keep S03, _, rfl, ?_⟩
      cases ly : labB y with
      | false =>
        refine if_tr (by rw [show wholeB y 0 1000000000 = false from ly]; rfl) (iteT ⟨_, rfl, (by show 3 ≤ sizeLine; decide), sayL ?_⟩)
        unfold labOne
        cases y with
        | int n => show (if (labB (.int n) && lastOk ls n) = true then some n else none) = none; rw [ly, Bool.false_and, if_neg Bool.false_ne_true]
        | _ => rfl
      | true =>
        obtain ⟨n, rfl, _⟩ := whole_int ly
        have l1 : labOne ls (.int n) = if lastOk ls n = true then some n else none := by
          show (if (labB (.int n) && lastOk ls n) = true then some n else none) = _
          rw [ly, Bool.true_and]
        refine if_fa (by rw [show wholeB (.int n) 0 1000000000 = true from ly]; rfl) ⟨_, rfl, _, _, rfl, rfl, _, rfl, ?_⟩
        have nxt : lastOk ls n = true → Same H2 H3 ∧ (∃ v3' v4', ([some (.ref x), some (.ref pl), some (.ref pk), some (.int (i : Nat)), some (.int n), none, none, none] : List (Option V)) = [some (.ref x), some (.ref pl), some (.ref pk), v3', v4', none, none, none]) ∧ ∃ ls' : List Int, ls'.length = i + 1 ∧ xs.take (i + 1) = ls'.map V.int ∧ labsJ xs [] = labsJ (xs.drop (i + 1)) ls' := fun e => by
          refine ⟨S23, ⟨_, _, rfl⟩, ls ++ [n], by rw [List.length_append, lls]; rfl, ?_, ?_⟩
          · rw [List.take_add_one, hy, tk, List.map_append]; rfl
          · rw [run, st, l1, e, if_pos rfl]
        cases i with
        | zero =>
          obtain rfl : ls = [] := List.length_eq_zero_iff.mp lls
          exact if_fa (by rfl) (iteF (nxt rfl))
        | succ i =>
          have hi : i < ls.length := by omega
          have em := List.getElem?_eq_getElem hi
          generalize ls[i] = m at em
          have ex : xs[i]? = some (.int m) := by
            have : (xs.take (i + 1))[i]? = some (.int m) := by rw [tk, List.getElem?_map, em]; rfl
            rwa [List.getElem?_take_of_lt (by omega)] at this
          have lk : lastOk ls n = decide (m < n) := by
            unfold lastOk
            rw [List.getLast?_eq_getElem?, show ls.length - 1 = i by omega, em]
          have ep3 : H3 pl = some (.lst xs) ∨ H3 pl = some (.tup xs) := ep2.imp (S23 _ _) (S23 _ _)
          have ix : ∀ Q' : VK, Q' (.int m) H3 → rIxS K (.ref pl) (.int (((i + 1 : Nat) : Int) - 1)) H3 Q' := fun Q' q => by
            rw [show ((i + 1 : Nat) : Int) - 1 = (i : Nat) by omega]
            exact ix_any ep3 ex q
          refine if_tr (by show decide ((0 : Int) < ((i + 1 : Nat) : Int)) = true; exact decide_eq_true (by omega)) ⟨_, rfl, _, rfl, _, _, rfl, rfl, ix _ ⟨_, rfl, _, _, rfl, rfl, _, rfl, ?_⟩⟩
          by_cases c : m < n
          · exact if_fa (by show decide (n ≤ m) = false; exact decide_eq_false (by omega)) (nxt (by rw [lk]; exact decide_eq_true c))
          · refine if_tr (by show decide (n ≤ m) = true; exact decide_eq_true (by omega)) ⟨_, rfl, (by show 3 ≤ sizeLine; decide), sayL ?_⟩
            rw [l1, lk, decide_eq_false c, if_neg Bool.false_ne_true]
    rintro σ H3 ⟨S23, ⟨v3, v4, rfl⟩, ls, lls, tk, run⟩
    rw [List.drop_length] at run
    rw [List.take_length] at tk
    have run : labsJ xs [] = .inr ls := run
    rw [run] at sk0
    have sk0 : skJ ns sl sv ss = match rowsJ ns ls ss [] with
        | .inl p => .inl p
        | .inr R => .inr (ls, R) := sk0
    have S03 := S02.trans S23
    refine ⟨(by show 0 ≤ sizeLine; decide), fun D hD => ?_⟩
    have G0 : GroX (RowT D) H3 (upd H3 D (.lst [])) D [] := GroX.nil hD
    have ep3 : H3 pk = some (.lst zs) ∨ H3 pk = some (.tup zs) := epk.imp (S03 _ _) (S03 _ _)
    have epl3 : H3 pl = some (.lst (ls.map V.int)) ∨ H3 pl = some (.tup (ls.map V.int)) := by rw [← tk]; exact epl.imp (S03 _ _) (S03 _ _)
    have lzs : ss.length = zs.length := (ShAll.len sa).symm
    have eq0 : (upd H3 D (.lst [])) pk = some (.lst zs) ∨ (upd H3 D (.lst [])) pk = some (.tup zs) := ep3.imp (G0.S _ _) (G0.S _ _)
    generalize hH4 : upd H3 D (.lst []) = H4 at G0 eq0
    obtain ⟨b, zz, po, ro, w1, w2, w345⟩ := id hW
    refine for_enumOr (a := pk) (xs := zs) rfl eq0 (fun i σ H' => ∃ (R : List (List Int)) (v3 v4 v6 v7 : Option V), σ = [some (.ref x), some (.ref pl), some (.ref pk), v3, v4, some (.ref D), v6, v7] ∧ GroX (RowT D) H3 H' D (R.map fun r => so2 (r0 r) (r1 r)) ∧ rowsJ ns ls ss [] = rowsJ ns ls (ss.drop i) R ∧ R.length = i)
      ⟨[], _, _, _, _, rfl, G0, rfl, rfl⟩ (fun i σ H' _ h => by
        obtain ⟨R, _, _, _, _, _, G, _⟩ := h
        rcases ep3 with e | e <;> rw [G.S _ _ e, G0.S _ _ e]) ?_ ?_
    · rintro i y σ H' T0 hy ⟨R, v3, v4, v6, v7, rfl, G, run, lR⟩ hT0
      refine ⟨T0, _, rfl, SqT.of upd_same, rfl, _, _, rfl, _, _, rfl, rfl, ?_⟩
      have S5 : Same H' (upd H' T0 (.tup [.int (i : Nat), y])) := new_same hT0
      generalize upd H' T0 (.tup [.int (i : Nat), y]) = H5 at S5
      have G5 := G.keepR S5
      have S05 := S03.trans G5.S
      obtain ⟨sy, hsy, isy, kny⟩ := ShAll.at_ sa hy
      have hi : i < ss.length := (List.getElem?_eq_some_iff.mp hsy).1
      have st := rowsJ_step (ns := ns) (ls := ls) (R := R) hsy
      have sayR : ∀ (H6 : Hp) (w : Str), Same H H6 → rowJ ns ls R sy = .inl w → ∀ z, H6 z = none → Q (.ref z) (upd H6 z (.tup [.str "bad", .int (i : Nat), .str w])) := fun H6 w S6 e z hz => by
        rw [e, lR] at st
        have st : rowsJ ns ls (ss.drop i) R = .inl (i, w) := st
        exact say H6 i w z S6 (by rw [sk0, run, st]) hz
      refine ⟨_, rfl, (by decide), fun p hp => ?_⟩
      obtain ⟨ty, hty, kty, S6⟩ := isi_ty (K := K) (isy.keep S05) hp
      refine ⟨_, _, _, _, _, _, rfl, upd_same, .cons (.ty "list") (.cons (.ty "tuple") .nil), hty, kty, _, rfl, ?_⟩
      generalize upd H5 p (.tup [.ty "list", .ty "tuple"]) = H6 at S6 hty
      have S06 := S05.trans S6
      have G6 := G5.keepR S6
      cases sqy : (sy.isL || sy.isT) with
      | false =>
        refine if_tr rfl (iteT ⟨_, rfl, (by show 3 ≤ sizeLine; decide), sayR H6 "row" S06 ?_⟩)
        unfold rowJ
        rw [sqy, if_neg Bool.false_ne_true]
      | true =>
      obtain ⟨u, ys, rfl, eu, eys⟩ : ∃ u ys, y = .ref u ∧ (H u = some (.lst ys) ∨ H u = some (.tup ys)) ∧ items sy = ys := by
        cases sy with
        | sc u => cases sqy
        | dk => cases sqy
        | lst xs => obtain ⟨p, e, h⟩ := isy; exact ⟨p, xs, e, .inl h, rfl⟩
        | tup xs => obtain ⟨p, e, h⟩ := isy; exact ⟨p, xs, e, .inr h, rfl⟩
      have rj : rowJ ns ls R sy = match items sy with
          | [x, y, t] =>
            if coupJ ls x y = true then
              if tieB ns t = true then
                num3 R x y t
              else .inl "tie"
            else .inl "couple"
          | _ => .inl "row" := by unfold rowJ; (rw [sqy, if_pos rfl]) <;> rfl
      rw [eys] at rj kny
      have eu6 : H6 u = some (.lst ys) ∨ H6 u = some (.tup ys) := eu.imp (S06 _ _) (S06 _ _)
      refine if_fa rfl ⟨_, rfl, u, _, rfl, eu6.imp SqL.of SqT.of, rfl, _, rfl, ?_⟩
      by_cases l3 : ys.length = 3
      case neg =>
        refine if_tr (by show (!decide (V.int (ys.length : Nat) = V.int 3)) = true; rw [decide_eq_false (fun e => l3 (by have := V.int.inj e; omega))]; rfl) ⟨_, rfl, (by show 3 ≤ sizeLine; decide), sayR H6 "row" S06 ?_⟩
        rw [rj]
        match ys, l3 with
        | [], _ => rfl
        | [_], _ => rfl
        | [_, _], _ => rfl
        | [_, _, _], l3 => exact absurd rfl l3
        | _ :: _ :: _ :: _ :: _, _ => rfl
      refine if_fa (by show (!decide (V.int (ys.length : Nat) = V.int 3)) = false; rw [l3]; rfl) ?_
      obtain ⟨xv, yv, tv, rfl⟩ : ∃ a b c, ys = [a, b, c] := by
        match ys, l3 with
        | [a, b, c], _ => exact ⟨a, b, c, rfl⟩
      have rj : rowJ ns ls R sy = if coupJ ls xv yv = true then
            if tieB ns tv = true then
              num3 R xv yv tv
            else .inl "tie"
          else .inl "couple" := rj
      have kn6 := kny.keep S06
      have cut2 : cutV [xv, yv, tv] none (some 2) = [xv, yv] := rfl
      have sl6 : ∀ (H6 : Hp), (H6 u = some (.lst [xv, yv, tv]) ∨ H6 u = some (.tup [xv, yv, tv])) → (∀ Q' : VK, (∀ H' p, Same H6 H' → H' p = some (.lst [xv, yv]) → Q' (.ref p) H') → rSlN K (.ref u) none (some 2) H6 Q') ∨ (∀ Q' : VK, (∀ H' p, Same H6 H' → H' p = some (.tup [xv, yv]) → Q' (.ref p) H') → rSlN K (.ref u) none (some 2) H6 Q') := fun H6 eu6 => by
        rcases eu6 with e | e
        · refine .inl fun Q' q => ⟨u, _, rfl, .inl e, fun H' p S h => ?_⟩
          rcases h with ⟨_, h⟩ | ⟨h, _⟩
          · exact q H' p S (by rw [← cut2]; exact h)
          · rw [e] at h; cases h
        · refine .inr fun Q' q => ⟨u, _, rfl, .inr e, fun H' p S h => ?_⟩
          rcases h with ⟨h, _⟩ | ⟨_, h⟩
          · rw [e] at h; cases h
          · exact q H' p S (by rw [← cut2]; exact h)
      have epl6 : H6 pl = some (.lst (ls.map V.int)) ∨ H6 pl = some (.tup (ls.map V.int)) := epl3.imp (G6.S _ _) (G6.S _ _)
      refine for_sl (xs := [xv, yv]) ?_ (fun H1 j σ' H' => H' = H1 ∧ Same H6 H1 ∧ (∃ v7, σ' = [some (.ref x), some (.ref pl), some (.ref pk), some (.int (i : Nat)), v4, some (.ref D), some (.ref u), v7]) ∧ (0 < j → inSk ls xv = true) ∧ (1 < j → inSk ls yv = true)) ?_ ?_ ?_ ?_
      · rcases sl6 H6 eu6 with h | h
        · exact .inl fun Q' q => ⟨_, rfl, _, rfl, h _ q⟩
        · exact .inr fun Q' q => ⟨_, rfl, _, rfl, h _ q⟩
      · exact fun H' S => ⟨rfl, S, ⟨_, rfl⟩, fun h => absurd h (by omega), fun h => absurd h (by omega)⟩
      · rintro H1 j σ' H' ⟨rfl, _⟩
        exact Same.refl _
      · rintro H1 j v σ' H' ev ⟨rfl, S7, ⟨v7, rfl⟩, t1, t2⟩
        have kv : ∃ s, Is H' v s := by
          refine (kn6.keep S7) v ?_
          have := List.mem_of_getElem? ev
          simp only [List.mem_cons, List.not_mem_nil, or_false] at this ⊢
          rcases this with e | e
          · exact .inl e
          · exact .inr (.inl e)
        have nc : ∀ e : inSk ls v = false, rowJ ns ls R sy = .inl "couple" := fun e => by
          rw [rj, coup_in]
          have := List.mem_of_getElem? ev
          simp only [List.mem_cons, List.not_mem_nil, or_false] at this
          rcases this with q | q
          · rw [← q, e, Bool.false_and, if_neg Bool.false_ne_true]
          · rw [← q, e, Bool.false_and, Bool.and_false, if_neg Bool.false_ne_true]
        refine no_lab (j := 7) (v := v) (pl := pl) (ls := ls) rfl rfl (epl6.imp (S7 _ _) (S7 _ _)) kv ?_
        cases e : inSk ls v with
        | false => exact iteT ⟨_, rfl, (by show 3 ≤ sizeLine; decide), sayR H' "couple" (S06.trans S7) (nc e)⟩
        | true =>
          match j, ev with
          | 0, ev =>
            obtain rfl : xv = v := Option.some.inj ev
            exact iteF ⟨rfl, S7, ⟨_, rfl⟩, fun _ => e, fun h => absurd h (by omega)⟩
          | 1, ev =>
            obtain rfl : yv = v := Option.some.inj ev
            exact iteF ⟨rfl, S7, ⟨_, rfl⟩, fun _ => t1 (by omega), fun _ => e⟩
          | j + 2, ev => simp at ev
      rintro H7 σ' H7' _ ⟨rfl, S7, ⟨v7, rfl⟩, t1, t2⟩
      have ix := t1 (by decide : 0 < 2)
      have iy := t2 (by decide : 1 < 2)
      have lx : labB xv = true := by unfold inSk at ix; rw [Bool.and_eq_true] at ix; exact ix.1
      have ly : labB yv = true := by unfold inSk at iy; rw [Bool.and_eq_true] at iy; exact iy.1
      obtain ⟨va, rfl, _⟩ := whole_int lx
      obtain ⟨vb, rfl, _⟩ := whole_int ly
      have S07 := S06.trans S7
      have G7 := G6.keepR S7
      have eu7 : H7' u = some (.lst [.int va, .int vb, tv]) ∨ H7' u = some (.tup [.int va, .int vb, tv]) := eu6.imp (S7 _ _) (S7 _ _)
      refine ⟨_, rfl, ix_any (j := 0) eu7 rfl ⟨_, rfl, ix_any (j := 1) eu7 rfl ⟨rfl, _, rfl, ?_⟩⟩⟩
      rw [coup_in, ix, iy, Bool.true_and, Bool.true_and] at rj
      by_cases cxy : va = vb
      · subst cxy
        rw [decide_eq_true rfl, if_neg (by decide)] at rj
        exact if_tr (decide_eq_true rfl) ⟨_, rfl, (by show 3 ≤ sizeLine; decide), sayR H7' "couple" S07 rj⟩
      rw [decide_eq_false (fun e => cxy (V.int.inj e)), if_pos (by rfl)] at rj
      refine if_fa (decide_eq_false (fun e => cxy (V.int.inj e))) ?_
      obtain ⟨st', ist⟩ := (kn6.keep S7) tv (List.mem_cons_of_mem _ (List.mem_cons_of_mem _ List.mem_cons_self))
      refine ⟨_, rfl, ix_any (j := 2) eu7 rfl ⟨tv, st', rfl, ist, _, rfl, ?_⟩⟩
      cases lt : labB tv with
      | false =>
        rw [tie_lab h4 lt, if_neg Bool.false_ne_true] at rj
        exact if_tr (by rw [show wholeB tv 0 1000000000 = false from lt]; rfl) (iteT ⟨_, rfl, (by show 3 ≤ sizeLine; decide), sayR H7' "tie" S07 rj⟩)
      | true =>
      obtain ⟨vc, rfl, _⟩ := whole_int lt
      rw [tie_lt lt] at rj
      refine if_fa (by rw [show wholeB (.int vc) 0 1000000000 = true from lt]; rfl) ⟨_, rfl, ix_any (j := 2) eu7 rfl ⟨_, rfl, _, _, _, _, rfl, rfl, SqT.of (S07 _ _ w1), at_of (j := 0) (v := .ref b) rfl rfl, b, _, rfl, .inl (SqL.of (S07 _ _ w2)), _, _, rfl, rfl, _, rfl, ?_⟩⟩
      rw [List.length_map]
      by_cases ct : ((ns.length : Nat) : Int) ≤ vc
      · rw [decide_eq_true ct, if_neg (by decide)] at rj
        exact if_tr (by show decide (((ns.length : Nat) : Int) ≤ vc) = true; exact decide_eq_true ct) ⟨_, rfl, (by show 3 ≤ sizeLine; decide), sayR H7' "tie" S07 rj⟩
      rw [decide_eq_false ct, if_pos (by rfl)] at rj
      have rj : rowJ ns ls R sy = if toldB R va vb = true then .inl "twice" else .inr [va, vb, vc] := rj
      refine if_fa (by show decide (((ns.length : Nat) : Int) ≤ vc) = false; exact decide_eq_false ct) ?_
      refine ⟨_, rfl, _, rfl, u, _, rfl, eu7, fun H8 p8 S8 h8 => ?_⟩
      have e8 : H8 p8 = some (.lst ([va, vb].map V.int)) ∨ H8 p8 = some (.tup ([va, vb].map V.int)) := h8.imp And.right And.right
      refine ⟨p8, [va, vb], rfl, e8, fun ns' p9 pm pw hp9 => ?_⟩
      obtain rfl := so2_of pm pw
      have S9 : Same H8 (upd H8 p9 (.lst ((so2 va vb).map V.int))) := new_same hp9
      have e9 : (upd H8 p9 (.lst ((so2 va vb).map V.int))) p9 = some (.lst ((so2 va vb).map V.int)) := upd_same
      generalize upd H8 p9 (.lst ((so2 va vb).map V.int)) = H9 at S9 e9
      have S79 := S8.trans S9
      have G9 := G7.keepR S79
      refine ⟨_, rfl, in_rows G9.rows e9 ⟨_, rfl, ?_⟩⟩
      rw [told_so]
      cases tw : toldB R va vb with
      | true =>
        rw [tw, if_pos rfl] at rj
        exact if_tr rfl ⟨_, rfl, (by show 3 ≤ sizeLine; decide), sayR H9 "twice" (S07.trans S79) rj⟩
      | false =>
      rw [tw, if_neg Bool.false_ne_true] at rj
      have eu9 : H9 u = some (.lst [.int va, .int vb, .int vc]) ∨ H9 u = some (.tup [.int va, .int vb, .int vc]) := eu7.imp (S79 _ _) (S79 _ _)
      obtain ⟨us9, eD9, _⟩ := G9.d
      refine if_fa rfl ⟨_, rfl, .inl ⟨rfl, _, SqL.of eD9⟩, _, rfl, _, rfl, u, _, rfl, eu9, fun H10 p10 S10 h10 => ?_⟩
      have e10 : H10 p10 = some (.lst ([va, vb].map V.int)) ∨ H10 p10 = some (.tup ([va, vb].map V.int)) := h10.imp And.right And.right
      refine ⟨p10, [va, vb], rfl, e10, fun ns' p11 pm pw hp11 => ?_⟩
      obtain rfl := so2_of pm pw
      obtain ⟨acc, a1, a2, a3⟩ := (G9.keepR S10).row (ts := so2 va vb) hp11
      refine ⟨D, acc, _, rfl, rfl, a1, by rw [a2, List.length_map]; exact small1000 (by omega), R ++ [[va, vb, vc]], _, _, _, _, rfl, ?_, ?_, by rw [List.length_append, lR]; rfl⟩
      · rw [List.map_append]
        exact a3
      · rw [run, st, rj]
    rintro σ H5 ⟨R, v3, v4, v6, v7, rfl, G, run, lR⟩
    rw [← lzs, List.drop_length] at run
    have run : rowsJ ns ls ss [] = .inr R := run
    rw [run] at sk0
    have sk0 : skJ ns sl sv ss = .inr (ls, R) := sk0
    have ro := rows_all run
    have S05 := S03.trans G.S
    have ep5 : H5 pk = some (.lst zs) ∨ H5 pk = some (.tup zs) := ep3.imp (G.S _ _) (G.S _ _)
    refine ⟨_, rfl, ?_⟩
    refine lc_or (K := K) (a := pk) (xs := zs) rfl ep5 fun D2 hD2 => ⟨fun i H' => GroX (fun H a (r : List Int) => H a = some (.tup (r.map V.int))) H5 H' D2 (R.take i), GroX.nil hD2, fun i H' _ G' => G'.S, ?_, ?_⟩
    · intro i y H6 ey G6
      have hi := (List.getElem?_eq_some_iff.mp ey).1
      obtain ⟨sy, hsy, isy, kny⟩ := ShAll.at_ sa ey
      obtain ⟨ra, rb, rt, eR, ei, sq⟩ := ro.at_ i sy (by omega) hsy
      have S06 := S05.trans G6.S
      have isy6 := isy.keep S06
      obtain ⟨u, rfl, eu⟩ : ∃ u, y = .ref u ∧ (H6 u = some (.lst ([ra, rb, rt].map V.int)) ∨ H6 u = some (.tup ([ra, rb, rt].map V.int))) := by
        cases sy with
        | sc u => cases sq
        | dk => cases sq
        | lst xs => obtain ⟨p, e, h⟩ := isy6; exact ⟨p, e, .inl (by rw [h, show xs = _ from ei]; rfl)⟩
        | tup xs => obtain ⟨p, e, h⟩ := isy6; exact ⟨p, e, .inr (by rw [h, show xs = _ from ei]; rfl)⟩
      refine ⟨rfl, yesT ⟨_, rfl, u, _, rfl, eu, fun H7 z7 S7 ez7 => ?_⟩⟩
      have G7 := G6.keep S7 fun a r h => S7 _ _ h
      obtain ⟨us, eD, _⟩ := G7.d
      obtain ⟨acc, a1, a2, a3⟩ := G7.app (z := z7) (x := [ra, rb, rt]) (fun H' B a r h => B _ _ (fun e => by rw [e, eD] at h; cases h) h) ez7
      refine ⟨acc, a1, by rw [a2, List.length_take]; exact small1000 (by omega), ?_⟩
      show GroX _ _ _ _ (R.take (i + 1))
      rw [List.take_add_one, eR]
      exact a3
    · intro H6 G6
      have G6 : GroX (fun H a (r : List Int) => H a = some (.tup (r.map V.int))) H5 H6 D2 (R.take zs.length) := G6
      rw [← lzs, ← ro.len, List.take_length] at G6
      have S06 := S05.trans G6.S
      refine ⟨x, D2, ns, ls, L, R, rfl, hW.keep S06, gb, G6.d, by rw [ro.len]; exact l100, ro.good, fun H7 z7 Kn S7 nz7 lz7 kn7 => ?_⟩
      obtain ⟨ps, p1, p2, p3⟩ := lz7
      refine ⟨z7, _, rfl, .inl p1, fun H8 t8 S8 e8 => ⟨(by show 2 ≤ sizeLine; decide), fun y hy => ?_⟩⟩
      have S9 := new_same (o := .tup [.str "is", .ref t8]) hy
      have S69 := (S7.trans S8).trans S9
      refine k _ y (S06.trans S69) ?_
      rw [sk0]
      exact ⟨Kn, t8, kn7, upd_same, ps, S9 _ _ e8, p2, fun j a ts q1 q2 => (S8.trans S9) _ _ (p3 j a ts q1 q2)⟩
end
end J

set_option Elab.async false
set_option linter.all false
set_option maxRecDepth 100000
set_option maxHeartbeats 8000000
namespace J
open PySem PySem.Spec PyProof.Rows L2
/-! ### a list of things that grows while the hand changes -/
structure GrV (h q : Addr) (H1 H : Hp) (D : Addr) (xs : List V) : Prop where
  B : But h H1 H
  hh : Hand H h q
  f : H1 D = none
  nh : D ≠ h
  nq : D ≠ q
  l : H D = some (.lst xs)
theorem GrV.nil {h q D : Addr} {H1 : Hp} (hh : Hand H1 h q) (hD : H1 D = none) : GrV h q H1 (upd H1 D (.lst [])) D [] := by
  obtain ⟨n1, n2⟩ := hh.same_h' hD
  exact ⟨But.new hD, hh.new hD, hD, n1, n2, upd_same⟩
theorem GrV.step {h q D : Addr} {H1 H H' : Hp} {xs : List V} (G : GrV h q H1 H D xs) (B : But h H H') (hh : Hand H' h q) : GrV h q H1 H' D xs := ⟨G.B.trans B, hh, G.f, G.nh, G.nq, B _ _ G.nh G.l⟩
theorem GrV.keep {h q D : Addr} {H1 H H' : Hp} {xs : List V} (G : GrV h q H1 H D xs) (S : Same H H') : GrV h q H1 H' D xs := G.step (But.same S) (G.hh.keep S)
theorem GrV.put {h q D : Addr} {H1 H : Hp} {xs : List V} (ys : List V) (G : GrV h q H1 H D xs) : GrV h q H1 (upd H D (.lst ys)) D ys := ⟨G.B.put2 G.f, G.hh.put G.nh.symm G.nq.symm, G.f, G.nh, G.nq, upd_same⟩
/-- a tuple of ints -/
def ThAt (H : Hp) (x : V) (r : List Int) : Prop := ∃ u : Addr, x = .ref u ∧ H u = some (.tup (r.map V.int))
theorem ThAt.keep {H H' : Hp} {x : V} {r : List Int} (h : ThAt H x r) (S : Same H H') : ThAt H' x r := by
  obtain ⟨u, e, h⟩ := h
  exact ⟨u, e, S _ _ h⟩
theorem ThAt.put {H H' : Hp} {x : V} {r : List Int} {D : Addr} {xs : List V} (h : ThAt H x r) (eD : H D = some (.lst xs)) (B : But D H H') : ThAt H' x r := by
  obtain ⟨u, e, h⟩ := h
  exact ⟨u, e, B _ _ (fun c => by rw [c, eD] at h; cases h) h⟩
theorem hand_lst {H : Hp} {h q : Addr} (hh : Hand H h q) : ∃ us, H h = some (.lst us) := by
  obtain ⟨cs, i, r, t, e1, _⟩ := hh
  exact ⟨_, e1⟩
theorem ThAt.but {H H' : Hp} {h q : Addr} {x : V} {r : List Int} (c : ThAt H x r) (hh : Hand H h q) (B : But h H H') : ThAt H' x r := by
  obtain ⟨us, e⟩ := hand_lst hh
  exact c.put e B
theorem paired_app {α β : Type} {F : α → β → Prop} : ∀ {xs ys : List α} {as bs : List β}, Paired F xs as → Paired F ys bs → Paired F (xs ++ ys) (as ++ bs)
  | _, _, _, _, .nil, b => b
  | _, _, _, _, .cons r t, b => .cons r (paired_app t b)
theorem paired_perm {α β : Type} {F : α → β → Prop} {ys xs : List α} (p : ys.Perm xs) : ∀ {d : List β}, Paired F xs d → ∃ d', Paired F ys d' ∧ d'.Perm d := by
  induction p with
  | nil => intro d h; exact ⟨d, h, List.Perm.refl _⟩
  | cons x p ih =>
    intro d h
    cases h with
    | cons r t =>
      obtain ⟨d', a, b⟩ := ih t
      exact ⟨_, .cons r a, b.cons _⟩
  | swap x y l =>
    intro d h
    cases h with
    | cons r t =>
      cases t with
      | cons r2 t2 => exact ⟨_, .cons r2 (.cons r t2), List.Perm.swap _ _ _⟩
  | trans p1 p2 ih1 ih2 =>
    intro d h
    obtain ⟨d1, a1, b1⟩ := ih2 h
    obtain ⟨d2, a2, b2⟩ := ih1 a1
    exact ⟨d2, a2, b2.trans b1⟩
theorem th_lsts {H : Hp} : ∀ {xs : List V} {R : List (List Int)}, Paired (ThAt H) xs R → ∃ ps : List Addr, xs = ps.map V.ref ∧ ps.length = R.length ∧ ∀ (j : Nat) (a : Addr) (ts : List Int), ps[j]? = some a → R[j]? = some ts → H a = some (.tup (ts.map V.int))
  | _, _, .nil => ⟨[], rfl, rfl, fun j a ts e => by simp at e⟩
  | _, _, .cons r t => by
    obtain ⟨u, rfl, hu⟩ := r
    obtain ⟨ps, e1, e2, e3⟩ := th_lsts t
    refine ⟨u :: ps, by rw [e1]; rfl, by rw [List.length_cons, List.length_cons, e2], fun j a ts q1 q2 => ?_⟩
    cases j with
    | zero =>
      obtain rfl : u = a := by simpa using q1
      have q2 : some _ = some ts := q2
      obtain rfl := Option.some.inj q2
      exact hu
    | succ j => exact e3 j a ts (by simpa using q1) (by simpa using q2)
/-! ### rows that are known -/
structure KnI (ns ls : List Int) (R : List (List Int)) (i j : Nat) : Prop where
  good : ∀ r ∈ R, ∃ (a b : Nat) (x y t : Int), a < b ∧ (a < i ∨ (a = i ∧ b < i + 1 + j)) ∧ ls[a]? = some x ∧ ls[b]? = some y ∧ InT ns t ∧ (r = [x, y, t] ∨ r = [y, x, t])
  un : R.Pairwise unlike
  len : R.length ≤ 6 * i + j
def AscP (ls : List Int) : Prop := ∀ (a b : Nat) (x y : Int), a < b → ls[a]? = some x → ls[b]? = some y → x < y
theorem asc_p {ls : List Int} (h : Asc ls) : AscP ls := by
  intro a b
  induction b with
  | zero => intro x y c; omega
  | succ b ih =>
    intro x y c e1 e2
    have lb := (List.getElem?_eq_some_iff.mp e2).1
    have eb := List.getElem?_eq_getElem (l := ls) (i := b) (by omega)
    generalize ls[b]'(by omega) = z at eb
    have l2 := h b z y eb e2
    rcases Nat.lt_or_ge a b with q | q
    · have := ih x z q e1 eb
      omega
    · obtain rfl : a = b := by omega
      rw [eb] at e1
      obtain rfl := Option.some.inj e1
      exact l2
theorem KnI.skip {ns ls : List Int} {R : List (List Int)} {i j : Nat} (h : KnI ns ls R i j) : KnI ns ls R i (j + 1) := ⟨fun r hr => by
  obtain ⟨a, b, x, y, t, h1, h2, h3⟩ := h.good r hr
  exact ⟨a, b, x, y, t, h1, by omega, h3⟩, h.un, by have := h.len; omega⟩
theorem KnI.next {ns ls : List Int} {R : List (List Int)} {i j : Nat} (h : KnI ns ls R i j) (hj : j ≤ 6) : KnI ns ls R (i + 1) 0 := ⟨fun r hr => by
  obtain ⟨a, b, x, y, t, h1, h2, h3⟩ := h.good r hr
  exact ⟨a, b, x, y, t, h1, by omega, h3⟩, h.un, by have := h.len; omega⟩
theorem KnI.snoc {ns ls : List Int} {R : List (List Int)} {i j : Nat} {x y t : Int} {r : List Int} (h : KnI ns ls R i j) (as : AscP ls) (ex : ls[i]? = some x) (ey : ls[i + 1 + j]? = some y) (it : InT ns t) (er : r = [x, y, t] ∨ r = [y, x, t]) : KnI ns ls (R ++ [r]) i (j + 1) := by
  refine ⟨fun r' hr' => ?_, ?_, by rw [List.length_append]; have := h.len; show _ + 1 ≤ _; omega⟩
  · rcases List.mem_append.mp hr' with q | q
    · obtain ⟨a, b, x', y', t', h1, h2, h3⟩ := h.good r' q
      exact ⟨a, b, x', y', t', h1, by omega, h3⟩
    · rw [List.mem_singleton.mp q]
      exact ⟨i, i + 1 + j, x, y, t, by omega, by omega, ex, ey, it, er⟩
  · refine List.pairwise_append.mpr ⟨h.un, List.pairwise_singleton _ _, fun r' hr' z hz => ?_⟩
    rw [List.mem_singleton.mp hz]
    obtain ⟨a, b, x', y', t', h1, h2, e1, e2, _, er'⟩ := h.good r' hr'
    have l1 := as i (i + 1 + j) x y (by omega) ex ey
    have l2 := as a b x' y' h1 e1 e2
    have inj : ∀ (c d : Nat) (u : Int), ls[c]? = some u → ls[d]? = some u → c = d := fun c d u q1 q2 => by
      rcases Nat.lt_trichotomy c d with k | k | k
      · have := as c d u u k q1 q2; omega
      · exact k
      · have := as d c u u k q2 q1; omega
    have no : ¬ (x' = x ∧ y' = y) := fun ⟨q1, q2⟩ => by
      subst q1
      subst q2
      have := inj _ _ _ e1 ex
      have := inj _ _ _ e2 ey
      omega
    have r00 : ∀ a b c : Int, r0 [a, b, c] = a ∧ r1 [a, b, c] = b := fun a b c => ⟨rfl, rfl⟩
    intro q
    rcases er with rfl | rfl <;> rcases er' with rfl | rfl <;> rw [(r00 _ _ _).1, (r00 _ _ _).2, (r00 _ _ _).1, (r00 _ _ _).2] at q <;> exact no (by omega)
structure KnR (ns ls : List Int) (R : List (List Int)) : Prop where
  good : ∀ r ∈ R, RwGood ns ls r
  un : R.Pairwise unlike
  len : R.length ≤ 40
theorem unlike_symm {r s : List Int} (h : unlike r s) : unlike s r := fun q => h (by omega)
theorem KnR.perm {ns ls : List Int} {R R' : List (List Int)} (h : KnR ns ls R) (p : R'.Perm R) : KnR ns ls R' := ⟨fun r hr => h.good r (p.mem_iff.mp hr), (List.Perm.pairwise_iff (fun h => unlike_symm h) p).mpr h.un, by rw [p.length_eq]; exact h.len⟩
theorem KnI.all {ns ls : List Int} {R : List (List Int)} (h : KnI ns ls R ls.length 0) (as : AscP ls) (h6 : ls.length ≤ 6) (bd : ∀ n ∈ ls, 0 ≤ n ∧ n < 1000000000) : KnR ns ls R := by
  refine ⟨fun r hr => ?_, h.un, by have := h.len; omega⟩
  obtain ⟨a, b, x, y, t, h1, _, e1, e2, it, er⟩ := h.good r hr
  have l2 := as a b x y h1 e1 e2
  have mx := List.mem_of_getElem? e1
  have my := List.mem_of_getElem? e2
  have bx := bd x mx
  have b_y := bd y my
  rcases er with rfl | rfl
  · exact ⟨x, y, t, rfl, by omega, by omega, mx, my, by omega, it⟩
  · exact ⟨y, x, t, rfl, by omega, by omega, my, mx, by omega, it⟩
abbrev s_Lknown : Stmt := top 51
theorem sc_Lknown : FnScope ["_law_hand_here", "_law_world", "_law_labels_here", "_law_share", "_law_told_here", "_law_k", "_law_x", "_law_y", "_law_tie_here"] ["_law_hand_here", "_law_world", "_law_labels_here", "_law_share"] (defScope s_Lknown) := ⟨rfl, rfl, rfl, by decide +kernel, rfl, by decide +kernel, by decide +kernel⟩
def spLKn : Sp := fun vs H Q _ => ∃ (h q x l : Addr) (m : Int) (ns ls : List Int) (L : List (List Int)), vs = [.ref h, .ref x, .ref l, .int m] ∧ Hand H h q ∧ WAt H x ns L ∧ GoodB ns ∧ H l = some (.lst (ls.map V.int)) ∧ Asc ls ∧ ls.length ≤ 6 ∧ (∀ n ∈ ls, 0 ≤ n ∧ n < 1000000000) ∧ 0 < m ∧ m < 10 ∧
  ∀ (H' : Hp) (z : Addr) (R : List (List Int)), But h H H' → Hand H' h q → H z = none → LstsAt H' z R → KnR ns ls R → Q (.ref z) H'
section
variable {P : Program} {w : World} {K : PySem.W.Frag} {mg : Str → Option Value} {base : Heap}
theorem ok_Lknown {f fD fS : Addr} {fd fdD fdS : FuncData} (F : Fun K "_law_known" "_law_known" s_Lknown f fd) (nl : mg "len" = none) (ne : mg "enumerate" = none) (GD : Cal P w K mg base CX0 2 "_law_draw" fD fdD ["_law_hand_here", "_law_many"] spDraw) (GS : Cal P w K mg base CX0 3 "_law_shuffled" fS fdS ["_law_hand_here", "_law_things"] spShuf) :
    FnOk P w K mg base CX0 4 f fd ["_law_hand_here", "_law_world", "_law_labels_here", "_law_share"] spLKn := by
  refine F.ok sc_Lknown (fun vs H Q E h => ?_) (fun cdv A outer s H vs Q E hr h => ?_)
  · obtain ⟨h, q, x, l, m, ns, ls, L, rfl, _⟩ := h
    rfl
  · obtain ⟨h, q, x, l, m, ns, ls, L, rfl, hh, hW, gb, el, asc, h6, bd, m0, m1, k⟩ := h
    have h4 := gb.hi
    have as := asc_p asc
    refine ⟨_, (pss_cons 
  (ps_set (i := 4) sc_Lknown.nd rfl (Or.inl rfl) (pe_lst pa_nil)) (pss_cons 
  (ps_for PassesOwn.never rfl (pi_enum (by rfl) ne (pa_cons (pv 2) pa_nil)) (pg_tup (by rfl) (pgs_cons (pg_name (i := 5) sc_Lknown.nd rfl (Or.inl rfl)) (pgs_cons (pg_name (i := 6) sc_Lknown.nd rfl (Or.inl rfl)) pgs_nil))) (pss_one 
    (ps_for PassesOwn.never rfl (pi_list (pe_slice (r := rSlL K) sl_list (pv 2) (po_some (pe_op op_add (pv 5) pe_int)) po_none)) (pg_name (i := 7) sc_Lknown.nd rfl (Or.inl rfl)) (pss_one 
      (ps_if (pt_cmpR op_gt (pcal GD hr pass0 (pa_cons (pv 0) (pa_cons (pv 3) pa_nil))) pe_int (nomark _)) (pss_cons 
        (ps_set (i := 8) sc_Lknown.nd rfl (Or.inl rfl) (pcal GD hr pass0 (pa_cons (pv 0) (pa_cons (pe_callB call_len_seq (by rfl) nl PySem.boot_len (pa_cons (pe_ix (r := rIxT K) ix_tup (pv 1) pe_int (fun _ _ => rfl)) pa_nil)) pa_nil)))) (pss_one 
        (ps_expr (pe_bm PySem.F.plainAttrs_list PySem.F.slot_list_append PySem.F.type_list_append mt_append (pv 4) (pa_cons (pe_ifExp (pt_cmpR op_eq (pcal GD hr pass0 (pa_cons (pv 0) (pa_cons pe_int pa_nil))) pe_int (nomark _)) (pe_tup (pa_cons (pv 6) (pa_cons (pv 7) (pa_cons (pv 8) pa_nil)))) (pe_tup (pa_cons (pv 7) (pa_cons (pv 6) (pa_cons (pv 8) pa_nil))))) pa_nil))))) pss_nil))))) (pss_one 
  (ps_ret (pcal GS hr pass0 (pa_cons (pv 0) (pa_cons (pv 4) pa_nil))))))), ?_⟩
    refine ⟨(by show 0 ≤ sizeLine; decide), fun D hD => ?_⟩
    have G0 := GrV.nil hh hD
    have lh : l ≠ h := int_nh hh el
    obtain ⟨b, zz, po, ro, w1, w2, w345⟩ := id hW
    have bh : b ≠ h := int_nh hh w2
    have xh : x ≠ h := fun e => by
      obtain ⟨us, eh⟩ := hand_lst hh
      rw [e, eh] at w1
      cases w1
    have el0 := (But.new (h := h) (o := .lst []) hD) _ _ lh el
    refine ⟨_, rfl, l, _, rfl, SqL.of el0, for_enum (K := K) (a := l) (xs := ls.map V.int) (fun i σ H' => ∃ (xs : List V) (R : List (List Int)) (v5 v6 v7 v8 : Option V), σ = [some (.ref h), some (.ref x), some (.ref l), some (.int m), some (.ref D), v5, v6, v7, v8] ∧ GrV h q H H' D xs ∧ Paired (ThAt H') xs R ∧ KnI ns ls R i 0)
      ⟨[], [], none, none, none, none, rfl, G0, .nil, ⟨(fun r hr => by cases hr), List.Pairwise.nil, Nat.zero_le _⟩⟩ (fun i σ H' _ ⟨xs, R, _, _, _, _, _, G, _⟩ => SqL.of (G.B _ _ lh el)) ?_ ?_⟩
    · rintro i v σ H1 T0 ev ⟨xs, R, v5, v6, v7, v8, rfl, G, PR, KI⟩ hT0
      rw [List.getElem?_map] at ev
      cases ex : ls[i]? with
      | none => rw [ex] at ev; cases ev
      | some xx =>
      rw [ex] at ev
      obtain rfl : V.int xx = v := Option.some.inj ev
      have hi := (List.getElem?_eq_some_iff.mp ex).1
      refine ⟨T0, _, rfl, SqT.of upd_same, rfl, _, _, rfl, _, _, rfl, rfl, ?_⟩
      have S1 : Same H1 (upd H1 T0 (.tup [.int (i : Nat), .int xx])) := new_same hT0
      generalize upd H1 T0 (.tup [.int (i : Nat), .int xx]) = H2 at S1
      have G2 := G.keep S1
      have PR2 : Paired (ThAt H2) xs R := Paired.mapP PR fun _ _ c => c.keep S1
      refine ⟨_, rfl, _, rfl, _, _, rfl, rfl, _, rfl, l, _, rfl, SqL.of (G2.B _ _ lh el), fun p hp => ?_⟩
      have ct : cutV (ls.map V.int) (some ((i : Nat) + 1)) none = (ls.drop (i + 1)).map V.int := by rw [cutV_drop (by rw [List.length_map]; exact hi), List.map_drop]
      rw [ct]
      have S3 : Same H2 (upd H2 p (.lst ((ls.drop (i + 1)).map V.int))) := new_same hp
      have ep : (upd H2 p (.lst ((ls.drop (i + 1)).map V.int))) p = some (.lst ((ls.drop (i + 1)).map V.int)) := upd_same
      have pD : p ≠ D := fun e => by rw [e, G2.l] at hp; cases hp
      generalize upd H2 p (.lst ((ls.drop (i + 1)).map V.int)) = H3 at S3 ep
      have G3 := G2.keep S3
      have PR3 : Paired (ThAt H3) xs R := Paired.mapP PR2 fun _ _ c => c.keep S3
      refine ⟨p, rfl, ⟨_, SqL.of ep⟩, for_list (K := K) (a := p) (xs := (ls.drop (i + 1)).map V.int) (fun j σ H' => ∃ (xs : List V) (R : List (List Int)) (v7 v8 : Option V), σ = [some (.ref h), some (.ref x), some (.ref l), some (.int m), some (.ref D), some (.int (i : Nat)), some (.int xx), v7, v8] ∧ GrV h q H H' D xs ∧ Paired (ThAt H') xs R ∧ KnI ns ls R i j ∧ H' p = some (.lst ((ls.drop (i + 1)).map V.int)))
        ⟨xs, R, v7, v8, rfl, G3, PR3, KI, ep⟩ (fun j σ H' _ ⟨_, _, _, _, _, _, _, _, ep⟩ => SqL.of ep) ?_ ?_⟩
      · rintro j v σ H4 ev ⟨xs, R, v7, v8, rfl, G4, PR4, KI4, ep4⟩
        rw [List.getElem?_map, List.getElem?_drop] at ev
        cases ey : ls[i + 1 + j]? with
        | none => rw [ey] at ev; cases ev
        | some yy =>
        rw [ey] at ev
        obtain rfl : V.int yy = v := Option.some.inj ev
        have hj := (List.getElem?_eq_some_iff.mp ey).1
        have ph4 : p ≠ h := int_nh G4.hh ep4
        refine ⟨_, rfl, _, rfl, h, q, m, rfl, m0, by omega, G4.hh, fun u1 H5 u0 u1' B5 h5 => ⟨_, _, rfl, rfl, _, rfl, ?_⟩⟩
        have G5 := G4.step B5 h5
        have PR5 : Paired (ThAt H5) xs R := Paired.mapP PR4 fun _ _ c => c.but G4.hh B5
        have ep5 := B5 _ _ ph4 ep4
        by_cases cu : 0 < u1
        case neg => exact if_fa (decide_eq_false cu) ⟨xs, R, some (.int yy), v8, rfl, G5, PR5, KI4.skip, ep5⟩
        refine if_tr (decide_eq_true cu) ?_
        refine ⟨_, rfl, _, rfl, _, _, _, _, rfl, rfl, SqT.of (G5.B _ _ xh w1), at_of (j := 0) (v := .ref b) rfl rfl, b, _, rfl, .inl (SqL.of (G5.B _ _ bh w2)), h, q, (ns.length : Nat), (by rw [List.length_map]; rfl), by have := gb.lo; omega, by omega, G5.hh, fun tt H6 t0 t1 B6 h6 => ?_⟩
        have G6 := G5.step B6 h6
        have PR6 : Paired (ThAt H6) xs R := Paired.mapP PR5 fun _ _ c => c.but G5.hh B6
        have ep6 := B6 _ _ ph4 ep5
        have it : InT ns tt := ⟨t0, t1⟩
        refine ⟨_, rfl, .inl ⟨rfl, _, SqL.of G6.l⟩, _, rfl, h, q, 2, rfl, by decide, by decide, G6.hh, fun z1 H7 z0 z1' B7 h7 => ⟨rfl, _, rfl, ?_⟩⟩
        have G7 := G6.step B7 h7
        have PR7 : Paired (ThAt H7) xs R := Paired.mapP PR6 fun _ _ c => c.but G6.hh B7
        have ep7 := B7 _ _ ph4 ep6
        have lxs : xs.length ≤ 100 := by
          have e1 := Paired.length PR7
          have e2 := KI4.len
          omega
        have fin : ∀ (r : List Int) (z : Addr), (r = [xx, yy, tt] ∨ r = [yy, xx, tt]) → H7 z = none → (upd H7 z (.tup (r.map V.int))) D = some (.lst xs) ∧ xs.length < sizeLine ∧ ∃ (xs' : List V) (R' : List (List Int)) (v7 v8 : Option V), [some (.ref h), some (.ref x), some (.ref l), some (.int m), some (.ref D), some (.int (i : Nat)), some (.int xx), some (.int yy), some (.int tt)] = [some (.ref h), some (.ref x), some (.ref l), some (.int m), some (.ref D), some (.int (i : Nat)), some (.int xx), v7, v8] ∧ GrV h q H (upd (upd H7 z (.tup (r.map V.int))) D (.lst (xs ++ [.ref z]))) D xs' ∧ Paired (ThAt (upd (upd H7 z (.tup (r.map V.int))) D (.lst (xs ++ [.ref z])))) xs' R' ∧ KnI ns ls R' i (j + 1) ∧ (upd (upd H7 z (.tup (r.map V.int))) D (.lst (xs ++ [.ref z]))) p = some (.lst ((ls.drop (i + 1)).map V.int)) := by
          intro r z er hz
          have S8 : Same H7 (upd H7 z (.tup (r.map V.int))) := new_same hz
          have ez : (upd H7 z (.tup (r.map V.int))) z = some (.tup (r.map V.int)) := upd_same
          generalize upd H7 z (.tup (r.map V.int)) = H8 at S8 ez
          have G8 := G7.keep S8
          have B9 : But D H8 (upd H8 D (.lst (xs ++ [.ref z]))) := But.put
          refine ⟨G8.l, small1000 (by omega), xs ++ [.ref z], R ++ [r], _, _, rfl, G8.put _, ?_, KI4.snoc as ex ey it er, B9 _ _ pD (S8 _ _ ep7)⟩
          exact Paired.mapP (paired_app (Paired.mapP PR7 fun _ _ c => c.keep S8) (.cons ⟨z, rfl, ez⟩ .nil)) fun _ _ c => c.put G8.l B9
        by_cases cz : z1 = 0
        · refine if_tr (by rw [cz]; rfl) ⟨_, rfl, _, rfl, _, rfl, (by show 3 ≤ sizeLine; decide), fun z hz => ?_⟩
          obtain ⟨f1, f2, f3⟩ := fin [xx, yy, tt] z (.inl rfl) hz
          exact ⟨D, xs, _, rfl, rfl, f1, f2, f3⟩
        · refine if_fa (decide_eq_false fun e => cz (V.int.inj e)) ⟨_, rfl, _, rfl, _, rfl, (by show 3 ≤ sizeLine; decide), fun z hz => ?_⟩
          obtain ⟨f1, f2, f3⟩ := fin [yy, xx, tt] z (.inr rfl) hz
          exact ⟨D, xs, _, rfl, rfl, f1, f2, f3⟩
      · rintro σ H4 ⟨xs, R, v7, v8, rfl, G4, PR4, KI4, ep4⟩
        exact ⟨xs, R, _, _, _, _, rfl, G4, PR4, KI4.next (by rw [List.length_map, List.length_drop]; omega)⟩
    · rintro σ H1 ⟨xs, R, v5, v6, v7, v8, rfl, G, PR, KI⟩
      rw [List.length_map] at KI
      have KR := KI.all as h6 bd
      refine ⟨_, rfl, _, rfl, h, q, D, xs, rfl, G.hh, G.nh, G.l, by rw [Paired.length PR]; have := KR.len; omega, fun H2 z ys B2 h2 nz ez pm => ?_⟩
      obtain ⟨R', PR', pR⟩ := paired_perm pm PR
      have PR2 : Paired (ThAt H2) ys R' := Paired.mapP PR' fun _ _ c => c.but G.hh B2
      obtain ⟨ps, e1, e2, e3⟩ := th_lsts PR2
      have nz0 : H z = none := by
        cases e : H z with
        | none => rfl
        | some o =>
          by_cases c : z = h
          · obtain ⟨us, eh⟩ := hand_lst G.hh
            rw [c, eh] at nz
            cases nz
          · have := G.B _ _ c e
            rw [nz] at this
            cases this
      exact k H2 z R' (G.B.trans B2) h2 nz0 ⟨ps, by rw [ez, e1], e2, e3⟩ (KR.perm pR)
end
end J

set_option Elab.async false
set_option linter.all false
set_option maxRecDepth 100000
set_option maxHeartbeats 8000000
namespace J
open PySem PySem.Spec PyProof.Rows L2
/-- a thing within spoilt labels: a scalar, or a tuple of ints -/
def ItV (H : Hp) (x : V) : Prop := isSc x = true ∨ ∃ (u : Addr) (ts : List Int), x = .ref u ∧ H u = some (.tup (ts.map V.int))
def LabV (H : Hp) (h : Addr) (y : V) : Prop := isSc y = true ∨ ∃ (u : Addr) (xs : List V), y = .ref u ∧ u ≠ h ∧ (H u = some (.lst xs) ∨ H u = some (.tup xs)) ∧ ∀ x ∈ xs, ItV H x
theorem ItV.keep {H H' : Hp} {x : V} (h : ItV H x) (S : Same H H') : ItV H' x := h.imp id fun ⟨u, ts, e, q⟩ => ⟨u, ts, e, S _ _ q⟩
theorem ItV.but {H H' : Hp} {h q : Addr} {x : V} (c : ItV H x) (hh : Hand H h q) (B : But h H H') : ItV H' x := c.imp id fun ⟨u, ts, e, r⟩ => by
  obtain ⟨us, eh⟩ := hand_lst hh
  exact ⟨u, ts, e, B _ _ (fun c => by rw [c, eh] at r; cases r) r⟩
theorem LabV.keep {H H' : Hp} {h : Addr} {y : V} (c : LabV H h y) (S : Same H H') : LabV H' h y := c.imp id fun ⟨u, xs, e, n, r, k⟩ => ⟨u, xs, e, n, r.imp (S _ _) (S _ _), fun x hx => (k x hx).keep S⟩
theorem LabV.but {H H' : Hp} {h q : Addr} {y : V} (c : LabV H h y) (hh : Hand H h q) (B : But h H H') : LabV H' h y := c.imp id fun ⟨u, xs, e, n, r, k⟩ => ⟨u, xs, e, n, r.imp (B _ _ n) (B _ _ n), fun x hx => (k x hx).but hh B⟩
theorem sc_is {H : Hp} {x : V} (h : isSc x = true) : Is H x (.sc x) := ⟨rfl, h⟩
theorem ItV.is {H : Hp} {x : V} (c : ItV H x) : ∃ s, Is H x s := by
  rcases c with c | ⟨u, ts, e, r⟩
  · exact ⟨.sc x, sc_is c⟩
  · exact ⟨.tup (ts.map V.int), u, e, r⟩
theorem LabV.is {H : Hp} {h : Addr} {y : V} (c : LabV H h y) : ∃ s, Is H y s ∧ Known H (items s) := by
  rcases c with c | ⟨u, xs, e, n, r | r, k⟩
  · exact ⟨.sc y, sc_is c, fun x hx => by cases hx⟩
  · exact ⟨.lst xs, ⟨u, e, r⟩, fun x hx => (k x hx).is⟩
  · exact ⟨.tup xs, ⟨u, e, r⟩, fun x hx => (k x hx).is⟩
theorem ints_it {H : Hp} {ns : List Int} : ∀ x ∈ ns.map V.int, ItV H x := fun x hx => by
  obtain ⟨n, _, rfl⟩ := List.mem_map.mp hx
  exact .inl rfl
theorem cut_mem {xs : List V} {lo hi : Option Int} {x : V} (h : x ∈ cutV xs lo hi) : x ∈ xs := List.mem_of_mem_drop (List.mem_of_mem_take h)
theorem cut_len {xs : List V} {lo hi : Option Int} : (cutV xs lo hi).length ≤ xs.length := cutV_length xs lo hi
theorem cut_ints {ns : List Int} {lo hi : Option Int} : ∃ ms : List Int, cutV (ns.map V.int) lo hi = ms.map V.int ∧ ms.length ≤ ns.length := by
  refine ⟨(ns.drop (HT.sIx ns.length 0 lo)).take (HT.sIx ns.length ns.length hi - HT.sIx ns.length 0 lo), ?_, ?_⟩
  · unfold cutV
    rw [List.length_map, List.map_take, List.map_drop]
  · rw [List.length_take, List.length_drop]
    omega
abbrev s_Lsl : Stmt := top 58
theorem sc_Lsl : FnScope ["_law_hand_here", "_law_labels_here", "_law_way", "_law_at", "_law_odd", "_law_k"] ["_law_hand_here", "_law_labels_here"] (defScope s_Lsl) := ⟨rfl, rfl, rfl, by decide +kernel, rfl, by decide +kernel, by decide +kernel⟩
def spLSL : Sp := fun vs H Q _ => ∃ (h q l : Addr) (ls : List Int), vs = [.ref h, .ref l] ∧ Hand H h q ∧ H l = some (.lst (ls.map V.int)) ∧ ls.length ≤ 6 ∧ ∀ (H' : Hp) (y : V), But h H H' → Hand H' h q → LabV H' h y → Q y H'
section
variable {P : Program} {w : World} {K : PySem.W.Frag} {mg : Str → Option Value} {base : Heap}
theorem ok_Lsl {f fD fP : Addr} {fd fdD fdP : FuncData} (F : Fun K "_law_spoilt_labels" "_law_spoilt_labels" s_Lsl f fd) (nl : mg "len" = none) (nr : mg "range" = none) (nm : mg "max" = none) (nt : mg "tuple" = none) (GD : Cal P w K mg base CX0 2 "_law_draw" fD fdD ["_law_hand_here", "_law_many"] spDraw) (GP : Cal P w K mg base CX0 3 "_law_pick" fP fdP ["_law_hand_here", "_law_things"] spPick) :
    FnOk P w K mg base CX0 4 f fd ["_law_hand_here", "_law_labels_here"] spLSL := by
  refine F.ok sc_Lsl (fun vs H Q E h => ?_) (fun cdv A outer s H vs Q E hr h => ?_)
  · obtain ⟨h, q, l, ls, rfl, _⟩ := h
    rfl
  · obtain ⟨h, q, l, ls, rfl, hh, el, h6, k⟩ := h
    refine ⟨_, (pss_cons 
  (ps_set (i := 2) sc_Lsl.nd rfl (Or.inl rfl) (pcal GD hr pass0 (pa_cons (pv 0) (pa_cons pe_int pa_nil)))) (pss_cons 
  (ps_if (pt_cmpR op_eq (pv 2) pe_int (nomark _)) (pss_one 
    (ps_ret (pe_op op_cat (pv 1) (pe_lc (own := [("_law_k", 5)]) (g := gName 5) (by rfl) sc_Lsl.nd (pi_range1 (by rfl) nr (pa_cons (pe_op op_sub pe_int (pe_callB call_len_seq (by rfl) nl PySem.boot_len (pa_cons (pv 1) pa_nil))) pa_nil)) (blkOk_by (own := [("_law_k", 5)]) (N := ["_law_hand_here", "_law_labels_here", "_law_way", "_law_at", "_law_odd", "_law_k"]) (sc := defScope s_Lsl) (by decide +kernel)) (fun _ _ _ _ _ => pg_name (i := 5) sc_Lsl.nd rfl (Or.inl rfl)) (fun _ _ _ _ _ => pts_nil) (fun _ _ _ _ _ => (pe_op op_add (pe_op op_add (pe_callB (id := "max") (r := rMax K) (cr_max rfl) (by rfl) nm (by decide +kernel) (pa_cons (pe_op op_cat (pv 1) (pe_lst (pa_cons pe_int pa_nil))) pa_nil)) pe_int) (pv 5))))))) pss_nil) (pss_cons 
  (ps_if (pt_cmpR op_eq (pv 2) pe_int (nomark _)) (pss_one 
    (ps_ret (pe_revL (pv 1)))) pss_nil) (pss_cons 
  (ps_if (pt_cmpR op_eq (pv 2) pe_int (nomark _)) (pss_one 
    (ps_ret (pe_callTy (T := "tuple") (r := rTupA) call_tupA (by rfl) nt (by decide +kernel) (pa_cons (pe_op op_cat (pv 1) (pe_slice (r := rSlL K) sl_list (pv 1) (po_some (pe_un un_neg pe_int)) po_none)) pa_nil)))) pss_nil) (pss_cons 
  (ps_set (i := 3) sc_Lsl.nd rfl (Or.inl rfl) (pcal GD hr pass0 (pa_cons (pv 0) (pa_cons (pe_op op_add (pe_callB call_len_seq (by rfl) nl PySem.boot_len (pa_cons (pv 1) pa_nil)) pe_int) pa_nil)))) (pss_cons 
  (ps_set (i := 4) sc_Lsl.nd rfl (Or.inl rfl) (pcal GP hr pass0 (pa_cons (pv 0) (pa_cons (pe_lst (pa_cons (pe_un un_neg pe_int) (pa_cons pe_bl (pa_cons pe_non (pa_cons pe_str (pa_cons (pe_op op_add (pe_op op_pow pe_int pe_int) pe_int) (pa_cons (pe_tup (pa_cons pe_int pa_nil)) pa_nil))))))) pa_nil)))) (pss_cons 
  (ps_if (pt_cmpR op_eq (pv 2) pe_int (nomark _)) (pss_one 
    (ps_ret (pe_op op_cat (pe_op op_cat (pe_slice (r := rSlL K) sl_list (pv 1) po_none (po_some (pv 3))) (pe_lst (pa_cons (pv 4) pa_nil))) (pe_slice (r := rSlL K) sl_list (pv 1) (po_some (pe_op op_add (pv 3) pe_int)) po_none)))) pss_nil) (pss_one 
  (ps_ret (pe_ifExp (pt_cmpR op_lt (pv 2) pe_int (nomark _)) (pe_callTy (T := "tuple") (r := rTupA) call_tupA (by rfl) nt (by decide +kernel) (pa_cons (pv 1) pa_nil)) (pcal GP hr pass0 (pa_cons (pv 0) (pa_cons (pe_lst (pa_cons pe_non (pa_cons pe_str (pa_cons pe_int pa_nil)))) pa_nil))))))))))))), ?_⟩
    have lh : l ≠ h := int_nh hh el
    refine ⟨_, rfl, h, q, 7, rfl, by decide, by decide, hh, fun wy H1 u0 u1 B1 h1 => ?_⟩
    have el1 := B1 _ _ lh el
    have fin : ∀ (H2 : Hp) (z : Addr) (xs : List V), Same H1 H2 → H1 z = none → (H2 z = some (.lst xs) ∨ H2 z = some (.tup xs)) → (∀ x ∈ xs, ItV H2 x) → Q (.ref z) H2 := fun H2 z xs S nz e it =>
      k H2 _ (B1.trans (But.same S)) (h1.keep S) (.inr ⟨z, xs, rfl, hand_free h1 nz, e, it⟩)
    refine ⟨_, rfl, rfl, _, rfl, ?_⟩
    by_cases c0 : wy = 0
    · refine if_tr (by rw [c0]; rfl) ?_
      refine ⟨_, rfl, _, rfl, l, _, rfl, .inl (SqL.of el1), _, _, rfl, rfl, _, rfl, by rw [List.length_map]; omega, by rw [List.length_map]; omega, fun D hD => ?_⟩
      refine lc_range (lo := 0) (n := (7 - (((ls.map V.int).length : Nat) : Int)).toNat) (fun i H' => ∃ es : List Int, H' D = some (.lst (es.map V.int)) ∧ es.length = i ∧ Same H1 H') ⟨[], upd_same, rfl, new_same hD⟩ ?_ ?_
      · rintro i H2 hi ⟨es, eD, le, S2⟩
        refine ⟨rfl, yesT ⟨_, rfl, (by show 1 ≤ sizeLine; decide), fun p hp => ⟨l, p, _, _, rfl, rfl, (new_same hp) _ _ (S2 _ _ el1), upd_same, by rw [List.length_map]; show ls.length + 1 ≤ sizeLine; exact Nat.le_of_lt (small1000 (by omega)), fun p2 hp2 => ?_⟩⟩⟩
        have S3 : Same H2 (upd H2 p (.lst [.int 0])) := new_same hp
        generalize upd H2 p (.lst [.int 0]) = H3 at S3 hp2
        have S4 : Same H3 (upd H3 p2 (.lst (ls.map V.int ++ [.int 0]))) := new_same hp2
        have e4 : (upd H3 p2 (.lst (ls.map V.int ++ [.int 0]))) p2 = some (.lst ((ls ++ [0]).map V.int)) := by rw [upd_same, List.map_append]; rfl
        generalize upd H3 p2 (.lst (ls.map V.int ++ [.int 0])) = H4 at S4 e4
        have S24 := S3.trans S4
        refine ⟨p2, ls ++ [0], rfl, SqL.of e4, by rw [List.length_append]; show 0 < _ + 1; omega, fun m _ _ => ⟨_, _, rfl, rfl, _, rfl, _, _, rfl, rfl, ?_⟩⟩
        have eD4 := S24 _ _ eD
        refine ⟨_, eD4, by rw [List.length_map]; exact small1000 (by omega), es ++ [m + 1 + (0 + (i : Nat))], by rw [upd_same, List.map_append]; rfl, by rw [List.length_append, le]; rfl, fun b o e => ?_⟩
        rw [upd_ne (ne_of_none e hD)]
        exact S24 _ _ (S2 _ _ e)
      · rintro H2 ⟨es, eD, le, S2⟩
        refine ⟨l, D, _, _, rfl, rfl, S2 _ _ el1, eD, by rw [List.length_map, List.length_map]; exact Nat.le_of_lt (small1000 (by omega)), fun p hp => ?_⟩
        refine fin _ p (ls.map V.int ++ es.map V.int) (S2.trans (new_same hp)) (S2.free hp) (.inl upd_same) fun x hx => ?_
        rw [← List.map_append] at hx
        exact ints_it x hx
    refine if_fa (decide_eq_false fun e => c0 (V.int.inj e)) ⟨_, rfl, rfl, _, rfl, ?_⟩
    by_cases c1 : wy = 1
    · refine if_tr (by rw [c1]; rfl) ⟨_, rfl, l, _, rfl, SqL.of el1, fun p hp => ?_⟩
      refine fin _ p _ (new_same hp) hp (.inl upd_same) fun x hx => ints_it x (List.mem_reverse.mp hx)
    refine if_fa (decide_eq_false fun e => c1 (V.int.inj e)) ⟨_, rfl, rfl, _, rfl, ?_⟩
    by_cases c2 : wy = 2
    · refine if_tr (by rw [c2]; rfl) ⟨_, rfl, _, rfl, 1, rfl, _, rfl, l, _, rfl, SqL.of el1, fun p hp => ?_⟩
      obtain ⟨ms, em, lm⟩ := cut_ints (ns := ls) (lo := some (-1)) (hi := none)
      rw [em]
      have S2 : Same H1 (upd H1 p (.lst (ms.map V.int))) := new_same hp
      have e2 : (upd H1 p (.lst (ms.map V.int))) p = some (.lst (ms.map V.int)) := upd_same
      generalize upd H1 p (.lst (ms.map V.int)) = H2 at S2 e2
      refine ⟨l, p, _, _, rfl, rfl, S2 _ _ el1, e2, by rw [List.length_map, List.length_map]; exact Nat.le_of_lt (small1000 (by omega)), fun p2 hp2 => ?_⟩
      have S3 : Same H2 (upd H2 p2 (.lst (ls.map V.int ++ ms.map V.int))) := new_same hp2
      refine ⟨p2, _, rfl, .inl upd_same, fun H4 z S4 ez => ?_⟩
      have S14 := (S2.trans S3).trans S4
      refine k H4 _ (B1.trans (But.same S14)) (h1.keep S14) (.inr ⟨z, _, rfl, fun e => ?_, .inr ez, fun x hx => ?_⟩)
      · obtain ⟨us, eh⟩ := hand_lst (h1.keep S14)
        rw [← e, ez] at eh
        cases eh
      · rw [← List.map_append] at hx
        exact ints_it x hx
    refine if_fa (decide_eq_false fun e => c2 (V.int.inj e)) ?_
    refine ⟨_, rfl, _, rfl, l, _, rfl, .inl (SqL.of el1), _, _, rfl, rfl, h, q, (ls.length : Nat) + 1, (by rw [List.length_map]; rfl), by omega, by omega, h1, fun at_ H2 a0 a1 B2 h2 => ?_⟩
    have el2 := B2 _ _ lh el1
    refine ⟨_, rfl, 1, rfl, _, _, rfl, rfl, ⟨by decide, by decide, by decide⟩, _, _, rfl, rfl, (by show 1 ≤ sizeLine; decide), fun z0 hz0 => ⟨(by show 6 ≤ sizeLine; decide), fun l0 hl0 => ?_⟩⟩
    have S3 : Same H2 (upd H2 z0 (.tup [.int 1])) := new_same hz0
    have e3 : (upd H2 z0 (.tup [.int 1])) z0 = some (.tup ([1].map V.int)) := upd_same
    generalize upd H2 z0 (.tup [.int 1]) = H3 at S3 e3 hl0
    refine ⟨h, q, l0, _, rfl, (h2.keep S3).new hl0, hand_free (h2.keep S3) hl0, upd_same, (by show 0 < 6; decide), (by show 6 ≤ 1000; decide), fun H4 y my B4 h4 => ?_⟩
    have z0h : z0 ≠ h := hand_free h2 hz0
    have ity : ItV H4 y := by
      simp only [List.mem_cons, List.not_mem_nil, or_false] at my
      rcases my with rfl | rfl | rfl | rfl | rfl | rfl
      · exact .inl rfl
      · exact .inl rfl
      · exact .inl rfl
      · exact .inl rfl
      · exact .inl rfl
      · exact .inr ⟨z0, [1], rfl, B4 _ _ z0h ((new_same hl0) _ _ e3)⟩
    have B34 : But h H2 H4 := ((But.same S3).trans (But.new hl0)).trans B4
    have el4 := B34 _ _ lh el2
    have B14 := B1.trans (B2.trans B34)
    refine ⟨_, rfl, rfl, _, rfl, ?_⟩
    by_cases c3 : wy = 3
    · refine if_tr (by rw [c3]; rfl) ?_
      refine ⟨_, rfl, _, rfl, _, rfl, l, _, rfl, SqL.of el4, fun p hp => ?_⟩
      obtain ⟨ms, em, lm⟩ := cut_ints (ns := ls) (lo := none) (hi := some at_)
      rw [em]
      have S5 : Same H4 (upd H4 p (.lst (ms.map V.int))) := new_same hp
      have e5 : (upd H4 p (.lst (ms.map V.int))) p = some (.lst (ms.map V.int)) := upd_same
      generalize upd H4 p (.lst (ms.map V.int)) = H5 at S5 e5
      refine ⟨_, rfl, (by show 1 ≤ sizeLine; decide), fun p2 hp2 => ?_⟩
      have S6 : Same H5 (upd H5 p2 (.lst [y])) := new_same hp2
      have e6 : (upd H5 p2 (.lst [y])) p2 = some (.lst [y]) := upd_same
      generalize upd H5 p2 (.lst [y]) = H6 at S6 e6
      refine ⟨p, p2, _, _, rfl, rfl, S6 _ _ e5, e6, by rw [List.length_map]; show ms.length + 1 ≤ sizeLine; exact Nat.le_of_lt (small1000 (by omega)), fun p3 hp3 => ?_⟩
      have S7 : Same H6 (upd H6 p3 (.lst (ms.map V.int ++ [y]))) := new_same hp3
      have e7 : (upd H6 p3 (.lst (ms.map V.int ++ [y]))) p3 = some (.lst (ms.map V.int ++ [y])) := upd_same
      generalize upd H6 p3 (.lst (ms.map V.int ++ [y])) = H7 at S7 e7
      have S47 := (S5.trans S6).trans S7
      refine ⟨_, rfl, _, rfl, _, _, rfl, rfl, _, rfl, l, _, rfl, SqL.of (S47 _ _ el4), fun p4 hp4 => ?_⟩
      obtain ⟨ms2, em2, lm2⟩ := cut_ints (ns := ls) (lo := some (at_ + 1)) (hi := none)
      rw [em2]
      have S8 : Same H7 (upd H7 p4 (.lst (ms2.map V.int))) := new_same hp4
      have e8 : (upd H7 p4 (.lst (ms2.map V.int))) p4 = some (.lst (ms2.map V.int)) := upd_same
      generalize upd H7 p4 (.lst (ms2.map V.int)) = H8 at S8 e8
      refine ⟨p3, p4, _, _, rfl, rfl, S8 _ _ e7, e8, by rw [List.length_append, List.length_map, List.length_map]; show ms.length + 1 + ms2.length ≤ sizeLine; exact Nat.le_of_lt (small1000 (by omega)), fun p5 hp5 => ?_⟩
      have S9 := new_same (o := .lst (ms.map V.int ++ [y] ++ ms2.map V.int)) hp5
      have S49 := (S47.trans S8).trans S9
      refine k _ _ (B14.trans (But.same S49)) (h4.keep S49) (.inr ⟨p5, _, rfl, hand_free (h4.keep (S47.trans S8)) hp5, .inl upd_same, fun x hx => ?_⟩)
      rcases List.mem_append.mp hx with hx | hx
      · rcases List.mem_append.mp hx with hx | hx
        · exact ints_it x hx
        · rw [List.mem_singleton.mp hx]
          exact ity.keep S49
      · exact ints_it x hx
    refine if_fa (decide_eq_false fun e => c3 (V.int.inj e)) ?_
    refine ⟨_, rfl, _, _, rfl, rfl, _, rfl, ?_⟩
    by_cases c6 : wy < 6
    · refine if_tr (decide_eq_true c6) ⟨_, rfl, l, _, rfl, .inl el4, fun H5 z S5 ez => ?_⟩
      refine k _ _ (B14.trans (But.same S5)) (h4.keep S5) (.inr ⟨z, _, rfl, fun e => ?_, .inr ez, ints_it⟩)
      obtain ⟨us, eh⟩ := hand_lst (h4.keep S5)
      rw [← e, ez] at eh
      cases eh
    · refine if_fa (decide_eq_false c6) ⟨_, rfl, (by show 3 ≤ sizeLine; decide), fun l5 hl5 => ?_⟩
      refine ⟨h, q, l5, _, rfl, h4.new hl5, hand_free h4 hl5, upd_same, (by show 0 < 3; decide), (by show 3 ≤ 1000; decide), fun H6 y6 my6 B6 h6' => ?_⟩
      refine k _ _ (B14.trans ((But.new hl5).trans B6)) h6' (.inl ?_)
      simp only [List.mem_cons, List.not_mem_nil, or_false] at my6
      rcases my6 with rfl | rfl | rfl <;> rfl
end
end J

set_option Elab.async false
set_option linter.all false
set_option maxRecDepth 100000
set_option maxHeartbeats 16000000
namespace J
open PySem PySem.Spec PyProof.Rows L2
/-- a row, also a spoilt one: a scalar, or a tuple of scalars -/
def RwT (H : Hp) (x : V) : Prop := isSc x = true ∨ ∃ (u : Addr) (ys : List V), x = .ref u ∧ H u = some (.tup ys) ∧ ∀ y ∈ ys, isSc y = true
theorem RwT.keep {H H' : Hp} {x : V} (h : RwT H x) (S : Same H H') : RwT H' x := h.imp id fun ⟨u, ys, e, q, k⟩ => ⟨u, ys, e, S _ _ q, k⟩
theorem RwT.but {H H' : Hp} {h q : Addr} {x : V} (c : RwT H x) (hh : Hand H h q) (B : But h H H') : RwT H' x := c.imp id fun ⟨u, ys, e, r, k⟩ => by
  obtain ⟨us, eh⟩ := hand_lst hh
  exact ⟨u, ys, e, B _ _ (fun c => by rw [c, eh] at r; cases r) r, k⟩
theorem sc_known {H : Hp} {ys : List V} (h : ∀ y ∈ ys, isSc y = true) : Known H ys := fun y hy => ⟨.sc y, sc_is (h y hy)⟩
theorem RwT.sh {H : Hp} : ∀ {xs : List V}, (∀ x ∈ xs, RwT H x) → ∃ ss, ShAll H xs ss
  | [], _ => ⟨[], .nil⟩
  | x :: xs, c => by
    obtain ⟨ss, a⟩ := RwT.sh (xs := xs) fun y hy => c y (List.mem_cons_of_mem _ hy)
    rcases c x List.mem_cons_self with h | ⟨u, ys, e, r, k⟩
    · exact ⟨.sc x :: ss, .cons ⟨sc_is h, fun y hy => by cases hy⟩ a⟩
    · exact ⟨.tup ys :: ss, .cons ⟨⟨u, e, r⟩, sc_known k⟩ a⟩
def RowsV (H : Hp) (y : V) : Prop := ∃ sv ss, Is H y sv ∧ ShAll H (items sv) ss ∧ ss.length ≤ 100
theorem seq_split {A B : TS} {D : Ends} {σ : L2.St} {H : Hp} (I : L2.St → Hp → Prop) (h1 : ∀ N : L2.St → Hp → Prop, (∀ σ H, I σ H → N σ H) → A { D with nx := N } σ H) (h2 : ∀ σ H, I σ H → B D σ H) : tSeq A B D σ H := h1 (B D) h2
theorem next_of {D : Ends} {σ : L2.St} {H : Hp} (h : D.nx σ H) : tNext D σ H := h
theorem seq_frame {A B : TS} {D : Ends} {σ : L2.St} {H : Hp} (h q : Addr) (h1 : ∀ N : L2.St → Hp → Prop, (∀ H', But h H H' → Hand H' h q → N σ H') → A { D with nx := N } σ H) (h2 : ∀ H', But h H H' → Hand H' h q → B D σ H') : tSeq A B D σ H := h1 (B D) h2
/-- xs[:i] + [x] + xs[j:] -/
theorem mid_rd {K : PySem.W.Frag} {h q r : Addr} {xs : List V} {t1 t2 : TO} {tx : TE} {σ : L2.St} {H : Hp} {Q : VK} (hh : Hand H h q) (rh : r ≠ h)
    (h3 : σ[3]? = some (some (.ref r))) (er : H r = some (.lst xs)) (lx : xs.length ≤ 45) (it : ∀ x ∈ xs, RwT H x)
    (ht1 : ∀ Q' : Option Int → Hp → Prop, (∀ i, Q' i H) → t1 σ H Q')
    (hx : ∀ H1, Same H H1 → ∀ Q' : VK, (∀ H2 e, But h H1 H2 → Hand H2 h q → RwT H2 e → Q' e H2) → tx σ H1 Q')
    (ht2 : ∀ (H2 : Hp) (Q' : Option Int → Hp → Prop), (∀ i, Q' i H2) → t2 σ H2 Q')
    (hk : ∀ H2 z ys, But h H H2 → Hand H2 h q → H2 z = some (.lst ys) → ys.length ≤ 100 → (∀ x ∈ ys, RwT H2 x) → Q (.ref z) H2) :
    tOp rCat (tOp rCat (tSl (rSlL K) (tVar 3) tNoPart t1) (tLst (tCons tx tNil))) (tSl (rSlL K) (tVar 3) t2 tNoPart) σ H Q := by
  refine ⟨_, h3, ht1 _ fun i => ⟨r, xs, rfl, SqL.of er, fun p hp => ?_⟩⟩
  have S1 : Same H (upd H p (.lst (cutV xs none i))) := new_same hp
  have e1 : (upd H p (.lst (cutV xs none i))) p = some (.lst (cutV xs none i)) := upd_same
  have ph : p ≠ h := hand_free hh hp
  generalize upd H p (.lst (cutV xs none i)) = H1 at S1 e1
  have hh1 := hh.keep S1
  refine hx H1 S1 _ fun H2 e B2 h2 re => ⟨(by show 1 ≤ sizeLine; decide), fun p2 hp2 => ?_⟩
  have S3 : Same H2 (upd H2 p2 (.lst [e])) := new_same hp2
  have e3 : (upd H2 p2 (.lst [e])) p2 = some (.lst [e]) := upd_same
  generalize upd H2 p2 (.lst [e]) = H3 at S3 e3
  have l1 := cut_len (xs := xs) (lo := none) (hi := i)
  refine ⟨p, p2, _, _, rfl, rfl, S3 _ _ (B2 _ _ ph e1), e3, by show _ + 1 ≤ sizeLine; exact Nat.le_of_lt (small1000 (by omega)), fun p3 hp3 => ?_⟩
  have S4 : Same H3 (upd H3 p3 (.lst (cutV xs none i ++ [e]))) := new_same hp3
  have e4 : (upd H3 p3 (.lst (cutV xs none i ++ [e]))) p3 = some (.lst (cutV xs none i ++ [e])) := upd_same
  generalize upd H3 p3 (.lst (cutV xs none i ++ [e])) = H4 at S4 e4
  have S24 := S3.trans S4
  refine ⟨_, h3, ht2 _ _ fun j => ⟨r, xs, rfl, SqL.of (S24 _ _ (B2 _ _ rh (S1 _ _ er))), fun p5 hp5 => ?_⟩⟩
  have S5 : Same H4 (upd H4 p5 (.lst (cutV xs j none))) := new_same hp5
  have e5 : (upd H4 p5 (.lst (cutV xs j none))) p5 = some (.lst (cutV xs j none)) := upd_same
  generalize upd H4 p5 (.lst (cutV xs j none)) = H5 at S5 e5
  have l2 := cut_len (xs := xs) (lo := j) (hi := none)
  refine ⟨p3, p5, _, _, rfl, rfl, S5 _ _ e4, e5, by rw [List.length_append]; show _ + 1 + _ ≤ sizeLine; exact Nat.le_of_lt (small1000 (by omega)), fun p6 hp6 => ?_⟩
  have S6 := new_same (o := .lst (cutV xs none i ++ [e] ++ cutV xs j none)) hp6
  have S26 := (S24.trans S5).trans S6
  refine hk _ p6 _ ((But.same S1).trans (B2.trans (But.same S26))) (h2.keep S26) upd_same (by rw [List.length_append, List.length_append]; show _ + 1 + _ ≤ 100; omega) fun x hx => ?_
  have old : ∀ x ∈ xs, RwT (upd H5 p6 (.lst (cutV xs none i ++ [e] ++ cutV xs j none))) x := fun x hx => (((it x hx).keep S1).but hh1 B2).keep S26
  rcases List.mem_append.mp hx with hx | hx
  · rcases List.mem_append.mp hx with hx | hx
    · exact old x (cut_mem hx)
    · rw [List.mem_singleton.mp hx]
      exact re.keep S26
  · exact old x (cut_mem hx)
theorem eqv_nil {R : List (List Int)} : PyData.eqv (.list (tupsD R)) (.list ([].map PyData.int)) = decide (R = []) := by
  cases R with
  | nil => simp [tupsD, PyData.eqv, PyData.eqvAll]
  | cons r R => simp [tupsD, PyData.eqv, PyData.eqvAll]
abbrev s_Lsr : Stmt := top 59
abbrev Nsr : List Str := ["_law_hand_here", "_law_world", "_law_labels_here", "_law_rows", "_law_way", "_law_at", "_law_many", "_law_low", "_law_odd", "_law_x", "_law_y", "_law_tie_here", "_law_k", "_law_row"]
theorem sc_Lsr : FnScope Nsr ["_law_hand_here", "_law_world", "_law_labels_here", "_law_rows"] (defScope s_Lsr) := ⟨rfl, rfl, rfl, by decide +kernel, rfl, by decide +kernel, by decide +kernel⟩
def spLSR : Sp := fun vs H Q _ => ∃ (h q x l r : Addr) (ns ls : List Int) (L R : List (List Int)), vs = [.ref h, .ref x, .ref l, .ref r] ∧ Hand H h q ∧ WAt H x ns L ∧ GoodB ns ∧ H l = some (.lst (ls.map V.int)) ∧ ls.length ≤ 6 ∧ LstsAt H r R ∧ R.length ≤ 45 ∧ (∀ y ∈ R, RowOk ns y) ∧ ∀ (H' : Hp) (y : V), But h H H' → Hand H' h q → RowsV H' y → Q y H'
section
variable {P : Program} {w : World} {K : PySem.W.Frag} {mg : Str → Option Value} {base : Heap}
theorem ok_Lsr {f fD fP : Addr} {fd fdD fdP : FuncData} (F : Fun K "_law_spoilt_rows" "_law_spoilt_rows" s_Lsr f fd) (nl : mg "len" = none) (nli : mg "list" = none) (nm : mg "max" = none) (nt : mg "tuple" = none) (GD : Cal P w K mg base CX0 2 "_law_draw" fD fdD ["_law_hand_here", "_law_many"] spDraw) (GP : Cal P w K mg base CX0 3 "_law_pick" fP fdP ["_law_hand_here", "_law_things"] spPick) :
    FnOk P w K mg base CX0 4 f fd ["_law_hand_here", "_law_world", "_law_labels_here", "_law_rows"] spLSR := by
  refine F.ok sc_Lsr (fun vs H Q E h => ?_) (fun cdv A outer s H vs Q E hr h => ?_)
  · obtain ⟨h, q, x, l, r, ns, ls, L, R, rfl, _⟩ := h
    rfl
  · obtain ⟨h, q, x, l, r, ns, ls, L, R, rfl, hh, hW, gb, el, h6, hR, l60, rok, k⟩ := h
    have h4 := gb.hi
    refine ⟨_, (pss_cons 
  (ps_set (i := 4) sc_Lsr.nd rfl (Or.inl rfl) (pcal GD hr pass0 (pa_cons (pv 0) (pa_cons pe_int pa_nil)))) (pss_cons 
  (ps_set (i := 5) sc_Lsr.nd rfl (Or.inl rfl) (pcal GD hr pass0 (pa_cons (pv 0) (pa_cons (pe_op op_add (pe_callB call_len_seq (by rfl) nl PySem.boot_len (pa_cons (pv 3) pa_nil)) pe_int) pa_nil)))) (pss_cons 
  (ps_set (i := 6) sc_Lsr.nd rfl (Or.inl rfl) (pe_callB call_len_seq (by rfl) nl PySem.boot_len (pa_cons (pe_ix (r := rIxT K) ix_tup (pv 1) pe_int (fun _ _ => rfl)) pa_nil))) (pss_cons 
  (ps_set (i := 7) sc_Lsr.nd rfl (Or.inl rfl) (pcal GP hr pass0 (pa_cons (pv 0) (pa_cons (pe_op op_cat (pv 2) (pe_lst (pa_cons pe_int pa_nil))) pa_nil)))) (pss_cons 
  (ps_if (pt_cmpR op_eq (pv 4) pe_int (nomark _)) (pss_cons 
    (ps_set (i := 8) sc_Lsr.nd rfl (Or.inl rfl) (pcal GP hr pass0 (pa_cons (pv 0) (pa_cons (pe_lst (pa_cons pe_non (pa_cons pe_str (pa_cons (pe_tup pa_nil) (pa_cons (pe_tup (pa_cons pe_int pa_nil)) (pa_cons pe_int (pa_cons (pe_tup (pa_cons pe_int (pa_cons pe_int (pa_cons pe_int (pa_cons pe_int pa_nil))))) pa_nil))))))) pa_nil)))) (pss_one 
    (ps_ret (pe_op op_cat (pe_op op_cat (pe_slice (r := rSlL K) sl_list (pv 3) po_none (po_some (pv 5))) (pe_lst (pa_cons (pv 8) pa_nil))) (pe_slice (r := rSlL K) sl_list (pv 3) (po_some (pv 5)) po_none))))) pss_nil) (pss_cons 
  (ps_if (pt_cmpR op_eq (pv 4) pe_int (nomark _)) (pss_cons 
    (ps_set (i := 8) sc_Lsr.nd rfl (Or.inl rfl) (pcal GP hr pass0 (pa_cons (pv 0) (pa_cons (pe_lst (pa_cons (pe_un un_neg pe_int) (pa_cons pe_bl (pa_cons pe_non (pa_cons pe_str (pa_cons (pe_op op_add (pe_op op_pow pe_int pe_int) pe_int) (pa_cons (pe_op op_add (pe_callB (id := "max") (r := rMax K) (cr_max rfl) (by rfl) nm (by decide +kernel) (pa_cons (pe_op op_cat (pv 2) (pe_lst (pa_cons pe_int pa_nil))) pa_nil)) pe_int) pa_nil))))))) pa_nil)))) (pss_one 
    (ps_ret (pe_op op_cat (pe_op op_cat (pe_slice (r := rSlL K) sl_list (pv 3) po_none (po_some (pv 5))) (pe_lst (pa_cons (pe_tup (pa_cons (pv 7) (pa_cons (pv 8) (pa_cons pe_int pa_nil)))) pa_nil))) (pe_slice (r := rSlL K) sl_list (pv 3) (po_some (pv 5)) po_none))))) pss_nil) (pss_cons 
  (ps_if (pt_cmpR op_eq (pv 4) pe_int (nomark _)) (pss_cons 
    (ps_set (i := 8) sc_Lsr.nd rfl (Or.inl rfl) (pcal GP hr pass0 (pa_cons (pv 0) (pa_cons (pe_lst (pa_cons (pe_un un_neg pe_int) (pa_cons pe_bl (pa_cons pe_non (pa_cons pe_str (pa_cons (pe_op op_add (pe_callB (id := "max") (r := rMax K) (cr_max rfl) (by rfl) nm (by decide +kernel) (pa_cons (pe_op op_cat (pv 2) (pe_lst (pa_cons pe_int pa_nil))) pa_nil)) pe_int) pa_nil)))))) pa_nil)))) (pss_one 
    (ps_ret (pe_op op_cat (pe_op op_cat (pe_slice (r := rSlL K) sl_list (pv 3) po_none (po_some (pv 5))) (pe_lst (pa_cons (pe_tup (pa_cons (pv 8) (pa_cons (pv 7) (pa_cons (pv 6) pa_nil)))) pa_nil))) (pe_slice (r := rSlL K) sl_list (pv 3) (po_some (pv 5)) po_none))))) pss_nil) (pss_cons 
  (ps_if (pt_cmpR op_eq (pv 4) pe_int (nomark _)) (pss_one 
    (ps_ret (pe_op op_cat (pe_op op_cat (pe_slice (r := rSlL K) sl_list (pv 3) po_none (po_some (pv 5))) (pe_lst (pa_cons (pe_tup (pa_cons (pv 7) (pa_cons (pv 7) (pa_cons (pv 6) pa_nil)))) pa_nil))) (pe_slice (r := rSlL K) sl_list (pv 3) (po_some (pv 5)) po_none)))) pss_nil) (pss_cons 
  (ps_if (PW.pt (pw_and (pt_cmpR op_eq (pv 4) pe_int (nomark _)) (pw_and1 (pt_cmpR (r := rNeD K) (op_neD hr.units) (pv 3) (pe_lst pa_nil) (nomark _))))) (pss_cons 
    (ps_asg (pcal GP hr pass0 (pa_cons (pv 0) (pa_cons (pv 3) pa_nil))) (pg_tup (by rfl) (pgs_cons (pg_name (i := 9) sc_Lsr.nd rfl (Or.inl rfl)) (pgs_cons (pg_name (i := 10) sc_Lsr.nd rfl (Or.inl rfl)) (pgs_cons (pg_name (i := 11) sc_Lsr.nd rfl (Or.inl rfl)) pgs_nil))))) (pss_one 
    (ps_ret (pe_op op_cat (pe_op op_cat (pe_slice (r := rSlL K) sl_list (pv 3) po_none (po_some (pv 5))) (pe_lst (pa_cons (pe_tup (pa_cons (pv 10) (pa_cons (pv 9) (pa_cons (pcal GP hr pass0 (pa_cons (pv 0) (pa_cons (pe_lst (pa_cons pe_int (pa_cons (pe_ix (r := rIxL K) ix_list (pe_ix (r := rIxT K) ix_tup (pv 1) pe_int (fun _ _ => rfl)) (pv 11) (fun _ _ => rfl)) pa_nil))) pa_nil))) pa_nil)))) pa_nil))) (pe_slice (r := rSlL K) sl_list (pv 3) (po_some (pv 5)) po_none))))) pss_nil) (pss_cons 
  (ps_if (PW.pt (pw_and (pt_cmpR op_eq (pv 4) pe_int (nomark _)) (pw_and1 (pt_cmpR (r := rNeD K) (op_neD hr.units) (pv 3) (pe_lst pa_nil) (nomark _))))) (pss_cons 
    (ps_set (i := 12) sc_Lsr.nd rfl (Or.inl rfl) (pcal GD hr pass0 (pa_cons (pv 0) (pa_cons (pe_callB call_len_seq (by rfl) nl PySem.boot_len (pa_cons (pv 3) pa_nil)) pa_nil)))) (pss_cons 
    (ps_set (i := 8) sc_Lsr.nd rfl (Or.inl rfl) (pcal GP hr pass0 (pa_cons (pv 0) (pa_cons (pe_lst (pa_cons (pv 6) (pa_cons (pe_un un_neg pe_int) (pa_cons pe_bl (pa_cons pe_non (pa_cons pe_str pa_nil)))))) pa_nil)))) (pss_one 
    (ps_ret (pe_op op_cat (pe_op op_cat (pe_slice (r := rSlL K) sl_list (pv 3) po_none (po_some (pv 12))) (pe_lst (pa_cons (pe_op op_catN (pe_slice (r := rSlN K) sl_N (pe_ix (r := rIxL K) ix_list (pv 3) (pv 12) (fun _ _ => rfl)) po_none (po_some pe_int)) (pe_tup (pa_cons (pv 8) pa_nil))) pa_nil))) (pe_slice (r := rSlL K) sl_list (pv 3) (po_some (pe_op op_add (pv 12) pe_int)) po_none)))))) pss_nil) (pss_cons 
  (ps_if (pt_cmpR op_eq (pv 4) pe_int (nomark _)) (pss_one 
    (ps_ret (pcal GP hr pass0 (pa_cons (pv 0) (pa_cons (pe_lst (pa_cons pe_non (pa_cons pe_str (pa_cons pe_int pa_nil)))) pa_nil))))) pss_nil) (pss_one 
  (ps_ret (pe_callTy (T := "tuple") (r := rTupA) call_tupA (by rfl) nt (by decide +kernel) (pa_cons (pe_lc (own := [("_law_row", 13)]) (g := gName 13) (by rfl) sc_Lsr.nd (pi_list (pv 3)) (blkOk_by (own := [("_law_row", 13)]) (N := Nsr) (sc := defScope s_Lsr) (by decide +kernel)) (fun _ _ _ _ _ => pg_name (i := 13) sc_Lsr.nd rfl (Or.inl rfl)) (fun _ _ _ _ _ => pts_nil) (fun _ _ _ _ _ => (pe_callTy (T := "list") (r := rLst K) call_list_of (by rfl) nli (by decide +kernel) (pa_cons (pv 13) pa_nil)))) pa_nil))))))))))))))), ?_⟩
    obtain ⟨b, zz, po, ro, w1, w2, w345⟩ := id hW
    obtain ⟨ps, er, lps, tup⟩ := id hR
    have lh : l ≠ h := int_nh hh el
    have bh : b ≠ h := int_nh hh w2
    have rh : r ≠ h := ref_nh hh er
    have xh : x ≠ h := fun e => by
      obtain ⟨us, eh⟩ := hand_lst hh
      rw [e, eh] at w1
      cases w1
    have it0 : ∀ v ∈ ps.map V.ref, RwT H v := fun v hv => by
      obtain ⟨p, hp, rfl⟩ := List.mem_map.mp hv
      obtain ⟨j, hj⟩ := List.mem_iff_getElem?.mp hp
      have lj := (List.getElem?_eq_some_iff.mp hj).1
      have et := List.getElem?_eq_getElem (l := R) (i := j) (by omega)
      exact .inr ⟨p, _, rfl, tup j p _ hj et, fun y hy => by obtain ⟨n, _, rfl⟩ := List.mem_map.mp hy; rfl⟩
    have lpm : (ps.map V.ref).length ≤ 45 := by rw [List.length_map]; omega
    refine ⟨_, rfl, h, q, 9, rfl, by decide, by decide, hh, fun wy H1 u0 u1 B1 h1 => ?_⟩
    refine ⟨_, rfl, _, rfl, r, _, rfl, .inl (SqL.of (B1 _ _ rh er)), _, _, rfl, rfl, h, q, ((ps.map V.ref).length : Nat) + 1, rfl, by omega, by omega, h1, fun at_ H2 a0 a1 B2 h2 => ?_⟩
    have B02 := B1.trans B2
    refine ⟨_, rfl, _, _, _, _, rfl, rfl, SqT.of (B02 _ _ xh w1), at_of (j := 0) (v := .ref b) rfl rfl, b, _, rfl, .inl (SqL.of (B02 _ _ bh w2)), ?_⟩
    refine ⟨_, rfl, _, rfl, (by show 1 ≤ sizeLine; decide), fun p hp => ⟨l, p, _, _, rfl, rfl, (new_same hp) _ _ (B02 _ _ lh el), upd_same, by rw [List.length_map]; show ls.length + 1 ≤ sizeLine; exact Nat.le_of_lt (small1000 (by omega)), fun p2 hp2 => ?_⟩⟩
    have S3 : Same H2 (upd H2 p (.lst [.int 0])) := new_same hp
    generalize upd H2 p (.lst [.int 0]) = H3 at S3 hp2
    have S4 : Same H3 (upd H3 p2 (.lst (ls.map V.int ++ [.int 0]))) := new_same hp2
    have e4 : (upd H3 p2 (.lst (ls.map V.int ++ [.int 0]))) p2 = some (.lst ((ls ++ [0]).map V.int)) := by rw [upd_same, List.map_append]; rfl
    generalize upd H3 p2 (.lst (ls.map V.int ++ [.int 0])) = H4 at S4 e4
    have S24 := S3.trans S4
    refine ⟨h, q, p2, _, rfl, h2.keep S24, int_nh (h2.keep S24) e4, e4, by rw [List.length_map, List.length_append]; show 0 < _ + 1; omega, by rw [List.length_map, List.length_append]; show _ + 1 ≤ 1000; omega, fun H5 low ml B5 h5 => ?_⟩
    obtain ⟨lo, _, rfl⟩ := List.mem_map.mp ml
    have B05 : But h H H5 := B02.trans ((But.same S24).trans B5)
    clear B1 h1 B2 h2 S3 S4 S24 e4 hp hp2
    have el5 := B05 _ _ lh el
    have er5 := B05 _ _ rh er
    have w15 := B05 _ _ xh w1
    have w25 := B05 _ _ bh w2
    have it5 : ∀ v ∈ ps.map V.ref, RwT H5 v := fun v hv => (it0 v hv).but hh B05
    have tup5 : ∀ (j : Nat) (a : Addr) (ts : List Int), ps[j]? = some a → R[j]? = some ts → H5 a = some (.tup (ts.map V.int)) := fun j a ts e1 e2 => by
      obtain ⟨us, eh⟩ := hand_lst hh
      have := tup j a ts e1 e2
      exact B05 _ _ (fun c => by rw [c, eh] at this; cases this) this
    have fin : ∀ (H2 : Hp) (z : Addr) (ys : List V), But h H5 H2 → Hand H2 h q → H2 z = some (.lst ys) → ys.length ≤ 100 → (∀ x ∈ ys, RwT H2 x) → Q (.ref z) H2 := fun H2 z ys B hh2 ez ly itz => by
      obtain ⟨ss, sa⟩ := RwT.sh itz
      exact k H2 _ (B05.trans B) hh2 ⟨.lst ys, ss, ⟨z, rfl, ez⟩, sa, by rw [← ShAll.len sa]; exact ly⟩
    have sc3 : ∀ {a b c : V}, isSc a = true → isSc b = true → isSc c = true → ∀ y ∈ [a, b, c], isSc y = true := fun ha hb hc y hy => by
      simp only [List.mem_cons, List.not_mem_nil, or_false] at hy
      rcases hy with rfl | rfl | rfl
      · exact ha
      · exact hb
      · exact hc
    -- 0
    refine ⟨_, rfl, rfl, _, rfl, ?_⟩
    by_cases c0 : wy = 0
    · refine if_tr (by rw [c0]; rfl) ?_
      refine ⟨_, rfl, (by show 0 ≤ sizeLine; decide), fun z1 hz1 => ⟨(by show 1 ≤ sizeLine; decide), fun z2 hz2 => ⟨(by show 4 ≤ sizeLine; decide), fun z3 hz3 => ⟨(by show 6 ≤ sizeLine; decide), fun l0 hl0 => ?_⟩⟩⟩⟩
      have S1 : Same H5 (upd H5 z1 (.tup [])) := new_same hz1
      have e1 : (upd H5 z1 (.tup [])) z1 = some (.tup []) := upd_same
      generalize upd H5 z1 (.tup []) = T1 at S1 e1 hz2 hz3 hl0
      have S2 : Same T1 (upd T1 z2 (.tup [.int 0])) := new_same hz2
      have e2 : (upd T1 z2 (.tup [.int 0])) z2 = some (.tup [.int 0]) := upd_same
      generalize upd T1 z2 (.tup [.int 0]) = T2 at S2 e2 hz3 hl0
      have S3 : Same T2 (upd T2 z3 (.tup [.int 0, .int 1, .int 0, .int 1])) := new_same hz3
      have e3 : (upd T2 z3 (.tup [.int 0, .int 1, .int 0, .int 1])) z3 = some (.tup [.int 0, .int 1, .int 0, .int 1]) := upd_same
      generalize upd T2 z3 (.tup [.int 0, .int 1, .int 0, .int 1]) = T3 at S3 e3 hl0
      have S13 := (S1.trans S2).trans S3
      have S4 := new_same (o := .lst [.non, .str "abc", .ref z1, .ref z2, .int 7, .ref z3]) hl0
      have hT := (h5.keep S13).keep S4
      refine ⟨h, q, l0, _, rfl, hT, hand_free (h5.keep S13) hl0, upd_same, (by show 0 < 6; decide), (by show 6 ≤ 1000; decide), fun H6 od mod B6 h6 => ?_⟩
      have rod : RwT H6 od := by
        refine RwT.but ?_ hT B6
        simp only [List.mem_cons, List.not_mem_nil, or_false] at mod
        rcases mod with rfl | rfl | rfl | rfl | rfl | rfl
        · exact .inl rfl
        · exact .inl rfl
        · exact .inr ⟨z1, _, rfl, ((S2.trans S3).trans S4) _ _ e1, fun y hy => by cases hy⟩
        · exact .inr ⟨z2, _, rfl, (S3.trans S4) _ _ e2, fun y hy => by rw [List.mem_singleton.mp hy]; rfl⟩
        · exact .inl rfl
        · exact .inr ⟨z3, _, rfl, S4 _ _ e3, fun y hy => by
            simp only [List.mem_cons, List.not_mem_nil, or_false] at hy
            rcases hy with rfl | rfl | rfl | rfl <;> rfl⟩
      have B56 : But h H5 H6 := (But.same (S13.trans S4)).trans B6
      exact mid_rd (h := h) (q := q) h6 rh rfl (B56 _ _ rh er5) lpm (fun v hv => (it5 v hv).but h5 B56) (fun Q' g => ⟨_, rfl, _, rfl, g _⟩) (fun H7 S7 Q' g => ⟨_, rfl, g H7 od (But.refl _ _) (h6.keep S7) (rod.keep S7)⟩) (fun H7 Q' g => ⟨_, rfl, _, rfl, g _⟩) fun H7 z ys B hh7 ez ly itz => fin H7 z ys (B56.trans B) hh7 ez ly itz
    refine if_fa (decide_eq_false fun e => c0 (V.int.inj e)) ⟨_, rfl, rfl, _, rfl, ?_⟩
    -- 1
    by_cases c1 : wy = 1
    · refine if_tr (by rw [c1]; rfl) ?_
      refine ⟨_, rfl, 1, rfl, _, _, rfl, rfl, ⟨by decide, by decide, by decide⟩, _, _, rfl, rfl, _, rfl, (by show 1 ≤ sizeLine; decide), fun p hp => ⟨l, p, _, _, rfl, rfl, (new_same hp) _ _ el5, upd_same, by rw [List.length_map]; show ls.length + 1 ≤ sizeLine; exact Nat.le_of_lt (small1000 (by omega)), fun p2 hp2 => ?_⟩⟩
      have S1 : Same H5 (upd H5 p (.lst [.int 0])) := new_same hp
      generalize upd H5 p (.lst [.int 0]) = T1 at S1 hp2
      have S2 : Same T1 (upd T1 p2 (.lst (ls.map V.int ++ [.int 0]))) := new_same hp2
      have e2 : (upd T1 p2 (.lst (ls.map V.int ++ [.int 0]))) p2 = some (.lst ((ls ++ [0]).map V.int)) := by rw [upd_same, List.map_append]; rfl
      generalize upd T1 p2 (.lst (ls.map V.int ++ [.int 0])) = T2 at S2 e2
      have S12 := S1.trans S2
      refine ⟨p2, ls ++ [0], rfl, SqL.of e2, by rw [List.length_append]; show 0 < _ + 1; omega, fun mx _ _ => ⟨_, _, rfl, rfl, (by show 6 ≤ sizeLine; decide), fun l0 hl0 => ?_⟩⟩
      have S4 := new_same (o := .lst [.int (-1), .bl true, .non, .str "0", .int (10 ^ (9 : Int).toNat + 1), .int (mx + 1)]) hl0
      have hT := (h5.keep S12).keep S4
      refine ⟨h, q, l0, _, rfl, hT, hand_free (h5.keep S12) hl0, upd_same, (by show 0 < 6; decide), (by show 6 ≤ 1000; decide), fun H6 od mod B6 h6 => ?_⟩
      have sod : isSc od = true := by
        simp only [List.mem_cons, List.not_mem_nil, or_false] at mod
        rcases mod with rfl | rfl | rfl | rfl | rfl | rfl <;> rfl
      have B56 : But h H5 H6 := (But.same (S12.trans S4)).trans B6
      exact mid_rd (h := h) (q := q) h6 rh rfl (B56 _ _ rh er5) lpm (fun v hv => (it5 v hv).but h5 B56) (fun Q' g => ⟨_, rfl, _, rfl, g _⟩) (fun H7 S7 Q' g => ⟨_, rfl, _, rfl, (by show 3 ≤ sizeLine; decide), fun z hz => g _ (.ref z) (But.new hz) ((h6.keep S7).new hz) (.inr ⟨z, _, rfl, upd_same, sc3 rfl sod rfl⟩)⟩) (fun H7 Q' g => ⟨_, rfl, _, rfl, g _⟩) fun H7 z ys B hh7 ez ly itz => fin H7 z ys (B56.trans B) hh7 ez ly itz
    refine if_fa (decide_eq_false fun e => c1 (V.int.inj e)) ⟨_, rfl, rfl, _, rfl, ?_⟩
    -- 2
    by_cases c2 : wy = 2
    · refine if_tr (by rw [c2]; rfl) ?_
      refine ⟨_, rfl, 1, rfl, _, rfl, (by show 1 ≤ sizeLine; decide), fun p hp => ⟨l, p, _, _, rfl, rfl, (new_same hp) _ _ el5, upd_same, by rw [List.length_map]; show ls.length + 1 ≤ sizeLine; exact Nat.le_of_lt (small1000 (by omega)), fun p2 hp2 => ?_⟩⟩
      have S1 : Same H5 (upd H5 p (.lst [.int 0])) := new_same hp
      generalize upd H5 p (.lst [.int 0]) = T1 at S1 hp2
      have S2 : Same T1 (upd T1 p2 (.lst (ls.map V.int ++ [.int 0]))) := new_same hp2
      have e2 : (upd T1 p2 (.lst (ls.map V.int ++ [.int 0]))) p2 = some (.lst ((ls ++ [0]).map V.int)) := by rw [upd_same, List.map_append]; rfl
      generalize upd T1 p2 (.lst (ls.map V.int ++ [.int 0])) = T2 at S2 e2
      have S12 := S1.trans S2
      refine ⟨p2, ls ++ [0], rfl, SqL.of e2, by rw [List.length_append]; show 0 < _ + 1; omega, fun mx _ _ => ⟨_, _, rfl, rfl, (by show 5 ≤ sizeLine; decide), fun l0 hl0 => ?_⟩⟩
      have S4 := new_same (o := .lst [.int (-1), .bl false, .non, .str "0", .int (mx + 1)]) hl0
      have hT := (h5.keep S12).keep S4
      refine ⟨h, q, l0, _, rfl, hT, hand_free (h5.keep S12) hl0, upd_same, (by show 0 < 5; decide), (by show 5 ≤ 1000; decide), fun H6 od mod B6 h6 => ?_⟩
      have sod : isSc od = true := by
        simp only [List.mem_cons, List.not_mem_nil, or_false] at mod
        rcases mod with rfl | rfl | rfl | rfl | rfl <;> rfl
      have B56 : But h H5 H6 := (But.same (S12.trans S4)).trans B6
      exact mid_rd (h := h) (q := q) h6 rh rfl (B56 _ _ rh er5) lpm (fun v hv => (it5 v hv).but h5 B56) (fun Q' g => ⟨_, rfl, _, rfl, g _⟩) (fun H7 S7 Q' g => ⟨_, rfl, _, rfl, _, rfl, (by show 3 ≤ sizeLine; decide), fun z hz => g _ (.ref z) (But.new hz) ((h6.keep S7).new hz) (.inr ⟨z, _, rfl, upd_same, sc3 sod rfl rfl⟩)⟩) (fun H7 Q' g => ⟨_, rfl, _, rfl, g _⟩) fun H7 z ys B hh7 ez ly itz => fin H7 z ys (B56.trans B) hh7 ez ly itz
    refine if_fa (decide_eq_false fun e => c2 (V.int.inj e)) ⟨_, rfl, rfl, _, rfl, ?_⟩
    -- 3
    by_cases c3 : wy = 3
    · refine if_tr (by rw [c3]; rfl) ?_
      exact mid_rd (h := h) (q := q) h5 rh rfl er5 lpm it5 (fun Q' g => ⟨_, rfl, _, rfl, g _⟩) (fun H7 S7 Q' g => ⟨_, rfl, _, rfl, _, rfl, (by show 3 ≤ sizeLine; decide), fun z hz => g _ (.ref z) (But.new hz) ((h5.keep S7).new hz) (.inr ⟨z, _, rfl, upd_same, sc3 rfl rfl rfl⟩)⟩) (fun H7 Q' g => ⟨_, rfl, _, rfl, g _⟩) fun H7 z ys B hh7 ez ly itz => fin H7 z ys B hh7 ez ly itz
    refine if_fa (decide_eq_false fun e => c3 (V.int.inj e)) (next_of ?_)
    dsimp only
    have rne : R ≠ [] → 0 < (ps.map V.ref).length := fun e => by
      rw [List.length_map, lps]
      exact List.length_pos_iff.mpr e
    -- 4
    refine seq_frame (A := tIfS _ _ _) h q (fun N g => ?_) ?_
    · refine ⟨_, rfl, rfl, _, rfl, ?_⟩
      by_cases c4 : wy = 4
      case neg => exact if_fa (decide_eq_false fun e => c4 (V.int.inj e)) (g _ (But.refl _ _) h5)
      refine if_tr (by rw [c4]; rfl) ⟨_, rfl, (by show 0 ≤ sizeLine; decide), fun e0 he0 => ?_⟩
      have S1 : Same H5 (upd H5 e0 (.lst [])) := new_same he0
      have e1 : (upd H5 e0 (.lst [])) e0 = some (.lst ([].map V.int)) := upd_same
      generalize upd H5 e0 (.lst []) = H6 at S1 e1
      have R6 : LstsAt H6 r R := ⟨ps, S1 _ _ er5, lps, fun j a ts q1 q2 => S1 _ _ (tup5 j a ts q1 q2)⟩
      refine ⟨_, _, R6.data.1, .lst (SqL.of e1) (dp_ints []), shaped_tupsD R, shaped_li [], _, rfl, ?_⟩
      rw [eqv_nil]
      by_cases cR : R = []
      case pos => exact if_fa (by rw [decide_eq_true cR]; rfl) (g _ (But.same S1) (h5.keep S1))
      refine if_tr (by rw [decide_eq_false cR]; rfl) ?_
      have h6 := h5.keep S1
      refine ⟨_, rfl, _, rfl, h, q, r, _, rfl, h6, rh, S1 _ _ er5, rne cR, by omega, fun H7 y my B7 h7 => ?_⟩
      obtain ⟨u, mu, rfl⟩ := List.mem_map.mp my
      obtain ⟨j, hj⟩ := List.mem_iff_getElem?.mp mu
      have lj := (List.getElem?_eq_some_iff.mp hj).1
      have et := List.getElem?_eq_getElem (l := R) (i := j) (by omega)
      generalize R[j]'(by omega) = row at et
      obtain ⟨a, c, t, rfl, it⟩ := rok row (List.mem_of_getElem? et)
      have B57 : But h H5 H7 := (But.same S1).trans B7
      have hu : H7 u = some (.tup [.int a, .int c, .int t]) := by
        have := tup5 j u _ hj et
        obtain ⟨us, eh⟩ := hand_lst h5
        exact B57 _ _ (fun e => by rw [e, eh] at this; cases this) this
      refine ⟨u, _, rfl, SqT.of hu, rfl, _, _, rfl, _, _, rfl, _, _, rfl, rfl, ?_⟩
      refine mid_rd (h := h) (q := q) h7 rh rfl (B57 _ _ rh er5) lpm (fun v hv => (it5 v hv).but h5 B57) (fun Q' g => ⟨_, rfl, _, rfl, g _⟩) (fun H8 S8 Q' g => ?_) (fun H7 Q' g => ⟨_, rfl, _, rfl, g _⟩) fun H8 z ys B hh8 ez ly itz => fin H8 z ys (B57.trans B) hh8 ez ly itz
      have B58 := B57.trans (But.same S8)
      have h8 := h7.keep S8
      refine ⟨_, rfl, _, rfl, _, rfl, _, rfl, _, _, _, _, rfl, rfl, SqT.of (B58 _ _ xh w15), at_of (j := 0) (v := .ref b) rfl rfl, _, rfl, _, _, _, _, rfl, rfl, SqL.of (B58 _ _ bh w25), at_of (j := t.toNat) (v := .int (bk ns t)) (by have := it.1; omega) (by rw [List.getElem?_map, bk_get it]; rfl), (by show 2 ≤ sizeLine; decide), fun l7 hl7 => ?_⟩
      refine ⟨h, q, l7, _, rfl, h8.new hl7, hand_free h8 hl7, upd_same, (by show 0 < 2; decide), (by show 2 ≤ 1000; decide), fun H9 y9 my9 B9 h9 => ⟨(by show 3 ≤ sizeLine; decide), fun z hz => ?_⟩⟩
      have sy : isSc y9 = true := by
        simp only [List.mem_cons, List.not_mem_nil, or_false] at my9
        rcases my9 with rfl | rfl <;> rfl
      exact g _ (.ref z) ((But.new hl7).trans (B9.trans (But.new hz))) (h9.new hz) (.inr ⟨z, _, rfl, upd_same, sc3 rfl rfl sy⟩)
    intro H6 B56 h6
    have er6 := B56 _ _ rh er5
    have it6 : ∀ v ∈ ps.map V.ref, RwT H6 v := fun v hv => (it5 v hv).but h5 B56
    have tup6 : ∀ (j : Nat) (a : Addr) (ts : List Int), ps[j]? = some a → R[j]? = some ts → H6 a = some (.tup (ts.map V.int)) := fun j a ts e1 e2 => by
      obtain ⟨us, eh⟩ := hand_lst h5
      have := tup5 j a ts e1 e2
      exact B56 _ _ (fun c => by rw [c, eh] at this; cases this) this
    have fin6 : ∀ (H2 : Hp) (z : Addr) (ys : List V), But h H6 H2 → Hand H2 h q → H2 z = some (.lst ys) → ys.length ≤ 100 → (∀ x ∈ ys, RwT H2 x) → Q (.ref z) H2 := fun H2 z ys B => fin H2 z ys (B56.trans B)
    have B06 := B05.trans B56
    -- 5
    refine seq_frame (A := tIfS _ _ _) h q (fun N g => ?_) ?_
    · refine ⟨_, rfl, rfl, _, rfl, ?_⟩
      by_cases c5 : wy = 5
      case neg => exact if_fa (decide_eq_false fun e => c5 (V.int.inj e)) (g _ (But.refl _ _) h6)
      refine if_tr (by rw [c5]; rfl) ⟨_, rfl, (by show 0 ≤ sizeLine; decide), fun e0 he0 => ?_⟩
      have S1 : Same H6 (upd H6 e0 (.lst [])) := new_same he0
      have e1 : (upd H6 e0 (.lst [])) e0 = some (.lst ([].map V.int)) := upd_same
      generalize upd H6 e0 (.lst []) = H7 at S1 e1
      have R7 : LstsAt H7 r R := ⟨ps, S1 _ _ er6, lps, fun j a ts q1 q2 => S1 _ _ (tup6 j a ts q1 q2)⟩
      refine ⟨_, _, R7.data.1, .lst (SqL.of e1) (dp_ints []), shaped_tupsD R, shaped_li [], _, rfl, ?_⟩
      rw [eqv_nil]
      by_cases cR : R = []
      case pos => exact if_fa (by rw [decide_eq_true cR]; rfl) (g _ (But.same S1) (h6.keep S1))
      refine if_tr (by rw [decide_eq_false cR]; rfl) ?_
      have h7 := h6.keep S1
      refine ⟨_, rfl, _, rfl, r, _, rfl, .inl (SqL.of (S1 _ _ er6)), h, q, ((ps.map V.ref).length : Nat), rfl, by have := rne cR; omega, by omega, h7, fun kk H8 k0 k1 B8 h8 => ?_⟩
      have B68 : But h H6 H8 := (But.same S1).trans B8
      refine ⟨_, rfl, _, rfl, 1, rfl, (by show 5 ≤ sizeLine; decide), fun l0 hl0 => ?_⟩
      refine ⟨h, q, l0, _, rfl, h8.new hl0, hand_free h8 hl0, upd_same, (by show 0 < 5; decide), (by show 5 ≤ 1000; decide), fun H9 od mod B9 h9 => ?_⟩
      have sod : isSc od = true := by
        simp only [List.mem_cons, List.not_mem_nil, or_false] at mod
        rcases mod with rfl | rfl | rfl | rfl | rfl <;> rfl
      have B69 : But h H6 H9 := B68.trans ((But.new hl0).trans B9)
      refine mid_rd (h := h) (q := q) h9 rh rfl (B69 _ _ rh er6) lpm (fun v hv => (it6 v hv).but h6 B69) (fun Q' g => ⟨_, rfl, _, rfl, g _⟩) (fun H10 S10 Q' g => ?_) (fun H10 Q' g => ⟨_, rfl, _, _, rfl, rfl, _, rfl, g _⟩) fun H10 z ys B hh10 ez ly itz => fin6 H10 z ys (B69.trans B) hh10 ez ly itz
      have kn : kk.toNat < ps.length := by rw [List.length_map] at k1; omega
      have ek := List.getElem?_eq_getElem kn
      generalize ps[kk.toNat] = u at ek
      have et := List.getElem?_eq_getElem (l := R) (i := kk.toNat) (by omega)
      generalize R[kk.toNat]'(by omega) = row at et
      obtain ⟨a, c, t, rfl, it⟩ := rok row (List.mem_of_getElem? et)
      have hu : H10 u = some (.tup [.int a, .int c, .int t]) := by
        have := tup6 _ u _ ek et
        obtain ⟨us, eh⟩ := hand_lst h6
        exact S10 _ _ (B69 _ _ (fun e => by rw [e, eh] at this; cases this) this)
      refine ⟨_, rfl, _, rfl, _, _, _, _, rfl, rfl, SqL.of (S10 _ _ (B69 _ _ rh er6)), at_of (j := kk.toNat) (v := .ref u) (by omega) (by rw [List.getElem?_map, ek]; rfl), _, rfl, u, _, rfl, .inr hu, fun H11 p11 S11 h11 => ⟨_, rfl, (by show 1 ≤ sizeLine; decide), fun z hz => ?_⟩⟩
      have e11 : H11 p11 = some (.tup [.int a, .int c]) := by
        rcases h11 with ⟨e, _⟩ | ⟨_, e⟩
        · rw [hu] at e; cases e
        · exact e
      refine ⟨p11, z, _, _, rfl, rfl, (new_same hz) _ _ e11, upd_same, (by show 3 ≤ 1000; decide), fun H12 z12 S12 e12 => ?_⟩
      have S1012 := (S11.trans (new_same hz)).trans S12
      exact g _ (.ref z12) (But.same S1012) ((h9.keep S10).keep S1012) (.inr ⟨z12, _, rfl, e12, sc3 rfl rfl sod⟩)
    intro H7 B67 h7
    have er7 := B67 _ _ rh er6
    have B07 := B06.trans B67
    have tup7 : ∀ (j : Nat) (a : Addr) (ts : List Int), ps[j]? = some a → R[j]? = some ts → H7 a = some (.tup (ts.map V.int)) := fun j a ts e1 e2 => by
      obtain ⟨us, eh⟩ := hand_lst h6
      have := tup6 j a ts e1 e2
      exact B67 _ _ (fun c => by rw [c, eh] at this; cases this) this
    -- 6
    refine ⟨_, rfl, rfl, _, rfl, ?_⟩
    by_cases c6 : wy = 6
    · refine if_tr (by rw [c6]; rfl) ⟨_, rfl, (by show 3 ≤ sizeLine; decide), fun l0 hl0 => ?_⟩
      refine ⟨h, q, l0, _, rfl, h7.new hl0, hand_free h7 hl0, upd_same, (by show 0 < 3; decide), (by show 3 ≤ 1000; decide), fun H8 y my B8 h8 => ?_⟩
      refine k _ _ (B07.trans ((But.new hl0).trans B8)) h8 ⟨.sc y, [], sc_is ?_, .nil, by decide⟩
      simp only [List.mem_cons, List.not_mem_nil, or_false] at my
      rcases my with rfl | rfl | rfl <;> rfl
    refine if_fa (decide_eq_false fun e => c6 (V.int.inj e)) ?_
    refine ⟨_, rfl, r, rfl, ⟨_, SqL.of er7⟩, fun D hD => ?_⟩
    refine lc_list (K := K) (a := r) (xs := ps.map V.ref) (fun i H' => GroX (RowT D) H7 H' D (R.take i)) (GroX.nil hD) (fun i H' _ G => SqL.of (G.S _ _ er7)) ?_ ?_
    · rintro i y H8 hy G
      rw [List.getElem?_map] at hy
      cases ea : ps[i]? with
      | none => rw [ea] at hy; cases hy
      | some u =>
        rw [ea] at hy
        obtain rfl : V.ref u = y := Option.some.inj hy
        have li := (List.getElem?_eq_some_iff.mp ea).1
        have et := List.getElem?_eq_getElem (l := R) (i := i) (by omega)
        generalize R[i]'(by omega) = row at et
        have hu := G.S _ _ (tup7 i u row ea et)
        refine ⟨rfl, yesT ⟨_, rfl, u, _, rfl, .inr (SqT.of hu), fun z hz => ?_⟩⟩
        obtain ⟨acc, a1, a2, a3⟩ := G.row (ts := row) hz
        refine ⟨acc, a1, by rw [a2, List.length_take]; exact small1000 (by omega), ?_⟩
        show GroX _ _ _ _ (R.take (i + 1))
        rw [List.take_add_one, et]
        exact a3
    · intro H8 G
      have G : GroX (RowT D) H7 H8 D (R.take (ps.map V.ref).length) := G
      rw [List.length_map, lps, List.take_length] at G
      obtain ⟨qs, d1, d2, d3⟩ := G.d
      refine ⟨D, _, rfl, .inl d1, fun H9 t S9 et => ?_⟩
      refine k _ _ (B07.trans ((But.same G.S).trans (But.same S9))) ((h7.keep G.S).keep S9) ⟨.tup (qs.map V.ref), shL R, ⟨t, rfl, et⟩, shL_all d2 fun j a ts e1 e2 => S9 _ _ (d3 j a ts e1 e2).2, by unfold shL; rw [List.length_map]; omega⟩
end
end J

set_option Elab.async false
set_option linter.all false
set_option maxRecDepth 100000
set_option maxHeartbeats 8000000
namespace J
open PySem PySem.Spec PyProof.Rows L2
/-! ### a sketch without known rows: the default () lies in the written part -/
structure LabOkL (ls : List Int) : Prop where
  asc : Asc ls
  bd : ∀ n ∈ ls, 0 ≤ n ∧ n ≤ 1000000000
  l6 : ls.length ≤ 6
def spSeqO (K : PySem.W.Frag) : Sp := fun vs H Q E => spSeq vs H Q E ∨ spSeqK K vs H Q E
def spCK0 (K : PySem.W.Frag) : Sp := fun vs H Q _ => ∃ (x l : V) (a : Addr), vs = [x, l, .ref a] ∧ KT K a ∧ ∀ H', Same H H' → Q .non H'
def spCS0 (K : PySem.W.Frag) : Sp := fun vs H Q _ => ∃ (x : V) (l a : Addr) (ls : List Int), vs = [x, .ref l, .ref a] ∧ H l = some (.lst (ls.map V.int)) ∧ LabOkL ls ∧ KT K a ∧ ∀ H', Same H H' → Q .non H'
def spSI0 (K : PySem.W.Frag) (C CB CS : Addr) : Sp := fun vs H Q _ => ∃ (z dx b l a : Addr) (ns : List Int) (L : List (List Int)) (ls : List Int), vs = [.ref z, .ref b, .ref l, .ref a] ∧ H z = some (.ins CS dx []) ∧ BookAt C CB H b ns L ∧ GoodB ns ∧ H l = some (.lst (ls.map V.int)) ∧ LabOkL ls ∧ KT K a ∧ ∀ H', But z H H' → SkAt C CB CS H' z ns L ls [] → Q .non H'
theorem lab_yes {n : Int} (h : 0 ≤ n ∧ n ≤ 1000000000) : wholeB (.int n) 0 1000000000 = true := by
  show (decide (0 ≤ n) && decide (n ≤ 1000000000)) = true
  rw [decide_eq_true h.1, decide_eq_true h.2]
  rfl
section
variable {P : Program} {w : World} {K : PySem.W.Frag} {mg : Str → Option Value} {base : Heap}
theorem ok_chkKnown0 {f C CB CE fS fL fH fI : Addr} {fd fdS fdL fdH fdI : FuncData} (F : Fun K "_check_known" "_check_known" s_chkKnown f fd) (T : TiC K C) (c : BoC K CB) (nl : mg "len" = none) (ne : mg "enumerate" = none)
    (GS : Cal P w K mg base CX0 1 "is_sequence" fS fdS ["thing"] spSeq) (GL : Cal P w K mg base CX0 2 "is_label" fL fdL ["thing"] spLabel) (GH : Mt P w K mg base CX0 2 C "has" fH fdH ["self", "thing"] (spHas C)) (GB : Ex2 P w K mg base "BadSketch" "index" "what" CE fI fdI ["self", "index", "what"]) :
    FnOk P w K mg base (L2.CX P w) 4 f fd ["book", "labels", "known"] (spCK0 K) := by
  refine F.okX sc_chkKnown (fun vs H Q E h => ?_) (fun cdv A outer s H vs Q E hr h => ?_)
  · obtain ⟨x, l, a, rfl, _⟩ := h
    rfl
  · obtain ⟨x, l, a, rfl, ha, k⟩ := h
    have hr2 : Room 2 (A.deeper (envOfC "_check_known" (defScope s_chkKnown) s.heap.objs.size f cdv)) := hr.mono (by decide)
    refine ⟨_, (pss_cons 
  (ps_set (i := 3) sc_chkKnown.nd rfl (Or.inl rfl) pe_dnewT) (pss_one 
  (ps_for (passes_of rfl) rfl (pi_enumT (by rfl) ne (pa_cons (pv 2) pa_nil)) (pg_tup (by rfl) (pgs_cons (pg_name (i := 4) sc_chkKnown.nd rfl (Or.inl rfl)) (pgs_cons (pg_name (i := 5) sc_chkKnown.nd rfl (Or.inl rfl)) pgs_nil))) (pss_cons 
    (ps_if (PW.pt (pw_or (pt_not (pt_val (pcal GS hr pass0 (pa_cons (pv 5) pa_nil)))) (pw_or1 (pt_cmpR (r := rNe) op_ne (pe_callB call_len_seq (by rfl) nl PySem.boot_len (pa_cons (pv 5) pa_nil)) pe_int (nomark _))))) (pss_one 
      (ps_raise rfl (takes_of rfl rfl rfl rfl) (pmk_oex GB.o GB.i GB.t GB.F hr2 GB.b .nil pass0 rfl GB.m (pa_cons (pv 4) (pa_cons pe_str pa_nil))))) pss_nil) (pss_cons 
    (ps_asg (pv 5) (pg_or (pg_tup (by rfl) (pgs_cons (pg_name (i := 6) sc_chkKnown.nd rfl (Or.inl rfl)) (pgs_cons (pg_name (i := 7) sc_chkKnown.nd rfl (Or.inl rfl)) (pgs_cons (pg_name (i := 8) sc_chkKnown.nd rfl (Or.inl rfl)) pgs_nil)))) (pg_unl rfl (pgs_cons (pg_name (i := 6) sc_chkKnown.nd rfl (Or.inl rfl)) (pgs_cons (pg_name (i := 7) sc_chkKnown.nd rfl (Or.inl rfl)) (pgs_cons (pg_name (i := 8) sc_chkKnown.nd rfl (Or.inl rfl)) pgs_nil)))))) (pss_cons 
    (ps_if (PW.pt (pw_or (pt_not (pt_val (pcal GL hr pass0 (pa_cons (pv 6) pa_nil)))) (pw_or (pt_not (pt_val (pcal GL hr pass0 (pa_cons (pv 7) pa_nil)))) (pw_or (pt_cmpR (r := rIn K true) op_notIn_seq (pv 6) (pv 1) (by rfl)) (pw_or (pt_cmpR (r := rIn K true) op_notIn_seq (pv 7) (pv 1) (by rfl)) (pw_or1 (pt_cmpR (r := rEq) op_eq (pv 6) (pv 7) (nomark _)))))))) (pss_one 
      (ps_raise rfl (takes_of rfl rfl rfl rfl) (pmk_oex GB.o GB.i GB.t GB.F hr2 GB.b .nil pass0 rfl GB.m (pa_cons (pv 4) (pa_cons pe_str pa_nil))))) pss_nil) (pss_cons 
    (ps_if (pt_not (pt_val (pe_meth (pe_fld (pv 0) rfl) T.cl GH.M GH.F hr2 GH.b .nil pass0 (pa_cons (pv 8) pa_nil)))) (pss_one 
      (ps_raise rfl (takes_of rfl rfl rfl rfl) (pmk_oex GB.o GB.i GB.t GB.F hr2 GB.b .nil pass0 rfl GB.m (pa_cons (pv 4) (pa_cons pe_str pa_nil))))) pss_nil) (pss_cons 
    (ps_if (pt_cmp (pc_din (un1 hr) (pe_tup (pa_cons (pv 6) (pa_cons (pv 7) pa_nil))) (pv 3))) (pss_one 
      (ps_raise rfl (takes_of rfl rfl rfl rfl) (pmk_oex GB.o GB.i GB.t GB.F hr2 GB.b .nil pass0 rfl GB.m (pa_cons (pv 4) (pa_cons pe_str pa_nil))))) pss_nil) (pss_cons 
    (ps_asg pe_bl (pg_sub (pv 3) (pe_tup (pa_cons (pv 6) (pa_cons (pv 7) pa_nil))) (set_dict (un1 hr)))) (pss_one 
    (ps_asg pe_bl (pg_sub (pv 3) (pe_tup (pa_cons (pv 7) (pa_cons (pv 6) pa_nil))) (set_dict (un1 hr)))))))))))))), ?_⟩
    refine fun D hD => ?_
    have S0 : Same H (upd H D (.dT [])) := new_same hD
    generalize upd H D (.dT []) = H1 at S0
    refine ⟨_, rfl, a, [], rfl, ha.sq _, for_enumT (K := K) (a := a) (xs := []) (fun i σ H' => Same H H') S0 (fun i σ H' _ _ => ha.sq _) ?_ ?_⟩
    · rintro i y σ H' T0 hy
      simp at hy
    · intro σ H' S
      exact k H' S
theorem ok_chkSk0 {f C CB CE fS fL fK fI : Addr} {fd fdS fdL fdK fdI : FuncData} (F : Fun K "_check_sketch" "_check_sketch" s_chkSk f fd) (nl : mg "len" = none) (ne : mg "enumerate" = none) (mM : ∃ t, mg "MOST_LABELS" = some (.int 6 t))
    (GS : Cal P w K mg base CX0 1 "is_sequence" fS fdS ["thing"] (spSeqO K)) (GL : Cal P w K mg base CX0 2 "is_label" fL fdL ["thing"] spLabel) (GK : Cal P w K mg base (L2.CX P w) 4 "_check_known" fK fdK ["book", "labels", "known"] (spCK0 K)) (GB : Ex2 P w K mg base "BadSketch" "index" "what" CE fI fdI ["self", "index", "what"]) :
    FnOk P w K mg base (L2.CX P w) 5 f fd ["book", "labels", "known"] (spCS0 K) := by
  obtain ⟨tM, mM⟩ := mM
  refine F.okX sc_chkSk (fun vs H Q E h => ?_) (fun cdv A outer s H vs Q E hr h => ?_)
  · obtain ⟨x, l, a, ls, rfl, _⟩ := h
    rfl
  · obtain ⟨x, l, a, ls, rfl, el, lo, ha, k⟩ := h
    have hr2 : Room 2 (A.deeper (envOfC "_check_sketch" (defScope s_chkSk) s.heap.objs.size f cdv)) := hr.mono (by decide)
    refine ⟨_, (pss_cons 
  (ps_for (passes_of rfl) rfl (pi_enumT (by rfl) ne (pa_cons (pe_tup (pa_cons (pv 1) (pa_cons (pv 2) pa_nil))) pa_nil)) (pg_tup (by rfl) (pgs_cons (pg_name (i := 3) sc_chkSk.nd rfl (Or.inl rfl)) (pgs_cons (pg_name (i := 4) sc_chkSk.nd rfl (Or.inl rfl)) pgs_nil))) (pss_one 
    (ps_if (pt_not (pt_val (pcal GS hr pass0 (pa_cons (pv 4) pa_nil)))) (pss_one 
      (ps_raise rfl (takes_of rfl rfl rfl rfl) (pmk_oex GB.o GB.i GB.t GB.F hr2 GB.b .nil pass0 rfl GB.m (pa_cons (pv 3) (pa_cons pe_str pa_nil))))) pss_nil))) (pss_cons 
  (ps_if (pt_cmpR op_gt (pe_callB call_len_seq (by rfl) nl PySem.boot_len (pa_cons (pv 1) pa_nil)) (pe_glob (v := .int 6) rfl mM ⟨_, rfl⟩) (nomark _)) (pss_one 
    (ps_raise rfl (takes_of rfl rfl rfl rfl) (pmk_oex GB.o GB.i GB.t GB.F hr2 GB.b .nil pass0 rfl GB.m (pa_cons (pe_glob (v := .int 6) rfl mM ⟨_, rfl⟩) (pa_cons pe_str pa_nil))))) pss_nil) (pss_cons 
  (ps_for (passes_of rfl) rfl (pi_enum (by rfl) ne (pa_cons (pv 1) pa_nil)) (pg_tup (by rfl) (pgs_cons (pg_name (i := 3) sc_chkSk.nd rfl (Or.inl rfl)) (pgs_cons (pg_name (i := 5) sc_chkSk.nd rfl (Or.inl rfl)) pgs_nil))) (pss_one 
    (ps_if (PW.pt (pw_or (pt_not (pt_val (pcal GL hr pass0 (pa_cons (pv 5) pa_nil)))) (pw_or1 (PW.pt (pw_and (pt_cmpR op_gt (pv 3) pe_int (nomark _)) (pw_and1 (pt_cmpR op_le (pv 5) (pe_ix (r := rIxL K) ix_list (pv 1) (pe_op op_sub (pv 3) pe_int) (fun _ _ => rfl)) (nomark _)))))))) (pss_one 
      (ps_raise rfl (takes_of rfl rfl rfl rfl) (pmk_oex GB.o GB.i GB.t GB.F hr2 GB.b .nil pass0 rfl GB.m (pa_cons (pv 3) (pa_cons pe_str pa_nil))))) pss_nil))) (pss_one 
  (ps_expr (pcal GK hr (passes_call (takes_of rfl rfl rfl rfl) (fun _ _ _ _ h => h)) (pa_cons (pv 0) (pa_cons (pv 1) (pa_cons (pv 2) pa_nil))))))))), ?_⟩
    refine ⟨_, rfl, _, rfl, (by show 2 ≤ sizeLine; decide), fun t0 ht0 => ?_⟩
    have S0 : Same H (upd H t0 (.tup [.ref l, .ref a])) := new_same ht0
    have et0 : (upd H t0 (.tup [.ref l, .ref a])) t0 = some (.tup [.ref l, .ref a]) := upd_same
    generalize upd H t0 (.tup [.ref l, .ref a]) = H0 at S0 et0
    refine ⟨t0, _, rfl, SqT.of et0, for_enumT (K := K) (a := t0) (xs := [.ref l, .ref a]) (fun i σ H' => Same H0 H' ∧ ∃ v3 v4, σ = [some x, some (.ref l), some (.ref a), v3, v4, none]) ⟨Same.refl _, ⟨_, _, rfl⟩⟩ (fun i σ H' _ h => SqT.of (h.1 _ _ et0)) ?_ ?_⟩
    · rintro i y σ H' T0 hy ⟨S2, ⟨v3, v4, rfl⟩⟩ hT0
      refine ⟨T0, _, rfl, SqT.of upd_same, rfl, _, _, rfl, _, _, rfl, rfl, ?_⟩
      have S3 : Same H' (upd H' T0 (.tup [.int (i : Nat), y])) := new_same hT0
      generalize upd H' T0 (.tup [.int (i : Nat), y]) = H3 at S3
      have S03 := (S0.trans S2).trans S3
      match i, hy with
      | 0, hy =>
        obtain rfl : V.ref l = y := Option.some.inj hy
        exact ⟨_, rfl, .inl ⟨.ref l, .lst (ls.map V.int), rfl, ⟨l, rfl, S03 _ _ el⟩, fun H5 S5 => ⟨_, rfl, iteF ⟨(S2.trans S3).trans S5, ⟨_, _, rfl⟩⟩⟩⟩⟩
      | 1, hy =>
        obtain rfl : V.ref a = y := Option.some.inj hy
        exact ⟨_, rfl, .inr ⟨a, rfl, ha, fun H5 S5 => ⟨_, rfl, iteF ⟨(S2.trans S3).trans S5, ⟨_, _, rfl⟩⟩⟩⟩⟩
      | i + 2, hy => simp at hy
    · rintro σ H1 ⟨S1, ⟨v3, v4, rfl⟩⟩
      have S01 := S0.trans S1
      have el1 := S01 _ _ el
      refine ⟨_, rfl, l, _, rfl, .inl (SqL.of el1), _, _, rfl, rfl, _, rfl, ?_⟩
      refine if_fa (decide_eq_false (by rw [List.length_map]; have := lo.l6; omega)) ?_
      refine ⟨_, rfl, l, _, rfl, SqL.of el1, for_enum (K := K) (a := l) (xs := ls.map V.int) (fun i σ H' => Same H1 H' ∧ ∃ v3 v4 v5, σ = [some x, some (.ref l), some (.ref a), v3, v4, v5]) ⟨Same.refl _, ⟨_, _, _, rfl⟩⟩ (fun i σ H' _ h => SqL.of (h.1 _ _ el1)) ?_ ?_⟩
      · rintro i y σ H' T0 hy ⟨S2, ⟨v3, v4, v5, rfl⟩⟩ hT0
        refine ⟨T0, _, rfl, SqT.of upd_same, rfl, _, _, rfl, _, _, rfl, rfl, ?_⟩
        have S3 : Same H' (upd H' T0 (.tup [.int (i : Nat), y])) := new_same hT0
        generalize upd H' T0 (.tup [.int (i : Nat), y]) = H3 at S3
        have S13 := S2.trans S3
        rw [List.getElem?_map] at hy
        cases ei : ls[i]? with
        | none => rw [ei] at hy; cases hy
        | some n =>
        rw [ei] at hy
        obtain rfl : V.int n = y := Option.some.inj hy
        refine ⟨_, rfl, .int n, .sc (.int n), rfl, ⟨rfl, rfl⟩, _, rfl, ?_⟩
        refine if_fa (by rw [lab_yes (lo.bd n (List.mem_of_getElem? ei))]; rfl) ⟨_, rfl, _, _, rfl, rfl, _, rfl, ?_⟩
        cases i with
        | zero => exact if_fa (by rfl) (iteF ⟨S13, ⟨_, _, _, rfl⟩⟩)
        | succ i =>
          have hi := (List.getElem?_eq_some_iff.mp ei).1
          have em := List.getElem?_eq_getElem (l := ls) (i := i) (by omega)
          generalize ls[i]'(by omega) = m at em
          have lt := lo.asc i m n em ei
          refine if_tr (by show decide ((0 : Int) < ((i + 1 : Nat) : Int)) = true; exact decide_eq_true (by omega)) ⟨_, rfl, _, rfl, _, rfl, _, _, rfl, rfl, _, _, _, _, rfl, rfl, SqL.of (S13 _ _ el1), at_of (j := i) (v := .int m) (by omega) (by rw [List.getElem?_map, em]; rfl), _, _, rfl, rfl, _, rfl, ?_⟩
          exact if_fa (by show decide (n ≤ m) = false; exact decide_eq_false (by omega)) ⟨S13, ⟨_, _, _, rfl⟩⟩
      · rintro σ H' ⟨S2, ⟨v3, v4, v5, rfl⟩⟩
        exact ⟨_, rfl, _, rfl, _, rfl, x, .ref l, a, rfl, ha, fun H3 S3 => k H3 ((S01.trans S2).trans S3)⟩
theorem ok_Sketch_init0 {f C CB CS fC fT fB : Addr} {fd fdC fdT fdB : FuncData} {dvs : List V} (F : FunD K "__init__" "Sketch.__init__" (defArgs s_Sketch_init) (defBody s_Sketch_init) (defScope s_Sketch_init) dvs [] f fd) (c : SkC K CS) (cb : BoC K CB) (nt : mg "tuple" = none) (nso : mg "sorted" = none)
    (GC : Cal P w K mg base (L2.CX P w) 5 "_check_sketch" fC fdC ["book", "labels", "known"] (spCS0 K)) (GT : Cal P w K mg base CX0 4 "turned_row" fT fdT ["ties", "row"] (spTurn C)) (GB : Cal P w K mg base CX0 4 "_ties_both_ways" fB fdB ["ties", "rows"] (spBoth2 C)) :
    FnOk P w K mg base (L2.CX P w) 6 f fd ["self", "book", "labels", "known"] (spSI0 K C CB CS) := by
  refine F.ok sc_Sketch_init (fun vs H Q E h => ?_) (fun cdv A outer s H vs Q E hr h => ?_)
  · obtain ⟨z, dx, b, l, a, ns, L, ls, rfl, _⟩ := h
    rfl
  · obtain ⟨z, dx, b, l, a, ns, L, ls, rfl, hz, hB, gb, el, lo, ha, k⟩ := h
    refine ⟨_, (pss_cons (ps_expr (pcal GC hr (passes_call (takes_of rfl rfl rfl rfl) (fun _ _ _ _ h => h)) (pa_cons (pv 1) (pa_cons (pv 2) (pa_cons (pv 3) pa_nil))))) (pss_cons 
  (ps_fld (pv 0) (pv 1) rfl) (pss_cons 
  (ps_fld (pv 0) (pe_callTy (T := "tuple") (r := rTupA) call_tupA (by rfl) nt (by decide +kernel) (pa_cons (pv 2) pa_nil)) rfl) (pss_cons 
  (ps_fld (pv 0) (pe_callTy (T := "tuple") (r := rTupA) call_tupA (by rfl) nt (by decide +kernel) (pa_cons (pe_callB (r := rSortLT 3 big) (cr_sortedLT (by decide)) (by rfl) nso (by decide +kernel) (pa_cons (pe_lc (own := [("row", 4)]) (g := gName 4) (by rfl) sc_Sketch_init.nd (pi_tup (pv 3)) (blkOk_by (own := [("row", 4)]) (N := ["self", "book", "labels", "known", "row"]) (sc := defScope s_Sketch_init) (by decide +kernel)) (fun _ _ _ _ _ => pg_name (i := 4) sc_Sketch_init.nd rfl (Or.inl rfl)) (fun _ _ _ _ _ => pts_nil) (fun _ _ _ _ _ => (pcal GT hr pass0 (pa_cons (show PE _ _ (tFld K (tVar 1) "ties") from pe_fld (pv 1) rfl) (pa_cons (pv 4) pa_nil))))) pa_nil)) pa_nil)) rfl) (pss_one 
  (ps_fld (pv 0) (pcal GB hr pass0 (pa_cons (pe_fld (pv 1) rfl) (pa_cons (pe_fld (pv 0) rfl) pa_nil))) rfl)))))), ?_⟩
    refine ⟨_, rfl, _, rfl, _, rfl, .ref b, l, a, ls, rfl, el, lo, ha, fun H1 S1 => ?_⟩
    have hz1 := S1 _ _ hz
    refine ⟨_, rfl, _, rfl, z, CS, dx, [], rfl, hz1, c.cl, c.nB, (by show 0 < 1000; decide), ?_⟩
    have B2 : But z H1 (upd H1 z (.ins CS dx (L2.putF "book" (.ref b) []))) := But.put
    have hz2 : (upd H1 z (.ins CS dx (L2.putF "book" (.ref b) []))) z = some (.ins CS dx (g1 b)) := upd_same
    have X2 : BookAt C CB (upd H1 z (.ins CS dx (L2.putF "book" (.ref b) []))) b ns L := (hB.keep S1).off hz1 rfl rfl B2
    have N2 := NI.of_but B2 hz1
    have el2 : (upd H1 z (.ins CS dx (L2.putF "book" (.ref b) []))) l = some (.lst (ls.map V.int)) := N2 _ _ (fun _ _ _ q => nomatch q) (S1 _ _ el)
    have BB2 : But z H (upd H1 z (.ins CS dx (L2.putF "book" (.ref b) []))) := (But.same S1).trans B2
    generalize upd H1 z (.ins CS dx (L2.putF "book" (.ref b) [])) = H2 at hz2 X2 el2 BB2
    refine ⟨_, rfl, l, _, rfl, .inl el2, fun H3 kl S3 ekl => ?_⟩
    have hz3 := S3 _ _ hz2
    refine ⟨_, rfl, z, CS, dx, _, rfl, hz3, c.cl, c.nL, gl1 b, ?_⟩
    have B4 : But z H3 (upd H3 z (.ins CS dx (L2.putF "labels" (.ref kl) (g1 b)))) := But.put
    have hz4 : (upd H3 z (.ins CS dx (L2.putF "labels" (.ref kl) (g1 b)))) z = some (.ins CS dx (g2 b kl)) := upd_same
    have gn1 := (g_none (b := b) (l := b) (k := b) (m := "ties") (by decide +kernel) (by decide +kernel) (by decide +kernel)).1
    have gm1 := (g_none (b := b) (l := b) (k := b) (m := "many") (by decide +kernel) (by decide +kernel) (by decide +kernel)).1
    have X4 : BookAt C CB (upd H3 z (.ins CS dx (L2.putF "labels" (.ref kl) (g1 b)))) b ns L := (X2.keep S3).off hz3 gn1 gm1 B4
    have N4 := NI.of_but B4 hz3
    have ekl4 := N4.tup ekl
    have BB4 : But z H (upd H3 z (.ins CS dx (L2.putF "labels" (.ref kl) (g1 b)))) := (BB2.trans (But.same S3)).trans B4
    generalize upd H3 z (.ins CS dx (L2.putF "labels" (.ref kl) (g1 b))) = H4 at hz4 X4 ekl4 BB4
    refine ⟨_, rfl, a, rfl, ⟨[], ha.sq _⟩, fun D hD => lc_tup (K := K) (a := a) (xs := []) (fun i H' => H' = upd H4 D (.lst [])) rfl (fun i H' _ _ => ha.sq _) ?_ ?_⟩
    · intro i y H5 ey
      simp at ey
    · rintro H5 rfl
      have S5 : Same H4 (upd H4 D (.lst [])) := new_same hD
      have eD : (upd H4 D (.lst [])) D = some (.lst []) := upd_same
      generalize upd H4 D (.lst []) = H5 at S5 eD
      refine ⟨D, [], rfl, eD, by decide, (fun q hq => by cases hq), fun M p pm pw hp => ?_⟩
      obtain rfl : M = [] := List.Perm.eq_nil pm
      refine ⟨p, _, rfl, .inl upd_same, fun H7 kk S7 ekk => ?_⟩
      have S47 := S5.trans ((new_same hp).trans S7)
      have hz7 := S47 _ _ hz4
      have TK : TupsAt H7 kk [] := ⟨[], ekk, rfl, fun j a ts e => by simp at e⟩
      have gn2 := (g_none (b := b) (l := kl) (k := b) (m := "ties") (by decide +kernel) (by decide +kernel) (by decide +kernel)).2
      have gm2 := (g_none (b := b) (l := kl) (k := b) (m := "many") (by decide +kernel) (by decide +kernel) (by decide +kernel)).2
      have gn3 := (g_none (b := b) (l := kl) (k := kk) (m := "ties") (by decide +kernel) (by decide +kernel) (by decide +kernel)).2.2
      have gm3 := (g_none (b := b) (l := kl) (k := kk) (m := "many") (by decide +kernel) (by decide +kernel) (by decide +kernel)).2.2
      refine ⟨_, rfl, z, CS, dx, _, rfl, hz7, c.cl, c.nK, gl2 b kl, ?_⟩
      have B8 : But z H7 (upd H7 z (.ins CS dx (L2.putF "known" (.ref kk) (g2 b kl)))) := But.put
      have hz8 : (upd H7 z (.ins CS dx (L2.putF "known" (.ref kk) (g2 b kl)))) z = some (.ins CS dx (g3 b kl kk)) := upd_same
      have X8 : BookAt C CB (upd H7 z (.ins CS dx (L2.putF "known" (.ref kk) (g2 b kl)))) b ns L := (X4.keep S47).off hz7 gn2.1 gm2.1 B8
      have N8 := NI.of_but B8 hz7
      have ekl8 := N8.tup (S47 _ _ ekl4)
      have TK8 := N8.tups TK
      have BB8 : But z H (upd H7 z (.ins CS dx (L2.putF "known" (.ref kk) (g2 b kl)))) := (BB4.trans (But.same S47)).trans B8
      generalize upd H7 z (.ins CS dx (L2.putF "known" (.ref kk) (g2 b kl))) = H8 at hz8 X8 ekl8 TK8 BB8
      obtain ⟨dxb, tt, bb, lb, rrb, q1, q2, q3, q4, q5⟩ := id X8
      refine ⟨_, rfl, b, CB, dxb, _, _, rfl, q1, cb.cl, cb.nT, bf_ties _ _ _ _, _, rfl, z, CS, dx, _, _, rfl, hz8, c.cl, c.nK, g3_known _ _ _, tt, kk, ns, [], rfl, q2, TK8, by decide, (fun r hr => by cases hr), fun H9 d S9 nd9 dd9 => ?_⟩
      have hz9 := S9 _ _ hz8
      refine ⟨_, rfl, z, CS, dx, _, rfl, hz9, c.cl, c.nT, gl3 b kl kk, ?_⟩
      have B10 : But z H9 (upd H9 z (.ins CS dx (L2.putF "known_ties" (.ref d) (g3 b kl kk)))) := But.put
      have N10 := NI.of_but B10 hz9
      exact k _ ((BB8.trans (But.same S9)).trans B10) ⟨dx, b, kl, kk, d, upd_same, (X8.keep S9).off hz9 gn3 gm3 B10, N10.tup (S9 _ _ ekl8), N10.tups (TK8.keep S9), dd9.off hz9 B10⟩
end
theorem mk_sketch0 {K : PySem.W.Frag} {C CB CS : Addr} {b l a : Addr} {ns ls : List Int} {L : List (List Int)} {H : Hp} {E : XK} {R : Addr → VK} (hB : BookAt C CB H b ns L) (gb : GoodB ns) (el : H l = some (.lst (ls.map V.int))) (lo : LabOkL ls) (ha : KT K a)
    (e2 : ∀ H' x, Same H H' → H x = none → SkAt C CB CS H' x ns L ls [] → R x .non H') :
    ∀ x dx, H x = none → H dx = none → dx ≠ x → spSI0 K C CB CS [.ref x, .ref b, .ref l, .ref a] (upd (upd H dx (.own x)) x (.ins CS dx [])) (R x) E := fun x dx hx hd _ =>
  have S : Same H (upd (upd H dx (.own x)) x (.ins CS dx [])) := made_same (H := H) (o := .own x) (u := .ins CS dx []) hx hd
  ⟨x, dx, b, l, a, ns, L, ls, rfl, upd_same, hB.keep S, gb, S _ _ el, lo, ha, fun H' B sk => e2 H' x (made_but hx hd B) hx sk⟩
end J

set_option Elab.async false
set_option linter.all false
set_option maxRecDepth 100000
set_option maxHeartbeats 2000000
/-! ### != of instances whose class has its own __eq__ only -/
namespace J
open PySem PySem.Spec PyProof.Rows L2
section
variable {prog : Program} {w : World} {A : Around} {E : Value → Shared → Prop} {s : Shared} {K : PySem.W.Frag} {x C L f : Addr} {h₀ : Heap} {m : Str → Option Value} {ox : Obj} {od : Option Obj} {b tb : Value}
theorem ifBound_KB {M : Model} {name : Str} {id : String} {args : List Value} {Q : Option Value → Shared → Prop} (X : K.In s.heap) (I : PySem.W.InstAt s.heap x ox C od) (hs : PySem.W.findIn K (.ref C) name = some (some (.builtin id)))
    (hb : ∀ self, bindSpecial (.builtin id) self = pure (.builtin id, [self])) (h : wpAny M A (call (.builtin id) (.ref x :: args)) (fun v => Q (some v)) E s) : wpAny M A (callSpecialIfBound? (.ref x) name args) Q E s := by
  simp only [callSpecialIfBound?, bindSpecialIfBound?]
  refine wpAny_holding (wpAny_bind (wpAny_bind (wpAny_bind (I.type.here ((PySem.W.looks_findIn X hs).here ?_)))))
  refine wpAny_bind (wpAny_askSetting (wpAny_ite ?_))
  have fin : wpAny M A (call (.builtin id) ([.ref x] ++ args) >>= fun v => pure (some v)) Q E s := wpAny_bind (wpAny_mono h (fun v s' h' => wpAny_pure h') fun _ _ h' => h')
  simp only [hb]
  split
  · exact wpAny_bind (wpAny_pure (wpAny_pure (by exact fin)))
  · exact wpAny_tryCatch (wpAny_bind (wpAny_pure (wpAny_pure (by exact fin))))
/-- the body of object.__ne__ over the own __eq__ -/
theorem objNe_own (hu : A.in1.units < cLine) (X : K.In s.heap) (I : PySem.W.InstAt s.heap x ox C od) (hm : PySem.W.mroIn K C (.type "object") = some true) (hs : PySem.W.findIn K (.ref C) "__eq__" = some (some (.ref f))) (hf : PySem.W.isFn K (.ref f) = true) {Q : Value → Shared → Prop}
    (h : wpAny (model prog w) A.in1 (call (.ref f) [.ref x, b]) (fun v s' => ∃ c, v = .bool c ∧ Q (.bool (!c)) s') E s) : wpAny (model prog w) A (call (.builtin "object.__ne__") [.ref x, b]) Q E s := by
  refine wpAny_call (codeAny_call_builtin PySem.F.cmp_object.ne.plain PySem.F.cmpEntry_ne (PySem.W.check_slot (i := "object.__ne__") (owner := "object") (n := "__ne__") PySem.F.cmpKind_ne PySem.F.cmpSplit_ne (I.type.andThen (PySem.W.looks_mroIn X hm)) (PySem.F.cmpArgs_ne _ _) ?_))
  unfold Builtin.«object.__ne__»
  refine wpAny_bind (m := slotArgs "__ne__" 1 _) (wpAny_pure ?_)
  refine wpAny_bind (m := cRoomFor _ _) (wpAny_cRoomFor hu ?_)
  refine wpAny_bind (m := callSpecialIfBound? (.ref x) "__eq__" _) (PySem.W.ifBound_K X I hs hf (wpAny_mono h (fun r s' hr => ?_) fun _ _ y => y))
  obtain ⟨c, rfl, hq⟩ := hr
  exact wpAny_bind (wpAny_truthy_bool (wpAny_pure hq))
theorem cmpNe_K {Q : Value → Shared → Prop} (hu : A.units < cLine) (hu1 : A.in1.units < cLine) (F : PyProof.Rows.Fr h₀ L s.heap m) (X₀ : K.In h₀) (I : PySem.W.InstAt s.heap x ox C od) (hbt : PySem.W.Looks (model prog w) s.heap (typeOf b) tb) (hn : PySem.W.notFirst K C tb = true)
    (hm : PySem.W.mroIn K C (.type "object") = some true) (hne : PySem.W.findIn K (.ref C) "__ne__" = some (some (.builtin "object.__ne__"))) (hs : PySem.W.findIn K (.ref C) "__eq__" = some (some (.ref f))) (hf : PySem.W.isFn K (.ref f) = true)
    (h : wpAny (model prog w) A.in1 (call (.ref f) [.ref x, b]) (fun v s' => ∃ c, v = .bool c ∧ Q (.bool (!c)) s') E s) : wpAny (model prog w) A (richCompare .NotEq (.ref x) b) Q E s := by
  have X := X₀.keeps F.keep
  have one : wpAny (model prog w) A (tryCompare (.ref x) (cmpInfo .NotEq).2.1 b) (fun r s' => ∃ v, r = some v ∧ Q v s') E s := by
    unfold tryCompare
    refine wpAny_bind (ifBound_KB X I hne PySem.F.cmp_object.ne.bind (objNe_own hu1 X I hm hs hf (wpAny_mono h (fun v s' hv => ?_) fun _ _ e => e)))
    obtain ⟨c, rfl, hq⟩ := hv
    exact ⟨c, rfl, wpAny_pure ⟨_, rfl, hq⟩⟩
  unfold richCompare
  simp only [oneThing_ref]
  refine wpAny_holding (wpAny_bind (wpAny_cRoomFor hu ?_))
  refine wpAny_bind (I.type.here (wpAny_bind (hbt.here ?_)))
  split
  · rename_i q
    have e : PySem.W.subIn K tb (.ref C) = some false := by
      rcases Bool.or_eq_true_iff.mp hn with e | e
      · rw [beq_iff_eq.mp e] at q; simp at q
      · exact beq_iff_eq.mp e
    refine wpAny_bind ((PySem.W.looks_subIn X e).here ?_)
    simp only [Bool.false_eq_true, if_false]
    refine wpAny_bind (wpAny_mono one (fun r s' z => ?_) fun _ _ e => e)
    obtain ⟨v, rfl, hq⟩ := z
    exact wpAny_pure hq
  · refine wpAny_bind (wpAny_pure ?_)
    simp only [Bool.false_eq_true, if_false]
    refine wpAny_bind (wpAny_mono one (fun r s' z => ?_) fun _ _ e => e)
    obtain ⟨v, rfl, hq⟩ := z
    exact wpAny_pure hq
end
def rNeOwn (C : Addr) (sp : Sp) (E : XK) : R2 := fun x y H Q => ∃ a b dx fs, x = .ref a ∧ y = .ref b ∧ H a = some (.ins C dx fs) ∧ ((∃ dy gs, H b = some (.ins C dy gs)) ∨ ∃ ys, H b = some (.tup ys)) ∧ sp [x, y] H (fun v H' => ∃ c, v = .bl c ∧ Q (.bl (!c)) H') E
theorem op_neOwn {X : Cx} {n : Nat} {C f : Addr} {fd : FuncData} {ps : List Str} {sp : Sp} {E : XK} (F : FnOk X.prog X.w X.K X.mg X.base CX0 n f fd ps sp)
    (hs : PySem.W.findIn X.K (.ref C) "__eq__" = some (some (.ref f))) (hne : PySem.W.findIn X.K (.ref C) "__ne__" = some (some (.builtin "object.__ne__"))) (hm : PySem.W.mroIn X.K C (.type "object") = some true) (hf : PySem.W.isFn X.K (.ref f) = true) (hb : Binds X.K fd ps []) (hr : Room (n + 1) X.A) (hnt : PySem.W.notFirst X.K C (.type "tuple") = true) : OpR X (compareOp .NotEq) (rNeOwn C sp E) := by
  intro pins s σ H x y v u Q I rx ry ⟨a, b, dx, fs, ex, ey, ha, hy, q⟩
  subst ex
  subst ey
  obtain rfl : v = Value.ref a := rx
  obtain rfl : u = Value.ref b := ry
  show wpAny (model X.prog X.w) X.A (richCompare .NotEq (.ref a) (.ref b)) (EP X pins σ Q) X.xe s
  obtain ⟨mA, J, _⟩ := ins_get I.hok ha
  obtain ⟨od, J, _⟩ := J.look
  obtain ⟨m, hF⟩ := I.fr
  have r2 : Vals [V.ref a, V.ref b] [Value.ref a, Value.ref b] := .cons rfl (.cons rfl .nil)
  have fin : wpAny (model X.prog X.w) X.A.in1 (call (.ref f) [.ref a, .ref b]) (fun v s' => ∃ c, v = .bool c ∧ EP X pins σ Q (.bool (!c)) s') X.xe s := by
    have hl : ([Value.ref a, Value.ref b] : List Value).length = ps.length := by rw [← r2.length]; exact F.len _ _ _ _ q
    refine wpAny_call (codeAny_mono (F.run X.A.in1 X.stack s H ⟨[.ref a, .ref b], []⟩ [.ref a, .ref b] [.ref a, .ref b] _ E hr.in1 I.env0.in1 (by have := hb s [.ref a, .ref b] I.kIn (by rw [List.append_nil]; exact hl); rw [List.append_nil] at this; exact this) r2 q) fun r s' hq => ?_)
    cases r with
    | error e => exact hq.elim
    | ok fl =>
      cases fl with
      | ret u =>
        obtain ⟨v, H', I3, rv, c, ev, q4⟩ := I.after hq
        subst ev
        obtain rfl : u = Value.bool c := rv
        exact ⟨c, rfl, V.bl (!c), H', I3, rfl, q4⟩
      | next => exact hq.elim
      | brk => exact hq.elim
      | cont => exact hq.elim
  rcases hy with ⟨dy, gs, hb'⟩ | ⟨ys, hb'⟩
  · obtain ⟨mB, J', _⟩ := ins_get I.hok hb'
    obtain ⟨od', J', _⟩ := J'.look
    exact cmpNe_K (tb := .ref C) hr.units0 hr.in1.units0 hF I.ok.mod.kin J J'.type (by simp [PySem.W.notFirst]) hm hne hs hf fin
  · obtain ⟨its, rv, ⟨o, h1, h2, _⟩, _⟩ := I.tuple (SqT.of hb')
    have LT : PySem.W.Looks (model X.prog X.w) s.heap (typeOf (.ref b)) (.type "tuple") := fun A Q E s k q => wpAny_typeOf_ref (k _ _ h1) (by rw [h2]; exact q)
    exact cmpNe_K (tb := .type "tuple") hr.units0 hr.in1.units0 hF I.ok.mod.kin J LT hnt hm hne hs hf fin
end J

set_option Elab.async false
set_option linter.all false
set_option maxRecDepth 100000
set_option maxHeartbeats 8000000
namespace J
open PySem PySem.Spec PyProof.Rows L2
/-! ### good labels and rows are taken -/
def RowSh (s : Sh) (r : List Int) : Prop := (s.isL || s.isT) = true ∧ items s = r.map V.int
theorem labs_run {vs : List Int} : ∀ {ls0 : List Int}, Asc (ls0 ++ vs) → (∀ n ∈ vs, 0 ≤ n ∧ n ≤ 1000000000) → labsJ (vs.map V.int) ls0 = .inr (ls0 ++ vs) := by
  induction vs with
  | nil => intro ls0 _ _; rw [List.append_nil]; rfl
  | cons n vs ih =>
    intro ls0 ha hb
    have h1 : labOne ls0 (.int n) = some n := by
      show (if (labB (.int n) && lastOk ls0 n) = true then some n else none) = some n
      have e1 : labB (.int n) = true := lab_yes (hb n List.mem_cons_self)
      have e2 : lastOk ls0 n = true := by
        unfold lastOk
        rw [List.getLast?_eq_getElem?]
        cases e : ls0[ls0.length - 1]? with
        | none => rfl
        | some m =>
          have hl := (List.getElem?_eq_some_iff.mp e).1
          refine decide_eq_true (ha (ls0.length - 1) m n ?_ ?_)
          · rw [List.getElem?_append_left hl]; exact e
          · rw [List.getElem?_append_right (by omega), show ls0.length - 1 + 1 - ls0.length = 0 by omega]; rfl
      rw [e1, e2]
      rfl
    have ea : ls0 ++ n :: vs = (ls0 ++ [n]) ++ vs := by rw [List.append_assoc]; rfl
    show (match labOne ls0 (.int n) with | none => .inl ls0.length | some n => labsJ (vs.map V.int) (ls0 ++ [n]) : Sum Nat (List Int)) = _
    rw [h1, ea]
    exact ih (by rw [← ea]; exact ha) fun m hm => hb m (List.mem_cons_of_mem _ hm)
theorem told_no {R : List (List Int)} {a b t : Int} (h : ∀ r ∈ R, unlike r [a, b, t]) : toldB R a b = false := by
  unfold toldB
  refine List.any_eq_false.mpr fun r hr q => ?_
  have u := h r hr
  unfold unlike at u
  rw [Bool.or_eq_true, Bool.and_eq_true, Bool.and_eq_true, decide_eq_true_eq, decide_eq_true_eq, decide_eq_true_eq, decide_eq_true_eq] at q
  exact u q
theorem row_good {ns ls : List Int} {R : List (List Int)} {s : Sh} {a b t : Int} (g : RwGood ns ls [a, b, t]) (sh : RowSh s [a, b, t]) : rowJ ns ls R s = if toldB R a b = true then .inl "twice" else .inr [a, b, t] := by
  obtain ⟨a', b', t', e, ra, rb, ia, ib, ne, it⟩ := g
  injection e with e1 e2
  injection e2 with e2 e3
  injection e3 with e3 _
  subst e1 e2 e3
  unfold rowJ
  rw [sh.1, if_pos rfl, sh.2]
  show (if coupJ ls (.int a) (.int b) = true then if tieB ns (.int t) = true then num3 R (.int a) (.int b) (.int t) else .inl "tie" else .inl "couple" : Sum Str (List Int)) = _
  have c : coupJ ls (.int a) (.int b) = true := by
    unfold coupJ
    rw [show labB (.int a) = true from lab_yes ra, show labB (.int b) = true from lab_yes rb, inV_mem.mpr ia, inV_mem.mpr ib, decide_eq_false (fun e => ne (V.int.inj e))]
    rfl
  rw [c, if_pos rfl, tie_in it, if_pos rfl]
  rfl
theorem rows_run {ns ls : List Int} : ∀ {ss : List Sh} {R R0 : List (List Int)}, Paired RowSh ss R → (∀ r ∈ R, RwGood ns ls r) → (R0 ++ R).Pairwise unlike → rowsJ ns ls ss R0 = .inr (R0 ++ R)
  | _, _, R0, .nil, _, _ => by rw [List.append_nil]; rfl
  | _, _, R0, .cons (a := s) (b := r) (l₁ := ss) (l₂ := R) h t, g, u => by
    obtain ⟨a, b, c, rfl, _⟩ := g r List.mem_cons_self
    have ea : R0 ++ [a, b, c] :: R = (R0 ++ [[a, b, c]]) ++ R := by rw [List.append_assoc]; rfl
    have nt : toldB R0 a b = false := told_no (t := c) fun r hr => (List.pairwise_append.mp u).2.2 r hr _ List.mem_cons_self
    have e : rowJ ns ls R0 s = .inr [a, b, c] := by rw [row_good (g _ List.mem_cons_self) h, nt, if_neg Bool.false_ne_true]
    show (match rowJ ns ls R0 s with | .inl w => .inl (R0.length, w) | .inr r => rowsJ ns ls ss (R0 ++ [r]) : Sum (Nat × Str) (List (List Int))) = _
    rw [e, ea]
    exact rows_run t (fun r hr => g r (List.mem_cons_of_mem _ hr)) (by rw [← ea]; exact u)
theorem skJ_ok {ns ls : List Int} {sl sv : Sh} {ss : List Sh} {R : List (List Int)} (lo : LabOkL ls) (ql : (sl.isL || sl.isT) = true) (il : items sl = ls.map V.int) (qv : (sv.isL || sv.isT) = true) (p : Paired RowSh ss R) (g : ∀ r ∈ R, RwGood ns ls r) (u : R.Pairwise unlike) : skJ ns sl sv ss = .inr (ls, R) := by
  have e1 : labsJ (ls.map V.int) [] = .inr ls := labs_run (ls0 := []) lo.asc lo.bd
  have e2 : rowsJ ns ls ss [] = .inr R := rows_run (R0 := []) p g u
  unfold skJ
  rw [ql, qv, if_pos rfl, if_pos rfl, il, List.length_map, if_pos lo.l6, e1]
  show (match rowsJ ns ls ss [] with | .inl p => .inl p | .inr R => .inr (ls, R) : Sum (Nat × Str) (List Int × List (List Int))) = _
  rw [e2]
theorem skJ_seq {ns : List Int} {sl sv sv' : Sh} {ss : List Sh} (h : (sv.isL || sv.isT) = true) (h' : (sv'.isL || sv'.isT) = true) : skJ ns sl sv ss = skJ ns sl sv' ss := by
  unfold skJ
  rw [h, h']
theorem rsh_T : ∀ L : List (List Int), Paired RowSh (shT L) L
  | [] => .nil
  | _ :: L => .cons ⟨rfl, rfl⟩ (rsh_T L)
theorem rsh_L : ∀ L : List (List Int), Paired RowSh (shL L) L
  | [] => .nil
  | _ :: L => .cons ⟨rfl, rfl⟩ (rsh_L L)
/-- known rows are turned, in order and unlike each other -/
structure KnK (ns ls : List Int) (Kn : List (List Int)) : Prop where
  good : ∀ r ∈ Kn, RwGood ns ls r
  un : Kn.Pairwise unlike
  turned : ∀ r ∈ Kn, turnR ns r = r
  ord : Kn.Pairwise fun q r => TS.code big q ≤ TS.code big r
  len : Kn.length ≤ 40
  lt : ∀ r ∈ Kn, r0 r < r1 r
theorem turn_unlike {ns ls : List Int} {r s : List Int} (g : RwGood ns ls r) (g' : RwGood ns ls s) (u : unlike r s) : unlike (turnR ns r) (turnR ns s) := by
  obtain ⟨a, b, t, rfl, _⟩ := g
  obtain ⟨c, d, t', rfl, _⟩ := g'
  have k : ∀ x y z : Int, (r0 (turnR ns [x, y, z]) = x ∧ r1 (turnR ns [x, y, z]) = y) ∨ (r0 (turnR ns [x, y, z]) = y ∧ r1 (turnR ns [x, y, z]) = x) := fun x y z => by
    show (r0 (turn3 ns x y z) = x ∧ r1 (turn3 ns x y z) = y) ∨ (r0 (turn3 ns x y z) = y ∧ r1 (turn3 ns x y z) = x)
    unfold turn3
    split
    · exact .inl ⟨rfl, rfl⟩
    · exact .inr ⟨rfl, rfl⟩
  have u : ¬ ((a = c ∧ b = d) ∨ (a = d ∧ b = c)) := u
  have k1 := k a b t
  have k2 := k c d t'
  unfold unlike
  omega
theorem IsKn.knK {ns ls : List Int} {R Kn : List (List Int)} (gb : GoodB ns) (kr : KnR ns ls R) (h : IsKn ns R Kn) : KnK ns ls Kn := by
  have at_ : ∀ r ∈ Kn, ∃ r' ∈ R, turnR ns r' = r := fun r hr => List.mem_map.mp (h.1.mem_iff.mp hr)
  refine ⟨fun r hr => ?_, ?_, fun r hr => ?_, h.2, by rw [h.len]; exact kr.len, fun r hr => ?_⟩
  · obtain ⟨r', hr', rfl⟩ := at_ r hr
    exact (turn_again gb (kr.good r' hr')).1
  · refine (List.Perm.pairwise_iff (fun h => unlike_symm h) h.1).mpr ?_
    rw [List.pairwise_map]
    exact kr.un.imp_of_mem fun {a b} ha hb u => turn_unlike (kr.good a ha) (kr.good b hb) u
  · obtain ⟨r', hr', rfl⟩ := at_ r hr
    exact (turn_again gb (kr.good r' hr')).2.1
  · obtain ⟨r', hr', rfl⟩ := at_ r hr
    exact (turn_again gb (kr.good r' hr')).2.2
theorem KnK.drop {ns ls : List Int} {Kn : List (List Int)} (h : KnK ns ls Kn) (i : Nat) : KnK ns ls (Kn.drop i) :=
  ⟨fun r hr => h.good r (List.mem_of_mem_drop hr), h.un.sublist (List.drop_sublist _ _), fun r hr => h.turned r (List.mem_of_mem_drop hr), h.ord.sublist (List.drop_sublist _ _), by rw [List.length_drop]; have := h.len; omega, fun r hr => h.lt r (List.mem_of_mem_drop hr)⟩
theorem KnK.is {ns ls : List Int} {Kn : List (List Int)} (h : KnK ns ls Kn) : IsKn ns Kn Kn := by
  have e : Kn.map (turnR ns) = Kn := by
    have : Kn.map (turnR ns) = Kn.map id := List.map_congr_left fun r hr => h.turned r hr
    rw [this, List.map_id]
  exact ⟨by rw [e], h.ord⟩
theorem KnK.rows3 {ns ls : List Int} {Kn : List (List Int)} (h : KnK ns ls Kn) : Rows3 Kn := fun r hr => by
  obtain ⟨a, b, t, e, _⟩ := h.good r hr
  exact ⟨a, b, t, e⟩
/-- a sketch of good labels and rows is made -/
theorem mk_sk {C CB CS CE : Addr} {b : Addr} {ns ls : List Int} {L R K0 : List (List Int)} {l v : V} {sl sv : Sh} {ss : List Sh} {H : Hp} {E : XK} {R' : Addr → VK} (hB : BookAt C CB H b ns L) (gb : GoodB ns) (isl : Is H l sl) (isv : Is H v sv) (sa : ShAll H (items sv) ss) (l100 : ss.length ≤ 100)
    (lo : LabOkL ls) (ql : (sl.isL || sl.isT) = true) (il : items sl = ls.map V.int) (qv : (sv.isL || sv.isT) = true) (p : Paired RowSh ss R) (g : ∀ r ∈ R, RwGood ns ls r) (u : R.Pairwise unlike) (ik : IsKn ns R K0)
    (k : ∀ H' x, Same H H' → H x = none → SkAt C CB CS H' x ns L ls K0 → R' x .non H') :
    ∀ x dx, H x = none → H dx = none → dx ≠ x → spSI C CB CS CE [.ref x, .ref b, l, v] (upd (upd H dx (.own x)) x (.ins CS dx [])) (R' x) E := by
  have sk := skJ_ok (sv := sv) lo ql il qv p g u
  refine mk_sketch hB gb isl (by rw [il]; exact known_nums) isv sa l100 (fun j u' e => by rw [sk] at e; cases e) fun ls' Ro Kn e ikn H' x S nx s => ?_
  rw [sk] at e
  obtain ⟨rfl, rfl⟩ := Prod.mk.inj (Sum.inr.inj e)
  obtain rfl := IsKn.uniq gb g g (List.Perm.refl _) ik ikn
  exact k H' x S nx s
theorem new_sk {C CB CS CE : Addr} {ns ls : List Int} {L R K0 : List (List Int)} {sv : Sh} {ss : List Sh} {H : Hp} {E : XK} {Q : VK} (gb : GoodB ns) (lo : LabOkL ls) (qv : (sv.isL || sv.isT) = true) (p : Paired RowSh ss R) (g : ∀ r ∈ R, RwGood ns ls r) (u : R.Pairwise unlike) (ik : IsKn ns R K0)
    (k : ∀ H' x, Same H H' → H x = none → SkAt C CB CS H' x ns L ls K0 → Q (.ref x) H') : NewSk C CB CS CE H E Q ns L ls sv ss := by
  have sk := skJ_ok (sl := .tup (ls.map V.int)) (sv := sv) lo rfl rfl qv p g u
  refine ⟨(fun j u' e => by rw [sk] at e; cases e), fun ls' Ro Kn e ikn H' x S nx s => ?_⟩
  rw [sk] at e
  obtain ⟨rfl, rfl⟩ := Prod.mk.inj (Sum.inr.inj e)
  obtain rfl := IsKn.uniq gb g g (List.Perm.refl _) ik ikn
  exact k H' x S nx s
end J

set_option Elab.async false
set_option linter.all false
set_option maxRecDepth 100000
set_option maxHeartbeats 4000000
namespace J
open PySem PySem.Spec PyProof.Rows L2
/-! ### books put together: the mathematics -/
/-- barred threes as a book holds them: all readings of each, in their order -/
structure Cl (ns : List Int) (L : List (List Int)) : Prop where
  o : (A3 ns.length ns.length).filter (inL L) = L
  c : ∀ t u, u ∈ A3 ns.length ns.length → inR ns t u = true → u ∈ L → t ∈ L
theorem Cl.sub {ns : List Int} {L : List (List Int)} (h : Cl ns L) : ∀ t ∈ L, t ∈ A3 ns.length ns.length := fun t ht => by
  rw [← h.o] at ht
  exact (List.mem_filter.mp ht).1
theorem Cl.len {ns : List Int} {L : List (List Int)} (h : Cl ns L) (g : GoodB ns) : L.length ≤ 64 := by
  rw [← h.o]
  exact Nat.le_trans (List.length_filter_le _ _) (A3_len _ g.hi)
theorem cl_brd {ns : List Int} {ts : List (List Int)} (g : GoodB ns) (ha : ∀ u ∈ ts, u ∈ A3 ns.length ns.length) : Cl ns (brd ns ts) := ⟨inL_brd, fun t u _ h hu => brd_in g ha h hu⟩
theorem cl_filter {ns : List Int} {p : List Int → Bool} (g : GoodB ns) (h : ∀ t u, u ∈ A3 ns.length ns.length → inR ns t u = true → p u = true → p t = true) : Cl ns ((A3 ns.length ns.length).filter p) :=
  ⟨filt_self, fun t u hu e q => List.mem_filter.mpr ⟨inR_A3 g hu e, h t u hu e (List.mem_filter.mp q).2⟩⟩
theorem Cl.two {ns : List Int} {L : List (List Int)} (h : Cl ns L) (g : GoodB ns) {t u : List Int} (hu : u ∈ A3 ns.length ns.length) (e : inR ns t u = true) : t ∈ L ↔ u ∈ L :=
  ⟨fun q => h.c u t (inR_A3 g hu e) (inR_swap g hu e) q, fun q => h.c t u hu e q⟩
theorem brd_same {ns : List Int} {us ts : List (List Int)} (h : ∀ u, u ∈ us ↔ u ∈ ts) : brd ns us = brd ns ts := by
  unfold brd
  refine List.filter_congr fun x _ => ?_
  rw [Bool.eq_iff_iff, List.any_eq_true, List.any_eq_true]
  exact ⟨fun ⟨u, a, b⟩ => ⟨u, (h u).mp a, b⟩, fun ⟨u, a, b⟩ => ⟨u, (h u).mpr a, b⟩⟩
def orL (ns : List Int) (L M : List (List Int)) : List (List Int) := (A3 ns.length ns.length).filter fun t => inL L t || inL M t
def andL (ns : List Int) (L M : List (List Int)) : List (List Int) := (A3 ns.length ns.length).filter fun t => inL L t && inL M t
def addL (ns : List Int) (L : List (List Int)) (c : List Int) : List (List Int) := (A3 ns.length ns.length).filter fun t => inL L t || inR ns t c
def butL (ns : List Int) (L : List (List Int)) (c : List Int) : List (List Int) := (A3 ns.length ns.length).filter fun t => inL L t && !inR ns t c
theorem inL_iff {L : List (List Int)} {t : List Int} : inL L t = true ↔ t ∈ L := decide_eq_true_iff
theorem or_cl {ns : List Int} {L M : List (List Int)} (g : GoodB ns) (a : Cl ns L) (b : Cl ns M) : ∀ t u, u ∈ A3 ns.length ns.length → inR ns t u = true → (inL L u || inL M u) = true → (inL L t || inL M t) = true := fun t u hu e h => by
  rw [Bool.or_eq_true, inL_iff, inL_iff] at h ⊢
  rwa [a.two g hu e, b.two g hu e]
theorem and_cl {ns : List Int} {L M : List (List Int)} (g : GoodB ns) (a : Cl ns L) (b : Cl ns M) : ∀ t u, u ∈ A3 ns.length ns.length → inR ns t u = true → (inL L u && inL M u) = true → (inL L t && inL M t) = true := fun t u hu e h => by
  rw [Bool.and_eq_true, inL_iff, inL_iff] at h ⊢
  rwa [a.two g hu e, b.two g hu e]
theorem inR_two {ns : List Int} {t u c : List Int} (g : GoodB ns) (hc : c ∈ A3 ns.length ns.length) (hu : u ∈ A3 ns.length ns.length) (e : inR ns t u = true) : inR ns t c = inR ns u c := by
  rw [Bool.eq_iff_iff]
  exact ⟨fun q => inR_trans g hc (inR_swap g hu e) q, fun q => inR_trans g hc e q⟩
theorem add_cl {ns : List Int} {L : List (List Int)} {c : List Int} (g : GoodB ns) (a : Cl ns L) (hc : c ∈ A3 ns.length ns.length) : ∀ t u, u ∈ A3 ns.length ns.length → inR ns t u = true → (inL L u || inR ns u c) = true → (inL L t || inR ns t c) = true := fun t u hu e h => by
  rw [Bool.or_eq_true, inL_iff] at h ⊢
  rwa [a.two g hu e, inR_two g hc hu e]
theorem but_cl {ns : List Int} {L : List (List Int)} {c : List Int} (g : GoodB ns) (a : Cl ns L) (hc : c ∈ A3 ns.length ns.length) : ∀ t u, u ∈ A3 ns.length ns.length → inR ns t u = true → (inL L u && !inR ns u c) = true → (inL L t && !inR ns t c) = true := fun t u hu e h => by
  rw [Bool.and_eq_true, inL_iff] at h ⊢
  rwa [a.two g hu e, inR_two g hc hu e]
theorem cl_or {ns : List Int} {L M : List (List Int)} (g : GoodB ns) (a : Cl ns L) (b : Cl ns M) : Cl ns (orL ns L M) := cl_filter g (or_cl g a b)
theorem cl_and {ns : List Int} {L M : List (List Int)} (g : GoodB ns) (a : Cl ns L) (b : Cl ns M) : Cl ns (andL ns L M) := cl_filter g (and_cl g a b)
theorem brd_cat {ns : List Int} {L M : List (List Int)} (g : GoodB ns) (a : Cl ns L) (b : Cl ns M) : brd ns (L ++ M) = orL ns L M := by
  rw [← show _ = orL ns L M from brd_closed g (or_cl g a b)]
  refine brd_same fun u => ?_
  rw [List.mem_append, List.mem_filter, Bool.or_eq_true, inL_iff, inL_iff]
  exact ⟨fun h => ⟨h.elim (a.sub u) (b.sub u), h⟩, fun h => h.2⟩
theorem brd_both {ns : List Int} {L M : List (List Int)} (g : GoodB ns) (a : Cl ns L) (b : Cl ns M) : brd ns (L.filter fun t => decide (t ∈ M)) = andL ns L M := by
  rw [← show _ = andL ns L M from brd_closed g (and_cl g a b)]
  refine brd_same fun u => ?_
  rw [List.mem_filter, List.mem_filter, Bool.and_eq_true, inL_iff, inL_iff]
  exact ⟨fun h => ⟨a.sub u h.1, h.1, h.2⟩, fun h => ⟨h.2.1, h.2.2⟩⟩
theorem brd_add {ns : List Int} {L : List (List Int)} {c : List Int} (g : GoodB ns) (a : Cl ns L) (hc : c ∈ A3 ns.length ns.length) : brd ns (L ++ [c]) = addL ns L c := by
  rw [← show _ = addL ns L c from brd_closed g (add_cl g a hc)]
  refine brd_eq g (fun u hu => ?_) (fun u hu => (List.mem_filter.mp hu).1) fun t ht => ?_
  · rcases List.mem_append.mp hu with q | q
    · exact a.sub u q
    · rw [List.mem_singleton.mp q]; exact hc
  · constructor
    · rintro ⟨u, hu, e⟩
      rcases List.mem_append.mp hu with q | q
      · exact ⟨u, List.mem_filter.mpr ⟨a.sub u q, by rw [Bool.or_eq_true, inL_iff]; exact .inl q⟩, e⟩
      · rw [List.mem_singleton.mp q] at e
        exact ⟨c, List.mem_filter.mpr ⟨hc, by rw [Bool.or_eq_true, inR_self hc]; exact .inr rfl⟩, e⟩
    · rintro ⟨u, hu, e⟩
      obtain ⟨h1, h2⟩ := List.mem_filter.mp hu
      rw [Bool.or_eq_true, inL_iff] at h2
      rcases h2 with q | q
      · exact ⟨u, List.mem_append_left _ q, e⟩
      · exact ⟨c, List.mem_append_right _ List.mem_cons_self, inR_trans g hc e q⟩
theorem brd_less {ns : List Int} {L R : List (List Int)} {p q r : Int} (g : GoodB ns) (a : Cl ns L) (hc : [p, q, r] ∈ A3 ns.length ns.length) (hR : RdL ns p q r R) : brd ns (L.filter fun t => !decide (t ∈ R)) = butL ns L [p, q, r] := by
  rw [← show _ = butL ns L [p, q, r] from brd_closed g (but_cl g a hc)]
  refine brd_same fun u => ?_
  rw [List.mem_filter, List.mem_filter, Bool.and_eq_true, inL_iff]
  have e : inR ns u [p, q, r] = decide (u ∈ R) := by
    show decide (u ∈ six ns p q r) = _
    rw [Bool.eq_iff_iff, decide_eq_true_iff, decide_eq_true_iff]
    exact (hR.2 u).symm
  rw [e]
  exact ⟨fun h => ⟨a.sub u h.1, h⟩, fun h => h.2⟩
/-- the least of each class that a closed test keeps tells what it keeps -/
theorem brd_cls {ns : List Int} {p : List Int → Bool} (g : GoodB ns) (h : ∀ t u, u ∈ A3 ns.length ns.length → inR ns t u = true → p u = true → p t = true) : brd ns (((A3 ns.length ns.length).filter (isL ns)).filter p) = (A3 ns.length ns.length).filter p := by
  rw [← brd_closed g h]
  refine brd_eq g (fun u hu => (List.mem_filter.mp (List.mem_filter.mp hu).1).1) (fun u hu => (List.mem_filter.mp hu).1) fun t ht => ?_
  constructor
  · rintro ⟨u, hu, e⟩
    obtain ⟨h1, h2⟩ := List.mem_filter.mp hu
    exact ⟨u, List.mem_filter.mpr ⟨(List.mem_filter.mp h1).1, h2⟩, e⟩
  · rintro ⟨u, hu, e⟩
    obtain ⟨h1, h2⟩ := List.mem_filter.mp hu
    obtain ⟨v, hv, l, e2⟩ := least_ex g h1
    exact ⟨v, List.mem_filter.mpr ⟨List.mem_filter.mpr ⟨hv, l⟩, h v u h1 e2 h2⟩, inR_trans g hv e (inR_swap g h1 e2)⟩
end J

set_option Elab.async false
set_option linter.all false
set_option maxRecDepth 100000
set_option maxHeartbeats 4000000
namespace J
open PySem PySem.Spec PyProof.Rows L2
/-! ### _law_any_world, _law_both -/
theorem ixL {K : PySem.W.Frag} {H : Hp} {p : Addr} {xs : List V} {z : Int} {j : Nat} {v : V} {Q : VK} (h : H p = some (.lst xs)) (e : z = (j : Nat)) (g : xs[j]? = some v) (q : Q v H) : rIxL K (.ref p) (.int z) H Q := ⟨p, xs, z, v, rfl, rfl, SqL.of h, at_of e g, q⟩
/-- a list of threes that grows while the hand changes -/
structure GroH (h q : Addr) (H1 H : Hp) (D : Addr) (L : List (List Int)) : Prop where
  B : But h H1 H
  hh : Hand H h q
  f : H1 D = none
  nh : D ≠ h
  nq : D ≠ q
  l : LstsAt H D L
theorem GroH.nil {h q D : Addr} {H1 : Hp} (hh : Hand H1 h q) (hD : H1 D = none) : GroH h q H1 (upd H1 D (.lst [])) D [] := by
  obtain ⟨n1, n2⟩ := hh.same_h' hD
  exact ⟨But.new hD, hh.new hD, hD, n1, n2, [], upd_same, rfl, fun j a ts e => by cases e⟩
theorem GroH.step {h q D : Addr} {H1 H H' : Hp} {L : List (List Int)} (G : GroH h q H1 H D L) (B : But h H H') (hh : Hand H' h q) : GroH h q H1 H' D L := by
  obtain ⟨us, eh⟩ : ∃ us, H h = some (.lst us) := by
    obtain ⟨cs, i, r, t, e1, _⟩ := G.hh
    exact ⟨_, e1⟩
  exact ⟨G.B.trans B, hh, G.f, G.nh, G.nq, G.l.but eh G.nh B⟩
theorem GroH.app {h q D z : Addr} {H1 H : Hp} {L : List (List Int)} {t : List Int} (G : GroH h q H1 H D L) (ez : H z = some (.tup (t.map V.int))) : ∃ acc, H D = some (.lst acc) ∧ acc.length = L.length ∧ GroH h q H1 (upd H D (.lst (acc ++ [.ref z]))) D (L ++ [t]) := by
  obtain ⟨ps, e1, e2, e3⟩ := id G.l
  refine ⟨_, e1, by rw [List.length_map, e2], G.B.put2 G.f, G.hh.put G.nh.symm G.nq.symm, G.f, G.nh, G.nq, G.l.push e1 ez⟩
abbrev s_Lany_world : Stmt := top 48
theorem sc_Lany_world : FnScope ["_law_hand_here", "_law_many", "_law_backs_here", "_law_share", "_law_three"] ["_law_hand_here", "_law_many"] (defScope s_Lany_world) := ⟨rfl, rfl, rfl, by decide +kernel, rfl, by decide +kernel, by decide +kernel⟩
def spAW : Sp := fun vs H Q _ => ∃ (h q : Addr) (m : Int), vs = [.ref h, .int m] ∧ 2 ≤ m ∧ m ≤ 4 ∧ Hand H h q ∧ ∀ (H' : Hp) (x : Addr) (ns : List Int) (L : List (List Int)), (ns.length : Nat) = m → GoodB ns → But h H H' → Hand H' h q → WAt H' x ns L → Cl ns L → Q (.ref x) H'
def bothL (ns : List Int) (way : Int) (L M : List (List Int)) : List (List Int) := if way = 0 then orL ns L M else andL ns L M
def spBoth : Sp := fun vs H Q _ => ∃ (x y : Addr) (ns : List Int) (L M : List (List Int)) (way : Int), vs = [.ref x, .ref y, .int way] ∧ WAt H x ns L ∧ WAt H y ns M ∧ GoodB ns ∧ Cl ns L ∧ Cl ns M ∧ ∀ (H' : Hp) (z : Addr), Same H H' → WAt H' z ns (bothL ns way L M) → Q (.ref z) H'
theorem lsts_thr {H : Hp} {z : Addr} {L : List (List Int)} (h : LstsAt H z L) : ∃ xs, H z = some (.lst xs) ∧ ThrAt H xs L := by
  obtain ⟨ps, e1, e2, e3⟩ := h
  refine ⟨_, e1, ?_⟩
  have : ∀ {ps : List Addr} {L : List (List Int)}, ps.length = L.length → (∀ (j : Nat) (a : Addr) (ts : List Int), ps[j]? = some a → L[j]? = some ts → H a = some (.tup (ts.map V.int))) → ThrAt H (ps.map V.ref) L := by
    intro ps
    induction ps with
    | nil => intro L h _; cases L with
      | nil => exact .nil
      | cons => cases h
    | cons p ps ih => intro L h f; cases L with
      | nil => cases h
      | cons t L => exact .cons ⟨.tup (t.map V.int), ⟨p, rfl, f 0 p t rfl rfl⟩, rfl, rfl⟩ (ih (Nat.succ.inj h) fun j a b e1 e2 => f (j + 1) a b (by simpa using e1) (by simpa using e2))
  exact this e2 e3
theorem map3 {p q r : Int} : ([p, q, r] : List Int).map V.int = [.int p, .int q, .int r] := rfl
/-- a three of the classes, by its numbers -/
theorem A3_nat {n : Nat} {t : List Int} (h : t ∈ A3 n n) : ∃ p q r : Nat, p < n ∧ q < n ∧ r < n ∧ t = [(p : Int), (q : Int), (r : Int)] := A3_mem.mp h
theorem fB_in {L : List (List Int)} {p q r : Nat} : (!fB L p q r) = inL L [(p : Int), (q : Int), (r : Int)] := by
  unfold fB
  rw [Bool.not_not]
section
variable {P : Program} {w : World} {K : PySem.W.Frag} {mg : Str → Option Value} {base : Heap}
theorem ok_Lany_world {f fB fD fC fL : Addr} {fd fdB fdD fdC fdL : FuncData} (F : Fun K "_law_any_world" "_law_any_world" s_Lany_world f fd) (GB : Cal P w K mg base CX0 3 "_law_backs" fB fdB ["_law_hand_here", "_law_many"] spBacks) (GD : Cal P w K mg base CX0 2 "_law_draw" fD fdD ["_law_hand_here", "_law_many"] spDraw)
    (GC : Cal P w K mg base CX0 2 "_law_classes" fC fdC ["_law_backs_here"] spLC) (GL : Cal P w K mg base CX0 2 "_law_let" fL fdL ["_law_backs_here", "_law_classes_here"] spLL) : FnOk P w K mg base CX0 4 f fd ["_law_hand_here", "_law_many"] spAW := by
  refine F.ok sc_Lany_world (fun vs H Q E h => ?_) (fun cdv A outer s H vs Q E hr h => ?_)
  · obtain ⟨h, q, m, rfl, _⟩ := h
    rfl
  · obtain ⟨h, q, m, rfl, m2, m4, hh, k⟩ := h
    refine ⟨_, (pss_cons 
  (ps_set (i := 2) sc_Lany_world.nd rfl (Or.inl rfl) (pcal GB hr pass0 (pa_cons (pv 0) (pa_cons (pv 1) pa_nil)))) (pss_cons 
  (ps_set (i := 3) sc_Lany_world.nd rfl (Or.inr rfl) (pe_op op_add pe_int (pcal GD hr pass0 (pa_cons (pv 0) (pa_cons pe_int pa_nil))))) (pss_one 
  (ps_ret (pe_tup (pa_cons (pv 2) (pa_cons (pcal GL hr pass0 (pa_cons (pv 2) (pa_cons (pe_lc (own := [("_law_three", 4)]) (g := gName 4) (by rfl) sc_Lany_world.nd (pi_list (pcal GC hr pass0 (pa_cons (pv 2) pa_nil))) (blkOk_by (own := [("_law_three", 4)]) (N := ["_law_hand_here", "_law_many", "_law_backs_here", "_law_share", "_law_three"]) (sc := defScope s_Lany_world) (by decide +kernel)) (fun _ _ _ _ _ => pg_name (i := 4) sc_Lany_world.nd rfl (Or.inl rfl)) (fun _ _ _ _ _ => pts_one (pt_cmpR op_eq (pcal GD hr pass0 (pa_cons (pv 0) (pa_cons (pv 3) pa_nil))) pe_int (nomark _))) (fun _ _ _ _ _ => (pv 4))) pa_nil))) pa_nil))))))), ?_⟩
    refine ⟨_, rfl, _, rfl, h, q, m, rfl, m2, m4, hh, fun ns b H1 ln gb B1 nb eb h1 => ?_⟩
    refine ⟨_, rfl, h, q, 3, rfl, by decide, by decide, h1, fun v H2 v0 v3 B2 h2 => ⟨_, _, rfl, rfl, ?_⟩⟩
    have nbh := (hand_free hh nb)
    have eb2 := B2 _ _ nbh eb
    refine ⟨_, rfl, _, rfl, _, rfl, b, ns, rfl, eb2, gb, fun H3 z S3 nz Lz => ?_⟩
    have h3 := h2.keep S3
    have eb3 := S3 _ _ eb2
    obtain ⟨us3, eh3⟩ : ∃ us, H3 h = some (.lst us) := by
      obtain ⟨cs, i, r, t, e1, _⟩ := h3
      exact ⟨_, e1⟩
    have nzh := hand_free h2 nz
    obtain ⟨ps, e1, e2, e3⟩ := id Lz
    refine ⟨z, rfl, ⟨_, SqL.of e1⟩, fun D hD => ?_⟩
    refine lc_list (K := K) (a := z) (xs := ps.map V.ref) (fun i H4 => ∃ cs, GroH h q H3 H4 D cs ∧ cs.length ≤ i ∧ ∀ c ∈ cs, c ∈ A3 ns.length ns.length) ⟨[], GroH.nil h3 hD, Nat.le_refl _, fun c hc => by cases hc⟩ (fun i H4 _ ⟨cs, G, _⟩ => SqL.of (G.B _ _ nzh e1)) ?_ ?_
    · rintro i y H4 hy ⟨cs, G, lc, ca⟩
      rw [List.getElem?_map] at hy
      cases ea : ps[i]? with
      | none =>
        rw [ea] at hy
        cases hy
      | some a =>
        rw [ea] at hy
        obtain rfl : V.ref a = y := Option.some.inj hy
        have li := (List.getElem?_eq_some_iff.mp ea).1
        have el := List.getElem?_eq_getElem (l := (A3 ns.length ns.length).filter (isL ns)) (i := i) (by omega)
        have lt : i < 64 := by
          have := List.length_filter_le (isL ns) (A3 ns.length ns.length)
          have := A3_len _ gb.hi
          omega
        have mt := (List.mem_filter.mp (List.mem_of_getElem? el)).1
        generalize ((A3 ns.length ns.length).filter (isL ns))[i]'(by omega) = t at el mt
        have ha := e3 i a t ea el
        have ha4 : H4 a = some (.tup (t.map V.int)) := G.B _ _ (fun e => by rw [e, eh3] at ha; cases ha) ha
        refine ⟨rfl, _, rfl, _, rfl, h, q, 2 + v, rfl, by omega, by omega, G.hh, fun u H5 u0 u1 B5 h5 => ⟨rfl, _, rfl, ?_⟩⟩
        have G5 := G.step B5 h5
        have ha5 : H5 a = some (.tup (t.map V.int)) := B5 _ _ (fun e => by rw [e, eh3] at ha; cases ha) ha4
        refine ifD (fun c => ?_) (fun c => ⟨cs, G5, by omega, ca⟩)
        obtain ⟨acc, q1, q2, q3⟩ := G5.app ha5
        refine ⟨_, rfl, acc, q1, by rw [q2]; exact small1000 (by omega), cs ++ [t], q3, by rw [List.length_append]; show _ + 1 ≤ _; omega, fun c hc => ?_⟩
        rcases List.mem_append.mp hc with hc | hc
        · exact ca c hc
        · rw [List.mem_singleton.mp hc]; exact mt
    · rintro H4 ⟨cs, G, lc, ca⟩
      obtain ⟨xs, ex, thr⟩ := lsts_thr G.l
      have eb4 := G.B _ _ nbh eb3
      refine ⟨b, D, ns, xs, cs, rfl, eb4, gb, ex, thr, ca, fun H5 z5 po ro W5 => ?_⟩
      refine ⟨(by show 2 ≤ sizeLine; decide), fun x hx => ?_⟩
      have S6 := new_same (o := .tup [.ref b, .ref z5]) hx
      have W6 := W5.keep S6
      refine k _ x ns _ ln gb ?_ ((G.hh.keep W5.S).keep S6) (W6.world (S6 _ _ (W5.S _ _ eb4)) upd_same) (cl_brd gb ca)
      exact (((B1.trans B2).trans (But.same S3)).trans G.B).trans (But.same (W5.S.trans S6))
end
theorem Cl.brd {ns : List Int} {L : List (List Int)} (g : GoodB ns) (h : Cl ns L) : brd ns L = L := by
  have e := brd_closed (p := inL L) g (fun t u hu e q => inL_iff.mpr (h.c t u hu e (inL_iff.mp q)))
  rw [h.o] at e
  exact e
/-- what is handed in for the first classes -/
theorem eqv_tupL (L M : List (List Int)) : PyData.eqv (.list (tupsD L)) (.list (tupsD M)) = decide (L = M) := by
  rw [← eqv_tups]
  simp [PyData.eqv]
end J

set_option Elab.async false
set_option linter.all false
set_option maxRecDepth 100000
set_option maxHeartbeats 16000000
namespace J
open PySem PySem.Spec PyProof.Rows L2
theorem eqv_tnil {R : List (List Int)} : PyData.eqv (.tuple (tupsD R)) (.tuple ([].map PyData.int)) = decide (R = []) := by
  cases R with
  | nil => simp [tupsD, PyData.eqv, PyData.eqvAll]
  | cons r R => simp [tupsD, PyData.eqv, PyData.eqvAll]
theorem SkAt.obj {C CB CS : Addr} {H : Hp} {z : Addr} {ns : List Int} {L : List (List Int)} {ls : List Int} {Kn : List (List Int)} (h : SkAt C CB CS H z ns L ls Kn) : ∃ dx fs, H z = some (.ins CS dx fs) := by
  obtain ⟨dx, b, l, k, d, a1, _⟩ := h
  exact ⟨dx, _, a1⟩
structure LabS (ls : List Int) : Prop where
  asc : Asc ls
  bd : ∀ n ∈ ls, 0 ≤ n ∧ n < 1000000000
  l6 : ls.length ≤ 6
theorem LabS.ok {ls : List Int} (h : LabS ls) : LabOkL ls := ⟨h.asc, fun n hn => by have := h.bd n hn; omega, h.l6⟩
theorem LabS.tail {ls : List Int} (h : LabS ls) : LabOkL (ls.drop 1) := ⟨fun i a b e1 e2 => by
  rw [List.getElem?_drop] at e1 e2
  exact h.asc (1 + i) a b e1 (by rw [show 1 + i + 1 = 1 + (i + 1) by omega]; exact e2), fun n hn => by have := h.bd n (List.mem_of_mem_drop hn); omega, by rw [List.length_drop]; have := h.l6; omega⟩
theorem LabS.more {ls : List Int} {m : Int} (h : LabS ls) (h5 : ls.length < 6) (hm : m ∈ ls ++ [0]) (mx : ∀ y ∈ ls ++ [0], y ≤ m) : LabOkL (ls ++ [m + 1]) := by
  have m0 : 0 ≤ m := mx 0 (List.mem_append_right _ (List.mem_singleton.mpr rfl))
  have mb : m < 1000000000 := by
    rcases List.mem_append.mp hm with q | q
    · exact (h.bd m q).2
    · rw [List.mem_singleton.mp q]; decide
  refine ⟨fun i a b e1 e2 => ?_, fun n hn => ?_, by rw [List.length_append]; show _ + 1 ≤ 6; omega⟩
  · have hi := (List.getElem?_eq_some_iff.mp e2).1
    rw [List.length_append] at hi
    have hi : i + 1 < ls.length + 1 := hi
    rw [List.getElem?_append_left (by omega)] at e1
    rcases Nat.lt_or_ge (i + 1) ls.length with c | c
    · rw [List.getElem?_append_left c] at e2
      exact h.asc i a b e1 e2
    · rw [List.getElem?_append_right c, show i + 1 - ls.length = 0 by omega] at e2
      have e2 : some (m + 1) = some b := e2
      have := Option.some.inj e2
      have := mx a (List.mem_append_left _ (List.mem_of_getElem? e1))
      omega
  · rcases List.mem_append.mp hn with q | q
    · have := h.bd n q; omega
    · rw [List.mem_singleton.mp q]; omega
theorem asg_nx {i : Nat} {v : V} {σ : L2.St} {H : Hp} {N : L2.St → Hp → Prop} (h : N (σ.set i (some v)) H) : gName i v σ H N := h
theorem seq_same {A B : TS} {D : Ends} {σ : L2.St} {H : Hp} (h1 : ∀ N : L2.St → Hp → Prop, (∀ H', Same H H' → N σ H') → A { D with nx := N } σ H) (h2 : ∀ H', Same H H' → B D σ H') : tSeq A B D σ H := h1 (B D) h2
theorem or_no {A B : TT} {σ : L2.St} {H : Hp} {Q : Bool → Hp → Prop} (hA : ∀ Q' : Bool → Hp → Prop, (∀ H', Same H H' → Q' false H') → A σ H Q') (hB : ∀ H', Same H H' → B σ H' Q) : tOr A B σ H Q := hA _ fun H' S => if_fa rfl (hB H' S)
theorem cut_one {xs : List V} (h : 0 < xs.length) : cutV xs (some 1) none = xs.drop 1 := cutV_drop (i := 0) h
theorem cut_tail {xs : List V} : cutV xs (some 1) none = xs.drop 1 := by
  cases xs with
  | nil => rfl
  | cons x xs => exact cut_one (Nat.succ_pos _)
abbrev s_Lequal : Stmt := top 60
abbrev Neq : List Str := ["_law_world", "_law_book", "_law_labels_here", "_law_rows", "_law_known_here", "_law_sketch", "_law_again", "_law_others", "_law_row"]
theorem sc_Lequal : FnScope Neq ["_law_world", "_law_book", "_law_labels_here", "_law_rows", "_law_known_here", "_law_sketch"] (defScope s_Lequal) := ⟨rfl, rfl, rfl, by decide +kernel, rfl, by decide +kernel, by decide +kernel⟩
/-- a world, its book, labels, rows, a sketch of them -/
structure Eqs (C CB CS x b l r kk z : Addr) (ns ls : List Int) (L R K0 : List (List Int)) (H : Hp) : Prop where
  W : WAt H x ns L
  gb : GoodB ns
  cL : Cl ns L
  B : BookAt C CB H b ns L
  el : H l = some (.lst (ls.map V.int))
  lo : LabS ls
  Rw : LstsAt H r R
  kr : KnR ns ls R
  ik : IsKn ns R K0
  Kt : TupsAt H kk K0
  Z : SkAt C CB CS H z ns L ls K0
theorem Eqs.keep {C CB CS x b l r kk z : Addr} {ns ls : List Int} {L R K0 : List (List Int)} {H H' : Hp} (c : Eqs C CB CS x b l r kk z ns ls L R K0 H) (S : Same H H') : Eqs C CB CS x b l r kk z ns ls L R K0 H' := ⟨c.W.keep S, c.gb, c.cL, c.B.keep S, S _ _ c.el, c.lo, c.Rw.keep S, c.kr, c.ik, c.Kt.keep S, c.Z.keep S⟩
def spLEq (C CB CS : Addr) : Sp := fun vs H Q _ => ∃ (x b l r kk z : Addr) (ns ls : List Int) (L R K0 : List (List Int)), vs = [.ref x, .ref b, .ref l, .ref r, .ref kk, .ref z] ∧ Eqs C CB CS x b l r kk z ns ls L R K0 H ∧ ∀ H', Same H H' → Q (.bl true) H'
theorem seqs_is {H : Hp} {z : Addr} {ns : List Int} (e : H z = some (.lst (ns.map V.int))) : Is H (.ref z) (.lst (ns.map V.int)) := ⟨z, rfl, e⟩
section
variable {P : Program} {w : World} {K : PySem.W.Frag} {mg : Str → Option Value} {base : Heap}
theorem ok_Lequal {f C CB CS CE CBk CBb fI fO fQ fT fJ fB dv dw : Addr} {fd fdI fdO fdQ fdT fdJ fdB : FuncData} (F : Fun K "_law_equal" "_law_equal" s_Lequal f fd) (c : SkX K mg CS) (cb : BoC K CB) (nl : mg "len" = none) (nt : mg "tuple" = none) (nli : mg "list" = none) (nm : mg "max" = none)
    (MI : Mk K CS fI) (FI : FnOk P w K mg base (L2.CX P w) 6 fI fdI ["self", "book", "labels", "known"] (spSI C CB CS CE)) (bI : Binds K fdI ["self", "book", "labels", "known"] []) (F0 : FnOk P w K mg base (L2.CX P w) 6 fI fdI ["self", "book", "labels", "known"] (spSI0 K C CB CS)) (bI0 : Binds K fdI ["self", "book", "labels", "known"] [.ref dv]) (kt : KT K dv)
    (GO : Mt P w K mg base (L2.CX P w) 8 CS "only" fO fdO ["self", "rows"] (spOnly C CB CS CE))
    (FQ : FnOk P w K mg base CX0 3 fQ fdQ ["self", "other"] (spSEq C CB CS)) (aQ : PySem.W.findIn K (.ref CS) "__eq__" = some (some (.ref fQ))) (nQ : PySem.W.findIn K (.ref CS) "__ne__" = some (some (.builtin "object.__ne__"))) (rQ : PySem.W.mroIn K CS (.type "object") = some true) (iQ : PySem.W.isFn K (.ref fQ) = true) (bQ : Binds K fdQ ["self", "other"] []) (nfS : PySem.W.notFirst K CS (.type "tuple") = true)
    (mT : mg "Ties" = some (.ref C)) (MT : Mk K C fT) (FT : FnOk P w K mg base (L2.CX P w) 4 fT fdT ["self", "backs"] (spTies C CBk)) (bT : Binds K fdT ["self", "backs"] [])
    (mB : mg "Book" = some (.ref CB)) (MJ : Mk K CB fJ) (FJ : FnOk P w K mg base (L2.CX P w) 6 fJ fdJ ["self", "ties", "barred"] (spBI K C CB CBb)) (bJ0 : Binds K fdJ ["self", "ties", "barred"] [.ref dw]) (kt2 : KT K dw)
    (GB : Cal P w K mg base CX0 1 "_law_barred" fB fdB ["_law_world"] spLB) : FnOk P w K mg base CX0 9 f fd ["_law_world", "_law_book", "_law_labels_here", "_law_rows", "_law_known_here", "_law_sketch"] (spLEq C CB CS) := by
  refine F.ok sc_Lequal (fun vs H Q E h => ?_) (fun cdv A outer s H vs Q E hr h => ?_)
  · obtain ⟨x, b, l, r, kk, z, ns, ls, L, R, K0, rfl, _⟩ := h
    rfl
  · obtain ⟨x, b, l, r, kk, z, ns, ls, L, R, K0, rfl, cc, k⟩ := h
    have hr7 : Room 7 (A.deeper (envOfC "_law_equal" (defScope s_Lequal) s.heap.objs.size f cdv)) := hr.mono (by decide)
    have hr5 : Room 5 (A.deeper (envOfC "_law_equal" (defScope s_Lequal) s.heap.objs.size f cdv)) := hr.mono (by decide)
    have hr4 : Room 4 (A.deeper (envOfC "_law_equal" (defScope s_Lequal) s.heap.objs.size f cdv)) := hr.mono (by decide)
    have hr3 : Room 3 (A.deeper (envOfC "_law_equal" (defScope s_Lequal) s.heap.objs.size f cdv)) := hr.mono (by decide)
    have hdv : Vals [V.ref dv] [Value.ref dv] := .cons rfl .nil
    have hdw : Vals [V.ref dw] [Value.ref dw] := .cons rfl .nil
    refine ⟨_, (pss_cons 
  (ps_set (i := 6) sc_Lequal.nd rfl (Or.inl rfl) (pe_make MI FI hr7 rfl c.mS bI .nil passL (pa_cons (pv 1) (pa_cons (pe_callTy (T := "tuple") (r := rTupA) call_tupA (by rfl) nt (by decide +kernel) (pa_cons (pv 2) pa_nil)) (pa_cons (pe_lc (own := [("_law_row", 8)]) (g := gName 8) (by rfl) sc_Lequal.nd (pi_tup (pv 4)) (blkOk_by (own := [("_law_row", 8)]) (N := Neq) (sc := defScope s_Lequal) (by decide +kernel)) (fun _ _ _ _ _ => pg_name (i := 8) sc_Lequal.nd rfl (Or.inl rfl)) (fun _ _ _ _ _ => pts_nil) (fun _ _ _ _ _ => (pe_callTy (T := "list") (r := rLst K) call_list_of (by rfl) nli (by decide +kernel) (pa_cons (pv 8) pa_nil)))) pa_nil))))) (pss_cons 
  (ps_if (PW.pt (pw_or (pt_cmpR (op_neOwn (E := E0) FQ aQ nQ rQ iQ bQ hr4 nfS) (pv 6) (pv 5) (nomark _)) (pw_or (PW.pt (pw_and (pt_cmpR (r := rNeD K) (op_neD hr.units) (pv 4) (pe_tup pa_nil) (nomark _)) (pw_and1 (pt_cmpR (op_eqOwn FQ aQ iQ bQ pass0 hr3 nfS) (pe_meth (pv 6) c.cl GO.M GO.F hr GO.b .nil passL (pa_cons (pe_slice (r := rSlN K) sl_N (pv 4) (po_some pe_int) po_none) pa_nil)) (pv 5) (nomark _))))) (pw_or1 (pt_cmpR (op_neOwn (E := E0) FQ aQ nQ rQ iQ bQ hr4 nfS) (pe_meth (pv 5) c.cl GO.M GO.F hr GO.b .nil passL (pa_cons (pv 3) pa_nil)) (pv 5) (nomark _)))))) (pss_one 
    (ps_ret pe_bl)) pss_nil) (pss_cons 
  (ps_if (PW.pt (pw_and (pt_cmpR (r := rNeD K) (op_neD hr.units) (pcal GB hr pass0 (pa_cons (pv 0) pa_nil)) (pe_lst pa_nil) (nomark _)) (pw_and1 (pt_cmpR (op_eqOwn FQ aQ iQ bQ pass0 hr3 nfS) (pe_make MI FI hr7 rfl c.mS bI .nil passL (pa_cons (pe_make MJ FJ hr7 rfl mB bJ0 hdw passL (pa_cons (pe_make MT FT hr5 rfl mT bT .nil passL (pa_cons (pe_ix (r := rIxT K) ix_tup (pv 0) pe_int (fun _ _ => rfl)) pa_nil)) pa_nil)) (pa_cons (pv 2) (pa_cons (pv 3) pa_nil)))) (pv 5) (nomark _))))) (pss_one 
    (ps_ret pe_bl)) pss_nil) (pss_cons 
  (ps_set (i := 7) sc_Lequal.nd rfl (Or.inl rfl) (pe_ifExp (pt_cmpR op_lt (pe_callB call_len_seq (by rfl) nl PySem.boot_len (pa_cons (pv 2) pa_nil)) pe_int (nomark _)) (pe_op op_cat (pv 2) (pe_lst (pa_cons (pe_op op_add (pe_callB (id := "max") (r := rMax K) (cr_max rfl) (by rfl) nm (by decide +kernel) (pa_cons (pe_op op_cat (pv 2) (pe_lst (pa_cons pe_int pa_nil))) pa_nil)) pe_int) pa_nil))) (pe_slice (r := rSlN K) sl_N (pv 2) (po_some pe_int) po_none))) (pss_cons 
  (ps_if (pt_cmpR (op_eqOwn FQ aQ iQ bQ pass0 hr3 nfS) (pe_make MI F0 hr7 rfl c.mS bI0 hdv passL (pa_cons (pv 1) (pa_cons (pv 7) pa_nil))) (pe_make MI F0 hr7 rfl c.mS bI0 hdv passL (pa_cons (pv 1) (pa_cons (pv 2) pa_nil))) (nomark _)) (pss_one 
    (ps_ret pe_bl)) pss_nil) (pss_one 
  (ps_ret (pe_and (pe_cmpR (r := rEqD K) (op_eqD hr.units) (pe_fld (pe_make MI F0 hr7 rfl c.mS bI0 hdv passL (pa_cons (pv 1) (pa_cons (pv 2) pa_nil))) rfl) (pe_tup pa_nil) (nomark _)) (pe_and (pe_cmpR (op_eqOwn FQ aQ iQ bQ pass0 hr3 nfS) (pe_meth (pv 5) c.cl GO.M GO.F hr GO.b .nil passL (pa_cons (pe_lst pa_nil) pa_nil)) (pe_make MI F0 hr7 rfl c.mS bI0 hdv passL (pa_cons (pv 1) (pa_cons (pv 2) pa_nil))) (nomark _)) (pe_one (pe_cmpR (op_neOwn (E := E0) FQ aQ nQ rQ iQ bQ hr4 nfS) (pv 5) (pv 4) (nomark _)))))))))))), ?_⟩
    have gb := cc.gb
    have lok := cc.lo.ok
    have kk0 := cc.ik.knK gb cc.kr
    -- again
    obtain ⟨ps, e1, e2, e3⟩ := cc.Kt
    refine ⟨_, rfl, _, rfl, l, _, rfl, .inl cc.el, fun H1 tl S1 etl => ?_⟩
    refine ⟨_, rfl, kk, rfl, ⟨_, SqT.of (S1 _ _ e1)⟩, fun D hD => ?_⟩
    refine lc_tup (K := K) (a := kk) (xs := ps.map V.ref) (fun i H' => GroX (RowT D) H1 H' D (K0.take i)) (GroX.nil hD) (fun i H' _ G => SqT.of (G.S _ _ (S1 _ _ e1))) ?_ ?_
    · rintro i y H2 hy G
      rw [List.getElem?_map] at hy
      cases ea : ps[i]? with
      | none => rw [ea] at hy; cases hy
      | some u =>
        rw [ea] at hy
        obtain rfl : V.ref u = y := Option.some.inj hy
        have li := (List.getElem?_eq_some_iff.mp ea).1
        have et := List.getElem?_eq_getElem (l := K0) (i := i) (by omega)
        generalize K0[i]'(by omega) = row at et
        have hu := G.S _ _ (S1 _ _ (e3 i u row ea et))
        refine ⟨rfl, yesT ⟨_, rfl, u, _, rfl, .inr (SqT.of hu), fun z hz => ?_⟩⟩
        obtain ⟨acc, a1, a2, a3⟩ := G.row (ts := row) hz
        refine ⟨acc, a1, by rw [a2, List.length_take]; exact small1000 (by have := kk0.len; omega), ?_⟩
        show GroX _ _ _ _ (K0.take (i + 1))
        rw [List.take_add_one, et]
        exact a3
    intro H2 G
    have G : GroX (RowT D) H1 H2 D (K0.take (ps.map V.ref).length) := G
    rw [List.length_map, e2, List.take_length] at G
    obtain ⟨qs, d1, d2, d3⟩ := G.d
    have S2 := S1.trans G.S
    refine mk_sk (sl := .tup (ls.map V.int)) (sv := .lst (qs.map V.ref)) (ss := shL K0) (R := K0) (K0 := K0) (cc.B.keep S2) gb ⟨tl, rfl, G.S _ _ etl⟩ ⟨D, rfl, d1⟩ (shL_all d2 fun j a ts q1 q2 => (d3 j a ts q1 q2).2) (by unfold shL; rw [List.length_map]; have := kk0.len; omega) lok rfl rfl rfl (rsh_L K0) kk0.good kk0.un kk0.is fun H3 z3 S3 nz3 sk3 => ⟨rfl, asg_nx ?_⟩
    dsimp only
    have S03 := S2.trans S3
    -- all alike
    refine seq_same (A := tIfS _ _ _) (fun N g => ?_) ?_
    · have c3 := cc.keep S03
      obtain ⟨dx, fs, ez⟩ := c3.Z.obj
      obtain ⟨dx3, fs3, ez3⟩ := sk3.obj
      refine ⟨_, rfl, _, rfl, z3, z, dx3, fs3, rfl, rfl, ez3, .inl ⟨dx, fs, ez⟩, z3, z, ns, L, ls, K0, rfl, sk3, .inl ⟨ns, L, ls, K0, c3.Z, _, rfl, _, rfl, ?_⟩⟩
      refine if_fa (by rw [decide_eq_true ⟨rfl, rfl, rfl, rfl⟩]; rfl) ?_
      refine or_no (fun Q' g' => ?_) fun H4 S4 => ?_
      · refine ⟨_, rfl, (by show 0 ≤ sizeLine; decide), fun e0 he0 => ?_⟩
        have S4 : Same H3 (upd H3 e0 (.tup [])) := new_same he0
        have ee0 : (upd H3 e0 (.tup [])) e0 = some (.tup ([].map V.int)) := upd_same
        generalize upd H3 e0 (.tup []) = H4 at S4 ee0
        have c4 := c3.keep S4
        have sk4 := sk3.keep S4
        refine ⟨_, _, c4.Kt.data, .tup (SqT.of ee0) (dp_ints []), shaped_tupsT K0, shaped_ti [], _, rfl, ?_⟩
        rw [eqv_tnil]
        by_cases cK : K0 = []
        case pos => exact if_fa (by rw [decide_eq_true cK]; rfl) (g' _ S4)
        refine if_tr (by rw [decide_eq_false cK]; rfl) ?_
        obtain ⟨dx4, b4, l4, k4, d4, a1, a2, a3, a4, a5⟩ := id sk4
        obtain ⟨ps4, p1, p2, p3⟩ := c4.Kt
        refine ⟨_, rfl, z3, dx4, _, rfl, a1, gf_no _ _ _ _ (by decide +kernel) (by decide +kernel) (by decide +kernel) (by decide +kernel), _, rfl, _, rfl, kk, _, rfl, .inr p1, fun H5 p5 S5 h5 => ?_⟩
        have ep5 : H5 p5 = some (.tup ((ps4.drop 1).map V.ref)) := by
          rcases h5 with ⟨e, _⟩ | ⟨_, e⟩
          · rw [p1] at e; cases e
          · rw [e, cut_tail, List.map_drop]
        have kd := kk0.drop 1
        refine ⟨z3, ns, L, ls, K0, .ref p5, .tup ((ps4.drop 1).map V.ref), shT (K0.drop 1), rfl, sk4.keep S5, gb, ⟨p5, rfl, ep5⟩, sh_tups (by rw [List.length_drop, List.length_drop, p2]) fun j a ts q1 q2 => ?_, by unfold shT; rw [List.length_map]; have := kd.len; omega, new_sk gb lok rfl (rsh_T _) kd.good kd.un kd.is fun H6 z6 S6 nz6 sk6 => ?_⟩
        · rw [List.getElem?_drop] at q1 q2
          exact S5 _ _ (p3 _ a ts q1 q2)
        have S36 := (S4.trans S5).trans S6
        have c6 := c3.keep S36
        obtain ⟨dx6, fs6, ez6⟩ := sk6.obj
        refine ⟨_, rfl, z6, z, dx6, fs6, rfl, rfl, ez6, .inl ⟨dx, fs, S36 _ _ ez⟩, z6, z, ns, L, ls, K0.drop 1, rfl, sk6, .inl ⟨ns, L, ls, K0, c6.Z, ⟨_, rfl⟩, _, rfl, ?_⟩⟩
        have ne : ¬ (ns = ns ∧ L = L ∧ ls = ls ∧ K0.drop 1 = K0) := fun e => by
          have := congrArg List.length e.2.2.2
          rw [List.length_drop] at this
          have := List.length_pos_iff.mpr cK
          omega
        rw [decide_eq_false ne]
        exact g' _ S36
      · have c4 := c3.keep S4
        obtain ⟨dx4, b4, l4, k4, d4, a1, a2, a3, a4, a5⟩ := id c4.Z
        obtain ⟨ps4, p1, p2, p3⟩ := c4.Rw
        refine ⟨_, rfl, z, dx4, _, rfl, a1, gf_no _ _ _ _ (by decide +kernel) (by decide +kernel) (by decide +kernel) (by decide +kernel), _, rfl, ?_⟩
        refine ⟨z, ns, L, ls, K0, .ref r, .lst (ps4.map V.ref), shT R, rfl, c4.Z, gb, ⟨r, rfl, p1⟩, sh_tups p2 p3, by unfold shT; rw [List.length_map]; have := cc.kr.len; omega, new_sk gb lok rfl (rsh_T _) cc.kr.good cc.kr.un cc.ik fun H6 z6 S6 nz6 sk6 => ?_⟩
        have S36 := S4.trans S6
        have c6 := c3.keep S36
        obtain ⟨dx6, fs6, ez6⟩ := sk6.obj
        refine ⟨_, rfl, z6, z, dx6, fs6, rfl, rfl, ez6, .inl ⟨dx, fs, S36 _ _ ez⟩, z6, z, ns, L, ls, K0, rfl, sk6, .inl ⟨ns, L, ls, K0, c6.Z, _, rfl, _, rfl, ?_⟩⟩
        exact if_fa (by rw [decide_eq_true ⟨rfl, rfl, rfl, rfl⟩]; rfl) (g _ S36)
    intro H4 S4
    have S04 := S03.trans S4
    -- another book
    refine seq_same (A := tIfS _ _ _) (fun N g => ?_) ?_
    · have c4 := cc.keep S04
      obtain ⟨bb, zz, po, ro, w1, w2, w345⟩ := id c4.W
      refine ⟨_, rfl, x, ns, L, rfl, c4.W, gb, fun H5 zb S5 nzb Lz => ?_⟩
      rw [cc.cL.o] at Lz
      refine ⟨(by show 0 ≤ sizeLine; decide), fun e0 he0 => ?_⟩
      have S6 : Same H5 (upd H5 e0 (.lst [])) := new_same he0
      have ee0 : (upd H5 e0 (.lst [])) e0 = some (.lst ([].map V.int)) := upd_same
      generalize upd H5 e0 (.lst []) = H6 at S6 ee0
      refine ⟨_, _, (Lz.keep S6).data.1, .lst (SqL.of ee0) (dp_ints []), shaped_tupsD L, shaped_li [], _, rfl, ?_⟩
      rw [eqv_nil]
      have S46 := S5.trans S6
      by_cases cL : L = []
      case pos => exact if_fa (by rw [decide_eq_true cL]; rfl) (g _ S46)
      refine if_tr (by rw [decide_eq_false cL]; rfl) ?_
      refine ⟨_, rfl, _, _, _, _, rfl, rfl, SqT.of (S46 _ _ w1), at_of (j := 0) (v := .ref bb) rfl rfl, ?_⟩
      refine mk_ties (s := .lst (ns.map V.int)) ⟨bb, rfl, S46 _ _ w2⟩ gb rfl rfl fun H7 x7 S7 nx7 T7 => ⟨rfl, ?_⟩
      refine mk_book0 T7 gb kt2 fun H8 x8 S8 n8 B8 => ⟨rfl, ?_⟩
      have S48 := (S46.trans S7).trans S8
      have c8 := c4.keep S48
      obtain ⟨ps8, p1, p2, p3⟩ := c8.Rw
      refine ⟨_, rfl, _, rfl, ?_⟩
      refine mk_sk (sl := .lst (ls.map V.int)) (sv := .lst (ps8.map V.ref)) (ss := shT R) (R := R) (K0 := K0) B8 gb (seqs_is c8.el) ⟨r, rfl, p1⟩ (sh_tups p2 p3) (by unfold shT; rw [List.length_map]; have := cc.kr.len; omega) lok rfl rfl rfl (rsh_T R) cc.kr.good cc.kr.un cc.ik fun H9 z9 S9 nz9 sk9 => ⟨rfl, ?_⟩
      have S49 := S48.trans S9
      have c9 := c4.keep S49
      obtain ⟨dx, fs, ez⟩ := c9.Z.obj
      obtain ⟨dx9, fs9, ez9⟩ := sk9.obj
      refine ⟨_, rfl, z9, z, dx9, fs9, rfl, rfl, ez9, .inl ⟨dx, fs, ez⟩, z9, z, ns, [], ls, K0, rfl, sk9, .inl ⟨ns, L, ls, K0, c9.Z, ⟨_, rfl⟩, _, rfl, ?_⟩⟩
      exact if_fa (decide_eq_false fun e => cL e.2.1.symm) (g _ S49)
    intro H5 S5
    have S05 := S04.trans S5
    have c5 := cc.keep S05
    -- other labels
    refine seq_split (A := tAsg _ _) (fun σ' H' => ∃ (p : Addr) (os : List Int), σ' = [some (.ref x), some (.ref b), some (.ref l), some (.ref r), some (.ref kk), some (.ref z), some (.ref z3), some (.ref p), none] ∧ Same H5 H' ∧ H' p = some (.lst (os.map V.int)) ∧ LabOkL os ∧ os ≠ ls) (fun N g => ?_) ?_
    · refine ⟨_, rfl, l, _, rfl, .inl (SqL.of c5.el), _, _, rfl, rfl, _, rfl, ?_⟩
      rw [List.length_map]
      by_cases c6 : ls.length < 6
      · refine if_tr (decide_eq_true (by omega)) ?_
        refine ⟨_, rfl, _, rfl, (by show 1 ≤ sizeLine; decide), fun p hp => ⟨l, p, _, _, rfl, rfl, (new_same hp) _ _ c5.el, upd_same, by rw [List.length_map]; show ls.length + 1 ≤ sizeLine; exact Nat.le_of_lt (small1000 (by omega)), fun p2 hp2 => ?_⟩⟩
        have S1 : Same H5 (upd H5 p (.lst [.int 0])) := new_same hp
        generalize upd H5 p (.lst [.int 0]) = T1 at S1 hp2
        have S2 : Same T1 (upd T1 p2 (.lst (ls.map V.int ++ [.int 0]))) := new_same hp2
        have e2 : (upd T1 p2 (.lst (ls.map V.int ++ [.int 0]))) p2 = some (.lst ((ls ++ [0]).map V.int)) := by rw [upd_same, List.map_append]; rfl
        generalize upd T1 p2 (.lst (ls.map V.int ++ [.int 0])) = T2 at S2 e2
        refine ⟨p2, ls ++ [0], rfl, SqL.of e2, by rw [List.length_append]; show 0 < _ + 1; omega, fun mx mi mm => ⟨_, _, rfl, rfl, (by show 1 ≤ sizeLine; decide), fun p3 hp3 => ?_⟩⟩
        have S3 : Same T2 (upd T2 p3 (.lst [.int (mx + 1)])) := new_same hp3
        have e3' : (upd T2 p3 (.lst [.int (mx + 1)])) p3 = some (.lst ([mx + 1].map V.int)) := upd_same
        generalize upd T2 p3 (.lst [.int (mx + 1)]) = T3 at S3 e3'
        have S53 := (S1.trans S2).trans S3
        refine ⟨l, p3, _, _, rfl, rfl, S53 _ _ c5.el, e3', by rw [List.length_map]; show ls.length + 1 ≤ sizeLine; exact Nat.le_of_lt (small1000 (by omega)), fun p4 hp4 => ?_⟩
        refine g _ _ ⟨p4, ls ++ [mx + 1], rfl, S53.trans (new_same hp4), by rw [upd_same, List.map_append], cc.lo.more c6 mi mm, fun e => ?_⟩
        have := congrArg List.length e
        rw [List.length_append] at this
        have : ls.length + 1 = ls.length := this
        omega
      · refine if_fa (decide_eq_false (by omega)) ?_
        refine ⟨_, rfl, _, rfl, l, _, rfl, .inl c5.el, fun H6 p S6 h6 => ?_⟩
        have ep : H6 p = some (.lst ((ls.drop 1).map V.int)) := by
          rcases h6 with ⟨_, e⟩ | ⟨e, _⟩
          · rw [e, cut_tail, List.map_drop]
          · rw [c5.el] at e; cases e
        refine g _ _ ⟨p, ls.drop 1, rfl, S6, ep, cc.lo.tail, fun e => ?_⟩
        have := congrArg List.length e
        rw [List.length_drop] at this
        omega
    rintro _ H6 ⟨p, os, rfl, S6, ep, lo, one⟩
    have S06 := S05.trans S6
    refine seq_same (A := tIfS _ _ _) (fun N g => ?_) ?_
    · have c6 := cc.keep S06
      refine ⟨_, rfl, _, rfl, mk_sketch0 c6.B gb ep lo kt fun H7 z7 S7 nz7 sk7 => ⟨rfl, ?_⟩⟩
      have c7 := c6.keep S7
      refine ⟨_, rfl, _, rfl, mk_sketch0 c7.B gb c7.el lok kt fun H8 z8 S8 nz8 sk8 => ⟨rfl, ?_⟩⟩
      have sk7' := sk7.keep S8
      obtain ⟨dx, fs, ez⟩ := sk8.obj
      obtain ⟨dx7, fs7, ez7⟩ := sk7'.obj
      refine ⟨z7, z8, dx7, fs7, rfl, rfl, ez7, .inl ⟨dx, fs, ez⟩, z7, z8, ns, L, os, [], rfl, sk7', .inl ⟨ns, L, ls, [], sk8, ⟨_, rfl⟩, _, rfl, ?_⟩⟩
      exact if_fa (decide_eq_false fun e => one e.2.2.1) (g _ (S7.trans S8))
    intro H7 S7
    have S07 := S06.trans S7
    have c7 := cc.keep S07
    -- without known rows
    refine ⟨_, rfl, _, rfl, mk_sketch0 c7.B gb c7.el lok kt fun H8 z8 S8 nz8 sk8 => ⟨rfl, ?_⟩⟩
    obtain ⟨dx8, b8, l8, k8, d8, a1, a2, a3, a4, a5⟩ := id sk8
    refine ⟨z8, CS, dx8, _, _, rfl, a1, c.cl, c.nK, gf_known _ _ _ _, (by show 0 ≤ sizeLine; decide), fun e0 he0 => ?_⟩
    have S9 : Same H8 (upd H8 e0 (.tup [])) := new_same he0
    have ee0 : (upd H8 e0 (.tup [])) e0 = some (.tup ([].map V.int)) := upd_same
    generalize upd H8 e0 (.tup []) = H9 at S9 ee0
    refine ⟨_, _, (a4.keep S9).data, .tup (SqT.of ee0) (dp_ints []), shaped_tupsT [], shaped_ti [], ?_⟩
    rw [eqv_tnil]
    refine ⟨_, rfl, if_tr (decide_eq_true rfl) ?_⟩
    have S79 := S8.trans S9
    have c9 := c7.keep S79
    obtain ⟨dx9, b9, l9, k9, d9, q1, q2, q3, q4, q5⟩ := id c9.Z
    refine ⟨_, rfl, z, dx9, _, rfl, q1, gf_no _ _ _ _ (by decide +kernel) (by decide +kernel) (by decide +kernel) (by decide +kernel), (by show 0 ≤ sizeLine; decide), fun e1' he1 => ?_⟩
    have S10 : Same H9 (upd H9 e1' (.lst [])) := new_same he1
    have ee1 : (upd H9 e1' (.lst [])) e1' = some (.lst []) := upd_same
    generalize upd H9 e1' (.lst []) = H10 at S10 ee1
    have c10 := c9.keep S10
    refine ⟨z, ns, L, ls, K0, .ref e1', .lst [], shT [], rfl, c10.Z, gb, ⟨e1', rfl, ee1⟩, .nil, by decide, new_sk (R := []) (K0 := []) gb lok rfl (rsh_T []) (fun r hr => by cases hr) List.Pairwise.nil ⟨List.Perm.refl _, List.Pairwise.nil⟩ fun H11 z11 S11 nz11 sk11 => ?_⟩
    have c11 := c10.keep S11
    refine ⟨_, rfl, _, rfl, mk_sketch0 c11.B gb c11.el lok kt fun H12 z12 S12 nz12 sk12 => ⟨rfl, ?_⟩⟩
    have sk11' := sk11.keep S12
    obtain ⟨dx, fs, ez⟩ := sk12.obj
    obtain ⟨dx11, fs11, ez11⟩ := sk11'.obj
    refine ⟨z11, z12, dx11, fs11, rfl, rfl, ez11, .inl ⟨dx, fs, ez⟩, z11, z12, ns, L, ls, [], rfl, sk11', .inl ⟨ns, L, ls, [], sk12, ⟨_, rfl⟩, _, rfl, if_tr (decide_eq_true ⟨rfl, rfl, rfl, rfl⟩) ?_⟩⟩
    have S712 := ((S79.trans S10).trans S11).trans S12
    have c12 := c7.keep S712
    obtain ⟨dxz, fsz, ezz⟩ := c12.Z.obj
    obtain ⟨psz, y1, y2, y3⟩ := c12.Kt
    refine ⟨_, rfl, _, rfl, z, kk, dxz, fsz, rfl, rfl, ezz, .inr ⟨_, y1⟩, z, kk, ns, L, ls, K0, rfl, c12.Z, .inr ⟨_, y1, _, rfl, ?_⟩⟩
    exact k _ (S07.trans S712)
end
end J

set_option Elab.async false
set_option linter.all false
set_option maxRecDepth 100000
set_option maxHeartbeats 16000000
namespace J
open PySem PySem.Spec PyProof.Rows L2
abbrev s_law : Stmt := top 61
abbrev Nlaw : List Str := ["_law_script", "_law_hand_here", "_law_world", "_law_book", "_law_labels_here", "_law_rows", "_law_kept", "_law_sketch", "_law_known_here", "_law_couples", "_law_k", "_law_x", "_law_web", "_law_told_here", "_law_y", "_law_tie_here", "_law_due_here", "_law_strange", "_law_odd", "_law_couple", "_law_turn", "_law_others", "_law_lines", "_law_row"]
theorem sc_law : FnScope Nlaw ["_law_script"] (defScope s_law) := ⟨rfl, rfl, rfl, by decide +kernel, rfl, by decide +kernel, by decide +kernel⟩
def spLaw (K : PySem.W.Frag) : Sp := fun vs H Q _ => ∃ (a : Addr) (ns : List Int), vs = [.ref a] ∧ SqL K H a (ns.map V.int) ∧ ns.length ≤ 63 ∧ ∀ H', Q (.bl true) H'
/-- the statements from the i-th on, n of them -/
abbrev cut (i n : Nat) : List Stmt := ((defBody s_law).drop i).take n
/-- the body's frame -/
abbrev XL (P : Program) (w : World) (K : PySem.W.Frag) (mg : Str → Option Value) (base : Heap) (f : Addr) (cdv : Value) (A : Around) (outer : List Env) (s : Shared) (H : Hp) (E : XK) : Cx :=
  (cxOf CX0 P w K mg base Nlaw "law" (defScope s_law) f cdv A outer s H E).nox
/-- statements that lead from M to M' -/
def SegT (X : Cx) (sts : List Stmt) (M M' : L2.St → Hp → Prop) : Prop := ∀ rest u, PSs X rest u → ∃ t, PSs X (sts ++ rest) t ∧ ∀ D σ H, M σ H → (∀ σ' H', M' σ' H' → u D σ' H') → (∀ H', D.rt (.bl true) H') → t D σ H
/-- statements that end with True -/
def EndT (X : Cx) (sts : List Stmt) (M : L2.St → Hp → Prop) : Prop := ∃ t, PSs X sts t ∧ ∀ D σ H, M σ H → (∀ H', D.rt (.bl true) H') → t D σ H
theorem SegT.end {X : Cx} {sts rest : List Stmt} {M M' : L2.St → Hp → Prop} (h : SegT X sts M M') (e : EndT X rest M') : EndT X (sts ++ rest) M := by
  obtain ⟨u, pu, hu⟩ := e
  obtain ⟨t, pt, ht⟩ := h rest u pu
  exact ⟨t, pt, fun D σ H m k => ht D σ H m (fun σ' H' m' => hu D σ' H' m' k) k⟩
theorem DiT.but {H H' : Hp} {h D n : _} {us : List V} {f : Int → Int → Option V} (d : DiT H D n f) (eh : H h = some (.lst us)) (B : But h H H') : DiT H' D n f := by
  obtain ⟨kvs, e, l, g⟩ := d
  exact ⟨kvs, B _ _ (fun q => by rw [q, eh] at e; cases e) e, l, g⟩
theorem SkAt.but {C CB CS : Addr} {H H' : Hp} {h z : Addr} {us : List V} {ns : List Int} {L : List (List Int)} {ls : List Int} {Kn : List (List Int)} (k : SkAt C CB CS H z ns L ls Kn) (eh : H h = some (.lst us)) (B : But h H H') : SkAt C CB CS H' z ns L ls Kn := by
  obtain ⟨dx, b, l, k, d, a1, a2, a3, a4, a5⟩ := k
  exact ⟨dx, b, l, k, d, B _ _ (fun q => by rw [q, eh] at a1; cases a1) a1, a2.but eh B, tup_but eh B a3, a4.but eh B, a5.but eh B⟩
/-- a world, its book, labels, rows, their sketch; the hand -/
structure Ws (C CB CS h q x b l r kp z kk : Addr) (ns ls : List Int) (L R K0 : List (List Int)) (H : Hp) : Prop extends Eqs C CB CS x b l r kk z ns ls L R K0 H where
  hh : Hand H h q
  Kp : LstsAt H kp R
theorem lsts_ne {H : Hp} {h q z : Addr} {L : List (List Int)} (hh : Hand H h q) (l : LstsAt H z L) : z ≠ h := by
  obtain ⟨ps, e, _⟩ := l
  exact ref_nh hh e
theorem LstsAt.butH {H H' : Hp} {h q z : Addr} {L : List (List Int)} (l : LstsAt H z L) (hh : Hand H h q) (B : But h H H') : LstsAt H' z L := by
  obtain ⟨us, eh⟩ := hand_lst hh
  exact l.but eh (lsts_ne hh l) B
theorem Ws.keep {C CB CS h q x b l r kp z kk : Addr} {ns ls : List Int} {L R K0 : List (List Int)} {H H' : Hp} (c : Ws C CB CS h q x b l r kp z kk ns ls L R K0 H) (S : Same H H') : Ws C CB CS h q x b l r kp z kk ns ls L R K0 H' := ⟨c.toEqs.keep S, c.hh.keep S, c.Kp.keep S⟩
theorem Ws.but {C CB CS h q x b l r kp z kk : Addr} {ns ls : List Int} {L R K0 : List (List Int)} {H H' : Hp} (c : Ws C CB CS h q x b l r kp z kk ns ls L R K0 H) (B : But h H H') (h' : Hand H' h q) : Ws C CB CS h q x b l r kp z kk ns ls L R K0 H' := by
  obtain ⟨us, eh⟩ := hand_lst c.hh
  exact ⟨⟨c.W.but c.hh c.gb c.gb.lo B, c.gb, c.cL, c.B.but eh B, B _ _ (int_nh c.hh c.el) c.el, c.lo, c.Rw.butH c.hh B, c.kr, c.ik, c.Kt.but eh B, c.Z.but eh B⟩, h', c.Kp.butH c.hh B⟩
def M0 (K : PySem.W.Frag) (σ : L2.St) (H : Hp) : Prop := ∃ (a : Addr) (ns : List Int), σ = start Nlaw [.ref a] ∧ SqL K H a (ns.map V.int) ∧ ns.length ≤ 63
/-- after the head: whatever stands in the other slots -/
def MX (C CB CS : Addr) (σ : L2.St) (H : Hp) : Prop := ∃ (a h q x b l r kp z kk : Addr) (ns ls : List Int) (L R K0 : List (List Int)) (v9 v10 v11 v12 v13 v14 v15 v16 v17 v18 v19 v20 v21 v22 v23 : Option V),
  σ = [some (.ref a), some (.ref h), some (.ref x), some (.ref b), some (.ref l), some (.ref r), some (.ref kp), some (.ref z), some (.ref kk), v9, v10, v11, v12, v13, v14, v15, v16, v17, v18, v19, v20, v21, v22, v23] ∧ Ws C CB CS h q x b l r kp z kk ns ls L R K0 H
section
variable {P : Program} {w : World} {K : PySem.W.Frag} {mg : Str → Option Value} {base : Heap} {f : Addr} {cdv : Value} {A : Around} {outer : List Env} {s : Shared} {H0 : Hp} {E0' : XK}
theorem seg1 {C CB CS CE CBk CBb fH fA fD fT fJ fB fL fK fI fP : Addr} {fdH fdA fdD fdT fdJ fdB fdL fdK fdI fdP : FuncData} (hr : Room 10 (XL P w K mg base f cdv A outer s H0 E0').A) (nt : mg "tuple" = none) (nli : mg "list" = none)
    (GH : Cal P w K mg base CX0 1 "_law_hand" fH fdH ["_law_script"] (spHand K)) (GA : Cal P w K mg base CX0 4 "_law_any_world" fA fdA ["_law_hand_here", "_law_many"] spAW) (GD : Cal P w K mg base CX0 2 "_law_draw" fD fdD ["_law_hand_here", "_law_many"] spDraw)
    (mT : mg "Ties" = some (.ref C)) (MT : Mk K C fT) (FT : FnOk P w K mg base (L2.CX P w) 4 fT fdT ["self", "backs"] (spTies C CBk)) (bT : Binds K fdT ["self", "backs"] [])
    (mB : mg "Book" = some (.ref CB)) (MJ : Mk K CB fJ) (FJ : FnOk P w K mg base (L2.CX P w) 6 fJ fdJ ["self", "ties", "barred"] (spBI K C CB CBb)) (bJ : Binds K fdJ ["self", "ties", "barred"] [])
    (GB : Cal P w K mg base CX0 1 "_law_barred" fB fdB ["_law_world"] spLB) (GL : Cal P w K mg base CX0 3 "_law_labels" fL fdL ["_law_hand_here", "_law_many"] spLabels)
    (GK : Cal P w K mg base CX0 4 "_law_known" fK fdK ["_law_hand_here", "_law_world", "_law_labels_here", "_law_share"] spLKn)
    (mS : mg "Sketch" = some (.ref CS)) (MI : Mk K CS fI) (FI : FnOk P w K mg base (L2.CX P w) 6 fI fdI ["self", "book", "labels", "known"] (spSI C CB CS CE)) (bI : Binds K fdI ["self", "book", "labels", "known"] [])
    (GP : Cal P w K mg base CX0 1 "_law_plain_rows" fP fdP ["_law_world", "_law_rows"] spPR) :
    SegT (XL P w K mg base f cdv A outer s H0 E0') (cut 0 8) (M0 K) (MX C CB CS) := by
  intro rest u hu
  have hr7 : Room 7 (XL P w K mg base f cdv A outer s H0 E0').A := hr.mono (by decide)
  have hr5 : Room 5 (XL P w K mg base f cdv A outer s H0 E0').A := hr.mono (by decide)
  refine ⟨_, (pss_cons 
  (ps_set (i := 1) sc_law.nd rfl (Or.inl rfl) (pcal GH hr pass0 (pa_cons (pv 0) pa_nil))) (pss_cons 
  (ps_set (i := 2) sc_law.nd rfl (Or.inl rfl) (pcal GA hr pass0 (pa_cons (pv 1) (pa_cons (pe_ix (r := rIxL K) ix_list (pe_lst (pa_cons pe_int (pa_cons pe_int (pa_cons pe_int (pa_cons pe_int pa_nil))))) (pcal GD hr pass0 (pa_cons (pv 1) (pa_cons pe_int pa_nil))) (fun _ _ => rfl)) pa_nil)))) (pss_cons 
  (ps_set (i := 3) sc_law.nd rfl (Or.inl rfl) (pe_make MJ FJ hr7 rfl mB bJ .nil passL (pa_cons (pe_make MT FT hr5 rfl mT bT .nil passL (pa_cons (pe_ix (r := rIxT K) ix_tup (pv 2) pe_int (fun _ _ => rfl)) pa_nil)) (pa_cons (pcal GB hr pass0 (pa_cons (pv 2) pa_nil)) pa_nil)))) (pss_cons 
  (ps_set (i := 4) sc_law.nd rfl (Or.inl rfl) (pcal GL hr pass0 (pa_cons (pv 1) (pa_cons (pe_ix (r := rIxL K) ix_list (pe_lst (pa_cons pe_int (pa_cons pe_int (pa_cons pe_int (pa_cons pe_int (pa_cons pe_int (pa_cons pe_int (pa_cons pe_int (pa_cons pe_int pa_nil))))))))) (pcal GD hr pass0 (pa_cons (pv 1) (pa_cons pe_int pa_nil))) (fun _ _ => rfl)) pa_nil)))) (pss_cons 
  (ps_set (i := 5) sc_law.nd rfl (Or.inl rfl) (pcal GK hr pass0 (pa_cons (pv 1) (pa_cons (pv 2) (pa_cons (pv 4) (pa_cons (pe_op op_add pe_int (pcal GD hr pass0 (pa_cons (pv 1) (pa_cons pe_int pa_nil)))) pa_nil)))))) (pss_cons 
  (ps_set (i := 6) sc_law.nd rfl (Or.inl rfl) (pe_callTy (T := "list") (r := rLst K) call_list_of (by rfl) nli (by decide +kernel) (pa_cons (pv 5) pa_nil))) (pss_cons 
  (ps_set (i := 7) sc_law.nd rfl (Or.inl rfl) (pe_make MI FI hr7 rfl mS bI .nil passL (pa_cons (pv 3) (pa_cons (pv 4) (pa_cons (pv 5) pa_nil))))) (pss_cons 
  (ps_set (i := 8) sc_law.nd rfl (Or.inl rfl) (pe_callTy (T := "tuple") (r := rTupA) call_tupA (by rfl) nt (by decide +kernel) (pa_cons (pcal GP hr pass0 (pa_cons (pv 2) (pa_cons (pv 5) pa_nil))) pa_nil))) hu)))))))), fun D σ H m k _ => ?_⟩
  obtain ⟨a, ns0, rfl, hS, hn⟩ := m
  refine ⟨_, rfl, a, ns0, rfl, hS, hn, fun H1 h q S0 hh0 hq0 h1 => ?_⟩
  -- the world
  refine ⟨_, rfl, (by show 4 ≤ sizeLine; decide), fun l0 hl0 => ?_⟩
  have l0h := hand_free h1 hl0
  have el0 : (upd H1 l0 (.lst [.int 2, .int 2, .int 3, .int 4])) l0 = some (.lst [.int 2, .int 2, .int 3, .int 4]) := upd_same
  refine ⟨_, rfl, h, q, 4, rfl, by decide, by decide, h1.new hl0, fun u1 H2 u0 u4 B2 h2 => ?_⟩
  obtain ⟨m, hm, m2, m4⟩ : ∃ m : Nat, [V.int 2, V.int 2, V.int 3, V.int 4][u1.toNat]? = some (.int (m : Nat)) ∧ 2 ≤ m ∧ m ≤ 4 := by
    have : u1.toNat = 0 ∨ u1.toNat = 1 ∨ u1.toNat = 2 ∨ u1.toNat = 3 := by omega
    rcases this with e | e | e | e <;> rw [e]
    · exact ⟨2, rfl, by decide, by decide⟩
    · exact ⟨2, rfl, by decide, by decide⟩
    · exact ⟨3, rfl, by decide, by decide⟩
    · exact ⟨4, rfl, by decide, by decide⟩
  refine ⟨_, _, _, _, rfl, rfl, SqL.of (B2 _ _ l0h el0), at_of (j := u1.toNat) (v := .int (m : Nat)) (by omega) hm, h, q, (m : Nat), rfl, by omega, by omega, h2, fun H3 x ns L ln gb B3 h3 W3 cL => ?_⟩
  clear B2 h2 el0 hl0 B3
  -- the book
  obtain ⟨bb, zz, po, ro, w1, w2, w345⟩ := id W3
  refine ⟨_, rfl, _, _, _, _, rfl, rfl, SqT.of w1, at_of (j := 0) (v := .ref bb) rfl rfl, ?_⟩
  refine mk_ties (s := .lst (ns.map V.int)) ⟨bb, rfl, w2⟩ gb rfl rfl fun H4 x4 S4 nx4 T4 => ⟨rfl, _, rfl, x, ns, L, rfl, W3.keep S4, gb, fun H5 zb S5 nzb Lz => ?_⟩
  rw [cL.o] at Lz
  refine mk_book (LstsAt.arg Lz (T4.keep S5) gb cL.sub fun H6 b S6 nb B6 => ⟨rfl, ?_⟩)
  rw [cL.brd gb] at B6
  have S36 := (S4.trans S5).trans S6
  have h6 := h3.keep S36
  have W6 := W3.keep S36
  -- the labels
  refine ⟨_, rfl, (by show 8 ≤ sizeLine; decide), fun l1 hl1 => ?_⟩
  have l1h := hand_free h6 hl1
  have S7 := new_same (o := .lst [.int 0, .int 1, .int 2, .int 3, .int 4, .int 5, .int 6, .int 6]) hl1
  have el1 : (upd H6 l1 (.lst [.int 0, .int 1, .int 2, .int 3, .int 4, .int 5, .int 6, .int 6])) l1 = some (.lst [.int 0, .int 1, .int 2, .int 3, .int 4, .int 5, .int 6, .int 6]) := upd_same
  generalize upd H6 l1 (.lst [.int 0, .int 1, .int 2, .int 3, .int 4, .int 5, .int 6, .int 6]) = H7 at S7 el1
  have h7 := h6.keep S7
  obtain ⟨us7, eh7⟩ := hand_lst h7
  refine ⟨_, rfl, h, q, 8, rfl, by decide, by decide, h7, fun u2 H8 u0' u8 B8 h8 => ?_⟩
  obtain ⟨m', hm', m6⟩ : ∃ m : Nat, [V.int 0, V.int 1, V.int 2, V.int 3, V.int 4, V.int 5, V.int 6, V.int 6][u2.toNat]? = some (.int (m : Nat)) ∧ m ≤ 6 := by
    have : u2.toNat = 0 ∨ u2.toNat = 1 ∨ u2.toNat = 2 ∨ u2.toNat = 3 ∨ u2.toNat = 4 ∨ u2.toNat = 5 ∨ u2.toNat = 6 ∨ u2.toNat = 7 := by omega
    rcases this with e | e | e | e | e | e | e | e <;> rw [e]
    · exact ⟨0, rfl, by decide⟩
    · exact ⟨1, rfl, by decide⟩
    · exact ⟨2, rfl, by decide⟩
    · exact ⟨3, rfl, by decide⟩
    · exact ⟨4, rfl, by decide⟩
    · exact ⟨5, rfl, by decide⟩
    · exact ⟨6, rfl, by decide⟩
    · exact ⟨6, rfl, by decide⟩
  refine ⟨_, _, _, _, rfl, rfl, SqL.of (B8 _ _ l1h el1), at_of (j := u2.toNat) (v := .int (m' : Nat)) (by omega) hm', h, q, m', rfl, by omega, h8, fun H9 l ls lls asc bd B9 h9 nl9 el9 => ?_⟩
  have W8 := (W6.keep S7).but h7 gb gb.lo B8
  have W9 := W8.but h8 gb gb.lo B9
  obtain ⟨us8, eh8⟩ := hand_lst h8
  have B9' := ((B6.keep S7).but eh7 B8).but eh8 B9
  have lo : LabS ls := ⟨asc, bd, by omega⟩
  clear W8 W6 B8 B9 S7 el1
  obtain ⟨us9, eh9⟩ := hand_lst h9
  -- the rows
  refine ⟨_, rfl, _, rfl, _, rfl, _, rfl, h, q, 2, rfl, by decide, by decide, h9, fun u3 H10 u30 u32 B10 h10 => ?_⟩
  have W10 := W9.but h9 gb gb.lo B10
  have B10' := B9'.but eh9 B10
  have el10 := B10 _ _ (int_nh h9 el9) el9
  obtain ⟨us10, eh10⟩ := hand_lst h10
  refine ⟨_, _, rfl, rfl, h, q, x, l, 2 + u3, ns, ls, L, rfl, h10, W10, gb, el10, asc, lo.l6, bd, by omega, by omega, fun H11 r R B11 h11 nr11 Lr kr => ?_⟩
  have W11 := W10.but h10 gb gb.lo B11
  have B11' := B10'.but eh10 B11
  have el11 := B11 _ _ (int_nh h10 el10) el10
  clear W10 W9 B10' B9' el10 el9 B10 B11
  -- kept
  obtain ⟨ps, p1, p2, p3⟩ := id Lr
  refine ⟨_, rfl, r, _, rfl, .inl (SqL.of p1), fun kp hkp => ?_⟩
  have S12 : Same H11 (upd H11 kp (.lst (ps.map V.ref))) := new_same hkp
  have ekp : (upd H11 kp (.lst (ps.map V.ref))) kp = some (.lst (ps.map V.ref)) := upd_same
  generalize upd H11 kp (.lst (ps.map V.ref)) = H12 at S12 ekp
  have Kp12 : LstsAt H12 kp R := ⟨ps, ekp, p2, fun j a ts e1 e2 => S12 _ _ (p3 j a ts e1 e2)⟩
  -- the sketch
  refine ⟨_, rfl, _, rfl, _, rfl, ?_⟩
  refine mk_sketch (sl := .lst (ls.map V.int)) (sv := .lst (ps.map V.ref)) (ss := shT R) (B11'.keep S12) gb (seqs_is (S12 _ _ el11)) known_nums ⟨r, rfl, S12 _ _ p1⟩ (sh_tups p2 fun j a ts e1 e2 => S12 _ _ (p3 j a ts e1 e2)) (by unfold shT; rw [List.length_map]; have := kr.len; omega) (fun j u' e => ?_) fun ls' Ro K0 e ik H13 z S13 nz Z => ⟨rfl, ?_⟩
  · rw [skJ_ok (R := R) lo.ok rfl rfl rfl (rsh_T R) kr.good kr.un] at e
    cases e
  rw [skJ_ok (R := R) lo.ok rfl rfl rfl (rsh_T R) kr.good kr.un] at e
  obtain ⟨rfl, rfl⟩ := Prod.mk.inj (Sum.inr.inj e)
  have S113 := S12.trans S13
  -- the known rows
  refine ⟨_, rfl, _, rfl, x, r, ns, ls, L, R, rfl, W11.keep S113, gb, Lr.keep S113, by have := kr.len; omega, kr.good, fun H14 zk K1 S14 nzk LK ik1 => ?_⟩
  obtain rfl := IsKn.uniq gb kr.good kr.good (List.Perm.refl _) ik1 ik
  obtain ⟨qs, y1, y2, y3⟩ := LK
  refine ⟨zk, _, rfl, .inl y1, fun H15 kk S15 ekk => ?_⟩
  have S115 := (S113.trans S14).trans S15
  have S1215 := (S13.trans S14).trans S15
  exact k _ _ ⟨a, h, q, x, b, l, r, kp, z, kk, ns, ls, L, R, K1, _, _, _, _, _, _, _, _, _, _, _, _, _, _, _, rfl, ⟨W11.keep S115, gb, cL, B11'.keep S115, S115 _ _ el11, lo, Lr.keep S115, kr, ik1, ⟨qs, ekk, y2, fun j a ts e1 e2 => S15 _ _ (y3 j a ts e1 e2)⟩, Z.keep (S14.trans S15)⟩, h11.keep S115, Kp12.keep S1215⟩
end
end J

set_option Elab.async false
set_option linter.all false
set_option maxRecDepth 100000
set_option maxHeartbeats 8000000
namespace J
open PySem PySem.Spec PyProof.Rows L2
/-! ### the couples of labels -/
def cpP (ls : List Int) (i : Nat) : List (List Int) := (List.range i).flatMap fun k => (ls.drop (k + 1)).map fun y => [ls.getD k 0, y]
def cpL (ls : List Int) : List (List Int) := cpP ls ls.length
theorem cpP_succ {ls : List Int} {i : Nat} : cpP ls (i + 1) = cpP ls i ++ (ls.drop (i + 1)).map fun y => [ls.getD i 0, y] := by
  unfold cpP
  rw [List.range_succ, List.flatMap_append]
  simp
theorem cpP_len {ls : List Int} (h6 : ls.length ≤ 6) : ∀ i, (cpP ls i).length ≤ 6 * i
  | 0 => by simp [cpP]
  | i + 1 => by
    have := cpP_len h6 i
    rw [cpP_succ, List.length_append, List.length_map, List.length_drop]
    omega
theorem cpP_asc {ls : List Int} (as : AscP ls) {i : Nat} (hi : i ≤ ls.length) {c : List Int} (h : c ∈ cpP ls i) : ∃ x y, c = [x, y] ∧ x < y ∧ x ∈ ls ∧ y ∈ ls := by
  obtain ⟨k, hk, h⟩ := List.mem_flatMap.mp h
  obtain ⟨y, hy, rfl⟩ := List.mem_map.mp h
  have hk := List.mem_range.mp hk
  obtain ⟨j, hj⟩ := List.mem_iff_getElem?.mp hy
  rw [List.getElem?_drop] at hj
  have ek := List.getElem?_eq_getElem (l := ls) (i := k) (by omega)
  refine ⟨_, y, rfl, ?_, ?_, List.mem_of_mem_drop hy⟩
  · rw [List.getD_eq_getElem?_getD, ek]
    exact as k (k + 1 + j) _ y (by omega) ek hj
  · rw [List.getD_eq_getElem?_getD, ek]
    exact List.mem_of_getElem? ek
theorem chos_one {ys : List V} : chos 1 ys = ys.map fun y => [y] := by
  show chP (chos 0) ys ys.length = _
  have : ∀ i, i ≤ ys.length → chP (chos 0) ys i = (ys.take i).map fun y => [y] := by
    intro i
    induction i with
    | zero => intro _; simp [chP]
    | succ i ih =>
      intro hi
      have ei := List.getElem?_eq_getElem (l := ys) (i := i) (by omega)
      rw [chP_succ, ih (by omega), List.take_add_one, ei, List.map_append, List.getD_eq_getElem?_getD, ei]
      rfl
  rw [this _ (Nat.le_refl _), List.take_length]
theorem coup_cp {ls : List Int} : coupL ls = (cpL ls).map fun c => c.map V.int := by
  show chP (chos 1) (ls.map V.int) (ls.map V.int).length = _
  rw [List.length_map]
  have : ∀ i, i ≤ ls.length → chP (chos 1) (ls.map V.int) i = (cpP ls i).map fun c => c.map V.int := by
    intro i
    induction i with
    | zero => intro _; simp [chP, cpP]
    | succ i ih =>
      intro hi
      have ei := List.getElem?_eq_getElem (l := ls) (i := i) (by omega)
      rw [chP_succ, ih (by omega), cpP_succ, List.map_append, chos_one, List.getD_eq_getElem?_getD, List.getElem?_map, ei, List.getD_eq_getElem?_getD, ei]
      congr 1
      rw [← List.map_drop, List.map_map, List.map_map, List.map_map]
      rfl
  exact this _ (Nat.le_refl _)
/-- which couples are known -/
theorem putC_some {f : Int → Int → Option V} {a b : Int} {v : V} {x y : Int} : (putC f a b v x y).isSome = ((decide (x = a) && decide (y = b)) || (f x y).isSome) := by
  unfold putC
  by_cases h : x = a ∧ y = b
  · rw [if_pos h, decide_eq_true h.1, decide_eq_true h.2]; rfl
  · rw [if_neg h]
    have : (decide (x = a) && decide (y = b)) = false := by
      rw [Bool.and_eq_false_iff, decide_eq_false_iff_not, decide_eq_false_iff_not]
      omega
    rw [this, Bool.false_or]
theorem both_some {ns : List Int} {x y : Int} (xy : x < y) : ∀ {R : List (List Int)}, (∀ r ∈ R, (∃ a b t, r = [a, b, t]) ∧ r0 r < r1 r) → ∀ i, i ≤ R.length → (bothF ns (R.take i) x y).isSome = decide ([x, y] ∈ (R.take i).map (List.take 2)) := by
  intro R hR i
  induction i with
  | zero => intro _; rfl
  | succ i ih =>
    intro hi
    have ei := List.getElem?_eq_getElem (l := R) (i := i) (by omega)
    generalize R[i]'(by omega) = r at ei
    obtain ⟨⟨a, b, t, rfl⟩, lt⟩ := hR r (List.mem_of_getElem? ei)
    have lt : a < b := lt
    rw [bothF_snoc ei]
    unfold putR
    rw [putC_some, putC_some, ih (by omega), List.take_add_one, ei, List.map_append]
    have e1 : (decide (x = r1 [a, b, t]) && decide (y = r0 [a, b, t])) = false := by
      show (decide (x = b) && decide (y = a)) = false
      rw [Bool.and_eq_false_iff, decide_eq_false_iff_not, decide_eq_false_iff_not]
      omega
    rw [e1, Bool.false_or, Bool.eq_iff_iff, Bool.or_eq_true, Bool.and_eq_true, decide_eq_true_eq, decide_eq_true_eq, decide_eq_true_eq, decide_eq_true_eq, List.mem_append]
    show (x = a ∧ y = b) ∨ _ ↔ _ ∨ [x, y] ∈ [[a, b]]
    rw [List.mem_singleton]
    constructor
    · rintro (⟨rfl, rfl⟩ | h)
      · exact .inr rfl
      · exact .inl h
    · rintro (h | h)
      · exact .inr h
      · injection h with h1 h2
        injection h2 with h2 _
        exact .inl ⟨h1, h2⟩
theorem unk_eq {ns ls : List Int} {K0 : List (List Int)} (kk : KnK ns ls K0) {x y : Int} (xy : x < y) : unkF ns K0 [.int x, .int y] = !decide ([x, y] ∈ K0.map (List.take 2)) := by
  show (bothF ns K0 x y).isNone = _
  have h := both_some (ns := ns) xy (R := K0) (fun r hr => ⟨kk.rows3 r hr, kk.lt r hr⟩) K0.length (Nat.le_refl _)
  rw [List.take_length] at h
  rw [← h]
  cases bothF ns K0 x y <;> rfl
theorem unk_cp {ns ls : List Int} {K0 : List (List Int)} (kk : KnK ns ls K0) (as : AscP ls) : (coupL ls).filter (unkF ns K0) = ((cpL ls).filter fun c => !decide (c ∈ K0.map (List.take 2))).map fun c => c.map V.int := by
  rw [coup_cp, List.filter_map]
  congr 1
  refine List.filter_congr fun c hc => ?_
  obtain ⟨x, y, rfl, xy, _⟩ := cpP_asc as (Nat.le_refl _) hc
  exact unk_eq kk xy
theorem tupVs_tups {H : Hp} {z : Addr} {M : List (List Int)} (h : TupVs H z (M.map fun c => c.map V.int)) : TupsAt H z M := by
  obtain ⟨ps, a, b, c⟩ := h
  refine ⟨ps, a, by rw [b, List.length_map], fun j u ts e1 e2 => c j u _ e1 (by rw [List.getElem?_map, e2]; rfl)⟩
theorem LstsAt.cat {H : Hp} {a b p : Addr} {L M : List (List Int)} (ha : LstsAt H a L) (hb : LstsAt H b M) (np : H p = none) : ∃ xs zs, H a = some (.lst xs) ∧ H b = some (.lst zs) ∧ xs.length = L.length ∧ zs.length = M.length ∧ LstsAt (upd H p (.lst (xs ++ zs))) p (L ++ M) := by
  obtain ⟨ps, a1, a2, a3⟩ := ha
  obtain ⟨qs, b1, b2, b3⟩ := hb
  refine ⟨_, _, a1, b1, by rw [List.length_map, a2], by rw [List.length_map, b2], ps ++ qs, by rw [upd_same, List.map_append], by rw [List.length_append, List.length_append, a2, b2], fun j u ts e1 e2 => ?_⟩
  refine new_same np _ _ ?_
  rcases Nat.lt_or_ge j ps.length with c | c
  · rw [List.getElem?_append_left c] at e1
    rw [List.getElem?_append_left (by omega)] at e2
    exact a3 j u ts e1 e2
  · rw [List.getElem?_append_right c] at e1
    rw [List.getElem?_append_right (by omega)] at e2
    rw [show j - L.length = j - ps.length from by omega] at e2
    exact b3 _ u ts e1 e2
theorem LstsAt.lst {H : Hp} {a : Addr} {L : List (List Int)} (h : LstsAt H a L) : ∃ xs, H a = some (.lst xs) ∧ xs.length = L.length := by
  obtain ⟨ps, a1, a2, _⟩ := h
  exact ⟨_, a1, by rw [List.length_map, a2]⟩
theorem LstsAt.catp {H : Hp} {a b p : Addr} {L M : List (List Int)} {xs zs : List V} (ha : LstsAt H a L) (hb : LstsAt H b M) (ea : H a = some (.lst xs)) (eb : H b = some (.lst zs)) (np : H p = none) : LstsAt (upd H p (.lst (xs ++ zs))) p (L ++ M) := by
  obtain ⟨xs', zs', a1, b1, _, _, h⟩ := ha.cat hb np
  rw [ea] at a1
  rw [eb] at b1
  obtain rfl := HO.lst.inj (Option.some.inj a1)
  obtain rfl := HO.lst.inj (Option.some.inj b1)
  exact h
theorem not_any {t : List Int} {L : List (List Int)} {K : PySem.W.Frag} {H : Hp} {z a : Addr} (h : LstsAt H z L) (ha : H a = some (.tup (t.map V.int))) {Q : VK} (k : Q (.bl (!decide (t ∈ L))) H) : rNotInD K (.ref a) (.ref z) H Q :=
  ⟨_, _, .tup (SqT.of ha) (dp_ints t), h.data.1, shaped_ti t, shaped_tupsD L, by rw [any_tup]; exact k⟩
end J

set_option Elab.async false
set_option linter.all false
set_option maxRecDepth 100000
set_option maxHeartbeats 16000000
namespace J
open PySem PySem.Spec PyProof.Rows L2
/-- the couples are told -/
def MC (C CB CS : Addr) (σ : L2.St) (H : Hp) : Prop := ∃ (a h q x b l r kp z kk cp : Addr) (ns ls : List Int) (L R K0 : List (List Int)) (v10 v11 v12 v13 v14 v15 v16 v17 v18 v19 v20 v21 v22 v23 : Option V),
  σ = [some (.ref a), some (.ref h), some (.ref x), some (.ref b), some (.ref l), some (.ref r), some (.ref kp), some (.ref z), some (.ref kk), some (.ref cp), v10, v11, v12, v13, v14, v15, v16, v17, v18, v19, v20, v21, v22, v23] ∧ Ws C CB CS h q x b l r kp z kk ns ls L R K0 H ∧ LstsAt H cp (cpL ls)
section
variable {P : Program} {w : World} {K : PySem.W.Frag} {mg : Str → Option Value} {base : Heap} {f : Addr} {cdv : Value} {A : Around} {outer : List Env} {s : Shared} {H0 : Hp} {E0' : XK}
theorem seg2 {C CB CS fB : Addr} {fdB : FuncData} (hr : Room 10 (XL P w K mg base f cdv A outer s H0 E0').A) (c : SkX K mg CS) (nt : mg "tuple" = none) (nis : mg "isinstance" = none)
    (FQ : FnOk P w K mg base CX0 2 fB fdB ["self", "other"] (spBEq C CB)) (aQ : PySem.W.findIn K (.ref CB) "__eq__" = some (some (.ref fB))) (nQ : PySem.W.findIn K (.ref CB) "__ne__" = some (some (.builtin "object.__ne__"))) (rQ : PySem.W.mroIn K CB (.type "object") = some true) (iQ : PySem.W.isFn K (.ref fB) = true) (bQ : Binds K fdB ["self", "other"] []) (nfB : PySem.W.notFirst K CB (.type "tuple") = true) :
    SegT (XL P w K mg base f cdv A outer s H0 E0') (cut 8 1) (MX C CB CS) (MX C CB CS) := by
  intro rest u hu
  have hr3 : Room 3 (XL P w K mg base f cdv A outer s H0 E0').A := hr.mono (by decide)
  refine ⟨_, (pss_cons 
  (ps_if (PW.pt (pw_or (pt_cmpR (op_neOwn (E := E0) FQ aQ nQ rQ iQ bQ hr3 nfB) (pe_fld (pv 7) rfl) (pv 3) (nomark _)) (pw_or (pt_cmpR (r := rNeD K) (op_neD hr.units) (pe_fld (pv 7) rfl) (pe_callTy (T := "tuple") (r := rTupA) call_tupA (by rfl) nt (by decide +kernel) (pa_cons (pv 4) pa_nil)) (nomark _)) (pw_or (pt_cmpR (r := rNeD K) (op_neD hr.units) (pe_fld (pv 7) rfl) (pv 8) (nomark _)) (pw_or1 (pt_not (pt_val (pe_callB (id := "isinstance") (r := rIsi K) call_isi (by rfl) nis (by decide +kernel) (pa_cons (pe_fld (pv 7) rfl) (pa_cons (pe_bltn (by rfl) nt (by decide +kernel) (v := .ty "tuple") rfl) pa_nil)))))))))) (pss_one 
    (ps_ret pe_bl)) pss_nil) hu), fun D σ H m k _ => ?_⟩
  obtain ⟨a, h, q, x, b, l, r, kp, z, kk, ns, ls, L, R, K0, v9, v10, v11, v12, v13, v14, v15, v16, v17, v18, v19, v20, v21, v22, v23, rfl, cc⟩ := m
  obtain ⟨dx, b', l', k', d', a1, a2, a3, a4, a5⟩ := id cc.Z
  obtain ⟨db, t1, t2, t3, t4, e1⟩ := BookAt.obj a2
  obtain ⟨db', t1', t2', t3', t4', e1'⟩ := BookAt.obj cc.B
  refine ⟨_, rfl, z, CS, dx, _, _, rfl, a1, c.cl, c.nB, gf_book _ _ _ _, _, rfl, b', b, db, _, rfl, rfl, e1, .inl ⟨db', _, e1'⟩, b', .ref b, ns, L, rfl, a2, .inl ⟨b, ns, L, rfl, cc.B, _, rfl, _, rfl, ?_⟩⟩
  refine if_fa (by rw [decide_eq_true ⟨rfl, rfl⟩]; rfl) ?_
  refine ⟨_, rfl, z, CS, dx, _, _, rfl, a1, c.cl, c.nL, gf_labels _ _ _ _, _, rfl, l, _, rfl, .inl cc.el, fun H1 t S1 et => ⟨_, _, .tup (SqT.of (S1 _ _ a3)) (dp_ints ls), .tup (SqT.of et) (dp_ints ls), shaped_ti ls, shaped_ti ls, _, rfl, ?_⟩⟩
  rw [eqv_ti, decide_eq_true rfl]
  refine if_fa rfl ?_
  refine ⟨_, rfl, z, CS, dx, _, _, rfl, S1 _ _ a1, c.cl, c.nK, gf_known _ _ _ _, _, rfl, _, _, (a4.keep S1).data, (cc.Kt.keep S1).data, shaped_tupsT K0, shaped_tupsT K0, _, rfl, ?_⟩
  rw [eqv_tupT, decide_eq_true rfl]
  refine if_fa rfl ?_
  obtain ⟨ps, e4, _⟩ := id (a4.keep S1)
  have isk : Is H1 (.ref k') (.tup (ps.map V.ref)) := ⟨k', rfl, e4⟩
  obtain ⟨ty, hty, _, _, _, k2⟩ := isk.ty (K := K)
  refine ⟨_, rfl, z, CS, dx, _, _, rfl, S1 _ _ a1, c.cl, c.nK, gf_known _ _ _ _, _, _, _, _, _, rfl, .ty "tuple", hty, kit_ty k2, _, rfl, ?_⟩
  exact if_fa rfl (k _ _ ⟨a, h, q, x, b, l, r, kp, z, kk, ns, ls, L, R, K0, _, _, _, _, _, _, _, _, _, _, _, _, _, _, _, rfl, cc.keep S1⟩)
theorem seg3 {C CB CS gW gU pW pU : Addr} {fdW fdU : FuncData} (hr : Room 10 (XL P w K mg base f cdv A outer s H0 E0').A) (c : SkX K mg CS) (nt : mg "tuple" = none) (ne : mg "enumerate" = none)
    (PW' : PropOf K CS "web" pW gW) (FW : FnOk P w K mg base CX0 1 gW fdW ["self"] (spWeb C CB CS)) (bW : Binds K fdW ["self"] []) (PU : PropOf K CS "unknown" pU gU) (FU : FnOk P w K mg base CX0 4 gU fdU ["self"] (spUnk C CB CS)) (bU : Binds K fdU ["self"] []) :
    SegT (XL P w K mg base f cdv A outer s H0 E0') (cut 9 4) (MX C CB CS) (MC C CB CS) := by
  intro rest u hu
  have hr2 : Room 2 (XL P w K mg base f cdv A outer s H0 E0').A := hr.mono (by decide)
  have hr5 : Room 5 (XL P w K mg base f cdv A outer s H0 E0').A := hr.mono (by decide)
  refine ⟨_, (pss_cons 
  (ps_set (i := 9) sc_law.nd rfl (Or.inl rfl) (pe_lst pa_nil)) (pss_cons 
  (ps_for PassesOwn.never rfl (pi_enum (by rfl) ne (pa_cons (pv 4) pa_nil)) (pg_tup (by rfl) (pgs_cons (pg_name (i := 10) sc_law.nd rfl (Or.inl rfl)) (pgs_cons (pg_name (i := 11) sc_law.nd rfl (Or.inr rfl)) pgs_nil))) (pss_one 
    (ps_set (i := 9) sc_law.nd rfl (Or.inl rfl) (pe_op op_cat (pv 9) (pe_lc (own := [("_law_y", 14)]) (g := gName 14) (by rfl) sc_law.nd (pi_list (pe_slice (r := rSlL K) sl_list (pv 4) (po_some (pe_op op_add (pv 10) pe_int)) po_none)) (blkOk_by (own := [("_law_y", 14)]) (N := Nlaw) (sc := defScope s_law) (by decide +kernel)) (fun _ _ _ _ _ => pg_name (i := 14) sc_law.nd rfl (Or.inl rfl)) (fun _ _ _ _ _ => pts_nil) (fun _ _ _ _ _ => (pe_tup (pa_cons (pv 11) (pa_cons (pv 14) pa_nil))))))))) (pss_cons 
  (ps_set (i := 12) sc_law.nd rfl (Or.inr rfl) (pe_lc (own := [("_law_row", 23)]) (g := gName 23) (by rfl) sc_law.nd (pi_tup (pv 8)) (blkOk_by (own := [("_law_row", 23)]) (N := Nlaw) (sc := defScope s_law) (by decide +kernel)) (fun _ _ _ _ _ => pg_name (i := 23) sc_law.nd rfl (Or.inl rfl)) (fun _ _ _ _ _ => pts_nil) (fun _ _ _ _ _ => (pe_tup (pa_cons (pe_ix (r := rIxT K) ix_tup (pv 23) pe_int (fun _ _ => rfl)) (pa_cons (pe_ix (r := rIxT K) ix_tup (pv 23) pe_int (fun _ _ => rfl)) pa_nil)))))) (pss_cons 
  (ps_if (PW.pt (pw_or (pt_cmpR (r := rNeD K) (op_neD hr.units) (pe_prop (pv 7) c.cl PW' FW hr2 bW .nil pass0 rfl) (pe_callTy (T := "tuple") (r := rTupA) call_tupA (by rfl) nt (by decide +kernel) (pa_cons (pv 12) pa_nil)) (nomark _)) (pw_or1 (pt_cmpR (r := rNeD K) (op_neD hr.units) (pe_prop (pv 7) c.cl PU FU hr5 bU .nil pass0 rfl) (pe_callTy (T := "tuple") (r := rTupA) call_tupA (by rfl) nt (by decide +kernel) (pa_cons (pe_lc (own := [("_law_couple", 19)]) (g := gName 19) (by rfl) sc_law.nd (pi_list (pv 9)) (blkOk_by (own := [("_law_couple", 19)]) (N := Nlaw) (sc := defScope s_law) (by decide +kernel)) (fun _ _ _ _ _ => pg_name (i := 19) sc_law.nd rfl (Or.inl rfl)) (fun _ _ _ _ _ => pts_one (pt_cmpR (r := rNotInD K) (op_notInD (units65 hr)) (pv 19) (pv 12) (by rfl))) (fun _ _ _ _ _ => (pv 19))) pa_nil)) (nomark _))))) (pss_one 
    (ps_ret pe_bl)) pss_nil) hu)))), fun D σ H m k _ => ?_⟩
  obtain ⟨a, h, q, x, b, l, r, kp, z, kk, ns, ls, L, R, K0, v9, v10, v11, v12, v13, v14, v15, v16, v17, v18, v19, v20, v21, v22, v23, rfl, cc⟩ := m
  have gb := cc.gb
  have as := asc_p cc.lo.asc
  have h6 := cc.lo.l6
  have kk0 := cc.ik.knK gb cc.kr
  refine ⟨(by show 0 ≤ sizeLine; decide), fun g0 hg0 => ?_⟩
  have S1 : Same H (upd H g0 (.lst [])) := new_same hg0
  have L0 : LstsAt (upd H g0 (.lst [])) g0 (cpP ls 0) := ⟨[], upd_same, rfl, fun j a ts e => by simp at e⟩
  generalize upd H g0 (.lst []) = H1 at S1 L0
  refine ⟨_, rfl, l, _, rfl, SqL.of (S1 _ _ cc.el), for_enum (K := K) (a := l) (xs := ls.map V.int) (fun i σ H' => Same H1 H' ∧ ∃ (g : Addr) (v10 v11 v14 : Option V), σ = [some (.ref a), some (.ref h), some (.ref x), some (.ref b), some (.ref l), some (.ref r), some (.ref kp), some (.ref z), some (.ref kk), some (.ref g), v10, v11, v12, v13, v14, v15, v16, v17, v18, v19, v20, v21, v22, v23] ∧ LstsAt H' g (cpP ls i))
    ⟨Same.refl _, g0, _, _, _, rfl, L0⟩ (fun i σ H' _ h => SqL.of (h.1 _ _ (S1 _ _ cc.el))) ?_ ?_⟩
  · rintro i v σ H2 T0 ev ⟨S2, g, v10, v11, v14, rfl, LG⟩ hT0
    rw [List.getElem?_map] at ev
    cases ex : ls[i]? with
    | none => rw [ex] at ev; cases ev
    | some xx =>
    rw [ex] at ev
    obtain rfl : V.int xx = v := Option.some.inj ev
    have hi := (List.getElem?_eq_some_iff.mp ex).1
    refine ⟨T0, _, rfl, SqT.of upd_same, rfl, _, _, rfl, _, _, rfl, rfl, ?_⟩
    have S3 : Same H2 (upd H2 T0 (.tup [.int (i : Nat), .int xx])) := new_same hT0
    generalize upd H2 T0 (.tup [.int (i : Nat), .int xx]) = H3 at S3
    have S13 := (S1.trans S2).trans S3
    refine ⟨_, rfl, _, rfl, _, rfl, _, _, rfl, rfl, _, rfl, l, _, rfl, SqL.of (S13 _ _ cc.el), fun p hp => ?_⟩
    have ct : cutV (ls.map V.int) (some ((i : Nat) + 1)) none = (ls.drop (i + 1)).map V.int := by rw [cutV_drop (by rw [List.length_map]; exact hi), List.map_drop]
    rw [ct]
    have S4 : Same H3 (upd H3 p (.lst ((ls.drop (i + 1)).map V.int))) := new_same hp
    have ep : (upd H3 p (.lst ((ls.drop (i + 1)).map V.int))) p = some (.lst ((ls.drop (i + 1)).map V.int)) := upd_same
    generalize upd H3 p (.lst ((ls.drop (i + 1)).map V.int)) = H4 at S4 ep
    refine ⟨p, rfl, ⟨_, SqL.of ep⟩, fun D2 hD2 => ?_⟩
    refine lc_list (K := K) (a := p) (xs := (ls.drop (i + 1)).map V.int) (fun j H' => Gro H4 H' D2 (((ls.drop (i + 1)).take j).map fun y => [xx, y])) (Gro.nil hD2) (fun j H' _ G => SqL.of (G.S _ _ ep)) ?_ ?_
    · rintro j v H5 ev G
      rw [List.getElem?_map] at ev
      cases ey : (ls.drop (i + 1))[j]? with
      | none => rw [ey] at ev; cases ev
      | some yy =>
      rw [ey] at ev
      obtain rfl : V.int yy = v := Option.some.inj ev
      have hj := (List.getElem?_eq_some_iff.mp ey).1
      rw [List.length_drop] at hj
      refine ⟨rfl, yesT ⟨_, rfl, _, rfl, (by show 2 ≤ sizeLine; decide), fun z' hz' => ?_⟩⟩
      obtain ⟨acc, q1, q2, q3⟩ := G.snoc (ts := [xx, yy]) hz'
      refine ⟨acc, q1, by rw [q2, List.length_map, List.length_take]; exact small1000 (by omega), ?_⟩
      show Gro _ _ _ (((ls.drop (i + 1)).take (j + 1)).map _)
      rw [List.take_add_one, ey, List.map_append]
      exact q3
    · intro H5 G
      have G : Gro H4 H5 D2 (((ls.drop (i + 1)).take ((ls.drop (i + 1)).map V.int).length).map fun y => [xx, y]) := G
      rw [List.length_map, List.take_length] at G
      have LG5 := ((LG.keep S3).keep S4).keep G.S
      obtain ⟨xs, ex1, ex2⟩ := LG5.lst
      obtain ⟨zs, ez1, ez2⟩ := G.lsts.lst
      refine ⟨g, D2, xs, zs, rfl, rfl, ex1, ez1, ?_, fun pz hpz => ?_⟩
      · rw [ex2, ez2, List.length_map, List.length_drop]
        have := cpP_len h6 i
        exact Nat.le_of_lt (small1000 (by omega))
      · have LN := LG5.catp G.lsts ex1 ez1 hpz
        refine ⟨((S2.trans S3).trans S4).trans (G.S.trans (new_same hpz)), pz, _, _, _, rfl, ?_⟩
        rw [cpP_succ, List.getD_eq_getElem?_getD, ex]
        exact LN
  rintro σ H2 ⟨S2, cp, v10, v11, v14, rfl, LC⟩
  rw [List.length_map] at LC
  have S02 := S1.trans S2
  obtain ⟨ps, p1, p2, p3⟩ := cc.Kt.keep S02
  -- the web
  refine ⟨_, rfl, kk, rfl, ⟨_, SqT.of p1⟩, fun D2 hD2 => ?_⟩
  refine lc_tup (K := K) (a := kk) (xs := ps.map V.ref) (fun i H' => Gro H2 H' D2 ((K0.take i).map (List.take 2))) (Gro.nil hD2) (fun i H' _ G => SqT.of (G.S _ _ p1)) ?_ ?_
  · rintro i y H3 hy G
    rw [List.getElem?_map] at hy
    cases ea : ps[i]? with
    | none => rw [ea] at hy; cases hy
    | some u =>
    rw [ea] at hy
    obtain rfl : V.ref u = y := Option.some.inj hy
    have li := (List.getElem?_eq_some_iff.mp ea).1
    have et := List.getElem?_eq_getElem (l := K0) (i := i) (by omega)
    generalize K0[i]'(by omega) = row at et
    obtain ⟨ra, rb, rt, rfl⟩ := kk0.rows3 row (List.mem_of_getElem? et)
    have hu : H3 u = some (.tup [.int ra, .int rb, .int rt]) := G.S _ _ (p3 i u _ ea et)
    refine ⟨rfl, yesT ⟨_, rfl, _, _, _, _, rfl, rfl, SqT.of hu, at_of (j := 0) (v := .int ra) rfl rfl, _, rfl, _, _, _, _, rfl, rfl, SqT.of hu, at_of (j := 1) (v := .int rb) rfl rfl, (by show 2 ≤ sizeLine; decide), fun z' hz' => ?_⟩⟩
    obtain ⟨acc, q1, q2, q3⟩ := G.snoc (ts := [ra, rb]) hz'
    refine ⟨acc, q1, by rw [q2, List.length_map, List.length_take]; exact small1000 (by have := kk0.len; omega), ?_⟩
    show Gro _ _ _ ((K0.take (i + 1)).map _)
    rw [List.take_add_one, et, List.map_append]
    exact q3
  intro H3 G
  have G : Gro H2 H3 D2 ((K0.take (ps.map V.ref).length).map (List.take 2)) := G
  rw [List.length_map, p2, List.take_length] at G
  have S03 := S02.trans G.S
  have c3 := cc.keep S03
  have LC3 := LC.keep G.S
  have LW := G.lsts
  clear G hD2 p1 p2 p3
  obtain ⟨dx, b', l', k', d', a1, a2, a3, a4, a5⟩ := id c3.Z
  refine ⟨_, rfl, z, dx, _, rfl, a1, z, ns, L, ls, K0, rfl, c3.Z, kk0.rows3, by have := kk0.len; omega, fun H4 w4 S4 nw4 TW => ?_⟩
  obtain ⟨ws, q1, q2, q3⟩ := LW.keep S4
  refine ⟨_, rfl, D2, _, rfl, .inl q1, fun H5 t5 S5 e5 => ?_⟩
  have T5 : TupsAt H5 t5 (K0.map (List.take 2)) := ⟨ws, e5, q2, fun j a ts e1 e2 => S5 _ _ (q3 j a ts e1 e2)⟩
  refine ⟨_, _, (TW.keep S5).data, T5.data, shaped_tupsT _, shaped_tupsT _, _, rfl, ?_⟩
  rw [eqv_tupT, decide_eq_true rfl]
  refine if_fa rfl ?_
  have S35 := S4.trans S5
  have c5 := c3.keep S35
  have LC5 := LC3.keep S35
  have LW5 := LW.keep S35
  refine ⟨_, rfl, z, dx, _, rfl, S35 _ _ a1, z, ns, L, ls, K0, rfl, c5.Z, h6, by have := kk0.len; omega, fun H6 w6 S6 nw6 TU => ?_⟩
  rw [unk_cp kk0 as] at TU
  have TU := tupVs_tups TU
  have LC6 := LC5.keep S6
  have LW6 := LW5.keep S6
  obtain ⟨cs, r1, r2, r3⟩ := id LC6
  refine ⟨_, rfl, cp, rfl, ⟨_, SqL.of r1⟩, fun D3 hD3 => ?_⟩
  have lcp : (cpL ls).length ≤ 36 := by
    have := cpP_len h6 ls.length
    show (cpP ls ls.length).length ≤ 36
    omega
  refine lc_list (K := K) (a := cp) (xs := cs.map V.ref) (fun i H' => Gro H6 H' D3 (((cpL ls).take i).filter fun c => !decide (c ∈ K0.map (List.take 2)))) (Gro.nil hD3) (fun i H' _ G => SqL.of (G.S _ _ r1)) ?_ ?_
  · rintro i y H7 hy G
    rw [List.getElem?_map] at hy
    cases ea : cs[i]? with
    | none => rw [ea] at hy; cases hy
    | some u =>
    rw [ea] at hy
    obtain rfl : V.ref u = y := Option.some.inj hy
    have li := (List.getElem?_eq_some_iff.mp ea).1
    have r2' : cs.length = (cpL ls).length := r2
    have et := List.getElem?_eq_getElem (l := cpL ls) (i := i) (by omega)
    generalize (cpL ls)[i]'(by omega) = cpl at et
    have hu : H7 u = some (.tup (cpl.map V.int)) := G.S _ _ (r3 i u _ ea et)
    have tk : (cpL ls).take (i + 1) = (cpL ls).take i ++ [cpl] := by rw [List.take_add_one, et]; rfl
    refine ⟨rfl, _, rfl, _, rfl, not_any (LW6.keep G.S) hu ⟨_, rfl, ?_⟩⟩
    cases ek : decide (cpl ∈ K0.map (List.take 2)) with
    | true =>
      refine if_fa rfl ?_
      show Gro _ _ _ (((cpL ls).take (i + 1)).filter _)
      rw [tk, List.filter_append, List.filter_cons_of_neg (by rw [ek]; decide), List.filter_nil, List.append_nil]
      exact G
    | false =>
      obtain ⟨acc, w1, w2, w3⟩ := G.app (ts := cpl) hu
      refine if_tr rfl ⟨_, rfl, acc, w1, ?_, ?_⟩
      · rw [w2]
        have := List.length_filter_le (fun c => !decide (c ∈ K0.map (List.take 2))) ((cpL ls).take i)
        rw [List.length_take] at this
        exact small1000 (by omega)
      · show Gro _ _ _ (((cpL ls).take (i + 1)).filter _)
        rw [tk, List.filter_append, List.filter_cons_of_pos (by rw [ek]; rfl), List.filter_nil]
        exact w3
  intro H7 G
  have G : Gro H6 H7 D3 (((cpL ls).take (cs.map V.ref).length).filter fun c => !decide (c ∈ K0.map (List.take 2))) := G
  have r2' : cs.length = (cpL ls).length := r2
  rw [List.length_map, r2', List.take_length] at G
  obtain ⟨us, d1, d2, d3⟩ := G.lsts
  refine ⟨D3, _, rfl, .inl d1, fun H8 t8 S8 e8 => ?_⟩
  have T8 : TupsAt H8 t8 ((cpL ls).filter fun c => !decide (c ∈ K0.map (List.take 2))) := ⟨us, e8, d2, fun j a ts e1 e2 => S8 _ _ (d3 j a ts e1 e2)⟩
  have S68 := G.S.trans S8
  refine ⟨_, _, (TU.keep S68).data, T8.data, shaped_tupsT _, shaped_tupsT _, _, rfl, ?_⟩
  rw [eqv_tupT, decide_eq_true rfl]
  refine if_fa rfl ?_
  have S58 := S6.trans S68
  exact k _ _ ⟨a, h, q, x, b, l, r, kp, z, kk, cp, ns, ls, L, R, K0, _, _, _, _, _, _, _, _, _, _, _, _, _, _, rfl, c5.keep S58, LC5.keep S58⟩
end
end J

set_option Elab.async false
set_option linter.all false
set_option maxRecDepth 100000
set_option maxHeartbeats 16000000
namespace J
open PySem PySem.Spec PyProof.Rows L2
/-! ### a word and a scalar, compared -/
def scD : V → PyData
  | .int n => .int n
  | .bl b => .bool b
  | .str s => .str s
  | _ => .none
def OkV (v : V) : Prop := isSc v = true ∧ ∀ t, v = .str t → PyData.strOk t = true
theorem scD_dp {K : PySem.W.Frag} {H : Hp} {v : V} (h : isSc v = true) : Dp K H v (scD v) := by
  cases v <;> first | exact .non | exact .bl _ | exact .int _ | exact .str _ | cases h
theorem tel_dp {K : PySem.W.Frag} {H : Hp} {a : Addr} {s : Str} {v : V} (h : isSc v = true) (e : H a = some (.tup [.str s, v])) : Dp K H (.ref a) (.tuple [.str s, scD v]) := .tup (SqT.of e) (.cons (.str _) (.cons (scD_dp h) .nil))
theorem scD_lay {v : V} (h : OkV v) : (scD v).canLay0 = true ∧ (scD v).depth ≤ 1 := by
  cases v with
  | str s => exact ⟨h.2 s rfl, by simp [scD, PyData.depth]⟩
  | _ => exact ⟨by simp [scD, PyData.canLay0], by simp [scD, PyData.depth]⟩
theorem tel_sh {s : Str} {v : V} (hs : PyData.strOk s = true) (h : OkV v) : SeqAt.shaped (.tuple [.str s, scD v]) = true := by
  obtain ⟨a, b⟩ := scD_lay h
  have hs' : PyData.canLay0 (.str s) = true := hs
  show (PyData.canLay0 (.tuple [.str s, scD v]) && decide (PyData.depth (.tuple [.str s, scD v]) ≤ 64)) = true
  rw [Bool.and_eq_true]
  refine ⟨by simp [PyData.canLay0, PyData.canLayAll0, a]; exact hs, decide_eq_true ?_⟩
  simp only [PyData.depth, PyData.depthAll]
  omega
theorem scD_eqv {v : V} : PyData.eqv (scD v) (scD v) = true := by
  cases v <;> simp [scD, PyData.eqv]
theorem tel2 {K : PySem.W.Frag} {H : Hp} {a b : Addr} {s : Str} {v : V} {Q : VK} (hs : PyData.strOk s = true) (h : OkV v) (ea : H a = some (.tup [.str s, v])) (eb : H b = some (.tup [.str s, v])) (q : Q (.bl false) H) : rNeD K (.ref a) (.ref b) H Q :=
  ⟨_, _, tel_dp h.1 ea, tel_dp h.1 eb, tel_sh hs h, tel_sh hs h, by
    have : PyData.eqv (.tuple [.str s, scD v]) (.tuple [.str s, scD v]) = true := by simp [PyData.eqv, PyData.eqvAll, scD_eqv]
    rw [this]
    exact q⟩
theorem both_int {ns : List Int} {x y : Int} : ∀ {R : List (List Int)} (i : Nat), i ≤ R.length → ∀ v, bothF ns (R.take i) x y = some v → ∃ n : Int, v = .int n
  | R, 0, _, v, h => by cases h
  | R, i + 1, hi, v, h => by
    have ei := List.getElem?_eq_getElem (l := R) (i := i) (by omega)
    rw [bothF_snoc ei] at h
    unfold putR putC at h
    split at h
    · exact ⟨_, (Option.some.inj h).symm⟩
    · split at h
      · exact ⟨_, (Option.some.inj h).symm⟩
      · exact both_int i (by omega) v h
theorem both_ok {ns : List Int} {R : List (List Int)} {x y : Int} : OkV ((bothF ns R x y).getD .non) := by
  cases e : bothF ns R x y with
  | none => exact ⟨rfl, fun t h => by cases h⟩
  | some v =>
    obtain ⟨n, rfl⟩ := both_int (R := R) R.length (Nat.le_refl _) v (by rw [List.take_length]; exact e)
    exact ⟨rfl, fun t h => by cases h⟩
theorem lab_in {ls : List Int} (lo : LabS ls) {n : Int} (h : n ∈ ls) : inSk ls (.int n) = true := by
  unfold inSk
  rw [show labB (.int n) = true from lab_yes (by have := lo.bd n h; omega), inV_mem.mpr h]
  rfl
section
variable {P : Program} {w : World} {K : PySem.W.Frag} {mg : Str → Option Value} {base : Heap} {f : Addr} {cdv : Value} {A : Around} {outer : List Env} {s : Shared} {H0 : Hp} {E0' : XK}
theorem seg4 {C CB CS fT : Addr} {fdT : FuncData} (hr : Room 10 (XL P w K mg base f cdv A outer s H0 E0').A) (GT : Cal P w K mg base CX0 4 "_law_tie" fT fdT ["_law_sketch", "_law_x", "_law_y"] (spLTie C CB CS)) :
    SegT (XL P w K mg base f cdv A outer s H0 E0') (cut 13 3) (MC C CB CS) (MC C CB CS) := by
  intro rest u hu
  refine ⟨_, (pss_cons 
  (ps_set (i := 13) sc_law.nd rfl (Or.inl rfl) pe_dnewT) (pss_cons 
  (ps_for PassesOwn.never rfl (pi_tup (pv 8)) (pg_tup (by rfl) (pgs_cons (pg_name (i := 11) sc_law.nd rfl (Or.inr rfl)) (pgs_cons (pg_name (i := 14) sc_law.nd rfl (Or.inl rfl)) (pgs_cons (pg_name (i := 15) sc_law.nd rfl (Or.inl rfl)) pgs_nil)))) (pss_cons 
    (ps_asg (pv 15) (pg_sub (pv 13) (pe_tup (pa_cons (pv 11) (pa_cons (pv 14) pa_nil))) (set_dict (un1 hr)))) (pss_one 
    (ps_asg (pe_ix (r := rIxL K) ix_list (pe_ix (r := rIxT K) ix_tup (pv 2) pe_int (fun _ _ => rfl)) (pv 15) (fun _ _ => rfl)) (pg_sub (pv 13) (pe_tup (pa_cons (pv 14) (pa_cons (pv 11) pa_nil))) (set_dict (un1 hr))))))) (pss_cons 
  (ps_for PassesOwn.never rfl (pi_list (pv 4)) (pg_name (i := 11) sc_law.nd rfl (Or.inr rfl)) (pss_one 
    (ps_for PassesOwn.never rfl (pi_list (pv 4)) (pg_name (i := 14) sc_law.nd rfl (Or.inl rfl)) (pss_cons 
      (ps_set (i := 16) sc_law.nd rfl (Or.inl rfl) (pe_ifExp (pt_cmpR (r := rEq) op_eq (pv 11) (pv 14) (nomark _)) (pe_tup (pa_cons pe_str (pa_cons (pv 11) pa_nil))) (pe_tup (pa_cons pe_str (pa_cons (pe_dget2 (un1 hr) (pv 13) (pe_tup (pa_cons (pv 11) (pa_cons (pv 14) pa_nil))) pe_non ⟨rfl, rfl, rfl, rfl⟩) pa_nil))))) (pss_one 
      (ps_if (pt_cmpR (r := rNeD K) (op_neD hr.units) (pcal GT hr pass0 (pa_cons (pv 7) (pa_cons (pv 11) (pa_cons (pv 14) pa_nil)))) (pv 16) (nomark _)) (pss_one 
        (ps_ret pe_bl)) pss_nil)))))) hu))), fun D σ H m k _ => ?_⟩
  obtain ⟨a, h, q, x, b, l, r, kp, z, kk, cp, ns, ls, L, R, K0, v10, v11, v12, v13, v14, v15, v16, v17, v18, v19, v20, v21, v22, v23, rfl, cc, LC⟩ := m
  have gb := cc.gb
  have kk0 := cc.ik.knK gb cc.kr
  have l40 := kk0.len
  obtain ⟨bb, zz, po, ro, w1, w2, w345⟩ := id cc.W
  refine fun TD hTD => ?_
  have S0 : Same H (upd H TD (.dT [])) := new_same hTD
  have d0 : DiT (upd H TD (.dT [])) TD 0 (fun _ _ => none) := DiT.nil
  generalize upd H TD (.dT []) = H1 at S0 d0
  obtain ⟨ps, e1, e2, e3⟩ := cc.Kt
  refine ⟨_, rfl, kk, rfl, ⟨_, SqT.of (S0 _ _ e1)⟩, for_tup (K := K) (a := kk) (xs := ps.map V.ref) (fun i σ H' => Same H H' ∧ (∃ v11 v14 v15, σ = [some (.ref a), some (.ref h), some (.ref x), some (.ref b), some (.ref l), some (.ref r), some (.ref kp), some (.ref z), some (.ref kk), some (.ref cp), v10, v11, v12, some (.ref TD), v14, v15, v16, v17, v18, v19, v20, v21, v22, v23]) ∧ DiT H' TD (2 * i) (bothF ns (K0.take i))) ⟨S0, ⟨_, _, _, rfl⟩, d0⟩ (fun i σ H' _ h => SqT.of (h.1 _ _ e1)) ?_ ?_⟩
  · rintro i v σ H2 ev ⟨S2, ⟨v11, v14, v15, rfl⟩, d2⟩
    rw [List.getElem?_map] at ev
    cases ep : ps[i]? with
    | none => rw [ep] at ev; cases ev
    | some p =>
    rw [ep] at ev
    obtain rfl : V.ref p = v := Option.some.inj ev
    have hp := (List.getElem?_eq_some_iff.mp ep).1
    have er := List.getElem?_eq_getElem (l := K0) (i := i) (by omega)
    generalize K0[i]'(by omega) = row at er
    obtain ⟨ra, rb, rt, rfl, _, _, _, _, _, it⟩ := kk0.good row (List.mem_of_getElem? er)
    have hp2 := S2 _ _ (e3 i p _ ep er)
    refine ⟨p, _, rfl, SqT.of hp2, rfl, _, _, rfl, _, _, rfl, _, _, rfl, rfl, ?_⟩
    refine ⟨_, rfl, _, rfl, _, rfl, _, rfl, (by show 2 ≤ sizeLine; decide), fun z1 hz1 => ?_⟩
    have S3 : Same H2 (upd H2 z1 (.tup [.int ra, .int rb])) := new_same hz1
    obtain ⟨H4, dp, d4, B4⟩ := (d2.keep S3).put (x := ra) (y := rb) (v := .int rt) (by omega) (upd_same (o := .tup [.int ra, .int rb]))
    generalize upd H2 z1 (.tup [.int ra, .int rb]) = H3 at S3 dp B4
    refine ⟨TD, H4, rfl, dp, ?_⟩
    have S4 : Same H H4 := fun c o e => B4 c o (ne_of_none e hTD) ((S2.trans S3) c o e)
    refine ⟨_, rfl, _, _, _, _, rfl, rfl, SqT.of (S4 _ _ w1), at_of (j := 0) (v := .ref bb) rfl rfl, _, rfl, _, _, _, _, rfl, rfl, SqL.of (S4 _ _ w2), at_of (j := rt.toNat) (v := .int (bk ns rt)) (by have := it.1; omega) (by rw [List.getElem?_map, bk_get it]; rfl), ?_⟩
    refine ⟨_, rfl, _, rfl, _, rfl, (by show 2 ≤ sizeLine; decide), fun z2 hz2 => ?_⟩
    have S5 : Same H4 (upd H4 z2 (.tup [.int rb, .int ra])) := new_same hz2
    obtain ⟨H6, dp6, d6, B6⟩ := (d4.keep S5).put (x := rb) (y := ra) (v := .int (bk ns rt)) (by omega) (upd_same (o := .tup [.int rb, .int ra]))
    generalize upd H4 z2 (.tup [.int rb, .int ra]) = H5 at S5 dp6 B6
    refine ⟨TD, H6, rfl, dp6, fun c o e => B6 c o (ne_of_none e hTD) ((S4.trans S5) c o e), ⟨_, _, _, rfl⟩, ?_⟩
    rw [bothF_snoc er]
    obtain ⟨kvs, g1, g2, g3⟩ := d6
    exact ⟨kvs, g1, by omega, g3⟩
  rintro σ H2 ⟨S2, ⟨v11, v14, v15, rfl⟩, d2⟩
  rw [List.length_map, e2, List.take_length] at d2
  have el2 := S2 _ _ cc.el
  refine ⟨_, rfl, l, rfl, ⟨_, SqL.of el2⟩, for_list (K := K) (a := l) (xs := ls.map V.int) (fun i σ H' => Same H2 H' ∧ (∃ v11 v14 v16, σ = [some (.ref a), some (.ref h), some (.ref x), some (.ref b), some (.ref l), some (.ref r), some (.ref kp), some (.ref z), some (.ref kk), some (.ref cp), v10, v11, v12, some (.ref TD), v14, v15, v16, v17, v18, v19, v20, v21, v22, v23])) ⟨Same.refl _, ⟨_, _, _, rfl⟩⟩ (fun i σ H' _ h => SqL.of (h.1 _ _ el2)) ?_ ?_⟩
  · rintro i v σ H3 ev ⟨S3, ⟨v11, v14, v16, rfl⟩⟩
    obtain ⟨xx, mx, rfl⟩ := List.mem_map.mp (List.mem_of_getElem? ev)
    refine ⟨_, rfl, l, rfl, ⟨_, SqL.of (S3 _ _ el2)⟩, for_list (K := K) (a := l) (xs := ls.map V.int) (fun j σ H' => Same H2 H' ∧ (∃ v14 v16, σ = [some (.ref a), some (.ref h), some (.ref x), some (.ref b), some (.ref l), some (.ref r), some (.ref kp), some (.ref z), some (.ref kk), some (.ref cp), v10, some (.int xx), v12, some (.ref TD), v14, v15, v16, v17, v18, v19, v20, v21, v22, v23])) ⟨S3, ⟨_, _, rfl⟩⟩ (fun i σ H' _ h => SqL.of (h.1 _ _ el2)) ?_ ?_⟩
    · rintro j v σ H4 ev2 ⟨S4, ⟨v14, v16, rfl⟩⟩
      obtain ⟨yy, my, rfl⟩ := List.mem_map.mp (List.mem_of_getElem? ev2)
      have S24 := S2.trans S4
      have say : ∀ (H5 : Hp) (t : Addr), Same H4 H5 → H5 t = some (.tup [.str (tieSay ns ls K0 (.int xx) (.int yy)).1, (tieSay ns ls K0 (.int xx) (.int yy)).2]) →
          tSeq (tIfS (tTest (tOp (rNeD K) (tCall (spLTie C CB CS) [] E0 (tCons (tVar 7) (tCons (tVar 11) (tCons (tVar 14) tNil)))) (tVar 16))) (tRet (tC (V.bl false))) tNext) tNext { nx := fun σ H' => Same H2 H' ∧ (∃ v14 v16, σ = [some (.ref a), some (.ref h), some (.ref x), some (.ref b), some (.ref l), some (.ref r), some (.ref kp), some (.ref z), some (.ref kk), some (.ref cp), v10, some (.int xx), v12, some (.ref TD), v14, v15, v16, v17, v18, v19, v20, v21, v22, v23]), ct := fun σ H' => Same H2 H' ∧ (∃ v14 v16, σ = [some (.ref a), some (.ref h), some (.ref x), some (.ref b), some (.ref l), some (.ref r), some (.ref kp), some (.ref z), some (.ref kk), some (.ref cp), v10, some (.int xx), v12, some (.ref TD), v14, v15, v16, v17, v18, v19, v20, v21, v22, v23]), bk := D.bk, rt := D.rt } [some (.ref a), some (.ref h), some (.ref x), some (.ref b), some (.ref l), some (.ref r), some (.ref kp), some (.ref z), some (.ref kk), some (.ref cp), v10, some (.int xx), v12, some (.ref TD), some (.int yy), v15, some (.ref t), v17, v18, v19, v20, v21, v22, v23] H5 := by
        intro H5 t S5 et
        refine ⟨_, rfl, _, rfl, _, rfl, z, ns, L, ls, K0, .int xx, .int yy, rfl, cc.Z.keep (S24.trans S5), fun v hv => ?_, fun H6 p6 S6 e6 => ⟨_, rfl, tel2 ?_ ?_ e6 (S6 _ _ et) ⟨_, rfl, ?_⟩⟩⟩
        · simp only [List.mem_cons, List.not_mem_nil, or_false] at hv
          rcases hv with rfl | rfl
          · exact ⟨.sc (.int xx), rfl, rfl⟩
          · exact ⟨.sc (.int yy), rfl, rfl⟩
        · unfold tieSay
          rw [lab_in cc.lo mx, if_pos rfl, lab_in cc.lo my, if_pos rfl]
          split
          · show PyData.strOk ("alike" : Str) = true; decide +kernel
          · show PyData.strOk ("is" : Str) = true; decide +kernel
        · unfold tieSay
          rw [lab_in cc.lo mx, if_pos rfl, lab_in cc.lo my, if_pos rfl]
          split
          · exact ⟨rfl, fun t h => by cases h⟩
          · exact both_ok
        · exact if_fa rfl ⟨(S4.trans S5).trans S6, ⟨_, _, rfl⟩⟩
      have ts : tieSay ns ls K0 (.int xx) (.int yy) = if (V.int xx) = V.int yy then (("alike" : Str), V.int xx) else (("is" : Str), (bothF ns K0 xx yy).getD .non) := by
        unfold tieSay
        rw [lab_in cc.lo mx, if_pos rfl, lab_in cc.lo my, if_pos rfl]
      refine ⟨_, rfl, _, rfl, rfl, _, rfl, ?_⟩
      by_cases cxy : V.int xx = V.int yy
      · refine if_tr (decide_eq_true cxy) ⟨_, rfl, (by show 2 ≤ sizeLine; decide), fun t ht => ?_⟩
        refine say _ t (new_same ht) ?_
        rw [ts, if_pos cxy]
        exact upd_same
      · obtain ⟨kvs, g1, _⟩ := d2.keep S4
        refine if_fa (decide_eq_false cxy) ⟨_, rfl, TD, rfl, .inr ⟨kvs, .inl g1⟩, _, rfl, _, rfl, (by show 2 ≤ sizeLine; decide), fun t ht => ?_⟩
        have S5 := new_same (o := .tup [.int xx, .int yy]) ht
        refine ⟨_, (d2.keep (S4.trans S5)).get upd_same, (by show 2 ≤ sizeLine; decide), fun t2 ht2 => ?_⟩
        refine say _ t2 (S5.trans (new_same ht2)) ?_
        rw [ts, if_neg cxy]
        exact upd_same
    · rintro σ H4 ⟨S4, ⟨v14, v16, rfl⟩⟩
      exact ⟨S4, ⟨_, _, _, rfl⟩⟩
  · rintro σ H3 ⟨S3, ⟨v11, v14, v16, rfl⟩⟩
    have S03 := S2.trans S3
    exact k _ _ ⟨a, h, q, x, b, l, r, kp, z, kk, cp, ns, ls, L, R, K0, _, _, _, _, _, _, _, _, _, _, _, _, _, _, rfl, cc.keep S03, LC.keep S03⟩
end
end J

set_option Elab.async false
set_option linter.all false
set_option maxRecDepth 100000
set_option maxHeartbeats 16000000
namespace J
open PySem PySem.Spec PyProof.Rows L2
section
variable {P : Program} {w : World} {K : PySem.W.Frag} {mg : Str → Option Value} {base : Heap} {f : Addr} {cdv : Value} {A : Around} {outer : List Env} {s : Shared} {H0 : Hp} {E0' : XK}
theorem seg5 {C CB CS fT fQ : Addr} {fdT fdQ : FuncData} (hr : Room 10 (XL P w K mg base f cdv A outer s H0 E0').A) (nm : mg "max" = none) (GT : Cal P w K mg base CX0 4 "_law_tie" fT fdT ["_law_sketch", "_law_x", "_law_y"] (spLTie C CB CS))
    (GQ : Cal P w K mg base CX0 9 "_law_equal" fQ fdQ ["_law_world", "_law_book", "_law_labels_here", "_law_rows", "_law_known_here", "_law_sketch"] (spLEq C CB CS)) :
    SegT (XL P w K mg base f cdv A outer s H0 E0') (cut 16 3) (MC C CB CS) (MC C CB CS) := by
  intro rest u hu
  refine ⟨_, (pss_cons 
  (ps_set (i := 17) sc_law.nd rfl (Or.inl rfl) (pe_op op_add (pe_callB (id := "max") (r := rMax K) (cr_max rfl) (by rfl) nm (by decide +kernel) (pa_cons (pe_op op_cat (pv 4) (pe_lst (pa_cons pe_int pa_nil))) pa_nil)) pe_int)) (pss_cons 
  (ps_for PassesOwn.never rfl (pi_list (pe_lst (pa_cons (pv 17) (pa_cons (pe_un un_neg pe_int) (pa_cons pe_bl (pa_cons pe_non (pa_cons pe_str pa_nil))))))) (pg_name (i := 18) sc_law.nd rfl (Or.inl rfl)) (pss_one 
    (ps_if (PW.pt (pw_or (pt_cmpR (r := rNeD K) (op_neD hr.units) (pcal GT hr pass0 (pa_cons (pv 7) (pa_cons (pv 18) (pa_cons pe_non pa_nil)))) (pe_tup (pa_cons pe_str (pa_cons (pv 18) pa_nil))) (nomark _)) (pw_or1 (PW.pt (pw_and (pt_cmpR (r := rNeD K) (op_neD hr.units) (pv 4) (pe_lst pa_nil) (nomark _)) (pw_and1 (pt_cmpR (r := rNeD K) (op_neD hr.units) (pcal GT hr pass0 (pa_cons (pv 7) (pa_cons (pe_ix (r := rIxL K) ix_list (pv 4) pe_int (fun _ _ => rfl)) (pa_cons (pv 18) pa_nil)))) (pe_tup (pa_cons pe_str (pa_cons (pv 18) pa_nil))) (nomark _)))))))) (pss_one 
      (ps_ret pe_bl)) pss_nil))) (pss_cons 
  (ps_if (pt_not (pt_val (pcal GQ hr pass0 (pa_cons (pv 2) (pa_cons (pv 3) (pa_cons (pv 4) (pa_cons (pv 5) (pa_cons (pv 8) (pa_cons (pv 7) pa_nil))))))))) (pss_one 
    (ps_ret pe_bl)) pss_nil) hu))), fun D σ H m k _ => ?_⟩
  obtain ⟨a, h, q, x, b, l, r, kp, z, kk, cp, ns, ls, L, R, K0, v10, v11, v12, v13, v14, v15, v16, v17, v18, v19, v20, v21, v22, v23, rfl, cc, LC⟩ := m
  have gb := cc.gb
  have h6 := cc.lo.l6
  refine ⟨_, rfl, (by show 1 ≤ sizeLine; decide), fun p hp => ⟨l, p, _, _, rfl, rfl, (new_same hp) _ _ cc.el, upd_same, by rw [List.length_map]; show ls.length + 1 ≤ sizeLine; exact Nat.le_of_lt (small1000 (by omega)), fun p2 hp2 => ?_⟩⟩
  have S1 : Same H (upd H p (.lst [.int 0])) := new_same hp
  generalize upd H p (.lst [.int 0]) = T1 at S1 hp2
  have S2 : Same T1 (upd T1 p2 (.lst (ls.map V.int ++ [.int 0]))) := new_same hp2
  have e2 : (upd T1 p2 (.lst (ls.map V.int ++ [.int 0]))) p2 = some (.lst ((ls ++ [0]).map V.int)) := by rw [upd_same, List.map_append]; rfl
  generalize upd T1 p2 (.lst (ls.map V.int ++ [.int 0])) = T2 at S2 e2
  have S12 := S1.trans S2
  refine ⟨p2, ls ++ [0], rfl, SqL.of e2, by rw [List.length_append]; show 0 < _ + 1; omega, fun mx mi mm => ⟨_, _, rfl, rfl, ?_⟩⟩
  refine ⟨_, rfl, 1, rfl, (by show 5 ≤ sizeLine; decide), fun l0 hl0 => ?_⟩
  have S3 : Same T2 (upd T2 l0 (.lst [.int (mx + 1), .int (-1), .bl true, .non, .str "0"])) := new_same hl0
  have e3 : (upd T2 l0 (.lst [.int (mx + 1), .int (-1), .bl true, .non, .str "0"])) l0 = some (.lst [.int (mx + 1), .int (-1), .bl true, .non, .str "0"]) := upd_same
  generalize upd T2 l0 (.lst [.int (mx + 1), .int (-1), .bl true, .non, .str "0"]) = H3 at S3 e3
  have S03 := S12.trans S3
  refine ⟨l0, rfl, ⟨_, SqL.of e3⟩, for_list (K := K) (a := l0) (xs := [.int (mx + 1), .int (-1), .bl true, .non, .str "0"]) (fun i σ H' => Same H3 H' ∧ ∃ v17 v18, σ = [some (.ref a), some (.ref h), some (.ref x), some (.ref b), some (.ref l), some (.ref r), some (.ref kp), some (.ref z), some (.ref kk), some (.ref cp), v10, v11, v12, v13, v14, v15, v16, v17, v18, v19, v20, v21, v22, v23]) ⟨Same.refl _, ⟨_, _, rfl⟩⟩ (fun i σ H' _ h => SqL.of (h.1 _ _ e3)) ?_ ?_⟩
  · rintro i v σ H4 ev ⟨S4, ⟨v17, v18, rfl⟩⟩
    have mv := List.mem_of_getElem? ev
    have ok : OkV v ∧ inSk ls v = false := by
      simp only [List.mem_cons, List.not_mem_nil, or_false] at mv
      rcases mv with rfl | rfl | rfl | rfl | rfl
      · refine ⟨⟨rfl, fun t h => by cases h⟩, ?_⟩
        have : inV (.int (mx + 1)) (ls.map V.int) = false := by
          cases e : inV (.int (mx + 1)) (ls.map V.int) with
          | false => rfl
          | true =>
            have := mm _ (List.mem_append_left _ (inV_mem.mp e))
            omega
        unfold inSk
        rw [this, Bool.and_false]
      · exact ⟨⟨rfl, fun t h => by cases h⟩, rfl⟩
      · exact ⟨⟨rfl, fun t h => by cases h⟩, rfl⟩
      · exact ⟨⟨rfl, fun t h => by cases h⟩, rfl⟩
      · exact ⟨⟨rfl, fun t h => by have := V.str.inj h; subst this; decide +kernel⟩, rfl⟩
    obtain ⟨okv, nin⟩ := ok
    have sn : PyData.strOk ("none" : Str) = true := by decide +kernel
    have S04 := S03.trans S4
    have c4 := cc.keep S04
    have kn : ∀ (H : Hp) (u v : V), isSc u = true → isSc v = true → Known H [u, v] := fun H u v hu hv y hy => by
      simp only [List.mem_cons, List.not_mem_nil, or_false] at hy
      rcases hy with rfl | rfl
      · exact ⟨.sc y, sc_is hu⟩
      · exact ⟨.sc y, sc_is hv⟩
    refine ⟨_, rfl, _, rfl, z, ns, L, ls, K0, v, .non, rfl, c4.Z, kn _ _ _ okv.1 rfl, fun H5 r5 S5 e5 => ⟨_, rfl, (by show 2 ≤ sizeLine; decide), fun t ht => ?_⟩⟩
    have t1 : tieSay ns ls K0 v .non = (("none" : Str), v) := by
      unfold tieSay
      rw [nin, if_neg Bool.false_ne_true]
    rw [t1] at e5
    have S6 : Same H5 (upd H5 t (.tup [.str "none", v])) := new_same ht
    have e6 : (upd H5 t (.tup [.str "none", v])) t = some (.tup [.str "none", v]) := upd_same
    generalize upd H5 t (.tup [.str "none", v]) = H6 at S6 e6
    refine tel2 sn okv (S6 _ _ e5) e6 ⟨_, rfl, if_fa rfl ?_⟩
    have S46 := S5.trans S6
    have c6 := c4.keep S46
    refine ⟨_, rfl, (by show 0 ≤ sizeLine; decide), fun e0 he0 => ?_⟩
    have S7 : Same H6 (upd H6 e0 (.lst [])) := new_same he0
    have ee0 : (upd H6 e0 (.lst [])) e0 = some (.lst ([].map V.int)) := upd_same
    generalize upd H6 e0 (.lst []) = H7 at S7 ee0
    have c7 := c6.keep S7
    refine ⟨_, _, .lst (SqL.of c7.el) (dp_ints ls), .lst (SqL.of ee0) (dp_ints []), shaped_li ls, shaped_li [], _, rfl, ?_⟩
    rw [eqv_li]
    have S47 := S46.trans S7
    by_cases cl : ls = []
    · exact if_fa (by rw [decide_eq_true cl]; rfl) ⟨S4.trans S47, ⟨_, _, rfl⟩⟩
    refine if_tr (by rw [decide_eq_false cl]; rfl) ?_
    obtain ⟨n0, en0⟩ : ∃ n0, ls[0]? = some n0 := by
      cases ls with
      | nil => exact absurd rfl cl
      | cons n _ => exact ⟨n, rfl⟩
    refine ⟨_, rfl, _, rfl, _, _, _, _, rfl, rfl, SqL.of c7.el, at_of (j := 0) (v := .int n0) rfl (by rw [List.getElem?_map, en0]; rfl), _, rfl, z, ns, L, ls, K0, .int n0, v, rfl, c7.Z, kn _ _ _ rfl okv.1, fun H8 r8 S8 e8 => ⟨_, rfl, (by show 2 ≤ sizeLine; decide), fun t8 ht8 => ?_⟩⟩
    have t2 : tieSay ns ls K0 (.int n0) v = (("none" : Str), v) := by
      unfold tieSay
      rw [lab_in cc.lo (List.mem_of_getElem? en0), if_pos rfl, nin, if_neg Bool.false_ne_true]
    rw [t2] at e8
    have S9 : Same H8 (upd H8 t8 (.tup [.str "none", v])) := new_same ht8
    have e9 : (upd H8 t8 (.tup [.str "none", v])) t8 = some (.tup [.str "none", v]) := upd_same
    generalize upd H8 t8 (.tup [.str "none", v]) = H9 at S9 e9
    refine tel2 sn okv (S9 _ _ e8) e9 ⟨_, rfl, if_fa rfl ?_⟩
    exact ⟨S4.trans (S47.trans (S8.trans S9)), ⟨_, _, rfl⟩⟩
  rintro σ H4 ⟨S4, ⟨v17, v18, rfl⟩⟩
  have S04 := S03.trans S4
  have c4 := cc.keep S04
  refine ⟨_, rfl, _, rfl, _, rfl, _, rfl, _, rfl, _, rfl, x, b, l, r, kk, z, ns, ls, L, R, K0, rfl, c4.toEqs, fun H5 S5 => ⟨_, rfl, iteF ?_⟩⟩
  exact k _ _ ⟨a, h, q, x, b, l, r, kp, z, kk, cp, ns, ls, L, R, K0, _, _, _, _, _, _, _, _, _, _, _, _, _, _, rfl, c4.keep S5, LC.keep (S04.trans S5)⟩
end
end J

set_option Elab.async false
set_option linter.all false
set_option maxRecDepth 100000
set_option maxHeartbeats 16000000
namespace J
open PySem PySem.Spec PyProof.Rows L2
/-! ### what is told of labels and rows, compared -/
theorem rows_app {ns ls : List Int} : ∀ {ss us : List Sh} {R0 R : List (List Int)}, rowsJ ns ls ss R0 = .inr R → rowsJ ns ls (ss ++ us) R0 = rowsJ ns ls us R
  | [], us, R0, R, h => by
    obtain rfl : R0 = R := Sum.inr.inj h
    rfl
  | s :: ss, us, R0, R, h => by
    have h : (match rowJ ns ls R0 s with | .inl w => .inl (R0.length, w) | .inr r => rowsJ ns ls ss (R0 ++ [r]) : Sum (Nat × Str) (List (List Int))) = .inr R := h
    show (match rowJ ns ls R0 s with | .inl w => .inl (R0.length, w) | .inr r => rowsJ ns ls (ss ++ us) (R0 ++ [r]) : Sum (Nat × Str) (List (List Int))) = _
    cases e : rowJ ns ls R0 s with
    | inl w => rw [e] at h; cases h
    | inr r =>
      rw [e] at h
      exact rows_app h
theorem skJ_more {ns ls : List Int} {K0 : List (List Int)} {sl sv : Sh} {x y t : Int} (lo : LabOkL ls) (ql : (sl.isL || sl.isT) = true) (il : items sl = ls.map V.int) (qv : (sv.isL || sv.isT) = true) (kk : KnK ns ls K0) (g : RwGood ns ls [x, y, t]) :
    skJ ns sl sv (shT K0 ++ [.tup [.int x, .int y, .int t]]) = if toldB K0 x y = true then .inl (K0.length, "twice") else .inr (ls, K0 ++ [[x, y, t]]) := by
  have e1 : labsJ (ls.map V.int) [] = .inr ls := labs_run (ls0 := []) lo.asc lo.bd
  have e2 : rowsJ ns ls (shT K0) [] = .inr K0 := rows_run (R0 := []) (rsh_T K0) kk.good kk.un
  have e3 := row_good (R := K0) (s := .tup [.int x, .int y, .int t]) g ⟨rfl, rfl⟩
  unfold skJ
  rw [ql, qv, if_pos rfl, if_pos rfl, il, List.length_map, if_pos lo.l6, e1]
  show (match rowsJ ns ls (shT K0 ++ [.tup [.int x, .int y, .int t]]) [] with | .inl p => .inl p | .inr R => .inr (ls, R) : Sum (Nat × Str) (List Int × List (List Int))) = _
  rw [rows_app e2]
  show (match (match rowJ ns ls K0 (.tup [.int x, .int y, .int t]) with | .inl w => .inl (K0.length, w) | .inr r => rowsJ ns ls [] (K0 ++ [r]) : Sum (Nat × Str) (List (List Int))) with | .inl p => .inl p | .inr R => .inr (ls, R) : Sum (Nat × Str) (List Int × List (List Int))) = _
  rw [e3]
  cases toldB K0 x y <;> rfl
theorem is_lay (L : List (List Int)) : SeqAt.shaped (.tuple [.str "is", .tuple (tupsD L)]) = true := by
  obtain ⟨a, b⟩ := lay_tupsD L
  have hs : PyData.canLay0 (.str ("is" : Str)) = true := by decide +kernel
  have h2 : PyData.canLay0 (.tuple (tupsD L)) = true := by simp only [PyData.canLay0]; exact a
  show (PyData.canLay0 (.tuple [.str "is", .tuple (tupsD L)]) && decide (PyData.depth (.tuple [.str "is", .tuple (tupsD L)]) ≤ 64)) = true
  rw [Bool.and_eq_true]
  refine ⟨?_, decide_eq_true ?_⟩
  · show PyData.canLayAll0 [.str "is", .tuple (tupsD L)] = true
    show (PyData.canLay0 (.str "is") && (PyData.canLay0 (.tuple (tupsD L)) && PyData.canLayAll0 [])) = true
    rw [hs, h2]
    simp [PyData.canLayAll0]
  · simp only [PyData.depth, PyData.depthAll]
    omega
theorem is_eqv (L : List (List Int)) : PyData.eqv (.tuple [.str "is", .tuple (tupsD L)]) (.tuple [.str "is", .tuple (tupsD L)]) = true := by
  have h := eqv_tupT L L
  rw [decide_eq_true rfl] at h
  simp only [PyData.eqv, PyData.eqvAll] at h ⊢
  simp [h]
theorem is_dp {K : PySem.W.Frag} {H : Hp} {z k : Addr} {L : List (List Int)} (e : H z = some (.tup [.str "is", .ref k])) (t : TupsAt H k L) : Dp K H (.ref z) (.tuple [.str "is", .tuple (tupsD L)]) := .tup (SqT.of e) (.cons (.str _) (.cons t.data .nil))
theorem is_ne {K : PySem.W.Frag} {H : Hp} {y z k k' : Addr} {L : List (List Int)} {Q : VK} (e : H y = some (.tup [.str "is", .ref k])) (t : TupsAt H k L) (e' : H z = some (.tup [.str "is", .ref k'])) (t' : TupsAt H k' L) (q : Q (.bl false) H) : rNeD K (.ref y) (.ref z) H Q :=
  ⟨_, _, is_dp e t, is_dp e' t', is_lay L, is_lay L, by rw [is_eqv]; exact q⟩
def badD (j : Nat) (u : Str) : PyData := .tuple [.str "bad", .int (j : Nat), .str u]
def badD4 (j : Nat) (u : Str) : PyData := .tuple [.str "bad", .int (j : Nat), .str u, .bool true]
theorem bad_dp {K : PySem.W.Frag} {H : Hp} {z : Addr} {j : Nat} {u : Str} (e : H z = some (.tup [.str "bad", .int (j : Nat), .str u])) : Dp K H (.ref z) (badD j u) := .tup (SqT.of e) (.cons (.str _) (.cons (.int _) (.cons (.str _) .nil)))
theorem bad_dp4 {K : PySem.W.Frag} {H : Hp} {z : Addr} {j : Nat} {u : Str} (e : H z = some (.tup [.str "bad", .int (j : Nat), .str u, .bl true])) : Dp K H (.ref z) (badD4 j u) := .tup (SqT.of e) (.cons (.str _) (.cons (.int _) (.cons (.str _) (.cons (.bl _) .nil))))
theorem bad_sh {j : Nat} {u : Str} (h : PyData.strOk u = true) : SeqAt.shaped (badD j u) = true := by
  have hs : PyData.strOk ("bad" : Str) = true := by decide +kernel
  show SeqAt.shaped (.tuple [.str "bad", .int (j : Nat), .str u]) = true
  simp [SeqAt.shaped, PyData.canLay0, PyData.depth, PyData.depthAll, PyData.canLayAll0]
  exact ⟨hs, h⟩
theorem bad_sh4 {j : Nat} {u : Str} (h : PyData.strOk u = true) : SeqAt.shaped (badD4 j u) = true := by
  have hs : PyData.strOk ("bad" : Str) = true := by decide +kernel
  show SeqAt.shaped (.tuple [.str "bad", .int (j : Nat), .str u, .bool true]) = true
  simp [SeqAt.shaped, PyData.canLay0, PyData.depth, PyData.depthAll, PyData.canLayAll0]
  exact ⟨hs, h⟩
theorem bad_eqv {j : Nat} {u : Str} : PyData.eqv (badD j u) (badD j u) = true := by simp [badD, PyData.eqv, PyData.eqvAll]
theorem bad_eqv4 {j : Nat} {u : Str} : PyData.eqv (badD4 j u) (badD4 j u) = true := by simp [badD4, PyData.eqv, PyData.eqvAll]
theorem bad_ne {j : Nat} {u : Str} : PyData.eqv (badD4 j u) (badD j u) = false := by simp [badD, badD4, PyData.eqv, PyData.eqvAll]
theorem bad_is : ¬ (V.str ("bad" : Str) = V.str ("is" : Str)) := fun e => absurd (V.str.inj e) (by decide +kernel)
theorem is_bad : ¬ (V.str ("is" : Str) = V.str ("bad" : Str)) := fun e => absurd (V.str.inj e) (by decide +kernel)
theorem rowJ_word {ns ls : List Int} {R : List (List Int)} {s : Sh} {u : Str} (h : rowJ ns ls R s = .inl u) : PyData.strOk u = true := by
  have w1 : PyData.strOk ("twice" : Str) = true := by decide +kernel
  have w2 : PyData.strOk ("tie" : Str) = true := by decide +kernel
  have w3 : PyData.strOk ("couple" : Str) = true := by decide +kernel
  have w4 : PyData.strOk ("row" : Str) = true := by decide +kernel
  unfold rowJ at h
  split at h
  · split at h
    · split at h
      · split at h
        · unfold num3 at h
          split at h
          · split at h
            · rw [← Sum.inl.inj h]; exact w1
            · cases h
          · rw [← Sum.inl.inj h]; exact w3
        · rw [← Sum.inl.inj h]; exact w2
      · rw [← Sum.inl.inj h]; exact w3
    · rw [← Sum.inl.inj h]; exact w4
  · rw [← Sum.inl.inj h]; exact w4
theorem rows_word {ns ls : List Int} : ∀ {ss : List Sh} {R : List (List Int)} {p : Nat × Str}, rowsJ ns ls ss R = .inl p → PyData.strOk p.2 = true
  | [], R, p, h => by cases h
  | s :: ss, R, p, h => by
    have h : (match rowJ ns ls R s with | .inl w => .inl (R.length, w) | .inr r => rowsJ ns ls ss (R ++ [r]) : Sum (Nat × Str) (List (List Int))) = .inl p := h
    cases e : rowJ ns ls R s with
    | inl w =>
      rw [e] at h
      rw [← Sum.inl.inj h]
      exact rowJ_word e
    | inr r =>
      rw [e] at h
      exact rows_word h
theorem skJ_word {ns : List Int} {sl sv : Sh} {ss : List Sh} {j : Nat} {u : Str} (h : skJ ns sl sv ss = .inl (j, u)) : PyData.strOk u = true := by
  have w1 : PyData.strOk ("sequence" : Str) = true := by decide +kernel
  have w2 : PyData.strOk ("many" : Str) = true := by decide +kernel
  have w3 : PyData.strOk ("label" : Str) = true := by decide +kernel
  unfold skJ at h
  split at h
  · split at h
    · split at h
      · cases e : labsJ (items sl) [] with
        | inl j' =>
          rw [e] at h
          have := congrArg Prod.snd (Sum.inl.inj h)
          rw [← show ("label" : Str) = u from this]; exact w3
        | inr ls =>
          rw [e] at h
          have h : (match rowsJ ns ls ss [] with | .inl p => .inl p | .inr R => .inr (ls, R) : Sum (Nat × Str) (List Int × List (List Int))) = .inl (j, u) := h
          cases e2 : rowsJ ns ls ss [] with
          | inl p =>
            rw [e2] at h
            obtain rfl : p = (j, u) := Sum.inl.inj h
            exact rows_word e2
          | inr R => rw [e2] at h; cases h
      · have := congrArg Prod.snd (Sum.inl.inj h)
        rw [← show ("many" : Str) = u from this]; exact w2
    · have := congrArg Prod.snd (Sum.inl.inj h)
      rw [← show ("sequence" : Str) = u from this]; exact w1
  · have := congrArg Prod.snd (Sum.inl.inj h)
    rw [← show ("sequence" : Str) = u from this]; exact w1
theorem SkTold.keep {H H' : Hp} {z : Addr} {ns : List Int} {J : Sum (Nat × Str) (List Int × List (List Int))} (h : SkTold H z ns J) (S : Same H H') : SkTold H' z ns J := by
  cases J with
  | inl p => exact S _ _ h
  | inr p =>
    obtain ⟨Kn, k, a, b, c⟩ := h
    exact ⟨Kn, k, a, S _ _ b, c.keep S⟩
theorem told_ne {K : PySem.W.Frag} {H : Hp} {y z : Addr} {ns : List Int} {sl sv : Sh} {ss : List Sh} {Q : VK} (gb : GoodB ns) (h : SkTold H y ns (skJ ns sl sv ss)) (h' : SkTold H z ns (skJ ns sl sv ss)) (q : Q (.bl false) H) : rNeD K (.ref y) (.ref z) H Q := by
  cases e : skJ ns sl sv ss with
  | inl p =>
    obtain ⟨j, u⟩ := p
    rw [e] at h h'
    have w := skJ_word e
    exact ⟨_, _, bad_dp h, bad_dp h', bad_sh w, bad_sh w, by rw [bad_eqv]; exact q⟩
  | inr p =>
    obtain ⟨ls, R⟩ := p
    rw [e] at h h'
    obtain ⟨Kn, k, i1, e1, t1⟩ := h
    obtain ⟨Kn', k', i2, e2, t2⟩ := h'
    have g := (rows_all (skJ_yes e).2.2.2.2).good
    obtain rfl := IsKn.uniq gb g g (List.Perm.refl _) i1 i2
    exact is_ne e1 t1 e2 t2 q
end J

set_option Elab.async false
set_option linter.all false
set_option maxRecDepth 100000
set_option maxHeartbeats 16000000
namespace J
open PySem PySem.Spec PyProof.Rows L2
section
variable {P : Program} {w : World} {K : PySem.W.Frag} {mg : Str → Option Value} {base : Heap} {f : Addr} {cdv : Value} {A : Around} {outer : List Env} {s : Shared} {H0 : Hp} {E0' : XK}
theorem seg6 {C CB CS fD fU fM : Addr} {fdD fdU fdM : FuncData} (hr : Room 10 (XL P w K mg base f cdv A outer s H0 E0').A) (nl : mg "len" = none) (nli : mg "list" = none)
    (GD : Cal P w K mg base CX0 2 "_law_draw" fD fdD ["_law_hand_here", "_law_many"] spDraw) (GU : Cal P w K mg base CX0 2 "_law_due" fU fdU ["_law_world", "_law_labels_here", "_law_rows"] spDue) (GM : Cal P w K mg base CX0 9 "_law_more" fM fdM ["_law_sketch", "_law_x", "_law_y", "_law_tie_here"] (spMore C CB CS)) :
    SegT (XL P w K mg base f cdv A outer s H0 E0') (cut 19 1) (MC C CB CS) (MX C CB CS) := by
  intro rest u hu
  refine ⟨_, (pss_cons 
  (ps_for PassesOwn.never rfl (pi_list (pv 9)) (pg_name (i := 19) sc_law.nd rfl (Or.inl rfl)) (pss_cons 
    (ps_set (i := 15) sc_law.nd rfl (Or.inl rfl) (pcal GD hr pass0 (pa_cons (pv 1) (pa_cons (pe_callB call_len_seq (by rfl) nl PySem.boot_len (pa_cons (pe_ix (r := rIxT K) ix_tup (pv 2) pe_int (fun _ _ => rfl)) pa_nil)) pa_nil)))) (pss_cons 
    (ps_set (i := 16) sc_law.nd rfl (Or.inl rfl) (pcal GU hr pass0 (pa_cons (pv 2) (pa_cons (pv 4) (pa_cons (pe_op op_cat (pe_callTy (T := "list") (r := rLst K) call_list_of (by rfl) nli (by decide +kernel) (pa_cons (pv 8) pa_nil)) (pe_lst (pa_cons (pe_tup (pa_cons (pe_ix (r := rIxT K) ix_tup (pv 19) pe_int (fun _ _ => rfl)) (pa_cons (pe_ix (r := rIxT K) ix_tup (pv 19) pe_int (fun _ _ => rfl)) (pa_cons (pv 15) pa_nil)))) pa_nil))) pa_nil))))) (pss_cons 
    (ps_if (PW.pt (pw_and (pt_cmpR (r := rNeD K) (op_neD hr.units) (pcal GM hr pass0 (pa_cons (pv 7) (pa_cons (pe_ix (r := rIxT K) ix_tup (pv 19) pe_int (fun _ _ => rfl)) (pa_cons (pe_ix (r := rIxT K) ix_tup (pv 19) pe_int (fun _ _ => rfl)) (pa_cons (pv 15) pa_nil))))) (pv 16) (nomark _)) (pw_and1 (pt_cmpR (r := rEq) op_eq (pe_ix (r := rIxT K) ix_tup (pv 16) pe_int (fun _ _ => rfl)) pe_str (nomark _))))) (pss_one 
      (ps_ret pe_bl)) pss_nil) (pss_one 
    (ps_if (PW.pt (pw_and (pt_cmpR (r := rEq) op_eq (pe_ix (r := rIxT K) ix_tup (pv 16) pe_int (fun _ _ => rfl)) pe_str (nomark _)) (pw_and1 (pt_cmpR (r := rNeD K) (op_neD hr.units) (pcal GM hr pass0 (pa_cons (pv 7) (pa_cons (pe_ix (r := rIxT K) ix_tup (pv 19) pe_int (fun _ _ => rfl)) (pa_cons (pe_ix (r := rIxT K) ix_tup (pv 19) pe_int (fun _ _ => rfl)) (pa_cons (pv 15) pa_nil))))) (pe_tup (pa_cons pe_str (pa_cons (pe_callB call_len_seq (by rfl) nl PySem.boot_len (pa_cons (pv 8) pa_nil)) (pa_cons pe_str (pa_cons pe_bl pa_nil))))) (nomark _))))) (pss_one 
      (ps_ret pe_bl)) pss_nil)))))) hu), fun D σ H m k _ => ?_⟩
  obtain ⟨a, h, q, x, b, l, r, kp, z, kk, cp, ns, ls, L, R, K0, v10, v11, v12, v13, v14, v15, v16, v17, v18, v19, v20, v21, v22, v23, rfl, cc, LC⟩ := m
  have gb := cc.gb
  have as := asc_p cc.lo.asc
  have kk0 := cc.ik.knK gb cc.kr
  have l40 := kk0.len
  obtain ⟨us, eh⟩ := hand_lst cc.hh
  obtain ⟨cs, r1, r2, r3⟩ := LC
  have cph : cp ≠ h := ref_nh cc.hh r1
  obtain ⟨bb, zz, po, ro, w1, w2, w345⟩ := id cc.W
  have bh : bb ≠ h := int_nh cc.hh w2
  have xh : x ≠ h := fun e => by rw [e, eh] at w1; cases w1
  refine ⟨_, rfl, cp, rfl, ⟨_, SqL.of r1⟩, for_list (K := K) (a := cp) (xs := cs.map V.ref) (fun i σ H' => (But h H H' ∧ Hand H' h q) ∧ ∃ v15 v16 v19, σ = [some (.ref a), some (.ref h), some (.ref x), some (.ref b), some (.ref l), some (.ref r), some (.ref kp), some (.ref z), some (.ref kk), some (.ref cp), v10, v11, v12, v13, v14, v15, v16, v17, v18, v19, v20, v21, v22, v23]) ⟨⟨But.refl _ _, cc.hh⟩, ⟨_, _, _, rfl⟩⟩ (fun i σ H' _ h => SqL.of (h.1.1 _ _ cph r1)) ?_ ?_⟩
  · rintro i v σ H1 ev ⟨⟨B1, h1⟩, ⟨v15, v16, v19, rfl⟩⟩
    rw [List.getElem?_map] at ev
    cases ea : cs[i]? with
    | none => rw [ea] at ev; cases ev
    | some u =>
    rw [ea] at ev
    obtain rfl : V.ref u = v := Option.some.inj ev
    have li := (List.getElem?_eq_some_iff.mp ea).1
    have r2' : cs.length = (cpL ls).length := r2
    have et := List.getElem?_eq_getElem (l := cpL ls) (i := i) (by omega)
    generalize (cpL ls)[i]'(by omega) = cpl at et
    obtain ⟨xx, yy, rfl, xy, mx, my⟩ := cpP_asc as (Nat.le_refl _) (List.mem_of_getElem? et)
    have hu1 : H1 u = some (.tup [.int xx, .int yy]) := tup_but eh B1 (r3 i u _ ea et)
    have c1 := cc.but B1 h1
    -- a tie
    refine ⟨_, rfl, _, rfl, _, _, _, _, rfl, rfl, SqT.of (B1 _ _ xh w1), at_of (j := 0) (v := .ref bb) rfl rfl, bb, _, rfl, .inl (SqL.of (B1 _ _ bh w2)), h, q, (ns.length : Nat), (by rw [List.length_map]; rfl), by have := gb.lo; omega, by have := gb.hi; omega, h1, fun tt H2 t0 t1 B2 h2 => ?_⟩
    have it : InT ns tt := ⟨t0, t1⟩
    have c2 := c1.but B2 h2
    obtain ⟨us1, eh1⟩ := hand_lst h1
    have hu2 := tup_but eh1 B2 hu1
    have B02 := B1.trans B2
    clear hu1 c1 B1 B2
    obtain ⟨ps, e1, e2, e3⟩ := id c2.Kt
    -- what is due
    refine ⟨_, rfl, _, rfl, _, rfl, kk, _, rfl, .inr (SqT.of e1), fun pl hpl => ?_⟩
    have S3 : Same H2 (upd H2 pl (.lst (ps.map V.ref))) := new_same hpl
    have ep3 : (upd H2 pl (.lst (ps.map V.ref))) pl = some (.lst (ps.map V.ref)) := upd_same
    generalize upd H2 pl (.lst (ps.map V.ref)) = H3 at S3 ep3
    refine ⟨_, rfl, _, _, _, _, rfl, rfl, SqT.of (S3 _ _ hu2), at_of (j := 1) (v := .int yy) rfl rfl, _, rfl, _, _, _, _, rfl, rfl, SqT.of (S3 _ _ hu2), at_of (j := 0) (v := .int xx) rfl rfl, _, rfl, (by show 3 ≤ sizeLine; decide), fun z1 hz1 => ⟨(by show 1 ≤ sizeLine; decide), fun l1 hl1 => ?_⟩⟩
    have S4 : Same H3 (upd H3 z1 (.tup [.int yy, .int xx, .int tt])) := new_same hz1
    have e4 : (upd H3 z1 (.tup [.int yy, .int xx, .int tt])) z1 = some (.tup [.int yy, .int xx, .int tt]) := upd_same
    generalize upd H3 z1 (.tup [.int yy, .int xx, .int tt]) = H4 at S4 e4 hl1
    have S5 : Same H4 (upd H4 l1 (.lst [.ref z1])) := new_same hl1
    have e5 : (upd H4 l1 (.lst [.ref z1])) l1 = some (.lst [.ref z1]) := upd_same
    generalize upd H4 l1 (.lst [.ref z1]) = H5 at S5 e5
    have S35 := S4.trans S5
    refine ⟨pl, l1, _, _, rfl, rfl, S35 _ _ ep3, e5, by rw [List.length_map, e2]; show K0.length + 1 ≤ sizeLine; exact Nat.le_of_lt (small1000 (by omega)), fun p2 hp2 => ?_⟩
    have S6 : Same H5 (upd H5 p2 (.lst (ps.map V.ref ++ [.ref z1]))) := new_same hp2
    have e6 : (upd H5 p2 (.lst (ps.map V.ref ++ [.ref z1]))) p2 = some (.lst (ps.map V.ref ++ [.ref z1])) := upd_same
    generalize upd H5 p2 (.lst (ps.map V.ref ++ [.ref z1])) = H6 at S6 e6
    have S26 := (S3.trans S35).trans S6
    have c6 := c2.keep S26
    have g : RwGood ns ls [yy, xx, tt] := ⟨yy, xx, tt, rfl, by have := cc.lo.bd yy my; omega, by have := cc.lo.bd xx mx; omega, my, mx, by omega, it⟩
    have sr : ShAll H6 [.ref z1] [.tup [.int yy, .int xx, .int tt]] := .cons (b := Sh.tup [.int yy, .int xx, .int tt]) ⟨⟨z1, rfl, (S5.trans S6) _ _ e4⟩, ints_known [yy, xx, tt]⟩ .nil
    refine ⟨x, ns, L, .ref l, .ref p2, .lst (ls.map V.int), .lst (ps.map V.ref ++ [.ref z1]), shT K0 ++ [.tup [.int yy, .int xx, .int tt]], rfl, c6.W, gb, seqs_is c6.el, known_nums, ⟨p2, rfl, e6⟩, sh_app (sh_tups e2 fun j a ts q1 q2 => S26 _ _ (e3 j a ts q1 q2)) sr, by rw [List.length_append]; unfold shT; rw [List.length_map]; show K0.length + 1 ≤ 100; omega, fun H7 zd S7 Td => ?_⟩
    rw [skJ_more (x := yy) (y := xx) (t := tt) cc.lo.ok rfl rfl rfl kk0 g] at Td
    have S27 := S26.trans S7
    have c7 := c2.keep S27
    have hu7 := S27 _ _ hu2
    have more := skJ_more (sl := .tup (ls.map V.int)) (sv := .tup []) (x := yy) (y := xx) (t := tt) cc.lo.ok rfl rfl rfl kk0 g
    have wt : PyData.strOk ("twice" : Str) = true := by decide +kernel
    have kn3 : ∀ H, Known H [.int yy, .int xx, .int tt] := fun H => ints_known [yy, xx, tt]
    refine ⟨_, rfl, _, rfl, _, _, _, _, rfl, rfl, SqT.of hu7, at_of (j := 1) (v := .int yy) rfl rfl, _, rfl, _, _, _, _, rfl, rfl, SqT.of hu7, at_of (j := 0) (v := .int xx) rfl rfl, _, rfl, z, ns, L, ls, K0, .int yy, .int xx, .int tt, rfl, c7.Z, gb, kn3 _, by omega, fun H8 rm S8 Tm => ⟨_, rfl, ?_⟩⟩
    have more' : skJ ns (.tup (ls.map V.int)) (.tup []) (shT K0 ++ [.tup [.int yy, .int xx, .int tt]]) = _ := more
    rw [more'] at Tm
    have S28 := S27.trans S8
    have c8 := c2.keep S28
    have hu8 := S28 _ _ hu2
    cases tw : toldB K0 yy xx with
    | true =>
      rw [tw, if_pos rfl] at Td Tm
      have Td : H7 zd = some (.tup [.str "bad", .int (K0.length : Nat), .str "twice"]) := Td
      have Tm : H8 rm = some (.tup [.str "bad", .int (K0.length : Nat), .str "twice", .bl true]) := Tm
      have Td8 := S8 _ _ Td
      refine ⟨_, _, bad_dp4 Tm, bad_dp Td8, bad_sh4 wt, bad_sh wt, _, rfl, ?_⟩
      rw [bad_ne]
      refine if_tr rfl ⟨_, rfl, _, _, _, _, rfl, rfl, SqT.of Td8, at_of (j := 0) (v := .str "bad") rfl rfl, rfl, _, rfl, ?_⟩
      refine if_fa (decide_eq_false bad_is) ?_
      refine ⟨_, rfl, _, _, _, _, rfl, rfl, SqT.of Td8, at_of (j := 0) (v := .str "bad") rfl rfl, rfl, _, rfl, ?_⟩
      refine if_tr (decide_eq_true rfl) ?_
      refine ⟨_, rfl, _, rfl, _, _, _, _, rfl, rfl, SqT.of hu8, at_of (j := 1) (v := .int yy) rfl rfl, _, rfl, _, _, _, _, rfl, rfl, SqT.of hu8, at_of (j := 0) (v := .int xx) rfl rfl, _, rfl, z, ns, L, ls, K0, .int yy, .int xx, .int tt, rfl, c8.Z, gb, kn3 _, by omega, fun H9 r9 S9 T9 => ?_⟩
      rw [more', tw, if_pos rfl] at T9
      have T9 : H9 r9 = some (.tup [.str "bad", .int (K0.length : Nat), .str "twice", .bl true]) := T9
      have S29 := S28.trans S9
      refine ⟨_, rfl, kk, _, rfl, .inr (SqT.of (S29 _ _ e1)), (by show 4 ≤ sizeLine; decide), fun y10 hy10 => ?_⟩
      rw [List.length_map, e2]
      have S10 : Same H9 (upd H9 y10 (.tup [.str "bad", .int (K0.length : Nat), .str "twice", .bl true])) := new_same hy10
      have e10 : (upd H9 y10 (.tup [.str "bad", .int (K0.length : Nat), .str "twice", .bl true])) y10 = some (.tup [.str "bad", .int (K0.length : Nat), .str "twice", .bl true]) := upd_same
      refine ⟨_, _, bad_dp4 (S10 _ _ T9), bad_dp4 e10, bad_sh4 wt, bad_sh4 wt, _, rfl, ?_⟩
      rw [bad_eqv4]
      have S210 := S29.trans S10
      exact if_fa rfl ⟨⟨B02.trans (But.same S210), h2.keep S210⟩, ⟨_, _, _, rfl⟩⟩
    | false =>
      rw [tw, if_neg Bool.false_ne_true] at Td Tm
      obtain ⟨Kd, kd, i1, d1, t1'⟩ := Td
      obtain ⟨Km, km, i2, d2, t2'⟩ := Tm
      have gg : ∀ r ∈ K0 ++ [[yy, xx, tt]], RwGood ns ls r := fun r hr => by
        rcases List.mem_append.mp hr with q | q
        · exact kk0.good r q
        · rw [List.mem_singleton.mp q]; exact g
      obtain rfl := IsKn.uniq gb gg gg (List.Perm.refl _) i1 i2
      refine is_ne d2 t2' (S8 _ _ d1) (t1'.keep S8) ⟨_, rfl, if_fa rfl ?_⟩
      refine ⟨_, rfl, _, _, _, _, rfl, rfl, SqT.of (S8 _ _ d1), at_of (j := 0) (v := .str "is") rfl rfl, rfl, _, rfl, ?_⟩
      exact if_fa (decide_eq_false is_bad) ⟨⟨B02.trans (But.same S28), h2.keep S28⟩, ⟨_, _, _, rfl⟩⟩
  rintro σ H1 ⟨⟨B1, h1⟩, ⟨v15, v16, v19, rfl⟩⟩
  exact k _ _ ⟨a, h, q, x, b, l, r, kp, z, kk, ns, ls, L, R, K0, _, _, _, _, _, _, _, _, _, _, _, _, _, _, _, rfl, cc.but B1 h1⟩
end
end J

set_option Elab.async false
set_option linter.all false
set_option maxRecDepth 100000
set_option maxHeartbeats 16000000
namespace J
open PySem PySem.Spec PyProof.Rows L2
section
variable {P : Program} {w : World} {K : PySem.W.Frag} {mg : Str → Option Value} {base : Heap} {f : Addr} {cdv : Value} {A : Around} {outer : List Env} {s : Shared} {H0 : Hp} {E0' : XK}
theorem seg7 {C CB CS fL fR fT fU : Addr} {fdL fdR fdT fdU : FuncData} (hr : Room 10 (XL P w K mg base f cdv A outer s H0 E0').A) (nr : mg "range" = none)
    (GL : Cal P w K mg base CX0 4 "_law_spoilt_labels" fL fdL ["_law_hand_here", "_law_labels_here"] spLSL) (GR : Cal P w K mg base CX0 4 "_law_spoilt_rows" fR fdR ["_law_hand_here", "_law_world", "_law_labels_here", "_law_rows"] spLSR)
    (GT : Cal P w K mg base CX0 8 "_law_told" fT fdT ["_law_book", "_law_labels_here", "_law_rows"] (spSkTold C CB)) (GU : Cal P w K mg base CX0 2 "_law_due" fU fdU ["_law_world", "_law_labels_here", "_law_rows"] spDue) :
    SegT (XL P w K mg base f cdv A outer s H0 E0') (cut 20 1) (MX C CB CS) (MX C CB CS) := by
  intro rest u hu
  refine ⟨_, (pss_cons 
  (ps_for PassesOwn.never rfl (pi_range1 (by rfl) nr (pa_cons pe_int pa_nil)) (pg_name (i := 20) sc_law.nd rfl (Or.inl rfl)) (pss_cons 
    (ps_set (i := 21) sc_law.nd rfl (Or.inl rfl) (pe_ifExp (pt_cmpR (r := rNe) op_ne (pv 20) pe_int (nomark _)) (pcal GL hr pass0 (pa_cons (pv 1) (pa_cons (pv 4) pa_nil))) (pv 4))) (pss_cons 
    (ps_set (i := 22) sc_law.nd rfl (Or.inl rfl) (pe_ifExp (pt_cmpR op_gt (pv 20) pe_int (nomark _)) (pcal GR hr pass0 (pa_cons (pv 1) (pa_cons (pv 2) (pa_cons (pv 4) (pa_cons (pv 5) pa_nil))))) (pv 5))) (pss_one 
    (ps_if (pt_cmpR (r := rNeD K) (op_neD hr.units) (pcal GT hr pass0 (pa_cons (pv 3) (pa_cons (pv 21) (pa_cons (pv 22) pa_nil)))) (pcal GU hr pass0 (pa_cons (pv 2) (pa_cons (pv 21) (pa_cons (pv 22) pa_nil)))) (nomark _)) (pss_one 
      (ps_ret pe_bl)) pss_nil))))) hu), fun D σ H m k _ => ?_⟩
  obtain ⟨a, h, q, x, b, l, r, kp, z, kk, ns, ls, L, R, K0, v9, v10, v11, v12, v13, v14, v15, v16, v17, v18, v19, v20, v21, v22, v23, rfl, cc⟩ := m
  have gb := cc.gb
  refine ⟨3, rfl, by decide, by decide, for_range (lo := 0) (n := 3) (fun i σ H' => (∃ v20 v21 v22, σ = [some (.ref a), some (.ref h), some (.ref x), some (.ref b), some (.ref l), some (.ref r), some (.ref kp), some (.ref z), some (.ref kk), v9, v10, v11, v12, v13, v14, v15, v16, v17, v18, v19, v20, v21, v22, v23]) ∧ Ws C CB CS h q x b l r kp z kk ns ls L R K0 H') ⟨⟨_, _, _, rfl⟩, cc⟩ ?_ ?_⟩
  · rintro i σ H1 hi ⟨⟨v20, v21, v22, rfl⟩, c1⟩
    refine seq_split (A := tAsg _ _) (fun σ' H' => ∃ y, σ' = [some (.ref a), some (.ref h), some (.ref x), some (.ref b), some (.ref l), some (.ref r), some (.ref kp), some (.ref z), some (.ref kk), v9, v10, v11, v12, v13, v14, v15, v16, v17, v18, v19, some (.int (0 + (i : Nat))), some y, v22, v23] ∧ Ws C CB CS h q x b l r kp z kk ns ls L R K0 H' ∧ LabV H' h y) (fun N g => ?_) ?_
    · refine ⟨_, rfl, rfl, _, rfl, ?_⟩
      by_cases c : (V.int (0 + (i : Nat))) = V.int 1
      · refine if_fa (by show (!decide (V.int (0 + (i : Nat)) = V.int 1)) = false; rw [decide_eq_true c]; rfl) ⟨_, rfl, ?_⟩
        exact g _ _ ⟨.ref l, rfl, c1, .inr ⟨l, _, rfl, int_nh c1.hh c1.el, .inl c1.el, ints_it⟩⟩
      · refine if_tr (by show (!decide (V.int (0 + (i : Nat)) = V.int 1)) = true; rw [decide_eq_false c]; rfl) ⟨_, rfl, _, rfl, h, q, l, ls, rfl, c1.hh, c1.el, c1.lo.l6, fun H2 y B2 h2 lv => ?_⟩
        exact g _ _ ⟨y, rfl, c1.but B2 h2, lv⟩
    rintro _ H2 ⟨y, rfl, c2, lv⟩
    refine seq_split (A := tAsg _ _) (fun σ' H' => ∃ yl, σ' = [some (.ref a), some (.ref h), some (.ref x), some (.ref b), some (.ref l), some (.ref r), some (.ref kp), some (.ref z), some (.ref kk), v9, v10, v11, v12, v13, v14, v15, v16, v17, v18, v19, some (.int (0 + (i : Nat))), some y, some yl, v23] ∧ Ws C CB CS h q x b l r kp z kk ns ls L R K0 H' ∧ LabV H' h y ∧ RowsV H' yl) (fun N g => ?_) ?_
    · refine ⟨_, rfl, _, _, rfl, rfl, _, rfl, ?_⟩
      by_cases c : (0 : Int) < 0 + (i : Nat)
      · refine if_tr (decide_eq_true c) ⟨_, rfl, _, rfl, _, rfl, _, rfl, h, q, x, l, r, ns, ls, L, R, rfl, c2.hh, c2.W, gb, c2.el, c2.lo.l6, c2.Rw, by have := c2.kr.len; omega, fun row hrow => ?_, fun H3 yl B3 h3 rv => ?_⟩
        · obtain ⟨ra, rb, rt, e, _, _, _, _, _, it⟩ := c2.kr.good row hrow
          exact ⟨ra, rb, rt, e, it⟩
        · exact g _ _ ⟨yl, rfl, c2.but B3 h3, lv.but c2.hh B3, rv⟩
      · refine if_fa (decide_eq_false c) ⟨_, rfl, ?_⟩
        obtain ⟨ps, p1, p2, p3⟩ := id c2.Rw
        exact g _ _ ⟨.ref r, rfl, c2, lv, .lst (ps.map V.ref), shT R, ⟨r, rfl, p1⟩, sh_tups p2 p3, by unfold shT; rw [List.length_map]; have := c2.kr.len; omega⟩
    rintro _ H3 ⟨yl, rfl, c3, lv3, sv, ss, isv, sa, l100⟩
    obtain ⟨sl, isl, knl⟩ := lv3.is
    refine ⟨_, rfl, _, rfl, _, rfl, b, ns, L, y, yl, sl, sv, ss, rfl, c3.B, gb, isl, knl, isv, sa, l100, fun H4 zt S4 Tt => ?_⟩
    have c4 := c3.keep S4
    refine ⟨_, rfl, _, rfl, _, rfl, x, ns, L, y, yl, sl, sv, ss, rfl, c4.W, gb, isl.keep S4, knl.keep S4, isv.keep S4, sa.keep S4, l100, fun H5 zd S5 Td => ?_⟩
    refine told_ne gb (Tt.keep S5) Td ⟨_, rfl, if_fa rfl ?_⟩
    exact ⟨⟨_, _, _, rfl⟩, c4.keep S5⟩
  · rintro σ H1 ⟨⟨v20, v21, v22, rfl⟩, c1⟩
    exact k _ _ ⟨a, h, q, x, b, l, r, kp, z, kk, ns, ls, L, R, K0, _, _, _, _, _, _, _, _, _, _, _, _, _, _, _, rfl, c1⟩
theorem seg8 {C CB CS : Addr} (hr : Room 10 (XL P w K mg base f cdv A outer s H0 E0').A) (c : SkX K mg CS) (nt : mg "tuple" = none) :
    EndT (XL P w K mg base f cdv A outer s H0 E0') (cut 21 1) (MX C CB CS) := by
  refine ⟨_, (pss_one 
  (ps_ret (pe_and (pe_cmpR (r := rEqD K) (op_eqD hr.units) (pe_fld (pv 7) rfl) (pv 8) (nomark _)) (pe_and (pe_cmpR (r := rEqD K) (op_eqD hr.units) (pv 5) (pv 6) (nomark _)) (pe_one (pe_cmpR (r := rEqD K) (op_eqD hr.units) (pe_fld (pv 7) rfl) (pe_callTy (T := "tuple") (r := rTupA) call_tupA (by rfl) nt (by decide +kernel) (pa_cons (pv 4) pa_nil)) (nomark _))))))), fun D σ H m k => ?_⟩
  obtain ⟨a, h, q, x, b, l, r, kp, z, kk, ns, ls, L, R, K0, v9, v10, v11, v12, v13, v14, v15, v16, v17, v18, v19, v20, v21, v22, v23, rfl, cc⟩ := m
  obtain ⟨dx, b', l', k', d', a1, a2, a3, a4, a5⟩ := id cc.Z
  refine ⟨_, rfl, z, CS, dx, _, _, rfl, a1, c.cl, c.nK, gf_known _ _ _ _, _, rfl, _, _, a4.data, cc.Kt.data, shaped_tupsT K0, shaped_tupsT K0, ?_⟩
  rw [eqv_tupT]
  refine ⟨_, rfl, if_tr (decide_eq_true rfl) ?_⟩
  refine ⟨_, rfl, _, rfl, _, _, (cc.Rw.data).1, (cc.Kp.data).1, shaped_tupsD R, shaped_tupsD R, ?_⟩
  rw [eqv_tupL]
  refine ⟨_, rfl, if_tr (decide_eq_true rfl) ?_⟩
  refine ⟨_, rfl, z, CS, dx, _, _, rfl, a1, c.cl, c.nL, gf_labels _ _ _ _, _, rfl, l, _, rfl, .inl cc.el, fun H1 t S1 et => ⟨_, _, .tup (SqT.of (S1 _ _ a3)) (dp_ints ls), .tup (SqT.of et) (dp_ints ls), shaped_ti ls, shaped_ti ls, ?_⟩⟩
  rw [eqv_ti, decide_eq_true rfl]
  exact k _
end
end J

set_option Elab.async false
set_option linter.all false
set_option maxRecDepth 100000
set_option maxHeartbeats 8000000
namespace J
open PySem PySem.Spec PyProof.Rows L2
section
variable {P : Program} {w : World} {K : PySem.W.Frag} {mg : Str → Option Value} {base : Heap}
theorem ok_law {f C CB CS CE CBk CBb fH fA fD fT fJ fB fL fK fI fP fQ gW gU pW pU fTi fEq fU fM fSL fSR fTo : Addr} {fd fdH fdA fdD fdT fdJ fdB fdL fdK fdI fdP fdQ fdW fdUn fdTi fdEq fdU fdM fdSL fdSR fdTo : FuncData}
    (F : Fun K "law" "law" s_law f fd) (c : SkX K mg CS) (nt : mg "tuple" = none) (nli : mg "list" = none) (nis : mg "isinstance" = none) (ne : mg "enumerate" = none) (nm : mg "max" = none) (nl : mg "len" = none) (nr : mg "range" = none)
    (GH : Cal P w K mg base CX0 1 "_law_hand" fH fdH ["_law_script"] (spHand K)) (GA : Cal P w K mg base CX0 4 "_law_any_world" fA fdA ["_law_hand_here", "_law_many"] spAW) (GD : Cal P w K mg base CX0 2 "_law_draw" fD fdD ["_law_hand_here", "_law_many"] spDraw)
    (mT : mg "Ties" = some (.ref C)) (MT : Mk K C fT) (FT : FnOk P w K mg base (L2.CX P w) 4 fT fdT ["self", "backs"] (spTies C CBk)) (bT : Binds K fdT ["self", "backs"] [])
    (mB : mg "Book" = some (.ref CB)) (MJ : Mk K CB fJ) (FJ : FnOk P w K mg base (L2.CX P w) 6 fJ fdJ ["self", "ties", "barred"] (spBI K C CB CBb)) (bJ : Binds K fdJ ["self", "ties", "barred"] [])
    (GB : Cal P w K mg base CX0 1 "_law_barred" fB fdB ["_law_world"] spLB) (GL : Cal P w K mg base CX0 3 "_law_labels" fL fdL ["_law_hand_here", "_law_many"] spLabels)
    (GK : Cal P w K mg base CX0 4 "_law_known" fK fdK ["_law_hand_here", "_law_world", "_law_labels_here", "_law_share"] spLKn)
    (MI : Mk K CS fI) (FI : FnOk P w K mg base (L2.CX P w) 6 fI fdI ["self", "book", "labels", "known"] (spSI C CB CS CE)) (bI : Binds K fdI ["self", "book", "labels", "known"] [])
    (GP : Cal P w K mg base CX0 1 "_law_plain_rows" fP fdP ["_law_world", "_law_rows"] spPR)
    (FQ : FnOk P w K mg base CX0 2 fQ fdQ ["self", "other"] (spBEq C CB)) (aQ : PySem.W.findIn K (.ref CB) "__eq__" = some (some (.ref fQ))) (nQ : PySem.W.findIn K (.ref CB) "__ne__" = some (some (.builtin "object.__ne__"))) (rQ : PySem.W.mroIn K CB (.type "object") = some true) (iQ : PySem.W.isFn K (.ref fQ) = true) (bQ : Binds K fdQ ["self", "other"] []) (nfB : PySem.W.notFirst K CB (.type "tuple") = true)
    (PW' : PropOf K CS "web" pW gW) (FW : FnOk P w K mg base CX0 1 gW fdW ["self"] (spWeb C CB CS)) (bW : Binds K fdW ["self"] []) (PU : PropOf K CS "unknown" pU gU) (FU : FnOk P w K mg base CX0 4 gU fdUn ["self"] (spUnk C CB CS)) (bU : Binds K fdUn ["self"] [])
    (GTi : Cal P w K mg base CX0 4 "_law_tie" fTi fdTi ["_law_sketch", "_law_x", "_law_y"] (spLTie C CB CS))
    (GEq : Cal P w K mg base CX0 9 "_law_equal" fEq fdEq ["_law_world", "_law_book", "_law_labels_here", "_law_rows", "_law_known_here", "_law_sketch"] (spLEq C CB CS))
    (GU : Cal P w K mg base CX0 2 "_law_due" fU fdU ["_law_world", "_law_labels_here", "_law_rows"] spDue) (GM : Cal P w K mg base CX0 9 "_law_more" fM fdM ["_law_sketch", "_law_x", "_law_y", "_law_tie_here"] (spMore C CB CS))
    (GSL : Cal P w K mg base CX0 4 "_law_spoilt_labels" fSL fdSL ["_law_hand_here", "_law_labels_here"] spLSL) (GSR : Cal P w K mg base CX0 4 "_law_spoilt_rows" fSR fdSR ["_law_hand_here", "_law_world", "_law_labels_here", "_law_rows"] spLSR)
    (GTo : Cal P w K mg base CX0 8 "_law_told" fTo fdTo ["_law_book", "_law_labels_here", "_law_rows"] (spSkTold C CB)) : FnOk P w K mg base CX0 11 f fd ["_law_script"] (spLaw K) := by
  refine F.ok sc_law (fun vs H Q E h => ?_) (fun cdv A outer s H vs Q E hr h => ?_)
  · obtain ⟨a, ns, rfl, _⟩ := h
    rfl
  · obtain ⟨a, ns, rfl, hS, hn, k⟩ := h
    have hr : Room 10 (XL P w K mg base f cdv A outer s H E).A := hr
    have e8 := seg8 (C := C) (CB := CB) (CS := CS) hr c nt
    have e7 := (seg7 (C := C) (CB := CB) (CS := CS) hr nr GSL GSR GTo GU).end e8
    have e6 := (seg6 (C := C) (CB := CB) (CS := CS) hr nl nli GD GU GM).end e7
    have e5 := (seg5 (C := C) (CB := CB) (CS := CS) hr nm GTi GEq).end e6
    have e4 := (seg4 (C := C) (CB := CB) (CS := CS) hr GTi).end e5
    have e3 := (seg3 (C := C) (CB := CB) (CS := CS) hr c nt ne PW' FW bW PU FU bU).end e4
    have e2 := (seg2 (C := C) (CB := CB) (CS := CS) hr c nt nis FQ aQ nQ rQ iQ bQ nfB).end e3
    have e1 := (seg1 (C := C) (CB := CB) (CS := CS) (CE := CE) hr nt nli GH GA GD mT MT FT bT mB MJ FJ bJ GB GL GK c.mS MI FI bI GP).end e2
    obtain ⟨t, pt, ht⟩ := e1
    exact ⟨t, pt, ht _ _ _ ⟨a, ns, rfl, hS, hn⟩ fun H' => k H'⟩
end
end J

set_option Elab.async false
set_option linter.all false
set_option maxRecDepth 100000
set_option maxHeartbeats 8000000
namespace J
open PySem PySem.Spec PyProof.Rows L2
abbrev s_BadSketch_init : Stmt := inClass (top 12) 0
theorem sc_NoGuest_init : FnScope ["self", "label"] ["self", "label"] (defScope s_NoGuest_init) := ⟨rfl, rfl, rfl, by decide +kernel, rfl, by decide +kernel, by decide +kernel⟩
theorem sc_Alike_init : FnScope ["self", "label"] ["self", "label"] (defScope s_Alike_init) := ⟨rfl, rfl, rfl, by decide +kernel, rfl, by decide +kernel, by decide +kernel⟩
theorem sc_BadSketch_init : FnScope ["self", "index", "what"] ["self", "index", "what"] (defScope s_BadSketch_init) := ⟨rfl, rfl, rfl, by decide +kernel, rfl, by decide +kernel, by decide +kernel⟩
theorem fn_or {P : Program} {w : World} {K : PySem.W.Frag} {mg : Str → Option Value} {base : Heap} {CX : CXT} {k : Nat} {f : Addr} {fd : FuncData} {ps : List Str} {sp sp' : Sp} (F : FnOk P w K mg base CX k f fd ps sp) (G : FnOk P w K mg base CX k f fd ps sp') : FnOk P w K mg base CX k f fd ps (fun vs H Q E => sp vs H Q E ∨ sp' vs H Q E) :=
  ⟨fun vs H Q E h => h.elim (F.len vs H Q E) (G.len vs H Q E), fun A S s H pv us vs Q E hr hE hb hv h => h.elim (F.run A S s H pv us vs Q E hr hE hb hv) (G.run A S s H pv us vs Q E hr hE hb hv)⟩
theorem fn_imp {P : Program} {w : World} {K : PySem.W.Frag} {mg : Str → Option Value} {base : Heap} {CX : CXT} {k : Nat} {f : Addr} {fd : FuncData} {ps : List Str} {sp sp' : Sp} (F : FnOk P w K mg base CX k f fd ps sp) (g : ∀ vs H Q E, sp' vs H Q E → sp vs H Q E) : FnOk P w K mg base CX k f fd ps sp' :=
  ⟨fun vs H Q E h => F.len vs H Q E (g _ _ _ _ h), fun A S s H pv us vs Q E hr hE hb hv h => F.run A S s H pv us vs Q E hr hE hb hv (g _ _ _ _ h)⟩
section
variable {P : Program} {w : World} {K : PySem.W.Frag} {mg : Str → Option Value} {base : Heap}
theorem ok_NoGuest_init {f C : Addr} {fd : FuncData} (F : Fun K "__init__" "NoGuest.__init__" s_NoGuest_init f fd) (o : OexC K C) (no : PySem.W.findIn K (.ref C) "label" = some none) : FnOk P w K mg base CX0 1 f fd ["self", "label"] (spXI C "label") := by
  refine F.ok sc_NoGuest_init (fun vs H Q E h => ?_) (fun cdv A outer s H vs Q E hr h => ?_)
  · obtain ⟨x, s, rfl, _⟩ := h
    rfl
  · obtain ⟨a, v, rfl, ha, k⟩ := h
    refine ⟨_, pss_one (ps_ost (pv 0) (pv 1)), ?_⟩
    exact ⟨_, rfl, _, rfl, a, C, rfl, o, no, .inl ⟨ha, k⟩⟩
theorem ok_Alike_init {f C : Addr} {fd : FuncData} (F : Fun K "__init__" "Alike.__init__" s_Alike_init f fd) (o : OexC K C) (no : PySem.W.findIn K (.ref C) "label" = some none) : FnOk P w K mg base CX0 1 f fd ["self", "label"] (spXI C "label") := by
  refine F.ok sc_Alike_init (fun vs H Q E h => ?_) (fun cdv A outer s H vs Q E hr h => ?_)
  · obtain ⟨x, s, rfl, _⟩ := h
    rfl
  · obtain ⟨a, v, rfl, ha, k⟩ := h
    refine ⟨_, pss_one (ps_ost (pv 0) (pv 1)), ?_⟩
    exact ⟨_, rfl, _, rfl, a, C, rfl, o, no, .inl ⟨ha, k⟩⟩
theorem ok_BadSketch_init {f C : Addr} {fd : FuncData} (F : Fun K "__init__" "BadSketch.__init__" s_BadSketch_init f fd) (o : OexC K C) (no1 : PySem.W.findIn K (.ref C) "index" = some none) (no2 : PySem.W.findIn K (.ref C) "what" = some none) :
    FnOk P w K mg base CX0 1 f fd ["self", "index", "what"] (spXI2 C "index" "what") := by
  refine F.ok sc_BadSketch_init (fun vs H Q E h => ?_) (fun cdv A outer s H vs Q E hr h => ?_)
  · obtain ⟨x, s, u, rfl, _⟩ := h
    rfl
  · obtain ⟨a, v, u, rfl, ha, k⟩ := h
    refine ⟨_, pss_cons (ps_ost (pv 0) (pv 1)) (pss_one (ps_ost (pv 0) (pv 2))), ?_⟩
    refine ⟨_, rfl, _, rfl, a, C, rfl, o, no1, .inl ⟨ha, fun dx hdx ne => ?_⟩⟩
    refine ⟨_, rfl, _, rfl, a, C, rfl, o, no2, .inr ⟨dx, [("index", v)], upd_same, by rw [upd_ne ne, upd_same], (by show 1 ≤ 900; decide), ?_⟩⟩
    exact k dx hdx ne
theorem seqO {f : Addr} {fd : FuncData} (F : FnOk P w K mg base CX0 1 f fd ["thing"] spSeq) (G : FnOk P w K mg base CX0 1 f fd ["thing"] (spSeqK K)) : FnOk P w K mg base CX0 1 f fd ["thing"] (spSeqO K) := fn_or F G
theorem chos_no {f : Addr} {fd : FuncData} : FnOk P w K mg base CX0 0 f fd ["things", "count"] (spChos 200) := fn_imp fn_no fun vs H Q E h => by
  obtain ⟨t, xs, _, _, _, c, _⟩ := h
  exact absurd c (by decide)
end
end J

set_option Elab.async false
set_option linter.all false
set_option maxRecDepth 100000
set_option maxHeartbeats 8000000
namespace J
open PySem L2
theorem kit_me {K : PySem.W.Frag} {S : Addr} : PySem.W.kitOne K (.ref S) (.ref S) = some true := by
  unfold PySem.W.kitOne
  rw [if_pos (by simp)]
theorem kit_no {K : PySem.W.Frag} {S : Addr} {T : String} (h2 : PySem.W.isClsIn K S = true) (h3 : PySem.W.typeIn K (.ref S) = some (.type "type")) (h4 : PySem.W.subIn K (.type T) (.ref S) = some false) : PySem.W.kitOne K (.type T) (.ref S) = some false := by
  have e2 : ((PySem.W.clsIn K S).isSome && PySem.W.typeIn K (.ref S) == some (.type "type")) = true := by
    have q : (PySem.W.clsIn K S).isSome = true := h2
    rw [q, h3]
    rfl
  unfold PySem.W.kitOne
  rw [if_neg (by simp)]
  show (if ((PySem.W.clsIn K S).isSome && PySem.W.typeIn K (.ref S) == some (.type "type")) = true then PySem.W.subIn K (.type T) (.ref S) else none) = some false
  rw [if_pos e2]
  exact h4
theorem kit_yes {K : PySem.W.Frag} {A S : Addr} (h2 : PySem.W.isClsIn K S = true) (h3 : PySem.W.typeIn K (.ref S) = some (.type "type")) (h4 : PySem.W.subIn K (.ref A) (.ref S) = some true) : PySem.W.kitOne K (.ref A) (.ref S) = some true := by
  have e2 : ((PySem.W.clsIn K S).isSome && PySem.W.typeIn K (.ref S) == some (.type "type")) = true := by
    have q : (PySem.W.clsIn K S).isSome = true := h2
    rw [q, h3]
    rfl
  unfold PySem.W.kitOne
  split
  · rfl
  · show (if ((PySem.W.clsIn K S).isSome && PySem.W.typeIn K (.ref S) == some (.type "type")) = true then PySem.W.subIn K (.ref A) (.ref S) else none) = some true
    rw [if_pos e2]
    exact h4
theorem fund_mk1 {K : PySem.W.Frag} {x qual : Str} {st : Stmt} {f Td e1 : Addr} {oc kV doc pm cd ct cT : Value} {od an dT : Option Addr} {sl slT : Array (Option Value)} {nT : Nat} (l : K.lookup f = some ⟨oc, od, .func (PySem.W.fnOf x qual (defArgs st) (defBody st) (defScope st) (.ref Td) kV doc pm an cd ct), sl⟩)
    (lT : K.lookup Td = some ⟨cT, dT, .seq #[.ref e1] nT, slT⟩) (c : PySem.W.codeIn K cd qual = true) (k : PySem.W.keepIn K (.ref f) = true) : FunD K x qual (defArgs st) (defBody st) (defScope st) [V.ref e1] [] f (PySem.W.fnOf x qual (defArgs st) (defBody st) (defScope st) (.ref Td) kV doc pm an cd ct) :=
  ⟨⟨oc, od, .ref Td, kV, doc, pm, an, cd, ct, sl, rfl, l, c, .inr ⟨by simp, Td, _, [.ref e1], nT, rfl, lT, rfl, .cons rfl .nil⟩, .inl rfl⟩, k⟩
theorem fund_full1 {K : PySem.W.Frag} {x qual : Str} {params : Arguments} {body : List Stmt} {scope : Scope} {a : V} {f : Addr} {fd : FuncData} {ps : List Str} (F : FunD K x qual params body scope [a] [] f fd)
    (h : ∀ (T : Addr) (kV doc pm : Value) (an : Option Addr) (cdv ct : Value) (us its : List Value), us.length = ps.length → its.length = 1 →
      ∃ k, bindArgs (PySem.W.fnOf x qual params body scope (.ref T) kV doc pm an cdv ct) ⟨us, []⟩ = seqItems? (.ref T) >>= k ∧ k (some its.toArray) = pure (ps.zip (us ++ its.drop 1))) : Binds K fd ps [] := by
  obtain ⟨ds, v, bd⟩ := F.binds1 ps.length 1 (by simp) (by simp) h
  have v' : Vals [] ds := v
  cases v'
  exact bd
theorem fund_dfl1 {K : PySem.W.Frag} {x qual : Str} {params : Arguments} {body : List Stmt} {scope : Scope} {a : Addr} {f : Addr} {fd : FuncData} {ps : List Str} {n : Nat} (F : FunD K x qual params body scope [V.ref a] [] f fd) (hn : n + 1 = ps.length)
    (h : ∀ (T : Addr) (kV doc pm : Value) (an : Option Addr) (cdv ct : Value) (us its : List Value), us.length = n → its.length = 1 →
      ∃ k, bindArgs (PySem.W.fnOf x qual params body scope (.ref T) kV doc pm an cdv ct) ⟨us, []⟩ = seqItems? (.ref T) >>= k ∧ k (some its.toArray) = pure (ps.zip (us ++ its.drop 0))) : Binds K fd ps [.ref a] := by
  obtain ⟨ds, v, bd⟩ := F.binds1 n 0 (by simp) hn h
  have v' : Vals [V.ref a] ds := v
  cases v' with
  | cons r t =>
    cases t
    cases r
    exact bd
theorem fund_mk {K : PySem.W.Frag} {x qual : Str} {st : Stmt} {f Td e1 e2 : Addr} {oc kV doc pm cd ct cT : Value} {od an dT : Option Addr} {sl slT : Array (Option Value)} {nT : Nat} (l : K.lookup f = some ⟨oc, od, .func (PySem.W.fnOf x qual (defArgs st) (defBody st) (defScope st) (.ref Td) kV doc pm an cd ct), sl⟩)
    (lT : K.lookup Td = some ⟨cT, dT, .seq #[.ref e1, .ref e2] nT, slT⟩) (c : PySem.W.codeIn K cd qual = true) (k : PySem.W.keepIn K (.ref f) = true) : FunD K x qual (defArgs st) (defBody st) (defScope st) [V.ref e1, V.ref e2] [] f (PySem.W.fnOf x qual (defArgs st) (defBody st) (defScope st) (.ref Td) kV doc pm an cd ct) :=
  ⟨⟨oc, od, .ref Td, kV, doc, pm, an, cd, ct, sl, rfl, l, c, .inr ⟨by simp, Td, _, [.ref e1, .ref e2], nT, rfl, lT, rfl, .cons rfl (.cons rfl .nil)⟩, .inl rfl⟩, k⟩
theorem fund_binds {K : PySem.W.Frag} {x qual : Str} {params : Arguments} {body : List Stmt} {scope : Scope} {a b : V} {f : Addr} {fd : FuncData} {ps : List Str} (F : FunD K x qual params body scope [a, b] [] f fd)
    (h : ∀ (T : Addr) (kV doc pm : Value) (an : Option Addr) (cdv ct : Value) (us its : List Value), us.length = ps.length → its.length = 2 →
      ∃ k, bindArgs (PySem.W.fnOf x qual params body scope (.ref T) kV doc pm an cdv ct) ⟨us, []⟩ = seqItems? (.ref T) >>= k ∧ k (some its.toArray) = pure (ps.zip (us ++ its.drop 2))) : Binds K fd ps [] := by
  obtain ⟨ds, v, bd⟩ := F.binds1 ps.length 2 (by simp) (by simp) h
  have v' : Vals [] ds := v
  cases v'
  exact bd
/-- an error of the class at S is what its own name catches -/
theorem exm_own {K : PySem.W.Frag} {S : Addr} (h1 : PySem.W.subIn K (.ref S) (.type "BaseException") = some true) (h2 : PySem.W.isClsIn K S = true) (h3 : PySem.W.typeIn K (.ref S) = some (.type "type")) (h4 : PySem.W.subIn K (.ref S) (.ref S) = some true) :
    PySem.W.exmOne K (.ref S) (.ref S) = some true := by
  have e1 : (PySem.W.subIn K (.ref S) (.type "BaseException") == some true) = true := by rw [h1]; rfl
  have e2 : ((PySem.W.clsIn K S).isSome && PySem.W.typeIn K (.ref S) == some (.type "type")) = true := by
    have q : (PySem.W.clsIn K S).isSome = true := h2
    rw [q, h3]
    rfl
  unfold PySem.W.exmOne
  rw [if_pos e1]
  show (if ((PySem.W.clsIn K S).isSome && PySem.W.typeIn K (.ref S) == some (.type "type")) = true then PySem.W.subIn K (.ref S) (.ref S) else none) = some true
  rw [if_pos e2]
  exact h4
/-- an error of the class at A, asked whether the name of the class at S catches it -/
theorem exm_of {K : PySem.W.Frag} {A S : Addr} {b : Bool} (h1 : PySem.W.subIn K (.ref S) (.type "BaseException") = some true) (h2 : PySem.W.isClsIn K S = true) (h3 : PySem.W.typeIn K (.ref S) = some (.type "type")) (h4 : PySem.W.subIn K (.ref A) (.ref S) = some b) :
    PySem.W.exmOne K (.ref A) (.ref S) = some b := by
  have e1 : (PySem.W.subIn K (.ref S) (.type "BaseException") == some true) = true := by rw [h1]; rfl
  have e2 : ((PySem.W.clsIn K S).isSome && PySem.W.typeIn K (.ref S) == some (.type "type")) = true := by
    have q : (PySem.W.clsIn K S).isSome = true := h2
    rw [q, h3]
    rfl
  unfold PySem.W.exmOne
  rw [if_pos e1]
  show (if ((PySem.W.clsIn K S).isSome && PySem.W.typeIn K (.ref S) == some (.type "type")) = true then PySem.W.subIn K (.ref A) (.ref S) else none) = some b
  rw [if_pos e2]
  exact h4
theorem all_mk {l : PySem.W.OpenLaw} {w : World} {K : PySem.W.Frag} {h : Heap} {mg : Str → Option Value} {fa : Addr} (X : K.In h) (G : h.Ns mainGlobals mg) (hfa : mg "law" = some (.ref fa))
    {GE CB f_xCB CI f_xCI CN f_xCN CL f_xCL C3 f_xC3 CE f_xCE CY f_xCY CT CK SK f_W f_LB f_Q f_TF f_tI f_tE f_tH f_tB f_I3 f_RO f_LR f_CH f_WR f_BT f_bI TdbI e1bI f_bE f_CF f_TR f_TW f_KN f_KS f_sI TdsI e1sI f_sE f_sW p_sW f_sU p_sU f_sT f_sK f_sO f_X f_H f_D f_P f_K f_RD f_LC f_LE f_BA f_AW f_B f_SH f_KW f_PR f_IL f_DU f_TD f_MO f_LT f_OL f_OR f_EQ f_V : Addr} {oc_xCB kv_xCB dc_xCB pm_xCB cd_xCB ct_xCB oc_xCI kv_xCI dc_xCI pm_xCI cd_xCI ct_xCI oc_xCN kv_xCN dc_xCN pm_xCN cd_xCN ct_xCN oc_xCL kv_xCL dc_xCL pm_xCL cd_xCL ct_xCL oc_xC3 kv_xC3 dc_xC3 pm_xC3 cd_xC3 ct_xC3 oc_xCE kv_xCE dc_xCE pm_xCE cd_xCE ct_xCE oc_xCY kv_xCY dc_xCY pm_xCY cd_xCY ct_xCY oc_W kv_W dc_W pm_W cd_W ct_W oc_LB kv_LB dc_LB pm_LB cd_LB ct_LB oc_Q kv_Q dc_Q pm_Q cd_Q ct_Q oc_TF kv_TF dc_TF pm_TF cd_TF ct_TF oc_tI kv_tI dc_tI pm_tI cd_tI ct_tI oc_tE kv_tE dc_tE pm_tE cd_tE ct_tE oc_tH kv_tH dc_tH pm_tH cd_tH ct_tH oc_tB kv_tB dc_tB pm_tB cd_tB ct_tB oc_I3 kv_I3 dc_I3 pm_I3 cd_I3 ct_I3 oc_RO kv_RO dc_RO pm_RO cd_RO ct_RO oc_LR kv_LR dc_LR pm_LR cd_LR ct_LR oc_CH kv_CH dc_CH pm_CH cd_CH ct_CH oc_WR kv_WR dc_WR pm_WR cd_WR ct_WR oc_BT kv_BT dc_BT pm_BT cd_BT ct_BT oc_bI kv_bI dc_bI pm_bI cd_bI ct_bI cTbI oc_bE kv_bE dc_bE pm_bE cd_bE ct_bE oc_CF kv_CF dc_CF pm_CF cd_CF ct_CF oc_TR kv_TR dc_TR pm_TR cd_TR ct_TR oc_TW kv_TW dc_TW pm_TW cd_TW ct_TW oc_KN kv_KN dc_KN pm_KN cd_KN ct_KN oc_KS kv_KS dc_KS pm_KS cd_KS ct_KS oc_sI kv_sI dc_sI pm_sI cd_sI ct_sI cTsI oc_sE kv_sE dc_sE pm_sE cd_sE ct_sE oc_sW kv_sW dc_sW pm_sW cd_sW ct_sW oc_sU kv_sU dc_sU pm_sU cd_sU ct_sU oc_sT kv_sT dc_sT pm_sT cd_sT ct_sT oc_sK kv_sK dc_sK pm_sK cd_sK ct_sK oc_sO kv_sO dc_sO pm_sO cd_sO ct_sO oc_X kv_X dc_X pm_X cd_X ct_X oc_H kv_H dc_H pm_H cd_H ct_H oc_D kv_D dc_D pm_D cd_D ct_D oc_P kv_P dc_P pm_P cd_P ct_P oc_K kv_K dc_K pm_K cd_K ct_K oc_RD kv_RD dc_RD pm_RD cd_RD ct_RD oc_LC kv_LC dc_LC pm_LC cd_LC ct_LC oc_LE kv_LE dc_LE pm_LE cd_LE ct_LE oc_BA kv_BA dc_BA pm_BA cd_BA ct_BA oc_AW kv_AW dc_AW pm_AW cd_AW ct_AW oc_B kv_B dc_B pm_B cd_B ct_B oc_SH kv_SH dc_SH pm_SH cd_SH ct_SH oc_KW kv_KW dc_KW pm_KW cd_KW ct_KW oc_PR kv_PR dc_PR pm_PR cd_PR ct_PR oc_IL kv_IL dc_IL pm_IL cd_IL ct_IL oc_DU kv_DU dc_DU pm_DU cd_DU ct_DU oc_TD kv_TD dc_TD pm_TD cd_TD ct_TD oc_MO kv_MO dc_MO pm_MO cd_MO ct_MO oc_LT kv_LT dc_LT pm_LT cd_LT ct_LT oc_OL kv_OL dc_OL pm_OL cd_OL ct_OL oc_OR kv_OR dc_OR pm_OR cd_OR ct_OR oc_EQ kv_EQ dc_EQ pm_EQ cd_EQ ct_EQ oc_V kv_V dc_V pm_V cd_V ct_V : Value} {od_xCB an_xCB od_xCI an_xCI od_xCN an_xCN od_xCL an_xCL od_xC3 an_xC3 od_xCE an_xCE od_xCY an_xCY od_W an_W od_LB an_LB od_Q an_Q od_TF an_TF od_tI an_tI od_tE an_tE od_tH an_tH od_tB an_tB od_I3 an_I3 od_RO an_RO od_LR an_LR od_CH an_CH od_WR an_WR od_BT an_BT od_bI an_bI dTbI dEbI od_bE an_bE od_CF an_CF od_TR an_TR od_TW an_TW od_KN an_KN od_KS an_KS od_sI an_sI dTsI dEsI od_sE an_sE od_sW an_sW od_sU an_sU od_sT an_sT od_sK an_sK od_sO an_sO od_X an_X od_H an_H od_D an_D od_P an_P od_K an_K od_RD an_RD od_LC an_LC od_LE an_LE od_BA an_BA od_AW an_AW od_B an_B od_SH an_SH od_KW an_KW od_PR an_PR od_IL an_IL od_DU an_DU od_TD an_TD od_MO an_MO od_LT an_LT od_OL an_OL od_OR an_OR od_EQ an_EQ od_V an_V : Option Addr} {sl_xCB sl_xCI sl_xCN sl_xCL sl_xC3 sl_xCE sl_xCY sl_W sl_LB sl_Q sl_TF sl_tI sl_tE sl_tH sl_tB sl_I3 sl_RO sl_LR sl_CH sl_WR sl_BT sl_bI sTbI sEbI sl_bE sl_CF sl_TR sl_TW sl_KN sl_KS sl_sI sTsI sEsI sl_sE sl_sW sl_sU sl_sT sl_sK sl_sO sl_X sl_H sl_D sl_P sl_K sl_RD sl_LC sl_LE sl_BA sl_AW sl_B sl_SH sl_KW sl_PR sl_IL sl_DU sl_TD sl_MO sl_LT sl_OL sl_OR sl_EQ sl_V : Array (Option Value)} {tM tL tZ : Tok} {nTbI nEbI nTsI nEsI : Nat}
    {nmCB qCB : Str} {NCB : Addr} {bsCB : List Value} {snCB : List Str} {subCB : List Value} {abCB : Bool} {colCB : Option Bool} {ddCB : Option Addr} {m0CB m1CB m2CB m3CB m5CB : Option Value}
    {nmCI qCI : Str} {NCI : Addr} {bsCI : List Value} {snCI : List Str} {subCI : List Value} {abCI : Bool} {colCI : Option Bool} {ddCI : Option Addr} {m0CI m1CI m2CI m3CI m5CI : Option Value}
    {nmCN qCN : Str} {NCN : Addr} {bsCN : List Value} {snCN : List Str} {subCN : List Value} {abCN : Bool} {colCN : Option Bool} {ddCN : Option Addr} {m0CN m1CN m2CN m3CN m5CN : Option Value}
    {nmCL qCL : Str} {NCL : Addr} {bsCL : List Value} {snCL : List Str} {subCL : List Value} {abCL : Bool} {colCL : Option Bool} {ddCL : Option Addr} {m0CL m1CL m2CL m3CL m5CL : Option Value}
    {nmC3 qC3 : Str} {NC3 : Addr} {bsC3 : List Value} {snC3 : List Str} {subC3 : List Value} {abC3 : Bool} {colC3 : Option Bool} {ddC3 : Option Addr} {m0C3 m1C3 m2C3 m3C3 m5C3 : Option Value}
    {nmCE qCE : Str} {NCE : Addr} {bsCE : List Value} {snCE : List Str} {subCE : List Value} {abCE : Bool} {colCE : Option Bool} {ddCE : Option Addr} {m0CE m1CE m2CE m3CE m5CE : Option Value}
    {nmCY qCY : Str} {NCY : Addr} {bsCY : List Value} {snCY : List Str} {subCY : List Value} {abCY : Bool} {colCY : Option Bool} {ddCY : Option Addr} {m0CY m1CY m2CY m3CY m5CY : Option Value}
    {r_sW : List Value}
    {r_sU : List Value}
    (z_len : PySem.W.nsIn K mainGlobals "len" = some none)
    (z_isinstance : PySem.W.nsIn K mainGlobals "isinstance" = some none)
    (z_int : PySem.W.nsIn K mainGlobals "int" = some none)
    (z_bool : PySem.W.nsIn K mainGlobals "bool" = some none)
    (z_list : PySem.W.nsIn K mainGlobals "list" = some none)
    (z_tuple : PySem.W.nsIn K mainGlobals "tuple" = some none)
    (z_range : PySem.W.nsIn K mainGlobals "range" = some none)
    (z_abs : PySem.W.nsIn K mainGlobals "abs" = some none)
    (z_enumerate : PySem.W.nsIn K mainGlobals "enumerate" = some none)
    (z_all : PySem.W.nsIn K mainGlobals "all" = some none)
    (z_sorted : PySem.W.nsIn K mainGlobals "sorted" = some none)
    (z_set : PySem.W.nsIn K mainGlobals "set" = some none)
    (z_min : PySem.W.nsIn K mainGlobals "min" = some none)
    (gM : PySem.W.nsIn K mainGlobals "MOST_TIES" = some (some (.int 4 tM)))
    (gL : PySem.W.nsIn K mainGlobals "MOST_LABEL" = some (some (.int 1000000000 tL)))
    (gZ : PySem.W.nsIn K mainGlobals "MOST_LABELS" = some (some (.int 6 tZ)))
    (aCB : PySem.W.nsIn K mainGlobals "BadTies" = some (some (.ref CB)))
    (axCB : PySem.W.findIn K (.ref CB) "__init__" = some (some (.ref f_xCB)))
    (ixCB : PySem.W.typeIn K (.ref f_xCB) = some (.type "function"))
    (lxCB : K.lookup f_xCB = some ⟨oc_xCB, od_xCB, .func (PySem.W.fnOf "__init__" "BadTies.__init__" (defArgs s_BadTies_init) (defBody s_BadTies_init) (defScope s_BadTies_init) .none kv_xCB dc_xCB pm_xCB an_xCB cd_xCB ct_xCB), sl_xCB⟩)
    (cxCB : PySem.W.codeIn K cd_xCB "BadTies.__init__" = true)
    (kxCB : PySem.W.keepIn K (.ref f_xCB) = true)
    (xCB : K.lookup CB = some (excClassObj nmCB qCB CB NCB bsCB [.ref GE, .type "ValueError", .type "Exception", .type "BaseException", .type "object"] true snCB subCB abCB colCB ddCB m0CB m1CB m2CB m3CB m5CB "ValueError.__new__"))
    (saCB : PySem.W.findIn K (.ref CB) "__setattr__" = some (some (.builtin "object.__setattr__")))
    (gaCB : PySem.W.findIn K (.ref CB) "__getattribute__" = some (some (.builtin "BaseException.__getattribute__")))
    (ggCB : PySem.W.findIn K (.ref CB) "__getattr__" = some none)
    (no0CB : PySem.W.findIn K (.ref CB) "what" = some none)
    (kcCB : PySem.W.keepIn K (.ref CB) = true)
    (exCB : PySem.W.subIn K (.ref CB) (.type "BaseException") = some true)
    (tyCB : PySem.W.typeIn K (.ref CB) = some (.type "type"))
    (hdCB : PySem.W.hasDictIn K CB = true)
    (icCB : PySem.W.isClsIn K CB = true)
    (scCB : PySem.W.subIn K (.ref CB) (.ref CB) = some true)
    (aCI : PySem.W.nsIn K mainGlobals "NoTie" = some (some (.ref CI)))
    (axCI : PySem.W.findIn K (.ref CI) "__init__" = some (some (.ref f_xCI)))
    (ixCI : PySem.W.typeIn K (.ref f_xCI) = some (.type "function"))
    (lxCI : K.lookup f_xCI = some ⟨oc_xCI, od_xCI, .func (PySem.W.fnOf "__init__" "NoTie.__init__" (defArgs s_NoTie_init) (defBody s_NoTie_init) (defScope s_NoTie_init) .none kv_xCI dc_xCI pm_xCI an_xCI cd_xCI ct_xCI), sl_xCI⟩)
    (cxCI : PySem.W.codeIn K cd_xCI "NoTie.__init__" = true)
    (kxCI : PySem.W.keepIn K (.ref f_xCI) = true)
    (xCI : K.lookup CI = some (excClassObj nmCI qCI CI NCI bsCI [.ref GE, .type "ValueError", .type "Exception", .type "BaseException", .type "object"] true snCI subCI abCI colCI ddCI m0CI m1CI m2CI m3CI m5CI "ValueError.__new__"))
    (saCI : PySem.W.findIn K (.ref CI) "__setattr__" = some (some (.builtin "object.__setattr__")))
    (gaCI : PySem.W.findIn K (.ref CI) "__getattribute__" = some (some (.builtin "BaseException.__getattribute__")))
    (ggCI : PySem.W.findIn K (.ref CI) "__getattr__" = some none)
    (no0CI : PySem.W.findIn K (.ref CI) "tie" = some none)
    (kcCI : PySem.W.keepIn K (.ref CI) = true)
    (exCI : PySem.W.subIn K (.ref CI) (.type "BaseException") = some true)
    (tyCI : PySem.W.typeIn K (.ref CI) = some (.type "type"))
    (hdCI : PySem.W.hasDictIn K CI = true)
    (icCI : PySem.W.isClsIn K CI = true)
    (scCI : PySem.W.subIn K (.ref CI) (.ref CI) = some true)
    (aCN : PySem.W.nsIn K mainGlobals "NoGuest" = some (some (.ref CN)))
    (axCN : PySem.W.findIn K (.ref CN) "__init__" = some (some (.ref f_xCN)))
    (ixCN : PySem.W.typeIn K (.ref f_xCN) = some (.type "function"))
    (lxCN : K.lookup f_xCN = some ⟨oc_xCN, od_xCN, .func (PySem.W.fnOf "__init__" "NoGuest.__init__" (defArgs s_NoGuest_init) (defBody s_NoGuest_init) (defScope s_NoGuest_init) .none kv_xCN dc_xCN pm_xCN an_xCN cd_xCN ct_xCN), sl_xCN⟩)
    (cxCN : PySem.W.codeIn K cd_xCN "NoGuest.__init__" = true)
    (kxCN : PySem.W.keepIn K (.ref f_xCN) = true)
    (xCN : K.lookup CN = some (excClassObj nmCN qCN CN NCN bsCN [.ref GE, .type "ValueError", .type "Exception", .type "BaseException", .type "object"] true snCN subCN abCN colCN ddCN m0CN m1CN m2CN m3CN m5CN "ValueError.__new__"))
    (saCN : PySem.W.findIn K (.ref CN) "__setattr__" = some (some (.builtin "object.__setattr__")))
    (gaCN : PySem.W.findIn K (.ref CN) "__getattribute__" = some (some (.builtin "BaseException.__getattribute__")))
    (ggCN : PySem.W.findIn K (.ref CN) "__getattr__" = some none)
    (no0CN : PySem.W.findIn K (.ref CN) "label" = some none)
    (kcCN : PySem.W.keepIn K (.ref CN) = true)
    (exCN : PySem.W.subIn K (.ref CN) (.type "BaseException") = some true)
    (tyCN : PySem.W.typeIn K (.ref CN) = some (.type "type"))
    (hdCN : PySem.W.hasDictIn K CN = true)
    (icCN : PySem.W.isClsIn K CN = true)
    (scCN : PySem.W.subIn K (.ref CN) (.ref CN) = some true)
    (aCL : PySem.W.nsIn K mainGlobals "Alike" = some (some (.ref CL)))
    (axCL : PySem.W.findIn K (.ref CL) "__init__" = some (some (.ref f_xCL)))
    (ixCL : PySem.W.typeIn K (.ref f_xCL) = some (.type "function"))
    (lxCL : K.lookup f_xCL = some ⟨oc_xCL, od_xCL, .func (PySem.W.fnOf "__init__" "Alike.__init__" (defArgs s_Alike_init) (defBody s_Alike_init) (defScope s_Alike_init) .none kv_xCL dc_xCL pm_xCL an_xCL cd_xCL ct_xCL), sl_xCL⟩)
    (cxCL : PySem.W.codeIn K cd_xCL "Alike.__init__" = true)
    (kxCL : PySem.W.keepIn K (.ref f_xCL) = true)
    (xCL : K.lookup CL = some (excClassObj nmCL qCL CL NCL bsCL [.ref GE, .type "ValueError", .type "Exception", .type "BaseException", .type "object"] true snCL subCL abCL colCL ddCL m0CL m1CL m2CL m3CL m5CL "ValueError.__new__"))
    (saCL : PySem.W.findIn K (.ref CL) "__setattr__" = some (some (.builtin "object.__setattr__")))
    (gaCL : PySem.W.findIn K (.ref CL) "__getattribute__" = some (some (.builtin "BaseException.__getattribute__")))
    (ggCL : PySem.W.findIn K (.ref CL) "__getattr__" = some none)
    (no0CL : PySem.W.findIn K (.ref CL) "label" = some none)
    (kcCL : PySem.W.keepIn K (.ref CL) = true)
    (exCL : PySem.W.subIn K (.ref CL) (.type "BaseException") = some true)
    (tyCL : PySem.W.typeIn K (.ref CL) = some (.type "type"))
    (hdCL : PySem.W.hasDictIn K CL = true)
    (icCL : PySem.W.isClsIn K CL = true)
    (scCL : PySem.W.subIn K (.ref CL) (.ref CL) = some true)
    (aC3 : PySem.W.nsIn K mainGlobals "NoThree" = some (some (.ref C3)))
    (axC3 : PySem.W.findIn K (.ref C3) "__init__" = some (some (.ref f_xC3)))
    (ixC3 : PySem.W.typeIn K (.ref f_xC3) = some (.type "function"))
    (lxC3 : K.lookup f_xC3 = some ⟨oc_xC3, od_xC3, .func (PySem.W.fnOf "__init__" "NoThree.__init__" (defArgs s_NoThree_init) (defBody s_NoThree_init) (defScope s_NoThree_init) .none kv_xC3 dc_xC3 pm_xC3 an_xC3 cd_xC3 ct_xC3), sl_xC3⟩)
    (cxC3 : PySem.W.codeIn K cd_xC3 "NoThree.__init__" = true)
    (kxC3 : PySem.W.keepIn K (.ref f_xC3) = true)
    (xC3 : K.lookup C3 = some (excClassObj nmC3 qC3 C3 NC3 bsC3 [.ref GE, .type "ValueError", .type "Exception", .type "BaseException", .type "object"] true snC3 subC3 abC3 colC3 ddC3 m0C3 m1C3 m2C3 m3C3 m5C3 "ValueError.__new__"))
    (saC3 : PySem.W.findIn K (.ref C3) "__setattr__" = some (some (.builtin "object.__setattr__")))
    (gaC3 : PySem.W.findIn K (.ref C3) "__getattribute__" = some (some (.builtin "BaseException.__getattribute__")))
    (ggC3 : PySem.W.findIn K (.ref C3) "__getattr__" = some none)
    (no0C3 : PySem.W.findIn K (.ref C3) "three" = some none)
    (kcC3 : PySem.W.keepIn K (.ref C3) = true)
    (exC3 : PySem.W.subIn K (.ref C3) (.type "BaseException") = some true)
    (tyC3 : PySem.W.typeIn K (.ref C3) = some (.type "type"))
    (hdC3 : PySem.W.hasDictIn K C3 = true)
    (icC3 : PySem.W.isClsIn K C3 = true)
    (scC3 : PySem.W.subIn K (.ref C3) (.ref C3) = some true)
    (aCE : PySem.W.nsIn K mainGlobals "BadBook" = some (some (.ref CE)))
    (axCE : PySem.W.findIn K (.ref CE) "__init__" = some (some (.ref f_xCE)))
    (ixCE : PySem.W.typeIn K (.ref f_xCE) = some (.type "function"))
    (lxCE : K.lookup f_xCE = some ⟨oc_xCE, od_xCE, .func (PySem.W.fnOf "__init__" "BadBook.__init__" (defArgs s_BadBook_init) (defBody s_BadBook_init) (defScope s_BadBook_init) .none kv_xCE dc_xCE pm_xCE an_xCE cd_xCE ct_xCE), sl_xCE⟩)
    (cxCE : PySem.W.codeIn K cd_xCE "BadBook.__init__" = true)
    (kxCE : PySem.W.keepIn K (.ref f_xCE) = true)
    (xCE : K.lookup CE = some (excClassObj nmCE qCE CE NCE bsCE [.ref GE, .type "ValueError", .type "Exception", .type "BaseException", .type "object"] true snCE subCE abCE colCE ddCE m0CE m1CE m2CE m3CE m5CE "ValueError.__new__"))
    (saCE : PySem.W.findIn K (.ref CE) "__setattr__" = some (some (.builtin "object.__setattr__")))
    (gaCE : PySem.W.findIn K (.ref CE) "__getattribute__" = some (some (.builtin "BaseException.__getattribute__")))
    (ggCE : PySem.W.findIn K (.ref CE) "__getattr__" = some none)
    (no0CE : PySem.W.findIn K (.ref CE) "index" = some none)
    (no1CE : PySem.W.findIn K (.ref CE) "what" = some none)
    (kcCE : PySem.W.keepIn K (.ref CE) = true)
    (exCE : PySem.W.subIn K (.ref CE) (.type "BaseException") = some true)
    (tyCE : PySem.W.typeIn K (.ref CE) = some (.type "type"))
    (hdCE : PySem.W.hasDictIn K CE = true)
    (icCE : PySem.W.isClsIn K CE = true)
    (scCE : PySem.W.subIn K (.ref CE) (.ref CE) = some true)
    (aCY : PySem.W.nsIn K mainGlobals "BadSketch" = some (some (.ref CY)))
    (axCY : PySem.W.findIn K (.ref CY) "__init__" = some (some (.ref f_xCY)))
    (ixCY : PySem.W.typeIn K (.ref f_xCY) = some (.type "function"))
    (lxCY : K.lookup f_xCY = some ⟨oc_xCY, od_xCY, .func (PySem.W.fnOf "__init__" "BadSketch.__init__" (defArgs s_BadSketch_init) (defBody s_BadSketch_init) (defScope s_BadSketch_init) .none kv_xCY dc_xCY pm_xCY an_xCY cd_xCY ct_xCY), sl_xCY⟩)
    (cxCY : PySem.W.codeIn K cd_xCY "BadSketch.__init__" = true)
    (kxCY : PySem.W.keepIn K (.ref f_xCY) = true)
    (xCY : K.lookup CY = some (excClassObj nmCY qCY CY NCY bsCY [.ref GE, .type "ValueError", .type "Exception", .type "BaseException", .type "object"] true snCY subCY abCY colCY ddCY m0CY m1CY m2CY m3CY m5CY "ValueError.__new__"))
    (saCY : PySem.W.findIn K (.ref CY) "__setattr__" = some (some (.builtin "object.__setattr__")))
    (gaCY : PySem.W.findIn K (.ref CY) "__getattribute__" = some (some (.builtin "BaseException.__getattribute__")))
    (ggCY : PySem.W.findIn K (.ref CY) "__getattr__" = some none)
    (no0CY : PySem.W.findIn K (.ref CY) "index" = some none)
    (no1CY : PySem.W.findIn K (.ref CY) "what" = some none)
    (kcCY : PySem.W.keepIn K (.ref CY) = true)
    (exCY : PySem.W.subIn K (.ref CY) (.type "BaseException") = some true)
    (tyCY : PySem.W.typeIn K (.ref CY) = some (.type "type"))
    (hdCY : PySem.W.hasDictIn K CY = true)
    (icCY : PySem.W.isClsIn K CY = true)
    (scCY : PySem.W.subIn K (.ref CY) (.ref CY) = some true)
    (aCT : PySem.W.nsIn K mainGlobals "Ties" = some (some (.ref CT)))
    (pgCT : PySem.W.plainGet K CT Str.empty = true)
    (hdCT : PySem.W.hasDictIn K CT = true)
    (poCT : PySem.W.plainOver K CT = true)
    (saCT : PySem.W.findIn K (.ref CT) "__setattr__" = some (some (.builtin "object.__setattr__")))
    (mkCT : PySem.W.makesIn K CT = true)
    (kcCT : PySem.W.keepIn K (.ref CT) = true)
    (n0CT : PySem.W.findIn K (.ref CT) "backs" = some none)
    (n1CT : PySem.W.findIn K (.ref CT) "many" = some none)
    (haCT : PySem.W.findIn K (.ref CT) "__class__" = some (some (.builtin "object.__class__")))
    (hn0 : PySem.W.specialIn K (.builtin "object.__class__") "__get__" = some (some (.builtin "getset_descriptor.__get__")))
    (htk0 : PySem.W.takesIn K (.builtin "object.__class__") = some true)
    (hmCT : PySem.W.mroIn K CT (.type "object") = some true)
    (icCT : PySem.W.isClsIn K CT = true)
    (tyCT : PySem.W.typeIn K (.ref CT) = some (.type "type"))
    (suCT : PySem.W.subIn K (.type "tuple") (.ref CT) = some false)
    (nfCT : PySem.W.notFirst K CT (.type "tuple") = true)
    (slCT : PySem.W.subIn K (.type "list") (.ref CT) = some false)
    (aCK : PySem.W.nsIn K mainGlobals "Book" = some (some (.ref CK)))
    (pgCK : PySem.W.plainGet K CK Str.empty = true)
    (hdCK : PySem.W.hasDictIn K CK = true)
    (poCK : PySem.W.plainOver K CK = true)
    (saCK : PySem.W.findIn K (.ref CK) "__setattr__" = some (some (.builtin "object.__setattr__")))
    (mkCK : PySem.W.makesIn K CK = true)
    (kcCK : PySem.W.keepIn K (.ref CK) = true)
    (n0CK : PySem.W.findIn K (.ref CK) "ties" = some none)
    (n1CK : PySem.W.findIn K (.ref CK) "barred" = some none)
    (n2CK : PySem.W.findIn K (.ref CK) "least_barred" = some none)
    (n3CK : PySem.W.findIn K (.ref CK) "bar_table" = some none)
    (haCK : PySem.W.findIn K (.ref CK) "__class__" = some (some (.builtin "object.__class__")))
    (hmCK : PySem.W.mroIn K CK (.type "object") = some true)
    (icCK : PySem.W.isClsIn K CK = true)
    (tyCK : PySem.W.typeIn K (.ref CK) = some (.type "type"))
    (suCK : PySem.W.subIn K (.type "tuple") (.ref CK) = some false)
    (nfCK : PySem.W.notFirst K CK (.type "tuple") = true)
    (siCK : PySem.W.subIn K (.type "int") (.ref CK) = some false)
    (neCK : PySem.W.findIn K (.ref CK) "__ne__" = some (some (.builtin "object.__ne__")))
    (aSK : PySem.W.nsIn K mainGlobals "Sketch" = some (some (.ref SK)))
    (pgSK : PySem.W.plainGet K SK Str.empty = true)
    (hdSK : PySem.W.hasDictIn K SK = true)
    (poSK : PySem.W.plainOver K SK = true)
    (saSK : PySem.W.findIn K (.ref SK) "__setattr__" = some (some (.builtin "object.__setattr__")))
    (mkSK : PySem.W.makesIn K SK = true)
    (kcSK : PySem.W.keepIn K (.ref SK) = true)
    (n0SK : PySem.W.findIn K (.ref SK) "book" = some none)
    (n1SK : PySem.W.findIn K (.ref SK) "labels" = some none)
    (n2SK : PySem.W.findIn K (.ref SK) "known" = some none)
    (n3SK : PySem.W.findIn K (.ref SK) "known_ties" = some none)
    (haSK : PySem.W.findIn K (.ref SK) "__class__" = some (some (.builtin "object.__class__")))
    (hmSK : PySem.W.mroIn K SK (.type "object") = some true)
    (icSK : PySem.W.isClsIn K SK = true)
    (tySK : PySem.W.typeIn K (.ref SK) = some (.type "type"))
    (suSK : PySem.W.subIn K (.type "tuple") (.ref SK) = some false)
    (nfSK : PySem.W.notFirst K SK (.type "tuple") = true)
    (neSK : PySem.W.findIn K (.ref SK) "__ne__" = some (some (.builtin "object.__ne__")))
    (aGE : PySem.W.nsIn K mainGlobals "GuestError" = some (some (.ref GE)))
    (icGE : PySem.W.isClsIn K GE = true)
    (tyGE : PySem.W.typeIn K (.ref GE) = some (.type "type"))
    (suGECY : PySem.W.subIn K (.ref CY) (.ref GE) = some true)
    (haCY : PySem.W.findIn K (.ref CY) "__class__" = some (some (.builtin "object.__class__")))
    (hmCY : PySem.W.mroIn K CY (.type "object") = some true)
    (nsCLCN : PySem.W.subIn K (.ref CL) (.ref CN) = some false)
    (aW : PySem.W.nsIn K mainGlobals "is_whole" = some (some (.ref f_W)))
    (lW : K.lookup f_W = some ⟨oc_W, od_W, .func (PySem.W.fnOf "is_whole" "is_whole" (defArgs s_is_whole) (defBody s_is_whole) (defScope s_is_whole) .none kv_W dc_W pm_W an_W cd_W ct_W), sl_W⟩)
    (cW : PySem.W.codeIn K cd_W "is_whole" = true)
    (kW : PySem.W.keepIn K (.ref f_W) = true)
    (aLB : PySem.W.nsIn K mainGlobals "is_label" = some (some (.ref f_LB)))
    (lLB : K.lookup f_LB = some ⟨oc_LB, od_LB, .func (PySem.W.fnOf "is_label" "is_label" (defArgs s_is_label) (defBody s_is_label) (defScope s_is_label) .none kv_LB dc_LB pm_LB an_LB cd_LB ct_LB), sl_LB⟩)
    (cLB : PySem.W.codeIn K cd_LB "is_label" = true)
    (kLB : PySem.W.keepIn K (.ref f_LB) = true)
    (aQ : PySem.W.nsIn K mainGlobals "is_sequence" = some (some (.ref f_Q)))
    (lQ : K.lookup f_Q = some ⟨oc_Q, od_Q, .func (PySem.W.fnOf "is_sequence" "is_sequence" (defArgs s_is_sequence) (defBody s_is_sequence) (defScope s_is_sequence) .none kv_Q dc_Q pm_Q an_Q cd_Q ct_Q), sl_Q⟩)
    (cQ : PySem.W.codeIn K cd_Q "is_sequence" = true)
    (kQ : PySem.W.keepIn K (.ref f_Q) = true)
    (aTF : PySem.W.nsIn K mainGlobals "ties_fault" = some (some (.ref f_TF)))
    (lTF : K.lookup f_TF = some ⟨oc_TF, od_TF, .func (PySem.W.fnOf "ties_fault" "ties_fault" (defArgs s_ties_fault) (defBody s_ties_fault) (defScope s_ties_fault) .none kv_TF dc_TF pm_TF an_TF cd_TF ct_TF), sl_TF⟩)
    (cTF : PySem.W.codeIn K cd_TF "ties_fault" = true)
    (kTF : PySem.W.keepIn K (.ref f_TF) = true)
    (atI : PySem.W.findIn K (.ref CT) "__init__" = some (some (.ref f_tI)))
    (itI : PySem.W.isFn K (.ref f_tI) = true)
    (ltI : K.lookup f_tI = some ⟨oc_tI, od_tI, .func (PySem.W.fnOf "__init__" "Ties.__init__" (defArgs s_Ties_init) (defBody s_Ties_init) (defScope s_Ties_init) .none kv_tI dc_tI pm_tI an_tI cd_tI ct_tI), sl_tI⟩)
    (ctI : PySem.W.codeIn K cd_tI "Ties.__init__" = true)
    (ktI : PySem.W.keepIn K (.ref f_tI) = true)
    (atE : PySem.W.findIn K (.ref CT) "__eq__" = some (some (.ref f_tE)))
    (itE : PySem.W.isFn K (.ref f_tE) = true)
    (ltE : K.lookup f_tE = some ⟨oc_tE, od_tE, .func (PySem.W.fnOf "__eq__" "Ties.__eq__" (defArgs s_Ties_eq) (defBody s_Ties_eq) (defScope s_Ties_eq) .none kv_tE dc_tE pm_tE an_tE cd_tE ct_tE), sl_tE⟩)
    (ctE : PySem.W.codeIn K cd_tE "Ties.__eq__" = true)
    (ktE : PySem.W.keepIn K (.ref f_tE) = true)
    (atH : PySem.W.findIn K (.ref CT) "has" = some (some (.ref f_tH)))
    (itH : PySem.W.isFn K (.ref f_tH) = true)
    (ltH : K.lookup f_tH = some ⟨oc_tH, od_tH, .func (PySem.W.fnOf "has" "Ties.has" (defArgs s_Ties_has) (defBody s_Ties_has) (defScope s_Ties_has) .none kv_tH dc_tH pm_tH an_tH cd_tH ct_tH), sl_tH⟩)
    (ctH : PySem.W.codeIn K cd_tH "Ties.has" = true)
    (ktH : PySem.W.keepIn K (.ref f_tH) = true)
    (atB : PySem.W.findIn K (.ref CT) "back" = some (some (.ref f_tB)))
    (itB : PySem.W.isFn K (.ref f_tB) = true)
    (ltB : K.lookup f_tB = some ⟨oc_tB, od_tB, .func (PySem.W.fnOf "back" "Ties.back" (defArgs s_Ties_back) (defBody s_Ties_back) (defScope s_Ties_back) .none kv_tB dc_tB pm_tB an_tB cd_tB ct_tB), sl_tB⟩)
    (ctB : PySem.W.codeIn K cd_tB "Ties.back" = true)
    (ktB : PySem.W.keepIn K (.ref f_tB) = true)
    (aI3 : PySem.W.nsIn K mainGlobals "is_three" = some (some (.ref f_I3)))
    (lI3 : K.lookup f_I3 = some ⟨oc_I3, od_I3, .func (PySem.W.fnOf "is_three" "is_three" (defArgs s_is_three) (defBody s_is_three) (defScope s_is_three) .none kv_I3 dc_I3 pm_I3 an_I3 cd_I3 ct_I3), sl_I3⟩)
    (cI3 : PySem.W.codeIn K cd_I3 "is_three" = true)
    (kI3 : PySem.W.keepIn K (.ref f_I3) = true)
    (aRO : PySem.W.nsIn K mainGlobals "readings_of" = some (some (.ref f_RO)))
    (lRO : K.lookup f_RO = some ⟨oc_RO, od_RO, .func (PySem.W.fnOf "readings_of" "readings_of" (defArgs s_readings_of) (defBody s_readings_of) (defScope s_readings_of) .none kv_RO dc_RO pm_RO an_RO cd_RO ct_RO), sl_RO⟩)
    (cRO : PySem.W.codeIn K cd_RO "readings_of" = true)
    (kRO : PySem.W.keepIn K (.ref f_RO) = true)
    (aLR : PySem.W.nsIn K mainGlobals "least_reading" = some (some (.ref f_LR)))
    (lLR : K.lookup f_LR = some ⟨oc_LR, od_LR, .func (PySem.W.fnOf "least_reading" "least_reading" (defArgs s_least_reading) (defBody s_least_reading) (defScope s_least_reading) .none kv_LR dc_LR pm_LR an_LR cd_LR ct_LR), sl_LR⟩)
    (cLR : PySem.W.codeIn K cd_LR "least_reading" = true)
    (kLR : PySem.W.keepIn K (.ref f_LR) = true)
    (aCH : PySem.W.nsIn K mainGlobals "_check_threes" = some (some (.ref f_CH)))
    (lCH : K.lookup f_CH = some ⟨oc_CH, od_CH, .func (PySem.W.fnOf "_check_threes" "_check_threes" (defArgs s_check_threes) (defBody s_check_threes) (defScope s_check_threes) .none kv_CH dc_CH pm_CH an_CH cd_CH ct_CH), sl_CH⟩)
    (cCH : PySem.W.codeIn K cd_CH "_check_threes" = true)
    (kCH : PySem.W.keepIn K (.ref f_CH) = true)
    (aWR : PySem.W.nsIn K mainGlobals "_with_readings" = some (some (.ref f_WR)))
    (lWR : K.lookup f_WR = some ⟨oc_WR, od_WR, .func (PySem.W.fnOf "_with_readings" "_with_readings" (defArgs s_with_readings) (defBody s_with_readings) (defScope s_with_readings) .none kv_WR dc_WR pm_WR an_WR cd_WR ct_WR), sl_WR⟩)
    (cWR : PySem.W.codeIn K cd_WR "_with_readings" = true)
    (kWR : PySem.W.keepIn K (.ref f_WR) = true)
    (aBT : PySem.W.nsIn K mainGlobals "_bar_table" = some (some (.ref f_BT)))
    (lBT : K.lookup f_BT = some ⟨oc_BT, od_BT, .func (PySem.W.fnOf "_bar_table" "_bar_table" (defArgs s_bar_table) (defBody s_bar_table) (defScope s_bar_table) .none kv_BT dc_BT pm_BT an_BT cd_BT ct_BT), sl_BT⟩)
    (cBT : PySem.W.codeIn K cd_BT "_bar_table" = true)
    (kBT : PySem.W.keepIn K (.ref f_BT) = true)
    (abI : PySem.W.findIn K (.ref CK) "__init__" = some (some (.ref f_bI)))
    (ibI : PySem.W.isFn K (.ref f_bI) = true)
    (lbI : K.lookup f_bI = some ⟨oc_bI, od_bI, .func (PySem.W.fnOf "__init__" "Book.__init__" (defArgs s_Book_init) (defBody s_Book_init) (defScope s_Book_init) (.ref TdbI) kv_bI dc_bI pm_bI an_bI cd_bI ct_bI), sl_bI⟩)
    (lTbI : K.lookup TdbI = some ⟨cTbI, dTbI, .seq #[.ref e1bI] nTbI, sTbI⟩)
    (lEbI : K.lookup e1bI = some ⟨.type "tuple", dEbI, .seq #[] nEbI, sEbI⟩)
    (cbI : PySem.W.codeIn K cd_bI "Book.__init__" = true)
    (kbI : PySem.W.keepIn K (.ref f_bI) = true)
    (abE : PySem.W.findIn K (.ref CK) "__eq__" = some (some (.ref f_bE)))
    (ibE : PySem.W.isFn K (.ref f_bE) = true)
    (lbE : K.lookup f_bE = some ⟨oc_bE, od_bE, .func (PySem.W.fnOf "__eq__" "Book.__eq__" (defArgs s_Book_eq) (defBody s_Book_eq) (defScope s_Book_eq) .none kv_bE dc_bE pm_bE an_bE cd_bE ct_bE), sl_bE⟩)
    (cbE : PySem.W.codeIn K cd_bE "Book.__eq__" = true)
    (kbE : PySem.W.keepIn K (.ref f_bE) = true)
    (aCF : PySem.W.nsIn K mainGlobals "chosen_from" = some (some (.ref f_CF)))
    (lCF : K.lookup f_CF = some ⟨oc_CF, od_CF, .func (PySem.W.fnOf "chosen_from" "chosen_from" (defArgs s_chosen_from) (defBody s_chosen_from) (defScope s_chosen_from) .none kv_CF dc_CF pm_CF an_CF cd_CF ct_CF), sl_CF⟩)
    (cCF : PySem.W.codeIn K cd_CF "chosen_from" = true)
    (kCF : PySem.W.keepIn K (.ref f_CF) = true)
    (aTR : PySem.W.nsIn K mainGlobals "turned_row" = some (some (.ref f_TR)))
    (lTR : K.lookup f_TR = some ⟨oc_TR, od_TR, .func (PySem.W.fnOf "turned_row" "turned_row" (defArgs s_turned) (defBody s_turned) (defScope s_turned) .none kv_TR dc_TR pm_TR an_TR cd_TR ct_TR), sl_TR⟩)
    (cTR : PySem.W.codeIn K cd_TR "turned_row" = true)
    (kTR : PySem.W.keepIn K (.ref f_TR) = true)
    (aTW : PySem.W.nsIn K mainGlobals "_ties_both_ways" = some (some (.ref f_TW)))
    (lTW : K.lookup f_TW = some ⟨oc_TW, od_TW, .func (PySem.W.fnOf "_ties_both_ways" "_ties_both_ways" (defArgs s_both) (defBody s_both) (defScope s_both) .none kv_TW dc_TW pm_TW an_TW cd_TW ct_TW), sl_TW⟩)
    (cTW : PySem.W.codeIn K cd_TW "_ties_both_ways" = true)
    (kTW : PySem.W.keepIn K (.ref f_TW) = true)
    (aKN : PySem.W.nsIn K mainGlobals "_check_known" = some (some (.ref f_KN)))
    (lKN : K.lookup f_KN = some ⟨oc_KN, od_KN, .func (PySem.W.fnOf "_check_known" "_check_known" (defArgs s_chkKnown) (defBody s_chkKnown) (defScope s_chkKnown) .none kv_KN dc_KN pm_KN an_KN cd_KN ct_KN), sl_KN⟩)
    (cKN : PySem.W.codeIn K cd_KN "_check_known" = true)
    (kKN : PySem.W.keepIn K (.ref f_KN) = true)
    (aKS : PySem.W.nsIn K mainGlobals "_check_sketch" = some (some (.ref f_KS)))
    (lKS : K.lookup f_KS = some ⟨oc_KS, od_KS, .func (PySem.W.fnOf "_check_sketch" "_check_sketch" (defArgs s_chkSk) (defBody s_chkSk) (defScope s_chkSk) .none kv_KS dc_KS pm_KS an_KS cd_KS ct_KS), sl_KS⟩)
    (cKS : PySem.W.codeIn K cd_KS "_check_sketch" = true)
    (kKS : PySem.W.keepIn K (.ref f_KS) = true)
    (asI : PySem.W.findIn K (.ref SK) "__init__" = some (some (.ref f_sI)))
    (isI : PySem.W.isFn K (.ref f_sI) = true)
    (lsI : K.lookup f_sI = some ⟨oc_sI, od_sI, .func (PySem.W.fnOf "__init__" "Sketch.__init__" (defArgs s_Sketch_init) (defBody s_Sketch_init) (defScope s_Sketch_init) (.ref TdsI) kv_sI dc_sI pm_sI an_sI cd_sI ct_sI), sl_sI⟩)
    (lTsI : K.lookup TdsI = some ⟨cTsI, dTsI, .seq #[.ref e1sI] nTsI, sTsI⟩)
    (lEsI : K.lookup e1sI = some ⟨.type "tuple", dEsI, .seq #[] nEsI, sEsI⟩)
    (csI : PySem.W.codeIn K cd_sI "Sketch.__init__" = true)
    (ksI : PySem.W.keepIn K (.ref f_sI) = true)
    (asE : PySem.W.findIn K (.ref SK) "__eq__" = some (some (.ref f_sE)))
    (isE : PySem.W.isFn K (.ref f_sE) = true)
    (lsE : K.lookup f_sE = some ⟨oc_sE, od_sE, .func (PySem.W.fnOf "__eq__" "Sketch.__eq__" (defArgs s_Sketch_eq) (defBody s_Sketch_eq) (defScope s_Sketch_eq) .none kv_sE dc_sE pm_sE an_sE cd_sE ct_sE), sl_sE⟩)
    (csE : PySem.W.codeIn K cd_sE "Sketch.__eq__" = true)
    (ksE : PySem.W.keepIn K (.ref f_sE) = true)
    (asW : PySem.W.findIn K (.ref SK) "web" = some (some (.ref p_sW)))
    (q1sW : PySem.W.specialIn K (.ref p_sW) "__get__" = some (some (.builtin "property.__get__")))
    (q2sW : PySem.W.takesIn K (.ref p_sW) = some true)
    (q3sW : PySem.W.recIn K p_sW "property" = some (.ref f_sW :: r_sW))
    (lsW : K.lookup f_sW = some ⟨oc_sW, od_sW, .func (PySem.W.fnOf "web" "Sketch.web" (defArgs s_Sketch_web) (defBody s_Sketch_web) (defScope s_Sketch_web) .none kv_sW dc_sW pm_sW an_sW cd_sW ct_sW), sl_sW⟩)
    (csW : PySem.W.codeIn K cd_sW "Sketch.web" = true)
    (ksW : PySem.W.keepIn K (.ref f_sW) = true)
    (asU : PySem.W.findIn K (.ref SK) "unknown" = some (some (.ref p_sU)))
    (q1sU : PySem.W.specialIn K (.ref p_sU) "__get__" = some (some (.builtin "property.__get__")))
    (q2sU : PySem.W.takesIn K (.ref p_sU) = some true)
    (q3sU : PySem.W.recIn K p_sU "property" = some (.ref f_sU :: r_sU))
    (lsU : K.lookup f_sU = some ⟨oc_sU, od_sU, .func (PySem.W.fnOf "unknown" "Sketch.unknown" (defArgs s_Sketch_unknown) (defBody s_Sketch_unknown) (defScope s_Sketch_unknown) .none kv_sU dc_sU pm_sU an_sU cd_sU ct_sU), sl_sU⟩)
    (csU : PySem.W.codeIn K cd_sU "Sketch.unknown" = true)
    (ksU : PySem.W.keepIn K (.ref f_sU) = true)
    (asT : PySem.W.findIn K (.ref SK) "tie_of" = some (some (.ref f_sT)))
    (isT : PySem.W.isFn K (.ref f_sT) = true)
    (lsT : K.lookup f_sT = some ⟨oc_sT, od_sT, .func (PySem.W.fnOf "tie_of" "Sketch.tie_of" (defArgs s_Sketch_tie) (defBody s_Sketch_tie) (defScope s_Sketch_tie) .none kv_sT dc_sT pm_sT an_sT cd_sT ct_sT), sl_sT⟩)
    (csT : PySem.W.codeIn K cd_sT "Sketch.tie_of" = true)
    (ksT : PySem.W.keepIn K (.ref f_sT) = true)
    (asK : PySem.W.findIn K (.ref SK) "with_known" = some (some (.ref f_sK)))
    (isK : PySem.W.isFn K (.ref f_sK) = true)
    (lsK : K.lookup f_sK = some ⟨oc_sK, od_sK, .func (PySem.W.fnOf "with_known" "Sketch.with_known" (defArgs s_Sketch_with) (defBody s_Sketch_with) (defScope s_Sketch_with) .none kv_sK dc_sK pm_sK an_sK cd_sK ct_sK), sl_sK⟩)
    (csK : PySem.W.codeIn K cd_sK "Sketch.with_known" = true)
    (ksK : PySem.W.keepIn K (.ref f_sK) = true)
    (asO : PySem.W.findIn K (.ref SK) "only" = some (some (.ref f_sO)))
    (isO : PySem.W.isFn K (.ref f_sO) = true)
    (lsO : K.lookup f_sO = some ⟨oc_sO, od_sO, .func (PySem.W.fnOf "only" "Sketch.only" (defArgs s_Sketch_only) (defBody s_Sketch_only) (defScope s_Sketch_only) .none kv_sO dc_sO pm_sO an_sO cd_sO ct_sO), sl_sO⟩)
    (csO : PySem.W.codeIn K cd_sO "Sketch.only" = true)
    (ksO : PySem.W.keepIn K (.ref f_sO) = true)
    (aX : PySem.W.nsIn K mainGlobals "_law_mix" = some (some (.ref f_X)))
    (lX : K.lookup f_X = some ⟨oc_X, od_X, .func (PySem.W.fnOf "_law_mix" "_law_mix" (defArgs s_Lmix) (defBody s_Lmix) (defScope s_Lmix) .none kv_X dc_X pm_X an_X cd_X ct_X), sl_X⟩)
    (cX : PySem.W.codeIn K cd_X "_law_mix" = true)
    (kX : PySem.W.keepIn K (.ref f_X) = true)
    (aH : PySem.W.nsIn K mainGlobals "_law_hand" = some (some (.ref f_H)))
    (lH : K.lookup f_H = some ⟨oc_H, od_H, .func (PySem.W.fnOf "_law_hand" "_law_hand" (defArgs s_Lhand) (defBody s_Lhand) (defScope s_Lhand) .none kv_H dc_H pm_H an_H cd_H ct_H), sl_H⟩)
    (cH : PySem.W.codeIn K cd_H "_law_hand" = true)
    (kH : PySem.W.keepIn K (.ref f_H) = true)
    (aD : PySem.W.nsIn K mainGlobals "_law_draw" = some (some (.ref f_D)))
    (lD : K.lookup f_D = some ⟨oc_D, od_D, .func (PySem.W.fnOf "_law_draw" "_law_draw" (defArgs s_Ldraw) (defBody s_Ldraw) (defScope s_Ldraw) .none kv_D dc_D pm_D an_D cd_D ct_D), sl_D⟩)
    (cD : PySem.W.codeIn K cd_D "_law_draw" = true)
    (kD : PySem.W.keepIn K (.ref f_D) = true)
    (aP : PySem.W.nsIn K mainGlobals "_law_pick" = some (some (.ref f_P)))
    (lP : K.lookup f_P = some ⟨oc_P, od_P, .func (PySem.W.fnOf "_law_pick" "_law_pick" (defArgs s_Lpick) (defBody s_Lpick) (defScope s_Lpick) .none kv_P dc_P pm_P an_P cd_P ct_P), sl_P⟩)
    (cP : PySem.W.codeIn K cd_P "_law_pick" = true)
    (kP : PySem.W.keepIn K (.ref f_P) = true)
    (aK : PySem.W.nsIn K mainGlobals "_law_backs" = some (some (.ref f_K)))
    (lK : K.lookup f_K = some ⟨oc_K, od_K, .func (PySem.W.fnOf "_law_backs" "_law_backs" (defArgs s_Lbacks) (defBody s_Lbacks) (defScope s_Lbacks) .none kv_K dc_K pm_K an_K cd_K ct_K), sl_K⟩)
    (cK : PySem.W.codeIn K cd_K "_law_backs" = true)
    (kK : PySem.W.keepIn K (.ref f_K) = true)
    (aRD : PySem.W.nsIn K mainGlobals "_law_readings" = some (some (.ref f_RD)))
    (lRD : K.lookup f_RD = some ⟨oc_RD, od_RD, .func (PySem.W.fnOf "_law_readings" "_law_readings" (defArgs s_Lreadings) (defBody s_Lreadings) (defScope s_Lreadings) .none kv_RD dc_RD pm_RD an_RD cd_RD ct_RD), sl_RD⟩)
    (cRD : PySem.W.codeIn K cd_RD "_law_readings" = true)
    (kRD : PySem.W.keepIn K (.ref f_RD) = true)
    (aLC : PySem.W.nsIn K mainGlobals "_law_classes" = some (some (.ref f_LC)))
    (lLC : K.lookup f_LC = some ⟨oc_LC, od_LC, .func (PySem.W.fnOf "_law_classes" "_law_classes" (defArgs s_Lclasses) (defBody s_Lclasses) (defScope s_Lclasses) .none kv_LC dc_LC pm_LC an_LC cd_LC ct_LC), sl_LC⟩)
    (cLC : PySem.W.codeIn K cd_LC "_law_classes" = true)
    (kLC : PySem.W.keepIn K (.ref f_LC) = true)
    (aLE : PySem.W.nsIn K mainGlobals "_law_let" = some (some (.ref f_LE)))
    (lLE : K.lookup f_LE = some ⟨oc_LE, od_LE, .func (PySem.W.fnOf "_law_let" "_law_let" (defArgs s_Llet) (defBody s_Llet) (defScope s_Llet) .none kv_LE dc_LE pm_LE an_LE cd_LE ct_LE), sl_LE⟩)
    (cLE : PySem.W.codeIn K cd_LE "_law_let" = true)
    (kLE : PySem.W.keepIn K (.ref f_LE) = true)
    (aBA : PySem.W.nsIn K mainGlobals "_law_barred" = some (some (.ref f_BA)))
    (lBA : K.lookup f_BA = some ⟨oc_BA, od_BA, .func (PySem.W.fnOf "_law_barred" "_law_barred" (defArgs s_Lbarred) (defBody s_Lbarred) (defScope s_Lbarred) .none kv_BA dc_BA pm_BA an_BA cd_BA ct_BA), sl_BA⟩)
    (cBA : PySem.W.codeIn K cd_BA "_law_barred" = true)
    (kBA : PySem.W.keepIn K (.ref f_BA) = true)
    (aAW : PySem.W.nsIn K mainGlobals "_law_any_world" = some (some (.ref f_AW)))
    (lAW : K.lookup f_AW = some ⟨oc_AW, od_AW, .func (PySem.W.fnOf "_law_any_world" "_law_any_world" (defArgs s_Lany_world) (defBody s_Lany_world) (defScope s_Lany_world) .none kv_AW dc_AW pm_AW an_AW cd_AW ct_AW), sl_AW⟩)
    (cAW : PySem.W.codeIn K cd_AW "_law_any_world" = true)
    (kAW : PySem.W.keepIn K (.ref f_AW) = true)
    (z_max : PySem.W.nsIn K mainGlobals "max" = some none)
    (aB : PySem.W.nsIn K mainGlobals "_law_labels" = some (some (.ref f_B)))
    (lB : K.lookup f_B = some ⟨oc_B, od_B, .func (PySem.W.fnOf "_law_labels" "_law_labels" (defArgs s_Llabels) (defBody s_Llabels) (defScope s_Llabels) .none kv_B dc_B pm_B an_B cd_B ct_B), sl_B⟩)
    (cB : PySem.W.codeIn K cd_B "_law_labels" = true)
    (kB : PySem.W.keepIn K (.ref f_B) = true)
    (aSH : PySem.W.nsIn K mainGlobals "_law_shuffled" = some (some (.ref f_SH)))
    (lSH : K.lookup f_SH = some ⟨oc_SH, od_SH, .func (PySem.W.fnOf "_law_shuffled" "_law_shuffled" (defArgs s_Lshuf) (defBody s_Lshuf) (defScope s_Lshuf) .none kv_SH dc_SH pm_SH an_SH cd_SH ct_SH), sl_SH⟩)
    (cSH : PySem.W.codeIn K cd_SH "_law_shuffled" = true)
    (kSH : PySem.W.keepIn K (.ref f_SH) = true)
    (aKW : PySem.W.nsIn K mainGlobals "_law_known" = some (some (.ref f_KW)))
    (lKW : K.lookup f_KW = some ⟨oc_KW, od_KW, .func (PySem.W.fnOf "_law_known" "_law_known" (defArgs s_Lknown) (defBody s_Lknown) (defScope s_Lknown) .none kv_KW dc_KW pm_KW an_KW cd_KW ct_KW), sl_KW⟩)
    (cKW : PySem.W.codeIn K cd_KW "_law_known" = true)
    (kKW : PySem.W.keepIn K (.ref f_KW) = true)
    (aPR : PySem.W.nsIn K mainGlobals "_law_plain_rows" = some (some (.ref f_PR)))
    (lPR : K.lookup f_PR = some ⟨oc_PR, od_PR, .func (PySem.W.fnOf "_law_plain_rows" "_law_plain_rows" (defArgs s_Lplain_rows) (defBody s_Lplain_rows) (defScope s_Lplain_rows) .none kv_PR dc_PR pm_PR an_PR cd_PR ct_PR), sl_PR⟩)
    (cPR : PySem.W.codeIn K cd_PR "_law_plain_rows" = true)
    (kPR : PySem.W.keepIn K (.ref f_PR) = true)
    (aIL : PySem.W.nsIn K mainGlobals "_law_is_label" = some (some (.ref f_IL)))
    (lIL : K.lookup f_IL = some ⟨oc_IL, od_IL, .func (PySem.W.fnOf "_law_is_label" "_law_is_label" (defArgs s_Lis_label) (defBody s_Lis_label) (defScope s_Lis_label) .none kv_IL dc_IL pm_IL an_IL cd_IL ct_IL), sl_IL⟩)
    (cIL : PySem.W.codeIn K cd_IL "_law_is_label" = true)
    (kIL : PySem.W.keepIn K (.ref f_IL) = true)
    (aDU : PySem.W.nsIn K mainGlobals "_law_due" = some (some (.ref f_DU)))
    (lDU : K.lookup f_DU = some ⟨oc_DU, od_DU, .func (PySem.W.fnOf "_law_due" "_law_due" (defArgs s_Ldue) (defBody s_Ldue) (defScope s_Ldue) .none kv_DU dc_DU pm_DU an_DU cd_DU ct_DU), sl_DU⟩)
    (cDU : PySem.W.codeIn K cd_DU "_law_due" = true)
    (kDU : PySem.W.keepIn K (.ref f_DU) = true)
    (aTD : PySem.W.nsIn K mainGlobals "_law_told" = some (some (.ref f_TD)))
    (lTD : K.lookup f_TD = some ⟨oc_TD, od_TD, .func (PySem.W.fnOf "_law_told" "_law_told" (defArgs s_Ltold) (defBody s_Ltold) (defScope s_Ltold) .none kv_TD dc_TD pm_TD an_TD cd_TD ct_TD), sl_TD⟩)
    (cTD : PySem.W.codeIn K cd_TD "_law_told" = true)
    (kTD : PySem.W.keepIn K (.ref f_TD) = true)
    (aMO : PySem.W.nsIn K mainGlobals "_law_more" = some (some (.ref f_MO)))
    (lMO : K.lookup f_MO = some ⟨oc_MO, od_MO, .func (PySem.W.fnOf "_law_more" "_law_more" (defArgs s_Lmore) (defBody s_Lmore) (defScope s_Lmore) .none kv_MO dc_MO pm_MO an_MO cd_MO ct_MO), sl_MO⟩)
    (cMO : PySem.W.codeIn K cd_MO "_law_more" = true)
    (kMO : PySem.W.keepIn K (.ref f_MO) = true)
    (aLT : PySem.W.nsIn K mainGlobals "_law_tie" = some (some (.ref f_LT)))
    (lLT : K.lookup f_LT = some ⟨oc_LT, od_LT, .func (PySem.W.fnOf "_law_tie" "_law_tie" (defArgs s_Ltie) (defBody s_Ltie) (defScope s_Ltie) .none kv_LT dc_LT pm_LT an_LT cd_LT ct_LT), sl_LT⟩)
    (cLT : PySem.W.codeIn K cd_LT "_law_tie" = true)
    (kLT : PySem.W.keepIn K (.ref f_LT) = true)
    (aOL : PySem.W.nsIn K mainGlobals "_law_spoilt_labels" = some (some (.ref f_OL)))
    (lOL : K.lookup f_OL = some ⟨oc_OL, od_OL, .func (PySem.W.fnOf "_law_spoilt_labels" "_law_spoilt_labels" (defArgs s_Lsl) (defBody s_Lsl) (defScope s_Lsl) .none kv_OL dc_OL pm_OL an_OL cd_OL ct_OL), sl_OL⟩)
    (cOL : PySem.W.codeIn K cd_OL "_law_spoilt_labels" = true)
    (kOL : PySem.W.keepIn K (.ref f_OL) = true)
    (aOR : PySem.W.nsIn K mainGlobals "_law_spoilt_rows" = some (some (.ref f_OR)))
    (lOR : K.lookup f_OR = some ⟨oc_OR, od_OR, .func (PySem.W.fnOf "_law_spoilt_rows" "_law_spoilt_rows" (defArgs s_Lsr) (defBody s_Lsr) (defScope s_Lsr) .none kv_OR dc_OR pm_OR an_OR cd_OR ct_OR), sl_OR⟩)
    (cOR : PySem.W.codeIn K cd_OR "_law_spoilt_rows" = true)
    (kOR : PySem.W.keepIn K (.ref f_OR) = true)
    (aEQ : PySem.W.nsIn K mainGlobals "_law_equal" = some (some (.ref f_EQ)))
    (lEQ : K.lookup f_EQ = some ⟨oc_EQ, od_EQ, .func (PySem.W.fnOf "_law_equal" "_law_equal" (defArgs s_Lequal) (defBody s_Lequal) (defScope s_Lequal) .none kv_EQ dc_EQ pm_EQ an_EQ cd_EQ ct_EQ), sl_EQ⟩)
    (cEQ : PySem.W.codeIn K cd_EQ "_law_equal" = true)
    (kEQ : PySem.W.keepIn K (.ref f_EQ) = true)
    (aV : PySem.W.nsIn K mainGlobals "law" = some (some (.ref f_V)))
    (lV : K.lookup f_V = some ⟨oc_V, od_V, .func (PySem.W.fnOf "law" "law" (defArgs s_law) (defBody s_law) (defScope s_law) .none kv_V dc_V pm_V an_V cd_V ct_V), sl_V⟩)
    (cV : PySem.W.codeIn K cd_V "law" = true)
    (kV : PySem.W.keepIn K (.ref f_V) = true)
    : ∃ fd : FuncData, (∀ (s : Shared) (v : Value), BindsTo s fd ⟨[v], []⟩ [("_law_script", v)]) ∧ ∀ base : Heap, K.In base → base.Ns mainGlobals mg → FnOk l.prog w K mg base CX0 11 fa fd ["_law_script"] (spLaw K) := by
  have e := hfa.symm.trans (PySem.W.mg_of X G aV)
  cases e
  have n_len := PySem.W.mg_none_of X G z_len
  have n_isinstance := PySem.W.mg_none_of X G z_isinstance
  have n_int := PySem.W.mg_none_of X G z_int
  have n_bool := PySem.W.mg_none_of X G z_bool
  have n_list := PySem.W.mg_none_of X G z_list
  have n_tuple := PySem.W.mg_none_of X G z_tuple
  have n_range := PySem.W.mg_none_of X G z_range
  have n_abs := PySem.W.mg_none_of X G z_abs
  have n_enumerate := PySem.W.mg_none_of X G z_enumerate
  have n_all := PySem.W.mg_none_of X G z_all
  have n_sorted := PySem.W.mg_none_of X G z_sorted
  have n_set := PySem.W.mg_none_of X G z_set
  have n_min := PySem.W.mg_none_of X G z_min
  have mM := PySem.W.mg_of X G gM
  have mL := PySem.W.mg_of X G gL
  have mZ := PySem.W.mg_of X G gZ
  have FxCB := fun_mk (st := s_BadTies_init) lxCB cxCB kxCB
  have bxCB := FxCB.binds (ps := ["self", "what"]) fun _ _ _ _ _ _ us hl => match us, hl with | [_, _], _ => rfl
  have oCB : OexC K CB := ⟨⟨_, _, _, _, _, _, _, _, _, _, _, _, _, _, _, xCB, by first | rfl | decide +kernel⟩, saCB, exCB, tyCB, kcCB⟩
  have xfCB : XfC K CB := ⟨gaCB, ggCB, exCB, hdCB⟩
  have FxCI := fun_mk (st := s_NoTie_init) lxCI cxCI kxCI
  have bxCI := FxCI.binds (ps := ["self", "tie"]) fun _ _ _ _ _ _ us hl => match us, hl with | [_, _], _ => rfl
  have oCI : OexC K CI := ⟨⟨_, _, _, _, _, _, _, _, _, _, _, _, _, _, _, xCI, by first | rfl | decide +kernel⟩, saCI, exCI, tyCI, kcCI⟩
  have xfCI : XfC K CI := ⟨gaCI, ggCI, exCI, hdCI⟩
  have FxCN := fun_mk (st := s_NoGuest_init) lxCN cxCN kxCN
  have bxCN := FxCN.binds (ps := ["self", "label"]) fun _ _ _ _ _ _ us hl => match us, hl with | [_, _], _ => rfl
  have oCN : OexC K CN := ⟨⟨_, _, _, _, _, _, _, _, _, _, _, _, _, _, _, xCN, by first | rfl | decide +kernel⟩, saCN, exCN, tyCN, kcCN⟩
  have xfCN : XfC K CN := ⟨gaCN, ggCN, exCN, hdCN⟩
  have FxCL := fun_mk (st := s_Alike_init) lxCL cxCL kxCL
  have bxCL := FxCL.binds (ps := ["self", "label"]) fun _ _ _ _ _ _ us hl => match us, hl with | [_, _], _ => rfl
  have oCL : OexC K CL := ⟨⟨_, _, _, _, _, _, _, _, _, _, _, _, _, _, _, xCL, by first | rfl | decide +kernel⟩, saCL, exCL, tyCL, kcCL⟩
  have xfCL : XfC K CL := ⟨gaCL, ggCL, exCL, hdCL⟩
  have FxC3 := fun_mk (st := s_NoThree_init) lxC3 cxC3 kxC3
  have bxC3 := FxC3.binds (ps := ["self", "three"]) fun _ _ _ _ _ _ us hl => match us, hl with | [_, _], _ => rfl
  have oC3 : OexC K C3 := ⟨⟨_, _, _, _, _, _, _, _, _, _, _, _, _, _, _, xC3, by first | rfl | decide +kernel⟩, saC3, exC3, tyC3, kcC3⟩
  have xfC3 : XfC K C3 := ⟨gaC3, ggC3, exC3, hdC3⟩
  have FxCE := fun_mk (st := s_BadBook_init) lxCE cxCE kxCE
  have bxCE := FxCE.binds (ps := ["self", "index", "what"]) fun _ _ _ _ _ _ us hl => match us, hl with | [_, _, _], _ => rfl
  have oCE : OexC K CE := ⟨⟨_, _, _, _, _, _, _, _, _, _, _, _, _, _, _, xCE, by first | rfl | decide +kernel⟩, saCE, exCE, tyCE, kcCE⟩
  have xfCE : XfC K CE := ⟨gaCE, ggCE, exCE, hdCE⟩
  have FxCY := fun_mk (st := s_BadSketch_init) lxCY cxCY kxCY
  have bxCY := FxCY.binds (ps := ["self", "index", "what"]) fun _ _ _ _ _ _ us hl => match us, hl with | [_, _, _], _ => rfl
  have oCY : OexC K CY := ⟨⟨_, _, _, _, _, _, _, _, _, _, _, _, _, _, _, xCY, by first | rfl | decide +kernel⟩, saCY, exCY, tyCY, kcCY⟩
  have xfCY : XfC K CY := ⟨gaCY, ggCY, exCY, hdCY⟩
  have clCT : Cls K CT := ⟨pgCT, hdCT, poCT, saCT⟩
  have iscCT : C8.InsC K CT := ⟨clCT, haCT, hn0, htk0, hmCT, kit_me⟩
  have TC : TiC K CT := ⟨clCT, n0CT, n1CT⟩
  have TX : TiX K mg CT := { toTiC := TC, isc := iscCT, nt := kit_no icCT tyCT suCT, nl := kit_no icCT tyCT slCT, nf := nfCT, mT := PySem.W.mg_of X G aCT }
  have clCK : Cls K CK := ⟨pgCK, hdCK, poCK, saCK⟩
  have iscCK : C8.InsC K CK := ⟨clCK, haCK, hn0, htk0, hmCK, kit_me⟩
  have BC : BoC K CK := ⟨clCK, n0CK, n1CK, n2CK, n3CK⟩
  have BX : BoX K mg CK := { toBoC := BC, isc := iscCK, mB := PySem.W.mg_of X G aCK, ni := kit_no icCK tyCK siCK }
  have clSK : Cls K SK := ⟨pgSK, hdSK, poSK, saSK⟩
  have iscSK : C8.InsC K SK := ⟨clSK, haSK, hn0, htk0, hmSK, kit_me⟩
  have SC : SkC K SK := ⟨clSK, n0SK, n1SK, n2SK, n3SK⟩
  have SX : SkX K mg SK := { toSkC := SC, isc := iscSK, mS := PySem.W.mg_of X G aSK, nt := kit_no icSK tySK suSK }
  have XCCY : ExcC K CY := ⟨gaCY, ggCY, exCY, hdCY, haCY, hn0, htk0, hmCY⟩
  have kgCY : PySem.W.kitOne K (.ref CY) (.ref GE) = some true := kit_yes icGE tyGE suGECY
  have xLN : PySem.W.exmOne K (.ref CL) (.ref CN) = some false := exm_of exCN icCN tyCN nsCLCN
  have FW := fun_mk (st := s_is_whole) lW cW kW
  have bW := FW.binds (ps := ["thing", "low", "high"]) fun _ _ _ _ _ _ us hl => match us, hl with | [_, _, _], _ => rfl
  have FLB := fun_mk (st := s_is_label) lLB cLB kLB
  have bLB := FLB.binds (ps := ["thing"]) fun _ _ _ _ _ _ us hl => match us, hl with | [_], _ => rfl
  have FQ := fun_mk (st := s_is_sequence) lQ cQ kQ
  have bQ := FQ.binds (ps := ["thing"]) fun _ _ _ _ _ _ us hl => match us, hl with | [_], _ => rfl
  have FTF := fun_mk (st := s_ties_fault) lTF cTF kTF
  have bTF := FTF.binds (ps := ["backs"]) fun _ _ _ _ _ _ us hl => match us, hl with | [_], _ => rfl
  have FtI := fun_mk (st := s_Ties_init) ltI ctI ktI
  have btI := FtI.binds (ps := ["self", "backs"]) fun _ _ _ _ _ _ us hl => match us, hl with | [_, _], _ => rfl
  have FtE := fun_mk (st := s_Ties_eq) ltE ctE ktE
  have btE := FtE.binds (ps := ["self", "other"]) fun _ _ _ _ _ _ us hl => match us, hl with | [_, _], _ => rfl
  have FtH := fun_mk (st := s_Ties_has) ltH ctH ktH
  have btH := FtH.binds (ps := ["self", "thing"]) fun _ _ _ _ _ _ us hl => match us, hl with | [_, _], _ => rfl
  have FtB := fun_mk (st := s_Ties_back) ltB ctB ktB
  have btB := FtB.binds (ps := ["self", "tie"]) fun _ _ _ _ _ _ us hl => match us, hl with | [_, _], _ => rfl
  have FI3 := fun_mk (st := s_is_three) lI3 cI3 kI3
  have bI3 := FI3.binds (ps := ["ties", "thing"]) fun _ _ _ _ _ _ us hl => match us, hl with | [_, _], _ => rfl
  have FRO := fun_mk (st := s_readings_of) lRO cRO kRO
  have bRO := FRO.binds (ps := ["ties", "three"]) fun _ _ _ _ _ _ us hl => match us, hl with | [_, _], _ => rfl
  have FLR := fun_mk (st := s_least_reading) lLR cLR kLR
  have bLR := FLR.binds (ps := ["ties", "three"]) fun _ _ _ _ _ _ us hl => match us, hl with | [_, _], _ => rfl
  have FCH := fun_mk (st := s_check_threes) lCH cCH kCH
  have bCH := FCH.binds (ps := ["ties", "threes", "word"]) fun _ _ _ _ _ _ us hl => match us, hl with | [_, _, _], _ => rfl
  have FWR := fun_mk (st := s_with_readings) lWR cWR kWR
  have bWR := FWR.binds (ps := ["ties", "threes"]) fun _ _ _ _ _ _ us hl => match us, hl with | [_, _], _ => rfl
  have FBT := fun_mk (st := s_bar_table) lBT cBT kBT
  have bBT := FBT.binds (ps := ["ties", "barred"]) fun _ _ _ _ _ _ us hl => match us, hl with | [_, _], _ => rfl
  have FbI := fund_mk1 (st := s_Book_init) lbI lTbI cbI kbI
  have bbI := fund_full1 (ps := ["self", "ties", "barred"]) FbI
    fun _ _ _ _ _ _ _ us its hl hi => match us, its, hl, hi with | [_, _, _], [_], _, _ => ⟨_, rfl, rfl⟩
  have bbID := fund_dfl1 (ps := ["self", "ties", "barred"]) FbI rfl
    fun _ _ _ _ _ _ _ us its hl hi => match us, its, hl, hi with | [_, _], [_], _, _ => ⟨_, rfl, rfl⟩
  have ktbI : KT K e1bI := ⟨_, #[], nEbI, lEbI, rfl, rfl, by decide, .nil⟩
  have FbE := fun_mk (st := s_Book_eq) lbE cbE kbE
  have bbE := FbE.binds (ps := ["self", "other"]) fun _ _ _ _ _ _ us hl => match us, hl with | [_, _], _ => rfl
  have FCF := fun_mk (st := s_chosen_from) lCF cCF kCF
  have bCF := FCF.binds (ps := ["things", "count"]) fun _ _ _ _ _ _ us hl => match us, hl with | [_, _], _ => rfl
  have FTR := fun_mk (st := s_turned) lTR cTR kTR
  have bTR := FTR.binds (ps := ["ties", "row"]) fun _ _ _ _ _ _ us hl => match us, hl with | [_, _], _ => rfl
  have FTW := fun_mk (st := s_both) lTW cTW kTW
  have bTW := FTW.binds (ps := ["ties", "rows"]) fun _ _ _ _ _ _ us hl => match us, hl with | [_, _], _ => rfl
  have FKN := fun_mk (st := s_chkKnown) lKN cKN kKN
  have bKN := FKN.binds (ps := ["book", "labels", "known"]) fun _ _ _ _ _ _ us hl => match us, hl with | [_, _, _], _ => rfl
  have FKS := fun_mk (st := s_chkSk) lKS cKS kKS
  have bKS := FKS.binds (ps := ["book", "labels", "known"]) fun _ _ _ _ _ _ us hl => match us, hl with | [_, _, _], _ => rfl
  have FsI := fund_mk1 (st := s_Sketch_init) lsI lTsI csI ksI
  have bsI := fund_full1 (ps := ["self", "book", "labels", "known"]) FsI
    fun _ _ _ _ _ _ _ us its hl hi => match us, its, hl, hi with | [_, _, _, _], [_], _, _ => ⟨_, rfl, rfl⟩
  have bsID := fund_dfl1 (ps := ["self", "book", "labels", "known"]) FsI rfl
    fun _ _ _ _ _ _ _ us its hl hi => match us, its, hl, hi with | [_, _, _], [_], _, _ => ⟨_, rfl, rfl⟩
  have ktsI : KT K e1sI := ⟨_, #[], nEsI, lEsI, rfl, rfl, by decide, .nil⟩
  have FsE := fun_mk (st := s_Sketch_eq) lsE csE ksE
  have bsE := FsE.binds (ps := ["self", "other"]) fun _ _ _ _ _ _ us hl => match us, hl with | [_, _], _ => rfl
  have FsW := fun_mk (st := s_Sketch_web) lsW csW ksW
  have bsW := FsW.binds (ps := ["self"]) fun _ _ _ _ _ _ us hl => match us, hl with | [_], _ => rfl
  have PsW : PropOf K SK "web" p_sW f_sW := ⟨asW, q1sW, q2sW, ⟨r_sW, q3sW⟩⟩
  have FsU := fun_mk (st := s_Sketch_unknown) lsU csU ksU
  have bsU := FsU.binds (ps := ["self"]) fun _ _ _ _ _ _ us hl => match us, hl with | [_], _ => rfl
  have PsU : PropOf K SK "unknown" p_sU f_sU := ⟨asU, q1sU, q2sU, ⟨r_sU, q3sU⟩⟩
  have FsT := fun_mk (st := s_Sketch_tie) lsT csT ksT
  have bsT := FsT.binds (ps := ["self", "x", "y"]) fun _ _ _ _ _ _ us hl => match us, hl with | [_, _, _], _ => rfl
  have FsK := fun_mk (st := s_Sketch_with) lsK csK ksK
  have bsK := FsK.binds (ps := ["self", "x", "y", "tie"]) fun _ _ _ _ _ _ us hl => match us, hl with | [_, _, _, _], _ => rfl
  have FsO := fun_mk (st := s_Sketch_only) lsO csO ksO
  have bsO := FsO.binds (ps := ["self", "rows"]) fun _ _ _ _ _ _ us hl => match us, hl with | [_, _], _ => rfl
  have FX := fun_mk (st := s_Lmix) lX cX kX
  have bX := FX.binds (ps := ["_law_number", "_law_turn"]) fun _ _ _ _ _ _ us hl => match us, hl with | [_, _], _ => rfl
  have FH := fun_mk (st := s_Lhand) lH cH kH
  have bH := FH.binds (ps := ["_law_script"]) fun _ _ _ _ _ _ us hl => match us, hl with | [_], _ => rfl
  have FD := fun_mk (st := s_Ldraw) lD cD kD
  have bD := FD.binds (ps := ["_law_hand_here", "_law_many"]) fun _ _ _ _ _ _ us hl => match us, hl with | [_, _], _ => rfl
  have FP := fun_mk (st := s_Lpick) lP cP kP
  have bP := FP.binds (ps := ["_law_hand_here", "_law_things"]) fun _ _ _ _ _ _ us hl => match us, hl with | [_, _], _ => rfl
  have FK := fun_mk (st := s_Lbacks) lK cK kK
  have bK := FK.binds (ps := ["_law_hand_here", "_law_many"]) fun _ _ _ _ _ _ us hl => match us, hl with | [_, _], _ => rfl
  have FRD := fun_mk (st := s_Lreadings) lRD cRD kRD
  have bRD := FRD.binds (ps := ["_law_backs_here", "_law_p", "_law_q", "_law_r"]) fun _ _ _ _ _ _ us hl => match us, hl with | [_, _, _, _], _ => rfl
  have FLC := fun_mk (st := s_Lclasses) lLC cLC kLC
  have bLC := FLC.binds (ps := ["_law_backs_here"]) fun _ _ _ _ _ _ us hl => match us, hl with | [_], _ => rfl
  have FLE := fun_mk (st := s_Llet) lLE cLE kLE
  have bLE := FLE.binds (ps := ["_law_backs_here", "_law_classes_here"]) fun _ _ _ _ _ _ us hl => match us, hl with | [_, _], _ => rfl
  have FBA := fun_mk (st := s_Lbarred) lBA cBA kBA
  have bBA := FBA.binds (ps := ["_law_world"]) fun _ _ _ _ _ _ us hl => match us, hl with | [_], _ => rfl
  have FAW := fun_mk (st := s_Lany_world) lAW cAW kAW
  have bAW := FAW.binds (ps := ["_law_hand_here", "_law_many"]) fun _ _ _ _ _ _ us hl => match us, hl with | [_, _], _ => rfl
  have n_max := PySem.W.mg_none_of X G z_max
  have FB := fun_mk (st := s_Llabels) lB cB kB
  have bB := FB.binds (ps := ["_law_hand_here", "_law_many"]) fun _ _ _ _ _ _ us hl => match us, hl with | [_, _], _ => rfl
  have FSH := fun_mk (st := s_Lshuf) lSH cSH kSH
  have bSH := FSH.binds (ps := ["_law_hand_here", "_law_things"]) fun _ _ _ _ _ _ us hl => match us, hl with | [_, _], _ => rfl
  have FKW := fun_mk (st := s_Lknown) lKW cKW kKW
  have bKW := FKW.binds (ps := ["_law_hand_here", "_law_world", "_law_labels_here", "_law_share"]) fun _ _ _ _ _ _ us hl => match us, hl with | [_, _, _, _], _ => rfl
  have FPR := fun_mk (st := s_Lplain_rows) lPR cPR kPR
  have bPR := FPR.binds (ps := ["_law_world", "_law_rows"]) fun _ _ _ _ _ _ us hl => match us, hl with | [_, _], _ => rfl
  have FIL := fun_mk (st := s_Lis_label) lIL cIL kIL
  have bIL := FIL.binds (ps := ["_law_thing"]) fun _ _ _ _ _ _ us hl => match us, hl with | [_], _ => rfl
  have FDU := fun_mk (st := s_Ldue) lDU cDU kDU
  have bDU := FDU.binds (ps := ["_law_world", "_law_labels_here", "_law_rows"]) fun _ _ _ _ _ _ us hl => match us, hl with | [_, _, _], _ => rfl
  have FTD := fun_mk (st := s_Ltold) lTD cTD kTD
  have bTD := FTD.binds (ps := ["_law_book", "_law_labels_here", "_law_rows"]) fun _ _ _ _ _ _ us hl => match us, hl with | [_, _, _], _ => rfl
  have FMO := fun_mk (st := s_Lmore) lMO cMO kMO
  have bMO := FMO.binds (ps := ["_law_sketch", "_law_x", "_law_y", "_law_tie_here"]) fun _ _ _ _ _ _ us hl => match us, hl with | [_, _, _, _], _ => rfl
  have FLT := fun_mk (st := s_Ltie) lLT cLT kLT
  have bLT := FLT.binds (ps := ["_law_sketch", "_law_x", "_law_y"]) fun _ _ _ _ _ _ us hl => match us, hl with | [_, _, _], _ => rfl
  have FOL := fun_mk (st := s_Lsl) lOL cOL kOL
  have bOL := FOL.binds (ps := ["_law_hand_here", "_law_labels_here"]) fun _ _ _ _ _ _ us hl => match us, hl with | [_, _], _ => rfl
  have FOR := fun_mk (st := s_Lsr) lOR cOR kOR
  have bOR := FOR.binds (ps := ["_law_hand_here", "_law_world", "_law_labels_here", "_law_rows"]) fun _ _ _ _ _ _ us hl => match us, hl with | [_, _, _, _], _ => rfl
  have FEQ := fun_mk (st := s_Lequal) lEQ cEQ kEQ
  have bEQ := FEQ.binds (ps := ["_law_world", "_law_book", "_law_labels_here", "_law_rows", "_law_known_here", "_law_sketch"]) fun _ _ _ _ _ _ us hl => match us, hl with | [_, _, _, _, _, _], _ => rfl
  have FV := fun_mk (st := s_law) lV cV kV
  have bV := FV.binds (ps := ["_law_script"]) fun _ _ _ _ _ _ us hl => match us, hl with | [_], _ => rfl
  refine ⟨PySem.W.fnOf "law" "law" (defArgs s_law) (defBody s_law) (defScope s_law) .none kv_V dc_V pm_V an_V cd_V ct_V, fun s v => .of_eq rfl, fun base KB GB => ?_⟩
  have ECB : Ex l.prog w K mg base "BadTies" "what" CB f_xCB _ ["self", "what"] := ⟨oCB, axCB, ixCB, ok_BadTies_init FxCB oCB no0CB, bxCB, PySem.W.mg_of X G aCB, xfCB, no0CB, exm_own exCB icCB tyCB scCB⟩
  have ECI : Ex l.prog w K mg base "NoTie" "tie" CI f_xCI _ ["self", "tie"] := ⟨oCI, axCI, ixCI, ok_NoTie_init FxCI oCI no0CI, bxCI, PySem.W.mg_of X G aCI, xfCI, no0CI, exm_own exCI icCI tyCI scCI⟩
  have ECN : Ex l.prog w K mg base "NoGuest" "label" CN f_xCN _ ["self", "label"] := ⟨oCN, axCN, ixCN, ok_NoGuest_init FxCN oCN no0CN, bxCN, PySem.W.mg_of X G aCN, xfCN, no0CN, exm_own exCN icCN tyCN scCN⟩
  have ECL : Ex l.prog w K mg base "Alike" "label" CL f_xCL _ ["self", "label"] := ⟨oCL, axCL, ixCL, ok_Alike_init FxCL oCL no0CL, bxCL, PySem.W.mg_of X G aCL, xfCL, no0CL, exm_own exCL icCL tyCL scCL⟩
  have EC3 : Ex l.prog w K mg base "NoThree" "three" C3 f_xC3 _ ["self", "three"] := ⟨oC3, axC3, ixC3, ok_NoThree_init FxC3 oC3 no0C3, bxC3, PySem.W.mg_of X G aC3, xfC3, no0C3, exm_own exC3 icC3 tyC3 scC3⟩
  have ECE : Ex2 l.prog w K mg base "BadBook" "index" "what" CE f_xCE _ ["self", "index", "what"] := ⟨oCE, axCE, ixCE, ok_BadBook_init FxCE oCE no0CE no1CE, bxCE, PySem.W.mg_of X G aCE, xfCE, no0CE, no1CE, exm_own exCE icCE tyCE scCE⟩
  have ECY : Ex2 l.prog w K mg base "BadSketch" "index" "what" CY f_xCY _ ["self", "index", "what"] := ⟨oCY, axCY, ixCY, ok_BadSketch_init FxCY oCY no0CY no1CY, bxCY, PySem.W.mg_of X G aCY, xfCY, no0CY, no1CY, exm_own exCY icCY tyCY scCY⟩
  have GW : Cal l.prog w K mg base CX0 1 "is_whole" f_W _ ["thing", "low", "high"] spWhole := ⟨ok_is_whole FW n_isinstance n_int n_bool, PySem.W.mg_of X G aW, kW, bW⟩
  have GLB : Cal l.prog w K mg base CX0 2 "is_label" f_LB _ ["thing"] spLabel := ⟨ok_is_label FLB GW ⟨_, mL⟩, PySem.W.mg_of X G aLB, kLB, bLB⟩
  have GQ : Cal l.prog w K mg base CX0 1 "is_sequence" f_Q _ ["thing"] spSeq := ⟨ok_is_sequence FQ n_isinstance n_list n_tuple, PySem.W.mg_of X G aQ, kQ, bQ⟩
  have GQK : Cal l.prog w K mg base CX0 1 "is_sequence" f_Q _ ["thing"] (spSeqK K) := ⟨ok_is_sequenceK FQ n_isinstance n_list n_tuple, PySem.W.mg_of X G aQ, kQ, bQ⟩
  have GQO : Cal l.prog w K mg base CX0 1 "is_sequence" f_Q _ ["thing"] (spSeqO K) := ⟨seqO GQ.F GQK.F, PySem.W.mg_of X G aQ, kQ, bQ⟩
  have GTF : Cal l.prog w K mg base CX0 2 "ties_fault" f_TF _ ["backs"] spFault := ⟨ok_ties_fault FTF n_len n_range n_all ⟨_, mM⟩ GQ GW, PySem.W.mg_of X G aTF, kTF, bTF⟩
  have MIT : Mk K CT f_tI := ⟨mkCT, atI, itI, kcCT⟩
  have FIT := ok_Ties_init (P := l.prog) (w := w) (base := base) FtI TC n_len n_tuple GTF ECB
  have FET := ok_Ties_eq (P := l.prog) (w := w) (base := base) FtE TX n_isinstance
  have MtH : Mt l.prog w K mg base CX0 2 CT "has" f_tH _ ["self", "thing"] (spHas CT) := ⟨⟨atH, itH, ktH⟩, ok_Ties_has FtH TC GW, btH⟩
  have MtB : Mt l.prog w K mg base (L2.CX l.prog w) 3 CT "back" f_tB _ ["self", "tie"] (spBack CT CI) := ⟨⟨atB, itB, ktB⟩, ok_Ties_back FtB TC MtH ECI, btB⟩
  have GI3 : Cal l.prog w K mg base CX0 3 "is_three" f_I3 _ ["ties", "thing"] (spThree CT) := ⟨ok_is_three FI3 TC n_len n_all GQ MtH, PySem.W.mg_of X G aI3, kI3, bI3⟩
  have GRO : Cal l.prog w K mg base (L2.CX l.prog w) 4 "readings_of" f_RO _ ["ties", "three"] (spReadings CT C3) := ⟨ok_readings_of FRO TC n_tuple n_sorted n_set GI3 MtB EC3, PySem.W.mg_of X G aRO, kRO, bRO⟩
  have GLR : Cal l.prog w K mg base (L2.CX l.prog w) 5 "least_reading" f_LR _ ["ties", "three"] (spLeast CT C3) := ⟨ok_least_reading FLR GRO, PySem.W.mg_of X G aLR, kLR, bLR⟩
  have GCH : Cal l.prog w K mg base (L2.CX l.prog w) 4 "_check_threes" f_CH _ ["ties", "threes", "word"] (spChk CT CE) := ⟨ok_check_threes FCH TX n_isinstance n_enumerate GQ GI3 ECE, PySem.W.mg_of X G aCH, kCH, bCH⟩
  have GCHK : Cal l.prog w K mg base (L2.CX l.prog w) 4 "_check_threes" f_CH _ ["ties", "threes", "word"] (spChkK K CT) := ⟨ok_check_threesK FCH TX n_isinstance n_enumerate GQK GI3 ECE, PySem.W.mg_of X G aCH, kCH, bCH⟩
  have GWR : Cal l.prog w K mg base CX0 5 "_with_readings" f_WR _ ["ties", "threes"] (spWith CT) := ⟨ok_with_readings FWR n_tuple n_sorted GRO, PySem.W.mg_of X G aWR, kWR, bWR⟩
  have GWRK : Cal l.prog w K mg base CX0 5 "_with_readings" f_WR _ ["ties", "threes"] (spWithK K CT) := ⟨ok_with_readingsK FWR n_tuple n_sorted GRO, PySem.W.mg_of X G aWR, kWR, bWR⟩
  have GBT : Cal l.prog w K mg base CX0 1 "_bar_table" f_BT _ ["ties", "barred"] (spTab CT) := ⟨ok_bar_table FBT TC n_tuple n_range, PySem.W.mg_of X G aBT, kBT, bBT⟩
  have MIB : Mk K CK f_bI := ⟨mkCK, abI, ibI, kcCK⟩
  have FIB := ok_Book_init (P := l.prog) (w := w) (base := base) FbI BC n_tuple GCH GWR GLR GBT GCHK GWRK
  have FEB := ok_Book_eq (P := l.prog) (w := w) (base := base) FbE TX BX n_isinstance FET atE itE btE
  have GC0 : Cal l.prog w K mg base CX0 0 "chosen_from" f_CF _ ["things", "count"] (spChos 200) := ⟨chos_no, PySem.W.mg_of X G aCF, kCF, bCF⟩
  have GC1 : Cal l.prog w K mg base CX0 1 "chosen_from" f_CF _ ["things", "count"] (spChos 0) := ⟨fn_imp (ok_chosen FCF n_enumerate GC0) fun _ _ _ _ h => .inl h, PySem.W.mg_of X G aCF, kCF, bCF⟩
  have GC2 : Cal l.prog w K mg base CX0 2 "chosen_from" f_CF _ ["things", "count"] (spChos 1) := ⟨fn_imp (ok_chosen FCF n_enumerate GC1) fun _ _ _ _ h => .inr h, PySem.W.mg_of X G aCF, kCF, bCF⟩
  have GC3 : Cal l.prog w K mg base CX0 3 "chosen_from" f_CF _ ["things", "count"] (spChos 2) := ⟨fn_imp (ok_chosen FCF n_enumerate GC2) fun _ _ _ _ h => .inr h, PySem.W.mg_of X G aCF, kCF, bCF⟩
  have GTR : Cal l.prog w K mg base CX0 4 "turned_row" f_TR _ ["ties", "row"] (spTurn CT) := ⟨ok_turned FTR TC MtB, PySem.W.mg_of X G aTR, kTR, bTR⟩
  have GTW : Cal l.prog w K mg base CX0 4 "_ties_both_ways" f_TW _ ["ties", "rows"] (spBoth2 CT) := ⟨ok_both FTW TC MtB, PySem.W.mg_of X G aTW, kTW, bTW⟩
  have GKN : Cal l.prog w K mg base (L2.CX l.prog w) 4 "_check_known" f_KN _ ["book", "labels", "known"] (spCK CT CK CY) := ⟨ok_chkKnown FKN TC BC n_len n_enumerate GQ GLB MtH ECY, PySem.W.mg_of X G aKN, kKN, bKN⟩
  have GKN0 : Cal l.prog w K mg base (L2.CX l.prog w) 4 "_check_known" f_KN _ ["book", "labels", "known"] (spCK0 K) := ⟨ok_chkKnown0 FKN TC BC n_len n_enumerate GQ GLB MtH ECY, PySem.W.mg_of X G aKN, kKN, bKN⟩
  have GKS : Cal l.prog w K mg base (L2.CX l.prog w) 5 "_check_sketch" f_KS _ ["book", "labels", "known"] (spCS CT CK CY) := ⟨ok_chkSk FKS n_len n_enumerate ⟨_, mZ⟩ GQ GLB GKN ECY, PySem.W.mg_of X G aKS, kKS, bKS⟩
  have GKS0 : Cal l.prog w K mg base (L2.CX l.prog w) 5 "_check_sketch" f_KS _ ["book", "labels", "known"] (spCS0 K) := ⟨ok_chkSk0 (C := CT) (CB := CK) FKS n_len n_enumerate ⟨_, mZ⟩ GQO GLB GKN0 ECY, PySem.W.mg_of X G aKS, kKS, bKS⟩
  have MIS : Mk K SK f_sI := ⟨mkSK, asI, isI, kcSK⟩
  have FIS := ok_Sketch_init (P := l.prog) (w := w) (base := base) (CE := CY) FsI SC BC n_tuple n_sorted GKS GTR GTW
  have FIS0 := ok_Sketch_init0 (P := l.prog) (w := w) (base := base) FsI SC BC n_tuple n_sorted GKS0 GTR GTW
  have FES := ok_Sketch_eq (P := l.prog) (w := w) (base := base) FsE SX n_isinstance FEB abE ibE bbE nfCK
  have FSW := ok_web (P := l.prog) (w := w) (base := base) (C := CT) (CB := CK) FsW SC n_tuple
  have FSU := ok_unknown (P := l.prog) (w := w) (base := base) (C := CT) (CB := CK) FsU SC n_tuple GC3
  have MsT : Mt l.prog w K mg base (L2.CX l.prog w) 3 SK "tie_of" f_sT _ ["self", "x", "y"] (spTie CT CK SK CN CL) := ⟨⟨asT, isT, ksT⟩, ok_tieOf FsT SC GLB ECN ECL, bsT⟩
  have MsK : Mt l.prog w K mg base (L2.CX l.prog w) 8 SK "with_known" f_sK _ ["self", "x", "y", "tie"] (spWithKn CT CK SK CY) := ⟨⟨asK, isK, ksK⟩, ok_withK FsK SC (PySem.W.mg_of X G aSK) MIS FIS bsI, bsK⟩
  have MsO : Mt l.prog w K mg base (L2.CX l.prog w) 8 SK "only" f_sO _ ["self", "rows"] (spOnly CT CK SK CY) := ⟨⟨asO, isO, ksO⟩, ok_only FsO SC (PySem.W.mg_of X G aSK) MIS FIS bsI, bsO⟩
  have GX : Cal l.prog w K mg base CX0 1 "_law_mix" f_X _ ["_law_number", "_law_turn"] spMix := ⟨ok_Lmix FX n_int, PySem.W.mg_of X G aX, kX, bX⟩
  have GH : Cal l.prog w K mg base CX0 1 "_law_hand" f_H _ ["_law_script"] (spHand K) := ⟨ok_Lhand FH n_int n_abs n_enumerate, PySem.W.mg_of X G aH, kH, bH⟩
  have GD : Cal l.prog w K mg base CX0 2 "_law_draw" f_D _ ["_law_hand_here", "_law_many"] spDraw := ⟨ok_Ldraw FD n_int n_len GX, PySem.W.mg_of X G aD, kD, bD⟩
  have GP : Cal l.prog w K mg base CX0 3 "_law_pick" f_P _ ["_law_hand_here", "_law_things"] spPick := ⟨ok_Lpick FP n_len GD, PySem.W.mg_of X G aP, kP, bP⟩
  have GK : Cal l.prog w K mg base CX0 3 "_law_backs" f_K _ ["_law_hand_here", "_law_many"] spBacks := ⟨ok_Lbacks FK n_list n_len n_range GD, PySem.W.mg_of X G aK, kK, bK⟩
  have GRD : Cal l.prog w K mg base CX0 1 "_law_readings" f_RD _ ["_law_backs_here", "_law_p", "_law_q", "_law_r"] spLR := ⟨ok_Lreadings FRD, PySem.W.mg_of X G aRD, kRD, bRD⟩
  have GLC : Cal l.prog w K mg base CX0 2 "_law_classes" f_LC _ ["_law_backs_here"] spLC := ⟨ok_Lclasses FLC n_len n_range n_min GRD, PySem.W.mg_of X G aLC, kLC, bLC⟩
  have GLE : Cal l.prog w K mg base CX0 2 "_law_let" f_LE _ ["_law_backs_here", "_law_classes_here"] spLL := ⟨ok_Llet FLE n_len n_range GRD, PySem.W.mg_of X G aLE, kLE, bLE⟩
  have GBA : Cal l.prog w K mg base CX0 1 "_law_barred" f_BA _ ["_law_world"] spLB := ⟨ok_Lbarred FBA n_len n_range, PySem.W.mg_of X G aBA, kBA, bBA⟩
  have GAW : Cal l.prog w K mg base CX0 4 "_law_any_world" f_AW _ ["_law_hand_here", "_law_many"] spAW := ⟨ok_Lany_world FAW GK GD GLC GLE, PySem.W.mg_of X G aAW, kAW, bAW⟩
  have GB : Cal l.prog w K mg base CX0 3 "_law_labels" f_B _ ["_law_hand_here", "_law_many"] spLabels := ⟨ok_Llabels FB n_range n_max GD, PySem.W.mg_of X G aB, kB, bB⟩
  have GSH : Cal l.prog w K mg base CX0 3 "_law_shuffled" f_SH _ ["_law_hand_here", "_law_things"] spShuf := ⟨ok_Lshuf FSH n_len n_range n_list GD, PySem.W.mg_of X G aSH, kSH, bSH⟩
  have GKW : Cal l.prog w K mg base CX0 4 "_law_known" f_KW _ ["_law_hand_here", "_law_world", "_law_labels_here", "_law_share"] spLKn := ⟨ok_Lknown FKW n_len n_enumerate GD GSH, PySem.W.mg_of X G aKW, kKW, bKW⟩
  have GPR : Cal l.prog w K mg base CX0 1 "_law_plain_rows" f_PR _ ["_law_world", "_law_rows"] spPR := ⟨ok_Lplain_rows FPR n_sorted, PySem.W.mg_of X G aPR, kPR, bPR⟩
  have GIL : Cal l.prog w K mg base CX0 1 "_law_is_label" f_IL _ ["_law_thing"] spLabel := ⟨ok_Lis_label FIL n_isinstance n_int n_bool, PySem.W.mg_of X G aIL, kIL, bIL⟩
  have GDU : Cal l.prog w K mg base CX0 2 "_law_due" f_DU _ ["_law_world", "_law_labels_here", "_law_rows"] spDue := ⟨ok_Ldue FDU n_isinstance n_list n_tuple n_len n_enumerate n_sorted GIL GPR, PySem.W.mg_of X G aDU, kDU, bDU⟩
  have GTD : Cal l.prog w K mg base CX0 8 "_law_told" f_TD _ ["_law_book", "_law_labels_here", "_law_rows"] (spSkTold CT CK) := ⟨ok_Ltold FTD SC (PySem.W.mg_of X G aSK) MIS FIS bsI ECY, PySem.W.mg_of X G aTD, kTD, bTD⟩
  have GMO : Cal l.prog w K mg base CX0 9 "_law_more" f_MO _ ["_law_sketch", "_law_x", "_law_y", "_law_tie_here"] (spMore CT CK SK) := ⟨ok_Lmore FMO SC n_isinstance MsK ECY XCCY (PySem.W.mg_of X G aGE) kgCY, PySem.W.mg_of X G aMO, kMO, bMO⟩
  have GLT : Cal l.prog w K mg base CX0 4 "_law_tie" f_LT _ ["_law_sketch", "_law_x", "_law_y"] (spLTie CT CK SK) := ⟨ok_Ltie FLT SC MsT ECN ECL xLN, PySem.W.mg_of X G aLT, kLT, bLT⟩
  have GOL : Cal l.prog w K mg base CX0 4 "_law_spoilt_labels" f_OL _ ["_law_hand_here", "_law_labels_here"] spLSL := ⟨ok_Lsl FOL n_len n_range n_max n_tuple GD GP, PySem.W.mg_of X G aOL, kOL, bOL⟩
  have GOR : Cal l.prog w K mg base CX0 4 "_law_spoilt_rows" f_OR _ ["_law_hand_here", "_law_world", "_law_labels_here", "_law_rows"] spLSR := ⟨ok_Lsr FOR n_len n_list n_max n_tuple GD GP, PySem.W.mg_of X G aOR, kOR, bOR⟩
  have GEQ : Cal l.prog w K mg base CX0 9 "_law_equal" f_EQ _ ["_law_world", "_law_book", "_law_labels_here", "_law_rows", "_law_known_here", "_law_sketch"] (spLEq CT CK SK) := ⟨ok_Lequal FEQ SX BC n_len n_tuple n_list n_max MIS FIS bsI FIS0 bsID ktsI MsO FES asE neSK hmSK isE bsE nfSK (PySem.W.mg_of X G aCT) MIT FIT btI (PySem.W.mg_of X G aCK) MIB FIB bbID ktbI GBA, PySem.W.mg_of X G aEQ, kEQ, bEQ⟩
  exact ok_law FV SX n_tuple n_list n_isinstance n_enumerate n_max n_len n_range GH GAW GD (PySem.W.mg_of X G aCT) MIT FIT btI (PySem.W.mg_of X G aCK) MIB FIB bbI GBA GB GKW MIS FIS bsI GPR FEB abE neCK hmCK ibE bbE nfCK PsW FSW bsW PsU FSU bsU GLT GEQ GDU GMO GOL GOR GTD
theorem walk {l : PySem.W.OpenLaw} {q : Program} {loose : List Str} {XP : (Str → Option Value) → Heap → Prop} {YP : World → Heap → Prop} {d : DefRec} {K : Params → PySem.W.Frag} (hn : l.most = some 63) (hdf : d.params.defaults = [])
    (hY : ∀ (w : World) (h : Heap), YP w h → (K w.params).In h)
    (F : ∀ (w : World) (mg : Str → Option Value) (fa : Addr) (h : Heap), (K w.params).In h → h.Ns mainGlobals mg → mg d.name = some (.ref fa) →
      ∃ fd : FuncData, (∀ (s : Shared) (u : Value), BindsTo s fd ⟨[u], []⟩ [("_law_script", u)]) ∧ ∀ base : Heap, (K w.params).In base → base.Ns mainGlobals mg → FnOk l.prog w (K w.params) mg base CX0 11 fa fd ["_law_script"] (spLaw (K w.params))) :
    PySem.W.WalkO q loose XP YP l.row.toRowW d [] (fun f vs => PySem.call f vs) :=
  L2.walk_of (n := 63) (k := 11) (x := "_law_script") (CX := fun _ => CX0) (sp := fun w => spLaw (K w.params)) hn (by decide) hdf ⟨rfl, by decide, by decide⟩ hY F (fun _ _ a ns hl _ hS => ⟨a, ns, rfl, hS, hl, fun _ => rfl⟩) fun _ _ _ _ _ z => z
end J

set_option Elab.async false
open PySem PySem.W PyProof.Rows in
set_option maxRecDepth 100000 in
set_option maxHeartbeats 0 in
theorem PySem.Challenge.cw_joinedguests_k30_a_sketch_is_made_holds : PySem.Challenge.rw_joinedguests_k30_a_sketch_is_made.Holds := by
  w_on; o_law; k_head; (case hw => w_witness2)
  k_fill
  refine J.walk (l := PySem.Challenge.rw_joinedguests_k30_a_sketch_is_made) rfl rfl (fun w h Y => PySem.W.kIn_of Y) ?F
  case F =>
    intro w mg fa h KX G hmg
    refine' J.all_mk KX G hmg ?z_len ?z_isinstance ?z_int ?z_bool ?z_list ?z_tuple ?z_range ?z_abs ?z_enumerate ?z_all ?z_sorted ?z_set ?z_min ?gM ?gL ?gZ ?aCB ?axCB ?ixCB ?lxCB ?cxCB ?kxCB ?xCB ?saCB ?gaCB ?ggCB ?no0CB ?kcCB ?exCB ?tyCB ?hdCB ?icCB ?scCB ?aCI ?axCI ?ixCI ?lxCI ?cxCI ?kxCI ?xCI ?saCI ?gaCI ?ggCI ?no0CI ?kcCI ?exCI ?tyCI ?hdCI ?icCI ?scCI ?aCN ?axCN ?ixCN ?lxCN ?cxCN ?kxCN ?xCN ?saCN ?gaCN ?ggCN ?no0CN ?kcCN ?exCN ?tyCN ?hdCN ?icCN ?scCN ?aCL ?axCL ?ixCL ?lxCL ?cxCL ?kxCL ?xCL ?saCL ?gaCL ?ggCL ?no0CL ?kcCL ?exCL ?tyCL ?hdCL ?icCL ?scCL ?aC3 ?axC3 ?ixC3 ?lxC3 ?cxC3 ?kxC3 ?xC3 ?saC3 ?gaC3 ?ggC3 ?no0C3 ?kcC3 ?exC3 ?tyC3 ?hdC3 ?icC3 ?scC3 ?aCE ?axCE ?ixCE ?lxCE ?cxCE ?kxCE ?xCE ?saCE ?gaCE ?ggCE ?no0CE ?no1CE ?kcCE ?exCE ?tyCE ?hdCE ?icCE ?scCE ?aCY ?axCY ?ixCY ?lxCY ?cxCY ?kxCY ?xCY ?saCY ?gaCY ?ggCY ?no0CY ?no1CY ?kcCY ?exCY ?tyCY ?hdCY ?icCY ?scCY ?aCT ?pgCT ?hdCT ?poCT ?saCT ?mkCT ?kcCT ?n0CT ?n1CT ?haCT ?hn0 ?htk0 ?hmCT ?icCT ?tyCT ?suCT ?nfCT ?slCT ?aCK ?pgCK ?hdCK ?poCK ?saCK ?mkCK ?kcCK ?n0CK ?n1CK ?n2CK ?n3CK ?haCK ?hmCK ?icCK ?tyCK ?suCK ?nfCK ?siCK ?neCK ?aSK ?pgSK ?hdSK ?poSK ?saSK ?mkSK ?kcSK ?n0SK ?n1SK ?n2SK ?n3SK ?haSK ?hmSK ?icSK ?tySK ?suSK ?nfSK ?neSK ?aGE ?icGE ?tyGE ?suGECY ?haCY ?hmCY ?nsCLCN ?aW ?lW ?cW ?kW ?aLB ?lLB ?cLB ?kLB ?aQ ?lQ ?cQ ?kQ ?aTF ?lTF ?cTF ?kTF ?atI ?itI ?ltI ?ctI ?ktI ?atE ?itE ?ltE ?ctE ?ktE ?atH ?itH ?ltH ?ctH ?ktH ?atB ?itB ?ltB ?ctB ?ktB ?aI3 ?lI3 ?cI3 ?kI3 ?aRO ?lRO ?cRO ?kRO ?aLR ?lLR ?cLR ?kLR ?aCH ?lCH ?cCH ?kCH ?aWR ?lWR ?cWR ?kWR ?aBT ?lBT ?cBT ?kBT ?abI ?ibI ?lbI ?lTbI ?lEbI ?cbI ?kbI ?abE ?ibE ?lbE ?cbE ?kbE ?aCF ?lCF ?cCF ?kCF ?aTR ?lTR ?cTR ?kTR ?aTW ?lTW ?cTW ?kTW ?aKN ?lKN ?cKN ?kKN ?aKS ?lKS ?cKS ?kKS ?asI ?isI ?lsI ?lTsI ?lEsI ?csI ?ksI ?asE ?isE ?lsE ?csE ?ksE ?asW ?q1sW ?q2sW ?q3sW ?lsW ?csW ?ksW ?asU ?q1sU ?q2sU ?q3sU ?lsU ?csU ?ksU ?asT ?isT ?lsT ?csT ?ksT ?asK ?isK ?lsK ?csK ?ksK ?asO ?isO ?lsO ?csO ?ksO ?aX ?lX ?cX ?kX ?aH ?lH ?cH ?kH ?aD ?lD ?cD ?kD ?aP ?lP ?cP ?kP ?aK ?lK ?cK ?kK ?aRD ?lRD ?cRD ?kRD ?aLC ?lLC ?cLC ?kLC ?aLE ?lLE ?cLE ?kLE ?aBA ?lBA ?cBA ?kBA ?aAW ?lAW ?cAW ?kAW ?z_max ?aB ?lB ?cB ?kB ?aSH ?lSH ?cSH ?kSH ?aKW ?lKW ?cKW ?kKW ?aPR ?lPR ?cPR ?kPR ?aIL ?lIL ?cIL ?kIL ?aDU ?lDU ?cDU ?kDU ?aTD ?lTD ?cTD ?kTD ?aMO ?lMO ?cMO ?kMO ?aLT ?lLT ?cLT ?kLT ?aOL ?lOL ?cOL ?kOL ?aOR ?lOR ?cOR ?kOR ?aEQ ?lEQ ?cEQ ?kEQ ?aV ?lV ?cV ?kV
    (case z_len => k_is)
    (case z_isinstance => k_is)
    (case z_int => k_is)
    (case z_bool => k_is)
    (case z_list => k_is)
    (case z_tuple => k_is)
    (case z_range => k_is)
    (case z_abs => k_is)
    (case z_enumerate => k_is)
    (case z_all => k_is)
    (case z_sorted => k_is)
    (case z_set => k_is)
    (case z_min => k_is)
    (case gM => k_is)
    (case gL => k_is)
    (case gZ => k_is)
    (case aCB => k_is)
    (case axCB => k_is)
    (case ixCB => k_is)
    (case lxCB => k_is)
    (case cxCB => k_is)
    (case kxCB => k_is)
    (case xCB => k_is)
    (case saCB => k_is)
    (case gaCB => k_is)
    (case ggCB => k_is)
    (case no0CB => k_is)
    (case kcCB => k_is)
    (case exCB => k_is)
    (case tyCB => k_is)
    (case hdCB => k_is)
    (case icCB => k_is)
    (case scCB => first | rfl | k_is)
    (case aCI => k_is)
    (case axCI => k_is)
    (case ixCI => k_is)
    (case lxCI => k_is)
    (case cxCI => k_is)
    (case kxCI => k_is)
    (case xCI => k_is)
    (case saCI => k_is)
    (case gaCI => k_is)
    (case ggCI => k_is)
    (case no0CI => k_is)
    (case kcCI => k_is)
    (case exCI => k_is)
    (case tyCI => k_is)
    (case hdCI => k_is)
    (case icCI => k_is)
    (case scCI => first | rfl | k_is)
    (case aCN => k_is)
    (case axCN => k_is)
    (case ixCN => k_is)
    (case lxCN => k_is)
    (case cxCN => k_is)
    (case kxCN => k_is)
    (case xCN => k_is)
    (case saCN => k_is)
    (case gaCN => k_is)
    (case ggCN => k_is)
    (case no0CN => k_is)
    (case kcCN => k_is)
    (case exCN => k_is)
    (case tyCN => k_is)
    (case hdCN => k_is)
    (case icCN => k_is)
    (case scCN => first | rfl | k_is)
    (case aCL => k_is)
    (case axCL => k_is)
    (case ixCL => k_is)
    (case lxCL => k_is)
    (case cxCL => k_is)
    (case kxCL => k_is)
    (case xCL => k_is)
    (case saCL => k_is)
    (case gaCL => k_is)
    (case ggCL => k_is)
    (case no0CL => k_is)
    (case kcCL => k_is)
    (case exCL => k_is)
    (case tyCL => k_is)
    (case hdCL => k_is)
    (case icCL => k_is)
    (case scCL => first | rfl | k_is)
    (case aC3 => k_is)
    (case axC3 => k_is)
    (case ixC3 => k_is)
    (case lxC3 => k_is)
    (case cxC3 => k_is)
    (case kxC3 => k_is)
    (case xC3 => k_is)
    (case saC3 => k_is)
    (case gaC3 => k_is)
    (case ggC3 => k_is)
    (case no0C3 => k_is)
    (case kcC3 => k_is)
    (case exC3 => k_is)
    (case tyC3 => k_is)
    (case hdC3 => k_is)
    (case icC3 => k_is)
    (case scC3 => first | rfl | k_is)
    (case aCE => k_is)
    (case axCE => k_is)
    (case ixCE => k_is)
    (case lxCE => k_is)
    (case cxCE => k_is)
    (case kxCE => k_is)
    (case xCE => k_is)
    (case saCE => k_is)
    (case gaCE => k_is)
    (case ggCE => k_is)
    (case no0CE => k_is)
    (case no1CE => k_is)
    (case kcCE => k_is)
    (case exCE => k_is)
    (case tyCE => k_is)
    (case hdCE => k_is)
    (case icCE => k_is)
    (case scCE => first | rfl | k_is)
    (case aCY => k_is)
    (case axCY => k_is)
    (case ixCY => k_is)
    (case lxCY => k_is)
    (case cxCY => k_is)
    (case kxCY => k_is)
    (case xCY => k_is)
    (case saCY => k_is)
    (case gaCY => k_is)
    (case ggCY => k_is)
    (case no0CY => k_is)
    (case no1CY => k_is)
    (case kcCY => k_is)
    (case exCY => k_is)
    (case tyCY => k_is)
    (case hdCY => k_is)
    (case icCY => k_is)
    (case scCY => first | rfl | k_is)
    (case aCT => k_is)
    (case pgCT => k_is)
    (case hdCT => k_is)
    (case poCT => k_is)
    (case saCT => k_is)
    (case mkCT => k_is)
    (case kcCT => k_is)
    (case n0CT => k_is)
    (case n1CT => k_is)
    (case haCT => k_is)
    (case hn0 => k_is)
    (case htk0 => k_is)
    (case hmCT => k_is)
    (case icCT => k_is)
    (case tyCT => k_is)
    (case suCT => k_is)
    (case nfCT => k_is)
    (case slCT => k_is)
    (case aCK => k_is)
    (case pgCK => k_is)
    (case hdCK => k_is)
    (case poCK => k_is)
    (case saCK => k_is)
    (case mkCK => k_is)
    (case kcCK => k_is)
    (case n0CK => k_is)
    (case n1CK => k_is)
    (case n2CK => k_is)
    (case n3CK => k_is)
    (case haCK => k_is)
    (case hmCK => k_is)
    (case icCK => k_is)
    (case tyCK => k_is)
    (case suCK => k_is)
    (case nfCK => k_is)
    (case siCK => k_is)
    (case neCK => k_is)
    (case aSK => k_is)
    (case pgSK => k_is)
    (case hdSK => k_is)
    (case poSK => k_is)
    (case saSK => k_is)
    (case mkSK => k_is)
    (case kcSK => k_is)
    (case n0SK => k_is)
    (case n1SK => k_is)
    (case n2SK => k_is)
    (case n3SK => k_is)
    (case haSK => k_is)
    (case hmSK => k_is)
    (case icSK => k_is)
    (case tySK => k_is)
    (case suSK => k_is)
    (case nfSK => k_is)
    (case neSK => k_is)
    (case aGE => k_is)
    (case icGE => k_is)
    (case tyGE => k_is)
    (case suGECY => k_is)
    (case haCY => k_is)
    (case hmCY => k_is)
    (case nsCLCN => k_is)
    (case aW => k_is)
    (case lW => k_is)
    (case cW => k_is)
    (case kW => k_is)
    (case aLB => k_is)
    (case lLB => k_is)
    (case cLB => k_is)
    (case kLB => k_is)
    (case aQ => k_is)
    (case lQ => k_is)
    (case cQ => k_is)
    (case kQ => k_is)
    (case aTF => k_is)
    (case lTF => k_is)
    (case cTF => k_is)
    (case kTF => k_is)
    (case atI => k_is)
    (case itI => k_is)
    (case ltI => k_is)
    (case ctI => k_is)
    (case ktI => k_is)
    (case atE => k_is)
    (case itE => k_is)
    (case ltE => k_is)
    (case ctE => k_is)
    (case ktE => k_is)
    (case atH => k_is)
    (case itH => k_is)
    (case ltH => k_is)
    (case ctH => k_is)
    (case ktH => k_is)
    (case atB => k_is)
    (case itB => k_is)
    (case ltB => k_is)
    (case ctB => k_is)
    (case ktB => k_is)
    (case aI3 => k_is)
    (case lI3 => k_is)
    (case cI3 => k_is)
    (case kI3 => k_is)
    (case aRO => k_is)
    (case lRO => k_is)
    (case cRO => k_is)
    (case kRO => k_is)
    (case aLR => k_is)
    (case lLR => k_is)
    (case cLR => k_is)
    (case kLR => k_is)
    (case aCH => k_is)
    (case lCH => k_is)
    (case cCH => k_is)
    (case kCH => k_is)
    (case aWR => k_is)
    (case lWR => k_is)
    (case cWR => k_is)
    (case kWR => k_is)
    (case aBT => k_is)
    (case lBT => k_is)
    (case cBT => k_is)
    (case kBT => k_is)
    (case abI => k_is)
    (case ibI => k_is)
    (case lbI => k_is)
    (case lTbI => k_is)
    (case lEbI => k_is)
    (case cbI => k_is)
    (case kbI => k_is)
    (case abE => k_is)
    (case ibE => k_is)
    (case lbE => k_is)
    (case cbE => k_is)
    (case kbE => k_is)
    (case aCF => k_is)
    (case lCF => k_is)
    (case cCF => k_is)
    (case kCF => k_is)
    (case aTR => k_is)
    (case lTR => k_is)
    (case cTR => k_is)
    (case kTR => k_is)
    (case aTW => k_is)
    (case lTW => k_is)
    (case cTW => k_is)
    (case kTW => k_is)
    (case aKN => k_is)
    (case lKN => k_is)
    (case cKN => k_is)
    (case kKN => k_is)
    (case aKS => k_is)
    (case lKS => k_is)
    (case cKS => k_is)
    (case kKS => k_is)
    (case asI => k_is)
    (case isI => k_is)
    (case lsI => k_is)
    (case lTsI => k_is)
    (case lEsI => k_is)
    (case csI => k_is)
    (case ksI => k_is)
    (case asE => k_is)
    (case isE => k_is)
    (case lsE => k_is)
    (case csE => k_is)
    (case ksE => k_is)
    (case asW => k_is)
    (case q1sW => k_is)
    (case q2sW => k_is)
    (case q3sW => k_is)
    (case lsW => k_is)
    (case csW => k_is)
    (case ksW => k_is)
    (case asU => k_is)
    (case q1sU => k_is)
    (case q2sU => k_is)
    (case q3sU => k_is)
    (case lsU => k_is)
    (case csU => k_is)
    (case ksU => k_is)
    (case asT => k_is)
    (case isT => k_is)
    (case lsT => k_is)
    (case csT => k_is)
    (case ksT => k_is)
    (case asK => k_is)
    (case isK => k_is)
    (case lsK => k_is)
    (case csK => k_is)
    (case ksK => k_is)
    (case asO => k_is)
    (case isO => k_is)
    (case lsO => k_is)
    (case csO => k_is)
    (case ksO => k_is)
    (case aX => k_is)
    (case lX => k_is)
    (case cX => k_is)
    (case kX => k_is)
    (case aH => k_is)
    (case lH => k_is)
    (case cH => k_is)
    (case kH => k_is)
    (case aD => k_is)
    (case lD => k_is)
    (case cD => k_is)
    (case kD => k_is)
    (case aP => k_is)
    (case lP => k_is)
    (case cP => k_is)
    (case kP => k_is)
    (case aK => k_is)
    (case lK => k_is)
    (case cK => k_is)
    (case kK => k_is)
    (case aRD => k_is)
    (case lRD => k_is)
    (case cRD => k_is)
    (case kRD => k_is)
    (case aLC => k_is)
    (case lLC => k_is)
    (case cLC => k_is)
    (case kLC => k_is)
    (case aLE => k_is)
    (case lLE => k_is)
    (case cLE => k_is)
    (case kLE => k_is)
    (case aBA => k_is)
    (case lBA => k_is)
    (case cBA => k_is)
    (case kBA => k_is)
    (case aAW => k_is)
    (case lAW => k_is)
    (case cAW => k_is)
    (case kAW => k_is)
    (case z_max => k_is)
    (case aB => k_is)
    (case lB => k_is)
    (case cB => k_is)
    (case kB => k_is)
    (case aSH => k_is)
    (case lSH => k_is)
    (case cSH => k_is)
    (case kSH => k_is)
    (case aKW => k_is)
    (case lKW => k_is)
    (case cKW => k_is)
    (case kKW => k_is)
    (case aPR => k_is)
    (case lPR => k_is)
    (case cPR => k_is)
    (case kPR => k_is)
    (case aIL => k_is)
    (case lIL => k_is)
    (case cIL => k_is)
    (case kIL => k_is)
    (case aDU => k_is)
    (case lDU => k_is)
    (case cDU => k_is)
    (case kDU => k_is)
    (case aTD => k_is)
    (case lTD => k_is)
    (case cTD => k_is)
    (case kTD => k_is)
    (case aMO => k_is)
    (case lMO => k_is)
    (case cMO => k_is)
    (case kMO => k_is)
    (case aLT => k_is)
    (case lLT => k_is)
    (case cLT => k_is)
    (case kLT => k_is)
    (case aOL => k_is)
    (case lOL => k_is)
    (case cOL => k_is)
    (case kOL => k_is)
    (case aOR => k_is)
    (case lOR => k_is)
    (case cOR => k_is)
    (case kOR => k_is)
    (case aEQ => k_is)
    (case lEQ => k_is)
    (case cEQ => k_is)
    (case kEQ => k_is)
    (case aV => k_is)
    (case lV => k_is)
    (case cV => k_is)
    (case kV => k_is)

