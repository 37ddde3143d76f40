import PyProof.Rows.All
import HandS.ForMost
import KE.IntTextLaws
import PyProof.StrLawsChain
import HandS.HeadHook4
import HandS.HeadWalk
import HandS.Head2
import HandS.AnyAll
import HandS.StrMore
import HandS.IsInst
import HandS.More
import HandS.Flow
import KE.KxText
import HandS.Walk
import HandS.Replace
import HandS.Steps
import PySem.Challenge.RW_bitneed_k01_names_numbers_and_rows
set_option Elab.async false
set_option linter.all false
set_option maxRecDepth 100000
set_option maxHeartbeats 2000000
namespace K1
open PySem PySem.StrLaws PySem.Builtin PySem.Builtin.Str
/-! ### texts as lists of signs -/
def mkS (l : List Nat) : PySem.Str := ⟨l.toArray⟩
theorem mkS_list (l : List Nat) : (mkS l).cps.toList = l := by simp [mkS]
theorem mkS_len (l : List Nat) : (mkS l).length = l.length := by simp [mkS, PySem.Str.length]
theorem mkS_of (x : PySem.Str) : mkS x.cps.toList = x := by cases x; simp [mkS]
theorem mkS_inj {a b : List Nat} (h : mkS a = mkS b) : a = b := by
  have e := congrArg (fun s : PySem.Str => s.cps.toList) h
  simpa [mkS] using e
theorem len_list (x : PySem.Str) : x.length = x.cps.toList.length := by simp [PySem.Str.length]
/-! ### parting by one sign -/
def pr (c : Nat) : List Nat → List Nat × List (List Nat)
  | [] => ([], [])
  | x :: l => if x = c then ([], (pr c l).1 :: (pr c l).2) else (x :: (pr c l).1, (pr c l).2)
def parts (c : Nat) (l : List Nat) : List (List Nat) := (pr c l).1 :: (pr c l).2
theorem parts_hit (c : Nat) (l : List Nat) : parts c (c :: l) = [] :: parts c l := by
  unfold parts; rw [pr, if_pos rfl]
theorem parts_miss {c x : Nat} (h : x ≠ c) (l : List Nat) : parts c (x :: l) = (x :: (pr c l).1) :: (pr c l).2 := by
  unfold parts; rw [pr, if_neg h]
theorem parts_len (c : Nat) : ∀ l : List Nat, (parts c l).length ≤ l.length + 1
  | [] => by simp [parts, pr]
  | x :: l => by
    have ih := parts_len c l
    by_cases h : x = c
    · subst h; rw [parts_hit]; simp only [List.length_cons]; omega
    · rw [parts_miss h]; unfold parts at ih; simp only [List.length_cons] at ih ⊢; omega
theorem parts_mem_len (c : Nat) : ∀ l : List Nat, ∀ w ∈ parts c l, w.length ≤ l.length
  | [], w, hw => by simp [parts, pr] at hw; simp [hw]
  | x :: l, w, hw => by
    have ih := parts_mem_len c l
    by_cases h : x = c
    · subst h; rw [parts_hit] at hw
      rcases List.mem_cons.mp hw with e | hw
      · subst e; exact Nat.zero_le _
      · exact Nat.le_succ_of_le (ih w hw)
    · rw [parts_miss h] at hw
      rcases List.mem_cons.mp hw with e | hw
      · subst e
        have := ih _ (by unfold parts; exact List.mem_cons_self)
        simp only [List.length_cons]; omega
      · exact Nat.le_succ_of_le (ih w (by unfold parts; exact List.mem_cons_of_mem _ hw))
/-- one sign more -/
theorem parts_snoc (c : Nat) : ∀ (l : List Nat) (x : Nat), ∃ d u, parts c l = d ++ [u] ∧ parts c (l ++ [x]) = if x = c then d ++ [u] ++ [[]] else d ++ [u ++ [x]]
  | [], x => by
    refine ⟨[], [], rfl, ?_⟩
    by_cases h : x = c
    · subst h; rw [if_pos rfl]; show parts x [x] = _; rw [parts_hit]; rfl
    · rw [if_neg h]; show parts c [x] = _; rw [parts_miss h]; rfl
  | y :: l, x => by
    obtain ⟨d, u, e1, e2⟩ := parts_snoc c l x
    show ∃ d u, parts c (y :: l) = d ++ [u] ∧ parts c (y :: (l ++ [x])) = _
    by_cases hy : y = c
    · subst hy
      refine ⟨[] :: d, u, by rw [parts_hit, e1]; rfl, ?_⟩
      rw [parts_hit, e2]
      split <;> rfl
    · rw [parts_miss hy, parts_miss hy]
      have p1 : (pr c l).1 :: (pr c l).2 = d ++ [u] := e1
      have p2 : (pr c (l ++ [x])).1 :: (pr c (l ++ [x])).2 = if x = c then d ++ [u] ++ [[]] else d ++ [u ++ [x]] := e2
      cases d with
      | nil =>
        obtain ⟨q1, q2⟩ := List.cons.inj p1
        refine ⟨[], y :: u, by rw [q1, q2]; rfl, ?_⟩
        by_cases hx : x = c
        · rw [if_pos hx] at p2 ⊢
          obtain ⟨z1, z2⟩ := List.cons.inj p2
          rw [z1, z2]; rfl
        · rw [if_neg hx] at p2 ⊢
          obtain ⟨z1, z2⟩ := List.cons.inj p2
          rw [z1, z2]; rfl
      | cons g d =>
        obtain ⟨q1, q2⟩ := List.cons.inj p1
        refine ⟨(y :: g) :: d, u, by rw [q1, q2]; rfl, ?_⟩
        by_cases hx : x = c
        · rw [if_pos hx] at p2 ⊢
          obtain ⟨z1, z2⟩ := List.cons.inj p2
          rw [z1, z2]; rfl
        · rw [if_neg hx] at p2 ⊢
          obtain ⟨z1, z2⟩ := List.cons.inj p2
          rw [z1, z2]; rfl
/-! ### split by one sign -/
def idx (c : Nat) : Nat → List Nat → List Nat
  | _, [] => []
  | a, y :: r => if y = c then a :: idx c (a + 1) r else idx c (a + 1) r
theorem idx_ge (c : Nat) : ∀ (a : Nat) (l : List Nat), ∀ k ∈ idx c a l, a ≤ k
  | _, [], _, h => by simp [idx] at h
  | a, y :: r, k, h => by
    unfold idx at h
    split at h
    · rcases List.mem_cons.mp h with e | h
      · omega
      · have := idx_ge c (a + 1) r k h; omega
    · have := idx_ge c (a + 1) r k h; omega
theorem sub1 (x : PySem.Str) (c i : Nat) : (i + (⟨#[c]⟩ : PySem.Str).length ≤ x.length ∧ subAt x ⟨#[c]⟩ i = true) ↔ x.cps.toList[i]? = some c := by
  have hl : (⟨#[c]⟩ : PySem.Str).length = 1 := rfl
  rw [subAt_eq, hl]
  have hn := len_list x
  constructor
  · rintro ⟨h1, h2⟩
    have h3 := eq_of_beq h2
    have hi : i < x.cps.toList.length := by omega
    have e : (x.cps.toList.drop i).take 1 = [x.cps.toList[i]] := by
      rw [List.drop_eq_getElem_cons hi]; rfl
    rw [e] at h3
    rw [List.getElem?_eq_getElem hi]
    have : [x.cps.toList[i]] = [c] := h3
    rw [List.cons.inj this |>.1]
  · intro h
    obtain ⟨hi, e⟩ := List.getElem?_eq_some_iff.mp h
    refine ⟨by omega, ?_⟩
    rw [List.drop_eq_getElem_cons hi, e]
    exact beq_self_eq_true _
theorem occ_run (x : PySem.Str) (c : Nat) : ∀ (l : List Nat) (a : Nat) (st : Array Nat × Nat), x.cps.toList.drop a = l → a + l.length = x.length → st.fst.size ≤ a → st.snd ≤ a →
    (forIn (List.range' a (l.length + 1)) st (occBody x ⟨#[c]⟩ x.length (x.length + 1))).run.fst.toList = st.fst.toList ++ idx c a l
  | [], a, st, hd, hz, h1, h2 => by
    show (forIn (List.range' a 1) st (occBody x ⟨#[c]⟩ x.length (x.length + 1))).run.fst.toList = _
    rw [List.range'_succ, List.forIn_cons]
    unfold occBody
    have hne : ¬ (((st.fst.size < x.length + 1 ∧ st.snd ≤ a) ∧ a + (⟨#[c]⟩ : PySem.Str).length ≤ x.length) ∧ subAt x ⟨#[c]⟩ a = true) := by
      rintro ⟨⟨_, h⟩, _⟩
      have hl : (⟨#[c]⟩ : PySem.Str).length = 1 := rfl
      simp only [List.length_nil] at hz
      omega
    rw [if_neg hne]
    simp [idx]
  | y :: r, a, st, hd, hz, h1, h2 => by
    show (forIn (List.range' a ((r.length + 1) + 1)) st (occBody x ⟨#[c]⟩ x.length (x.length + 1))).run.fst.toList = _
    rw [List.range'_succ, List.forIn_cons]
    have hg : x.cps.toList[a]? = some y := by
      have e := congrArg (fun l : List Nat => l[0]?) hd
      simp only [List.getElem?_drop, Nat.add_zero] at e
      simpa using e
    have hd' : x.cps.toList.drop (a + 1) = r := by
      rw [← List.drop_drop, hd]; rfl
    have hz' : (a + 1) + r.length = x.length := by simp only [List.length_cons] at hz; omega
    by_cases hy : y = c
    · subst hy
      have hp : ((st.fst.size < x.length + 1 ∧ st.snd ≤ a) ∧ a + (⟨#[y]⟩ : PySem.Str).length ≤ x.length) ∧ subAt x ⟨#[y]⟩ a = true := by
        have q := (sub1 x y a).mpr hg
        exact ⟨⟨⟨by omega, h2⟩, q.1⟩, q.2⟩
      have e1 : occBody x ⟨#[y]⟩ x.length (x.length + 1) a st = pure (ForInStep.yield (st.fst.push a, a + (⟨#[y]⟩ : PySem.Str).length)) := by
        unfold occBody; rw [if_pos hp]
      rw [e1]
      have ih := occ_run x y r (a + 1) (st.fst.push a, a + 1) hd' hz' (by simp; omega) (Nat.le_refl _)
      have hl : (⟨#[y]⟩ : PySem.Str).length = 1 := rfl
      show (forIn (List.range' (a + 1) (r.length + 1)) (st.fst.push a, a + (⟨#[y]⟩ : PySem.Str).length) (occBody x ⟨#[y]⟩ x.length (x.length + 1))).run.fst.toList = _
      rw [hl, ih]
      simp [idx]
    · have hn : ¬ (((st.fst.size < x.length + 1 ∧ st.snd ≤ a) ∧ a + (⟨#[c]⟩ : PySem.Str).length ≤ x.length) ∧ subAt x ⟨#[c]⟩ a = true) := by
        rintro ⟨⟨_, h3⟩, h4⟩
        have q := (sub1 x c a).mp ⟨h3, h4⟩
        rw [hg] at q
        exact hy (Option.some.inj q)
      have e1 : occBody x ⟨#[c]⟩ x.length (x.length + 1) a st = pure (ForInStep.yield (st.fst, st.snd)) := by
        unfold occBody; rw [if_neg hn]
      rw [e1]
      have ih := occ_run x c r (a + 1) (st.fst, st.snd) hd' hz' (by show st.fst.size ≤ a + 1; omega) (by show st.snd ≤ a + 1; omega)
      show (forIn (List.range' (a + 1) (r.length + 1)) (st.fst, st.snd) (occBody x ⟨#[c]⟩ x.length (x.length + 1))).run.fst.toList = _
      rw [ih]
      simp [idx, hy]
theorem occ_idx (x : PySem.Str) (c : Nat) : occurrences x ⟨#[c]⟩ 0 x.length (x.length + 1) = idx c 0 x.cps.toList := by
  rw [occ_eq]
  have h := occ_run x c x.cps.toList 0 (#[], 0) rfl (by rw [len_list x]; omega) (Nat.le_refl _) (Nat.le_refl _)
  have e : x.length + 1 - 0 = x.cps.toList.length + 1 := by rw [len_list x]; omega
  rw [e, h]
  rfl
theorem sub_mk (x : PySem.Str) (a b : Nat) : strSub x a b = mkS ((x.cps.toList.drop a).take (b - a)) := by
  have h := strSub_toList x a b
  rw [← mkS_of (strSub x a b), h]
theorem partsFrom_idx (x : PySem.Str) (c : Nat) : ∀ (l : List Nat) (a : Nat), x.cps.toList.drop a = l → a + l.length = x.length → partsFrom x 1 a (idx c a l) = (parts c l).map mkS
  | [], a, hd, hz => by
    show [strSub x a x.length] = _
    rw [sub_mk, hd, List.take_nil]
    rfl
  | y :: r, a, hd, hz => by
    have hd' : x.cps.toList.drop (a + 1) = r := by rw [← List.drop_drop, hd]; rfl
    have hz' : (a + 1) + r.length = x.length := by simp only [List.length_cons] at hz; omega
    have ih := partsFrom_idx x c r (a + 1) hd' hz'
    by_cases hy : y = c
    · subst hy
      have e1 : idx y a (y :: r) = a :: idx y (a + 1) r := by rw [idx, if_pos rfl]
      rw [e1, parts_hit]
      show strSub x a a :: partsFrom x 1 (a + 1) (idx y (a + 1) r) = _
      rw [ih, sub_mk]
      simp
    · have e1 : idx c a (y :: r) = idx c (a + 1) r := by rw [idx, if_neg hy]
      rw [e1, parts_miss hy]
      have hge := idx_ge c (a + 1) r
      generalize idx c (a + 1) r = cuts at ih hge
      have ih' : partsFrom x 1 (a + 1) cuts = mkS (pr c r).1 :: ((pr c r).2).map mkS := ih
      have hsub : ∀ k, a + 1 ≤ k → ∀ w, strSub x (a + 1) k = mkS w → strSub x a k = mkS (y :: w) := by
        intro k hk w e
        rw [sub_mk] at e ⊢
        rw [hd'] at e
        rw [hd]
        have e' := mkS_inj e
        have : k - a = (k - (a + 1)) + 1 := by omega
        rw [this, List.take_succ_cons, e']
      cases cuts with
      | nil =>
        have i2 : [strSub x (a + 1) x.length] = mkS (pr c r).1 :: ((pr c r).2).map mkS := ih'
        obtain ⟨q1, q2⟩ := List.cons.inj i2
        show [strSub x a x.length] = mkS (y :: (pr c r).1) :: ((pr c r).2).map mkS
        rw [hsub x.length (by omega) _ q1, ← q2]
      | cons k rest =>
        have i2 : strSub x (a + 1) k :: partsFrom x 1 (k + 1) rest = mkS (pr c r).1 :: ((pr c r).2).map mkS := ih'
        obtain ⟨q1, q2⟩ := List.cons.inj i2
        show strSub x a k :: partsFrom x 1 (k + 1) rest = mkS (y :: (pr c r).1) :: ((pr c r).2).map mkS
        rw [hsub k (hge k List.mem_cons_self) _ q1, q2]
theorem idx_nil {c : Nat} : ∀ {l : List Nat} {a : Nat}, idx c a l = [] → parts c l = [l]
  | [], _, _ => rfl
  | y :: r, a, h => by
    unfold idx at h
    split at h
    · cases h
    · rename_i hy
      rw [parts_miss hy]
      have ih := idx_nil h
      unfold parts at ih
      obtain ⟨q1, q2⟩ := List.cons.inj ih
      rw [q1, q2]
theorem kind_le (x : PySem.Str) (c : Nat) (hc : c < 256) : ¬ (Builtin.Str.strKind x < Builtin.Str.strKind ⟨#[c]⟩) := by
  have e : Builtin.Str.strKind (⟨#[c]⟩ : PySem.Str) = 1 := by
    unfold Builtin.Str.strKind
    rw [if_pos (by simp [hc])]
  rw [e]
  unfold Builtin.Str.strKind
  split
  · omega
  · split <;> omega
theorem split_parts (x : PySem.Str) (c : Nat) (hc : c < 256) : Txt.split x ⟨#[c]⟩ = (parts c x.cps.toList).map mkS := by
  unfold Txt.split
  have hl : (⟨#[c]⟩ : PySem.Str).length = 1 := rfl
  by_cases h0 : x.length < 1
  · have hx : x.cps.toList = [] := List.eq_nil_of_length_eq_zero (by rw [← len_list]; omega)
    rw [if_pos (by rw [hl, decide_eq_true h0]; rfl), hx]
    show [x] = [mkS []]
    rw [← hx, mkS_of]
  · rw [if_neg (by rw [hl, decide_eq_false h0, decide_eq_false (kind_le x c hc)]; decide), occ_idx]
    by_cases hn : idx c 0 x.cps.toList = []
    · rw [if_pos (by rw [hn]; rfl), idx_nil hn]
      show [x] = [mkS x.cps.toList]
      rw [mkS_of]
    · rw [if_neg (by intro z; exact hn (by simpa using z)), partsBetween_eq]
      exact partsFrom_idx x c x.cps.toList 0 rfl (by rw [len_list x]; omega)
/-! ### rows of words -/
def ne0 (w : List Nat) : Bool := !w.isEmpty
def words (l : List Nat) : List (List Nat) := (parts 32 l).filter ne0
def rows (l : List Nat) : List (List (List Nat)) := (parts 10 l).map words
end K1

set_option Elab.async false
set_option linter.all false
set_option maxRecDepth 100000
set_option maxHeartbeats 2000000
namespace K1
open PySem PySem.Spec PyProof.Rows L2
/-! ### the text -/
def top (i : Nat) : Stmt := PySem.Challenge.pw_bitneed_k01_names_numbers_and_rows.main.body.getD i (.Pass ⟨0, 0, 0, 0⟩)
abbrev FnP (K : PySem.W.Frag) (x : PySem.Str) (st : Stmt) (f : Addr) (fd : FuncData) : Prop := FunD K x x (defArgs st) (defBody st) (defScope st) [] [] f fd
/-! ### rules of our own -/
section
variable {X : Cx}
/-- a list that is only read, and a new one behind it -/
theorem op_catR : OpR X (binaryOp .Add) (fun x y H Q => ∃ l b xs zs, x = .ref l ∧ y = .ref b ∧ SqL X.K H l xs ∧ H b = some (.lst zs) ∧ xs.length + zs.length ≤ sizeLine ∧ ∀ p, H p = none → Q (.ref p) (upd H p (.lst (xs ++ zs)))) := by
  intro pins s σ H x y v u Q I rx ry h
  obtain ⟨l, b, xs, zs, rfl, rfl, hs, hB, hz, q⟩ := h
  cases rx
  cases ry
  obtain ⟨its, rv, ⟨o, n, ho, hc, hdn, hd⟩, hlen⟩ := I.list hs
  obtain ⟨cls, dd, data, sl⟩ := o
  obtain rfl : cls = Value.type "list" := hc
  obtain rfl : data = Data.seq its.toArray n := hd
  obtain ⟨z2, its2, n2, r2, hl2, e2⟩ := I.lstM hB
  have hl := rv.length
  have ea : its.toArray ++ its2.toArray = (its ++ its2).toArray := by simp
  refine concat_meets ⟨_, ho, rfl⟩ ⟨_, e2, rfl⟩ noFill_list_add seq_list_add PySem.F.slot_list_add PySem.F.entry_list_add (PySem.F.args_list_add_2 _ _)
    (list_addW l b its.toArray its2.toArray n n2 dd none sl #[] (by rw [List.size_toArray, List.size_toArray, ← hl, ← hl2]; exact hz)) ⟨ho, e2, ?_⟩
  rw [ea]
  exact ⟨.ref _, _, I.lnew (t' := s.toks) (rv.append r2) (by rw [List.length_append]; exact hz), rfl, q _ I.fresh⟩
/-- a text so many times -/
theorem op_repS : OpR X (binaryOp .Mult) (fun x y H Q => ∃ (z : PySem.Str) (k : Nat), x = .str z ∧ y = .int (k : Int) ∧ 2 ≤ k ∧ 1 ≤ z.length ∧ z.length * k ≤ 1000000 ∧ Q (.str (Txt.mul z (k : Int))) H) := by
  intro pins s σ H x y v u Q I rx ry h
  obtain ⟨z, k, rfl, rfl, h1, h2, h3, q⟩ := h
  obtain ⟨t, rfl⟩ := rx
  obtain ⟨t', rfl⟩ := ry
  have hk : k ≤ 1000000 := Nat.le_trans (Nat.le_mul_of_pos_left k h2) h3
  have hz : z.length ≤ 1000000 := Nat.le_trans (Nat.le_mul_of_pos_right z.length (by omega)) h3
  refine PySem.SB.mul ⟨?_, fun _ _ => ?_, fun _ _ => ?_⟩ fun t2 tk => ⟨.str _, H, I.tok tk, ⟨t2, rfl⟩, q⟩
  · rw [decide_eq_false (by omega), decide_eq_false (by omega)]; rfl
  · have e2 : (1000000 : Int) ≤ (2 ^ 63 - 1) / (k : Int) := (Int.le_ediv_iff_mul_le (by omega)).mpr (by omega)
    omega
  · rw [Int.toNat_natCast]
    unfold Builtin.Str.tooLong
    rw [decide_eq_false (by rw [sizeLine_eq]; omega)]
/-- 'a' <= x <= 'z', x one sign, as a generator's element -/
theorem elt_in {prog : Program} {w : World} {scope : Scope} {x k1 k2 : PySem.Str} {j1 j2 : Nat} {p1 p2 p3 p4 : Pos} (hk : scope.kind = .function) (hl : scope.names.lookup x = some .local) (hd : (x == ("__debug__" : PySem.Str)) = false := by decide) :
    GxR.EltP prog w scope x (.Compare (.Constant (.str k1) j1 p1) [.LtE, .LtE] [.Name x p2, .Constant (.str k2) j2 p3] p4) (fun c => !decide ([c] < k1.cps.toList) && !decide (k2.cps.toList < [c])) := by
  intro cenv A' E' c t s₂ m₂ hs hn hm
  refine Compare_chain (Calls.Constant_str (chain_link ?_))
  refine wpAny_Name (wpAny_loadName_local (by rw [hs]; exact hk) (show cenv.scope.names.lookup x = some .local by rw [hs]; exact hl) hn hm ?_) hd
  refine PySem.P.le_str (wpAny_truthy_bool ?_)
  cases h1 : (!decide ([c] < k1.cps.toList)) with
  | false =>
    refine ite_ff ?_
    exact ⟨by simp [h1], GxR.keeps_tok _ _⟩
  | true =>
    refine ite_tt (chain_last (Calls.Constant_str (PySem.P.le_str ?_)))
    exact ⟨by simp [h1], GxR.keeps_tok _ _⟩
end
/-- a def whose code object is told -/
theorem okC {P : Program} {w : World} {K : PySem.W.Frag} {mg : PySem.Str → Option Value} {base : Heap} {x : PySem.Str} {st : Stmt} {fd : FuncData} {N ps : List PySem.Str} {k : Nat} {sp : Sp} {p : PySem.Str × Option PySem.Str} (F : FnP K x st (He.fAd K p) fd) (S : FnScope N ps (defScope st))
    (len : ∀ vs H Q E, sp vs H Q E → vs.length = ps.length)
    (hbody : ∀ (A : Around) (outer : List Env) (s : Shared) (H : Hp) (vs : List V) (Q : VK) (E : XK), Room k (A.deeper (envOfC x (defScope st) s.heap.objs.size (He.fAd K p) (.ref (He.codeOf K p)))) → sp vs H Q E →
      ∃ t, PSs (cxOf CX0 P w K mg base N x (defScope st) (He.fAd K p) (.ref (He.codeOf K p)) A outer s H E).nox (defBody st) t ∧ t { nx := fun _ H' => Q .non H', rt := Q } (start N vs) H) : FnOk P w K mg base CX0 (k + 1) (He.fAd K p) fd ps sp := by
  obtain ⟨oc, od, dV, kV, doc, pm, an, cdv, ct, osl, rfl, lk, hcd, _, _⟩ := F.ex
  obtain ⟨c, rfl⟩ := He.codeIn_ref hcd
  have e : He.codeOf K p = c := He.codeOf_eq lk rfl
  subst e
  refine fn_of lk hcd S len fun A outer s H vs Q E hr hsp => ?_
  obtain ⟨t, h, q⟩ := hbody A outer s H vs Q E hr hsp
  exact ⟨t, h.nox, q⟩
/-! ### what stays -/
/-- an object of the heap ahead, as it may stand behind: tables may have grown -/
def Ko (o : HO) (x : Option HO) : Prop := match o with
  | .tbl ps => ∃ qs, x = some (.tbl qs) ∧ (TriplesOk ps.toList → TriplesOk qs.toList)
  | o => x = some o
theorem ko_refl (o : HO) : Ko o (some o) := by
  cases o <;> first | rfl | exact ⟨_, rfl, fun h => h⟩
theorem ko_some {o : HO} {x : Option HO} (h : Ko o x) : ∃ u, x = some u := by
  cases o <;> first | exact ⟨_, h⟩ | (obtain ⟨qs, e, _⟩ := h; exact ⟨_, e⟩)
theorem ko_trans {o : HO} {x y : Option HO} (h : Ko o x) (k : ∀ u, x = some u → Ko u y) : Ko o y := by
  cases o <;> first | exact k _ h | (obtain ⟨qs, e, z⟩ := h; obtain ⟨rs, e2, z2⟩ := k _ e; exact ⟨rs, e2, fun q => z2 (z q)⟩)
/-- all that was tracked stands, but what stands at the addresses for which D holds -/
def Kept (D : Addr → Prop) (H H' : Hp) : Prop := ∀ b o, H b = some o → ¬ D b → Ko o (H' b)
theorem Kept.refl {D : Addr → Prop} {H : Hp} : Kept D H H := fun b o e _ => by rw [e]; exact ko_refl o
theorem Kept.trans {D : Addr → Prop} {H H1 H2 : Hp} (a : Kept D H H1) (b : Kept D H1 H2) : Kept D H H2 := fun c o e n => ko_trans (a c o e n) fun u q => b c u q n
theorem Kept.weak {D D' : Addr → Prop} {H H1 : Hp} (a : Kept D H H1) (h : ∀ b, D b → D' b) : Kept D' H H1 := fun c o e n => a c o e fun d => n (h c d)
theorem Kept.new {D : Addr → Prop} {H H1 : Hp} {p : Addr} {o : HO} (a : Kept D H H1) (n : H p = none) : Kept D H (upd H1 p o) := fun c u e d => by
  rw [upd_ne (ne_of_none e n)]
  exact a c u e d
theorem Kept.upd {D : Addr → Prop} {H H1 : Hp} {p : Addr} {o : HO} (a : Kept D H H1) (d : D p) : Kept D H (upd H1 p o) := fun c u e n => by
  rw [upd_ne (fun z => n (by rw [z]; exact d))]
  exact a c u e n
abbrev None : Addr → Prop := fun _ => False
theorem Kept.free {H H1 : Hp} (a : Kept None H H1) {p : Addr} (h : H1 p = none) : H p = none := by
  cases e : H p with
  | none => rfl
  | some o =>
    obtain ⟨u, q⟩ := ko_some (a p o e (fun z => z))
    rw [h] at q
    cases q
theorem Kept.lst {D : Addr → Prop} {H H1 : Hp} (a : Kept D H H1) {p : Addr} {xs : List V} (h : H p = some (.lst xs)) (n : ¬ D p) : H1 p = some (.lst xs) := a p _ h n
theorem Kept.tup {D : Addr → Prop} {H H1 : Hp} (a : Kept D H H1) {p : Addr} {xs : List V} (h : H p = some (.tup xs)) (n : ¬ D p) : H1 p = some (.tup xs) := a p _ h n
theorem Kept.dK {D : Addr → Prop} {H H1 : Hp} (a : Kept D H H1) {p : Addr} {kvs : List (Key × V)} (h : H p = some (.dK kvs)) (n : ¬ D p) : H1 p = some (.dK kvs) := a p _ h n
theorem Kept.frz {D : Addr → Prop} {H H1 : Hp} (a : Kept D H H1) {p : Addr} {o : Obj} {u : HO} (h : H p = some (.frz o u)) (n : ¬ D p) : H1 p = some (.frz o u) := a p _ h n
theorem Kept.tab {D : Addr → Prop} {H H1 : Hp} (a : Kept D H H1) {p : Addr} (h : GxR.TabG H p) (n : ¬ D p) : GxR.TabG H1 p := by
  obtain ⟨ps, e, z⟩ := h
  obtain ⟨qs, e2, z2⟩ := a p _ e n
  exact ⟨qs, e2, z2 z⟩
theorem Kept.sql {K : PySem.W.Frag} {D : Addr → Prop} {H H1 : Hp} (a : Kept D H H1) {p : Addr} {xs : List V} (h : SqL K H p xs) (n : ¬ D p) : SqL K H1 p xs := by
  rcases h with (h | ⟨o, h⟩) | h
  · exact .inl (.inl (a.lst h n))
  · exact .inl (.inr ⟨o, a.frz h n⟩)
  · exact .inr h
theorem Kept.of_tabbed {P : Addr} {H H1 : Hp} (t : GxR.TabG H P) (h : GxR.Tabbed P H H1) : Kept None H H1 := fun b o e _ => by
  by_cases hb : b = P
  · subst hb
    obtain ⟨ps, e1, z1⟩ := t
    obtain ⟨⟨qs, e2, z2⟩, _⟩ := h
    rw [e1] at e
    cases e
    exact ⟨qs, e2, fun _ => z2⟩
  · rw [h.2 b hb, e]
    exact ko_refl o
end K1

set_option Elab.async false
set_option linter.all false
set_option maxRecDepth 100000
set_option maxHeartbeats 2000000
namespace K1
open PySem PySem.Spec PyProof.Rows L2
/-! ### the program's own defs -/
abbrev sWhole : Stmt := top 3
abbrev sName : Stmt := top 4
abbrev sNum : Stmt := top 5
abbrev sRows : Stmt := top 6
theorem scWhole : FnScope ["thing", "least", "most"] ["thing", "least", "most"] (defScope sWhole) := ⟨rfl, rfl, rfl, by decide +kernel, rfl, by decide +kernel, by decide +kernel⟩
theorem scName : FnScope ["thing"] ["thing"] (defScope sName) := ⟨rfl, rfl, rfl, by decide +kernel, rfl, by decide +kernel, by decide +kernel⟩
theorem scNum : FnScope ["word", "figures"] ["word"] (defScope sNum) := ⟨rfl, rfl, rfl, by decide +kernel, rfl, by decide +kernel, by decide +kernel⟩
theorem scRows : FnScope ["text", "found", "line", "words", "word"] ["text"] (defScope sRows) := ⟨rfl, rfl, rfl, by decide +kernel, rfl, by decide +kernel, by decide +kernel⟩
def wholeB (x : V) (lo hi : Int) : Bool := match x with
  | .int i => decide (lo ≤ i) && decide (i ≤ hi)
  | _ => false
def spWhole (K : PySem.W.Frag) : Sp := fun vs H Q _ => ∃ (x : V) (T : String) (lo hi : Int), vs = [x, .int lo, .int hi] ∧ TyB K H x T ∧ Q (.bl (wholeB x lo hi)) H
theorem tyb_int {K : PySem.W.Frag} {H : Hp} {x : V} {T : String} (t : TyB K H x T) : (T = "int" ∧ ∃ i, x = .int i) ∨ (T ≠ "int" ∧ ∀ lo hi, wholeB x lo hi = false) := by
  cases t with
  | int i => exact .inl ⟨rfl, i, rfl⟩
  | _ => exact .inr ⟨by decide, fun _ _ => rfl⟩
section
variable {P : Program} {w : World} {K : PySem.W.Frag} {mg : PySem.Str → Option Value} {base : Heap} {f : Addr} {fd : FuncData}
theorem ok_whole (F : FnP K "is_whole" sWhole f fd) (m1 : mg "type" = none) (m2 : mg "int" = none) : FnOk P w K mg base CX0 1 f fd ["thing", "least", "most"] (spWhole K) := by
  refine F.ok scWhole (fun vs H Q E h => ?_) (fun cdv A outer s H vs Q E hr h => ?_)
  · obtain ⟨x, T, lo, hi, rfl, _⟩ := h
    rfl
  · obtain ⟨x, T, lo, hi, rfl, hT, q⟩ := h
    refine ⟨_, PSs.nox (pss_one (ps_ret (pe_and (pe_cmpR op_isTyB (pe_callTy call_type1 (by rfl) m1 (by decide +kernel) (pa_cons (pv 0) pa_nil)) (pe_bltn (v := .ty "int") (by rfl) m2 (by decide +kernel) rfl) (nomark _)) (pe_one (pe_chain op_le op_le (pv 1) (pv 0) (pv 2)))))), ?_⟩
    refine ⟨x, rfl, x, T, rfl, hT, T, "int", rfl, rfl, _, rfl, ?_⟩
    rcases tyb_int hT with ⟨rfl, i, rfl⟩ | ⟨hn, hw⟩
    · rw [decide_eq_true rfl]
      refine iteT ⟨.int lo, rfl, .int i, rfl, lo, i, rfl, rfl, _, rfl, ?_⟩
      have q' : Q (.bl (decide (lo ≤ i) && decide (i ≤ hi))) H := q
      cases e : decide (lo ≤ i) with
      | true =>
        rw [e] at q'
        exact iteT ⟨.int hi, rfl, i, hi, rfl, rfl, q'⟩
      | false =>
        rw [e] at q'
        exact iteF q'
    · rw [decide_eq_false hn]
      rw [hw] at q
      exact iteF q
/-! #### signs -/
def lowB (l : List Nat) : Bool := l.all fun c => !decide ([c] < ("a" : PySem.Str).cps.toList) && !decide (("z" : PySem.Str).cps.toList < [c])
def figB (l : List Nat) : Bool := l.all fun c => !decide ([c] < ("0" : PySem.Str).cps.toList) && !decide (("9" : PySem.Str).cps.toList < [c])
def nameB (x : V) : Bool := match x with
  | .str z => (decide (1 ≤ z.length) && decide (z.length ≤ 8)) && lowB z.cps.toList
  | _ => false
def spName (K : PySem.W.Frag) : Sp := fun vs H Q _ => ∃ (x : V) (T : String), vs = [x] ∧ TyB K H x T ∧ (∀ z, x = .str z → z.length ≤ sizeLine) ∧ ∀ H', Kept None H H' → Q (.bl (nameB x)) H'
theorem asc : ∀ c, c < 128 → (Unicode.isAlpha c = (Unicode.isLower c || (Unicode.isUpper c || Unicode.isTitle c))) ∧ (Unicode.isLower c = (!decide ([c] < ("a" : PySem.Str).cps.toList) && !decide (("z" : PySem.Str).cps.toList < [c]))) ∧ ((Unicode.isLower c && (Unicode.isUpper c || Unicode.isTitle c)) = false) := by decide +kernel
theorem low_asc {c : Nat} (h : (!decide ([c] < ("a" : PySem.Str).cps.toList) && !decide (("z" : PySem.Str).cps.toList < [c])) = true) : c < 128 := by
  obtain ⟨h1, h2⟩ := Bool.and_eq_true_iff.mp h
  have h3 : ¬ (("z" : PySem.Str).cps.toList < [c]) := fun e => by rw [decide_eq_true e] at h2; cases h2
  have e : ("z" : PySem.Str).cps.toList = [122] := by decide +kernel
  rw [e] at h3
  have : ¬ (122 : Nat) < c := fun e => h3 (List.Lex.rel e)
  omega
theorem name_low (l : List Nat) (h : l ≠ []) : ((l.all fun c => decide (c < 128)) && ((l.all Unicode.isAlpha) && (l.any Unicode.isLower && !(l.any fun c => Unicode.isUpper c || Unicode.isTitle c)))) = lowB l := by
  rw [Bool.eq_iff_iff]
  unfold lowB
  simp only [Bool.and_eq_true, List.all_eq_true, List.any_eq_true, decide_eq_true_eq, Bool.not_eq_true', List.any_eq_false]
  constructor
  · rintro ⟨h1, h2, h3, h4⟩ c hc
    obtain ⟨a1, a2, a3⟩ := asc c (h1 c hc)
    have e := h2 c hc
    rw [a1] at e
    have e4 : (Unicode.isUpper c || Unicode.isTitle c) = false := by simpa using h4 c hc
    rw [e4, Bool.or_false, a2] at e
    simpa using e
  · intro h1
    have key : ∀ c ∈ l, c < 128 ∧ Unicode.isLower c = true := fun c hc => by
      have q : (!decide ([c] < ("a" : PySem.Str).cps.toList) && !decide (("z" : PySem.Str).cps.toList < [c])) = true := by simpa using h1 c hc
      have lt := low_asc q
      exact ⟨lt, by rw [(asc c lt).2.1]; exact q⟩
    refine ⟨fun c hc => (key c hc).1, fun c hc => ?_, ?_, fun c hc => ?_⟩
    · rw [(asc c (key c hc).1).1, (key c hc).2]; rfl
    · cases l with
      | nil => exact absurd rfl h
      | cons c r => exact ⟨c, List.mem_cons_self, (key c List.mem_cons_self).2⟩
    · have q := (asc c (key c hc).1).2.2
      rw [(key c hc).2, Bool.true_and] at q
      simp [q]
theorem txt_name (z : PySem.Str) (h : 1 ≤ z.length) : (Txt.isascii z && (Txt.isalpha z && Txt.islower z)) = lowB z.cps.toList := by
  have hl : z.length = z.cps.toList.length := by simp [PySem.Str.length]
  have ne : z.cps.toList ≠ [] := fun e => by rw [hl, e] at h; simp at h
  rw [← name_low _ ne]
  unfold Txt.isascii Txt.isalpha Txt.islower
  rw [decide_eq_true (show z.length > 0 by omega), Bool.true_and]
  simp only [← Array.all_toList, ← Array.any_toList]
theorem tyb_str {K : PySem.W.Frag} {H : Hp} {x : V} {T : String} (t : TyB K H x T) : (T = "str" ∧ ∃ z, x = .str z) ∨ (T ≠ "str" ∧ nameB x = false) := by
  cases t with
  | str z => exact .inl ⟨rfl, z, rfl⟩
  | _ => exact .inr ⟨by decide, rfl⟩
theorem ok_name (F : FnP K "is_name" sName f fd) (m2 : mg "type" = none) (m3 : mg "str" = none) (m4 : mg "len" = none) (m5 : ∃ t, mg "LONGEST_NAME" = some (.int 8 t)) : FnOk P w K mg base CX0 2 f fd ["thing"] (spName K) := by
  obtain ⟨t5, m5⟩ := m5
  refine F.ok (k := 1) scName (fun vs H Q E h => ?_) (fun cdv A outer s H vs Q E hr h => ?_)
  · obtain ⟨x, T, rfl, _⟩ := h
    rfl
  · obtain ⟨x, T, rfl, hT, hz, q⟩ := h
    refine ⟨_, PSs.nox (pss_cons (ps_if (PW.pt (pw_or (pt_cmpR op_notTyB (pe_callTy call_type1 (by rfl) m2 (by decide +kernel) (pa_cons (pv 0) pa_nil)) (pe_bltn (v := .ty "str") (by rfl) m3 (by decide +kernel) rfl) (nomark _))
        (pw_or1 (pt_not (pt_chain op_le op_le pe_int (pe_callB call_len_str (by rfl) m4 PySem.boot_len (pa_cons (pv 0) pa_nil)) (pe_glob (v := .int 8) (by rfl) m5 ⟨_, rfl⟩)))))) (pss_one (ps_ret pe_bl)) pss_nil)
      (pss_one (ps_ret (pe_and (pe_m0 PySem.F.slot_str_isascii PySem.F.type_str_isascii mt_isascii (pv 0)) (pe_and (pe_m0 PySem.F.slot_str_isalpha PySem.F.type_str_isalpha mt_isalpha (pv 0)) (pe_one (pe_m0 PySem.F.slot_str_islower PySem.F.type_str_islower mt_islower (pv 0)))))))), ?_⟩
    refine ⟨x, rfl, x, T, rfl, hT, T, "str", rfl, rfl, _, rfl, ?_⟩
    rcases tyb_str hT with ⟨rfl, z, rfl⟩ | ⟨hn, hw⟩
    · rw [decide_eq_true rfl]
      refine iteF ⟨.str z, rfl, z, rfl, hz z rfl, 1, (z.length : Int), rfl, rfl, _, rfl, ?_⟩
      have bad : (decide (1 ≤ z.length) && decide (z.length ≤ 8)) = false → Q (.bl false) H := fun e => by
        have e2 := q H Kept.refl
        unfold nameB at e2
        dsimp only at e2
        rw [e] at e2
        exact e2
      by_cases h1 : 1 ≤ z.length
      · rw [decide_eq_true (show (1 : Int) ≤ (z.length : Int) by omega)]
        refine iteT ⟨(z.length : Int), 8, rfl, rfl, _, rfl, ?_⟩
        by_cases h2 : z.length ≤ 8
        · rw [decide_eq_true (show (z.length : Int) ≤ 8 by omega)]
          refine iteF ?_
          have all : Q (.bl (Txt.isascii z && (Txt.isalpha z && Txt.islower z))) H := by
            have e := q H Kept.refl
            unfold nameB at e
            dsimp only at e
            rw [decide_eq_true h1, decide_eq_true h2] at e
            rw [txt_name z h1]
            exact e
          refine ⟨.str z, rfl, ⟨z, rfl⟩, z, rfl, rfl, trivial, _, rfl, ?_⟩
          cases e1 : Txt.isascii z with
          | false => rw [e1] at all; exact iteF all
          | true =>
            rw [e1] at all
            refine iteT ⟨.str z, rfl, ⟨z, rfl⟩, z, rfl, rfl, trivial, _, rfl, ?_⟩
            cases e2 : Txt.isalpha z with
            | false => rw [e2] at all; exact iteF all
            | true =>
              rw [e2] at all
              exact iteT ⟨.str z, rfl, ⟨z, rfl⟩, z, rfl, rfl, trivial, all⟩
        · rw [decide_eq_false (show ¬ (z.length : Int) ≤ 8 by omega)]
          refine iteT ?_
          exact bad (by rw [decide_eq_false h2, Bool.and_false])
      · rw [decide_eq_false (show ¬ (1 : Int) ≤ (z.length : Int) by omega)]
        refine iteF ⟨_, rfl, iteT ?_⟩
        exact bad (by rw [decide_eq_false h1, Bool.false_and])
    · rw [decide_eq_false hn]
      refine iteT ?_
      have e := q H Kept.refl
      rw [hw] at e
      exact e
end
end K1

set_option Elab.async false
set_option linter.all false
set_option maxRecDepth 100000
set_option maxHeartbeats 2000000
namespace K1
open PySem PySem.Spec PyProof.Rows L2
/-! ### number_in -/
theorem lt1 (c d : Nat) : ([c] < [d]) ↔ c < d := by
  rw [List.cons_lt_cons_iff]
  simp
theorem figB_iff (l : List Nat) : figB l = true ↔ NumText.AllDigits l := by
  unfold figB NumText.AllDigits
  rw [List.all_eq_true]
  have e0 : ("0" : PySem.Str).cps.toList = [48] := by decide +kernel
  have e9 : ("9" : PySem.Str).cps.toList = [57] := by decide +kernel
  rw [e0, e9]
  constructor
  · intro h c hc
    have q := h c hc
    simp only [Bool.and_eq_true, Bool.not_eq_true', decide_eq_false_iff_not, lt1] at q
    omega
  · intro h c hc
    have q := h c hc
    simp only [Bool.and_eq_true, Bool.not_eq_true', decide_eq_false_iff_not, lt1]
    omega
/-- the figures of a word -/
def fig (l : List Nat) : List Nat := if l.head? = some 45 then l.tail else l
theorem minus_eq : ("-" : PySem.Str) = mkS [45] := by decide +kernel
theorem affix_none (x : PySem.Str) : Txt.affix x Option.none = x := by unfold Txt.affix; rfl
theorem prefix_fig (z : PySem.Str) : Txt.removeprefix z ("-" : PySem.Str) = mkS (fig z.cps.toList) := by
  rw [minus_eq]
  unfold Txt.removeprefix fig
  have e : (mkS [45]).length = 1 := rfl
  have hs : Builtin.Str.subAt z (mkS [45]) 0 = true ↔ z.cps.toList.head? = some 45 := by
    have q := sub1 z 45 0
    have e2 : (⟨#[45]⟩ : PySem.Str).length = 1 := rfl
    rw [show z.cps.toList.head? = z.cps.toList[0]? by cases z.cps.toList <;> rfl]
    show Builtin.Str.subAt z ⟨#[45]⟩ 0 = true ↔ _
    constructor
    · intro h
      by_cases h1 : 0 + (⟨#[45]⟩ : PySem.Str).length ≤ z.length
      · exact q.mp ⟨h1, h⟩
      · exfalso
        have hz : z.cps.toList = [] := List.eq_nil_of_length_eq_zero (by rw [← len_list]; omega)
        rw [StrLaws.subAt_eq, hz] at h
        revert h
        decide
    · intro h
      exact (q.mpr h).2
  by_cases h : z.cps.toList.head? = some 45
  · rw [if_pos (hs.mpr h), if_pos h]
    have hc : ∃ r, z.cps.toList = 45 :: r := by
      cases q : z.cps.toList with
      | nil => rw [q] at h; cases h
      | cons a r => rw [q] at h; exact ⟨r, by rw [Option.some.inj h]⟩
    obtain ⟨r, hr⟩ := hc
    have hl := len_list z
    rw [hr, List.length_cons] at hl
    show (if (z.length - (mkS [45]).length == z.length) = true then z else Builtin.Str.strSub z (mkS [45]).length z.length) = _
    rw [e, if_neg (by rw [beq_iff_eq]; omega), sub_mk, hr]
    show mkS ((List.drop 1 (45 :: r)).take (z.length - 1)) = mkS r
    rw [hl, List.drop_one, List.tail_cons, Nat.add_sub_cancel, List.take_length]
  · rw [if_neg (fun q => h (hs.mp q)), if_neg h, affix_none, mkS_of]
def numOk (l : List Nat) : Bool := ((decide (1 ≤ (fig l).length) && decide ((fig l).length ≤ 4)) && figB (fig l)) && !(decide ((fig l).head? = some 48) && !decide (l = [48]))
def numI (l : List Nat) : Int := if l.head? = some 45 then -((NumText.digitsVal (fig l) : Nat) : Int) else ((NumText.digitsVal (fig l) : Nat) : Int)
def numV (l : List Nat) : V := if numOk l = true then .int (numI l) else .non
theorem num_read {z : PySem.Str} (h : numOk z.cps.toList = true) : intText? z = some (numI z.cps.toList) ∧ z.length ≤ 640 := by
  unfold numOk at h
  simp only [Bool.and_eq_true, decide_eq_true_eq] at h
  obtain ⟨⟨⟨h1, h2⟩, h3⟩, _⟩ := h
  have ad := (figB_iff _).mp h3
  have hz := len_list z
  unfold numI
  by_cases hm : z.cps.toList.head? = some 45
  · rw [if_pos hm]
    have e : z.cps.toList = 45 :: fig z.cps.toList := by
      unfold fig
      rw [if_pos hm]
      cases q : z.cps.toList with
      | nil => rw [q] at hm; cases hm
      | cons a r => rw [q] at hm; rw [Option.some.inj hm]; rfl
    have hl : z.length = (fig z.cps.toList).length + 1 := by rw [hz]; conv => lhs; rw [e]; rw [List.length_cons]
    exact ⟨intText_neg e ad (fun q => by rw [q] at h1; exact absurd h1 (by decide)) (by omega), by omega⟩
  · rw [if_neg hm]
    have e : fig z.cps.toList = z.cps.toList := by unfold fig; rw [if_neg hm]
    rw [e] at ad h1 h2 ⊢
    exact ⟨intText_digits ad (fun q => by rw [q] at h1; exact absurd h1 (by decide)) (by omega), by omega⟩
def spNum (P : Addr) : Sp := fun vs H Q _ => ∃ z : PySem.Str, vs = [.str z] ∧ z.length ≤ sizeLine ∧ GxR.TabG H P ∧ ∀ H', Kept None H H' → Q (numV z.cps.toList) H'
section
variable {P : Program} {w : World} {K : PySem.W.Frag} {mg : PySem.Str → Option Value} {base : Heap} {f fF : Addr} {fd fdF : FuncData}
theorem ascd : ∀ c, c < 128 → Unicode.isDigit c = (!decide ([c] < ("0" : PySem.Str).cps.toList) && !decide (("9" : PySem.Str).cps.toList < [c])) := by decide +kernel
theorem fig_asc {c : Nat} (h : (!decide ([c] < ("0" : PySem.Str).cps.toList) && !decide (("9" : PySem.Str).cps.toList < [c])) = true) : c < 128 := by
  have e9 : ("9" : PySem.Str).cps.toList = [57] := by decide +kernel
  rw [e9] at h
  simp only [Bool.and_eq_true, Bool.not_eq_true', decide_eq_false_iff_not, lt1] at h
  omega
theorem txt_fig (l : List Nat) (h : l ≠ []) : (Txt.isascii (mkS l) && Txt.isdigit (mkS l)) = figB l := by
  have hl : (mkS l).length = l.length := mkS_len l
  have e0 : 0 < l.length := List.length_pos_iff.mpr h
  unfold Txt.isascii Txt.isdigit
  rw [decide_eq_true (show (mkS l).length > 0 by omega), Bool.true_and]
  simp only [← Array.all_toList]
  rw [mkS_list, Bool.eq_iff_iff]
  unfold figB
  simp only [Bool.and_eq_true, List.all_eq_true, decide_eq_true_eq]
  constructor
  · rintro ⟨h1, h2⟩ c hc
    have q := h2 c hc
    rw [ascd c (h1 c hc)] at q
    simpa using q
  · intro h1
    have key : ∀ c ∈ l, c < 128 ∧ Unicode.isDigit c = true := fun c hc => by
      have q : (!decide ([c] < ("0" : PySem.Str).cps.toList) && !decide (("9" : PySem.Str).cps.toList < [c])) = true := by simpa using h1 c hc
      have lt := fig_asc q
      exact ⟨lt, by rw [ascd c lt]; exact q⟩
    exact ⟨fun c hc => (key c hc).1, fun c hc => (key c hc).2⟩
theorem zero_list : ("0" : PySem.Str) = mkS [48] := by decide +kernel
theorem ok_num (F : FnP K "number_in" sNum f fd) {Pt : Addr}
    (m1 : mg "len" = none) (m2 : mg "int" = none) (m3 : ∃ t, mg "MOST_FIGURES" = some (.int 4 t)) : FnOk P w K mg base CX0 3 f fd ["word"] (spNum Pt) := by
  obtain ⟨t3, m3⟩ := m3
  refine F.ok (k := 2) scNum (fun vs H Q E h => ?_) (fun cdv A outer s H vs Q E hr h => ?_)
  · obtain ⟨z, rfl, _⟩ := h
    rfl
  · obtain ⟨z, rfl, hz, ht, q⟩ := h
    refine ⟨_, PSs.nox (pss_cons (ps_set (i := 1) scNum.nd rfl (Or.inl rfl) (pe_m1 PySem.F.slot_str_removeprefix PySem.F.type_str_removeprefix mt_removeprefix (pv 0) pe_str))
      (pss_cons (ps_if (pt_not (pt_chain op_le op_le pe_int (pe_callB call_len_str (by rfl) m1 PySem.boot_len (pa_cons (pv 1) pa_nil)) (pe_glob (v := .int 4) (by rfl) m3 ⟨_, rfl⟩))) (pss_one (ps_ret pe_non)) pss_nil)
      (pss_cons (ps_if (PW.pt (pw_or (pt_not (pt_val (pe_m0 PySem.F.slot_str_isascii PySem.F.type_str_isascii mt_isascii (pv 1)))) (pw_or1 (pt_not (pt_val (pe_m0 PySem.F.slot_str_isdigit PySem.F.type_str_isdigit mt_isdigit (pv 1))))))) (pss_one (ps_ret pe_non)) pss_nil)
      (pss_cons (ps_if (PW.pt (pw_and (pt_cmpR op_eq (pe_ix ix_str (pv 1) pe_int (fun _ _ => rfl)) pe_str (nomark _)) (pw_and1 (pt_cmpR op_ne (pv 0) pe_str (nomark _))))) (pss_one (ps_ret pe_non)) pss_nil)
      (pss_one (ps_ret (pe_callTy call_int_str (by rfl) m2 (by decide +kernel) (pa_cons (pv 0) pa_nil)))))))), ?_⟩
    have hfl : (mkS (fig z.cps.toList)).length = (fig z.cps.toList).length := mkS_len _
    have hfz : (fig z.cps.toList).length ≤ z.length := by
      rw [len_list]; unfold fig; split
      · rw [List.length_tail]; omega
      · exact Nat.le_refl _
    have bad : ∀ H', Kept None H H' → numOk z.cps.toList = false → Q .non H' := fun H' kp e => by
      have e2 := q H' kp
      unfold numV at e2
      rw [e] at e2
      exact e2
    refine ⟨.str z, rfl, ⟨z, rfl⟩, z, "-", rfl, rfl, hz, ?_⟩
    rw [prefix_fig]
    refine ⟨.str (mkS (fig z.cps.toList)), rfl, mkS (fig z.cps.toList), rfl, (by rw [hfl]; omega), 1, ((mkS (fig z.cps.toList)).length : Int), rfl, rfl, _, rfl, ?_⟩
    rw [hfl]
    by_cases h1 : 1 ≤ (fig z.cps.toList).length
    · rw [decide_eq_true (show (1 : Int) ≤ ((fig z.cps.toList).length : Int) by omega)]
      refine iteT ⟨((fig z.cps.toList).length : Int), 4, rfl, rfl, _, rfl, ?_⟩
      by_cases h2 : (fig z.cps.toList).length ≤ 4
      · rw [decide_eq_true (show ((fig z.cps.toList).length : Int) ≤ 4 by omega)]
        refine iteF ?_
        have k1 : Kept None H H := Kept.refl
        have hd := txt_fig (fig z.cps.toList) (fun q => by rw [q] at h1; exact absurd h1 (by decide))
        have no : figB (fig z.cps.toList) = false → numOk z.cps.toList = false := fun h3 => by unfold numOk; rw [h3, Bool.and_false, Bool.false_and]
        refine ⟨.str (mkS (fig z.cps.toList)), rfl, ⟨_, rfl⟩, mkS (fig z.cps.toList), rfl, rfl, trivial, _, rfl, ?_⟩
        cases h3a : Txt.isascii (mkS (fig z.cps.toList)) with
        | false =>
          rw [h3a, Bool.false_and] at hd
          exact iteT (bad H k1 (no hd.symm))
        | true =>
        refine iteF ⟨.str (mkS (fig z.cps.toList)), rfl, ⟨_, rfl⟩, mkS (fig z.cps.toList), rfl, rfl, trivial, _, rfl, ?_⟩
        cases h3b : Txt.isdigit (mkS (fig z.cps.toList)) with
        | false =>
          rw [h3b, Bool.and_false] at hd
          exact iteT (bad H k1 (no hd.symm))
        | true =>
          rw [h3a, h3b] at hd
          have h3 : figB (fig z.cps.toList) = true := hd.symm
          refine iteF ?_
          obtain ⟨c, r, hcr⟩ : ∃ c r, fig z.cps.toList = c :: r := by
            cases e : fig z.cps.toList with
            | nil => rw [e] at h1; exact absurd h1 (by decide)
            | cons c r => exact ⟨c, r, rfl⟩
          refine ⟨.str (mkS (fig z.cps.toList)), rfl, mkS (fig z.cps.toList), 0, c, rfl, rfl, (by rw [hfl]; omega), ?_, rfl, _, rfl, ?_⟩
          · rw [mkS_list, hcr]; exact atI_nat (j := 0) rfl
          · have ec : decide (V.str (⟨#[c]⟩ : PySem.Str) = V.str ("0" : PySem.Str)) = decide (c = 48) := by
              refine decide_eq_decide.mpr ?_
              rw [zero_list]
              constructor
              · intro h
                have e := mkS_inj (a := [c]) (V.str.inj h)
                exact (List.cons.inj e).1
              · intro h; subst h; rfl
            have ez : decide (V.str z = V.str ("0" : PySem.Str)) = decide (z.cps.toList = [48]) := by
              refine decide_eq_decide.mpr ?_
              rw [zero_list]
              constructor
              · intro h; rw [V.str.inj h, mkS_list]
              · intro h; rw [← mkS_of z, h]
            have hh : (fig z.cps.toList).head? = some c := by rw [hcr]; rfl
            have fin : numOk z.cps.toList = true → ∃ a n, [V.str z] = [V.str a] ∧ intText? a = some n ∧ a.length ≤ 640 ∧ Q (V.int n) H := fun e => by
              obtain ⟨e1, e2⟩ := num_read e
              refine ⟨z, _, rfl, e1, e2, ?_⟩
              have e3 := q H k1
              unfold numV at e3
              rw [if_pos e] at e3
              exact e3
            have hok : numOk z.cps.toList = !(decide (c = 48) && !decide (z.cps.toList = [48])) := by
              unfold numOk
              rw [decide_eq_true h1, decide_eq_true h2, h3, hh]
              have : decide (some c = some 48) = decide (c = 48) := decide_eq_decide.mpr ⟨fun h => Option.some.inj h, fun h => by rw [h]⟩
              rw [this]
              rfl
            rw [ec]
            cases hc : decide (c = 48) with
            | false =>
              refine iteF (iteF ⟨.str z, rfl, ?_⟩)
              exact fin (by rw [hok, hc]; rfl)
            | true =>
              refine iteT ⟨.str z, rfl, rfl, _, rfl, ?_⟩
              rw [ez]
              cases hzz : decide (z.cps.toList = [48]) with
              | false =>
                refine iteT ?_
                exact bad H k1 (by rw [hok, hc, hzz]; rfl)
              | true =>
                refine iteF ⟨.str z, rfl, ?_⟩
                exact fin (by rw [hok, hc, hzz]; rfl)
      · rw [decide_eq_false (show ¬ ((fig z.cps.toList).length : Int) ≤ 4 by omega)]
        refine iteT ?_
        exact bad H Kept.refl (by unfold numOk; rw [decide_eq_false h2, Bool.and_false, Bool.false_and, Bool.false_and])
    · rw [decide_eq_false (show ¬ (1 : Int) ≤ ((fig z.cps.toList).length : Int) by omega)]
      refine iteF ⟨_, rfl, iteT ?_⟩
      exact bad H Kept.refl (by unfold numOk; rw [decide_eq_false h1, Bool.false_and, Bool.false_and, Bool.false_and])
end
end K1

set_option Elab.async false
set_option linter.all false
set_option maxRecDepth 100000
set_option maxHeartbeats 2000000
namespace K1
open PySem PySem.Spec PyProof.Rows L2
/-! ### rows of words -/
def wv (w : List Nat) : V := .str (mkS w)
theorem words_len (l : List Nat) : (words l).length ≤ l.length + 1 := Nat.le_trans (List.length_filter_le _ _) (parts_len 32 l)
theorem sp_eq : (" " : PySem.Str) = ⟨#[32]⟩ := by decide +kernel
theorem nl_eq : ("\n" : PySem.Str) = ⟨#[10]⟩ := by decide +kernel
theorem split_sp (z : PySem.Str) : (Txt.split z (" " : PySem.Str)).map V.str = (parts 32 z.cps.toList).map wv := by
  rw [sp_eq, split_parts z 32 (by decide), List.map_map]; rfl
theorem split_nl (z : PySem.Str) : (Txt.split z ("\n" : PySem.Str)).map V.str = (parts 10 z.cps.toList).map wv := by
  rw [nl_eq, split_parts z 10 (by decide), List.map_map]; rfl
theorem take_map {α β : Type} (f : α → β) (l : List α) (i : Nat) (x : α) (h : l[i]? = some x) : (l.take (i + 1)).map f = (l.take i).map f ++ [f x] := by
  rw [List.take_add_one, h, List.map_append]; rfl
theorem take_filter {α : Type} (p : α → Bool) (l : List α) (i : Nat) (x : α) (h : l[i]? = some x) : (l.take (i + 1)).filter p = (l.take i).filter p ++ (if p x = true then [x] else []) := by
  rw [List.take_add_one, h, List.filter_append]
  show _ ++ List.filter p [x] = _
  cases e : p x <;> simp [e]
/-- a name's truth -/
def tTrV (K : PySem.W.Frag) (i : Nat) : TT := fun σ H Q => tVar i σ H fun x H' => ∃ k, TruV K x H' k ∧ Q k H'
def partsE (l : List Nat) : List (List Nat) := if l = [] then [] else parts 32 l
theorem partsE_words (l : List Nat) : (partsE l).filter ne0 = words l := by
  unfold partsE words
  by_cases h : l = []
  · rw [if_pos h, h]; rfl
  · rw [if_neg h]
theorem partsE_len (l : List Nat) : (partsE l).length ≤ l.length + 1 := by
  unfold partsE
  by_cases h : l = []
  · rw [if_pos h]; exact Nat.zero_le _
  · rw [if_neg h]; exact parts_len 32 l
theorem empty_eq : ("" : PySem.Str) = mkS [] := by decide +kernel
theorem inV_ws : ∀ ws : List (List Nat), inV (.str ("" : PySem.Str)) (ws.map wv) = decide ([] ∈ ws)
  | [] => rfl
  | y :: r => by
    have ih := inV_ws r
    unfold inV at ih ⊢
    rw [List.map_cons, List.any_cons, ih, empty_eq]
    cases y with
    | nil => simp [wv, eqV]
    | cons c d =>
      have h2 : ¬ (mkS (c :: d) = mkS []) := fun z => by cases mkS_inj z
      simp [eqV, wv, h2]
theorem flat_ws : ∀ ws : List (List Nat), (ws.map wv).all flatV = true
  | [] => rfl
  | _ :: r => flat_ws r
theorem filter_all : ∀ ws : List (List Nat), ¬ [] ∈ ws → ws.filter ne0 = ws
  | [], _ => rfl
  | [] :: r, h => absurd List.mem_cons_self h
  | (c :: d) :: r, h => by
    rw [List.filter_cons_of_pos rfl, filter_all r fun z => h (List.mem_cons_of_mem _ z)]
/-! #### rows_of -/
/-- at p stands a list of lists of words -/
def RowsAt (H0 H : Hp) (p : Addr) (rs : List (List (List Nat))) : Prop := ∃ as : List Addr, H p = some (.lst (as.map V.ref)) ∧ as.length = rs.length ∧ ∀ (i : Nat) (a : Addr) (r : List (List Nat)), as[i]? = some a → rs[i]? = some r → H a = some (.lst (r.map wv)) ∧ H0 a = none
theorem rows_len (l : List Nat) : (rows l).length ≤ l.length + 1 := by unfold rows; rw [List.length_map]; exact parts_len 10 l
def spRows : Sp := fun vs H Q _ => ∃ z : PySem.Str, vs = [.str z] ∧ z.length ≤ 1000000 ∧ ∀ p H', H p = none → Kept None H H' → RowsAt H H' p (rows z.cps.toList) → Q (.ref p) H'
/-- the rows that are made so far -/
structure Ra (H0 H' : Hp) (F : Addr) (ls : List (List Nat)) (as : List Addr) : Prop where
  k : Kept None H0 H'
  nF : H0 F = none
  f : H' F = some (.lst (as.map V.ref))
  len : as.length = ls.length
  old : ∀ (j : Nat) (a : Addr) (l : List Nat), as[j]? = some a → ls[j]? = some l → H' a = some (.lst ((words l).map wv)) ∧ a ≠ F ∧ H0 a = none
theorem Ra.stay {H0 H' H2 : Hp} {F : Addr} {ls : List (List Nat)} {as : List Addr} (p : Ra H0 H' F ls as) (k : Kept None H' H2) : Ra H0 H2 F ls as :=
  ⟨p.k.trans k, p.nF, k.lst p.f (fun z => z), p.len, fun j a l e1 e2 => let ⟨h1, h2, h3⟩ := p.old j a l e1 e2; ⟨k.lst h1 (fun z => z), h2, h3⟩⟩
theorem Ra.more {H0 H' : Hp} {F : Addr} {ls : List (List Nat)} {as : List Addr} (p : Ra H0 H' F ls as) {a : Addr} {l : List Nat} (ha : H' a = some (.lst ((words l).map wv))) (n : a ≠ F) (n0 : H0 a = none) : Ra H0 (upd H' F (.lst (as.map V.ref ++ [.ref a]))) F (ls ++ [l]) (as ++ [a]) := by
  refine ⟨fun b o e z => ?_, p.nF, by rw [upd_same, List.map_append]; rfl, by rw [List.length_append, List.length_append, p.len]; rfl, fun j b m e1 e2 => ?_⟩
  · rw [upd_ne (ne_of_none e p.nF)]
    exact p.k b o e z
  · by_cases hj : j < as.length
    · rw [List.getElem?_append_left hj] at e1
      rw [List.getElem?_append_left (by rw [← p.len]; exact hj)] at e2
      obtain ⟨f1, f2, f3⟩ := p.old j b m e1 e2
      exact ⟨by rw [upd_ne f2]; exact f1, f2, f3⟩
    · have hj2 : j = as.length := by
        have := (List.getElem?_eq_some_iff.mp e1).1
        rw [List.length_append] at this
        simp only [List.length_cons, List.length_nil] at this
        omega
      subst hj2
      rw [List.getElem?_append_right (Nat.le_refl _), Nat.sub_self] at e1
      rw [p.len, List.getElem?_append_right (Nat.le_refl _), Nat.sub_self] at e2
      have eb : a = b := Option.some.inj e1
      have el : l = m := Option.some.inj e2
      subst eb
      subst el
      exact ⟨by rw [upd_ne n]; exact ha, n, n0⟩
section
variable {P : Program} {w : World} {K : PySem.W.Frag} {mg : PySem.Str → Option Value} {base : Heap} {f fW : Addr} {fd fdW : FuncData}
theorem ok_rows (F : FnP K "rows_of" sRows f fd) : FnOk P w K mg base CX0 2 f fd ["text"] spRows := by
  refine F.ok (k := 1) scRows (fun vs H Q E h => ?_) (fun cdv A outer s H vs Q E hr h => ?_)
  · obtain ⟨z, rfl, _⟩ := h
    rfl
  · obtain ⟨z, rfl, hz, q⟩ := h
    refine ⟨_, PSs.nox (pss_cons (ps_set (i := 1) scRows.nd rfl (Or.inl rfl) (pe_lst pa_nil))
      (pss_cons (ps_for PassesOwn.never rfl (pi_list (pe_split (pv 0) pe_str)) (pg_name (i := 2) scRows.nd rfl (Or.inl rfl))
        (pss_cons (ps_set (i := 3) scRows.nd rfl (Or.inl rfl) (pe_ifExp (pt_truth (pv 2) (by intro _; rfl)) (pe_split (pv 2) pe_str) (pe_lst pa_nil)))
        (pss_one (ps_expr (pe_bm PySem.F.plainAttrs_list PySem.F.slot_list_append PySem.F.type_list_append mt_append (pv 1) (pa_cons (pe_ifExp (pt_cmpR op_in_seq pe_str (pv 3) (by rfl))
          (pe_lc (own := [("word", 4)]) (g := gName 4) (tt := tTrV K 4) (te := tVar 4) rfl scRows.nd (pi_list (pv 3)) (blkOk_by (own := [("word", 4)]) (N := ["text", "found", "line", "words", "word"]) (sc := defScope sRows) (by decide +kernel))
            (fun _ _ _ _ _ => pg_name (i := 4) scRows.nd rfl (Or.inl rfl)) (fun _ _ _ _ _ => pts_one (by exact (pt_truth (pv 4) (by intro _; rfl)))) (fun _ _ _ _ _ => pv 4)) (pv 3)) pa_nil))))))
      (pss_one (ps_ret (pv 1))))), ?_⟩
    have hsz := sizeLine_eq
    have hzl := len_list z
    have hpl := parts_len 10 z.cps.toList
    refine ⟨by show 0 ≤ sizeLine; omega, fun F1 hF => ?_⟩
    refine ⟨.str z, rfl, ⟨z, rfl⟩, z, "\n", rfl, rfl, by decide +kernel, by omega, fun p hp => ?_⟩
    rw [split_nl]
    have pF : p ≠ F1 := fun e => by rw [e, upd_same] at hp; cases hp
    refine ⟨p, rfl, ⟨_, .inl (.inl upd_same)⟩, ?_⟩
    refine for_list (K := K) (a := p) (xs := (parts 10 z.cps.toList).map wv) (fun i σ H' => ∃ (x2 x3 x4 : Option V) (as : List Addr), σ = [some (.str z), some (.ref F1), x2, x3, x4] ∧ H' p = some (.lst ((parts 10 z.cps.toList).map wv)) ∧ Ra H H' F1 ((parts 10 z.cps.toList).take i) as)
      ⟨none, none, none, [], rfl, upd_same, ⟨(Kept.refl.new hF).trans (Kept.refl.new hp), hF, by rw [upd_ne (Ne.symm pF), upd_same]; rfl, rfl, fun j a l e => by simp at e⟩⟩ (fun i σ H' _ h => ?_) (fun i x σ H' hx h => ?_) (fun σ H' h => ?_)
    · obtain ⟨_, _, _, _, _, h, _⟩ := h
      exact .inl (.inl h)
    · rw [List.getElem?_map] at hx
      obtain ⟨u, hu, rfl⟩ := Option.map_eq_some_iff.mp hx
      obtain ⟨x2, x3, x4, as, rfl, hp', ra⟩ := h
      have hul : u.length ≤ z.length := by rw [hzl]; exact parts_mem_len 10 _ u (List.mem_of_getElem? hu)
      have ht : (parts 10 z.cps.toList).take (i + 1) = (parts 10 z.cps.toList).take i ++ [u] := by rw [List.take_add_one, hu]; rfl
      have asl : as.length ≤ z.length + 1 := by rw [ra.len, List.length_take]; omega
      refine ⟨wv u, rfl, _, ⟨by show (mkS u).length ≤ sizeLine; rw [mkS_len]; omega, rfl⟩, ?_⟩
      have ek : (((mkS u).length : Int) != 0) = ne0 u := by
        rw [mkS_len]; unfold ne0
        cases u with
        | nil => rfl
        | cons a r => simp; omega
      rw [ek, ht]
      cases hn : ne0 u with
      | false =>
        have u0 : u = [] := by cases u with | nil => rfl | cons a r => cases hn
        subst u0
        refine iteF ⟨by show 0 ≤ sizeLine; omega, fun a ha => ?_⟩
        have ra2 : Ra H (upd H' a (.lst [])) F1 ((parts 10 z.cps.toList).take i) as := ra.stay (Kept.refl.new ha)
        have aF : a ≠ F1 := fun e => by rw [e, ra.f] at ha; cases ha
        have pa : a ≠ p := fun e => by rw [e, hp'] at ha; cases ha
        have a0 : H a = none := ra.k.free ha
        refine ⟨.ref F1, rfl, .inl ⟨rfl, _, SqL.of ra2.f⟩, .ref a, rfl, a, [], rfl, .inl (SqL.of upd_same), rfl, rfl, _, rfl, ?_⟩
        refine iteF ⟨.ref a, rfl, F1, _, .ref a, rfl, rfl, ra2.f, by rw [List.length_map]; omega, ?_⟩
        exact ⟨_, _, _, as ++ [a], rfl, by rw [upd_ne pF, upd_ne pa.symm]; exact hp', ra2.more (by rw [upd_same]; rfl) aF a0⟩
      | true =>
        refine iteT ⟨wv u, rfl, ⟨_, rfl⟩, mkS u, " ", rfl, rfl, by decide +kernel, by rw [mkS_len]; omega, fun a ha => ?_⟩
        rw [split_sp, mkS_list]
        have hpu := parts_len 32 u
        have ra2 : Ra H (upd H' a (.lst ((parts 32 u).map wv))) F1 ((parts 10 z.cps.toList).take i) as := ra.stay (Kept.refl.new ha)
        have aF : a ≠ F1 := fun e => by rw [e, ra.f] at ha; cases ha
        have pa : a ≠ p := fun e => by rw [e, hp'] at ha; cases ha
        have a0 : H a = none := ra.k.free ha
        have hp2 : upd H' a (.lst ((parts 32 u).map wv)) p = some (.lst ((parts 10 z.cps.toList).map wv)) := by rw [upd_ne pa.symm]; exact hp'
        have e2 : upd H' a (.lst ((parts 32 u).map wv)) a = some (.lst ((parts 32 u).map wv)) := upd_same
        refine ⟨.ref F1, rfl, .inl ⟨rfl, _, SqL.of ra2.f⟩, .ref a, rfl, a, _, rfl, .inl (SqL.of e2), rfl, flat_ws _, _, rfl, ?_⟩
        rw [if_neg Bool.false_ne_true, inV_ws]
        generalize upd H' a (.lst ((parts 32 u).map wv)) = H2 at ra2 hp2 e2 ⊢
        cases hin : decide ([] ∈ parts 32 u) with
        | false =>
          have e := filter_all _ (of_decide_eq_false hin)
          refine iteF ⟨.ref a, rfl, F1, _, .ref a, rfl, rfl, ra2.f, by rw [List.length_map]; omega, ?_⟩
          exact ⟨_, _, _, as ++ [a], rfl, by rw [upd_ne pF]; exact hp2, ra2.more (by rw [e2]; unfold words; rw [e]) aF a0⟩
        | true =>
          refine iteT ⟨.ref a, rfl, a, rfl, ⟨_, SqL.of e2⟩, fun D hD => ?_⟩
          refine lc_list (K := K) (a := a) (xs := (parts 32 u).map wv) (fun i H' => Kept None H2 H' ∧ H' D = some (.lst ((((parts 32 u).take i).filter ne0).map wv)))
            ⟨Kept.refl.new hD, upd_same⟩ (fun i H' _ h => .inl (.inl (h.1.lst e2 (fun z => z)))) (fun i x H' hx h => ?_) (fun H' h => ?_)
          · rw [List.getElem?_map] at hx
            obtain ⟨v, hv, rfl⟩ := Option.map_eq_some_iff.mp hx
            obtain ⟨k1, k2⟩ := h
            have hvl : v.length ≤ u.length := parts_mem_len 32 _ v (List.mem_of_getElem? hv)
            refine ⟨rfl, wv v, rfl, _, ⟨by show (mkS v).length ≤ sizeLine; rw [mkS_len]; omega, rfl⟩, ?_⟩
            have ek : (((mkS v).length : Int) != 0) = ne0 v := by
              rw [mkS_len]; unfold ne0
              cases v with
              | nil => rfl
              | cons a r => simp; omega
            rw [ek]
            have tf := take_filter ne0 _ i v hv
            cases hn : ne0 v with
            | true =>
              rw [hn, if_pos rfl] at tf
              have hlen : ((((parts 32 u).take i).filter ne0).map wv).length ≤ z.length + 1 := by
                rw [List.length_map]
                refine Nat.le_trans (List.length_filter_le _ _) ?_
                rw [List.length_take]
                omega
              refine iteT ⟨wv v, rfl, _, k2, by omega, fun b o e n => ?_, ?_⟩
              · rw [upd_ne (ne_of_none e hD)]
                exact k1 b o e n
              · rw [upd_same, tf, List.map_append]
                rfl
            | false =>
              rw [hn, if_neg Bool.false_ne_true, List.append_nil] at tf
              refine iteF ⟨k1, ?_⟩
              rw [tf]
              exact k2
          · rw [List.length_map, List.take_length] at h
            obtain ⟨k1, k2⟩ := h
            have ra3 := ra2.stay k1
            have DF : D ≠ F1 := fun e => by rw [e, ra2.f] at hD; cases hD
            refine ⟨F1, _, .ref D, rfl, rfl, ra3.f, by rw [List.length_map]; omega, ?_⟩
            exact ⟨_, _, _, as ++ [D], rfl, by rw [upd_ne pF]; exact k1.lst hp2 (fun z => z), ra3.more k2 DF (ra2.k.free hD)⟩
    · obtain ⟨x2, x3, x4, as, rfl, hp', ra⟩ := h
      rw [List.length_map, List.take_length] at ra
      refine ⟨.ref F1, rfl, q F1 H' ra.nF ra.k ⟨as, ra.f, by rw [ra.len]; unfold rows; rw [List.length_map], fun i a r e1 e2 => ?_⟩⟩
      unfold rows at e2
      rw [List.getElem?_map] at e2
      obtain ⟨l, hl, rfl⟩ := Option.map_eq_some_iff.mp e2
      exact ⟨(ra.old i a l e1 hl).1, (ra.old i a l e1 hl).2.2⟩
end
end K1

set_option Elab.async false
set_option linter.all false
set_option maxRecDepth 100000
set_option maxHeartbeats 2000000
namespace K1
open PySem PySem.Spec PyProof.Rows L2
/-! ### the draws -/
abbrev sBegin : Stmt := top 8
abbrev sMixed : Stmt := top 9
abbrev sNext : Stmt := top 10
abbrev sSign : Stmt := top 11
theorem scBegin : FnScope ["script"] ["script"] (defScope sBegin) := ⟨rfl, rfl, rfl, by decide +kernel, rfl, by decide +kernel, by decide +kernel⟩
theorem scMixed : FnScope ["cell", "k", "number"] ["cell", "k"] (defScope sMixed) := ⟨rfl, rfl, rfl, by decide +kernel, rfl, by decide +kernel, by decide +kernel⟩
theorem scNext : FnScope ["draw", "many", "found", "cells", "cell"] ["draw", "many"] (defScope sNext) := ⟨rfl, rfl, rfl, by decide +kernel, rfl, by decide +kernel, by decide +kernel⟩
theorem scSign : FnScope ["draw", "signs"] ["draw"] (defScope sSign) := ⟨rfl, rfl, rfl, by decide +kernel, rfl, by decide +kernel, by decide +kernel⟩
/-- the draw's pairs -/
def drK (c : Addr) (a l u : Int) : List (Key × V) := [(.inr "cells", .ref c), (.inr "at", .int a), (.inr "left", .int l), (.inr "used", .int u)]
theorem kn {x y : PySem.Str} (h : ¬ x = y) : ¬ (Sum.inr x : Key) = Sum.inr y := fun e => h (Sum.inr.inj e)
theorem n1 : ¬ (("cells" : PySem.Str) = "at") := by decide +kernel
theorem n2 : ¬ (("cells" : PySem.Str) = "left") := by decide +kernel
theorem n3 : ¬ (("cells" : PySem.Str) = "used") := by decide +kernel
theorem n4 : ¬ (("at" : PySem.Str) = "left") := by decide +kernel
theorem n5 : ¬ (("at" : PySem.Str) = "used") := by decide +kernel
theorem n6 : ¬ (("left" : PySem.Str) = "used") := by decide +kernel
theorem g_cells (c : Addr) (a l u : Int) : valV (drK c a l u) (Sum.inr "cells" : Key) = some (.ref c) := valV_pos rfl
theorem g_at (c : Addr) (a l u : Int) : valV (drK c a l u) (Sum.inr "at" : Key) = some (.int a) := (valV_neg (kn n1)).trans (valV_pos rfl)
theorem g_left (c : Addr) (a l u : Int) : valV (drK c a l u) (Sum.inr "left" : Key) = some (.int l) := (valV_neg (kn n2)).trans ((valV_neg (kn n4)).trans (valV_pos rfl))
theorem g_used (c : Addr) (a l u : Int) : valV (drK c a l u) (Sum.inr "used" : Key) = some (.int u) := (valV_neg (kn n3)).trans ((valV_neg (kn n5)).trans ((valV_neg (kn n6)).trans (valV_pos rfl)))
theorem p_at (c : Addr) (a l u z : Int) : putK (drK c a l u) (Sum.inr "at" : Key) (.int z) = drK c z l u := by
  unfold putK
  rw [if_pos (by rw [valV_any, g_at]; rfl)]
  unfold drK
  simp only [List.map_cons, List.map_nil, if_neg (kn n1), if_pos rfl, if_neg (kn (fun e => n4 e.symm)), if_neg (kn (fun e => n5 e.symm))]
  rfl
theorem p_left (c : Addr) (a l u z : Int) : putK (drK c a l u) (Sum.inr "left" : Key) (.int z) = drK c a z u := by
  unfold putK
  rw [if_pos (by rw [valV_any, g_left]; rfl)]
  unfold drK
  simp only [List.map_cons, List.map_nil, if_neg (kn n2), if_pos rfl, if_neg (kn n4), if_neg (kn (fun e => n6 e.symm))]
  rfl
theorem p_used (c : Addr) (a l u z : Int) : putK (drK c a l u) (Sum.inr "used" : Key) (.int z) = drK c a l z := by
  unfold putK
  rw [if_pos (by rw [valV_any, g_used]; rfl)]
  unfold drK
  simp only [List.map_cons, List.map_nil, if_neg (kn n3), if_pos rfl, if_neg (kn n5), if_neg (kn n6)]
  rfl
/-- a draw at d, its cells at c, at most n numbers drawn -/
structure Dr (H : Hp) (d c : Addr) (ns : List Int) (n : Nat) : Prop where
  at_ : ∃ a l u : Int, H d = some (.dK (drK c a l u)) ∧ 0 ≤ a ∧ a ≤ (n : Int) ∧ 0 ≤ l ∧ 0 ≤ u ∧ u ≤ (n : Int)
  cs : H c = some (.lst (ns.map V.int))
  ne : 1 ≤ ns.length ∧ ns.length ≤ 64
theorem Dr.dc {H : Hp} {d c : Addr} {ns : List Int} {n : Nat} (D : Dr H d c ns n) : c ≠ d := by
  obtain ⟨a, l, u, h, _⟩ := D.at_
  exact ne_of D.cs h (by intro z; cases z)
/-- only the draw may change -/
abbrev At (d : Addr) : Addr → Prop := fun b => b = d
theorem Dr.stay {H H1 : Hp} {d c : Addr} {ns : List Int} {n : Nat} (D : Dr H d c ns n) (k : Kept None H H1) : Dr H1 d c ns n := by
  obtain ⟨a, l, u, h, r⟩ := D.at_
  exact ⟨⟨a, l, u, k.dK h (fun z => z), r⟩, k.lst D.cs (fun z => z), D.ne⟩
theorem Dr.more {H : Hp} {d c : Addr} {ns : List Int} {n m : Nat} (D : Dr H d c ns n) (h : n ≤ m) : Dr H d c ns m := by
  obtain ⟨a, l, u, e, h1, h2, h3, h4, h5⟩ := D.at_
  exact ⟨⟨a, l, u, e, h1, by omega, h3, h4, by omega⟩, D.cs, D.ne⟩
theorem Dr.new {H : Hp} {d c p : Addr} {o : HO} {ns : List Int} {n : Nat} (D : Dr H d c ns n) (h : H p = none) : Dr (upd H p o) d c ns n := D.stay (Kept.refl.new h)
/-- a new address is new for what stood ahead, too -/
theorem At.free {H H1 : Hp} {d c : Addr} {ns : List Int} {n : Nat} (k : Kept (At d) H H1) (D : Dr H1 d c ns n) {p : Addr} (h : H1 p = none) : H p = none := by
  cases e : H p with
  | none => rfl
  | some o =>
    have hp : ¬ p = d := fun z => by
      obtain ⟨a, l, u, q, _⟩ := D.at_
      rw [z, q] at h
      cases h
    obtain ⟨u, q⟩ := ko_some (k p o e hp)
    rw [h] at q
    cases q
def spBegin (K : PySem.W.Frag) : Sp := fun vs H Q _ => ∃ (a : Addr) (ns : List Int), vs = [.ref a] ∧ SqL K H a (ns.map V.int) ∧ ns.length ≤ 63 ∧ ∀ d c H', H d = none → Kept None H H' → Dr H' d c (ns ++ [0]) 0 → Q (.ref d) H'
def spMixed : Sp := fun vs H Q _ => ∃ (x k : Int), vs = [.int x, .int k] ∧ 0 ≤ k ∧ k ≤ 1152921504606846976 ∧ ∀ r : Int, 0 ≤ r → Q (.int r) H
def spNext : Sp := fun vs H Q _ => ∃ (d c : Addr) (ns : List Int) (n : Nat) (m : Int), vs = [.ref d, .int m] ∧ Dr H d c ns n ∧ n ≤ 1000000000 ∧ 1 ≤ m ∧ m < 1073741824 ∧ ∀ (r : Int) H', 0 ≤ r → r < m → Kept (At d) H H' → Dr H' d c ns (n + 1) → Q (.int r) H'
section
variable {P : Program} {w : World} {K : PySem.W.Frag} {mg : PySem.Str → Option Value} {base : Heap} {f fM fN : Addr} {fd fdM fdN : FuncData}
theorem ok_begin (F : FnP K "_law_begin" sBegin f fd) : FnOk P w K mg base CX0 1 f fd ["script"] (spBegin K) := by
  refine F.ok (k := 0) scBegin (fun vs H Q E h => ?_) (fun cdv A outer s H vs Q E hr h => ?_)
  · obtain ⟨a, ns, rfl, _⟩ := h
    rfl
  · obtain ⟨a, ns, rfl, hS, hl, q⟩ := h
    refine ⟨_, PSs.nox (pss_one (ps_ret (pe_disp (pps_cons pe_str (pe_op op_catR (pv 0) (pe_lst (pa_cons pe_int pa_nil))) (pps_cons pe_str pe_int (pps_cons pe_str pe_int (pps_cons pe_str pe_int pps_nil)))) (by rfl) (by rfl) (fun z => by cases z) (by decide)))), ?_⟩
    refine fun d hd => ⟨.ref a, rfl, by show 1 ≤ sizeLine; decide, fun b hb => ?_⟩
    have k1 : Kept None H (upd H d (.dK [])) := Kept.refl.new hd
    have k2 : Kept None (upd H d (.dK [])) (upd (upd H d (.dK [])) b (.lst [.int 0])) := Kept.refl.new hb
    refine ⟨a, b, ns.map V.int, [.int 0], rfl, rfl, (k1.trans k2).sql hS (fun z => z), upd_same, ?_, fun c hc => ?_⟩
    · rw [List.length_map, sizeLine_eq]
      simp only [List.length_cons, List.length_nil]
      omega
    · have hdb : d ≠ b := fun e => by
        rw [← e, upd_same] at hb
        cases hb
      have hdc : d ≠ c := fun e => by
        rw [← e, upd_ne hdb, upd_same] at hc
        cases hc
      have k3 : Kept None (upd (upd H d (.dK [])) b (.lst [.int 0])) (upd (upd (upd H d (.dK [])) b (.lst [.int 0])) c (.lst (ns.map V.int ++ [.int 0]))) := Kept.refl.new hc
      refine ⟨by rw [upd_ne hdc, upd_ne hdb, upd_same], drK c 0 0 0, rfl, by show 4 ≤ 15; decide, ?_⟩
      have em : mergeK [] (drK c 0 0 0) = drK c 0 0 0 := by
        unfold mergeK drK
        simp [putK, kn n1, kn n2, kn n3, kn n4, kn n5, kn n6, n1, n2, n3, n4, n5, n6]
      rw [em]
      refine q d c _ hd ?_ ⟨⟨0, 0, 0, upd_same, by omega, by omega, by omega, by omega, by omega⟩, ?_, by rw [List.length_append]; simp only [List.length_cons, List.length_nil]; omega⟩
      · intro x o e n
        have hx : x ≠ d := ne_of_none e hd
        rw [upd_ne hx]
        exact ((k1.trans k2).trans k3) x o e n
      · rw [upd_ne (Ne.symm hdc), upd_same, List.map_append]
        rfl
theorem ok_mixed (F : FnP K "_law_mixed" sMixed f fd) : FnOk P w K mg base CX0 1 f fd ["cell", "k"] spMixed := by
  refine F.ok (k := 0) scMixed (fun vs H Q E h => ?_) (fun cdv A outer s H vs Q E hr h => ?_)
  · obtain ⟨x, k, rfl, _⟩ := h
    rfl
  · obtain ⟨x, k, rfl, h0, h1, q⟩ := h
    refine ⟨_, PSs.nox (pss_cons (ps_set (i := 2) scMixed.nd rfl (Or.inl rfl) (pe_op op_mod (pe_op op_add (pe_op op_add (pe_op op_add (pe_op op_mod (pv 0) pe_int) (pe_op op_mul (pe_op op_mul pe_int (pv 1)) (pv 1))) (pe_op op_mul pe_int (pv 1))) pe_int) pe_int))
      (pss_cons (ps_set (i := 2) scMixed.nd rfl (Or.inl rfl) (pe_op op_mod (pe_op op_mul (pe_op op_mod (pe_op op_mul (pv 2) (pv 2)) pe_int) (pv 2)) pe_int))
      (pss_one (ps_ret (pe_op op_fdiv (pe_op op_mod (pe_op op_mul (pv 2) (pe_op op_add pe_int (pe_op op_mul pe_int (pe_op op_mod (pv 1) pe_int)))) pe_int) pe_int))))), ?_⟩
    refine ⟨.int x, rfl, x, 1000000007, rfl, rfl, (by show (0 : Int) < 1000000007; decide), .int k, rfl, 7919, k, rfl, rfl, .inl ⟨by decide, by decide⟩, .int k, rfl, _, k, rfl, rfl, .inr ⟨by omega, by omega⟩, _, _, rfl, rfl, .int k, rfl, 31, k, rfl, rfl, .inl ⟨by decide, by decide⟩, _, _, rfl, rfl, _, _, rfl, rfl, _, _, rfl, rfl, (by show (0 : Int) < 2147483647; decide), ?_⟩
    dsimp only
    generalize hy : (x % 1000000007 + 7919 * k * k + 31 * k + 7) % 2147483647 = y
    have y0 : 0 ≤ y := by rw [← hy]; exact Int.emod_nonneg _ (by decide)
    have y1 : y < 2147483647 := by rw [← hy]; exact Int.emod_lt_of_pos _ (by decide)
    refine ⟨.int y, rfl, .int y, rfl, y, y, rfl, rfl, .inl ⟨by omega, by omega⟩, _, _, rfl, rfl, (by show (0 : Int) < 2147483647; decide), .int y, rfl, _, y, rfl, rfl, .inr ⟨by omega, by omega⟩, _, _, rfl, rfl, (by show (0 : Int) < 2147483629; decide), ?_⟩
    dsimp only
    generalize hz : (y * y % 2147483647 * y) % 2147483629 = z
    have z0 : 0 ≤ z := by rw [← hz]; exact Int.emod_nonneg _ (by decide)
    have z1 : z < 2147483629 := by rw [← hz]; exact Int.emod_lt_of_pos _ (by decide)
    refine ⟨.int z, rfl, .int k, rfl, k, 1000, rfl, rfl, (by show (0 : Int) < 1000; decide), 2, _, rfl, rfl, .inl ⟨by decide, by decide⟩, _, _, rfl, rfl, z, _, rfl, rfl, .inl ⟨by omega, by omega⟩, _, _, rfl, rfl, (by show (0 : Int) < 2147483647; decide), _, _, rfl, rfl, ⟨by show (0 : Int) < 7; decide, by show (7 : Int) < 1073741824; decide⟩, ?_⟩
    exact q _ (Int.ediv_nonneg (Int.emod_nonneg _ (by decide)) (by decide))
end
end K1

set_option Elab.async false
set_option linter.all false
set_option maxRecDepth 100000
set_option maxHeartbeats 2000000
namespace K1
open PySem PySem.Spec PyProof.Rows L2
section
variable {H : Hp} {d c : Addr} {a l u z : Int}
theorem gd_cells (h : H d = some (.dK (drK c a l u))) : DGet H d (.str "cells") (some (.ref c)) := by rw [← g_cells c a l u]; exact DGet.k (k := Sum.inr "cells") h
theorem gd_at (h : H d = some (.dK (drK c a l u))) : DGet H d (.str "at") (some (.int a)) := by rw [← g_at c a l u]; exact DGet.k (k := Sum.inr "at") h
theorem gd_left (h : H d = some (.dK (drK c a l u))) : DGet H d (.str "left") (some (.int l)) := by rw [← g_left c a l u]; exact DGet.k (k := Sum.inr "left") h
theorem gd_used (h : H d = some (.dK (drK c a l u))) : DGet H d (.str "used") (some (.int u)) := by rw [← g_used c a l u]; exact DGet.k (k := Sum.inr "used") h
theorem four : (drK c a l u).length < sizeLine := by show 4 < sizeLine; decide
theorem pd_at (h : H d = some (.dK (drK c a l u))) : DPut H d (.str "at") (.int z) (upd H d (.dK (drK c z l u))) := by rw [← p_at c a l u z]; exact DPut.k (k := Sum.inr "at") h four
theorem pd_left (h : H d = some (.dK (drK c a l u))) : DPut H d (.str "left") (.int z) (upd H d (.dK (drK c a z u))) := by rw [← p_left c a l u z]; exact DPut.k (k := Sum.inr "left") h four
theorem pd_used (h : H d = some (.dK (drK c a l u))) : DPut H d (.str "used") (.int z) (upd H d (.dK (drK c a l z))) := by rw [← p_used c a l u z]; exact DPut.k (k := Sum.inr "used") h four
end
section
variable {P : Program} {w : World} {K : PySem.W.Frag} {mg : PySem.Str → Option Value} {base : Heap} {f fM fN : Addr} {fd fdM fdN : FuncData}
theorem ok_next (F : FnP K "_law_next" sNext f fd) (GM : FnOk P w K mg base CX0 1 fM fdM ["cell", "k"] spMixed) (bM : Binds K fdM ["cell", "k"] []) (kM : PySem.W.keepIn K (.ref fM) = true) (gM : mg "_law_mixed" = some (.ref fM)) (m1 : mg "len" = none) :
    FnOk P w K mg base CX0 2 f fd ["draw", "many"] spNext := by
  refine F.ok (k := 1) scNext (fun vs H Q E h => ?_) (fun cdv A outer s H vs Q E hr h => ?_)
  · obtain ⟨d, c, ns, n, m, rfl, _⟩ := h
    rfl
  · obtain ⟨d, c, ns, n, m, rfl, D, hn, m0, m1', q⟩ := h
    have hu := hu_of hr
    refine ⟨_, PSs.nox (pss_cons (ps_if (pt_cmpR op_gt (pe_dget hu (pv 0) pe_str (fun _ _ => rfl)) pe_int (nomark _))
        (pss_cons (ps_set (i := 2) scNext.nd rfl (Or.inl rfl) (pe_op op_mod (pe_dget hu (pv 0) pe_str (fun _ _ => rfl)) (pv 1)))
        (pss_cons (ps_dput hu (pv 0) pe_str (pe_op op_fdiv (pe_dget hu (pv 0) pe_str (fun _ _ => rfl)) (pv 1)) rfl)
        (pss_one (ps_ret (pv 2))))) pss_nil)
      (pss_cons (ps_set (i := 3) scNext.nd rfl (Or.inl rfl) (pe_dget hu (pv 0) pe_str (fun _ _ => rfl)))
      (pss_cons (ps_set (i := 4) scNext.nd rfl (Or.inl rfl) (pe_ix ix_list (pv 3) (pe_op op_mod (pe_dget hu (pv 0) pe_str (fun _ _ => rfl)) (pe_callB call_len_seq (by rfl) m1 PySem.boot_len (pa_cons (pv 3) pa_nil))) (fun _ _ => rfl)))
      (pss_cons (ps_dput hu (pv 0) pe_str (pe_op op_add (pe_dget hu (pv 0) pe_str (fun _ _ => rfl)) pe_int) rfl)
      (pss_cons (ps_if (PW.pt (pw_and (pt_cmpR op_ge (pv 4) (pe_op op_pow pe_int pe_int) (nomark _)) (pw_and1 (pt_cmpR op_le (pe_dget hu (pv 0) pe_str (fun _ _ => rfl)) (pe_callB call_len_seq (by rfl) m1 PySem.boot_len (pa_cons (pv 3) pa_nil)) (nomark _)))))
        (pss_cons (ps_dput hu (pv 0) pe_str (pe_op op_fdiv (pv 4) (pv 1)) rfl) (pss_one (ps_ret (pe_op op_mod (pv 4) (pv 1))))) pss_nil)
      (pss_cons (ps_dput hu (pv 0) pe_str (pe_op op_add (pe_dget hu (pv 0) pe_str (fun _ _ => rfl)) pe_int) rfl)
      (pss_one (ps_ret (pe_op op_mod (pe_call GM hr (by rfl) gM kM bM .nil pass0 (pa_cons (by exact (pe_call GM hr (by rfl) gM kM bM .nil pass0 (pa_cons (pv 4) (pa_cons (pe_dget hu (pv 0) pe_str (fun _ _ => rfl)) pa_nil)))) (pa_cons (pe_dget hu (pv 0) pe_str (fun _ _ => rfl)) pa_nil))) (pv 1)))))))))), ?_⟩
    obtain ⟨a, l, u, hd, a0, a1, l0, u0, u1⟩ := D.at_
    have dc := D.dc
    refine ⟨.ref d, rfl, d, .int l, rfl, gd_left hd, l, 0, rfl, rfl, _, rfl, ite2 (fun hl => ?_) (fun hl => ?_)⟩
    · have hl' : 0 < l := of_decide_eq_true hl
      refine ⟨.ref d, rfl, d, .int l, rfl, gd_left hd, .int m, rfl, l, m, rfl, rfl, (by show 0 < m; omega), ?_⟩
      refine ⟨.ref d, rfl, d, .int l, rfl, gd_left hd, .int m, rfl, l, m, rfl, rfl, ⟨by omega, by omega⟩, .ref d, rfl, d, _, rfl, pd_left hd, ?_⟩
      refine ⟨.int (l % m), rfl, ?_⟩
      refine q (l % m) _ (Int.emod_nonneg _ (by omega)) (Int.emod_lt_of_pos _ (by omega)) (Kept.refl.upd rfl) ⟨⟨a, l / m, u, upd_same, a0, by omega, Int.ediv_nonneg l0 (by omega), u0, by omega⟩, by rw [upd_ne dc]; exact D.cs, D.ne⟩
    · have hL : (ns.map V.int).length = ns.length := List.length_map ..
      obtain ⟨h1, h64⟩ := D.ne
      refine ⟨.ref d, rfl, d, .ref c, rfl, gd_cells hd, ?_⟩
      have j0 : 0 ≤ a % (ns.length : Int) := Int.emod_nonneg _ (by omega)
      have j1 : a % (ns.length : Int) < (ns.length : Int) := Int.emod_lt_of_pos _ (by omega)
      obtain ⟨j, hj⟩ : ∃ j : Nat, a % (ns.length : Int) = (j : Int) := ⟨(a % (ns.length : Int)).toNat, by omega⟩
      have hjl : j < ns.length := by omega
      have hat : atI (ns.map V.int) (a % (((ns.map V.int).length : Nat) : Int)) = some (.int ns[j]) := by
        rw [hL, hj]
        exact atI_nat (j := j) (by rw [List.getElem?_map, List.getElem?_eq_getElem hjl]; rfl)
      refine ⟨.ref c, rfl, .ref d, rfl, d, .int a, rfl, gd_at hd, .ref c, rfl, c, ns.map V.int, rfl, .inl (.inl (.inl D.cs)), a, _, rfl, rfl, (by rw [hL]; omega), c, ns.map V.int, _, .int ns[j], rfl, rfl, .inl (.inl D.cs), hat, ?_⟩
      refine ⟨.ref d, rfl, d, .int a, rfl, gd_at hd, a, 1, rfl, rfl, .ref d, rfl, d, _, rfl, pd_at hd, ?_⟩
      have hd1 : upd H d (.dK (drK c (a + 1) l u)) d = some (.dK (drK c (a + 1) l u)) := upd_same
      have hc1 : upd H d (.dK (drK c (a + 1) l u)) c = some (.lst (ns.map V.int)) := by rw [upd_ne dc]; exact D.cs
      have kk1 : Kept (At d) H (upd H d (.dK (drK c (a + 1) l u))) := Kept.refl.upd rfl
      generalize upd H d (.dK (drK c (a + 1) l u)) = H1 at hd1 hc1 kk1 ⊢
      -- the last way
      have last : tSeq (sDPut (tVar 0) (tC (.str "used")) (tOp (rI0 fun i j => .int (i + j)) (tDGet (tVar 0) (tC (.str "used"))) (tC (.int 1)))) (tRet (tOp (rI (fun _ j => 0 < j) fun i j => .int (i % j)) (tCall spMixed [] E0 (tCons (tCall spMixed [] E0 (tCons (tVar 4) (tCons (tDGet (tVar 0) (tC (.str "at"))) tNil))) (tCons (tDGet (tVar 0) (tC (.str "used"))) tNil))) (tVar 1)))
          { nx := fun _ H' => Q .non H', rt := Q } [some (.ref d), some (.int m), none, some (.ref c), some (.int ns[j])] H1 := by
        refine ⟨.ref d, rfl, d, .int u, rfl, gd_used hd1, u, 1, rfl, rfl, .ref d, rfl, d, _, rfl, pd_used hd1, ?_⟩
        have hd2 : upd H1 d (.dK (drK c (a + 1) l (u + 1))) d = some (.dK (drK c (a + 1) l (u + 1))) := upd_same
        have hc2 : upd H1 d (.dK (drK c (a + 1) l (u + 1))) c = some (.lst (ns.map V.int)) := by rw [upd_ne dc]; exact hc1
        have kk2 : Kept (At d) H (upd H1 d (.dK (drK c (a + 1) l (u + 1)))) := kk1.upd rfl
        generalize upd H1 d (.dK (drK c (a + 1) l (u + 1))) = H2 at hd2 hc2 kk2 ⊢
        refine ⟨.int ns[j], rfl, .ref d, rfl, d, .int (a + 1), rfl, gd_at hd2, ns[j], a + 1, rfl, by omega, by omega, fun r1 hr1 => ?_⟩
        refine ⟨.ref d, rfl, d, .int (u + 1), rfl, gd_used hd2, r1, u + 1, rfl, by omega, by omega, fun r2 hr2 => ?_⟩
        refine ⟨.int m, rfl, r2, m, rfl, rfl, (by show 0 < m; omega), ?_⟩
        exact q (r2 % m) H2 (Int.emod_nonneg _ (by omega)) (Int.emod_lt_of_pos _ (by omega)) kk2 ⟨⟨a + 1, l, u + 1, hd2, by omega, by omega, l0, by omega, by omega⟩, hc2, D.ne⟩
      refine ⟨.int ns[j], rfl, 10, 18, rfl, rfl, ⟨by decide, by decide, by decide⟩, ns[j], _, rfl, rfl, _, rfl, ite2 (fun hge => ?_) (fun hge => ?_)⟩
      · refine ⟨.ref d, rfl, d, .int (a + 1), rfl, gd_at hd1, .ref c, rfl, c, ns.map V.int, rfl, .inl (.inl (.inl hc1)), a + 1, _, rfl, rfl, _, rfl, ite2 (fun hle => ?_) (fun hle => ?_)⟩
        · have hbig : (10 : Int) ^ (18 : Int).toNat ≤ ns[j] := of_decide_eq_true hge
          have hpos : (0 : Int) ≤ ns[j] := Int.le_trans (by decide) hbig
          refine ⟨.int ns[j], rfl, .int m, rfl, ns[j], m, rfl, rfl, ⟨by omega, by omega⟩, .ref d, rfl, d, _, rfl, pd_left hd1, ?_⟩
          refine ⟨.int ns[j], rfl, .int m, rfl, ns[j], m, rfl, rfl, (by show 0 < m; omega), ?_⟩
          exact q (ns[j] % m) _ (Int.emod_nonneg _ (by omega)) (Int.emod_lt_of_pos _ (by omega)) (kk1.upd rfl) ⟨⟨a + 1, ns[j] / m, u, upd_same, by omega, by omega, Int.ediv_nonneg hpos (by omega), u0, by omega⟩, by rw [upd_ne dc]; exact hc1, D.ne⟩
        · exact last
      · exact iteF last
/-- the signs that are drawn, as the text has them -/
def signsZ : PySem.Str := match defBody sSign with
  | .Assign _ (.Constant (.str z) _ _) _ :: _ => z
  | _ => .empty
def spSign : Sp := fun vs H Q _ => ∃ (d c : Addr) (ns : List Int) (n : Nat), vs = [.ref d] ∧ Dr H d c ns n ∧ n ≤ 900000000 ∧ ∀ (e : Nat) H', e < 256 → Kept (At d) H H' → Dr H' d c ns (n + 1) → Q (.str ⟨#[e]⟩) H'
theorem ok_sign (F : FnP K "_law_sign" sSign f fd) (GN : FnOk P w K mg base CX0 2 fN fdN ["draw", "many"] spNext) (bN : Binds K fdN ["draw", "many"] []) (kN : PySem.W.keepIn K (.ref fN) = true) (gN : mg "_law_next" = some (.ref fN)) (m1 : mg "len" = none) :
    FnOk P w K mg base CX0 3 f fd ["draw"] spSign := by
  refine F.ok (k := 2) scSign (fun vs H Q E h => ?_) (fun cdv A outer s H vs Q E hr h => ?_)
  · obtain ⟨d, c, ns, n, rfl, _⟩ := h
    rfl
  · obtain ⟨d, c, ns, n, rfl, D, hn, q⟩ := h
    refine ⟨_, PSs.nox (pss_cons (ps_set (i := 1) scSign.nd rfl (Or.inl rfl) pe_str)
      (pss_one (ps_ret (pe_ix ix_str (pv 1) (pe_call GN hr (by rfl) gN kN bN .nil pass0 (pa_cons (pv 0) (pa_cons (pe_callB call_len_str (by rfl) m1 PySem.boot_len (pa_cons (pv 1) pa_nil)) pa_nil))) (fun _ _ => rfl))))), ?_⟩
    have hl : signsZ.length = 95 := by decide +kernel
    have hcl := len_list signsZ
    have hlow : ∀ e ∈ signsZ.cps.toList, e < 256 := by decide +kernel
    generalize hz : signsZ = z at hl hcl hlow
    have hsz := sizeLine_eq
    refine ⟨.str z, by rw [← hz]; rfl, .ref d, rfl, .str z, by rw [← hz]; rfl, z, rfl, by omega, d, c, ns, n, _, rfl, D, by omega, by omega, by omega, fun r H' r0 r1 kk D' => ?_⟩
    obtain ⟨j, rfl⟩ : ∃ j : Nat, r = (j : Int) := ⟨r.toNat, by omega⟩
    have hj : j < z.cps.toList.length := by omega
    refine ⟨z, _, z.cps.toList[j], rfl, rfl, by omega, atI_nat (j := j) (List.getElem?_eq_getElem hj), ?_⟩
    exact q _ H' (hlow _ (List.getElem_mem hj)) kk D'
end
end K1

set_option Elab.async false
set_option linter.all false
set_option maxRecDepth 100000
set_option maxHeartbeats 4000000
namespace K1
open PySem PySem.Spec PyProof.Rows L2
/-! ### drawn texts and figures -/
abbrev sText : Stmt := top 12
abbrev sFigures : Stmt := top 13
theorem scText : FnScope ["draw", "many", "letters", "signs", "k"] ["draw"] (defScope sText) := ⟨rfl, rfl, rfl, by decide +kernel, rfl, by decide +kernel, by decide +kernel⟩
theorem scFigures : FnScope ["draw", "many", "word", "at", "k"] ["draw"] (defScope sFigures) := ⟨rfl, rfl, rfl, by decide +kernel, rfl, by decide +kernel, by decide +kernel⟩
def one (e : Nat) : PySem.Str := ⟨#[e]⟩
def ov (e : Nat) : V := .str (one e)
theorem ones_join (es : List Nat) : (Txt.join (PySem.Str.ofString "") (es.map one)).length = es.length := by
  rw [PySem.W.KT.join_ones _ (fun a ha => by obtain ⟨e, _, rfl⟩ := List.mem_map.mp ha; rfl), List.length_map]
theorem ones_sum (es : List Nat) : ((es.map one).map (·.length)).sum = es.length := by
  induction es with
  | nil => rfl
  | cons e es ih => simp only [List.map_cons, List.sum_cons, List.length_cons] at ih ⊢; rw [ih]; show 1 + es.length = es.length + 1; omega
theorem ones_v (es : List Nat) : (es.map one).map V.str = es.map ov := by rw [List.map_map]; rfl
/-- text's first letter's place: what the text of the letters is -/
def lettersZ : PySem.Str := match defBody sText with
  | _ :: .Assign _ (.Constant (.str z) _ _) _ :: _ => z
  | _ => .empty
theorem letters_len : lettersZ.length = 26 := by decide +kernel
theorem letters_low : ∀ e ∈ lettersZ.cps.toList, e < 256 := by decide +kernel
/-- only signs below 256 -/
def Low (z : PySem.Str) : Prop := ∀ e ∈ z.cps.toList, e < 256
theorem Low.app {a b : PySem.Str} (ha : Low a) (hb : Low b) : Low (a ++ b) := fun e he => by
  have h : e ∈ a.cps.toList ++ b.cps.toList := by
    have q : (a ++ b).cps = a.cps ++ b.cps := rfl
    rw [q, Array.toList_append] at he
    exact he
  rcases List.mem_append.mp h with h | h
  · exact ha e h
  · exact hb e h
theorem Low.cut {z : PySem.Str} (h : Low z) (lo hi : Option Int) : Low (cutS z lo hi) := fun e he => by
  unfold cutS at he
  exact h e (List.mem_of_mem_drop (List.mem_of_mem_take (by simpa using he)))
theorem low_one {e : Nat} (h : e < 256) : Low ⟨#[e]⟩ := fun x hx => by
  have : x = e := by simpa using hx
  omega
theorem low_join {es : List Nat} (h : ∀ e ∈ es, e < 256) : Low (Txt.join (PySem.Str.ofString "") (es.map one)) := by
  have e : Txt.join (PySem.Str.ofString "") (es.map one) = mkS es := by
    show Builtin.Str.glued _ _ = _
    rw [StrLaws.glued_eq_join]
    have e0 : (PySem.Str.ofString "") = (⟨#[]⟩ : PySem.Str) := by decide +kernel
    rw [e0]
    exact join_ones es
  rw [e]
  intro x hx
  rw [mkS_list] at hx
  exact h x hx
def spText (n0 : Nat) : Sp := fun vs H Q _ => ∃ (d c : Addr) (ns : List Int) (n : Nat), vs = [.ref d] ∧ Dr H d c ns n ∧ n ≤ 800000000 ∧ ∀ (z : PySem.Str) H', z.length ≤ n0 → Low z → Kept (At d) H H' → Dr H' d c ns (n + 100) → Q (.str z) H'
theorem at_nat {xs : List V} {r : Int} {m : Nat} (h0 : 0 ≤ r) (h1 : r < (m : Int)) (hm : xs.length = m) (Pv : V → Prop) (h : ∀ x ∈ xs, Pv x) : ∃ x, atI xs r = some x ∧ Pv x := by
  obtain ⟨j, rfl⟩ : ∃ j : Nat, r = (j : Int) := ⟨r.toNat, by omega⟩
  have hj : j < xs.length := by omega
  exact ⟨xs[j], atI_nat (j := j) (List.getElem?_eq_getElem hj), h _ (List.getElem_mem hj)⟩
abbrev At2 (d L : Addr) : Addr → Prop := fun b => b = d ∨ b = L
theorem Kept.drop {H H3 H' : Hp} {d L : Addr} (a : Kept (At d) H H3) (n : H L = none) (b : Kept (At2 d L) H3 H') : Kept (At d) H H' := fun x o e hx => by
  refine ko_trans (a x o e hx) fun u q => b x u q ?_
  rintro (z | z)
  · exact hx z
  · exact ne_of_none e n z
theorem Dr.keep {H : Hp} {d c p : Addr} {o : HO} {ns : List Int} {n : Nat} (D : Dr H d c ns n) (h1 : p ≠ d) (h2 : p ≠ c) : Dr (upd H p o) d c ns n := by
  obtain ⟨a, l, u, h, r⟩ := D.at_
  exact ⟨⟨a, l, u, by rw [upd_ne (Ne.symm h1)]; exact h, r⟩, by rw [upd_ne (Ne.symm h2)]; exact D.cs, D.ne⟩
theorem ixN_of {n : Nat} {r : Int} (h0 : 0 ≤ r) (h1 : r < (n : Int)) : ixN n r = some r.toNat := by
  unfold ixN
  rw [if_pos h0, if_pos h1]
section
variable {P : Program} {w : World} {K : PySem.W.Frag} {mg : PySem.Str → Option Value} {base : Heap} {f fS fN : Addr} {fd fdS fdN : FuncData}
theorem ok_text (F : FnP K "_law_text" sText f fd) (GN : FnOk P w K mg base CX0 2 fN fdN ["draw", "many"] spNext) (bN : Binds K fdN ["draw", "many"] []) (kN : PySem.W.keepIn K (.ref fN) = true) (gN : mg "_law_next" = some (.ref fN))
    (GS : FnOk P w K mg base CX0 3 fS fdS ["draw"] spSign) (bS : Binds K fdS ["draw"] []) (kS : PySem.W.keepIn K (.ref fS) = true) (gS : mg "_law_sign" = some (.ref fS)) (m1 : mg "range" = none) :
    FnOk P w K mg base CX0 4 f fd ["draw"] (spText 12) := by
  refine F.ok (k := 3) scText (fun vs H Q E h => ?_) (fun cdv A outer s H vs Q E hr h => ?_)
  · obtain ⟨d, c, ns, n, rfl, _⟩ := h
    rfl
  · obtain ⟨d, c, ns, n, rfl, D, hn, q⟩ := h
    have hr2 := hr.mono (show 2 ≤ 3 by decide)
    refine ⟨_, PSs.nox (pss_cons (ps_set (i := 1) scText.nd rfl (Or.inl rfl) (pe_ix ix_list (pe_lst (pa_cons (pe_op op_add pe_int (pe_call GN hr2 (by rfl) gN kN bN .nil pass0 (pa_cons (pv 0) (pa_cons pe_int pa_nil)))) (pa_cons pe_int (pa_cons pe_int (pa_cons (pe_call GN hr2 (by rfl) gN kN bN .nil pass0 (pa_cons (pv 0) (pa_cons pe_int pa_nil))) (pa_cons pe_int pa_nil))))))
          (pe_call GN hr2 (by rfl) gN kN bN .nil pass0 (pa_cons (pv 0) (pa_cons pe_int pa_nil))) (fun _ _ => rfl)))
      (pss_cons (ps_set (i := 2) scText.nd rfl (Or.inr rfl) pe_str)
      (pss_cons (ps_setLc (i := 3) (own := [("k", 4)]) (g := gName 4) (tt := tYes) rfl scText.nd rfl rfl (sw_true rfl rfl rfl (by decide +kernel)) (pi_range1 rfl m1 (pa_cons (pv 1) pa_nil)) (blkOk_by (own := [("k", 4)]) (N := ["draw", "many", "letters", "signs", "k"]) (sc := defScope sText) (by decide +kernel))
          (fun _ _ _ _ _ => pg_name (i := 4) scText.nd rfl (Or.inl rfl)) (fun _ _ _ _ _ => pts_nil) (fun _ _ _ _ _ => by exact (pe_ix ix_str (pv 2) (pe_call GN hr2 (by rfl) gN kN bN .nil pass0 (pa_cons (pv 0) (pa_cons pe_int pa_nil))) (fun _ _ => rfl))))
      (pss_cons (ps_if (PW.pt (pw_and (pt_cmpR op_eq (pe_call GN hr2 (by rfl) gN kN bN .nil pass0 (pa_cons (pv 0) (pa_cons pe_int pa_nil))) pe_int (nomark _)) (pw_and1 (pt_cmpR op_gt (pv 1) pe_int (nomark _)))))
          (pss_one (ps_asg (pe_call GS hr (by rfl) gS kS bS .nil pass0 (pa_cons (pv 0) pa_nil)) (pg_sub (pv 3) (pe_call GN hr2 (by rfl) gN kN bN .nil pass0 (pa_cons (pv 0) (pa_cons (pv 1) pa_nil))) set_list))) pss_nil)
      (pss_one (ps_ret (pe_join pe_str (pv 3)))))))), ?_⟩
    -- many
    refine ⟨.ref d, rfl, d, c, ns, n, 3, rfl, D, by omega, by omega, by omega, fun r1 H1 a1 b1 k1 D1 => ?_⟩
    refine ⟨1, r1, rfl, rfl, .ref d, rfl, d, c, ns, n + 1, 12, rfl, D1, by omega, by omega, by omega, fun r2 H2 a2 b2 k2 D2 => ?_⟩
    refine ⟨by show 5 ≤ sizeLine; decide, fun p hp => ?_⟩
    have D2' : Dr (upd H2 p (.lst [.int (1 + r1), .int 8, .int 9, .int r2, .int 7])) d c ns (n + 1 + 1) := D2.new hp
    refine ⟨.ref d, rfl, d, c, ns, n + 1 + 1, 5, rfl, D2', by omega, by omega, by omega, fun r3 H3 a3 b3 k3 D3 => ?_⟩
    have hpd : ¬ p = d := fun e => by
      obtain ⟨_, _, _, z, _⟩ := D2.at_
      rw [e, z] at hp
      cases hp
    have kk : Kept (At d) H H3 := ((k1.trans k2).trans (Kept.refl.new hp)).trans k3
    have hl : H3 p = some (.lst [.int (1 + r1), .int 8, .int 9, .int r2, .int 7]) := k3.lst upd_same hpd
    obtain ⟨x, hx, m, rfl, hm0, hm1⟩ : ∃ x, atI [V.int (1 + r1), .int 8, .int 9, .int r2, .int 7] r3 = some x ∧ ∃ m : Int, x = .int m ∧ 0 ≤ m ∧ m ≤ 12 := at_nat (m := 5) a3 b3 rfl _ (fun x hx => by
      simp only [List.mem_cons, List.not_mem_nil, or_false] at hx
      rcases hx with rfl | rfl | rfl | rfl | rfl
      · exact ⟨_, rfl, by omega, by omega⟩
      · exact ⟨_, rfl, by omega, by omega⟩
      · exact ⟨_, rfl, by omega, by omega⟩
      · exact ⟨_, rfl, by omega, by omega⟩
      · exact ⟨_, rfl, by omega, by omega⟩)
    refine ⟨p, _, r3, .int m, rfl, rfl, .inl (.inl hl), hx, ?_⟩
    clear hx hl k3 k2 k1 D1 D2 D2' hp hpd
    -- letters, signs
    refine ⟨.int m, rfl, m, rfl, by omega, by omega, fun L hL => ?_⟩
    have hLH : H L = none := At.free kk D3 hL
    have hLd : ¬ L = d := fun e => by
      obtain ⟨_, _, _, z, _⟩ := D3.at_
      rw [e, z] at hL
      cases hL
    have hcl := len_list lettersZ
    have hll := letters_len
    have hLc : ¬ L = c := fun e => by
      rw [e, D3.cs] at hL
      cases hL
    refine lc_range (lo := 0) (n := m.toNat) (fun i H' => Kept (At2 d L) H3 H' ∧ Dr H' d c ns (n + 1 + 1 + 1 + i) ∧ ∃ es : List Nat, es.length = i ∧ H' L = some (.lst (es.map ov)) ∧ ∀ e ∈ es, e < 256)
      ⟨Kept.refl.upd (.inr rfl), D3.keep hLd hLc, [], rfl, upd_same, by simp⟩ (fun i H' hi h => ?_) (fun H' h => ?_)
    · obtain ⟨ki, Di, es, e1, e2, e3⟩ := h
      refine ⟨rfl, ?_⟩
      unfold tYes
      dsimp only
      rw [if_pos rfl]
      refine ⟨.str lettersZ, rfl, .ref d, rfl, d, c, ns, _, 26, rfl, Di, by omega, by omega, by omega, fun r H2 r0 r1' kr Dr' => ?_⟩
      obtain ⟨j, rfl⟩ : ∃ j : Nat, r = (j : Int) := ⟨r.toNat, by omega⟩
      have hj : j < lettersZ.cps.toList.length := by omega
      have eL : H2 L = some (.lst (es.map ov)) := kr.lst e2 hLd
      refine ⟨lettersZ, _, lettersZ.cps.toList[j], rfl, rfl, by rw [sizeLine_eq]; omega, atI_nat (j := j) (List.getElem?_eq_getElem hj), es.map ov, eL, by rw [List.length_map, sizeLine_eq]; omega, ?_, ?_, es ++ [lettersZ.cps.toList[j]], by rw [List.length_append, e1]; rfl, by rw [upd_same, List.map_append]; rfl, fun e he => ?_⟩
      · exact (ki.trans (kr.weak fun b hb => .inl hb)).upd (.inr rfl)
      · exact (Dr'.keep hLd hLc).more (by omega)
      · rcases List.mem_append.mp he with h | h
        · exact e3 e h
        · rw [List.mem_singleton.mp h]; exact letters_low _ (List.getElem_mem hj)
    · obtain ⟨ki, Di, es, e1, e2, e3⟩ := h
      have kH : Kept (At d) H H' := kk.drop hLH ki
      -- if _law_next(draw, 3) == 0 and many > 0
      refine ⟨.ref d, rfl, d, c, ns, _, 3, rfl, Di, by omega, by omega, by omega, fun r H2 r0 r1' kr Dr' => ?_⟩
      have eL : H2 L = some (.lst (es.map ov)) := kr.lst e2 hLd
      have kH2 : Kept (At d) H H2 := kH.trans kr
      have fin : ∀ (H4 : Hp) (gs : List Nat), gs.length ≤ 12 → (∀ e ∈ gs, e < 256) → H4 L = some (.lst (gs.map ov)) → Kept (At d) H H4 → Dr H4 d c ns (n + 100) → tRet (tM1 (fun x xs H Q => ∃ a p, ∃ ys : List PySem.Str, x = .str a ∧ xs = [.ref p] ∧ (SqL K H p (ys.map V.str) ∨ SqT K H p (ys.map V.str)) ∧ (ys.map (·.length)).sum + ys.length * a.length ≤ 16777216 ∧ Q (.str (Txt.join a ys)) H) (tC (.str "")) (tVar 3))
          { nx := fun _ H' => Q .non H', rt := Q } [some (.ref d), some (.int m), some (.str lettersZ), some (.ref L), none] H4 := by
        intro H4 gs hg hlow h4 k4 D4
        refine ⟨⟨_, rfl⟩, .ref L, rfl, _, L, gs.map one, rfl, rfl, .inl (SqL.of (by rw [ones_v]; exact h4)), ?_, ?_⟩
        · rw [ones_sum, List.length_map]
          show gs.length + gs.length * 0 ≤ 16777216
          omega
        · exact q _ H4 (by rw [ones_join]; exact hg) (low_join hlow) k4 D4
      refine ⟨rfl, _, rfl, ?_⟩
      have hm : (m.toNat : Int) = m := Int.toNat_of_nonneg hm0
      refine ite2 (fun h0 => ?_) (fun h0 => ?_)
      · refine ⟨.int m, rfl, m, 0, rfl, rfl, _, rfl, ite2 (fun hpos => ?_) (fun hpos => ?_)⟩
        · have hpos' : 0 < m := of_decide_eq_true hpos
          refine ⟨.ref d, rfl, d, c, ns, _, rfl, Dr', by omega, fun e H3' elow k3' D3' => ?_⟩
          refine ⟨.ref L, rfl, .ref d, rfl, .int m, rfl, d, c, ns, _, m, rfl, D3', by omega, by omega, by omega, fun r4 H4 r40 r41 k4 D4 => ?_⟩
          have eL4 : H4 L = some (.lst (es.map ov)) := k4.lst (k3'.lst eL hLd) hLd
          refine ⟨L, es.map ov, r4, r4.toNat, rfl, rfl, eL4, ixN_of r40 (by rw [List.length_map]; omega), ?_⟩
          have eset : (es.map ov).set r4.toNat (.str ⟨#[e]⟩) = (es.set r4.toNat e).map ov := by rw [List.map_set]; rfl
          rw [eset]
          refine fin _ (es.set r4.toNat e) (by rw [List.length_set]; omega) (fun x hx => by
            rcases List.mem_or_eq_of_mem_set hx with h | h
            · exact e3 x h
            · rw [h]; exact elow) upd_same ?_ ((D4.keep hLd hLc).more (by omega))
          intro b o eb nb
          rw [upd_ne (ne_of_none eb hLH)]
          exact ((kH2.trans k3').trans k4) b o eb nb
        · exact fin H2 es (by omega) e3 eL kH2 (Dr'.more (by omega))
      · exact iteF (fin H2 es (by omega) e3 eL kH2 (Dr'.more (by omega)))
end
end K1

set_option Elab.async false
set_option linter.all false
set_option maxRecDepth 100000
set_option maxHeartbeats 4000000
namespace K1
open PySem PySem.Spec PyProof.Rows L2
def digZ : PySem.Str := ("0123456789" : PySem.Str)
theorem dig_len : digZ.length = 10 := by decide +kernel
theorem dig_low : ∀ e ∈ digZ.cps.toList, e < 256 := by decide +kernel
section
variable {P : Program} {w : World} {K : PySem.W.Frag} {mg : PySem.Str → Option Value} {base : Heap} {f fS fN : Addr} {fd fdS fdN : FuncData}
theorem ok_figures (F : FnP K "_law_figures" sFigures f fd) (GN : FnOk P w K mg base CX0 2 fN fdN ["draw", "many"] spNext) (bN : Binds K fdN ["draw", "many"] []) (kN : PySem.W.keepIn K (.ref fN) = true) (gN : mg "_law_next" = some (.ref fN))
    (GS : FnOk P w K mg base CX0 3 fS fdS ["draw"] spSign) (bS : Binds K fdS ["draw"] []) (kS : PySem.W.keepIn K (.ref fS) = true) (gS : mg "_law_sign" = some (.ref fS)) (m1 : mg "range" = none) (m2 : mg "len" = none) :
    FnOk P w K mg base CX0 4 f fd ["draw"] (spText 20) := by
  refine F.ok (k := 3) scFigures (fun vs H Q E h => ?_) (fun cdv A outer s H vs Q E hr h => ?_)
  · obtain ⟨d, c, ns, n, rfl, _⟩ := h
    rfl
  · obtain ⟨d, c, ns, n, rfl, D, hn, q⟩ := h
    have hr2 := hr.mono (show 2 ≤ 3 by decide)
    refine ⟨_, PSs.nox (pss_cons (ps_set (i := 1) scFigures.nd rfl (Or.inl rfl) (pe_ix ix_list (pe_lst (pa_cons pe_int (pa_cons pe_int (pa_cons pe_int (pa_cons pe_int (pa_cons pe_int (pa_cons pe_int (pa_cons (pe_call GN hr2 (by rfl) gN kN bN .nil pass0 (pa_cons (pv 0) (pa_cons pe_int pa_nil))) pa_nil))))))))
          (pe_call GN hr2 (by rfl) gN kN bN .nil pass0 (pa_cons (pv 0) (pa_cons pe_int pa_nil))) (fun _ _ => rfl)))
      (pss_cons (ps_set (i := 2) scFigures.nd rfl (Or.inl rfl) (pe_join pe_str (pe_lc (own := [("k", 4)]) (g := gName 4) (tt := tYes) rfl scFigures.nd (pi_range1 rfl m1 (pa_cons (pv 1) pa_nil)) (blkOk_by (own := [("k", 4)]) (N := ["draw", "many", "word", "at", "k"]) (sc := defScope sFigures) (by decide +kernel))
          (fun _ _ _ _ _ => pg_name (i := 4) scFigures.nd rfl (Or.inl rfl)) (fun _ _ _ _ _ => pts_nil) (fun _ _ _ _ _ => by exact (pe_ix ix_str pe_str (pe_call GN hr2 (by rfl) gN kN bN .nil pass0 (pa_cons (pv 0) (pa_cons pe_int pa_nil))) (fun _ _ => rfl))))))
      (pss_cons (ps_set (i := 2) scFigures.nd rfl (Or.inl rfl) (pe_op op_add_str (pe_ix ix_list (pe_lst (pa_cons pe_str (pa_cons pe_str (pa_cons pe_str (pa_cons pe_str (pa_cons pe_str (pa_cons pe_str (pa_cons pe_str (pa_cons pe_str pa_nil)))))))))
          (pe_call GN hr2 (by rfl) gN kN bN .nil pass0 (pa_cons (pv 0) (pa_cons pe_int pa_nil))) (fun _ _ => rfl)) (pv 2)))
      (pss_cons (ps_if (pt_cmpR op_eq (pe_call GN hr2 (by rfl) gN kN bN .nil pass0 (pa_cons (pv 0) (pa_cons pe_int pa_nil))) pe_int (nomark _))
          (pss_cons (ps_set (i := 3) scFigures.nd rfl (Or.inl rfl) (pe_call GN hr2 (by rfl) gN kN bN .nil pass0 (pa_cons (pv 0) (pa_cons (pe_op op_add (pe_callB call_len_str (by rfl) m2 PySem.boot_len (pa_cons (pv 2) pa_nil)) pe_int) pa_nil))))
          (pss_one (ps_set (i := 2) scFigures.nd rfl (Or.inl rfl) (pe_op op_add_str (pe_op op_add_str (pe_slice sl_str (pv 2) po_none (po_some (pv 3))) (pe_call GS hr (by rfl) gS kS bS .nil pass0 (pa_cons (pv 0) pa_nil))) (pe_slice sl_str (pv 2) (po_some (pv 3)) po_none))))) pss_nil)
      (pss_one (ps_ret (pv 2))))))), ?_⟩
    have hsz := sizeLine_eq
    -- many
    refine ⟨.ref d, rfl, d, c, ns, n, 7, rfl, D, by omega, by omega, by omega, fun r1 H1 a1 b1 k1 D1 => ?_⟩
    refine ⟨by show 7 ≤ sizeLine; decide, fun p hp => ?_⟩
    have D1' : Dr (upd H1 p (.lst [.int 1, .int 2, .int 3, .int 4, .int 4, .int 5, .int r1])) d c ns (n + 1) := D1.new hp
    refine ⟨.ref d, rfl, d, c, ns, n + 1, 7, rfl, D1', by omega, by omega, by omega, fun r3 H3 a3 b3 k3 D3 => ?_⟩
    have hpd : ¬ p = d := fun e => by
      obtain ⟨_, _, _, z, _⟩ := D1.at_
      rw [e, z] at hp
      cases hp
    have kk : Kept (At d) H H3 := (k1.trans (Kept.refl.new hp)).trans k3
    have hl : H3 p = some (.lst [.int 1, .int 2, .int 3, .int 4, .int 4, .int 5, .int r1]) := k3.lst upd_same hpd
    obtain ⟨x, hx, m, rfl, hm0, hm1⟩ : ∃ x, atI [V.int 1, .int 2, .int 3, .int 4, .int 4, .int 5, .int r1] r3 = some x ∧ ∃ m : Int, x = .int m ∧ 0 ≤ m ∧ m ≤ 7 := at_nat (m := 7) a3 b3 rfl _ (fun x hx => by
      simp only [List.mem_cons, List.not_mem_nil, or_false] at hx
      rcases hx with rfl | rfl | rfl | rfl | rfl | rfl | rfl
      all_goals exact ⟨_, rfl, by omega, by omega⟩)
    refine ⟨p, _, r3, .int m, rfl, rfl, .inl (.inl hl), hx, ?_⟩
    clear hx hl k3 k1 D1 D1' hp hpd
    -- word
    refine ⟨⟨_, rfl⟩, .int m, rfl, m, rfl, by omega, by omega, fun L hL => ?_⟩
    have hLH : H L = none := At.free kk D3 hL
    have hLd : ¬ L = d := fun e => by
      obtain ⟨_, _, _, z, _⟩ := D3.at_
      rw [e, z] at hL
      cases hL
    have hLc : ¬ L = c := fun e => by
      rw [e, D3.cs] at hL
      cases hL
    have hcl := len_list digZ
    have hll := dig_len
    refine lc_range (lo := 0) (n := m.toNat) (fun i H' => Kept (At2 d L) H3 H' ∧ Dr H' d c ns (n + 1 + 1 + i) ∧ ∃ es : List Nat, es.length = i ∧ H' L = some (.lst (es.map ov)) ∧ ∀ e ∈ es, e < 256)
      ⟨Kept.refl.upd (.inr rfl), D3.keep hLd hLc, [], rfl, upd_same, by simp⟩ (fun i H' hi h => ?_) (fun H' h => ?_)
    · obtain ⟨ki, Di, es, e1, e2, e3⟩ := h
      refine ⟨rfl, ?_⟩
      unfold tYes
      dsimp only
      rw [if_pos rfl]
      refine ⟨.ref d, rfl, d, c, ns, _, 10, rfl, Di, by omega, by omega, by omega, fun r H2 r0 r1' kr Dr' => ?_⟩
      obtain ⟨j, rfl⟩ : ∃ j : Nat, r = (j : Int) := ⟨r.toNat, by omega⟩
      have hj : j < digZ.cps.toList.length := by omega
      have eL : H2 L = some (.lst (es.map ov)) := kr.lst e2 hLd
      refine ⟨digZ, _, digZ.cps.toList[j], rfl, rfl, by omega, atI_nat (j := j) (List.getElem?_eq_getElem hj), es.map ov, eL, by rw [List.length_map]; omega, ?_, ?_, es ++ [digZ.cps.toList[j]], by rw [List.length_append, e1]; rfl, by rw [upd_same, List.map_append]; rfl, fun e he => ?_⟩
      · exact (ki.trans (kr.weak fun b hb => .inl hb)).upd (.inr rfl)
      · exact (Dr'.keep hLd hLc).more (by omega)
      · rcases List.mem_append.mp he with h | h
        · exact e3 e h
        · rw [List.mem_singleton.mp h]; exact dig_low _ (List.getElem_mem hj)
    · obtain ⟨ki, Di, es, e1, e2, e3⟩ := h
      have kH : Kept (At d) H H' := kk.drop hLH ki
      have hm : (m.toNat : Int) = m := Int.toNat_of_nonneg hm0
      refine ⟨_, L, es.map one, rfl, rfl, .inl (SqL.of (by rw [ones_v]; exact e2)), ?_, ?_⟩
      · rw [ones_sum, List.length_map]
        show es.length + es.length * 0 ≤ 16777216
        omega
      · have hj : (Txt.join (PySem.Str.ofString "") (es.map one)).length ≤ 7 := by rw [ones_join]; omega
        have hlow : Low (Txt.join (PySem.Str.ofString "") (es.map one)) := low_join e3
        generalize Txt.join (PySem.Str.ofString "") (es.map one) = z at hj hlow ⊢
        -- the head put on
        refine ⟨by show 8 ≤ sizeLine; decide, fun p2 hp2 => ?_⟩
        have Dp := Di.new (o := .lst [.str "", .str "", .str "-", .str "-", .str "--", .str "+", .str "0", .str "-0"]) hp2
        have hpd2 : ¬ p2 = d := fun e => by
          obtain ⟨_, _, _, z, _⟩ := Di.at_
          rw [e, z] at hp2
          cases hp2
        refine ⟨.ref d, rfl, d, c, ns, _, 8, rfl, Dp, by omega, by omega, by omega, fun r5 H5 a5 b5 k5 D5 => ?_⟩
        have kH5 : Kept (At d) H H5 := (kH.trans (Kept.refl.new hp2)).trans k5
        have hl5 : H5 p2 = some (.lst [.str "", .str "", .str "-", .str "-", .str "--", .str "+", .str "0", .str "-0"]) := k5.lst upd_same hpd2
        obtain ⟨x, hx, y, rfl, hy, hyl⟩ : ∃ x, atI [V.str "", .str "", .str "-", .str "-", .str "--", .str "+", .str "0", .str "-0"] r5 = some x ∧ ∃ y : PySem.Str, x = .str y ∧ y.length ≤ 2 ∧ Low y := at_nat (m := 8) a5 b5 rfl _ (fun x hx => by
          simp only [List.mem_cons, List.not_mem_nil, or_false] at hx
          rcases hx with rfl | rfl | rfl | rfl | rfl | rfl | rfl | rfl
          all_goals exact ⟨_, rfl, by decide +kernel, by unfold Low; decide +kernel⟩)
        refine ⟨p2, _, r5, .str y, rfl, rfl, .inl (.inl hl5), hx, .str z, rfl, y, z, rfl, rfl, by omega, ?_⟩
        have hyz : (y ++ z).length ≤ 9 := by rw [PySem.Str.length_append]; omega
        have hvl : Low (y ++ z) := hyl.app hlow
        generalize y ++ z = v at hyz hvl ⊢
        clear hx hl5 hpd2 Dp
        refine ⟨.ref d, rfl, d, c, ns, _, 6, rfl, D5, by omega, by omega, by omega, fun r6 H6 a6 b6 k6 D6 => ?_⟩
        refine ⟨rfl, _, rfl, ite2 (fun h6 => ?_) (fun h6 => ?_)⟩
        · refine ⟨.ref d, rfl, .str v, rfl, v, rfl, by omega, (v.length : Int), 1, rfl, rfl, d, c, ns, _, _, rfl, D6, by omega, by omega, by omega, fun r7 H7 a7 b7 k7 D7 => ?_⟩
          refine ⟨.str v, rfl, .int r7, rfl, r7, rfl, v, rfl, by omega, .ref d, rfl, d, c, ns, _, rfl, D7, by omega, fun e H8 elow k8 D8 => ?_⟩
          have c1 := cutS_length v none (some r7)
          have c2 := cutS_length v (some r7) none
          refine ⟨_, _, rfl, rfl, by show _ + 1 ≤ sizeLine; omega, .str v, rfl, .int r7, rfl, r7, rfl, v, rfl, by omega, _, _, rfl, rfl, ?_, ?_⟩
          · rw [PySem.Str.length_append]
            show _ + 1 + _ ≤ sizeLine
            omega
          · refine ⟨_, rfl, ?_⟩
            refine q _ H8 ?_ (((hvl.cut _ _).app (low_one elow)).app (hvl.cut _ _)) ((((kH5.trans k6).trans k7).trans k8)) (D8.more (by omega))
            rw [PySem.Str.length_append, PySem.Str.length_append]
            show _ + 1 + _ ≤ 20
            omega
        · refine ⟨_, rfl, ?_⟩
          exact q v H6 (by omega) hvl (kH5.trans k6) (D6.more (by omega))
end
end K1

set_option Elab.async false
set_option linter.all false
set_option maxRecDepth 100000
set_option maxHeartbeats 4000000
namespace K1
open PySem PySem.Spec PyProof.Rows L2
/-! ### the law's own look at a thing -/
abbrev sLName : Stmt := top 14
abbrev sLRead : Stmt := top 15
abbrev sLSame : Stmt := top 17
theorem scLName : FnScope ["thing", "letters", "one"] ["thing"] (defScope sLName) := ⟨rfl, rfl, rfl, by decide +kernel, rfl, by decide +kernel, by decide +kernel⟩
theorem scLRead : FnScope ["word", "figures", "sign", "bad", "found"] ["word"] (defScope sLRead) := ⟨rfl, rfl, rfl, by decide +kernel, rfl, by decide +kernel, by decide +kernel⟩
theorem scLSame : FnScope ["found", "due"] ["found", "due"] (defScope sLSame) := ⟨rfl, rfl, rfl, by decide +kernel, rfl, by decide +kernel, by decide +kernel⟩
/-- a thing of the kind T -/
def kinds : List String := ["NoneType", "bool", "int", "str", "list", "tuple", "dict"]
structure Th (K : PySem.W.Frag) (H : Hp) (x : V) (T : String) : Prop where
  b : TyB K H x T
  x : TyX K H x (.type T)
  k : T ∈ kinds
theorem Th.non {K : PySem.W.Frag} {H : Hp} : Th K H .non "NoneType" := ⟨.non, .base .non, by decide⟩
theorem Th.bl {K : PySem.W.Frag} {H : Hp} (b : Bool) : Th K H (.bl b) "bool" := ⟨.bl b, .base (.bl b), by decide⟩
theorem Th.int {K : PySem.W.Frag} {H : Hp} (i : Int) : Th K H (.int i) "int" := ⟨.int i, .base (.int i), by decide⟩
theorem Th.str {K : PySem.W.Frag} {H : Hp} (z : PySem.Str) : Th K H (.str z) "str" := ⟨.str z, .base (.str z), by decide⟩
theorem Th.lst {K : PySem.W.Frag} {H : Hp} {a : Addr} {xs : List V} (h : H a = some (.lst xs)) : Th K H (.ref a) "list" := ⟨.lst (.inl (.inl h)), .base (.lst h), by decide⟩
theorem Th.tup {K : PySem.W.Frag} {H : Hp} {a : Addr} {xs : List V} (h : H a = some (.tup xs)) : Th K H (.ref a) "tuple" := ⟨.tup (.inl (.inl h)), .base (.tup h), by decide⟩
theorem Th.dK {K : PySem.W.Frag} {H : Hp} {a : Addr} {kvs : List (Key × V)} (h : H a = some (.dK kvs)) : Th K H (.ref a) "dict" := ⟨.dK h, .base (.dK h), by decide⟩
theorem kit_all (K : PySem.W.Frag) {T : String} (h : T ∈ kinds) : PySem.W.kitOne K (.type T) (.type "str") = some (decide (T = "str")) ∧ PySem.W.kitOne K (.type T) (.type "int") = some (decide (T = "int") || decide (T = "bool")) ∧ PySem.W.kitOne K (.type T) (.type "bool") = some (decide (T = "bool")) := by
  simp only [kinds, List.mem_cons, List.not_mem_nil, or_false] at h
  rcases h with rfl | rfl | rfl | rfl | rfl | rfl | rfl
  all_goals exact ⟨kit_ty (by decide +kernel), kit_ty (by decide +kernel), kit_ty (by decide +kernel)⟩
def alphaZ : PySem.Str := match defBody sLName with
  | .Assign _ (.Constant (.str z) _ _) _ :: _ => z
  | _ => .empty
theorem alpha_mem (c : Nat) : c ∈ alphaZ.cps.toList ↔ 97 ≤ c ∧ c ≤ 122 := by
  have e : alphaZ.cps.toList = (List.range 26).map (97 + ·) := by decide +kernel
  rw [e]
  simp only [List.mem_map, List.mem_range]
  constructor
  · rintro ⟨k, h1, rfl⟩; omega
  · intro h; exact ⟨c - 97, by omega, by omega⟩
theorem lowB_iff (l : List Nat) : lowB l = (l.filter fun c => !decide (c ∈ alphaZ.cps.toList)).isEmpty := by
  have ea : ("a" : PySem.Str).cps.toList = [97] := by decide +kernel
  have ez : ("z" : PySem.Str).cps.toList = [122] := by decide +kernel
  rw [Bool.eq_iff_iff, List.isEmpty_iff, List.filter_eq_nil_iff]
  unfold lowB
  rw [List.all_eq_true, ea, ez]
  constructor
  · intro h c hc
    have q := h c hc
    simp only [Bool.and_eq_true, Bool.not_eq_true', decide_eq_false_iff_not, lt1] at q
    simp only [Bool.not_eq_true', decide_eq_false_iff_not, alpha_mem]
    omega
  · intro h c hc
    have q := h c hc
    simp only [Bool.not_eq_true', decide_eq_false_iff_not, alpha_mem] at q
    simp only [Bool.and_eq_true, Bool.not_eq_true', decide_eq_false_iff_not, lt1]
    omega
theorem dpAll_strs {α : Type} (K : PySem.W.Frag) (H : Hp) (f : α → PySem.Str) : ∀ es : List α, DpAll K H (es.map fun e => V.str (f e)) (es.map fun e => PyData.str (f e))
  | [] => .nil
  | e :: es => .cons (.str _) (dpAll_strs K H f es)
theorem eqv_nil (ds : List PyData) : PyData.eqv (.list ds) (.list []) = ds.isEmpty := by
  cases ds with
  | nil => rfl
  | cons d ds => rfl
theorem ok_low {z : PySem.Str} (h : Low z) : PyData.strOk z = true := by
  unfold PyData.strOk
  rw [← Array.all_toList, List.all_eq_true]
  intro c hc
  exact decide_eq_true (Nat.lt_of_lt_of_le (h c hc) (by decide))
theorem depth_strs {α : Type} (f : α → PySem.Str) : ∀ es : List α, PyData.depthAll (es.map fun e => PyData.str (f e)) ≤ 1
  | [] => by simp [PyData.depthAll]
  | e :: es => by
    have ih := depth_strs f es
    simp only [List.map_cons, PyData.depthAll, PyData.depth]
    omega
theorem lay_strs {α : Type} (f : α → PySem.Str) : ∀ es : List α, (∀ e ∈ es, Low (f e)) → PyData.canLayAll0 (es.map fun e => PyData.str (f e)) = true
  | [], _ => by simp [PyData.canLayAll0]
  | e :: es, h => by
    have ih := lay_strs f es (fun x hx => h x (List.mem_cons_of_mem _ hx))
    simp only [List.map_cons, PyData.canLayAll0, PyData.canLay0, ih]
    rw [ok_low (h e List.mem_cons_self)]
    rfl
theorem shaped_strs {α : Type} (f : α → PySem.Str) (es : List α) (h : ∀ e ∈ es, Low (f e)) : SeqAt.shaped (.list (es.map fun e => PyData.str (f e))) = true := by
  unfold SeqAt.shaped
  have hd := depth_strs f es
  rw [show PyData.canLay0 (.list (es.map fun e => PyData.str (f e))) = true by simp only [PyData.canLay0]; exact lay_strs f es h, decide_eq_true (by simp only [PyData.depth]; omega)]
  rfl
theorem shaped_nil : SeqAt.shaped (.list []) = true := by decide +kernel
/-- a test that may be asked again -/
def spLName (K : PySem.W.Frag) : Sp := fun vs H Q _ => ∃ (x : V) (T : String), vs = [x] ∧ Th K H x T ∧ (∀ z, x = .str z → z.length ≤ 100 ∧ Low z) ∧ ∀ H', Kept None H H' → Q (.bl (nameB x)) H'
section
variable {P : Program} {w : World} {K : PySem.W.Frag} {mg : PySem.Str → Option Value} {base : Heap} {f : Addr} {fd : FuncData}
theorem ok_lname (F : FnP K "_law_is_name" sLName f fd) (m1 : mg "isinstance" = none) (m2 : mg "str" = none) (m3 : mg "len" = none) : FnOk P w K mg base CX0 1 f fd ["thing"] (spLName K) := by
  refine F.ok (k := 0) scLName (fun vs H Q E h => ?_) (fun cdv A outer s H vs Q E hr h => ?_)
  · obtain ⟨x, T, rfl, _⟩ := h
    rfl
  · obtain ⟨x, T, rfl, hT, hz, q⟩ := h
    refine ⟨_, PSs.nox (pss_cons (ps_set (i := 1) scLName.nd rfl (Or.inr rfl) pe_str)
      (pss_one (ps_ret (pe_and (pe_callB call_isi (by rfl) m1 (by decide +kernel) (pa_cons (pv 0) (pa_cons (pe_bltn (v := .ty "str") (by rfl) m2 (by decide +kernel) rfl) pa_nil)))
        (pe_and (pe_chain op_lt op_lt pe_int (pe_callB call_len_str (by rfl) m3 PySem.boot_len (pa_cons (pv 0) pa_nil)) pe_int)
        (pe_one (pe_cmpR (op_eqD hr.units) (pe_lc (own := [("one", 2)]) (g := gName 2) (tt := tTest (tOp rNotInS (tVar 2) (tVar 1))) (te := tVar 2) rfl scLName.nd (pi_str (pv 0)) (blkOk_by (own := [("one", 2)]) (N := ["thing", "letters", "one"]) (sc := defScope sLName) (by decide +kernel))
          (fun _ _ _ _ _ => pg_name (i := 2) scLName.nd rfl (Or.inl rfl)) (fun _ _ _ _ _ => pts_one (by exact (pt_cmpR op_notInS (pv 2) (pv 1) (by rfl)))) (fun _ _ _ _ _ => pv 2)) (pe_lst pa_nil) (nomark _)))))))), ?_⟩
    have hsz := sizeLine_eq
    have kt := (kit_all K hT.k).1
    have nb : ∀ b, nameB x = b → ∀ H', Kept None H H' → Q (.bl b) H' := fun b e H' k => by rw [← e]; exact q H' k
    refine ⟨x, rfl, x, .ty "str", .type T, .type "str", _, rfl, .ty "str", hT.x, kt, _, rfl, ?_⟩
    rcases tyb_str hT.b with ⟨rfl, z, rfl⟩ | ⟨hn, hw⟩
    · rw [decide_eq_true rfl]
      obtain ⟨hz1, hzl⟩ := hz z rfl
      refine iteT ⟨.str z, rfl, z, rfl, by omega, 0, (z.length : Int), rfl, rfl, _, rfl, ?_⟩
      by_cases h1 : 1 ≤ z.length
      · rw [decide_eq_true (show (0 : Int) < (z.length : Int) by omega)]
        refine iteT ⟨(z.length : Int), 9, rfl, rfl, _, rfl, ?_⟩
        by_cases h2 : z.length ≤ 8
        · rw [decide_eq_true (show (z.length : Int) < 9 by omega)]
          refine iteT ⟨.str z, rfl, z, rfl, fun D hD => ?_⟩
          have hzL : z.cps.size = z.cps.toList.length := by simp
          refine lc_it walk_str (fun i H' => Kept None H H' ∧ H' D = some (.lst (((z.cps.toList.take i).filter fun c => !decide (c ∈ alphaZ.cps.toList)).map fun e => V.str (one e))))
            ⟨Kept.refl.new hD, upd_same⟩ (fun _ _ _ _ => trivial) (fun i x H1 H' hi h y => ?_) (fun H' h => ?_)
          · obtain ⟨k1, k2⟩ := h
            obtain ⟨rfl, c, hc, rfl⟩ := y
            have hc' : z.cps.toList[i]? = some c := by rw [Array.getElem?_toList]; exact hc
            have tf := take_filter (fun c => !decide (c ∈ alphaZ.cps.toList)) _ i c hc'
            refine ⟨rfl, .str ⟨#[c]⟩, rfl, .str alphaZ, rfl, c, alphaZ, rfl, rfl, _, rfl, ?_⟩
            cases hb : (!decide (c ∈ alphaZ.cps.toList)) with
            | true =>
              rw [hb, if_pos rfl] at tf
              have hlen : (((z.cps.toList.take i).filter fun c => !decide (c ∈ alphaZ.cps.toList)).map fun e => V.str (one e)).length ≤ z.length := by
                rw [List.length_map]
                refine Nat.le_trans (List.length_filter_le _ _) ?_
                rw [List.length_take, ← len_list]
                omega
              refine iteT ⟨.str ⟨#[c]⟩, rfl, _, k2, by omega, fun b o e n => ?_, ?_⟩
              · rw [upd_ne (ne_of_none e hD)]
                exact k1 b o e n
              · rw [upd_same, tf, List.map_append]
                rfl
            | false =>
              rw [hb, if_neg Bool.false_ne_true, List.append_nil] at tf
              refine iteF ⟨k1, ?_⟩
              rw [tf]
              exact k2
          · obtain ⟨k1, k2⟩ := h
            rw [hzL, List.take_length] at k2
            refine ⟨by show 0 ≤ sizeLine; omega, fun p hp => ?_⟩
            have hDp : D ≠ p := ne_of_none k2 hp
            refine ⟨.list _, .list [], .lst (.inl (.inl (by rw [upd_ne hDp]; exact k2))) (dpAll_strs K _ one _), .lst (.inl (.inl upd_same)) .nil, shaped_strs one _ (fun e he => low_one (hzl e ((List.mem_filter.mp he).1))), shaped_nil, ?_⟩
            rw [eqv_nil]
            refine nb _ ?_ _ (k1.new (k1.free hp))
            unfold nameB
            dsimp only
            rw [decide_eq_true h1, decide_eq_true h2, lowB_iff]
            show _ = List.isEmpty (List.map _ _)
            cases List.filter (fun c => !decide (c ∈ alphaZ.cps.toList)) z.cps.toList <;> rfl
        · rw [decide_eq_false (show ¬ (z.length : Int) < 9 by omega)]
          refine iteF (nb false ?_ H Kept.refl)
          unfold nameB
          dsimp only
          rw [decide_eq_false h2, Bool.and_false, Bool.false_and]
      · rw [decide_eq_false (show ¬ (0 : Int) < (z.length : Int) by omega)]
        refine ⟨_, rfl, iteF (nb false ?_ H Kept.refl)⟩
        unfold nameB
        dsimp only
        rw [decide_eq_false h1, Bool.false_and, Bool.false_and]
    · rw [decide_eq_false hn]
      exact iteF (nb false hw H Kept.refl)
end
end K1

set_option Elab.async false
set_option linter.all false
set_option maxRecDepth 100000
set_option maxHeartbeats 4000000
namespace K1
open PySem PySem.Spec PyProof.Rows L2
/-! ### the law's own reading of a number -/
theorem cut_head (z : PySem.Str) : decide (V.str (cutS z none (some 1)) = V.str ("-" : PySem.Str)) = decide (z.cps.toList.head? = some 45) := by
  have e : cutS z none (some 1) = mkS (z.cps.toList.take 1) := by
    unfold cutS
    have h1 : HT.sIx z.length z.length (some 1) = min 1 z.length := HT.sIx_nat z.length z.length 1
    rw [h1, HT.sIx_none, List.drop_zero, Nat.sub_zero]
    show mkS _ = _
    have hl := len_list z
    cases q : z.cps.toList with
    | nil => rw [q] at hl; rw [hl]; rfl
    | cons a r =>
      rw [q] at hl
      rw [show min 1 z.length = 1 by rw [hl, List.length_cons]; omega]
  rw [e, minus_eq]
  refine decide_eq_decide.mpr ?_
  cases z.cps.toList with
  | nil =>
    constructor
    · intro h
      have := mkS_inj (V.str.inj h)
      simp at this
    · intro h; cases h
  | cons a r =>
    constructor
    · intro h
      have := mkS_inj (V.str.inj h)
      show some a = some 45
      rw [(List.cons.inj this).1]
    · intro h
      have : a = 45 := Option.some.inj h
      rw [this]
      rfl
theorem cut_tail (z : PySem.Str) : cutS z (some 1) none = mkS z.cps.toList.tail := by
  unfold cutS
  have h1 : HT.sIx z.length 0 (some 1) = min 1 z.length := HT.sIx_nat z.length 0 1
  rw [h1, HT.sIx_none]
  show mkS _ = _
  have hl := len_list z
  cases q : z.cps.toList with
  | nil => rw [q] at hl; rw [hl]; rfl
  | cons a r =>
    rw [q] at hl
    rw [show min 1 z.length = 1 by rw [hl, List.length_cons]; omega]
    show mkS ((r).take _) = mkS r
    rw [List.take_of_length_le (by rw [hl, List.length_cons]; omega)]
theorem dig_mem (c : Nat) : c ∈ digZ.cps.toList ↔ 48 ≤ c ∧ c ≤ 57 := by
  have e : digZ.cps.toList = (List.range 10).map (48 + ·) := by decide +kernel
  rw [e]
  simp only [List.mem_map, List.mem_range]
  constructor
  · rintro ⟨k, h1, rfl⟩; omega
  · intro h; exact ⟨c - 48, by omega, by omega⟩
theorem figB_filter (l : List Nat) : figB l = (l.filter fun c => !decide (c ∈ digZ.cps.toList)).isEmpty := by
  rw [Bool.eq_iff_iff, List.isEmpty_iff, List.filter_eq_nil_iff, figB_iff]
  unfold NumText.AllDigits
  constructor
  · intro h c hc
    have q := h c hc
    simp only [Bool.not_eq_true', decide_eq_false_iff_not, dig_mem]
    omega
  · intro h c hc
    have q := h c hc
    simp only [Bool.not_eq_true', decide_eq_false_iff_not, dig_mem] at q
    omega
theorem dig_index : ∀ k : Nat, k < 10 → Builtin.Str.occurrences digZ ⟨#[48 + k]⟩ 0 digZ.length 1 = [k] := by decide +kernel
theorem eqv_ne (ds : List PyData) : (!PyData.eqv (.list ds) (.list [])) = !ds.isEmpty := by rw [eqv_nil]
theorem val_take (l : List Nat) (i c : Nat) (h : l[i]? = some c) : NumText.digitsVal (l.take (i + 1)) = NumText.digitsVal (l.take i) * 10 + (c - 48) := by
  rw [List.take_add_one, h]
  unfold NumText.digitsVal
  show List.foldl _ 0 (l.take i ++ [c]) = _
  rw [List.foldl_append]
  rfl
/-- both ways of a conditional expression give the same -/
theorem tIf_val {t : TT} {ta tb : TE} {σ : L2.St} {H : Hp} {Q : VK} (b : Bool) (v : V) (ht : ∀ R : Bool → Hp → Prop, R b H → t σ H R) (h1 : b = true → ∀ R : VK, R v H → ta σ H R) (h2 : b = false → ∀ R : VK, R v H → tb σ H R) (q : Q v H) : tIf t ta tb σ H Q := by
  refine ht _ ?_
  cases b with
  | true => exact iteT (h1 rfl _ q)
  | false => exact iteF (h2 rfl _ q)
def spLRead : Sp := fun vs H Q _ => ∃ z : PySem.Str, vs = [.str z] ∧ z.length ≤ 10000 ∧ Low z ∧ ∀ H', Kept None H H' → Q (numV z.cps.toList) H'
theorem fig_low {z : PySem.Str} (h : Low z) : ∀ e ∈ fig z.cps.toList, e < 256 := by
  intro e he
  unfold fig at he
  split at he
  · exact h e (List.mem_of_mem_tail he)
  · exact h e he
section
variable {P : Program} {w : World} {K : PySem.W.Frag} {mg : PySem.Str → Option Value} {base : Heap} {f : Addr} {fd : FuncData}
theorem ok_lread (F : FnP K "_law_read" sLRead f fd) (m1 : mg "len" = none) : FnOk P w K mg base CX0 1 f fd ["word"] spLRead := by
  refine F.ok (k := 0) scLRead (fun vs H Q E h => ?_) (fun cdv A outer s H vs Q E hr h => ?_)
  · obtain ⟨z, rfl, _⟩ := h
    rfl
  · obtain ⟨z, rfl, hz, hlow, q⟩ := h
    refine ⟨_, PSs.nox (pss_cons (ps_set (i := 1) scLRead.nd rfl (Or.inl rfl) (pe_ifExp (pt_cmpR op_eq (pe_slice sl_str (pv 0) po_none (po_some pe_int)) pe_str (nomark _)) (pe_slice sl_str (pv 0) (po_some pe_int) po_none) (pv 0)))
      (pss_cons (ps_setLc (i := 3) (own := [("sign", 2)]) (g := gName 2) (tt := tTest (tOp rNotInS (tVar 2) (tC (.str digZ)))) (te := tVar 2) rfl scLRead.nd rfl rfl (sw_true rfl rfl rfl (by decide +kernel)) (pi_str (pv 1)) (blkOk_by (own := [("sign", 2)]) (N := ["word", "figures", "sign", "bad", "found"]) (sc := defScope sLRead) (by decide +kernel))
          (fun _ _ _ _ _ => pg_name (i := 2) scLRead.nd rfl (Or.inl rfl)) (fun _ _ _ _ _ => pts_one (by exact (pt_cmpR op_notInS (pv 2) pe_str (by rfl)))) (fun _ _ _ _ _ => pv 2))
      (pss_cons (ps_if (PW.pt (pw_or (pt_cmpR op_eq (pv 1) pe_str (nomark _)) (pw_or (pt_cmpR op_gt (pe_callB call_len_str (by rfl) m1 PySem.boot_len (pa_cons (pv 1) pa_nil)) pe_int (nomark _)) (pw_or (pt_cmpR (op_neD hr.units) (pv 3) (pe_lst pa_nil) (nomark _))
          (pw_or1 (PW.pt (pw_and (pt_cmpR op_eq (pe_ix ix_str (pv 1) pe_int (fun _ _ => rfl)) pe_str (nomark _)) (pw_and1 (pt_cmpR op_ne (pv 0) pe_str (nomark _)))))))))) (pss_one (ps_ret pe_non)) pss_nil)
      (pss_cons (ps_set (i := 4) scLRead.nd rfl (Or.inl rfl) pe_int)
      (pss_cons (ps_for PassesOwn.never rfl (pi_str (pv 1)) (pg_name (i := 2) scLRead.nd rfl (Or.inl rfl)) (pss_one (ps_set (i := 4) scLRead.nd rfl (Or.inl rfl) (pe_op op_add (pe_op op_mul pe_int (pv 4)) (pe_m1 PySem.F.slot_str_index PySem.F.type_str_index mt_sindex pe_str (pv 2))))))
      (pss_one (ps_ret (pe_ifExp (pt_cmpR op_eq (pe_slice sl_str (pv 0) po_none (po_some pe_int)) pe_str (nomark _)) (pe_op op_sub pe_int (pv 4)) (pv 4))))))))), ?_⟩
    have hsz := sizeLine_eq
    have bad : ∀ H', Kept None H H' → numOk z.cps.toList = false → Q .non H' := fun H' kp e => by
      have e2 := q H' kp
      unfold numV at e2
      rw [e] at e2
      exact e2
    have hfl : (mkS (fig z.cps.toList)).length = (fig z.cps.toList).length := mkS_len _
    have hfz : (fig z.cps.toList).length ≤ z.length := by
      rw [len_list]; unfold fig; split
      · rw [List.length_tail]; omega
      · exact Nat.le_refl _
    have hfh : z.cps.toList.head? = some 45 → fig z.cps.toList = z.cps.toList.tail := fun h => by unfold fig; rw [if_pos h]
    have hfn : ¬ z.cps.toList.head? = some 45 → fig z.cps.toList = z.cps.toList := fun h => by unfold fig; rw [if_neg h]
    refine tIf_val (decide (z.cps.toList.head? = some 45)) (.str (mkS (fig z.cps.toList))) (fun R r => ?_) (fun hb R r => ?_) (fun hb R r => ?_) ?_
    · refine ⟨.str z, rfl, 1, rfl, z, rfl, by omega, rfl, _, rfl, ?_⟩
      rw [cut_head]
      exact r
    · refine ⟨.str z, rfl, 1, rfl, z, rfl, by omega, ?_⟩
      rw [cut_tail, ← hfh (of_decide_eq_true hb)]
      exact r
    · refine ⟨.str z, rfl, ?_⟩
      have e : mkS (fig z.cps.toList) = z := by rw [hfn (of_decide_eq_false hb), mkS_of]
      rw [e] at r
      exact r
    -- bad
    have hfl2 := fig_low hlow
    have hdecide : (decide (z.cps.toList.head? = some 45)) = (decide (z.cps.toList.head? = some 45)) := rfl
    refine ⟨.str (mkS (fig z.cps.toList)), rfl, mkS (fig z.cps.toList), rfl, fun D hD => ?_⟩
    have hzL : (mkS (fig z.cps.toList)).cps.size = (fig z.cps.toList).length := by simp [mkS]
    refine lc_it walk_str (fun i H' => Kept None H H' ∧ H' D = some (.lst ((((fig z.cps.toList).take i).filter fun c => !decide (c ∈ digZ.cps.toList)).map fun e => V.str (one e))))
      ⟨Kept.refl.new hD, upd_same⟩ (fun _ _ _ _ => trivial) (fun i x H1 H' hi h y => ?_) (fun H' h => ?_)
    · obtain ⟨k1, k2⟩ := h
      obtain ⟨rfl, c, hc, rfl⟩ := y
      have hc' : (fig z.cps.toList)[i]? = some c := by
        have e : (mkS (fig z.cps.toList)).cps.toList[i]? = some c := by rw [Array.getElem?_toList]; exact hc
        rw [mkS_list] at e
        exact e
      have tf := take_filter (fun c => !decide (c ∈ digZ.cps.toList)) _ i c hc'
      refine ⟨rfl, .str ⟨#[c]⟩, rfl, c, digZ, rfl, rfl, _, rfl, ?_⟩
      cases hb : (!decide (c ∈ digZ.cps.toList)) with
      | true =>
        rw [hb, if_pos rfl] at tf
        have hlen : ((((fig z.cps.toList).take i).filter fun c => !decide (c ∈ digZ.cps.toList)).map fun e => V.str (one e)).length ≤ z.length := by
          rw [List.length_map]
          refine Nat.le_trans (List.length_filter_le _ _) ?_
          rw [List.length_take]
          omega
        refine iteT ⟨.str ⟨#[c]⟩, rfl, _, k2, by omega, fun b o e n => ?_, ?_⟩
        · rw [upd_ne (ne_of_none e hD)]
          exact k1 b o e n
        · rw [upd_same, tf, List.map_append]
          rfl
      | false =>
        rw [hb, if_neg Bool.false_ne_true, List.append_nil] at tf
        refine iteF ⟨k1, ?_⟩
        rw [tf]
        exact k2
    · obtain ⟨k1, k2⟩ := h
      rw [hzL, List.take_length] at k2
      -- figures == ''
      have ee : decide (V.str (mkS (fig z.cps.toList)) = V.str ("" : PySem.Str)) = decide (fig z.cps.toList = []) := by
        refine decide_eq_decide.mpr ?_
        have e0 : ("" : PySem.Str) = mkS [] := by decide +kernel
        rw [e0]
        exact ⟨fun h => mkS_inj (V.str.inj h), fun h => by rw [h]⟩
      refine ⟨.str (mkS (fig z.cps.toList)), rfl, rfl, _, rfl, ?_⟩
      rw [ee]
      by_cases h0 : fig z.cps.toList = []
      · rw [decide_eq_true h0]
        refine iteT ?_
        exact bad H' k1 (by unfold numOk; rw [h0]; rfl)
      · rw [decide_eq_false h0]
        have h1 : 1 ≤ (fig z.cps.toList).length := by
          cases e : fig z.cps.toList with
          | nil => exact absurd e h0
          | cons a r => rw [List.length_cons]; omega
        refine iteF ⟨.str (mkS (fig z.cps.toList)), rfl, mkS (fig z.cps.toList), rfl, by omega, ((mkS (fig z.cps.toList)).length : Int), 4, rfl, rfl, _, rfl, ?_⟩
        rw [hfl]
        by_cases h2 : (fig z.cps.toList).length ≤ 4
        · rw [decide_eq_false (show ¬ (4 : Int) < ((fig z.cps.toList).length : Int) by omega)]
          refine iteF ⟨.ref D, rfl, by show 0 ≤ sizeLine; omega, fun p hp => ?_⟩
          have hDp : D ≠ p := ne_of_none k2 hp
          have kp : Kept None H (upd H' p (.lst [])) := k1.new (k1.free hp)
          refine ⟨.list _, .list [], .lst (.inl (.inl (by rw [upd_ne hDp]; exact k2))) (dpAll_strs K _ one _), .lst (.inl (.inl upd_same)) .nil, shaped_strs one _ (fun e he => low_one (hfl2 e (List.mem_filter.mp he).1)), shaped_nil, _, rfl, ?_⟩
          have e3 : (!PyData.eqv (PyData.list (List.map (fun e => PyData.str (one e)) (List.filter (fun c => !decide (c ∈ digZ.cps.toList)) (fig z.cps.toList)))) (PyData.list [])) = !figB (fig z.cps.toList) := by
            rw [eqv_nil, figB_filter]
            cases List.filter (fun c => !decide (c ∈ digZ.cps.toList)) (fig z.cps.toList) <;> rfl
          rw [e3]
          cases h3 : figB (fig z.cps.toList) with
          | false =>
            refine iteT ?_
            exact bad _ kp (by unfold numOk; rw [h3, Bool.and_false, Bool.false_and])
          | true =>
            refine iteF ?_
            obtain ⟨c, r, hcr⟩ : ∃ c r, fig z.cps.toList = c :: r := by
              cases e : fig z.cps.toList with
              | nil => exact absurd e h0
              | cons c r => exact ⟨c, r, rfl⟩
            refine ⟨.str (mkS (fig z.cps.toList)), rfl, mkS (fig z.cps.toList), 0, c, rfl, rfl, (by rw [hfl]; omega), ?_, rfl, _, rfl, ?_⟩
            · rw [mkS_list, hcr]; exact atI_nat (j := 0) rfl
            · have ec : decide (V.str (⟨#[c]⟩ : PySem.Str) = V.str ("0" : PySem.Str)) = decide (c = 48) := by
                refine decide_eq_decide.mpr ?_
                rw [zero_list]
                constructor
                · intro h
                  have e := mkS_inj (a := [c]) (V.str.inj h)
                  exact (List.cons.inj e).1
                · intro h; subst h; rfl
              have ez : decide (V.str z = V.str ("0" : PySem.Str)) = decide (z.cps.toList = [48]) := by
                refine decide_eq_decide.mpr ?_
                rw [zero_list]
                constructor
                · intro h; rw [V.str.inj h, mkS_list]
                · intro h; rw [← mkS_of z, h]
              have hh : (fig z.cps.toList).head? = some c := by rw [hcr]; rfl
              have hok : numOk z.cps.toList = !(decide (c = 48) && !decide (z.cps.toList = [48])) := by
                unfold numOk
                rw [decide_eq_true h1, decide_eq_true h2, h3, hh]
                have : decide (some c = some 48) = decide (c = 48) := decide_eq_decide.mpr ⟨fun h => Option.some.inj h, fun h => by rw [h]⟩
                rw [this]
                rfl
              rw [ec]
              -- the loop and the return
              have fin : numOk z.cps.toList = true → tSeq (tAsg (tC (.int 0)) (gName 4)) (tSeq (tFor (iStr (tVar 1)) (gName 2) (tAsg (tOp (rI0 fun i j => .int (i + j)) (tOp (rI CMul fun i j => .int (i * j)) (tC (.int 10)) (tVar 4)) (tM1 (fun x xs H Q => ∃ a b i rest, x = V.str a ∧ xs = [V.str b] ∧ Builtin.Str.occurrences a b 0 a.length 1 = i :: rest ∧ Q (.int (i : Nat)) H) (tC (.str digZ)) (tVar 2))) (gName 4)))
                    (tRet (tIf (tTest (tOp rEq (tSl rSlS (tVar 0) tNoPart (tPart (tC (.int 1)))) (tC (.str "-")))) (tOp (rI0 fun i j => .int (i - j)) (tC (.int 0)) (tVar 4)) (tVar 4))))
                  { nx := fun _ H' => Q .non H', rt := Q } [some (.str z), some (.str (mkS (fig z.cps.toList))), none, some (.ref D), none] (upd H' p (.lst [])) := fun ok => by
                have ad := (figB_iff _).mp h3
                refine ⟨.str (mkS (fig z.cps.toList)), rfl, mkS (fig z.cps.toList), rfl, ?_⟩
                refine for_it walk_str (fun i σ H2 => ∃ x2, σ = [some (.str z), some (.str (mkS (fig z.cps.toList))), x2, some (.ref D), some (.int ((NumText.digitsVal ((fig z.cps.toList).take i) : Nat) : Int))] ∧ H2 = upd H' p (.lst []))
                  ⟨none, rfl, rfl⟩ (fun _ _ _ _ _ => trivial) (fun i x σ H2 H3 hi h y => ?_) (fun σ H2 h => ?_)
                · obtain ⟨x2, rfl, rfl⟩ := h
                  obtain ⟨rfl, e, he, rfl⟩ := y
                  have he' : (fig z.cps.toList)[i]? = some e := by
                    have e1 : (mkS (fig z.cps.toList)).cps.toList[i]? = some e := by rw [Array.getElem?_toList]; exact he
                    rw [mkS_list] at e1
                    exact e1
                  obtain ⟨e48, e57⟩ := ad e (List.mem_of_getElem? he')
                  obtain ⟨k, rfl⟩ : ∃ k, e = 48 + k := ⟨e - 48, by omega⟩
                  refine ⟨.int _, rfl, 10, _, rfl, rfl, .inl ⟨by decide, by decide⟩, ⟨digZ, rfl⟩, .str ⟨#[48 + k]⟩, rfl, digZ, ⟨#[48 + k]⟩, k, [], rfl, rfl, dig_index k (by omega), _, _, rfl, rfl, some (.str ⟨#[48 + k]⟩), ?_, rfl⟩
                  rw [val_take _ _ _ he', Nat.add_sub_cancel_left]
                  show [_, _, _, _, some (V.int (10 * _ + (k : Int)))] = _
                  rw [Int.mul_comm]
                  push_cast
                  rfl
                · obtain ⟨x2, rfl, rfl⟩ := h
                  rw [hzL, List.take_length]
                  have qv : Q (.int (numI z.cps.toList)) (upd H' p (.lst [])) := by
                    have e3 := q _ kp
                    unfold numV at e3
                    rw [if_pos ok] at e3
                    exact e3
                  show tIf (tTest (tOp rEq (tSl rSlS (tVar 0) tNoPart (tPart (tC (V.int 1)))) (tC (V.str (PySem.Str.ofString "-"))))) (tOp (rI0 fun i j => V.int (i - j)) (tC (V.int 0)) (tVar 4)) (tVar 4) _ _ Q
                  refine tIf_val (decide (z.cps.toList.head? = some 45)) (.int (numI z.cps.toList)) (fun R r => ?_) (fun hb R r => ?_) (fun hb R r => ?_) qv
                  · refine ⟨.str z, rfl, 1, rfl, z, rfl, by omega, rfl, _, rfl, ?_⟩
                    rw [cut_head]
                    exact r
                  · refine ⟨.int _, rfl, 0, _, rfl, rfl, ?_⟩
                    have en : numI z.cps.toList = 0 - ((NumText.digitsVal (fig z.cps.toList) : Nat) : Int) := by unfold numI; rw [if_pos (of_decide_eq_true hb)]; omega
                    rw [en] at r
                    exact r
                  · refine ⟨.int _, rfl, ?_⟩
                    have en : numI z.cps.toList = ((NumText.digitsVal (fig z.cps.toList) : Nat) : Int) := by unfold numI; rw [if_neg (of_decide_eq_false hb)]
                    rw [en] at r
                    exact r
              cases hc : decide (c = 48) with
              | false =>
                refine iteF ?_
                exact fin (by rw [hok, hc]; rfl)
              | true =>
                refine iteT ⟨.str z, rfl, rfl, _, rfl, ?_⟩
                rw [ez]
                cases hzz : decide (z.cps.toList = [48]) with
                | false =>
                  refine iteT ?_
                  exact bad _ kp (by rw [hok, hc, hzz]; rfl)
                | true =>
                  refine iteF ?_
                  exact fin (by rw [hok, hc, hzz]; rfl)
        · rw [decide_eq_true (show (4 : Int) < ((fig z.cps.toList).length : Int) by omega)]
          refine iteT ?_
          exact bad _ k1 (by unfold numOk; rw [decide_eq_false h2, Bool.and_false, Bool.false_and, Bool.false_and])
end
end K1

set_option Elab.async false
set_option linter.all false
set_option maxRecDepth 100000
set_option maxHeartbeats 4000000
namespace K1
open PySem PySem.Spec PyProof.Rows L2
abbrev sWR : Stmt := top 16
theorem scWR : FnScope ["draw", "least", "most", "some", "thing", "due", "found"] ["draw"] (defScope sWR) := ⟨rfl, rfl, rfl, by decide +kernel, rfl, by decide +kernel, by decide +kernel⟩
def plainV (x : V) : Prop := x = .non ∨ ∃ i, x = .int i
def spLSame : Sp := fun vs H Q _ => ∃ x : V, vs = [x, x] ∧ plainV x ∧ Q (.bl true) H
theorem numV_plain (l : List Nat) : plainV (numV l) := by
  unfold numV
  split
  · exact .inr ⟨_, rfl⟩
  · exact .inl rfl
/-- a draw's test, which comes out true -/
def spTrue (n0 : Nat) (P : Hp → Prop) : Sp := fun vs H Q _ => ∃ (d c : Addr) (ns : List Int) (n : Nat), vs = [.ref d] ∧ Dr H d c ns n ∧ n ≤ 700000000 ∧ P H ∧ ∀ H', Kept (At d) H H' → Dr H' d c ns (n + n0) → Q (.bl true) H'
section
variable {P : Program} {w : World} {K : PySem.W.Frag} {mg : PySem.Str → Option Value} {base : Heap} {f fN fW : Addr} {fd fdN fdW : FuncData}
theorem ok_lsame (F : FnP K "_law_same" sLSame f fd) (m1 : mg "isinstance" = none) (m2 : mg "int" = none) (m3 : mg "bool" = none) : FnOk P w K mg base CX0 1 f fd ["found", "due"] spLSame := by
  refine F.ok (k := 0) scLSame (fun vs H Q E h => ?_) (fun cdv A outer s H vs Q E hr h => ?_)
  · obtain ⟨x, rfl, _⟩ := h
    rfl
  · obtain ⟨x, rfl, hx, q⟩ := h
    refine ⟨_, PSs.nox (pss_cons (ps_if (pt_cmpR op_isN (pv 1) pe_non (nomark _)) (pss_one (ps_ret (pe_cmpR op_isN (pv 0) pe_non (nomark _)))) pss_nil)
      (pss_one (ps_ret (pe_and (pe_callB call_isi (by rfl) m1 (by decide +kernel) (pa_cons (pv 0) (pa_cons (pe_bltn (v := .ty "int") (by rfl) m2 (by decide +kernel) rfl) pa_nil)))
        (pe_and (pe_not (pe_callB call_isi (by rfl) m1 (by decide +kernel) (pa_cons (pv 0) (pa_cons (pe_bltn (v := .ty "bool") (by rfl) m3 (by decide +kernel) rfl) pa_nil))))
        (pe_one (pe_cmpR op_eq (pv 0) (pv 1) (nomark _)))))))), ?_⟩
    rcases hx with rfl | ⟨i, rfl⟩
    · refine ⟨.non, rfl, rfl, _, rfl, ?_⟩
      rw [decide_eq_true rfl]
      refine iteT ⟨.non, rfl, rfl, ?_⟩
      rw [decide_eq_true rfl]
      exact q
    · have kt := kit_all K (T := "int") (by decide)
      refine ⟨.int i, rfl, rfl, _, rfl, ?_⟩
      rw [decide_eq_false (show ¬ V.int i = V.non by intro z; cases z)]
      refine iteF ⟨.int i, rfl, .int i, .ty "int", .type "int", .type "int", _, rfl, .ty "int", .base (.int i), kt.2.1, _, rfl, ?_⟩
      refine iteT ⟨.int i, rfl, .int i, .ty "bool", .type "int", .type "bool", _, rfl, .ty "bool", .base (.int i), kt.2.2, _, rfl, _, rfl, ?_⟩
      refine iteT ⟨.int i, rfl, .int i, rfl, rfl, ?_⟩
      rw [decide_eq_true rfl]
      exact q
theorem due_is {K : PySem.W.Frag} {H : Hp} {x : V} {T : String} (t : Th K H x T) (lo hi : Int) : wholeB x lo hi = ((decide (T = "int") || decide (T = "bool")) && (!decide (T = "bool") && wholeB x lo hi)) := by
  rcases tyb_int t.b with ⟨rfl, i, rfl⟩ | ⟨hn, hw⟩
  · rfl
  · rw [hw, Bool.and_false, Bool.and_false]
theorem ok_wr (F : FnP K "_law_whole_right" sWR f fd) (GN : FnOk P w K mg base CX0 2 fN fdN ["draw", "many"] spNext) (bN : Binds K fdN ["draw", "many"] []) (kN : PySem.W.keepIn K (.ref fN) = true) (gN : mg "_law_next" = some (.ref fN))
    (GW : FnOk P w K mg base CX0 1 fW fdW ["thing", "least", "most"] (spWhole K)) (bW : Binds K fdW ["thing", "least", "most"] []) (kW : PySem.W.keepIn K (.ref fW) = true) (gW : mg "is_whole" = some (.ref fW))
    (m1 : mg "isinstance" = none) (m2 : mg "int" = none) (m3 : mg "bool" = none) : FnOk P w K mg base CX0 3 f fd ["draw"] (spTrue 100 fun _ => True) := by
  refine F.ok (k := 2) scWR (fun vs H Q E h => ?_) (fun cdv A outer s H vs Q E hr h => ?_)
  · obtain ⟨d, c, ns, n, rfl, _⟩ := h
    rfl
  · obtain ⟨d, c, ns, n, rfl, D, hn, _, q⟩ := h
    have hr1 := hr.mono (show 1 ≤ 2 by decide)
    refine ⟨_, PSs.nox (pss_cons (ps_set (i := 1) scWR.nd rfl (Or.inl rfl) (pe_op op_sub (pe_call GN hr (by rfl) gN kN bN .nil pass0 (pa_cons (pv 0) (pa_cons pe_int pa_nil))) pe_int))
      (pss_cons (ps_set (i := 2) scWR.nd rfl (Or.inl rfl) (pe_op op_sub (pe_op op_add (pv 1) (pe_call GN hr (by rfl) gN kN bN .nil pass0 (pa_cons (pv 0) (pa_cons pe_int pa_nil)))) pe_int))
      (pss_cons (ps_set (i := 3) scWR.nd rfl (Or.inl rfl) (pe_lst (pa_cons (pv 1) (pa_cons (pv 2) (pa_cons (pe_op op_sub (pv 1) pe_int) (pa_cons (pe_op op_add (pv 2) pe_int) (pa_cons pe_int (pa_cons (pe_op op_pow pe_int pe_int) (pa_cons (pe_un un_neg (pe_op op_pow pe_int pe_int)) (pa_cons pe_non (pa_cons pe_bl (pa_cons pe_bl (pa_cons pe_str
          (pa_cons (pe_lst (pa_cons pe_int pa_nil)) (pa_cons (pe_tup (pa_cons pe_int pa_nil)) (pa_cons pe_dnewK pa_nil))))))))))))))))
      (pss_cons (ps_set (i := 4) scWR.nd rfl (Or.inl rfl) (pe_ix ix_list (pv 3) (pe_call GN hr (by rfl) gN kN bN .nil pass0 (pa_cons (pv 0) (pa_cons pe_int pa_nil))) (fun _ _ => rfl)))
      (pss_cons (ps_set (i := 5) scWR.nd rfl (Or.inl rfl) (pe_and (pe_callB call_isi (by rfl) m1 (by decide +kernel) (pa_cons (pv 4) (pa_cons (pe_bltn (v := .ty "int") (by rfl) m2 (by decide +kernel) rfl) pa_nil)))
          (pe_and (pe_not (pe_callB call_isi (by rfl) m1 (by decide +kernel) (pa_cons (pv 4) (pa_cons (pe_bltn (v := .ty "bool") (by rfl) m3 (by decide +kernel) rfl) pa_nil)))) (pe_one (pe_chain op_le op_le (pv 1) (pv 4) (pv 2))))))
      (pss_cons (ps_set (i := 6) scWR.nd rfl (Or.inl rfl) (pe_call GW hr1 (by rfl) gW kW bW .nil pass0 (pa_cons (pv 4) (pa_cons (pv 1) (pa_cons (pv 2) pa_nil)))))
      (pss_one (ps_ret (pe_and (pe_callB call_isi (by rfl) m1 (by decide +kernel) (pa_cons (pv 6) (pa_cons (pe_bltn (v := .ty "bool") (by rfl) m3 (by decide +kernel) rfl) pa_nil))) (pe_one (pe_cmpR op_eq (pv 6) (pv 5) (nomark _)))))))))))), ?_⟩
    refine ⟨.ref d, rfl, d, c, ns, n, 41, rfl, D, by omega, by omega, by omega, fun r1 H1 a1 b1 k1 D1 => ?_⟩
    refine ⟨r1, 20, rfl, rfl, ?_⟩
    refine ⟨.int (r1 - 20), rfl, .ref d, rfl, d, c, ns, n + 1, 9, rfl, D1, by omega, by omega, by omega, fun r2 H2 a2 b2 k2 D2 => ?_⟩
    refine ⟨r1 - 20, r2, rfl, rfl, _, 1, rfl, rfl, ?_⟩
    have kH2 := k1.trans k2
    dsimp only
    generalize r1 - 20 = lo
    generalize lo + r2 - 1 = hi
    -- the list of things
    refine ⟨.int lo, rfl, .int hi, rfl, .int lo, rfl, lo, 1, rfl, rfl, .int hi, rfl, hi, 1, rfl, rfl, 10, 30, rfl, rfl, ⟨by decide, by decide, by decide⟩, 10, 30, rfl, rfl, ⟨by decide, by decide, by decide⟩, _, rfl, ?_⟩
    refine ⟨by show 1 ≤ sizeLine; decide, fun p1 hp1 => ?_⟩
    refine ⟨by show 1 ≤ sizeLine; decide, fun p2 hp2 => ?_⟩
    refine fun p3 hp3 => ?_
    refine ⟨by show 14 ≤ sizeLine; decide, fun p4 hp4 => ?_⟩
    have n12 : p1 ≠ p2 := fun e => by rw [← e, upd_same] at hp2; cases hp2
    have n23 : p2 ≠ p3 := fun e => by rw [← e, upd_same] at hp3; cases hp3
    have n34 : p3 ≠ p4 := fun e => by rw [← e, upd_same] at hp4; cases hp4
    have n13 : p1 ≠ p3 := fun e => by rw [← e, upd_ne n12, upd_same] at hp3; cases hp3
    have n24 : p2 ≠ p4 := fun e => by rw [← e, upd_ne n23, upd_same] at hp4; cases hp4
    have n14 : p1 ≠ p4 := fun e => by rw [← e, upd_ne n13, upd_ne n12, upd_same] at hp4; cases hp4
    dsimp only
    have e1 : (upd (upd (upd H2 p1 (.lst [.int 1])) p2 (.tup [.int 1])) p3 (.dK [])) p1 = some (.lst [.int 1]) := by rw [upd_ne n13, upd_ne n12, upd_same]
    have e2 : (upd (upd (upd H2 p1 (.lst [.int 1])) p2 (.tup [.int 1])) p3 (.dK [])) p2 = some (.tup [.int 1]) := by rw [upd_ne n23, upd_same]
    have e3 : (upd (upd (upd H2 p1 (.lst [.int 1])) p2 (.tup [.int 1])) p3 (.dK [])) p3 = some (.dK []) := upd_same
    have k3 : Kept None H2 (upd (upd (upd H2 p1 (.lst [.int 1])) p2 (.tup [.int 1])) p3 (.dK [])) := ((Kept.refl.new hp1).trans (Kept.refl.new hp2)).trans (Kept.refl.new hp3)
    generalize upd (upd (upd H2 p1 (.lst [.int 1])) p2 (.tup [.int 1])) p3 (.dK []) = H3 at e1 e2 e3 k3 hp4 ⊢
    have k4 : Kept None H2 (upd H3 p4 (.lst [.int lo, .int hi, .int (lo - 1), .int (hi + 1), .int 0, .int (10 ^ (30 : Int).toNat), .int (-(10 ^ (30 : Int).toNat)), .non, .bl true, .bl false, .str "1", .ref p1, .ref p2, .ref p3])) := k3.trans (Kept.refl.new hp4)
    have D4 := D2.stay k4
    refine ⟨.ref p4, rfl, .ref d, rfl, d, c, ns, _, 14, rfl, D4, by omega, by omega, by omega, fun r5 H5 a5 b5 k5 D5 => ?_⟩
    have nd : ∀ p o, (upd H3 p4 (.lst [.int lo, .int hi, .int (lo - 1), .int (hi + 1), .int 0, .int (10 ^ (30 : Int).toNat), .int (-(10 ^ (30 : Int).toNat)), .non, .bl true, .bl false, .str "1", .ref p1, .ref p2, .ref p3])) p = some o → (∀ kvs, o ≠ .dK kvs) → ¬ p = d := fun p o e hk z => by
      obtain ⟨_, _, _, y, _⟩ := D4.at_
      rw [z, y] at e
      exact hk _ (Option.some.inj e).symm
    have nd3 : ¬ p3 = d := fun z => by
      obtain ⟨a, l, u, y, _⟩ := D4.at_
      rw [← z, upd_ne n34, e3] at y
      cases y
    have f4 : H5 p4 = some (.lst [.int lo, .int hi, .int (lo - 1), .int (hi + 1), .int 0, .int (10 ^ (30 : Int).toNat), .int (-(10 ^ (30 : Int).toNat)), .non, .bl true, .bl false, .str "1", .ref p1, .ref p2, .ref p3]) := k5.lst upd_same (nd _ _ upd_same (fun _ z => by cases z))
    have f1 : H5 p1 = some (.lst [.int 1]) := k5.lst (by rw [upd_ne n14]; exact e1) (nd _ _ (by rw [upd_ne n14]; exact e1) (fun _ z => by cases z))
    have f2 : H5 p2 = some (.tup [.int 1]) := k5.tup (by rw [upd_ne n24]; exact e2) (nd _ _ (by rw [upd_ne n24]; exact e2) (fun _ z => by cases z))
    have f3 : H5 p3 = some (.dK []) := k5.dK (by rw [upd_ne n34]; exact e3) nd3
    obtain ⟨x, hx, T, hT⟩ : ∃ x, atI [V.int lo, .int hi, .int (lo - 1), .int (hi + 1), .int 0, .int (10 ^ (30 : Int).toNat), .int (-(10 ^ (30 : Int).toNat)), .non, .bl true, .bl false, .str "1", .ref p1, .ref p2, .ref p3] r5 = some x ∧ ∃ T, Th K H5 x T := at_nat (m := 14) a5 b5 rfl _ (fun x hx => by
      simp only [List.mem_cons, List.not_mem_nil, or_false] at hx
      rcases hx with rfl | rfl | rfl | rfl | rfl | rfl | rfl | rfl | rfl | rfl | rfl | rfl | rfl | rfl
      · exact ⟨_, .int _⟩
      · exact ⟨_, .int _⟩
      · exact ⟨_, .int _⟩
      · exact ⟨_, .int _⟩
      · exact ⟨_, .int _⟩
      · exact ⟨_, .int _⟩
      · exact ⟨_, .int _⟩
      · exact ⟨_, .non⟩
      · exact ⟨_, .bl _⟩
      · exact ⟨_, .bl _⟩
      · exact ⟨_, .str _⟩
      · exact ⟨_, .lst f1⟩
      · exact ⟨_, .tup f2⟩
      · exact ⟨_, .dK f3⟩)
    have hk : Kept (At d) H H5 := (kH2.trans (k4.weak fun _ z => z.elim)).trans k5
    refine ⟨p4, _, r5, x, rfl, rfl, .inl (.inl f4), hx, ?_⟩
    clear hx
    have kt := kit_all K hT.k
    -- due, found
    have dd := due_is hT lo hi
    have qq : Q (.bl true) H5 := q H5 hk (D5.more (by omega))
    have tail : ∀ v : Bool, v = wholeB x lo hi → tSeq (tAsg (tCall (spWhole K) [] E0 (tCons (tVar 4) (tCons (tVar 1) (tCons (tVar 2) tNil)))) (gName 6)) (tRet (tAndV (tCB (rIsi K) (tCons (tVar 6) (tCons (tC (.ty "bool")) tNil))) (tOp rEq (tVar 6) (tVar 5))))
        { nx := fun _ H' => Q .non H', rt := Q } [some (.ref d), some (.int lo), some (.int hi), some (.ref p4), some x, some (.bl v), none] H5 := fun v hv => by
      refine ⟨x, rfl, .int lo, rfl, .int hi, rfl, x, T, lo, hi, rfl, hT.b, ?_⟩
      refine ⟨.bl _, rfl, .bl _, .ty "bool", .type "bool", .type "bool", _, rfl, .ty "bool", .base (.bl _), (kit_all K (T := "bool") (by decide)).2.2, _, rfl, ?_⟩
      refine iteT ⟨.bl _, rfl, .bl v, rfl, rfl, ?_⟩
      rw [hv, decide_eq_true rfl]
      exact qq
    refine ⟨x, rfl, x, .ty "int", .type T, .type "int", _, rfl, .ty "int", hT.x, kt.2.1, _, rfl, ?_⟩
    cases hi1 : (decide (T = "int") || decide (T = "bool")) with
    | false =>
      rw [hi1, Bool.false_and] at dd
      exact iteF (tail false dd.symm)
    | true =>
      rw [hi1, Bool.true_and] at dd
      refine iteT ⟨x, rfl, x, .ty "bool", .type T, .type "bool", _, rfl, .ty "bool", hT.x, kt.2.2, _, rfl, _, rfl, ?_⟩
      cases hb1 : decide (T = "bool") with
      | true =>
        rw [hb1] at dd
        exact iteF (tail false dd.symm)
      | false =>
        rw [hb1, Bool.or_false] at hi1
        have hTi : T = "int" := of_decide_eq_true hi1
        rcases tyb_int hT.b with ⟨_, i, rfl⟩ | ⟨hn, _⟩
        · refine iteT ⟨.int lo, rfl, .int i, rfl, lo, i, rfl, rfl, _, rfl, ?_⟩
          cases e : decide (lo ≤ i) with
          | true => exact iteT ⟨.int hi, rfl, i, hi, rfl, rfl, tail _ (by show decide (i ≤ hi) = (decide (lo ≤ i) && decide (i ≤ hi)); rw [e, Bool.true_and])⟩
          | false => exact iteF (tail false (by show false = (decide (lo ≤ i) && decide (i ≤ hi)); rw [e, Bool.false_and]))
        · exact absurd hTi hn
end
end K1

set_option Elab.async false
set_option linter.all false
set_option maxRecDepth 100000
set_option maxHeartbeats 4000000
namespace K1
open PySem PySem.Spec PyProof.Rows L2
abbrev sLParted : Stmt := top 18
theorem scLParted : FnScope ["text", "found", "word", "sign"] ["text"] (defScope sLParted) := ⟨rfl, rfl, rfl, by decide +kernel, rfl, by decide +kernel, by decide +kernel⟩
theorem parts_step {c : Nat} {l : List Nat} {d : List (List Nat)} {u : List Nat} (h : parts c l = d ++ [u]) (x : Nat) : parts c (l ++ [x]) = if x = c then d ++ [u] ++ [[]] else d ++ [u ++ [x]] := by
  obtain ⟨d', u', e1, e2⟩ := parts_snoc c l x
  rw [h] at e1
  have hd : d = d' := List.append_inj_left' e1 rfl
  have hu : u = u' := by
    have := List.append_inj_right' e1 rfl
    exact (List.cons.inj this).1
  subst hd
  subst hu
  exact e2
theorem parts_nil (c : Nat) : parts c [] = [] ++ [[]] := rfl
theorem cut_init (xs : List V) (x : V) : cutV (xs ++ [x]) none (some (-1)) = xs := by
  unfold cutV
  rw [HT.sIx_none]
  have hl : (xs ++ [x]).length = xs.length + 1 := by simp
  have e : HT.sIx (xs ++ [x]).length (xs ++ [x]).length (some (-1)) = xs.length := by
    unfold HT.sIx
    rw [hl]
    simp only [Int.reduceNeg, Int.reduceLT, if_true]
    omega
  rw [e, List.drop_zero, Nat.sub_zero]
  exact List.take_left' rfl
/-- the rows that are made so far, the one that is being made at t -/
structure Pt (H0 H' : Hp) (F t : Addr) (as : List Addr) (Dn : List (List Nat)) (E : List (List Nat)) : Prop where
  k : Kept None H0 H'
  nF : H0 F = none
  nt : H0 t = none
  ne : t ≠ F
  f : H' F = some (.lst (as.map V.ref ++ [.ref t]))
  r : H' t = some (.lst ((E.filter ne0).map wv))
  len : as.length = Dn.length
  old : ∀ (j : Nat) (a : Addr) (l : List Nat), as[j]? = some a → Dn[j]? = some l → H' a = some (.lst ((words l).map wv)) ∧ a ≠ F ∧ a ≠ t
theorem Pt.stay {H0 H' H2 : Hp} {F t : Addr} {as : List Addr} {Dn E : List (List Nat)} (p : Pt H0 H' F t as Dn E) (k : Kept None H' H2) : Pt H0 H2 F t as Dn E :=
  ⟨p.k.trans k, p.nF, p.nt, p.ne, k.lst p.f (fun z => z), k.lst p.r (fun z => z), p.len, fun j a l e1 e2 => let ⟨h1, h2, h3⟩ := p.old j a l e1 e2; ⟨k.lst h1 (fun z => z), h2, h3⟩⟩
/-- a word more in the last row -/
theorem Pt.put {H0 H' : Hp} {F t : Addr} {as : List Addr} {Dn E : List (List Nat)} (p : Pt H0 H' F t as Dn E) (W : List Nat) : Pt H0 (upd H' t (.lst ((((E ++ [W]).filter ne0)).map wv))) F t as Dn (E ++ [W]) where
  k := fun b o e n => by
    rw [upd_ne (ne_of_none e p.nt)]
    exact p.k b o e n
  nF := p.nF
  nt := p.nt
  ne := p.ne
  f := by rw [upd_ne (Ne.symm p.ne)]; exact p.f
  r := upd_same
  len := p.len
  old := fun j a l e1 e2 => by
    obtain ⟨h1, h2, h3⟩ := p.old j a l e1 e2
    exact ⟨by rw [upd_ne h3]; exact h1, h2, h3⟩
/-- a new row -/
theorem Pt.row {H0 H' : Hp} {F t q : Addr} {as : List Addr} {Dn E : List (List Nat)} {U : List Nat} (p : Pt H0 H' F t as Dn E) (hU : words U = E.filter ne0) (hq : H' q = none) : Pt H0 (upd (upd H' q (.lst [])) F (.lst ((as ++ [t]).map V.ref ++ [.ref q]))) F q (as ++ [t]) (Dn ++ [U]) [] := by
  have qF : q ≠ F := fun z => by rw [z, p.f] at hq; cases hq
  have qt : q ≠ t := fun z => by rw [z, p.r] at hq; cases hq
  refine ⟨fun b o e n => ?_, p.nF, p.k.free hq, qF, upd_same, ?_, ?_, fun j a l e1 e2 => ?_⟩
  · rw [upd_ne (ne_of_none e p.nF), upd_ne (ne_of_none e (p.k.free hq))]
    exact p.k b o e n
  · rw [upd_ne qF, upd_same]
    rfl
  · rw [List.length_append, List.length_append, p.len]
    rfl
  · by_cases hj : j < as.length
    · rw [List.getElem?_append_left hj] at e1
      rw [List.getElem?_append_left (by rw [← p.len]; exact hj)] at e2
      obtain ⟨h1, h2, h3⟩ := p.old j a l e1 e2
      have aq : a ≠ q := fun z => by rw [z, hq] at h1; cases h1
      exact ⟨by rw [upd_ne h2, upd_ne aq]; exact h1, h2, aq⟩
    · have hj2 : j = as.length := by
        have := (List.getElem?_eq_some_iff.mp e1).1
        rw [List.length_append] at this
        simp only [List.length_cons, List.length_nil] at this
        omega
      subst hj2
      rw [List.getElem?_append_right (Nat.le_refl _), Nat.sub_self] at e1
      rw [List.getElem?_append_right (by rw [p.len]; exact Nat.le_refl _), p.len, Nat.sub_self] at e2
      have ea : t = a := Option.some.inj e1
      have el : U = l := Option.some.inj e2
      subst ea
      subst el
      exact ⟨by rw [upd_ne p.ne, upd_ne (Ne.symm qt), hU]; exact p.r, p.ne, Ne.symm qt⟩
def spParted : Sp := fun vs H Q _ => ∃ z : PySem.Str, vs = [.str z] ∧ z.length ≤ 10000 ∧ ∀ p H', H p = none → Kept None H H' → RowsAt (fun _ => none) H' p (rows z.cps.toList) → Q (.ref p) H'
theorem blanks_mem (c : Nat) : c ∈ (" \n" : PySem.Str).cps.toList ↔ c = 32 ∨ c = 10 := by
  have e : (" \n" : PySem.Str).cps.toList = [32, 10] := by decide +kernel
  rw [e]
  simp
theorem wne (W : List Nat) : (!decide (V.str (mkS W) = V.str ("" : PySem.Str))) = ne0 W := by
  have e0 : ("" : PySem.Str) = mkS [] := by decide +kernel
  rw [e0]
  cases W with
  | nil => rfl
  | cons a r =>
    rw [decide_eq_false]
    · rfl
    · intro h
      have := mkS_inj (V.str.inj h)
      cases this
theorem rep_b (W : List Nat) (b : Bool) : (List.replicate (if b then (1 : Int) else 0).toNat [wv W]).flatten = if b = true then [wv W] else [] := by
  cases b <;> simp
section
variable {P : Program} {w : World} {K : PySem.W.Frag} {mg : PySem.Str → Option Value} {base : Heap} {f : Addr} {fd : FuncData}
theorem ok_parted (F : FnP K "_law_parted" sLParted f fd) (m1 : mg "int" = none) : FnOk P w K mg base CX0 1 f fd ["text"] spParted := by
  refine F.ok (k := 0) scLParted (fun vs H Q E h => ?_) (fun cdv A outer s H vs Q E hr h => ?_)
  · obtain ⟨z, rfl, _⟩ := h
    rfl
  · obtain ⟨z, rfl, hz, q⟩ := h
    refine ⟨_, PSs.nox (pss_cons (ps_par (i := 1) (j := 2) (by rfl) scLParted.nd rfl rfl (by decide) rfl rfl (pa_cons (pe_lst (pa_cons (pe_lst pa_nil) pa_nil)) (pa_cons pe_str pa_nil)) (by rfl))
      (pss_cons (ps_for PassesOwn.never rfl (pi_str (pe_op op_add_str (pv 0) pe_str)) (pg_name (i := 3) scLParted.nd rfl (Or.inl rfl))
        (pss_cons (ps_if (pt_cmpR op_inS (pv 3) pe_str (by rfl))
            (pss_cons (ps_expr (pe_bm PySem.F.plainAttrs_list PySem.F.slot_list_extend PySem.F.type_list_extend mt_extend (pe_ix ix_list (pv 1) (pe_un un_neg pe_int) (fun _ _ => rfl)) (pa_cons (pe_op op_rep (pe_lst (pa_cons (pv 2) pa_nil)) (pe_callTy call_int1 (by rfl) m1 (by decide +kernel) (pa_cons (pe_cmpR op_ne (pv 2) pe_str (nomark _)) pa_nil))) pa_nil)))
            (pss_one (ps_set (i := 2) scLParted.nd rfl (Or.inl rfl) pe_str)))
            (pss_one (ps_set (i := 2) scLParted.nd rfl (Or.inl rfl) (pe_op op_add_str (pv 2) (pv 3)))))
        (pss_one (ps_if (pt_cmpR op_eq (pv 3) pe_str (nomark _))
            (pss_one (ps_expr (pe_bm PySem.F.plainAttrs_list PySem.F.slot_list_append PySem.F.type_list_append mt_append (pv 1) (pa_cons (pe_lst pa_nil) pa_nil)))) pss_nil))))
      (pss_one (ps_ret (pe_slice sl_list (pv 1) po_none (po_some (pe_un un_neg pe_int))))))), ?_⟩
    have hsz := sizeLine_eq
    refine ⟨by show 0 ≤ sizeLine; omega, fun t ht => ⟨by show 1 ≤ sizeLine; omega, fun F hF => ?_⟩⟩
    have tF : t ≠ F := fun e => by rw [← e, upd_same] at hF; cases hF
    have hF0 : H F = none := by rw [upd_ne (Ne.symm tF)] at hF; exact hF
    refine ⟨_, _, rfl, ?_⟩
    have zl := len_list z
    refine ⟨.str z, rfl, z, "\n", rfl, rfl, by show z.length + 1 ≤ sizeLine; omega, _, rfl, ?_⟩
    have el : (z ++ ("\n" : PySem.Str)).cps.toList = z.cps.toList ++ [10] := by
      have e : (z ++ ("\n" : PySem.Str)).cps = z.cps ++ ("\n" : PySem.Str).cps := rfl
      rw [e, Array.toList_append]
      rfl
    have es : (z ++ ("\n" : PySem.Str)).cps.size = (z.cps.toList ++ [10]).length := by rw [← el]; simp
    have p0 : Pt H (upd (upd H t (.lst [])) F (.lst [.ref t])) F t [] [] [] := by
      refine ⟨?_, hF0, ht, tF, upd_same, by rw [upd_ne tF, upd_same]; rfl, rfl, fun j a l e => by simp at e⟩
      exact (Kept.refl.new ht).trans (Kept.refl.new hF)
    refine for_it walk_str (fun i σ H' => ∃ (t : Addr) (as : List Addr) (Dn E : List (List Nat)) (U W : List Nat) (x3 : Option V), σ = [some (.str z), some (.ref F), some (.str (mkS W)), x3] ∧ Pt H H' F t as Dn E ∧
        parts 10 ((z.cps.toList ++ [10]).take i) = Dn ++ [U] ∧ parts 32 U = E ++ [W])
      ⟨t, [], [], [], [], [], none, rfl, p0, rfl, rfl⟩ (fun _ _ _ _ _ => trivial) (fun i x σ H1 H2 hi h y => ?_) (fun σ H' h => ?_)
    · obtain ⟨t, as, Dn, E, U, W, x3, rfl, p, e1, e2⟩ := h
      obtain ⟨rfl, c, hc, rfl⟩ := y
      have hc' : (z.cps.toList ++ [10])[i]? = some c := by rw [← el, Array.getElem?_toList]; exact hc
      have ht : (z.cps.toList ++ [10]).take (i + 1) = (z.cps.toList ++ [10]).take i ++ [c] := by rw [List.take_add_one, hc']; rfl
      have st := parts_step e1 c
      have st2 := parts_step e2 c
      -- sizes
      have lU : U.length ≤ 10001 := by
        have h1 := parts_mem_len 10 _ U (by rw [e1]; exact List.mem_append_right _ List.mem_cons_self)
        rw [List.length_take, List.length_append] at h1
        simp only [List.length_cons, List.length_nil] at h1
        omega
      have lW : W.length ≤ 10001 := by
        have h1 := parts_mem_len 32 _ W (by rw [e2]; exact List.mem_append_right _ List.mem_cons_self)
        omega
      have lE : E.length ≤ 10002 := by
        have h1 := parts_len 32 U
        rw [e2, List.length_append] at h1
        omega
      have lD : as.length ≤ 10002 := by
        have h1 := parts_len 10 ((z.cps.toList ++ [10]).take i)
        rw [e1, List.length_append, List.length_take, List.length_append] at h1
        simp only [List.length_cons, List.length_nil] at h1
        rw [p.len]
        omega
      rw [ht]
      -- the second test: behind a new row or not
      have nlc : decide (V.str (⟨#[c]⟩ : PySem.Str) = V.str ("\n" : PySem.Str)) = decide (c = 10) := by
        rw [nl_eq]
        refine decide_eq_decide.mpr ⟨fun h => ?_, fun h => by rw [h]⟩
        have e := mkS_inj (a := [c]) (b := [10]) (V.str.inj h)
        exact (List.cons.inj e).1
      refine ⟨.str ⟨#[c]⟩, rfl, c, " \n", rfl, rfl, _, rfl, ite2 (fun hb => ?_) (fun hb => ?_)⟩
      · have hb' := (blanks_mem c).mp (of_decide_eq_true hb)
        refine ⟨.ref F, rfl, 1, rfl, F, _, -1, .ref t, rfl, rfl, .inl (.inl p.f), atI_last _ _, .inl ⟨rfl, _, SqL.of p.r⟩, .str (mkS W), rfl, by show 1 ≤ sizeLine; omega, fun q1 hq1 => ?_⟩
        refine ⟨.str (mkS W), rfl, rfl, .inr ⟨_, rfl, ?_⟩⟩
        rw [wne]
        refine ⟨q1, _, [wv W], rfl, rfl, upd_same, ?_, ?_, ?_, fun q2 hq2 => ?_⟩
        · cases ne0 W <;> decide
        · cases ne0 W <;> decide
        · cases ne0 W
          · show 1 * 0 ≤ sizeLine; omega
          · show 1 * 1 ≤ sizeLine; omega
        have p2 : Pt H (upd (upd H2 q1 (.lst [wv W])) q2 (.lst (List.replicate (if ne0 W = true then (1 : Int) else 0).toNat [wv W]).flatten)) F t as Dn E := p.stay ((Kept.refl.new hq1).trans (Kept.refl.new hq2))
        have erep : (List.replicate (if ne0 W = true then (1 : Int) else 0).toNat [wv W]).flatten = if ne0 W = true then [wv W] else [] := by
          cases ne0 W <;> simp
        rw [erep] at p2 ⊢
        have eput : ((E.filter ne0).map wv) ++ (if ne0 W = true then [wv W] else []) = ((E ++ [W]).filter ne0).map wv := by
          rw [List.filter_append, List.map_append]
          cases e : ne0 W <;> simp [e]
        have lfe : ((E.filter ne0).map wv).length ≤ 10002 := by
          rw [List.length_map]
          exact Nat.le_trans (List.length_filter_le _ _) lE
        refine ⟨t, q2, _, _, rfl, rfl, p2.r, upd_same, by split <;> (simp only [List.length_cons, List.length_nil]; omega), ?_⟩
        rw [eput]
        have p3 := p2.put W
        refine ⟨.str ⟨#[c]⟩, rfl, rfl, _, rfl, ?_⟩
        rw [nlc]
        by_cases h10 : c = 10
        · subst h10
          rw [decide_eq_true rfl]
          rw [if_pos rfl] at st
          refine iteT ⟨.ref F, rfl, .inl ⟨rfl, _, SqL.of p3.f⟩, by show 0 ≤ sizeLine; omega, fun q3 hq3 => ?_⟩
          have fq : F ≠ q3 := ne_of_none p3.f hq3
          refine ⟨F, _, .ref q3, rfl, rfl, by rw [upd_ne fq]; exact p3.f, by rw [List.length_append, List.length_map]; simp only [List.length_cons, List.length_nil]; omega, ?_⟩
          have p4 := p3.row (U := U) (by unfold words; rw [e2]) hq3
          rw [List.map_append] at p4
          exact ⟨q3, as ++ [t], Dn ++ [U], [], [], [], some (.str ⟨#[10]⟩), rfl, p4, st, rfl⟩
        · have h32 : c = 32 := hb'.resolve_right h10
          subst h32
          rw [decide_eq_false h10]
          rw [if_neg h10] at st
          rw [if_pos rfl] at st2
          exact iteF ⟨t, as, Dn, E ++ [W], U ++ [32], [], some (.str ⟨#[32]⟩), rfl, p3, st, st2⟩
      · have hb' : ¬ (c = 32 ∨ c = 10) := fun h => hb (decide_eq_true ((blanks_mem c).mpr h))
        have h32 : ¬ c = 32 := fun h => hb' (.inl h)
        have h10 : ¬ c = 10 := fun h => hb' (.inr h)
        refine ⟨.str (mkS W), rfl, .str ⟨#[c]⟩, rfl, mkS W, ⟨#[c]⟩, rfl, rfl, by rw [mkS_len]; show W.length + 1 ≤ sizeLine; omega, ?_⟩
        refine ⟨.str ⟨#[c]⟩, rfl, rfl, _, rfl, ?_⟩
        rw [nlc, decide_eq_false h10]
        rw [if_neg h10] at st
        rw [if_neg h32] at st2
        have ew : mkS W ++ (⟨#[c]⟩ : PySem.Str) = mkS (W ++ [c]) := by
          unfold mkS
          show (⟨W.toArray ++ #[c]⟩ : PySem.Str) = _
          simp
        rw [ew]
        exact iteF ⟨t, as, Dn, E, U ++ [c], W ++ [c], some (.str ⟨#[c]⟩), rfl, p, st, st2⟩
    · obtain ⟨t, as, Dn, E, U, W, x3, rfl, p, e1, e2⟩ := h
      rw [es, List.take_length] at e1
      have ez : ∃ d u, parts 10 z.cps.toList = d ++ [u] := ⟨(parts 10 z.cps.toList).dropLast, (parts 10 z.cps.toList).getLast (by unfold parts; exact List.cons_ne_nil _ _), (List.dropLast_concat_getLast _).symm⟩
      obtain ⟨d, u, ez⟩ := ez
      have st := parts_step ez 10
      rw [if_pos rfl, e1] at st
      have eD : Dn = parts 10 z.cps.toList := by rw [ez]; exact List.append_inj_left' st rfl
      refine ⟨.ref F, rfl, 1, rfl, -1, rfl, F, _, rfl, .inl (.inl p.f), fun p9 hp9 => ?_⟩
      rw [cut_init]
      refine q p9 _ (p.k.free hp9) (p.k.new (p.k.free hp9)) ⟨as, upd_same, ?_, fun j a r e1 e2 => ?_⟩
      · unfold rows
        rw [List.length_map, ← eD]
        exact p.len
      · unfold rows at e2
        rw [List.getElem?_map] at e2
        obtain ⟨l, hl, rfl⟩ := Option.map_eq_some_iff.mp e2
        obtain ⟨h1, h2, h3⟩ := p.old j a l e1 (by rw [eD]; exact hl)
        rw [upd_ne (ne_of_none h1 hp9)]
        exact ⟨h1, rfl⟩
end
end K1

set_option Elab.async false
set_option linter.all false
set_option maxRecDepth 100000
set_option maxHeartbeats 4000000
namespace K1
open PySem PySem.Spec PyProof.Rows L2
abbrev sRR : Stmt := top 19
theorem scRR : FnScope ["draw", "signs", "turn", "text", "found"] ["draw"] (defScope sRR) := ⟨rfl, rfl, rfl, by decide +kernel, rfl, by decide +kernel, by decide +kernel⟩
/-! #### rows as data -/
def rowD (r : List (List Nat)) : PyData := .list (r.map fun w => PyData.str (mkS w))
def rowsD (rs : List (List (List Nat))) : PyData := .list (rs.map rowD)
theorem dp_row {K : PySem.W.Frag} {H : Hp} {a : Addr} {r : List (List Nat)} (h : H a = some (.lst (r.map wv))) : Dp K H (.ref a) (rowD r) := .lst (.inl (.inl h)) (dpAll_strs K H mkS r)
theorem dp_all {K : PySem.W.Frag} {H : Hp} : ∀ (as : List Addr) (rs : List (List (List Nat))), as.length = rs.length → (∀ (i : Nat) (a : Addr) (r : List (List Nat)), as[i]? = some a → rs[i]? = some r → H a = some (.lst (r.map wv))) → DpAll K H (as.map V.ref) (rs.map rowD)
  | [], [], _, _ => .nil
  | [], _ :: _, h, _ => by simp at h
  | _ :: _, [], h, _ => by simp at h
  | a :: as, r :: rs, h, k => .cons (dp_row (k 0 a r rfl rfl)) (dp_all as rs (by simpa using h) fun i b s e1 e2 => k (i + 1) b s (by simpa using e1) (by simpa using e2))
theorem dp_rows {K : PySem.W.Frag} {H0 H : Hp} {p : Addr} {rs : List (List (List Nat))} (h : RowsAt H0 H p rs) : Dp K H (.ref p) (rowsD rs) := by
  obtain ⟨as, h1, h2, h3⟩ := h
  exact .lst (.inl (.inl h1)) (dp_all as rs h2 fun i a r e1 e2 => (h3 i a r e1 e2).1)
theorem rows_depth : ∀ rs : List (List (List Nat)), PyData.depthAll (rs.map rowD) ≤ 2
  | [] => by simp [PyData.depthAll]
  | r :: rs => by
    have ih := rows_depth rs
    have h := depth_strs mkS r
    have e : PyData.depth (rowD r) = PyData.depthAll (r.map fun w => PyData.str (mkS w)) + 1 := by
      unfold rowD
      simp only [PyData.depth]
    simp only [List.map_cons, PyData.depthAll, e]
    omega
theorem rows_lay : ∀ rs : List (List (List Nat)), (∀ r ∈ rs, ∀ w ∈ r, Low (mkS w)) → PyData.canLayAll0 (rs.map rowD) = true
  | [], _ => by simp [PyData.canLayAll0]
  | r :: rs, h => by
    have ih := rows_lay rs fun x hx => h x (List.mem_cons_of_mem _ hx)
    have e : PyData.canLay0 (rowD r) = true := by
      unfold rowD
      simp only [PyData.canLay0]
      exact lay_strs mkS r (h r List.mem_cons_self)
    simp only [List.map_cons, PyData.canLayAll0, e, ih]
    rfl
theorem rows_can (rs : List (List (List Nat))) (h : ∀ r ∈ rs, ∀ w ∈ r, Low (mkS w)) : PyData.canLay0 (rowsD rs) = true := by
  unfold rowsD
  simp only [PyData.canLay0]
  exact rows_lay rs h
theorem rows_shaped (rs : List (List (List Nat))) (h : ∀ r ∈ rs, ∀ w ∈ r, Low (mkS w)) : SeqAt.shaped (rowsD rs) = true := by
  unfold SeqAt.shaped
  have hd := rows_depth rs
  rw [rows_can rs h, decide_eq_true (by unfold rowsD; simp only [PyData.depth]; omega)]
  rfl
theorem parts_sub (c : Nat) : ∀ (l : List Nat), ∀ w ∈ parts c l, ∀ e ∈ w, e ∈ l
  | [], w, hw, e, he => by
    have : w = [] := by simpa [parts, pr] using hw
    rw [this] at he; cases he
  | x :: l, w, hw, e, he => by
    by_cases h : x = c
    · subst h
      rw [parts_hit] at hw
      rcases List.mem_cons.mp hw with z | hw
      · rw [z] at he; cases he
      · exact List.mem_cons_of_mem _ (parts_sub x l w hw e he)
    · rw [parts_miss h] at hw
      rcases List.mem_cons.mp hw with z | hw
      · rw [z] at he
        rcases List.mem_cons.mp he with z | he
        · rw [z]; exact List.mem_cons_self
        · exact List.mem_cons_of_mem _ (parts_sub c l _ (by unfold parts; exact List.mem_cons_self) e he)
      · exact List.mem_cons_of_mem _ (parts_sub c l w (by unfold parts; exact List.mem_cons_of_mem _ hw) e he)
theorem rows_low {z : PySem.Str} (h : Low z) : ∀ r ∈ rows z.cps.toList, ∀ w ∈ r, Low (mkS w) := by
  intro r hr w hw e he
  rw [mkS_list] at he
  unfold rows at hr
  obtain ⟨l, hl, rfl⟩ := List.mem_map.mp hr
  unfold words at hw
  have h1 := parts_sub 32 l w (List.mem_filter.mp hw).1 e he
  exact h e (parts_sub 10 _ l hl e h1)
theorem rows_pos (l : List Nat) : 1 ≤ (rows l).length := by
  unfold rows parts
  simp
theorem low_mk {es : List Nat} (h : ∀ e ∈ es, e < 256) : Low (mkS es) := fun e he => by rw [mkS_list] at he; exact h e he
theorem ones_eq (es : List Nat) : Txt.join (PySem.Str.ofString "") (es.map one) = mkS es := by
  show Builtin.Str.glued _ _ = _
  rw [StrLaws.glued_eq_join]
  have e0 : (PySem.Str.ofString "") = (⟨#[]⟩ : PySem.Str) := by decide +kernel
  rw [e0]
  exact join_ones es
section
variable {P : Program} {w : World} {K : PySem.W.Frag} {mg : PySem.Str → Option Value} {base : Heap} {f fN fS fR fP : Addr} {fd fdN fdS fdR fdP : FuncData}
theorem ok_rr (F : FnP K "_law_rows_right" sRR f fd) (GN : FnOk P w K mg base CX0 2 fN fdN ["draw", "many"] spNext) (bN : Binds K fdN ["draw", "many"] []) (kN : PySem.W.keepIn K (.ref fN) = true) (gN : mg "_law_next" = some (.ref fN))
    (GS : FnOk P w K mg base CX0 3 fS fdS ["draw"] spSign) (bS : Binds K fdS ["draw"] []) (kS : PySem.W.keepIn K (.ref fS) = true) (gS : mg "_law_sign" = some (.ref fS))
    (GR : FnOk P w K mg base CX0 2 fR fdR ["text"] spRows) (bR : Binds K fdR ["text"] []) (kR : PySem.W.keepIn K (.ref fR) = true) (gR : mg "rows_of" = some (.ref fR))
    (GP : FnOk P w K mg base CX0 1 fP fdP ["text"] spParted) (bP : Binds K fdP ["text"] []) (kP : PySem.W.keepIn K (.ref fP) = true) (gP : mg "_law_parted" = some (.ref fP))
    (m1 : mg "range" = none) (m2 : mg "isinstance" = none) (m3 : mg "list" = none) (m4 : mg "len" = none) : FnOk P w K mg base CX0 4 f fd ["draw"] (spTrue 100 fun _ => True) := by
  refine F.ok (k := 3) scRR (fun vs H Q E h => ?_) (fun cdv A outer s H vs Q E hr h => ?_)
  · obtain ⟨d, c, ns, n, rfl, _⟩ := h
    rfl
  · obtain ⟨d, c, ns, n, rfl, D, hn, _, q⟩ := h
    have hr1 := hr.mono (show 1 ≤ 3 by decide)
    have hr2 := hr.mono (show 2 ≤ 3 by decide)
    have hsz := sizeLine_eq
    refine ⟨_, PSs.nox (pss_cons (ps_set (i := 1) scRR.nd rfl (Or.inr rfl) (pe_lst (pa_cons (pe_call GS hr (by rfl) gS kS bS .nil pass0 (pa_cons (pv 0) pa_nil)) (pa_cons pe_str (pa_cons pe_str (pa_cons pe_str (pa_cons pe_str (pa_cons pe_str (pa_cons pe_str (pa_cons pe_str (pa_cons (pe_call GS hr (by rfl) gS kS bS .nil pass0 (pa_cons (pv 0) pa_nil)) pa_nil)))))))))))
      (pss_cons (ps_set (i := 3) scRR.nd rfl (Or.inl rfl) (pe_join pe_str (pe_lc (own := [("turn", 2)]) (g := gName 2) (tt := tYes) rfl scRR.nd (pi_range1 rfl m1 (pa_cons (pe_call GN hr2 (by rfl) gN kN bN .nil pass0 (pa_cons (pv 0) (pa_cons pe_int pa_nil))) pa_nil)) (blkOk_by (own := [("turn", 2)]) (N := ["draw", "signs", "turn", "text", "found"]) (sc := defScope sRR) (by decide +kernel))
          (fun _ _ _ _ _ => pg_name (i := 2) scRR.nd rfl (Or.inl rfl)) (fun _ _ _ _ _ => pts_nil) (fun _ _ _ _ _ => by exact (pe_ix (r := rIxL K) ix_list (pv 1) (pe_call GN hr2 (by rfl) gN kN bN .nil pass0 (pa_cons (pv 0) (pa_cons pe_int pa_nil))) (fun _ _ => rfl))))))
      (pss_cons (ps_for PassesOwn.never rfl (pi_range1 rfl m1 (pa_cons pe_int pa_nil)) (pg_name (i := 2) scRR.nd rfl (Or.inl rfl))
        (pss_cons (ps_set (i := 4) scRR.nd rfl (Or.inl rfl) (pe_call GR hr2 (by rfl) gR kR bR .nil pass0 (pa_cons (pv 3) pa_nil)))
        (pss_cons (ps_if (PW.pt (pw_or (pt_not (pt_val (pe_callB call_isi (by rfl) m2 (by decide +kernel) (pa_cons (pv 4) (pa_cons (pe_bltn (v := .ty "list") (by rfl) m3 (by decide +kernel) rfl) pa_nil)))))
            (pw_or1 (pt_cmpR (op_neD hr.units) (pv 4) (pe_call GP hr1 (by rfl) gP kP bP .nil pass0 (pa_cons (pv 3) pa_nil)) (nomark _))))) (pss_one (ps_ret pe_bl)) pss_nil)
        (pss_cons (ps_expr (pe_bm PySem.F.plainAttrs_list PySem.F.slot_list_append PySem.F.type_list_append mt_append (pe_ix ix_list (pv 4) (pe_call GN hr2 (by rfl) gN kN bN .nil pass0 (pa_cons (pv 0) (pa_cons (pe_callB call_len_seq (by rfl) m4 PySem.boot_len (pa_cons (pv 4) pa_nil)) pa_nil))) (fun _ _ => rfl)) (pa_cons pe_str pa_nil)))
        (pss_one (ps_expr (pe_bm PySem.F.plainAttrs_list PySem.F.slot_list_append PySem.F.type_list_append mt_append (pv 4) (pa_cons pe_str pa_nil))))))))
      (pss_one (ps_ret pe_bl))))), ?_⟩
    -- signs
    refine ⟨.ref d, rfl, d, c, ns, n, rfl, D, by omega, fun e1 H1 l1 k1 D1 => ?_⟩
    refine ⟨.ref d, rfl, d, c, ns, n + 1, rfl, D1, by omega, fun e2 H2 l2 k2 D2 => ?_⟩
    refine ⟨by show 9 ≤ sizeLine; omega, fun p hp => ?_⟩
    have D2' := D2.new (o := .lst [.str ⟨#[e1]⟩, .str "-", .str "7", .str " ", .str "\n", .str " ", .str "(", .str "\n", .str ⟨#[e2]⟩]) hp
    have hpd : ¬ p = d := fun e => by
      obtain ⟨_, _, _, z, _⟩ := D2.at_
      rw [e, z] at hp
      cases hp
    -- text
    refine ⟨⟨_, rfl⟩, .ref d, rfl, d, c, ns, _, 40, rfl, D2', by omega, by omega, by omega, fun r H3 r0 r1 k3 D3 => ?_⟩
    have hp3 : H3 p = some (.lst [.str ⟨#[e1]⟩, .str "-", .str "7", .str " ", .str "\n", .str " ", .str "(", .str "\n", .str ⟨#[e2]⟩]) := k3.lst upd_same hpd
    have kk : Kept (At d) H H3 := ((k1.trans k2).trans (Kept.refl.new hp)).trans k3
    refine ⟨r, rfl, by omega, by omega, fun L hL => ?_⟩
    have hLH : H L = none := At.free kk D3 hL
    have hLd : ¬ L = d := fun e => by
      obtain ⟨_, _, _, z, _⟩ := D3.at_
      rw [e, z] at hL
      cases hL
    have hLc : ¬ L = c := fun e => by
      rw [e, D3.cs] at hL
      cases hL
    have hLp : ¬ p = L := fun e => by
      rw [← e, hp3] at hL
      cases hL
    have items : ∀ x ∈ [V.str ⟨#[e1]⟩, .str "-", .str "7", .str " ", .str "\n", .str " ", .str "(", .str "\n", .str ⟨#[e2]⟩], ∃ e, x = ov e ∧ e < 256 := fun x hx => by
      simp only [List.mem_cons, List.not_mem_nil, or_false] at hx
      rcases hx with rfl | rfl | rfl | rfl | rfl | rfl | rfl | rfl | rfl
      · exact ⟨e1, rfl, l1⟩
      · exact ⟨45, congrArg V.str (by decide +kernel), by decide⟩
      · exact ⟨55, congrArg V.str (by decide +kernel), by decide⟩
      · exact ⟨32, congrArg V.str (by decide +kernel), by decide⟩
      · exact ⟨10, congrArg V.str (by decide +kernel), by decide⟩
      · exact ⟨32, congrArg V.str (by decide +kernel), by decide⟩
      · exact ⟨40, congrArg V.str (by decide +kernel), by decide⟩
      · exact ⟨10, congrArg V.str (by decide +kernel), by decide⟩
      · exact ⟨e2, rfl, l2⟩
    refine lc_range (lo := 0) (n := r.toNat) (fun i H' => Kept (At2 d L) H3 H' ∧ Dr H' d c ns (n + 1 + 1 + 1 + i) ∧ ∃ es : List Nat, es.length = i ∧ H' L = some (.lst (es.map ov)) ∧ ∀ e ∈ es, e < 256)
      ⟨Kept.refl.upd (.inr rfl), D3.keep hLd hLc, [], rfl, upd_same, by simp⟩ (fun i H' hi h => ?_) (fun H' h => ?_)
    · obtain ⟨ki, Di, es, f1, f2, f3⟩ := h
      refine ⟨rfl, ?_⟩
      unfold tYes
      dsimp only
      rw [if_pos rfl]
      refine ⟨.ref p, rfl, .ref d, rfl, d, c, ns, _, 9, rfl, Di, by omega, by omega, by omega, fun r' H4 r0' r1' kr Dr' => ?_⟩
      obtain ⟨x, hx, e, rfl, he⟩ := at_nat (m := 9) r0' r1' rfl _ items
      have hp4 : H4 p = some (.lst [.str ⟨#[e1]⟩, .str "-", .str "7", .str " ", .str "\n", .str " ", .str "(", .str "\n", .str ⟨#[e2]⟩]) := (ki.trans (kr.weak fun b hb => .inl hb)).lst hp3 (by rintro (z | z); exact hpd z; exact hLp z)
      have eL : H4 L = some (.lst (es.map ov)) := kr.lst f2 hLd
      refine ⟨p, _, r', ov e, rfl, rfl, .inl (.inl hp4), hx, es.map ov, eL, by rw [List.length_map]; omega, ?_, ?_, es ++ [e], by rw [List.length_append, f1]; rfl, by rw [upd_same, List.map_append]; rfl, fun y hy => ?_⟩
      · exact (ki.trans (kr.weak fun b hb => .inl hb)).upd (.inr rfl)
      · exact (Dr'.keep hLd hLc).more (by omega)
      · rcases List.mem_append.mp hy with h | h
        · exact f3 y h
        · rw [List.mem_singleton.mp h]; exact he
    · obtain ⟨ki, Di, es, f1, f2, f3⟩ := h
      have kH : Kept (At d) H H' := kk.drop hLH ki
      refine ⟨_, L, es.map one, rfl, rfl, .inl (SqL.of (by rw [ones_v]; exact f2)), ?_, ?_⟩
      · rw [ones_sum, List.length_map]
        show es.length + es.length * 0 ≤ 16777216
        omega
      rw [ones_eq]
      have zlow : Low (mkS es) := low_mk f3
      have zlen : (mkS es).length ≤ 39 := by rw [mkS_len]; omega
      generalize mkS es = z at zlow zlen ⊢
      clear f3 f2
      -- twice
      refine ⟨2, rfl, by omega, by omega, for_range (lo := 0) (n := 2) (fun i σ H4 => ∃ x2 x4, σ = [some (.ref d), some (.ref p), x2, some (.str z), x4] ∧ Kept (At d) H H4 ∧ Dr H4 d c ns (n + 50 + i)) ⟨_, _, rfl, kH, Di.more (by omega)⟩ (fun i σ H4 hi h => ?_) (fun σ H4 h => ?_)⟩
      · obtain ⟨x2, x4, rfl, k4, D4⟩ := h
        refine ⟨.str z, rfl, z, rfl, by omega, fun p5 H5 hp5 k5 R5 => ?_⟩
        obtain ⟨as, g1, g2, g3⟩ := id R5
        refine ⟨.ref p5, rfl, .ref p5, .ty "list", .type "list", .type "list", _, rfl, .ty "list", .base (.lst g1), kit_ty (r := true) (by decide +kernel), _, rfl, ?_⟩
        refine iteF ⟨.ref p5, rfl, .str z, rfl, z, rfl, by omega, fun p6 H6 hp6 k6 R6 => ?_⟩
        have R5' : RowsAt H4 H6 p5 (rows z.cps.toList) := ⟨as, k6.lst g1 (fun z => z), g2, fun i a r e1 e2 => ⟨k6.lst (g3 i a r e1 e2).1 (fun z => z), (g3 i a r e1 e2).2⟩⟩
        refine ⟨rowsD _, rowsD _, dp_rows R5', dp_rows R6, rows_shaped _ (rows_low zlow), rows_shaped _ (rows_low zlow), _, rfl, ?_⟩
        rw [SeqAt.eqv_refl _ (rows_can _ (rows_low zlow))]
        refine iteF ?_
        have D6 := (D4.stay k5).stay k6
        have hrl := rows_len z.cps.toList
        have hrp := rows_pos z.cps.toList
        have hzl := len_list z
        have hal : (as.map V.ref).length = as.length := List.length_map ..
        obtain ⟨_, h1, h2, h3⟩ := R5'
        have g16 : H6 p5 = some (.lst (as.map V.ref)) := k6.lst g1 (fun z => z)
        refine ⟨.ref p5, rfl, .ref d, rfl, .ref p5, rfl, p5, as.map V.ref, rfl, .inl (.inl (.inl g16)), d, c, ns, _, _, rfl, D6, by omega, by rw [hal, g2]; omega, by rw [hal, g2]; omega, fun r7 H7 r70 r71 k7 D7 => ?_⟩
        obtain ⟨j, rfl⟩ : ∃ j : Nat, r7 = (j : Int) := ⟨r7.toNat, by omega⟩
        have hj : j < as.length := by omega
        have hjr : j < (rows z.cps.toList).length := by omega
        have ea : as[j]? = some as[j] := List.getElem?_eq_getElem hj
        obtain ⟨ha6, haN⟩ := g3 j as[j] (rows z.cps.toList)[j] ea (List.getElem?_eq_getElem hjr)
        have p5d : ¬ p5 = d := fun e => by
          obtain ⟨_, _, _, z, _⟩ := D6.at_
          rw [← e, g16] at z
          cases z
        have p5c : ¬ p5 = c := fun e => by
          rw [e, D4.cs] at hp5
          cases hp5
        have ad : ¬ as[j] = d := fun e => by
          obtain ⟨_, _, _, z, _⟩ := D4.at_
          rw [e, z] at haN
          cases haN
        have ac : ¬ as[j] = c := fun e => by
          rw [e, D4.cs] at haN
          cases haN
        have g17 : H7 p5 = some (.lst (as.map V.ref)) := k7.lst g16 p5d
        have ha7 : H7 as[j] = some (.lst (((rows z.cps.toList)[j]).map wv)) := k7.lst (k6.lst ha6 (fun z => z)) ad
        have hw : (((rows z.cps.toList)[j]).map wv).length ≤ 41 := by
          rw [List.length_map]
          have hm : (rows z.cps.toList)[j] ∈ rows z.cps.toList := List.getElem_mem hjr
          unfold rows at hm
          obtain ⟨l, hl, e⟩ := List.mem_map.mp hm
          have hl2 := parts_mem_len 10 _ l hl
          have := words_len l
          show ((rows z.cps.toList)[j]).length ≤ 41
          have e' : (rows z.cps.toList)[j] = words l := e.symm
          rw [e']
          omega
        refine ⟨p5, _, (j : Int), .ref as[j], rfl, rfl, .inl (.inl g17), atI_nat (j := j) (by rw [List.getElem?_map, ea]; rfl), .inl ⟨rfl, _, SqL.of ha7⟩, as[j], _, .str "more", rfl, rfl, ha7, by omega, ?_⟩
        have kN : ∀ o, Kept (At d) H (upd H7 as[j] o) := fun o b u e nb => by
          have hb4 := (k4 b u e nb)
          obtain ⟨u', e'⟩ := ko_some hb4
          have hne : b ≠ as[j] := fun z => by rw [z, haN] at e'; cases e'
          rw [upd_ne hne]
          exact (((k4.trans (k5.weak fun _ z => z.elim)).trans (k6.weak fun _ z => z.elim)).trans k7) b u e nb
        have DN := D7.keep (o := .lst (((rows z.cps.toList)[j]).map wv ++ [.str "more"])) ad ac
        by_cases hpa : p5 = as[j]
        · exfalso
          have z1 := g17
          rw [hpa, ha7] at z1
          have z2 : ((rows z.cps.toList)[j]).map wv = as.map V.ref := HO.lst.inj (Option.some.inj z1)
          have z3 := congrArg (fun l : List V => l[j]?) z2
          simp only [List.getElem?_map, ea, Option.map_some] at z3
          cases z4 : ((rows z.cps.toList)[j])[j]? with
          | none => rw [z4] at z3; cases z3
          | some u => rw [z4] at z3; cases z3
        · have g18 : (upd H7 as[j] (.lst (((rows z.cps.toList)[j]).map wv ++ [.str "more"]))) p5 = some (.lst (as.map V.ref)) := by rw [upd_ne hpa]; exact g17
          refine ⟨.ref p5, rfl, .inl ⟨rfl, _, SqL.of g18⟩, p5, _, .str "more", rfl, rfl, g18, by rw [hal, g2]; omega, _, _, rfl, ?_, (DN.keep p5d p5c).more (by omega)⟩
          intro b u e nb
          have hb4 := (k4 b u e nb)
          obtain ⟨u', e'⟩ := ko_some hb4
          have hne : b ≠ p5 := fun z => by rw [z, hp5] at e'; cases e'
          rw [upd_ne hne]
          exact kN _ b u e nb
      · obtain ⟨x2, x4, rfl, k4, D4⟩ := h
        exact q H4 k4 (D4.more (by omega))
end
end K1

set_option Elab.async false
set_option linter.all false
set_option maxRecDepth 100000
set_option maxHeartbeats 8000000
namespace K1
open PySem PySem.Spec PyProof.Rows L2
abbrev sLaw : Stmt := top 20
theorem scLaw : FnScope ["script", "draw", "k", "text", "word", "odd", "thing", "found", "one"] ["script"] (defScope sLaw) := ⟨rfl, rfl, rfl, by decide +kernel, rfl, by decide +kernel, by decide +kernel⟩
/-! ### the law -/
/-- a thing that the law asks for -/
def Od (H : Hp) (x : V) : Prop := x = .non ∨ (∃ i, x = .int i) ∨ (∃ b, x = .bl b) ∨ (∃ z : PySem.Str, x = .str z ∧ z.length ≤ 100 ∧ Low z) ∨ (∃ a xs, x = .ref a ∧ H a = some (.lst xs)) ∨ (∃ a xs, x = .ref a ∧ H a = some (.tup xs)) ∨ ∃ a kvs, x = .ref a ∧ H a = some (.dK kvs)
theorem Od.stay {H H' : Hp} {x : V} (h : Od H x) (k : Kept None H H') : Od H' x := by
  rcases h with h | h | h | h | ⟨a, xs, e, h⟩ | ⟨a, xs, e, h⟩ | ⟨a, xs, e, h⟩
  · exact .inl h
  · exact .inr (.inl h)
  · exact .inr (.inr (.inl h))
  · exact .inr (.inr (.inr (.inl h)))
  · exact .inr (.inr (.inr (.inr (.inl ⟨a, xs, e, k.lst h (fun z => z)⟩))))
  · exact .inr (.inr (.inr (.inr (.inr (.inl ⟨a, xs, e, k.tup h (fun z => z)⟩)))))
  · exact .inr (.inr (.inr (.inr (.inr (.inr ⟨a, xs, e, k.dK h (fun z => z)⟩)))))
theorem Od.th {K : PySem.W.Frag} {H : Hp} {x : V} (h : Od H x) : (∃ T, Th K H x T) ∧ ∀ z, x = .str z → z.length ≤ 100 ∧ Low z := by
  rcases h with rfl | ⟨i, rfl⟩ | ⟨b, rfl⟩ | ⟨z, rfl, h1, h2⟩ | ⟨a, xs, rfl, h⟩ | ⟨a, xs, rfl, h⟩ | ⟨a, xs, rfl, h⟩
  · exact ⟨⟨_, .non⟩, fun z e => by cases e⟩
  · exact ⟨⟨_, .int i⟩, fun z e => by cases e⟩
  · exact ⟨⟨_, .bl b⟩, fun z e => by cases e⟩
  · exact ⟨⟨_, .str z⟩, fun z' e => by cases e; exact ⟨h1, h2⟩⟩
  · exact ⟨⟨_, .lst h⟩, fun z e => by cases e⟩
  · exact ⟨⟨_, .tup h⟩, fun z e => by cases e⟩
  · exact ⟨⟨_, .dK h⟩, fun z e => by cases e⟩
/-- the law's state: the draw, the two tables -/
structure St (H : Hp) (d c P1 P2 : Addr) (ns : List Int) (n : Nat) : Prop where
  dr : Dr H d c ns n
  t1 : GxR.TabG H P1
  t2 : GxR.TabG H P2
theorem Dr.tab {H : Hp} {d c P : Addr} {ns : List Int} {n : Nat} (D : Dr H d c ns n) (t : GxR.TabG H P) : ¬ P = d := fun e => by
  obtain ⟨_, _, _, z, _⟩ := D.at_
  obtain ⟨ps, h, _⟩ := t
  rw [e, z] at h
  cases h
theorem St.step {H H' : Hp} {d c P1 P2 : Addr} {ns : List Int} {n m : Nat} (s : St H d c P1 P2 ns n) (k : Kept (At d) H H') (D : Dr H' d c ns m) : St H' d c P1 P2 ns m := ⟨D, k.tab s.t1 (s.dr.tab s.t1), k.tab s.t2 (s.dr.tab s.t2)⟩
theorem St.stay {H H' : Hp} {d c P1 P2 : Addr} {ns : List Int} {n : Nat} (s : St H d c P1 P2 ns n) (k : Kept None H H') : St H' d c P1 P2 ns n := ⟨s.dr.stay k, k.tab s.t1 (fun z => z), k.tab s.t2 (fun z => z)⟩
/-! #### what the last looks ask -/
theorem nl_name (z : PySem.Str) : nameB (.str (z ++ ("\n" : PySem.Str))) = false := by
  unfold nameB
  dsimp only
  have e : lowB (z ++ ("\n" : PySem.Str)).cps.toList = false := by
    rw [lowB_iff]
    have el : (z ++ ("\n" : PySem.Str)).cps.toList = z.cps.toList ++ [10] := by
      have e : (z ++ ("\n" : PySem.Str)).cps = z.cps ++ ("\n" : PySem.Str).cps := rfl
      rw [e, Array.toList_append]
      rfl
    rw [el, List.filter_append]
    have h10 : (!decide (10 ∈ alphaZ.cps.toList)) = true := by decide +kernel
    have hf : List.filter (fun c => !decide (c ∈ alphaZ.cps.toList)) [10] = [10] := by rw [List.filter_cons, if_pos h10]; rfl
    rw [hf]
    cases List.filter (fun c => !decide (c ∈ alphaZ.cps.toList)) z.cps.toList <;> rfl
  rw [e, Bool.and_false]
theorem nl_name2 (z : PySem.Str) : nameB (.str (("\n" : PySem.Str) ++ z)) = false := by
  unfold nameB
  dsimp only
  have e : lowB (("\n" : PySem.Str) ++ z).cps.toList = false := by
    rw [lowB_iff]
    have el : (("\n" : PySem.Str) ++ z).cps.toList = [10] ++ z.cps.toList := by
      have e : (("\n" : PySem.Str) ++ z).cps = ("\n" : PySem.Str).cps ++ z.cps := rfl
      rw [e, Array.toList_append]
      rfl
    rw [el, List.filter_append]
    have h10 : (!decide (10 ∈ alphaZ.cps.toList)) = true := by decide +kernel
    have hf : List.filter (fun c => !decide (c ∈ alphaZ.cps.toList)) [10] = [10] := by rw [List.filter_cons, if_pos h10]; rfl
    rw [hf]
    rfl
  rw [e, Bool.and_false]
theorem nl_num (z : PySem.Str) : numV (z ++ ("\n" : PySem.Str)).cps.toList = .non := by
  have el : (z ++ ("\n" : PySem.Str)).cps.toList = z.cps.toList ++ [10] := by
    have e : (z ++ ("\n" : PySem.Str)).cps = z.cps ++ ("\n" : PySem.Str).cps := rfl
    rw [e, Array.toList_append]
    rfl
  rw [el]
  have hf : figB (fig (z.cps.toList ++ [10])) = false := by
    rw [Bool.eq_false_iff]
    intro h
    have ad := (figB_iff _).mp h
    have hm : 10 ∈ fig (z.cps.toList ++ [10]) := by
      unfold fig
      split
      · rename_i q
        cases h : z.cps.toList with
        | nil => rw [h] at q; simp at q
        | cons a r => exact List.mem_append_right _ List.mem_cons_self
      · exact List.mem_append_right _ List.mem_cons_self
    have := ad 10 hm
    omega
  unfold numV numOk
  rw [hf, Bool.and_false, Bool.false_and]
  rfl
theorem mul_list (z : PySem.Str) (k : Nat) (hk : 2 ≤ k) (hz : 1 ≤ z.length) : (Txt.mul z (k : Int)).cps.toList = (List.replicate k z.cps.toList).flatten := by
  unfold Txt.mul
  rw [if_neg (by omega), if_neg (by simp; omega), Int.toNat_natCast]
  show (List.foldl (· ++ ·) #[] (List.replicate k z.cps)).toList = _
  have key : ∀ (n : Nat) (acc : Array Nat), (List.foldl (· ++ ·) acc (List.replicate n z.cps)).toList = acc.toList ++ (List.replicate n z.cps.toList).flatten := by
    intro n
    induction n with
    | zero => intro acc; simp
    | succ n ih =>
      intro acc
      rw [List.replicate_succ, List.foldl_cons, ih, List.replicate_succ, List.flatten_cons, Array.toList_append, List.append_assoc]
  rw [key]
  rfl
theorem rep_len (l : List Nat) : ∀ k, (List.replicate k l).flatten.length = k * l.length
  | 0 => by simp
  | k + 1 => by rw [List.replicate_succ, List.flatten_cons, List.length_append, rep_len l k, Nat.succ_mul]; omega
theorem a_parts : ∀ k, parts 32 (List.replicate k [97, 32]).flatten = List.replicate k [97] ++ [[]]
  | 0 => rfl
  | k + 1 => by
    rw [List.replicate_succ, List.flatten_cons]
    show parts 32 (97 :: 32 :: (List.replicate k [97, 32]).flatten) = _
    have ih := a_parts k
    rw [parts_miss (by decide)]
    have e : pr 32 (32 :: (List.replicate k [97, 32]).flatten) = ([], parts 32 (List.replicate k [97, 32]).flatten) := by
      unfold parts
      rw [pr, if_pos rfl]
    rw [e, ih]
    rfl
theorem no10 : ∀ (l : List Nat), (∀ e ∈ l, e ≠ 10) → parts 10 l = [l]
  | [], _ => rfl
  | x :: l, h => by
    rw [parts_miss (h x List.mem_cons_self)]
    have ih := no10 l fun e he => h e (List.mem_cons_of_mem _ he)
    unfold parts at ih
    obtain ⟨q1, q2⟩ := List.cons.inj ih
    rw [q1, q2]
theorem a_rows (k : Nat) : rows (List.replicate k [97, 32]).flatten = [List.replicate k [97]] := by
  unfold rows
  rw [no10 _ (fun e he => by
    obtain ⟨l, hl, he⟩ := List.mem_flatten.mp he
    rw [List.eq_of_mem_replicate hl] at he
    simp only [List.mem_cons, List.not_mem_nil, or_false] at he
    omega)]
  show [words _] = _
  unfold words
  rw [a_parts, List.filter_append]
  have e : (List.replicate k [97]).filter ne0 = List.replicate k [97] := List.filter_eq_self.mpr fun x hx => by rw [List.eq_of_mem_replicate hx]; rfl
  rw [e]
  simp [ne0]
theorem flat_one (k : Nat) (x : V) : (List.replicate k [x]).flatten = List.replicate k x := by
  induction k with
  | zero => rfl
  | succ k ih => rw [List.replicate_succ, List.flatten_cons, ih]; rfl
end K1

set_option Elab.async false
set_option linter.all false
set_option maxRecDepth 100000
set_option maxHeartbeats 8000000
namespace K1
open PySem PySem.Spec PyProof.Rows L2
def spLaw (K : PySem.W.Frag) (P1 P2 : Addr) : Sp := fun vs H Q _ => ∃ (a : Addr) (ns : List Int), vs = [.ref a] ∧ SqL K H a (ns.map V.int) ∧ ns.length ≤ 63 ∧ GxR.TabG H P1 ∧ GxR.TabG H P2 ∧ ∀ H', Q (.bl true) H'
/-- the words that every turn asks for -/
theorem seven : Txt.mul ("7" : PySem.Str) ((5000 : Nat) : Int) = mkS (List.replicate 5000 55) := by
  have h := mul_list ("7" : PySem.Str) 5000 (by decide) (by decide +kernel)
  have e : ("7" : PySem.Str).cps.toList = [55] := by decide +kernel
  rw [e] at h
  have f : ∀ k : Nat, (List.replicate k [55]).flatten = List.replicate k 55 := by
    intro k
    induction k with
    | zero => rfl
    | succ k ih => rw [List.replicate_succ, List.flatten_cons, ih]; rfl
  rw [f] at h
  rw [← h, mkS_of]
structure Fn1 (P : Program) (w : World) (K : PySem.W.Frag) (mg : PySem.Str → Option Value) (base : Heap) (k : Nat) (x : PySem.Str) (ps : List PySem.Str) (sp : Sp) where
  f : Addr
  fd : FuncData
  ok : FnOk P w K mg base CX0 k f fd ps sp
  b : Binds K fd ps []
  k : PySem.W.keepIn K (.ref f) = true
  g : mg x = some (.ref f)
section
variable {P : Program} {w : World} {K : PySem.W.Frag} {mg : PySem.Str → Option Value} {base : Heap} {f : Addr} {fd : FuncData} {P1 P2 : Addr}
theorem ok_law (F : FnP K "law" sLaw f fd) (B : Fn1 P w K mg base 1 "_law_begin" ["script"] (spBegin K)) (N : Fn1 P w K mg base 2 "_law_next" ["draw", "many"] spNext) (T : Fn1 P w K mg base 4 "_law_text" ["draw"] (spText 12)) (Fg : Fn1 P w K mg base 4 "_law_figures" ["draw"] (spText 20))
    (Nm : Fn1 P w K mg base 2 "is_name" ["thing"] (spName K)) (LN : Fn1 P w K mg base 1 "_law_is_name" ["thing"] (spLName K)) (Nu : Fn1 P w K mg base 3 "number_in" ["word"] (spNum P2)) (Sm : Fn1 P w K mg base 1 "_law_same" ["found", "due"] spLSame) (Rd : Fn1 P w K mg base 1 "_law_read" ["word"] spLRead)
    (WR : Fn1 P w K mg base 3 "_law_whole_right" ["draw"] (spTrue 100 fun _ => True)) (RR : Fn1 P w K mg base 4 "_law_rows_right" ["draw"] (spTrue 100 fun _ => True)) (R : Fn1 P w K mg base 2 "rows_of" ["text"] spRows)
    (m1 : mg "range" = none) (m2 : mg "min" = none) (m3 : mg "len" = none) (m4 : mg "isinstance" = none) (m5 : mg "bool" = none) : FnOk P w K mg base CX0 5 f fd ["script"] (spLaw K P1 P2) := by
  refine F.ok (k := 4) scLaw (fun vs H Q E h => ?_) (fun cdv A outer s H vs Q E hr h => ?_)
  · obtain ⟨a, ns, rfl, _⟩ := h
    rfl
  · obtain ⟨a, ns, rfl, hS, hl, t1, t2, q⟩ := h
    have hr1 := hr.mono (show 1 ≤ 4 by decide)
    have hr2 := hr.mono (show 2 ≤ 4 by decide)
    have hr3 := hr.mono (show 3 ≤ 4 by decide)
    have hsz := sizeLine_eq
    refine ⟨_, PSs.nox (pss_cons (ps_set (i := 1) scLaw.nd rfl (Or.inl rfl) (pe_call B.ok hr1 (by rfl) B.g B.k B.b .nil pass0 (pa_cons (pv 0) pa_nil)))
      (pss_cons (ps_for PassesOwn.never rfl (pi_range1 rfl m1 (pa_cons (pe_op op_add (pe_callB (call_min2 rfl) (by rfl) m2 (by decide +kernel) (pa_cons pe_int (pa_cons (pe_callB call_len_seq (by rfl) m3 PySem.boot_len (pa_cons (pv 0) pa_nil)) pa_nil))) pe_int) pa_nil)) (pg_name (i := 2) scLaw.nd rfl (Or.inl rfl))
        (pss_cons (ps_par (i := 3) (j := 4) (by rfl) scLaw.nd rfl rfl (by decide) rfl rfl (pa_cons (pe_call T.ok hr (by rfl) T.g T.k T.b .nil pass0 (pa_cons (pv 1) pa_nil)) (pa_cons (pe_call Fg.ok hr (by rfl) Fg.g Fg.k Fg.b .nil pass0 (pa_cons (pv 1) pa_nil)) pa_nil)) (by rfl))
        (pss_cons (ps_set (i := 5) scLaw.nd rfl (Or.inl rfl) (pe_ix ix_list (pe_lst (pa_cons pe_non (pa_cons pe_int (pa_cons pe_bl (pa_cons (pe_lst (pa_cons pe_str pa_nil)) (pa_cons (pe_tup (pa_cons pe_str pa_nil)) (pa_cons pe_dnewK (pa_cons pe_str (pa_cons pe_str pa_nil)))))))))
            (pe_call N.ok hr2 (by rfl) N.g N.k N.b .nil pass0 (pa_cons (pv 1) (pa_cons pe_int pa_nil))) (fun _ _ => rfl)))
        (pss_cons (ps_for PassesOwn.never rfl (pi_tup (pe_tup (pa_cons (pv 3) (pa_cons (pv 4) (pa_cons (pv 5) pa_nil))))) (pg_name (i := 6) scLaw.nd rfl (Or.inl rfl))
            (pss_cons (ps_set (i := 7) scLaw.nd rfl (Or.inl rfl) (pe_call Nm.ok hr2 (by rfl) Nm.g Nm.k Nm.b .nil pass0 (pa_cons (pv 6) pa_nil)))
            (pss_one (ps_if (PW.pt (pw_or (pt_not (pt_val (pe_callB call_isi (by rfl) m4 (by decide +kernel) (pa_cons (pv 7) (pa_cons (pe_bltn (v := .ty "bool") (by rfl) m5 (by decide +kernel) rfl) pa_nil)))))
              (pw_or1 (pt_cmpR op_ne (pv 7) (pe_call LN.ok hr1 (by rfl) LN.g LN.k LN.b .nil pass0 (pa_cons (pv 6) pa_nil)) (nomark _))))) (pss_one (ps_ret pe_bl)) pss_nil))))
        (pss_cons (ps_if (PW.pt (pw_or (pt_val (pe_call Nm.ok hr2 (by rfl) Nm.g Nm.k Nm.b .nil pass0 (pa_cons (pe_op op_add_str (pv 3) pe_str) pa_nil))) (pw_or (pt_val (pe_call Nm.ok hr2 (by rfl) Nm.g Nm.k Nm.b .nil pass0 (pa_cons (pe_op op_add_str pe_str (pv 3)) pa_nil)))
            (pw_or1 (pt_cmpR op_notN (pe_call Nu.ok hr3 (by rfl) Nu.g Nu.k Nu.b .nil pass0 (pa_cons (pe_op op_add_str (pv 4) pe_str) pa_nil)) pe_non (nomark _)))))) (pss_one (ps_ret pe_bl)) pss_nil)
        (pss_cons (ps_for PassesOwn.never rfl (pi_tup (pe_tup (pa_cons (pv 4) (pa_cons (pv 3) (pa_cons pe_str (pa_cons pe_str (pa_cons pe_str (pa_cons pe_str (pa_cons pe_str (pa_cons pe_str (pa_cons pe_str (pa_cons (pe_op op_repS pe_str pe_int) pa_nil)))))))))))) (pg_name (i := 8) scLaw.nd rfl (Or.inl rfl))
            (pss_one (ps_if (pt_not (pt_val (pe_call Sm.ok hr1 (by rfl) Sm.g Sm.k Sm.b .nil pass0 (pa_cons (by exact (pe_call Nu.ok hr3 (by rfl) Nu.g Nu.k Nu.b .nil pass0 (pa_cons (pv 8) pa_nil))) (pa_cons (by exact (pe_call Rd.ok hr1 (by rfl) Rd.g Rd.k Rd.b .nil pass0 (pa_cons (pv 8) pa_nil))) pa_nil))))) (pss_one (ps_ret pe_bl)) pss_nil)))
        (pss_one (ps_if (PW.pt (pw_or (pt_not (pt_val (pe_call WR.ok hr3 (by rfl) WR.g WR.k WR.b .nil pass0 (pa_cons (pv 1) pa_nil)))) (pw_or1 (pt_not (pt_val (pe_call RR.ok hr (by rfl) RR.g RR.k RR.b .nil pass0 (pa_cons (pv 1) pa_nil))))))) (pss_one (ps_ret pe_bl)) pss_nil))))))))
      (pss_one (ps_ret (pe_and (pe_cmpR (op_eqD hr.units) (pe_call R.ok hr2 (by rfl) R.g R.k R.b .nil pass0 (pa_cons pe_str pa_nil)) (pe_lst (pa_cons (pe_lst pa_nil) pa_nil)) (nomark _))
        (pe_one (pe_cmpR (op_eqD hr.units) (pe_call R.ok hr2 (by rfl) R.g R.k R.b .nil pass0 (pa_cons (pe_op op_repS pe_str pe_int) pa_nil)) (pe_lst (pa_cons (pe_op op_rep (pe_lst (pa_cons pe_str pa_nil)) pe_int) pa_nil)) (nomark _)))))))), ?_⟩
    -- draw = _law_begin(script)
    refine ⟨.ref a, rfl, a, ns, rfl, hS, hl, fun d c H1 hd k1 D1 => ?_⟩
    have s1 : St H1 d c P1 P2 (ns ++ [0]) 0 := ⟨D1, k1.tab t1 (fun z => z), k1.tab t2 (fun z => z)⟩
    -- the loop
    have hS1 : SqL K H1 a (ns.map V.int) := k1.sql hS (fun z => z)
    have hlen : (ns.map V.int).length = ns.length := List.length_map ..
    refine ⟨.ref a, rfl, a, ns.map V.int, rfl, .inl hS1, 63, _, rfl, _, 1, rfl, rfl, _, rfl, ?_, ?_, for_range (lo := 0) (fun i σ H' => ∃ x2 x3 x4 x5 x6 x7 x8, σ = [some (.ref a), some (.ref d), x2, x3, x4, x5, x6, x7, x8] ∧ St H' d c P1 P2 (ns ++ [0]) (i * 1000)) ?_ (fun i σ H2 hi h => ?_) (fun σ H2 h => ?_)⟩
    · rw [hlen]; split <;> omega
    · rw [hlen]; split <;> omega
    · exact ⟨_, _, _, _, _, _, _, rfl, s1⟩
    · obtain ⟨x2, x3, x4, x5, x6, x7, x8, rfl, s2⟩ := h
      have hi64 : i ≤ 64 := by
        rw [hlen] at hi
        split at hi <;> omega
      -- text, word
      refine ⟨.ref d, rfl, d, c, ns ++ [0], _, rfl, s2.dr, by omega, fun z3 H3 l3 w3 k3 D3 => ?_⟩
      refine ⟨.ref d, rfl, d, c, ns ++ [0], _, rfl, D3, by omega, fun z4 H4 l4 w4 k4 D4 => ⟨_, _, rfl, ?_⟩⟩
      have s4 := (s2.step k3 D3).step k4 D4
      -- odd
      refine ⟨by show 1 ≤ sizeLine; omega, fun p1 hp1 => ⟨by show 1 ≤ sizeLine; omega, fun p2 hp2 => fun p3 hp3 => ⟨by show 8 ≤ sizeLine; omega, fun p4 hp4 => ?_⟩⟩⟩
      have n12 : p1 ≠ p2 := fun e => by rw [← e, upd_same] at hp2; cases hp2
      have n23 : p2 ≠ p3 := fun e => by rw [← e, upd_same] at hp3; cases hp3
      have n34 : p3 ≠ p4 := fun e => by rw [← e, upd_same] at hp4; cases hp4
      have n13 : p1 ≠ p3 := fun e => by rw [← e, upd_ne n12, upd_same] at hp3; cases hp3
      have n24 : p2 ≠ p4 := fun e => by rw [← e, upd_ne n23, upd_same] at hp4; cases hp4
      have n14 : p1 ≠ p4 := fun e => by rw [← e, upd_ne n13, upd_ne n12, upd_same] at hp4; cases hp4
      have e1 : (upd (upd (upd H4 p1 (.lst [.str "a"])) p2 (.tup [.str "a"])) p3 (.dK [])) p1 = some (.lst [.str "a"]) := by rw [upd_ne n13, upd_ne n12, upd_same]
      have e2 : (upd (upd (upd H4 p1 (.lst [.str "a"])) p2 (.tup [.str "a"])) p3 (.dK [])) p2 = some (.tup [.str "a"]) := by rw [upd_ne n23, upd_same]
      have e3 : (upd (upd (upd H4 p1 (.lst [.str "a"])) p2 (.tup [.str "a"])) p3 (.dK [])) p3 = some (.dK []) := upd_same
      have k5 : Kept None H4 (upd (upd (upd H4 p1 (.lst [.str "a"])) p2 (.tup [.str "a"])) p3 (.dK [])) := ((Kept.refl.new hp1).trans (Kept.refl.new hp2)).trans (Kept.refl.new hp3)
      generalize upd (upd (upd H4 p1 (.lst [.str "a"])) p2 (.tup [.str "a"])) p3 (.dK []) = H5 at e1 e2 e3 k5 hp4 ⊢
      have s5 := s4.stay (k5.trans (Kept.refl.new (o := .lst [.non, .int 5, .bl true, .ref p1, .ref p2, .ref p3, .str "", .str "A"]) hp4))
      refine ⟨.ref d, rfl, d, c, ns ++ [0], _, 8, rfl, s5.dr, by omega, by omega, by omega, fun r H6 r0 r1 k6 D6 => ?_⟩
      have s6 := s5.step k6 D6
      have nd : ∀ p o, (upd H5 p4 (.lst [.non, .int 5, .bl true, .ref p1, .ref p2, .ref p3, .str "", .str "A"])) p = some o → (∀ kvs, o ≠ .dK kvs) → ¬ p = d := fun p o e hk z => by
        obtain ⟨_, _, _, y, _⟩ := s5.dr.at_
        rw [z, y] at e
        exact hk _ (Option.some.inj e).symm
      have nd3 : ¬ p3 = d := fun z => by
        obtain ⟨a, l, u, y, _⟩ := s5.dr.at_
        rw [← z, upd_ne n34, e3] at y
        cases y
      have f4 : H6 p4 = some (.lst [.non, .int 5, .bl true, .ref p1, .ref p2, .ref p3, .str "", .str "A"]) := k6.lst upd_same (nd _ _ upd_same (fun _ z => by cases z))
      have f1 : H6 p1 = some (.lst [.str "a"]) := k6.lst (by rw [upd_ne n14]; exact e1) (nd _ _ (by rw [upd_ne n14]; exact e1) (fun _ z => by cases z))
      have f2 : H6 p2 = some (.tup [.str "a"]) := k6.tup (by rw [upd_ne n24]; exact e2) (nd _ _ (by rw [upd_ne n24]; exact e2) (fun _ z => by cases z))
      have f3 : H6 p3 = some (.dK []) := k6.dK (by rw [upd_ne n34]; exact e3) nd3
      obtain ⟨x, hx, ox⟩ : ∃ x, atI [V.non, .int 5, .bl true, .ref p1, .ref p2, .ref p3, .str "", .str "A"] r = some x ∧ Od H6 x := at_nat (m := 8) r0 r1 rfl _ (fun x hx => by
        simp only [List.mem_cons, List.not_mem_nil, or_false] at hx
        rcases hx with rfl | rfl | rfl | rfl | rfl | rfl | rfl | rfl
        · exact .inl rfl
        · exact .inr (.inl ⟨_, rfl⟩)
        · exact .inr (.inr (.inl ⟨_, rfl⟩))
        · exact .inr (.inr (.inr (.inr (.inl ⟨_, _, rfl, f1⟩))))
        · exact .inr (.inr (.inr (.inr (.inr (.inl ⟨_, _, rfl, f2⟩)))))
        · exact .inr (.inr (.inr (.inr (.inr (.inr ⟨_, _, rfl, f3⟩)))))
        · exact .inr (.inr (.inr (.inl ⟨_, rfl, by decide +kernel, by unfold Low; decide +kernel⟩)))
        · exact .inr (.inr (.inr (.inl ⟨_, rfl, by decide +kernel, by unfold Low; decide +kernel⟩))))
      refine ⟨p4, _, r, x, rfl, rfl, .inl (.inl f4), hx, ?_⟩
      clear hx f4 f1 f2 f3 nd nd3 e1 e2 e3 k5 k6 D6 hp1 hp2 hp3 hp4 s5 s4 D3 D4 k3 k4 n12 n23 n34 n13 n24 n14
      -- for thing in (text, word, odd)
      refine ⟨.str z3, rfl, .str z4, rfl, x, rfl, by show 3 ≤ sizeLine; omega, fun T3 hT3 => ?_⟩
      have s7 := s6.stay (Kept.refl.new (o := .tup [.str z3, .str z4, x]) hT3)
      have ox7 : Od (upd H6 T3 (.tup [.str z3, .str z4, x])) x := ox.stay (Kept.refl.new hT3)
      have fT : (upd H6 T3 (.tup [.str z3, .str z4, x])) T3 = some (.tup [.str z3, .str z4, x]) := upd_same
      generalize upd H6 T3 (.tup [.str z3, .str z4, x]) = H7 at s7 ox7 fT ⊢
      have items : ∀ y ∈ [V.str z3, .str z4, x], Od H7 y := fun y hy => by
        simp only [List.mem_cons, List.not_mem_nil, or_false] at hy
        rcases hy with rfl | rfl | rfl
        · exact .inr (.inr (.inr (.inl ⟨_, rfl, by omega, w3⟩)))
        · exact .inr (.inr (.inr (.inl ⟨_, rfl, by omega, w4⟩)))
        · exact ox7
      refine ⟨T3, rfl, ⟨_, SqT.of fT⟩, for_tup (K := K) (a := T3) (xs := [.str z3, .str z4, x]) (fun j σ H' => ∃ x6 x7, σ = [some (.ref a), some (.ref d), some (.int (0 + (i : Int))), some (.str z3), some (.str z4), some x, x6, x7, x8] ∧ Kept None H7 H')
        ⟨_, _, rfl, Kept.refl⟩ (fun j σ H' _ h => ?_) (fun j y σ H' hy h => ?_) (fun σ H' h => ?_)⟩
      · obtain ⟨x6, x7, rfl, k⟩ := h
        exact SqT.of (k.tup fT (fun z => z))
      · obtain ⟨x6, x7, rfl, k⟩ := h
        have oy := (items y (List.mem_of_getElem? hy)).stay k
        obtain ⟨⟨Ty, th⟩, hz⟩ := oy.th (K := K)
        refine ⟨y, rfl, y, Ty, rfl, th.b, (fun z e => by have := (hz z e).1; omega), fun H8 k8 => ?_⟩
        obtain ⟨⟨Ty8, th8⟩, hz8⟩ := (oy.stay k8).th (K := K)
        refine ⟨.bl _, rfl, .bl _, .ty "bool", .type "bool", .type "bool", _, rfl, .ty "bool", .base (.bl _), (kit_all K (T := "bool") (by decide)).2.2, _, rfl, ?_⟩
        refine iteF ⟨.bl _, rfl, y, rfl, y, Ty8, rfl, th8, hz8, fun H9 k9 => ⟨rfl, _, rfl, ?_⟩⟩
        rw [decide_eq_true rfl]
        exact iteF ⟨_, _, rfl, (k.trans k8).trans k9⟩
      · obtain ⟨x6, x7, rfl, k⟩ := h
        have s8 := s7.stay k
        clear items ox7 ox fT s7 k
        -- if is_name(text + '\n') or ..
        refine ⟨.str z3, rfl, z3, "\n", rfl, rfl, by show z3.length + 1 ≤ sizeLine; omega, .str (z3 ++ "\n"), "str", rfl, .str _, (fun z e => by cases e; rw [PySem.Str.length_append]; show z3.length + 1 ≤ sizeLine; omega), fun H9 k9 => ⟨_, rfl, ?_⟩⟩
        have s9 := s8.stay k9
        rw [nl_name]
        refine iteF ⟨.str z3, rfl, "\n", z3, rfl, rfl, by show 1 + z3.length ≤ sizeLine; omega, .str ("\n" ++ z3), "str", rfl, .str _, (fun z e => by cases e; rw [PySem.Str.length_append]; show 1 + z3.length ≤ sizeLine; omega), fun H10 k10 => ⟨_, rfl, ?_⟩⟩
        have s10 := s9.stay k10
        rw [nl_name2]
        refine iteF ⟨.str z4, rfl, z4, "\n", rfl, rfl, by show z4.length + 1 ≤ sizeLine; omega, z4 ++ "\n", rfl, by rw [PySem.Str.length_append]; show z4.length + 1 ≤ sizeLine; omega, s10.t2, fun H11 k11 => ⟨rfl, _, rfl, ?_⟩⟩
        have s11 := s10.stay k11
        rw [nl_num, decide_eq_true rfl]
        refine iteF ?_
        -- for one in (..)
        refine ⟨.str z4, rfl, .str z3, rfl, "7", 5000, rfl, rfl, by decide, by decide +kernel, by decide +kernel, by show 10 ≤ sizeLine; omega, fun T4 hT4 => ?_⟩
        have s12 := s11.stay (Kept.refl.new (o := .tup [.str z4, .str z3, .str "", .str "-", .str "0", .str "-0", .str "9999", .str "-9999", .str "10000", .str (Txt.mul "7" ((5000 : Nat) : Int))]) hT4)
        have fT : (upd H11 T4 (.tup [.str z4, .str z3, .str "", .str "-", .str "0", .str "-0", .str "9999", .str "-9999", .str "10000", .str (Txt.mul "7" ((5000 : Nat) : Int))])) T4 = some (.tup [.str z4, .str z3, .str "", .str "-", .str "0", .str "-0", .str "9999", .str "-9999", .str "10000", .str (Txt.mul "7" ((5000 : Nat) : Int))]) := upd_same
        have items : ∀ y ∈ [V.str z4, .str z3, .str "", .str "-", .str "0", .str "-0", .str "9999", .str "-9999", .str "10000", .str (Txt.mul "7" ((5000 : Nat) : Int))], ∃ z : PySem.Str, y = .str z ∧ z.length ≤ 5000 ∧ Low z := fun y hy => by
          simp only [List.mem_cons, List.not_mem_nil, or_false] at hy
          rcases hy with rfl | rfl | rfl | rfl | rfl | rfl | rfl | rfl | rfl | rfl
          · exact ⟨_, rfl, by omega, w4⟩
          · exact ⟨_, rfl, by omega, w3⟩
          · exact ⟨_, rfl, by decide +kernel, by unfold Low; decide +kernel⟩
          · exact ⟨_, rfl, by decide +kernel, by unfold Low; decide +kernel⟩
          · exact ⟨_, rfl, by decide +kernel, by unfold Low; decide +kernel⟩
          · exact ⟨_, rfl, by decide +kernel, by unfold Low; decide +kernel⟩
          · exact ⟨_, rfl, by decide +kernel, by unfold Low; decide +kernel⟩
          · exact ⟨_, rfl, by decide +kernel, by unfold Low; decide +kernel⟩
          · exact ⟨_, rfl, by decide +kernel, by unfold Low; decide +kernel⟩
          · refine ⟨_, rfl, ?_, ?_⟩
            · rw [seven, mkS_len, List.length_replicate]; exact Nat.le_refl _
            · rw [seven]
              exact low_mk fun e he => by rw [List.eq_of_mem_replicate he]; decide
        generalize [V.str z4, .str z3, .str "", .str "-", .str "0", .str "-0", .str "9999", .str "-9999", .str "10000", .str (Txt.mul "7" ((5000 : Nat) : Int))] = ones at s12 fT items ⊢
        generalize upd H11 T4 (.tup ones) = H12 at s12 fT ⊢
        refine ⟨T4, rfl, ⟨_, SqT.of fT⟩, for_tup (K := K) (a := T4) (xs := ones) (fun j σ H' => ∃ x8, σ = [some (.ref a), some (.ref d), some (.int (0 + (i : Int))), some (.str z3), some (.str z4), some x, x6, x7, x8] ∧ Kept None H12 H')
          ⟨_, rfl, Kept.refl⟩ (fun j σ H' _ h => ?_) (fun j y σ H' hy h => ?_) (fun σ H' h => ?_)⟩
        · obtain ⟨x8, rfl, k⟩ := h
          exact SqT.of (k.tup fT (fun z => z))
        · obtain ⟨x8, rfl, k⟩ := h
          obtain ⟨z, rfl, hz1, hz2⟩ := items y (List.mem_of_getElem? hy)
          refine ⟨.str z, rfl, z, rfl, by omega, (s12.stay k).t2, fun Ha ka => ?_⟩
          refine ⟨.str z, rfl, z, rfl, by omega, hz2, fun Hb kb => ?_⟩
          refine ⟨numV z.cps.toList, rfl, numV_plain _, _, rfl, ?_⟩
          exact iteF ⟨_, rfl, (k.trans ka).trans kb⟩
        · obtain ⟨x8, rfl, k⟩ := h
          have s13 := s12.stay k
          refine ⟨.ref d, rfl, d, c, ns ++ [0], _, rfl, s13.dr, by omega, trivial, fun Hc kc Dc => ⟨_, rfl, ?_⟩⟩
          have s14 := s13.step kc Dc
          refine iteF ⟨.ref d, rfl, d, c, ns ++ [0], _, rfl, s14.dr, by omega, trivial, fun Hd kd Dd => ⟨_, rfl, ?_⟩⟩
          have s15 := s14.step kd Dd
          exact iteF ⟨_, _, _, _, _, _, _, rfl, ⟨s15.dr.more (by omega), s15.t1, s15.t2⟩⟩
    · obtain ⟨x2, x3, x4, x5, x6, x7, x8, rfl, s2⟩ := h
      have r0 : rows ("" : PySem.Str).cps.toList = [[]] := by decide +kernel
      refine ⟨"", rfl, by decide +kernel, fun p H' hp kk R0 => ⟨by show 0 ≤ sizeLine; omega, fun q1 hq1 => ⟨by show 1 ≤ sizeLine; omega, fun q2 hq2 => ?_⟩⟩⟩
      rw [r0] at R0
      have n12 : q1 ≠ q2 := fun e => by rw [← e, upd_same] at hq2; cases hq2
      have kq : Kept None H' (upd (upd H' q1 (.lst [])) q2 (.lst [.ref q1])) := (Kept.refl.new hq1).trans (Kept.refl.new hq2)
      have R1 : RowsAt H2 (upd (upd H' q1 (.lst [])) q2 (.lst [.ref q1])) p [[]] := by
        obtain ⟨as, h1, h2, h3⟩ := R0
        exact ⟨as, kq.lst h1 (fun z => z), h2, fun i a r e1 e2 => ⟨kq.lst (h3 i a r e1 e2).1 (fun z => z), (h3 i a r e1 e2).2⟩⟩
      have low0 : ∀ r ∈ ([[]] : List (List (List Nat))), ∀ w ∈ r, Low (mkS w) := fun r hr w hw => by
        rw [List.mem_singleton.mp hr] at hw; cases hw
      refine ⟨rowsD [[]], rowsD [[]], dp_rows R1, .lst (.inl (.inl upd_same)) (.cons (.lst (.inl (.inl (by rw [upd_ne n12]; exact upd_same))) .nil) .nil), rows_shaped _ low0, rows_shaped _ low0, _, rfl, ?_⟩
      rw [SeqAt.eqv_refl _ (rows_can _ low0)]
      refine iteT ⟨"a ", 3000, rfl, rfl, by decide, by decide +kernel, by decide +kernel, Txt.mul "a " ((3000 : Nat) : Int), rfl, ?_, fun p3 H4 hp3 k3 R3 => ?_⟩
      · rw [len_list, mul_list _ _ (by decide) (by decide +kernel), rep_len]
        decide +kernel
      · have ea : (Txt.mul "a " ((3000 : Nat) : Int)).cps.toList = (List.replicate 3000 [97, 32]).flatten := by
          rw [mul_list _ _ (by decide) (by decide +kernel)]
          have e : ("a " : PySem.Str).cps.toList = [97, 32] := by decide +kernel
          rw [e]
        rw [ea, a_rows] at R3
        refine ⟨by show 1 ≤ sizeLine; omega, fun q3 hq3 => ⟨q3, 3000, [.str "a"], rfl, rfl, upd_same, by decide, by decide, by show 1 * 3000 ≤ sizeLine; omega, fun q4 hq4 => ⟨by show 1 ≤ sizeLine; omega, fun q5 hq5 => ?_⟩⟩⟩
        have n45 : q4 ≠ q5 := fun e => by rw [← e, upd_same] at hq5; cases hq5
        have er : (List.replicate (3000 : Int).toNat [V.str "a"]).flatten = (List.replicate 3000 [97]).map wv := by
          rw [flat_one, List.map_replicate]
          have ew : V.str ("a" : PySem.Str) = wv [97] := congrArg V.str (by decide +kernel)
          rw [ew]
          rfl
        have k5 : Kept None H4 (upd (upd (upd H4 q3 (.lst [.str "a"])) q4 (.lst (List.replicate (3000 : Int).toNat [V.str "a"]).flatten)) q5 (.lst [.ref q4])) := ((Kept.refl.new hq3).trans (Kept.refl.new hq4)).trans (Kept.refl.new hq5)
        have R4 : RowsAt (upd (upd H' q1 (.lst [])) q2 (.lst [.ref q1])) (upd (upd (upd H4 q3 (.lst [.str "a"])) q4 (.lst (List.replicate (3000 : Int).toNat [V.str "a"]).flatten)) q5 (.lst [.ref q4])) p3 [List.replicate 3000 [97]] := by
          obtain ⟨as, h1, h2, h3⟩ := R3
          exact ⟨as, k5.lst h1 (fun z => z), h2, fun i a r e1 e2 => ⟨k5.lst (h3 i a r e1 e2).1 (fun z => z), (h3 i a r e1 e2).2⟩⟩
        have low3 : ∀ r ∈ [List.replicate 3000 [97]], ∀ w ∈ r, Low (mkS w) := fun r hr w hw => by
          rw [List.mem_singleton.mp hr] at hw
          rw [List.eq_of_mem_replicate hw]
          exact low_mk fun e he => by rw [List.mem_singleton.mp he]; decide
        refine ⟨rowsD [List.replicate 3000 [97]], rowsD [List.replicate 3000 [97]], dp_rows R4, .lst (.inl (.inl upd_same)) (.cons (dp_row (by rw [upd_ne n45, upd_same, er])) .nil), rows_shaped _ low3, rows_shaped _ low3, ?_⟩
        rw [SeqAt.eqv_refl _ (rows_can _ low3)]
        exact q _
end
end K1

set_option Elab.async false
set_option linter.all false
set_option maxRecDepth 100000
set_option maxHeartbeats 0
namespace K1
open PySem PySem.Spec PyProof.Rows L2
/-! ### the head: facts by names, the run -/
def mkD (x : PySem.Str) (i : Nat) : He.DefD := ⟨(x, none), x, x, defArgs (top i), defBody (top i), defScope (top i), [], []⟩
def fn : List He.DefD := [mkD "is_whole" 3, mkD "is_name" 4, mkD "number_in" 5, mkD "rows_of" 6, mkD "_law_begin" 8, mkD "_law_mixed" 9, mkD "_law_next" 10, mkD "_law_sign" 11, mkD "_law_text" 12, mkD "_law_figures" 13, mkD "_law_is_name" 14, mkD "_law_read" 15, mkD "_law_whole_right" 16, mkD "_law_same" 17, mkD "_law_parted" 18, mkD "_law_rows_right" 19, mkD "law" 20]
def fa : List He.Fa := [.glo "is_whole", .glo "is_name", .glo "number_in", .glo "rows_of", .glo "_law_begin", .glo "_law_mixed", .glo "_law_next", .glo "_law_sign", .glo "_law_text", .glo "_law_figures", .glo "_law_is_name", .glo "_law_read", .glo "_law_whole_right", .glo "_law_same", .glo "_law_parted", .glo "_law_rows_right", .glo "law",
  .free "type", .free "int", .free "str", .free "len", .free "range", .free "isinstance", .free "bool", .free "list", .free "min", .int "LONGEST_NAME" 8, .int "MOST_FIGURES" 4]
def tf : List He.Defn := [("is_name", none), ("number_in", none)]
abbrev R : PySem.W.OpenRow := PySem.W.OpenLaw.row PySem.Challenge.rw_bitneed_k01_names_numbers_and_rows
abbrev hk : PySem.W.Hook := He.hookX 4 fa fn [] tf (fun _ => true)
def ob (s : PySem.W.SharedT) : He.AlX := He.obsX 4 fa fn [] tf (fun _ => true) (HandSHeadRun.getT s)
theorem ob_eq (s : PySem.W.SharedT) : ob s = hk.obs s.abs := He.obsX_eq (HandSHeadRun.getT_eq s)
def loose : List PySem.Str := ["LONGEST_NAME", "MOST_FIGURES", "is_whole", "is_name", "number_in", "rows_of", "_law_begin", "_law_mixed", "_law_next", "_law_sign", "_law_text", "_law_figures", "_law_is_name", "_law_read", "_law_whole_right", "_law_same", "_law_parted", "_law_rows_right"]
theorem run (w : World) : HandSHeadRun.RunEq R (PySem.W.view R.prog [20]) hk ob 2000 loose w := by
  intro os
  kernel_rfl
end K1

set_option Elab.async false
set_option linter.all false
set_option maxRecDepth 100000
set_option maxHeartbeats 0
namespace K1
open PySem PySem.Spec PyProof.Rows L2
theorem facts {P : Program} {w : World} {K : PySem.W.Frag} {h : Heap} {mg : PySem.Str → Option Value} {f : Addr} (X : K.In h) (G : h.Ns mainGlobals mg) (hfa : mg ("law" : PySem.Str) = some (.ref f)) (c : He.SaysD fa fn K) :
    ∃ fd : FuncData, (∀ (s : Shared) (v : Value), BindsTo s fd ⟨[v], []⟩ [("script", v)]) ∧ ∀ base : Heap, K.In base → base.Ns mainGlobals mg → (∀ p ∈ tf.map (He.cT K), GxR.TabB base mg p.1 p.2) → FnOk P w K mg base CX0 5 f fd ["script"] (spLaw K (He.cT K ("is_name", none)).2 (He.cT K ("number_in", none)).2) := by
  obtain ⟨fd0, F0⟩ := c.def_ 0 (d := mkD "is_whole" 3) rfl
  obtain ⟨fd1, F1⟩ := c.def_ 1 (d := mkD "is_name" 4) rfl
  obtain ⟨fd3, F3⟩ := c.def_ 2 (d := mkD "number_in" 5) rfl
  obtain ⟨fd5, F5⟩ := c.def_ 3 (d := mkD "rows_of" 6) rfl
  obtain ⟨fd6, F6⟩ := c.def_ 4 (d := mkD "_law_begin" 8) rfl
  obtain ⟨fd7, F7⟩ := c.def_ 5 (d := mkD "_law_mixed" 9) rfl
  obtain ⟨fd8, F8⟩ := c.def_ 6 (d := mkD "_law_next" 10) rfl
  obtain ⟨fd9, F9⟩ := c.def_ 7 (d := mkD "_law_sign" 11) rfl
  obtain ⟨fd10, F10⟩ := c.def_ 8 (d := mkD "_law_text" 12) rfl
  obtain ⟨fd11, F11⟩ := c.def_ 9 (d := mkD "_law_figures" 13) rfl
  obtain ⟨fd12, F12⟩ := c.def_ 10 (d := mkD "_law_is_name" 14) rfl
  obtain ⟨fd13, F13⟩ := c.def_ 11 (d := mkD "_law_read" 15) rfl
  obtain ⟨fd14, F14⟩ := c.def_ 12 (d := mkD "_law_whole_right" 16) rfl
  obtain ⟨fd15, F15⟩ := c.def_ 13 (d := mkD "_law_same" 17) rfl
  obtain ⟨fd16, F16⟩ := c.def_ 14 (d := mkD "_law_parted" 18) rfl
  obtain ⟨fd17, F17⟩ := c.def_ 15 (d := mkD "_law_rows_right" 19) rfl
  obtain ⟨fd18, F18⟩ := c.def_ 16 (d := mkD "law" 20) rfl
  have e := hfa.symm.trans (He.glo_ok X G (c.fact 16 (f := .glo "law") rfl))
  cases e
  have g0 := He.glo_ok X G (c.fact 0 (f := .glo "is_whole") rfl)
  have g1 := He.glo_ok X G (c.fact 1 (f := .glo "is_name") rfl)
  have g3 := He.glo_ok X G (c.fact 2 (f := .glo "number_in") rfl)
  have g5 := He.glo_ok X G (c.fact 3 (f := .glo "rows_of") rfl)
  have g6 := He.glo_ok X G (c.fact 4 (f := .glo "_law_begin") rfl)
  have g7 := He.glo_ok X G (c.fact 5 (f := .glo "_law_mixed") rfl)
  have g8 := He.glo_ok X G (c.fact 6 (f := .glo "_law_next") rfl)
  have g9 := He.glo_ok X G (c.fact 7 (f := .glo "_law_sign") rfl)
  have g10 := He.glo_ok X G (c.fact 8 (f := .glo "_law_text") rfl)
  have g11 := He.glo_ok X G (c.fact 9 (f := .glo "_law_figures") rfl)
  have g12 := He.glo_ok X G (c.fact 10 (f := .glo "_law_is_name") rfl)
  have g13 := He.glo_ok X G (c.fact 11 (f := .glo "_law_read") rfl)
  have g14 := He.glo_ok X G (c.fact 12 (f := .glo "_law_whole_right") rfl)
  have g15 := He.glo_ok X G (c.fact 13 (f := .glo "_law_same") rfl)
  have g16 := He.glo_ok X G (c.fact 14 (f := .glo "_law_parted") rfl)
  have g17 := He.glo_ok X G (c.fact 15 (f := .glo "_law_rows_right") rfl)
  have mty := He.free_ok X G (c.fact 17 (f := .free "type") rfl)
  have mint := He.free_ok X G (c.fact 18 (f := .free "int") rfl)
  have mstr := He.free_ok X G (c.fact 19 (f := .free "str") rfl)
  have mlen := He.free_ok X G (c.fact 20 (f := .free "len") rfl)
  have mrange := He.free_ok X G (c.fact 21 (f := .free "range") rfl)
  have misi := He.free_ok X G (c.fact 22 (f := .free "isinstance") rfl)
  have mbool := He.free_ok X G (c.fact 23 (f := .free "bool") rfl)
  have mlist := He.free_ok X G (c.fact 24 (f := .free "list") rfl)
  have mmin := He.free_ok X G (c.fact 25 (f := .free "min") rfl)
  have mln := He.int_ok X G (c.fact 26 (f := .int "LONGEST_NAME" 8) rfl)
  have mmf := He.int_ok X G (c.fact 27 (f := .int "MOST_FIGURES" 4) rfl)
  have b := FunD.bindsA (ps := ["script"]) F18 fun _ _ _ _ _ _ us hl => match us, hl with | [_], _ => rfl
  have b0 : Binds K fd0 ["thing", "least", "most"] [] := FunD.bindsN F0 fun _ _ _ _ _ _ us hl => match us, hl with | [_, _, _], _ => rfl
  have b1 : Binds K fd1 ["thing"] [] := FunD.bindsN F1 fun _ _ _ _ _ _ us hl => match us, hl with | [_], _ => rfl
  have b3 : Binds K fd3 ["word"] [] := FunD.bindsN F3 fun _ _ _ _ _ _ us hl => match us, hl with | [_], _ => rfl
  have b5 : Binds K fd5 ["text"] [] := FunD.bindsN F5 fun _ _ _ _ _ _ us hl => match us, hl with | [_], _ => rfl
  have b6 : Binds K fd6 ["script"] [] := FunD.bindsN F6 fun _ _ _ _ _ _ us hl => match us, hl with | [_], _ => rfl
  have b7 : Binds K fd7 ["cell", "k"] [] := FunD.bindsN F7 fun _ _ _ _ _ _ us hl => match us, hl with | [_, _], _ => rfl
  have b8 : Binds K fd8 ["draw", "many"] [] := FunD.bindsN F8 fun _ _ _ _ _ _ us hl => match us, hl with | [_, _], _ => rfl
  have b9 : Binds K fd9 ["draw"] [] := FunD.bindsN F9 fun _ _ _ _ _ _ us hl => match us, hl with | [_], _ => rfl
  have b10 : Binds K fd10 ["draw"] [] := FunD.bindsN F10 fun _ _ _ _ _ _ us hl => match us, hl with | [_], _ => rfl
  have b11 : Binds K fd11 ["draw"] [] := FunD.bindsN F11 fun _ _ _ _ _ _ us hl => match us, hl with | [_], _ => rfl
  have b12 : Binds K fd12 ["thing"] [] := FunD.bindsN F12 fun _ _ _ _ _ _ us hl => match us, hl with | [_], _ => rfl
  have b13 : Binds K fd13 ["word"] [] := FunD.bindsN F13 fun _ _ _ _ _ _ us hl => match us, hl with | [_], _ => rfl
  have b14 : Binds K fd14 ["draw"] [] := FunD.bindsN F14 fun _ _ _ _ _ _ us hl => match us, hl with | [_], _ => rfl
  have b15 : Binds K fd15 ["found", "due"] [] := FunD.bindsN F15 fun _ _ _ _ _ _ us hl => match us, hl with | [_, _], _ => rfl
  have b16 : Binds K fd16 ["text"] [] := FunD.bindsN F16 fun _ _ _ _ _ _ us hl => match us, hl with | [_], _ => rfl
  have b17 : Binds K fd17 ["draw"] [] := FunD.bindsN F17 fun _ _ _ _ _ _ us hl => match us, hl with | [_], _ => rfl
  refine ⟨fd18, fun s v => b s [v] rfl, fun base _ _ TB => ?_⟩
  have tb1 : GxR.TabB base mg (He.codeOf K ("is_name", none)) (He.cT K ("is_name", none)).2 := TB _ (List.mem_map.mpr ⟨("is_name", none), List.mem_cons_self, rfl⟩)
  have k0 : FnOk P w K mg base CX0 1 _ fd0 _ _ := ok_whole F0 mty mint
  have k1 : FnOk P w K mg base CX0 2 _ fd1 _ _ := ok_name F1 mty mstr mlen mln
  have k3 : FnOk P w K mg base CX0 3 _ fd3 _ _ := ok_num F3 (Pt := (He.cT K ("number_in", none)).2) mlen mint mmf
  have k5 : FnOk P w K mg base CX0 2 _ fd5 _ _ := ok_rows F5
  have k6 : FnOk P w K mg base CX0 1 _ fd6 _ _ := ok_begin F6
  have k7 : FnOk P w K mg base CX0 1 _ fd7 _ _ := ok_mixed F7
  have k8 : FnOk P w K mg base CX0 2 _ fd8 _ _ := ok_next F8 k7 b7 F7.kp g7 mlen
  have k9 : FnOk P w K mg base CX0 3 _ fd9 _ _ := ok_sign F9 k8 b8 F8.kp g8 mlen
  have k10 : FnOk P w K mg base CX0 4 _ fd10 _ _ := ok_text F10 k8 b8 F8.kp g8 k9 b9 F9.kp g9 mrange
  have k11 : FnOk P w K mg base CX0 4 _ fd11 _ _ := ok_figures F11 k8 b8 F8.kp g8 k9 b9 F9.kp g9 mrange mlen
  have k12 : FnOk P w K mg base CX0 1 _ fd12 _ _ := ok_lname F12 misi mstr mlen
  have k13 : FnOk P w K mg base CX0 1 _ fd13 _ _ := ok_lread F13 mlen
  have k14 : FnOk P w K mg base CX0 3 _ fd14 _ _ := ok_wr F14 k8 b8 F8.kp g8 k0 b0 F0.kp g0 misi mint mbool
  have k15 : FnOk P w K mg base CX0 1 _ fd15 _ _ := ok_lsame F15 misi mint mbool
  have k16 : FnOk P w K mg base CX0 1 _ fd16 _ _ := ok_parted F16 mint
  have k17 : FnOk P w K mg base CX0 4 _ fd17 _ _ := ok_rr F17 k8 b8 F8.kp g8 k9 b9 F9.kp g9 k5 b5 F5.kp g5 k16 b16 F16.kp g16 mrange misi mlist mlen
  exact ok_law F18 ⟨_, _, k6, b6, F6.kp, g6⟩ ⟨_, _, k8, b8, F8.kp, g8⟩ ⟨_, _, k10, b10, F10.kp, g10⟩ ⟨_, _, k11, b11, F11.kp, g11⟩ ⟨_, _, k1, b1, F1.kp, g1⟩ ⟨_, _, k12, b12, F12.kp, g12⟩ ⟨_, _, k3, b3, F3.kp, g3⟩ ⟨_, _, k15, b15, F15.kp, g15⟩ ⟨_, _, k13, b13, F13.kp, g13⟩
    ⟨_, _, k14, b14, F14.kp, g14⟩ ⟨_, _, k17, b17, F17.kp, g17⟩ ⟨_, _, k5, b5, F5.kp, g5⟩ mrange mmin mlen misi mbool
end K1
open PySem PySem.W PySem.Calls PyProof.Rows
theorem PySem.Challenge.cw_bitneed_k01_names_numbers_and_rows_holds : PySem.Challenge.rw_bitneed_k01_names_numbers_and_rows.Holds := by
  w_on; o_law
  refine HandSHeadRun.head_any (r := OpenLaw.row PySem.Challenge.rw_bitneed_k01_names_numbers_and_rows) (q := view (OpenLaw.row PySem.Challenge.rw_bitneed_k01_names_numbers_and_rows).prog [20]) (H := K1.hk) (ob := K1.ob) (M := 2000) (loose := K1.loose) (d := HandSHeadRun.topDef (OpenLaw.row PySem.Challenge.rw_bitneed_k01_names_numbers_and_rows).prog 20) (kwd := []) K1.ob_eq
    (by kernel_rfl) (fun s => by kernel_rfl) K1.run (by kernel_rfl) (by kernel_rfl) (by kernel_rfl) (by rfl) (by first | assumption | decide +kernel) (by decide +kernel) ⟨rfl, rfl, rfl, rfl, rfl, by decide +kernel⟩ ?hw ?hc
  case hw => w_witness2
  case hc =>
    refine LamX.walk_ofTsE (l := PySem.Challenge.rw_bitneed_k01_names_numbers_and_rows) (n := 63) (k := 5) (x := "script") (CX := fun _ => L2.CX0) rfl (by decide) (by kernel_rfl) ⟨rfl, by decide, by decide⟩ ?F (fun _ _ _ _ _ z => z)
    intro w mg fa h Y G hmg0
    obtain ⟨K, KX, c⟩ := Y
    have hmg : mg ("law" : PySem.Str) = some (.ref fa) := by
      have e : (HandSHeadRun.topDef (OpenLaw.row PySem.Challenge.rw_bitneed_k01_names_numbers_and_rows).prog 20).name = ("law" : PySem.Str) := by kernel_rfl
      rw [← e]
      exact hmg0
    obtain ⟨fd, hb, hF⟩ := K1.facts (P := (PySem.Challenge.rw_bitneed_k01_names_numbers_and_rows).prog) (w := w) KX G hmg c.t.d
    refine ⟨K, KX, fd, K1.tf.map (He.cT K), K1.spLaw K (He.cT K ("is_name", none)).2 (He.cT K ("number_in", none)).2, fun p hp => ?_, fun p hp => ?_, fun p hp => ?_, hb, fun H a ns hl _ hT hS => ?_, fun base h1 h2 h3 => hF base h1 h2 fun p hp => ⟨(h3 p hp).code, (h3 p hp).bm, (h3 p hp).gP⟩⟩
    · obtain ⟨q, hq, rfl⟩ := List.mem_map.mp hp
      exact c.empty q hq
    · obtain ⟨q, hq, rfl⟩ := List.mem_map.mp hp
      exact c.out q hq
    · obtain ⟨q, hq, rfl⟩ := List.mem_map.mp hp
      exact PySem.W.codeHd_of_K KX (c.hd q hq)
    · exact ⟨a, ns, rfl, hS, hl, ⟨#[], hT _ (List.mem_map.mpr ⟨("is_name", none), List.mem_cons_self, rfl⟩), trivial⟩, ⟨#[], hT _ (List.mem_map.mpr ⟨("number_in", none), List.mem_cons_of_mem _ List.mem_cons_self, rfl⟩), trivial⟩, fun _ => rfl⟩

