/- What the laws of stage 7 ask of package pagestore, whatever its fields are; a store and its model side by side. -/
import Derived.Test.YtckomifecmemnaaGreatDql
import Derived.Test.YtckomifecmemnaaGreatPsh
import Derived.Test.YtckomifecmemnaaGreatSm7
namespace Go.Proofs.YtckomifecmemnaaGreat
open Go.RowKit Dig
set_option linter.unusedVariables false

/-- The sectors from a to b - 1 as they are durable. -/
def cutD (s : DS) (a b : Nat) : List (List UInt8) := (s.dur.drop a).take (b - a)
/-- The power is on, nothing is pending, no failure is armed. -/
def calmD (s : DS) : Prop := s.off = false ∧ s.pend = [] ∧ s.armed = false
/-- Nothing but the sectors from a to b - 1 has changed. -/
def SameD (a b : Nat) (s s' : DS) : Prop := s'.dur.length = s.dur.length ∧ ∀ i, i < a ∨ b ≤ i → s'.dur[i]? = s.dur[i]?
/-- What a store's objects are: its memory m in the blocks F, its disk d, its range, what its program knows besides, its state. -/
abbrev ObjP (G : Type) := World → (Nat → Prop) → Nat → Nat → Nat → Nat → G → SS → Prop
/-- What sectors hold: the versions that are kept, the last one's number. -/
abbrev FitP (G : Type) := List (List UInt8) → G → Nat → List (List Pg) → Prop
/-- What a method that does not access the disk hands back and leaves. -/
def PSt {G : Type} (Obj : ObjP G) (w : World) (F : Nat → Prop) (m d a b : Nat) (g : G) (r : Value) (s : SS) (w' : World) : Prop :=
  ∃ F', Obj w' F' m d a b g s ∧ (∀ k, F' k → MoreR F w w' k) ∧ (∀ k, r.ownBlock = some k → w.heap.size ≤ k → ¬ F' k) ∧ Turn F w w'
def fewS (s : SS) : Prop := s.work.length ≤ 256 ∧ ∀ l ∈ s.kept, l.length ≤ 256
/-- The contracts of package pagestore. -/
structure Prog7 {G : Type} (Obj : ObjP G) (Fit : FitP G) : Prop where
  ok : ∀ {w F m d a b g s}, Obj w F m d a b g s → okSS s ∧ fewS s
  lt : ∀ {w F m d a b g s}, Obj w F m d a b g s → ∀ k, F k → k < w.heap.size
  keep : ∀ {w w' : World} {F m d a b g s}, Obj w F m d a b g s → w.heap.size ≤ w'.heap.size → (∀ k, F k → w'.heap[k]? = w.heap[k]?) → Obj w' F m d a b g s
  zero : ∀ n : Nat, 32 ≤ n → n ≤ 8192 → ∃ g, Fit (List.replicate n Z64) g 0 [[]]
  version : ∀ {w F m d a b g s}, Obj w F m d a b g s → s.last ≤ 1000000 → Calls Tryz.prog 32 #[.pointer (some ⟨m, 0, none⟩)] w fun e w' => e = .returned (.int .i64 (s.last : Int)) ∧ PSt Obj w F m d a b g (.tuple #[]) s w'
  versions : ∀ {w F m d a b g s}, Obj w F m d a b g s → s.last ≤ 1000000 → Calls Tryz.prog 23 #[.pointer (some ⟨m, 0, none⟩)] w fun e w' => ∃ r, e = .returned r ∧ w'.ownsRow w.heap.size 3 1 r (versionsS s).length ((versionsS s).map (Value.int .i64)) ∧ PSt Obj w F m d a b g r s w'
  pages : ∀ {w F m d a b g s}, Obj w F m d a b g s → s.last ≤ 1000000 → ∀ v : Int, -1000000 ≤ v → v ≤ 2000000 → Calls Tryz.prog 22 #[.pointer (some ⟨m, 0, none⟩), .int .i64 v] w fun e w' => ∃ r, e = .returned r ∧ w'.ownsRow w.heap.size 3 1 r (pagesS s v).length ((pagesS s v).map fun p : Nat => Value.int .i64 (p : Int)) ∧ PSt Obj w F m d a b g r s w'
  get : ∀ {w F m d a b g s}, Obj w F m d a b g s → s.last ≤ 1000000 → ∀ v no : Int, -1000000 ≤ v → v ≤ 2000000 → Calls Tryz.prog 24 #[.pointer (some ⟨m, 0, none⟩), .int .i64 v, .int .i64 no] w fun e w' => ∃ r, e = .returned (.tuple #[r, .int .i64 (getS s v no).1]) ∧ OwB w.heap.size w' r (getS s v no).2 ∧ PSt Obj w F m d a b g r s w'
  put : ∀ {w F m d a b g s}, Obj w F m d a b g s → ∀ (no : Int) (u : Value) (x : List UInt8), Byt w u x → x.length ≤ 100000 → (0 < x.length → ∀ k, u.ownBlock = some k → ¬ F k) → Calls Tryz.prog 20 #[.pointer (some ⟨m, 0, none⟩), .int .i64 no, u] w fun e w' => e = .returned (.int .i64 (putS s no x).1) ∧ PSt Obj w F m d a b g u (putS s no x).2 w'
  delete : ∀ {w F m d a b g s}, Obj w F m d a b g s → ∀ no : Int, Calls Tryz.prog 37 #[.pointer (some ⟨m, 0, none⟩), .int .i64 no] w fun e w' => e = .returned (.int .i64 (deleteS s no).1) ∧ PSt Obj w F m d a b g (.tuple #[]) (deleteS s no).2 w'
  rollback : ∀ {w F m d a b g s}, Obj w F m d a b g s → Calls Tryz.prog 40 #[.pointer (some ⟨m, 0, none⟩)] w fun e w' => e = .returned (.tuple #[]) ∧ PSt Obj w F m d a b g (.tuple #[]) (rollbackS s) w'
  commit : ∀ {w F m d a b g s Fd ds}, Obj w F m d a b g s → Disk w Fd d ds → (∀ k, F k → ¬ Fd k) → calmD ds → b ≤ ds.dur.length → Fit (cutD ds a b) g s.last s.kept → s.last ≤ 1000000 → Calls Tryz.prog 14 #[.pointer (some ⟨m, 0, none⟩)] w fun e w' =>
    ∃ F' Fd' g' ds' s', Obj w' F' m d a b g' s' ∧ Disk w' Fd' d ds' ∧ (∀ k, F' k → ¬ Fd' k) ∧ (∀ k, F' k ∨ Fd' k → MoreR (fun k => F k ∨ Fd k) w w' k) ∧ Turn (fun k => F k ∨ Fd k) w w' ∧ calmD ds' ∧ SameD a b ds ds' ∧ Fit (cutD ds' a b) g' s'.last s'.kept ∧
      ((s' = commitS s ∧ e = .returned (.tuple #[.int .i64 ((s.last + 1 : Nat) : Int), .int .i64 0])) ∨ (s' = s ∧ (b - a) / 2 < needS s ∧ e = .returned (.tuple #[.int .i64 0, .int .i64 9])))
  open' : ∀ {w Fd d ds g n L}, Disk w Fd d ds → ∀ a b : Nat, a + 32 ≤ b → b ≤ ds.dur.length → calmD ds → Fit (cutD ds a b) g n L → Calls Tryz.prog 10 #[.pointer (some ⟨d, 0, none⟩), .int .i64 (a : Int), .int .i64 (b : Int)] w fun e w' =>
    ∃ m F' Fd' g' ds', e = .returned (.tuple #[.pointer (some ⟨m, 0, none⟩), .int .i64 0]) ∧ Obj w' F' m d a b g' ⟨n, L, L.getLastD []⟩ ∧ Disk w' Fd' d ds' ∧ (∀ k, F' k → ¬ Fd' k) ∧ (∀ k, F' k → w.heap.size ≤ k) ∧ (∀ k, Fd' k → MoreR Fd w w' k) ∧ Turn Fd w w' ∧ calmD ds' ∧ SameD a b ds ds' ∧ Fit (cutD ds' a b) g' n L
  openBad : ∀ {w Fd d ds}, Disk w Fd d ds → ∀ a b : Int, -9223372036854775808 ≤ a → a ≤ 9223372036854775807 → -9223372036854775808 ≤ b → b ≤ 9223372036854775807 → ¬ (0 ≤ a ∧ a + 32 ≤ b ∧ b ≤ (ds.dur.length : Int)) → Calls Tryz.prog 10 #[.pointer (some ⟨d, 0, none⟩), .int .i64 a, .int .i64 b] w fun e w' =>
    e = .returned (.tuple #[.pointer none, .int .i64 1]) ∧ ∃ Fd', Disk w' Fd' d ds ∧ (∀ k, Fd' k → MoreR Fd w w' k) ∧ Turn Fd w w'
  openOff : ∀ {w Fd d ds}, Disk w Fd d ds → ∀ a b : Nat, a + 32 ≤ b → b ≤ ds.dur.length → ds.off = true → Calls Tryz.prog 10 #[.pointer (some ⟨d, 0, none⟩), .int .i64 (a : Int), .int .i64 (b : Int)] w fun e w' =>
    e = .returned (.tuple #[.pointer none, .int .i64 10]) ∧ ∃ Fd', Disk w' Fd' d ds ∧ (∀ k, Fd' k → MoreR Fd w w' k) ∧ Turn Fd w w'
/-- A store and its model, apart from one another and from what was there. -/
def Duo {G : Type} (Obj : ObjP G) (w : World) (B : Nat) (F R : Nat → Prop) (m d a b : Nat) (g : G) (x : Nat) (s1 s2 : SS) : Prop :=
  Obj w F m d a b g s1 ∧ RSto w R x s2 ∧ (∀ k, F k → B ≤ k) ∧ (∀ k, R k → B ≤ k) ∧ ∀ k, F k → ¬ R k
section
variable {G : Type} {Obj : ObjP G} {Fit : FitP G} {w w' : World} {B m d a b x : Nat} {F R : Nat → Prop} {g : G} {s1 s2 s : SS} {v : Value} {e : Ending}
theorem Duo.prog (P : Prog7 Obj Fit) (h : Duo Obj w B F R m d a b g x s1 s2) (hB : B ≤ w.heap.size) (hd : PSt Obj w F m d a b g v s w') : (∃ F', Duo Obj w' B F' R m d a b g x s s2 ∧ (∀ k, F' k → MoreR F w w' k) ∧ (∀ k, v.ownBlock = some k → w.heap.size ≤ k → ¬ F' k)) ∧ Below B w w' := by
  obtain ⟨hO, hR, h1, h2, h3⟩ := h
  obtain ⟨F', hO', hF, hv, ⟨t1, t2, t3, t4, t5⟩⟩ := hd
  refine ⟨⟨F', ⟨hO', hR.keep t4 (fun k hk => t5 k (hR.2.2.1 k hk) fun hf => h3 k hf hk), fun k hk => (hF k hk).elim (h1 k) (fun h => Nat.le_trans hB h.1), h2, fun k hk hr => ?_⟩, hF, hv⟩, t1, t2, t3, t4, fun k hk => t5 k (by omega) fun hf => by have := h1 k hf; omega⟩
  rcases hF k hk with h | h
  · exact h3 k h hr
  · have := hR.2.2.1 k hr
    omega
theorem Duo.ref (P : Prog7 Obj Fit) (h : Duo Obj w B F R m d a b g x s1 s2) (hB : B ≤ w.heap.size) (hd : RSd w R x v s e w') : e = .returned v ∧ Duo Obj w' B F (MoreR R w w') m d a b g x s1 s ∧ Below B w w' := by
  obtain ⟨hO, hR, h1, h2, h3⟩ := h
  obtain ⟨he, hR', ⟨t1, t2, t3, t4, t5⟩⟩ := hd
  have hx := hR.2.1
  refine ⟨he, ⟨P.keep hO t4 (fun k hk => t5 k (P.lt hO k hk) fun e => h3 k hk (by rw [e]; exact hx)), hR', h1, fun k hk => hk.elim (h2 k) (fun h => Nat.le_trans hB h.1), fun k hk hr => ?_⟩, t1, t2, t3, t4, fun k hk => t5 k (by omega) fun e => by have := h2 x hx; omega⟩
  rcases hr with hr | hr
  · exact h3 k hk hr
  · have := P.lt hO k hk
    omega
theorem Duo.below (P : Prog7 Obj Fit) (h : Duo Obj w B F R m d a b g x s1 s2) (hB : Below w.heap.size w w') : Duo Obj w' B F R m d a b g x s1 s2 := by
  obtain ⟨hO, hR, h1, h2, h3⟩ := h
  exact ⟨P.keep hO hB.size fun k hk => hB.block k (P.lt hO k hk), hR.below hB, h1, h2, h3⟩
end
end Go.Proofs.YtckomifecmemnaaGreat
