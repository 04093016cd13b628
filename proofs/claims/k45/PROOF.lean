import PyProof.Rows.All
import Wide.All
import OpenK.AllK
import Wide.FinOn
import Lean
import PyProof.EqAt
import PyProof.EqKinds
import PyProof.TupleCall
import OpenK.KOwn
import KE.KTryMore
import KE.KIntText
import PySem.SetOps
import PyProof.SetRoads
import PyProof.Rows.SetFrom
import PyProof.FactsAll.subtypes_4
import PyProof.WalksMore
import PyProof.NeData
import PyProof.ReprRoads
import PyProof.WalksEnum
import PyProof.EnumMake
import PyProof.Rows.EnumRows
import KE.KDictList
import PyProof.ConsumeS
import PyProof.ListRange
import PyProof.ListMulRoad
import PyProof.CompUse
import PyProof.CompFree
import PyProof.DictUpdate
import PyProof.Rows.TupDisplay
import PyProof.DictWalks
import PyProof.TupleOfGen
import PySem.Challenge.RW_quarterfold_k45_whole_larger_and_lesser
set_option Elab.async false
set_option linter.all false
set_option maxRecDepth 100000
set_option maxHeartbeats 4000000
namespace L2
open PySem
def qj7 (s : Stmt) (j : Nat) : Stmt := match s with
  | .ClassDef _ _ _ body _ _ _ _ _ _ _ => body.getD j (.Pass ⟨0, 0, 0, 0⟩)
  | _ => .Pass ⟨0, 0, 0, 0⟩
def qj0 (s : Stmt) : Arguments := match s with
  | .FunctionDef _ a _ _ _ _ _ _ _ _ => a
  | _ => { posonlyargs := [], args := [], vararg := none, kwonlyargs := [], kw_defaults := [], kwarg := none, defaults := [] }
def qh5 (s : Stmt) : List Stmt := match s with
  | .FunctionDef _ _ b _ _ _ _ _ _ _ => b
  | _ => []
def qa7 (s : Stmt) : Scope := match s with
  | .FunctionDef _ _ _ _ _ _ sc _ _ _ => sc
  | _ => { kind := .function, names := [], isGenerator := false, isCoroutine := false }
end L2
namespace Pr
open PySem
def top (i : Nat) : Stmt := PySem.Challenge.pw_quarterfold_k45_whole_larger_and_lesser.main.body.getD i (.Pass ⟨0, 0, 0, 0⟩)
end Pr
namespace Hd
open PySem PySem.W
abbrev pw : Program := PySem.Challenge.pw_quarterfold_k45_whole_larger_and_lesser
def kh (P : Params) (x : Str) : Int := PySem.PyData.keyHash P x
def oM (n q : Str) (st : Stmt) (m : Value) (c : Nat) : Obj := ⟨.type "function", none, .func (fnOf n q (L2.qj0 st) (L2.qh5 st) (L2.qa7 st) .none .none .none m none (.ref c) .none), #[]⟩
def oF (n : Str) (st : Stmt) (m : Value) (c : Nat) : Obj := ⟨.type "function", none, .func (fnOf n n (L2.qj0 st) (L2.qh5 st) (L2.qa7 st) .none .none .none m none (.ref c) .none), #[]⟩
def oC (n q : Str) (t1 t2 t3 l a r1 r2 : Nat) (y z : Value) (r6 k t5 : Nat) : Obj := ⟨.type "code", none, .fields #[.str n t1, .str q t2, .str "/claim/cut.py" t3, .int l 0, .int a 0, .int 0 0, .int 0 0, .int 3 0, .ref r1, .bool true, .int 181 0, .ref r2, .none, y, z, .ref r6, .int k 0, .int l 0, .str "/claim/cut.py" t5], #[]⟩
def K0 (P : Params) : Frag :=
(nat_lit 2, ⟨.none, none, (.dict #[] 0), #[]⟩) ::
(nat_lit 3, ⟨.type "dict", none, (.dict #[⟨kh P "__name__", .str "__name__" 165, .str "law_quarterfold_k45_whole_larger_and_lesser" 491⟩, ⟨kh P "__doc__", .str "__doc__" 166, .none⟩, ⟨kh P "__package__", .str "__package__" 167, .none⟩, ⟨kh P "__loader__", .str "__loader__" 168, .builtin "__main__.__loader__#opaque"⟩, ⟨kh P "__spec__", .str "__spec__" 169, .none⟩, ⟨kh P "__annotations__", .str "__annotations__" 170, .ref 6⟩, ⟨kh P "__builtins__", .str "__builtins__" 171, .ref 4⟩, ⟨kh P "__file__", .str "__file__" 173, .str "/claim/cut.py" 172⟩, ⟨kh P "__cached__", .str "__cached__" 174, .none⟩, ⟨kh P "_wall", .str "_wall" 193, .ref 21⟩, ⟨kh P "FloorError", .str "FloorError" 213, .ref 31⟩, ⟨kh P "NoFloor", .str "NoFloor" 229, .ref 44⟩, ⟨kh P "NoShape", .str "NoShape" 245, .ref 56⟩, ⟨kh P "NoNumber", .str "NoNumber" 261, .ref 68⟩, ⟨kh P "EMPTY", .str "EMPTY" 265, .int 0 264⟩, ⟨kh P "FULL", .str "FULL" 267, .int 1 266⟩, ⟨kh P "FIRST", .str "FIRST" 269, .int 2 268⟩, ⟨kh P "is_whole", .str "is_whole" 276, .ref 77⟩, ⟨kh P "is_plain", .str "is_plain" 283, .ref 84⟩, ⟨kh P "depths_of", .str "depths_of" 289, .ref 89⟩, ⟨kh P "end_rows", .str "end_rows" 299, .ref 96⟩, ⟨kh P "places_as_ended", .str "places_as_ended" 308, .ref 103⟩, ⟨kh P "renumbered", .str "renumbered" 314, .ref 108⟩, ⟨kh P "shape_of", .str "shape_of" 326, .ref 115⟩, ⟨kh P "Book", .str "Book" 371, .ref 146⟩, ⟨kh P "GREATEST_SIZE", .str "GREATEST_SIZE" 375, .int 12 374⟩, ⟨kh P "is_size", .str "is_size" 382, .ref 157⟩, ⟨kh P "is_number", .str "is_number" 392, .ref 164⟩, ⟨kh P "is_row", .str "is_row" 398, .ref 169⟩, ⟨kh P "are_rows", .str "are_rows" 404, .ref 174⟩, ⟨kh P "is_telling", .str "is_telling" 414, .ref 181⟩, ⟨kh P "is_shape", .str "is_shape" 420, .ref 186⟩, ⟨kh P "want_shape", .str "want_shape" 427, .ref 193⟩, ⟨kh P "larger", .str "larger" 439, .ref 200⟩, ⟨kh P "Lessening", .str "Lessening" 478, .ref 222⟩, ⟨kh P "lesser", .str "lesser" 490, .ref 233⟩, ⟨kh P "_law_pot", .str "_law_pot" 501, .ref 240⟩, ⟨kh P "_law_digit", .str "_law_digit" 510, .ref 247⟩, ⟨kh P "_law_cells", .str "_law_cells" 516, .ref 252⟩, ⟨kh P "_law_box", .str "_law_box" 531, .ref 259⟩, ⟨kh P "_law_boxes", .str "_law_boxes" 537, .ref 264⟩, ⟨kh P "_law_meets", .str "_law_meets" 547, .ref 271⟩, ⟨kh P "_law_has", .str "_law_has" 557, .ref 278⟩, ⟨kh P "_law_number", .str "_law_number" 563, .ref 283⟩, ⟨kh P "_law_shape", .str "_law_shape" 573, .ref 290⟩, ⟨kh P "_law_less", .str "_law_less" 579, .ref 295⟩, ⟨kh P "_law_lessened", .str "_law_lessened" 585, .ref 300⟩, ⟨kh P "_law_halved", .str "_law_halved" 598, .ref 307⟩, ⟨kh P "_law_larger_right", .str "_law_larger_right" 604, .ref 312⟩, ⟨kh P "_law_lesser_right", .str "_law_lesser_right" 610, .ref 317⟩, ⟨kh P "law", .str "law" 621, .ref 324⟩] 51), #[]⟩) ::
(nat_lit 20, oC "_wall" "_wall" 187 188 189 1 1 15 16 (.ref 17) (.ref 18) 19 191 192) ::
(nat_lit 21, oF "_wall" (Pr.top 0) (.str "__main__" 164) 20) ::
(nat_lit 30, ⟨.type "dict", none, (.dict #[⟨kh P "__module__", .str "__module__" 203, .str "quarterfold.errors" 194⟩, ⟨kh P "__firstlineno__", .str "__firstlineno__" 207, .int 5 206⟩, ⟨kh P "__static_attributes__", .str "__static_attributes__" 208, .ref 29⟩, ⟨kh P "__weakref__", .str "__weakref__" 210, .ref 32⟩, ⟨kh P "__doc__", .str "__doc__" 211, .none⟩] 3), #[]⟩) ::
(nat_lit 31, ⟨.type "type", none, (.cls ⟨"FloorError", [.type "ValueError"], [.ref 31, .type "ValueError", .type "Exception", .type "BaseException", .type "object"], 30, "FloorError", true, [], [.ref 44, .ref 56, .ref 68], false, none, false⟩), #[some (.ref 22), none, some (.str "FloorError" 196), some (.str "FloorError" 204), some (.builtin "ValueError.__new__"), some (.bool true)]⟩) ::
(nat_lit 32, ⟨.type "getset_descriptor", none, (.fields #[.str "__weakref__" 209, .ref 31, .builtin "ExceptionGroup.__weakref__", .none]), #[]⟩) ::
(nat_lit 43, ⟨.type "dict", none, (.dict #[⟨kh P "__module__", .str "__module__" 221, .str "quarterfold.errors" 194⟩, ⟨kh P "__firstlineno__", .str "__firstlineno__" 225, .int 7 224⟩, ⟨kh P "__static_attributes__", .str "__static_attributes__" 226, .ref 42⟩, ⟨kh P "__doc__", .str "__doc__" 227, .none⟩] 2), #[]⟩) ::
(nat_lit 44, ⟨.type "type", none, (.cls ⟨"NoFloor", [.ref 31], [.ref 44, .ref 31, .type "ValueError", .type "Exception", .type "BaseException", .type "object"], 43, "NoFloor", true, [], [], false, none, false⟩), #[some (.ref 35), none, some (.str "NoFloor" 214), some (.str "NoFloor" 222), some (.builtin "ValueError.__new__"), some (.bool true)]⟩) ::
(nat_lit 55, ⟨.type "dict", none, (.dict #[⟨kh P "__module__", .str "__module__" 237, .str "quarterfold.errors" 194⟩, ⟨kh P "__firstlineno__", .str "__firstlineno__" 241, .int 9 240⟩, ⟨kh P "__static_attributes__", .str "__static_attributes__" 242, .ref 54⟩, ⟨kh P "__doc__", .str "__doc__" 243, .none⟩] 2), #[]⟩) ::
(nat_lit 56, ⟨.type "type", none, (.cls ⟨"NoShape", [.ref 31], [.ref 56, .ref 31, .type "ValueError", .type "Exception", .type "BaseException", .type "object"], 55, "NoShape", true, [], [], false, none, false⟩), #[some (.ref 47), none, some (.str "NoShape" 230), some (.str "NoShape" 238), some (.builtin "ValueError.__new__"), some (.bool true)]⟩) ::
(nat_lit 67, ⟨.type "dict", none, (.dict #[⟨kh P "__module__", .str "__module__" 253, .str "quarterfold.errors" 194⟩, ⟨kh P "__firstlineno__", .str "__firstlineno__" 257, .int 11 256⟩, ⟨kh P "__static_attributes__", .str "__static_attributes__" 258, .ref 66⟩, ⟨kh P "__doc__", .str "__doc__" 259, .none⟩] 2), #[]⟩) ::
(nat_lit 68, ⟨.type "type", none, (.cls ⟨"NoNumber", [.ref 31], [.ref 68, .ref 31, .type "ValueError", .type "Exception", .type "BaseException", .type "object"], 67, "NoNumber", true, [], [], false, none, false⟩), #[some (.ref 59), none, some (.str "NoNumber" 246), some (.str "NoNumber" 254), some (.builtin "ValueError.__new__"), some (.bool true)]⟩) ::
(nat_lit 76, oC "is_whole" "is_whole" 270 271 272 17 1 71 72 (.ref 73) (.ref 74) 75 274 275) ::
(nat_lit 77, oF "is_whole" (Pr.top 10) (.str "quarterfold.rows" 262) 76) ::
(nat_lit 83, oC "is_plain" "is_plain" 277 278 279 19 1 78 79 (.ref 80) (.ref 81) 82 281 282) ::
(nat_lit 84, oF "is_plain" (Pr.top 11) (.str "quarterfold.rows" 262) 83) ::
(nat_lit 88, oC "depths_of" "depths_of" 284 285 286 21 1 85 86 .none .none 87 287 288) ::
(nat_lit 89, oF "depths_of" (Pr.top 12) (.str "quarterfold.rows" 262) 88) ::
(nat_lit 95, oC "end_rows" "end_rows" 290 291 292 26 3 90 91 (.ref 92) (.ref 93) 94 297 298) ::
(nat_lit 96, oF "end_rows" (Pr.top 13) (.str "quarterfold.rows" 262) 95) ::
(nat_lit 102, oC "places_as_ended" "places_as_ended" 300 301 302 32 2 97 98 (.ref 99) (.ref 100) 101 306 307) ::
(nat_lit 103, oF "places_as_ended" (Pr.top 14) (.str "quarterfold.rows" 262) 102) ::
(nat_lit 107, oC "renumbered" "renumbered" 309 310 311 36 2 104 105 .none .none 106 312 313) ::
(nat_lit 108, oF "renumbered" (Pr.top 15) (.str "quarterfold.rows" 262) 107) ::
(nat_lit 114, oC "shape_of" "shape_of" 315 316 317 38 3 109 110 (.ref 111) (.ref 112) 113 324 325) ::
(nat_lit 115, oF "shape_of" (Pr.top 16) (.str "quarterfold.rows" 262) 114) ::
(nat_lit 128, oC "__init__" "Book.__init__" 339 340 341 47 1 123 124 (.ref 125) (.ref 126) 127 343 344) ::
(nat_lit 129, oM "__init__" "Book.__init__" (L2.qj7 (Pr.top 17) 0) (.str "quarterfold.rows" 262) 128) ::
(nat_lit 135, oC "number_for" "Book.number_for" 346 347 348 51 2 130 131 (.ref 132) (.ref 133) 134 351 352) ::
(nat_lit 136, oM "number_for" "Book.number_for" (L2.qj7 (Pr.top 17) 1) (.str "quarterfold.rows" 262) 135) ::
(nat_lit 142, oC "numbers_for" "Book.numbers_for" 354 355 356 59 2 137 138 (.ref 139) (.ref 140) 141 359 360) ::
(nat_lit 143, oM "numbers_for" "Book.numbers_for" (L2.qj7 (Pr.top 17) 2) (.str "quarterfold.rows" 262) 142) ::
(nat_lit 145, ⟨.type "dict", none, (.dict #[⟨kh P "__module__", .str "__module__" 334, .str "quarterfold.rows" 262⟩, ⟨kh P "__firstlineno__", .str "__firstlineno__" 338, .int 45 337⟩, ⟨kh P "__init__", .str "__init__" 345, .ref 129⟩, ⟨kh P "number_for", .str "number_for" 353, .ref 136⟩, ⟨kh P "numbers_for", .str "numbers_for" 361, .ref 143⟩, ⟨kh P "__static_attributes__", .str "__static_attributes__" 364, .ref 144⟩, ⟨kh P "__dict__", .str "__dict__" 366, .ref 147⟩, ⟨kh P "__weakref__", .str "__weakref__" 368, .ref 148⟩, ⟨kh P "__doc__", .str "__doc__" 369, .none⟩] 4), #[]⟩) ::
(nat_lit 146, ⟨.type "type", none, (.cls ⟨"Book", [.type "object"], [.ref 146, .type "object"], 145, "Book", true, [], [], false, none, false⟩), #[none, none, some (.str "Book" 327), some (.str "Book" 335), some (.builtin "object.__new__"), some (.bool true)]⟩) ::
(nat_lit 147, ⟨.type "getset_descriptor", none, (.fields #[.str "__dict__" 365, .ref 146, .builtin "function.__dict__", .builtin "function.__dict__#set"]), #[]⟩) ::
(nat_lit 148, ⟨.type "getset_descriptor", none, (.fields #[.str "__weakref__" 367, .ref 146, .builtin "ExceptionGroup.__weakref__", .none]), #[]⟩) ::
(nat_lit 156, oC "is_size" "is_size" 376 377 378 63 1 151 152 (.ref 153) (.ref 154) 155 380 381) ::
(nat_lit 157, oF "is_size" (Pr.top 20) (.str "quarterfold.floors" 372) 156) ::
(nat_lit 163, oC "is_number" "is_number" 385 386 387 66 2 158 159 (.ref 160) (.ref 161) 162 390 391) ::
(nat_lit 164, oF "is_number" (Pr.top 22) (.str "quarterfold.tellings" 383) 163) ::
(nat_lit 168, oC "is_row" "is_row" 393 394 395 68 2 165 166 .none .none 167 396 397) ::
(nat_lit 169, oF "is_row" (Pr.top 23) (.str "quarterfold.tellings" 383) 168) ::
(nat_lit 173, oC "are_rows" "are_rows" 399 400 401 72 1 170 171 .none .none 172 402 403) ::
(nat_lit 174, oF "are_rows" (Pr.top 24) (.str "quarterfold.tellings" 383) 173) ::
(nat_lit 180, oC "is_telling" "is_telling" 405 406 407 74 1 175 176 (.ref 177) (.ref 178) 179 412 413) ::
(nat_lit 181, oF "is_telling" (Pr.top 25) (.str "quarterfold.tellings" 383) 180) ::
(nat_lit 185, oC "is_shape" "is_shape" 415 416 417 81 1 182 183 .none .none 184 418 419) ::
(nat_lit 186, oF "is_shape" (Pr.top 26) (.str "quarterfold.tellings" 383) 185) ::
(nat_lit 192, oC "want_shape" "want_shape" 421 422 423 88 1 187 188 (.ref 189) (.ref 190) 191 425 426) ::
(nat_lit 193, oF "want_shape" (Pr.top 27) (.str "quarterfold.tellings" 383) 192) ::
(nat_lit 199, oC "larger" "larger" 430 431 432 92 1 194 195 (.ref 196) (.ref 197) 198 437 438) ::
(nat_lit 200, oF "larger" (Pr.top 29) (.str "quarterfold.scales" 428) 199) ::
(nat_lit 213, oC "__init__" "Lessening.__init__" 452 453 454 100 3 208 209 (.ref 210) (.ref 211) 212 458 459) ::
(nat_lit 214, oM "__init__" "Lessening.__init__" (L2.qj7 (Pr.top 30) 0) (.str "quarterfold.scales" 428) 213) ::
(nat_lit 218, oC "lesser_number" "Lessening.lesser_number" 461 462 463 106 3 215 216 .none .none 217 464 465) ::
(nat_lit 219, oM "lesser_number" "Lessening.lesser_number" (L2.qj7 (Pr.top 30) 1) (.str "quarterfold.scales" 428) 218) ::
(nat_lit 221, ⟨.type "dict", none, (.dict #[⟨kh P "__module__", .str "__module__" 447, .str "quarterfold.scales" 428⟩, ⟨kh P "__firstlineno__", .str "__firstlineno__" 451, .int 98 450⟩, ⟨kh P "__init__", .str "__init__" 460, .ref 214⟩, ⟨kh P "lesser_number", .str "lesser_number" 466, .ref 219⟩, ⟨kh P "__static_attributes__", .str "__static_attributes__" 471, .ref 220⟩, ⟨kh P "__dict__", .str "__dict__" 473, .ref 223⟩, ⟨kh P "__weakref__", .str "__weakref__" 475, .ref 224⟩, ⟨kh P "__doc__", .str "__doc__" 476, .none⟩] 4), #[]⟩) ::
(nat_lit 222, ⟨.type "type", none, (.cls ⟨"Lessening", [.type "object"], [.ref 222, .type "object"], 221, "Lessening", true, [], [], false, none, false⟩), #[none, none, some (.str "Lessening" 440), some (.str "Lessening" 448), some (.builtin "object.__new__"), some (.bool true)]⟩) ::
(nat_lit 223, ⟨.type "getset_descriptor", none, (.fields #[.str "__dict__" 472, .ref 222, .builtin "function.__dict__", .builtin "function.__dict__#set"]), #[]⟩) ::
(nat_lit 224, ⟨.type "getset_descriptor", none, (.fields #[.str "__weakref__" 474, .ref 222, .builtin "ExceptionGroup.__weakref__", .none]), #[]⟩) ::
(nat_lit 232, oC "lesser" "lesser" 479 480 481 116 2 227 228 (.ref 229) (.ref 230) 231 488 489) ::
(nat_lit 233, oF "lesser" (Pr.top 31) (.str "quarterfold.scales" 428) 232) ::
(nat_lit 239, oC "_law_pot" "_law_pot" 493 494 495 126 2 234 235 (.ref 236) (.ref 237) 238 499 500) ::
(nat_lit 240, oF "_law_pot" (Pr.top 33) (.str "law_quarterfold_k45_whole_larger_and_lesser" 491) 239) ::
(nat_lit 246, oC "_law_digit" "_law_digit" 502 503 504 131 2 241 242 (.ref 243) (.ref 244) 245 508 509) ::
(nat_lit 247, oF "_law_digit" (Pr.top 34) (.str "law_quarterfold_k45_whole_larger_and_lesser" 491) 246) ::
(nat_lit 251, oC "_law_cells" "_law_cells" 511 512 513 138 2 248 249 .none .none 250 514 515) ::
(nat_lit 252, oF "_law_cells" (Pr.top 35) (.str "law_quarterfold_k45_whole_larger_and_lesser" 491) 251) ::
(nat_lit 258, oC "_law_box" "_law_box" 517 518 519 141 3 253 254 (.ref 255) (.ref 256) 257 529 530) ::
(nat_lit 259, oF "_law_box" (Pr.top 36) (.str "law_quarterfold_k45_whole_larger_and_lesser" 491) 258) ::
(nat_lit 263, oC "_law_boxes" "_law_boxes" 532 533 534 153 2 260 261 .none .none 262 535 536) ::
(nat_lit 264, oF "_law_boxes" (Pr.top 37) (.str "law_quarterfold_k45_whole_larger_and_lesser" 491) 263) ::
(nat_lit 270, oC "_law_meets" "_law_meets" 538 539 540 157 4 265 266 (.ref 267) (.ref 268) 269 545 546) ::
(nat_lit 271, oF "_law_meets" (Pr.top 38) (.str "law_quarterfold_k45_whole_larger_and_lesser" 491) 270) ::
(nat_lit 277, oC "_law_has" "_law_has" 548 549 550 161 4 272 273 (.ref 274) (.ref 275) 276 555 556) ::
(nat_lit 278, oF "_law_has" (Pr.top 39) (.str "law_quarterfold_k45_whole_larger_and_lesser" 491) 277) ::
(nat_lit 282, oC "_law_number" "_law_number" 558 559 560 165 5 279 280 .none .none 281 561 562) ::
(nat_lit 283, oF "_law_number" (Pr.top 40) (.str "law_quarterfold_k45_whole_larger_and_lesser" 491) 282) ::
(nat_lit 289, oC "_law_shape" "_law_shape" 564 565 566 176 2 284 285 (.ref 286) (.ref 287) 288 571 572) ::
(nat_lit 290, oF "_law_shape" (Pr.top 41) (.str "law_quarterfold_k45_whole_larger_and_lesser" 491) 289) ::
(nat_lit 294, oC "_law_less" "_law_less" 574 575 576 180 6 291 292 .none .none 293 577 578) ::
(nat_lit 295, oF "_law_less" (Pr.top 42) (.str "law_quarterfold_k45_whole_larger_and_lesser" 491) 294) ::
(nat_lit 299, oC "_law_lessened" "_law_lessened" 580 581 582 191 2 296 297 .none .none 298 583 584) ::
(nat_lit 300, oF "_law_lessened" (Pr.top 43) (.str "law_quarterfold_k45_whole_larger_and_lesser" 491) 299) ::
(nat_lit 306, oC "_law_halved" "_law_halved" 586 587 588 196 1 301 302 (.ref 303) (.ref 304) 305 596 597) ::
(nat_lit 307, oF "_law_halved" (Pr.top 44) (.str "law_quarterfold_k45_whole_larger_and_lesser" 491) 306) ::
(nat_lit 311, oC "_law_larger_right" "_law_larger_right" 599 600 601 200 2 308 309 .none .none 310 602 603) ::
(nat_lit 312, oF "_law_larger_right" (Pr.top 45) (.str "law_quarterfold_k45_whole_larger_and_lesser" 491) 311) ::
(nat_lit 316, oC "_law_lesser_right" "_law_lesser_right" 605 606 607 207 2 313 314 .none .none 315 608 609) ::
(nat_lit 317, oF "_law_lesser_right" (Pr.top 46) (.str "law_quarterfold_k45_whole_larger_and_lesser" 491) 316) ::
(nat_lit 323, oC "law" "law" 611 612 613 220 1 318 319 (.ref 320) (.ref 321) 322 619 620) ::
(nat_lit 324, oF "law" (Pr.top 47) (.str "law_quarterfold_k45_whole_larger_and_lesser" 491) 323) :: []
def as0 : List Addr := [2, 3, 20, 21, 30, 31, 32, 43, 44, 55, 56, 67, 68, 76, 77, 83, 84, 88, 89, 95, 96, 102, 103, 107, 108, 114, 115, 128, 129, 135, 136, 142, 143, 145, 146, 147, 148, 156, 157, 163, 164, 168, 169, 173, 174, 180, 181, 185, 186, 192, 193, 199, 200, 213, 214, 218, 219, 221, 222, 223, 224, 232, 233, 239, 240, 246, 247, 251, 252, 258, 259, 263, 264, 270, 271, 277, 278, 282, 283, 289, 290, 294, 295, 299, 300, 306, 307, 311, 312, 316, 317, 323, 324]
def keep0 : List Nat := [0, 2, 3, 4, 5, 7, 8, 9, 10, 11, 12, 13, 14, 15, 16, 17, 19, 20, 22, 23, 24, 25, 26, 27, 29, 30, 31, 33, 34, 35, 36, 37, 38, 39, 40, 41, 42, 43, 44, 45, 46, 47]
def N0 : Nat := 4926
def q0 : Program := { pw with main := { pw.main with body := keep0.map Pr.top } }
theorem as_K : ∀ P, as0 = (K0 P).map (·.1) := fun _ => by kernel_rfl
abbrev X0 : Shared -> Bool := fun s => xlAt q0 [] s && recOk (RowW.records (OpenRow.toRowW (OpenLaw.row PySem.Challenge.rw_quarterfold_k45_whole_larger_and_lesser))) s
set_option maxHeartbeats 0 in
theorem left0 : LeftO pw q0 [] X0 (Hook.obs (kHook Hd.K0 Hd.as0 Hd.as_K)) (Hook.val (kHook Hd.K0 Hd.as0 Hd.as_K)) N0 := fun w => by kernel_rfl
end Hd
set_option Elab.async false
set_option linter.all false
set_option maxRecDepth 100000
namespace L2
open PySem PySem.Spec PyProof.Rows
abbrev Key := Sum Int Str
def qH8 : Key -> Value -> Bool
  | .inl k, v => Value.isInt k v
  | .inr x, v => Value.isStrOf x v
def keyH (w : World) : Key -> Int
  | .inl k => hashInt k
  | .inr x => hashStr w x
theorem qd7 : ∀ {k : Key} {v : Value}, qH8 k v = true -> (∃ i t, k = Sum.inl i ∧ v = Value.int i t) ∨ (∃ x t, k = Sum.inr x ∧ v = Value.str x t)
  | .inl i, v, h => by
    obtain ⟨t, e⟩ := Value.isInt_shape (k := i) (v := v) h
    exact .inl ⟨i, t, rfl, e⟩
  | .inr x, v, h => by
    obtain ⟨t, e⟩ := Value.isStrOf_shape (x := x) (v := v) h
    exact .inr ⟨x, t, rfl, e⟩
theorem qR5 (i : Int) (t : Tok) : qH8 (.inl i) (.int i t) = true := by simp [qH8, Value.isInt]
theorem qR6 (x : Str) (t : Tok) : qH8 (.inr x) (.str x t) = true := by simp [qH8, Value.isStrOf]
theorem key_ll (a b : Int) : decide ((Sum.inl a : Key) = Sum.inl b) = (a == b) := by
  by_cases e : a = b
  . subst e; simp
  . have h : ¬ (Sum.inl a : Key) = Sum.inl b := fun q => e (Sum.inl.inj q)
    rw [decide_eq_false h]
    exact (beq_eq_false_iff_ne.mpr e).symm
theorem key_rr (a b : Str) : decide ((Sum.inr a : Key) = Sum.inr b) = decide (a = b) := by
  by_cases e : a = b
  . subst e; simp
  . have h : ¬ (Sum.inr a : Key) = Sum.inr b := fun q => e (Sum.inr.inj q)
    rw [decide_eq_false h, decide_eq_false e]
theorem key_lr (a : Int) (b : Str) : decide ((Sum.inl a : Key) = Sum.inr b) = false := decide_eq_false (fun q => nomatch q)
theorem key_rl (a : Str) (b : Int) : decide ((Sum.inr a : Key) = Sum.inl b) = false := decide_eq_false (fun q => nomatch q)
def qd8 (prog : Program) (w : World) : PySem.KeyKind prog w Key where
  is := qH8
  hash := keyH w
  inj := fun v a b ha hb => by
    rcases qd7 ha with ⟨i, t, rfl, rfl⟩ | ⟨x, t, rfl, rfl⟩
    . rcases qd7 hb with ⟨j, u, rfl, e⟩ | ⟨y, u, rfl, e⟩
      . injection e with e1 _; rw [e1]
      . exact nomatch e
    . rcases qd7 hb with ⟨j, u, rfl, e⟩ | ⟨y, u, rfl, e⟩
      . exact nomatch e
      . injection e with e1 _; rw [e1]
  byValue := fun k v h => by
    rcases qd7 h with ⟨i, t, rfl, rfl⟩ | ⟨x, t, rfl, rfl⟩ <;> rfl
  pyHash := fun hv h => by
    rcases qd7 hv with ⟨i, t, rfl, rfl⟩ | ⟨x, t, rfl, rfl⟩
    . exact wpAny_pyHash_int h
    . exact wpAny_pyHash_str h
  eqBool := fun hu hv h => by
    rcases qd7 hu with ⟨i, t, rfl, rfl⟩ | ⟨x, t, rfl, rfl⟩
    . rcases qd7 hv with ⟨j, u, rfl, rfl⟩ | ⟨y, u, rfl, rfl⟩
      . rw [key_ll] at h; exact wpAny_eqBool_int h
      . rw [key_lr] at h; exact SeqAt.EqAt.int_str i t y u _ _ _ _ h
    . rcases qd7 hv with ⟨j, u, rfl, rfl⟩ | ⟨y, u, rfl, rfl⟩
      . rw [key_rl] at h; exact SeqAt.EqAt.str_int x t j u _ _ _ _ h
      . rw [key_rr] at h; exact wpAny_eqBool_str h
  «strs» := fun k x t v h => by
    rcases qd7 h with ⟨i, u, rfl, e⟩ | ⟨y, u, rfl, e⟩
    . exact nomatch e
    . injection e with e1 _
      subst e1
      cases v <;> rfl
theorem qH9 (prog : Program) (w : World) (i : Int) (t : Tok) : (qd8 prog w).is (.inl i) (.int i t) = true := qR5 i t
theorem qI0 (prog : Program) (w : World) (x : Str) (t : Tok) : (qd8 prog w).is (.inr x) (.str x t) = true := qR6 x t
end L2
namespace L2
open PySem PySem.Spec PyProof.Rows
inductive V where
  | non | bl (b : Bool) | int (i : Int) | str (x : Str) | byt (b : Array UInt8) | flt (b : UInt64) | ref (a : Addr) | ty (n : String)
  deriving DecidableEq
def RelV : V -> Value -> Prop
  | .non, u => u = Value.none
  | .bl b, u => u = Value.bool b
  | .int i, u => ∃ t, u = Value.int i t
  | .str x, u => ∃ t, u = Value.str x t
  | .byt b, u => ∃ t, u = Value.bytes b t
  | .flt b, u => ∃ t, u = Value.float b t
  | .ref a, u => u = Value.ref a
  | .ty n, u => u = Value.type n
abbrev Vals : List V -> List Value -> Prop := Paired RelV
theorem Vals.length {xs : List V} {us : List Value} (r : Vals xs us) : xs.length = us.length := Paired.length r
theorem Vals.get : ∀ {xs : List V} {us : List Value} {i : Nat} {x : V}, Vals xs us -> xs[i]? = some x -> ∃ u, us[i]? = some u ∧ RelV x u
  | _, _, _, _, .nil, e => by simp at e
  | _, _, 0, _, .cons r _, e => by simp at e; subst e; exact ⟨_, rfl, r⟩
  | _, _, i + 1, x, .cons _ t, e => by
    obtain ⟨u, h1, h2⟩ := Vals.get (i := i) (x := x) t (by simpa using e)
    exact ⟨u, by simpa using h1, h2⟩
theorem Vals.set {x : V} {u : Value} (r : RelV x u) : ∀ {xs : List V} {us : List Value} (i : Nat), Vals xs us -> Vals (xs.set i x) (us.set i u)
  | _, _, _, .nil => .nil
  | _, _, 0, .cons _ t => .cons r t
  | _, _, i + 1, .cons q t => .cons q (Vals.set r i t)
theorem Vals.append : ∀ {xs ys : List V} {us ws : List Value}, Vals xs us -> Vals ys ws -> Vals (xs ++ ys) (us ++ ws)
  | _, _, _, _, .nil, s => s
  | _, _, _, _, .cons r t, s => .cons r (Vals.append t s)
theorem Vals.take : ∀ {xs : List V} {us : List Value} (n : Nat), Vals xs us -> Vals (xs.take n) (us.take n)
  | _, _, 0, _ => .nil
  | _, _, _ + 1, .nil => .nil
  | _, _, n + 1, .cons r t => .cons r (Vals.take n t)
theorem Vals.drop : ∀ {xs : List V} {us : List Value} (n : Nat), Vals xs us -> Vals (xs.drop n) (us.drop n)
  | _, _, 0, r => r
  | _, _, _ + 1, .nil => .nil
  | _, _, n + 1, .cons _ t => Vals.drop n t
theorem Vals.none_of : ∀ {xs : List V} {us : List Value} {i : Nat}, Vals xs us -> xs[i]? = none -> us[i]? = none := fun {xs us i} r e => by
  have h1 := r.length
  have h2 : xs.length ≤ i := List.getElem?_eq_none_iff.mp e
  exact List.getElem?_eq_none_iff.mpr (by lia)
def RelO : Option V -> Option Value -> Prop
  | some v, some u => RelV v u
  | none, none => True
  | _, _ => False
def KV {κ : Type} : List (κ × V) -> List (κ × Value) -> Prop := Paired fun (p : κ × V) (q : κ × Value) => p.1 = q.1 ∧ RelV p.2 q.2
def kV : Key -> V
  | .inl i => .int i
  | .inr x => .str x
inductive HO where
  | lst (xs : List V)
  | tup (xs : List V)
  | dK (kvs : List (Key × V)) | dT (kvs : List (List Key × V))
  | set (S : Int -> Bool) (n : Nat)
  | ins (C dx : Addr) (fs : List (Str × V))
  | own (x : Addr)
  | xd (fs : List (Str × V))
  | met (f x : Addr)
  | rng (lo hi : Int)
  | frz (o : Obj) (u : HO)
  | tbl (ps : Array Value)
  | ext (φ : Heap -> Prop)
abbrev Hp := Addr -> Option HO
def upd (H : Hp) (a : Addr) (o : HO) : Hp := fun b => if b = a then some o else H b
theorem qa1 {H : Hp} {a : Addr} {o : HO} : upd H a o a = some o := by unfold upd; rw [if_pos rfl]
theorem qa6 {H : Hp} {a b : Addr} {o : HO} (h : b ≠ a) : upd H a o b = H b := by unfold upd; rw [if_neg h]
theorem upd_upd {H : Hp} {a : Addr} {o u : HO} : upd (upd H a o) a u = upd H a u := by
  funext b; unfold upd; split <;> rfl
theorem ne_of {H : Hp} {a b : Addr} {o u : HO} (h : H a = some o) (h' : H b = some u) (d : o ≠ u) : a ≠ b := by
  intro e; subst e; rw [h] at h'; exact d (Option.some.inj h')
theorem qa2 {H : Hp} {a b : Addr} {o : HO} (h : H a = some o) (h' : H b = none) : a ≠ b := by
  intro e; subst e; rw [h] at h'; cases h'
def IsTupX (h : Heap) (a : Addr) (items : Array Value) : Prop := ∃ o, h.get? a = some o ∧ o.cls = .type "tuple" ∧ ∃ n : {n : Nat // o.dict = none}, o.data = .seq items n.1
theorem IsTupX.is {h : Heap} {a : Addr} {items : Array Value} (x : IsTupX h a items) : IsTup h a items := let ⟨o, h1, h2, n, h3⟩ := x; ⟨o, h1, h2, n.1, h3⟩
theorem IsTupX.new (h : Heap) (items : Array Value) : IsTupX (h.push { cls := .type "tuple", data := .seq items }) h.objs.size items := ⟨_, Heap.get?_push_size _ rfl, rfl, ⟨_, rfl⟩, rfl⟩
instance {h : Heap} {a : Addr} {items : Array Value} : Coe (IsTupX h a items) (IsTup h a items) := ⟨IsTupX.is⟩
instance {h : Heap} {a : Addr} {items : Array Value} : Coe (IsTupX h a items) (h.IsTuple a items) := ⟨IsTupX.is⟩
section
variable (P : Program) (w : World)
def ObjOk (H : Hp) (h : Heap) (a : Addr) : HO -> Prop
  | .lst xs => xs.length ≤ sizeLine ∧ ∃ (its : List Value) (n : Nat), Vals xs its ∧ h.get? a = some { cls := .type "list", data := .seq its.toArray n }
  | .tup xs => xs.length ≤ sizeLine ∧ ∃ its : List Value, Vals xs its ∧ IsTupX h a its.toArray
  | .dK kvs => kvs.length ≤ sizeLine ∧ (a == sysModules) = false ∧ ∃ vs, KV kvs vs ∧ h.DictOf (qd8 P w) a vs
  | .dT kvs => kvs.length ≤ sizeLine ∧ (a == sysModules) = false ∧ ∃ xs : List (List Key × Addr × Value),
      Paired (fun (p : List Key × V) (q : List Key × Addr × Value) => p.1 = q.1 ∧ H q.2.1 = some (.tup (p.1.map kV)) ∧ RelV p.2 q.2.2) kvs xs ∧
      ∃ o es ep, h.get? a = some o ∧ o.ExactDict ∧ o.data = .dict es ep ∧ es.toList = xs.map (entryOfKey (tupleKind (qd8 P w))) ∧ (xs.map (·.1)).Nodup
  | .set S n => h.SetOf (intKind P w) a S n
  | .ins C dx fs => H dx = some (.own a) ∧ fs.length ≤ 1000 ∧ dx ≠ a ∧ h.get? a = some (PySem.W.instObj C dx) ∧
      ∃ mA, h.Ns1 dx mA ∧ (∀ f, RelO (fs.lookup f) (mA f)) ∧ PySem.Within mA (fs.map (·.1))
  | .own _ => ∃ o, h.get? a = some o
  | .xd fs => ∃ mA, h.Ns1 a mA ∧ ∀ f, RelO (fs.lookup f) (mA f)
  | .rng lo hi => ∃ t u v, h.get? a = some { cls := .type "range", data := .fields #[.int lo t, .int hi u, .int 1 v] }
  | .frz o u => h.get? a = some o ∧ ObjOk H h a u
  | .tbl ps => h.get? a = some { cls := .none, data := .fields ps }
  | .met f x => h.get? a = some (PySem.W.methodObj (.ref f) (.ref x))
  | .ext φ => φ h ∧ (∃ o, h.get? a = some o) ∧ ∀ h1 h2 : Heap, φ h1 -> (∀ o, h1.get? a = some o -> h2.get? a = some o) -> φ h2
def HOk (H : Hp) (h : Heap) : Prop := ∀ a o, H a = some o -> ObjOk P w H h a o
end
section
variable {P : Program} {w : World} {H H' : Hp} {h h' : Heap} {a : Addr} {o : HO}
theorem ObjOk.lt (x : ObjOk P w H h a o) : a < h.objs.size := by
  cases o with
  | lst xs => obtain ⟨_, _, _, _, e⟩ := x; exact Heap.lt_size e
  | tup xs => obtain ⟨_, _, _, p⟩ := x; exact (IsTupX.is p).lt
  | dK kvs => obtain ⟨_, _, _, _, o, _, _, e, _⟩ := x; exact Heap.lt_size e
  | dT kvs => obtain ⟨_, _, _, _, o, _, _, e, _⟩ := x; exact Heap.lt_size e
  | set S n => obtain ⟨o, _, _, _, e, _⟩ := x; exact Heap.lt_size e
  | ins C dx fs => obtain ⟨_, _, _, e, _⟩ := x; exact Heap.lt_size e
  | own y => obtain ⟨_, e⟩ := x; exact Heap.lt_size e
  | xd fs => obtain ⟨_, ⟨_, _, _, e, _⟩, _⟩ := x; exact Heap.lt_size e
  | rng lo hi => obtain ⟨_, _, _, e⟩ := x; exact Heap.lt_size e
  | frz ob u => obtain ⟨e, _⟩ := x; exact Heap.lt_size e
  | tbl ps => exact Heap.lt_size (show h.get? a = some _ from x)
  | met f y => exact Heap.lt_size (show h.get? a = some _ from x)
  | ext φ => obtain ⟨_, ⟨_, e⟩, _⟩ := x; exact Heap.lt_size e
theorem Paired.mapP {α β : Type} {F G : α -> β -> Prop} : ∀ {l₁ : List α} {l₂ : List β}, Paired F l₁ l₂ -> (∀ a b, F a b -> G a b) -> Paired G l₁ l₂
  | _, _, .nil, _ => .nil
  | _, _, .cons r t, f => .cons (f _ _ r) (Paired.mapP t f)
theorem ObjOk.stay (x : ObjOk P w H h a o) (k : ∀ b u, (b = a ∨ H b = some (.own a)) -> h.get? b = some u -> h'.get? b = some u)
    (ho : ∀ b, H b = some (.own a) -> H' b = some (.own a)) (ht : ∀ b xs, H b = some (.tup xs) -> H' b = some (.tup xs)) : ObjOk P w H' h' a o := by
  induction o with
  | lst xs => obtain ⟨z, its, n, r, e⟩ := x; exact ⟨z, its, n, r, k _ _ (.inl rfl) e⟩
  | tup xs => obtain ⟨z, its, r, ob, e, c⟩ := x; exact ⟨z, its, r, ob, k _ _ (.inl rfl) e, c⟩
  | dK kvs => obtain ⟨z, y, vs, r, ob, es, ep, e, c⟩ := x; exact ⟨z, y, vs, r, ob, es, ep, k _ _ (.inl rfl) e, c⟩
  | dT kvs =>
    obtain ⟨z, y, xs, r, ob, es, ep, e, c⟩ := x
    exact ⟨z, y, xs, Paired.mapP r fun p q z => ⟨z.1, ht _ _ z.2.1, z.2.2⟩, ob, es, ep, k _ _ (.inl rfl) e, c⟩
  | set S n => obtain ⟨ob, es, ep, t, e, c⟩ := x; exact ⟨ob, es, ep, t, k _ _ (.inl rfl) e, c⟩
  | ins C dx fs =>
    obtain ⟨d, z, ne, e, mA, ⟨od, es, ep, e2, c⟩, r⟩ := x
    exact ⟨ho _ d, z, ne, k _ _ (.inl rfl) e, mA, ⟨od, es, ep, k _ _ (.inr d) e2, c⟩, r⟩
  | own y => obtain ⟨ob, e⟩ := x; exact ⟨ob, k _ _ (.inl rfl) e⟩
  | xd fs => obtain ⟨mA, ⟨od, es, ep, e, c⟩, r⟩ := x; exact ⟨mA, ⟨od, es, ep, k _ _ (.inl rfl) e, c⟩, r⟩
  | rng lo hi => obtain ⟨t, u, v, e⟩ := x; exact ⟨t, u, v, k _ _ (.inl rfl) e⟩
  | frz ob u ih => obtain ⟨e, q⟩ := x; exact ⟨k _ _ (.inl rfl) e, ih q⟩
  | tbl ps =>
    have e : h.get? a = some { cls := .none, data := .fields ps } := x
    show h'.get? a = some { cls := .none, data := .fields ps }
    exact k a _ (.inl rfl) e
  | met f y =>
    have e : h.get? a = some (PySem.W.methodObj (.ref f) (.ref y)) := x
    show h'.get? a = some (PySem.W.methodObj (.ref f) (.ref y))
    exact k a _ (.inl rfl) e
  | ext φ => obtain ⟨p, ⟨o, e⟩, st⟩ := x; exact ⟨st _ _ p fun o q => k _ _ (.inl rfl) q, ⟨o, k _ _ (.inl rfl) e⟩, st⟩
theorem HOk.lt (x : HOk P w H h) (e : H a = some o) : a < h.objs.size := (x a o e).lt
theorem HOk.fresh (x : HOk P w H h) (e : h.objs.size ≤ a) : H a = none := by
  cases q : H a with
  | none => rfl
  | some u => exact absurd (Nat.lt_of_lt_of_le (x.lt q) e) (Nat.lt_irrefl _)
theorem HOk.kept (x : HOk P w H h) (k : ∀ b u, h.get? b = some u -> h'.get? b = some u) : HOk P w H h' := fun a o e =>
  (x a o e).stay (fun b u _ q => k b u q) (fun _ q => q) fun _ _ q => q
theorem HOk.laid (x : HOk P w H h) (k : ∀ b u, h.get? b = some u -> h'.get? b = some u) (hp : h.objs.size ≤ a) (new : ObjOk P w (upd H a o) h' a o) : HOk P w (upd H a o) h' := fun b u e => by
  have hn := x.fresh hp
  by_cases hb : b = a
  . subst hb; rw [qa1] at e; cases e; exact new
  . rw [qa6 hb] at e
    exact (x b u e).stay (fun c v _ q => k c v q) (fun c q => by rw [qa6 (qa2 q hn)]; exact q) fun c xs q => by rw [qa6 (qa2 q hn)]; exact q
end
def Rd (H : Hp) (a : Addr) (u : HO) : Prop := H a = some u ∨ ∃ o, H a = some (.frz o u)
theorem Rd.of {H : Hp} {a : Addr} {u : HO} (h : H a = some u) : Rd H a u := .inl h
theorem Rd.ok {P : Program} {w : World} {H : Hp} {h : Heap} {a : Addr} {u : HO} (r : Rd H a u) (x : HOk P w H h) : ObjOk P w H h a u := by
  rcases r with r | ⟨o, r⟩
  . exact x a u r
  . obtain ⟨_, q⟩ := x a _ r
    exact q
def Mut : Option HO -> Prop
  | some (.lst _) => True
  | some (.dK _) => True
  | some (.dT _) => True
  | some (.set _ _) => True
  | some (.ins _ _ _) => True
  | some (.ext _) => True
  | _ => False
section
variable {P : Program} {w : World} {H : Hp} {h h' : Heap} {x e : Addr} {o' : HO}
theorem HOk.write (ok : HOk P w H h) (mu : Mut (H x)) (he : e = x ∨ H e = some (.own x)) (k : ∀ b u, b ≠ e -> h.get? b = some u -> h'.get? b = some u) (heo : ∃ u, h'.get? e = some u)
    (new : ObjOk P w (upd H x o') h' x o') : HOk P w (upd H x o') h' := fun b u q => by
  have nown : ∀ c y, H c = some (.own y) -> c ≠ x := fun c y r z => by subst z; rw [r] at mu; exact mu
  have ntup : ∀ c xs, H c = some (.tup xs) -> c ≠ x := fun c xs r z => by subst z; rw [r] at mu; exact mu
  by_cases hb : b = x
  . subst hb; rw [qa1] at q; cases q; exact new
  . rw [qa6 hb] at q
    by_cases hbe : b = e
    . have q' : H b = some (.own x) := by
        rcases he with z | z
        . exact absurd (hbe.trans z) hb
        . rw [hbe]; exact z
      rw [q] at q'; cases q'
      obtain ⟨v, hv⟩ := heo
      exact ⟨v, by rw [hbe]; exact hv⟩
    . refine (ok b u q).stay (fun c v hc r => k c v ?_ r) (fun c r => by rw [qa6 (nown c b r)]; exact r) fun c xs r => by rw [qa6 (ntup c xs r)]; exact r
      rcases hc with rfl | hc
      . exact hbe
      . rintro rfl
        rcases he with z | z
        . exact nown c b hc z
        . rw [hc] at z; cases z; exact hb rfl
end
structure Un (fs ex : List Addr) (H H' : Hp) (h h' : Heap) : Prop where
  keep : ∀ b o, h.get? b = some o -> H b = none -> b ∉ fs -> b ∉ ex -> h'.get? b = some o
  slot : ∀ b o, h.get? b = some o -> H b = none -> b ∈ fs -> b ∉ ex -> ∃ sl, h'.get? b = some { o with slots := sl }
  free : ∀ b o, h.get? b = some o -> H b = none -> b ∉ ex -> H' b = none
  there : ∀ b o, h.get? b = some o -> b ∉ ex -> ∃ o', h'.get? b = some o'
  tups : ∀ b xs, H b = some (.tup xs) -> H' b = some (.tup xs)
  frzs : ∀ b o u, H b = some (.frz o u) -> H' b = some (.frz o u)
  tbls : ∀ b ps, H b = some (.tbl ps) -> ∃ more, H' b = some (.tbl (ps ++ more))
section
variable {fs fs' ex ex' : List Addr} {H H1 H2 : Hp} {h h1 h2 h' : Heap} {a x e : Addr} {o : HO}
theorem Un.any (u : Un fs ex H H1 h h1) {b : Addr} {ob : Obj} (q : h.get? b = some ob) (n : H b = none) (hx : b ∉ ex) : ∃ sl, h1.get? b = some { ob with slots := sl } := by
  by_cases hb : b ∈ fs
  . exact u.slot b ob q n hb hx
  . exact ⟨ob.slots, u.keep b ob q n hb hx⟩
theorem Un.trans (a : Un fs ex H H1 h h1) (b : Un fs ex H1 H2 h1 h2) : Un fs ex H H2 h h2 where
  keep := fun c ob q n hc hx => b.keep c ob (a.keep c ob q n hc hx) (a.free c ob q n hx) hc hx
  slot := fun c ob q n hc hx => by
    obtain ⟨sl, e1⟩ := a.slot c ob q n hc hx
    obtain ⟨sl', e2⟩ := b.slot c _ e1 (a.free c ob q n hx) hc hx
    exact ⟨sl', e2⟩
  free := fun c ob q n hx => by
    obtain ⟨o', e1⟩ := a.there c ob q hx
    exact b.free c o' e1 (a.free c ob q n hx) hx
  there := fun c ob q hx => by
    obtain ⟨o', e1⟩ := a.there c ob q hx
    exact b.there c o' e1 hx
  tups := fun c xs q => b.tups c xs (a.tups c xs q)
  frzs := fun c ob xs q => b.frzs c ob xs (a.frzs c ob xs q)
  tbls := fun c ps q => by
    obtain ⟨m1, e1⟩ := a.tbls c ps q
    obtain ⟨m2, e2⟩ := b.tbls c _ e1
    exact ⟨m1 ++ m2, by rw [e2, Array.append_assoc]⟩
theorem Un.kept (k : ∀ b u, h.get? b = some u -> h'.get? b = some u) : Un fs ex H H h h' :=
  ⟨fun b ob q _ _ _ => k b ob q, fun b ob q _ _ _ => ⟨ob.slots, k b ob q⟩, fun _ _ _ n _ => n, fun b ob q _ => ⟨ob, k b ob q⟩, fun _ _ q => q, fun _ _ _ q => q, fun _ ps q => ⟨#[], by rw [q]; simp⟩⟩
theorem Un.refl : Un fs ex H H h h := Un.kept fun _ _ q => q
theorem Un.laid (k : ∀ b u, h.get? b = some u -> h'.get? b = some u) (hp : h.objs.size ≤ a) (hn : H a = none) : Un fs ex H (upd H a o) h h' where
  keep := fun b u q _ _ _ => k b u q
  slot := fun b u q _ _ _ => ⟨u.slots, k b u q⟩
  free := fun b u q n _ => by rw [qa6 (Nat.ne_of_lt (Nat.lt_of_lt_of_le (Heap.lt_size q) hp))]; exact n
  there := fun b u q _ => ⟨u, k b u q⟩
  tups := fun b xs q => by rw [qa6 (qa2 q hn)]; exact q
  frzs := fun b u xs q => by rw [qa6 (qa2 q hn)]; exact q
  tbls := fun b ps q => ⟨#[], by rw [qa6 (qa2 q hn), q]; simp⟩
theorem Un.write (mu : Mut (H x)) (he : e = x ∨ H e = some (.own x)) (k : ∀ b u, b ≠ e -> h.get? b = some u -> h'.get? b = some u) (heo : ∃ u, h'.get? e = some u) : Un fs ex H (upd H x o) h h' := by
  have hx : ∀ b, H b = none -> b ≠ x := fun b n z => by subst z; rw [n] at mu; exact mu
  have hb : ∀ b, H b = none -> b ≠ e := fun b n z => by
    subst z
    rcases he with r | r
    . exact hx b n r
    . rw [n] at r; cases r
  have hm : ∀ b u, H b = some u -> ¬ Mut (some u) -> b ≠ x := fun b u q nm z => by subst z; rw [q] at mu; exact nm mu
  refine ⟨fun b u q n _ _ => k b u (hb b n) q, fun b u q n _ _ => ⟨u.slots, k b u (hb b n) q⟩, fun b u q n _ => by rw [qa6 (hx b n)]; exact n, fun b u q _ => ?_,
    fun b xs q => by rw [qa6 (hm b _ q fun z => z)]; exact q, fun b u xs q => by rw [qa6 (hm b _ q fun z => z)]; exact q, fun b ps q => ⟨#[], by rw [qa6 (hm b _ q fun z => z), q]; simp⟩⟩
  by_cases hbe : b = e
  . subst hbe; exact heo
  . exact ⟨u, k b u hbe q⟩
theorem Un.mono (u : Un fs ex H H1 h h1) (hs : ∀ b ∈ fs, b ∈ fs') (hx : ∀ b ∈ ex, b ∈ ex') : Un fs' ex' H H1 h h1 :=
  ⟨fun b ob q n hb he => u.keep b ob q n (fun z => hb (hs b z)) fun z => he (hx b z), fun _ _ q n _ he => u.any q n fun z => he (hx _ z), fun b ob q n he => u.free b ob q n fun z => he (hx b z), fun b ob q he => u.there b ob q fun z => he (hx b z), u.tups, u.frzs, u.tbls⟩
end
def trk (h : Heap) (H : Hp) : List Addr := (List.range h.objs.size).filter fun a => (H a).isSome
def hidT (h : Heap) (H : Hp) : Heap := PySem.W.hideAll h (trk h H)
theorem qR7 (h : Heap) (H : Hp) : (hidT h H).objs.size = h.objs.size := PySem.W.hideAll_size _ _
theorem hidT_get {h : Heap} {H : Hp} {b : Addr} {o : Obj} (e : h.get? b = some o) (n : H b = none) : (hidT h H).get? b = some o :=
  PySem.W.hideAll_get _ e fun hm => by
    have q : (H b).isSome = true := (List.mem_filter.mp hm).2
    rw [n] at q; simp at q
theorem of_hidT {h : Heap} {H : Hp} {b : Addr} {o : Obj} (e : (hidT h H).get? b = some o) : h.get? b = some o ∧ H b = none := by
  have e' : h.get? b = some o := PySem.W.of_hideAll (trk h H) e
  refine ⟨e', ?_⟩
  cases q : H b with
  | none => rfl
  | some x =>
    have hm : b ∈ trk h H := List.mem_filter.mpr ⟨List.mem_range.mpr (Heap.lt_size e'), by simp [q]⟩
    have z : (hidT h H).get? b = none := PySem.W.hideAll_none (trk h H) hm
    rw [z] at e; cases e
def allNews (g h : Heap) (L : Addr) : List (Addr × Obj) := (List.range h.objs.size).filterMap fun a => if a = L ∨ (g.get? a).isSome = true then none else (h.get? a).map fun o => (a, o)
def rest (g h : Heap) (L d : Addr) : List (Addr × Obj) := (allNews g h L).filter fun p => decide (p.1 ≠ d)
end L2
namespace L2
open PySem PySem.Spec PyProof.Rows
structure Mod (K : PySem.W.Frag) (mg : Str -> Option Value) (base : Heap) : Prop where
  kin : K.In base
  glob : base.Ns mainGlobals mg
  blt : ∃ mb, base.Ns builtinsNs mb ∧ ∀ x : Str, x ≠ "__name__" -> mb x = bootBuiltins x
  nolimit : base.NoLimit
structure Cx where
  prog : Program
  w : World
  K : PySem.W.Frag
  mg : Str -> Option Value
  base : Heap
  A : Around
  N : List Str
  s₀ : Shared
  H₀ : Hp
  env : Env
  outer : List Env
  stack : List Env
  ex : List Addr
  fn : Str -> Bool
  calm : Bool
  pn : List (Addr × Obj)
  xe : Value -> Shared -> Prop
def frs (l : List Env) : List Addr := l.filterMap (·.frame)
abbrev Cx.fs (X : Cx) : List Addr := frs X.outer
def Vis (sc : Scope) (x : Str) : Prop := sc.names.lookup x = some .local ∨ sc.names.lookup x = some .cell ∨ sc.names.lookup x = some .free
def Loc (sc : Scope) (x : Str) : Prop := sc.names.lookup x = some .local ∨ sc.names.lookup x = some .cell
def Look (env : Env) (h : Heap) (m : Str -> Option Value) (x : Str) (u : Value) : Prop :=
  (env.kindOf x = some .local ∧ m x = some u) ∨ ((env.kindOf x = some .cell ∨ env.kindOf x = some .free) ∧ ∃ c, env.cells.lookup x = some c ∧ h.IsCell c (some u))
structure Cx.Ok (X : Cx) : Prop where
  mod : Mod X.K X.mg X.base
  kind : X.env.scope.kind = .function
  glob : X.env.globals = mainGlobals
  blt : X.env.builtins = builtinsNs
  above : X.s₀.heap.objs.size ≤ X.env.locals
  inj : ∀ x y c, X.env.cells.lookup x = some c -> X.env.cells.lookup y = some c -> x = y
  has : ∀ x, (X.env.kindOf x = some .cell ∨ X.env.kindOf x = some .free) -> ∃ c, X.env.cells.lookup x = some c
  cab : ∀ x c, X.fn x = true -> X.env.cells.lookup x = some c -> X.s₀.heap.objs.size ≤ c
  hd : X.calm = true -> X.A.handled = none
  frames : X.A.frames = some X.stack
  stk : X.stack = X.outer ∨ (X.stack = X.env :: X.outer ∧ X.env.frame = some X.env.locals)
  exf : ∀ b ∈ X.ex, b ≠ X.env.locals ∧ ∀ x c, X.env.cells.lookup x = some c -> c ≠ b
  bs : ∀ b o, X.base.get? b = some o -> X.s₀.heap.get? b = some o ∧ X.H₀ b = none
  bsz : X.base.objs.size ≤ X.s₀.heap.objs.size
  noex : ∀ b o, X.base.get? b = some o -> b ∉ X.ex
  exfs : ∀ b ∈ X.ex, b ∉ X.fs
  funs : X.s₀.heap.FunFrames X.base X.outer
  frf : ∀ b ∈ X.fs, X.H₀ b = none
structure Inv (X : Cx) (pins : List (Addr × Obj)) (σ : List (Option V)) (H : Hp) (s : Shared) : Prop where
  ok : X.Ok
  os : s.os = X.s₀.os
  bare : AllBare s.gens
  base : Un X.fs X.ex X.H₀ H X.s₀.heap s.heap
  loc : ∃ m, s.heap.Ns X.env.locals m ∧ ∀ (i : Nat) (x : Str) (v : V), X.N[i]? = some x -> σ[i]? = some (some v) -> Vis X.env.scope x -> ∃ u, RelV v u ∧ Look X.env s.heap m x u
  cell : ∀ x c, X.env.cells.lookup x = some c -> ∃ v, s.heap.IsCell c v
  free : H X.env.locals = none
  freeC : ∀ x c, X.env.cells.lookup x = some c -> H c = none
  pin : ∀ p ∈ X.pn ++ pins, s.heap.get? p.1 = some p.2 ∧ H p.1 = none ∧ p.1 ≠ X.env.locals ∧ p.1 ∉ X.fs ∧ ∀ v, p.2.data ≠ .cell v
  hok : HOk X.prog X.w H s.heap
  len : σ.length = X.N.length
section
variable {X : Cx} {pins : List (Addr × Obj)} {σ : List (Option V)} {H H' : Hp} {s : Shared} {h' : Heap}
theorem Cx.Ok.nofr (ok : X.Ok) {b : Addr} {o : Obj} (e : X.base.get? b = some o) : b ∉ X.fs := fun hb => by
  have := (ok.funs.mem hb).1
  rw [e] at this; cases this
theorem Inv.bs (I : Inv X pins σ H s) : ∀ b o, X.base.get? b = some o -> s.heap.get? b = some o ∧ H b = none := fun b o e =>
  ⟨I.base.keep b o (I.ok.bs b o e).1 (I.ok.bs b o e).2 (I.ok.nofr e) (I.ok.noex b o e), I.base.free b o (I.ok.bs b o e).1 (I.ok.bs b o e).2 (I.ok.noex b o e)⟩
theorem Inv.bk (I : Inv X pins σ H s) : ∀ b o, X.base.get? b = some o -> s.heap.get? b = some o := fun b o e => (I.bs b o e).1
theorem Inv.mod (I : Inv X pins σ H s) : Mod X.K X.mg X.base := I.ok.mod
theorem Inv.kIn (I : Inv X pins σ H s) : X.K.In s.heap := I.ok.mod.kin.keeps I.bk
theorem Inv.nolimit (I : Inv X pins σ H s) : s.heap.NoLimit := I.ok.mod.nolimit.keeps I.bk
theorem Inv.lt (I : Inv X pins σ H s) : X.env.locals < s.heap.objs.size := let ⟨_, hn, _⟩ := I.loc; hn.lt
theorem Inv.sz (I : Inv X pins σ H s) : X.s₀.heap.objs.size ≤ s.heap.objs.size := Nat.le_trans I.ok.above (Nat.le_of_lt I.lt)
theorem Inv.nofs (I : Inv X pins σ H s) {a : Addr} (h : s.heap.objs.size ≤ a) : a ∉ X.fs := fun hb => by
  obtain ⟨_, o, ho, _⟩ := I.ok.funs.mem hb
  exact absurd (Nat.lt_of_lt_of_le (Heap.lt_size ho) (Nat.le_trans I.sz h)) (Nat.lt_irrefl _)
theorem Inv.cne (I : Inv X pins σ H s) : ∀ x c, X.env.cells.lookup x = some c -> c ≠ X.env.locals := fun x c e z => by
  obtain ⟨v, o, ho, hd⟩ := I.cell x c e
  obtain ⟨m, ⟨o', es, ep, ho', hd', _⟩, _⟩ := I.loc
  rw [z, ho'] at ho; cases ho; rw [hd'] at hd; cases hd
theorem Inv.funs (I : Inv X pins σ H s) : s.heap.FunFrames X.base X.outer := by
  have all : ∀ (l : List Env), (∀ b ∈ frs l, b ∈ X.fs) -> X.s₀.heap.FunFrames X.base l -> s.heap.FunFrames X.base l := by
    intro l
    induction l with
    | nil => intro _ _; trivial
    | cons env r ih =>
      intro hs hl
      obtain ⟨hk, ⟨L, o, hf, hn, ho, hd⟩, hr⟩ := hl
      have hL : L ∈ X.fs := hs L (by unfold frs; rw [List.filterMap_cons, hf]; exact List.mem_cons_self)
      obtain ⟨sl, e⟩ := I.base.slot L o ho (I.ok.frf L hL) hL fun z => I.ok.exfs L z hL
      exact ⟨hk, ⟨L, _, hf, hn, e, hd⟩, ih (fun b hb => hs b (by unfold frs; rw [List.filterMap_cons, hf]; exact List.mem_cons_of_mem _ hb)) hr⟩
  exact all X.outer (fun _ hb => hb) I.ok.funs
theorem Inv.stack (I : Inv X pins σ H s) : s.heap.FunFrames X.base X.stack := by
  rcases I.ok.stk with e | ⟨e, hf⟩
  . rw [e]; exact I.funs
  . rw [e]
    obtain ⟨m, hn, _⟩ := I.loc
    refine .cons (by rw [I.ok.kind]; decide) hf hn ?_ I.funs
    exact Heap.get?_none_of_le (Nat.le_trans I.ok.bsz I.ok.above)
theorem Inv.stkSub (I : Inv X pins σ H s) : ∀ b ∈ frs X.stack, b ∈ X.env.locals :: X.fs := fun b hb => by
  rcases I.ok.stk with e | ⟨e, hf⟩
  . rw [e] at hb; exact List.mem_cons_of_mem _ hb
  . rw [e] at hb
    unfold frs at hb
    rw [List.filterMap_cons, hf] at hb
    exact hb
theorem Inv.stkFree (I : Inv X pins σ H s) : ∀ b ∈ frs X.stack, H b = none := fun b hb => by
  rcases List.mem_cons.mp (I.stkSub b hb) with e | hb
  . rw [e]; exact I.free
  . obtain ⟨_, o, ho, _⟩ := I.ok.funs.mem hb
    exact I.base.free b o ho (I.ok.frf b hb) fun z => I.ok.exfs b z hb
theorem Inv.step {g' : Array GenState} {t' : Nat} {d' : Drawn} {ch : List Addr} (I : Inv X pins σ H s)
    (hch : ∀ b ∈ ch, (b ∈ X.ex ∨ X.s₀.heap.objs.size ≤ b) ∧ b ≠ X.env.locals ∧ (∀ x c, X.env.cells.lookup x = some c -> c ≠ b) ∧ ∀ p ∈ X.pn ++ pins, p.1 ≠ b)
    (keep : ∀ b o, b ≠ X.env.locals -> b ∉ X.fs -> b ∉ ch -> s.heap.get? b = some o -> H b = none -> h'.get? b = some o)
    (slot : ∀ b o, b ≠ X.env.locals -> b ∈ X.fs -> b ∉ ch -> s.heap.get? b = some o -> H b = none -> ∃ sl, h'.get? b = some { o with slots := sl }) (free : ∀ b o, b ∉ ch -> s.heap.get? b = some o -> H b = none -> H' b = none)
    (there : ∀ b o, b ∉ ch -> s.heap.get? b = some o -> ∃ o', h'.get? b = some o')
    (tups : ∀ b xs, H b = some (.tup xs) -> H' b = some (.tup xs)) (frzs : ∀ b o u, H b = some (.frz o u) -> H' b = some (.frz o u)) (tbls : ∀ b ps, H b = some (.tbl ps) -> ∃ more, H' b = some (.tbl (ps ++ more)))
    (ns : ∀ m, s.heap.Ns X.env.locals m -> h'.Ns X.env.locals m) (hok : HOk X.prog X.w H' h') (hg : AllBare g') :
    Inv X pins σ H' { s with heap := h', gens := g', drawn := d', toks := t' } := by
  have neL : ∀ b o, X.s₀.heap.get? b = some o -> b ≠ X.env.locals := fun b o e => Nat.ne_of_lt (Nat.lt_of_lt_of_le (Heap.lt_size e) I.ok.above)
  have neC : ∀ b o, X.s₀.heap.get? b = some o -> b ∉ X.ex -> b ∉ ch := fun b o e hx hb => by
    rcases (hch b hb).1 with z | z
    . exact hx z
    . exact absurd (Nat.lt_of_lt_of_le (Heap.lt_size e) z) (Nat.lt_irrefl _)
  have cellK : ∀ x c, X.env.cells.lookup x = some c -> ∀ v, s.heap.IsCell c v -> h'.IsCell c v := fun x c e v ⟨o, ho, hd⟩ => by
    have nch : c ∉ ch := fun z => (hch c z).2.2.1 x c e rfl
    by_cases hc : c ∈ X.fs
    . obtain ⟨sl, q⟩ := slot c o (I.cne x c e) hc nch ho (I.freeC x c e)
      exact ⟨_, q, hd⟩
    . exact ⟨o, keep c o (I.cne x c e) hc nch ho (I.freeC x c e), hd⟩
  refine ⟨I.ok, I.os, hg, ⟨fun b o e n hb hx => ?_, fun b o e n hb hx => ?_, fun b o e n hx => ?_, fun b o e hx => ?_, fun b xs e => tups b xs (I.base.tups b xs e), fun b o xs e => frzs b o xs (I.base.frzs b o xs e), fun b ps e => ?_⟩, ?_, fun x c e => ?_, ?_, fun x c e => ?_, fun p hp => ?_, hok, I.len⟩
  . exact keep b o (neL b o e) hb (neC b o e hx) (I.base.keep b o e n hb hx) (I.base.free b o e n hx)
  . obtain ⟨sl, e1⟩ := I.base.slot b o e n hb hx
    obtain ⟨sl', e2⟩ := slot b _ (neL b o e) hb (neC b o e hx) e1 (I.base.free b o e n hx)
    exact ⟨sl', e2⟩
  . obtain ⟨o', e1⟩ := I.base.there b o e hx
    exact free b o' (neC b o e hx) e1 (I.base.free b o e n hx)
  . obtain ⟨o', e1⟩ := I.base.there b o e hx
    exact there b o' (neC b o e hx) e1
  . obtain ⟨m1, e1⟩ := I.base.tbls b ps e
    obtain ⟨m2, e2⟩ := tbls b _ e1
    exact ⟨m1 ++ m2, by rw [e2, Array.append_assoc]⟩
  . obtain ⟨m, hn, hl⟩ := I.loc
    refine ⟨m, ns m hn, fun i x v e1 e2 e3 => ?_⟩
    obtain ⟨u, r, l⟩ := hl i x v e1 e2 e3
    refine ⟨u, r, ?_⟩
    rcases l with l | ⟨k, c, e, z⟩
    . exact .inl l
    . exact .inr ⟨k, c, e, cellK x c e _ z⟩
  . obtain ⟨v, z⟩ := I.cell x c e
    exact ⟨v, cellK x c e v z⟩
  . obtain ⟨m, ⟨o, _, _, ho, _⟩, _⟩ := I.loc
    exact free _ o (fun z => (hch _ z).2.1 rfl) ho I.free
  . obtain ⟨v, o, ho, hd⟩ := I.cell x c e
    exact free c o (fun z => (hch c z).2.2.1 x c e rfl) ho (I.freeC x c e)
  . obtain ⟨e, n, ne, nf, d⟩ := I.pin p hp
    have nch : p.1 ∉ ch := fun z => (hch p.1 z).2.2.2 p hp rfl
    exact ⟨keep p.1 p.2 ne nf nch e n, free p.1 p.2 nch e n, ne, nf, d⟩
theorem Inv.un {t' : Nat} (I : Inv X pins σ H s) (u : Un X.fs [] H H' s.heap h') (hok : HOk X.prog X.w H' h') : Inv X pins σ H' { s with heap := h', toks := t' } := by
  obtain ⟨m, ⟨o, es, ep, ho, r⟩, _⟩ := id I.loc
  obtain ⟨sl, hL⟩ := u.any ho I.free (by simp)
  exact I.step (g' := s.gens) (d' := s.drawn) (ch := []) (fun _ z => nomatch z) (fun b o _ hb _ e n => u.keep b o e n hb (by simp)) (fun b o _ hb _ e n => u.slot b o e n hb (by simp)) (fun b o _ e n => u.free b o e n (by simp)) (fun b o _ e => u.there b o e (by simp)) u.tups u.frzs u.tbls (fun m' hm => by
    obtain ⟨o', es', ep', ho', r'⟩ := hm
    rw [ho] at ho'; cases ho'
    exact ⟨_, es', ep', hL, r'⟩) hok I.bare
theorem Inv.call {g' : Array GenState} {t' : Nat} {d' : Drawn} {ch : List Addr} (I : Inv X pins σ H s) (u : Un (frs X.stack) ch H H' s.heap h') (hok : HOk X.prog X.w H' h') (hg : AllBare g')
    (hch : ∀ b ∈ ch, (b ∈ X.ex ∨ X.s₀.heap.objs.size ≤ b) ∧ b ≠ X.env.locals ∧ (∀ x c, X.env.cells.lookup x = some c -> c ≠ b) ∧ ∀ p ∈ X.pn ++ pins, p.1 ≠ b) :
    Inv X pins σ H' { s with heap := h', gens := g', drawn := d', toks := t' } := by
  obtain ⟨m, ⟨o, es, ep, ho, r⟩, _⟩ := id I.loc
  obtain ⟨sl, hL⟩ := u.any ho I.free fun z => (hch _ z).2.1 rfl
  exact I.step (ch := ch) hch (fun b o hL hb hc e n => u.keep b o e n (fun z => (List.mem_cons.mp (I.stkSub b z)).elim hL hb) hc) (fun b o _ _ hc e n => u.any e n hc) (fun b o hc e n => u.free b o e n hc) (fun b o hc e => u.there b o e hc) u.tups u.frzs u.tbls (fun m' hm => by
    obtain ⟨o', es', ep', ho', r'⟩ := hm
    rw [ho] at ho'; cases ho'
    exact ⟨_, es', ep', hL, r'⟩) hok hg
theorem Inv.turned {t' : Nat} {it : Addr} (I : Inv X pins σ H s) (k : ∀ b o, b ≠ it -> s.heap.get? b = some o -> h'.get? b = some o) (hn : H it = none) (hL : it ≠ X.env.locals)
    (h1 : it ∈ X.ex ∨ X.s₀.heap.objs.size ≤ it) (h2 : ∀ x c, X.env.cells.lookup x = some c -> c ≠ it) (h3 : ∀ p ∈ X.pn ++ pins, p.1 ≠ it) : Inv X pins σ H { s with heap := h', toks := t' } := by
  have nit : ∀ b u, H b = some u -> b ≠ it := fun b u e z => by rw [z, hn] at e; cases e
  refine I.step (g' := s.gens) (d' := s.drawn) (ch := [it]) (fun b hb => ?_) (fun b o _ _ hc e _ => k b o (fun z => hc (by simp [z])) e) (fun b o _ _ hc e _ => ⟨o.slots, k b o (fun z => hc (by simp [z])) e⟩) (fun _ _ _ _ n => n)
    (fun b o hc e => ⟨o, k b o (fun z => hc (by simp [z])) e⟩) (fun _ _ e => e) (fun _ _ _ e => e) (fun b ps e => ⟨#[], by rw [e]; simp⟩) (fun m hm => ?_) (fun b u e => ?_) I.bare
  . have e : b = it := by simpa using hb
    subst e
    exact ⟨h1, hL, h2, h3⟩
  . obtain ⟨o, es, ep, ho, r⟩ := hm
    exact ⟨o, es, ep, k _ o (Ne.symm hL) ho, r⟩
  . refine (I.hok b u e).stay (fun c v hc q => k c v ?_ q) (fun _ q => q) fun _ _ q => q
    rcases hc with z | z
    . rw [z]; exact nit b u e
    . exact nit c _ z
theorem Inv.tok (I : Inv X pins σ H s) (t : Nat) : Inv X pins σ H { s with toks := t } := I.un (h' := s.heap) (t' := t) Un.refl I.hok
theorem Inv.kept {t' : Nat} (I : Inv X pins σ H s) (k : ∀ b u, s.heap.get? b = some u -> h'.get? b = some u) : Inv X pins σ H { s with heap := h', toks := t' } := I.un (Un.kept k) (I.hok.kept k)
theorem Inv.laid {a : Addr} {o : HO} {t' : Nat} (I : Inv X pins σ H s) (k : ∀ b u, s.heap.get? b = some u -> h'.get? b = some u) (hp : s.heap.objs.size ≤ a) (new : ObjOk X.prog X.w (upd H a o) h' a o) :
    Inv X pins σ (upd H a o) { s with heap := h', toks := t' } := I.un (Un.laid k hp (I.hok.fresh hp)) (I.hok.laid k hp new)
theorem Inv.write {x e : Addr} {o : HO} {t' : Nat} (I : Inv X pins σ H s) (mu : Mut (H x)) (he : e = x ∨ H e = some (.own x)) (k : ∀ b u, b ≠ e -> s.heap.get? b = some u -> h'.get? b = some u) (heo : ∃ u, h'.get? e = some u)
    (new : ObjOk X.prog X.w (upd H x o) h' x o) : Inv X pins σ (upd H x o) { s with heap := h', toks := t' } := I.un (Un.write mu he k heo) (I.hok.write mu he k heo new)
theorem Inv.pins_of {pins' : List (Addr × Obj)} (I : Inv X pins σ H s) (h : ∀ p ∈ pins', s.heap.get? p.1 = some p.2 ∧ H p.1 = none ∧ p.1 ≠ X.env.locals ∧ p.1 ∉ X.fs ∧ ∀ v, p.2.data ≠ .cell v) : Inv X pins' σ H s :=
  ⟨I.ok, I.os, I.bare, I.base, I.loc, I.cell, I.free, I.freeC, fun p hp => (List.mem_append.mp hp).elim (fun z => I.pin p (List.mem_append_left _ z)) (h p), I.hok, I.len⟩
theorem qK1 {N : List Str} (hN : N.Nodup) {i j : Nat} {x : Str} (a : N[i]? = some x) (b : N[j]? = some x) : i = j := by
  obtain ⟨h1, e1⟩ := List.getElem?_eq_some_iff.mp a
  obtain ⟨h2, e2⟩ := List.getElem?_eq_some_iff.mp b
  exact (List.getElem_inj hN).mp (e1.trans e2.symm)
theorem qR8 {M : Model} {A : Around} {E : Value -> Shared -> Prop} {i : Nat} {x : Str} {v : V} {u : Value} {Q : Unit -> Shared -> Prop} (I : Inv X pins σ H s) (hN : X.N.Nodup) (hi : X.N[i]? = some x) (hx : Loc X.env.scope x) (r : RelV v u)
    (h : ∀ s', Inv X pins (σ.set i (some v)) H s' -> (∃ a, Heap.SameBut a s.heap s'.heap ∧ (a = X.env.locals ∨ X.env.cells.lookup x = some a)) -> Q () s') (hf : X.fn x = true ∨ X.env.scope.names.lookup x = some .local := by first | exact .inl rfl | exact .inr rfl | assumption) : wpAny M A (storeName X.env x u) Q E s := by
  obtain ⟨m, hn, hl⟩ := id I.loc
  have hcls : (X.env.scope.kind == .class || (X.env.scope.kind == .module && X.env.locals != X.env.globals)) = false := by rw [I.ok.kind]; rfl
  have hiσ : i < σ.length := by rw [I.len]; exact (List.getElem?_eq_some_iff.mp hi).1
  have cne := I.cne
  have tracked : ∀ {a : Addr} {h' : Heap}, (∃ o, s.heap.get? a = some o ∧ H a = none) -> Heap.SameBut a s.heap h' -> HOk X.prog X.w H h' := fun {a h'} ha hs b ob e => by
    obtain ⟨_, _, hfree⟩ := ha
    refine (I.hok b ob e).stay (fun c w' hc q => (hs.2 c ?_).trans q) (fun _ q => q) fun _ _ q => q
    rintro rfl
    rcases hc with rfl | hc
    . rw [hfree] at e; cases e
    . rw [hfree] at hc; cases hc
  rcases hx with hk | hk
  . refine wpAny_storeName_local hk hn (fun h' hn' hs => ?_) hcls
    obtain ⟨oL, _, _, hoL, _⟩ := id hn
    refine h _ ⟨I.ok, I.os, I.bare, ⟨fun b o e n hb hx => ?_, fun b o e n hb hx => ?_, I.base.free, fun b o e hx => ?_, I.base.tups, I.base.frzs, I.base.tbls⟩, ⟨_, hn', fun j y v' e1 e2 e3 => ?_⟩, fun y c e => ?_, I.free, I.freeC, fun p hp => ?_, tracked ⟨oL, hoL, I.free⟩ hs, by simpa using I.len⟩ ⟨_, hs, .inl rfl⟩
    . exact (hs.2 b (Nat.ne_of_lt (Nat.lt_of_lt_of_le (Heap.lt_size e) I.ok.above))).trans (I.base.keep b o e n hb hx)
    . obtain ⟨sl, e1⟩ := I.base.slot b o e n hb hx
      exact ⟨sl, (hs.2 b (Nat.ne_of_lt (Nat.lt_of_lt_of_le (Heap.lt_size e) I.ok.above))).trans e1⟩
    . obtain ⟨o', e1⟩ := I.base.there b o e hx
      exact ⟨o', (hs.2 b (Nat.ne_of_lt (Nat.lt_of_lt_of_le (Heap.lt_size e) I.ok.above))).trans e1⟩
    . by_cases hj : j = i
      . subst hj
        rw [hi] at e1; cases e1
        rw [List.getElem?_set_self hiσ] at e2
        cases e2
        exact ⟨u, r, .inl ⟨hk, by simp⟩⟩
      . rw [List.getElem?_set_ne (Ne.symm hj)] at e2
        obtain ⟨u', r', q⟩ := hl j y v' e1 e2 e3
        refine ⟨u', r', ?_⟩
        rcases q with ⟨k, e⟩ | ⟨k, c, e, z⟩
        . refine .inl ⟨k, ?_⟩
          have : y ≠ x := fun e => hj (qK1 hN e1 (e ▸ hi))
          simp [this, e]
        . exact .inr ⟨k, c, e, z.sameBut hs (cne y c e)⟩
    . obtain ⟨w', z⟩ := I.cell y c e
      exact ⟨w', z.sameBut hs (cne y c e)⟩
    . obtain ⟨e, n, ne, nf, d⟩ := I.pin p hp
      exact ⟨(hs.2 p.1 ne).trans e, n, ne, nf, d⟩
  . have hfn : X.fn x = true := by
      rcases hf with z | z
      . exact z
      . rw [z] at hk; cases hk
    obtain ⟨c, hc⟩ := I.ok.has x (.inl hk)
    obtain ⟨w', z⟩ := I.cell x c hc
    refine wpAny_storeName_cell I.ok.kind hk hc z (fun h' hc' hs => ?_)
    obtain ⟨oc, hoc, hocd⟩ := id z
    refine h { s with heap := h' } ⟨I.ok, I.os, I.bare, ⟨fun b o e n hb hx => ?_, fun b o e n hb hx => ?_, I.base.free, fun b o e hx => ?_, I.base.tups, I.base.frzs, I.base.tbls⟩, ⟨m, hn.sameBut hs (Ne.symm (cne x c hc)), fun j y v' e1 e2 e3 => ?_⟩, fun y c' e => ?_, I.free, I.freeC, fun p hp => ?_, tracked ⟨oc, hoc, I.freeC x c hc⟩ hs, by simpa using I.len⟩ ⟨c, hs, .inr hc⟩
    . exact (hs.2 b (Nat.ne_of_lt (Nat.lt_of_lt_of_le (Heap.lt_size e) (I.ok.cab x c hfn hc)))).trans (I.base.keep b o e n hb hx)
    . obtain ⟨sl, e1⟩ := I.base.slot b o e n hb hx
      exact ⟨sl, (hs.2 b (Nat.ne_of_lt (Nat.lt_of_lt_of_le (Heap.lt_size e) (I.ok.cab x c hfn hc)))).trans e1⟩
    . obtain ⟨o', e1⟩ := I.base.there b o e hx
      exact ⟨o', (hs.2 b (Nat.ne_of_lt (Nat.lt_of_lt_of_le (Heap.lt_size e) (I.ok.cab x c hfn hc)))).trans e1⟩
    . by_cases hj : j = i
      . subst hj
        rw [hi] at e1; cases e1
        rw [List.getElem?_set_self hiσ] at e2
        cases e2
        exact ⟨u, r, .inr ⟨.inl hk, c, hc, hc'⟩⟩
      . rw [List.getElem?_set_ne (Ne.symm hj)] at e2
        obtain ⟨u', r', q⟩ := hl j y v' e1 e2 e3
        refine ⟨u', r', ?_⟩
        rcases q with q | ⟨k, c', e, z'⟩
        . exact .inl q
        . refine .inr ⟨k, c', e, z'.sameBut hs ?_⟩
          rintro rfl
          exact hj (qK1 hN e1 (I.ok.inj _ _ _ e hc ▸ hi))
    . by_cases hcc : c' = c
      . subst hcc; exact ⟨_, hc'⟩
      . obtain ⟨w2, z2⟩ := I.cell y c' e
        exact ⟨w2, z2.sameBut hs hcc⟩
    . obtain ⟨e, n, ne, nf, d⟩ := I.pin p hp
      refine ⟨(hs.2 p.1 ?_).trans e, n, ne, nf, d⟩
      intro q
      rw [q, hoc] at e
      have q' : oc = p.2 := Option.some.inj e
      exact d w' (by rw [← q']; exact hocd)
theorem qo7 {M : Model} {A : Around} {E : Value -> Shared -> Prop} {i : Nat} {x : Str} {v : V} {u : Value} {Q : Unit -> Shared -> Prop} (I : Inv X pins σ H s) (hN : X.N.Nodup) (hi : X.N[i]? = some x) (hx : Loc X.env.scope x) (r : RelV v u)
    (h : ∀ s', Inv X pins (σ.set i (some v)) H s' -> Q () s') (hf : X.fn x = true ∨ X.env.scope.names.lookup x = some .local := by first | exact .inl rfl | exact .inr rfl | assumption) : wpAny M A (storeName X.env x u) Q E s :=
  qR8 I hN hi hx r (fun s' I' _ => h s' I') hf
theorem Inv.call' {s' : Shared} {ch : List Addr} (I : Inv X pins σ H s) (ho : s'.os = s.os) (u : Un (frs X.stack) ch H H' s.heap s'.heap) (hok : HOk X.prog X.w H' s'.heap) (hg : AllBare s'.gens)
    (hch : ∀ b ∈ ch, (b ∈ X.ex ∨ X.s₀.heap.objs.size ≤ b) ∧ b ≠ X.env.locals ∧ (∀ x c, X.env.cells.lookup x = some c -> c ≠ b) ∧ ∀ p ∈ X.pn ++ pins, p.1 ≠ b) : Inv X pins σ H' s' := by
  obtain ⟨h', g', d', t', o'⟩ := s'
  have e : o' = s.os := ho
  subst e
  exact I.call (g' := g') (t' := t') (d' := d') u hok hg hch
end
abbrev XK := Value -> Option Addr -> Hp -> Prop
abbrev St := List (Option V)
abbrev VK := V -> Hp -> Prop
abbrev TE := St -> Hp -> VK -> Prop
abbrev TT := St -> Hp -> (Bool -> Hp -> Prop) -> Prop
abbrev TA := St -> Hp -> (List V -> Hp -> Prop) -> Prop
structure Ends where
  nx : St -> Hp -> Prop
  rt : VK
  bk : St -> Hp -> Prop := fun _ _ => False
  ct : St -> Hp -> Prop := fun _ _ => False
abbrev TS := Ends -> St -> Hp -> Prop
def EP (X : Cx) (pins : List (Addr × Obj)) (σ : St) (Q : VK) (u : Value) (s' : Shared) : Prop := ∃ v H', Inv X pins σ H' s' ∧ RelV v u ∧ Q v H'
def TP (X : Cx) (pins : List (Addr × Obj)) (σ : St) (Q : Bool -> Hp -> Prop) (b : Bool) (s' : Shared) : Prop := ∃ H', Inv X pins σ H' s' ∧ Q b H'
def AP (X : Cx) (pins : List (Addr × Obj)) (σ : St) (Q : List V -> Hp -> Prop) (us : List Value) (s' : Shared) : Prop := ∃ vs H', Inv X pins σ H' s' ∧ Vals vs us ∧ Q vs H'
def SP (X : Cx) (pins : List (Addr × Obj)) (D : Ends) (f : Flow) (s' : Shared) : Prop :=
  match f with
  | .next => ∃ σ' H', Inv X pins σ' H' s' ∧ D.nx σ' H'
  | .brk => ∃ σ' H', Inv X pins σ' H' s' ∧ D.bk σ' H'
  | .cont => ∃ σ' H', Inv X pins σ' H' s' ∧ D.ct σ' H'
  | .ret u => ∃ v σ' H', Inv X pins σ' H' s' ∧ RelV v u ∧ D.rt v H'
def PE (X : Cx) (e : Expr) (t : TE) : Prop :=
  ∀ (pins : List (Addr × Obj)) (s : Shared) (σ : St) (H : Hp) (Q : VK), Inv X pins σ H s -> t σ H Q -> wpAny (model X.prog X.w) X.A (eval e X.env) (EP X pins σ Q) X.xe s
def PT (X : Cx) (e : Expr) (t : TT) : Prop :=
  ∀ (pins : List (Addr × Obj)) (s : Shared) (σ : St) (H : Hp) (Q : Bool -> Hp -> Prop), Inv X pins σ H s -> t σ H Q -> wpAny (model X.prog X.w) X.A (isTrue e X.env (eval e X.env)) (TP X pins σ Q) X.xe s
def PW (X : Cx) (e : Expr) (t : TT) : Prop :=
  ∀ (whole : Sem Value) (pins : List (Addr × Obj)) (s : Shared) (σ : St) (H : Hp) (Q : Bool -> Hp -> Prop), Inv X pins σ H s -> t σ H Q -> wpAny (model X.prog X.w) X.A (isTrue e X.env whole) (TP X pins σ Q) X.xe s
theorem PW.pt {X : Cx} {e : Expr} {t : TT} (h : PW X e t) : PT X e t := h _
def PA (X : Cx) (es : List Expr) (t : TA) : Prop :=
  ∀ (pos : Pos) (pins : List (Addr × Obj)) (s : Shared) (σ : St) (H : Hp) (Q : List V -> Hp -> Prop), Inv X pins σ H s -> t σ H Q -> wpAny (model X.prog X.w) X.A (spliced (backTo pos (starEach es X.env))) (AP X pins σ Q) X.xe s
def PS (X : Cx) (st : Stmt) (t : TS) : Prop :=
  ∀ (pins : List (Addr × Obj)) (s : Shared) (σ : St) (H : Hp) (D : Ends), Inv X pins σ H s -> t D σ H -> wpAny (model X.prog X.w) X.A (exec st X.env) (SP X pins D) X.xe s
def PSs (X : Cx) (st : List Stmt) (t : TS) : Prop :=
  ∀ (pins : List (Addr × Obj)) (s : Shared) (σ : St) (H : Hp) (D : Ends), Inv X pins σ H s -> t D σ H -> wpAny (model X.prog X.w) X.A (execs st X.env) (SP X pins D) X.xe s
theorem thn {α : Type} {t : Sem α} {Q Q' : α -> Shared -> Prop} {M : Model} {A : Around} {E : Value -> Shared -> Prop} {s : Shared} (h : wpAny M A t Q E s) (hQ : ∀ a s, Q a s -> Q' a s) : wpAny M A t Q' E s := wpAny_mono h hQ fun _ _ x => x
end L2
namespace L2
open PySem PySem.Spec PyProof.Rows
section
variable {X : Cx}
def tVar (i : Nat) : TE := fun σ H Q => ∃ v, σ[i]? = some (some v) ∧ Q v H
def tC (v : V) : TE := fun _ H Q => Q v H
theorem pe_var {i : Nat} {x : Str} {pos : Pos} (hN : X.N[i]? = some x) (hv : Vis X.env.scope x) (hd : (x == ("__debug__" : Str)) = false := by decide) (hcd : (x == ("__classdict__" : Str)) = false := by decide) : PE X (.Name x pos) (tVar i) := by
  intro pins s σ H Q I h
  obtain ⟨v, e, h⟩ := h
  obtain ⟨m, hn, hl⟩ := I.loc
  obtain ⟨u, r, l⟩ := hl i x v hN e hv
  have fin : EP X pins σ Q u s := ⟨v, H, I, r, h⟩
  rcases l with ⟨hk, hm⟩ | ⟨hk, c, hc, hcell⟩
  . exact wpAny_Name (wpAny_loadName_local I.ok.kind hk hn hm fin) hd
  . rcases hk with hk | hk
    . exact wpAny_Name (wpAny_loadName_cell I.ok.kind hk hc hcell fin) hd
    . exact wpAny_Name (wpAny_loadName_free I.ok.kind hk hc hcell fin hcd) hd
theorem qa4 {i j pos} : PE X (.Constant (.int i) j pos) (tC (.int i)) := fun _ _ _ H _ I h => wpAny_Constant_int ⟨.int i, H, I.tok _, ⟨_, rfl⟩, h⟩
theorem qn4 {b j pos} : PE X (.Constant (.bool b) j pos) (tC (.bl b)) := fun _ _ _ H _ I h => Constant_bool ⟨.bl b, H, I, rfl, h⟩
def Gl (X : Cx) (x : Str) : Prop := X.env.kindOf x = some .globalImplicit
theorem qy8 {E : Value -> Shared -> Prop} {pins : List (Addr × Obj)} {s : Shared} {σ : St} {H : Hp} {x : Str} {u : Value} {pos : Pos} {Q : Value -> Shared -> Prop} (I : Inv X pins σ H s) (hg : Gl X x) (hm : X.mg x = some u) (h : Q u s)
    (hd : (x == ("__debug__" : Str)) = false := by decide) : wpAny (model X.prog X.w) X.A (eval (.Name x pos) X.env) Q E s :=
  Calls.Name_function_global I.ok.kind hg (Calls.loadGlobal_global (by rw [I.ok.glob]; exact I.mod.glob.keeps I.bk) hm h) hd
theorem qx2 {E : Value -> Shared -> Prop} {pins : List (Addr × Obj)} {s : Shared} {σ : St} {H : Hp} {x : Str} {u : Value} {pos : Pos} {Q : Value -> Shared -> Prop} (I : Inv X pins σ H s) (hg : Gl X x) (hm : X.mg x = none) (hv : bootBuiltins x = some u) (h : Q u s)
    (hn : x ≠ "__name__" := by decide) (hd : (x == ("__debug__" : Str)) = false := by decide) : wpAny (model X.prog X.w) X.A (eval (.Name x pos) X.env) Q E s := by
  obtain ⟨mb, h1, h2⟩ := I.mod.blt
  exact Calls.Name_function_global I.ok.kind hg (Calls.loadGlobal_builtin (by rw [I.ok.glob]; exact I.mod.glob.keeps I.bk) hm (by rw [I.ok.blt]; exact h1.keeps I.bk) ((h2 x hn).trans hv) h) hd
theorem qd0 {x : Str} {v : V} {u : Value} {pos : Pos} (hg : Gl X x) (hm : X.mg x = some u) (r : RelV v u) (hd : (x == ("__debug__" : Str)) = false := by decide) : PE X (.Name x pos) (tC v) :=
  fun _ _ _ H _ I h => qy8 I hg hm ⟨v, H, I, r, h⟩ hd
theorem qt3 {x : Str} {v : V} {u : Value} {pos : Pos} (hg : Gl X x) (hm : X.mg x = none) (hv : bootBuiltins x = some u) (r : RelV v u) (hn : x ≠ "__name__" := by decide) (hd : (x == ("__debug__" : Str)) = false := by decide) : PE X (.Name x pos) (tC v) :=
  fun _ _ _ H _ I h => qx2 I hg hm hv ⟨v, H, I, r, h⟩ hn hd
variable {a b : Expr} {ta tb : TE} {pos : Pos}
def PC (X : Cx) (op : CmpOp) (a b : Expr) (t : TE) : Prop :=
  ∀ (pins : List (Addr × Obj)) (s : Shared) (σ : St) (H : Hp) (Q : VK), Inv X pins σ H s -> t σ H Q ->
    wpAny (model X.prog X.w) X.A (eval a X.env) (fun v s₁ => wpAny (model X.prog X.w) X.A (eval b X.env) (fun u s₂ => wpAny (model X.prog X.w) X.A (compareOp op v u) (EP X pins σ Q) X.xe s₂) X.xe s₁) X.xe s
theorem nobehind (b : Expr) {op : CmpOp} (h : op ≠ .In) (h2 : op ≠ .NotIn) : behindInMarks op b = false := by
  have e1 : (op == CmpOp.In) = false := by cases op <;> first | rfl | exact absurd rfl h
  have e2 : (op == CmpOp.NotIn) = false := by cases op <;> first | rfl | exact absurd rfl h2
  cases b <;> simp [behindInMarks, e1, e2]
def tB (t : TE) : TT := fun σ H Q => t σ H fun x H1 => ∃ c, x = .bl c ∧ Q c H1
theorem qt4 {op : CmpOp} {t : TE} (h : PC X op a b t) (h1 : behindInMarks op b = false := by first | exact nobehind _ (by decide) (by decide) | rfl) : PT X (.Compare a [op] [b] pos) (tB t) := by
  intro pins s σ H Q I hw
  refine wpAny_isTrue_Compare1 (thn (h pins s σ H _ I hw) fun v s1 h1 => thn h1 fun u s2 h2 => thn h2 fun c s3 ⟨x, H1, I1, r1, q1⟩ => ?_) h1
  obtain ⟨d, rfl, q⟩ := q1
  cases r1
  exact wpAny_truthy_bool ⟨H1, I1, q⟩
theorem qg8 {e : Expr} {t : TE} (h : PE X e t) (he : ∀ whole, isTrue e X.env whole = (do let v ← whole; standAt e.pos; holding [v] (truthy v)) := by intro _; rfl) : PT X e (tB t) := by
  intro pins s σ H Q I hw
  refine isTrue_plain (thn (h pins s σ H _ I hw) fun v s1 ⟨x, H1, I1, r1, q1⟩ => ?_) (he _)
  obtain ⟨d, rfl, q⟩ := q1
  cases r1
  exact wpAny_truthy_bool ⟨H1, I1, q⟩
variable {tA tB' : TT} {rest : List Expr}
def tAnd (t u : TT) : TT := fun σ H Q => t σ H fun c H1 => if c = true then u σ H1 Q else Q false H1
def tOr (t u : TT) : TT := fun σ H Q => t σ H fun c H1 => if c = true then Q true H1 else u σ H1 Q
def tNot (t : TT) : TT := fun σ H Q => t σ H fun c H1 => Q (!c) H1
theorem qI1 (ha : PT X a tA) : PW X (.BoolOp .And [a] pos) tA := by
  intro wh pins s σ H Q I h
  refine isTrue_and (thn (ha pins s σ H Q I h) fun c s1 e => ?_)
  cases c with
  | true => exact isTrue_and_nil e
  | false => exact e
theorem qk8 (ha : PT X a tA) : PW X (.BoolOp .Or [a] pos) tA := by
  intro wh pins s σ H Q I h
  refine isTrue_or (thn (ha pins s σ H Q I h) fun c s1 e => ?_)
  cases c with
  | false => exact isTrue_or_nil e
  | true => exact e
theorem qR9 (ha : PT X a tA) (hb : PW X (.BoolOp .And (b :: rest) pos) tB') : PW X (.BoolOp .And (a :: b :: rest) pos) (tAnd tA tB') := by
  intro wh pins s σ H Q I h
  refine isTrue_and (thn (ha pins s σ H _ I h) fun c s1 ⟨H1, I1, q1⟩ => ?_)
  cases c with
  | true => exact hb wh pins s1 σ H1 Q I1 q1
  | false => exact ⟨H1, I1, q1⟩
theorem qq7 (ha : PT X a tA) (hb : PW X (.BoolOp .Or (b :: rest) pos) tB') : PW X (.BoolOp .Or (a :: b :: rest) pos) (tOr tA tB') := by
  intro wh pins s σ H Q I h
  refine isTrue_or (thn (ha pins s σ H _ I h) fun c s1 ⟨H1, I1, q1⟩ => ?_)
  cases c with
  | true => exact ⟨H1, I1, q1⟩
  | false => exact hb wh pins s1 σ H1 Q I1 q1
theorem ql5 (ha : PT X a tA) : PT X (.UnaryOp .Not a pos) (tNot tA) := by
  intro pins s σ H Q I h
  exact isTrue_not (ha pins s σ H (fun c H1 => Q (!c) H1) I h)
def tAndV (ta tb : TE) : TE := fun σ H Q => ta σ H fun x H1 => ∃ c, x = .bl c ∧ if c = true then tb σ H1 Q else Q (.bl false) H1
def tNotV (ta : TE) : TE := fun σ H Q => ta σ H fun x H1 => ∃ c, x = .bl c ∧ Q (.bl (!c)) H1
theorem qt5 {op} {t : TE} (h : PE X a t) : PE X (.BoolOp op [a] pos) t := fun pins s σ H Q I hw => BoolOp_one (h pins s σ H Q I hw)
theorem qt6 (ha : PE X a ta) (hb : PE X (.BoolOp .And (b :: rest) pos) tb) : PE X (.BoolOp .And (a :: b :: rest) pos) (tAndV ta tb) := by
  intro pins s σ H Q I h
  refine BoolOp_and (thn (ha pins s σ H _ I h) fun v s1 ⟨x, H1, I1, r1, q1⟩ => ?_)
  obtain ⟨c, rfl, q1⟩ := q1
  cases r1
  refine wpAny_truthy_bool ?_
  cases c with
  | true => exact hb pins s1 σ H1 Q I1 q1
  | false => exact ⟨.bl false, H1, I1, rfl, q1⟩
theorem pe_not (ha : PE X a ta) : PE X (.UnaryOp .Not a pos) (tNotV ta) := by
  intro pins s σ H Q I h
  refine UnaryOp_ (thn (ha pins s σ H _ I h) fun v s1 ⟨x, H1, I1, r1, q1⟩ => ?_)
  obtain ⟨c, rfl, q1⟩ := q1
  cases r1
  exact not_of (wpAny_truthy_bool ⟨.bl (!c), H1, I1, rfl, q1⟩)
def tIf (t : TT) (ta tb : TE) : TE := fun σ H Q => t σ H fun c H1 => if c = true then ta σ H1 Q else tb σ H1 Q
theorem pe_ifExp {c : Expr} (hc : PT X c tA) (ha : PE X a ta) (hb : PE X b tb) : PE X (.IfExp c a b pos) (tIf tA ta tb) := by
  intro pins s σ H Q I h
  refine wpAny_IfExp (thn (hc pins s σ H _ I h) fun d s1 ⟨H1, I1, q1⟩ => ?_)
  cases d with
  | true => exact ha pins s1 σ H1 Q I1 q1
  | false => exact hb pins s1 σ H1 Q I1 q1
end
end L2
namespace L2
open PySem PySem.Spec PyProof.Rows
def SqL (K : PySem.W.Frag) (H : Hp) (a : Addr) (xs : List V) : Prop :=
  Rd H a (.lst xs) ∨
    ∃ (o : Obj) (its : Array Value) (n : Nat), K.lookup a = some o ∧ o.cls = .type "list" ∧ o.dict = none ∧ o.data = .seq its n ∧ its.size ≤ sizeLine ∧ Vals xs its.toList
def SqT (K : PySem.W.Frag) (H : Hp) (a : Addr) (xs : List V) : Prop :=
  Rd H a (.tup xs) ∨
    ∃ (o : Obj) (its : Array Value) (n : Nat), K.lookup a = some o ∧ o.cls = .type "tuple" ∧ o.data = .seq its n ∧ its.size ≤ sizeLine ∧ Vals xs its.toList
def absV : Value -> Option V
  | .none => some .non
  | .bool b => some (.bl b)
  | .int i _ => some (.int i)
  | .str x _ => some (.str x)
  | .bytes b _ => some (.byt b)
  | .float b _ => some (.flt b)
  | .ref a => some (.ref a)
  | .type n => some (.ty n)
  | _ => none
theorem RelV.abs {x : V} {u : Value} (r : RelV x u) : absV u = some x := by
  cases x with
  | non => cases r; rfl
  | bl _ => cases r; rfl
  | int _ => obtain ⟨t, rfl⟩ := r; rfl
  | str _ => obtain ⟨t, rfl⟩ := r; rfl
  | byt _ => obtain ⟨t, rfl⟩ := r; rfl
  | flt _ => obtain ⟨t, rfl⟩ := r; rfl
  | ref _ => cases r; rfl
  | ty _ => cases r; rfl
theorem RelV.inj {x y : V} {u : Value} (r : RelV x u) (q : RelV y u) : x = y := Option.some.inj (r.abs.symm.trans q.abs)
theorem Vals.inj : ∀ {xs ys : List V} {us : List Value}, Vals xs us -> Vals ys us -> xs = ys
  | _, _, _, .nil, .nil => rfl
  | _, _, _, .cons r t, .cons r' t' => by rw [r.inj r', Vals.inj t t']
section
variable {X : Cx} {pins : List (Addr × Obj)} {σ : St} {H : Hp} {s : Shared} {a : Addr} {xs ys : List V}
theorem SqL.of {K : PySem.W.Frag} (h : H a = some (.lst xs)) : SqL K H a xs := .inl (.inl h)
theorem SqT.of {K : PySem.W.Frag} (h : H a = some (.tup xs)) : SqT K H a xs := .inl (.inl h)
theorem Inv.list (I : Inv X pins σ H s) (h : SqL X.K H a xs) : ∃ its : List Value, Vals xs its ∧ PlainL s.heap a its.toArray ∧ xs.length ≤ sizeLine := by
  rcases h with h | ⟨o, its, n, hk, hc, hd, hs, hz, r⟩
  . obtain ⟨z, its, n, r, e⟩ := h.ok I.hok
    exact ⟨its, r, ⟨_, n, e, rfl, rfl, rfl⟩, z⟩
  . refine ⟨its.toList, r, ⟨o, n, I.kIn a o hk, hc, hd, by simpa using hs⟩, ?_⟩
    have e := r.length
    simp only [Array.length_toList] at e
    lia
theorem Inv.tuple (I : Inv X pins σ H s) (h : SqT X.K H a xs) : ∃ its : List Value, Vals xs its ∧ IsTup s.heap a its.toArray ∧ xs.length ≤ sizeLine := by
  rcases h with h | ⟨o, its, n, hk, hc, hs, hz, r⟩
  . obtain ⟨z, its, r, p⟩ := h.ok I.hok
    exact ⟨its, r, p, z⟩
  . refine ⟨its.toList, r, ⟨o, I.kIn a o hk, hc, n, by simpa using hs⟩, ?_⟩
    have e := r.length
    simp only [Array.length_toList] at e
    lia
theorem Inv.list_inj (I : Inv X pins σ H s) (h : SqL X.K H a xs) (h' : SqL X.K H a ys) : xs = ys := by
  obtain ⟨its, r, ⟨o, n, e, _, _, d⟩, _⟩ := I.list h
  obtain ⟨its', r', ⟨o', n', e', _, _, d'⟩, _⟩ := I.list h'
  rw [e] at e'; cases e'
  rw [d] at d'
  injection d' with d1 _
  have : its = its' := by simpa using congrArg Array.toList d1
  subst this
  exact r.inj r'
theorem Inv.tuple_inj (I : Inv X pins σ H s) (h : SqT X.K H a xs) (h' : SqT X.K H a ys) : xs = ys := by
  obtain ⟨its, r, ⟨o, e, _, n, d⟩, _⟩ := I.tuple h
  obtain ⟨its', r', ⟨o', e', _, n', d'⟩, _⟩ := I.tuple h'
  rw [e] at e'; cases e'
  rw [d] at d'
  injection d' with d1 _
  have : its = its' := by simpa using congrArg Array.toList d1
  subst this
  exact r.inj r'
end
abbrev Cx.wish (X : Cx) (E : Value -> Shared -> Prop) : Cx := { X with xe := E }
abbrev Cx.nox (X : Cx) : Cx := X.wish fun _ _ => False
theorem Cx.Ok.wish {X : Cx} (ok : X.Ok) (E : Value -> Shared -> Prop) : (X.wish E).Ok :=
  ⟨ok.mod, ok.kind, ok.glob, ok.blt, ok.above, ok.inj, ok.has, ok.cab, ok.hd, ok.frames, ok.stk, ok.exf, ok.bs, ok.bsz, ok.noex, ok.exfs, ok.funs, ok.frf⟩
theorem Cx.Ok.unwish {X : Cx} {E : Value -> Shared -> Prop} (ok : (X.wish E).Ok) : X.Ok :=
  ⟨ok.mod, ok.kind, ok.glob, ok.blt, ok.above, ok.inj, ok.has, ok.cab, ok.hd, ok.frames, ok.stk, ok.exf, ok.bs, ok.bsz, ok.noex, ok.exfs, ok.funs, ok.frf⟩
section
variable {X : Cx} {pins : List (Addr × Obj)} {σ : St} {H : Hp} {s : Shared} {E : Value -> Shared -> Prop}
theorem Inv.wish (I : Inv X pins σ H s) (E : Value -> Shared -> Prop) : Inv (X.wish E) pins σ H s := ⟨I.ok.wish E, I.os, I.bare, I.base, I.loc, I.cell, I.free, I.freeC, I.pin, I.hok, I.len⟩
theorem Inv.unwish (I : Inv (X.wish E) pins σ H s) : Inv X pins σ H s := ⟨I.ok.unwish, I.os, I.bare, I.base, I.loc, I.cell, I.free, I.freeC, I.pin, I.hok, I.len⟩
theorem SP.unwish {D : Ends} {f : Flow} {s' : Shared} (h : SP (X.wish E) pins D f s') : SP X pins D f s' := by
  cases f with
  | next => obtain ⟨σ', H', I, q⟩ := h; exact ⟨σ', H', I.unwish, q⟩
  | brk => obtain ⟨σ', H', I, q⟩ := h; exact ⟨σ', H', I.unwish, q⟩
  | cont => obtain ⟨σ', H', I, q⟩ := h; exact ⟨σ', H', I.unwish, q⟩
  | ret u => obtain ⟨v, σ', H', I, r, q⟩ := h; exact ⟨v, σ', H', I.unwish, r, q⟩
theorem PE.nox {e : Expr} {t : TE} (h : PE X.nox e t) : PE X e t := fun pins s σ H Q I hw =>
  wpAny_mono (h pins s σ H Q (I.wish _) hw) (fun _ _ ⟨v, H', I', r, q⟩ => ⟨v, H', I'.unwish, r, q⟩) fun _ _ z => False.elim z
theorem PT.nox {e : Expr} {t : TT} (h : PT X.nox e t) : PT X e t := fun pins s σ H Q I hw =>
  wpAny_mono (h pins s σ H Q (I.wish _) hw) (fun _ _ ⟨H', I', q⟩ => ⟨H', I'.unwish, q⟩) fun _ _ z => False.elim z
theorem PSs.nox {st : List Stmt} {t : TS} (h : PSs X.nox st t) : PSs X st t := fun pins s σ H D I hw =>
  wpAny_mono (h pins s σ H D (I.wish _) hw) (fun _ _ q => q.unwish) fun _ _ z => False.elim z
end
section
variable {X : Cx} {st : Stmt} {rest : List Stmt} {t u : TS} {e : Expr} {te : TE} {pos : Pos}
def tNext : TS := fun D σ H => D.nx σ H
def tSeq (t u : TS) : TS := fun D σ H => t { D with nx := u D } σ H
theorem qb4 : PSs X [] tNext := fun _ _ σ H _ I h => wpAny_execs_nil ⟨σ, H, I, h⟩
theorem qc6 (h1 : PS X st t) (h2 : PSs X rest u) : PSs X (st :: rest) (tSeq t u) := by
  intro pins s σ H D I h
  refine wpAny_execs_cons (thn (h1 pins s σ H { D with nx := u D } I h) fun f s1 q => ?_)
  cases f with
  | next =>
    obtain ⟨σ', H', I', q⟩ := q
    exact h2 pins s1 σ' H' D I' q
  | ret v => exact q
  | brk => exact q
  | cont => exact q
theorem qb0 (h1 : PS X st t) : PSs X [st] t := by
  intro pins s σ H D I h
  refine wpAny_execs_cons (thn (h1 pins s σ H D I h) fun f s1 q => ?_)
  cases f with
  | next => exact wpAny_execs_nil q
  | ret v => exact q
  | brk => exact q
  | cont => exact q
theorem Inv.quiet {pins : List (Addr × Obj)} {σ : St} {H : Hp} {s : Shared} (I : Inv X pins σ H s) : interactive X.env = false := by simp [interactive, I.ok.kind]
def tDrop (te : TE) : TS := fun D σ H => te σ H fun _ H1 => D.nx σ H1
theorem qn7 (he : PE X e te) (hs : swapsWith e none pos.line X.env = pure false := by rfl) : PS X (.Expr e pos) (tDrop te) := by
  intro pins s σ H D I h
  exact wpAny_Expr_any (thn (he pins s σ H _ I h) fun v s1 ⟨x, H1, I1, r1, q1⟩ => ⟨σ, H1, I1, q1⟩) I.quiet hs
def tRet (te : TE) : TS := fun D σ H => te σ H D.rt
theorem qb3 (he : PE X e te) : PS X (.Return (some e) pos) (tRet te) := by
  intro pins s σ H D I h
  exact wpAny_Return_some (thn (he pins s σ H _ I h) fun v s1 ⟨x, H1, I1, r1, q1⟩ => ⟨x, σ, H1, I1, r1, q1⟩)
def tRetN : TS := fun D _ H => D.rt .non H
theorem qS0 : PS X (.Return none pos) tRetN := fun _ _ σ H _ I h => wpAny_Return_none ⟨.non, σ, H, I, rfl, h⟩
def tIfS (c : TT) (t u : TS) : TS := fun D σ H => c σ H fun b H1 => if b = true then t D σ H1 else u D σ H1
theorem qe0 {c : Expr} {a b : List Stmt} {tc : TT} (hc : PT X c tc) (ha : PSs X a t) (hb : PSs X b u) : PS X (.If c a b pos) (tIfS tc t u) := by
  intro pins s σ H D I h
  refine wpAny_If (thn (hc pins s σ H _ I h) fun d s1 ⟨H1, I1, q1⟩ => ?_)
  cases d with
  | true => exact ha pins s1 σ H1 D I1 q1
  | false => exact hb pins s1 σ H1 D I1 q1
def tNever : TS := fun _ _ _ => False
theorem qe8 {sts : List Stmt} : PSs X sts tNever := fun _ _ _ _ _ _ h => h.elim
end
abbrev TG := V -> St -> Hp -> (St -> Hp -> Prop) -> Prop
abbrev TGs := List V -> St -> Hp -> (St -> Hp -> Prop) -> Prop
def PG (X : Cx) (target : Expr) (t : TG) : Prop :=
  ∀ (pins : List (Addr × Obj)) (s : Shared) (σ : St) (H : Hp) (v : V) (u : Value) (Q : St -> Hp -> Prop), Inv X pins σ H s -> RelV v u -> t v σ H Q ->
    wpAny (model X.prog X.w) X.A (assign target X.env u) (fun _ s' => ∃ σ' H', Inv X pins σ' H' s' ∧ Q σ' H') X.xe s
def PGs (X : Cx) (ts : List Expr) (t : TGs) : Prop :=
  ∀ (pins : List (Addr × Obj)) (s : Shared) (σ : St) (H : Hp) (vs : List V) (us : List Value) (Q : St -> Hp -> Prop), Inv X pins σ H s -> Vals vs us -> t vs σ H Q ->
    wpAny (model X.prog X.w) X.A (assignInOrder ((assignEach ts X.env).map (·.2)) us) (fun _ s' => ∃ σ' H', Inv X pins σ' H' s' ∧ Q σ' H') X.xe s
abbrev TSet := V -> V -> V -> Hp -> (Hp -> Prop) -> Prop
def PSet (X : Cx) (t : TSet) : Prop :=
  ∀ (pins : List (Addr × Obj)) (s : Shared) (σ : St) (H : Hp) (o i v : V) (ov iv u : Value) (Q : Hp -> Prop), Inv X pins σ H s -> RelV o ov -> RelV i iv -> RelV v u -> t o i v H Q ->
    wpAny (model X.prog X.w) X.A (setItem ov iv u) (fun _ s' => ∃ H', Inv X pins σ H' s' ∧ Q H') X.xe s
section
variable {X : Cx} {pos : Pos}
def qe7 (i : Nat) : TG := fun v σ H Q => Q (σ.set i (some v)) H
theorem qc0 {i : Nat} {x : Str} (hN : X.N.Nodup) (hi : X.N[i]? = some x) (hx : Loc X.env.scope x) (hf : X.fn x = true ∨ X.env.scope.names.lookup x = some .local := by first | exact .inl rfl | exact .inr rfl | assumption) : PG X (.Name x pos) (qe7 i) := by
  intro pins s σ H v u Q I r h
  exact wpAny_assign_Name (qo7 I hN hi hx r (fun s' I' => ⟨_, H, I', h⟩) hf)
def gNil : TGs := fun vs σ H Q => vs = [] ∧ Q σ H
def qg5 (t : TG) (u : TGs) : TGs := fun vs σ H Q => ∃ v r, vs = v :: r ∧ t v σ H fun σ' H' => u r σ' H' Q
theorem ql6 : PGs X [] gNil := by
  intro pins s σ H vs us Q I r h
  obtain ⟨e, h⟩ := h
  subst e
  cases r
  exact assignInOrder_nil ⟨σ, H, I, h⟩
theorem qc2 {e : Expr} {es : List Expr} {t : TG} {u : TGs} (h1 : PG X e t) (h2 : PGs X es u)
    (hs : (assignEach (e :: es) X.env).map (·.2) = assign e X.env :: (assignEach es X.env).map (·.2) := by rfl) : PGs X (e :: es) (qg5 t u) := by
  intro pins s σ H vs us Q I r h
  obtain ⟨v, vr, e1, h⟩ := h
  subst e1
  cases r with
  | cons r rr =>
    rw [hs]
    refine assignInOrder_cons (thn (h1 pins s σ H _ _ _ I r h) fun _ s1 ⟨σ1, H1, I1, q1⟩ => ?_)
    exact h2 pins s1 σ1 H1 _ _ Q I1 rr q1
def gTup (K : PySem.W.Frag) (n : Nat) (t : TGs) : TG := fun v σ H Q => ∃ a xs, v = .ref a ∧ SqT K H a xs ∧ xs.length = n ∧ t xs σ H Q
theorem qr7 {es : List Expr} {k : Nat} {t : TGs} {n : Nat} (hc : X.calm = true) (h : PGs X es t)
    (hn : (assignEach es X.env).length = n := by rfl) (hst : (assignEach es X.env).findIdx? (·.1) = none := by rfl) : PG X (.Tuple es k pos) (gTup X.K n t) := by
  intro pins s σ H v u Q I r hw
  obtain ⟨a, xs, e1, hq, hl, hw⟩ := hw
  subst e1
  cases r
  obtain ⟨its, rv, ht, hz⟩ := I.tuple hq
  refine assign_Tuple_tuple (I.ok.hd hc) ht (by simp [hn, ← hl, rv.length]) hst fun h' hx => ?_
  have I1 : Inv X pins σ H { s with heap := h' } := I.kept (t' := s.toks) fun b o e => hx b o (Nat.ne_of_lt (Heap.lt_size e)) e
  exact h pins _ σ H xs _ Q I1 (by simpa using rv) hw
def gSub (to ti : TE) (t : TSet) : TG := fun v σ H Q => to σ H fun o H1 => ti σ H1 fun i H2 => t o i v H2 fun H3 => Q σ H3
theorem pg_sub {o i : Expr} {to ti : TE} {t : TSet} (ho : PE X o to) (hi : PE X i ti) (hs : PSet X t)
    (ha : ∀ v, assign (.Subscript o i pos) X.env v = (do
      let ov ← holding [v] (eval o X.env)
      let iv ← holding [v, ov] (eval i X.env)
      standAt pos
      holding [v, ov, iv] (setItem ov iv v)
      release [v, ov, iv] []) := by intro _; rfl) : PG X (.Subscript o i pos) (gSub to ti t) := by
  intro pins s σ H v u Q I r h
  rw [ha]
  refine wpAny_bind (wpAny_holding (thn (ho pins s σ H _ I h) fun ov s1 ⟨x, H1, I1, r1, q1⟩ => ?_))
  refine wpAny_bind (wpAny_holding (thn (hi pins s1 σ H1 _ I1 q1) fun iv s2 ⟨y, H2, I2, r2, q2⟩ => ?_))
  refine wpAny_bind (wpAny_standAt (wpAny_bind (wpAny_holding (thn (hs pins s2 σ H2 x y v ov iv u _ I2 r1 r2 r q2) fun _ s3 ⟨H3, I3, q3⟩ => ?_))))
  exact wpAny_release ⟨σ, H3, I3, q3⟩
def tAsg (te : TE) (g : TG) : TS := fun D σ H => te σ H fun x H1 => g x σ H1 D.nx
theorem qr8 {tg e : Expr} {te : TE} {g : TG} (he : PE X e te) (hg : PG X tg g) (hs : swapsWithSole [tg] e pos.line X.env = pure false := by rfl) (hw : swappedStores [tg] e X.env = pure none := by rfl)
    (h1 : (assignEach [tg] X.env).map (·.2) = [assign tg X.env] := by rfl) : PS X (.Assign [tg] e pos) (tAsg te g) := by
  intro pins s σ H D I h
  refine wpAny_Assign_stores (thn (he pins s σ H _ I h) fun v s1 ⟨x, H1, I1, r1, q1⟩ => ?_) hs hw
  rw [h1]
  exact thn (hg pins s1 σ H1 x v _ I1 r1 q1) fun _ s2 q => q
theorem qc4 {i : Nat} {x : Str} {e : Expr} {te : TE} {pos' : Pos} (hN : X.N.Nodup) (hi : X.N[i]? = some x) (hx : Loc X.env.scope x) (he : PE X e te) (hs : swapsWith e (some (.Name x pos')) pos.line X.env = pure false := by rfl) (hf : X.fn x = true ∨ X.env.scope.names.lookup x = some .local := by first | exact .inl rfl | exact .inr rfl | assumption) :
    PS X (.Assign [.Name x pos'] e pos) (tAsg te (qe7 i)) := by
  intro pins s σ H D I h
  refine wpAny_Assign_Name (thn (he pins s σ H _ I h) fun v s1 ⟨y, H1, I1, r1, q1⟩ => ?_) hs
  exact qo7 I1 hN hi hx r1 (fun s2 I2 => ⟨_, H1, I2, q1⟩) hf
def tPar (i j : Nat) (ta : TA) : TS := fun D σ H => ta σ H fun vs H1 => ∃ v w, vs = [v, w] ∧ D.nx ((σ.set i (some v)).set j (some w)) H1
theorem ps_par {i j : Nat} {x y : Str} {a b : Expr} {ta : TA} {px py pt : Pos} {kt k2 pt2} (hc : X.calm = true) (hN : X.N.Nodup) (hi : X.N[i]? = some x) (hj : X.N[j]? = some y) (hij : i ≠ j)
    (hx : X.env.scope.names.lookup x = some .local) (hy : X.env.scope.names.lookup y = some .local) (ha : PA X [a, b] ta)
    (hw : swappedStores [.Tuple [.Name x px, .Name y py] kt pt] (.Tuple [a, b] k2 pt2) X.env = pure (some [x, y]))
    (hs : swapsWithSole [.Tuple [.Name x px, .Name y py] kt pt] (.Tuple [a, b] k2 pt2) pos.line X.env = pure false := by rfl) :
    PS X (.Assign [.Tuple [.Name x px, .Name y py] kt pt] (.Tuple [a, b] k2 pt2) pos) (tPar i j ta) := by
  intro pins s σ H D I h
  rw [exec_Assign_arm]
  refine wpAny_bind (wpAny_standAt ?_)
  rw [hs]
  refine wpAny_bind (wpAny_pure ?_)
  rw [if_neg (by decide)]
  refine wpAny_bind (Tuple_ (thn (ha _ pins s σ H _ I h) fun us s1 ⟨vs, H1, I1, r1, q1⟩ => ?_))
  obtain ⟨v, w, e1, q1⟩ := q1
  subst e1
  obtain ⟨u1, u2, rfl, rv, rw'⟩ : ∃ u1 u2, us = [u1, u2] ∧ RelV v u1 ∧ RelV w u2 := by
    cases r1 with
    | cons p q =>
      cases q with
      | cons p' q' =>
        cases q'
        exact ⟨_, _, rfl, p, p'⟩
  refine wpAny_newObj_type ?_ (by show 2 ≤ sizeLine; decide)
  have I2 : Inv X pins σ H1 { s1 with heap := s1.heap.push { cls := .type "tuple", data := .seq [u1, u2].toArray } } := I1.kept (t' := s1.toks) fun b o e => Heap.get?_push_of_some _ e
  rw [hw]
  refine wpAny_bind (wpAny_pure ?_)
  show wpAny (model X.prog X.w) X.A (do rule "assign.swapped-stores"; let items ← unpackItems (.ref s1.heap.objs.size) 2 none; assignInOrder [fun v => bindName X.env y v, fun v => bindName X.env x v] items.reverse; pure Flow.next) _ _ _
  refine wpAny_bind (wpAny_rule (wpAny_bind (unpackItems_tuple (items := #[u1, u2]) (I.ok.hd hc) (IsTup.new s1.heap _) fun h' hx' => ?_)))
  have I3 := I2.kept (h' := h') (t' := s1.toks) fun b o e => hx' b o (Nat.ne_of_lt (Heap.lt_size e)) e
  show wpAny _ _ (assignInOrder [fun v => bindName X.env y v, fun v => bindName X.env x v] [u2, u1] >>= fun _ => pure Flow.next) _ _ _
  refine wpAny_bind (assignInOrder_cons (wpAny_bindName (qo7 I3 hN hj (.inl hy) rw' (fun s2 I4 => ?_) (.inr hy))))
  refine assignInOrder_cons (wpAny_bindName (qo7 I4 hN hi (.inl hx) rv (fun s3 I5 => assignInOrder_nil (wpAny_pure ?_)) (.inr hx)))
  rw [List.set_comm _ _ (Ne.symm hij)] at I5
  exact ⟨_, H1, I5, q1⟩
end
section
variable {X : Cx} {pos : Pos}
end
structure It where
  go : Nat -> Hp -> Prop
  yld : Nat -> Hp -> V -> Hp -> Prop
  stop : Nat -> Hp -> Prop
def FpOk (X : Cx) (pins : List (Addr × Obj)) (H : Hp) (b : Addr) : Prop :=
  H b = none ∧ b ≠ X.env.locals ∧ b ∉ X.fs ∧ (b ∈ X.ex ∨ X.s₀.heap.objs.size ≤ b) ∧ (∀ x c, X.env.cells.lookup x = some c -> c ≠ b) ∧ ∀ p ∈ X.pn ++ pins, p.1 ≠ b
theorem Inv.fpOk {X : Cx} {pins : List (Addr × Obj)} {σ : St} {H H' : Hp} {s : Shared} {b : Addr} (I : Inv X pins σ H s) (hb : s.heap.objs.size ≤ b) (hn : H' b = none) : FpOk X pins H' b := by
  refine ⟨hn, Nat.ne_of_gt (Nat.lt_of_lt_of_le I.lt hb), I.nofs hb, .inr (Nat.le_trans I.sz hb), fun x c e z => ?_, fun p hp z => ?_⟩
  . obtain ⟨v, q⟩ := I.cell x c e
    exact absurd (Nat.lt_of_lt_of_le q.lt (by rw [z]; exact hb)) (Nat.lt_irrefl _)
  . exact absurd (Nat.lt_of_lt_of_le (Heap.lt_size (I.pin p hp).1) (by rw [z]; exact hb)) (Nat.lt_irrefl _)
structure Turn (P : Program) (w : World) (K : PySem.W.Frag) (tg : Expr) (J : It) (fp : List Addr) (it : Addr) (tn : Nat -> Heap -> Prop) : Prop where
  mem : it ∈ fp
  obj : ∀ i h, tn i h -> ∀ b ∈ fp, ∃ o, h.get? b = some o ∧ ∀ v, o.data ≠ .cell v
  keep : ∀ i h h', tn i h -> (∀ b ∈ fp, ∀ o, h.get? b = some o -> h'.get? b = some o) -> tn i h'
  item : ∀ (X : Cx), X.prog = P -> X.w = w -> X.K = K -> X.calm = true -> ∀ (i : Nat) (pins : List (Addr × Obj)) (s : Shared) (σ : St) (H : Hp) (E : Value -> Shared -> Prop), Inv X pins σ H s -> (∀ b ∈ fp, FpOk X pins H b) -> tn i s.heap -> J.go i H ->
    wpAny (model P w) X.A (pyNext (.ref it)) (fun r s1 => ∃ u, r = some u ∧
      wpAny (model P w) X.A (letOwnedTupleGo tg (.ref it) u) (fun _ s2 => ∃ x H', Inv X pins σ H' s2 ∧ RelV x u ∧ J.yld i H x H' ∧ tn (i + 1) s2.heap ∧ ∀ b ∈ fp, H' b = none) E s1) E s
  done : ∀ (X : Cx), X.prog = P -> X.w = w -> X.K = K -> X.calm = true -> ∀ (i : Nat) (pins : List (Addr × Obj)) (s : Shared) (σ : St) (H : Hp) (E : Value -> Shared -> Prop), Inv X pins σ H s -> (∀ b ∈ fp, FpOk X pins H b) -> tn i s.heap -> J.stop i H ->
    wpAny (model P w) X.A (pyNext (.ref it)) (fun r s1 => r = none ∧ Inv X pins σ H s1) E s
  self : ∀ (A : Around) (i : Nat) (s : Shared) (Q : Value -> Shared -> Prop) (E : Value -> Shared -> Prop), tn i s.heap -> Q (.ref it) s -> wpAny (model P w) A (pyIter (.ref it)) Q E s
abbrev TI := St -> Hp -> (It -> Hp -> Prop) -> Prop
def PIE (X : Cx) (pins : List (Addr × Obj)) (σ : St) (tg : Expr) (R : It -> Hp -> Prop) (itv : Value) (s2 : Shared) : Prop :=
  ∃ (it : Addr) (fp : List Addr) (tn : Nat -> Heap -> Prop) (J : It) (H' : Hp), itv = .ref it ∧ Inv X pins σ H' s2 ∧ Turn X.prog X.w X.K tg J fp it tn ∧ tn 0 s2.heap ∧ (∀ b ∈ fp, FpOk X pins H' b) ∧ R J H'
def PI (X : Cx) (tg iter : Expr) (wi : TI) : Prop :=
  ∀ (pins : List (Addr × Obj)) (s : Shared) (σ : St) (H : Hp) (R : It -> Hp -> Prop), Inv X pins σ H s -> wi σ H R ->
    wpAny (model X.prog X.w) X.A (eval iter X.env) (fun v s1 => wpAny (model X.prog X.w) X.A (pyIter v) (PIE X pins σ tg R) X.xe s1) X.xe s
theorem go_of {M : Model} {A : Around} {E : Value -> Shared -> Prop} {s : Shared} {tg : Expr} {it : Addr} {u : Value} {o : Obj} {n : String} {vs : Array Value} {Q : Unit -> Shared -> Prop} (ho : s.heap.get? it = some o) (hc : o.cls = .type n) (hd : o.data = .fields vs)
    (hn : ["enumerate", "zip", "dict_itemiterator", "dict_reverseitemiterator", "odict_iterator", "itertools.zip_longest", "itertools.pairwise"].contains n = false) (hQ : Q () s) : wpAny M A (letOwnedTupleGo tg (.ref it) u) Q E s := by
  unfold letOwnedTupleGo
  cases tg <;> first
    | exact wpAny_pure hQ
    | (cases u <;> first
        | exact wpAny_pure hQ
        | (refine wpAny_bind (wpAny_load ho ?_)
           rw [hc, hd]
           show wpAny M A (if (["enumerate", "zip", "dict_itemiterator", "dict_reverseitemiterator", "odict_iterator", "itertools.zip_longest", "itertools.pairwise"].contains n && vs[0]? == some (rawInt _)) = true then _ else _) Q E s
           rw [if_neg (by intro h; rw [hn, Bool.false_and] at h; cases h)]
           exact wpAny_pure hQ))
def Itl (K : PySem.W.Frag) (a : Addr) : It :=
  ⟨fun i H => ∃ xs x, SqL K H a xs ∧ xs[i]? = some x, fun i H x H' => H' = H ∧ ∀ xs, SqL K H a xs -> xs[i]? = some x, fun i H => ∃ xs, SqL K H a xs ∧ xs.length ≤ i⟩
def Itt (K : PySem.W.Frag) (a : Addr) : It :=
  ⟨fun i H => ∃ xs x, SqT K H a xs ∧ xs[i]? = some x, fun i H x H' => H' = H ∧ ∀ xs, SqT K H a xs -> xs[i]? = some x, fun i H => ∃ xs, SqT K H a xs ∧ xs.length ≤ i⟩
def Itr (lo : Int) (n : Nat) : It := ⟨fun i _ => i < n, fun i H x H' => H' = H ∧ x = .int (lo + i), fun i _ => n ≤ i⟩
theorem qS1 {P : Program} {w : World} {K : PySem.W.Frag} {tg : Expr} (a it : Addr) : Turn P w K tg (Itl K a) [it] it (fun i h => h.IsListIter it a i) where
  mem := by simp
  obj := fun i h st b hb => by
    have e : b = it := by simpa using hb
    subst e
    obtain ⟨o, e, c, d⟩ := st
    exact ⟨o, e, fun v z => by rw [d] at z; cases z⟩
  keep := fun i h h' st k => st.at fun o e => k it (by simp) o e
  item := by
    intro X hP hw hK hc i pins s σ H E I hf st hg
    subst hP hw hK
    obtain ⟨xs, x, hq, hx⟩ := hg
    obtain ⟨its, rv, p, hz⟩ := I.list hq
    obtain ⟨u, hu, ru⟩ := rv.get hx
    obtain ⟨f0, f1, f2, f3, f4, f5⟩ := hf it (by simp)
    refine wpAny_pyNext_list_item st p.isList (x := u) (by simpa using hu) fun h' st' sb => ?_
    have I1 : Inv X pins σ H { s with heap := h' } := I.turned (t' := s.toks) (fun b o hb e => (sb.2 b hb).trans e) f0 f1 f3 f4 f5
    obtain ⟨o, e, c, d⟩ := id st'
    exact ⟨u, rfl, go_of (s := { s with heap := h' }) e c d (by decide) ⟨x, H, I1, ru, ⟨rfl, fun ys hy => by rw [I.list_inj hy hq]; exact hx⟩, st', fun b hb => (hf b hb).1⟩⟩
  done := by
    intro X hP hw hK hc i pins s σ H E I hf st hg
    subst hP hw hK
    obtain ⟨xs, hq, hx⟩ := hg
    obtain ⟨its, rv, p, hz⟩ := I.list hq
    obtain ⟨f0, f1, f2, f3, f4, f5⟩ := hf it (by simp)
    have hl := rv.length
    exact wpAny_pyNext_list_end (I.ok.hd hc) st p.isList (by simp; lia) fun h' eb => ⟨rfl, I.turned (t' := s.toks) (fun b o hb e => eb b o hb e) f0 f1 f3 f4 f5⟩
  self := fun _ _ _ _ _ st h => wpAny_pyIter_listiter st h
theorem qO0 {P : Program} {w : World} {K : PySem.W.Frag} {tg : Expr} (a it : Addr) : Turn P w K tg (Itt K a) [it] it (fun i h => h.IsTupleIter it a i) where
  mem := by simp
  obj := fun i h st b hb => by
    have e : b = it := by simpa using hb
    subst e
    obtain ⟨o, e, c, d⟩ := st
    exact ⟨o, e, fun v z => by rw [d] at z; cases z⟩
  keep := fun i h h' st k => st.at fun o e => k it (by simp) o e
  item := by
    intro X hP hw hK hc i pins s σ H E I hf st hg
    subst hP hw hK
    obtain ⟨xs, x, hq, hx⟩ := hg
    obtain ⟨its, rv, p, hz⟩ := I.tuple hq
    obtain ⟨u, hu, ru⟩ := rv.get hx
    obtain ⟨f0, f1, f2, f3, f4, f5⟩ := hf it (by simp)
    refine wpAny_pyNext_tuple_item st (show s.heap.IsTuple a its.toArray from p) (x := u) (by simpa using hu) fun h' st' sb => ?_
    have I1 : Inv X pins σ H { s with heap := h' } := I.turned (t' := s.toks) (fun b o hb e => (sb.2 b hb).trans e) f0 f1 f3 f4 f5
    obtain ⟨o, e, c, d⟩ := id st'
    exact ⟨u, rfl, go_of (s := { s with heap := h' }) e c d (by decide) ⟨x, H, I1, ru, ⟨rfl, fun ys hy => by rw [I.tuple_inj hy hq]; exact hx⟩, st', fun b hb => (hf b hb).1⟩⟩
  done := by
    intro X hP hw hK hc i pins s σ H E I hf st hg
    subst hP hw hK
    obtain ⟨xs, hq, hx⟩ := hg
    obtain ⟨its, rv, p, hz⟩ := I.tuple hq
    obtain ⟨f0, f1, f2, f3, f4, f5⟩ := hf it (by simp)
    have hl := rv.length
    exact wpAny_pyNext_tuple_end (I.ok.hd hc) st (show s.heap.IsTuple a its.toArray from p) (by simp; lia) fun h' eb => ⟨rfl, I.turned (t' := s.toks) (fun b o hb e => eb b o hb e) f0 f1 f3 f4 f5⟩
  self := fun _ _ _ _ _ st h => wpAny_pyIter_tupleiter st h
theorem qO1 {P : Program} {w : World} {K : PySem.W.Frag} {tg : Expr} (it : Addr) (lo : Int) (n : Nat) : Turn P w K tg (Itr lo n) [it] it (fun i h => IsRangeIter h it (lo + (i : Nat) * 1) ((n : Int) - (i : Nat)) 1) where
  mem := by simp
  obj := fun i h st b hb => by
    have e : b = it := by simpa using hb
    subst e
    exact ⟨_, st, fun v z => by
      have z' : Data.fields _ = Data.cell v := z
      cases z'⟩
  keep := fun i h h' st k => k it (by simp) _ st
  item := by
    intro X hP hw hK hc i pins s σ H E I hf st hg
    subst hP hw hK
    obtain ⟨f0, f1, f2, f3, f4, f5⟩ := hf it (by simp)
    have W := Walks.range (prog := X.prog) (w := X.w) (I.ok.hd hc) it lo 1 n
    refine W.item i s _ _ hg st fun v h' tk hv st' kk => ?_
    obtain ⟨t, rfl⟩ := hv
    have I1 : Inv X pins σ H { s with heap := h', toks := tk } := I.turned (fun b o hb e => kk b o (by simpa using hb) e) f0 f1 f3 f4 f5
    refine ⟨_, rfl, go_of (s := { s with heap := h', toks := tk }) (n := "range_iterator") st' rfl rfl (by decide) ⟨.int (lo + i), H, I1, ⟨t, ?_⟩, ⟨rfl, rfl⟩, st', fun b hb => (hf b hb).1⟩⟩
    rw [Int.mul_one]
  done := by
    intro X hP hw hK hc i pins s σ H E I hf st hg
    subst hP hw hK
    obtain ⟨f0, f1, f2, f3, f4, f5⟩ := hf it (by simp)
    exact wpAny_pyNext_range_end (I.ok.hd hc) st (by have : n ≤ i := hg; lia) fun h' eb => ⟨rfl, I.turned (t' := s.toks) (fun b o hb e => eb b o hb e) f0 f1 f3 f4 f5⟩
  self := fun _ _ _ _ _ st h => wpAny_pyIter_rangeiter st h
end L2
namespace L2
open PySem PySem.Spec PyProof.Rows
section
variable {X : Cx} {tg : Expr}
def iList (K : PySem.W.Frag) (tl : TE) : TI := fun σ H R => tl σ H fun x H1 => ∃ a, x = .ref a ∧ (∃ xs, SqL K H1 a xs) ∧ R (Itl K a) H1
def iTup (K : PySem.W.Frag) (tl : TE) : TI := fun σ H R => tl σ H fun x H1 => ∃ a, x = .ref a ∧ (∃ xs, SqT K H1 a xs) ∧ R (Itt K a) H1
theorem qn8 {l : Expr} {tl : TE} (hl : PE X l tl) : PI X tg l (iList X.K tl) := by
  intro pins s σ H R I h
  refine thn (hl pins s σ H _ I h) fun v s1 ⟨x, H1, I1, r1, q1⟩ => ?_
  obtain ⟨a, e, ⟨xs, hq⟩, q⟩ := q1
  subst e
  cases r1
  obtain ⟨its, rv, p, hz⟩ := I1.list hq
  refine wpAny_pyIter_list p.isList ?_
  refine ⟨s1.heap.objs.size, [s1.heap.objs.size], _, _, H1, rfl, I1.kept (t' := s1.toks) fun b o e => Heap.get?_push_of_some _ e, qS1 a _, ⟨_, Heap.get?_push_size _ rfl, rfl, rfl⟩, fun b hb => ?_, q⟩
  have e : b = s1.heap.objs.size := by simpa using hb
  subst e
  exact I1.fpOk (Nat.le_refl _) (I1.hok.fresh (Nat.le_refl _))
theorem qt7 {l : Expr} {tl : TE} (hl : PE X l tl) : PI X tg l (iTup X.K tl) := by
  intro pins s σ H R I h
  refine thn (hl pins s σ H _ I h) fun v s1 ⟨x, H1, I1, r1, q1⟩ => ?_
  obtain ⟨a, e, ⟨xs, hq⟩, q⟩ := q1
  subst e
  cases r1
  obtain ⟨its, rv, p, hz⟩ := I1.tuple hq
  refine wpAny_pyIter_tuple (show s1.heap.IsTuple a its.toArray from p) ?_
  refine ⟨s1.heap.objs.size, [s1.heap.objs.size], _, _, H1, rfl, I1.kept (t' := s1.toks) fun b o e => Heap.get?_push_of_some _ e, qO0 a _, ⟨_, Heap.get?_push_size _ rfl, rfl, rfl⟩, fun b hb => ?_, q⟩
  have e : b = s1.heap.objs.size := by simpa using hb
  subst e
  exact I1.fpOk (Nat.le_refl _) (I1.hok.fresh (Nat.le_refl _))
theorem range_it {pins : List (Addr × Obj)} {σ : St} {H : Hp} {s : Shared} {R : It -> Hp -> Prop} {E : Value -> Shared -> Prop} {lo hi : Int} {t u v : Tok} {tk : Nat} (I : Inv X pins σ H s) (h1 : -(2 ^ 62) ≤ lo) (h2 : lo < 2 ^ 62) (h3 : -(2 ^ 62) ≤ hi) (h4 : hi < 2 ^ 62)
    (q : R (Itr lo (hi - lo).toNat) H) : wpAny (model X.prog X.w) X.A (pyIter (.ref s.heap.objs.size)) (PIE X pins σ tg R) E { s with heap := s.heap.push { cls := .type "range", data := .fields #[.int lo t, .int hi u, .int 1 v] }, toks := tk } := by
  refine wpAny_pyIter_range (IsRange.new ..) (small_one h1 h2 h3 h4) ?_
  have I1 : Inv X pins σ H { s with heap := s.heap.push { cls := .type "range", data := .fields #[.int lo t, .int hi u, .int 1 v] }, toks := tk } := I.kept fun b o e => Heap.get?_push_of_some _ e
  refine ⟨(s.heap.push { cls := .type "range", data := .fields #[.int lo t, .int hi u, .int 1 v] }).objs.size, [(s.heap.push { cls := .type "range", data := .fields #[.int lo t, .int hi u, .int 1 v] }).objs.size], _, _, H, rfl,
    I1.kept (t' := tk) fun b o e => Heap.get?_push_of_some _ e, qO1 _ lo (hi - lo).toNat, ?_, fun b hb => ?_, q⟩
  . have e1 : lo + ((0 : Nat) : Int) * 1 = lo := by simp
    have e2 : (((hi - lo).toNat : Nat) : Int) - ((0 : Nat) : Int) = Builtin.Range.rangeSize lo hi 1 := by rw [rangeSize_one]; split <;> lia
    show IsRangeIter _ _ (lo + ((0 : Nat) : Int) * 1) ((((hi - lo).toNat : Nat) : Int) - ((0 : Nat) : Int)) 1
    rw [e1, e2]
    exact Heap.get?_push_size _ rfl
  . have e : b = (s.heap.push { cls := .type "range", data := .fields #[.int lo t, .int hi u, .int 1 v] }).objs.size := by simpa using hb
    subst e
    exact I1.fpOk (Nat.le_refl _) (I1.hok.fresh (Nat.le_refl _))
def iRng1 (ta : TA) : TI := fun σ H R => ta σ H fun vs H1 => ∃ j : Int, vs = [.int j] ∧ -(2 ^ 62) ≤ j ∧ j < 2 ^ 62 ∧ R (Itr 0 j.toNat) H1
def iRng2 (ta : TA) : TI := fun σ H R => ta σ H fun vs H1 => ∃ i j : Int, vs = [.int i, .int j] ∧ (-(2 ^ 62) ≤ i ∧ i < 2 ^ 62 ∧ -(2 ^ 62) ≤ j ∧ j < 2 ^ 62) ∧ R (Itr i (j - i).toNat) H1
theorem qo8 {a : Expr} {ta : TA} {p pos : Pos} (hg : Gl X "range") (hm : X.mg "range" = none) (ha : PA X [a] ta) (hs : starEach [a] X.env = [(false, eval a X.env)] := by rfl) : PI X tg (.Call (.Name "range" p) [a] [] pos) (iRng1 ta) := by
  intro pins s σ H R I h
  refine Call_ (qx2 I hg hm boot_range (PyProof.Rows.callWith_type1 (thn (ha pos pins s σ H _ I h) fun us s1 ⟨vs, H1, I1, r1, q1⟩ => ?_) hs rfl))
  obtain ⟨j, e, q1, q2, q⟩ := q1
  subst e
  cases r1 with
  | cons r rr =>
    cases rr
    obtain ⟨t, rfl⟩ := r
    exact call_range_1 (range_it I1 (by lia) (by lia) q1 q2 (by simpa using q))
theorem qB7 {a b : Expr} {ta : TA} {p pos : Pos} (hg : Gl X "range") (hm : X.mg "range" = none) (ha : PA X [a, b] ta) (hs : starEach [a, b] X.env = [(false, eval a X.env), (false, eval b X.env)] := by rfl) (hs2 : starEach [b] X.env = [(false, eval b X.env)] := by rfl) :
    PI X tg (.Call (.Name "range" p) [a, b] [] pos) (iRng2 ta) := by
  intro pins s σ H R I h
  refine Call_ (qx2 I hg hm boot_range (PyProof.Rows.callWith_type1 (thn (ha pos pins s σ H _ I h) fun us s1 ⟨vs, H1, I1, r1, q1⟩ => ?_) (by rw [hs, hs2]) (by rw [hs2]; rfl)))
  obtain ⟨i, j, e, ⟨q1, q2, q3, q4⟩, q⟩ := q1
  subst e
  cases r1 with
  | cons r rr =>
    cases rr with
    | cons r' rr =>
      cases rr
      obtain ⟨t, rfl⟩ := r
      obtain ⟨t', rfl⟩ := r'
      exact call_range_2 (range_it I1 q1 q2 q3 q4 q)
def tFor (wi : TI) (g : TG) (tb : TS) : TS := fun D σ H => wi σ H fun J H1 => ∃ W : Nat -> Nat -> St -> Hp -> Prop, (∃ m, W 0 m σ H1) ∧ ∀ i m σ H, W i m σ H ->
  (J.stop i H ∧ D.nx σ H) ∨ (J.go i H ∧ ∃ N : St -> Hp -> Prop, (∀ σ' H', N σ' H' -> ∃ m', m' < m ∧ W (i + 1) m' σ' H') ∧ ∀ x H', J.yld i H x H' -> g x σ H' fun σ2 H2 => tb { D with nx := N, ct := N, bk := D.nx } σ2 H2)
def qx3 (fp : List Addr) (h : Heap) : List (Addr × Obj) := fp.filterMap fun b => (h.get? b).map fun o => (b, o)
theorem qh1 {fp : List Addr} {h : Heap} {b : Addr} {o : Obj} (hb : b ∈ fp) (e : h.get? b = some o) : (b, o) ∈ qx3 fp h := List.mem_filterMap.mpr ⟨b, hb, by rw [e]; rfl⟩
theorem qS2 {fp : List Addr} {h : Heap} {p : Addr × Obj} (hp : p ∈ qx3 fp h) : p.1 ∈ fp ∧ h.get? p.1 = some p.2 := by
  obtain ⟨b, hb, e⟩ := List.mem_filterMap.mp hp
  cases q : h.get? b with
  | none => rw [q] at e; cases e
  | some o =>
    rw [q] at e
    have e' : (b, o) = p := Option.some.inj e
    subst e'
    exact ⟨hb, q⟩
theorem Inv.pinned {pins : List (Addr × Obj)} {σ : St} {H : Hp} {s : Shared} {fp : List Addr} (I : Inv X pins σ H s) (hf : ∀ b ∈ fp, FpOk X pins H b) (ho : ∀ b ∈ fp, ∃ o, s.heap.get? b = some o ∧ ∀ v, o.data ≠ .cell v) : Inv X (pins ++ qx3 fp s.heap) σ H s :=
  I.pins_of fun p hp => (List.mem_append.mp hp).elim (fun z => I.pin p (List.mem_append_right _ z)) fun z => by
    obtain ⟨hb, e⟩ := qS2 z
    obtain ⟨f0, f1, f2, _⟩ := hf p.1 hb
    obtain ⟨o, e', d⟩ := ho p.1 hb
    rw [e] at e'; cases e'
    exact ⟨e, f0, f1, f2, d⟩
theorem Inv.unpinned {pins pl : List (Addr × Obj)} {σ : St} {H : Hp} {s : Shared} (I : Inv X (pins ++ pl) σ H s) : Inv X pins σ H s := I.pins_of fun p hp => I.pin p (List.mem_append_right _ (List.mem_append_left _ hp))
theorem qB8 {iter : Expr} {body : List Stmt} {wi : TI} {g : TG} {tb : TS} {pos : Pos} (hp : PassesOwn (model X.prog X.w) X.A X.env X.xe) (hc : X.calm = true) (hi : PI X tg iter wi) (hg : PG X tg g) (hb : PSs X body tb)
    (hs : ∀ x, foldedSetIterable iter X.env x = pure x := by intro _; rfl) : PS X (.For tg iter body [] pos) (tFor wi g tb) := by
  intro pins s σ H D I h
  refine wpAny_For (thn (hi pins s σ H _ I h) fun v s1 h1 => thn h1 fun itv s2 h2 => ?_) hs
  obtain ⟨it, fp, tn, J, H2, e, I2, T, st2, f2, W, ⟨m0, w0⟩, turn⟩ := h2
  subst e
  have stat : ∀ {H' : Hp}, (∀ b ∈ fp, H' b = none) -> ∀ b ∈ fp, FpOk X pins H' b := fun hn b hb => ⟨hn b hb, (f2 b hb).2⟩
  refine codeAny_forLoop_any (fun n s' => ∃ i σ' H', Inv X pins σ' H' s' ∧ tn i s'.heap ∧ (∀ b ∈ fp, H' b = none) ∧ W i n σ' H') ?_ m0 ⟨0, σ, H2, I2, st2, fun b hb => (f2 b hb).1, w0⟩
  rintro n s3 ⟨i, σ3, H3, I3, st3, fr3, w3⟩
  rcases turn i n σ3 H3 w3 with ⟨stop, qn⟩ | ⟨go, N, hN, step⟩
  . refine wpAny_passesOwn hp (thn (T.done X rfl rfl rfl hc i pins s3 σ3 H3 X.xe I3 (stat fr3) st3 stop) fun r s4 ⟨hr, I4⟩ => ?_)
    subst hr
    exact wpAny_execs_nil ⟨σ3, H3, I4, qn⟩
  . refine wpAny_passesOwn hp (thn (T.item X rfl rfl rfl hc i pins s3 σ3 H3 X.xe I3 (stat fr3) st3 go) fun r s4 ⟨u, hr, h4⟩ => ?_)
    subst hr
    refine wpAny_passesOwn hp (thn h4 fun _ s5 ⟨x, H5, I5, r5, y5, st5, fr5⟩ => ?_)
    have I5' := I5.pinned (stat fr5) (T.obj _ _ st5)
    refine wpAny_passesOwn hp (thn (hg _ s5 σ3 H5 x u _ I5' r5 (step x H5 y5)) fun _ s6 ⟨σ6, H6, I6, q6⟩ => ?_)
    refine wpAny_passesOwn hp (thn (hb _ s6 σ6 H6 _ I6 q6) fun f s7 q7 => ?_)
    have again : ∀ {σ7 : St} {H7 : Hp}, Inv X (pins ++ qx3 fp s5.heap) σ7 H7 s7 -> N σ7 H7 -> ∃ m, m < n ∧ ∃ i σ' H', Inv X pins σ' H' s7 ∧ tn i s7.heap ∧ (∀ b ∈ fp, H' b = none) ∧ W i m σ' H' := fun {σ7 H7} I7 n7 => by
      obtain ⟨m', hm, w7⟩ := hN σ7 H7 n7
      refine ⟨m', hm, i + 1, σ7, H7, I7.unpinned, T.keep _ _ _ st5 fun b hb o e => (I7.pin (b, o) (List.mem_append_right _ (List.mem_append_right _ (qh1 hb e)))).1, fun b hb => ?_, w7⟩
      obtain ⟨o, e, d⟩ := T.obj _ _ st5 b hb
      exact (I7.pin (b, o) (List.mem_append_right _ (List.mem_append_right _ (qh1 hb e)))).2.1
    cases f with
    | next => obtain ⟨σ7, H7, I7, n7⟩ := q7; exact again I7 n7
    | cont => obtain ⟨σ7, H7, I7, n7⟩ := q7; exact again I7 n7
    | brk => obtain ⟨σ7, H7, I7, q7⟩ := q7; exact ⟨σ7, H7, I7.unpinned, q7⟩
    | ret v => obtain ⟨x7, σ7, H7, I7, r7, q7⟩ := q7; exact ⟨x7, σ7, H7, I7.unpinned, r7, q7⟩
end
theorem for_list {K : PySem.W.Frag} {a : Addr} {xs : List V} {g : TG} {tb : TS} {D : Ends} {σ : St} {H : Hp} (Pv : Nat -> St -> Hp -> Prop) (h0 : Pv 0 σ H) (hl : ∀ i σ H, i ≤ xs.length -> Pv i σ H -> SqL K H a xs)
    (hs : ∀ i x σ H, xs[i]? = some x -> Pv i σ H -> g x σ H fun σ2 H2 => tb { D with nx := Pv (i + 1), ct := Pv (i + 1), bk := D.nx } σ2 H2) (hd : ∀ σ H, Pv xs.length σ H -> D.nx σ H) :
    ∃ W : Nat -> Nat -> St -> Hp -> Prop, (∃ m, W 0 m σ H) ∧ ∀ i m σ H, W i m σ H ->
      ((Itl K a).stop i H ∧ D.nx σ H) ∨ ((Itl K a).go i H ∧ ∃ N : St -> Hp -> Prop, (∀ σ' H', N σ' H' -> ∃ m', m' < m ∧ W (i + 1) m' σ' H') ∧ ∀ x H', (Itl K a).yld i H x H' -> g x σ H' fun σ2 H2 => tb { D with nx := N, ct := N, bk := D.nx } σ2 H2) := by
  refine ⟨fun i m σ H => m = xs.length - i ∧ i ≤ xs.length ∧ Pv i σ H, ⟨xs.length, by simp, Nat.zero_le _, h0⟩, ?_⟩
  rintro i m σ H ⟨rfl, hi, p⟩
  have q := hl i σ H hi p
  by_cases hlt : i < xs.length
  . refine .inr ⟨⟨xs, xs[i], q, by simp [hlt]⟩, Pv (i + 1), fun σ' H' p' => ⟨xs.length - (i + 1), by lia, rfl, hlt, p'⟩, fun x H' y => ?_⟩
    obtain ⟨e, y⟩ := y
    subst e
    exact hs i x σ _ (y xs q) p
  . have e : i = xs.length := by lia
    subst e
    exact .inl ⟨⟨xs, q, Nat.le_refl _⟩, hd σ H p⟩
theorem qS3 {K : PySem.W.Frag} {a : Addr} {xs : List V} {g : TG} {tb : TS} {D : Ends} {σ : St} {H : Hp} (Pv : Nat -> St -> Hp -> Prop) (h0 : Pv 0 σ H) (hl : ∀ i σ H, i ≤ xs.length -> Pv i σ H -> SqT K H a xs)
    (hs : ∀ i x σ H, xs[i]? = some x -> Pv i σ H -> g x σ H fun σ2 H2 => tb { D with nx := Pv (i + 1), ct := Pv (i + 1), bk := D.nx } σ2 H2) (hd : ∀ σ H, Pv xs.length σ H -> D.nx σ H) :
    ∃ W : Nat -> Nat -> St -> Hp -> Prop, (∃ m, W 0 m σ H) ∧ ∀ i m σ H, W i m σ H ->
      ((Itt K a).stop i H ∧ D.nx σ H) ∨ ((Itt K a).go i H ∧ ∃ N : St -> Hp -> Prop, (∀ σ' H', N σ' H' -> ∃ m', m' < m ∧ W (i + 1) m' σ' H') ∧ ∀ x H', (Itt K a).yld i H x H' -> g x σ H' fun σ2 H2 => tb { D with nx := N, ct := N, bk := D.nx } σ2 H2) := by
  refine ⟨fun i m σ H => m = xs.length - i ∧ i ≤ xs.length ∧ Pv i σ H, ⟨xs.length, by simp, Nat.zero_le _, h0⟩, ?_⟩
  rintro i m σ H ⟨rfl, hi, p⟩
  have q := hl i σ H hi p
  by_cases hlt : i < xs.length
  . refine .inr ⟨⟨xs, xs[i], q, by simp [hlt]⟩, Pv (i + 1), fun σ' H' p' => ⟨xs.length - (i + 1), by lia, rfl, hlt, p'⟩, fun x H' y => ?_⟩
    obtain ⟨e, y⟩ := y
    subst e
    exact hs i x σ _ (y xs q) p
  . have e : i = xs.length := by lia
    subst e
    exact .inl ⟨⟨xs, q, Nat.le_refl _⟩, hd σ H p⟩
theorem qB9 {lo : Int} {n : Nat} {g : TG} {tb : TS} {D : Ends} {σ : St} {H : Hp} (Pv : Nat -> St -> Hp -> Prop) (h0 : Pv 0 σ H)
    (hs : ∀ i σ H, i < n -> Pv i σ H -> g (.int (lo + i)) σ H fun σ2 H2 => tb { D with nx := Pv (i + 1), ct := Pv (i + 1), bk := D.nx } σ2 H2) (hd : ∀ σ H, Pv n σ H -> D.nx σ H) :
    ∃ W : Nat -> Nat -> St -> Hp -> Prop, (∃ m, W 0 m σ H) ∧ ∀ i m σ H, W i m σ H ->
      ((Itr lo n).stop i H ∧ D.nx σ H) ∨ ((Itr lo n).go i H ∧ ∃ N : St -> Hp -> Prop, (∀ σ' H', N σ' H' -> ∃ m', m' < m ∧ W (i + 1) m' σ' H') ∧ ∀ x H', (Itr lo n).yld i H x H' -> g x σ H' fun σ2 H2 => tb { D with nx := N, ct := N, bk := D.nx } σ2 H2) := by
  refine ⟨fun i m σ H => m = n - i ∧ i ≤ n ∧ Pv i σ H, ⟨n, by simp, Nat.zero_le _, h0⟩, ?_⟩
  rintro i m σ H ⟨rfl, hi, p⟩
  by_cases hlt : i < n
  . refine .inr ⟨hlt, Pv (i + 1), fun σ' H' p' => ⟨n - (i + 1), by lia, rfl, hlt, p'⟩, fun x H' y => ?_⟩
    obtain ⟨e, y⟩ := y
    subst e y
    exact hs i σ _ hlt p
  . have e : i = n := by lia
    subst e
    exact .inl ⟨Nat.le_refl _, hd σ H p⟩
end L2
namespace L2
open PySem PySem.Spec PyProof.Rows
abbrev R2 := V -> V -> Hp -> VK -> Prop
def OpR (X : Cx) (f : Value -> Value -> Sem Value) (r : R2) : Prop :=
  ∀ (pins : List (Addr × Obj)) (s : Shared) (σ : St) (H : Hp) (x y : V) (v u : Value) (Q : VK), Inv X pins σ H s -> RelV x v -> RelV y u -> r x y H Q ->
    wpAny (model X.prog X.w) X.A (f v u) (EP X pins σ Q) X.xe s
def CallR (X : Cx) (f : Value) (r : List V -> Hp -> VK -> Prop) : Prop :=
  ∀ (pins : List (Addr × Obj)) (s : Shared) (σ : St) (H : Hp) (xs : List V) (us : List Value) (Q : VK), Inv X pins σ H s -> Vals xs us -> r xs H Q ->
    wpAny (model X.prog X.w) X.A (call f us) (EP X pins σ Q) X.xe s
def tOp (r : R2) (ta tb : TE) : TE := fun σ H Q => ta σ H fun x H1 => tb σ H1 fun y H2 => r x y H2 Q
def rI (C : Int -> Int -> Prop) (g : Int -> Int -> V) : R2 := fun x y H Q => ∃ i j, x = .int i ∧ y = .int j ∧ C i j ∧ Q (g i j) H
def rI0 (g : Int -> Int -> V) : R2 := fun x y H Q => ∃ i j, x = .int i ∧ y = .int j ∧ Q (g i j) H
section
variable {X : Cx} {a b c : Expr} {ta tb tc : TE} {pos : Pos}
theorem binT (ha : PE X a ta) (hb : PE X b tb) {pins : List (Addr × Obj)} {s : Shared} {σ : St} {H : Hp} {R : V -> V -> Hp -> Prop} (I : Inv X pins σ H s)
    (h : ta σ H fun x H1 => tb σ H1 fun y H2 => R x y H2) {Q : Value -> Shared -> Prop} {f : Value -> Value -> Sem Value}
    (hf : ∀ v u s2 x y H2, Inv X pins σ H2 s2 -> RelV x v -> RelV y u -> R x y H2 -> wpAny (model X.prog X.w) X.A (f v u) Q X.xe s2) :
    wpAny (model X.prog X.w) X.A (eval a X.env) (fun v s₁ => wpAny (model X.prog X.w) X.A (eval b X.env) (fun u s₂ => wpAny (model X.prog X.w) X.A (f v u) Q X.xe s₂) X.xe s₁) X.xe s := by
  refine thn (ha pins s σ H _ I h) fun v s1 ⟨x, H1, I1, r1, q1⟩ => ?_
  refine thn (hb pins s1 σ H1 _ I1 q1) fun u s2 ⟨y, H2, I2, r2, q2⟩ => ?_
  exact hf v u s2 x y H2 I2 r1 r2 q2
theorem qb1 {op : Operator} {r : R2} (ho : OpR X (binaryOp op) r) (ha : PE X a ta) (hb : PE X b tb) : PE X (.BinOp a op b pos) (tOp r ta tb) := by
  intro pins s σ H Q I h
  exact wpAny_BinOp (binT ha hb I h fun v u s2 x y H2 I2 rx ry q => ho pins s2 σ H2 x y v u Q I2 rx ry q)
theorem opI {f : Value -> Value -> Sem Value} {C : Int -> Int -> Prop} {g : Int -> Int -> Int}
    (rule : ∀ (i j : Int) (t u : Tok) (s : Shared) (Q : Value -> Shared -> Prop) (E : Value -> Shared -> Prop), C i j -> Q (.int (g i j) s.toks) { s with toks := s.toks + 1 } -> wpAny (model X.prog X.w) X.A (f (.int i t) (.int j u)) Q E s) :
    OpR X f (rI C fun i j => .int (g i j)) := by
  intro pins s σ H x y v u Q I rx ry h
  obtain ⟨i, j, rfl, rfl, hc, q⟩ := h
  obtain ⟨t, rfl⟩ := rx
  obtain ⟨t', rfl⟩ := ry
  exact rule i j t t' s _ _ hc ⟨.int (g i j), H, I.tok _, ⟨_, rfl⟩, q⟩
theorem opI0 {f : Value -> Value -> Sem Value} {g : Int -> Int -> Int}
    (rule : ∀ (i j : Int) (t u : Tok) (s : Shared) (Q : Value -> Shared -> Prop) (E : Value -> Shared -> Prop), Q (.int (g i j) s.toks) { s with toks := s.toks + 1 } -> wpAny (model X.prog X.w) X.A (f (.int i t) (.int j u)) Q E s) :
    OpR X f (rI0 fun i j => .int (g i j)) := by
  intro pins s σ H x y v u Q I rx ry h
  obtain ⟨i, j, rfl, rfl, q⟩ := h
  obtain ⟨t, rfl⟩ := rx
  obtain ⟨t', rfl⟩ := ry
  exact rule i j t t' s _ _ ⟨.int (g i j), H, I.tok _, ⟨_, rfl⟩, q⟩
theorem opB0 {f : Value -> Value -> Sem Value} {g : Int -> Int -> Bool}
    (rule : ∀ (i j : Int) (t u : Tok) (s : Shared) (Q : Value -> Shared -> Prop) (E : Value -> Shared -> Prop), Q (.bool (g i j)) s -> wpAny (model X.prog X.w) X.A (f (.int i t) (.int j u)) Q E s) :
    OpR X f (rI0 fun i j => .bl (g i j)) := by
  intro pins s σ H x y v u Q I rx ry h
  obtain ⟨i, j, rfl, rfl, q⟩ := h
  obtain ⟨t, rfl⟩ := rx
  obtain ⟨t', rfl⟩ := ry
  exact rule i j t t' s _ _ ⟨.bl (g i j), H, I, rfl, q⟩
def CDiv (i j : Int) : Prop := 0 < j ∧ j < 1073741824
def CPow (i j : Int) : Prop := 0 ≤ j ∧ j ≤ 1000000 ∧ i.natAbs < 2 ^ 64
def CMul (i j : Int) : Prop := (-(2 ^ 64) < i ∧ i < 2 ^ 64) ∨ (-(2 ^ 64) < j ∧ j < 2 ^ 64)
theorem CMul.ok {i j : Int} (h : CMul i j) : IntMulOk i j := by
  rcases h with ⟨h1, h2⟩ | ⟨h1, h2⟩
  . exact .of_left (intBits_le_64 h1 h2)
  . exact .of_right (intBits_le_64 h1 h2)
theorem qd9 : OpR X (binaryOp .Add) (rI0 fun i j => .int (i + j)) := opI0 fun _ _ _ _ _ _ _ q => add_int q
theorem qe2 : OpR X (binaryOp .Sub) (rI0 fun i j => .int (i - j)) := opI0 fun _ _ _ _ _ _ _ q => sub_int q
theorem ql7 : OpR X (binaryOp .Mult) (rI CMul fun i j => .int (i * j)) := opI fun _ _ _ _ _ _ _ hc q => mul_int q hc.ok
theorem qj8 : OpR X (binaryOp .FloorDiv) (rI CDiv fun i j => .int (i / j)) := opI fun i j _ _ _ _ _ hc q => by
  have h1 : (0 : Int) < j := hc.1
  have h2 : j < 1073741824 := hc.2
  exact floordiv_int (by lia) (by rw [Int.fdiv_eq_ediv_of_nonneg i (by lia)]; exact q) (.inl (PyProof.noPylong_small (by lia)))
theorem qx4 : OpR X (binaryOp .Mod) (rI (fun _ j => 0 < j) fun i j => .int (i % j)) := opI fun i j _ _ _ _ _ hc q => by
  have h1 : (0 : Int) < j := hc
  exact mod_int' (by lia) (by rw [Int.fmod_eq_emod_of_nonneg i (by lia)]; exact q)
theorem op_pow : OpR X (binaryOp .Pow) (rI CPow fun i j => .int (i ^ j.toNat)) := opI fun _ _ _ _ _ _ _ hc q => pow_int_small hc.1 hc.2.1 hc.2.2 q
theorem qo9 : OpR X (binaryOp .LShift) (rI CPow fun i j => .int (i * 2 ^ j.toNat)) := opI fun _ _ _ _ _ _ _ hc q => lshift_int_small hc.1 hc.2.1 hc.2.2 q
end
def scal : V -> V -> Bool
  | .non, .non => true | .non, .int _ => true | .int _, .non => true | .non, .bl _ => true | .bl _, .non => true | .non, .str _ => true | .str _, .non => true
  | .int _, .int _ => true | .bl _, .bl _ => true | .str _, .str _ => true | .byt _, .byt _ => true
  | .int _, .str _ => true | .str _, .int _ => true | .bl _, .str _ => true | .str _, .bl _ => true
  | _, _ => false
def rEq : R2 := fun x y H Q => scal x y = true ∧ Q (.bl (decide (x = y))) H
def rNe : R2 := fun x y H Q => scal x y = true ∧ Q (.bl (!decide (x = y))) H
theorem qS4 {i j : Int} : decide (V.int i = V.int j) = (i == j) := by
  rw [Bool.eq_iff_iff]
  simp
theorem dec_bl {i j : Bool} : decide (V.bl i = V.bl j) = (i == j) := by
  rw [Bool.eq_iff_iff]
  simp
theorem qS5 {i j : Str} : decide (V.str i = V.str j) = (i == j) := by
  rw [Bool.eq_iff_iff]
  simp
theorem qS6 {i j : Array UInt8} : decide (V.byt i = V.byt j) = (i.toList == j.toList) := by
  rw [Bool.eq_iff_iff]
  cases i
  cases j
  simp
section
variable {X : Cx} {a b c : Expr} {ta tb tc : TE} {pos : Pos}
theorem qd2 {pins : List (Addr × Obj)} {σ : St} {H : Hp} {s : Shared} {Q : VK} {k k' : Bool} (I : Inv X pins σ H s) (q : Q (.bl k) H) (e : k = k') : EP X pins σ Q (.bool k') s := by
  subst e
  exact ⟨.bl k, H, I, rfl, q⟩
theorem qw8 : OpR X (compareOp .Eq) rEq := by
  intro pins s σ H x y v u Q I rx ry h
  obtain ⟨hs, q⟩ := h
  cases x with
  | non =>
    cases rx
    cases y with
    | non => cases ry; exact PySem.EqNone.eq_none_none (qd2 I q (by simp))
    | bl j => cases ry; exact PySem.EqNone.eq_none_bool (qd2 I q (by simp))
    | int j => obtain ⟨t', rfl⟩ := ry; exact PySem.EqNone.eq_none_int (qd2 I q (by simp))
    | str j => obtain ⟨t', rfl⟩ := ry; exact PySem.EqNone.eq_none_str (qd2 I q (by simp))
    | _ => exact absurd (show false = true from hs) Bool.false_ne_true
  | bl i =>
    cases rx
    cases y with
    | non => cases ry; exact PySem.EqNone.eq_bool_none (qd2 I q (by simp))
    | bl j => cases ry; exact eq_bool (qd2 I q dec_bl)
    | str j => obtain ⟨t', rfl⟩ := ry; exact PySem.EqMixed.eq_bool_str (qd2 I q (by simp))
    | _ => exact absurd (show false = true from hs) Bool.false_ne_true
  | int i =>
    obtain ⟨t, rfl⟩ := rx
    cases y with
    | non => cases ry; exact PySem.EqNone.eq_int_none (qd2 I q (by simp))
    | int j => obtain ⟨t', rfl⟩ := ry; exact eq_int (qd2 I q qS4)
    | str j => obtain ⟨t', rfl⟩ := ry; exact PySem.EqMixed.eq_int_str (qd2 I q (by simp))
    | _ => exact absurd (show false = true from hs) Bool.false_ne_true
  | str i =>
    obtain ⟨t, rfl⟩ := rx
    cases y with
    | non => cases ry; exact PySem.EqNone.eq_str_none (qd2 I q (by simp))
    | bl j => cases ry; exact PySem.EqMixed.eq_str_bool (qd2 I q (by simp))
    | int j => obtain ⟨t', rfl⟩ := ry; exact PySem.EqMixed.eq_str_int (qd2 I q (by simp))
    | str j => obtain ⟨t', rfl⟩ := ry; exact eq_str (qd2 I q qS5)
    | _ => exact absurd (show false = true from hs) Bool.false_ne_true
  | byt i =>
    obtain ⟨t, rfl⟩ := rx
    cases y with
    | byt j => obtain ⟨t', rfl⟩ := ry; exact PySem.W.eq_bytes (qd2 I q qS6)
    | _ => exact absurd (show false = true from hs) Bool.false_ne_true
  | _ => cases y <;> exact absurd (show false = true from hs) Bool.false_ne_true
theorem qI2 : OpR X (compareOp .NotEq) rNe := by
  intro pins s σ H x y v u Q I rx ry h
  obtain ⟨hs, q⟩ := h
  cases x with
  | non =>
    cases rx
    cases y with
    | non => cases ry; exact PySem.EqNone.ne_none_none (qd2 I q (by simp))
    | bl j => cases ry; exact PySem.EqNone.ne_none_bool (qd2 I q (by simp))
    | int j => obtain ⟨t', rfl⟩ := ry; exact PySem.EqNone.ne_none_int (qd2 I q (by simp))
    | str j => obtain ⟨t', rfl⟩ := ry; exact PySem.EqNone.ne_none_str (qd2 I q (by simp))
    | _ => exact absurd (show false = true from hs) Bool.false_ne_true
  | bl i =>
    cases rx
    cases y with
    | non => cases ry; exact PySem.EqNone.ne_bool_none (qd2 I q (by simp))
    | bl j => cases ry; exact ne_bool (qd2 I q (congrArg not dec_bl))
    | str j => obtain ⟨t', rfl⟩ := ry; exact PySem.EqMixed.ne_bool_str (qd2 I q (by simp))
    | _ => exact absurd (show false = true from hs) Bool.false_ne_true
  | int i =>
    obtain ⟨t, rfl⟩ := rx
    cases y with
    | non => cases ry; exact PySem.EqNone.ne_int_none (qd2 I q (by simp))
    | int j => obtain ⟨t', rfl⟩ := ry; exact ne_int (qd2 I q (congrArg not qS4))
    | str j => obtain ⟨t', rfl⟩ := ry; exact PySem.EqMixed.ne_int_str (qd2 I q (by simp))
    | _ => exact absurd (show false = true from hs) Bool.false_ne_true
  | str i =>
    obtain ⟨t, rfl⟩ := rx
    cases y with
    | non => cases ry; exact PySem.EqNone.ne_str_none (qd2 I q (by simp))
    | bl j => cases ry; exact PySem.EqMixed.ne_str_bool (qd2 I q (by simp))
    | int j => obtain ⟨t', rfl⟩ := ry; exact PySem.EqMixed.ne_str_int (qd2 I q (by simp))
    | str j => obtain ⟨t', rfl⟩ := ry; exact ne_str (qd2 I q (congrArg not qS5))
    | _ => exact absurd (show false = true from hs) Bool.false_ne_true
  | byt i =>
    obtain ⟨t, rfl⟩ := rx
    cases y with
    | byt j => obtain ⟨t', rfl⟩ := ry; exact PySem.W.ne_bytes (qd2 I q (congrArg not qS6))
    | _ => exact absurd (show false = true from hs) Bool.false_ne_true
  | _ => cases y <;> exact absurd (show false = true from hs) Bool.false_ne_true
theorem qn5 : OpR X (compareOp .Lt) (rI0 fun i j => .bl (decide (i < j))) := opB0 fun _ _ _ _ _ _ _ q => lt_int q
theorem qw9 : OpR X (compareOp .LtE) (rI0 fun i j => .bl (decide (i ≤ j))) := opB0 fun _ _ _ _ _ _ _ q => le_int q
theorem op_gt : OpR X (compareOp .Gt) (rI0 fun i j => .bl (decide (j < i))) := opB0 fun _ _ _ _ _ _ _ q => gt_int q
theorem op_ge : OpR X (compareOp .GtE) (rI0 fun i j => .bl (decide (j ≤ i))) := opB0 fun _ _ _ _ _ _ _ q => ge_int q
theorem OpR.or {f : Value -> Value -> Sem Value} {r r' : R2} (h : OpR X f r) (h' : OpR X f r') : OpR X f (fun x y H Q => r x y H Q ∨ r' x y H Q) := by
  intro pins s σ H x y v u Q I rx ry q
  rcases q with q | q
  . exact h pins s σ H x y v u Q I rx ry q
  . exact h' pins s σ H x y v u Q I rx ry q
theorem qb6 (b : Expr) {op : CmpOp} (h : op ≠ .In := by decide) (h2 : op ≠ .NotIn := by decide) : behindInMarks op b = false := by
  have e1 : (op == CmpOp.In) = false := by cases op <;> first | rfl | exact absurd rfl h
  have e2 : (op == CmpOp.NotIn) = false := by cases op <;> first | rfl | exact absurd rfl h2
  cases b <;> simp [behindInMarks, e1, e2]
theorem qg6 {op : CmpOp} {r : R2} (ho : OpR X (compareOp op) r) (ha : PE X a ta) (hb : PE X b tb) (hm : behindInMarks op b = false) : PE X (.Compare a [op] [b] pos) (tOp r ta tb) := by
  intro pins s σ H Q I h
  exact wpAny_Compare1 (binT ha hb I h fun v u s2 x y H2 I2 rx ry q => ho pins s2 σ H2 x y v u Q I2 rx ry q) hm
def tTest (t : TE) : TT := fun σ H Q => t σ H fun x H' => ∃ k, x = .bl k ∧ Q k H'
theorem qb5 {op : CmpOp} {r : R2} (ho : OpR X (compareOp op) r) (ha : PE X a ta) (hb : PE X b tb) (hm : behindInMarks op b = false) : PT X (.Compare a [op] [b] pos) (tTest (tOp r ta tb)) := by
  intro pins s σ H Q I h
  refine wpAny_isTrue_Compare1 (thn (ha pins s σ H _ I h) fun v s1 ⟨x, H1, I1, r1, q1⟩ => thn (hb pins s1 σ H1 _ I1 q1) fun u s2 ⟨y, H2, I2, r2, q2⟩ =>
    thn (ho pins s2 σ H2 x y v u _ I2 r1 r2 q2) fun c s3 ⟨z, H3, I3, r3, k, e, q3⟩ => ?_) hm
  subst e
  cases r3
  exact wpAny_truthy_bool ⟨H3, I3, q3⟩
def tChain (r r' : R2) (ta tb tc : TE) : TE := fun σ H Q => ta σ H fun x H1 => tb σ H1 fun y H2 => r x y H2 fun z H3 => ∃ k, z = .bl k ∧
  (if k = true then tc σ H3 fun w' H4 => r' y w' H4 Q else Q (.bl false) H3)
theorem qK2 {op op' : CmpOp} {r r' : R2} (ho : OpR X (compareOp op) r) (ho' : OpR X (compareOp op') r') (ha : PE X a ta) (hb : PE X b tb) (hc : PE X c tc)
    (hm : lastMarks [op, op'] [b, c] = false := by with_unfolding_all rfl) : PE X (.Compare a [op, op'] [b, c] pos) (tChain r r' ta tb tc) := by
  intro pins s σ H Q I h
  refine Compare_chain (thn (ha pins s σ H _ I h) fun v s1 ⟨x, H1, I1, r1, q1⟩ => chain_link (thn (hb pins s1 σ H1 _ I1 q1) fun u s2 ⟨y, H2, I2, r2, q2⟩ =>
    thn (ho pins s2 σ H2 x y v u _ I2 r1 r2 q2) fun d s3 ⟨z, H3, I3, r3, k, e, q3⟩ => ?_)) hm
  subst e
  cases r3
  refine wpAny_truthy_bool ?_
  cases k with
  | false => exact ite_ff ⟨.bl false, H3, I3, rfl, q3⟩
  | true => exact ite_tt (chain_last (thn (hc pins s3 σ H3 _ I3 q3) fun w' s4 ⟨z', H4, I4, r4, q4⟩ => ho' pins s4 σ H4 y z' u w' Q I4 r2 r4 q4))
theorem pt_chain {op op' : CmpOp} {r r' : R2} (ho : OpR X (compareOp op) r) (ho' : OpR X (compareOp op') r') (ha : PE X a ta) (hb : PE X b tb) (hc : PE X c tc)
    (hm : lastMarks [op, op'] [b, c] = false := by with_unfolding_all rfl) : PT X (.Compare a [op, op'] [b, c] pos) (tTest (tChain r r' ta tb tc)) := by
  intro pins s σ H Q I h
  refine isTrue_chain (thn (ha pins s σ H _ I h) fun v s1 ⟨x, H1, I1, r1, q1⟩ => test_link (thn (hb pins s1 σ H1 _ I1 q1) fun u s2 ⟨y, H2, I2, r2, q2⟩ =>
    thn (ho pins s2 σ H2 x y v u _ I2 r1 r2 q2) fun d s3 ⟨z, H3, I3, r3, k, e, q3⟩ => ?_)) hm
  subst e
  cases r3
  refine wpAny_truthy_bool ?_
  cases k with
  | false =>
    obtain ⟨k', e', q'⟩ := q3
    cases e'
    exact ite_ff ⟨H3, I3, q'⟩
  | true =>
    refine ite_tt (test_last (thn (hc pins s3 σ H3 _ I3 q3) fun w' s4 ⟨z', H4, I4, r4, q4⟩ => thn (ho' pins s4 σ H4 y z' u w' _ I4 r2 r4 q4) fun d' s5 ⟨z2, H5, I5, r5, k2, e2, q5⟩ => ?_))
    subst e2
    cases r5
    exact wpAny_truthy_bool ⟨H5, I5, q5⟩
theorem qK3 : (sizeLine : Nat) < 2 ^ 63 := by rw [sizeLine_eq]; decide
theorem ql1 {x : V} {us : List Value} (r : Vals [x] us) : ∃ u, us = [u] ∧ RelV x u := by
  cases r with
  | cons r1 r2 => cases r2; exact ⟨_, rfl, r1⟩
theorem vals2 {x y : V} {us : List Value} (r : Vals [x, y] us) : ∃ u w', us = [u, w'] ∧ RelV x u ∧ RelV y w' := by
  cases r with
  | cons r1 r2 =>
    cases r2 with
    | cons r3 r4 => cases r4; exact ⟨_, _, rfl, r1, r3⟩
theorem qK4 : CallR X (.builtin "abs") (fun xs H Q => ∃ i, xs = [.int i] ∧ Q (.int (if i < 0 then -i else i)) H) := by
  intro pins s σ H xs us Q I r h
  obtain ⟨i, rfl, q⟩ := h
  obtain ⟨u, rfl, t, rfl⟩ := ql1 r
  exact call_abs_int fun u tk => ⟨.int (if i < 0 then -i else i), H, I.tok _, ⟨_, rfl⟩, q⟩
theorem qC0 (hc : X.calm = true) : CallR X (.builtin "max") (fun xs H Q => ∃ i j, xs = [.int i, .int j] ∧ Q (.int (if j > i then j else i)) H) := by
  intro pins s σ H xs us Q I r h
  obtain ⟨i, j, rfl, q⟩ := h
  obtain ⟨u, w', rfl, ⟨t, rfl⟩, ⟨t', rfl⟩⟩ := vals2 r
  refine max_two_ints (I.ok.hd hc) fun h' tk k => ⟨_, H, I.kept k, ?_, q⟩
  by_cases hj : j > i
  . rw [if_pos hj, if_pos hj]; exact ⟨_, rfl⟩
  . rw [if_neg hj, if_neg hj]; exact ⟨_, rfl⟩
theorem qt8 (hc : X.calm = true) : CallR X (.builtin "min") (fun xs H Q => ∃ i j, xs = [.int i, .int j] ∧ Q (.int (if j < i then j else i)) H) := by
  intro pins s σ H xs us Q I r h
  obtain ⟨i, j, rfl, q⟩ := h
  obtain ⟨u, w', rfl, ⟨t, rfl⟩, ⟨t', rfl⟩⟩ := vals2 r
  refine min_two_ints (I.ok.hd hc) fun h' tk k => ⟨_, H, I.kept k, ?_, q⟩
  by_cases hj : j < i
  . rw [if_pos hj, if_pos hj]; exact ⟨_, rfl⟩
  . rw [if_neg hj, if_neg hj]; exact ⟨_, rfl⟩
theorem qt9 : CallR X (.type "int") (fun xs H Q => (∃ i, xs = [.int i] ∧ Q (.int i) H) ∨ ∃ k, xs = [.bl k] ∧ Q (.int (if k then 1 else 0)) H) := by
  intro pins s σ H xs us Q I r h
  rcases h with ⟨i, rfl, q⟩ | ⟨k, rfl, q⟩
  . obtain ⟨u, rfl, t, rfl⟩ := ql1 r
    exact call_int_int ⟨.int i, H, I, ⟨_, rfl⟩, q⟩
  . obtain ⟨u, rfl, r1⟩ := ql1 r
    cases r1
    exact call_int_bool ⟨.int (if k then 1 else 0), H, I.tok _, ⟨_, rfl⟩, q⟩
end
end L2
namespace L2
open PySem PySem.Spec PyProof.Rows
structure ObjM (h : Heap) (x dx C : Addr) (mA : Str -> Option Value) : Prop where
  obj : h.get? x = some (PySem.W.instObj C dx)
  ns : h.Ns1 dx mA
  ne : dx ≠ x
theorem qS7 {h : Heap} {dx : Addr} {mA : Str -> Option Value} (n : h.Ns1 dx mA) : ∃ od, h.get? dx = some od ∧ ∀ name, PySem.W.lookIn name od = some (mA name) := by
  obtain ⟨o, es, ep, ho, hd, hk, _, hm⟩ := n
  refine ⟨o, ho, fun name => ?_⟩
  have e := hm name
  unfold nsFind findBy at e
  rw [← Array.find?_toList] at e
  unfold PySem.W.lookIn
  rw [hd]
  dsimp only
  split
  . rename_i y q
    rw [q] at e
    exact congrArg some e
  . rename_i q
    rw [q] at e
    have a : es.toList.any (·.refKey) = false := by
      rw [List.any_eq_false]
      intro y hy
      obtain ⟨z, t, hkey⟩ := hk y (Array.mem_toList_iff.mp hy)
      simp [DictEntry.refKey, hkey]
    have a' : ¬ es.toList.any (·.refKey) = true := by rw [a]; exact Bool.false_ne_true
    rw [if_neg a']
    exact congrArg some e
theorem ObjM.look {h : Heap} {x dx C : Addr} {mA : Str -> Option Value} (I : ObjM h x dx C mA) : ∃ od, PySem.W.InstAt h x (PySem.W.instObj C dx) C (some od) ∧ ∀ name, PySem.W.lookIn name od = some (mA name) :=
  let ⟨od, ho, hl⟩ := qS7 I.ns
  ⟨od, ⟨I.obj, rfl, rfl, ho⟩, hl⟩
section
variable {prog : Program} {w : World} {A : Around} {E : Value -> Shared -> Prop} {s : Shared} {K : PySem.W.Frag} {x dx C f : Addr} {mA : Str -> Option Value} {name : Str} {v : Value}
theorem get_map {expr : Bool} {Q : Value -> Shared -> Prop} (X : K.In s.heap) (I : ObjM s.heap x dx C mA) (hg : PySem.W.plainGet K C name = true) (hh : PySem.W.hasDictIn K C = true)
    (ha : PySem.W.findIn K (.ref C) name = some none) (hv : mA name = some v) (hv' : PySem.W.handedIn v = true) (h : Q v { s with toks := s.toks + 1 }) :
    wpAny (model prog w) A (getAttr (.ref x) name expr) Q E s := by
  obtain ⟨od, J, hl⟩ := I.look
  exact PySem.W.get_value X J (PySem.W.plainGet_of hg).1 (PySem.W.findObj_own hh ha rfl (by rw [hl, hv])) hv' h
theorem get_meth {pl : Sem Bool} {Q : Value × List Value -> Shared -> Prop} (X : K.In s.heap) (I : ObjM s.heap x dx C mA) (hg : PySem.W.plainGet K C name = true)
    (hf : PySem.W.findIn K (.ref C) name = some (some (.ref f))) (ht : PySem.W.isFn K (.ref f) = true) (hv : mA name = none) (h : Q (.ref f, [.ref x]) s) :
    wpAny (model prog w) A (getMethod (.ref x) name pl) Q E s := by
  obtain ⟨od, J, hl⟩ := I.look
  exact PySem.W.method_fn X J (PySem.W.plainGet_of hg).1 (PySem.W.plainGet_of hg).2 hf (beq_iff_eq.mp ht) (by show (PySem.W.lookIn name od).map (·.isSome) = some false; rw [hl, hv]; rfl) h
theorem set_map {ns : List Str} {Q : Unit -> Shared -> Prop} (X : K.In s.heap) (I : ObjM s.heap x dx C mA)
    (hs : PySem.W.findIn K (.ref C) "__setattr__" = some (some (.builtin "object.__setattr__"))) (hp : PySem.W.plainOver K C = true) (ht : PySem.W.takerIn K C name = some none) (hh : PySem.W.hasDictIn K C = true)
    (hw : PySem.Within mA ns) (hsz : ns.length ≤ sizeLine)
    (h : ∀ h', ObjM h' x dx C (fun y => if y = name then some v else mA y) -> Heap.SameBut dx s.heap h' -> Q () { s with heap := h', toks := s.toks + 2 }) :
    wpAny (model prog w) A (setAttr (.ref x) name v) Q E s := by
  obtain ⟨od, J, hl⟩ := I.look
  refine PySem.W.set_plain X J hs (PySem.W.osa_open (s := { s with toks := s.toks + 1 }) (r := none) X J hp ht fun b => ?_)
  obtain ⟨cd, hc, hd'⟩ := PySem.W.any_some hh
  have hx : s.heap.get? x = some ⟨.ref C, some dx, .plain, #[]⟩ := I.obj
  refine wpAny_bind (wpAny_pure (wpAny_bind (wpAny_bind (wpAny_loadPart hx (wpAny_bind (PySem.W.Looks.here (s := { s with toks := s.toks + 1 }) (PySem.W.looks_clsIn X hc) ?_))))))
  rw [hd']
  refine wpAny_pure (a := some dx) (wpAny_bind (wpAny_pure (wpAny_bind ?_)))
  refine wpAny_nsSet1 (s := { s with toks := s.toks + 1 }) I.ns fun h' hn2 hs2 => ?_
  obtain ⟨oD, esD, epD, hoD, hdD, hcD⟩ := hn2.count (PySem.Within.cons name v hw)
  refine wpAny_bind (wpAny_lookBehind hoD (by rw [hdD]; exact pastItsLine_dict (Nat.le_trans hcD (by rw [List.length_cons]; lia))) ?_)
  exact wpAny_pure (h _ ⟨(hs2.2 _ (Ne.symm I.ne)).trans I.obj, hn2, I.ne⟩ hs2)
theorem make_map {R : Result -> Shared -> Prop} {vs : List Value} {kw : List (Str × Value)} (X : K.In s.heap) (hm : PySem.W.makesIn K C = true)
    (hi : PySem.W.findIn K (.ref C) "__init__" = some (some (.ref f))) (hf : PySem.W.typeIn K (.ref f) = some (.type "function"))
    (h : codeAny (model prog w) (A.under (.builtin "type.__call__" ⟨.ref C :: vs, kw⟩)) (.call (.ref f) ⟨.ref (s.heap.objs.size + 1) :: vs, kw⟩) (PySem.W.InitBack (s.heap.objs.size + 1) R)
      { s with heap := (s.heap.push PySem.W.emptyDict).push (PySem.W.instObj C s.heap.objs.size) }) :
    codeAny (model prog w) A (.call (.ref C) ⟨vs, kw⟩) R s := by
  obtain ⟨hh, g, d, t, os⟩ := s
  exact PySem.W.make_core (PySem.W.makes_of X hm) (PySem.W.looks_findIn X hi) (fun self => PySem.W.bind_fn X self hf) (.inl rfl) h
end
def putF (f : Str) (v : V) : List (Str × V) -> List (Str × V)
  | [] => [(f, v)]
  | (g, x) :: r => if g = f then (g, v) :: r else (g, x) :: putF f v r
theorem qb2 (f g : Str) (v : V) : ∀ fs : List (Str × V), (putF f v fs).lookup g = if g = f then some v else fs.lookup g
  | [] => by
    show List.lookup g [(f, v)] = _
    by_cases h : g = f
    . have hb : (g == f) = true := beq_iff_eq.mpr h
      simp only [List.lookup, hb, if_pos h]
    . have hb : (g == f) = false := beq_eq_false_iff_ne.mpr h
      simp only [List.lookup, hb, if_neg h]
  | (k, x) :: r => by
    have ih := qb2 f g v r
    rw [show putF f v ((k, x) :: r) = (if k = f then (k, v) :: r else (k, x) :: putF f v r) from rfl]
    by_cases hk : k = f
    . rw [if_pos hk]
      by_cases h : g = k
      . have hb : (g == k) = true := beq_iff_eq.mpr h
        simp only [List.lookup, hb, if_pos (h.trans hk)]
      . have hb : (g == k) = false := beq_eq_false_iff_ne.mpr h
        simp only [List.lookup, hb, if_neg (fun e : g = f => h (e.trans hk.symm))]
    . rw [if_neg hk]
      by_cases h : g = k
      . have hb : (g == k) = true := beq_iff_eq.mpr h
        simp only [List.lookup, hb, if_neg (fun e : g = f => hk (h.symm.trans e))]
      . have hb : (g == k) = false := beq_eq_false_iff_ne.mpr h
        simp only [List.lookup, hb]
        exact ih
theorem qu0 (f : Str) (v : V) : ∀ fs : List (Str × V), f ∈ (putF f v fs).map (·.1) ∧ ∀ g, g ∈ fs.map (·.1) -> g ∈ (putF f v fs).map (·.1)
  | [] => ⟨by simp [putF], fun g h => by simp at h⟩
  | (k, x) :: r => by
    obtain ⟨i1, i2⟩ := qu0 f v r
    rw [show putF f v ((k, x) :: r) = (if k = f then (k, v) :: r else (k, x) :: putF f v r) from rfl]
    by_cases hk : k = f
    . rw [if_pos hk]
      subst hk
      exact ⟨by simp, fun g h => by simpa using h⟩
    . rw [if_neg hk]
      refine ⟨?_, fun g h => ?_⟩
      . rw [List.map_cons]
        exact List.mem_cons_of_mem _ i1
      . rw [List.map_cons] at h ⊢
        rcases List.mem_cons.mp h with e | e
        . exact List.mem_cons.mpr (.inl e)
        . exact List.mem_cons_of_mem _ (i2 g e)
theorem qu1 (f : Str) (v : V) : ∀ fs : List (Str × V), (putF f v fs).length ≤ fs.length + 1
  | [] => by simp [putF]
  | (k, x) :: r => by
    have ih := qu1 f v r
    rw [show putF f v ((k, x) :: r) = (if k = f then (k, v) :: r else (k, x) :: putF f v r) from rfl]
    by_cases hk : k = f
    . rw [if_pos hk, List.length_cons, List.length_cons]; lia
    . rw [if_neg hk, List.length_cons, List.length_cons]; lia
theorem RelO.some_of {v : V} {o : Option Value} (r : RelO (some v) o) : ∃ u, o = some u ∧ RelV v u := by
  cases o with
  | none => exact (show False from r).elim
  | some u => exact ⟨u, rfl, r⟩
theorem RelO.none_of {o : Option Value} (r : RelO none o) : o = none := by
  cases o with
  | none => rfl
  | some u => exact (show False from r).elim
theorem qS8 {v : V} {u : Value} (r : RelV v u) : PySem.W.handedIn u = true := by
  cases v with
  | non => cases (show u = Value.none from r); rfl
  | bl b => cases (show u = Value.bool b from r); rfl
  | int i => obtain ⟨t, e⟩ := (show ∃ t, u = Value.int i t from r); cases e; rfl
  | str x => obtain ⟨t, e⟩ := (show ∃ t, u = Value.str x t from r); cases e; rfl
  | byt b => obtain ⟨t, e⟩ := (show ∃ t, u = Value.bytes b t from r); cases e; rfl
  | flt b => obtain ⟨t, e⟩ := (show ∃ t, u = Value.float b t from r); cases e; rfl
  | ref a => cases (show u = Value.ref a from r); rfl
  | ty n => cases (show u = Value.type n from r); rfl
section
variable {P : Program} {w : World} {H H' : Hp} {h h' : Heap} {a C dx : Addr} {fs fs' : List (Str × V)}
theorem qy9 (hok : HOk P w H h) (e : H a = some (.ins C dx fs)) : ∃ mA, ObjM h a dx C mA ∧ (∀ f, RelO (fs.lookup f) (mA f)) ∧ PySem.Within mA (fs.map (·.1)) ∧ fs.length ≤ 1000 ∧ H dx = some (.own a) := by
  obtain ⟨d, z, ne, ob, mA, n, r, q⟩ := (show ObjOk P w H h a (.ins C dx fs) from hok a _ e)
  exact ⟨mA, ⟨ob, n, ne⟩, r, q, z, d⟩
end
structure Cls (K : PySem.W.Frag) (C : Addr) : Prop where
  pg : PySem.W.plainGet K C Str.empty = true
  hd : PySem.W.hasDictIn K C = true
  po : PySem.W.plainOver K C = true
  sa : PySem.W.findIn K (.ref C) "__setattr__" = some (some (.builtin "object.__setattr__"))
theorem Cls.get {K : PySem.W.Frag} {C : Addr} (c : Cls K C) (f : Str) : PySem.W.plainGet K C f = true := c.pg
def NoAttr (K : PySem.W.Frag) (C : Addr) (f : Str) : Prop := PySem.W.findIn K (.ref C) f = some none
theorem NoAttr.taker {K : PySem.W.Frag} {C : Addr} {f : Str} (n : NoAttr K C f) : PySem.W.takerIn K C f = some none := by
  unfold PySem.W.takerIn
  rw [show PySem.W.findIn K (.ref C) f = some none from n]
  rfl
structure Con (K : PySem.W.Frag) (C : Addr) (f : Str) (v : V) (u : Value) : Prop where
  at_ : PySem.W.findIn K (.ref C) f = some (some u)
  rel : RelV v u
  get : PySem.W.specialIn K u "__get__" = some none
  cp : PySem.W.copiedNames.contains f = false
structure Meth (K : PySem.W.Frag) (C : Addr) (m : Str) (f : Addr) : Prop where
  at_ : PySem.W.findIn K (.ref C) m = some (some (.ref f))
  fn : PySem.W.isFn K (.ref f) = true
  kp : PySem.W.keepIn K (.ref f) = true
section
variable {X : Cx} {pins : List (Addr × Obj)} {σ : St} {H : Hp} {s : Shared} {a C dx : Addr} {fs : List (Str × V)} {f : Str} {v : V} {A : Around} {E : Value -> Shared -> Prop}
theorem qO2 {b : Bool} {Q : Value -> Shared -> Prop} (I : Inv X pins σ H s) (e : H a = some (.ins C dx fs)) (c : Cls X.K C) (n : NoAttr X.K C f) (l : fs.lookup f = some v)
    (h : ∀ u s', Inv X pins σ H s' -> RelV v u -> Q u s') : wpAny (model X.prog X.w) A (getAttr (.ref a) f b) Q E s := by
  obtain ⟨mA, O, r, _, _, _⟩ := qy9 I.hok e
  obtain ⟨u, hu, ru⟩ := RelO.some_of (v := v) (o := mA f) (by rw [← l]; exact r f)
  exact get_map I.kIn O (c.get f) c.hd n hu (qS8 ru) (h u _ (I.tok _) ru)
theorem qO3 {m : Str} {g : Addr} {pl : Sem Bool} {Q : Value × List Value -> Shared -> Prop} (I : Inv X pins σ H s) (e : H a = some (.ins C dx fs)) (c : Cls X.K C) (k : Meth X.K C m g) (l : fs.lookup m = none)
    (h : Q (.ref g, [.ref a]) s) : wpAny (model X.prog X.w) A (getMethod (.ref a) m pl) Q E s := by
  obtain ⟨mA, O, r, _, _, _⟩ := qy9 I.hok e
  have hn : mA m = none := RelO.none_of (by rw [← l]; exact r m)
  exact get_meth I.kIn O (c.get m) k.at_ k.fn hn h
theorem qO4 {y : V} {u : Value} {Q : Unit -> Shared -> Prop} (I : Inv X pins σ H s) (e : H a = some (.ins C dx fs)) (c : Cls X.K C) (n : NoAttr X.K C f) (hl : fs.length < 1000) (ry : RelV y u)
    (h : ∀ s', Inv X pins σ (upd H a (.ins C dx (putF f y fs))) s' -> Q () s') : wpAny (model X.prog X.w) A (setAttr (.ref a) f u) Q E s := by
  obtain ⟨mA, O, r, wi, _, ho⟩ := qy9 I.hok e
  have hz : (fs.map (·.1)).length ≤ sizeLine := by rw [List.length_map, sizeLine_eq]; lia
  refine set_map I.kIn O c.sa c.po n.taker c.hd wi hz fun h' O' sb => h _ ?_
  have hd : ∃ o, h'.get? dx = some o := let ⟨o, _, _, e', _⟩ := O'.ns; ⟨o, e'⟩
  refine I.write (x := a) (e := dx) (by rw [e]; exact True.intro) (.inr ho) (fun b q hb z => (sb.2 b hb).trans z) hd ?_
  refine ⟨by rw [qa6 O.ne]; exact ho, ?_, O.ne, O'.obj, _, O'.ns, fun g => ?_, fun g hg => ?_⟩
  . have := qu1 f y fs; lia
  . show RelO ((putF f y fs).lookup g) (if g = f then some u else mA g)
    rw [qb2]
    by_cases q : g = f
    . rw [if_pos q, if_pos q]; exact ry
    . rw [if_neg q, if_neg q]; exact r g
  . by_cases q : g = f
    . rw [q]; exact (qu0 f y fs).1
    . refine (qu0 f y fs).2 g (wi g fun z => hg ?_)
      show (if g = f then some u else mA g) = none
      rw [if_neg q]; exact z
theorem Inv.made (I : Inv X pins σ H s) : Inv X pins σ (upd (upd H s.heap.objs.size (.own (s.heap.objs.size + 1))) (s.heap.objs.size + 1) (.ins C s.heap.objs.size []))
    { s with heap := (s.heap.push PySem.W.emptyDict).push (PySem.W.instObj C s.heap.objs.size) } := by
  have e1 : (s.heap.push PySem.W.emptyDict).get? s.heap.objs.size = some PySem.W.emptyDict := Heap.get?_push_size s.heap rfl
  have e2 : ((s.heap.push PySem.W.emptyDict).push (PySem.W.instObj C s.heap.objs.size)).get? (s.heap.objs.size + 1) = some (PySem.W.instObj C s.heap.objs.size) := by
    have := Heap.get?_push_size (s.heap.push PySem.W.emptyDict) (o := PySem.W.instObj C s.heap.objs.size) rfl
    rwa [Heap.size_push] at this
  have e3 : (s.heap.push PySem.W.emptyDict).Ns s.heap.objs.size (fun _ => none) := ⟨PySem.W.emptyDict, #[], _, e1, rfl, (fun e he => absurd he (by simp)), fun _ => rfl⟩
  have I1 := I.laid (a := s.heap.objs.size) (o := .own (s.heap.objs.size + 1)) (h' := s.heap.push PySem.W.emptyDict) (t' := s.toks) (fun b u q => Heap.get?_push_of_some _ q) (Nat.le_refl _) ⟨_, e1⟩
  refine I1.laid (a := s.heap.objs.size + 1) (o := .ins C s.heap.objs.size []) (t' := s.toks) (fun b u q => Heap.get?_push_of_some _ q) (Nat.le_of_eq (Heap.size_push _ _)) ?_
  have ne : s.heap.objs.size ≠ s.heap.objs.size + 1 := Nat.ne_of_lt (Nat.lt_succ_self _)
  refine ⟨by rw [qa6 ne, qa1], Nat.zero_le _, ne, e2, fun _ => none, (Heap.Ns1.of_empty e3).at fun o q => Heap.get?_push_of_some _ q, fun _ => True.intro, fun y hy => absurd rfl hy⟩
theorem attr_of {prog : Program} {w : World} {env : Env} {e : Expr} {f : Str} {pos : Pos} {s : Shared} {Q : Value -> Shared -> Prop} (hb : attributeBase e f env (eval e env) = eval e env)
    (h : wpAny (model prog w) A (eval e env) (fun o s₁ => wpAny (model prog w) A (getAttr o f true) Q E s₁) E s) : wpAny (model prog w) A (eval (.Attribute e f pos) env) Q E s :=
  Attribute_any_ h (by rw [arm_eval_Attribute, hb])
end
def tFld (K : PySem.W.Frag) (ta : TE) (f : Str) : TE := fun σ H Q => ta σ H fun x H1 => ∃ a C dx fs v, x = .ref a ∧ H1 a = some (.ins C dx fs) ∧ Cls K C ∧ NoAttr K C f ∧ fs.lookup f = some v ∧ Q v H1
def sFld (K : PySem.W.Frag) (ta tv : TE) (f : Str) : TS := fun D σ H => tv σ H fun y H1 => ta σ H1 fun x H2 => ∃ a C dx fs, x = .ref a ∧ H2 a = some (.ins C dx fs) ∧ Cls K C ∧ NoAttr K C f ∧ fs.length < 1000 ∧
  D.nx σ (upd H2 a (.ins C dx (putF f y fs)))
section
variable {X : Cx} {o e value : Expr} {f : Str} {pos pos' tpos : Pos} {ta tv : TE}
theorem qi3 (he : PE X e ta) (hb : attributeBase e f X.env (eval e X.env) = eval e X.env) : PE X (.Attribute e f pos) (tFld X.K ta f) := by
  intro pins s σ H Q I h
  refine attr_of hb (thn (he pins s σ H _ I h) fun u s1 ⟨x, H1, I1, rx, a, C, dx, fs, v, ex, ea, c, n, l, q⟩ => ?_)
  subst ex
  obtain rfl : u = Value.ref a := rx
  exact qO2 I1 ea c n l fun u' s2 I2 ru => ⟨v, H1, I2, ru, q⟩
theorem qx5 (ha : PE X o ta) (hv : PE X value tv) (hs : swapsWith value (some (.Attribute o f pos')) pos.line X.env = pure false) : PS X (.Assign [.Attribute o f pos'] value pos) (sFld X.K ta tv f) := by
  intro pins s σ H D I h
  refine plainObj_wpAny_Assign_Attribute (thn (hv pins s σ H _ I h) fun u s1 ⟨y, H1, I1, ry, q⟩ => thn (ha pins s1 σ H1 _ I1 q) fun ov s2 ⟨x, H2, I2, rx, a, C, dx, fs, ex, ea, c, n, l, q2⟩ => ?_) hs
  subst ex
  obtain rfl : ov = Value.ref a := rx
  exact qO4 I2 ea c n l ry fun s3 I3 => ⟨σ, _, I3, q2⟩
end
section
variable {X : Cx} {pins : List (Addr × Obj)} {σ : St} {H : Hp} {s : Shared} {A : Around} {E : Value -> Shared -> Prop} {Q : Value -> Shared -> Prop} {c : Value} {b : Bool}
inductive TyOf (K : PySem.W.Frag) (H : Hp) : V -> Value -> Prop where
  | non : TyOf K H .non (.type "NoneType")
  | bl (x : Bool) : TyOf K H (.bl x) (.type "bool")
  | int (i : Int) : TyOf K H (.int i) (.type "int")
  | str (x : Str) : TyOf K H (.str x) (.type "str")
  | flt (x : UInt64) : TyOf K H (.flt x) (.type "float")
  | lst {a : Addr} {xs : List V} (e : H a = some (.lst xs)) : TyOf K H (.ref a) (.type "list")
  | frz {a : Addr} {o : Obj} {xs : List V} (e : H a = some (.frz o (.lst xs))) : TyOf K H (.ref a) (.type "list")
  | tup {a : Addr} {xs : List V} (e : H a = some (.tup xs)) : TyOf K H (.ref a) (.type "tuple")
  | dK {a : Addr} {kvs : List (Key × V)} (e : H a = some (.dK kvs)) : TyOf K H (.ref a) (.type "dict")
  | dT {a : Addr} {kvs : List (List Key × V)} (e : H a = some (.dT kvs)) : TyOf K H (.ref a) (.type "dict")
  | ins {a C dx : Addr} {fs : List (Str × V)} (e : H a = some (.ins C dx fs)) (cl : Cls K C) (ha : PySem.W.findIn K (.ref C) "__class__" = some (some (.builtin "object.__class__")))
      (hn : PySem.W.specialIn K (.builtin "object.__class__") "__get__" = some (some (.builtin "getset_descriptor.__get__"))) (htk : PySem.W.takesIn K (.builtin "object.__class__") = some true)
      (hm : PySem.W.mroIn K C (.type "object") = some true) : TyOf K H (.ref a) (.ref C)
theorem qS9 {x : V} {u t : Value} (I : Inv X pins σ H s) (rx : RelV x u) (ty : TyOf X.K H x t) (e : PySem.W.kitOne X.K t c = some b) (h : ∀ tk, Q (.bool b) { s with toks := tk }) :
    wpAny (model X.prog X.w) A (call (.builtin "isinstance") [u, c]) Q E s := by
  cases ty with
  | non => cases (show u = Value.none from rx); exact PySem.W.kia_one PySem.W.kitx_none I.kIn True.intro e (fun z => nomatch z) h
  | bl y => cases (show u = Value.bool y from rx); exact PySem.W.kia_one PySem.W.kitx_bool I.kIn True.intro e (fun z => nomatch z) h
  | int i => obtain ⟨t, q⟩ := (show ∃ t, u = Value.int i t from rx); cases q; exact PySem.W.kia_one PySem.W.kitx_int I.kIn True.intro e (fun z => nomatch z) h
  | str y => obtain ⟨t, q⟩ := (show ∃ t, u = Value.str y t from rx); cases q; exact PySem.W.kia_one PySem.W.kitx_str I.kIn True.intro e (fun z => nomatch z) h
  | flt y => obtain ⟨t, q⟩ := (show ∃ t, u = Value.float y t from rx); cases q; exact PySem.W.kia_one PySem.W.kitx_float I.kIn True.intro e (fun z => nomatch z) h
  | @lst a xs ea =>
    cases (show u = Value.ref a from rx)
    obtain ⟨_, _, n, _, h1⟩ := (show ObjOk X.prog X.w H s.heap a (.lst xs) from I.hok a _ ea)
    exact PySem.W.kia_one PySem.W.kitx_list I.kIn ⟨_, h1, rfl⟩ e (fun z => nomatch z) h
  | @frz a ob xs ea =>
    cases (show u = Value.ref a from rx)
    obtain ⟨_, _, _, n, _, h1⟩ := (show ObjOk X.prog X.w H s.heap a (.frz ob (.lst xs)) from I.hok a _ ea)
    exact PySem.W.kia_one PySem.W.kitx_list I.kIn ⟨_, h1, rfl⟩ e (fun z => nomatch z) h
  | @tup a xs ea =>
    cases (show u = Value.ref a from rx)
    obtain ⟨_, _, _, p⟩ := (show ObjOk X.prog X.w H s.heap a (.tup xs) from I.hok a _ ea)
    obtain ⟨o, h1, h2, _⟩ := p
    exact PySem.W.kia_one PySem.W.kitx_tuple I.kIn ⟨o, h1, h2⟩ e (fun z => nomatch z) h
  | @dK a kvs ea =>
    cases (show u = Value.ref a from rx)
    obtain ⟨_, _, vs, _, p⟩ := (show ObjOk X.prog X.w H s.heap a (.dK kvs) from I.hok a _ ea)
    obtain ⟨o, es, ep, h1, h2, _⟩ := p
    exact PySem.W.kia_one PySem.W.kitx_dict I.kIn ⟨o, h1, h2.1⟩ e (fun z => nomatch z) h
  | @dT a kvs ea =>
    cases (show u = Value.ref a from rx)
    obtain ⟨_, _, xs, _, o, es, ep, h1, h2, _⟩ := (show ObjOk X.prog X.w H s.heap a (.dT kvs) from I.hok a _ ea)
    exact PySem.W.kia_one PySem.W.kitx_dict I.kIn ⟨o, h1, h2.1⟩ e (fun z => nomatch z) h
  | @ins a C dx fs ea cl ha hn htk hm =>
    cases (show u = Value.ref a from rx)
    obtain ⟨mA, O, _⟩ := qy9 I.hok ea
    obtain ⟨od, J, _⟩ := O.look
    exact PySem.W.kia_one (PySem.W.kitx_own (cl.get _) cl.hd ha hn htk hm) I.kIn J e (fun z => nomatch z) h
end
end L2
namespace L2
open PySem PySem.Spec PyProof.Rows
structure Room (k : Nat) (A : Around) : Prop where
  hd : A.handled = none
  dp : A.depth + 3 * k + 5 < recursionLimit
  un : A.units + 16 * k + 200 < cLine
  gd : A.guards = some []
theorem Room.mono {j k : Nat} {A : Around} (r : Room k A) (h : j ≤ k) : Room j A := ⟨r.hd, by have := r.dp; lia, by have := r.un; lia, r.gd⟩
theorem Room.deeper {k : Nat} {A : Around} (r : Room (k + 1) A) (env : Env) : Room k (A.deeper env) :=
  ⟨r.hd, by have := r.dp; show A.depth + 1 + 3 * k + 5 < _; lia, by have := r.un; show A.units + 3 + 16 * k + 200 < _; lia, r.gd⟩
theorem Room.in1 {k : Nat} {A : Around} (r : Room (k + 1) A) : Room k A.in1 :=
  ⟨r.hd, by have := r.dp; show A.depth + 3 * k + 5 < _; lia, by have := r.un; show A.units + 1 + 16 * k + 200 < _; lia, r.gd⟩
theorem qO5 {A : Around} {C : Addr} {us : List Value} {kw : List (Str × Value)} : (A.under (.builtin "type.__call__" ⟨.ref C :: us, kw⟩)).depth = A.depth + 1 := by
  first | rfl | simp [Around.under, Code.weight, Code.isCreation, Code.isGuard, Code.isCaller, Code.frames, Code.isFrame, guardIds]
theorem qO6 {A : Around} {C : Addr} {us : List Value} {kw : List (Str × Value)} : (A.under (.builtin "type.__call__" ⟨.ref C :: us, kw⟩)).units = A.units + 1 := by
  first | rfl | simp [Around.under, Code.cUnits, Code.frames, Code.isFrame]
theorem qI3 {A : Around} {C : Addr} {us : List Value} {kw : List (Str × Value)} : (A.under (.builtin "type.__call__" ⟨.ref C :: us, kw⟩)).guards = A.guards := by
  first | rfl | (unfold Around.under; simp [Code.guards, Code.isGuard, guardIds, pushGuards]) | (cases h : A.guards <;> simp [Around.under, Code.guards, Code.isGuard, guardIds, pushGuards, h])
theorem Room.make {k : Nat} {A : Around} (r : Room (k + 1) A) (C : Addr) (us : List Value) (kw : List (Str × Value)) : Room k (A.under (.builtin "type.__call__" ⟨.ref C :: us, kw⟩)) :=
  ⟨r.hd, by have := r.dp; rw [qO5]; lia, by have := r.un; rw [qO6]; lia, by rw [qI3]; exact r.gd⟩
theorem Room.depth {k : Nat} {A : Around} (r : Room k A) : A.depth < recursionLimit := by have := r.dp; lia
theorem Room.units {k : Nat} {A : Around} (r : Room k A) : A.units + 64 < cLine := by have := r.un; lia
def tNil : TA := fun _ H Q => Q [] H
def qj1 (ta : TE) (tr : TA) : TA := fun σ H Q => ta σ H fun x H1 => tr σ H1 fun xs H2 => Q (x :: xs) H2
section
variable {X : Cx} {e : Expr} {es : List Expr} {te : TE} {t : TA} {pos : Pos}
theorem qa3 : PA X [] tNil := fun _ _ _ _ H Q I h => Calls.spliced_nil ⟨[], H, I, .nil, h⟩
theorem qa0 (ha : PE X e te) (hr : PA X es t) (hs : starEach (e :: es) X.env = (false, eval e X.env) :: starEach es X.env := by rfl) : PA X (e :: es) (qj1 te t) := by
  intro pos pins s σ H Q I h
  rw [hs]
  show wpAny _ _ (spliced ((false, eval e X.env) :: backTo pos (starEach es X.env))) _ _ s
  refine Calls.spliced_cons (thn (ha pins s σ H _ I h) fun u s1 ⟨x, H1, I1, r1, q1⟩ => ?_)
  exact thn (hr pos pins s1 σ H1 _ I1 q1) fun us s2 ⟨xs, H2, I2, r2, q2⟩ => ⟨x :: xs, H2, I2, .cons r1 r2, q2⟩
def tTup (t : TA) : TE := fun σ H Q => t σ H fun xs H1 => xs.length ≤ sizeLine ∧ ∀ p, H1 p = none -> Q (.ref p) (upd H1 p (.tup xs))
def tLst (t : TA) : TE := fun σ H Q => t σ H fun xs H1 => xs.length ≤ sizeLine ∧ ∀ p, H1 p = none -> Q (.ref p) (upd H1 p (.lst xs))
theorem qg9 {x1} (h : PA X es t) : PE X (.Tuple es x1 pos) (tTup t) := by
  intro pins s σ H Q I hq
  refine wpAny_Tuple_spliced (thn (h pos pins s σ H _ I hq) fun us s1 ⟨xs, H1, I1, r, z, q⟩ => ⟨by rw [← r.length]; exact z, ?_⟩)
  have hf : H1 s1.heap.objs.size = none := I1.hok.fresh (Nat.le_refl _)
  refine ⟨.ref s1.heap.objs.size, upd H1 s1.heap.objs.size (.tup xs), I1.laid (t' := s1.toks) (fun b u e => Heap.get?_push_of_some _ e) (Nat.le_refl _) ?_, rfl, q _ hf⟩
  exact ⟨z, us, r, ⟨_, Heap.get?_push_size _ rfl, rfl, ⟨_, rfl⟩, rfl⟩⟩
theorem qn6 (h : PA X es t) : PE X (.List es pos) (tLst t) := by
  intro pins s σ H Q I hq
  refine wpAny_List_spliced (thn (h pos pins s σ H _ I hq) fun us s1 ⟨xs, H1, I1, r, z, q⟩ => ⟨by rw [← r.length]; exact z, ?_⟩)
  have hf : H1 s1.heap.objs.size = none := I1.hok.fresh (Nat.le_refl _)
  refine ⟨.ref s1.heap.objs.size, upd H1 s1.heap.objs.size (.lst xs), I1.laid (t' := s1.toks) (fun b u e => Heap.get?_push_of_some _ e) (Nat.le_refl _) ?_, rfl, q _ hf⟩
  exact ⟨z, us, 0, r, Heap.get?_push_size _ rfl⟩
end
abbrev Sp := List V -> Hp -> VK -> XK -> Prop
abbrev CXT := List Env -> Hp -> Shared -> XK -> Value -> Shared -> Prop
structure Env0 (P : Program) (w : World) (K : PySem.W.Frag) (mg : Str -> Option Value) (base : Heap) (A : Around) (outer : List Env) (s : Shared) (H : Hp) : Prop where
  frames : A.frames = some outer
  mod : Mod K mg base
  bs : ∀ b o, base.get? b = some o -> s.heap.get? b = some o ∧ H b = none
  bsz : base.objs.size ≤ s.heap.objs.size
  funs : s.heap.FunFrames base outer
  frf : ∀ b ∈ frs outer, H b = none
  hok : HOk P w H s.heap
  bare : AllBare s.gens
def CE (outer : List Env) (P : Program) (w : World) (H : Hp) (s : Shared) (Q : VK) (u : Value) (s' : Shared) : Prop :=
  ∃ v H', s'.os = s.os ∧ AllBare s'.gens ∧ Un (frs outer) [] H H' s.heap s'.heap ∧ HOk P w H' s'.heap ∧ RelV v u ∧ Q v H'
def CR (CX : CXT) (outer : List Env) (P : Program) (w : World) (H : Hp) (s : Shared) (Q : VK) (E : XK) (r : Result) (s' : Shared) : Prop :=
  match r with
  | .ok (.ret u) => CE outer P w H s Q u s'
  | .ok _ => False
  | .error e => CX outer H s E e s'
structure FnOk (P : Program) (w : World) (K : PySem.W.Frag) (mg : Str -> Option Value) (base : Heap) (CX : CXT) (k : Nat) (f : Addr) (fd : FuncData) (ps : List Str) (sp : Sp) : Prop where
  len : ∀ vs H Q E, sp vs H Q E -> vs.length = ps.length
  run : ∀ (A : Around) (outer : List Env) (s : Shared) (H : Hp) (args : Args) (us : List Value) (vs : List V) (Q : VK) (E : XK), Room k A -> Env0 P w K mg base A outer s H -> BindsTo s fd args (ps.zip us) -> Vals vs us -> sp vs H Q E ->
    codeAny (model P w) A (.call (.ref f) args) (CR CX outer P w H s Q E) s
theorem FnOk.mono {P : Program} {w : World} {K : PySem.W.Frag} {mg : Str -> Option Value} {base : Heap} {CX : CXT} {j k : Nat} {f : Addr} {fd : FuncData} {ps : List Str} {sp : Sp} (F : FnOk P w K mg base CX j f fd ps sp) (h : j ≤ k) :
    FnOk P w K mg base CX k f fd ps sp := ⟨F.len, fun A outer s H args us vs Q E hr => F.run A outer s H args us vs Q E (hr.mono h)⟩
theorem FnOk.imp {P : Program} {w : World} {K : PySem.W.Frag} {mg : Str -> Option Value} {base : Heap} {CX : CXT} {k : Nat} {f : Addr} {fd : FuncData} {ps : List Str} {sp sp' : Sp} (F : FnOk P w K mg base CX k f fd ps sp)
    (h : ∀ vs H Q E, sp' vs H Q E -> sp vs H Q E) : FnOk P w K mg base CX k f fd ps sp' :=
  ⟨fun vs H Q E q => F.len vs H Q E (h _ _ _ _ q), fun A outer s H args us vs Q E hr he hb hv hs => F.run A outer s H args us vs Q E hr he hb hv (h _ _ _ _ hs)⟩
theorem Env0.make {P : Program} {w : World} {K : PySem.W.Frag} {mg : Str -> Option Value} {base : Heap} {A : Around} {outer : List Env} {s : Shared} {H : Hp} (e : Env0 P w K mg base A outer s H) (C : Addr) (us : List Value) (kw : List (Str × Value)) :
    Env0 P w K mg base (A.under (.builtin "type.__call__" ⟨.ref C :: us, kw⟩)) outer s H := ⟨by first | exact e.frames | (simpa [Around.under, Code.envs, Code.isFrame, pushEnvs] using e.frames), e.mod, e.bs, e.bsz, e.funs, e.frf, e.hok, e.bare⟩
theorem Env0.in1 {P : Program} {w : World} {K : PySem.W.Frag} {mg : Str -> Option Value} {base : Heap} {A : Around} {outer : List Env} {s : Shared} {H : Hp} (e : Env0 P w K mg base A outer s H) :
    Env0 P w K mg base A.in1 outer s H := ⟨e.frames, e.mod, e.bs, e.bsz, e.funs, e.frf, e.hok, e.bare⟩
section
variable {X : Cx} {pins : List (Addr × Obj)} {σ : St} {H : Hp} {s s' : Shared}
theorem Inv.env0 (I : Inv X pins σ H s) : Env0 X.prog X.w X.K X.mg X.base X.A X.stack s H :=
  ⟨I.ok.frames, I.ok.mod, I.bs, Nat.le_trans I.ok.bsz I.sz, I.stack, I.stkFree, I.hok, I.bare⟩
theorem Inv.after {Q : VK} {u : Value} (I : Inv X pins σ H s) (h : CE X.stack X.prog X.w H s Q u s') : EP X pins σ Q u s' := by
  obtain ⟨v, H', os, bare, un, hok, r, q⟩ := h
  obtain ⟨hh, g, d, t, os'⟩ := s'
  obtain rfl : os' = s.os := os
  exact ⟨v, H', I.call (h' := hh) (g' := g) (d' := d) (t' := t) (ch := []) un hok bare (fun b z => absurd z (by simp)), r, q⟩
end
def tCall (sp : Sp) (dvs : List V) (E : XK) (t : TA) : TE := fun σ H Q => t σ H fun vs H1 => sp (vs ++ dvs) H1 Q E
def tMeth (C : Addr) (m : Str) (sp : Sp) (dvs : List V) (E : XK) (ta : TE) (t : TA) : TE := fun σ H Q => ta σ H fun x H1 => ∃ a dx fs, x = .ref a ∧ H1 a = some (.ins C dx fs) ∧ fs.lookup m = none ∧
  t σ H1 fun vs H2 => sp (x :: (vs ++ dvs)) H2 Q E
def tMake (C : Addr) (sp : Sp) (dvs : List V) (E : XK) (t : TA) : TE := fun σ H Q => t σ H fun vs H1 => ∀ x dx, H1 x = none -> H1 dx = none -> dx ≠ x ->
  sp (.ref x :: (vs ++ dvs)) (upd (upd H1 dx (.own x)) x (.ins C dx [])) (fun v H2 => v = .non ∧ Q (.ref x) H2) E
def Binds (K : PySem.W.Frag) (fd : FuncData) (ps : List Str) (ds : List Value) : Prop :=
  ∀ (s : Shared) (us : List Value), K.In s.heap -> (us ++ ds).length = ps.length -> BindsTo s fd ⟨us, []⟩ (ps.zip (us ++ ds))
theorem Binds.all {K : PySem.W.Frag} {fd : FuncData} {ps : List Str} (h : ∀ us : List Value, us.length = ps.length -> bindArgs fd ⟨us, []⟩ = pure (ps.zip us)) : Binds K fd ps [] := fun s us _ hl => by
  rw [List.append_nil] at hl ⊢
  exact .of_eq (h us hl)
def qu2 (CX : CXT) (X : Cx) (E : XK) : Prop := ∀ (pins : List (Addr × Obj)) (σ : St) (H : Hp) (s : Shared) (e : Value) (s' : Shared), Inv X pins σ H s -> CX X.stack H s E e s' -> X.xe e s'
section
variable {X : Cx} {CX : CXT} {k : Nat} {f C : Addr} {fd : FuncData} {ps : List Str} {sp : Sp} {dvs : List V} {ds : List Value} {E : XK} {x m : Str} {p pos apos : Pos} {e o : Expr} {es : List Expr} {ta : TE} {t : TA}
theorem run_fn {pins : List (Addr × Obj)} {σ : St} {H : Hp} {s : Shared} {Q : VK} {us : List Value} {vs : List V} (F : FnOk X.prog X.w X.K X.mg X.base CX k f fd ps sp) (hr : Room k X.A) (hb : Binds X.K fd ps ds) (hd : Vals dvs ds) (hx : qu2 CX X E)
    (I : Inv X pins σ H s) (r : Vals vs us) (h : sp (vs ++ dvs) H Q E) : wpAny (model X.prog X.w) X.A (call (.ref f) us) (EP X pins σ Q) X.xe s := by
  have r2 : Vals (vs ++ dvs) (us ++ ds) := r.append hd
  have hl : (us ++ ds).length = ps.length := by rw [← r2.length]; exact F.len _ _ _ _ h
  refine wpAny_call (codeAny_mono (F.run X.A X.stack s H ⟨us, []⟩ (us ++ ds) (vs ++ dvs) Q E hr I.env0 (hb s us I.kIn hl) r2 h) fun r s' hq => ?_)
  cases r with
  | error e => exact hx pins σ H s e s' I hq
  | ok fl =>
    cases fl with
    | ret u => exact I.after hq
    | next => exact False.elim hq
    | brk => exact False.elim hq
    | cont => exact False.elim hq
theorem qa8 (F : FnOk X.prog X.w X.K X.mg X.base CX k f fd ps sp) (hr : Room k X.A) (hg : Gl X x) (hm : X.mg x = some (.ref f)) (hk : PySem.W.keepIn X.K (.ref f) = true) (hb : Binds X.K fd ps ds) (hd : Vals dvs ds) (hx : qu2 CX X E)
    (ha : PA X (e :: es) t) (hdb : (x == ("__debug__" : Str)) = false := by decide) (he : starEach (e :: es) X.env = (false, eval e X.env) :: starEach es X.env := by rfl) (hpl : (backTo pos (starEach es X.env)).any (·.1) = false := by rfl) :
    PE X (.Call (.Name x p) (e :: es) [] pos) (tCall sp dvs E t) := by
  intro pins s σ H Q I h
  refine wpAny_Call_Name_kw (qy8 I hg hm ?_ hdb)
  refine PySem.W.callWith_K (h₀ := X.base) I.ok.mod.kin hk (thn (ha pos pins s σ H _ I h) fun us s1 ⟨vs, H1, I1, r, q⟩ => ⟨I1.kIn, ?_⟩) he hpl
  exact run_fn F hr hb hd hx I1 r q
theorem qI4 {pl : Sem Bool} (he : PE X o ta) (c : Cls X.K C) (hm : Meth X.K C m f) (F : FnOk X.prog X.w X.K X.mg X.base CX k f fd ps sp) (hr : Room k X.A) (hb : Binds X.K fd ps ds) (hd : Vals dvs ds) (hx : qu2 CX X E) (ha : PA X (e :: es) t)
    (hst : starEach (e :: es) X.env = (false, eval e X.env) :: starEach es X.env := by rfl) (hpl : (backTo pos (starEach es X.env)).any (·.1) = false := by rfl)
    (ht : eval (.Call (.Attribute o m apos) (e :: es) [] pos) X.env = (do
      let ov ← eval o X.env
      standAt apos.atName
      let (f, first) ← holding [ov] (getMethod ov m pl)
      callWith pos f first (backTo pos (starEach (e :: es) X.env)) (backToKw pos (keywordEach [] X.env))) := by rfl) :
    PE X (.Call (.Attribute o m apos) (e :: es) [] pos) (tMeth C m sp dvs E ta t) := by
  intro pins s σ H Q I h
  refine PySem.W.methodCall_KW (pl := pl) (thn (he pins s σ H _ I h) fun u s1 ⟨x, H1, I1, rx, a, dx, fs, ex, ea, l, q⟩ => ?_) ht
  subst ex
  obtain rfl : u = Value.ref a := rx
  refine qO3 I1 ea c hm l ?_
  refine PySem.W.callWith_K (first := [.ref a]) (h₀ := X.base) I.ok.mod.kin hm.kp (thn (ha pos pins s1 σ H1 _ I1 q) fun us s2 ⟨vs, H2, I2, r, q2⟩ => ⟨I2.kIn, ?_⟩) hst hpl
  exact run_fn (us := .ref a :: us) (vs := .ref a :: vs) F hr hb hd hx I2 (.cons rfl r) q2
structure Mk (K : PySem.W.Frag) (C f : Addr) : Prop where
  makes : PySem.W.makesIn K C = true
  init : PySem.W.findIn K (.ref C) "__init__" = some (some (.ref f))
  fn : PySem.W.isFn K (.ref f) = true
  kp : PySem.W.keepIn K (.ref C) = true
theorem qK5 {pins : List (Addr × Obj)} {σ : St} {H : Hp} {s : Shared} {Q : VK} {us : List Value} {vs : List V} (M : Mk X.K C f) (F : FnOk X.prog X.w X.K X.mg X.base CX k f fd ps sp) (hr : Room (k + 1) X.A) (hb : Binds X.K fd ps ds) (hd : Vals dvs ds)
    (hx : qu2 CX X E) (I : Inv X pins σ H s) (r : Vals vs us)
    (h : ∀ x dx, H x = none -> H dx = none -> dx ≠ x -> sp (.ref x :: (vs ++ dvs)) (upd (upd H dx (.own x)) x (.ins C dx [])) (fun v H2 => v = .non ∧ Q (.ref x) H2) E) :
    wpAny (model X.prog X.w) X.A (call (.ref C) us) (EP X pins σ Q) X.xe s := by
  have hq := h (s.heap.objs.size + 1) s.heap.objs.size (I.hok.fresh (Nat.le_succ _)) (I.hok.fresh (Nat.le_refl _)) (Nat.ne_of_lt (Nat.lt_succ_self _))
  have I2 := Inv.made (C := C) I
  have r2 : Vals (V.ref (s.heap.objs.size + 1) :: (vs ++ dvs)) (Value.ref (s.heap.objs.size + 1) :: (us ++ ds)) := .cons rfl (r.append hd)
  have hl : (Value.ref (s.heap.objs.size + 1) :: us ++ ds).length = ps.length := by
    have e := r2.length
    rw [F.len _ _ _ _ hq] at e
    exact e.symm
  refine wpAny_call (make_map (f := f) I.kIn M.makes M.init (beq_iff_eq.mp M.fn) (codeAny_mono (F.run _ X.stack _ _ ⟨Value.ref (s.heap.objs.size + 1) :: us, []⟩ (Value.ref (s.heap.objs.size + 1) :: (us ++ ds)) _ _ E (hr.make C us [])
    (I2.env0.make C us []) (hb _ (Value.ref (s.heap.objs.size + 1) :: us) I2.kIn hl) r2 hq) fun r s' hq' => ?_))
  cases r with
  | error e => exact hx pins σ _ _ e s' I2 hq'
  | ok fl =>
    cases fl with
    | ret u =>
      obtain ⟨v, H', I3, rv, ev, q3⟩ := I2.after hq'
      subst ev
      exact ⟨rv, ⟨V.ref (s.heap.objs.size + 1), H', I3, rfl, q3⟩⟩
    | next => exact False.elim hq'
    | brk => exact False.elim hq'
    | cont => exact False.elim hq'
theorem pe_make (M : Mk X.K C f) (F : FnOk X.prog X.w X.K X.mg X.base CX k f fd ps sp) (hr : Room (k + 1) X.A) (hg : Gl X x) (hm : X.mg x = some (.ref C)) (hb : Binds X.K fd ps ds) (hd : Vals dvs ds) (hx : qu2 CX X E)
    (ha : PA X (e :: es) t) (hdb : (x == ("__debug__" : Str)) = false := by decide) (he : starEach (e :: es) X.env = (false, eval e X.env) :: starEach es X.env := by rfl) (hpl : (backTo pos (starEach es X.env)).any (·.1) = false := by rfl) :
    PE X (.Call (.Name x p) (e :: es) [] pos) (tMake C sp dvs E t) := by
  intro pins s σ H Q I h
  refine wpAny_Call_Name_kw (qy8 I hg hm ?_ hdb)
  refine PySem.W.callWith_K (h₀ := X.base) I.ok.mod.kin M.kp (thn (ha pos pins s σ H _ I h) fun us s1 ⟨vs, H1, I1, r, q⟩ => ⟨I1.kIn, ?_⟩) he hpl
  exact qK5 M F hr hb hd hx I1 r q
theorem pe_make0 (M : Mk X.K C f) (F : FnOk X.prog X.w X.K X.mg X.base CX k f fd ps sp) (hr : Room (k + 1) X.A) (hg : Gl X x) (hm : X.mg x = some (.ref C)) (hb : Binds X.K fd ps ds) (hd : Vals dvs ds) (hx : qu2 CX X E)
    (hdb : (x == ("__debug__" : Str)) = false := by decide) : PE X (.Call (.Name x p) [] [] pos) (tMake C sp dvs E tNil) := by
  intro pins s σ H Q I h
  refine wpAny_Call_Name_kw (qy8 I hg hm ?_ hdb)
  exact PySem.W.callWith_K0 I.kIn M.kp (qK5 (us := []) M F hr hb hd hx I .nil h)
end
section
variable {X : Cx} {CX : CXT} {k : Nat} {f C : Addr} {fd : FuncData} {ps ks : List Str} {sp : Sp} {E : XK} {x m : Str} {p pos apos kpos : Pos} {e o : Expr} {es : List Expr} {kws : List Keyword} {te ta : TE} {t tk : TA} {nm : Option Str}
structure KBinds (K : PySem.W.Frag) (fd : FuncData) (ps ks : List Str) (g : List Value -> List Value -> List Value) (gV : List V -> List V -> List V) : Prop where
  to : ∀ (s : Shared) (us ws : List Value), K.In s.heap -> (g us ws).length = ps.length -> BindsTo s fd ⟨us, ks.zip ws⟩ (ps.zip (g us ws))
  rel : ∀ {vs : List V} {us : List Value} {zs : List V} {ws : List Value}, Vals vs us -> Vals zs ws -> Vals (gV vs zs) (g us ws)
variable {g : List Value -> List Value -> List Value} {gV : List V -> List V -> List V}
end
structure FnScope (N P : List Str) (sc : Scope) : Prop where
  kind : sc.kind = .function
  co : sc.isCoroutine = false
  gen : sc.isGenerator = false
  nd : N.Nodup
  pre : N.take P.length = P
  par : ∀ x ∈ P, sc.names.lookup x = some .local ∨ sc.names.lookup x = some .cell
  nofree : ∀ y ∈ sc.names, y.2 ≠ .free
theorem qC1 {kindOf : Str -> Option NameKind} {x : Str} : ∀ {binds : List (Str × Value)} {m : Str -> Option Value}, (∀ v, (x, v) ∉ binds) -> bindL kindOf binds m x = m x
  | [], _, _ => rfl
  | (n, v) :: r, m, h => by
    unfold bindL
    rw [qC1 fun w hw => h w (List.mem_cons_of_mem _ hw)]
    split
    . have : x ≠ n := by rintro rfl; exact h v List.mem_cons_self
      simp [this]
    . rfl
theorem qC2 {kindOf : Str -> Option NameKind} {x : Str} : ∀ {binds : List (Str × Value)} {m : Str -> Option Value}, (∀ v, (x, v) ∉ binds) -> bindC kindOf binds m x = m x
  | [], _, _ => rfl
  | (n, v) :: r, m, h => by
    unfold bindC
    rw [qC2 fun w hw => h w (List.mem_cons_of_mem _ hw)]
    split
    . rfl
    . have : x ≠ n := by rintro rfl; exact h v List.mem_cons_self
      simp [this]
theorem qC3 {kindOf : Str -> Option NameKind} {x : Str} {v : Value} : ∀ {P : List Str} {vs : List Value} {i : Nat} {m : Str -> Option Value}, P.Nodup -> P[i]? = some x -> vs[i]? = some v -> kindOf x = some .local ->
    bindL kindOf (P.zip vs) m x = some v
  | [], _, _, _, _, h, _, _ => by simp at h
  | _ :: _, [], _, _, _, _, h, _ => by simp at h
  | p :: P, w :: vs, 0, m, nd, h1, h2, hk => by
    simp at h1 h2; subst h1; subst h2
    show bindL kindOf ((p, w) :: P.zip vs) m p = _
    unfold bindL
    rw [qC1 fun v hv => (List.nodup_cons.mp nd).1 (List.of_mem_zip hv).1, if_pos hk]
    simp
  | p :: P, w :: vs, i + 1, m, nd, h1, h2, hk => by
    show bindL kindOf ((p, w) :: P.zip vs) m x = _
    unfold bindL
    exact qC3 (i := i) (List.nodup_cons.mp nd).2 (by simpa using h1) (by simpa using h2) hk
theorem qC4 {kindOf : Str -> Option NameKind} {x : Str} {v : Value} : ∀ {P : List Str} {vs : List Value} {i : Nat} {m : Str -> Option Value}, P.Nodup -> P[i]? = some x -> vs[i]? = some v -> kindOf x ≠ some .local ->
    bindC kindOf (P.zip vs) m x = some v
  | [], _, _, _, _, h, _, _ => by simp at h
  | _ :: _, [], _, _, _, _, h, _ => by simp at h
  | p :: P, w :: vs, 0, m, nd, h1, h2, hk => by
    simp at h1 h2; subst h1; subst h2
    show bindC kindOf ((p, w) :: P.zip vs) m p = _
    unfold bindC
    rw [qC2 fun v hv => (List.nodup_cons.mp nd).1 (List.of_mem_zip hv).1, if_neg hk]
    simp
  | p :: P, w :: vs, i + 1, m, nd, h1, h2, hk => by
    show bindC kindOf ((p, w) :: P.zip vs) m x = _
    unfold bindC
    exact qC4 (i := i) (List.nodup_cons.mp nd).2 (by simpa using h1) (by simpa using h2) hk
def start (N : List Str) (vs : List V) : St := vs.map some ++ List.replicate (N.length - vs.length) none
def cxOf (CX : CXT) (P : Program) (w : World) (K : PySem.W.Frag) (mg : Str -> Option Value) (base : Heap) (N : List Str) (qual : Str) (scope : Scope) (f : Addr) (cd : Value) (A : Around) (outer : List Env) (s : Shared) (H : Hp) (E : XK) : Cx where
  prog := P
  w := w
  K := K
  mg := mg
  base := base
  A := A.deeper (envOfC qual scope s.heap.objs.size f cd)
  N := N
  s₀ := s
  H₀ := H
  env := envOfC qual scope s.heap.objs.size f cd
  outer := outer
  stack := envOfC qual scope s.heap.objs.size f cd :: outer
  ex := []
  calm := true
  fn := fun _ => true
  pn := []
  xe := fun e s' => wpAny (model P w) (A.deeper (envOfC qual scope s.heap.objs.size f cd)) (leaving (envOfC qual scope s.heap.objs.size f cd) e) (fun _ s'' => CX outer H s E e s'') (fun e' s'' => CX outer H s E e' s'') s'
theorem cell_has {sc : Scope} {n : Nat} {x : Str} (h : sc.names.lookup x = some .cell) : ∃ c, (cellsFrom n sc.names []).lookup x = some c := by
  have q := PySem.W.cellsFrom_some sc.names n [] (.inl h)
  exact Option.isSome_iff_exists.mp q
theorem qT0 {CX : CXT} {P : Program} {w : World} {K : PySem.W.Frag} {mg : Str -> Option Value} {base : Heap} {N ps : List Str} {qual : Str} {scope : Scope} {f : Addr} {cd : Value} {A : Around} {outer : List Env} {s s1 : Shared} {H : Hp} {E : XK} {us : List Value} {vs : List V}
    (S : FnScope N ps scope) (hd : A.handled = none) (e0 : Env0 P w K mg base A outer s H) (hl : vs.length = ps.length) (r : Vals vs us)
    (x : InCallC s s.heap.objs.size (bindL (envOfC qual scope s.heap.objs.size f cd).kindOf (ps.zip us) fun _ => none) (cellsFrom (s.heap.objs.size + 1) scope.names []) (bindC (envOfC qual scope s.heap.objs.size f cd).kindOf (ps.zip us) fun _ => none) s1) :
    Inv (cxOf CX P w K mg base N qual scope f cd A outer s H E) [] (start N vs) H s1 := by
  have hpl : ps.length ≤ N.length := by have := congrArg List.length S.pre; rw [List.length_take] at this; lia
  obtain ⟨h1, tk, rfl, hk⟩ := x.done
  have noA : ∀ b : Addr, b ∉ (cxOf CX P w K mg base N qual scope f cd A outer s H E).ex := fun b z => absurd (show b ∈ ([] : List Addr) from z) (by simp)
  refine ⟨⟨e0.mod, S.kind, rfl, rfl, Nat.le_refl _, fun y z c h1 h2 => ?_, fun y hy => ?_, fun y c _ h => ?_, fun _ => hd, Around.frames_deeper e0.frames, .inr ⟨rfl, rfl⟩, fun b z => absurd z (noA b), e0.bs, e0.bsz, fun b _ _ => noA b, fun b z => absurd z (noA b), e0.funs, e0.frf⟩,
    rfl, e0.bare, Un.kept hk, ⟨_, x.toInCall.ns, fun i y v h1 h2 h3 => ?_⟩, fun y c h => ⟨_, x.cell y c h⟩, e0.hok.fresh (Nat.le_refl _), fun y c h => ?_, fun p hp => absurd (show p ∈ ([] : List (Addr × Obj)) from hp) (by simp), e0.hok.kept hk, ?_⟩
  . exact name_of_addr x.apart (PySem.mem_of_lookup h1) (PySem.mem_of_lookup h2)
  . have hy : scope.names.lookup y = some .cell ∨ scope.names.lookup y = some .free := hy
    rcases hy with hy | hy
    . exact cell_has hy
    . exact absurd rfl (S.nofree _ (PySem.mem_of_lookup hy))
  . exact Nat.le_of_lt (x.above y c (PySem.mem_of_lookup h))
  . have hi : i < vs.length := by
      unfold start at h2
      by_cases hi : i < vs.length
      . exact hi
      . rw [List.getElem?_append_right (by simpa using hi)] at h2
        rw [List.getElem?_replicate] at h2
        split at h2 <;> cases h2
    have ha : vs[i]? = some v := by
      unfold start at h2
      rw [List.getElem?_append_left (by simpa using hi), List.getElem?_map] at h2
      cases e : vs[i]? with
      | none => rw [e] at h2; cases h2
      | some a => rw [e] at h2; cases h2; rfl
    obtain ⟨u, hu, rv⟩ := r.get ha
    have hp : ps[i]? = some y := by
      rw [← S.pre, List.getElem?_take_of_lt (by lia)]; exact h1
    have ndP : ps.Nodup := by rw [← S.pre]; exact S.nd.sublist (List.take_sublist _ _)
    refine ⟨u, rv, ?_⟩
    rcases S.par y (List.mem_of_getElem? hp) with k | k
    . exact .inl ⟨k, qC3 ndP hp hu k⟩
    . obtain ⟨c, e⟩ := cell_has (n := s.heap.objs.size + 1) k
      refine .inr ⟨.inl k, c, e, ?_⟩
      have q := x.cell y c e
      rw [qC4 ndP hp hu (by show scope.names.lookup y ≠ _; rw [k]; decide)] at q
      exact q
  . exact e0.hok.fresh (Nat.le_of_lt (x.above y c (PySem.mem_of_lookup h)))
  . unfold start
    show _ = N.length
    rw [List.length_append, List.length_map, List.length_replicate]
    lia
theorem fn_of {CX : CXT} {P : Program} {w : World} {K : PySem.W.Frag} {mg : Str -> Option Value} {base : Heap} {k : Nat} {f : Addr} {name qual : Str} {params : Arguments} {body : List Stmt} {scope : Scope} {dV kV doc pm cdv ct oc : Value} {an od : Option Addr}
    {osl : Array (Option Value)} {N ps : List Str} {sp : Sp} (lk : K.lookup f = some ⟨oc, od, .func (PySem.W.fnOf name qual params body scope dV kV doc pm an cdv ct), osl⟩) (hcd : PySem.W.codeIn K cdv qual = true) (S : FnScope N ps scope)
    (len : ∀ vs H Q E, sp vs H Q E -> vs.length = ps.length)
    (hbody : ∀ (A : Around) (outer : List Env) (s : Shared) (H : Hp) (vs : List V) (Q : VK) (E : XK), Room k (A.deeper (envOfC qual scope s.heap.objs.size f cdv)) -> sp vs H Q E ->
      ∃ t, PSs (cxOf CX P w K mg base N qual scope f cdv A outer s H E) body t ∧ t { nx := fun _ H' => Q .non H', rt := Q } (start N vs) H) :
    FnOk P w K mg base CX (k + 1) f (PySem.W.fnOf name qual params body scope dV kV doc pm an cdv ct) ps sp := by
  refine ⟨len, fun A outer s H args us vs Q E hr e0 hb r hsp => ?_⟩
  have hl := len _ _ _ _ hsp
  have KX : K.In s.heap := e0.mod.kin.keeps fun b o e => (e0.bs b o e).1
  have lim : s.heap.NoLimit := e0.mod.nolimit.keeps fun b o e => (e0.bs b o e).1
  have hkind : ∀ y ∈ ps.zip us, scope.names.lookup y.1 = some .local ∨ (scope.names.lookup y.1 = some .cell ∧ ((cellsFrom (s.heap.objs.size + 1) scope.names []).lookup y.1).isSome = true) := fun ⟨n, v⟩ hy => by
    rcases S.par n (List.of_mem_zip hy).1 with q | q
    . exact .inl q
    . exact .inr ⟨q, PySem.W.cellsFrom_some _ _ _ (.inl q)⟩
  refine codeAny_call_function hr.depth (KX _ _ lk) rfl S.co S.gen rfl (PySem.W.codeRec_of KX hcd) (hb _ _ _ _ ?_)
  refine wpAny_newFunctionEnv_cells S.kind hkind fun env he s1 x => ?_
  subst he
  refine ⟨lim.keeps x.toInCall.keep, codeAny_func ?_⟩
  obtain ⟨t, ht, hq⟩ := hbody A outer s H vs Q E (hr.deeper _) hsp
  have I : Inv (cxOf CX P w K mg base N qual scope f cdv A outer s H E) [] (start N vs) H s1 := qT0 S hr.hd e0 hl r x
  refine wpAny_mono (ht [] s1 (start N vs) H _ I hq) (fun fl s' hs => ?_) fun e s' hs => hs
  have fin : ∀ {σ' : St} {H' : Hp} {v : V} {u : Value}, Inv (cxOf CX P w K mg base N qual scope f cdv A outer s H E) [] σ' H' s' -> RelV v u -> Q v H' -> CE outer P w H s Q u s' :=
    fun {σ' H' v u} J rv q => ⟨v, H', J.os, J.bare, J.base, J.hok, rv, q⟩
  cases fl with
  | ret u =>
    obtain ⟨v, σ', H', J, rv, q⟩ := hs
    exact fin J rv q
  | next =>
    obtain ⟨σ', H', J, q⟩ := hs
    exact fin (v := V.non) (u := Value.none) J rfl q
  | brk =>
    obtain ⟨_, _, _, q⟩ := hs
    exact False.elim q
  | cont =>
    obtain ⟨_, _, _, q⟩ := hs
    exact False.elim q
end L2
namespace L2
open PySem PySem.Spec PyProof.Rows
section
variable {X : Cx} {x : Str} {p pos : Pos} {e : Expr} {es : List Expr} {t : TA} {id T : String} {r : List V -> Hp -> VK -> Prop}
def tCB (r : List V -> Hp -> VK -> Prop) (t : TA) : TE := fun σ H Q => t σ H fun vs H1 => r vs H1 Q
theorem qa9 (hc : CallR X (.builtin id) r) (hg : Gl X x) (hm : X.mg x = none) (hv : bootBuiltins x = some (.builtin id)) (ha : PA X (e :: es) t) (hn : x ≠ "__name__" := by decide) (hdb : (x == ("__debug__" : Str)) = false := by decide)
    (he : starEach (e :: es) X.env = (false, eval e X.env) :: starEach es X.env := by rfl) (hpl : (backTo pos (starEach es X.env)).any (·.1) = false := by rfl) : PE X (.Call (.Name x p) (e :: es) [] pos) (tCB r t) := by
  intro pins s σ H Q I h
  refine wpAny_Call_Name_kw (qx2 I hg hm hv ?_ hn hdb)
  exact PyProof.Rows.callWith_builtin1 (thn (ha pos pins s σ H _ I h) fun us s1 ⟨vs, H1, I1, r1, q1⟩ => hc pins s1 σ H1 vs us Q I1 r1 q1) he hpl
theorem qc9 (hc : CallR X (.type T) r) (hg : Gl X x) (hm : X.mg x = none) (hv : bootBuiltins x = some (.type T)) (ha : PA X (e :: es) t) (hn : x ≠ "__name__" := by decide) (hdb : (x == ("__debug__" : Str)) = false := by decide)
    (he : starEach (e :: es) X.env = (false, eval e X.env) :: starEach es X.env := by rfl) (hpl : (backTo pos (starEach es X.env)).any (·.1) = false := by rfl) : PE X (.Call (.Name x p) (e :: es) [] pos) (tCB r t) := by
  intro pins s σ H Q I h
  refine wpAny_Call_Name_kw (qx2 I hg hm hv ?_ hn hdb)
  exact PyProof.Rows.callWith_type1 (thn (ha pos pins s σ H _ I h) fun us s1 ⟨vs, H1, I1, r1, q1⟩ => hc pins s1 σ H1 vs us Q I1 r1 q1) he hpl
end
end L2
namespace HT
open PySem PyProof.Rows
section
open PySem.SeqAt
open PySem.AutoSeq1 (wpAny_loadPart')
open PySem.MeetsSeq PySem.MeetsSeq2 PySem.MeetsSeq3
end
section
variable {prog : Program} {w : World} {A : Around} {E : Value -> Shared -> Prop} {s : Shared}
def sIx (n d : Nat) : Option Int -> Nat
  | none => d
  | some v => if v < 0 then (v + (n : Int)).toNat else min v.toNat n
theorem sIx_le (n d : Nat) (hd : d ≤ n) (o : Option Int) : sIx n d o ≤ n := by
  cases o with
  | none => exact hd
  | some v =>
    show (if v < 0 then (v + (n : Int)).toNat else min v.toNat n) ≤ n
    by_cases hv : v < 0
    . rw [if_pos hv]; lia
    . rw [if_neg hv]; exact Nat.min_le_right _ _
theorem qT1 (v : Int) (n d : Nat) : (if v < 0 then max (v + (n : Int)) 0 else min v (n : Int)) = ((sIx n d (some v) : Nat) : Int) := by
  show (if v < 0 then max (v + (n : Int)) 0 else min v (n : Int)) = (((if v < 0 then (v + (n : Int)).toNat else min v.toNat n) : Nat) : Int)
  by_cases hv : v < 0
  . simp only [if_pos hv]; lia
  . simp only [if_neg hv]; lia
theorem qO7 (lo hi : Option Int) (n : Nat) : Builtin.Slice.sliceAdjust lo hi 1 (n : Int) = (((sIx n 0 lo : Nat) : Int), ((sIx n n hi : Nat) : Int)) := by
  have h1 : ¬ ((1 : Int) < 0) := by lia
  unfold Builtin.Slice.sliceAdjust
  simp only [h1, if_false]
  refine Prod.ext ?_ ?_
  . cases lo with
    | none => rfl
    | some v => exact qT1 v n 0
  . cases hi with
    | none => rfl
    | some v => exact qT1 v n n
theorem qO8 (i j : Nat) : Builtin.Slice.slicePlaces (i : Int) (j : Int) 1 = j - i := by
  unfold Builtin.Slice.slicePlaces
  have h1 : (1 : Int) > 0 := by lia
  simp only [h1, if_true, Int.ediv_one]
  split <;> lia
theorem qx6 {v : Value} {o : Option Int} {Q : Option Int -> Shared -> Prop} (p : IsPart v o) (h : Q o s) : wpAny (model prog w) A (Builtin.Slice.slicePartIndex v) Q E s := by
  cases p with
  | none => exact slicePart_none h
  | int i t => exact slicePart_int h
theorem qs1 {sl : Addr} {vl vu : Value} {lo hi : Option Int} {n : Nat} {Q : Int × Int × Nat -> Shared -> Prop} (hs : s.heap.IsSliceOf sl vl vu .none) (pl : IsPart vl lo) (pu : IsPart vu hi)
    (h : Q (((sIx n 0 lo : Nat) : Int), 1, sIx n n hi - sIx n 0 lo) s) : wpAny (model prog w) A (Builtin.Slice.sliceApplied (.ref sl) (pure (n : Int))) Q E s := by
  obtain ⟨os, hos, hcs, hds⟩ := id hs
  unfold Builtin.Slice.sliceApplied Builtin.Slice.sliceFields
  refine wpAny_bind (wpAny_bind (wpAny_field hos hds (x := vl) rfl (wpAny_bind (wpAny_field hos hds (x := vu) rfl (wpAny_bind (wpAny_field hos hds (x := .none) rfl (wpAny_pure ?_)))))))
  refine wpAny_bind (slicePart_none ?_)
  show wpAny _ _ (if ((1 : Int) == 0) = true then _ else _) _ _ s
  rw [if_neg (by decide)]
  refine wpAny_bind (qx6 pl (wpAny_bind (qx6 pu (wpAny_bind (wpAny_pure ?_)))))
  show wpAny _ _ (match Builtin.Slice.sliceAdjust lo hi 1 (n : Int) with | (lo, hi) => pure (lo, (1 : Int), Builtin.Slice.slicePlaces lo hi 1)) _ _ s
  rw [qO7 lo hi n]
  show wpAny _ _ (pure (((sIx n 0 lo : Nat) : Int), (1 : Int), Builtin.Slice.slicePlaces ((sIx n 0 lo : Nat) : Int) ((sIx n n hi : Nat) : Int) 1)) _ _ s
  rw [qO8]
  exact wpAny_pure h
theorem pick_gen (xs : Array Value) (i k : Nat) : ((List.range k).filterMap fun (m : Nat) => xs[((i : Int) + (m : Int) * 1).toNat]?).toArray = ((xs.toList.drop i).take k).toArray := by
  have e : (fun (m : Nat) => xs[((i : Int) + (m : Int) * 1).toNat]?) = fun m => xs[i + m]? := by
    funext m
    have : ((i : Int) + (m : Int) * 1).toNat = i + m := by lia
    rw [this]
  rw [e]
  have := pick_run xs i k
  rw [List.filterMap_map] at this
  have e2 : ((fun x => xs[x]?) ∘ fun x => i + x) = fun m => xs[i + m]? := rfl
  rw [e2] at this
  rw [this]
theorem getItem_tuple_cut {t sl : Addr} {items : Array Value} {vl vu : Value} {lo hi : Option Int} {Q : Value -> Shared -> Prop} (ht : IsTup s.heap t items) (hs : s.heap.IsSliceOf sl vl vu .none) (pl : IsPart vl lo) (pu : IsPart vu hi)
    (hw : ¬ (sIx items.size 0 lo = 0 ∧ sIx items.size items.size hi = items.size))
    (h : Q (.ref s.heap.objs.size) { s with heap := s.heap.push { cls := .type "tuple", data := .seq ((items.toList.drop (sIx items.size 0 lo)).take (sIx items.size items.size hi - sIx items.size 0 lo)).toArray } })
    (hsz : items.size ≤ sizeLine) : wpAny (model prog w) A (getItem (.ref t) (.ref sl)) Q E s := by
  have htake : sizeOk (.seq ((items.toList.drop (sIx items.size 0 lo)).take (sIx items.size items.size hi - sIx items.size 0 lo)).toArray) := by
    show ((items.toList.drop (sIx items.size 0 lo)).take (sIx items.size items.size hi - sIx items.size 0 lo)).toArray.size ≤ sizeLine
    rw [List.size_toArray, List.length_take, List.length_drop, Array.length_toList]
    lia
  have hj : sIx items.size items.size hi ≤ items.size := sIx_le _ _ (Nat.le_refl _) hi
  obtain ⟨os, hos, hcs, hds⟩ := id hs
  have hTs : s.TypeIs (.ref sl) "slice" := ⟨os, hos, hcs⟩
  unfold getItem
  try with_reducible refine wpAny_holding ?_
  first | refine wpAny_bind (wpAny_pure ?_) | skip
  refine wpAny_bind (wpAny_sequenceKey ht.typeIs (by decide) ?_)
  refine wpAny_bind (wpAny_callSpecial?_slot (name := Str.ofString "__getitem__") ht.typeIs PyProof.Rows.slot_tuple_getitem
    (wpAny_call_entry PyProof.Rows.slot_tuple_getitem ht.typeIs entry_tuple_getitem ?_ (args_tuple_getitem _ _)))
  show wpAny _ _ (Builtin.Tuple.tupleItemsOf (.ref t) >>= _) _ _ s
  refine wpAny_bind (tupleItemsOf_ ht ?_)
  refine wpAny_bind (wpAny_typeOf hTs ?_)
  rw [if_pos (by decide)]
  refine wpAny_bind (qs1 hs pl pu ?_)
  have hno : ¬ ((((sIx items.size 0 lo : Nat) : Int) == 0 && (1 : Int) == 1 && (sIx items.size items.size hi - sIx items.size 0 lo) == items.size) = true) := by
    intro q
    rw [Bool.and_eq_true, Bool.and_eq_true] at q
    have q1 : ((sIx items.size 0 lo : Nat) : Int) = 0 := eq_of_beq q.1.1
    have q2 : sIx items.size items.size hi - sIx items.size 0 lo = items.size := eq_of_beq q.2
    exact hw ⟨by lia, by lia⟩
  show wpAny _ _ (if (((sIx items.size 0 lo : Nat) : Int) == 0 && (1 : Int) == 1 && (sIx items.size items.size hi - sIx items.size 0 lo) == items.size) = true then _ else _) _ _ s
  rw [if_neg hno, pick_gen]
  first
    | exact wpAny_bind (m := Builtin.Tuple.tupleExact _) (wpAny_newObj_type (wpAny_pure ⟨_, rfl, wpAny_pure h⟩) htake)
    | exact wpAny_bind (m := Builtin.Tuple.tupleExact _) (wpAny_newObj_type (wpAny_bind (wpAny_pure (wpAny_pure ⟨_, rfl, wpAny_pure h⟩))) htake)
    | exact wpAny_bind (wpAny_bind (m := Builtin.Tuple.tupleExact _) (wpAny_newObj_type (wpAny_pure (wpAny_pure ⟨_, rfl, wpAny_pure h⟩)) htake))
    | exact wpAny_bind (wpAny_bind (m := Builtin.Tuple.tupleExact _) (wpAny_newObj_type (wpAny_pure ⟨_, rfl, wpAny_pure h⟩) htake))
end
end HT
namespace L2
open PySem PySem.Spec PyProof.Rows
abbrev TO := St -> Hp -> (Option Int -> Hp -> Prop) -> Prop
def PO (X : Cx) (e : Option Expr) (t : TO) : Prop :=
  ∀ (pins : List (Addr × Obj)) (s : Shared) (σ : St) (H : Hp) (Q : Option Int -> Hp -> Prop), Inv X pins σ H s -> t σ H Q ->
    wpAny (model X.prog X.w) X.A (evalPart e X.env) (fun u s' => ∃ o H', Inv X pins σ H' s' ∧ IsPart u o ∧ Q o H') X.xe s
def tNoPart : TO := fun _ H Q => Q none H
def tPart (t : TE) : TO := fun σ H Q => t σ H fun x H1 => ∃ i, x = .int i ∧ Q (some i) H1
section
variable {X : Cx} {e : Expr} {te : TE} {lo hi : Option Expr} {tl th : TO} {pos p2 : Pos}
theorem po_none : PO X none tNoPart := by
  intro pins s σ H Q I h
  rw [evalPart_none]
  exact wpAny_pure ⟨none, H, I, .none, h⟩
theorem po_some (h : PE X e te) : PO X (some e) (tPart te) := by
  intro pins s σ H Q I hw
  rw [evalPart_some]
  refine thn (h pins s σ H _ I hw) fun u s1 ⟨x, H1, I1, r1, q1⟩ => ?_
  obtain ⟨i, rfl, q⟩ := q1
  obtain ⟨t, rfl⟩ := r1
  exact ⟨some i, H1, I1, .int i t, q⟩
def SlR (X : Cx) (r : V -> Option Int -> Option Int -> Hp -> VK -> Prop) : Prop :=
  ∀ (pins : List (Addr × Obj)) (s : Shared) (σ : St) (H : Hp) (x : V) (v vl vu : Value) (lo hi : Option Int) (sl : Addr) (Q : VK), Inv X pins σ H s -> RelV x v -> s.heap.IsSliceOf sl vl vu .none -> IsPart vl lo -> IsPart vu hi -> r x lo hi H Q ->
    ∃ T id, typeLookup (.type T) "__getitem__" = pure (some (.builtin id)) ∧ s.TypeIs v T ∧ wpAny (model X.prog X.w) X.A (getItem v (.ref sl)) (EP X pins σ Q) X.xe s
theorem SlR.or {r r' : V -> Option Int -> Option Int -> Hp -> VK -> Prop} (h : SlR X r) (h' : SlR X r') : SlR X (fun x lo hi H Q => r x lo hi H Q ∨ r' x lo hi H Q) := by
  intro pins s σ H x v vl vu lo hi sl Q I rx hs pl pu q
  rcases q with q | q
  . exact h pins s σ H x v vl vu lo hi sl Q I rx hs pl pu q
  . exact h' pins s σ H x v vl vu lo hi sl Q I rx hs pl pu q
def tSl (r : V -> Option Int -> Option Int -> Hp -> VK -> Prop) (te : TE) (tl th : TO) : TE := fun σ H Q => te σ H fun x H1 => tl σ H1 fun l H2 => th σ H2 fun u H3 => r x l u H3 Q
theorem pe_slice {r : V -> Option Int -> Option Int -> Hp -> VK -> Prop} (hr : SlR X r) (he : PE X e te) (hl : PO X lo tl) (hu : PO X hi th) : PE X (.Subscript e (.Slice lo hi none p2) pos) (tSl r te tl th) := by
  intro pins s σ H Q I h
  refine Subscript_ (thn (he pins s σ H _ I h) fun v s1 ⟨x, H1, I1, r1, q1⟩ => ?_)
  refine wpAny_Slice (thn (hl pins s1 σ H1 _ I1 q1) fun vl s2 ⟨l, H2, I2, pl, q2⟩ => thn (hu pins s2 σ H2 _ I2 q2) fun vu s3 ⟨u, H3, I3, pu, q3⟩ => ?_)
  rw [evalPart_none]
  refine wpAny_pure ?_
  have I4 : Inv X pins σ H3 { s3 with heap := s3.heap.push { cls := .type "slice", data := .fields #[vl, vu, .none] } } := I3.kept (t' := s3.toks) fun b ob q => Heap.get?_push_of_some _ q
  obtain ⟨T, id, hT, ht, hg⟩ := hr pins { s3 with heap := s3.heap.push { cls := .type "slice", data := .fields #[vl, vu, .none] } } σ H3 x v vl vu l u s3.heap.objs.size Q I4 r1 (Heap.IsSliceOf.new ..) pl pu q3
  show wpAny (model X.prog X.w) X.A (subscriptTail e (.Slice lo hi none p2) v (.ref s3.heap.objs.size)) (EP X pins σ Q) X.xe { s3 with heap := s3.heap.push { cls := .type "slice", data := .fields #[vl, vu, .none] } }
  exact tail_any (ops := [.ref s3.heap.objs.size, v]) ht hT hg (by with_unfolding_all rfl)
def cutV (xs : List V) (lo hi : Option Int) : List V := (xs.drop (HT.sIx xs.length 0 lo)).take (HT.sIx xs.length xs.length hi - HT.sIx xs.length 0 lo)
theorem qI5 (xs : List V) (lo hi : Option Int) : (cutV xs lo hi).length ≤ xs.length := by
  unfold cutV
  rw [List.length_take, List.length_drop]
  lia
def rSlT (K : PySem.W.Frag) : V -> Option Int -> Option Int -> Hp -> VK -> Prop := fun x lo hi H Q => ∃ a xs, x = .ref a ∧ SqT K H a xs ∧
  ¬ (HT.sIx xs.length 0 lo = 0 ∧ HT.sIx xs.length xs.length hi = xs.length) ∧ ∀ p, H p = none -> Q (.ref p) (upd H p (.tup (cutV xs lo hi)))
theorem sl_tup : SlR X (rSlT X.K) := by
  intro pins s σ H x v vl vu lo hi sl Q I rx hs pl pu h
  obtain ⟨a, xs, rfl, hx, hw, q⟩ := h
  cases rx
  obtain ⟨its, r, ht, hz⟩ := I.tuple hx
  have hlen : its.toArray.size = xs.length := by rw [List.size_toArray]; exact r.length.symm
  refine ⟨"tuple", _, PyProof.Rows.slot_tuple_getitem.lookup, ht.typeIs, ?_⟩
  refine HT.getItem_tuple_cut ht hs pl pu (by rw [hlen]; exact hw) ?_ (by rw [hlen]; exact hz)
  rw [hlen]
  refine ⟨.ref s.heap.objs.size, _, I.laid (t' := s.toks) (o := .tup (cutV xs lo hi)) (fun b ob q => Heap.get?_push_of_some _ q) (Nat.le_refl _) ?_, rfl, q _ (I.hok.fresh (Nat.le_refl _))⟩
  exact ⟨Nat.le_trans (qI5 xs lo hi) hz, _, (r.drop (HT.sIx xs.length 0 lo)).take (HT.sIx xs.length xs.length hi - HT.sIx xs.length 0 lo), IsTupX.new _ _⟩
end
end L2
namespace L2
open PySem PySem.Spec PyProof.Rows
def ixN (n : Nat) (i : Int) : Option Nat := if 0 ≤ i then (if i < n then some i.toNat else none) else if -(n : Int) ≤ i then some (i + n).toNat else none
def atI {α : Type} (xs : List α) (i : Int) : Option α := (ixN xs.length i).bind fun j => xs[j]?
theorem qT2 {n : Nat} {i : Int} {j : Nat} (h : ixN n i = some j) : seqIndex? i n = some j ∧ j < n ∧ -(n : Int) ≤ i ∧ i < n := by
  unfold ixN at h
  by_cases h0 : 0 ≤ i
  . rw [if_pos h0] at h
    by_cases h1 : i < n
    . rw [if_pos h1] at h
      have e : i.toNat = j := Option.some.inj h
      exact ⟨by rw [seqIndex_of h0 h1, e], by lia, by lia, h1⟩
    . rw [if_neg h1] at h; cases h
  . rw [if_neg h0] at h
    by_cases h1 : -(n : Int) ≤ i
    . rw [if_pos h1] at h
      have e : (i + n).toNat = j := Option.some.inj h
      exact ⟨by rw [seqIndex_neg (by lia) h1, e], by lia, h1, by lia⟩
    . rw [if_neg h1] at h; cases h
theorem qT3 {α : Type} {xs : List α} {i : Int} {v : α} (h : atI xs i = some v) : ∃ j, seqIndex? i xs.length = some j ∧ xs[j]? = some v ∧ j < xs.length ∧ -(xs.length : Int) ≤ i ∧ i < xs.length := by
  unfold atI at h
  cases e : ixN xs.length i with
  | none => rw [e] at h; cases h
  | some j =>
    rw [e] at h
    obtain ⟨h1, h2, h3, h4⟩ := qT2 e
    exact ⟨j, h1, h, h2, h3, h4⟩
theorem qj2 {α : Type} {xs : List α} {j : Nat} {v : α} (h : xs[j]? = some v) : atI xs (j : Int) = some v := by
  have hj : j < xs.length := (List.getElem?_eq_some_iff.mp h).1
  have e : ixN xs.length (j : Int) = some j := by
    unfold ixN
    rw [if_pos (by lia), if_pos (by lia)]; simp
  unfold atI; rw [e]; exact h
def PlainIx (b : Expr) : Prop := ∀ o i, subscripted b false o i = operate [o, i] (getItem o i)
def IxR (X : Cx) (r : R2) : Prop :=
  ∀ (value slice : Expr) (pins : List (Addr × Obj)) (s : Shared) (σ : St) (H : Hp) (x y : V) (v u : Value) (Q : VK), Inv X pins σ H s -> RelV x v -> RelV y u -> r x y H Q ->
    subscripted slice false v u = operate [v, u] (getItem v u) -> wpAny (model X.prog X.w) X.A (subscriptTail value slice v u) (EP X pins σ Q) X.xe s
def MtR (X : Cx) (id : String) (r : V -> List V -> Hp -> VK -> Prop) : Prop :=
  ∀ (pins : List (Addr × Obj)) (s : Shared) (σ : St) (H : Hp) (x : V) (xs : List V) (v : Value) (us : List Value) (Q : VK), Inv X pins σ H s -> RelV x v -> Vals xs us -> r x xs H Q ->
    wpAny (model X.prog X.w) X.A (call (.builtin id) (v :: us)) (EP X pins σ Q) X.xe s
section
variable {X : Cx} {a b : Expr} {ta tb : TE} {pos : Pos}
theorem IxR.or {r r' : R2} (h : IxR X r) (h' : IxR X r') : IxR X (fun x y H Q => r x y H Q ∨ r' x y H Q) := by
  intro value slice pins s σ H x y v u Q I rx ry q hs
  rcases q with q | q
  . exact h value slice pins s σ H x y v u Q I rx ry q hs
  . exact h' value slice pins s σ H x y v u Q I rx ry q hs
theorem MtR.or {id : String} {r r' : V -> List V -> Hp -> VK -> Prop} (h : MtR X id r) (h' : MtR X id r') : MtR X id (fun x xs H Q => r x xs H Q ∨ r' x xs H Q) := by
  intro pins s σ H x xs v us Q I rx rs q
  rcases q with q | q
  . exact h pins s σ H x xs v us Q I rx rs q
  . exact h' pins s σ H x xs v us Q I rx rs q
theorem qf3 {r : R2} (hr : IxR X r) (ha : PE X a ta) (hb : PE X b tb) (hs : PlainIx b) : PE X (.Subscript a b pos) (tOp r ta tb) := by
  intro pins s σ H Q I h
  exact Subscript_ (binT ha hb I h fun v u s2 x y H2 I2 rx ry q => hr a b pins s2 σ H2 x y v u Q I2 rx ry q (hs _ _))
def rIxL (K : PySem.W.Frag) : R2 := fun x y H Q => ∃ p xs i v, x = .ref p ∧ y = .int i ∧ SqL K H p xs ∧ atI xs i = some v ∧ Q v H
def rIxT (K : PySem.W.Frag) : R2 := fun x y H Q => ∃ p xs i v, x = .ref p ∧ y = .int i ∧ SqT K H p xs ∧ atI xs i = some v ∧ Q v H
def rIxS : R2 := fun x y H Q => ∃ z i c, x = .str z ∧ y = .int i ∧ z.length ≤ sizeLine ∧ atI z.cps.toList i = some c ∧ Q (.str ⟨#[c]⟩) H
theorem qj9 : IxR X (rIxL X.K) := by
  intro value slice pins s σ H x y v u Q I rx ry h hs
  obtain ⟨p, xs, i, z, rfl, rfl, hq, he, q⟩ := h
  cases rx
  obtain ⟨t, rfl⟩ := ry
  obtain ⟨its, r, pl, hz⟩ := I.list hq
  obtain ⟨j, h1, h2, h3, h4, h5⟩ := qT3 he
  obtain ⟨w, ew, rw'⟩ := r.get h2
  have hl := r.length
  have hn := qK3
  have fin : EP X pins σ Q w s := ⟨z, H, I, rw', q⟩
  by_cases h0 : 0 ≤ i
  . have hj : i.toNat = j := by
      rw [seqIndex_of h0 h5] at h1
      exact Option.some.inj h1
    exact item_listR pl.isList h0 (by lia) (by rw [hj]; simpa using ew) fin hs
  . have hj : (i + (its.toArray.size : Int)).toNat = j := by
      rw [seqIndex_neg (by lia) h4] at h1
      rw [List.size_toArray, ← hl]
      exact Option.some.inj h1
    exact subscriptTail_builtinR (x := w) pl.isList.typeIs slot_list_getitem.lookup
      (wpAny_getItem_list_neg (Q := fun r s' => r = w ∧ EP X pins σ Q r s') pl.isList (by lia) (by rw [List.size_toArray] <;> lia) (by lia) (by rw [hj]; simpa using ew) ⟨rfl, fin⟩) hs
theorem qf2 : IxR X (rIxT X.K) := by
  intro value slice pins s σ H x y v u Q I rx ry h hs
  obtain ⟨p, xs, i, z, rfl, rfl, hq, he, q⟩ := h
  cases rx
  obtain ⟨t, rfl⟩ := ry
  obtain ⟨its, r, pl, hz⟩ := I.tuple hq
  obtain ⟨j, h1, h2, h3, h4, h5⟩ := qT3 he
  obtain ⟨w, ew, rw'⟩ := r.get h2
  have hl := r.length
  have hn := qK3
  have fin : EP X pins σ Q w s := ⟨z, H, I, rw', q⟩
  exact subscriptTail_builtinR (x := w) pl.typeIs slot_tuple_getitem.lookup
    (getItem_tuple (j := j) (Q := fun r s' => r = w ∧ EP X pins σ Q r s') pl (by lia) (by lia) (by rw [List.size_toArray, ← hl]; exact h1) (by simpa using ew) ⟨rfl, fin⟩) hs
theorem qO9 (its : List Value) (n j : Nat) (u : Value) : Obj.mapSeq (·.setIfInBounds j u) { cls := .type "list", data := .seq its.toArray n } = { cls := .type "list", data := .seq (its.set j u).toArray n } := by
  simp [Obj.mapSeq]
theorem Inv.lst {pins : List (Addr × Obj)} {σ : St} {H : Hp} {s : Shared} {p : Addr} {xs : List V} (I : Inv X pins σ H s) (h : H p = some (.lst xs)) :
    ∃ (its : List Value) (n : Nat), Vals xs its ∧ s.heap.get? p = some { cls := .type "list", data := .seq its.toArray n } ∧ xs.length ≤ sizeLine := by
  obtain ⟨z, its, n, r, e⟩ := I.hok p _ h
  exact ⟨its, n, r, e, z⟩
theorem Inv.lstUpd {pins : List (Addr × Obj)} {σ : St} {H : Hp} {s : Shared} {p : Addr} {xs ys : List V} {its its' : List Value} {n n' : Nat} {f : Obj -> Obj} (I : Inv X pins σ H s) (h : H p = some (.lst xs))
    (ho : s.heap.get? p = some { cls := .type "list", data := .seq its.toArray n }) (hf : f { cls := .type "list", data := .seq its.toArray n } = { cls := .type "list", data := .seq its'.toArray n' }) (r : Vals ys its') (hz : ys.length ≤ sizeLine) (t : Nat) :
    Inv X pins σ (upd H p (.lst ys)) { s with heap := s.heap.update p f, toks := t } := by
  have e : (s.heap.update p f).get? p = some { cls := .type "list", data := .seq its'.toArray n' } := by
    rw [Heap.get?_update_self f ho (by rw [hf] <;> rfl), hf]
  refine I.write (x := p) (e := p) (by rw [h]; trivial) (.inl rfl) (fun b u hb q => (Heap.get?_update_other _ _ (Ne.symm hb)).trans q) ⟨_, e⟩ ?_
  exact ⟨hz, its', n', r, e⟩
def rSetL : V -> V -> V -> Hp -> (Hp -> Prop) -> Prop := fun o i v H Q => ∃ p xs k j, o = .ref p ∧ i = .int k ∧ H p = some (.lst xs) ∧ ixN xs.length k = some j ∧ Q (upd H p (.lst (xs.set j v)))
theorem qK6 : PSet X rSetL := by
  intro pins s σ H o i v ov iv u Q I ro ri rv h
  obtain ⟨p, xs, k, j, rfl, rfl, hp, hj, q⟩ := h
  cases ro
  obtain ⟨t, rfl⟩ := ri
  obtain ⟨its, n, r, ho, hz⟩ := I.lst hp
  obtain ⟨h1, h2, h3, h4⟩ := qT2 hj
  have hl := r.length
  have hn := qK3
  have I' : Inv X pins σ (upd H p (.lst (xs.set j v))) { s with heap := s.heap.update p (Obj.mapSeq (·.setIfInBounds j u)) } :=
    I.lstUpd hp ho (qO9 its n j u) (r.set rv j) (by rw [List.length_set]; exact hz) s.toks
  by_cases h0 : 0 ≤ k
  . have hk : k.toNat = j := by
      rw [seqIndex_of h0 h4] at h1
      exact Option.some.inj h1
    exact PySem.W.ki_setAt ho h0 (by lia) (by rw [List.size_toArray, ← hl]; exact h4) (by rw [hk]; exact ⟨_, I', q⟩)
  . have hk : (k + (its.toArray.size : Int)).toNat = j := by
      rw [seqIndex_neg (by lia) h3] at h1
      rw [List.size_toArray, ← hl]
      exact Option.some.inj h1
    exact PySem.W.ki_setBack ho (by lia) (by rw [List.size_toArray, ← hl]; exact h3) (by lia) (by rw [hk]; exact ⟨_, I', q⟩)
theorem qd6 : CallR X (.builtin "len") (fun xs H Q => ∃ p ys, xs = [.ref p] ∧ (SqL X.K H p ys ∨ SqT X.K H p ys) ∧ Q (.int ys.length) H) := by
  intro pins s σ H xs us Q I r h
  obtain ⟨p, ys, rfl, hq, q⟩ := h
  obtain ⟨u, rfl, rx⟩ := ql1 r
  cases rx
  have hn := qK3
  rcases hq with hq | hq
  . obtain ⟨its, r', pl, hz⟩ := I.list hq
    have hlen := r'.length
    exact Calls.call_len_list pl.isList (by simp only [List.size_toArray] <;> lia) ⟨.int ys.length, H, I.tok _, ⟨s.toks + 1, by rw [List.size_toArray, hlen]⟩, q⟩
  . obtain ⟨its, r', pl, hz⟩ := I.tuple hq
    have hlen := r'.length
    exact len_tuple pl (by simp only [List.size_toArray] <;> lia) ⟨.int ys.length, H, I.tok _, ⟨s.toks + 1, by rw [List.size_toArray, hlen]⟩, q⟩
theorem CallR.or {f : Value} {r r' : List V -> Hp -> VK -> Prop} (h : CallR X f r) (h' : CallR X f r') : CallR X f (fun xs H Q => r xs H Q ∨ r' xs H Q) := by
  intro pins s σ H xs us Q I rs q
  rcases q with q | q
  . exact h pins s σ H xs us Q I rs q
  . exact h' pins s σ H xs us Q I rs q
theorem qz0 : CallR X (.type "tuple") (fun xs H Q => ∃ p ys, xs = [.ref p] ∧ ((SqL X.K H p ys ∧ ∀ l, H l = none -> Q (.ref l) (upd H l (.tup ys))) ∨ (SqT X.K H p ys ∧ Q (.ref p) H))) := by
  intro pins s σ H xs us Q I r h
  obtain ⟨p, ys, rfl, h⟩ := h
  obtain ⟨u, rfl, rx⟩ := ql1 r
  cases rx
  rcases h with ⟨hq, q⟩ | ⟨hq, q⟩
  . obtain ⟨its, r', pl, hz⟩ := I.list hq
    have hlen := r'.length
    refine call_tuple_list pl.isList (fun h' kp => ?_) (by simp only [List.size_toArray] <;> lia)
    have I1 : Inv X pins σ H { s with heap := h' } := I.kept (t' := s.toks) kp
    have I2 : Inv X pins σ (upd H h'.objs.size (.tup ys)) { s with heap := h'.push { cls := .type "tuple", data := .seq its.toArray } } :=
      I1.laid (t' := s.toks) (fun b o e => Heap.get?_push_of_some _ e) (Nat.le_refl _) (show ObjOk X.prog X.w _ _ _ (.tup ys) from ⟨hz, its, r', IsTupX.new _ _⟩)
    exact ⟨.ref h'.objs.size, _, I2, rfl, q _ (I1.hok.fresh (Nat.le_refl _))⟩
  . obtain ⟨its, r', pl, hz⟩ := I.tuple hq
    exact call_tuple_same pl ⟨.ref p, H, I, rfl, q⟩
def tyV (K : PySem.W.Frag) (T : String) (x : V) (H : Hp) : Prop := match x with
  | .str _ => T = "str"
  | .int _ => T = "int"
  | .ref p => (T = "list" ∧ ∃ xs, SqL K H p xs) ∨ (T = "tuple" ∧ ∃ o, K.lookup p = some o ∧ o.cls = .type "tuple" ∧ o.dict = none) ∨
      (T = "dict" ∧ ((∃ kvs, H p = some (.dK kvs)) ∨ ∃ kvs, H p = some (.dT kvs))) ∨ (T = "set" ∧ ∃ S n, H p = some (.set S n))
  | _ => False
theorem tyV_is {pins : List (Addr × Obj)} {σ : St} {H : Hp} {s : Shared} {T : String} {x : V} {v : Value} (I : Inv X pins σ H s) (r : RelV x v) (ty : tyV X.K T x H) :
    s.TypeIs v T ∧ ∀ a, v = .ref a -> ∃ ob, s.heap.get? a = some ob ∧ ob.dict = none := by
  cases x with
  | str z =>
    obtain ⟨t, rfl⟩ := r
    cases (show T = "str" from ty)
    exact ⟨typeIs_str s z t, fun _ e => nomatch e⟩
  | int i =>
    obtain ⟨t, rfl⟩ := r
    cases (show T = "int" from ty)
    exact ⟨typeIs_int s i t, fun _ e => nomatch e⟩
  | ref p =>
    cases r
    rcases ty with ⟨rfl, xs, hq⟩ | ⟨rfl, o, hk, hc, hd⟩ | ⟨rfl, hk⟩ | ⟨rfl, S, n, hk⟩
    . obtain ⟨its, _, pl, _⟩ := I.list hq
      refine ⟨pl.isList.typeIs, fun a e => ?_⟩
      cases e
      obtain ⟨o, n, e, c, hd, _⟩ := pl
      exact ⟨o, e, hd⟩
    . refine ⟨⟨o, I.kIn p o hk, hc⟩, fun a e => ?_⟩
      cases e
      exact ⟨o, I.kIn _ o hk, hd⟩
    . have z : ∃ o, s.heap.get? p = some o ∧ o.ExactDict := by
        rcases hk with ⟨kvs, hk⟩ | ⟨kvs, hk⟩
        . obtain ⟨_, _, _, _, o, _, _, e, ex, _⟩ := I.hok p _ hk
          exact ⟨o, e, ex⟩
        . obtain ⟨_, _, _, _, o, _, _, e, ex, _⟩ := I.hok p _ hk
          exact ⟨o, e, ex⟩
      obtain ⟨o, e, ex⟩ := z
      refine ⟨⟨o, e, ex.1⟩, fun a e2 => ?_⟩
      cases e2
      exact ⟨o, e, ex.2.1⟩
    . obtain ⟨o, _, _, _, e, ex, _⟩ := I.hok p _ hk
      refine ⟨⟨o, e, ex.1⟩, fun a e2 => ?_⟩
      cases e2
      exact ⟨o, e, ex.2.1⟩
  | _ => exact False.elim ty
def tBM (K : PySem.W.Frag) (T : String) (r : V -> List V -> Hp -> VK -> Prop) (to : TE) (t : TA) : TE := fun σ H Q => to σ H fun x H1 => tyV K T x H1 ∧ t σ H1 fun xs H2 => r x xs H2 Q
variable {o e : Expr} {es : List Expr} {to : TE} {t : TA} {name : Str} {apos cpos : Pos} {T id : String} {r : V -> List V -> Hp -> VK -> Prop}
theorem pe_bm (pa : PlainAttrs T) (slot : Slot T name id) (hty : typeOf (.builtin id) = pure (.type "method_descriptor")) (hm : MtR X id r) (ho : PE X o to) (ha : PA X (e :: es) t)
    (hbase : attributeBase o name X.env (eval o X.env) = eval o X.env := by rfl)
    (hfew : ((backTo cpos (starEach (e :: es) X.env)).all (fun x => !x.1) && (backToKw cpos (keywordEach [] X.env)).all (fun x => x.1.isSome)
      && decide ((e :: es).length + ([] : List Keyword).length + (if ([] : List Keyword).isEmpty then 0 else 1) < 30)) = true := by rfl)
    (hline : (apos.endLine == cpos.line) = true := by rfl) (hs : starEach (e :: es) X.env = (false, eval e X.env) :: starEach es X.env := by rfl) (hplain : (backTo cpos (starEach es X.env)).any (·.1) = false := by rfl) :
    PE X (.Call (.Attribute o name apos) (e :: es) [] cpos) (tBM X.K T r to t) := by
  intro pins s σ H Q I h
  refine wpAny_Call_method_late hbase hfew hline rfl (thn (ho pins s σ H _ I h) fun v s1 ⟨x, H1, I1, r1, ty, q1⟩ => ?_)
  obtain ⟨h1, h2⟩ := tyV_is I1 r1 ty
  refine ⟨T, id, pa, slot, hty, h1, h2, ?_⟩
  have hA := ha cpos pins s1 σ H1 _ I1 q1
  rw [hs] at hA ⊢
  refine Calls.callWith_builtin (by show (false || (backTo cpos (starEach es X.env)).any (·.1)) = false; rw [hplain] <;> rfl) (Calls.evalArgs_plain ?_)
  exact thn hA fun us s2 ⟨vs, H2, I2, r2, q2⟩ => hm pins s2 σ H2 x vs v us Q I2 r1 r2 q2
end
end L2
namespace L2
open PySem PySem.Spec PyProof.Rows
def MtM (X : Cx) (id : String) (r : V -> List V -> Hp -> VK -> Prop) : Prop :=
  ∀ (pins : List (Addr × Obj)) (s : Shared) (σ : St) (H : Hp) (x : V) (xs : List V) (v : Value) (us : List Value) (Q : VK), Inv X pins σ H s -> RelV x v -> Vals xs us -> r x xs H Q ->
    wpAny (model X.prog X.w) X.A (call (.builtin id) (v :: us)) (EP X pins σ Q) X.xe s
theorem Vals.one : ∀ {x : V} {us : List Value}, Vals [x] us -> ∃ u, us = [u] ∧ RelV x u
  | _, _, .cons r .nil => ⟨_, rfl, r⟩
theorem Vals.two : ∀ {x y : V} {us : List Value}, Vals [x, y] us -> ∃ u v, us = [u, v] ∧ RelV x u ∧ RelV y v
  | _, _, _, .cons r (.cons q .nil) => ⟨_, _, rfl, r, q⟩
theorem Vals.zero : ∀ {us : List Value}, Vals [] us -> us = []
  | _, .nil => rfl
theorem Vals.reverse {xs : List V} {us : List Value} (h : Vals xs us) : Vals xs.reverse us.reverse := by
  induction h with
  | nil => exact .nil
  | cons r t ih => rw [List.reverse_cons, List.reverse_cons]; exact Vals.append ih (.cons r .nil)
theorem Vals.rep {xs : List V} {us : List Value} (h : Vals xs us) : ∀ k : Nat, Vals (List.replicate k xs).flatten (List.replicate k us).flatten
  | 0 => .nil
  | k + 1 => by
    rw [List.replicate_succ, List.replicate_succ, List.flatten_cons, List.flatten_cons]
    exact Vals.append h (Vals.rep h k)
section
variable {X : Cx} {pins : List (Addr × Obj)} {σ : St} {H : Hp} {s : Shared} {l b : Addr} {xs ys zs : List V}
theorem Inv.lset {its its' : List Value} {n : Nat} {f : Array Value -> Array Value} {t' : Nat} (I : Inv X pins σ H s) (hH : H l = some (.lst xs))
    (e : s.heap.get? l = some { cls := .type "list", data := .seq its.toArray n }) (hf : f its.toArray = its'.toArray) (hv : Vals ys its') (hz : ys.length ≤ sizeLine) :
    Inv X pins σ (upd H l (.lst ys)) { s with heap := s.heap.update l (Obj.mapSeq f), toks := t' } := by
  have q := PySem.IsL.update e f
  rw [hf] at q
  refine I.write (x := l) (e := l) (by rw [hH]; exact trivial) (.inl rfl) (fun b' u hb hu => (Heap.get?_update_other s.heap (Obj.mapSeq f) (Ne.symm hb)).trans hu) ⟨_, q⟩ ?_
  exact ⟨hz, its', _, hv, q⟩
theorem Inv.fresh (I : Inv X pins σ H s) : H s.heap.objs.size = none := I.hok.fresh (Nat.le_refl _)
theorem Inv.lstM (I : Inv X pins σ H s) (hH : H l = some (.lst xs)) : xs.length ≤ sizeLine ∧ ∃ (its : List Value) (n : Nat), Vals xs its ∧ xs.length = its.length ∧ s.heap.get? l = some { cls := .type "list", data := .seq its.toArray n } := by
  obtain ⟨z, its, n, r, e⟩ := I.hok l _ hH
  exact ⟨z, its, n, r, r.length, e⟩
end
section
variable {X : Cx}
def rAppend : V -> List V -> Hp -> VK -> Prop := fun x vs H Q => ∃ l xs y, x = .ref l ∧ vs = [y] ∧ H l = some (.lst xs) ∧ xs.length < sizeLine ∧ Q .non (upd H l (.lst (xs ++ [y])))
theorem qj3 : MtM X "list.append" rAppend := by
  intro pins s σ H x vs v us Q I rx rv h
  obtain ⟨l, xs, y, rfl, rfl, hH, hz, q⟩ := h
  cases rx
  obtain ⟨u, rfl, ru⟩ := rv.one
  obtain ⟨z, its, n, r, hl, e⟩ := I.lstM hH
  refine call_meets F.slot_list_append ⟨_, e, rfl⟩ F.entry_list_append (F.args_list_append_2 _ _) (PySem.list_append l its.toArray n u (by rw [List.size_toArray]; lia)) ⟨e, ?_⟩
  refine ⟨.non, _, I.lset (its' := its ++ [u]) hH e (by simp) (r.append (.cons ru .nil)) ?_, rfl, q⟩
  rw [List.length_append, List.length_singleton]
  lia
end
section
variable {prog : Program} {w : World} {A : Around} {E : Value -> Shared -> Prop} {s : Shared}
end
section
variable {X : Cx}
end
end L2
namespace Att
open PySem PySem.W PySem.Calls PyProof.Rows
theorem qu3 {P : Params} {h : Heap} : ∀ (ns : List Int) (vs : List Value), WellAll P h vs (ns.map WData.int) -> IntsAre vs ns := by
  intro ns
  induction ns with
  | nil =>
    intro vs w
    rw [List.map_nil] at w
    cases w
    exact .nil
  | cons n ns ih =>
    intro vs w
    rw [List.map_cons] at w
    cases w with
    | cons a b =>
      cases a
      exact .cons _ _ (ih _ b)
theorem qT4 {l : OpenLaw} {n : Nat} (hn : l.most = some n) {P : Params} {h : Heap} {args : List WData} {vals : List Value}
    (hpre : l.row.toRowW.claim.pre args = true) (hwl : WellAll P h vals args) :
    ∃ a vs ns, vals = [Value.ref a] ∧ args = [WData.list (ns.map WData.int)] ∧ h.get? a = some { cls := .type "list", data := .seq vs.toArray } ∧ IntsAre vs ns ∧ ns.length ≤ n := by
  have hsh : WShape.hasAll [] args [.list .int] = true := (pre_splitW hpre).1
  have hc : l.pre.holds [] { args := args } = true := (pre_splitW hpre).2
  obtain ⟨d, r, rfl, h1, h2⟩ := hasAllW_cons hsh
  obtain rfl := hasAllW_nil h2
  obtain ⟨xs, rfl, h3⟩ := hasW_list h1
  obtain ⟨ns, rfl⟩ := items_int h3
  have hlen : ns.length ≤ n := by
    unfold OpenLaw.pre at hc
    have h4 : (WTm.not (.lt (.lit (.int (n : Int))) (.len (.arg 0)))).holds [] { args := [.list (ns.map .int)] } = true := by
      have h4 := (holds_andW hc).1
      rw [hn] at h4
      exact h4
    have h5 := condW_of h4 (w_not (w_lt w_lit (w_len_list (w_arg rfl))))
    rw [List.length_map] at h5
    refine Nat.le_of_not_lt fun q => ?_
    have q' : (n : Int) < ((ns.length : Nat) : Int) := by lia
    first
      | (rw [decide_eq_true q'] at h5; exact absurd h5 (by decide))
      | (simp at h5; lia)
  cases hwl with
  | cons w1 w2 =>
    cases w2
    cases w1 with
    | list ho hall => exact ⟨_, _, ns, rfl, rfl, ho, qu3 ns _ hall, hlen⟩
theorem qT5 (l : OpenLaw) (args : List WData) : l.row.toRowW.claim.post args (.bool true) args = true :=
  postW_of (r := l.row.toRowW) (X := (true == true))
    (show WShape.has [] (.bool true) .bool = true by first | rfl | decide | simp [WShape.has, WShape.arms, WShape.armsAll])
    (show (WTm.eq .res (.lit (.bool true))).value [] { args := args, res := some (.bool true), after := args } = some (.bool (true == true)) from w_eq_bool (w_res rfl) w_lit) rfl
theorem attach_call {l : OpenLaw} {n : Nat} {q : Program} {loose : List Str} {XP : (Str -> Option Value) -> Heap -> Prop} {YP : World -> Heap -> Prop} {d : DefRec}
    (hn : l.most = some n) (hdf : d.params.defaults = [])
    (call : ∀ (w : World) (s₀ s₁ : Shared) (mg mb : Str -> Option Value) (fa : Addr) (o : Obj) (pm cd doc : Value) (a : Addr) (vs : List Value) (ns : List Int),
      Ground q loose [] XP w s₀ mg mb s₁.heap -> YP w s₁.heap ->
      s₁.heap.get? fa = some o -> o.data = .func (docDef d.name d.params d.body d.scope pm cd doc) -> s₁.heap.CodeRec cd d.name -> mg d.name = some (.ref fa) ->
      s₁.heap.get? a = some { cls := .type "list", data := .seq vs.toArray } -> IntsAre vs ns -> ns.length ≤ n -> s₁.gens = #[] ->
      codeAny (model l.prog w) callerA (.call (.ref fa) ⟨[.ref a], []⟩) (fun r s' => r = .ok (.ret (.bool true)) ∧ OldK s₁.heap s'.heap ∧ s'.os = s₁.os ∧ AllBare s'.gens) s₁) :
    WalkO q loose XP YP l.row.toRowW d [] (fun f vs => PySem.call f vs) := by
  intro w s₀ s₁ mg mb G Y fa o pm cd doc dV kV ho hd hcd hD hmg hg args vals as hpre hlay hrd hwl hlo
  obtain rfl : dV = .none := Dflts.none hD hdf
  obtain rfl : kV = .none := Dflts.noKw hD
  obtain ⟨a, vs, ns, rfl, rfl, hobj, hints, hlen⟩ := qT4 hn hpre hwl
  refine enter_call (codeAny_mono (call w s₀ s₁ mg mb fa o pm cd doc a vs ns G Y ho (fd_plain hd) hcd hmg hobj hints hlen hg) fun r s' hq => ?_)
  obtain ⟨rfl, h2, h3, h4⟩ := hq
  exact ⟨.inl ⟨.bool true, .bool true, [], rfl, fun _ => rfl, .bool true, qT5 l _, fun _ => ⟨List.Pairwise.nil, fun _ hm => (nomatch hm)⟩⟩, h2, h3, h4⟩
section
variable {prog : Program} {w : World} {A : Around} {E : Value -> Shared -> Prop} {s : Shared} {K : Frag}
end
end Att
namespace L2
open PySem PySem.Spec PyProof.Rows
theorem qC5 : ∀ {vs : List Value} {ns : List Int}, IntsAre vs ns -> Vals (ns.map V.int) vs
  | _, _, .nil => .nil
  | _, _, .cons n t h => .cons ⟨t, rfl⟩ (qC5 h)
def Only (H : Hp) : Prop := ∀ b, H b = none ∨ ∃ o xs, H b = some (.frz o (.lst xs))
theorem law_call {P : Program} {w : World} {K : PySem.W.Frag} {mg mb : Str -> Option Value} {CX : CXT} {k : Nat} {fa a : Addr} {fd : FuncData} {x : Str} {sp : Sp} {s₁ : Shared} {vs : List Value} {ns : List Int}
    (KX : K.In s₁.heap) (hns : s₁.heap.Ns mainGlobals mg) (hb : s₁.heap.Ns builtinsNs mb) (hbb : ∀ x : Str, x ≠ "__name__" -> mb x = bootBuiltins x) (hlim : s₁.heap.NoLimit) (hg : s₁.gens = #[])
    (ha : s₁.heap.get? a = some { cls := .type "list", data := .seq vs.toArray }) (hi : IntsAre vs ns) (hl : ns.length ≤ sizeLine) (hr : Room k callerA)
    (F : ∀ base : Heap, K.In base -> base.Ns mainGlobals mg -> FnOk P w K mg base CX k fa fd [x] sp) (hbind : ∀ (s : Shared) (u : Value), BindsTo s fd ⟨[u], []⟩ [(x, u)])
    (hsp : ∀ H : Hp, Only H -> SqL K H a (ns.map V.int) -> sp [.ref a] H (fun v _ => v = .bl true) fun _ _ _ => False)
    (hCX : ∀ H e s', CX [] H s₁ (fun _ _ _ => False) e s' -> False) :
    codeAny (model P w) callerA (.call (.ref fa) ⟨[.ref a], []⟩) (fun r s' => r = .ok (.ret (.bool true)) ∧ OldK s₁.heap s'.heap ∧ s'.os = s₁.os ∧ AllBare s'.gens) s₁ := by
  have rv := qC5 hi
  have lenV := hi.length
  have core : ∀ H : Hp, Only H -> SqL K H a (ns.map V.int) -> HOk P w H s₁.heap -> (∀ b, H b ≠ none -> b = a) -> (H a ≠ none -> K.lookup a = none) ->
      codeAny (model P w) callerA (.call (.ref fa) ⟨[.ref a], []⟩) (fun r s' => r = .ok (.ret (.bool true)) ∧ OldK s₁.heap s'.heap ∧ s'.os = s₁.os ∧ AllBare s'.gens) s₁ := by
    intro H hO hS hok hA hK
    have base_of : ∀ {b : Addr} {o : Obj}, s₁.heap.get? b = some o -> H b = none -> (hidT s₁.heap H).get? b = some o := fun e n => hidT_get e n
    have noA : ∀ {b : Addr} {o : Obj} {es : Array DictEntry} {ep : Nat}, s₁.heap.get? b = some o -> o.data = .dict es ep -> H b = none := fun {b o es ep} e d => by
      cases q : H b with
      | none => rfl
      | some u =>
        have e' : b = a := hA b (by rw [q]; simp)
        subst e'
        rw [ha] at e; cases e
        have d' : Data.seq vs.toArray _ = Data.dict es ep := d
        cases d'
    have nsK : ∀ {b : Addr} {m : Str -> Option Value}, s₁.heap.Ns b m -> (hidT s₁.heap H).Ns b m := fun {b m} ⟨o, es, ep, e, d, r⟩ => ⟨o, es, ep, base_of e (noA e d), d, r⟩
    have hKb : K.In (hidT s₁.heap H) := fun b o e => base_of (KX b o e) (by
      cases q : H b with
      | none => rfl
      | some u =>
        have e' : b = a := hA b (by rw [q]; simp)
        subst e'
        rw [hK (by rw [q]; simp)] at e; cases e)
    have hM : Mod K mg (hidT s₁.heap H) := ⟨hKb, nsK hns, ⟨mb, nsK hb, hbb⟩, let ⟨mc, h1, h2⟩ := hlim; ⟨mc, nsK h1, h2⟩⟩
    have e0 : Env0 P w K mg (hidT s₁.heap H) callerA [] s₁ H := ⟨rfl, hM, fun b o e => of_hidT e, Nat.le_of_eq (qR7 _ _), trivial, fun b hb => absurd (show b ∈ ([] : List Addr) from hb) (by simp), hok, .of_eq hg⟩
    refine codeAny_mono ((F _ hKb (nsK hns)).run callerA [] s₁ H ⟨[.ref a], []⟩ [.ref a] [.ref a] _ _ hr e0 (hbind s₁ (.ref a)) (.cons rfl .nil) (hsp H hO hS)) fun r s' h => ?_
    cases r with
    | error e => exact (hCX H e s' h).elim
    | ok fl =>
      cases fl with
      | next => exact False.elim h
      | brk => exact False.elim h
      | cont => exact False.elim h
      | ret u =>
        obtain ⟨v, H', os, bare, un, hok', r', q⟩ := h
        have q' : v = .bl true := q
        subst q'
        obtain rfl : u = Value.bool true := r'
        refine ⟨rfl, OldK.of_keep fun b o e => ?_, os, bare⟩
        cases q : H b with
        | none => exact un.keep b o e q (by intro z; exact absurd (show b ∈ ([] : List Addr) from z) (by simp)) (by simp)
        | some u =>
          rcases hO b with z | ⟨ob, xs, z⟩
          . rw [q] at z; cases z
          . have z2 := un.frzs b ob _ z
            obtain ⟨e1, _⟩ := hok b _ z
            obtain ⟨e2, _⟩ := hok' b _ z2
            rw [e] at e1; cases e1
            exact e2
  cases hk : K.lookup a with
  | some o =>
    have e := KX a o hk
    rw [ha] at e
    cases e
    refine core (fun _ => none) (fun _ => .inl rfl) (.inr ⟨_, vs.toArray, _, hk, rfl, rfl, rfl, by rw [List.size_toArray, lenV]; exact hl, by simpa using rv⟩) (fun b u z => by have z' : (none : Option HO) = some u := z; cases z') (fun b z => absurd rfl z) fun z => absurd rfl z
  | none =>
    refine core (fun b => if b = a then some (.frz { cls := .type "list", data := .seq vs.toArray } (.lst (ns.map V.int))) else none) (fun b => ?_) (.inl (.inr ⟨{ cls := .type "list", data := .seq vs.toArray }, if_pos rfl⟩)) (fun b u z => ?_) (fun b z => ?_) fun _ => hk
    . by_cases hb : b = a
      . exact .inr ⟨_, _, if_pos hb⟩
      . exact .inl (if_neg hb)
    . by_cases hb : b = a
      . have z' := (if_pos hb).symm.trans z
        cases z'
        subst hb
        exact ⟨ha, by rw [List.length_map]; exact hl, vs, _, rv, ha⟩
      . have z' := (if_neg hb).symm.trans z
        cases z'
    . by_cases hb : b = a
      . exact hb
      . exact absurd (if_neg hb) z
end L2
namespace L2
open PySem PySem.Spec PyProof.Rows
theorem walk_of {l : PySem.W.OpenLaw} {n k : Nat} {q : Program} {loose : List Str} {XP : (Str -> Option Value) -> Heap -> Prop} {YP : World -> Heap -> Prop} {d : DefRec} {K : Params -> PySem.W.Frag} {CX : World -> CXT} {sp : World -> Sp} {x : Str}
    (hn : l.most = some n) (hn2 : n ≤ sizeLine) (hdf : d.params.defaults = []) (hr : Room k callerA)
    (hY : ∀ (w : World) (h : Heap), YP w h -> (K w.params).In h)
    (F : ∀ (w : World) (mg : Str -> Option Value) (fa : Addr) (h : Heap), (K w.params).In h -> h.Ns mainGlobals mg -> mg d.name = some (.ref fa) ->
      ∃ fd : FuncData, (∀ (s : Shared) (u : Value), BindsTo s fd ⟨[u], []⟩ [(x, u)]) ∧
        ∀ base : Heap, (K w.params).In base -> base.Ns mainGlobals mg -> FnOk l.prog w (K w.params) mg base (CX w) k fa fd [x] (sp w))
    (hsp : ∀ (w : World) (H : Hp) (a : Addr) (ns : List Int), ns.length ≤ n -> Only H -> SqL (K w.params) H a (ns.map V.int) -> sp w [.ref a] H (fun v _ => v = .bl true) fun _ _ _ => False)
    (hCX : ∀ (w : World) (H : Hp) (s : Shared) (e : Value) (s' : Shared), CX w [] H s (fun _ _ _ => False) e s' -> False) :
    PySem.W.WalkO q loose XP YP l.row.toRowW d [] (fun f vs => PySem.call f vs) := by
  refine Att.attach_call hn hdf fun w s₀ s₁ mg mb fa o pm cd doc a vs ns G Y ho hd hcd hmg hobj hints hlen hg => ?_
  have KX := hY w _ Y
  obtain ⟨fd, hb, hF⟩ := F w mg fa _ KX G.T.g hmg
  exact law_call KX G.T.g G.T.b G.T.builtins G.T.nolimit hg hobj hints (Nat.le_trans hlen hn2) hr hF hb (fun H hO hS => hsp w H a ns hlen hO hS) fun H e s' => hCX w H s₁ e s'
end L2
namespace L2
open PySem PySem.Spec PyProof.Rows
abbrev CX0 : CXT := fun _ _ _ _ _ _ => False
abbrev E0 : XK := fun _ _ _ => False
theorem qb9 {X : Cx} : qu2 CX0 X E0 := fun _ _ _ _ _ _ _ h => h.elim
structure Fun (K : PySem.W.Frag) (x qual : Str) (st : Stmt) (f : Addr) (fd : FuncData) : Prop where
  ex : ∃ (oc : Value) (od : Option Addr) (kV doc pm : Value) (an : Option Addr) (cdv ct : Value) (osl : Array (Option Value)),
    fd = PySem.W.fnOf x qual (qj0 st) (qh5 st) (qa7 st) .none kV doc pm an cdv ct ∧ K.lookup f = some ⟨oc, od, .func fd, osl⟩ ∧ PySem.W.codeIn K cdv qual = true
  kp : PySem.W.keepIn K (.ref f) = true
section
variable {P : Program} {w : World} {K : PySem.W.Frag} {mg : Str -> Option Value} {base : Heap}
theorem Fun.ok {x qual : Str} {st : Stmt} {f : Addr} {fd : FuncData} {N ps : List Str} {k : Nat} {sp : Sp} (F : Fun K x qual st f fd) (S : FnScope N ps (qa7 st)) (len : ∀ vs H Q E, sp vs H Q E -> vs.length = ps.length)
    (hbody : ∀ (cdv : Value) (A : Around) (outer : List Env) (s : Shared) (H : Hp) (vs : List V) (Q : VK) (E : XK), Room k (A.deeper (envOfC qual (qa7 st) s.heap.objs.size f cdv)) -> sp vs H Q E ->
      ∃ t, PSs (cxOf CX0 P w K mg base N qual (qa7 st) f cdv A outer s H E).nox (qh5 st) t ∧ t { nx := fun _ H' => Q .non H', rt := Q } (start N vs) H) : FnOk P w K mg base CX0 (k + 1) f fd ps sp := by
  obtain ⟨oc, od, kV, doc, pm, an, cdv, ct, osl, rfl, lk, hcd⟩ := F.ex
  refine fn_of lk hcd S len fun A outer s H vs Q E hr hsp => ?_
  obtain ⟨t, h, q⟩ := hbody cdv A outer s H vs Q E hr hsp
  exact ⟨t, h.nox, q⟩
theorem Fun.binds {x qual : Str} {st : Stmt} {f : Addr} {fd : FuncData} {ps : List Str} (F : Fun K x qual st f fd)
    (h : ∀ (kV doc pm : Value) (an : Option Addr) (cdv ct : Value) (us : List Value), us.length = ps.length -> bindArgs (PySem.W.fnOf x qual (qj0 st) (qh5 st) (qa7 st) .none kV doc pm an cdv ct) ⟨us, []⟩ = pure (ps.zip us)) : Binds K fd ps [] := by
  obtain ⟨oc, od, kV, doc, pm, an, cdv, ct, osl, rfl, lk, hcd⟩ := F.ex
  exact .all (h kV doc pm an cdv ct)
theorem qT6 {x qual : Str} {st : Stmt} {f : Addr} {oc : Value} {od an : Option Addr} {osl : Array (Option Value)} {kV doc pm cdv ct : Value} (l : K.lookup f = some ⟨oc, od, .func (PySem.W.fnOf x qual (qj0 st) (qh5 st) (qa7 st) .none kV doc pm an cdv ct), osl⟩)
    (c : PySem.W.codeIn K cdv qual = true) (k : PySem.W.keepIn K (.ref f) = true) : Fun K x qual st f (PySem.W.fnOf x qual (qj0 st) (qh5 st) (qa7 st) .none kV doc pm an cdv ct) := ⟨⟨oc, od, kV, doc, pm, an, cdv, ct, osl, rfl, l, c⟩, k⟩
end
theorem qb8 {n : Nat} (h : n ≤ 1000) : n < sizeLine := Nat.lt_of_le_of_lt h (by decide)
section
variable {X : Cx}
theorem pv (i : Nat) {x : Str} {pos : Pos} (hN : X.N[i]? = some x := by rfl) (hv : Vis X.env.scope x := by first | exact Or.inl rfl | exact Or.inr (Or.inl rfl) | exact Or.inr (Or.inr rfl)) (hd : (x == ("__debug__" : Str)) = false := by decide)
    (hcd : (x == ("__classdict__" : Str)) = false := by decide) : PE X (.Name x pos) (tVar i) := pe_var hN hv hd hcd
end
theorem iteF {A B : Prop} (h : B) : if false = true then A else B := by
  rw [if_neg Bool.false_ne_true]
  exact h
theorem iteT {A B : Prop} (h : A) : if true = true then A else B := by
  rw [if_pos rfl]
  exact h
theorem ite2 {c A B : Prop} [Decidable c] (h1 : c -> A) (h2 : ¬ c -> B) : if c then A else B := by
  by_cases h : c
  . rw [if_pos h]
    exact h1 h
  . rw [if_neg h]
    exact h2 h
theorem iteNS {c A B : Prop} [Decidable c] (hc : c) (h : B) : if (!decide c) = true then A else B := by
  rw [decide_eq_true hc]
  exact iteF h
def Same (H H' : Hp) : Prop := ∀ b o, H b = some o -> H' b = some o
theorem Same.refl (H : Hp) : Same H H := fun _ _ h => h
theorem Same.trans {H H1 H2 : Hp} (a : Same H H1) (b : Same H1 H2) : Same H H2 := fun c o h => b c o (a c o h)
theorem Same.free {H H' : Hp} (e : Same H H') {l : Addr} (h : H' l = Option.none) : H l = Option.none := by
  cases q : H l with
  | none => rfl
  | some o =>
    rw [e l o q] at h
    cases h
theorem Same.seq {K : PySem.W.Frag} {H H' : Hp} {a : Addr} {xs : List V} (e : Same H H') (h : SqL K H a xs) : SqL K H' a xs := by
  rcases h with (h | ⟨o, h⟩) | h
  . exact .inl (.inl (e _ _ h))
  . exact .inl (.inr ⟨o, e _ _ h⟩)
  . exact .inr h
end L2
set_option Elab.async false
set_option linter.all false
set_option maxRecDepth 100000
set_option maxHeartbeats 4000000
namespace L2
open PySem PySem.Spec PyProof.Rows
section
variable {X : Cx}
theorem qq8 {env : Env} : ∀ {names : List (Str × NameKind)} {acc : List (Str × Addr)},
    (∀ p ∈ names, p.2 = .free -> ∃ c, cellOf env p.1 = pure c ∧ env.cells.lookup p.1 = some c) ->
    (∀ y c, acc.lookup y = some c -> env.cells.lookup y = some c) ->
    ∃ cl : List (Str × Addr), (forIn names acc fun p cs => (if p.2 == .free then (do let c ← cellOf env p.1; pure (ForInStep.yield ((p.1, c) :: cs))) else pure (ForInStep.yield cs) : Sem (ForInStep (List (Str × Addr))))) = pure cl ∧
      (∀ y c, cl.lookup y = some c -> env.cells.lookup y = some c) ∧ (∀ y, (acc.lookup y).isSome = true -> (cl.lookup y).isSome = true) ∧ ∀ p ∈ names, p.2 = .free -> (cl.lookup p.1).isSome = true
  | [], acc, _, ha => ⟨acc, by simp, ha, fun _ h => h, fun _ h => absurd h (by simp)⟩
  | (n, k) :: r, acc, hn, ha => by
    by_cases hk : k = .free
    . subst hk
      obtain ⟨c, e1, e2⟩ := hn (n, .free) List.mem_cons_self rfl
      obtain ⟨cl, h1, h2, h3, h4⟩ := qq8 (env := env) (names := r) (acc := (n, c) :: acc) (fun p hp => hn p (List.mem_cons_of_mem _ hp)) (fun y d h => by
        rw [List.lookup_cons] at h
        cases hy : y == n with
        | true => rw [hy] at h; cases h; rw [eq_of_beq hy]; exact e2
        | false => rw [hy] at h; exact ha y d h)
      refine ⟨cl, ?_, h2, fun y hy => h3 y (by
        rw [List.lookup_cons]
        cases y == n with
        | true => rfl
        | false => exact hy), fun p hp hf => ?_⟩
      . rw [List.forIn_cons]
        have e1' : cellOf env n = pure c := e1
        simp only [beq_self_eq_true, if_true, e1', pure_bind]
        exact h1
      . rcases List.mem_cons.mp hp with rfl | hp
        . exact h3 _ (by simp [List.lookup_cons])
        . exact h4 p hp hf
    . obtain ⟨cl, h1, h2, h3, h4⟩ := qq8 (env := env) (names := r) (acc := acc) (fun p hp => hn p (List.mem_cons_of_mem _ hp)) ha
      refine ⟨cl, ?_, h2, h3, fun p hp hf => ?_⟩
      . rw [List.forIn_cons]
        have : (k == NameKind.free) = false := by simpa using hk
        simp only [this, Bool.false_eq_true, if_false, pure_bind]
        exact h1
      . rcases List.mem_cons.mp hp with rfl | hp
        . exact absurd hf hk
        . exact h4 p hp hf
def qu4 (X : Cx) (scope : Scope) (cl : List (Str × Addr)) (C : Addr) (x : Str) (fp : List Addr) (s₀ : Shared) (H₀ : Hp) : Cx :=
  { X with N := x :: X.N, s₀ := s₀, H₀ := H₀, env := compEnvC scope cl C X.env, outer := X.stack, stack := X.stack, ex := fp, fn := fun _ => false, pn := [], xe := fun _ _ => False }
def tComp (wi : TI) (te : TE) : TE := fun σ H Q => wi σ H fun J H1 => ∀ D, H1 D = none -> ∃ W : Nat -> Nat -> List V -> Hp -> Prop, (∃ m, W 0 m [] (upd H1 D (.lst []))) ∧
  ∀ i m xs H2, W i m xs H2 -> H2 D = some (.lst xs) ∧ xs.length < sizeLine ∧ ((J.stop i H2 ∧ Q (.ref D) H2) ∨ (J.go i H2 ∧ ∀ y H3, J.yld i H2 y H3 ->
    te (some y :: σ) H3 fun v H4 => H4 D = some (.lst xs) ∧ ∃ m', m' < m ∧ W (i + 1) m' (xs ++ [v]) (upd H4 D (.lst (xs ++ [v])))))
theorem qC6 {prog : Program} {w : World} {A : Around} {R : Result -> Shared -> Prop} {s : Shared} {elt target iter : Expr} {scope : Scope} {pos : Pos} {it acc : Value} {env : Env} (I : Nat -> Shared -> Prop)
    (turn : ∀ n s, I n s -> wpAny (model prog w) A (pyNext it) (fun r s₁ => match r with
      | none => R (.ok .next) s₁
      | some v => wpAny (model prog w) A (letOwnedTupleGo target it v) (fun _ s₁' => wpAny (model prog w) A (assign target env v) (fun _ s₂ => wpAny (model prog w) A (eval elt env) (fun x s₃ =>
          wpAny (model prog w) A (call (.builtin "list.append") [acc, x]) (fun _ s₄ => ∃ m, m < n ∧ I m s₄) (fun _ _ => False) s₃)
          (fun _ _ => False) s₂) (fun _ _ => False) s₁') (fun _ _ => False) s₁) (fun _ _ => False) s)
    (n : Nat) (h : I n s) :
    codeAny (model prog w) A (.compLoop (.ListComp elt [⟨target, iter, [], 0⟩] scope pos) 0 it acc env) R s := by
  refine codeAny_loop rfl I (fun n s hI => ?_) n h
  show wpAny _ A ((compTurn (.ListComp elt [⟨target, iter, [], 0⟩] scope pos) 0 it acc env).onRaise (fun x => do noteFrame x env; theTreesLotGoes x)) _ _ s
  refine wpAny_noted ?_
  rw [compTurn_list1]
  refine wpAny_bind (wpAny_standAt (wpAny_bind (wpAny_mono (turn n s hI) (fun r s₁ h₁ => ?_) fun _ _ h' => h'.elim)))
  cases r with
  | none => exact wpAny_pure h₁
  | some v =>
    refine wpAny_bind (wpAny_mono h₁ (fun _ s₁' h₁' => ?_) fun _ _ h' => h'.elim)
    exact wpAny_bind (wpAny_mono h₁' (fun _ s₂ h₂ => wpAny_bind (wpAny_bind (wpAny_mono h₂ (fun x s₃ h₃ => wpAny_bind (wpAny_mono h₃
      (fun _ s₄ h₄ => wpAny_pure (wpAny_pure ⟨rfl, h₄⟩)) fun _ _ h' => h'.elim)) fun _ _ h' => h'.elim))) fun _ _ h' => h'.elim)
theorem qh6 {scope : Scope} {env : Env} (hf : ∀ p ∈ scope.names, p.2 = .free -> ∃ c, env.cells.lookup p.1 = some c) :
    ∃ cl : List (Str × Addr), closureFor scope env = pure cl ∧ (∀ y c, cl.lookup y = some c -> env.cells.lookup y = some c) ∧ ∀ p ∈ scope.names, p.2 = .free -> (cl.lookup p.1).isSome = true := by
  obtain ⟨cl, h1, h2, _, h4⟩ := qq8 (env := env) (names := scope.names) (acc := []) (fun p hp hk => by
    obtain ⟨c, e⟩ := hf p hp hk
    refine ⟨c, ?_, e⟩
    unfold cellOf
    rw [e]) (fun y c h => by simp at h)
  refine ⟨cl, ?_, h2, h4⟩
  unfold closureFor
  refine Eq.trans ?_ h1
  simp only [bind_pure]
theorem qe1 {env : Env} : ∀ {names : List (Str × NameKind)} {y : Str} {k : NameKind}, (names.map fun (n, k) => if (k == NameKind.free && env.scope.kind == .function && env.kindOf n == some .cell) then (n, NameKind.cell) else (n, k)).lookup y = some k ->
    (∀ p ∈ names, p.2 ≠ .cell) -> (k = .cell ∨ k = .free) -> ∃ p ∈ names, p.1 = y ∧ p.2 = .free
  | [], _, _, h, _, _ => by simp at h
  | (n, k0) :: r, y, k, h, hc, hk => by
    rw [List.map_cons] at h
    by_cases hy : y = n
    . subst hy
      by_cases h0 : k0 = .free
      . exact ⟨(y, k0), List.mem_cons_self, rfl, h0⟩
      . exfalso
        have e : (k0 == NameKind.free) = false := by simpa using h0
        simp only [e, Bool.false_and, Bool.false_eq_true, if_false, List.lookup_cons, beq_self_eq_true, Option.some.injEq] at h
        rcases hk with z | z
        . exact hc _ List.mem_cons_self (h.trans z)
        . exact h0 (h.trans z)
    . have hb : (y == n) = false := by simpa using hy
      have h' : (r.map fun (n, k) => if (k == NameKind.free && env.scope.kind == .function && env.kindOf n == some .cell) then (n, NameKind.cell) else (n, k)).lookup y = some k := by
        revert h
        dsimp only
        split <;> (intro h; simpa only [List.lookup_cons, hb] using h)
      obtain ⟨p, hp, e⟩ := qe1 h' (fun p hp => hc p (List.mem_cons_of_mem _ hp)) hk
      exact ⟨p, List.mem_cons_of_mem _ hp, e⟩
theorem qk0 {env : Env} : ∀ {names : List (Str × NameKind)} {y : Str}, (names.map fun (n, k) => if (k == NameKind.free && env.scope.kind == .function && env.kindOf n == some .cell) then (n, NameKind.cell) else (n, k)).lookup y = some .local ->
    names.lookup y = some .local
  | [], _, h => by simp at h
  | (n, k0) :: r, y, h => by
    rw [List.map_cons] at h
    by_cases hy : y = n
    . subst hy
      rw [List.lookup_cons, beq_self_eq_true]
      revert h
      dsimp only
      split
      . intro h; simp [List.lookup_cons] at h
      . intro h; simpa [List.lookup_cons] using h
    . have hb : (y == n) = false := by simpa using hy
      rw [List.lookup_cons, hb]
      refine qk0 (env := env) ?_
      revert h
      dsimp only
      split <;> (intro h; simpa only [List.lookup_cons, hb] using h)
end
end L2
set_option Elab.async false
set_option linter.all false
set_option maxRecDepth 100000
set_option maxHeartbeats 4000000
namespace L2
open PySem PySem.Spec PyProof.Rows
section
variable {X : Cx}
theorem qP0 {pins : List (Addr × Obj)} {σ : St} {H : Hp} {s : Shared} {h' : Heap} {tk : Nat} {scope : Scope} {cl : List (Str × Addr)} {C : Addr} {x : Str} {fp : List Addr} {m : Str -> Option Value}
    (I : Inv X pins σ H s) (hC : C = s.heap.objs.size) (keep : ∀ b o, s.heap.get? b = some o -> h'.get? b = some o) (ns : h'.Ns C m) (hfp : ∀ b ∈ fp, FpOk X pins H b) (hfs : ∀ b ∈ fp, b < s.heap.objs.size)
    (hkind : scope.kind = .function) (hcell : ∀ y ∈ scope.names, y.2 ≠ .cell) (hloc : ∀ y ∈ X.N, scope.names.lookup y ≠ some .local)
    (hcl1 : ∀ y c, cl.lookup y = some c -> X.env.cells.lookup y = some c) (hcl2 : ∀ p ∈ scope.names, p.2 = .free -> (cl.lookup p.1).isSome = true)
    (hfr : ∀ p ∈ scope.names, p.2 = .free -> Vis X.env.scope p.1 ∧ X.env.scope.names.lookup p.1 ≠ some .local) :
    Inv (qu4 X scope cl C x fp s H) [] (none :: σ) H { s with heap := h', toks := tk } := by
  have cells : ∀ y c, cl.lookup y = some c -> ∃ v, s.heap.IsCell c v := fun y c e => I.cell y c (hcl1 y c e)
  have celllt : ∀ y c, cl.lookup y = some c -> c < s.heap.objs.size := fun y c e => by
    obtain ⟨v, q⟩ := cells y c e
    exact q.lt
  have cellk : ∀ c v, s.heap.IsCell c v -> h'.IsCell c v := fun c v ⟨o, e, d⟩ => ⟨o, keep c o e, d⟩
  have stkl : ∀ b ∈ frs X.stack, ∃ o, s.heap.get? b = some o := fun b hb => by
    rcases List.mem_cons.mp (I.stkSub b hb) with e | hb
    . obtain ⟨_, ⟨o, _, _, ho, _⟩, _⟩ := I.loc
      exact ⟨o, by rw [e]; exact ho⟩
    . obtain ⟨_, o, ho, _⟩ := I.funs.mem hb
      exact ⟨o, ho⟩
  refine ⟨⟨I.ok.mod, hkind, I.ok.glob, I.ok.blt, Nat.le_of_eq hC.symm, fun y z c h1 h2 => I.ok.inj y z c (hcl1 y c h1) (hcl1 z c h2), fun y hy => ?_, fun y c h _ => Bool.noConfusion h, I.ok.hd, I.ok.frames, .inl rfl, fun b hb => ⟨?_, fun y c e z => ?_⟩, I.bs,
    Nat.le_trans I.ok.bsz I.sz, fun b o e hb => ?_, fun b hb hf => ?_, I.stack, I.stkFree⟩, rfl, I.bare, Un.kept keep, ⟨m, ns, fun i y v h1 h2 h3 => ?_⟩, fun y c e => ?_, ?_, fun y c e => ?_, fun p hp => absurd hp (by simp [qu4]), I.hok.kept keep, ?_⟩
  ·
    have hy : (relabel scope X.env).names.lookup y = some .cell ∨ (relabel scope X.env).names.lookup y = some .free := hy
    obtain ⟨p, hp, e1, e2⟩ : ∃ p ∈ scope.names, p.1 = y ∧ p.2 = .free := by
      rcases hy with hy | hy
      . exact qe1 hy hcell (.inl rfl)
      . exact qe1 hy hcell (.inr rfl)
    obtain ⟨c, e⟩ := Option.isSome_iff_exists.mp (hcl2 p hp e2)
    exact ⟨c, by rw [← e1]; exact e⟩
  . show b ≠ C
    rw [hC]; exact Nat.ne_of_lt (hfs b hb)
  . exact (hfp b hb).2.2.2.2.1 y c (hcl1 y c e) z
  . rcases (hfp b hb).2.2.2.1 with z | z
    . exact I.ok.noex b o e z
    . exact absurd (Nat.lt_of_lt_of_le (Heap.lt_size (I.ok.bs b o e).1) z) (Nat.lt_irrefl _)
  . rcases List.mem_cons.mp (I.stkSub b hf) with z | z
    . exact (hfp b hb).2.1 z
    . exact (hfp b hb).2.2.1 z
  ·
    cases i with
    | zero => simp at h2
    | succ j =>
      have h1 : X.N[j]? = some y := by simpa [qu4] using h1
      have h2 : σ[j]? = some (some v) := by simpa using h2
      have h3 : (relabel scope X.env).names.lookup y = some .local ∨ (relabel scope X.env).names.lookup y = some .cell ∨ (relabel scope X.env).names.lookup y = some .free := h3
      rcases h3 with h3 | h3
      . exact absurd (qk0 h3) (hloc y (List.mem_of_getElem? h1))
      . obtain ⟨p, hp, e1, e2⟩ : ∃ p ∈ scope.names, p.1 = y ∧ p.2 = .free := by
          rcases h3 with h3 | h3
          . exact qe1 h3 hcell (.inl rfl)
          . exact qe1 h3 hcell (.inr rfl)
        obtain ⟨hv, hnl⟩ := hfr p hp e2
        rw [e1] at hv hnl
        obtain ⟨m0, _, hl0⟩ := I.loc
        obtain ⟨u, ru, lk⟩ := hl0 j y v h1 h2 hv
        rcases lk with ⟨lk, _⟩ | ⟨_, c, hc, hcv⟩
        . exact absurd lk hnl
        . obtain ⟨c', e'⟩ := Option.isSome_iff_exists.mp (hcl2 p hp e2)
          rw [e1] at e'
          have := hcl1 y c' e'
          rw [hc] at this
          cases this
          refine ⟨u, ru, .inr ⟨h3, c, e', cellk c _ hcv⟩⟩
  . obtain ⟨v, q⟩ := cells y c e
    exact ⟨v, cellk c v q⟩
  . show H C = none
    exact I.hok.fresh (Nat.le_of_eq hC.symm)
  . exact I.freeC y c (hcl1 y c e)
  . show (none :: σ).length = (x :: X.N).length
    simp [I.len]
theorem comp_end {pins : List (Addr × Obj)} {σ σ' : St} {H H' : Hp} {s s' : Shared} {h' : Heap} {scope : Scope} {cl : List (Str × Addr)} {C : Addr} {x : Str} {fp : List Addr}
    (I : Inv X pins σ H s) (hC : C = s.heap.objs.size) (hfp : ∀ b ∈ fp, FpOk X pins H b) (J : Inv (qu4 X scope cl C x fp s H) [] σ' H' s') (sb : Heap.SameBut C s'.heap h') : Inv X pins σ H' { s' with heap := h' } := by
  have ne : ∀ b o, s.heap.get? b = some o -> b ≠ C := fun b o e => by rw [hC]; exact Nat.ne_of_lt (Heap.lt_size e)
  have B : Un (frs X.stack) fp H H' s.heap s'.heap := J.base
  have U : Un (frs X.stack) fp H H' s.heap h' :=
    ⟨fun b o e n hb hx => (sb.2 b (ne b o e)).trans (B.keep b o e n hb hx), fun b o e n hb hx => by
      obtain ⟨sl, q⟩ := B.slot b o e n hb hx
      exact ⟨sl, (sb.2 b (ne b o e)).trans q⟩, B.free, fun b o e hx => by
      obtain ⟨o', q⟩ := B.there b o e hx
      exact ⟨o', (sb.2 b (ne b o e)).trans q⟩, B.tups, B.frzs, B.tbls⟩
  have hf : H' C = none := J.free
  have K : HOk X.prog X.w H' h' := fun b o e => (J.hok b o e).stay (fun c u hc q => (sb.2 c (by
    rintro rfl
    rcases hc with z | z
    . rw [z, e] at hf; cases hf
    . rw [hf] at z; cases z)).trans q) (fun _ q => q) fun _ _ q => q
  refine I.call' (s' := { s' with heap := h' }) (ch := fp) J.os U K J.bare fun b hb => ?_
  obtain ⟨_, h2, _, h4, h5, h6⟩ := hfp b hb
  exact ⟨h4, h2, h5, h6⟩
theorem pe_comp {x : Str} {px pos : Pos} {elt iter : Expr} {scope : Scope} {wi : TI} {te : TE} (hc : X.calm = true) (hN : X.N.Nodup) (hi : PI X (.Name x px) iter wi) (he : ∀ cl C fp s₀ H₀, PE (qu4 X scope cl C x fp s₀ H₀) elt te)
    (hkind : scope.kind = .function) (hcell : ∀ y ∈ scope.names, y.2 ≠ .cell) (hnames : ∀ y ∈ scope.names, y.2 = .local -> scope.names.lookup y.1 = some .local) (hx : scope.names.lookup x = some .local)
    (hloc : ∀ y ∈ X.N, scope.names.lookup y ≠ some .local) (hfr : ∀ p ∈ scope.names, p.2 = .free -> Vis X.env.scope p.1 ∧ X.env.scope.names.lookup p.1 ≠ some .local)
    (hs : ∀ x, foldedSetIterable iter X.env x = pure x := by intro _; rfl) : PE X (.ListComp elt [⟨.Name x px, iter, [], 0⟩] scope pos) (tComp wi te) := by
  intro pins s σ H Q I h
  rw [eval_ListComp]
  obtain ⟨cl, hclos, hcl1, hcl2⟩ := qh6 (scope := scope) (env := X.env) (fun p hp hk => by
    obtain ⟨hv, hn⟩ := hfr p hp hk
    refine I.ok.has p.1 ?_
    rcases hv with z | z
    . exact absurd z hn
    . exact z)
  refine wpAny_comprehension_free (use := none) rfl hs hclos hkind hnames (thn (hi pins s σ H _ I h) fun v s1 h1 => thn h1 fun itv s2 h2 => ?_)
  obtain ⟨it, fp, tn, J, H2, rfl, I2, T, st2, f2, q⟩ := h2
  have hD : H2 s2.heap.objs.size = none := I2.hok.fresh (Nat.le_refl _)
  obtain ⟨W, ⟨m0, w0⟩, turn⟩ := q _ hD
  refine wpAny_newObj_type (wpAny_newFunctionEnv hcell (by intro y hy; simp at hy) (fun h₁ hns₁ hsb₁ => ?_) hkind)
  dsimp only at hns₁ hsb₁ ⊢
  have I3 : Inv X pins σ (upd H2 s2.heap.objs.size (.lst [])) { s2 with heap := s2.heap.push { cls := .type "list", dict := none, data := .seq ([] : List Value).toArray } } :=
    I2.laid (t' := s2.toks) (fun b u e => Heap.get?_push_of_some _ e) (Nat.le_refl _) ⟨Nat.zero_le _, [], 0, .nil, Heap.get?_push_size _ rfl⟩
  have fpn : ∀ b ∈ fp, b ≠ s2.heap.objs.size := fun b hb => by
    obtain ⟨o, e, _⟩ := T.obj 0 s2.heap st2 b hb
    exact Nat.ne_of_lt (Heap.lt_size e)
  have fplt : ∀ b ∈ fp, b < (s2.heap.push { cls := .type "list", dict := none, data := .seq ([] : List Value).toArray }).objs.size := fun b hb => by
    obtain ⟨o, e, _⟩ := T.obj 0 s2.heap st2 b hb
    rw [Heap.size_push]; exact Nat.lt_succ_of_lt (Heap.lt_size e)
  have f3 : ∀ b ∈ fp, FpOk X pins (upd H2 s2.heap.objs.size (.lst [])) b := fun b hb => ⟨by rw [qa6 (fpn b hb)]; exact (f2 b hb).1, (f2 b hb).2⟩
  generalize hg2 : s2.heap.push { cls := .type "list", dict := none, data := .seq ([] : List Value).toArray } = g2 at hns₁ hsb₁ I3 fplt ⊢
  have keep : ∀ b o, g2.get? b = some o -> h₁.get? b = some o := fun b o e => (hsb₁.2 b (Nat.ne_of_lt (Heap.lt_size e))).trans (Heap.get?_push_of_some _ e)
  have J0 := qP0 (x := x) (tk := s2.toks + ([] : List (Str × Value)).length) I3 (C := g2.objs.size) rfl keep hns₁ f3 fplt hkind hcell hloc hcl1 hcl2 hfr
  generalize hY : qu4 X scope cl g2.objs.size x fp { s2 with heap := g2 } (upd H2 s2.heap.objs.size (.lst [])) = Y at J0
  have eY : PE Y elt te := by rw [← hY]; exact he _ _ _ _ _
  have eP : Y.prog = X.prog := by rw [← hY]; rfl
  have eW : Y.w = X.w := by rw [← hY]; rfl
  have eK : Y.K = X.K := by rw [← hY]; rfl
  have eA : Y.A = X.A := by rw [← hY]; rfl
  have eC : Y.calm = true := by rw [← hY]; exact hc
  have eE : Y.env = compEnvC scope cl g2.objs.size X.env := by rw [← hY]; rfl
  have eX : Y.xe = fun _ _ => False := by rw [← hY]; rfl
  have eN : Y.N = x :: X.N := by rw [← hY]; rfl
  have eEx : Y.ex = fp := by rw [← hY]; rfl
  have eFs : Y.fs = frs X.stack := by rw [← hY]; rfl
  have ePn : Y.pn = [] := by rw [← hY]; rfl
  have ndY : Y.N.Nodup := by
    rw [eN]
    exact List.nodup_cons.mpr ⟨fun z => hloc x z hx, hN⟩
  have locY : Y.env.scope.names.lookup x = some .local := by rw [eE]; exact lookup_relabel_local hx
  have fpY : ∀ {H' : Hp}, (∀ b ∈ fp, H' b = none) -> ∀ b ∈ fp, FpOk Y [] H' b := fun hn b hb => by
    have g := f3 b hb
    refine ⟨hn b hb, ?_, ?_, .inl (by rw [eEx]; exact hb), ?_, fun p hp => absurd hp (by rw [ePn]; simp)⟩
    . rw [eE]; exact Nat.ne_of_lt (fplt b hb)
    . rw [eFs]
      intro z
      rcases List.mem_cons.mp (I3.stkSub b z) with z | z
      . exact g.2.1 z
      . exact g.2.2.1 z
    . rw [eE]
      exact fun y c e => g.2.2.2.2.1 y c (hcl1 y c e)
  have loop : ∀ s₃ : Shared, s₃ = { s2 with heap := h₁, toks := s2.toks + ([] : List (Str × Value)).length } ->
      codeAny (model X.prog X.w) X.A (.compLoop (.ListComp elt [⟨.Name x px, iter, [], 0⟩] scope pos) 0 (.ref it) (.ref s2.heap.objs.size) (compEnvC scope cl g2.objs.size X.env))
        (compPost (model X.prog X.w) X.A X.xe none (EP X pins σ Q) (.ref s2.heap.objs.size) g2.objs.size) s₃ := by
    rintro s₃ rfl
    refine qC6 (fun n s' => ∃ i xs H' o, Inv Y [] (o :: σ) H' s' ∧ tn i s'.heap ∧ (∀ b ∈ fp, H' b = none) ∧ W i n xs H') ?_ m0
      ⟨0, [], _, none, J0, T.keep 0 _ _ st2 (fun b hb o e => keep b o (by rw [← hg2]; exact Heap.get?_push_of_some _ e)), fun b hb => (f3 b hb).1, w0⟩
    rintro n s3 ⟨i, xs, H3, o, I4, st3, fr3, w3⟩
    obtain ⟨hDx, hlx, alt⟩ := turn i n xs H3 w3
    rcases alt with ⟨stop, qn⟩ | ⟨go, step⟩
    . have D1 := T.done Y eP eW eK eC i [] s3 _ H3 (fun _ _ => False) I4 (fpY fr3) st3 stop
      rw [eA] at D1
      refine thn D1 fun r s4 ⟨hr, I5⟩ => ?_
      subst hr
      obtain ⟨m4, hns4, _⟩ := id I5.loc
      rw [eE] at hns4
      refine ⟨m4, hns4, fun h' sb => ⟨.ref _, H3, ?_, rfl, qn⟩⟩
      rw [← hY] at I5
      exact comp_end I3 rfl f3 I5 sb
    . have G1 := T.item Y eP eW eK eC i [] s3 _ H3 (fun _ _ => False) I4 (fpY fr3) st3 go
      rw [eA] at G1
      refine thn G1 fun r s4 ⟨u, hr, h4⟩ => ?_
      subst hr
      refine thn h4 fun _ s5 ⟨y, H5, I5, r5, y5, st5, fr5⟩ => ?_
      have I5' := I5.pinned (fpY fr5) (T.obj _ _ st5)
      have S1 := (qc0 (X := Y) (pos := px) (i := 0) ndY (by rw [eN]; rfl) (.inl locY) (.inr locY)) _ s5 _ H5 y u (fun σ6 H6 => σ6 = some y :: σ ∧ H6 = H5) I5' r5 ⟨rfl, rfl⟩
      rw [eP, eW, eA, eE, eX] at S1
      refine thn S1 fun _ s6 ⟨σ6, H6, I6, e6, e6'⟩ => ?_
      subst e6 e6'
      have S2 := eY _ s6 _ _ _ I6 (step y _ y5)
      rw [eP, eW, eA, eE, eX] at S2
      refine thn S2 fun xv s7 ⟨v7, H7, I7, r7, hD7, m', hm', w7⟩ => ?_
      have S3 := qj3 (X := Y) _ s7 _ H7 (.ref s2.heap.objs.size) [v7] (.ref s2.heap.objs.size) [xv] (fun _ H8 => H8 = upd H7 s2.heap.objs.size (.lst (xs ++ [v7]))) I7 rfl (.cons r7 .nil) ⟨_, xs, v7, rfl, rfl, hD7, hlx, rfl⟩
      rw [eP, eW, eA, eX] at S3
      refine thn S3 fun _ s8 ⟨v8, H8, I8, _, e8⟩ => ?_
      subst e8
      have pin : ∀ b ∈ fp, ∀ ob, s5.heap.get? b = some ob -> s8.heap.get? b = some ob ∧ (upd H7 s2.heap.objs.size (.lst (xs ++ [v7]))) b = none := fun b hb ob e => by
        have z := I8.pin (b, ob) (List.mem_append_right _ (List.mem_append_right _ (qh1 hb e)))
        exact ⟨z.1, z.2.1⟩
      refine ⟨m', hm', i + 1, xs ++ [v7], _, some y, I8.unpinned, T.keep _ _ _ st5 (fun b hb ob e => (pin b hb ob e).1), fun b hb => ?_, w7⟩
      obtain ⟨ob, e, _⟩ := T.obj _ _ st5 b hb
      exact (pin b hb ob e).2
  exact codeAny_compStart_list (loop _ rfl) (T.self _ 0 _ _ _ (T.keep 0 _ _ st2 (fun b hb o e => keep b o (by rw [← hg2]; exact Heap.get?_push_of_some _ e))) (loop _ rfl))
end
end L2
set_option Elab.async false
set_option linter.all false
set_option maxRecDepth 100000
set_option maxHeartbeats 4000000
namespace L2
open PySem PySem.Spec PyProof.Rows PySem.W
def Noted (h base : Heap) (e : Addr) (cls fl : Value) : Prop := ∃ oe vs T oT ts, h.get? e = some oe ∧ oe.cls = cls ∧ oe.data = .fields vs ∧ vs[1]? = some (.ref T) ∧ vs[2]? = some .none ∧ base.get? T = none ∧ T ≠ e ∧ h.get? T = some oT ∧ oT.data = .fields ts ∧ ts[3]? = some fl
structure Over (base : Heap) (l : List Env) (e : Addr) (cls fl : Value) (h : Heap) : Prop where
  stays : base.StaysIn h
  new : base.get? e = none
  frames : h.FunFrames base l
  noted : Noted h base e cls fl
section
variable {M : Model} {A : Around} {E : Value -> Shared -> Prop} {s : Shared} {base : Heap} {env : Env} {outer : List Env} {L e : Addr} {oe : Obj} {vs : Array Value} {head : Value} {hadNext : Bool}
end
end L2
set_option Elab.async false
set_option linter.all false
set_option maxRecDepth 100000
set_option maxHeartbeats 4000000
namespace L2
open PySem PySem.Spec PyProof.Rows
theorem ObjOk.there {P : Program} {w : World} {H : Hp} {h : Heap} {a : Addr} {o : HO} (x : ObjOk P w H h a o) : ∃ ob, h.get? a = some ob := by
  cases o with
  | lst xs => obtain ⟨_, _, _, _, e⟩ := x; exact ⟨_, e⟩
  | tup xs => obtain ⟨_, _, _, o, e, _⟩ := x; exact ⟨_, e⟩
  | dK kvs => obtain ⟨_, _, _, _, o, _, _, e, _⟩ := x; exact ⟨_, e⟩
  | dT kvs => obtain ⟨_, _, _, _, o, _, _, e, _⟩ := x; exact ⟨_, e⟩
  | set S n => obtain ⟨o, _, _, _, e, _⟩ := x; exact ⟨_, e⟩
  | ins C dx fs => obtain ⟨_, _, _, e, _⟩ := x; exact ⟨_, e⟩
  | own y => exact x
  | xd fs => obtain ⟨_, ⟨_, _, _, e, _⟩, _⟩ := x; exact ⟨_, e⟩
  | rng lo hi => obtain ⟨_, _, _, e⟩ := x; exact ⟨_, e⟩
  | frz ob u => obtain ⟨e, _⟩ := x; exact ⟨_, e⟩
  | tbl ps => exact ⟨_, (show h.get? a = some _ from x)⟩
  | met f y => exact ⟨_, (show h.get? a = some _ from x)⟩
  | ext φ => exact x.2.1
section
variable {P : Program} {w : World} {H H1 H' : Hp} {h h1 h' : Heap} {outer : List Env} {env : Env} {x L : Addr} {cls : Value}
end
section
variable {P : Program} {w : World} {K : PySem.W.Frag} {mg : Str -> Option Value} {base : Heap} {N : List Str} {qual : Str} {scope : Scope} {f : Addr} {cd : Value} {A : Around} {outer : List Env} {s₀ : Shared} {H₀ : Hp} {E : XK}
end
end L2
set_option Elab.async false
set_option linter.all false
set_option maxRecDepth 100000
set_option maxHeartbeats 4000000
namespace L2
open PySem PySem.Spec PyProof.Rows PySem.W PySem.Builtin PySem.Builtin.ObjectAttr PySem.Builtin.Getset_descriptor
section
variable {prog : Program} {w : World} {A : Around} {E : Value -> Shared -> Prop} {s : Shared} {K : Frag} {x C : Addr}
def ExcAt (x C : Addr) (h : Heap) : Prop := ∃ ox vs, h.get? x = some ox ∧ ox.cls = .ref C ∧ ox.data = .fields vs ∧ vs[2]? = some .none
theorem ExcAt.type {M : Model} {h : Heap} (I : ExcAt x C h) : Looks M h (typeOf (.ref x)) (.ref C) := by
  obtain ⟨ox, _, h1, h2, _⟩ := I
  have z := (Looks.ld (M := M) (part := none) h1).andThen (f := fun o => pure o.cls) (Looks.now (a := ox.cls))
  rw [h2] at z
  exact z
theorem exc_get {tp : Value} {R : Result -> Shared -> Prop} (X : K.In s.heap) (I : ExcAt x C s.heap) (hm : mroIn K C (.type "object") = some true) (h : R (.ok (.ret (.ref C))) s) :
    codeAny (model prog w) A (.call (.builtin "getset_descriptor.__get__") ⟨[.builtin "object.__class__", .ref x, tp], []⟩) R s := by
  obtain ⟨h1, g1, d1, t1, o1⟩ := s
  have Lt := I.type (M := model prog w)
  have Lm := looks_mroIn (M := model prog w) X hm
  refine codeAny_call_builtin KF.slot_gs.plain KF.entry_gs ?_
  refine KF.slot_gs.check _ _ _ _ _ _ _ _ KF.type_class (KF.args_gs _ _ _) ?_
  unfold Builtin.«getset_descriptor.__get__» descrGet
  rw [dga_obj]
  refine wpAny_bind (wpAny_pure ?_)
  unfold descrGetter descrCheckInstance descrNameAndClass isInstance
  simp only [KF.owner_class]
  repeat lk
  refine ⟨Code.quiet_builtin _ (by decide +kernel), codeAny_builtin KF.entry_class ?_⟩
  unfold Builtin.«object.__class__» shownTypeOf
  repeat lk
  exact h
theorem qT7 {tk : Tok} {Q : Fin -> Shared -> Prop} (X : K.In s.heap) (I : ExcAt x C s.heap)
    (ha : findIn K (.ref C) "__class__" = some (some (.builtin "object.__class__"))) (hn : specialIn K (.builtin "object.__class__") "__get__" = some (some (.builtin "getset_descriptor.__get__"))) (htk : takesIn K (.builtin "object.__class__") = some true)
    (hm : mroIn K C (.type "object") = some true) (hc : (clsIn K C).isSome = true) (h : Q (.done (.ret (.ref C))) s) : wpAny (model prog w) A (Builtin.«object.__getattribute__» ⟨[.ref x, .str "__class__" tk], []⟩) Q E s := by
  obtain ⟨hh, g, d, t, os⟩ := s
  have L0 := I.type (M := model prog w)
  have L4 : Looks (model prog w) hh (Builtin.ObjectAttr.find (.ref x) (.ref C) "__class__") (Builtin.ObjectAttr.Found.bind (.builtin "getset_descriptor.__get__") (.builtin "object.__class__")) := by
    have y1 := looks_findIn (M := model prog w) X ha
    have y2 : Looks (model prog w) hh (Builtin.ObjectAttr.getOf (some (.builtin "object.__class__"))) (some (.builtin "getset_descriptor.__get__")) := looks_specialIn X hn
    have y3 := looks_takesIn (M := model prog w) X htk
    have y4 : Looks (model prog w) hh (Builtin.ObjectAttr.dataDescriptor? (some (.builtin "object.__class__")) (some (.builtin "getset_descriptor.__get__"))) (some (.builtin "getset_descriptor.__get__", .builtin "object.__class__")) := y3.andThen .now
    exact y1.andThen (y2.andThen (y4.andThen (Looks.tag .now)))
  unfold Builtin.«object.__getattribute__»
  repeat (first | with_reducible refine L0.at ?_ | with_reducible refine L4.at ?_ | wp_step)
  refine exc_get X I hm ?_
  repeat (any_goals (first | assumption | wp_step))
theorem qT8 {M : Model} {nameV : Value} {P : Unit -> Shared -> Prop} (X : K.In s.heap) (I : ExcAt x C s.heap) (hb : mroIn K C (.type "BaseException") = some true) (h : P () s) :
    wpAny M A (checkBuiltinCall "BaseException.__getattribute__" ⟨[.ref x, nameV], []⟩) P E s := by
  have hk : builtinKind "BaseException.__getattribute__" = some .slot := by decide +kernel
  have hsplit : splitId "BaseException.__getattribute__" = some ("BaseException", "__getattribute__") := by decide +kernel
  have hargs := F.args_bexc_ga (.ref x) nameV
  obtain ⟨hh, g, d, t, os⟩ := s
  have L0 := I.type (M := M)
  have L3 := looks_mroIn (M := M) X hb
  simp only [checkBuiltinCall, hk, hsplit]
  refine wpAny_bind ?_
  unfold isInstance
  refine wpAny_bind (L0.at (L3.at ?_))
  repeat (first | assumption | wp_step)
theorem exc_call {tk : Tok} {R : Result -> Shared -> Prop} (X : K.In s.heap) (I : ExcAt x C s.heap)
    (ha : findIn K (.ref C) "__class__" = some (some (.builtin "object.__class__"))) (hn : specialIn K (.builtin "object.__class__") "__get__" = some (some (.builtin "getset_descriptor.__get__"))) (htk : takesIn K (.builtin "object.__class__") = some true)
    (hm : mroIn K C (.type "object") = some true) (hb : mroIn K C (.type "BaseException") = some true) (hc : (clsIn K C).isSome = true) (h : R (.ok (.ret (.ref C))) s) :
    codeAny (model prog w) A (.call (.builtin "BaseException.__getattribute__") ⟨[.ref x, .str "__class__" tk], []⟩) R s :=
  codeAny_call_builtin F.excAttr_ValueError.ga.plain F.entry_bexc_ga (qT8 X I hb (qT7 X I ha hn htk hm hc h))
theorem qT9 {Q : Option Value -> Shared -> Prop} (X : K.In s.heap) (I : ExcAt x C s.heap) (hga : findIn K (.ref C) "__getattribute__" = some (some (.builtin "BaseException.__getattribute__"))) (hgt : findIn K (.ref C) "__getattr__" = some none)
    (ha : findIn K (.ref C) "__class__" = some (some (.builtin "object.__class__"))) (hn : specialIn K (.builtin "object.__class__") "__get__" = some (some (.builtin "getset_descriptor.__get__"))) (htk : takesIn K (.builtin "object.__class__") = some true)
    (hm : mroIn K C (.type "object") = some true) (hb : mroIn K C (.type "BaseException") = some true) (hc : (clsIn K C).isSome = true) (h : Q (some (.ref C)) { s with toks := s.toks + 1 }) :
    wpAny (model prog w) A (getAttr? (.ref x) "__class__") Q E s := by
  have go := fun (A' : Around) (R : Result -> Shared -> Prop) (tk : Tok) => exc_call (prog := prog) (w := w) (A := A') (R := R) (s := { s with toks := s.toks + 1 }) (tk := tk) X I ha hn htk hm hb hc
  obtain ⟨hh, g, d, t, os⟩ := s
  have L0 := I.type (M := model prog w)
  have L1 := looks_findIn (M := model prog w) X hga
  have L2 := looks_findIn (M := model prog w) X hgt
  have f3 := F.excAttr_ValueError.ga.bind (.ref x)
  have hx2 : (Value.builtin "BaseException.__getattribute__" == Value.builtin "object.__getattribute__") = false := by decide +kernel
  have hx1 : (onTheHeap (Value.ref C) && Value.builtin "BaseException.__getattribute__" == Value.builtin "object.__getattribute__") = false := by rw [hx2]; rfl
  unfold getAttr? getAttrBy? getAttrBy
  refine wpAny_bind (wpAny_mkText (wpAny_bind (wpAny_attempt (wpAny_holding (wpAny_bind (L0.at (wpAny_bind (L1.at ?_))))))))
  dsimp only
  rw [if_neg (by rw [hx1]; exact Bool.false_ne_true)]
  unfold getAttrByItsOwn
  repeat (any_goals (first | assumption | with_reducible refine L0.at ?_ | with_reducible refine L2.at ?_ | wp_step))
  refine go _ _ _ ?_
  repeat (any_goals (first | assumption | wp_step))
structure ExcCls (K : Frag) (C : Addr) : Prop where
  hga : findIn K (.ref C) "__getattribute__" = some (some (.builtin "BaseException.__getattribute__"))
  hgt : findIn K (.ref C) "__getattr__" = some none
  ha : findIn K (.ref C) "__class__" = some (some (.builtin "object.__class__"))
  hn : specialIn K (.builtin "object.__class__") "__get__" = some (some (.builtin "getset_descriptor.__get__"))
  htk : takesIn K (.builtin "object.__class__") = some true
  hm : mroIn K C (.type "object") = some true
  hb : mroIn K C (.type "BaseException") = some true
  hc : (clsIn K C).isSome = true
theorem kitx_exc (T : ExcCls K C) : KitX K (.ref x) (.ref C) (ExcAt x C) where
  ty := fun _ _ _ I => I.type
  it := fun _ _ X _ => by
    have hc := T.hc
    unfold clsIn at hc
    split at hc
    . rename_i c' d' cd' sl' ho
      intro A1 Q1 E1 s1 kp q1
      unfold isType loadHead
      refine wpAny_bind (wpAny_loadPart (kp _ _ (X _ _ ho)) ?_)
      exact wpAny_pure q1
    . cases hc
  ne := fun h tp dd its n sl X htp => by
    have hc := T.hc
    refine Bool.eq_false_iff.mpr fun q => ?_
    have e : C = tp := Value.ref.inj (beq_iff_eq.mp q)
    subst e
    unfold clsIn at hc
    split at hc
    . rename_i c' d' cd' sl' ho
      have z := (X _ _ ho).symm.trans htp
      cases z
    . cases hc
  ca := fun X I k => qT9 X I T.hga T.hgt T.ha T.hn T.htk T.hm T.hb T.hc k
end
end L2
set_option Elab.async false
set_option linter.all false
set_option maxRecDepth 100000
set_option maxHeartbeats 4000000
namespace L2
open PySem PySem.Spec PyProof.Rows PySem.W
section
variable {K : Frag} {h : Heap} {C : Addr} {bmB : List Value} {newId : String}
end
section
variable {X : Cx} {x : Str} {C : Addr} {E : XK} {e₀ : Expr} {rest : List Expr} {t : TA} {np cpos pos : Pos}
end
section
variable {X : Cx} {pins : List (Addr × Obj)} {σ : St} {H : Hp} {s : Shared}
def hCx (X : Cx) (x : Addr) : Cx := { X with A := X.A.mark (some (.ref x)), calm := false, xe := fun _ _ => False }
theorem Inv.toH (I : Inv X pins σ H s) (x : Addr) : Inv (hCx X x) pins σ H s :=
  ⟨⟨I.ok.mod, I.ok.kind, I.ok.glob, I.ok.blt, I.ok.above, I.ok.inj, I.ok.has, I.ok.cab, fun z => Bool.noConfusion z, I.ok.frames, I.ok.stk, I.ok.exf, I.ok.bs, I.ok.bsz, I.ok.noex, I.ok.exfs, I.ok.funs, I.ok.frf⟩, I.os, I.bare, I.base, I.loc, I.cell, I.free, I.freeC, I.pin, I.hok, I.len⟩
end
end L2
set_option Elab.async false
set_option linter.all false
set_option maxRecDepth 100000
set_option maxHeartbeats 4000000
namespace L2
open PySem PySem.Spec PyProof.Rows PySem.W
section
variable {X : Cx} {pins : List (Addr × Obj)} {σ : St} {H : Hp} {s : Shared}
end
end L2
set_option Elab.async false
set_option linter.all false
set_option maxRecDepth 100000
set_option maxHeartbeats 4000000
namespace L2
open PySem PySem.Spec PyProof.Rows PySem.W
section
variable {prog : Program} {w : World} {A : Around} {E : Value -> Shared -> Prop} {s : Shared} {x C e : Addr}
end
end L2
set_option Elab.async false
set_option linter.all false
set_option maxRecDepth 100000
set_option maxHeartbeats 4000000
namespace L2
open PySem PySem.Spec PyProof.Rows
structure RoomH (k : Nat) (x : Addr) (A : Around) : Prop where
  hd : A.handled = some (.ref x)
  dp : A.depth + 3 * k + 5 < recursionLimit
  un : A.units + 16 * k + 200 < cLine
theorem Room.toH {k : Nat} {A : Around} (r : Room k A) (x : Addr) : RoomH k x (A.mark (some (.ref x))) := ⟨rfl, r.dp, r.un⟩
theorem RoomH.deeper {k : Nat} {x : Addr} {A : Around} (r : RoomH (k + 1) x A) (env : Env) : RoomH k x (A.deeper env) :=
  ⟨r.hd, by have := r.dp; show A.depth + 1 + 3 * k + 5 < _; lia, by have := r.un; show A.units + 3 + 16 * k + 200 < _; lia⟩
theorem RoomH.depth {k : Nat} {x : Addr} {A : Around} (r : RoomH k x A) : A.depth < recursionLimit := by have := r.dp; lia
theorem RoomH.units {k : Nat} {x : Addr} {A : Around} (r : RoomH k x A) : A.units + 64 < cLine := by have := r.un; lia
abbrev SpH := List V -> Hp -> VK -> Prop
structure FnOkH (P : Program) (w : World) (K : PySem.W.Frag) (mg : Str -> Option Value) (base : Heap) (k : Nat) (x : Addr) (f : Addr) (fd : FuncData) (ps : List Str) (sp : SpH) : Prop where
  len : ∀ vs H Q, sp vs H Q -> vs.length = ps.length
  run : ∀ (A : Around) (outer : List Env) (s : Shared) (H : Hp) (args : Args) (us : List Value) (vs : List V) (Q : VK), RoomH k x A -> Env0 P w K mg base A outer s H -> BindsTo s fd args (ps.zip us) -> Vals vs us -> sp vs H Q ->
    codeAny (model P w) A (.call (.ref f) args) (CR CX0 outer P w H s Q E0) s
section
variable {X : Cx} {k : Nat} {f xe : Addr} {fd : FuncData} {ps : List Str} {sp : SpH} {x : Str} {p pos : Pos} {e : Expr} {es : List Expr} {t : TA}
end
end L2
set_option Elab.async false
set_option linter.all false
set_option maxRecDepth 100000
set_option maxHeartbeats 4000000
namespace L2
open PySem PySem.Spec PyProof.Rows PySem.W
section
variable {X : Cx}
def clsV : V -> Option Value
  | .ty n => some (.type n)
  | .ref a => some (.ref a)
  | _ => none
theorem clsV_is {c : V} {u cv : Value} (r : RelV c u) (e : clsV c = some cv) : u = cv := by
  cases c with
  | ty n => cases e; exact r
  | ref a => cases e; exact r
  | _ => cases e
def ExcT (K : Frag) (H : Hp) (x : V) (t : Value) : Prop := ∃ a C, x = .ref a ∧ H a = some (.ext (ExcAt a C)) ∧ ExcCls K C ∧ t = .ref C
theorem qp0 : CallR X (.builtin "isinstance") (fun xs H Q => ∃ x c t cv b, xs = [x, c] ∧ clsV c = some cv ∧ (TyOf X.K H x t ∨ ExcT X.K H x t) ∧ kitOne X.K t cv = some b ∧ Q (.bl b) H) := by
  intro pins s σ H xs us Q I r h
  obtain ⟨x, c, t, cv, b, rfl, hc, ht, hk, q⟩ := h
  obtain ⟨u, u', rfl, rx, rc⟩ := vals2 r
  cases clsV_is rc hc
  rcases ht with ty | ⟨a, C, rfl, e, T, rfl⟩
  . exact qS9 I rx ty hk fun tk => ⟨.bl b, H, I.tok _, rfl, q⟩
  . cases (show u = Value.ref a from rx)
    have p : ExcAt a C s.heap := (I.hok a _ e).1
    exact kia_one (kitx_exc T) I.kIn p hk (fun z => nomatch z) fun tk => ⟨.bl b, H, I.tok _, rfl, q⟩
theorem qC7 {pins : List (Addr × Obj)} {σ : St} {H : Hp} {s s' : Shared} {o₁ : Obj} {wr : List Addr} (I : Inv X pins σ H s) (mv : Moved wr (fun a b => b = a) { s with heap := s.heap.push o₁ } s') (hn : ∀ b o, s.heap.get? b = some o -> b ∈ wr -> False) : Inv X pins σ H s' := by
  obtain ⟨h', g', d', t', os'⟩ := s'
  obtain ⟨m1, m2, m3, m4, m5⟩ := mv
  cases (show g' = s.gens from m2)
  cases (show d' = s.drawn from m3)
  cases (show os' = s.os from m4)
  exact I.kept (h' := h') (t' := t') fun b o e => m1 b o (fun z => hn b o e z) (Heap.get?_push_of_some _ e)
theorem qu5 (hc : X.calm = true) : CallR X (.builtin "all") (fun xs H Q => ∃ (p : Addr) (bs : List Bool), xs = [.ref p] ∧ H p = some (.lst (bs.map V.bl)) ∧ Q (.bl (bs.all id)) H) := by
  intro pins s σ H xs us Q I r h
  obtain ⟨p, bs, rfl, hp, q⟩ := h
  obtain ⟨u, rfl, rx⟩ := ql1 r
  cases rx
  obtain ⟨z, its, n, rv, hl⟩ := I.hok p _ hp
  have isl : s.heap.IsList p its.toArray := ⟨_, hl, rfl, _, rfl⟩
  have hlen : its.length = bs.length := by have := rv.length; simpa using this.symm
  have np : p ≠ s.heap.objs.size := Nat.ne_of_lt (Heap.lt_size hl)
  refine call_all_walk (wpAny_pyIter_list isl ?_)
  refine ⟨s.heap.objs.size, _, _, _, _, _, fun i => bs.getD i true, rfl, Walks.list (A := X.A.in1) (I.ok.hd hc) s.heap.objs.size p np its.toArray, ⟨⟨_, Heap.get?_push_size _ rfl, rfl, rfl⟩, isl.at fun o e => Heap.get?_push_of_some _ e⟩, ?_, ?_⟩
  . intro i v s' Q' E' hv hq
    have hv' : its[i]? = some v := by simpa using hv
    have hi : i < bs.length := by rw [← hlen]; exact (List.getElem?_eq_some_iff.mp hv').1
    obtain ⟨w', e1, e2⟩ := rv.get (x := V.bl (bs[i])) (i := i) (by simp [hi])
    rw [hv'] at e1; cases e1
    cases (show v = Value.bool bs[i] from e2)
    have eg : bs.getD i true = bs[i] := by simp [List.getD, hi]
    dsimp only at hq
    rw [eg] at hq
    exact wpAny_truthy_bool hq
  . intro h' tk k
    refine ⟨.bl (bs.all id), H, I.kept (h' := h') (t' := tk) (fun b o e => k b o (fun z => ?_) (Heap.get?_push_of_some _ e)), ?_, q⟩
    . have : b = s.heap.objs.size := by simpa using z
      exact Nat.lt_irrefl _ (by rw [this] at e; exact Heap.lt_size e)
    . have es : its.toArray.size = bs.length := by simpa using hlen
      rw [es]
      show Value.bool _ = Value.bool _
      congr 1
      rw [Bool.eq_iff_iff, List.all_eq_true, List.all_eq_true]
      constructor
      . intro z b hb
        obtain ⟨i, hi, e⟩ := List.mem_iff_getElem.mp hb
        have := z i (List.mem_range.mpr hi)
        simpa [List.getD, hi, e] using this
      . intro z i hi
        have hi' := List.mem_range.mp hi
        have := z bs[i] (List.getElem_mem hi')
        simpa [List.getD, hi'] using this
end
end L2
set_option Elab.async false
set_option linter.all false
set_option maxRecDepth 100000
set_option maxHeartbeats 4000000
namespace L2
open PySem PySem.Spec PyProof.Rows PySem.W
section
variable {X : Cx}
def tDict0 : TE := fun _ H Q => ∀ p, H p = none -> Q (.ref p) (upd H p (.dK []))
theorem pe_dict0 {pos : Pos} : PE X (.Dict [] [] pos) tDict0 := fun pins s σ H Q I h => by
  have hb : sysModules < s.heap.objs.size := Nat.lt_trans (by decide) (I.mod.glob.keeps I.bk).lt
  exact wpAny_Dict_empty ⟨.ref s.heap.objs.size, _, I.laid (a := s.heap.objs.size) (o := .dK []) (t' := s.toks) (fun _ _ q => Heap.get?_push_of_some _ q) (Nat.le_refl _) ⟨Nat.zero_le _, beq_eq_false_iff_ne.mpr (Ne.symm (Nat.ne_of_lt hb)), [], .nil, Heap.DictOf.new _⟩, rfl, h _ (I.hok.fresh (Nat.le_refl _))⟩
end
end L2
set_option Elab.async false
set_option linter.all false
set_option maxRecDepth 100000
set_option maxHeartbeats 4000000
namespace L2
open PySem PySem.Spec PyProof.Rows PySem.W
section
variable {X : Cx}
theorem qf4 {x : Str} {px pos : Pos} {elt iter : Expr} {scope : Scope} {wi : TI} {te : TE} (N : List Str) (sc : Scope) (hNe : X.N = N) (hsc : X.env.scope = sc) (hc : X.calm = true) (hN : X.N.Nodup) (hi : PI X (.Name x px) iter wi) (he : ∀ cl C fp s₀ H₀, PE (qu4 X scope cl C x fp s₀ H₀) elt te)
    (hkind : scope.kind = .function := by rfl) (hcell : scope.names.all (fun y => y.2 != .cell) = true := by decide +kernel) (hnames : scope.names.all (fun y => y.2 != .local || scope.names.lookup y.1 == some .local) = true := by decide +kernel)
    (hx : scope.names.lookup x = some .local := by rfl) (hloc : N.all (fun y => scope.names.lookup y != some .local) = true := by decide +kernel)
    (hfr : scope.names.all (fun p => p.2 != .free || (sc.names.lookup p.1 == some .cell || sc.names.lookup p.1 == some .free)) = true := by decide +kernel)
    (hs : ∀ x, foldedSetIterable iter X.env x = pure x := by intro _; rfl) : PE X (.ListComp elt [⟨.Name x px, iter, [], 0⟩] scope pos) (tComp wi te) := by
  refine pe_comp hc hN hi he hkind (fun y hy => ?_) (fun y hy hl => ?_) hx (fun y hy => ?_) (fun p hp hk => ?_) hs
  . have := List.all_eq_true.mp hcell y hy
    simpa using this
  . have := List.all_eq_true.mp hnames y hy
    simpa [hl] using this
  . have := List.all_eq_true.mp hloc y (by rw [← hNe]; exact hy)
    simpa using this
  . have := List.all_eq_true.mp hfr p hp
    rw [hk] at this
    have z : sc.names.lookup p.1 = some .cell ∨ sc.names.lookup p.1 = some .free := by simpa using this
    rw [hsc]
    refine ⟨.inr z, fun q => ?_⟩
    rcases z with z | z <;> (rw [z] at q; cases q)
end
end L2
set_option Elab.async false
set_option linter.all false
set_option maxRecDepth 100000
namespace L2
open PySem PySem.Spec PyProof.Rows
section
variable {κ : Type} [DecidableEq κ]
def valV (kvs : List (κ × V)) (k : κ) : Option V := (kvs.find? fun kv => decide (kv.1 = k)).map (·.2)
def putK (kvs : List (κ × V)) (k : κ) (v : V) : List (κ × V) :=
  if (kvs.any fun kv => decide (kv.1 = k)) = true then kvs.map (fun kv => if kv.1 = k then (kv.1, v) else kv) else kvs ++ [(k, v)]
def dropK (kvs : List (κ × V)) (k : κ) : List (κ × V) := kvs.filter fun kv => decide (kv.1 ≠ k)
theorem qe9 {p : κ × V} {r : List (κ × V)} {k : κ} (e : p.1 = k) : valV (p :: r) k = some p.2 := by simp [valV, List.find?_cons, e]
theorem qe6 {p : κ × V} {r : List (κ × V)} {k : κ} (e : ¬ p.1 = k) : valV (p :: r) k = valV r k := by simp [valV, List.find?_cons, e]
theorem qi4 (k : κ) : ∀ kvs : List (κ × V), (kvs.any fun kv => decide (kv.1 = k)) = (valV kvs k).isSome
  | [] => rfl
  | p :: r => by
    rw [List.any_cons]
    by_cases e : p.1 = k
    . simp only [qe9 e, decide_eq_true e, Bool.true_or, Option.isSome_some]
    . rw [qe6 e, decide_eq_false e, Bool.false_or]; exact qi4 k r
theorem qK7 (k j : κ) (y : V) : ∀ kvs : List (κ × V), valV (kvs.map fun kv => if kv.1 = k then (kv.1, y) else kv) j = (valV kvs j).map fun x => if j = k then y else x
  | [] => rfl
  | p :: r => by
    have ih := qK7 k j y r
    rw [List.map_cons]
    by_cases h : p.1 = k
    . rw [if_pos h]
      by_cases e : p.1 = j
      . rw [qe9 (p := (p.1, y)) e, qe9 e, Option.map_some, if_pos (e.symm.trans h)]
      . rw [qe6 (p := (p.1, y)) e, qe6 e, ih]
    . rw [if_neg h]
      by_cases e : p.1 = j
      . rw [qe9 (p := p) e, qe9 e, Option.map_some, if_neg (fun z => h (e.trans z))]
      . rw [qe6 (p := p) e, qe6 e, ih]
theorem qC8 (k j : κ) (y : V) : ∀ kvs : List (κ × V), valV kvs k = none -> valV (kvs ++ [(k, y)]) j = if j = k then some y else valV kvs j
  | [], _ => by
    by_cases e : k = j
    . rw [if_pos e.symm]; exact qe9 (p := (k, y)) e
    . rw [if_neg (fun z => e z.symm)]; exact qe6 (p := (k, y)) e
  | p :: r, hn => by
    rw [List.cons_append]
    have hk : ¬ p.1 = k := fun z => by rw [qe9 z] at hn; cases hn
    rw [qe6 hk] at hn
    have ih := qC8 k j y r hn
    by_cases e : p.1 = j
    . rw [qe9 e, qe9 e, if_neg (fun z => hk (e.trans z))]
    . rw [qe6 e, qe6 e, ih]
theorem qz1 (kvs : List (κ × V)) (k j : κ) (y : V) : valV (putK kvs k y) j = if j = k then some y else valV kvs j := by
  unfold putK
  by_cases a : (kvs.any fun kv => decide (kv.1 = k)) = true
  . rw [if_pos a, qK7]
    rw [qi4] at a
    by_cases e : j = k
    . obtain ⟨x, hx⟩ := Option.isSome_iff_exists.mp a
      rw [if_pos e, e, hx, Option.map_some, if_pos rfl]
    . rw [if_neg e]
      cases valV kvs j with
      | none => rfl
      | some x => rw [Option.map_some, if_neg e]
  . rw [if_neg a]
    refine qC8 k j y kvs ?_
    rw [qi4] at a
    cases q : valV kvs k with
    | none => rfl
    | some x => rw [q] at a; exact (a rfl).elim
theorem qf9 (kvs : List (κ × V)) (k : κ) (v : V) : (putK kvs k v).length ≤ kvs.length + 1 := by
  unfold putK
  split
  . rw [List.length_map]; lia
  . rw [List.length_append, List.length_cons, List.length_nil]; lia
theorem RelO.isSome_eq {o : Option V} {u : Option Value} (r : RelO o u) : o.isSome = u.isSome := by
  cases o with
  | none => cases u with
    | none => rfl
    | some _ => exact (show False from r).elim
  | some _ => cases u with
    | none => exact (show False from r).elim
    | some _ => rfl
theorem RelO.getD {o : Option V} {u : Option Value} {d : V} {d' : Value} (r : RelO o u) (rd : RelV d d') : RelV (o.getD d) (u.getD d') := by
  cases o with
  | none => cases u with
    | none => exact rd
    | some _ => exact (show False from r).elim
  | some _ => cases u with
    | none => exact (show False from r).elim
    | some _ => exact r
theorem KV.val {kvs : List (κ × V)} {vs : List (κ × Value)} (r : KV kvs vs) (k : κ) : RelO (valV kvs k) (valueAt vs k) := by
  unfold KV at r
  induction r with
  | nil => exact True.intro
  | @cons p q ps qs h t ih =>
    obtain ⟨h1, h2⟩ := h
    by_cases e : p.1 = k
    . have e' : q.1 = k := h1.symm.trans e
      have b : valueAt (q :: qs) k = some q.2 := by simp [valueAt, List.find?_cons, e']
      rw [qe9 e, b]; exact h2
    . have e' : ¬ q.1 = k := fun z => e (h1.trans z)
      have b : valueAt (q :: qs) k = valueAt qs k := by simp [valueAt, List.find?_cons, e']
      rw [qe6 e, b]; exact ih
theorem KV.any {kvs : List (κ × V)} {vs : List (κ × Value)} (r : KV kvs vs) (k : κ) : (kvs.any fun kv => decide (kv.1 = k)) = vs.any fun kv => decide (kv.1 = k) := by
  unfold KV at r
  induction r with
  | nil => rfl
  | cons h t ih => rw [List.any_cons, List.any_cons, ih, h.1]
theorem KV.repl {kvs : List (κ × V)} {vs : List (κ × Value)} (r : KV kvs vs) (k : κ) {y : V} {u : Value} (ry : RelV y u) :
    KV (kvs.map fun kv => if kv.1 = k then (kv.1, y) else kv) (vs.map fun kv => if kv.1 = k then (kv.1, u) else kv) := by
  unfold KV at r ⊢
  induction r with
  | nil => exact .nil
  | @cons p q ps qs h t ih =>
    rw [List.map_cons, List.map_cons]
    refine .cons ?_ ih
    obtain ⟨h1, h2⟩ := h
    by_cases e : p.1 = k
    . rw [if_pos e, if_pos (h1.symm.trans e)]; exact ⟨h1, ry⟩
    . rw [if_neg e, if_neg (fun z => e (h1.trans z))]; exact ⟨h1, h2⟩
theorem KV.put {kvs : List (κ × V)} {vs : List (κ × Value)} (r : KV kvs vs) (k : κ) {y : V} {u : Value} (ry : RelV y u) : KV (putK kvs k y) (stored vs k u) := by
  unfold putK stored
  rw [r.any k]
  by_cases e : (vs.any fun kv => decide (kv.1 = k)) = true
  . rw [if_pos e, if_pos e]; exact r.repl k ry
  . rw [if_neg e, if_neg e]; exact Paired.snoc r ⟨rfl, ry⟩
theorem KV.drop {kvs : List (κ × V)} {vs : List (κ × Value)} (r : KV kvs vs) (k : κ) : KV (dropK kvs k) (without vs k) := by
  unfold KV at r ⊢
  unfold dropK without
  induction r with
  | nil => exact .nil
  | @cons p q ps qs h t ih =>
    obtain ⟨h1, h2⟩ := h
    rw [List.filter_cons, List.filter_cons]
    by_cases e : p.1 = k
    . have a : ¬ decide (p.1 ≠ k) = true := by simp [e]
      have b : ¬ decide (q.1 ≠ k) = true := by simp [h1.symm.trans e]
      rw [if_neg a, if_neg b]; exact ih
    . have e' : ¬ q.1 = k := fun z => e (h1.trans z)
      have a : decide (p.1 ≠ k) = true := by simp [e]
      have b : decide (q.1 ≠ k) = true := by simp [e']
      rw [if_pos a, if_pos b]; exact .cons ⟨h1, h2⟩ ih
theorem KV.keys {kvs : List (κ × V)} {vs : List (κ × Value)} (r : KV kvs vs) : kvs.map (·.1) = vs.map (·.1) := by
  unfold KV at r
  induction r with
  | nil => rfl
  | cons h t ih => rw [List.map_cons, List.map_cons, ih, h.1]
theorem KV.length {kvs : List (κ × V)} {vs : List (κ × Value)} (r : KV kvs vs) : kvs.length = vs.length := Paired.length r
end
theorem qP1 {P : Program} {w : World} {k : Key} {u : Value} (r : RelV (kV k) u) : (qd8 P w).is k u = true := by
  cases k with
  | inl i => obtain ⟨t, e⟩ := (show ∃ t, u = Value.int i t from r); subst e; exact qH9 P w i t
  | inr x => obtain ⟨t, e⟩ := (show ∃ t, u = Value.str x t from r); subst e; exact qI0 P w x t
theorem qu6 {P : Program} {w : World} : ∀ {ks : List Key} {us : List Value}, Vals (ks.map kV) us -> ItemsAre (qd8 P w) ks us
  | [], _, r => by rw [List.map_nil] at r; cases r; exact .nil
  | k :: ks, _, r => by
    rw [List.map_cons] at r
    cases r with
    | cons h t => exact .cons (qP1 h) (qu6 t)
abbrev KT (H : Hp) : List (List Key × V) -> List (List Key × Addr × Value) -> Prop := Paired fun p q => p.1 = q.1 ∧ H q.2.1 = some (.tup (p.1.map kV)) ∧ RelV p.2 q.2.2
theorem KT.val {H : Hp} {kvs : List (List Key × V)} {xs : List (List Key × Addr × Value)} (r : KT H kvs xs) (k : List Key) : RelO (valV kvs k) ((atKey xs k).map (·.2)) := by
  induction r with
  | nil => exact True.intro
  | @cons p q ps qs h t ih =>
    obtain ⟨h1, _, h2⟩ := h
    by_cases e : p.1 = k
    . have e' : q.1 = k := h1.symm.trans e
      have b : atKey (q :: qs) k = some q.2 := by simp [atKey, List.find?_cons, e']
      rw [qe9 e, b]; exact h2
    . have e' : ¬ q.1 = k := fun z => e (h1.trans z)
      have b : atKey (q :: qs) k = atKey qs k := by simp [atKey, List.find?_cons, e']
      rw [qe6 e, b]; exact ih
theorem KT.repl {H : Hp} {kvs : List (List Key × V)} {xs : List (List Key × Addr × Value)} (r : KT H kvs xs) (k : List Key) {y : V} {u : Value} (ry : RelV y u) :
    KT H (kvs.map fun kv => if kv.1 = k then (kv.1, y) else kv) (xs.map (putAt k u)) := by
  induction r with
  | nil => exact .nil
  | @cons p q ps qs h t ih =>
    rw [List.map_cons, List.map_cons]
    refine .cons ?_ ih
    obtain ⟨h1, h2, h3⟩ := h
    unfold putAt
    by_cases e : p.1 = k
    . rw [if_pos e, if_pos (h1.symm.trans e)]; exact ⟨h1, h2, ry⟩
    . rw [if_neg e, if_neg (fun z => e (h1.trans z))]; exact ⟨h1, h2, h3⟩
theorem KT.put {H : Hp} {kvs : List (List Key × V)} {xs : List (List Key × Addr × Value)} (r : KT H kvs xs) (k : List Key) {b : Addr} {y : V} {u : Value} (hb : H b = some (.tup (k.map kV))) (ry : RelV y u) :
    KT H (putK kvs k y) (storedH xs k b u) := by
  have e : (kvs.any fun kv => decide (kv.1 = k)) = (atKey xs k).isSome := by
    rw [qi4, (r.val k).isSome_eq, Option.isSome_map]
  unfold putK storedH
  rw [e]
  by_cases q : (atKey xs k).isSome = true
  . rw [if_pos q, if_pos q]; exact r.repl k ry
  . rw [if_neg q, if_neg q]; exact Paired.snoc r ⟨rfl, hb, ry⟩
theorem KT.keeps {H H' : Hp} {kvs : List (List Key × V)} {xs : List (List Key × Addr × Value)} (r : KT H kvs xs) (ht : ∀ b ys, H b = some (.tup ys) -> H' b = some (.tup ys)) : KT H' kvs xs :=
  Paired.mapP r fun _ _ z => ⟨z.1, ht _ _ z.2.1, z.2.2⟩
section
variable {P : Program} {w : World} {H : Hp} {h : Heap} {a : Addr}
theorem rd_of {u : HO} (ok : HOk P w H h) (e : Rd H a u) : ObjOk P w H h a u := e.ok ok
theorem qU0 {kvs : List (Key × V)} (ok : HOk P w H h) (e : Rd H a (.dK kvs)) : kvs.length ≤ sizeLine ∧ (a == sysModules) = false ∧ ∃ vs, KV kvs vs ∧ h.DictOf (qd8 P w) a vs :=
  show ObjOk P w H h a (.dK kvs) from rd_of ok e
theorem dk_of {kvs : List (Key × V)} (ok : HOk P w H h) (e : H a = some (.dK kvs)) : kvs.length ≤ sizeLine ∧ (a == sysModules) = false ∧ ∃ vs, KV kvs vs ∧ h.DictOf (qd8 P w) a vs := qU0 ok (.inl e)
theorem qx7 {ks : List Key} (ok : HOk P w H h) (e : H a = some (.tup (ks.map kV))) : (tupleKind (qd8 P w)).is h ks a := by
  obtain ⟨_, its, r, o, h1, h2, n, h3⟩ := (show ObjOk P w H h a (.tup (ks.map kV)) from ok a _ e)
  exact ⟨o, its.toArray, n, h1, h2, h3, by simpa using qu6 r⟩
theorem qU1 {kvs : List (List Key × V)} (ok : HOk P w H h) (e : Rd H a (.dT kvs)) : kvs.length ≤ sizeLine ∧ (a == sysModules) = false ∧
    ∃ xs, KT H kvs xs ∧ h.DictOfH (tupleKind (qd8 P w)) a xs := by
  obtain ⟨z, y, xs, r, o, es, ep, h1, h2, h3, h4, h5⟩ := (show ObjOk P w H h a (.dT kvs) from rd_of ok e)
  refine ⟨z, y, xs, r, o, es, ep, h1, h2, h3, h4, fun x hx => ?_, h5⟩
  have all : ∀ {l : List (List Key × V)} {m : List (List Key × Addr × Value)}, KT H l m -> ∀ x ∈ m, (tupleKind (qd8 P w)).is h x.1 x.2.1 := by
    intro l m q
    induction q with
    | nil => intro x hx; exact nomatch hx
    | @cons p q ps qs hq t ih =>
      intro x hx
      rcases List.mem_cons.mp hx with e | hx
      . subst e
        exact qx7 ok (by rw [← hq.1]; exact hq.2.1)
      . exact ih x hx
  exact all r x hx
theorem dt_of {kvs : List (List Key × V)} (ok : HOk P w H h) (e : H a = some (.dT kvs)) : kvs.length ≤ sizeLine ∧ (a == sysModules) = false ∧
    ∃ xs, KT H kvs xs ∧ h.DictOfH (tupleKind (qd8 P w)) a xs := qU1 ok (.inl e)
end
def DGet (H : Hp) (a : Addr) (y : V) (r : Option V) : Prop :=
  (∃ kvs k, Rd H a (.dK kvs) ∧ y = kV k ∧ r = valV kvs k) ∨ ∃ kvs k b, Rd H a (.dT kvs) ∧ y = .ref b ∧ H b = some (.tup (k.map kV)) ∧ r = valV kvs k
def DPut (H : Hp) (a : Addr) (y v : V) (H' : Hp) : Prop :=
  (∃ kvs k, H a = some (.dK kvs) ∧ y = kV k ∧ kvs.length < sizeLine ∧ H' = upd H a (.dK (putK kvs k v))) ∨
  ∃ kvs k b, H a = some (.dT kvs) ∧ y = .ref b ∧ H b = some (.tup (k.map kV)) ∧ kvs.length < sizeLine ∧ H' = upd H a (.dT (putK kvs k v))
theorem DGet.k {H : Hp} {a : Addr} {kvs : List (Key × V)} {k : Key} (e : H a = some (.dK kvs)) : DGet H a (kV k) (valV kvs k) := .inl ⟨kvs, k, .inl e, rfl, rfl⟩
theorem DGet.t {H : Hp} {a b : Addr} {kvs : List (List Key × V)} {k : List Key} (e : H a = some (.dT kvs)) (eb : H b = some (.tup (k.map kV))) : DGet H a (.ref b) (valV kvs k) := .inr ⟨kvs, k, b, .inl e, rfl, eb, rfl⟩
theorem DPut.k {H : Hp} {a : Addr} {kvs : List (Key × V)} {k : Key} {v : V} (e : H a = some (.dK kvs)) (hl : kvs.length < sizeLine) : DPut H a (kV k) v (upd H a (.dK (putK kvs k v))) := .inl ⟨kvs, k, e, rfl, hl, rfl⟩
theorem DPut.t {H : Hp} {a b : Addr} {kvs : List (List Key × V)} {k : List Key} {v : V} (e : H a = some (.dT kvs)) (eb : H b = some (.tup (k.map kV))) (hl : kvs.length < sizeLine) :
    DPut H a (.ref b) v (upd H a (.dT (putK kvs k v))) := .inr ⟨kvs, k, b, e, rfl, eb, hl, rfl⟩
section
variable {X : Cx} {pins : List (Addr × Obj)} {σ : St} {H : Hp} {s : Shared} {a : Addr} {y v : V} {u r : Value} {o : Option V} {A : Around} {E : Value -> Shared -> Prop}
theorem Inv.big (I : Inv X pins σ H s) : sysModules < s.heap.objs.size := by
  have h : mainGlobals < s.heap.objs.size := (I.mod.glob.keeps I.bk).lt
  exact Nat.lt_trans (by decide) h
theorem qU2 {Q : Value -> Shared -> Prop} (hu : A.units + 1 < cLine) (I : Inv X pins σ H s) (g : DGet H a y (some v)) (ry : RelV y u) (h : ∀ w' s', Inv X pins σ H s' -> RelV v w' -> Q w' s') :
    wpAny (model X.prog X.w) A (getItem (.ref a) u) Q E s := by
  rcases g with ⟨kvs, k, e, ey, l⟩ | ⟨kvs, k, b, e, ey, eb, l⟩
  . subst ey
    obtain ⟨z, hd, vs, rel, dd⟩ := qU0 I.hok e
    obtain ⟨w', hw, rw'⟩ := RelO.some_of (v := v) (o := valueAt vs k) (by rw [l]; exact rel.val k)
    exact wpAny_getItem_of (qP1 ry) dd.mapOf hw (h w' _ (I.tok _) rw')
  . subst ey
    cases (show u = Value.ref b from ry)
    obtain ⟨z, hd, xs, rel, dd⟩ := qU1 I.hok e
    obtain ⟨w', hw, rw'⟩ := RelO.some_of (v := v) (o := (atKey xs k).map (·.2)) (by rw [l]; exact rel.val k)
    obtain ⟨p, hp, hp2⟩ := Option.map_eq_some_iff.mp hw
    refine wpAny_getItem_heap (tupleKind_room_in1 hu) (qx7 I.hok eb) dd hp ?_
    rw [hp2]
    exact h w' _ (I.tok _) rw'
theorem d_in {Q : Value -> Shared -> Prop} (hu : A.units + 1 < cLine) (I : Inv X pins σ H s) (g : DGet H a y o) (ry : RelV y u) (h : ∀ s', Inv X pins σ H s' -> Q (.bool o.isSome) s') :
    wpAny (model X.prog X.w) A (compareOp .In u (.ref a)) Q E s := by
  rcases g with ⟨kvs, k, e, ey, l⟩ | ⟨kvs, k, b, e, ey, eb, l⟩
  . subst ey
    obtain ⟨z, hd, vs, rel, dd⟩ := qU0 I.hok e
    refine wpAny_in_of (qP1 ry) hd dd.mapOf ?_
    rw [← (rel.val k).isSome_eq, ← l]
    exact h _ (I.tok _)
  . subst ey
    cases (show u = Value.ref b from ry)
    obtain ⟨z, hd, xs, rel, dd⟩ := qU1 I.hok e
    refine wpAny_in_heap (tupleKind_room_in1 hu) (qx7 I.hok eb) hd dd ?_
    have q := (rel.val k).isSome_eq
    rw [Option.isSome_map] at q
    rw [← q, ← l]
    exact h _ (I.tok _)
theorem d_notIn {Q : Value -> Shared -> Prop} (hu : A.units + 1 < cLine) (I : Inv X pins σ H s) (g : DGet H a y o) (ry : RelV y u) (h : ∀ s', Inv X pins σ H s' -> Q (.bool (!o.isSome)) s') :
    wpAny (model X.prog X.w) A (compareOp .NotIn u (.ref a)) Q E s := by
  rcases g with ⟨kvs, k, e, ey, l⟩ | ⟨kvs, k, b, e, ey, eb, l⟩
  . subst ey
    obtain ⟨z, hd, vs, rel, dd⟩ := qU0 I.hok e
    refine wpAny_notIn_of (qP1 ry) hd dd.mapOf ?_
    rw [← (rel.val k).isSome_eq, ← l]
    exact h _ (I.tok _)
  . subst ey
    cases (show u = Value.ref b from ry)
    obtain ⟨z, hd, xs, rel, dd⟩ := qU1 I.hok e
    refine wpAny_notIn_heap (tupleKind_room_in1 hu) (qx7 I.hok eb) hd dd ?_
    have q := (rel.val k).isSome_eq
    rw [Option.isSome_map] at q
    rw [← q, ← l]
    exact h _ (I.tok _)
theorem qz2 {h' : Heap} {t' : Nat} {ob : HO} (I : Inv X pins σ H s) (mu : Mut (H a)) (hs : Heap.SameBut a s.heap h') (he : ∃ q, h'.get? a = some q) (new : ObjOk X.prog X.w (upd H a ob) h' a ob) :
    Inv X pins σ (upd H a ob) { s with heap := h', toks := t' } :=
  I.write (x := a) (e := a) mu (.inl rfl) (fun b q hb z => (hs.2 b hb).trans z) he new
theorem dk_new {P : Program} {w : World} {H' : Hp} {h' : Heap} {kvs : List (Key × V)} {vs : List (Key × Value)} (z : kvs.length ≤ sizeLine) (hd : (a == sysModules) = false) (rel : KV kvs vs) (dd : h'.DictOf (qd8 P w) a vs) :
    ObjOk P w H' h' a (.dK kvs) := ⟨z, hd, vs, rel, dd⟩
theorem qU3 {H' : Hp} {Q : Unit -> Shared -> Prop} (hu : A.units + 1 < cLine) (I : Inv X pins σ H s) (g : DPut H a y v H') (ry : RelV y u) (rv : RelV v r) (h : ∀ s', Inv X pins σ H' s' -> Q () s') :
    wpAny (model X.prog X.w) A (setItem (.ref a) u r) Q E s := by
  rcases g with ⟨kvs, k, e, ey, l, eH⟩ | ⟨kvs, k, b, e, ey, eb, l, eH⟩
  . subst ey eH
    obtain ⟨z, hd, vs, rel, dd⟩ := dk_of I.hok e
    have hz : vs.length ≤ sizeLine := by rw [← rel.length]; exact z
    have hl : (putK kvs k v).length ≤ sizeLine := by have := qf9 kvs k v; lia
    refine wpAny_setItem_pairs (hsz := hz) (qP1 ry) dd fun h' dd' hs => h _ ?_
    have he : ∃ q, h'.get? a = some q := let ⟨q, _, _, hq, _⟩ := dd'; ⟨q, hq⟩
    exact qz2 I (by rw [e]; exact True.intro) hs he (dk_new hl hd (rel.put k rv) dd')
  . subst ey eH
    cases (show u = Value.ref b from ry)
    obtain ⟨z, hd, xs, rel, dd⟩ := dt_of I.hok e
    have hz : xs.length ≤ sizeLine := by rw [← Paired.length rel]; exact z
    have hl : (putK kvs k v).length ≤ sizeLine := by have := qf9 kvs k v; lia
    refine wpAny_setItem_heap (hsz := hz) (tupleKind_room_in1 hu) (qx7 I.hok eb) dd fun h' dd' hs => h _ ?_
    obtain ⟨q, es, ep, hq, h2, h3, h4, _, h5⟩ := dd'
    refine qz2 I (by rw [e]; exact True.intro) hs ⟨q, hq⟩ ⟨hl, hd, _, (rel.put k eb rv).keeps fun c ys ec => ?_, q, es, ep, hq, h2, h3, h4, h5⟩
    rw [qa6 (ne_of ec e (fun z => nomatch z))]
    exact ec
end
section
variable {X : Cx} {pins : List (Addr × Obj)} {σ : St} {H : Hp} {s : Shared} {a : Addr} {kvs : List (Key × V)} {k : Key} {u : Value} {A : Around} {E : Value -> Shared -> Prop}
end
def NoSl (i : Expr) : Prop := ∀ ov iv, subscripted i false ov iv = operate [ov, iv] (getItem ov iv)
theorem subD_of {prog : Program} {w : World} {A : Around} {E : Value -> Shared -> Prop} {s : Shared} {env : Env} {value slice : Expr} {pos : Pos} {T id : String} {Q : Value -> Shared -> Prop}
    (hl : typeLookup (.type T) "__getitem__" = pure (some (.builtin id))) (hs : NoSl slice)
    (h : wpAny (model prog w) A (eval value env) (fun o s₁ => wpAny (model prog w) A (eval slice env) (fun i s₂ => s₂.TypeIs o T ∧ wpAny (model prog w) A (getItem o i) Q E s₂) E s₁) E s) :
    wpAny (model prog w) A (eval (.Subscript value slice pos) env) Q E s := by
  refine Subscript_ (wpAny_mono h (fun o s₁ h₁ => wpAny_mono h₁ (fun i s₂ h₂ => ?_) fun _ _ x => x) fun _ _ x => x)
  obtain ⟨hT, h₂⟩ := h₂
  unfold subscriptTail
  refine wpAny_bind ?_
  rw [getitemInPython_of_ne hT.not_modules]
  refine wpAny_bind (wpAny_specialOf hT hl ?_)
  have fin : wpAny (model prog w) A (subscripted slice false o i) (fun r s₃ => wpAny (model prog w) A (letTemporaryGo value o r >>= fun _ => pure r) Q E s₃) E s₂ := by
    rw [hs o i]
    exact wpAny_operating (wpAny_mono h₂ (fun r s₃ h₃ => wpAny_bind (wpAny_letTemporaryGo (wpAny_pure h₃))) fun _ _ x => x)
  first
    | exact wpAny_pure (wpAny_bind fin)
    | exact wpAny_bind (wpAny_pure (wpAny_bind fin))
    | exact wpAny_bind fin
theorem qI6 {X : Cx} {pins : List (Addr × Obj)} {σ : St} {H : Hp} {s : Shared} {a : Addr} {y : V} {o : Option V} (I : Inv X pins σ H s) (g : DGet H a y o) : s.TypeIs (.ref a) "dict" := by
  rcases g with ⟨kvs, k, e, _, _⟩ | ⟨kvs, k, b, e, _, _, _⟩
  . obtain ⟨_, _, vs, _, dd⟩ := qU0 I.hok e
    exact dd.typeIs
  . obtain ⟨_, _, xs, _, dd⟩ := qU1 I.hok e
    exact dd.typeIs
def tDGet (td ty : TE) : TE := fun σ H Q => td σ H fun x H1 => ty σ H1 fun y H2 => ∃ a v, x = .ref a ∧ DGet H2 a y (some v) ∧ Q v H2
def tDIn (ty td : TE) : TE := fun σ H Q => ty σ H fun y H1 => td σ H1 fun x H2 => ∃ a o, x = .ref a ∧ DGet H2 a y o ∧ Q (.bl o.isSome) H2
def tDNotIn (ty td : TE) : TE := fun σ H Q => ty σ H fun y H1 => td σ H1 fun x H2 => ∃ a o, x = .ref a ∧ DGet H2 a y o ∧ Q (.bl (!o.isSome)) H2
def sDPut (td ty tv : TE) : TS := fun D σ H => tv σ H fun v H1 => td σ H1 fun x H2 => ty σ H2 fun y H3 => ∃ a H4, x = .ref a ∧ DPut H3 a y v H4 ∧ D.nx σ H4
section
variable {X : Cx} {o i e value : Expr} {pos pos' tpos : Pos} {td ty tv : TE}
theorem ql8 (hu : X.A.units + 1 < cLine) (ho : PE X o td) (hi : PE X i ty) (hs : NoSl i) : PE X (.Subscript o i pos) (tDGet td ty) := by
  intro pins s σ H Q I h
  refine subD_of PySem.F.slot_dict_getitem.lookup hs (thn (ho pins s σ H _ I h) fun u s1 ⟨x, H1, I1, rx, q1⟩ => thn (hi pins s1 σ H1 _ I1 q1) fun iv s2 ⟨y, H2, I2, ry, a, v, ex, g, q2⟩ => ?_)
  subst ex
  obtain rfl : u = Value.ref a := rx
  exact ⟨qI6 I2 g, qU2 hu I2 g ry fun w' s3 I3 rw' => ⟨v, H2, I3, rw', q2⟩⟩
theorem pc_din (hu : X.A.units + 1 < cLine) (hi : PE X i ty) (ho : PE X o td) : PC X .In i o (tDIn ty td) := by
  intro pins s σ H Q I h
  refine thn (hi pins s σ H _ I h) fun iv s1 ⟨y, H1, I1, ry, q1⟩ => thn (ho pins s1 σ H1 _ I1 q1) fun u s2 ⟨x, H2, I2, rx, a, ov, ex, g, q2⟩ => ?_
  subst ex
  obtain rfl : u = Value.ref a := rx
  exact d_in hu I2 g ry fun s3 I3 => ⟨.bl ov.isSome, H2, I3, rfl, q2⟩
theorem ql9 (hu : X.A.units + 1 < cLine) (hi : PE X i ty) (ho : PE X o td) : PC X .NotIn i o (tDNotIn ty td) := by
  intro pins s σ H Q I h
  refine thn (hi pins s σ H _ I h) fun iv s1 ⟨y, H1, I1, ry, q1⟩ => thn (ho pins s1 σ H1 _ I1 q1) fun u s2 ⟨x, H2, I2, rx, a, ov, ex, g, q2⟩ => ?_
  subst ex
  obtain rfl : u = Value.ref a := rx
  exact d_notIn hu I2 g ry fun s3 I3 => ⟨.bl (!ov.isSome), H2, I3, rfl, q2⟩
theorem qn9 (hu : X.A.units + 1 < cLine) (ho : PE X o td) (hi : PE X i ty) (hv : PE X value tv) (hs : swapsWith value (some (.Subscript o i pos')) pos.line X.env = pure false) :
    PS X (.Assign [.Subscript o i pos'] value pos) (sDPut td ty tv) := by
  intro pins s σ H D I h
  refine wpAny_Assign_Subscript (thn (hv pins s σ H _ I h) fun r s1 ⟨v, H1, I1, rv, q1⟩ => thn (ho pins s1 σ H1 _ I1 q1) fun u s2 ⟨x, H2, I2, rx, q2⟩ => thn (hi pins s2 σ H2 _ I2 q2) fun iv s3 ⟨y, H3, I3, ry, a, H4, ex, g, q3⟩ => ?_) hs
  subst ex
  obtain rfl : u = Value.ref a := rx
  exact qU3 hu I3 g ry rv fun s4 I4 => ⟨σ, H4, I4, q3⟩
end
theorem dk_empty {P : Program} {w : World} {H : Hp} (h : Heap) (hb : sysModules < h.objs.size) : ObjOk P w H (h.push { cls := .type "dict", data := .dict #[] }) h.objs.size (.dK []) :=
  ⟨Nat.zero_le _, beq_eq_false_iff_ne.mpr (Ne.symm (Nat.ne_of_lt hb)), [], .nil, Heap.DictOf.new h⟩
theorem qK8 {P : Program} {w : World} {H : Hp} (h : Heap) (hb : sysModules < h.objs.size) : ObjOk P w H (h.push { cls := .type "dict", data := .dict #[] }) h.objs.size (.dT []) :=
  ⟨Nat.zero_le _, beq_eq_false_iff_ne.mpr (Ne.symm (Nat.ne_of_lt hb)), [], .nil, _, #[], 0, Heap.get?_push_size _ rfl, ⟨rfl, rfl, rfl⟩, rfl, rfl, List.nodup_nil⟩
def tDNewT : TE := fun _ H Q => ∀ p, H p = none -> Q (.ref p) (upd H p (.dT []))
section
variable {X : Cx} {pos : Pos}
theorem qs4 : PE X (.Dict [] [] pos) tDNewT := fun pins s σ H Q I h =>
  wpAny_Dict_empty ⟨.ref s.heap.objs.size, _, I.laid (a := s.heap.objs.size) (o := .dT []) (t' := s.toks) (fun _ _ q => Heap.get?_push_of_some _ q) (Nat.le_refl _) (qK8 s.heap I.big), rfl, h _ (I.hok.fresh (Nat.le_refl _))⟩
end
def qK9 : List (TE × TE) -> St -> Hp -> (List (V × V) -> Hp -> Prop) -> Prop
  | [], _, H, Q => Q [] H
  | (tk, tv) :: r, σ, H, Q => tk σ H fun x H1 => tv σ H1 fun y H2 => qK9 r σ H2 fun ps H3 => Q ((x, y) :: ps) H3
abbrev VV : List (V × V) -> List (Value × Value) -> Prop := Paired fun p q => RelV p.1 q.1 ∧ RelV p.2 q.2
def PPs (X : Cx) (pos : Pos) (keys : List (Option Expr)) (values : List Expr) (trs : List (TE × TE)) : Prop :=
  ∀ (pins : List (Addr × Obj)) (s : Shared) (σ : St) (H : Hp) (Q : List (V × V) -> Hp -> Prop), Inv X pins σ H s -> qK9 trs σ H Q ->
    wpAny (model X.prog X.w) X.A (evalPairs (pairTrees keys values X.env pos)) (fun vs s' => ∃ ps H', Inv X pins σ H' s' ∧ VV ps vs ∧ Q ps H') X.xe s
theorem pps_nil {X : Cx} {pos : Pos} : PPs X pos [] [] [] := fun pins s σ H Q I h => pairTrees_nil_walk ⟨[], H, I, .nil, h⟩
theorem pps_cons {X : Cx} {pos : Pos} {k v : Expr} {ks : List (Option Expr)} {vs : List Expr} {tk tv : TE} {trs : List (TE × TE)} (hk : PE X k tk) (hv : PE X v tv) (hr : PPs X pos ks vs trs) :
    PPs X pos (some k :: ks) (v :: vs) ((tk, tv) :: trs) := fun pins s σ H Q I h =>
  pairTrees_cons_walk (thn (hk pins s σ H _ I h) fun u s1 ⟨x, H1, I1, rx, q1⟩ => thn (hv pins s1 σ H1 _ I1 q1) fun w2 s2 ⟨y, H2, I2, ry, q2⟩ =>
    thn (hr pins s2 σ H2 _ I2 q2) fun ws s3 ⟨ps, H3, I3, rel, q3⟩ => ⟨(x, y) :: ps, H3, I3, .cons ⟨rx, ry⟩ rel, q3⟩)
def qx8 (kvs more : List (Key × V)) : List (Key × V) := more.foldl (fun acc kv => putK acc kv.1 kv.2) kvs
theorem KV.merge : ∀ {more : List (Key × V)} {rs : List (Key × Value)} {kvs : List (Key × V)} {vs : List (Key × Value)}, KV more rs -> KV kvs vs -> KV (qx8 kvs more) (merged vs rs) := by
  intro more rs kvs vs r
  unfold KV at r
  induction r generalizing kvs vs with
  | nil => intro q; exact q
  | @cons p q ps qs h t ih =>
    intro r0
    have e : KV (putK kvs p.1 p.2) (stored vs q.1 q.2) := by
      have := r0.put p.1 h.2
      rw [← h.1]; exact this
    exact ih e
theorem qp1 : ∀ (more kvs : List (Key × V)), (qx8 kvs more).length ≤ kvs.length + more.length
  | [], kvs => by show kvs.length ≤ kvs.length + 0; lia
  | p :: r, kvs => by
    have h1 := qp1 r (putK kvs p.1 p.2)
    have h2 := qf9 kvs p.1 p.2
    show (qx8 (putK kvs p.1 p.2) r).length ≤ _
    rw [List.length_cons]; lia
theorem qx9 {P : Program} {w : World} : ∀ {kvs : List (Key × V)} {ws : List (Value × Value)}, VV (kvs.map fun kv => (kV kv.1, kv.2)) ws -> ∃ rs, Carries (qd8 P w) ws rs ∧ KV kvs rs
  | [], _, r => by rw [List.map_nil] at r; cases r; exact ⟨[], True.intro, .nil⟩
  | p :: kvs, _, r => by
    rw [List.map_cons] at r
    cases r with
    | @cons a b as bs h t =>
      obtain ⟨rs, c, q⟩ := qx9 (P := P) (w := w) t
      obtain ⟨b1, b2⟩ := b
      exact ⟨(p.1, b2) :: rs, ⟨qP1 h.1, rfl, c⟩, .cons ⟨rfl, h.2⟩ q⟩
def tDisp (trs : List (TE × TE)) : TE := fun σ H Q => ∀ p, H p = none -> qK9 trs σ (upd H p (.dK [])) fun ps H2 => H2 p = some (.dK []) ∧ ∃ kvs : List (Key × V), ps = kvs.map (fun kv => (kV kv.1, kv.2)) ∧ kvs.length ≤ 15 ∧ Q (.ref p) (upd H2 p (.dK (qx8 [] kvs)))
theorem pe_disp {X : Cx} {pos : Pos} {keys : List (Option Expr)} {values : List Expr} {trs : List (TE × TE)} (h : PPs X pos keys values trs) (hall : keys.all (·.isSome) = true) (hl : keys.length = values.length) (h0 : keys ≠ [])
    (h15 : keys.length ≤ 15) : PE X (.Dict keys values pos) (tDisp trs) := by
  intro pins s σ H Q I q
  have hn := I.hok.fresh (Nat.le_refl s.heap.objs.size)
  have I1 := I.laid (a := s.heap.objs.size) (o := .dK []) (h' := s.heap.push { cls := .type "dict", data := .dict #[] }) (t' := s.toks) (fun _ _ q => Heap.get?_push_of_some _ q) (Nat.le_refl _) (dk_empty s.heap I.big)
  refine wpAny_Dict_walk (knd := qd8 X.prog X.w) hall hl h0 h15 (thn (h pins _ σ _ _ I1 (q _ hn)) fun ws s2 ⟨ps, H2, I2, rel, e, kvs, ep, lk, q2⟩ => ?_)
  subst ep
  obtain ⟨rs, c, rk⟩ := qx9 (P := X.prog) (w := X.w) rel
  obtain ⟨z, hd, vs0, r0, dd⟩ := dk_of I2.hok e
  cases r0
  refine ⟨rs, c, dd, fun h' dd' hs => ⟨.ref s.heap.objs.size, _, ?_, rfl, q2⟩⟩
  have hz : (qx8 [] kvs).length ≤ sizeLine := by
    have h1 := qp1 kvs []
    rw [List.length_nil] at h1
    rw [sizeLine_eq]; lia
  have he : ∃ q, h'.get? s.heap.objs.size = some q := let ⟨q, _, _, hq, _⟩ := dd'; ⟨q, hq⟩
  exact qz2 I2 (by rw [e]; exact True.intro) hs he (dk_new hz hd (rk.merge .nil) dd')
structure M1 (X : Cx) (o : Expr) (m : Str) (apos : Pos) (e : Expr) (cpos : Pos) : Prop where
  base : attributeBase o m X.env (eval o X.env) = eval o X.env
  few : ((backTo cpos (starEach [e] X.env)).all (fun x => !x.1) && (backToKw cpos (keywordEach [] X.env)).all (fun x => x.1.isSome)
    && decide (([e] : List Expr).length + ([] : List Keyword).length + (if ([] : List Keyword).isEmpty then 0 else 1) < 30)) = true
  line : (apos.endLine == cpos.line) = true
  trees : backTo cpos (starEach [e] X.env) = [(false, eval e X.env)]
structure M2 (X : Cx) (o : Expr) (m : Str) (apos : Pos) (e f : Expr) (cpos : Pos) : Prop where
  base : attributeBase o m X.env (eval o X.env) = eval o X.env
  few : ((backTo cpos (starEach [e, f] X.env)).all (fun x => !x.1) && (backToKw cpos (keywordEach [] X.env)).all (fun x => x.1.isSome)
    && decide (([e, f] : List Expr).length + ([] : List Keyword).length + (if ([] : List Keyword).isEmpty then 0 else 1) < 30)) = true
  line : (apos.endLine == cpos.line) = true
  trees : backTo cpos (starEach [e, f] X.env) = [(false, eval e X.env), (false, eval f X.env)]
section
variable {X : Cx} {pins : List (Addr × Obj)} {σ : St} {H : Hp} {s : Shared} {a : Addr} {y d : V} {u r : Value} {o : Option V} {A : Around} {E : Value -> Shared -> Prop}
end
section
variable {X : Cx} {o e f : Expr} {apos cpos : Pos} {td ty tx : TE}
end
section
variable {X : Cx} {pins : List (Addr × Obj)} {σ : St} {H : Hp} {s : Shared} {a : Addr} {kvs : List (Key × V)} {A : Around} {E : Value -> Shared -> Prop}
end
section
variable {X : Cx} {pins : List (Addr × Obj)} {σ : St} {H : Hp} {s : Shared} {a : Addr} {y : V} {u : Value} {A : Around} {E : Value -> Shared -> Prop}
end
end L2
namespace L2
open PySem PySem.Spec PyProof.Rows
section
variable {X : Cx}
end
section
variable {κ : Type} [DecidableEq κ]
end
end L2
set_option linter.all false
namespace SetT
open PySem
def g : Nat -> Nat
  | 0 => 0
  | n + 1 => 5 * g n + 1
def F : Nat -> Nat -> Nat
  | 0, x => x
  | n + 1, x => 5 * F n x + 1
theorem F_eq (n x : Nat) : F n x = x + g n * (4 * x + 1) := by
  induction n with
  | zero => simp [F, g]
  | succ n ih =>
    show 5 * F n x + 1 = x + (5 * g n + 1) * (4 * x + 1)
    rw [ih, Nat.add_mul, Nat.one_mul, Nat.mul_assoc]
    lia
theorem F_add (m n x : Nat) : F (m + n) x = F m (F n x) := by
  induction m with
  | zero => simp [F]
  | succ m ih =>
    rw [Nat.succ_add]
    show 5 * F (m + n) x + 1 = 5 * F m (F n x) + 1
    rw [ih]
theorem g_F (n : Nat) : g n = F n 0 := by
  rw [F_eq]; simp
theorem g_add (m n : Nat) : g (m + n) = g n + g m * (4 * g n + 1) := by
  rw [g_F, F_add, F_eq m, ← g_F n]
theorem g_pow : ∀ k : Nat, ∃ c, g (2 ^ k) = 2 ^ k * (2 * c + 1)
  | 0 => ⟨0, rfl⟩
  | k + 1 => by
    obtain ⟨c, hc⟩ := g_pow k
    have e : g (2 ^ (k + 1)) = g (2 ^ k) * (4 * g (2 ^ k) + 2) := by
      rw [Nat.pow_succ, Nat.mul_two, g_add]
      generalize g (2 ^ k) = y
      rw [Nat.mul_add, Nat.mul_add]
      lia
    rw [e, hc]
    refine ⟨2 ^ k * (2 * c + 1) * (2 * c + 1) + c, ?_⟩
    rw [Nat.pow_succ]
    generalize 2 ^ k = p
    have h1 : p * (2 * c + 1) * (4 * (p * (2 * c + 1)) + 2) = p * 2 * ((2 * c + 1) * (2 * (p * (2 * c + 1)) + 1)) := by
      have : 4 * (p * (2 * c + 1)) + 2 = 2 * (2 * (p * (2 * c + 1)) + 1) := by lia
      rw [this, Nat.mul_assoc, Nat.mul_assoc, Nat.mul_left_comm (2 * c + 1) 2]
    rw [h1]
    congr 1
    rw [Nat.mul_add, Nat.mul_one, Nat.mul_left_comm, Nat.mul_comm (2 * c + 1) (p * (2 * c + 1))]
    lia
theorem qz3 (k a q : Nat) : (2 ^ k * a + q) % 2 ^ (k + 1) = (2 ^ k * (a % 2) + q) % 2 ^ (k + 1) := by
  have ha : a = 2 * (a / 2) + a % 2 := by lia
  have : 2 ^ k * a + q = (2 ^ k * (a % 2) + q) + 2 ^ (k + 1) * (a / 2) := by
    have h : 2 ^ k * a + q = 2 ^ k * (2 * (a / 2) + a % 2) + q := by rw [← ha]
    rw [h, Nat.pow_succ, Nat.mul_add, Nat.mul_assoc]
    lia
  rw [this, Nat.add_mul_mod_self_left]
theorem cover : ∀ (k x y : Nat), ∃ r, r < 2 ^ k ∧ F r x % 2 ^ k = y % 2 ^ k
  | 0, x, y => ⟨0, by decide, by simp [Nat.mod_one]⟩
  | k + 1, x, y => by
    obtain ⟨r, hr, e⟩ := cover k x y
    have hp : 0 < 2 ^ k := Nat.two_pow_pos k
    have h2 : (2 : Nat) ^ (k + 1) = 2 ^ k + 2 ^ k := by rw [Nat.pow_succ, Nat.mul_two]
    obtain ⟨c, hc⟩ := g_pow k
    have e2 : F (2 ^ k + r) x = F r x + 2 ^ k * (2 * c + 1) * (4 * F r x + 1) := by
      rw [F_add, F_eq (2 ^ k), hc]
    have y1 : 2 ^ k * (y / 2 ^ k) + y % 2 ^ k = y := Nat.div_add_mod y _
    have z1 : 2 ^ k * (F r x / 2 ^ k) + F r x % 2 ^ k = F r x := Nat.div_add_mod _ _
    by_cases h : F r x / 2 ^ k % 2 = y / 2 ^ k % 2
    . refine ⟨r, by lia, ?_⟩
      rw [← z1, ← y1, qz3, h, ← qz3, e]
    . refine ⟨2 ^ k + r, by lia, ?_⟩
      rw [e2]
      generalize F r x = z at *
      have o : (2 * c + 1) * (4 * z + 1) = 2 * (c * (4 * z + 1) + 2 * z) + 1 := by
        rw [Nat.add_mul, Nat.one_mul, Nat.mul_assoc]
        lia
      have e3 : z + 2 ^ k * (2 * c + 1) * (4 * z + 1) = 2 ^ k * (z / 2 ^ k + (2 * (c * (4 * z + 1) + 2 * z) + 1)) + z % 2 ^ k := by
        rw [Nat.mul_assoc, o, Nat.mul_add (2 ^ k) (z / 2 ^ k)]
        lia
      rw [e3, ← y1, qz3, e]
      have e4 : (z / 2 ^ k + (2 * (c * (4 * z + 1) + 2 * z) + 1)) % 2 = y / 2 ^ k % 2 := by lia
      rw [e4, ← qz3]
def qf8 (mask : Nat) : Nat -> Nat -> Nat -> Nat
  | 0, i, _ => i
  | r + 1, i, p => qf8 mask r (SetTable.leap mask i p).1 (SetTable.leap mask i p).2
theorem qu7 (k : Nat) : ∀ (r i : Nat), qf8 (2 ^ k - 1) r (i % 2 ^ k) 0 = F r i % 2 ^ k
  | 0, i => rfl
  | r + 1, i => by
    have hp : 0 < 2 ^ k := Nat.two_pow_pos k
    show qf8 (2 ^ k - 1) r ((i % 2 ^ k * 5 + 1 + 0 / 32) % (2 ^ k - 1 + 1)) (0 / 32) = _
    have e1 : 2 ^ k - 1 + 1 = 2 ^ k := by lia
    have e2 : (i % 2 ^ k * 5 + 1 + 0 / 32) % 2 ^ k = (5 * i + 1) % 2 ^ k := by
      simp only [Nat.zero_div, Nat.add_zero]
      rw [Nat.add_mod, Nat.mul_mod, Nat.mod_mod, ← Nat.mul_mod, ← Nat.add_mod, Nat.mul_comm]
    rw [e1, e2, Nat.zero_div, qu7 k r (5 * i + 1)]
    have : F r (5 * i + 1) = F (r + 1) i := by rw [F_add r 1 i]; rfl
    rw [this]
theorem qy0 (mask : Nat) : ∀ (a b i p : Nat), qf8 mask (a + b) i p = qf8 mask b (qf8 mask a i p) (p / 32 ^ a)
  | 0, b, i, p => by simp [qf8]
  | a + 1, b, i, p => by
    rw [Nat.succ_add]
    show qf8 mask (a + b) _ _ = qf8 mask b (qf8 mask a _ _) _
    rw [qy0 mask a b]
    show qf8 mask b _ (p / 32 / 32 ^ a) = _
    rw [Nat.div_div_eq_div_mul, Nat.pow_succ, Nat.mul_comm (32 ^ a) 32]
theorem qC9 (mask : Nat) : ∀ (a i p : Nat), i < mask + 1 -> qf8 mask a i p < mask + 1
  | 0, i, p, h => h
  | a + 1, i, p, _ => qC9 mask a _ _ (Nat.mod_lt _ (Nat.succ_pos _))
theorem qu8 (k i p j : Nat) (hi : i < 2 ^ k) (hp : p < 2 ^ 64) (hj : j < 2 ^ k) : ∃ r, r < 13 + 2 ^ k ∧ qf8 (2 ^ k - 1) r i p = j := by
  have hk : 0 < 2 ^ k := Nat.two_pow_pos k
  have hl := qC9 (2 ^ k - 1) 13 i p (by lia)
  obtain ⟨r, hr, e⟩ := cover k (qf8 (2 ^ k - 1) 13 i p) j
  refine ⟨13 + r, by lia, ?_⟩
  rw [qy0]
  have hz : p / 32 ^ 13 = 0 := Nat.div_eq_of_lt (Nat.lt_trans hp (by decide))
  have hm : qf8 (2 ^ k - 1) 13 i p = qf8 (2 ^ k - 1) 13 i p % 2 ^ k := (Nat.mod_eq_of_lt (by lia)).symm
  rw [hz, hm, qu7, e, Nat.mod_eq_of_lt hj]
theorem qU4 (mask i : Nat) : SetTable.runEnd mask i - i ≤ 9 := by unfold SetTable.runEnd; split <;> lia
def adv (t : SetTable) : Nat -> SetTable.Probe -> SetTable.Probe
  | 0, p => p
  | n + 1, p => adv t n (t.advance p)
theorem qU5 (t : SetTable) : ∀ (m : Nat) (p : SetTable.Probe), m ≤ p.more -> adv t m p = { p with j := p.j + m, more := p.more - m }
  | 0, p, _ => by simp [adv]
  | m + 1, p, h => by
    have e : t.advance p = { p with j := p.j + 1, more := p.more - 1 } := by
      unfold SetTable.advance
      rw [if_pos (by lia)]
    show adv t m (t.advance p) = _
    rw [e, qU5 t m _ (by show m ≤ p.more - 1; lia)]
    show SetTable.Probe.mk _ _ _ _ _ = SetTable.Probe.mk _ _ _ _ _
    congr 1
    . show p.j + 1 + m = p.j + (m + 1); lia
    . show p.more - 1 - m = p.more - (m + 1); lia
theorem qu9 (t : SetTable) : ∀ (a b : Nat) (p : SetTable.Probe), adv t (a + b) p = adv t b (adv t a p)
  | 0, b, p => by simp [adv]
  | a + 1, b, p => by rw [Nat.succ_add]; exact qu9 t a b _
structure Head (t : SetTable) (i perturb : Nat) (d : Option Nat) (p : SetTable.Probe) : Prop where
  e : p = { j := i, more := SetTable.runEnd t.mask i - i, i := i, perturb := perturb, dummy := d }
theorem qU6 {t : SetTable} {i q : Nat} {d : Option Nat} {p : SetTable.Probe} (h : Head t i q d p) : ∃ n, n ≤ 10 ∧ Head t (SetTable.leap t.mask i q).1 (SetTable.leap t.mask i q).2 d (adv t n p) := by
  have hr := qU4 t.mask i
  refine ⟨(SetTable.runEnd t.mask i - i) + 1, by lia, ⟨?_⟩⟩
  rw [qu9, qU5 t _ p (by rw [h.e]; exact Nat.le_refl _)]
  show t.advance _ = _
  rw [h.e]
  unfold SetTable.advance
  rw [if_neg (by show ¬ (SetTable.runEnd t.mask i - i) - (SetTable.runEnd t.mask i - i) > 0; lia)]
theorem qU7 {t : SetTable} {d : Option Nat} : ∀ (r : Nat) {i q : Nat} {p : SetTable.Probe}, Head t i q d p -> ∃ n, n ≤ 10 * r ∧ (adv t n p).j = qf8 t.mask r i q ∧ (adv t n p).dummy = d
  | 0, i, q, p, h => ⟨0, Nat.le_refl _, by show p.j = i; rw [h.e], by show p.dummy = d; rw [h.e]⟩
  | r + 1, i, q, p, h => by
    obtain ⟨n, hn, h1⟩ := qU6 h
    obtain ⟨m, hm, e1, e2⟩ := qU7 r h1
    exact ⟨n + m, by lia, by rw [qu9]; exact e1, by rw [qu9]; exact e2⟩
theorem qv0 (t : SetTable) : ∀ (n : Nat) (p : SetTable.Probe), (adv t n p).dummy = p.dummy
  | 0, p => rfl
  | n + 1, p => by
    show (adv t n (t.advance p)).dummy = _
    rw [qv0 t n]
    unfold SetTable.advance
    split <;> rfl
theorem qU8 (h : Int) : SetTable.bits h < 2 ^ 64 := by
  unfold SetTable.bits
  have := Int.emod_lt_of_pos h (show (0 : Int) < 2 ^ 64 by decide)
  have h0 := Int.emod_nonneg h (show (2 ^ 64 : Int) ≠ 0 by decide)
  lia
theorem meet {t : SetTable} {k : Nat} (hm : t.mask = 2 ^ k - 1) (h : Int) {j : Nat} (hj : j < 2 ^ k) : ∃ n, n < 10 * SetTable.turns t.mask ∧ (adv t n (t.probeStart h)).j = j := by
  have hk : 0 < 2 ^ k := Nat.two_pow_pos k
  have hd : Head t (SetTable.bits h % (t.mask + 1)) (SetTable.bits h) none (t.probeStart h) := ⟨rfl⟩
  obtain ⟨r, hr, e⟩ := qu8 k (SetTable.bits h % (t.mask + 1)) (SetTable.bits h) j (by rw [hm]; have := Nat.mod_lt (SetTable.bits h) hk; rw [show 2 ^ k - 1 + 1 = 2 ^ k by lia]; exact this) (qU8 h) hj
  obtain ⟨n, hn, e1, _⟩ := qU7 r hd
  refine ⟨n, ?_, by rw [e1]; rw [← hm] at e; exact e⟩
  unfold SetTable.turns
  lia
theorem qL0 (j : Nat) : SetTable.has #[] j = false := by
  unfold SetTable.has
  simp
theorem qU9 {t : SetTable} (hd : t.dummies = #[]) (j : Nat) : (t.slot j = .empty) ∨ ∃ i, t.slot j = .live i ∧ t.place[i]? = some j := by
  unfold SetTable.slot
  simp only
  split
  . rename_i h
    exact .inr ⟨_, rfl, by simpa using h⟩
  . rw [hd, qL0]
    exact .inl rfl
theorem qV0 {t : SetTable} (hd : t.dummies = #[]) {j : Nat} (h : j ∉ t.place.toList) : t.slot j = .empty := by
  rcases qU9 hd j with e | ⟨i, _, e⟩
  . exact e
  . refine absurd ?_ h
    have := Array.mem_of_getElem? e
    simpa using this
theorem pigeon : ∀ (n : Nat) (l : List Nat), l.length < n -> ∃ j, j < n ∧ j ∉ l
  | 0, l, h => absurd h (Nat.not_lt_zero _)
  | n + 1, l, h => by
    by_cases hn : n ∈ l
    . obtain ⟨j, hj, hl⟩ := pigeon n (l.erase n) (by rw [List.length_erase_of_mem hn]; have := List.length_pos_of_mem hn; lia)
      refine ⟨j, by lia, fun m => hl ?_⟩
      exact (List.mem_erase_of_ne (by lia)).mpr m
    . exact ⟨n, Nat.lt_succ_self n, hn⟩
structure Grown (t : SetTable) (n : Nat) : Prop where
  pl : t.place.size = n
  du : t.dummies = #[]
  ma : ∃ k, t.mask = 2 ^ k - 1 ∧ 1 ≤ k
  le : n ≤ t.mask
theorem Grown.fill {t : SetTable} {n : Nat} (h : Grown t n) : t.fill = n := by unfold SetTable.fill; rw [h.pl, h.du]; rfl
theorem Grown.way {t : SetTable} {n : Nat} (h : Grown t n) : t.gaveWay = false := by
  obtain ⟨k, e, hk⟩ := h.ma
  unfold SetTable.gaveWay
  rw [e]
  obtain ⟨k, rfl⟩ : ∃ m, k = m + 1 := ⟨k - 1, by lia⟩
  have := Nat.two_pow_pos k
  have e2 : (2 ^ (k + 1) - 1) % 2 = 1 := by rw [Nat.pow_succ]; lia
  rw [e2]
  rfl
theorem Grown.meets {t : SetTable} {n : Nat} (g : Grown t n) (h : Int) : ∃ m, m < 10 * SetTable.turns t.mask ∧ t.slot (adv t m (t.probeStart h)).j = .empty := by
  obtain ⟨k, e, _⟩ := g.ma
  have hk := Nat.two_pow_pos k
  obtain ⟨j, hj, hl⟩ := pigeon (2 ^ k) t.place.toList (by simp only [Array.length_toList, g.pl]; have := g.le; lia)
  obtain ⟨m, hm, ej⟩ := meet e h hj
  exact ⟨m, hm, by rw [ej]; exact qV0 g.du hl⟩
theorem qV1 {t : SetTable} (hd : t.dummies = #[]) (hashAt : Nat -> Int) (h : Int) : ∀ (f m : Nat) (p : SetTable.Probe), m < f -> p.dummy = none -> t.slot (adv t m p).j = .empty ->
    (∃ j, SetTable.probe.go t hashAt h f p = some (.empty j none)) ∨
    (∃ m' j i, m' < m ∧ SetTable.probe.go t hashAt h f p = some (.candidate j i (adv t (m' + 1) p)) ∧ t.slot j = .live i ∧ t.place[i]? = some j ∧ hashAt i = h)
  | 0, m, p, h1, _, _ => absurd h1 (Nat.not_lt_zero _)
  | f + 1, m, p, h1, hp, he => by
    unfold SetTable.probe.go
    rcases qU9 hd p.j with e | ⟨i, e, e2⟩
    . rw [e]
      exact .inl ⟨p.j, by rw [hp]⟩
    . rw [e]
      cases m with
      | zero =>
        have he' : t.slot p.j = .empty := he
        rw [e] at he'; cases he'
      | succ m =>
        by_cases hc : hashAt i == h
        . refine .inr ⟨0, p.j, i, Nat.succ_pos _, ?_, e, e2, by simpa using hc⟩
          simp only
          rw [if_pos hc]
          rfl
        . simp only
          rw [if_neg hc]
          rcases qV1 hd hashAt h f m (t.advance p) (by lia) (by rw [← hp]; exact qv0 t 1 p) he with ⟨j, ej⟩ | ⟨m', j, i', hm', ej, r⟩
          . exact .inl ⟨j, ej⟩
          . exact .inr ⟨m' + 1, j, i', by lia, ej, r⟩
theorem qp2 {α : Type} (xs : Array α) (p : Nat) (x : α) : (SetTable.insertAt xs p x).size = xs.size + 1 := by
  unfold SetTable.insertAt
  simp
  lia
theorem qD0 {α : Type} {xs : Array α} {p : Nat} {x y : α} (h : y ∈ SetTable.insertAt xs p x) : y = x ∨ y ∈ xs := by
  unfold SetTable.insertAt at h
  rcases Array.mem_append.mp h with h | h
  . rcases Array.mem_push.mp h with h | h
    . obtain ⟨i, hi, e⟩ := Array.mem_extract_iff_getElem.mp h
      exact .inr (by rw [← e]; exact Array.getElem_mem _)
    . exact .inl h
  . obtain ⟨i, hi, e⟩ := Array.mem_extract_iff_getElem.mp h
    exact .inr (by rw [← e]; exact Array.getElem_mem _)
theorem Grown.put {t : SetTable} {n : Nat} (g : Grown t n) (hf : t.tooFull = false) (j : Nat) : Grown (t.put j).1 (n + 1) := by
  have e : (t.put j).1 = { t with place := SetTable.insertAt t.place (SetTable.below t.place j) j } := by
    unfold SetTable.put
    simp only
    rw [g.du, qL0]
    simp [g.du]
  rw [e]
  refine ⟨by rw [qp2, g.pl], g.du, g.ma, ?_⟩
  show n + 1 ≤ t.mask
  unfold SetTable.tooFull at hf
  rw [g.fill] at hf
  have := of_decide_eq_false hf
  lia
theorem qD1 {mask : Nat} {owner : Array (Option Nat)} : ∀ (f r i p : Nat), r < f -> (owner.getD (qf8 mask r i p) (some 0)).isNone = true ->
    ∃ j, SetTable.layClean.free mask owner f i p = some j ∧ (owner.getD j (some 0)).isNone = true
  | 0, r, i, p, h, _ => absurd h (Nat.not_lt_zero _)
  | f + 1, r, i, p, h, hn => by
    unfold SetTable.layClean.free
    cases e : (List.range (SetTable.runEnd mask i + 1 - i)).find? fun k => (owner.getD (i + k) (some 0)).isNone with
    | some k =>
      have := List.find?_some e
      exact ⟨i + k, rfl, this⟩
    | none =>
      cases r with
      | zero =>
        have h0 : ∀ x ∈ List.range (SetTable.runEnd mask i + 1 - i), ¬ (owner.getD (i + x) (some 0)).isNone = true := by simpa using e
        have hm : 0 ∈ List.range (SetTable.runEnd mask i + 1 - i) := List.mem_range.mpr (by unfold SetTable.runEnd; split <;> lia)
        exact absurd hn (h0 0 hm)
      | succ r => exact qD1 f r _ _ (by lia) hn
def cnt (owner : Array (Option Nat)) : Nat := (owner.toList.filter Option.isSome).length
theorem qr9 : ∀ (l : List (Option Nat)) (j k : Nat), l[j]? = some none -> ((l.set j (some k)).filter Option.isSome).length = (l.filter Option.isSome).length + 1
  | [], j, k, h => by simp at h
  | a :: l, 0, k, h => by
    have : a = none := by simpa using h
    subst this
    simp
  | a :: l, j + 1, k, h => by
    have ih := qr9 l j k (by simpa using h)
    rw [List.set_cons_succ, List.filter_cons, List.filter_cons]
    split
    . rw [List.length_cons, List.length_cons, ih]
    . exact ih
theorem qV2 : ∀ (l : List (Option Nat)), (l.filter Option.isSome).length < l.length -> ∃ j : Nat, l[j]? = some none
  | [], h => by simp at h
  | none :: l, _ => ⟨0, rfl⟩
  | some a :: l, h => by
    obtain ⟨j, hj⟩ := qV2 l (by simpa using h)
    exact ⟨j + 1, by simpa using hj⟩
structure Laid (mask : Nat) (owner : Array (Option Nat)) (K : Nat) : Prop where
  sz : owner.size = mask + 1
  ct : cnt owner = K
  lt : ∀ v, some v ∈ owner.toList -> v < K
theorem Laid.step {mask k K : Nat} {owner : Array (Option Nat)} (hm : mask = 2 ^ k - 1) (g : Laid mask owner K) (hK : K ≤ mask) (h : Int) :
    ∃ j, SetTable.layClean.free mask owner (SetTable.turns mask) (SetTable.bits h % (mask + 1)) (SetTable.bits h) = some j ∧ Laid mask (owner.setIfInBounds j (some K)) (K + 1) := by
  have hk := Nat.two_pow_pos k
  obtain ⟨j0, hj0⟩ := qV2 owner.toList (by
    have := g.ct
    unfold cnt at this
    rw [this, Array.length_toList, g.sz]
    lia)
  have hl : j0 < mask + 1 := by
    have := (List.getElem?_eq_some_iff.mp hj0).1
    rw [Array.length_toList, g.sz] at this
    exact this
  have e1 : mask + 1 = 2 ^ k := by lia
  obtain ⟨r, hr, er⟩ := qu8 k (SetTable.bits h % (mask + 1)) (SetTable.bits h) j0 (by rw [← e1]; exact Nat.mod_lt _ (Nat.succ_pos _)) (qU8 h) (by lia)
  rw [← hm] at er
  have hgd : ∀ j, (owner.getD j (some 0)).isNone = true ↔ owner.toList[j]? = some none := fun j => by
    rw [Array.getElem?_toList]
    by_cases hj : j < owner.size
    . simp [Array.getD, hj]
    . simp [Array.getD, hj]
  obtain ⟨j, ej, hj⟩ := qD1 (mask := mask) (owner := owner) (SetTable.turns mask) r _ _ (by unfold SetTable.turns; lia) (by rw [er]; exact (hgd j0).mpr hj0)
  have hj' := (hgd j).mp hj
  refine ⟨j, ej, by rw [Array.size_setIfInBounds]; exact g.sz, ?_, fun v hv => ?_⟩
  . unfold cnt
    rw [Array.toList_setIfInBounds, qr9 _ _ _ hj']
    have := g.ct
    unfold cnt at this
    rw [this]
  . rw [Array.toList_setIfInBounds] at hv
    rcases List.mem_or_eq_of_mem_set hv with hv | hv
    . have := g.lt v hv; lia
    . have : v = K := by simpa using hv
      lia
theorem qL1 {mask k : Nat} (hm : mask = 2 ^ k - 1) : ∀ (hs : List Int) (owner : Array (Option Nat)) (K : Nat), Laid mask owner K -> K + hs.length ≤ mask ->
    ∃ owner', (hs.foldl (fun (acc : Option (Array (Option Nat) × Nat)) (h : Int) => do
      let (owner, k) ← acc
      let j ← SetTable.layClean.free mask owner (SetTable.turns mask) (SetTable.bits h % (mask + 1)) (SetTable.bits h)
      pure (owner.setIfInBounds j (some k), k + 1)) (some (owner, K))) = some (owner', K + hs.length) ∧ Laid mask owner' (K + hs.length)
  | [], owner, K, g, _ => ⟨owner, rfl, g⟩
  | h :: hs, owner, K, g, hl => by
    rw [List.length_cons] at hl
    obtain ⟨j, ej, g'⟩ := g.step hm (by lia) h
    obtain ⟨o', e', g''⟩ := qL1 hm hs _ (K + 1) g' (by lia)
    refine ⟨o', ?_, by rw [List.length_cons, show K + (hs.length + 1) = K + 1 + hs.length by lia]; exact g''⟩
    rw [List.foldl_cons, List.length_cons, show K + (hs.length + 1) = K + 1 + hs.length by lia, ← e']
    congr 1
    show (SetTable.layClean.free mask owner (SetTable.turns mask) (SetTable.bits h % (mask + 1)) (SetTable.bits h)).bind _ = _
    rw [ej]
    rfl
theorem lay_all {mask k : Nat} (hm : mask = 2 ^ k - 1) (hs : Array Int) (hl : hs.size ≤ mask) : ∃ owner, SetTable.layClean mask hs = some owner ∧ Laid mask owner hs.size := by
  have g0 : Laid mask (Array.replicate (mask + 1) none) 0 := ⟨by simp, by unfold cnt; simp, fun v hv => by simp at hv⟩
  obtain ⟨o, e, g⟩ := qL1 hm hs.toList _ 0 g0 (by simpa using hl)
  refine ⟨o, ?_, by simpa using g⟩
  unfold SetTable.layClean
  rw [← Array.foldl_toList, e]
  rfl
theorem qz4 {α β : Type} {f g : α -> Option β} : ∀ (l : List α), (∀ x ∈ l, f x = g x) -> l.filterMap f = l.filterMap g
  | [], _ => rfl
  | a :: l, h => by
    rw [List.filterMap_cons, List.filterMap_cons, h a List.mem_cons_self, qz4 l fun x hx => h x (List.mem_cons_of_mem _ hx)]
theorem qL2 : ∀ (l : List (Option Nat)) (a : Nat), ((List.range' a l.length).filterMap fun j => ((l[j - a]?).getD none).map (fun v => (j, v))).length = (l.filter Option.isSome).length
  | [], a => rfl
  | x :: l, a => by
    rw [List.length_cons, List.range'_succ, List.filterMap_cons]
    have ih := qL2 l (a + 1)
    have e : (List.range' (a + 1) l.length).filterMap (fun j => (((x :: l)[j - a]?).getD none).map (fun v => (j, v))) = (List.range' (a + 1) l.length).filterMap fun j => ((l[j - (a + 1)]?).getD none).map (fun v => (j, v)) := by
      refine qz4 _ fun j hj => ?_
      have := (List.mem_range'_1.mp hj).1
      obtain ⟨d, rfl⟩ : ∃ d, j = a + 1 + d := ⟨j - (a + 1), by lia⟩
      rw [show a + 1 + d - a = d + 1 by lia, show a + 1 + d - (a + 1) = d by lia, List.getElem?_cons_succ]
    rw [e, Nat.sub_self]
    cases x with
    | none => simpa using ih
    | some v => simpa using ih
theorem qV3 {mask k finger moves : Nat} {led plain : Bool} (hm : mask = 2 ^ k - 1) (h1 : 1 ≤ k) (hs : Array Int) (hl : hs.size ≤ mask) :
    ∃ t order, SetTable.laid mask finger moves led plain hs = some (t, order) ∧ Grown t hs.size ∧ t.mask = mask ∧ t.led = led ∧ t.moves = moves ∧ order.size = hs.size ∧ ∀ v ∈ order, v < hs.size := by
  obtain ⟨owner, e, g⟩ := lay_all hm hs hl
  have el : ∀ a : Nat, (List.range (mask + 1)).filterMap (fun j => (owner.getD j none).map (fun v => (j, v))) = (List.range' 0 owner.toList.length).filterMap fun j => ((owner.toList[j - 0]?).getD none).map (fun v => (j, v)) := fun _ => by
    rw [Array.length_toList, g.sz, ← List.range_eq_range']
    refine qz4 _ fun j hj => ?_
    have hj' := List.mem_range.mp hj
    rw [Nat.sub_zero, Array.getElem?_toList]
    simp [Array.getD, g.sz, hj']
  have len : ((List.range (mask + 1)).filterMap (fun j => (owner.getD j none).map (fun v => (j, v)))).length = hs.size := by
    rw [el 0, qL2, ← g.ct]
    rfl
  refine ⟨_, _, by unfold SetTable.laid; rw [e]; rfl, ⟨?_, rfl, ⟨k, hm, h1⟩, hl⟩, rfl, rfl, rfl, ?_, fun v hv => ?_⟩
  . show ((((List.range (mask + 1)).filterMap (fun j => (owner.getD j none).map (fun v => (j, v)))).map (·.1)).toArray).size = _
    rw [List.size_toArray, List.length_map, len]
  . show ((((List.range (mask + 1)).filterMap (fun j => (owner.getD j none).map (fun v => (j, v)))).map (·.2)).toArray).size = _
    rw [List.size_toArray, List.length_map, len]
  . have hv' : v ∈ ((List.range (mask + 1)).filterMap (fun j => (owner.getD j none).map (fun v => (j, v)))).map (·.2) := by simpa using hv
    obtain ⟨q, hq, rfl⟩ := List.mem_map.mp hv'
    obtain ⟨j, hj, ej⟩ := List.mem_filterMap.mp hq
    obtain ⟨v', ev, rfl⟩ := Option.map_eq_some_iff.mp ej
    refine g.lt v' ?_
    have hj' := List.mem_range.mp hj
    have : owner[j]'(by rw [g.sz]; exact hj') = some v' := by simpa [Array.getD, g.sz, hj'] using ev
    rw [← this]
    simp
theorem qD2 : ∀ (f k n : Nat), 3 ≤ k -> n < 2 ^ (k + f) -> ∃ k', SetTable.sizeAbove.go n f (2 ^ k) = 2 ^ k' ∧ 3 ≤ k' ∧ n < 2 ^ k' ∧ (2 ^ k ≤ 2 * n + 8 -> 2 ^ k' ≤ 2 * n + 8)
  | 0, k, n, hk, h => ⟨k, rfl, hk, h, fun z => z⟩
  | f + 1, k, n, hk, h => by
    unfold SetTable.sizeAbove.go
    by_cases hc : 2 ^ k ≤ n
    . rw [if_pos hc, ← Nat.pow_succ]
      obtain ⟨k', e, h1, h2, h3⟩ := qD2 f (k + 1) n (by lia) (by rw [show k + 1 + f = k + (f + 1) by lia]; exact h)
      exact ⟨k', e, h1, h2, fun _ => h3 (by rw [Nat.pow_succ]; lia)⟩
    . rw [if_neg hc]
      exact ⟨k, rfl, hk, by lia, fun z => z⟩
theorem qs0 {n : Nat} (h : n < 2 ^ 60) : ∃ k, SetTable.sizeAbove n = 2 ^ k ∧ 3 ≤ k ∧ n < 2 ^ k ∧ 2 ^ k ≤ 2 * n + 8 := by
  obtain ⟨k, e, h1, h2, h3⟩ := qD2 64 3 n (by decide) (Nat.lt_trans h (by decide))
  exact ⟨k, e, h1, h2, h3 (by show 8 ≤ 2 * n + 8; lia)⟩
theorem qI7 {t : SetTable} {hs : Array Int} {wanted : Nat} (hw : wanted < 2 ^ 60) (hl : hs.size < wanted) :
    ∃ t' order, t.relaid hs wanted = some (t', order) ∧ Grown t' hs.size ∧ wanted ≤ t'.mask ∧ t'.mask ≤ 2 * wanted + 8 ∧ t'.led = t.led ∧ order.size = hs.size ∧ ∀ v ∈ order, v < hs.size := by
  obtain ⟨k, e, h1, h2, h3⟩ := qs0 hw
  have hk := Nat.two_pow_pos k
  obtain ⟨t', order, el, g, em, eled, _, eo, ev⟩ := qV3 (mask := 2 ^ k - 1) (k := k) (finger := t.finger) (moves := t.movedTo (2 ^ k - 1)) (led := t.led) (plain := t.plain) rfl (by lia) hs (by lia)
  refine ⟨t', order, ?_, g, by rw [em]; lia, by rw [em]; lia, eled, eo, ev⟩
  unfold SetTable.relaid
  rw [e]
  exact el
theorem qV4 {α : Type} {es : Array α} {order : Array Nat} (h : ∀ v ∈ order, v < es.size) : (order.filterMap (es[·]?)).size = order.size := by
  rw [← Array.length_toList, Array.toList_filterMap, ← Array.length_toList (xs := order)]
  have : ∀ l : List Nat, (∀ v ∈ l, v < es.size) -> (l.filterMap (es[·]?)).length = l.length := fun l => by
    induction l with
    | nil => intro _; rfl
    | cons a l ih =>
      intro hh
      rw [List.filterMap_cons]
      have ha := hh a List.mem_cons_self
      rw [show es[a]? = some es[a] by simp [ha]]
      simp [ih fun v hv => hh v (List.mem_cons_of_mem _ hv)]
  exact this _ fun v hv => h v (by simpa using hv)
theorem mem_pick {α : Type} {es : Array α} {order : Array Nat} {y : α} (h : y ∈ order.filterMap (es[·]?)) : y ∈ es := by
  obtain ⟨v, _, e⟩ := Array.mem_filterMap.mp h
  exact Array.mem_of_getElem? e
end SetT
set_option Elab.async false
set_option linter.all false
set_option maxRecDepth 100000
set_option maxHeartbeats 4000000
namespace SetT
open PySem PySem.Spec PyProof.Rows
section
variable {prog : Program} {w : World} {K : Type} [DecidableEq K] {knd : KeyKind prog w K} {A : Around} {E : Value -> Shared -> Prop} {s : Shared}
theorem qv1 (n : Nat) {v : Value} (h : carriedByValue v = true) : ofAClassStatement n v = pure false := by
  cases v with
  | ref a => simp [carriedByValue] at h
  | _ => first | rfl | (unfold ofAClassStatement; rfl) | (cases n <;> rfl)
theorem seqItems?_of {M : Model} {a : Addr} {o : Obj} {items : Array Value} {n : Nat} {Q : Option (Array Value) -> Shared -> Prop} (ho : s.heap.get? a = some o) (hd : o.data = .seq items n) (h : Q (some items) s) :
    wpAny M A (seqItems? (.ref a)) Q E s := wpAny_seqItems ho hd h
theorem qp3 {ks : List K} {a : Addr} {Q : Bool -> Shared -> Prop} (hk : IsTupleKey knd s.heap ks a) (h : Q false s) : wpAny (model prog w) A (ofAClassStatement 8 (.ref a)) Q E s := by
  have hT := hk.typeIs
  obtain ⟨o, items, n, ho, _, hd, hi⟩ := hk
  unfold ofAClassStatement
  refine wpAny_bind (wpAny_typeOf hT ?_)
  show wpAny _ _ ((if ("tuple" == "tuple") = true then pure true else isSubtype (.type "tuple") (.type "tuple")) >>= _) _ _ s
  rw [if_pos (by decide)]
  refine wpAny_bind (wpAny_pure ?_)
  simp only [Bool.not_true, Bool.false_eq_true, if_false]
  refine wpAny_bind (seqItems?_of ho hd ?_)
  dsimp only
  refine wpAny_bind ?_
  show wpAny _ _ (forIn items _ _) _ _ s
  rw [← Array.forIn_toList]
  refine wpAny_forIn_list _ (fun rest r s' => r.1 = none ∧ s' = s ∧ ∀ v ∈ rest, carriedByValue v = true) _ ?_ ?_ _ _ ⟨rfl, rfl, hi.byValue⟩
  . rintro v rest r s' ⟨hr, rfl, hall⟩
    rw [qv1 _ (hall v List.mem_cons_self)]
    refine wpAny_bind (wpAny_pure ?_)
    simp only [Bool.false_eq_true, if_false]
    exact wpAny_pure ⟨rfl, rfl, fun u hu' => hall u (List.mem_cons_of_mem _ hu')⟩
  . rintro ⟨r1, r2⟩ s' ⟨hr, rfl, _⟩
    simp only at hr
    subst hr
    exact wpAny_pure h
theorem unseen {ks : List K} {a : Addr} {Q : Bool -> Shared -> Prop} (hk : IsTupleKey knd s.heap ks a) (h : Q false s) {stored : List Value} (hst : ∀ y ∈ stored, ∃ b ks', y = .ref b ∧ IsTupleKey knd s.heap ks' b) :
    wpAny (model prog w) A (searchCouldBeSeen (.ref a) stored) Q E s := by
  unfold searchCouldBeSeen
  refine wpAny_bind ?_
  refine wpAny_forIn_list _ (fun rest r s' => r.1 = none ∧ s' = s ∧ ∀ y ∈ rest, ∃ b ks', y = .ref b ∧ IsTupleKey knd s.heap ks' b) _ ?_ ?_ _ _ ⟨rfl, rfl, hst⟩
  . rintro y rest r s' ⟨hr, rfl, hall⟩
    obtain ⟨b, ks', rfl, hb⟩ := hall y List.mem_cons_self
    have rest' : ∀ y ∈ rest, ∃ b ks', y = .ref b ∧ IsTupleKey knd s'.heap ks' b := fun u hu' => hall u (List.mem_cons_of_mem _ hu')
    dsimp only
    split
    . exact wpAny_pure ⟨rfl, rfl, rest'⟩
    . refine wpAny_bind (wpAny_eqIsQuiet_tuple hk ?_)
      simp only [Bool.not_true, Bool.false_eq_true, if_false]
      refine wpAny_bind (wpAny_eqIsQuiet_tuple hb ?_)
      simp only [Bool.not_true, Bool.false_eq_true, if_false]
      refine wpAny_bind (qp3 hk ?_)
      simp only [Bool.false_eq_true, if_false]
      refine wpAny_bind (qp3 hb ?_)
      simp only [Bool.false_eq_true, if_false]
      exact wpAny_pure ⟨rfl, rfl, rest'⟩
  . rintro ⟨r1, r2⟩ s' ⟨hr, rfl, _⟩
    simp only at hr
    subst hr
    exact wpAny_pure h
def Hb (v : Value) : Prop := ∃ b, ∀ n, hashByValue n v = pure b
theorem Hb.int (k : Int) (t : Tok) : Hb (.int k t) := ⟨true, fun n => by cases n <;> rfl⟩
theorem Hb.str (x : Str) (t : Tok) : Hb (.str x t) := ⟨false, fun n => by cases n <;> rfl⟩
theorem qD3 {a : Addr} {o : Obj} {items : Array Value} {n : Nat} {Q : Bool -> Shared -> Prop} (ho : s.heap.get? a = some o) (hc : o.cls = .type "tuple") (hd : o.data = .seq items n) (hi : ∀ v ∈ items.toList, Hb v) (h : ∀ b, Q b s) :
    wpAny (model prog w) A (hashByValue 8 (.ref a)) Q E s := by
  have hT : s.TypeIs (.ref a) "tuple" := ⟨o, ho, hc⟩
  unfold hashByValue
  refine wpAny_bind (wpAny_specialOf hT F.slot_tuple_hash.lookup ?_)
  dsimp only
  refine wpAny_bind (seqItems?_of ho hd ?_)
  dsimp only [Option.getD]
  refine wpAny_bind ?_
  show wpAny _ _ (forIn items _ _) _ _ s
  rw [← Array.forIn_toList]
  refine wpAny_forIn_list _ (fun rest r s' => r.1 = none ∧ s' = s ∧ ∀ v ∈ rest, Hb v) _ ?_ ?_ _ _ ⟨rfl, rfl, hi⟩
  . rintro v rest r s' ⟨hr, rfl, hall⟩
    obtain ⟨b, hb⟩ := hall v List.mem_cons_self
    rw [hb]
    refine wpAny_bind (wpAny_pure ?_)
    cases b with
    | true =>
      simp only [Bool.not_true, Bool.false_eq_true, if_false]
      exact wpAny_pure ⟨rfl, rfl, fun u hu' => hall u (List.mem_cons_of_mem _ hu')⟩
    | false =>
      simp only [Bool.not_false, if_true]
      exact wpAny_pure (wpAny_pure (h false))
  . rintro ⟨r1, r2⟩ s' ⟨hr, rfl, _⟩
    simp only at hr
    subst hr
    exact wpAny_pure (h true)
theorem Grown.fits {t : SetTable} {n : Nat} (g : Grown t n) : t.fits n = true := by
  unfold SetTable.fits
  rw [g.pl, g.fill]
  simp [g.le]
theorem qD4 {t : SetTable} {f : Nat -> Int} {h : Int} {p : SetTable.Probe} {pr : Option SetTable.Met} {m : Nat} (hp : t.probe f h p = pr) (hd : t.dummies = #[]) (hm : m < 10 * SetTable.turns t.mask) (hdm : p.dummy = none) (he : t.slot (adv t m p).j = .empty) :
    (∃ j, pr = some (.empty j none)) ∨ (∃ m' j i, m' < m ∧ pr = some (.candidate j i (adv t (m' + 1) p)) ∧ t.slot j = .live i ∧ t.place[i]? = some j) := by
  subst hp
  rcases qV1 hd f h (10 * SetTable.turns t.mask) m p hm hdm he with ⟨j, e⟩ | ⟨m', j, i, h1, e, h2, h3, _⟩
  . exact .inl ⟨j, e⟩
  . exact .inr ⟨m', j, i, h1, e, h2, h3⟩
theorem search {a b : Addr} {o : Obj} {es : Array (Int × Value)} {ep : Nat} {t : SetTable} {ks : List K} {h : Int} {Q : SetFound -> Shared -> Prop} (hu : A.units < cLine)
    (ho : s.heap.get? a = some o) (hd : o.data = .set es ep t) (g : Grown t es.size) (hk : IsTupleKey knd s.heap ks b) (hel : ∀ e ∈ es, ∃ b' ks', e.2 = .ref b' ∧ IsTupleKey knd s.heap ks' b' ∧ ks' ≠ ks) (q : ∀ j, Q (.free j false) s) :
    ∀ (m fuel : Nat) (stand : Option SetTable.Probe), m < fuel -> m < 10 * SetTable.turns t.mask -> (stand.getD (t.probeStart h)).dummy = none -> t.slot (adv t m (stand.getD (t.probeStart h))).j = .empty ->
      wpAny (model prog w) A (setSearchFrom a (.ref b) h true fuel stand) Q E s := by
  intro m
  induction m using Nat.strongRecOn with
  | ind m ih =>
    intro fuel stand hf hm hdm he
    cases fuel with
    | zero => exact absurd hf (Nat.not_lt_zero _)
    | succ fuel =>
      unfold setSearchFrom
      refine wpAny_bind (wpAny_setState_of ho hd g.fits ?_)
      dsimp only
      rw [g.way]
      simp only [Bool.false_eq_true, if_false]
      split
      . rename_i met hp
        rcases qD4 hp g.du hm hdm he with ⟨j, ej⟩ | ⟨m', j, i, hm', ej, sl, pl⟩
        . cases ej
          dsimp only
          exact wpAny_pure (q j)
        . cases ej
          dsimp only
          have hi : i < es.size := by
            have := (Array.getElem?_eq_some_iff.mp pl).1
            rw [g.pl] at this
            exact this
          obtain ⟨b', ks', e2, hk', hne⟩ := hel es[i] (Array.getElem_mem hi)
          have hei : es[i]? = some (es[i].1, .ref b') := by
            rw [← e2]
            simp [hi]
          have sm : t.sameMemory t.moves t.mask = some true := by
            unfold SetTable.sameMemory
            rw [if_pos (by simp)]
          have nx : ∀ fuel', m < fuel' + 1 -> wpAny (model prog w) A (setSearchFrom a (.ref b) h true fuel' (some (adv t (m' + 1) (stand.getD (t.probeStart h))))) Q E s := fun fuel' hf' =>
            ih (m - (m' + 1)) (by lia) fuel' _ (by lia) (by lia) (by show (adv t (m' + 1) _).dummy = none; rw [qv0]; exact hdm) (by
              show t.slot (adv t (m - (m' + 1)) (adv t (m' + 1) _)).j = .empty
              rw [← qu9, show m' + 1 + (m - (m' + 1)) = m by lia]
              exact he)
          have seen : ∀ y ∈ (es.filter (·.1 == h)).toList.map (·.2), ∃ b ks', y = .ref b ∧ IsTupleKey knd s.heap ks' b := fun y hy => by
            obtain ⟨e, he', rfl⟩ := List.mem_map.mp hy
            have : e ∈ es := by
              have := (Array.mem_filter.mp (show e ∈ es.filter (·.1 == h) by simpa using he')).1
              exact this
            obtain ⟨b'', ks'', x1, x2, _⟩ := hel e this
            exact ⟨b'', ks'', x1, x2⟩
          cases hl : t.led with
          | false =>
            simp only [Bool.not_false, if_true]
            refine wpAny_bind (unseen hk ?_ seen)
            simp only [Bool.false_eq_true, if_false]
            rw [hei]
            dsimp only
            refine wpAny_bind (wpAny_holding (wpAny_eqBool_tuple hu hk' hk ?_))
            rw [decide_eq_false hne]
            refine wpAny_bind (wpAny_setState_of ho hd g.fits ?_)
            dsimp only
            simp only [Bool.and_false, Bool.false_eq_true, if_false]
            rw [sm]
            dsimp only
            simp only [if_true]
            rw [sl]
            dsimp only
            rw [hei]
            dsimp only
            refine wpAny_bind (wpAny_isSame_ref_self ?_)
            refine wpAny_bind (wpAny_pure ?_)
            simp only [if_true]
            exact nx fuel hf
          | true =>
            simp only [Bool.not_true, Bool.false_eq_true, if_false]
            rw [hei]
            dsimp only
            refine wpAny_bind (wpAny_holding (wpAny_eqBool_tuple hu hk' hk ?_))
            rw [decide_eq_false hne]
            refine wpAny_bind (wpAny_setState_of ho hd g.fits ?_)
            dsimp only
            simp only [Bool.and_false, Bool.false_eq_true, if_false]
            rw [sm]
            dsimp only
            simp only [if_true]
            rw [sl]
            dsimp only
            rw [hei]
            dsimp only
            refine wpAny_bind (wpAny_isSame_ref_self ?_)
            refine wpAny_bind (wpAny_pure ?_)
            simp only [if_true]
            exact nx fuel hf
      . rename_i hp
        exact Or.elim (qD4 rfl g.du hm hdm he) (fun ⟨j, e⟩ => (hp _ e).elim) (fun ⟨_, _, _, _, e, _⟩ => (hp _ e).elim)
structure SetR (knd : KeyKind prog w K) (h : Heap) (a : Addr) (Ks : List (List K)) (n : Nat) : Prop where
  ex : ∃ o es ep t, h.get? a = some o ∧ o.ExactSet ∧ o.data = .set es ep t ∧ Grown t es.size ∧ t.tooFull = false ∧ t.mask ≤ 8 * n + 8 ∧ es.size = n ∧ ∀ e ∈ es, ∃ b ks, e.2 = .ref b ∧ ks ∈ Ks ∧ IsTupleKey knd h ks b
theorem qD5 {h : Heap} {a b : Addr} {o : Obj} {ks : List K} {es : Array (Int × Value)} {ep : Nat} {t : SetTable} (x : IsTupleKey knd h ks b) (ho : h.get? a = some o) (hd : o.data = .set es ep t) : b ≠ a := by
  rintro rfl
  obtain ⟨o', items, n, ho', _, hd', _⟩ := x
  obtain rfl : o' = o := Option.some.inj (ho'.symm.trans ho)
  rw [hd] at hd'; exact nomatch hd'
theorem qD6 {h h' : Heap} {a b : Addr} {ks : List K} (x : IsTupleKey knd h ks b) (hne : b ≠ a) (hs : Heap.SameBut a h h') : IsTupleKey knd h' ks b := by
  obtain ⟨o', items, n, ho', hc, hd', hi⟩ := x
  exact ⟨o', items, n, (hs.2 b hne).trans ho', hc, hd', hi⟩
theorem qV5 {h : Heap} {a : Addr} {o : Obj} {es es' : Array (Int × Value)} {ep : Nat} {t t' : SetTable} (ho : h.get? a = some o) (hd : o.data = .set es ep t) :
    (h.update a (Obj.putSet es' t')).get? a = some { o with data := .set es' (ep + 1) t' } := by
  have := Heap.get?_update_self (Obj.putSet es' t') ho (by rw [putSet_of es' t' hd]; rfl)
  rw [putSet_of es' t' hd] at this; exact this
theorem add_one {a b : Addr} {ks : List K} {Ks : List (List K)} {n : Nat} {h : Int} {Q : Bool -> Shared -> Prop} (hu : A.units < cLine) (S : SetR knd s.heap a Ks n) (hk : IsTupleKey knd s.heap ks b) (hHb : ∀ o items m, s.heap.get? b = some o -> o.data = .seq items m -> ∀ v ∈ items.toList, Hb v)
    (hn : ks ∉ Ks) (hsz : n < 1200) (q : ∀ h', Heap.SameBut a s.heap h' -> SetR knd h' a (ks :: Ks) (n + 1) -> Q true { s with heap := h' }) :
    wpAny (model prog w) A (setAddHashed a (.ref b) h) Q E s := by
  obtain ⟨o, es, ep, t, ho, hex, hd, g, hf, hmk, rfl, hel⟩ := S.ex
  unfold setAddHashed setAddHashedIn
  refine wpAny_holding (wpAny_bind (wpAny_setState_of ho hd g.fits ?_))
  dsimp only
  have hby : byScan (.ref b) es = false := rfl
  rw [hby]
  simp only [Bool.false_eq_true, if_false]
  obtain ⟨m, hm, hslot⟩ := g.meets h
  have hfu : m < 100000 := by
    unfold SetTable.turns at hm
    lia
  refine wpAny_bind (search hu ho hd g hk (fun e he => ?_) (fun j => ?_) m 100000 none hfu hm rfl hslot)
  . obtain ⟨b', ks', e1, e2, e3⟩ := hel e he
    exact ⟨b', ks', e1, e3, fun z => hn (by rw [← z]; exact e2)⟩
  dsimp only
  refine wpAny_bind (wpAny_setState_of ho hd g.fits ?_)
  dsimp only
  have g1 := g.put hf j
  generalize hp : t.put j = tp at g1
  obtain ⟨t1, p⟩ := tp
  dsimp only at g1 ⊢
  have hmk1 : t1.mask = t.mask := by
    have : (t.put j).1.mask = t.mask := rfl
    rw [hp] at this
    exact this
  have hba : b ≠ a := qD5 hk ho hd
  have mem1 : ∀ {h1 : Heap}, Heap.SameBut a s.heap h1 -> ∀ e ∈ SetTable.insertAt es p (h, Value.ref b), ∃ b' ks', e.2 = .ref b' ∧ ks' ∈ ks :: Ks ∧ IsTupleKey knd h1 ks' b' := fun {h1} hs e he => by
    rcases qD0 he with rfl | he
    . exact ⟨b, ks, rfl, List.mem_cons_self, qD6 hk hba hs⟩
    . obtain ⟨b', ks', e1, e2, e3⟩ := hel e he
      exact ⟨b', ks', e1, List.mem_cons_of_mem _ e2, qD6 e3 (qD5 e3 ho hd) hs⟩
  have sz1 : (SetTable.insertAt es p (h, Value.ref b)).size = es.size + 1 := qp2 _ _ _
  have room : es.size + 1 ≤ sizeLine := by rw [sizeLine_eq]; lia
  have tail : ∀ t2 : SetTable, Grown t2 (es.size + 1) -> t2.mask = t.mask -> wpAny (model prog w) A (do
      storeSet a (SetTable.insertAt es p (h, Value.ref b)) t2
      if (!false && t2.tooFull) = true then do
          setRelay a (SetTable.grown (es.size + 1))
          pure true
        else pure true) Q E s := fun t2 g2 hm2 => by
    refine wpAny_bind (wpAny_storeSet_of ho hd ?_ (by rw [sz1]; exact room))
    have ho1 := qV5 (es' := SetTable.insertAt es p (h, Value.ref b)) (t' := t2) ho hd
    have hs1 := Heap.SameBut.update s.heap a (Obj.putSet (SetTable.insertAt es p (h, Value.ref b)) t2)
    cases ht : t2.tooFull with
    | false =>
      simp only [Bool.and_false, Bool.false_eq_true, if_false]
      refine wpAny_pure (q _ hs1 ⟨_, _, _, t2, ho1, hex, rfl, by rw [sz1]; exact g2, ht, by lia, sz1, mem1 hs1⟩)
    | true =>
      simp only [Bool.not_false, Bool.and_self, if_true]
      refine wpAny_bind ?_
      unfold setRelay
      refine wpAny_bind (wpAny_setState_of ho1 rfl (by rw [sz1]; exact g2.fits) ?_)
      dsimp only
      have gw : SetTable.grown (es.size + 1) = (es.size + 1) * 4 := by
        unfold SetTable.grown
        rw [if_neg (by lia)]
      obtain ⟨k, ek, _, _, hk3⟩ := qs0 (n := SetTable.grown (es.size + 1)) (by rw [gw]; lia)
      rw [if_neg (by rw [ek, sizeLine_eq]; rw [gw] at hk3; lia)]
      obtain ⟨t3, order, er, g3, hw1, hw2, _, eo, ev⟩ := qI7 (t := t2) (hs := (SetTable.insertAt es p (h, Value.ref b)).map (·.1)) (wanted := SetTable.grown (es.size + 1)) (by rw [gw]; lia) (by rw [Array.size_map, sz1, gw]; lia)
      rw [Array.size_map] at g3 eo ev
      rw [er]
      have es2 : (order.filterMap ((SetTable.insertAt es p (h, Value.ref b))[·]?)).size = es.size + 1 := by rw [qV4 ev, eo, sz1]
      refine wpAny_bind ?_
      show wpAny _ _ (if ((order.filterMap ((SetTable.insertAt es p (h, Value.ref b))[·]?)).size != (SetTable.insertAt es p (h, Value.ref b)).size) = true then _ else _) _ _ _
      rw [if_neg (by rw [es2, sz1]; simp)]
      refine wpAny_pure ?_
      dsimp only
      refine wpAny_storeSet_of ho1 rfl ?_ (by rw [es2]; exact room)
      have ho2 := qV5 (es' := order.filterMap ((SetTable.insertAt es p (h, Value.ref b))[·]?)) (t' := t3) ho1 rfl
      have hs2 := hs1.trans (Heap.SameBut.update _ a (Obj.putSet (order.filterMap ((SetTable.insertAt es p (h, Value.ref b))[·]?)) t3))
      refine wpAny_pure (q _ hs2 ⟨_, _, _, t3, ho2, hex, rfl, by rw [es2, ← sz1]; exact g3, ?_, ?_, es2, fun e he => mem1 hs2 e (mem_pick he)⟩)
      . unfold SetTable.tooFull
        rw [g3.fill, sz1]
        rw [gw] at hw1
        exact decide_eq_false (by lia)
      . rw [gw] at hw2
        lia
  cases hpl : t1.plain with
  | false =>
    simp only [Bool.false_eq_true, if_false]
    refine wpAny_bind (wpAny_pure ?_)
    simp only [if_true]
    exact tail t1 g1 hmk1
  | true =>
    simp only [if_true]
    obtain ⟨ob, items, nn, hb1, hb2, hb3, _⟩ := id hk
    refine wpAny_bind (qD3 hb1 hb2 hb3 (hHb _ _ _ hb1 hb3) fun c => ?_)
    cases c with
    | true =>
      simp only [if_true]
      exact tail t1 g1 hmk1
    | false =>
      simp only [Bool.false_eq_true, if_false]
      exact tail { t1 with plain := false } ⟨g1.pl, g1.du, g1.ma, g1.le⟩ hmk1
end
end SetT
set_option Elab.async false
set_option linter.all false
set_option maxRecDepth 100000
set_option maxHeartbeats 4000000
namespace SetT
open PySem PySem.Spec PyProof.Rows
section
variable {prog : Program} {w : World} {K : Type} [DecidableEq K] {knd : KeyKind prog w K}
def TupK (knd : KeyKind prog w K) (h : Heap) (ks : List K) (b : Addr) : Prop := ∃ o items n, h.get? b = some o ∧ o.cls = .type "tuple" ∧ o.data = .seq items n ∧ ItemsAre knd ks items.toList ∧ ∀ v ∈ items.toList, Hb v
theorem TupK.key {h : Heap} {ks : List K} {b : Addr} (x : TupK knd h ks b) : IsTupleKey knd h ks b := let ⟨o, items, n, h1, h2, h3, h4, _⟩ := x; ⟨o, items, n, h1, h2, h3, h4⟩
theorem TupK.hb {h : Heap} {ks : List K} {b : Addr} (x : TupK knd h ks b) : ∀ o items m, h.get? b = some o -> o.data = .seq items m -> ∀ v ∈ items.toList, Hb v := fun o items m e1 e2 => by
  obtain ⟨o', items', n', h1, _, h3, _, h5⟩ := x
  rw [e1] at h1; cases h1
  rw [e2] at h3; cases h3
  exact h5
theorem TupK.at {h h' : Heap} {ks : List K} {b : Addr} (x : TupK knd h ks b) (k : ∀ o, h.get? b = some o -> h'.get? b = some o) : TupK knd h' ks b := let ⟨o, items, n, h1, r⟩ := x; ⟨o, items, n, k o h1, r⟩
theorem SetR.at {h h' : Heap} {a : Addr} {Ks : List (List K)} {n : Nat} (S : SetR knd h a Ks n) (k : ∀ b o, h.get? b = some o -> h'.get? b = some o ∨ b ≠ a ∧ ¬ ∃ ks, IsTupleKey knd h ks b) : SetR knd h' a Ks n := by
  obtain ⟨o, es, ep, t, ho, hex, hd, g, hf, hmk, hn, hel⟩ := S.ex
  refine ⟨o, es, ep, t, ?_, hex, hd, g, hf, hmk, hn, fun e he => ?_⟩
  . rcases k a o ho with z | z
    . exact z
    . exact absurd rfl z.1
  . obtain ⟨b, ks, e1, e2, e3⟩ := hel e he
    refine ⟨b, ks, e1, e2, ?_⟩
    obtain ⟨o', items, n', ho', r⟩ := id e3
    rcases k b o' ho' with z | z
    . exact ⟨o', items, n', z, r⟩
    . exact absurd ⟨ks, e3⟩ z.2
variable {A : Around} {R : Result -> Shared -> Prop} {I : Addr} {fp wr : List Addr} {G : Array GenState -> Array GenState -> Prop} {n : Nat} {P : Nat -> Value -> Prop} {St : Nat -> Shared -> Prop}
def Items (knd : KeyKind prog w K) (S : Addr) (wr : List Addr) (P : Nat -> Value -> Prop) (val : Nat -> List K) (h : Heap) : Prop := ∀ i v, P i v -> ∃ b, v = .ref b ∧ b ≠ S ∧ b ∉ wr ∧ TupK knd h (val i) b
def NoTup (knd : KeyKind prog w K) (wr : List Addr) (h : Heap) : Prop := ∀ b ∈ wr, ¬ ∃ ks, IsTupleKey knd h ks b
theorem qV6 (W : WalksS prog w A.in1 I fp wr G n P St) (S : Addr) (hSf : S ∉ fp) (val : Nat -> List K) (dist : ∀ i j, i < j -> j < n -> val i ≠ val j) (hn : n ≤ 1200) (hu : A.in1.units < cLine)
    (nt : ∀ i s, St i s -> NoTup knd wr s.heap) :
    ∀ (k i : Nat) (s : Shared), n - i = k -> i ≤ n -> St i s -> Items knd S wr P val s.heap -> (∃ Ks, SetR knd s.heap S Ks i ∧ ∀ ks ∈ Ks, ∃ j, j < i ∧ ks = val j) ->
      (∀ s', Moved (S :: wr) G s s' -> (∃ Ks, SetR knd s'.heap S Ks n) -> R (.ok (.ret .none)) s') ->
      codeAny (model prog w) A (.builtin "set.update.loop" ⟨[.ref S, .ref I], []⟩) R s := by
  have hSw : S ∉ wr := fun z => hSf (W.sub _ z)
  have up : ∀ b ∈ wr, b ∈ S :: wr := fun b hb => List.mem_cons_of_mem _ hb
  have stays : ∀ {i : Nat} {s s' : Shared} {Ks : List (List K)} {m : Nat}, St i s -> Moved wr G s s' -> SetR knd s.heap S Ks m -> SetR knd s'.heap S Ks m := fun {i s s' Ks m} st mv S0 => S0.at fun b o e => by
    by_cases hb : b ∈ wr
    . exact .inr ⟨fun z => hSw (by rw [← z]; exact hb), nt i s st b hb⟩
    . exact .inl (mv.heap b o hb e)
  intro k
  induction k with
  | zero =>
    intro i s hk hi st its hS hR
    have hin : i = n := by lia
    subst hin
    obtain ⟨Ks, S0, _⟩ := hS
    refine codeAny_builtin PyProof.Rows.F.entry_set_update_loop ?_
    rw [Around.under_plainId PyProof.Rows.F.plain_set_update_loop _]
    show wpAny _ A.in1 (pyNext (.ref I) >>= _) _ _ s
    refine wpAny_bind (W.done s _ _ st fun s' mv => ?_)
    show wpAny _ A.in1 (ret Value.none) _ _ s'
    exact wpAny_pure (hR s' (mv.mono up) ⟨Ks, stays st mv S0⟩)
  | succ k ih =>
    intro i s hk hi st its hS hR
    obtain ⟨Ks, S0, hKs⟩ := hS
    have hlt : i < n := by lia
    refine codeAny_builtin PyProof.Rows.F.entry_set_update_loop ?_
    rw [Around.under_plainId PyProof.Rows.F.plain_set_update_loop _]
    show wpAny _ A.in1 (pyNext (.ref I) >>= _) _ _ s
    refine wpAny_bind (W.item i s _ _ hlt st fun v s' hP st' mv => ?_)
    obtain ⟨b, rfl, hbS, hbw, hb⟩ := its i v hP
    have hb' : TupK knd s'.heap (val i) b := hb.at fun o e => mv.heap b o hbw e
    have S1 : SetR knd s'.heap S Ks i := stays st mv S0
    show wpAny _ A.in1 (holding [Value.ref b] (setAdd S (.ref b)) >>= _) _ _ s'
    refine wpAny_bind (wpAny_holding ?_)
    unfold setAdd
    refine wpAny_holding ?_
    refine wpAny_bind (wpAny_pyHash_tuple hu hb'.key ?_)
    refine add_one (s := { s' with toks := s'.toks + ((val i).length + 1) }) hu S1 hb'.key hb'.hb (fun z => ?_) (by lia) fun h' hsb S2 => ?_
    . obtain ⟨j, hj, e⟩ := hKs _ z
      exact dist j i hj hlt e.symm
    . have its' : Items knd S wr P val h' := fun j u hPj => by
        obtain ⟨c, rfl, h1, h2, h3⟩ := its j u hPj
        exact ⟨c, rfl, h1, h2, (h3.at fun o e => mv.heap c o h2 e).at fun o e => (hsb.2 c h1).trans e⟩
      refine wpAny_pure ⟨plainId_quiet PyProof.Rows.F.plain_set_update_loop _, ih (i + 1) _ (by lia) hlt (W.frame _ s' _ _ st' (Nat.le_add_right _ _) fun c hc o e => ?_) its' ⟨val i :: Ks, S2, fun ks hks => ?_⟩ fun s'' mv'' fin => ?_⟩
      . rw [hsb.2 c (fun z : c = S => hSf (by rw [← z]; exact hc))]; exact e
      . rcases List.mem_cons.mp hks with rfl | hks
        . exact ⟨i, Nat.lt_succ_self i, rfl⟩
        . obtain ⟨j, hj, e⟩ := hKs ks hks
          exact ⟨j, by lia, e⟩
      . refine hR s'' (Moved.trans W.gtrans ((mv.mono up).then_heap (Nat.le_add_right _ _) fun c o hc e => ?_) mv'') fin
        rw [hsb.2 c (fun z : c = S => hc (by rw [z]; exact List.mem_cons_self))]; exact e
end
end SetT
set_option Elab.async false
set_option linter.all false
set_option maxRecDepth 100000
set_option maxHeartbeats 4000000
namespace SetT
open PySem PySem.Spec
section
variable {prog : Program} {w : World} {K : Type} [DecidableEq K] {knd : KeyKind prog w K} {A : Around} {E : Value -> Shared -> Prop} {s : Shared}
abbrev newS (led : Bool) : Obj := { cls := .type "set", dict := none, data := .set #[] 0 (.fresh 0 0 led) }
theorem qP2 {h : Heap} {a : Addr} {led : Bool} (e : h.get? a = some (newS led)) : SetR knd h a [] 0 :=
  ⟨_, #[], 0, .fresh 0 0 led, e, ⟨rfl, rfl, rfl⟩, rfl, ⟨rfl, rfl, ⟨3, rfl, by decide⟩, Nat.zero_le _⟩, by rfl, (by show 7 ≤ 8 * 0 + 8; decide), rfl, fun e he => by simp at he⟩
theorem call_set_tuple {l : Addr} {items : Array Value} {val : Nat -> List K} {Q : Value -> Shared -> Prop} (hh : A.handled = none) (hu : A.units + 8 < cLine) (hl : s.heap.IsTuple l items)
    (hi : ∀ (i : Nat) (v : Value), items[i]? = some v -> ∃ b, v = .ref b ∧ TupK knd s.heap (val i) b) (dist : ∀ i j, i < j -> j < items.size -> val i ≠ val j) (hb : items.size ≤ 1200)
    (h : ∀ (h' : Heap) (tk : Nat), (∃ Ks, SetR knd h' s.heap.objs.size Ks items.size) -> (∀ b o, b < s.heap.objs.size -> s.heap.get? b = some o -> h'.get? b = some o) -> Q (.ref s.heap.objs.size) { s with heap := h', toks := tk }) :
    wpAny (model prog w) A (call (.type "set") [.ref l]) Q E s := by
  obtain ⟨c, tl, hmro⟩ := F.called_set.mro
  have made0 := F.called_set.made
  have sub0 := F.called_set.sub
  refine wpAny_call (codeAny_of_tree ?_)
  show wpAny _ _ (callAny (.type "set") _) _ _ _
  refine wpAny_pure ⟨Code.quiet_builtin _ (by decide +kernel), codeAny_builtin F.entry_type_call ?_⟩
  rw [Around.under_plain (weight_type_call_type "set" [.ref l] []) rfl]
  have f1 := F.called_set.notType
  have f2 := F.called_set.canCreate
  have f3 := F.typeCall_set_1 (.ref l)
  repeat (any_goals first | assumption | wp_step)
  refine codeAny_mono (code_set_new_1 (.ref l) (E := E) (Q₁ := fun obj s₁ => ∃ led : Bool, obj = .ref s.heap.objs.size ∧ s₁ = { s with heap := s.heap.push (newS led) }) fun led => ⟨led, rfl, rfl⟩) fun r s₁ hr => ?_
  cases r with
  | error e => exact hr
  | ok fl =>
    cases fl with
    | ret obj =>
      obtain ⟨led, rfl, rfl⟩ := hr
      have hS : (s.heap.push (newS led)).get? s.heap.objs.size = some (newS led) := Heap.get?_push_size _ rfl
      have hT : Shared.TypeIs { s with heap := s.heap.push (newS led) } (.ref s.heap.objs.size) "set" := ⟨_, hS, rfl⟩
      have i1 := F.called_set.init.lookup
      have i2 := F.called_set.init.bind (.ref s.heap.objs.size)
      repeat (any_goals first | assumption | wp_step)
      refine codeAny_mono (codeAny_call_builtin (R := wants (fun r s₂ => r = .none ∧ ∃ h' tk, s₂ = { s with heap := h', toks := tk } ∧ (∃ Ks, SetR knd h' s.heap.objs.size Ks items.size) ∧
          (∀ b o, b < s.heap.objs.size -> s.heap.get? b = some o -> h'.get? b = some o)) E) F.called_set.init.plain F.entry_set_init (check_set_init_1 hT ?_)) fun r₂ s₂ hr₂ => ?_
      . obtain ⟨ol, hol, hcl, nl, hdl⟩ := id hl
        obtain ⟨ocls, odict, odata, oslots⟩ := ol
        simp only at hcl hdl
        subst hcl; subst hdl
        have hol' : (s.heap.push (newS led)).get? l = some { cls := .type "tuple", dict := odict, data := .seq items nl, slots := oslots } := Heap.get?_push_of_some _ hol
        have st1 := F.sub_tuple_set
        have st2 := F.sub_tuple_frozenset
        have ned : (Value.type "tuple" == Value.type "dict") = false := by decide
        have hl1 : (s.heap.push (newS led)).IsTuple l items := ⟨_, hol', rfl, nl, rfl⟩
        unfold Builtin.«set.__init__» noKeywords Builtin.Frozenset.updateFrom
        generalize hPI : pyIter = PI
        wp_walk
        subst hPI
        refine wpAny_pyIter_tuple hl1 ?_
        refine wpAny_bind (wpAny_runValue ?_)
        have hlS : l < s.heap.objs.size := Heap.lt_size hol
        have hsz : (s.heap.push (newS led)).objs.size = s.heap.objs.size + 1 := Heap.size_push _ _
        have hneI : l ≠ (s.heap.push (newS led)).objs.size := by rw [hsz]; exact Nat.ne_of_lt (Nat.lt_succ_of_lt hlS)
        have hSf : s.heap.objs.size ∉ [(s.heap.push (newS led)).objs.size, l] := by
          rw [hsz]; simp only [List.mem_cons, List.not_mem_nil, or_false, not_or]
          exact ⟨Nat.ne_of_lt (Nat.lt_succ_self _), Nat.ne_of_gt hlS⟩
        refine qV6 (knd := knd) ((Walks.tuple (by simp [hh]) _ l hneI items).toS) s.heap.objs.size hSf val dist hb (by show A.units + 1 + 1 + 1 < cLine; lia) (fun i s' st b hbw => ?_) (items.size - 0) 0 _ (by lia) (Nat.zero_le _)
          ⟨⟨_, Heap.get?_push_size _ rfl, rfl, rfl⟩, hl1.push _⟩ (fun i v hv => ?_) ⟨[], qP2 (Heap.get?_push_of_some _ hS), fun ks hks => nomatch hks⟩ fun s' mv fin => ?_
        . rintro ⟨ks, o', its', n', e1, e2, e3, _⟩
          have : b = (s.heap.push (newS led)).objs.size := by simpa using hbw
          subst this
          obtain ⟨oi, x1, x2, x3⟩ := st.1
          rw [x1] at e1; cases e1
          rw [x2] at e2
          injection e2 with e2
          exact absurd e2 (by decide)
        . obtain ⟨b, rfl, hb'⟩ := hi i v hv
          have hlt : b < s.heap.objs.size := by obtain ⟨o', _, _, e1, _⟩ := hb'; exact Heap.lt_size e1
          refine ⟨b, rfl, Nat.ne_of_lt hlt, (by rw [hsz]; simp only [List.mem_cons, List.not_mem_nil, or_false]; exact Nat.ne_of_lt (Nat.lt_succ_of_lt hlt)), hb'.at fun o e => Heap.get?_push_of_some _ (Heap.get?_push_of_some _ e)⟩
        . obtain ⟨h', g', d', tk', os'⟩ := s'
          have eg : g' = s.gens := mv.gens
          have ed : d' = s.drawn := mv.drawn
          have eo : os' = s.os := mv.os
          subst eg; subst ed; subst eo
          show wpAny _ _ _ _ _ _
          refine wpAny_pure ?_
          show wpAny _ _ (ret Value.none) _ _ _
          refine wpAny_pure ⟨rfl, h', tk', rfl, fin, fun b o hlt e => ?_⟩
          exact mv.heap b o (by rw [hsz]; simp only [List.mem_cons, List.not_mem_nil, or_false, not_or]; exact ⟨Nat.ne_of_lt hlt, Nat.ne_of_lt (Nat.lt_succ_of_lt hlt)⟩) (Heap.get?_push_of_some _ (Heap.get?_push_of_some _ e))
      . cases r₂ with
        | error e => exact hr₂
        | ok fl₂ =>
          cases fl₂ with
          | ret r =>
            obtain ⟨rfl, h', tk, rfl, fin, kp⟩ := hr₂
            repeat (any_goals first | assumption | wp_step)
            exact h _ _ fin kp
          | _ => exact hr₂.elim
    | _ => exact hr.elim
end
end SetT
set_option Elab.async false
set_option linter.all false
set_option maxRecDepth 100000
set_option maxHeartbeats 4000000
namespace L2
open PySem PySem.Spec PyProof.Rows
def SetN (r : Addr) (n : Nat) (h : Heap) : Prop := ∃ o es ep t, h.get? r = some o ∧ o.ExactSet ∧ o.data = .set es ep t ∧ t.fits es.size = true ∧ es.size = n
section
variable {X : Cx}
theorem hb_kV {k : Key} {u : Value} (r : RelV (kV k) u) : SetT.Hb u := by
  cases k with
  | inl i => obtain ⟨t, rfl⟩ := r; exact SetT.Hb.int i t
  | inr x => obtain ⟨t, rfl⟩ := r; exact SetT.Hb.str x t
theorem hbs_kV : ∀ {ks : List Key} {us : List Value}, Vals (ks.map kV) us -> ∀ v ∈ us, SetT.Hb v
  | [], _, .nil, v, hv => by cases hv
  | k :: ks, _, .cons r t, v, hv => by
    rcases List.mem_cons.mp hv with rfl | hv
    . exact hb_kV r
    . exact hbs_kV t v hv
theorem tupK_of {P : Program} {w : World} {H : Hp} {h : Heap} {b : Addr} {ks : List Key} (ok : HOk P w H h) (e : H b = some (.tup (ks.map kV))) : SetT.TupK (qd8 P w) h ks b := by
  obtain ⟨_, its, r, o, ho, hc, n, hd⟩ := ok b _ e
  exact ⟨o, its.toArray, n, ho, hc, hd, by simpa using qu6 r, fun v hv => hbs_kV r v (by simpa using hv)⟩
theorem qV7 (hc : X.calm = true) {k : Nat} (hr : Room k X.A) : CallR X (.type "set") (fun xs H Q => ∃ (p : Addr) (bs : List Addr) (rows : List (List Key)), xs = [.ref p] ∧ H p = some (.tup (bs.map V.ref)) ∧ bs.length = rows.length ∧
    (∀ (i : Nat) b ks, bs[i]? = some b -> rows[i]? = some ks -> H b = some (.tup (ks.map kV))) ∧ rows.Nodup ∧ rows.length ≤ 1200 ∧ ∀ r, H r = none -> Q (.ref r) (upd H r (.ext (SetN r rows.length)))) := by
  intro pins s σ H xs us Q I rv h
  obtain ⟨p, bs, rows, rfl, hp, hlen, hrow, hnd, hsz, q⟩ := h
  obtain ⟨u, rfl, ru⟩ := ql1 rv
  cases ru
  obtain ⟨_, its, r2, isT⟩ := I.hok p _ hp
  have hl2 : its.length = bs.length := by have := r2.length; simpa using this.symm
  have un := hr.units
  have item : ∀ (i : Nat) (v : Value), its[i]? = some v -> ∃ b, bs[i]? = some b ∧ v = .ref b := fun i v hv => by
    have hi : i < bs.length := by rw [← hl2]; exact (List.getElem?_eq_some_iff.mp hv).1
    obtain ⟨w', e1, e2⟩ := r2.get (i := i) (x := V.ref bs[i]) (by simp [hi])
    rw [hv] at e1; cases e1
    exact ⟨bs[i], by simp [hi], e2⟩
  refine SetT.call_set_tuple (knd := qd8 X.prog X.w) (items := its.toArray) (val := fun i => rows.getD i []) (I.ok.hd hc) (by lia) (show s.heap.IsTuple p its.toArray from isT) (fun i v hv => ?_) (fun i j hij hj z => ?_) (by rw [List.size_toArray, hl2, hlen]; exact hsz) fun h' tk fin kp => ?_
  . obtain ⟨b, hb, rfl⟩ := item i v (by simpa using hv)
    have hi : i < rows.length := by rw [← hlen]; exact (List.getElem?_eq_some_iff.mp hb).1
    have e : rows.getD i [] = rows[i] := by simp [List.getD, hi]
    show ∃ b', Value.ref b = .ref b' ∧ SetT.TupK _ s.heap (rows.getD i []) b'
    rw [e]
    exact ⟨b, rfl, tupK_of I.hok (hrow i b rows[i] hb (by simp [hi]))⟩
  . rw [List.size_toArray, hl2, hlen] at hj
    have z' : rows.getD i [] = rows.getD j [] := z
    have hi : i < rows.length := by lia
    have e1 : rows.getD i [] = rows[i] := by simp [List.getD, hi]
    have e2 : rows.getD j [] = rows[j] := by simp [List.getD, hj]
    rw [e1, e2] at z'
    have := (List.getElem_inj hnd).mp z'
    lia
  . obtain ⟨Ks, S⟩ := fin
    obtain ⟨o, es, ep, t, ho, hex, hd, g, hf, _, hn, _⟩ := S.ex
    have hn' : es.size = rows.length := by rw [hn, List.size_toArray, hl2, hlen]
    refine ⟨.ref s.heap.objs.size, _, I.laid (a := s.heap.objs.size) (o := .ext (SetN s.heap.objs.size rows.length)) (t' := tk) (fun b o e => kp b o (Heap.lt_size e) e) (Nat.le_refl _) ⟨⟨o, es, ep, t, ho, hex, hd, g.fits, hn'⟩, ⟨o, ho⟩, fun h1 h2 φ k => ?_⟩, rfl, q _ (I.hok.fresh (Nat.le_refl _))⟩
    obtain ⟨o', es', ep', t', ho', r⟩ := φ
    exact ⟨o', es', ep', t', k o' ho', r⟩
theorem qI8 : CallR X (.builtin "len") (fun xs H Q => ∃ (r : Addr) (n : Nat), xs = [.ref r] ∧ H r = some (.ext (SetN r n)) ∧ n ≤ 1200 ∧ Q (.int n) H) := by
  intro pins s σ H xs us Q I rv h
  obtain ⟨r, n, rfl, hr, hn, q⟩ := h
  obtain ⟨u, rfl, ru⟩ := ql1 rv
  cases ru
  obtain ⟨⟨o, es, ep, t, ho, hex, hd, hf, rfl⟩, _⟩ := I.hok r _ hr
  have hb : (es.size : Int) ≤ 1200 := by lia
  exact call_len_set ho hex hd hf (Int.lt_of_le_of_lt hb (by decide)) ⟨.int es.size, H, I.tok _, ⟨_, rfl⟩, q⟩
end
end L2
set_option Elab.async false
set_option linter.all false
set_option maxRecDepth 100000
set_option maxHeartbeats 4000000
namespace L2
open PySem PySem.Spec PyProof.Rows
mutual
inductive DataAt (H : Hp) : V -> PyData -> Prop
  | non : DataAt H .non .none
  | bl (b : Bool) : DataAt H (.bl b) (.bool b)
  | int (i : Int) : DataAt H (.int i) (.int i)
  | str (x : Str) : DataAt H (.str x) (.str x)
  | lst {a : Addr} {xs : List V} {ds : List PyData} (h : H a = some (.lst xs)) (r : DatasAt H xs ds) : DataAt H (.ref a) (.list ds)
  | tup {a : Addr} {xs : List V} {ds : List PyData} (h : H a = some (.tup xs)) (r : DatasAt H xs ds) : DataAt H (.ref a) (.tuple ds)
inductive DatasAt (H : Hp) : List V -> List PyData -> Prop
  | nil : DatasAt H [] []
  | cons {x : V} {xs : List V} {d : PyData} {ds : List PyData} (h : DataAt H x d) (r : DatasAt H xs ds) : DatasAt H (x :: xs) (d :: ds)
end
section
variable {P : Program} {w : World} {H : Hp} {h : Heap}
mutual
theorem DataAt.reads (ok : HOk P w H h) : ∀ {x : V} {d : PyData} {u : Value}, DataAt H x d -> RelV x u -> ∃ as, Reads h u d as
  | _, _, u, .non, r => ⟨[], by cases (show u = Value.none from r); exact .none⟩
  | _, _, u, .bl b, r => ⟨[], by cases (show u = Value.bool b from r); exact .bool b⟩
  | _, _, u, .int i, r => ⟨[], by obtain ⟨t, rfl⟩ := r; exact .int i t⟩
  | _, _, u, .str x, r => ⟨[], by obtain ⟨t, rfl⟩ := r; exact .str x t⟩
  | _, _, u, .lst (a := a) e rs, r => by
    cases (show u = Value.ref a from r)
    obtain ⟨_, its, n, rv, ho⟩ := ok a _ e
    obtain ⟨as, ra⟩ := DatasAt.reads ok rs rv
    exact ⟨a :: as, .list ho rfl rfl (by simpa using ra)⟩
  | _, _, u, .tup (a := a) e rs, r => by
    cases (show u = Value.ref a from r)
    obtain ⟨_, its, rv, o, ho, hc, n, hd⟩ := ok a _ e
    obtain ⟨as, ra⟩ := DatasAt.reads ok rs rv
    exact ⟨as, .tuple ho hc hd (by simpa using ra)⟩
theorem DatasAt.reads (ok : HOk P w H h) : ∀ {xs : List V} {ds : List PyData} {us : List Value}, DatasAt H xs ds -> Vals xs us -> ∃ as, ReadsAll h us ds as
  | _, _, _, .nil, .nil => ⟨[], .nil⟩
  | _, _, _, .cons h1 r1, .cons r rr => by
    obtain ⟨as, ra⟩ := DataAt.reads ok h1 r
    obtain ⟨bs, rb⟩ := DatasAt.reads ok r1 rr
    exact ⟨as ++ bs, .cons ra rb⟩
end
mutual
theorem DataAt.same {H' : Hp} (s : ∀ b o, H b = some o -> H' b = some o) : ∀ {x : V} {d : PyData}, DataAt H x d -> DataAt H' x d
  | _, _, .non => .non
  | _, _, .bl b => .bl b
  | _, _, .int i => .int i
  | _, _, .str x => .str x
  | _, _, .lst e r => .lst (s _ _ e) (DatasAt.same s r)
  | _, _, .tup e r => .tup (s _ _ e) (DatasAt.same s r)
theorem DatasAt.same {H' : Hp} (s : ∀ b o, H b = some o -> H' b = some o) : ∀ {xs : List V} {ds : List PyData}, DatasAt H xs ds -> DatasAt H' xs ds
  | _, _, .nil => .nil
  | _, _, .cons h r => .cons (DataAt.same s h) (DatasAt.same s r)
end
theorem DatasAt.get : ∀ {xs : List V} {ds : List PyData} {i : Nat} {x : V}, DatasAt H xs ds -> xs[i]? = some x -> ∃ d, ds[i]? = some d ∧ DataAt H x d
  | _, _, _, _, .nil, e => by simp at e
  | _, _, 0, _, .cons h r, e => by simp at e; subst e; exact ⟨_, rfl, h⟩
  | _, _, i + 1, x, .cons h r, e => by
    obtain ⟨d, e1, e2⟩ := DatasAt.get (i := i) (x := x) r (by simpa using e)
    exact ⟨d, by simpa using e1, e2⟩
theorem DatasAt.length : ∀ {xs : List V} {ds : List PyData}, DatasAt H xs ds -> xs.length = ds.length
  | _, _, .nil => rfl
  | _, _, .cons h r => by rw [List.length_cons, List.length_cons, DatasAt.length r]
theorem DatasAt.ints : ∀ (ns : List Int), DatasAt H (ns.map V.int) (ns.map PyData.int)
  | [] => .nil
  | n :: ns => .cons (.int n) (DatasAt.ints ns)
end
section
variable {X : Cx}
theorem qL3 {k : Nat} (hr : Room k X.A) : OpR X (compareOp .Eq) (fun x y H Q => ∃ d e, DataAt H x d ∧ DataAt H y e ∧ d.canLay0 = true ∧ e.canLay0 = true ∧ d.depth ≤ 60 ∧ Q (.bl (PyData.eqv d e)) H) := by
  intro pins s σ H x y v u Q I rx ry h
  obtain ⟨d, e, hd, he, c1, c2, dp, q⟩ := h
  obtain ⟨as, ra⟩ := hd.reads I.hok rx
  obtain ⟨bs, rb⟩ := he.reads I.hok ry
  have un := hr.units
  exact SeqAt.rcAt_reads ra rb c1 c2 (by lia) X.prog X.w X.xe _ ⟨.bl _, H, I, rfl, q⟩
theorem op_neD {k : Nat} (hr : Room k X.A) : OpR X (compareOp .NotEq) (fun x y H Q => ∃ d e, DataAt H x d ∧ DataAt H y e ∧ d.canLay0 = true ∧ e.canLay0 = true ∧ d.depth ≤ 60 ∧ Q (.bl (!PyData.eqv d e)) H) := by
  intro pins s σ H x y v u Q I rx ry h
  obtain ⟨d, e, hd, he, c1, c2, dp, q⟩ := h
  obtain ⟨as, ra⟩ := hd.reads I.hok rx
  obtain ⟨bs, rb⟩ := he.reads I.hok ry
  have un := hr.units
  exact SeqAt.rcNeAt_reads ra rb c1 c2 (by lia) X.prog X.w X.xe _ ⟨.bl _, H, I, rfl, q⟩
theorem qd3 {k : Nat} (hr : Room k X.A) : CallR X (.builtin "repr") (fun xs H Q => ∃ (p : Addr) (d : PyData), xs = [.ref p] ∧ DataAt H (.ref p) d ∧ d.showable = true ∧ d.hasDict = false ∧ d.depth ≤ 60 ∧ d.shown.length ≤ sizeLine ∧ Q (.str d.shown) H) := by
  intro pins s σ H xs us Q I r h
  obtain ⟨p, d, rfl, hd, hs, hn, dp, hz, q⟩ := h
  obtain ⟨u, rfl, rx⟩ := ql1 r
  cases rx
  obtain ⟨as, ra⟩ := hd.reads (u := .ref p) I.hok rfl
  have un := hr.units
  exact repr_of_reads' ra hs (fun z => by rw [hn] at z; cases z) hr.gd (by lia) (fun b o e => e) (fun h' u tk kp => ⟨.str _, H, I.kept kp, ⟨_, rfl⟩, q⟩) hz
end
theorem qo0 : ∀ (a b : List Int), PyData.eqvAll (a.map PyData.int) (b.map PyData.int) = decide (a = b)
  | [], [] => by simp [PyData.eqvAll]
  | x :: a, [] => by simp [PyData.eqvAll]
  | [], y :: b => by simp [PyData.eqvAll]
  | x :: a, y :: b => by
    show (PyData.eqv (.int x) (.int y) && PyData.eqvAll (a.map PyData.int) (b.map PyData.int)) = _
    rw [qo0 a b, show PyData.eqv (.int x) (.int y) = (x == y) by simp [PyData.eqv]]
    rw [Bool.eq_iff_iff]
    simp
theorem qo1 : ∀ (a : List Int), PyData.canLayAll0 (a.map PyData.int) = true
  | [] => by simp [PyData.canLayAll0]
  | x :: a => by
    show (PyData.canLay0 (.int x) && PyData.canLayAll0 (a.map PyData.int)) = true
    rw [qo1 a]
    simp [PyData.canLay0]
def dT (ns : List Int) : PyData := .tuple (ns.map PyData.int)
def dL (ns : List Int) : PyData := .list (ns.map PyData.int)
theorem dT_lay (ns : List Int) : (dT ns).canLay0 = true := by
  show PyData.canLayAll0 (ns.map PyData.int) = true
  exact qo1 ns
theorem qL4 (ns : List Int) : (dL ns).canLay0 = true := by
  show PyData.canLayAll0 (ns.map PyData.int) = true
  exact qo1 ns
theorem dT_eqv (a b : List Int) : PyData.eqv (dT a) (dT b) = decide (a = b) := by
  show PyData.eqvAll _ _ = _
  exact qo0 a b
theorem dL_eqv (a b : List Int) : PyData.eqv (dL a) (dL b) = decide (a = b) := by
  show PyData.eqvAll _ _ = _
  exact qo0 a b
end L2
set_option Elab.async false
set_option linter.all false
set_option maxRecDepth 100000
set_option maxHeartbeats 4000000
namespace EnumT
open PySem PySem.Spec
section
variable {prog : Program} {w : World} {A : Around} {E : Value -> Shared -> Prop} {s : Shared}
theorem qP3 {it t : Addr} {i : Nat} {items : Array Value} {x : Value} {Q : Value -> Shared -> Prop} (st : s.heap.IsTupleIter it t i) (ht : s.heap.IsTuple t items) (hx : items[i]? = some x)
    (q : ∀ h', h'.IsTupleIter it t (i + 1) -> Heap.SameBut it s.heap h' -> Q x { s with heap := h' }) : wpAny (model prog w) A (Builtin.SmallTypes.nextOf (.ref it)) Q E s := by
  obtain ⟨o, e1, e2, e3⟩ := id st
  obtain ⟨ot, f1, _, nt, f2⟩ := ht
  unfold Builtin.SmallTypes.nextOf
  refine wpAny_bind (wpAny_callSpecial?_slot (name := Str.ofString "__next__") st.typeIs F.slot_tuple_iterator_next (wpAny_call_entry F.slot_tuple_iterator_next st.typeIs F.entry_tuple_iterator_next ?_ (F.args_tuple_iterator_next_1 _)))
  show wpAny _ _ (field (.ref it) 0 >>= _) _ _ s
  refine wpAny_bind (wpAny_field e1 e3 (x := .ref t) rfl ?_)
  show wpAny _ _ (if (Value.ref t == Value.none) = true then _ else _) _ _ s
  rw [if_neg (show ¬ ((Value.ref t == Value.none) = true) from Bool.false_ne_true)]
  show wpAny _ _ (field (.ref it) 1 >>= _) _ _ s
  refine wpAny_bind (wpAny_field e1 e3 (x := .int i 0) rfl ?_)
  show wpAny _ _ (seqItems? (.ref t) >>= _) _ _ s
  refine wpAny_bind (wpAny_seqItems f1 f2 ?_)
  simp only [Int.toNat_natCast, hx]
  refine wpAny_bind (wpAny_setField e1 e3 (by simp) (wpAny_pure ⟨x, rfl, wpAny_pure (q _ ⟨_, Heap.get?_update_self _ e1 (Obj.isFreed_of_fields (Obj.data_mapFields e3 _)), (Obj.cls_mapFields ..).trans e2, ?_⟩ (Heap.SameBut.update ..))⟩))
  rw [Obj.data_mapFields e3]; simp [rawInt]
theorem inner_end {it t : Addr} {i : Nat} {items : Array Value} {Q : Value -> Shared -> Prop} (hh : A.handled = none) (st : s.heap.IsTupleIter it t i) (ht : s.heap.IsTuple t items) (hx : items[i]? = none)
    (q : ∀ h' e, Heap.ExtBut it s.heap h' -> (∃ o, h'.get? e = some o ∧ o.cls = .type "StopIteration") -> E (.ref e) { s with heap := h' }) : wpAny (model prog w) A (Builtin.SmallTypes.nextOf (.ref it)) Q E s := by
  obtain ⟨o, e1, e2, e3⟩ := id st
  obtain ⟨ot, f1, _, nt, f2⟩ := ht
  unfold Builtin.SmallTypes.nextOf
  refine wpAny_bind (wpAny_callSpecial?_slot (name := Str.ofString "__next__") st.typeIs F.slot_tuple_iterator_next (wpAny_call_entry F.slot_tuple_iterator_next st.typeIs F.entry_tuple_iterator_next ?_ (F.args_tuple_iterator_next_1 _)))
  show wpAny _ _ (field (.ref it) 0 >>= _) _ _ s
  refine wpAny_bind (wpAny_field e1 e3 (x := .ref t) rfl ?_)
  show wpAny _ _ (if (Value.ref t == Value.none) = true then _ else _) _ _ s
  rw [if_neg (show ¬ ((Value.ref t == Value.none) = true) from Bool.false_ne_true)]
  show wpAny _ _ (field (.ref it) 1 >>= _) _ _ s
  refine wpAny_bind (wpAny_field e1 e3 (x := .int i 0) rfl ?_)
  show wpAny _ _ (seqItems? (.ref t) >>= _) _ _ s
  refine wpAny_bind (wpAny_seqItems f1 f2 ?_)
  simp only [Int.toNat_natCast, hx]
  refine wpAny_bind (wpAny_rule (wpAny_bind (wpAny_setField e1 e3 (by simp) ?_)))
  show wpAny _ _ (newExc (.type "StopIteration") [] >>= _) _ _ _
  refine wpAny_bind ?_
  simp only [newExc, newTuple]
  refine wpAny_bind (wpAny_newObj_type ?_ (by size_fits))
  refine wpAny_bind (m := firstArgMember _ _) (wpAny_of_eq (a := Value.none) (by first | rfl | (simp only [firstArgMember]; rfl)) ?_)
  refine wpAny_newObj_type ?_ (by size_fits)
  simp only [raiseNew]
  refine wpAny_bind (wpAny_handled ?_)
  first | rw [show A.in1.handled = none from hh] | rw [hh]
  refine wpAny_bind (wpAny_pure (wpAny_throw ?_))
  exact q _ _ (((Heap.SameBut.update ..).extBut.push _).push _) ⟨_, Heap.get?_push_size _ rfl, rfl⟩
theorem pair_next {e it : Addr} {i : Nat} {x old : Value} {St : Heap -> Prop} {Q : Value -> Shared -> Prop} (he : IsEnum s.heap e it i old) (hne : e ≠ it)
    (nx : ∀ Q' : Value -> Shared -> Prop, (∀ h', Heap.SameBut it s.heap h' -> St h' -> Q' x { s with heap := h' }) -> wpAny (model prog w) A (Builtin.SmallTypes.nextOf (.ref it)) Q' E s)
    (q : ∀ h1 h', Heap.SameBut it s.heap h1 -> St h1 -> IsEnumOut h' e it ((i : Int) + 1) x s.heap.objs.size -> h'.get? s.heap.objs.size = some { cls := .type "tuple", data := .seq #[.int i s.toks, x] } ->
      (∀ b o, b ≠ e -> h1.get? b = some o -> h'.get? b = some o) -> Q (.ref s.heap.objs.size) { s with heap := h', toks := s.toks + 1 }) :
    wpAny (model prog w) A (Builtin.«enumerate.__next__» ⟨[.ref e], []⟩) (fun fin s' => ∃ v, fin = .done (.ret v) ∧ Q v s') E s := by
  obtain ⟨hp, g, d, tk, os⟩ := s
  show wpAny _ _ (field (.ref e) 2 >>= _) _ _ _
  refine wpAny_bind (wpAny_field he rfl (x := .ref it) rfl ?_)
  refine wpAny_bind (nx _ fun h₁ s1 st1 => ?_)
  replace s1 : Heap.SameBut it hp h₁ := s1
  have he₁ : IsEnum h₁ e it i old := (s1.2 e hne).trans he
  show wpAny _ _ (field (.ref e) 3 >>= _) _ _ ⟨h₁, g, d, tk, os⟩
  refine wpAny_bind (wpAny_field he₁ rfl (x := rawInt i) rfl ?_)
  show wpAny _ _ (field (.ref e) 4 >>= _) _ _ ⟨h₁, g, d, tk, os⟩
  refine wpAny_bind (wpAny_field he₁ rfl (x := .none) rfl ?_)
  show wpAny _ _ (mkInt i >>= _) _ _ ⟨h₁, g, d, tk, os⟩
  refine wpAny_bind (wpAny_mkInt ?_)
  show wpAny _ _ (setField (.ref e) 3 (rawInt ((i : Int) + 1)) >>= _) _ _ ⟨h₁, g, d, tk + 1, os⟩
  refine wpAny_bind (wpAny_setField_rec he₁ (by simp) fun h₂ he₂ s2 => ?_)
  replace s2 : Heap.SameBut e h₁ h₂ := s2
  replace he₂ : IsEnum h₂ e it ((i : Int) + 1) old := he₂
  show wpAny _ _ (setField (.ref e) 4 .none >>= _) _ _ ⟨h₂, g, d, tk + 1, os⟩
  refine wpAny_bind (wpAny_setField_rec he₂ (by simp) fun h₃ he₃ s3 => ?_)
  replace s3 : Heap.SameBut e h₂ h₃ := s3
  replace he₃ : IsEnum h₃ e it ((i : Int) + 1) old := he₃
  show wpAny _ _ (newTuple [.int i tk, x] >>= _) _ _ ⟨h₃, g, d, tk + 1, os⟩
  refine wpAny_bind (wpAny_newTuple ?_)
  have z3 : h₃.objs.size = hp.objs.size := by rw [s3.1, s2.1, s1.1]
  have elt : e < hp.objs.size := Heap.lt_size he
  obtain ⟨h₄, e4⟩ : ∃ h₄, h₃.push { cls := .type "tuple", data := .seq #[.int i tk, x] } = h₄ := ⟨_, rfl⟩
  have he₄ : IsEnum h₄ e it ((i : Int) + 1) old := by rw [← e4]; exact Heap.get?_push_of_some _ he₃
  have ht₄ : h₄.get? hp.objs.size = some { cls := .type "tuple", data := .seq #[.int i tk, x] } := by rw [← e4, ← z3]; exact Heap.get?_push_size _ rfl
  have k4 : ∀ b o, b ≠ e -> h₁.get? b = some o -> h₄.get? b = some o := fun b o hb eb => by
    rw [← e4]; exact Heap.get?_push_of_some _ (s3.extBut b o hb (s2.extBut b o hb eb))
  rw [e4]
  show wpAny _ _ (Builtin.SmallTypes.ownedTupleIsFree (.ref e) >>= _) _ _ ⟨h₄, g, d, tk + 1, os⟩
  rw [z3]
  refine wpAny_bind ?_
  unfold Builtin.SmallTypes.ownedTupleIsFree
  refine wpAny_bind (wpAny_field he₄ rfl (x := .none) rfl (wpAny_pure ?_))
  simp only [if_true]
  refine wpAny_bind (wpAny_rule ?_)
  refine wpAny_bind (wpAny_field he₄ rfl (x := old) rfl ?_)
  refine wpAny_bind (wpAny_setField_rec he₄ (by simp) fun h₅ he₅ s5 => ?_)
  replace s5 : Heap.SameBut e h₄ h₅ := s5
  replace he₅ : IsEnum h₅ e it ((i : Int) + 1) x := he₅
  show wpAny _ _ (Builtin.SmallTypes.ownedTupleHandOut (.ref e) (.ref hp.objs.size) >>= _) _ _ ⟨h₅, g, d, tk + 1, os⟩
  refine wpAny_bind ?_
  unfold Builtin.SmallTypes.ownedTupleHandOut
  refine wpAny_bind (wpAny_setField_rec he₅ (by simp) fun h₆ he₆ s6 => ?_)
  replace s6 : Heap.SameBut e h₅ h₆ := s6
  replace he₆ : IsEnumOut h₆ e it ((i : Int) + 1) x hp.objs.size := he₆
  refine wpAny_setField_rec he₆ (by simp) fun h₇ he₇ s7 => ?_
  replace s7 : Heap.SameBut e h₆ h₇ := s7
  replace he₇ : IsEnumOut h₇ e it ((i : Int) + 1) x hp.objs.size := he₇
  have k7 : ∀ b o, b ≠ e -> h₄.get? b = some o -> h₇.get? b = some o := fun b o hb eb => s7.extBut b o hb (s6.extBut b o hb (s5.extBut b o hb eb))
  exact wpAny_bind (wpAny_letGo (wpAny_pure ⟨_, rfl, q h₁ h₇ s1 st1 he₇ (k7 _ _ (Nat.ne_of_gt elt) ht₄) fun b o hb eb => k7 b o hb (k4 b o hb eb)⟩))
theorem next_pair {e it t : Addr} {i : Nat} {items : Array Value} {x old : Value} {Q : Option Value -> Shared -> Prop} (he : IsEnum s.heap e it i old) (hne : e ≠ it) (st : s.heap.IsTupleIter it t i) (ht : s.heap.IsTuple t items) (hx : items[i]? = some x)
    (q : ∀ h1 h', Heap.SameBut it s.heap h1 -> IsEnumOut h' e it ((i : Int) + 1) x s.heap.objs.size -> h'.IsTupleIter it t (i + 1) -> h'.get? s.heap.objs.size = some { cls := .type "tuple", data := .seq #[.int i s.toks, x] } ->
      (∀ b o, b ≠ e -> h1.get? b = some o -> h'.get? b = some o) -> Q (some (.ref s.heap.objs.size)) { s with heap := h', toks := s.toks + 1 }) : wpAny (model prog w) A (pyNext (.ref e)) Q E s := by
  have hT : s.TypeIs (.ref e) "enumerate" := ⟨_, he, rfl⟩
  unfold pyNext
  refine wpAny_bind (wpAny_attempt (wpAny_callSpecial?_slot (name := Str.ofString "__next__") hT F.slot_enumerate_next (wpAny_call_entry F.slot_enumerate_next hT F.entry_enumerate_next
    (pair_next (St := fun h => h.IsTupleIter it t (i + 1)) he hne (fun Q' q' => qP3 st ht hx fun h' st' sb => q' h' sb st') fun h1 h' sb st1 ho hT' kp => wpAny_pure (q h1 h' sb ho ?_ hT' kp)) (F.args_enumerate_next_1 _))))
  obtain ⟨o, x1, x2⟩ := st1
  exact ⟨o, kp it o (Ne.symm hne) x1, x2⟩
theorem next_end {e it t : Addr} {i : Nat} {items : Array Value} {old : Value} {Q : Option Value -> Shared -> Prop} (hh : A.handled = none) (he : IsEnum s.heap e it i old) (st : s.heap.IsTupleIter it t i) (ht : s.heap.IsTuple t items) (hx : items[i]? = none)
    (q : ∀ h', Heap.ExtBut it s.heap h' -> Q none { s with heap := h' }) : wpAny (model prog w) A (pyNext (.ref e)) Q E s := by
  have hT : s.TypeIs (.ref e) "enumerate" := ⟨_, he, rfl⟩
  unfold pyNext
  refine wpAny_bind (wpAny_attempt (wpAny_callSpecial?_slot (name := Str.ofString "__next__") hT F.slot_enumerate_next (wpAny_call_entry F.slot_enumerate_next hT F.entry_enumerate_next ?_ (F.args_enumerate_next_1 _))))
  show wpAny _ _ (field (.ref e) 2 >>= _) _ _ _
  refine wpAny_bind (wpAny_field he rfl (x := .ref it) rfl ?_)
  refine wpAny_bind (inner_end hh st ht hx fun h' x eb ⟨o, ho, hc⟩ => ?_)
  exact wpAny_bind (wpAny_isInstance (T := "StopIteration") (b := true) ⟨o, ho, hc⟩ isSubtype_stop (wpAny_pure (q _ eb)))
theorem meets_new (l : Addr) (items : Array Value) (n : Nat) (dct : Option Addr) (sl : Array (Option Value)) :
    Meets (Builtin.«enumerate.__new__» ⟨[.type "enumerate", .ref l], []⟩) (fun _ R s => s.heap.get? l = some { cls := .type "tuple", dict := dct, data := .seq items n, slots := sl } ∧
      R (.ok (.ret (.ref (s.heap.push { cls := .type "tuple_iterator", data := .fields #[.ref l, .int 0 0] }).objs.size)))
        { s with heap := (s.heap.push { cls := .type "tuple_iterator", data := .fields #[.ref l, .int 0 0] }).push { cls := .type "enumerate", data := .fields #[.none, .bool false, .ref s.heap.objs.size, rawInt 0, .none, .none] } }) :=
  .of_wp fun prog w A R s h => by
    obtain ⟨hp, g, d, tk, os⟩ := s; obtain ⟨hl, h⟩ := h
    have f0 := sub_enumerate
    have hL : Heap.IsTuple (Shared.heap ⟨hp, g, d, tk, os⟩) l items := ⟨_, hl, rfl, n, rfl⟩
    wp_walk using AutoSeq1.wpAny_loadPart' hl
    refine wpAny_stack_any fun st => wpAny_pure ?_
    split
    . rename_i c _ _ _ _ _
      cases (c == Value.type "enumerate")
      all_goals
        wp_walk using AutoSeq1.wpAny_loadPart' hl, wpAny_pyIter_tuple hL
        exact ⟨_, rfl, h⟩
    . wp_walk using AutoSeq1.wpAny_loadPart' hl, wpAny_pyIter_tuple hL
      exact ⟨_, rfl, h⟩
theorem call_new {l : Addr} {items : Array Value} {Q : Value -> Shared -> Prop} (hL : s.heap.IsTuple l items)
    (q : ∀ h', IsEnum h' (s.heap.objs.size + 1) s.heap.objs.size 0 .none -> h'.IsTupleIter s.heap.objs.size l 0 -> (∀ b o, s.heap.get? b = some o -> h'.get? b = some o) -> Q (.ref (s.heap.objs.size + 1)) { s with heap := h' }) :
    wpAny (model prog w) A (call (.type "enumerate") [.ref l]) Q E s := by
  obtain ⟨⟨c, dct, dt, sl⟩, hl, hc, n, hd⟩ := hL
  replace hc : c = .type "tuple" := hc
  replace hd : dt = .seq items n := hd
  subst hc hd
  refine callType_new F.called_enumerate (by decide) (F.typeCall_enumerate_1 _) (F.newCall_enumerate_1 _) (fun obj => F.args_object_init_2 obj _) F.entry_enumerate_new (meets_new l items n dct sl) ⟨hl, ?_⟩
  have z1 : (s.heap.push { cls := .type "tuple_iterator", data := .fields #[.ref l, .int 0 0] }).objs.size = s.heap.objs.size + 1 := Heap.size_push ..
  show _ ∧ _
  rw [z1]
  have he := Heap.get?_push_size (s.heap.push { cls := .type "tuple_iterator", data := .fields #[.ref l, .int 0 0] }) (o := { cls := .type "enumerate", data := .fields #[.none, .bool false, .ref s.heap.objs.size, rawInt 0, .none, .none] }) rfl
  rw [z1] at he
  exact ⟨⟨_, he, rfl⟩, q _ he ⟨_, Heap.get?_push_of_some _ (Heap.get?_push_size _ rfl), rfl, rfl⟩ fun b o x => Heap.get?_push_of_some _ (Heap.get?_push_of_some _ x)⟩
end
end EnumT
set_option Elab.async false
set_option linter.all false
set_option maxRecDepth 100000
set_option maxHeartbeats 4000000
namespace L2
open PySem PySem.Spec PyProof.Rows
def Ite (K : PySem.W.Frag) (a : Addr) : It :=
  ⟨fun i H => ∃ xs x, SqT K H a xs ∧ xs[i]? = some x, fun i H y H' => ∃ p x, H p = none ∧ (∀ xs, SqT K H a xs -> xs[i]? = some x) ∧ H' = upd H p (.tup [.int i, x]) ∧ y = .ref p, fun i H => ∃ xs, SqT K H a xs ∧ xs.length ≤ i⟩
theorem push_lt {h : Heap} {o o' : Obj} {b : Addr} (e : (h.push o).get? b = some o') (hlt : b < h.objs.size) : h.get? b = some o' := by
  unfold Heap.get? Heap.push at *
  simp only [Array.getElem?_push] at e
  rw [if_neg (Nat.ne_of_lt hlt)] at e
  exact e
theorem qP4 {P : Program} {w : World} {K : PySem.W.Frag} {elts : List Expr} {x1 : Nat} {tpos : Pos} (a e it : Addr) (hne : e ≠ it) :
    Turn P w K (.Tuple elts x1 tpos) (Ite K a) [e, it] e (fun i h => (∃ old, IsEnum h e it i old) ∧ h.IsTupleIter it a i) where
  mem := by simp
  obj := fun i h st b hb => by
    rcases List.mem_cons.mp hb with rfl | hb
    . obtain ⟨⟨old, z⟩, _⟩ := st
      exact ⟨_, z, fun v q => by
        have q' : Data.fields _ = Data.cell v := q
        cases q'⟩
    . have : b = it := by simpa using hb
      subst this
      obtain ⟨_, o, z, _, d⟩ := st
      exact ⟨o, z, fun v q => by rw [d] at q; cases q⟩
  keep := fun i h h' st k => by
    obtain ⟨⟨old, z⟩, st2⟩ := st
    exact ⟨⟨old, k e (by simp) _ z⟩, st2.at fun o q => k it (by simp) o q⟩
  item := by
    intro X hP hw hK hc i pins s σ H E I hf st hg
    subst hP hw hK
    obtain ⟨⟨old, he⟩, st2⟩ := st
    obtain ⟨xs, x, hq, hx⟩ := hg
    obtain ⟨its, rv, p, hz⟩ := I.tuple hq
    obtain ⟨u, hu, ru⟩ := rv.get hx
    obtain ⟨e0, e1, e2, e3, e4, e5⟩ := hf e (by simp)
    obtain ⟨f0, f1, f2, f3, f4, f5⟩ := hf it (by simp)
    refine EnumT.next_pair he hne st2 (show s.heap.IsTuple a its.toArray from p) (x := u) (by simpa using hu) fun h1 h' sb ho st3 ht kp => ?_
    refine ⟨_, rfl, wpAny_letOwnedTupleGo_enum ho fun h2 he2 sb2 => ?_⟩
    have elt : e < s.heap.objs.size := Heap.lt_size he
    have ilt : it < s.heap.objs.size := by obtain ⟨o, z, _⟩ := st2; exact Heap.lt_size z
    have fresh : H s.heap.objs.size = none := I.hok.fresh (Nat.le_refl _)
    have z1 : h1.objs.size = s.heap.objs.size := sb.1
    have J0 : Inv X pins σ (upd H s.heap.objs.size (.tup [.int i, x])) { s with heap := s.heap.push { cls := .type "tuple", data := .seq #[.int i s.toks, u] }, toks := s.toks + 1 } :=
      I.laid (fun b o q => Heap.get?_push_of_some _ q) (Nat.le_refl _) ⟨by show 2 ≤ sizeLine; decide, [.int i s.toks, u], .cons ⟨_, rfl⟩ (.cons ru .nil), _, Heap.get?_push_size _ rfl, rfl, ⟨_, rfl⟩, rfl⟩
    have ne1 : (upd H s.heap.objs.size (.tup [.int i, x])) it = none := by rw [qa6 (Nat.ne_of_lt ilt)]; exact f0
    have ne2 : (upd H s.heap.objs.size (.tup [.int i, x])) e = none := by rw [qa6 (Nat.ne_of_lt elt)]; exact e0
    have J1 := J0.turned (it := it) (h' := h1.push { cls := .type "tuple", data := .seq #[.int i s.toks, u] }) (t' := s.toks + 1) (fun b o hb q => by
        have q : (s.heap.push { cls := .type "tuple", data := .seq #[.int i s.toks, u] }).get? b = some o := q
        by_cases hlt : b < s.heap.objs.size
        . have q' : s.heap.get? b = some o := push_lt q hlt
          exact Heap.get?_push_of_some _ ((sb.2 b hb).trans q')
        . have hb2 : b < s.heap.objs.size + 1 := by have := Heap.lt_size q; rw [Heap.size_push] at this; exact this
          have eb : b = s.heap.objs.size := Nat.le_antisymm (Nat.le_of_lt_succ hb2) (Nat.le_of_not_lt hlt)
          subst eb
          rw [Heap.get?_push_size _ rfl] at q
          cases q
          have := Heap.get?_push_size h1 (o := { cls := .type "tuple", data := .seq #[.int i s.toks, u] }) rfl
          rw [z1] at this
          exact this) ne1 f1 f3 f4 f5
    have J2 := J1.turned (it := e) (h' := h') (t' := s.toks + 1) (fun b o hb q => by
        have q : (h1.push { cls := .type "tuple", data := .seq #[.int i s.toks, u] }).get? b = some o := q
        by_cases hlt : b < s.heap.objs.size
        . have q' : h1.get? b = some o := push_lt q (by rw [z1]; exact hlt)
          exact kp b o hb q'
        . have hb2 : b < s.heap.objs.size + 1 := by have := Heap.lt_size q; rw [Heap.size_push, z1] at this; exact this
          have eb : b = s.heap.objs.size := Nat.le_antisymm (Nat.le_of_lt_succ hb2) (Nat.le_of_not_lt hlt)
          subst eb
          have := Heap.get?_push_size h1 (o := { cls := .type "tuple", data := .seq #[.int i s.toks, u] }) rfl
          rw [z1] at this
          rw [this] at q
          cases q
          exact ht) ne2 e1 e3 e4 e5
    have J3 := J2.turned (it := e) (h' := h2) (t' := s.toks + 1) (fun b o hb q => (sb2.2 b hb).trans q) ne2 e1 e3 e4 e5
    refine ⟨.ref s.heap.objs.size, _, J3, rfl, ⟨_, x, fresh, fun ys hy => by rw [I.tuple_inj hy hq]; exact hx, rfl, rfl⟩, ⟨⟨u, by
      have : (((i + 1 : Nat)) : Int) = (i : Int) + 1 := by lia
      rw [this]; exact he2⟩, st3.at fun o q => (sb2.2 it (Ne.symm hne)).trans q⟩, fun b hb => ?_⟩
    rcases List.mem_cons.mp hb with rfl | hb
    . exact ne2
    . have : b = it := by simpa using hb
      subst this
      exact ne1
  done := by
    intro X hP hw hK hc i pins s σ H E I hf st hg
    subst hP hw hK
    obtain ⟨⟨old, he⟩, st2⟩ := st
    obtain ⟨xs, hq, hx⟩ := hg
    obtain ⟨its, rv, p, hz⟩ := I.tuple hq
    obtain ⟨f0, f1, f2, f3, f4, f5⟩ := hf it (by simp)
    have hl := rv.length
    exact EnumT.next_end (I.ok.hd hc) he st2 (show s.heap.IsTuple a its.toArray from p) (by simp; lia) fun h' eb => ⟨rfl, I.turned (t' := s.toks) (fun b o hb e => eb b o hb e) f0 f1 f3 f4 f5⟩
  self := fun _ _ _ _ _ st h => by
    obtain ⟨⟨old, he⟩, _⟩ := st
    exact wpAny_pyIter_enum he h
section
variable {X : Cx} {elts : List Expr} {x1 : Nat} {tpos : Pos}
def iEnumT (K : PySem.W.Frag) (ta : TA) : TI := fun σ H R => ta σ H fun vs H1 => ∃ a, vs = [.ref a] ∧ (∃ xs, SqT K H1 a xs) ∧ R (Ite K a) H1
theorem pi_enumT {e : Expr} {ta : TA} {p pos : Pos} (hg : Gl X "enumerate") (hm : X.mg "enumerate" = none) (ha : PA X [e] ta) (hs : starEach [e] X.env = [(false, eval e X.env)] := by rfl) : PI X (.Tuple elts x1 tpos) (.Call (.Name "enumerate" p) [e] [] pos) (iEnumT X.K ta) := by
  intro pins s σ H R I h
  refine Call_ (qx2 I hg hm PyProof.Rows.boot_enumerate (PyProof.Rows.callWith_type1 (thn (ha pos pins s σ H _ I h) fun us s1 ⟨vs, H1, I1, r1, q1⟩ => ?_) hs rfl))
  obtain ⟨a, rfl, ⟨xs, hq⟩, q⟩ := q1
  obtain ⟨u, rfl, ru⟩ := ql1 r1
  cases ru
  obtain ⟨its, rv, pt, hz⟩ := I1.tuple hq
  refine EnumT.call_new (show s1.heap.IsTuple a its.toArray from pt) fun h' he st kp => ?_
  refine wpAny_pyIter_enum he ?_
  have J : Inv X pins σ H1 { s1 with heap := h' } := I1.kept (t' := s1.toks) kp
  refine ⟨s1.heap.objs.size + 1, [s1.heap.objs.size + 1, s1.heap.objs.size], _, _, H1, rfl, J, qP4 a _ _ (Nat.succ_ne_self _), ⟨⟨.none, he⟩, st⟩, fun b hb => ?_, q⟩
  rcases List.mem_cons.mp hb with rfl | hb
  . exact I1.fpOk (Nat.le_succ _) (I1.hok.fresh (Nat.le_succ _))
  . have : b = s1.heap.objs.size := by simpa using hb
    subst this
    exact I1.fpOk (Nat.le_refl _) (I1.hok.fresh (Nat.le_refl _))
end
end L2
set_option Elab.async false
set_option linter.all false
set_option maxRecDepth 100000
set_option maxHeartbeats 4000000
namespace L2
open PySem PySem.Spec PyProof.Rows
section
variable {X : Cx}
def qc1 (X : Cx) (scope : Scope) (cl : List (Str × Addr)) (C : Addr) (ns : List Str) (fp : List Addr) (s₀ : Shared) (H₀ : Hp) : Cx :=
  { X with N := ns ++ X.N, s₀ := s₀, H₀ := H₀, env := compEnvC scope cl C X.env, outer := X.stack, stack := X.stack, ex := fp, fn := fun _ => false, pn := [], xe := fun _ _ => False }
def qy1 (n : Nat) (wi : TI) (g : TG) (tt : TT) (te : TE) : TE := fun σ H Q => wi σ H fun J H1 => ∀ D, H1 D = none -> ∃ W : Nat -> Nat -> List V -> Hp -> Prop, (∃ m, W 0 m [] (upd H1 D (.lst []))) ∧
  ∀ i m xs H2, W i m xs H2 -> H2 D = some (.lst xs) ∧ xs.length < sizeLine ∧ ((J.stop i H2 ∧ Q (.ref D) H2) ∨ (J.go i H2 ∧ ∀ y H3, J.yld i H2 y H3 -> ∀ os : St, os.length = n ->
    g y (os ++ σ) H3 fun σ4 H4 => tt σ4 H4 fun b H5 => if b = true then te σ4 H5 fun v H6 => H6 D = some (.lst xs) ∧ ∃ m', m' < m ∧ W (i + 1) m' (xs ++ [v]) (upd H6 D (.lst (xs ++ [v]))) else ∃ m', m' < m ∧ W (i + 1) m' xs H5))
theorem qD7 {prog : Program} {w : World} {A : Around} {R : Result -> Shared -> Prop} {s : Shared} {elt target iter : Expr} {ifs : List Expr} {scope : Scope} {pos : Pos} {it acc : Value} {env : Env} (T : Sem Bool)
    (hT : compTurn (.ListComp elt [⟨target, iter, ifs, 0⟩] scope pos) 0 it acc env = (standAt iter.pos >>= fun _ => pyNext it >>= fun r => match r with
      | none => pure (.done .next)
      | some v => letOwnedTupleGo target it v >>= fun _ => assign target env v >>= fun _ => T >>= fun ok => (if ok = true then (eval elt env >>= fun x => call (.builtin "list.append") [acc, x] >>= fun _ => pure ()) else pure ()) >>= fun _ =>
          again (.compLoop (.ListComp elt [⟨target, iter, ifs, 0⟩] scope pos) 0 it acc env)))
    (I : Nat -> Shared -> Prop)
    (turn : ∀ n s, I n s -> wpAny (model prog w) A (pyNext it) (fun r s₁ => match r with
      | none => R (.ok .next) s₁
      | some v => wpAny (model prog w) A (letOwnedTupleGo target it v) (fun _ s₁' => wpAny (model prog w) A (assign target env v) (fun _ s₂ => wpAny (model prog w) A T (fun ok s₃ =>
          if ok = true then wpAny (model prog w) A (eval elt env) (fun x s₄ => wpAny (model prog w) A (call (.builtin "list.append") [acc, x]) (fun _ s₅ => ∃ m, m < n ∧ I m s₅) (fun _ _ => False) s₄) (fun _ _ => False) s₃
          else ∃ m, m < n ∧ I m s₃) (fun _ _ => False) s₂) (fun _ _ => False) s₁') (fun _ _ => False) s₁) (fun _ _ => False) s)
    (n : Nat) (h : I n s) : codeAny (model prog w) A (.compLoop (.ListComp elt [⟨target, iter, ifs, 0⟩] scope pos) 0 it acc env) R s := by
  refine codeAny_loop rfl I (fun n s hI => ?_) n h
  show wpAny _ A ((compTurn (.ListComp elt [⟨target, iter, ifs, 0⟩] scope pos) 0 it acc env).onRaise (fun x => do noteFrame x env; theTreesLotGoes x)) _ _ s
  refine wpAny_noted ?_
  rw [hT]
  refine wpAny_bind (wpAny_standAt (wpAny_bind (wpAny_mono (turn n s hI) (fun r s₁ h₁ => ?_) fun _ _ h' => h'.elim)))
  cases r with
  | none => exact wpAny_pure h₁
  | some v =>
    refine wpAny_bind (wpAny_mono h₁ (fun _ s₁' h₁' => ?_) fun _ _ h' => h'.elim)
    refine wpAny_bind (wpAny_mono h₁' (fun _ s₂ h₂ => wpAny_bind (wpAny_mono h₂ (fun ok s₃ h₃ => ?_) fun _ _ h' => h'.elim)) fun _ _ h' => h'.elim)
    cases ok with
    | true =>
      rw [if_pos rfl] at h₃
      simp only [if_true]
      exact wpAny_bind (wpAny_bind (wpAny_mono h₃ (fun x s₄ h₄ => wpAny_bind (wpAny_mono h₄ (fun _ s₅ h₅ => wpAny_pure (wpAny_pure ⟨rfl, h₅⟩)) fun _ _ h' => h'.elim)) fun _ _ h' => h'.elim))
    | false =>
      rw [if_neg Bool.false_ne_true] at h₃
      simp only [Bool.false_eq_true, if_false]
      exact wpAny_bind (wpAny_pure (wpAny_pure ⟨rfl, h₃⟩))
theorem qI9 (elt target iter : Expr) (scope : Scope) (pos : Pos) (it acc : Value) (env : Env) : compTurn (.ListComp elt [⟨target, iter, [], 0⟩] scope pos) 0 it acc env = (standAt iter.pos >>= fun _ => pyNext it >>= fun r => match r with
      | none => pure (.done .next)
      | some v => letOwnedTupleGo target it v >>= fun _ => assign target env v >>= fun _ => (pure true : Sem Bool) >>= fun ok => (if ok = true then (eval elt env >>= fun x => call (.builtin "list.append") [acc, x] >>= fun _ => pure ()) else pure ()) >>= fun _ =>
          again (.compLoop (.ListComp elt [⟨target, iter, [], 0⟩] scope pos) 0 it acc env)) := by
  rw [compTurn_list1]
  congr 1
theorem turn_one (elt target iter c : Expr) (scope : Scope) (pos : Pos) (it acc : Value) (env : Env) : compTurn (.ListComp elt [⟨target, iter, [c], 0⟩] scope pos) 0 it acc env = (standAt iter.pos >>= fun _ => pyNext it >>= fun r => match r with
      | none => pure (.done .next)
      | some v => letOwnedTupleGo target it v >>= fun _ => assign target env v >>= fun _ => isTrue c env (eval c env) >>= fun ok => (if ok = true then (eval elt env >>= fun x => call (.builtin "list.append") [acc, x] >>= fun _ => pure ()) else pure ()) >>= fun _ =>
          again (.compLoop (.ListComp elt [⟨target, iter, [c], 0⟩] scope pos) 0 it acc env)) := by
  rw [compTurn_list]
  refine bind_congr fun _ => bind_congr fun r => ?_
  cases r with
  | none => rfl
  | some v =>
    refine bind_congr fun _ => bind_congr fun _ => ?_
    simp only [List.forIn_cons, List.forIn_nil, if_true, bind_assoc, pure_bind]
    refine bind_congr fun ok => ?_
    cases ok <;> simp
theorem qv2 {pins : List (Addr × Obj)} {σ : St} {H : Hp} {s : Shared} {h' : Heap} {tk : Nat} {scope : Scope} {cl : List (Str × Addr)} {C : Addr} {nn : List Str} {fp : List Addr} {m : Str -> Option Value}
    (I : Inv X pins σ H s) (hC : C = s.heap.objs.size) (keep : ∀ b o, s.heap.get? b = some o -> h'.get? b = some o) (ns : h'.Ns C m) (hfp : ∀ b ∈ fp, FpOk X pins H b) (hfs : ∀ b ∈ fp, b < s.heap.objs.size)
    (hkind : scope.kind = .function) (hcell : ∀ y ∈ scope.names, y.2 ≠ .cell) (hloc : ∀ y ∈ X.N, scope.names.lookup y ≠ some .local)
    (hcl1 : ∀ y c, cl.lookup y = some c -> X.env.cells.lookup y = some c) (hcl2 : ∀ p ∈ scope.names, p.2 = .free -> (cl.lookup p.1).isSome = true)
    (hfr : ∀ p ∈ scope.names, p.2 = .free -> Vis X.env.scope p.1 ∧ X.env.scope.names.lookup p.1 ≠ some .local) :
    Inv (qc1 X scope cl C nn fp s H) [] ((nn.map fun _ => none) ++ σ) H { s with heap := h', toks := tk } := by
  have cells : ∀ y c, cl.lookup y = some c -> ∃ v, s.heap.IsCell c v := fun y c e => I.cell y c (hcl1 y c e)
  have celllt : ∀ y c, cl.lookup y = some c -> c < s.heap.objs.size := fun y c e => by
    obtain ⟨v, q⟩ := cells y c e
    exact q.lt
  have cellk : ∀ c v, s.heap.IsCell c v -> h'.IsCell c v := fun c v ⟨o, e, d⟩ => ⟨o, keep c o e, d⟩
  have stkl : ∀ b ∈ frs X.stack, ∃ o, s.heap.get? b = some o := fun b hb => by
    rcases List.mem_cons.mp (I.stkSub b hb) with e | hb
    . obtain ⟨_, ⟨o, _, _, ho, _⟩, _⟩ := I.loc
      exact ⟨o, by rw [e]; exact ho⟩
    . obtain ⟨_, o, ho, _⟩ := I.funs.mem hb
      exact ⟨o, ho⟩
  refine ⟨⟨I.ok.mod, hkind, I.ok.glob, I.ok.blt, Nat.le_of_eq hC.symm, fun y z c h1 h2 => I.ok.inj y z c (hcl1 y c h1) (hcl1 z c h2), fun y hy => ?_, fun y c h _ => Bool.noConfusion h, I.ok.hd, I.ok.frames, .inl rfl, fun b hb => ⟨?_, fun y c e z => ?_⟩, I.bs,
    Nat.le_trans I.ok.bsz I.sz, fun b o e hb => ?_, fun b hb hf => ?_, I.stack, I.stkFree⟩, rfl, I.bare, Un.kept keep, ⟨m, ns, fun i y v h1 h2 h3 => ?_⟩, fun y c e => ?_, ?_, fun y c e => ?_, fun p hp => absurd hp (by simp [qc1]), I.hok.kept keep, ?_⟩
  ·
    have hy : (relabel scope X.env).names.lookup y = some .cell ∨ (relabel scope X.env).names.lookup y = some .free := hy
    obtain ⟨p, hp, e1, e2⟩ : ∃ p ∈ scope.names, p.1 = y ∧ p.2 = .free := by
      rcases hy with hy | hy
      . exact qe1 hy hcell (.inl rfl)
      . exact qe1 hy hcell (.inr rfl)
    obtain ⟨c, e⟩ := Option.isSome_iff_exists.mp (hcl2 p hp e2)
    exact ⟨c, by rw [← e1]; exact e⟩
  . show b ≠ C
    rw [hC]; exact Nat.ne_of_lt (hfs b hb)
  . exact (hfp b hb).2.2.2.2.1 y c (hcl1 y c e) z
  . rcases (hfp b hb).2.2.2.1 with z | z
    . exact I.ok.noex b o e z
    . exact absurd (Nat.lt_of_lt_of_le (Heap.lt_size (I.ok.bs b o e).1) z) (Nat.lt_irrefl _)
  . rcases List.mem_cons.mp (I.stkSub b hf) with z | z
    . exact (hfp b hb).2.1 z
    . exact (hfp b hb).2.2.1 z
  ·
    by_cases hin : i < nn.length
    . rw [List.getElem?_append_left (by simpa using hin)] at h2
      simp at h2
    . obtain ⟨j, rfl⟩ : ∃ j, i = nn.length + j := ⟨i - nn.length, by lia⟩
      have h1 : X.N[j]? = some y := by
        have h1 : (nn ++ X.N)[nn.length + j]? = some y := h1
        rw [List.getElem?_append_right (Nat.le_add_right _ _), Nat.add_sub_cancel_left] at h1
        exact h1
      have h2 : σ[j]? = some (some v) := by
        rw [List.getElem?_append_right (by simp)] at h2
        simpa using h2
      have h3 : (relabel scope X.env).names.lookup y = some .local ∨ (relabel scope X.env).names.lookup y = some .cell ∨ (relabel scope X.env).names.lookup y = some .free := h3
      rcases h3 with h3 | h3
      . exact absurd (qk0 h3) (hloc y (List.mem_of_getElem? h1))
      . obtain ⟨p, hp, e1, e2⟩ : ∃ p ∈ scope.names, p.1 = y ∧ p.2 = .free := by
          rcases h3 with h3 | h3
          . exact qe1 h3 hcell (.inl rfl)
          . exact qe1 h3 hcell (.inr rfl)
        obtain ⟨hv, hnl⟩ := hfr p hp e2
        rw [e1] at hv hnl
        obtain ⟨m0, _, hl0⟩ := I.loc
        obtain ⟨u, ru, lk⟩ := hl0 j y v h1 h2 hv
        rcases lk with ⟨lk, _⟩ | ⟨_, c, hc, hcv⟩
        . exact absurd lk hnl
        . obtain ⟨c', e'⟩ := Option.isSome_iff_exists.mp (hcl2 p hp e2)
          rw [e1] at e'
          have := hcl1 y c' e'
          rw [hc] at this
          cases this
          refine ⟨u, ru, .inr ⟨h3, c, e', cellk c _ hcv⟩⟩
  . obtain ⟨v, q⟩ := cells y c e
    exact ⟨v, cellk c v q⟩
  . show H C = none
    exact I.hok.fresh (Nat.le_of_eq hC.symm)
  . exact I.freeC y c (hcl1 y c e)
  . show ((nn.map fun _ => none) ++ σ).length = (nn ++ X.N).length
    simp [I.len]
theorem qD8 {pins : List (Addr × Obj)} {σ σ' : St} {H H' : Hp} {s s' : Shared} {h' : Heap} {scope : Scope} {cl : List (Str × Addr)} {C : Addr} {nn : List Str} {fp : List Addr}
    (I : Inv X pins σ H s) (hC : C = s.heap.objs.size) (hfp : ∀ b ∈ fp, FpOk X pins H b) (J : Inv (qc1 X scope cl C nn fp s H) [] σ' H' s') (sb : Heap.SameBut C s'.heap h') : Inv X pins σ H' { s' with heap := h' } := by
  have ne : ∀ b o, s.heap.get? b = some o -> b ≠ C := fun b o e => by rw [hC]; exact Nat.ne_of_lt (Heap.lt_size e)
  have B : Un (frs X.stack) fp H H' s.heap s'.heap := J.base
  have U : Un (frs X.stack) fp H H' s.heap h' :=
    ⟨fun b o e n hb hx => (sb.2 b (ne b o e)).trans (B.keep b o e n hb hx), fun b o e n hb hx => by
      obtain ⟨sl, q⟩ := B.slot b o e n hb hx
      exact ⟨sl, (sb.2 b (ne b o e)).trans q⟩, B.free, fun b o e hx => by
      obtain ⟨o', q⟩ := B.there b o e hx
      exact ⟨o', (sb.2 b (ne b o e)).trans q⟩, B.tups, B.frzs, B.tbls⟩
  have hf : H' C = none := J.free
  have K : HOk X.prog X.w H' h' := fun b o e => (J.hok b o e).stay (fun c u hc q => (sb.2 c (by
    rintro rfl
    rcases hc with z | z
    . rw [z, e] at hf; cases hf
    . rw [hf] at z; cases z)).trans q) (fun _ q => q) fun _ _ q => q
  refine I.call' (s' := { s' with heap := h' }) (ch := fp) J.os U K J.bare fun b hb => ?_
  obtain ⟨_, h2, _, h4, h5, h6⟩ := hfp b hb
  exact ⟨h4, h2, h5, h6⟩
end
end L2
set_option Elab.async false
set_option linter.all false
set_option maxRecDepth 100000
set_option maxHeartbeats 4000000
namespace L2
open PySem PySem.Spec PyProof.Rows
section
variable {X : Cx}
theorem qz5 {nn : List Str} {tg : Expr} {ifs : List Expr} {pos : Pos} {elt iter : Expr} {scope : Scope} {wi : TI} {g : TG} {tt : TT} {te : TE} (T : Env -> Sem Bool) (hc : X.calm = true) (hi : PI X tg iter wi)
    (hturn : ∀ it acc env, compTurn (.ListComp elt [⟨tg, iter, ifs, 0⟩] scope pos) 0 it acc env = (standAt iter.pos >>= fun _ => pyNext it >>= fun r => match r with
      | none => pure (.done .next)
      | some v => letOwnedTupleGo tg it v >>= fun _ => assign tg env v >>= fun _ => T env >>= fun ok => (if ok = true then (eval elt env >>= fun x => call (.builtin "list.append") [acc, x] >>= fun _ => pure ()) else pure ()) >>= fun _ =>
          again (.compLoop (.ListComp elt [⟨tg, iter, ifs, 0⟩] scope pos) 0 it acc env)))
    (hgt : ∀ cl C fp s₀ H₀, PG (qc1 X scope cl C nn fp s₀ H₀) tg g)
    (hloc2 : ∀ y (os σ : St) H R, os.length = nn.length -> g y (os ++ σ) H R -> g y (os ++ σ) H fun σ' H' => (∃ os' : St, os'.length = nn.length ∧ σ' = os' ++ σ) ∧ R σ' H')
    (htt : ∀ cl C fp s₀ H₀ (pins : List (Addr × Obj)) (s : Shared) (σ : St) (H : Hp) (Q : Bool -> Hp -> Prop), Inv (qc1 X scope cl C nn fp s₀ H₀) pins σ H s -> tt σ H Q -> wpAny (model X.prog X.w) X.A (T (compEnvC scope cl C X.env)) (TP (qc1 X scope cl C nn fp s₀ H₀) pins σ Q) (fun _ _ => False) s)
    (he : ∀ cl C fp s₀ H₀, PE (qc1 X scope cl C nn fp s₀ H₀) elt te)
    (hkind : scope.kind = .function) (hcell : ∀ y ∈ scope.names, y.2 ≠ .cell) (hnames : ∀ y ∈ scope.names, y.2 = .local -> scope.names.lookup y.1 = some .local)
    (hloc : ∀ y ∈ X.N, scope.names.lookup y ≠ some .local) (hfr : ∀ p ∈ scope.names, p.2 = .free -> Vis X.env.scope p.1 ∧ X.env.scope.names.lookup p.1 ≠ some .local)
    (hs : ∀ x, foldedSetIterable iter X.env x = pure x) : PE X (.ListComp elt [⟨tg, iter, ifs, 0⟩] scope pos) (qy1 nn.length wi g tt te) := by
  intro pins s σ H Q I h
  rw [eval_ListComp]
  obtain ⟨cl, hclos, hcl1, hcl2⟩ := qh6 (scope := scope) (env := X.env) (fun p hp hk => by
    obtain ⟨hv, hn⟩ := hfr p hp hk
    refine I.ok.has p.1 ?_
    rcases hv with z | z
    . exact absurd z hn
    . exact z)
  refine wpAny_comprehension_free (use := none) rfl hs hclos hkind hnames (thn (hi pins s σ H _ I h) fun v s1 h1 => thn h1 fun itv s2 h2 => ?_)
  obtain ⟨it, fp, tn, J, H2, rfl, I2, T', st2, f2, q⟩ := h2
  have hD : H2 s2.heap.objs.size = none := I2.hok.fresh (Nat.le_refl _)
  obtain ⟨W, ⟨m0, w0⟩, turn⟩ := q _ hD
  refine wpAny_newObj_type (wpAny_newFunctionEnv hcell (by intro y hy; simp at hy) (fun h₁ hns₁ hsb₁ => ?_) hkind)
  dsimp only at hns₁ hsb₁ ⊢
  have I3 : Inv X pins σ (upd H2 s2.heap.objs.size (.lst [])) { s2 with heap := s2.heap.push { cls := .type "list", dict := none, data := .seq ([] : List Value).toArray } } :=
    I2.laid (t' := s2.toks) (fun b u e => Heap.get?_push_of_some _ e) (Nat.le_refl _) ⟨Nat.zero_le _, [], 0, .nil, Heap.get?_push_size _ rfl⟩
  have fpn : ∀ b ∈ fp, b ≠ s2.heap.objs.size := fun b hb => by
    obtain ⟨o, e, _⟩ := T'.obj 0 s2.heap st2 b hb
    exact Nat.ne_of_lt (Heap.lt_size e)
  have fplt : ∀ b ∈ fp, b < (s2.heap.push { cls := .type "list", dict := none, data := .seq ([] : List Value).toArray }).objs.size := fun b hb => by
    obtain ⟨o, e, _⟩ := T'.obj 0 s2.heap st2 b hb
    rw [Heap.size_push]; exact Nat.lt_succ_of_lt (Heap.lt_size e)
  have f3 : ∀ b ∈ fp, FpOk X pins (upd H2 s2.heap.objs.size (.lst [])) b := fun b hb => ⟨by rw [qa6 (fpn b hb)]; exact (f2 b hb).1, (f2 b hb).2⟩
  generalize hg2 : s2.heap.push { cls := .type "list", dict := none, data := .seq ([] : List Value).toArray } = g2 at hns₁ hsb₁ I3 fplt ⊢
  have keep : ∀ b o, g2.get? b = some o -> h₁.get? b = some o := fun b o e => (hsb₁.2 b (Nat.ne_of_lt (Heap.lt_size e))).trans (Heap.get?_push_of_some _ e)
  have J0 := qv2 (nn := nn) (tk := s2.toks + ([] : List (Str × Value)).length) I3 (C := g2.objs.size) rfl keep hns₁ f3 fplt hkind hcell hloc hcl1 hcl2 hfr
  generalize hY : qc1 X scope cl g2.objs.size nn fp { s2 with heap := g2 } (upd H2 s2.heap.objs.size (.lst [])) = Y at J0
  have eY : PE Y elt te := by rw [← hY]; exact he _ _ _ _ _
  have eG : PG Y tg g := by rw [← hY]; exact hgt _ _ _ _ _
  have eT : ∀ (pins : List (Addr × Obj)) (s : Shared) (σ : St) (H : Hp) (Q : Bool -> Hp -> Prop), Inv Y pins σ H s -> tt σ H Q -> wpAny (model Y.prog Y.w) Y.A (T Y.env) (TP Y pins σ Q) Y.xe s := by rw [← hY]; exact htt _ _ _ _ _
  have eP : Y.prog = X.prog := by rw [← hY]; rfl
  have eW : Y.w = X.w := by rw [← hY]; rfl
  have eK : Y.K = X.K := by rw [← hY]; rfl
  have eA : Y.A = X.A := by rw [← hY]; rfl
  have eC : Y.calm = true := by rw [← hY]; exact hc
  have eE : Y.env = compEnvC scope cl g2.objs.size X.env := by rw [← hY]; rfl
  have eX : Y.xe = fun _ _ => False := by rw [← hY]; rfl
  have eN : Y.N = nn ++ X.N := by rw [← hY]; rfl
  have eEx : Y.ex = fp := by rw [← hY]; rfl
  have eFs : Y.fs = frs X.stack := by rw [← hY]; rfl
  have ePn : Y.pn = [] := by rw [← hY]; rfl
  have fpY : ∀ {H' : Hp}, (∀ b ∈ fp, H' b = none) -> ∀ b ∈ fp, FpOk Y [] H' b := fun hn b hb => by
    have g := f3 b hb
    refine ⟨hn b hb, ?_, ?_, .inl (by rw [eEx]; exact hb), ?_, fun p hp => absurd hp (by rw [ePn]; simp)⟩
    . rw [eE]; exact Nat.ne_of_lt (fplt b hb)
    . rw [eFs]
      intro z
      rcases List.mem_cons.mp (I3.stkSub b z) with z | z
      . exact g.2.1 z
      . exact g.2.2.1 z
    . rw [eE]
      exact fun y c e => g.2.2.2.2.1 y c (hcl1 y c e)
  have loop : ∀ s₃ : Shared, s₃ = { s2 with heap := h₁, toks := s2.toks + ([] : List (Str × Value)).length } ->
      codeAny (model X.prog X.w) X.A (.compLoop (.ListComp elt [⟨tg, iter, ifs, 0⟩] scope pos) 0 (.ref it) (.ref s2.heap.objs.size) (compEnvC scope cl g2.objs.size X.env))
        (compPost (model X.prog X.w) X.A X.xe none (EP X pins σ Q) (.ref s2.heap.objs.size) g2.objs.size) s₃ := by
    rintro s₃ rfl
    refine qD7 (T (compEnvC scope cl g2.objs.size X.env)) (hturn _ _ _) (fun n s' => ∃ i xs H' os, os.length = nn.length ∧ Inv Y [] (os ++ σ) H' s' ∧ tn i s'.heap ∧ (∀ b ∈ fp, H' b = none) ∧ W i n xs H') ?_ m0
      ⟨0, [], _, nn.map fun _ => none, by simp, J0, T'.keep 0 _ _ st2 (fun b hb o e => keep b o (by rw [← hg2]; exact Heap.get?_push_of_some _ e)), fun b hb => (f3 b hb).1, w0⟩
    rintro n s3 ⟨i, xs, H3, os, hos, I4, st3, fr3, w3⟩
    obtain ⟨hDx, hlx, alt⟩ := turn i n xs H3 w3
    rcases alt with ⟨stop, qn⟩ | ⟨go, step⟩
    . have D1 := T'.done Y eP eW eK eC i [] s3 _ H3 (fun _ _ => False) I4 (fpY fr3) st3 stop
      rw [eA] at D1
      refine thn D1 fun r s4 ⟨hr, I5⟩ => ?_
      subst hr
      obtain ⟨m4, hns4, _⟩ := id I5.loc
      rw [eE] at hns4
      refine ⟨m4, hns4, fun h' sb => ⟨.ref _, H3, ?_, rfl, qn⟩⟩
      rw [← hY] at I5
      exact qD8 I3 rfl f3 I5 sb
    . have G1 := T'.item Y eP eW eK eC i [] s3 _ H3 (fun _ _ => False) I4 (fpY fr3) st3 go
      rw [eA] at G1
      refine thn G1 fun r s4 ⟨u, hr, h4⟩ => ?_
      subst hr
      refine thn h4 fun _ s5 ⟨y, H5, I5, r5, y5, st5, fr5⟩ => ?_
      have I5' := I5.pinned (fpY fr5) (T'.obj _ _ st5)
      have S1 := eG _ s5 _ H5 y u _ I5' r5 (hloc2 y os σ H5 _ hos (step y _ y5 os hos))
      rw [eP, eW, eA, eE, eX] at S1
      refine thn S1 fun _ s6 ⟨σ6, H6, I6, ⟨os6, hos6, e6⟩, q6⟩ => ?_
      subst e6
      have S2 := eT _ s6 _ _ _ I6 q6
      rw [eP, eW, eA, eE, eX] at S2
      refine thn S2 fun ok s7 ⟨H7, I7, q7⟩ => ?_
      have back : ∀ {s9 : Shared} {H9 : Hp} {m' : Nat} {zs : List V}, Inv Y ([] ++ qx3 fp s5.heap) (os6 ++ σ) H9 s9 -> m' < n -> W (i + 1) m' zs H9 -> ∃ m, m < n ∧ ∃ i xs H' os, os.length = nn.length ∧ Inv Y [] (os ++ σ) H' s9 ∧ tn i s9.heap ∧ (∀ b ∈ fp, H' b = none) ∧ W i m xs H' := fun {s9 H9 m' zs} I9 hm' w9 => by
        have pin : ∀ b ∈ fp, ∀ ob, s5.heap.get? b = some ob -> s9.heap.get? b = some ob ∧ H9 b = none := fun b hb ob e => by
          have z := I9.pin (b, ob) (List.mem_append_right _ (List.mem_append_right _ (qh1 hb e)))
          exact ⟨z.1, z.2.1⟩
        refine ⟨m', hm', i + 1, zs, H9, os6, hos6, I9.unpinned, T'.keep _ _ _ st5 (fun b hb ob e => (pin b hb ob e).1), fun b hb => ?_, w9⟩
        obtain ⟨ob, e, _⟩ := T'.obj _ _ st5 b hb
        exact (pin b hb ob e).2
      cases ok with
      | true =>
        rw [if_pos rfl] at q7
        rw [if_pos rfl]
        have S3 := eY _ s7 _ _ _ I7 q7
        rw [eP, eW, eA, eE, eX] at S3
        refine thn S3 fun xv s8 ⟨v8, H8, I8, r8, hD8, m', hm', w8⟩ => ?_
        have S4 := qj3 (X := Y) _ s8 _ H8 (.ref s2.heap.objs.size) [v8] (.ref s2.heap.objs.size) [xv] (fun _ H9 => H9 = upd H8 s2.heap.objs.size (.lst (xs ++ [v8]))) I8 rfl (.cons r8 .nil) ⟨_, xs, v8, rfl, rfl, hD8, hlx, rfl⟩
        rw [eP, eW, eA, eX] at S4
        refine thn S4 fun _ s9 ⟨v9, H9, I9, _, e9⟩ => ?_
        subst e9
        exact back I9 hm' w8
      | false =>
        rw [if_neg Bool.false_ne_true] at q7
        rw [if_neg Bool.false_ne_true]
        obtain ⟨m', hm', w8⟩ := q7
        exact back I7 hm' w8
  exact codeAny_compStart_list (loop _ rfl) (T'.self _ 0 _ _ _ (T'.keep 0 _ _ st2 (fun b hb o e => keep b o (by rw [← hg2]; exact Heap.get?_push_of_some _ e))) (loop _ rfl))
theorem qp4 {scope sc : Scope} {N : List Str} (hNe : X.N = N) (hsc : X.env.scope = sc)
    (hcell : scope.names.all (fun y => y.2 != .cell) = true) (hnames : scope.names.all (fun y => y.2 != .local || scope.names.lookup y.1 == some .local) = true) (hloc : N.all (fun y => scope.names.lookup y != some .local) = true)
    (hfr : scope.names.all (fun p => p.2 != .free || (sc.names.lookup p.1 == some .cell || sc.names.lookup p.1 == some .free)) = true) :
    (∀ y ∈ scope.names, y.2 ≠ .cell) ∧ (∀ y ∈ scope.names, y.2 = .local -> scope.names.lookup y.1 = some .local) ∧ (∀ y ∈ X.N, scope.names.lookup y ≠ some .local) ∧ (∀ p ∈ scope.names, p.2 = .free -> Vis X.env.scope p.1 ∧ X.env.scope.names.lookup p.1 ≠ some .local) := by
  refine ⟨fun y hy => ?_, fun y hy hl => ?_, fun y hy => ?_, fun p hp hk => ?_⟩
  . have := List.all_eq_true.mp hcell y hy
    simpa using this
  . have := List.all_eq_true.mp hnames y hy
    simpa [hl] using this
  . have := List.all_eq_true.mp hloc y (by rw [← hNe]; exact hy)
    simpa using this
  . have := List.all_eq_true.mp hfr p hp
    rw [hk] at this
    have z : sc.names.lookup p.1 = some .cell ∨ sc.names.lookup p.1 = some .free := by simpa using this
    rw [hsc]
    refine ⟨.inr z, fun q => ?_⟩
    rcases z with z | z <;> (rw [z] at q; cases q)
theorem loc1 {y : V} {os σ : St} {H : Hp} {R : St -> Hp -> Prop} (ho : os.length = 1) (h : qe7 0 y (os ++ σ) H R) : qe7 0 y (os ++ σ) H fun σ' H' => (∃ os' : St, os'.length = 1 ∧ σ' = os' ++ σ) ∧ R σ' H' := by
  match os, ho with
  | [o], _ => exact ⟨⟨[some y], rfl, rfl⟩, h⟩
theorem loc2 {K : PySem.W.Frag} {y : V} {os σ : St} {H : Hp} {R : St -> Hp -> Prop} (ho : os.length = 2) (h : gTup K 2 (qg5 (qe7 0) (qg5 (qe7 1) gNil)) y (os ++ σ) H R) :
    gTup K 2 (qg5 (qe7 0) (qg5 (qe7 1) gNil)) y (os ++ σ) H fun σ' H' => (∃ os' : St, os'.length = 2 ∧ σ' = os' ++ σ) ∧ R σ' H' := by
  match os, ho with
  | [o1, o2], _ =>
    obtain ⟨a, xs, e1, e2, e3, v, r, e4, v2, r2, e5, e6, q⟩ := h
    exact ⟨a, xs, e1, e2, e3, v, r, e4, v2, r2, e5, e6, ⟨[some v, some v2], rfl, rfl⟩, q⟩
theorem qp5 {x : Str} {px pos : Pos} {elt iter c : Expr} {scope : Scope} {wi : TI} {tt : TT} {te : TE} (N : List Str) (sc : Scope) (hNe : X.N = N) (hsc : X.env.scope = sc) (hc : X.calm = true) (hN : X.N.Nodup) (hi : PI X (.Name x px) iter wi)
    (ht : ∀ cl C fp s₀ H₀, PT (qc1 X scope cl C [x] fp s₀ H₀) c tt) (he : ∀ cl C fp s₀ H₀, PE (qc1 X scope cl C [x] fp s₀ H₀) elt te)
    (hkind : scope.kind = .function := by rfl) (hcell : scope.names.all (fun y => y.2 != .cell) = true := by decide +kernel) (hnames : scope.names.all (fun y => y.2 != .local || scope.names.lookup y.1 == some .local) = true := by decide +kernel)
    (hx : scope.names.lookup x = some .local := by rfl) (hloc : N.all (fun y => scope.names.lookup y != some .local) = true := by decide +kernel)
    (hfr : scope.names.all (fun p => p.2 != .free || (sc.names.lookup p.1 == some .cell || sc.names.lookup p.1 == some .free)) = true := by decide +kernel)
    (hs : ∀ x, foldedSetIterable iter X.env x = pure x := by intro _; rfl) : PE X (.ListComp elt [⟨.Name x px, iter, [c], 0⟩] scope pos) (qy1 1 wi (qe7 0) tt te) := by
  obtain ⟨s1, s2, s3, s4⟩ := qp4 hNe hsc hcell hnames hloc hfr
  refine qz5 (nn := [x]) (fun env => isTrue c env (eval c env)) hc hi (fun it acc env => turn_one elt _ iter c scope pos it acc env) (fun cl C fp s₀ H₀ => ?_) (fun y os σ H R ho h => loc1 ho h) (fun cl C fp s₀ H₀ pins s σ H Q I h => ht cl C fp s₀ H₀ pins s σ H Q I h) he hkind s1 s2 s3 s4 hs
  have l : (qc1 X scope cl C [x] fp s₀ H₀).env.scope.names.lookup x = some .local := lookup_relabel_local hx
  exact qc0 (i := 0) (List.nodup_cons.mpr ⟨fun z => s3 x z hx, hN⟩) rfl (.inl l) (.inr l)
theorem gpair {x y : Str} {p1 p2 tpos : Pos} {k : Nat} {scope : Scope} {cl : List (Str × Addr)} {C : Addr} {fp : List Addr} {s₀ : Shared} {H₀ : Hp} (hc : X.calm = true) (hN : X.N.Nodup) (hxy : x ≠ y) (s3 : ∀ z ∈ X.N, scope.names.lookup z ≠ some .local) (hx : scope.names.lookup x = some .local) (hy : scope.names.lookup y = some .local) :
    PG (qc1 X scope cl C [x, y] fp s₀ H₀) (.Tuple [.Name x p1, .Name y p2] k tpos) (gTup X.K 2 (qg5 (qe7 0) (qg5 (qe7 1) gNil))) := by
  have lx : (qc1 X scope cl C [x, y] fp s₀ H₀).env.scope.names.lookup x = some .local := lookup_relabel_local hx
  have ly : (qc1 X scope cl C [x, y] fp s₀ H₀).env.scope.names.lookup y = some .local := lookup_relabel_local hy
  have nd : (qc1 X scope cl C [x, y] fp s₀ H₀).N.Nodup := List.nodup_cons.mpr ⟨fun z => by
    rcases List.mem_cons.mp z with z | z
    . exact hxy z
    . exact s3 x z hx, List.nodup_cons.mpr ⟨fun z => s3 y z hy, hN⟩⟩
  exact qr7 (X := qc1 X scope cl C [x, y] fp s₀ H₀) hc (qc2 (qc0 (i := 0) nd rfl (.inl lx) (.inr lx)) (qc2 (qc0 (i := 1) nd rfl (.inl ly) (.inr ly)) ql6))
def ttYes : TT := fun _ H Q => Q true H
theorem pe_comp2 {x y : Str} {p1 p2 tpos pos : Pos} {k : Nat} {elt iter : Expr} {scope : Scope} {wi : TI} {te : TE} (N : List Str) (sc : Scope) (hNe : X.N = N) (hsc : X.env.scope = sc) (hc : X.calm = true) (hN : X.N.Nodup) (hi : PI X (.Tuple [.Name x p1, .Name y p2] k tpos) iter wi)
    (he : ∀ cl C fp s₀ H₀, PE (qc1 X scope cl C [x, y] fp s₀ H₀) elt te) (hxy : x ≠ y := by decide)
    (hkind : scope.kind = .function := by rfl) (hcell : scope.names.all (fun y => y.2 != .cell) = true := by decide +kernel) (hnames : scope.names.all (fun y => y.2 != .local || scope.names.lookup y.1 == some .local) = true := by decide +kernel)
    (hx : scope.names.lookup x = some .local := by rfl) (hy : scope.names.lookup y = some .local := by rfl) (hloc : N.all (fun y => scope.names.lookup y != some .local) = true := by decide +kernel)
    (hfr : scope.names.all (fun p => p.2 != .free || (sc.names.lookup p.1 == some .cell || sc.names.lookup p.1 == some .free)) = true := by decide +kernel)
    (hs : ∀ x, foldedSetIterable iter X.env x = pure x := by intro _; rfl) : PE X (.ListComp elt [⟨.Tuple [.Name x p1, .Name y p2] k tpos, iter, [], 0⟩] scope pos) (qy1 2 wi (gTup X.K 2 (qg5 (qe7 0) (qg5 (qe7 1) gNil))) ttYes te) := by
  obtain ⟨s1, s2, s3, s4⟩ := qp4 hNe hsc hcell hnames hloc hfr
  exact qz5 (nn := [x, y]) (fun _ => pure true) hc hi (fun it acc env => qI9 elt _ iter scope pos it acc env) (fun cl C fp s₀ H₀ => gpair hc hN hxy s3 hx hy) (fun y os σ H R ho h => loc2 ho h) (fun cl C fp s₀ H₀ pins s σ H Q I h => wpAny_pure ⟨H, I, h⟩) he hkind s1 s2 s3 s4 hs
end
end L2
set_option Elab.async false
set_option linter.all false
set_option maxRecDepth 100000
set_option maxHeartbeats 4000000
namespace L2
open PySem PySem.Spec PyProof.Rows PySem.W
section
variable {X : Cx}
theorem qv3 (hc : X.calm = true) : CallR X (.builtin "any") (fun xs H Q => ∃ (p : Addr) (bs : List Bool), xs = [.ref p] ∧ H p = some (.lst (bs.map V.bl)) ∧ Q (.bl (bs.any id)) H) := by
  intro pins s σ H xs us Q I r h
  obtain ⟨p, bs, rfl, hp, q⟩ := h
  obtain ⟨u, rfl, rx⟩ := ql1 r
  cases rx
  obtain ⟨z, its, n, rv, hl⟩ := I.hok p _ hp
  have isl : s.heap.IsList p its.toArray := ⟨_, hl, rfl, _, rfl⟩
  have hlen : its.length = bs.length := by have := rv.length; simpa using this.symm
  have np : p ≠ s.heap.objs.size := Nat.ne_of_lt (Heap.lt_size hl)
  refine call_any_walk (wpAny_pyIter_list isl ?_)
  refine ⟨s.heap.objs.size, _, _, _, _, _, fun i => bs.getD i true, rfl, Walks.list (A := X.A.in1) (I.ok.hd hc) s.heap.objs.size p np its.toArray, ⟨⟨_, Heap.get?_push_size _ rfl, rfl, rfl⟩, isl.at fun o e => Heap.get?_push_of_some _ e⟩, ?_, ?_⟩
  . intro i v s' Q' E' hv hq
    have hv' : its[i]? = some v := by simpa using hv
    have hi : i < bs.length := by rw [← hlen]; exact (List.getElem?_eq_some_iff.mp hv').1
    obtain ⟨w', e1, e2⟩ := rv.get (x := V.bl (bs[i])) (i := i) (by simp [hi])
    rw [hv'] at e1; cases e1
    cases (show v = Value.bool bs[i] from e2)
    have eg : bs.getD i true = bs[i] := by simp [List.getD, hi]
    dsimp only at hq
    rw [eg] at hq
    exact wpAny_truthy_bool hq
  . intro h' tk k
    refine ⟨.bl (bs.any id), H, I.kept (h' := h') (t' := tk) (fun b o e => k b o (fun z => ?_) (Heap.get?_push_of_some _ e)), ?_, q⟩
    . have : b = s.heap.objs.size := by simpa using z
      exact Nat.lt_irrefl _ (by rw [this] at e; exact Heap.lt_size e)
    . have es : its.toArray.size = bs.length := by simpa using hlen
      rw [es]
      show Value.bool _ = Value.bool _
      congr 1
      rw [Bool.eq_iff_iff, List.any_eq_true, List.any_eq_true]
      constructor
      . rintro ⟨i, hi, e⟩
        have hi' := List.mem_range.mp hi
        refine ⟨bs[i], List.getElem_mem hi', ?_⟩
        simpa [List.getD, hi'] using e
      . rintro ⟨b, hb, e⟩
        obtain ⟨i, hi, e2⟩ := List.mem_iff_getElem.mp hb
        refine ⟨i, List.mem_range.mpr hi, ?_⟩
        have : bs.getD i true = bs[i] := by simp [List.getD, hi]
        rw [this, e2]
        exact e
def best (ns : List Int) : Nat -> Int
  | 0 => ns.getD 0 0
  | k + 1 => if ns.getD (k + 1) 0 > best ns k then ns.getD (k + 1) 0 else best ns k
theorem qL5 (ns : List Int) : ∀ k, ns.getD (argBest (fun i j => decide (ns.getD i 0 > ns.getD j 0)) k) 0 = best ns k ∧ argBest (fun i j => decide (ns.getD i 0 > ns.getD j 0)) k ≤ k
  | 0 => ⟨rfl, Nat.le_refl _⟩
  | k + 1 => by
    obtain ⟨h1, h2⟩ := qL5 ns k
    unfold argBest best
    rw [← h1]
    by_cases hc : ns.getD (k + 1) 0 > ns.getD (argBest (fun i j => decide (ns.getD i 0 > ns.getD j 0)) k) 0
    . rw [if_pos (decide_eq_true hc), if_pos hc]
      exact ⟨rfl, Nat.le_refl _⟩
    . rw [if_neg (by simpa using hc), if_neg hc]
      exact ⟨rfl, Nat.le_succ_of_le h2⟩
theorem call_maxL (hc : X.calm = true) : CallR X (.builtin "max") (fun xs H Q => ∃ (p : Addr) (ns : List Int), xs = [.ref p] ∧ H p = some (.lst (ns.map V.int)) ∧ ns ≠ [] ∧ Q (.int (best ns (ns.length - 1))) H) := by
  intro pins s σ H xs us Q I r h
  obtain ⟨p, ns, rfl, hp, hne, q⟩ := h
  obtain ⟨u, rfl, rx⟩ := ql1 r
  cases rx
  obtain ⟨z, its, n, rv, hl⟩ := I.hok p _ hp
  have isl : s.heap.IsList p its.toArray := ⟨_, hl, rfl, _, rfl⟩
  have hlen : its.length = ns.length := by have := rv.length; simpa using this.symm
  have np : p ≠ s.heap.objs.size := Nat.ne_of_lt (Heap.lt_size hl)
  have es : its.toArray.size = ns.length := by simpa using hlen
  have pos : 0 < ns.length := List.length_pos_iff.mpr hne
  have item : ∀ (i : Nat) (v : Value), its.toArray[i]? = some v -> ∃ t, v = .int (ns.getD i 0) t := fun i v hv => by
    have hv' : its[i]? = some v := by simpa using hv
    have hi : i < ns.length := by rw [← hlen]; exact (List.getElem?_eq_some_iff.mp hv').1
    obtain ⟨w', e1, t, e2⟩ := rv.get (x := V.int (ns[i])) (i := i) (by simp [hi])
    rw [hv'] at e1; cases e1
    exact ⟨t, by rw [e2]; simp [List.getD, hi]⟩
  refine call_max_walkS (wpAny_pyIter_list isl ?_)
  refine ⟨s.heap.objs.size, _, _, _, _, _, _, fun i j => decide (ns.getD i 0 > ns.getD j 0), rfl, (Walks.list (A := X.A.in1) (I.ok.hd hc) s.heap.objs.size p np its.toArray).toS, ⟨⟨_, Heap.get?_push_size _ rfl, rfl, rfl⟩, isl.at fun o e => Heap.get?_push_of_some _ e⟩, ?_, by rw [es]; exact pos, ?_, ?_⟩
  . intro b hb
    rw [Heap.size_push]
    rcases List.mem_cons.mp hb with rfl | hb
    . exact Nat.lt_succ_self _
    . have : b = p := by simpa using hb
      subst this
      exact Nat.lt_succ_of_lt (Heap.lt_size hl)
  . intro i j vi vj s' Q' E' hi hj hq
    obtain ⟨t, rfl⟩ := item i vi hi
    obtain ⟨t', rfl⟩ := item j vj hj
    exact gt_int hq
  . intro v s' hv mv
    rw [es] at hv
    obtain ⟨t, rfl⟩ := item _ v hv
    rw [(qL5 ns (ns.length - 1)).1]
    refine ⟨.int _, H, qC7 I mv (fun b o e hb => ?_), ⟨t, rfl⟩, q⟩
    have : b = s.heap.objs.size := by simpa using hb
    exact Nat.lt_irrefl _ (by rw [this] at e; exact Heap.lt_size e)
end
end L2
set_option Elab.async false
set_option linter.all false
set_option maxRecDepth 100000
set_option maxHeartbeats 4000000
namespace L2
open PySem PySem.Spec PyProof.Rows PySem.W
section
variable {X : Cx}
theorem kV_of {P : Program} {w : World} {k : Key} {v : Value} (h : (qd8 P w).is k v = true) : RelV (kV k) v := by
  rcases qd7 (show qH8 k v = true from h) with ⟨i, t, rfl, rfl⟩ | ⟨x, t, rfl, rfl⟩
  . exact ⟨t, rfl⟩
  . exact ⟨t, rfl⟩
theorem qz6 : ∀ {xs : List V} {us : List Value}, xs.length = us.length -> (∀ (i : Nat) x v, xs[i]? = some x -> us[i]? = some v -> RelV x v) -> Vals xs us
  | [], [], _, _ => .nil
  | [], _ :: _, h, _ => by simp at h
  | _ :: _, [], h, _ => by simp at h
  | x :: xs, u :: us, h, f => .cons (f 0 x u rfl rfl) (qz6 (by simpa using h) fun i y v hy hv => f (i + 1) y v (by simpa using hy) (by simpa using hv))
theorem qP5 (hc : X.calm = true) : CallR X (.type "list") (fun xs H Q => ∃ (d : Addr) (kvs : List (Key × V)), xs = [.ref d] ∧ H d = some (.dK kvs) ∧ ∀ l, H l = none -> Q (.ref l) (upd H l (.lst (kvs.map fun kv => kV kv.1)))) := by
  intro pins s σ H xs us Q I r h
  obtain ⟨d, kvs, rfl, hd, q⟩ := h
  obtain ⟨u, rfl, ru⟩ := ql1 r
  cases ru
  obtain ⟨z, lo, vs, rel, dd⟩ := dk_of I.hok hd
  obtain ⟨ep, hat⟩ := dd.dictAt
  have hl := rel.length
  refine kdl_call (kdl_dict (knd := qd8 X.prog X.w) (kvs := vs) (ep := ep) lo) (I.ok.hd hc) hat (by rw [← hl]; exact z) fun h' tk acc c kp ho hacc => ?_
  refine ⟨.ref s.heap.objs.size, _, I.laid (a := s.heap.objs.size) (o := .lst (kvs.map fun kv => kV kv.1)) (t' := tk) kp (Nat.le_refl _) ⟨by simpa using z, acc.toList, c, ?_, by simpa using ho⟩, rfl, q _ I.fresh⟩
  refine qz6 (by simp [hl, hacc.1]) fun i x v hx hv => ?_
  rw [List.getElem?_map] at hx
  obtain ⟨kv, hkv, rfl⟩ := Option.map_eq_some_iff.mp hx
  obtain ⟨k, y, hk, his⟩ := hacc.2 i v (by simpa using hv)
  have e1 : vs[i]? = some (k, y) := hk
  have e2 : kv.1 = k := by
    have z1 : (kvs.map (·.1))[i]? = some kv.1 := by rw [List.getElem?_map, hkv]; rfl
    have z2 : (vs.map (·.1))[i]? = some k := by rw [List.getElem?_map, e1]; rfl
    rw [rel.keys] at z1
    rw [z1] at z2
    exact Option.some.inj z2
  rw [e2]
  exact kV_of his
theorem qD9 : CallR X (.type "range") (fun xs H Q => ∃ n : Int, xs = [.int n] ∧ ∀ r, H r = none -> Q (.ref r) (upd H r (.rng 0 n))) := by
  intro pins s σ H xs us Q I r h
  obtain ⟨n, rfl, q⟩ := h
  obtain ⟨u, rfl, t, rfl⟩ := ql1 r
  exact call_range_1 ⟨.ref s.heap.objs.size, _, I.laid (a := s.heap.objs.size) (o := .rng 0 n) (fun b o e => Heap.get?_push_of_some _ e) (Nat.le_refl _) ⟨_, _, _, Heap.get?_push_size _ rfl⟩, rfl, q _ I.fresh⟩
theorem qP6 (hc : X.calm = true) : CallR X (.type "list") (fun xs H Q => ∃ (r : Addr) (n : Nat), xs = [.ref r] ∧ H r = some (.rng 0 (n : Int)) ∧ n ≤ 1000000 ∧ ∀ l, H l = none -> Q (.ref l) (upd H l (.lst ((List.range n).map fun (i : Nat) => V.int (i : Int))))) := by
  intro pins s σ H xs us Q I rv h
  obtain ⟨r, n, rfl, hr, hn, q⟩ := h
  obtain ⟨u, rfl, ru⟩ := ql1 rv
  cases ru
  obtain ⟨t, u, v, ho⟩ := I.hok r _ hr
  refine call_list_range (a := 0) (b := n) (c := 1) (n := n) (I.ok.hd hc) ho (small_one (by lia) (by lia) (by lia) (by lia)) (by rw [rangeSize_one]; split <;> lia) (by lia) fun h' tk acc c kp ho' hacc => ?_
  refine ⟨.ref s.heap.objs.size, _, I.laid (a := s.heap.objs.size) (o := .lst ((List.range n).map fun (i : Nat) => V.int (i : Int))) (t' := tk) kp (Nat.le_refl _) ⟨?_, acc.toList, c, ?_, by simpa using ho'⟩, rfl, q _ I.fresh⟩
  . rw [List.length_map, List.length_range, sizeLine_eq]
    lia
  . refine qz6 (by simp [hacc.1]) fun i x v hx hv => ?_
    rw [List.getElem?_map] at hx
    obtain ⟨j, hj, rfl⟩ := Option.map_eq_some_iff.mp hx
    have e : j = i := by
      obtain ⟨_, e⟩ := List.getElem?_eq_some_iff.mp hj
      simpa using e.symm
    subst e
    obtain ⟨t', rfl⟩ := hacc.2 j v (by simpa using hv)
    exact ⟨t', by simp⟩
end
namespace TupMul
theorem noFill : fillsNumberSlot (.type "tuple") "mul" = pure false :=
  PySem.fillsNumberSlot_seq (id := "tuple.__mul__") (r := some (.builtin "tuple.__rmul__")) F.slot_tuple_mul.lookup (by decide +kernel) F.slot_tuple_rmul.lookup (by decide +kernel)
theorem rep : seqRepeat? (.type "tuple") = pure (some (.builtin "tuple.__mul__")) := by
  unfold seqRepeat?
  rw [PySem.seqSlot_of (T := "tuple") (name := "__mul__") (id := "tuple.__mul__") F.slot_tuple_mul.lookup (by decide +kernel), PySem.seqSlot_of (T := "tuple") (name := "__rmul__") (id := "tuple.__rmul__") F.slot_tuple_rmul.lookup (by decide +kernel)]
  rfl
theorem declines (a : Int) (t : Tok) (l : Addr) (items : Array Value) (n : Nat) (dct : Option Addr) (sl : Array (Option Value)) :
    Meets (Builtin.«int.__rmul__» ⟨[.int a t, .ref l], []⟩) (fun _ R s => s.heap.get? l = some { cls := .type "tuple", dict := dct, data := .seq items n, slots := sl } ∧ R (.ok (.ret Value.notImplemented)) s) :=
  .of_wp fun prog w A R s h => by
    obtain ⟨hp, g, d, tk, os⟩ := s
    obtain ⟨hl, h⟩ := h
    wp_walk
    exact ⟨_, rfl, h⟩
theorem mul (k : Int) (t : Tok) (l : Addr) (items : Array Value) (n : Nat) (dct : Option Addr) (sl : Array (Option Value)) (h1 : 1 < k) (h2 : k ≤ 1000) (hs : items.size = 1) :
    Meets (Builtin.«tuple.__mul__» ⟨[.ref l, .int k t], []⟩) (fun _ R s => s.heap.get? l = some { cls := .type "tuple", dict := dct, data := .seq items n, slots := sl } ∧
      R (.ok (.ret (.ref s.heap.objs.size))) { s with heap := s.heap.push { cls := .type "tuple", data := .seq ((List.replicate k.toNat items).foldl (· ++ ·) #[]) } }) :=
  .of_wp fun prog w A R s h => by
    obtain ⟨hp, g, d, tk, os⟩ := s
    obtain ⟨hl, h⟩ := h
    have c1 : (decide (k < -2 ^ 63) || decide (k ≥ 2 ^ 63)) = false := by simp; lia
    have c0 : items.isEmpty = false := by
      cases he : items.isEmpty with
      | false => rfl
      | true => rw [Array.isEmpty_iff.mp he] at hs; cases hs
    have c2 : (items.isEmpty || k == 1) = false := by rw [c0]; simp; lia
    have c3 : (decide (k ≤ 0) || items.isEmpty) = false := by rw [c0]; simp; lia
    have c4 : ¬ ((items.size : Int) * k > (2 ^ 63 - 1) / 8) := by rw [hs]; lia
    have c5 : Builtin.Tuple.tupleTooMany ((items.size : Int) * k) = false := by
      rw [hs]
      show decide (((1 : Nat) : Int) * k > (sizeLine : Int)) = false
      rw [sizeLine_eq]
      exact decide_eq_false (by lia)
    wp_walk
    refine wpAny_ite_split (fun z => by rw [c1] at z; cases z) fun _ => ?_
    wp_walk
    refine wpAny_ite_split (fun z => by rw [c2] at z; cases z) fun _ => ?_
    refine wpAny_ite_split (fun z => by rw [c3] at z; cases z) fun _ => ?_
    refine wpAny_ite_split (fun z => absurd z c4) fun _ => ?_
    refine wpAny_ite_split (fun z => by rw [c5] at z; cases z) fun _ => ?_
    wp_walk
    refine wpAny_ite_split (fun z => absurd z ?_) fun _ => ?_
    . have f : ∀ (m : Nat) (acc : Array Value), (List.foldl (fun x1 x2 => x1 ++ x2) acc (List.replicate m items)).size = acc.size + m := fun m => by
        induction m with
        | zero => intro acc; rfl
        | succ m ih =>
          intro acc
          rw [List.replicate_succ, List.foldl_cons, ih, Array.size_append, hs]
          lia
      rw [f, sizeLine_eq]
      simp
      lia
    wp_walk
    exact ⟨_, rfl, h⟩
end TupMul
section
variable {X : Cx}
theorem op_repT : OpR X (binaryOp .Mult) (fun x y H Q => ∃ (l : Addr) (k : Int) (v : V), x = .ref l ∧ y = .int k ∧ H l = some (.tup [v]) ∧ 1 < k ∧ k ≤ 1000 ∧ ∀ p, H p = none -> Q (.ref p) (upd H p (.tup (List.replicate k.toNat v)))) := by
  intro pins s σ H x y v u Q I rx ry h
  obtain ⟨l, k, v1, rfl, rfl, hH, h1, h2, q⟩ := h
  cases rx
  obtain ⟨t, rfl⟩ := ry
  obtain ⟨_, its, r, o, ho, hc, ⟨n, hdn⟩, hd⟩ := I.hok l _ hH
  obtain ⟨oc, od, odt, osl⟩ := o
  replace hc : oc = .type "tuple" := hc
  replace hd : odt = .seq its.toArray n := hd
  subst hc hd
  cases r with
  | cons r1 rr =>
    cases rr
    rename_i u1
    have hnew : List.foldl (fun x1 x2 => x1 ++ x2) #[] (List.replicate k.toNat #[u1]) = (List.replicate k.toNat u1).toArray := by
      have f : ∀ (m : Nat) (acc : List Value), List.foldl (fun x1 x2 => x1 ++ x2) acc.toArray (List.replicate m #[u1]) = (acc ++ List.replicate m u1).toArray := fun m => by
        induction m with
        | zero => intro acc; simp
        | succ m ih =>
          intro acc
          rw [List.replicate_succ, List.foldl_cons, show acc.toArray ++ #[u1] = (acc ++ [u1]).toArray by simp, ih]
          simp [List.replicate_succ]
      have := f k.toNat []
      simpa using this
    refine wpAny_binaryOp_repeat_ref (T := "tuple") (U := "int") (by decide) ⟨_, ho, rfl⟩ (fun s' => typeIs_int s' k t) TupMul.noFill F.fills_int_mul F.slot_int_rmul TupMul.rep F.slot_int_index.lookup
      (call_meets F.slot_int_rmul (typeIs_int s k t) F.entry_int_rmul (F.args_int_rmul_2 _ _) (TupMul.declines k t l _ n od osl)
        ⟨ho, rfl, ⟨_, ho, rfl⟩, call_meets F.slot_tuple_mul ⟨_, ho, rfl⟩ F.entry_tuple_mul (F.args_tuple_mul_2 _ _) (TupMul.mul k t l _ n od osl h1 h2 rfl) ⟨ho, ?_⟩⟩)
    rw [hnew]
    refine ⟨.ref _, _, I.laid (a := s.heap.objs.size) (o := .tup (List.replicate k.toNat v1)) (t' := s.toks) (fun b o e => Heap.get?_push_of_some _ e) (Nat.le_refl _) ⟨?_, List.replicate k.toNat u1, ?_, _, Heap.get?_push_size _ rfl, rfl, ⟨_, rfl⟩, rfl⟩, rfl, q _ I.fresh⟩
    . rw [List.length_replicate, sizeLine_eq]; lia
    . generalize k.toNat = m
      induction m with
      | zero => exact .nil
      | succ m ih => exact .cons r1 ih
end
end L2
set_option Elab.async false
set_option linter.all false
set_option maxRecDepth 100000
set_option maxHeartbeats 4000000
namespace L2
open PySem PySem.Spec PyProof.Rows
section
variable {X : Cx}
theorem ps_compG {i0 : Nat} {x0 : Str} {px0 spos : Pos} {nn : List Str} {tg : Expr} {ifs : List Expr} {pos : Pos} {elt iter : Expr} {scope : Scope} {wi : TI} {g : TG} {tt : TT} {te : TE} (T : Env -> Sem Bool) (hc : X.calm = true) (hi : PI X tg iter wi)
    (hturn : ∀ it acc env, compTurn (.ListComp elt [⟨tg, iter, ifs, 0⟩] scope pos) 0 it acc env = (standAt iter.pos >>= fun _ => pyNext it >>= fun r => match r with
      | none => pure (.done .next)
      | some v => letOwnedTupleGo tg it v >>= fun _ => assign tg env v >>= fun _ => T env >>= fun ok => (if ok = true then (eval elt env >>= fun x => call (.builtin "list.append") [acc, x] >>= fun _ => pure ()) else pure ()) >>= fun _ =>
          again (.compLoop (.ListComp elt [⟨tg, iter, ifs, 0⟩] scope pos) 0 it acc env)))
    (hgt : ∀ cl C fp s₀ H₀, PG (qc1 X scope cl C nn fp s₀ H₀) tg g)
    (hloc2 : ∀ y (os σ : St) H R, os.length = nn.length -> g y (os ++ σ) H R -> g y (os ++ σ) H fun σ' H' => (∃ os' : St, os'.length = nn.length ∧ σ' = os' ++ σ) ∧ R σ' H')
    (htt : ∀ cl C fp s₀ H₀ (pins : List (Addr × Obj)) (s : Shared) (σ : St) (H : Hp) (Q : Bool -> Hp -> Prop), Inv (qc1 X scope cl C nn fp s₀ H₀) pins σ H s -> tt σ H Q -> wpAny (model X.prog X.w) X.A (T (compEnvC scope cl C X.env)) (TP (qc1 X scope cl C nn fp s₀ H₀) pins σ Q) (fun _ _ => False) s)
    (he : ∀ cl C fp s₀ H₀, PE (qc1 X scope cl C nn fp s₀ H₀) elt te)
    (hkind : scope.kind = .function) (hcell : ∀ y ∈ scope.names, y.2 ≠ .cell) (hnames : ∀ y ∈ scope.names, y.2 = .local -> scope.names.lookup y.1 = some .local)
    (hloc : ∀ y ∈ X.N, scope.names.lookup y ≠ some .local) (hfr : ∀ p ∈ scope.names, p.2 = .free -> Vis X.env.scope p.1 ∧ X.env.scope.names.lookup p.1 ≠ some .local)
    (hs : ∀ x, foldedSetIterable iter X.env x = pure x) (hN0 : X.N.Nodup) (hi0 : X.N[i0]? = some x0) (hx0 : X.env.scope.names.lookup x0 = some .local) (hsw : swapsWith (.ListComp elt [⟨tg, iter, ifs, 0⟩] scope pos) (some (.Name x0 px0)) spos.line X.env = pure true) :
    PS X (.Assign [.Name x0 px0] (.ListComp elt [⟨tg, iter, ifs, 0⟩] scope pos) spos) (tAsg (qy1 nn.length wi g tt te) (qe7 i0)) := by
  intro pins s σ H EE I h
  rw [exec_Assign_Name_used _ _ _ _ hsw]
  refine wpAny_bind (wpAny_standAt (wpAny_bind ?_))
  show wpAny _ X.A (do let _ ← comprehension (.ListComp elt [⟨tg, iter, ifs, 0⟩] scope pos) scope X.env _ (newList []) false (eval iter X.env) (some (assign (.Name x0 px0) X.env))) _ _ s
  obtain ⟨cl, hclos, hcl1, hcl2⟩ := qh6 (scope := scope) (env := X.env) (fun p hp hk => by
    obtain ⟨hv, hn⟩ := hfr p hp hk
    refine I.ok.has p.1 ?_
    rcases hv with z | z
    . exact absurd z hn
    . exact z)
  refine wpAny_bind (wpAny_mono (wpAny_comprehension_free (use := some (assign (.Name x0 px0) X.env)) (Q := fun _ s' => SP X pins EE .next s') rfl hs hclos hkind hnames (thn (hi pins s σ H _ I h) fun v s1 h1 => thn h1 fun itv s2 h2 => ?_)) (fun _ s' hq => wpAny_pure (wpAny_pure hq)) fun _ _ e => e)
  obtain ⟨it, fp, tn, J, H2, rfl, I2, T', st2, f2, q⟩ := h2
  have hD : H2 s2.heap.objs.size = none := I2.hok.fresh (Nat.le_refl _)
  obtain ⟨W, ⟨m0, w0⟩, turn⟩ := q _ hD
  refine wpAny_newObj_type (wpAny_newFunctionEnv hcell (by intro y hy; simp at hy) (fun h₁ hns₁ hsb₁ => ?_) hkind)
  dsimp only at hns₁ hsb₁ ⊢
  have I3 : Inv X pins σ (upd H2 s2.heap.objs.size (.lst [])) { s2 with heap := s2.heap.push { cls := .type "list", dict := none, data := .seq ([] : List Value).toArray } } :=
    I2.laid (t' := s2.toks) (fun b u e => Heap.get?_push_of_some _ e) (Nat.le_refl _) ⟨Nat.zero_le _, [], 0, .nil, Heap.get?_push_size _ rfl⟩
  have fpn : ∀ b ∈ fp, b ≠ s2.heap.objs.size := fun b hb => by
    obtain ⟨o, e, _⟩ := T'.obj 0 s2.heap st2 b hb
    exact Nat.ne_of_lt (Heap.lt_size e)
  have fplt : ∀ b ∈ fp, b < (s2.heap.push { cls := .type "list", dict := none, data := .seq ([] : List Value).toArray }).objs.size := fun b hb => by
    obtain ⟨o, e, _⟩ := T'.obj 0 s2.heap st2 b hb
    rw [Heap.size_push]; exact Nat.lt_succ_of_lt (Heap.lt_size e)
  have f3 : ∀ b ∈ fp, FpOk X pins (upd H2 s2.heap.objs.size (.lst [])) b := fun b hb => ⟨by rw [qa6 (fpn b hb)]; exact (f2 b hb).1, (f2 b hb).2⟩
  generalize hg2 : s2.heap.push { cls := .type "list", dict := none, data := .seq ([] : List Value).toArray } = g2 at hns₁ hsb₁ I3 fplt ⊢
  have keep : ∀ b o, g2.get? b = some o -> h₁.get? b = some o := fun b o e => (hsb₁.2 b (Nat.ne_of_lt (Heap.lt_size e))).trans (Heap.get?_push_of_some _ e)
  have J0 := qv2 (nn := nn) (tk := s2.toks + ([] : List (Str × Value)).length) I3 (C := g2.objs.size) rfl keep hns₁ f3 fplt hkind hcell hloc hcl1 hcl2 hfr
  generalize hY : qc1 X scope cl g2.objs.size nn fp { s2 with heap := g2 } (upd H2 s2.heap.objs.size (.lst [])) = Y at J0
  have eY : PE Y elt te := by rw [← hY]; exact he _ _ _ _ _
  have eG : PG Y tg g := by rw [← hY]; exact hgt _ _ _ _ _
  have eT : ∀ (pins : List (Addr × Obj)) (s : Shared) (σ : St) (H : Hp) (Q : Bool -> Hp -> Prop), Inv Y pins σ H s -> tt σ H Q -> wpAny (model Y.prog Y.w) Y.A (T Y.env) (TP Y pins σ Q) Y.xe s := by rw [← hY]; exact htt _ _ _ _ _
  have eP : Y.prog = X.prog := by rw [← hY]; rfl
  have eW : Y.w = X.w := by rw [← hY]; rfl
  have eK : Y.K = X.K := by rw [← hY]; rfl
  have eA : Y.A = X.A := by rw [← hY]; rfl
  have eC : Y.calm = true := by rw [← hY]; exact hc
  have eE : Y.env = compEnvC scope cl g2.objs.size X.env := by rw [← hY]; rfl
  have eX : Y.xe = fun _ _ => False := by rw [← hY]; rfl
  have eN : Y.N = nn ++ X.N := by rw [← hY]; rfl
  have eEx : Y.ex = fp := by rw [← hY]; rfl
  have eFs : Y.fs = frs X.stack := by rw [← hY]; rfl
  have ePn : Y.pn = [] := by rw [← hY]; rfl
  have fpY : ∀ {H' : Hp}, (∀ b ∈ fp, H' b = none) -> ∀ b ∈ fp, FpOk Y [] H' b := fun hn b hb => by
    have g := f3 b hb
    refine ⟨hn b hb, ?_, ?_, .inl (by rw [eEx]; exact hb), ?_, fun p hp => absurd hp (by rw [ePn]; simp)⟩
    . rw [eE]; exact Nat.ne_of_lt (fplt b hb)
    . rw [eFs]
      intro z
      rcases List.mem_cons.mp (I3.stkSub b z) with z | z
      . exact g.2.1 z
      . exact g.2.2.1 z
    . rw [eE]
      exact fun y c e => g.2.2.2.2.1 y c (hcl1 y c e)
  have loop : ∀ s₃ : Shared, s₃ = { s2 with heap := h₁, toks := s2.toks + ([] : List (Str × Value)).length } ->
      codeAny (model X.prog X.w) X.A (.compLoop (.ListComp elt [⟨tg, iter, ifs, 0⟩] scope pos) 0 (.ref it) (.ref s2.heap.objs.size) (compEnvC scope cl g2.objs.size X.env))
        (compPost (model X.prog X.w) X.A X.xe (some (assign (.Name x0 px0) X.env)) (fun _ s' => SP X pins EE .next s') (.ref s2.heap.objs.size) g2.objs.size) s₃ := by
    rintro s₃ rfl
    refine qD7 (T (compEnvC scope cl g2.objs.size X.env)) (hturn _ _ _) (fun n s' => ∃ i xs H' os, os.length = nn.length ∧ Inv Y [] (os ++ σ) H' s' ∧ tn i s'.heap ∧ (∀ b ∈ fp, H' b = none) ∧ W i n xs H') ?_ m0
      ⟨0, [], _, nn.map fun _ => none, by simp, J0, T'.keep 0 _ _ st2 (fun b hb o e => keep b o (by rw [← hg2]; exact Heap.get?_push_of_some _ e)), fun b hb => (f3 b hb).1, w0⟩
    rintro n s3 ⟨i, xs, H3, os, hos, I4, st3, fr3, w3⟩
    obtain ⟨hDx, hlx, alt⟩ := turn i n xs H3 w3
    rcases alt with ⟨stop, qn⟩ | ⟨go, step⟩
    . have D1 := T'.done Y eP eW eK eC i [] s3 _ H3 (fun _ _ => False) I4 (fpY fr3) st3 stop
      rw [eA] at D1
      refine thn D1 fun r s4 ⟨hr, I5⟩ => ?_
      subst hr
      obtain ⟨m4, hns4, _⟩ := id I5.loc
      rw [eE] at hns4
      have hC0 : H3 g2.objs.size = none := by
        have := I5.free
        rw [eE] at this
        exact this
      have fC : FpOk X pins H3 g2.objs.size := I3.fpOk (Nat.le_refl _) hC0
      rw [← hY] at I5
      have IX : Inv X pins σ H3 s4 := qD8 I3 rfl f3 I5 (Heap.SameBut.refl _ _)
      have hns4 : s4.heap.Ns g2.objs.size m4 := hns4
      obtain ⟨oC, esC, epC, hoC, rC⟩ := id hns4
      have IP := IX.pinned (fp := [g2.objs.size]) (fun b hb => by
        have : b = g2.objs.size := by simpa using hb
        subst this
        exact fC) (fun b hb => by
        have : b = g2.objs.size := by simpa using hb
        subst this
        exact ⟨oC, hoC, fun v z => by rw [rC.1] at z; cases z⟩)
      show wpAny _ X.A (assign (.Name x0 px0) X.env (.ref s2.heap.objs.size)) _ _ s4
      refine wpAny_assign_Name (qo7 (v := .ref s2.heap.objs.size) IP hN0 hi0 (.inl hx0) rfl (fun s5 I6 => ?_) (.inr hx0))
      have pC := I6.pin (g2.objs.size, oC) (List.mem_append_right _ (List.mem_append_right _ (qh1 (by simp) hoC)))
      refine ⟨m4, hns4.at' (fun o e => by rw [hoC] at e; cases e; exact pC.1), fun h' sb => ⟨_, H3, ?_, qn⟩⟩
      exact I6.unpinned.turned (t' := s5.toks) (fun b o hb e => (sb.2 b hb).trans e) fC.1 fC.2.1 fC.2.2.2.1 fC.2.2.2.2.1 fC.2.2.2.2.2
    . have G1 := T'.item Y eP eW eK eC i [] s3 _ H3 (fun _ _ => False) I4 (fpY fr3) st3 go
      rw [eA] at G1
      refine thn G1 fun r s4 ⟨u, hr, h4⟩ => ?_
      subst hr
      refine thn h4 fun _ s5 ⟨y, H5, I5, r5, y5, st5, fr5⟩ => ?_
      have I5' := I5.pinned (fpY fr5) (T'.obj _ _ st5)
      have S1 := eG _ s5 _ H5 y u _ I5' r5 (hloc2 y os σ H5 _ hos (step y _ y5 os hos))
      rw [eP, eW, eA, eE, eX] at S1
      refine thn S1 fun _ s6 ⟨σ6, H6, I6, ⟨os6, hos6, e6⟩, q6⟩ => ?_
      subst e6
      have S2 := eT _ s6 _ _ _ I6 q6
      rw [eP, eW, eA, eE, eX] at S2
      refine thn S2 fun ok s7 ⟨H7, I7, q7⟩ => ?_
      have back : ∀ {s9 : Shared} {H9 : Hp} {m' : Nat} {zs : List V}, Inv Y ([] ++ qx3 fp s5.heap) (os6 ++ σ) H9 s9 -> m' < n -> W (i + 1) m' zs H9 -> ∃ m, m < n ∧ ∃ i xs H' os, os.length = nn.length ∧ Inv Y [] (os ++ σ) H' s9 ∧ tn i s9.heap ∧ (∀ b ∈ fp, H' b = none) ∧ W i m xs H' := fun {s9 H9 m' zs} I9 hm' w9 => by
        have pin : ∀ b ∈ fp, ∀ ob, s5.heap.get? b = some ob -> s9.heap.get? b = some ob ∧ H9 b = none := fun b hb ob e => by
          have z := I9.pin (b, ob) (List.mem_append_right _ (List.mem_append_right _ (qh1 hb e)))
          exact ⟨z.1, z.2.1⟩
        refine ⟨m', hm', i + 1, zs, H9, os6, hos6, I9.unpinned, T'.keep _ _ _ st5 (fun b hb ob e => (pin b hb ob e).1), fun b hb => ?_, w9⟩
        obtain ⟨ob, e, _⟩ := T'.obj _ _ st5 b hb
        exact (pin b hb ob e).2
      cases ok with
      | true =>
        rw [if_pos rfl] at q7
        rw [if_pos rfl]
        have S3 := eY _ s7 _ _ _ I7 q7
        rw [eP, eW, eA, eE, eX] at S3
        refine thn S3 fun xv s8 ⟨v8, H8, I8, r8, hD8, m', hm', w8⟩ => ?_
        have S4 := qj3 (X := Y) _ s8 _ H8 (.ref s2.heap.objs.size) [v8] (.ref s2.heap.objs.size) [xv] (fun _ H9 => H9 = upd H8 s2.heap.objs.size (.lst (xs ++ [v8]))) I8 rfl (.cons r8 .nil) ⟨_, xs, v8, rfl, rfl, hD8, hlx, rfl⟩
        rw [eP, eW, eA, eX] at S4
        refine thn S4 fun _ s9 ⟨v9, H9, I9, _, e9⟩ => ?_
        subst e9
        exact back I9 hm' w8
      | false =>
        rw [if_neg Bool.false_ne_true] at q7
        rw [if_neg Bool.false_ne_true]
        obtain ⟨m', hm', w8⟩ := q7
        exact back I7 hm' w8
  exact codeAny_compStart_list (loop _ rfl) (T'.self _ 0 _ _ _ (T'.keep 0 _ _ st2 (fun b hb o e => keep b o (by rw [← hg2]; exact Heap.get?_push_of_some _ e))) (loop _ rfl))
theorem ps_setC {i0 : Nat} {x0 : Str} {px0 spos : Pos} {x : Str} {px pos : Pos} {elt iter : Expr} {scope : Scope} {wi : TI} {te : TE} (N : List Str) (sc : Scope) (hNe : X.N = N) (hsc : X.env.scope = sc) (hc : X.calm = true) (hN : X.N.Nodup) (hi0 : X.N[i0]? = some x0) (hx0 : X.env.scope.names.lookup x0 = some .local) (hi : PI X (.Name x px) iter wi)
    (he : ∀ cl C fp s₀ H₀, PE (qc1 X scope cl C [x] fp s₀ H₀) elt te)
    (hkind : scope.kind = .function := by rfl) (hcell : scope.names.all (fun y => y.2 != .cell) = true := by decide +kernel) (hnames : scope.names.all (fun y => y.2 != .local || scope.names.lookup y.1 == some .local) = true := by decide +kernel)
    (hx : scope.names.lookup x = some .local := by rfl) (hloc : N.all (fun y => scope.names.lookup y != some .local) = true := by decide +kernel)
    (hfr : scope.names.all (fun p => p.2 != .free || (sc.names.lookup p.1 == some .cell || sc.names.lookup p.1 == some .free)) = true := by decide +kernel)
    (hs : ∀ x, foldedSetIterable iter X.env x = pure x := by intro _; rfl) (hsw : swapsWith (.ListComp elt [⟨.Name x px, iter, [], 0⟩] scope pos) (some (.Name x0 px0)) spos.line X.env = pure true := by rfl) :
    PS X (.Assign [.Name x0 px0] (.ListComp elt [⟨.Name x px, iter, [], 0⟩] scope pos) spos) (tAsg (qy1 1 wi (qe7 0) ttYes te) (qe7 i0)) := by
  obtain ⟨s1, s2, s3, s4⟩ := qp4 hNe hsc hcell hnames hloc hfr
  refine ps_compG (nn := [x]) (fun _ => pure true) hc hi (fun it acc env => qI9 elt _ iter scope pos it acc env) (fun cl C fp s₀ H₀ => ?_) (fun y os σ H R ho h => loc1 ho h) (fun cl C fp s₀ H₀ pins s σ H Q I h => wpAny_pure ⟨H, I, h⟩) he hkind s1 s2 s3 s4 hs hN hi0 hx0 hsw
  have l : (qc1 X scope cl C [x] fp s₀ H₀).env.scope.names.lookup x = some .local := lookup_relabel_local hx
  exact qc0 (i := 0) (List.nodup_cons.mpr ⟨fun z => s3 x z hx, hN⟩) rfl (.inl l) (.inr l)
end
end L2
set_option Elab.async false
set_option linter.all false
set_option maxRecDepth 100000
set_option maxHeartbeats 4000000
namespace Qf
abbrev Row := List Nat
def mx : List Nat -> Nat
  | [] => 0
  | a :: l => max a (mx l)
theorem qP7 {x : Nat} : ∀ {l : List Nat}, x ∈ l -> x ≤ mx l
  | a :: l, h => by
    rcases List.mem_cons.mp h with rfl | h
    . exact Nat.le_max_left _ _
    . exact Nat.le_trans (qP7 h) (Nat.le_max_right _ _)
theorem mx_le {b : Nat} : ∀ {l : List Nat}, (∀ x ∈ l, x ≤ b) -> mx l ≤ b
  | [], _ => Nat.zero_le _
  | a :: l, h => Nat.max_le.mpr ⟨h a List.mem_cons_self, mx_le fun x hx => h x (List.mem_cons_of_mem _ hx)⟩
theorem qL6 {f g : Nat -> Nat} {l : List Nat} (h : ∀ x ∈ l, f x = g x) : mx (l.map f) = mx (l.map g) := by
  rw [List.map_congr_left h]
def RowOk (p : Nat) (r : Row) : Prop := r.length = 4 ∧ ∀ x ∈ r, x < p + 2
def qc5 (rows : List Row) : Prop := ∀ p r, rows[p]? = some r -> RowOk p r
def depStep (ds : List Nat) (r : Row) : List Nat := ds ++ [1 + mx (r.map (ds.getD · 0))]
def deps (rows : List Row) : List Nat := rows.foldl depStep [0, 0]
def dp (rows : List Row) (x : Nat) : Nat := (deps rows).getD x 0
theorem qp6 (rows : List Row) (r : Row) : deps (rows ++ [r]) = deps rows ++ [1 + mx (r.map (dp rows))] := by
  unfold deps dp deps
  rw [List.foldl_append]
  rfl
theorem qL7 {P : List Row -> Prop} (h0 : P []) (h1 : ∀ l a, P l -> P (l ++ [a])) (l : List Row) : P l := by
  have : ∀ m : List Row, P m.reverse := fun m => by
    induction m with
    | nil => exact h0
    | cons a m ih => rw [List.reverse_cons]; exact h1 _ _ ih
  have h := this l.reverse
  rwa [List.reverse_reverse] at h
theorem qp7 (rows : List Row) : (deps rows).length = rows.length + 2 := by
  induction rows using qL7 with
  | h0 => rfl
  | h1 l a ih => rw [qp6, List.length_append, ih, List.length_append]; simp
theorem qP8 {rows : List Row} {r : Row} {x : Nat} (h : x < rows.length + 2) : dp (rows ++ [r]) x = dp rows x := by
  unfold dp
  rw [qp6, List.getD_eq_getElem?_getD, List.getD_eq_getElem?_getD, List.getElem?_append_left (by rw [qp7]; exact h)]
theorem qP9 {rows : List Row} {r : Row} : dp (rows ++ [r]) (rows.length + 2) = 1 + mx (r.map (dp rows)) := by
  unfold dp
  rw [qp6, List.getD_eq_getElem?_getD, List.getElem?_append_right (by rw [qp7]; exact Nat.le_refl _), qp7]
  simp only [Nat.sub_self, List.getElem?_cons_zero, Option.getD_some]
  rfl
theorem qm0 {rows more : List Row} {x : Nat} (h : x < rows.length + 2) : dp (rows ++ more) x = dp rows x := by
  induction more using qL7 with
  | h0 => simp
  | h1 l a ih =>
    rw [← List.append_assoc, qP8 (by simp; lia), ih]
theorem qL8 {rows : List Row} {x : Nat} (h : x < 2) : dp rows x = 0 := by
  have := qm0 (rows := []) (more := rows) (x := x) (by simpa using h)
  rw [List.nil_append] at this
  rw [this]
  match x, h with
  | 0, _ => rfl
  | 1, _ => rfl
theorem take_next {rows : List Row} {p : Nat} {r : Row} (hp : rows[p]? = some r) : rows = rows.take p ++ [r] ++ rows.drop (p + 1) := by
  have hlt := (List.getElem?_eq_some_iff.mp hp).1
  have he := (List.getElem?_eq_some_iff.mp hp).2
  rw [← he, List.take_append_getElem hlt, List.take_append_drop]
theorem qx0 {rows : List Row} (ok : qc5 rows) {p : Nat} {r : Row} (hp : rows[p]? = some r) : dp rows (p + 2) = 1 + mx (r.map (dp rows)) := by
  have hlt := (List.getElem?_eq_some_iff.mp hp).1
  have hl : (rows.take p).length = p := by simp; lia
  have e := take_next hp
  have h1 : dp rows (p + 2) = dp (rows.take p ++ [r]) (p + 2) := by
    have := qm0 (rows := rows.take p ++ [r]) (more := rows.drop (p + 1)) (x := p + 2) (by simp; lia)
    rw [← e] at this
    exact this
  have h2 := qP9 (rows := rows.take p) (r := r)
  rw [hl] at h2
  rw [h1, h2]
  congr 1
  refine qL6 fun x hx => ?_
  have hx2 := (ok p r hp).2 x hx
  have := qm0 (rows := rows.take p) (more := [r] ++ rows.drop (p + 1)) (x := x) (by rw [hl]; exact hx2)
  rw [← List.append_assoc, ← e] at this
  exact this.symm
def dfs (rows : List Row) : Nat -> List Nat -> Nat -> List Nat
  | 0, e, _ => e
  | d + 1, e, x => if x < 2 ∨ x - 2 ∈ e then e else (rows.getD (x - 2) []).foldl (dfs rows d) e ++ [x - 2]
theorem qp8 {f : List Nat -> Nat -> List Nat} (h : ∀ e x, ∃ s, f e x = e ++ s) : ∀ (l : List Nat) (e : List Nat), ∃ s, l.foldl f e = e ++ s
  | [], e => ⟨[], by simp⟩
  | a :: l, e => by
    obtain ⟨s, hs⟩ := h e a
    obtain ⟨s', hs'⟩ := qp8 h l (f e a)
    exact ⟨s ++ s', by rw [List.foldl_cons, hs', hs, List.append_assoc]⟩
theorem qz7 (rows : List Row) : ∀ (d : Nat) (e : List Nat) (x : Nat), ∃ s, dfs rows d e x = e ++ s
  | 0, e, x => ⟨[], by simp [dfs]⟩
  | d + 1, e, x => by
    unfold dfs
    split
    . exact ⟨[], by simp⟩
    . obtain ⟨s, hs⟩ := qp8 (qz7 rows d) (rows.getD (x - 2) []) e
      exact ⟨s ++ [x - 2], by rw [hs, List.append_assoc]⟩
structure Post (rows : List Row) (e : List Nat) : Prop where
  nd : e.Nodup
  lt : ∀ p ∈ e, p < rows.length
  ch : ∀ (i p : Nat), e[i]? = some p -> ∀ q ∈ rows.getD p [], q < 2 ∨ ∃ j : Nat, j < i ∧ e[j]? = some (q - 2)
theorem qi5 (rows : List Row) : Post rows [] := ⟨List.nodup_nil, fun p hp => (nomatch hp), fun i p h => by simp at h⟩
theorem mem_pre {e s : List Nat} {j a : Nat} (h : e[j]? = some a) : (e ++ s)[j]? = some a := by
  have := (List.getElem?_eq_some_iff.mp h).1
  rw [List.getElem?_append_left this]; exact h
theorem qf5 {rows : List Row} (ok : qc5 rows) : ∀ (d : Nat) (e : List Nat) (x : Nat), Post rows e -> x < rows.length + 2 -> dp rows x ≤ d -> Post rows (dfs rows d e x) ∧ (x < 2 ∨ x - 2 ∈ dfs rows d e x)
  | 0, e, x, pe, hx, hd => by
    refine ⟨pe, ?_⟩
    by_cases h : x < 2
    . exact .inl h
    . exfalso
      obtain ⟨p, rfl⟩ : ∃ p, x = p + 2 := ⟨x - 2, by lia⟩
      have hp : rows[p]? = some (rows[p]'(by lia)) := by simp [show p < rows.length by lia]
      rw [qx0 ok hp] at hd
      lia
  | d + 1, e, x, pe, hx, hd => by
    unfold dfs
    split
    . rename_i h
      exact ⟨pe, h⟩
    . rename_i h
      obtain ⟨h1, h2⟩ := not_or.mp h
      obtain ⟨p, rfl⟩ : ∃ p, x = p + 2 := ⟨x - 2, by lia⟩
      rw [Nat.add_sub_cancel] at h2 ⊢
      have hlt : p < rows.length := by lia
      have hp : rows[p]? = some rows[p] := by simp [hlt]
      have eg : rows.getD p [] = rows[p] := by simp [List.getD, hlt]
      rw [eg]
      have hdp := qx0 ok hp
      have rk := ok p _ hp
      have key : ∀ (l : List Nat) (e0 : List Nat), (∀ q ∈ l, q < p + 2 ∧ dp rows q ≤ d) -> Post rows e0 -> Post rows (l.foldl (dfs rows d) e0) ∧ (∀ q ∈ l, q < 2 ∨ q - 2 ∈ l.foldl (dfs rows d) e0) ∧ (∀ a ∈ l.foldl (dfs rows d) e0, a ∈ e0 ∨ a < p) := fun l => by
        induction l with
        | nil => exact fun e0 _ pe0 => ⟨pe0, fun q hq => (nomatch hq), fun a ha => .inl ha⟩
        | cons q l ih =>
          intro e0 hl pe0
          obtain ⟨hq1, hq2⟩ := hl q List.mem_cons_self
          obtain ⟨p1, m1⟩ := qf5 ok d e0 q pe0 (by lia) hq2
          obtain ⟨p2, m2, n2⟩ := ih (dfs rows d e0 q) (fun q' hq' => hl q' (List.mem_cons_of_mem _ hq')) p1
          obtain ⟨s, hs⟩ := qp8 (qz7 rows d) l (dfs rows d e0 q)
          refine ⟨p2, fun q' hq' => ?_, fun a ha => ?_⟩
          . rcases List.mem_cons.mp hq' with rfl | hq'
            . rcases m1 with z | z
              . exact .inl z
              . rw [List.foldl_cons, hs]; exact .inr (List.mem_append_left _ z)
            . exact m2 q' hq'
          . rcases n2 a ha with z | z
            ·
              have below : ∀ (d0 : Nat) (e1 : List Nat) (y : Nat), y < rows.length + 2 -> ∀ a ∈ dfs rows d0 e1 y, a ∈ e1 ∨ a + 2 ≤ y := fun d0 => by
                induction d0 with
                | zero => exact fun e1 y _ a ha => .inl ha
                | succ d0 ihd =>
                  intro e1 y hy a ha
                  unfold dfs at ha
                  split at ha
                  . exact .inl ha
                  . rename_i hh
                    obtain ⟨hh1, hh2⟩ := not_or.mp hh
                    rcases List.mem_append.mp ha with ha | ha
                    . have hy2 : y - 2 < rows.length := by lia
                      have eg2 : rows.getD (y - 2) [] = rows[y - 2] := by simp [List.getD, hy2]
                      rw [eg2] at ha
                      have rk2 := ok (y - 2) rows[y - 2] (by simp [hy2])
                      have kk : ∀ (l2 : List Nat) (e2 : List Nat), (∀ q ∈ l2, q < y - 2 + 2) -> ∀ a ∈ l2.foldl (dfs rows d0) e2, a ∈ e2 ∨ a + 2 ≤ y := fun l2 => by
                        induction l2 with
                        | nil => exact fun e2 _ a ha => .inl ha
                        | cons q2 l2 ih2 =>
                          intro e2 hl2 a ha
                          rcases ih2 _ (fun q' hq' => hl2 q' (List.mem_cons_of_mem _ hq')) a ha with z | z
                          . have hq2 := hl2 q2 List.mem_cons_self
                            rcases ihd e2 q2 (by lia) a z with z | z
                            . exact .inl z
                            . exact .inr (by lia)
                          . exact .inr z
                      exact kk _ _ rk2.2 a ha
                    . have : a = y - 2 := by simpa using ha
                      exact .inr (by lia)
              rcases below d e0 q (by lia) a z with z | z
              . exact .inl z
              . exact .inr (by lia)
            . exact .inr z
      obtain ⟨k1, k2, k3⟩ := key rows[p] e (fun q hq => ⟨rk.2 q hq, by
        have : dp rows q ≤ mx (rows[p].map (dp rows)) := qP7 (List.mem_map.mpr ⟨q, hq, rfl⟩)
        lia⟩) pe
      refine ⟨⟨?_, ?_, ?_⟩, .inr (List.mem_append_right _ (by simp))⟩
      . rw [List.nodup_append]
        refine ⟨k1.nd, by simp, fun a ha b hb => ?_⟩
        have : b = p := by simpa using hb
        subst this
        intro z
        subst z
        rcases k3 a ha with z | z
        . exact h2 z
        . exact Nat.lt_irrefl _ z
      . intro a ha
        rcases List.mem_append.mp ha with ha | ha
        . exact k1.lt a ha
        . have : a = p := by simpa using ha
          lia
      . intro i a hi q hq
        by_cases hlen : i < (rows[p].foldl (dfs rows d) e).length
        . rw [List.getElem?_append_left hlen] at hi
          rcases k1.ch i a hi q hq with z | ⟨j, hj, ej⟩
          . exact .inl z
          . exact .inr ⟨j, hj, mem_pre ej⟩
        . rw [List.getElem?_append_right (by lia)] at hi
          have hi0 : i - (rows[p].foldl (dfs rows d) e).length = 0 := by
            have := (List.getElem?_eq_some_iff.mp hi).1
            simp at this
            lia
          rw [hi0] at hi
          have : a = p := by simpa using hi.symm
          subst this
          rw [eg] at hq
          rcases k2 q hq with z | z
          . exact .inl z
          . obtain ⟨j, hj, ej⟩ := List.mem_iff_getElem.mp z
            exact .inr ⟨j, by lia, mem_pre (by simp [hj, ej])⟩
theorem nd_iff {α : Type} {l : List α} : l.Nodup ↔ ∀ i j : Nat, i < j -> j < l.length -> l[i]? ≠ l[j]? := by
  unfold List.Nodup
  rw [List.pairwise_iff_getElem]
  constructor
  . intro h i j hij hj z
    rw [List.getElem?_eq_getElem (by lia), List.getElem?_eq_getElem hj] at z
    exact h i j (by lia) hj hij (Option.some.inj z)
  . intro h i j hi hj hij z
    refine h i j hij hj ?_
    rw [List.getElem?_eq_getElem hi, List.getElem?_eq_getElem hj, z]
def nm (E : List Nat) (q : Nat) : Nat := if q < 2 then q else E.idxOf (q - 2) + 2
theorem qi6 {E : List Nat} {q : Nat} (h : q < 2) : nm E q = q := if_pos h
theorem qg0 {E : List Nat} {q : Nat} (h : ¬ q < 2) : nm E q = E.idxOf (q - 2) + 2 := if_neg h
def InE (E : List Nat) (q : Nat) : Prop := q < 2 ∨ q - 2 ∈ E
theorem idx_at {E : List Nat} (nd : E.Nodup) {i a : Nat} (h : E[i]? = some a) : E.idxOf a = i := by
  obtain ⟨hl, he⟩ := List.getElem?_eq_some_iff.mp h
  rw [← he]
  exact nd.idxOf_getElem _ _
theorem qy2 {E : List Nat} {a : Nat} (h : a ∈ E) : E[E.idxOf a]? = some a := by
  have hl := List.idxOf_lt_length_of_mem h
  rw [List.getElem?_eq_getElem hl]
  congr 1
  exact List.getElem_idxOf hl
theorem nm_inj {E : List Nat} {q r : Nat} (hq : InE E q) (hr : InE E r) (h : nm E q = nm E r) : q = r := by
  by_cases h1 : q < 2
  . rw [qi6 h1] at h
    by_cases h2 : r < 2
    . rwa [qi6 h2] at h
    . rw [qg0 h2] at h; lia
  . rw [qg0 h1] at h
    by_cases h2 : r < 2
    . rw [qi6 h2] at h; lia
    . rw [qg0 h2] at h
      have a := qy2 (hq.resolve_left h1)
      have b := qy2 (hr.resolve_left h2)
      have e : E.idxOf (q - 2) = E.idxOf (r - 2) := by lia
      rw [e, b] at a
      have := Option.some.inj a
      lia
def told (rows : List Row) (E : List Nat) : List Row := E.map fun p => (rows.getD p []).map (nm E)
theorem qf6 (rows : List Row) (E : List Nat) : (told rows E).length = E.length := by simp [told]
theorem qo2 {rows : List Row} {E : List Nat} {i p : Nat} (h : E[i]? = some p) : (told rows E)[i]? = some ((rows.getD p []).map (nm E)) := by
  unfold told
  rw [List.getElem?_map, h]; rfl
theorem qE0 {rows : List Row} {E : List Nat} (pe : Post rows E) {i p : Nat} (h : E[i]? = some p) {q : Nat} (hq : q ∈ rows.getD p []) : InE E q ∧ nm E q < i + 2 := by
  rcases pe.ch i p h q hq with z | ⟨j, hj, ej⟩
  . exact ⟨.inl z, by rw [qi6 z]; lia⟩
  . have hm : q - 2 ∈ E := List.mem_of_getElem? ej
    refine ⟨.inr hm, ?_⟩
    by_cases z : q < 2
    . rw [qi6 z]; lia
    . rw [qg0 z, idx_at pe.nd ej]; lia
theorem qh7 {rows : List Row} {p : Nat} (h : p < rows.length) : rows[p]? = some (rows.getD p []) := by
  simp [List.getD, h]
theorem qJ0 {rows : List Row} (ok : qc5 rows) {E : List Nat} (pe : Post rows E) : qc5 (told rows E) := by
  intro i r hi
  have hl : i < E.length := by
    have := (List.getElem?_eq_some_iff.mp hi).1
    rwa [qf6] at this
  have he : E[i]? = some E[i] := List.getElem?_eq_getElem hl
  rw [qo2 he] at hi
  have hr := Option.some.inj hi
  subst hr
  have hp := pe.lt _ (List.getElem_mem hl)
  refine ⟨?_, fun x hx => ?_⟩
  . rw [List.length_map]; exact (ok _ _ (qh7 hp)).1
  . obtain ⟨q, hq, rfl⟩ := List.mem_map.mp hx
    exact (qE0 pe he hq).2
theorem qQ0 {rows : List Row} {E : List Nat} (pe : Post rows E) (nd : rows.Nodup) : (told rows E).Nodup := by
  rw [nd_iff]
  intro i j hij hj
  rw [qf6] at hj
  have hi : i < E.length := by lia
  have ei : E[i]? = some E[i] := List.getElem?_eq_getElem hi
  have ej : E[j]? = some E[j] := List.getElem?_eq_getElem hj
  rw [qo2 ei, qo2 ej]
  intro z
  have z := Option.some.inj z
  have key : ∀ l m : List Nat, (∀ q ∈ l, InE E q) -> (∀ q ∈ m, InE E q) -> l.map (nm E) = m.map (nm E) -> l = m := fun l => by
    induction l with
    | nil => intro m _ _ h; cases m with
      | nil => rfl
      | cons b m => simp at h
    | cons a l ih => intro m h1 h2 h; cases m with
      | nil => simp at h
      | cons b m =>
        rw [List.map_cons, List.map_cons] at h
        injection h with h3 h4
        rw [nm_inj (h1 a List.mem_cons_self) (h2 b List.mem_cons_self) h3, ih m (fun q hq => h1 q (List.mem_cons_of_mem _ hq)) (fun q hq => h2 q (List.mem_cons_of_mem _ hq)) h4]
  have e := key _ _ (fun q hq => (qE0 pe ei hq).1) (fun q hq => (qE0 pe ej hq).1) z
  have pi := pe.lt _ (List.getElem_mem hi)
  have pj := pe.lt _ (List.getElem_mem hj)
  have gi := qh7 pi
  have gj := qh7 pj
  rw [e, ← gj] at gi
  have : E[i] = E[j] := by
    by_cases hne : E[i] = E[j]
    . exact hne
    . exfalso
      rcases Nat.lt_or_gt_of_ne hne with w | w
      . exact (nd_iff.mp nd) _ _ w pj gi
      . exact (nd_iff.mp nd) _ _ w pi gi.symm
  have := (nd_iff.mp pe.nd) i j hij hj
  rw [ei, ej] at this
  exact this (by rw [‹E[i] = E[j]›])
def qp9 (r : Row) : Prop := r = [0, 0, 0, 0] ∨ r = [1, 1, 1, 1]
instance (r : Row) : Decidable (qp9 r) := by unfold qp9; infer_instance
theorem qJ1 {f : Nat -> Nat} {c : Nat} (h : ∀ q, f q = c -> q = c) : ∀ {l : List Nat} {k : Nat}, l.map f = List.replicate k c -> l = List.replicate k c
  | [], 0, _ => rfl
  | [], k + 1, z => by simp [List.replicate] at z
  | a :: l, 0, z => by simp at z
  | a :: l, k + 1, z => by
    rw [List.map_cons, List.replicate_succ] at z
    injection z with z1 z2
    rw [h a z1, qJ1 h z2, List.replicate_succ]
theorem qL9 {E : List Nat} {c : Nat} (hc : c < 2) (q : Nat) (h : nm E q = c) : q = c := by
  by_cases z : q < 2
  . rwa [qi6 z] at h
  . rw [qg0 z] at h; lia
theorem qE1 {rows : List Row} {E : List Nat} (pe : Post rows E) (np : ∀ r ∈ rows, ¬ qp9 r) : ∀ r ∈ told rows E, ¬ qp9 r := by
  intro r hr
  obtain ⟨p, hp, rfl⟩ := List.mem_map.mp hr
  have hm : rows.getD p [] ∈ rows := List.mem_of_getElem? (qh7 (pe.lt p hp))
  intro z
  rcases z with z | z
  . exact np _ hm (.inl (qJ1 (k := 4) (qL9 (by decide)) z))
  . exact np _ hm (.inr (qJ1 (k := 4) (qL9 (by decide)) z))
theorem told_dp {rows : List Row} (ok : qc5 rows) {E : List Nat} (pe : Post rows E) : ∀ q, InE E q -> dp (told rows E) (nm E q) = dp rows q := by
  intro q
  induction q using Nat.strongRecOn with
  | ind q ih =>
    intro hq
    by_cases z : q < 2
    . rw [qi6 z, qL8 z, qL8 z]
    . have hm := hq.resolve_left z
      have hp := pe.lt _ hm
      have ea := qy2 hm
      rw [qg0 z, qx0 (qJ0 ok pe) (qo2 ea)]
      have e2 : dp rows q = 1 + mx ((rows.getD (q - 2) []).map (dp rows)) := by
        have := qx0 ok (qh7 hp)
        rwa [show q - 2 + 2 = q by lia] at this
      rw [e2, List.map_map]
      congr 1
      refine qL6 fun x hx => ?_
      have hx2 := (ok _ _ (qh7 hp)).2 x hx
      exact ih x (by lia) (qE0 pe ea hx).1
theorem qM0 {rows : List Row} (ok : qc5 rows) {E : List Nat} (pe : Post rows E) : ∀ (d : Nat) (e : List Nat) (y : Nat), dfs rows d e y <+: E -> dfs (told rows E) d (List.range e.length) (nm E y) = List.range (dfs rows d e y).length
  | 0, e, y, _ => rfl
  | d + 1, e, y, pf => by
    have pe1 : e <+: E := by
      obtain ⟨s, hs⟩ := qz7 rows (d + 1) e y
      rw [hs] at pf
      exact List.IsPrefix.trans (List.prefix_append _ _) pf
    have memi : ∀ {a : Nat}, a ∈ E -> (a ∈ e ↔ E.idxOf a < e.length) := fun {a} ha => by
      obtain ⟨s, hs⟩ := pe1
      constructor
      . intro hm
        rw [← hs, List.idxOf_append, if_pos hm]
        exact List.idxOf_lt_length_of_mem hm
      . intro hl
        have := qy2 ha
        rw [← hs, List.getElem?_append_left (by rw [hs]; exact hl)] at this
        exact List.mem_of_getElem? this
    unfold dfs at pf ⊢
    by_cases h : y < 2 ∨ y - 2 ∈ e
    . rw [if_pos h, if_pos]
      rcases h with h | h
      . exact .inl (by rw [qi6 h]; exact h)
      . by_cases z : y < 2
        . exact .inl (by rw [qi6 z]; exact z)
        . right
          rw [qg0 z, Nat.add_sub_cancel, List.mem_range]
          exact (memi (pe1.subset h)).mp h
    . rw [if_neg h] at pf ⊢
      obtain ⟨h1, h2⟩ := not_or.mp h
      have hE : y - 2 ∈ E := pf.subset (by simp)
      rw [qg0 h1, Nat.add_sub_cancel]
      have hnot : ¬ (E.idxOf (y - 2) + 2 < 2 ∨ E.idxOf (y - 2) ∈ List.range e.length) := by
        rw [List.mem_range]
        rintro (z | z)
        . lia
        . exact h2 ((memi hE).mpr z)
      rw [if_neg hnot]
      have et : (told rows E).getD (E.idxOf (y - 2)) [] = (rows.getD (y - 2) []).map (nm E) := by
        have := qo2 (rows := rows) (qy2 hE)
        rw [List.getD_eq_getElem?_getD, this]; rfl
      rw [et]
      have key : ∀ (l : List Nat) (e0 : List Nat), l.foldl (dfs rows d) e0 <+: E -> (l.map (nm E)).foldl (dfs (told rows E) d) (List.range e0.length) = List.range (l.foldl (dfs rows d) e0).length := fun l => by
        induction l with
        | nil => exact fun e0 _ => rfl
        | cons q l ih =>
          intro e0 pf0
          rw [List.map_cons, List.foldl_cons, List.foldl_cons]
          have : dfs rows d e0 q <+: E := by
            obtain ⟨s, hs⟩ := qp8 (qz7 rows d) l (dfs rows d e0 q)
            rw [List.foldl_cons, hs] at pf0
            exact List.IsPrefix.trans (List.prefix_append _ _) pf0
          rw [qM0 ok pe d e0 q this]
          exact ih _ pf0
      have pf2 : (rows.getD (y - 2) []).foldl (dfs rows d) e <+: E := List.IsPrefix.trans (List.prefix_append _ _) pf
      rw [key _ e pf2, List.length_append]
      have : E.idxOf (y - 2) = ((rows.getD (y - 2) []).foldl (dfs rows d) e).length := by
        refine idx_at pe.nd ?_
        obtain ⟨s, hs⟩ := pf
        rw [← hs, List.append_assoc, List.getElem?_append_right (Nat.le_refl _), Nat.sub_self]
        rfl
      rw [this]
      exact List.range_succ.symm
structure Canon (n top : Nat) (rows : List Row) : Prop where
  size : n ≤ 12
  rok : qc5 rows
  inn : top < rows.length + 2
  deep : dp rows top ≤ n
  unplain : ∀ r ∈ rows, ¬ qp9 r
  unlike : rows.Nodup
  ends : dfs rows n [] top = List.range rows.length
theorem qQ1 {n x : Nat} {rows : List Row} (hn : n ≤ 12) (ok : qc5 rows) (hx : x < rows.length + 2) (hd : dp rows x ≤ n) (np : ∀ r ∈ rows, ¬ qp9 r) (nd : rows.Nodup) :
    Canon n (nm (dfs rows n [] x) x) (told rows (dfs rows n [] x)) := by
  obtain ⟨pe, hm⟩ := qf5 ok n [] x (qi5 rows) hx hd
  refine ⟨hn, qJ0 ok pe, ?_, ?_, qE1 pe np, qQ0 pe nd, ?_⟩
  . rw [qf6]
    by_cases z : x < 2
    . rw [qi6 z]; lia
    . rw [qg0 z]
      have := List.idxOf_lt_length_of_mem (hm.resolve_left z)
      lia
  . rw [told_dp ok pe x hm]; exact hd
  . rw [qf6]
    exact qM0 ok pe n [] x (List.prefix_refl _)
def ex (q : Nat) : Nat := if q < 2 then 1 - q else q
def mgK (K : List Row) (look : Row) : List Row := if look ∈ K then K else K ++ [look]
def mgStep (s : List Nat × List Row) (r : Row) : List Nat × List Row := (s.1 ++ [s.2.idxOf (r.map (s.1.getD · 0))], mgK s.2 (r.map (s.1.getD · 0)))
def mg (rows : List Row) : List Nat × List Row := rows.foldl mgStep ([0, 1], [[0, 0, 0, 0], [1, 1, 1, 1]])
structure MgOk (rows : List Row) (s : List Nat × List Row) : Prop where
  len : s.1.length = rows.length + 2
  two : 2 ≤ s.2.length
  fst : s.2.take 2 = [[0, 0, 0, 0], [1, 1, 1, 1]]
  nd : s.2.Nodup
  lt : ∀ x ∈ s.1, x < s.2.length
  ok : qc5 (s.2.drop 2)
  dp : ∀ x, dp (s.2.drop 2) (s.1.getD x 0) ≤ dp rows x
end Qf
set_option Elab.async false
set_option linter.all false
set_option maxRecDepth 100000
set_option maxHeartbeats 4000000
namespace Pr
open PySem L2
abbrev qy3 : Stmt := top 10
abbrev qy4 : Stmt := top 11
abbrev sDeps : Stmt := top 12
abbrev sEnd : Stmt := top 13
abbrev qv4 : Stmt := top 14
abbrev qE2 : Stmt := top 15
abbrev qs5 : Stmt := top 16
abbrev qz8 : Stmt := qj7 (top 17) 0
abbrev qM1 : Stmt := qj7 (top 17) 1
abbrev sSize : Stmt := top 20
abbrev qv5 : Stmt := top 22
abbrev sRow : Stmt := top 23
abbrev sRows : Stmt := top 24
abbrev qs6 : Stmt := top 25
abbrev qE3 : Stmt := top 26
abbrev qE4 : Stmt := top 27
abbrev qz9 : Stmt := top 29
abbrev qJ2 : Stmt := qj7 (top 30) 0
abbrev qM2 : Stmt := qj7 (top 30) 1
abbrev qv6 : Stmt := top 31
abbrev lPot : Stmt := top 33
abbrev qv7 : Stmt := top 34
abbrev qE5 : Stmt := top 35
abbrev lBox : Stmt := top 36
abbrev qE6 : Stmt := top 37
abbrev qE7 : Stmt := top 38
abbrev lHas : Stmt := top 39
abbrev qk1 : Stmt := top 40
abbrev qE8 : Stmt := top 41
abbrev lLess : Stmt := top 42
abbrev qm1 : Stmt := top 43
abbrev qA0 : Stmt := top 44
abbrev qm7 : Stmt := top 45
abbrev qq0 : Stmt := top 46
abbrev lLaw : Stmt := top 47
end Pr
set_option Elab.async false
set_option linter.all false
set_option maxRecDepth 100000
set_option maxHeartbeats 4000000
namespace L2
open PySem
theorem qc3 {H : Hp} {a b : Addr} {o u : HO} (e : H a = some o) (hn : H b = none) : upd H b u a = some o := by rw [qa6 (qa2 e hn)]; exact e
theorem qb7 {H : Hp} {a : Addr} {o : HO} (h : H a = none) : Same H (upd H a o) := fun b u e => qc3 e h
def Tups (H H' : Hp) : Prop := ∀ b u, H b = some (.tup u) -> H' b = some (.tup u)
theorem Same.tups {H H' : Hp} (s : Same H H') : Tups H H' := fun b u e => s b _ e
theorem Tups.trans {H H1 H2 : Hp} (a : Tups H H1) (b : Tups H1 H2) : Tups H H2 := fun c u e => b c u (a c u e)
structure Goes (J : It) (H : Hp) (n : Nat) (item : Nat -> V -> Hp -> Prop) : Prop where
  go : ∀ i H2, i < n -> Same H H2 -> J.go i H2
  yl : ∀ i H2 y H3, i < n -> Same H H2 -> J.yld i H2 y H3 -> Same H2 H3 ∧ item i y H3
  st : ∀ H2, Same H H2 -> J.stop n H2
theorem qs7 {K : PySem.W.Frag} {H : Hp} {a : Addr} {xs : List V} (ha : H a = some (.tup xs)) : Goes (Itt K a) H xs.length (fun i y _ => xs[i]? = some y) where
  go := fun i H2 hi s => ⟨xs, xs[i], SqT.of (s _ _ ha), by simp [hi]⟩
  yl := fun i H2 y H3 hi s h => by
    obtain ⟨e, h⟩ := h
    subst e
    exact ⟨Same.refl _, h xs (SqT.of (s _ _ ha))⟩
  st := fun H2 s => ⟨xs, SqT.of (s _ _ ha), Nat.le_refl _⟩
theorem qm8 {K : PySem.W.Frag} {H : Hp} {a : Addr} {xs : List V} (ha : H a = some (.lst xs)) : Goes (Itl K a) H xs.length (fun i y _ => xs[i]? = some y) where
  go := fun i H2 hi s => ⟨xs, xs[i], SqL.of (s _ _ ha), by simp [hi]⟩
  yl := fun i H2 y H3 hi s h => by
    obtain ⟨e, h⟩ := h
    subst e
    exact ⟨Same.refl _, h xs (SqL.of (s _ _ ha))⟩
  st := fun H2 s => ⟨xs, SqL.of (s _ _ ha), Nat.le_refl _⟩
theorem goes_enum {K : PySem.W.Frag} {H : Hp} {a : Addr} {xs : List V} (ha : H a = some (.tup xs)) : Goes (Ite K a) H xs.length (fun i y H3 => ∃ p x, y = .ref p ∧ xs[i]? = some x ∧ H3 p = some (.tup [.int i, x])) where
  go := fun i H2 hi s => ⟨xs, xs[i], SqT.of (s _ _ ha), by simp [hi]⟩
  yl := fun i H2 y H3 hi s h => by
    obtain ⟨p, x, hp, hx, rfl, rfl⟩ := h
    exact ⟨qb7 hp, p, x, rfl, hx xs (SqT.of (s _ _ ha)), qa1⟩
  st := fun H2 s => ⟨xs, SqT.of (s _ _ ha), Nat.le_refl _⟩
theorem qg4 {J : It} {H : Hp} {n : Nat} {item : Nat -> V -> Hp -> Prop} {te : TE} {σ : St} {Fin : Hp -> Prop} {D : Addr} (hD : H D = none) (Rel : Nat -> V -> Hp -> Prop) (G : Goes J H n item) (hsz : n < sizeLine)
    (mono : ∀ i y H1 H2, i < n -> Tups H1 H2 -> Rel i y H1 -> Rel i y H2)
    (step : ∀ i x H2, i < n -> item i x H2 -> Same H H2 -> ∀ Q' : VK, (∀ y H3, Same H2 H3 -> Rel i y H3 -> Q' y H3) -> te (some x :: σ) H2 Q')
    (fin : ∀ ys H2, Same H H2 -> H2 D = some (.lst ys) -> ys.length = n -> (∀ i y, ys[i]? = some y -> Rel i y H2) -> Fin H2) :
    ∃ W : Nat -> Nat -> List V -> Hp -> Prop, (∃ m, W 0 m [] (upd H D (.lst []))) ∧
      ∀ i m xs H2, W i m xs H2 -> H2 D = some (.lst xs) ∧ xs.length < sizeLine ∧ ((J.stop i H2 ∧ Fin H2) ∨ (J.go i H2 ∧ ∀ y H3, J.yld i H2 y H3 ->
        te (some y :: σ) H3 fun v H4 => H4 D = some (.lst xs) ∧ ∃ m', m' < m ∧ W (i + 1) m' (xs ++ [v]) (upd H4 D (.lst (xs ++ [v]))))) := by
  refine ⟨fun i m ys H2 => i ≤ n ∧ m = n - i ∧ ys.length = i ∧ H2 D = some (.lst ys) ∧ Same H H2 ∧ ∀ j y, ys[j]? = some y -> Rel j y H2, ⟨n, Nat.zero_le _, rfl, rfl, qa1, qb7 hD, fun j y h => by simp at h⟩, ?_⟩
  rintro i m ys H2 ⟨hi, rfl, hl, hd, s2, rel⟩
  refine ⟨hd, by lia, ?_⟩
  by_cases he : i = n
  . subst he
    exact .inl ⟨G.st H2 s2, fin ys H2 s2 hd hl rel⟩
  . refine .inr ⟨G.go i H2 (by lia) s2, fun y H3 hy => ?_⟩
    obtain ⟨s3, it⟩ := G.yl i H2 y H3 (by lia) s2 hy
    refine step i y H3 (by lia) it (s2.trans s3) _ fun v H4 s4 r4 => ?_
    have hd4 := s4 _ _ (s3 _ _ hd)
    refine ⟨hd4, n - (i + 1), by lia, by lia, rfl, by rw [List.length_append, hl]; rfl, qa1, ?_, ?_⟩
    . intro b o e
      rw [qa6 (qa2 e hD)]
      exact s4 _ _ (s3 _ _ (s2 _ _ e))
    . have tk : Tups H4 (upd H4 D (.lst (ys ++ [v]))) := fun b u e => by
        have : b ≠ D := fun z => by subst z; rw [hd4] at e; cases e
        rw [qa6 this]; exact e
      intro j z hz
      by_cases hj : j < i
      . rw [List.getElem?_append_left (by lia)] at hz
        exact mono j z H4 _ (by lia) tk (mono j z H2 H4 (by lia) (s3.trans s4).tups (rel j z hz))
      . rw [List.getElem?_append_right (by lia)] at hz
        have : j - ys.length = 0 := by
          have := (List.getElem?_eq_some_iff.mp hz).1
          simp at this
          lia
        rw [this] at hz
        have : z = v := by simpa using hz.symm
        subst this
        have : j = i := by lia
        subst this
        exact mono _ _ H4 _ (by lia) tk r4
theorem qq9 {J : It} {H : Hp} {n k : Nat} {item : Nat -> V -> Hp -> Prop} {g : TG} {tt : TT} {te : TE} {σ : St} {Fin : Hp -> Prop} {D : Addr} (hD : H D = none) (yes : Nat -> Bool) (val : Nat -> V) (G : Goes J H n item) (hsz : n < sizeLine)
    (step : ∀ i x H2, i < n -> item i x H2 -> Same H H2 -> ∀ os : St, os.length = k -> ∀ (Q1 : Hp -> Prop) (Q2 : VK), (yes i = false -> ∀ H3, Same H2 H3 -> Q1 H3) -> (yes i = true -> ∀ H3, Same H2 H3 -> Q2 (val i) H3) ->
      g x (os ++ σ) H2 fun σ4 H4 => tt σ4 H4 fun b H5 => if b = true then te σ4 H5 Q2 else Q1 H5)
    (fin : ∀ H2, Same H H2 -> H2 D = some (.lst (((List.range n).filter yes).map val)) -> Fin H2) :
    ∃ W : Nat -> Nat -> List V -> Hp -> Prop, (∃ m, W 0 m [] (upd H D (.lst []))) ∧
      ∀ i m xs H2, W i m xs H2 -> H2 D = some (.lst xs) ∧ xs.length < sizeLine ∧ ((J.stop i H2 ∧ Fin H2) ∨ (J.go i H2 ∧ ∀ y H3, J.yld i H2 y H3 -> ∀ os : St, os.length = k ->
        g y (os ++ σ) H3 fun σ4 H4 => tt σ4 H4 fun b H5 => if b = true then te σ4 H5 fun v H6 => H6 D = some (.lst xs) ∧ ∃ m', m' < m ∧ W (i + 1) m' (xs ++ [v]) (upd H6 D (.lst (xs ++ [v]))) else ∃ m', m' < m ∧ W (i + 1) m' xs H5)) := by
  refine ⟨fun i m ys H2 => i ≤ n ∧ m = n - i ∧ ys = ((List.range i).filter yes).map val ∧ H2 D = some (.lst ys) ∧ Same H H2, ⟨n, Nat.zero_le _, rfl, rfl, qa1, qb7 hD⟩, ?_⟩
  rintro i m ys H2 ⟨hi, rfl, hl, hd, s2⟩
  have hlen : ys.length ≤ i := by
    rw [hl, List.length_map]
    exact Nat.le_trans (List.length_filter_le _ _) (by simp)
  refine ⟨hd, by lia, ?_⟩
  by_cases he : i = n
  . subst he
    exact .inl ⟨G.st H2 s2, fin H2 s2 (hl ▸ hd)⟩
  . refine .inr ⟨G.go i H2 (by lia) s2, fun y H3 hy os ho => ?_⟩
    obtain ⟨s3, it⟩ := G.yl i H2 y H3 (by lia) s2 hy
    refine step i y H3 (by lia) it (s2.trans s3) os ho _ _ (fun hno H4 s4 => ?_) (fun hyes H4 s4 => ?_)
    . refine ⟨n - (i + 1), by lia, by lia, rfl, ?_, s4 _ _ (s3 _ _ hd), (s2.trans s3).trans s4⟩
      rw [hl, List.range_succ, List.filter_append]
      simp [hno]
    . have hd4 := s4 _ _ (s3 _ _ hd)
      refine ⟨hd4, n - (i + 1), by lia, by lia, rfl, ?_, qa1, fun b o e => ?_⟩
      . rw [hl, List.range_succ, List.filter_append]
        simp [hyes]
      . rw [qa6 (qa2 e hD)]
        exact s4 _ _ (s3 _ _ (s2 _ _ e))
theorem ixL {X : Cx} (K : PySem.W.Frag) (h : X.K = K) : IxR X (rIxL K) := h ▸ qj9
theorem ixT {X : Cx} (K : PySem.W.Frag) (h : X.K = K) : IxR X (rIxT K) := h ▸ qf2
theorem tupO {X : Cx} (K : PySem.W.Frag) (h : X.K = K) : CallR X (.type "tuple") (fun xs H Q => ∃ p ys, xs = [.ref p] ∧ ((SqL K H p ys ∧ ∀ l, H l = none -> Q (.ref l) (upd H l (.tup ys))) ∨ (SqT K H p ys ∧ Q (.ref p) H))) := h ▸ qz0
theorem piT {X : Cx} {tg l : Expr} {tl : TE} (K : PySem.W.Frag) (h : X.K = K) (hl : PE X l tl) : PI X tg l (iTup K tl) := h ▸ qt7 hl
inductive Sts (X : Cx) : List Stmt -> TS -> Prop
  | one {st : Stmt} {t : TS} (h : PS X st t) : Sts X [st] t
  | cons {st : Stmt} {rest : List Stmt} {t u : TS} (h : PS X st t) (r : Sts X rest u) : Sts X (st :: rest) (tSeq t u)
theorem Sts.go {X : Cx} : ∀ {l : List Stmt} {t : TS}, Sts X l t -> PSs X l t
  | _, _, .one h => qb0 h
  | _, _, .cons h r => qc6 h r.go
end L2
set_option Elab.async false
set_option linter.all false
set_option maxRecDepth 100000
set_option maxHeartbeats 4000000
namespace L2
open PySem PySem.Spec PyProof.Rows
section
variable {prog : Program} {w : World} {κ : Type} [DecidableEq κ] {hk : HeapKind prog w κ} {A : Around} {E : Value -> Shared -> Prop} {s : Shared} {d a : Addr} {k : κ} {xs : List (κ × Addr × Value)}
end
section
variable {X : Cx}
end
end L2
set_option Elab.async false
set_option linter.all false
set_option maxRecDepth 100000
set_option maxHeartbeats 4000000
namespace L2
open PySem PySem.Spec PyProof.Rows
def qM3 (acc : List (List Key × V)) (more : List (List Key × Addr × V)) : List (List Key × V) := more.foldl (fun acc x => putK acc x.1 x.2.2) acc
section
variable {X : Cx}
theorem qE9 {pins : List (Addr × Obj)} {σ : St} {d : Addr} (hu : X.A.units < cLine) {E : Value -> Shared -> Prop} : ∀ (more : List (List Key × Addr × V)) (ws : List (Value × Value)) (acc : List (List Key × V)) (H : Hp) (s : Shared) (Q : PUnit -> Shared -> Prop),
    Inv X pins σ H s -> H d = some (.dT acc) -> VV (more.map fun x => (V.ref x.2.1, x.2.2)) ws -> (∀ x ∈ more, H x.2.1 = some (.tup (x.1.map kV))) -> acc.length + more.length ≤ 1000 ->
    (∀ s', Inv X pins σ (upd H d (.dT (qM3 acc more))) s' -> Q PUnit.unit s') -> wpAny (model X.prog X.w) X.A (storeAll d ws) Q E s
  | [], _, acc, H, s, Q, I, hd, rv, _, _, q => by
    rw [List.map_nil] at rv
    cases rv
    have e : upd H d (.dT (qM3 acc [])) = H := by
      funext b; unfold upd; split
      . rename_i z; rw [z, hd]; rfl
      . rfl
    rw [e] at q
    exact wpAny_pure (q s I)
  | x :: more, _, acc, H, s, Q, I, hd, rv, hk, hl, q => by
    rw [List.map_cons] at rv
    cases rv with
    | @cons a b as bs h t =>
      obtain ⟨b1, b2⟩ := b
      cases (show b1 = Value.ref x.2.1 from h.1)
      obtain ⟨z, lo, xs, rel, dd⟩ := dt_of I.hok hd
      have hxs : xs.length ≤ sizeLine := by rw [← Paired.length rel]; exact z
      have hx := hk x List.mem_cons_self
      rw [List.length_cons] at hl
      have hlp := qf9 acc x.1 x.2.2
      have hl2 : (putK acc x.1 x.2.2).length ≤ sizeLine := Nat.le_of_lt (qb8 (by lia))
      show wpAny _ _ (forIn ((Value.ref x.2.1, b2) :: bs) _ _) _ _ _
      rw [List.forIn_cons]
      refine wpAny_bind (wpAny_bind (wpAny_dictSet_heap (hsz := hxs) (knd := tupleKind (qd8 X.prog X.w)) hu (qx7 I.hok hx) dd fun h' d' sb => wpAny_pure ?_))
      obtain ⟨q0, es, ep, hq, h2, h3, h4, _, h5⟩ := d'
      have I2 : Inv X pins σ (upd H d (.dT (putK acc x.1 x.2.2))) { s with heap := h', toks := s.toks + (tupleKind (qd8 X.prog X.w)).draws x.1 } := by
        refine qz2 I (by rw [hd]; exact True.intro) sb ⟨q0, hq⟩ ⟨hl2, lo, _, (rel.put x.1 hx h.2).keeps fun c ys ec => ?_, q0, es, ep, hq, h2, h3, h4, h5⟩
        rw [qa6 (ne_of ec hd (fun z => nomatch z))]
        exact ec
      refine qE9 hu more bs _ _ _ Q I2 qa1 t (fun y hy => ?_) (by lia) fun s' I3 => q s' ?_
      . have := hk y (List.mem_cons_of_mem _ hy)
        rw [qa6 (ne_of this hd (fun z => nomatch z))]
        exact this
      . rw [upd_upd] at I3
        exact I3
def tDispT (trs : List (TE × TE)) : TE := fun σ H Q => ∀ p, H p = none -> qK9 trs σ (upd H p (.dT [])) fun ps H2 => H2 p = some (.dT []) ∧ ∃ more : List (List Key × Addr × V), ps = more.map (fun x => (V.ref x.2.1, x.2.2)) ∧
  (∀ x ∈ more, H2 x.2.1 = some (.tup (x.1.map kV))) ∧ more.length ≤ 15 ∧ Q (.ref p) (upd H2 p (.dT (qM3 [] more)))
theorem pe_dispT {pos : Pos} {keys : List (Option Expr)} {values : List Expr} {trs : List (TE × TE)} (hu : X.A.units < cLine) (h : PPs X pos keys values trs) (hall : keys.all (·.isSome) = true) (hl : keys.length = values.length) (h0 : keys ≠ [])
    (h15 : keys.length ≤ 15) : PE X (.Dict keys values pos) (tDispT trs) := by
  intro pins s σ H Q I q
  have hn := I.hok.fresh (Nat.le_refl s.heap.objs.size)
  have I1 : Inv X pins σ (upd H s.heap.objs.size (.dT [])) { s with heap := s.heap.push { cls := .type "dict", data := .dict #[] }, toks := s.toks } := I.laid (fun _ _ q => Heap.get?_push_of_some _ q) (Nat.le_refl _) (qK8 s.heap I.big)
  refine wpAny_Dict_any hall hl h0 h15 (thn (h pins _ σ _ _ I1 (q _ hn)) fun ws s2 ⟨ps, H2, I2, rel, e, more, ep, hk, lk, q2⟩ => ?_)
  subst ep
  exact qE9 hu more ws [] H2 s2 _ I2 e rel hk (by rw [List.length_nil]; lia) fun s' I3 => ⟨.ref s.heap.objs.size, _, I3, rfl, q2⟩
end
end L2
set_option Elab.async false
set_option linter.all false
set_option maxRecDepth 100000
set_option maxHeartbeats 4000000
namespace L2
open PySem PySem.Spec PyProof.Rows PySem.W
def Bare (h : Heap) (d : Addr) (tab : Array DictEntry) (ep : Nat) : Prop := ∃ o, h.get? d = some o ∧ o.ExactDict ∧ o.data = .dict tab ep
theorem Bare.stay {h h' : Heap} {d : Addr} {tab : Array DictEntry} {ep : Nat} (x : Bare h d tab ep) (k : ∀ o, h.get? d = some o -> h'.get? d = some o) : Bare h' d tab ep := let ⟨o, ho, r⟩ := x; ⟨o, k o ho, r⟩
theorem Bare.ty {s : Shared} {d : Addr} {tab : Array DictEntry} {ep : Nat} (x : Bare s.heap d tab ep) : s.TypeIs (.ref d) "dict" := let ⟨o, ho, hc, _⟩ := x; ⟨o, ho, hc.1⟩
theorem Bare.lt {h : Heap} {d : Addr} {tab : Array DictEntry} {ep : Nat} (x : Bare h d tab ep) : d < h.objs.size := let ⟨_, ho, _⟩ := x; Heap.lt_size ho
section
variable {prog : Program} {w : World} {A : Around} {E : Value -> Shared -> Prop} {s : Shared} {d it : Addr} {tab : Array DictEntry} {ep i : Nat}
theorem qF0 {Q : Value -> Shared -> Prop} (lo : (d == sysModules) = false) (x : Bare s.heap d tab ep)
    (q : Q (.ref s.heap.objs.size) { s with heap := s.heap.push { cls := .type "dict_keyiterator", data := .fields #[.ref d, .int 0 0, .int tab.size 0, .int ep 0] } }) : wpAny (model prog w) A (pyIter (.ref d)) Q E s := by
  obtain ⟨o, ho, hc, hdat⟩ := id x
  refine wpAny_pyIter_slot x.ty F.slot_dict_iter (wpAny_call_entry F.slot_dict_iter x.ty F.entry_dict_iter ?_ (F.args_dict_iter_1 _))
  show wpAny _ _ (Builtin.Dict.dictSlotNone _ _ >>= _) _ _ _
  unfold Builtin.Dict.dictSlotNone; refine wpAny_bind (wpAny_bind (wpAny_notOrdered_dict x.ty (wpAny_pure ?_)))
  show wpAny _ _ (Builtin.Dict.showsAll d >>= _) _ _ s; unfold Builtin.Dict.showsAll
  rw [if_neg (by rw [lo]; decide)]; refine wpAny_bind (wpAny_pure (wpAny_bind (wpAny_dictEntries ho hdat (wpAny_bind (wpAny_dictEpoch ho hdat ?_)))))
  refine wpAny_bind (wpAny_newObj_type (wpAny_pure ⟨_, rfl, "dict_keyiterator", _, ⟨_, Heap.get?_push_size _ rfl, rfl⟩, F.slot_dict_keyiterator_next.lookup, ?_⟩)); simpa [rawInt] using q
theorem qF1 {Q : Option Value -> Shared -> Prop} (st : s.heap.IsKeyIter it d i tab.size ep) (x : Bare s.heap d tab ep) (hi : i < tab.size)
    (q : ∀ h', h'.IsKeyIter it d (i + 1) tab.size ep -> Heap.SameBut it s.heap h' -> Q (some tab[i].key) { s with heap := h' }) : wpAny (model prog w) A (pyNext (.ref it)) Q E s := by
  obtain ⟨o, ho, hc, hd⟩ := id st; obtain ⟨od, hod, hcd, hdd⟩ := id x
  unfold pyNext; refine wpAny_bind (wpAny_attempt (wpAny_callSpecial?_slot (name := Str.ofString "__next__") st.typeIs F.slot_dict_keyiterator_next (wpAny_call_entry F.slot_dict_keyiterator_next st.typeIs F.entry_dict_keyiterator_next ?_ (F.args_dict_keyiterator_next_1 _))))
  refine wpAny_bind (wpAny_pure (wpAny_bind (wpAny_bind ?_)))
  first | (refine wpAny_bind (wpAny_typeNameOfWhole_keyiter st.typeIs (wpAny_pure (wpAny_bind (wpAny_fieldsOf ho hd ?_))))) | (refine wpAny_bind (wpAny_typeNameOf_keyiter st.typeIs (wpAny_pure (wpAny_bind (wpAny_fieldsOf ho hd ?_)))))
  simp only [show Builtin.Dict_items.ownsTuple "dict_keyiterator" = false by decide, Bool.false_eq_true, if_false]
  show wpAny _ _ (if (Value.ref d == Value.none) = true then _ else _) _ _ s; rw [if_neg (show ¬ ((Value.ref d == Value.none) = true) by exact Bool.false_ne_true)]
  refine wpAny_bind (wpAny_pure (wpAny_bind (wpAny_dictEntries hod hdd ?_))); rw [if_neg (by simp)]
  refine wpAny_bind (wpAny_pure (wpAny_bind (wpAny_dictEpoch hod hdd ?_))); rw [if_neg (by simp)]; refine wpAny_pure ?_
  simp only [show ¬ ((i : Int) < 0) by lia, if_false, Int.toNat_natCast, Array.getElem?_eq_getElem hi]; refine wpAny_bind ?_
  first | (refine wpAny_bind (wpAny_typeNameOfWhole_keyiter st.typeIs (wpAny_pure (wpAny_bind (wpAny_isOneOf_keyiter st.typeIs ?_))))) | (refine wpAny_bind (wpAny_typeNameOf_keyiter st.typeIs (wpAny_pure (wpAny_bind (wpAny_isOneOf_keyiter st.typeIs ?_)))))
  show wpAny _ _ (setField (.ref it) 1 (rawInt ((i : Int) + 1)) >>= _) _ _ s; refine wpAny_bind (wpAny_setField ho hd (by simp) ?_)
  have st' : (s.heap.update it (Obj.mapFields (·.setIfInBounds 1 (rawInt ((i : Int) + 1))))).IsKeyIter it d (i + 1) tab.size ep := ⟨_, Heap.get?_update_self _ ho (Obj.isFreed_of_fields (Obj.data_mapFields hd _)), (Obj.cls_mapFields ..).trans hc, by rw [Obj.data_mapFields hd]; simp [rawInt]⟩
  refine wpAny_bind (wpAny_holding (wpAny_bind (wpAny_isOneOf_keyiter (s := { s with heap := s.heap.update it (Obj.mapFields (·.setIfInBounds 1 (rawInt ((i : Int) + 1)))) }) st'.typeIs ?_)))
  show wpAny _ _ (pure tab[i].key) _ _ _
  exact wpAny_pure (wpAny_pure ⟨_, rfl, wpAny_pure (q _ st' (Heap.SameBut.update ..))⟩)
theorem qM4 {Q : Option Value -> Shared -> Prop} (hh : A.handled = none) (st : s.heap.IsKeyIter it d tab.size tab.size ep) (x : Bare s.heap d tab ep)
    (q : ∀ h', Heap.ExtBut it s.heap h' -> Q none { s with heap := h' }) : wpAny (model prog w) A (pyNext (.ref it)) Q E s := by
  obtain ⟨o, ho, hc, hd⟩ := id st; obtain ⟨od, hod, hcd, hdd⟩ := id x
  unfold pyNext; refine wpAny_bind (wpAny_attempt (wpAny_callSpecial?_slot (name := Str.ofString "__next__") st.typeIs F.slot_dict_keyiterator_next (wpAny_call_entry F.slot_dict_keyiterator_next st.typeIs F.entry_dict_keyiterator_next ?_ (F.args_dict_keyiterator_next_1 _))))
  refine wpAny_bind (wpAny_pure (wpAny_bind (wpAny_bind ?_)))
  first | (refine wpAny_bind (wpAny_typeNameOfWhole_keyiter st.typeIs (wpAny_pure (wpAny_bind (wpAny_fieldsOf ho hd ?_))))) | (refine wpAny_bind (wpAny_typeNameOf_keyiter st.typeIs (wpAny_pure (wpAny_bind (wpAny_fieldsOf ho hd ?_)))))
  simp only [show Builtin.Dict_items.ownsTuple "dict_keyiterator" = false by decide, Bool.false_eq_true, if_false]
  show wpAny _ _ (if (Value.ref d == Value.none) = true then _ else _) _ _ s; rw [if_neg (show ¬ ((Value.ref d == Value.none) = true) by exact Bool.false_ne_true)]
  refine wpAny_bind (wpAny_pure (wpAny_bind (wpAny_dictEntries hod hdd ?_))); rw [if_neg (by simp)]
  refine wpAny_bind (wpAny_pure (wpAny_bind (wpAny_dictEpoch hod hdd ?_))); rw [if_neg (by simp)]; refine wpAny_pure ?_
  simp only [show ¬ ((tab.size : Int) < 0) by lia, if_false, Int.toNat_natCast, Array.getElem?_eq_none (Nat.le_refl tab.size)]; refine wpAny_bind ?_
  first | (refine wpAny_bind (wpAny_typeNameOfWhole_keyiter st.typeIs (wpAny_pure ?_))) | (refine wpAny_bind (wpAny_typeNameOf_keyiter st.typeIs (wpAny_pure ?_)))
  show wpAny _ _ (setField (.ref it) 0 .none >>= _) _ _ s; refine wpAny_bind (wpAny_setField ho hd (by simp) ?_)
  show wpAny _ _ (newExc (.type "StopIteration") [] >>= _) _ _ _; refine wpAny_bind ?_
  simp only [newExc, newTuple]; refine wpAny_bind (wpAny_newObj_type ?_ (by size_fits))
  refine wpAny_bind (m := firstArgMember _ _) (wpAny_of_eq (a := Value.none) (by first | rfl | (simp only [firstArgMember]; rfl)) (wpAny_newObj_type ?_ (by size_fits)))
  simp only [raiseNew]; refine wpAny_bind (wpAny_handled ?_); rw [show A.in1.handled = none by exact hh]
  refine wpAny_bind (wpAny_pure (wpAny_throw ?_)); refine wpAny_bind (wpAny_isInstance (T := "StopIteration") (b := true) ⟨_, Heap.get?_push_size _ rfl, rfl⟩ isSubtype_stop ?_)
  exact wpAny_pure (q _ (((Heap.SameBut.update ..).extBut.push _).push _))
theorem qQ2 (hh : A.handled = none) (hne : d ≠ it) : Walks prog w A it [it, d] [it] tab.size (fun i v => ∃ e, tab[i]? = some e ∧ v = e.key) (fun i h => h.IsKeyIter it d i tab.size ep ∧ Bare h d tab ep) where
  sub := fun b hb => by simp at hb; simp [hb]
  frame := fun _ _ _ st k => ⟨st.1.at fun o e => k it (by simp) o e, st.2.stay fun o e => k d (by simp) o e⟩
  item := fun i s Q E hi st q => qF1 st.1 st.2 hi fun h' st' sb => q _ h' s.toks ⟨tab[i], by simp [hi], rfl⟩ ⟨st', st.2.stay fun o e => sb.extBut d o hne e⟩ fun b o hb e => sb.extBut b o (fun h => hb (by simp [h])) e
  done := fun s Q E st q => qM4 hh st.1 st.2 fun h' eb => q h' s.toks fun b o hb e => eb b o (fun h => hb (by simp [h])) e
  self := fun _ _ _ _ st q => wpAny_pyIter_keyiter st.1 q
theorem bare_src (lo : (d == sysModules) = false) : KdlSrc prog w "dict" d d tab.size (fun i v => ∃ e, tab[i]? = some e ∧ v = e.key) (fun h => Bare h d tab ep) where
  type := fun _ x => x.ty
  there := fun _ x => ⟨x.lt, x.lt⟩
  keep := fun _ _ x k => x.stay fun o e => k d (.inl rfl) o e
  notList := by decide
  notTuple := by decide
  hint := fun _ _ _ _ x q => kdl_hint_dict x.ty q
  iter := fun _ _ hh x => ⟨_, _, (fun _ _ q => qF0 lo x q), qQ2 hh (Nat.ne_of_lt x.lt), ⟨⟨_, Heap.get?_push_size _ rfl, rfl, rfl⟩, x.stay fun o e => Heap.get?_push_of_some _ e⟩⟩
theorem bare_size (lo : (d == sysModules) = false) : MeetsIn prog w (Builtin.«dict.__len__» ⟨[.ref d], []⟩) (fun _ R s => ∃ tab ep, Bare s.heap d tab ep ∧ R (.ok (.ret (.int tab.size s.toks))) { s with toks := s.toks + 1 }) :=
  .of_wp fun A R s ⟨tab, ep, ⟨o, ho, hx, hdat⟩, q⟩ => by
    show wpAny _ _ (dictSize d >>= _) _ _ s; unfold dictSize
    refine wpAny_bind (wpAny_bind (wpAny_dictEntries ho hdat (wpAny_pure ?_))); show wpAny _ _ (Builtin.Dict.pendingCount d >>= _) _ _ s
    exact wpAny_bind (wpAny_pendingCount_other lo (wpAny_ret_mkInt (by rw [Nat.add_zero]; exact q)))
theorem bare_len {Q : Value -> Shared -> Prop} (lo : (d == sysModules) = false) (x : Bare s.heap d tab ep) (fit : (tab.size : Int) < 2 ^ 63) (q : Q (.int tab.size (s.toks + 1)) { s with toks := s.toks + 1 + 1 }) :
    wpAny (model prog w) A (call (.builtin "len") [.ref d]) Q E s := by
  refine Calls.call_function_entry kind_len plain_len entry_len (args_len1 _) ?_
  unfold Builtin.«len»; refine wpAny_bind (m := oneArg "len" _) (wpAny_pure ?_)
  refine wpAny_bind (m := callSpecial? (.ref d) (Str.ofString "__len__")) (wpAny_callSpecial?_slot (name := Str.ofString "__len__") x.ty F.slot_dict_len (call_meetsIn F.slot_dict_len x.ty F.entry_dict_len (F.args_dict_len_1 _) (bare_size lo) ⟨tab, ep, x, ?_⟩))
  show wpAny _ _ _ _ _ { s with toks := s.toks + 1 }; refine wpAny_bind (wpAny_holding (wpAny_pure (wpAny_bind (wpAny_letGo ?_))))
  show wpAny _ _ (if ((tab.size : Nat) : Int) < 0 then _ else _) _ _ _; rw [if_neg (by lia)]
  show wpAny _ _ (if ((tab.size : Nat) : Int) ≥ 2 ^ 63 then _ else _) _ _ _; rw [if_neg (by lia)]; exact wpAny_bind (wpAny_mkInt (wpAny_pure ⟨_, rfl, q⟩))
end
section
variable {X : Cx}
theorem qF2 : CallR X (.builtin "len") (fun xs H Q => ∃ d kvs, xs = [V.ref d] ∧ H d = some (.dT kvs) ∧ Q (.int kvs.length) H) := by
  intro pins s σ H xs us Q I r h
  obtain ⟨d, kvs, rfl, hd, q⟩ := h
  obtain ⟨u, rfl, ru⟩ := ql1 r
  cases ru
  obtain ⟨z, lo, ys, rel, o, tab, ep, ho, hx, hdat, ent, uni⟩ := (show ObjOk X.prog X.w H s.heap d (.dT kvs) from I.hok d _ hd)
  have hl : tab.size = kvs.length := (size_of_entries ent).trans (Paired.length rel).symm
  have fit : (tab.size : Int) < 2 ^ 63 := by rw [hl]; rw [sizeLine_eq] at z; lia
  refine bare_len lo ⟨o, ho, hx, hdat⟩ fit ⟨.int kvs.length, H, I.tok _, ?_, q⟩
  rw [hl]
  exact ⟨_, rfl⟩
end
end L2
set_option Elab.async false
set_option linter.all false
set_option maxRecDepth 100000
set_option maxHeartbeats 4000000
namespace L2
open PySem PySem.Spec PyProof.Rows PySem.W
section
variable {prog : Program} {w : World} {A : Around} {E : Value -> Shared -> Prop} {s : Shared} {T : String} {r d : Addr} {n : Nat} {P : Nat -> Value -> Prop} {OK : Heap -> Prop}
theorem qJ3 {Q : List Value -> Shared -> Prop} (K : KdlSrc prog w T r d n P OK) (hh : A.handled = none) (hok : OK s.heap) (hn : n ≤ sizeLine)
    (hQ : ∀ (h' : Heap) tk acc', (∀ b o, s.heap.get? b = some o -> h'.get? b = some o) -> ItemsOf P acc' n -> Q acc'.toList { s with heap := h', toks := tk }) : wpAny (model prog w) A (collect (.ref r)) Q E s := by
  have hlt := K.there _ hok
  unfold collect
  refine wpAny_bind (wpAny_runValue (codeAny_builtin F.entry_proto_collect ?_))
  rw [Around.under_plainId F.plain_proto_collect _]
  show wpAny _ A.in1 (newList [] >>= fun l => again (.builtin "list.__iadd__" ⟨[l, .ref r], []⟩)) _ _ s
  refine wpAny_bind (wpAny_newObj_type ?_)
  refine wpAny_pure ⟨plainId_quiet F.plain_list_iadd _, codeAny_builtin F.entry_list_iadd ?_⟩
  rw [Around.under_plainId F.plain_list_iadd _]
  have hS₁ : (s.heap.push { cls := .type "list", data := .seq ([] : List Value).toArray }).get? s.heap.objs.size = some { cls := .type "list", data := .seq ([] : List Value).toArray } := Heap.get?_push_size _ rfl
  show wpAny _ A.in1 (Builtin.List.listExtendWith (.ref s.heap.objs.size) (.ref r) (.ref s.heap.objs.size)) _ _ _
  refine kdl_extend (R := wants (fun v s' => wpAny (model prog w) A (match v with | .ref a => (do let ob ← load a; match ob.data with | .seq xs _ => pure xs.toList | _ => unsupported "internal:collect") | _ => unsupported "internal:collect") Q E s') E) (s := { s with heap := s.heap.push { cls := .type "list", data := .seq ([] : List Value).toArray } }) K hh (K.keep _ _ hok fun b _ o e => Heap.get?_push_of_some _ e) s.heap.objs.size (Nat.ne_of_gt hlt.1) (Nat.ne_of_gt hlt.2) _ _ hS₁ (fun h' tk acc' c' hk hS' hacc => ?_) hn
  show wpAny _ A (load s.heap.objs.size >>= _) _ _ _
  refine wpAny_bind (wpAny_load hS' ?_)
  exact wpAny_pure (hQ h' tk acc' (fun b o e => hk b o (Nat.ne_of_lt (Heap.lt_size e)) (Heap.get?_push_of_some _ e)) hacc)
theorem qx1 {Q₁ : Value -> Shared -> Prop} (K : KdlSrc prog w T r d n P OK) (hh : A.handled = none) (hok : OK s.heap) (hn : n ≤ sizeLine)
    (h : ∀ (h' : Heap) tk acc, (∀ b o, s.heap.get? b = some o -> h'.get? b = some o) -> ItemsOf P acc n -> Q₁ (.ref h'.objs.size) { s with heap := h'.push { cls := .type "tuple", data := .seq acc }, toks := tk }) :
    codeAny (model prog w) A (.call (.builtin "tuple.__new__") ⟨[.type "tuple", .ref r], []⟩) (wants Q₁ E) s := by
  refine codeAny_of_tree ?_
  show wpAny _ A.in1 (do checkBuiltinCall "tuple.__new__" ⟨[.type "tuple", .ref r], []⟩; again (.builtin "tuple.__new__" ⟨[.type "tuple", .ref r], []⟩)) _ _ s
  refine wpAny_bind (wpAny_of_eq (F.newCall_tuple_1 _) (wpAny_pure ⟨plainId_quiet F.plain_tuple_new _, codeAny_builtin F.entry_tuple_new ?_⟩))
  rw [Around.under_plainId F.plain_tuple_new _]
  have hsub := sub_tuple_self
  have hinit := init_tuple_lookup
  have hmh := madeHere_tuple
  have hTI := K.type s hok
  have hnt := K.notTuple
  wp_walk using wpAny_typeOf hTI, qJ3 (A := A.in1) K hh hok hn
  intro h' tk acc hk hacc
  show wpAny _ _ (Builtin.Tuple.tupleExact acc.toList.toArray >>= fun v => ret v) _ _ _
  unfold Builtin.Tuple.tupleExact
  refine wpAny_bind (wpAny_newObj_type ?_ (by show acc.toList.toArray.size ≤ sizeLine; simp only [Array.toArray_toList]; rw [hacc.1]; exact hn))
  refine wpAny_pure ?_
  have e : acc.toList.toArray = acc := by simp
  rw [e]
  exact h h' tk acc hk hacc
theorem tuple_src {Q : Value -> Shared -> Prop} (K : KdlSrc prog w T r d n P OK) (hh : A.handled = none) (hok : OK s.heap) (hn : n ≤ sizeLine)
    (h : ∀ (h' : Heap) tk acc, (∀ b o, s.heap.get? b = some o -> h'.get? b = some o) -> ItemsOf P acc n -> Q (.ref h'.objs.size) { s with heap := h'.push { cls := .type "tuple", data := .seq acc }, toks := tk }) :
    wpAny (model prog w) A (call (.type "tuple") [.ref r]) Q E s := by
  refine callType_codes (Q₁ := fun obj s₁ => s₁.TypeIs obj "tuple" ∧ Q obj s₁) F.called_tuple (F.typeCall_tuple_1 _) F.entry_object_init
    (qx1 K hh hok hn fun h' tk acc hk hacc => ⟨⟨_, Heap.get?_push_size _ rfl, rfl⟩, h h' tk acc hk hacc⟩) fun obj s₁ h₁ => ?_
  exact ⟨h₁.1, F.args_object_init_2 obj _, object_init_meets F.called_tuple.init.lookup F.called_tuple.made (by decide) prog w A.in1 _ s₁ ⟨h₁.1, rfl, h₁.2⟩⟩
end
section
variable {X : Cx}
theorem qF3 (hc : X.calm = true) : CallR X (.type "tuple") (fun xs H Q => ∃ (d : Addr) (kvs : List (List Key × V)), xs = [.ref d] ∧ H d = some (.dT kvs) ∧
    ∀ (l : Addr) (bs : List Addr), H l = none -> bs.length = kvs.length -> (∀ (i : Nat) b kv, bs[i]? = some b -> kvs[i]? = some kv -> H b = some (.tup (kv.1.map kV))) -> Q (.ref l) (upd H l (.tup (bs.map V.ref)))) := by
  intro pins s σ H xs us Q I r h
  obtain ⟨d, kvs, rfl, hd, q⟩ := h
  obtain ⟨u, rfl, ru⟩ := ql1 r
  cases ru
  obtain ⟨z, lo, ys, rel, o, tab, ep, ho, hx, hdat, ent, uni⟩ := (show ObjOk X.prog X.w H s.heap d (.dT kvs) from I.hok d _ hd)
  have hl : kvs.length = ys.length := Paired.length rel
  have ht : tab.size = ys.length := size_of_entries ent
  refine tuple_src (bare_src (tab := tab) (ep := ep) lo) (I.ok.hd hc) ⟨o, ho, hx, hdat⟩ (by lia) fun h' tk acc kp hacc => ?_
  have at_ : ∀ (i : Nat) p y, kvs[i]? = some p -> ys[i]? = some y -> H y.2.1 = some (.tup (p.1.map kV)) := by
    have gen : ∀ {l : List (List Key × V)} {m : List (List Key × Addr × Value)}, Paired (fun (p : List Key × V) (q : List Key × Addr × Value) => p.1 = q.1 ∧ H q.2.1 = some (.tup (p.1.map kV)) ∧ RelV p.2 q.2.2) l m -> ∀ (i : Nat) p y, l[i]? = some p -> m[i]? = some y -> H y.2.1 = some (.tup (p.1.map kV)) := by
      intro l m pr
      induction pr with
      | nil => intro i p y h1; simp at h1
      | cons a1 a2 ih =>
        intro i p y h1 h2
        cases i with
        | zero => simp at h1 h2; subst h1; subst h2; exact a1.2.1
        | succ i => exact ih i p y (by simpa using h1) (by simpa using h2)
    exact gen rel
  have hlb : (ys.map (·.2.1)).length = kvs.length := by rw [List.length_map, hl]
  have I1 := I.kept (t' := tk) kp
  have hf : H h'.objs.size = none := I1.hok.fresh (Nat.le_refl _)
  refine ⟨.ref h'.objs.size, _, I1.laid (a := h'.objs.size) (o := .tup ((ys.map (·.2.1)).map V.ref)) (t' := tk) (fun b o e => Heap.get?_push_of_some _ e) (Nat.le_refl _) (show ObjOk X.prog X.w _ _ _ (.tup ((ys.map (·.2.1)).map V.ref)) from ⟨by rw [List.length_map, hlb]; exact z, acc.toList, ?_, by have := IsTupX.new h' acc.toList.toArray; simpa using this⟩), rfl, q _ _ hf hlb fun i b kv e1 e2 => ?_⟩
  . refine qz6 (by simp [hacc.1, ht]) fun i x v h1 h2 => ?_
    rw [List.getElem?_map, List.getElem?_map] at h1
    obtain ⟨b, hb, rfl⟩ := Option.map_eq_some_iff.mp h1
    obtain ⟨y, hy, rfl⟩ := Option.map_eq_some_iff.mp hb
    obtain ⟨e, he, rfl⟩ := hacc.2 i v (by simpa using h2)
    rw [entry_at ent i, hy] at he
    have := Option.some.inj he
    subst this
    rfl
  . rw [List.getElem?_map] at e1
    obtain ⟨y, hy, rfl⟩ := Option.map_eq_some_iff.mp e1
    exact at_ i kv y e2 hy
open Classical in
noncomputable def qJ4 (h : Heap) (d : PyData) (w : Value) : Bool := decide (∃ (e : PyData) (bs : List Addr), Reads h w e bs ∧ e.canLay0 = true ∧ PyData.eqv e d = true)
open Classical in
theorem sameD_is {h : Heap} {d d' : PyData} {w : Value} {bs : List Addr} (rb : Reads h w d' bs) (c : d'.canLay0 = true) : qJ4 h d w = PyData.eqv d' d := by
  unfold qJ4
  cases hb : PyData.eqv d' d with
  | true => exact decide_eq_true ⟨d', bs, rb, c, hb⟩
  | false =>
    refine decide_eq_false fun ⟨e, bs', re, _, he⟩ => ?_
    have := SeqAt.Reads.unique d' e w bs bs' c rb re
    rw [← this, hb] at he
    cases he
theorem inD_key {pins : List (Addr × Obj)} {s : Shared} {σ : St} {H : Hp} {v : Value} {d : PyData} {as : List Addr} (I : Inv X pins σ H s) (un : X.A.units + 64 < cLine) (ra : Reads s.heap v d as) (c1 : d.canLay0 = true) (dd : d.depth ≤ 50) :
    ∀ {xs : List V} {ds : List PyData} {us : List Value}, DatasAt H xs ds -> Vals xs us -> PyData.canLayAll0 ds = true -> (∀ w ∈ us, SeqAt.EqAt X.A.in1 s w v (qJ4 s.heap d w)) ∧ us.any (qJ4 s.heap d) = ds.any fun e => PyData.eqv e d
  | _, _, _, .nil, .nil, _ => ⟨fun w hw => (nomatch hw), rfl⟩
  | _, d' :: ds', u0 :: us0, .cons hx hxs, .cons r0 rs, h3 => by
    have h3' : d'.canLay0 = true ∧ PyData.canLayAll0 ds' = true := by simpa [PyData.canLayAll0] using h3
    obtain ⟨e1, e2⟩ := inD_key I un ra c1 dd hxs rs h3'.2
    obtain ⟨bs, rb⟩ := hx.reads I.hok r0
    have eb := sameD_is (d := d) rb h3'.1
    refine ⟨fun w hw => ?_, ?_⟩
    . rcases List.mem_cons.mp hw with rfl | hw
      . rw [eb]
        exact SeqAt.eqAt_reads d' d X.A.in1 s w v bs as rb ra h3'.1 c1 (by
          have : X.A.in1.units = X.A.units + 1 := rfl
          lia)
      . exact e1 w hw
    . rw [List.any_cons, List.any_cons, eb, e2]
theorem op_inD {k : Nat} (hr : Room k X.A) : OpR X (compareOp .In) (fun x y H Q => ∃ (p : Addr) (xs : List V) (ds : List PyData) (d : PyData), y = .ref p ∧ H p = some (.tup xs) ∧ DatasAt H xs ds ∧ DataAt H x d ∧ d.canLay0 = true ∧ PyData.canLayAll0 ds = true ∧ d.depth ≤ 50 ∧
    Q (.bl (ds.any fun e => PyData.eqv e d)) H) := by
  intro pins s σ H x y v u Q I rx ry h
  obtain ⟨p, xs, ds, d, rfl, hp, hds, hd, c1, c2, dd, q⟩ := h
  cases ry
  obtain ⟨as, ra⟩ := hd.reads I.hok rx
  obtain ⟨its, rv, pl, hz⟩ := I.tuple (SqT.of hp)
  have un := hr.units
  obtain ⟨k1, k2⟩ := inD_key (X := X) I un ra c1 dd hds rv c2
  refine SeqAt.in_tupleAt (qJ4 s.heap d) pl (fun w hw => k1 w (by simpa using hw)) ⟨.bl _, H, I, rfl, ?_⟩
  rw [show its.toArray.any (qJ4 s.heap d) = its.any (qJ4 s.heap d) by simp, k2]
  exact q
end
end L2
set_option Elab.async false
set_option linter.all false
set_option maxRecDepth 100000
set_option maxHeartbeats 4000000
namespace Pr
open PySem L2 Qf
structure Blt (mg : Str -> Option Value) : Prop where
  isi : mg "isinstance" = none
  int : mg "int" = none
  bool : mg "bool" = none
  tuple : mg "tuple" = none
  list : mg "list" = none
  set : mg "set" = none
  len : mg "len" = none
  all : mg "all" = none
  any : mg "any" = none
  enum : mg "enumerate" = none
  range : mg "range" = none
  max : mg "max" = none
  min : mg "min" = none
structure Cst (mg : Str -> Option Value) : Prop where
  first : ∃ t, mg "FIRST" = some (.int 2 t)
  full : ∃ t, mg "FULL" = some (.int 1 t)
  great : ∃ t, mg "GREATEST_SIZE" = some (.int 12 t)
def vN (r : List Nat) : List V := r.map fun n : Nat => V.int (n : Int)
theorem qh8 (r : List Nat) : (vN r).length = r.length := List.length_map ..
theorem qF4 {r : List Nat} {i : Nat} {x : V} (h : (vN r)[i]? = some x) : ∃ n : Nat, r[i]? = some n ∧ x = .int (n : Int) := by
  unfold vN at h
  rw [List.getElem?_map] at h
  obtain ⟨n, h1, h2⟩ := Option.map_eq_some_iff.mp h
  exact ⟨n, h1, h2.symm⟩
theorem vN_at {r : List Nat} {i n : Nat} (h : r[i]? = some n) : (vN r)[i]? = some (.int (n : Int)) := by
  unfold vN
  rw [List.getElem?_map, h]; rfl
theorem vN_atI {r : List Nat} {i n : Nat} (h : r[i]? = some n) : atI (vN r) (i : Int) = some (.int (n : Int)) := qj2 (vN_at h)
theorem qv8 (r : List Nat) : vN r = (r.map fun n : Nat => (n : Int)).map V.int := by unfold vN; rw [List.map_map]; rfl
def RowsAt (H : Hp) (p : Addr) (rows : List Row) : Prop := ∃ bs : List Addr, H p = some (.tup (bs.map V.ref)) ∧ bs.length = rows.length ∧ ∀ (i : Nat) b r, bs[i]? = some b -> rows[i]? = some r -> H b = some (.tup (vN r))
theorem RowsAt.mono {H H' : Hp} {p : Addr} {rows : List Row} (h : RowsAt H p rows) (t : Tups H H') : RowsAt H' p rows := by
  obtain ⟨bs, h1, h2, h3⟩ := h
  exact ⟨bs, t _ _ h1, h2, fun i b r e1 e2 => t _ _ (h3 i b r e1 e2)⟩
theorem RowsAt.same {H H' : Hp} {p : Addr} {rows : List Row} (h : RowsAt H p rows) (t : Same H H') : RowsAt H' p rows := h.mono t.tups
def RowsS (H : Hp) (p : Addr) (rows : List Row) : Prop := ∃ bs : List Addr, (H p = some (.tup (bs.map V.ref)) ∨ H p = some (.lst (bs.map V.ref))) ∧ bs.length = rows.length ∧ ∀ (i : Nat) b r, bs[i]? = some b -> rows[i]? = some r -> H b = some (.tup (vN r))
theorem RowsAt.s {H : Hp} {p : Addr} {rows : List Row} (h : RowsAt H p rows) : RowsS H p rows := let ⟨bs, a, b, c⟩ := h; ⟨bs, .inl a, b, c⟩
theorem RowsS.same {H H' : Hp} {p : Addr} {rows : List Row} (h : RowsS H p rows) (s : Same H H') : RowsS H' p rows := by
  obtain ⟨bs, h1, h2, h3⟩ := h
  exact ⟨bs, h1.imp (s _ _) (s _ _), h2, fun i b r e1 e2 => s _ _ (h3 i b r e1 e2)⟩
def rIxS (K : PySem.W.Frag) : R2 := fun x y H Q => rIxL K x y H Q ∨ rIxT K x y H Q
theorem ixS {X : Cx} (K : PySem.W.Frag) (h : X.K = K) : IxR X (rIxS K) := (ixL K h).or (ixT K h)
section
variable {P : Program} {w : World} {K : PySem.W.Frag} {mg : Str -> Option Value} {base : Heap}
theorem scWhole : FnScope ["thing"] ["thing"] (qa7 qy3) := ⟨rfl, rfl, rfl, by decide +kernel, rfl, by decide +kernel, by decide +kernel⟩
def qA1 : Sp := fun vs H Q _ => ∃ i : Int, vs = [.int i] ∧ Q (.bl true) H
theorem qA2 {f : Addr} {fd : FuncData} (F : Fun K "is_whole" "is_whole" qy3 f fd) (B : Blt mg) : FnOk P w K mg base CX0 1 f fd ["thing"] qA1 := by
  refine F.ok scWhole (fun vs H Q E h => ?_) (fun cdv A outer s H vs Q E hr h => ?_)
  . obtain ⟨i, rfl, _⟩ := h
    rfl
  . obtain ⟨i, rfl, q⟩ := h
    refine ⟨_, qb0 (qb3 (qt6 (qa9 qp0 (by rfl) B.isi PyProof.Rows.boot_isinstance (qa0 (pv 0) (qa0 (qt3 (v := .ty "int") (by rfl) B.int PyProof.Rows.boot_int rfl) qa3)))
      (qt5 (pe_not (qa9 qp0 (by rfl) B.isi PyProof.Rows.boot_isinstance (qa0 (pv 0) (qa0 (qt3 (v := .ty "bool") (by rfl) B.bool PyProof.Rows.boot_bool rfl) qa3))))))), ?_⟩
    exact ⟨_, rfl, _, _, _, _, true, rfl, rfl, .inl (.int i), rfl, _, rfl, iteT ⟨_, rfl, _, _, _, _, false, rfl, rfl, .inl (.int i), rfl, _, rfl, q⟩⟩
theorem scSize : FnScope ["thing"] ["thing"] (qa7 sSize) := ⟨rfl, rfl, rfl, by decide +kernel, rfl, by decide +kernel, by decide +kernel⟩
def spSize : Sp := fun vs H Q _ => ∃ n : Nat, vs = [.int n] ∧ n ≤ 12 ∧ Q (.bl true) H
theorem ok_size {f fW : Addr} {fd fdW : FuncData} (F : Fun K "is_size" "is_size" sSize f fd) (B : Blt mg) (T : Cst mg) (hW : mg "is_whole" = some (.ref fW)) (FW : Fun K "is_whole" "is_whole" qy3 fW fdW) (bW : Binds K fdW ["thing"] []) : FnOk P w K mg base CX0 2 f fd ["thing"] spSize := by
  have GW : FnOk P w K mg base CX0 1 fW fdW ["thing"] qA1 := qA2 FW B
  obtain ⟨tg, hgr⟩ := T.great
  refine F.ok scSize (fun vs H Q E h => ?_) (fun cdv A outer s H vs Q E hr h => ?_)
  . obtain ⟨x, rfl, _⟩ := h
    rfl
  . obtain ⟨n, rfl, hn, q⟩ := h
    refine ⟨_, qb0 (qb3 (qt6 (qa8 GW hr (by rfl) hW FW.kp bW .nil qb9 (qa0 (pv 0) qa3)) (qt5 (qK2 qw9 qw9 qa4 (pv 0) (qd0 (v := .int 12) (by rfl) hgr ⟨_, rfl⟩))))), ?_⟩
    refine ⟨_, rfl, n, rfl, _, rfl, iteT ⟨_, rfl, _, _, rfl, rfl, _, rfl, ?_⟩⟩
    have e : decide ((n : Int) ≤ 12) = true := decide_eq_true (by lia)
    refine ite2 (fun _ => ⟨_, _, rfl, rfl, ?_⟩) (fun h1 => absurd (decide_eq_true (Int.natCast_nonneg n)) h1)
    show Q (V.bl (decide ((n : Int) ≤ 12))) H
    rw [e]; exact q
theorem scNumber : FnScope ["thing", "many"] ["thing", "many"] (qa7 qv5) := ⟨rfl, rfl, rfl, by decide +kernel, rfl, by decide +kernel, by decide +kernel⟩
def qA3 : Sp := fun vs H Q _ => ∃ n m : Nat, vs = [.int n, .int m] ∧ n < m + 2 ∧ Q (.bl true) H
theorem ok_number {f fW : Addr} {fd fdW : FuncData} (F : Fun K "is_number" "is_number" qv5 f fd) (B : Blt mg) (T : Cst mg) (hW : mg "is_whole" = some (.ref fW)) (FW : Fun K "is_whole" "is_whole" qy3 fW fdW) (bW : Binds K fdW ["thing"] []) : FnOk P w K mg base CX0 2 f fd ["thing", "many"] qA3 := by
  have GW : FnOk P w K mg base CX0 1 fW fdW ["thing"] qA1 := qA2 FW B
  obtain ⟨tf, hf⟩ := T.first
  refine F.ok scNumber (fun vs H Q E h => ?_) (fun cdv A outer s H vs Q E hr h => ?_)
  . obtain ⟨n, m, rfl, _⟩ := h
    rfl
  . obtain ⟨n, m, rfl, hn, q⟩ := h
    refine ⟨_, qb0 (qb3 (qt6 (qa8 GW hr (by rfl) hW FW.kp bW .nil qb9 (qa0 (pv 0) qa3)) (qt5 (qK2 qw9 qn5 qa4 (pv 0) (qb1 qd9 (pv 1) (qd0 (v := .int 2) (by rfl) hf ⟨_, rfl⟩)))))), ?_⟩
    refine ⟨_, rfl, n, rfl, _, rfl, iteT ⟨_, rfl, _, _, rfl, rfl, _, rfl, ?_⟩⟩
    have e : decide ((n : Int) < (m : Int) + 2) = true := decide_eq_true (by lia)
    refine ite2 (fun _ => ⟨_, rfl, _, _, rfl, rfl, _, _, rfl, rfl, ?_⟩) (fun h1 => absurd (decide_eq_true (Int.natCast_nonneg n)) h1)
    show Q (V.bl (decide ((n : Int) < (m : Int) + 2))) H
    rw [e]; exact q
theorem scPlain : FnScope ["row"] ["row"] (qa7 qy4) := ⟨rfl, rfl, rfl, by decide +kernel, rfl, by decide +kernel, by decide +kernel⟩
def qJ5 : Sp := fun vs H Q _ => ∃ (b : Addr) (r : Row), vs = [.ref b] ∧ H b = some (.tup (vN r)) ∧ r.length = 4 ∧ ∀ H', Same H H' -> Q (.bl (decide (qp9 r))) H'
theorem int_inj {l m : List Nat} (h : (l.map fun n : Nat => (n : Int)) = m.map fun n : Nat => (n : Int)) : l = m := by
  induction l generalizing m with
  | nil => cases m with
    | nil => rfl
    | cons b m => simp at h
  | cons a l ih => cases m with
    | nil => simp at h
    | cons b m =>
      rw [List.map_cons, List.map_cons] at h
      injection h with h1 h2
      rw [ih h2, Int.ofNat.inj h1]
theorem qM5 {f : Addr} {fd : FuncData} (F : Fun K "is_plain" "is_plain" qy4 f fd) (T : Cst mg) : FnOk P w K mg base CX0 2 f fd ["row"] qJ5 := by
  obtain ⟨tf, hf⟩ := T.first
  refine F.ok scPlain (fun vs H Q E h => ?_) (fun cdv A outer s H vs Q E hr h => ?_)
  . obtain ⟨b, r, rfl, _⟩ := h
    rfl
  . obtain ⟨b, r, rfl, hb, hl, q⟩ := h
    refine ⟨_, qb0 (qb3 (qt6 (qg6 qn5 (qf3 qf2 (pv 0) qa4 (fun _ _ => rfl)) (qd0 (v := .int 2) (by rfl) hf ⟨_, rfl⟩) (qb6 _))
      (qt5 (qg6 (qL3 hr) (pv 0) (qb1 op_repT (qg9 (qa0 (qf3 qf2 (pv 0) qa4 (fun _ _ => rfl)) qa3)) qa4) (qb6 _))))), ?_⟩
    match r, hl with
    | [x0, x1, x2, x3], _ =>
      refine ⟨_, rfl, b, _, 0, .int x0, rfl, rfl, SqT.of hb, rfl, _, _, rfl, rfl, _, rfl, ?_⟩
      refine ite2 (fun hc => ?_) (fun hc => ?_)
      . have h2 : x0 < 2 := by have := of_decide_eq_true hc; lia
        refine ⟨_, rfl, _, rfl, b, _, 0, .int x0, rfl, rfl, SqT.of hb, rfl, (by show 1 ≤ sizeLine; decide), fun p hp => ⟨p, 4, .int x0, rfl, rfl, qa1, by decide, by decide, fun p2 hp2 => ?_⟩⟩
        have hb2 := qc3 (u := .tup (List.replicate 4 (V.int x0))) (qc3 (u := .tup [V.int x0]) hb hp) hp2
        refine ⟨dT [(x0 : Int), (x1 : Int), (x2 : Int), (x3 : Int)], dT [(x0 : Int), (x0 : Int), (x0 : Int), (x0 : Int)], .tup hb2 (DatasAt.ints [(x0 : Int), (x1 : Int), (x2 : Int), (x3 : Int)]), .tup qa1 (DatasAt.ints [(x0 : Int), (x0 : Int), (x0 : Int), (x0 : Int)]), dT_lay _, dT_lay _, (by show 1 ≤ 60; decide), ?_⟩
        rw [dT_eqv]
        have e : decide (([(x0 : Int), (x1 : Int), (x2 : Int), (x3 : Int)] : List Int) = ([(x0 : Int), (x0 : Int), (x0 : Int), (x0 : Int)] : List Int)) = decide (qp9 [x0, x1, x2, x3]) := by
          congr 1
          apply propext
          unfold qp9
          constructor
          . intro z
            have : [x0, x1, x2, x3] = [x0, x0, x0, x0] := int_inj (l := [x0, x1, x2, x3]) (m := [x0, x0, x0, x0]) z
            have : x0 = 0 ∨ x0 = 1 := by lia
            rcases this with rfl | rfl
            . exact .inl ‹_›
            . exact .inr ‹_›
          . rintro (z | z) <;> (cases z; rfl)
        rw [e]
        exact q _ ((qb7 hp).trans (qb7 hp2))
      . have h2 : ¬ x0 < 2 := fun z => hc (decide_eq_true (by lia))
        have e : decide (qp9 [x0, x1, x2, x3]) = false := decide_eq_false (by
          rintro (z | z) <;> (cases z; lia))
        have := q H (Same.refl H)
        rw [e] at this
        exact this
end
end Pr
set_option Elab.async false
set_option linter.all false
set_option maxRecDepth 100000
set_option maxHeartbeats 4000000
namespace Qf
theorem mx_snoc (l : List Nat) (a : Nat) : mx (l ++ [a]) = max (mx l) a := by
  induction l with
  | nil => show max a 0 = max 0 a; lia
  | cons b l ih => show max b (mx (l ++ [a])) = max (max b (mx l)) a; rw [ih]; lia
theorem best_mx (l : List Nat) : ∀ k, k < l.length -> L2.best (l.map fun n : Nat => (n : Int)) k = (mx (l.take (k + 1)) : Nat)
  | 0, h => by
    cases l with
    | nil => simp at h
    | cons a l => show ((a : Nat) : Int) = ((max a 0 : Nat) : Int); simp
  | k + 1, h => by
    have ih := best_mx l k (by lia)
    have e : (l.map fun n : Nat => (n : Int)).getD (k + 1) 0 = ((l[k + 1] : Nat) : Int) := by simp [List.getD, h]
    have t : l.take (k + 1 + 1) = l.take (k + 1) ++ [l[k + 1]] := by rw [List.take_append_getElem h]
    unfold L2.best
    rw [e, ih, t, mx_snoc]
    split <;> lia
theorem best_all {l : List Nat} (h : l ≠ []) : L2.best (l.map fun n : Nat => (n : Int)) ((l.map fun n : Nat => (n : Int)).length - 1) = (mx l : Nat) := by
  have hl : 0 < l.length := List.length_pos_iff.mpr h
  rw [List.length_map, best_mx l (l.length - 1) (by lia), show l.length - 1 + 1 = l.length by lia, List.take_length]
theorem deps_take {rows : List Row} {i : Nat} {r : Row} (h : rows[i]? = some r) : deps (rows.take (i + 1)) = deps (rows.take i) ++ [1 + mx (r.map (dp (rows.take i)))] := by
  have hl := (List.getElem?_eq_some_iff.mp h).1
  have he := (List.getElem?_eq_some_iff.mp h).2
  rw [← qp6, ← he, List.take_append_getElem hl]
theorem dp_get {rows : List Row} {x : Nat} (h : x < rows.length + 2) : (deps rows)[x]? = some (dp rows x) := by
  unfold dp
  rw [List.getD_eq_getElem?_getD]
  have : x < (deps rows).length := by rw [qp7]; exact h
  rw [List.getElem?_eq_getElem this]; rfl
end Qf
namespace Pr
open PySem L2 Qf
theorem qi7 {xs ys : List V} (hl : xs.length = ys.length) (h : ∀ (i : Nat) x, xs[i]? = some x -> ys[i]? = some x) : xs = ys := by
  refine List.ext_getElem? fun i => ?_
  cases e : xs[i]? with
  | some x => exact (h i x e).symm
  | none =>
    have : xs.length ≤ i := List.getElem?_eq_none_iff.mp e
    exact (List.getElem?_eq_none (by lia)).symm
section
variable {P : Program} {w : World} {K : PySem.W.Frag} {mg : Str -> Option Value} {base : Heap}
theorem scDeps : FnScope ["rows", "depths", "row"] ["rows"] (qa7 sDeps) := ⟨rfl, rfl, rfl, by decide +kernel, rfl, by decide +kernel, by decide +kernel⟩
def spDeps : Sp := fun vs H Q _ => ∃ (p : Addr) (rows : List Row), vs = [.ref p] ∧ RowsAt H p rows ∧ qc5 rows ∧ rows.length ≤ 900 ∧ ∀ H' D, Same H H' -> H' D = some (.lst (vN (deps rows))) -> Q (.ref D) H'
theorem ok_deps {f : Addr} {fd : FuncData} (F : Fun K "depths_of" "depths_of" sDeps f fd) (B : Blt mg) : FnOk P w K mg base CX0 1 f fd ["rows"] spDeps := by
  refine F.ok scDeps (fun vs H Q E h => ?_) (fun cdv A outer s H vs Q E hr h => ?_)
  . obtain ⟨p, rows, rfl, _⟩ := h
    rfl
  . obtain ⟨p, rows, rfl, hR, ok, hn, q⟩ := h
    refine ⟨_, qc6 (qc4 (i := 1) scDeps.nd rfl (by first | exact Or.inl rfl | exact Or.inr rfl) (qn6 (qa0 qa4 (qa0 qa4 qa3))))
      (qc6 (qB8 PassesOwn.never rfl (qt7 (pv 0)) (qc0 (i := 2) scDeps.nd rfl (by first | exact Or.inl rfl | exact Or.inr rfl))
        (qb0 (qn7 (pe_bm PySem.F.plainAttrs_list PySem.F.slot_list_append PySem.F.type_list_append qj3 (pv 1) (qa0 (qb1 qd9 qa4 (qa9 (call_maxL rfl) (by rfl) B.max PyProof.Rows.boot_max
          (qa0 (qf4 ["rows", "depths", "row"] (qa7 sDeps) rfl rfl rfl scDeps.nd (qt7 (pv 2)) (fun cl C fp s₀ H₀ => qf3 (ixL K rfl) (pv 2) (pv 0) (fun _ _ => rfl))) qa3))) qa3)))))
      (qb0 (qb3 (pv 1)))), ?_⟩
    refine ⟨(by show 2 ≤ sizeLine; decide), fun D hD => ?_⟩
    obtain ⟨bs, hp, hlen, hrow⟩ := id hR
    have hp1 := qc3 (u := .lst [.int 0, .int 0]) hp hD
    have hlb : (bs.map V.ref).length = rows.length := by rw [List.length_map]; exact hlen
    refine ⟨_, rfl, p, rfl, ⟨_, SqT.of hp1⟩, qS3 (K := K) (a := p) (xs := bs.map V.ref) (fun i σ H2 => Same H H2 ∧ H2 D = some (.lst (vN (deps (rows.take i)))) ∧ ∃ v2, σ = [some (.ref p), some (.ref D), v2])
      ⟨qb7 hD, qa1, none, rfl⟩ (fun i σ H2 _ ⟨s2, _⟩ => SqT.of (s2 _ _ hp)) ?_ ?_⟩
    . rintro i y σ H2 hy ⟨s2, hd2, v2, rfl⟩
      have hi : i < rows.length := by rw [← hlb]; exact (List.getElem?_eq_some_iff.mp hy).1
      rw [List.getElem?_map] at hy
      obtain ⟨b, hb, rfl⟩ := Option.map_eq_some_iff.mp hy
      have hr1 : rows[i]? = some rows[i] := by simp [hi]
      have hbt := s2 _ _ (hrow i b rows[i] hb hr1)
      have rk := ok i _ hr1
      have tl : (rows.take i).length = i := by rw [List.length_take]; lia
      have hds : ∀ x, x < i + 2 -> (deps (rows.take i))[x]? = some (dp (rows.take i) x) := fun x hx => dp_get (by rw [tl]; exact hx)
      generalize rows[i] = r at hr1 hbt rk
      refine ⟨_, rfl, .inl ⟨rfl, _, SqL.of hd2⟩, _, rfl, b, rfl, ⟨_, SqT.of hbt⟩, fun D2 hD2 => qg4 hD2 (fun j z _ => ∃ x, r[j]? = some x ∧ z = .int (dp (rows.take i) x : Nat)) (qs7 (K := K) hbt) (by rw [qh8, rk.1]; decide) (fun _ _ _ _ _ _ h => h) ?_ ?_⟩
      . intro j x H3 hj hx s3 Q' hq
        obtain ⟨m, hm, rfl⟩ := qF4 hx
        have hlt := rk.2 m (List.mem_of_getElem? hm)
        exact ⟨_, rfl, _, rfl, D, _, (m : Int), .int (dp (rows.take i) m : Nat), rfl, rfl, SqL.of (s3 _ _ hd2), vN_atI (hds m hlt), hq _ _ (Same.refl _) ⟨m, hm, rfl⟩⟩
      . intro ys H3 s3 hd3 hly hys
        have ey : ys = (r.map (dp (rows.take i))).map (fun n : Nat => V.int (n : Int)) := by
          refine qi7 (by rw [hly, qh8, List.length_map, List.length_map]) fun j x hx => ?_
          obtain ⟨m, hm, rfl⟩ := hys j x hx
          rw [List.getElem?_map, List.getElem?_map, hm]; rfl
        have e2 : ys = ((r.map (dp (rows.take i))).map (fun n : Nat => (n : Int))).map V.int := ey.trans (qv8 _)
        have hne : r.map (dp (rows.take i)) ≠ [] := fun z => by
          have := congrArg List.length z
          rw [List.length_map, rk.1] at this
          cases this
        refine ⟨D2, (r.map (dp (rows.take i))).map (fun n : Nat => (n : Int)), rfl, e2 ▸ hd3, fun z => hne (List.map_eq_nil_iff.mp z), _, _, rfl, rfl, ?_⟩
        rw [best_all hne]
        have hd4 := s3 _ _ hd2
        refine ⟨D, _, _, rfl, rfl, hd4, ?_, ?_⟩
        . rw [qh8, qp7, tl]; exact qb8 (by lia)
        . have nD : ∀ b o, H b = some o -> b ≠ D := fun b o e => qa2 e hD
          refine ⟨fun b o e => by rw [qa6 (nD b o e)]; exact s3 _ _ (s2 _ _ e), ?_, _, rfl⟩
          rw [qa1, deps_take hr1]
          unfold vN
          rw [List.map_append]
          rfl
    . rintro σ H2 ⟨s2, hd2, v2, rfl⟩
      refine ⟨_, rfl, q H2 D s2 ?_⟩
      rw [hlb, List.take_length] at hd2
      exact hd2
end
end Pr
set_option Elab.async false
set_option linter.all false
set_option maxRecDepth 100000
set_option maxHeartbeats 4000000
namespace Qf
theorem qA4 {rows : List Row} {e : List Nat} (h : Post rows e) : e.length ≤ rows.length := by
  have := h.nd.length_le_of_subset (l₂ := List.range rows.length) fun p hp => List.mem_range.mpr (h.lt p hp)
  simpa using this
theorem qv9 {rows : List Row} (ok : qc5 rows) {d p : Nat} {r : Row} (hp : rows[p]? = some r) (hd : dp rows (p + 2) ≤ d + 1) : ∀ (l e : List Nat), (∀ q ∈ l, q ∈ r) -> Post rows e -> Post rows (l.foldl (dfs rows d) e)
  | [], _, _, pe => pe
  | q :: l, e, hl, pe => by
    have hq := hl q List.mem_cons_self
    have hlt := (ok p r hp).2 q hq
    have hpl := (List.getElem?_eq_some_iff.mp hp).1
    have hdq : dp rows q ≤ d := by
      have := qP7 (List.mem_map.mpr ⟨q, hq, rfl⟩ : dp rows q ∈ r.map (dp rows))
      have e := qx0 ok hp
      lia
    exact qv9 ok hp hd l _ (fun z hz => hl z (List.mem_cons_of_mem _ hz)) (qf5 ok d e q pe (by lia) hdq).1
theorem qh2 {rows : List Row} (ok : qc5 rows) {d p : Nat} {r : Row} (hp : rows[p]? = some r) (hd : dp rows (p + 2) ≤ d + 1) {q : Nat} (hq : q ∈ r) : q < rows.length + 2 ∧ dp rows q ≤ d := by
  have hlt := (ok p r hp).2 q hq
  have hpl := (List.getElem?_eq_some_iff.mp hp).1
  have := qP7 (List.mem_map.mpr ⟨q, hq, rfl⟩ : dp rows q ∈ r.map (dp rows))
  have e := qx0 ok hp
  exact ⟨by lia, by lia⟩
theorem qq1 {rows : List Row} (ok : qc5 rows) {x : Nat} (hx : x < rows.length + 2) (h : dp rows x ≤ 0) : x < 2 := by
  by_cases z : x < 2
  . exact z
  . exfalso
    have hp : x - 2 < rows.length := by lia
    have := qx0 ok (qh7 hp)
    rw [show x - 2 + 2 = x by lia] at this
    lia
end Qf
namespace Pr
open PySem L2 Qf
def But (e : Addr) (H H' : Hp) : Prop := ∀ b o, H b = some o -> b ≠ e -> H' b = some o
theorem But.refl (e : Addr) (H : Hp) : But e H H := fun _ _ h _ => h
theorem But.trans {e : Addr} {H H1 H2 : Hp} (a : But e H H1) (b : But e H1 H2) : But e H H2 := fun c o h n => b c o (a c o h n) n
theorem But.upd {e : Addr} {H : Hp} {o : HO} : But e H (upd H e o) := fun b u h n => by rw [qa6 n]; exact h
theorem But.of {e : Addr} {H H' : Hp} (h : Same H H') : But e H H' := fun b o q _ => h b o q
theorem But.tups {e : Addr} {H H' : Hp} (h : But e H H') {o : HO} (he : H e = some o) (no : ∀ u, o ≠ .tup u) : Tups H H' := fun b u q => h b _ q fun z => by
  subst z
  rw [q] at he
  exact no u (Option.some.inj he).symm
def eK (es : List Nat) : List (Key × V) := es.map fun p : Nat => (Sum.inl (p : Int), V.bl true)
theorem eK_has (es : List Nat) (p : Nat) : (valV (eK es) (Sum.inl (p : Int))).isSome = decide (p ∈ es) := by
  rw [← qi4]
  unfold eK
  rw [List.any_map]
  by_cases h : p ∈ es
  . rw [decide_eq_true h, List.any_eq_true]
    exact ⟨p, h, by simp⟩
  . rw [decide_eq_false h, List.any_eq_false]
    intro q hq
    simp only [Function.comp, decide_eq_true_eq]
    intro z
    have : (q : Int) = p := Sum.inl.inj z
    exact h (by rw [← Int.ofNat.inj this]; exact hq)
theorem eK_put {es : List Nat} {p : Nat} (h : p ∉ es) : putK (eK es) (Sum.inl (p : Int)) (.bl true) = eK (es ++ [p]) := by
  unfold putK
  have := eK_has es p
  rw [← qi4, decide_eq_false h] at this
  rw [if_neg (by rw [this]; decide)]
  unfold eK
  rw [List.map_append]; rfl
section
variable {P : Program} {w : World} {K : PySem.W.Frag} {mg : Str -> Option Value} {base : Heap}
theorem scEnd : FnScope ["rows", "number", "ended", "quarter"] ["rows", "number", "ended"] (qa7 sEnd) := ⟨rfl, rfl, rfl, by decide +kernel, rfl, by decide +kernel, by decide +kernel⟩
def spEnd (d : Nat) : Sp := fun vs H Q _ => ∃ (p e : Addr) (x : Nat) (rows : List Row) (es : List Nat), vs = [.ref p, .int (x : Nat), .ref e] ∧ RowsS H p rows ∧ qc5 rows ∧ rows.length ≤ 900 ∧ x < rows.length + 2 ∧ dp rows x ≤ d ∧ Post rows es ∧
  H e = some (.dK (eK es)) ∧ ∀ H', But e H H' -> H' e = some (.dK (eK (dfs rows d es x))) -> Q .non H'
theorem ok_end {f : Addr} {fd : FuncData} (F : Fun K "end_rows" "end_rows" sEnd f fd) (T : Cst mg) (hE : mg "end_rows" = some (.ref f)) (bE : Binds K fd ["rows", "number", "ended"] []) : ∀ d, FnOk P w K mg base CX0 (d + 1) f fd ["rows", "number", "ended"] (spEnd d) := by
  obtain ⟨tf, hf⟩ := T.first
  intro d
  induction d with
  | zero =>
    refine F.ok scEnd (fun vs H Q E h => ?_) (fun cdv A outer s H vs Q E hr h => ?_)
    . obtain ⟨p, e, x, rows, es, rfl, _⟩ := h
      rfl
    . obtain ⟨p, e, x, rows, es, rfl, hR, ok, hn, hx, hd, pe, he, q⟩ := h
      have hu : A.units + 3 + 1 < cLine := by have := hr.un; exact Nat.lt_of_le_of_lt (Nat.le_add_right _ _) (show A.units + 3 + 1 + 199 < cLine from by simpa using this)
      have x2 := qq1 ok hx hd
      refine ⟨_, qc6 (qe0 (qq7 (qb5 qn5 (pv 1) (qd0 (v := .int 2) (by rfl) hf ⟨_, rfl⟩) (qb6 _)) (qk8 (qt4 (pc_din hu (qb1 qe2 (pv 1) (qd0 (v := .int 2) (by rfl) hf ⟨_, rfl⟩)) (pv 2))))).pt (qb0 qS0) qb4) qe8, ?_⟩
      refine ⟨_, rfl, _, _, rfl, rfl, _, rfl, ?_⟩
      rw [decide_eq_true (show (x : Int) < 2 by lia)]
      exact iteT (iteT (q H (But.refl e H) he))
  | succ d ih =>
    refine F.ok scEnd (fun vs H Q E h => ?_) (fun cdv A outer s H vs Q E hr h => ?_)
    . obtain ⟨p, e, x, rows, es, rfl, _⟩ := h
      rfl
    . obtain ⟨p, e, x, rows, es, rfl, hR, ok, hn, hx, hd, pe, he, q⟩ := h
      have hu : A.units + 3 + 1 < cLine := by have := hr.un; exact Nat.lt_of_le_of_lt (Nat.le_add_right _ (16 * (d + 1) + 199)) (show A.units + 3 + 1 + (16 * (d + 1) + 199) < cLine from by
        have h2 : A.units + 3 + 16 * (d + 1) + 200 < cLine := this
        lia)
      refine ⟨_, qc6 (qe0 (qq7 (qb5 qn5 (pv 1) (qd0 (v := .int 2) (by rfl) hf ⟨_, rfl⟩) (qb6 _)) (qk8 (qt4 (pc_din hu (qb1 qe2 (pv 1) (qd0 (v := .int 2) (by rfl) hf ⟨_, rfl⟩)) (pv 2))))).pt (qb0 qS0) qb4)
        (qc6 (qB8 PassesOwn.never rfl (qt7 (qf3 (ixS K rfl) (pv 0) (qb1 qe2 (pv 1) (qd0 (v := .int 2) (by rfl) hf ⟨_, rfl⟩)) (fun _ _ => rfl))) (qc0 (i := 3) scEnd.nd rfl (Or.inl rfl))
          (qb0 (qn7 (qa8 ih hr (by rfl) hE F.kp bE .nil qb9 (qa0 (pv 0) (qa0 (pv 3) (qa0 (pv 2) qa3)))))))
        (qb0 (qn9 hu (pv 2) (qb1 qe2 (pv 1) (qd0 (v := .int 2) (by rfl) hf ⟨_, rfl⟩)) qn4 (by rfl)))), ?_⟩
      refine ⟨_, rfl, _, _, rfl, rfl, _, rfl, ?_⟩
      unfold dfs at q
      refine ite2 (fun hc => ?_) (fun hc => ?_)
      . have x2 : x < 2 := by have := of_decide_eq_true hc; lia
        rw [if_pos (.inl x2)] at q
        exact iteT (q H (But.refl e H) he)
      . have x2 : ¬ x < 2 := fun z => hc (decide_eq_true (by lia))
        have ex : (x : Int) - 2 = ((x - 2 : Nat) : Int) := by lia
        have dg : DGet H e (.int ((x : Int) - 2)) (valV (eK es) (Sum.inl ((x - 2 : Nat) : Int))) := by rw [ex]; exact DGet.k (k := Sum.inl ((x - 2 : Nat) : Int)) he
        refine ⟨_, rfl, _, _, rfl, rfl, _, rfl, e, _, rfl, dg, _, rfl, ?_⟩
        rw [eK_has]
        refine ite2 (fun hm => ?_) (fun hm => ?_)
        . rw [if_pos (.inr (of_decide_eq_true hm))] at q
          exact q H (But.refl e H) he
        . have hnm : x - 2 ∉ es := fun z => hm (decide_eq_true z)
          rw [if_neg (by rintro (z | z); exact x2 z; exact hnm z)] at q
          have hlt : x - 2 < rows.length := by lia
          have hg := qh7 hlt
          generalize rows.getD (x - 2) [] = r at q hg
          obtain ⟨bs, hp, hlen, hrow⟩ := id hR
          have hdx : dp rows (x - 2 + 2) ≤ d + 1 := by rw [show x - 2 + 2 = x by lia]; exact hd
          have hbx : bs[x - 2]? = some (bs[x - 2]'(by lia)) := by simp [show x - 2 < bs.length by lia]
          have hbt := hrow (x - 2) _ r hbx hg
          have nbe : ∀ b ∈ bs, b ≠ e := fun b hb z => by
            obtain ⟨j, hj, ej⟩ := List.mem_iff_getElem.mp hb
            have := hrow j b (rows[j]'(by lia)) (by rw [List.getElem?_eq_getElem hj, ej]) (List.getElem?_eq_getElem (by lia))
            rw [z, he] at this
            cases this
          have npe : p ≠ e := fun z => by
            rw [z, he] at hp
            rcases hp with hp | hp <;> cases hp
          have hRm : ∀ H2, But e H H2 -> RowsS H2 p rows := fun H2 s2 => ⟨bs, hp.imp (fun h => s2 _ _ h npe) (fun h => s2 _ _ h npe), hlen, fun i b r e1 e2 => s2 _ _ (hrow i b r e1 e2) (nbe b (List.mem_of_getElem? e1))⟩
          have ixx : ∀ Q' : VK, Q' (.ref (bs[x - 2]'(by lia))) H -> rIxS K (.ref p) (.int ((x : Int) - 2)) H Q' := fun Q' hQ => by
            rcases hp with h | h
            . exact .inr ⟨p, _, ((x - 2 : Nat) : Int), .ref (bs[x - 2]'(by lia)), rfl, congrArg V.int ex, SqT.of h, qj2 (by rw [List.getElem?_map, hbx]; rfl), hQ⟩
            . exact .inl ⟨p, _, ((x - 2 : Nat) : Int), .ref (bs[x - 2]'(by lia)), rfl, congrArg V.int ex, SqL.of h, qj2 (by rw [List.getElem?_map, hbx]; rfl), hQ⟩
          refine ⟨_, rfl, _, rfl, _, _, rfl, rfl, ixx _ ⟨_, rfl, ⟨_, SqT.of hbt⟩,
            qS3 (K := K) (xs := vN r) (fun i σ H2 => But e H H2 ∧ H2 e = some (.dK (eK ((r.take i).foldl (dfs rows d) es))) ∧ ∃ v3, σ = [some (.ref p), some (.int (x : Nat)), some (.ref e), v3])
            ⟨But.refl e H, he, none, rfl⟩ (fun i σ H2 _ ⟨s2, _⟩ => SqT.of (s2.tups he (fun u z => by cases z) _ _ hbt)) ?_ ?_⟩⟩
          . rintro i y σ H2 hy ⟨s2, he2, v3, rfl⟩
            obtain ⟨m, hm, rfl⟩ := qF4 hy
            have hq := List.mem_of_getElem? hm
            obtain ⟨b1, b2⟩ := qh2 ok hg hdx hq
            refine ⟨_, rfl, _, rfl, _, rfl, p, e, m, rows, (r.take i).foldl (dfs rows d) es, rfl, hRm H2 s2, ok, hn, b1, b2, qv9 ok hg hdx _ es (fun z hz => List.mem_of_mem_take hz) pe, he2, fun H3 s3 he3 => ⟨s2.trans s3, ?_, _, rfl⟩⟩
            have hml := (List.getElem?_eq_some_iff.mp hm).1
            have hme := (List.getElem?_eq_some_iff.mp hm).2
            rw [← List.take_append_getElem hml, List.foldl_append, hme]
            exact he3
          . rintro σ H2 ⟨s2, he2, v3, rfl⟩
            rw [qh8, List.take_length] at he2
            have pf := qv9 ok hg hdx r es (fun z hz => hz) pe
            have fin := (qf5 ok (d + 1) es x pe hx hd).1
            unfold dfs at fin
            rw [if_neg (by rintro (z | z); exact x2 z; exact hnm z)] at fin
            have eg : rows.getD (x - 2) [] = r := by
              rw [List.getD_eq_getElem?_getD, hg]; rfl
            rw [eg] at fin
            have hni : x - 2 ∉ r.foldl (dfs rows d) es := fun z => by
              have := (List.nodup_append.mp fin.nd).2.2 (x - 2) z (x - 2) (by simp)
              exact this rfl
            have dq : DPut H2 e (.int ((x : Int) - 2)) (.bl true) (upd H2 e (.dK (eK (r.foldl (dfs rows d) es ++ [x - 2])))) := by
              rw [ex, ← eK_put hni]
              refine DPut.k (k := Sum.inl ((x - 2 : Nat) : Int)) he2 ?_
              unfold eK
              rw [List.length_map]
              exact qb8 (by have := qA4 pf; lia)
            exact ⟨_, rfl, _, rfl, _, _, rfl, rfl, e, _, rfl, dq, q _ (s2.trans But.upd) qa1⟩
theorem scPlaces : FnScope ["rows", "top", "ended"] ["rows", "top"] (qa7 qv4) := ⟨rfl, rfl, rfl, by decide +kernel, rfl, by decide +kernel, by decide +kernel⟩
def qs8 (d : Nat) : Sp := fun vs H Q _ => ∃ (p : Addr) (x : Nat) (rows : List Row), vs = [.ref p, .int (x : Nat)] ∧ RowsS H p rows ∧ qc5 rows ∧ rows.length ≤ 900 ∧ x < rows.length + 2 ∧ dp rows x ≤ d ∧
  ∀ H' D, Same H H' -> H' D = some (.lst (vN (dfs rows d [] x))) -> Q (.ref D) H'
theorem qF5 {f fE : Addr} {fd fdE : FuncData} (F : Fun K "places_as_ended" "places_as_ended" qv4 f fd) (B : Blt mg) (T : Cst mg) (hE : mg "end_rows" = some (.ref fE)) (FE : Fun K "end_rows" "end_rows" sEnd fE fdE) (bE : Binds K fdE ["rows", "number", "ended"] []) (d : Nat) : FnOk P w K mg base CX0 (d + 2) f fd ["rows", "top"] (qs8 d) := by
  have GE : FnOk P w K mg base CX0 (d + 1) fE fdE ["rows", "number", "ended"] (spEnd d) := ok_end FE T hE bE d
  refine F.ok scPlaces (fun vs H Q E h => ?_) (fun cdv A outer s H vs Q E hr h => ?_)
  . obtain ⟨p, x, rows, rfl, _⟩ := h
    rfl
  . obtain ⟨p, x, rows, rfl, hR, ok, hn, hx, hd, q⟩ := h
    refine ⟨_, qc6 (qc4 (i := 2) scPlaces.nd rfl (Or.inl rfl) pe_dict0)
      (qc6 (qn7 (qa8 GE hr (by rfl) hE FE.kp bE .nil qb9 (qa0 (pv 0) (qa0 (pv 1) (qa0 (pv 2) qa3)))))
      (qb0 (qb3 (qc9 (qP5 rfl) (by rfl) B.list PyProof.Rows.boot_list (qa0 (pv 2) qa3))))), ?_⟩
    refine fun e he => ⟨_, rfl, _, rfl, _, rfl, p, e, x, rows, [], rfl, hR.same (qb7 he), ok, hn, hx, hd, qi5 rows, qa1, fun H2 s2 he2 => ?_⟩
    refine ⟨_, rfl, e, _, rfl, he2, fun l hl => q _ l ?_ ?_⟩
    . intro b o z
      have nb : b ≠ e := qa2 z he
      exact qc3 (s2 b o (qc3 z he) nb) hl
    . rw [qa1]
      unfold eK vN
      rw [List.map_map]
      rfl
end
end Pr
set_option Elab.async false
set_option linter.all false
set_option maxRecDepth 100000
set_option maxHeartbeats 4000000
namespace Pr
open PySem L2 Qf
def TellAt (H : Hp) (t : Addr) (n top : Nat) (rows : List Row) : Prop := ∃ p : Addr, H t = some (.tup [.int (n : Nat), .int (top : Nat), .ref p]) ∧ RowsAt H p rows
theorem TellAt.mono {H H' : Hp} {t : Addr} {n top : Nat} {rows : List Row} (h : TellAt H t n top rows) (s : Tups H H') : TellAt H' t n top rows := by
  obtain ⟨p, h1, h2⟩ := h
  exact ⟨p, s _ _ h1, h2.mono s⟩
theorem all_yes {ys : List V} (h : ∀ (i : Nat) y, ys[i]? = some y -> y = .bl true) : ys = (List.replicate ys.length true).map V.bl := by
  refine qi7 (by simp) fun i x hx => ?_
  have hi := (List.getElem?_eq_some_iff.mp hx).1
  rw [h i x hx]
  simp [hi]
theorem rep_all (k : Nat) : (List.replicate k true).all id = true := by
  rw [List.all_eq_true]
  intro x hx
  exact (List.mem_replicate.mp hx).2
section
variable {P : Program} {w : World} {K : PySem.W.Frag} {mg : Str -> Option Value} {base : Heap}
theorem scRow : FnScope ["thing", "before"] ["thing", "before"] (qa7 sRow) := ⟨rfl, rfl, rfl, by decide +kernel, rfl, by decide +kernel, by decide +kernel⟩
def spRow : Sp := fun vs H Q _ => ∃ (b : Addr) (i : Nat) (r : Row), vs = [.ref b, .int (i : Nat)] ∧ H b = some (.tup (vN r)) ∧ RowOk i r ∧ ∀ H', Same H H' -> Q (.bl true) H'
theorem ok_row {f fN : Addr} {fd fdN : FuncData} (F : Fun K "is_row" "is_row" sRow f fd) (B : Blt mg) (hN : mg "is_number" = some (.ref fN)) (FN : Fun K "is_number" "is_number" qv5 fN fdN) (bN : Binds K fdN ["thing", "many"] []) (GN : FnOk P w K mg base CX0 2 fN fdN ["thing", "many"] qA3) : FnOk P w K mg base CX0 3 f fd ["thing", "before"] spRow := by
  refine F.ok scRow (fun vs H Q E h => ?_) (fun cdv A outer s H vs Q E hr h => ?_)
  . obtain ⟨b, i, r, rfl, _⟩ := h
    rfl
  . obtain ⟨b, i, r, rfl, hb, rk, q⟩ := h
    refine ⟨_, qc6 (qe0 (qq7 (ql5 (qg8 (qa9 qp0 (by rfl) B.isi PyProof.Rows.boot_isinstance (qa0 (pv 0) (qa0 (qt3 (v := .ty "tuple") (by rfl) B.tuple PyProof.Rows.boot_tuple rfl) qa3)))))
        (qk8 (qb5 qI2 (qa9 qd6 (by rfl) B.len PySem.boot_len (qa0 (pv 0) qa3)) qa4 (qb6 _)))).pt (qb0 (qb3 qn4)) qb4)
      (qb0 (qb3 (qa9 (qu5 rfl) (by rfl) B.all PyProof.Rows.boot_all (qa0 (qf4 ["thing", "before"] (qa7 sRow) rfl rfl rfl scRow.nd (piT K rfl (pv 0)) (fun cl C fp s₀ H₀ => qa8 GN hr (by rfl) hN FN.kp bN .nil qb9 (qa0 (pv 0) (qa0 (pv 2) qa3)))) qa3)))), ?_⟩
    refine ⟨_, rfl, _, _, _, _, true, rfl, rfl, .inl (.tup hb), rfl, _, rfl, iteF ⟨_, rfl, b, _, rfl, .inr (SqT.of hb), rfl, _, rfl, iteNS (by rw [qh8, rk.1]; rfl) ?_⟩⟩
    refine ⟨_, rfl, b, rfl, ⟨_, SqT.of hb⟩, fun D hD => qg4 hD (fun _ z _ => z = .bl true) (qs7 (K := K) hb) (by rw [qh8, rk.1]; decide) (fun _ _ _ _ _ _ h => h) ?_ ?_⟩
    . intro j x H3 hj hx s3 Q' hq
      obtain ⟨m, hm, rfl⟩ := qF4 hx
      exact ⟨_, rfl, _, rfl, m, i, rfl, rk.2 m (List.mem_of_getElem? hm), hq _ _ (Same.refl _) rfl⟩
    . intro ys H3 s3 hd3 hly hys
      have e := all_yes hys
      refine ⟨D, List.replicate ys.length true, rfl, by rw [← e]; exact hd3, ?_⟩
      rw [rep_all]
      exact q H3 s3
theorem scRows : FnScope ["thing"] ["thing"] (qa7 sRows) := ⟨rfl, rfl, rfl, by decide +kernel, rfl, by decide +kernel, by decide +kernel⟩
def spRows : Sp := fun vs H Q _ => ∃ (p : Addr) (rows : List Row), vs = [.ref p] ∧ RowsAt H p rows ∧ qc5 rows ∧ rows.length ≤ 900 ∧ ∀ H', Same H H' -> Q (.bl true) H'
theorem ok_rows {f fR : Addr} {fd fdR : FuncData} (F : Fun K "are_rows" "are_rows" sRows f fd) (B : Blt mg) (hR : mg "is_row" = some (.ref fR)) (FR : Fun K "is_row" "is_row" sRow fR fdR) (bR : Binds K fdR ["thing", "before"] []) (GR : FnOk P w K mg base CX0 3 fR fdR ["thing", "before"] spRow) : FnOk P w K mg base CX0 4 f fd ["thing"] spRows := by
  refine F.ok scRows (fun vs H Q E h => ?_) (fun cdv A outer s H vs Q E hr h => ?_)
  . obtain ⟨p, rows, rfl, _⟩ := h
    rfl
  . obtain ⟨p, rows, rfl, hRows, ok, hn, q⟩ := h
    obtain ⟨bs, hp, hlen, hrow⟩ := id hRows
    refine ⟨_, qb0 (qb3 (qt6 (qa9 qp0 (by rfl) B.isi PyProof.Rows.boot_isinstance (qa0 (pv 0) (qa0 (qt3 (v := .ty "tuple") (by rfl) B.tuple PyProof.Rows.boot_tuple rfl) qa3)))
      (qt5 (qa9 (qu5 rfl) (by rfl) B.all PyProof.Rows.boot_all (qa0 (pe_comp2 ["thing"] (qa7 sRows) rfl rfl rfl scRows.nd (pi_enumT (by rfl) B.enum (qa0 (pv 0) qa3)) (fun cl C fp s₀ H₀ => qa8 GR hr (by rfl) hR FR.kp bR .nil qb9 (qa0 (pv 1) (qa0 (pv 0) qa3)))) qa3))))), ?_⟩
    refine ⟨_, rfl, _, _, _, _, true, rfl, rfl, .inl (.tup hp), rfl, _, rfl, iteT ?_⟩
    have hlb : (bs.map V.ref).length = rows.length := by rw [List.length_map]; exact hlen
    refine ⟨_, rfl, p, rfl, ⟨_, SqT.of hp⟩, fun D hD => qq9 hD (fun _ => true) (fun _ => .bl true) (goes_enum (K := K) hp) (by rw [hlb]; exact qb8 (by lia)) ?_ ?_⟩
    . rintro i x H2 hi ⟨t, y, rfl, hy, ht⟩ s2 os ho Q1 Q2 q1 q2
      match os, ho with
      | [o1, o2], _ =>
        have hi2 : i < rows.length := by rw [← hlb]; exact hi
        rw [List.getElem?_map] at hy
        obtain ⟨b, hb, rfl⟩ := Option.map_eq_some_iff.mp hy
        have hr1 : rows[i]? = some rows[i] := by simp [hi2]
        refine ⟨t, _, rfl, SqT.of ht, rfl, _, _, rfl, _, _, rfl, rfl, ?_⟩
        refine iteT (B := Q1 H2) ?_
        exact ⟨_, rfl, _, rfl, b, i, rows[i], rfl, s2 _ _ (hrow i b _ hb hr1), ok i _ hr1, fun H3 s3 => q2 rfl H3 s3⟩
    . intro H2 s2 hd2
      refine ⟨D, List.replicate (bs.map V.ref).length true, rfl, ?_, ?_⟩
      . rw [hd2]
        congr 2
        rw [List.map_replicate, List.filter_eq_self.mpr (fun _ _ => rfl)]
        refine qi7 (by simp) fun i x hx => ?_
        have hi := (List.getElem?_eq_some_iff.mp hx).1
        rw [List.getElem?_map] at hx
        obtain ⟨_, _, rfl⟩ := Option.map_eq_some_iff.mp hx
        simp at hi
        rw [List.length_map, List.getElem?_replicate, if_pos hi]
      . rw [rep_all]
        exact q H2 s2
theorem scTelling : FnScope ["thing", "n", "top", "rows"] ["thing"] (qa7 qs6) := ⟨rfl, rfl, rfl, by decide +kernel, rfl, by decide +kernel, by decide +kernel⟩
def qF6 : Sp := fun vs H Q _ => ∃ (t : Addr) (n tp : Nat) (rows : List Row), vs = [.ref t] ∧ TellAt H t n tp rows ∧ n ≤ 12 ∧ qc5 rows ∧ rows.length ≤ 900 ∧ tp < rows.length + 2 ∧ dp rows tp ≤ n ∧ ∀ H', Same H H' -> Q (.bl true) H'
theorem qQ3 {f fS fR fN fD : Addr} {fd fdS fdR fdN fdD : FuncData} (F : Fun K "is_telling" "is_telling" qs6 f fd) (B : Blt mg)
    (hS : mg "is_size" = some (.ref fS)) (FS : Fun K "is_size" "is_size" sSize fS fdS) (bS : Binds K fdS ["thing"] []) (GS : FnOk P w K mg base CX0 2 fS fdS ["thing"] spSize)
    (hR : mg "are_rows" = some (.ref fR)) (FR : Fun K "are_rows" "are_rows" sRows fR fdR) (bR : Binds K fdR ["thing"] []) (GR : FnOk P w K mg base CX0 4 fR fdR ["thing"] spRows)
    (hN : mg "is_number" = some (.ref fN)) (FN : Fun K "is_number" "is_number" qv5 fN fdN) (bN : Binds K fdN ["thing", "many"] []) (GN : FnOk P w K mg base CX0 2 fN fdN ["thing", "many"] qA3)
    (hD : mg "depths_of" = some (.ref fD)) (FD : Fun K "depths_of" "depths_of" sDeps fD fdD) (bD : Binds K fdD ["rows"] []) : FnOk P w K mg base CX0 5 f fd ["thing"] qF6 := by
  have GD : FnOk P w K mg base CX0 1 fD fdD ["rows"] spDeps := ok_deps FD B
  refine F.ok scTelling (fun vs H Q E h => ?_) (fun cdv A outer s H vs Q E hr h => ?_)
  . obtain ⟨t, n, tp, rows, rfl, _⟩ := h
    rfl
  . obtain ⟨t, n, tp, rows, rfl, ⟨p, ht, hRows⟩, hn, ok, hl, htp, hd, q⟩ := h
    have hr1 : Room 1 _ := hr.mono (by decide)
    have hr2 : Room 2 _ := hr.mono (by decide)
    refine ⟨_, qc6 (qe0 (qq7 (ql5 (qg8 (qa9 qp0 (by rfl) B.isi PyProof.Rows.boot_isinstance (qa0 (pv 0) (qa0 (qt3 (v := .ty "tuple") (by rfl) B.tuple PyProof.Rows.boot_tuple rfl) qa3)))))
        (qk8 (qb5 qI2 (qa9 qd6 (by rfl) B.len PySem.boot_len (qa0 (pv 0) qa3)) qa4 (qb6 _)))).pt (qb0 (qb3 qn4)) qb4)
      (qc6 (qr8 (pv 0) (qr7 rfl (qc2 (qc0 (i := 1) scTelling.nd rfl (Or.inl rfl)) (qc2 (qc0 (i := 2) scTelling.nd rfl (Or.inl rfl)) (qc2 (qc0 (i := 3) scTelling.nd rfl (Or.inl rfl)) ql6)))))
      (qc6 (qe0 (qq7 (ql5 (qg8 (qa8 GS hr2 (by rfl) hS FS.kp bS .nil qb9 (qa0 (pv 1) qa3))))
        (qq7 (ql5 (qg8 (qa8 GR hr (by rfl) hR FR.kp bR .nil qb9 (qa0 (pv 3) qa3))))
        (qk8 (ql5 (qg8 (qa8 GN hr2 (by rfl) hN FN.kp bN .nil qb9 (qa0 (pv 2) (qa0 (qa9 qd6 (by rfl) B.len PySem.boot_len (qa0 (pv 3) qa3)) qa3)))))))).pt (qb0 (qb3 qn4)) qb4)
      (qb0 (qb3 (qg6 qw9 (qf3 qj9 (qa8 GD hr1 (by rfl) hD FD.kp bD .nil qb9 (qa0 (pv 3) qa3)) (pv 2) (fun _ _ => rfl)) (pv 1) (qb6 _)))))), ?_⟩
    refine ⟨_, rfl, _, _, _, _, true, rfl, rfl, .inl (.tup ht), rfl, _, rfl, iteF ⟨_, rfl, t, _, rfl, .inr (SqT.of ht), rfl, _, rfl, iteF ?_⟩⟩
    refine ⟨_, rfl, t, _, rfl, SqT.of ht, rfl, _, _, rfl, _, _, rfl, _, _, rfl, rfl, ?_⟩
    refine ⟨_, rfl, n, rfl, hn, _, rfl, iteF ⟨_, rfl, p, rows, rfl, hRows, ok, hl, fun H2 s2 => ⟨_, rfl, iteF ?_⟩⟩⟩
    obtain ⟨bs, hp, hlen, hrow⟩ := id hRows
    refine ⟨_, rfl, _, rfl, p, _, rfl, .inr (SqT.of (s2 _ _ hp)), tp, rows.length, by rw [List.length_map, hlen]; rfl, htp, _, rfl, iteF ?_⟩
    refine ⟨_, rfl, p, rows, rfl, hRows.same s2, ok, hl, fun H3 D s3 hd3 => ?_⟩
    refine ⟨_, rfl, D, _, (tp : Int), .int (dp rows tp : Nat), rfl, rfl, SqL.of hd3, vN_atI (dp_get htp), _, rfl, _, _, rfl, rfl, ?_⟩
    show Q (V.bl (decide ((dp rows tp : Int) ≤ (n : Int)))) H3
    rw [decide_eq_true (by lia)]
    exact q H3 (s2.trans s3)
end
end Pr
set_option Elab.async false
set_option linter.all false
set_option maxRecDepth 100000
set_option maxHeartbeats 4000000
namespace Pr
open PySem L2 Qf
def qh9 (H : Hp) (t : Addr) (n top : Nat) (rows : List Row) : Prop := TellAt H t n top rows ∧ Canon n top rows ∧ rows.length ≤ 900
def keyN (r : List Nat) : List Key := r.map fun n : Nat => Sum.inl (n : Int)
theorem qk9 (r : List Nat) : (keyN r).map kV = vN r := by unfold keyN vN; rw [List.map_map]; rfl
theorem qk2 {l m : List Nat} (h : keyN l = keyN m) : l = m := by
  have : vN l = vN m := by rw [← qk9, ← qk9, h]
  rw [qv8, qv8] at this
  exact int_inj ((List.map_inj_right (fun _ _ z => V.int.inj z)).mp this)
theorem qQ4 {rows : List Row} (h : rows.Nodup) : (rows.map keyN).Nodup := by
  rw [nd_iff] at h ⊢
  intro i j hij hj z
  rw [List.length_map] at hj
  refine h i j hij hj ?_
  rw [List.getElem?_map, List.getElem?_map, List.getElem?_eq_getElem (by lia), List.getElem?_eq_getElem hj] at z
  rw [List.getElem?_eq_getElem (by lia), List.getElem?_eq_getElem hj]
  congr 1
  exact qk2 (Option.some.inj z)
theorem qQ5 (ns : List Int) : PyData.depthAll (ns.map PyData.int) ≤ 1 := by
  induction ns with
  | nil => simp [PyData.depthAll]
  | cons a ns ih =>
    rw [List.map_cons]
    simp only [PyData.depthAll, PyData.depth]
    lia
theorem qM6 (ns : List Int) : (dL ns).depth ≤ 2 := by
  have := qQ5 ns
  unfold dL
  simp only [PyData.depth]
  lia
section
variable {P : Program} {w : World} {K : PySem.W.Frag} {mg : Str -> Option Value} {base : Heap}
theorem scShape : FnScope ["thing", "top", "rows"] ["thing"] (qa7 qE3) := ⟨rfl, rfl, rfl, by decide +kernel, rfl, by decide +kernel, by decide +kernel⟩
def spShape : Sp := fun vs H Q _ => ∃ (t : Addr) (n tp : Nat) (rows : List Row), vs = [.ref t] ∧ qh9 H t n tp rows ∧ ∀ H', Same H H' -> Q (.bl true) H'
theorem ok_shape {f fT fP fA : Addr} {fd fdT fdP fdA : FuncData} (F : Fun K "is_shape" "is_shape" qE3 f fd) (B : Blt mg) (T : Cst mg)
    (hT : mg "is_telling" = some (.ref fT)) (FT : Fun K "is_telling" "is_telling" qs6 fT fdT) (bT : Binds K fdT ["thing"] []) (GT : FnOk P w K mg base CX0 5 fT fdT ["thing"] qF6)
    (hP : mg "is_plain" = some (.ref fP)) (FP : Fun K "is_plain" "is_plain" qy4 fP fdP) (bP : Binds K fdP ["row"] [])
    (hA : mg "places_as_ended" = some (.ref fA)) (FA : Fun K "places_as_ended" "places_as_ended" qv4 fA fdA) (bA : Binds K fdA ["rows", "top"] []) (GA : ∀ d, FnOk P w K mg base CX0 (d + 2) fA fdA ["rows", "top"] (qs8 d)) : FnOk P w K mg base CX0 15 f fd ["thing"] spShape := by
  have GP : FnOk P w K mg base CX0 2 fP fdP ["row"] qJ5 := qM5 FP T
  refine F.ok scShape (fun vs H Q E h => ?_) (fun cdv A outer s H vs Q E hr h => ?_)
  . obtain ⟨t, n, tp, rows, rfl, _⟩ := h
    rfl
  . obtain ⟨t, n, tp, rows, rfl, ⟨hTell, cn, hl⟩, q⟩ := h
    obtain ⟨p, ht, hRows⟩ := id hTell
    obtain ⟨bs, hp, hlen, hrow⟩ := id hRows
    have hr2 : Room 2 _ := hr.mono (by decide)
    have hr5 : Room 5 _ := hr.mono (by decide)
    have hrA : Room (n + 2) _ := hr.mono (by have := cn.size; lia)
    refine ⟨_, qc6 (qe0 (ql5 (qg8 (qa8 GT hr5 (by rfl) hT FT.kp bT .nil qb9 (qa0 (pv 0) qa3)))) (qb0 (qb3 qn4)) qb4)
      (qc6 (qr8 (pe_slice sl_tup (pv 0) (po_some qa4) po_none) (qr7 rfl (qc2 (qc0 (i := 1) scShape.nd rfl (Or.inl rfl)) (qc2 (qc0 (i := 2) scShape.nd rfl (Or.inl rfl)) ql6))))
      (qc6 (qe0 (PW.pt (qq7 (qg8 (qa9 (qv3 rfl) (by rfl) B.any PyProof.Rows.boot_any (qa0 (qf4 ["thing", "top", "rows"] (qa7 qE3) rfl rfl rfl scShape.nd (piT K rfl (pv 2)) (fun cl C fp s₀ H₀ => qa8 GP hr2 (by rfl) hP FP.kp bP .nil qb9 (qa0 (pv 0) qa3))) qa3)))
        (qk8 (qb5 qn5 (qa9 qI8 (by rfl) B.len PySem.boot_len (qa0 (qc9 (qV7 rfl hr) (by rfl) B.set PyProof.Rows.boot_set (qa0 (pv 2) qa3)) qa3)) (qa9 qd6 (by rfl) B.len PySem.boot_len (qa0 (pv 2) qa3)) (qb6 _))))) (qb0 (qb3 qn4)) qb4)
      (qb0 (qb3 (qg6 (qL3 hr) (qa8 (GA n) hrA (by rfl) hA FA.kp bA .nil qb9 (qa0 (pv 2) (qa0 (pv 1) qa3)))
        (qc9 (qP6 rfl) (by rfl) B.list PyProof.Rows.boot_list (qa0 (qc9 qD9 (by rfl) B.range PyProof.Rows.boot_range (qa0 (qa9 qd6 (by rfl) B.len PySem.boot_len (qa0 (pv 2) qa3)) qa3)) qa3)) (qb6 _)))))), ?_⟩
    refine ⟨_, rfl, t, n, tp, rows, rfl, hTell, cn.size, cn.rok, hl, cn.inn, cn.deep, fun H1 s1 => ⟨_, rfl, iteF ?_⟩⟩
    have ht1 := s1 _ _ ht
    refine ⟨_, rfl, _, rfl, t, _, rfl, SqT.of ht1, (fun z => absurd (show HT.sIx 3 0 (some 1) = 0 from z.1) (by decide)), fun u hu => ?_⟩
    refine ⟨u, _, rfl, SqT.of qa1, rfl, _, _, rfl, _, _, rfl, rfl, ?_⟩
    have sA : Same H (upd H1 u (.tup [.int (tp : Nat), .ref p])) := s1.trans (qb7 hu)
    refine (fun (go : ∀ H2, Same H H2 -> _) => go _ sA) ?_
    intro H2 s2
    have hp2 := s2 _ _ hp
    have hlb : (bs.map V.ref).length = rows.length := by rw [List.length_map]; exact hlen
    refine ⟨_, rfl, p, rfl, ⟨_, SqT.of hp2⟩, fun D hD => qg4 hD (fun _ z _ => z = .bl false) (qs7 (K := K) hp2) (by rw [hlb]; exact qb8 (by lia)) (fun _ _ _ _ _ _ h => h) ?_ ?_⟩
    . intro j x H3 hj hx s3 Q' hq
      have hj2 : j < rows.length := by rw [← hlb]; exact hj
      rw [List.getElem?_map] at hx
      obtain ⟨b, hb, rfl⟩ := Option.map_eq_some_iff.mp hx
      have hr1 : rows[j]? = some rows[j] := by simp [hj2]
      refine ⟨_, rfl, b, rows[j], rfl, s3 _ _ (s2 _ _ (hrow j b _ hb hr1)), (cn.rok j _ hr1).1, fun H4 s4 => hq _ _ s4 ?_⟩
      rw [decide_eq_false (cn.unplain _ (List.getElem_mem hj2))]
    . intro ys H3 s3 hd3 hly hys
      have e : ys = (List.replicate ys.length false).map V.bl := by
        refine qi7 (by simp) fun i x hx => ?_
        have hi := (List.getElem?_eq_some_iff.mp hx).1
        rw [hys i x hx]
        simp [hi]
      have s23 : Same H H3 := s2.trans s3
      refine ⟨D, List.replicate ys.length false, rfl, by rw [← e]; exact hd3, _, rfl, ?_⟩
      have na : (List.replicate ys.length false).any id = false := by
        rw [List.any_eq_false]
        intro x hx
        rw [(List.mem_replicate.mp hx).2]
        decide
      rw [na]
      refine iteF ?_
      have hp3 := s23 _ _ hp
      refine ⟨_, rfl, p, bs, rows.map keyN, rfl, hp3, by rw [List.length_map]; exact hlen, fun i b ks e1 e2 => ?_, qQ4 cn.unlike, by rw [List.length_map]; lia, fun r hr' => ?_⟩
      . rw [List.getElem?_map] at e2
        obtain ⟨r0, hr0, rfl⟩ := Option.map_eq_some_iff.mp e2
        rw [qk9]
        exact s23 _ _ (hrow i b r0 e1 hr0)
      . have s4 : Same H (upd H3 r (.ext (SetN r (rows.map keyN).length))) := s23.trans (qb7 hr')
        have hp4 := s4 _ _ hp
        refine ⟨r, _, rfl, qa1, by rw [List.length_map]; lia, _, rfl, p, _, rfl, .inr (SqT.of hp4), _, _, rfl, rfl, _, rfl, ?_⟩
        have nl : decide (((rows.map keyN).length : Int) < ((bs.map V.ref).length : Int)) = false := decide_eq_false (by rw [hlb, List.length_map]; lia)
        rw [nl]
        refine iteF ?_
        refine (fun (go : ∀ H5, Same H H5 -> _) => go _ s4) ?_
        intro H5 s5
        refine ⟨_, rfl, _, rfl, p, tp, rows, rfl, (hRows.same s5).s, cn.rok, hl, cn.inn, cn.deep, fun H6 D6 s6 hd6 => ?_⟩
        have hp6 := s6 _ _ (s5 _ _ hp)
        refine ⟨_, rfl, p, _, rfl, .inr (SqT.of hp6), _, rfl, fun g hg => ⟨g, rows.length, rfl, by rw [qa1, hlb], by lia, fun l hl' => ?_⟩⟩
        have hd7 := qc3 (u := .lst ((List.range rows.length).map fun (i : Nat) => V.int (i : Int))) (qc3 (u := .rng 0 ((bs.map V.ref).length : Int)) hd6 hg) hl'
        rw [cn.ends, qv8] at hd7
        have e9 : ((List.range rows.length).map fun (i : Nat) => V.int (i : Int)) = ((List.range rows.length).map fun n : Nat => (n : Int)).map V.int := qv8 _
        refine ⟨dL ((List.range rows.length).map fun n : Nat => (n : Int)), dL ((List.range rows.length).map fun n : Nat => (n : Int)), .lst hd7 (DatasAt.ints _), .lst qa1 (e9 ▸ DatasAt.ints _), qL4 _, qL4 _, ?_, ?_⟩
        . exact Nat.le_trans (qM6 _) (by decide)
        . rw [dL_eqv, decide_eq_true rfl]
          exact q _ (s5.trans (s6.trans ((qb7 hg).trans (qb7 hl'))))
end
end Pr
set_option Elab.async false
set_option linter.all false
set_option maxRecDepth 100000
set_option maxHeartbeats 4000000
namespace Pr
open PySem L2 Qf
section
variable {P : Program} {w : World} {K : PySem.W.Frag} {mg : Str -> Option Value} {base : Heap}
theorem scWantS : FnScope ["shape"] ["shape"] (qa7 qE4) := ⟨rfl, rfl, rfl, by decide +kernel, rfl, by decide +kernel, by decide +kernel⟩
def qJ6 : Sp := fun vs H Q _ => ∃ (t : Addr) (n tp : Nat) (rows : List Row), vs = [.ref t] ∧ qh9 H t n tp rows ∧ ∀ H', Same H H' -> Q .non H'
theorem ok_wantS {f fS : Addr} {fd fdS : FuncData} (F : Fun K "want_shape" "want_shape" qE4 f fd)
    (hS : mg "is_shape" = some (.ref fS)) (FS : Fun K "is_shape" "is_shape" qE3 fS fdS) (bS : Binds K fdS ["thing"] []) (GS : FnOk P w K mg base CX0 15 fS fdS ["thing"] spShape) : FnOk P w K mg base CX0 16 f fd ["shape"] qJ6 := by
  refine F.ok scWantS (fun vs H Q E h => ?_) (fun cdv A outer s H vs Q E hr h => ?_)
  . obtain ⟨t, n, tp, rows, rfl, _⟩ := h
    rfl
  . obtain ⟨t, n, tp, rows, rfl, hSh, q⟩ := h
    refine ⟨_, qb0 (qe0 (ql5 (qg8 (qa8 GS hr (by rfl) hS FS.kp bS .nil qb9 (qa0 (pv 0) qa3)))) qe8 qb4), ?_⟩
    exact ⟨_, rfl, t, n, tp, rows, rfl, hSh, fun H1 s1 => ⟨_, rfl, iteF (q H1 s1)⟩⟩
end
end Pr
set_option Elab.async false
set_option linter.all false
set_option maxRecDepth 100000
set_option maxHeartbeats 4000000
namespace L2
open PySem
theorem beq_inst {α : Type} {i1 i2 : BEq α} (h1 : @LawfulBEq α i1) (h2 : @LawfulBEq α i2) : i1 = i2 := by
  have : ∀ a b, @BEq.beq α i1 a b = @BEq.beq α i2 a b := fun a b => by
    rw [Bool.eq_iff_iff, @beq_iff_eq α i1 h1, @beq_iff_eq α i2 h2]
  cases i1; cases i2
  congr 1
  funext a b
  exact this a b
inductive Ars (X : Cx) : List Expr -> TA -> Prop
  | nil : Ars X [] tNil
  | cons {e : Expr} {es : List Expr} {te : TE} {t : TA} (h : PE X e te) (r : Ars X es t) (hs : starEach (e :: es) X.env = (false, eval e X.env) :: starEach es X.env) : Ars X (e :: es) (qj1 te t)
theorem Ars.go {X : Cx} : ∀ {es : List Expr} {t : TA}, Ars X es t -> PA X es t
  | _, _, .nil => qa3
  | _, _, .cons h r hs => qa0 h r.go hs
structure PEb (X : Cx) (e : Expr) (t : TE) : Prop where
  go : PE X e t
structure PSb (X : Cx) (st : Stmt) (t : TS) : Prop where
  go : PS X st t
inductive StB (X : Cx) : List Stmt -> TS -> Prop
  | one {st : Stmt} {t : TS} (h : PSb X st t) : StB X [st] t
  | cons {st : Stmt} {rest : List Stmt} {t u : TS} (h : PSb X st t) (r : StB X rest u) : StB X (st :: rest) (tSeq t u)
theorem StB.go {X : Cx} : ∀ {l : List Stmt} {t : TS}, StB X l t -> PSs X l t
  | _, _, .one h => qb0 h.go
  | _, _, .cons h r => qc6 h.go r.go
theorem seqE {X : Cx} {st : Stmt} {rest : List Stmt} {R : TS -> Prop} (h : ∃ t, PSb X st t ∧ ∃ u, PSs X rest u ∧ R (tSeq t u)) : ∃ t, PSs X (st :: rest) t ∧ R t := by
  obtain ⟨t, h1, u, h2, h3⟩ := h
  exact ⟨_, qc6 h1.go h2, h3⟩
theorem qi2 {X : Cx} {st : Stmt} {R : TS -> Prop} (h : ∃ t, PSb X st t ∧ R t) : ∃ t, PSs X [st] t ∧ R t := by
  obtain ⟨t, h1, h3⟩ := h
  exact ⟨_, qb0 h1.go, h3⟩
inductive Ars2 (X : Cx) : List Expr -> TA -> Prop
  | nil : Ars2 X [] tNil
  | cons {e : Expr} {es : List Expr} {te : TE} {t : TA} (h : PEb X e te) (r : Ars2 X es t) (hs : starEach (e :: es) X.env = (false, eval e X.env) :: starEach es X.env) : Ars2 X (e :: es) (qj1 te t)
theorem Ars2.go {X : Cx} : ∀ {es : List Expr} {t : TA}, Ars2 X es t -> PA X es t
  | _, _, .nil => qa3
  | _, _, .cons h r hs => qa0 h.go r.go hs
theorem pe_bmb {X : Cx} {T id : String} {name : Str} {r : V -> List V -> Hp -> VK -> Prop} {o e : Expr} {es : List Expr} {to : TE} {t : TA} {apos cpos : Pos} (pa : PlainAttrs T) (slot : Slot T name id) (hty : typeOf (.builtin id) = pure (.type "method_descriptor")) (hm : MtR X id r) (ho : PEb X o to) (ha : Ars2 X (e :: es) t)
    (hbase : attributeBase o name X.env (eval o X.env) = eval o X.env := by rfl)
    (hfew : ((backTo cpos (starEach (e :: es) X.env)).all (fun x => !x.1) && (backToKw cpos (keywordEach [] X.env)).all (fun x => x.1.isSome)
      && decide ((e :: es).length + ([] : List Keyword).length + (if ([] : List Keyword).isEmpty then 0 else 1) < 30)) = true := by rfl)
    (hline : (apos.endLine == cpos.line) = true := by rfl) (hs : starEach (e :: es) X.env = (false, eval e X.env) :: starEach es X.env := by rfl) (hplain : (backTo cpos (starEach es X.env)).any (·.1) = false := by rfl) :
    PEb X (.Call (.Attribute o name apos) (e :: es) [] cpos) (tBM X.K T r to t) := ⟨pe_bm pa slot hty hm ho.go ha.go hbase hfew hline hs hplain⟩
inductive Prs (X : Cx) (pos : Pos) : List (Option Expr) -> List Expr -> List (TE × TE) -> Prop
  | nil : Prs X pos [] [] []
  | cons {k v : Expr} {ks : List (Option Expr)} {vs : List Expr} {tk tv : TE} {trs : List (TE × TE)} (hk : PEb X k tk) (hv : PEb X v tv) (r : Prs X pos ks vs trs) : Prs X pos (some k :: ks) (v :: vs) ((tk, tv) :: trs)
theorem Prs.go {X : Cx} {pos : Pos} : ∀ {ks : List (Option Expr)} {vs : List Expr} {trs : List (TE × TE)}, Prs X pos ks vs trs -> PPs X pos ks vs trs
  | _, _, _, .nil => pps_nil
  | _, _, _, .cons hk hv r => pps_cons hk.go hv.go r.go
theorem pe_dispTs {X : Cx} {pos : Pos} {keys : List (Option Expr)} {values : List Expr} {trs : List (TE × TE)} (hu : X.A.units < cLine) (h : Prs X pos keys values trs) (hall : keys.all (·.isSome) = true) (hl : keys.length = values.length) (h0 : keys ≠ [])
    (h15 : keys.length ≤ 15) : PEb X (.Dict keys values pos) (tDispT trs) := ⟨pe_dispT hu h.go hall hl h0 h15⟩
theorem pe_disps {X : Cx} {pos : Pos} {keys : List (Option Expr)} {values : List Expr} {trs : List (TE × TE)} (h : Prs X pos keys values trs) (hall : keys.all (·.isSome) = true) (hl : keys.length = values.length) (h0 : keys ≠ [])
    (h15 : keys.length ≤ 15) : PEb X (.Dict keys values pos) (tDisp trs) := ⟨pe_disp h.go hall hl h0 h15⟩
theorem qg7 {X : Cx} {i : Int} {j : Nat} {pos : Pos} : PEb X (.Constant (.int i) j pos) (tC (.int i)) := ⟨qa4⟩
theorem ps_setb {X : Cx} {i : Nat} {x : Str} {e : Expr} {te : TE} {pos pos' : Pos} (hN : X.N.Nodup) (hi : X.N[i]? = some x) (hx : Loc X.env.scope x) (he : PEb X e te) (hs : swapsWith e (some (.Name x pos')) pos.line X.env = pure false) (hf : X.fn x = true) :
    PSb X (.Assign [.Name x pos'] e pos) (tAsg te (qe7 i)) := ⟨qc4 hN hi hx he.go hs (.inl hf)⟩
theorem qF7 {X : Cx} {a b c d : Int} {ja jb jc jd : Nat} {pa pb pc pd pos : Pos} {x1 : Nat} : PEb X (.Tuple [.Constant (.int a) ja pa, .Constant (.int b) jb pb, .Constant (.int c) jc pc, .Constant (.int d) jd pd] x1 pos) (tTup (qj1 (tC (.int a)) (qj1 (tC (.int b)) (qj1 (tC (.int c)) (qj1 (tC (.int d)) tNil))))) :=
  ⟨qg9 (Ars.go (.cons qa4 (.cons qa4 (.cons qa4 (.cons qa4 .nil rfl) rfl) rfl) rfl))⟩
theorem two_fours {X : Cx} {a b c d e f g h x y : Int} {ja jb jc jd je jf jg jh jx jy : Nat} {pa pb pc pd pe' pf pg' ph px py pos pos1 pos2 : Pos} {x1 x2 : Nat} (hu : X.A.units < cLine) :
    PEb X (.Dict [some (.Tuple [.Constant (.int a) ja pa, .Constant (.int b) jb pb, .Constant (.int c) jc pc, .Constant (.int d) jd pd] x1 pos1), some (.Tuple [.Constant (.int e) je pe', .Constant (.int f) jf pf, .Constant (.int g) jg pg', .Constant (.int h) jh ph] x2 pos2)] [.Constant (.int x) jx px, .Constant (.int y) jy py] pos)
      (tDispT [(tTup (qj1 (tC (.int a)) (qj1 (tC (.int b)) (qj1 (tC (.int c)) (qj1 (tC (.int d)) tNil)))), tC (.int x)), (tTup (qj1 (tC (.int e)) (qj1 (tC (.int f)) (qj1 (tC (.int g)) (qj1 (tC (.int h)) tNil)))), tC (.int y))]) :=
  pe_dispTs hu (.cons qF7 qg7 (.cons qF7 qg7 .nil)) rfl rfl (fun z => nomatch z) (by simp)
end L2
namespace Pr
open PySem L2 Qf
def PurseAt (H : Hp) (p : Addr) : Prop := ∃ a b : Int, H p = some (.lst [.int a, .int b]) ∧ 0 ≤ a ∧ 0 ≤ b ∧ b < 2 ^ 40
theorem PurseAt.same {H H' : Hp} {p : Addr} (h : PurseAt H p) (s : Same H H') : PurseAt H' p := by
  obtain ⟨a, b, e, r⟩ := h
  exact ⟨a, b, s _ _ e, r⟩
def RowsL (H : Hp) (p : Addr) (rows : List Row) : Prop := ∃ bs : List Addr, H p = some (.lst (bs.map V.ref)) ∧ bs.length = rows.length ∧ ∀ (i : Nat) b r, bs[i]? = some b -> rows[i]? = some r -> H b = some (.tup (vN r))
theorem RowsL.same {H H' : Hp} {p : Addr} {rows : List Row} (h : RowsL H p rows) (s : Same H H') : RowsL H' p rows := by
  obtain ⟨bs, h1, h2, h3⟩ := h
  exact ⟨bs, s _ _ h1, h2, fun i b r e1 e2 => s _ _ (h3 i b r e1 e2)⟩
def tabl {α κ : Type} (key : α -> κ) (l : List α) (k : Nat) : List (κ × V) := (l.zipIdx k).map fun p => (key p.1, V.int (p.2 : Nat))
section
variable {α κ : Type} [DecidableEq α] [DecidableEq κ] {key : α -> κ}
theorem qk3 (l : List α) (k : Nat) : (tabl key l k).length = l.length := by simp [tabl]
theorem tabl_cons (a : α) (l : List α) (k : Nat) : tabl key (a :: l) k = (key a, V.int (k : Nat)) :: tabl key l (k + 1) := by simp [tabl]
theorem qF8 (l : List α) (a : α) (k : Nat) : tabl key (l ++ [a]) k = tabl key l k ++ [(key a, V.int (k + l.length : Nat))] := by simp [tabl, List.zipIdx_append]
theorem qm9 (inj : ∀ a b, key a = key b -> a = b) (a : α) : ∀ (l : List α) (k : Nat), valV (tabl key l k) (key a) = if a ∈ l then some (.int (k + l.idxOf a : Nat)) else none
  | [], k => by simp [tabl, valV]
  | b :: l, k => by
    rw [tabl_cons]
    by_cases h : b = a
    . subst h
      rw [qe9 rfl, if_pos List.mem_cons_self, List.idxOf_cons_self]
      rfl
    . rw [qe6 (fun z => h (inj _ _ z)), qm9 inj a l (k + 1)]
      by_cases hm : a ∈ l
      . have e : (b :: l).idxOf a = l.idxOf a + 1 := by
          rw [List.idxOf_cons, beq_false_of_ne h]
          rfl
        rw [if_pos hm, if_pos (List.mem_cons_of_mem _ hm), e]
        congr 3
        lia
      . rw [if_neg hm, if_neg (fun z => by rcases List.mem_cons.mp z with z | z; exact h z.symm; exact hm z)]
theorem qA5 (inj : ∀ a b, key a = key b -> a = b) {l : List α} {a : α} {k : Nat} (h : a ∉ l) : putK (tabl key l k) (key a) (.int (k + l.length : Nat)) = tabl key (l ++ [a]) k := by
  unfold putK
  rw [qi4, qm9 inj, if_neg h, if_neg (by decide), qF8]
end
def fKey (p : Nat) : Key := Sum.inl ((p + 2 : Nat) : Int)
theorem qM7 (a b : Nat) (h : fKey a = fKey b) : a = b := by
  have : ((a + 2 : Nat) : Int) = ((b + 2 : Nat) : Int) := Sum.inl.inj h
  lia
def fK (es : List Nat) : List (Key × V) := tabl fKey es 2
theorem RowsL.but {H H' : Hp} {p e : Addr} {rows : List Row} {o : HO} (h : RowsL H p rows) (b : But e H H') (hpe : p ≠ e) (he : H e = some o) (no : ∀ u, o ≠ .tup u) : RowsL H' p rows := by
  obtain ⟨bs, h1, h2, h3⟩ := h
  exact ⟨bs, b _ _ h1 hpe, h2, fun i c r e1 e2 => b.tups he no _ _ (h3 i c r e1 e2)⟩
theorem qA6 : ∀ {ys : List V}, (∀ (i : Nat) y, ys[i]? = some y -> ∃ b : Addr, y = .ref b) -> ∃ cs : List Addr, ys = cs.map V.ref
  | [], _ => ⟨[], rfl⟩
  | y :: ys, h => by
    obtain ⟨b, rfl⟩ := h 0 y rfl
    obtain ⟨cs, rfl⟩ := qA6 (ys := ys) fun i z hz => h (i + 1) z (by simpa using hz)
    exact ⟨b :: cs, rfl⟩
def qk4 : List (Key × V) := [(Sum.inl 0, .int 0), (Sum.inl 1, .int 1)]
theorem qM8 (p : Nat) : valV qk4 (fKey p) = none := by
  unfold qk4 fKey
  rw [qe6 (fun z => by have := Sum.inl.inj z; lia), qe6 (fun z => by have := Sum.inl.inj z; lia)]
  rfl
theorem qw0 {κ : Type} [DecidableEq κ] (a b : List (κ × V)) (k : κ) : valV (a ++ b) k = (valV a k).or (valV b k) := by
  unfold valV
  rw [List.find?_append]
  cases List.find? (fun kv => decide (kv.1 = k)) a <;> rfl
theorem nK_val {es : List Nat} {q : Nat} (h : InE es q) : valV (qk4 ++ fK es) (Sum.inl (q : Int)) = some (.int (nm es q : Nat)) := by
  by_cases z : q < 2
  . rw [qi6 z]
    match q, z with
    | 0, _ => rfl
    | 1, _ => rfl
  . have hm := h.resolve_left z
    have ek : (Sum.inl (q : Int) : Key) = fKey (q - 2) := by
      show (Sum.inl (q : Int) : Key) = Sum.inl ((q - 2 + 2 : Nat) : Int)
      rw [show q - 2 + 2 = q by lia]
    rw [ek, qw0, qM8, qg0 z]
    show valV (tabl fKey es 2) _ = _
    rw [qm9 qM7, if_pos hm]
    congr 3
    lia
def dTell (n top : Nat) (rows : List Row) : PyData := .tuple [.int (n : Nat), .int (top : Nat), .tuple (rows.map fun r => dT (r.map fun x : Nat => (x : Int)))]
theorem qr0 {H : Hp} : ∀ {bs : List Addr} {rows : List Row}, bs.length = rows.length -> (∀ (i : Nat) b r, bs[i]? = some b -> rows[i]? = some r -> H b = some (.tup (vN r))) ->
    DatasAt H (bs.map V.ref) (rows.map fun r => dT (r.map fun x : Nat => (x : Int)))
  | [], [], _, _ => .nil
  | b :: bs, r :: rows, hl, h => by
    refine .cons ?_ (qr0 (by simpa using hl) fun i c q e1 e2 => h (i + 1) c q (by simpa using e1) (by simpa using e2))
    have h0 := h 0 b r rfl rfl
    rw [qv8] at h0
    exact .tup h0 (DatasAt.ints _)
theorem qe3 {H : Hp} {t : Addr} {n top : Nat} {rows : List Row} (h : TellAt H t n top rows) : DataAt H (.ref t) (dTell n top rows) := by
  obtain ⟨p, ht, bs, hp, hl, hr⟩ := h
  exact .tup ht (.cons (.int _) (.cons (.int _) (.cons (.tup hp (qr0 hl hr)) .nil)))
theorem qk5 : ∀ rows : List Row, PyData.canLayAll0 (rows.map fun r => dT (r.map fun x : Nat => (x : Int))) = true
  | [] => rfl
  | r :: rows => by
    rw [List.map_cons, PyData.canLayAll0, dT_lay, qk5 rows]; rfl
theorem qy5 : ∀ ns : List Int, PyData.depthAll (ns.map PyData.int) = 0
  | [] => rfl
  | n :: ns => by rw [List.map_cons, PyData.depthAll, qy5 ns]; rfl
theorem qr1 : ∀ rows : List Row, PyData.depthAll (rows.map fun r => dT (r.map fun x : Nat => (x : Int))) ≤ 1
  | [] => by decide
  | r :: rows => by
    have := qr1 rows
    have e : (dT (r.map fun x : Nat => (x : Int))).depth = 1 := by
      show PyData.depthAll _ + 1 = 1
      rw [qy5]
    rw [List.map_cons, PyData.depthAll, e]
    lia
theorem qd4 (n top : Nat) (rows : List Row) : (dTell n top rows).depth ≤ 60 := by
  have := qr1 rows
  show max _ (max _ (max (PyData.depthAll _ + 1) _)) + 1 ≤ 60
  have e1 : (PyData.int (n : Int)).depth = 0 := rfl
  have e2 : (PyData.int (top : Int)).depth = 0 := rfl
  have e3 : PyData.depthAll [] = 0 := rfl
  rw [e1, e2, e3]
  lia
theorem qA7 (cs : List Addr) (t : Addr) : cs.map V.ref ++ [.ref t] = (cs ++ [t]).map V.ref := by rw [List.map_append]; rfl
def ql2 (rows : List Row) : List PyData := rows.map fun r => dT (r.map fun x : Nat => (x : Int))
theorem qA8 (m : List Row) : PyData.eqv (.list (ql2 m)) (.list []) = m.isEmpty := by
  cases m with
  | nil => rfl
  | cons a l => simp [ql2, PyData.eqv, PyData.eqvAll]
theorem qh3 {H : Hp} {p : Addr} {rows : List Row} (h : RowsL H p rows) : DataAt H (.ref p) (.list (ql2 rows)) := by
  obtain ⟨bs, hp, hl, hr⟩ := h
  exact .lst hp (qr0 hl hr)
theorem qg1 (rows : List Row) : (PyData.list (ql2 rows)).depth ≤ 60 := by
  have := qr1 rows
  show PyData.depthAll _ + 1 ≤ 60
  unfold ql2
  lia
def tK (rows : List Row) : List (List Key × V) := tabl keyN rows 2
theorem qM9 {α : Type} {i1 i2 : BEq α} (h1 : @LawfulBEq α i1) (h2 : @LawfulBEq α i2) (l : List α) (a : α) : @List.idxOf α i1 a l = @List.idxOf α i2 a l := by
  cases beq_inst h1 h2
  rfl
theorem tK_val (rows : List Row) (r : Row) : valV (tK rows) (keyN r) = if r ∈ rows then some (.int (rows.idxOf r + 2 : Nat)) else none := by
  unfold tK
  rw [qm9 (fun a b => qk2)]
  split
  . rw [Nat.add_comm]
    exact congrArg (fun n : Nat => some (V.int ((n + 2 : Nat) : Int))) (qM9 (by infer_instance) (by infer_instance) _ _)
  . rfl
theorem qf7 {H1 H2 : Hp} {t n tp : Nat} {rows : List Row} (h : qh9 H1 t n tp rows) (s : Same H1 H2) : qh9 H2 t n tp rows := let ⟨⟨p, a, b⟩, c, d⟩ := h; ⟨⟨p, s _ _ a, b.same s⟩, c, d⟩
end Pr
set_option Elab.async false
set_option linter.all false
set_option maxRecDepth 100000
set_option maxHeartbeats 4000000
namespace Qf
inductive Tr
  | z | o | nd (a b c d : Tr)
deriving DecidableEq
namespace Tr
def kids : Tr -> List Tr
  | nd a b c d => [a, b, c, d]
  | _ => []
def dep : Tr -> Nat
  | nd a b c d => 1 + mx [dep a, dep b, dep c, dep d]
  | _ => 0
def Red : Tr -> Prop
  | nd a b c d => ¬ (a = z ∧ b = z ∧ c = z ∧ d = z) ∧ ¬ (a = o ∧ b = o ∧ c = o ∧ d = o) ∧ Red a ∧ Red b ∧ Red c ∧ Red d
  | _ => True
def post : Tr -> List Tr -> List Tr
  | nd a b c d, e => if nd a b c d ∈ e then e else post d (post c (post b (post a e))) ++ [nd a b c d]
  | _, e => e
def In (L : List Tr) (t : Tr) : Prop := t = z ∨ t = o ∨ t ∈ L
theorem In.app {L s : List Tr} {t : Tr} (h : In L t) : In (L ++ s) t := h.imp id fun h => h.imp id fun h => List.mem_append_left _ h
structure Ord (L : List Tr) : Prop where
  nd : L.Nodup
  ch : ∀ (i : Nat) t, L[i]? = some t -> (∃ a b c d, t = .nd a b c d) ∧ ∀ s ∈ kids t, s = z ∨ s = o ∨ ∃ j : Nat, j < i ∧ L[j]? = some s
theorem ord_nil : Ord [] := ⟨List.nodup_nil, fun i t h => by simp at h⟩
theorem post_ext : ∀ (t : Tr) (e : List Tr), ∃ s, post t e = e ++ s
  | z, e => ⟨[], by simp [post]⟩
  | o, e => ⟨[], by simp [post]⟩
  | nd a b c d, e => by
    unfold post
    split
    . exact ⟨[], by simp⟩
    . obtain ⟨s1, h1⟩ := post_ext a e
      obtain ⟨s2, h2⟩ := post_ext b (post a e)
      obtain ⟨s3, h3⟩ := post_ext c (post b (post a e))
      obtain ⟨s4, h4⟩ := post_ext d (post c (post b (post a e)))
      exact ⟨s1 ++ s2 ++ s3 ++ s4 ++ [nd a b c d], by rw [h4, h3, h2, h1]; simp⟩
theorem In.post {L : List Tr} {t : Tr} (s : Tr) (h : In L t) : In (post s L) t := by
  obtain ⟨u, e⟩ := post_ext s L
  rw [e]; exact h.app
theorem qi8 : ∀ (t : Tr) (e : List Tr) (s : Tr), s ∈ post t e -> s ∈ e ∨ sizeOf s ≤ sizeOf t
  | z, e, s, h => .inl h
  | o, e, s, h => .inl h
  | nd a b c d, e, s, h => by
    unfold post at h
    split at h
    . exact .inl h
    . have sz : sizeOf (nd a b c d) = 1 + sizeOf a + sizeOf b + sizeOf c + sizeOf d := by simp
      rcases List.mem_append.mp h with h | h
      . rcases qi8 d _ s h with h | h
        . rcases qi8 c _ s h with h | h
          . rcases qi8 b _ s h with h | h
            . rcases qi8 a _ s h with h | h
              . exact .inl h
              . exact .inr (by lia)
            . exact .inr (by lia)
          . exact .inr (by lia)
        . exact .inr (by lia)
      . have : s = nd a b c d := by simpa using h
        rw [this]
        exact .inr (Nat.le_refl _)
theorem not_below {a b c d : Tr} {e : List Tr} (h : nd a b c d ∉ e) : nd a b c d ∉ post d (post c (post b (post a e))) := fun h2 => by
  have sz : sizeOf (nd a b c d) = 1 + sizeOf a + sizeOf b + sizeOf c + sizeOf d := by simp
  rcases qi8 d _ _ h2 with h2 | h2
  . rcases qi8 c _ _ h2 with h2 | h2
    . rcases qi8 b _ _ h2 with h2 | h2
      . rcases qi8 a _ _ h2 with h2 | h2
        . exact h h2
        . lia
      . lia
    . lia
  . lia
theorem post_ord : ∀ (t : Tr) (e : List Tr), Ord e -> Ord (post t e) ∧ In (post t e) t
  | z, e, h => ⟨h, .inl rfl⟩
  | o, e, h => ⟨h, .inr (.inl rfl)⟩
  | nd a b c d, e, h => by
    unfold post
    split
    . rename_i hm
      exact ⟨h, .inr (.inr hm)⟩
    . rename_i hm
      obtain ⟨o1, i1⟩ := post_ord a e h
      obtain ⟨o2, i2⟩ := post_ord b _ o1
      obtain ⟨o3, i3⟩ := post_ord c _ o2
      obtain ⟨o4, i4⟩ := post_ord d _ o3
      have i1 := ((i1.post b).post c).post d
      have i2 := (i2.post c).post d
      have i3 := i3.post d
      have nb := not_below hm
      generalize post d (post c (post b (post a e))) = L at o4 i1 i2 i3 i4 nb
      refine ⟨⟨?_, ?_⟩, .inr (.inr (by simp))⟩
      . rw [List.nodup_append]
        exact ⟨o4.nd, by simp, fun x hx y hy e => nb (by
          have : y = nd a b c d := by simpa using hy
          rw [← this, ← e]; exact hx)⟩
      . intro i t ht
        by_cases hi : i < L.length
        . rw [List.getElem?_append_left hi] at ht
          obtain ⟨h1, h2⟩ := o4.ch i t ht
          refine ⟨h1, fun s hs => (h2 s hs).imp id fun h => h.imp id fun ⟨j, hj, e⟩ => ⟨j, hj, ?_⟩⟩
          rw [List.getElem?_append_left (by lia)]; exact e
        . have hlen := (List.getElem?_eq_some_iff.mp ht).1
          rw [List.length_append] at hlen
          have hi2 : i = L.length := by simp at hlen; lia
          subst hi2
          have et : t = nd a b c d := by simpa using ht.symm
          subst et
          refine ⟨⟨a, b, c, d, rfl⟩, fun s hs => ?_⟩
          have hin : In L s := by
            have : s = a ∨ s = b ∨ s = c ∨ s = d := by simpa [kids] using hs
            rcases this with rfl | rfl | rfl | rfl <;> assumption
          refine hin.imp id fun h => h.imp id fun hm => ?_
          obtain ⟨j, hj, e⟩ := List.mem_iff_getElem.mp hm
          exact ⟨j, hj, by rw [List.getElem?_append_left hj, List.getElem?_eq_getElem hj, e]⟩
def name (L : List Tr) : Tr -> Nat
  | z => 0
  | o => 1
  | t => L.idxOf t + 2
def rowsOf (L : List Tr) : List Row := L.map fun t => (kids t).map (name L)
theorem qw1 (L : List Tr) (a b c d : Tr) : name L (.nd a b c d) = L.idxOf (.nd a b c d) + 2 := rfl
theorem name_at {L : List Tr} (h : Ord L) {i : Nat} {t : Tr} (e : L[i]? = some t) : name L t = i + 2 := by
  obtain ⟨⟨a, b, c, d, rfl⟩, _⟩ := h.ch i t e
  rw [qw1]
  congr 1
  have hl := (List.getElem?_eq_some_iff.mp e).1
  have he := (List.getElem?_eq_some_iff.mp e).2
  rw [← he]
  exact h.nd.idxOf_getElem i hl
theorem name_in {L : List Tr} (h : Ord L) {t : Tr} (hi : In L t) : (t = z ∧ name L t = 0) ∨ (t = o ∧ name L t = 1) ∨ ∃ i : Nat, L[i]? = some t ∧ name L t = i + 2 := by
  rcases hi with rfl | rfl | hm
  . exact .inl ⟨rfl, rfl⟩
  . exact .inr (.inl ⟨rfl, rfl⟩)
  . obtain ⟨j, hj, e⟩ := List.mem_iff_getElem.mp hm
    have e' : L[j]? = some t := by rw [List.getElem?_eq_getElem hj, e]
    exact .inr (.inr ⟨j, e', name_at h e'⟩)
theorem name_inj {L : List Tr} (h : Ord L) {s t : Tr} (hs : In L s) (ht : In L t) (e : name L s = name L t) : s = t := by
  rcases name_in h hs with ⟨rfl, e1⟩ | ⟨rfl, e1⟩ | ⟨i, e0, e1⟩
  . rcases name_in h ht with ⟨rfl, e2⟩ | ⟨rfl, e2⟩ | ⟨j, e3, e2⟩
    . rfl
    . lia
    . lia
  . rcases name_in h ht with ⟨rfl, e2⟩ | ⟨rfl, e2⟩ | ⟨j, e3, e2⟩
    . lia
    . rfl
    . lia
  . rcases name_in h ht with ⟨rfl, e2⟩ | ⟨rfl, e2⟩ | ⟨j, e3, e2⟩
    . lia
    . lia
    . have : i = j := by lia
      subst this
      rw [e0] at e3
      exact Option.some.inj e3
theorem name_app {L s : List Tr} {t : Tr} (h : In L t) (hz : Ord L) : name (L ++ s) t = name L t := by
  rcases name_in hz h with ⟨rfl, _⟩ | ⟨rfl, _⟩ | ⟨i, e, _⟩
  . rfl
  . rfl
  . obtain ⟨⟨a, b, c, d, rfl⟩, _⟩ := hz.ch i t e
    rw [qw1, qw1, List.idxOf_append, if_pos (List.mem_of_getElem? e)]
theorem kid_in {L : List Tr} (h : Ord L) {i : Nat} {t s : Tr} (e : L[i]? = some t) (hs : s ∈ kids t) : In L s ∧ name L s < i + 2 := by
  rcases (h.ch i t e).2 s hs with rfl | rfl | ⟨j, hj, e2⟩
  . exact ⟨.inl rfl, by show 0 < _; lia⟩
  . exact ⟨.inr (.inl rfl), by show 1 < _; lia⟩
  . exact ⟨.inr (.inr (List.mem_of_getElem? e2)), by rw [name_at h e2]; lia⟩
theorem rowsOf_len (L : List Tr) : (rowsOf L).length = L.length := by simp [rowsOf]
theorem rowsOf_at {L : List Tr} {i : Nat} {t : Tr} (e : L[i]? = some t) : (rowsOf L)[i]? = some ((kids t).map (name L)) := by
  unfold rowsOf; rw [List.getElem?_map, e]; rfl
theorem qr2 {L : List Tr} {i : Nat} {r : Row} (e : (rowsOf L)[i]? = some r) : ∃ t, L[i]? = some t ∧ r = (kids t).map (name L) := by
  unfold rowsOf at e
  rw [List.getElem?_map] at e
  obtain ⟨t, h1, h2⟩ := Option.map_eq_some_iff.mp e
  exact ⟨t, h1, h2.symm⟩
theorem rowsOf_ok {L : List Tr} (h : Ord L) : qc5 (rowsOf L) := fun p r hp => by
  obtain ⟨t, ht, rfl⟩ := qr2 hp
  obtain ⟨⟨a, b, c, d, rfl⟩, _⟩ := h.ch p t ht
  refine ⟨rfl, fun x hx => ?_⟩
  obtain ⟨s, hs, rfl⟩ := List.mem_map.mp hx
  exact (kid_in h ht hs).2
theorem qm2 {L : List Tr} (h : Ord L) : ∀ {k l : List Tr}, (∀ s ∈ k, In L s) -> (∀ s ∈ l, In L s) -> k.map (name L) = l.map (name L) -> k = l
  | [], [], _, _, _ => rfl
  | [], _ :: _, _, _, e => by simp at e
  | _ :: _, [], _, _, e => by simp at e
  | a :: k, b :: l, h1, h2, e => by
    simp only [List.map_cons, List.cons.injEq] at e
    rw [name_inj h (h1 a List.mem_cons_self) (h2 b List.mem_cons_self) e.1, qm2 h (fun s hs => h1 s (List.mem_cons_of_mem _ hs)) (fun s hs => h2 s (List.mem_cons_of_mem _ hs)) e.2]
theorem qN0 {s t : Tr} (hs : ∃ a b c d, s = .nd a b c d) (ht : ∃ a b c d, t = .nd a b c d) (e : kids s = kids t) : s = t := by
  obtain ⟨a, b, c, d, rfl⟩ := hs
  obtain ⟨a', b', c', d', rfl⟩ := ht
  simpa [kids] using e
theorem rowsOf_nodup {L : List Tr} (h : Ord L) : (rowsOf L).Nodup := by
  rw [nd_iff]
  intro i j hij hj e
  rw [rowsOf_len] at hj
  have ei : L[i]? = some L[i] := List.getElem?_eq_getElem (by lia)
  have ej : L[j]? = some L[j] := List.getElem?_eq_getElem hj
  rw [rowsOf_at ei, rowsOf_at ej] at e
  have := qN0 (h.ch i _ ei).1 (h.ch j _ ej).1 (qm2 h (fun s hs => (kid_in h ei hs).1) (fun s hs => (kid_in h ej hs).1) (Option.some.inj e))
  have h2 := nd_iff.mp h.nd i j hij hj
  rw [ei, ej] at h2
  exact h2 (by rw [this])
end Tr
open Tr
def tr (rows : List Row) : Nat -> Nat -> Tr
  | 0, x => if x = 1 then .o else .z
  | d + 1, x => if x = 0 then .z else if x = 1 then .o else .nd (tr rows d ((rows.getD (x - 2) []).getD 0 0)) (tr rows d ((rows.getD (x - 2) []).getD 1 0)) (tr rows d ((rows.getD (x - 2) []).getD 2 0)) (tr rows d ((rows.getD (x - 2) []).getD 3 0))
theorem qw2 (rows : List Row) (d : Nat) : tr rows d 0 = .z := by cases d <;> rfl
theorem qF9 (rows : List Row) (d : Nat) : tr rows d 1 = .o := by cases d <;> rfl
theorem qw3 {r : Row} (h : r.length = 4) : ∃ a b c d, r = [a, b, c, d] := by
  match r, h with
  | [a, b, c, d], _ => exact ⟨a, b, c, d, rfl⟩
theorem tr_row {rows : List Row} {d p a b c e : Nat} (hp : rows[p]? = some [a, b, c, e]) : tr rows (d + 1) (p + 2) = .nd (tr rows d a) (tr rows d b) (tr rows d c) (tr rows d e) := by
  have : rows.getD p [] = [a, b, c, e] := by rw [List.getD_eq_getElem?_getD, hp]; rfl
  show (if p + 2 = 0 then _ else if p + 2 = 1 then _ else _) = _
  rw [if_neg (by lia), if_neg (by lia), show p + 2 - 2 = p by lia, this]
  rfl
theorem qm3 {rows : List Row} (ok : qc5 rows) {x : Nat} (hx : x < rows.length + 2) (h : ¬ x < 2) : ∃ p a b c d, x = p + 2 ∧ rows[p]? = some [a, b, c, d] := by
  have hp : x - 2 < rows.length := by lia
  have hg : rows[x - 2]? = some rows[x - 2] := List.getElem?_eq_getElem hp
  obtain ⟨a, b, c, d, e⟩ := qw3 (ok _ _ hg).1
  exact ⟨x - 2, a, b, c, d, by lia, by rw [hg, e]⟩
theorem qq2 {rows : List Row} (ok : qc5 rows) : ∀ (d d' x : Nat), dp rows x ≤ d -> dp rows x ≤ d' -> x < rows.length + 2 -> tr rows d x = tr rows d' x := by
  intro d
  induction d with
  | zero =>
    intro d' x h1 h2 hx
    have x2 := qq1 ok hx h1
    match x, x2 with
    | 0, _ => rw [qw2, qw2]
    | 1, _ => rw [qF9, qF9]
  | succ d ih =>
    intro d' x h1 h2 hx
    by_cases x2 : x < 2
    . match x, x2 with
      | 0, _ => rw [qw2, qw2]
      | 1, _ => rw [qF9, qF9]
    . obtain ⟨p, a, b, c, e, rfl, hp⟩ := qm3 ok hx x2
      match d', h2 with
      | 0, h2 => exact absurd (qq1 ok hx h2) x2
      | d' + 1, h2 =>
        have q := fun y (hy : y ∈ [a, b, c, e]) => qh2 ok hp h1 hy
        have q' := fun y (hy : y ∈ [a, b, c, e]) => qh2 ok hp h2 hy
        rw [tr_row hp, tr_row hp, ih d' a (q a (by simp)).2 (q' a (by simp)).2 (q a (by simp)).1, ih d' b (q b (by simp)).2 (q' b (by simp)).2 (q b (by simp)).1, ih d' c (q c (by simp)).2 (q' c (by simp)).2 (q c (by simp)).1, ih d' e (q e (by simp)).2 (q' e (by simp)).2 (q e (by simp)).1]
def T (rows : List Row) (x : Nat) : Tr := tr rows (dp rows x) x
theorem qi0 (rows : List Row) : T rows 0 = .z := qw2 _ _
theorem qo3 (rows : List Row) : T rows 1 = .o := qF9 _ _
theorem qm4 {rows : List Row} (ok : qc5 rows) {p a b c e : Nat} (hp : rows[p]? = some [a, b, c, e]) : T rows (p + 2) = .nd (T rows a) (T rows b) (T rows c) (T rows e) := by
  have hpl := (List.getElem?_eq_some_iff.mp hp).1
  obtain ⟨d, hd⟩ : ∃ d, dp rows (p + 2) = d + 1 := ⟨_, by rw [qx0 ok hp]; exact Nat.add_comm _ _⟩
  have q := fun y (hy : y ∈ [a, b, c, e]) => qh2 ok hp (Nat.le_of_eq hd) hy
  unfold T
  rw [hd, tr_row hp, qq2 ok d _ a (q a (by simp)).2 (Nat.le_refl _) (q a (by simp)).1, qq2 ok d _ b (q b (by simp)).2 (Nat.le_refl _) (q b (by simp)).1, qq2 ok d _ c (q c (by simp)).2 (Nat.le_refl _) (q c (by simp)).1, qq2 ok d _ e (q e (by simp)).2 (Nat.le_refl _) (q e (by simp)).1]
theorem T_inj {rows : List Row} (ok : qc5 rows) (nd : rows.Nodup) : ∀ (d x y : Nat), dp rows x ≤ d -> x < rows.length + 2 -> y < rows.length + 2 -> T rows x = T rows y -> x = y := by
  intro d
  have low : ∀ x y, x < 2 -> y < rows.length + 2 -> T rows x = T rows y -> x = y := fun x y x2 hy e => by
    by_cases y2 : y < 2
    . match x, y, x2, y2 with
      | 0, 0, _, _ => rfl
      | 1, 1, _, _ => rfl
      | 0, 1, _, _ => rw [qi0, qo3] at e; cases e
      | 1, 0, _, _ => rw [qi0, qo3] at e; cases e
    . obtain ⟨p, a, b, c, f, rfl, hp⟩ := qm3 ok hy y2
      rw [qm4 ok hp] at e
      match x, x2 with
      | 0, _ => rw [qi0] at e; cases e
      | 1, _ => rw [qo3] at e; cases e
  induction d with
  | zero => exact fun x y h hx hy e => low x y (qq1 ok hx h) hy e
  | succ d ih =>
    intro x y h hx hy e
    by_cases x2 : x < 2
    . exact low x y x2 hy e
    . by_cases y2 : y < 2
      . exact (low y x y2 hx e.symm).symm
      . obtain ⟨p, a, b, c, f, rfl, hp⟩ := qm3 ok hx x2
        obtain ⟨p', a', b', c', f', rfl, hp'⟩ := qm3 ok hy y2
        rw [qm4 ok hp, qm4 ok hp'] at e
        have q := fun y (hy : y ∈ [a, b, c, f]) => qh2 ok hp h hy
        have q' : ∀ y ∈ [a', b', c', f'], y < rows.length + 2 := fun y hy => by
          have := (ok _ _ hp').2 y hy
          have := (List.getElem?_eq_some_iff.mp hp').1
          lia
        injection e with e1 e2 e3 e4
        have h1 := ih a a' (q a (by simp)).2 (q a (by simp)).1 (q' a' (by simp)) e1
        have h2 := ih b b' (q b (by simp)).2 (q b (by simp)).1 (q' b' (by simp)) e2
        have h3 := ih c c' (q c (by simp)).2 (q c (by simp)).1 (q' c' (by simp)) e3
        have h4 := ih f f' (q f (by simp)).2 (q f (by simp)).1 (q' f' (by simp)) e4
        subst h1 h2 h3 h4
        have : p = p' := by
          rcases Nat.lt_trichotomy p p' with z | z | z
          . exact absurd (hp.trans hp'.symm) (nd_iff.mp nd p p' z (List.getElem?_eq_some_iff.mp hp').1)
          . exact z
          . exact absurd (hp'.trans hp.symm) (nd_iff.mp nd p' p z (List.getElem?_eq_some_iff.mp hp).1)
        rw [this]
def tau (rows : List Row) (p : Nat) : Tr := T rows (p + 2)
theorem tau_mem {rows : List Row} (ok : qc5 rows) (nd : rows.Nodup) {e : List Nat} (pe : Post rows e) {p : Nat} (hp : p < rows.length) : tau rows p ∈ e.map (tau rows) ↔ p ∈ e := by
  constructor
  . intro h
    obtain ⟨q, hq, e2⟩ := List.mem_map.mp h
    have := T_inj ok nd _ (q + 2) (p + 2) (Nat.le_refl _) (by have := pe.lt q hq; lia) (by lia) e2
    have : q = p := by lia
    rw [← this]; exact hq
  . exact fun h => List.mem_map.mpr ⟨p, h, rfl⟩
theorem qN1 {rows : List Row} (ok : qc5 rows) (nd : rows.Nodup) : ∀ (d : Nat) (e : List Nat) (x : Nat), Post rows e -> x < rows.length + 2 -> dp rows x ≤ d -> (dfs rows d e x).map (tau rows) = post (T rows x) (e.map (tau rows)) := by
  intro d
  induction d with
  | zero =>
    intro e x pe hx hd
    have x2 := qq1 ok hx hd
    match x, x2 with
    | 0, _ => rw [qi0]; rfl
    | 1, _ => rw [qo3]; rfl
  | succ d ih =>
    intro e x pe hx hd
    by_cases x2 : x < 2
    . have : dfs rows (d + 1) e x = e := by
        show (if x < 2 ∨ x - 2 ∈ e then e else _) = e
        rw [if_pos (.inl x2)]
      rw [this]
      match x, x2 with
      | 0, _ => rw [qi0]; rfl
      | 1, _ => rw [qo3]; rfl
    . obtain ⟨p, a, b, c, f, rfl, hp⟩ := qm3 ok hx x2
      have hpl := (List.getElem?_eq_some_iff.mp hp).1
      have hm := tau_mem ok nd pe hpl
      have hg : rows.getD p [] = [a, b, c, f] := by rw [List.getD_eq_getElem?_getD, hp]; rfl
      have et : tau rows p = .nd (T rows a) (T rows b) (T rows c) (T rows f) := qm4 ok hp
      rw [qm4 ok hp]
      show (if p + 2 < 2 ∨ p + 2 - 2 ∈ e then e else (rows.getD (p + 2 - 2) []).foldl (dfs rows d) e ++ [p + 2 - 2]).map (tau rows) = (if _ ∈ e.map (tau rows) then _ else _)
      rw [show p + 2 - 2 = p by lia, ← et, hg]
      by_cases hpe : p ∈ e
      . rw [if_pos (.inr hpe), if_pos (hm.mpr hpe)]
      . rw [if_neg (by rintro (z | z); lia; exact hpe z), if_neg (fun z => hpe (hm.mp z))]
        have q := fun y (hy : y ∈ [a, b, c, f]) => qh2 ok hp hd hy
        obtain ⟨qa, qa'⟩ := q a (by simp)
        obtain ⟨qb, qb'⟩ := q b (by simp)
        obtain ⟨qc, qc'⟩ := q c (by simp)
        obtain ⟨qf, qf'⟩ := q f (by simp)
        have p1 := (qf5 ok d e a pe qa qa').1
        have p2 := (qf5 ok d _ b p1 qb qb').1
        have p3 := (qf5 ok d _ c p2 qc qc').1
        show (dfs rows d (dfs rows d (dfs rows d (dfs rows d e a) b) c) f ++ [p]).map (tau rows) = _
        rw [List.map_append, ih _ f p3 qf qf', ih _ c p2 qc qc', ih _ b p1 qb qb', ih _ a pe qa qa', et]
        show _ ++ [tau rows p] = _
        rw [et]
theorem qn0 {n top : Nat} {rows : List Row} (c : Canon n top rows) : rows = rowsOf (post (T rows top) []) ∧ top = name (post (T rows top) []) (T rows top) := by
  have h := qN1 c.rok c.unlike n [] top (qi5 rows) c.inn c.deep
  rw [c.ends] at h
  have hord : Ord (post (T rows top) []) ∧ In (post (T rows top) []) (T rows top) := post_ord _ _ ord_nil
  have hpost : post (T rows top) [] = (List.range rows.length).map (tau rows) := h.symm
  obtain ⟨ho, hi⟩ := hord
  generalize post (T rows top) [] = L at ho hi hpost
  have lat : ∀ p, p < rows.length -> L[p]? = some (tau rows p) := fun p hp => by
    rw [hpost, List.getElem?_map, List.getElem?_range hp]; rfl
  have hL : L.length = rows.length := by rw [hpost]; simp
  have nmq : ∀ q, q < rows.length + 2 -> name L (T rows q) = q := fun q hq => by
    by_cases q2 : q < 2
    . match q, q2 with
      | 0, _ => rw [qi0]; rfl
      | 1, _ => rw [qo3]; rfl
    . have := name_at ho (lat (q - 2) (by lia))
      unfold tau at this
      rw [show q - 2 + 2 = q by lia] at this
      exact this
  refine ⟨?_, (nmq top c.inn).symm⟩
  refine List.ext_getElem? fun p => ?_
  by_cases hp : p < rows.length
  . have hg : rows[p]? = some rows[p] := List.getElem?_eq_getElem hp
    obtain ⟨a, b, e, f, er⟩ := qw3 (c.rok p _ hg).1
    rw [er] at hg
    rw [hg, rowsOf_at (lat p hp)]
    have et : tau rows p = .nd (T rows a) (T rows b) (T rows e) (T rows f) := qm4 c.rok hg
    have lt : ∀ y ∈ [a, b, e, f], y < rows.length + 2 := fun y hy => by
      have := (c.rok _ _ hg).2 y hy
      lia
    rw [et]
    show some [a, b, e, f] = some [name L (T rows a), name L (T rows b), name L (T rows e), name L (T rows f)]
    rw [nmq a (lt a (by simp)), nmq b (lt b (by simp)), nmq e (lt e (by simp)), nmq f (lt f (by simp))]
  . rw [List.getElem?_eq_none (by lia), List.getElem?_eq_none (by rw [rowsOf_len]; lia)]
theorem qh4 {n n' top top' : Nat} {rows rows' : List Row} (c : Canon n top rows) (c' : Canon n' top' rows') (e : T rows top = T rows' top') : top = top' ∧ rows = rows' := by
  obtain ⟨h1, h2⟩ := qn0 c
  obtain ⟨h3, h4⟩ := qn0 c'
  rw [e] at h1 h2
  exact ⟨h2.trans h4.symm, h1.trans h3.symm⟩
theorem qo4 {L : List Tr} (h : Ord L) : ∀ t : Tr, In L t -> dp (rowsOf L) (name L t) = dep t
  | .z, _ => qL8 (by decide : (0 : Nat) < 2)
  | .o, _ => qL8 (by decide : (1 : Nat) < 2)
  | .nd a b c d, hi => by
    rcases name_in h hi with ⟨e, _⟩ | ⟨e, _⟩ | ⟨i, e, e2⟩
    . cases e
    . cases e
    . have hk := fun s (hs : s ∈ kids (.nd a b c d)) => (kid_in h e hs).1
      rw [e2, qx0 (rowsOf_ok h) (rowsOf_at e)]
      show 1 + mx [_, _, _, _] = 1 + mx [dep a, dep b, dep c, dep d]
      rw [qo4 h a (hk a (by simp [kids])), qo4 h b (hk b (by simp [kids])), qo4 h c (hk c (by simp [kids])), qo4 h d (hk d (by simp [kids]))]
theorem qq3 {L : List Tr} (h : Ord L) : ∀ t : Tr, In L t -> T (rowsOf L) (name L t) = t
  | .z, _ => qi0 _
  | .o, _ => qo3 _
  | .nd a b c d, hi => by
    rcases name_in h hi with ⟨e, _⟩ | ⟨e, _⟩ | ⟨i, e, e2⟩
    . cases e
    . cases e
    . have hk := fun s (hs : s ∈ kids (.nd a b c d)) => (kid_in h e hs).1
      rw [e2, qm4 (rowsOf_ok h) (rowsOf_at e), qq3 h a (hk a (by simp [kids])), qq3 h b (hk b (by simp [kids])), qq3 h c (hk c (by simp [kids])), qq3 h d (hk d (by simp [kids]))]
def qj4 (L : List Tr) : Prop := ∀ t ∈ L, Red t
theorem qi9 : ∀ (t : Tr) (e : List Tr), Red t -> qj4 e -> qj4 (post t e)
  | .z, _, _, h => h
  | .o, _, _, h => h
  | .nd a b c d, e, hr, h => by
    unfold post
    split
    . exact h
    . have h4 := qi9 d _ hr.2.2.2.2.2 (qi9 c _ hr.2.2.2.2.1 (qi9 b _ hr.2.2.2.1 (qi9 a e hr.2.2.1 h)))
      intro s hs
      rcases List.mem_append.mp hs with hs | hs
      . exact h4 s hs
      . have : s = .nd a b c d := by simpa using hs
        rw [this]; exact hr
theorem qe4 {L : List Tr} {t : Tr} (h : name L t = 0) : t = .z := by
  cases t with
  | z => rfl
  | o => cases h
  | nd a b c d => rw [qw1] at h; lia
theorem qf0 {L : List Tr} {t : Tr} (h : name L t = 1) : t = .o := by
  cases t with
  | z => cases h
  | o => rfl
  | nd a b c d => rw [qw1] at h; lia
theorem qg2 {L : List Tr} (h : Ord L) (hr : qj4 L) : ∀ r ∈ rowsOf L, ¬ qp9 r := fun r hm => by
  obtain ⟨i, hi, e⟩ := List.mem_iff_getElem.mp hm
  obtain ⟨t, ht, rfl⟩ := qr2 (i := i) (r := r) (by rw [List.getElem?_eq_getElem hi, e])
  obtain ⟨⟨a, b, c, d, rfl⟩, _⟩ := h.ch i t ht
  have rd := hr _ (List.mem_of_getElem? ht)
  rintro (z | z)
  . have z' : [name L a, name L b, name L c, name L d] = [0, 0, 0, 0] := z
    simp only [List.cons.injEq, and_true] at z'
    exact rd.1 ⟨qe4 z'.1, qe4 z'.2.1, qe4 z'.2.2.1, qe4 z'.2.2.2⟩
  . have z' : [name L a, name L b, name L c, name L d] = [1, 1, 1, 1] := z
    simp only [List.cons.injEq, and_true] at z'
    exact rd.2.1 ⟨qf0 z'.1, qf0 z'.2.1, qf0 z'.2.2.1, qf0 z'.2.2.2⟩
theorem qr3 {n : Nat} (hn : n ≤ 12) {t : Tr} (hr : Red t) (hd : dep t ≤ n) : Canon n (name (post t []) t) (rowsOf (post t [])) := by
  obtain ⟨ho, hi⟩ := post_ord t [] ord_nil
  have hred := qi9 t [] hr (fun s hs => nomatch hs)
  have hT := qq3 ho t hi
  have hdp := qo4 ho t hi
  have hpost : post t [] = post t [] := rfl
  generalize hL : post t [] = L at ho hi hred hT hdp
  have ok := rowsOf_ok ho
  have ndr := rowsOf_nodup ho
  have hin : name L t < (rowsOf L).length + 2 := by
    rw [rowsOf_len]
    rcases name_in ho hi with ⟨_, e⟩ | ⟨_, e⟩ | ⟨i, e, e2⟩
    . lia
    . lia
    . have := (List.getElem?_eq_some_iff.mp e).1
      lia
  refine ⟨hn, ok, hin, by rw [hdp]; exact hd, qg2 ho hred, ndr, ?_⟩
  have hdt := qN1 ok ndr n [] (name L t) (qi5 _) hin (by rw [hdp]; exact hd)
  rw [hT] at hdt
  have e2 : (dfs (rowsOf L) n [] (name L t)).map (tau (rowsOf L)) = L := by rw [hdt]; exact hL
  have pe := (qf5 ok n [] (name L t) (qi5 _) hin (by rw [hdp]; exact hd)).1
  generalize dfs (rowsOf L) n [] (name L t) = E at e2 pe
  have hE : E.length = L.length := by rw [← e2]; simp
  refine List.ext_getElem? fun i => ?_
  by_cases hi2 : i < E.length
  . have hg : E[i]? = some E[i] := List.getElem?_eq_getElem hi2
    have hlt := pe.lt E[i] (List.getElem_mem hi2)
    rw [rowsOf_len] at hlt
    have e3 : L[i]? = some (tau (rowsOf L) E[i]) := by
      conv => lhs; rw [← e2]
      rw [List.getElem?_map, hg]; rfl
    have e4 : tau (rowsOf L) E[i] = L[E[i]] := by
      have ea : L[E[i]]? = some L[E[i]] := List.getElem?_eq_getElem hlt
      have := qq3 ho L[E[i]] (.inr (.inr (List.getElem_mem hlt)))
      rw [name_at ho ea] at this
      exact this
    rw [e4] at e3
    have : E[i] = i := by
      rcases Nat.lt_trichotomy E[i] i with z | z | z
      . exact absurd (by rw [e3]; exact List.getElem?_eq_getElem hlt) (nd_iff.mp ho.nd E[i] i z (by lia))
      . exact z
      . exact absurd (by rw [e3]; exact (List.getElem?_eq_getElem hlt).symm) (nd_iff.mp ho.nd i E[i] z hlt)
    rw [hg, this, List.getElem?_range (by rw [rowsOf_len]; lia)]
  . rw [List.getElem?_eq_none (by lia), List.getElem?_eq_none (by rw [List.length_range, rowsOf_len]; lia)]
end Qf
set_option Elab.async false
set_option linter.all false
set_option maxRecDepth 100000
set_option maxHeartbeats 4000000
namespace Qf
open Tr
theorem told_T {rows : List Row} (ok : qc5 rows) {E : List Nat} (pe : Post rows E) : ∀ q, InE E q -> T (told rows E) (nm E q) = T rows q := by
  intro q
  induction q using Nat.strongRecOn with
  | ind q ih =>
    intro hq
    by_cases z : q < 2
    . rw [qi6 z]
      match q, z with
      | 0, _ => rw [qi0, qi0]
      | 1, _ => rw [qo3, qo3]
    . have hm := hq.resolve_left z
      have hp := pe.lt _ hm
      have ea := qy2 hm
      obtain ⟨a, b, c, d, e⟩ := qw3 (ok _ _ (qh7 hp)).1
      have hg := qh7 hp
      have hta := qo2 (rows := rows) ea
      have rin := fun x (hx : x ∈ rows.getD (q - 2) []) => (qE0 pe ea hx).1
      have hlt := (ok _ _ hg).2
      rw [e] at hg hta rin hlt
      rw [qg0 z, qm4 (qJ0 ok pe) hta]
      have e2 : T rows q = .nd (T rows a) (T rows b) (T rows c) (T rows d) := by
        have := qm4 ok hg
        rwa [show q - 2 + 2 = q by lia] at this
      rw [e2, ih a (by have := hlt a (by simp); lia) (rin a (by simp)), ih b (by have := hlt b (by simp); lia) (rin b (by simp)), ih c (by have := hlt c (by simp); lia) (rin c (by simp)), ih d (by have := hlt d (by simp); lia) (rin d (by simp))]
theorem qQ6 {n x : Nat} {rows : List Row} (hn : n ≤ 12) (ok : qc5 rows) (hx : x < rows.length + 2) (hd : dp rows x ≤ n) (np : ∀ r ∈ rows, ¬ qp9 r) (nd : rows.Nodup) :
    Canon n (nm (dfs rows n [] x) x) (told rows (dfs rows n [] x)) ∧ T (told rows (dfs rows n [] x)) (nm (dfs rows n [] x) x) = T rows x := by
  obtain ⟨pe, hi⟩ := qf5 ok n [] x (qi5 rows) hx hd
  exact ⟨qQ1 hn ok hx hd np nd, told_T ok pe x hi⟩
theorem qi1 {L : List Tr} {t : Tr} (h : In L t) : post t L = L := by
  cases t with
  | z => rfl
  | o => rfl
  | nd a b c d =>
    have hm : Tr.nd a b c d ∈ L := by rcases h with h | h | h; cases h; cases h; exact h
    unfold post
    rw [if_pos hm]
theorem qr4 {L : List Tr} (h : Ord L) {t : Tr} (hk : ∀ s ∈ kids t, In L s) : rowsOf (L ++ [t]) = rowsOf L ++ [(kids t).map (name L)] := by
  unfold rowsOf
  rw [List.map_append]
  congr 1
  . refine List.map_congr_left fun u hu => ?_
    obtain ⟨i, hi, e⟩ := List.mem_iff_getElem.mp hu
    exact List.map_congr_left fun s hs => name_app (kid_in h (i := i) (t := u) (by rw [List.getElem?_eq_getElem hi, e]) hs).1 h
  . show [(kids t).map (name (L ++ [t]))] = _
    congr 1
    exact List.map_congr_left fun s hs => name_app (hk s hs) h
theorem qJ7 {L : List Tr} (h : Ord L) {a b c d : Tr} (hk : ∀ s ∈ kids (.nd a b c d), In L s) : (kids (.nd a b c d)).map (name L) ∈ rowsOf L ↔ Tr.nd a b c d ∈ L := by
  constructor
  . intro hm
    obtain ⟨i, hi, e⟩ := List.mem_iff_getElem.mp hm
    obtain ⟨t, ht, er⟩ := qr2 (i := i) (r := (kids (.nd a b c d)).map (name L)) (by rw [List.getElem?_eq_getElem hi, e])
    have := qN0 ⟨a, b, c, d, rfl⟩ (h.ch i t ht).1 (qm2 h hk (fun s hs => (kid_in h ht hs).1) er)
    rw [this]
    exact List.mem_of_getElem? ht
  . intro hm
    obtain ⟨i, hi, e⟩ := List.mem_iff_getElem.mp hm
    exact List.mem_of_getElem? (rowsOf_at (i := i) (t := .nd a b c d) (by rw [List.getElem?_eq_getElem hi, e]))
theorem row_idx {L : List Tr} (h : Ord L) {i : Nat} {t : Tr} (e : L[i]? = some t) : (rowsOf L).idxOf ((kids t).map (name L)) = i := by
  have hl := (List.getElem?_eq_some_iff.mp e).1
  have e2 := rowsOf_at e
  have hl2 : i < (rowsOf L).length := by rw [rowsOf_len]; exact hl
  have e3 := (List.getElem?_eq_some_iff.mp e2).2
  rw [← e3]
  exact (rowsOf_nodup h).idxOf_getElem i hl2
end Qf
namespace Pr
open PySem L2 Qf
theorem qN2 {H : Hp} {e u : Addr} {L : List Tr} (hO : Tr.Ord L) {a b c d : Tr} (hm : Tr.nd a b c d ∈ L) (he : H e = some (.dT (tK (Tr.rowsOf L)))) (hu : H u = some (.tup (vN [Tr.name L a, Tr.name L b, Tr.name L c, Tr.name L d]))) :
    DGet H e (.ref u) (some (.int (Tr.name L (.nd a b c d) : Nat))) := by
  obtain ⟨i, hi, ei⟩ := List.mem_iff_getElem.mp hm
  have ei' : L[i]? = some (.nd a b c d) := by rw [List.getElem?_eq_getElem hi, ei]
  have hix := row_idx hO ei'
  have hmr : (Tr.kids (.nd a b c d)).map (Tr.name L) ∈ Tr.rowsOf L := List.mem_of_getElem? (Tr.rowsOf_at ei')
  have := DGet.t (k := keyN ((Tr.kids (.nd a b c d)).map (Tr.name L))) he (by rw [qk9]; exact hu)
  rw [tK_val, if_pos hmr, hix] at this
  rw [Tr.name_at hO ei']
  exact this
end Pr
set_option Elab.async false
set_option linter.all false
set_option maxRecDepth 100000
set_option maxHeartbeats 4000000
namespace Pr
open PySem L2 Qf
theorem nK_put {ds : List Nat} {p : Nat} (h : p ∉ ds) : putK (qk4 ++ fK ds) (fKey p) (.int (2 + ds.length : Nat)) = qk4 ++ fK (ds ++ [p]) := by
  unfold putK fK
  rw [qi4, qw0, qM8, qm9 qM7, if_neg h, if_neg (by decide), qF8, List.append_assoc]
theorem nm_pre {E : List Nat} {i q : Nat} (h : InE (E.take i) q) : nm (E.take i) q = nm E q := by
  by_cases z : q < 2
  . rw [qi6 z, qi6 z]
  . rw [qg0 z, qg0 z]
    have hm := h.resolve_left z
    conv => rhs; rw [← List.take_append_drop i E]
    rw [List.idxOf_append, if_pos hm]
section
variable {P : Program} {w : World} {K : PySem.W.Frag} {mg : Str -> Option Value} {base : Heap}
theorem scRenum : FnScope ["row", "numbers"] ["row", "numbers"] (qa7 qE2) := ⟨rfl, rfl, rfl, by decide +kernel, rfl, by decide +kernel, by decide +kernel⟩
def spRenum : Sp := fun vs H Q _ => ∃ (b g : Addr) (r : Row) (kvs : List (Key × V)) (f : Nat -> Nat), vs = [.ref b, .ref g] ∧ H b = some (.tup (vN r)) ∧ r.length = 4 ∧ H g = some (.dK kvs) ∧ (∀ q ∈ r, valV kvs (Sum.inl (q : Int)) = some (.int (f q : Nat))) ∧
  ∀ (H' : Hp) (t : Addr), Same H H' -> H' t = some (.tup (vN (r.map f))) -> Q (.ref t) H'
theorem ok_renum {f : Addr} {fd : FuncData} (F : Fun K "renumbered" "renumbered" qE2 f fd) (B : Blt mg) : FnOk P w K mg base CX0 1 f fd ["row", "numbers"] spRenum := by
  refine F.ok scRenum (fun vs H Q E h => ?_) (fun cdv A outer s H vs Q E hr h => ?_)
  . obtain ⟨b, g, r, kvs, f, rfl, _⟩ := h
    rfl
  . obtain ⟨b, g, r, kvs, ff, rfl, hb, h4, hg, hv, q⟩ := h
    have hu : A.units + 3 + 1 < cLine := by
      have h2 : A.units + 3 + 16 * 0 + 200 < cLine := hr.un
      lia
    refine qi2 ⟨_, ⟨qb3 (qc9 (tupO K rfl) (by rfl) B.tuple PyProof.Rows.boot_tuple (qa0 (qf4 ["row", "numbers"] (qa7 qE2) rfl rfl rfl scRenum.nd (qt7 (pv 0)) (fun cl C fp s₀ H₀ => ql8 hu (pv 2) (pv 0) (fun _ _ => rfl))) qa3))⟩, ?_⟩
    refine ⟨_, rfl, b, rfl, ⟨_, SqT.of hb⟩, fun D hD => qg4 hD (fun i z _ => ∃ m : Nat, r[i]? = some m ∧ z = .int (ff m : Nat)) (qs7 (K := K) hb) (by rw [qh8, h4]; decide) (fun _ _ _ _ _ _ h => h) ?_ ?_⟩
    . intro i x H2 hi hx s2 Q' hq
      obtain ⟨m, hm, rfl⟩ := qF4 hx
      have dg : DGet H2 g (.int (m : Int)) (some (.int (ff m : Nat))) := by
        have := DGet.k (k := Sum.inl (m : Int)) (s2 _ _ hg)
        rw [hv m (List.mem_of_getElem? hm)] at this
        exact this
      exact ⟨_, rfl, _, rfl, g, _, rfl, dg, hq _ _ (Same.refl _) ⟨m, hm, rfl⟩⟩
    . intro ys H2 s2 hd2 hly hys
      have ey : ys = vN (r.map ff) := by
        refine qi7 (by rw [hly, qh8, qh8, List.length_map]) fun i x hx => ?_
        obtain ⟨m, hm, rfl⟩ := hys i x hx
        exact vN_at (by rw [List.getElem?_map, hm]; rfl)
      subst ey
      exact ⟨D, _, rfl, .inl ⟨SqL.of hd2, fun l hl => q _ l (s2.trans (qb7 hl)) qa1⟩⟩
abbrev nSO : List Str := ["n", "top", "rows", "numbers", "told", "place"]
theorem scSO : FnScope nSO ["n", "top", "rows"] (qa7 qs5) := ⟨rfl, rfl, rfl, by decide +kernel, rfl, by decide +kernel, by decide +kernel⟩
def spSO : Sp := fun vs H Q _ => ∃ (rp : Addr) (n tp : Nat) (rows : List Row), vs = [.int (n : Nat), .int (tp : Nat), .ref rp] ∧ RowsS H rp rows ∧ qc5 rows ∧ rows.length ≤ 900 ∧ tp < rows.length + 2 ∧ n ≤ 12 ∧ dp rows tp ≤ n ∧
  ∀ (H' : Hp) (t : Addr), Same H H' -> TellAt H' t n (nm (dfs rows n [] tp) tp) (told rows (dfs rows n [] tp)) -> Q (.ref t) H'
theorem ok_SO {f fP fE fR : Addr} {fd fdP fdE fdR : FuncData} (F : Fun K "shape_of" "shape_of" qs5 f fd) (B : Blt mg) (T : Cst mg) (hem0 : ∃ t, mg "EMPTY" = some (.int 0 t))
    (hP : mg "places_as_ended" = some (.ref fP)) (FP : Fun K "places_as_ended" "places_as_ended" qv4 fP fdP) (bP : Binds K fdP ["rows", "top"] [])
    (hE : mg "end_rows" = some (.ref fE)) (FE : Fun K "end_rows" "end_rows" sEnd fE fdE) (bE : Binds K fdE ["rows", "number", "ended"] [])
    (hR : mg "renumbered" = some (.ref fR)) (FR : Fun K "renumbered" "renumbered" qE2 fR fdR) (bR : Binds K fdR ["row", "numbers"] []) : FnOk P w K mg base CX0 15 f fd ["n", "top", "rows"] spSO := by
  have GP : ∀ d, FnOk P w K mg base CX0 (d + 2) fP fdP ["rows", "top"] (qs8 d) := fun d => qF5 FP B T hE FE bE d
  have GR : FnOk P w K mg base CX0 1 fR fdR ["row", "numbers"] spRenum := ok_renum FR B
  obtain ⟨te, hem⟩ := hem0
  obtain ⟨tu, hfu⟩ := T.full
  obtain ⟨tf, hfi⟩ := T.first
  refine F.ok scSO (fun vs H Q E h => ?_) (fun cdv A outer s H vs Q E hr h => ?_)
  . obtain ⟨rp, n, tp, rows, rfl, _⟩ := h
    rfl
  . obtain ⟨rp, n, tp, rows, rfl, hRw, ok, hl, htp, hn, hd, q⟩ := h
    have hu : A.units + 3 + 1 < cLine := by
      have h2 : A.units + 3 + 16 * 14 + 200 < cLine := hr.un
      lia
    have hrP : Room (n + 2) _ := hr.mono (by lia)
    have hr1 : Room 1 _ := hr.mono (by decide)
    refine seqE ⟨_, ps_setb (i := 3) scSO.nd rfl (by first | exact Or.inl rfl | exact Or.inr rfl) (pe_disps (.cons ⟨qd0 (v := .int 0) (by rfl) hem ⟨_, rfl⟩⟩ ⟨qd0 (v := .int 0) (by rfl) hem ⟨_, rfl⟩⟩ (.cons ⟨qd0 (v := .int 1) (by rfl) hfu ⟨_, rfl⟩⟩ ⟨qd0 (v := .int 1) (by rfl) hfu ⟨_, rfl⟩⟩ .nil)) rfl rfl (fun z => nomatch z) (by decide)) rfl rfl, ?_⟩
    refine seqE ⟨_, ⟨qc4 (i := 4) scSO.nd rfl (by first | exact Or.inl rfl | exact Or.inr rfl) (qn6 qa3)⟩, ?_⟩
    refine seqE ⟨_, ⟨qB8 PassesOwn.never rfl (qn8 (qa8 (GP n) hrP (by rfl) hP FP.kp bP .nil qb9 (qa0 (pv 2) (qa0 (pv 1) qa3)))) (qc0 (i := 5) scSO.nd rfl (by first | exact Or.inl rfl | exact Or.inr rfl))
      (StB.go (.cons ⟨qn7 (PEb.go (pe_bmb PySem.F.plainAttrs_list PySem.F.slot_list_append PySem.F.type_list_append qj3 ⟨pv 4⟩ (.cons ⟨qa8 GR hr1 (by rfl) hR FR.kp bR .nil qb9 (qa0 (qf3 (ixS K rfl) (pv 2) (pv 5) (fun _ _ => rfl)) (qa0 (pv 3) qa3))⟩ .nil rfl)))⟩
        (.one ⟨qn9 hu (pv 3) (qb1 qd9 (pv 5) (qd0 (v := .int 2) (by rfl) hfi ⟨_, rfl⟩)) (qb1 qd9 (qb1 qe2 (qa9 qd6 (by rfl) B.len PySem.boot_len (qa0 (pv 4) qa3)) qa4) (qd0 (v := .int 2) (by rfl) hfi ⟨_, rfl⟩)) (by rfl)⟩)))⟩, ?_⟩
    refine qi2 ⟨_, ⟨qb3 (qg9 (Ars2.go (.cons ⟨pv 0⟩ (.cons ⟨ql8 hu (pv 3) (pv 1) (fun _ _ => rfl)⟩ (.cons ⟨qc9 (tupO K rfl) (by rfl) B.tuple PyProof.Rows.boot_tuple (qa0 (pv 4) qa3)⟩ .nil rfl) rfl) rfl)))⟩, ?_⟩
    refine fun g hg => ⟨qa1, qk4, rfl, (by show 2 ≤ 15; decide), ?_⟩
    have eg : qx8 [] qk4 = qk4 := by rfl
    rw [eg]
    have S1 : Same H (upd (upd H g (.dK [])) g (.dK qk4)) := fun b u z => by rw [qa6 (qa2 z hg)]; exact qc3 z hg
    have hg1 : upd (upd H g (.dK [])) g (.dK qk4) g = some (.dK qk4) := qa1
    generalize upd (upd H g (.dK [])) g (.dK qk4) = H1 at S1 hg1 ⊢
    refine ⟨(by show 0 ≤ sizeLine; decide), fun D hD => ?_⟩
    have hDH : H D = none := by
      cases z : H D with
      | none => rfl
      | some o => rw [S1 _ _ z] at hD; cases hD
    have ngD : g ≠ D := qa2 hg1 hD
    have S2 : Same H (upd H1 D (.lst [])) := S1.trans (qb7 hD)
    refine ⟨_, rfl, _, rfl, rp, tp, rows, rfl, hRw.same S2, ok, hl, htp, hd, fun H3 LE s3 hLE => ?_⟩
    have hg3 := s3 _ _ (qc3 (u := .lst []) hg1 hD)
    have hD3 := s3 _ _ (qa1 (H := H1) (a := D) (o := .lst []))
    have S3 := S2.trans s3
    have nLg : LE ≠ g := fun z => by rw [z, hg3] at hLE; cases hLE
    obtain ⟨pe, hxE⟩ := qf5 ok n [] tp (qi5 rows) htp hd
    generalize dfs rows n [] tp = es at hLE pe hxE q
    have hel := qA4 pe
    obtain ⟨bs, hrp, hbl, hrow⟩ := id hRw
    refine ⟨LE, rfl, ⟨_, SqL.of hLE⟩, for_list (K := K) (a := LE) (xs := vN es) (fun i σ H2 => Same H H2 ∧ H2 LE = some (.lst (vN es)) ∧ H2 g = some (.dK (qk4 ++ fK (es.take i))) ∧ RowsL H2 D ((told rows es).take i) ∧
        ∃ v5, σ = [some (.int (n : Nat)), some (.int (tp : Nat)), some (.ref rp), some (.ref g), some (.ref D), v5])
      ⟨S3, hLE, hg3, ⟨[], hD3, rfl, fun i b r e => by simp at e⟩, none, rfl⟩ (fun i σ H2 _ h => SqL.of h.2.1) ?_ ?_⟩
    . rintro i y σ H2 hy ⟨s2, hL2, hg2, ⟨cs, hD2, hcl, hcr⟩, v5, rfl⟩
      obtain ⟨m, hm, rfl⟩ := qF4 hy
      have hie := (List.getElem?_eq_some_iff.mp hm).1
      have nLD : LE ≠ D := fun z => by
        rw [z, hD3] at hLE
        have : vN es = [] := by
          injection hLE with h1
          injection h1 with h2
          exact h2.symm
        have h3 : (vN es).length = 0 := by rw [this]; rfl
        rw [qh8] at h3
        lia
      have hml := pe.lt m (List.mem_of_getElem? hm)
      have hgm := qh7 hml
      have hti := qo2 (rows := rows) hm
      have h4 := (ok m _ hgm).1
      have hin : ∀ x ∈ rows.getD m [], InE (es.take i) x := fun x hx => by
        rcases pe.ch i m hm x hx with z | ⟨j, hj, ej⟩
        . exact .inl z
        . exact .inr (List.mem_of_getElem? (i := j) (by rw [List.getElem?_take, if_pos hj]; exact ej))
      have hni : m ∉ es.take i := fun z => by
        obtain ⟨j, hj, ej⟩ := List.mem_iff_getElem.mp z
        rw [List.length_take] at hj
        have e1 : es[j]? = some m := by
          rw [List.getElem_take] at ej
          rw [List.getElem?_eq_getElem (by lia), ej]
        exact nd_iff.mp pe.nd j i (by lia) hie (by rw [e1, hm])
      have htl : (es.take i).length = i := by rw [List.length_take]; lia
      generalize rows.getD m [] = r at hgm hti h4 hin
      have hbm : bs[m]? = some (bs[m]'(by lia)) := List.getElem?_eq_getElem (by lia)
      have hbt := s2 _ _ (hrow m _ r hbm hgm)
      have ixx : ∀ Q' : VK, Q' (.ref (bs[m]'(by lia))) H2 -> rIxS K (.ref rp) (.int (m : Int)) H2 Q' := fun Q' hQ => by
        rcases hrp with h | h
        . exact .inr ⟨rp, _, (m : Int), .ref (bs[m]'(by lia)), rfl, rfl, SqT.of (s2 _ _ h), qj2 (by rw [List.getElem?_map, hbm]; rfl), hQ⟩
        . exact .inl ⟨rp, _, (m : Int), .ref (bs[m]'(by lia)), rfl, rfl, SqL.of (s2 _ _ h), qj2 (by rw [List.getElem?_map, hbm]; rfl), hQ⟩
      refine ⟨_, rfl, .inl ⟨rfl, _, SqL.of hD2⟩, _, rfl, _, rfl, ixx _ ⟨_, rfl, bs[m]'(by lia), g, r, _, nm es, rfl, hbt, h4, hg2, fun x hx => by rw [nK_val (hin x hx), nm_pre (hin x hx)], fun H4 t s4 ht => ?_⟩⟩
      have hD4 := s4 _ _ hD2
      have ntD : t ≠ D := fun z => by rw [z, hD4] at ht; cases ht
      have hci : cs.length = i := by rw [hcl, List.length_take, qf6]; lia
      refine ⟨D, _, .ref t, rfl, rfl, hD4, by rw [List.length_map, hci]; exact qb8 (by lia), ?_⟩
      have hlen : ((cs.map V.ref ++ [V.ref t]).length : Int) = (i : Int) + 1 := by rw [List.length_append, List.length_map, hci]; rfl
      have hg5 : upd H4 D (.lst (cs.map V.ref ++ [.ref t])) g = some (.dK (qk4 ++ fK (es.take i))) := by rw [qa6 ngD]; exact s4 _ _ hg2
      have dq := DPut.k (k := Sum.inl ((m : Int) + 2)) (v := .int (((cs.map V.ref ++ [V.ref t]).length : Int) - 1 + 2)) hg5 (by
        have : (qk4 ++ fK (es.take i)).length = 2 + i := by rw [List.length_append]; unfold fK; rw [qk3, htl]; rfl
        rw [this]; exact qb8 (by lia))
      refine ⟨_, rfl, D, _, rfl, .inl (SqL.of qa1), _, _, rfl, rfl, _, _, rfl, rfl, _, rfl, _, rfl, _, _, rfl, rfl, g, _, rfl, dq, ?_⟩
      . have eput : putK (qk4 ++ fK (es.take i)) (Sum.inl ((m : Int) + 2)) (.int (((cs.map V.ref ++ [V.ref t]).length : Int) - 1 + 2)) = qk4 ++ fK (es.take (i + 1)) := by
          have h1 := nK_put hni
          have h2 : es.take (i + 1) = es.take i ++ [m] := by
            rw [List.take_succ, hm]; rfl
          rw [h2, ← h1, htl]
          congr 1
          rw [hlen]
          congr 1
          lia
        have eput' : ∀ v : V, v = .int (((cs.map V.ref ++ [V.ref t]).length : Int) - 1 + 2) -> putK (qk4 ++ fK (es.take i)) (Sum.inl ((m : Int) + 2)) v = qk4 ++ fK (es.take (i + 1)) := fun v hv => by rw [hv]; exact eput
        refine ⟨?_, ?_, ?_, ⟨cs ++ [t], ?_, ?_, ?_⟩, _, rfl⟩
        . intro b o z
          rw [qa6 (qa2 z hg), qa6 (qa2 z hDH)]
          exact s4 _ _ (s2 _ _ z)
        . rw [qa6 nLg, qa6 nLD]
          exact s4 _ _ hL2
        . rw [qa1, eput' _ rfl]
        . rw [qa6 (Ne.symm ngD), qa1, qA7]
        . rw [List.length_append, hci, List.length_take, qf6]
          show i + 1 = _
          lia
        . intro j b r0 e1 e2
          have ntg : ∀ {c : Addr} {u : List V}, H4 c = some (.tup u) -> c ≠ g ∧ c ≠ D := fun {c u} e => ⟨(fun z => by rw [z, s4 _ _ hg2] at e; cases e), (fun z => by rw [z, hD4] at e; cases e)⟩
          have htk : (told rows es).take (i + 1) = (told rows es).take i ++ [r.map (nm es)] := by rw [List.take_succ, hti]; rfl
          rw [htk] at e2
          by_cases hj : j < i
          . rw [List.getElem?_append_left (by lia)] at e1
            rw [List.getElem?_append_left (by rw [List.length_take, qf6]; lia)] at e2
            have hb := s4 _ _ (hcr j b r0 e1 e2)
            rw [qa6 (ntg hb).1, qa6 (ntg hb).2]
            exact hb
          . rw [List.getElem?_append_right (by lia)] at e1
            rw [List.getElem?_append_right (by rw [List.length_take, qf6]; lia)] at e2
            have hj0 : j - cs.length = 0 := by
              have := (List.getElem?_eq_some_iff.mp e1).1
              simp at this
              lia
            have hj1 : j - ((told rows es).take i).length = 0 := by
              rw [List.length_take, qf6]
              lia
            rw [hj0] at e1
            rw [hj1] at e2
            have eb : b = t := by simpa using e1.symm
            have er : r0 = r.map (nm es) := by simpa using e2.symm
            rw [eb, er, qa6 (ntg ht).1, qa6 ntD]
            exact ht
    . rintro σ H2 ⟨s2, hL2, hg2, hR2, v5, rfl⟩
      rw [qh8, List.take_length] at hg2
      have htk : (told rows es).take (vN es).length = told rows es := by rw [qh8]; exact List.take_of_length_le (by rw [qf6]; exact Nat.le_refl _)
      rw [htk] at hR2
      obtain ⟨cs, hD2, hcl, hcr⟩ := hR2
      have dg : DGet H2 g (.int (tp : Int)) (some (.int (nm es tp : Nat))) := by
        have := DGet.k (k := Sum.inl (tp : Int)) hg2
        rw [nK_val hxE] at this
        exact this
      refine ⟨_, rfl, _, rfl, _, rfl, g, _, rfl, dg, _, rfl, D, _, rfl, .inl ⟨SqL.of hD2, fun l hl => ⟨(by show 3 ≤ sizeLine; decide), fun t ht => ?_⟩⟩⟩
      exact q _ t ((s2.trans (qb7 hl)).trans (qb7 ht)) ⟨l, qa1, cs, qc3 qa1 ht, hcl, fun i b r e1 e2 => qc3 (qc3 (hcr i b r e1 e2) hl) ht⟩
end
end Pr
set_option Elab.async false
set_option linter.all false
set_option maxRecDepth 100000
set_option maxHeartbeats 4000000
namespace L2
open PySem
theorem compG_rng {H : Hp} {n k : Nat} {g : TG} {tt : TT} {te : TE} {σ : St} {Fin : Hp -> Prop} {D : Addr} (Iv : Nat -> List V -> Hp -> Prop) (hsz : n < sizeLine) (i0 : Iv 0 [] (upd H D (.lst []))) (hD : ∀ i xs H2, Iv i xs H2 -> H2 D = some (.lst xs) ∧ xs.length ≤ i)
    (step : ∀ i xs H2, i < n -> Iv i xs H2 -> ∀ os : St, os.length = k -> ∀ (Q1 : Hp -> Prop) (Q2 : VK), (∀ H3, Iv (i + 1) xs H3 -> Q1 H3) -> (∀ v H3, H3 D = some (.lst xs) -> Iv (i + 1) (xs ++ [v]) (upd H3 D (.lst (xs ++ [v]))) -> Q2 v H3) ->
      g (.int (0 + (i : Int))) (os ++ σ) H2 fun σ4 H4 => tt σ4 H4 fun b H5 => if b = true then te σ4 H5 Q2 else Q1 H5)
    (fin : ∀ xs H2, Iv n xs H2 -> Fin H2) :
    ∃ W : Nat -> Nat -> List V -> Hp -> Prop, (∃ m, W 0 m [] (upd H D (.lst []))) ∧
      ∀ i m xs H2, W i m xs H2 -> H2 D = some (.lst xs) ∧ xs.length < sizeLine ∧ (((Itr 0 n).stop i H2 ∧ Fin H2) ∨ ((Itr 0 n).go i H2 ∧ ∀ y H3, (Itr 0 n).yld i H2 y H3 -> ∀ os : St, os.length = k ->
        g y (os ++ σ) H3 fun σ4 H4 => tt σ4 H4 fun b H5 => if b = true then te σ4 H5 fun v H6 => H6 D = some (.lst xs) ∧ ∃ m', m' < m ∧ W (i + 1) m' (xs ++ [v]) (upd H6 D (.lst (xs ++ [v]))) else ∃ m', m' < m ∧ W (i + 1) m' xs H5)) := by
  refine ⟨fun i m xs H2 => i ≤ n ∧ m = n - i ∧ Iv i xs H2, ⟨n, Nat.zero_le _, rfl, i0⟩, ?_⟩
  rintro i m xs H2 ⟨hi, rfl, iv⟩
  obtain ⟨h1, h2⟩ := hD i xs H2 iv
  refine ⟨h1, by lia, ?_⟩
  by_cases he : i = n
  . subst he
    exact .inl ⟨Nat.le_refl i, fin xs H2 iv⟩
  . refine .inr ⟨show i < n by lia, fun y H3 hy os ho => ?_⟩
    obtain ⟨e1, e2⟩ := hy
    rw [e1, e2]
    exact step i xs H2 (by lia) iv os ho _ _ (fun H5 h => ⟨n - (i + 1), by lia, by lia, rfl, h⟩) fun v H6 h1 h2 => ⟨h1, n - (i + 1), by lia, by lia, rfl, h2⟩
theorem qN3 {H : Hp} {n : Nat} {te : TE} {σ : St} {Fin : Hp -> Prop} {D : Addr} (Iv : Nat -> List V -> Hp -> Prop) (hsz : n < sizeLine) (i0 : Iv 0 [] (upd H D (.lst []))) (hD : ∀ i xs H2, Iv i xs H2 -> H2 D = some (.lst xs) ∧ xs.length ≤ i)
    (step : ∀ i xs H2, i < n -> Iv i xs H2 -> ∀ Q2 : VK, (∀ v H3, H3 D = some (.lst xs) -> Iv (i + 1) (xs ++ [v]) (upd H3 D (.lst (xs ++ [v]))) -> Q2 v H3) -> te (some (.int (0 + (i : Int))) :: σ) H2 Q2)
    (fin : ∀ xs H2, Iv n xs H2 -> Fin H2) :
    ∃ W : Nat -> Nat -> List V -> Hp -> Prop, (∃ m, W 0 m [] (upd H D (.lst []))) ∧
      ∀ i m xs H2, W i m xs H2 -> H2 D = some (.lst xs) ∧ xs.length < sizeLine ∧ (((Itr 0 n).stop i H2 ∧ Fin H2) ∨ ((Itr 0 n).go i H2 ∧ ∀ y H3, (Itr 0 n).yld i H2 y H3 ->
        te (some y :: σ) H3 fun v H4 => H4 D = some (.lst xs) ∧ ∃ m', m' < m ∧ W (i + 1) m' (xs ++ [v]) (upd H4 D (.lst (xs ++ [v]))))) := by
  refine ⟨fun i m xs H2 => i ≤ n ∧ m = n - i ∧ Iv i xs H2, ⟨n, Nat.zero_le _, rfl, i0⟩, ?_⟩
  rintro i m xs H2 ⟨hi, rfl, iv⟩
  obtain ⟨h1, h2⟩ := hD i xs H2 iv
  refine ⟨h1, by lia, ?_⟩
  by_cases he : i = n
  . subst he
    exact .inl ⟨Nat.le_refl i, fin xs H2 iv⟩
  . refine .inr ⟨show i < n by lia, fun y H3 hy => ?_⟩
    obtain ⟨e1, e2⟩ := hy
    rw [e1, e2]
    exact step i xs H2 (by lia) iv _ fun v H6 h1 h2 => ⟨h1, n - (i + 1), by lia, by lia, rfl, h2⟩
end L2
namespace Pr
open PySem L2 Qf
structure Blt2 (mg : Str -> Option Value) : Prop where
  abs : mg "abs" = none
  repr : mg "repr" = none
  str : mg "str" = none
section
variable {P : Program} {w : World} {K : PySem.W.Frag} {mg : Str -> Option Value} {base : Heap}
theorem scDigit : FnScope ["_law_pot_here", "_law_many", "_law_digit_here"] ["_law_pot_here", "_law_many"] (qa7 qv7) := ⟨rfl, rfl, rfl, by decide +kernel, rfl, by decide +kernel, by decide +kernel⟩
def qr5 : Sp := fun vs H Q _ => ∃ (p : Addr) (n : Nat), vs = [.ref p, .int (n : Nat)] ∧ PurseAt H p ∧ 0 < n ∧ n < 1000000 ∧ ∀ (d : Nat) (H' : Hp), d < n -> But p H H' -> PurseAt H' p -> Q (.int (d : Nat)) H'
theorem qs9 {f : Addr} {fd : FuncData} (F : Fun K "_law_digit" "_law_digit" qv7 f fd) : FnOk P w K mg base CX0 1 f fd ["_law_pot_here", "_law_many"] qr5 := by
  refine F.ok scDigit (fun vs H Q E h => ?_) (fun cdv A outer s H vs Q E hr h => ?_)
  . obtain ⟨p, n, rfl, _⟩ := h
    rfl
  . obtain ⟨p, n, rfl, ⟨a, b, hp, ha, hb, hb2⟩, hn, hn2, q⟩ := h
    refine ⟨_, qc6 (qe0 (qb5 op_gt (qf3 qj9 (pv 0) qa4 (fun _ _ => rfl)) qa4 (qb6 _))
        (qc6 (qc4 (i := 2) scDigit.nd rfl (Or.inl rfl) (qb1 qx4 (qf3 qj9 (pv 0) qa4 (fun _ _ => rfl)) (pv 1)))
        (qc6 (qr8 (qb1 qj8 (qf3 qj9 (pv 0) qa4 (fun _ _ => rfl)) (pv 1)) (pg_sub (pv 0) qa4 qK6))
        (qb0 (qb3 (pv 2))))) qb4)
      (qc6 (qr8 (qb1 qx4 (qb1 qd9 (qb1 ql7 (qf3 qj9 (pv 0) qa4 (fun _ _ => rfl)) qa4) qa4) qa4) (pg_sub (pv 0) qa4 qK6))
      (qb0 (qb3 (qb1 qx4 (qb1 qj8 (qf3 qj9 (pv 0) qa4 (fun _ _ => rfl)) qa4) (pv 1))))), ?_⟩
    have sq : ∀ {H' : Hp} {xs : List V}, H' p = some (.lst xs) -> SqL K H' p xs := fun h => SqL.of h
    have fin : ∀ (d x y : Int), 0 ≤ d -> d < (n : Int) -> 0 ≤ x -> 0 ≤ y -> y < 2 ^ 40 -> Q (.int d) (upd H p (.lst [.int x, .int y])) := fun d x y d0 d1 x0 y0 y1 => by
      have := q d.toNat (upd H p (.lst [.int x, .int y])) (by lia) But.upd ⟨x, y, qa1, x0, y0, y1⟩
      rwa [show ((d.toNat : Nat) : Int) = d by lia] at this
    have hn0 : (0 : Int) < n := by lia
    refine ⟨_, rfl, p, _, 0, _, rfl, rfl, sq hp, rfl, _, _, rfl, rfl, _, rfl, ?_⟩
    refine ite2 (fun hc => ?_) (fun hc => ?_)
    . refine ⟨_, rfl, p, _, 0, _, rfl, rfl, sq hp, rfl, _, rfl, _, _, rfl, rfl, hn0, ?_⟩
      refine ⟨_, rfl, p, _, 0, _, rfl, rfl, sq hp, rfl, _, rfl, _, _, rfl, rfl, ⟨hn0, by lia⟩, _, rfl, p, _, 0, 0, rfl, rfl, hp, rfl, ?_⟩
      refine ⟨_, rfl, ?_⟩
      exact fin _ _ _ (Int.emod_nonneg _ (by lia)) (Int.emod_lt_of_pos _ hn0) (Int.ediv_nonneg ha (by lia)) hb hb2
    . refine ⟨_, rfl, p, _, 1, _, rfl, rfl, sq hp, rfl, _, _, rfl, rfl, .inl ⟨by lia, by lia⟩, _, _, rfl, rfl, _, _, rfl, rfl, (by show (0 : Int) < 2147483629; decide), _, rfl, p, _, 1, 1, rfl, rfl, hp, rfl, ?_⟩
      have m1 : 0 ≤ (b * 48271 + 8191) % 2147483629 ∧ (b * 48271 + 8191) % 2147483629 < 2147483629 := ⟨Int.emod_nonneg _ (by decide), Int.emod_lt_of_pos _ (by decide)⟩
      refine ⟨_, rfl, p, _, 1, _, rfl, rfl, sq qa1, rfl, _, _, rfl, rfl, ⟨by decide, by decide⟩, _, rfl, _, _, rfl, rfl, hn0, ?_⟩
      exact fin _ _ _ (Int.emod_nonneg _ (by lia)) (Int.emod_lt_of_pos _ hn0) ha m1.1 (by lia)
theorem scPot : FnScope ["_law_script", "_law_k", "_law_cell"] ["_law_script", "_law_k"] (qa7 lPot) := ⟨rfl, rfl, rfl, by decide +kernel, rfl, by decide +kernel, by decide +kernel⟩
def spPot (K : PySem.W.Frag) : Sp := fun vs H Q _ => ∃ (a : Addr) (k : Int) (ns : List Int), vs = [.ref a, .int k] ∧ SqL K H a (ns.map V.int) ∧ ns.length ≤ 63 ∧ 0 ≤ k ∧ k ≤ 1000 ∧ ∀ (H' : Hp) (p : Addr), Same H H' -> H p = none -> PurseAt H' p -> Q (.ref p) H'
theorem ok_pot {f : Addr} {fd : FuncData} (F : Fun K "_law_pot" "_law_pot" lPot f fd) (B : Blt mg) (C : Blt2 mg) : FnOk P w K mg base CX0 1 f fd ["_law_script", "_law_k"] (spPot K) := by
  refine F.ok scPot (fun vs H Q E h => ?_) (fun cdv A outer s H vs Q E hr h => ?_)
  . obtain ⟨a, k, ns, rfl, _⟩ := h
    rfl
  . obtain ⟨a, k, ns, rfl, hS, hl, h0, h1, q⟩ := h
    refine seqE ⟨_, ⟨qc4 (i := 2) scPot.nd rfl (Or.inl rfl) qa4⟩, ?_⟩
    refine seqE ⟨_, ⟨qe0 (qb5 qn5 (pv 1) (qa9 qd6 (by rfl) B.len PySem.boot_len (qa0 (pv 0) qa3)) (qb6 _)) (qb0 (qc4 (i := 2) scPot.nd rfl (Or.inl rfl) (qf3 qj9 (pv 0) (pv 1) (fun _ _ => rfl)))) qb4⟩, ?_⟩
    refine qi2 ⟨_, ⟨qb3 (qn6 (Ars2.go (.cons ⟨qa9 (qC0 rfl) (by rfl) B.max PyProof.Rows.boot_max (qa0 qa4 (qa0 (qb1 qe2 (qa9 qK4 (by rfl) C.abs PyProof.Rows.boot_abs (qa0 (pv 2) qa3)) (qb1 op_pow qa4 qa4)) qa3))⟩
        (.cons ⟨qb1 qd9 (qb1 qd9 (qb1 qx4 (qa9 qK4 (by rfl) C.abs PyProof.Rows.boot_abs (qa0 (pv 2) qa3)) qa4) (qb1 ql7 qa4 (pv 1))) qa4⟩ .nil rfl) rfl)))⟩, ?_⟩
    have fin : ∀ (z : Int) (p : Addr), H p = none -> Q (.ref p) (upd H p (.lst [.int (if (if z < 0 then -z else z) - 10 ^ 18 > 0 then (if z < 0 then -z else z) - 10 ^ 18 else 0), .int ((if z < 0 then -z else z) % 2147483629 + 97 * k + 1)])) := fun z p hp => by
      have m1 : 0 ≤ (if z < 0 then -z else z) % 2147483629 ∧ (if z < 0 then -z else z) % 2147483629 < 2147483629 := ⟨Int.emod_nonneg _ (by decide), Int.emod_lt_of_pos _ (by decide)⟩
      refine q _ p (qb7 hp) hp ⟨_, _, qa1, ?_, ?_, ?_⟩
      . split <;> lia
      . lia
      . lia
    refine ⟨_, rfl, _, rfl, a, _, rfl, .inl hS, _, _, rfl, rfl, _, rfl, ?_⟩
    refine ite2 (fun hc => ?_) (fun hc => ?_)
    . have hk : k < (ns.length : Int) := by
        have := of_decide_eq_true hc
        simpa using this
      have hkn : k.toNat < ns.length := by lia
      refine ⟨_, rfl, _, rfl, a, _, k, .int (ns[k.toNat]), rfl, rfl, hS, ?_, ?_⟩
      . have := qj2 (xs := ns.map V.int) (j := k.toNat) (v := .int (ns[k.toNat])) (by simp [hkn])
        rw [show ((k.toNat : Nat) : Int) = k by lia] at this
        exact this
      . refine ⟨_, rfl, _, rfl, _, _, rfl, rfl, ⟨by decide, by decide, by decide⟩, _, _, rfl, rfl, _, _, rfl, ?_⟩
        exact ⟨_, rfl, _, rfl, _, _, rfl, rfl, (by show (0 : Int) < 2147483629; decide), _, rfl, _, _, rfl, rfl, .inl ⟨by decide, by decide⟩, _, _, rfl, rfl, _, _, rfl, rfl, (by show 2 ≤ sizeLine; decide), fun p hp => fin _ p hp⟩
    . refine ⟨_, rfl, _, rfl, _, _, rfl, rfl, ⟨by decide, by decide, by decide⟩, _, _, rfl, rfl, _, _, rfl, ?_⟩
      exact ⟨_, rfl, _, rfl, _, _, rfl, rfl, (by show (0 : Int) < 2147483629; decide), _, rfl, _, _, rfl, rfl, .inl ⟨by decide, by decide⟩, _, _, rfl, rfl, _, _, rfl, rfl, (by show 2 ≤ sizeLine; decide), fun p hp => fin _ p hp⟩
end
end Pr
set_option Elab.async false
set_option linter.all false
set_option maxRecDepth 100000
set_option maxHeartbeats 4000000
namespace Qf
def ql3 (n : Nat) (b : Row) : Prop := ∃ r c h w, b = [r, c, h, w] ∧ 1 ≤ h ∧ 1 ≤ w ∧ r + h ≤ 2 ^ n ∧ c + w ≤ 2 ^ n
def Small (b : Row) : Prop := ∃ r c h w, b = [r, c, h, w] ∧ ((h ≤ 9 ∧ w ≤ 9) ∨ ∃ s i j, h = 2 ^ s ∧ w = 2 ^ s ∧ r = i * 2 ^ s ∧ c = j * 2 ^ s)
def Boxes (n : Nat) (bs : List Row) : Prop := (∀ b ∈ bs, ql3 n b) ∧ ((n < 4 ∧ bs.length ≤ 64) ∨ (bs.length ≤ 5 ∧ ∀ b ∈ bs, Small b))
theorem qw4 (k : Nat) : (1 : Int) * 2 ^ ((k : Int)).toNat = ((2 ^ k : Nat) : Int) := by
  rw [Int.toNat_natCast, Int.one_mul]; push_cast; rfl
theorem qn1 {n : Nat} (h : n ≤ 12) : 2 ^ n ≤ 4096 ∧ 0 < 2 ^ n := ⟨by
  have := Nat.pow_le_pow_right (n := 2) (by decide) h
  simpa using this, Nat.pow_pos (by decide)⟩
end Qf
namespace Pr
open PySem L2 Qf
section
variable {P : Program} {w : World} {K : PySem.W.Frag} {mg : Str -> Option Value} {base : Heap}
theorem scBox : FnScope ["_law_pot_here", "_law_n", "_law_most", "_law_side", "_law_size", "_law_row", "_law_column", "_law_high", "_law_wide"] ["_law_pot_here", "_law_n", "_law_most"] (qa7 lBox) := ⟨rfl, rfl, rfl, by decide +kernel, rfl, by decide +kernel, by decide +kernel⟩
def spBox : Sp := fun vs H Q _ => ∃ (p : Addr) (n : Nat), vs = [.ref p, .int (n : Nat), .int 9] ∧ PurseAt H p ∧ n ≤ 12 ∧
  ∀ (H' : Hp) (t : Addr) (b : Row), But p H H' -> PurseAt H' p -> H' t = some (.tup (vN b)) -> ql3 n b -> Small b -> Q (.ref t) H'
theorem ok_box {f fD : Addr} {fd fdD : FuncData} (F : Fun K "_law_box" "_law_box" lBox f fd) (B : Blt mg) (hD : mg "_law_digit" = some (.ref fD)) (FD : Fun K "_law_digit" "_law_digit" qv7 fD fdD) (bD : Binds K fdD ["_law_pot_here", "_law_many"] []) :
    FnOk P w K mg base CX0 2 f fd ["_law_pot_here", "_law_n", "_law_most"] spBox := by
  have GD : FnOk P w K mg base CX0 1 fD fdD ["_law_pot_here", "_law_many"] qr5 := qs9 FD
  refine F.ok scBox (fun vs H Q E h => ?_) (fun cdv A outer s H vs Q E hr h => ?_)
  . obtain ⟨p, n, rfl, _⟩ := h
    rfl
  . obtain ⟨p, n, rfl, hp, hn, q⟩ := h
    refine seqE ⟨_, ⟨qc4 (i := 3) scBox.nd rfl (Or.inl rfl) (qb1 qo9 qa4 (pv 1))⟩, ?_⟩
    refine seqE ⟨_, ⟨qe0 (qb5 qw8 (qa8 GD hr (by rfl) hD FD.kp bD .nil qb9 (qa0 (pv 0) (qa0 qa4 qa3))) qa4 (qb6 _))
      (StB.go (.cons ⟨qc4 (i := 4) scBox.nd rfl (Or.inl rfl) (qa8 GD hr (by rfl) hD FD.kp bD .nil qb9 (qa0 (pv 0) (qa0 (qb1 qd9 (pv 1) qa4) qa3)))⟩
        (.cons ⟨qc4 (i := 5) scBox.nd rfl (Or.inl rfl) (qb1 ql7 (qa8 GD hr (by rfl) hD FD.kp bD .nil qb9 (qa0 (pv 0) (qa0 (qb1 qo9 qa4 (qb1 qe2 (pv 1) (pv 4))) qa3))) (qb1 qo9 qa4 (pv 4)))⟩
        (.cons ⟨qc4 (i := 6) scBox.nd rfl (Or.inl rfl) (qb1 ql7 (qa8 GD hr (by rfl) hD FD.kp bD .nil qb9 (qa0 (pv 0) (qa0 (qb1 qo9 qa4 (qb1 qe2 (pv 1) (pv 4))) qa3))) (qb1 qo9 qa4 (pv 4)))⟩
        (.one ⟨qb3 (qg9 (Ars2.go (.cons ⟨pv 5⟩ (.cons ⟨pv 6⟩ (.cons ⟨qb1 qo9 qa4 (pv 4)⟩ (.cons ⟨qb1 qo9 qa4 (pv 4)⟩ .nil rfl) rfl) rfl) rfl)))⟩))))) qb4⟩, ?_⟩
    refine seqE ⟨_, ⟨qc4 (i := 5) scBox.nd rfl (Or.inl rfl) (qa8 GD hr (by rfl) hD FD.kp bD .nil qb9 (qa0 (pv 0) (qa0 (pv 3) qa3)))⟩, ?_⟩
    refine seqE ⟨_, ⟨qc4 (i := 6) scBox.nd rfl (Or.inl rfl) (qa8 GD hr (by rfl) hD FD.kp bD .nil qb9 (qa0 (pv 0) (qa0 (pv 3) qa3)))⟩, ?_⟩
    refine seqE ⟨_, ⟨qc4 (i := 7) scBox.nd rfl (Or.inl rfl) (qb1 qd9 qa4 (qa8 GD hr (by rfl) hD FD.kp bD .nil qb9 (qa0 (pv 0) (qa0 (qa9 (qt8 rfl) (by rfl) B.min PyProof.Rows.boot_min (qa0 (pv 2) (qa0 (qb1 qe2 (pv 3) (pv 5)) qa3))) qa3))))⟩, ?_⟩
    refine seqE ⟨_, ⟨qc4 (i := 8) scBox.nd rfl (Or.inl rfl) (qb1 qd9 qa4 (qa8 GD hr (by rfl) hD FD.kp bD .nil qb9 (qa0 (pv 0) (qa0 (qa9 (qt8 rfl) (by rfl) B.min PyProof.Rows.boot_min (qa0 (pv 2) (qa0 (qb1 qe2 (pv 3) (pv 6)) qa3))) qa3))))⟩, ?_⟩
    refine qi2 ⟨_, ⟨qb3 (qg9 (Ars2.go (.cons ⟨pv 5⟩ (.cons ⟨pv 6⟩ (.cons ⟨pv 7⟩ (.cons ⟨pv 8⟩ .nil rfl) rfl) rfl) rfl)))⟩, ?_⟩
    obtain ⟨p1, p2⟩ := qn1 hn
    refine ⟨_, rfl, _, _, rfl, rfl, ⟨by lia, by lia, by decide⟩, ?_⟩
    refine ⟨_, rfl, p, 2, rfl, hp, by decide, by decide, fun d H1 hd b1 hp1 => ⟨rfl, _, rfl, ?_⟩⟩
    refine ite2 (fun hc => ?_) (fun hc => ?_)
    . refine ⟨_, rfl, _, rfl, _, _, rfl, rfl, p, n + 1, rfl, hp1, by lia, by lia, fun z H2 hz b2 hp2 => ?_⟩
      have hzn : z ≤ n := by lia
      obtain ⟨s1, s2⟩ := qn1 (Nat.le_trans hzn hn)
      obtain ⟨m1, m2⟩ := qn1 (Nat.le_trans (Nat.sub_le n z) hn)
      have em : (1 : Int) * 2 ^ ((n : Int) - (z : Int)).toNat = ((2 ^ (n - z) : Nat) : Int) := by
        rw [← qw4 (n - z)]
        congr 3
        lia
      have ez := qw4 z
      have hsplit : 2 ^ (n - z) * 2 ^ z = 2 ^ n := by rw [← Nat.pow_add]; congr 1; lia
      refine ⟨_, rfl, _, rfl, _, rfl, _, _, rfl, rfl, _, _, rfl, rfl, ⟨by lia, by lia, by decide⟩, p, 2 ^ (n - z), congrArg (fun x => [V.ref p, V.int x]) em, hp2, m2, by lia, fun i H3 hi b3 hp3 => ?_⟩
      refine ⟨_, rfl, _, _, rfl, rfl, ⟨by lia, by lia, by decide⟩, _, _, rfl, rfl, .inl ⟨by lia, by lia⟩, ?_⟩
      refine ⟨_, rfl, _, rfl, _, rfl, _, _, rfl, rfl, _, _, rfl, rfl, ⟨by lia, by lia, by decide⟩, p, 2 ^ (n - z), congrArg (fun x => [V.ref p, V.int x]) em, hp3, m2, by lia, fun j H4 hj b4 hp4 => ?_⟩
      refine ⟨_, rfl, _, _, rfl, rfl, ⟨by lia, by lia, by decide⟩, _, _, rfl, rfl, .inl ⟨by lia, by lia⟩, ?_⟩
      refine ⟨_, rfl, _, rfl, _, rfl, _, _, rfl, rfl, ⟨by lia, by lia, by decide⟩, _, rfl, _, _, rfl, rfl, ⟨by lia, by lia, by decide⟩, (by show 4 ≤ sizeLine; decide), fun t ht => ?_⟩
      have bnd : ∀ i, i < 2 ^ (n - z) -> i * 2 ^ z + 2 ^ z ≤ 2 ^ n := fun i hi => by
        rw [← hsplit, ← Nat.succ_mul]
        exact Nat.mul_le_mul_right _ hi
      refine q _ t [i * 2 ^ z, j * 2 ^ z, 2 ^ z, 2 ^ z] ((((b1.trans b2).trans b3).trans b4).trans (But.of (qb7 ht))) (hp4.same (qb7 ht)) ?_ ⟨_, _, _, _, rfl, s2, s2, bnd i hi, bnd j hj⟩ ⟨_, _, _, _, rfl, .inr ⟨z, i, j, rfl, rfl, rfl, rfl⟩⟩
      rw [qa1]
      show some (HO.tup [V.int ((i : Int) * (1 * 2 ^ ((z : Int)).toNat)), V.int ((j : Int) * (1 * 2 ^ ((z : Int)).toNat)), V.int (1 * 2 ^ ((z : Int)).toNat), V.int (1 * 2 ^ ((z : Int)).toNat)]) = some (HO.tup [V.int ((i * 2 ^ z : Nat) : Int), V.int ((j * 2 ^ z : Nat) : Int), V.int ((2 ^ z : Nat) : Int), V.int ((2 ^ z : Nat) : Int)])
      rw [ez]
      push_cast
      rfl
    . have es := qw4 n
      have hside : [V.ref p, V.int ((1 : Int) * 2 ^ ((n : Int)).toNat)] = [V.ref p, V.int ((2 ^ n : Nat) : Int)] := by rw [es]
      refine ⟨_, rfl, _, rfl, p, 2 ^ n, hside, hp1, p2, by lia, fun r H2 hr2 b2 hp2 => ?_⟩
      refine ⟨_, rfl, _, rfl, p, 2 ^ n, hside, hp2, p2, by lia, fun c H3 hc3 b3 hp3 => ?_⟩
      have emin : ∀ r : Nat, r < 2 ^ n -> [V.ref p, V.int (if (1 : Int) * 2 ^ ((n : Int)).toNat - (r : Int) < 9 then (1 : Int) * 2 ^ ((n : Int)).toNat - (r : Int) else 9)] = [V.ref p, V.int ((min 9 (2 ^ n - r) : Nat) : Int)] := fun r hr => by
        rw [es]
        congr 3
        split <;> lia
      refine ⟨_, rfl, _, rfl, _, rfl, _, rfl, _, _, rfl, rfl, _, _, rfl, p, min 9 (2 ^ n - r), emin r hr2, hp3, by lia, by lia, fun h H4 hh b4 hp4 => ?_⟩
      refine ⟨_, _, rfl, rfl, ?_⟩
      refine ⟨_, rfl, _, rfl, _, rfl, _, rfl, _, _, rfl, rfl, _, _, rfl, p, min 9 (2 ^ n - c), emin c hc3, hp4, by lia, by lia, fun w' H5 hw b5 hp5 => ?_⟩
      refine ⟨_, _, rfl, rfl, ?_⟩
      refine ⟨_, rfl, _, rfl, _, rfl, _, rfl, (by show 4 ≤ sizeLine; decide), fun t ht => ?_⟩
      refine q _ t [r, c, 1 + h, 1 + w'] (((((b1.trans b2).trans b3).trans b4).trans b5).trans (But.of (qb7 ht))) (hp5.same (qb7 ht)) ?_ ⟨_, _, _, _, rfl, by lia, by lia, by lia, by lia⟩ ⟨_, _, _, _, rfl, .inl ⟨by lia, by lia⟩⟩
      rw [qa1]
      rfl
end
end Pr
set_option Elab.async false
set_option linter.all false
set_option maxRecDepth 100000
set_option maxHeartbeats 4000000
namespace Qf
open Tr
def qd1 (r c s : Nat) (b : Row) : Bool := decide (b.getD 0 0 < r + s ∧ r < b.getD 0 0 + b.getD 2 0 ∧ c < b.getD 1 0 + b.getD 3 0 ∧ b.getD 1 0 < c + s)
def hasB (r c s : Nat) (b : Row) : Bool := decide (b.getD 0 0 ≤ r ∧ r + s ≤ b.getD 0 0 + b.getD 2 0 ∧ b.getD 1 0 ≤ c ∧ c + s ≤ b.getD 1 0 + b.getD 3 0)
def mk (a b c d : Tr) : Tr := if a = z ∧ b = z ∧ c = z ∧ d = z then z else if a = o ∧ b = o ∧ c = o ∧ d = o then o else .nd a b c d
def met (boxes : List Row) (r c s : Nat) : List Row := boxes.filter (qd1 r c s)
def bt : Nat -> List Row -> Nat -> Nat -> Tr
  | 0, boxes, r, c => if met boxes r c 1 = [] then z else if (met boxes r c 1).any (hasB r c 1) then o else z
  | k + 1, boxes, r, c => if met boxes r c (2 ^ (k + 1)) = [] then z else if (met boxes r c (2 ^ (k + 1))).any (hasB r c (2 ^ (k + 1))) then o else
      mk (bt k (met boxes r c (2 ^ (k + 1))) r c) (bt k (met boxes r c (2 ^ (k + 1))) r (c + 2 ^ k)) (bt k (met boxes r c (2 ^ (k + 1))) (r + 2 ^ k) c) (bt k (met boxes r c (2 ^ (k + 1))) (r + 2 ^ k) (c + 2 ^ k))
theorem mk_red {a b c d : Tr} (ha : Red a) (hb : Red b) (hc : Red c) (hd : Red d) : Red (mk a b c d) := by
  unfold mk
  split
  . trivial
  . split
    . trivial
    . exact ⟨by assumption, by assumption, ha, hb, hc, hd⟩
theorem qG0 : ∀ (k : Nat) (boxes : List Row) (r c : Nat), Red (bt k boxes r c)
  | 0, boxes, r, c => by
    unfold bt
    split
    . trivial
    . split <;> trivial
  | k + 1, boxes, r, c => by
    unfold bt
    split
    . trivial
    . split
      . trivial
      . exact mk_red (qG0 k _ _ _) (qG0 k _ _ _) (qG0 k _ _ _) (qG0 k _ _ _)
theorem mk_dep {a b c d : Tr} {k : Nat} (ha : dep a ≤ k) (hb : dep b ≤ k) (hc : dep c ≤ k) (hd : dep d ≤ k) : dep (mk a b c d) ≤ k + 1 := by
  unfold mk
  split
  . show 0 ≤ _; lia
  . split
    . show 0 ≤ _; lia
    . show 1 + mx [dep a, dep b, dep c, dep d] ≤ k + 1
      have := mx_le (l := [dep a, dep b, dep c, dep d]) (b := k) (by
        intro x hx
        have : x = dep a ∨ x = dep b ∨ x = dep c ∨ x = dep d := by simpa using hx
        rcases this with rfl | rfl | rfl | rfl <;> assumption)
      lia
theorem qG1 : ∀ (k : Nat) (boxes : List Row) (r c : Nat), dep (bt k boxes r c) ≤ k
  | 0, boxes, r, c => by
    unfold bt
    split
    . exact Nat.le_refl 0
    . split <;> exact Nat.le_refl 0
  | k + 1, boxes, r, c => by
    unfold bt
    split
    . exact Nat.zero_le _
    . split
      . exact Nat.zero_le _
      . exact mk_dep (qG1 k _ _ _) (qG1 k _ _ _) (qG1 k _ _ _) (qG1 k _ _ _)
def nds : Tr -> Nat
  | .nd a b c d => 1 + nds a + nds b + nds c + nds d
  | _ => 0
theorem qm5 : ∀ (t : Tr) (e : List Tr), (post t e).length ≤ e.length + nds t
  | .z, e => Nat.le_refl _
  | .o, e => Nat.le_refl _
  | .nd a b c d, e => by
    unfold post
    split
    . exact Nat.le_add_right _ _
    . have h1 := qm5 a e
      have h2 := qm5 b (post a e)
      have h3 := qm5 c (post b (post a e))
      have h4 := qm5 d (post c (post b (post a e)))
      rw [List.length_append]
      show _ + 1 ≤ e.length + (1 + nds a + nds b + nds c + nds d)
      lia
theorem mk_nds (a b c d : Tr) : nds (mk a b c d) ≤ 1 + nds a + nds b + nds c + nds d := by
  unfold mk
  split
  . exact Nat.zero_le _
  . split
    . exact Nat.zero_le _
    . exact Nat.le_refl _
def cnt (b : Row) : Nat -> Nat -> Nat -> Nat
  | 0, _, _ => 0
  | k + 1, r, c => if qd1 r c (2 ^ (k + 1)) b = true ∧ hasB r c (2 ^ (k + 1)) b = false then 1 + cnt b k r c + cnt b k r (c + 2 ^ k) + cnt b k (r + 2 ^ k) c + cnt b k (r + 2 ^ k) (c + 2 ^ k) else 0
def cnts (boxes : List Row) (k r c : Nat) : Nat := (boxes.map fun b => cnt b k r c).sum
theorem qJ8 {p : Row -> Bool} (boxes : List Row) (k r c : Nat) : cnts (boxes.filter p) k r c ≤ cnts boxes k r c := by
  induction boxes with
  | nil => exact Nat.le_refl _
  | cons b bs ih =>
    unfold cnts at ih ⊢
    rw [List.filter_cons]
    split
    . simp only [List.map_cons, List.sum_cons]; lia
    . simp only [List.map_cons, List.sum_cons]; lia
theorem qQ7 {boxes : List Row} {k r c : Nat} (hm : ∀ b ∈ boxes, qd1 r c (2 ^ (k + 1)) b = true ∧ hasB r c (2 ^ (k + 1)) b = false) :
    cnts boxes (k + 1) r c = boxes.length + cnts boxes k r c + cnts boxes k r (c + 2 ^ k) + cnts boxes k (r + 2 ^ k) c + cnts boxes k (r + 2 ^ k) (c + 2 ^ k) := by
  induction boxes with
  | nil => rfl
  | cons b bs ih =>
    have h1 := ih fun x hx => hm x (List.mem_cons_of_mem _ hx)
    have e : cnt b (k + 1) r c = 1 + cnt b k r c + cnt b k r (c + 2 ^ k) + cnt b k (r + 2 ^ k) c + cnt b k (r + 2 ^ k) (c + 2 ^ k) := by
      show (if _ then _ else _) = _
      rw [if_pos (hm b List.mem_cons_self)]
    unfold cnts at h1 ⊢
    simp only [List.map_cons, List.sum_cons, List.length_cons, e, h1]
    lia
theorem qG2 : ∀ (k : Nat) (boxes : List Row) (r c : Nat), nds (bt k boxes r c) ≤ cnts boxes k r c
  | 0, boxes, r, c => by
    unfold bt
    split
    . exact Nat.zero_le _
    . split <;> exact Nat.zero_le _
  | k + 1, boxes, r, c => by
    unfold bt
    split
    . exact Nat.zero_le _
    . rename_i hne
      split
      . exact Nat.zero_le _
      . rename_i hany
        refine Nat.le_trans (mk_nds _ _ _ _) ?_
        have h1 := qG2 k (met boxes r c (2 ^ (k + 1))) r c
        have h2 := qG2 k (met boxes r c (2 ^ (k + 1))) r (c + 2 ^ k)
        have h3 := qG2 k (met boxes r c (2 ^ (k + 1))) (r + 2 ^ k) c
        have h4 := qG2 k (met boxes r c (2 ^ (k + 1))) (r + 2 ^ k) (c + 2 ^ k)
        have h5 : cnts (met boxes r c (2 ^ (k + 1))) (k + 1) r c ≤ cnts boxes (k + 1) r c := qJ8 _ _ _ _
        have hm : ∀ b ∈ met boxes r c (2 ^ (k + 1)), qd1 r c (2 ^ (k + 1)) b = true ∧ hasB r c (2 ^ (k + 1)) b = false := fun b hb => by
          refine ⟨(List.mem_filter.mp hb).2, ?_⟩
          cases hh : hasB r c (2 ^ (k + 1)) b with
          | false => rfl
          | true => exact absurd (List.any_eq_true.mpr ⟨b, hb, hh⟩) hany
        rw [qQ7 hm] at h5
        have hl : 0 < (met boxes r c (2 ^ (k + 1))).length := List.length_pos_iff.mpr hne
        lia
def sz : Nat -> Nat
  | 0 => 0
  | k + 1 => 4 * sz k + 1
theorem qQ8 : ∀ (k : Nat) (boxes : List Row) (r c : Nat), nds (bt k boxes r c) ≤ sz k
  | 0, boxes, r, c => by
    unfold bt
    split
    . exact Nat.zero_le _
    . split <;> exact Nat.zero_le _
  | k + 1, boxes, r, c => by
    unfold bt
    split
    . exact Nat.zero_le _
    . split
      . exact Nat.zero_le _
      . refine Nat.le_trans (mk_nds _ _ _ _) ?_
        have h1 := qQ8 k (met boxes r c (2 ^ (k + 1))) r c
        have h2 := qQ8 k (met boxes r c (2 ^ (k + 1))) r (c + 2 ^ k)
        have h3 := qQ8 k (met boxes r c (2 ^ (k + 1))) (r + 2 ^ k) c
        have h4 := qQ8 k (met boxes r c (2 ^ (k + 1))) (r + 2 ^ k) (c + 2 ^ k)
        show _ ≤ 4 * sz k + 1
        lia
def lin (a h j : Nat) : Nat -> Nat -> Nat
  | 0, x => 0
  | k + 1, x => if j = k + 1 then (if a < x + 2 ^ (k + 1) ∧ x < a + h then 1 else 0) else lin a h j k x + lin a h j k (x + 2 ^ k)
def squ (a h c w : Nat) : Nat -> Nat -> Nat -> Nat -> Nat
  | 0, _, _, _ => 0
  | j + 1, k, x, y => squ a h c w j k x y + lin a h (j + 1) k x * lin c w (j + 1) k y
theorem qG3 (a h c w : Nat) : ∀ (j k x y : Nat), j ≤ k -> squ a h c w j (k + 1) x y = squ a h c w j k x y + squ a h c w j k x (y + 2 ^ k) + squ a h c w j k (x + 2 ^ k) y + squ a h c w j k (x + 2 ^ k) (y + 2 ^ k)
  | 0, k, x, y, _ => rfl
  | j + 1, k, x, y, hj => by
    have ih := qG3 a h c w j k x y (by lia)
    have e1 : ∀ a h x, lin a h (j + 1) (k + 1) x = lin a h (j + 1) k x + lin a h (j + 1) k (x + 2 ^ k) := fun a h x => by
      show (if j + 1 = k + 1 then _ else _) = _
      rw [if_neg (by lia)]
    show squ a h c w j (k + 1) x y + lin a h (j + 1) (k + 1) x * lin c w (j + 1) (k + 1) y = _
    rw [ih, e1, e1]
    show _ = (squ a h c w j k x y + lin a h (j + 1) k x * lin c w (j + 1) k y) + (squ a h c w j k x (y + 2 ^ k) + lin a h (j + 1) k x * lin c w (j + 1) k (y + 2 ^ k)) + (squ a h c w j k (x + 2 ^ k) y + lin a h (j + 1) k (x + 2 ^ k) * lin c w (j + 1) k y) + (squ a h c w j k (x + 2 ^ k) (y + 2 ^ k) + lin a h (j + 1) k (x + 2 ^ k) * lin c w (j + 1) k (y + 2 ^ k))
    generalize lin a h (j + 1) k x = p, lin a h (j + 1) k (x + 2 ^ k) = p', lin c w (j + 1) k y = q, lin c w (j + 1) k (y + 2 ^ k) = q'
    rw [Nat.add_mul, Nat.mul_add, Nat.mul_add]
    lia
theorem qw5 (a c h w : Nat) : ∀ (k x y : Nat), cnt [a, c, h, w] k x y ≤ squ a h c w k k x y
  | 0, x, y => Nat.le_refl _
  | k + 1, x, y => by
    show (if qd1 x y (2 ^ (k + 1)) [a, c, h, w] = true ∧ _ then _ else _) ≤ squ a h c w k (k + 1) x y + lin a h (k + 1) (k + 1) x * lin c w (k + 1) (k + 1) y
    split
    . rename_i hm
      have m : a < x + 2 ^ (k + 1) ∧ x < a + h ∧ y < c + w ∧ c < y + 2 ^ (k + 1) := of_decide_eq_true hm.1
      have e1 : lin a h (k + 1) (k + 1) x = 1 := by
        show (if k + 1 = k + 1 then (if _ then 1 else 0) else _) = 1
        rw [if_pos rfl, if_pos ⟨m.1, m.2.1⟩]
      have e2 : lin c w (k + 1) (k + 1) y = 1 := by
        show (if k + 1 = k + 1 then (if _ then 1 else 0) else _) = 1
        rw [if_pos rfl, if_pos ⟨m.2.2.2, m.2.2.1⟩]
      rw [qG3 a h c w k k x y (Nat.le_refl _), e1, e2]
      have h1 := qw5 a c h w k x y
      have h2 := qw5 a c h w k x (y + 2 ^ k)
      have h3 := qw5 a c h w k (x + 2 ^ k) y
      have h4 := qw5 a c h w k (x + 2 ^ k) (y + 2 ^ k)
      lia
    . exact Nat.zero_le _
theorem qA9 (a h j : Nat) (hh : 1 ≤ h) : ∀ (i u : Nat), lin a h (j + 1) (j + 1 + i) (u * 2 ^ (j + 1)) ≤ min (u + 2 ^ i) ((a + h - 1) / 2 ^ (j + 1) + 1) - max u (a / 2 ^ (j + 1))
  | 0, u => by
    have hp : 0 < 2 ^ (j + 1) := Nat.pow_pos (by decide)
    show (if j + 1 = j + 1 then (if _ then 1 else 0) else _) ≤ _
    rw [if_pos rfl]
    split
    . rename_i m
      have h1 : a / 2 ^ (j + 1) ≤ u := by
        have : a / 2 ^ (j + 1) < u + 1 := (Nat.div_lt_iff_lt_mul hp).mpr (by rw [Nat.succ_mul]; exact m.1)
        lia
      have h2 : u ≤ (a + h - 1) / 2 ^ (j + 1) := (Nat.le_div_iff_mul_le hp).mpr (by lia)
      rw [Nat.pow_zero]
      lia
    . exact Nat.zero_le _
  | i + 1, u => by
    have e : lin a h (j + 1) (j + 1 + (i + 1)) (u * 2 ^ (j + 1)) = lin a h (j + 1) (j + 1 + i) (u * 2 ^ (j + 1)) + lin a h (j + 1) (j + 1 + i) (u * 2 ^ (j + 1) + 2 ^ (j + 1 + i)) := by
      show (if j + 1 = j + 1 + i + 1 then _ else _) = _
      rw [if_neg (by lia)]
      rfl
    have e2 : u * 2 ^ (j + 1) + 2 ^ (j + 1 + i) = (u + 2 ^ i) * 2 ^ (j + 1) := by rw [Nat.add_mul, Nat.pow_add 2 (j + 1) i, Nat.mul_comm (2 ^ i)]
    have h1 := qA9 a h j hh i u
    have h2 := qA9 a h j hh i (u + 2 ^ i)
    have e3 : 2 ^ (i + 1) = 2 ^ i + 2 ^ i := by rw [Nat.pow_succ]; lia
    rw [e, e2, e3]
    lia
def lim : Nat -> Nat
  | 1 => 6
  | 2 => 4
  | 3 => 3
  | _ => 2
theorem lin_lim {a h k j : Nat} (hh : 1 ≤ h) (h9 : h ≤ 9) (hj : j + 1 ≤ k) : lin a h (j + 1) k 0 ≤ lim (j + 1) := by
  obtain ⟨i, rfl⟩ : ∃ i, k = j + 1 + i := ⟨k - (j + 1), by lia⟩
  have h1 := qA9 a h j hh i 0
  rw [Nat.zero_mul] at h1
  have hp : 0 < 2 ^ (j + 1) := Nat.pow_pos (by decide)
  have h2 : (a + h - 1) / 2 ^ (j + 1) ≤ a / 2 ^ (j + 1) + 8 / 2 ^ (j + 1) + 1 := by
    have := Nat.add_div (a := a) (b := 8) hp
    have h3 : (a + h - 1) / 2 ^ (j + 1) ≤ (a + 8) / 2 ^ (j + 1) := Nat.div_le_div_right (by lia)
    split at this <;> lia
  have h4 : 8 / 2 ^ (j + 1) + 2 ≤ lim (j + 1) := by
    match j with
    | 0 => decide
    | 1 => decide
    | 2 => decide
    | j + 3 =>
      have : 2 ^ (j + 3 + 1) ≥ 16 := by
        have := Nat.pow_le_pow_right (n := 2) (by decide) (show 4 ≤ j + 3 + 1 by lia)
        simpa using this
      rw [Nat.div_eq_of_lt (by lia)]
      exact Nat.le_refl 2
  lia
def lims : Nat -> Nat
  | 0 => 0
  | j + 1 => lims j + lim (j + 1) * lim (j + 1)
theorem qN4 {a h c w k : Nat} (h1 : 1 ≤ h) (h2 : h ≤ 9) (w1 : 1 ≤ w) (w2 : w ≤ 9) : ∀ j, j ≤ k -> squ a h c w j k 0 0 ≤ lims j
  | 0, _ => Nat.le_refl _
  | j + 1, hj => Nat.add_le_add (qN4 h1 h2 w1 w2 j (by lia)) (Nat.mul_le_mul (lin_lim h1 h2 hj) (lin_lim w1 w2 hj))
theorem qG4 : ∀ {j k : Nat}, j ≤ k -> lims j ≤ lims k
  | j, 0, h => by rw [show j = 0 by lia]; exact Nat.le_refl _
  | j, k + 1, h => by
    by_cases e : j = k + 1
    . rw [e]; exact Nat.le_refl _
    . exact Nat.le_trans (qG4 (show j ≤ k by lia)) (Nat.le_add_right _ _)
theorem qj5 (s i j : Nat) : ∀ (k u v : Nat), cnt [i * 2 ^ s, j * 2 ^ s, 2 ^ s, 2 ^ s] k (u * 2 ^ k) (v * 2 ^ k) ≤ k
  | 0, u, v => Nat.le_refl _
  | k + 1, u, v => by
    show (if qd1 (u * 2 ^ (k + 1)) (v * 2 ^ (k + 1)) (2 ^ (k + 1)) [i * 2 ^ s, j * 2 ^ s, 2 ^ s, 2 ^ s] = true ∧ hasB (u * 2 ^ (k + 1)) (v * 2 ^ (k + 1)) (2 ^ (k + 1)) [i * 2 ^ s, j * 2 ^ s, 2 ^ s, 2 ^ s] = false then _ else _) ≤ _
    split
    . rename_i hm
      have m : i * 2 ^ s < u * 2 ^ (k + 1) + 2 ^ (k + 1) ∧ u * 2 ^ (k + 1) < i * 2 ^ s + 2 ^ s ∧ v * 2 ^ (k + 1) < j * 2 ^ s + 2 ^ s ∧ j * 2 ^ s < v * 2 ^ (k + 1) + 2 ^ (k + 1) := of_decide_eq_true hm.1
      have nh : ¬ (i * 2 ^ s ≤ u * 2 ^ (k + 1) ∧ u * 2 ^ (k + 1) + 2 ^ (k + 1) ≤ i * 2 ^ s + 2 ^ s ∧ j * 2 ^ s ≤ v * 2 ^ (k + 1) ∧ v * 2 ^ (k + 1) + 2 ^ (k + 1) ≤ j * 2 ^ s + 2 ^ s) := of_decide_eq_false hm.2
      have mul_up : ∀ {x y m : Nat}, 0 < m -> x * m < y * m + m -> x * m ≤ y * m := fun {x y m} hm h => by
        have : x < y + 1 := Nat.lt_of_mul_lt_mul_right (a := m) (by rw [Nat.succ_mul]; exact h)
        exact Nat.mul_le_mul_right _ (by lia)
      have hk : s ≤ k := by
        by_cases z : s ≤ k
        . exact z
        . exfalso
          apply nh
          obtain ⟨d, rfl⟩ : ∃ d, s = k + 1 + d := ⟨s - (k + 1), by lia⟩
          have hp : 0 < 2 ^ (k + 1) := Nat.pow_pos (by decide)
          have ep : 2 ^ (k + 1 + d) = 2 ^ d * 2 ^ (k + 1) := by rw [Nat.pow_add, Nat.mul_comm]
          have e : ∀ i, i * 2 ^ (k + 1 + d) = i * 2 ^ d * 2 ^ (k + 1) := fun i => by rw [ep, Nat.mul_assoc]
          have e' : ∀ i, i * 2 ^ (k + 1 + d) + 2 ^ (k + 1 + d) = (i * 2 ^ d + 2 ^ d) * 2 ^ (k + 1) := fun i => by rw [Nat.add_mul, ← ep, ← e]
          have low : ∀ u i, i * 2 ^ (k + 1 + d) < u * 2 ^ (k + 1) + 2 ^ (k + 1) -> i * 2 ^ (k + 1 + d) ≤ u * 2 ^ (k + 1) := fun u i h => by
            rw [e] at h ⊢
            exact mul_up hp h
          have up : ∀ u i, u * 2 ^ (k + 1) < i * 2 ^ (k + 1 + d) + 2 ^ (k + 1 + d) -> u * 2 ^ (k + 1) + 2 ^ (k + 1) ≤ i * 2 ^ (k + 1 + d) + 2 ^ (k + 1 + d) := fun u i h => by
            rw [e'] at h ⊢
            rw [← Nat.succ_mul]
            exact Nat.mul_le_mul_right _ (Nat.lt_of_mul_lt_mul_right h)
          exact ⟨low u i m.1, up u i m.2.1, low v j m.2.2.2, up v j m.2.2.1⟩
      obtain ⟨d, rfl⟩ : ∃ d, k = s + d := ⟨k - s, by lia⟩
      have hp : 0 < 2 ^ s := Nat.pow_pos (by decide)
      have es : 2 ^ (s + d) = 2 ^ d * 2 ^ s := by rw [Nat.pow_add, Nat.mul_comm]
      have ek : ∀ u, u * 2 ^ (s + d + 1) = (2 * u) * 2 ^ (s + d) := fun u => by rw [Nat.pow_succ, Nat.mul_comm (2 ^ (s + d)) 2, ← Nat.mul_assoc, Nat.mul_comm u 2]
      have ek2 : ∀ u, u * 2 ^ (s + d + 1) + 2 ^ (s + d) = (2 * u + 1) * 2 ^ (s + d) := fun u => by rw [ek]; exact (Nat.succ_mul _ _).symm
      have half : ∀ u i, i * 2 ^ s + 2 ^ s ≤ (2 * u + 1) * 2 ^ (s + d) ∨ (2 * u + 1) * 2 ^ (s + d) ≤ i * 2 ^ s := fun u i => by
        rw [es, ← Nat.mul_assoc, ← Nat.succ_mul]
        rcases Nat.lt_or_ge i ((2 * u + 1) * 2 ^ d) with z | z
        . exact .inl (Nat.mul_le_mul_right _ z)
        . exact .inr (Nat.mul_le_mul_right _ z)
      have q0 : ∀ x y, ¬ (x < i * 2 ^ s + 2 ^ s) ∨ ¬ (i * 2 ^ s < x + 2 ^ (s + d)) ∨ ¬ (y < j * 2 ^ s + 2 ^ s) ∨ ¬ (j * 2 ^ s < y + 2 ^ (s + d)) -> cnt [i * 2 ^ s, j * 2 ^ s, 2 ^ s, 2 ^ s] (s + d) x y = 0 := fun x y hn => by
        cases hsd : s + d with
        | zero => rfl
        | succ k' =>
          rw [hsd] at hn
          show (if qd1 x y (2 ^ (k' + 1)) [i * 2 ^ s, j * 2 ^ s, 2 ^ s, 2 ^ s] = true ∧ _ then _ else _) = 0
          rw [if_neg]
          rintro ⟨h1, _⟩
          have m : i * 2 ^ s < x + 2 ^ (k' + 1) ∧ x < i * 2 ^ s + 2 ^ s ∧ y < j * 2 ^ s + 2 ^ s ∧ j * 2 ^ s < y + 2 ^ (k' + 1) := of_decide_eq_true h1
          rcases hn with z | z | z | z
          . exact z m.2.1
          . exact z m.1
          . exact z m.2.2.1
          . exact z m.2.2.2
      have c1 := qj5 s i j (s + d) (2 * u) (2 * v)
      have c2 := qj5 s i j (s + d) (2 * u) (2 * v + 1)
      have c3 := qj5 s i j (s + d) (2 * u + 1) (2 * v)
      have c4 := qj5 s i j (s + d) (2 * u + 1) (2 * v + 1)
      rw [ek2, ek2, ek, ek]
      have st : ∀ u : Nat, (2 * u) * 2 ^ (s + d) + 2 ^ (s + d) = (2 * u + 1) * 2 ^ (s + d) := fun u => (Nat.succ_mul _ _).symm
      rcases half u i with hu | hu
      . have z3 := q0 ((2 * u + 1) * 2 ^ (s + d)) ((2 * v) * 2 ^ (s + d)) (.inl (by lia))
        have z4 := q0 ((2 * u + 1) * 2 ^ (s + d)) ((2 * v + 1) * 2 ^ (s + d)) (.inl (by lia))
        rcases half v j with hv | hv
        . have z2 := q0 ((2 * u) * 2 ^ (s + d)) ((2 * v + 1) * 2 ^ (s + d)) (.inr (.inr (.inl (by lia))))
          lia
        . have z1 := q0 ((2 * u) * 2 ^ (s + d)) ((2 * v) * 2 ^ (s + d)) (.inr (.inr (.inr (by rw [st]; lia))))
          lia
      . have z1 := q0 ((2 * u) * 2 ^ (s + d)) ((2 * v) * 2 ^ (s + d)) (.inr (.inl (by rw [st]; lia)))
        have z2 := q0 ((2 * u) * 2 ^ (s + d)) ((2 * v + 1) * 2 ^ (s + d)) (.inr (.inl (by rw [st]; lia)))
        rcases half v j with hv | hv
        . have z4 := q0 ((2 * u + 1) * 2 ^ (s + d)) ((2 * v + 1) * 2 ^ (s + d)) (.inr (.inr (.inl (by lia))))
          lia
        . have z3 := q0 ((2 * u + 1) * 2 ^ (s + d)) ((2 * v) * 2 ^ (s + d)) (.inr (.inr (.inr (by rw [st]; lia))))
          lia
    . exact Nat.zero_le _
theorem qG5 {n : Nat} {bs : List Row} (hn : n ≤ 12) (h : Boxes n bs) : nds (bt n bs 0 0) ≤ 485 := by
  rcases h.2 with ⟨h4, _⟩ | ⟨h5, hs⟩
  . refine Nat.le_trans (qQ8 n bs 0 0) ?_
    match n, h4 with
    | 0, _ | 1, _ | 2, _ | 3, _ => decide
  . refine Nat.le_trans (qG2 n bs 0 0) ?_
    have each : ∀ b ∈ bs, cnt b n 0 0 ≤ 97 := fun b hb => by
      obtain ⟨r, c, hh, w, rfl, h1, w1, _⟩ := h.1 b hb
      obtain ⟨r', c', hh', w', e, sm⟩ := hs _ hb
      simp only [List.cons.injEq, and_true] at e
      obtain ⟨rfl, rfl, rfl, rfl⟩ := e
      rcases sm with ⟨h9, w9⟩ | ⟨s, i, j, rfl, rfl, rfl, rfl⟩
      . refine Nat.le_trans (qw5 r c hh w n 0 0) (Nat.le_trans (qN4 h1 h9 w1 w9 n (Nat.le_refl _)) (Nat.le_trans (qG4 hn) (by decide)))
      . have := qj5 s i j n 0 0
        rw [Nat.zero_mul] at this
        lia
    unfold cnts
    have gen : ∀ l : List Row, (∀ b ∈ l, cnt b n 0 0 ≤ 97) -> (l.map fun b => cnt b n 0 0).sum ≤ l.length * 97 := fun l hl => by
      induction l with
      | nil => exact Nat.zero_le _
      | cons b l ih =>
        have h1 := hl b List.mem_cons_self
        have h2 := ih fun x hx => hl x (List.mem_cons_of_mem _ hx)
        rw [List.map_cons, List.sum_cons, List.length_cons, Nat.succ_mul]
        lia
    have := gen bs each
    lia
end Qf
set_option Elab.async false
set_option linter.all false
set_option maxRecDepth 100000
set_option maxHeartbeats 4000000
namespace Pr
open PySem L2 Qf
structure Grow (p D : Addr) (H : Hp) (ok : Row -> Prop) (i : Nat) (xs : List V) (H2 : Hp) : Prop where
  but : But p H H2
  pot : PurseAt H2 p
  at_ : H2 D = some (.lst xs)
  len : xs.length ≤ i
  its : ∃ (cs : List Addr) (bs : List Row), xs = cs.map V.ref ∧ cs.length = bs.length ∧ (∀ b ∈ bs, ok b) ∧ ∀ (j : Nat) c b, cs[j]? = some c -> bs[j]? = some b -> H2 c = some (.tup (vN b))
theorem Grow.start {p D : Addr} {H : Hp} {ok : Row -> Prop} (hp : PurseAt H p) (hD : H D = none) : Grow p D H ok 0 [] (upd H D (.lst [])) :=
  ⟨But.of (qb7 hD), hp.same (qb7 hD), qa1, Nat.le_refl _, [], [], rfl, rfl, fun b hb => (nomatch hb), fun j c b e => by simp at e⟩
theorem Grow.kept {p D : Addr} {H H2 H3 : Hp} {ok : Row -> Prop} {i : Nat} {xs : List V} (g : Grow p D H ok i xs H2) (npD : p ≠ D) (b : But p H2 H3) (hp : PurseAt H3 p) : Grow p D H ok (i + 1) xs H3 := by
  obtain ⟨b2, p2, a2, l2, cs, bs, e, hl, hok, hr⟩ := g
  refine ⟨b2.trans b, hp, b _ _ a2 (Ne.symm npD), by lia, cs, bs, e, hl, hok, fun j c r e1 e2 => ?_⟩
  have := hr j c r e1 e2
  refine b _ _ this fun z => ?_
  obtain ⟨x, y, e3, _⟩ := p2
  rw [z, e3] at this
  cases this
theorem Grow.more {p D t : Addr} {H H2 H3 : Hp} {ok : Row -> Prop} {i : Nat} {xs : List V} {r : Row} (g : Grow p D H ok i xs H2) (hDn : H D = none) (npD : p ≠ D) (b : But p H2 H3) (hp : PurseAt H3 p) (ht : H3 t = some (.tup (vN r))) (hr : ok r) :
    H3 D = some (.lst xs) ∧ Grow p D H ok (i + 1) (xs ++ [.ref t]) (upd H3 D (.lst (xs ++ [.ref t]))) := by
  have k := g.kept npD b hp
  obtain ⟨b2, p2, a2, l2, cs, bs, rfl, hl, hok, hrr⟩ := k
  have l1 := g.len
  refine ⟨a2, fun c o e n => ?_, ?_, qa1, by rw [List.length_append]; show (cs.map V.ref).length + 1 ≤ _; lia, cs ++ [t], bs ++ [r], qA7 cs t, by rw [List.length_append, List.length_append, hl]; rfl, ?_, ?_⟩
  . rw [qa6 (qa2 e hDn)]
    exact b2 c o e n
  . obtain ⟨x, y, e, rr⟩ := hp
    exact ⟨x, y, by rw [qa6 npD]; exact e, rr⟩
  . intro z hz
    rcases List.mem_append.mp hz with hz | hz
    . exact hok z hz
    . have : z = r := by simpa using hz
      rw [this]; exact hr
  . intro j c q e1 e2
    have nD : ∀ {c : Addr} {u : List V}, H3 c = some (.tup u) -> c ≠ D := fun {c u} e z => by rw [z, a2] at e; cases e
    by_cases hj : j < cs.length
    . rw [List.getElem?_append_left hj] at e1
      rw [List.getElem?_append_left (by lia)] at e2
      have := hrr j c q e1 e2
      rw [qa6 (nD this)]; exact this
    . rw [List.getElem?_append_right (by lia)] at e1
      rw [List.getElem?_append_right (by lia)] at e2
      have hj0 : j - cs.length = 0 := by
        have := (List.getElem?_eq_some_iff.mp e1).1
        simp at this
        lia
      rw [hj0] at e1
      rw [← hl, hj0] at e2
      have ec : c = t := by simpa using e1.symm
      have eq : q = r := by simpa using e2.symm
      rw [ec, eq, qa6 (nD ht)]; exact ht
theorem Grow.rows {p D : Addr} {H H2 : Hp} {ok : Row -> Prop} {i : Nat} {xs : List V} (g : Grow p D H ok i xs H2) : ∃ bs : List Row, RowsL H2 D bs ∧ (∀ b ∈ bs, ok b) ∧ bs.length ≤ i := by
  obtain ⟨_, _, a2, l2, cs, bs, rfl, hl, hok, hr⟩ := g
  exact ⟨bs, ⟨cs, a2, hl, hr⟩, hok, by rw [List.length_map] at l2; lia⟩
section
variable {P : Program} {w : World} {K : PySem.W.Frag} {mg : Str -> Option Value} {base : Heap}
abbrev nCells : List Str := ["_law_pot_here", "_law_n", "_law_side"]
theorem scCells : FnScope nCells ["_law_pot_here", "_law_n"] (qa7 qE5) := ⟨rfl, rfl, rfl, by decide +kernel, rfl, by decide +kernel, by decide +kernel⟩
def spCells : Sp := fun vs H Q _ => ∃ (p : Addr) (n : Nat), vs = [.ref p, .int (n : Nat)] ∧ PurseAt H p ∧ n < 4 ∧
  ∀ (H' : Hp) (l : Addr) (bs : List Row), But p H H' -> PurseAt H' p -> H l = none -> RowsL H' l bs -> (∀ b ∈ bs, ql3 n b) -> bs.length ≤ 64 -> Q (.ref l) H'
theorem ok_cells {f fD : Addr} {fd fdD : FuncData} (F : Fun K "_law_cells" "_law_cells" qE5 f fd) (B : Blt mg) (hD : mg "_law_digit" = some (.ref fD)) (FD : Fun K "_law_digit" "_law_digit" qv7 fD fdD) (bD : Binds K fdD ["_law_pot_here", "_law_many"] []) :
    FnOk P w K mg base CX0 2 f fd ["_law_pot_here", "_law_n"] spCells := by
  have GD : FnOk P w K mg base CX0 1 fD fdD ["_law_pot_here", "_law_many"] qr5 := qs9 FD
  refine F.ok scCells (fun vs H Q E h => ?_) (fun cdv A outer s H vs Q E hr h => ?_)
  . obtain ⟨p, n, rfl, _⟩ := h
    rfl
  . obtain ⟨p, n, rfl, hp, hn, q⟩ := h
    refine seqE ⟨_, ⟨qc4 (i := 2) scCells.nd rfl (by first | exact Or.inl rfl | exact Or.inr rfl) (qb1 qo9 qa4 (pv 1))⟩, ?_⟩
    refine qi2 ⟨_, ⟨qb3 (qp5 nCells (qa7 qE5) rfl rfl rfl scCells.nd (qo8 (by rfl) B.range (qa0 (qb1 ql7 (pv 2) (pv 2)) qa3))
      (fun cl C fp s₀ H₀ => qb5 qw8 (qa8 GD hr (by rfl) hD FD.kp bD .nil qb9 (qa0 (pv 1) (qa0 qa4 qa3))) qa4 (qb6 _))
      (fun cl C fp s₀ H₀ => PEb.go ⟨qg9 (Ars2.go (.cons ⟨qb1 qj8 (pv 0) (pv 3)⟩ (.cons ⟨qb1 qx4 (pv 0) (pv 3)⟩ (.cons ⟨qa4⟩ (.cons ⟨qa4⟩ .nil rfl) rfl) rfl) rfl))⟩))⟩, ?_⟩
    obtain ⟨p1, p2⟩ := qn1 (show n ≤ 12 by lia)
    have p8 : 2 ^ n ≤ 8 := by
      have := Nat.pow_le_pow_right (n := 2) (by decide) (show n ≤ 3 by lia)
      simpa using this
    have es := qw4 n
    refine ⟨_, rfl, _, _, rfl, rfl, ⟨by lia, by lia, by decide⟩, ?_⟩
    have hsz : (2 ^ n * 2 ^ n : Nat) ≤ 64 := by
      have := Nat.mul_le_mul p8 p8
      lia
    have esq : ((1 : Int) * 2 ^ ((n : Int)).toNat) * (1 * 2 ^ ((n : Int)).toNat) = ((2 ^ n * 2 ^ n : Nat) : Int) := by rw [es]; push_cast; rfl
    have etn : (((1 : Int) * 2 ^ ((n : Int)).toNat) * (1 * 2 ^ ((n : Int)).toNat)).toNat = 2 ^ n * 2 ^ n := by rw [esq, Int.toNat_natCast]
    refine ⟨_, rfl, _, rfl, _, _, rfl, rfl, .inl ⟨by lia, by lia⟩, _, rfl, by lia, by lia, fun D hDn => ?_⟩
    have npD : p ≠ D := by obtain ⟨a, b, e, _⟩ := hp; exact qa2 e hDn
    refine compG_rng (Grow p D H (ql3 n)) (by rw [etn]; exact qb8 (by lia)) (Grow.start hp hDn) (fun i xs H2 g => ⟨g.at_, g.len⟩) ?_ ?_
    . intro i xs H2 hi g os ho Q1 Q2 q1 q2
      rw [etn] at hi
      match os, ho with
      | [o1], _ =>
        refine ⟨_, rfl, p, 2, rfl, g.pot, by decide, by decide, fun d H3 hd b3 hp3 => ⟨rfl, _, rfl, ?_⟩⟩
        refine ite2 (fun _ => ?_) (fun _ => q1 H3 (g.kept npD b3 hp3))
        refine ⟨_, rfl, _, rfl, _, _, rfl, rfl, ⟨by lia, by lia⟩, _, rfl, _, rfl, _, _, rfl, rfl, (by show (0 : Int) < 1 * 2 ^ ((n : Int)).toNat; lia), (by show 4 ≤ sizeLine; decide), fun t ht => ?_⟩
        have hbx : ql3 n [i / 2 ^ n, i % 2 ^ n, 1, 1] := by
          refine ⟨_, _, _, _, rfl, Nat.le_refl _, Nat.le_refl _, ?_, ?_⟩
          . exact (Nat.div_lt_iff_lt_mul p2).mpr hi
          . exact Nat.mod_lt _ p2
        have e4 : HO.tup [V.int ((0 + (i : Int)) / (1 * 2 ^ ((n : Int)).toNat)), V.int ((0 + (i : Int)) % (1 * 2 ^ ((n : Int)).toNat)), V.int 1, V.int 1] = HO.tup (vN [i / 2 ^ n, i % 2 ^ n, 1, 1]) := by
          rw [es, Int.zero_add]
          show HO.tup [V.int ((i : Int) / ((2 ^ n : Nat) : Int)), V.int ((i : Int) % ((2 ^ n : Nat) : Int)), V.int 1, V.int 1] = HO.tup [V.int ((i / 2 ^ n : Nat) : Int), V.int ((i % 2 ^ n : Nat) : Int), V.int 1, V.int 1]
          rw [Int.natCast_ediv, Int.natCast_emod]
        show Q2 (.ref t) (upd H3 t (HO.tup [V.int ((0 + (i : Int)) / (1 * 2 ^ ((n : Int)).toNat)), V.int ((0 + (i : Int)) % (1 * 2 ^ ((n : Int)).toNat)), V.int 1, V.int 1]))
        rw [e4]
        have m := g.more (t := t) (r := [i / 2 ^ n, i % 2 ^ n, 1, 1]) hDn npD (b3.trans (But.of (qb7 ht))) (hp3.same (qb7 ht)) qa1 hbx
        exact q2 _ _ m.1 m.2
    . intro xs H2 g
      obtain ⟨bs, h1, h2, h3⟩ := g.rows
      exact q H2 D bs g.but g.pot hDn h1 h2 (by rw [etn] at h3; lia)
abbrev nBoxes : List Str := ["_law_pot_here", "_law_n"]
theorem scBoxes : FnScope nBoxes ["_law_pot_here", "_law_n"] (qa7 qE6) := ⟨rfl, rfl, rfl, by decide +kernel, rfl, by decide +kernel, by decide +kernel⟩
def spBoxes : Sp := fun vs H Q _ => ∃ (p : Addr) (n : Nat), vs = [.ref p, .int (n : Nat)] ∧ PurseAt H p ∧ n ≤ 12 ∧
  ∀ (H' : Hp) (l : Addr) (bs : List Row), But p H H' -> PurseAt H' p -> H l = none -> RowsL H' l bs -> Boxes n bs -> Q (.ref l) H'
theorem ok_boxes {f fD fC fB : Addr} {fd fdD fdC fdB : FuncData} (F : Fun K "_law_boxes" "_law_boxes" qE6 f fd) (B : Blt mg) (hD : mg "_law_digit" = some (.ref fD)) (FD : Fun K "_law_digit" "_law_digit" qv7 fD fdD) (bD : Binds K fdD ["_law_pot_here", "_law_many"] [])
    (hC : mg "_law_cells" = some (.ref fC)) (FC : Fun K "_law_cells" "_law_cells" qE5 fC fdC) (bC : Binds K fdC ["_law_pot_here", "_law_n"] [])
    (hB : mg "_law_box" = some (.ref fB)) (FB : Fun K "_law_box" "_law_box" lBox fB fdB) (bB : Binds K fdB ["_law_pot_here", "_law_n", "_law_most"] []) :
    FnOk P w K mg base CX0 3 f fd ["_law_pot_here", "_law_n"] spBoxes := by
  have GD : FnOk P w K mg base CX0 1 fD fdD ["_law_pot_here", "_law_many"] qr5 := qs9 FD
  have GC : FnOk P w K mg base CX0 2 fC fdC ["_law_pot_here", "_law_n"] spCells := ok_cells FC B hD FD bD
  have GB : FnOk P w K mg base CX0 2 fB fdB ["_law_pot_here", "_law_n", "_law_most"] spBox := ok_box FB B hD FD bD
  refine F.ok scBoxes (fun vs H Q E h => ?_) (fun cdv A outer s H vs Q E hr h => ?_)
  . obtain ⟨p, n, rfl, _⟩ := h
    rfl
  . obtain ⟨p, n, rfl, hp, hn, q⟩ := h
    have hr1 : Room 1 _ := hr.mono (by decide)
    refine seqE ⟨_, ⟨qe0 (PW.pt (qR9 (qb5 qn5 (pv 1) qa4 (qb6 _)) (qI1 (qb5 qw8 (qa8 GD hr1 (by rfl) hD FD.kp bD .nil qb9 (qa0 (pv 0) (qa0 qa4 qa3))) qa4 (qb6 _)))))
      (qb0 (qb3 (qa8 GC hr (by rfl) hC FC.kp bC .nil qb9 (qa0 (pv 0) (qa0 (pv 1) qa3))))) qb4⟩, ?_⟩
    refine qi2 ⟨_, ⟨qb3 (qf4 nBoxes (qa7 qE6) rfl rfl rfl scBoxes.nd (qo8 (by rfl) B.range (qa0 (qa8 GD hr1 (by rfl) hD FD.kp bD .nil qb9 (qa0 (pv 0) (qa0 qa4 qa3))) qa3))
      (fun cl C fp s₀ H₀ => qa8 GB hr (by rfl) hB FB.kp bB .nil qb9 (qa0 (pv 1) (qa0 (pv 2) (qa0 qa4 qa3)))))⟩, ?_⟩
    have rest : ∀ H1, But p H H1 -> PurseAt H1 p -> tComp (iRng1 (qj1 (tCall qr5 [] E0 (qj1 (tVar 0) (qj1 (tC (.int 6)) tNil))) tNil)) (tCall spBox [] E0 (qj1 (tVar 1) (qj1 (tVar 2) (qj1 (tC (.int 9)) tNil)))) [some (.ref p), some (.int (n : Nat))] H1 Q := fun H1 b1 hp1 => by
      refine ⟨_, rfl, p, 6, rfl, hp1, by decide, by decide, fun d H2 hd b2 hp2 => ⟨_, rfl, by lia, by lia, fun D hDn => ?_⟩⟩
      have npD : p ≠ D := by obtain ⟨a, b, e, _⟩ := hp2; exact qa2 e hDn
      have hDH : H D = none := by
        cases e : H D with
        | none => rfl
        | some o => rw [(b1.trans b2) _ _ e (Ne.symm npD)] at hDn; cases hDn
      refine qN3 (Grow p D H2 (fun b => ql3 n b ∧ Small b)) (by rw [Int.toNat_natCast]; exact qb8 (by lia)) (Grow.start hp2 hDn) (fun i xs H2 g => ⟨g.at_, g.len⟩) ?_ ?_
      . intro i xs H3 hi g Q2 q2
        refine ⟨_, rfl, _, rfl, p, n, rfl, g.pot, hn, fun H4 t b b4 hp4 ht h1 h2 => ?_⟩
        have m := g.more (t := t) (r := b) hDn npD b4 hp4 ht ⟨h1, h2⟩
        exact q2 _ _ m.1 m.2
      . intro xs H3 g
        obtain ⟨bs, h1, h2, h3⟩ := g.rows
        rw [Int.toNat_natCast] at h3
        exact q H3 D bs ((b1.trans b2).trans g.but) g.pot hDH h1 ⟨fun b hb => (h2 b hb).1, .inr ⟨by lia, fun b hb => (h2 b hb).2⟩⟩
    refine ⟨_, rfl, _, _, rfl, rfl, _, rfl, ?_⟩
    refine ite2 (fun hc => ?_) (fun hc => ?_)
    . have n4 : n < 4 := by have := of_decide_eq_true hc; lia
      refine ⟨_, rfl, p, 2, rfl, hp, by decide, by decide, fun d H1 hd b1 hp1 => ⟨rfl, _, rfl, ?_⟩⟩
      refine ite2 (fun _ => ?_) (fun _ => rest H1 b1 hp1)
      refine ⟨_, rfl, _, rfl, p, n, rfl, hp1, n4, fun H2 l bs b2 hp2 hl hR hb hlen => q H2 l bs (b1.trans b2) hp2 ?_ hR ⟨hb, .inl ⟨n4, hlen⟩⟩⟩
      cases e : H l with
      | none => rfl
      | some o =>
        have nlp : l ≠ p := by obtain ⟨a, b, e2, _⟩ := hp1; exact (qa2 e2 hl).symm
        rw [b1 _ _ e nlp] at hl; cases hl
    . exact iteF (rest H (But.refl p H) hp)
end
end Pr
set_option Elab.async false
set_option linter.all false
set_option maxRecDepth 100000
set_option maxHeartbeats 4000000
namespace Qf
open Tr
theorem qN5 {m : Row -> Bool} : ∀ (bs : List Nat) (rs : List Row), bs.length = rs.length ->
    ((List.range bs.length).filter (fun i => m (rs.getD i []))).map (fun i => bs.getD i 0) = ((bs.zip rs).filter (fun q => m q.2)).map Prod.fst
  | [], [], _ => rfl
  | b :: bs, r :: rs, h => by
    have ih := qN5 (m := m) bs rs (by simpa using h)
    rw [List.length_cons, List.range_succ_eq_map, List.filter_cons, List.zip_cons_cons, List.filter_cons, List.filter_map]
    have e1 : ((fun i => m ((r :: rs).getD i [])) ∘ Nat.succ) = fun i => m (rs.getD i []) := by funext i; rfl
    have e2 : ((fun i => (b :: bs).getD i 0) ∘ Nat.succ) = fun i => bs.getD i 0 := by funext i; rfl
    rw [e1]
    show List.map _ (if m r = true then _ else _) = List.map _ (if m r = true then _ else _)
    split
    . rw [List.map_cons, List.map_map, e2, ih, List.map_cons]; rfl
    . rw [List.map_map, e2, ih]
theorem qB0 {m : Row -> Bool} : ∀ (bs : List Nat) (rs : List Row), bs.length = rs.length -> ((bs.zip rs).filter (fun q => m q.2)).map Prod.snd = rs.filter m
  | [], [], _ => rfl
  | b :: bs, r :: rs, h => by
    have ih := qB0 (m := m) bs rs (by simpa using h)
    rw [List.zip_cons_cons, List.filter_cons, List.filter_cons]
    show List.map _ (if m r = true then _ else _) = _
    split
    . rw [List.map_cons, ih]
    . exact ih
end Qf
namespace Pr
open PySem L2 Qf
theorem RowsL.filter {H H' : Hp} {p D : Addr} {rs : List Row} {bs : List Addr} (m : Row -> Bool) (hl : bs.length = rs.length) (hr : ∀ (i : Nat) b r, bs[i]? = some b -> rs[i]? = some r -> H b = some (.tup (vN r))) (s : Same H H')
    (hD : H' D = some (.lst (((List.range bs.length).filter (fun i => m (rs.getD i []))).map (fun i => V.ref (bs.getD i 0))))) : RowsL H' D (rs.filter m) := by
  have e : ((List.range bs.length).filter (fun i => m (rs.getD i []))).map (fun i => V.ref (bs.getD i 0)) = (((bs.zip rs).filter (fun q => m q.2)).map Prod.fst).map V.ref := by
    rw [← qN5 bs rs hl, List.map_map]; rfl
  rw [e] at hD
  refine ⟨_, hD, by rw [← qB0 bs rs hl, List.length_map, List.length_map], fun i b r e1 e2 => ?_⟩
  rw [← qB0 bs rs hl] at e2
  rw [List.getElem?_map] at e1 e2
  obtain ⟨q, hq, rfl⟩ := Option.map_eq_some_iff.mp e1
  rw [hq] at e2
  have e3 : q.2 = r := by simpa using e2
  have hm := (List.mem_filter.mp (List.mem_of_getElem? hq)).1
  obtain ⟨j, hj, ej⟩ := List.mem_iff_getElem.mp hm
  rw [List.length_zip] at hj
  have ez : (bs.zip rs)[j]? = some q := by rw [List.getElem?_eq_getElem (by rw [List.length_zip]; exact hj), ej]
  rw [List.getElem?_zip_eq_some] at ez
  rw [← e3]
  exact s _ _ (hr j q.1 q.2 ez.1 ez.2)
section
variable {P : Program} {w : World} {K : PySem.W.Frag} {mg : Str -> Option Value} {base : Heap}
abbrev qs2 : List Str := ["_law_box_here", "_law_row", "_law_column", "_law_side"]
theorem scMeets : FnScope qs2 qs2 (qa7 qE7) := ⟨rfl, rfl, rfl, by decide +kernel, rfl, by decide +kernel, by decide +kernel⟩
theorem scHas : FnScope qs2 qs2 (qa7 lHas) := ⟨rfl, rfl, rfl, by decide +kernel, rfl, by decide +kernel, by decide +kernel⟩
def qB1 (m : Nat -> Nat -> Nat -> Row -> Bool) : Sp := fun vs H Q _ => ∃ (b : Addr) (bx : Row) (r c s : Nat), vs = [.ref b, .int (r : Nat), .int (c : Nat), .int (s : Nat)] ∧ H b = some (.tup (vN bx)) ∧ bx.length = 4 ∧ Q (.bl (m r c s bx)) H
theorem ok_meets {f : Addr} {fd : FuncData} (F : Fun K "_law_meets" "_law_meets" qE7 f fd) : FnOk P w K mg base CX0 1 f fd qs2 (qB1 qd1) := by
  refine F.ok scMeets (fun vs H Q E h => ?_) (fun cdv A outer s H vs Q E hr h => ?_)
  . obtain ⟨b, bx, r, c, s, rfl, _⟩ := h
    rfl
  . obtain ⟨b, bx, r, c, s, rfl, hb, h4, q⟩ := h
    obtain ⟨x, y, h', w', rfl⟩ := qw3 h4
    refine seqE ⟨_, ⟨qe0 (qq7 (qb5 qw9 (qb1 qd9 (pv 1) (pv 3)) (qf3 qf2 (pv 0) qa4 (fun _ _ => rfl)) (qb6 _))
      (qk8 (qb5 qw9 (qb1 qd9 (qf3 qf2 (pv 0) qa4 (fun _ _ => rfl)) (qf3 qf2 (pv 0) qa4 (fun _ _ => rfl))) (pv 1) (qb6 _)))).pt (qb0 (qb3 qn4)) qb4⟩, ?_⟩
    refine qi2 ⟨_, ⟨qb3 (qt6 (qg6 qn5 (pv 2) (qb1 qd9 (qf3 qf2 (pv 0) qa4 (fun _ _ => rfl)) (qf3 qf2 (pv 0) qa4 (fun _ _ => rfl))) (qb6 _)) (qt5 (qg6 qn5 (qf3 qf2 (pv 0) qa4 (fun _ _ => rfl)) (qb1 qd9 (pv 2) (pv 3)) (qb6 _))))⟩, ?_⟩
    have em : qd1 r c s [x, y, h', w'] = decide (x < r + s ∧ r < x + h' ∧ c < y + w' ∧ y < c + s) := rfl
    rw [em] at q
    refine ⟨_, rfl, _, rfl, _, _, rfl, rfl, _, rfl, b, _, 0, .int (x : Nat), rfl, rfl, SqT.of hb, rfl, _, _, rfl, rfl, _, rfl, ?_⟩
    refine ite2 (fun hc => ?_) (fun hc => ?_)
    . have := of_decide_eq_true hc
      rw [decide_eq_false (by lia)] at q
      exact iteT q
    . have h1 := of_decide_eq_false (Bool.eq_false_iff.mpr hc)
      refine ⟨_, rfl, b, _, 0, .int (x : Nat), rfl, rfl, SqT.of hb, rfl, _, rfl, b, _, 2, .int (h' : Nat), rfl, rfl, SqT.of hb, rfl, _, _, rfl, rfl, _, rfl, _, _, rfl, rfl, _, rfl, ?_⟩
      refine ite2 (fun hc => ?_) (fun hc => ?_)
      . have := of_decide_eq_true hc
        rw [decide_eq_false (by lia)] at q
        exact q
      . have h2 := of_decide_eq_false (Bool.eq_false_iff.mpr hc)
        refine ⟨_, rfl, _, rfl, b, _, 1, .int (y : Nat), rfl, rfl, SqT.of hb, rfl, _, rfl, b, _, 3, .int (w' : Nat), rfl, rfl, SqT.of hb, rfl, _, _, rfl, rfl, _, _, rfl, rfl, _, rfl, ?_⟩
        refine ite2 (fun hc => ?_) (fun hc => ?_)
        . have h3 := of_decide_eq_true hc
          refine ⟨_, rfl, b, _, 1, .int (y : Nat), rfl, rfl, SqT.of hb, rfl, _, rfl, _, rfl, _, _, rfl, rfl, _, _, rfl, rfl, ?_⟩
          have e : decide ((y : Int) < (c : Int) + (s : Int)) = decide (x < r + s ∧ r < x + h' ∧ c < y + w' ∧ y < c + s) := by
            congr 1
            exact propext ⟨fun z => ⟨by lia, by lia, by lia, by lia⟩, fun z => by lia⟩
          show Q (.bl (decide ((y : Int) < (c : Int) + (s : Int)))) H
          rw [e]
          exact q
        . have h3 := of_decide_eq_false (Bool.eq_false_iff.mpr hc)
          rw [decide_eq_false (by lia)] at q
          exact q
theorem ok_has {f : Addr} {fd : FuncData} (F : Fun K "_law_has" "_law_has" lHas f fd) : FnOk P w K mg base CX0 1 f fd qs2 (qB1 hasB) := by
  refine F.ok scHas (fun vs H Q E h => ?_) (fun cdv A outer s H vs Q E hr h => ?_)
  . obtain ⟨b, bx, r, c, s, rfl, _⟩ := h
    rfl
  . obtain ⟨b, bx, r, c, s, rfl, hb, h4, q⟩ := h
    obtain ⟨x, y, h', w', rfl⟩ := qw3 h4
    refine seqE ⟨_, ⟨qe0 (qq7 (qb5 qn5 (pv 1) (qf3 qf2 (pv 0) qa4 (fun _ _ => rfl)) (qb6 _))
      (qk8 (qb5 qn5 (qb1 qd9 (qf3 qf2 (pv 0) qa4 (fun _ _ => rfl)) (qf3 qf2 (pv 0) qa4 (fun _ _ => rfl))) (qb1 qd9 (pv 1) (pv 3)) (qb6 _)))).pt (qb0 (qb3 qn4)) qb4⟩, ?_⟩
    refine qi2 ⟨_, ⟨qb3 (qt6 (qg6 qw9 (qf3 qf2 (pv 0) qa4 (fun _ _ => rfl)) (pv 2) (qb6 _)) (qt5 (qg6 qw9 (qb1 qd9 (pv 2) (pv 3)) (qb1 qd9 (qf3 qf2 (pv 0) qa4 (fun _ _ => rfl)) (qf3 qf2 (pv 0) qa4 (fun _ _ => rfl))) (qb6 _))))⟩, ?_⟩
    have em : hasB r c s [x, y, h', w'] = decide (x ≤ r ∧ r + s ≤ x + h' ∧ y ≤ c ∧ c + s ≤ y + w') := rfl
    rw [em] at q
    refine ⟨_, rfl, _, rfl, b, _, 0, .int (x : Nat), rfl, rfl, SqT.of hb, rfl, _, _, rfl, rfl, _, rfl, ?_⟩
    refine ite2 (fun hc => ?_) (fun hc => ?_)
    . have := of_decide_eq_true hc
      rw [decide_eq_false (by lia)] at q
      exact iteT q
    . have h1 := of_decide_eq_false (Bool.eq_false_iff.mpr hc)
      refine ⟨_, rfl, b, _, 0, .int (x : Nat), rfl, rfl, SqT.of hb, rfl, _, rfl, b, _, 2, .int (h' : Nat), rfl, rfl, SqT.of hb, rfl, _, _, rfl, rfl, _, rfl, _, rfl, _, _, rfl, rfl, _, _, rfl, rfl, _, rfl, ?_⟩
      refine ite2 (fun hc => ?_) (fun hc => ?_)
      . have := of_decide_eq_true hc
        rw [decide_eq_false (by lia)] at q
        exact q
      . have h2 := of_decide_eq_false (Bool.eq_false_iff.mpr hc)
        refine ⟨_, rfl, b, _, 1, .int (y : Nat), rfl, rfl, SqT.of hb, rfl, _, rfl, _, _, rfl, rfl, _, rfl, ?_⟩
        refine ite2 (fun hc => ?_) (fun hc => ?_)
        . have h3 := of_decide_eq_true hc
          refine ⟨_, rfl, _, rfl, _, _, rfl, rfl, _, rfl, b, _, 1, .int (y : Nat), rfl, rfl, SqT.of hb, rfl, _, rfl, b, _, 3, .int (w' : Nat), rfl, rfl, SqT.of hb, rfl, _, _, rfl, rfl, _, _, rfl, rfl, ?_⟩
          have e : decide ((c : Int) + (s : Int) ≤ (y : Int) + (w' : Int)) = decide (x ≤ r ∧ r + s ≤ x + h' ∧ y ≤ c ∧ c + s ≤ y + w') := by
            congr 1
            exact propext ⟨fun z => ⟨by lia, by lia, by lia, by lia⟩, fun z => by lia⟩
          show Q (.bl (decide ((c : Int) + (s : Int) ≤ (y : Int) + (w' : Int)))) H
          rw [e]
          exact q
        . have h3 := of_decide_eq_false (Bool.eq_false_iff.mpr hc)
          rw [decide_eq_false (by lia)] at q
          exact q
end
end Pr
set_option Elab.async false
set_option linter.all false
set_option maxRecDepth 100000
set_option maxHeartbeats 4000000
namespace Qf
open Tr
def qt (k : Nat) (m : List Row) (r c i : Nat) : Tr := bt k m (r + 2 ^ k * (i / 2)) (c + 2 ^ k * (i % 2))
def qL (k : Nat) (m : List Row) (r c : Nat) (L : List Tr) : Nat -> List Tr
  | 0 => L
  | i + 1 => post (qt k m r c i) (qL k m r c L i)
theorem qG6 {k : Nat} {m : List Row} {r c : Nat} {L : List Tr} (h : Ord L) : ∀ i, Ord (qL k m r c L i)
  | 0 => h
  | i + 1 => (post_ord _ _ (qG6 h i)).1
theorem qQ9 {k : Nat} {m : List Row} {r c : Nat} {L : List Tr} (h : Ord L) {j : Nat} : ∀ i, j < i -> In (qL k m r c L i) (qt k m r c j)
  | i + 1, hj => by
    by_cases e : j = i
    . rw [e]; exact (post_ord _ _ (qG6 h i)).2
    . exact (qQ9 h i (by lia)).post _
theorem qL_name {k : Nat} {m : List Row} {r c : Nat} {L : List Tr} (h : Ord L) {i : Nat} {t : Tr} (ht : In (qL k m r c L i) t) : name (qL k m r c L (i + 1)) t = name (qL k m r c L i) t := by
  obtain ⟨s, e⟩ := post_ext (qt k m r c i) (qL k m r c L i)
  show name (post _ _) t = _
  rw [e]
  exact name_app ht (qG6 h i)
theorem qL_len {k : Nat} {m : List Row} {r c : Nat} {L : List Tr} : ∀ i, (qL k m r c L i).length ≤ L.length + i * sz k
  | 0 => by show L.length ≤ _; lia
  | i + 1 => by
    have h1 := qL_len (k := k) (m := m) (r := r) (c := c) (L := L) i
    have h2 := qm5 (qt k m r c i) (qL k m r c L i)
    have h3 := qQ8 k m (r + 2 ^ k * (i / 2)) (c + 2 ^ k * (i % 2))
    show (post _ _).length ≤ _
    rw [Nat.succ_mul]
    unfold qt at h2
    unfold qt
    lia
def names (k : Nat) (m : List Row) (r c : Nat) (L : List Tr) (i : Nat) : List Nat := (List.range i).map fun j => name (qL k m r c L i) (qt k m r c j)
theorem qR0 {k : Nat} {m : List Row} {r c : Nat} {L : List Tr} (h : Ord L) (i : Nat) : names k m r c L (i + 1) = names k m r c L i ++ [name (post (qt k m r c i) (qL k m r c L i)) (qt k m r c i)] := by
  unfold names
  rw [List.range_succ, List.map_append]
  congr 1
  exact List.map_congr_left fun j hj => qL_name h (qQ9 h i (List.mem_range.mp hj))
theorem bt_qt (k : Nat) (boxes : List Row) (r c : Nat) (h1 : met boxes r c (2 ^ (k + 1)) ≠ []) (h2 : (met boxes r c (2 ^ (k + 1))).any (hasB r c (2 ^ (k + 1))) = false) :
    bt (k + 1) boxes r c = mk (qt k (met boxes r c (2 ^ (k + 1))) r c 0) (qt k (met boxes r c (2 ^ (k + 1))) r c 1) (qt k (met boxes r c (2 ^ (k + 1))) r c 2) (qt k (met boxes r c (2 ^ (k + 1))) r c 3) := by
  unfold bt
  rw [if_neg h1, if_neg (by rw [h2]; decide)]
  unfold qt
  simp
theorem met_len {boxes : List Row} {r c s : Nat} : (met boxes r c s).length ≤ boxes.length := List.length_filter_le _ _
theorem met_has {boxes : List Row} {r c : Nat} (h : met boxes r c 1 ≠ []) : (met boxes r c 1).any (hasB r c 1) = true := by
  obtain ⟨b, hb⟩ := List.exists_mem_of_ne_nil _ h
  refine List.any_eq_true.mpr ⟨b, hb, ?_⟩
  have m : b.getD 0 0 < r + 1 ∧ r < b.getD 0 0 + b.getD 2 0 ∧ c < b.getD 1 0 + b.getD 3 0 ∧ b.getD 1 0 < c + 1 := of_decide_eq_true (List.mem_filter.mp hb).2
  exact decide_eq_true ⟨by lia, by lia, by lia, by lia⟩
theorem sz_le : ∀ {k n : Nat}, k ≤ n -> sz k ≤ sz n
  | k, 0, h => by rw [show k = 0 by lia]; exact Nat.le_refl _
  | k, n + 1, h => by
    by_cases e : k = n + 1
    . rw [e]; exact Nat.le_refl _
    . have := sz_le (show k ≤ n by lia)
      show _ ≤ 4 * sz n + 1
      lia
end Qf
set_option Elab.async false
set_option linter.all false
set_option maxRecDepth 100000
set_option maxHeartbeats 4000000
namespace L2
open PySem
theorem compC_rng {H : Hp} {n : Nat} {te : TE} {σ : St} {Fin : Hp -> Prop} {D : Addr} (Iv : Nat -> List V -> Hp -> Prop) (hsz : n < sizeLine) (i0 : Iv 0 [] (upd H D (.lst []))) (hD : ∀ i xs H2, Iv i xs H2 -> H2 D = some (.lst xs) ∧ xs.length ≤ i)
    (step : ∀ i xs H2, i < n -> Iv i xs H2 -> ∀ Q2 : VK, (∀ v H3, H3 D = some (.lst xs) -> Iv (i + 1) (xs ++ [v]) (upd H3 D (.lst (xs ++ [v]))) -> Q2 v H3) -> te (some (.int (0 + (i : Int))) :: σ) H2 Q2)
    (fin : ∀ xs H2, Iv n xs H2 -> Fin H2) :
    ∃ W : Nat -> Nat -> List V -> Hp -> Prop, (∃ m, W 0 m [] (upd H D (.lst []))) ∧
      ∀ i m xs H2, W i m xs H2 -> H2 D = some (.lst xs) ∧ xs.length < sizeLine ∧ (((Itr 0 n).stop i H2 ∧ Fin H2) ∨ ((Itr 0 n).go i H2 ∧ ∀ y H3, (Itr 0 n).yld i H2 y H3 -> ∀ os : St, os.length = 1 ->
        qe7 0 y (os ++ σ) H3 fun σ4 H4 => ttYes σ4 H4 fun b H5 => if b = true then te σ4 H5 fun v H6 => H6 D = some (.lst xs) ∧ ∃ m', m' < m ∧ W (i + 1) m' (xs ++ [v]) (upd H6 D (.lst (xs ++ [v]))) else ∃ m', m' < m ∧ W (i + 1) m' xs H5)) := by
  obtain ⟨W, w0, w⟩ := qN3 (te := te) (σ := σ) Iv hsz i0 hD step fin
  refine ⟨W, w0, fun i m xs H2 h => ?_⟩
  obtain ⟨h1, h2, h3⟩ := w i m xs H2 h
  refine ⟨h1, h2, h3.imp id fun ⟨g, y⟩ => ⟨g, fun x H3 hx os ho => ?_⟩⟩
  match os, ho with
  | [o], _ =>
    show (if (true : Bool) = true then te (some x :: σ) H3 (fun v H6 => H6 D = some (.lst xs) ∧ ∃ m', m' < m ∧ W (i + 1) m' (xs ++ [v]) (upd H6 D (.lst (xs ++ [v])))) else ∃ m', m' < m ∧ W (i + 1) m' xs H3)
    rw [if_pos rfl]
    exact y x H3 hx
end L2
namespace Pr
open PySem L2 Qf
section
variable {P : Program} {w : World} {K : PySem.W.Frag} {mg : Str -> Option Value} {base : Heap}
abbrev nNum5 : List Str := ["_law_rows", "_law_boxes_here", "_law_row", "_law_column", "_law_side"]
abbrev nNum : List Str := ["_law_rows", "_law_boxes_here", "_law_row", "_law_column", "_law_side", "_law_met", "_law_half", "_law_quarters"]
theorem scNum : FnScope nNum nNum5 (qa7 qk1) := ⟨rfl, rfl, rfl, by decide +kernel, rfl, by decide +kernel, by decide +kernel⟩
def spNum (k : Nat) : Sp := fun vs H Q _ => ∃ (e bp : Addr) (boxes : List Row) (r c : Nat) (L : List Tr), vs = [.ref e, .ref bp, .int (r : Nat), .int (c : Nat), .int ((2 ^ k : Nat) : Int)] ∧ RowsL H bp boxes ∧ (∀ b ∈ boxes, b.length = 4) ∧ boxes.length ≤ 900 ∧ bp ≠ e ∧ Tr.Ord L ∧
  H e = some (.dT (tK (Tr.rowsOf L))) ∧ L.length + sz k ≤ 6000000 ∧ ∀ H', But e H H' -> H' e = some (.dT (tK (Tr.rowsOf (Tr.post (bt k boxes r c) L)))) -> Q (.int (Tr.name (Tr.post (bt k boxes r c) L) (bt k boxes r c) : Nat)) H'
theorem ok_num {f fM fH : Addr} {fd fdM fdH : FuncData} (F : Fun K "_law_number" "_law_number" qk1 f fd) (B : Blt mg) (hN : mg "_law_number" = some (.ref f)) (bN : Binds K fd nNum5 [])
    (hM : mg "_law_meets" = some (.ref fM)) (FM : Fun K "_law_meets" "_law_meets" qE7 fM fdM) (bM : Binds K fdM qs2 [])
    (hH : mg "_law_has" = some (.ref fH)) (FH : Fun K "_law_has" "_law_has" lHas fH fdH) (bH : Binds K fdH qs2 []) : ∀ k, k ≤ 12 -> FnOk P w K mg base CX0 (k + 2) f fd nNum5 (spNum k) := by
  have GM : FnOk P w K mg base CX0 1 fM fdM qs2 (qB1 qd1) := ok_meets FM
  have GH : FnOk P w K mg base CX0 1 fH fdH qs2 (qB1 hasB) := ok_has FH
  intro k
  induction k with
  | zero =>
    intro _
    refine F.ok scNum (fun vs H Q E h => ?_) (fun cdv A outer s H vs Q E hr h => ?_)
    . obtain ⟨e, bp, boxes, r, c, L, rfl, _⟩ := h
      rfl
    . obtain ⟨e, bp, boxes, r, c, L, rfl, hB, h4, hbl, hbe, hO, he, hLs, q⟩ := h
      have hr1 : Room 1 _ := hr.mono (by decide)
      refine seqE ⟨_, ⟨qc4 (i := 5) scNum.nd rfl (by first | exact Or.inl rfl | exact Or.inr rfl) (qp5 nNum (qa7 qk1) rfl rfl rfl scNum.nd (qn8 (pv 1))
        (fun cl C fp s₀ H₀ => qg8 (qa8 GM hr1 (by rfl) hM FM.kp bM .nil qb9 (qa0 (pv 0) (qa0 (pv 3) (qa0 (pv 4) (qa0 (pv 5) qa3)))))) (fun cl C fp s₀ H₀ => pv 0))⟩, ?_⟩
      refine seqE ⟨_, ⟨qe0 (PW.pt (qq7 (qb5 (qL3 hr) (pv 5) (qn6 qa3) (qb6 _)) (qk8 (qg8 (qa9 (qv3 rfl) (by rfl) B.any PyProof.Rows.boot_any (qa0 (qf4 nNum (qa7 qk1) rfl rfl rfl scNum.nd (qn8 (pv 5))
        (fun cl C fp s₀ H₀ => qa8 GH hr1 (by rfl) hH FH.kp bH .nil qb9 (qa0 (pv 0) (qa0 (pv 3) (qa0 (pv 4) (qa0 (pv 5) qa3)))))) qa3))))))
        (qb0 (qb3 (qc9 qt9 (by rfl) B.int PyProof.Rows.boot_int (qa0 (qg6 (op_neD hr) (pv 5) (qn6 qa3) (qb6 _)) qa3)))) qb4⟩, ?_⟩
      refine ⟨_, qe8, ?_⟩
      obtain ⟨bs, hb, hlen, hrow⟩ := id hB
      have hlb : (bs.map V.ref).length = bs.length := List.length_map ..
      refine ⟨_, rfl, bp, rfl, ⟨_, SqL.of hb⟩, fun D hD => qq9 hD (fun i => qd1 r c (2 ^ 0) (boxes.getD i [])) (fun i => .ref (bs.getD i 0)) (qm8 (K := K) hb) (by rw [hlb]; exact qb8 (by lia)) ?_ ?_⟩
      . intro j x H2 hj hx s2 os ho Q1 Q2 q1 q2
        rw [List.getElem?_map] at hx
        obtain ⟨b, hbj, rfl⟩ := Option.map_eq_some_iff.mp hx
        have hj2 : j < boxes.length := by rw [hlb] at hj; lia
        have hg : boxes[j]? = some (boxes.getD j []) := by rw [List.getD_eq_getElem?_getD, List.getElem?_eq_getElem hj2]; rfl
        have eb : bs.getD j 0 = b := by rw [List.getD_eq_getElem?_getD, hbj]; rfl
        rw [eb] at q2
        match os, ho with
        | [o1], _ =>
          refine ⟨_, rfl, _, rfl, _, rfl, _, rfl, b, boxes.getD j [], r, c, 2 ^ 0, rfl, s2 _ _ (hrow j b _ hbj hg), h4 _ (List.mem_of_getElem? hg), _, rfl, ?_⟩
          refine ite2 (fun hc => ⟨_, rfl, q2 hc H2 (Same.refl _)⟩) (fun hc => q1 (Bool.eq_false_iff.mpr hc) H2 (Same.refl _))
      . intro H2 s2 hD2
        rw [hlb] at hD2
        have hRm : RowsL H2 D (met boxes r c (2 ^ 0)) := RowsL.filter (p := bp) (qd1 r c (2 ^ 0)) hlen hrow s2 hD2
        have hml : (met boxes r c (2 ^ 0)).length ≤ 900 := Nat.le_trans met_len hbl
        have hm4 : ∀ b ∈ met boxes r c (2 ^ 0), b.length = 4 := fun b hb => h4 b (List.mem_filter.mp hb).1
        have he2 := s2 _ _ he
        have nDe : D ≠ e := (qa2 he hD).symm
        have etree : bt 0 boxes r c = bt 0 boxes r c := rfl
        refine ⟨_, rfl, (by show 0 ≤ sizeLine; decide), fun l hl => ?_⟩
        refine ⟨_, _, qh3 (hRm.same (qb7 hl)), .lst qa1 .nil, qk5 _, rfl, qg1 _, _, rfl, ?_⟩
        rw [qA8]
        have S3 : Same H (upd H2 l (.lst [])) := s2.trans (qb7 hl)
        have hR3 := hRm.same (qb7 (o := .lst []) hl)
        have he3 := qc3 (u := .lst []) he2 hl
        generalize upd H2 l (.lst []) = H3 at S3 hR3 he3
        cases hmt : met boxes r c (2 ^ 0) with
        | nil =>
          have hT : bt 0 boxes r c = .z := by
            unfold bt
            simp only [Nat.pow_zero] at hmt
            rw [if_pos hmt]
          rw [hT] at q
          rw [hmt] at hR3
          refine iteT (iteT ?_)
          refine ⟨_, rfl, (by show 0 ≤ sizeLine; decide), fun l2 hl2 => ?_⟩
          refine ⟨_, _, qh3 (hR3.same (qb7 hl2)), .lst qa1 .nil, qk5 _, rfl, qg1 _, .inr ⟨_, rfl, ?_⟩⟩
          exact q _ (But.of (S3.trans (qb7 hl2))) (qc3 he3 hl2)
        | cons b0 ml =>
          have hne : met boxes r c (2 ^ 0) ≠ [] := by rw [hmt]; exact fun z => nomatch z
          rw [← hmt]
          clear hmt
          have hie : (met boxes r c (2 ^ 0)).isEmpty = false := by
            cases hq : met boxes r c (2 ^ 0) with
            | nil => exact absurd hq hne
            | cons _ _ => rfl
          rw [hie]
          refine iteF ?_
          obtain ⟨ms, hms, hmsl, hmrow⟩ := id hR3
          have hml2 : (ms.map V.ref).length = (met boxes r c (2 ^ 0)).length := by rw [List.length_map, hmsl]
          refine ⟨_, rfl, D, rfl, ⟨_, SqL.of hms⟩, fun D2 hDD => qg4 hDD (fun i y _ => y = .bl (hasB r c (2 ^ 0) ((met boxes r c (2 ^ 0)).getD i []))) (qm8 (K := K) hms) (by rw [hml2]; exact qb8 (by lia)) (fun _ _ _ _ _ _ h => h) ?_ ?_⟩
          . intro j x H4 hj hx s4 Q' hq
            rw [List.getElem?_map] at hx
            obtain ⟨b, hbj, rfl⟩ := Option.map_eq_some_iff.mp hx
            have hj2 : j < (met boxes r c (2 ^ 0)).length := by rw [hml2] at hj; exact hj
            have hg : (met boxes r c (2 ^ 0))[j]? = some ((met boxes r c (2 ^ 0)).getD j []) := by rw [List.getD_eq_getElem?_getD, List.getElem?_eq_getElem hj2]; rfl
            exact ⟨_, rfl, _, rfl, _, rfl, _, rfl, b, _, r, c, 2 ^ 0, rfl, s4 _ _ (hmrow j b _ hbj hg), hm4 _ (List.mem_of_getElem? hg), hq _ _ (Same.refl _) rfl⟩
          . intro ys H4 s4 hd4 hly hys
            have ey : ys = ((met boxes r c (2 ^ 0)).map (hasB r c (2 ^ 0))).map V.bl := by
              refine qi7 (by rw [hly, hml2, List.length_map, List.length_map]) fun j x hx => ?_
              have hj2 : j < (met boxes r c (2 ^ 0)).length := by
                have := (List.getElem?_eq_some_iff.mp hx).1
                rw [hly, hml2] at this
                exact this
              rw [hys j x hx, List.getElem?_map, List.getElem?_map, List.getElem?_eq_getElem hj2, List.getD_eq_getElem?_getD, List.getElem?_eq_getElem hj2]
              rfl
            subst ey
            refine ⟨D2, _, rfl, hd4, _, rfl, ?_⟩
            have eany : ((met boxes r c (2 ^ 0)).map (hasB r c (2 ^ 0))).any id = (met boxes r c (2 ^ 0)).any (hasB r c (2 ^ 0)) := by rw [List.any_map]; rfl
            rw [eany]
            have S4 := S3.trans s4
            have hR4 := hR3.same s4
            have he4 := s4 _ _ he3
            cases hh : (met boxes r c (2 ^ 0)).any (hasB r c (2 ^ 0)) with
            | true =>
              have hT : bt 0 boxes r c = .o := by
                unfold bt
                simp only [Nat.pow_zero] at hne hh
                rw [if_neg hne, if_pos hh]
              rw [hT] at q
              refine iteT ?_
              refine ⟨_, rfl, (by show 0 ≤ sizeLine; decide), fun l2 hl2 => ?_⟩
              refine ⟨_, _, qh3 (hR4.same (qb7 hl2)), .lst qa1 .nil, qk5 _, rfl, qg1 _, .inr ⟨_, rfl, ?_⟩⟩
              rw [qA8, hie]
              exact q _ (But.of (S4.trans (qb7 hl2))) (qc3 he4 hl2)
            | false =>
              exfalso
              simp only [Nat.pow_zero] at hne hh
              rw [met_has hne] at hh
              cases hh
  | succ k ih =>
    intro hk
    refine F.ok scNum (fun vs H Q E h => ?_) (fun cdv A outer s H vs Q E hr h => ?_)
    . obtain ⟨e, bp, boxes, r, c, L, rfl, _⟩ := h
      rfl
    . obtain ⟨e, bp, boxes, r, c, L, rfl, hB, h4, hbl, hbe, hO, he, hLs, q⟩ := h
      have hr1 : Room 1 _ := hr.mono (by lia)
      have hu : A.units + 3 + 1 < cLine := by
        have h2 : A.units + 3 + 16 * (k + 2) + 200 < cLine := hr.un
        lia
      refine seqE ⟨_, ⟨qc4 (i := 5) scNum.nd rfl (by first | exact Or.inl rfl | exact Or.inr rfl) (qp5 nNum (qa7 qk1) rfl rfl rfl scNum.nd (qn8 (pv 1))
        (fun cl C fp s₀ H₀ => qg8 (qa8 GM hr1 (by rfl) hM FM.kp bM .nil qb9 (qa0 (pv 0) (qa0 (pv 3) (qa0 (pv 4) (qa0 (pv 5) qa3)))))) (fun cl C fp s₀ H₀ => pv 0))⟩, ?_⟩
      refine seqE ⟨_, ⟨qe0 (PW.pt (qq7 (qb5 (qL3 hr) (pv 5) (qn6 qa3) (qb6 _)) (qk8 (qg8 (qa9 (qv3 rfl) (by rfl) B.any PyProof.Rows.boot_any (qa0 (qf4 nNum (qa7 qk1) rfl rfl rfl scNum.nd (qn8 (pv 5))
        (fun cl C fp s₀ H₀ => qa8 GH hr1 (by rfl) hH FH.kp bH .nil qb9 (qa0 (pv 0) (qa0 (pv 3) (qa0 (pv 4) (qa0 (pv 5) qa3)))))) qa3))))))
        (qb0 (qb3 (qc9 qt9 (by rfl) B.int PyProof.Rows.boot_int (qa0 (qg6 (op_neD hr) (pv 5) (qn6 qa3) (qb6 _)) qa3)))) qb4⟩, ?_⟩
      refine seqE ⟨_, ⟨qc4 (i := 6) scNum.nd rfl (by first | exact Or.inl rfl | exact Or.inr rfl) (qb1 qj8 (pv 4) qa4)⟩, ?_⟩
      refine seqE ⟨_, ⟨ps_setC (i0 := 7) nNum (qa7 qk1) rfl rfl rfl scNum.nd rfl rfl (qo8 (by rfl) B.range (qa0 qa4 qa3)) (fun cl C fp s₀ H₀ => PEb.go ⟨qa8 (ih (by lia)) hr (by rfl) hN F.kp bN .nil qb9 (Ars2.go (.cons ⟨pv 1⟩ (.cons ⟨pv 6⟩
        (.cons ⟨qb1 qd9 (pv 3) (qb1 ql7 (pv 7) (qb1 qj8 (pv 0) qa4))⟩ (.cons ⟨qb1 qd9 (pv 4) (qb1 ql7 (pv 7) (qb1 qx4 (pv 0) qa4))⟩ (.cons ⟨pv 7⟩ .nil rfl) rfl) rfl) rfl) rfl))⟩)⟩, ?_⟩
      refine seqE ⟨_, ⟨qe0 (qb5 (op_inD hr) (pv 7) (PEb.go ⟨qg9 (Ars2.go (.cons ⟨qn6 (Ars2.go (.cons qg7 (.cons qg7 (.cons qg7 (.cons qg7 .nil rfl) rfl) rfl) rfl))⟩ (.cons ⟨qn6 (Ars2.go (.cons qg7 (.cons qg7 (.cons qg7 (.cons qg7 .nil rfl) rfl) rfl) rfl))⟩ .nil rfl) rfl))⟩) (by first | rfl | decide | with_unfolding_all rfl))
        (qb0 (qb3 (qf3 qj9 (pv 7) qa4 (fun _ _ => rfl)))) qb4⟩, ?_⟩
      refine seqE ⟨_, ⟨qe0 (qt4 (ql9 hu (qc9 (tupO K rfl) (by rfl) B.tuple PyProof.Rows.boot_tuple (qa0 (pv 7) qa3)) (pv 0)))
        (qb0 (qn9 hu (pv 0) (qc9 (tupO K rfl) (by rfl) B.tuple PyProof.Rows.boot_tuple (qa0 (pv 7) qa3)) (qb1 qd9 (qa9 qF2 (by rfl) B.len PySem.boot_len (qa0 (pv 0) qa3)) qa4) (by rfl))) qb4⟩, ?_⟩
      refine qi2 ⟨_, ⟨qb3 (ql8 hu (pv 0) (qc9 (tupO K rfl) (by rfl) B.tuple PyProof.Rows.boot_tuple (qa0 (pv 7) qa3)) (fun _ _ => rfl))⟩, ?_⟩
      obtain ⟨bs, hb, hlen, hrow⟩ := id hB
      have hlb : (bs.map V.ref).length = bs.length := List.length_map ..
      refine ⟨_, rfl, bp, rfl, ⟨_, SqL.of hb⟩, fun D hD => qq9 hD (fun i => qd1 r c (2 ^ (k + 1)) (boxes.getD i [])) (fun i => .ref (bs.getD i 0)) (qm8 (K := K) hb) (by rw [hlb]; exact qb8 (by lia)) ?_ ?_⟩
      . intro j x H2 hj hx s2 os ho Q1 Q2 q1 q2
        rw [List.getElem?_map] at hx
        obtain ⟨b, hbj, rfl⟩ := Option.map_eq_some_iff.mp hx
        have hj2 : j < boxes.length := by rw [hlb] at hj; lia
        have hg : boxes[j]? = some (boxes.getD j []) := by rw [List.getD_eq_getElem?_getD, List.getElem?_eq_getElem hj2]; rfl
        have eb : bs.getD j 0 = b := by rw [List.getD_eq_getElem?_getD, hbj]; rfl
        rw [eb] at q2
        match os, ho with
        | [o1], _ =>
          refine ⟨_, rfl, _, rfl, _, rfl, _, rfl, b, boxes.getD j [], r, c, 2 ^ (k + 1), rfl, s2 _ _ (hrow j b _ hbj hg), h4 _ (List.mem_of_getElem? hg), _, rfl, ?_⟩
          refine ite2 (fun hc => ⟨_, rfl, q2 hc H2 (Same.refl _)⟩) (fun hc => q1 (Bool.eq_false_iff.mpr hc) H2 (Same.refl _))
      . intro H2 s2 hD2
        rw [hlb] at hD2
        have hRm : RowsL H2 D (met boxes r c (2 ^ (k + 1))) := RowsL.filter (p := bp) (qd1 r c (2 ^ (k + 1))) hlen hrow s2 hD2
        have hml : (met boxes r c (2 ^ (k + 1))).length ≤ 900 := Nat.le_trans met_len hbl
        have hm4 : ∀ b ∈ met boxes r c (2 ^ (k + 1)), b.length = 4 := fun b hb => h4 b (List.mem_filter.mp hb).1
        have he2 := s2 _ _ he
        have nDe : D ≠ e := (qa2 he hD).symm
        have etree : bt (k + 1) boxes r c = bt (k + 1) boxes r c := rfl
        refine ⟨_, rfl, (by show 0 ≤ sizeLine; decide), fun l hl => ?_⟩
        refine ⟨_, _, qh3 (hRm.same (qb7 hl)), .lst qa1 .nil, qk5 _, rfl, qg1 _, _, rfl, ?_⟩
        rw [qA8]
        have S3 : Same H (upd H2 l (.lst [])) := s2.trans (qb7 hl)
        have hR3 := hRm.same (qb7 (o := .lst []) hl)
        have he3 := qc3 (u := .lst []) he2 hl
        generalize upd H2 l (.lst []) = H3 at S3 hR3 he3
        cases hmt : met boxes r c (2 ^ (k + 1)) with
        | nil =>
          have hT : bt (k + 1) boxes r c = .z := by
            unfold bt
            skip
            rw [if_pos hmt]
          rw [hT] at q
          rw [hmt] at hR3
          refine iteT (iteT ?_)
          refine ⟨_, rfl, (by show 0 ≤ sizeLine; decide), fun l2 hl2 => ?_⟩
          refine ⟨_, _, qh3 (hR3.same (qb7 hl2)), .lst qa1 .nil, qk5 _, rfl, qg1 _, .inr ⟨_, rfl, ?_⟩⟩
          exact q _ (But.of (S3.trans (qb7 hl2))) (qc3 he3 hl2)
        | cons b0 ml =>
          have hne : met boxes r c (2 ^ (k + 1)) ≠ [] := by rw [hmt]; exact fun z => nomatch z
          rw [← hmt]
          clear hmt
          have hie : (met boxes r c (2 ^ (k + 1))).isEmpty = false := by
            cases hq : met boxes r c (2 ^ (k + 1)) with
            | nil => exact absurd hq hne
            | cons _ _ => rfl
          rw [hie]
          refine iteF ?_
          obtain ⟨ms, hms, hmsl, hmrow⟩ := id hR3
          have hml2 : (ms.map V.ref).length = (met boxes r c (2 ^ (k + 1))).length := by rw [List.length_map, hmsl]
          refine ⟨_, rfl, D, rfl, ⟨_, SqL.of hms⟩, fun D2 hDD => qg4 hDD (fun i y _ => y = .bl (hasB r c (2 ^ (k + 1)) ((met boxes r c (2 ^ (k + 1))).getD i []))) (qm8 (K := K) hms) (by rw [hml2]; exact qb8 (by lia)) (fun _ _ _ _ _ _ h => h) ?_ ?_⟩
          . intro j x H4 hj hx s4 Q' hq
            rw [List.getElem?_map] at hx
            obtain ⟨b, hbj, rfl⟩ := Option.map_eq_some_iff.mp hx
            have hj2 : j < (met boxes r c (2 ^ (k + 1))).length := by rw [hml2] at hj; exact hj
            have hg : (met boxes r c (2 ^ (k + 1)))[j]? = some ((met boxes r c (2 ^ (k + 1))).getD j []) := by rw [List.getD_eq_getElem?_getD, List.getElem?_eq_getElem hj2]; rfl
            exact ⟨_, rfl, _, rfl, _, rfl, _, rfl, b, _, r, c, 2 ^ (k + 1), rfl, s4 _ _ (hmrow j b _ hbj hg), hm4 _ (List.mem_of_getElem? hg), hq _ _ (Same.refl _) rfl⟩
          . intro ys H4 s4 hd4 hly hys
            have ey : ys = ((met boxes r c (2 ^ (k + 1))).map (hasB r c (2 ^ (k + 1)))).map V.bl := by
              refine qi7 (by rw [hly, hml2, List.length_map, List.length_map]) fun j x hx => ?_
              have hj2 : j < (met boxes r c (2 ^ (k + 1))).length := by
                have := (List.getElem?_eq_some_iff.mp hx).1
                rw [hly, hml2] at this
                exact this
              rw [hys j x hx, List.getElem?_map, List.getElem?_map, List.getElem?_eq_getElem hj2, List.getD_eq_getElem?_getD, List.getElem?_eq_getElem hj2]
              rfl
            subst ey
            refine ⟨D2, _, rfl, hd4, _, rfl, ?_⟩
            have eany : ((met boxes r c (2 ^ (k + 1))).map (hasB r c (2 ^ (k + 1)))).any id = (met boxes r c (2 ^ (k + 1))).any (hasB r c (2 ^ (k + 1))) := by rw [List.any_map]; rfl
            rw [eany]
            have S4 := S3.trans s4
            have hR4 := hR3.same s4
            have he4 := s4 _ _ he3
            cases hh : (met boxes r c (2 ^ (k + 1))).any (hasB r c (2 ^ (k + 1))) with
            | true =>
              have hT : bt (k + 1) boxes r c = .o := by
                unfold bt
                skip
                rw [if_neg hne, if_pos hh]
              rw [hT] at q
              refine iteT ?_
              refine ⟨_, rfl, (by show 0 ≤ sizeLine; decide), fun l2 hl2 => ?_⟩
              refine ⟨_, _, qh3 (hR4.same (qb7 hl2)), .lst qa1 .nil, qk5 _, rfl, qg1 _, .inr ⟨_, rfl, ?_⟩⟩
              rw [qA8, hie]
              exact q _ (But.of (S4.trans (qb7 hl2))) (qc3 he4 hl2)
            | false =>
              refine iteF ?_
              have hT := bt_qt k boxes r c hne hh
              obtain ⟨p1, p2⟩ := qn1 (show k ≤ 12 by lia)
              obtain ⟨p3, p4⟩ := qn1 hk
              have ehalf : (((2 ^ (k + 1) : Nat) : Int)) / 2 = ((2 ^ k : Nat) : Int) := by
                rw [Nat.pow_succ]
                lia
              clear hie hms hmsl hmrow hml2 hd4 hly hys eany hRm hR3 hD2 S3 s4 hlb
              generalize met boxes r c (2 ^ (k + 1)) = m at hT hR4 hml hm4 hne hh
              refine ⟨_, rfl, _, _, rfl, rfl, ⟨by decide, by decide⟩, ?_⟩
              refine ⟨_, rfl, by decide, by decide, fun D4 hD4 => ?_⟩
              have nD4e : D4 ≠ e := (qa2 he4 hD4).symm
              refine compC_rng (fun i xs H5 => But e H4 H5 ∧ H5 D4 = some (.lst xs) ∧ xs = vN (names k m r c L i) ∧ H5 e = some (.dT (tK (Tr.rowsOf (qL k m r c L i))))) (by decide) ⟨But.of (qb7 hD4), qa1, rfl, qc3 he4 hD4⟩ (fun i xs H5 h => ⟨h.2.1, by rw [h.2.2.1, qh8]; simp [names]⟩) ?_ ?_
              . rintro i xs H5 hi ⟨b5, hd5, rfl, he5⟩ Q2 q2
                have hi4 : i < 4 := hi
                have veq : [V.ref e, V.ref D, V.int ((r : Int) + ((2 ^ (k + 1) : Nat) : Int) / 2 * ((0 + (i : Int)) / 2)), V.int ((c : Int) + ((2 ^ (k + 1) : Nat) : Int) / 2 * ((0 + (i : Int)) % 2)), V.int (((2 ^ (k + 1) : Nat) : Int) / 2)] = [V.ref e, V.ref D, V.int ((r + 2 ^ k * (i / 2) : Nat) : Int), V.int ((c + 2 ^ k * (i % 2) : Nat) : Int), V.int ((2 ^ k : Nat) : Int)] := by
                  rw [ehalf, Int.zero_add, Int.natCast_add, Int.natCast_mul, Int.natCast_ediv, Int.natCast_add, Int.natCast_mul, Int.natCast_emod]
                  rfl
                refine ⟨_, rfl, _, rfl, _, rfl, _, rfl, _, rfl, _, _, rfl, rfl, ⟨by decide, by decide⟩, _, _, rfl, rfl, .inl ⟨by lia, by lia⟩, _, _, rfl, rfl, _, rfl, _, rfl, _, rfl, _, _, rfl, rfl, (by show (0 : Int) < 2; decide), _, _, rfl, rfl, .inl ⟨by lia, by lia⟩, _, _, rfl, rfl, _, rfl,
                  e, D, m, r + 2 ^ k * (i / 2), c + 2 ^ k * (i % 2), qL k m r c L i, veq, hR4.but b5 nDe he4 (fun u z => by cases z), hm4, hml, nDe, qG6 hO i, he5, ?_, fun H6 b6 he6 => ?_⟩
                . have h1 := qL_len (k := k) (m := m) (r := r) (c := c) (L := L) i
                  have h2 : sz (k + 1) = 4 * sz k + 1 := rfl
                  have h3 : i * sz k ≤ 3 * sz k := Nat.mul_le_mul_right _ (by lia)
                  lia
                . refine q2 _ _ (b6 _ _ hd5 nD4e) ⟨?_, qa1, ?_, ?_⟩
                  . intro b o z nb
                    rw [qa6 (qa2 z hD4)]
                    exact b6 _ _ (b5 _ _ z nb) nb
                  . rw [qR0 hO]
                    unfold vN
                    rw [List.map_append]
                    rfl
                  . rw [qa6 (Ne.symm nD4e)]
                    exact he6
              . rintro xs H5 ⟨b5, hd5, rfl, he5⟩
                have hd5 : H5 D4 = some (.lst (vN (names k m r c L 4))) := hd5
                have he5 : H5 e = some (.dT (tK (Tr.rowsOf (qL k m r c L 4)))) := he5
                have O4 := qG6 (k := k) (m := m) (r := r) (c := c) hO 4
                have in0 := qQ9 (k := k) (m := m) (r := r) (c := c) hO (j := 0) 4 (by decide)
                have in1 := qQ9 (k := k) (m := m) (r := r) (c := c) hO (j := 1) 4 (by decide)
                have in2 := qQ9 (k := k) (m := m) (r := r) (c := c) hO (j := 2) 4 (by decide)
                have in3 := qQ9 (k := k) (m := m) (r := r) (c := c) hO (j := 3) 4 (by decide)
                have hl4 := qL_len (k := k) (m := m) (r := r) (c := c) (L := L) 4
                have hs4 : sz (k + 1) = 4 * sz k + 1 := rfl
                have e4 : qL k m r c L 4 = Tr.post (qt k m r c 3) (Tr.post (qt k m r c 2) (Tr.post (qt k m r c 1) (Tr.post (qt k m r c 0) L))) := rfl
                have en : names k m r c L 4 = [Tr.name (qL k m r c L 4) (qt k m r c 0), Tr.name (qL k m r c L 4) (qt k m r c 1), Tr.name (qL k m r c L 4) (qt k m r c 2), Tr.name (qL k m r c L 4) (qt k m r c 3)] := rfl
                rw [en] at hd5
                rw [hT] at q
                generalize qL k m r c L 4 = L4 at he5 O4 in0 in1 in2 in3 hl4 e4 hd5
                generalize qt k m r c 0 = t0, qt k m r c 1 = t1, qt k m r c 2 = t2, qt k m r c 3 = t3 at in0 in1 in2 in3 e4 hd5 q
                have B5 : But e H H5 := (But.of S4).trans b5
                refine ⟨_, rfl, (by show 4 ≤ sizeLine; decide), fun a ha => ⟨(by show 4 ≤ sizeLine; decide), fun b hb' => ⟨(by show 2 ≤ sizeLine; decide), fun t ht => ?_⟩⟩⟩
                have S6 : Same H5 (upd (upd (upd H5 a (.lst [.int 0, .int 0, .int 0, .int 0])) b (.lst [.int 1, .int 1, .int 1, .int 1])) t (.tup [.ref a, .ref b])) := ((qb7 ha).trans (qb7 hb')).trans (qb7 ht)
                have da : DataAt (upd (upd (upd H5 a (.lst [.int 0, .int 0, .int 0, .int 0])) b (.lst [.int 1, .int 1, .int 1, .int 1])) t (.tup [.ref a, .ref b])) (.ref a) (dL [0, 0, 0, 0]) := .lst (qc3 (qc3 qa1 hb') ht) (DatasAt.ints [0, 0, 0, 0])
                have db : DataAt (upd (upd (upd H5 a (.lst [.int 0, .int 0, .int 0, .int 0])) b (.lst [.int 1, .int 1, .int 1, .int 1])) t (.tup [.ref a, .ref b])) (.ref b) (dL [1, 1, 1, 1]) := .lst (qc3 qa1 ht) (DatasAt.ints [1, 1, 1, 1])
                have hd6 := S6 _ _ hd5
                have he6 := S6 _ _ he5
                have ht6 : upd (upd (upd H5 a (.lst [.int 0, .int 0, .int 0, .int 0])) b (.lst [.int 1, .int 1, .int 1, .int 1])) t (.tup [.ref a, .ref b]) t = some (.tup [.ref a, .ref b]) := qa1
                generalize upd (upd (upd H5 a (.lst [.int 0, .int 0, .int 0, .int 0])) b (.lst [.int 1, .int 1, .int 1, .int 1])) t (.tup [.ref a, .ref b]) = H6 at S6 da db hd6 he6 ht6 ⊢
                refine ⟨t, [.ref a, .ref b], [dL [0, 0, 0, 0], dL [1, 1, 1, 1]], dL ([Tr.name L4 t0, Tr.name L4 t1, Tr.name L4 t2, Tr.name L4 t3].map fun x : Nat => (x : Int)), rfl, ht6, .cons da (.cons db .nil), .lst (hd6.trans (congrArg (fun z => some (HO.lst z)) (qv8 _))) (DatasAt.ints _), qL4 _, (by simp [PyData.canLayAll0, qL4]), Nat.le_trans (qM6 _) (by decide), ?_⟩
                rw [List.any_cons, List.any_cons, List.any_nil, dL_eqv, dL_eqv, Bool.or_false]
                have B6 : But e H H6 := B5.trans (But.of S6)
                refine ⟨_, rfl, ?_⟩
                have hk : ∀ s ∈ Tr.kids (.nd t0 t1 t2 t3), Tr.In L4 s := fun s hs => by
                  have : s = t0 ∨ s = t1 ∨ s = t2 ∨ s = t3 := by simpa [Tr.kids] using hs
                  rcases this with rfl | rfl | rfl | rfl <;> assumption
                refine ite2 (fun hc => ?_) (fun hc => ?_)
                . rcases Bool.or_eq_true _ _ ▸ hc with z | z
                  . have z' := of_decide_eq_true z
                    simp only [List.map_cons, List.map_nil, List.cons.injEq, and_true] at z'
                    have g0 := Qf.qe4 (L := L4) (t := t0) (by lia)
                    have g1 := Qf.qe4 (L := L4) (t := t1) (by lia)
                    have g2 := Qf.qe4 (L := L4) (t := t2) (by lia)
                    have g3 := Qf.qe4 (L := L4) (t := t3) (by lia)
                    subst g0 g1 g2 g3
                    have eL : L4 = L := e4
                    subst eL
                    exact ⟨_, rfl, D4, _, 0, .int (0 : Nat), rfl, rfl, SqL.of hd6, rfl, q H6 B6 he6⟩
                  . have z' := of_decide_eq_true z
                    simp only [List.map_cons, List.map_nil, List.cons.injEq, and_true] at z'
                    have g0 := Qf.qf0 (L := L4) (t := t0) (by lia)
                    have g1 := Qf.qf0 (L := L4) (t := t1) (by lia)
                    have g2 := Qf.qf0 (L := L4) (t := t2) (by lia)
                    have g3 := Qf.qf0 (L := L4) (t := t3) (by lia)
                    subst g0 g1 g2 g3
                    have eL : L4 = L := e4
                    subst eL
                    exact ⟨_, rfl, D4, _, 0, .int (1 : Nat), rfl, rfl, SqL.of hd6, rfl, q H6 B6 he6⟩
                . have hmk : Qf.mk t0 t1 t2 t3 = .nd t0 t1 t2 t3 := by
                    unfold Qf.mk
                    rw [if_neg, if_neg]
                    . rintro ⟨rfl, rfl, rfl, rfl⟩
                      exact hc (by rw [Bool.or_eq_true]; exact .inr (decide_eq_true rfl))
                    . rintro ⟨rfl, rfl, rfl, rfl⟩
                      exact hc (by rw [Bool.or_eq_true]; exact .inl (decide_eq_true rfl))
                  rw [hmk] at q
                  have hrow4 : (Tr.kids (.nd t0 t1 t2 t3)).map (Tr.name L4) = [Tr.name L4 t0, Tr.name L4 t1, Tr.name L4 t2, Tr.name L4 t3] := rfl
                  have hmem := qJ7 O4 hk
                  rw [hrow4] at hmem
                  refine ⟨_, rfl, D4, _, rfl, .inl ⟨SqL.of hd6, fun u hu => ?_⟩⟩
                  have S7 := qb7 (o := .tup (vN [Tr.name L4 t0, Tr.name L4 t1, Tr.name L4 t2, Tr.name L4 t3])) hu
                  have he7 := S7 _ _ he6
                  have hu7 : upd H6 u (.tup (vN [Tr.name L4 t0, Tr.name L4 t1, Tr.name L4 t2, Tr.name L4 t3])) u = some (.tup ((keyN [Tr.name L4 t0, Tr.name L4 t1, Tr.name L4 t2, Tr.name L4 t3]).map kV)) := by rw [qa1, qk9]
                  have hd7 := S7 _ _ hd6
                  have B7 := B6.trans (But.of (e := e) S7)
                  generalize upd H6 u (.tup (vN [Tr.name L4 t0, Tr.name L4 t1, Tr.name L4 t2, Tr.name L4 t3])) = H7 at S7 he7 hu7 hd7 B7 ⊢
                  refine ⟨_, rfl, e, _, rfl, DGet.t he7 hu7, _, rfl, ?_⟩
                  rw [tK_val]
                  by_cases hm : [Tr.name L4 t0, Tr.name L4 t1, Tr.name L4 t2, Tr.name L4 t3] ∈ Tr.rowsOf L4
                  . rw [if_pos hm]
                    refine iteF ?_
                    have hT4 := hmem.mp hm
                    have hTL : Tr.nd t0 t1 t2 t3 ∈ L := by
                      by_cases zz : Tr.nd t0 t1 t2 t3 ∈ L
                      . exact zz
                      . exact absurd (e4 ▸ hT4) (Tr.not_below zz)
                    obtain ⟨i, hi, ei⟩ := List.mem_iff_getElem.mp hTL
                    have kin := fun s hs => (Tr.kid_in hO (i := i) (t := .nd t0 t1 t2 t3) (by rw [List.getElem?_eq_getElem hi, ei]) (s := s) hs).1
                    have eL : L4 = L := by
                      rw [e4, qi1 (kin t0 (by simp [Tr.kids])), qi1 (kin t1 (by simp [Tr.kids])), qi1 (kin t2 (by simp [Tr.kids])), qi1 (kin t3 (by simp [Tr.kids]))]
                    rw [qi1 (.inr (.inr hTL))] at q
                    subst eL
                    refine ⟨_, rfl, _, rfl, D4, _, rfl, .inl ⟨SqL.of hd7, fun u2 hu2 => ⟨e, _, rfl, qN2 O4 hTL (qc3 he7 hu2) qa1, ?_⟩⟩⟩
                    exact q _ (B7.trans (But.of (qb7 hu2))) (qc3 he7 hu2)
                  . rw [if_neg hm]
                    refine iteT ?_
                    have hT4 : Tr.nd t0 t1 t2 t3 ∉ L4 := fun z => hm (hmem.mpr z)
                    have hTL : Tr.nd t0 t1 t2 t3 ∉ L := fun z => hT4 (by
                      rw [e4]
                      obtain ⟨s1, h1⟩ := Tr.post_ext t0 L
                      obtain ⟨s2, h2⟩ := Tr.post_ext t1 (Tr.post t0 L)
                      obtain ⟨s3, h3⟩ := Tr.post_ext t2 (Tr.post t1 (Tr.post t0 L))
                      obtain ⟨s4, h4⟩ := Tr.post_ext t3 (Tr.post t2 (Tr.post t1 (Tr.post t0 L)))
                      rw [h4, h3, h2, h1]
                      simp [z])
                    have ep : Tr.post (.nd t0 t1 t2 t3) L = L4 ++ [.nd t0 t1 t2 t3] := by
                      rw [e4]
                      show (if Tr.nd t0 t1 t2 t3 ∈ L then L else _) = _
                      rw [if_neg hTL]
                    have O5 := (Tr.post_ord (.nd t0 t1 t2 t3) L hO).1
                    rw [ep] at q O5
                    have er := qr4 O4 hk
                    rw [hrow4] at er
                    have hlt : (tK (Tr.rowsOf L4)).length = L4.length := by unfold tK; rw [qk3, Tr.rowsOf_len]
                    have hli : L4.length + 1 ≤ 6000000 := by lia
                    refine ⟨_, rfl, e, _, rfl, he7, _, _, rfl, rfl, _, rfl, _, rfl, D4, _, rfl, .inl ⟨SqL.of hd7, fun u2 hu2 => ?_⟩⟩
                    have he8 := qc3 (u := .tup (vN [Tr.name L4 t0, Tr.name L4 t1, Tr.name L4 t2, Tr.name L4 t3])) he7 hu2
                    refine ⟨e, _, rfl, DPut.t he8 (by rw [qa1, qk9]) (by rw [hlt]; exact Nat.lt_of_le_of_lt (show L4.length ≤ 6000000 by lia) (by decide)), ?_⟩
                    have eput : putK (tK (Tr.rowsOf L4)) (keyN [Tr.name L4 t0, Tr.name L4 t1, Tr.name L4 t2, Tr.name L4 t3]) (.int (((tK (Tr.rowsOf L4)).length : Int) + 2)) = tK (Tr.rowsOf (L4 ++ [.nd t0 t1 t2 t3])) := by
                      have h1 := qA5 (key := keyN) (k := 2) (fun a b => qk2) hm
                      rw [er, hlt]
                      unfold tK
                      rw [← h1, Tr.rowsOf_len]
                      congr 2
                      lia
                    rw [eput]
                    have hd8 : upd (upd H7 u2 (.tup (vN [Tr.name L4 t0, Tr.name L4 t1, Tr.name L4 t2, Tr.name L4 t3]))) e (.dT (tK (Tr.rowsOf (L4 ++ [.nd t0 t1 t2 t3])))) D4 = some (.lst (vN [Tr.name L4 t0, Tr.name L4 t1, Tr.name L4 t2, Tr.name L4 t3])) := by
                      rw [qa6 nD4e]
                      exact qc3 hd7 hu2
                    have he9 : upd (upd H7 u2 (.tup (vN [Tr.name L4 t0, Tr.name L4 t1, Tr.name L4 t2, Tr.name L4 t3]))) e (.dT (tK (Tr.rowsOf (L4 ++ [.nd t0 t1 t2 t3])))) e = some (.dT (tK (Tr.rowsOf (L4 ++ [.nd t0 t1 t2 t3])))) := qa1
                    have B8 : But e H (upd (upd H7 u2 (.tup (vN [Tr.name L4 t0, Tr.name L4 t1, Tr.name L4 t2, Tr.name L4 t3]))) e (.dT (tK (Tr.rowsOf (L4 ++ [.nd t0 t1 t2 t3]))))) := (B7.trans (But.of (qb7 hu2))).trans But.upd
                    generalize upd (upd H7 u2 (.tup (vN [Tr.name L4 t0, Tr.name L4 t1, Tr.name L4 t2, Tr.name L4 t3]))) e (.dT (tK (Tr.rowsOf (L4 ++ [.nd t0 t1 t2 t3])))) = H8 at hd8 he9 B8 ⊢
                    have enm : ∀ s, Tr.In L4 s -> Tr.name (L4 ++ [.nd t0 t1 t2 t3]) s = Tr.name L4 s := fun s hs => Tr.name_app hs O4
                    refine ⟨_, rfl, _, rfl, D4, _, rfl, .inl ⟨SqL.of hd8, fun u3 hu3 => ⟨e, _, rfl, qN2 (a := t0) (b := t1) (c := t2) (d := t3) O5 (by simp) (qc3 he9 hu3) (by rw [qa1, enm t0 in0, enm t1 in1, enm t2 in2, enm t3 in3]), ?_⟩⟩⟩
                    exact q _ (B8.trans (But.of (qb7 hu3))) (qc3 he9 hu3)
end
end Pr
set_option Elab.async false
set_option linter.all false
set_option maxRecDepth 100000
set_option maxHeartbeats 4000000
namespace Pr
open PySem L2 Qf
def bTop (n : Nat) (boxes : List Row) : Nat := Tr.name (Tr.post (bt n boxes 0 0) []) (bt n boxes 0 0)
def ql4 (n : Nat) (boxes : List Row) : List Row := Tr.rowsOf (Tr.post (bt n boxes 0 0) [])
theorem b_canon {n : Nat} {boxes : List Row} (hn : n ≤ 12) : Canon n (bTop n boxes) (ql4 n boxes) := qr3 hn (qG0 n boxes 0 0) (qG1 n boxes 0 0)
theorem b_T {n : Nat} {boxes : List Row} : T (ql4 n boxes) (bTop n boxes) = bt n boxes 0 0 := by
  obtain ⟨ho, hi⟩ := Tr.post_ord (bt n boxes 0 0) [] Tr.ord_nil
  exact qq3 ho _ hi
section
variable {P : Program} {w : World} {K : PySem.W.Frag} {mg : Str -> Option Value} {base : Heap}
abbrev nBSh : List Str := ["_law_n", "_law_boxes_here", "_law_rows", "_law_top"]
theorem scBSh : FnScope nBSh ["_law_n", "_law_boxes_here"] (qa7 qE8) := ⟨rfl, rfl, rfl, by decide +kernel, rfl, by decide +kernel, by decide +kernel⟩
end
end Pr
set_option Elab.async false
set_option linter.all false
set_option maxRecDepth 100000
set_option maxHeartbeats 4000000
namespace Qf
open Tr
def mkT (a b c d : Tr) : Tr := if a = z ∧ b = z ∧ c = z ∧ d = z then z else if a = o ∧ b = o ∧ c = o ∧ d = o then o else .nd a b c d
def ins (t : Tr) (L : List Tr) : List Tr := if t = z ∨ t = o ∨ t ∈ L then L else L ++ [t]
theorem ins_ext (t : Tr) (L : List Tr) : ∃ s, ins t L = L ++ s ∧ s.length ≤ 1 := by
  unfold ins
  split
  . exact ⟨[], by simp, by decide⟩
  . exact ⟨[t], rfl, Nat.le_refl 1⟩
theorem ins_in (t : Tr) (L : List Tr) : In (ins t L) t := by
  unfold ins
  split
  . assumption
  . exact .inr (.inr (by simp))
theorem ins_ord {L : List Tr} (h : Ord L) {a b c d : Tr} (ha : In L a) (hb : In L b) (hc : In L c) (hd : In L d) : Ord (ins (mkT a b c d) L) := by
  unfold ins
  split
  . exact h
  . rename_i hn
    have e : mkT a b c d = .nd a b c d := by
      unfold mkT at hn ⊢
      split
      . rename_i h1; rw [if_pos h1] at hn; exact absurd (.inl rfl) hn
      . rename_i h1
        rw [if_neg h1] at hn
        split
        . rename_i h2; rw [if_pos h2] at hn; exact absurd (.inr (.inl rfl)) hn
        . rfl
    rw [e] at hn ⊢
    have nm : Tr.nd a b c d ∉ L := fun z => hn (.inr (.inr z))
    refine ⟨?_, ?_⟩
    . rw [List.nodup_append]
      exact ⟨h.nd, by simp, fun x hx y hy e => nm (by
        have : y = .nd a b c d := by simpa using hy
        rw [← this, ← e]; exact hx)⟩
    . intro i t ht
      by_cases hi : i < L.length
      . rw [List.getElem?_append_left hi] at ht
        obtain ⟨h1, h2⟩ := h.ch i t ht
        refine ⟨h1, fun s hs => (h2 s hs).imp id fun h => h.imp id fun ⟨j, hj, e⟩ => ⟨j, hj, ?_⟩⟩
        rw [List.getElem?_append_left (by lia)]; exact e
      . have hlen := (List.getElem?_eq_some_iff.mp ht).1
        rw [List.length_append] at hlen
        have hi2 : i = L.length := by simp at hlen; lia
        subst hi2
        have et : t = .nd a b c d := by simpa using ht.symm
        subst et
        refine ⟨⟨a, b, c, d, rfl⟩, fun s hs => ?_⟩
        have hin : In L s := by
          have : s = a ∨ s = b ∨ s = c ∨ s = d := by simpa [kids] using hs
          rcases this with rfl | rfl | rfl | rfl <;> assumption
        refine hin.imp id fun h => h.imp id fun hm => ?_
        obtain ⟨j, hj, e⟩ := List.mem_iff_getElem.mp hm
        exact ⟨j, hj, by rw [List.getElem?_append_left hj, List.getElem?_eq_getElem hj, e]⟩
theorem mkT_nd {a b c d : Tr} (h1 : ¬ (a = z ∧ b = z ∧ c = z ∧ d = z)) (h2 : ¬ (a = o ∧ b = o ∧ c = o ∧ d = o)) : mkT a b c d = .nd a b c d := by
  unfold mkT
  rw [if_neg h1, if_neg h2]
theorem plain_names {L : List Tr} {a b c d : Tr} : qp9 [name L a, name L b, name L c, name L d] ↔ (a = z ∧ b = z ∧ c = z ∧ d = z) ∨ (a = o ∧ b = o ∧ c = o ∧ d = o) := by
  constructor
  . rintro (e | e)
    . simp only [List.cons.injEq, and_true] at e
      exact .inl ⟨qe4 e.1, qe4 e.2.1, qe4 e.2.2.1, qe4 e.2.2.2⟩
    . simp only [List.cons.injEq, and_true] at e
      exact .inr ⟨qf0 e.1, qf0 e.2.1, qf0 e.2.2.1, qf0 e.2.2.2⟩
  . rintro (⟨rfl, rfl, rfl, rfl⟩ | ⟨rfl, rfl, rfl, rfl⟩)
    . exact .inl rfl
    . exact .inr rfl
end Qf
namespace Pr
open PySem L2 Qf
theorem kn : ¬ (("kept" : Str) = "numbers") := by decide +kernel
def qB2 (k d : Addr) : List (Str × V) := putF "numbers" (.ref d) (putF "kept" (.ref k) [])
theorem qr6 (k d : Addr) : (qB2 k d).lookup ("kept" : Str) = some (.ref k) := by
  unfold qB2
  rw [qb2, if_neg kn, qb2, if_pos rfl]
theorem qq4 (k d : Addr) : (qB2 k d).lookup ("numbers" : Str) = some (.ref d) := by
  unfold qB2
  rw [qb2, if_pos rfl]
theorem bFlds_no (k d : Addr) {m : Str} (h1 : ¬ m = "numbers") (h2 : ¬ m = "kept") : (qB2 k d).lookup m = none := by
  unfold qB2
  rw [qb2, if_neg h1, qb2, if_neg h2]
  all_goals rfl
structure BookAt (C : Addr) (H : Hp) (p k d : Addr) (L : List Tr) : Prop where
  ob : ∃ dx, H p = some (.ins C dx (qB2 k d))
  kp : RowsL H k (Tr.rowsOf L)
  dc : H d = some (.dT (tK (Tr.rowsOf L)))
  od : Tr.Ord L
structure BookIn (K : PySem.W.Frag) (mg : Str -> Option Value) (C : Addr) : Prop where
  cl : Cls K C
  nK : NoAttr K C "kept"
  nN : NoAttr K C "numbers"
  mgC : mg "Book" = some (.ref C)
def But2 (k d : Addr) (H H' : Hp) : Prop := ∀ b o, H b = some o -> b ≠ k -> b ≠ d -> H' b = some o
theorem But2.refl (k d : Addr) (H : Hp) : But2 k d H H := fun _ _ h _ _ => h
theorem But2.trans {k d : Addr} {H H1 H2 : Hp} (a : But2 k d H H1) (b : But2 k d H1 H2) : But2 k d H H2 := fun c o h n1 n2 => b c o (a c o h n1 n2) n1 n2
theorem But2.of {k d : Addr} {H H' : Hp} (s : Same H H') : But2 k d H H' := fun b o h _ _ => s b o h
section
variable {P : Program} {w : World} {K : PySem.W.Frag} {mg : Str -> Option Value} {base : Heap}
theorem scBkI : FnScope ["self"] ["self"] (qa7 qz8) := ⟨rfl, rfl, rfl, by decide +kernel, rfl, by decide +kernel, by decide +kernel⟩
def spBkI (C : Addr) : Sp := fun vs H Q _ => ∃ (p dx : Addr), vs = [.ref p] ∧ H p = some (.ins C dx []) ∧ ∀ (k d : Addr) (H' : Hp), H k = none -> H d = none -> BookAt C H' p k d [] -> But p H H' -> Q .non H'
theorem ok_bkI {f C : Addr} {fd : FuncData} (F : Fun K "__init__" "Book.__init__" qz8 f fd) (T : BookIn K mg C) : FnOk P w K mg base CX0 1 f fd ["self"] (spBkI C) := by
  refine F.ok scBkI (fun vs H Q E h => ?_) (fun cdv A outer s H vs Q E hr h => ?_)
  . obtain ⟨p, dx, rfl, _⟩ := h
    rfl
  . obtain ⟨p, dx, rfl, hp, q⟩ := h
    refine seqE ⟨_, ⟨qx5 (pv 0) (qn6 qa3) rfl⟩, ?_⟩
    refine qi2 ⟨_, ⟨qx5 (pv 0) qs4 rfl⟩, ?_⟩
    refine ⟨(by show 0 ≤ sizeLine; decide), fun k hk => ?_⟩
    have npk : p ≠ k := qa2 hp hk
    refine ⟨_, rfl, p, C, dx, [], rfl, (by rw [qa6 npk]; exact hp), T.cl, T.nK, (by show 0 < 1000; decide), fun d hd => ?_⟩
    have hkd : upd (upd H k (.lst [])) p (.ins C dx (putF "kept" (.ref k) [])) k = some (.lst []) := by rw [qa6 (Ne.symm npk), qa1]
    have nkd : k ≠ d := qa2 hkd hd
    have npd : p ≠ d := qa2 qa1 hd
    have hdH : H d = none := by
      rw [qa6 (Ne.symm npd), qa6 (Ne.symm nkd)] at hd
      exact hd
    refine ⟨_, rfl, p, C, dx, _, rfl, (by rw [qa6 npd]; exact qa1), T.cl, T.nN, (by show 1 < 1000; decide), ?_⟩
    refine q k d _ hk hdH ⟨⟨dx, qa1⟩, ⟨[], ?_, rfl, fun i b r e => by simp at e⟩, ?_, Tr.ord_nil⟩ fun b o e nb => ?_
    . rw [qa6 (Ne.symm npk), qa6 nkd]; exact hkd
    . rw [qa6 (Ne.symm npd), qa1]; rfl
    . rw [qa6 nb, qa6 (qa2 e hdH), qa6 nb, qa6 (qa2 e hk)]
      exact e
theorem scBkN : FnScope ["self", "row"] ["self", "row"] (qa7 qM1) := ⟨rfl, rfl, rfl, by decide +kernel, rfl, by decide +kernel, by decide +kernel⟩
def spBkN (C : Addr) : Sp := fun vs H Q _ => ∃ (p k d b : Addr) (L : List Tr) (t0 t1 t2 t3 : Tr), vs = [.ref p, .ref b] ∧ BookAt C H p k d L ∧ H b = some (.tup (vN [Tr.name L t0, Tr.name L t1, Tr.name L t2, Tr.name L t3])) ∧ Tr.In L t0 ∧ Tr.In L t1 ∧ Tr.In L t2 ∧ Tr.In L t3 ∧ L.length ≤ 990 ∧
  ∀ H', But2 k d H H' -> BookAt C H' p k d (ins (mkT t0 t1 t2 t3) L) -> Q (.int (Tr.name (ins (mkT t0 t1 t2 t3) L) (mkT t0 t1 t2 t3) : Nat)) H'
theorem ok_bkN {f fP C : Addr} {fd fdP : FuncData} (F : Fun K "number_for" "Book.number_for" qM1 f fd) (B : Blt mg) (Tc : Cst mg) (T : BookIn K mg C)
    (hP : mg "is_plain" = some (.ref fP)) (FP : Fun K "is_plain" "is_plain" qy4 fP fdP) (bP : Binds K fdP ["row"] []) : FnOk P w K mg base CX0 3 f fd ["self", "row"] (spBkN C) := by
  have GP : FnOk P w K mg base CX0 2 fP fdP ["row"] qJ5 := qM5 FP Tc
  obtain ⟨tf, hfi⟩ := Tc.first
  refine F.ok scBkN (fun vs H Q E h => ?_) (fun cdv A outer s H vs Q E hr h => ?_)
  . obtain ⟨p, k, d, b, L, t0, t1, t2, t3, rfl, _⟩ := h
    rfl
  . obtain ⟨p, k, d, b, L, t0, t1, t2, t3, rfl, hB, hb, i0, i1, i2, i3, hL, q⟩ := h
    have hu : A.units + 3 + 1 < cLine := by
      have h2 : A.units + 3 + 16 * 2 + 200 < cLine := hr.un
      lia
    refine seqE ⟨_, ⟨qe0 (qg8 (qa8 GP hr (by rfl) hP FP.kp bP .nil qb9 (qa0 (pv 1) qa3))) (qb0 (qb3 (qf3 qf2 (pv 1) qa4 (fun _ _ => rfl)))) qb4⟩, ?_⟩
    refine seqE ⟨_, ⟨qe0 (qt4 (ql9 hu (pv 1) (qi3 (pv 0) rfl)))
      (StB.go (.cons ⟨qn9 hu (qi3 (pv 0) rfl) (pv 1) (qb1 qd9 (qa9 qd6 (by rfl) B.len PySem.boot_len (qa0 (qi3 (pv 0) rfl) qa3)) (qd0 (v := .int 2) (by rfl) hfi ⟨_, rfl⟩)) (by rfl)⟩
        (.one ⟨qn7 (pe_bm PySem.F.plainAttrs_list PySem.F.slot_list_append PySem.F.type_list_append qj3 (qi3 (pv 0) rfl) (qa0 (pv 1) qa3))⟩))) qb4⟩, ?_⟩
    refine qi2 ⟨_, ⟨qb3 (ql8 hu (qi3 (pv 0) rfl) (pv 1) (fun _ _ => rfl))⟩, ?_⟩
    refine ⟨_, rfl, b, _, rfl, hb, rfl, fun H1 s1 => ⟨_, rfl, ?_⟩⟩
    obtain ⟨⟨dx, hp⟩, ⟨bs, hk, hbl, hrow⟩, hd, hO⟩ := id hB
    have B1 : BookAt C H1 p k d L := ⟨⟨dx, s1 _ _ hp⟩, ⟨bs, s1 _ _ hk, hbl, fun i c r e1 e2 => s1 _ _ (hrow i c r e1 e2)⟩, s1 _ _ hd, hO⟩
    have hb1 := s1 _ _ hb
    refine ite2 (fun hc => ?_) (fun hc => ?_)
    . rcases plain_names.mp (of_decide_eq_true hc) with ⟨rfl, rfl, rfl, rfl⟩ | ⟨rfl, rfl, rfl, rfl⟩
      . exact ⟨_, rfl, b, _, 0, .int (0 : Nat), rfl, rfl, SqT.of hb1, rfl, q H1 (But2.of s1) B1⟩
      . exact ⟨_, rfl, b, _, 0, .int (1 : Nat), rfl, rfl, SqT.of hb1, rfl, q H1 (But2.of s1) B1⟩
    . have hn := fun z => hc (decide_eq_true (plain_names (L := L).mpr z))
      have em : mkT t0 t1 t2 t3 = .nd t0 t1 t2 t3 := mkT_nd (fun z => hn (.inl z)) (fun z => hn (.inr z))
      rw [em] at q
      have hkin : ∀ s ∈ Tr.kids (.nd t0 t1 t2 t3), Tr.In L s := fun s hs => by
        have : s = t0 ∨ s = t1 ∨ s = t2 ∨ s = t3 := by simpa [Tr.kids] using hs
        rcases this with rfl | rfl | rfl | rfl <;> assumption
      have hmem := qJ7 hO hkin
      have hrow4 : (Tr.kids (.nd t0 t1 t2 t3)).map (Tr.name L) = [Tr.name L t0, Tr.name L t1, Tr.name L t2, Tr.name L t3] := rfl
      rw [hrow4] at hmem
      have hbk : H1 b = some (.tup ((keyN [Tr.name L t0, Tr.name L t1, Tr.name L t2, Tr.name L t3]).map kV)) := by rw [qk9]; exact hb1
      obtain ⟨⟨dx1, hp1⟩, ⟨bs1, hk1, hbl1, hrow1⟩, hd1, _⟩ := id B1
      refine ⟨_, rfl, _, rfl, p, C, dx1, _, _, rfl, hp1, T.cl, T.nN, qq4 _ _, d, _, rfl, DGet.t hd1 hbk, _, rfl, ?_⟩
      rw [tK_val]
      by_cases hm : [Tr.name L t0, Tr.name L t1, Tr.name L t2, Tr.name L t3] ∈ Tr.rowsOf L
      . rw [if_pos hm]
        refine iteF ?_
        have hT := hmem.mp hm
        have ei : ins (.nd t0 t1 t2 t3) L = L := by unfold ins; rw [if_pos (.inr (.inr hT))]
        rw [ei] at q
        exact ⟨_, rfl, p, C, dx1, _, _, rfl, hp1, T.cl, T.nN, qq4 _ _, _, rfl, d, _, rfl, qN2 hO hT hd1 hb1, q H1 (But2.of s1) B1⟩
      . rw [if_neg hm]
        refine iteT ?_
        have hT : Tr.nd t0 t1 t2 t3 ∉ L := fun z => hm (hmem.mpr z)
        have ei : ins (.nd t0 t1 t2 t3) L = L ++ [.nd t0 t1 t2 t3] := by
          unfold ins
          rw [if_neg]
          rintro (z | z | z)
          . cases z
          . cases z
          . exact hT z
        have O5 := ins_ord hO i0 i1 i2 i3
        rw [em, ei] at O5
        rw [ei] at q
        have er := qr4 hO hkin
        rw [hrow4] at er
        have hlt : (tK (Tr.rowsOf L)).length = L.length := by unfold tK; rw [qk3, Tr.rowsOf_len]
        have hbsl : (bs1.map V.ref).length = L.length := by rw [List.length_map, hbl1, Tr.rowsOf_len]
        have npd : p ≠ d := fun z => by rw [z, hd1] at hp1; cases hp1
        have nkd : k ≠ d := fun z => by rw [z, hd1] at hk1; cases hk1
        have npk : p ≠ k := fun z => by rw [z, hk1] at hp1; cases hp1
        have nbd : b ≠ d := fun z => by rw [z, hd1] at hb1; cases hb1
        have nbk : b ≠ k := fun z => by rw [z, hk1] at hb1; cases hb1
        have dq := DPut.t (v := .int (((bs1.map V.ref).length : Int) + 2)) hd1 hbk (by rw [hlt]; exact qb8 (by lia))
        refine ⟨_, rfl, p, C, dx1, _, _, rfl, hp1, T.cl, T.nK, qr6 _ _, k, _, rfl, .inl (SqL.of hk1), _, _, rfl, rfl, _, rfl, p, C, dx1, _, _, rfl, hp1, T.cl, T.nN, qq4 _ _, _, rfl, d, _, rfl, dq, ?_⟩
        have eput : putK (tK (Tr.rowsOf L)) (keyN [Tr.name L t0, Tr.name L t1, Tr.name L t2, Tr.name L t3]) (.int (((bs1.map V.ref).length : Int) + 2)) = tK (Tr.rowsOf (L ++ [.nd t0 t1 t2 t3])) := by
          have h1 := qA5 (key := keyN) (k := 2) (fun a b => qk2) hm
          rw [er, hbsl]
          unfold tK
          rw [← h1, Tr.rowsOf_len]
          congr 2
          lia
        rw [eput]
        have hp2 : upd H1 d (.dT (tK (Tr.rowsOf (L ++ [.nd t0 t1 t2 t3])))) p = some (.ins C dx1 (qB2 k d)) := by rw [qa6 npd]; exact hp1
        have hk2 : upd H1 d (.dT (tK (Tr.rowsOf (L ++ [.nd t0 t1 t2 t3])))) k = some (.lst (bs1.map V.ref)) := by rw [qa6 nkd]; exact hk1
        refine ⟨_, rfl, p, C, dx1, _, _, rfl, hp2, T.cl, T.nK, qr6 _ _, .inl ⟨rfl, _, SqL.of hk2⟩, _, rfl, k, _, .ref b, rfl, rfl, hk2, by rw [hbsl]; exact qb8 (by lia), ?_⟩
        have tup3 : ∀ {c : Addr} {u : List V}, H1 c = some (.tup u) -> upd (upd H1 d (.dT (tK (Tr.rowsOf (L ++ [.nd t0 t1 t2 t3]))))) k (.lst (bs1.map V.ref ++ [.ref b])) c = some (.tup u) := fun {c u} e => by
          have n1 : c ≠ k := fun z => by rw [z, hk1] at e; cases e
          have n2 : c ≠ d := fun z => by rw [z, hd1] at e; cases e
          rw [qa6 n1, qa6 n2]; exact e
        have B3 : BookAt C (upd (upd H1 d (.dT (tK (Tr.rowsOf (L ++ [.nd t0 t1 t2 t3]))))) k (.lst (bs1.map V.ref ++ [.ref b]))) p k d (L ++ [.nd t0 t1 t2 t3]) := by
          refine ⟨⟨dx1, by rw [qa6 npk]; exact hp2⟩, ⟨bs1 ++ [b], by rw [qa1, qA7], ?_, ?_⟩, by rw [qa6 (Ne.symm nkd), qa1], O5⟩
          . rw [List.length_append, hbl1, Tr.rowsOf_len, Tr.rowsOf_len, List.length_append]; rfl
          . intro j c r e1 e2
            rw [er] at e2
            have hbl2 : bs1.length = L.length := by rw [hbl1, Tr.rowsOf_len]
            by_cases hj : j < L.length
            . rw [List.getElem?_append_left (by lia)] at e1
              rw [List.getElem?_append_left (by rw [Tr.rowsOf_len]; exact hj)] at e2
              exact tup3 (hrow1 j c r e1 e2)
            . rw [List.getElem?_append_right (by lia)] at e1
              rw [List.getElem?_append_right (by rw [Tr.rowsOf_len]; lia)] at e2
              have hj0 : j - bs1.length = 0 := by
                have := (List.getElem?_eq_some_iff.mp e1).1
                simp at this
                lia
              have hj1 : j - (Tr.rowsOf L).length = 0 := by rw [Tr.rowsOf_len]; lia
              rw [hj0] at e1
              rw [hj1] at e2
              have ec : c = b := by simpa using e1.symm
              have erow : r = [Tr.name L t0, Tr.name L t1, Tr.name L t2, Tr.name L t3] := by simpa using e2.symm
              rw [ec, erow]
              exact tup3 hb1
        have hbt3 := tup3 hb1
        have X3 : But2 k d H1 (upd (upd H1 d (.dT (tK (Tr.rowsOf (L ++ [.nd t0 t1 t2 t3]))))) k (.lst (bs1.map V.ref ++ [.ref b]))) := fun c o e n1 n2 => by rw [qa6 n1, qa6 n2]; exact e
        generalize upd (upd H1 d (.dT (tK (Tr.rowsOf (L ++ [.nd t0 t1 t2 t3]))))) k (.lst (bs1.map V.ref ++ [.ref b])) = H3 at B3 hbt3 X3 ⊢
        obtain ⟨⟨dx3, hp3⟩, _, hd3, _⟩ := id B3
        have enm : ∀ s, Tr.In L s -> Tr.name (L ++ [.nd t0 t1 t2 t3]) s = Tr.name L s := fun s hs => Tr.name_app hs hO
        exact ⟨_, rfl, p, C, dx3, _, _, rfl, hp3, T.cl, T.nN, qq4 _ _, _, rfl, d, _, rfl, qN2 (a := t0) (b := t1) (c := t2) (d := t3) O5 (by simp) hd3 (by rw [hbt3, enm t0 i0, enm t1 i1, enm t2 i2, enm t3 i3]), q H3 ((But2.of s1).trans X3) B3⟩
end
end Pr
set_option Elab.async false
set_option linter.all false
set_option maxRecDepth 100000
set_option maxHeartbeats 4000000
namespace L2
open PySem
section
variable {X : Cx}
theorem qJ9 (ns : List Int) : ∀ n, n ≤ ns.length -> preSum (fun i => ns.getD i 0) n = (ns.take n).sum := by
  intro n
  induction n with
  | zero => intro _; simp [preSum]
  | succ n ih =>
    intro h
    have hn : n < ns.length := h
    rw [preSum, ih (Nat.le_of_lt hn), List.take_succ_eq_append_getElem hn, List.sum_append]
    simp [List.getD, hn]
theorem call_sumT (hc : X.calm = true) : CallR X (.builtin "sum") (fun xs H Q => ∃ (p : Addr) (ns : List Int), xs = [.ref p] ∧ SqT X.K H p (ns.map V.int) ∧ Q (.int ns.sum) H) := by
  intro pins s σ H xs us Q I r h
  obtain ⟨p, ns, rfl, hp, q⟩ := h
  obtain ⟨u, rfl, rx⟩ := ql1 r
  cases rx
  obtain ⟨its, rv, ist, z⟩ := I.tuple hp
  have isl : s.heap.IsTuple p its.toArray := ist
  obtain ⟨o, ho, _⟩ := id isl
  have hlen : its.length = ns.length := by have := rv.length; simpa using this.symm
  have np : p ≠ s.heap.objs.size := Nat.ne_of_lt (Heap.lt_size ho)
  refine call_sum_walkAnyB (wpAny_pyIter_tuple isl ?_)
  refine ⟨s.heap.objs.size, _, _, _, _, _, _, fun i => ns.getD i 0, rfl, (Walks.tuple (A := X.A.in1) (I.ok.hd hc) s.heap.objs.size p np its.toArray).toS, ⟨⟨_, Heap.get?_push_size _ rfl, rfl, rfl⟩, isl.at fun o e => Heap.get?_push_of_some _ e⟩, ?_, ?_, ?_⟩
  . intro b hb
    rw [Heap.size_push]
    rcases List.mem_cons.mp hb with rfl | hb
    . exact Nat.lt_succ_self _
    . have : b = p := by simpa using hb
      subst this
      exact Nat.lt_succ_of_lt (Heap.lt_size ho)
  . intro i v hv
    have hv' : its[i]? = some v := by simpa using hv
    have hi : i < ns.length := by rw [← hlen]; exact (List.getElem?_eq_some_iff.mp hv').1
    obtain ⟨w', e1, t, e2⟩ := rv.get (x := V.int (ns[i])) (i := i) (by simp [hi])
    rw [hv'] at e1; cases e1
    exact .inl ⟨t, by rw [e2]; simp [List.getD, hi]⟩
  . intro s' t' mv
    have es : its.toArray.size = ns.length := by simpa using hlen
    refine ⟨.int ns.sum, H, qC7 I mv fun b o e hb => ?_, ⟨t', ?_⟩, q⟩
    . have : b = s.heap.objs.size := by simpa using hb
      exact Nat.lt_irrefl _ (by rw [this] at e; exact Heap.lt_size e)
    . rw [es, qJ9 ns _ (Nat.le_refl _), List.take_length]
theorem loc4 {K : PySem.W.Frag} {y : V} {os σ : St} {H : Hp} {R : St -> Hp -> Prop} (ho : os.length = 4) (h : gTup K 4 (qg5 (qe7 0) (qg5 (qe7 1) (qg5 (qe7 2) (qg5 (qe7 3) gNil)))) y (os ++ σ) H R) :
    gTup K 4 (qg5 (qe7 0) (qg5 (qe7 1) (qg5 (qe7 2) (qg5 (qe7 3) gNil)))) y (os ++ σ) H fun σ' H' => (∃ os' : St, os'.length = 4 ∧ σ' = os' ++ σ) ∧ R σ' H' := by
  match os, ho with
  | [o1, o2, o3, o4], _ =>
    obtain ⟨a, xs, e1, e2, e3, v, r, e4, v2, r2, e5, v3, r3, e6, v4, r4, e7, e8, q⟩ := h
    exact ⟨a, xs, e1, e2, e3, v, r, e4, v2, r2, e5, v3, r3, e6, v4, r4, e7, e8, ⟨[some v, some v2, some v3, some v4], rfl, rfl⟩, q⟩
theorem gfour {x y u v : Str} {p1 p2 p3 p4 tpos : Pos} {k : Nat} {scope : Scope} {cl : List (Str × Addr)} {C : Addr} {fp : List Addr} {s₀ : Shared} {H₀ : Hp} (hc : X.calm = true) (hN : X.N.Nodup) (hd : [x, y, u, v].Nodup) (s3 : ∀ z ∈ X.N, scope.names.lookup z ≠ some .local)
    (hx : scope.names.lookup x = some .local) (hy : scope.names.lookup y = some .local) (hu : scope.names.lookup u = some .local) (hv : scope.names.lookup v = some .local) :
    PG (qc1 X scope cl C [x, y, u, v] fp s₀ H₀) (.Tuple [.Name x p1, .Name y p2, .Name u p3, .Name v p4] k tpos) (gTup X.K 4 (qg5 (qe7 0) (qg5 (qe7 1) (qg5 (qe7 2) (qg5 (qe7 3) gNil))))) := by
  have lx : (qc1 X scope cl C [x, y, u, v] fp s₀ H₀).env.scope.names.lookup x = some .local := lookup_relabel_local hx
  have ly : (qc1 X scope cl C [x, y, u, v] fp s₀ H₀).env.scope.names.lookup y = some .local := lookup_relabel_local hy
  have lu : (qc1 X scope cl C [x, y, u, v] fp s₀ H₀).env.scope.names.lookup u = some .local := lookup_relabel_local hu
  have lv : (qc1 X scope cl C [x, y, u, v] fp s₀ H₀).env.scope.names.lookup v = some .local := lookup_relabel_local hv
  have nd : (qc1 X scope cl C [x, y, u, v] fp s₀ H₀).N.Nodup := by
    show ([x, y, u, v] ++ X.N).Nodup
    rw [List.nodup_append]
    refine ⟨hd, hN, fun a ha b hb e => ?_⟩
    subst e
    have hl : scope.names.lookup a = some .local := by
      have : a = x ∨ a = y ∨ a = u ∨ a = v := by simpa using ha
      rcases this with rfl | rfl | rfl | rfl <;> assumption
    exact s3 a hb hl
  exact qr7 (X := qc1 X scope cl C [x, y, u, v] fp s₀ H₀) hc (qc2 (qc0 (i := 0) nd rfl (.inl lx) (.inr lx)) (qc2 (qc0 (i := 1) nd rfl (.inl ly) (.inr ly)) (qc2 (qc0 (i := 2) nd rfl (.inl lu) (.inr lu)) (qc2 (qc0 (i := 3) nd rfl (.inl lv) (.inr lv)) ql6))))
theorem pe_comp4 {x y u v : Str} {p1 p2 p3 p4 tpos pos : Pos} {k : Nat} {elt iter : Expr} {scope : Scope} {wi : TI} {te : TE} (N : List Str) (sc : Scope) (hNe : X.N = N) (hsc : X.env.scope = sc) (hc : X.calm = true) (hN : X.N.Nodup) (hi : PI X (.Tuple [.Name x p1, .Name y p2, .Name u p3, .Name v p4] k tpos) iter wi)
    (he : ∀ cl C fp s₀ H₀, PE (qc1 X scope cl C [x, y, u, v] fp s₀ H₀) elt te) (hd : [x, y, u, v].Nodup := by decide)
    (hkind : scope.kind = .function := by rfl) (hcell : scope.names.all (fun y => y.2 != .cell) = true := by decide +kernel) (hnames : scope.names.all (fun y => y.2 != .local || scope.names.lookup y.1 == some .local) = true := by decide +kernel)
    (hx : scope.names.lookup x = some .local := by rfl) (hy : scope.names.lookup y = some .local := by rfl) (hu : scope.names.lookup u = some .local := by rfl) (hv : scope.names.lookup v = some .local := by rfl) (hloc : N.all (fun y => scope.names.lookup y != some .local) = true := by decide +kernel)
    (hfr : scope.names.all (fun p => p.2 != .free || (sc.names.lookup p.1 == some .cell || sc.names.lookup p.1 == some .free)) = true := by decide +kernel)
    (hs : ∀ x, foldedSetIterable iter X.env x = pure x := by intro _; rfl) : PE X (.ListComp elt [⟨.Tuple [.Name x p1, .Name y p2, .Name u p3, .Name v p4] k tpos, iter, [], 0⟩] scope pos) (qy1 4 wi (gTup X.K 4 (qg5 (qe7 0) (qg5 (qe7 1) (qg5 (qe7 2) (qg5 (qe7 3) gNil))))) ttYes te) := by
  obtain ⟨s1, s2, s3, s4⟩ := qp4 hNe hsc hcell hnames hloc hfr
  exact qz5 (nn := [x, y, u, v]) (fun _ => pure true) hc hi (fun it acc env => qI9 elt _ iter scope pos it acc env) (fun cl C fp s₀ H₀ => gfour hc hN hd s3 hx hy hu hv) (fun y os σ H R ho h => loc4 ho h) (fun cl C fp s₀ H₀ pins s σ H Q I h => wpAny_pure ⟨H, I, h⟩) he hkind s1 s2 s3 s4 hs
end
theorem qG7 {K : PySem.W.Frag} {H : Hp} {a : Addr} {us : List V} {te : TE} {σ : St} {Fin : Hp -> Prop} {D : Addr} (Iv : Nat -> List V -> Hp -> Prop) (hsz : us.length < sizeLine) (i0 : Iv 0 [] (upd H D (.lst [])))
    (hD : ∀ i xs H2, Iv i xs H2 -> H2 D = some (.lst xs) ∧ xs.length ≤ i ∧ SqT K H2 a us)
    (step : ∀ i xs x H2, us[i]? = some x -> Iv i xs H2 -> ∀ Q2 : VK, (∀ v H3, H3 D = some (.lst xs) -> Iv (i + 1) (xs ++ [v]) (upd H3 D (.lst (xs ++ [v]))) -> Q2 v H3) -> te (some x :: σ) H2 Q2)
    (fin : ∀ xs H2, Iv us.length xs H2 -> Fin H2) :
    ∃ W : Nat -> Nat -> List V -> Hp -> Prop, (∃ m, W 0 m [] (upd H D (.lst []))) ∧
      ∀ i m xs H2, W i m xs H2 -> H2 D = some (.lst xs) ∧ xs.length < sizeLine ∧ (((Itt K a).stop i H2 ∧ Fin H2) ∨ ((Itt K a).go i H2 ∧ ∀ y H3, (Itt K a).yld i H2 y H3 ->
        te (some y :: σ) H3 fun v H4 => H4 D = some (.lst xs) ∧ ∃ m', m' < m ∧ W (i + 1) m' (xs ++ [v]) (upd H4 D (.lst (xs ++ [v]))))) := by
  refine ⟨fun i m xs H2 => i ≤ us.length ∧ m = us.length - i ∧ Iv i xs H2, ⟨us.length, Nat.zero_le _, rfl, i0⟩, ?_⟩
  rintro i m xs H2 ⟨hi, rfl, iv⟩
  obtain ⟨h1, h2, h3⟩ := hD i xs H2 iv
  refine ⟨h1, by lia, ?_⟩
  by_cases he : i = us.length
  . subst he
    exact .inl ⟨⟨us, h3, Nat.le_refl _⟩, fin xs H2 iv⟩
  . have hlt : i < us.length := by lia
    refine .inr ⟨⟨us, us[i], h3, List.getElem?_eq_getElem hlt⟩, fun y H3 hy => ?_⟩
    obtain ⟨e1, e2⟩ := hy
    subst e1
    have := e2 us h3
    exact step i xs y H3 this iv _ fun v H6 h1 h2 => ⟨h1, us.length - (i + 1), by lia, by lia, rfl, h2⟩
end L2
set_option Elab.async false
set_option linter.all false
set_option maxRecDepth 100000
set_option maxHeartbeats 4000000
namespace L2
open PySem
section
variable {X : Cx}
theorem mt_countT : MtR X "tuple.count" (fun x vs H Q => ∃ (l : Addr) (is : List Int) (j : Int), x = .ref l ∧ vs = [.int j] ∧ H l = some (.tup (is.map V.int)) ∧ Q (.int (is.countP (· == j) : Nat)) H) := by
  intro pins s σ H x xs v us Q I rx rv h
  obtain ⟨l, is, j, rfl, rfl, hl, q⟩ := h
  cases rx
  obtain ⟨u, rfl, tj, ru⟩ := rv.one
  subst ru
  obtain ⟨z, its, r2, o, ho, hc, ⟨n, hdn⟩, hd⟩ := I.hok l _ hl
  have eo : o = { cls := .type "tuple", dict := o.dict, data := .seq its.toArray n, slots := o.slots } := by
    cases o
    simp only at hc hd
    subst hc hd
    rfl
  rw [eo] at ho
  have item : ∀ (m : Nat) (y : Value), its[m]? = some y -> ∃ t, y = .int (is.getD m 0) t ∧ m < is.length := fun m y hy => by
    have hlen : is.length = its.length := by have := r2.length; simpa using this
    have hm : m < is.length := by rw [hlen]; exact (List.getElem?_eq_some_iff.mp hy).1
    obtain ⟨w', e1, t, e2⟩ := r2.get (i := m) (x := V.int (is[m])) (by simp [hm])
    rw [hy] at e1; cases e1
    exact ⟨t, by rw [e2]; simp [List.getD, hm], hm⟩
  have ecount : ∀ (is : List Int) (its : List Value), Vals (is.map V.int) its -> its.countP (fun y => match y with | .int a _ => a == j | _ => false) = is.countP (· == j) := by
    intro is
    induction is with
    | nil => intro its r; cases r; rfl
    | cons a is ih =>
      intro its r
      cases r with
      | cons ra rr =>
        obtain ⟨t, rfl⟩ := ra
        rw [List.countP_cons, List.countP_cons, ih _ rr]
  refine call_meets F.slot_tuple_count ⟨_, ho, rfl⟩ F.entry_tuple_count (F.args_tuple_count_2 _ _) (SeqAt.tuple_countAt l its.toArray n o.dict o.slots (.int j tj) (fun y => match y with | .int a _ => a == j | _ => false)) ⟨ho, fun y hy => ?_, ?_⟩
  . obtain ⟨m, hm, e⟩ := List.mem_iff_getElem.mp (show y ∈ its by simpa using hy)
    obtain ⟨t, e2, _⟩ := item m y (by rw [List.getElem?_eq_getElem hm, e])
    subst e2
    exact SeqAt.EqAt.int_int _ _ _ _
  . refine ⟨.int (is.countP (· == j) : Nat), H, I.tok _, ⟨s.toks, ?_⟩, q⟩
    rw [← ecount is its r2]
def tCnt (r : V -> List V -> Hp -> VK -> Prop) (to : TE) (t : TA) : TE := fun σ H Q => to σ H fun x H1 => (∃ l xs, x = .ref l ∧ H1 l = some (.tup xs)) ∧ t σ H1 fun xs H2 => r x xs H2 Q
variable {o e : Expr} {es : List Expr} {to : TE} {t : TA} {name : Str} {apos cpos : Pos} {id : String} {r : V -> List V -> Hp -> VK -> Prop}
theorem pe_tm (slot : Slot "tuple" name id) (hty : typeOf (.builtin id) = pure (.type "method_descriptor")) (hm : MtR X id r) (ho : PE X o to) (ha : PA X (e :: es) t)
    (hbase : attributeBase o name X.env (eval o X.env) = eval o X.env := by rfl)
    (hfew : ((backTo cpos (starEach (e :: es) X.env)).all (fun x => !x.1) && (backToKw cpos (keywordEach [] X.env)).all (fun x => x.1.isSome)
      && decide ((e :: es).length + ([] : List Keyword).length + (if ([] : List Keyword).isEmpty then 0 else 1) < 30)) = true := by rfl)
    (hline : (apos.endLine == cpos.line) = true := by rfl) (hs : starEach (e :: es) X.env = (false, eval e X.env) :: starEach es X.env := by rfl) (hplain : (backTo cpos (starEach es X.env)).any (·.1) = false := by rfl) :
    PE X (.Call (.Attribute o name apos) (e :: es) [] cpos) (tCnt r to t) := by
  intro pins s σ H Q I h
  refine wpAny_Call_method_late hbase hfew hline rfl (thn (ho pins s σ H _ I h) fun v s1 ⟨x, H1, I1, r1, ⟨l, xs, ex, hx⟩, q1⟩ => ?_)
  subst ex
  obtain ⟨_, _, _, ob, hob, hcl, ⟨_, hdn⟩, _⟩ := I1.hok l _ hx
  have ev : v = .ref l := r1
  refine ⟨"tuple", id, PySem.F.plainAttrs_tuple, slot, hty, ?_, ?_, ?_⟩
  . rw [ev]; exact ⟨ob, hob, hcl⟩
  . intro a ea
    rw [ev] at ea
    cases ea
    exact ⟨ob, hob, hdn⟩
  have hA := ha cpos pins s1 σ H1 _ I1 q1
  rw [hs] at hA ⊢
  refine Calls.callWith_builtin (by show (false || (backTo cpos (starEach es X.env)).any (·.1)) = false; rw [hplain] <;> rfl) (Calls.evalArgs_plain ?_)
  exact thn hA fun us s2 ⟨vs, H2, I2, r2, q2⟩ => hm pins s2 σ H2 _ vs v us Q I2 r1 r2 q2
end
end L2
set_option Elab.async false
set_option linter.all false
set_option maxRecDepth 100000
set_option maxHeartbeats 4000000
namespace L2
open PySem PySem.Spec PyProof.Rows PySem.W
def ItkT (d : Addr) (kvs : List (List Key × V)) (o : Obj) : It :=
  ⟨fun i H => H d = some (.frz o (.dT kvs)) ∧ i < kvs.length, fun i H x H' => H' = H ∧ ∃ b kv, kvs[i]? = some kv ∧ x = .ref b ∧ H b = some (.tup (kv.1.map kV)), fun i H => H d = some (.frz o (.dT kvs)) ∧ i = kvs.length⟩
theorem paired_to {α β : Type} {R S : α -> β -> Prop} (h : ∀ a b, R a b -> S a b) : ∀ {l : List α} {m : List β}, Paired R l m -> Paired S l m := by
  intro l m pr
  induction pr with
  | nil => exact .nil
  | cons a1 a2 ih => exact .cons (h _ _ a1) ih
theorem pair_at {H : Hp} : ∀ {l : List (List Key × V)} {m : List (List Key × Addr × Value)}, Paired (fun (p : List Key × V) (q : List Key × Addr × Value) => p.1 = q.1 ∧ H q.2.1 = some (.tup (p.1.map kV)) ∧ RelV p.2 q.2.2) l m -> ∀ (i : Nat) p y, l[i]? = some p -> m[i]? = some y -> H y.2.1 = some (.tup (p.1.map kV)) := by
  intro l m pr
  induction pr with
  | nil => intro i p y h1; simp at h1
  | cons a1 a2 ih =>
    intro i p y h1 h2
    cases i with
    | zero => simp at h1 h2; subst h1; subst h2; exact a1.2.1
    | succ i => exact ih i p y (by simpa using h1) (by simpa using h2)
theorem frzT_at {P : Program} {w : World} {H : Hp} {h : Heap} {d : Addr} {kvs : List (List Key × V)} {o : Obj} {es : Array DictEntry} {ep : Nat} (ok : HOk P w H h) (e : H d = some (.frz o (.dT kvs))) (hdat : o.data = .dict es ep) :
    Bare h d es ep ∧ es.size = kvs.length ∧ ∀ (i : Nat) kv, kvs[i]? = some kv -> ∃ (b : Addr) (en : DictEntry), es[i]? = some en ∧ en.key = .ref b ∧ H b = some (.tup (kv.1.map kV)) := by
  obtain ⟨ho, z, lo, ys, rel, o2, es2, ep2, ho2, hc, hd2, ent, uni⟩ := ok d _ e
  rw [ho] at ho2
  cases ho2
  rw [hdat] at hd2
  cases hd2
  have hl : kvs.length = ys.length := Paired.length rel
  have ht : es.size = ys.length := size_of_entries ent
  refine ⟨⟨o, ho, hc, hdat⟩, by lia, fun i kv hk => ?_⟩
  have hi : i < ys.length := by rw [← hl]; exact (List.getElem?_eq_some_iff.mp hk).1
  have hy : ys[i]? = some (ys[i]'hi) := List.getElem?_eq_getElem hi
  have he := entry_at ent i
  rw [hy] at he
  exact ⟨_, _, he, rfl, pair_at rel i kv _ hk hy⟩
theorem qR1 {P : Program} {w : World} {K : PySem.W.Frag} {tg : Expr} {d it : Addr} {kvs : List (List Key × V)} {o : Obj} {es : Array DictEntry} {ep : Nat} (hdat : o.data = .dict es ep) (hs : es.size = kvs.length) :
    Turn P w K tg (ItkT d kvs o) [it] it (fun i h => h.IsKeyIter it d i es.size ep) where
  mem := by simp
  obj := fun i h st b hb => by
    have e : b = it := by simpa using hb
    subst e
    obtain ⟨q, e, c, f⟩ := st
    exact ⟨q, e, fun v z => by rw [f] at z; cases z⟩
  keep := fun i h h' st k => st.at fun o e => k it (by simp) o e
  item := by
    intro X hP hw hK hc i pins s σ H E I hf st hg
    subst hP hw hK
    obtain ⟨hd, hi⟩ := hg
    obtain ⟨bare, _, ats⟩ := frzT_at I.hok hd hdat
    obtain ⟨f0, f1, f2, f3, f4, f5⟩ := hf it (by simp)
    have hi2 : i < es.size := by lia
    have hk : kvs[i]? = some (kvs[i]'hi) := List.getElem?_eq_getElem hi
    obtain ⟨b, en, e1, e2, e3⟩ := ats i _ hk
    have e4 : es[i] = en := by
      rw [Array.getElem?_eq_getElem hi2] at e1
      exact Option.some.inj e1
    refine qF1 st bare hi2 fun h' st' sb => ?_
    have I1 : Inv X pins σ H { s with heap := h' } := I.turned (t' := s.toks) (fun b q hb e => (sb.2 b hb).trans e) f0 f1 f3 f4 f5
    obtain ⟨q, e, c, f⟩ := id st'
    refine ⟨es[i].key, rfl, go_of (s := { s with heap := h' }) e c f (by decide) ⟨.ref b, H, I1, ?_, ⟨rfl, b, kvs[i]'hi, hk, rfl, e3⟩, st', fun b hb => (hf b hb).1⟩⟩
    rw [e4, e2]
    rfl
  done := by
    intro X hP hw hK hc i pins s σ H E I hf st hg
    subst hP hw hK
    obtain ⟨hd, hi⟩ := hg
    obtain ⟨bare, _, ats⟩ := frzT_at I.hok hd hdat
    obtain ⟨f0, f1, f2, f3, f4, f5⟩ := hf it (by simp)
    have e : i = es.size := by lia
    subst e
    exact qM4 (I.ok.hd hc) st bare fun h' eb => ⟨rfl, I.turned (t' := s.toks) (fun b q hb e => eb b q hb e) f0 f1 f3 f4 f5⟩
  self := fun _ _ _ _ _ st h => wpAny_pyIter_keyiter st h
section
variable {X : Cx}
def iKeysT (tl : TE) : TI := fun σ H R => tl σ H fun x H1 => ∃ (d : Addr) (kvs : List (List Key × V)), x = .ref d ∧ H1 d = some (.dT kvs) ∧ ∀ o, R (ItkT d kvs o) (upd H1 d (.frz o (.dT kvs)))
theorem pi_keysT {tg l : Expr} {tl : TE} (hl : PE X l tl) : PI X tg l (iKeysT tl) := by
  intro pins s σ H R I h
  refine thn (hl pins s σ H _ I h) fun v s1 ⟨x, H1, I1, r1, d, kvs, ex, hd, q⟩ => ?_
  subst ex
  cases r1
  obtain ⟨z, lo, ys, rel, o, es, ep, ho, hx, hdat, ent, uni⟩ := (show ObjOk X.prog X.w H1 s1.heap d (.dT kvs) from I1.hok d _ hd)
  have keepT : ∀ {b : Addr} {u : List V}, H1 b = some (.tup u) -> upd H1 d (.frz o (.dT kvs)) b = some (.tup u) := fun {b u} e => by
    have : b ≠ d := fun z => by rw [z, hd] at e; cases e
    rw [qa6 this]; exact e
  have rel2 : Paired (fun (p : List Key × V) (q : List Key × Addr × Value) => p.1 = q.1 ∧ upd H1 d (.frz o (.dT kvs)) q.2.1 = some (.tup (p.1.map kV)) ∧ RelV p.2 q.2.2) kvs ys := paired_to (fun a b h => ⟨h.1, keepT h.2.1, h.2.2⟩) rel
  have I2 : Inv X pins σ (upd H1 d (.frz o (.dT kvs))) { s1 with heap := s1.heap, toks := s1.toks } :=
    I1.write (x := d) (e := d) (by rw [hd]; exact True.intro) (.inl rfl) (fun b u hb e => e) ⟨o, ho⟩ ⟨ho, z, lo, ys, rel2, o, es, ep, ho, hx, hdat, ent, uni⟩
  have hl : kvs.length = ys.length := Paired.length rel
  have ht : es.size = ys.length := size_of_entries ent
  refine qF0 (tab := es) (ep := ep) lo ⟨o, ho, hx, hdat⟩ ?_
  refine ⟨s1.heap.objs.size, [s1.heap.objs.size], _, _, _, rfl, I2.kept (t' := s1.toks) fun b q e => Heap.get?_push_of_some _ e, qR1 (o := o) (ep := ep) hdat (by lia), ⟨_, Heap.get?_push_size _ rfl, rfl, rfl⟩, fun b hb => ?_, q o⟩
  have e : b = s1.heap.objs.size := by simpa using hb
  subst e
  exact I2.fpOk (Nat.le_refl _) (I2.hok.fresh (Nat.le_refl _))
theorem qR2 {H : Hp} {d : Addr} {kvs : List (List Key × V)} {o : Obj} (hd : H d = some (.frz o (.dT kvs))) : Goes (ItkT d kvs o) H kvs.length (fun i y H2 => ∃ b kv, kvs[i]? = some kv ∧ y = .ref b ∧ H2 b = some (.tup (kv.1.map kV))) where
  go := fun i H2 hi s => ⟨s _ _ hd, hi⟩
  yl := fun i H2 y H3 hi s h => by
    obtain ⟨e, h⟩ := h
    subst e
    exact ⟨Same.refl _, h⟩
  st := fun H2 s => ⟨s _ _ hd, rfl⟩
end
end L2
set_option Elab.async false
set_option linter.all false
set_option maxRecDepth 100000
set_option maxHeartbeats 4000000
namespace L2
open PySem
theorem qw6 {J : It} {H : Hp} {n k : Nat} {item : Nat -> V -> Hp -> Prop} {g : TG} {tt : TT} {te : TE} {σ : St} {Fin : Hp -> Prop} {D : Addr} (hD : H D = none) (yes : Nat -> Bool) (Rel : Nat -> V -> Hp -> Prop) (G : Goes J H n item) (hsz : n < sizeLine)
    (mono : ∀ i y H1 H2, Tups H1 H2 -> Rel i y H1 -> Rel i y H2)
    (step : ∀ i x H2, i < n -> item i x H2 -> Same H H2 -> ∀ os : St, os.length = k -> ∀ (Q1 : Hp -> Prop) (Q2 : VK), (yes i = false -> ∀ H3, Same H2 H3 -> Q1 H3) -> (yes i = true -> ∀ v H3, Same H2 H3 -> Rel i v H3 -> Q2 v H3) ->
      g x (os ++ σ) H2 fun σ4 H4 => tt σ4 H4 fun b H5 => if b = true then te σ4 H5 Q2 else Q1 H5)
    (fin : ∀ ys H2, Same H H2 -> H2 D = some (.lst ys) -> ys.length = ((List.range n).filter yes).length -> (∀ (m : Nat) y j, ys[m]? = some y -> ((List.range n).filter yes)[m]? = some j -> Rel j y H2) -> Fin H2) :
    ∃ W : Nat -> Nat -> List V -> Hp -> Prop, (∃ m, W 0 m [] (upd H D (.lst []))) ∧
      ∀ i m xs H2, W i m xs H2 -> H2 D = some (.lst xs) ∧ xs.length < sizeLine ∧ ((J.stop i H2 ∧ Fin H2) ∨ (J.go i H2 ∧ ∀ y H3, J.yld i H2 y H3 -> ∀ os : St, os.length = k ->
        g y (os ++ σ) H3 fun σ4 H4 => tt σ4 H4 fun b H5 => if b = true then te σ4 H5 fun v H6 => H6 D = some (.lst xs) ∧ ∃ m', m' < m ∧ W (i + 1) m' (xs ++ [v]) (upd H6 D (.lst (xs ++ [v]))) else ∃ m', m' < m ∧ W (i + 1) m' xs H5)) := by
  refine ⟨fun i m ys H2 => i ≤ n ∧ m = n - i ∧ ys.length = ((List.range i).filter yes).length ∧ H2 D = some (.lst ys) ∧ Same H H2 ∧ ∀ (m : Nat) y j, ys[m]? = some y -> ((List.range i).filter yes)[m]? = some j -> Rel j y H2, ⟨n, Nat.zero_le _, rfl, rfl, qa1, qb7 hD, fun m y j h => by simp at h⟩, ?_⟩
  rintro i m ys H2 ⟨hi, rfl, hl, hd, s2, rel⟩
  have hlen : ys.length ≤ i := by
    rw [hl]
    exact Nat.le_trans (List.length_filter_le _ _) (by simp)
  refine ⟨hd, by lia, ?_⟩
  by_cases he : i = n
  . subst he
    exact .inl ⟨G.st H2 s2, fin ys H2 s2 hd hl rel⟩
  . refine .inr ⟨G.go i H2 (by lia) s2, fun y H3 hy os ho => ?_⟩
    obtain ⟨s3, it⟩ := G.yl i H2 y H3 (by lia) s2 hy
    refine step i y H3 (by lia) it (s2.trans s3) os ho _ _ (fun hno H4 s4 => ?_) (fun hyes v H4 s4 r4 => ?_)
    . have ef : (List.range (i + 1)).filter yes = (List.range i).filter yes := by
        rw [List.range_succ, List.filter_append]
        simp [hno]
      refine ⟨n - (i + 1), by lia, by lia, rfl, by rw [ef]; exact hl, s4 _ _ (s3 _ _ hd), (s2.trans s3).trans s4, fun m y j h1 h2 => ?_⟩
      rw [ef] at h2
      exact mono j y H2 H4 (s3.trans s4).tups (rel m y j h1 h2)
    . have hd4 := s4 _ _ (s3 _ _ hd)
      have ef : (List.range (i + 1)).filter yes = (List.range i).filter yes ++ [i] := by
        rw [List.range_succ, List.filter_append]
        simp [hyes]
      have tk : Tups H4 (upd H4 D (.lst (ys ++ [v]))) := fun b u e => by
        have : b ≠ D := fun z => by subst z; rw [hd4] at e; cases e
        rw [qa6 this]; exact e
      refine ⟨hd4, n - (i + 1), by lia, by lia, rfl, by rw [ef, List.length_append, List.length_append, hl]; rfl, qa1, fun b o e => ?_, fun m z j h1 h2 => ?_⟩
      . rw [qa6 (qa2 e hD)]
        exact s4 _ _ (s3 _ _ (s2 _ _ e))
      . rw [ef] at h2
        by_cases hm : m < ys.length
        . rw [List.getElem?_append_left hm] at h1
          rw [List.getElem?_append_left (by lia)] at h2
          exact mono j z H4 _ tk (mono j z H2 H4 (s3.trans s4).tups (rel m z j h1 h2))
        . have hm2 : m = ys.length := by
            have := (List.getElem?_eq_some_iff.mp h1).1
            simp at this
            lia
          rw [List.getElem?_append_right (by lia), hm2] at h1
          rw [List.getElem?_append_right (by lia), hm2, hl] at h2
          have e1 : z = v := by simpa using h1.symm
          have e2 : j = i := by simpa using h2.symm
          rw [e1, e2]
          exact mono i v H4 _ tk r4
end L2
set_option Elab.async false
set_option linter.all false
set_option maxRecDepth 100000
set_option maxHeartbeats 4000000
namespace Qf
open Tr
theorem mkT_mk (a b c d : Tr) : mkT a b c d = mk a b c d := rfl
def ful : Tr -> Nat
  | .o => 1
  | _ => 0
def qa5 (k : Nat) : Nat -> Tr -> Tr
  | 0, t => t
  | 1, .nd a b c d => if k ≤ ful a + ful b + ful c + ful d then .o else .z
  | s + 2, .nd a b c d => mk (qa5 k (s + 1) a) (qa5 k (s + 1) b) (qa5 k (s + 1) c) (qa5 k (s + 1) d)
  | _ + 1, .z => .z
  | _ + 1, .o => .o
theorem ql0 (k s : Nat) : qa5 k s .z = .z := by
  match s with
  | 0 => rfl
  | 1 => rfl
  | s + 2 => rfl
theorem qj6 (k s : Nat) : qa5 k s .o = .o := by
  match s with
  | 0 => rfl
  | 1 => rfl
  | s + 2 => rfl
theorem qo5 (k s : Nat) (a b c d : Tr) : qa5 k (s + 2) (.nd a b c d) = mk (qa5 k (s + 1) a) (qa5 k (s + 1) b) (qa5 k (s + 1) c) (qa5 k (s + 1) d) := rfl
theorem qn2 (k : Nat) (a b c d : Tr) : qa5 k 1 (.nd a b c d) = if k ≤ ful a + ful b + ful c + ful d then .o else .z := rfl
theorem mk_o : mk .o .o .o .o = .o := rfl
theorem qq5 (a b c d : Tr) : (a = z ∧ b = z ∧ c = z ∧ d = z) ∧ mk a b c d = z ∨ (a = o ∧ b = o ∧ c = o ∧ d = o) ∧ mk a b c d = o ∨ mk a b c d = .nd a b c d := by
  unfold mk
  split
  . exact .inl ⟨by assumption, rfl⟩
  . split
    . exact .inr (.inl ⟨by assumption, rfl⟩)
    . exact .inr (.inr rfl)
theorem less_mk (k s : Nat) (a b c d : Tr) : qa5 k (s + 2) (mk a b c d) = mk (qa5 k (s + 1) a) (qa5 k (s + 1) b) (qa5 k (s + 1) c) (qa5 k (s + 1) d) := by
  rcases qq5 a b c d with ⟨⟨rfl, rfl, rfl, rfl⟩, e⟩ | ⟨⟨rfl, rfl, rfl, rfl⟩, e⟩ | e
  . rw [e, ql0, ql0]; rfl
  . rw [e, qj6, qj6]; rfl
  . rw [e, qo5]
theorem qg3 (k : Nat) : ∀ (s : Nat) (t : Tr), Red (qa5 k (s + 1) t)
  | s, .z => by rw [ql0]; trivial
  | s, .o => by rw [qj6]; trivial
  | 0, .nd a b c d => by rw [qn2]; split <;> trivial
  | s + 1, .nd a b c d => by rw [qo5]; exact mk_red (qg3 k s _) (qg3 k s _) (qg3 k s _) (qg3 k s _)
theorem dep_kid {a b c d : Tr} {s : Nat} (h : dep (.nd a b c d) ≤ s + 1) : dep a ≤ s ∧ dep b ≤ s ∧ dep c ≤ s ∧ dep d ≤ s := by
  have h' : 1 + mx [dep a, dep b, dep c, dep d] ≤ s + 1 := h
  have hm : ∀ x ∈ [dep a, dep b, dep c, dep d], x ≤ mx [dep a, dep b, dep c, dep d] := fun x hx => qP7 hx
  have h1 := hm (dep a) (by simp)
  have h2 := hm (dep b) (by simp)
  have h3 := hm (dep c) (by simp)
  have h4 := hm (dep d) (by simp)
  lia
theorem qn3 (k : Nat) : ∀ (s : Nat) (t : Tr), dep t ≤ s + 1 -> dep (qa5 k (s + 1) t) ≤ s
  | s, .z, _ => by rw [ql0]; exact Nat.zero_le _
  | s, .o, _ => by rw [qj6]; exact Nat.zero_le _
  | 0, .nd a b c d, _ => by rw [qn2]; split <;> exact Nat.zero_le _
  | s + 1, .nd a b c d, h => by
    rw [qo5]
    obtain ⟨h1, h2, h3, h4⟩ := dep_kid h
    exact mk_dep (qn3 k s _ h1) (qn3 k s _ h2) (qn3 k s _ h3) (qn3 k s _ h4)
theorem qh0 (k : Nat) : ∀ (s : Nat) (t : Tr), nds (qa5 k (s + 1) t) ≤ nds t
  | s, .z => by rw [ql0]; exact Nat.le_refl _
  | s, .o => by rw [qj6]; exact Nat.le_refl _
  | 0, .nd a b c d => by rw [qn2]; split <;> exact Nat.zero_le _
  | s + 1, .nd a b c d => by
    rw [qo5]
    have := mk_nds (qa5 k (s + 1) a) (qa5 k (s + 1) b) (qa5 k (s + 1) c) (qa5 k (s + 1) d)
    have h1 := qh0 k s a
    have h2 := qh0 k s b
    have h3 := qh0 k s c
    have h4 := qh0 k s d
    show _ ≤ 1 + nds a + nds b + nds c + nds d
    lia
theorem qm6 (k : Nat) : ∀ (s : Nat) (t : Tr), Red t -> dep t ≤ s -> qa5 k (s + 1) t = t
  | s, .z, _, _ => ql0 _ _
  | s, .o, _, _ => qj6 _ _
  | 0, .nd a b c d, _, h => absurd h (by show ¬ (1 + mx [dep a, dep b, dep c, dep d] ≤ 0); lia)
  | s + 1, .nd a b c d, hr, h => by
    obtain ⟨h1, h2, h3, h4⟩ := dep_kid h
    obtain ⟨n1, n2, ra, rb, rc, rd⟩ := hr
    rw [qo5, qm6 k s a ra h1, qm6 k s b rb h2, qm6 k s c rc h3, qm6 k s d rd h4]
    unfold mk
    rw [if_neg n1, if_neg n2]
def dblB (b : Row) : Row := [2 * b.getD 0 0, 2 * b.getD 1 0, 2 * b.getD 2 0, 2 * b.getD 3 0]
def hlfB (b : Row) : Row := [b.getD 0 0 / 2, b.getD 1 0 / 2, (b.getD 0 0 + b.getD 2 0 - 1) / 2 - b.getD 0 0 / 2 + 1, (b.getD 1 0 + b.getD 3 0 - 1) / 2 - b.getD 1 0 / 2 + 1]
theorem qt0 {g : Row -> Row} {boxes : List Row} {x y s x' y' s' : Nat} (h : ∀ b ∈ boxes, qd1 x' y' s' (g b) = qd1 x y s b) : met (boxes.map g) x' y' s' = (met boxes x y s).map g := by
  unfold met
  induction boxes with
  | nil => rfl
  | cons b bs ih =>
    have e := h b (by simp)
    rw [List.map_cons, List.filter_cons, List.filter_cons, e]
    have := ih fun b hb => h b (by simp [hb])
    split
    . rw [List.map_cons, this]
    . exact this
theorem qN6 {g : Row -> Row} {m : List Row} {x y s x' y' s' : Nat} (h : ∀ b ∈ m, hasB x' y' s' (g b) = hasB x y s b) : (m.map g).any (hasB x' y' s') = m.any (hasB x y s) := by
  induction m with
  | nil => rfl
  | cons b bs ih =>
    rw [List.map_cons, List.any_cons, List.any_cons, h b (by simp), ih fun b hb => h b (by simp [hb])]
theorem qG8 (r c s : Nat) (b : Row) : qd1 (2 * r) (2 * c) (2 * s) (dblB b) = qd1 r c s b := by
  unfold qd1 dblB
  simp only [List.getD_cons_zero, List.getD_cons_succ]
  rw [decide_eq_decide]
  lia
theorem dbl_has (r c s : Nat) (b : Row) : hasB (2 * r) (2 * c) (2 * s) (dblB b) = hasB r c s b := by
  unfold hasB dblB
  simp only [List.getD_cons_zero, List.getD_cons_succ]
  rw [decide_eq_decide]
  lia
theorem cell_has {r c : Nat} {b : Row} (h : qd1 r c 1 b = true) : hasB r c 1 b = true := by
  unfold qd1 at h
  unfold hasB
  have := of_decide_eq_true h
  exact decide_eq_true (by lia)
theorem qt1 {boxes : List Row} {r c : Nat} (h : ¬ met boxes r c 1 = []) : (met boxes r c 1).any (hasB r c 1) = true := by
  cases e : met boxes r c 1 with
  | nil => exact absurd e h
  | cons b bs =>
    have hb : b ∈ met boxes r c 1 := by rw [e]; simp
    rw [List.any_cons, cell_has (List.mem_filter.mp hb).2, Bool.true_or]
theorem qB3 (boxes : List Row) (r c : Nat) : bt 0 boxes r c = if met boxes r c 1 = [] then z else if (met boxes r c 1).any (hasB r c 1) then o else z := rfl
theorem qo6 (k : Nat) (boxes : List Row) (r c : Nat) : bt (k + 1) boxes r c = if met boxes r c (2 ^ (k + 1)) = [] then z else if (met boxes r c (2 ^ (k + 1))).any (hasB r c (2 ^ (k + 1))) then o else
      mk (bt k (met boxes r c (2 ^ (k + 1))) r c) (bt k (met boxes r c (2 ^ (k + 1))) r (c + 2 ^ k)) (bt k (met boxes r c (2 ^ (k + 1))) (r + 2 ^ k) c) (bt k (met boxes r c (2 ^ (k + 1))) (r + 2 ^ k) (c + 2 ^ k)) := rfl
theorem qG9 : ∀ (k : Nat) (boxes : List Row) (r c : Nat), bt (k + 1) (boxes.map dblB) (2 * r) (2 * c) = bt k boxes r c
  | 0, boxes, r, c => by
    have em : met (boxes.map dblB) (2 * r) (2 * c) 2 = (met boxes r c 1).map dblB := qt0 fun b _ => qG8 r c 1 b
    have ea : ((met boxes r c 1).map dblB).any (hasB (2 * r) (2 * c) 2) = (met boxes r c 1).any (hasB r c 1) := qN6 fun b _ => dbl_has r c 1 b
    rw [qo6, qB3 boxes, show 2 ^ (0 + 1) = 2 from rfl, em, ea]
    by_cases h : met boxes r c 1 = []
    . rw [if_pos h, if_pos (by rw [h]; rfl)]
    . rw [if_neg h, if_neg (show ¬ (met boxes r c 1).map dblB = [] by simpa using h), if_pos (qt1 h), if_pos (qt1 h)]
  | k + 1, boxes, r, c => by
    have e2 : 2 ^ (k + 1 + 1) = 2 * 2 ^ (k + 1) := by rw [Nat.pow_succ]; lia
    have e1 : 2 ^ (k + 1) = 2 * 2 ^ k := by rw [Nat.pow_succ]; lia
    have em : met (boxes.map dblB) (2 * r) (2 * c) (2 ^ (k + 1 + 1)) = (met boxes r c (2 ^ (k + 1))).map dblB := by rw [e2]; exact qt0 fun b _ => qG8 r c _ b
    have ea : ((met boxes r c (2 ^ (k + 1))).map dblB).any (hasB (2 * r) (2 * c) (2 ^ (k + 1 + 1))) = (met boxes r c (2 ^ (k + 1))).any (hasB r c (2 ^ (k + 1))) := by rw [e2]; exact qN6 fun b _ => dbl_has r c _ b
    rw [qo6 (k + 1) (boxes.map dblB), qo6 k boxes, em, ea]
    by_cases h : met boxes r c (2 ^ (k + 1)) = []
    . rw [if_pos h, if_pos (by rw [h]; rfl)]
    . rw [if_neg h, if_neg (by simpa using h)]
      have er : ∀ q : Nat, 2 * q + 2 ^ (k + 1) = 2 * (q + 2 ^ k) := fun q => by lia
      rw [er r, er c, qG9 k, qG9 k, qG9 k, qG9 k]
theorem qH0 (r c s : Nat) {b : Row} {n : Nat} (hb : ql3 n b) : qd1 r c s (hlfB b) = qd1 (2 * r) (2 * c) (2 * s) b := by
  obtain ⟨a, d, h, w, rfl, h1, h2, _⟩ := hb
  unfold qd1 hlfB
  simp only [List.getD_cons_zero, List.getD_cons_succ]
  rw [decide_eq_decide]
  lia
theorem hlf_has (r c s : Nat) {b : Row} {n : Nat} (hb : ql3 n b) (h : hasB (2 * r) (2 * c) (2 * s) b = true) (hs : 1 ≤ s) : hasB r c s (hlfB b) = true := by
  obtain ⟨a, d, h', w, rfl, h1, h2, _⟩ := hb
  unfold hasB hlfB at *
  simp only [List.getD_cons_zero, List.getD_cons_succ] at *
  have := of_decide_eq_true h
  exact decide_eq_true (by lia)
theorem has_meets {r c s : Nat} {b : Row} (h : hasB r c s b = true) (hs : 1 ≤ s) : qd1 r c s b = true := by
  unfold hasB at h
  unfold qd1
  have := of_decide_eq_true h
  exact decide_eq_true (by lia)
theorem qB4 {r c s r' c' s' : Nat} {b : Row} (h : hasB r c s b = true) (h1 : r ≤ r') (h2 : c ≤ c') (h3 : r' + s' ≤ r + s) (h4 : c' + s' ≤ c + s) : hasB r' c' s' b = true := by
  unfold hasB at *
  have := of_decide_eq_true h
  exact decide_eq_true (by lia)
theorem qH1 {k : Nat} {boxes : List Row} {r c : Nat} {b : Row} (hb : b ∈ boxes) (h : hasB r c (2 ^ k) b = true) : bt k boxes r c = o := by
  have hp : 1 ≤ 2 ^ k := Nat.one_le_two_pow
  have hm : b ∈ met boxes r c (2 ^ k) := List.mem_filter.mpr ⟨hb, has_meets h hp⟩
  have hne : ¬ met boxes r c (2 ^ k) = [] := fun z => by rw [z] at hm; cases hm
  have ha : (met boxes r c (2 ^ k)).any (hasB r c (2 ^ k)) = true := List.any_eq_true.mpr ⟨b, hm, h⟩
  match k, hne, ha with
  | 0, hne, ha =>
    have hne : ¬ met boxes r c 1 = [] := hne
    rw [qB3, if_neg hne, if_pos (qt1 hne)]
  | k + 1, hne, ha => rw [qo6, if_neg hne, if_pos ha]
theorem qk6 {boxes : List Row} {r c : Nat} {b : Row} (hb : b ∈ boxes) (h : qd1 r c 1 b = true) : bt 0 boxes r c = o := qH1 (k := 0) hb (cell_has h)
theorem qH2 {n : Nat} : ∀ (k : Nat) (boxes : List Row) (r c : Nat), (∀ b ∈ boxes, ql3 n b) -> qa5 1 (k + 1) (bt (k + 1) boxes (2 * r) (2 * c)) = bt k (boxes.map hlfB) r c
  | 0, boxes, r, c, hB => by
    have em : met (boxes.map hlfB) r c 1 = (met boxes (2 * r) (2 * c) 2).map hlfB := qt0 fun b hb => qH0 r c 1 (hB b hb)
    rw [qo6, show 2 ^ (0 + 1) = 2 from rfl, show 2 ^ 0 = 1 from rfl]
    by_cases h : met boxes (2 * r) (2 * c) 2 = []
    . rw [if_pos h, ql0, qB3, em, h]; rfl
    . rw [if_neg h]
      have h' : ¬ met (boxes.map hlfB) r c 1 = [] := by rw [em]; simpa using h
      have e0 : bt 0 (boxes.map hlfB) r c = o := by rw [qB3, if_neg h', if_pos (qt1 h')]
      rw [e0]
      split
      . exact qj6 _ _
      . obtain ⟨b, bs, eb⟩ := List.exists_cons_of_ne_nil h
        have hb : b ∈ met boxes (2 * r) (2 * c) 2 := by rw [eb]; simp
        have hm := (List.mem_filter.mp hb).2
        have hBb := hB b (List.mem_filter.mp hb).1
        have some4 : bt 0 (met boxes (2 * r) (2 * c) 2) (2 * r) (2 * c) = o ∨ bt 0 (met boxes (2 * r) (2 * c) 2) (2 * r) (2 * c + 1) = o ∨ bt 0 (met boxes (2 * r) (2 * c) 2) (2 * r + 1) (2 * c) = o ∨ bt 0 (met boxes (2 * r) (2 * c) 2) (2 * r + 1) (2 * c + 1) = o := by
          have hc : qd1 (2 * r) (2 * c) 1 b = true ∨ qd1 (2 * r) (2 * c + 1) 1 b = true ∨ qd1 (2 * r + 1) (2 * c) 1 b = true ∨ qd1 (2 * r + 1) (2 * c + 1) 1 b = true := by
            obtain ⟨a, d, h', w, rfl, h1, h2, _⟩ := hBb
            unfold qd1 at *
            simp only [List.getD_cons_zero, List.getD_cons_succ, decide_eq_true_eq] at *
            lia
          exact hc.imp (qk6 hb) fun h => h.imp (qk6 hb) fun h => h.imp (qk6 hb) (qk6 hb)
        generalize bt 0 (met boxes (2 * r) (2 * c) 2) (2 * r) (2 * c) = p0, bt 0 (met boxes (2 * r) (2 * c) 2) (2 * r) (2 * c + 1) = p1, bt 0 (met boxes (2 * r) (2 * c) 2) (2 * r + 1) (2 * c) = p2, bt 0 (met boxes (2 * r) (2 * c) 2) (2 * r + 1) (2 * c + 1) = p3 at some4 ⊢
        rcases qq5 p0 p1 p2 p3 with ⟨⟨rfl, rfl, rfl, rfl⟩, e⟩ | ⟨⟨rfl, rfl, rfl, rfl⟩, e⟩ | e
        . rcases some4 with h | h | h | h <;> cases h
        . rw [e, qj6]
        . rw [e, qn2, if_pos]
          rcases some4 with rfl | rfl | rfl | rfl
          . show 1 ≤ 1 + _ + _ + _; lia
          . show 1 ≤ _ + 1 + _ + _; lia
          . show 1 ≤ _ + _ + 1 + _; lia
          . show 1 ≤ _ + _ + _ + 1; lia
  | k + 1, boxes, r, c, hB => by
    have e2 : 2 ^ (k + 1 + 1) = 2 * 2 ^ (k + 1) := by rw [Nat.pow_succ]; lia
    have e1 : 2 ^ (k + 1) = 2 * 2 ^ k := by rw [Nat.pow_succ]; lia
    have hp : 1 ≤ 2 ^ (k + 1) := Nat.one_le_two_pow
    have em : met (boxes.map hlfB) r c (2 ^ (k + 1)) = (met boxes (2 * r) (2 * c) (2 ^ (k + 1 + 1))).map hlfB := by rw [e2]; exact qt0 fun b hb => qH0 r c _ (hB b hb)
    have hBm : ∀ b ∈ met boxes (2 * r) (2 * c) (2 ^ (k + 1 + 1)), ql3 n b := fun b hb => hB b (List.mem_filter.mp hb).1
    rw [qo6 (k + 1) boxes, qo6 k (boxes.map hlfB), em]
    generalize met boxes (2 * r) (2 * c) (2 ^ (k + 1 + 1)) = m at hBm
    by_cases h : m = []
    . rw [if_pos h, if_pos (by rw [h]; rfl), ql0]
    . rw [if_neg h, if_neg (show ¬ m.map hlfB = [] by simpa using h)]
      by_cases ha : m.any (hasB (2 * r) (2 * c) (2 ^ (k + 1 + 1))) = true
      . rw [if_pos ha, qj6, if_pos]
        obtain ⟨b, hb, hh⟩ := List.any_eq_true.mp ha
        rw [e2] at hh
        exact List.any_eq_true.mpr ⟨hlfB b, List.mem_map_of_mem hb, hlf_has r c _ (hBm b hb) hh hp⟩
      . rw [if_neg ha, less_mk]
        have er : ∀ q : Nat, 2 * q + 2 ^ (k + 1) = 2 * (q + 2 ^ k) := fun q => by lia
        rw [er r, er c, qH2 k m r c hBm, qH2 k m r _ hBm, qH2 k m _ c hBm, qH2 k m _ _ hBm]
        by_cases hq : (m.map hlfB).any (hasB r c (2 ^ (k + 1))) = true
        . rw [if_pos hq]
          obtain ⟨b, hb, hh⟩ := List.any_eq_true.mp hq
          rw [qH1 hb (qB4 hh (Nat.le_refl _) (Nat.le_refl _) (by lia) (by lia)), qH1 hb (qB4 hh (Nat.le_refl _) (by lia) (by lia) (by lia)), qH1 hb (qB4 hh (by lia) (Nat.le_refl _) (by lia) (by lia)), qH1 hb (qB4 hh (by lia) (by lia) (by lia) (by lia)), mk_o]
        . rw [if_neg hq]
theorem dbl_in {n : Nat} {b : Row} (h : ql3 n b) : ql3 (n + 1) (dblB b) := by
  obtain ⟨a, d, h', w, rfl, h1, h2, h3, h4⟩ := h
  refine ⟨2 * a, 2 * d, 2 * h', 2 * w, rfl, by lia, by lia, ?_, ?_⟩ <;> rw [Nat.pow_succ] <;> lia
theorem hlf_in {n : Nat} {b : Row} (h : ql3 (n + 1) b) : ql3 n (hlfB b) := by
  obtain ⟨a, d, h', w, rfl, h1, h2, h3, h4⟩ := h
  rw [Nat.pow_succ] at h3 h4
  refine ⟨a / 2, d / 2, (a + h' - 1) / 2 - a / 2 + 1, (d + w - 1) / 2 - d / 2 + 1, rfl, by lia, by lia, by lia, by lia⟩
end Qf
set_option Elab.async false
set_option linter.all false
set_option maxRecDepth 100000
set_option maxHeartbeats 4000000
namespace Qf
open Tr
theorem qk7 {rows : List Row} (ok : qc5 rows) {q : Nat} (hq : q < rows.length + 2) : (T rows q = z ↔ q = 0) ∧ (T rows q = o ↔ q = 1) := by
  by_cases q2 : q < 2
  . match q, q2 with
    | 0, _ => rw [qi0]; exact ⟨⟨fun _ => rfl, fun _ => rfl⟩, ⟨fun h => (nomatch h), fun h => (nomatch h)⟩⟩
    | 1, _ => rw [qo3]; exact ⟨⟨fun h => (nomatch h), fun h => (nomatch h)⟩, ⟨fun _ => rfl, fun _ => rfl⟩⟩
  . obtain ⟨p', a', b', c', d', rfl, hp'⟩ := qm3 ok hq q2
    rw [qm4 ok hp']
    exact ⟨⟨fun h => (nomatch h), fun h => by lia⟩, ⟨fun h => (nomatch h), fun h => by lia⟩⟩
theorem qH3 {rows : List Row} (ok : qc5 rows) {q : Nat} (hq : q < rows.length + 2) : ful (T rows q) = if q = 1 then 1 else 0 := by
  have h := qk7 ok hq
  by_cases e : q = 1
  . rw [if_pos e, h.2.mpr e]; rfl
  . rw [if_neg e]
    cases ht : T rows q with
    | z => rfl
    | o => exact absurd (h.2.mp ht) e
    | nd a b c d => rfl
theorem T_red {rows : List Row} (ok : qc5 rows) (np : ∀ r ∈ rows, ¬ qp9 r) : ∀ x, x < rows.length + 2 -> Red (T rows x) := by
  intro x
  induction x using Nat.strongRecOn with
  | ind x ih =>
    intro hx
    by_cases z : x < 2
    . match x, z with
      | 0, _ => rw [qi0]; trivial
      | 1, _ => rw [qo3]; trivial
    . obtain ⟨p, a, b, c, d, rfl, hp⟩ := qm3 ok hx z
      have hlt := (ok p _ hp).2
      have hpl := (List.getElem?_eq_some_iff.mp hp).1
      have la := hlt a (by simp)
      have lb := hlt b (by simp)
      have lc := hlt c (by simp)
      have ld := hlt d (by simp)
      rw [qm4 ok hp]
      have hnp := np _ (List.mem_of_getElem? hp)
      refine ⟨fun h => hnp (.inl ?_), fun h => hnp (.inr ?_), ih a (by lia) (by lia), ih b (by lia) (by lia), ih c (by lia) (by lia), ih d (by lia) (by lia)⟩
      . rw [(qk7 ok (by lia)).1.mp h.1, (qk7 ok (by lia)).1.mp h.2.1, (qk7 ok (by lia)).1.mp h.2.2.1, (qk7 ok (by lia)).1.mp h.2.2.2]
      . rw [(qk7 ok (by lia)).2.mp h.1, (qk7 ok (by lia)).2.mp h.2.1, (qk7 ok (by lia)).2.mp h.2.2.1, (qk7 ok (by lia)).2.mp h.2.2.2]
theorem qH4 {n top : Nat} {rows : List Row} (c : Canon n top rows) : Red (T rows top) := T_red c.rok c.unplain top c.inn
theorem qq6 {n top : Nat} {rows : List Row} (c : Canon n top rows) : dep (T rows top) ≤ n := by
  obtain ⟨er, et⟩ := qn0 c
  obtain ⟨ho, hi⟩ := post_ord (T rows top) [] ord_nil
  have h := qo4 ho _ hi
  rw [← er, ← et] at h
  rw [← h]
  exact c.deep
theorem canon_up {n m top : Nat} {rows : List Row} (c : Canon n top rows) (hm : m ≤ 12) (hd : dep (T rows top) ≤ m) : Canon m top rows := by
  obtain ⟨er, et⟩ := qn0 c
  have h := qr3 hm (qH4 c) hd
  rw [← er, ← et] at h
  exact h
theorem qK0 {rows : List Row} (ok : qc5 rows) {p a b c d s : Nat} (hp : rows[p]? = some [a, b, c, d]) (h : dp rows (p + 2) ≤ s + 1) : dp rows a ≤ s ∧ dp rows b ≤ s ∧ dp rows c ≤ s ∧ dp rows d ≤ s := by
  rw [qx0 ok hp] at h
  have hm : ∀ x ∈ [a, b, c, d], dp rows x ≤ mx ([a, b, c, d].map (dp rows)) := fun x hx => qP7 (List.mem_map_of_mem hx)
  have h1 := hm a (by simp)
  have h2 := hm b (by simp)
  have h3 := hm c (by simp)
  have h4 := hm d (by simp)
  lia
end Qf
set_option Elab.async false
set_option linter.all false
set_option maxRecDepth 100000
set_option maxHeartbeats 4000000
namespace Pr
open PySem L2 Qf
section
variable {P : Program} {w : World} {K : PySem.W.Frag} {mg : Str -> Option Value} {base : Heap}
theorem b_len2 {n : Nat} {boxes : List Row} (h : nds (bt n boxes 0 0) ≤ 485) : (ql4 n boxes).length ≤ 485 := by
  unfold ql4
  rw [Tr.rowsOf_len]
  have h1 := qm5 (bt n boxes 0 0) []
  simp at h1
  lia
def spBSg : Sp := fun vs H Q _ => ∃ (bp : Addr) (n : Nat) (boxes : List Row), vs = [.int (n : Nat), .ref bp] ∧ RowsL H bp boxes ∧ (∀ b ∈ boxes, ql3 n b) ∧ boxes.length ≤ 900 ∧ nds (bt n boxes 0 0) ≤ 485 ∧ n ≤ 12 ∧ ∀ (H' : Hp) (t : Addr), Same H H' -> qh9 H' t n (bTop n boxes) (ql4 n boxes) -> Q (.ref t) H'
theorem ok_bSg {f fN fM fH : Addr} {fd fdN fdM fdH : FuncData} (F : Fun K "_law_shape" "_law_shape" qE8 f fd) (B : Blt mg) (hN : mg "_law_number" = some (.ref fN)) (FN : Fun K "_law_number" "_law_number" qk1 fN fdN) (bN : Binds K fdN nNum5 [])
    (hM : mg "_law_meets" = some (.ref fM)) (FM : Fun K "_law_meets" "_law_meets" qE7 fM fdM) (bM : Binds K fdM qs2 [])
    (hH : mg "_law_has" = some (.ref fH)) (FH : Fun K "_law_has" "_law_has" lHas fH fdH) (bH : Binds K fdH qs2 []) : FnOk P w K mg base CX0 15 f fd ["_law_n", "_law_boxes_here"] spBSg := by
  have GN : ∀ k, k ≤ 12 -> FnOk P w K mg base CX0 (k + 2) fN fdN nNum5 (spNum k) := ok_num FN B hN bN hM FM bM hH FH bH
  refine F.ok scBSh (fun vs H Q E h => ?_) (fun cdv A outer s H vs Q E hr h => ?_)
  . obtain ⟨bp, n, boxes, rfl, _⟩ := h
    rfl
  . obtain ⟨bp, n, boxes, rfl, hR, hBx, hbl, hnd, hn, q⟩ := h
    have hrN : Room (n + 2) _ := hr.mono (by lia)
    refine seqE ⟨_, ⟨qc4 (i := 2) scBSh.nd rfl (by first | exact Or.inl rfl | exact Or.inr rfl) qs4⟩, ?_⟩
    refine seqE ⟨_, ⟨qc4 (i := 3) scBSh.nd rfl (by first | exact Or.inl rfl | exact Or.inr rfl) (qa8 (GN n hn) hrN (by rfl) hN FN.kp bN .nil qb9 (Ars2.go (.cons ⟨pv 2⟩ (.cons ⟨pv 1⟩ (.cons qg7 (.cons qg7 (.cons ⟨qb1 qo9 qa4 (pv 0)⟩ .nil rfl) rfl) rfl) rfl) rfl)))⟩, ?_⟩
    refine qi2 ⟨_, ⟨qb3 (qg9 (Ars2.go (.cons ⟨pv 0⟩ (.cons ⟨pv 3⟩ (.cons ⟨qc9 (qF3 rfl) (by rfl) B.tuple PyProof.Rows.boot_tuple (qa0 (pv 2) qa3)⟩ .nil rfl) rfl) rfl)))⟩, ?_⟩
    intro e he
    have nbe : bp ≠ e := by obtain ⟨bs, hb, _⟩ := hR; exact qa2 hb he
    have h4 : ∀ b ∈ boxes, b.length = 4 := fun b hb => by
      obtain ⟨r, c, h, w', rfl, _⟩ := hBx b hb
      rfl
    have hsz : sz n ≤ 6000000 := Nat.le_trans (sz_le hn) (by decide)
    have veq : [V.ref e, V.ref bp, V.int 0, V.int 0, V.int (1 * 2 ^ ((n : Int)).toNat)] = [V.ref e, V.ref bp, V.int ((0 : Nat) : Int), V.int ((0 : Nat) : Int), V.int ((2 ^ n : Nat) : Int)] := by rw [qw4]; rfl
    refine ⟨_, rfl, _, rfl, _, rfl, _, _, rfl, rfl, ⟨by lia, by lia, by decide⟩, e, bp, boxes, 0, 0, [], veq, hR.same (qb7 he), h4, hbl, nbe, Tr.ord_nil, qa1, by simpa using hsz, fun H1 b1 he1 => ?_⟩
    have S1 : Same H H1 := fun b o z => b1 _ _ (qc3 z he) (qa2 z he)
    refine ⟨_, rfl, _, rfl, _, rfl, e, _, rfl, he1, fun l bs hl hbl2 hbs => ⟨(by show 3 ≤ sizeLine; decide), fun t ht => ?_⟩⟩
    refine q _ t ((S1.trans (qb7 hl)).trans (qb7 ht)) ⟨⟨l, qa1, bs, qc3 qa1 ht, ?_, ?_⟩, b_canon hn, Nat.le_trans (b_len2 hnd) (by decide)⟩
    . rw [hbl2]
      unfold tK
      rw [qk3]
      rfl
    . intro i b r e1 e2
      have hi := (List.getElem?_eq_some_iff.mp e2).1
      have hlt : (tK (ql4 n boxes)).length = (ql4 n boxes).length := by unfold tK; rw [qk3]
      have hkv : (tK (ql4 n boxes))[i]? = some ((tK (ql4 n boxes))[i]'(by lia)) := List.getElem?_eq_getElem (by lia)
      have hk1 : ((tK (ql4 n boxes))[i]'(by lia)).1 = keyN r := by
        have h0 := hkv
        unfold tK tabl at h0
        rw [List.getElem?_map] at h0
        obtain ⟨p, hp, ep⟩ := Option.map_eq_some_iff.mp h0
        rw [List.getElem?_zipIdx] at hp
        obtain ⟨r', hr', rfl⟩ := Option.map_eq_some_iff.mp hp
        rw [e2] at hr'
        cases hr'
        exact (congrArg Prod.fst ep).symm
      have := hbs i b _ e1 hkv
      rw [hk1, qk9] at this
      exact qc3 (qc3 this hl) ht
end
end Pr
set_option Elab.async false
set_option linter.all false
set_option maxRecDepth 100000
set_option maxHeartbeats 4000000
namespace Qf
open Tr
theorem ins_red {L : List Tr} {t : Tr} (h : qj4 L) (ht : Red t) : qj4 (ins t L) := by
  unfold ins
  split
  . exact h
  . intro u hu
    rcases List.mem_append.mp hu with z | z
    . exact h u z
    . have : u = t := by simpa using z
      rw [this]; exact ht
def KnOk (key : Nat -> Nat -> List Nat) (k : Nat) (rows : List Row) (L : List Tr) (kv : List (List L2.Key × L2.V)) : Prop :=
  ∀ s x v, L2.valV kv (Pr.keyN (key s x)) = some v -> In L (qa5 k s (T rows x)) ∧ v = .int (name L (qa5 k s (T rows x)) : Nat)
theorem KnOk.nil {key : Nat -> Nat -> List Nat} {k : Nat} {rows : List Row} {L : List Tr} : KnOk key k rows L [] := fun s x v h => by cases h
theorem KnOk.ext {key : Nat -> Nat -> List Nat} {k : Nat} {rows : List Row} {L s2 : List Tr} {kv : List (List L2.Key × L2.V)} (h : KnOk key k rows L kv) (ho : Ord L) : KnOk key k rows (L ++ s2) kv := fun s x v e => by
  obtain ⟨h1, h2⟩ := h s x v e
  exact ⟨h1.app, by rw [name_app h1 ho]; exact h2⟩
theorem KnOk.put {key : Nat -> Nat -> List Nat} (inj : ∀ s x s' x', key s x = key s' x' -> s = s' ∧ x = x') {k s x : Nat} {rows : List Row} {L : List Tr} {kv : List (List L2.Key × L2.V)} (h : KnOk key k rows L kv) (hi : In L (qa5 k s (T rows x))) :
    KnOk key k rows L (L2.putK kv (Pr.keyN (key s x)) (.int (name L (qa5 k s (T rows x)) : Nat))) := fun s' x' v e => by
  rw [L2.qz1] at e
  by_cases z : Pr.keyN (key s' x') = Pr.keyN (key s x)
  . rw [if_pos z] at e
    obtain ⟨rfl, rfl⟩ := inj _ _ _ _ (Pr.qk2 z)
    exact ⟨hi, (Option.some.inj e).symm⟩
  . rw [if_neg z] at e
    exact h s' x' v e
end Qf
namespace Pr
open PySem L2 Qf
def qs3 (rp b g : Addr) (k : Nat) : List (Str × V) := putF "known" (.ref g) (putF "book" (.ref b) (putF "k" (.int (k : Nat)) (putF "rows" (.ref rp) [])))
theorem lF_rows (rp b g : Addr) (k : Nat) : (qs3 rp b g k).lookup ("rows" : Str) = some (.ref rp) := by
  unfold qs3
  rw [qb2, if_neg (by decide +kernel), qb2, if_neg (by decide +kernel), qb2, if_neg (by decide +kernel), qb2, if_pos rfl]
theorem lF_k (rp b g : Addr) (k : Nat) : (qs3 rp b g k).lookup ("k" : Str) = some (.int (k : Nat)) := by
  unfold qs3
  rw [qb2, if_neg (by decide +kernel), qb2, if_neg (by decide +kernel), qb2, if_pos rfl]
theorem lF_book (rp b g : Addr) (k : Nat) : (qs3 rp b g k).lookup ("book" : Str) = some (.ref b) := by
  unfold qs3
  rw [qb2, if_neg (by decide +kernel), qb2, if_pos rfl]
theorem qt2 (rp b g : Addr) (k : Nat) : (qs3 rp b g k).lookup ("known" : Str) = some (.ref g) := by
  unfold qs3
  rw [qb2, if_pos rfl]
theorem lF_ln (rp b g : Addr) (k : Nat) : (qs3 rp b g k).lookup ("lesser_number" : Str) = none := by
  unfold qs3
  rw [qb2, if_neg (by decide +kernel), qb2, if_neg (by decide +kernel), qb2, if_neg (by decide +kernel), qb2, if_neg (by decide +kernel)]
  all_goals rfl
theorem bF_nf (k d : Addr) : (qB2 k d).lookup ("number_for" : Str) = none := bFlds_no k d (by decide +kernel) (by decide +kernel)
structure LsAt (C CB : Addr) (H : Hp) (p rp b kk dd g : Addr) (k : Nat) (L : List Tr) (kv : List (List Key × V)) : Prop where
  ob : ∃ dx, H p = some (.ins C dx (qs3 rp b g k))
  bk : BookAt CB H b kk dd L
  kn : H g = some (.dT kv)
  ne : g ≠ dd
  rd : qj4 L
structure LsIn (K : PySem.W.Frag) (mg : Str -> Option Value) (C : Addr) : Prop where
  cl : Cls K C
  nR : NoAttr K C "rows"
  nK : NoAttr K C "k"
  nB : NoAttr K C "book"
  nN : NoAttr K C "known"
  mgC : mg "Lessening" = some (.ref C)
def But3 (a b c : Addr) (H H' : Hp) : Prop := ∀ x o, H x = some o -> x ≠ a -> x ≠ b -> x ≠ c -> H' x = some o
theorem But3.refl (a b c : Addr) (H : Hp) : But3 a b c H H := fun _ _ h _ _ _ => h
theorem But3.trans {a b c : Addr} {H H1 H2 : Hp} (x : But3 a b c H H1) (y : But3 a b c H1 H2) : But3 a b c H H2 := fun z o h n1 n2 n3 => y z o (x z o h n1 n2 n3) n1 n2 n3
theorem But3.of {a b c : Addr} {H H' : Hp} (s : Same H H') : But3 a b c H H' := fun x o h _ _ _ => s x o h
section
variable {P : Program} {w : World} {K : PySem.W.Frag} {mg : Str -> Option Value} {base : Heap}
theorem scLg : FnScope ["shape", "n", "top", "rows"] ["shape"] (qa7 qz9) := ⟨rfl, rfl, rfl, by decide +kernel, rfl, by decide +kernel, by decide +kernel⟩
def spLg : Sp := fun vs H Q _ => ∃ (t : Addr) (n tp : Nat) (rows : List Row), vs = [.ref t] ∧ qh9 H t n tp rows ∧ n < 12 ∧ ∀ (H' : Hp) (t' : Addr), Same H H' -> qh9 H' t' (n + 1) tp rows -> Q (.ref t') H'
theorem ok_lg {f fW : Addr} {fd fdW : FuncData} (F : Fun K "larger" "larger" qz9 f fd) (Tc : Cst mg)
    (hW : mg "want_shape" = some (.ref fW)) (FW : Fun K "want_shape" "want_shape" qE4 fW fdW) (bW : Binds K fdW ["shape"] []) (GW : FnOk P w K mg base CX0 16 fW fdW ["shape"] qJ6) : FnOk P w K mg base CX0 17 f fd ["shape"] spLg := by
  obtain ⟨tg, hgr⟩ := Tc.great
  refine F.ok scLg (fun vs H Q E h => ?_) (fun cdv A outer s H vs Q E hr h => ?_)
  . obtain ⟨t, n, tp, rows, rfl, _⟩ := h
    rfl
  . obtain ⟨t, n, tp, rows, rfl, hSh, hn, q⟩ := h
    refine seqE ⟨_, ⟨qn7 (qa8 GW hr (by rfl) hW FW.kp bW .nil qb9 (qa0 (pv 0) qa3))⟩, ?_⟩
    refine seqE ⟨_, ⟨qr8 (pv 0) (qr7 rfl (qc2 (qc0 (i := 1) scLg.nd rfl (by first | exact Or.inl rfl | exact Or.inr rfl)) (qc2 (qc0 (i := 2) scLg.nd rfl (by first | exact Or.inl rfl | exact Or.inr rfl)) (qc2 (qc0 (i := 3) scLg.nd rfl (by first | exact Or.inl rfl | exact Or.inr rfl)) ql6))))⟩, ?_⟩
    refine seqE ⟨_, ⟨qe0 (qb5 qw8 (pv 1) (qd0 (v := .int 12) (by rfl) hgr ⟨_, rfl⟩) (qb6 _)) qe8 qb4⟩, ?_⟩
    refine qi2 ⟨_, ⟨qb3 (qg9 (Ars2.go (.cons ⟨qb1 qd9 (pv 1) qa4⟩ (.cons ⟨pv 2⟩ (.cons ⟨pv 3⟩ .nil rfl) rfl) rfl)))⟩, ?_⟩
    refine ⟨_, rfl, t, n, tp, rows, rfl, hSh, fun H1 s1 => ?_⟩
    obtain ⟨⟨p, ht, hR⟩, cn, hl⟩ := qf7 hSh s1
    refine ⟨_, rfl, t, _, rfl, SqT.of ht, rfl, _, _, rfl, _, _, rfl, _, _, rfl, rfl, ?_⟩
    refine ⟨_, rfl, rfl, _, rfl, ?_⟩
    have hne : ¬ V.int ((n : Nat) : Int) = V.int 12 := fun z => by injection z with z; lia
    rw [decide_eq_false hne]
    refine iteF ?_
    refine ⟨_, rfl, _, _, rfl, rfl, _, rfl, _, rfl, (by show 3 ≤ sizeLine; decide), fun t' ht' => ?_⟩
    obtain ⟨bs, hp, hbl, hrow⟩ := hR
    exact q _ t' (s1.trans (qb7 ht')) ⟨⟨p, by rw [qa1]; rfl, bs, qc3 hp ht', hbl, fun i b r e1 e2 => qc3 (hrow i b r e1 e2) ht'⟩, canon_up cn (by lia) (Nat.le_trans (qq6 cn) (Nat.le_succ n)), hl⟩
theorem scLsI : FnScope ["self", "rows", "k"] ["self", "rows", "k"] (qa7 qJ2) := ⟨rfl, rfl, rfl, by decide +kernel, rfl, by decide +kernel, by decide +kernel⟩
def spLsI (C CB : Addr) : Sp := fun vs H Q _ => ∃ (p dx rp : Addr) (k : Nat), vs = [.ref p, .ref rp, .int (k : Nat)] ∧ H p = some (.ins C dx []) ∧ ∀ (b kk dd g : Addr) (H' : Hp), H b = none -> H kk = none -> H dd = none -> H g = none -> LsAt C CB H' p rp b kk dd g k [] [] -> But p H H' -> Q .non H'
theorem ok_lsI {f fB C CB : Addr} {fd fdB : FuncData} (F : Fun K "__init__" "Lessening.__init__" qJ2 f fd) (T : LsIn K mg C) (TB : BookIn K mg CB) (MB : Mk K CB fB) (FB : Fun K "__init__" "Book.__init__" qz8 fB fdB) (bB : Binds K fdB ["self"] []) :
    FnOk P w K mg base CX0 3 f fd ["self", "rows", "k"] (spLsI C CB) := by
  have GB : FnOk P w K mg base CX0 1 fB fdB ["self"] (spBkI CB) := ok_bkI FB TB
  refine F.ok scLsI (fun vs H Q E h => ?_) (fun cdv A outer s H vs Q E hr h => ?_)
  . obtain ⟨p, dx, rp, k, rfl, _⟩ := h
    rfl
  . obtain ⟨p, dx, rp, k, rfl, hp, q⟩ := h
    have hr2 : Room 2 _ := hr.mono (by decide)
    refine seqE ⟨_, ⟨qx5 (pv 0) (pv 1) rfl⟩, ?_⟩
    refine seqE ⟨_, ⟨qx5 (pv 0) (pv 2) rfl⟩, ?_⟩
    refine seqE ⟨_, ⟨qx5 (pv 0) (pe_make0 MB GB hr2 (by rfl) TB.mgC bB .nil qb9) rfl⟩, ?_⟩
    refine qi2 ⟨_, ⟨qx5 (pv 0) qs4 rfl⟩, ?_⟩
    refine ⟨_, rfl, _, rfl, p, C, dx, [], rfl, hp, T.cl, T.nR, (by show 0 < 1000; decide), ?_⟩
    refine ⟨_, rfl, _, rfl, p, C, dx, _, rfl, qa1, T.cl, T.nK, (by show 1 < 1000; decide), ?_⟩
    intro b dx2 hb hdx2 hne
    have hp2 : upd (upd H p (.ins C dx (putF "rows" (.ref rp) []))) p (.ins C dx (putF "k" (.int (k : Nat)) (putF "rows" (.ref rp) []))) p = some (.ins C dx (putF "k" (.int (k : Nat)) (putF "rows" (.ref rp) []))) := qa1
    have S2 : But p H (upd (upd H p (.ins C dx (putF "rows" (.ref rp) []))) p (.ins C dx (putF "k" (.int (k : Nat)) (putF "rows" (.ref rp) [])))) := fun x o e n => by rw [qa6 n, qa6 n]; exact e
    have N2 : ∀ x, upd (upd H p (.ins C dx (putF "rows" (.ref rp) []))) p (.ins C dx (putF "k" (.int (k : Nat)) (putF "rows" (.ref rp) []))) x = none -> H x = none := fun x e => by
      have n : x ≠ p := fun z => by rw [z, hp2] at e; cases e
      rw [qa6 n, qa6 n] at e
      exact e
    generalize upd (upd H p (.ins C dx (putF "rows" (.ref rp) []))) p (.ins C dx (putF "k" (.int (k : Nat)) (putF "rows" (.ref rp) []))) = H2 at hp2 S2 N2 hb hdx2 ⊢
    have npb : p ≠ b := qa2 hp2 hb
    have npd : p ≠ dx2 := qa2 hp2 hdx2
    refine ⟨b, dx2, rfl, qa1, fun kk dd H4 hkk hdd B4 b4 => ⟨rfl, ?_⟩⟩
    have N3 : ∀ x, upd (upd H2 dx2 (.own b)) b (.ins CB dx2 []) x = none -> H2 x = none ∧ x ≠ b := fun x e => by
      have n1 : x ≠ b := fun z => by rw [z, qa1] at e; cases e
      rw [qa6 n1] at e
      have n2 : x ≠ dx2 := fun z => by rw [z, qa1] at e; cases e
      rw [qa6 n2] at e
      exact ⟨e, n1⟩
    have hp4 : H4 p = some (.ins C dx (putF "k" (.int (k : Nat)) (putF "rows" (.ref rp) []))) := b4 _ _ (by rw [qa6 npb, qa6 npd]; exact hp2) npb
    refine ⟨_, rfl, p, C, dx, _, rfl, hp4, T.cl, T.nB, (by show 2 < 1000; decide), fun g hg => ?_⟩
    have npg : p ≠ g := qa2 qa1 hg
    refine ⟨_, rfl, p, C, dx, _, rfl, (by rw [qa6 npg]; exact qa1), T.cl, T.nN, (by show 3 < 1000; decide), ?_⟩
    obtain ⟨⟨dxb, hob⟩, ⟨bs, hk4, hbl, hrow⟩, hd4, hO⟩ := id B4
    have nkp : kk ≠ p := fun z => by rw [z, hp4] at hk4; cases hk4
    have ndp : dd ≠ p := fun z => by rw [z, hp4] at hd4; cases hd4
    have hg4 : H4 g = none := by rw [qa6 (Ne.symm npg)] at hg; exact hg
    have ngd : g ≠ dd := fun z => by rw [z, hd4] at hg4; cases hg4
    have keep : ∀ {x : Addr} {o : HO}, H4 x = some o -> x ≠ p -> upd (upd (upd H4 p (.ins C dx (putF "book" (.ref b) (putF "k" (.int (k : Nat)) (putF "rows" (.ref rp) []))))) g (.dT [])) p (.ins C dx (qs3 rp b g k)) x = some o := fun {x o} e n => by
      rw [qa6 n, qa6 (qa2 e hg4), qa6 n]; exact e
    refine q b kk dd g _ (N2 _ hb) (N2 _ (N3 _ hkk).1) (N2 _ (N3 _ hdd).1) ?_ ⟨⟨dx, qa1⟩, ⟨⟨dxb, keep hob (Ne.symm npb)⟩, ⟨bs, keep hk4 nkp, hbl, fun i c r e1 e2 => ?_⟩, keep hd4 ndp, hO⟩, ?_, ngd, fun t ht => by cases ht⟩ ?_
    . refine N2 _ ?_
      have h2 : H2 g = none := by
        cases e : H2 g with
        | none => rfl
        | some o =>
          have : H4 g = some o := b4 _ _ (by rw [qa6 (qa2 e hb), qa6 (qa2 e hdx2)]; exact e) (qa2 e hb)
          rw [hg4] at this; cases this
      exact h2
    . have := hrow i c r e1 e2
      exact keep this (fun z => by rw [z, hp4] at this; cases this)
    . rw [qa6 (Ne.symm npg), qa1]
    . intro x o e n
      have e2 := S2 _ _ e n
      exact keep (b4 _ _ (by rw [qa6 (qa2 e2 hb), qa6 (qa2 e2 hdx2)]; exact e2) (qa2 e2 hb)) n
end
end Pr
set_option Elab.async false
set_option linter.all false
set_option maxRecDepth 100000
set_option maxHeartbeats 4000000
namespace Pr
open PySem L2 Qf
theorem row_T {rows : List Row} (ok : qc5 rows) {p a b c d : Nat} (hp : rows[p]? = some [a, b, c, d]) : a < rows.length + 2 ∧ b < rows.length + 2 ∧ c < rows.length + 2 ∧ d < rows.length + 2 := by
  have hl := (List.getElem?_eq_some_iff.mp hp).1
  have h := (ok p _ hp).2
  have h1 := h a (by simp)
  have h2 := h b (by simp)
  have h3 := h c (by simp)
  have h4 := h d (by simp)
  lia
theorem qR3 {rows : List Row} (ok : qc5 rows) {p a b c d : Nat} (hp : rows[p]? = some [a, b, c, d]) :
    ([(a : Int), (b : Int), (c : Int), (d : Int)].countP (· == (1 : Int))) = ful (T rows a) + ful (T rows b) + ful (T rows c) + ful (T rows d) := by
  obtain ⟨ha, hb, hc, hd⟩ := row_T ok hp
  rw [qH3 ok ha, qH3 ok hb, qH3 ok hc, qH3 ok hd]
  have e : ∀ x : Nat, (((x : Int) == (1 : Int)) = true) ↔ x = 1 := fun x => by rw [beq_iff_eq]; lia
  simp only [List.countP_cons, List.countP_nil, e]
  lia
theorem LsAt.same {C CB : Addr} {H H' : Hp} {p rp b kk dd g : Addr} {k : Nat} {L : List Tr} {kv : List (List Key × V)} (h : LsAt C CB H p rp b kk dd g k L kv) (s : Same H H') : LsAt C CB H' p rp b kk dd g k L kv := by
  obtain ⟨⟨dx, ho⟩, ⟨⟨dx2, hb⟩, ⟨bs, hk, hl, hr⟩, hd, hO⟩, hg, ne, rd⟩ := h
  exact ⟨⟨dx, s _ _ ho⟩, ⟨⟨dx2, s _ _ hb⟩, ⟨bs, s _ _ hk, hl, fun i c r e1 e2 => s _ _ (hr i c r e1 e2)⟩, s _ _ hd, hO⟩, s _ _ hg, ne, rd⟩
theorem LsAt.tup {C CB : Addr} {H H' : Hp} {p rp b kk dd g : Addr} {k : Nat} {L : List Tr} {kv : List (List Key × V)} (h : LsAt C CB H p rp b kk dd g k L kv) (B : But3 kk dd g H H') {x : Addr} {u : List V} (e : H x = some (.tup u)) : H' x = some (.tup u) := by
  obtain ⟨_, ⟨_, ⟨bs, hk, _⟩, hd, _⟩, hg, _⟩ := h
  exact B _ _ e (fun z => by rw [z, hk] at e; cases e) (fun z => by rw [z, hd] at e; cases e) (fun z => by rw [z, hg] at e; cases e)
theorem LsAt.rows {C CB : Addr} {H H' : Hp} {p rp b kk dd g : Addr} {k : Nat} {L : List Tr} {kv : List (List Key × V)} (h : LsAt C CB H p rp b kk dd g k L kv) (B : But3 kk dd g H H') {q : Addr} {rows : List Row} (hR : RowsAt H q rows) : RowsAt H' q rows := by
  obtain ⟨bs, hp, hl, hr⟩ := hR
  exact ⟨bs, h.tup B hp, hl, fun i c r e1 e2 => h.tup B (hr i c r e1 e2)⟩
theorem LsAt.put {C CB : Addr} {H : Hp} {p rp b kk dd g D : Addr} {k : Nat} {L : List Tr} {kv : List (List Key × V)} {xs ys : List V} (h : LsAt C CB H p rp b kk dd g k L kv) (hD : H D = some (.lst xs)) (nk : D ≠ kk) : LsAt C CB (upd H D (.lst ys)) p rp b kk dd g k L kv := by
  obtain ⟨⟨dx, ho⟩, ⟨⟨dx2, hb⟩, ⟨bs, hk, hl, hr⟩, hd, hO⟩, hg, ne, rd⟩ := h
  have k1 : ∀ {x : Addr} {o : HO}, H x = some o -> x ≠ D -> upd H D (.lst ys) x = some o := fun {x o} e n => by rw [qa6 n]; exact e
  refine ⟨⟨dx, k1 ho fun z => ?_⟩, ⟨⟨dx2, k1 hb fun z => ?_⟩, ⟨bs, k1 hk (Ne.symm nk), hl, fun i c r e1 e2 => k1 (hr i c r e1 e2) fun z => ?_⟩, k1 hd fun z => ?_, hO⟩, k1 hg fun z => ?_, ne, rd⟩
  . rw [z, hD] at ho; cases ho
  . rw [z, hD] at hb; cases hb
  . have := hr i c r e1 e2; rw [z, hD] at this; cases this
  . rw [z, hD] at hd; cases hd
  . rw [z, hD] at hg; cases hg
theorem qN7 (l : List Nat) (i : Nat) : (l.take i).sum ≤ l.sum := by
  have h : (l.take i).sum + (l.drop i).sum = l.sum := by rw [← List.sum_append, List.take_append_drop]
  lia
def key1 (s x : Nat) : List Nat := [s, x]
theorem key1_inj : ∀ s x s' x', key1 s x = key1 s' x' -> s = s' ∧ x = x' := fun s x s' x' h => by
  simp only [key1, List.cons.injEq, and_true] at h
  exact h
section
variable {P : Program} {w : World} {K : PySem.W.Frag} {mg : Str -> Option Value} {base : Heap}
abbrev nLsN : List Str := ["self", "size", "number", "row", "key"]
theorem scLsN : FnScope nLsN ["self", "size", "number"] (qa7 qM2) := ⟨rfl, rfl, rfl, by decide +kernel, rfl, by decide +kernel, by decide +kernel⟩
def spLsN (C CB : Addr) (s : Nat) : Sp := fun vs H Q _ => ∃ (p rp b kk dd g : Addr) (k x : Nat) (L : List Tr) (kv : List (List Key × V)) (rows : List Row), vs = [.ref p, .int ((s + 1 : Nat) : Int), .int (x : Nat)] ∧ LsAt C CB H p rp b kk dd g k L kv ∧ RowsAt H rp rows ∧ qc5 rows ∧ x < rows.length + 2 ∧ dp rows x ≤ s + 1 ∧
  KnOk key1 k rows L kv ∧ L.length + nds (T rows x) ≤ 900 ∧ kv.length + nds (T rows x) ≤ 900 ∧
  ∀ (H' : Hp) (L' : List Tr) (kv' : List (List Key × V)), But3 kk dd g H H' -> LsAt C CB H' p rp b kk dd g k L' kv' -> (∃ e, L' = L ++ e) -> Tr.In L' (qa5 k (s + 1) (T rows x)) -> KnOk key1 k rows L' kv' -> L'.length ≤ L.length + nds (T rows x) -> kv'.length ≤ kv.length + nds (T rows x) -> Q (.int (Tr.name L' (qa5 k (s + 1) (T rows x)) : Nat)) H'
theorem ok_lsN {f fN fP C CB : Addr} {fd fdN fdP : FuncData} (F : Fun K "lesser_number" "Lessening.lesser_number" qM2 f fd) (B : Blt mg) (Tc : Cst mg) (hem0 : ∃ t, mg "EMPTY" = some (.int 0 t)) (TL : LsIn K mg C) (TB : BookIn K mg CB) (M : Meth K C "lesser_number" f) (bM : Binds K fd ["self", "size", "number"] [])
    (MN : Meth K CB "number_for" fN) (FN : Fun K "number_for" "Book.number_for" qM1 fN fdN) (bN : Binds K fdN ["self", "row"] [])
    (hP : mg "is_plain" = some (.ref fP)) (FP : Fun K "is_plain" "is_plain" qy4 fP fdP) (bP : Binds K fdP ["row"] []) : ∀ s, FnOk P w K mg base CX0 (s + 4) f fd ["self", "size", "number"] (spLsN C CB s) := by
  have GN : FnOk P w K mg base CX0 3 fN fdN ["self", "row"] (spBkN CB) := ok_bkN FN B Tc TB hP FP bP
  obtain ⟨tf, hfi⟩ := Tc.first
  obtain ⟨tu, hfu⟩ := Tc.full
  obtain ⟨te, hem⟩ := hem0
  intro s
  induction s with
  | zero =>
    refine F.ok scLsN (fun vs H Q E h => ?_) (fun cdv A outer s H vs Q E hr h => ?_)
    . obtain ⟨p, rp, b, kk, dd, g, k, x, L, kv, rows, rfl, _⟩ := h
      rfl
    . obtain ⟨p, rp, b, kk, dd, g, k, x, L, kv, rows, rfl, hA, hR, ok, hx, hdp, hkn, hL, hkv, q⟩ := h
      refine seqE ⟨_, ⟨qe0 (qb5 qn5 (pv 2) (qd0 (v := .int 2) (by rfl) hfi ⟨_, rfl⟩) (qb6 _)) (qb0 (qb3 (pv 2))) qb4⟩, ?_⟩
      refine seqE ⟨_, ⟨qc4 (i := 3) scLsN.nd rfl (by first | exact Or.inl rfl | exact Or.inr rfl) (qf3 qf2 (qi3 (pv 0) rfl) (qb1 qe2 (pv 2) (qd0 (v := .int 2) (by rfl) hfi ⟨_, rfl⟩)) (fun _ _ => rfl))⟩, ?_⟩
      refine seqE ⟨_, ⟨qe0 (qb5 qw8 (pv 1) qa4 (qb6 _)) (qb0 (qb3 (pe_ifExp (qb5 op_ge (pe_tm PySem.F.slot_tuple_count PySem.F.type_tuple_count mt_countT (pv 3) (qa0 (qd0 (v := .int 1) (by rfl) hfu ⟨_, rfl⟩) qa3)) (qi3 (pv 0) rfl) (qb6 _)) (qd0 (v := .int 1) (by rfl) hfu ⟨_, rfl⟩) (qd0 (v := .int 0) (by rfl) hem ⟨_, rfl⟩)))) qb4⟩, ?_⟩
      refine ⟨_, qe8, ?_⟩
      refine ⟨_, rfl, _, _, rfl, rfl, _, rfl, ?_⟩
      refine ite2 (fun hc => ?_) (fun hc => ?_)
      . have x2 : x < 2 := by have := of_decide_eq_true hc; lia
        have ht : qa5 k (0 + 1) (T rows x) = T rows x ∧ Tr.In L (T rows x) ∧ Tr.name L (T rows x) = x := by
          match x, x2 with
          | 0, _ => rw [qi0]; exact ⟨ql0 _ _, .inl rfl, rfl⟩
          | 1, _ => rw [qo3]; exact ⟨qj6 _ _, .inr (.inl rfl), rfl⟩
        have := q H L kv (But3.refl _ _ _ _) hA ⟨[], by simp⟩ (by rw [ht.1]; exact ht.2.1) hkn (Nat.le_add_right _ _) (Nat.le_add_right _ _)
        rw [ht.1, ht.2.2] at this
        exact ⟨_, rfl, this⟩
      . have x2 : ¬ x < 2 := fun z => hc (decide_eq_true (by lia))
        obtain ⟨pl, a0, a1, a2, a3, rfl, hpl⟩ := qm3 ok hx x2
        obtain ⟨⟨dx, hob⟩, _, _, _⟩ := id hA
        obtain ⟨bs, hrp, hbl, hrow⟩ := id hR
        have hpb : pl < bs.length := by rw [hbl]; exact (List.getElem?_eq_some_iff.mp hpl).1
        have hbp : bs[pl]? = some bs[pl] := List.getElem?_eq_getElem hpb
        have hrw := hrow pl _ _ hbp hpl
        refine ⟨_, rfl, p, C, dx, _, _, rfl, hob, TL.cl, TL.nR, lF_rows _ _ _ _, _, rfl, _, _, rfl, rfl, rp, _, ((pl : Nat) : Int), .ref bs[pl], rfl, congrArg V.int (by lia), SqT.of hrp, qj2 (by rw [List.getElem?_map, hbp]; rfl), ?_⟩
        refine ⟨_, rfl, rfl, _, rfl, ?_⟩
        rw [decide_eq_true (show V.int ((0 + 1 : Nat) : Int) = V.int 1 from rfl)]
        refine iteT ?_
        refine ⟨_, rfl, ⟨_, _, rfl, hrw⟩, _, [(a0 : Int), (a1 : Int), (a2 : Int), (a3 : Int)], 1, rfl, rfl, hrw, ?_⟩
        refine ⟨_, rfl, p, C, dx, _, _, rfl, hob, TL.cl, TL.nK, lF_k _ _ _ _, _, _, rfl, rfl, _, rfl, ?_⟩
        rw [qR3 ok hpl]
        have ht : qa5 k (0 + 1) (T rows (pl + 2)) = if k ≤ ful (T rows a0) + ful (T rows a1) + ful (T rows a2) + ful (T rows a3) then .o else .z := by rw [qm4 ok hpl, qn2]
        rw [ht] at q
        refine ite2 (fun hc => ?_) (fun hc => ?_)
        . have hc' := of_decide_eq_true hc
          rw [if_pos (by lia)] at q
          exact q H L kv (But3.refl _ _ _ _) hA ⟨[], by simp⟩ (.inr (.inl rfl)) hkn (Nat.le_add_right _ _) (Nat.le_add_right _ _)
        . have hc' : ¬ k ≤ ful (T rows a0) + ful (T rows a1) + ful (T rows a2) + ful (T rows a3) := fun z => hc (decide_eq_true (by lia))
          rw [if_neg hc'] at q
          exact q H L kv (But3.refl _ _ _ _) hA ⟨[], by simp⟩ (.inl rfl) hkn (Nat.le_add_right _ _) (Nat.le_add_right _ _)
  | succ s ih =>
    refine F.ok scLsN (fun vs H Q E h => ?_) (fun cdv A outer s0 H vs Q E hr h => ?_)
    . obtain ⟨p, rp, b, kk, dd, g, k, x, L, kv, rows, rfl, _⟩ := h
      rfl
    . obtain ⟨p, rp, b, kk, dd, g, k, x, L, kv, rows, rfl, hA, hR, ok, hx, hdp, hkn, hL, hkv, q⟩ := h
      have hr3 : Room 3 _ := hr.mono (by lia)
      have hu : A.units + 3 + 1 < cLine := by
        have h2 : A.units + 3 + 16 * (s + 4) + 200 < cLine := hr.un
        lia
      refine seqE ⟨_, ⟨qe0 (qb5 qn5 (pv 2) (qd0 (v := .int 2) (by rfl) hfi ⟨_, rfl⟩) (qb6 _)) (qb0 (qb3 (pv 2))) qb4⟩, ?_⟩
      refine seqE ⟨_, ⟨qc4 (i := 3) scLsN.nd rfl (by first | exact Or.inl rfl | exact Or.inr rfl) (qf3 qf2 (qi3 (pv 0) rfl) (qb1 qe2 (pv 2) (qd0 (v := .int 2) (by rfl) hfi ⟨_, rfl⟩)) (fun _ _ => rfl))⟩, ?_⟩
      refine seqE ⟨_, ⟨qe0 (qb5 qw8 (pv 1) qa4 (qb6 _)) qe8 qb4⟩, ?_⟩
      refine seqE ⟨_, ⟨qc4 (i := 4) scLsN.nd rfl (by first | exact Or.inl rfl | exact Or.inr rfl) (qg9 (qa0 (pv 1) (qa0 (pv 2) qa3)))⟩, ?_⟩
      refine seqE ⟨_, ⟨qe0 (qt4 (ql9 hu (pv 4) (qi3 (pv 0) rfl)))
        (qb0 (qn9 hu (qi3 (pv 0) rfl) (pv 4) (PEb.go ⟨qI4 (qi3 (pv 0) rfl) TB.cl MN GN hr3 bN .nil qb9 (Ars2.go (.cons ⟨qc9 (tupO K rfl) (by rfl) B.tuple PyProof.Rows.boot_tuple (Ars2.go (.cons ⟨qf4 nLsN (qa7 qM2) rfl rfl rfl scLsN.nd (qt7 (pv 3))
          (fun cl C' fp s₀ H₀ => qI4 (pv 1) TL.cl M ih hr bM .nil qb9 (qa0 (qb1 qe2 (pv 2) qa4) (qa0 (pv 0) qa3)))⟩ .nil rfl))⟩ .nil rfl))⟩) (by rfl))) qb4⟩, ?_⟩
      refine qi2 ⟨_, ⟨qb3 (ql8 hu (qi3 (pv 0) rfl) (pv 4) (fun _ _ => rfl))⟩, ?_⟩
      refine ⟨_, rfl, _, _, rfl, rfl, _, rfl, ?_⟩
      refine ite2 (fun hc => ?_) (fun hc => ?_)
      . have x2 : x < 2 := by have := of_decide_eq_true hc; lia
        have ht : qa5 k (s + 1 + 1) (T rows x) = T rows x ∧ Tr.In L (T rows x) ∧ Tr.name L (T rows x) = x := by
          match x, x2 with
          | 0, _ => rw [qi0]; exact ⟨ql0 _ _, .inl rfl, rfl⟩
          | 1, _ => rw [qo3]; exact ⟨qj6 _ _, .inr (.inl rfl), rfl⟩
        have := q H L kv (But3.refl _ _ _ _) hA ⟨[], by simp⟩ (by rw [ht.1]; exact ht.2.1) hkn (Nat.le_add_right _ _) (Nat.le_add_right _ _)
        rw [ht.1, ht.2.2] at this
        exact ⟨_, rfl, this⟩
      . have x2 : ¬ x < 2 := fun z => hc (decide_eq_true (by lia))
        obtain ⟨pl, a0, a1, a2, a3, rfl, hpl⟩ := qm3 ok hx x2
        obtain ⟨⟨dx, hob⟩, _, _, _⟩ := id hA
        obtain ⟨bs, hrp, hbl, hrow⟩ := id hR
        have hpb : pl < bs.length := by rw [hbl]; exact (List.getElem?_eq_some_iff.mp hpl).1
        have hbp : bs[pl]? = some bs[pl] := List.getElem?_eq_getElem hpb
        have hrw := hrow pl _ _ hbp hpl
        refine ⟨_, rfl, p, C, dx, _, _, rfl, hob, TL.cl, TL.nR, lF_rows _ _ _ _, _, rfl, _, _, rfl, rfl, rp, _, ((pl : Nat) : Int), .ref bs[pl], rfl, congrArg V.int (by lia), SqT.of hrp, qj2 (by rw [List.getElem?_map, hbp]; rfl), ?_⟩
        refine ⟨_, rfl, rfl, _, rfl, ?_⟩
        have hne : ¬ V.int ((s + 1 + 1 : Nat) : Int) = V.int 1 := fun z => by injection z with z; lia
        rw [decide_eq_false hne]
        refine iteF ?_
        refine ⟨_, rfl, _, rfl, (by show 2 ≤ sizeLine; decide), fun u hu1 => ?_⟩
        have hA1 := hA.same (qb7 (o := .tup [.int ((s + 1 + 1 : Nat) : Int), .int ((pl + 2 : Nat) : Int)]) hu1)
        have hu2 : upd H u (.tup [.int ((s + 1 + 1 : Nat) : Int), .int ((pl + 2 : Nat) : Int)]) u = some (.tup ((keyN (key1 (s + 2) (pl + 2))).map kV)) := by rw [qa1, qk9]; rfl
        have hR1 : RowsAt (upd H u (.tup [.int ((s + 1 + 1 : Nat) : Int), .int ((pl + 2 : Nat) : Int)])) rp rows := hR.mono (Same.tups (qb7 hu1))
        have hrw1 := qc3 (u := .tup [.int ((s + 1 + 1 : Nat) : Int), .int ((pl + 2 : Nat) : Int)]) hrw hu1
        have S1 : Same H (upd H u (.tup [.int ((s + 1 + 1 : Nat) : Int), .int ((pl + 2 : Nat) : Int)])) := qb7 hu1
        generalize upd H u (.tup [.int ((s + 1 + 1 : Nat) : Int), .int ((pl + 2 : Nat) : Int)]) = H1 at hA1 hu2 hR1 hrw1 S1 ⊢
        obtain ⟨⟨dx1, hob1⟩, _, hg1, hgd⟩ := id hA1
        refine ⟨_, rfl, _, rfl, p, C, dx1, _, _, rfl, hob1, TL.cl, TL.nN, qt2 _ _ _ _, g, _, rfl, DGet.t hg1 hu2, _, rfl, ?_⟩
        have hT : qa5 k (s + 1 + 1) (T rows (pl + 2)) = mkT (qa5 k (s + 1) (T rows a0)) (qa5 k (s + 1) (T rows a1)) (qa5 k (s + 1) (T rows a2)) (qa5 k (s + 1) (T rows a3)) := by rw [qm4 ok hpl, qo5, mkT_mk]
        have hN : nds (T rows (pl + 2)) = 1 + nds (T rows a0) + nds (T rows a1) + nds (T rows a2) + nds (T rows a3) := by rw [qm4 ok hpl]; rfl
        cases hkv1 : valV kv (keyN (key1 (s + 2) (pl + 2))) with
        | some v =>
          obtain ⟨k1, rfl⟩ := hkn _ _ _ hkv1
          refine iteF ?_
          have dg := DGet.t hg1 hu2
          rw [hkv1] at dg
          exact ⟨_, rfl, p, C, dx1, _, _, rfl, hob1, TL.cl, TL.nN, qt2 _ _ _ _, _, rfl, g, _, rfl, dg, q H1 L kv (But3.of S1) hA1 ⟨[], by simp⟩ k1 hkn (Nat.le_add_right _ _) (Nat.le_add_right _ _)⟩
        | none =>
          refine iteT ?_
          obtain ⟨⟨dx2, hbb⟩, _⟩ := id hA1.bk
          refine ⟨_, rfl, p, C, dx1, _, _, rfl, hob1, TL.cl, TL.nB, lF_book _ _ _ _, b, dx2, _, rfl, hbb, bF_nf _ _, ?_⟩
          have hin : ∀ a ∈ [a0, a1, a2, a3], a < rows.length + 2 ∧ dp rows a ≤ s + 1 := fun a ha => by
            obtain ⟨h1, h2, h3, h4⟩ := row_T ok hpl
            obtain ⟨g1, g2, g3, g4⟩ := qK0 ok hpl hdp
            have : a = a0 ∨ a = a1 ∨ a = a2 ∨ a = a3 := by simpa using ha
            rcases this with rfl | rfl | rfl | rfl
            . exact ⟨h1, g1⟩
            . exact ⟨h2, g2⟩
            . exact ⟨h3, g3⟩
            . exact ⟨h4, g4⟩
          have hsum : ([a0, a1, a2, a3].map fun a => nds (T rows a)).sum + 1 = nds (T rows (pl + 2)) := by
            rw [hN]
            simp only [List.map_cons, List.map_nil, List.sum_cons, List.sum_nil]
            lia
          refine ⟨_, rfl, bs[pl], rfl, ⟨_, SqT.of hrw1⟩, fun D hD => qG7 (K := K) (us := vN [a0, a1, a2, a3]) (fun i xs H2 => ∃ Li kvi, LsAt C CB H2 p rp b kk dd g k Li kvi ∧ (∃ e, Li = L ++ e) ∧ KnOk key1 k rows Li kvi ∧ (∀ a ∈ [a0, a1, a2, a3].take i, Tr.In Li (qa5 k (s + 1) (T rows a))) ∧
              xs = vN (([a0, a1, a2, a3].take i).map fun a => Tr.name Li (qa5 k (s + 1) (T rows a))) ∧ H2 D = some (.lst xs) ∧ But3 kk dd g H1 H2 ∧ Li.length ≤ L.length + (([a0, a1, a2, a3].map fun a => nds (T rows a)).take i).sum ∧ kvi.length ≤ kv.length + (([a0, a1, a2, a3].map fun a => nds (T rows a)).take i).sum) (by show 4 < sizeLine; decide) ?_ ?_ ?_ ?_⟩
          . exact ⟨L, kv, hA1.same (qb7 hD), ⟨[], by simp⟩, hkn, fun a ha => by simp at ha, rfl, qa1, But3.of (qb7 hD), Nat.le_add_right _ _, Nat.le_add_right _ _⟩
          . rintro i xs H2 ⟨Li, kvi, hA2, hext, hkn2, hin2, rfl, hD2, B2, hl2, hk2⟩
            refine ⟨hD2, ?_, SqT.of (hA1.tup B2 hrw1)⟩
            rw [qh8, List.length_map, List.length_take]
            exact Nat.min_le_left _ _
          . rintro i xs y H2 hy ⟨Li, kvi, hA2, hext, hkn2, hin2, rfl, hD2, B2, hl2, hk2⟩ Q2 hq
            unfold vN at hy
            rw [List.getElem?_map] at hy
            obtain ⟨a, ha, rfl⟩ := Option.map_eq_some_iff.mp hy
            obtain ⟨ha1, ha2⟩ := hin a (List.mem_of_getElem? ha)
            obtain ⟨⟨dx3, hob2⟩, _, _, _⟩ := id hA2
            have htk : [a0, a1, a2, a3].take (i + 1) = [a0, a1, a2, a3].take i ++ [a] := by rw [List.take_succ, ha]; rfl
            have hns : (([a0, a1, a2, a3].map fun a => nds (T rows a)).take (i + 1)).sum = (([a0, a1, a2, a3].map fun a => nds (T rows a)).take i).sum + nds (T rows a) := by
              rw [← List.map_take, ← List.map_take, htk, List.map_append, List.sum_append]
              simp
            have hts := qN7 ([a0, a1, a2, a3].map fun a => nds (T rows a)) (i + 1)
            have nDk : D ≠ kk := by
              obtain ⟨_, ⟨_, ⟨_, hk, _⟩, _, _⟩, _, _⟩ := id hA1
              exact (qa2 hk hD).symm
            have veq : [V.ref p, V.int (((s + 1 + 1 : Nat) : Int) - 1), V.int ((a : Nat) : Int)] = [V.ref p, V.int ((s + 1 : Nat) : Int), V.int ((a : Nat) : Int)] := by
              rw [show (((s + 1 + 1 : Nat) : Int) - 1) = ((s + 1 : Nat) : Int) by lia]
            refine ⟨_, rfl, p, dx3, _, rfl, hob2, lF_ln _ _ _ _, _, rfl, _, _, rfl, rfl, _, rfl, p, rp, b, kk, dd, g, k, a, Li, kvi, rows, veq, hA2, hA1.rows B2 hR1, ok, ha1, ha2, hkn2, by lia, by lia, fun H3 L3 kv3 B3 A3 ext3 in3 kn3 len3 klen3 => ?_⟩
            have nDd : D ≠ dd := by
              obtain ⟨_, ⟨_, _, hd, _⟩, _, _⟩ := id hA1
              exact (qa2 hd hD).symm
            have nDg : D ≠ g := (qa2 hg1 hD).symm
            have hD3 := B3 _ _ hD2 nDk nDd nDg
            obtain ⟨e2, rfl⟩ := hext
            obtain ⟨e3, rfl⟩ := ext3
            have od2 := hA2.bk.od
            refine hq _ _ hD3 ⟨L ++ e2 ++ e3, kv3, A3.put hD3 nDk, ⟨e2 ++ e3, by rw [List.append_assoc]⟩, kn3, ?_, ?_, qa1, ?_, ?_, ?_⟩
            . intro a' ha'
              rw [htk] at ha'
              rcases List.mem_append.mp ha' with z | z
              . exact (hin2 a' z).app
              . have : a' = a := by simpa using z
                rw [this]; exact in3
            . rw [htk, List.map_append]
              unfold vN
              rw [List.map_append]
              congr 1
              refine congrArg (List.map _) (List.map_congr_left fun a' ha' => ?_)
              exact (Tr.name_app (hin2 a' ha') od2).symm
            . intro x o e n1 n2 n3
              rw [qa6 (qa2 e hD)]
              exact B3 _ _ (B2 _ _ e n1 n2 n3) n1 n2 n3
            . rw [hns]; lia
            . rw [hns]; lia
          . rintro xs H2 ⟨L4, kv4, hA4, ⟨e4, hext⟩, hkn4, hin4, rfl, hD2, B2, hl4, hk4⟩
            have h4 : (vN [a0, a1, a2, a3]).length = 4 := rfl
            rw [h4] at hin4 hl4 hk4 hD2
            have hl4' : L4.length ≤ L.length + ([a0, a1, a2, a3].map fun a => nds (T rows a)).sum := hl4
            have hk4' : kv4.length ≤ kv.length + ([a0, a1, a2, a3].map fun a => nds (T rows a)).sum := hk4
            have i0 := hin4 a0 (by simp)
            have i1 := hin4 a1 (by simp)
            have i2 := hin4 a2 (by simp)
            have i3 := hin4 a3 (by simp)
            refine ⟨D, _, rfl, .inl ⟨SqL.of hD2, fun u3 hu3 => ?_⟩⟩
            have S3 := qb7 (o := .tup (vN (([a0, a1, a2, a3].take 4).map fun a => Tr.name L4 (qa5 k (s + 1) (T rows a))))) hu3
            have hA5 := hA4.same S3
            have hu5 : upd H2 u3 (.tup (vN (([a0, a1, a2, a3].take 4).map fun a => Tr.name L4 (qa5 k (s + 1) (T rows a))))) u3 = some (.tup (vN [Tr.name L4 (qa5 k (s + 1) (T rows a0)), Tr.name L4 (qa5 k (s + 1) (T rows a1)), Tr.name L4 (qa5 k (s + 1) (T rows a2)), Tr.name L4 (qa5 k (s + 1) (T rows a3))])) := by rw [qa1]; rfl
            have B5 := B2.trans (But3.of (a := kk) (b := dd) (c := g) S3)
            generalize upd H2 u3 (.tup (vN (([a0, a1, a2, a3].take 4).map fun a => Tr.name L4 (qa5 k (s + 1) (T rows a))))) = H5 at hA5 hu5 B5 ⊢
            refine ⟨b, kk, dd, u3, L4, _, _, _, _, rfl, hA5.bk, hu5, i0, i1, i2, i3, by lia, fun H6 B6 hB6 => ?_⟩
            obtain ⟨⟨dx5, hob5⟩, ⟨_, ⟨_, hk5, _⟩, hd5, od4⟩, hg5, _⟩ := id hA5
            have npk : p ≠ kk := fun z => by rw [z, hk5] at hob5; cases hob5
            have npd : p ≠ dd := fun z => by rw [z, hd5] at hob5; cases hob5
            have npg : p ≠ g := fun z => by rw [z, hg5] at hob5; cases hob5
            have ngk : g ≠ kk := fun z => by rw [z, hk5] at hg5; cases hg5
            have hob6 := B6 _ _ hob5 npk npd
            have hg6 := B6 _ _ hg5 ngk hgd
            have hu5k : H5 u = some (.tup ((keyN (key1 (s + 2) (pl + 2))).map kV)) := hA1.tup B5 hu2
            have nuk : u ≠ kk := fun z => by rw [z, hk5] at hu5k; cases hu5k
            have nud : u ≠ dd := fun z => by rw [z, hd5] at hu5k; cases hu5k
            have nug : u ≠ g := fun z => by rw [z, hg5] at hu5k; cases hu5k
            have hu6 := B6 _ _ hu5k nuk nud
            rw [← hT] at hB6 ⊢
            obtain ⟨e5, he5, hle5⟩ := ins_ext (qa5 k (s + 1 + 1) (T rows (pl + 2))) L4
            have hi5 := ins_in (qa5 k (s + 1 + 1) (T rows (pl + 2))) L4
            have hkn5 : KnOk key1 k rows (ins (qa5 k (s + 1 + 1) (T rows (pl + 2))) L4) kv4 := by rw [he5]; exact hkn4.ext od4
            have hl5 : (ins (qa5 k (s + 1 + 1) (T rows (pl + 2))) L4).length ≤ L4.length + 1 := by rw [he5, List.length_append]; lia
            have hx5 : ∃ e, ins (qa5 k (s + 1 + 1) (T rows (pl + 2))) L4 = L ++ e := ⟨e4 ++ e5, by rw [he5, hext, List.append_assoc]⟩
            have hrd5 : qj4 (ins (qa5 k (s + 1 + 1) (T rows (pl + 2))) L4) := ins_red hA5.rd (qg3 k (s + 1) _)
            generalize ins (qa5 k (s + 1 + 1) (T rows (pl + 2))) L4 = L5 at hB6 hi5 hkn5 hl5 hx5 hrd5 ⊢
            have dp5 := DPut.t (v := .int (Tr.name L5 (qa5 k (s + 1 + 1) (T rows (pl + 2))) : Nat)) hg6 hu6 (qb8 (by lia))
            refine ⟨_, rfl, p, C, dx5, _, _, rfl, hob6, TL.cl, TL.nN, qt2 _ _ _ _, _, rfl, g, _, rfl, dp5, ?_⟩
            have hkn6 := hkn5.put key1_inj (s := s + 2) (x := pl + 2) hi5
            have hlk := qf9 kv4 (keyN (key1 (s + 2) (pl + 2))) (.int (Tr.name L5 (qa5 k (s + 1 + 1) (T rows (pl + 2))) : Nat))
            have hval : valV (putK kv4 (keyN (key1 (s + 2) (pl + 2))) (.int (Tr.name L5 (qa5 k (s + 1 + 1) (T rows (pl + 2))) : Nat))) (keyN (key1 (s + 2) (pl + 2))) = some (.int (Tr.name L5 (qa5 k (s + 1 + 1) (T rows (pl + 2))) : Nat)) := by rw [qz1, if_pos rfl]
            have hkn6' : KnOk key1 k rows L5 (putK kv4 (keyN (key1 (s + 2) (pl + 2))) (.int (Tr.name L5 (qa5 k (s + 1 + 1) (T rows (pl + 2))) : Nat))) := hkn6
            generalize putK kv4 (keyN (key1 (s + 2) (pl + 2))) (.int (Tr.name L5 (qa5 k (s + 1 + 1) (T rows (pl + 2))) : Nat)) = kv6 at hkn6' hlk hval ⊢
            obtain ⟨⟨dx6, hb6⟩, ⟨bs6, hk6, hbl6, hrow6⟩, hd6, od6⟩ := id hB6
            have nbg : b ≠ g := fun z => by rw [z, hg6] at hb6; cases hb6
            have nkg : kk ≠ g := fun z => ngk z.symm
            have hA7 : LsAt C CB (upd H6 g (.dT kv6)) p rp b kk dd g k L5 kv6 := by
              refine ⟨⟨dx5, by rw [qa6 npg]; exact hob6⟩, ⟨⟨dx6, by rw [qa6 nbg]; exact hb6⟩, ⟨bs6, by rw [qa6 nkg]; exact hk6, hbl6, fun i c r e1 e2 => ?_⟩, by rw [qa6 (Ne.symm hgd)]; exact hd6, od6⟩, qa1, hgd, hrd5⟩
              have := hrow6 i c r e1 e2
              have : c ≠ g := fun z => by rw [z, hg6] at this; cases this
              rw [qa6 this]; exact hrow6 i c r e1 e2
            have hu7 : upd H6 g (.dT kv6) u = some (.tup ((keyN (key1 (s + 2) (pl + 2))).map kV)) := by rw [qa6 nug]; exact hu6
            have hg7 : upd H6 g (.dT kv6) g = some (.dT kv6) := qa1
            have B7 : But3 kk dd g H (upd H6 g (.dT kv6)) := fun x o e n1 n2 n3 => by
              rw [qa6 n3]
              exact B6 _ _ (B5 _ _ (S1 _ _ e) n1 n2 n3) n1 n2
            obtain ⟨⟨dx7, hob7⟩, _⟩ := id hA7
            have dg := DGet.t hg7 hu7
            rw [hval] at dg
            exact ⟨_, rfl, p, C, dx7, _, _, rfl, hob7, TL.cl, TL.nN, qt2 _ _ _ _, _, rfl, g, _, rfl, dg, q _ L5 kv6 B7 hA7 hx5 hi5 hkn6' (by lia) (by lia)⟩
end
end Pr
set_option Elab.async false
set_option linter.all false
set_option maxRecDepth 100000
set_option maxHeartbeats 4000000
namespace Pr
open PySem L2 Qf
section
variable {P : Program} {w : World} {K : PySem.W.Frag} {mg : Str -> Option Value} {base : Heap}
abbrev nLe : List Str := ["shape", "k", "n", "top", "rows", "lessening"]
theorem scLe : FnScope nLe ["shape", "k"] (qa7 qv6) := ⟨rfl, rfl, rfl, by decide +kernel, rfl, by decide +kernel, by decide +kernel⟩
def spLe : Sp := fun vs H Q _ => ∃ (t : Addr) (n tp k : Nat) (rows : List Row), vs = [.ref t, .int (k : Nat)] ∧ qh9 H t (n + 1) tp rows ∧ nds (T rows tp) ≤ 485 ∧ 1 ≤ k ∧ k ≤ 4 ∧
  ∀ (H' : Hp) (t' tp' : Nat) (rws : List Row), Same H H' -> qh9 H' t' n tp' rws -> T rws tp' = qa5 k (n + 1) (T rows tp) -> Q (.ref t') H'
theorem ok_le {f fW fI fL fN fS fK C CB : Addr} {fd fdW fdI fdL fdS fdK : FuncData} (F : Fun K "lesser" "lesser" qv6 f fd) (B : Blt mg) (TL : LsIn K mg C) (TB : BookIn K mg CB)
    (hW : mg "want_shape" = some (.ref fW)) (FW : Fun K "want_shape" "want_shape" qE4 fW fdW) (bW : Binds K fdW ["shape"] []) (GW : FnOk P w K mg base CX0 16 fW fdW ["shape"] qJ6)
    (hK : mg "is_whole" = some (.ref fK)) (FK : Fun K "is_whole" "is_whole" qy3 fK fdK) (bK : Binds K fdK ["thing"] [])
    (ML : Mk K C fI) (bI : Binds K fdI ["self", "rows", "k"] []) (GI : FnOk P w K mg base CX0 3 fI fdI ["self", "rows", "k"] (spLsI C CB))
    (MN : Meth K C "lesser_number" fL) (bL : Binds K fdL ["self", "size", "number"] []) (GL : ∀ s, FnOk P w K mg base CX0 (s + 4) fL fdL ["self", "size", "number"] (spLsN C CB s))
    (hS : mg "shape_of" = some (.ref fS)) (FS : Fun K "shape_of" "shape_of" qs5 fS fdS) (bS : Binds K fdS ["n", "top", "rows"] []) (GS : FnOk P w K mg base CX0 15 fS fdS ["n", "top", "rows"] spSO) :
    FnOk P w K mg base CX0 17 f fd ["shape", "k"] spLe := by
  have GK : FnOk P w K mg base CX0 1 fK fdK ["thing"] qA1 := qA2 FK B
  refine F.ok scLe (fun vs H Q E h => ?_) (fun cdv A outer s H vs Q E hr h => ?_)
  . obtain ⟨t, n, tp, k, rows, rfl, _⟩ := h
    rfl
  . obtain ⟨t, n, tp, k, rows, rfl, hSh, hnd, hk1, hk4, q⟩ := h
    have hr1 : Room 1 _ := hr.mono (by decide)
    have hr4 : Room 4 _ := hr.mono (by decide)
    have hr15 : Room 15 _ := hr.mono (by decide)
    have hn := hSh.2.1.size
    have hrn : Room (n + 4) _ := hr.mono (by lia)
    refine seqE ⟨_, ⟨qn7 (qa8 GW hr (by rfl) hW FW.kp bW .nil qb9 (qa0 (pv 0) qa3))⟩, ?_⟩
    refine seqE ⟨_, ⟨qr8 (pv 0) (qr7 rfl (qc2 (qc0 (i := 2) scLe.nd rfl (by first | exact Or.inl rfl | exact Or.inr rfl)) (qc2 (qc0 (i := 3) scLe.nd rfl (by first | exact Or.inl rfl | exact Or.inr rfl)) (qc2 (qc0 (i := 4) scLe.nd rfl (by first | exact Or.inl rfl | exact Or.inr rfl)) ql6))))⟩, ?_⟩
    refine seqE ⟨_, ⟨qe0 (qb5 qw8 (pv 2) qa4 (qb6 _)) qe8 qb4⟩, ?_⟩
    refine seqE ⟨_, ⟨qe0 (PW.pt (qq7 (ql5 (qg8 (qa8 GK hr1 (by rfl) hK FK.kp bK .nil qb9 (qa0 (pv 1) qa3)))) (qk8 (ql5 (pt_chain qw9 qw9 qa4 (pv 1) qa4))))) qe8 qb4⟩, ?_⟩
    refine seqE ⟨_, ⟨qc4 (i := 5) scLe.nd rfl (by first | exact Or.inl rfl | exact Or.inr rfl) (pe_make ML GI hr4 (by rfl) TL.mgC bI .nil qb9 (qa0 (pv 4) (qa0 (pv 1) qa3)))⟩, ?_⟩
    refine qi2 ⟨_, ⟨qb3 (qa8 GS hr15 (by rfl) hS FS.kp bS .nil qb9 (Ars2.go (.cons ⟨qb1 qe2 (pv 2) qa4⟩ (.cons ⟨qI4 (pv 5) TL.cl MN (GL n) hrn bL .nil qb9 (qa0 (pv 2) (qa0 (pv 3) qa3))⟩ (.cons ⟨qi3 (qi3 (pv 5) rfl) rfl⟩ .nil rfl) rfl) rfl)))⟩, ?_⟩
    refine ⟨_, rfl, t, n + 1, tp, rows, rfl, hSh, fun H1 s1 => ?_⟩
    obtain ⟨⟨rp, ht, hR⟩, cn, hl⟩ := qf7 hSh s1
    refine ⟨_, rfl, t, _, rfl, SqT.of ht, rfl, _, _, rfl, _, _, rfl, _, _, rfl, rfl, ?_⟩
    refine ⟨_, rfl, rfl, _, rfl, ?_⟩
    have hne : ¬ V.int ((n + 1 : Nat) : Int) = V.int 0 := fun z => by injection z with z; lia
    rw [decide_eq_false hne]
    refine iteF ?_
    refine ⟨_, rfl, (k : Int), rfl, _, rfl, iteF ?_⟩
    refine ⟨_, rfl, _, _, rfl, rfl, _, rfl, ?_⟩
    refine ite2 (fun _ => ⟨_, _, rfl, rfl, _, rfl, ?_⟩) (fun h1 => absurd (decide_eq_true (show (1 : Int) ≤ (k : Int) by lia)) h1)
    rw [decide_eq_true (show (k : Int) ≤ 4 by lia)]
    refine iteF ?_
    refine ⟨_, rfl, _, rfl, fun p dx hp hdx hne2 => ⟨p, dx, rp, k, rfl, qa1, fun b kk dd g H3 hb hkk hdd hg hA3 B3 => ⟨rfl, ?_⟩⟩⟩
    have N1 : ∀ x, upd (upd H1 dx (.own p)) p (.ins C dx []) x = none -> H1 x = none := fun x e => by
      have n1 : x ≠ p := fun z => by rw [z, qa1] at e; cases e
      rw [qa6 n1] at e
      have n2 : x ≠ dx := fun z => by rw [z, qa1] at e; cases e
      rw [qa6 n2] at e
      exact e
    have S3 : Same H1 H3 := fun x o e => B3 _ _ (by rw [qa6 (qa2 e hp), qa6 (qa2 e hdx)]; exact e) (qa2 e hp)
    obtain ⟨⟨dx3, hob3⟩, _⟩ := id hA3
    have hR3 : RowsAt H3 rp rows := hR.mono S3.tups
    refine ⟨_, rfl, _, _, rfl, rfl, _, rfl, p, dx3, _, rfl, hob3, lF_ln _ _ _ _, _, rfl, _, rfl, p, rp, b, kk, dd, g, k, tp, [], [], rows, rfl, hA3, hR3, cn.rok, cn.inn, cn.deep, KnOk.nil, by simp; lia, by simp; lia, fun H4 L4 kv4 B4 hA4 hx4 hi4 _ hl4 _ => ?_⟩
    obtain ⟨⟨dx4, hob4⟩, ⟨⟨dxb, hb4⟩, hk4', hd4, od4⟩, _, _⟩ := id hA4
    have S4 : Same H1 H4 := fun x o e => B4 _ _ (S3 _ _ e) (qa2 e (N1 _ hkk)) (qa2 e (N1 _ hdd)) (qa2 e (N1 _ hg))
    have hred : Tr.Red (qa5 k (n + 1) (T rows tp)) := qg3 k n _
    have hdep : Tr.dep (qa5 k (n + 1) (T rows tp)) ≤ n := qn3 k n _ (qq6 cn)
    refine ⟨_, rfl, p, C, dx4, _, _, rfl, hob4, TL.cl, TL.nB, lF_book _ _ _ _, b, CB, dxb, _, _, rfl, hb4, TB.cl, TB.nK, qr6 _ _, ?_⟩
    have hxL : Tr.name L4 (qa5 k (n + 1) (T rows tp)) < (Tr.rowsOf L4).length + 2 := by
      rw [Tr.rowsOf_len]
      rcases Tr.name_in od4 hi4 with ⟨_, e⟩ | ⟨_, e⟩ | ⟨i, hi, e⟩
      . lia
      . lia
      . have := (List.getElem?_eq_some_iff.mp hi).1
        lia
    have hL900 : (Tr.rowsOf L4).length ≤ 900 := by
      rw [Tr.rowsOf_len]
      simp at hl4
      lia
    have hdpL : dp (Tr.rowsOf L4) (Tr.name L4 (qa5 k (n + 1) (T rows tp))) ≤ n := by rw [qo4 od4 _ hi4]; exact hdep
    have hokL := Tr.rowsOf_ok od4
    obtain ⟨cn2, hT2⟩ := qQ6 (n := n) (by lia) hokL hxL hdpL (qg2 od4 hA4.rd) (Tr.rowsOf_nodup od4)
    have hel := qA4 (qf5 hokL n [] _ (qi5 _) hxL hdpL).1
    obtain ⟨bs4, hks, hbl4, hrow4⟩ := hk4'
    have veq : [V.int (((n + 1 : Nat) : Int) - 1), V.int (Tr.name L4 (qa5 k (n + 1) (T rows tp)) : Nat), V.ref kk] = [V.int ((n : Nat) : Int), V.int (Tr.name L4 (qa5 k (n + 1) (T rows tp)) : Nat), V.ref kk] := by rw [show (((n + 1 : Nat) : Int) - 1) = ((n : Nat) : Int) by lia]
    refine ⟨kk, n, _, Tr.rowsOf L4, veq, ⟨bs4, .inr hks, hbl4, hrow4⟩, hokL, hL900, hxL, by lia, hdpL, fun H5 t5 s5 tell => ?_⟩
    exact q H5 t5 _ _ (s1.trans (S4.trans s5)) ⟨tell, cn2, by rw [qf6]; lia⟩ (hT2.trans (qq3 od4 _ hi4))
end
end Pr
set_option Elab.async false
set_option linter.all false
set_option maxRecDepth 100000
set_option maxHeartbeats 4000000
namespace Qf
open Tr
theorem post_mk {L : List Tr} (ho : Ord L) (t0 t1 t2 t3 : Tr) : post (mk t0 t1 t2 t3) L = ins (mk t0 t1 t2 t3) (post t3 (post t2 (post t1 (post t0 L)))) := by
  rcases qq5 t0 t1 t2 t3 with ⟨⟨rfl, rfl, rfl, rfl⟩, e⟩ | ⟨⟨rfl, rfl, rfl, rfl⟩, e⟩ | e
  . rw [e]; rfl
  . rw [e]
    show L = ins .o L
    unfold ins
    rw [if_pos (.inr (.inl rfl))]
  . rw [e]
    by_cases hm : Tr.nd t0 t1 t2 t3 ∈ L
    . rw [qi1 (.inr (.inr hm))]
      obtain ⟨i, hi, ei⟩ := List.mem_iff_getElem.mp hm
      have kin := fun s hs => (kid_in ho (i := i) (t := .nd t0 t1 t2 t3) (by rw [List.getElem?_eq_getElem hi, ei]) (s := s) hs).1
      rw [qi1 (kin t0 (by simp [kids])), qi1 (kin t1 (by simp [kids])), qi1 (kin t2 (by simp [kids])), qi1 (kin t3 (by simp [kids]))]
      unfold ins
      rw [if_pos (.inr (.inr hm))]
    . have hn := not_below hm
      unfold ins
      rw [if_neg]
      . show (if Tr.nd t0 t1 t2 t3 ∈ L then L else _) = _
        rw [if_neg hm]
      . rintro (z | z | z)
        . cases z
        . cases z
        . exact hn z
end Qf
namespace Pr
open PySem L2 Qf
def nT (L : List Tr) : List (List Key × V) := tabl keyN ([0, 0, 0, 0] :: [1, 1, 1, 1] :: Tr.rowsOf L) 0
theorem nT_len (L : List Tr) : (nT L).length = L.length + 2 := by
  unfold nT
  rw [qk3]
  simp [Tr.rowsOf_len]
theorem nT_val (L : List Tr) (r : Row) : valV (nT L) (keyN r) = if r ∈ ([0, 0, 0, 0] :: [1, 1, 1, 1] :: Tr.rowsOf L : List Row) then some (.int (([0, 0, 0, 0] :: [1, 1, 1, 1] :: Tr.rowsOf L : List Row).idxOf r : Nat)) else none := by
  unfold nT
  rw [qm9 (fun a b => qk2)]
  split
  . rw [Nat.zero_add]
    exact congrArg (fun n : Nat => some (V.int ((n : Nat) : Int))) (qM9 (by infer_instance) (by infer_instance) _ _)
  . rfl
theorem qN8 {α : Type} [BEq α] [LawfulBEq α] {a b : α} {l : List α} (h : a ≠ b) : (a :: l).idxOf b = l.idxOf b + 1 := by
  rw [List.idxOf_cons]
  have : (a == b) = false := by simpa using h
  rw [this]
  rfl
theorem nT_in {L : List Tr} (ho : Tr.Ord L) (hr : qj4 L) {t0 t1 t2 t3 : Tr} (i0 : Tr.In L t0) (i1 : Tr.In L t1) (i2 : Tr.In L t2) (i3 : Tr.In L t3) (hm : Tr.In L (mk t0 t1 t2 t3)) :
    valV (nT L) (keyN [Tr.name L t0, Tr.name L t1, Tr.name L t2, Tr.name L t3]) = some (.int (Tr.name L (mk t0 t1 t2 t3) : Nat)) := by
  rw [nT_val]
  rcases qq5 t0 t1 t2 t3 with ⟨⟨rfl, rfl, rfl, rfl⟩, e⟩ | ⟨⟨rfl, rfl, rfl, rfl⟩, e⟩ | e
  . rw [e]
    rw [if_pos (by exact List.mem_cons_self)]
    rfl
  . rw [e]
    rw [if_pos (by exact List.mem_cons_of_mem _ List.mem_cons_self)]
    rfl
  . rw [e] at hm ⊢
    have hm' : Tr.nd t0 t1 t2 t3 ∈ L := by rcases hm with h | h | h; cases h; cases h; exact h
    obtain ⟨i, hi, ei⟩ := List.mem_iff_getElem.mp hm'
    have ei' : L[i]? = some (.nd t0 t1 t2 t3) := by rw [List.getElem?_eq_getElem hi, ei]
    have hix := row_idx ho ei'
    have hmr : (Tr.kids (.nd t0 t1 t2 t3)).map (Tr.name L) ∈ Tr.rowsOf L := List.mem_of_getElem? (Tr.rowsOf_at ei')
    have hun := qg2 ho hr _ hmr
    have e4 : (Tr.kids (.nd t0 t1 t2 t3)).map (Tr.name L) = [Tr.name L t0, Tr.name L t1, Tr.name L t2, Tr.name L t3] := rfl
    rw [e4] at hix hmr hun
    rw [if_pos (List.mem_cons_of_mem _ (List.mem_cons_of_mem _ hmr)), Tr.name_at ho ei']
    rw [qN8 (fun z => hun (.inl z.symm)), qN8 (fun z => hun (.inr z.symm)), hix]
theorem nT_out {L : List Tr} (ho : Tr.Ord L) {t0 t1 t2 t3 : Tr} (i0 : Tr.In L t0) (i1 : Tr.In L t1) (i2 : Tr.In L t2) (i3 : Tr.In L t3) (hm : ¬ Tr.In L (mk t0 t1 t2 t3)) :
    valV (nT L) (keyN [Tr.name L t0, Tr.name L t1, Tr.name L t2, Tr.name L t3]) = none ∧ putK (nT L) (keyN [Tr.name L t0, Tr.name L t1, Tr.name L t2, Tr.name L t3]) (.int ((nT L).length : Nat)) = nT (L ++ [mk t0 t1 t2 t3]) := by
  rcases qq5 t0 t1 t2 t3 with ⟨_, e⟩ | ⟨_, e⟩ | e
  . exact absurd (.inl e) hm
  . exact absurd (.inr (.inl e)) hm
  . have hne : ¬ ((t0 = Tr.z ∧ t1 = Tr.z ∧ t2 = Tr.z ∧ t3 = Tr.z) ∨ (t0 = Tr.o ∧ t1 = Tr.o ∧ t2 = Tr.o ∧ t3 = Tr.o)) := by
      rintro (⟨rfl, rfl, rfl, rfl⟩ | ⟨rfl, rfl, rfl, rfl⟩) <;> cases e
    have hp := fun z => hne (plain_names (L := L).mp z)
    rw [e] at hm
    have hL : Tr.nd t0 t1 t2 t3 ∉ L := fun z => hm (.inr (.inr z))
    have hk : ∀ s ∈ Tr.kids (.nd t0 t1 t2 t3), Tr.In L s := fun s hs => by
      have : s = t0 ∨ s = t1 ∨ s = t2 ∨ s = t3 := by simpa [Tr.kids] using hs
      rcases this with rfl | rfl | rfl | rfl <;> assumption
    have hmem := qJ7 ho hk
    have e4 : (Tr.kids (.nd t0 t1 t2 t3)).map (Tr.name L) = [Tr.name L t0, Tr.name L t1, Tr.name L t2, Tr.name L t3] := rfl
    rw [e4] at hmem
    have hnr : [Tr.name L t0, Tr.name L t1, Tr.name L t2, Tr.name L t3] ∉ ([0, 0, 0, 0] :: [1, 1, 1, 1] :: Tr.rowsOf L : List Row) := fun z => by
      rcases List.mem_cons.mp z with z | z
      . exact hp (.inl z)
      rcases List.mem_cons.mp z with z | z
      . exact hp (.inr z)
      . exact hL (hmem.mp z)
    refine ⟨by rw [nT_val, if_neg hnr], ?_⟩
    rw [e]
    have h1 := qA5 (key := keyN) (k := 0) (fun a b => qk2) hnr
    have er := qr4 ho hk
    rw [e4] at er
    unfold nT
    rw [qk3, er]
    rw [Nat.zero_add] at h1
    exact h1
def key2 (s x : Nat) : List Nat := [x, s]
theorem key2_inj : ∀ s x s' x', key2 s x = key2 s' x' -> s = s' ∧ x = x' := fun s x s' x' h => by
  simp only [key2, List.cons.injEq, and_true] at h
  exact ⟨h.2, h.1⟩
theorem sum_ones {rows : List Row} (ok : qc5 rows) {p a b c d : Nat} (hp : rows[p]? = some [a, b, c, d]) (hd : dp rows (p + 2) ≤ 1) :
    [(a : Int), (b : Int), (c : Int), (d : Int)].sum = ((ful (T rows a) + ful (T rows b) + ful (T rows c) + ful (T rows d) : Nat) : Int) := by
  obtain ⟨ha, hb, hc, hd'⟩ := row_T ok hp
  obtain ⟨g1, g2, g3, g4⟩ := qK0 ok hp hd
  have h1 := qq1 ok ha g1
  have h2 := qq1 ok hb g2
  have h3 := qq1 ok hc g3
  have h4 := qq1 ok hd' g4
  rw [qH3 ok ha, qH3 ok hb, qH3 ok hc, qH3 ok hd']
  simp only [List.sum_cons, List.sum_nil]
  split <;> split <;> split <;> split <;> lia
end Pr
set_option Elab.async false
set_option linter.all false
set_option maxRecDepth 100000
set_option maxHeartbeats 4000000
namespace Pr
open PySem L2 Qf
section
variable {P : Program} {w : World} {K : PySem.W.Frag} {mg : Str -> Option Value} {base : Heap}
abbrev pLl : List Str := ["_law_old", "_law_new", "_law_known", "_law_number_here", "_law_size", "_law_wanted"]
abbrev nLl : List Str := ["_law_old", "_law_new", "_law_known", "_law_number_here", "_law_size", "_law_wanted", "_law_quarters"]
theorem scLl : FnScope nLl pLl (qa7 lLess) := ⟨rfl, rfl, rfl, by decide +kernel, rfl, by decide +kernel, by decide +kernel⟩
def spLl (s : Nat) : Sp := fun vs H Q _ => ∃ (rp e g : Addr) (k x : Nat) (L : List Tr) (kv : List (List Key × V)) (rows : List Row), vs = [.ref rp, .ref e, .ref g, .int (x : Nat), .int ((s + 1 : Nat) : Int), .int (k : Nat)] ∧ RowsAt H rp rows ∧ qc5 rows ∧ x < rows.length + 2 ∧ dp rows x ≤ s + 1 ∧
  H e = some (.dT (nT L)) ∧ Tr.Ord L ∧ qj4 L ∧ H g = some (.dT kv) ∧ e ≠ g ∧ KnOk key2 k rows L kv ∧ L.length + nds (T rows x) ≤ 900 ∧ kv.length + nds (T rows x) ≤ 900 ∧
  ∀ (H' : Hp) (kv' : List (List Key × V)), But2 e g H H' -> H' e = some (.dT (nT (Tr.post (qa5 k (s + 1) (T rows x)) L))) -> H' g = some (.dT kv') -> KnOk key2 k rows (Tr.post (qa5 k (s + 1) (T rows x)) L) kv' -> kv'.length ≤ kv.length + nds (T rows x) -> Q (.int (Tr.name (Tr.post (qa5 k (s + 1) (T rows x)) L) (qa5 k (s + 1) (T rows x)) : Nat)) H'
theorem But2.tup {e g : Addr} {H H' : Hp} {m n : List (List Key × V)} (he : H e = some (.dT m)) (hg : H g = some (.dT n)) (B : But2 e g H H') {x : Addr} {u : List V} (h : H x = some (.tup u)) : H' x = some (.tup u) :=
  B _ _ h (fun z => by rw [z, he] at h; cases h) (fun z => by rw [z, hg] at h; cases h)
theorem ok_ll {f : Addr} {fd : FuncData} (F : Fun K "_law_less" "_law_less" lLess f fd) (B : Blt mg) (hsm : mg "sum" = none) (hF : mg "_law_less" = some (.ref f)) (bF : Binds K fd pLl []) : ∀ s, FnOk P w K mg base CX0 (s + 1) f fd pLl (spLl s) := by
  intro s
  induction s with
  | zero =>
    refine F.ok scLl (fun vs H Q E h => ?_) (fun cdv A outer s0 H vs Q E hr h => ?_)
    . obtain ⟨rp, e, g, k, x, L, kv, rows, rfl, _⟩ := h
      rfl
    . obtain ⟨rp, e, g, k, x, L, kv, rows, rfl, hR, ok, hx, hdp, he, ho, hrd, hg, neg, hkn, hL, hkv, q⟩ := h
      refine seqE ⟨_, ⟨qe0 (qb5 qn5 (pv 3) qa4 (qb6 _)) (qb0 (qb3 (pv 3))) qb4⟩, ?_⟩
      refine seqE ⟨_, ⟨qe0 (qb5 qw8 (pv 4) qa4 (qb6 _)) (qb0 (qb3 (qc9 qt9 (by rfl) B.int PyProof.Rows.boot_int (qa0 (qg6 op_ge (qa9 (call_sumT rfl) (by rfl) hsm PyProof.Rows.boot_sum (qa0 (qf3 qf2 (pv 0) (qb1 qe2 (pv 3) qa4) (fun _ _ => rfl)) qa3)) (pv 5) (qb6 _)) qa3)))) qb4⟩, ?_⟩
      refine ⟨_, qe8, ?_⟩
      refine ⟨_, rfl, _, _, rfl, rfl, _, rfl, ?_⟩
      refine ite2 (fun hc => ?_) (fun hc => ?_)
      . have x2 : x < 2 := by have := of_decide_eq_true hc; lia
        have ht : qa5 k (0 + 1) (T rows x) = T rows x ∧ Tr.post (T rows x) L = L ∧ Tr.name L (T rows x) = x := by
          match x, x2 with
          | 0, _ => rw [qi0]; exact ⟨ql0 _ _, rfl, rfl⟩
          | 1, _ => rw [qo3]; exact ⟨qj6 _ _, rfl, rfl⟩
        rw [ht.1, ht.2.1, ht.2.2] at q
        exact ⟨_, rfl, q H kv (But2.refl _ _ _) he hg hkn (Nat.le_add_right _ _)⟩
      . have x2 : ¬ x < 2 := fun z => hc (decide_eq_true (by lia))
        obtain ⟨pl, a0, a1, a2, a3, rfl, hpl⟩ := qm3 ok hx x2
        obtain ⟨bs, hrp, hbl, hrow⟩ := id hR
        have hpb : pl < bs.length := by rw [hbl]; exact (List.getElem?_eq_some_iff.mp hpl).1
        have hbp : bs[pl]? = some bs[pl] := List.getElem?_eq_getElem hpb
        have hrw := hrow pl _ _ hbp hpl
        refine ⟨_, rfl, rfl, _, rfl, ?_⟩
        rw [decide_eq_true (show V.int ((0 + 1 : Nat) : Int) = V.int 1 from rfl)]
        refine iteT ?_
        refine ⟨_, rfl, _, rfl, _, _, rfl, rfl, rp, _, ((pl : Nat) : Int), .ref bs[pl], rfl, congrArg V.int (by lia), SqT.of hrp, qj2 (by rw [List.getElem?_map, hbp]; rfl), _, [(a0 : Int), (a1 : Int), (a2 : Int), (a3 : Int)], rfl, SqT.of hrw, ?_⟩
        refine ⟨_, rfl, _, _, rfl, rfl, .inr ⟨_, rfl, ?_⟩⟩
        rw [sum_ones ok hpl hdp]
        have ht : qa5 k (0 + 1) (T rows (pl + 2)) = if k ≤ ful (T rows a0) + ful (T rows a1) + ful (T rows a2) + ful (T rows a3) then .o else .z := by rw [qm4 ok hpl, qn2]
        rw [ht] at q
        by_cases hc' : k ≤ ful (T rows a0) + ful (T rows a1) + ful (T rows a2) + ful (T rows a3)
        . rw [if_pos hc'] at q
          rw [decide_eq_true (show (k : Int) ≤ ((ful (T rows a0) + ful (T rows a1) + ful (T rows a2) + ful (T rows a3) : Nat) : Int) by lia)]
          exact q H kv (But2.refl _ _ _) he hg hkn (Nat.le_add_right _ _)
        . rw [if_neg hc'] at q
          rw [decide_eq_false (show ¬ (k : Int) ≤ ((ful (T rows a0) + ful (T rows a1) + ful (T rows a2) + ful (T rows a3) : Nat) : Int) by lia)]
          exact q H kv (But2.refl _ _ _) he hg hkn (Nat.le_add_right _ _)
  | succ s ih =>
    refine F.ok scLl (fun vs H Q E h => ?_) (fun cdv A outer s0 H vs Q E hr h => ?_)
    . obtain ⟨rp, e, g, k, x, L, kv, rows, rfl, _⟩ := h
      rfl
    . obtain ⟨rp, e, g, k, x, L, kv, rows, rfl, hR, ok, hx, hdp, he, ho, hrd, hg, neg, hkn, hL, hkv, q⟩ := h
      have hu : A.units + 3 + 1 < cLine := by
        have h2 : A.units + 3 + 16 * (s + 1) + 200 < cLine := hr.un
        lia
      refine seqE ⟨_, ⟨qe0 (qb5 qn5 (pv 3) qa4 (qb6 _)) (qb0 (qb3 (pv 3))) qb4⟩, ?_⟩
      refine seqE ⟨_, ⟨qe0 (qb5 qw8 (pv 4) qa4 (qb6 _)) qe8 qb4⟩, ?_⟩
      refine seqE ⟨_, ⟨qe0 (qt4 (ql9 hu (qg9 (qa0 (pv 3) (qa0 (pv 4) qa3))) (pv 2)))
        (StB.go (.cons ⟨qc4 (i := 6) scLl.nd rfl (by first | exact Or.inl rfl | exact Or.inr rfl) (PEb.go ⟨qc9 (tupO K rfl) (by rfl) B.tuple PyProof.Rows.boot_tuple (Ars2.go (.cons ⟨qf4 nLl (qa7 lLess) rfl rfl rfl scLl.nd (qt7 (qf3 qf2 (pv 0) (qb1 qe2 (pv 3) qa4) (fun _ _ => rfl)))
            (fun cl C fp s₀ H₀ => qa8 ih hr (by rfl) hF F.kp bF .nil qb9 (Ars2.go (.cons ⟨pv 1⟩ (.cons ⟨pv 2⟩ (.cons ⟨pv 3⟩ (.cons ⟨pv 0⟩ (.cons ⟨qb1 qe2 (pv 5) qa4⟩ (.cons ⟨pv 6⟩ .nil rfl) rfl) rfl) rfl) rfl) rfl)))⟩ .nil rfl))⟩)⟩
        (.cons ⟨qe0 (qt4 (ql9 hu (pv 6) (pv 1))) (qb0 (qn9 hu (pv 1) (pv 6) (qa9 qF2 (by rfl) B.len PySem.boot_len (qa0 (pv 1) qa3)) (by rfl))) qb4⟩
        (.one ⟨qn9 hu (pv 2) (qg9 (qa0 (pv 3) (qa0 (pv 4) qa3))) (ql8 hu (pv 1) (pv 6) (fun _ _ => rfl)) (by rfl)⟩)))) qb4⟩, ?_⟩
      refine qi2 ⟨_, ⟨qb3 (ql8 hu (pv 2) (qg9 (qa0 (pv 3) (qa0 (pv 4) qa3))) (fun _ _ => rfl))⟩, ?_⟩
      refine ⟨_, rfl, _, _, rfl, rfl, _, rfl, ?_⟩
      refine ite2 (fun hc => ?_) (fun hc => ?_)
      . have x2 : x < 2 := by have := of_decide_eq_true hc; lia
        have ht : qa5 k (s + 1 + 1) (T rows x) = T rows x ∧ Tr.post (T rows x) L = L ∧ Tr.name L (T rows x) = x := by
          match x, x2 with
          | 0, _ => rw [qi0]; exact ⟨ql0 _ _, rfl, rfl⟩
          | 1, _ => rw [qo3]; exact ⟨qj6 _ _, rfl, rfl⟩
        rw [ht.1, ht.2.1, ht.2.2] at q
        exact ⟨_, rfl, q H kv (But2.refl _ _ _) he hg hkn (Nat.le_add_right _ _)⟩
      . have x2 : ¬ x < 2 := fun z => hc (decide_eq_true (by lia))
        obtain ⟨pl, a0, a1, a2, a3, rfl, hpl⟩ := qm3 ok hx x2
        have hne : ¬ V.int ((s + 1 + 1 : Nat) : Int) = V.int 1 := fun z => by injection z with z; lia
        refine ⟨_, rfl, rfl, _, rfl, ?_⟩
        rw [decide_eq_false hne]
        refine iteF ?_
        refine ⟨_, rfl, _, rfl, (by show 2 ≤ sizeLine; decide), fun u hu1 => ?_⟩
        have keyat : ∀ {H1 : Hp} {u : Addr}, upd H1 u (.tup [.int ((pl + 2 : Nat) : Int), .int ((s + 1 + 1 : Nat) : Int)]) u = some (.tup ((keyN (key2 (s + 2) (pl + 2))).map kV)) := fun {H1 u} => by rw [qa1, qk9]; rfl
        have hu2 := keyat (H1 := H) (u := u)
        have S1 := qb7 (o := .tup [.int ((pl + 2 : Nat) : Int), .int ((s + 1 + 1 : Nat) : Int)]) hu1
        have he1 := S1 _ _ he
        have hg1 := S1 _ _ hg
        have hR1 := hR.mono S1.tups
        generalize upd H u (.tup [.int ((pl + 2 : Nat) : Int), .int ((s + 1 + 1 : Nat) : Int)]) = H1 at hu2 S1 he1 hg1 hR1 ⊢
        refine ⟨_, rfl, g, _, rfl, DGet.t hg1 hu2, _, rfl, ?_⟩
        have hT : qa5 k (s + 1 + 1) (T rows (pl + 2)) = mk (qa5 k (s + 1) (T rows a0)) (qa5 k (s + 1) (T rows a1)) (qa5 k (s + 1) (T rows a2)) (qa5 k (s + 1) (T rows a3)) := by rw [qm4 ok hpl, qo5]
        have hN : nds (T rows (pl + 2)) = 1 + nds (T rows a0) + nds (T rows a1) + nds (T rows a2) + nds (T rows a3) := by rw [qm4 ok hpl]; rfl
        cases hkv1 : valV kv (keyN (key2 (s + 2) (pl + 2))) with
        | some v =>
          obtain ⟨k1, rfl⟩ := hkn _ _ _ hkv1
          refine iteF ?_
          rw [qi1 k1] at q
          refine ⟨_, rfl, _, rfl, _, rfl, (by show 2 ≤ sizeLine; decide), fun u2 hu3 => ?_⟩
          have dg := DGet.t (qc3 (u := .tup [.int ((pl + 2 : Nat) : Int), .int ((s + 1 + 1 : Nat) : Int)]) hg1 hu3) keyat
          rw [hkv1] at dg
          exact ⟨g, _, rfl, dg, q _ kv (But2.of (S1.trans (qb7 hu3))) (qc3 he1 hu3) (qc3 hg1 hu3) hkn (Nat.le_add_right _ _)⟩
        | none =>
          refine iteT ?_
          obtain ⟨bs, hrp, hbl, hrow⟩ := id hR1
          have hpb : pl < bs.length := by rw [hbl]; exact (List.getElem?_eq_some_iff.mp hpl).1
          have hbp : bs[pl]? = some bs[pl] := List.getElem?_eq_getElem hpb
          have hrw := hrow pl _ _ hbp hpl
          have hin : ∀ a ∈ [a0, a1, a2, a3], a < rows.length + 2 ∧ dp rows a ≤ s + 1 := fun a ha => by
            obtain ⟨h1, h2, h3, h4⟩ := row_T ok hpl
            obtain ⟨g1, g2, g3, g4⟩ := qK0 ok hpl hdp
            have : a = a0 ∨ a = a1 ∨ a = a2 ∨ a = a3 := by simpa using ha
            rcases this with rfl | rfl | rfl | rfl
            . exact ⟨h1, g1⟩
            . exact ⟨h2, g2⟩
            . exact ⟨h3, g3⟩
            . exact ⟨h4, g4⟩
          have hsum : ([a0, a1, a2, a3].map fun a => nds (T rows a)).sum + 1 = nds (T rows (pl + 2)) := by
            rw [hN]
            simp only [List.map_cons, List.map_nil, List.sum_cons, List.sum_nil]
            lia
          refine ⟨_, rfl, _, rfl, _, _, rfl, rfl, rp, _, ((pl : Nat) : Int), .ref bs[pl], rfl, congrArg V.int (by lia), SqT.of hrp, qj2 (by rw [List.getElem?_map, hbp]; rfl), bs[pl], rfl, ⟨_, SqT.of hrw⟩, fun D hD => qG7 (K := K) (us := vN [a0, a1, a2, a3]) (fun i xs H2 => ∃ Li kvi, Li = ([a0, a1, a2, a3].take i).foldl (fun M a => Tr.post (qa5 k (s + 1) (T rows a)) M) L ∧ Tr.Ord Li ∧ qj4 Li ∧ H2 e = some (.dT (nT Li)) ∧ H2 g = some (.dT kvi) ∧ KnOk key2 k rows Li kvi ∧ (∀ a ∈ [a0, a1, a2, a3].take i, Tr.In Li (qa5 k (s + 1) (T rows a))) ∧
              xs = vN (([a0, a1, a2, a3].take i).map fun a => Tr.name Li (qa5 k (s + 1) (T rows a))) ∧ H2 D = some (.lst xs) ∧ But2 e g H1 H2 ∧ Li.length ≤ L.length + (([a0, a1, a2, a3].map fun a => nds (T rows a)).take i).sum ∧ kvi.length ≤ kv.length + (([a0, a1, a2, a3].map fun a => nds (T rows a)).take i).sum) (by show 4 < sizeLine; decide) ?_ ?_ ?_ ?_⟩
          . exact ⟨L, kv, rfl, ho, hrd, qc3 he1 hD, qc3 hg1 hD, hkn, fun a ha => by simp at ha, rfl, qa1, But2.of (qb7 hD), Nat.le_add_right _ _, Nat.le_add_right _ _⟩
          . rintro i xs H2 ⟨Li, kvi, _, _, _, _, _, _, _, rfl, hD2, B2, _, _⟩
            refine ⟨hD2, ?_, SqT.of (But2.tup he1 hg1 B2 hrw)⟩
            rw [qh8, List.length_map, List.length_take]
            exact Nat.min_le_left _ _
          . rintro i xs y H2 hy ⟨Li, kvi, eL, ho2, hrd2, he2, hg2, hkn2, hin2, rfl, hD2, B2, hl2, hk2⟩ Q2 hq
            unfold vN at hy
            rw [List.getElem?_map] at hy
            obtain ⟨a, ha, rfl⟩ := Option.map_eq_some_iff.mp hy
            obtain ⟨ha1, ha2⟩ := hin a (List.mem_of_getElem? ha)
            have htk : [a0, a1, a2, a3].take (i + 1) = [a0, a1, a2, a3].take i ++ [a] := by rw [List.take_succ, ha]; rfl
            have hns : (([a0, a1, a2, a3].map fun a => nds (T rows a)).take (i + 1)).sum = (([a0, a1, a2, a3].map fun a => nds (T rows a)).take i).sum + nds (T rows a) := by
              rw [← List.map_take, ← List.map_take, htk, List.map_append, List.sum_append]
              simp
            have hts := qN7 ([a0, a1, a2, a3].map fun a => nds (T rows a)) (i + 1)
            have nDe : D ≠ e := (qa2 he1 hD).symm
            have nDg : D ≠ g := (qa2 hg1 hD).symm
            have veq : [V.ref rp, V.ref e, V.ref g, V.int ((a : Nat) : Int), V.int (((s + 1 + 1 : Nat) : Int) - 1), V.int ((k : Nat) : Int)] = [V.ref rp, V.ref e, V.ref g, V.int ((a : Nat) : Int), V.int ((s + 1 : Nat) : Int), V.int ((k : Nat) : Int)] := by
              rw [show (((s + 1 + 1 : Nat) : Int) - 1) = ((s + 1 : Nat) : Int) by lia]
            have hR2 : RowsAt H2 rp rows := hR1.mono fun b u h => But2.tup he1 hg1 B2 h
            refine ⟨_, rfl, _, rfl, _, rfl, _, rfl, _, rfl, _, _, rfl, rfl, _, rfl, rp, e, g, k, a, Li, kvi, rows, veq, hR2, ok, ha1, ha2, he2, ho2, hrd2, hg2, neg, hkn2, by lia, by lia, fun H3 kv3 B3 he3 hg3 kn3 klen3 => ?_⟩
            have hD3 := B3 _ _ hD2 nDe nDg
            obtain ⟨ho3, hi3⟩ := Tr.post_ord (qa5 k (s + 1) (T rows a)) Li ho2
            obtain ⟨e3, hx3⟩ := Tr.post_ext (qa5 k (s + 1) (T rows a)) Li
            have hl3 := qm5 (qa5 k (s + 1) (T rows a)) Li
            have hl3' := qh0 k s (T rows a)
            have hrd3 := qi9 (qa5 k (s + 1) (T rows a)) Li (qg3 k s _) hrd2
            refine hq _ _ hD3 ⟨Tr.post (qa5 k (s + 1) (T rows a)) Li, kv3, by rw [htk, List.foldl_append, ← eL]; rfl, ho3, hrd3, by rw [qa6 (Ne.symm nDe)]; exact he3, by rw [qa6 (Ne.symm nDg)]; exact hg3, kn3, ?_, ?_, qa1, ?_, ?_, ?_⟩
            . intro a' ha'
              rw [htk] at ha'
              rcases List.mem_append.mp ha' with z | z
              . rw [hx3]; exact (hin2 a' z).app
              . have : a' = a := by simpa using z
                rw [this]; exact hi3
            . rw [htk, List.map_append]
              unfold vN
              rw [List.map_append]
              congr 1
              refine congrArg (List.map _) (List.map_congr_left fun a' ha' => ?_)
              rw [hx3]
              exact (Tr.name_app (hin2 a' ha') ho2).symm
            . intro x o e' n1 n2
              rw [qa6 (qa2 e' hD)]
              exact B3 _ _ (B2 _ _ e' n1 n2) n1 n2
            . rw [hns]; lia
            . rw [hns]; lia
          . rintro xs H2 ⟨L4, kv4, eL, ho4, hrd4, he4, hg4, hkn4, hin4, rfl, hD2, B2, hl4, hk4⟩
            have h4 : (vN [a0, a1, a2, a3]).length = 4 := rfl
            rw [h4] at hin4 hl4 hk4 hD2 eL
            have hl4' : L4.length ≤ L.length + ([a0, a1, a2, a3].map fun a => nds (T rows a)).sum := hl4
            have hk4' : kv4.length ≤ kv.length + ([a0, a1, a2, a3].map fun a => nds (T rows a)).sum := hk4
            have eL' : L4 = Tr.post (qa5 k (s + 1) (T rows a3)) (Tr.post (qa5 k (s + 1) (T rows a2)) (Tr.post (qa5 k (s + 1) (T rows a1)) (Tr.post (qa5 k (s + 1) (T rows a0)) L))) := eL
            have hpm := post_mk ho (qa5 k (s + 1) (T rows a0)) (qa5 k (s + 1) (T rows a1)) (qa5 k (s + 1) (T rows a2)) (qa5 k (s + 1) (T rows a3))
            rw [← eL', ← hT] at hpm
            have i0 := hin4 a0 (by simp)
            have i1 := hin4 a1 (by simp)
            have i2 := hin4 a2 (by simp)
            have i3 := hin4 a3 (by simp)
            refine ⟨D, _, rfl, .inl ⟨SqL.of hD2, fun u3 hu3 => ?_⟩⟩
            have S3 := qb7 (o := .tup (vN (([a0, a1, a2, a3].take 4).map fun a => Tr.name L4 (qa5 k (s + 1) (T rows a))))) hu3
            have he5 := S3 _ _ he4
            have hg5 := S3 _ _ hg4
            have hu5 : upd H2 u3 (.tup (vN (([a0, a1, a2, a3].take 4).map fun a => Tr.name L4 (qa5 k (s + 1) (T rows a))))) u3 = some (.tup ((keyN [Tr.name L4 (qa5 k (s + 1) (T rows a0)), Tr.name L4 (qa5 k (s + 1) (T rows a1)), Tr.name L4 (qa5 k (s + 1) (T rows a2)), Tr.name L4 (qa5 k (s + 1) (T rows a3))]).map kV)) := by rw [qa1, qk9]; rfl
            have B5 := B2.trans (But2.of (k := e) (d := g) S3)
            generalize upd H2 u3 (.tup (vN (([a0, a1, a2, a3].take 4).map fun a => Tr.name L4 (qa5 k (s + 1) (T rows a))))) = H5 at he5 hg5 hu5 B5 ⊢
            have hpo : Tr.post (qa5 k (s + 1 + 1) (T rows (pl + 2))) L = ins (qa5 k (s + 1 + 1) (T rows (pl + 2))) L4 := hpm
            obtain ⟨e5, hx5, hle5⟩ := ins_ext (qa5 k (s + 1 + 1) (T rows (pl + 2))) L4
            obtain ⟨ho5, hi5⟩ := Tr.post_ord (qa5 k (s + 1 + 1) (T rows (pl + 2))) L ho
            have hrd5 := qi9 (qa5 k (s + 1 + 1) (T rows (pl + 2))) L (qg3 k (s + 1) _) hrd
            have hx5' : Tr.post (qa5 k (s + 1 + 1) (T rows (pl + 2))) L = L4 ++ e5 := hpo.trans hx5
            have hval5 := nT_in ho5 hrd5 (t0 := qa5 k (s + 1) (T rows a0)) (t1 := qa5 k (s + 1) (T rows a1)) (t2 := qa5 k (s + 1) (T rows a2)) (t3 := qa5 k (s + 1) (T rows a3)) (by rw [hx5']; exact i0.app) (by rw [hx5']; exact i1.app) (by rw [hx5']; exact i2.app) (by rw [hx5']; exact i3.app) (by rw [← hT]; exact hi5)
            rw [← hT] at hval5
            have enm : ∀ t, Tr.In L4 t -> Tr.name (Tr.post (qa5 k (s + 1 + 1) (T rows (pl + 2))) L) t = Tr.name L4 t := fun t h => by rw [hx5']; exact Tr.name_app h ho4
            rw [enm _ i0, enm _ i1, enm _ i2, enm _ i3] at hval5
            have hkn5 : KnOk key2 k rows (Tr.post (qa5 k (s + 1 + 1) (T rows (pl + 2))) L) kv4 := by rw [hx5']; exact hkn4.ext ho4
            have hkn6 : KnOk key2 k rows (Tr.post (qa5 k (s + 1 + 1) (T rows (pl + 2))) L) (putK kv4 (keyN (key2 (s + 2) (pl + 2))) (.int (Tr.name (Tr.post (qa5 k (s + 1 + 1) (T rows (pl + 2))) L) (qa5 k (s + 1 + 1) (T rows (pl + 2))) : Nat))) := hkn5.put key2_inj (s := s + 2) (x := pl + 2) hi5
            have hlk := qf9 kv4 (keyN (key2 (s + 2) (pl + 2))) (.int (Tr.name (Tr.post (qa5 k (s + 1 + 1) (T rows (pl + 2))) L) (qa5 k (s + 1 + 1) (T rows (pl + 2))) : Nat))
            have hval6 : valV (putK kv4 (keyN (key2 (s + 2) (pl + 2))) (.int (Tr.name (Tr.post (qa5 k (s + 1 + 1) (T rows (pl + 2))) L) (qa5 k (s + 1 + 1) (T rows (pl + 2))) : Nat))) (keyN (key2 (s + 2) (pl + 2))) = some (.int (Tr.name (Tr.post (qa5 k (s + 1 + 1) (T rows (pl + 2))) L) (qa5 k (s + 1 + 1) (T rows (pl + 2))) : Nat)) := by rw [qz1, if_pos rfl]
            refine ⟨_, rfl, _, rfl, e, _, rfl, DGet.t he5 hu5, _, rfl, ?_⟩
            by_cases hm : Tr.In L4 (qa5 k (s + 1 + 1) (T rows (pl + 2)))
            . have hv := nT_in ho4 hrd4 i0 i1 i2 i3 (by rw [← hT]; exact hm)
              rw [hv]
              refine iteF ?_
              have eL5 : Tr.post (qa5 k (s + 1 + 1) (T rows (pl + 2))) L = L4 := by
                rw [hpo]
                unfold ins
                exact if_pos hm
              have he6 : H5 e = some (.dT (nT (Tr.post (qa5 k (s + 1 + 1) (T rows (pl + 2))) L))) := by rw [eL5]; exact he5
              have hg6 := hg5
              have hu6 := hu5
              have B6 := B5
              have dg6 := DGet.t he6 hu6
              rw [hval5] at dg6
              refine ⟨_, rfl, _, rfl, e, _, rfl, dg6, _, rfl, _, rfl, _, rfl, (by show 2 ≤ sizeLine; decide), fun u4 hu4 => ?_⟩
              have dp6 := DPut.t (v := .int (Tr.name (Tr.post (qa5 k (s + 1 + 1) (T rows (pl + 2))) L) (qa5 k (s + 1 + 1) (T rows (pl + 2))) : Nat)) (qc3 (u := .tup [.int ((pl + 2 : Nat) : Int), .int ((s + 1 + 1 : Nat) : Int)]) hg6 hu4) keyat (qb8 (by lia))
              refine ⟨g, _, rfl, dp6, ?_⟩
              have B7 : But2 e g H (upd (upd H5 u4 (.tup [.int ((pl + 2 : Nat) : Int), .int ((s + 1 + 1 : Nat) : Int)])) g (.dT (putK kv4 (keyN (key2 (s + 2) (pl + 2))) (.int (Tr.name (Tr.post (qa5 k (s + 1 + 1) (T rows (pl + 2))) L) (qa5 k (s + 1 + 1) (T rows (pl + 2))) : Nat))))) := fun x o h n1 n2 => by
                rw [qa6 n2]
                exact qc3 (B6 _ _ (S1 _ _ h) n1 n2) hu4
              have he7 : upd (upd H5 u4 (.tup [.int ((pl + 2 : Nat) : Int), .int ((s + 1 + 1 : Nat) : Int)])) g (.dT (putK kv4 (keyN (key2 (s + 2) (pl + 2))) (.int (Tr.name (Tr.post (qa5 k (s + 1 + 1) (T rows (pl + 2))) L) (qa5 k (s + 1 + 1) (T rows (pl + 2))) : Nat)))) e = some (.dT (nT (Tr.post (qa5 k (s + 1 + 1) (T rows (pl + 2))) L))) := by
                rw [qa6 neg]
                exact qc3 he6 hu4
              have hg7 : upd (upd H5 u4 (.tup [.int ((pl + 2 : Nat) : Int), .int ((s + 1 + 1 : Nat) : Int)])) g (.dT (putK kv4 (keyN (key2 (s + 2) (pl + 2))) (.int (Tr.name (Tr.post (qa5 k (s + 1 + 1) (T rows (pl + 2))) L) (qa5 k (s + 1 + 1) (T rows (pl + 2))) : Nat)))) g = some (.dT (putK kv4 (keyN (key2 (s + 2) (pl + 2))) (.int (Tr.name (Tr.post (qa5 k (s + 1 + 1) (T rows (pl + 2))) L) (qa5 k (s + 1 + 1) (T rows (pl + 2))) : Nat)))) := qa1
              refine ⟨_, rfl, _, rfl, _, rfl, (by show 2 ≤ sizeLine; decide), fun u5 hu5' => ?_⟩
              have dg7 := DGet.t (qc3 (u := .tup [.int ((pl + 2 : Nat) : Int), .int ((s + 1 + 1 : Nat) : Int)]) hg7 hu5') keyat
              rw [hval6] at dg7
              exact ⟨g, _, rfl, dg7, q _ _ (B7.trans (But2.of (qb7 hu5'))) (qc3 he7 hu5') (qc3 hg7 hu5') hkn6 (by lia)⟩
            . obtain ⟨hv, hput⟩ := nT_out ho4 i0 i1 i2 i3 (by rw [← hT]; exact hm)
              rw [hv]
              refine iteT ?_
              have eL5 : Tr.post (qa5 k (s + 1 + 1) (T rows (pl + 2))) L = L4 ++ [qa5 k (s + 1 + 1) (T rows (pl + 2))] := by
                rw [hpo]
                unfold ins
                exact if_neg hm
              rw [← hT, ← eL5] at hput
              have dq := DPut.t (v := .int ((nT L4).length : Nat)) he5 hu5 (by rw [nT_len]; exact qb8 (by lia))
              rw [hput] at dq
              refine ⟨_, rfl, e, _, rfl, he5, _, rfl, _, rfl, e, _, rfl, dq, ?_⟩
              have nue : u3 ≠ e := fun z => by rw [z, he5] at hu5; cases hu5
              have he6 : upd H5 e (.dT (nT (Tr.post (qa5 k (s + 1 + 1) (T rows (pl + 2))) L))) e = some (.dT (nT (Tr.post (qa5 k (s + 1 + 1) (T rows (pl + 2))) L))) := qa1
              have hg6 : upd H5 e (.dT (nT (Tr.post (qa5 k (s + 1 + 1) (T rows (pl + 2))) L))) g = some (.dT kv4) := by rw [qa6 (Ne.symm neg)]; exact hg5
              have hu6 : upd H5 e (.dT (nT (Tr.post (qa5 k (s + 1 + 1) (T rows (pl + 2))) L))) u3 = some (.tup ((keyN [Tr.name L4 (qa5 k (s + 1) (T rows a0)), Tr.name L4 (qa5 k (s + 1) (T rows a1)), Tr.name L4 (qa5 k (s + 1) (T rows a2)), Tr.name L4 (qa5 k (s + 1) (T rows a3))]).map kV)) := by rw [qa6 nue]; exact hu5
              have B6 : But2 e g H1 (upd H5 e (.dT (nT (Tr.post (qa5 k (s + 1 + 1) (T rows (pl + 2))) L)))) := fun x o h n1 n2 => by rw [qa6 n1]; exact B5 _ _ h n1 n2
              generalize upd H5 e (.dT (nT (Tr.post (qa5 k (s + 1 + 1) (T rows (pl + 2))) L))) = H6 at he6 hg6 hu6 B6 ⊢
              have dg6 := DGet.t he6 hu6
              rw [hval5] at dg6
              refine ⟨_, rfl, _, rfl, e, _, rfl, dg6, _, rfl, _, rfl, _, rfl, (by show 2 ≤ sizeLine; decide), fun u4 hu4 => ?_⟩
              have dp6 := DPut.t (v := .int (Tr.name (Tr.post (qa5 k (s + 1 + 1) (T rows (pl + 2))) L) (qa5 k (s + 1 + 1) (T rows (pl + 2))) : Nat)) (qc3 (u := .tup [.int ((pl + 2 : Nat) : Int), .int ((s + 1 + 1 : Nat) : Int)]) hg6 hu4) keyat (qb8 (by lia))
              refine ⟨g, _, rfl, dp6, ?_⟩
              have B7 : But2 e g H (upd (upd H6 u4 (.tup [.int ((pl + 2 : Nat) : Int), .int ((s + 1 + 1 : Nat) : Int)])) g (.dT (putK kv4 (keyN (key2 (s + 2) (pl + 2))) (.int (Tr.name (Tr.post (qa5 k (s + 1 + 1) (T rows (pl + 2))) L) (qa5 k (s + 1 + 1) (T rows (pl + 2))) : Nat))))) := fun x o h n1 n2 => by
                rw [qa6 n2]
                exact qc3 (B6 _ _ (S1 _ _ h) n1 n2) hu4
              have he7 : upd (upd H6 u4 (.tup [.int ((pl + 2 : Nat) : Int), .int ((s + 1 + 1 : Nat) : Int)])) g (.dT (putK kv4 (keyN (key2 (s + 2) (pl + 2))) (.int (Tr.name (Tr.post (qa5 k (s + 1 + 1) (T rows (pl + 2))) L) (qa5 k (s + 1 + 1) (T rows (pl + 2))) : Nat)))) e = some (.dT (nT (Tr.post (qa5 k (s + 1 + 1) (T rows (pl + 2))) L))) := by
                rw [qa6 neg]
                exact qc3 he6 hu4
              have hg7 : upd (upd H6 u4 (.tup [.int ((pl + 2 : Nat) : Int), .int ((s + 1 + 1 : Nat) : Int)])) g (.dT (putK kv4 (keyN (key2 (s + 2) (pl + 2))) (.int (Tr.name (Tr.post (qa5 k (s + 1 + 1) (T rows (pl + 2))) L) (qa5 k (s + 1 + 1) (T rows (pl + 2))) : Nat)))) g = some (.dT (putK kv4 (keyN (key2 (s + 2) (pl + 2))) (.int (Tr.name (Tr.post (qa5 k (s + 1 + 1) (T rows (pl + 2))) L) (qa5 k (s + 1 + 1) (T rows (pl + 2))) : Nat)))) := qa1
              refine ⟨_, rfl, _, rfl, _, rfl, (by show 2 ≤ sizeLine; decide), fun u5 hu5' => ?_⟩
              have dg7 := DGet.t (qc3 (u := .tup [.int ((pl + 2 : Nat) : Int), .int ((s + 1 + 1 : Nat) : Int)]) hg7 hu5') keyat
              rw [hval6] at dg7
              exact ⟨g, _, rfl, dg7, q _ _ (B7.trans (But2.of (qb7 hu5'))) (qc3 he7 hu5') (qc3 hg7 hu5') hkn6 (by lia)⟩
end
end Pr
set_option Elab.async false
set_option linter.all false
set_option maxRecDepth 100000
set_option maxHeartbeats 4000000
namespace Pr
open PySem L2 Qf
theorem nT_at {L : List Tr} {i : Nat} {kv : List Key × V} (h : (nT L)[i]? = some kv) : ∃ r, ([0, 0, 0, 0] :: [1, 1, 1, 1] :: Tr.rowsOf L : List Row)[i]? = some r ∧ kv.1 = keyN r ∧ kv.2 = .int ((i : Nat) : Int) := by
  unfold nT tabl at h
  rw [List.getElem?_map] at h
  obtain ⟨p, hp, ep⟩ := Option.map_eq_some_iff.mp h
  rw [List.getElem?_zipIdx] at hp
  obtain ⟨r', hr', rfl⟩ := Option.map_eq_some_iff.mp hp
  refine ⟨r', hr', (congrArg Prod.fst ep).symm, ?_⟩
  have := (congrArg Prod.snd ep).symm
  rw [this]
  show V.int ((0 + i : Nat) : Int) = _
  rw [Nat.zero_add]
theorem nT_nd {L : List Tr} (ho : Tr.Ord L) (hr : qj4 L) : ([0, 0, 0, 0] :: [1, 1, 1, 1] :: Tr.rowsOf L : List Row).Nodup := by
  have hu := qg2 ho hr
  refine List.nodup_cons.mpr ⟨fun z => ?_, List.nodup_cons.mpr ⟨fun z => hu _ z (.inr rfl), Tr.rowsOf_nodup ho⟩⟩
  rcases List.mem_cons.mp z with z | z
  . cases z
  . exact hu _ z (.inl rfl)
theorem nT_self {L : List Tr} (ho : Tr.Ord L) (hr : qj4 L) {i : Nat} {r : Row} (h : ([0, 0, 0, 0] :: [1, 1, 1, 1] :: Tr.rowsOf L : List Row)[i]? = some r) : valV (nT L) (keyN r) = some (.int ((i : Nat) : Int)) := by
  rw [nT_val, if_pos (List.mem_of_getElem? h)]
  have hl := (List.getElem?_eq_some_iff.mp h).1
  have e3 := (List.getElem?_eq_some_iff.mp h).2
  rw [← e3, (nT_nd ho hr).idxOf_getElem i hl]
theorem from_two (n : Nat) : (List.range (n + 2)).filter (fun i => decide (1 < i)) = (List.range n).map (· + 2) := by
  induction n with
  | zero => rfl
  | succ n ih =>
    rw [List.range_succ (n := n + 2), List.filter_append, ih, List.range_succ (n := n), List.map_append]
    simp
section
variable {P : Program} {w : World} {K : PySem.W.Frag} {mg : Str -> Option Value} {base : Heap}
abbrev nLd : List Str := ["_law_shape_here", "_law_wanted", "_law_n", "_law_top", "_law_old", "_law_new", "_law_number_here"]
theorem scLd : FnScope nLd ["_law_shape_here", "_law_wanted"] (qa7 qm1) := ⟨rfl, rfl, rfl, by decide +kernel, rfl, by decide +kernel, by decide +kernel⟩
def lTop (k n : Nat) (t : Tr) : Nat := Tr.name (Tr.post (qa5 k (n + 1) t) []) (qa5 k (n + 1) t)
def lRws (k n : Nat) (t : Tr) : List Row := Tr.rowsOf (Tr.post (qa5 k (n + 1) t) [])
def spLd : Sp := fun vs H Q _ => ∃ (t : Addr) (n tp k : Nat) (rows : List Row), vs = [.ref t, .int (k : Nat)] ∧ qh9 H t (n + 1) tp rows ∧ nds (T rows tp) ≤ 485 ∧
  ∀ (H' : Hp) (t' : Addr), Same H H' -> qh9 H' t' n (lTop k n (T rows tp)) (lRws k n (T rows tp)) -> Q (.ref t') H'
theorem ok_ld {f fL : Addr} {fd fdL : FuncData} (F : Fun K "_law_lessened" "_law_lessened" qm1 f fd) (B : Blt mg) (hsm : mg "sum" = none)
    (hL : mg "_law_less" = some (.ref fL)) (FL : Fun K "_law_less" "_law_less" lLess fL fdL) (bL : Binds K fdL pLl []) : FnOk P w K mg base CX0 14 f fd ["_law_shape_here", "_law_wanted"] spLd := by
  have GL : ∀ s, FnOk P w K mg base CX0 (s + 1) fL fdL pLl (spLl s) := ok_ll FL B hsm hL bL
  refine F.ok scLd (fun vs H Q E h => ?_) (fun cdv A outer s0 H vs Q E hr h => ?_)
  . obtain ⟨t, n, tp, k, rows, rfl, _⟩ := h
    rfl
  . obtain ⟨t, n, tp, k, rows, rfl, hSh, hnd, q⟩ := h
    have hn := hSh.2.1.size
    have hrn : Room (n + 1) _ := hr.mono (by lia)
    have hu : A.units + 3 + 1 < cLine := by
      have h2 : A.units + 3 + 16 * 13 + 200 < cLine := hr.un
      lia
    have hu0 : A.units + 3 < cLine := by lia
    refine seqE ⟨_, ⟨qr8 (pv 0) (qr7 rfl (qc2 (qc0 (i := 2) scLd.nd rfl (by first | exact Or.inl rfl | exact Or.inr rfl)) (qc2 (qc0 (i := 3) scLd.nd rfl (by first | exact Or.inl rfl | exact Or.inr rfl)) (qc2 (qc0 (i := 4) scLd.nd rfl (by first | exact Or.inl rfl | exact Or.inr rfl)) ql6))))⟩, ?_⟩
    refine seqE ⟨_, ps_setb (i := 5) scLd.nd rfl (by first | exact Or.inl rfl | exact Or.inr rfl) (two_fours hu0) rfl rfl, ?_⟩
    refine seqE ⟨_, ⟨qc4 (i := 6) scLd.nd rfl (by first | exact Or.inl rfl | exact Or.inr rfl) (qa8 (GL n) hrn (by rfl) hL FL.kp bL .nil qb9 (Ars2.go (.cons ⟨pv 4⟩ (.cons ⟨pv 5⟩ (.cons ⟨qs4⟩ (.cons ⟨pv 3⟩ (.cons ⟨pv 2⟩ (.cons ⟨pv 1⟩ .nil rfl) rfl) rfl) rfl) rfl) rfl)))⟩, ?_⟩
    refine qi2 ⟨_, ⟨qb3 (qg9 (Ars2.go (.cons ⟨qb1 qe2 (pv 2) qa4⟩ (.cons ⟨pv 6⟩ (.cons ⟨qc9 (tupO K rfl) (by rfl) B.tuple PyProof.Rows.boot_tuple (Ars2.go (.cons ⟨qp5 nLd (qa7 qm1) rfl rfl rfl scLd.nd (pi_keysT (pv 5))
      (fun cl C fp s₀ H₀ => qb5 op_gt (ql8 hu (pv 6) (pv 0) (fun _ _ => rfl)) qa4 (qb6 _)) (fun cl C fp s₀ H₀ => pv 0)⟩ .nil rfl))⟩ .nil rfl) rfl) rfl)))⟩, ?_⟩
    obtain ⟨⟨rp, ht, hR⟩, cn, hl⟩ := id hSh
    refine ⟨_, rfl, t, _, rfl, SqT.of ht, rfl, _, _, rfl, _, _, rfl, _, _, rfl, rfl, ?_⟩
    refine fun e hee => ⟨(by show 4 ≤ sizeLine; decide), fun a ha => ⟨(by show 4 ≤ sizeLine; decide), fun b hb => ?_⟩⟩
    have hb1 : upd (upd H e (.dT [])) a (.tup [.int 0, .int 0, .int 0, .int 0]) e = some (.dT []) := qc3 qa1 ha
    refine ⟨qc3 hb1 hb, [(keyN [0, 0, 0, 0], a, .int 0), (keyN [1, 1, 1, 1], b, .int 1)], rfl, ?_, (by show 2 ≤ 15; decide), ?_⟩
    . intro x hx
      rcases List.mem_cons.mp hx with rfl | hx
      . exact qc3 qa1 hb
      . rcases List.mem_cons.mp hx with rfl | hx
        . exact qa1
        . cases hx
    have s4 : Same H (upd (upd (upd H e (.dT [])) a (.tup [.int 0, .int 0, .int 0, .int 0])) b (.tup [.int 1, .int 1, .int 1, .int 1])) := ((qb7 hee).trans (qb7 ha)).trans (qb7 hb)
    generalize upd (upd (upd H e (.dT [])) a (.tup [.int 0, .int 0, .int 0, .int 0])) b (.tup [.int 1, .int 1, .int 1, .int 1]) = H4 at s4
    have e5 : qM3 [] [(keyN [0, 0, 0, 0], a, V.int 0), (keyN [1, 1, 1, 1], b, V.int 1)] = nT [] := by rfl
    rw [e5]
    have s5 : Same H (upd H4 e (.dT (nT []))) := fun x o z => by rw [qa6 (qa2 z hee)]; exact s4 _ _ z
    have he5 : upd H4 e (.dT (nT [])) e = some (.dT (nT [])) := qa1
    generalize upd H4 e (.dT (nT [])) = H5 at s5 he5
    refine ⟨_, rfl, _, rfl, fun g hg => ?_⟩
    have neg : e ≠ g := qa2 he5 hg
    refine ⟨_, rfl, _, rfl, _, rfl, rp, e, g, k, tp, [], [], rows, rfl, hR.mono (s5.trans (qb7 hg)).tups, cn.rok, cn.inn, cn.deep, qc3 he5 hg, Tr.ord_nil, (fun t ht => by cases ht), qa1, neg, KnOk.nil, (by simp; lia), (by simp; lia), fun H6 kv6 B6 he6 hg6 _ _ => ?_⟩
    have hgH : H g = none := by
      cases ee : H g with
      | none => rfl
      | some o => rw [s5 _ _ ee] at hg; cases hg
    have S6 : Same H H6 := fun x o z => B6 _ _ (qc3 (s5 _ _ z) hg) (qa2 z hee) (qa2 z hgH)
    obtain ⟨ho, hi⟩ := Tr.post_ord (qa5 k (n + 1) (T rows tp)) [] Tr.ord_nil
    have hrd : qj4 (Tr.post (qa5 k (n + 1) (T rows tp)) []) := qi9 _ [] (qg3 k n _) (fun t ht => by cases ht)
    have hlen : (Tr.post (qa5 k (n + 1) (T rows tp)) []).length ≤ 485 := by
      have h1 := qm5 (qa5 k (n + 1) (T rows tp)) []
      have h2 := qh0 k n (T rows tp)
      simp at h1
      lia
    refine ⟨_, rfl, _, _, rfl, rfl, _, rfl, _, rfl, e, _, rfl, he6, fun o D hD => ?_⟩
    have hlt : (nT (Tr.post (qa5 k (n + 1) (T rows tp)) [])).length = (Tr.post (qa5 k (n + 1) (T rows tp)) []).length + 2 := nT_len _
    refine qw6 hD (fun i => decide (1 < i)) (fun i y H2 => ∃ b r, y = .ref b ∧ ([0, 0, 0, 0] :: [1, 1, 1, 1] :: Tr.rowsOf (Tr.post (qa5 k (n + 1) (T rows tp)) []) : List Row)[i]? = some r ∧ H2 b = some (.tup (vN r))) (qR2 qa1) (by rw [hlt]; exact qb8 (by lia)) ?_ ?_ ?_
    . rintro i y H1 H2 tk ⟨b, r, rfl, h1, h2⟩
      exact ⟨b, r, rfl, h1, tk _ _ h2⟩
    . rintro i y H2 hi2 ⟨b, kv, hkv, rfl, hb2⟩ s2 os ho2 Q1 Q2 q1 q2
      obtain ⟨r, hr1, hr2, hr3⟩ := nT_at hkv
      rw [hr2] at hb2
      have dg : DGet H2 e (.ref b) (some (.int ((i : Nat) : Int))) := .inr ⟨_, keyN r, b, .inr ⟨o, s2 _ _ qa1⟩, rfl, hb2, (nT_self ho hrd hr1).symm⟩
      match os, ho2 with
      | [o1], _ =>
        refine ⟨_, rfl, _, rfl, e, _, rfl, dg, _, _, rfl, rfl, _, rfl, ?_⟩
        refine ite2 (fun hc => ⟨_, rfl, q2 (decide_eq_true (by have := of_decide_eq_true hc; lia)) _ H2 (Same.refl _) ⟨b, r, rfl, hr1, by rw [← qk9]; exact hb2⟩⟩) (fun hc => q1 (decide_eq_false (fun z => hc (decide_eq_true (by lia)))) H2 (Same.refl _))
    . intro ys H7 s7 hd7 hly hys
      rw [hlt, from_two] at hly hys
      obtain ⟨bs, rfl⟩ := qA6 (ys := ys) fun i y hy => by
        have hlt2 := (List.getElem?_eq_some_iff.mp hy).1
        rw [hly] at hlt2
        obtain ⟨b, r, z, _⟩ := hys i y _ hy (List.getElem?_eq_getElem hlt2)
        exact ⟨b, z⟩
      have hbl : bs.length = (Tr.post (qa5 k (n + 1) (T rows tp)) []).length := by simpa using hly
      have S7 : Same H H7 := fun x o' z => s7 _ _ (by rw [qa6 (qa2 z hee)]; exact S6 _ _ z)
      refine ⟨D, _, rfl, .inl ⟨SqL.of hd7, fun l hl' => ⟨(by show 3 ≤ sizeLine; decide), fun t' ht' => ?_⟩⟩⟩
      have en : V.int (((n + 1 : Nat) : Int) - 1) = V.int ((n : Nat) : Int) := by rw [show (((n + 1 : Nat) : Int) - 1) = ((n : Nat) : Int) by lia]
      refine q _ t' ((S7.trans (qb7 hl')).trans (qb7 ht')) ⟨⟨l, by rw [qa1]; exact congrArg (fun z => some (HO.tup [z, _, _])) en, bs, qc3 qa1 ht', ?_, fun i b r e1 e2 => ?_⟩, qr3 (by lia) (qg3 k n _) (qn3 k n _ (qq6 cn)), ?_⟩
      . rw [hbl]
        unfold lRws
        rw [Tr.rowsOf_len]
      . have hi2 := (List.getElem?_eq_some_iff.mp e1).1
        obtain ⟨b', r', e3, e4, e5⟩ := hys i (.ref b) (i + 2) (by rw [List.getElem?_map, e1]; rfl) (by rw [List.getElem?_map, List.getElem?_range (by lia)]; rfl)
        cases e3
        have e6 : (Tr.rowsOf (Tr.post (qa5 k (n + 1) (T rows tp)) []))[i]? = some r' := by simpa using e4
        unfold lRws at e2
        rw [e6] at e2
        cases e2
        exact qc3 (qc3 e5 hl') ht'
      . unfold lRws
        rw [Tr.rowsOf_len]
        lia
abbrev nHv : List Str := ["_law_box_here", "_law_row", "_law_column", "_law_high", "_law_wide", "_law_first", "_law_left"]
theorem scHv : FnScope nHv ["_law_box_here"] (qa7 qA0) := ⟨rfl, rfl, rfl, by decide +kernel, rfl, by decide +kernel, by decide +kernel⟩
def spHv : Sp := fun vs H Q _ => ∃ (a : Addr) (n : Nat) (b : Row), vs = [.ref a] ∧ H a = some (.tup (vN b)) ∧ ql3 n b ∧ ∀ (H' : Hp) (c : Addr), Same H H' -> H' c = some (.tup (vN (hlfB b))) -> Q (.ref c) H'
theorem ok_hv {f : Addr} {fd : FuncData} (F : Fun K "_law_halved" "_law_halved" qA0 f fd) : FnOk P w K mg base CX0 1 f fd ["_law_box_here"] spHv := by
  refine F.ok scHv (fun vs H Q E h => ?_) (fun cdv A outer s H vs Q E hr h => ?_)
  . obtain ⟨a, n, b, rfl, _⟩ := h
    rfl
  . obtain ⟨a, n, b, rfl, ha, hbx, q⟩ := h
    refine seqE ⟨_, ⟨qr8 (pv 0) (qr7 rfl (qc2 (qc0 (i := 1) scHv.nd rfl (Or.inl rfl)) (qc2 (qc0 (i := 2) scHv.nd rfl (Or.inl rfl)) (qc2 (qc0 (i := 3) scHv.nd rfl (Or.inl rfl)) (qc2 (qc0 (i := 4) scHv.nd rfl (Or.inl rfl)) ql6)))))⟩, ?_⟩
    refine seqE ⟨_, ⟨ps_par (i := 5) (j := 6) rfl scHv.nd rfl rfl (by decide) rfl rfl (qa0 (qb1 qj8 (pv 1) qa4) (qa0 (qb1 qj8 (pv 2) qa4) qa3)) rfl⟩, ?_⟩
    refine qi2 ⟨_, ⟨qb3 (qg9 (Ars2.go (.cons ⟨pv 5⟩ (.cons ⟨pv 6⟩ (.cons ⟨qb1 qd9 (qb1 qe2 (qb1 qj8 (qb1 qe2 (qb1 qd9 (pv 1) (pv 3)) qa4) qa4) (pv 5)) qa4⟩ (.cons ⟨qb1 qd9 (qb1 qe2 (qb1 qj8 (qb1 qe2 (qb1 qd9 (pv 2) (pv 4)) qa4) qa4) (pv 6)) qa4⟩ .nil rfl) rfl) rfl) rfl)))⟩, ?_⟩
    obtain ⟨r, c, h, w', rfl, h1, h2, h3, h4⟩ := id hbx
    refine ⟨_, rfl, a, _, rfl, SqT.of ha, rfl, _, _, rfl, _, _, rfl, _, _, rfl, _, _, rfl, rfl, ?_⟩
    refine ⟨_, rfl, _, _, rfl, rfl, ⟨by decide, by decide⟩, _, rfl, _, _, rfl, rfl, ⟨by decide, by decide⟩, _, _, rfl, ?_⟩
    refine ⟨_, rfl, _, rfl, _, rfl, _, rfl, _, _, rfl, rfl, _, _, rfl, rfl, _, _, rfl, rfl, ⟨by decide, by decide⟩, _, rfl, _, _, rfl, rfl, _, _, rfl, rfl, _, rfl, _, rfl, _, _, rfl, rfl, _, _, rfl, rfl, _, _, rfl, rfl, ⟨by decide, by decide⟩, _, rfl, _, _, rfl, rfl, _, _, rfl, rfl, (by show 4 ≤ sizeLine; decide), fun p hp => q _ p (qb7 hp) ?_⟩
    rw [qa1]
    have e1 : ((r : Int) / 2) = ((r / 2 : Nat) : Int) := by lia
    have e2 : ((c : Int) / 2) = ((c / 2 : Nat) : Int) := by lia
    have e3 : (((r : Int) + (h : Int) - 1) / 2 - (r : Int) / 2 + 1) = (((r + h - 1) / 2 - r / 2 + 1 : Nat) : Int) := by lia
    have e4 : (((c : Int) + (w' : Int) - 1) / 2 - (c : Int) / 2 + 1) = (((c + w' - 1) / 2 - c / 2 + 1 : Nat) : Int) := by lia
    show some (HO.tup [V.int ((r : Int) / 2), V.int ((c : Int) / 2), V.int (((r : Int) + (h : Int) - 1) / 2 - (r : Int) / 2 + 1), V.int (((c : Int) + (w' : Int) - 1) / 2 - (c : Int) / 2 + 1)]) = _
    rw [e3, e4, e1, e2]
    rfl
end
end Pr
set_option Elab.async false
set_option linter.all false
set_option maxRecDepth 100000
set_option maxHeartbeats 4000000
namespace Pr
open PySem L2 Qf
theorem qR4 : (List.range 1000).all (fun x => decide ((PyData.shown (.int ((x : Nat) : Int))).length ≤ 3)) = true := by decide +kernel
theorem qB5 {x : Nat} (h : x < 1000) : (PyData.shown (.int ((x : Nat) : Int))).length ≤ 3 := of_decide_eq_true (List.all_eq_true.mp qR4 x (List.mem_range.mpr h))
theorem qB6 {x : Nat} (h : x < 1000) : ((x : Nat) : Int).natAbs.log2 < 1920 := by
  rw [Int.natAbs_natCast]
  have : x.log2 ≤ x := Nat.log2_le_self x
  lia
theorem qH5 : ∀ (r : Row), (∀ x ∈ r, x < 1000) -> ((PyData.shownAll ((r.map fun x : Nat => (x : Int)).map PyData.int)).map (·.length)).sum ≤ 3 * r.length ∧ (PyData.shownAll ((r.map fun x : Nat => (x : Int)).map PyData.int)).length = r.length
  | [], _ => ⟨Nat.le_refl _, rfl⟩
  | x :: r, h => by
    obtain ⟨h1, h2⟩ := qH5 r fun y hy => h y (List.mem_cons_of_mem _ hy)
    have h3 := qB5 (h x List.mem_cons_self)
    constructor
    . show (PyData.shown (.int ((x : Nat) : Int))).length + ((PyData.shownAll ((r.map fun x : Nat => (x : Int)).map PyData.int)).map (·.length)).sum ≤ 3 * (r.length + 1)
      lia
    . show (PyData.shownAll ((r.map fun x : Nat => (x : Int)).map PyData.int)).length + 1 = r.length + 1
      rw [h2]
theorem qy6 : ∀ (rows : List Row), (∀ r ∈ rows, r.length = 4 ∧ ∀ x ∈ r, x < 1000) -> ((PyData.shownAll (ql2 rows)).map (·.length)).sum ≤ 23 * rows.length ∧ (PyData.shownAll (ql2 rows)).length = rows.length
  | [], _ => ⟨Nat.le_refl _, rfl⟩
  | r :: rows, h => by
    obtain ⟨h1, h2⟩ := qy6 rows fun y hy => h y (List.mem_cons_of_mem _ hy)
    obtain ⟨h4, hx⟩ := h r List.mem_cons_self
    obtain ⟨h5, h6⟩ := qH5 r hx
    have h7 : (PyData.shown (dT (r.map fun x : Nat => (x : Int)))).length ≤ 23 := by
      have := tupleText_len_le (PyData.shownAll ((r.map fun x : Nat => (x : Int)).map PyData.int))
      show (tupleText (PyData.shownAll ((r.map fun x : Nat => (x : Int)).map PyData.int))).length ≤ 23
      rw [h6] at this
      lia
    constructor
    . show (PyData.shown (dT (r.map fun x : Nat => (x : Int)))).length + ((PyData.shownAll (ql2 rows)).map (·.length)).sum ≤ 23 * (rows.length + 1)
      lia
    . show (PyData.shownAll (ql2 rows)).length + 1 = rows.length + 1
      rw [h2]
theorem qd5 {n top : Nat} {rows : List Row} (c : Canon n top rows) (hl : rows.length ≤ 900) : (dTell n top rows).shown.length ≤ sizeLine := by
  have hin := c.inn
  have hn := c.size
  have hr : ∀ r ∈ rows, r.length = 4 ∧ ∀ x ∈ r, x < 1000 := fun r hm => by
    obtain ⟨i, hi, e⟩ := List.mem_iff_getElem.mp hm
    obtain ⟨h4, hx⟩ := c.rok i r (by rw [List.getElem?_eq_getElem hi, e])
    exact ⟨h4, fun x hm => by have := hx x hm; lia⟩
  obtain ⟨h1, h2⟩ := qy6 rows hr
  have h3 := tupleText_len_le (PyData.shownAll (ql2 rows))
  have h4 := tupleText_len_le [PyData.shown (.int ((n : Nat) : Int)), PyData.shown (.int ((top : Nat) : Int)), tupleText (PyData.shownAll (ql2 rows))]
  have h5 := qB5 (show n < 1000 by lia)
  have h6 := qB5 (show top < 1000 by lia)
  rw [h2] at h3
  show (tupleText [PyData.shown (.int ((n : Nat) : Int)), PyData.shown (.int ((top : Nat) : Int)), tupleText (PyData.shownAll (ql2 rows))]).length ≤ sizeLine
  have e : sizeLine = 16777216 := by decide
  simp only [List.map_cons, List.map_nil, List.sum_cons, List.sum_nil, List.length_cons, List.length_nil] at h4
  lia
theorem qN9 : ∀ (r : Row), (∀ x ∈ r, x < 1000) -> PyData.showableAll ((r.map fun x : Nat => (x : Int)).map PyData.int) = true
  | [], _ => rfl
  | x :: r, h => by
    show (decide (((x : Nat) : Int).natAbs.log2 < 1920) && PyData.showableAll ((r.map fun x : Nat => (x : Int)).map PyData.int)) = true
    rw [qN9 r fun y hy => h y (List.mem_cons_of_mem _ hy), decide_eq_true (qB6 (h x List.mem_cons_self))]
    rfl
theorem qH6 : ∀ (rows : List Row), (∀ r ∈ rows, ∀ x ∈ r, x < 1000) -> PyData.showableAll (ql2 rows) = true
  | [], _ => rfl
  | r :: rows, h => by
    show (PyData.showableAll ((r.map fun x : Nat => (x : Int)).map PyData.int) && PyData.showableAll (ql2 rows)) = true
    rw [qH6 rows fun y hy => h y (List.mem_cons_of_mem _ hy), qN9 r (h r List.mem_cons_self)]
    rfl
theorem qe5 {n top : Nat} {rows : List Row} (c : Canon n top rows) (hl : rows.length ≤ 900) : (dTell n top rows).showable = true := by
  have hin := c.inn
  have hn := c.size
  have hr : ∀ r ∈ rows, ∀ x ∈ r, x < 1000 := fun r hm x hxm => by
    obtain ⟨i, hi, e⟩ := List.mem_iff_getElem.mp hm
    have := (c.rok i r (by rw [List.getElem?_eq_getElem hi, e])).2 x hxm
    lia
  show (decide (((n : Nat) : Int).natAbs.log2 < 1920) && (decide (((top : Nat) : Int).natAbs.log2 < 1920) && (PyData.showableAll (ql2 rows) && true))) = true
  rw [qH6 rows hr, decide_eq_true (qB6 (show n < 1000 by lia)), decide_eq_true (qB6 (show top < 1000 by lia))]
  rfl
theorem qy7 : ∀ (r : List Int), PyData.hasDictAll (r.map PyData.int) = false
  | [] => rfl
  | x :: r => by
    show (false || PyData.hasDictAll (r.map PyData.int)) = false
    rw [qy7 r]; rfl
theorem qw7 : ∀ (rows : List Row), PyData.hasDictAll (ql2 rows) = false
  | [] => rfl
  | r :: rows => by
    show (PyData.hasDictAll ((r.map fun x : Nat => (x : Int)).map PyData.int) || PyData.hasDictAll (ql2 rows)) = false
    rw [qy7, qw7 rows]; rfl
theorem qc8 (n top : Nat) (rows : List Row) : (dTell n top rows).hasDict = false := by
  show (false || (false || (PyData.hasDictAll (ql2 rows) || false))) = false
  rw [qw7]; rfl
end Pr
set_option Elab.async false
set_option linter.all false
set_option maxRecDepth 100000
set_option maxHeartbeats 4000000
namespace L2
theorem goes_rngL {H : Hp} {lo : Int} {n : Nat} : Goes (Itr lo n) H n (fun i y _ => y = .int (lo + (i : Int))) where
  go := fun i H2 hi s => hi
  yl := fun i H2 y H3 hi s h => by
    obtain ⟨e, h⟩ := h
    subst e
    exact ⟨Same.refl _, h⟩
  st := fun H2 s => Nat.le_refl n
end L2
namespace Pr
open PySem L2 Qf
section
variable {P : Program} {w : World} {K : PySem.W.Frag} {mg : Str -> Option Value} {base : Heap}
abbrev nLr : List Str := ["_law_n", "_law_boxes_here", "_law_shape_here", "_law_told", "_law_due"]
theorem scLr : FnScope nLr ["_law_n", "_law_boxes_here"] (qa7 qm7) := ⟨rfl, rfl, rfl, by decide +kernel, rfl, by decide +kernel, by decide +kernel⟩
def spLr : Sp := fun vs H Q _ => ∃ (bp : Addr) (n : Nat) (boxes : List Row), vs = [.int (n : Nat), .ref bp] ∧ RowsL H bp boxes ∧ Boxes n boxes ∧ n < 12 ∧ ∀ H' : Hp, Same H H' -> Q (.bl true) H'
theorem ok_lr {f fS fG fE : Addr} {fd fdS fdG fdE : FuncData} (F : Fun K "_law_larger_right" "_law_larger_right" qm7 f fd) (B : Blt mg) (C : Blt2 mg)
    (hS : mg "_law_shape" = some (.ref fS)) (FS : Fun K "_law_shape" "_law_shape" qE8 fS fdS) (bS : Binds K fdS ["_law_n", "_law_boxes_here"] []) (GS : FnOk P w K mg base CX0 15 fS fdS ["_law_n", "_law_boxes_here"] spBSg)
    (hG : mg "larger" = some (.ref fG)) (FG : Fun K "larger" "larger" qz9 fG fdG) (bG : Binds K fdG ["shape"] []) (GG : FnOk P w K mg base CX0 17 fG fdG ["shape"] spLg)
    (hE : mg "lesser" = some (.ref fE)) (FE : Fun K "lesser" "lesser" qv6 fE fdE) (bE : Binds K fdE ["shape", "k"] []) (GE : FnOk P w K mg base CX0 17 fE fdE ["shape", "k"] spLe) :
    FnOk P w K mg base CX0 18 f fd ["_law_n", "_law_boxes_here"] spLr := by
  refine F.ok scLr (fun vs H Q E h => ?_) (fun cdv A outer s H vs Q E hr h => ?_)
  . obtain ⟨bp, n, boxes, rfl, _⟩ := h
    rfl
  . obtain ⟨bp, n, boxes, rfl, hR, hBx, hn, q⟩ := h
    have hr15 : Room 15 _ := hr.mono (by decide)
    refine seqE ⟨_, ⟨qc4 (i := 2) scLr.nd rfl (by first | exact Or.inl rfl | exact Or.inr rfl) (qa8 GS hr15 (by rfl) hS FS.kp bS .nil qb9 (qa0 (pv 0) (qa0 (pv 1) qa3)))⟩, ?_⟩
    refine seqE ⟨_, ⟨qc4 (i := 3) scLr.nd rfl (by first | exact Or.inl rfl | exact Or.inr rfl) (qa8 GG hr (by rfl) hG FG.kp bG .nil qb9 (qa0 (pv 2) qa3))⟩, ?_⟩
    refine seqE ⟨_, ⟨qc4 (i := 4) scLr.nd rfl (by first | exact Or.inl rfl | exact Or.inr rfl) (qa8 GS hr15 (by rfl) hS FS.kp bS .nil qb9 (Ars2.go (.cons ⟨qb1 qd9 (pv 0) qa4⟩ (.cons ⟨pe_comp4 nLr (qa7 qm7) rfl rfl rfl scLr.nd (qn8 (pv 1))
      (fun cl C' fp s₀ H₀ => PEb.go ⟨qg9 (Ars2.go (.cons ⟨qb1 ql7 qa4 (pv 0)⟩ (.cons ⟨qb1 ql7 qa4 (pv 1)⟩ (.cons ⟨qb1 ql7 qa4 (pv 2)⟩ (.cons ⟨qb1 ql7 qa4 (pv 3)⟩ .nil rfl) rfl) rfl) rfl))⟩)⟩ .nil rfl) rfl)))⟩, ?_⟩
    refine seqE ⟨_, ⟨qe0 (qb5 qI2 (qa9 (qd3 hr) (by rfl) C.repr PyProof.Rows.boot_repr (qa0 (pv 3) qa3)) (qa9 (qd3 hr) (by rfl) C.repr PyProof.Rows.boot_repr (qa0 (pv 4) qa3)) (qb6 _)) (qb0 (qb3 qn4)) qb4⟩, ?_⟩
    refine qi2 ⟨_, ⟨qb3 (qa9 (qu5 rfl) (by rfl) B.all PyProof.Rows.boot_all (Ars2.go (.cons ⟨qf4 nLr (qa7 qm7) rfl rfl rfl scLr.nd (qB7 (by rfl) B.range (qa0 qa4 (qa0 qa4 qa3)))
      (fun cl C' fp s₀ H₀ => qg6 qw8 (PEb.go ⟨qa9 (qd3 hr) (by rfl) C.repr PyProof.Rows.boot_repr (Ars2.go (.cons ⟨qa8 GE hr (by rfl) hE FE.kp bE .nil qb9 (qa0 (pv 4) (qa0 (pv 0) qa3))⟩ .nil rfl))⟩) (qa9 (qd3 hr) (by rfl) C.repr PyProof.Rows.boot_repr (qa0 (pv 3) qa3)) (qb6 _))⟩ .nil rfl)))⟩, ?_⟩
    have hfew := qG5 (by lia) hBx
    have hbl : boxes.length ≤ 900 := by rcases hBx.2 with ⟨_, h⟩ | ⟨h, _⟩ <;> lia
    refine ⟨_, rfl, _, rfl, bp, n, boxes, rfl, hR, hBx.1, hbl, hfew, by lia, fun H1 t s1 sh1 => ?_⟩
    have eT1 : T (ql4 n boxes) (bTop n boxes) = bt n boxes 0 0 := b_T
    generalize bTop n boxes = tp, ql4 n boxes = rws at sh1 eT1
    refine ⟨_, rfl, t, n, tp, rws, rfl, sh1, hn, fun H2 t2 s2 sh2 => ?_⟩
    obtain ⟨bs, hb, hbl', hrow⟩ := id (hR.same (s1.trans s2))
    have hlb : (bs.map V.ref).length = boxes.length := by rw [List.length_map]; exact hbl'
    refine ⟨_, rfl, _, _, rfl, rfl, _, rfl, bp, rfl, ⟨_, SqL.of hb⟩, fun D hD => qw6 hD (fun _ => true) (fun j z H3 => ∃ c b, z = .ref c ∧ boxes[j]? = some b ∧ H3 c = some (.tup (vN (dblB b)))) (qm8 (K := K) hb) (by rw [hlb]; exact qb8 (by lia)) ?_ ?_ ?_⟩
    . rintro j z H3 H4 tk ⟨b, r, rfl, h1, h2⟩
      exact ⟨b, r, rfl, h1, tk _ _ h2⟩
    . intro j x H3 hj hx s3 os ho Q1 Q2 q1 q2
      have hj2 : j < boxes.length := by rw [← hlb]; exact hj
      rw [List.getElem?_map] at hx
      obtain ⟨b, hbj, rfl⟩ := Option.map_eq_some_iff.mp hx
      have hg : boxes[j]? = some boxes[j] := List.getElem?_eq_getElem hj2
      obtain ⟨r, c, h, w', eb, _⟩ := hBx.1 _ (List.getElem_mem hj2)
      have hbt := s3 _ _ (hrow j b _ hbj hg)
      match os, ho with
      | [o1, o2, o3, o4], _ =>
        rw [eb] at hbt
        refine ⟨b, _, rfl, SqT.of hbt, rfl, _, _, rfl, _, _, rfl, _, _, rfl, _, _, rfl, rfl, ?_⟩
        show (if (true : Bool) = true then _ else Q1 H3)
        rw [if_pos rfl]
        refine ⟨_, rfl, _, _, rfl, rfl, .inl ⟨by decide, by decide⟩, _, rfl, _, _, rfl, rfl, .inl ⟨by decide, by decide⟩, _, rfl, _, _, rfl, rfl, .inl ⟨by decide, by decide⟩, _, rfl, _, _, rfl, rfl, .inl ⟨by decide, by decide⟩, (by show 4 ≤ sizeLine; decide), fun p hp => q2 rfl _ _ (qb7 hp) ⟨p, boxes[j], rfl, hg, ?_⟩⟩
        rw [qa1, eb]
        have e2 : ∀ x : Nat, (2 : Int) * (x : Int) = ((2 * x : Nat) : Int) := fun x => by lia
        show some (HO.tup [V.int (2 * (r : Int)), V.int (2 * (c : Int)), V.int (2 * (h : Int)), V.int (2 * (w' : Int))]) = _
        rw [e2, e2, e2, e2]
        rfl
    . intro ys H3 s3 hd3 hly hys
      have ef : (List.range (bs.map V.ref).length).filter (fun _ => true) = List.range boxes.length := by rw [hlb]; simp
      rw [ef] at hly hys
      rw [List.length_range] at hly
      obtain ⟨cs, rfl⟩ := qA6 (ys := ys) fun j y hy => by
        have hlt := (List.getElem?_eq_some_iff.mp hy).1
        obtain ⟨b, r, z, _⟩ := hys j y j hy (List.getElem?_range (by lia))
        exact ⟨b, z⟩
      have hcl : cs.length = boxes.length := by rw [List.length_map] at hly; exact hly
      have hR3 : RowsL H3 D (boxes.map dblB) := ⟨cs, hd3, by rw [hcl, List.length_map], fun j c r e1 e2 => by
        have hlt := (List.getElem?_eq_some_iff.mp e1).1
        obtain ⟨c', b, e3, e4, e5⟩ := hys j (.ref c) j (by rw [List.getElem?_map, e1]; rfl) (List.getElem?_range (by lia))
        cases e3
        rw [List.getElem?_map, e4] at e2
        cases e2
        exact e5⟩
      have hbd : ∀ b ∈ boxes.map dblB, ql3 (n + 1) b := fun b hb => by
        obtain ⟨b', hb', rfl⟩ := List.mem_map.mp hb
        exact dbl_in (hBx.1 b' hb')
      have edb : bt (n + 1) (boxes.map dblB) 0 0 = bt n boxes 0 0 := qG9 n boxes 0 0
      have veq : [V.int (((n : Nat) : Int) + 1), V.ref D] = [V.int ((n + 1 : Nat) : Int), V.ref D] := by rw [show (((n : Nat) : Int) + 1) = ((n + 1 : Nat) : Int) by lia]
      refine ⟨D, n + 1, boxes.map dblB, veq, hR3, hbd, by rw [List.length_map]; exact hbl, by rw [edb]; exact hfew, by lia, fun H4 d s4 sh4 => ?_⟩
      have eT4 : T (ql4 (n + 1) (boxes.map dblB)) (bTop (n + 1) (boxes.map dblB)) = bt n boxes 0 0 := b_T.trans edb
      generalize bTop (n + 1) (boxes.map dblB) = tp4, ql4 (n + 1) (boxes.map dblB) = rws4 at sh4 eT4
      have sh24 := qf7 sh2 (s3.trans s4)
      obtain ⟨e1, e2⟩ := qh4 sh24.2.1 sh4.2.1 (by rw [eT4, eT1])
      subst e1 e2
      refine ⟨_, rfl, t2, _, rfl, qe3 sh24.1, qe5 sh4.2.1 sh4.2.2, qc8 _ _ _, qd4 _ _ _, qd5 sh4.2.1 sh4.2.2, ?_⟩
      refine ⟨_, rfl, d, _, rfl, qe3 sh4.1, qe5 sh4.2.1 sh4.2.2, qc8 _ _ _, qd4 _ _ _, qd5 sh4.2.1 sh4.2.2, rfl, _, rfl, ?_⟩
      rw [decide_eq_true rfl]
      refine iteF ?_
      have sh14 := qf7 sh1 (s2.trans (s3.trans s4))
      have hnd : nds (T rws tp) ≤ 485 := by rw [eT1]; exact hfew
      refine ⟨1, 5, rfl, ⟨by decide, by decide, by decide, by decide⟩, fun D2 hD2 => qg4 hD2 (fun i y _ => y = .bl true) goes_rngL (by decide) (fun _ _ _ _ _ _ h => h) ?_ ?_⟩
      . intro i x H5 hi hx s5 Q' hq
        subst hx
        have hi4 : i < 4 := hi
        have veq2 : [V.ref t2, V.int (1 + (i : Int))] = [V.ref t2, V.int ((i + 1 : Nat) : Int)] := by rw [show (1 + (i : Int)) = ((i + 1 : Nat) : Int) by lia]
        refine ⟨_, rfl, _, rfl, t2, n, tp, i + 1, rws, veq2, qf7 sh24 s5, hnd, by lia, by lia, fun H6 t6 tp6 rws6 s6 sh6 hT6 => ?_⟩
        have sh16 := qf7 sh14 (s5.trans s6)
        obtain ⟨e3, e4⟩ := qh4 sh6.2.1 sh16.2.1 (by rw [hT6]; exact qm6 _ n _ (qH4 sh1.2.1) (qq6 sh1.2.1))
        subst e3 e4
        refine ⟨t6, _, rfl, qe3 sh6.1, qe5 sh6.2.1 sh6.2.2, qc8 _ _ _, qd4 _ _ _, qd5 sh6.2.1 sh6.2.2, ?_⟩
        refine ⟨_, rfl, t, _, rfl, qe3 sh16.1, qe5 sh6.2.1 sh6.2.2, qc8 _ _ _, qd4 _ _ _, qd5 sh6.2.1 sh6.2.2, rfl, hq _ _ s6 ?_⟩
        rw [decide_eq_true rfl]
      . intro ys5 H5 s5 hd5 hly5 hys5
        have ey : ys5 = (List.replicate 4 true).map V.bl := by
          refine qi7 (by rw [hly5]; rfl) fun j x hx => ?_
          have hj : j < 4 := by
            have := (List.getElem?_eq_some_iff.mp hx).1
            rw [hly5] at this
            exact this
          rw [hys5 j x hx]
          match j, hj with
          | 0, _ | 1, _ | 2, _ | 3, _ => rfl
        subst ey
        exact ⟨D2, _, rfl, hd5, q _ (s1.trans (s2.trans (s3.trans (s4.trans s5))))⟩
end
end Pr
set_option Elab.async false
set_option linter.all false
set_option maxRecDepth 100000
set_option maxHeartbeats 4000000
namespace Pr
open PySem L2 Qf
theorem l_T {k n : Nat} {t : Tr} : T (lRws k n t) (lTop k n t) = qa5 k (n + 1) t := by
  obtain ⟨ho, hi⟩ := Tr.post_ord (qa5 k (n + 1) t) [] Tr.ord_nil
  exact qq3 ho _ hi
section
variable {P : Program} {w : World} {K : PySem.W.Frag} {mg : Str -> Option Value} {base : Heap}
abbrev nLq : List Str := ["_law_n", "_law_boxes_here", "_law_shape_here", "_law_k", "_law_told", "_law_twice"]
theorem scLq : FnScope nLq ["_law_n", "_law_boxes_here"] (qa7 qq0) := ⟨rfl, rfl, rfl, by decide +kernel, rfl, by decide +kernel, by decide +kernel⟩
def spLq : Sp := fun vs H Q _ => ∃ (bp : Addr) (n : Nat) (boxes : List Row), vs = [.int ((n + 1 : Nat) : Int), .ref bp] ∧ RowsL H bp boxes ∧ Boxes (n + 1) boxes ∧ n < 12 ∧ ∀ H' : Hp, Same H H' -> Q (.bl true) H'
theorem ok_lq {f fS fE fH fD : Addr} {fd fdS fdE fdH fdD : FuncData} (F : Fun K "_law_lesser_right" "_law_lesser_right" qq0 f fd) (B : Blt mg) (C : Blt2 mg)
    (hS : mg "_law_shape" = some (.ref fS)) (FS : Fun K "_law_shape" "_law_shape" qE8 fS fdS) (bS : Binds K fdS ["_law_n", "_law_boxes_here"] []) (GS : FnOk P w K mg base CX0 15 fS fdS ["_law_n", "_law_boxes_here"] spBSg)
    (hE : mg "lesser" = some (.ref fE)) (FE : Fun K "lesser" "lesser" qv6 fE fdE) (bE : Binds K fdE ["shape", "k"] []) (GE : FnOk P w K mg base CX0 17 fE fdE ["shape", "k"] spLe)
    (hH : mg "_law_halved" = some (.ref fH)) (FH : Fun K "_law_halved" "_law_halved" qA0 fH fdH) (bH : Binds K fdH ["_law_box_here"] [])
    (hD : mg "_law_lessened" = some (.ref fD)) (FD : Fun K "_law_lessened" "_law_lessened" qm1 fD fdD) (bD : Binds K fdD ["_law_shape_here", "_law_wanted"] []) (GD : FnOk P w K mg base CX0 14 fD fdD ["_law_shape_here", "_law_wanted"] spLd) :
    FnOk P w K mg base CX0 18 f fd ["_law_n", "_law_boxes_here"] spLq := by
  have GH : FnOk P w K mg base CX0 1 fH fdH ["_law_box_here"] spHv := ok_hv FH
  refine F.ok scLq (fun vs H Q E h => ?_) (fun cdv A outer s H vs Q E hr h => ?_)
  . obtain ⟨bp, n, boxes, rfl, _⟩ := h
    rfl
  . obtain ⟨bp, n, boxes, rfl, hR, hBx, hn, q⟩ := h
    have hr15 : Room 15 _ := hr.mono (by decide)
    have hr14 : Room 14 _ := hr.mono (by decide)
    have hr1 : Room 1 _ := hr.mono (by decide)
    refine seqE ⟨_, ⟨qc4 (i := 2) scLq.nd rfl (by first | exact Or.inl rfl | exact Or.inr rfl) (qa8 GS hr15 (by rfl) hS FS.kp bS .nil qb9 (qa0 (pv 0) (qa0 (pv 1) qa3)))⟩, ?_⟩
    refine seqE ⟨_, ⟨qe0 (qb5 qI2 (PEb.go ⟨qa9 (qd3 hr) (by rfl) C.repr PyProof.Rows.boot_repr (Ars2.go (.cons ⟨qa8 GE hr (by rfl) hE FE.kp bE .nil qb9 (qa0 (pv 2) (qa0 qa4 qa3))⟩ .nil rfl))⟩)
      (PEb.go ⟨qa9 (qd3 hr) (by rfl) C.repr PyProof.Rows.boot_repr (Ars2.go (.cons ⟨qa8 GS hr15 (by rfl) hS FS.kp bS .nil qb9 (Ars2.go (.cons ⟨qb1 qe2 (pv 0) qa4⟩ (.cons ⟨qf4 nLq (qa7 qq0) rfl rfl rfl scLq.nd (qn8 (pv 1)) (fun cl C' fp s₀ H₀ => qa8 GH hr1 (by rfl) hH FH.kp bH .nil qb9 (qa0 (pv 0) qa3))⟩ .nil rfl) rfl))⟩ .nil rfl))⟩) (qb6 _)) (qb0 (qb3 qn4)) qb4⟩, ?_⟩
    refine seqE ⟨_, ⟨qB8 PassesOwn.never rfl (qB7 (by rfl) B.range (qa0 qa4 (qa0 qa4 qa3))) (qc0 (i := 3) scLq.nd rfl (by first | exact Or.inl rfl | exact Or.inr rfl))
      (StB.go (.cons ⟨qc4 (i := 4) scLq.nd rfl (by first | exact Or.inl rfl | exact Or.inr rfl) (qa8 GE hr (by rfl) hE FE.kp bE .nil qb9 (qa0 (pv 2) (qa0 (pv 3) qa3)))⟩
        (.cons ⟨qe0 (PW.pt (qq7 (qb5 qI2 (qa9 (qd3 hr) (by rfl) C.repr PyProof.Rows.boot_repr (qa0 (pv 4) qa3)) (PEb.go ⟨qa9 (qd3 hr) (by rfl) C.repr PyProof.Rows.boot_repr (Ars2.go (.cons ⟨qa8 GD hr14 (by rfl) hD FD.kp bD .nil qb9 (qa0 (pv 2) (qa0 (pv 3) qa3))⟩ .nil rfl))⟩) (qb6 _))
          (qk8 (qb5 qI2 (PEb.go ⟨qa9 (qd3 hr) (by rfl) C.repr PyProof.Rows.boot_repr (Ars2.go (.cons ⟨qa8 GE hr (by rfl) hE FE.kp bE .nil qb9 (qa0 (pv 2) (qa0 (pv 3) qa3))⟩ .nil rfl))⟩) (qa9 (qd3 hr) (by rfl) C.repr PyProof.Rows.boot_repr (qa0 (pv 4) qa3)) (qb6 _))))) (qb0 (qb3 qn4)) qb4⟩
        (.one ⟨qe0 (qb5 op_gt (pv 0) qa4 (qb6 _)) (StB.go (.cons ⟨qc4 (i := 5) scLq.nd rfl (by first | exact Or.inl rfl | exact Or.inr rfl) (qa8 GD hr14 (by rfl) hD FD.kp bD .nil qb9 (Ars2.go (.cons ⟨qa8 GD hr14 (by rfl) hD FD.kp bD .nil qb9 (qa0 (pv 2) (qa0 (pv 3) qa3))⟩ (.cons ⟨qb1 qe2 qa4 (pv 3)⟩ .nil rfl) rfl)))⟩
          (.one ⟨qe0 (qb5 qI2 (PEb.go ⟨qa9 (qd3 hr) (by rfl) C.repr PyProof.Rows.boot_repr (Ars2.go (.cons ⟨qa8 GE hr (by rfl) hE FE.kp bE .nil qb9 (Ars2.go (.cons ⟨pv 4⟩ (.cons ⟨qb1 qe2 qa4 (pv 3)⟩ .nil rfl) rfl))⟩ .nil rfl))⟩) (qa9 (qd3 hr) (by rfl) C.repr PyProof.Rows.boot_repr (qa0 (pv 5) qa3)) (qb6 _)) (qb0 (qb3 qn4)) qb4⟩))) qb4⟩))))⟩, ?_⟩
    refine qi2 ⟨_, ⟨qb3 qn4⟩, ?_⟩
    have hfew := qG5 (by lia) hBx
    have hbl : boxes.length ≤ 900 := by rcases hBx.2 with ⟨_, h⟩ | ⟨h, _⟩ <;> lia
    refine ⟨_, rfl, _, rfl, bp, n + 1, boxes, rfl, hR, hBx.1, hbl, hfew, by lia, fun H1 t s1 sh1 => ?_⟩
    have eT1 : T (ql4 (n + 1) boxes) (bTop (n + 1) boxes) = bt (n + 1) boxes 0 0 := b_T
    generalize bTop (n + 1) boxes = tp, ql4 (n + 1) boxes = rws at sh1 eT1
    have hnd : nds (T rws tp) ≤ 485 := by rw [eT1]; exact hfew
    refine ⟨_, rfl, t, n, tp, 1, rws, rfl, sh1, hnd, by decide, by decide, fun H2 t2 tp2 rws2 s2 sh2 hT2 => ?_⟩
    refine ⟨t2, _, rfl, qe3 sh2.1, qe5 sh2.2.1 sh2.2.2, qc8 _ _ _, qd4 _ _ _, qd5 sh2.2.1 sh2.2.2, ?_⟩
    obtain ⟨bs, hb, hbl', hrow⟩ := id (hR.same (s1.trans s2))
    have hlb : (bs.map V.ref).length = boxes.length := by rw [List.length_map]; exact hbl'
    refine ⟨_, rfl, _, _, rfl, rfl, _, rfl, bp, rfl, ⟨_, SqL.of hb⟩, fun D hDn => qg4 hDn (fun j z H3 => ∃ c b, z = .ref c ∧ boxes[j]? = some b ∧ H3 c = some (.tup (vN (hlfB b)))) (qm8 (K := K) hb) (by rw [hlb]; exact qb8 (by lia)) ?_ ?_ ?_⟩
    . rintro j z H3 H4 _ tk ⟨b, r, rfl, h1, h2⟩
      exact ⟨b, r, rfl, h1, tk _ _ h2⟩
    . intro j x H3 hj hx s3 Q' hq
      have hj2 : j < boxes.length := by rw [← hlb]; exact hj
      rw [List.getElem?_map] at hx
      obtain ⟨b, hbj, rfl⟩ := Option.map_eq_some_iff.mp hx
      have hg : boxes[j]? = some boxes[j] := List.getElem?_eq_getElem hj2
      exact ⟨_, rfl, b, n + 1, boxes[j], rfl, s3 _ _ (hrow j b _ hbj hg), hBx.1 _ (List.getElem_mem hj2), fun H4 c s4 hc => hq _ _ s4 ⟨c, _, rfl, hg, hc⟩⟩
    . intro ys H3 s3 hd3 hly hys
      obtain ⟨cs, rfl⟩ := qA6 (ys := ys) fun j y hy => by
        obtain ⟨b, r, z, _⟩ := hys j y hy
        exact ⟨b, z⟩
      have hcl : cs.length = boxes.length := by rw [List.length_map] at hly; rw [hly, hlb]
      have hR3 : RowsL H3 D (boxes.map hlfB) := ⟨cs, hd3, by rw [hcl, List.length_map], fun j c r e1 e2 => by
        obtain ⟨c', b, e3, e4, e5⟩ := hys j (.ref c) (by rw [List.getElem?_map, e1]; rfl)
        cases e3
        rw [List.getElem?_map, e4] at e2
        cases e2
        exact e5⟩
      have hbd : ∀ b ∈ boxes.map hlfB, ql3 n b := fun b hb => by
        obtain ⟨b', hb', rfl⟩ := List.mem_map.mp hb
        exact hlf_in (hBx.1 b' hb')
      have ehl : qa5 1 (n + 1) (bt (n + 1) boxes 0 0) = bt n (boxes.map hlfB) 0 0 := qH2 n boxes 0 0 hBx.1
      have hfew2 : nds (bt n (boxes.map hlfB) 0 0) ≤ 485 := by rw [← ehl]; exact Nat.le_trans (qh0 1 n _) hfew
      have veq : [V.int (((n + 1 : Nat) : Int) - 1), V.ref D] = [V.int ((n : Nat) : Int), V.ref D] := by rw [show (((n + 1 : Nat) : Int) - 1) = ((n : Nat) : Int) by lia]
      refine ⟨D, n, boxes.map hlfB, veq, hR3, hbd, by rw [List.length_map]; exact hbl, hfew2, by lia, fun H4 d s4 sh4 => ?_⟩
      have eT4 : T (ql4 n (boxes.map hlfB)) (bTop n (boxes.map hlfB)) = qa5 1 (n + 1) (bt (n + 1) boxes 0 0) := b_T.trans ehl.symm
      generalize bTop n (boxes.map hlfB) = tp4, ql4 n (boxes.map hlfB) = rws4 at sh4 eT4
      obtain ⟨e1, e2⟩ := qh4 sh2.2.1 sh4.2.1 (by rw [eT4, hT2, eT1])
      subst e1 e2
      refine ⟨d, _, rfl, qe3 sh4.1, qe5 sh4.2.1 sh4.2.2, qc8 _ _ _, qd4 _ _ _, qd5 sh4.2.1 sh4.2.2, rfl, _, rfl, ?_⟩
      rw [decide_eq_true rfl]
      refine iteF ?_
      have S4 : Same H1 H4 := s2.trans (s3.trans s4)
      refine ⟨1, 5, rfl, ⟨by decide, by decide, by decide, by decide⟩, qB9 (lo := 1) (n := 4) (fun i σ H2 => Same H1 H2 ∧ ∃ v3 v4 v5, σ = [some (.int ((n + 1 : Nat) : Int)), some (.ref bp), some (.ref t), v3, v4, v5]) ⟨S4, none, none, none, rfl⟩ ?_ ?_⟩
      . rintro i σ H5 hi ⟨s5, v3, v4, v5, rfl⟩
        have e0 : (1 : Int) + (i : Int) = ((i + 1 : Nat) : Int) := by lia
        rw [e0]
        have sh5 := qf7 sh1 s5
        refine ⟨_, rfl, _, rfl, t, n, tp, i + 1, rws, rfl, sh5, hnd, by lia, by lia, fun H6 t6 tp6 rws6 s6 sh6 hT6 => ?_⟩
        refine ⟨_, rfl, t6, _, rfl, qe3 sh6.1, qe5 sh6.2.1 sh6.2.2, qc8 _ _ _, qd4 _ _ _, qd5 sh6.2.1 sh6.2.2, ?_⟩
        have sh56 := qf7 sh5 s6
        refine ⟨_, rfl, _, rfl, t, n, tp, i + 1, rws, rfl, sh56, hnd, fun H7 t7 s7 sh7 => ?_⟩
        have eT7 : T (lRws (i + 1) n (T rws tp)) (lTop (i + 1) n (T rws tp)) = qa5 (i + 1) (n + 1) (T rws tp) := l_T
        generalize lTop (i + 1) n (T rws tp) = tp7, lRws (i + 1) n (T rws tp) = rws7 at sh7 eT7
        obtain ⟨e1, e2⟩ := qh4 sh6.2.1 sh7.2.1 (by rw [eT7, hT6])
        subst e1 e2
        refine ⟨t7, _, rfl, qe3 sh7.1, qe5 sh7.2.1 sh7.2.2, qc8 _ _ _, qd4 _ _ _, qd5 sh7.2.1 sh7.2.2, rfl, _, rfl, ?_⟩
        rw [decide_eq_true rfl]
        refine iteF ?_
        have sh57 := qf7 sh56 s7
        have sh67 := qf7 sh6 s7
        refine ⟨_, rfl, _, rfl, t, n, tp, i + 1, rws, rfl, sh57, hnd, by lia, by lia, fun H8 t8 tp8 rws8 s8 sh8 hT8 => ?_⟩
        obtain ⟨e1, e2⟩ := qh4 sh8.2.1 sh6.2.1 (by rw [hT8, hT6])
        subst e1 e2
        refine ⟨t8, _, rfl, qe3 sh8.1, qe5 sh8.2.1 sh8.2.2, qc8 _ _ _, qd4 _ _ _, qd5 sh8.2.1 sh8.2.2, ?_⟩
        have sh68 := qf7 sh67 s8
        have sh58 := qf7 sh57 s8
        refine ⟨_, rfl, t6, _, rfl, qe3 sh68.1, qe5 sh8.2.1 sh8.2.2, qc8 _ _ _, qd4 _ _ _, qd5 sh8.2.1 sh8.2.2, rfl, _, rfl, ?_⟩
        rw [decide_eq_true rfl]
        refine iteF ?_
        have S8 : Same H1 H8 := s5.trans (s6.trans (s7.trans s8))
        refine ⟨_, rfl, _, _, rfl, rfl, _, rfl, ?_⟩
        refine ite2 (fun hc => ?_) (fun hc => ⟨S8, _, _, _, rfl⟩)
        obtain ⟨m, rfl⟩ : ∃ m, n = m + 1 := ⟨n - 1, by have := of_decide_eq_true hc; lia⟩
        refine ⟨_, rfl, _, rfl, t, m + 1, tp, i + 1, rws, rfl, sh58, hnd, fun H9 t9 s9 sh9 => ?_⟩
        have eT9 : T (lRws (i + 1) (m + 1) (T rws tp)) (lTop (i + 1) (m + 1) (T rws tp)) = qa5 (i + 1) (m + 1 + 1) (T rws tp) := l_T
        generalize lTop (i + 1) (m + 1) (T rws tp) = tp9, lRws (i + 1) (m + 1) (T rws tp) = rws9 at sh9 eT9
        have hnd9 : nds (T rws9 tp9) ≤ 485 := by rw [eT9]; exact Nat.le_trans (qh0 _ _ _) hnd
        have e5 : (5 : Int) - ((i + 1 : Nat) : Int) = ((4 - i : Nat) : Int) := by lia
        have veq9 : [V.ref t9, V.int ((5 : Int) - ((i + 1 : Nat) : Int))] = [V.ref t9, V.int ((4 - i : Nat) : Int)] := by rw [e5]
        refine ⟨_, rfl, _, _, rfl, rfl, t9, m, tp9, 4 - i, rws9, veq9, sh9, hnd9, fun Ha ta sa sha => ?_⟩
        have eTa : T (lRws (4 - i) m (T rws9 tp9)) (lTop (4 - i) m (T rws9 tp9)) = qa5 (4 - i) (m + 1) (T rws9 tp9) := l_T
        generalize lTop (4 - i) m (T rws9 tp9) = tpa, lRws (4 - i) m (T rws9 tp9) = rwsa at sha eTa
        have veqb : [V.ref t6, V.int ((5 : Int) - ((i + 1 : Nat) : Int))] = [V.ref t6, V.int ((4 - i : Nat) : Int)] := by rw [e5]
        have sh6a := qf7 sh68 (s9.trans sa)
        have hnd8 : nds (T rws8 tp8) ≤ 485 := by rw [hT8]; exact Nat.le_trans (qh0 _ _ _) hnd
        refine ⟨_, rfl, _, rfl, _, _, rfl, rfl, t6, m, tp8, 4 - i, rws8, veqb, sh6a, hnd8, by lia, by lia, fun Hb tb tpb rwsb sb shb hTb => ?_⟩
        obtain ⟨e1, e2⟩ := qh4 shb.2.1 sha.2.1 (by rw [hTb, eTa, hT8, eT9])
        subst e1 e2
        have shab := qf7 sha sb
        refine ⟨tb, _, rfl, qe3 shb.1, qe5 shb.2.1 shb.2.2, qc8 _ _ _, qd4 _ _ _, qd5 shb.2.1 shb.2.2, ?_⟩
        refine ⟨_, rfl, ta, _, rfl, qe3 shab.1, qe5 shb.2.1 shb.2.2, qc8 _ _ _, qd4 _ _ _, qd5 shb.2.1 shb.2.2, rfl, _, rfl, ?_⟩
        rw [decide_eq_true rfl]
        refine iteF ?_
        exact ⟨S8.trans (s9.trans (sa.trans sb)), _, _, _, rfl⟩
      . rintro σ H5 ⟨s5, v3, v4, v5, rfl⟩
        exact q _ (s1.trans s5)
abbrev nLaw : List Str := ["_law_script", "_law_k", "_law_pot_here", "_law_n", "_law_boxes_here"]
theorem scLaw : FnScope nLaw ["_law_script"] (qa7 lLaw) := ⟨rfl, rfl, rfl, by decide +kernel, rfl, by decide +kernel, by decide +kernel⟩
end
end Pr
set_option Elab.async false
set_option linter.all false
set_option maxRecDepth 100000
set_option maxHeartbeats 4000000
namespace Pr
open PySem L2 Qf
section
variable {P : Program} {w : World} {K : PySem.W.Frag} {mg : Str -> Option Value} {base : Heap}
def spLaw (K : PySem.W.Frag) : Sp := fun vs H Q _ => ∃ (a : Addr) (ns : List Int), vs = [.ref a] ∧ SqL K H a (ns.map V.int) ∧ ns.length ≤ 63 ∧ ∀ H', Q (.bl true) H'
theorem ok_law {f fP fD fX fR fQ : Addr} {fd fdP fdD fdX fdR fdQ : FuncData} (F : Fun K "law" "law" lLaw f fd) (B : Blt mg) (C : Blt2 mg)
    (hP : mg "_law_pot" = some (.ref fP)) (FP : Fun K "_law_pot" "_law_pot" lPot fP fdP) (bP : Binds K fdP ["_law_script", "_law_k"] [])
    (hD : mg "_law_digit" = some (.ref fD)) (FD : Fun K "_law_digit" "_law_digit" qv7 fD fdD) (bD : Binds K fdD ["_law_pot_here", "_law_many"] [])
    (hX : mg "_law_boxes" = some (.ref fX)) (FX : Fun K "_law_boxes" "_law_boxes" qE6 fX fdX) (bX : Binds K fdX ["_law_pot_here", "_law_n"] []) (GX : FnOk P w K mg base CX0 3 fX fdX ["_law_pot_here", "_law_n"] spBoxes)
    (hR : mg "_law_larger_right" = some (.ref fR)) (FR : Fun K "_law_larger_right" "_law_larger_right" qm7 fR fdR) (bR : Binds K fdR ["_law_n", "_law_boxes_here"] []) (GR : FnOk P w K mg base CX0 18 fR fdR ["_law_n", "_law_boxes_here"] spLr)
    (hQ : mg "_law_lesser_right" = some (.ref fQ)) (FQ : Fun K "_law_lesser_right" "_law_lesser_right" qq0 fQ fdQ) (bQ : Binds K fdQ ["_law_n", "_law_boxes_here"] []) (GQ : FnOk P w K mg base CX0 18 fQ fdQ ["_law_n", "_law_boxes_here"] spLq) :
    FnOk P w K mg base CX0 19 f fd ["_law_script"] (spLaw K) := by
  have GP : FnOk P w K mg base CX0 1 fP fdP ["_law_script", "_law_k"] (spPot K) := ok_pot FP B C
  have GD : FnOk P w K mg base CX0 1 fD fdD ["_law_pot_here", "_law_many"] qr5 := qs9 FD
  refine F.ok scLaw (fun vs H Q E h => ?_) (fun cdv A outer s H vs Q E hr h => ?_)
  . obtain ⟨a, ns, rfl, _⟩ := h
    rfl
  . obtain ⟨a, ns, rfl, hSq, hlen, q⟩ := h
    have hr1 : Room 1 _ := hr.mono (by decide)
    have hr3 : Room 3 _ := hr.mono (by decide)
    refine seqE ⟨_, ⟨qB8 PassesOwn.never rfl (qo8 (by rfl) B.range (qa0 (qa9 (qC0 rfl) (by rfl) B.max PyProof.Rows.boot_max (qa0 qa4 (qa0 (qa9 (qt8 rfl) (by rfl) B.min PyProof.Rows.boot_min (qa0 (qa9 qd6 (by rfl) B.len PySem.boot_len (qa0 (pv 0) qa3)) (qa0 qa4 qa3))) qa3))) qa3)) (qc0 (i := 1) scLaw.nd rfl (by first | exact Or.inl rfl | exact Or.inr rfl))
        (StB.go (.cons ⟨qc4 (i := 2) scLaw.nd rfl (by first | exact Or.inl rfl | exact Or.inr rfl) (qa8 GP hr1 (by rfl) hP FP.kp bP .nil qb9 (qa0 (pv 0) (qa0 (pv 1) qa3)))⟩
        (.cons ⟨qc4 (i := 3) scLaw.nd rfl (by first | exact Or.inl rfl | exact Or.inr rfl) (qa8 GD hr1 (by rfl) hD FD.kp bD .nil qb9 (qa0 (pv 2) (qa0 qa4 qa3)))⟩
        (.cons ⟨qc4 (i := 4) scLaw.nd rfl (by first | exact Or.inl rfl | exact Or.inr rfl) (qa8 GX hr3 (by rfl) hX FX.kp bX .nil qb9 (qa0 (pv 2) (qa0 (pv 3) qa3)))⟩
        (.cons ⟨qe0 (PW.pt (qR9 (qb5 qn5 (pv 3) qa4 (qb6 _)) (qI1 (ql5 (qg8 (qa8 GR hr (by rfl) hR FR.kp bR .nil qb9 (qa0 (pv 3) (qa0 (pv 4) qa3)))))))) (qb0 (qb3 qn4)) qb4⟩
        (.one ⟨qe0 (PW.pt (qR9 (qb5 op_gt (pv 3) qa4 (qb6 _)) (qI1 (ql5 (qg8 (qa8 GQ hr (by rfl) hQ FQ.kp bQ .nil qb9 (qa0 (pv 3) (qa0 (pv 4) qa3)))))))) (qb0 (qb3 qn4)) qb4⟩))))))⟩, ?_⟩
    refine qi2 ⟨_, ⟨qb3 qn4⟩, ?_⟩
    refine ⟨_, rfl, a, _, rfl, .inl hSq, _, _, rfl, _, _, rfl, _, rfl, ?_, ?_, qB9 (fun i σ H2 => (i : Int) ≤ 5 ∧ Same H H2 ∧ ∃ v1 v2 v3 v4, σ = [some (.ref a), v1, v2, v3, v4]) ⟨by decide, Same.refl _, none, none, none, none, rfl⟩ ?_ ?_⟩
    . split <;> (try split) <;> lia
    . split <;> (try split) <;> lia
    . rintro i σ H2 hi ⟨i1, s2, v1, v2, v3, v4, rfl⟩
      have hi' : (i : Int) < 5 := by
        revert hi
        split <;> (try split) <;> lia
      refine ⟨_, rfl, _, rfl, a, _, ns, rfl, s2.seq hSq, hlen, by lia, by lia, fun H3 p s3 hpn hp3 => ?_⟩
      refine ⟨_, rfl, p, 13, rfl, hp3, by decide, by decide, fun n H4 hn b4 hp4 => ?_⟩
      refine ⟨_, rfl, _, rfl, p, n, rfl, hp4, by lia, fun H5 l bs b5 hp5 hl hRb hBx => ?_⟩
      have S5 : Same H H5 := fun b o e => by
        have e2 := s2 b o e
        have nb : b ≠ p := qa2 e2 hpn
        exact b5 _ _ (b4 _ _ (s3 _ _ e2) nb) nb
      have last : ∀ H6 : Hp, Same H5 H6 -> Same H H6 := fun H6 s6 => S5.trans s6
      refine ⟨_, rfl, _, _, rfl, rfl, _, rfl, ?_⟩
      have rest : ∀ H6 : Hp, Same H5 H6 -> (decide ((0 : Int) < (n : Int)) = true -> ∃ m, n = m + 1 ∧ RowsL H6 l bs ∧ Boxes (m + 1) bs ∧ m < 12) := fun H6 s6 hc => ⟨n - 1, by have := of_decide_eq_true hc; lia, hRb.same s6, by
        have : n - 1 + 1 = n := by have := of_decide_eq_true hc; lia
        rw [this]; exact hBx, by lia⟩
      refine ite2 (fun hc => ?_) (fun hc => iteF ?_)
      . refine ⟨_, rfl, _, rfl, l, n, bs, rfl, hRb, hBx, by have := of_decide_eq_true hc; lia, fun H6 s6 => ⟨_, rfl, iteF ?_⟩⟩
        refine ⟨_, rfl, _, _, rfl, rfl, _, rfl, ?_⟩
        refine ite2 (fun hc2 => ?_) (fun hc2 => iteF ⟨by lia, last _ s6, _, _, _, _, rfl⟩)
        obtain ⟨m, rfl, h1, h2, h3⟩ := rest H6 s6 hc2
        exact ⟨_, rfl, _, rfl, l, m, bs, rfl, h1, h2, h3, fun H7 s7 => ⟨_, rfl, iteF ⟨by lia, last _ (s6.trans s7), _, _, _, _, rfl⟩⟩⟩
      . refine ⟨_, rfl, _, _, rfl, rfl, _, rfl, ?_⟩
        refine ite2 (fun hc2 => ?_) (fun hc2 => iteF ⟨by lia, last _ (Same.refl _), _, _, _, _, rfl⟩)
        obtain ⟨m, rfl, h1, h2, h3⟩ := rest H5 (Same.refl _) hc2
        exact ⟨_, rfl, _, rfl, l, m, bs, rfl, h1, h2, h3, fun H7 s7 => ⟨_, rfl, iteF ⟨by lia, last _ s7, _, _, _, _, rfl⟩⟩⟩
    . rintro σ H2 ⟨_, s2, v1, v2, v3, v4, rfl⟩
      exact q H2
end
end Pr
set_option Elab.async false
set_option linter.all false
set_option maxRecDepth 100000
set_option maxHeartbeats 4000000
namespace Pr
open PySem L2 Qf
def qf1 (K : PySem.W.Frag) (x : Str) (st : Stmt) : Prop := ∃ (f : Addr) (fd : FuncData), PySem.W.nsIn K mainGlobals x = some (some (.ref f)) ∧ Fun K x x st f fd
theorem d_mk {K : PySem.W.Frag} {x : Str} {st : Stmt} {f : Addr} {od an : Option Addr} {sl : Array (Option Value)} {oc kV dc pm cd ct : Value} (a : PySem.W.nsIn K mainGlobals x = some (some (.ref f)))
    (l : K.lookup f = some ⟨oc, od, .func (PySem.W.fnOf x x (qj0 st) (qh5 st) (qa7 st) .none kV dc pm an cd ct), sl⟩) (c : PySem.W.codeIn K cd x = true) (k : PySem.W.keepIn K (.ref f) = true) : qf1 K x st := ⟨f, _, a, qT6 l c k⟩
def qc7 (K : PySem.W.Frag) (x : Str) : Prop := PySem.W.nsIn K mainGlobals x = some none
def qH7 (K : PySem.W.Frag) (C : Addr) (m qn : Str) (st : Stmt) : Prop := ∃ (f : Addr) (fd : FuncData), PySem.W.findIn K (.ref C) m = some (some (.ref f)) ∧ PySem.W.isFn K (.ref f) = true ∧ Fun K m qn st f fd
theorem m_mk {K : PySem.W.Frag} {C : Addr} {m qn : Str} {st : Stmt} {f : Addr} {od an : Option Addr} {sl : Array (Option Value)} {oc kV dc pm cd ct : Value} (a : PySem.W.findIn K (.ref C) m = some (some (.ref f))) (i : PySem.W.isFn K (.ref f) = true)
    (l : K.lookup f = some ⟨oc, od, .func (PySem.W.fnOf m qn (qj0 st) (qh5 st) (qa7 st) .none kV dc pm an cd ct), sl⟩) (c : PySem.W.codeIn K cd qn = true) (k : PySem.W.keepIn K (.ref f) = true) : qH7 K C m qn st := ⟨f, _, a, i, qT6 l c k⟩
theorem all_mk {l : PySem.W.OpenLaw} {w : World} {K : PySem.W.Frag} {h : Heap} {mg : Str -> Option Value} {fa fL C0 C1 : Addr} (X : K.In h) (G : h.Ns mainGlobals mg) (hfa : mg "law" = some (.ref fa)) {odL anL : Option Addr} {slL : Array (Option Value)} {ocL kVL dcL pmL cdL ctL : Value} {t0 t1 t2 t3 : Tok}
    (aL : PySem.W.nsIn K mainGlobals "law" = some (some (.ref fL))) (lL : K.lookup fL = some ⟨ocL, odL, .func (PySem.W.fnOf "law" "law" (qj0 lLaw) (qh5 lLaw) (qa7 lLaw) .none kVL dcL pmL anL cdL ctL), slL⟩) (cL : PySem.W.codeIn K cdL "law" = true) (kL : PySem.W.keepIn K (.ref fL) = true)
    (g0 : PySem.W.nsIn K mainGlobals "FIRST" = some (some (.int 2 t0))) (g1 : PySem.W.nsIn K mainGlobals "FULL" = some (some (.int 1 t1))) (g2 : PySem.W.nsIn K mainGlobals "GREATEST_SIZE" = some (some (.int 12 t2))) (g3 : PySem.W.nsIn K mainGlobals "EMPTY" = some (some (.int 0 t3)))
    (d0 : qf1 K "is_whole" qy3) (d1 : qf1 K "is_plain" qy4) (d2 : qf1 K "depths_of" sDeps) (d3 : qf1 K "end_rows" sEnd) (d4 : qf1 K "places_as_ended" qv4) (d5 : qf1 K "renumbered" qE2) (d6 : qf1 K "shape_of" qs5) (d7 : qf1 K "is_size" sSize) (d8 : qf1 K "is_number" qv5) (d9 : qf1 K "is_row" sRow) (d10 : qf1 K "are_rows" sRows) (d11 : qf1 K "is_telling" qs6) (d12 : qf1 K "is_shape" qE3) (d13 : qf1 K "want_shape" qE4) (d14 : qf1 K "larger" qz9) (d15 : qf1 K "lesser" qv6) (d16 : qf1 K "_law_pot" lPot) (d17 : qf1 K "_law_digit" qv7) (d18 : qf1 K "_law_cells" qE5) (d19 : qf1 K "_law_box" lBox) (d20 : qf1 K "_law_boxes" qE6) (d21 : qf1 K "_law_meets" qE7) (d22 : qf1 K "_law_has" lHas) (d23 : qf1 K "_law_number" qk1) (d24 : qf1 K "_law_shape" qE8) (d25 : qf1 K "_law_less" lLess) (d26 : qf1 K "_law_lessened" qm1) (d27 : qf1 K "_law_halved" qA0) (d28 : qf1 K "_law_larger_right" qm7) (d29 : qf1 K "_law_lesser_right" qq0)
    (z0 : qc7 K "isinstance") (z1 : qc7 K "int") (z2 : qc7 K "bool") (z3 : qc7 K "tuple") (z4 : qc7 K "list") (z5 : qc7 K "set") (z6 : qc7 K "len") (z7 : qc7 K "all") (z8 : qc7 K "any") (z9 : qc7 K "enumerate") (z10 : qc7 K "range") (z11 : qc7 K "max") (z12 : qc7 K "min") (z13 : qc7 K "abs") (z14 : qc7 K "repr") (z15 : qc7 K "str") (z16 : qc7 K "sum")
    (ac0 : PySem.W.nsIn K mainGlobals "Book" = some (some (.ref C0))) (cl0 : Cls K C0) (mk0 : PySem.W.makesIn K C0 = true) (kc0 : PySem.W.keepIn K (.ref C0) = true) (na0_0 : NoAttr K C0 "kept") (na0_1 : NoAttr K C0 "numbers") (md0_0 : qH7 K C0 "__init__" "Book.__init__" qz8) (md0_1 : qH7 K C0 "number_for" "Book.number_for" qM1)
    (ac1 : PySem.W.nsIn K mainGlobals "Lessening" = some (some (.ref C1))) (cl1 : Cls K C1) (mk1 : PySem.W.makesIn K C1 = true) (kc1 : PySem.W.keepIn K (.ref C1) = true) (na1_0 : NoAttr K C1 "rows") (na1_1 : NoAttr K C1 "k") (na1_2 : NoAttr K C1 "book") (na1_3 : NoAttr K C1 "known") (md1_0 : qH7 K C1 "__init__" "Lessening.__init__" qJ2) (md1_1 : qH7 K C1 "lesser_number" "Lessening.lesser_number" qM2) :
    ∃ fd : FuncData, (∀ (s : Shared) (v : Value), BindsTo s fd ⟨[v], []⟩ [("_law_script", v)]) ∧ ∀ base : Heap, K.In base -> base.Ns mainGlobals mg -> FnOk l.prog w K mg base CX0 19 fa fd ["_law_script"] (spLaw K) := by
  have e := hfa.symm.trans (PySem.W.mg_of X G aL)
  cases e
  have nn : ∀ {x : Str}, qc7 K x -> mg x = none := fun z => PySem.W.mg_none_of X G z
  have B : Blt mg := ⟨nn z0, nn z1, nn z2, nn z3, nn z4, nn z5, nn z6, nn z7, nn z8, nn z9, nn z10, nn z11, nn z12⟩
  have C : Blt2 mg := ⟨nn z13, nn z14, nn z15⟩
  have T : Cst mg := ⟨⟨t0, PySem.W.mg_of X G g0⟩, ⟨t1, PySem.W.mg_of X G g1⟩, ⟨t2, PySem.W.mg_of X G g2⟩⟩
  have FL := qT6 (st := lLaw) lL cL kL
  obtain ⟨f0, fd0, a0, F0⟩ := d0
  have h0 := PySem.W.mg_of X G a0
  have b0 := F0.binds (ps := ["thing"]) fun _ _ _ _ _ _ us hl => match us, hl with | [_], _ => rfl
  obtain ⟨f1, fd1, a1, F1⟩ := d1
  have h1 := PySem.W.mg_of X G a1
  have b1 := F1.binds (ps := ["row"]) fun _ _ _ _ _ _ us hl => match us, hl with | [_], _ => rfl
  obtain ⟨f2, fd2, a2, F2⟩ := d2
  have h2 := PySem.W.mg_of X G a2
  have b2 := F2.binds (ps := ["rows"]) fun _ _ _ _ _ _ us hl => match us, hl with | [_], _ => rfl
  obtain ⟨f3, fd3, a3, F3⟩ := d3
  have h3 := PySem.W.mg_of X G a3
  have b3 := F3.binds (ps := ["rows", "number", "ended"]) fun _ _ _ _ _ _ us hl => match us, hl with | [_, _, _], _ => rfl
  obtain ⟨f4, fd4, a4, F4⟩ := d4
  have h4 := PySem.W.mg_of X G a4
  have b4 := F4.binds (ps := ["rows", "top"]) fun _ _ _ _ _ _ us hl => match us, hl with | [_, _], _ => rfl
  obtain ⟨f5, fd5, a5, F5⟩ := d5
  have h5 := PySem.W.mg_of X G a5
  have b5 := F5.binds (ps := ["row", "numbers"]) fun _ _ _ _ _ _ us hl => match us, hl with | [_, _], _ => rfl
  obtain ⟨f6, fd6, a6, F6⟩ := d6
  have h6 := PySem.W.mg_of X G a6
  have b6 := F6.binds (ps := ["n", "top", "rows"]) fun _ _ _ _ _ _ us hl => match us, hl with | [_, _, _], _ => rfl
  obtain ⟨f7, fd7, a7, F7⟩ := d7
  have h7 := PySem.W.mg_of X G a7
  have b7 := F7.binds (ps := ["thing"]) fun _ _ _ _ _ _ us hl => match us, hl with | [_], _ => rfl
  obtain ⟨f8, fd8, a8, F8⟩ := d8
  have h8 := PySem.W.mg_of X G a8
  have b8 := F8.binds (ps := ["thing", "many"]) fun _ _ _ _ _ _ us hl => match us, hl with | [_, _], _ => rfl
  obtain ⟨f9, fd9, a9, F9⟩ := d9
  have h9 := PySem.W.mg_of X G a9
  have b9 := F9.binds (ps := ["thing", "before"]) fun _ _ _ _ _ _ us hl => match us, hl with | [_, _], _ => rfl
  obtain ⟨f10, fd10, a10, F10⟩ := d10
  have h10 := PySem.W.mg_of X G a10
  have b10 := F10.binds (ps := ["thing"]) fun _ _ _ _ _ _ us hl => match us, hl with | [_], _ => rfl
  obtain ⟨f11, fd11, a11, F11⟩ := d11
  have h11 := PySem.W.mg_of X G a11
  have b11 := F11.binds (ps := ["thing"]) fun _ _ _ _ _ _ us hl => match us, hl with | [_], _ => rfl
  obtain ⟨f12, fd12, a12, F12⟩ := d12
  have h12 := PySem.W.mg_of X G a12
  have b12 := F12.binds (ps := ["thing"]) fun _ _ _ _ _ _ us hl => match us, hl with | [_], _ => rfl
  obtain ⟨f13, fd13, a13, F13⟩ := d13
  have h13 := PySem.W.mg_of X G a13
  have b13 := F13.binds (ps := ["shape"]) fun _ _ _ _ _ _ us hl => match us, hl with | [_], _ => rfl
  obtain ⟨f14, fd14, a14, F14⟩ := d14
  have h14 := PySem.W.mg_of X G a14
  have b14 := F14.binds (ps := ["shape"]) fun _ _ _ _ _ _ us hl => match us, hl with | [_], _ => rfl
  obtain ⟨f15, fd15, a15, F15⟩ := d15
  have h15 := PySem.W.mg_of X G a15
  have b15 := F15.binds (ps := ["shape", "k"]) fun _ _ _ _ _ _ us hl => match us, hl with | [_, _], _ => rfl
  obtain ⟨f16, fd16, a16, F16⟩ := d16
  have h16 := PySem.W.mg_of X G a16
  have b16 := F16.binds (ps := ["_law_script", "_law_k"]) fun _ _ _ _ _ _ us hl => match us, hl with | [_, _], _ => rfl
  obtain ⟨f17, fd17, a17, F17⟩ := d17
  have h17 := PySem.W.mg_of X G a17
  have b17 := F17.binds (ps := ["_law_pot_here", "_law_many"]) fun _ _ _ _ _ _ us hl => match us, hl with | [_, _], _ => rfl
  obtain ⟨f18, fd18, a18, F18⟩ := d18
  have h18 := PySem.W.mg_of X G a18
  have b18 := F18.binds (ps := ["_law_pot_here", "_law_n"]) fun _ _ _ _ _ _ us hl => match us, hl with | [_, _], _ => rfl
  obtain ⟨f19, fd19, a19, F19⟩ := d19
  have h19 := PySem.W.mg_of X G a19
  have b19 := F19.binds (ps := ["_law_pot_here", "_law_n", "_law_most"]) fun _ _ _ _ _ _ us hl => match us, hl with | [_, _, _], _ => rfl
  obtain ⟨f20, fd20, a20, F20⟩ := d20
  have h20 := PySem.W.mg_of X G a20
  have b20 := F20.binds (ps := ["_law_pot_here", "_law_n"]) fun _ _ _ _ _ _ us hl => match us, hl with | [_, _], _ => rfl
  obtain ⟨f21, fd21, a21, F21⟩ := d21
  have h21 := PySem.W.mg_of X G a21
  have b21 := F21.binds (ps := ["_law_box_here", "_law_row", "_law_column", "_law_side"]) fun _ _ _ _ _ _ us hl => match us, hl with | [_, _, _, _], _ => rfl
  obtain ⟨f22, fd22, a22, F22⟩ := d22
  have h22 := PySem.W.mg_of X G a22
  have b22 := F22.binds (ps := ["_law_box_here", "_law_row", "_law_column", "_law_side"]) fun _ _ _ _ _ _ us hl => match us, hl with | [_, _, _, _], _ => rfl
  obtain ⟨f23, fd23, a23, F23⟩ := d23
  have h23 := PySem.W.mg_of X G a23
  have b23 := F23.binds (ps := ["_law_rows", "_law_boxes_here", "_law_row", "_law_column", "_law_side"]) fun _ _ _ _ _ _ us hl => match us, hl with | [_, _, _, _, _], _ => rfl
  obtain ⟨f24, fd24, a24, F24⟩ := d24
  have h24 := PySem.W.mg_of X G a24
  have b24 := F24.binds (ps := ["_law_n", "_law_boxes_here"]) fun _ _ _ _ _ _ us hl => match us, hl with | [_, _], _ => rfl
  obtain ⟨f25, fd25, a25, F25⟩ := d25
  have h25 := PySem.W.mg_of X G a25
  have b25 := F25.binds (ps := ["_law_old", "_law_new", "_law_known", "_law_number_here", "_law_size", "_law_wanted"]) fun _ _ _ _ _ _ us hl => match us, hl with | [_, _, _, _, _, _], _ => rfl
  obtain ⟨f26, fd26, a26, F26⟩ := d26
  have h26 := PySem.W.mg_of X G a26
  have b26 := F26.binds (ps := ["_law_shape_here", "_law_wanted"]) fun _ _ _ _ _ _ us hl => match us, hl with | [_, _], _ => rfl
  obtain ⟨f27, fd27, a27, F27⟩ := d27
  have h27 := PySem.W.mg_of X G a27
  have b27 := F27.binds (ps := ["_law_box_here"]) fun _ _ _ _ _ _ us hl => match us, hl with | [_], _ => rfl
  obtain ⟨f28, fd28, a28, F28⟩ := d28
  have h28 := PySem.W.mg_of X G a28
  have b28 := F28.binds (ps := ["_law_n", "_law_boxes_here"]) fun _ _ _ _ _ _ us hl => match us, hl with | [_, _], _ => rfl
  obtain ⟨f29, fd29, a29, F29⟩ := d29
  have h29 := PySem.W.mg_of X G a29
  have b29 := F29.binds (ps := ["_law_n", "_law_boxes_here"]) fun _ _ _ _ _ _ us hl => match us, hl with | [_, _], _ => rfl
  obtain ⟨mf0_0, mfd0_0, ma0_0, mi0_0, MF0_0⟩ := md0_0
  have me0_0 : Meth K C0 "__init__" mf0_0 := ⟨ma0_0, mi0_0, MF0_0.kp⟩
  have mb0_0 := MF0_0.binds (ps := ["self"]) fun _ _ _ _ _ _ us hl => match us, hl with | [_], _ => rfl
  obtain ⟨mf0_1, mfd0_1, ma0_1, mi0_1, MF0_1⟩ := md0_1
  have me0_1 : Meth K C0 "number_for" mf0_1 := ⟨ma0_1, mi0_1, MF0_1.kp⟩
  have mb0_1 := MF0_1.binds (ps := ["self", "row"]) fun _ _ _ _ _ _ us hl => match us, hl with | [_, _], _ => rfl
  have mm0 : Mk K C0 mf0_0 := ⟨mk0, ma0_0, mi0_0, kc0⟩
  obtain ⟨mf1_0, mfd1_0, ma1_0, mi1_0, MF1_0⟩ := md1_0
  have me1_0 : Meth K C1 "__init__" mf1_0 := ⟨ma1_0, mi1_0, MF1_0.kp⟩
  have mb1_0 := MF1_0.binds (ps := ["self", "rows", "k"]) fun _ _ _ _ _ _ us hl => match us, hl with | [_, _, _], _ => rfl
  obtain ⟨mf1_1, mfd1_1, ma1_1, mi1_1, MF1_1⟩ := md1_1
  have me1_1 : Meth K C1 "lesser_number" mf1_1 := ⟨ma1_1, mi1_1, MF1_1.kp⟩
  have mb1_1 := MF1_1.binds (ps := ["self", "size", "number"]) fun _ _ _ _ _ _ us hl => match us, hl with | [_, _, _], _ => rfl
  have mm1 : Mk K C1 mf1_0 := ⟨mk1, ma1_0, mi1_0, kc1⟩
  refine ⟨PySem.W.fnOf "law" "law" (qj0 lLaw) (qh5 lLaw) (qa7 lLaw) .none kVL dcL pmL anL cdL ctL, fun s v => .of_eq rfl, fun base _ _ => ?_⟩
  have gSize : FnOk l.prog w K mg base CX0 2 _ _ _ _ := ok_size F7 B T h0 F0 b0
  have gNum : FnOk l.prog w K mg base CX0 2 _ _ _ _ := ok_number F8 B T h0 F0 b0
  have gPl : ∀ d, FnOk l.prog w K mg base CX0 (d + 2) _ _ _ (qs8 d) := fun d => qF5 F4 B T h3 F3 b3 d
  have gRow : FnOk l.prog w K mg base CX0 3 _ _ _ _ := ok_row F9 B h8 F8 b8 gNum
  have gRows : FnOk l.prog w K mg base CX0 4 _ _ _ _ := ok_rows F10 B h9 F9 b9 gRow
  have gTell : FnOk l.prog w K mg base CX0 5 _ _ _ _ := qQ3 F11 B h7 F7 b7 gSize h10 F10 b10 gRows h8 F8 b8 gNum h2 F2 b2
  have gShape : FnOk l.prog w K mg base CX0 15 _ _ _ _ := ok_shape F12 B T h11 F11 b11 gTell h1 F1 b1 h4 F4 b4 gPl
  have gWant : FnOk l.prog w K mg base CX0 16 _ _ _ _ := ok_wantS F13 h12 F12 b12 gShape
  have hem0 : ∃ t, mg "EMPTY" = some (.int 0 t) := ⟨t3, PySem.W.mg_of X G g3⟩
  have gSO : FnOk l.prog w K mg base CX0 15 _ _ _ _ := ok_SO F6 B T hem0 h4 F4 b4 h3 F3 b3 h5 F5 b5
  have TB : BookIn K mg C0 := ⟨cl0, na0_0, na0_1, PySem.W.mg_of X G ac0⟩
  have TL : LsIn K mg C1 := ⟨cl1, na1_0, na1_1, na1_2, na1_3, PySem.W.mg_of X G ac1⟩
  have hsm : mg "sum" = none := nn z16
  have gLsI : FnOk l.prog w K mg base CX0 3 _ _ _ (spLsI C1 C0) := ok_lsI MF1_0 TL TB mm0 MF0_0 mb0_0
  have gLsN : ∀ s, FnOk l.prog w K mg base CX0 (s + 4) _ _ _ (spLsN C1 C0 s) := ok_lsN MF1_1 B T hem0 TL TB me1_1 mb1_1 me0_1 MF0_1 mb0_1 h1 F1 b1
  have gLe : FnOk l.prog w K mg base CX0 17 _ _ _ spLe := ok_le (fN := 0) F15 B TL TB h13 F13 b13 gWant h0 F0 b0 mm1 mb1_0 gLsI me1_1 mb1_1 gLsN h6 F6 b6 gSO
  have gLg : FnOk l.prog w K mg base CX0 17 _ _ _ spLg := ok_lg F14 T h13 F13 b13 gWant
  have gBx : FnOk l.prog w K mg base CX0 3 _ _ _ _ := ok_boxes F20 B h17 F17 b17 h18 F18 b18 h19 F19 b19
  have gBS : FnOk l.prog w K mg base CX0 15 _ _ _ spBSg := ok_bSg F24 B h23 F23 b23 h21 F21 b21 h22 F22 b22
  have gLd : FnOk l.prog w K mg base CX0 14 _ _ _ spLd := ok_ld F26 B hsm h25 F25 b25
  have gLr : FnOk l.prog w K mg base CX0 18 _ _ _ spLr := ok_lr F28 B C h24 F24 b24 gBS h14 F14 b14 gLg h15 F15 b15 gLe
  have gLq : FnOk l.prog w K mg base CX0 18 _ _ _ spLq := ok_lq F29 B C h24 F24 b24 gBS h15 F15 b15 gLe h27 F27 b27 h26 F26 b26 gLd
  exact ok_law FL B C h16 F16 b16 h17 F17 b17 h20 F20 b20 gBx h28 F28 b28 gLr h29 F29 b29 gLq
theorem walk {l : PySem.W.OpenLaw} {q : Program} {loose : List Str} {XP : (Str -> Option Value) -> Heap -> Prop} {YP : World -> Heap -> Prop} {d : DefRec} {K : Params -> PySem.W.Frag} (hn : l.most = some 63) (hdf : d.params.defaults = [])
    (hY : ∀ (w : World) (h : Heap), YP w h -> (K w.params).In h)
    (F : ∀ (w : World) (mg : Str -> Option Value) (fa : Addr) (h : Heap), (K w.params).In h -> h.Ns mainGlobals mg -> mg d.name = some (.ref fa) ->
      ∃ fd : FuncData, (∀ (s : Shared) (u : Value), BindsTo s fd ⟨[u], []⟩ [("_law_script", u)]) ∧ ∀ base : Heap, (K w.params).In base -> base.Ns mainGlobals mg -> FnOk l.prog w (K w.params) mg base CX0 19 fa fd ["_law_script"] (spLaw (K w.params))) :
    PySem.W.WalkO q loose XP YP l.row.toRowW d [] (fun f vs => PySem.call f vs) :=
  L2.walk_of (n := 63) (k := 19) (x := "_law_script") (CX := fun _ => CX0) (sp := fun w => spLaw (K w.params)) hn (by decide) hdf ⟨rfl, by decide, by decide, rfl⟩ hY F (fun _ _ a ns hl _ hS => ⟨a, ns, rfl, hS, hl, fun _ => rfl⟩) fun _ _ _ _ _ z => z
end Pr
set_option Elab.async false
set_option linter.all false
open PySem PySem.W PyProof.Rows
set_option maxRecDepth 100000 in
set_option maxHeartbeats 0 in
theorem PySem.Challenge.cw_quarterfold_k45_whole_larger_and_lesser_holds : PySem.Challenge.rw_quarterfold_k45_whole_larger_and_lesser.Holds := by
  w_on; o_law
  refine holds_open (q := Hd.q0) (loose := []) (Xt := Hd.X0) (XP := XL Hd.q0 []) (YP := Hook.says (kHook Hd.K0 Hd.as0 Hd.as_K)) (N := Hd.N0) Hd.left0
    (Hook.of (kHook Hd.K0 Hd.as0 Hd.as_K)) (Hook.keeps (kHook Hd.K0 Hd.as0 Hd.as_K)) (fun s e => xl_of s (Bool.and_eq_true_iff.mp e).1) XL.keeps
    (by rfl) (by rfl) (by rfl) (fun s e => recFacts_of (Bool.and_eq_true_iff.mp e).2)
    (by rfl) (by first | assumption | decide +kernel) (by decide +kernel) ⟨rfl, rfl, rfl, rfl, rfl, by decide +kernel⟩ ?hw ?hc
  case hw => w_witness2
  k_fill
  refine Pr.walk (l := PySem.Challenge.rw_quarterfold_k45_whole_larger_and_lesser) rfl rfl (fun w h Y => PySem.W.kIn_of Y) ?F
  case F =>
    intro w mg fa h KX G hmg
    refine' Pr.all_mk KX G hmg ?aL ?lL ?cL ?kL ?gc0 ?gc1 ?gc2 ?gc3 ?d0 ?d1 ?d2 ?d3 ?d4 ?d5 ?d6 ?d7 ?d8 ?d9 ?d10 ?d11 ?d12 ?d13 ?d14 ?d15 ?d16 ?d17 ?d18 ?d19 ?d20 ?d21 ?d22 ?d23 ?d24 ?d25 ?d26 ?d27 ?d28 ?d29 ?z0 ?z1 ?z2 ?z3 ?z4 ?z5 ?z6 ?z7 ?z8 ?z9 ?z10 ?z11 ?z12 ?z13 ?z14 ?z15 ?z16 ?ac0 ?cl0 ?mk0 ?kc0 ?na0_0 ?na0_1 ?md0_0 ?md0_1 ?ac1 ?cl1 ?mk1 ?kc1 ?na1_0 ?na1_1 ?na1_2 ?na1_3 ?md1_0 ?md1_1
    (case aL => k_is); (case lL => k_is); (case cL => k_is); (case kL => k_is)
    (case gc0 => k_is)
    (case gc1 => k_is)
    (case gc2 => k_is)
    (case gc3 => k_is)
    (case z0 => unfold Pr.qc7; k_is)
    (case z1 => unfold Pr.qc7; k_is)
    (case z2 => unfold Pr.qc7; k_is)
    (case z3 => unfold Pr.qc7; k_is)
    (case z4 => unfold Pr.qc7; k_is)
    (case z5 => unfold Pr.qc7; k_is)
    (case z6 => unfold Pr.qc7; k_is)
    (case z7 => unfold Pr.qc7; k_is)
    (case z8 => unfold Pr.qc7; k_is)
    (case z9 => unfold Pr.qc7; k_is)
    (case z10 => unfold Pr.qc7; k_is)
    (case z11 => unfold Pr.qc7; k_is)
    (case z12 => unfold Pr.qc7; k_is)
    (case z13 => unfold Pr.qc7; k_is)
    (case z14 => unfold Pr.qc7; k_is)
    (case z15 => unfold Pr.qc7; k_is)
    (case z16 => unfold Pr.qc7; k_is)
    (case ac0 => k_is)
    (case cl0 => refine' ⟨?pa, ?pb, ?pc, ?pd⟩; (case pa => k_is); (case pb => k_is); (case pc => k_is); (case pd => k_is))
    (case mk0 => k_is); (case kc0 => k_is)
    (case na0_0 => unfold L2.NoAttr; k_is)
    (case na0_1 => unfold L2.NoAttr; k_is)
    (case md0_0 => refine' Pr.m_mk ?qa ?qi ?ql ?qc ?qk; (case qa => k_is); (case qi => k_is); (case ql => k_is); (case qc => k_is); (case qk => k_is))
    (case md0_1 => refine' Pr.m_mk ?qa ?qi ?ql ?qc ?qk; (case qa => k_is); (case qi => k_is); (case ql => k_is); (case qc => k_is); (case qk => k_is))
    (case ac1 => k_is)
    (case cl1 => refine' ⟨?pa, ?pb, ?pc, ?pd⟩; (case pa => k_is); (case pb => k_is); (case pc => k_is); (case pd => k_is))
    (case mk1 => k_is); (case kc1 => k_is)
    (case na1_0 => unfold L2.NoAttr; k_is)
    (case na1_1 => unfold L2.NoAttr; k_is)
    (case na1_2 => unfold L2.NoAttr; k_is)
    (case na1_3 => unfold L2.NoAttr; k_is)
    (case md1_0 => refine' Pr.m_mk ?qa ?qi ?ql ?qc ?qk; (case qa => k_is); (case qi => k_is); (case ql => k_is); (case qc => k_is); (case qk => k_is))
    (case md1_1 => refine' Pr.m_mk ?qa ?qi ?ql ?qc ?qk; (case qa => k_is); (case qi => k_is); (case ql => k_is); (case qc => k_is); (case qk => k_is))
    all_goals (refine' Pr.d_mk ?qa ?ql ?qc ?qk; (case qa => k_is); (case ql => k_is); (case qc => k_is); (case qk => k_is))
