import PyProof.Rows.All
import Wide.All
import OpenK.KLine
import KE.RegKIsAll
import KE.IntBitsLaws
import KE.KxAffix
import Open.Tops
import Wide.FinOn
import Lean
import PyProof.EqAt
import PyProof.EqKinds
import PyProof.TupleCall
import KE.KRevIter
import PyProof.ListNew
import PyProof.NeKinds
import PyProof.StrBlockL
import KE.LcSums
import PyProof.Rows.EqDataRows
import PyProof.Draws
import PyProof.EnumMake
import PyProof.ZipIter
import PyProof.WalksMore
import PyProof.P3In
import PyProof.IsRules
import KE.KTab
import PyProof.Rows.SumAny
import PyProof.ExcClass2
import PyProof.ExcInit
import PyProof.StationsW
import PyProof.InstStoreFacts
import PyProof.StrOps2
import PyProof.StrBlockI
import PyProof.StrWalks
import KE.KLcPair
import PyProof.Rows.Range3
import PyProof.Rows.MinMaxN
import PyProof.StrCalls2
import KE.KIntText
import PyProof.SetKind
import PyProof.Rows.SetFrom
import PyProof.SetRoads
import PyProof.CollectWalk
import PyProof.Rows.SortStr
import KE.KDictSum
import KE.KEqDict
import KE.KPairComp
import PyProof.DictItemsLoops
import KE.KxText
import PySem.Challenge.RW_leansay_k61_desk_refused
namespace PySem.W.Fast
abbrev Z:=True
def tw4231851033057725855:=Z
def tw686051379270013590:=Z
section
local macro_rules|`(universe $x*)=>return Lean.mkNullNode (←x.mapM λi=>`(command|def $(Lean.mkIdent (.mkSimple s!"tw{(`Sh8++i.getId).hash}")):ident:=Z))
universe o_211 o_1159 o_430 o_1126 o_852 o_850 o_46 o_851 o_506 o_636 o_978 o_1121 o_1047 o_513 o_339 o_620 o_1086 o_1036 o_407 o_418 o_878 o_400 o_795 o_648 o_3 o_958 o_317 o_271 o_627 o_591 o_751 o_1027 o_442 o_1335 o_338 o_1184 o_194 o_981 o_78 o_501 o_1341 o_61 o_817 o_1052 o_1187 o_696 o_65 o_291 o_846 o_1063 o_788 o_168 o_1074 o_1337 o_1026 o_1048 o_1346 o_1157 o_380 o_1307 o_1300 o_1353 o_872 o_647 o_1242 o_679 o_743 o_1160 o_686 o_512 o_212 o_944 o_698 o_967 o_527 o_40 o_26 o_387 o_827 o_675 o_569 o_607 o_1147 o_769 o_1295 o_1279 o_833 o_920 o_711 o_401 o_756 o_247 o_215 o_824 o_1091 o_48 o_945 o_649 o_892 o_1143 o_1293 o_24 o_523 o_715 o_445 o_988 o_625 o_529 o_710 o_240 o_924 o_36 o_138 o_297 o_1182 o_957 o_180 o_170 o_498 o_1064 o_495 o_692 o_1089 o_397 o_126 o_1250 o_105 o_279 o_351 o_1358 o_1080 o_89 o_879 o_54 o_643 o_613 o_939 o_283 o_905 o_256 o_532 o_79 o_1120 o_1323 o_390 o_95 o_435 o_1007 o_175 o_784 o_22 o_324 o_1253 o_285 o_1134 o_64 o_802 o_684 o_1113 o_1197 o_1285 o_447 o_1018 o_1315 o_560 o_284 o_1206 o_862 o_508 o_1094 o_703 o_1176 o_922 o_360 o_810 o_446 o_114 o_1272 o_49 o_349 o_525 o_943 o_1319 o_323 o_786 o_934 o_614 o_42 o_209 o_350 o_1267 o_736 o_949 o_1067 o_1245 o_12 o_873 o_964 o_492 o_232 o_326 o_841 o_907 o_450 o_687 o_1278 o_706 o_889 o_731 o_340 o_1046 o_1173 o_474 o_996 o_1393 o_463 o_424 o_66 o_587 o_31 o_4 o_151 o_505 o_1148 o_458 o_1202 o_367 o_38 o_1149 o_748 o_218 o_1252 o_356 o_101 o_1065 o_352 o_304 o_581 o_661 o_1196 o_1301 o_1084 o_1291 o_1101 o_172 o_234 o_1379 o_659 o_1262 o_117 o_1165 o_181 o_266 o_1352 o_68 o_766 o_848 o_952 o_1150 o_882 o_133 o_204 o_749 o_871 o_213 o_609 o_1104 o_1305 o_1132 o_332 o_1188 o_1310 o_286 o_354 o_1248 o_1302 o_586 o_865 o_1012 o_906 o_1251 o_773 o_490 o_914 o_1336 o_1017 o_621 o_724 o_72 o_336 o_20 o_971 o_243 o_1019 o_276 o_716 o_1294 o_1382 o_1321 o_383 o_84 o_641 o_571 o_146 o_519 o_1364 o_869 o_199 o_420 o_713 o_1141 o_890 o_1069 o_55 o_959 o_1312 o_946 o_428 o_829 o_51 o_254 o_1010 o_552 o_590 o_1343 o_13 o_1385 o_30 o_118 o_735 o_584 o_1334 o_1383 o_1359 o_1325 o_638 o_1274 o_1392 o_200 o_1016 o_455 o_179 o_936 o_1361 o_1387 o_574 o_929 o_406 o_395 o_347 o_1004 o_1006 o_884 o_983 o_202 o_791 o_734 o_1255 o_100 o_331 o_226 o_187 o_1235 o_1124 o_376 o_47 o_184 o_1238 o_1163 o_962 o_287 o_303 o_1218 o_1179 o_272 o_1247 o_955 o_1297 o_723 o_1265 o_963 o_298 o_752 o_1125 o_225 o_556 o_1043 o_598 o_668 o_17 o_186 o_1034 o_1256 o_263 o_911 o_994 o_1324 o_216 o_522 o_583 o_928 o_941 o_1031 o_313 o_415 o_913 o_860 o_1290 o_296 o_1342 o_1322 o_362 o_382 o_1174 o_883 o_765 o_853 o_178 o_993 o_807 o_103 o_1264 o_43 o_645 o_780 o_292 o_599 o_461 o_822 o_695 o_312 o_972 o_1231 o_1246 o_1338 o_989 o_1355 o_370 o_173 o_1129 o_1054 o_1214 o_1167 o_1108 o_1224 o_1090 o_775 o_1204 o_789 o_9 o_1032 o_488 o_307 o_107 o_1203 o_148 o_319 o_372 o_1269 o_1241 o_1115 o_185 o_909 o_70 o_558 o_1175 o_565 o_241 o_1185 o_110 o_245 o_927 o_1317 o_785 o_475 o_341 o_379 o_676 o_722 o_269 o_1112 o_422 o_666 o_122 o_159 o_536 o_518 o_507 o_87 o_885 o_124 o_414 o_408 o_1276 o_97 o_328 o_1271 o_74 o_738 o_57 o_1082 o_201 o_369 o_979 o_629 o_1195 o_863 o_1394 o_156 o_1330 o_719 o_557 o_1068 o_163 o_290 o_504 o_950 o_77 o_986 o_1296 o_942 o_487 o_902 o_606 o_1258 o_1303 o_83 o_589 o_452 o_1110 o_521 o_343 o_1236 o_856 o_564 o_891 o_305 o_479 o_639 o_704 o_34 o_672 o_1106 o_758 o_729 o_1331 o_808 o_550 o_511 o_1366 o_412 o_674 o_1225 o_820 o_235 o_311 o_1200 o_233 o_195 o_815 o_665 o_143 o_610 o_651 o_1381 o_1111 o_984 o_1169 o_1092 o_977 o_301 o_227 o_141 o_1229 o_809 o_1178 o_1075 o_1234 o_1097 o_1348 o_712 o_762 o_655 o_471 o_688 o_1354 o_745 o_912 o_1039 o_32 o_177 o_470 o_1 o_1266 o_302 o_330 o_1318 o_135 o_702 o_281 o_893 o_835 o_1156 o_132 o_578 o_229 o_483 o_494 o_1127 o_631 o_469 o_106 o_99 o_622 o_685 o_948 o_145 o_115 o_1389 o_157 o_801 o_440 o_1062 o_164 o_1376 o_566 o_1107 o_632 o_531 o_603 o_25 o_699 o_1375 o_1316 o_1212 o_398 o_14 o_832 o_585 o_1277 o_1216 o_608 o_673 o_19 o_799 o_460 o_438 o_1154 o_1072 o_1260 o_1369 o_402 o_823 o_1037 o_618 o_432 o_969 o_570 o_433 o_139 o_11 o_451 o_671 o_434 o_1103 o_448 o_128 o_1388 o_1011 o_733 o_790 o_682 o_594 o_457 o_634 o_154 o_662 o_1076 o_540 o_413 o_1282 o_573 o_797 o_742 o_1162 o_821 o_171 o_541 o_1087 o_1226 o_1005 o_1239 o_539 o_196 o_1045 o_855 o_956 o_637 o_530 o_787 o_857 o_21 o_1339 o_189 o_366 o_60 o_82 o_162 o_985 o_768 o_1152 o_616 o_1371 o_1131 o_1193 o_388 o_721 o_1098 o_938 o_465 o_1050 o_219 o_516 o_770 o_1308 o_867 o_123 o_449 o_580 o_405 o_680 o_514 o_224 o_1030 o_717 o_866 o_538 o_760 o_1329 o_1085 o_771 o_1118 o_551 o_288 o_592 o_1040 o_93 o_1060 o_394 o_635 o_705 o_509 o_886 o_28 o_53 o_1114 o_1372 o_86 o_270 o_669 o_113 o_363 o_67 o_874 o_1287 o_1326 o_1378 o_321 o_374 o_974 o_1033 o_320 o_1198 o_898 o_1263 o_868 o_881 o_1351 o_88 o_485 o_277 o_1058 o_1003 o_421 o_314 o_640 o_427 o_409 o_416 o_1309 o_248 o_746 o_1099 o_71 o_838 o_130 o_477 o_136 o_930 o_877 o_1192 o_358 o_816 o_310 o_1146 o_258 o_918 o_782 o_265 o_439 o_238 o_239 o_859 o_834 o_309 o_806 o_1210 o_600 o_923 o_255 o_691 o_732 o_654 o_1180 o_1368 o_1044 o_69 o_544 o_250 o_1029 o_759 o_798 o_1119 o_1183 o_426 o_714 o_37 o_496 o_329 o_776 o_252 o_899 o_553 o_365 o_1259 o_359 o_819 o_1057 o_444 o_667 o_990 o_1053 o_697 o_1096 o_555 o_1205 o_980 o_262 o_576 o_572 o_274 o_1070 o_546 o_109 o_904 o_1223 o_991 o_664 o_747 o_778 o_812 o_242 o_56 o_1350 o_45 o_588 o_116 o_825 o_1191 o_441 o_169 o_1078 o_642 o_562 o_1380 o_997 o_403 o_1059 o_579 o_965 o_377 o_342 o_220 o_228 o_897 o_7 o_783 o_267 o_197 o_888 o_1172 o_1153 o_431 o_793 o_630 o_149 o_1233 o_391 o_1190 o_125 o_1289 o_1139 o_1181 o_628 o_960 o_709 o_896 o_472 o_690 o_147 o_1365 o_1140 o_534 o_306 o_384 o_152 o_1024 o_1008 o_1333 o_657 o_836 o_678 o_386 o_1270 o_5 o_602 o_361 o_677 o_1362 o_624 o_76 o_1138 o_183 o_15 o_16 o_559 o_876 o_1311 o_437 o_1161 o_1373 o_249 o_393 o_484 o_63 o_1199 o_453 o_482 o_300 o_1340 o_1374 o_1145 o_813 o_611 o_221 o_660 o_849 o_772 o_1217 o_264 o_526 o_895 o_165 o_1001 o_410 o_1228 o_375 o_750 o_805 o_1055 o_545 o_803 o_903 o_1015 o_1020 o_1023 o_658 o_1170 o_467 o_840 o_217 o_779 o_1284 o_1073 o_528 o_112 o_777 o_1133 o_396 o_486 o_1051 o_921 o_951 o_796 o_515 o_193 o_1286 o_316 o_596 o_563 o_650 o_839 o_1135 o_167 o_858 o_1390 o_900 o_481 o_999 o_1025 o_1243 o_727 o_1344 o_1142 o_1222 o_741 o_932 o_1360 o_80 o_1155 o_188 o_1215 o_502 o_1257 o_120 o_931 o_102 o_33 o_1386 o_459 o_653 o_1298 o_90 o_1171 o_161 o_814 o_273 o_497 o_701 o_1128 o_280 o_10 o_91 o_1230 o_1186 o_44 o_293 o_246 o_41 o_1221 o_94 o_134 o_533 o_373 o_222 o_1177 o_966 o_520 o_549 o_355 o_23 o_500 o_910 o_423 o_604 o_548 o_1117 o_623 o_864 o_1083 o_1304 o_1122 o_489 o_935 o_1013 o_210 o_153 o_59 o_1022 o_478 o_1219 o_953 o_140 o_334 o_92 o_1328 o_1314 o_318 o_937 o_617 o_207 o_1240 o_1041 o_464 o_740 o_137 o_694 o_761 o_1100 o_205 o_253 o_111 o_236 o_842 o_368 o_191 o_411 o_1280 o_1105 o_925 o_970 o_976 o_260 o_155 o_389 o_231 o_1093 o_129 o_1357 o_1038 o_764 o_476 o_725 o_826 o_381 o_708 o_754 o_468 o_542 o_916 o_828 o_325 o_739 o_995 o_728 o_597 o_615 o_1367 o_295 o_753 o_844 o_278 o_203 o_1136 o_831 o_973 o_1273 o_577 o_567 sts_916 sts_347 sts_999 sts_1282 sts_492 sts_793 sts_594 sts_844 sts_1346 sts_1078 sts_1210 sts_207 sts_1165 sts_258 sts_536
end
end PySem.W.Fast
section
open PySem PySem.W PyProof.Rows
set_option Elab.async false
set_option maxRecDepth 100000 in
set_option maxHeartbeats 0 in
open_shared Sh8 for PySem.Challenge.rw_leansay_k61_desk_refused.prog leaving 0
namespace Sh8
set_option maxRecDepth 100000 in
noncomputable def K:Params->Frag:=fun P=>(nat_lit 2,PySem.W.boot_o_2 P)::(nat_lit 3,o_1346 P)::(nat_lit 22,o_14 P)::(nat_lit 29,o_21 P)::(nat_lit 30,o_22 P)::(nat_lit 31,o_209 P)::(nat_lit 32,o_24 P)::(nat_lit 35,o_31 P)::(nat_lit 47,o_43 P)::(nat_lit 48,o_44 P)::(nat_lit 49,o_45 P)::(nat_lit 50,o_46 P)::(nat_lit 51,o_47 P)::(nat_lit 54,o_54 P)::(nat_lit 66,o_66 P)::(nat_lit 67,o_67 P)::(nat_lit 68,o_68 P)::(nat_lit 69,o_69 P)::(nat_lit 70,o_70 P)::(nat_lit 73,o_77 P)::(nat_lit 85,o_89 P)::(nat_lit 86,o_90 P)::(nat_lit 87,o_91 P)::(nat_lit 88,o_92 P)::(nat_lit 89,o_93 P)::(nat_lit 92,o_100 P)::(nat_lit 104,o_112 P)::(nat_lit 105,o_113 P)::(nat_lit 106,o_114 P)::(nat_lit 107,o_115 P)::(nat_lit 108,o_116 P)::(nat_lit 111,o_123 P)::(nat_lit 123,o_135 P)::(nat_lit 124,o_136 P)::(nat_lit 125,o_137 P)::(nat_lit 126,o_138 P)::(nat_lit 127,o_139 P)::(nat_lit 130,o_146 P)::(nat_lit 137,o_153 P)::(nat_lit 138,o_154 P)::(nat_lit 139,o_155 P)::(nat_lit 142,o_162 P)::(nat_lit 149,o_169 P)::(nat_lit 150,o_170 P)::(nat_lit 151,o_171 P)::(nat_lit 154,o_178 P)::(nat_lit 161,o_185 P)::(nat_lit 162,o_186 P)::(nat_lit 163,o_187 P)::(nat_lit 166,o_194 P)::(nat_lit 173,o_201 P)::(nat_lit 174,o_202 P)::(nat_lit 175,o_203 P)::(nat_lit 178,o_210 P)::(nat_lit 185,o_217 P)::(nat_lit 186,o_218 P)::(nat_lit 187,o_219 P)::(nat_lit 195,o_227 P)::(nat_lit 196,o_228 P)::(nat_lit 202,o_234 P)::(nat_lit 203,o_235 P)::(nat_lit 216,o_248 P)::(nat_lit 217,o_249 P)::(nat_lit 223,o_255 P)::(nat_lit 224,o_256 P)::(nat_lit 230,o_265 P)::(nat_lit 231,o_266 P)::(nat_lit 237,o_272 P)::(nat_lit 238,o_273 P)::(nat_lit 244,o_279 P)::(nat_lit 245,o_280 P)::(nat_lit 251,o_286 P)::(nat_lit 252,o_287 P)::(nat_lit 256,o_291 P)::(nat_lit 257,o_292 P)::(nat_lit 271,o_306 P)::(nat_lit 284,o_319 P)::(nat_lit 285,o_320 P)::(nat_lit 289,o_324 P)::(nat_lit 290,o_325 P)::(nat_lit 296,o_331 P)::(nat_lit 297,o_332 P)::(nat_lit 303,o_341 P)::(nat_lit 304,o_342 P)::(nat_lit 305,o_343 P)::(nat_lit 318,o_361 P)::(nat_lit 319,o_362 P)::(nat_lit 325,o_368 P)::(nat_lit 326,o_369 P)::(nat_lit 332,o_375 P)::(nat_lit 333,o_376 P)::(nat_lit 339,o_382 P)::(nat_lit 340,o_383 P)::(nat_lit 346,o_389 P)::(nat_lit 347,o_390 P)::(nat_lit 353,o_396 P)::(nat_lit 354,o_397 P)::(nat_lit 358,o_401 P)::(nat_lit 359,o_402 P)::(nat_lit 365,o_408 P)::(nat_lit 366,o_409 P)::(nat_lit 367,o_410 P)::(nat_lit 368,o_411 P)::(nat_lit 369,o_596 P)::(nat_lit 370,o_413 P)::(nat_lit 371,o_414 P)::(nat_lit 374,o_421 P)::(nat_lit 386,o_433 P)::(nat_lit 387,o_434 P)::(nat_lit 393,o_440 P)::(nat_lit 394,o_441 P)::(nat_lit 400,o_447 P)::(nat_lit 401,o_448 P)::(nat_lit 402,o_449 P)::(nat_lit 403,o_450 P)::(nat_lit 404,o_451 P)::(nat_lit 407,o_458 P)::(nat_lit 419,o_470 P)::(nat_lit 420,o_471 P)::(nat_lit 426,o_477 P)::(nat_lit 427,o_478 P)::(nat_lit 433,o_484 P)::(nat_lit 434,o_485 P)::(nat_lit 435,o_486 P)::(nat_lit 436,o_487 P)::(nat_lit 437,o_488 P)::(nat_lit 440,o_495 P)::(nat_lit 452,o_507 P)::(nat_lit 453,o_508 P)::(nat_lit 459,o_514 P)::(nat_lit 460,o_515 P)::(nat_lit 466,o_521 P)::(nat_lit 467,o_522 P)::(nat_lit 473,o_528 P)::(nat_lit 474,o_529 P)::(nat_lit 475,o_530 P)::(nat_lit 476,o_531 P)::(nat_lit 477,o_532 P)::(nat_lit 480,o_539 P)::(nat_lit 492,o_551 P)::(nat_lit 493,o_552 P)::(nat_lit 499,o_558 P)::(nat_lit 500,o_559 P)::(nat_lit 506,o_565 P)::(nat_lit 507,o_566 P)::(nat_lit 513,o_572 P)::(nat_lit 514,o_573 P)::(nat_lit 520,o_579 P)::(nat_lit 521,o_580 P)::(nat_lit 527,o_586 P)::(nat_lit 528,o_587 P)::(nat_lit 529,o_588 P)::(nat_lit 530,o_589 P)::(nat_lit 531,o_590 P)::(nat_lit 534,o_597 P)::(nat_lit 546,o_609 P)::(nat_lit 547,o_610 P)::(nat_lit 553,o_616 P)::(nat_lit 554,o_617 P)::(nat_lit 560,o_623 P)::(nat_lit 561,o_624 P)::(nat_lit 567,o_630 P)::(nat_lit 568,o_631 P)::(nat_lit 574,o_637 P)::(nat_lit 575,o_638 P)::(nat_lit 576,o_639 P)::(nat_lit 577,o_640 P)::(nat_lit 578,o_795 P)::(nat_lit 581,o_648 P)::(nat_lit 593,o_660 P)::(nat_lit 594,o_661 P)::(nat_lit 600,o_667 P)::(nat_lit 601,o_668 P)::(nat_lit 607,o_674 P)::(nat_lit 608,o_675 P)::(nat_lit 609,o_676 P)::(nat_lit 610,o_677 P)::(nat_lit 611,o_678 P)::(nat_lit 614,o_685 P)::(nat_lit 626,o_697 P)::(nat_lit 627,o_698 P)::(nat_lit 633,o_704 P)::(nat_lit 634,o_705 P)::(nat_lit 640,o_711 P)::(nat_lit 641,o_712 P)::(nat_lit 642,o_713 P)::(nat_lit 643,o_714 P)::(nat_lit 644,o_715 P)::(nat_lit 647,o_722 P)::(nat_lit 659,o_734 P)::(nat_lit 660,o_735 P)::(nat_lit 666,o_741 P)::(nat_lit 667,o_742 P)::(nat_lit 673,o_748 P)::(nat_lit 674,o_749 P)::(nat_lit 675,o_750 P)::(nat_lit 676,o_751 P)::(nat_lit 677,o_752 P)::(nat_lit 680,o_759 P)::(nat_lit 692,o_771 P)::(nat_lit 693,o_772 P)::(nat_lit 699,o_778 P)::(nat_lit 700,o_779 P)::(nat_lit 706,o_785 P)::(nat_lit 707,o_786 P)::(nat_lit 708,o_787 P)::(nat_lit 709,o_788 P)::(nat_lit 710,o_789 P)::(nat_lit 713,o_796 P)::(nat_lit 725,o_808 P)::(nat_lit 726,o_809 P)::(nat_lit 732,o_815 P)::(nat_lit 733,o_816 P)::(nat_lit 739,o_822 P)::(nat_lit 740,o_823 P)::(nat_lit 741,o_824 P)::(nat_lit 742,o_825 P)::(nat_lit 743,o_826 P)::(nat_lit 751,o_834 P)::(nat_lit 752,o_835 P)::(nat_lit 758,o_841 P)::(nat_lit 759,o_842 P)::(nat_lit 765,o_851 P)::(nat_lit 766,o_852 P)::(nat_lit 772,o_858 P)::(nat_lit 773,o_859 P)::(nat_lit 777,o_863 P)::(nat_lit 778,o_864 P)::(nat_lit 779,o_865 P)::(nat_lit 781,o_867 P)::(nat_lit 791,o_877 P)::(nat_lit 792,o_878 P)::(nat_lit 798,o_884 P)::(nat_lit 799,o_885 P)::(nat_lit 805,o_891 P)::(nat_lit 806,o_892 P)::(nat_lit 812,o_898 P)::(nat_lit 813,o_899 P)::(nat_lit 819,o_905 P)::(nat_lit 820,o_906 P)::(nat_lit 826,o_912 P)::(nat_lit 827,o_913 P)::(nat_lit 828,o_914 P)::(nat_lit 834,o_923 P)::(nat_lit 835,o_924 P)::(nat_lit 841,o_930 P)::(nat_lit 842,o_931 P)::(nat_lit 848,o_937 P)::(nat_lit 849,o_938 P)::(nat_lit 855,o_944 P)::(nat_lit 856,o_945 P)::(nat_lit 869,o_958 P)::(nat_lit 870,o_959 P)::(nat_lit 876,o_965 P)::(nat_lit 877,o_966 P)::(nat_lit 883,o_972 P)::(nat_lit 884,o_973 P)::(nat_lit 890,o_979 P)::(nat_lit 891,o_980 P)::(nat_lit 895,o_984 P)::(nat_lit 896,o_985 P)::(nat_lit 900,o_989 P)::(nat_lit 901,o_990 P)::(nat_lit 907,o_996 P)::(nat_lit 908,o_997 P)::(nat_lit 914,o_1006 P)::(nat_lit 915,o_1007 P)::(nat_lit 919,o_1011 P)::(nat_lit 920,o_1012 P)::(nat_lit 926,o_1018 P)::(nat_lit 927,o_1019 P)::(nat_lit 933,o_1025 P)::(nat_lit 934,o_1026 P)::(nat_lit 940,o_1032 P)::(nat_lit 941,o_1033 P)::(nat_lit 947,o_1039 P)::(nat_lit 948,o_1040 P)::(nat_lit 1039,o_1134 P)::(nat_lit 1040,o_1135 P)::(nat_lit 1046,o_1141 P)::(nat_lit 1047,o_1142 P)::(nat_lit 1053,o_1148 P)::(nat_lit 1054,o_1149 P)::(nat_lit 1060,o_1155 P)::(nat_lit 1061,o_1156 P)::(nat_lit 1067,o_1162 P)::(nat_lit 1068,o_1163 P)::(nat_lit 1074,o_1172 P)::(nat_lit 1075,o_1173 P)::(nat_lit 1076,o_1174 P)::(nat_lit 1077,o_1175 P)::(nat_lit 1078,o_1176 P)::(nat_lit 1079,o_1177 P)::(nat_lit 1080,o_1178 P)::(nat_lit 1081,o_1179 P)::(nat_lit 1082,o_1180 P)::(nat_lit 1083,o_1181 P)::(nat_lit 1084,o_1182 P)::(nat_lit 1085,o_1183 P)::(nat_lit 1086,o_1184 P)::(nat_lit 1087,o_1185 P)::(nat_lit 1088,o_1186 P)::(nat_lit 1089,o_1187 P)::(nat_lit 1093,o_1191 P)::(nat_lit 1094,o_1192 P)::(nat_lit 1100,o_1198 P)::(nat_lit 1101,o_1199 P)::(nat_lit 1107,o_1205 P)::(nat_lit 1108,o_1206 P)::(nat_lit 1114,o_1217 P)::(nat_lit 1115,o_1218 P)::(nat_lit 1121,o_1224 P)::(nat_lit 1122,o_1225 P)::(nat_lit 1126,o_1229 P)::(nat_lit 1127,o_1230 P)::(nat_lit 1131,o_1234 P)::(nat_lit 1132,o_1235 P)::(nat_lit 1143,o_1246 P)::(nat_lit 1144,o_1247 P)::(nat_lit 1148,o_1251 P)::(nat_lit 1149,o_1252 P)::(nat_lit 1155,o_1258 P)::(nat_lit 1156,o_1259 P)::(nat_lit 1162,o_1265 P)::(nat_lit 1163,o_1266 P)::(nat_lit 1169,o_1272 P)::(nat_lit 1170,o_1273 P)::(nat_lit 1176,o_1279 P)::(nat_lit 1177,o_1280 P)::(nat_lit 1190,o_1296 P)::(nat_lit 1191,o_1297 P)::(nat_lit 1197,o_1303 P)::(nat_lit 1198,o_1304 P)::(nat_lit 1204,o_1310 P)::(nat_lit 1205,o_1311 P)::(nat_lit 1211,o_1317 P)::(nat_lit 1212,o_1318 P)::(nat_lit 1218,o_1324 P)::(nat_lit 1219,o_1325 P)::(nat_lit 1223,o_1329 P)::(nat_lit 1224,o_1330 P)::(nat_lit 1230,o_1336 P)::(nat_lit 1231,o_1337 P)::(nat_lit 1232,o_1338 P)::(nat_lit 1233,o_1339 P)::(nat_lit 1234,o_1340 P)::(nat_lit 1235,o_1341 P)::(nat_lit 1236,o_1342 P)::(nat_lit 1244,o_1353 P)::(nat_lit 1245,o_1354 P)::(nat_lit 1258,o_1367 P)::(nat_lit 1259,o_1368 P)::(nat_lit 1265,o_1374 P)::(nat_lit 1266,o_1375 P)::(nat_lit 1272,o_1381 P)::(nat_lit 1273,o_1382 P)::(nat_lit 1279,o_1388 P)::(nat_lit 1280,o_1389 P)::(nat_lit 1284,o_1393 P)::(nat_lit 1285,o_1394 P)::[]
set_option maxRecDepth 100000 in
def A:List Nat:=nat_lit 2::nat_lit 3::nat_lit 22::nat_lit 29::nat_lit 30::nat_lit 31::nat_lit 32::nat_lit 35::nat_lit 47::nat_lit 48::nat_lit 49::nat_lit 50::nat_lit 51::nat_lit 54::nat_lit 66::nat_lit 67::nat_lit 68::nat_lit 69::nat_lit 70::nat_lit 73::nat_lit 85::nat_lit 86::nat_lit 87::nat_lit 88::nat_lit 89::nat_lit 92::nat_lit 104::nat_lit 105::nat_lit 106::nat_lit 107::nat_lit 108::nat_lit 111::nat_lit 123::nat_lit 124::nat_lit 125::nat_lit 126::nat_lit 127::nat_lit 130::nat_lit 137::nat_lit 138::nat_lit 139::nat_lit 142::nat_lit 149::nat_lit 150::nat_lit 151::nat_lit 154::nat_lit 161::nat_lit 162::nat_lit 163::nat_lit 166::nat_lit 173::nat_lit 174::nat_lit 175::nat_lit 178::nat_lit 185::nat_lit 186::nat_lit 187::nat_lit 195::nat_lit 196::nat_lit 202::nat_lit 203::nat_lit 216::nat_lit 217::nat_lit 223::nat_lit 224::nat_lit 230::nat_lit 231::nat_lit 237::nat_lit 238::nat_lit 244::nat_lit 245::nat_lit 251::nat_lit 252::nat_lit 256::nat_lit 257::nat_lit 271::nat_lit 284::nat_lit 285::nat_lit 289::nat_lit 290::nat_lit 296::nat_lit 297::nat_lit 303::nat_lit 304::nat_lit 305::nat_lit 318::nat_lit 319::nat_lit 325::nat_lit 326::nat_lit 332::nat_lit 333::nat_lit 339::nat_lit 340::nat_lit 346::nat_lit 347::nat_lit 353::nat_lit 354::nat_lit 358::nat_lit 359::nat_lit 365::nat_lit 366::nat_lit 367::nat_lit 368::nat_lit 369::nat_lit 370::nat_lit 371::nat_lit 374::nat_lit 386::nat_lit 387::nat_lit 393::nat_lit 394::nat_lit 400::nat_lit 401::nat_lit 402::nat_lit 403::nat_lit 404::nat_lit 407::nat_lit 419::nat_lit 420::nat_lit 426::nat_lit 427::nat_lit 433::nat_lit 434::nat_lit 435::nat_lit 436::nat_lit 437::nat_lit 440::nat_lit 452::nat_lit 453::nat_lit 459::nat_lit 460::nat_lit 466::nat_lit 467::nat_lit 473::nat_lit 474::nat_lit 475::nat_lit 476::nat_lit 477::nat_lit 480::nat_lit 492::nat_lit 493::nat_lit 499::nat_lit 500::nat_lit 506::nat_lit 507::nat_lit 513::nat_lit 514::nat_lit 520::nat_lit 521::nat_lit 527::nat_lit 528::nat_lit 529::nat_lit 530::nat_lit 531::nat_lit 534::nat_lit 546::nat_lit 547::nat_lit 553::nat_lit 554::nat_lit 560::nat_lit 561::nat_lit 567::nat_lit 568::nat_lit 574::nat_lit 575::nat_lit 576::nat_lit 577::nat_lit 578::nat_lit 581::nat_lit 593::nat_lit 594::nat_lit 600::nat_lit 601::nat_lit 607::nat_lit 608::nat_lit 609::nat_lit 610::nat_lit 611::nat_lit 614::nat_lit 626::nat_lit 627::nat_lit 633::nat_lit 634::nat_lit 640::nat_lit 641::nat_lit 642::nat_lit 643::nat_lit 644::nat_lit 647::nat_lit 659::nat_lit 660::nat_lit 666::nat_lit 667::nat_lit 673::nat_lit 674::nat_lit 675::nat_lit 676::nat_lit 677::nat_lit 680::nat_lit 692::nat_lit 693::nat_lit 699::nat_lit 700::nat_lit 706::nat_lit 707::nat_lit 708::nat_lit 709::nat_lit 710::nat_lit 713::nat_lit 725::nat_lit 726::nat_lit 732::nat_lit 733::nat_lit 739::nat_lit 740::nat_lit 741::nat_lit 742::nat_lit 743::nat_lit 751::nat_lit 752::nat_lit 758::nat_lit 759::nat_lit 765::nat_lit 766::nat_lit 772::nat_lit 773::nat_lit 777::nat_lit 778::nat_lit 779::nat_lit 781::nat_lit 791::nat_lit 792::nat_lit 798::nat_lit 799::nat_lit 805::nat_lit 806::nat_lit 812::nat_lit 813::nat_lit 819::nat_lit 820::nat_lit 826::nat_lit 827::nat_lit 828::nat_lit 834::nat_lit 835::nat_lit 841::nat_lit 842::nat_lit 848::nat_lit 849::nat_lit 855::nat_lit 856::nat_lit 869::nat_lit 870::nat_lit 876::nat_lit 877::nat_lit 883::nat_lit 884::nat_lit 890::nat_lit 891::nat_lit 895::nat_lit 896::nat_lit 900::nat_lit 901::nat_lit 907::nat_lit 908::nat_lit 914::nat_lit 915::nat_lit 919::nat_lit 920::nat_lit 926::nat_lit 927::nat_lit 933::nat_lit 934::nat_lit 940::nat_lit 941::nat_lit 947::nat_lit 948::nat_lit 1039::nat_lit 1040::nat_lit 1046::nat_lit 1047::nat_lit 1053::nat_lit 1054::nat_lit 1060::nat_lit 1061::nat_lit 1067::nat_lit 1068::nat_lit 1074::nat_lit 1075::nat_lit 1076::nat_lit 1077::nat_lit 1078::nat_lit 1079::nat_lit 1080::nat_lit 1081::nat_lit 1082::nat_lit 1083::nat_lit 1084::nat_lit 1085::nat_lit 1086::nat_lit 1087::nat_lit 1088::nat_lit 1089::nat_lit 1093::nat_lit 1094::nat_lit 1100::nat_lit 1101::nat_lit 1107::nat_lit 1108::nat_lit 1114::nat_lit 1115::nat_lit 1121::nat_lit 1122::nat_lit 1126::nat_lit 1127::nat_lit 1131::nat_lit 1132::nat_lit 1143::nat_lit 1144::nat_lit 1148::nat_lit 1149::nat_lit 1155::nat_lit 1156::nat_lit 1162::nat_lit 1163::nat_lit 1169::nat_lit 1170::nat_lit 1176::nat_lit 1177::nat_lit 1190::nat_lit 1191::nat_lit 1197::nat_lit 1198::nat_lit 1204::nat_lit 1205::nat_lit 1211::nat_lit 1212::nat_lit 1218::nat_lit 1219::nat_lit 1223::nat_lit 1224::nat_lit 1230::nat_lit 1231::nat_lit 1232::nat_lit 1233::nat_lit 1234::nat_lit 1235::nat_lit 1236::nat_lit 1244::nat_lit 1245::nat_lit 1258::nat_lit 1259::nat_lit 1265::nat_lit 1266::nat_lit 1272::nat_lit 1273::nat_lit 1279::nat_lit 1280::nat_lit 1284::nat_lit 1285::[]
theorem E:∀P,A=(K P).map (·.1):=fun _=>by kernel_rfl
end Sh8
local macro_rules | `(tactic| k_head) => `(tactic| o_head (kHook Sh8.K Sh8.A Sh8.E))
set_option maxRecDepth 100000 in
set_option maxHeartbeats 0 in
open_top Sh8.hd for PySem.Challenge.rw_leansay_k61_desk_refused
end
set_option Elab.async false
set_option linter.all false
noncomputable section
set_option hygiene false
local macro_rules | `(tactic| walk_at "i1") => `(tactic| (intro vs H Q E h;first | (cases h;subst_vars;rfl) | ((repeat obtain ⟨_,h⟩:=h);subst_vars;rfl)))
local macro_rules | `(tactic| walk_at "i4") => `(tactic| intro vs H Q E h)
local macro_rules | `(tactic| walk_at "i2") => `(tactic| intro f cdv A outer s H vs Q E hr h)
local macro_rules | `(tactic| walk_at "i3") => `(tactic| intro cdv A outer s H vs Q E hr h)
set_option hygiene true
set_option autoImplicit true
set_option relaxedAutoImplicit true
set_option maxRecDepth 100000
set_option hygiene false
local macro_rules | `(tactic| walk_at "rm") => `(tactic| (exact L2.bX.mono (by assumption) (by first | decide | omega)))
local macro_rules | `(tactic| walk_at "kr") => `(tactic| (exact of_decide_eq_true (by kernel_rfl)))
local macro_rules | `(tactic| walk_at "oi") => `(tactic| (first | exact Or.inl rfl | exact Or.inr rfl))
local macro_rules | `(tactic| walk_at "ar") => `(tactic| (intro _ _ _ _ _ _; first | exact L2.ar1 fun _ => rfl | exact L2.ar2 fun _ _ => rfl | exact L2.ar3 fun _ _ _ => rfl | exact L2.ar4 fun _ _ _ _ => rfl | exact L2.ar0 rfl | exact L2.ar5 fun _ _ _ _ _ => rfl))
set_option hygiene true
abbrev b6:=@PySem.wpAny_bind
abbrev b9:=@PySem.F.plainAttrs_list
abbrev e9:=@PySem.Heap.get?_push_of_some
abbrev f6:=@PySem.wpAny_pure
abbrev f7:=@Nat.le_refl
abbrev f9:=@PySem.Heap.lt_size
abbrev g0:=@List.getElem?_eq_getElem
abbrev g6:=@List.length_map
abbrev g7:=@PySem.Heap.get?_push_size
abbrev g8:=@PySem.F.slot_list_append
abbrev g9:=@PySem.F.type_list_append
abbrev h7:=@decide_eq_false
abbrev h8:=@Nat.le_trans
abbrev h9:=@if_neg
abbrev i5:=@Nat.lt_of_lt_of_le
abbrev i6:=@Bool.false_ne_true
abbrev i7:=@Option.some.inj
abbrev i8:=@List.size_toArray
abbrev j6:=@List.getElem?_eq_some_iff
abbrev j7:=@Nat.lt_of_le_of_lt
abbrev j8:=@List.mem_cons
abbrev j9:=@decide_eq_true
abbrev k8:=@List.length_cons
abbrev k9:=@if_pos
abbrev l8:=@List.reverse_cons
abbrev l9:=@of_decide_eq_true
abbrev p6:=@List.length_reverse
abbrev p7:=@List.length_append
abbrev p8:=@List.mem_cons_of_mem
abbrev r8:=@List.mem_append_right
abbrev t7:=@Bool.and_eq_true
abbrev u7:=@PySem.F.slot_list_pop
abbrev u9:=@PySem.F.type_list_pop
abbrev v3:=@Nat.ne_of_lt
abbrev v7:=@List.map_cons
abbrev v8:=@PySem.wpAny_mono
abbrev w8:=@PySem.W.mg_none_of
abbrev x3:=@List.mem_of_getElem?
abbrev x4:=@Bool.and_eq_true_iff
abbrev x5:=@List.dropLast_concat
abbrev x9:=@List.map_append
abbrev y3:=@List.mem_singleton
abbrev y4:=@List.getElem?_map
abbrev y7:=@Nat.lt_irrefl
abbrev y8:=@PyProof.Rows.callWith_type1
abbrev y9:=@congrArg
abbrev z5:=@Nat.zero_le
abbrev z6:=@PySem.strLen_append
abbrev z7:=@PySem.wpAny_Call_Name_kw
abbrev z8:=@List.not_mem_nil
abbrev z9:=@PySem.PassesOwn.never
abbrev A0:=@List.lookup_cons
abbrev A1:=@PySem.wpAny_callSpecial?_slot
abbrev A2:=@PySem.Calls.spliced_cons
abbrev A3:=@PySem.Heap.get?_update_other
abbrev A4:=@PySem.F.plainAttrs_str
abbrev A5:=@beq_self_eq_true
abbrev A6:=@List.append_nil
abbrev A7:=@PySem.Heap.size_push
abbrev A8:=@Array.length_toList
abbrev A9:=@Nat.le_add_right
abbrev B0:=@PySem.wpAny_truthy_bool
abbrev B1:=@PySem.wpAny_field
abbrev B2:=@PySem.wpAny_call_entry
abbrev B3:=@List.append_assoc
abbrev B5:=@List.mem_cons_self
abbrev B6:=@PySem.W.kia_one
abbrev B7:=@PySem.F.slot_zip_next
abbrev B8:=@Ne.symm
abbrev B9:=@beq_eq_false_iff_ne
abbrev C2:=@PySem.Heap.get?_update_self
abbrev C3:=@PySem.Calls.spliced_nil
abbrev C4:=@PySem.wpAny_newObj_type
abbrev C5:=@List.getD_eq_getElem?_getD
abbrev C6:=@PySem.wpAny_seqItems
abbrev C7:=@Array.getElem?_eq_some_iff
abbrev C8:=@Array.getElem?_eq_getElem
abbrev C9:=@List.take_add_one
abbrev D0:=@List.mem_append
abbrev D3:=@List.length_nil
abbrev D4:=@beq_iff_eq
abbrev D5:=@PySem.wpAny_setField_rec
abbrev D7:=@List.take_length
abbrev D8:=@PySem.wpAny_holding
abbrev D9:=@Nat.ne_of_gt
abbrev E1:=@List.filterMap_cons
abbrev E2:=@PySem.Obj.data_mapFields
abbrev E3:=@PySem.wpAny_pyIter_zip
abbrev E4:=@List.all_eq_true
abbrev E5:=@PySem.wpAny_comprehension_free
abbrev E6:=@PySem.wpAny_attempt
abbrev E7:=@Bool.false_and
abbrev E8:=@PySem.W.hideAll_get
abbrev E9:=@or_false
abbrev F0:=@Option.map_eq_some_iff
abbrev F3:=@PySem.sizeLine_eq
abbrev F4:=@Bool.true_and
abbrev F5:=@List.length_take
abbrev F6:=@PySem.wpAny_isInstance
abbrev F7:=@PySem.W.callWith_K
abbrev F8:=@PySem.F.slot_tuple_iterator_next
abbrev G0:=@List.getElem?_eq_none
abbrev G1:=@PySem.W.methodCall_KW
abbrev G2:=@List.getElem?_append_left
abbrev G3:=@PySem.wpAny_passesOwn
abbrev G4:=@List.forIn_cons
abbrev G5:=@PySem.Calls.evalArgs_plain
abbrev G6:=@PySem.codeAny_call_builtin
abbrev G7:=@PySem.F.args_zip_next_1
abbrev G8:=@Option.isSome_iff_exists
abbrev G9:=@PySem.mem_of_lookup
abbrev J0:=@Nat.add_le_add_left
abbrev J1:=@PySem.wpAny_setField
abbrev J2:=@PySem.F.entry_zip_next
abbrev J3:=@Nat.le_succ
abbrev J4:=@PySem.wpAny_typeNameOfWhole_keyiter
abbrev J5:=@PySem.codeAny_mono
abbrev J6:=@PySem.Calls.callWith_builtin
abbrev J7:=@PySem.call_meets
abbrev J8:=@Int.emod_lt_of_pos
abbrev J9:=@PySem.wpAny_execs_nil
abbrev K0:=@List.find?_cons
abbrev K1:=@PySem.F.slot_dict_keyiterator_next
abbrev K2:=@List.cons.inj
abbrev K3:=@List.length_replicate
abbrev K5:=@Array.getElem?_toList
abbrev K6:=@PySem.Obj.isFreed_of_fields
abbrev K7:=@PySem.F.slot_dict_get
abbrev K8:=@PySem.F.slot_str_join
abbrev K9:=@PySem.F.type_str_join
abbrev Lc:=@PySem.SeqAt.EqAt.same
abbrev Ld:=@Int.toNat_natCast
abbrev Le:=@Bool.eq_false_iff
abbrev Lg:=@PySem.wpAny_loadPart_at
abbrev Lh:=@PySem.PassesOwn.leaving
abbrev Li:=@PySem.wpAny_call
abbrev Lj:=@List.getElem?_append_right
abbrev Lk:=@PySem.F.excBase_ValueError
abbrev Ll:=@List.reverse_reverse
abbrev Lm:=@PySem.wpAny_updateSeq_pair
abbrev Lp:=@PySem.wpAny_nameGoes_keeps
abbrev Lq:=@Nat.lt_succ_self
abbrev Lr:=@List.length_drop
abbrev Ls:=@List.getElem_mem
abbrev Lu:=@PySem.F.slot_list_reverse
abbrev Lv:=@PySem.F.type_list_reverse
abbrev Lw:=@PySem.W.callWith_K0
abbrev Lx:=@PySem.Heap.SameBut.update
abbrev Ly:=@Int.toNat_of_nonneg
abbrev Lz:=@List.getElem?_take_of_lt
abbrev LA:=@List.any_cons
abbrev LC:=@PySem.W.mg_of
abbrev LF:=@PySem.F.slot_list_extend
abbrev LG:=@PySem.F.type_list_extend
abbrev LH:=@Bool.eq_iff_iff
abbrev LI:=@Int.emod_nonneg
abbrev LJ:=@PySem.W.of_hideAll
abbrev LK:=@PySem.wpAny_pyIter_tuple
abbrev LL:=@List.mem_filterMap
abbrev LM:=@PySem.typeIs_str
abbrev LN:=@PySem.F.plainAttrs_dict
abbrev LO:=@List.getElem?_set_self
abbrev LP:=@PySem.wpAny_pyIter_list
abbrev LQ:=@PySem.wpAny_loadPart
abbrev LR:=@Nat.lt_succ_of_lt
abbrev LS:=@PySem.codeAny_compStart_list
abbrev LU:=@PySem.W.looks_findIn
abbrev LV:=@Nat.lt_trans
abbrev LW:=@Array.getElem?_eq_none
abbrev LY:=@List.map_map
abbrev LZ:=@PySem.F.entry_str_split
abbrev L4:=@PySem.isSubtype_stop
abbrev L5:=@PySem.F.slot_str_split
abbrev L6:=@PySem.F.type_str_split
abbrev L7:=@PySem.plainObj_wpAny_Assign_Attribute
abbrev L8:=@PySem.F.slot_str_split
abbrev Ma:=@List.drop_length
abbrev Mb:=@PySem.wpAny_standAt
abbrev Mc:=@PySem.wpAny_onRaise
abbrev Md:=@PySem.W.hideAll_none
abbrev Me:=@PySem.Heap.get?_none_of_le
abbrev Mf:=@List.getElem?_set_ne
abbrev Mg:=@PySem.wpAny_newFunctionEnv
abbrev Mh:=@PySem.W.looks_mroIn
abbrev Mi:=@PySem.wpAny_of_eq
abbrev Mj:=@PySem.wpAny_pyIter_revIter
abbrev Ml:=@List.eq_nil_of_length_eq_zero
abbrev Mm:=@PySem.W.mg_of
abbrev Mn:=@List.mem_filter
abbrev Mo:=@List.nodup_cons
abbrev Mp:=@List.of_mem_zip
abbrev Mq:=@Option.map_some
abbrev Mr:=@PySem.wpAny_specialOf
abbrev Mt:=@PySem.W.plainGet_of
abbrev Mu:=@Nat.add_left_cancel
abbrev Mv:=@PySem.length_partsBetween
abbrev Mw:=@ne_true_of_eq_false
abbrev Mx:=@Nat.le_of_lt
abbrev My:=@List.map_nil
abbrev Mz:=@PySem.F.slot_str_startswith
abbrev MB:=@PySem.F.type_str_startswith
abbrev MC:=@Nat.zero_add
abbrev MD:=@List.mem_range
abbrev ME:=@if_false
abbrev MF:=@PySem.Code.quiet_builtin
abbrev MG:=@List.forIn_nil
abbrev MH:=@Bool.false_eq_true
abbrev MI:=@PySem.tupleKind_room_in1
abbrev MJ:=@PySem.F.args_str_split_2
abbrev ML:=@List.countP_append
abbrev MO:=@PySem.F.slot_dict_getitem
abbrev MP:=@List.drop_eq_getElem_cons
abbrev MQ:=@PySem.F.plain_extend_loop
abbrev MR:=@PySem.Within.cons
abbrev MS:=@if_true
abbrev MU:=@PySem.wpAny_letGo
abbrev MV:=@List.flatMap_cons
abbrev MW:=@PySem.Obj.cls_mapFields
abbrev MX:=@PySem.wpAny_Call_method
abbrev MY:=@PySem.Paired.length
abbrev MZ:=@PySem.F.args_tuple_add_2
abbrev M0:=@Bool.false_or
abbrev M3:=@PySem.plainId_quiet
abbrev M4:=@List.length_filterMap_le
abbrev M5:=@PySem.wpAny_execs_cons
abbrev M6:=@PySem.wpAny_lookBehind
abbrev M7:=@PySem.pastItsLine_dict
abbrev M8:=@PySem.W.makes_of
abbrev M9:=@List.zipIdx_cons
abbrev Na:=@List.range'_succ
abbrev Nb:=@List.filter_cons
abbrev Nc:=@PySem.wpAny_typeOf
abbrev Nd:=@PySem.wpAny_rule
abbrev Nf:=@List.zipIdx_nil
abbrev Ng:=@List.length_zip
abbrev Nh:=@List.nil_append
abbrev Ni:=@List.drop_left'
abbrev Nj:=@Sum.inr.inj
abbrev Nk:=@List.drop_zero
abbrev Nl:=@List.all_cons
abbrev Nm:=@Bool.or_false
namespace L2
open PySem PySem.Spec PyProof.Rows
variable{us its:List Value}{a b it C dx:Addr}{o:HO}{u cd:Value}{h base:Heap}{ob:Obj}{g':Array GenState}{t' n tk:Nat}{d':Drawn}{ch fp:List Addr}{x qual:Str}{e c tg Nt:Expr}{SD Nn:List (Addr×Obj)}{N ns ps:List Str}{M:Model}{A:Around}{s':Shared}{X:Cx}{ta:TA}{tb:TS}{σ:St}{pos pos':Pos}{op VP:CmpOp}{D:Ends}{f:Value->Value->Sem Value}{st sts body:List Stmt}{tc:TT}{es:List Expr}{te:TE}{vs:Array Value}{R:Result->Shared->Prop}{lo:Int}{p:Addr×Obj}{pl:Sem Bool}{wi:TI}{r r':R2}{mA mg:Str->Option Value}{expr:Bool}{kw:List (Str×Value)}{prog:Program}{env:Env}{fd:FuncData}{sc scope:Scope}{kindOf:Str->Option NameKind}{params:Arguments}{an od:Option Addr}{N7:Array (Option Value)}{sp:Sp}
noncomputable abbrev Key:=Sum Int Str
noncomputable def qN:Key->Value->Bool
 | .inl k,v=>Value.isInt k v
 | .inr x,v=>Value.isStrOf x v
noncomputable def keyH(w:World):Key->Int
 | .inl k=>hashInt k
 | .inr x=>hashStr w x
theorem bQ:∀{k:Key}{v:Value},qN k v=true->(∃i t,k=Sum.inl i/\v=Value.int i t)\/(∃x t,k=Sum.inr x/\v=Value.str x t)
 | .inl i,v,h=>by
  obtain⟨t,e⟩:=Value.isInt_shape (k:=i) (v:=v) h;exact .inl ⟨i,t,rfl,e⟩
 | .inr x,v,h=>by
  obtain⟨t,e⟩:=Value.isStrOf_shape (x:=x) (v:=v) h;exact .inr ⟨x,t,rfl,e⟩
theorem Gm(i:Int)(t:Tok):qN (.inl i) (.int i t)=true:=by simp[qN,Value.isInt]
theorem Gk(x:Str)(t:Tok):qN (.inr x) (.str x t)=true:=by simp[qN,Value.isStrOf]
theorem Ul(a b:Int):decide ((Sum.inl a:Key)=Sum.inl b)=(a==b):=by
 by_cases e:a=b
 .subst e;simp
 .have h:¬(Sum.inl a:Key)=Sum.inl b:=λq=>e (Sum.inl.inj q);rw[h7 h];exact(B9.mpr e).symm
theorem Ui(a b:Str):decide ((Sum.inr a:Key)=Sum.inr b)=decide (a=b):=by
 by_cases e:a=b
 .subst e;simp
 .have h:¬(Sum.inr a:Key)=Sum.inr b:=λq=>e (Nj q);rw[h7 h,h7 e]
theorem Uk(a:Int)(b:Str):decide ((Sum.inl a:Key)=Sum.inr b)=false:=h7 (λq=>nomatch q)
theorem Uj(a:Str)(b:Int):decide ((Sum.inr a:Key)=Sum.inl b)=false:=h7 (λq=>nomatch q)
noncomputable def bN(prog:Program)(w:World):PySem.KeyKind prog w Key where
 is:=qN
 hash:=keyH w
 inj:=λv a b ha hb=>by
  rcases bQ ha with⟨i,t,rfl,rfl⟩ | ⟨x,t,rfl,rfl⟩
  .rcases bQ hb with⟨j,u,rfl,e⟩ | ⟨y,u,rfl,e⟩
   .injection e with e1 _;rw[e1]
   .exact nomatch e
  .rcases bQ hb with⟨j,u,rfl,e⟩ | ⟨y,u,rfl,e⟩
   .exact nomatch e
   .injection e with e1 _;rw[e1]
 byValue:=λk v h=>by
  rcases bQ h with⟨i,t,rfl,rfl⟩ | ⟨x,t,rfl,rfl⟩<;>rfl
 pyHash:=λhv h=>by
  rcases bQ hv with⟨i,t,rfl,rfl⟩ | ⟨x,t,rfl,rfl⟩
  .exact wpAny_pyHash_int h
  .exact wpAny_pyHash_str h
 eqBool:=λhu hv h=>by
  rcases bQ hu with⟨i,t,rfl,rfl⟩ | ⟨x,t,rfl,rfl⟩
  .rcases bQ hv with⟨j,u,rfl,rfl⟩ | ⟨y,u,rfl,rfl⟩
   .rw[Ul]at h;exact wpAny_eqBool_int h
   .rw[Uk]at h;exact SeqAt.EqAt.int_str i t y u _ _ _ _ h
  .rcases bQ hv with⟨j,u,rfl,rfl⟩ | ⟨y,u,rfl,rfl⟩
   .rw[Uj]at h;exact SeqAt.EqAt.str_int x t j u _ _ _ _ h
   .rw[Ui]at h;exact wpAny_eqBool_str h
 «strs»:=λk x t v h=>by
  rcases bQ h with⟨i,u,rfl,e⟩ | ⟨y,u,rfl,e⟩
  .exact nomatch e
  .injection e with e1 _
   subst e1;cases v<;>rfl
theorem zP(prog:Program)(w:World)(i:Int)(t:Tok):(bN prog w).is (.inl i) (.int i t)=true:=Gm i t
theorem zO(prog:Program)(w:World)(x:Str)(t:Tok):(bN prog w).is (.inr x) (.str x t)=true:=Gk x t
inductive V where
 | non | bl (b:Bool) | int (i:Int) | str (x:Str) | byt (b:Array UInt8) | flt (b:UInt64) | ref (a:Addr) | ty (n:String)
 deriving DecidableEq
def RelV:V->Value->Prop
 | .non,u=>u=Value.none
 | .bl b,u=>u=Value.bool b
 | .int i,u=>∃t,u=Value.int i t
 | .str x,u=>∃t,u=Value.str x t
 | .byt b,u=>∃t,u=Value.bytes b t
 | .flt b,u=>∃t,u=Value.float b t
 | .ref a,u=>u=Value.ref a
 | .ty n,u=>u=Value.type n
abbrev Vals:List V->List Value->Prop:=Paired RelV
theorem Vals.length{xs:List V}(r:Vals xs us):xs.length=us.length:=MY r
theorem Vals.get:∀{xs:List V}{us:List Value}{i:Nat}{x:V},Vals xs us->xs[i]?=some x->∃u,us[i]?=some u/\RelV x u
 | _,_,_,_,.nil,e=>by simp at e
 | _,_,0,_,.cons r _,e=>by simp at e;subst e;exact⟨_,rfl,r⟩
 | _,_,i+1,x,.cons _ t,e=>by
  obtain⟨u,h1,h2⟩:=Vals.get (i:=i) (x:=x) t (by simpa using e);exact⟨u,by simpa using h1,h2⟩
theorem Vals.append:∀{xs ys:List V}{us ws:List Value},Vals xs us->Vals ys ws->Vals (xs++ys) (us++ws)
 | _,_,_,_,.nil,s=>s
 | _,_,_,_,.cons r t,s=>.cons r (Vals.append t s)
theorem Vals.take:∀{xs:List V}{us:List Value}(n:Nat),Vals xs us->Vals (xs.take n) (us.take n)
 | _,_,0,_=>.nil
 | _,_,_+1,.nil=>.nil
 | _,_,n+1,.cons r t=>.cons r (Vals.take n t)
theorem Vals.drop:∀{xs:List V}{us:List Value}(n:Nat),Vals xs us->Vals (xs.drop n) (us.drop n)
 | _,_,0,r=>r
 | _,_,_+1,.nil=>.nil
 | _,_,n+1,.cons _ t=>Vals.drop n t
def jM:Option V->Option Value->Prop
 | some v,some u=>RelV v u
 | none,none=>True
 | _,_=>False
def KV{κ:Type}:List (κ×V)->List (κ×Value)->Prop:=Paired λ(p:κ×V) (q:κ×Value)=>p.1=q.1/\RelV p.2 q.2
noncomputable def kV:Key->V
 | .inl i=>.int i
 | .inr x=>.str x
inductive HO where
 | lst (xs:List V)
 | tup (xs:List V)
 | dK (Np:List (Key×V)) | dT (Np:List (List Key×V))
 | set (S:Int->Bool) (n:Nat)
 | ins (C dx:Addr) (fs:List (Str×V))
 | own (x:Addr)
 | xd (fs:List (Str×V))
 | met (f x:Addr)
 | rng (lo hi:Int)
 | frz (o:Obj) (u:HO)
 | tbl (ps:Array Value)
 | ext (φ:Heap->Prop)
noncomputable abbrev Hp:=Addr->Option HO
noncomputable def upd(H:Hp)(a:Addr)(o:HO):Hp:=λb=>if b=a then some o else H b
theorem ae{H:Hp}:upd H a o a=some o:=by unfold upd;rw[k9 rfl]
theorem aj{H:Hp}(h:b≠a):upd H a o b=H b:=by unfold upd;rw[h9 h]
theorem lH{H:Hp}{u:HO}:upd (upd H a o) a u=upd H a u:=by
 funext b;unfold upd;split<;>rfl
theorem vY{H:Hp}{u:HO}(h:H a=some o)(h':H b=some u)(d:o≠u):a≠b:=by
 intro e;subst e;rw[h]at h';exact d (i7 h')
theorem ak{H:Hp}(h:H a=some o)(h':H b=none):a≠b:=by
 intro e;subst e;rw[h]at h';cases h'
section
variable(P:Program)(w:World)
def bj(H:Hp)(h:Heap)(a:Addr):HO->Prop
 | .lst xs=>xs.length<=sizeLine/\∃(its:List Value)(n:Nat),Vals xs its/\h.get? a=some {cls:=.type "list",data:=.seq its.toArray n}
 | .tup xs=>xs.length<=sizeLine/\∃its:List Value,Vals xs its/\IsTup h a its.toArray
 | .dK Np=>Np.length<=sizeLine/\(a==sysModules)=false/\∃vs,KV Np vs/\h.DictOf (bN P w) a vs
 | .dT Np=>Np.length<=sizeLine/\(a == sysModules)=false/\∃ xs:List (List Key×Addr×Value),
   Paired (λ(p:List Key×V) (q:List Key×Addr×Value)=>p.1=q.1/\H q.2.1=some (.tup (p.1.map kV))/\RelV p.2 q.2.2) Np xs/\
   ∃o es ep,h.get? a=some o/\o.ExactDict/\o.data=.dict es ep/\es.toList=xs.map (entryOfKey (tupleKind (bN P w)))/\(xs.map (·.1)).Nodup
 | .set S n=>h.SetOf (intKind P w) a S n
 | .ins C dx fs=>H dx=some (.own a)/\fs.length<=1000/\dx≠a/\h.get? a=some (PySem.W.instObj C dx)/\
   ∃mA,h.Ns1 dx mA/\(∀f,jM (fs.lookup f) (mA f))/\PySem.Within mA (fs.map (·.1))
 | .own _=>∃o,h.get? a=some o
 | .xd fs=>∃mA,h.Ns1 a mA/\∀f,jM (fs.lookup f) (mA f)
 | .rng lo hi=>∃t u v,h.get? a=some {cls:=.type "range",data:=.fields #[.int lo t,.int hi u,.int 1 v] }
 | .frz o u=>h.get? a=some o/\bj H h a u
 | .tbl ps=>h.get? a=some {cls:=.none,data:=.fields ps}
 | .met f x=>h.get? a=some (PySem.W.methodObj (.ref f) (.ref x))
 | .ext φ=>φ h/\(∃o,h.get? a=some o)/\∀h1 h2:Heap,φ h1->(∀o,h1.get? a=some o->h2.get? a=some o)->φ h2
def NP(H:Hp)(h:Heap):Prop:=∀a o,H a=some o->bj P w H h a o
end
section
variable{P:Program}{w:World}{H H':Hp}{h h':Heap}{a:Addr}{o:HO}
theorem bj.lt(x:bj P w H h a o):a<h.objs.size:=by
 cases o with
 | lst xs=>obtain⟨_,_,_,_,e⟩:=x;exact f9 e
 | tup xs=>obtain⟨_,_,_,p⟩:=x;exact p.lt
 | dK Np=>obtain⟨_,_,_,_,o,_,_,e,_⟩:=x;exact f9 e
 | dT Np=>obtain⟨_,_,_,_,o,_,_,e,_⟩:=x;exact f9 e
 | set S n=>obtain⟨o,_,_,_,e,_⟩:=x;exact f9 e
 | ins C dx fs=>obtain⟨_,_,_,e,_⟩:=x;exact f9 e
 | own y=>obtain⟨_,e⟩:=x;exact f9 e
 | xd fs=>obtain⟨_,⟨_,_,_,e,_⟩,_⟩:=x;exact f9 e
 | rng lo hi=>obtain⟨_,_,_,e⟩:=x;exact f9 e
 | frz ob u=>obtain⟨e,_⟩:=x;exact f9 e
 | tbl ps=>exact f9 (show h.get? a=some _ from x)
 | met f y=>exact f9 (show h.get? a=some _ from x)
 | ext φ=>obtain⟨_,⟨_,e⟩,_⟩:=x;exact f9 e
theorem Paired.mapP{α β:Type}{F G:α->β->Prop}:∀{l₁:List α}{l₂:List β},Paired F l₁ l₂->(∀a b,F a b->G a b)->Paired G l₁ l₂
 | _,_,.nil,_=>.nil
 | _,_,.cons r t,f=>.cons (f _ _ r) (Paired.mapP t f)
theorem bj.stay(x:bj P w H h a o)(k:∀b u,(b=a\/H b=some (.own a))->h.get? b=some u->h'.get? b=some u)
  (ho:∀b,H b=some (.own a)->H' b=some (.own a))(ht:∀b xs,H b=some (.tup xs)->H' b=some (.tup xs)):bj P w H' h' a o:=by
 induction o with
 | lst xs=>obtain⟨z,its,n,r,e⟩:=x;exact⟨z,its,n,r,k _ _ (.inl rfl) e⟩
 | tup xs=>obtain⟨z,its,r,ob,e,c⟩:=x;exact⟨z,its,r,ob,k _ _ (.inl rfl) e,c⟩
 | dK Np=>obtain⟨z,y,vs,r,ob,es,ep,e,c⟩:=x;exact⟨z,y,vs,r,ob,es,ep,k _ _ (.inl rfl) e,c⟩
 | dT Np =>
  obtain⟨z,y,xs,r,ob,es,ep,e,c⟩:=x;exact⟨z,y,xs,Paired.mapP r λp q z=>⟨z.1,ht _ _ z.2.1,z.2.2⟩,ob,es,ep,k _ _ (.inl rfl) e,c⟩
 | set S n=>obtain⟨ob,es,ep,t,e,c⟩:=x;exact⟨ob,es,ep,t,k _ _ (.inl rfl) e,c⟩
 | ins C dx fs =>
  obtain⟨d,z,ne,e,mA,⟨od,es,ep,e2,c⟩,r⟩:=x;exact⟨ho _ d,z,ne,k _ _ (.inl rfl) e,mA,⟨od,es,ep,k _ _ (.inr d) e2,c⟩,r⟩
 | own y=>obtain⟨ob,e⟩:=x;exact⟨ob,k _ _ (.inl rfl) e⟩
 | xd fs=>obtain⟨mA,⟨od,es,ep,e,c⟩,r⟩:=x;exact⟨mA,⟨od,es,ep,k _ _ (.inl rfl) e,c⟩,r⟩
 | rng lo hi=>obtain⟨t,u,v,e⟩:=x;exact⟨t,u,v,k _ _ (.inl rfl) e⟩
 | frz ob u ih=>obtain⟨e,q⟩:=x;exact⟨k _ _ (.inl rfl) e,ih q⟩
 | tbl ps =>
  have e:h.get? a=some {cls:=.none,data:=.fields ps}:=x;show h'.get? a=some {cls:=.none,data:=.fields ps};exact k a _ (.inl rfl) e
 | met f y =>
  have e:h.get? a=some (PySem.W.methodObj (.ref f) (.ref y)):=x;show h'.get? a=some (PySem.W.methodObj (.ref f) (.ref y));exact k a _ (.inl rfl) e
 | ext φ=>obtain⟨p,⟨o,e⟩,st⟩:=x;exact⟨st _ _ p λo q=>k _ _ (.inl rfl) q,⟨o,k _ _ (.inl rfl) e⟩,st⟩
theorem NP.lt(x:NP P w H h)(e:H a=some o):a<h.objs.size:=(x a o e).lt
theorem NP.fresh(x:NP P w H h)(e:h.objs.size<=a):H a=none:=by
 cases q:H a with
 | none=>rfl
 | some u=>exact absurd (i5 (x.lt q) e) (y7 _)
theorem NP.kept(x:NP P w H h)(k:∀b u,h.get? b=some u->h'.get? b=some u):NP P w H h':=λa o e =>
 (x a o e).stay (λb u _ q=>k b u q) (λ_ q=>q) λ_ _ q=>q
theorem NP.laid(x:NP P w H h)(k:∀b u,h.get? b=some u->h'.get? b=some u)(hp:h.objs.size<=a)(new:bj P w (upd H a o) h' a o):NP P w (upd H a o) h':=λb u e=>by
 have hn:=x.fresh hp
 by_cases hb:b=a
 .subst hb;rw[ae]at e;cases e;exact new
 .rw[aj hb]at e;exact(x b u e).stay (λc v _ q=>k c v q) (λc q=>by rw[aj (ak q hn)];exact q) λc xs q=>by rw[aj (ak q hn)];exact q
end
def Rd(H:Hp)(a:Addr)(u:HO):Prop:=H a=some u\/∃o,H a=some (.frz o u)
theorem Rd.ok{P:Program}{w:World}{H:Hp}{u:HO}(r:Rd H a u)(x:NP P w H h):bj P w H h a u:=by
 rcases r with r | ⟨o,r⟩
 .exact x a u r
 .obtain⟨_,q⟩:=x a _ r;exact q
def Za:Option HO->Prop
 | some (.lst _)=>True
 | some (.dK _)=>True
 | some (.dT _)=>True
 | some (.set _ _)=>True
 | some (.ins _ _ _)=>True
 | some (.ext _)=>True
 | _=>False
section
variable{P:Program}{w:World}{H:Hp}{h h':Heap}{x e:Addr}{o':HO}
theorem NP.write(ok:NP P w H h)(mu:Za (H x))(he:e=x\/H e=some (.own x))(k:∀b u,b≠e->h.get? b=some u->h'.get? b=some u)(VZ:∃u,h'.get? e=some u)
  (new:bj P w (upd H x o') h' x o'):NP P w (upd H x o') h':=λb u q=>by
 have Xb:∀c y,H c=some (.own y)->c≠x:=λc y r z=>by subst z;rw[r]at mu;exact mu
 have ntup:∀c xs,H c=some (.tup xs)->c≠x:=λc xs r z=>by subst z;rw[r]at mu;exact mu
 by_cases hb:b=x
 .subst hb;rw[ae]at q;cases q;exact new
 .rw[aj hb]at q
  by_cases UL:b=e
  .have q':H b=some (.own x):=by
    rcases he with z | z
    .exact absurd (UL.trans z) hb
    .rw[UL];exact z
   rw[q]at q';cases q'
   obtain⟨v,hv⟩:=VZ;exact⟨v,by rw[UL];exact hv⟩
  .refine(ok b u q).stay (λc v hc r=>k c v ?_ r) (λc r=>by rw[aj (Xb c b r)];exact r) λc xs r=>by rw[aj (ntup c xs r)];exact r
   rcases hc with rfl | hc
   .exact UL
   .rintro rfl
    rcases he with z | z
    .exact Xb c b hc z
    .rw[hc]at z;cases z;exact hb rfl
end
structure Un(fs ex:List Addr)(H H':Hp)(h h':Heap):Prop where
 keep:∀b o,h.get? b=some o->H b=none->b ∉ fs->b ∉ ex->h'.get? b=some o
 slot:∀b o,h.get? b=some o->H b=none->b∈fs->b ∉ ex->∃sl,h'.get? b=some {o with slots:=sl}
 free:∀b o,h.get? b=some o->H b=none->b ∉ ex->H' b=none
 there:∀b o,h.get? b=some o->b ∉ ex->∃o',h'.get? b=some o'
 tups:∀b xs,H b=some (.tup xs)->H' b=some (.tup xs)
 frzs:∀b o u,H b=some (.frz o u)->H' b=some (.frz o u)
 tbls:∀b ps,H b=some (.tbl ps)->∃more,H' b=some (.tbl (ps++more))
section
variable{fs YA ex ex':List Addr}{H H1 H2:Hp}{h h1 h2 h':Heap}{a x e:Addr}{o:HO}
theorem Un.any(u:Un fs ex H H1 h h1)(q:h.get? b=some ob)(n:H b=none)(hx:b ∉ ex):∃sl,h1.get? b=some {ob with slots:=sl}:=by
 by_cases hb:b∈fs
 .exact u.slot b ob q n hb hx
 .exact⟨ob.slots,u.keep b ob q n hb hx⟩
theorem Un.kept(k:∀b u,h.get? b=some u->h'.get? b=some u):Un fs ex H H h h':=
 ⟨λb ob q _ _ _=>k b ob q,λb ob q _ _ _=>⟨ob.slots,k b ob q⟩,λ_ _ _ n _=>n,λb ob q _=>⟨ob,k b ob q⟩,λ_ _ q=>q,λ_ _ _ q=>q,λ_ ps q=>⟨#[],by rw[q];simp⟩⟩
theorem Un.refl:Un fs ex H H h h:=Un.kept λ_ _ q=>q
theorem Un.laid(k:∀b u,h.get? b=some u->h'.get? b=some u)(hp:h.objs.size<=a)(hn:H a=none):Un fs ex H (upd H a o) h h' where
 keep:=λb u q _ _ _=>k b u q
 slot:=λb u q _ _ _=>⟨u.slots,k b u q⟩
 free:=λb u q n _=>by rw[aj (v3 (i5 (f9 q) hp))];exact n
 there:=λb u q _=>⟨u,k b u q⟩
 tups:=λb xs q=>by rw[aj (ak q hn)];exact q
 frzs:=λb u xs q=>by rw[aj (ak q hn)];exact q
 tbls:=λb ps q=>⟨#[],by rw[aj (ak q hn),q];simp⟩
theorem Un.write(mu:Za (H x))(he:e=x\/H e=some (.own x))(k:∀b u,b≠e->h.get? b=some u->h'.get? b=some u)(VZ:∃u,h'.get? e=some u):Un fs ex H (upd H x o) h h':=by
 have hx:∀b,H b=none->b≠x:=λb n z=>by subst z;rw[n]at mu;exact mu
 have hb:∀b,H b=none->b≠e:=λb n z=>by
  subst z;rcases he with r | r
  .exact hx b n r
  .rw[n]at r;cases r
 have hm:∀b u,H b=some u->¬Za (some u)->b≠x:=λb u q nm z=>by subst z;rw[q]at mu;exact nm mu
 refine⟨λb u q n _ _=>k b u (hb b n) q,λb u q n _ _=>⟨u.slots,k b u (hb b n) q⟩,λb u q n _=>by rw[aj (hx b n)];exact n,λb u q _=>?_,
  λb xs q=>by rw[aj (hm b _ q λz=>z)];exact q,λb u xs q=>by rw[aj (hm b _ q λz=>z)];exact q,λb ps q=>⟨#[],by rw[aj (hm b _ q λz=>z),q];simp⟩⟩
 by_cases UL:b=e
 .subst UL;exact VZ
 .exact⟨u,k b u UL q⟩
end
noncomputable def Pm(h:Heap)(H:Hp):List Addr:=(List.range h.objs.size).filter λa=>(H a).isSome
noncomputable def xQ(h:Heap)(H:Hp):Heap:=PySem.W.hideAll h (Pm h H)
theorem Gs(h:Heap)(H:Hp):(xQ h H).objs.size=h.objs.size:=PySem.W.hideAll_size _ _
theorem JW{H:Hp}{o:Obj}(e:h.get? b=some o)(n:H b=none):(xQ h H).get? b=some o:=
 E8 _ e λhm=>by
  have q:(H b).isSome=true:=(Mn.mp hm).2;rw[n]at q;simp at q
theorem Q6{H:Hp}{o:Obj}(e:(xQ h H).get? b=some o):h.get? b=some o/\H b=none:=by
 have e':h.get? b=some o:=LJ (Pm h H) e;refine⟨e',?_⟩;cases q:H b with
 | none=>rfl
 | some x =>
  have hm:b∈Pm h H:=Mn.mpr ⟨MD.mpr (f9 e'),by simp[q]⟩;have z:(xQ h H).get? b=none:=Md (Pm h H) hm;rw[z]at e;cases e
structure Mod(K:W.Frag)(mg:Str->Option Value)(base:Heap):Prop where
 kin:K.In base
 glob:base.Ns mainGlobals mg
 blt:∃mb,base.Ns builtinsNs mb/\∀x:Str,x≠"__name__"->mb x=bootBuiltins x
 nolimit:base.NoLimit
structure Cx where
 prog:Program
 w:World
 K:W.Frag
 mg:Str->Option Value
 base:Heap
 A:Around
 N:List Str
 s₀:Shared
 H₀:Hp
 env:Env
 outer:List Env
 stack:List Env
 ex:List Addr
 fn:Str->Bool
 calm:Bool
 pn:List (Addr×Obj)
 xe:Value->Shared->Prop
noncomputable def NG(l:List Env):List Addr:=l.filterMap (·.frame)
noncomputable abbrev Cx.fs (X:Cx):List Addr:=NG X.outer
def Y6(sc:Scope)(x:Str):Prop:=sc.names.lookup x=some .local\/sc.names.lookup x=some .cell\/sc.names.lookup x=some .free
def Loc(sc:Scope)(x:Str):Prop:=sc.names.lookup x=some .local\/sc.names.lookup x=some .cell
def Look(env:Env)(h:Heap)(m:Str->Option Value)(x:Str)(u:Value):Prop:=
 (env.kindOf x=some .local/\m x=some u)\/((env.kindOf x=some .cell\/env.kindOf x=some .free)/\∃c,env.cells.lookup x=some c/\h.IsCell c (some u))
structure Cx.Ok(X:Cx):Prop where
 mod:Mod X.K X.mg X.base
 kind:X.env.scope.kind=.function
 glob:X.env.globals=mainGlobals
 blt:X.env.builtins=builtinsNs
 above:X.s₀.heap.objs.size<=X.env.locals
 inj:∀x y c,X.env.cells.lookup x=some c->X.env.cells.lookup y=some c->x=y
 has:∀x,(X.env.kindOf x=some .cell\/X.env.kindOf x=some .free)->∃c,X.env.cells.lookup x=some c
 cab:∀x c,X.fn x=true->X.env.cells.lookup x=some c->X.s₀.heap.objs.size<=c
 hd:X.calm=true->X.A.handled=none
 frames:X.A.frames=some X.stack
 stk:X.stack=X.outer\/(X.stack=X.env::X.outer/\X.env.frame=some X.env.locals)
 exf:∀b∈X.ex,b≠X.env.locals/\∀x c,X.env.cells.lookup x=some c->c≠b
 bs:∀b o,X.base.get? b=some o->X.s₀.heap.get? b=some o/\X.H₀ b=none
 bsz:X.base.objs.size<=X.s₀.heap.objs.size
 noex:∀b o,X.base.get? b=some o->b ∉ X.ex
 exfs:∀b∈X.ex,b ∉ X.fs
 funs:X.s₀.heap.FunFrames X.base X.outer
 frf:∀b∈X.fs,X.H₀ b=none
structure Inv(X:Cx)(Nn:List (Addr×Obj))(σ:List (Option V))(H:Hp)(s:Shared):Prop where
 ok:X.Ok
 os:s.os=X.s₀.os
 bare:AllBare s.gens
 base:Un X.fs X.ex X.H₀ H X.s₀.heap s.heap
 loc:∃m,s.heap.Ns X.env.locals m/\∀(i:Nat)(x:Str)(v:V),X.N[i]?=some x->σ[i]?=some (some v)->Y6 X.env.scope x->∃u,RelV v u/\Look X.env s.heap m x u
 cell:∀x c,X.env.cells.lookup x=some c->∃v,s.heap.IsCell c v
 free:H X.env.locals=none
 freeC:∀x c,X.env.cells.lookup x=some c->H c=none
 pin:∀p∈X.pn++Nn,s.heap.get? p.1=some p.2/\H p.1=none/\p.1≠X.env.locals/\p.1 ∉ X.fs/\∀v,p.2.data≠.cell v
 hok:NP X.prog X.w H s.heap
 len:σ.length=X.N.length
section
variable{X:Cx}{Nn:List (Addr×Obj)}{σ:List (Option V)}{H H':Hp}{s:Shared}{h':Heap}
theorem Cx.Ok.nofr(ok:X.Ok){o:Obj}(e:X.base.get? b=some o):b ∉ X.fs:=λhb=>by
 have:=(ok.funs.mem hb).1;rw[e]at this;cases this
theorem Inv.bs(I:Inv X Nn σ H s):∀b o,X.base.get? b=some o->s.heap.get? b=some o/\H b=none:=λb o e =>
 ⟨I.base.keep b o (I.ok.bs b o e).1 (I.ok.bs b o e).2 (I.ok.nofr e) (I.ok.noex b o e),I.base.free b o (I.ok.bs b o e).1 (I.ok.bs b o e).2 (I.ok.noex b o e)⟩
theorem Inv.bk(I:Inv X Nn σ H s):∀b o,X.base.get? b=some o->s.heap.get? b=some o:=λb o e=>(I.bs b o e).1
theorem Inv.mod(I:Inv X Nn σ H s):Mod X.K X.mg X.base:=I.ok.mod
theorem Inv.kIn(I:Inv X Nn σ H s):X.K.In s.heap:=I.ok.mod.kin.keeps I.bk
theorem Inv.lt(I:Inv X Nn σ H s):X.env.locals<s.heap.objs.size:=let ⟨_,hn,_⟩:=I.loc;hn.lt
theorem Inv.sz(I:Inv X Nn σ H s):X.s₀.heap.objs.size<=s.heap.objs.size:=h8 I.ok.above (Mx I.lt)
theorem Inv.nofs(I:Inv X Nn σ H s)(h:s.heap.objs.size<=a):a ∉ X.fs:=λhb=>by
 obtain⟨_,o,ho,_⟩:=I.ok.funs.mem hb;exact absurd (i5 (f9 ho) (h8 I.sz h)) (y7 _)
theorem Inv.cne(I:Inv X Nn σ H s):∀x c,X.env.cells.lookup x=some c->c≠X.env.locals:=λx c e z=>by
 obtain⟨v,o,ho,hd⟩:=I.cell x c e;obtain⟨m,⟨o',es,ep,Oz,X4,_⟩,_⟩:=I.loc;rw[z,Oz]at ho;cases ho;rw[X4]at hd;cases hd
theorem Inv.funs(I:Inv X Nn σ H s):s.heap.FunFrames X.base X.outer:=by
 have all:∀(l:List Env),(∀b∈NG l,b∈X.fs)->X.s₀.heap.FunFrames X.base l->s.heap.FunFrames X.base l:=by
  intro l
  induction l with
  | nil=>intro _ _;trivial
  | cons env r ih =>
   intro hs hl;obtain⟨hk,⟨L,o,hf,hn,ho,hd⟩,hr⟩:=hl;have hL:L∈X.fs:=hs L (by unfold NG;rw[E1,hf];exact B5);obtain⟨sl,e⟩:=I.base.slot L o ho (I.ok.frf L hL) hL λz=>I.ok.exfs L z hL;exact⟨hk,⟨L,_,hf,hn,e,hd⟩,ih (λb hb=>hs b (by unfold NG;rw[E1,hf];exact p8 _ hb)) hr⟩
 exact all X.outer (λ_ hb=>hb) I.ok.funs
theorem Inv.stack(I:Inv X Nn σ H s):s.heap.FunFrames X.base X.stack:=by
 rcases I.ok.stk with e | ⟨e,hf⟩
 .rw[e];exact I.funs
 .rw[e];obtain⟨m,hn,_⟩:=I.loc;refine .cons (by rw[I.ok.kind];decide) hf hn ?_ I.funs;exact Me (h8 I.ok.bsz I.ok.above)
theorem Inv.stkSub(I:Inv X Nn σ H s):∀b∈NG X.stack,b∈X.env.locals::X.fs:=λb hb=>by
 rcases I.ok.stk with e | ⟨e,hf⟩
 .rw[e]at hb;exact p8 _ hb
 .rw[e]at hb;unfold NG at hb;rw[E1,hf]at hb;exact hb
theorem Inv.stkFree(I:Inv X Nn σ H s):∀b∈NG X.stack,H b=none:=λb hb=>by
 rcases j8.mp (I.stkSub b hb) with e | hb
 .rw[e];exact I.free
 .obtain⟨_,o,ho,_⟩:=I.ok.funs.mem hb;exact I.base.free b o ho (I.ok.frf b hb) λz=>I.ok.exfs b z hb
theorem Inv.step{t':Nat}{d':Drawn}(I:Inv X Nn σ H s)
  (P4:∀b∈ch,(b∈X.ex\/X.s₀.heap.objs.size<=b)/\b≠X.env.locals/\(∀x c,X.env.cells.lookup x=some c->c≠b)/\∀p∈X.pn++Nn,p.1≠b)
  (keep:∀b o,b≠X.env.locals->b ∉ X.fs->b ∉ ch->s.heap.get? b=some o->H b=none->h'.get? b=some o)
  (slot:∀b o,b≠X.env.locals->b∈X.fs->b ∉ ch->s.heap.get? b=some o->H b=none->∃sl,h'.get? b=some {o with slots:=sl})(free:∀b o,b ∉ ch->s.heap.get? b=some o->H b=none->H' b=none)
  (there:∀b o,b ∉ ch->s.heap.get? b=some o->∃o',h'.get? b=some o')
  (tups:∀b xs,H b=some (.tup xs)->H' b=some (.tup xs))(frzs:∀b o u,H b=some (.frz o u)->H' b=some (.frz o u))(tbls:∀b ps,H b=some (.tbl ps)->∃more,H' b=some (.tbl (ps++more)))
  (ns:∀m,s.heap.Ns X.env.locals m->h'.Ns X.env.locals m)(hok:NP X.prog X.w H' h')(hg:AllBare g') :
  Inv X Nn σ H' {s with heap:=h',gens:=g',drawn:=d',toks:=t' }:=by
 have neL:∀b o,X.s₀.heap.get? b=some o->b≠X.env.locals:=λb o e=>v3 (i5 (f9 e) I.ok.above)
 have Zw:∀b o,X.s₀.heap.get? b=some o->b ∉ X.ex->b ∉ ch:=λb o e hx hb=>by
  rcases(P4 b hb).1 with z | z
  .exact hx z
  .exact absurd (i5 (f9 e) z) (y7 _)
 have cellK:∀x c,X.env.cells.lookup x=some c->∀v,s.heap.IsCell c v->h'.IsCell c v:=λx c e v ⟨o,ho,hd⟩=>by
  have Xf:c ∉ ch:=λz=>(P4 c z).2.2.1 x c e rfl
  by_cases hc:c∈X.fs
  .obtain⟨sl,q⟩:=slot c o (I.cne x c e) hc Xf ho (I.freeC x c e);exact⟨_,q,hd⟩
  .exact⟨o,keep c o (I.cne x c e) hc Xf ho (I.freeC x c e),hd⟩
 refine⟨I.ok,I.os,hg,⟨λb o e n hb hx=>?_,λb o e n hb hx=>?_,λb o e n hx=>?_,λb o e hx=>?_,λb xs e=>tups b xs (I.base.tups b xs e),λb o xs e=>frzs b o xs (I.base.frzs b o xs e),λb ps e=>?_⟩,?_,λx c e=>?_,?_,λx c e=>?_,λp hp=>?_,hok,I.len⟩
 .exact keep b o (neL b o e) hb (Zw b o e hx) (I.base.keep b o e n hb hx) (I.base.free b o e n hx)
 .obtain⟨sl,e1⟩:=I.base.slot b o e n hb hx;obtain⟨Pp,e2⟩:=slot b _ (neL b o e) hb (Zw b o e hx) e1 (I.base.free b o e n hx);exact⟨Pp,e2⟩
 .obtain⟨o',e1⟩:=I.base.there b o e hx;exact free b o' (Zw b o e hx) e1 (I.base.free b o e n hx)
 .obtain⟨o',e1⟩:=I.base.there b o e hx;exact there b o' (Zw b o e hx) e1
 .obtain⟨m1,e1⟩:=I.base.tbls b ps e;obtain⟨m2,e2⟩:=tbls b _ e1;exact⟨m1++m2,by rw[e2,Array.append_assoc]⟩
 .obtain⟨m,hn,hl⟩:=I.loc;refine⟨m,ns m hn,λi x v e1 e2 e3=>?_⟩;obtain⟨u,r,l⟩:=hl i x v e1 e2 e3;refine⟨u,r,?_⟩;rcases l with l | ⟨k,c,e,z⟩
  .exact .inl l
  .exact .inr ⟨k,c,e,cellK x c e _ z⟩
 .obtain⟨v,z⟩:=I.cell x c e;exact⟨v,cellK x c e v z⟩
 .obtain⟨m,⟨o,_,_,ho,_⟩,_⟩:=I.loc;exact free _ o (λz=>(P4 _ z).2.1 rfl) ho I.free
 .obtain⟨v,o,ho,hd⟩:=I.cell x c e;exact free c o (λz=>(P4 c z).2.2.1 x c e rfl) ho (I.freeC x c e)
 .obtain⟨e,n,ne,nf,d⟩:=I.pin p hp;have Xf:p.1 ∉ ch:=λz=>(P4 p.1 z).2.2.2 p hp rfl;exact⟨keep p.1 p.2 ne nf Xf e n,free p.1 p.2 Xf e n,ne,nf,d⟩
theorem Inv.un{t':Nat}(I:Inv X Nn σ H s)(u:Un X.fs [] H H' s.heap h')(hok:NP X.prog X.w H' h'):Inv X Nn σ H' {s with heap:=h',toks:=t' }:=by
 obtain⟨m,⟨o,es,ep,ho,r⟩,_⟩:=id I.loc;obtain⟨sl,hL⟩:=u.any ho I.free (by simp)
 exact I.step (g':=s.gens) (d':=s.drawn) (ch:=[]) (λ_ z=>nomatch z) (λb o _ hb _ e n=>u.keep b o e n hb (by simp)) (λb o _ hb _ e n=>u.slot b o e n hb (by simp)) (λb o _ e n=>u.free b o e n (by simp)) (λb o _ e=>u.there b o e (by simp)) u.tups u.frzs u.tbls (λm' hm=>by
  obtain⟨o',V1,ZP,Oz,r'⟩:=hm;rw[ho]at Oz;cases Oz
  exact⟨_,V1,ZP,hL,r'⟩) hok I.bare
theorem Inv.call{t':Nat}{d':Drawn}{ch:List Addr}(I:Inv X Nn σ H s)(u:Un (NG X.stack) ch H H' s.heap h')(hok:NP X.prog X.w H' h')(hg:AllBare g')
  (P4:∀b∈ch,(b∈X.ex\/X.s₀.heap.objs.size<=b)/\b≠X.env.locals/\(∀x c,X.env.cells.lookup x=some c->c≠b)/\∀p∈X.pn++Nn,p.1≠b) :
  Inv X Nn σ H' {s with heap:=h',gens:=g',drawn:=d',toks:=t' }:=by
 obtain⟨m,⟨o,es,ep,ho,r⟩,_⟩:=id I.loc;obtain⟨sl,hL⟩:=u.any ho I.free λz=>(P4 _ z).2.1 rfl
 exact I.step (ch:=ch) P4 (λb o hL hb hc e n=>u.keep b o e n (λz=>(j8.mp (I.stkSub b z)).elim hL hb) hc) (λb o _ _ hc e n=>u.any e n hc) (λb o hc e n=>u.free b o e n hc) (λb o hc e=>u.there b o e hc) u.tups u.frzs u.tbls (λm' hm=>by
  obtain⟨o',V1,ZP,Oz,r'⟩:=hm;rw[ho]at Oz;cases Oz
  exact⟨_,V1,ZP,hL,r'⟩) hok hg
theorem Inv.turned{t':Nat}(I:Inv X Nn σ H s)(k:∀b o,b≠it->s.heap.get? b=some o->h'.get? b=some o)(hn:H it=none)(hL:it≠X.env.locals)
  (h1:it∈X.ex\/X.s₀.heap.objs.size<=it)(h2:∀x c,X.env.cells.lookup x=some c->c≠it)(h3:∀p∈X.pn++Nn,p.1≠it):Inv X Nn σ H {s with heap:=h',toks:=t' }:=by
 have nit:∀b u,H b=some u->b≠it:=λb u e z=>by rw[z,hn]at e;cases e
 refine I.step (g':=s.gens) (d':=s.drawn) (ch:=[it]) (λb hb=>?_) (λb o _ _ hc e _=>k b o (λz=>hc (by simp[z])) e) (λb o _ _ hc e _=>⟨o.slots,k b o (λz=>hc (by simp[z])) e⟩) (λ_ _ _ _ n=>n)
  (λb o hc e=>⟨o,k b o (λz=>hc (by simp[z])) e⟩) (λ_ _ e=>e) (λ_ _ _ e=>e) (λb ps e=>⟨#[],by rw[e];simp⟩) (λm hm=>?_) (λb u e=>?_) I.bare
 .have e:b=it:=by simpa using hb
  subst e;exact⟨h1,hL,h2,h3⟩
 .obtain⟨o,es,ep,ho,r⟩:=hm;exact⟨o,es,ep,k _ o (B8 hL) ho,r⟩
 .refine(I.hok b u e).stay (λc v hc q=>k c v ?_ q) (λ_ q=>q) λ_ _ q=>q;rcases hc with z | z
  .rw[z];exact nit b u e
  .exact nit c _ z
theorem Inv.tok(I:Inv X Nn σ H s)(t:Nat):Inv X Nn σ H {s with toks:=t}:=I.un (h':=s.heap) (t':=t) Un.refl I.hok
theorem Inv.kept{t':Nat}(I:Inv X Nn σ H s)(k:∀b u,s.heap.get? b=some u->h'.get? b=some u):Inv X Nn σ H {s with heap:=h',toks:=t' }:=I.un (Un.kept k) (I.hok.kept k)
theorem Inv.laid{t':Nat}(I:Inv X Nn σ H s)(k:∀b u,s.heap.get? b=some u->h'.get? b=some u)(hp:s.heap.objs.size<=a)(new:bj X.prog X.w (upd H a o) h' a o) :
  Inv X Nn σ (upd H a o) {s with heap:=h',toks:=t' }:=I.un (Un.laid k hp (I.hok.fresh hp)) (I.hok.laid k hp new)
theorem Inv.write{x e:Addr}{t':Nat}(I:Inv X Nn σ H s)(mu:Za (H x))(he:e=x\/H e=some (.own x))(k:∀b u,b≠e->s.heap.get? b=some u->h'.get? b=some u)(VZ:∃u,h'.get? e=some u)
  (new:bj X.prog X.w (upd H x o) h' x o):Inv X Nn σ (upd H x o) {s with heap:=h',toks:=t' }:=I.un (Un.write mu he k VZ) (I.hok.write mu he k VZ new)
theorem Inv.pins_of(I:Inv X Nn σ H s)(h:∀p∈SD,s.heap.get? p.1=some p.2/\H p.1=none/\p.1≠X.env.locals/\p.1 ∉ X.fs/\∀v,p.2.data≠.cell v):Inv X SD σ H s:=
 ⟨I.ok,I.os,I.bare,I.base,I.loc,I.cell,I.free,I.freeC,λp hp=>(D0.mp hp).elim (λz=>I.pin p (List.mem_append_left _ z)) (h p),I.hok,I.len⟩
theorem tQ(hN:N.Nodup){i j:Nat}(a:N[i]?=some x)(b:N[j]?=some x):i=j:=by
 obtain⟨h1,e1⟩:=j6.mp a;obtain⟨h2,e2⟩:=j6.mp b;exact(List.getElem_inj hN).mp (e1.trans e2.symm)
theorem EU{E:Value->Shared->Prop}{i:Nat}{v:V}{Q:Unit->Shared->Prop}(I:Inv X Nn σ H s)(hN:X.N.Nodup)(hi:X.N[i]?=some x)(hx:Loc X.env.scope x)(r:RelV v u)
  (h:∀s',Inv X Nn (σ.set i (some v)) H s'->(∃a,Heap.SameBut a s.heap s'.heap/\(a=X.env.locals\/X.env.cells.lookup x=some a))->Q () s')(hf:X.fn x=true\/X.env.scope.names.lookup x=some .local:=by first | exact .inl rfl | exact .inr rfl | assumption):wpAny M A (storeName X.env x u) Q E s:=by
 obtain⟨m,hn,hl⟩:=id I.loc;have hcls:(X.env.scope.kind == .class || (X.env.scope.kind == .module && X.env.locals != X.env.globals))=false:=by rw[I.ok.kind];rfl
 have hiσ:i<σ.length:=by rw[I.len];exact(j6.mp hi).1
 have cne:=I.cne
 have tracked:∀{a:Addr}{h':Heap},(∃o,s.heap.get? a=some o/\H a=none)->Heap.SameBut a s.heap h'->NP X.prog X.w H h':=λ{a h'} ha hs b ob e=>by
  obtain⟨_,_,S0⟩:=ha;refine(I.hok b ob e).stay (λc w' hc q=>(hs.2 c ?_).trans q) (λ_ q=>q) λ_ _ q=>q;rintro rfl
  rcases hc with rfl | hc
  .rw[S0]at e;cases e
  .rw[S0]at hc;cases hc
 rcases hx with hk | hk
 .refine wpAny_storeName_local hk hn (λh' hn' hs=>?_) hcls;obtain⟨oL,_,_,XQ,_⟩:=id hn;refine h _ ⟨I.ok,I.os,I.bare,⟨λb o e n hb hx=>?_,λb o e n hb hx=>?_,I.base.free,λb o e hx=>?_,I.base.tups,I.base.frzs,I.base.tbls⟩,⟨_,hn',λj y v' e1 e2 e3=>?_⟩,λy c e=>?_,I.free,I.freeC,λp hp=>?_,tracked ⟨oL,XQ,I.free⟩ hs,by simpa using I.len⟩ ⟨_,hs,.inl rfl⟩
  .exact(hs.2 b (v3 (i5 (f9 e) I.ok.above))).trans (I.base.keep b o e n hb hx)
  .obtain⟨sl,e1⟩:=I.base.slot b o e n hb hx;exact⟨sl,(hs.2 b (v3 (i5 (f9 e) I.ok.above))).trans e1⟩
  .obtain⟨o',e1⟩:=I.base.there b o e hx;exact⟨o',(hs.2 b (v3 (i5 (f9 e) I.ok.above))).trans e1⟩
  .by_cases hj:j=i
   .subst hj;rw[hi]at e1;cases e1
    rw[LO hiσ]at e2;cases e2
    exact⟨u,r,.inl ⟨hk,by simp⟩⟩
   .rw[Mf (B8 hj)]at e2;obtain⟨u',r',q⟩:=hl j y v' e1 e2 e3;refine⟨u',r',?_⟩;rcases q with⟨k,e⟩ | ⟨k,c,e,z⟩
    .refine .inl ⟨k,?_⟩;have:y≠x:=λe=>hj (tQ hN e1 (e ▸ hi));simp[this,e]
    .exact .inr ⟨k,c,e,z.sameBut hs (cne y c e)⟩
  .obtain⟨w',z⟩:=I.cell y c e;exact⟨w',z.sameBut hs (cne y c e)⟩
  .obtain⟨e,n,ne,nf,d⟩:=I.pin p hp;exact⟨(hs.2 p.1 ne).trans e,n,ne,nf,d⟩
 .have hfn:X.fn x=true:=by
   rcases hf with z | z
   .exact z
   .rw[z]at hk;cases hk
  obtain⟨c,hc⟩:=I.ok.has x (.inl hk);obtain⟨w',z⟩:=I.cell x c hc;refine wpAny_storeName_cell I.ok.kind hk hc z (λh' OC hs=>?_);obtain⟨oc,hoc,hocd⟩:=id z;refine h {s with heap:=h' } ⟨I.ok,I.os,I.bare,⟨λb o e n hb hx=>?_,λb o e n hb hx=>?_,I.base.free,λb o e hx=>?_,I.base.tups,I.base.frzs,I.base.tbls⟩,⟨m,hn.sameBut hs (B8 (cne x c hc)),λj y v' e1 e2 e3=>?_⟩,λy c' e=>?_,I.free,I.freeC,λp hp=>?_,tracked ⟨oc,hoc,I.freeC x c hc⟩ hs,by simpa using I.len⟩ ⟨c,hs,.inr hc⟩
  .exact(hs.2 b (v3 (i5 (f9 e) (I.ok.cab x c hfn hc)))).trans (I.base.keep b o e n hb hx)
  .obtain⟨sl,e1⟩:=I.base.slot b o e n hb hx;exact⟨sl,(hs.2 b (v3 (i5 (f9 e) (I.ok.cab x c hfn hc)))).trans e1⟩
  .obtain⟨o',e1⟩:=I.base.there b o e hx;exact⟨o',(hs.2 b (v3 (i5 (f9 e) (I.ok.cab x c hfn hc)))).trans e1⟩
  .by_cases hj:j=i
   .subst hj;rw[hi]at e1;cases e1
    rw[LO hiσ]at e2;cases e2
    exact⟨u,r,.inr ⟨.inl hk,c,hc,OC⟩⟩
   .rw[Mf (B8 hj)]at e2;obtain⟨u',r',q⟩:=hl j y v' e1 e2 e3;refine⟨u',r',?_⟩;rcases q with q | ⟨k,c',e,z'⟩
    .exact .inl q
    .refine .inr ⟨k,c',e,z'.sameBut hs ?_⟩;rintro rfl
     exact hj (tQ hN e1 (I.ok.inj _ _ _ e hc ▸ hi))
  .by_cases hcc:c'=c
   .subst hcc;exact⟨_,OC⟩
   .obtain⟨w2,z2⟩:=I.cell y c' e;exact⟨w2,z2.sameBut hs hcc⟩
  .obtain⟨e,n,ne,nf,d⟩:=I.pin p hp;refine⟨(hs.2 p.1 ?_).trans e,n,ne,nf,d⟩;intro q;rw[q,hoc]at e;have q':oc=p.2:=i7 e;exact d w' (by rw[<- q'];exact hocd)
theorem nH{E:Value->Shared->Prop}{i:Nat}{v:V}{Q:Unit->Shared->Prop}(I:Inv X Nn σ H s)(hN:X.N.Nodup)(hi:X.N[i]?=some x)(hx:Loc X.env.scope x)(r:RelV v u)
  (h:∀s',Inv X Nn (σ.set i (some v)) H s'->Q () s')(hf:X.fn x=true\/X.env.scope.names.lookup x=some .local:=by first | exact .inl rfl | exact .inr rfl | assumption):wpAny M A (storeName X.env x u) Q E s:=
 EU I hN hi hx r (λs' I' _=>h s' I') hf
theorem Inv.call'(I:Inv X Nn σ H s)(ho:s'.os=s.os)(u:Un (NG X.stack) ch H H' s.heap s'.heap)(hok:NP X.prog X.w H' s'.heap)(hg:AllBare s'.gens)
  (P4:∀b∈ch,(b∈X.ex\/X.s₀.heap.objs.size<=b)/\b≠X.env.locals/\(∀x c,X.env.cells.lookup x=some c->c≠b)/\∀p∈X.pn++Nn,p.1≠b):Inv X Nn σ H' s':=by
 obtain⟨h',g',d',t',o'⟩:=s';have e:o'=s.os:=ho;subst e;exact I.call (g':=g') (t':=t') (d':=d') u hok hg P4
end
noncomputable abbrev XK:=Value->Option Addr->Hp->Prop
noncomputable abbrev St:=List (Option V)
noncomputable abbrev VK:=V->Hp->Prop
noncomputable abbrev TE:=St->Hp->VK->Prop
noncomputable abbrev TT:=St->Hp->(Bool->Hp->Prop)->Prop
noncomputable abbrev TA:=St->Hp->(List V->Hp->Prop)->Prop
structure Ends where
 nx:St->Hp->Prop
 rt:VK
 bk:St->Hp->Prop:=λ_ _=>False
 ct:St->Hp->Prop:=λ_ _=>False
noncomputable abbrev TS:=Ends->St->Hp->Prop
def EP(X:Cx)(Nn:List (Addr×Obj))(σ:St)(Q:VK)(u:Value)(s':Shared):Prop:=∃v H',Inv X Nn σ H' s'/\RelV v u/\Q v H'
def TP(X:Cx)(Nn:List (Addr×Obj))(σ:St)(Q:Bool->Hp->Prop)(b:Bool)(s':Shared):Prop:=∃H',Inv X Nn σ H' s'/\Q b H'
def AP(X:Cx)(Nn:List (Addr×Obj))(σ:St)(Q:List V->Hp->Prop)(us:List Value)(s':Shared):Prop:=∃vs H',Inv X Nn σ H' s'/\Vals vs us/\Q vs H'
def SP(X:Cx)(Nn:List (Addr×Obj))(D:Ends)(f:Flow)(s':Shared):Prop:=
 match f with
 | .next=>∃σ' H',Inv X Nn σ' H' s'/\D.nx σ' H'
 | .brk=>∃σ' H',Inv X Nn σ' H' s'/\D.bk σ' H'
 | .cont=>∃σ' H',Inv X Nn σ' H' s'/\D.ct σ' H'
 | .ret u=>∃v σ' H',Inv X Nn σ' H' s'/\RelV v u/\D.rt v H'
def PE(X:Cx)(e:Expr)(t:TE):Prop:=
 ∀(Nn:List (Addr×Obj))(s:Shared)(σ:St)(H:Hp)(Q:VK),Inv X Nn σ H s->t σ H Q->wpAny (model X.prog X.w) X.A (eval e X.env) (EP X Nn σ Q) X.xe s
def PT(X:Cx)(e:Expr)(t:TT):Prop:=
 ∀(Nn:List (Addr×Obj))(s:Shared)(σ:St)(H:Hp)(Q:Bool->Hp->Prop),Inv X Nn σ H s->t σ H Q->wpAny (model X.prog X.w) X.A (isTrue e X.env (eval e X.env)) (TP X Nn σ Q) X.xe s
def PW(X:Cx)(e:Expr)(t:TT):Prop:=
 ∀(whole:Sem Value)(Nn:List (Addr×Obj))(s:Shared)(σ:St)(H:Hp)(Q:Bool->Hp->Prop),Inv X Nn σ H s->t σ H Q->wpAny (model X.prog X.w) X.A (isTrue e X.env whole) (TP X Nn σ Q) X.xe s
theorem PW.pt{t:TT}(h:PW X e t):PT X e t:=h _
def PA(X:Cx)(es:List Expr)(t:TA):Prop:=
 ∀(pos:Pos)(Nn:List (Addr×Obj))(s:Shared)(σ:St)(H:Hp)(Q:List V->Hp->Prop),Inv X Nn σ H s->t σ H Q->wpAny (model X.prog X.w) X.A (spliced (backTo pos (starEach es X.env))) (AP X Nn σ Q) X.xe s
def PS(X:Cx)(st:Stmt)(t:TS):Prop:=
 ∀(Nn:List (Addr×Obj))(s:Shared)(σ:St)(H:Hp)(D:Ends),Inv X Nn σ H s->t D σ H->wpAny (model X.prog X.w) X.A (exec st X.env) (SP X Nn D) X.xe s
def NU(X:Cx)(st:List Stmt)(t:TS):Prop:=
 ∀(Nn:List (Addr×Obj))(s:Shared)(σ:St)(H:Hp)(D:Ends),Inv X Nn σ H s->t D σ H->wpAny (model X.prog X.w) X.A (execs st X.env) (SP X Nn D) X.xe s
theorem Nr{α:Type}{t:Sem α}{Q Q':α->Shared->Prop}{E:Value->Shared->Prop}{s:Shared}(h:wpAny M A t Q E s)(hQ:∀a s,Q a s->Q' a s):wpAny M A t Q' E s:=v8 h hQ λ_ _ x=>x
section
variable{X:Cx}
theorem bin{a b:Expr}{ta tb:TE}(ha:PE X a ta)(hb:PE X b tb){s:Shared}{H:Hp}{R:V->V->Hp->Prop}(I:Inv X Nn σ H s)(h:ta σ H λx H1=>tb σ H1 λy H2=>R x y H2)
  {α:Type}{Q:α->Shared->Prop}{f:Value->Value->Sem α}
  (hf:∀v u s2 x y H2,Inv X Nn σ H2 s2->RelV x v->RelV y u->R x y H2->wpAny (model X.prog X.w) X.A (f v u) Q X.xe s2) :
  wpAny (model X.prog X.w) X.A (eval a X.env) (λv s₁=>wpAny (model X.prog X.w) X.A (eval b X.env) (λu s₂=>wpAny (model X.prog X.w) X.A (f v u) Q X.xe s₂) X.xe s₁) X.xe s:=by
 refine Nr (ha Nn s σ H _ I h) λv s1 zz=>?_;obtain⟨x,H1,I1,r1,q1⟩:=zz;refine Nr (hb Nn s1 σ H1 _ I1 q1) λu s2 zz=>?_;obtain⟨y,H2,I2,r2,q2⟩:=zz;exact hf v u s2 x y H2 I2 r1 r2 q2
inductive Ta(i:Nat)(σ:St)(H:Hp)(Q:VK):Prop where
 | mk (v:V) (Wd:σ[i]?=some (some v)) (Wc:Q v H):Ta i σ H Q
def Wl(i:Nat):TE:=λσ H Q=>Ta i σ H Q
inductive V4(x:V)(P:Bool->Prop):Prop where
 | mk (c:Bool) (e:x=.bl c) (q:P c):V4 x P
def tC(v:V):TE:=λ_ H Q=>Q v H
theorem IC{i:Nat}(hN:X.N[i]?=some x)(hv:Y6 X.env.scope x)(hd:(x==("__debug__":Str))=false:=by decide)(NZ:(x==("__classdict__":Str))=false:=by decide):PE X (.Name x pos) (Wl i):=by
 intro Nn s σ H Q I h;obtain⟨v,e,h⟩:=h;obtain⟨m,hn,hl⟩:=I.loc;obtain⟨u,r,l⟩:=hl i x v hN e hv;have fin:EP X Nn σ Q u s:=⟨v,H,I,r,h⟩;rcases l with⟨hk,hm⟩ | ⟨hk,c,hc,Nu⟩
 .exact wpAny_Name (wpAny_loadName_local I.ok.kind hk hn hm fin) hd
 .rcases hk with hk | hk
  .exact wpAny_Name (wpAny_loadName_cell I.ok.kind hk hc Nu fin) hd
  .exact wpAny_Name (wpAny_loadName_free I.ok.kind hk hc Nu fin NZ) hd
theorem aq{i j pos}:PE X (.Constant (.int i) j pos) (tC (.int i)):=λ_ _ _ H _ I h=>wpAny_Constant_int ⟨.int i,H,I.tok _,⟨_,rfl⟩,h⟩
theorem oC{b j pos}:PE X (.Constant (.bool b) j pos) (tC (.bl b)):=λ_ _ _ H _ I h=>Constant_bool ⟨.bl b,H,I,rfl,h⟩
theorem cf{j pos}:PE X (.Constant .none j pos) (tC .non):=λ_ _ _ H _ I h=>Constant_none ⟨.non,H,I,rfl,h⟩
theorem az{x j pos}:PE X (.Constant (.str x) j pos) (tC (.str x)):=λ_ _ _ H _ I h=>Calls.Constant_str ⟨.str x,H,I.tok _,⟨_,rfl⟩,h⟩
def Gl(X:Cx)(x:Str):Prop:=X.env.kindOf x=some .globalImplicit
theorem dN{E:Value->Shared->Prop}{s:Shared}{H:Hp}{Q:Value->Shared->Prop}(I:Inv X Nn σ H s)(hg:Gl X x)(hm:X.mg x=some u)(h:Q u s)
  (hd:(x==("__debug__":Str))=false:=by decide):wpAny (model X.prog X.w) X.A (eval (.Name x pos) X.env) Q E s:=
 Calls.Name_function_global I.ok.kind hg (Calls.loadGlobal_global (by rw[I.ok.glob];exact I.mod.glob.keeps I.bk) hm h) hd
theorem gQ{E:Value->Shared->Prop}{s:Shared}{H:Hp}{Q:Value->Shared->Prop}(I:Inv X Nn σ H s)(hg:Gl X x)(hm:X.mg x=none)(hv:bootBuiltins x=some u)(h:Q u s)
  (hn:x≠"__name__":=by decide)(hd:(x==("__debug__":Str))=false:=by decide):wpAny (model X.prog X.w) X.A (eval (.Name x pos) X.env) Q E s:=by
 obtain⟨mb,h1,h2⟩:=I.mod.blt;exact Calls.Name_function_global I.ok.kind hg (Calls.loadGlobal_builtin (by rw[I.ok.glob];exact I.mod.glob.keeps I.bk) hm (by rw[I.ok.blt];exact h1.keeps I.bk) ((h2 x hn).trans hv) h) hd
theorem bH{v:V}(hg:Gl X x)(hm:X.mg x=some u)(r:RelV v u)(hd:(x==("__debug__":Str))=false:=by decide):PE X (.Name x pos) (tC v):=
 λ_ _ _ H _ I h=>dN I hg hm ⟨v,H,I,r,h⟩ hd
theorem lW{v:V}(hg:Gl X x)(hm:X.mg x=none)(hv:bootBuiltins x=some u)(r:RelV v u)(hn:x≠"__name__":=by decide)(hd:(x==("__debug__":Str))=false:=by decide):PE X (.Name x pos) (tC v):=
 λ_ _ _ H _ I h=>gQ I hg hm hv ⟨v,H,I,r,h⟩ hn hd
variable{a b:Expr}{ta tb:TE}{pos:Pos}
def PC(X:Cx)(op:CmpOp)(a b:Expr)(t:TE):Prop:=
 ∀(
  Nn:List (Addr×Obj)) (s:Shared) (σ:St) (H:Hp) (Q:VK),Inv X Nn σ H s->t σ H Q->
  wpAny (model X.prog X.w) X.A (eval a X.env) (λv s₁=>wpAny (model X.prog X.w) X.A (eval b X.env) (λu s₂=>wpAny (model X.prog X.w) X.A (compareOp op v u) (EP X Nn σ Q) X.xe s₂) X.xe s₁) X.xe s
def tB(t:TE):TT:=λσ H Q=>t σ H λx H1=>V4 x λc=>Q c H1
theorem Iu{t:TE}(h:PC X op a b t)(h1:behindInMarks op b=false:=by first | exact Xc _ (by decide) (by decide) | rfl):PT X (.Compare a [op] [b] pos) (tB t):=by
 intro Nn s σ H Q I hw;refine wpAny_isTrue_Compare1 (Nr (h Nn s σ H _ I hw) λv s1 h1=>Nr h1 λu s2 h2=>Nr h2 λc s3 zz=>?_) h1;obtain⟨x,H1,I1,r1,q1⟩:=zz;obtain⟨d,rfl,q⟩:=q1;cases r1
 exact B0 ⟨H1,I1,q⟩
theorem gM{t:TE}(h:PE X e t)(he:∀whole,isTrue e X.env whole=(do let v <- whole;standAt e.pos;holding [v] (truthy v)):=by intro _;rfl):PT X e (tB t):=by
 intro Nn s σ H Q I hw;refine isTrue_plain (Nr (h Nn s σ H _ I hw) λv s1 zz=>?_) (he _);obtain⟨x,H1,I1,r1,q1⟩:=zz;obtain⟨d,rfl,q⟩:=q1;cases r1
 exact B0 ⟨H1,I1,q⟩
variable{tA Zm:TT}{rest:List Expr}
def Z8(t u:TT):TT:=λσ H Q=>t σ H λc H1=>if c=true then u σ H1 Q else Q false H1
def tOr(t u:TT):TT:=λσ H Q=>t σ H λc H1=>if c=true then Q true H1 else u σ H1 Q
def Z6(t:TT):TT:=λσ H Q=>t σ H λc H1=>Q (!c) H1
theorem QH(ha:PT X a tA):PW X (.BoolOp .And [a] pos) tA:=by
 intro wh Nn s σ H Q I h;refine isTrue_and (Nr (ha Nn s σ H Q I h) λc s1 e=>?_);cases c with
 | true=>exact isTrue_and_nil e
 | false=>exact e
theorem pW(ha:PT X a tA):PW X (.BoolOp .Or [a] pos) tA:=by
 intro wh Nn s σ H Q I h;refine isTrue_or (Nr (ha Nn s σ H Q I h) λc s1 e=>?_);cases c with
 | false=>exact isTrue_or_nil e
 | true=>exact e
theorem TV(ha:PT X a tA)(hb:PW X (.BoolOp .And (b::rest) pos) Zm):PW X (.BoolOp .And (a::b::rest) pos) (Z8 tA Zm):=by
 intro wh Nn s σ H Q I h;refine isTrue_and (Nr (ha Nn s σ H _ I h) λc s1 zz=>?_);obtain⟨H1,I1,q1⟩:=zz;cases c with
 | true=>exact hb wh Nn s1 σ H1 Q I1 q1
 | false=>exact⟨H1,I1,q1⟩
theorem vR(ha:PT X a tA)(hb:PW X (.BoolOp .Or (b::rest) pos) Zm):PW X (.BoolOp .Or (a::b::rest) pos) (tOr tA Zm):=by
 intro wh Nn s σ H Q I h;refine isTrue_or (Nr (ha Nn s σ H _ I h) λc s1 zz=>?_);obtain⟨H1,I1,q1⟩:=zz;cases c with
 | true=>exact⟨H1,I1,q1⟩
 | false=>exact hb wh Nn s1 σ H1 Q I1 q1
theorem mQ(ha:PT X a tA):PT X (.UnaryOp .Not a pos) (Z6 tA):=by
 intro Nn s σ H Q I h;exact isTrue_not (ha Nn s σ H (λc H1=>Q (!c) H1) I h)
def WG(ta tb:TE):TE:=λσ H Q=>ta σ H λx H1=>V4 x λc=>if c=true then tb σ H1 Q else Q (.bl false) H1
def Z5(ta tb:TE):TE:=λσ H Q=>ta σ H λx H1=>V4 x λc=>if c=true then Q (.bl true) H1 else tb σ H1 Q
def Wu(ta:TE):TE:=λσ H Q=>ta σ H λx H1=>V4 x λc=>Q (.bl (!c)) H1
theorem mT{op}{t:TE}(h:PE X a t):PE X (.BoolOp op [a] pos) t:=λNn s σ H Q I hw=>BoolOp_one (h Nn s σ H Q I hw)
theorem pZ(ha:PE X a ta)(hb:PE X (.BoolOp .And (b::rest) pos) tb):PE X (.BoolOp .And (a::b::rest) pos) (WG ta tb):=by
 intro Nn s σ H Q I h;refine BoolOp_and (Nr (ha Nn s σ H _ I h) λv s1 zz=>?_);obtain⟨x,H1,I1,r1,q1⟩:=zz;obtain⟨c,rfl,q1⟩:=q1;cases r1
 refine B0 ?_;cases c with
 | true=>exact hb Nn s1 σ H1 Q I1 q1
 | false=>exact⟨.bl false,H1,I1,rfl,q1⟩
theorem SE(ha:PE X a ta)(hb:PE X (.BoolOp .Or (b::rest) pos) tb):PE X (.BoolOp .Or (a::b::rest) pos) (Z5 ta tb):=by
 intro Nn s σ H Q I h;refine BoolOp_or (Nr (ha Nn s σ H _ I h) λv s1 zz=>?_);obtain⟨x,H1,I1,r1,q1⟩:=zz;obtain⟨c,rfl,q1⟩:=q1;cases r1
 refine B0 ?_;cases c with
 | false=>exact hb Nn s1 σ H1 Q I1 q1
 | true=>exact⟨.bl true,H1,I1,rfl,q1⟩
theorem IE(ha:PE X a ta):PE X (.UnaryOp .Not a pos) (Wu ta):=by
 intro Nn s σ H Q I h;refine UnaryOp_ (Nr (ha Nn s σ H _ I h) λv s1 zz=>?_);obtain⟨x,H1,I1,r1,q1⟩:=zz;obtain⟨c,rfl,q1⟩:=q1;cases r1
 exact not_of (B0 ⟨.bl (!c),H1,I1,rfl,q1⟩)
def tIf(t:TT)(ta tb:TE):TE:=λσ H Q=>t σ H λc H1=>if c=true then ta σ H1 Q else tb σ H1 Q
theorem cI(hc:PT X c tA)(ha:PE X a ta)(hb:PE X b tb):PE X (.IfExp c a b pos) (tIf tA ta tb):=by
 intro Nn s σ H Q I h;refine wpAny_IfExp (Nr (hc Nn s σ H _ I h) λd s1 zz=>?_);obtain⟨H1,I1,q1⟩:=zz;cases d with
 | true=>exact ha Nn s1 σ H1 Q I1 q1
 | false=>exact hb Nn s1 σ H1 Q I1 q1
end
def Nq(K:W.Frag)(H:Hp)(a:Addr)(xs:List V):Prop:=
 Rd H a (.lst xs)\/
  ∃(o:Obj)(its:Array Value)(n:Nat),K.lookup a=some o/\o.cls=.type "list"/\o.dict=none/\o.data=.seq its n/\its.size<=sizeLine/\Vals xs its.toList
def Nv(K:W.Frag)(H:Hp)(a:Addr)(xs:List V):Prop:=
 Rd H a (.tup xs)\/
  ∃(o:Obj)(its:Array Value)(n:Nat),K.lookup a=some o/\o.cls=.type "tuple"/\o.data=.seq its n/\its.size<=sizeLine/\Vals xs its.toList
noncomputable def absV:Value->Option V
 | .none=>some .non
 | .bool b=>some (.bl b)
 | .int i _=>some (.int i)
 | .str x _=>some (.str x)
 | .bytes b _=>some (.byt b)
 | .float b _=>some (.flt b)
 | .ref a=>some (.ref a)
 | .type n=>some (.ty n)
 | _=>none
theorem RelV.abs{x:V}(r:RelV x u):absV u=some x:=by
 cases x with
 | non=>cases r;rfl
 | bl _=>cases r;rfl
 | int _=>obtain⟨t,rfl⟩:=r;rfl
 | str _=>obtain⟨t,rfl⟩:=r;rfl
 | byt _=>obtain⟨t,rfl⟩:=r;rfl
 | flt _=>obtain⟨t,rfl⟩:=r;rfl
 | ref _=>cases r;rfl
 | ty _=>cases r;rfl
theorem RelV.inj{x y:V}(r:RelV x u)(q:RelV y u):x=y:=i7 (r.abs.symm.trans q.abs)
theorem Vals.inj:∀{xs ys:List V}{us:List Value},Vals xs us->Vals ys us->xs=ys
 | _,_,_,.nil,.nil=>rfl
 | _,_,_,.cons r t,.cons r' t'=>by rw[r.inj r',Vals.inj t t']
section
variable{X:Cx}{Nn:List (Addr×Obj)}{σ:St}{H:Hp}{s:Shared}{a:Addr}{xs ys:List V}
theorem Nq.of{K:W.Frag}(h:H a=some (.lst xs)):Nq K H a xs:=.inl (.inl h)
theorem Nv.of{K:W.Frag}(h:H a=some (.tup xs)):Nv K H a xs:=.inl (.inl h)
theorem Inv.list(I:Inv X Nn σ H s)(h:Nq X.K H a xs):∃its:List Value,Vals xs its/\PlainL s.heap a its.toArray/\xs.length<=sizeLine:=by
 rcases h with h | ⟨o,its,n,hk,hc,hd,hs,hz,r⟩
 .obtain⟨z,its,n,r,e⟩:=h.ok I.hok;exact⟨its,r,⟨_,n,e,rfl,rfl,rfl⟩,z⟩
 .refine⟨its.toList,r,⟨o,n,I.kIn a o hk,hc,hd,by simpa using hs⟩,?_⟩;have e:=r.length;simp only[A8]at e;omega
theorem Inv.tuple(I:Inv X Nn σ H s)(h:Nv X.K H a xs):∃its:List Value,Vals xs its/\IsTup s.heap a its.toArray/\xs.length<=sizeLine:=by
 rcases h with h | ⟨o,its,n,hk,hc,hs,hz,r⟩
 .obtain⟨z,its,r,p⟩:=h.ok I.hok;exact⟨its,r,p,z⟩
 .refine⟨its.toList,r,⟨o,I.kIn a o hk,hc,n,by simpa using hs⟩,?_⟩;have e:=r.length;simp only[A8]at e;omega
theorem Inv.list_inj(I:Inv X Nn σ H s)(h:Nq X.K H a xs)(h':Nq X.K H a ys):xs=ys:=by
 obtain⟨its,r,⟨o,n,e,_,_,d⟩,_⟩:=I.list h;obtain⟨its',r',⟨o',n',e',_,_,d'⟩,_⟩:=I.list h';rw[e]at e';cases e'
 rw[d]at d';injection d' with d1 _
 have:its=its':=by simpa using y9 Array.toList d1
 subst this;exact r.inj r'
theorem Inv.tuple_inj(I:Inv X Nn σ H s)(h:Nv X.K H a xs)(h':Nv X.K H a ys):xs=ys:=by
 obtain⟨its,r,⟨o,e,_,n,d⟩,_⟩:=I.tuple h;obtain⟨its',r',⟨o',e',_,n',d'⟩,_⟩:=I.tuple h';rw[e]at e';cases e'
 rw[d]at d';injection d' with d1 _
 have:its=its':=by simpa using y9 Array.toList d1
 subst this;exact r.inj r'
end
noncomputable abbrev Cx.wish (X:Cx) (E:Value->Shared->Prop):Cx:={X with xe:=E}
noncomputable abbrev Cx.nox (X:Cx):Cx:=X.wish λ_ _=>False
theorem Cx.Ok.wish(ok:X.Ok)(E:Value->Shared->Prop):(X.wish E).Ok:=
 ⟨ok.mod,ok.kind,ok.glob,ok.blt,ok.above,ok.inj,ok.has,ok.cab,ok.hd,ok.frames,ok.stk,ok.exf,ok.bs,ok.bsz,ok.noex,ok.exfs,ok.funs,ok.frf⟩
theorem Cx.Ok.unwish{E:Value->Shared->Prop}(ok:(X.wish E).Ok):X.Ok:=
 ⟨ok.mod,ok.kind,ok.glob,ok.blt,ok.above,ok.inj,ok.has,ok.cab,ok.hd,ok.frames,ok.stk,ok.exf,ok.bs,ok.bsz,ok.noex,ok.exfs,ok.funs,ok.frf⟩
section
variable{X:Cx}{Nn:List (Addr×Obj)}{σ:St}{H:Hp}{s:Shared}{E:Value->Shared->Prop}
theorem Inv.wish(I:Inv X Nn σ H s)(E:Value->Shared->Prop):Inv (X.wish E) Nn σ H s:=⟨I.ok.wish E,I.os,I.bare,I.base,I.loc,I.cell,I.free,I.freeC,I.pin,I.hok,I.len⟩
theorem Inv.unwish(I:Inv (X.wish E) Nn σ H s):Inv X Nn σ H s:=⟨I.ok.unwish,I.os,I.bare,I.base,I.loc,I.cell,I.free,I.freeC,I.pin,I.hok,I.len⟩
theorem SP.unwish{f:Flow}(h:SP (X.wish E) Nn D f s'):SP X Nn D f s':=by
 cases f with
 | next=>obtain⟨σ',H',I,q⟩:=h;exact⟨σ',H',I.unwish,q⟩
 | brk=>obtain⟨σ',H',I,q⟩:=h;exact⟨σ',H',I.unwish,q⟩
 | cont=>obtain⟨σ',H',I,q⟩:=h;exact⟨σ',H',I.unwish,q⟩
 | ret u=>obtain⟨v,σ',H',I,r,q⟩:=h;exact⟨v,σ',H',I.unwish,r,q⟩
theorem NU.nox{t:TS}(h:NU X.nox st t):NU X st t:=λNn s σ H D I hw =>
 v8 (h Nn s σ H D (I.wish _) hw) (λ_ _ q=>q.unwish) λ_ _ z=>False.elim z
end
section
variable{X:Cx}{st:Stmt}{rest:List Stmt}{t u:TS}{e:Expr}{te:TE}{pos:Pos}
def Sk:TS:=λD σ H=>D.nx σ H
def ET(t u:TS):TS:=λD σ H=>t {D with nx:=u D} σ H
theorem aG:NU X [] Sk:=λ_ _ σ H _ I h=>J9 ⟨σ,H,I,h⟩
theorem ag(h1:PS X st t)(h2:NU X rest u):NU X (st::rest) (ET t u):=by
 intro Nn s σ H D I h;refine M5 (Nr (h1 Nn s σ H {D with nx:=u D} I h) λf s1 q=>?_)
 cases f with
 | next =>
  obtain⟨σ',H',I',q⟩:=q;exact h2 Nn s1 σ' H' D I' q
 | ret v=>exact q
 | brk=>exact q
 | cont=>exact q
theorem ah(h1:PS X st t):NU X [st] t:=by
 intro Nn s σ H D I h;refine M5 (Nr (h1 Nn s σ H D I h) λf s1 q=>?_);cases f with
 | next=>exact J9 q
 | ret v=>exact q
 | brk=>exact q
 | cont=>exact q
theorem Inv.quiet{H:Hp}{s:Shared}(I:Inv X Nn σ H s):interactive X.env=false:=by simp[interactive,I.ok.kind]
def WB(te:TE):TS:=λD σ H=>te σ H λ_ H1=>D.nx σ H1
theorem aS(he:PE X e te)(hs:swapsWith e none pos.line X.env=pure false:=by rfl):PS X (.Expr e pos) (WB te):=by
 intro Nn s σ H D I h;refine wpAny_Expr_any (Nr (he Nn s σ H _ I h) λv s1 zz=>?_) I.quiet hs;obtain⟨x,H1,I1,r1,q1⟩:=zz;exact⟨σ,H1,I1,q1⟩
def Tp(te:TE):TS:=λD σ H=>te σ H D.rt
theorem av(he:PE X e te):PS X (.Return (some e) pos) (Tp te):=by
 intro Nn s σ H D I h;refine wpAny_Return_some (Nr (he Nn s σ H _ I h) λv s1 zz=>?_);obtain⟨x,H1,I1,r1,q1⟩:=zz;exact⟨x,σ,H1,I1,r1,q1⟩
def Wx(c:TT)(t u:TS):TS:=λD σ H=>c σ H λb H1=>if b=true then t D σ H1 else u D σ H1
theorem aP{a b:List Stmt}(hc:PT X c tc)(ha:NU X a t)(hb:NU X b u):PS X (.If c a b pos) (Wx tc t u):=by
 intro Nn s σ H D I h;refine wpAny_If (Nr (hc Nn s σ H _ I h) λd s1 zz=>?_);obtain⟨H1,I1,q1⟩:=zz;cases d with
 | true=>exact ha Nn s1 σ H1 D I1 q1
 | false=>exact hb Nn s1 σ H1 D I1 q1
def Ts:TS:=λ_ _ _=>False
theorem Fh:NU X sts Ts:=λ_ _ _ _ _ _ h=>h.elim
end
noncomputable abbrev TG:=V->St->Hp->(St->Hp->Prop)->Prop
noncomputable abbrev Vu:=List V->St->Hp->(St->Hp->Prop)->Prop
def PG(X:Cx)(target:Expr)(t:TG):Prop:=
 ∀(
  Nn:List (Addr×Obj)) (s:Shared) (σ:St) (H:Hp) (v:V) (u:Value) (Q:St->Hp->Prop),Inv X Nn σ H s->RelV v u->t v σ H Q->
  wpAny (model X.prog X.w) X.A (assign target X.env u) (λ_ s'=>∃σ' H',Inv X Nn σ' H' s'/\Q σ' H') X.xe s
def Y9(X:Cx)(ts:List Expr)(t:Vu):Prop:=
 ∀(
  Nn:List (Addr×Obj)) (s:Shared) (σ:St) (H:Hp) (vs:List V) (us:List Value) (Q:St->Hp->Prop),Inv X Nn σ H s->Vals vs us->t vs σ H Q->
  wpAny (model X.prog X.w) X.A (assignInOrder ((assignEach ts X.env).map (·.2)) us) (λ_ s'=>∃σ' H',Inv X Nn σ' H' s'/\Q σ' H') X.xe s
section
variable{X:Cx}{pos:Pos}
def ud(i:Nat):TG:=λv σ H Q=>Q (σ.set i (some v)) H
theorem aX{i:Nat}(hN:X.N.Nodup:=by assumption)(hi:X.N[i]?=some x:=by rfl)(hx:Loc X.env.scope x:=by walk_at "oi")(hf:X.fn x=true\/X.env.scope.names.lookup x=some .local:=by first | exact .inl rfl | exact .inr rfl | assumption):PG X (.Name x pos) (ud i):=by
 intro Nn s σ H v u Q I r h;exact wpAny_assign_Name (nH I hN hi hx r (λs' I'=>⟨_,H,I',h⟩) hf)
def gNil:Vu:=λvs σ H Q=>vs=[]/\Q σ H
def Yz(t:TG)(u:Vu):Vu:=λvs σ H Q=>∃v r,vs=v::r/\t v σ H λσ' H'=>u r σ' H' Q
theorem gf:Y9 X [] gNil:=by
 intro Nn s σ H vs us Q I r h;obtain⟨e,h⟩:=h;subst e;cases r
 exact assignInOrder_nil ⟨σ,H,I,h⟩
theorem bt{t:TG}{u:Vu}(h1:PG X e t)(h2:Y9 X es u)
  (hs:(assignEach (e::es) X.env).map (·.2)=assign e X.env::(assignEach es X.env).map (·.2):=by rfl):Y9 X (e::es) (Yz t u):=by
 intro Nn s σ H vs us Q I r h;obtain⟨v,vr,e1,h⟩:=h;subst e1;cases r with
 | cons r rr =>
  rw[hs];refine assignInOrder_cons (Nr (h1 Nn s σ H _ _ _ I r h) λ_ s1 zz=>?_);obtain⟨σ1,H1,I1,q1⟩:=zz;exact h2 Nn s1 σ1 H1 _ _ Q I1 rr q1
def Yw(K:W.Frag)(n:Nat)(t:Vu):TG:=λv σ H Q=>∃a xs,v=.ref a/\Nv K H a xs/\xs.length=n/\t xs σ H Q
theorem mR{k:Nat}{t:Vu}(hc:X.calm=true)(h:Y9 X es t)
  (hn:(assignEach es X.env).length=n:=by rfl)(O3:(assignEach es X.env).findIdx? (·.1)=none:=by rfl):PG X (.Tuple es k pos) (Yw X.K n t):=by
 intro Nn s σ H v u Q I r hw;obtain⟨a,xs,e1,hq,hl,hw⟩:=hw;subst e1;cases r
 obtain⟨its,rv,ht,hz⟩:=I.tuple hq;refine assign_Tuple_tuple (I.ok.hd hc) ht (by simp[hn,<- hl,rv.length]) O3 λh' hx=>?_;have I1:Inv X Nn σ H {s with heap:=h' }:=I.kept (t':=s.toks) λb o e=>hx b o (v3 (f9 e)) e
 exact h Nn _ σ H xs _ Q I1 (by simpa using rv) hw
def Qq(te:TE)(g:TG):TS:=λD σ H=>te σ H λx H1=>g x σ H1 D.nx
theorem TX{g:TG}(he:PE X e te)(hg:PG X tg g)(hs:swapsWithSole [tg] e pos.line X.env=pure false:=by rfl)(hw:swappedStores [tg] e X.env=pure none:=by rfl)
  (h1:(assignEach [tg] X.env).map (·.2)=[assign tg X.env]:=by rfl):PS X (.Assign [tg] e pos) (Qq te g):=by
 intro Nn s σ H D I h;refine wpAny_Assign_stores (Nr (he Nn s σ H _ I h) λv s1 zz=>?_) hs hw;obtain⟨x,H1,I1,r1,q1⟩:=zz;rw[h1];exact Nr (hg Nn s1 σ H1 x v _ I1 r1 q1) λ_ s2 q=>q
theorem aD{i:Nat}(he:PE X e te)(hN:X.N.Nodup:=by assumption)(hi:X.N[i]?=some x:=by rfl)(hx:Loc X.env.scope x:=by walk_at "oi")(hs:swapsWith e (some (.Name x pos')) pos.line X.env=pure false:=by rfl)(hf:X.fn x=true\/X.env.scope.names.lookup x=some .local:=by first | exact .inl rfl | exact .inr rfl | assumption) :
  PS X (.Assign [.Name x pos'] e pos) (Qq te (ud i)):=by
 intro Nn s σ H D I h;refine wpAny_Assign_Name (Nr (he Nn s σ H _ I h) λv s1 zz=>?_) hs;obtain⟨y,H1,I1,r1,q1⟩:=zz;exact nH I1 hN hi hx r1 (λs2 I2=>⟨_,H1,I2,q1⟩) hf
end
section
variable{X:Cx}{pos:Pos}
def Tn(c:TT)(tb:TS):TS:=λD σ H=>∃W:Nat->St->Hp->Prop,(∃m,W m σ H)/\∀m σ H,W m σ H->
 c σ H λb H1=>if b=true then ∃N:St->Hp->Prop,(∀σ' H',N σ' H'->∃m',m'<m/\W m' σ' H')/\tb {D with nx:=N,ct:=N,bk:=D.nx} σ H1 else D.nx σ H1
theorem jE(hp:PassesOwn (model X.prog X.w) X.A X.env X.xe)(hc:PT X c tc)(hb:NU X body tb):PS X (.While c body [] pos) (Tn tc tb):=by
 intro Nn s σ H D I h;obtain⟨W,⟨m0,w0⟩,turn⟩:=h;refine wpAny_While (codeAny_whileLoop (λn s'=>∃σ' H',Inv X Nn σ' H' s'/\W n σ' H') ?_ m0 ⟨σ,H,I,w0⟩);rintro n s1 ⟨σ1,H1,I1,w1⟩
 refine G3 hp (Nr (hc Nn s1 σ1 H1 _ I1 (turn n σ1 H1 w1)) λb s2 zz=>?_);obtain⟨H2,I2,q2⟩:=zz;cases b with
 | true =>
  obtain⟨N,hN,q2⟩:=q2;rw[k9 rfl];refine G3 hp (Nr (hb Nn s2 σ1 H2 _ I2 q2) λf s3 q3=>?_);cases f with
  | next =>
   obtain⟨σ3,H3,I3,n3⟩:=q3;obtain⟨m',hm,w3⟩:=hN σ3 H3 n3;exact⟨m',hm,σ3,H3,I3,w3⟩
  | cont =>
   obtain⟨σ3,H3,I3,n3⟩:=q3;obtain⟨m',hm,w3⟩:=hN σ3 H3 n3;exact⟨m',hm,σ3,H3,I3,w3⟩
  | brk=>exact q3
  | ret v=>exact q3
 | false =>
  rw[h9 i6];exact J9 ⟨σ1,H2,I2,q2⟩
end
structure It where
 go:Nat->Hp->Prop
 yld:Nat->Hp->V->Hp->Prop
 stop:Nat->Hp->Prop
def gR(X:Cx)(Nn:List (Addr×Obj))(H:Hp)(b:Addr):Prop:=
 H b=none/\b≠X.env.locals/\b ∉ X.fs/\(b∈X.ex\/X.s₀.heap.objs.size<=b)/\(∀x c,X.env.cells.lookup x=some c->c≠b)/\∀p∈X.pn++Nn,p.1≠b
theorem Inv.fpOk{H H':Hp}{s:Shared}(I:Inv X Nn σ H s)(hb:s.heap.objs.size<=b)(hn:H' b=none):gR X Nn H' b:=by
 refine⟨hn,D9 (i5 I.lt hb),I.nofs hb,.inr (h8 I.sz hb),λx c e z=>?_,λp hp z=>?_⟩
 .obtain⟨v,q⟩:=I.cell x c e;exact absurd (i5 q.lt (by rw[z];exact hb)) (y7 _)
 .exact absurd (i5 (f9 (I.pin p hp).1) (by rw[z];exact hb)) (y7 _)
structure Turn(P:Program)(w:World)(K:W.Frag)(tg:Expr)(J:It)(fp:List Addr)(it:Addr)(tn:Nat->Heap->Prop):Prop where
 mem:it∈fp
 obj:∀i h,tn i h->∀b∈fp,∃o,h.get? b=some o/\∀v,o.data≠.cell v
 keep:∀i h h',tn i h->(∀b∈fp,∀o,h.get? b=some o->h'.get? b=some o)->tn i h'
 item:∀(X:Cx),X.prog=P->X.w=w->X.K=K->X.calm=true->∀(i:Nat)(Nn:List (Addr×Obj))(s:Shared)(σ:St)(H:Hp)(E:Value->Shared->Prop),Inv X Nn σ H s->(∀b∈fp,gR X Nn H b)->tn i s.heap->J.go i H->
  wpAny (model P w) X.A (pyNext (.ref it)) (λr s1=>∃u,r=some u/\
   wpAny (model P w) X.A (letOwnedTupleGo tg (.ref it) u) (λ_ s2=>∃x H',Inv X Nn σ H' s2/\RelV x u/\J.yld i H x H'/\tn (i+1) s2.heap/\∀b∈fp,H' b=none) E s1) E s
 done:∀(X:Cx),X.prog=P->X.w=w->X.K=K->X.calm=true->∀(i:Nat)(Nn:List (Addr×Obj))(s:Shared)(σ:St)(H:Hp)(E:Value->Shared->Prop),Inv X Nn σ H s->(∀b∈fp,gR X Nn H b)->tn i s.heap->J.stop i H->
  wpAny (model P w) X.A (pyNext (.ref it)) (λr s1=>r=none/\Inv X Nn σ H s1) E s
 self:∀(A:Around)(i:Nat)(s:Shared)(Q:Value->Shared->Prop)(E:Value->Shared->Prop),tn i s.heap->Q (.ref it) s->wpAny (model P w) A (pyIter (.ref it)) Q E s
noncomputable abbrev TI:=St->Hp->(It->Hp->Prop)->Prop
def PIE(X:Cx)(Nn:List (Addr×Obj))(σ:St)(tg:Expr)(R:It->Hp->Prop)(Xp:Value)(s2:Shared):Prop:=
 ∃(it:Addr)(fp:List Addr)(tn:Nat->Heap->Prop)(J:It)(H':Hp),Xp=.ref it/\Inv X Nn σ H' s2/\Turn X.prog X.w X.K tg J fp it tn/\tn 0 s2.heap/\(∀b∈fp,gR X Nn H' b)/\R J H'
def PI(X:Cx)(tg Nt:Expr)(wi:TI):Prop:=
 ∀(
  Nn:List (Addr×Obj)) (s:Shared) (σ:St) (H:Hp) (R:It->Hp->Prop),Inv X Nn σ H s->wi σ H R->
  wpAny (model X.prog X.w) X.A (eval Nt X.env) (λv s1=>wpAny (model X.prog X.w) X.A (pyIter v) (PIE X Nn σ tg R) X.xe s1) X.xe s
theorem zY{E:Value->Shared->Prop}{s:Shared}{o:Obj}{n:String}{Q:Unit->Shared->Prop}(ho:s.heap.get? it=some o)(hc:o.cls=.type n)(hd:o.data=.fields vs)
  (hn:["enumerate","zip","dict_itemiterator","dict_reverseitemiterator","odict_iterator","itertools.zip_longest","itertools.pairwise"].contains n=false)(hQ:Q () s):wpAny M A (letOwnedTupleGo tg (.ref it) u) Q E s:=by
 unfold letOwnedTupleGo
 cases tg<;>first
  | exact f6 hQ
  | (cases u <;> first
    | exact f6 hQ
    | (
     refine b6 (wpAny_load ho ?_);rw[hc,hd];show wpAny M A (if(["enumerate","zip","dict_itemiterator","dict_reverseitemiterator","odict_iterator","itertools.zip_longest","itertools.pairwise"].contains n && vs[0]? == some (rawInt _))=true then _ else _) Q E s;rw[h9 (by intro h;rw[hn,E7]at h;cases h)]
     exact f6 hQ))
def PX(K:W.Frag)(a:Addr):It:=
 ⟨λi H=>∃xs x,Nq K H a xs/\xs[i]?=some x,λi H x H'=>H'=H/\∀xs,Nq K H a xs->xs[i]?=some x,λi H=>∃xs,Nq K H a xs/\xs.length<=i⟩
def ZY(K:W.Frag)(a:Addr):It:=
 ⟨λi H=>∃xs x,Nv K H a xs/\xs[i]?=some x,λi H x H'=>H'=H/\∀xs,Nv K H a xs->xs[i]?=some x,λi H=>∃xs,Nv K H a xs/\xs.length<=i⟩
def VD(lo:Int)(n:Nat):It:=⟨λi _=>i<n,λi H x H'=>H'=H/\x=.int (lo+i),λi _=>n<=i⟩
theorem EI{P:Program}{w:World}{K:W.Frag}(a it:Addr):Turn P w K tg (PX K a) [it] it (λi h=>h.IsListIter it a i) where
 mem:=by simp
 obj:=λi h st b hb=>by
  have e:b=it:=by simpa using hb
  subst e;obtain⟨o,e,c,d⟩:=st;exact⟨o,e,λv z=>by rw[d]at z;cases z⟩
 keep:=λi h h' st k=>st.at λo e=>k it (by simp) o e
 item:=by
  intro X hP hw hK hc i Nn s σ H E I hf st hg;subst hP hw hK;obtain⟨xs,x,hq,hx⟩:=hg;obtain⟨its,rv,p,hz⟩:=I.list hq;obtain⟨u,hu,ru⟩:=rv.get hx;obtain⟨f0,f1,f2,f3,f4,f5⟩:=hf it (by simp);refine wpAny_pyNext_list_item st p.isList (x:=u) (by simpa using hu) λh' OS sb=>?_;have I1:Inv X Nn σ H {s with heap:=h' }:=I.turned (t':=s.toks) (λb o hb e=>(sb.2 b hb).trans e) f0 f1 f3 f4 f5
  obtain⟨o,e,c,d⟩:=id OS;exact⟨u,rfl,zY (s:={s with heap:=h' }) e c d (by decide) ⟨x,H,I1,ru,⟨rfl,λys hy=>by rw[I.list_inj hy hq];exact hx⟩,OS,λb hb=>(hf b hb).1⟩⟩
 done:=by
  intro X hP hw hK hc i Nn s σ H E I hf st hg;subst hP hw hK;obtain⟨xs,hq,hx⟩:=hg;obtain⟨its,rv,p,hz⟩:=I.list hq;obtain⟨f0,f1,f2,f3,f4,f5⟩:=hf it (by simp);have hl:=rv.length;exact wpAny_pyNext_list_end (I.ok.hd hc) st p.isList (by simp;omega) λh' eb=>⟨rfl,I.turned (t':=s.toks) (λb o hb e=>eb b o hb e) f0 f1 f3 f4 f5⟩
 self:=λ_ _ _ _ _ st h=>wpAny_pyIter_listiter st h
theorem AQ{P:Program}{w:World}{K:W.Frag}(a it:Addr):Turn P w K tg (ZY K a) [it] it (λi h=>h.IsTupleIter it a i) where
 mem:=by simp
 obj:=λi h st b hb=>by
  have e:b=it:=by simpa using hb
  subst e;obtain⟨o,e,c,d⟩:=st;exact⟨o,e,λv z=>by rw[d]at z;cases z⟩
 keep:=λi h h' st k=>st.at λo e=>k it (by simp) o e
 item:=by
  intro X hP hw hK hc i Nn s σ H E I hf st hg;subst hP hw hK;obtain⟨xs,x,hq,hx⟩:=hg;obtain⟨its,rv,p,hz⟩:=I.tuple hq;obtain⟨u,hu,ru⟩:=rv.get hx;obtain⟨f0,f1,f2,f3,f4,f5⟩:=hf it (by simp);refine wpAny_pyNext_tuple_item st (show s.heap.IsTuple a its.toArray from p) (x:=u) (by simpa using hu) λh' OS sb=>?_;have I1:Inv X Nn σ H {s with heap:=h' }:=I.turned (t':=s.toks) (λb o hb e=>(sb.2 b hb).trans e) f0 f1 f3 f4 f5
  obtain⟨o,e,c,d⟩:=id OS;exact⟨u,rfl,zY (s:={s with heap:=h' }) e c d (by decide) ⟨x,H,I1,ru,⟨rfl,λys hy=>by rw[I.tuple_inj hy hq];exact hx⟩,OS,λb hb=>(hf b hb).1⟩⟩
 done:=by
  intro X hP hw hK hc i Nn s σ H E I hf st hg;subst hP hw hK;obtain⟨xs,hq,hx⟩:=hg;obtain⟨its,rv,p,hz⟩:=I.tuple hq;obtain⟨f0,f1,f2,f3,f4,f5⟩:=hf it (by simp);have hl:=rv.length;exact wpAny_pyNext_tuple_end (I.ok.hd hc) st (show s.heap.IsTuple a its.toArray from p) (by simp;omega) λh' eb=>⟨rfl,I.turned (t':=s.toks) (λb o hb e=>eb b o hb e) f0 f1 f3 f4 f5⟩
 self:=λ_ _ _ _ _ st h=>wpAny_pyIter_tupleiter st h
theorem AR{P:Program}{w:World}{K:W.Frag}(it:Addr)(lo:Int)(n:Nat):Turn P w K tg (VD lo n) [it] it (λi h=>IsRangeIter h it (lo+(i:Nat)*1) ((n:Int)-(i:Nat)) 1) where
 mem:=by simp
 obj:=λi h st b hb=>by
  have e:b=it:=by simpa using hb
  subst e
  exact⟨_,st,λv z=>by
   have z':Data.fields _=Data.cell v:=z;cases z'⟩
 keep:=λi h h' st k=>k it (by simp) _ st
 item:=by
  intro X hP hw hK hc i Nn s σ H E I hf st hg;subst hP hw hK;obtain⟨f0,f1,f2,f3,f4,f5⟩:=hf it (by simp);have W:=Walks.range (prog:=X.prog) (w:=X.w) (I.ok.hd hc) it lo 1 n;refine W.item i s _ _ hg st λv h' tk hv OS kk=>?_;obtain⟨t,rfl⟩:=hv;have I1:Inv X Nn σ H {s with heap:=h',toks:=tk}:=I.turned (λb o hb e=>kk b o (by simpa using hb) e) f0 f1 f3 f4 f5
  refine⟨_,rfl,zY (s:={s with heap:=h',toks:=tk}) (n:="range_iterator") OS rfl rfl (by decide) ⟨.int (lo+i),H,I1,⟨t,?_⟩,⟨rfl,rfl⟩,OS,λb hb=>(hf b hb).1⟩⟩
  rw[Int.mul_one]
 done:=by
  intro X hP hw hK hc i Nn s σ H E I hf st hg;subst hP hw hK;obtain⟨f0,f1,f2,f3,f4,f5⟩:=hf it (by simp);exact wpAny_pyNext_range_end (I.ok.hd hc) st (by have:n<=i:=hg;omega) λh' eb=>⟨rfl,I.turned (t':=s.toks) (λb o hb e=>eb b o hb e) f0 f1 f3 f4 f5⟩
 self:=λ_ _ _ _ _ st h=>wpAny_pyIter_rangeiter st h
section
variable{X:Cx}{tg:Expr}
def Xu(K:W.Frag)(tl:TE):TI:=λσ H R=>tl σ H λx H1=>∃a,x=.ref a/\(∃xs,Nq K H1 a xs)/\R (PX K a) H1
def iTup(K:W.Frag)(tl:TE):TI:=λσ H R=>tl σ H λx H1=>∃a,x=.ref a/\(∃xs,Nv K H1 a xs)/\R (ZY K a) H1
theorem bV{l:Expr}{tl:TE}(hl:PE X l tl):PI X tg l (Xu X.K tl):=by
 intro Nn s σ H R I h;refine Nr (hl Nn s σ H _ I h) λv s1 zz=>?_;obtain⟨x,H1,I1,r1,q1⟩:=zz;obtain⟨a,e,⟨xs,hq⟩,q⟩:=q1;subst e;cases r1
 obtain⟨its,rv,p,hz⟩:=I1.list hq;refine LP p.isList ?_;refine⟨s1.heap.objs.size,[s1.heap.objs.size],_,_,H1,rfl,I1.kept (t':=s1.toks) λb o e=>e9 _ e,EI a _,⟨_,g7 _ rfl,rfl,rfl⟩,λb hb=>?_,q⟩;have e:b=s1.heap.objs.size:=by simpa using hb
 subst e;exact I1.fpOk (f7 _) (I1.hok.fresh (f7 _))
theorem IA{l:Expr}{tl:TE}(hl:PE X l tl):PI X tg l (iTup X.K tl):=by
 intro Nn s σ H R I h;refine Nr (hl Nn s σ H _ I h) λv s1 zz=>?_;obtain⟨x,H1,I1,r1,q1⟩:=zz;obtain⟨a,e,⟨xs,hq⟩,q⟩:=q1;subst e;cases r1
 obtain⟨its,rv,p,hz⟩:=I1.tuple hq;refine LK (show s1.heap.IsTuple a its.toArray from p) ?_;refine⟨s1.heap.objs.size,[s1.heap.objs.size],_,_,H1,rfl,I1.kept (t':=s1.toks) λb o e=>e9 _ e,AQ a _,⟨_,g7 _ rfl,rfl,rfl⟩,λb hb=>?_,q⟩;have e:b=s1.heap.objs.size:=by simpa using hb
 subst e;exact I1.fpOk (f7 _) (I1.hok.fresh (f7 _))
theorem zj{H:Hp}{s:Shared}{R:It->Hp->Prop}{E:Value->Shared->Prop}{hi:Int}{t u v:Tok}{tk:Nat}(I:Inv X Nn σ H s)(h1:-(2^62)<=lo)(h2:lo<2^62)(h3:-(2^62)<=hi)(h4:hi<2^62)
  (q:R (VD lo (hi-lo).toNat) H):wpAny (model X.prog X.w) X.A (pyIter (.ref s.heap.objs.size)) (PIE X Nn σ tg R) E {s with heap:=s.heap.push {cls:=.type "range",data:=.fields #[.int lo t,.int hi u,.int 1 v] },toks:=tk}:=by
 refine wpAny_pyIter_range (IsRange.new ..) (small_one h1 h2 h3 h4) ?_;have I1:Inv X Nn σ H {s with heap:=s.heap.push {cls:=.type "range",data:=.fields #[.int lo t,.int hi u,.int 1 v] },toks:=tk}:=I.kept λb o e=>e9 _ e
 refine⟨(s.heap.push {cls:=.type "range",data:=.fields #[.int lo t,.int hi u,.int 1 v] }).objs.size,[(s.heap.push {cls:=.type "range",data:=.fields #[.int lo t,.int hi u,.int 1 v] }).objs.size],_,_,H,rfl,
  I1.kept (t':=tk) λb o e=>e9 _ e,AR _ lo (hi-lo).toNat,?_,λb hb=>?_,q⟩
 .have e1:lo+((0:Nat):Int)*1=lo:=by simp
  have e2:(((hi-lo).toNat:Nat):Int)-((0:Nat):Int)=Builtin.Range.rangeSize lo hi 1:=by rw[rangeSize_one];split<;>omega
  show IsRangeIter _ _ (lo+((0:Nat):Int)*1) ((((hi-lo).toNat:Nat):Int)-((0:Nat):Int)) 1;rw[e1,e2];exact g7 _ rfl
 .have e:b=(s.heap.push {cls:=.type "range",data:=.fields #[.int lo t,.int hi u,.int 1 v] }).objs.size:=by simpa using hb
  subst e;exact I1.fpOk (f7 _) (I1.hok.fresh (f7 _))
def Xt(ta:TA):TI:=λσ H R=>ta σ H λvs H1=>∃j:Int,vs=[.int j]/\-(2^62)<=j/\j<2^62/\R (VD 0 j.toNat) H1
def Xs(ta:TA):TI:=λσ H R=>ta σ H λvs H1=>∃i j:Int,vs=[.int i,.int j]/\(-(2^62)<=i/\i<2^62/\-(2^62)<=j/\j<2^62)/\R (VD i (j-i).toNat) H1
theorem vS{a:Expr}{p:Pos}(hm:X.mg "range"=none)(ha:PA X [a] ta)(hg:Gl X "range":=by rfl)(hs:starEach [a] X.env=[(false,eval a X.env)]:=by rfl):PI X tg (.Call (.Name "range" p) [a] [] pos) (Xt ta):=by
 intro Nn s σ H R I h;refine Call_ (gQ I hg hm boot_range (y8 (Nr (ha pos Nn s σ H _ I h) λus s1 zz=>?_) hs rfl));obtain⟨vs,H1,I1,r1,q1⟩:=zz;obtain⟨j,e,q1,q2,q⟩:=q1;subst e;cases r1 with
 | cons r rr =>
  cases rr
  obtain⟨t,rfl⟩:=r;exact call_range_1 (zj I1 (by omega) (by omega) q1 q2 (by simpa using q))
theorem Fl{a b:Expr}{p:Pos}(hm:X.mg "range"=none)(ha:PA X [a,b] ta)(hg:Gl X "range":=by rfl)(hs:starEach [a,b] X.env=[(false,eval a X.env),(false,eval b X.env)]:=by rfl)(Od:starEach [b] X.env=[(false,eval b X.env)]:=by rfl) :
  PI X tg (.Call (.Name "range" p) [a,b] [] pos) (Xs ta):=by
 intro Nn s σ H R I h;refine Call_ (gQ I hg hm boot_range (y8 (Nr (ha pos Nn s σ H _ I h) λus s1 zz=>?_) (by rw[hs,Od]) (by rw[Od];rfl)));obtain⟨vs,H1,I1,r1,q1⟩:=zz;obtain⟨i,j,e,⟨q1,q2,q3,q4⟩,q⟩:=q1;subst e;cases r1 with
 | cons r rr =>
  cases rr with
  | cons r' rr =>
   cases rr
   obtain⟨t,rfl⟩:=r;obtain⟨t',rfl⟩:=r';exact call_range_2 (zj I1 q1 q2 q3 q4 q)
def Z7(wi:TI)(g:TG)(tb:TS):TS:=λD σ H=>wi σ H λJ H1=>∃W:Nat->Nat->St->Hp->Prop,(∃m,W 0 m σ H1)/\∀i m σ H,W i m σ H->
 (J.stop i H/\D.nx σ H)\/(J.go i H/\∃N:St->Hp->Prop,(∀σ' H',N σ' H'->∃m',m'<m/\W (i+1) m' σ' H')/\∀x H',J.yld i H x H'->g x σ H' λσ2 H2=>tb {D with nx:=N,ct:=N,bk:=D.nx} σ2 H2)
noncomputable def pY(fp:List Addr)(h:Heap):List (Addr×Obj):=fp.filterMap λb=>(h.get? b).map λo=>(b,o)
theorem dB{o:Obj}(hb:b∈fp)(e:h.get? b=some o):(b,o)∈pY fp h:=LL.mpr ⟨b,hb,by rw[e];rfl⟩
theorem FP(hp:p∈pY fp h):p.1∈fp/\h.get? p.1=some p.2:=by
 obtain⟨b,hb,e⟩:=LL.mp hp;cases q:h.get? b with
 | none=>rw[q]at e;cases e
 | some o =>
  rw[q]at e;have e':(b,o)=p:=i7 e;subst e';exact⟨hb,q⟩
theorem Inv.pinned{H:Hp}{s:Shared}(I:Inv X Nn σ H s)(hf:∀b∈fp,gR X Nn H b)(ho:∀b∈fp,∃o,s.heap.get? b=some o/\∀v,o.data≠.cell v):Inv X (Nn++pY fp s.heap) σ H s:=
 I.pins_of λp hp=>(D0.mp hp).elim (λz=>I.pin p (r8 _ z)) λz=>by
  obtain⟨hb,e⟩:=FP z;obtain⟨f0,f1,f2,_⟩:=hf p.1 hb;obtain⟨o,e',d⟩:=ho p.1 hb;rw[e]at e';cases e'
  exact⟨e,f0,f1,f2,d⟩
theorem Inv.unpinned{pl:List (Addr×Obj)}{H:Hp}{s:Shared}(I:Inv X (Nn++pl) σ H s):Inv X Nn σ H s:=I.pins_of λp hp=>I.pin p (r8 _ (List.mem_append_left _ hp))
theorem dj{g:TG}(hp:PassesOwn (model X.prog X.w) X.A X.env X.xe)(hc:X.calm=true)(hi:PI X tg Nt wi)(hg:PG X tg g)(hb:NU X body tb)
  (hs:∀x,foldedSetIterable Nt X.env x=pure x:=by intro _;rfl):PS X (.For tg Nt body [] pos) (Z7 wi g tb):=by
 intro Nn s σ H D I h;refine wpAny_For (Nr (hi Nn s σ H _ I h) λv s1 h1=>Nr h1 λXp s2 h2=>?_) hs;obtain⟨it,fp,tn,J,H2,e,I2,T,P1,f2,W,⟨m0,w0⟩,turn⟩:=h2;subst e;have NS:∀{H':Hp},(∀b∈fp,H' b=none)->∀b∈fp,gR X Nn H' b:=λhn b hb=>⟨hn b hb,(f2 b hb).2⟩;refine codeAny_forLoop_any (λn s'=>∃i σ' H',Inv X Nn σ' H' s'/\tn i s'.heap/\(∀b∈fp,H' b=none)/\W i n σ' H') ?_ m0 ⟨0,σ,H2,I2,P1,λb hb=>(f2 b hb).1,w0⟩;rintro n s3 ⟨i,σ3,H3,I3,st3,fr3,w3⟩
 rcases turn i n σ3 H3 w3 with⟨stop,qn⟩ | ⟨go,N,hN,step⟩
 .refine G3 hp (Nr (T.done X rfl rfl rfl hc i Nn s3 σ3 H3 X.xe I3 (NS fr3) st3 stop) λr s4 zz=>?_);obtain⟨hr,I4⟩:=zz;subst hr;exact J9 ⟨σ3,H3,I4,qn⟩
 .refine G3 hp (Nr (T.item X rfl rfl rfl hc i Nn s3 σ3 H3 X.xe I3 (NS fr3) st3 go) λr s4 zz=>?_);obtain⟨u,hr,h4⟩:=zz;subst hr;refine G3 hp (Nr h4 λ_ s5 zz=>?_);obtain⟨x,H5,I5,r5,y5,O9,P5⟩:=zz;have I5':=I5.pinned (NS P5) (T.obj _ _ O9);refine G3 hp (Nr (hg _ s5 σ3 H5 x u _ I5' r5 (step x H5 y5)) λ_ s6 zz=>?_);obtain⟨σ6,H6,I6,q6⟩:=zz;refine G3 hp (Nr (hb _ s6 σ6 H6 _ I6 q6) λf s7 q7=>?_)
  have again:∀{σ7:St}{H7:Hp},Inv X (Nn++pY fp s5.heap) σ7 H7 s7->N σ7 H7->∃m,m<n/\∃i σ' H',Inv X Nn σ' H' s7/\tn i s7.heap/\(∀b∈fp,H' b=none)/\W i m σ' H':=λ{σ7 H7} I7 n7=>by
   obtain⟨m',hm,w7⟩:=hN σ7 H7 n7;refine⟨m',hm,i+1,σ7,H7,I7.unpinned,T.keep _ _ _ O9 λb hb o e=>(I7.pin (b,o) (r8 _ (r8 _ (dB hb e)))).1,λb hb=>?_,w7⟩;obtain⟨o,e,d⟩:=T.obj _ _ O9 b hb;exact(I7.pin (b,o) (r8 _ (r8 _ (dB hb e)))).2.1
  cases f with
  | next=>obtain⟨σ7,H7,I7,n7⟩:=q7;exact again I7 n7
  | cont=>obtain⟨σ7,H7,I7,n7⟩:=q7;exact again I7 n7
  | brk=>obtain⟨σ7,H7,I7,q7⟩:=q7;exact⟨σ7,H7,I7.unpinned,q7⟩
  | ret v=>obtain⟨x7,σ7,H7,I7,r7,q7⟩:=q7;exact⟨x7,σ7,H7,I7.unpinned,r7,q7⟩
end
theorem dY{K:W.Frag}{xs:List V}{g:TG}{H:Hp}(Pv:Nat->St->Hp->Prop)(h0:Pv 0 σ H)(hl:∀i σ H,i<=xs.length->Pv i σ H->Nq K H a xs)
  (hs:∀i x σ H,xs[i]?=some x->Pv i σ H->g x σ H λσ2 H2=>tb {D with nx:=Pv (i+1),ct:=Pv (i+1),bk:=D.nx} σ2 H2)(hd:∀σ H,Pv xs.length σ H->D.nx σ H) :
  ∃W:Nat->Nat->St->Hp->Prop,(∃m,W 0 m σ H)/\∀i m σ H,W i m σ H->
   ((PX K a).stop i H/\D.nx σ H)\/((PX K a).go i H/\∃N:St->Hp->Prop,(∀σ' H',N σ' H'->∃m',m'<m/\W (i+1) m' σ' H')/\∀x H',(PX K a).yld i H x H'->g x σ H' λσ2 H2=>tb {D with nx:=N,ct:=N,bk:=D.nx} σ2 H2):=by
 refine⟨λi m σ H=>m=xs.length-i/\i<=xs.length/\Pv i σ H,⟨xs.length,by simp,z5 _,h0⟩,?_⟩;rintro i m σ H ⟨rfl,hi,p⟩
 have q:=hl i σ H hi p
 by_cases Ny:i<xs.length
 .refine .inr ⟨⟨xs,xs[i],q,by simp[Ny]⟩,Pv (i+1),λσ' H' p'=>⟨xs.length-(i+1),by omega,rfl,Ny,p'⟩,λx H' y=>?_⟩;obtain⟨e,y⟩:=y;subst e;exact hs i x σ _ (y xs q) p
 .have e:i=xs.length:=by omega
  subst e;exact .inl ⟨⟨xs,q,f7 _⟩,hd σ H p⟩
theorem qh{g:TG}{H:Hp}(Pv:Nat->St->Hp->Prop)(h0:Pv 0 σ H)
  (hs:∀i σ H,i<n->Pv i σ H->g (.int (lo+i)) σ H λσ2 H2=>tb {D with nx:=Pv (i+1),ct:=Pv (i+1),bk:=D.nx} σ2 H2)(hd:∀σ H,Pv n σ H->D.nx σ H) :
  ∃W:Nat->Nat->St->Hp->Prop,(∃m,W 0 m σ H)/\∀i m σ H,W i m σ H->
   ((VD lo n).stop i H/\D.nx σ H)\/((VD lo n).go i H/\∃N:St->Hp->Prop,(∀σ' H',N σ' H'->∃m',m'<m/\W (i+1) m' σ' H')/\∀x H',(VD lo n).yld i H x H'->g x σ H' λσ2 H2=>tb {D with nx:=N,ct:=N,bk:=D.nx} σ2 H2):=by
 refine⟨λi m σ H=>m=n-i/\i<=n/\Pv i σ H,⟨n,by simp,z5 _,h0⟩,?_⟩;rintro i m σ H ⟨rfl,hi,p⟩
 by_cases Ny:i<n
 .refine .inr ⟨Ny,Pv (i+1),λσ' H' p'=>⟨n-(i+1),by omega,rfl,Ny,p'⟩,λx H' y=>?_⟩;obtain⟨e,y⟩:=y;subst e y;exact hs i σ _ Ny p
 .have e:i=n:=by omega
  subst e;exact .inl ⟨f7 _,hd σ H p⟩
noncomputable abbrev R2:=V->V->Hp->VK->Prop
def NJ(X:Cx)(f:Value->Value->Sem Value)(r:R2):Prop:=
 ∀(
  Nn:List (Addr×Obj)) (s:Shared) (σ:St) (H:Hp) (x y:V) (v u:Value) (Q:VK),Inv X Nn σ H s->RelV x v->RelV y u->r x y H Q->
  wpAny (model X.prog X.w) X.A (f v u) (EP X Nn σ Q) X.xe s
def UnR(X:Cx)(f:Value->Sem Value)(r:V->Hp->VK->Prop):Prop:=
 ∀(
  Nn:List (Addr×Obj)) (s:Shared) (σ:St) (H:Hp) (x:V) (v:Value) (Q:VK),Inv X Nn σ H s->RelV x v->r x H Q->
  wpAny (model X.prog X.w) X.A (f v) (EP X Nn σ Q) X.xe s
def eW(X:Cx)(f:Value)(r:List V->Hp->VK->Prop):Prop:=
 ∀(
  Nn:List (Addr×Obj)) (s:Shared) (σ:St) (H:Hp) (xs:List V) (us:List Value) (Q:VK),Inv X Nn σ H s->Vals xs us->r xs H Q->
  wpAny (model X.prog X.w) X.A (call f us) (EP X Nn σ Q) X.xe s
def TruR(X:Cx)(r:V->Hp->(Bool->Hp->Prop)->Prop):Prop:=
 ∀(
  Nn:List (Addr×Obj)) (s:Shared) (σ:St) (H:Hp) (x:V) (v:Value) (Q:Bool->Hp->Prop),Inv X Nn σ H s->RelV x v->r x H Q->
  wpAny (model X.prog X.w) X.A (truthy v) (TP X Nn σ Q) X.xe s
def Ws(r:R2)(ta tb:TE):TE:=λσ H Q=>ta σ H λx H1=>tb σ H1 λy H2=>r x y H2 Q
def tUn(r:V->Hp->VK->Prop)(ta:TE):TE:=λσ H Q=>ta σ H λx H1=>r x H1 Q
inductive XrI(C:Int->Int->Prop)(g:Int->Int->V)(x:V)(y:V)(H:Hp)(Q:VK):Prop where
 | mk (i:Int) (j:Int) (Wd:x=.int i) (Wc:y=.int j) (Zf:C i j) (Z0:Q (g i j) H):XrI C g x y H Q
def rI(C:Int->Int->Prop)(g:Int->Int->V):R2:=λx y H Q=>XrI C g x y H Q
inductive Y5(g:Int->Int->V)(x:V)(y:V)(H:Hp)(Q:VK):Prop where
 | mk (i:Int) (j:Int) (Wd:x=.int i) (Wc:y=.int j) (Zf:Q (g i j) H):Y5 g x y H Q
def Sz(g:Int->Int->V):R2:=λx y H Q=>Y5 g x y H Q
def rU(g:Int->V):V->Hp->VK->Prop:=λx H Q=>∃i,x=.int i/\Q (g i) H
section
variable{X:Cx}{a b c:Expr}{ta tb tc:TE}{pos:Pos}
theorem Vn(ha:PE X a ta)(hb:PE X b tb){s:Shared}{H:Hp}{R:V->V->Hp->Prop}(I:Inv X Nn σ H s)
  (h:ta σ H λx H1=>tb σ H1 λy H2=>R x y H2){Q:Value->Shared->Prop}
  (hf:∀v u s2 x y H2,Inv X Nn σ H2 s2->RelV x v->RelV y u->R x y H2->wpAny (model X.prog X.w) X.A (f v u) Q X.xe s2) :
  wpAny (model X.prog X.w) X.A (eval a X.env) (λv s₁=>wpAny (model X.prog X.w) X.A (eval b X.env) (λu s₂=>wpAny (model X.prog X.w) X.A (f v u) Q X.xe s₂) X.xe s₁) X.xe s:=by
 refine Nr (ha Nn s σ H _ I h) λv s1 zz=>?_;obtain⟨x,H1,I1,r1,q1⟩:=zz;refine Nr (hb Nn s1 σ H1 _ I1 q1) λu s2 zz=>?_;obtain⟨y,H2,I2,r2,q2⟩:=zz;exact hf v u s2 x y H2 I2 r1 r2 q2
theorem aO{op:Operator}(ho:NJ X (binaryOp op) r)(ha:PE X a ta)(hb:PE X b tb):PE X (.BinOp a op b pos) (Ws r ta tb):=by
 intro Nn s σ H Q I h;exact wpAny_BinOp (Vn ha hb I h λv u s2 x y H2 I2 rx ry q=>ho Nn s2 σ H2 x y v u Q I2 rx ry q)
theorem vT{op:UnaryOp}{r:V->Hp->VK->Prop}(ho:UnR X (unaryOp op) r)(ha:PE X a ta):PE X (.UnaryOp op a pos) (tUn r ta):=by
 intro Nn s σ H Q I h;refine UnaryOp_ (Nr (ha Nn s σ H _ I h) λv s1 zz=>?_);obtain⟨x,H1,I1,r1,q1⟩:=zz;exact ho Nn s1 σ H1 x v Q I1 r1 q1
theorem VO{C:Int->Int->Prop}{g:Int->Int->Int}
  (rule:∀(i j:Int)(t u:Tok)(s:Shared)(Q:Value->Shared->Prop)(E:Value->Shared->Prop),C i j->Q (.int (g i j) s.toks) {s with toks:=s.toks+1}->wpAny (model X.prog X.w) X.A (f (.int i t) (.int j u)) Q E s) :
  NJ X f (rI C λi j=>.int (g i j)):=by
 intro Nn s σ H x y v u Q I rx ry h;obtain⟨i,j,rfl,rfl,hc,q⟩:=h;obtain⟨t,rfl⟩:=rx;obtain⟨t',rfl⟩:=ry;exact rule i j t t' s _ _ hc ⟨.int (g i j),H,I.tok _,⟨_,rfl⟩,q⟩
theorem W8{g:Int->Int->Int}
  (rule:∀(i j:Int)(t u:Tok)(s:Shared)(Q:Value->Shared->Prop)(E:Value->Shared->Prop),Q (.int (g i j) s.toks) {s with toks:=s.toks+1}->wpAny (model X.prog X.w) X.A (f (.int i t) (.int j u)) Q E s) :
  NJ X f (Sz λi j=>.int (g i j)):=by
 intro Nn s σ H x y v u Q I rx ry h;obtain⟨i,j,rfl,rfl,q⟩:=h;obtain⟨t,rfl⟩:=rx;obtain⟨t',rfl⟩:=ry;exact rule i j t t' s _ _ ⟨.int (g i j),H,I.tok _,⟨_,rfl⟩,q⟩
theorem QX{g:Int->Int->Bool}
  (rule:∀(i j:Int)(t u:Tok)(s:Shared)(Q:Value->Shared->Prop)(E:Value->Shared->Prop),Q (.bool (g i j)) s->wpAny (model X.prog X.w) X.A (f (.int i t) (.int j u)) Q E s) :
  NJ X f (Sz λi j=>.bl (g i j)):=by
 intro Nn s σ H x y v u Q I rx ry h;obtain⟨i,j,rfl,rfl,q⟩:=h;obtain⟨t,rfl⟩:=rx;obtain⟨t',rfl⟩:=ry;exact rule i j t t' s _ _ ⟨.bl (g i j),H,I,rfl,q⟩
def CDiv(i j:Int):Prop:=0<j/\j<1073741824
def CPow(i j:Int):Prop:=0<=j/\j<=1000000/\i.natAbs<2^64
theorem gP:NJ X (binaryOp .Add) (Sz λi j=>.int (i+j)):=W8 λ_ _ _ _ _ _ _ q=>add_int q
theorem gN:NJ X (binaryOp .Sub) (Sz λi j=>.int (i-j)):=W8 λ_ _ _ _ _ _ _ q=>sub_int q
theorem xD:NJ X (binaryOp .FloorDiv) (rI CDiv λi j=>.int (i/j)):=VO λi j _ _ _ _ _ hc q=>by
 have h1:(0:Int)<j:=hc.1;have h2:j<1073741824:=hc.2;exact floordiv_int (by omega) (by rw[Int.fdiv_eq_ediv_of_nonneg i (by omega)];exact q) (.inl (PyProof.noPylong_small (by omega)))
theorem ja:NJ X (binaryOp .Mod) (rI (λ_ j=>0<j) λi j=>.int (i%j)):=VO λi j _ _ _ _ _ hc q=>by
 have h1:(0:Int)<j:=hc;exact mod_int' (by omega) (by rw[Int.fmod_eq_emod_of_nonneg i (by omega)];exact q)
theorem QU:NJ X (binaryOp .Mod) (rI (λ_ j=>j≠0) λi j=>.int (i.fmod j)):=VO λ_ _ _ _ _ _ _ hc q=>mod_int' hc q
theorem IM:NJ X (binaryOp .Pow) (rI CPow λi j=>.int (i^j.toNat)):=VO λ_ _ _ _ _ _ _ hc q=>pow_int_small hc.1 hc.2.1 hc.2.2 q
theorem unI{f:Value->Sem Value}{g:Int->Int}
  (rule:∀(i:Int)(t:Tok)(s:Shared)(Q:Value->Shared->Prop)(E:Value->Shared->Prop),Q (.int (g i) s.toks) {s with toks:=s.toks+1}->wpAny (model X.prog X.w) X.A (f (.int i t)) Q E s) :
  UnR X f (rU λi=>.int (g i)):=by
 intro Nn s σ H x v Q I rx h;obtain⟨i,rfl,q⟩:=h;obtain⟨t,rfl⟩:=rx;exact rule i t s _ _ ⟨.int (g i),H,I.tok _,⟨_,rfl⟩,q⟩
theorem pf:UnR X (unaryOp .USub) (rU λi=>.int (-i)):=unI λ_ _ _ _ _ q=>neg_int q
end
noncomputable def TN:V->V->Bool
 | .non,.non=>true | .non,.int _=>true | .int _,.non=>true | .non,.bl _=>true | .bl _,.non=>true | .non,.str _=>true | .str _,.non=>true
 | .int _,.int _=>true | .bl _,.bl _=>true | .str _,.str _=>true | .byt _,.byt _=>true
 | .int _,.str _=>true | .str _,.int _=>true | .bl _,.str _=>true | .str _,.bl _=>true
 | _,_=>false
def rEq:R2:=λx y H Q=>TN x y=true/\Q (.bl (decide (x=y))) H
def rNe:R2:=λx y H Q=>TN x y=true/\Q (.bl (!decide (x=y))) H
theorem En{i j:Int}:decide (V.int i=V.int j)=(i==j):=by
 rw[LH];simp
theorem Kh{i j:Bool}:decide (V.bl i=V.bl j)=(i==j):=by
 rw[LH];simp
theorem Em{i j:Str}:decide (V.str i=V.str j)=(i==j):=by
 rw[LH];simp
theorem Eo{i j:Array UInt8}:decide (V.byt i=V.byt j)=(i.toList==j.toList):=by
 rw[LH];cases i
 cases j
 simp
section
variable{X:Cx}{a b c:Expr}{ta tb tc:TE}{pos:Pos}
theorem bw{H:Hp}{s:Shared}{Q:VK}{k k':Bool}(I:Inv X Nn σ H s)(q:Q (.bl k) H)(e:k=k'):EP X Nn σ Q (.bool k') s:=by
 subst e;exact⟨.bl k,H,I,rfl,q⟩
theorem bf:NJ X (compareOp .Eq) rEq:=by
 intro Nn s σ H x y v u Q I rx ry h;obtain⟨hs,q⟩:=h;cases x with
 | non =>
  cases rx
  cases y with
  | non=>cases ry;exact PySem.EqNone.eq_none_none (bw I q (by simp))
  | bl j=>cases ry;exact PySem.EqNone.eq_none_bool (bw I q (by simp))
  | int j=>obtain⟨t',rfl⟩:=ry;exact PySem.EqNone.eq_none_int (bw I q (by simp))
  | str j=>obtain⟨t',rfl⟩:=ry;exact PySem.EqNone.eq_none_str (bw I q (by simp))
  | _=>exact absurd (show false=true from hs) i6
 | bl i =>
  cases rx
  cases y with
  | non=>cases ry;exact PySem.EqNone.eq_bool_none (bw I q (by simp))
  | bl j=>cases ry;exact eq_bool (bw I q Kh)
  | str j=>obtain⟨t',rfl⟩:=ry;exact PySem.EqMixed.eq_bool_str (bw I q (by simp))
  | _=>exact absurd (show false=true from hs) i6
 | int i =>
  obtain⟨t,rfl⟩:=rx;cases y with
  | non=>cases ry;exact PySem.EqNone.eq_int_none (bw I q (by simp))
  | int j=>obtain⟨t',rfl⟩:=ry;exact eq_int (bw I q En)
  | str j=>obtain⟨t',rfl⟩:=ry;exact PySem.EqMixed.eq_int_str (bw I q (by simp))
  | _=>exact absurd (show false=true from hs) i6
 | str i =>
  obtain⟨t,rfl⟩:=rx;cases y with
  | non=>cases ry;exact PySem.EqNone.eq_str_none (bw I q (by simp))
  | bl j=>cases ry;exact PySem.EqMixed.eq_str_bool (bw I q (by simp))
  | int j=>obtain⟨t',rfl⟩:=ry;exact PySem.EqMixed.eq_str_int (bw I q (by simp))
  | str j=>obtain⟨t',rfl⟩:=ry;exact eq_str (bw I q Em)
  | _=>exact absurd (show false=true from hs) i6
 | byt i =>
  obtain⟨t,rfl⟩:=rx;cases y with
  | byt j=>obtain⟨t',rfl⟩:=ry;exact PySem.W.eq_bytes (bw I q Eo)
  | _=>exact absurd (show false=true from hs) i6
 | _=>cases y<;>exact absurd (show false=true from hs) i6
theorem vW:NJ X (compareOp .NotEq) rNe:=by
 intro Nn s σ H x y v u Q I rx ry h;obtain⟨hs,q⟩:=h;cases x with
 | non =>
  cases rx
  cases y with
  | non=>cases ry;exact PySem.EqNone.ne_none_none (bw I q (by simp))
  | bl j=>cases ry;exact PySem.EqNone.ne_none_bool (bw I q (by simp))
  | int j=>obtain⟨t',rfl⟩:=ry;exact PySem.EqNone.ne_none_int (bw I q (by simp))
  | str j=>obtain⟨t',rfl⟩:=ry;exact PySem.EqNone.ne_none_str (bw I q (by simp))
  | _=>exact absurd (show false=true from hs) i6
 | bl i =>
  cases rx
  cases y with
  | non=>cases ry;exact PySem.EqNone.ne_bool_none (bw I q (by simp))
  | bl j=>cases ry;exact ne_bool (bw I q (y9 not Kh))
  | str j=>obtain⟨t',rfl⟩:=ry;exact PySem.EqMixed.ne_bool_str (bw I q (by simp))
  | _=>exact absurd (show false=true from hs) i6
 | int i =>
  obtain⟨t,rfl⟩:=rx;cases y with
  | non=>cases ry;exact PySem.EqNone.ne_int_none (bw I q (by simp))
  | int j=>obtain⟨t',rfl⟩:=ry;exact ne_int (bw I q (y9 not En))
  | str j=>obtain⟨t',rfl⟩:=ry;exact PySem.EqMixed.ne_int_str (bw I q (by simp))
  | _=>exact absurd (show false=true from hs) i6
 | str i =>
  obtain⟨t,rfl⟩:=rx;cases y with
  | non=>cases ry;exact PySem.EqNone.ne_str_none (bw I q (by simp))
  | bl j=>cases ry;exact PySem.EqMixed.ne_str_bool (bw I q (by simp))
  | int j=>obtain⟨t',rfl⟩:=ry;exact PySem.EqMixed.ne_str_int (bw I q (by simp))
  | str j=>obtain⟨t',rfl⟩:=ry;exact ne_str (bw I q (y9 not Em))
  | _=>exact absurd (show false=true from hs) i6
 | byt i =>
  obtain⟨t,rfl⟩:=rx;cases y with
  | byt j=>obtain⟨t',rfl⟩:=ry;exact PySem.W.ne_bytes (bw I q (y9 not Eo))
  | _=>exact absurd (show false=true from hs) i6
 | _=>cases y<;>exact absurd (show false=true from hs) i6
theorem mB:NJ X (compareOp .Lt) (Sz λi j=>.bl (decide (i<j))):=QX λ_ _ _ _ _ _ _ q=>lt_int q
theorem qK:NJ X (compareOp .LtE) (Sz λi j=>.bl (decide (i<=j))):=QX λ_ _ _ _ _ _ _ q=>le_int q
theorem vX:NJ X (compareOp .Gt) (Sz λi j=>.bl (decide (j<i))):=QX λ_ _ _ _ _ _ _ q=>gt_int q
theorem SH:NJ X (compareOp .GtE) (Sz λi j=>.bl (decide (j<=i))):=QX λ_ _ _ _ _ _ _ q=>ge_int q
theorem Fo:NJ X (compareOp .In) (λx y H Q=>∃i j,x=.str i/\y=.str j/\Q (.bl (!(Builtin.Str.occurrences j i 0 j.length 1).isEmpty)) H):=by
 intro Nn s σ H x y v u Q I rx ry h;obtain⟨i,j,rfl,rfl,q⟩:=h;obtain⟨t,rfl⟩:=rx;obtain⟨t',rfl⟩:=ry;exact in_str (bw I q rfl)
theorem tN:NJ X (compareOp .Is) (λx y H Q=>y=.non/\Q (.bl (decide (x=.non))) H):=by
 intro Nn s σ H x y v u Q I rx ry h;obtain⟨rfl,q⟩:=h;cases ry
 refine is_none_gen (bw I q ?_)
 cases x<;>first
  | (cases rx;rfl)
  | (obtain⟨t,rfl⟩:=rx;rfl)
theorem rN:NJ X (compareOp .IsNot) (λx y H Q=>y=.non/\Q (.bl (!decide (x=.non))) H):=by
 intro Nn s σ H x y v u Q I rx ry h;obtain⟨rfl,q⟩:=h;cases ry
 refine isnot_none_gen (bw I q ?_)
 cases x<;>first
  | (cases rx;rfl)
  | (obtain⟨t,rfl⟩:=rx;rfl)
theorem aE(b:Expr)(h:op≠.In:=by decide)(h2:op≠.NotIn:=by decide):behindInMarks op b=false:=by
 have e1:(op==CmpOp.In)=false:=by cases op<;>first | rfl | exact absurd rfl h
 have e2:(op==CmpOp.NotIn)=false:=by cases op<;>first | rfl | exact absurd rfl h2
 cases b<;>simp[behindInMarks,e1,e2]
theorem cZ(ho:NJ X (compareOp op) r)(ha:PE X a ta)(hb:PE X b tb)(hm:behindInMarks op b=false):PE X (.Compare a [op] [b] pos) (Ws r ta tb):=by
 intro Nn s σ H Q I h;exact wpAny_Compare1 (Vn ha hb I h λv u s2 x y H2 I2 rx ry q=>ho Nn s2 σ H2 x y v u Q I2 rx ry q) hm
def Sj(t:TE):TT:=λσ H Q=>t σ H λx H'=>V4 x λk=>Q k H'
theorem aB(ho:NJ X (compareOp op) r)(ha:PE X a ta)(hb:PE X b tb)(hm:behindInMarks op b=false):PT X (.Compare a [op] [b] pos) (Sj (Ws r ta tb)):=by
 intro Nn s σ H Q I h
 refine wpAny_isTrue_Compare1 (Nr (ha Nn s σ H _ I h) λv s1 ⟨x,H1,I1,r1,q1⟩=>Nr (hb Nn s1 σ H1 _ I1 q1) λu s2 ⟨y,H2,I2,r2,q2⟩ =>
  Nr (ho Nn s2 σ H2 x y v u _ I2 r1 r2 q2) λc s3 ⟨z,H3,I3,r3,k,e,q3⟩=>?_) hm
 subst e;cases r3
 exact B0 ⟨H3,I3,q3⟩
def HR(r r':R2)(ta tb tc:TE):TE:=λσ H Q=>ta σ H λx H1=>tb σ H1 λy H2=>r x y H2 λz H3=>∃k,z=.bl k/\
 (if k=true then tc σ H3 λw' H4=>r' y w' H4 Q else Q (.bl false) H3)
theorem tM(ho:NJ X (compareOp op) r)(Oz:NJ X (compareOp VP) r')(ha:PE X a ta)(hb:PE X b tb)(hc:PE X c tc)
  (hm:lastMarks [op,VP] [b,c]=false:=by with_unfolding_all rfl):PE X (.Compare a [op,VP] [b,c] pos) (HR r r' ta tb tc):=by
 intro Nn s σ H Q I h
 refine Compare_chain (Nr (ha Nn s σ H _ I h) λv s1 ⟨x,H1,I1,r1,q1⟩=>chain_link (Nr (hb Nn s1 σ H1 _ I1 q1) λu s2 ⟨y,H2,I2,r2,q2⟩ =>
  Nr (ho Nn s2 σ H2 x y v u _ I2 r1 r2 q2) λd s3 ⟨z,H3,I3,r3,k,e,q3⟩=>?_)) hm
 subst e;cases r3
 refine B0 ?_;cases k with
 | false=>exact ite_ff ⟨.bl false,H3,I3,rfl,q3⟩
 | true=>exact ite_tt (chain_last (Nr (hc Nn s3 σ H3 _ I3 q3) λw' s4 ⟨z',H4,I4,r4,q4⟩=>Oz Nn s4 σ H4 y z' u w' Q I4 r2 r4 q4))
theorem Iv(ho:NJ X (compareOp op) r)(Oz:NJ X (compareOp VP) r')(ha:PE X a ta)(hb:PE X b tb)(hc:PE X c tc)
  (hm:lastMarks [op,VP] [b,c]=false:=by with_unfolding_all rfl):PT X (.Compare a [op,VP] [b,c] pos) (Sj (HR r r' ta tb tc)):=by
 intro Nn s σ H Q I h
 refine isTrue_chain (Nr (ha Nn s σ H _ I h) λv s1 ⟨x,H1,I1,r1,q1⟩=>test_link (Nr (hb Nn s1 σ H1 _ I1 q1) λu s2 ⟨y,H2,I2,r2,q2⟩ =>
  Nr (ho Nn s2 σ H2 x y v u _ I2 r1 r2 q2) λd s3 ⟨z,H3,I3,r3,k,e,q3⟩=>?_)) hm
 subst e;cases r3
 refine B0 ?_;cases k with
 | false =>
  obtain⟨k',e',q'⟩:=q3;cases e'
  exact ite_ff ⟨H3,I3,q'⟩
 | true =>
  refine ite_tt (test_last (Nr (hc Nn s3 σ H3 _ I3 q3) λw' s4 zz=>?_));obtain⟨z',H4,I4,r4,q4⟩:=zz;refine Nr (Oz Nn s4 σ H4 y z' u w' _ I4 r2 r4 q4) λd' s5 zz=>?_;obtain⟨z2,H5,I5,r5,k2,e2,q5⟩:=zz;subst e2;cases r5
  exact B0 ⟨H5,I5,q5⟩
def Y7(K:W.Frag)(x:V)(H:Hp)(k:Bool):Prop:=
 match x with
 | .non=>k=false
 | .bl b=>k=b
 | .int i=>k=(i != 0)
 | .str y=>y.length<=sizeLine/\k=((y.length:Int) != 0)
 | .byt y=>y.size<=sizeLine/\k=((y.size:Int) != 0)
 | .ref p=>(∃xs,Nq K H p xs/\k = !xs.isEmpty)\/(∃xs,Nv K H p xs/\k = !xs.isEmpty)\/∃Np,H p=some (.dK Np)/\k = !Np.isEmpty
 | _=>False
theorem BZ{κ:Type}{Np:List (κ×V)}{vs:List (κ×Value)}(r:KV Np vs):(!vs.isEmpty) = !Np.isEmpty:=by
 cases r<;>rfl
theorem uc{xs:List V}(r:Vals xs its):(!its.toArray.isEmpty) = !xs.isEmpty:=by
 cases r<;>simp
theorem xK:(sizeLine:Nat)<2^63:=by rw[F3];decide
theorem Tg:TruR X (λx H Q=>∃k,Y7 X.K x H k/\Q k H):=by
 intro Nn s σ H x v Q I rx h;obtain⟨k,e,q⟩:=h;have hl:=xK;have hs:sizeLine=16777216:=F3;cases x with
 | non =>
  cases rx
  have e':k=false:=e;subst e';exact truthy_none ⟨H,I,q⟩
 | bl b =>
  cases rx
  have e':k=b:=e;subst e';exact B0 ⟨H,I,q⟩
 | int i =>
  obtain⟨t,rfl⟩:=rx;have e':k=(i != 0):=e;subst e';exact PySem.P.truthy_int ⟨H,I,q⟩
 | str y =>
  obtain⟨t,rfl⟩:=rx;obtain⟨hy,e'⟩:y.length<=sizeLine/\k=((y.length:Int) != 0):=e;subst e';exact PySem.P.truthy_str (by omega) ⟨H,I.tok _,q⟩
 | byt y =>
  obtain⟨t,rfl⟩:=rx;obtain⟨hy,e'⟩:y.size<=sizeLine/\k=((y.size:Int) != 0):=e;subst e';exact PySem.W.truthy_bytes (by omega) ⟨H,I.tok _,q⟩
 | ref p =>
  cases rx
  have e':(∃xs,Nq X.K H p xs/\k = !xs.isEmpty)\/(∃xs,Nv X.K H p xs/\k = !xs.isEmpty)\/∃Np,H p=some (.dK Np)/\k = !Np.isEmpty:=e;rcases e' with⟨xs,hx,e'⟩ | ⟨xs,hx,e'⟩ | ⟨Np,hx,e'⟩
  .subst e';obtain⟨its,r,pl,hz⟩:=I.list hx;have hlen:=r.length;exact wpAny_truthy_list pl.isList (by simp only[i8];omega) ⟨H,I.tok _,by rw[uc r];exact q⟩
  .subst e';obtain⟨its,r,pl,hz⟩:=I.tuple hx;have hlen:=r.length;exact truthy_tuple pl (by simp only[i8];omega) ⟨H,I.tok _,by rw[uc r];exact q⟩
  .subst e';obtain⟨hz,hS,vs,r,m⟩:Np.length<=sizeLine/\(p==sysModules)=false/\∃vs,KV Np vs/\s.heap.DictOf (bN X.prog X.w) p vs:=I.hok p _ hx;have hlen:Np.length=vs.length:=MY r;exact wpAny_truthy_dict hS m (by omega) ⟨H,I.tok _,by rw[BZ r];exact q⟩
 | _=>exact(show False from e).elim
theorem kU(ha:PE X a ta)(he:∀whole,isTrue a X.env whole=(do let v <- whole;standAt a.pos;holding [v] (truthy v))) :
  PT X a (λσ H Q=>ta σ H λx H'=>∃k,Y7 X.K x H' k/\Q k H'):=by
 intro Nn s σ H Q I h;refine isTrue_plain (Nr (ha Nn s σ H _ I h) λv s1 zz=>?_) (he _);obtain⟨x,H1,I1,r1,q1⟩:=zz;exact Tg Nn s1 σ H1 x v Q I1 r1 q1
theorem bS:NJ X (binaryOp .Add) (λx y H Q=>∃i j,x=.str i/\y=.str j/\i.length+j.length<=sizeLine/\Q (.str (i++j)) H):=by
 intro Nn s σ H x y v u Q I rx ry h;obtain⟨i,j,rfl,rfl,hz,q⟩:=h;obtain⟨t,rfl⟩:=rx;obtain⟨t',rfl⟩:=ry;exact add_str (λt' tk=>⟨.str (i++j),H,I.tok _,⟨_,rfl⟩,q⟩) hz
theorem vals1{x:V}(r:Vals [x] us):∃u,us=[u]/\RelV x u:=by
 cases r with
 | cons r1 r2=>cases r2;exact⟨_,rfl,r1⟩
theorem vals2{x y:V}(r:Vals [x,y] us):∃u w',us=[u,w']/\RelV x u/\RelV y w':=by
 cases r with
 | cons r1 r2 =>
  cases r2 with
  | cons r3 r4=>cases r4;exact⟨_,_,rfl,r1,r3⟩
theorem uo:eW X (.builtin "abs") (λxs H Q=>∃i,xs=[.int i]/\Q (.int (if i<0 then -i else i)) H):=by
 intro Nn s σ H xs us Q I r h;obtain⟨i,rfl,q⟩:=h;obtain⟨u,rfl,t,rfl⟩:=vals1 r;exact call_abs_int λu tk=>⟨.int (if i<0 then -i else i),H,I.tok _,⟨_,rfl⟩,q⟩
theorem lZ(hc:X.calm=true):eW X (.builtin "max") (λxs H Q=>∃i j,xs=[.int i,.int j]/\Q (.int (if j>i then j else i)) H):=by
 intro Nn s σ H xs us Q I r h;obtain⟨i,j,rfl,q⟩:=h;obtain⟨u,w',rfl,⟨t,rfl⟩,⟨t',rfl⟩⟩:=vals2 r;refine max_two_ints (I.ok.hd hc) λh' tk k=>⟨_,H,I.kept k,?_,q⟩
 by_cases hj:j>i
 .rw[k9 hj,k9 hj];exact⟨_,rfl⟩
 .rw[h9 hj,h9 hj];exact⟨_,rfl⟩
theorem jJ(hc:X.calm=true):eW X (.builtin "min") (λxs H Q=>∃i j,xs=[.int i,.int j]/\Q (.int (if j<i then j else i)) H):=by
 intro Nn s σ H xs us Q I r h;obtain⟨i,j,rfl,q⟩:=h;obtain⟨u,w',rfl,⟨t,rfl⟩,⟨t',rfl⟩⟩:=vals2 r;refine min_two_ints (I.ok.hd hc) λh' tk k=>⟨_,H,I.kept k,?_,q⟩
 by_cases hj:j<i
 .rw[k9 hj,k9 hj];exact⟨_,rfl⟩
 .rw[h9 hj,h9 hj];exact⟨_,rfl⟩
theorem GJ:eW X (.type "int") (λxs H Q=>(∃i,xs=[.int i]/\Q (.int i) H)\/∃k,xs=[.bl k]/\Q (.int (if k then 1 else 0)) H):=by
 intro Nn s σ H xs us Q I r h;rcases h with⟨i,rfl,q⟩ | ⟨k,rfl,q⟩
 .obtain⟨u,rfl,t,rfl⟩:=vals1 r;exact call_int_int ⟨.int i,H,I,⟨_,rfl⟩,q⟩
 .obtain⟨u,rfl,r1⟩:=vals1 r;cases r1
  exact call_int_bool ⟨.int (if k then 1 else 0),H,I.tok _,⟨_,rfl⟩,q⟩
theorem xZ:eW X (.type "str") (λxs H Q=>∃i,xs=[.int i]/\i.natAbs.log2<1920/\Q (.str (toString i)) H):=by
 intro Nn s σ H xs us Q I r h;obtain⟨i,rfl,hz,q⟩:=h;obtain⟨u,rfl,t,rfl⟩:=vals1 r;exact PySem.P.str_of_int hz ⟨.str _,H,I.tok _,⟨_,rfl⟩,q⟩
def LenV(K:W.Frag)(x:V)(H:Hp)(n:Nat):Prop:=
 match x with
 | .str y=>y.length<=sizeLine/\n=y.length
 | .byt y=>y.size<=sizeLine/\n=y.size
 | .ref p=>(∃xs,Nq K H p xs/\n=xs.length)\/∃xs,Nv K H p xs/\n=xs.length
 | _=>False
theorem bR:eW X (.builtin "len") (λxs H Q=>∃x n,xs=[x]/\LenV X.K x H n/\Q (.int n) H):=by
 intro Nn s σ H xs us Q I r h;obtain⟨x,n,rfl,e,q⟩:=h;obtain⟨u,rfl,rx⟩:=vals1 r;have hl:=xK;have hs:sizeLine=16777216:=F3;cases x with
 | str y =>
  obtain⟨t,rfl⟩:=rx;obtain⟨hy,e'⟩:y.length<=sizeLine/\n=y.length:=e;subst e';exact len_str (by omega) ⟨.int _,H,I.tok _,⟨_,rfl⟩,q⟩
 | byt y =>
  obtain⟨t,rfl⟩:=rx;obtain⟨hy,e'⟩:y.size<=sizeLine/\n=y.size:=e;subst e';exact PySem.W.len_bytes (by omega) ⟨.int _,H,I.tok _,⟨_,rfl⟩,q⟩
 | ref p =>
  cases rx
  have e':(∃xs,Nq X.K H p xs/\n=xs.length)\/∃xs,Nv X.K H p xs/\n=xs.length:=e;rcases e' with⟨xs,hx,e'⟩ | ⟨xs,hx,e'⟩
  .subst e';obtain⟨its,r',pl,hz⟩:=I.list hx;have hlen:=r'.length;exact Calls.call_len_list pl.isList (by simp only[i8];omega) ⟨.int xs.length,H,I.tok _,⟨_,by simp only[i8];rw[hlen]⟩,q⟩
  .subst e';obtain⟨its,r',pl,hz⟩:=I.tuple hx;have hlen:=r'.length;exact len_tuple pl (by simp only[i8];omega) ⟨.int xs.length,H,I.tok _,⟨_,by simp only[i8];rw[hlen]⟩,q⟩
 | _=>exact(show False from e).elim
end
structure CJ(h:Heap)(x dx C:Addr)(mA:Str->Option Value):Prop where
 obj:h.get? x=some (PySem.W.instObj C dx)
 ns:h.Ns1 dx mA
 ne:dx≠x
theorem qf(n:h.Ns1 dx mA):∃od,h.get? dx=some od/\∀name,PySem.W.lookIn name od=some (mA name):=by
 obtain⟨o,es,ep,ho,hd,hk,_,hm⟩:=n;refine⟨o,ho,λname=>?_⟩;have e:=hm name;unfold nsFind findBy at e;rw[<- Array.find?_toList]at e;unfold PySem.W.lookIn;rw[hd];dsimp only;split
 .rename_i y q;rw[q]at e;exact y9 some e
 .rename_i q;rw[q]at e
  have a:es.toList.any (·.refKey)=false:=by
   rw[List.any_eq_false];intro y hy;obtain⟨z,t,hkey⟩:=hk y (Array.mem_toList_iff.mp hy);simp[DictEntry.refKey,hkey]
  have a':¬es.toList.any (·.refKey)=true:=by rw[a];exact i6
  rw[h9 a'];exact y9 some e
theorem CJ.look{x:Addr}(I:CJ h x dx C mA):∃od,PySem.W.InstAt h x (PySem.W.instObj C dx) C (some od)/\∀name,PySem.W.lookIn name od=some (mA name):=
 let ⟨od,ho,hl⟩:=qf I.ns
 ⟨od,⟨I.obj,rfl,rfl,ho⟩,hl⟩
section
variable{prog:Program}{w:World}{A:Around}{E:Value->Shared->Prop}{s:Shared}{K:W.Frag}{x dx C f:Addr}{mA:Str->Option Value}{name:Str}{v:Value}
theorem get_map{Q:Value->Shared->Prop}(X:K.In s.heap)(I:CJ s.heap x dx C mA)(hg:PySem.W.plainGet K C name=true)(hh:PySem.W.hasDictIn K C=true)
  (ha:PySem.W.findIn K (.ref C) name=some none)(hv:mA name=some v)(hv':PySem.W.handedIn v=true)(h:Q v {s with toks:=s.toks+1}) :
  wpAny (model prog w) A (getAttr (.ref x) name expr) Q E s:=by
 obtain⟨od,J,hl⟩:=I.look;exact PySem.W.get_value X J (Mt hg).1 (PySem.W.findObj_own hh ha rfl (by rw[hl,hv])) hv' h
theorem JX{Q:Value×List Value->Shared->Prop}(X:K.In s.heap)(I:CJ s.heap x dx C mA)(hg:PySem.W.plainGet K C name=true)
  (hf:PySem.W.findIn K (.ref C) name=some (some (.ref f)))(ht:PySem.W.isFn K (.ref f)=true)(hv:mA name=none)(h:Q (.ref f,[.ref x]) s) :
  wpAny (model prog w) A (getMethod (.ref x) name pl) Q E s:=by
 obtain⟨od,J,hl⟩:=I.look;exact PySem.W.method_fn X J (Mt hg).1 (Mt hg).2 hf (D4.mp ht) (by show(PySem.W.lookIn name od).map (·.isSome)=some false;rw[hl,hv];rfl) h
theorem Qw{Q:Unit->Shared->Prop}(X:K.In s.heap)(I:CJ s.heap x dx C mA)
  (hs:PySem.W.findIn K (.ref C) "__setattr__"=some (some (.builtin "object.__setattr__")))(hp:PySem.W.plainOver K C=true)(ht:PySem.W.takerIn K C name=some none)(hh:PySem.W.hasDictIn K C=true)
  (hw:PySem.Within mA ns)(hsz:ns.length<=sizeLine)
  (h:∀h',CJ h' x dx C (λy=>if y=name then some v else mA y)->Heap.SameBut dx s.heap h'->Q () {s with heap:=h',toks:=s.toks+2}) :
  wpAny (model prog w) A (setAttr (.ref x) name v) Q E s:=by
 obtain⟨od,J,hl⟩:=I.look;refine PySem.W.set_plain X J hs (PySem.W.osa_open (s:={s with toks:=s.toks+1}) (r:=none) X J hp ht λb=>?_)
 obtain⟨cd,hc,X4⟩:=PySem.W.any_some hh;have hx:s.heap.get? x=some ⟨.ref C,some dx,.plain,#[]⟩:=I.obj;refine b6 (f6 (b6 (b6 (LQ hx (b6 (PySem.W.Looks.here (s:={s with toks:=s.toks+1}) (PySem.W.looks_clsIn X hc) ?_))))))
 rw[X4];refine f6 (a:=some dx) (b6 (f6 (b6 ?_)));refine wpAny_nsSet1 (s:={s with toks:=s.toks+1}) I.ns λh' Pd Od=>?_
 obtain⟨oD,esD,epD,XR,X3,X5⟩:=Pd.count (MR name v hw);refine b6 (M6 XR (by rw[X3];exact M7 (h8 X5 (by rw[k8];omega))) ?_);exact f6 (h _ ⟨(Od.2 _ (B8 I.ne)).trans I.obj,Pd,I.ne⟩ Od)
theorem JG{vs:List Value}(X:K.In s.heap)(hm:PySem.W.makesIn K C=true)
  (hi:PySem.W.findIn K (.ref C) "__init__"=some (some (.ref f)))(hf:PySem.W.typeIn K (.ref f)=some (.type "function"))
  (h:codeAny (model prog w) (A.under (.builtin "type.__call__" ⟨.ref C::vs,kw⟩)) (.call (.ref f) ⟨.ref (s.heap.objs.size+1)::vs,kw⟩) (PySem.W.InitBack (s.heap.objs.size+1) R)
   {s with heap:=(s.heap.push PySem.W.emptyDict).push (PySem.W.instObj C s.heap.objs.size) }) :
  codeAny (model prog w) A (.call (.ref C) ⟨vs,kw⟩) R s:=by
 obtain⟨hh,g,d,t,os⟩:=s;exact PySem.W.make_core (M8 X hm) (PySem.W.looks_findIn X hi) (λself=>PySem.W.bind_fn X self hf) (.inl rfl) h
theorem Gg(X:K.In s.heap)(hm:PySem.W.makesIn K C=true)
  (hi:PySem.W.findIn K (.ref C) "__init__"=some (some (.builtin "object.__init__")))
  (hb:∀self,PySem.W.Looks (model prog w) s.heap (bindSpecial (.builtin "object.__init__") self) (.builtin "object.__init__",[self]))
  (h:codeAny (model prog w) (A.under (.builtin "type.__call__" ⟨[.ref C],[]⟩)) (.call (.builtin "object.__init__") ⟨[.ref (s.heap.objs.size+1)],[]⟩) (PySem.W.InitBack (s.heap.objs.size+1) R)
   {s with heap:=(s.heap.push PySem.W.emptyDict).push (PySem.W.instObj C s.heap.objs.size) }) :
  codeAny (model prog w) A (.call (.ref C) ⟨[],[]⟩) R s:=by
 obtain⟨hh,g,d,t,os⟩:=s;exact PySem.W.make_core (M8 X hm) (PySem.W.looks_findIn X hi) hb (.inr ⟨rfl,rfl⟩) h
end
noncomputable def iH(f:Str)(v:V):List (Str×V)->List (Str×V)
 | []=>[(f,v)]
 | (g,x)::r=>if g=f then(g,v)::r else(g,x)::iH f v r
theorem kZ(f g:Str)(v:V):∀fs:List (Str×V),(iH f v fs).lookup g=if g=f then some v else fs.lookup g
 | []=>by
  show List.lookup g [(f,v)]=_
  by_cases h:g=f
  .have hb:(g==f)=true:=D4.mpr h;simp only[List.lookup,hb,k9 h]
  .have hb:(g==f)=false:=B9.mpr h;simp only[List.lookup,hb,h9 h]
 | (k,x)::r=>by
  have ih:=kZ f g v r;rw[show iH f v ((k,x)::r)=(if k=f then(k,v)::r else(k,x)::iH f v r) from rfl]
  by_cases hk:k=f
  .rw[k9 hk]
   by_cases h:g=k
   .have hb:(g==k)=true:=D4.mpr h;simp only[List.lookup,hb,k9 (h.trans hk)]
   .have hb:(g==k)=false:=B9.mpr h;simp only[List.lookup,hb,h9 (λe:g=f=>h (e.trans hk.symm))]
  .rw[h9 hk]
   by_cases h:g=k
   .have hb:(g==k)=true:=D4.mpr h;simp only[List.lookup,hb,h9 (λe:g=f=>hk (h.symm.trans e))]
   .have hb:(g==k)=false:=B9.mpr h;simp only[List.lookup,hb];exact ih
theorem jH(f:Str)(v:V):∀fs:List (Str×V),f∈(iH f v fs).map (·.1)/\∀g,g∈fs.map (·.1)->g∈(iH f v fs).map (·.1)
 | []=>⟨by simp[iH],λg h=>by simp at h⟩
 | (k,x)::r=>by
  obtain⟨i1,i2⟩:=jH f v r;rw[show iH f v ((k,x)::r)=(if k=f then(k,v)::r else(k,x)::iH f v r) from rfl]
  by_cases hk:k=f
  .rw[k9 hk];subst hk;exact⟨by simp,λg h=>by simpa using h⟩
  .rw[h9 hk];refine⟨?_,λg h=>?_⟩
   .rw[v7];exact p8 _ i1
   .rw[v7]at h ⊢;rcases j8.mp h with e | e
    .exact j8.mpr (.inl e)
    .exact p8 _ (i2 g e)
theorem lg(f:Str)(v:V):∀fs:List (Str×V),(iH f v fs).length<=fs.length+1
 | []=>by simp[iH]
 | (k,x)::r=>by
  have ih:=lg f v r;rw[show iH f v ((k,x)::r)=(if k=f then(k,v)::r else(k,x)::iH f v r) from rfl]
  by_cases hk:k=f
  .rw[k9 hk,k8,k8];omega
  .rw[h9 hk,k8,k8];omega
theorem jM.some_of{v:V}{o:Option Value}(r:jM (some v) o):∃u,o=some u/\RelV v u:=by
 cases o with
 | none=>exact(show False from r).elim
 | some u=>exact⟨u,rfl,r⟩
theorem jM.none_of{o:Option Value}(r:jM none o):o=none:=by
 cases o with
 | none=>rfl
 | some u=>exact(show False from r).elim
theorem wk{v:V}(r:RelV v u):PySem.W.handedIn u=true:=by
 cases v with
 | non=>cases(show u=Value.none from r);rfl
 | bl b=>cases(show u=Value.bool b from r);rfl
 | int i=>obtain⟨t,e⟩:=(show ∃t,u=Value.int i t from r);cases e;rfl
 | str x=>obtain⟨t,e⟩:=(show ∃t,u=Value.str x t from r);cases e;rfl
 | byt b=>obtain⟨t,e⟩:=(show ∃t,u=Value.bytes b t from r);cases e;rfl
 | flt b=>obtain⟨t,e⟩:=(show ∃t,u=Value.float b t from r);cases e;rfl
 | ref a=>cases(show u=Value.ref a from r);rfl
 | ty n=>cases(show u=Value.type n from r);rfl
section
variable{P:Program}{w:World}{H H':Hp}{h h':Heap}{a C dx:Addr}{fs YA:List (Str×V)}
theorem rT(hok:NP P w H h)(e:H a=some (.ins C dx fs)):∃mA,CJ h a dx C mA/\(∀f,jM (fs.lookup f) (mA f))/\PySem.Within mA (fs.map (·.1))/\fs.length<=1000/\H dx=some (.own a):=by
 obtain⟨d,z,ne,ob,mA,n,r,q⟩:=(show bj P w H h a (.ins C dx fs) from hok a _ e);exact⟨mA,⟨ob,n,ne⟩,r,q,z,d⟩
end
structure Cls(K:W.Frag)(C:Addr):Prop where
 pg:PySem.W.plainGet K C Str.empty=true
 hd:PySem.W.hasDictIn K C=true
 po:PySem.W.plainOver K C=true
 sa:PySem.W.findIn K (.ref C) "__setattr__"=some (some (.builtin "object.__setattr__"))
theorem Cls.get{K:W.Frag}(c:Cls K C)(f:Str):PySem.W.plainGet K C f=true:=c.pg
def bh(K:W.Frag)(C:Addr)(f:Str):Prop:=PySem.W.findIn K (.ref C) f=some none
theorem bh.taker{K:W.Frag}{f:Str}(n:bh K C f):PySem.W.takerIn K C f=some none:=by
 unfold PySem.W.takerIn;rw[show PySem.W.findIn K (.ref C) f=some none from n];rfl
structure Meth(K:W.Frag)(C:Addr)(m:Str)(f:Addr):Prop where
 at_:PySem.W.findIn K (.ref C) m=some (some (.ref f))
 fn:PySem.W.isFn K (.ref f)=true
 kp:PySem.W.keepIn K (.ref f)=true
section
variable{X:Cx}{Nn:List (Addr×Obj)}{σ:St}{H:Hp}{s:Shared}{a C dx:Addr}{fs:List (Str×V)}{f:Str}{v:V}{A:Around}{E:Value->Shared->Prop}
theorem Cb{b:Bool}{Q:Value->Shared->Prop}(I:Inv X Nn σ H s)(e:H a=some (.ins C dx fs))(c:Cls X.K C)(n:bh X.K C f)(l:fs.lookup f=some v)
  (h:∀u s',Inv X Nn σ H s'->RelV v u->Q u s'):wpAny (model X.prog X.w) A (getAttr (.ref a) f b) Q E s:=by
 obtain⟨mA,O,r,_,_,_⟩:=rT I.hok e;obtain⟨u,hu,ru⟩:=jM.some_of (v:=v) (o:=mA f) (by rw[<- l];exact r f);exact get_map I.kIn O (c.get f) c.hd n hu (wk ru) (h u _ (I.tok _) ru)
theorem iI{m:Str}{g:Addr}{Q:Value×List Value->Shared->Prop}(I:Inv X Nn σ H s)(e:H a=some (.ins C dx fs))(c:Cls X.K C)(k:Meth X.K C m g)(l:fs.lookup m=none)
  (h:Q (.ref g,[.ref a]) s):wpAny (model X.prog X.w) A (getMethod (.ref a) m pl) Q E s:=by
 obtain⟨mA,O,r,_,_,_⟩:=rT I.hok e;have hn:mA m=none:=jM.none_of (by rw[<- l];exact r m);exact JX I.kIn O (c.get m) k.at_ k.fn hn h
theorem Bk{y:V}{Q:Unit->Shared->Prop}(I:Inv X Nn σ H s)(e:H a=some (.ins C dx fs))(c:Cls X.K C)(n:bh X.K C f)(hl:fs.length<1000)(ry:RelV y u)
  (h:∀s',Inv X Nn σ (upd H a (.ins C dx (iH f y fs))) s'->Q () s'):wpAny (model X.prog X.w) A (setAttr (.ref a) f u) Q E s:=by
 obtain⟨mA,O,r,wi,_,ho⟩:=rT I.hok e;have hz:(fs.map (·.1)).length<=sizeLine:=by rw[g6,F3];omega
 refine Qw I.kIn O c.sa c.po n.taker c.hd wi hz λh' O' sb=>h _ ?_;have hd:∃o,h'.get? dx=some o:=let ⟨o,_,_,e',_⟩:=O'.ns;⟨o,e'⟩;refine I.write (x:=a) (e:=dx) (by rw[e];exact True.intro) (.inr ho) (λb q hb z=>(sb.2 b hb).trans z) hd ?_;refine⟨by rw[aj O.ne];exact ho,?_,O.ne,O'.obj,_,O'.ns,λg=>?_,λg hg=>?_⟩
 .have:=lg f y fs;omega
 .show jM ((iH f y fs).lookup g) (if g=f then some u else mA g);rw[kZ]
  by_cases q:g=f
  .rw[k9 q,k9 q];exact ry
  .rw[h9 q,h9 q];exact r g
 .by_cases q:g=f
  .rw[q];exact(jH f y fs).1
  .refine(jH f y fs).2 g (wi g λz=>hg ?_);show(if g=f then some u else mA g)=none;rw[h9 q];exact z
theorem Inv.made(I:Inv X Nn σ H s):Inv X Nn σ (upd (upd H s.heap.objs.size (.own (s.heap.objs.size+1))) (s.heap.objs.size+1) (.ins C s.heap.objs.size []))
  {s with heap:=(s.heap.push PySem.W.emptyDict).push (PySem.W.instObj C s.heap.objs.size) }:=by
 have e1:(s.heap.push PySem.W.emptyDict).get? s.heap.objs.size=some PySem.W.emptyDict:=g7 s.heap rfl
 have e2:((s.heap.push PySem.W.emptyDict).push (PySem.W.instObj C s.heap.objs.size)).get? (s.heap.objs.size+1)=some (PySem.W.instObj C s.heap.objs.size):=by
  have:=g7 (s.heap.push PySem.W.emptyDict) (o:=PySem.W.instObj C s.heap.objs.size) rfl
  rwa [A7]at this
 have e3:(s.heap.push PySem.W.emptyDict).Ns s.heap.objs.size (λ_=>none):=⟨PySem.W.emptyDict,#[],_,e1,rfl,(λe he=>absurd he (by simp)),λ_=>rfl⟩;have I1:=I.laid (a:=s.heap.objs.size) (o:=.own (s.heap.objs.size+1)) (h':=s.heap.push PySem.W.emptyDict) (t':=s.toks) (λb u q=>e9 _ q) (f7 _) ⟨_,e1⟩;refine I1.laid (a:=s.heap.objs.size+1) (o:=.ins C s.heap.objs.size []) (t':=s.toks) (λb u q=>e9 _ q) (Nat.le_of_eq (A7 _ _)) ?_;have ne:s.heap.objs.size≠s.heap.objs.size+1:=v3 (Lq _);refine⟨by rw[aj ne,ae],z5 _,ne,e2,λ_=>none,(Heap.Ns1.of_empty e3).at λo q=>e9 _ q,λ_=>True.intro,λy hy=>absurd rfl hy⟩
theorem Eu{w:World}{Q:Value->Shared->Prop}(hb:attributeBase e f env (eval e env)=eval e env)
  (h:wpAny (model prog w) A (eval e env) (λo s₁=>wpAny (model prog w) A (getAttr o f true) Q E s₁) E s):wpAny (model prog w) A (eval (.Attribute e f pos) env) Q E s:=
 Attribute_any_ h (by rw[arm_eval_Attribute,hb])
end
def Wz(K:W.Frag)(ta:TE)(f:Str):TE:=λσ H Q=>ta σ H λx H1=>∃a C dx fs v,x=.ref a/\H1 a=some (.ins C dx fs)/\Cls K C/\bh K C f/\fs.lookup f=some v/\Q v H1
def sFld(K:W.Frag)(ta tv:TE)(f:Str):TS:=λD σ H=>tv σ H λy H1=>ta σ H1 λx H2=>∃a C dx fs,x=.ref a/\H2 a=some (.ins C dx fs)/\Cls K C/\bh K C f/\fs.length<1000/\
 D.nx σ (upd H2 a (.ins C dx (iH f y fs)))
section
variable{X:Cx}{o e value:Expr}{f:Str}{pos pos' NL:Pos}{ta tv:TE}
theorem dw(he:PE X e ta)(hb:attributeBase e f X.env (eval e X.env)=eval e X.env):PE X (.Attribute e f pos) (Wz X.K ta f):=by
 intro Nn s σ H Q I h;refine Eu hb (Nr (he Nn s σ H _ I h) λu s1 zz=>?_);obtain⟨x,H1,I1,rx,a,C,dx,fs,v,ex,ea,c,n,l,q⟩:=zz;subst ex;obtain rfl:u=Value.ref a:=rx;exact Cb I1 ea c n l λu' s2 I2 ru=>⟨v,H1,I2,ru,q⟩
theorem tK(ha:PE X o ta)(hv:PE X value tv)(hs:swapsWith value (some (.Attribute o f pos')) pos.line X.env=pure false):PS X (.Assign [.Attribute o f pos'] value pos) (sFld X.K ta tv f):=by
 intro Nn s σ H D I h;refine L7 (Nr (hv Nn s σ H _ I h) λu s1 zz=>?_) hs;obtain⟨y,H1,I1,ry,q⟩:=zz;refine Nr (ha Nn s1 σ H1 _ I1 q) λov s2 zz=>?_;obtain⟨x,H2,I2,rx,a,C,dx,fs,ex,ea,c,n,l,q2⟩:=zz;subst ex;obtain rfl:ov=Value.ref a:=rx;exact Bk I2 ea c n l ry λs3 I3=>⟨σ,_,I3,q2⟩
end
section
variable{X:Cx}{Nn:List (Addr×Obj)}{σ:St}{H:Hp}{s:Shared}{A:Around}{E:Value->Shared->Prop}{Q:Value->Shared->Prop}{c:Value}{b:Bool}
inductive jL(K:W.Frag)(H:Hp):V->Value->Prop where
 | non:jL K H .non (.type "NoneType")
 | bl (x:Bool):jL K H (.bl x) (.type "bool")
 | int (i:Int):jL K H (.int i) (.type "int")
 | str (x:Str):jL K H (.str x) (.type "str")
 | flt (x:UInt64):jL K H (.flt x) (.type "float")
 | lst {a:Addr} {xs:List V} (e:H a=some (.lst xs)):jL K H (.ref a) (.type "list")
 | frz {a:Addr} {o:Obj} {xs:List V} (e:H a=some (.frz o (.lst xs))):jL K H (.ref a) (.type "list")
 | tup {a:Addr} {xs:List V} (e:H a=some (.tup xs)):jL K H (.ref a) (.type "tuple")
 | dK {a:Addr} {Np:List (Key×V)} (e:H a=some (.dK Np)):jL K H (.ref a) (.type "dict")
 | dT {a:Addr} {Np:List (List Key×V)} (e:H a=some (.dT Np)):jL K H (.ref a) (.type "dict")
 | ins {a C dx:Addr} {fs:List (Str×V)} (e:H a=some (.ins C dx fs)) (cl:Cls K C) (ha:PySem.W.findIn K (.ref C) "__class__"=some (some (.builtin "object.__class__")))
   (hn:PySem.W.specialIn K (.builtin "object.__class__") "__get__"=some (some (.builtin "getset_descriptor.__get__"))) (htk:PySem.W.takesIn K (.builtin "object.__class__")=some true)
   (hm:PySem.W.mroIn K C (.type "object")=some true):jL K H (.ref a) (.ref C)
theorem Gn{x:V}{t:Value}(I:Inv X Nn σ H s)(rx:RelV x u)(ty:jL X.K H x t)(e:PySem.W.kitOne X.K t c=some b)(h:∀tk,Q (.bool b) {s with toks:=tk}) :
  wpAny (model X.prog X.w) A (call (.builtin "isinstance") [u,c]) Q E s:=by
 cases ty with
 | non=>cases(show u=Value.none from rx);exact B6 PySem.W.kitx_none I.kIn True.intro e (λz=>nomatch z) h
 | bl y=>cases(show u=Value.bool y from rx);exact B6 PySem.W.kitx_bool I.kIn True.intro e (λz=>nomatch z) h
 | int i=>obtain⟨t,q⟩:=(show ∃t,u=Value.int i t from rx);cases q;exact B6 PySem.W.kitx_int I.kIn True.intro e (λz=>nomatch z) h
 | str y=>obtain⟨t,q⟩:=(show ∃t,u=Value.str y t from rx);cases q;exact B6 PySem.W.kitx_str I.kIn True.intro e (λz=>nomatch z) h
 | flt y=>obtain⟨t,q⟩:=(show ∃t,u=Value.float y t from rx);cases q;exact B6 PySem.W.kitx_float I.kIn True.intro e (λz=>nomatch z) h
 | @lst a xs ea =>
  cases(show u=Value.ref a from rx)
  obtain⟨_,_,n,_,h1⟩:=(show bj X.prog X.w H s.heap a (.lst xs) from I.hok a _ ea);exact B6 PySem.W.kitx_list I.kIn ⟨_,h1,rfl⟩ e (λz=>nomatch z) h
 | @frz a ob xs ea =>
  cases(show u=Value.ref a from rx)
  obtain⟨_,_,_,n,_,h1⟩:=(show bj X.prog X.w H s.heap a (.frz ob (.lst xs)) from I.hok a _ ea);exact B6 PySem.W.kitx_list I.kIn ⟨_,h1,rfl⟩ e (λz=>nomatch z) h
 | @tup a xs ea =>
  cases(show u=Value.ref a from rx)
  obtain⟨_,_,_,p⟩:=(show bj X.prog X.w H s.heap a (.tup xs) from I.hok a _ ea);obtain⟨o,h1,h2,_⟩:=p;exact B6 PySem.W.kitx_tuple I.kIn ⟨o,h1,h2⟩ e (λz=>nomatch z) h
 | @dK a Np ea =>
  cases(show u=Value.ref a from rx)
  obtain⟨_,_,vs,_,p⟩:=(show bj X.prog X.w H s.heap a (.dK Np) from I.hok a _ ea);obtain⟨o,es,ep,h1,h2,_⟩:=p;exact B6 PySem.W.kitx_dict I.kIn ⟨o,h1,h2.1⟩ e (λz=>nomatch z) h
 | @dT a Np ea =>
  cases(show u=Value.ref a from rx)
  obtain⟨_,_,xs,_,o,es,ep,h1,h2,_⟩:=(show bj X.prog X.w H s.heap a (.dT Np) from I.hok a _ ea);exact B6 PySem.W.kitx_dict I.kIn ⟨o,h1,h2.1⟩ e (λz=>nomatch z) h
 | @ins a C dx fs ea cl ha hn htk hm =>
  cases(show u=Value.ref a from rx)
  obtain⟨mA,O,_⟩:=rT I.hok ea;obtain⟨od,J,_⟩:=O.look;exact B6 (PySem.W.kitx_own (cl.get _) cl.hd ha hn htk hm) I.kIn J e (λz=>nomatch z) h
end
structure bX(k:Nat)(A:Around):Prop where
 hd:A.handled=none
 dp:A.depth+3*k+5<recursionLimit
 un:A.units+16*k+200<cLine
theorem bX.mono{j k:Nat}(r:bX k A)(h:j<=k):bX j A:=⟨r.hd,by have:=r.dp;omega,by have:=r.un;omega⟩
theorem bX.deeper{k:Nat}(r:bX (k+1) A)(env:Env):bX k (A.deeper env):=
 ⟨r.hd,by have:=r.dp;show A.depth+1+3*k+5<_;omega,by have:=r.un;show A.units+3+16*k+200<_;omega⟩
theorem BW:(A.under (.builtin "type.__call__" ⟨.ref C::us,kw⟩)).depth=A.depth+1:=by
 first | rfl | simp[Around.under,Code.weight,Code.isCreation,Code.isGuard,Code.isCaller,Code.frames,Code.isFrame,guardIds]
theorem BV:(A.under (.builtin "type.__call__" ⟨.ref C::us,kw⟩)).units=A.units+1:=by
 first | rfl | simp[Around.under,Code.cUnits,Code.frames,Code.isFrame]
theorem bX.make{k:Nat}(r:bX (k+1) A)(C:Addr)(us:List Value)(kw:List (Str×Value)):bX k (A.under (.builtin "type.__call__" ⟨.ref C::us,kw⟩)):=
 ⟨r.hd,by have:=r.dp;rw[BW];omega,by have:=r.un;rw[BV];omega⟩
theorem bX.depth{k:Nat}(r:bX k A):A.depth<recursionLimit:=by have:=r.dp;omega
theorem bX.units{k:Nat}(r:bX k A):A.units+64<cLine:=by have:=r.un;omega
def nG:TA:=λ_ H Q=>Q [] H
def gg(ta:TE)(tr:TA):TA:=λσ H Q=>ta σ H λx H1=>tr σ H1 λxs H2=>Q (x::xs) H2
section
variable{X:Cx}{e:Expr}{es:List Expr}{te:TE}{t:TA}{pos:Pos}
theorem af:PA X [] nG:=λ_ _ _ _ H Q I h=>C3 ⟨[],H,I,.nil,h⟩
theorem aa(ha:PE X e te)(hr:PA X es t)(hs:starEach (e::es) X.env=(false,eval e X.env)::starEach es X.env:=by rfl):PA X (e::es) (gg te t):=by
 intro pos Nn s σ H Q I h;rw[hs];show wpAny _ _ (spliced ((false,eval e X.env)::backTo pos (starEach es X.env))) _ _ s;refine A2 (Nr (ha Nn s σ H _ I h) λu s1 zz=>?_);obtain⟨x,H1,I1,r1,q1⟩:=zz;refine Nr (hr pos Nn s1 σ H1 _ I1 q1) λus s2 zz=>?_;obtain⟨xs,H2,I2,r2,q2⟩:=zz;exact⟨x::xs,H2,I2,.cons r1 r2,q2⟩
def Wm(t:TA):TE:=λσ H Q=>t σ H λxs H1=>xs.length<=sizeLine/\∀p,H1 p=none->Q (.ref p) (upd H1 p (.tup xs))
def Wv(t:TA):TE:=λσ H Q=>t σ H λxs H1=>xs.length<=sizeLine/\∀p,H1 p=none->Q (.ref p) (upd H1 p (.lst xs))
theorem bu{x1}(h:PA X es t):PE X (.Tuple es x1 pos) (Wm t):=by
 intro Nn s σ H Q I hq;refine wpAny_Tuple_spliced (Nr (h pos Nn s σ H _ I hq) λus s1 zz=>?_);obtain⟨xs,H1,I1,r,z,q⟩:=zz;refine⟨by rw[<- r.length];exact z,?_⟩;have hf:H1 s1.heap.objs.size=none:=I1.hok.fresh (f7 _);refine⟨.ref s1.heap.objs.size,upd H1 s1.heap.objs.size (.tup xs),I1.laid (t':=s1.toks) (λb u e=>e9 _ e) (f7 _) ?_,rfl,q _ hf⟩;exact⟨z,us,r,⟨_,g7 _ rfl,rfl,_,rfl⟩⟩
theorem bg(h:PA X es t):PE X (.List es pos) (Wv t):=by
 intro Nn s σ H Q I hq;refine wpAny_List_spliced (Nr (h pos Nn s σ H _ I hq) λus s1 zz=>?_);obtain⟨xs,H1,I1,r,z,q⟩:=zz;refine⟨by rw[<- r.length];exact z,?_⟩;have hf:H1 s1.heap.objs.size=none:=I1.hok.fresh (f7 _);refine⟨.ref s1.heap.objs.size,upd H1 s1.heap.objs.size (.lst xs),I1.laid (t':=s1.toks) (λb u e=>e9 _ e) (f7 _) ?_,rfl,q _ hf⟩;exact⟨z,us,0,r,g7 _ rfl⟩
end
noncomputable abbrev Sp:=List V->Hp->VK->XK->Prop
noncomputable abbrev OZ:=List Env->Hp->Shared->XK->Value->Shared->Prop
structure CQ(P:Program)(w:World)(K:W.Frag)(mg:Str->Option Value)(base:Heap)(A:Around)(outer:List Env)(s:Shared)(H:Hp):Prop where
 frames:A.frames=some outer
 mod:Mod K mg base
 bs:∀b o,base.get? b=some o->s.heap.get? b=some o/\H b=none
 bsz:base.objs.size<=s.heap.objs.size
 funs:s.heap.FunFrames base outer
 frf:∀b∈NG outer,H b=none
 hok:NP P w H s.heap
 bare:AllBare s.gens
def CE(outer:List Env)(P:Program)(w:World)(H:Hp)(s:Shared)(Q:VK)(u:Value)(s':Shared):Prop:=
 ∃v H',s'.os=s.os/\AllBare s'.gens/\Un (NG outer) [] H H' s.heap s'.heap/\NP P w H' s'.heap/\RelV v u/\Q v H'
def CR(CX:OZ)(outer:List Env)(P:Program)(w:World)(H:Hp)(s:Shared)(Q:VK)(E:XK)(r:Result)(s':Shared):Prop:=
 match r with
 | .ok (.ret u)=>CE outer P w H s Q u s'
 | .ok _=>False
 | .error e=>CX outer H s E e s'
structure gS(P:Program)(w:World)(K:W.Frag)(mg:Str->Option Value)(base:Heap)(CX:OZ)(k:Nat)(f:Addr)(fd:FuncData)(ps:List Str)(sp:Sp):Prop where
 len:∀vs H Q E,sp vs H Q E->vs.length=ps.length
 run:∀(A:Around)(outer:List Env)(s:Shared)(H:Hp)(args:Args)(us:List Value)(vs:List V)(Q:VK)(E:XK),bX k A->CQ P w K mg base A outer s H->BindsTo s fd args (ps.zip us)->Vals vs us->sp vs H Q E->
  codeAny (model P w) A (.call (.ref f) args) (CR CX outer P w H s Q E) s
theorem CQ.make{P:Program}{w:World}{K:W.Frag}{outer:List Env}{s:Shared}{H:Hp}(e:CQ P w K mg base A outer s H)(C:Addr)(us:List Value)(kw:List (Str×Value)) :
  CQ P w K mg base (A.under (.builtin "type.__call__" ⟨.ref C::us,kw⟩)) outer s H:=⟨by first | exact e.frames | (simpa [Around.under,Code.envs,Code.isFrame,pushEnvs] using e.frames),e.mod,e.bs,e.bsz,e.funs,e.frf,e.hok,e.bare⟩
section
variable{X:Cx}{Nn:List (Addr×Obj)}{σ:St}{H:Hp}{s s':Shared}
theorem Inv.env0(I:Inv X Nn σ H s):CQ X.prog X.w X.K X.mg X.base X.A X.stack s H:=
 ⟨I.ok.frames,I.ok.mod,I.bs,h8 I.ok.bsz I.sz,I.stack,I.stkFree,I.hok,I.bare⟩
theorem Inv.after{Q:VK}(I:Inv X Nn σ H s)(h:CE X.stack X.prog X.w H s Q u s'):EP X Nn σ Q u s':=by
 obtain⟨v,H',os,bare,un,hok,r,q⟩:=h;obtain⟨hh,g,d,t,os'⟩:=s';obtain rfl:os'=s.os:=os;exact⟨v,H',I.call (h':=hh) (g':=g) (d':=d) (t':=t) (ch:=[]) un hok bare (λb z=>absurd z (by simp)),r,q⟩
end
def yA(sp:Sp)(dvs:List V)(E:XK)(t:TA):TE:=λσ H Q=>t σ H λvs H1=>sp (vs++dvs) H1 Q E
def Dk(C:Addr)(sp:Sp)(dvs:List V)(E:XK)(t:TA):TE:=λσ H Q=>t σ H λvs H1=>∀x dx,H1 x=none->H1 dx=none->dx≠x->
 sp (.ref x::(vs++dvs)) (upd (upd H1 dx (.own x)) x (.ins C dx [])) (λv H2=>v=.non/\Q (.ref x) H2) E
def Binds(K:W.Frag)(fd:FuncData)(ps:List Str)(ds:List Value):Prop:=
 ∀(s:Shared)(us:List Value),K.In s.heap->(us++ds).length=ps.length->BindsTo s fd ⟨us,[]⟩ (ps.zip (us++ds))
theorem Binds.all{K:W.Frag}(h:∀us:List Value,us.length=ps.length->bindArgs fd ⟨us,[]⟩=pure (ps.zip us)):Binds K fd ps []:=λs us _ hl=>by
 rw[A6]at hl ⊢;exact .of_eq (h us hl)
def Passes(CX:OZ)(X:Cx)(E:XK):Prop:=∀(Nn:List (Addr×Obj))(σ:St)(H:Hp)(s:Shared)(e:Value)(s':Shared),Inv X Nn σ H s->CX X.stack H s E e s'->X.xe e s'
section
variable{X:Cx}{CX:OZ}{k:Nat}{f C:Addr}{fd:FuncData}{ps:List Str}{sp:Sp}{dvs:List V}{ds:List Value}{E:XK}{x m:Str}{p pos apos:Pos}{e o:Expr}{es:List Expr}{ta:TE}{t:TA}
theorem pV{H:Hp}{s:Shared}{Q:VK}{vs:List V}(F:gS X.prog X.w X.K X.mg X.base CX k f fd ps sp)(hr:bX k X.A)(hb:Binds X.K fd ps ds)(hd:Vals dvs ds)(hx:Passes CX X E)
  (I:Inv X Nn σ H s)(r:Vals vs us)(h:sp (vs++dvs) H Q E):wpAny (model X.prog X.w) X.A (call (.ref f) us) (EP X Nn σ Q) X.xe s:=by
 have r2:Vals (vs++dvs) (us++ds):=r.append hd;have hl:(us++ds).length=ps.length:=by rw[<- r2.length];exact F.len _ _ _ _ h
 refine Li (J5 (F.run X.A X.stack s H ⟨us,[]⟩ (us++ds) (vs++dvs) Q E hr I.env0 (hb s us I.kIn hl) r2 h) λr s' hq=>?_);cases r with
 | error e=>exact hx Nn σ H s e s' I hq
 | ok fl =>
  cases fl with
  | ret u=>exact I.after hq
  | next=>exact False.elim hq
  | brk=>exact False.elim hq
  | cont=>exact False.elim hq
theorem DV(F:gS X.prog X.w X.K X.mg X.base CX k f fd ps sp)(hr:bX k X.A)(hg:Gl X x)(hm:X.mg x=some (.ref f))(hk:PySem.W.keepIn X.K (.ref f)=true)(hb:Binds X.K fd ps ds)(hd:Vals dvs ds)(hx:Passes CX X E)
  (ha:PA X (e::es) t)(NO:(x==("__debug__":Str))=false:=by decide)(he:starEach (e::es) X.env=(false,eval e X.env)::starEach es X.env:=by rfl)(NR:(backTo pos (starEach es X.env)).any (·.1)=false:=by rfl) :
  PE X (.Call (.Name x p) (e::es) [] pos) (yA sp dvs E t):=by
 intro Nn s σ H Q I h;refine z7 (dN I hg hm ?_ NO);refine F7 (h₀:=X.base) I.ok.mod.kin hk (Nr (ha pos Nn s σ H _ I h) λus s1 zz=>?_) he NR;obtain⟨vs,H1,I1,r,q⟩:=zz;refine⟨I1.kIn,?_⟩;exact pV F hr hb hd hx I1 r q
theorem IJ(F:gS X.prog X.w X.K X.mg X.base CX k f fd ps sp)(hr:bX k X.A)(hg:Gl X x)(hm:X.mg x=some (.ref f))(hk:PySem.W.keepIn X.K (.ref f)=true)(hb:Binds X.K fd ps ds)(hd:Vals dvs ds)(hx:Passes CX X E)
  (NO:(x==("__debug__":Str))=false:=by decide):PE X (.Call (.Name x p) [] [] pos) (yA sp dvs E nG):=by
 intro Nn s σ H Q I h;refine z7 (dN I hg hm ?_ NO);exact Lw I.kIn hk (pV (us:=[]) F hr hb hd hx I .nil h)
structure Mk(K:W.Frag)(C f:Addr):Prop where
 makes:PySem.W.makesIn K C=true
 init:PySem.W.findIn K (.ref C) "__init__"=some (some (.ref f))
 fn:PySem.W.isFn K (.ref f)=true
 kp:PySem.W.keepIn K (.ref C)=true
theorem zf{H:Hp}{s:Shared}{Q:VK}{vs:List V}(M:Mk X.K C f)(F:gS X.prog X.w X.K X.mg X.base CX k f fd ps sp)(hr:bX (k+1) X.A)(hb:Binds X.K fd ps ds)(hd:Vals dvs ds)
  (hx:Passes CX X E)(I:Inv X Nn σ H s)(r:Vals vs us)
  (h:∀x dx,H x=none->H dx=none->dx≠x->sp (.ref x::(vs++dvs)) (upd (upd H dx (.own x)) x (.ins C dx [])) (λv H2=>v=.non/\Q (.ref x) H2) E) :
  wpAny (model X.prog X.w) X.A (call (.ref C) us) (EP X Nn σ Q) X.xe s:=by
 have hq:=h (s.heap.objs.size+1) s.heap.objs.size (I.hok.fresh (J3 _)) (I.hok.fresh (f7 _)) (v3 (Lq _));have I2:=Inv.made (C:=C) I;have r2:Vals (V.ref (s.heap.objs.size+1)::(vs++dvs)) (Value.ref (s.heap.objs.size+1)::(us++ds)):=.cons rfl (r.append hd)
 have hl:(Value.ref (s.heap.objs.size+1)::us++ds).length=ps.length:=by
  have e:=r2.length;rw[F.len _ _ _ _ hq]at e;exact e.symm
 refine Li (JG (f:=f) I.kIn M.makes M.init (D4.mp M.fn) (J5 (F.run _ X.stack _ _ ⟨Value.ref (s.heap.objs.size+1)::us,[]⟩ (Value.ref (s.heap.objs.size+1)::(us++ds)) _ _ E (hr.make C us [])
  (I2.env0.make C us []) (hb _ (Value.ref (s.heap.objs.size+1)::us) I2.kIn hl) r2 hq) λr s' XJ=>?_))
 cases r with
 | error e=>exact hx Nn σ _ _ e s' I2 XJ
 | ok fl =>
  cases fl with
  | ret u =>
   obtain⟨v,H',I3,rv,ev,q3⟩:=I2.after XJ;subst ev;exact⟨rv,⟨V.ref (s.heap.objs.size+1),H',I3,rfl,q3⟩⟩
  | next=>exact False.elim XJ
  | brk=>exact False.elim XJ
  | cont=>exact False.elim XJ
theorem QO(M:Mk X.K C f)(F:gS X.prog X.w X.K X.mg X.base CX k f fd ps sp)(hr:bX (k+1) X.A)(hg:Gl X x)(hm:X.mg x=some (.ref C))(hb:Binds X.K fd ps ds)(hd:Vals dvs ds)(hx:Passes CX X E)
  (ha:PA X (e::es) t)(NO:(x==("__debug__":Str))=false:=by decide)(he:starEach (e::es) X.env=(false,eval e X.env)::starEach es X.env:=by rfl)(NR:(backTo pos (starEach es X.env)).any (·.1)=false:=by rfl) :
  PE X (.Call (.Name x p) (e::es) [] pos) (Dk C sp dvs E t):=by
 intro Nn s σ H Q I h;refine z7 (dN I hg hm ?_ NO);refine F7 (h₀:=X.base) I.ok.mod.kin M.kp (Nr (ha pos Nn s σ H _ I h) λus s1 zz=>?_) he NR;obtain⟨vs,H1,I1,r,q⟩:=zz;refine⟨I1.kIn,?_⟩;exact zf M F hr hb hd hx I1 r q
theorem IG(M:Mk X.K C f)(F:gS X.prog X.w X.K X.mg X.base CX k f fd ps sp)(hr:bX (k+1) X.A)(hg:Gl X x)(hm:X.mg x=some (.ref C))(hb:Binds X.K fd ps ds)(hd:Vals dvs ds)(hx:Passes CX X E)
  (NO:(x==("__debug__":Str))=false:=by decide):PE X (.Call (.Name x p) [] [] pos) (Dk C sp dvs E nG):=by
 intro Nn s σ H Q I h;refine z7 (dN I hg hm ?_ NO);exact Lw I.kIn M.kp (zf (us:=[]) M F hr hb hd hx I .nil h)
end
section
variable{X:Cx}{CX:OZ}{k:Nat}{f C:Addr}{fd:FuncData}{ps ks:List Str}{sp:Sp}{E:XK}{x m:Str}{p pos apos kpos:Pos}{e o:Expr}{es:List Expr}{kws:List Keyword}{te ta:TE}{t tk:TA}{nm:Option Str}
variable{g:List Value->List Value->List Value}{gV:List V->List V->List V}
end
structure ao(N P:List Str)(sc:Scope):Prop where
 kind:sc.kind=.function
 co:sc.isCoroutine=false
 gen:sc.isGenerator=false
 nd:N.Nodup
 pre:N.take P.length=P
 par:∀x∈P,sc.names.lookup x=some .local\/sc.names.lookup x=some .cell
 nofree:∀y∈sc.names,y.2≠.free
theorem fsc{P:List Str}(k:sc.kind=.function:=by rfl)(h:(sc.isCoroutine=false)/\(sc.isGenerator=false)/\(N.Nodup)/\(N.take P.length=P)/\(∀x∈P,sc.names.lookup x=some .local\/sc.names.lookup x=some .cell)/\(∀y∈sc.names,y.2≠.free):=by decide+kernel):ao N P sc:=⟨k,h.1,h.2.1,h.2.2.1,h.2.2.2.1,h.2.2.2.2.1,h.2.2.2.2.2⟩
theorem wD:∀{binds:List (Str×Value)}{m:Str->Option Value},(∀v,(x,v) ∉ binds)->bindL kindOf binds m x=m x
 | [],_,_=>rfl
 | (n,v)::r,m,h=>by
  unfold bindL;rw[wD λw hw=>h w (p8 _ hw)];split
  .have:x≠n:=by rintro rfl;exact h v B5
   simp[this]
  .rfl
theorem wG:∀{binds:List (Str×Value)}{m:Str->Option Value},(∀v,(x,v) ∉ binds)->bindC kindOf binds m x=m x
 | [],_,_=>rfl
 | (n,v)::r,m,h=>by
  unfold bindC;rw[wG λw hw=>h w (p8 _ hw)];split
  .rfl
  .have:x≠n:=by rintro rfl;exact h v B5
   simp[this]
theorem wF{v:Value}:∀{P:List Str}{vs:List Value}{i:Nat}{m:Str->Option Value},P.Nodup->P[i]?=some x->vs[i]?=some v->kindOf x=some .local->
  bindL kindOf (P.zip vs) m x=some v
 | [],_,_,_,_,h,_,_=>by simp at h
 | _::_,[],_,_,_,_,h,_=>by simp at h
 | p::P,w::vs,0,m,nd,h1,h2,hk=>by
  simp at h1 h2;subst h1;subst h2;show bindL kindOf ((p,w)::P.zip vs) m p=_;unfold bindL;rw[wD λv hv=>(Mo.mp nd).1 (Mp hv).1,k9 hk];simp
 | p::P,w::vs,i+1,m,nd,h1,h2,hk=>by
  show bindL kindOf ((p,w)::P.zip vs) m x=_;unfold bindL;exact wF (i:=i) (Mo.mp nd).2 (by simpa using h1) (by simpa using h2) hk
theorem wH{v:Value}:∀{P:List Str}{vs:List Value}{i:Nat}{m:Str->Option Value},P.Nodup->P[i]?=some x->vs[i]?=some v->kindOf x≠some .local->
  bindC kindOf (P.zip vs) m x=some v
 | [],_,_,_,_,h,_,_=>by simp at h
 | _::_,[],_,_,_,_,h,_=>by simp at h
 | p::P,w::vs,0,m,nd,h1,h2,hk=>by
  simp at h1 h2;subst h1;subst h2;show bindC kindOf ((p,w)::P.zip vs) m p=_;unfold bindC;rw[wG λv hv=>(Mo.mp nd).1 (Mp hv).1,h9 hk];simp
 | p::P,w::vs,i+1,m,nd,h1,h2,hk=>by
  show bindC kindOf ((p,w)::P.zip vs) m x=_;unfold bindC;exact wH (i:=i) (Mo.mp nd).2 (by simpa using h1) (by simpa using h2) hk
noncomputable def start(N:List Str)(vs:List V):St:=vs.map some++List.replicate (N.length-vs.length) none
noncomputable def bM(CX:OZ)(P:Program)(w:World)(K:W.Frag)(mg:Str->Option Value)(base:Heap)(N:List Str)(qual:Str)(scope:Scope)(f:Addr)(cd:Value)(A:Around)(outer:List Env)(s:Shared)(H:Hp)(E:XK):Cx where
 prog:=P
 w:=w
 K:=K
 mg:=mg
 base:=base
 A:=A.deeper (envOfC qual scope s.heap.objs.size f cd)
 N:=N
 s₀:=s
 H₀:=H
 env:=envOfC qual scope s.heap.objs.size f cd
 outer:=outer
 stack:=envOfC qual scope s.heap.objs.size f cd::outer
 ex:=[]
 calm:=true
 fn:=λ_=>true
 pn:=[]
 xe:=λe s'=>wpAny (model P w) (A.deeper (envOfC qual scope s.heap.objs.size f cd)) («leaving» (envOfC qual scope s.heap.objs.size f cd) e) (λ_ TR=>CX outer H s E e TR) (λe' TR=>CX outer H s E e' TR) s'
theorem Ah(h:sc.names.lookup x=some .cell):∃c,(cellsFrom n sc.names []).lookup x=some c:=by
 have q:=PySem.W.cellsFrom_some sc.names n [] (.inl h);exact G8.mp q
theorem Gp{CX:OZ}{P:Program}{w:World}{K:W.Frag}{f:Addr}{outer:List Env}{s s1:Shared}{H:Hp}{E:XK}{vs:List V}
  (S:ao N ps scope)(hd:A.handled=none)(e0:CQ P w K mg base A outer s H)(hl:vs.length=ps.length)(r:Vals vs us)
  (x:InCallC s s.heap.objs.size (bindL (envOfC qual scope s.heap.objs.size f cd).kindOf (ps.zip us) λ_=>none) (cellsFrom (s.heap.objs.size+1) scope.names []) (bindC (envOfC qual scope s.heap.objs.size f cd).kindOf (ps.zip us) λ_=>none) s1) :
  Inv (bM CX P w K mg base N qual scope f cd A outer s H E) [] (start N vs) H s1:=by
 have NR:ps.length<=N.length:=by have:=y9 List.length S.pre;rw[F5]at this;omega
 obtain⟨h1,tk,rfl,hk⟩:=x.done;have Xd:∀b:Addr,b ∉ (bM CX P w K mg base N qual scope f cd A outer s H E).ex:=λb z=>absurd (show b∈([]:List Addr) from z) (by simp)
 refine⟨⟨e0.mod,S.kind,rfl,rfl,f7 _,λy z c h1 h2=>?_,λy hy=>?_,λy c _ h=>?_,λ_=>hd,Around.frames_deeper e0.frames,.inr ⟨rfl,rfl⟩,λb z=>absurd z (Xd b),e0.bs,e0.bsz,λb _ _=>Xd b,λb z=>absurd z (Xd b),e0.funs,e0.frf⟩,
  rfl,e0.bare,Un.kept hk,⟨_,x.toInCall.ns,λi y v h1 h2 h3=>?_⟩,λy c h=>⟨_,x.cell y c h⟩,e0.hok.fresh (f7 _),λy c h=>?_,λp hp=>absurd (show p∈([]:List (Addr×Obj)) from hp) (by simp),e0.hok.kept hk,?_⟩
 .exact name_of_addr x.apart (G9 h1) (G9 h2)
 .have hy:scope.names.lookup y=some .cell\/scope.names.lookup y=some .free:=hy;rcases hy with hy | hy
  .exact Ah hy
  .exact absurd rfl (S.nofree _ (G9 hy))
 .exact Mx (x.above y c (G9 h))
 .have hi:i<vs.length:=by
   unfold start at h2
   by_cases hi:i<vs.length
   .exact hi
   .rw[Lj (by simpa using hi)]at h2;rw[List.getElem?_replicate]at h2;split at h2<;>cases h2
  have ha:vs[i]?=some v:=by
   unfold start at h2;rw[G2 (by simpa using hi),y4]at h2;cases e:vs[i]? with
   | none=>rw[e]at h2;cases h2
   | some a=>rw[e]at h2;cases h2;rfl
  obtain⟨u,hu,rv⟩:=r.get ha
  have hp:ps[i]?=some y:=by
   rw[<- S.pre,Lz (by omega)];exact h1
  have ndP:ps.Nodup:=by rw[<- S.pre];exact S.nd.sublist (List.take_sublist _ _)
  refine⟨u,rv,?_⟩;rcases S.par y (x3 hp) with k | k
  .exact .inl ⟨k,wF ndP hp hu k⟩
  .obtain⟨c,e⟩:=Ah (n:=s.heap.objs.size+1) k;refine .inr ⟨.inl k,c,e,?_⟩;have q:=x.cell y c e;rw[wH ndP hp hu (by show scope.names.lookup y≠_;rw[k];decide)]at q;exact q
 .exact e0.hok.fresh (Mx (x.above y c (G9 h)))
 .unfold start;show _=N.length;rw[p7,g6,K3];omega
theorem Ef{CX:OZ}{P:Program}{w:World}{K:W.Frag}{k:Nat}{f:Addr}{name:Str}{dV kV doc pm cdv ct oc:Value}(lk:K.lookup f=some ⟨oc,od,.func (PySem.W.fnOf name qual params body scope dV kV doc pm an cdv ct),N7⟩)(NZ:PySem.W.codeIn K cdv qual=true)(S:ao N ps scope)
  (len:∀vs H Q E,sp vs H Q E->vs.length=ps.length)
  (Pz:∀(A:Around)(outer:List Env)(s:Shared)(H:Hp)(vs:List V)(Q:VK)(E:XK),bX k (A.deeper (envOfC qual scope s.heap.objs.size f cdv))->sp vs H Q E->
   ∃t,NU (bM CX P w K mg base N qual scope f cdv A outer s H E) body t/\t {nx:=λ_ H'=>Q .non H',rt:=Q} (start N vs) H) :
  gS P w K mg base CX (k+1) f (PySem.W.fnOf name qual params body scope dV kV doc pm an cdv ct) ps sp:=by
 refine⟨len,λA outer s H args us vs Q E hr e0 hb r SV=>?_⟩;have hl:=len _ _ _ _ SV;have KX:K.In s.heap:=e0.mod.kin.keeps λb o e=>(e0.bs b o e).1;have lim:s.heap.NoLimit:=e0.mod.nolimit.keeps λb o e=>(e0.bs b o e).1
 have XY:∀y∈ps.zip us,scope.names.lookup y.1=some .local\/(scope.names.lookup y.1=some .cell/\((cellsFrom (s.heap.objs.size+1) scope.names []).lookup y.1).isSome=true):=λ⟨n,v⟩ hy=>by
  rcases S.par n (Mp hy).1 with q | q
  .exact .inl q
  .exact .inr ⟨q,PySem.W.cellsFrom_some _ _ _ (.inl q)⟩
 refine codeAny_call_function hr.depth (KX _ _ lk) rfl S.co S.gen rfl (PySem.W.codeRec_of KX NZ) (hb _ _ _ _ ?_);refine wpAny_newFunctionEnv_cells S.kind XY λenv he s1 x=>?_;subst he;refine⟨lim.keeps x.toInCall.keep,codeAny_func ?_⟩;obtain⟨t,ht,hq⟩:=Pz A outer s H vs Q E (hr.deeper _) SV;have I:Inv (bM CX P w K mg base N qual scope f cdv A outer s H E) [] (start N vs) H s1:=Gp S hr.hd e0 hl r x;refine v8 (ht [] s1 (start N vs) H _ I hq) (λfl s' hs=>?_) λe s' hs=>hs
 have fin:∀{σ':St}{H':Hp}{v:V}{u:Value},Inv (bM CX P w K mg base N qual scope f cdv A outer s H E) [] σ' H' s'->RelV v u->Q v H'->CE outer P w H s Q u s':=
  λ{σ' H' v u} J rv q=>⟨v,H',J.os,J.bare,J.base,J.hok,rv,q⟩
 cases fl with
 | ret u =>
  obtain⟨v,σ',H',J,rv,q⟩:=hs;exact fin J rv q
 | next =>
  obtain⟨σ',H',J,q⟩:=hs;exact fin (v:=V.non) (u:=Value.none) J rfl q
 | brk =>
  obtain⟨_,_,_,q⟩:=hs;exact False.elim q
 | cont =>
  obtain⟨_,_,_,q⟩:=hs;exact False.elim q
section
variable{X:Cx}{x:Str}{p pos:Pos}{e:Expr}{es:List Expr}{t:TA}{id T:String}{r:List V->Hp->VK->Prop}
def So(r:List V->Hp->VK->Prop)(t:TA):TE:=λσ H Q=>t σ H λvs H1=>r vs H1 Q
theorem aH(hc:eW X (.builtin id) r)(hm:X.mg x=none)(ha:PA X (e::es) t)(hg:Gl X x:=by rfl)(hv:bootBuiltins x=some (.builtin id):=by decide+kernel)(hn:x≠"__name__":=by decide)(NO:(x==("__debug__":Str))=false:=by decide)(he:starEach (e::es) X.env=(false,eval e X.env)::starEach es X.env:=by rfl)(NR:(backTo pos (starEach es X.env)).any (·.1)=false:=by rfl):PE X (.Call (.Name x p) (e::es) [] pos) (So r t):=by
 intro Nn s σ H Q I h;refine z7 (gQ I hg hm hv ?_ hn NO);refine PyProof.Rows.callWith_builtin1 (Nr (ha pos Nn s σ H _ I h) λus s1 zz=>?_) he NR;obtain⟨vs,H1,I1,r1,q1⟩:=zz;exact hc Nn s1 σ H1 vs us Q I1 r1 q1
theorem ig(hc:eW X (.type T) r)(hm:X.mg x=none)(ha:PA X (e::es) t)(hg:Gl X x:=by rfl)(hv:bootBuiltins x=some (.type T):=by decide+kernel)(hn:x≠"__name__":=by decide)(NO:(x==("__debug__":Str))=false:=by decide)(he:starEach (e::es) X.env=(false,eval e X.env)::starEach es X.env:=by rfl)(NR:(backTo pos (starEach es X.env)).any (·.1)=false:=by rfl):PE X (.Call (.Name x p) (e::es) [] pos) (So r t):=by
 intro Nn s σ H Q I h;refine z7 (gQ I hg hm hv ?_ hn NO);refine y8 (Nr (ha pos Nn s σ H _ I h) λus s1 zz=>?_) he NR;obtain⟨vs,H1,I1,r1,q1⟩:=zz;exact hc Nn s1 σ H1 vs us Q I1 r1 q1
end
end L2
namespace HT
open PySem PyProof.Rows
variable{vs ws:List Value}{Q:Value->Shared->Prop}
section
open PySem.SeqAt
open PySem.AutoSeq1 (wpAny_loadPart')
open PySem.MeetsSeq PySem.MeetsSeq2 PySem.MeetsSeq3
end
section
variable{prog:Program}{w:World}{A:Around}{E:Value->Shared->Prop}{s:Shared}
theorem cat_tup{t b:Addr}(ht:IsTup s.heap t vs.toArray)(hb:IsTup s.heap b ws.toArray)(hv:vs≠[])
  (h1:ws=[]->Q (.ref t) s)(h2:ws≠[]->Q (.ref s.heap.objs.size) {s with heap:=s.heap.push {cls:=.type "tuple",data:=.seq (vs++ws).toArray} })
  (hsz:vs.length+ws.length<=sizeLine):wpAny (model prog w) A (binaryOp .Add (.ref t) (.ref b)) Q E s:=by
 obtain⟨⟨cls,dd,data,sl⟩,ho,hc,n,hd⟩:=id ht;obtain⟨⟨cls2,dd2,data2,sl2⟩,ZC,hc2,n2,hd2⟩:=id hb;simp only at hc hd hc2 hd2;subst hc hd hc2 hd2;have e:vs.toArray++ws.toArray=(vs++ws).toArray:=by simp
 by_cases hw:ws=[]
 .exact concat_meets ⟨_,ho,rfl⟩ ⟨_,ZC,rfl⟩ noFill_tuple_add seq_tuple_add PySem.F.slot_tuple_add PySem.F.entry_tuple_add (MZ _ _)
   (tuple_addW1 t b vs.toArray ws.toArray n n2 dd dd2 sl sl2 (by simpa using hv) (by simp[hw])) ⟨ho,ZC,h1 hw⟩
 .refine concat_meets ⟨_,ho,rfl⟩ ⟨_,ZC,rfl⟩ noFill_tuple_add seq_tuple_add PySem.F.slot_tuple_add PySem.F.entry_tuple_add (MZ _ _)
   (tuple_addW2 t b vs.toArray ws.toArray n n2 dd dd2 sl sl2 (by simpa using hv) (by simpa using hw) (by rw[i8,i8];exact hsz)) ⟨ho,ZC,?_⟩
  rw[e];exact h2 hw
noncomputable def sIx(n d:Nat):Option Int->Nat
 | none=>d
 | some v=>if v<0 then(v+(n:Int)).toNat else min v.toNat n
theorem kS(n d:Nat):sIx n d none=d:=rfl
theorem nZ(n d k:Nat):sIx n d (some (k:Int))=min k n:=by
 show(if(k:Int)<0 then((k:Int)+(n:Int)).toNat else min (k:Int).toNat n)=min k n;rw[h9 (by omega),Ld]
end
end HT
namespace L2
open PySem PySem.Spec PyProof.Rows
variable{ns:List Int}{us its its':List Value}{n j t':Nat}{i:Int}{r:R2}{A:Around}{s:Shared}{u v:Value}{Nn:List (Addr×Obj)}{σ:St}{H:Hp}{T:String}{f:Array Value->Array Value}
noncomputable abbrev TO:=St->Hp->(Option Int->Hp->Prop)->Prop
def PO(X:Cx)(e:Option Expr)(t:TO):Prop:=
 ∀(
  Nn:List (Addr×Obj)) (s:Shared) (σ:St) (H:Hp) (Q:Option Int->Hp->Prop),Inv X Nn σ H s->t σ H Q->
  wpAny (model X.prog X.w) X.A (evalPart e X.env) (λu s'=>∃o H',Inv X Nn σ H' s'/\IsPart u o/\Q o H') X.xe s
noncomputable def nF:TO:=λ_ H Q=>Q none H
noncomputable def Wr(t:TE):TO:=λσ H Q=>t σ H λx H1=>∃i,x=.int i/\Q (some i) H1
theorem intsAre_of:∀{us:List Value},Vals (ns.map V.int) us->IntsAre us ns:=by
 induction ns with
 | nil=>intro us r;rw[My]at r;cases r;exact .nil
 | cons n ns ih =>
  intro us r;rw[v7]at r;cases r with
  | cons r1 r2 =>
   obtain⟨t,e⟩:=r1;subst e;exact .cons n t (ih r2)
section
variable{X:Cx}{e:Expr}{te:TE}{lo hi:Option Expr}{tl th:TO}{pos p2:Pos}
theorem jX:PO X none nF:=by
 intro Nn s σ H Q I h;rw[evalPart_none];exact f6 ⟨none,H,I,.none,h⟩
theorem hU(h:PE X e te):PO X (some e) (Wr te):=by
 intro Nn s σ H Q I hw;rw[evalPart_some];refine Nr (h Nn s σ H _ I hw) λu s1 zz=>?_;obtain⟨x,H1,I1,r1,q1⟩:=zz;obtain⟨i,rfl,q⟩:=q1;obtain⟨t,rfl⟩:=r1;exact⟨some i,H1,I1,.int i t,q⟩
def SlR(X:Cx)(r:V->Option Int->Option Int->Hp->VK->Prop):Prop:=
 ∀(
  Nn:List (Addr×Obj)) (s:Shared) (σ:St) (H:Hp) (x:V) (v vl vu:Value) (lo hi:Option Int) (sl:Addr) (Q:VK),Inv X Nn σ H s->RelV x v->s.heap.IsSliceOf sl vl vu .none->IsPart vl lo->IsPart vu hi->r x lo hi H Q->
  ∃T id,typeLookup (.type T) "__getitem__"=pure (some (.builtin id))/\s.TypeIs v T/\wpAny (model X.prog X.w) X.A (getItem v (.ref sl)) (EP X Nn σ Q) X.xe s
def tSl(r:V->Option Int->Option Int->Hp->VK->Prop)(te:TE)(tl th:TO):TE:=λσ H Q=>te σ H λx H1=>tl σ H1 λl H2=>th σ H2 λu H3=>r x l u H3 Q
theorem gu{r:V->Option Int->Option Int->Hp->VK->Prop}(hr:SlR X r)(he:PE X e te)(hl:PO X lo tl)(hu:PO X hi th):PE X (.Subscript e (.Slice lo hi none p2) pos) (tSl r te tl th):=by
 intro Nn s σ H Q I h;refine Subscript_ (Nr (he Nn s σ H _ I h) λv s1 zz=>?_);obtain⟨x,H1,I1,r1,q1⟩:=zz;refine wpAny_Slice (Nr (hl Nn s1 σ H1 _ I1 q1) λvl s2 zz=>?_);obtain⟨l,H2,I2,pl,q2⟩:=zz;refine Nr (hu Nn s2 σ H2 _ I2 q2) λvu s3 zz=>?_;obtain⟨u,H3,I3,pu,q3⟩:=zz;rw[evalPart_none];refine f6 ?_;have I4:Inv X Nn σ H3 {s3 with heap:=s3.heap.push {cls:=.type "slice",data:=.fields #[vl,vu,.none] } }:=I3.kept (t':=s3.toks) λb ob q=>e9 _ q
 obtain⟨T,id,hT,ht,hg⟩:=hr Nn {s3 with heap:=s3.heap.push {cls:=.type "slice",data:=.fields #[vl,vu,.none] } } σ H3 x v vl vu l u s3.heap.objs.size Q I4 r1 (Heap.IsSliceOf.new ..) pl pu q3
 show wpAny (model X.prog X.w) X.A (subscriptTail e (.Slice lo hi none p2) v (.ref s3.heap.objs.size)) (EP X Nn σ Q) X.xe {s3 with heap:=s3.heap.push {cls:=.type "slice",data:=.fields #[vl,vu,.none] } }
 exact tail_any (ops:=[.ref s3.heap.objs.size,v]) ht hT hg (by with_unfolding_all rfl)
noncomputable def oP(xs:List V)(lo hi:Option Int):List V:=(xs.drop (HT.sIx xs.length 0 lo)).take (HT.sIx xs.length xs.length hi-HT.sIx xs.length 0 lo)
theorem Af(xs:List V)(lo hi:Option Int):(oP xs lo hi).length<=xs.length:=by
 unfold oP;rw[F5,Lr];omega
def SA(K:W.Frag):R2:=λx y H Q=>∃a b xs ys,x=.ref a/\y=.ref b/\Nv K H a xs/\Nv K H b ys/\xs≠[]/\xs.length+ys.length<=sizeLine/\
 (ys=[]->Q (.ref a) H)/\(ys≠[]->∀p,H p=none->Q (.ref p) (upd H p (.tup (xs++ys))))
theorem Vals.nil_iff{xs:List V}(r:Vals xs us):us=[]↔xs=[]:=by
 cases r with
 | nil=>simp
 | cons _ _=>simp
theorem QW:NJ X (binaryOp .Add) (SA X.K):=by
 intro Nn s σ H x y v u Q I rx ry h;obtain⟨a,b,xs,ys,rfl,rfl,ha,hb,hx,hz,q1,q2⟩:=h;cases rx
 cases ry
 obtain⟨its,r1,p1,_⟩:=I.tuple ha;obtain⟨ND,r2,p2,_⟩:=I.tuple hb;refine HT.cat_tup p1 p2 (λz=>hx (r1.nil_iff.mp z)) (λz=>⟨.ref a,H,I,rfl,q1 (r2.nil_iff.mp z)⟩) (λz=>?_) (by rw[<- r1.length,<- r2.length];exact hz);refine⟨.ref s.heap.objs.size,_,I.laid (t':=s.toks) (o:=.tup (xs++ys)) (λb ob q=>e9 _ q) (f7 _) ?_,rfl,q2 (λw=>z (r2.nil_iff.mpr w)) _ (I.hok.fresh (f7 _))⟩;exact⟨by rw[p7];exact hz,_,r1.append r2,IsTup.new _ _⟩
end
noncomputable def Uq(n:Nat)(i:Int):Option Nat:=if 0<=i then(if i<n then some i.toNat else none) else if -(n:Int)<=i then some (i+n).toNat else none
noncomputable def OP{α:Type}(xs:List α)(i:Int):Option α:=(Uq xs.length i).bind λj=>xs[j]?
theorem Rj(h:Uq n i=some j):seqIndex? i n=some j/\j<n/\-(n:Int)<=i/\i<n:=by
 unfold Uq at h
 by_cases h0:0<=i
 .rw[k9 h0]at h
  by_cases h1:i<n
  .rw[k9 h1]at h;have e:i.toNat=j:=i7 h;exact⟨by rw[seqIndex_of h0 h1,e],by omega,by omega,h1⟩
  .rw[h9 h1]at h;cases h
 .rw[h9 h0]at h
  by_cases h1:-(n:Int)<=i
  .rw[k9 h1]at h;have e:(i+n).toNat=j:=i7 h;exact⟨by rw[seqIndex_neg (by omega) h1,e],by omega,h1,by omega⟩
  .rw[h9 h1]at h;cases h
theorem Ew{α:Type}{xs:List α}{v:α}(h:OP xs i=some v):∃j,seqIndex? i xs.length=some j/\xs[j]?=some v/\j<xs.length/\-(xs.length:Int)<=i/\i<xs.length:=by
 unfold OP at h;cases e:Uq xs.length i with
 | none=>rw[e]at h;cases h
 | some j =>
  rw[e]at h;obtain⟨h1,h2,h3,h4⟩:=Rj e;exact⟨j,h1,h,h2,h3,h4⟩
theorem bc{α:Type}{xs:List α}{v:α}(h:xs[j]?=some v):OP xs (j:Int)=some v:=by
 have hj:j<xs.length:=(j6.mp h).1
 have e:Uq xs.length (j:Int)=some j:=by
  unfold Uq;rw[k9 (by omega),k9 (by omega)];simp
 unfold OP;rw[e];exact h
def R4(b:Expr):Prop:=∀o i,subscripted b false o i=operate [o,i] (getItem o i)
def ZX(X:Cx)(r:R2):Prop:=
 ∀(
  value slice:Expr) (Nn:List (Addr×Obj)) (s:Shared) (σ:St) (H:Hp) (x y:V) (v u:Value) (Q:VK),Inv X Nn σ H s->RelV x v->RelV y u->r x y H Q->
  subscripted slice false v u=operate [v,u] (getItem v u)->wpAny (model X.prog X.w) X.A (subscriptTail value slice v u) (EP X Nn σ Q) X.xe s
def MtR(X:Cx)(id:String)(r:V->List V->Hp->VK->Prop):Prop:=
 ∀(
  Nn:List (Addr×Obj)) (s:Shared) (σ:St) (H:Hp) (x:V) (xs:List V) (v:Value) (us:List Value) (Q:VK),Inv X Nn σ H s->RelV x v->Vals xs us->r x xs H Q->
  wpAny (model X.prog X.w) X.A (call (.builtin id) (v::us)) (EP X Nn σ Q) X.xe s
section
variable{X:Cx}{a b:Expr}{ta tb:TE}{pos:Pos}
theorem aL(hr:ZX X r)(ha:PE X a ta)(hb:PE X b tb)(hs:R4 b:=by intro _ _;rfl):PE X (.Subscript a b pos) (Ws r ta tb):=by
 intro Nn s σ H Q I h;exact Subscript_ (Vn ha hb I h λv u s2 x y H2 I2 rx ry q=>hr a b Nn s2 σ H2 x y v u Q I2 rx ry q (hs _ _))
inductive Tc(K:W.Frag)(x:V)(y:V)(H:Hp)(Q:VK):Prop where
 | mk (p:Addr) (xs:List V) (i:Int) (v:V) (Wd:x=.ref p) (Wc:y=.int i) (Zf:Nq K H p xs) (Z0:OP xs i=some v) (z_4:Q v H):Tc K x y H Q
def rIxL(K:W.Frag):R2:=λx y H Q=>Tc K x y H Q
inductive Tb(K:W.Frag)(x:V)(y:V)(H:Hp)(Q:VK):Prop where
 | mk (p:Addr) (xs:List V) (i:Int) (v:V) (Wd:x=.ref p) (Wc:y=.int i) (Zf:Nv K H p xs) (Z0:OP xs i=some v) (z_4:Q v H):Tb K x y H Q
def WY(K:W.Frag):R2:=λx y H Q=>Tb K x y H Q
theorem bb:ZX X (rIxL X.K):=by
 intro value slice Nn s σ H x y v u Q I rx ry h hs;obtain⟨p,xs,i,z,rfl,rfl,hq,he,q⟩:=h;cases rx
 obtain⟨t,rfl⟩:=ry;obtain⟨its,r,pl,hz⟩:=I.list hq;obtain⟨j,h1,h2,h3,h4,h5⟩:=Ew he;obtain⟨w,ew,Oh⟩:=r.get h2;have hl:=r.length;have hn:=xK;have fin:EP X Nn σ Q w s:=⟨z,H,I,Oh,q⟩
 by_cases h0:0<=i
 .have hj:i.toNat=j:=by
   rw[seqIndex_of h0 h5]at h1;exact i7 h1
  exact item_listR pl.isList h0 (by omega) (by rw[hj];simpa using ew) fin hs
 .have hj:(i+(its.toArray.size:Int)).toNat=j:=by
   rw[seqIndex_neg (by omega) h4]at h1;rw[i8,<- hl];exact i7 h1
  exact subscriptTail_builtinR (x:=w) pl.isList.typeIs slot_list_getitem.lookup
   (wpAny_getItem_list_neg (Q:=λr s'=>r=w/\EP X Nn σ Q r s') pl.isList (by omega) (by rw[i8]<;>omega) (by omega) (by rw[hj];simpa using ew) ⟨rfl,fin⟩) hs
theorem aV:ZX X (WY X.K):=by
 intro value slice Nn s σ H x y v u Q I rx ry h hs;obtain⟨p,xs,i,z,rfl,rfl,hq,he,q⟩:=h;cases rx
 obtain⟨t,rfl⟩:=ry;obtain⟨its,r,pl,hz⟩:=I.tuple hq;obtain⟨j,h1,h2,h3,h4,h5⟩:=Ew he;obtain⟨w,ew,Oh⟩:=r.get h2;have hl:=r.length;have hn:=xK;have fin:EP X Nn σ Q w s:=⟨z,H,I,Oh,q⟩
 exact subscriptTail_builtinR (x:=w) pl.typeIs slot_tuple_getitem.lookup
  (getItem_tuple (j:=j) (Q:=λr s'=>r=w/\EP X Nn σ Q r s') pl (by omega) (by omega) (by rw[i8,<- hl];exact h1) (by simpa using ew) ⟨rfl,fin⟩) hs
theorem xo(lo hi:Option Int)(n:Nat):(sliceBounds lo hi none n).1=((HT.sIx n 0 lo:Nat):Int)/\(sliceBounds lo hi none n).2.1=((HT.sIx n n hi:Nat):Int)/\(sliceBounds lo hi none n).2.2=1:=by
 refine⟨?_,?_,rfl⟩
 .cases lo with
  | none=>simp[sliceBounds,HT.sIx]
  | some i =>
   simp only[sliceBounds,HT.sIx,Option.getD_none,show(1:Int)>0 by decide,MS]
   by_cases h:i<0
   .simp only[h,MS]<;>omega
   .simp only[h,ME]<;>omega
 .cases hi with
  | none=>simp[sliceBounds,HT.sIx]
  | some i =>
   simp only[sliceBounds,HT.sIx,Option.getD_none,show(1:Int)>0 by decide,MS]
   by_cases h:i<0
   .simp only[h,MS]<;>omega
   .simp only[h,ME]<;>omega
theorem uN(its:List Value)(lo hi:Option Int):slicePick its.toArray lo hi none=((its.drop (HT.sIx its.length 0 lo)).take (HT.sIx its.length its.length hi-HT.sIx its.length 0 lo)).toArray:=by
 obtain⟨h1,h2,h3⟩:=xo lo hi its.toArray.size;unfold slicePick;rw[h1,h2,h3];simp only[sliceRange_one,pick_run,i8]<;>rfl
def rSlL(K:W.Frag):V->Option Int->Option Int->Hp->VK->Prop:=λx lo hi H Q=>∃a xs,x=.ref a/\Nq K H a xs/\∀p,H p=none->Q (.ref p) (upd H p (.lst (oP xs lo hi)))
theorem jP:SlR X (rSlL X.K):=by
 intro Nn s σ H x v vl vu lo hi sl Q I rx hs pl pu h;obtain⟨a,xs,rfl,hx,q⟩:=h;cases rx
 obtain⟨its,r,ht,hz⟩:=I.list hx;have hlen:=r.length;refine⟨"list",_,slot_list_getitem.lookup,ht.isList.typeIs,?_⟩;refine wpAny_getItem_list_slice ht.isList hs pl pu .none (by simp) ?_ (by rw[i8]<;>omega);rw[uN,<- hlen];refine⟨.ref s.heap.objs.size,_,I.laid (t':=s.toks) (o:=.lst (oP xs lo hi)) (λb ob q=>e9 _ q) (f7 _) ?_,rfl,q _ (I.hok.fresh (f7 _))⟩;exact⟨h8 (Af xs lo hi) hz,_,0,(r.drop (HT.sIx xs.length 0 lo)).take (HT.sIx xs.length xs.length hi-HT.sIx xs.length 0 lo),g7 _ rfl⟩
noncomputable def jI:V->Bool
 | .non=>true
 | .bl _=>true
 | .int _=>true
 | .str _=>true
 | _=>false
noncomputable def Ph:V->V->Bool
 | .non,.non=>true
 | .bl a,.bl b=>a==b
 | .bl a,.int b=>(if a then 1 else 0)==b
 | .int a,.bl b=>a==(if b then 1 else 0)
 | .int a,.int b=>a==b
 | .str a,.str b=>a==b
 | _,_=>false
theorem Ve{y x:V}(ry:RelV y u)(rx:RelV x v)(fy:jI y=true)(fx:jI x=true):SeqAt.EqAt A s u v (Ph y x):=by
 cases y with
 | non =>
  cases ry
  cases x with
  | non=>cases rx;exact SeqAt.EqAt.same _
  | bl b=>cases rx;exact SeqAt.EqAt.none_bool b
  | int b=>obtain⟨t,rfl⟩:=rx;exact SeqAt.EqAt.none_int b t
  | str b=>obtain⟨t,rfl⟩:=rx;exact SeqAt.EqAt.none_str b t
  | _=>exact absurd (show false=true from fx) i6
 | bl a =>
  cases ry
  cases x with
  | non=>cases rx;exact SeqAt.EqAt.bool_none a
  | bl b=>cases rx;exact SeqAt.EqAt.bool_bool a b
  | int b=>obtain⟨t,rfl⟩:=rx;exact SeqAt.EqAt.bool_int a b t
  | str b=>obtain⟨t,rfl⟩:=rx;exact SeqAt.EqAt.bool_str a b t
  | _=>exact absurd (show false=true from fx) i6
 | int a =>
  obtain⟨t',rfl⟩:=ry;cases x with
  | non=>cases rx;exact SeqAt.EqAt.int_none a t'
  | bl b=>cases rx;exact SeqAt.EqAt.int_bool a t' b
  | int b=>obtain⟨t,rfl⟩:=rx;exact SeqAt.EqAt.int_int a t' b t
  | str b=>obtain⟨t,rfl⟩:=rx;exact SeqAt.EqAt.int_str a t' b t
  | _=>exact absurd (show false=true from fx) i6
 | str a =>
  obtain⟨t',rfl⟩:=ry;cases x with
  | non=>cases rx;exact SeqAt.EqAt.str_none a t'
  | bl b=>cases rx;exact SeqAt.EqAt.str_bool a t' b
  | int b=>obtain⟨t,rfl⟩:=rx;exact SeqAt.EqAt.str_int a t' b t
  | str b=>obtain⟨t,rfl⟩:=rx;exact SeqAt.EqAt.str_str a t' b t
  | _=>exact absurd (show false=true from fx) i6
 | _=>exact absurd (show false=true from fy) i6
noncomputable def O7(x:V)(u:Value):Bool:=match u with
 | .none=>Ph .non x
 | .bool b=>Ph (.bl b) x
 | .int i _=>Ph (.int i) x
 | .str z _=>Ph (.str z) x
 | _=>false
theorem Cj{x y:V}(r:RelV y u)(f:jI y=true):O7 x u=Ph y x:=by
 cases y with
 | non=>cases r;rfl
 | bl b=>cases r;rfl
 | int i=>obtain⟨t,rfl⟩:=r;rfl
 | str z=>obtain⟨t,rfl⟩:=r;rfl
 | _=>exact absurd (show false=true from f) i6
theorem ya{x:V}:∀{xs:List V}{us:List Value},Vals xs us->xs.all jI=true->us.any (O7 x)=xs.any λy=>Ph y x
 | _,_,.nil,_=>rfl
 | y::xs,u::us,.cons r t,f=>by
  rw[Nl,t7]at f;rw[LA,LA,Cj r f.1,ya t f.2]
theorem oH{x:V}(rx:RelV x v)(fx:jI x=true):∀{xs:List V}{us:List Value},Vals xs us->xs.all jI=true->∀u∈us,SeqAt.EqAt A s u v (O7 x u)
 | _,_,.nil,_=>λu hu=>by cases hu
 | y::xs,u::us,.cons r t,f=>λu' hu=>by
  rw[Nl,t7]at f;rcases j8.mp hu with rfl | hu
  .rw[Cj r f.1];exact Ve r rx f.1 fx
  .exact oH rx fx t f.2 u' hu
noncomputable def Zy(x:V)(xs:List V):Bool:=xs.any λy=>Ph y x
def rIn(K:W.Frag)(neg:Bool):R2:=λx y H Q=>∃p xs,y=.ref p/\(Nq K H p xs\/Nv K H p xs)/\jI x=true/\xs.all jI=true/\Q (.bl (if neg then !Zy x xs else Zy x xs)) H
theorem Fp:NJ X (compareOp .In) (rIn X.K false):=by
 intro Nn s σ H x y v u Q I rx ry h;obtain⟨p,xs,rfl,hq,fx,fs,q⟩:=h;cases ry
 rcases hq with hq | hq
 .obtain⟨its,r,pl,hz⟩:=I.list hq;refine SeqAt.in_listAt (O7 x) pl.isList (λw hw=>oH rx fx r fs w (by simpa using hw)) ⟨.bl _,H,I,rfl,?_⟩;rw[show its.toArray.any (O7 x)=its.any (O7 x) by simp,ya r fs];exact q
 .obtain⟨its,r,pl,hz⟩:=I.tuple hq;refine SeqAt.in_tupleAt (O7 x) pl (λw hw=>oH rx fx r fs w (by simpa using hw)) ⟨.bl _,H,I,rfl,?_⟩;rw[show its.toArray.any (O7 x)=its.any (O7 x) by simp,ya r fs];exact q
theorem je:eW X (.type "tuple") (λxs H Q=>∃p ys,xs=[.ref p]/\((Nq X.K H p ys/\∀l,H l=none->Q (.ref l) (upd H l (.tup ys)))\/(Nv X.K H p ys/\Q (.ref p) H))):=by
 intro Nn s σ H xs us Q I r h;obtain⟨p,ys,rfl,h⟩:=h;obtain⟨u,rfl,rx⟩:=vals1 r;cases rx
 rcases h with⟨hq,q⟩ | ⟨hq,q⟩
 .obtain⟨its,r',pl,hz⟩:=I.list hq;have hlen:=r'.length;refine call_tuple_list pl.isList (λh' kp=>?_) (by simp only[i8]<;>omega);have I1:Inv X Nn σ H {s with heap:=h' }:=I.kept (t':=s.toks) kp
  have I2:Inv X Nn σ (upd H h'.objs.size (.tup ys)) {s with heap:=h'.push {cls:=.type "tuple",data:=.seq its.toArray} }:=
   I1.laid (t':=s.toks) (λb o e=>e9 _ e) (f7 _) (show bj X.prog X.w _ _ _ (.tup ys) from⟨hz,its,r',IsTup.new _ _⟩)
  exact⟨.ref h'.objs.size,_,I2,rfl,q _ (I1.hok.fresh (f7 _))⟩
 .obtain⟨its,r',pl,hz⟩:=I.tuple hq;exact call_tuple_same pl ⟨.ref p,H,I,rfl,q⟩
def Z4(K:W.Frag)(T:String)(x:V)(H:Hp):Prop:=match x with
 | .str _=>T="str"
 | .int _=>T="int"
 | .ref p=>(T="list"/\∃ xs,Nq K H p xs)\/(T="tuple"/\∃ o,K.lookup p=some o/\o.cls=.type "tuple"/\o.dict=none)\/
   (T="dict"/\((∃Np,H p=some (.dK Np))\/∃Np,H p=some (.dT Np)))\/(T="set"/\∃S n,H p=some (.set S n))
 | _=>False
theorem HE{x:V}(I:Inv X Nn σ H s)(r:RelV x v)(ty:Z4 X.K T x H) :
  s.TypeIs v T/\∀a,v=.ref a->∃ob,s.heap.get? a=some ob/\ob.dict=none:=by
 cases x with
 | str z =>
  obtain⟨t,rfl⟩:=r;cases(show T="str" from ty)
  exact⟨LM s z t,λ_ e=>nomatch e⟩
 | int i =>
  obtain⟨t,rfl⟩:=r;cases(show T="int" from ty)
  exact⟨typeIs_int s i t,λ_ e=>nomatch e⟩
 | ref p =>
  cases r
  rcases ty with⟨rfl,xs,hq⟩ | ⟨rfl,o,hk,hc,hd⟩ | ⟨rfl,hk⟩ | ⟨rfl,S,n,hk⟩
  .obtain⟨its,_,pl,_⟩:=I.list hq;refine⟨pl.isList.typeIs,λa e=>?_⟩;cases e
   obtain⟨o,n,e,c,hd,_⟩:=pl;exact⟨o,e,hd⟩
  .refine⟨⟨o,I.kIn p o hk,hc⟩,λa e=>?_⟩;cases e
   exact⟨o,I.kIn _ o hk,hd⟩
  .have z:∃o,s.heap.get? p=some o/\o.ExactDict:=by
    rcases hk with⟨Np,hk⟩ | ⟨Np,hk⟩
    .obtain⟨_,_,_,_,o,_,_,e,ex,_⟩:=I.hok p _ hk;exact⟨o,e,ex⟩
    .obtain⟨_,_,_,_,o,_,_,e,ex,_⟩:=I.hok p _ hk;exact⟨o,e,ex⟩
   obtain⟨o,e,ex⟩:=z;refine⟨⟨o,e,ex.1⟩,λa e2=>?_⟩;cases e2
   exact⟨o,e,ex.2.1⟩
  .obtain⟨o,_,_,_,e,ex,_⟩:=I.hok p _ hk;refine⟨⟨o,e,ex.1⟩,λa e2=>?_⟩;cases e2
   exact⟨o,e,ex.2.1⟩
 | _=>exact False.elim ty
def WE(K:W.Frag)(T:String)(r:V->List V->Hp->VK->Prop)(to:TE):TE:=λσ H Q=>to σ H λx H1=>Z4 K T x H1/\r x [] H1 Q
def tBM(K:W.Frag)(T:String)(r:V->List V->Hp->VK->Prop)(to:TE)(t:TA):TE:=λσ H Q=>to σ H λx H1=>Z4 K T x H1/\t σ H1 λxs H2=>r x xs H2 Q
variable{o e:Expr}{es:List Expr}{to:TE}{t:TA}{name:Str}{apos NA:Pos}{T id:String}{r:V->List V->Hp->VK->Prop}
theorem cp(pa:PlainAttrs T)(slot:Slot T name id)(XD:typeOf (.builtin id)=pure (.type "method_descriptor"))(hm:MtR X id r)(ho:PE X o to)
  (NY:attributeBase o name X.env (eval o X.env)=eval o X.env:=by rfl)(N8:(apos.endLine==NA.line)=true:=by rfl):PE X (.Call (.Attribute o name apos) [] [] NA) (WE X.K T r to):=by
 intro Nn s σ H Q I h;refine wpAny_Call_method0_late NY N8 (Nr (ho Nn s σ H _ I h) λv s1 zz=>?_);obtain⟨x,H1,I1,r1,ty,q1⟩:=zz;obtain⟨h1,h2⟩:=HE I1 r1 ty;exact⟨T,id,pa,slot,XD,h1,h2,J6 rfl (PySem.evalArgs_none (hm Nn s1 σ H1 x [] v [] Q I1 r1 .nil q1))⟩
theorem bx(pa:PlainAttrs T)(slot:Slot T name id)(XD:typeOf (.builtin id)=pure (.type "method_descriptor"))(hm:MtR X id r)(ho:PE X o to)(ha:PA X (e::es) t)
  (NY:attributeBase o name X.env (eval o X.env)=eval o X.env:=by rfl)
  (hfew:((backTo NA (starEach (e::es) X.env)).all (λx=>!x.1) && (backToKw NA (keywordEach [] X.env)).all (λx=>x.1.isSome)
   && decide ((e::es).length+([]:List Keyword).length+(if([]:List Keyword).isEmpty then 0 else 1)<30))=true:=by rfl)
  (N8:(apos.endLine==NA.line)=true:=by rfl)(hs:starEach (e::es) X.env=(false,eval e X.env)::starEach es X.env:=by rfl)(UE:(backTo NA (starEach es X.env)).any (·.1)=false:=by rfl) :
  PE X (.Call (.Attribute o name apos) (e::es) [] NA) (tBM X.K T r to t):=by
 intro Nn s σ H Q I h;refine wpAny_Call_method_late NY hfew N8 rfl (Nr (ho Nn s σ H _ I h) λv s1 zz=>?_);obtain⟨x,H1,I1,r1,ty,q1⟩:=zz;obtain⟨h1,h2⟩:=HE I1 r1 ty;refine⟨T,id,pa,slot,XD,h1,h2,?_⟩;have hA:=ha NA Nn s1 σ H1 _ I1 q1;rw[hs]at hA ⊢;refine J6 (by show(false || (backTo NA (starEach es X.env)).any (·.1))=false;rw[UE]<;>rfl) (G5 ?_);refine Nr hA λus s2 zz=>?_;obtain⟨vs,H2,I2,r2,q2⟩:=zz;exact hm Nn s2 σ H2 x vs v us Q I2 r1 r2 q2
end
def PV(X:Cx)(id:String)(r:V->List V->Hp->VK->Prop):Prop:=
 ∀(
  Nn:List (Addr×Obj)) (s:Shared) (σ:St) (H:Hp) (x:V) (xs:List V) (v:Value) (us:List Value) (Q:VK),Inv X Nn σ H s->RelV x v->Vals xs us->r x xs H Q->
  wpAny (model X.prog X.w) X.A (call (.builtin id) (v::us)) (EP X Nn σ Q) X.xe s
theorem Vals.one{x:V}(h:Vals [x] us):∃u,us=[u]/\RelV x u:=by
 cases h with
 | cons r t =>
  cases t
  exact⟨_,rfl,r⟩
theorem Vals.zero:∀{us:List Value},Vals [] us->us=[]
 | _,.nil=>rfl
theorem Vals.dropLast{xs:List V}(h:Vals xs us):Vals xs.dropLast us.dropLast:=by
 induction h with
 | nil=>exact .nil
 | cons r t ih =>
  cases t with
  | nil=>exact .nil
  | cons q t'=>exact .cons r ih
theorem Vals.reverse{xs:List V}(h:Vals xs us):Vals xs.reverse us.reverse:=by
 induction h with
 | nil=>exact .nil
 | cons r t ih=>rw[l8,l8];exact Vals.append ih (.cons r .nil)
theorem Ci{α:Type}(l:List α):l.eraseIdx (l.length-1)=l.dropLast:=by
 induction l with
 | nil=>rfl
 | cons a r ih =>
  cases r with
  | nil=>rfl
  | cons b r =>
   have e:(a::b::r).length-1=((b::r).length-1)+1:=by
    have h1:(a::b::r).length=r.length+2:=rfl;have h2:(b::r).length=r.length+1:=rfl;omega
   rw[e,List.eraseIdx_cons_succ,ih]
   all_goals rfl
section
variable{X:Cx}{Nn:List (Addr×Obj)}{σ:St}{H:Hp}{s:Shared}{l b:Addr}{xs ys zs:List V}
theorem Inv.lset{t':Nat}(I:Inv X Nn σ H s)(hH:H l=some (.lst xs))
  (e:s.heap.get? l=some {cls:=.type "list",data:=.seq its.toArray n})(hf:f its.toArray=its'.toArray)(hv:Vals ys its')(hz:ys.length<=sizeLine) :
  Inv X Nn σ (upd H l (.lst ys)) {s with heap:=s.heap.update l (Obj.mapSeq f),toks:=t' }:=by
 have q:=PySem.IsL.update e f;rw[hf]at q;refine I.write (x:=l) (e:=l) (by rw[hH];exact trivial) (.inl rfl) (λb' u hb hu=>(A3 s.heap (Obj.mapSeq f) (B8 hb)).trans hu) ⟨_,q⟩ ?_;exact⟨hz,its',_,hv,q⟩
theorem Inv.lnew{t':Nat}(I:Inv X Nn σ H s)(hv:Vals ys its)(hz:ys.length<=sizeLine) :
  Inv X Nn σ (upd H s.heap.objs.size (.lst ys)) {s with heap:=s.heap.push {cls:=.type "list",data:=.seq its.toArray},toks:=t' }:=
 I.laid (λ_ _ q=>e9 _ q) (f7 _) ⟨hz,its,0,hv,g7 _ rfl⟩
theorem Inv.fresh(I:Inv X Nn σ H s):H s.heap.objs.size=none:=I.hok.fresh (f7 _)
theorem Inv.lstM(I:Inv X Nn σ H s)(hH:H l=some (.lst xs)):xs.length<=sizeLine/\∃(its:List Value)(n:Nat),Vals xs its/\xs.length=its.length/\s.heap.get? l=some {cls:=.type "list",data:=.seq its.toArray n}:=by
 obtain⟨z,its,n,r,e⟩:=I.hok l _ hH;exact⟨z,its,n,r,r.length,e⟩
theorem Jz(h:n<=sizeLine):Builtin.List.listTooLong n=false:=by
 unfold Builtin.List.listTooLong;exact h7 (by omega)
end
section
variable{X:Cx}
inductive Am(x:V)(vs:List V)(H:Hp)(Q:VK):Prop where
 | mk (l:Addr) (xs:List V) (y:V) (Wd:x=.ref l) (Wc:vs=[y]) (Zf:H l=some (.lst xs)) (Z0:xs.length<sizeLine) (z_4:Q .non (upd H l (.lst (xs++[y])))):Am  x vs H Q
def QG:V->List V->Hp->VK->Prop:=λx vs H Q=>Am  x vs H Q
theorem aQ:PV X "list.append" QG:=by
 intro Nn s σ H x vs v us Q I rx rv h;obtain⟨l,xs,y,rfl,rfl,hH,hz,q⟩:=h;cases rx
 obtain⟨u,rfl,ru⟩:=rv.one;obtain⟨z,its,n,r,hl,e⟩:=I.lstM hH;refine J7 F.slot_list_append ⟨_,e,rfl⟩ F.entry_list_append (F.args_list_append_2 _ _) (PySem.list_append l its.toArray n u (by rw[i8];omega)) ⟨e,?_⟩;refine⟨.non,_,I.lset (its':=its++[u]) hH e (by simp) (r.append (.cons ru .nil)) ?_,rfl,q⟩;rw[p7,List.length_singleton];omega
def QE:V->List V->Hp->VK->Prop:=λx vs H Q=>∃l b xs zs,x=.ref l/\vs=[.ref b]/\H l=some (.lst xs)/\H b=some (.lst zs)/\xs.length+zs.length<=sizeLine/\Q .non (upd H l (.lst (xs++zs)))
theorem qc:PV X "list.extend" QE:=by
 intro Nn s σ H x vs v us Q I rx rv h;obtain⟨l,b,xs,zs,rfl,rfl,hH,hB,hz,q⟩:=h;cases rx
 obtain⟨u,rfl,ru⟩:=rv.one;cases ru
 obtain⟨z,its,n,r,hl,e⟩:=I.lstM hH;obtain⟨z2,ND,n2,r2,Pe,e2⟩:=I.lstM hB;have hsz:its.toArray.size+ND.toArray.size<=sizeLine:=by rw[i8,i8];omega
 have XW:¬(!its.toArray.isEmpty && Builtin.List.listTooLong (its.toArray.size+ND.toArray.size))=true:=by
  rw[Jz hsz,Bool.and_false];exact i6
 refine J7 F.slot_list_extend ⟨_,e,rfl⟩ F.entry_list_extend (F.args_list_extend_2 _ _)
  (AutoSeq1.list_extend_list_list_0 l its.toArray n b ND.toArray n2 XW (by rw[i8];omega) (by omega)) ⟨e,e2,?_⟩
 refine⟨.non,_,I.lset (its':=its++ND) hH e (by simp) (r.append r2) ?_,rfl,q⟩;rw[p7];omega
def rPop:V->List V->Hp->VK->Prop:=λx vs H Q=>∃l xs y,x=.ref l/\vs=[]/\H l=some (.lst xs)/\xs[xs.length-1]?=some y/\Q y (upd H l (.lst xs.dropLast))
theorem cU:PV X "list.pop" rPop:=by
 intro Nn s σ H x vs v us Q I rx rv h;obtain⟨l,xs,y,rfl,rfl,hH,hy,q⟩:=h;cases rx
 have hus:=rv.zero;subst hus;obtain⟨z,its,n,r,hl,e⟩:=I.lstM hH;obtain⟨u,hu,ru⟩:=r.get hy
 have Xy:its.toArray[its.toArray.size-1]?=some u:=by
  show its.toArray[its.length-1]?=some u;rw[<- K5,<- hl];exact hu
 refine J7 F.slot_list_pop ⟨_,e,rfl⟩ F.entry_list_pop (F.args_list_pop_1 _) (MeetsSeq.list_pop_last l its.toArray n u Xy (by rw[i8];omega)) ⟨e,?_⟩;refine⟨y,_,I.lset (its':=its.dropLast) hH e ?_ r.dropLast ?_,ru,q⟩
 .show its.toArray.eraseIdxIfInBounds (its.toArray.size-1)=its.dropLast.toArray;rw[i8,List.eraseIdxIfInBounds_toArray,Ci]
 .rw[List.length_dropLast];omega
def Iq:V->List V->Hp->VK->Prop:=λx vs H Q=>∃l xs,x=.ref l/\vs=[]/\H l=some (.lst xs)/\Q .non (upd H l (.lst xs.reverse))
theorem mW:PV X "list.reverse" Iq:=by
 intro Nn s σ H x vs v us Q I rx rv h;obtain⟨l,xs,rfl,rfl,hH,q⟩:=h;cases rx
 have hus:=rv.zero;subst hus;obtain⟨z,its,n,r,hl,e⟩:=I.lstM hH;refine J7 F.slot_list_reverse ⟨_,e,rfl⟩ F.entry_list_reverse (F.args_list_reverse_1 _) (AutoSeq1.list_reverse_list_0 l its.toArray n (by rw[i8];omega)) ⟨e,?_⟩;refine⟨.non,_,I.lset (its':=its.reverse) hH e (by simp) r.reverse ?_,rfl,q⟩;rw[p6];omega
def rCat:R2:=λx y H Q=>∃l b xs zs,x=.ref l/\y=.ref b/\H l=some (.lst xs)/\H b=some (.lst zs)/\xs.length+zs.length<=sizeLine/\∀p,H p=none->Q (.ref p) (upd H p (.lst (xs++zs)))
theorem xF:NJ X (binaryOp .Add) rCat:=by
 intro Nn s σ H x y v u Q I rx ry h;obtain⟨l,b,xs,zs,rfl,rfl,hH,hB,hz,q⟩:=h;cases rx
 cases ry
 obtain⟨z,its,n,r,hl,e⟩:=I.lstM hH;obtain⟨z2,ND,n2,r2,Pe,e2⟩:=I.lstM hB;refine PySem.P.add_list e e2 ?_ (by rw[i8,i8];omega);have ea:its.toArray++ND.toArray=(its++ND).toArray:=by simp
 rw[ea];exact⟨.ref _,_,I.lnew (t':=s.toks) (r.append r2) (by rw[p7];omega),rfl,q _ I.fresh⟩
end
section
variable{prog:Program}{w:World}{A:Around}{E:Value->Shared->Prop}{s:Shared}
set_option maxRecDepth 100000 in
end
section
variable{X:Cx}
end
end L2
namespace Att
open PySem PySem.W PySem.Calls PyProof.Rows
variable{P:Params}{h:Heap}{n:Nat}{args:List WData}{NF:List Value}
theorem rf:∀(ns:List Int)(vs:List Value),WellAll P h vs (ns.map WData.int)->IntsAre vs ns:=by
 intro ns
 induction ns with
 | nil =>
  intro vs w;rw[My]at w;cases w
  exact .nil
 | cons n ns ih =>
  intro vs w;rw[v7]at w;cases w with
  | cons a b =>
   cases a
   exact .cons _ _ (ih _ b)
theorem EY{l:OpenLaw}(hn:l.most=some n)
  (Rl:l.row.toRowW.claim.pre args=true)(hwl:WellAll P h NF args) :
  ∃a vs ns,NF=[Value.ref a]/\args=[WData.list (ns.map WData.int)]/\h.get? a=some {cls:=.type "list",data:=.seq vs.toArray}/\IntsAre vs ns/\ns.length<=n:=by
 have hsh:WShape.hasAll [] args [.list .int]=true:=(pre_splitW Rl).1;have hc:l.pre.holds [] {args:=args}=true:=(pre_splitW Rl).2;obtain⟨d,r,rfl,h1,h2⟩:=hasAllW_cons hsh;obtain rfl:=hasAllW_nil h2;obtain⟨xs,rfl,h3⟩:=hasW_list h1;obtain⟨ns,rfl⟩:=items_int h3
 have hlen:ns.length<=n:=by
  unfold OpenLaw.pre at hc
  have h4:(WTm.not (.lt (.lit (.int (n:Int))) (.len (.arg 0)))).holds [] {args:=[.list (ns.map .int)] }=true:=by
   have h4:=(holds_andW hc).1;rw[hn]at h4;exact h4
  have h5:=condW_of h4 (w_not (w_lt w_lit (w_len_list (w_arg rfl))));rw[g6]at h5;refine Nat.le_of_not_lt λq=>?_;have q':(n:Int)<((ns.length:Nat):Int):=by omega
  first
   | (rw[j9 q']at h5;exact absurd h5 (by decide))
   | (simp at h5;omega)
 cases hwl with
 | cons w1 w2 =>
  cases w2
  cases w1 with
  | list ho UM=>exact⟨_,_,ns,rfl,rfl,ho,rf ns _ UM,hlen⟩
theorem Fi(l:OpenLaw)(args:List WData):l.row.toRowW.claim.post args (.bool true) args=true:=
 postW_of (r:=l.row.toRowW) (X:=(true==true))
  (show WShape.has [] (.bool true) .bool=true by first | rfl | decide | simp[WShape.has,WShape.arms,WShape.armsAll])
  (show(WTm.eq .res (.lit (.bool true))).value [] {args:=args,res:=some (.bool true),after:=args}=some (.bool (true==true)) from w_eq_bool (w_res rfl) w_lit) rfl
section
variable{prog:Program}{w:World}{A:Around}{E:Value->Shared->Prop}{s:Shared}{K:Frag}
end
end Att
namespace L2
open PySem PySem.Spec PyProof.Rows
variable{P:Program}{w:World}{mg mb:Str->Option Value}{CX:OZ}{a f:Addr}{fd:FuncData}{x qual:Str}{sp:Sp}{s₁:Shared}{vs:List Value}{ns:List Int}{X:Cx}{N ps:List Str}{oc:Value}{od an:Option Addr}{N7:Array (Option Value)}{A:Around}{n:Nat}{pos:Pos}{H H':Hp}
theorem vx:∀{vs:List Value}{ns:List Int},IntsAre vs ns->Vals (ns.map V.int) vs
 | _,_,.nil=>.nil
 | _,_,.cons n t h=>.cons ⟨t,rfl⟩ (vx h)
def R5(H:Hp):Prop:=∀b,H b=none\/∃o xs,H b=some (.frz o (.lst xs))
theorem JK{K:W.Frag}{k:Nat}{fa:Addr}
  (KX:K.In s₁.heap)(SW:s₁.heap.Ns mainGlobals mg)(hb:s₁.heap.Ns builtinsNs mb)(hbb:∀x:Str,x≠"__name__"->mb x=bootBuiltins x)(hlim:s₁.heap.NoLimit)(hg:s₁.gens=#[])
  (ha:s₁.heap.get? a=some {cls:=.type "list",data:=.seq vs.toArray})(hi:IntsAre vs ns)(hl:ns.length<=sizeLine)(hr:bX k callerA)
  (F:∀base:Heap,K.In base->base.Ns mainGlobals mg->gS P w K mg base CX k fa fd [x] sp)(X6:∀(s:Shared)(u:Value),BindsTo s fd ⟨[u],[]⟩ [(x,u)])
  (SV:∀H:Hp,R5 H->Nq K H a (ns.map V.int)->sp [.ref a] H (λv _=>v=.bl true) λ_ _ _=>False)
  (hCX:∀H e s',CX [] H s₁ (λ_ _ _=>False) e s'->False) :
  codeAny (model P w) callerA (.call (.ref fa) ⟨[.ref a],[]⟩) (λr s'=>r=.ok (.ret (.bool true))/\OldK s₁.heap s'.heap/\s'.os=s₁.os/\AllBare s'.gens) s₁:=by
 have rv:=vx hi;have Rg:=hi.length
 have core:∀H:Hp,R5 H->Nq K H a (ns.map V.int)->NP P w H s₁.heap->(∀b,H b≠none->b=a)->(H a≠none->K.lookup a=none)->
   codeAny (model P w) callerA (.call (.ref fa) ⟨[.ref a],[]⟩) (λr s'=>r=.ok (.ret (.bool true))/\OldK s₁.heap s'.heap/\s'.os=s₁.os/\AllBare s'.gens) s₁:=by
  intro H hO hS hok hA hK;have OW:∀{b:Addr}{o:Obj},s₁.heap.get? b=some o->H b=none->(xQ s₁.heap H).get? b=some o:=λe n=>JW e n
  have Xd:∀{b:Addr}{o:Obj}{es:Array DictEntry}{ep:Nat},s₁.heap.get? b=some o->o.data=.dict es ep->H b=none:=λ{b o es ep} e d=>by
   cases q:H b with
   | none=>rfl
   | some u =>
    have e':b=a:=hA b (by rw[q];simp);subst e';rw[ha]at e;cases e
    have d':Data.seq vs.toArray _=Data.dict es ep:=d;cases d'
  have Zt:∀{b:Addr}{m:Str->Option Value},s₁.heap.Ns b m->(xQ s₁.heap H).Ns b m:=λ{b m} ⟨o,es,ep,e,d,r⟩=>⟨o,es,ep,OW e (Xd e d),d,r⟩
  have hKb:K.In (xQ s₁.heap H):=λb o e=>OW (KX b o e) (by
   cases q:H b with
   | none=>rfl
   | some u =>
    have e':b=a:=hA b (by rw[q];simp);subst e';rw[hK (by rw[q];simp)]at e;cases e)
  have hM:Mod K mg (xQ s₁.heap H):=⟨hKb,Zt SW,⟨mb,Zt hb,hbb⟩,let ⟨mc,h1,h2⟩:=hlim;⟨mc,Zt h1,h2⟩⟩;have e0:CQ P w K mg (xQ s₁.heap H) callerA [] s₁ H:=⟨rfl,hM,λb o e=>Q6 e,Nat.le_of_eq (Gs _ _),trivial,λb hb=>absurd (show b∈([]:List Addr) from hb) (by simp),hok,.of_eq hg⟩;refine J5 ((F _ hKb (Zt SW)).run callerA [] s₁ H ⟨[.ref a],[]⟩ [.ref a] [.ref a] _ _ hr e0 (X6 s₁ (.ref a)) (.cons rfl .nil) (SV H hO hS)) λr s' h=>?_;cases r with
  | error e=>exact(hCX H e s' h).elim
  | ok fl =>
   cases fl with
   | next=>exact False.elim h
   | brk=>exact False.elim h
   | cont=>exact False.elim h
   | ret u =>
    obtain⟨v,H',os,bare,un,hok',r',q⟩:=h;have q':v=.bl true:=q;subst q';obtain rfl:u=Value.bool true:=r';refine⟨rfl,OldK.of_keep λb o e=>?_,os,bare⟩;cases q:H b with
    | none=>exact un.keep b o e q (by intro z;exact absurd (show b∈([]:List Addr) from z) (by simp)) (by simp)
    | some u =>
     rcases hO b with z | ⟨ob,xs,z⟩
     .rw[q]at z;cases z
     .have z2:=un.frzs b ob _ z;obtain⟨e1,_⟩:=hok b _ z;obtain⟨e2,_⟩:=hok' b _ z2;rw[e]at e1;cases e1
      exact e2
 cases hk:K.lookup a with
 | some o =>
  have e:=KX a o hk;rw[ha]at e;cases e
  refine core (λ_=>none) (λ_=>.inl rfl) (.inr ⟨_,vs.toArray,_,hk,rfl,rfl,rfl,by rw[i8,Rg];exact hl,by simpa using rv⟩) (λb u z=>by have z':(none:Option HO)=some u:=z;cases z') (λb z=>absurd rfl z) λz=>absurd rfl z
 | none =>
  refine core (λb=>if b=a then some (.frz {cls:=.type "list",data:=.seq vs.toArray} (.lst (ns.map V.int))) else none) (λb=>?_) (.inl (.inr ⟨{cls:=.type "list",data:=.seq vs.toArray},k9 rfl⟩)) (λb u z=>?_) (λb z=>?_) λ_=>hk
  .by_cases hb:b=a
   .exact .inr ⟨_,_,k9 hb⟩
   .exact .inl (h9 hb)
  .by_cases hb:b=a
   .have z':=(k9 hb).symm.trans z;cases z'
    subst hb;exact⟨ha,by rw[g6];exact hl,vs,_,rv,ha⟩
   .have z':=(h9 hb).symm.trans z;cases z'
  .by_cases hb:b=a
   .exact hb
   .exact absurd (h9 hb) z
noncomputable abbrev KOf {K:W.Frag} {h:Heap} (_:K.In h):W.Frag:=K
noncomputable def inClass(s:Stmt)(j:Nat):Stmt:=match s with
 | .ClassDef _ _ _ body _ _ _ _ _ _ _=>body.getD j (.Pass ⟨0,0,0,0⟩)
 | _=>.Pass ⟨0,0,0,0⟩
noncomputable def df(s:Stmt):Arguments:=match s with
 | .FunctionDef _ a _ _ _ _ _ _ _ _=>a
 | _=>{posonlyargs:=[],args:=[],vararg:=none,kwonlyargs:=[],kw_defaults:=[],kwarg:=none,defaults:=[] }
noncomputable def aZ(s:Stmt):List Stmt:=match s with
 | .FunctionDef _ _ b _ _ _ _ _ _ _=>b
 | _=>[]
noncomputable def ai(s:Stmt):Scope:=match s with
 | .FunctionDef _ _ _ _ _ _ sc _ _ _=>sc
 | _=>{kind:=.function,names:=[],isGenerator:=false,isCoroutine:=false}
noncomputable abbrev CX0:OZ:=λ_ _ _ _ _ _=>False
noncomputable abbrev E0:XK:=λ_ _ _=>False
theorem vV:Passes CX0 X E0:=λ_ _ _ _ _ _ _ h=>h.elim
structure OY(K:W.Frag)(x qual:Str)(st:Stmt)(f:Addr)(fd:FuncData):Prop where
 ex:∃(oc:Value)(od:Option Addr)(kV doc pm:Value)(an:Option Addr)(cdv ct:Value)(N7:Array (Option Value)),
  fd=PySem.W.fnOf x qual (df st) (aZ st) (ai st) .none kV doc pm an cdv ct/\K.lookup f=some ⟨oc,od,.func fd,N7⟩/\PySem.W.codeIn K cdv qual=true
 kp:PySem.W.keepIn K (.ref f)=true
variable{P:Program}{w:World}{K:W.Frag}{mg:Str->Option Value}{base:Heap}
theorem OY.ok{st:Stmt}{k:Nat}(F:OY K x qual st f fd)(S:ao N ps (ai st))(len:∀vs H Q E,sp vs H Q E->vs.length=ps.length)
  (Pz:∀(cdv:Value)(A:Around)(outer:List Env)(s:Shared)(H:Hp)(vs:List V)(Q:VK)(E:XK),bX k (A.deeper (envOfC qual (ai st) s.heap.objs.size f cdv))->sp vs H Q E->
   ∃t,NU (bM CX0 P w K mg base N qual (ai st) f cdv A outer s H E).nox (aZ st) t/\t {nx:=λ_ H'=>Q .non H',rt:=Q} (start N vs) H):gS P w K mg base CX0 (k+1) f fd ps sp:=by
 obtain⟨oc,od,kV,doc,pm,an,cdv,ct,N7,rfl,lk,NZ⟩:=F.ex;refine Ef lk NZ S len λA outer s H vs Q E hr SV=>?_;obtain⟨t,h,q⟩:=Pz cdv A outer s H vs Q E hr SV;exact⟨t,h.nox,q⟩
theorem OY.binds{st:Stmt}(F:OY K x qual st f fd)
  (h:∀(kV doc pm:Value)(an:Option Addr)(cdv ct:Value)(us:List Value),us.length=ps.length->bindArgs (PySem.W.fnOf x qual (df st) (aZ st) (ai st) .none kV doc pm an cdv ct) ⟨us,[]⟩=pure (ps.zip us)):Binds K fd ps []:=by
 obtain⟨oc,od,kV,doc,pm,an,cdv,ct,N7,rfl,lk,NZ⟩:=F.ex;exact .all (h kV doc pm an cdv ct)
theorem Cc{st:Stmt}{kV doc pm cdv ct:Value}(l:K.lookup f=some ⟨oc,od,.func (PySem.W.fnOf x qual (df st) (aZ st) (ai st) .none kV doc pm an cdv ct),N7⟩)
  (c:PySem.W.codeIn K cdv qual=true)(k:PySem.W.keepIn K (.ref f)=true):OY K x qual st f (PySem.W.fnOf x qual (df st) (aZ st) (ai st) .none kV doc pm an cdv ct):=⟨⟨oc,od,kV,doc,pm,an,cdv,ct,N7,rfl,l,c⟩,k⟩
theorem XB{k:Nat}(hr:bX k A):A.units+1<cLine:=j7 (J0 (by decide:1<=64) _) hr.units
theorem jq(h:n<=1000):n<sizeLine:=j7 h (by decide)
section
variable{X:Cx}
theorem pv(i:Nat)(hN:X.N[i]?=some x:=by rfl)(hv:Y6 X.env.scope x:=by first | exact Or.inl rfl | exact Or.inr (Or.inl rfl) | exact Or.inr (Or.inr rfl))(hd:(x==("__debug__":Str))=false:=by decide)
  (NZ:(x==("__classdict__":Str))=false:=by decide):PE X (.Name x pos) (Wl i):=IC hN hv hd NZ
end
theorem bz{A B:Prop}(h:B):if false=true then A else B:=by
 rw[h9 i6];exact h
theorem cL{A B:Prop}(h:A):if true=true then A else B:=by
 rw[k9 rfl];exact h
theorem kz{c A B:Prop}[Decidable c](h1:c->A)(h2:¬c->B):if c then A else B:=by
 by_cases h:c
 .rw[k9 h];exact h1 h
 .rw[h9 h];exact h2 h
theorem JS{c A B:Prop}[Decidable c](hc:c)(h:B):if(!decide c)=true then A else B:=by
 rw[j9 hc];exact bz h
def aC(H H':Hp):Prop:=∀b o,H b=some o->H' b=some o
theorem aC.refl(H:Hp):aC H H:=λ_ _ h=>h
theorem aC.trans{H1 H2:Hp}(a:aC H H1)(b:aC H1 H2):aC H H2:=λc o h=>b c o (a c o h)
theorem aC.free(e:aC H H'){l:Addr}(h:H' l=Option.none):H l=Option.none:=by
 cases q:H l with
 | none=>rfl
 | some o =>
  rw[e l o q]at h;cases h
theorem aC.seq{xs:List V}(e:aC H H')(h:Nq K H a xs):Nq K H' a xs:=by
 rcases h with(h | ⟨o,h⟩) | h
 .exact .inl (.inl (e _ _ h))
 .exact .inl (.inr ⟨o,e _ _ h⟩)
 .exact .inr h
end L2
set_option maxHeartbeats 4000000
namespace L2
open PySem PySem.Spec PyProof.Rows
variable{scope:Scope}{j tk i t' c₀:Nat}{js:List Nat}{y x:Str}{env:Env}{Nn:List (Addr×Obj)}{s:Shared}{σ:St}{H:Hp}{h base B h6:Heap}{mg:Str->Option Value}{st:Stmt}{f ea C b a:Addr}{od an:Option Addr}{N7:Array (Option Value)}{N ps loose:List Str}{sp:Sp}{M:Model}{K:Frag}{bmB:List Value}{newId:String}{e₀:Expr}{es:List Expr}{ta:TA}{pos:Pos}{A:Around}{E:Value->Shared->Prop}{ns:List Int}{q prog:Program}{XP:(Str->Option Value)->Heap->Prop}{YP:World->Heap->Prop}{CX:OZ}
noncomputable def aU(X:Cx)(scope:Scope)(cl:List (Str×Addr))(N:List Str)(s:Shared)(H:Hp)(fp:List Addr):Cx:=
 {prog:=X.prog,w:=X.w,K:=X.K,mg:=X.mg,base:=X.base,A:=X.A,N:=N,s₀:=s,H₀:=H,env:=compEnvC scope cl s.heap.objs.size X.env,
  outer:=X.stack,stack:=X.stack,ex:=fp,fn:=λ_=>false,calm:=X.calm,pn:=[],xe:=λ_ _=>False}
noncomputable def bG(X:Cx)(x:Str)(js:List Nat):List Str:=x::js.map λj=>X.N.getD j ""
noncomputable def bI(js:List Nat)(σ:St):St:=js.map λj=>(σ[j]?).getD none
structure dF(X:Cx)(scope:Scope)(js:List Nat):Prop where
 all:∀j∈js,∃y,X.N[j]?=some y/\(X.env.kindOf y=some .cell\/X.env.kindOf y=some .free)/\(y,NameKind.free)∈scope.names/\
  ((relabel scope X.env).names.lookup y=some .cell\/(relabel scope X.env).names.lookup y=some .free)
theorem dS:dF X scope []:=⟨λ_ h=>nomatch h⟩
theorem iS(r:dF X scope js)(h1:X.N[j]?=some y:=by rfl)(h2:X.env.kindOf y=some .cell\/X.env.kindOf y=some .free:=by exact Or.inl rfl)(h3:(y,NameKind.free)∈scope.names:=by decide+kernel)(h4:(relabel scope X.env).names.lookup y=some .cell\/(relabel scope X.env).names.lookup y=some .free:=by exact Or.inl rfl):dF X scope (j::js):=
 ⟨λk hk=>by
  rcases j8.mp hk with e | e
  .subst e;exact⟨y,h1,h2,h3,h4⟩
  .exact r.all k e⟩
theorem cJ:∀{names:List (Str×NameKind)}{y:Str}{k:NameKind},
  (names.map λ(n,k)=>if(k==NameKind.free && env.scope.kind == .function && env.kindOf n==some .cell) then(n,NameKind.cell) else(n,k)).lookup y=some k->
  ∃k',(y,k')∈names/\(k'=k\/(k=.cell/\k'=.free))
 | [],_,_,h=>by simp at h
 | (n,k0)::r,y,k,h=>by
  by_cases hc:(k0==NameKind.free && env.scope.kind == .function && env.kindOf n==some .cell)=true
  .rw[v7]at h;dsimp only at h;rw[k9 hc]at h;simp only[A0]at h
   have hf:k0=.free:=by
    rw[t7,t7]at hc;exact D4.mp hc.1.1
   cases hx:y==n with
   | true =>
    rw[hx]at h;have e:=D4.mp hx;subst e;have e2:=i7 h;exact⟨k0,B5,.inr ⟨e2.symm,hf⟩⟩
   | false =>
    rw[hx]at h;obtain⟨k',m,q⟩:=cJ h;exact⟨k',p8 _ m,q⟩
  .rw[v7]at h;dsimp only at h;rw[h9 hc]at h;simp only[A0]at h;cases hx:y==n with
   | true =>
    rw[hx]at h;have e:=D4.mp hx;subst e;have e2:=i7 h;exact⟨k0,B5,.inl e2⟩
   | false =>
    rw[hx]at h;obtain⟨k',m,q⟩:=cJ h;exact⟨k',p8 _ m,q⟩
section
variable{X:Cx}{Nn:List (Addr×Obj)}{σ:St}{H:Hp}{s:Shared}{scope:Scope}{cl:List (Str×Addr)}{x:Str}{js:List Nat}{fp:List Addr}
theorem RK(I:Inv X Nn σ H s)(hk:scope.kind=.function)(Nu:∀y∈scope.names,y.2≠.cell)
  (Nz:∀y c,cl.lookup y=some c->X.env.cells.lookup y=some c)(NC:∀y,(y,NameKind.free)∈scope.names->∃c,cl.lookup y=some c)
  (hf:∀b∈fp,gR X Nn H b)(Ny:∀b∈fp,b<s.heap.objs.size):(aU X scope cl (bG X x js) s H fp).Ok where
 mod:=I.ok.mod
 kind:=hk
 glob:=I.ok.glob
 blt:=I.ok.blt
 above:=f7 _
 inj:=λy z c h1 h2=>I.ok.inj y z c (Nz y c h1) (Nz z c h2)
 has:=λy hy=>by
  have Xy:(relabel scope X.env).names.lookup y=some .cell\/(relabel scope X.env).names.lookup y=some .free:=hy;rcases Xy with h | h
  .obtain⟨k',m,q⟩:=cJ h;rcases q with q | ⟨_,q⟩
   .exact absurd q (Nu _ m)
   .subst q;exact NC y m
  .obtain⟨k',m,q⟩:=cJ h;rcases q with q | ⟨q,_⟩
   .subst q;exact NC y m
   .cases q
 cab:=λy c h _=>by cases h
 hd:=I.ok.hd
 frames:=I.ok.frames
 stk:=.inl rfl
 exf:=λb hb=>⟨v3 (Ny b hb),λy c h=>(hf b hb).2.2.2.2.1 y c (Nz y c h)⟩
 bs:=I.bs
 bsz:=h8 I.ok.bsz I.sz
 noex:=λb o e hb=>by
  rcases(hf b hb).2.2.2.1 with z | z
  .exact I.ok.noex b o e z
  .exact absurd (i5 (f9 e) (h8 I.ok.bsz z)) (y7 _)
 exfs:=λb hb hz=>(j8.mp (I.stkSub b hz)).elim (hf b hb).2.1 (hf b hb).2.2.1
 funs:=I.stack
 frf:=I.stkFree
theorem Ck{tk:Nat}(I:Inv X Nn σ H s)(hk:scope.kind=.function)(Nu:∀y∈scope.names,y.2≠.cell)
  (Nz:∀y c,cl.lookup y=some c->X.env.cells.lookup y=some c)(NC:∀y,(y,NameKind.free)∈scope.names->∃c,cl.lookup y=some c)(N3:dF X scope js)
  (hf:∀b∈fp,gR X Nn H b)(Ny:∀b∈fp,b<s.heap.objs.size)(hn:h₁.Ns s.heap.objs.size m)(NX:∀b o,s.heap.get? b=some o->h₁.get? b=some o) :
  Inv (aU X scope cl (bG X x js) s H fp) [] (none::bI js σ) H {s with heap:=h₁,toks:=tk} where
 ok:=RK I hk Nu Nz NC hf Ny
 os:=rfl
 bare:=I.bare
 base:=Un.kept NX
 loc:=by
  refine⟨m,hn,λi y v h1 h2 h3=>?_⟩;cases i with
  | zero =>
   have z:(some none:Option (Option V))=some (some v):=h2;cases z
  | succ k =>
   have O6:(js.map λj=>X.N.getD j "")[k]?=some y:=h1;have Oj:(js.map λj=>(σ[j]?).getD none)[k]?=some (some v):=h2;rw[y4]at O6 Oj;cases hj:js[k]? with
   | none=>rw[hj]at O6;cases O6
   | some j =>
    rw[hj]at O6 Oj;have e1:X.N.getD j ""=y:=i7 O6;have e2:(σ[j]?).getD none=some v:=i7 Oj;obtain⟨y',n1,n2,n3,n4⟩:=N3.all j (x3 hj);have e3:y'=y:=by rw[<- e1,C5,n1];rfl
    subst e3
    have e4:σ[j]?=some (some v):=by
     cases q:σ[j]? with
     | none=>rw[q]at e2;cases e2
     | some a=>rw[q]at e2;exact y9 some e2
    obtain⟨m0,_,hl⟩:=I.loc;obtain⟨u,r,l⟩:=hl j y' v n1 e4 (n2.elim (λz=>Or.inr (Or.inl z)) λz=>Or.inr (Or.inr z));refine⟨u,r,.inr ⟨n4,?_⟩⟩;rcases l with⟨l,_⟩ | ⟨_,c,hc,hi⟩
    .exfalso;rcases n2 with z | z<;>(rw[z]at l;cases l)
    .obtain⟨c',OC⟩:=NC y' n3;have e5:=Nz y' c' OC;rw[hc]at e5;have e6:=i7 e5;subst e6;obtain⟨o,ho,hd⟩:=hi;exact⟨c,OC,o,NX c o ho,hd⟩
 cell:=λy c h=>by
  obtain⟨v,o,ho,hd⟩:=I.cell y c (Nz y c h);exact⟨v,o,NX c o ho,hd⟩
 free:=I.hok.fresh (f7 _)
 freeC:=λy c h=>I.freeC y c (Nz y c h)
 pin:=λp hp=>absurd (show p∈([]:List (Addr×Obj)) from hp) (by simp)
 hok:=I.hok.kept NX
 len:=by
  show(none::bI js σ).length=(bG X x js).length;simp[bI,bG]
end
def P8(X:Cx)(ifs:List Expr)(t:TT):Prop:=
 ∀Nn s σ H Q,Inv X Nn σ H s->t σ H Q->
  wpAny (model X.prog X.w) X.A (forIn ifs true λc r=>if r=true then do let ok <- isTrue c X.env (eval c X.env);pure (ForInStep.yield ok) else pure (ForInStep.yield r)) (TP X Nn σ Q) X.xe s
def qu:TT:=λ_ H Q=>Q true H
theorem eJ:P8 X [] qu:=λ_ _ _ H _ I h=>wpAny_tests_nil ⟨H,I,h⟩
theorem DS(h:PT X c t):P8 X [c] t:=λNn s σ H Q I q=>wpAny_tests_one (h Nn s σ H Q I q)
def jo(wi:TI)(tc:TT)(te:TE)(js:List Nat):TE:=λσ H Q=>wi σ H λJ H1=>∀D,H1 D=none->
 ∃W:Nat->Nat->Hp->Prop,(∃m,W 0 m (upd H1 D (.lst [])))/\∀i m H2,W i m H2->(J.stop i H2/\Q (.ref D) H2)\/
  (J.go i H2/\∀v H3,J.yld i H2 v H3->tc (some v::bI js σ) H3 λb H4=>if b=true then te (some v::bI js σ) H4 λy H5 =>
   ∃ys,H5 D=some (.lst ys)/\ys.length<sizeLine/\∃m',m'<m/\W (i+1) m' (upd H5 D (.lst (ys++[y]))) else ∃m',m'<m/\W (i+1) m' H4)
section
variable{X:Cx}{elt Nt:Expr}{x:Str}{px pos:Pos}{ifs:List Expr}{scope:Scope}{cl:List (Str×Addr)}{wi:TI}{tc:TT}{te:TE}{js:List Nat}
theorem wB
  (hc:X.calm=true) (hi:PI X (.Name x px) Nt wi) (hk:scope.kind=.function) (Nu:∀y∈scope.names,y.2≠.cell) (hx:(relabel scope X.env).names.lookup x=some .local)
  (Nz:∀y c,cl.lookup y=some c->X.env.cells.lookup y=some c) (NC:∀y,(y,NameKind.free)∈scope.names->∃c,cl.lookup y=some c) (N3:dF X scope js) (Of:(bG X x js).Nodup)
  (ht:∀s' H' fp,P8 (aU X scope cl (bG X x js) s' H' fp) ifs tc) (he:∀s' H' fp,PE (aU X scope cl (bG X x js) s' H' fp) elt te)
  (I:Inv X Nn σ H s) (h:jo wi tc te js σ H Q)
  (fin:∀D C H' s',Inv X Nn σ H' s'->gR X Nn H' C->(∃m,s'.heap.Ns C m)->Q (.ref D) H'->compPost (model X.prog X.w) X.A X.xe use Qv (.ref D) C (.ok .next) s') :
  wpAny (model X.prog X.w) X.A (eval Nt X.env) (λxv s₁=>wpAny (model X.prog X.w) X.A (pyIter xv) (λit s₂=>wpAny (model X.prog X.w) X.A (newList []) (λacc s₃ =>
   wpAny (model X.prog X.w) X.A (newFunctionEnv scope X.env.globals cl [] X.env.qual none .none (some X.env)) (λOE s₄ =>
    codeAny (model X.prog X.w) X.A (.compStart (.ListComp elt [⟨.Name x px,Nt,ifs,0⟩] scope pos) 0 it acc {OE with scope:=relabel scope X.env})
     (compPost (model X.prog X.w) X.A X.xe use Qv acc OE.locals) s₄) X.xe s₃) X.xe s₂) X.xe s₁) X.xe s:=by
 refine Nr (hi Nn s σ H _ I h) λv s1 h1=>Nr h1 λXp s2 h2=>?_;obtain⟨it,fp,tn,J,H2,e,I2,T,P1,f2,hW⟩:=h2;subst e;obtain⟨W,⟨m0,w0⟩,turn⟩:=hW s2.heap.objs.size (I2.hok.fresh (f7 _));have OB:∀b∈fp,b<s2.heap.objs.size:=λb hb=>let ⟨_,e,_⟩:=T.obj _ _ P1 b hb;f9 e
 have I3:Inv X Nn σ (upd H2 s2.heap.objs.size (.lst [])) {s2 with heap:=s2.heap.push {cls:=.type "list",data:=.seq ([]:List Value).toArray} }:=
  I2.lnew (t':=s2.toks) (its:=[]) .nil (z5 _)
 refine C4 ?_;have Xo:∀b o,s2.heap.get? b=some o->(s2.heap.push {cls:=.type "list",data:=.seq ([]:List Value).toArray}).get? b=some o:=λb o e=>e9 _ e;have WI:(s2.heap.push {cls:=.type "list",data:=.seq ([]:List Value).toArray}).objs.size=s2.heap.objs.size+1:=A7 ..;generalize XI:({s2 with heap:=s2.heap.push {cls:=.type "list",data:=.seq ([]:List Value).toArray} }:Shared)=s3 at I3
 have Oy:s3.heap=s2.heap.push {cls:=.type "list",data:=.seq ([]:List Value).toArray}:=by rw[<- XI]
 have OA:∀b∈fp,b<s3.heap.objs.size:=λb hb=>by rw[Oy,WI];exact LR (OB b hb)
 have f3:∀b∈fp,gR X Nn (upd H2 s2.heap.objs.size (.lst [])) b:=λb hb=>⟨by rw[aj (v3 (OB b hb))];exact(f2 b hb).1,(f2 b hb).2⟩;refine Mg Nu (by intro y hy;simp at hy) (λh₁ SW XH=>?_) hk;have SQ:∀b o,s3.heap.get? b=some o->h₁.get? b=some o:=λb o e=>XH.extBut b o (v3 (f9 e)) (e9 _ e);have I4:=Ck (x:=x) (js:=js) (tk:=s3.toks+([]:List (Str×Value)).length) I3 hk Nu Nz NC N3 f3 OA SW SQ;have Sq:tn 0 h₁:=T.keep 0 _ _ P1 λb hb o e=>SQ b o (by rw[Oy];exact Xo b o e)
 have NS:∀{H':Hp},(∀b∈fp,H' b=none)->∀b∈fp,gR (aU X scope cl (bG X x js) s3 (upd H2 s2.heap.objs.size (.lst [])) fp) [] H' b:=λhn b hb =>
  ⟨hn b hb,v3 (OA b hb),λhz=>(j8.mp (I3.stkSub b hz)).elim (f2 b hb).2.1 (f2 b hb).2.2.1,.inl hb,λy c q=>(f2 b hb).2.2.2.2.1 y c (Nz y c q),λp hp=>absurd (show p∈([]:List (Addr×Obj)) from hp) (by simp)⟩
 have back:∀{σ':St}{H':Hp}{s':Shared},Inv (aU X scope cl (bG X x js) s3 (upd H2 s2.heap.objs.size (.lst [])) fp) [] σ' H' s'->Inv X Nn σ H' s':=λ{σ' H' s'} J' =>
  I3.call' (ch:=fp) J'.os J'.base J'.hok J'.bare λb hb=>⟨(f2 b hb).2.2.2.1,(f2 b hb).2.1,(f2 b hb).2.2.2.2.1,(f2 b hb).2.2.2.2.2⟩
 have loop:codeAny (model X.prog X.w) X.A (.compLoop (.ListComp elt [⟨.Name x px,Nt,ifs,0⟩] scope pos) 0 (.ref it) (.ref s2.heap.objs.size) (compEnvC scope cl s3.heap.objs.size X.env))
   (compPost (model X.prog X.w) X.A X.xe use Qv (.ref s2.heap.objs.size) s3.heap.objs.size) {s3 with heap:=h₁,toks:=s3.toks+([]:List (Str×Value)).length}:=by
  refine codeAny_compLoop_tests (λn s'=>∃i o H',Inv (aU X scope cl (bG X x js) s3 (upd H2 s2.heap.objs.size (.lst [])) fp) [] (o::bI js σ) H' s'/\tn i s'.heap/\(∀b∈fp,H' b=none)/\W i n H') ?_ m0
   ⟨0,none,_,I4,Sq,λb hb=>(f3 b hb).1,w0⟩
  rintro n s5 ⟨i,o,H5,I5,O9,P5,w5⟩
  rcases turn i n H5 w5 with⟨stop,q⟩ | ⟨go,step⟩
  .refine Nr (T.done (aU X scope cl (bG X x js) s3 (upd H2 s2.heap.objs.size (.lst [])) fp) rfl rfl rfl hc i [] s5 _ H5 _ I5 (NS P5) O9 stop) λr s6 zz=>?_;obtain⟨hr,I6⟩:=zz;subst hr;exact fin _ _ H5 s6 (back I6) (I3.fpOk (f7 _) I6.free) (let ⟨m,hm,_⟩:=I6.loc;⟨m,hm⟩) q
  .refine Nr (T.item (aU X scope cl (bG X x js) s3 (upd H2 s2.heap.objs.size (.lst [])) fp) rfl rfl rfl hc i [] s5 _ H5 _ I5 (NS P5) O9 go) λr s6 zz=>?_;obtain⟨u,hr,h6⟩:=zz;subst hr;show wpAny _ _ (assign (.Name x px) _ u) _ _ s6;intro Γ p hΓ;have h6':=h6 Γ p hΓ;obtain⟨v,H6,I6,r6,y6,Po,YB⟩:=h6';refine(?_:wpAny _ _ _ _ _ s6) Γ p hΓ;have Zc:=I6.pinned (NS YB) (T.obj _ _ Po);have hg:PG (aU X scope cl (bG X x js) s3 (upd H2 s2.heap.objs.size (.lst [])) fp) (.Name x px) (ud 0):=aX (i:=0) Of rfl (Or.inl hx) (.inr hx);refine v8 (hg _ s6 _ H6 v u (λσ' H'=>σ'=some v::bI js σ/\H'=H6) Zc r6 ⟨rfl,rfl⟩) (λ_ s7 q7=>?_) (λ_ _ f=>False.elim f);obtain⟨σ7,H7,I7,e7,e8⟩:=q7;subst e7 e8;refine v8 (ht s3 _ fp _ s7 _ H7 _ I7 (step v H7 y6)) (λok s8 q8=>?_) (λ_ _ f=>False.elim f);obtain⟨H8,I8,q8⟩:=q8
   have again:∀{s9:Shared}{σ9:St}{H9:Hp}{m':Nat},Inv (aU X scope cl (bG X x js) s3 (upd H2 s2.heap.objs.size (.lst [])) fp) ([]++pY fp s6.heap) (some v::bI js σ) H9 s9->m'<n->W (i+1) m' H9->
     ∃m,m<n/\∃i o H',Inv (aU X scope cl (bG X x js) s3 (upd H2 s2.heap.objs.size (.lst [])) fp) [] (o::bI js σ) H' s9/\tn i s9.heap/\(∀b∈fp,H' b=none)/\W i m H':=λ{s9 σ9 H9 m'} I9 hm w9=>by
    refine⟨m',hm,i+1,some v,H9,I9.unpinned,T.keep _ _ _ Po λb hb o e=>(I9.pin (b,o) (r8 _ (r8 _ (dB hb e)))).1,λb hb=>?_,w9⟩;obtain⟨o,e,d⟩:=T.obj _ _ Po b hb;exact(I9.pin (b,o) (r8 _ (r8 _ (dB hb e)))).2.1
   cases ok with
   | false =>
    rw[h9 i6]at q8 ⊢;obtain⟨m',hm,w9⟩:=q8;exact again (σ9:=[]) I8 hm w9
   | true =>
    rw[k9 rfl]at q8 ⊢;refine v8 (he s3 _ fp _ s8 _ H8 _ I8 q8) (λy s9 q9=>?_) (λ_ _ f=>False.elim f);obtain⟨yv,H9,I9,r9,ys,hD,hl,m',hm,w9⟩:=q9;refine v8 (aQ (X:=aU X scope cl (bG X x js) s3 (upd H2 s2.heap.objs.size (.lst [])) fp) _ s9 _ H9 (.ref s2.heap.objs.size) [yv] (.ref s2.heap.objs.size) [y] (λ_ H'=>H'=upd H9 s2.heap.objs.size (.lst (ys++[yv]))) I9 rfl (.cons r9 .nil) ⟨_,ys,yv,rfl,rfl,hD,hl,rfl⟩) (λ_ s10 WZ=>?_) (λ_ _ f=>False.elim f);obtain⟨_,H10,VF,_,YL⟩:=WZ;subst YL;exact again (σ9:=[]) VF hm w9
 exact LS loop (T.self _ 0 _ _ _ Sq loop)
theorem QR(hc:X.calm=true)(hi:PI X (.Name x px) Nt wi)(hk:scope.kind=.function)(Nu:∀y∈scope.names,y.2≠.cell)(Nx:∀y∈scope.names,y.2=.local->scope.names.lookup y.1=some .local)(hx:(relabel scope X.env).names.lookup x=some .local)
  (Oa:closureFor scope X.env=pure cl)(Nz:∀y c,cl.lookup y=some c->X.env.cells.lookup y=some c)(NC:∀y,(y,NameKind.free)∈scope.names->∃c,cl.lookup y=some c)(N3:dF X scope js)(Of:(bG X x js).Nodup)
  (ht:∀s' H' fp,P8 (aU X scope cl (bG X x js) s' H' fp) ifs tc)(he:∀s' H' fp,PE (aU X scope cl (bG X x js) s' H' fp) elt te)
  (hs:∀x,foldedSetIterable Nt X.env x=pure x:=by intro _;rfl):PE X (.ListComp elt [⟨.Name x px,Nt,ifs,0⟩] scope pos) (jo wi tc te js):=by
 intro Nn s σ H Q I h;rw[eval_ListComp];refine E5 (use:=none) rfl hs Oa hk Nx (wB hc hi hk Nu hx Nz NC N3 Of ht he I h λD C H' s' I' fC hC q=>?_);obtain⟨m,hm⟩:=hC;refine⟨m,hm,λh' sb=>?_⟩;obtain⟨f0,f1,f2,f3,f4,f5⟩:=fC;exact⟨.ref D,H',I'.turned (t':=s'.toks) (λb o hb e=>(sb.2 b hb).trans e) f0 f1 f3 f4 f5,rfl,q⟩
def sj(i:Nat)(te:TE):TS:=λD σ H=>te σ H λv H1=>D.nx (σ.set i (some v)) H1
theorem QJ(hN:X.N.Nodup)(hy:X.N[i]?=some y)(Xw:Loc X.env.scope y)(Xx:X.fn y=true\/X.env.scope.names.lookup y=some .local)
  (UC:swapsWith (.ListComp elt [⟨.Name x px,Nt,ifs,0⟩] scope pos) (some (.Name y py)) O0.line X.env=pure true)
  (hc:X.calm=true)(hi:PI X (.Name x px) Nt wi)(hk:scope.kind=.function)(Nu:∀y∈scope.names,y.2≠.cell)(Nx:∀y∈scope.names,y.2=.local->scope.names.lookup y.1=some .local)(hx:(relabel scope X.env).names.lookup x=some .local)
  (Oa:closureFor scope X.env=pure cl)(Nz:∀y c,cl.lookup y=some c->X.env.cells.lookup y=some c)(NC:∀y,(y,NameKind.free)∈scope.names->∃c,cl.lookup y=some c)(N3:dF X scope js)(Of:(bG X x js).Nodup)
  (ht:∀s' H' fp,P8 (aU X scope cl (bG X x js) s' H' fp) ifs tc)(he:∀s' H' fp,PE (aU X scope cl (bG X x js) s' H' fp) elt te)
  (hs:∀x,foldedSetIterable Nt X.env x=pure x:=by intro _;rfl) :
  PS X (.Assign [.Name y py] (.ListComp elt [⟨.Name x px,Nt,ifs,0⟩] scope pos) O0) (sj i (jo wi tc te js)):=by
 intro Nn s σ H D I h;rw[exec_Assign_Name_used _ _ _ _ UC];refine b6 (Mb (b6 ?_));show wpAny _ _ (do let _ <- comprehension (.ListComp elt [⟨.Name x px,Nt,ifs,0⟩] scope pos) scope X.env _ (newList []) false (eval Nt X.env) (some (assign (.Name y py) X.env))) _ _ s
 refine b6 (v8 (E5 (use:=some (assign (.Name y py) X.env)) (Q:=λ_ s'=>SP X Nn D .next s') rfl hs Oa hk Nx
  (wB hc hi hk Nu hx Nz NC N3 Of ht he I h λD' C H' s' I' fC hC q=>?_)) (λ_ s' hq=>f6 (f6 hq)) λ_ _ e=>e)
 obtain⟨m,o,es,ep,ho,hd,hr⟩:=hC;obtain⟨f0,f1,f2,f3,f4,f5⟩:=fC
 have Ip:Inv X (Nn++[(C,o)]) σ H' s':=I'.pins_of λp hp=>(D0.mp hp).elim (λz=>I'.pin p (r8 _ z)) λz=>by
  have e:p=(C,o):=by simpa using z
  subst e;exact⟨ho,f0,f1,f2,λv z=>by rw[hd]at z;cases z⟩
 have hg:PG X (.Name y py) (ud i):=aX hN hy Xw Xx;refine Nr (hg _ s' σ H' (.ref D') (.ref D') (λσ' NB=>σ'=σ.set i (some (.ref D'))/\NB=H') Ip rfl ⟨rfl,rfl⟩) λ_ TR q''=>?_;obtain⟨σ'',NB,Zd,e1,e2⟩:=q'';subst e1 e2;have hp:=(Zd.pin (C,o) (by simp)).1;refine⟨m,⟨o,es,ep,hp,hd,hr⟩,λh' sb=>?_⟩;exact⟨_,_,(Zd.unpinned).turned (t':=TR.toks) (λb o hb e=>(sb.2 b hb).trans e) f0 f1 f3 f4 f5,q⟩
end
structure aA(K:W.Frag)(mg:Str->Option Value)(x:Str)(st:Stmt):Prop where
 ex:∃(f:Addr)(fd:FuncData),OY K x x st f fd/\mg x=some (.ref f)
theorem aM{K:W.Frag}{oc kV doc pm cdv ct:Value}(X:K.In h)(G:h.Ns mainGlobals mg)
  (a:PySem.W.nsIn K mainGlobals x=some (some (.ref f)))
  (l:K.lookup f=some ⟨oc,od,.func (PySem.W.fnOf x x (df st) (aZ st) (ai st) .none kV doc pm an cdv ct),N7⟩)
  (c:PySem.W.codeIn K cdv x=true)(k:PySem.W.keepIn K (.ref f)=true):aA K mg x st:=
 ⟨_,_,Cc l c k,LC X G a⟩
structure Def(P:Program)(w:World)(K:W.Frag)(mg:Str->Option Value)(base:Heap)(n:Nat)(x:Str)(ps:List Str)(sp:Sp):Prop where
 ex:∃(f:Addr)(fd:FuncData),gS P w K mg base CX0 n f fd ps sp/\Binds K fd ps []/\PySem.W.keepIn K (.ref f)=true/\mg x=some (.ref f)
variable{P:Program}{w:World}{K:W.Frag}{mg:Str->Option Value}{base:Heap}
theorem aY{k:Nat}(T:aA K mg x st)(S:ao N ps (ai st))
  (bd:∀kV doc pm an cdv ct us,us.length=ps.length->bindArgs (PySem.W.fnOf x x (df st) (aZ st) (ai st) .none kV doc pm an cdv ct) ⟨us,[]⟩=pure (ps.zip us))
  (len:∀vs H Q E,sp vs H Q E->vs.length=ps.length)
  (body:∀f cdv A outer s H vs Q E,bX k (A.deeper (envOfC x (ai st) s.heap.objs.size f cdv))->sp vs H Q E->
   ∃t,NU (bM CX0 P w K mg base N x (ai st) f cdv A outer s H E).nox (aZ st) t/\t {nx:=λ_ H'=>Q .non H',rt:=Q} (start N vs) H) :
  Def P w K mg base (k+1) x ps sp:=by
 obtain⟨f,fd,F,m⟩:=T.ex;exact⟨f,fd,F.ok S len (body f),F.binds bd,F.kp,m⟩
section
variable{X:Cx}{n:Nat}{x:Str}{ps:List Str}{sp:Sp}{e a b:Expr}{es:List Expr}{t:TA}{ta tb:TE}{p pos:Pos}
theorem aN(D:Def X.prog X.w X.K X.mg X.base n x ps sp)(ha:PA X (e::es) t)(hr:bX n X.A:=by walk_at "rm")(hg:Gl X x:=by rfl)(NO:(x==("__debug__":Str))=false:=by decide)(he:starEach (e::es) X.env=(false,eval e X.env)::starEach es X.env:=by rfl)(NR:(backTo pos (starEach es X.env)).any (·.1)=false:=by rfl) :
  PE X (.Call (.Name x p) (e::es) [] pos) (yA sp [] E0 t):=by
 obtain⟨f,fd,F,b,kp,m⟩:=D.ex;exact DV F hr hg m kp b .nil vV ha NO he NR
theorem ck:NJ X (binaryOp .Mult) (rI IntMulOk λi j=>.int (i*j)):=VO λ_ _ _ _ _ _ _ hc q=>PyProof.Rows.mul_int q hc
def AI(_ j:Int):Prop:=j≠0/\j.natAbs.log2<9000
theorem jF:NJ X (binaryOp .FloorDiv) (rI AI λi j=>.int (i.fdiv j)):=VO λ_ _ _ _ _ _ _ hc q=>PyProof.Rows.floordiv_int hc.1 q (.inl (PyProof.noPylong_of_log2 hc.2))
theorem lE:eW X (.builtin "isinstance") (λxs H Q=>∃y c cv t k,xs=[y,c]/\(∀u,RelV c u->u=cv)/\jL X.K H y t/\PySem.W.kitOne X.K t cv=some k/\Q (.bl k) H):=by
 intro Nn s σ H xs us Q I r h;obtain⟨y,c,cv,t,k,rfl,hc,ty,kt,q⟩:=h;obtain⟨u,w',rfl,r1,r2⟩:=vals2 r;have e:=hc _ r2;subst e;exact Gn I r1 ty kt λtk=>⟨.bl k,H,I.tok tk,rfl,q⟩
theorem Qr:∀{us:List Value},Vals (ys.map V.str) us->StrsAre us ys:=by
 induction ys with
 | nil =>
  intro us r;cases r
  exact .nil
 | cons y r ih =>
  intro us q;cases q with
  | cons a b =>
   obtain⟨t,rfl⟩:=a;exact .cons y t (ih b)
def rJoin(K:W.Frag):V->List V->Hp->VK->Prop:=λx vs H Q=>∃sep l ys,x=.str sep/\vs=[.ref l]/\Nq K H l (ys.map V.str)/\(ys.map (·.length)).sum+ys.length*sep.length<=16777216/\Q (.str (Txt.join sep ys)) H
theorem rR:PV X "str.join" (rJoin X.K):=by
 intro Nn s σ H x vs v us Q I rx rv h;obtain⟨sep,l,ys,rfl,rfl,hq,hz,q⟩:=h;obtain⟨t,rfl⟩:=rx;obtain⟨u,rfl,ru⟩:=rv.one;cases ru
 obtain⟨its,r,p,_⟩:=I.list hq;exact join_list p.isList (by simpa using Qr r) hz λt' k=>⟨.str _,H,I.tok k,⟨_,rfl⟩,q⟩
end
open PySem.Calls PySem.W PySem.Builtin.Getset_descriptor
structure jg(K:Frag)(D:Addr):Prop where
 ga:findIn K (.ref D) "__getattribute__"=some (some (.builtin "BaseException.__getattribute__"))
 gt:findIn K (.ref D) "__getattr__"=some none
 cl:∃cd,clsIn K D=some cd
 ha:findIn K (.ref D) "__class__"=some (some (.builtin "object.__class__"))
 hn:specialIn K (.builtin "object.__class__") "__get__"=some (some (.builtin "getset_descriptor.__get__"))
 tk:takesIn K (.builtin "object.__class__")=some true
 hb:mroIn K D (.type "BaseException")=some true
 hm:mroIn K D (.type "object")=some true
section
variable{prog:Program}{w:World}{A:Around}{E:Value->Shared->Prop}{s:Shared}{K:Frag}{x D:Addr}
def uy(x D:Addr)(h:Heap):Prop:=∃ox,h.get? x=some ox/\ox.cls=.ref D
theorem uy.type(I:uy x D h):Looks M h (typeOf (.ref x)) (.ref D):=by
 obtain⟨ox,a,b⟩:=I;exact b ▸ (Looks.ld a).andThen .now
theorem Ka{M:Model}(c:jg K D)(X:K.In h) :
  Looks M h (Builtin.ObjectAttr.find (.ref x) (.ref D) "__class__") (.bind (.builtin "getset_descriptor.__get__") (.builtin "object.__class__")):=by
 have l1:=LU (M:=M) X c.ha;have l2:=looks_specialIn (M:=M) X c.hn;have l3:=looks_takesIn (M:=M) X c.tk;have l4:Looks M h (Builtin.ObjectAttr.dataDescriptor? (some (.builtin "object.__class__")) (some (.builtin "getset_descriptor.__get__"))) (some (.builtin "getset_descriptor.__get__",.builtin "object.__class__")):=l3.andThen .now;exact l1.andThen (Looks.andThen (show Looks M h (Builtin.ObjectAttr.getOf (some (.builtin "object.__class__"))) _ from l2) (l4.andThen (Looks.tag .now)))
theorem RC(c:jg K D)(X:K.In s.heap)(I:uy x D s.heap)(h:R (.ok (.ret (.ref D))) s) :
  codeAny (model prog w) A (.call (.builtin "getset_descriptor.__get__") ⟨[.builtin "object.__class__",.ref x,tp],[]⟩) R s:=by
 obtain⟨hh,g,dr,t,os⟩:=s;have l0:=I.type (M:=model prog w);have l1:=Mh (M:=model prog w) X c.hm;refine G6 (KF.slot_gs).plain KF.entry_gs ?_;refine(KF.slot_gs).check _ _ _ _ _ _ _ _ KF.type_class (KF.args_gs _ _ _) ?_;unfold Builtin.«getset_descriptor.__get__» descrGet;rw[dga_obj];refine b6 (f6 ?_);unfold descrGetter descrCheckInstance descrNameAndClass isInstance;simp only[KF.owner_class]
 repeat lk
 refine⟨MF _ (by decide+kernel),codeAny_builtin KF.entry_class ?_⟩;unfold Builtin.«object.__class__» shownTypeOf
 repeat lk
 exact h
theorem Gw(c:jg K D)(X:K.In s.heap)(I:uy x D s.heap)(h:Q (some (.ref D)) {s with toks:=s.toks+1}) :
  wpAny (model prog w) A (getAttr? (.ref x) "__class__") Q E s:=by
 obtain⟨hh,g,d,t,os⟩:=s;have L0:=I.type (M:=model prog w);have L1:=LU (M:=model prog w) X c.ga;have L2:=LU (M:=model prog w) X c.gt;have LB:=Mh (M:=model prog w) X c.hb;have L3:=Ka (M:=model prog w) (x:=x) c X;unfold getAttr? getAttrBy? getAttrBy;refine b6 (wpAny_mkText (b6 (E6 (D8 (b6 (L0.at (b6 (L1.at ?_))))))));show wpAny _ _ (getAttrByItsOwn (.ref x) _ (.ref D) (.builtin "BaseException.__getattribute__") false false) _ _ _;unfold getAttrByItsOwn;show wpAny _ _ (typeLookup (.ref D) "__getattr__" >>= _) _ _ _;refine b6 (L2.at ?_);refine b6 (E6 (D8 ?_));show wpAny _ _ (boundAndCalled (.builtin "BaseException.__getattribute__") (.ref x) _) _ _ _;unfold boundAndCalled;have FB:=(F.attrBase_ValueError).ga;refine b6 (Mi (FB.bind (.ref x)) ?_);show wpAny _ _ (call (.builtin "BaseException.__getattribute__") [.ref x,_]) _ _ _;refine Li (G6 FB.plain F.entry_bexc_ga ?_);have kd:builtinKind "BaseException.__getattribute__"=some .slot:=by decide+kernel
 have sp:splitId "BaseException.__getattribute__"=some ("BaseException","__getattribute__"):=by decide+kernel
 have ar:=F.args_bexc_ga (.ref x) (.str "__class__" t);simp only[checkBuiltinCall,kd,sp];unfold isInstance;refine b6 (b6 (L0.at (LB.at ?_)));rw[h9 (by decide)];refine Mi ar ?_;unfold Builtin.«object.__getattribute__»;refine b6 (f6 (b6 (f6 (b6 (L0.at (b6 (L3.at ?_)))))));unfold Builtin.ObjectAttr.bindTo;refine b6 (D8 (Li (RC (s:=⟨hh,g,d,t+1,os⟩) c X I ?_)));refine f6 ?_;exact handed_on rfl (f6 h)
theorem JO(c:jg K D):KitX K (.ref x) (.ref D) (uy x D) where
 ty:=λ_ _ _ I=>I.type
 it:=λ_ _ X _=>by
  obtain⟨cd,NZ⟩:=c.cl;unfold clsIn at NZ;split at NZ
  .rename_i c' d' cd' Pp ho;intro A' Q' E' s' k q;unfold isType loadHead;exact b6 (LQ (k _ _ (X _ _ ho)) (f6 q))
  .cases NZ
 ne:=λh tp dd its n sl X htp=>by
  obtain⟨cd,NZ⟩:=c.cl;refine Le.mpr λq=>?_;have e:D=tp:=Value.ref.inj (D4.mp q);subst e;unfold clsIn at NZ;split at NZ
  .rename_i c' d' cd' Pp ho;have z:=(X _ _ ho).symm.trans htp;cases z
  .cases NZ
 ca:=λX I k=>Gw c X I k
end
section
variable{P:Program}{w:World}{H:Hp}{h:Heap}{a:Addr}{o:HO}
theorem bj.there(x:bj P w H h a o):∃ob,h.get? a=some ob:=by
 cases o with
 | lst xs=>obtain⟨_,_,_,_,e⟩:=x;exact⟨_,e⟩
 | tup xs=>obtain⟨_,_,_,⟨_,e,_⟩⟩:=x;exact⟨_,e⟩
 | dK Np=>obtain⟨_,_,_,_,o,_,_,e,_⟩:=x;exact⟨_,e⟩
 | dT Np=>obtain⟨_,_,_,_,o,_,_,e,_⟩:=x;exact⟨_,e⟩
 | set S n=>obtain⟨o,_,_,_,e,_⟩:=x;exact⟨_,e⟩
 | ins C dx fs=>obtain⟨_,_,_,e,_⟩:=x;exact⟨_,e⟩
 | own y=>exact x
 | xd fs=>obtain⟨_,⟨_,_,_,e,_⟩,_⟩:=x;exact⟨_,e⟩
 | rng lo hi=>obtain⟨_,_,_,e⟩:=x;exact⟨_,e⟩
 | frz ob u=>obtain⟨e,_⟩:=x;exact⟨_,e⟩
 | tbl ps=>exact⟨_,(show h.get? a=some _ from x)⟩
 | met f y=>exact⟨_,(show h.get? a=some _ from x)⟩
 | ext φ=>obtain⟨_,e,_⟩:=x;exact e
end
def KW(P:Program)(w:World)(outer:List Env)(H:Hp)(s:Shared)(ea:Addr)(C:Value)(H':Hp)(s':Shared):Prop:=∃t B,
 s'.os=s.os/\AllBare s'.gens/\Un (NG outer) [] H H' s.heap s'.heap/\NP P w H' s'.heap/\Heap.FlyingW B outer ea C (.ref t) s'.heap/\H' ea=none/\s.heap.get? ea=none/\
 ∀b o,s'.heap.get? b=some o->b ∉ NG outer->((∃u,H' b=some u)\/∃o',s.heap.get? b=some o')->B.get? b=some o
def PY(P:Program)(w:World):OZ:=λouter H s E e s'=>∃ea C H',e=.ref ea/\KW P w outer H s ea C H' s'/\E C none H'
section
variable{P:Program}{w:World}{K:W.Frag}{mg:Str->Option Value}{base:Heap}{N:List Str}{qual:Str}{scope:Scope}{f:Addr}{cd:Value}{A:Around}{outer:List Env}{s:Shared}{H:Hp}{E:XK}
theorem oj(I:Inv (bM (PY P w) P w K mg base N qual scope f cd A outer s H E) Nn σ H1 s₂)
  (hx:Heap.MadeExcOf s₂.heap h' ea (.ref C) vs)(q:E (.ref C) none H1):(bM (PY P w) P w K mg base N qual scope f cd A outer s H E).xe (.ref ea) {s₂ with heap:=h' }:=by
 have hin:∀en∈(envOfC qual scope s.heap.objs.size f cd::outer),∀b,en.frame=some b->b∈NG (envOfC qual scope s.heap.objs.size f cd::outer):=λen he b hb=>LL.mpr ⟨en,he,hb⟩;show wpAny (model P w) (A.deeper (envOfC qual scope s.heap.objs.size f cd)) («leaving» (envOfC qual scope s.heap.objs.size f cd) (.ref ea)) _ _ _;refine wpAny_leaves_madeW (base:=PySem.W.hideAll s₂.heap (NG (envOfC qual scope s.heap.objs.size f cd::outer))) (h:=s₂.heap) I.ok.frames rfl (λb o z=>LJ _ z) (PySem.W.funFrames_hide I.stack hin) hx λZL t fl _ _ up=>?_;have NV:∀b o,s₂.heap.get? b=some o->b ∉ NG (envOfC qual scope s.heap.objs.size f cd::outer)->ZL.get? b=some o:=λb o e n=>fl.1 b o (E8 _ e n)
 have OJ:∀b o,s.heap.get? b=some o->b ∉ NG outer->b ∉ NG (envOfC qual scope s.heap.objs.size f cd::outer):=λb o e n z =>
  (j8.mp (I.stkSub b z)).elim (λz=>absurd (i5 (f9 e) I.ok.above) (by rw[z];exact y7 _)) n
 have Pm:∀b u,H1 b=some u->b ∉ NG (envOfC qual scope s.heap.objs.size f cd::outer):=λb u e z=>by
  have:=I.stkFree b z;rw[e]at this;cases this
 have ntrk:∀b,s₂.heap.get? b=none->H1 b=none:=λb e=>by
  cases z:H1 b with
  | none=>rfl
  | some u=>obtain⟨ob,e2⟩:=(I.hok b u z).there;rw[e]at e2;cases e2
 have NH:∀b o,s.heap.get? b=some o->∃o',s₂.heap.get? b=some o':=λb o e=>I.base.there b o e (λz=>nomatch z);refine⟨ea,.ref C,H1,rfl,⟨t,_,I.os,I.bare,⟨?_,?_,λb o e n z=>I.base.free b o e n z,?_,I.base.tups,I.base.frzs,I.base.tbls⟩,?_,fl,ntrk _ hx.new,?_,?_⟩,q⟩
 .exact λb o e n hb z=>NV b o (I.base.keep b o e n hb z) (OJ b o e hb)
 .intro b o e n hb z;obtain⟨sl,e1⟩:=I.base.slot b o e n hb z;obtain⟨_,o',e2,nf⟩:=I.ok.funs.mem hb;have e3:some o'=some o:=e2.symm.trans e;cases e3
  obtain⟨Pp,e4⟩:=up b _ (hx.keeps b _ e1) nf;exact⟨Pp,e4⟩
 .intro b o e z
  by_cases hb:b∈NG outer
  .obtain⟨sl,e1⟩:=I.base.slot b o e (I.ok.frf b hb) hb z;obtain⟨_,o',e2,nf⟩:=I.ok.funs.mem hb;have e3:some o'=some o:=e2.symm.trans e;cases e3
   obtain⟨Pp,e4⟩:=up b _ (hx.keeps b _ e1) nf;exact⟨_,e4⟩
  .obtain⟨o',e1⟩:=NH b o e;exact⟨o',NV b o' e1 (OJ b o e hb)⟩
 .intro b u e;exact(I.hok b u e).stay (λc v hc e'=>NV c v e' (hc.elim (λz=>by subst z;exact Pm _ _ e) λz=>Pm _ _ z)) (λ_ z=>z) λ_ _ z=>z
 .cases z:s.heap.get? ea with
  | none=>rfl
  | some o=>obtain⟨o',e⟩:=NH ea o z;rw[hx.new]at e;cases e
 .intro b o e n hb
  have key:∃o2,s₂.heap.get? b=some o2/\b ∉ NG (envOfC qual scope s.heap.objs.size f cd::outer):=by
   rcases hb with⟨u,hu⟩ | ⟨o',ho⟩
   .obtain⟨ob,e2⟩:=(I.hok b u hu).there;exact⟨ob,e2,Pm b u hu⟩
   .obtain⟨o2,e2⟩:=NH b o' ho;exact⟨o2,e2,OJ b o' ho n⟩
  obtain⟨o2,e2,n2⟩:=key;have e3:=NV b o2 e2 n2;rw[e]at e3;cases e3
  exact E8 _ e2 n2
end
abbrev bmV:List Value:=[.type "ValueError",.type "Exception",.type "BaseException",.type "object"]
theorem Eg{K:Frag}(X:K.In h)(q:excIn K C bmB newId=true) :
  ∃bm N nm qn bs hd sn sub ab col dd k0 k1 k2 k3 k5 mN,h.get? C=some (excClassObj nm qn C N bs bm hd sn sub ab col dd k0 k1 k2 k3 k5 newId)/\h.Ns N mN/\mN "__init__"=none/\OwnTail h bmB bm:=by
 unfold excIn at q;split at q
 .rename_i d0 c0 WQ lk;split at q
  .rename_i C1 bm1 j0 j1 j2 j3 n1 j5 em es;simp only[Bool.not_eq_true',D4,t7]at q;obtain⟨⟨⟨⟨⟨e1,e2⟩,Ox⟩,tl⟩,ok⟩,ni⟩:=q;subst e1 e2;obtain⟨nm1,bs1,mro1,ns1,qn1,hd1,sn1,sub1,ab1,col1,del1⟩:=c0;dsimp only at em Ox ok ni;subst em Ox
   have esl:WQ=#[j0,j1,j2,j3,some (.builtin n1),j5]:=by
    obtain⟨l0⟩:=WQ;simp only at es;rw[es]
   subst esl;exact⟨_,_,_,_,_,_,_,_,_,_,_,_,_,_,_,_,_,X _ _ lk,.of_isNs (isNs_of_in X ok),nsMap_none_of_in X ok ni,tail_of_in X tl⟩
  .cases q
 .cases q
def Tq(C:Addr)(E:XK)(ta:TA):TS:=λ_ σ H=>ta σ H λvs H1=>vs.length<=sizeLine/\E (.ref C) none H1
section
variable{P:Program}{w:World}{K:Frag}{mg:Str->Option Value}{base:Heap}{N:List Str}{qual:Str}{scope:Scope}{f:Addr}{cd:Value}{A:Around}{outer:List Env}{s:Shared}{H:Hp}{E:XK}
theorem Iy{C:Addr}{np NA:Pos}(hg:Gl (bM (PY P w) P w K mg base N qual scope f cd A outer s H E) x)(hm:mg x=some (.ref C))(q:excIn K C bmV "ValueError.__new__"=true)
  (ha:PA (bM (PY P w) P w K mg base N qual scope f cd A outer s H E) (e₀::es) ta)(NO:(x==("__debug__":Str))=false:=by decide)
  (he:starEach (e₀::es) (envOfC qual scope s.heap.objs.size f cd)=(false,eval e₀ (envOfC qual scope s.heap.objs.size f cd))::starEach es (envOfC qual scope s.heap.objs.size f cd):=by rfl)
  (NR:(backTo NA (starEach (e₀::es) (envOfC qual scope s.heap.objs.size f cd))).any (·.1)=false:=by rfl) :
  PS (bM (PY P w) P w K mg base N qual scope f cd A outer s H E) (.Raise (some (.Call (.Name x np) (e₀::es) [] NA)) none pos) (Tq C E ta):=by
 intro Nn s₁ σ H1 D I h;obtain⟨bm,N1,nm,qn,bs,hd,sn,sub,ab,col,dd,k0,k1,k2,k3,k5,mN,gC,nN,ni,T⟩:=Eg I.mod.kin q
 refine wpAny_Raise_call_subT (C:=C) (nm:=nm) (q:=qn) (N:=N1) (bs:=bs) (bm:=bm) (hdct:=hd) (sn:=sn) (sub:=sub) (ab:=ab) (col:=col) (dd:=dd) (k0:=k0) (k1:=k1) (k2:=k2) (k3:=k3) (k5:=k5) Lk (mN:=mN)
  (T.hasType Lk.hasBase) (I.ok.hd rfl) NR ni (dN I hg hm ⟨rfl,?_⟩ NO)
 have hA:=ha NA Nn s₁ σ H1 _ I h;have X1:starEach (e₀::es) (bM (PY P w) P w K mg base N qual scope f cd A outer s H E).env=(false,eval e₀ (bM (PY P w) P w K mg base N qual scope f cd A outer s H E).env)::starEach es (bM (PY P w) P w K mg base N qual scope f cd A outer s H E).env:=he;rw[X1]at hA ⊢;refine G5 (Nr hA λus s₂ z=>?_);obtain⟨vs,H2,I2,r,z,q2⟩:=z;exact⟨rfl,by rw[<- r.length];exact z,I2.bk _ _ gC,nN.keeps I2.bk,T.keeps I2.bk,λh' e hx=>oj I2 hx q2⟩
end
structure Se(P:Program)(w:World)(K:Frag)(mg:Str->Option Value)(base:Heap)(n:Nat)(x:Str)(ps:List Str)(sp:Sp):Prop where
 ex:∃(f:Addr)(fd:FuncData),gS P w K mg base (PY P w) n f fd ps sp/\Binds K fd ps []/\keepIn K (.ref f)=true/\mg x=some (.ref f)
theorem RF{K:Frag}{k:Nat}(T:aA K mg x st)(S:ao N ps (ai st))
  (bd:∀kV doc pm an cdv ct us,us.length=ps.length->bindArgs (fnOf x x (df st) (aZ st) (ai st) .none kV doc pm an cdv ct) ⟨us,[]⟩=pure (ps.zip us))
  (len:∀vs H Q E,sp vs H Q E->vs.length=ps.length)
  (body:∀f cdv A outer s H vs Q E,bX k (A.deeper (envOfC x (ai st) s.heap.objs.size f cdv))->sp vs H Q E->
   ∃t,NU (bM (PY P w) P w K mg base N x (ai st) f cdv A outer s H E) (aZ st) t/\t {nx:=λ_ H'=>Q .non H',rt:=Q} (start N vs) H) :
  Se P w K mg base (k+1) x ps sp:=by
 obtain⟨f,fd,F,m⟩:=T.ex;obtain⟨oc,od,kV,doc,pm,an,cdv,ct,N7,rfl,lk,NZ⟩:=id F.ex;exact⟨f,_,Ef lk NZ S len λA outer s H vs Q E hr h=>body f cdv A outer s H vs Q E hr h,F.binds bd,F.kp,m⟩
structure uL(K:Frag)(D:Addr):Prop where
 cl:∃cd,clsIn K D=some cd
 ty:typeIn K (.ref D)=some (.type "type")
 hb:mroIn K D (.type "BaseException")=some true
theorem Ab{M:Model}{K:Frag}{e D:Addr}{Q:Bool->Shared->Prop}(X:K.In s.heap)(I:uy e C s.heap)(c:uL K D){b:Bool}(hm:mroIn K C (.ref D)=some b)(hq:Q b s) :
  wpAny M A (excMatches (.ref e) (.ref D)) Q E s:=by
 obtain⟨hh,g,d,t,os⟩:=s;have l0:=I.type (M:=M);obtain⟨ob,ho,hc⟩:=F0.mp c.ty;have l1:Looks M hh (typeOf (.ref D)) (.type "type"):=hc ▸ (Looks.ld (X _ _ ho)).andThen .now
 have l2:Looks M hh (isType (.ref D)) true:=by
  obtain⟨cd,NZ⟩:=c.cl;unfold clsIn at NZ;split at NZ
  .rename_i c' d' cd' Pp lo;intro A' Q' E' s' k q;unfold isType loadHead;exact b6 (LQ (k _ _ (X _ _ lo)) (f6 q))
  .cases NZ
 have l3:=Mh (M:=M) X c.hb;have l4:=Mh (M:=M) X hm;have l5:Looks M hh (isInstance (.ref D) (.type "tuple")) false:=l1.andThen (Looks.of_pure tc_notTuple);have l6:Looks M hh (isExcClass (.ref D)) true:=l2.andThen (by exact l3);unfold excMatches;refine b6 (l5.at ?_);rw[h9 (by decide)];refine b6 (f6 ?_);simp only[G4,MG];refine b6 (b6 (b6 (l6.at ?_)));rw[h9 (by decide)];refine f6 (f6 (b6 (l0.at (b6 (b6 (b6 (l4.at ?_)))))));cases b with
 | true=>exact f6 (f6 (f6 hq))
 | false=>exact f6 (f6 (f6 hq))
noncomputable def Cx.mark(X:Cx)(ea:Addr):Cx:={X with A:=X.A.mark (some (.ref ea)),calm:=false}
section
variable{X:Cx}{Nn:List (Addr×Obj)}{σ:St}{H H':Hp}{s s':Shared}
theorem Inv.mark(I:Inv X Nn σ H s)(ea:Addr):Inv (X.mark ea) Nn σ H s:=
 ⟨⟨I.ok.mod,I.ok.kind,I.ok.glob,I.ok.blt,I.ok.above,I.ok.inj,I.ok.has,I.ok.cab,(λz=>by cases z),I.ok.frames,I.ok.stk,I.ok.exf,I.ok.bs,I.ok.bsz,I.ok.noex,I.ok.exfs,I.ok.funs,I.ok.frf⟩,
  I.os,I.bare,I.base,I.loc,I.cell,I.free,I.freeC,I.pin,I.hok,I.len⟩
theorem Inv.unmark(I:Inv (X.mark ea) Nn σ H s)(ok:X.Ok):Inv X Nn σ H s:=
 ⟨ok,I.os,I.bare,I.base,I.loc,I.cell,I.free,I.freeC,I.pin,I.hok,I.len⟩
theorem Inv.track(I:Inv X Nn σ H s)(n:H a=none)(new:X.s₀.heap.get? a=none)(hL:a≠X.env.locals)(hc:∀x c,X.env.cells.lookup x=some c->c≠a)(hp:∀p∈X.pn++Nn,p.1≠a)
  (p:φ s.heap)(there:∃o,s.heap.get? a=some o)(st:∀h1 h2:Heap,φ h1->(∀o,h1.get? a=some o->h2.get? a=some o)->φ h2):Inv X Nn σ (upd H a (.ext φ)) s:=
 ⟨I.ok,I.os,I.bare,⟨I.base.keep,I.base.slot,λb o e z hx=>by rw[aj (λq=>by rw[q,new]at e;cases e)];exact I.base.free b o e z hx,I.base.there,
   λb xs e=>by have q:=I.base.tups b xs e;rw[aj (ak q n)];exact q,λb o u e=>by have q:=I.base.frzs b o u e;rw[aj (ak q n)];exact q,
   λb ps e=>by obtain⟨m,q⟩:=I.base.tbls b ps e;exact⟨m,by rw[aj (ak q n)];exact q⟩⟩,
  I.loc,I.cell,by rw[aj (B8 hL)];exact I.free,λx c e=>by rw[aj (hc x c e)];exact I.freeC x c e,
  λq hq=>by obtain⟨a1,a2,a3⟩:=I.pin q hq;exact⟨a1,by rw[aj (hp q hq)];exact a2,a3⟩,
  λb u e=>by
   by_cases hb:b=a
   .subst hb;rw[ae]at e;cases e
    exact⟨p,there,st⟩
   .rw[aj hb]at e;exact(I.hok b u e).stay (λ_ _ _ z=>z) (λc z=>by rw[aj (ak z n)];exact z) λc xs z=>by rw[aj (ak z n)];exact z,
  I.len⟩
theorem Inv.unname{tk:Nat}(I:Inv X Nn σ H s)(hN:X.N.Nodup)(hi:X.N[i]?=some x)
  (hm:s.heap.Ns X.env.locals m)(hn:h'.Ns X.env.locals λy=>if y=x then v else m y)(hs:Heap.SameBut X.env.locals s.heap h'):Inv X Nn (σ.set i none) H {s with heap:=h',toks:=tk}:=by
 have old:∀b o,X.s₀.heap.get? b=some o->b≠X.env.locals:=λb o e=>v3 (i5 (f9 e) I.ok.above);have cellK:∀y c,X.env.cells.lookup y=some c->∀u,s.heap.IsCell c u->h'.IsCell c u:=λy c e u z=>z.sameBut hs (I.cne y c e)
 refine⟨I.ok,I.os,I.bare,⟨λb o e n hb hx=>(hs.2 b (old b o e)).trans (I.base.keep b o e n hb hx),λb o e n hb hx=>?_,I.base.free,λb o e hx=>?_,I.base.tups,I.base.frzs,I.base.tbls⟩,⟨_,hn,λj y u e1 e2 e3=>?_⟩,
  λy c e=>?_,I.free,I.freeC,λp hp=>?_,λb u e=>?_,by simpa using I.len⟩
 .obtain⟨sl,z⟩:=I.base.slot b o e n hb hx;exact⟨sl,(hs.2 b (old b o e)).trans z⟩
 .obtain⟨o',z⟩:=I.base.there b o e hx;exact⟨o',(hs.2 b (old b o e)).trans z⟩
 .by_cases hj:j=i
  .subst hj;have e4:(σ.set j none)[j]?=some (some u):=e2
   by_cases hl:j<σ.length
   .rw[LO hl]at e4;cases e4
   .rw[G0 (by rw[List.length_set];omega)]at e4;cases e4
  .have e4:(σ.set i none)[j]?=some (some u):=e2;rw[Mf (B8 hj)]at e4;obtain⟨m0,ZD,hl⟩:=I.loc
   have em:m0=m:=by
    obtain⟨o1,es1,ep1,g1,d1,_,r1⟩:=ZD;obtain⟨o2,es2,ep2,g2,d2,_,r2⟩:=hm;rw[g1]at g2;cases g2
    rw[d1]at d2;cases d2
    funext z;exact(r1 z).symm.trans (r2 z)
   subst em;obtain⟨u',r',q⟩:=hl j y u e1 e4 e3;refine⟨u',r',?_⟩;rcases q with⟨k,e⟩ | ⟨k,c,e,z⟩
   .refine .inl ⟨k,?_⟩;have ne:y≠x:=λe=>hj (tQ hN e1 (e ▸ hi));show(if y=x then v else m0 y)=some u';rw[h9 ne];exact e
   .exact .inr ⟨k,c,e,cellK y c e _ z⟩
 .obtain⟨u,z⟩:=I.cell y c e;exact⟨u,cellK y c e u z⟩
 .obtain⟨a1,a2,a3,a4⟩:=I.pin p hp;exact⟨(hs.2 _ a3).trans a1,a2,a3,a4⟩
 .have nl:∀c z,H c=some z->c≠X.env.locals:=λc z q e=>by rw[e,I.free]at q;cases q
  exact(I.hok b u e).stay (λc z hc q=>(hs.2 c (hc.elim (λk=>by rw[k];exact nl b u e) λk=>nl c _ k)).trans q) (λ_ z=>z) λ_ _ z=>z
theorem Inv.caught{ea:Addr}{C:Value}(I:Inv X Nn σ H s){t:Addr}{tk:Nat}(ho:s'.os=s.os)(hg:AllBare s'.gens)(un:Un (NG X.stack) [] H H' s.heap s'.heap)(hok:NP X.prog X.w H' s'.heap)
  (RJ:∀b o,s'.heap.get? b=some o->b ∉ NG X.stack->((∃u,H' b=some u)\/∃o',s.heap.get? b=some o')->B.get? b=some o)(st:B.StaysIn h6)(up:s'.heap.UpToSlots h6):Inv X Nn σ H' {s' with heap:=h6,toks:=tk}:=by
 have fr:=I.stack
 have frf:∀b u,H' b=some u->b ∉ NG X.stack:=λb u e z=>by
  obtain⟨_,o,e2,_⟩:=fr.mem z;have q:=un.free b o e2 (I.stkFree b z) (by simp);rw[e]at q;cases q
 have Ov:∀b o,s.heap.get? b=some o->b∈NG X.stack->∃sl,h6.get? b=some {o with slots:=sl}:=λb o e hb=>by
  obtain⟨_,o',e2,nf⟩:=fr.mem hb;have e3:some o'=some o:=e2.symm.trans e;cases e3
  obtain⟨sl,e4⟩:=un.slot b _ e (I.stkFree b hb) hb (by simp);obtain⟨Pp,e5⟩:=up b _ e4 nf;exact⟨Pp,e5⟩
 have u6:Un (NG X.stack) [] H H' s.heap h6:=by
  refine⟨λb o e n hb hx=>st b o (RJ b o (un.keep b o e n hb hx) hb (.inr ⟨o,e⟩)),λb o e n hb hx=>Ov b o e hb,un.free,λb o e hx=>?_,un.tups,un.frzs,un.tbls⟩
  by_cases hb:b∈NG X.stack
  .obtain⟨sl,z⟩:=Ov b o e hb;exact⟨_,z⟩
  .obtain⟨o',z⟩:=un.there b o e hx;exact⟨o',st b o' (RJ b o' z hb (.inr ⟨o,e⟩))⟩
 have k6:NP X.prog X.w H' h6:=λb u e=>(hok b u e).stay (λc z hc q=>by
  have tr:∃v,H' c=some v:=hc.elim (λk=>⟨u,by rw[k];exact e⟩) λk=>⟨_,k⟩;obtain⟨v,hv⟩:=tr;exact st c z (RJ c z q (frf c v hv) (.inl ⟨v,hv⟩))) (λ_ z=>z) λ_ _ z=>z
 exact I.call' (s':={s' with heap:=h6,toks:=tk}) (ch:=[]) ho u6 k6 hg λb hb=>nomatch hb
end
section
variable{X:Cx}
theorem xY:∀(names:List (Str×NameKind))(acc:List (Str×Addr)),(∀y,(y,NameKind.free)∈names->∃c,env.cells.lookup y=some c)->
  ∃ cl:List (Str×Addr),(forIn names acc (λx r=>match x with
    | (name,kind)=>if(kind==NameKind.free)=true then do let a <- cellOf env name;pure (ForInStep.yield ((name,a)::r)) else pure (ForInStep.yield r)):Sem _)=pure cl/\
   (∀y c,cl.lookup y=some c->acc.lookup y=some c\/env.cells.lookup y=some c)/\(∀y,(y,NameKind.free)∈names->∃c,cl.lookup y=some c)/\∀y,(∃c,acc.lookup y=some c)->∃c,cl.lookup y=some c
 | [],acc,_=>⟨acc,rfl,λ_ _ h=>.inl h,(λ_ h=>nomatch h),λ_ h=>h⟩
 | (nm,kd)::r,acc,h=>by
  by_cases hk:kd=.free
  .subst hk;obtain⟨c,hc⟩:=h nm B5;obtain⟨cl,e,p1,p2,p3⟩:=xY r ((nm,c)::acc) λy hy=>h y (p8 _ hy);refine⟨cl,?_,λy d hd=>?_,λy hy=>?_,λy hy=>?_⟩
   .rw[G4];have z:cellOf env nm=pure c:=by unfold cellOf;rw[hc]
    simp only[z,A5,MS];exact e
   .rcases p1 y d hd with q | q
    .rw[A0]at q;cases hy:y==nm with
     | true =>
      rw[hy]at q;have e1:=D4.mp hy;subst e1;cases q
      exact .inr hc
     | false=>rw[hy]at q;exact .inl q
    .exact .inr q
   .rcases j8.mp hy with q | q
    .cases q
     exact p3 nm ⟨c,by rw[A0,A5]⟩
    .exact p2 y q
   .obtain⟨d,hd⟩:=hy;refine p3 y ?_;rw[A0];cases y==nm with
    | true=>exact⟨c,rfl⟩
    | false=>exact⟨d,hd⟩
  .obtain⟨cl,e,p1,p2,p3⟩:=xY r acc λy hy=>h y (p8 _ hy);refine⟨cl,?_,p1,λy hy=>?_,p3⟩
   .rw[G4];have z:(kd==NameKind.free)=false:=by simpa using hk
    simp only[z,MH,ME];exact e
   .rcases j8.mp hy with q | q
    .cases q;exact absurd rfl hk
    .exact p2 y q
theorem ui{env:Env}(h:∀y,(y,NameKind.free)∈scope.names->∃c,env.cells.lookup y=some c) :
  ∃cl,closureFor scope env=pure cl/\(∀y c,cl.lookup y=some c->env.cells.lookup y=some c)/\∀y,(y,NameKind.free)∈scope.names->∃c,cl.lookup y=some c:=by
 obtain⟨cl,e,p1,p2,_⟩:=xY (env:=env) scope.names [] h;refine⟨cl,?_,λy c hc=>(p1 y c hc).elim (λz=>by cases z) λz=>z,p2⟩;unfold closureFor;show(forIn scope.names [] _ >>= λs=>pure s)=pure cl;rw[bind_pure];exact e
theorem oK{js:List Nat}(I:Inv X Nn σ H s)(hf:∀y,(y,NameKind.free)∈scope.names->X.env.kindOf y=some .cell\/X.env.kindOf y=some .free) :
  ∀y,(y,NameKind.free)∈scope.names->∃c,X.env.cells.lookup y=some c:=λy hy=>I.ok.has y (hf y hy)
variable{elt Nt:Expr}{x:Str}{px pos:Pos}{ifs:List Expr}{scope:Scope}{wi:TI}{tc:TT}{te:TE}{js:List Nat}
theorem fD(hi:PI X (.Name x px) Nt wi)(N3:dF X scope js)(ht:∀cl s' H' fp,P8 (aU X scope cl (bG X x js) s' H' fp) ifs tc)(he:∀cl s' H' fp,PE (aU X scope cl (bG X x js) s' H' fp) elt te)(hc:X.calm=true:=by rfl)(hk:scope.kind=.function:=by rfl)(Nu:∀y∈scope.names,y.2≠.cell:=by decide+kernel)(Nx:∀y∈scope.names,y.2=.local->scope.names.lookup y.1=some .local:=by decide+kernel)(hx:(relabel scope X.env).names.lookup x=some .local:=by rfl)(hf:∀p∈scope.names,p.2=.free->X.env.kindOf p.1=some .cell\/X.env.kindOf p.1=some .free:=by walk_at "kr")(Of:(bG X x js).Nodup:=by walk_at "kr")(hs:∀x,foldedSetIterable Nt X.env x=pure x:=by intro _;rfl):PE X (.ListComp elt [⟨.Name x px,Nt,ifs,0⟩] scope pos) (jo wi tc te js):=by
 intro Nn s σ H Q I h;obtain⟨cl,e,p1,p2⟩:=ui (oK (js:=js) I λy hy=>hf (y,.free) hy rfl);exact QR hc hi hk Nu Nx hx e p1 p2 N3 Of (ht cl) (he cl) hs Nn s σ H Q I h
theorem xy{py O0:Pos}(hi:PI X (.Name x px) Nt wi)(N3:dF X scope js)(ht:∀cl s' H' fp,P8 (aU X scope cl (bG X x js) s' H' fp) ifs tc)(he:∀cl s' H' fp,PE (aU X scope cl (bG X x js) s' H' fp) elt te)(hN:X.N.Nodup:=by assumption)(hy:X.N[i]?=some y:=by rfl)(Xw:Loc X.env.scope y:=by walk_at "oi")(Xx:X.fn y=true\/X.env.scope.names.lookup y=some .local:=by walk_at "oi")(UC:swapsWith (.ListComp elt [⟨.Name x px,Nt,ifs,0⟩] scope pos) (some (.Name y py)) O0.line X.env=pure true:=by rfl)(hc:X.calm=true:=by rfl)(hk:scope.kind=.function:=by rfl)(Nu:∀y∈scope.names,y.2≠.cell:=by decide+kernel)(Nx:∀y∈scope.names,y.2=.local->scope.names.lookup y.1=some .local:=by decide+kernel)(hx:(relabel scope X.env).names.lookup x=some .local:=by rfl)(hf:∀p∈scope.names,p.2=.free->X.env.kindOf p.1=some .cell\/X.env.kindOf p.1=some .free:=by walk_at "kr")(Of:(bG X x js).Nodup:=by walk_at "kr")(hs:∀x,foldedSetIterable Nt X.env x=pure x:=by intro _;rfl) :
  PS X (.Assign [.Name y py] (.ListComp elt [⟨.Name x px,Nt,ifs,0⟩] scope pos) O0) (sj i (jo wi tc te js)):=by
 intro Nn s σ H D I h;obtain⟨cl,e,p1,p2⟩:=ui (oK (js:=js) I λy hy=>hf (y,.free) hy rfl);exact QJ hN hy Xw Xx UC hc hi hk Nu Nx hx e p1 p2 N3 Of (ht cl) (he cl) hs Nn s σ H D I h
end
theorem rY:∀{ns:List Int}{n:Int},n∈ns->WData.weight (.int n)<=WData.weightAll (ns.map WData.int)
 | [],_,h=>nomatch h
 | m::r,n,h=>by
  show _<=WData.weight (.int m)+1+WData.weightAll (r.map WData.int);rcases j8.mp h with e | e
  .subst e;omega
  .have:=rY (ns:=r) e;omega
theorem Aj(n:Int):Builtin.Int.intBits n=WData.weight (.int n):=by
 show _=if n==0 then 0 else n.natAbs.log2+1
 unfold Builtin.Int.intBits
 by_cases h:n=0
 .subst h;rfl
 .simp[h]
theorem yI(h:WData.layableAll [.list (ns.map .int)]=true):∀n∈ns,Builtin.Int.intBits n<=1048576:=λn hn=>by
 have h1:WData.layable (.list (ns.map .int))=true:=by
  simpa [WData.layableAll] using h
 have h2:WData.weight (.list (ns.map .int))<=2^20:=by
  unfold WData.layable at h1;rw[t7,t7]at h1;exact l9 h1.2
 have h3:WData.weightAll (ns.map WData.int)<=2^20:=h2;have h4:=rY hn;rw[Aj];omega
theorem ED{l:OpenLaw}{n k:Nat}{d:DefRec}{K:Params->Frag}{sp:Frag->Sp}
  (hn:l.most=some n)(Pd:n<=sizeLine)(hdf:d.params.defaults=[])(hr:bX k callerA)(hY:∀(w:World)(h:Heap),YP w h->(K w.params).In h)
  (F:∀(w:World)(mg:Str->Option Value)(fa:Addr)(h:Heap),(K w.params).In h->h.Ns mainGlobals mg->mg d.name=some (.ref fa)->
   ∃fd:FuncData,(∀(s:Shared)(u:Value),BindsTo s fd ⟨[u],[]⟩ [(x,u)])/\∀base:Heap,(K w.params).In base->base.Ns mainGlobals mg->gS l.prog w (K w.params) mg base CX k fa fd [x] (sp (K w.params)))
  (SV:∀(K:Frag)(H:Hp)(a:Addr)(ns:List Int),ns.length<=n->(∀m∈ns,Builtin.Int.intBits m<=1048576)->R5 H->Nq K H a (ns.map V.int)->sp K [.ref a] H (λv _=>v=.bl true) λ_ _ _=>False)
  (hCX:∀(H:Hp)(s:Shared)(e:Value)(s':Shared),CX [] H s (λ_ _ _=>False) e s'->False):WalkO q loose XP YP l.row.toRowW d [] (λf vs=>PySem.call f vs):=by
 intro w s₀ s₁ mg mb G Y fa o pm cd doc dV kV ho hd NZ hD hmg hg args NF as Rl hlay hrd hwl hlo;obtain rfl:dV=.none:=Dflts.none hD hdf;obtain rfl:kV=.none:=Dflts.noKw hD;obtain⟨a,vs,ns,rfl,rfl,hobj,hints,hlen⟩:=Att.EY hn Rl hwl;have KX:=hY w _ Y;obtain⟨fd,hb,hF⟩:=F w mg fa _ KX G.T.g hmg;have c:=JK KX G.T.g G.T.b G.T.builtins G.T.nolimit hg hobj hints (h8 hlen Pd) hr hF hb (λH hO hS=>SV (K w.params) H a ns hlen (yI hlay) hO hS) λH e s'=>hCX H s₁ e s';refine enter_call (J5 c λr s' hq=>?_);obtain⟨rfl,h2,h3,h4⟩:=hq;exact⟨.inl ⟨.bool true,.bool true,[],rfl,λ_=>rfl,.bool true,Att.Fi l _,λ_=>⟨List.Pairwise.nil,λ_ hm=>(nomatch hm)⟩⟩,h2,h3,h4⟩
section
variable{κ:Type}[DecidableEq κ]
noncomputable def cW(Np:List (κ×V))(k:κ):Option V:=(Np.find? λkv=>decide (kv.1=k)).map (·.2)
noncomputable def putK(Np:List (κ×V))(k:κ)(v:V):List (κ×V):=
 if(Np.any λkv=>decide (kv.1=k))=true then Np.map (λkv=>if kv.1=k then(kv.1,v) else kv) else Np++[(k,v)]
theorem bY{p:κ×V}{r:List (κ×V)}{k:κ}(e:p.1=k):cW (p::r) k=some p.2:=by simp[cW,K0,e]
theorem bO{p:κ×V}{r:List (κ×V)}{k:κ}(e:¬p.1=k):cW (p::r) k=cW r k:=by simp[cW,K0,e]
theorem jk(k:κ):∀Np:List (κ×V),(Np.any λkv=>decide (kv.1=k))=(cW Np k).isSome
 | []=>rfl
 | p::r=>by
  rw[LA]
  by_cases e:p.1=k
  .simp only[bY e,j9 e,Bool.true_or,Option.isSome_some]
  .rw[bO e,h7 e,M0];exact jk k r
theorem yt(k j:κ)(y:V):∀Np:List (κ×V),cW (Np.map λkv=>if kv.1=k then(kv.1,y) else kv) j=(cW Np j).map λx=>if j=k then y else x
 | []=>rfl
 | p::r=>by
  have ih:=yt k j y r;rw[v7]
  by_cases h:p.1=k
  .rw[k9 h]
   by_cases e:p.1=j
   .rw[bY (p:=(p.1,y)) e,bY e,Mq,k9 (e.symm.trans h)]
   .rw[bO (p:=(p.1,y)) e,bO e,ih]
  .rw[h9 h]
   by_cases e:p.1=j
   .rw[bY (p:=p) e,bY e,Mq,h9 (λz=>h (e.trans z))]
   .rw[bO (p:=p) e,bO e,ih]
theorem vy(k j:κ)(y:V):∀Np:List (κ×V),cW Np k=none->cW (Np++[(k,y)]) j=if j=k then some y else cW Np j
 | [],_=>by
  by_cases e:k=j
  .rw[k9 e.symm];exact bY (p:=(k,y)) e
  .rw[h9 (λz=>e z.symm)];exact bO (p:=(k,y)) e
 | p::r,hn=>by
  rw[List.cons_append];have hk:¬p.1=k:=λz=>by rw[bY z]at hn;cases hn
  rw[bO hk]at hn;have ih:=vy k j y r hn
  by_cases e:p.1=j
  .rw[bY e,bY e,h9 (λz=>hk (e.trans z))]
  .rw[bO e,bO e,ih]
theorem kB(Np:List (κ×V))(k j:κ)(y:V):cW (putK Np k y) j=if j=k then some y else cW Np j:=by
 unfold putK
 by_cases a:(Np.any λkv=>decide (kv.1=k))=true
 .rw[k9 a,yt];rw[jk]at a
  by_cases e:j=k
  .obtain⟨x,hx⟩:=G8.mp a;rw[k9 e,e,hx,Mq,k9 rfl]
  .rw[h9 e];cases cW Np j with
   | none=>rfl
   | some x=>rw[Mq,h9 e]
 .rw[h9 a];refine vy k j y Np ?_;rw[jk]at a;cases q:cW Np k with
  | none=>rfl
  | some x=>rw[q]at a;exact(a rfl).elim
theorem gv(Np:List (κ×V))(k:κ)(v:V):(putK Np k v).length<=Np.length+1:=by
 unfold putK;split
 .rw[g6];omega
 .rw[p7,k8,D3];omega
theorem zk{Np:List (κ×V)}{k:κ}(v:V)(h:cW Np k=none):putK Np k v=Np++[(k,v)]:=by
 unfold putK;rw[jk,h];exact h9 (by decide)
theorem jM.isSome_eq(r:jM o u):o.isSome=u.isSome:=by
 cases o with
 | none=>cases u with
  | none=>rfl
  | some _=>exact(show False from r).elim
 | some _=>cases u with
  | none=>exact(show False from r).elim
  | some _=>rfl
theorem KV.val(r:KV Np vs)(k:κ):jM (cW Np k) (valueAt vs k):=by
 unfold KV at r
 induction r with
 | nil=>exact True.intro
 | @cons p q ps qs h t ih =>
  obtain⟨h1,h2⟩:=h
  by_cases e:p.1=k
  .have e':q.1=k:=h1.symm.trans e;have b:valueAt (q::qs) k=some q.2:=by simp[valueAt,K0,e']
   rw[bY e,b];exact h2
  .have e':¬q.1=k:=λz=>e (h1.trans z);have b:valueAt (q::qs) k=valueAt qs k:=by simp[valueAt,K0,e']
   rw[bO e,b];exact ih
theorem KV.any(r:KV Np vs)(k:κ):(Np.any λkv=>decide (kv.1=k))=vs.any λkv=>decide (kv.1=k):=by
 unfold KV at r
 induction r with
 | nil=>rfl
 | cons h t ih=>rw[LA,LA,ih,h.1]
theorem KV.repl(r:KV Np vs)(k:κ){y:V}(ry:RelV y u) :
  KV (Np.map λkv=>if kv.1=k then(kv.1,y) else kv) (vs.map λkv=>if kv.1=k then(kv.1,u) else kv):=by
 unfold KV at r ⊢
 induction r with
 | nil=>exact .nil
 | @cons p q ps qs h t ih =>
  rw[v7,v7];refine .cons ?_ ih;obtain⟨h1,h2⟩:=h
  by_cases e:p.1=k
  .rw[k9 e,k9 (h1.symm.trans e)];exact⟨h1,ry⟩
  .rw[h9 e,h9 (λz=>e (h1.trans z))];exact⟨h1,h2⟩
theorem KV.put(r:KV Np vs)(k:κ){y:V}(ry:RelV y u):KV (putK Np k y) (stored vs k u):=by
 unfold putK stored;rw[r.any k]
 by_cases e:(vs.any λkv=>decide (kv.1=k))=true
 .rw[k9 e,k9 e];exact r.repl k ry
 .rw[h9 e,h9 e];exact Paired.snoc r ⟨rfl,ry⟩
theorem KV.length(r:KV Np vs):Np.length=vs.length:=MY r
end
theorem zU(r:RelV (kV k) u):(bN P w).is k u=true:=by
 cases k with
 | inl i=>obtain⟨t,e⟩:=(show ∃t,u=Value.int i t from r);subst e;exact zP P w i t
 | inr x=>obtain⟨t,e⟩:=(show ∃t,u=Value.str x t from r);subst e;exact zO P w x t
theorem wj:∀{ks:List Key}{us:List Value},Vals (ks.map kV) us->ItemsAre (bN P w) ks us
 | [],_,r=>by rw[My]at r;cases r;exact .nil
 | k::ks,_,r=>by
  rw[v7]at r;cases r with
  | cons h t=>exact .cons (zU h) (wj t)
abbrev KT(H:Hp):List (List Key×V)->List (List Key×Addr×Value)->Prop:=Paired λp q=>p.1=q.1/\H q.2.1=some (.tup (p.1.map kV))/\RelV p.2 q.2.2
theorem KT.val(r:KT H Np xs)(k:List Key):jM (cW Np k) ((atKey xs k).map (·.2)):=by
 induction r with
 | nil=>exact True.intro
 | @cons p q ps qs h t ih =>
  obtain⟨h1,_,h2⟩:=h
  by_cases e:p.1=k
  .have e':q.1=k:=h1.symm.trans e;have b:atKey (q::qs) k=some q.2:=by simp[atKey,K0,e']
   rw[bY e,b];exact h2
  .have e':¬q.1=k:=λz=>e (h1.trans z);have b:atKey (q::qs) k=atKey qs k:=by simp[atKey,K0,e']
   rw[bO e,b];exact ih
theorem KT.repl(r:KT H Np xs)(k:List Key){y:V}(ry:RelV y u) :
  KT H (Np.map λkv=>if kv.1=k then(kv.1,y) else kv) (xs.map (putAt k u)):=by
 induction r with
 | nil=>exact .nil
 | @cons p q ps qs h t ih =>
  rw[v7,v7];refine .cons ?_ ih;obtain⟨h1,h2,h3⟩:=h;unfold putAt
  by_cases e:p.1=k
  .rw[k9 e,k9 (h1.symm.trans e)];exact⟨h1,h2,ry⟩
  .rw[h9 e,h9 (λz=>e (h1.trans z))];exact⟨h1,h2,h3⟩
theorem KT.put(r:KT H Np xs)(k:List Key){y:V}(hb:H b=some (.tup (k.map kV)))(ry:RelV y u) :
  KT H (putK Np k y) (storedH xs k b u):=by
 have e:(Np.any λkv=>decide (kv.1=k))=(atKey xs k).isSome:=by
  rw[jk,(r.val k).isSome_eq,Option.isSome_map]
 unfold putK storedH;rw[e]
 by_cases q:(atKey xs k).isSome=true
 .rw[k9 q,k9 q];exact r.repl k ry
 .rw[h9 q,h9 q];exact Paired.snoc r ⟨rfl,hb,ry⟩
theorem KT.keeps(r:KT H Np xs)(ht:∀b ys,H b=some (.tup ys)->H' b=some (.tup ys)):KT H' Np xs:=
 Paired.mapP r λ_ _ z=>⟨z.1,ht _ _ z.2.1,z.2.2⟩
section
variable{P:Program}{w:World}{H:Hp}{h:Heap}{a:Addr}
theorem Sy(ok:NP P w H h)(e:Rd H a u):bj P w H h a u:=e.ok ok
theorem El(ok:NP P w H h)(e:Rd H a (.dK Np)):Np.length<=sizeLine/\(a==sysModules)=false/\∃vs,KV Np vs/\h.DictOf (bN P w) a vs:=
 show bj P w H h a (.dK Np) from Sy ok e
theorem S5(ok:NP P w H h)(e:H a=some (.dK Np)):Np.length<=sizeLine/\(a==sysModules)=false/\∃vs,KV Np vs/\h.DictOf (bN P w) a vs:=El ok (.inl e)
theorem xO(ok:NP P w H h)(e:H a=some (.tup (ks.map kV))):(tupleKind (bN P w)).is h ks a:=by
 obtain⟨_,its,r,o,h1,h2,n,h3⟩:=(show bj P w H h a (.tup (ks.map kV)) from ok a _ e);exact⟨o,its.toArray,n,h1,h2,h3,by simpa using wj r⟩
theorem Ek(ok:NP P w H h)(e:Rd H a (.dT Np)):Np.length<=sizeLine/\(a==sysModules)=false/\
  ∃xs,KT H Np xs/\h.DictOfH (tupleKind (bN P w)) a xs:=by
 obtain⟨z,y,xs,r,o,es,ep,h1,h2,h3,h4,h5⟩:=(show bj P w H h a (.dT Np) from Sy ok e);refine⟨z,y,xs,r,o,es,ep,h1,h2,h3,h4,λx hx=>?_,h5⟩
 have all:∀{l:List (List Key×V)}{m:List (List Key×Addr×Value)},KT H l m->∀x∈m,(tupleKind (bN P w)).is h x.1 x.2.1:=by
  intro l m q
  induction q with
  | nil=>intro x hx;exact nomatch hx
  | @cons p q ps qs hq t ih =>
   intro x hx;rcases j8.mp hx with e | hx
   .subst e;exact xO ok (by rw[<- hq.1];exact hq.2.1)
   .exact ih x hx
 exact all r x hx
theorem YM(ok:NP P w H h)(e:H a=some (.dT Np)):Np.length<=sizeLine/\(a==sysModules)=false/\
  ∃xs,KT H Np xs/\h.DictOfH (tupleKind (bN P w)) a xs:=Ek ok (.inl e)
end
def nB(H:Hp)(a:Addr)(y:V)(r:Option V):Prop:=
 (∃Np k,Rd H a (.dK Np)/\y=kV k/\r=cW Np k)\/∃Np k b,Rd H a (.dT Np)/\y=.ref b/\H b=some (.tup (k.map kV))/\r=cW Np k
def AH(H:Hp)(a:Addr)(y v:V)(H':Hp):Prop:=
 (∃Np k,H a=some (.dK Np)/\y=kV k/\Np.length<sizeLine/\H'=upd H a (.dK (putK Np k v)))\/
 ∃Np k b,H a=some (.dT Np)/\y=.ref b/\H b=some (.tup (k.map kV))/\Np.length<sizeLine/\H'=upd H a (.dT (putK Np k v))
theorem nB.k{Np:List (Key×V)}{k:Key}(e:H a=some (.dK Np)):nB H a (kV k) (cW Np k):=.inl ⟨Np,k,.inl e,rfl,rfl⟩
theorem nB.t{Np:List (List Key×V)}{k:List Key}(e:H a=some (.dT Np))(eb:H b=some (.tup (k.map kV))):nB H a (.ref b) (cW Np k):=.inr ⟨Np,k,b,.inl e,rfl,eb,rfl⟩
theorem AH.k{Np:List (Key×V)}{k:Key}{v:V}(e:H a=some (.dK Np))(hl:Np.length<sizeLine):AH H a (kV k) v (upd H a (.dK (putK Np k v))):=.inl ⟨Np,k,e,rfl,hl,rfl⟩
theorem AH.t{Np:List (List Key×V)}{k:List Key}{v:V}(e:H a=some (.dT Np))(eb:H b=some (.tup (k.map kV)))(hl:Np.length<sizeLine) :
  AH H a (.ref b) v (upd H a (.dT (putK Np k v))):=.inr ⟨Np,k,b,e,rfl,eb,hl,rfl⟩
section
variable{X:Cx}{Nn:List (Addr×Obj)}{σ:St}{H:Hp}{s:Shared}{a:Addr}{y v:V}{u r:Value}{o:Option V}{A:Around}{E:Value->Shared->Prop}
theorem Inv.big(I:Inv X Nn σ H s):sysModules<s.heap.objs.size:=by
 have h:mainGlobals<s.heap.objs.size:=(I.mod.glob.keeps I.bk).lt;exact LV (by decide) h
theorem GA(hu:A.units+1<cLine)(I:Inv X Nn σ H s)(g:nB H a y (some v))(ry:RelV y u)(h:∀w' s',Inv X Nn σ H s'->RelV v w'->Q w' s') :
  wpAny (model X.prog X.w) A (getItem (.ref a) u) Q E s:=by
 rcases g with⟨Np,k,e,ey,l⟩ | ⟨Np,k,b,e,ey,eb,l⟩
 .subst ey;obtain⟨z,hd,vs,rel,dd⟩:=El I.hok e;obtain⟨w',hw,Oh⟩:=jM.some_of (v:=v) (o:=valueAt vs k) (by rw[l];exact rel.val k);exact wpAny_getItem_of (zU ry) dd.mapOf hw (h w' _ (I.tok _) Oh)
 .subst ey;cases(show u=Value.ref b from ry)
  obtain⟨z,hd,xs,rel,dd⟩:=Ek I.hok e;obtain⟨w',hw,Oh⟩:=jM.some_of (v:=v) (o:=(atKey xs k).map (·.2)) (by rw[l];exact rel.val k);obtain⟨p,hp,Py⟩:=F0.mp hw;refine wpAny_getItem_heap (MI hu) (xO I.hok eb) dd hp ?_;rw[Py];exact h w' _ (I.tok _) Oh
theorem RG(hu:A.units+1<cLine)(I:Inv X Nn σ H s)(g:nB H a y o)(ry:RelV y u)(h:∀s',Inv X Nn σ H s'->Q (.bool (!o.isSome)) s') :
  wpAny (model X.prog X.w) A (compareOp .NotIn u (.ref a)) Q E s:=by
 rcases g with⟨Np,k,e,ey,l⟩ | ⟨Np,k,b,e,ey,eb,l⟩
 .subst ey;obtain⟨z,hd,vs,rel,dd⟩:=El I.hok e;refine wpAny_notIn_of (zU ry) hd dd.mapOf ?_;rw[<- (rel.val k).isSome_eq,<- l];exact h _ (I.tok _)
 .subst ey;cases(show u=Value.ref b from ry)
  obtain⟨z,hd,xs,rel,dd⟩:=Ek I.hok e;refine wpAny_notIn_heap (MI hu) (xO I.hok eb) hd dd ?_;have q:=(rel.val k).isSome_eq;rw[Option.isSome_map]at q;rw[<- q,<- l];exact h _ (I.tok _)
theorem xW{t':Nat}(I:Inv X Nn σ H s)(mu:Za (H a))(hs:Heap.SameBut a s.heap h')(he:∃q,h'.get? a=some q)(new:bj X.prog X.w (upd H a ob) h' a ob) :
  Inv X Nn σ (upd H a ob) {s with heap:=h',toks:=t' }:=
 I.write (x:=a) (e:=a) mu (.inl rfl) (λb q hb z=>(hs.2 b hb).trans z) he new
theorem Kg(z:Np.length<=sizeLine)(hd:(a==sysModules)=false)(rel:KV Np vs)(dd:h'.DictOf (bN P w) a vs) :
  bj P w H' h' a (.dK Np):=⟨z,hd,vs,rel,dd⟩
theorem Gz(hu:A.units+1<cLine)(I:Inv X Nn σ H s)(g:AH H a y v H')(ry:RelV y u)(rv:RelV v r)(h:∀s',Inv X Nn σ H' s'->Q () s') :
  wpAny (model X.prog X.w) A (setItem (.ref a) u r) Q E s:=by
 rcases g with⟨Np,k,e,ey,l,eH⟩ | ⟨Np,k,b,e,ey,eb,l,eH⟩
 .subst ey eH;obtain⟨z,hd,vs,rel,dd⟩:=S5 I.hok e;have hz:vs.length<=sizeLine:=by rw[<- rel.length];exact z
  have hl:(putK Np k v).length<=sizeLine:=by have:=gv Np k v;omega
  refine wpAny_setItem_pairs (hsz:=hz) (zU ry) dd λh' Vf hs=>h _ ?_;have he:∃q,h'.get? a=some q:=let ⟨q,_,_,hq,_⟩:=Vf;⟨q,hq⟩;exact xW I (by rw[e];exact True.intro) hs he (Kg hl hd (rel.put k rv) Vf)
 .subst ey eH;cases(show u=Value.ref b from ry)
  obtain⟨z,hd,xs,rel,dd⟩:=YM I.hok e;have hz:xs.length<=sizeLine:=by rw[<- MY rel];exact z
  have hl:(putK Np k v).length<=sizeLine:=by have:=gv Np k v;omega
  refine wpAny_setItem_heap (hsz:=hz) (MI hu) (xO I.hok eb) dd λh' Vf hs=>h _ ?_;obtain⟨q,es,ep,hq,h2,h3,h4,_,h5⟩:=Vf;refine xW I (by rw[e];exact True.intro) hs ⟨q,hq⟩ ⟨hl,hd,_,(rel.put k eb rv).keeps λc ys ec=>?_,q,es,ep,hq,h2,h3,h4,h5⟩;rw[aj (vY ec e (λz=>nomatch z))];exact ec
end
section
variable{X:Cx}{Nn:List (Addr×Obj)}{σ:St}{H:Hp}{s:Shared}{a:Addr}{Np:List (Key×V)}{k:Key}{u:Value}{A:Around}{E:Value->Shared->Prop}
end
def Vy(i:Expr):Prop:=∀ov iv,subscripted i false ov iv=operate [ov,iv] (getItem ov iv)
theorem Dm{value slice:Expr}{T id:String}{Q:Value->Shared->Prop}
  (hl:typeLookup (.type T) "__getitem__"=pure (some (.builtin id)))(hs:Vy slice)
  (h:wpAny (model prog w) A (eval value env) (λo s₁=>wpAny (model prog w) A (eval slice env) (λi s₂=>s₂.TypeIs o T/\wpAny (model prog w) A (getItem o i) Q E s₂) E s₁) E s) :
  wpAny (model prog w) A (eval (.Subscript value slice pos) env) Q E s:=by
 refine Subscript_ (v8 h (λo s₁ h₁=>v8 h₁ (λi s₂ h₂=>?_) λ_ _ x=>x) λ_ _ x=>x);obtain⟨hT,h₂⟩:=h₂;unfold subscriptTail;refine b6 ?_;rw[getitemInPython_of_ne hT.not_modules];refine b6 (Mr hT hl ?_)
 have fin:wpAny (model prog w) A (subscripted slice false o i) (λr s₃=>wpAny (model prog w) A (letTemporaryGo value o r >>= λ_=>pure r) Q E s₃) E s₂:=by
  rw[hs o i];exact wpAny_operating (v8 h₂ (λr s₃ h₃=>b6 (wpAny_letTemporaryGo (f6 h₃))) λ_ _ x=>x)
 first
  | exact f6 (b6 fin)
  | exact b6 (f6 (b6 fin))
  | exact b6 fin
theorem Ae{y:V}(I:Inv X Nn σ H s)(g:nB H a y o):s.TypeIs (.ref a) "dict":=by
 rcases g with⟨Np,k,e,_,_⟩ | ⟨Np,k,b,e,_,_,_⟩
 .obtain⟨_,_,vs,_,dd⟩:=El I.hok e;exact dd.typeIs
 .obtain⟨_,_,xs,_,dd⟩:=Ek I.hok e;exact dd.typeIs
def WD(td ty:TE):TE:=λσ H Q=>td σ H λx H1=>ty σ H1 λy H2=>∃a v,x=.ref a/\nB H2 a y (some v)/\Q v H2
def Qp(ty td:TE):TE:=λσ H Q=>ty σ H λy H1=>td σ H1 λx H2=>∃a o,x=.ref a/\nB H2 a y o/\Q (.bl (!o.isSome)) H2
def WU(td ty tv:TE):TS:=λD σ H=>tv σ H λv H1=>td σ H1 λx H2=>ty σ H2 λy H3=>∃a H4,x=.ref a/\AH H3 a y v H4/\D.nx σ H4
section
variable{X:Cx}{o i e value:Expr}{pos pos' NL:Pos}{td ty tv:TE}
theorem xC(hu:X.A.units+1<cLine)(ho:PE X o td)(hi:PE X i ty)(hs:Vy i:=by intro _ _;rfl):PE X (.Subscript o i pos) (WD td ty):=by
 intro Nn s σ H Q I h;refine Dm MO.lookup hs (Nr (ho Nn s σ H _ I h) λu s1 zz=>?_);obtain⟨x,H1,I1,rx,q1⟩:=zz;refine Nr (hi Nn s1 σ H1 _ I1 q1) λiv s2 zz=>?_;obtain⟨y,H2,I2,ry,a,v,ex,g,q2⟩:=zz;subst ex;obtain rfl:u=Value.ref a:=rx;exact⟨Ae I2 g,GA hu I2 g ry λw' s3 I3 Oh=>⟨v,H2,I3,Oh,q2⟩⟩
theorem vU(hu:X.A.units+1<cLine)(hi:PE X i ty)(ho:PE X o td):PC X .NotIn i o (Qp ty td):=by
 intro Nn s σ H Q I h;refine Nr (hi Nn s σ H _ I h) λiv s1 zz=>?_;obtain⟨y,H1,I1,ry,q1⟩:=zz;refine Nr (ho Nn s1 σ H1 _ I1 q1) λu s2 zz=>?_;obtain⟨x,H2,I2,rx,a,ov,ex,g,q2⟩:=zz;subst ex;obtain rfl:u=Value.ref a:=rx;exact RG hu I2 g ry λs3 I3=>⟨.bl (!ov.isSome),H2,I3,rfl,q2⟩
theorem DR(hu:X.A.units+1<cLine)(ho:PE X o td)(hi:PE X i ty)(hv:PE X value tv)(hs:swapsWith value (some (.Subscript o i pos')) pos.line X.env=pure false) :
  PS X (.Assign [.Subscript o i pos'] value pos) (WU td ty tv):=by
 intro Nn s σ H D I h;refine wpAny_Assign_Subscript (Nr (hv Nn s σ H _ I h) λr s1 zz=>?_) hs;obtain⟨v,H1,I1,rv,q1⟩:=zz;refine Nr (ho Nn s1 σ H1 _ I1 q1) λu s2 zz=>?_;obtain⟨x,H2,I2,rx,q2⟩:=zz;refine Nr (hi Nn s2 σ H2 _ I2 q2) λiv s3 zz=>?_;obtain⟨y,H3,I3,ry,a,H4,ex,g,q3⟩:=zz;subst ex;obtain rfl:u=Value.ref a:=rx;exact Gz hu I3 g ry rv λs4 I4=>⟨σ,H4,I4,q3⟩
end
theorem Ad(h:Heap)(hb:sysModules<h.objs.size):bj P w H (h.push {cls:=.type "dict",data:=.dict #[] }) h.objs.size (.dK []):=
 ⟨z5 _,B9.mpr (B8 (v3 hb)),[],.nil,Heap.DictOf.new h⟩
theorem Kd(h:Heap)(hb:sysModules<h.objs.size):bj P w H (h.push {cls:=.type "dict",data:=.dict #[] }) h.objs.size (.dT []):=
 ⟨z5 _,B9.mpr (B8 (v3 hb)),[],.nil,_,#[],0,g7 _ rfl,⟨rfl,rfl,rfl⟩,rfl,rfl,List.nodup_nil⟩
def TB:TE:=λ_ H Q=>∀p,H p=none->Q (.ref p) (upd H p (.dK []))
def Tz:TE:=λ_ H Q=>∀p,H p=none->Q (.ref p) (upd H p (.dT []))
section
variable{X:Cx}{pos:Pos}
theorem zq:PE X (.Dict [] [] pos) TB:=λNn s σ H Q I h =>
 wpAny_Dict_empty ⟨.ref s.heap.objs.size,_,I.laid (a:=s.heap.objs.size) (o:=.dK []) (t':=s.toks) (λ_ _ q=>e9 _ q) (f7 _) (Ad s.heap I.big),rfl,h _ (I.hok.fresh (f7 _))⟩
theorem IH:PE X (.Dict [] [] pos) Tz:=λNn s σ H Q I h =>
 wpAny_Dict_empty ⟨.ref s.heap.objs.size,_,I.laid (a:=s.heap.objs.size) (o:=.dT []) (t':=s.toks) (λ_ _ q=>e9 _ q) (f7 _) (Kd s.heap I.big),rfl,h _ (I.hok.fresh (f7 _))⟩
end
def AW:List (TE×TE)->St->Hp->(List (V×V)->Hp->Prop)->Prop
 | [],_,H,Q=>Q [] H
 | (tk,tv)::r,σ,H,Q=>tk σ H λx H1=>tv σ H1 λy H2=>AW r σ H2 λps H3=>Q ((x,y)::ps) H3
abbrev VV:List (V×V)->List (Value×Value)->Prop:=Paired λp q=>RelV p.1 q.1/\RelV p.2 q.2
def ZV(X:Cx)(pos:Pos)(keys:List (Option Expr))(values:List Expr)(Th:List (TE×TE)):Prop:=
 ∀Nn s σ H Q,Inv X Nn σ H s->AW Th σ H Q->
  wpAny (model X.prog X.w) X.A (evalPairs (pairTrees keys values X.env pos)) (λvs s'=>∃ps H',Inv X Nn σ H' s'/\VV ps vs/\Q ps H') X.xe s
theorem QK:ZV X pos [] [] []:=λNn s σ H Q I h=>pairTrees_nil_walk ⟨[],H,I,.nil,h⟩
theorem oo{tk:TE}(hk:PE X k tk)(hv:PE X v tv)(hr:ZV X pos ks vs Th) :
  ZV X pos (some k::ks) (v::vs) ((tk,tv)::Th):=λNn s σ H Q I h =>
 pairTrees_cons_walk (Nr (hk Nn s σ H _ I h) λu s1 ⟨x,H1,I1,rx,q1⟩=>Nr (hv Nn s1 σ H1 _ I1 q1) λw2 s2 ⟨y,H2,I2,ry,q2⟩ =>
  Nr (hr Nn s2 σ H2 _ I2 q2) λws s3 ⟨ps,H3,I3,rel,q3⟩=>⟨(x,y)::ps,H3,I3,.cons ⟨rx,ry⟩ rel,q3⟩)
noncomputable def qe(Np more:List (Key×V)):List (Key×V):=more.foldl (λacc kv=>putK acc kv.1 kv.2) Np
theorem KV.merge:∀{more:List (Key×V)}{rs:List (Key×Value)}{Np:List (Key×V)}{vs:List (Key×Value)},KV more rs->KV Np vs->KV (qe Np more) (merged vs rs):=by
 intro more rs Np vs r;unfold KV at r
 induction r generalizing Np vs with
 | nil=>intro q;exact q
 | @cons p q ps qs h t ih =>
  intro r0
  have e:KV (putK Np p.1 p.2) (stored vs q.1 q.2):=by
   have:=r0.put p.1 h.2;rw[<- h.1];exact this
  exact ih e
theorem mD:∀more Np,(qe Np more).length<=Np.length+more.length
 | [],Np=>by show Np.length<=Np.length+0;omega
 | p::r,Np=>by
  have h1:=mD r (putK Np p.1 p.2);have h2:=gv Np p.1 p.2;show(qe (putK Np p.1 p.2) r).length<=_;rw[k8];omega
theorem uj{P:Program}{w:World}:∀{Np:List (Key×V)}{ws:List (Value×Value)},VV (Np.map λkv=>(kV kv.1,kv.2)) ws->∃rs,Carries (bN P w) ws rs/\KV Np rs
 | [],_,r=>by rw[My]at r;cases r;exact⟨[],True.intro,.nil⟩
 | p::Np,_,r=>by
  rw[v7]at r;cases r with
  | @cons a b as bs h t =>
   obtain⟨rs,c,q⟩:=uj (P:=P) (w:=w) t;obtain⟨b1,b2⟩:=b;exact⟨(p.1,b2)::rs,⟨zU h.1,rfl,c⟩,.cons ⟨rfl,h.2⟩ q⟩
def WC(Th:List (TE×TE)):TE:=λσ H Q=>∀p,H p=none->AW Th σ (upd H p (.dK [])) λps H2=>H2 p=some (.dK [])/\∃Np:List (Key×V),ps=Np.map (λkv=>(kV kv.1,kv.2))/\Np.length<=15/\Q (.ref p) (upd H2 p (.dK (qe [] Np)))
theorem QQ(h:ZV X pos keys values Th)(UM:keys.all (·.isSome)=true)(hl:keys.length=values.length)(h0:keys≠[])
  (h15:keys.length<=15):PE X (.Dict keys values pos) (WC Th):=by
 intro Nn s σ H Q I q;have hn:=I.hok.fresh (f7 s.heap.objs.size);have I1:=I.laid (a:=s.heap.objs.size) (o:=.dK []) (h':=s.heap.push {cls:=.type "dict",data:=.dict #[] }) (t':=s.toks) (λ_ _ q=>e9 _ q) (f7 _) (Ad s.heap I.big);refine wpAny_Dict_walk (knd:=bN X.prog X.w) UM hl h0 h15 (Nr (h Nn _ σ _ _ I1 (q _ hn)) λws s2 zz=>?_);obtain⟨ps,H2,I2,rel,e,Np,ep,lk,q2⟩:=zz;subst ep;obtain⟨rs,c,rk⟩:=uj (P:=X.prog) (w:=X.w) rel;obtain⟨z,hd,vs0,r0,dd⟩:=S5 I2.hok e;cases r0
 refine⟨rs,c,dd,λh' Vf hs=>⟨.ref s.heap.objs.size,_,?_,rfl,q2⟩⟩
 have hz:(qe [] Np).length<=sizeLine:=by
  have h1:=mD Np [];rw[D3]at h1;rw[F3];omega
 have he:∃q,h'.get? s.heap.objs.size=some q:=let ⟨q,_,_,hq,_⟩:=Vf;⟨q,hq⟩;exact xW I2 (by rw[e];exact True.intro) hs he (Kg hz hd (rk.merge .nil) Vf)
structure M1(X:Cx)(o:Expr)(m:Str)(apos:Pos)(e:Expr)(NA:Pos):Prop where
 base:attributeBase o m X.env (eval o X.env)=eval o X.env
 few:((backTo NA (starEach [e] X.env)).all (λx=>!x.1) && (backToKw NA (keywordEach [] X.env)).all (λx=>x.1.isSome)
  && decide (([e]:List Expr).length+([]:List Keyword).length+(if([]:List Keyword).isEmpty then 0 else 1)<30))=true
 line:(apos.endLine==NA.line)=true
 trees:backTo NA (starEach [e] X.env)=[(false,eval e X.env)]
section
variable{X:Cx}{Nn:List (Addr×Obj)}{σ:St}{H:Hp}{s:Shared}{a:Addr}{y d:V}{u r:Value}{o:Option V}{A:Around}{E:Value->Shared->Prop}
end
section
variable{X:Cx}{o e f:Expr}{apos NA:Pos}{td ty tx:TE}
end
section
variable{X:Cx}{Nn:List (Addr×Obj)}{σ:St}{H:Hp}{s:Shared}{a:Addr}{Np:List (Key×V)}{A:Around}{E:Value->Shared->Prop}
end
section
variable{X:Cx}{Nn:List (Addr×Obj)}{σ:St}{H:Hp}{s:Shared}{a:Addr}{y:V}{u:Value}{A:Around}{E:Value->Shared->Prop}
end
theorem FQ:typeLookup (.type "list_reverseiterator") "__len__"=pure none:=by rw[typeLookup_type,builtinLookup_eq_fast];kernel_rfl
theorem JV:typeLookup (.type "list_reverseiterator") "__length_hint__"=pure (some (.builtin "list_reverseiterator.__length_hint__")):=by rw[typeLookup_type,builtinLookup_eq_fast];kernel_rfl
section
variable{prog:Program}{w:World}{A:Around}{E:Value->Shared->Prop}{s:Shared}{R:Result->Shared->Prop}{l it S:Addr}{items:Array Value}
theorem RB(hh:A.handled=none)(Rm:l≠it)(hSl:S≠l)(hSi:S≠it)(hit:s.heap.IsRevIter it l ((items.size:Int)-1))(hl:s.heap.IsList l items)(hz:items.size<=sizeLine)
  (hS:s.heap.get? S=some {cls:=.type "list",data:=.seq #[] c₀})
  (fin:∀h' tk acc c',(∀b o,b≠S->b≠it->s.heap.get? b=some o->h'.get? b=some o)->h'.get? S=some {cls:=.type "list",dict:=none,data:=.seq acc c',slots:=#[] } ->
   ItemsOf (λi v=>items[items.size-1-i]?=some v) acc items.size->R (.ok (.ret .none)) {s with heap:=h',toks:=tk}) :
  wpAny (model prog w) A.in1 (Builtin.List.listExtendWith (.ref S) (.ref it) .none)
   (λf s'=>match f with | .done z=>R (.ok z) s' | .again c'=>c'.quiet=true/\codeAny (model prog w) A c' R s') (λe s'=>R (.error e) s') s:=by
 have WW:=(Walks.listRev (prog:=prog) (w:=w) (A:=A.in1) hh it l Rm items).toS;have st0:(0:Nat)<=items.size/\s.heap.IsRevIter it l ((items.size:Int)-1-((0:Nat):Int))/\s.heap.IsList l items:=⟨z5 _,by simpa using hit,hl⟩;have out:S ∉ [it,l]:=by simp[hSl,hSi]
 unfold Builtin.List.listExtendWith;refine b6 (Nc hit.typeIs ?_);have e1:Builtin.List.listSameRef (.ref S) (.ref it)=false:=by simp[Builtin.List.listSameRef,hSi]
 rw[h9 (by rw[e1];decide)];refine b6 (Mj hit ?_);refine b6 (D8 ?_);unfold Builtin.List.listLengthHint;refine b6 (Mr hit.typeIs FQ ?_);show wpAny _ A.in1 (specialOf (Value.ref it) (Str.ofString "__length_hint__") >>= _) _ _ _;refine b6 (Mr hit.typeIs JV ?_);generalize X0:("list_reverseiterator.__length_hint__":String)=id0
 wp_delta
 rw[show splitId id0=some ("list_reverseiterator","__length_hint__") from by subst X0;decide+kernel];subst X0;refine b6 (F6 (b:=true) hit.typeIs (by rw[isSubtype_type];kernel_rfl) ?_);refine f6 ?_;rw[h9 (by decide)];refine f6 ⟨M3 F.plain_extend_loop _,codeAny_extend_loopS WW hz S out _ items.size 0 _ _ _ rfl (z5 _) st0 hS (ItemsOf.nil _) λs' acc c' hm PB ha=>?_⟩;rw[Moved.eq_with hm];refine fin s'.heap s'.toks acc c' (λb o h1 h2 e=>hm.heap b o (by simp[h1,h2]) e) PB ha
theorem JJ(hh:A.handled=none)(Rm:l≠it)(hit:s.heap.IsRevIter it l ((items.size:Int)-1))(hl:s.heap.IsList l items)(hz:items.size<=sizeLine)
  (fin:∀h' tk c',(∀b o,b≠it->s.heap.get? b=some o->h'.get? b=some o)->h'.get? s.heap.objs.size=some {cls:=.type "list",dict:=none,data:=.seq items.toList.reverse.toArray c',slots:=#[] } ->
   Q (.ref s.heap.objs.size) {s with heap:=h',toks:=tk}):wpAny (model prog w) A (call (.type "list") [.ref it]) Q E s:=by
 obtain⟨oi,hoi,_⟩:=id hit;obtain⟨ol,hol,_⟩:=id hl;have n1:s.heap.objs.size≠it:=λe=>y7 _ (e ▸ f9 hoi);have n2:s.heap.objs.size≠l:=λe=>y7 _ (e ▸ f9 hol);refine callType_codes (Q₁:=λobj s₁=>obj=.ref s.heap.objs.size/\s₁={s with heap:=s.heap.push {cls:=.type "list",data:=.seq #[] } }) F.called_list (F.typeCall_list_1 _) F.entry_list_init (code_list_new _ ⟨rfl,rfl⟩) λobj s₁ h₁=>?_
 obtain⟨rfl,rfl⟩:=h₁;have hS:(s.heap.push {cls:=.type "list",data:=.seq #[] }).get? s.heap.objs.size=some {cls:=.type "list",data:=.seq #[] }:=g7 _ rfl;refine⟨⟨_,hS,rfl⟩,F.args_list_init_2 _ _,?_⟩;show wpAny _ _ (Builtin.List.listItems (.ref s.heap.objs.size) >>= λold=>Builtin.List.listUpdate (.ref s.heap.objs.size) (λ_=>#[]) >>= λ_=>letGo old.toList.reverse >>= λ_=>Builtin.List.listExtendWith (.ref s.heap.objs.size) (.ref it) .none) _ _ _;refine b6 ?_;unfold Builtin.List.listItems;refine b6 (C6 hS rfl (f6 ?_));show wpAny _ _ (updateSeq s.heap.objs.size (λ_=>#[]) >>= λ_=>letGo (#[]:Array Value).toList.reverse >>= λ_=>_) _ _ _;refine b6 (wpAny_updateSeq hS rfl ?_);have ZK:=C2 (Obj.mapSeq (λ_=>(#[]:Array Value))) hS rfl
 have oth:∀b o,b≠s.heap.objs.size->s.heap.get? b=some o->((s.heap.push {cls:=.type "list",data:=.seq #[] }).update s.heap.objs.size (Obj.mapSeq (λ_=>(#[]:Array Value)))).get? b=some o:=
  λb o hb e=>(A3 _ _ (B8 hb)).trans (e9 _ e)
 refine b6 (MU ?_);refine RB (l:=l) (items:=items) (R:=wants (λr s₂=>r=.none/\Q (.ref s.heap.objs.size) s₂) E) (show A.in1.handled=none from hh) Rm n2 n1 (hit.at λo e=>oth _ o (B8 n1) e) (hl.at λo e=>oth _ o (B8 n2) e) hz ZK λh' tk acc c' kp e ha=>?_
 have ea:acc=items.toList.reverse.toArray:=by
  apply Array.ext';refine List.ext_getElem? λi=>?_;rw[K5]
  by_cases hi:i<items.size
  .have h1:acc.size=items.size:=ha.1;have hv:acc[i]?=some (acc[i]'(by omega)):=C8 (by omega);have pv:=ha.2 i _ hv;rw[hv];show some _=items.toList.reverse[i]?;rw[List.getElem?_reverse (by simpa using hi),K5];rw[<- pv];simp
  .have h1:acc.size=items.size:=ha.1;rw[LW (by omega)];show none=items.toList.reverse[i]?;rw[G0 (by simpa using Nat.le_of_not_lt hi)]
 subst ea;exact⟨rfl,fin h' tk c' (λb o h1 h2=>kp b o (λz=>by subst z;exact y7 _ (f9 h2)) h1 (oth b o (λz=>by subst z;exact y7 _ (f9 h2)) h2)) e⟩
end
structure aJ(P:Program)(w:World)(K:W.Frag)(mg:Str->Option Value)(base:Heap)(C:Addr)(m:Str)(k:Nat)(ps:List Str)(sp:Sp):Prop where
 cl:Cls K C
 ex:∃(f:Addr)(fd:FuncData),Meth K C m f/\gS P w K mg base CX0 k f fd ps sp/\Binds K fd ps []
section
variable{X:Cx}{o e:Expr}{es:List Expr}{ta te:TE}{t:TA}{m x:Str}{k:Nat}{p pos apos p2 TY:Pos}{C:Addr}
def HQ(X:Cx)(k:Nat)(m:Str)(ta:TE)(t:TA):TE:=λσ H Q=>ta σ H λx H1=>∃a C dx fs ps sp,x=.ref a/\H1 a=some (.ins C dx fs)/\fs.lookup m=none/\
 aJ X.prog X.w X.K X.mg X.base C m k ps sp/\t σ H1 λvs H2=>sp (.ref a::vs) H2 Q E0
theorem bo{pl:Sem Bool}(he:PE X o ta)(hr:bX k X.A)
  (ht:eval (.Call (.Attribute o m apos) [] [] pos) X.env=(do
   let ov <- eval o X.env
   standAt apos.atName
   let (f,first) <- holding [ov] (getMethod ov m pl)
   callWith pos f first (backTo pos (starEach [] X.env)) (backToKw pos (keywordEach [] X.env))):=by rfl) :
  PE X (.Call (.Attribute o m apos) [] [] pos) (HQ X k m ta nG):=by
 intro Nn s σ H Q I h;refine G1 (pl:=pl) (Nr (he Nn s σ H _ I h) λu s1 zz=>?_) ht;obtain⟨y,H1,I1,ry,a,C,dx,fs,ps,sp,ey,ea,lo,M,q⟩:=zz;subst ey;have eu:u=Value.ref a:=ry;subst eu;obtain⟨f,fd,hm,G,hb⟩:=M.ex;refine iI I1 ea M.cl hm lo ?_;exact Lw (first:=[.ref a]) I1.kIn hm.kp (pV (us:=[.ref a]) (vs:=[.ref a]) G hr hb .nil vV I1 (.cons rfl .nil) q)
theorem kW{pl:Sem Bool}(he:PE X o ta)(hr:bX k X.A)(ha:PA X (e::es) t)
  (O3:starEach (e::es) X.env=(false,eval e X.env)::starEach es X.env:=by rfl)(NR:(backTo pos (starEach es X.env)).any (·.1)=false:=by rfl)
  (ht:eval (.Call (.Attribute o m apos) (e::es) [] pos) X.env=(do
   let ov <- eval o X.env
   standAt apos.atName
   let (f,first) <- holding [ov] (getMethod ov m pl)
   callWith pos f first (backTo pos (starEach (e::es) X.env)) (backToKw pos (keywordEach [] X.env))):=by rfl) :
  PE X (.Call (.Attribute o m apos) (e::es) [] pos) (HQ X k m ta t):=by
 intro Nn s σ H Q I h;refine G1 (pl:=pl) (Nr (he Nn s σ H _ I h) λu s1 zz=>?_) ht;obtain⟨y,H1,I1,ry,a,C,dx,fs,ps,sp,ey,ea,lo,M,q⟩:=zz;subst ey;have eu:u=Value.ref a:=ry;subst eu;obtain⟨f,fd,hm,G,hb⟩:=M.ex;refine iI I1 ea M.cl hm lo ?_;refine F7 (first:=[.ref a]) (h₀:=X.base) I.ok.mod.kin hm.kp (Nr (ha pos Nn s1 σ H1 _ I1 q) λus s2 zz=>?_) O3 NR;obtain⟨vs,H2,I2,r2,q2⟩:=zz;refine⟨I2.kIn,?_⟩;refine pV (us:=.ref a::us) (vs:=.ref a::vs) (dvs:=[]) G hr hb .nil vV I2 (.cons rfl r2) ?_;rw[A6];exact q2
structure Mk0(K:W.Frag)(C:Addr):Prop where
 makes:PySem.W.makesIn K C=true
 init:PySem.W.findIn K (.ref C) "__init__"=some (some (.builtin "object.__init__"))
 kp:PySem.W.keepIn K (.ref C)=true
def Tw(C:Addr):TE:=λ_ H Q=>∀a dx,H a=none->H dx=none->dx≠a->Q (.ref a) (upd (upd H dx (.own a)) a (.ins C dx []))
theorem zp(M:Mk0 X.K C)(hg:Gl X x)(hm:X.mg x=some (.ref C))(NO:(x==("__debug__":Str))=false:=by decide):PE X (.Call (.Name x p) [] [] pos) (Tw C):=by
 intro Nn s σ H Q I h;refine z7 (dN I hg hm ?_ NO);refine Lw I.kIn M.kp (Li ?_);have Y:=M8 (M:=model X.prog X.w) I.kIn M.makes;refine Gg I.kIn M.makes M.init (λself=>PySem.W.Looks.of_pure (PySem.W.oi_bind self)) ?_;have I2:=Inv.made (C:=C) I
 have e2:((s.heap.push PySem.W.emptyDict).push (PySem.W.instObj C s.heap.objs.size)).get? (s.heap.objs.size+1)=some (PySem.W.instObj C s.heap.objs.size):=by
  have z:=g7 (s.heap.push PySem.W.emptyDict) (o:=PySem.W.instObj C s.heap.objs.size) rfl
  rwa [A7]at z
 have t1:PySem.W.Looks (model X.prog X.w) ((s.heap.push PySem.W.emptyDict).push (PySem.W.instObj C s.heap.objs.size)) (typeOf (.ref (s.heap.objs.size+1))) (.ref C):=(PySem.W.Looks.ld e2).andThen .now
 have t2:PySem.W.Looks (model X.prog X.w) ((s.heap.push PySem.W.emptyDict).push (PySem.W.instObj C s.heap.objs.size)) (isInstance (.ref (s.heap.objs.size+1)) (.type "object")) true:=
  t1.andThen (Y.top.keeps λb q z=>e9 _ (e9 _ z))
 have z:=h (s.heap.objs.size+1) s.heap.objs.size (I.hok.fresh (J3 _)) (I.hok.fresh (f7 _)) (v3 (Lq _));refine G6 PySem.W.oi_plain PySem.W.entry_oi (PySem.W.check_slot (i:="object.__init__") (owner:="object") (n:="__init__") (self:=.ref (s.heap.objs.size+1)) (rest:=[]) (kw:=[]) PySem.W.oi_kind PySem.W.oi_split t2 (PySem.W.oi_args _) ?_);rw[PySem.W.oi_run];exact f6 (And.intro rfl ⟨V.ref (s.heap.objs.size+1),_,I2,rfl,z⟩)
def tLR(te:TE):TE:=λσ H Q=>te σ H λx H1=>∃l ys,x=.ref l/\H1 l=some (.lst ys)/\∀q,H1 q=none->Q (.ref q) (upd H1 q (.lst ys.reverse))
theorem Bs(hc:X.calm=true)(hg1:Gl X "list")(hm1:X.mg "list"=none)(hg2:Gl X "reversed")(hm2:X.mg "reversed"=none)(he:PE X e te)
  (hs1:starEach [.Call (.Name "reversed" p2) [e] [] TY] X.env=[(false,eval (.Call (.Name "reversed" p2) [e] [] TY) X.env)]:=by rfl)
  (Od:starEach [e] X.env=[(false,eval e X.env)]:=by rfl):PE X (.Call (.Name "list" p) [.Call (.Name "reversed" p2) [e] [] TY] [] pos) (tLR te):=by
 intro Nn s σ H Q I h;have b1:bootBuiltins "list"=some (.type "list"):=by decide+kernel
 have b2:bootBuiltins "reversed"=some (.type "reversed"):=by decide+kernel
 refine z7 (gQ I hg1 hm1 b1 ?_ (by decide) (by decide));refine y8 ?_ hs1 (by rfl);rw[hs1];refine A2 ?_;refine z7 (gQ I hg2 hm2 b2 ?_ (by decide) (by decide));refine y8 ?_ Od (by rfl);rw[Od];refine A2 (Nr (he Nn s σ H _ I h) λu s1 zz=>?_);obtain⟨y,H1,I1,ry,l,ys,ey,el,q⟩:=zz;subst ey;have eu:u=Value.ref l:=ry;subst eu;refine C3 ?_;obtain⟨hz,its,n,rv,hlen,hl⟩:=I1.lstM el;have hL:s1.heap.IsList l its.toArray:=⟨_,hl,rfl,n,rfl⟩;refine call_reversed_list hL ?_;refine C3 ?_;have hit:(s1.heap.push (revObj l ((its.toArray.size:Int)-1))).IsRevIter s1.heap.objs.size l ((its.toArray.size:Int)-1):=⟨_,g7 _ rfl,rfl,rfl⟩;have Rm:l≠s1.heap.objs.size:=λz=>y7 _ (z ▸ f9 hl);refine JJ (s:={s1 with heap:=s1.heap.push (revObj l ((its.toArray.size:Int)-1)) }) (I1.ok.hd hc) Rm hit (hL.push _) (by rw[i8];omega) λh' tk c' kp en=>?_
 have hs:(s1.heap.push (revObj l ((its.toArray.size:Int)-1))).objs.size=s1.heap.objs.size+1:=A7 _ _;rw[hs]at en ⊢;refine⟨.ref (s1.heap.objs.size+1),upd H1 (s1.heap.objs.size+1) (.lst ys.reverse),I1.laid (h':=h') (t':=tk) (λb u z=>kp b u (v3 (f9 z)) (e9 _ z)) (J3 _) ?_,rfl,q _ (I1.hok.fresh (J3 _))⟩;exact⟨by rw[p6];exact hz,its.reverse,c',rv.reverse,by simpa using en⟩
end
end L2
namespace Mine
open PySem
variable{r r':List Nat}
inductive W5 where
 | more | less | greater | lesser | leads
noncomputable def W5.str:W5->Str
 | .more=>"more" | .less=>"less" | .greater=>"greater" | .lesser=>"lesser" | .leads=>"leads"
inductive Tr where
 | never | always | lp | lq
 | no (t:Tr)
 | fold (w:W5) (a b:Tr)
noncomputable def Tr.size:Tr->Nat
 | .no t=>t.size+1
 | .fold _ a b=>a.size+b.size+1
 | _=>1
theorem Tr.size_pos:∀t:Tr,1<=t.size
 | .never | .always | .lp | .lq=>f7 _
 | .no _=>Nat.le_add_left _ _
 | .fold _ _ _=>Nat.le_add_left _ _
noncomputable def Tr.words:Tr->List Str
 | .never=>["never"]
 | .always=>["always"]
 | .lp=>["p"]
 | .lq=>["q"]
 | .no t=>"not"::t.words
 | .fold w a b=>"("::(a.words++w.str::(b.words++[(")":Str)]))
noncomputable def Tr.text:Tr->Str
 | .never=>"never"
 | .always=>"always"
 | .lp=>"p"
 | .lq=>"q"
 | .no t=>"not "++t.text
 | .fold w a b=>"( "++a.text++" "++w.str++" "++b.text++" )"
theorem Qz(a b c:Str):a++b++c=a++(b++c):=y9 Str.mk (Array.append_assoc ..)
theorem iu:∀t:Tr,∃x r,t.words=x::r
 | .never=>⟨_,_,rfl⟩
 | .always=>⟨_,_,rfl⟩
 | .lp=>⟨_,_,rfl⟩
 | .lq=>⟨_,_,rfl⟩
 | .no _=>⟨_,_,rfl⟩
 | .fold _ _ _=>⟨_,_,rfl⟩
theorem vB(sep:Str)(y:Str)(ys:List Str):∀x xs,Str.join sep ((x::xs)++(y::ys))=Str.join sep (x::xs)++sep++Str.join sep (y::ys)
 | x,[]=>rfl
 | x,z::r=>by
  have ih:=vB sep y ys z r;show x++sep++Str.join sep ((z::r)++(y::ys))=x++sep++Str.join sep (z::r)++sep++Str.join sep (y::ys);rw[ih];simp only[Qz]
theorem qv(sep:Str)(t:Tr)(y:Str)(ys:List Str):Str.join sep (t.words++(y::ys))=Str.join sep t.words++sep++Str.join sep (y::ys):=by
 obtain⟨x,r,e⟩:=iu t;rw[e];exact vB sep y ys x r
theorem Q8:("not ":Str)="not"++" ":=by decide+kernel
theorem T8:("( ":Str)="("++" ":=by decide+kernel
theorem Vl:(" )":Str)=" "++")":=by decide+kernel
theorem jm:∀t:Tr,Str.join " " t.words=t.text
 | .never=>rfl
 | .always=>rfl
 | .lp=>rfl
 | .lq=>rfl
 | .no t=>by
  have ih:=jm t;obtain⟨x,r,e⟩:=iu t;show Str.join " " ("not"::t.words)="not "++t.text;rw[Q8,<- ih,e];rfl
 | .fold w a b=>by
  have ia:=jm a;have ib:=jm b;obtain⟨x,r,e⟩:=iu a;obtain⟨x2,r2,e2⟩:=iu b;have h1:Str.join " " ("("::(a.words++w.str::(b.words++[(")":Str)])))="("++" "++Str.join " " (a.words++w.str::(b.words++[(")":Str)])):=by rw[e];rfl
  have h2:Str.join " " (w.str::(b.words++[(")":Str)]))=w.str++" "++Str.join " " (b.words++[(")":Str)]):=by rw[e2];rfl
  have h3:Str.join " " [(")":Str)]=")":=rfl;show Str.join " " ("("::(a.words++w.str::(b.words++[(")":Str)])))="( "++a.text++" "++w.str++" "++b.text++" )";rw[h1,qv,h2,qv,h3,ia,ib,T8,Vl];simp only[Qz]
theorem pj(t:Tr):Txt.join " " t.words=t.text:=by
 show Builtin.Str.glued " " t.words=t.text;rw[StrLaws.glued_eq_join];exact jm t
noncomputable def W5.chars:W5->List Nat
 | .more=>[109,111,114,101]
 | .less=>[108,101,115,115]
 | .greater=>[103,114,101,97,116,101,114]
 | .lesser=>[108,101,115,115,101,114]
 | .leads=>[108,101,97,100,115]
theorem W5.chars_str(w:W5):w.str.cps.toList=w.chars:=by cases w<;>decide+kernel
noncomputable def Tr.chars:Tr->List Nat
 | .never=>[110,101,118,101,114]
 | .always=>[97,108,119,97,121,115]
 | .lp=>[112]
 | .lq=>[113]
 | .no t=>[110,111,116,32]++t.chars
 | .fold w a b=>[40,32]++a.chars++[32]++w.chars++[32]++b.chars++[32,41]
theorem ze(a b:Str):(a++b).cps.toList=a.cps.toList++b.cps.toList:=by
 show(a.cps++b.cps).toList=_;exact Array.toList_append
theorem WR:("not ":Str).cps.toList=[110,111,116,32]:=by decide+kernel
theorem s_op:("( ":Str).cps.toList=[40,32]:=by decide+kernel
theorem s_cl:(" )":Str).cps.toList=[32,41]:=by decide+kernel
theorem s_sp:(" ":Str).cps.toList=[32]:=by decide+kernel
theorem iJ:∀t:Tr,t.text.cps.toList=t.chars
 | .never=>by decide+kernel
 | .always=>by decide+kernel
 | .lp=>by decide+kernel
 | .lq=>by decide+kernel
 | .no t=>by
  show(("not ":Str)++t.text).cps.toList=_;rw[ze,WR,iJ t];rfl
 | .fold w a b=>by
  show(("( ":Str)++a.text++" "++w.str++" "++b.text++" )").cps.toList=_;simp only[ze,s_op,s_cl,s_sp,iJ a,iJ b,W5.chars_str];rfl
theorem W5.ip{w w':W5}(h:w.chars++32::r=w'.chars++32::r'):w=w'/\r=r':=by
 cases w<;>cases w'<;>simp[W5.chars]at h<;>first | exact⟨rfl,h⟩ | exact h.elim | skip
theorem ip:∀(t t':Tr)(r r':List Nat),t.chars++r=t'.chars++r'->t=t'/\r=r'
 | .no t,t',r,r',h=>by
  cases t' with
  | no t' =>
   have h':t.chars++r=t'.chars++r':=by simpa [Tr.chars] using h
   obtain⟨e1,e2⟩:=ip t t' r r' h';exact⟨by rw[e1],e2⟩
  | _=>simp[Tr.chars]at h
 | .fold w a b,t',r,r',h=>by
  cases t' with
  | fold w' a' b' =>
   have h1:a.chars++(32::(w.chars++32::(b.chars++32::41::r)))=a'.chars++(32::(w'.chars++32::(b'.chars++32::41::r'))):=by simpa [Tr.chars] using h
   obtain⟨e1,h2⟩:=ip a a' _ _ h1;obtain⟨e2,h3⟩:=W5.ip (K2 h2).2;obtain⟨e3,h4⟩:=ip b b' _ _ h3;exact⟨by rw[e1,e2,e3],(K2 (K2 h4).2).2⟩
  | _=>simp[Tr.chars]at h
 | .never,t',r,r',h=>by cases t'<;>simp[Tr.chars]at h<;>exact⟨rfl,h⟩
 | .always,t',r,r',h=>by cases t'<;>simp[Tr.chars]at h<;>exact⟨rfl,h⟩
 | .lp,t',r,r',h=>by cases t'<;>simp[Tr.chars]at h<;>exact⟨rfl,h⟩
 | .lq,t',r,r',h=>by cases t'<;>simp[Tr.chars]at h<;>exact⟨rfl,h⟩
theorem HK{t t':Tr}(h:t.text=t'.text):t=t':=by
 have e:t.chars++[]=t'.chars++[]:=by rw[<- iJ,<- iJ,h]
 exact(ip t t' [] [] e).1
theorem EB:∀t:Tr,(t.words.map (·.length)).sum+t.words.length*(" ":Str).length<=32*t.size:=by
 intro t
 induction t with
 | no t ih =>
  have h1:("not":Str).length=3:=by decide+kernel
  have h2:(" ":Str).length=1:=by decide+kernel
  simp only[Tr.words,Tr.size,v7,List.sum_cons,k8,h1,h2,Nat.mul_one]at ih ⊢;omega
 | fold w a b ia ib =>
  have h1:("(":Str).length=1:=by decide+kernel
  have h2:(" ":Str).length=1:=by decide+kernel
  have h3:(")":Str).length=1:=by decide+kernel
  have h4:w.str.length<=7:=by cases w<;>decide+kernel
  simp only[Tr.words,Tr.size,v7,List.sum_cons,k8,x9,List.sum_append,p7,My,List.sum_nil,D3,h1,h2,h3,Nat.mul_one]at ia ib ⊢;omega
 | _=>decide+kernel
noncomputable def W5.worth(w:W5)(n a b:Int):Int:=match w with
 | .more=>min (a+b) n
 | .less=>max (a+b-n) 0
 | .greater=>max a b
 | .lesser=>min a b
 | .leads=>min (n-a+b) n
structure Alg(α:Type) where
 leaf:Tr->α
 no:α->α
 fold:W5->α->α->α
noncomputable def Alg.val{α:Type}(G:Alg α):Tr->α
 | .no t=>G.no (G.val t)
 | .fold w a b=>G.fold w (G.val a) (G.val b)
 | t=>G.leaf t
noncomputable def Tr.post:Tr->List Tr
 | .no t=>t.post++[.no t]
 | .fold w a b=>a.post++b.post++[.fold w a b]
 | t=>[t]
theorem dn:∀t:Tr,t.post.length=t.size
 | .no t=>by simp[Tr.post,Tr.size,dn t]
 | .fold w a b=>by simp[Tr.post,Tr.size,dn a,dn b];omega
 | .never=>rfl
 | .always=>rfl
 | .lp=>rfl
 | .lq=>rfl
noncomputable def Alg.step{α:Type}(G:Alg α):List α->Tr->Option (List α)
 | a::R,.no _=>some (G.no a::R)
 | b::a::R,.fold w _ _=>some (G.fold w a b::R)
 | [],.no _=>none
 | [],.fold _ _ _=>none
 | [_],.fold _ _ _=>none
 | R,t=>some (G.leaf t::R)
noncomputable def Alg.run{α:Type}(G:Alg α):List α->List Tr->Option (List α)
 | R,[]=>some R
 | R,t::r=>(G.step R t).bind λR'=>G.run R' r
theorem og{α:Type}(G:Alg α):∀t R r,G.run R (t.post++r)=G.run (G.val t::R) r
 | .no t,R,r=>by
  show G.run R (t.post++[.no t]++r)=_;rw[B3,og G t R];cases R<;>rfl
 | .fold w a b,R,r=>by
  show G.run R (a.post++b.post++[.fold w a b]++r)=_;rw[B3,B3,og G a R,og G b _];cases R<;>rfl
 | .never,R,r=>by cases R with
  | nil=>rfl
  | cons a R=>cases R<;>rfl
 | .always,R,r=>by cases R with
  | nil=>rfl
  | cons a R=>cases R<;>rfl
 | .lp,R,r=>by cases R with
  | nil=>rfl
  | cons a R=>cases R<;>rfl
 | .lq,R,r=>by cases R with
  | nil=>rfl
  | cons a R=>cases R<;>rfl
theorem DQ{α:Type}(G:Alg α)(t:Tr):G.run [] t.post=some [G.val t]:=by
 have h:=og G t [] [];rw[A6]at h;rw[h];rfl
noncomputable def ir(n x y:Int):Alg Int where
 leaf:=λt=>match t with
  | .always=>n
  | .lp=>x
  | .lq=>y
  | _=>0
 no:=λa=>n-a
 fold:=λw a b=>w.worth n a b
noncomputable abbrev Tr.worth (n x y:Int) (t:Tr):Int:=(ir n x y).val t
noncomputable def mP(u v:Tr):Alg Tr where
 leaf:=λt=>match t with
  | .lp=>u
  | .lq=>v
  | t=>t
 no:=.no
 fold:=.fold
noncomputable abbrev Tr.put (t u v:Tr):Tr:=(mP u v).val t
end Mine
namespace L2
open PySem PySem.Spec PyProof.Rows
variable{H H':Hp}{a:Addr}{ds:List PyData}{i n:Nat}{h:Heap}{mg:Str->Option Value}{x:Str}{od:Option Addr}{its:Array Value}{N7:Array (Option Value)}{ns:List Int}{v:Value}
mutual
def Dat(K:W.Frag)(H:Hp):PyData->V->Prop
 | .none,v=>v=.non
 | .bool b,v=>v=.bl b
 | .int i,v=>v=.int i
 | .str x,v=>v=.str x
 | .tuple ds,v=>∃a xs,v=.ref a/\Nv K H a xs/\DatAll K H ds xs
 | .list _,_=>False
 | .dict _,_=>False
def DatAll(K:W.Frag)(H:Hp):List PyData->List V->Prop
 | [],xs=>xs=[]
 | d::ds,xs=>∃x r,xs=x::r/\Dat K H d x/\DatAll K H ds r
end
structure OG(H H':Hp):Prop where
 t:∀b xs,H b=some (.tup xs)->H' b=some (.tup xs)
 f:∀b o u,H b=some (.frz o u)->H' b=some (.frz o u)
theorem OG.trans(a:OG H H1)(b:OG H1 H2):OG H H2:=⟨λc xs h=>b.t c xs (a.t c xs h),λc o u h=>b.f c o u (a.f c o u h)⟩
theorem aC.ts(e:aC H H'):OG H H':=⟨λb xs h=>e b _ h,λb o u h=>e b _ h⟩
theorem kC(e:H l=some (.lst xs)):OG H (upd H l o):=
 ⟨λb ys h=>by rw[aj (vY h e (by intro z;cases z))];exact h,λb o u h=>by rw[aj (vY h e (by intro z;cases z))];exact h⟩
theorem Nv.ts{K:W.Frag}{xs:List V}(h:Nv K H a xs)(e:OG H H'):Nv K H' a xs:=by
 rcases h with(h | ⟨o,h⟩) | h
 .exact .inl (.inl (e.t _ _ h))
 .exact .inl (.inr ⟨o,e.f _ _ _ h⟩)
 .exact .inr h
mutual
theorem Dat.ts{K:W.Frag}(e:OG H H'):∀{d:PyData}{v:V},Dat K H d v->Dat K H' d v
 | .none,_,h=>h
 | .bool _,_,h=>h
 | .int _,_,h=>h
 | .str _,_,h=>h
 | .tuple _,_,⟨a,xs,h1,h2,h3⟩=>⟨a,xs,h1,h2.ts e,DatAll.ts e h3⟩
 | .list _,_,h=>h
 | .dict _,_,h=>h
theorem DatAll.ts{K:W.Frag}(e:OG H H'):∀{ds:List PyData}{xs:List V},DatAll K H ds xs->DatAll K H' ds xs
 | [],_,h=>h
 | _::_,_,⟨x,r,h1,h2,h3⟩=>⟨x,r,h1,Dat.ts e h2,DatAll.ts e h3⟩
end
theorem DatAll.len{K:W.Frag}:∀{ds:List PyData}{xs:List V},DatAll K H ds xs->xs.length=ds.length
 | [],_,h=>by subst h;rfl
 | _::_,_,⟨x,r,h1,_,h3⟩=>by subst h1;simp[h3.len]
theorem DatAll.get{K:W.Frag}:∀{ds:List PyData}{xs:List V}{i:Nat}{d:PyData},DatAll K H ds xs->ds[i]?=some d->∃x,xs[i]?=some x/\Dat K H d x
 | [],_,_,_,_,e=>by cases e
 | _::_,_,0,_,⟨x,r,h1,h2,_⟩,e=>by subst h1;cases e;exact⟨x,rfl,h2⟩
 | _::_,_,i+1,_,⟨x,r,h1,_,h3⟩,e=>by
  subst h1;obtain⟨y,e1,e2⟩:=h3.get (i:=i) (by simpa using e);exact⟨y,by simpa using e1,e2⟩
theorem DatAll.get'{K:W.Frag}{xs:List V}{x:V}(h:DatAll K H ds xs)(e:xs[i]?=some x):∃d,ds[i]?=some d/\Dat K H d x:=by
 have hl:=h.len;have hi:=(j6.mp e).1;have hd:ds[i]?=some (ds[i]'(by omega)):=g0 (by omega);obtain⟨y,e1,e2⟩:=h.get hd;rw[e]at e1;cases e1
 exact⟨_,hd,e2⟩
theorem DatAll.append{K:W.Frag}:∀{ds es:List PyData}{xs ys:List V},DatAll K H ds xs->DatAll K H es ys->DatAll K H (ds++es) (xs++ys)
 | [],_,_,_,h,g=>by subst h;exact g
 | _::_,_,_,_,⟨x,r,h1,h2,h3⟩,g=>by subst h1;exact⟨x,_,rfl,h2,h3.append g⟩
theorem DatAll.snoc{K:W.Frag}{xs:List V}{d:PyData}{x:V}(h:DatAll K H ds xs)(g:Dat K H d x):DatAll K H (ds++[d]) (xs++[x]):=h.append ⟨x,[],rfl,g,rfl⟩
mutual
theorem Dat.reads(I:Inv X Nn σ H s):∀d {v:V} {u:Value},Dat X.K H d v->RelV v u->∃as,Reads s.heap u d as
 | .none,_,_,h,r=>by
  cases(show _=V.non from h)
  cases(show _=Value.none from r)
  exact⟨[],.none⟩
 | .bool b,_,_,h,r=>by
  cases(show _=V.bl b from h)
  cases(show _=Value.bool b from r)
  exact⟨[],.bool b⟩
 | .int i,_,_,h,r=>by
  cases(show _=V.int i from h)
  obtain⟨t,q⟩:=(show ∃t,_=Value.int i t from r);cases q
  exact⟨[],.int i t⟩
 | .str x,_,_,h,r=>by
  cases(show _=V.str x from h)
  obtain⟨t,q⟩:=(show ∃t,_=Value.str x t from r);cases q
  exact⟨[],.str x t⟩
 | .tuple ds,_,_,⟨a,xs,h1,h2,h3⟩,r=>by
  cases h1
  cases(show _=Value.ref a from r)
  obtain⟨its,rv,⟨o,ho,hc,n,hd⟩,_⟩:=I.tuple h2;obtain⟨as,ra⟩:=DatAll.reads I ds h3 rv;exact⟨as,.tuple ho hc hd (by simpa using ra)⟩
 | .list _,_,_,h,_=>False.elim h
 | .dict _,_,_,h,_=>False.elim h
theorem DatAll.reads(I:Inv X Nn σ H s):∀ds {xs:List V} {us:List Value},DatAll X.K H ds xs->Vals xs us->∃as,ReadsAll s.heap us ds as
 | [],_,_,h,r=>by
  cases(show _=([]:List V) from h)
  cases r
  exact⟨[],.nil⟩
 | d::ds,_,_,⟨x,t,h1,h2,h3⟩,r=>by
  cases h1
  cases r with
  | cons r1 r2 =>
   obtain⟨as,a1⟩:=Dat.reads I d h2 r1;obtain⟨bs,b1⟩:=DatAll.reads I ds h3 r2;exact⟨as++bs,.cons a1 b1⟩
end
def uF(K:W.Frag)(H:Hp)(d:PyData)(v:V):Prop:=Dat K H d v\/∃ds a xs,d=.list ds/\v=.ref a/\Nq K H a xs/\DatAll K H ds xs
theorem uF.reads{v:V}(I:Inv X Nn σ H s)(h:uF X.K H d v)(r:RelV v u):∃as,Reads s.heap u d as:=by
 rcases h with h | ⟨ds,a,xs,rfl,rfl,h2,h3⟩
 .exact Dat.reads I d h r
 .cases(show _=Value.ref a from r)
  obtain⟨its,rv,⟨o,n,ho,hc,_,hd⟩,_⟩:=I.list h2;obtain⟨as,ra⟩:=DatAll.reads I ds h3 rv;exact⟨a::as,.list ho hc hd (by simpa using ra)⟩
section
variable{X:Cx}
def rEqD(K:W.Frag):R2:=λx y H Q=>∃d e,uF K H d x/\uF K H e y/\SeqAt.shaped d=true/\SeqAt.shaped e=true/\Q (.bl (PyData.eqv d e)) H
def rNeD(K:W.Frag):R2:=λx y H Q=>∃d e,uF K H d x/\uF K H e y/\SeqAt.shaped d=true/\SeqAt.shaped e=true/\Q (.bl (!PyData.eqv d e)) H
theorem xE(hu:X.A.units+64<cLine):NJ X (compareOp .Eq) (rEqD X.K):=by
 intro Nn s σ H x y v u Q I rx ry h;obtain⟨d,e,hd,he,sd,se,q⟩:=h;obtain⟨as,ra⟩:=hd.reads I rx;obtain⟨bs,rb⟩:=he.reads I ry;exact eq_dataH ra rb sd se hu ⟨.bl _,H,I,rfl,q⟩
theorem Bu(hu:X.A.units+64<cLine):NJ X (compareOp .NotEq) (rNeD X.K):=by
 intro Nn s σ H x y v u Q I rx ry h;obtain⟨d,e,hd,he,sd,se,q⟩:=h;obtain⟨as,ra⟩:=hd.reads I rx;obtain⟨bs,rb⟩:=he.reads I ry;exact ne_dataH ra rb sd se hu ⟨.bl _,H,I,rfl,q⟩
theorem GG:eW X (.builtin "isinstance") (λxs H Q=>∃a ys c cv k,xs=[.ref a,c]/\(∀u,RelV c u->u=cv)/\Nv X.K H a ys/\PySem.W.kitOne X.K (.type "tuple") cv=some k/\Q (.bl k) H):=by
 intro Nn s σ H xs us Q I r h;obtain⟨a,ys,c,cv,k,rfl,hc,hq,kt,q⟩:=h;obtain⟨u,w',rfl,r1,r2⟩:=vals2 r;have e:=hc _ r2;subst e;cases(show u=Value.ref a from r1)
 obtain⟨its,rv,⟨o,h1,h2,_⟩,_⟩:=I.tuple hq;exact B6 PySem.W.kitx_tuple I.kIn ⟨o,h1,h2⟩ kt (λz=>nomatch z) λtk=>⟨.bl k,H,I.tok tk,rfl,q⟩
theorem Ai{bs:List Bool}:∀{us:List Value},Vals (bs.map V.bl) us->LSm.BoolsAre us bs:=by
 induction bs with
 | nil=>intro us r;cases r;exact .nil
 | cons b r ih =>
  intro us q;cases q with
  | cons a t =>
   cases(show _=Value.bool b from a)
   exact .cons b (ih t)
theorem uk(hc:X.calm=true):eW X (.builtin "all") (λxs H Q=>∃(l:Addr)(bs:List Bool),xs=[.ref l]/\Nq X.K H l (bs.map V.bl)/\Q (.bl (bs.all id)) H):=by
 intro Nn s σ H xs us Q I r h;obtain⟨l,bs,rfl,hq,q⟩:=h;obtain⟨u,rfl,rx⟩:=vals1 r;cases rx
 obtain⟨its,rv,pl,_⟩:=I.list hq;have hl:=pl.isList;have hb:=Ai rv;have Ny:l<s.heap.objs.size:=by obtain⟨_,e,_⟩:=hl;exact f9 e
 refine call_all_walk (LP hl ?_)
 refine⟨s.heap.objs.size,[s.heap.objs.size,l],[s.heap.objs.size],its.toArray.size,_,_,λi=>(bs[i]?).getD true,rfl,Walks.list (A:=X.A.in1) (I.ok.hd hc) _ l (v3 Ny) its.toArray,
  ⟨⟨_,g7 _ rfl,rfl,rfl⟩,hl.push _⟩,λi v s' Q' E' hP hQ=>?_,λh' tk hk=>?_⟩
 .obtain⟨b,e,rfl⟩:=hb.get i v (by simpa using hP);simp only[e,Option.getD_some]at hQ;exact B0 hQ
 .have e:((List.range its.toArray.size).all λi=>(bs[i]?).getD true)=bs.all id:=by
   rw[i8,hb.length];exact LSm.range_all bs
  rw[e];exact⟨.bl _,H,I.kept (t':=tk) (LSm.kept_iter hk),rfl,q⟩
theorem Ko(hc:X.calm=true):eW X (.builtin "any") (λxs H Q=>∃(l:Addr)(bs:List Bool),xs=[.ref l]/\Nq X.K H l (bs.map V.bl)/\Q (.bl (bs.any id)) H):=by
 intro Nn s σ H xs us Q I r h;obtain⟨l,bs,rfl,hq,q⟩:=h;obtain⟨u,rfl,rx⟩:=vals1 r;cases rx
 obtain⟨its,rv,pl,_⟩:=I.list hq;have hl:=pl.isList;have hb:=Ai rv;have Ny:l<s.heap.objs.size:=by obtain⟨_,e,_⟩:=hl;exact f9 e
 refine call_any_walk (LP hl ?_)
 refine⟨s.heap.objs.size,[s.heap.objs.size,l],[s.heap.objs.size],its.toArray.size,_,_,λi=>(bs[i]?).getD false,rfl,Walks.list (A:=X.A.in1) (I.ok.hd hc) _ l (v3 Ny) its.toArray,
  ⟨⟨_,g7 _ rfl,rfl,rfl⟩,hl.push _⟩,λi v s' Q' E' hP hQ=>?_,λh' tk hk=>?_⟩
 .obtain⟨b,e,rfl⟩:=hb.get i v (by simpa using hP);simp only[e,Option.getD_some]at hQ;exact B0 hQ
 .have e:((List.range its.toArray.size).any λi=>(bs[i]?).getD false)=bs.any id:=by
   rw[i8,hb.length];exact LSm.range_any bs
  rw[e];exact⟨.bl _,H,I.kept (t':=tk) (LSm.kept_iter hk),rfl,q⟩
end
section
variable{X:Cx}{K:W.Frag}
theorem oJ(e:X.K=K):ZX X (WY K):=e ▸ aV
theorem GH(e:X.K=K):eW X (.builtin "isinstance") (λxs H Q=>∃y c cv t k,xs=[y,c]/\(∀u,RelV c u->u=cv)/\jL K H y t/\PySem.W.kitOne K t cv=some k/\Q (.bl k) H):=e ▸ lE
end
theorem Ei{α:Type}[DecidableEq α]{f:α->PyData}(h:∀a b,PyData.eqv (f a) (f b)=decide (a=b)):∀L M:List α,PyData.eqvAll (L.map f) (M.map f)=decide (L=M)
 | [],[]=>by simp[PyData.eqvAll]
 | [],_::_=>by simp[PyData.eqvAll]
 | _::_,[]=>by simp[PyData.eqvAll]
 | a::r,b::t=>by
  simp only[v7,PyData.eqvAll,h a b,Ei h r t]
  by_cases h1:a=b<;>by_cases h2:r=t<;>simp[h1,h2]
structure nh(K:W.Frag)(mg:Str->Option Value)(x:Str)(ns:List Int):Prop where
 ex:∃a,mg x=some (.ref a)/\∀H,Nv K H a (ns.map V.int)
theorem ph{K:W.Frag}(X:K.In h)(G:h.Ns mainGlobals mg)
  (e:PySem.W.nsIn K mainGlobals x=some (some (.ref a)))(l:K.lookup a=some ⟨.type "tuple",od,.seq its n,N7⟩)(hz:its.size<=sizeLine)(v:Vals (ns.map V.int) its.toList):nh K mg x ns:=
 ⟨a,LC X G e,λ_=>.inr ⟨_,its,n,l,rfl,rfl,hz,v⟩⟩
theorem lI{K:W.Frag}{n:Int}(X:K.In h)(G:h.Ns mainGlobals mg)(e:PySem.W.nsIn K mainGlobals x=some (some v))(q:∃t,v=.int n t):∃t,mg x=some (.int n t):=by
 obtain⟨t,rfl⟩:=q;exact⟨t,LC X G e⟩
end L2
namespace Mine
variable{H H' H1 H2:Hp}{p:Addr}{c:CCs}
namespace Lo
end Lo
namespace Ln
end Ln
open PySem L2
noncomputable abbrev bits (x:Int):Nat:=Builtin.Int.intBits x
theorem Et{x:Int}{m:Nat}(h:x.natAbs<2^m):bits x<=m:=intBits_le_iff.mpr h
structure PR(K:W.Frag)(H:Hp)(a:Addr)(ns:List Int):Prop where
 sq:(∃o,H a=some (.frz o (.lst (ns.map V.int))))\/∃(o:Obj)(its:Array Value)(n:Nat),K.lookup a=some o/\o.cls=.type "list"/\o.dict=none/\o.data=.seq its n/\its.size<=sizeLine/\Vals (ns.map V.int) its.toList
 few:ns.length<=63
 bit:∀n∈ns,bits n<=1048576
theorem PR.l(S:PR K H a ns):Nq K H a (ns.map V.int):=S.sq.elim (λh=>.inl (.inr h)) .inr
theorem PR.ts(S:PR K H a ns)(e:OG H H'):PR K H' a ns:=⟨S.sq.elim (λ⟨o,h⟩=>.inl ⟨o,e.f _ _ _ h⟩) .inr,S.few,S.bit⟩
theorem scr_of(O:R5 H)(h:Nq K H a (ns.map V.int))(few:ns.length<=63)(bit:∀n∈ns,bits n<=1048576):PR K H a ns:=by
 refine⟨?_,few,bit⟩;rcases h with(h | h) | h
 .exfalso;rcases O a with z | ⟨o,xs,z⟩
  .rw[h]at z;cases z
  .rw[h]at z;cases z
 .exact .inl h
 .exact .inr h
theorem au(h:H p=none)(o:HO):aC H (upd H p o):=λb u q=>by rw[aj (ak q h)];exact q
theorem bP(e:aC H H')(h:H l=none)(o:HO):aC H (upd H' l o):=λb u q=>by rw[aj (ak q h)];exact e b u q
section
variable{K:W.Frag}{H H':Hp}{a:Addr}{v e:V}{p q m h:Int}{s:St4}{L:List St4}
end
mutual
theorem Kb:∀d:PyData,d.canLay0=true->PyData.eqv d d=true
 | .none,_=>by simp[PyData.eqv]
 | .bool _,_=>by simp[PyData.eqv]
 | .int _,_=>by simp[PyData.eqv]
 | .str _,_=>by simp[PyData.eqv]
 | .list xs,h=>by simp only[PyData.eqv];exact lD xs (by simpa [PyData.canLay0] using h)
 | .tuple xs,h=>by simp only[PyData.eqv];exact lD xs (by simpa [PyData.canLay0] using h)
 | .dict _,h=>by simp[PyData.canLay0]at h
theorem lD:∀xs:List PyData,PyData.canLayAll0 xs=true->PyData.eqvAll xs xs=true
 | [],_=>by simp[PyData.eqvAll]
 | x::xs,h=>by
  have h':x.canLay0=true/\PyData.canLayAll0 xs=true:=by simpa [PyData.canLayAll0] using h
  simp[PyData.eqvAll,Kb x h'.1,lD xs h'.2]
end
noncomputable def Va:HO->Bool
 | .tup _=>true
 | .ins _ _ _=>true
 | .own _=>true
 | .frz _ _=>true
 | _=>false
def Kp(H H':Hp):Prop:=∀b o,H b=some o->Va o=true->H' b=some o
theorem Kp.trans(a:Kp H H1)(b:Kp H1 H2):Kp H H2:=λc o h f=>b c o (a c o h f) f
theorem Kp.of(e:aC H H'):Kp H H':=λb o h _=>e b o h
theorem BY(h:H p=none)(o:HO):Kp H (upd H p o):=Kp.of (λb u z=>by rw[aj (ak z h)];exact z)
theorem bA{l:Addr}{o u:HO}(h:H l=some o)(f:Va o=false):Kp H (upd H l u):=λb z hb fz=>by
 rw[aj (vY hb h λe=>by rw[e,f]at fz;cases fz)]
 exact hb
theorem lj{K:W.Frag}{t:Value}:PySem.W.kitOne K t t=some true:=by unfold PySem.W.kitOne;rw[k9 (A5 t)]
def SB(c:V)(H H':Hp):Prop:=∀b o,H b=some o->V.ref b≠c->H' b=some o
theorem SB.refl(c:V)(H:Hp):SB c H H:=λ_ _ h _=>h
theorem SB.trans{c:V}(a:SB c H H1)(b:SB c H1 H2):SB c H H2:=λd o h n=>b d o (a d o h n) n
theorem SB.of{c:V}(e:aC H H'):SB c H H':=λb o h _=>e b o h
theorem SB.kp{c:V}(e:SB c H H')(hc:∀a o,c=.ref a->H a=some o->Va o=false):Kp H H':=λb o h f=>e b o h λz=>by
 rw[hc b o z.symm h]at f;cases f
theorem eZ{a:Addr}(H:Hp)(u:HO):SB (.ref a) H (upd H a u):=λb o h n=>by
 rw[aj λz=>n (by rw[z])];exact h
inductive Tu(H:Hp):Addr->Tr->Prop where
 | never {a}:H a=some (.tup [.str "never"])->Tu H a .never
 | always {a}:H a=some (.tup [.str "always"])->Tu H a .always
 | lp {a}:H a=some (.tup [.str "p"])->Tu H a .lp
 | lq {a}:H a=some (.tup [.str "q"])->Tu H a .lq
 | no {a b t}:H a=some (.tup [.str "not",.ref b])->Tu H b t->Tu H a (.no t)
 | fold {a b d w x y}:H a=some (.tup [.str (W5.str w),.ref b,.ref d])->Tu H b x->Tu H d y->Tu H a (.fold w x y)
structure CCs where
 (ne al le no mo ls gr lr ld:Addr)
noncomputable def CCs.fold(c:CCs):W5->Addr
 | .more=>c.mo | .less=>c.ls | .greater=>c.gr | .lesser=>c.lr | .leads=>c.ld
noncomputable def oM(x:V):List (Str×V):=[("name",x)]
noncomputable def lB(x:V):List (Str×V):=[("part",x)]
noncomputable def ue(x y:V):List (Str×V):=[("one",x),("other",y)]
inductive Ob(c:CCs)(H:Hp):Addr->Tr->Prop where
 | never {a dx}:H a=some (.ins c.ne dx [])->Ob c H a .never
 | always {a dx}:H a=some (.ins c.al dx [])->Ob c H a .always
 | lp {a dx}:H a=some (.ins c.le dx (oM (.str "p")))->Ob c H a .lp
 | lq {a dx}:H a=some (.ins c.le dx (oM (.str "q")))->Ob c H a .lq
 | no {a dx b t}:H a=some (.ins c.no dx (lB (.ref b)))->Ob c H b t->Ob c H a (.no t)
 | fold {a dx b d w x y}:H a=some (.ins (c.fold w) dx (ue (.ref b) (.ref d)))->Ob c H b x->Ob c H d y->Ob c H a (.fold w x y)
theorem Ob.to{a:Addr}{t:Tr}(h:Ob c H a t)(e:Kp H H'):Ob c H' a t:=by
 induction h with
 | never h=>exact .never (e _ _ h rfl)
 | always h=>exact .always (e _ _ h rfl)
 | lp h=>exact .lp (e _ _ h rfl)
 | lq h=>exact .lq (e _ _ h rfl)
 | no h _ ih=>exact .no (e _ _ h rfl) ih
 | fold h _ _ i1 i2=>exact .fold (e _ _ h rfl) i1 i2
inductive cN{α β:Type}(R:α->β->Prop):List α->List β->Prop where
 | nil:cN R [] []
 | cons {a b as bs}:R a b->cN R as bs->cN R (a::as) (b::bs)
theorem cN.imp{α β:Type}{R R':α->β->Prop}(f:∀a b,R a b->R' a b){as:List α}{bs:List β}(h:cN R as bs):cN R' as bs:=by
 induction h with
 | nil=>exact .nil
 | cons r _ ih=>exact .cons (f _ _ r) ih
theorem cN.app{α β:Type}{R:α->β->Prop}{as cs:List α}{bs ds:List β}(h:cN R as bs)(k:cN R cs ds):cN R (as++cs) (bs++ds):=by
 induction h with
 | nil=>exact k
 | cons r _ ih=>exact .cons r ih
theorem cN.rev{α β:Type}{R:α->β->Prop}{as:List α}{bs:List β}(h:cN R as bs):cN R as.reverse bs.reverse:=by
 induction h with
 | nil=>exact .nil
 | cons r _ ih=>rw[l8,l8];exact ih.app (.cons r .nil)
theorem cN.len{α β:Type}{R:α->β->Prop}{as:List α}{bs:List β}(h:cN R as bs):as.length=bs.length:=by
 induction h with
 | nil=>rfl
 | cons _ _ ih=>rw[k8,k8,ih]
theorem cN.get{α β:Type}{R:α->β->Prop}{as:List α}{bs:List β}(h:cN R as bs):∀(i:Nat)(a:α),as[i]?=some a->∃b,bs[i]?=some b/\R a b:=by
 induction h with
 | nil=>intro i a z;cases z
 | cons r _ ih =>
  intro i x z;cases i with
  | zero=>cases z;exact⟨_,rfl,r⟩
  | succ i=>exact ih i x z
theorem cN.last{α β:Type}{R:α->β->Prop}{as:List α}{bs:List β}(h:cN R as bs)(n:as≠[]):∃as' a bs' b,as=as'++[a]/\bs=bs'++[b]/\R a b/\cN R as' bs':=by
 have h':=h.rev;have n':as.reverse≠[]:=λz=>n (List.reverse_eq_nil_iff.mp z);have e1:as=as.reverse.reverse:=(Ll _).symm;have e2:bs=bs.reverse.reverse:=(Ll _).symm;rw[e1,e2]
 revert h' n'
 generalize as.reverse=u;generalize bs.reverse=v;intro h' n';cases h' with
 | nil=>exact absurd rfl n'
 | cons r k=>exact⟨_,_,_,_,l8,l8,r,k.rev⟩
theorem bJ{α:Type}(ys:List α)(a:α):(ys++[a])[(ys++[a]).length-1]?=some a:=by simp
abbrev N0(c:CCs)(H:Hp)(v:V)(t:Tr):Prop:=∃a,v=.ref a/\Ob c H a t
theorem N0.to(e:Kp H H')(v:V)(t:Tr)(h:N0 c H v t):N0 c H' v t:=by
 obtain⟨a,r,o⟩:=h;exact⟨a,r,o.to e⟩
noncomputable def Tr.kids:Tr->List Tr
 | .no t=>[t]
 | .fold _ a b=>[a,b]
 | _=>[]
noncomputable def di(ts:List Tr):Nat:=(ts.map Tr.size).sum
theorem vC(a b:List Tr):di (a++b)=di a+di b:=by simp[di]
theorem Gj(t:Tr):di t.kids+1=t.size:=by cases t<;>simp[di,Tr.kids,Tr.size]
theorem Iz(t:Tr):t.post.reverse=t::(t.kids.reverse.flatMap λx=>x.post.reverse):=by
 cases t<;>simp[Tr.post,Tr.kids]
inductive Pc where
 | w (x:Str)
 | t (t:Tr)
noncomputable def Pc.flat:Pc->List Str
 | .w x=>[x]
 | .t z=>z.words
noncomputable def Pc.wt:Pc->Nat
 | .w _=>1
 | .t z=>4*z.size
noncomputable def Tr.pieces:Tr->List Pc
 | .never=>[.w "never"]
 | .always=>[.w "always"]
 | .lp=>[.w "p"]
 | .lq=>[.w "q"]
 | .no t=>[.w "not",.t t]
 | .fold w a b=>[.w "(",.t a,.w w.str,.t b,.w ")"]
theorem zm(t:Tr):t.pieces.flatMap Pc.flat=t.words:=by cases t<;>simp[Tr.pieces,Tr.words,Pc.flat]
noncomputable def N2(ps:List Pc):Nat:=(ps.map Pc.wt).sum
theorem Dh(a b:List Pc):N2 (a++b)=N2 a+N2 b:=by simp[N2]
theorem Qa(a:List Pc):N2 a.reverse=N2 a:=by simp[N2]
theorem Fj(t:Tr):N2 t.pieces<4*t.size:=by
 cases t<;>simp[N2,Tr.pieces,Pc.wt,Tr.size]<;>omega
inductive PU(c:CCs)(H:Hp):V->Pc->Prop where
 | w (x:Str):PU c H (.str x) (.w x)
 | t {a:Addr} {t:Tr}:Ob c H a t->PU c H (.ref a) (.t t)
theorem PU.to(e:Kp H H')(v:V)(p:Pc)(h:PU c H v p):PU c H' v p:=by
 cases h with
 | w x=>exact .w x
 | t h=>exact .t (h.to e)
theorem qd(i j:Int):(if j<i then j else i)=min i j:=by
 rw[Int.min_def];split<;>split<;>omega
theorem tX(i j:Int):(if j>i then j else i)=max i j:=by
 rw[Int.max_def];split<;>split<;>omega
end Mine
namespace L2
open PySem PySem.Spec PyProof.Rows
variable{C:Addr}{qual:Str}{st:Stmt}{N ps:List Str}{sp:Sp}
structure aI(K:W.Frag)(C:Addr)(m qual:Str)(st:Stmt):Prop where
 cl:Cls K C
 ex:∃(f:Addr)(fd:FuncData),Meth K C m f/\OY K m qual st f fd
variable{P:Program}{w:World}{K:W.Frag}{mg:Str->Option Value}{base:Heap}
theorem aR{m:Str}{k:Nat}(T:aI K C m qual st)(S:ao N ps (ai st))
  (bd:∀(kV doc pm:Value)(an:Option Addr)(cdv ct:Value)(us:List Value),us.length=ps.length->bindArgs (PySem.W.fnOf m qual (df st) (aZ st) (ai st) .none kV doc pm an cdv ct) ⟨us,[]⟩=pure (ps.zip us))
  (len:∀vs H Q E,sp vs H Q E->vs.length=ps.length)
  (body:∀(f:Addr)(cdv:Value)(A:Around)(outer:List Env)(s:Shared)(H:Hp)(vs:List V)(Q:VK)(E:XK),bX k (A.deeper (envOfC qual (ai st) s.heap.objs.size f cdv))->sp vs H Q E->
   ∃t,NU (bM CX0 P w K mg base N qual (ai st) f cdv A outer s H E).nox (aZ st) t/\t {nx:=λ_ H'=>Q .non H',rt:=Q} (start N vs) H) :
  aJ P w K mg base C m (k+1) ps sp:=by
 obtain⟨f,fd,hm,G⟩:=T.ex;exact⟨T.cl,f,fd,hm,G.ok S len (body f),G.binds bd⟩
structure MkF(K:W.Frag)(mg:Str->Option Value)(x:Str)(C:Addr)(qual:Str)(st:Stmt):Prop where
 cl:Cls K C
 mg_:mg x=some (.ref C)
 ex:∃(f:Addr)(fd:FuncData),Mk K C f/\OY K "__init__" qual st f fd
structure jf(P:Program)(w:World)(K:W.Frag)(mg:Str->Option Value)(base:Heap)(x:Str)(C:Addr)(k:Nat)(ps:List Str)(sp:Sp):Prop where
 mg_:mg x=some (.ref C)
 ex:∃(f:Addr)(fd:FuncData),Mk K C f/\gS P w K mg base CX0 k f fd ps sp/\Binds K fd ps []
theorem Eb{x:Str}{k:Nat}(T:MkF K mg x C qual st)(S:ao N ps (ai st))
  (bd:∀(kV doc pm:Value)(an:Option Addr)(cdv ct:Value)(us:List Value),us.length=ps.length->bindArgs (PySem.W.fnOf "__init__" qual (df st) (aZ st) (ai st) .none kV doc pm an cdv ct) ⟨us,[]⟩=pure (ps.zip us))
  (len:∀vs H Q E,sp vs H Q E->vs.length=ps.length)
  (body:∀(f:Addr)(cdv:Value)(A:Around)(outer:List Env)(s:Shared)(H:Hp)(vs:List V)(Q:VK)(E:XK),bX k (A.deeper (envOfC qual (ai st) s.heap.objs.size f cdv))->sp vs H Q E->
   ∃t,NU (bM CX0 P w K mg base N qual (ai st) f cdv A outer s H E).nox (aZ st) t/\t {nx:=λ_ H'=>Q .non H',rt:=Q} (start N vs) H) :
  jf P w K mg base x C (k+1) ps sp:=by
 obtain⟨f,fd,hm,G⟩:=T.ex;exact⟨T.mg_,f,fd,hm,G.ok S len (body f),G.binds bd⟩
section
variable{X:Cx}{x:Str}{C:Addr}{k:Nat}{ps:List Str}{sp:Sp}{e:Expr}{es:List Expr}{t:TA}{p pos:Pos}
theorem iQ(M:jf X.prog X.w X.K X.mg X.base x C k ps sp)(ha:PA X (e::es) t)(hr:bX (k+1) X.A:=by walk_at "rm")(hg:Gl X x:=by rfl)(NO:(x==("__debug__":Str))=false:=by decide)(he:starEach (e::es) X.env=(false,eval e X.env)::starEach es X.env:=by rfl)(NR:(backTo pos (starEach es X.env)).any (·.1)=false:=by rfl) :
  PE X (.Call (.Name x p) (e::es) [] pos) (Dk C sp [] E0 t):=by
 obtain⟨f,fd,hm,G,hb⟩:=M.ex;exact QO hm G hr hg M.mg_ hb .nil vV ha NO he NR
end
end L2
namespace Mine
open PySem L2
variable{a dz:Addr}{c:CCs}{H:Hp}{R:List Int}{w u:W5}{t':Tr}{o:HO}{z:Int}{Q:VK}{r:List Tr}{i:Nat}
noncomputable def CCs.of(c:CCs):Tr->Addr
 | .never=>c.ne
 | .always=>c.al
 | .lp=>c.le
 | .lq=>c.le
 | .no _=>c.no
 | .fold w _ _=>c.fold w
theorem ik(x:V):(oM x).lookup ("name":Str)=some x:=by unfold oM;rw[A0,A5]
theorem wb(x:V):(lB x).lookup ("part":Str)=some x:=by unfold lB;rw[A0,A5]
theorem zQ(x y:V):(ue x y).lookup ("one":Str)=some x:=by unfold ue;rw[A0,A5]
theorem tY(x y:V):(ue x y).lookup ("other":Str)=some y:=by
 unfold ue;rw[A0,show(("other":Str)==("one":Str))=false by decide+kernel];show List.lookup ("other":Str) [("other",y)]=some y;rw[A0,A5]
abbrev NoF(m:Str):Prop:=m≠"name"/\m≠"part"/\m≠"one"/\m≠"other"
theorem cK{m a:Str}{x:V}{r:List (Str×V)}(h:m≠a)(k:r.lookup m=none):((a,x)::r).lookup m=none:=by
 rw[A0,B9.mpr h];exact k
theorem Ob.cls{t:Tr}(h:Ob c H a t):∃dx fs,H a=some (.ins (c.of t) dx fs)/\∀m,NoF m->fs.lookup m=none:=by
 cases h with
 | never h=>exact⟨_,_,h,λm _=>rfl⟩
 | always h=>exact⟨_,_,h,λm _=>rfl⟩
 | lp h=>exact⟨_,_,h,λm n=>cK n.1 rfl⟩
 | lq h=>exact⟨_,_,h,λm n=>cK n.1 rfl⟩
 | no h _=>exact⟨_,_,h,λm n=>cK n.2.1 rfl⟩
 | fold h _ _=>exact⟨_,_,h,λm n=>cK n.2.2.1 (cK n.2.2.2 rfl)⟩
structure Fx(K:W.Frag)(c:CCs):Prop where
 cl:∀t,Cls K (c.of t)
 ha:∀t,PySem.W.findIn K (.ref (c.of t)) "__class__"=some (some (.builtin "object.__class__"))
 hm:∀t,PySem.W.mroIn K (c.of t) (.type "object")=some true
 ks:∀t,PySem.W.kitOne K (.ref (c.of t)) (.type "str")=some false
 hn:PySem.W.specialIn K (.builtin "object.__class__") "__get__"=some (some (.builtin "getset_descriptor.__get__"))
 tk:PySem.W.takesIn K (.builtin "object.__class__")=some true
 nName:bh K c.le "name"
 nPart:bh K c.no "part"
 nOne:∀w,bh K (c.fold w) "one"
 nOther:∀w,bh K (c.fold w) "other"
theorem Fx.ty{K:W.Frag}(T:Fx K c){t:Tr}(h:Ob c H a t):jL K H (.ref a) (.ref (c.of t)):=by
 obtain⟨dx,fs,e,_⟩:=h.cls;exact .ins e (T.cl t) (T.ha t) T.hn T.tk (T.hm t)
noncomputable def Tr.word:Tr->Str
 | .never=>"never"
 | .always=>"always"
 | .lp=>"p"
 | .lq=>"q"
 | .no _=>"not"
 | .fold u _ _=>u.str
def xa(c:CCs)(t:Tr):Sp:=λvs H Q _=>∃a,vs=[.ref a]/\Ob c H a t/\∀l us,H l=none->cN (N0 c H) us t.kids->Q (.ref l) (upd H l (.lst us))
def nP(c:CCs)(t:Tr):Sp:=λvs H Q _=>∃a,vs=[.ref a]/\Ob c H a t/\∀l us,H l=none->cN (PU c H) us t.pieces->Q (.ref l) (upd H l (.lst us))
def eY(c:CCs)(t:Tr):Sp:=λvs H Q _=>∃a:Addr,vs=[.ref a]/\Ob c H a t/\Q (.str t.word) H
def iz(w:W5):Sp:=λvs H Q _=>∃(a:Addr)(n x y:Int),vs=[.ref a,.int n,.int x,.int y]/\Q (.int (w.worth n x y)) H
def eO(c:CCs)(w:W5):Sp:=λvs H Q _=>∃(a b d:Addr)(x y:Tr),vs=[.ref a,.ref b,.ref d]/\Ob c H b x/\Ob c H d y/\∀e H',aC H H'->Ob c H' e (.fold w x y)->Q (.ref e) H'
def jO(c:CCs)(t:Tr):Sp:=λvs H Q _=>∃(a l:Addr)(n x y:Int)(R R':List Int),vs=[.ref a,.ref l,.int n,.int x,.int y]/\Ob c H a t/\H l=some (.lst (R.reverse.map V.int))/\R.length<=1000/\(ir n x y).step R t=some R' /\
 ∀H',SB (.ref l) H H'->H' l=some (.lst (R'.reverse.map V.int))->Q .non H'
def iy(c:CCs)(t:Tr):Sp:=λvs H Q _=>∃(a l p q:Addr)(u v:Tr)(R R':List Tr)(ws:List V),vs=[.ref a,.ref l,.ref p,.ref q]/\Ob c H a t/\Ob c H p u/\Ob c H q v/\H l=some (.lst ws.reverse)/\cN (N0 c H) ws R/\R.length<=1000/\
 (mP u v).step R t=some R'/\∀H' us,SB (.ref l) H H'->H' l=some (.lst us.reverse)->cN (N0 c H') us R'->Q .non H'
def mG(c:CCs)(t:Tr):Sp:=λvs H Q _=>∃a,vs=[.ref a]/\Ob c H a t/\t.size<=1000/\∀l us H',aC H H'->H l=none->H' l=some (.lst us)->cN (N0 c H') us t.post->Q (.ref l) H'
def Bc(c:CCs)(t:Tr):Sp:=λvs H Q _=>∃a,vs=[.ref a]/\Ob c H a t/\t.size<=1000/\∀H',aC H H'->Q (.str t.text) H'
def HZ(c:CCs)(t:Tr):Sp:=λvs H Q _=>∃(a:Addr)(n x y:Int),vs=[.ref a,.int n,.int x,.int y]/\Ob c H a t/\t.size<=1000/\∀H',aC H H'->Q (.int (t.worth n x y)) H'
def Dt(c:CCs):Sp:=λvs H Q _=>∃(a p q:Addr)(t u v:Tr),vs=[.ref a,.ref p,.ref q]/\Ob c H a t/\Ob c H p u/\Ob c H q v/\t.size<=1000/\∀e H',aC H H'->Ob c H' e (t.put u v)->Q (.ref e) H'
def eA(C:Addr)(fl:V->List (Str×V)):Sp:=λvs H Q _=>∃(a dx:Addr)(x:V),vs=[.ref a,x]/\H a=some (.ins C dx [])/\Q .non (upd H a (.ins C dx (fl x)))
def gY(C:Addr):Sp:=λvs H Q _=>∃(a dx:Addr)(x y:V),vs=[.ref a,x,y]/\H a=some (.ins C dx [])/\Q .non (upd H a (.ins C dx (ue x y)))
theorem Ir(x y:V):iH "other" y (iH "one" x [])=ue x y:=by
 show(if("one":Str)="other" then[(("one":Str),y)] else(("one":Str),x)::iH "other" y [])=_;rw[h9 (by decide+kernel)];rfl
noncomputable def W5.cls:W5->Str
 | .more=>"More" | .less=>"Less" | .greater=>"Greater" | .lesser=>"Lesser" | .leads=>"Leads"
theorem SS:decide (V.str "p"=V.str "p")=true:=j9 rfl
theorem SR:decide (V.str "q"=V.str "p")=false:=h7 (λz=>absurd (V.str.inj z) (by decide+kernel))
theorem fB(a:Int)(R:List Int):R.reverse.map V.int++[V.int a]=(a::R).reverse.map V.int:=by rw[l8,x9];rfl
theorem nJ(h:R.length<=1000):(R.reverse.map V.int).length<sizeLine:=by
 rw[g6,p6];exact j7 h (by decide)
theorem dH{α:Type}{G:Alg α}{R R':List α}{t:Tr}(h:G.step R t=some R')(k:t.kids=[]):R'=G.leaf t::R:=by
 cases t with
 | no t=>cases k
 | fold w a b=>cases k
 | _=>cases R with
  | nil=>exact(i7 h).symm
  | cons a R=>cases R<;>exact(i7 h).symm
theorem wM{α:Type}{G:Alg α}{R R':List α}{t:Tr}(h:G.step R (.no t)=some R'):∃b R1,R=b::R1/\R'=G.no b::R1:=by
 cases R with
 | nil=>cases h
 | cons b R1=>cases R1<;>exact⟨b,_,rfl,(i7 h).symm⟩
theorem pB{α:Type}{G:Alg α}{R R':List α}{t:Tr}(h:G.step R (.fold w t t')=some R'):∃b2 b1 R1,R=b2::b1::R1/\R'=G.fold w b1 b2::R1:=by
 cases R with
 | nil=>cases h
 | cons b R1=>cases R1 with
  | nil=>cases h
  | cons b' R1=>exact⟨b,b',R1,rfl,(i7 h).symm⟩
theorem dh{l p:Addr}(h:upd H l o p=none):H p=none:=by
 by_cases e:p=l
 .subst e;rw[ae]at h;cases h
 .rw[aj e]at h;exact h
theorem fJ{C z:Addr}{fs:List (Str×V)}(hz:H z=none)(hd:H dz=none)(ne:dz≠z):aC H (upd (upd (upd H dz (.own z)) z (.ins C dz [])) z (.ins C dz fs)):=λb o h=>by
 rw[aj (ak h hz),aj (ak h hz),aj (ak h hd)];exact h
theorem ij{z b d:Addr}{t:Tr}(hz:H z=none)(hd:H dz=none)(ne:dz≠z)(o:Ob c H b t)(o':Ob c H d t')(q:∀e H',aC H H'->Ob c H' e (.fold u t t')->Q (.ref e) H') :
  Q (.ref z) (upd (upd (upd H dz (.own z)) z (.ins (c.fold u) dz [])) z (.ins (c.fold u) dz (ue (.ref b) (.ref d)))):=by
 have sm:=fJ (C:=c.fold u) (fs:=ue (.ref b) (.ref d)) hz hd ne;exact q z _ sm (.fold ae (o.to (Kp.of sm)) (o'.to (Kp.of sm)))
theorem Aa:∀ts:List Tr,(ts.flatMap λx=>x.post.reverse).length=di ts
 | []=>rfl
 | t::r=>by
  rw[MV,p7,p6,dn,Aa r];simp[di]
theorem EX(ts:List Tr):di ts.reverse=di ts:=by simp[di]
theorem wc:∀ts:List Tr,ts.length<=di ts
 | []=>f7 _
 | t::r=>by
  have h:=wc r;have p:=t.size_pos;have e:di (t::r)=t.size+di r:=by simp[di]
  rw[e,k8];omega
theorem ub(t:Tr):t.kids.length<=2:=by cases t<;>simp[Tr.kids]
theorem yC{α:Type}{G:Alg α}{R R':List α}{t:Tr}(h:G.step R t=some R'):R'.length<=R.length+1:=by
 cases t with
 | no t=>obtain⟨b,R1,rfl,rfl⟩:=wM h;simp
 | fold w x y=>obtain⟨b,b',R1,rfl,rfl⟩:=pB h;simp
 | _=>rw[dH h rfl];simp
theorem zg{α:Type}{G:Alg α}{R Z:List α}{t:Tr}(h:G.run R (t::r)=some Z):∃R',G.step R t=some R'/\G.run R' r=some Z:=by
 unfold Alg.run at h;cases e:G.step R t with
 | none=>rw[e]at h;cases h
 | some R'=>rw[e]at h;exact⟨R',rfl,h⟩
theorem oN{α:Type}{xs:List α}{x:α}(h:xs[i]?=some x):xs.drop i=x::xs.drop (i+1):=by
 obtain⟨hi,e⟩:=j6.mp h;rw[MP hi,e]
theorem QT(t:Tr):t.pieces.length<=5:=by cases t<;>simp[Tr.pieces]
theorem Ed:∀ps:List Pc,ps.length<=N2 ps
 | []=>f7 _
 | p::r=>by
  have h:=Ed r;have e:N2 (p::r)=p.wt+N2 r:=by simp[N2]
  have q:1<=p.wt:=by
   cases p with
   | w x=>exact f7 _
   | t t=>have:=t.size_pos;show 1<=4*t.size;omega
  rw[e,k8];omega
theorem jj:∀t:Tr,t.words.length<=4*t.size
 | .no t=>by have:=jj t;simp only[Tr.words,Tr.size,k8];omega
 | .fold w a b=>by have:=jj a;have:=jj b;simp only[Tr.words,Tr.size,k8,p7,D3];omega
 | .never=>by decide
 | .always=>by decide
 | .lp=>by decide
 | .lq=>by decide
theorem ite_yes{a:Str}{A B:Prop}(h:a=b)(k:A):if decide (V.str a=V.str b)=true then A else B:=by
 rw[j9 (y9 V.str h),k9 rfl];exact k
theorem z2:2<=sizeLine:=by decide
theorem z0:0<=sizeLine:=by decide
theorem z1:1<=sizeLine:=by decide
theorem z3:3<=sizeLine:=by decide
theorem z4:4<=sizeLine:=by decide
theorem ite_no{a:Str}{A B:Prop}(h:a≠b)(k:B):if decide (V.str a=V.str b)=true then A else B:=by
 rw[h7 (λz=>h (V.str.inj z)),h9 i6];exact k
def Wa(m:Int):Prop:=0<=m/\Builtin.Int.intBits m<=1048576
theorem qqN{a b:Str}{A B:Prop}(k:B)(h:a≠b:=by decide+kernel):if decide (V.str a=V.str b)=true then A else B:=ite_no h k
theorem Ks(z:Int):Builtin.Int.intBits (if z<0 then -z else z)=Builtin.Int.intBits z:=by
 unfold Builtin.Int.intBits
 by_cases h:z<0
 .rw[k9 h];simp
 .rw[h9 h]
theorem RM(h:Builtin.Int.intBits z<=1048576):Wa (if z<0 then -z else z):=⟨by split<;>omega,by rw[Ks];exact h⟩
theorem qj(h0:0<=z)(h:z<2^64):Wa z:=⟨h0,h8 (intBits_le_64 (by omega) h) (by decide)⟩
theorem PR.to(h:PR K H a ns)(e:aC H H'):PR K H' a ns:=h.ts e.ts
def yF:Sp:=λvs H Q _=>∃i:Int,vs=[.int i]/\Q (.bl true) H
end Mine
namespace L2
open PySem PySem.Spec PyProof.Rows
namespace HT
variable{prog:Program}{w:World}{A:Around}{E:Value->Shared->Prop}{s:Shared}
end HT
section
variable{X:Cx}
end
end L2
namespace Mine
open PySem L2
variable{a b:Int}{H:Hp}{σ:St}{A B:Hp->Prop}
theorem RI(ms:List Int)(lo hi:Option Int):∃SO:List Int,oP (ms.map V.int) lo hi=SO.map V.int/\∀m∈SO,m∈ms:=by
 refine⟨(ms.drop (_root_.HT.sIx (ms.map V.int).length 0 lo)).take (_root_.HT.sIx (ms.map V.int).length (ms.map V.int).length hi-_root_.HT.sIx (ms.map V.int).length 0 lo),?_,λm h=>List.mem_of_mem_drop (List.mem_of_mem_take h)⟩;unfold oP;rw[List.map_take,List.map_drop]
theorem jG(h:Builtin.Int.intBits b<=64):IntMulOk a b:=.of_right h
theorem tW(h:Builtin.Int.intBits a<=64):IntMulOk a b:=.of_left h
noncomputable abbrev zN:List Str:=["_law_script","_law_least","_law_as_they_stand","_law_made","_law_k","_law_cell"]
theorem tH(hz:H z=none)(hd:H dz=none):aC H (upd (upd H dz (.own z)) z (.ins C dz [])):=λb o h=>by
 rw[aj (ak h hz),aj (ak h hd)];exact h
theorem jn(h:A H):qu σ H λb H4=>if b=true then A H4 else B H4:=by
 show if true=true then A H else B H
 rw[k9 rfl];exact h
end Mine
namespace L2
open PySem PySem.Spec PyProof.Rows
end L2
namespace Mine
open PySem L2
variable{wi:TI}{te:TE}{js:List Nat}{σ:St}{H:Hp}{Q:VK}
def spLaw(K:W.Frag):Sp:=λvs H Q _=>∃a ns,vs=[.ref a]/\PR K H a ns/\∀H',Q (.bl true) H'
theorem il(h:wi σ H λJ H1=>jo (λ_ H R=>R J H) tc te js σ H1 Q):jo wi tc te js σ H Q:=h
theorem wA(Src:Addr->Hp->Prop)(XA:∀R:It->Hp->Prop,(∀l H,Src l H->R (PX K l) H)->wi σ H0 R)(Oi:∀l H,Src l H->H l=some (.lst xs))(hx:xs.length<=1000)
  (Pv:Addr->Addr->Nat->List V->Hp->Prop)(h0:∀l H D,Src l H->H D=none->Pv l D 0 [] (upd H D (.lst [])))
  (hs:∀l D i v ys H',xs[i]?=some v->l≠D->H' l=some (.lst xs)->H' D=some (.lst ys)->Pv l D i ys H'->∀N:VK,(∀y NB,NB l=some (.lst xs)->NB D=some (.lst ys)->Pv l D (i+1) (ys++[y]) (upd NB D (.lst (ys++[y])))->N y NB)->te (some v::bI js σ) H' N)
  (hd:∀l D ys H',H' l=some (.lst xs)->H' D=some (.lst ys)->Pv l D xs.length ys H'->Q (.ref D) H'):jo wi qu te js σ H0 Q:=by
 refine XA _ λl H src=>?_;intro D hD;have e:=Oi l H src;have nl:l≠D:=ak e hD;refine⟨λi m H'=>m=xs.length-i/\i<=xs.length/\H' l=some (.lst xs)/\∃ys,ys.length=i/\H' D=some (.lst ys)/\Pv l D i ys H',⟨xs.length,rfl,z5 _,by rw[aj nl];exact e,[],rfl,ae,h0 l H D src hD⟩,?_⟩;rintro i m H2 ⟨rfl,hi,e2,ys,hy,eD,p⟩
 by_cases Ny:i<xs.length
 .refine .inr ⟨⟨xs,xs[i],Nq.of e2,by simp[Ny]⟩,λv H3 y=>?_⟩;obtain⟨eh,y⟩:=y;subst eh;refine jn ?_;refine hs l D i v ys _ (y xs (Nq.of e2)) nl e2 eD p _ λy H5 z1 z2 z3=>?_;exact⟨ys,z2,j7 (show ys.length<=1000 by omega) (by decide),xs.length-(i+1),by omega,rfl,Ny,by rw[aj nl];exact z1,ys++[y],by rw[p7,hy];rfl,ae,z3⟩
 .have ei:i=xs.length:=by omega
  subst ei;exact .inl ⟨⟨xs,Nq.of e2,f7 _⟩,hd l D ys H2 e2 eD p⟩
theorem comp_map{α:Type}{K:W.Frag}{xs:List V}{ts:List α}{R:Hp->V->α->Prop}(g:α->V)(hR:∀H H' v t,aC H H'->R H v t->R H' v t)(Src:Addr->Hp->Prop)
  (XA:∀R:It->Hp->Prop,(∀l H,Src l H->R (PX K l) H)->wi σ H R)(Oi:∀l H',Src l H'->H' l=some (.lst xs)/\aC H H')(hx:xs.length<=1000)(o:cN (R H) xs ts)
  (hs:∀v t H' N,t∈ts->R H' v t->(∀NB,aC H' NB->N (g t) NB)->te (some v::bI js σ) H' N)(hd:∀D H',aC H H'->H D=none->H' D=some (.lst (ts.map g))->Q (.ref D) H'):jo wi qu te js σ H Q:=by
 refine wA Src XA (λl H src=>(Oi l H src).1) hx (λl D i ys H'=>H D=none/\aC H H'/\ys=(ts.take i).map g) (λl H' D src hD=>⟨(Oi l H' src).2.free hD,(Oi l H' src).2.trans (au hD _),rfl⟩) (λl D i v ys H' hv nl el eD h N hN=>?_) (λl D ys H' el eD h=>?_)
 .obtain⟨hD,sm,rfl⟩:=h;obtain⟨t,ht,hr⟩:=o.get i v hv;refine hs v t H' N (x3 ht) (hR _ _ _ _ sm hr) λNB s2=>hN _ _ (s2 _ _ el) (s2 _ _ eD) ⟨hD,λd u z=>?_,?_⟩
  .rw[aj (ak z hD)];exact s2 _ _ (sm _ _ z)
  .rw[C9,ht,x9];rfl
 .obtain⟨hD,sm,rfl⟩:=h;refine hd D H' sm hD ?_;rw[o.len,D7]at eD;exact eD
noncomputable abbrev Rw:=List Key
noncomputable def fK(x:Str)(is:List Nat):Rw:=.inr x::is.map λi:Nat=>.inl (i:Int)
noncomputable def idx(rs:List Rw)(r:Rw):Option Nat:=match rs with
 | []=>none
 | x::t=>if x=r then some 0 else(idx t r).map (·+1)
noncomputable def bF(rs:List Rw)(r:Rw):List Rw×Nat:=match idx rs r with
 | some i=>(rs,i)
 | none=>(rs++[r],rs.length)
theorem JU:∀{rs:List Rw}{r:Rw}{i:Nat},idx rs r=some i->i<rs.length
 | [],_,_,h=>by cases h
 | x::t,r,i,h=>by
  unfold idx at h;split at h
  .cases h;simp
  .cases e:idx t r with
   | none=>rw[e]at h;cases h
   | some j=>rw[e]at h;cases h;have:=JU e;simp;omega
theorem Rk:idx (rs++[r]) s=match idx rs s with | some i=>some i | none=>if r=s then some rs.length else none:=by
 induction rs with
 | nil =>
  show(if r=s then some 0 else(idx [] s).map (·+1))=if r=s then some 0 else none
  rfl
 | cons x t ih =>
  show(if x=s then some 0 else(idx (t++[r]) s).map (·+1))=_
  by_cases z:x=s
  .rw[k9 z];show _=match (if x=s then some 0 else(idx t s).map (·+1)) with | some i=>some i | none=>_
   rw[k9 z]
  .rw[h9 z,ih];show _=match (if x=s then some 0 else(idx t s).map (·+1)) with | some i=>some i | none=>if r=s then some (t.length+1) else none
   rw[h9 z];cases idx t s with
   | some i=>rfl
   | none =>
    show(if r=s then some t.length else none).map (·+1)=if r=s then some (t.length+1) else none
    split<;>rfl
theorem jC(rs:List Rw)(r:Rw):(bF rs r).1.length<=rs.length+1:=by
 unfold bF;cases idx rs r<;>simp
noncomputable def Tr.putR:Tr->List Rw->List Rw×Nat
 | .no t,rs=>bF (t.putR rs).1 (fK "not" [(t.putR rs).2])
 | .fold w a b,rs=>bF (b.putR (a.putR rs).1).1 (fK w.str [(a.putR rs).2,(b.putR (a.putR rs).1).2])
 | .never,rs=>bF rs (fK "never" [])
 | .always,rs=>bF rs (fK "always" [])
 | .lp,rs=>bF rs (fK "p" [])
 | .lq,rs=>bF rs (fK "q" [])
noncomputable def Tr.rows(t:Tr):List Rw:=(t.putR []).1
theorem kT:∀(t:Tr)(rs:List Rw),(t.putR rs).1.length<=rs.length+t.size
 | .no t,rs=>by
  have:=kT t rs;have:=jC (t.putR rs).1 (fK "not" [(t.putR rs).2]);simp only[Tr.putR,Tr.size];omega
 | .fold w a b,rs=>by
  have:=kT a rs;have:=kT b (a.putR rs).1;have:=jC (b.putR (a.putR rs).1).1 (fK w.str [(a.putR rs).2,(b.putR (a.putR rs).1).2]);simp only[Tr.putR,Tr.size];omega
 | .never,rs=>jC _ _
 | .always,rs=>jC _ _
 | .lp,rs=>jC _ _
 | .lq,rs=>jC _ _
noncomputable def zh(s:List Rw×List Nat)(x:Tr):Option (List Rw×List Nat):=
 if s.2.length<x.kids.length then none else
  some ((bF s.1 (fK x.word (s.2.take x.kids.length).reverse)).1,(bF s.1 (fK x.word (s.2.take x.kids.length).reverse)).2::s.2.drop x.kids.length)
noncomputable def uP:List Rw×List Nat->List Tr->Option (List Rw×List Nat)
 | s,[]=>some s
 | s,t::r=>(zh s t).bind λs'=>uP s' r
theorem lR:∀(t:Tr)(rs:List Rw)(st:List Nat)(r:List Tr),uP (rs,st) (t.post++r)=uP ((t.putR rs).1,(t.putR rs).2::st) r
 | .no t,rs,st,r=>by
  show uP (rs,st) (t.post++[.no t]++r)=_;rw[B3,lR t rs st];rfl
 | .fold w a b,rs,st,r=>by
  show uP (rs,st) (a.post++b.post++[.fold w a b]++r)=_;rw[B3,B3,lR a rs st,lR b _ _];rfl
 | .never,rs,st,r=>rfl
 | .always,rs,st,r=>rfl
 | .lp,rs,st,r=>rfl
 | .lq,rs,st,r=>rfl
theorem Il(t:Tr):uP ([],[]) t.post=some (t.rows,[(t.putR []).2]):=by
 have h:=lR t [] [] [];rw[A6]at h;rw[h];rfl
theorem Fg(h:uP s (t::r)=some Z):∃s',zh s t=some s'/\uP s' r=some Z:=by
 unfold uP at h;cases e:zh s t with
 | none=>rw[e]at h;cases h
 | some s'=>rw[e]at h;exact⟨s',rfl,h⟩
theorem Ik(h:zh s x=some s'):x.kids.length<=s.2.length/\s'=((bF s.1 (fK x.word (s.2.take x.kids.length).reverse)).1,(bF s.1 (fK x.word (s.2.take x.kids.length).reverse)).2::s.2.drop x.kids.length):=by
 unfold zh at h;split at h
 .cases h
 .exact⟨by omega,(i7 h).symm⟩
theorem Kn(ea:H a=some (.tup xs))(eb:H b=some (.tup ys))(nx:xs≠[])(hz:xs.length+ys.length<=sizeLine)(h:∀p H',aC H H'->H' p=some (.tup (xs++ys))->Q (.ref p) H'):SA K (.ref a) (.ref b) H Q:=by
 refine⟨a,b,xs,ys,rfl,rfl,Nv.of ea,Nv.of eb,nx,hz,λz=>?_,λ_ p hp=>h p _ (au hp _) ae⟩;refine h a H (aC.refl _) ?_;rw[z,A6];exact ea
abbrev Oq(H:Hp)(v:V)(r:Rw):Prop:=∃a,v=.ref a/\H a=some (.tup (r.map kV))
theorem Oq.to(e:Kp H H')(v:V)(r:Rw)(h:Oq H v r):Oq H' v r:=by
 obtain⟨a,z,o⟩:=h;exact⟨a,z,e _ _ o rfl⟩
theorem xx(x:Str)(is:List Nat):(fK x is).map kV=V.str x::is.map λi:Nat=>V.int (i:Int):=by
 unfold fK;rw[v7,LY];rfl
def Vw(Np:List (Rw×V))(rs:List Rw):Prop:=Np.length=rs.length/\∀k,cW Np k=(idx rs k).map λi:Nat=>V.int (i:Int)
theorem Vw.nil:Vw [] []:=⟨rfl,λ_=>rfl⟩
theorem Vw.put(h:Vw Np rs)(n:idx rs r=none):Vw (putK Np r (.int (rs.length:Int))) (rs++[r]):=by
 have hv:cW Np r=none:=by rw[h.2 r,n];rfl
 refine⟨by rw[zk _ hv,p7,p7,h.1];rfl,λk=>?_⟩;rw[kB,Rk]
 by_cases e:k=r
 .subst e;rw[k9 rfl,n];show _=(if k=k then some rs.length else none).map _;rw[k9 rfl];rfl
 .rw[h9 e,h.2 k];cases idx rs k with
  | some i=>rfl
  | none =>
   show _=(if r=k then some rs.length else none).map _;rw[h9 λz=>e z.symm]
def nO(c:CCs):Sp:=λvs H Q _=>∃a t,vs=[.ref a]/\Ob c H a t/\t.size<=1000/\∀l us H',aC H H'->H l=none->H' l=some (.lst us)->cN (Oq H') us t.rows->Q (.ref l) H'
end Mine
namespace L2
open PySem PySem.Spec PyProof.Rows
variable{t' kk n i:Nat}{fp:List Addr}{a I₀ b i1 i2:Addr}{X:Cx}{Nw:List Expr}{NL p pos:Pos}{Pt:Nat->Array Value->Prop}{Mid:Nat->Addr->Heap->Prop}{Nn:List (Addr×Obj)}{s:Shared}{H:Hp}{E:Value->Shared->Prop}{tn:Nat->Heap->Prop}{gop stp:Nat->Hp->Prop}{h:Heap}{its ys xs:Array Value}{T:String}{P:Program}{w:World}{e:Expr}{te:TE}{g:TG}{tb:TS}{D:Ends}{σ:St}
section
variable{X:Cx}{Nn:List (Addr×Obj)}{σ:St}{H H':Hp}{s s':Shared}{h':Heap}
theorem Inv.turnedL{t':Nat}(I:Inv X Nn σ H s)(kp:∀b o,b ∉ fp->s.heap.get? b=some o->h'.get? b=some o)(hf:∀b∈fp,gR X Nn H b):Inv X Nn σ H {s with heap:=h',toks:=t' }:=by
 have far:∀b u,H b=some u->b ∉ fp:=λb u e z=>by
  have:=(hf b z).1;rw[e]at this;cases this
 refine I.step (ch:=fp) (g':=s.gens) (d':=s.drawn) (λb hb=>⟨(hf b hb).2.2.2.1,(hf b hb).2.1,(hf b hb).2.2.2.2.1,(hf b hb).2.2.2.2.2⟩) (λb o _ _ hc e _=>kp b o hc e) (λb o _ _ hc e _=>⟨o.slots,kp b o hc e⟩) (λ_ _ _ _ n=>n)
  (λb o hc e=>⟨o,kp b o hc e⟩) (λ_ _ e=>e) (λ_ _ _ e=>e) (λb ps e=>⟨#[],by rw[e];simp⟩) (λm hm=>?_) (λb u e=>?_) I.bare
 .obtain⟨o,es,ep,ho,r⟩:=hm;exact⟨o,es,ep,kp _ o (λz=>(hf _ z).2.1 rfl) ho,r⟩
 .exact(I.hok b u e).stay (λc v hc q=>kp c v (hc.elim (λz=>by rw[z];exact far b u e) λz=>far c _ z) q) (λ_ q=>q) λ_ _ q=>q
theorem Inv.trackO(I:Inv X Nn σ H s)(n:H a=none)(new:X.s₀.heap.get? a=none)(hL:a≠X.env.locals)(hc:∀x c,X.env.cells.lookup x=some c->c≠a)(hp:∀p∈X.pn++Nn,p.1≠a)
  (p:bj X.prog X.w (upd H a o) s.heap a o):Inv X Nn σ (upd H a o) s:=
 ⟨I.ok,I.os,I.bare,⟨I.base.keep,I.base.slot,λb o e z hx=>by rw[aj (λq=>by rw[q,new]at e;cases e)];exact I.base.free b o e z hx,I.base.there,
   λb xs e=>by have q:=I.base.tups b xs e;rw[aj (ak q n)];exact q,λb o u e=>by have q:=I.base.frzs b o u e;rw[aj (ak q n)];exact q,
   λb ps e=>by obtain⟨m,q⟩:=I.base.tbls b ps e;exact⟨m,by rw[aj (ak q n)];exact q⟩⟩,
  I.loc,I.cell,by rw[aj (B8 hL)];exact I.free,λx c e=>by rw[aj (hc x c e)];exact I.freeC x c e,
  λq hq=>by obtain⟨a1,a2,a3⟩:=I.pin q hq;exact⟨a1,by rw[aj (hp q hq)];exact a2,a3⟩,
  λb u e=>by
   by_cases hb:b=a
   .subst hb;rw[ae]at e;cases e
    exact p
   .rw[aj hb]at e;exact(I.hok b u e).stay (λ_ _ _ z=>z) (λc z=>by rw[aj (ak z n)];exact z) λc xs z=>by rw[aj (ak z n)];exact z,
  I.len⟩
end
def V8(go:Nat->Hp->Prop)(src:Nat->Hp->List V->Prop)(n:Nat->Hp->Prop):It:=
 ⟨go,λi H v H'=>∃T vs,H T=none/\v=.ref T/\H'=upd H T (.tup vs)/\src i H vs,n⟩
theorem jl{fp' wr:List Addr}{St:Nat->Heap->Prop}(W:WalksT X.prog X.w X.A I₀ fp' wr n Pt St Mid){σ:L2.St}{vs:List V}{src:Nat->Hp->List V->Prop}(I:Inv X Nn σ H s)(hf:∀b∈fp,gR X Nn H b)(hob:∀b∈fp,∃o,s.heap.get? b=some o)(hw:∀b∈wr,b∈fp)(hi:i<n)(st:St i s.heap)
  (hv:∀NF,Pt i NF->Vals vs NF.toList)(hz:vs.length<=sizeLine)(Oi:src i H vs)(htn:∀h,St (i+1) h->tn (i+1) h) :
  wpAny (model X.prog X.w) X.A (pyNext (.ref I₀)) (λr s1=>∃u,r=some u/\
   wpAny (model X.prog X.w) X.A (letOwnedTupleGo (.Tuple Nw kk NL) (.ref I₀) u) (λ_ s2=>∃x H',Inv X Nn σ H' s2/\RelV x u/\(V8 gop src stp).yld i H x H'/\tn (i+1) s2.heap/\∀b∈fp,H' b=none) E s1) E s:=by
 refine W.item i s _ _ hi st λT NF h1 tk hP hT hTup hM kp=>?_;refine⟨.ref T,rfl,W.go Nw kk NL i T {s with heap:=h1,toks:=tk} _ _ hM λh2 O3 Xm=>?_⟩
 have I1:Inv X Nn σ H {s with heap:=h2,toks:=tk}:=I.turnedL (λb o hb e=>Xm b o (λz=>hb (hw b z)) (kp b o (λz=>hb (hw b z)) e)) hf
 have nT:H T=none:=I.hok.fresh hT
 have tup:h2.IsTuple T NF:=by
  obtain⟨o,e,r⟩:=hTup;exact⟨o,Xm T o (W.apart i T h1 hM) e,r⟩
 have new:X.s₀.heap.get? T=none:=by
  cases z:X.s₀.heap.get? T with
  | none=>rfl
  | some o=>exact absurd (i5 (f9 z) (h8 I.sz hT)) (y7 _)
 refine⟨.ref T,upd H T (.tup vs),I1.trackO nT new (D9 (i5 I.lt hT)) (λx c e z=>?_) (λp hp z=>?_) ⟨hz,NF.toList,hv NF hP,(by rw[Array.toArray_toList];exact tup)⟩,rfl,⟨T,vs,nT,rfl,rfl,Oi⟩,htn _ O3,λb hb=>?_⟩
 .obtain⟨v,o,ho,_⟩:=I.cell x c e;exact absurd (i5 (f9 ho) (by rw[z];exact hT)) (y7 _)
 .exact absurd (i5 (f9 (I.pin p hp).1) (by rw[z];exact hT)) (y7 _)
 .have e0:=(hf b hb).1;obtain⟨o,ho⟩:=hob b hb;have bT:b≠T:=λz=>absurd (i5 (f9 ho) (by rw[z];exact hT)) (y7 _);rw[aj bT];exact e0
def WL(K:W.Frag)(a:Addr):Nat->Hp->List V->Prop:=λi H vs=>∃x,vs=[.int i,x]/\∀xs,Nq K H a xs->xs[i]?=some x
def V9(K:W.Frag)(a:Addr):It:=V8 (λi H=>∃xs x,Nq K H a xs/\xs[i]?=some x) (WL K a) λi H=>∃xs,Nq K H a xs/\xs.length<=i
theorem cV{o:Obj}(l:h.IsList a its)(e:h.get? b=some o)(c:o.cls=.type T)(n:T≠"list"):a≠b:=λz=>by
 obtain⟨o',e',c',_⟩:=l;rw[z,e]at e';cases e'
 rw[c]at c';exact n (Value.type.inj c')
theorem EJ{w:World}{K:W.Frag}(a e it:Addr)(hei:e≠it) :
  Turn P w K (.Tuple Nw kk NL) (V9 K a) [e,it] e (λi h=>(∃old,IsEnum h e it i old)/\h.IsListIter it a i) where
 mem:=by simp
 obj:=λi h st b hb=>by
  obtain⟨⟨old,he⟩,o,ho,_,hd⟩:=st;rcases j8.mp hb with rfl | hb
  .exact⟨_,he,λv z=>by cases z⟩
  .rw[y3.mp hb];exact⟨o,ho,λv z=>by rw[hd]at z;cases z⟩
 keep:=λi h h' st k=>by
  obtain⟨⟨old,he⟩,l⟩:=st;exact⟨⟨old,k e (by simp) _ he⟩,l.at λo z=>k it (by simp) o z⟩
 item:=by
  intro X hP hw hK hc i Nn s σ H E I hf st hg;subst hP hw hK;obtain⟨xs,x,hq,hx⟩:=hg;obtain⟨its,rv,p,hz⟩:=I.list hq;obtain⟨u,hu,ru⟩:=rv.get hx;obtain⟨⟨old,he⟩,hit⟩:=st;have hL:=p.isList;have ne1:a≠e:=cV hL he rfl (by decide)
  have ne2:a≠it:=by
   obtain⟨o,ho,OC,_⟩:=id hit;exact cV hL ho OC (by decide)
  have W:=WalksT.enumerateD (A:=X.A) (Draws.list (prog:=X.prog) (w:=X.w) (A:=X.A.in1) (I.ok.hd hc) it a ne2 its.toArray) e hei (by simp;exact⟨hei,B8 ne1⟩) (by simp);refine jl (fp:=[e,it]) (vs:=[.int i,x]) (src:=WL X.K a) (tn:=λi h=>(∃old,IsEnum h e it i old)/\h.IsListIter it a i) W I hf (λb hb=>?_) (λb hb=>hb) (by have:=(j6.mp hu).1;simpa using this) ⟨⟨old,he⟩,hit,hL⟩ (λNF hP=>?_) Mine.z2 ⟨x,rfl,λys hy=>by rw[I.list_inj hy hq];exact hx⟩ λh st=>⟨?_,st.2.1⟩
  .rcases j8.mp hb with rfl | hb
   .exact⟨_,he⟩
   .rw[y3.mp hb];obtain⟨o,ho,_⟩:=id hit;exact⟨o,ho⟩
  .obtain⟨t,y,hy,rfl⟩:=hP
   have ey:y=u:=by
    have:its[i]?=some y:=by simpa using hy
    rw[hu]at this;exact(i7 this).symm
   subst ey;exact .cons ⟨t,rfl⟩ (.cons ru .nil)
  .obtain⟨old',z⟩:=st.1;exact⟨old',z⟩
 done:=by
  intro X hP hw hK hc i Nn s σ H E I hf st hg;subst hP hw hK;obtain⟨xs,hq,hx⟩:=hg;obtain⟨its,rv,p,hz⟩:=I.list hq;obtain⟨⟨old,he⟩,hit⟩:=st;have hl:=rv.length;obtain⟨f0,f1,f2,f3,f4,f5⟩:=hf it (by simp);exact wpAny_pyNext_enum_end (I.ok.hd hc) he hit p.isList (by simp;omega) λh' eb=>⟨rfl,I.turned (t':=s.toks) (λb o hb e=>eb b o hb e) f0 f1 f3 f4 f5⟩
 self:=λ_ _ _ _ _ st h=>by
  obtain⟨⟨old,he⟩,_⟩:=st;exact wpAny_pyIter_enum he h
section
variable{X:Cx}
def Xv(K:W.Frag)(tl:TE):TI:=λσ H R=>tl σ H λx H1=>∃a,x=.ref a/\(∃xs,Nq K H1 a xs)/\R (V9 K a) H1
theorem DT(hg:Gl X "enumerate")(hm:X.mg "enumerate"=none)(he:PE X e te)
  (hs:starEach [e] X.env=[(false,eval e X.env)]:=by rfl):PI X (.Tuple Nw kk NL) (.Call (.Name "enumerate" p) [e] [] pos) (Xv X.K te):=by
 intro Nn s σ H R I h;have b1:bootBuiltins "enumerate"=some (.type "enumerate"):=by decide+kernel
 refine z7 (gQ I hg hm b1 ?_ (by decide) (by decide));refine y8 ?_ hs (by rfl);rw[hs];refine A2 (Nr (he Nn s σ H _ I h) λu s1 zz=>?_);obtain⟨y,H1,I1,ry,a,ey,⟨xs,hq⟩,q⟩:=zz;subst ey;have eu:u=Value.ref a:=ry;subst eu;refine C3 ?_;obtain⟨its,rv,pl,hz⟩:=I1.list hq;refine call_enumerate_list pl.isList λh' e1 e2 e3 kp=>?_;have I2:Inv X Nn σ H1 {s1 with heap:=h' }:=I1.kept (t':=s1.toks) kp
 refine wpAny_pyIter_enum (s:={s1 with heap:=h' }) e1 ?_
 refine⟨_,[s1.heap.objs.size+1,s1.heap.objs.size],_,V9 X.K a,H1,rfl,I2,EJ a _ _ (D9 (Lq _)),⟨⟨_,e1⟩,e2⟩,λb hb=>?_,q⟩
 have nb:s1.heap.objs.size<=b:=by
  rcases j8.mp hb with rfl | hb
  .exact J3 _
  .rw[y3.mp hb];exact f7 _
 exact I1.fpOk nb (I1.hok.fresh nb)
end
theorem zZ{K:W.Frag}{xs:List V}(Pv:Nat->St->Hp->Prop)(h0:Pv 0 σ H)(hl:∀i σ H,i<=xs.length->Pv i σ H->Nq K H a xs)
  (hs:∀i x T σ H,xs[i]?=some x->Pv i σ H->H T=none->g (.ref T) σ (upd H T (.tup [.int i,x])) λσ2 H2=>tb {D with nx:=Pv (i+1),ct:=Pv (i+1),bk:=D.nx} σ2 H2)(hd:∀σ H,Pv xs.length σ H->D.nx σ H) :
  ∃W:Nat->Nat->St->Hp->Prop,(∃m,W 0 m σ H)/\∀i m σ H,W i m σ H->
   ((V9 K a).stop i H/\D.nx σ H)\/((V9 K a).go i H/\∃N:St->Hp->Prop,(∀σ' H',N σ' H'->∃m',m'<m/\W (i+1) m' σ' H')/\∀x H',(V9 K a).yld i H x H'->g x σ H' λσ2 H2=>tb {D with nx:=N,ct:=N,bk:=D.nx} σ2 H2):=by
 refine⟨λi m σ H=>m=xs.length-i/\i<=xs.length/\Pv i σ H,⟨xs.length,by simp,z5 _,h0⟩,?_⟩;rintro i m σ H ⟨rfl,hi,p⟩
 have q:=hl i σ H hi p
 by_cases Ny:i<xs.length
 .refine .inr ⟨⟨xs,xs[i],q,by simp[Ny]⟩,Pv (i+1),λσ' H' p'=>⟨xs.length-(i+1),by omega,rfl,Ny,p'⟩,λx H' y=>?_⟩;obtain⟨T,vs,nT,rfl,rfl,x,rfl,hx⟩:=y;exact hs i x T σ H (hx xs q) p nT
 .have e:i=xs.length:=by omega
  subst e;exact .inl ⟨⟨xs,q,f7 _⟩,hd σ H p⟩
open PySem.AutoSeq1
noncomputable abbrev sf (t:Addr):Obj:={cls:=.type "tuple_iterator",data:=.fields #[.ref t,.int 0 0] }
section
variable{prog:Program}{w:World}{A:Around}{E:Value->Shared->Prop}{s:Shared}
theorem mU{x:Value}(st:s.heap.IsTupleIter it t i)(tp:s.heap.IsTuple t ys)(e:ys[i]?=some x)
  (k:∀h',h'.IsTupleIter it t (i+1)->Heap.SameBut it s.heap h'->Q x {s with heap:=h' }):wpAny (model prog w) A (Builtin.SmallTypes.nextOf (.ref it)) Q E s:=by
 obtain⟨ob,gb,cb,db⟩:=id st;obtain⟨ot,gt,_,nt,dt⟩:=tp;unfold Builtin.SmallTypes.nextOf;refine b6 (A1 (name:=Str.ofString "__next__") st.typeIs F8 (B2 F8 st.typeIs F.entry_tuple_iterator_next ?_ (F.args_tuple_iterator_next_1 _)));show wpAny _ _ (field (.ref it) 0 >>= _) _ _ s;refine b6 (B1 gb db (x:=.ref t) rfl ?_);show wpAny _ _ (if(Value.ref t==Value.none)=true then _ else _) _ _ s;rw[h9 (show ¬((Value.ref t==Value.none)=true) from i6)];show wpAny _ _ (field (.ref it) 1 >>= _) _ _ s;refine b6 (B1 gb db (x:=.int i 0) rfl ?_);show wpAny _ _ (seqItems? (.ref t) >>= _) _ _ s;refine b6 (C6 gt dt ?_);simp only[Ld,e];refine b6 (J1 gb db (by simp) (f6 ⟨x,rfl,f6 (k _ ?_ (Lx ..))⟩));exact⟨_,C2 _ gb (K6 (E2 db _)),(MW ..).trans cb,by rw[E2 db];simp[rawInt]⟩
theorem uV(hd:A.handled=none)(st:s.heap.IsTupleIter it t i)(tp:s.heap.IsTuple t ys)(e:ys[i]?=none)
  (k:∀h' x,Heap.ExtBut it s.heap h'->(∃o,h'.get? x=some o/\o.cls=.type "StopIteration")->E (.ref x) {s with heap:=h' }):wpAny (model prog w) A (Builtin.SmallTypes.nextOf (.ref it)) Q E s:=by
 obtain⟨ob,gb,cb,db⟩:=id st;obtain⟨ot,gt,_,nt,dt⟩:=tp;unfold Builtin.SmallTypes.nextOf;refine b6 (A1 (name:=Str.ofString "__next__") st.typeIs F8 (B2 F8 st.typeIs F.entry_tuple_iterator_next ?_ (F.args_tuple_iterator_next_1 _)));show wpAny _ _ (field (.ref it) 0 >>= _) _ _ s;refine b6 (B1 gb db (x:=.ref t) rfl ?_);show wpAny _ _ (if(Value.ref t==Value.none)=true then _ else _) _ _ s;rw[h9 (show ¬((Value.ref t==Value.none)=true) from i6)];show wpAny _ _ (field (.ref it) 1 >>= _) _ _ s;refine b6 (B1 gb db (x:=.int i 0) rfl ?_);show wpAny _ _ (seqItems? (.ref t) >>= _) _ _ s;refine b6 (C6 gt dt ?_);simp only[Ld,e];refine b6 (Nd (b6 (J1 gb db (by simp) ?_)));show wpAny _ _ (newExc (.type "StopIteration") [] >>= _) _ _ _;refine b6 ?_;simp only[newExc,newTuple];refine b6 (C4 ?_ (by size_fits));refine b6 (m:=firstArgMember _ _) (Mi (a:=Value.none) (by first | rfl | (simp only[firstArgMember];rfl)) ?_);refine C4 ?_ (by size_fits);simp only[raiseNew];refine b6 (wpAny_handled ?_);first | rw[show A.in1.handled=none from hd] | rw[hd]
 refine b6 (f6 (wpAny_throw ?_));exact k _ _ (((Lx ..).extBut.push _).push _) ⟨_,g7 _ rfl,rfl⟩
end
section
variable{X:Cx}
end
def WJ(K:W.Frag)(a b:Addr):Nat->Hp->List V->Prop:=λi H vs=>∃x y,vs=[x,y]/\(∀xs,Nq K H a xs->xs[i]?=some x)/\∀ys,Nq K H b ys->ys[i]?=some y
def ItZ(K:W.Frag)(a b:Addr):It:=V8 (λi H=>∃xs ys x y,Nq K H a xs/\Nq K H b ys/\xs[i]?=some x/\ys[i]?=some y) (WJ K a b) λi H=>∃xs ys,Nq K H a xs/\Nq K H b ys/\(xs.length<=i\/ys.length<=i)
structure GU(z TI TO i1 i2:Addr):Prop where
 a1:TI≠z
 a2:TO≠z
 a3:i1≠z
 a4:i2≠z
 a5:TI≠TO
 a6:TI≠i1
 a7:TI≠i2
 a8:TO≠i1
 a9:TO≠i2
 a10:i1≠i2
def Zl(a b z TI TO i1 i2:Addr)(i:Nat)(h:Heap):Prop:=IsZip h z TI TO .none/\IsPair h TI (.ref i1) (.ref i2)/\(∃u v,IsPair h TO u v)/\h.IsListIter i1 a i/\h.IsListIter i2 b i
theorem Hz{z TI TO:Addr}(o:GU z TI TO i1 i2)(st:Zl a b z TI TO i1 i2 i h)(la:h.IsList a xs)(lb:h.IsList b ys):ZipApart z TI TO i1 i2 a b:=by
 obtain⟨hz,Pf,⟨u,v,OV⟩,h1,h2⟩:=st;obtain⟨o1,g1,c1,_⟩:=h1;obtain⟨o2,g2,c2,_⟩:=h2;refine⟨o.a1,o.a2,o.a3,o.a4,o.a5,o.a6,o.a7,o.a8,o.a9,o.a10,?_,?_,?_,?_,?_,?_,?_,?_⟩
 all_goals first
  | exact cV la hz rfl (by decide)
  | exact cV la OV rfl (by decide)
  | exact cV la g1 c1 (by decide)
  | exact cV la g2 c2 (by decide)
  | exact cV lb hz rfl (by decide)
  | exact cV lb OV rfl (by decide)
  | exact cV lb g1 c1 (by decide)
  | exact cV lb g2 c2 (by decide)
theorem Wb{z TI TO:Addr}(st:Zl a b z TI TO i1 i2 i h):∀c∈[z,TI,TO,i1,i2],∃o,h.get? c=some o/\∀v,o.data≠.cell v:=by
 intro c hc;obtain⟨hz,Pf,⟨u,v,OV⟩,⟨o1,g1,_,d1⟩,⟨o2,g2,_,d2⟩⟩:=st;simp only[j8,z8,E9]at hc;rcases hc with rfl | rfl | rfl | rfl | rfl
 .exact⟨_,hz,λv z=>by cases z⟩
 .exact⟨_,Pf,λv z=>by cases z⟩
 .exact⟨_,OV,λv z=>by cases z⟩
 .exact⟨_,g1,λv z=>by rw[d1]at z;cases z⟩
 .exact⟨_,g2,λv z=>by rw[d2]at z;cases z⟩
theorem HF{w:World}{K:W.Frag}(a b z TI TO i1 i2:Addr)(own:GU z TI TO i1 i2) :
  Turn P w K (.Tuple Nw kk NL) (ItZ K a b) [z,TI,TO,i1,i2] z (Zl a b z TI TO i1 i2) where
 mem:=by simp
 obj:=λi h st c hc=>Wb st c hc
 keep:=λi h h' st k=>by
  obtain⟨hz,Pf,⟨u,v,OV⟩,l1,l2⟩:=st;exact⟨k z (by simp) _ hz,k TI (by simp) _ Pf,⟨u,v,k TO (by simp) _ OV⟩,l1.at λo q=>k i1 (by simp) o q,l2.at λo q=>k i2 (by simp) o q⟩
 item:=by
  intro X hP hw hK hc i Nn s σ H E I hf st hg;subst hP hw hK;obtain⟨xs,ys,x,y,hq,Oe,hx,hy⟩:=hg;obtain⟨its,rv,p,hz⟩:=I.list hq;obtain⟨ND,Pb,p2,SU⟩:=I.list Oe;obtain⟨u,hu,ru⟩:=rv.get hx;obtain⟨u2,VY,WX⟩:=Pb.get hy;have D:=Hz own st p.isList p2.isList;have W:=WalksT.zip2 (prog:=X.prog) (w:=X.w) (A:=X.A) (I.ok.hd hc) z TI TO i1 i2 a b D its.toArray ND.toArray;have l1:=(j6.mp hu).1;have l2:=(j6.mp VY).1;obtain⟨s1,s2,s3,s4,s5⟩:=id st
  refine jl (fp:=[z,TI,TO,i1,i2]) (vs:=[x,y]) (src:=WJ X.K a b) (tn:=Zl a b z TI TO i1 i2) W I hf (λc hc=>let ⟨o,q,_⟩:=Wb st c hc;⟨o,q⟩) (λc hc=>?_) (by simp only[i8];omega) ⟨s1,s2,s3,s4,s5,p.isList,p2.isList⟩ (λNF hP=>?_) Mine.z2
   ⟨x,y,rfl,λzs Px=>by rw[I.list_inj Px hq];exact hx,λzs Px=>by rw[I.list_inj Px Oe];exact hy⟩ λh st=>⟨st.1,st.2.1,st.2.2.1,st.2.2.2.1,st.2.2.2.2.1⟩
  .simp only[j8,z8,E9]at hc ⊢;rcases hc with q | q | q | q<;>simp[q]
  .obtain⟨v1,v2,e1,e2,rfl⟩:=hP
   have f1:v1=u:=by
    have q:its[i]?=some v1:=by simpa using e1
    rw[hu]at q;exact(i7 q).symm
   have f2:v2=u2:=by
    have q:ND[i]?=some v2:=by simpa using e2
    rw[VY]at q;exact(i7 q).symm
   subst f1 f2;exact .cons ru (.cons WX .nil)
 done:=by
  intro X hP hw hK hc i Nn s σ H E I hf st hg;subst hP hw hK;obtain⟨xs,ys,hq,Oe,UJ⟩:=hg;obtain⟨its,rv,p,hz⟩:=I.list hq;obtain⟨ND,Pb,p2,SU⟩:=I.list Oe;have D:=Hz own st p.isList p2.isList;obtain⟨s1,s2,⟨u,v,s3⟩,s4,s5⟩:=id st;have e1:=rv.length;have e2:=Pb.length
  refine wpAny_pyNext_zip_end (I.ok.hd hc) D s1 s2 s3 s4 s5 p.isList p2.isList (by
   rcases UJ with q | q
   .exact .inl (by simp;omega)
   .exact .inr (by simp;omega)) λh' kp=>⟨rfl,I.turnedL (t':=s.toks) (λc o hc q=>kp c o (λe=>hc (by simp[e])) (λe=>hc (by simp[e])) (λe=>hc (by simp[e])) (λe=>hc (by simp[e])) q) hf⟩
 self:=λ_ _ _ _ _ st h=>E3 st.1 h
section
variable{X:Cx}
def iZip(K:W.Frag)(ta tb:TE):TI:=λσ H R=>ta σ H λx H1=>tb σ H1 λy H2=>∃a b,x=.ref a/\y=.ref b/\(∃xs,Nq K H2 a xs)/\(∃ys,Nq K H2 b ys)/\R (ItZ K a b) H2
theorem TZ{f:Expr}{tf:TE}(hg:Gl X "zip")(hm:X.mg "zip"=none)(he:PE X e te)(hf:PE X f tf)
  (hs:starEach [e,f] X.env=[(false,eval e X.env),(false,eval f X.env)]:=by rfl)(Od:starEach [f] X.env=[(false,eval f X.env)]:=by rfl):PI X (.Tuple Nw kk NL) (.Call (.Name "zip" p) [e,f] [] pos) (iZip X.K te tf):=by
 intro Nn s σ H R I h;have b1:bootBuiltins "zip"=some (.type "zip"):=by decide+kernel
 refine z7 (gQ I hg hm b1 ?_ (by decide) (by decide));refine y8 ?_ (by rw[hs,Od]) (by rw[Od];rfl);rw[hs];refine A2 (Nr (he Nn s σ H _ I h) λu s1 zz=>?_);obtain⟨x,H1,I1,rx,q1⟩:=zz;refine A2 (Nr (hf Nn s1 σ H1 _ I1 q1) λu2 s2 zz=>?_);obtain⟨y,H2,I2,ry,a,b,ex,ey,⟨xs,hq⟩,⟨ys,Oe⟩,q⟩:=zz;subst ex ey;have eu:u=Value.ref a:=rx;have YG:u2=Value.ref b:=ry;subst eu YG;refine C3 ?_;obtain⟨its,rv,pl,hz⟩:=I2.list hq;obtain⟨ND,Pb,W2,SU⟩:=I2.list Oe;refine call_zip_2 pl.isList W2.isList λh' z TI TO i1 i2 sz kp=>?_;have I3:Inv X Nn σ H2 {s2 with heap:=h' }:=I2.kept (t':=s2.toks) kp
 refine E3 (s:={s2 with heap:=h' }) z ?_
 have ne:∀i j:Nat,i≠j->s2.heap.objs.size+i≠s2.heap.objs.size+j:=λi j XZ e=>XZ (Mu e)
 refine⟨_,[s2.heap.objs.size+4,s2.heap.objs.size+2,s2.heap.objs.size+3,s2.heap.objs.size,s2.heap.objs.size+1],_,ItZ X.K a b,H2,rfl,I3,
  HF a b _ _ _ _ _ ⟨ne 2 4 (by decide),ne 3 4 (by decide),ne 0 4 (by decide),ne 1 4 (by decide),ne 2 3 (by decide),ne 2 0 (by decide),ne 2 1 (by decide),ne 3 0 (by decide),ne 3 1 (by decide),ne 0 1 (by decide)⟩,
  ⟨z,TI,⟨_,_,TO⟩,i1,i2⟩,λc hc=>?_,q⟩
 have nb:s2.heap.objs.size<=c:=by
  simp only[j8,z8,E9]at hc;rcases hc with rfl | rfl | rfl | rfl | rfl
  .exact A9 _ _
  .exact A9 _ _
  .exact A9 _ _
  .exact f7 _
  .exact A9 _ _
 exact I2.fpOk nb (I2.hok.fresh nb)
end
section
variable{X:Cx}
end
section
variable{X:Cx}
def rInD(K:W.Frag)(no:Bool):R2:=λx y H Q=>∃d ds a ys,uF K H d x/\y=.ref a/\Nq K H a ys/\DatAll K H ds ys/\PyData.canLayAll0 ds=true/\d.canLay0=true/\PyData.depthAll ds<=60/\Q (.bl (Bool.xor no (ds.any λe=>PyData.eqv e d))) H
theorem T9(hu:X.A.units+64<cLine):NJ X (compareOp .In) (rInD X.K false):=by
 intro Nn s σ H x y u v Q I rx ry h;obtain⟨d,ds,a,ys,hx,rfl,hl,hd,c1,c2,c3,q⟩:=h;obtain⟨bs,r1⟩:=hx.reads I rx;obtain⟨as,r2⟩:=uF.reads I (d:=.list ds) (v:=.ref a) (.inr ⟨ds,a,ys,rfl,rfl,hl,hd⟩) ry;refine PySem.SeqAt.in_list_reads r2 r1 c1 c2 (by have:=Nat.min_le_left (PyData.depthAll ds) d.depth;omega) ⟨_,H,I,?_,q⟩;exact y9 Value.bool (Bool.false_xor _).symm
end
section
variable{X:Cx}
def QD(K:W.Frag):V->List V->Hp->VK->Prop:=λx vs H Q=>∃(l:Addr)(ys:List V)(y:V)(ds:List PyData)(d:PyData)(j:Nat)(e0:PyData),x=.ref l/\vs=[y]/\H l=some (.lst ys)/\DatAll K H ds ys/\Dat K H d y/\PyData.canLayAll0 ds=true/\d.canLay0=true/\PyData.depthAll ds<=60/\
 ds[j]?=some e0/\PyData.eqv e0 d=true/\(∀m e,m<j->ds[m]?=some e->PyData.eqv e d=false)/\Q (.int (j:Int)) H
theorem Gd(hu:X.A.units+64<cLine):PV X "list.index" (QD X.K):=by
 intro Nn s σ H x vs v us Q I rx rv h;obtain⟨l,ys,y,ds,d,j,e0,rfl,rfl,hH,hds,hd,c1,c2,c3,hj,hit,hno,q⟩:=h;cases rx
 obtain⟨u,rfl,ru⟩:=vals1 rv;obtain⟨z,its,n,r,hl,e⟩:=I.lstM hH;obtain⟨as,ra⟩:=DatAll.reads I ds hds r;obtain⟨bs,rd⟩:=Dat.reads I d hd ru;have XS:=PySem.SeqAt.readsAll_map ds its as c1 ra;have hlen:its.length=ds.length:=by rw[<- XS,g6]
 have hjl:j<ds.length:=(j6.mp hj).1
 have at_:∀m (hm:m<its.length),ds[m]?=some (PySem.SeqAt.readOf s.heap its[m]):=λm hm=>by
  rw[<- XS,y4,g0 hm];rfl
 refine J7 F.slot_list_index ⟨_,e,rfl⟩ F.entry_list_index (F.args_list_index_2 _ _)
  (PySem.SeqAt.list_indexAt l its.toArray n _ _ u (λy=>PyData.eqv (PySem.SeqAt.readOf s.heap y) d) j (by rw[i8];omega) ?_ ?_ ?_) ⟨e,PySem.SeqAt.items_eqAt (as:=as) (by simpa using ra) rd c1 c2 (by have:=Nat.min_le_left (PyData.depthAll ds) d.depth;omega),⟨.int (j:Int),H,I.tok _,⟨_,rfl⟩,q⟩⟩
 .have:its.length<=sizeLine:=by omega
  have:sizeLine<2^62:=by decide
  omega
 .have h1:=at_ j (by omega);rw[hj]at h1;show PyData.eqv (PySem.SeqAt.readOf s.heap its[j]) d=true;rw[<- i7 h1];exact hit
 .intro m hm Ny;have XU:m<its.length:=by simpa using hm
  exact hno m _ Ny (at_ m XU)
end
end L2
namespace Mine
open PySem L2
noncomputable def kD:Key->PyData
 | .inl i=>.int i
 | .inr x=>.str x
noncomputable def Ow(r:Rw):PyData:=.tuple (r.map kD)
theorem Uo(a b:Key):PyData.eqv (kD a) (kD b)=decide (a=b):=by
 cases a<;>cases b<;>simp[kD,PyData.eqv]<;>(rw[LH];simp)
theorem QB(a b:Rw):PyData.eqv (Ow a) (Ow b)=decide (a=b):=by
 simp only[Ow,PyData.eqv];exact Ei Uo a b
theorem Up(k:Key):Dat K H (kD k) (kV k):=by cases k<;>rfl
theorem JP:∀r:Rw,DatAll K H (r.map kD) (r.map kV)
 | []=>rfl
 | k::r=>⟨_,_,rfl,Up k,JP r⟩
theorem Oq.dat(h:Oq H v r):Dat K H (Ow r) v:=by
 obtain⟨a,rfl,e⟩:=h;exact⟨a,_,rfl,Nv.of e,JP r⟩
theorem Oq.all(h:cN (Oq H) vs rs):DatAll K H (rs.map Ow) vs:=by
 induction h with
 | nil=>rfl
 | cons r _ ih=>exact⟨_,_,rfl,r.dat,ih⟩
def KOk:Key->Prop
 | .inl _=>True
 | .inr x=>PyData.strOk x=true
def rz(r:Rw):Prop:=∀k∈r,KOk k
theorem Um(h:KOk k):(kD k).canLay0=true:=by
 cases k with
 | inl _=>rfl
 | inr x=>simp only[kD,PyData.canLay0];exact h
theorem Ee:∀{r:Rw},rz r->PyData.canLayAll0 (r.map kD)=true
 | [],_=>rfl
 | k::r,h=>by simp[PyData.canLayAll0,Um (h k (by simp)),Ee (r:=r) λx hx=>h x (p8 _ hx)]
theorem jW(h:PyData.strOk x=true):rz (fK x is):=λk hk=>by
 rcases j8.mp hk with rfl | hk
 .exact h
 .obtain⟨i,_,rfl⟩:=List.mem_map.mp hk;exact True.intro
theorem lT(h:∀x∈rs,rz x)(hr:rz r):∀x∈(bF rs r).1,rz x:=by
 unfold bF;cases idx rs r with
 | some i=>exact h
 | none =>
  intro x hx;rcases D0.mp hx with hx | hx
  .exact h x hx
  .rw[y3.mp hx];exact hr
theorem Si(w:W5):PyData.strOk w.str=true:=by cases w<;>decide+kernel
theorem Zg(t:Tr):PyData.strOk t.word=true:=by
 cases t with
 | fold w a b=>exact Si w
 | never=>show PyData.strOk "never"=true;decide+kernel
 | always=>show PyData.strOk "always"=true;decide+kernel
 | lp=>show PyData.strOk "p"=true;decide+kernel
 | lq=>show PyData.strOk "q"=true;decide+kernel
 | no t=>show PyData.strOk "not"=true;decide+kernel
theorem rK:∀(t:Tr)(rs:List Rw),(∀x∈rs,rz x)->∀x∈(t.putR rs).1,rz x
 | .no t,rs,h=>lT (rK t rs h) (jW (by decide+kernel))
 | .fold w a b,rs,h=>lT (rK b _ (rK a rs h)) (jW (Si w))
 | .never,rs,h=>lT h (jW (by decide+kernel))
 | .always,rs,h=>lT h (jW (by decide+kernel))
 | .lp,rs,h=>lT h (jW (by decide+kernel))
 | .lq,rs,h=>lT h (jW (by decide+kernel))
theorem wg:∀r:Rw,PyData.depthAll (r.map kD)=0
 | []=>rfl
 | k::r=>by
  rw[v7];show max (kD k).depth (PyData.depthAll (r.map kD))=0;rw[wg r];cases k<;>rfl
theorem Ii(h:rz r):(Ow r).canLay0=true:=by simp only[Ow,PyData.canLay0];exact Ee h
theorem DP:∀{rs:List Rw},(∀x∈rs,rz x)->PyData.canLayAll0 (rs.map Ow)=true
 | [],_=>rfl
 | r::rs,h=>by simp[PyData.canLayAll0,Ii (h r (by simp)),DP (rs:=rs) λx hx=>h x (p8 _ hx)]
theorem Ij(r:Rw):(Ow r).depth<=1:=by
 show PyData.depthAll (r.map kD)+1<=1;rw[wg];exact f7 _
theorem vQ:∀rs:List Rw,PyData.depthAll (rs.map Ow)<=1
 | []=>z5 _
 | r::rs=>by
  rw[v7];show max (Ow r).depth (PyData.depthAll (rs.map Ow))<=1;exact Nat.max_le.mpr ⟨Ij r,vQ rs⟩
theorem QA(rs:List Rw)(r:Rw):((rs.map Ow).any λy=>PyData.eqv y (Ow r))=(idx rs r).isSome:=by
 induction rs with
 | nil=>rfl
 | cons x t ih =>
  rw[v7,LA,ih,QB];show _=(if x=r then some 0 else(idx t r).map (·+1)).isSome
  by_cases z:x=r
  .rw[k9 z,j9 z];rfl
  .rw[h9 z,h7 z];cases idx t r<;>rfl
inductive Gr where
 | ne | al | p | q
 | no (i:Nat)
 | fold (u:W5) (i j:Nat)
noncomputable def TK:List (Str×Int):=[("never",0),("always",0),("p",0),("q",0),("not",1),("more",2),("less",2),("greater",2),("lesser",2),("leads",2)]
def GrT(ts:List Tr):Gr->Tr->Prop
 | .ne,.never=>True
 | .al,.always=>True
 | .p,.lp=>True
 | .q,.lq=>True
 | .no i,.no t=>ts[i]?=some t
 | .fold u i j,.fold v a b=>u=v/\ts[i]?=some a/\ts[j]?=some b
 | _,_=>False
inductive Tab:List Gr->List Tr->Prop where
 | nil:Tab [] []
 | snoc {gs:List Gr} {ts:List Tr} {g:Gr} {t:Tr}:Tab gs ts->GrT ts g t->Tab (gs++[g]) (ts++[t])
end Mine
namespace L2
open PySem PySem.Spec PyProof.Rows
variable{name x:Str}{o e₀:Expr}{NA pos:Pos}{X:Cx}{s s₂:Shared}{h g h1 h2 h' base:Heap}{mg mA:Str->Option Value}{a N:Addr}{es:List Expr}{ep n:Nat}{D:List (Str×Int)}{p:List Value->Prop}{us bmB:List Value}{vs:Array Value}{E:Value->Shared->Prop}{dc od an:Option Addr}{u v:Value}{Nn:List (Addr×Obj)}{σ:St}{H H1:Hp}{ta:TA}{K:Frag}{newId:String}{prog:Program}{A:Around}{st:Stmt}{ps:List Str}{sp:Sp}{expr:Bool}{N7:Array (Option Value)}{fd:FuncData}{CX CX':OZ}{E':XK}
variable{X:Cx}
theorem QS{K:W.Frag}{T id:String}{r:V->List V->Hp->VK->Prop}{to:TE}{apos:Pos}(eK:X.K=K)(pa:PlainAttrs T)(slot:Slot T name id)(XD:typeOf (.builtin id)=pure (.type "method_descriptor"))(hm:MtR X id r)(ho:PE X o to)
  (NY:attributeBase o name X.env (eval o X.env)=eval o X.env:=by rfl)(N8:(apos.endLine==NA.line)=true:=by rfl):PE X (.Call (.Attribute o name apos) [] [] NA) (WE K T r to):=eK ▸ cp pa slot XD hm ho NY N8
def Sn:TS:=λ_ _ _=>False
theorem eI{s:Stmt}:PS X s Sn:=λ_ _ _ _ _ _ h=>h.elim
structure oX(K:W.Frag)(mg:Str->Option Value)(x:Str)(D:List (Str×Int)):Prop where
 ex:∃a o es ep,mg x=some (.ref a)/\(a==sysModules)=false/\K.lookup a=some o/\o.ExactDict/\o.data=.dict es ep/\KTD.Rows (λ(n:Int) v=>∃t,v=Value.int n t) es.toList D
theorem AU{K:W.Frag}{es:Array DictEntry}(X:K.In h)(G:h.Ns mainGlobals mg)
  (e:PySem.W.nsIn K mainGlobals x=some (some (.ref a)))(l:K.lookup a=some ⟨.type "dict",none,.dict es ep,#[]⟩)(hs:(a==sysModules)=false)(r:KTD.Rows (λ(n:Int) v=>∃t,v=Value.int n t) es.toList D):oX K mg x D:=
 ⟨a,_,es,ep,LC X G e,hs,l,⟨rfl,rfl,rfl⟩,rfl,r⟩
def Wq(D:List (Str×Int))(ty:TE):TE:=λσ H Q=>ty σ H λy H1=>∃k,y=.str k/\Q (match KTD.datumAt k D with | some n=>.int n | none=>.non) H1
theorem QN{p:Pos}(T:oX X.K X.mg x D)(hg:Gl X x)(he:PE X e ty)(m:M1 X (.Name x p) "get" apos e NA)(NO:(x==("__debug__":Str))=false:=by decide) :
  PE X (.Call (.Attribute (.Name x p) "get" apos) [e] [] NA) (Wq D ty):=by
 intro Nn s σ H Q I h;obtain⟨a,o,es,ep,hm,hs,lk,xd,dt,Oh⟩:=T.ex
 have tab:∀{s1:Shared}{H1:Hp},Inv X Nn σ H1 s1->KTD.TextTab s1.heap a (D.map λq=>(q.1,KTD.Dat.flat (.int q.2))):=λ{s1 H1} I1 =>
  ⟨hs,o,es,ep,I1.kIn _ _ lk,xd,dt,KTD.Rows.mono (R':=KTD.Dat.At s1.heap) (f:=λn=>KTD.Dat.flat (.int n)) (λn v z=>by obtain⟨t,rfl⟩:=z;exact PyProof.V.Flat.int n t) Oh⟩
 refine MX m.base m.few m.line LN K7 PySem.F.type_dict_get (dN I hg hm ?_ NO);have T1:KTD.Here s.heap s.heap a _:=⟨tab I,λ_ _ z=>z⟩;refine⟨T1.typeIs,T1.noDict,?_⟩;rw[m.trees];refine J6 rfl (G5 (A2 (Nr (he Nn s σ H _ I h) λiv s2 zz=>?_)));obtain⟨y,H2,I2,ry,k,ek,q2⟩:=zz;refine C3 ?_;subst ek;obtain⟨t,rfl⟩:=ry;have T2:KTD.Here s2.heap s2.heap a _:=⟨tab I2,λ_ _ z=>z⟩
 have dm:∀D':List (Str×Int),KTD.datumAt k (D'.map λq=>(q.1,KTD.Dat.flat (.int q.2)))=(KTD.datumAt k D').map λn=>KTD.Dat.flat (.int n):=by
  intro D'
  induction D' with
  | nil=>rfl
  | cons c D' ih =>
   show(if decide (k=c.1)=true then _ else KTD.datumAt k (D'.map _))=Option.map _ (if decide (k=c.1)=true then _ else KTD.datumAt k D');split
   .rfl
   .exact ih
 refine call_meetsIn K7 T2.typeIs PySem.F.entry_dict_get (PySem.F.args_dict_get_2 _ _) KTD.meets_get1 ⟨T2,λd v e1 e2=>?_,λe1=>?_⟩
 .rw[dm]at e1;cases hn:KTD.datumAt k D with
  | none=>rw[hn]at e1;cases e1
  | some n =>
   rw[hn]at e1 q2;cases e1
   obtain⟨t',rfl⟩:=PyProof.V.Flat.int_inv e2;exact⟨.int n,H2,I2.tok _,⟨t',rfl⟩,q2⟩
 .rw[dm]at e1;cases hn:KTD.datumAt k D with
  | none =>
   rw[hn]at q2;exact⟨.non,H2,I2.tok _,rfl,q2⟩
  | some n=>rw[hn]at e1;cases e1
section
variable{X:Cx}
end
open PySem.Calls PySem.W
section
variable{P:Program}{w:World}{K:W.Frag}{mg:Str->Option Value}{base:Heap}{N:List Str}{qual:Str}{scope:Scope}{f:Addr}{cd:Value}{A:Around}{outer:List Env}{s:Shared}{H:Hp}{E:XK}
end
variable{X:Cx}
noncomputable def plainArg(e:Expr):Bool:=match e with
 | .Starred _ _=>false
 | _=>true
theorem AY(h:plainArg e=true):starEach (e::es) env=(false,eval e env)::starEach es env:=by
 cases e<;>first | rfl | cases h
theorem paS(ha:PE X e te)(hr:PA X es t)(h:plainArg e=true:=by rfl):PA X (e::es) (gg te t):=aa ha hr (AY h)
def ZU(h:Heap)(C:Addr)(bmB:List Value)(newId:String)(fI:Addr):Prop:=
 ∃nm qn N bs bm hd sn sub ab col dd k0 k1 k2 k3 k5 mN oI,h.get? C=some (excClassObj nm qn C N bs bm hd sn sub ab col dd k0 k1 k2 k3 k5 newId)/\h.Ns N mN/\mN "__init__"=some (.ref fI)/\OwnTail h bmB bm/\h.get? fI=some oI/\oI.cls=.type "function"
section
variable{prog:Program}{w:World}{A:Around}{E:Value->Shared->Prop}{h:Heap}{g:Array GenState}{d:Drawn}{t:Nat}{os:OsState}
variable{C fI:Addr}{bmB:List Value}{B newId Pw:String}
noncomputable abbrev Qb (h:Heap) (us:List Value):Heap:=h.push {cls:=.type "tuple",data:=.seq us.toArray}
noncomputable abbrev withExc (h:Heap) (C:Addr) (us:List Value):Heap:=(Qb h us).push {cls:=.ref C,data:=.fields #[.ref h.objs.size,.none,.none,.none,.bool false,.none] }
theorem dU(us:List Value){o:Obj}(e:h.get? b=some o):(withExc h C us).get? b=some o:=e9 _ (e9 _ e)
theorem rW(us:List Value):(withExc h C us).get? (h.objs.size+1)=some {cls:=.ref C,data:=.fields #[.ref h.objs.size,.none,.none,.none,.bool false,.none] }:=by heap_get
theorem rZ(F:ExcBaseFacts B newId Pw bmB)(x:ZU h C bmB newId fI)(hz:us.length<=sizeLine)
  (hq:wpAny (model prog w) A (call (.ref fI) (.ref (h.objs.size+1)::us)) (λr s'=>r=.none/\Q (.done (.ret (.ref (h.objs.size+1)))) s') E ⟨withExc h C us,g,d,t,os⟩) :
  wpAny (model prog w) A (Builtin.«type.__call__» ⟨.ref C::us,[]⟩) Q E ⟨h,g,d,t,os⟩:=by
 obtain⟨nm,qn,N,bs,bm,hd,sn,sub,ab,col,dd,k0,k1,k2,k3,k5,mN,oI,hC,hn,hi,T,hfI,hfc⟩:=x;have XG:(Value.ref C::bm).contains (.ref C)=true:=by simp
 have hC2:=dU (C:=C) us hC;have Pd:(withExc h C us).Ns N mN:=hn.keeps λb o e=>dU us e;have T2:OwnTail (withExc h C us) bmB bm:=T.keeps λb o e=>dU us e;have he2:=rW (h:=h) (C:=C) us
 repeat (first | with_reducible refine Lg hC ?_ | with_reducible refine wpAny_madeBy_exc hC ?_ | wp_step)
 refine codeAny_call_builtin_code (MF _ F.quiet) (wpAny_check_new_subT F T hC (codeAny_exc_new_subT F T hC ?_ hz));show wpAny _ _ _ _ _ _;unfold isInstance
 repeat (first | with_reducible refine Lg he2 ?_ | (with_reducible refine wpAny_isSubtype_exc hC2 ?_;rw[XG]) | wp_step)
 show wpAny _ _ (typeLookup (.ref C) _) _ _ _;refine wpAny_typeLookup_tail hC2 Pd T2 F.mroIs F.init.lookup ?_;rw[hi];refine D8 (b6 ?_);unfold bindSpecial;refine b6 (Nc (T:="function") ⟨_,dU us hfI,hfc⟩ ?_);rw[k9 (by decide)];refine f6 (b6 (v8 hq (λr s' z=>?_) λ_ _ z=>z));obtain⟨rfl,z⟩:=z
 wp_walk
 exact z
theorem GK(F:ExcBaseFacts B newId Pw bmB)(x:ZU h C bmB newId fI)(hz:us.length<=sizeLine)
  (hq:wpAny (model prog w) (A.under (.builtin "type.__call__" ⟨.ref C::us,[]⟩)) (call (.ref fI) (.ref (h.objs.size+1)::us)) (λr s'=>r=.none/\Q (.ref (h.objs.size+1)) s') E ⟨withExc h C us,g,d,t,os⟩) :
  wpAny (model prog w) A (call (.ref C) us) Q E ⟨h,g,d,t,os⟩:=by
 obtain⟨nm,qn,N,bs,bm,hd,sn,sub,ab,col,dd,k0,k1,k2,k3,k5,mN,oI,hC,r⟩:=id x;have f1:=tc_lookup;have f2:=tc_bind (.ref C);have hT:(⟨h,g,d,t,os⟩:Shared).TypeIs (.ref C) "type":=⟨_,hC,rfl⟩;refine Li (codeAny_of_tree ?_);show wpAny _ _ (callAny (.ref C) _) _ _ _
 repeat (any_goals (first | assumption | with_reducible refine Lg hC ?_ | wp_step))
 exact⟨rfl,codeAny_call_builtin_at (MF _ (by decide+kernel)) entry_typeCall (wpAny_check_type_call_sub hC (rZ F x hz hq))⟩
end
def ZT(g base:Heap)(e:Addr)(cl:Value)(dc:Option Addr)(fl:Value):Prop:=
 ∃oe vs T oT ts,g.get? e=some oe/\(oe.cls=cl/\oe.dict=dc)/\oe.data=.fields vs/\vs[1]?=some (.ref T)/\base.get? T=none/\T≠e/\g.get? T=some oT/\oT.data=.fields ts/\ts[3]?=some fl
def Ex(base:Heap)(l:List Env)(e:Addr)(cl:Value)(dc:Option Addr)(fl:Value)(g g':Heap):Prop:=base.StaysIn g'/\g'.FunFrames base l/\ZT g' base e cl dc fl/\g.UpToSlots g'
def vg(base:Heap)(l:List Env)(e:Addr)(cl:Value)(dc:Option Addr)(fl:Value)(g:Heap):Prop:=base.StaysIn g/\base.get? e=none/\g.FunFrames base l/\ZT g base e cl dc fl
theorem fL{e b:Addr}{oe o:Obj}(he:g.get? e=some oe)(hd:oe.data=.fields vs)(hb:g.get? b=some o)(n:∀ws,o.data≠.fields ws):b≠e:=λz=>by
 subst z;rw[he]at hb;cases hb
 exact n vs hd
theorem uf(f:Array Value->Array Value)(o:Obj):(Obj.mapFields f o).dict=o.dict:=by
 obtain⟨c,d,dt,sl⟩:=o;cases dt<;>rfl
section
variable{M:Model}{A:Around}{E:Value->Shared->Prop}{s:Shared}{base:Heap}{env:Env}{outer l:List Env}{L e:Addr}{cl fl:Value}{dc:Option Addr}{Q:Unit->Shared->Prop}
theorem Ej(O4:A.frames=some (env::outer))(hl:s.heap.FunFrames base (env::outer))(hf:env.frame=some L)
  (he:s.heap.get? e=some oe)(kb:base.StaysIn s.heap)(en:base.get? e=none)(hd:oe.data=.fields vs)(z1:1<vs.size)(k:∀g',Ex base (env::outer) e oe.cls oe.dict (rawInt L) s.heap g'->Q () {s with heap:=g' }) :
  wpAny M A (do let a <- frameOf env;let pl <- entryPlaceOf L more;let b <- EntryCells.newEntry hd0 a .none (rawInt L) .none pl;setField (.ref e) 1 b) Q E s:=by
 have nf:e ∉ (env::outer).filterMap (·.frame):=λhm=>by
  obtain⟨_,o,ho,n⟩:=hl.mem hm;exact fL he hd ho n rfl
 refine b6 (wpAny_frameOf_fun O4 hl hf λg1 sm=>b6 (wpAny_entryPlaceOf λpl NR=>?_));unfold EntryCells.newEntry newFields;refine b6 (C4 ?_ (NR.sizeOk5 _ _ _ _ _));have a1:g1.get? e=some oe:=(sm.2.1 e nf).trans he;have b1:base.StaysIn g1:=λb o z=>(sm.2.1 b λhm=>by rw[(hl.mem hm).1]at z;cases z).trans (kb b o z)
 have a2:=e9 (h:=g1) {cls:=.type "traceback",dict:=none,data:=.fields ([hd0,.ref L,.none,rawInt L,.none]++(if pl.isEmpty then List.replicate 6 Value.none else pl)).toArray} a1;refine J1 a2 hd z1 (k _ ?_);have ne:g1.objs.size≠e:=D9 (f9 a1);have d3:=E2 hd (·.setIfInBounds 1 (Value.ref g1.objs.size));have a3:=C2 (Obj.mapFields (·.setIfInBounds 1 (Value.ref g1.objs.size))) a2 (K6 d3)
 have t3:=(A3 (g1.push {cls:=.type "traceback",dict:=none,data:=.fields ([hd0,.ref L,.none,rawInt L,.none]++(if pl.isEmpty then List.replicate 6 Value.none else pl)).toArray})
  (Obj.mapFields (·.setIfInBounds 1 (Value.ref g1.objs.size))) (B8 ne)).trans (g7 g1 rfl)
 have stay:∀b o,b≠e->g1.get? b=some o->((g1.push {cls:=.type "traceback",dict:=none,data:=.fields ([hd0,.ref L,.none,rawInt L,.none]++(if pl.isEmpty then List.replicate 6 Value.none else pl)).toArray}).update e
   (Obj.mapFields (·.setIfInBounds 1 (Value.ref g1.objs.size)))).get? b=some o:=λb o z hb=>by
  rw[A3 _ _ (B8 z)];exact e9 _ hb
 refine⟨λb o z=>stay b o (λq=>by rw[q,en]at z;cases z) (b1 b o z),hl.of_keeps λb o hb n=>?_,?_,λb o hb n=>?_⟩
 .obtain⟨sl,z⟩:=sm.2.2 b o hb;exact⟨_,stay b _ (fL he hd hb n) z,rfl⟩
 .exact⟨_,_,g1.objs.size,_,_,a3,⟨MW _ _,uf _ _⟩,d3,by simp[z1],b1.fresh,ne,t3,rfl,by first | (simp;done) | (rcases NR with rfl | ⟨_,_,_,_,_,_,_,rfl⟩<;>simp)⟩
 .obtain⟨sl,z⟩:=sm.2.2 b o hb;exact⟨sl,stay b _ (fL he hd hb n) z⟩
theorem AN(kb:base.StaysIn s.heap)(hl:s.heap.FunFrames base l)(ht:ZT s.heap base e cl dc fl)(k:∀g',Ex base l e cl dc .none s.heap g'->Q () {s with heap:=g' }):wpAny M A (setFlight (.ref e) none) Q E s:=by
 obtain⟨oe,vs,T,oT,ts,he,hc,hd,h1,nT,ne,hT,dT,h3⟩:=ht;have z3:3<ts.size:=(C7.mp h3).1;have other:∀b,b≠T->(s.heap.update T (Obj.mapFields (·.setIfInBounds 3 ((none:Option Addr).elim Value.none λf=>rawInt f)))).get? b=s.heap.get? b:=λb z=>A3 _ _ (B8 z);unfold setFlight;refine b6 (B1 he hd h1 ?_);rw[k9 (show(Value.ref T != Value.none)=true by simp)];refine J1 hT dT z3 (k _ ⟨λb o z=>(other b λq=>by rw[q,nT]at z;cases z).trans (kb b o z),hl.of_keeps λb o hb n=>⟨o,(other b (fL hT dT hb n)).trans hb,rfl⟩,?_,λb o hb n=>⟨o.slots,(other b (fL hT dT hb n)).trans hb⟩⟩)
 exact⟨oe,vs,T,_,_,(other e (B8 ne)).trans he,hc,hd,h1,nT,ne,C2 _ hT (K6 (E2 dT _)),E2 dT _,by simp[z3]⟩
theorem zF(O4:A.frames=some (env::outer))(hl:s.heap.FunFrames base (env::outer))(hf:env.frame=some L)(he:s.heap.get? e=some oe)(kb:base.StaysIn s.heap)(en:base.get? e=none)
  (hd:oe.data=.fields vs)(h1:vs[1]?=some .none)(k:∀g',Ex base (env::outer) e oe.cls oe.dict (rawInt L) s.heap g'->Q () {s with heap:=g' }):wpAny M A (noteFrame (.ref e) env) Q E s:=by
 unfold noteFrame;simp only[hf];refine b6 (B1 he hd h1 ?_);rw[h9 (by decide)];exact Ej O4 hl hf he kb en hd (C7.mp h1).1 k
theorem tO(O4:A.frames=some (env::outer))(hl:s.heap.FunFrames base (env::outer))(hf:env.frame=some L)(ht:ZT s.heap base e cl dc .none)(kb:base.StaysIn s.heap)(en:base.get? e=none)
  (k:∀g',Ex base (env::outer) e cl dc (rawInt L) s.heap g'->Q () {s with heap:=g' }):wpAny M A (noteFrame (.ref e) env) Q E s:=by
 obtain⟨oe,vs,T,oT,ts,he,⟨rfl,rfl⟩,hd,h1,nT,ne,hT,dT,h3⟩:=ht;unfold noteFrame;simp only[hf];refine b6 (B1 he hd h1 ?_);rw[k9 (show(Value.ref T != Value.none)=true by simp)];refine b6 (B1 hT dT h3 ?_);rw[h9 (show ¬((Value.none==rawInt L)=true) by simp[rawInt])];refine b6 (J1 hT dT (C7.mp h3).1 ?_);have other:∀b,b≠T->(s.heap.update T (Obj.mapFields (·.setIfInBounds 3 Value.none))).get? b=s.heap.get? b:=λb z=>A3 _ _ (B8 z);refine Ej O4 (hl.of_keeps λb o hb n=>⟨o,(other b (fL hT dT hb n)).trans hb,rfl⟩) hf ((other e (B8 ne)).trans he) (λb o z=>(other b λq=>by rw[q,nT]at z;cases z).trans (kb b o z)) en hd (C7.mp h1).1 λg' x=>k g' ?_
 exact⟨x.1,x.2.1,x.2.2.1,λb o hb n=>x.2.2.2 b o ((other b (fL hT dT hb n)).trans hb) n⟩
theorem xN(O4:A.frames=some (env::outer))(hl:s.heap.FunFrames base (env::outer))(hf:env.frame=some L)(he:s.heap.get? e=some oe)(kb:base.StaysIn s.heap)(en:base.get? e=none)
  (hd:oe.data=.fields vs)(h1:vs[1]?=some .none)(k:∀g',vg base outer e oe.cls oe.dict .none g'->s.heap.UpToSlots g'->Q () {s with heap:=g' }):wpAny M A («leaving» env (.ref e)) Q E s:=by
 unfold «leaving»;refine b6 (zF O4 hl hf he kb en hd h1 λg1 zz=>?_);obtain⟨k1,k2,k3,k4⟩:=zz;refine AN (s:={s with heap:=g1}) k1 k2 k3 λg2 zz=>?_
 obtain⟨j1,⟨_,_,j2⟩,j3,j4⟩:=zz;exact k g2 ⟨j1,en,j2,j3⟩ (k4.trans j4)
theorem zS(O4:A.frames=some (env::outer))(hf:env.frame=some L)(x:vg base (env::outer) e cl dc .none s.heap)(k:∀g',vg base outer e cl dc .none g'->s.heap.UpToSlots g'->Q () {s with heap:=g' }):wpAny M A («leaving» env (.ref e)) Q E s:=by
 obtain⟨f1,f2,f3,f4⟩:=x;unfold «leaving»;refine b6 (tO O4 f3 hf f4 f1 f2 λg1 zz=>?_);obtain⟨k1,k2,k3,k4⟩:=zz;refine AN (s:={s with heap:=g1}) k1 k2 k3 λg2 zz=>?_
 obtain⟨j1,⟨_,_,j2⟩,j3,j4⟩:=zz;exact k g2 ⟨j1,f2,j2,j3⟩ (k4.trans j4)
theorem looked(O4:A.frames=some (env::outer))(hf:env.frame=some L)(x:vg base (env::outer) e cl dc .none s.heap)(k:∀g',vg base (env::outer) e cl dc (rawInt L) g'->s.heap.UpToSlots g'->Q () {s with heap:=g' }):wpAny M A (noteFrame (.ref e) env) Q E s:=by
 obtain⟨f1,f2,f3,f4⟩:=x;refine tO O4 f3 hf f4 f1 f2 λg1 zz=>?_;obtain⟨k1,k2,k3,k4⟩:=zz;exact k g1 ⟨k1,f2,k2,k3⟩ k4
theorem landed(x:vg base l e cl dc fl s.heap)(k:∀g',vg base l e cl dc .none g'->s.heap.UpToSlots g'->Q () {s with heap:=g' }):wpAny M A (setFlight (.ref e) none) Q E s:=by
 obtain⟨f1,f2,f3,f4⟩:=x;refine AN f1 f3 f4 λg1 zz=>?_;obtain⟨k1,k2,k3,k4⟩:=zz;exact k g1 ⟨k1,f2,k2,k3⟩ k4
end
open PySem.Builtin PySem.Builtin.ObjectAttr
noncomputable def zu:List Value->Bool
 | []=>false
 | v::r=>(v::r==bmV) || (match v with | .ref _=>zu r | _=>false)
theorem oh(self:Value):∀{l:List Value},zu l=true->refuseLoop self "__setattr__" l=pure ()
 | [],e=>by cases e
 | v::r,e=>by
  rcases(Bool.or_eq_true _ _).mp e with z | z
  .rw[D4.mp z];exact PySem.F.store_ValueError.passes self
  .cases v with
   | ref c=>rw[refuseLoop_ref];exact oh self z
   | _=>cases z
structure mj(K:Frag)(C:Addr):Prop where
 ex:∃cd,clsIn K C=some cd/\zu cd.mro=true/\cd.hasDict=true
 sa:findIn K (.ref C) "__setattr__"=some (some (.builtin "object.__setattr__"))
 ec:jg K C
section
variable{prog:Program}{w:World}{A:Around}{s:Shared}{K:Frag}{x C:Addr}{ox:Obj}{od:Option Obj}{name:Str}{v:Value}
theorem Sh(X:K.In s.heap)(c:mj K C)(I:W.InstAt s.heap x ox C od)(ha:bh K C name)
  (h:wpAny (model prog w) A.in1 (storeInOwnDict (.ref x) (.ref C) (.str name tk) name v false)
   (λfin s'=>match fin with | .done f=>R (.ok f) s' | .again c'=>c'.quiet=true/\codeAny (model prog w) A c' R s') (λe s'=>R (.error e) s') s) :
  codeAny (model prog w) A (.call (.builtin "object.__setattr__") ⟨[.ref x,.str name tk,v],[]⟩) R s:=by
 obtain⟨cd,hc,ho,_⟩:=c.ex;have SF:=PySem.F.store_object;have T:=I.type (M:=model prog w);have inst:Looks (model prog w) s.heap (isInstance (.ref x) (.type "object")) true:=T.andThen (Mh X c.ec.hm);have mro:Looks (model prog w) s.heap (mroOf (.ref C)) cd.mro:=(looks_clsIn X hc).andThen .now;refine G6 SF.slot.plain SF.entry (check_slot (M:=model prog w) (s:=s) (i:="object.__setattr__") (owner:="object") (n:="__setattr__") (self:=.ref x) (rest:=[.str name tk,v]) (kw:=[]) SF.kind SF.split inst (SF.args (.ref x) (.str name tk) v) ?_);rw[osa_eq,refuse_eq];refine b6 (b6 (T.here (b6 (mro.here ?_))));rw[oh _ ho];exact f6 (b6 (T.here (b6 ((LU X (show findIn K (.ref C) name=some none from ha)).here (b6 (f6 h))))))
theorem We(X:K.In s.heap)(c:mj K C)(hx:s.heap.get? x=some ox)(O5:ox.cls=.ref C)(nc:notCls ox=true)(hd:ox.dict=some dx)(ne:dx≠x)(VR:s.heap.Ns1 dx mA)(ha:bh K C name)
  (hw:PySem.Within mA ns)(hsz:ns.length<=sizeLine)(h:∀h',h'.Ns1 dx (λy=>if y=name then some v else mA y)->Heap.SameBut dx s.heap h'->Q () {s with heap:=h',toks:=s.toks+2}) :
  wpAny (model prog w) A (setAttr (.ref x) name v) Q E s:=by
 obtain⟨ob,ho,_⟩:=qf VR;have I:W.InstAt s.heap x ox C (some ob):=⟨hx,O5,nc,by rw[hd];exact ho⟩;refine set_plain X I c.sa (Sh (s:={s with toks:=s.toks+1}) X c I ha ?_)
 obtain⟨cd,hc,_,X2⟩:=c.ex;obtain⟨oc,odi,oda,N7⟩:=ox;dsimp only at O5 hd;subst O5 hd;refine b6 (f6 (b6 (b6 (LQ hx (b6 (W.Looks.here (s:={s with toks:=s.toks+1}) (looks_clsIn X hc) ?_))))))
 rw[X2];refine f6 (a:=some dx) (b6 (f6 (b6 ?_)));refine wpAny_nsSet1 (s:={s with toks:=s.toks+1}) VR λh2 Pd Od=>?_
 obtain⟨oD,esD,epD,XR,X3,X5⟩:=Pd.count (MR name v hw);refine b6 (M6 XR (by rw[X3];exact M7 (h8 X5 (by rw[k8];omega))) ?_);exact f6 (h _ Pd Od)
theorem Tf(X:K.In s.heap)(c:mj K C)(hx:s.heap.get? x=some ox)(O5:ox.cls=.ref C)(UK:∃vs,ox.data=.fields vs)(hd:ox.dict=none)(ha:bh K C name)
  (h:∀h',h'.get? x=some {ox with dict:=some s.heap.objs.size}->h'.Ns1 s.heap.objs.size (λy=>if y=name then some v else none)->(∀b o,b≠x->s.heap.get? b=some o->h'.get? b=some o)->Q () {s with heap:=h',toks:=s.toks+2}) :
  wpAny (model prog w) A (setAttr (.ref x) name v) Q E s:=by
 obtain⟨vs,UK⟩:=UK;have I:W.InstAt s.heap x ox C none:=⟨hx,O5,by unfold notCls;rw[UK],by rw[hd];exact True.intro⟩;refine set_plain X I c.sa (Sh (s:={s with toks:=s.toks+1}) X c I ha ?_)
 obtain⟨cd,hc,_,X2⟩:=c.ex;obtain⟨oc,odi,oda,N7⟩:=ox;dsimp only at O5 hd UK;subst O5 hd UK;have lt:=f9 hx;have e1:(s.heap.push {cls:=.type "dict",data:=.dict #[] }).get? x=some ⟨.ref C,none,.fields vs,N7⟩:=e9 _ hx;refine b6 (f6 (b6 (b6 (LQ hx (b6 (W.Looks.here (s:={s with toks:=s.toks+1}) (looks_clsIn X hc) ?_))))))
 rw[X2]
 have go:wpAny (model prog w) A.in1 (do let d <- alloc {cls:=.type "dict",data:=.dict #[] };update x λo=>{o with dict:=some d};dictMade (.ref C) x d)
   (λr s1=>∃h1,r=some s.heap.objs.size/\s1={s with heap:=h1,toks:=s.toks+1}/\h1.get? x=some ⟨.ref C,some s.heap.objs.size,.fields vs,N7⟩/\h1.Ns s.heap.objs.size (λ_=>none)/\∀b o,b≠x->s.heap.get? b=some o->h1.get? b=some o) (λ_ _=>False) {s with toks:=s.toks+1}:=by
  refine b6 (wpAny_alloc' (b6 (wpAny_update' e1 (f6 ⟨_,rfl,rfl,?_,?_,?_⟩))))
  .exact C2 _ e1 rfl
  .exact⟨_,#[],_,(Heap.get?_update_ne _ _ _ _ (D9 lt)).trans (Heap.get?_push_at rfl rfl),rfl,(λe z=>absurd z (by simp)),λ_=>rfl⟩
  .exact λb o nb z=>(Heap.get?_update_ne _ _ _ _ nb).trans (e9 _ z)
 change wpAny (model prog w) A.in1 (do let d <- alloc {cls:=.type "dict",data:=.dict #[] };update x λo=>{o with dict:=some d};dictMade (.ref C) x d) _ _ _
 refine v8 go (λr s1 z=>?_) (λ_ _ z=>z.elim);obtain⟨h1,rfl,rfl,gx,gn,gk⟩:=z;show wpAny _ _ (storeInDict s.heap.objs.size (.str name s.toks) name v) _ _ _;unfold storeInDict newKeyGuard;refine b6 (f6 (b6 (wpAny_nsSet1 (s:={s with heap:=h1,toks:=s.toks+1}) (Heap.Ns1.of_empty gn) λh2 Pd Od=>?_)))
 obtain⟨oD,esD,epD,XR,X3,X5⟩:=Pd.count (MR name v PySem.Within.nil);refine b6 (M6 XR (by rw[X3];exact M7 (h8 X5 (by rw[k8,D3,F3];omega))) ?_);refine f6 (h _ ((Od.2 x (v3 lt)).trans gx) Pd λb o nb z=>(Od.2 b (v3 (f9 z))).trans (gk b o nb z))
end
def hX(e C:Addr)(dc:Option Addr)(h:Heap):Prop:=∃t,h.get? e=some {cls:=.ref C,dict:=dc,data:=.fields #[.ref t,.none,.none,.none,.bool false,.none] }
def cP(d:Addr)(fs:List (Str×V))(h:Heap):Prop:=∃mA,h.Ns1 d mA/\(∀f,jM (fs.lookup f) (mA f))/\PySem.Within mA (fs.map (·.1))/\fs.length<=100
def mh(e C:Addr)(dc:Option Addr)(h:Heap):Prop:=∃o vs,h.get? e=some o/\o.cls=.ref C/\o.dict=dc/\o.data=.fields vs
theorem hX.stay{e C:Addr}(x:hX e C dc h1)(k:∀o,h1.get? e=some o->h2.get? e=some o):hX e C dc h2:=let ⟨t,z⟩:=x;⟨t,k _ z⟩
theorem mh.stay{e C:Addr}(x:mh e C dc h1)(k:∀o,h1.get? e=some o->h2.get? e=some o):mh e C dc h2:=let ⟨o,vs,z,r⟩:=x;⟨o,vs,k _ z,r⟩
theorem cP.stay{d:Addr}{fs:List (Str×V)}(x:cP d fs h1)(k:∀o,h1.get? d=some o->h2.get? d=some o):cP d fs h2:=by
 obtain⟨mA,⟨od,es,ep,e,c⟩,r⟩:=x;exact⟨mA,⟨od,es,ep,k _ e,c⟩,r⟩
theorem cP.there{d:Addr}{fs:List (Str×V)}(x:cP d fs h):∃o,h.get? d=some o:=by
 obtain⟨mA,⟨od,es,ep,e,c⟩,r⟩:=x;exact⟨_,e⟩
section
variable{P:Program}{w:World}{H:Hp}{h:Heap}{e C d:Addr}{dc:Option Addr}{fs:List (Str×V)}
theorem Dg(x:hX e C dc h):bj P w H h e (.ext (hX e C dc)):=⟨x,let ⟨_,z⟩:=x;⟨_,z⟩,λ_ _ a k=>a.stay k⟩
theorem HB(x:cP d fs h):bj P w H h d (.ext (cP d fs)):=⟨x,x.there,λ_ _ a k=>a.stay k⟩
end
theorem vq{d:Addr}{fs:List (Str×V)}{h:Heap}{f:Str}{y:V}(r:∀g,jM (fs.lookup g) (mA g))(wi:PySem.Within mA (fs.map (·.1)))(z:fs.length<100)(ry:RelV y u)
  (n:h'.Ns1 d (λg=>if g=f then some u else mA g)):cP d (iH f y fs) h':=by
 refine⟨_,n,λg=>?_,λg hg=>?_,?_⟩
 .show jM ((iH f y fs).lookup g) (if g=f then some u else mA g);rw[kZ]
  by_cases q:g=f
  .rw[k9 q,k9 q];exact ry
  .rw[h9 q,h9 q];exact r g
 .by_cases q:g=f
  .rw[q];exact(jH f y fs).1
  .exact(jH f y fs).2 g (wi g λz=>hg (by show(if g=f then some u else mA g)=none;rw[h9 q];exact z))
 .have:=lg f y fs;omega
section
variable{X:Cx}{Nn:List (Addr×Obj)}{σ:St}{H:Hp}{s:Shared}{a C d:Addr}{fs:List (Str×V)}{f:Str}{y:V}{u:Value}{A:Around}{E:Value->Shared->Prop}{Q:Unit->Shared->Prop}
theorem P9(I:Inv X Nn σ H s)(ea:H a=some (.ext (hX a C (some d))))(ed:H d=some (.ext (cP d fs)))(ne:d≠a)(c:mj X.K C)(n:bh X.K C f)(hl:fs.length<100)(ry:RelV y u)
  (h:∀s',Inv X Nn σ (upd H d (.ext (cP d (iH f y fs)))) s'->Q () s'):wpAny (model X.prog X.w) A (setAttr (.ref a) f u) Q E s:=by
 obtain⟨⟨t,gx⟩,_,_⟩:=(show bj X.prog X.w H s.heap a (.ext (hX a C (some d))) from I.hok a _ ea);obtain⟨⟨mA,VR,r,wi,_⟩,_,_⟩:=(show bj X.prog X.w H s.heap d (.ext (cP d fs)) from I.hok d _ ed);refine We I.kIn c gx rfl rfl rfl ne VR n wi (by rw[g6,F3];omega) λh' n' sb=>h _ ?_;have x':=vq (d:=d) (h:=s.heap) r wi hl ry n';exact I.write (x:=d) (e:=d) (by rw[ed];exact True.intro) (.inl rfl) (λb q hb z=>(sb.2 b hb).trans z) x'.there (HB x')
theorem HA(I:Inv X Nn σ H s)(ea:H a=some (.ext (hX a C none)))(c:mj X.K C)(n:bh X.K C f)(ry:RelV y u)
  (hL:∀b,s.heap.objs.size<=b->b≠X.env.locals/\(∀x c,X.env.cells.lookup x=some c->c≠b)/\(∀p∈X.pn++Nn,p.1≠b)/\X.s₀.heap.get? b=none)
  (h:∀s' b,H b=none->Inv X Nn σ (upd (upd H a (.ext (hX a C (some b)))) b (.ext (cP b [(f,y)]))) s'->Q () s'):wpAny (model X.prog X.w) A (setAttr (.ref a) f u) Q E s:=by
 obtain⟨⟨t,gx⟩,_,_⟩:=(show bj X.prog X.w H s.heap a (.ext (hX a C none)) from I.hok a _ ea);refine Tf I.kIn c gx rfl ⟨_,rfl⟩ rfl n λh' g' n' kp=>?_;have fr:H s.heap.objs.size=none:=I.hok.fresh (f7 _);have ne:s.heap.objs.size≠a:=λz=>by rw[z,ea]at fr;cases fr
 have x':cP s.heap.objs.size [(f,y)] h':=vq (fs:=[]) (h:=s.heap) (mA:=λ_=>none) (λ_=>True.intro) (λg z=>absurd rfl z) (by decide) ry n'
 have I1:Inv X Nn σ (upd H a (.ext (hX a C (some s.heap.objs.size)))) {s with heap:=h',toks:=s.toks+2}:=
  I.write (x:=a) (e:=a) (by rw[ea];exact True.intro) (.inl rfl) (λb q hb z=>kp b q hb z) ⟨_,g'⟩ (Dg ⟨t,g'⟩)
 obtain⟨l1,l2,l3,l4⟩:=hL _ (f7 _);exact h _ s.heap.objs.size fr (I1.track (by rw[aj ne];exact fr) l4 l1 l2 l3 x' x'.there λ_ _ z k=>z.stay k)
end
theorem Inv.above(I:Inv X Nn σ H s):∀b,s.heap.objs.size<=b->b≠X.env.locals/\(∀x c,X.env.cells.lookup x=some c->c≠b)/\(∀p∈X.pn++Nn,p.1≠b)/\X.s₀.heap.get? b=none:=λb hb=>by
 have no:∀o,s.heap.get? b=some o->False:=λo z=>absurd (f9 z) (Nat.not_lt.mpr hb);refine⟨λz=>?_,λx c k q=>?_,λp hp q=>?_,?_⟩
 .obtain⟨mm,⟨o,_,_,g,_⟩,_⟩:=I.loc;rw[<- z]at g;exact no _ g
 .obtain⟨v,o,g,_⟩:=I.cell x c k;rw[q]at g;exact no _ g
 .obtain⟨g,_⟩:=I.pin p hp;rw[q]at g;exact no _ g
 .exact Me (h8 I.sz hb)
def WT(K:Frag)(ta tv:TE)(f:Str):TS:=λD σ H=>tv σ H λy H1=>ta σ H1 λx H2=>∃a C,x=.ref a/\mj K C/\bh K C f/\
 (
 (H2 a=some (.ext (hX a C none))/\∀d,H2 d=none->D.nx σ (upd (upd H2 a (.ext (hX a C (some d)))) d (.ext (cP d [(f,y)]))))\/
 ∃d fs,H2 a=some (.ext (hX a C (some d)))/\H2 d=some (.ext (cP d fs))/\d≠a/\fs.length<100/\D.nx σ (upd H2 d (.ext (cP d (iH f y fs)))))
theorem xA{value:Expr}{f:Str}{pos':Pos}{ta tv:TE}(ha:PE X o ta)(hv:PE X value tv)(hs:swapsWith value (some (.Attribute o f pos')) pos.line X.env=pure false):PS X (.Assign [.Attribute o f pos'] value pos) (WT X.K ta tv f):=by
 intro Nn s σ H D I h;refine L7 (Nr (hv Nn s σ H _ I h) λu s1 zz=>?_) hs;obtain⟨y,H1,I1,ry,q⟩:=zz;refine Nr (ha Nn s1 σ H1 _ I1 q) λov s2 zz=>?_;obtain⟨x,H2,I2,rx,a,C,ex,c,n,q2⟩:=zz;subst ex;cases(show ov=Value.ref a from rx)
 rcases q2 with⟨ea,q2⟩ | ⟨d,fs,ea,ed,ne,l,q2⟩
 .exact HA I2 ea c n ry I2.above λs3 b hb I3=>⟨σ,_,I3,q2 b hb⟩
 .exact P9 I2 ea ed ne c n l ry λs3 I3=>⟨σ,_,I3,q2⟩
noncomputable def lC(K:Frag)(C:Addr)(bmB:List Value)(newId:String)(fI:Addr):Bool:=match K.lookup C with
 | some ⟨.type "type",_,.cls cl,sl⟩=>(match cl.mro,sl.toList with
  | .ref C1::bm,[_,_,_,_,some (.builtin i),_]=>(C1==C && i==newId && !cl.hasDel && tailIn K bmB bm) && (nsOkIn K cl.ns && nsIn K cl.ns "__init__" == some (some (.ref fI)) && isFn K (.ref fI))
  | _,_=>false)
 | _=>false
theorem BM{m:Str->Option Value}{n:Str}(X:K.In h)(G:h.Ns N m)(q:nsIn K N n=some (some v)):m n=some v:=by
 obtain⟨o,es,ep,ho,hd,_,hf⟩:=G;unfold nsIn at q;split at q
 .rename_i z;have e:=X _ _ z;rw[ho]at e;cases e
  cases hd
  split at q
  .rename_i en he;cases q
   rw[<- hf];unfold nsFind findBy;rw[<- Array.find?_toList,he];rfl
  .split at q<;>cases q
 .cases q
theorem HC{C fI:Addr}(X:K.In h)(q:lC K C bmB newId fI=true):ZU h C bmB newId fI:=by
 unfold lC at q;split at q
 .rename_i d0 c0 WQ lk;split at q
  .rename_i C1 bm1 j0 j1 j2 j3 n1 j5 em es;simp only[Bool.not_eq_true',D4,t7]at q;obtain⟨⟨⟨⟨e1,e2⟩,Ox⟩,tl⟩,⟨ok,ni⟩,fn⟩:=q;subst e1 e2;obtain⟨nm1,bs1,mro1,ns1,qn1,hd1,sn1,sub1,ab1,col1,del1⟩:=c0;dsimp only at em Ox ok ni;subst em Ox
   have esl:WQ=#[j0,j1,j2,j3,some (.builtin n1),j5]:=by
    obtain⟨l0⟩:=WQ;simp only at es;rw[es]
   subst esl;have G:h.Ns ns1 (h.nsMap ns1):=.of_isNs (isNs_of_in X ok);obtain⟨ob,ho,hc⟩:=F0.mp (show typeIn K (.ref fI)=some (.type "function") from D4.mp fn);exact⟨_,_,_,_,_,_,_,_,_,_,_,_,_,_,_,_,_,ob,X _ _ lk,G,BM X G ni,tail_of_in X tl,X _ _ ho,hc⟩
  .cases q
 .cases q
section
variable{X:Cx}{k:Nat}{f C:Addr}{fd:FuncData}{ps:List Str}{sp:Sp}{x:Str}{p pos:Pos}{e:Expr}{es:List Expr}{t:TA}
theorem Br{R:Hp->Prop}{vs:List V}(F:gS X.prog X.w X.K X.mg X.base CX0 k f fd ps sp)(xi:lC X.K C bmV "ValueError.__new__" f=true)(hr:bX (k+1) X.A)(hb:Binds X.K fd ps [])
  (I:Inv X Nn σ H s)(r:Vals vs us)(hz:vs.length<=1000)(q:sp (.ref (s.heap.objs.size+1)::vs) (upd H (s.heap.objs.size+1) (.ext (hX (s.heap.objs.size+1) C none))) (λv H2=>v=.non/\R H2) E0):wpAny (model X.prog X.w) X.A (call (.ref C) us) (λu s'=>u=.ref (s.heap.objs.size+1)/\∃H',Inv X Nn σ H' s'/\R H') X.xe s:=by
 have lz:us.length<=sizeLine:=by rw[<- r.length,F3];omega
 have I1:Inv X Nn σ (upd H (s.heap.objs.size+1) (.ext (hX (s.heap.objs.size+1) C none))) {s with heap:=withExc s.heap C us,toks:=s.toks}:=
  I.laid (λb o z=>dU us z) (J3 _) (Dg ⟨_,rW us⟩)
 have r1:Vals (V.ref (s.heap.objs.size+1)::vs) (Value.ref (s.heap.objs.size+1)::us):=.cons rfl r;have hl:(Value.ref (s.heap.objs.size+1)::us).length=ps.length:=by rw[<- r1.length];exact F.len _ _ _ _ q
 have ZS:=hb {s with heap:=withExc s.heap C us,toks:=s.toks} (Value.ref (s.heap.objs.size+1)::us) I1.kIn (by rw[A6];exact hl)
 rw[A6]at ZS;obtain⟨hh,g,d,tk,os⟩:=s;refine GK PySem.F.excBase_ValueError (HC I.kIn xi) lz ?_;refine Li (J5 (F.run _ X.stack _ _ ⟨_,[]⟩ _ _ _ E0 (hr.make C us []) (I1.env0.make C us []) ZS r1 q) λres s1 hq=>?_);cases res with
 | error ex=>exact hq.elim
 | ok fl =>
  cases fl with
  | ret u =>
   obtain⟨v,H2,I2,rv,ev,q2⟩:=I1.after hq;subst ev;exact⟨rv,rfl,H2,I2,q2⟩
  | next=>exact False.elim hq
  | brk=>exact False.elim hq
  | cont=>exact False.elim hq
end
theorem x_raise(NY:bmB.contains (.type "BaseException")=true)(hh:A.handled=none)
  (h:wpAny (model prog w) A (eval ex env) (λv s₁=>∃e dc,v=.ref e/\(∃fI,ZU s₁.heap C bmB newId fI)/\hX e C dc s₁.heap/\E (.ref e) s₁) E s):wpAny (model prog w) A (exec (.Raise (some ex) none pos) env) Q E s:=by
 rw[arm_exec_Raise];refine b6 (Mb ?_);show wpAny _ _ (raiseStmt env (some (do let v <- eval ex env;standAt pos;pure v)) none) _ _ _;unfold raiseStmt;refine b6 (b6 (v8 h (λv s1 z=>b6 (Mb (f6 ?_))) λ_ _ z=>z));obtain⟨e,dc,rfl,⟨fI,nm,qn,N,bs,bm,hd,sn,sub,ab,col,dd,k0,k1,k2,k3,k5,mN,oI,gC,_,_,T,_,_⟩,⟨t,ge⟩,hE⟩:=z;have hcB:(Value.ref C::bm).contains (.type "BaseException")=true:=by rw[List.contains_cons,T.hasType NY,Bool.or_true]
 obtain⟨hp,g,d,tk,os⟩:=s1
 repeat (first | with_reducible refine Lg ge ?_ | with_reducible refine Lg gC ?_ | (with_reducible refine wpAny_isSubtype_exc gC ?_;rw[hcB]) | wp_step)
 exact wpAny_raiseNew_none hh hE
noncomputable def del(a:Addr)(H:Hp):Hp:=λb=>if b=a then none else H b
theorem oO:del a H a=none:=k9 rfl
theorem kh(n:b≠a):del a H b=H b:=h9 n
def KU(P:Program)(w:World)(outer:List Env)(H:Hp)(s:Shared)(ea:Addr)(C:Value)(dc:Option Addr)(H':Hp)(s':Shared):Prop:=∃B,
 s'.os=s.os/\AllBare s'.gens/\Un (NG outer) [] H H' s.heap s'.heap/\NP P w H' s'.heap/\vg B outer ea C dc .none s'.heap/\H' ea=none/\s.heap.get? ea=none/\
 ∀b o,s'.heap.get? b=some o->b ∉ NG outer->((∃u,H' b=some u)\/∃o',s.heap.get? b=some o')->B.get? b=some o
def NT(P:Program)(w:World):OZ:=λouter H s E e s'=>∃ea C dc H',e=.ref ea/\KU P w outer H s ea C dc H' s'/\E C dc H'
theorem W6:Passes (NT P w) X E0:=λ_ _ _ _ _ _ _ ⟨_,_,_,_,_,_,h⟩=>h.elim
section
variable{P:Program}{w:World}{K:W.Frag}{mg:Str->Option Value}{base:Heap}{N:List Str}{qual:Str}{scope:Scope}{f:Addr}{cd:Value}{A:Around}{outer:List Env}{s:Shared}{H:Hp}{E:XK}
theorem zT(I:Inv (bM (NT P w) P w K mg base N qual scope f cd A outer s H E) Nn σ H1 s₂)
  (hx:H1 ea=some (.ext (hX ea C dc)))(new:s.heap.get? ea=none)(q:E (.ref C) dc (del ea H1)):(bM (NT P w) P w K mg base N qual scope f cd A outer s H E).xe (.ref ea) s₂:=by
 have FR:∀b,b∈NG (envOfC qual scope s.heap.objs.size f cd::outer)->b=s.heap.objs.size\/b∈NG outer:=λb z=>j8.mp (I.stkSub b z);have hin:∀en∈(envOfC qual scope s.heap.objs.size f cd::outer),∀b,en.frame=some b->b∈ea::NG (envOfC qual scope s.heap.objs.size f cd::outer):=λen he b hb=>p8 _ (LL.mpr ⟨en,he,hb⟩);obtain⟨⟨t,ge⟩,_,_⟩:=(show bj P w H1 s₂.heap ea (.ext (hX ea C dc)) from I.hok ea _ hx);show wpAny (model P w) (A.deeper (envOfC qual scope s.heap.objs.size f cd)) («leaving» (envOfC qual scope s.heap.objs.size f cd) (.ref ea)) _ _ _;refine xN (base:=PySem.W.hideAll s₂.heap (ea::NG (envOfC qual scope s.heap.objs.size f cd::outer))) I.ok.frames (PySem.W.funFrames_hide I.stack hin) rfl ge (λb o z=>LJ _ z) (Md _ B5) rfl rfl λZL fl up=>?_
 have Pm:∀b u,H1 b=some u->b ∉ NG (envOfC qual scope s.heap.objs.size f cd::outer):=λb u e z=>by
  have:=I.stkFree b z;rw[e]at this;cases this
 have NV:∀b o,s₂.heap.get? b=some o->b≠ea->b ∉ NG (envOfC qual scope s.heap.objs.size f cd::outer)->ZL.get? b=some o:=λb o e z n =>
  fl.1 b o (E8 _ e λk=>(j8.mp k).elim z n)
 have Zv:∀b o,s.heap.get? b=some o->b≠ea:=λb o e z=>by rw[z,new]at e;cases e
 have OJ:∀b o,s.heap.get? b=some o->b ∉ NG outer->b ∉ NG (envOfC qual scope s.heap.objs.size f cd::outer):=λb o e n z =>
  (FR b z).elim (λz=>absurd (i5 (f9 e) I.ok.above) (by rw[z];exact y7 _)) n
 have NH:∀b o,s.heap.get? b=some o->∃o',s₂.heap.get? b=some o':=λb o e=>I.base.there b o e (λz=>nomatch z)
 have Ov:∀b o,s.heap.get? b=some o->b∈NG outer->∃sl,ZL.get? b=some {o with slots:=sl}:=λb o e hb=>by
  obtain⟨sl,e1⟩:=I.base.slot b o e (I.ok.frf b hb) hb (λz=>nomatch z);obtain⟨_,o',e2,nf⟩:=I.ok.funs.mem hb;have e3:some o'=some o:=e2.symm.trans e;cases e3
  obtain⟨Pp,e4⟩:=up b _ e1 nf;exact⟨Pp,e4⟩
 refine⟨ea,.ref C,dc,del ea H1,rfl,⟨_,I.os,I.bare,⟨?_,?_,?_,?_,?_,?_,?_⟩,?_,fl,oO,new,?_⟩,q⟩
 .exact λb o e n hb z=>NV b o (I.base.keep b o e n hb z) (Zv b o e) (OJ b o e hb)
 .exact λb o e n hb z=>Ov b o e hb
 .exact λb o e n z=>by rw[kh (Zv b o e)];exact I.base.free b o e n z
 .intro b o e z
  by_cases hb:b∈NG outer
  .obtain⟨sl,e1⟩:=Ov b o e hb;exact⟨_,e1⟩
  .obtain⟨o',e1⟩:=NH b o e;exact⟨o',NV b o' e1 (Zv b o e) (OJ b o e hb)⟩
 .intro b xs e;have z:=I.base.tups b xs e;rw[kh λk=>by rw[k,hx]at z;cases z]
  exact z
 .intro b o u e;have z:=I.base.frzs b o u e;rw[kh λk=>by rw[k,hx]at z;cases z]
  exact z
 .intro b ps e;obtain⟨m,z⟩:=I.base.tbls b ps e;exact⟨m,by rw[kh λk=>by rw[k,hx]at z;cases z];exact z⟩
 .intro b u e;have nb:b≠ea:=λz=>by rw[z,oO]at e;cases e
  rw[kh nb]at e;refine(I.hok b u e).stay (λc v hc e'=>?_) (λc z=>?_) λc xs z=>?_
  .have tc:∃v',H1 c=some v'/\c≠ea:=hc.elim (λz=>⟨u,by rw[z];exact e,by rw[z];exact nb⟩) λz=>⟨_,z,λk=>by rw[k,hx]at z;cases z⟩
   obtain⟨v',z1,z2⟩:=tc;exact NV c v e' z2 (Pm c v' z1)
  .rw[kh λk=>by rw[k,hx]at z;cases z]
   exact z
  .rw[kh λk=>by rw[k,hx]at z;cases z]
   exact z
 .intro b o e n hb
  have key:∃o2,s₂.heap.get? b=some o2/\b≠ea/\b ∉ NG (envOfC qual scope s.heap.objs.size f cd::outer):=by
   rcases hb with⟨u,hu⟩ | ⟨o',ho⟩
   .have nb:b≠ea:=λz=>by rw[z,oO]at hu;cases hu
    rw[kh nb]at hu;obtain⟨ob,e2⟩:=(I.hok b u hu).there;exact⟨ob,e2,nb,Pm b u hu⟩
   .obtain⟨o2,e2⟩:=NH b o' ho;exact⟨o2,e2,Zv b o' ho,OJ b o' ho n⟩
  obtain⟨o2,e2,n1,n2⟩:=key;have e3:=NV b o2 e2 n1 n2;rw[e]at e3;cases e3
  exact E8 _ e2 λk=>(j8.mp k).elim n1 n2
end
open PySem.Builtin.Getset_descriptor
theorem vg.got(x:vg base l e (.ref C) dc fl g):mh e C dc g:=by
 obtain⟨_,_,_,oe,vs,_,_,_,a,b,c,_⟩:=x;exact⟨oe,vs,a,b.1,b.2,c⟩
theorem mh.of(x:mh e C dc h):uy e C h:=let ⟨o,_,a,b,_⟩:=x;⟨o,a,b⟩
structure cq(P:Program)(w:World)(K:Frag)(mg:Str->Option Value)(base:Heap)(n:Nat)(x:Str)(ps:List Str)(sp:Sp):Prop where
 ex:∃(f:Addr)(fd:FuncData),gS P w K mg base (NT P w) n f fd ps sp/\Binds K fd ps []/\keepIn K (.ref f)=true/\mg x=some (.ref f)
theorem cm{P:Program}{w:World}{N:List Str}{k:Nat}(T:aA K mg x st)(S:ao N ps (ai st))
  (bd:∀kV doc pm an cdv ct us,us.length=ps.length->bindArgs (fnOf x x (df st) (aZ st) (ai st) .none kV doc pm an cdv ct) ⟨us,[]⟩=pure (ps.zip us))
  (len:∀vs H Q E,sp vs H Q E->vs.length=ps.length)
  (body:∀f cdv A outer s H vs Q E,bX k (A.deeper (envOfC x (ai st) s.heap.objs.size f cdv))->sp vs H Q E->
   ∃t,NU (bM (NT P w) P w K mg base N x (ai st) f cdv A outer s H E) (aZ st) t/\t {nx:=λ_ H'=>Q .non H',rt:=Q} (start N vs) H) :
  cq P w K mg base (k+1) x ps sp:=by
 obtain⟨f,fd,F,m⟩:=T.ex;obtain⟨oc,od,kV,doc,pm,an,cdv,ct,N7,rfl,lk,NZ⟩:=id F.ex;exact⟨f,_,Ef lk NZ S len λA outer s H vs Q E hr h=>body f cdv A outer s H vs Q E hr h,F.binds bd,F.kp,m⟩
section
variable{P:Program}{w:World}{K:W.Frag}{mg:Str->Option Value}{base:Heap}{N:List Str}{qual:Str}{scope:Scope}{f:Addr}{cd:Value}{A:Around}{outer:List Env}{s:Shared}{H:Hp}{E:XK}
theorem DW:Passes (NT P w) (bM (NT P w) P w K mg base N qual scope f cd A outer s H E) E:=by
 intro Nn σ H1 s1 e s' I hq;obtain⟨ea,C,dc,H2,rfl,⟨B,ho,ZH,un,hok,fl,h0,h1,RJ⟩,q⟩:=hq;have NH:∀b o,s.heap.get? b=some o->∃o',s1.heap.get? b=some o':=λb o z=>I.base.there b o z (λz=>nomatch z);show wpAny (model P w) (A.deeper (envOfC qual scope s.heap.objs.size f cd)) («leaving» (envOfC qual scope s.heap.objs.size f cd) (.ref ea)) _ _ _;refine zS I.ok.frames rfl fl λg fl2 up=>?_;have I2:Inv (bM (NT P w) P w K mg base N qual scope f cd A outer s H E) Nn σ H2 {s' with heap:=g,toks:=s'.toks}:=I.caught (C:=C) (ea:=ea) (t:=ea) ho ZH un hok RJ fl2.1 up
 have new:s.heap.get? ea=none:=by
  cases z:s.heap.get? ea with
  | none=>rfl
  | some o=>obtain⟨o',e'⟩:=NH ea o z;rw[h1]at e';cases e'
 refine⟨ea,C,dc,H2,rfl,⟨B,I2.os,I2.bare,I2.base,I2.hok,fl2,h0,new,λb o z n hb=>?_⟩,q⟩
 have nf:b ∉ NG (envOfC qual scope s.heap.objs.size f cd::outer):=λk=>by
  rcases hb with⟨u,hu⟩ | ⟨o',Oz⟩
  .have:=I2.stkFree b k;rw[hu]at this;cases this
  .exact(j8.mp (I.stkSub b k)).elim (λy=>absurd (i5 (f9 Oz) I.ok.above) (by rw[y];exact y7 _)) n
 have key:(∃o1,s'.heap.get? b=some o1)/\((∃u,H2 b=some u)\/∃o',s1.heap.get? b=some o'):=by
  rcases hb with⟨u,hu⟩ | ⟨o',Oz⟩
  .exact⟨(hok b u hu).there,.inl ⟨u,hu⟩⟩
  .obtain⟨o2,e2⟩:=NH b o' Oz;exact⟨un.there b o2 e2 (λz=>nomatch z),.inr ⟨o2,e2⟩⟩
 obtain⟨⟨o1,e1⟩,k2⟩:=key;have e2:=RJ b o1 e1 nf k2;have e3:=fl2.1 b o1 e2;have e4:some o=some o1:=z.symm.trans e3;cases e4
 exact e2
theorem bE{p:Pos}(D:cq P w K mg base n x ps sp)(hr:bX n (bM (NT P w) P w K mg base N qual scope f cd A outer s H E).A)(hg:Gl (bM (NT P w) P w K mg base N qual scope f cd A outer s H E) x)(ha:PA (bM (NT P w) P w K mg base N qual scope f cd A outer s H E) (e::es) t)
  (NO:(x==("__debug__":Str))=false:=by decide)(he:starEach (e::es) (envOfC qual scope s.heap.objs.size f cd)=(false,eval e (envOfC qual scope s.heap.objs.size f cd))::starEach es (envOfC qual scope s.heap.objs.size f cd):=by rfl)(NR:(backTo pos (starEach es (envOfC qual scope s.heap.objs.size f cd))).any (·.1)=false:=by rfl) :
  PE (bM (NT P w) P w K mg base N qual scope f cd A outer s H E) (.Call (.Name x p) (e::es) [] pos) (yA sp [] E t):=by
 obtain⟨g,fd,F,b,kp,m⟩:=D.ex;exact DV F hr hg m kp b .nil DW ha NO he NR
end
theorem Wf{w:World}{x C dx:Addr}{Q:Value->Shared->Prop}(X:K.In s.heap)(c:mj K C)(g:mh x C (some dx) s.heap)(n:s.heap.Ns1 dx mA)(ha:bh K C name)(hv:mA name=some v)(hh:handedIn v=true)(h:Q v {s with toks:=s.toks+1}) :
  wpAny (model prog w) A (getAttr (.ref x) name expr) Q E s:=by
 obtain⟨ox,vs,hx,O5,hdx,UK⟩:=g;obtain⟨od,ho,hl⟩:=qf n;have I:W.InstAt s.heap x ox C (some od):=⟨hx,O5,by unfold notCls;rw[UK],by rw[hdx];exact ho⟩;obtain⟨cd,hc,_,X2⟩:=c.ex;have hf:findObj K C (some od) name=some (.value v):=findObj_own (by unfold hasDictIn;rw[hc];exact X2) (show findIn K (.ref C) name=some none from ha) rfl (by rw[hl,hv]);obtain⟨hh',g,d,t,os⟩:=s;have L0:=I.type (M:=model prog w);have L1:=LU (M:=model prog w) X c.ec.ga;have L2:=LU (M:=model prog w) X c.ec.gt;have LB:=Mh (M:=model prog w) X c.ec.hb;have L3:=looks_find (M:=model prog w) X I hf;unfold getAttr getAttrBy;refine b6 (wpAny_mkText (D8 (b6 (L0.at (b6 (L1.at ?_))))));show wpAny _ _ (getAttrByItsOwn (.ref x) _ (.ref C) (.builtin "BaseException.__getattribute__") _ _) _ _ _;unfold getAttrByItsOwn;show wpAny _ _ (typeLookup (.ref C) "__getattr__" >>= _) _ _ _;refine b6 (L2.at ?_);refine b6 (E6 (D8 ?_));have FB:=(F.attrBase_ValueError).ga;have kd:builtinKind "BaseException.__getattribute__"=some .slot:=by decide+kernel
 have spl:splitId "BaseException.__getattribute__"=some ("BaseException","__getattribute__"):=by decide+kernel
 have ar:=F.args_bexc_ga (.ref x) (.str name t);rw[show callGetattribute (.ref x) (.str name t) (.builtin "BaseException.__getattribute__") expr=boundAndCalled (.builtin "BaseException.__getattribute__") (.ref x) (.str name t) by unfold callGetattribute;cases expr<;>rfl];unfold boundAndCalled;refine b6 (Mi (FB.bind (.ref x)) ?_);show wpAny _ _ (call (.builtin "BaseException.__getattribute__") [.ref x,_]) _ _ _;refine Li (G6 FB.plain F.entry_bexc_ga ?_);simp only[checkBuiltinCall,kd,spl];unfold isInstance;refine b6 (b6 (L0.at (LB.at ?_)));rw[h9 (by decide)];refine Mi ar ?_;unfold Builtin.«object.__getattribute__»;refine b6 (f6 (b6 (f6 (b6 (L0.at (b6 (L3.at ?_)))))));refine f6 ?_;exact handed_on hh h
section
variable{X:Cx}
def Wy(K:Frag)(ta:TE)(f:Str):TE:=λσ H Q=>ta σ H λx H1=>∃a C d fs v,x=.ref a/\H1 a=some (.ext (mh a C (some d)))/\H1 d=some (.ext (cP d fs))/\mj K C/\bh K C f/\fs.lookup f=some v/\Q v H1
theorem kX{e:Expr}{f:Str}{ta:TE}(eK:X.K=K)(he:PE X e ta)(hb:attributeBase e f X.env (eval e X.env)=eval e X.env):PE X (.Attribute e f pos) (Wy K ta f):=by
 subst eK;intro Nn s σ H Q I h;refine Eu hb (Nr (he Nn s σ H _ I h) λu s1 zz=>?_);obtain⟨x,H1,I1,rx,a,C,d,fs,v,ex,ea,ed,c,n,l,q⟩:=zz;subst ex;cases(show u=Value.ref a from rx)
 obtain⟨mA,VR,r,_,_⟩:=(show bj X.prog X.w H1 s1.heap d (.ext (cP d fs)) from I1.hok d _ ed).1;obtain⟨u,hu,ru⟩:=jM.some_of (v:=v) (o:=mA f) (by rw[<- l];exact r f);exact Wf I1.kIn c (show bj X.prog X.w H1 s1.heap a (.ext (mh a C (some d))) from I1.hok a _ ea).1 VR n hu (wk ru) ⟨v,H1,I1.tok _,ru,q⟩
theorem Cp(eK:X.K=K):eW X (.builtin "isinstance") (λxs H Q=>∃ea c cv C dc k,xs=[.ref ea,c]/\(∀u,RelV c u->u=cv)/\H ea=some (.ext (mh ea C dc))/\jg K C/\kitOne K (.ref C) cv=some k/\Q (.bl k) H):=by
 subst eK;intro Nn s σ H xs us Q I r h;obtain⟨ea,c,cv,C,dc,k,rfl,hc,he,ec,kt,q⟩:=h;obtain⟨u,w',rfl,r1,r2⟩:=vals2 r;have e:=hc _ r2;subst e;cases(show u=Value.ref ea from r1)
 obtain⟨p,_,_⟩:=(show bj X.prog X.w H s.heap ea (.ext (mh ea C dc)) from I.hok ea _ he);exact kia_one (JO ec) I.kIn p.of kt (λz=>nomatch z) λtk=>⟨.bl k,H,I.tok tk,rfl,q⟩
theorem cM:eW X (.builtin "isinstance") (λxs H Q=>∃ea c cv C dc k,xs=[.ref ea,c]/\(∀u,RelV c u->u=cv)/\H ea=some (.ext (mh ea C dc))/\jg X.K C/\kitOne X.K (.ref C) cv=some k/\Q (.bl k) H):=Cp rfl
end
structure KS(K:Frag)(x qual:Str)(st:Stmt)(f:Addr):Prop where
 ex:∃fd:FuncData,OY K x qual st f fd
theorem xS{qual:Str}{f:Addr}{oc kV doc pm cdv ct:Value}(l:K.lookup f=some ⟨oc,od,.func (fnOf x qual (df st) (aZ st) (ai st) .none kV doc pm an cdv ct),N7⟩)
  (c:codeIn K cdv qual=true)(k:keepIn K (.ref f)=true):KS K x qual st f:=⟨⟨_,Cc l c k⟩⟩
noncomputable def rV(K:Frag)(C:Addr):Bool:=(clsIn K C).any λcd=>zu cd.mro && cd.hasDict
theorem wJ{C:Addr}(a:rV K C=true)(s:findIn K (.ref C) "__setattr__"=some (some (.builtin "object.__setattr__")))(e:jg K C):mj K C:=by
 refine⟨?_,s,e⟩;unfold rV at a;cases h:clsIn K C with
 | none=>rw[h]at a;cases a
 | some cd =>
  rw[h]at a;have z:(zu cd.mro && cd.hasDict)=true:=a;exact⟨cd,rfl,(x4.mp z).1,(x4.mp z).2⟩
def Put(a C d:Addr)(fs:List (Str×V))(H H':Hp):Prop:=H d=none/\d≠a/\H' a=some (.ext (hX a C (some d)))/\H' d=some (.ext (cP d fs))/\∀b,b≠a->b≠d->H' b=H b
theorem Put.del(n:H a=none)(p:Put a C d fs (upd H a (.ext (hX a C none))) H'):del a H'=upd H d (.ext (cP d fs))/\H d=none:=by
 obtain⟨h1,h2,h3,h4,h5⟩:=p;rw[aj h2]at h1;refine⟨funext λb=>?_,h1⟩
 by_cases z:b=a
 .subst z;rw[oO,aj (B8 h2)];exact n.symm
 .rw[kh z]
  by_cases y:b=d
  .subst y;rw[ae];exact h4
  .rw[aj y,h5 b z y,aj z]
def eA(C:Addr)(f:Str):Sp:=λvs H Q _=>∃a y,vs=[.ref a,y]/\H a=some (.ext (hX a C none))/\∀d H',Put a C d [(f,y)] H H'->Q .non H'
section
variable{P:Program}{w:World}{K:W.Frag}{mg:Str->Option Value}{base:Heap}{N:List Str}{qual:Str}{scope:Scope}{f:Addr}{cd:Value}{A:Around}{outer:List Env}{s:Shared}{H:Hp}{E:XK}
end
theorem ar0(h:p [])(us:List Value)(e:us.length=0):p us:=by
 rw[Ml e];exact h
theorem Y3(h:∀a us,us.length=n->p (a::us))(us:List Value)(e:us.length=n+1):p us:=by
 cases us with
 | nil=>exact absurd e.symm (Nat.succ_ne_zero n)
 | cons a t=>exact h a t (Nat.succ.inj e)
theorem ar1(h:∀a,p [a]):∀us:List Value,us.length=1->p us:=Y3 λa=>ar0 (h a)
theorem ar2(h:∀a b,p [a,b]):∀us:List Value,us.length=2->p us:=Y3 λa=>ar1 (h a)
theorem ar3(h:∀a b c,p [a,b,c]):∀us:List Value,us.length=3->p us:=Y3 λa=>ar2 (h a)
theorem ar4(h:∀a b c d,p [a,b,c,d]):∀us:List Value,us.length=4->p us:=Y3 λa=>ar3 (h a)
theorem ar5(h:∀a b c d e,p [a,b,c,d,e]):∀us:List Value,us.length=5->p us:=Y3 λa=>ar4 (h a)
structure XC1(P:Program)(w:World)(K:Frag)(mg:Str->Option Value)(base:Heap)(x:Str)(C:Addr)(f:Str):Prop where
 m:mg x=some (.ref C)
 kc:keepIn K (.ref C)=true
 ex:∃(fI:Addr)(fd:FuncData)(ps:List Str),gS P w K mg base CX0 1 fI fd ps (eA C f)/\Binds K fd ps []/\lC K C bmV "ValueError.__new__" fI=true
 fl:mj K C
 n1:bh K C f
def Qo(C:Addr)(f:Str)(E:XK)(ta:TA):TS:=λ_ σ H=>ta σ H λvs H1=>∃y,vs=[y]/\∀d,H1 d=none->E (.ref C) (some d) (upd H1 d (.ext (cP d [(f,y)])))
section
variable{P:Program}{w:World}{K:W.Frag}{mg:Str->Option Value}{base:Heap}{N:List Str}{qual:Str}{scope:Scope}{f:Addr}{cd:Value}{A:Around}{outer:List Env}{s:Shared}{H:Hp}{E:XK}
theorem pX{C:Addr}(c:XC1 P w K mg base x C f1)
  (hr:bX 2 (bM (NT P w) P w K mg base N qual scope f cd A outer s H E).A)(hg:Gl (bM (NT P w) P w K mg base N qual scope f cd A outer s H E) x)(ha:PA (bM (NT P w) P w K mg base N qual scope f cd A outer s H E) (e₀::es) ta)
  (NO:(x==("__debug__":Str))=false:=by decide)(he:starEach (e₀::es) (envOfC qual scope s.heap.objs.size f cd)=(false,eval e₀ (envOfC qual scope s.heap.objs.size f cd))::starEach es (envOfC qual scope s.heap.objs.size f cd):=by rfl)
  (NR:(backTo NA (starEach es (envOfC qual scope s.heap.objs.size f cd))).any (·.1)=false:=by rfl) :
  PS (bM (NT P w) P w K mg base N qual scope f cd A outer s H E) (.Raise (some (.Call (.Name x np) (e₀::es) [] NA)) none pos) (Qo C f1 E ta):=by
 obtain⟨fI,fd,ps,F,b,xi⟩:=c.ex;intro Nn s₁ σ H1 D I h;refine x_raise (C:=C) (bmB:=bmV) (newId:="ValueError.__new__") (by decide) (I.ok.hd rfl) ?_;refine z7 (dN I hg c.m ?_ NO);refine callWith_K (h₀:=base) I.ok.mod.kin c.kc (Nr (ha NA Nn s₁ σ H1 _ I h) λus s2 zz=>?_) he NR;obtain⟨vs,H2,I2,r,y,ev,q⟩:=zz;refine⟨I2.kIn,?_⟩;subst ev;have fr:H2 (s2.heap.objs.size+1)=none:=I2.hok.fresh (J3 _);refine v8 (Br (R:=λH3=>∃dc,H3 (s2.heap.objs.size+1)=some (.ext (hX (s2.heap.objs.size+1) C dc))/\E (.ref C) dc (del (s2.heap.objs.size+1) H3)) F xi hr b I2 r (by show 1<=1000;decide) ⟨_,y,rfl,ae,λd H3 p=>⟨rfl,some d,p.2.2.1,?_⟩⟩) (λv s3 t=>?_) λ_ _ t=>t
 .obtain⟨e1,e2⟩:=p.del fr;rw[e1];exact q d e2
 .obtain⟨rfl,H3,I3,dc,hx,hE⟩:=t;have nw:s.heap.get? (s2.heap.objs.size+1)=none:=Me (h8 I2.sz (J3 _));exact⟨_,dc,rfl,⟨fI,HC I3.kIn xi⟩,(show bj P w H3 s3.heap _ (.ext (hX _ C dc)) from I3.hok _ _ hx).1,zT I3 hx nw hE⟩
end
theorem KW.d(h:KW P w outer H s ea C H' s'):∃dc,KU P w outer H s ea C dc H' s':=by
 obtain⟨t,B,h1,h2,h3,h4,⟨f1,f2,f3,oe,vs,T,oT,ts,a,b,c⟩,h5⟩:=h;exact⟨oe.dict,B,h1,h2,h3,h4,⟨f1,f2,f3,oe,vs,T,oT,ts,a,⟨b.1,rfl⟩,c⟩,h5⟩
def spD(sp:Sp):Sp:=λvs H Q E=>sp vs H Q λC _ H'=>∀dc,E C dc H'
theorem gS.d{P:Program}{w:World}{f:Addr}(F:gS P w K mg base (PY P w) n f fd ps sp):gS P w K mg base (NT P w) n f fd ps (spD sp):=by
 refine⟨λvs H Q E q=>F.len vs H Q _ q,λA outer s H args us vs Q E hr he hb hv hs=>?_⟩;refine J5 (F.run A outer s H args us vs Q _ hr he hb hv hs) λres s' hq=>?_;cases res with
 | ok fl=>cases fl<;>exact hq
 | error ex =>
  obtain⟨ea,C,H',e,fl,q⟩:=hq;obtain⟨dc,fd⟩:=fl.d;exact⟨ea,C,dc,H',e,fd,q dc⟩
theorem Se.d{P:Program}{w:World}(D:Se P w K mg base n x ps sp):cq P w K mg base n x ps (spD sp):=by
 obtain⟨f,fd,F,b,kp,m⟩:=D.ex;exact⟨f,fd,F.d,b,kp,m⟩
section
variable{P:Program}{w:World}{K:W.Frag}{mg:Str->Option Value}{base:Heap}{N:List Str}{qual:Str}{scope:Scope}{f:Addr}{cd:Value}{A:Around}{outer:List Env}{s:Shared}{H:Hp}{E:XK}
theorem W9(o:(bM CX P w K mg base N qual scope f cd A outer s H E).Ok):(bM CX' P w K mg base N qual scope f cd A outer s H E').Ok:=
 ⟨o.mod,o.kind,o.glob,o.blt,o.above,o.inj,o.has,o.cab,o.hd,o.frames,o.stk,o.exf,o.bs,o.bsz,o.noex,o.exfs,o.funs,o.frf⟩
theorem Uv(I:Inv (bM CX P w K mg base N qual scope f cd A outer s H E) Nn σ H1 s₂):Inv (bM CX' P w K mg base N qual scope f cd A outer s H E') Nn σ H1 s₂:=
 ⟨W9 I.ok,I.os,I.bare,I.base,I.loc,I.cell,I.free,I.freeC,I.pin,I.hok,I.len⟩
theorem uQ{ea C:Addr}{vs:List Value}(I:Inv (bM (NT P w) P w K mg base N qual scope f cd A outer s H E) Nn σ H1 s₂)
  (hx:Heap.MadeExcOf s₂.heap h' ea (.ref C) vs)(q:∀dc,E (.ref C) dc H1):(bM (NT P w) P w K mg base N qual scope f cd A outer s H E).xe (.ref ea) {s₂ with heap:=h' }:=by
 have h:=oj (E:=λC _ H'=>∀dc,E C dc H') (Uv I) hx q;refine v8 h (λu s' z=>?_) (λu s' z=>?_)
 .obtain⟨ea,C,H',e,fl,q⟩:=z;obtain⟨dc,fd⟩:=fl.d;exact⟨ea,C,dc,H',e,fd,q dc⟩
 .obtain⟨ea,C,H',e,fl,q⟩:=z;obtain⟨dc,fd⟩:=fl.d;exact⟨ea,C,dc,H',e,fd,q dc⟩
def Qn(C:Addr)(E:XK)(ta:TA):TS:=λ_ σ H=>ta σ H λvs H1=>vs.length<=sizeLine/\∀dc,E (.ref C) dc H1
theorem lU{C:Addr}{np:Pos}(hg:Gl (bM (NT P w) P w K mg base N qual scope f cd A outer s H E) x)(hm:mg x=some (.ref C))(q:excIn K C bmV "ValueError.__new__"=true)
  (ha:PA (bM (NT P w) P w K mg base N qual scope f cd A outer s H E) (e₀::es) ta)(NO:(x==("__debug__":Str))=false:=by decide)
  (he:starEach (e₀::es) (envOfC qual scope s.heap.objs.size f cd)=(false,eval e₀ (envOfC qual scope s.heap.objs.size f cd))::starEach es (envOfC qual scope s.heap.objs.size f cd):=by rfl)
  (NR:(backTo NA (starEach (e₀::es) (envOfC qual scope s.heap.objs.size f cd))).any (·.1)=false:=by rfl) :
  PS (bM (NT P w) P w K mg base N qual scope f cd A outer s H E) (.Raise (some (.Call (.Name x np) (e₀::es) [] NA)) none pos) (Qn C E ta):=by
 intro Nn s₁ σ H1 D I h;obtain⟨bm,N1,nm,qn,bs,hd,sn,sub,ab,col,dd,k0,k1,k2,k3,k5,mN,gC,nN,ni,T⟩:=Eg I.mod.kin q
 refine wpAny_Raise_call_subT (C:=C) (nm:=nm) (q:=qn) (N:=N1) (bs:=bs) (bm:=bm) (hdct:=hd) (sn:=sn) (sub:=sub) (ab:=ab) (col:=col) (dd:=dd) (k0:=k0) (k1:=k1) (k2:=k2) (k3:=k3) (k5:=k5) Lk (mN:=mN)
  (T.hasType Lk.hasBase) (I.ok.hd rfl) NR ni (dN I hg hm ⟨rfl,?_⟩ NO)
 have hA:=ha NA Nn s₁ σ H1 _ I h;have X1:starEach (e₀::es) (bM (NT P w) P w K mg base N qual scope f cd A outer s H E).env=(false,eval e₀ (bM (NT P w) P w K mg base N qual scope f cd A outer s H E).env)::starEach es (bM (NT P w) P w K mg base N qual scope f cd A outer s H E).env:=he;rw[X1]at hA ⊢;refine G5 (Nr hA λus s₂ z=>?_);obtain⟨vs,H2,I2,r,z,q2⟩:=z;exact⟨rfl,by rw[<- r.length];exact z,I2.bk _ _ gC,nN.keeps I2.bk,T.keeps I2.bk,λh' e hx=>uQ I2 hx q2⟩
end
end L2
namespace Mine
open PySem L2
end Mine
namespace L2
open PySem PySem.Spec PyProof.Rows
variable{P:Program}{w:World}{tg e:Expr}{te:TE}{a:Addr}{g:TG}{tb:TS}{D:Ends}{σ:St}{H:Hp}{c:Nat}{ws:List Str}
def V6(K:W.Frag)(a:Addr)(n:Nat):It:=
 ⟨λi H=>∃xs x,Nq K H a xs/\xs.length=n/\i<n/\xs[n-1-i]?=some x,λi H x H'=>H'=H/\∀xs,Nq K H a xs->xs[n-1-i]?=some x,λi _=>i=n⟩
theorem HH{K:W.Frag}(a it:Addr)(n:Nat):Turn P w K tg (V6 K a n) [it] it (λi h=>h.IsRevIter it a ((n:Int)-1-(i:Int))) where
 mem:=by simp
 obj:=λi h st b hb=>by
  have e:b=it:=by simpa using hb
  subst e;obtain⟨o,e,c,d⟩:=st;exact⟨o,e,λv z=>by rw[d]at z;cases z⟩
 keep:=λi h h' st k=>st.at λo e=>k it (by simp) o e
 item:=by
  intro X hP hw hK hc i Nn s σ H E I hf st hg;subst hP hw hK;obtain⟨xs,x,hq,hn,hi,hx⟩:=hg;obtain⟨its,rv,p,hz⟩:=I.list hq;obtain⟨u,hu,ru⟩:=rv.get hx;obtain⟨f0,f1,f2,f3,f4,f5⟩:=hf it (by simp);have e:(n:Int)-1-(i:Int)=((n-1-i:Nat):Int):=by omega
  rw[e]at st;refine wpAny_pyNext_rev_item st p.isList (x:=u) (by simpa using hu) λh' OS sb=>?_;have e2:((n-1-i:Nat):Int)-1=(n:Int)-1-((i+1:Nat):Int):=by omega
  rw[e2]at OS;have I1:Inv X Nn σ H {s with heap:=h' }:=I.turned (t':=s.toks) (λb o hb e=>(sb.2 b hb).trans e) f0 f1 f3 f4 f5
  obtain⟨o,e,c,d⟩:=id OS;exact⟨u,rfl,zY (s:={s with heap:=h' }) e c d (by decide) ⟨x,H,I1,ru,⟨rfl,λys hy=>by rw[I.list_inj hy hq];exact hx⟩,OS,λb hb=>(hf b hb).1⟩⟩
 done:=by
  intro X hP hw hK hc i Nn s σ H E I hf st hg;subst hP hw hK;have hi:i=n:=hg;subst hi;obtain⟨f0,f1,f2,f3,f4,f5⟩:=hf it (by simp);have e:(i:Int)-1-(i:Int) = -1:=by omega
  rw[e]at st;exact wpAny_pyNext_rev_end (I.ok.hd hc) st λh' eb=>⟨rfl,I.turned (t':=s.toks) (λb o hb e=>eb b o hb e) f0 f1 f3 f4 f5⟩
 self:=λ_ _ _ _ _ st h=>Mj st h
section
variable{X:Cx}{tg:Expr}
def iRev(K:W.Frag)(tl:TE):TI:=λσ H R=>tl σ H λx H1=>∃a xs,x=.ref a/\Nq K H1 a xs/\R (V6 K a xs.length) H1
theorem T5{p pos:Pos}(hg:Gl X "reversed")(hm:X.mg "reversed"=none)(he:PE X e te)
  (hs:starEach [e] X.env=[(false,eval e X.env)]:=by rfl):PI X tg (.Call (.Name "reversed" p) [e] [] pos) (iRev X.K te):=by
 intro Nn s σ H R I h;have b1:bootBuiltins "reversed"=some (.type "reversed"):=by decide+kernel
 refine z7 (gQ I hg hm b1 ?_ (by decide) (by decide));refine y8 ?_ hs (by rfl);rw[hs];refine A2 (Nr (he Nn s σ H _ I h) λu s1 zz=>?_);obtain⟨y,H1,I1,ry,a,xs,ey,hq,q⟩:=zz;subst ey;have eu:u=Value.ref a:=ry;subst eu;refine C3 ?_;obtain⟨its,rv,pl,hz⟩:=I1.list hq;refine call_reversed_list pl.isList ?_;have hlen:its.toArray.size=xs.length:=by rw[i8];exact rv.length.symm
 rw[hlen];have hit:(s1.heap.push (revObj a ((xs.length:Int)-1))).IsRevIter s1.heap.objs.size a ((xs.length:Int)-1):=⟨_,g7 _ rfl,rfl,rfl⟩;have I2:Inv X Nn σ H1 {s1 with heap:=s1.heap.push (revObj a ((xs.length:Int)-1)) }:=I1.kept (t':=s1.toks) λb o e=>e9 _ e
 refine Mj (s:={s1 with heap:=s1.heap.push (revObj a ((xs.length:Int)-1)) }) hit ?_
 have Rn:(s1.heap.push (revObj a ((xs.length:Int)-1))).IsRevIter s1.heap.objs.size a ((xs.length:Int)-1-((0:Nat):Int)):=by simpa using hit
 refine⟨_,[s1.heap.objs.size],_,V6 X.K a xs.length,H1,rfl,I2,HH a _ _,Rn,λb hb=>?_,q⟩;have e:b=s1.heap.objs.size:=by simpa using hb
 subst e;exact I1.fpOk (f7 _) (I1.hok.fresh (f7 _))
end
theorem Rv{K:W.Frag}{xs:List V}(Pv:Nat->St->Hp->Prop)(h0:Pv 0 σ H)(hl:∀i σ H,i<=xs.length->Pv i σ H->Nq K H a xs)
  (hs:∀i x σ H,xs.reverse[i]?=some x->Pv i σ H->g x σ H λσ2 H2=>tb {D with nx:=Pv (i+1),ct:=Pv (i+1),bk:=D.nx} σ2 H2)(hd:∀σ H,Pv xs.length σ H->D.nx σ H) :
  ∃W:Nat->Nat->St->Hp->Prop,(∃m,W 0 m σ H)/\∀i m σ H,W i m σ H->
   ((V6 K a xs.length).stop i H/\D.nx σ H)\/((V6 K a xs.length).go i H/\∃N:St->Hp->Prop,(∀σ' H',N σ' H'->∃m',m'<m/\W (i+1) m' σ' H')/\∀x H',(V6 K a xs.length).yld i H x H'->g x σ H' λσ2 H2=>tb {D with nx:=N,ct:=N,bk:=D.nx} σ2 H2):=by
 refine⟨λi m σ H=>m=xs.length-i/\i<=xs.length/\Pv i σ H,⟨xs.length,by simp,z5 _,h0⟩,?_⟩;rintro i m σ H ⟨rfl,hi,p⟩
 have q:=hl i σ H hi p
 by_cases Ny:i<xs.length
 .have hj:xs.length-1-i<xs.length:=by omega
  refine .inr ⟨⟨xs,xs[xs.length-1-i],q,rfl,Ny,by simp[hj]⟩,Pv (i+1),λσ' H' p'=>⟨xs.length-(i+1),by omega,rfl,Ny,p'⟩,λx H' y=>?_⟩;obtain⟨e,y⟩:=y;subst e;refine hs i x σ _ ?_ p;rw[List.getElem?_reverse Ny];exact y xs q
 .have e:i=xs.length:=by omega
  subst e;exact .inl ⟨rfl,hd σ H p⟩
section
variable{X:Cx}
theorem Ep(c:Nat):∀(p q r r':List Nat),c ∉ p->c ∉ q->p++c::r=q++c::r'->p=q/\r=r'
 | [],[],r,r',_,_,h=>⟨rfl,(K2 h).2⟩
 | [],y::q,r,r',_,hq,h=>absurd (K2 h).1 (λz=>hq (by rw[z];simp))
 | x::p,[],r,r',hp,_,h=>absurd (K2 h).1 (λz=>hp (by rw[<- z];simp))
 | x::p,y::q,r,r',hp,hq,h=>by
  obtain⟨e,h'⟩:=K2 h;obtain⟨e1,e2⟩:=Ep c p q r r' (λz=>hp (p8 _ z)) (λz=>hq (p8 _ z)) h';exact⟨by rw[e,e1],e2⟩
theorem Km(c:Nat)(p q r:List Nat)(hp:c ∉ p)(h:p=q++c::r):False:=hp (by rw[h];simp)
theorem Dp{x y:Str}(h:x.cps.toList=y.cps.toList):x=y:=by
 cases x;cases y
 congr 1;exact Array.toList_inj.mp h
theorem xX(a b:Str):(a++b).cps.toList=a.cps.toList++b.cps.toList:=by
 show(a.cps++b.cps).toList=_;exact Array.toList_append
theorem zX(c:Nat):∀(ps qs:List Str),ps≠[]->qs≠[]->(∀p∈ps,c ∉ p.cps.toList)->(∀q∈qs,c ∉ q.cps.toList)->Str.join ⟨#[c]⟩ ps=Str.join ⟨#[c]⟩ qs->ps=qs
 | [],_,h,_,_,_,_=>absurd rfl h
 | _,[],_,h,_,_,_=>absurd rfl h
 | [p],[q],_,_,hp,hq,h=>by
  have h':p=q:=h;rw[h']
 | [p],q::q2::qs,_,_,hp,hq,h=>by
  exfalso;have h':p=q++⟨#[c]⟩++Str.join ⟨#[c]⟩ (q2::qs):=h;have e:=y9 (λs:Str=>s.cps.toList) h';simp only[xX]at e;exact Km c _ q.cps.toList (Str.join ⟨#[c]⟩ (q2::qs)).cps.toList (hp p (by simp)) (by rw[e];simp)
 | p::p2::ps,[q],_,_,hp,hq,h=>by
  exfalso;have h':p++⟨#[c]⟩++Str.join ⟨#[c]⟩ (p2::ps)=q:=h;have e:=y9 (λs:Str=>s.cps.toList) h';simp only[xX]at e;exact Km c _ p.cps.toList (Str.join ⟨#[c]⟩ (p2::ps)).cps.toList (hq q (by simp)) (by rw[<- e];simp)
 | p::p2::ps,q::q2::qs,_,_,hp,hq,h=>by
  have h':p++⟨#[c]⟩++Str.join ⟨#[c]⟩ (p2::ps)=q++⟨#[c]⟩++Str.join ⟨#[c]⟩ (q2::qs):=h;have e:=y9 (λs:Str=>s.cps.toList) h';simp only[xX]at e;have e':p.cps.toList++c::(Str.join ⟨#[c]⟩ (p2::ps)).cps.toList=q.cps.toList++c::(Str.join ⟨#[c]⟩ (q2::qs)).cps.toList:=by simpa using e
  obtain⟨e1,e2⟩:=Ep c _ _ _ _ (hp p (by simp)) (hq q (by simp)) e';have ih:=zX c (p2::ps) (q2::qs) (by simp) (by simp) (λx hx=>hp x (by simp at hx ⊢;right;exact hx)) (λx hx=>hq x (by simp at hx ⊢;right;exact hx)) (Dp e2);rw[Dp e1,ih]
theorem HW(x y:Str):Txt.split x y≠[]:=by
 unfold Txt.split;split
 .simp
 .split
  .simp
  .intro h;have:=y9 List.length h;rw[Mv]at this;simp at this
theorem yE(h0:ws≠[])(h:∀w∈ws,c ∉ w.cps.toList):Txt.split (Str.join ⟨#[c]⟩ ws) ⟨#[c]⟩=ws:=
 zX c _ _ (HW _ _) h0 (StrLaws.split_free _ c) h (StrLaws.join_split _ _)
theorem pe:∀(l:List (Str×Tok)),Vals ((l.map (·.1)).map V.str) (strValues l)
 | []=>.nil
 | (x,t)::r=>.cons ⟨t,rfl⟩ (pe r)
theorem Gi(x y:Str):(Txt.split x y).length<=x.length+2:=by
 unfold Txt.split;split
 .simp
 .split
  .simp
  .rw[Mv];have:=StrLaws.occ_length_le x y 0 x.length (x.length+1);omega
def TU:V->List V->Hp->VK->Prop:=λx vs H Q=>∃(t y:Str),x=.str t/\vs=[.str y]/\(y.length==0)=false/\t.length<=1000000/\∀p,H p=none->Q (.ref p) (upd H p (.lst ((Txt.split t y).map V.str)))
theorem zM:PV X "str.split" TU:=by
 intro Nn s σ H x vs v us Q I rx rv h;obtain⟨t,y,rfl,rfl,hy,hz,q⟩:=h;obtain⟨tx,rfl⟩:=rx;obtain⟨u,rfl,ty,rfl⟩:=rv.one;have hsz:t.length<=sizeLine:=h8 hz (by decide);have hln:=Gi t y
 have hl:((Txt.split t y).map V.str).length<=sizeLine:=by
  rw[g6];exact h8 hln (h8 (Nat.add_le_add_right hz 2) (by decide))
 cases h1:(decide (t.length<y.length) || decide (Builtin.Str.strKind t<Builtin.Str.strKind y))
 .cases hf:(Builtin.Str.occurrences t y 0 t.length (t.length+1)).isEmpty
  .have es:Txt.split t y=Builtin.Str.partsBetween t (Builtin.Str.occurrences t y 0 t.length (t.length+1)) y.length:=by
    unfold Txt.split;rw[h9 (Mw h1),h9 (Mw hf)]
   refine J7 L8 (LM _ _ _) LZ (MJ _ _) (meets_str_split_sep t y tx ty h1 hy hf hsz (by rw[<- es];rw[g6]at hl;exact hl)) ?_;show wants _ _ _ {s with toks:=_,heap:=s.heap.push {cls:=.type "list",data:=.seq (strsFrom s.toks (Builtin.Str.partsBetween t (Builtin.Str.occurrences t y 0 t.length (t.length+1)) y.length)).toArray} }
   rw[strsFrom_eq];refine⟨.ref s.heap.objs.size,_,I.lnew (ys:=(Txt.split t y).map V.str) ?_ hl,rfl,q _ I.fresh⟩;have z:=pe (numbered s.toks (Builtin.Str.partsBetween t (Builtin.Str.occurrences t y 0 t.length (t.length+1)) y.length));rw[numbered_texts,<- es]at z;rw[<- es];exact z
  .have es:Txt.split t y=[t]:=by
    unfold Txt.split;rw[h9 (Mw h1),k9 hf]
   rw[es]at q hl
   exact J7 L8 (LM _ _ _) LZ (MJ _ _) (meets_str_split_not_found t y tx ty h1 hy hf)
    ⟨.ref s.heap.objs.size,_,I.lnew (its:=[.str t tx]) (ys:=[.str t]) (.cons ⟨_,rfl⟩ .nil) hl,rfl,q _ I.fresh⟩
 .have es:Txt.split t y=[t]:=by
   unfold Txt.split;rw[k9 h1]
  rw[es]at q hl
  exact J7 L8 (LM _ _ _) LZ (MJ _ _) (meets_str_split_cannot_occur t y tx ty h1)
   ⟨.ref s.heap.objs.size,_,I.lnew (its:=[.str t tx]) (ys:=[.str t]) (.cons ⟨_,rfl⟩ .nil) hl,rfl,q _ I.fresh⟩
end
end L2
namespace Mine
open PySem L2
variable{w x:Str}{S ws vs:List Str}{M M2:List Tr}{F F2:List W5}{r p:List Pl}
noncomputable def takes(w:Str):Option Int:=PyProof.Rows.KTD.datumAt w TK
noncomputable def fM(w x:Str):Bool:=
 if x="saying" then decide (w="(") || (decide (takes w=some 0) || decide (takes w=some 1))
 else if x="fold" then decide (takes w=some 2) else decide (w=x)
noncomputable def eS(w:Str)(S:List Str):List Str:=(if w="(" then[("saying":Str),"fold","saying",")"] else[])++((if w="not" then[("saying":Str)] else[])++S)
noncomputable def bL:List Str->List Str->Nat->Option Nat
 | [],[],_=>none
 | _::_,[],k=>some k
 | [],_::_,k=>some k
 | x::S,w::ws,k=>if fM w x=true then bL (eS w S) ws (k+1) else some k
theorem oE(S:List Str):eS "(" S=("saying":Str)::("fold":Str)::("saying":Str)::(")":Str)::S:=by
 unfold eS;rw[k9 rfl,h9 (by decide+kernel)];rfl
theorem lY(S:List Str):eS "not" S=("saying":Str)::S:=by
 unfold eS;rw[h9 (by decide+kernel),k9 rfl];rfl
theorem bK(h1:w≠"(")(h2:w≠"not")(S:List Str):eS w S=S:=by
 unfold eS;rw[h9 h1,h9 h2];rfl
theorem W5.takes(u:W5):takes u.str=some 2:=by cases u<;>decide+kernel
theorem W5.nop(u:W5):u.str≠"(":=by cases u<;>decide+kernel
theorem W5.nno(u:W5):u.str≠"not":=by cases u<;>decide+kernel
theorem RA:fM "not" "saying"=true:=by decide+kernel
theorem Vb:fM "(" "saying"=true:=by decide+kernel
theorem Vc:fM ")" ")"=true:=by decide+kernel
theorem JZ(u:W5):fM u.str "fold"=true:=by cases u<;>decide+kernel
theorem fE{k:Nat}(h:fM w x=true):bL (x::S) (w::ws) k=bL (eS w S) ws (k+1):=by
 show(if fM w x=true then _ else _)=_;rw[k9 h]
theorem jZ:∀(t:Tr)(S r:List Str)(k:Nat),bL (("saying":Str)::S) (t.words++r) k=bL S r (k+t.words.length)
 | .never,S,r,k=>by
  show bL (("saying":Str)::S) (("never":Str)::r) k=_;rw[fE (by decide+kernel),bK (by decide+kernel) (by decide+kernel)];rfl
 | .always,S,r,k=>by
  show bL (("saying":Str)::S) (("always":Str)::r) k=_;rw[fE (by decide+kernel),bK (by decide+kernel) (by decide+kernel)];rfl
 | .lp,S,r,k=>by
  show bL (("saying":Str)::S) (("p":Str)::r) k=_;rw[fE (by decide+kernel),bK (by decide+kernel) (by decide+kernel)];rfl
 | .lq,S,r,k=>by
  show bL (("saying":Str)::S) (("q":Str)::r) k=_;rw[fE (by decide+kernel),bK (by decide+kernel) (by decide+kernel)];rfl
 | .no t,S,r,k=>by
  show bL (("saying":Str)::S) (("not":Str)::(t.words++r)) k=_;rw[fE RA,lY,jZ t];congr 1;show k+1+t.words.length=k+(t.words.length+1);omega
 | .fold u a b,S,r,k=>by
  have e:(Tr.fold u a b).words++r=("(":Str)::(a.words++(u.str::(b.words++((")":Str)::r)))):=by simp[Tr.words]
  rw[e,fE Vb,oE,jZ a,fE (JZ u),bK u.nop u.nno,jZ b,fE Vc,bK (by decide+kernel) (by decide+kernel)];congr 1;simp[Tr.words];omega
theorem mY(t:Tr):bL ["saying"] t.words 0=none:=by
 have h:=jZ t [] [] 0;rw[A6]at h;rw[h];rfl
inductive Vz:Str->List Tr->List W5->List Tr->List W5->Prop where
 | op (a b:Tr) (u:W5) (M:List Tr) (F:List W5):Vz "(" (a::b::M) (u::F) (.fold u a b::M) F
 | no (a:Tr) (M:List Tr) (F:List W5):Vz "not" (a::M) F (.no a::M) F
 | fw (u:W5) (M:List Tr) (F:List W5):Vz u.str M F M (u::F)
 | cl (M:List Tr) (F:List W5):Vz ")" M F M F
 | leaf (t:Tr) (h:t.kids=[]) (M:List Tr) (F:List W5):Vz t.word M F (t::M) F
inductive O8:List Str->List Tr->List W5->List Tr->List W5->Prop where
 | nil (M:List Tr) (F:List W5):O8 [] M F M F
 | cons {w:Str} {ws:List Str} {M M1 M2:List Tr} {F F1 F2:List W5}:Vz w M F M1 F1->O8 ws M1 F1 M2 F2->O8 (w::ws) M F M2 F2
theorem O8.app{M1:List Tr}{F1:List W5}(h:O8 ws M F M1 F1)(k:O8 vs M1 F1 M2 F2):O8 (ws++vs) M F M2 F2:=by
 induction h with
 | nil=>exact k
 | cons s _ ih=>exact .cons s (ih k)
theorem rS:∀(t:Tr)(M:List Tr)(F:List W5),O8 t.words.reverse M F (t::M) F
 | .never,M,F=>.cons (.leaf .never rfl M F) (.nil _ _)
 | .always,M,F=>.cons (.leaf .always rfl M F) (.nil _ _)
 | .lp,M,F=>.cons (.leaf .lp rfl M F) (.nil _ _)
 | .lq,M,F=>.cons (.leaf .lq rfl M F) (.nil _ _)
 | .no t,M,F=>by
  show O8 ((("not":Str)::t.words).reverse) M F _ F;rw[l8];exact(rS t M F).app (.cons (.no t M F) (.nil _ _))
 | .fold u a b,M,F=>by
  have e:(Tr.fold u a b).words.reverse=(")":Str)::(b.words.reverse++(u.str::(a.words.reverse++[("(":Str)]))):=by simp[Tr.words]
  rw[e];exact .cons (.cl M F) ((rS b M F).app (.cons (.fw u (b::M) F) ((rS a (b::M) (u::F)).app (.cons (.op a b u M F) (.nil _ _)))))
theorem O8.head(h:O8 (w::ws) M F M2 F2):∃M1 F1,Vz w M F M1 F1/\O8 ws M1 F1 M2 F2:=by
 cases h with
 | cons s r=>exact⟨_,_,s,r⟩
theorem AL:∀t:Tr,∀w∈t.words,32 ∉ w.cps.toList:=by
 intro t
 induction t with
 | no t ih =>
  intro w h;rcases j8.mp h with rfl | h
  .decide+kernel
  .exact ih w h
 | fold u a b ia ib =>
  intro w h;have e:w="("\/w∈a.words\/w=u.str\/w∈b.words\/w=")":=by simpa [Tr.words] using h
  rcases e with rfl | h | rfl | h | rfl
  .decide+kernel
  .exact ia w h
  .cases u<;>decide+kernel
  .exact ib w h
  .decide+kernel
 | _ =>
  intro w h;rw[y3.mp h];decide+kernel
theorem oQ:(" ":Str)=⟨#[32]⟩:=by decide+kernel
theorem sA(t:Tr):Txt.split t.text " "=t.words:=by
 rw[<- jm t,oQ];obtain⟨x,r,e⟩:=iu t;exact yE (by rw[e];simp) (AL t)
inductive Pl where
 | whole | no | one | fold | other | fin
 deriving DecidableEq
noncomputable def Wi:Pl->List Str
 | .one=>[("fold":Str),"saying",")"]
 | .other=>[(")":Str)]
 | _=>[]
noncomputable def Z1:Pl->List Pl->List Str
 | .whole,_=>["saying"]
 | .no,_=>["saying"]
 | .one,_=>[("saying":Str),"fold","saying",")"]
 | .other,_=>[("saying":Str),")"]
 | .fold,_=>[("fold":Str),"saying",")"]
 | .fin,[]=>[]
 | .fin,_::_=>[(")":Str)]
noncomputable def wants:List Pl->List Str
 | []=>[]
 | t::r=>Z1 t r++r.flatMap Wi
inductive OX:List Pl->Prop where
 | whole:OX [.whole]
 | no {r:List Pl}:OX r->OX (.no::r)
 | one {r:List Pl}:OX r->OX (.one::r)
 | other {r:List Pl}:OX r->OX (.other::r)
inductive Ax:List Pl->Prop where
 | low {r:List Pl}:OX r->Ax r
 | fin0:Ax [.fin]
 | fold {r:List Pl}:OX r->Ax (.fold::r)
 | fin {r:List Pl}:OX r->Ax (.fin::r)
noncomputable def qO:List Pl->List Pl
 | []=>[]
 | .no::r=>qO r
 | .one::r=>.fold::r
 | _::r=>.fin::r
theorem OX.ne(h:OX r):∃t r',r=t::r':=by cases h<;>exact⟨_,_,rfl⟩
theorem Ac(h:OX r):Ax (qO r)/\wants (qO r)=r.flatMap Wi:=by
 induction h with
 | whole=>exact⟨.fin0,rfl⟩
 | no _ ih=>exact ih
 | one h ih=>exact⟨.fold h,rfl⟩
 | other h ih =>
  obtain⟨t,r',rfl⟩:=h.ne;exact⟨.fin h,rfl⟩
noncomputable def lA(w:Str):Bool:=decide (takes w=some 2)
noncomputable def mX(w:Str):Bool:=decide (takes w=some 0)
noncomputable def qt:List Pl->Str->Option (List Pl)
 | [],_=>none
 | .fold::r,w=>if lA w=true then some (.other::r) else none
 | .fin::r,w=>if w=")"/\r≠[] then some (qO r) else none
 | t::r,w=>if w="not" then some (.no::t::r) else if w="(" then some (.one::t::r) else if mX w=true then some (qO (t::r)) else none
theorem vz:takes "not"=some 1:=by decide+kernel
theorem HN:takes "("=none:=by decide+kernel
theorem ER(h:takes w=some 1):w="not":=by
 unfold takes TK at h;simp only[PyProof.Rows.KTD.datumAt]at h
 repeat' split at h
 all_goals first | (rename_i e;simpa using l9 e) | (cases h;done) | (simp at h)
theorem xT(w:Str):fM w "saying"=(decide (w="(") || (mX w || decide (w="not"))):=by
 unfold fM mX;rw[k9 rfl];congr 2
 by_cases h:w="not"
 .subst h;rw[vz];rfl
 .rw[h7 h,h7 (λz=>h (ER z))]
theorem Ce(w:Str):fM w "fold"=lA w:=by
 unfold fM lA;rw[h9 (by decide+kernel),k9 rfl]
theorem xU(w:Str):fM w ")"=decide (w=")"):=by
 unfold fM;rw[h9 (by decide+kernel),h9 (by decide+kernel)]
theorem Ry(h:lA w=true):w≠"("/\w≠"not":=by
 have h':=l9 h;refine⟨λz=>?_,λz=>?_⟩
 .subst z;rw[HN]at h';cases h'
 .subst z;rw[vz]at h';cases h'
theorem JH{t:Pl}(h:OX (t::r))(w:Str) :
  (∀p,qt (t::r) w=some p->Ax p/\fM w "saying"=true/\wants p=eS w ((t::r).flatMap Wi))/\(qt (t::r) w=none->fM w "saying"=false)/\wants (t::r)=("saying":Str)::(t::r).flatMap Wi:=by
 have e:qt (t::r) w=(if w="not" then some (.no::t::r) else if w="(" then some (.one::t::r) else if mX w=true then some (qO (t::r)) else none):=by cases h<;>rfl
 have ew:wants (t::r)=("saying":Str)::(t::r).flatMap Wi:=by cases h<;>rfl
 refine⟨λp hp=>?_,λhp=>?_,ew⟩
 .rw[e]at hp;rw[xT]
  by_cases h1:w="not"
  .subst h1;rw[k9 rfl]at hp;cases hp
   refine⟨.low (.no h),by simp,?_⟩;rw[lY];rfl
  .rw[h9 h1]at hp
   by_cases h2:w="("
   .subst h2;rw[k9 rfl]at hp;cases hp
    refine⟨.low (.one h),by simp,?_⟩;rw[oE];rfl
   .rw[h9 h2]at hp
    by_cases h3:mX w=true
    .rw[k9 h3]at hp;cases hp
     obtain⟨d1,d2⟩:=Ac h;refine⟨d1,by rw[h3];simp,?_⟩;rw[d2,bK h2 h1]
    .rw[h9 h3]at hp;cases hp
 .rw[e]at hp;rw[xT]
  by_cases h1:w="not"
  .rw[k9 h1]at hp;cases hp
  .rw[h9 h1]at hp
   by_cases h2:w="("
   .rw[k9 h2]at hp;cases hp
   .rw[h9 h2]at hp
    by_cases h3:mX w=true
    .rw[k9 h3]at hp;cases hp
    .rw[h7 h1,h7 h2,eq_false_of_ne_true h3];rfl
theorem VN(h:Ax p)(w:Str) :
  (∀p',qt p w=some p'->Ax p'/\∃x S,wants p=x::S/\fM w x=true/\wants p'=eS w S)/\(qt p w=none->wants p=[]\/∃x S,wants p=x::S/\fM w x=false):=by
 cases h with
 | low h =>
  obtain⟨t,r,rfl⟩:=h.ne;obtain⟨a,b,c⟩:=JH h w;refine⟨λp' hp=>?_,λhp=>.inr ⟨_,_,c,b hp⟩⟩;obtain⟨a1,a2,a3⟩:=a p' hp;exact⟨a1,_,_,c,a2,a3⟩
 | fin0 =>
  refine⟨λp' hp=>?_,λ_=>.inl rfl⟩;have e:qt [.fin] w=(if w=")"/\([]:List Pl)≠[] then some (qO []) else none):=rfl;rw[e,h9 (λz=>z.2 rfl)]at hp;cases hp
 | @fold r h =>
  have e:qt (.fold::r) w=if lA w=true then some (.other::r) else none:=rfl
  refine⟨λp' hp=>?_,λhp=>.inr ⟨_,_,rfl,?_⟩⟩
  .rw[e]at hp
   by_cases h1:lA w=true
   .rw[k9 h1]at hp;cases hp
    obtain⟨n1,n2⟩:=Ry h1;exact⟨.low (.other h),_,_,rfl,by rw[Ce];exact h1,by rw[bK n1 n2];rfl⟩
   .rw[h9 h1]at hp;cases hp
  .rw[e]at hp;rw[Ce]
   by_cases h1:lA w=true
   .rw[k9 h1]at hp;cases hp
   .exact eq_false_of_ne_true h1
 | @fin r h =>
  obtain⟨t,r',rfl⟩:=h.ne;have e:qt (.fin::t::r') w=if w=")"/\t::r'≠[] then some (qO (t::r')) else none:=rfl
  refine⟨λp' hp=>?_,λhp=>.inr ⟨_,_,rfl,?_⟩⟩
  .rw[e]at hp
   by_cases h1:w=")"
   .rw[k9 ⟨h1,by simp⟩]at hp;cases hp
    obtain⟨d1,d2⟩:=Ac h;refine⟨d1,_,_,rfl,by rw[xU];exact j9 h1,?_⟩;rw[d2,bK (by rw[h1];decide+kernel) (by rw[h1];decide+kernel)];rfl
   .rw[h9 (λz=>h1 z.1)]at hp;cases hp
  .rw[e]at hp;rw[xU]
   by_cases h1:w=")"
   .rw[k9 ⟨h1,by simp⟩]at hp;cases hp
   .exact h7 h1
theorem ug:∀(l:List (Str×Int))(w:Str)(n:Int),PyProof.Rows.KTD.datumAt w l=some n->(w,n)∈l
 | [],w,n,h=>by cases h
 | (k,m)::l,w,n,h=>by
  by_cases e:w=k
  .have h':(if decide (w=k)=true then some m else PyProof.Rows.KTD.datumAt w l)=some n:=h;rw[k9 (j9 e)]at h';cases h'
   rw[e];simp
  .have h':(if decide (w=k)=true then some m else PyProof.Rows.KTD.datumAt w l)=some n:=h;rw[h9 (by simpa using e)]at h';exact p8 _ (ug l w n h')
theorem Ri(h:mX w=true):∃t:Tr,t.words=[w]/\t.size=1:=by
 have h1:=ug TK w 0 (l9 h);unfold TK at h1;simp at h1;rcases h1 with rfl | rfl | rfl | rfl
 .exact⟨.never,rfl,rfl⟩
 .exact⟨.always,rfl,rfl⟩
 .exact⟨.lp,rfl,rfl⟩
 .exact⟨.lq,rfl,rfl⟩
theorem Rz(h:lA w=true):∃u:W5,w=u.str:=by
 have h1:=ug TK w 2 (l9 h);unfold TK at h1;simp at h1;rcases h1 with rfl | rfl | rfl | rfl | rfl
 .exact⟨.more,rfl⟩
 .exact⟨.less,rfl⟩
 .exact⟨.greater,rfl⟩
 .exact⟨.lesser,rfl⟩
 .exact⟨.leads,rfl⟩
theorem kg{k:Nat}(h:bL (x::S) ws k=none):∃w r,ws=w::r/\fM w x=true/\bL (eS w S) r (k+1)=none:=by
 cases ws with
 | nil=>cases h
 | cons w r =>
  have h':(if fM w x=true then bL (eS w S) r (k+1) else some k)=none:=h
  by_cases f:fM w x=true
  .rw[k9 f]at h';exact⟨w,r,rfl,f,h'⟩
  .rw[h9 f]at h';cases h'
theorem lQ:∀(n:Nat)(S ws:List Str)(k:Nat),ws.length<=n->bL (("saying":Str)::S) ws k=none->∃(t:Tr)(r:List Str)(j:Nat),ws=t.words++r/\bL S r j=none
 | 0,S,ws,k,hn,h=>by
  obtain⟨w,r,rfl,_⟩:=kg h;simp at hn
 | n+1,S,ws,k,hn,h=>by
  obtain⟨w,r,rfl,f,h1⟩:=kg h;have hr:r.length<=n:=by simpa using hn
  rw[xT]at f
  by_cases h2:w="("
  .subst h2;rw[oE]at h1;obtain⟨a,r1,j1,rfl,h3⟩:=lQ n _ r _ hr h1;obtain⟨w2,r2,rfl,f2,h4⟩:=kg h3;rw[Ce]at f2;obtain⟨u,rfl⟩:=Rz f2;rw[bK u.nop u.nno]at h4
   have hr2:r2.length<=n:=by
    simp only[p7,k8]at hr;omega
   obtain⟨b,r3,j3,rfl,h5⟩:=lQ n _ r2 _ hr2 h4;obtain⟨w3,r4,rfl,f3,h6⟩:=kg h5;rw[xU]at f3;have e3:=l9 f3;subst e3;rw[bK (by decide+kernel) (by decide+kernel)]at h6;exact⟨.fold u a b,r4,_,by simp[Tr.words],h6⟩
  .by_cases h3:w="not"
   .subst h3;rw[lY]at h1;obtain⟨t,r1,j1,rfl,h4⟩:=lQ n _ r _ hr h1;exact⟨.no t,r1,j1,rfl,h4⟩
   .rw[h7 h2,h7 h3,M0,Nm]at f;rw[bK h2 h3]at h1;obtain⟨t,e,_⟩:=Ri f;exact⟨t,r,_,by rw[e];rfl,h1⟩
theorem Qj(h:bL [("saying":Str)] ws 0=none):∃t:Tr,ws=t.words:=by
 obtain⟨t,r,j,rfl,h1⟩:=lQ _ _ ws 0 (f7 _) h;cases r with
 | nil=>exact⟨t,by simp⟩
 | cons x r=>cases h1
end Mine
namespace L2
open PySem PySem.Spec PyProof.Rows
section
variable{X:Cx}
theorem wy{x:V}:∀{xs:List V}{us:List Value},Vals xs us->xs.all jI=true->us.countP (O7 x)=xs.countP (λy=>Ph y x)
 | _,_,.nil,_=>rfl
 | _,_,.cons r t,f=>by
  rw[Nl,t7]at f;rw[List.countP_cons,List.countP_cons,Cj r f.1,wy t f.2]
def QF:V->List V->Hp->VK->Prop:=λx vs H Q=>∃(l:Addr)(ys:List V)(y:V),x=.ref l/\vs=[y]/\H l=some (.lst ys)/\ys.all jI=true/\jI y=true/\Q (.int ((ys.countP λe=>Ph e y:Nat):Int)) H
theorem Gf:PV X "list.count" QF:=by
 intro Nn s σ H x vs v us Q I rx rv h;obtain⟨l,ys,y,rfl,rfl,hH,fl,fy,q⟩:=h;cases rx
 obtain⟨u,rfl,ru⟩:=vals1 rv;obtain⟨z,its,n,r,hl,e⟩:=I.lstM hH;have ec:its.toArray.toList.countP (O7 y)=ys.countP (λe=>Ph e y):=wy r fl;have q':Q (.int ((its.toArray.toList.countP (O7 y):Nat):Int)) H:=by rw[ec];exact q
 exact J7 F.slot_list_count ⟨_,e,rfl⟩ F.entry_list_count (F.args_list_count_2 _ _)
  (PySem.SeqAt.list_countAt l its.toArray n _ _ u (O7 y)) ⟨e,λw hw=>oH ru fy r fl w (by simpa using hw),⟨.int _,H,I.tok _,⟨_,rfl⟩,q'⟩⟩
end
end L2
namespace Mine
open PySem L2
end Mine
namespace L2
open PySem PySem.Spec PyProof.Rows
variable{v y res:Value}{o:Obj}{tg e f:Expr}{te tf ta:TE}{a b it z i1 i2 l1 l2 C r S:Addr}{c:Int}{j1 j2 j3 i k1 k2 kk tk x1 ep c₀:Nat}{p NL pos tp apos:Pos}{h h':Heap}{ys xs:Array Value}{x:Str}{Q E Qv:Value->Shared->Prop}{prog:Program}{A:Around}{s:Shared}{X:Cx}{Nn:List (Addr×Obj)}{σ:St}{H:Hp}{Nw ifs:List Expr}{use:Option (Value->Sem Unit)}{scope:Scope}{env:Env}{R:Result->Shared->Prop}{st:Stmt}{N ps ws ks:List Str}{sp:Sp}{es:Array DictEntry}{pl:Sem Bool}{mg:Str->Option Value}{D:List (Str×List Str)}{vs:List (Key×Value)}{g:TG}{tb:TS}
variable{X:Cx}
noncomputable def me(x:Str)(n:Nat):Str:=⟨(List.replicate n x.cps).foldl (·++·) #[]⟩
theorem Im(x:Str):me x 1=x:=by
 unfold me;simp
theorem foldl_nil(n:Nat):(List.replicate n (#[]:Array Nat)).foldl (·++·) #[]=#[]:=by
 induction n with
 | zero=>rfl
 | succ n ih=>rw[List.replicate_succ,List.foldl_cons];exact ih
theorem foldl_size{α:Type}(a:Array α)(n:Nat):∀b:Array α,((List.replicate n a).foldl (·++·) b).size=b.size+n*a.size:=by
 induction n with
 | zero=>intro b;simp
 | succ n ih=>intro b;rw[List.replicate_succ,List.foldl_cons,ih,Array.size_append,Nat.succ_mul];omega
theorem Io(x:Str)(n:Nat):(me x n).length=n*x.length:=by
 show((List.replicate n x.cps).foldl (·++·) #[]).size=_;rw[foldl_size];show 0+n*x.length=_;omega
section
variable{X:Cx}
theorem DY:NJ X (binaryOp .Mult) (λx y H Q=>∃(i:Str)(n:Nat),x=.str i/\y=.int n/\n<=1000/\i.length<=1000/\Q (.str (me i n)) H):=by
 intro Nn s σ H x y v u Q I rx ry h;obtain⟨i,n,rfl,rfl,hn,hi,q⟩:=h;obtain⟨t,rfl⟩:=rx;obtain⟨t',rfl⟩:=ry;refine PySem.P.mul_str ?_ ?_ ?_ ?_
 .rw[h7 (by omega),h7 (by omega)];rfl
 .intro h1 _ h3;have h4:(0:Int)<n:=by omega
  have h5:(1000:Int)<=(2^63-1)/n:=(Int.le_ediv_iff_mul_le h4).mpr (by omega);omega
 .intro h1 _;have h2:i.length*(n:Int).toNat<=1000*1000:=Nat.mul_le_mul hi (by omega);have h3:(1000*1000:Nat)<sizeLine:=by decide
  unfold Builtin.Str.tooLong;exact h7 (by omega)
 .have fin:∀(t2:Tok)(s2:Shared),Inv X Nn σ H s2->∃y H',Inv X Nn σ H' s2/\RelV y (.str (me i n) t2)/\Q y H':=λt2 s2 I2=>⟨.str (me i n),H,I2,⟨_,rfl⟩,q⟩
  by_cases h1:(n:Int)<1
  .rw[k9 h1];have e:n=0:=by omega
   subst e;exact⟨by decide,fin _ _ (I.tok _)⟩
  .rw[h9 h1]
   by_cases h2:(((n:Int)==1 || i.length==0)=true)
   .rw[k9 h2]
    have e:me i n=i:=by
     rw[Bool.or_eq_true,D4,D4]at h2;rcases h2 with z | z
     .have:n=1:=by omega
      subst this;exact Im i
     .obtain⟨c⟩:=i;have:c=#[]:=Array.eq_empty_of_size_eq_zero z;subst this;unfold me;rw[foldl_nil]
    have:=fin t s I;rw[e]at this;exact this
   .rw[h9 h2];refine⟨?_,fin _ _ (I.tok _)⟩;show(me i n).length<=sizeLine;rw[Io];exact h8 (Nat.mul_le_mul hn hi) (by decide)
theorem part_of{o:Option Int}(h:IsPart v o):∃l:Option (Int×Tok),v=partValue l/\l.map (·.1)=o:=by
 cases h with
 | none=>exact⟨none,rfl,rfl⟩
 | int i t=>exact⟨some (i,t),rfl,rfl⟩
theorem TM:SlR X (λx lo hi H Q=>∃z,x=.str z/\z.length<=sizeLine/\Q (.str (Txt.slice z lo hi)) H):=by
 intro Nn s σ H x v vl vu lo hi sl Q I rx hs pl pu h;obtain⟨z,rfl,hz,q⟩:=h;obtain⟨t,rfl⟩:=rx;obtain⟨l,rfl,rfl⟩:=part_of pl;obtain⟨u,rfl,rfl⟩:=part_of pu;refine⟨"str",_,F.slot_str_getitem.lookup,LM _ _ _,wpAny_getItem_str_slice (l:=l) (u:=u) (st:=none) hs rfl ?_⟩;exact post_val_or_str ⟨h8 (Txt.slice_le z _ _) hz,λt' k=>⟨.str _,H,I.tok k,⟨_,rfl⟩,q⟩⟩
theorem mC:PV X "str.startswith" (λx vs H Q=>∃t y:Str,x=.str t/\vs=[.str y]/\Q (.bl (Txt.startswith t y)) H):=by
 intro Nn s σ H x vs v us Q I rx rv h;obtain⟨t,y,rfl,rfl,q⟩:=h;obtain⟨tx,rfl⟩:=rx;obtain⟨u,rfl,ty,rfl⟩:=rv.one;exact call_gives F.slot_str_startswith (LM _ _ _) F.entry_str_startswith (F.args_str_startswith_2 _ _) (gives_str_startswith t y tx ty) ⟨.bl (Txt.startswith t y),H,I,rfl,q⟩
def Its(x:Str):It:=⟨λi _=>i<x.cps.size,λi H v H'=>H'=H/\∃c,x.cps[i]?=some c/\v=.str ⟨#[c]⟩,λi _=>x.cps.size<=i⟩
theorem HG{P:Program}{w:World}{K:W.Frag}(x:Str)(t:Tok)(it:Addr):Turn P w K tg (Its x) [it] it (λi h=>h.IsStrIter it "str_ascii_iterator" x t i) where
 mem:=by simp
 obj:=λi h st b hb=>by
  have e:b=it:=by simpa using hb
  subst e;obtain⟨o,e,c,d⟩:=st;exact⟨o,e,λv z=>by rw[d]at z;cases z⟩
 keep:=λi h h' st k=>by
  obtain⟨o,e,r⟩:=st;exact⟨o,k it (by simp) o e,r⟩
 item:=by
  intro X hP hw hK hc i Nn s σ H E I hf st hg;subst hP hw hK;obtain⟨f0,f1,f2,f3,f4,f5⟩:=hf it (by simp);have hi:i<x.cps.size:=hg;refine wpAny_pyNext_ascii_item st (c:=x.cps[i]) (by simp[hi]) λh' Rn hs'=>?_;have I1:Inv X Nn σ H {s with heap:=h',toks:=s.toks+1}:=I.turned (t':=s.toks+1) (λb o hb e=>hs'.extBut b o hb e) f0 f1 f3 f4 f5
  obtain⟨o,e,c,d⟩:=id Rn;exact⟨_,rfl,zY (s:={s with heap:=h',toks:=s.toks+1}) e c d (by decide) ⟨.str ⟨#[x.cps[i]]⟩,H,I1,⟨_,rfl⟩,⟨rfl,_,by simp[hi],rfl⟩,Rn,λb hb=>(hf b hb).1⟩⟩
 done:=by
  intro X hP hw hK hc i Nn s σ H E I hf st hg;subst hP hw hK;obtain⟨f0,f1,f2,f3,f4,f5⟩:=hf it (by simp);have hi:x.cps.size<=i:=hg;exact wpAny_pyNext_ascii_end (I.ok.hd hc) st (by simp[hi]) λh' X1=>⟨rfl,I.turned (t':=s.toks) (λb o hb e=>X1 b o hb e) f0 f1 f3 f4 f5⟩
 self:=λ_ _ _ _ _ st h=>wpAny_pyIter_striter_ascii st h
def iStr(te:TE):TI:=λσ H R=>te σ H λv H1=>∃x:Str,v=.str x/\x.cps.all (· < 128)=true/\R (Its x) H1
theorem T4(he:PE X e te):PI X tg e (iStr te):=by
 intro Nn s σ H R I h;refine Nr (he Nn s σ H _ I h) λv s1 zz=>?_;obtain⟨y,H1,I1,r1,q1⟩:=zz;obtain⟨x,rfl,ha,q⟩:=q1;obtain⟨t,rfl⟩:=r1;refine wpAny_pyIter_ascii ha ?_;refine⟨s1.heap.objs.size,[s1.heap.objs.size],_,_,H1,rfl,I1.kept (t':=s1.toks) λb o e=>e9 _ e,HG x t _,⟨_,g7 _ rfl,rfl,rfl⟩,λb hb=>?_,q⟩;have e:b=s1.heap.objs.size:=by simpa using hb
 subst e;exact I1.fpOk (f7 _) (I1.hok.fresh (f7 _))
end
section
variable{X:Cx}{es fs:List Expr}{t:TA}{te:TE}{k j:Nat}{p:Pos}{i:Int}
theorem zt(hr:PA X es t):PA X (.Constant (.int i) j p::es) (gg (tC (.int i)) t):=aa aq hr
theorem SG(ha:PE X (.Tuple fs k p) te)(hr:PA X es t):PA X (.Tuple fs k p::es) (gg te t):=aa ha hr
def Tx(a b c:Int):TE:=Wm (gg (tC (.int a)) (gg (tC (.int b)) (gg (tC (.int c)) nG)))
noncomputable def YH(a b c:Int)(j1 j2 j3 k:Nat)(p1 p2 p3 p:Pos):Expr:=.Tuple [.Constant (.int a) j1 p1,.Constant (.int b) j2 p2,.Constant (.int c) j3 p3] k p
theorem W4{a b:Int}:PE X (.Tuple [.Constant (.int a) j1 p1,.Constant (.int b) j2 p2,.Constant (.int c) j3 p3] k p) (Tx a b c):=by
 unfold Tx;refine bu ?_;refine zt ?_;refine zt ?_;refine zt ?_;exact af
theorem xB{a b:Int}:PE X (YH a b c j1 j2 j3 k p1 p2 p3 p) (Tx a b c):=W4
def tSq:TE:=Wv (gg (Tx 1 0 0) (gg (Tx 1 1 0) (gg (Tx 1 1 1) (gg (Tx 1 0 1) nG))))
structure Zb(e:Expr):Prop where
 ex:∃a1 a2 a3 a4 q1 q2 q3 q4 b1 b2 b3 b4 r1 r2 r3 r4 c1 c2 c3 c4 s1 s2 s3 s4 d1 d2 d3 d4 t1 t2 t3 t4 p,e=.List [YH 1 0 0 a1 a2 a3 a4 q1 q2 q3 q4,YH 1 1 0 b1 b2 b3 b4 r1 r2 r3 r4,YH 1 1 1 c1 c2 c3 c4 s1 s2 s3 s4,YH 1 0 1 d1 d2 d3 d4 t1 t2 t3 t4] p
theorem W3(h:Zb e):PE X e tSq:=by
 obtain⟨a1,a2,a3,a4,q1,q2,q3,q4,b1,b2,b3,b4,r1,r2,r3,r4,c1,c2,c3,c4,s1,s2,s3,s4,d1,d2,d3,d4,t1,t2,t3,t4,p,rfl⟩:=h.ex;unfold tSq;refine bg ?_;refine aa xB ?_ rfl;refine aa xB ?_ rfl;refine aa xB ?_ rfl;refine aa xB ?_ rfl;exact af
end
open PySem.AutoSeq1
theorem cQ{t:Addr}(z:h.IsTupleIter it t i)(k:∀o,h.get? it=some o->h'.get? it=some o):h'.IsTupleIter it t i:=let ⟨o,e,r⟩:=z;⟨o,k o e,r⟩
theorem eX{t:Addr}(z:h.IsTuple t ys)(k:∀o,h.get? t=some o->h'.get? t=some o):h'.IsTuple t ys:=let ⟨o,e,r⟩:=z;⟨o,k o e,r⟩
section
variable{prog:Program}{w:World}{A:Around}{E:Value->Shared->Prop}{s:Shared}
theorem EA{TI TO:Addr}{x a b:Value}(D:ZipApart z TI TO i1 i2 l1 l2)
  (gz:IsZip s.heap z TI TO .none)(gI:IsPair s.heap TI (.ref i1) (.ref i2))(gO:IsPair s.heap TO a b)(t1:s.heap.IsTupleIter i1 l1 k1)(t2:s.heap.IsTupleIter i2 l2 k2)(p1:s.heap.IsTuple l1 xs)(p2:s.heap.IsTuple l2 ys)(ex:xs[k1]?=some x)(ey:ys[k2]?=some y)
  (k:∀h',IsZip h' z TI TO (rawInt s.heap.objs.size)->IsPair h' TO x y->h'.IsTupleIter i1 l1 (k1+1)->h'.IsTupleIter i2 l2 (k2+1)->IsPair h' s.heap.objs.size x y->(∀c o,c≠z->c≠TO->c≠i1->c≠i2->s.heap.get? c=some o->h'.get? c=some o)->Q (.ref s.heap.objs.size) {s with heap:=h' }) :
  wpAny (model prog w) A (Builtin.«zip.__next__» ⟨[.ref z],[]⟩) (λfin s'=>∃v,fin=.done (.ret v)/\Q v s') E s:=by
 show wpAny _ _ (field (.ref z) 2 >>= _) _ _ _;refine b6 (B1 gz rfl (x:=.bool false) rfl ?_);show wpAny _ _ (field (.ref z) 3 >>= _) _ _ _;refine b6 (B1 gz rfl (x:=.ref TI) rfl ?_);refine b6 (C6 gI rfl ?_);show wpAny _ _ (Builtin.SmallTypes.ownedTupleIsFree (.ref z) >>= _) _ _ _;refine b6 ?_;unfold Builtin.SmallTypes.ownedTupleIsFree;refine b6 (B1 gz rfl (x:=.none) rfl (f6 ?_));simp only[MS];refine b6 (Nd ?_);refine b6 (B1 gz rfl (x:=.ref TO) rfl ?_);refine b6 (D5 gz (by simp) λm1 PD b1=>?_);replace PD:IsZip m1 z TI TO .ellipsis:=PD;refine b6 ?_;simp only[M9,Nf,G4,MG];refine b6 (b6 (Mc ?_));show wpAny _ _ (Builtin.SmallTypes.nextOf (.ref i1) >>= _) _ _ _;refine b6 (mU (cQ t1 λo e=>b1.extBut _ _ D.i1z e) (eX p1 λo e=>b1.extBut _ _ D.l1z e) ex λm2 u2 b2=>f6 ?_);have Yy:IsPair m2 TO a b:=b2.extBut _ _ D.TOi1 (b1.extBut _ _ D.TOz gO);refine b6 (C6 Yy rfl ?_);refine b6 (Lm Yy λm3 U8 b3=>?_);replace U8:IsPair m3 TO x b:=U8;refine b6 (MU (f6 ?_));refine b6 (b6 (Mc ?_));show wpAny _ _ (Builtin.SmallTypes.nextOf (.ref i2) >>= _) _ _ _;have e3:∀c o,c≠z->c≠TO->c≠i1->s.heap.get? c=some o->m3.get? c=some o:=λc o n1 n2 n3 e=>b3.extBut _ _ n2 (b2.extBut _ _ n3 (b1.extBut _ _ n1 e));refine b6 (mU (cQ t2 λo e=>e3 _ o D.i2z D.TOi2.symm D.i12.symm e) (eX p2 λo e=>e3 _ o D.l2z D.l2TO D.l2i1 e) ey λm4 u4 b4=>f6 ?_);have Yx:IsPair m4 TO x b:=b4.extBut _ _ D.TOi2 U8;refine b6 (C6 Yx rfl ?_);refine b6 (Lm Yx λm5 Ru b5=>?_);replace Ru:IsPair m5 TO x y:=Ru;refine b6 (MU (f6 (f6 ?_)));refine b6 (C6 Ru rfl ?_);refine b6 (wpAny_newTuple ?_);have WH:m5.objs.size=s.heap.objs.size:=by rw[b5.1,b4.1,b3.1,b2.1,b1.1]
 have e5:∀c o,c≠TO->c≠i2->m3.get? c=some o->m5.get? c=some o:=λc o n1 n2 e=>b5.extBut _ _ n1 (b4.extBut _ _ n2 e);have X8:IsZip m5 z TI TO .ellipsis:=e5 _ _ D.TOz.symm D.i2z.symm (b3.extBut _ _ D.TOz.symm (b2.extBut _ _ D.i1z.symm PD));have u5:m5.IsTupleIter i1 l1 (k1+1):=cQ u2 λo e=>e5 _ o D.TOi1.symm D.i12 (b3.extBut _ _ D.TOi1.symm e);have v5:m5.IsTupleIter i2 l2 (k2+1):=cQ u4 λo e=>b5.extBut _ _ D.TOi2.symm e;have zl:z<m5.objs.size:=f9 X8;show wpAny _ _ (Builtin.SmallTypes.ownedTupleHandOut (.ref z) (.ref m5.objs.size) >>= _) _ _ _;refine b6 ?_;unfold Builtin.SmallTypes.ownedTupleHandOut;have gz6:IsZip (m5.push {cls:=.type "tuple",data:=.seq #[x,y] }) z TI TO .ellipsis:=e9 _ X8;refine b6 (D5 gz6 (by simp) λm7 UN b7=>?_);replace UN:IsZip m7 z TI TO (rawInt m5.objs.size):=UN;refine D5 UN (by simp) λm8 Rr b8=>?_;replace Rr:IsZip m8 z TI TO (rawInt m5.objs.size):=Rr;have e8:∀c o,c≠z->m5.get? c=some o->m8.get? c=some o:=λc o n1 e=>b8.extBut _ _ n1 (b7.extBut _ _ n1 (e9 _ e));have gT:IsPair m8 m5.objs.size x y:=b8.extBut _ _ (D9 zl) (b7.extBut _ _ (D9 zl) (g7 _ rfl));rw[WH]at Rr gT;refine f6 ⟨_,rfl,?_⟩;show Q (.ref m5.objs.size) _;rw[WH];exact k m8 Rr (e8 _ _ D.TOz Ru) (cQ u5 λo e=>e8 _ o D.i1z e) (cQ v5 λo e=>e8 _ o D.i2z e) gT λc o n1 n2 n3 n4 e=>e8 c o n1 (e5 c o n2 n4 (e3 c o n1 n2 n3 e))
theorem nC{TI TO:Addr}{a b:Value}{Q:Fin->Shared->Prop}(hd:A.handled=none)(D:ZipApart z TI TO i1 i2 l1 l2)
  (gz:IsZip s.heap z TI TO .none)(gI:IsPair s.heap TI (.ref i1) (.ref i2))(gO:IsPair s.heap TO a b)(t1:s.heap.IsTupleIter i1 l1 k1)(p1:s.heap.IsTuple l1 xs)(ex:xs[k1]?=none)
  (k:∀h' e,(∀c o,c≠z->c≠TO->c≠i1->c≠i2->s.heap.get? c=some o->h'.get? c=some o)->(∃o,h'.get? e=some o/\o.cls=.type "StopIteration")->E (.ref e) {s with heap:=h' }) :
  wpAny (model prog w) A (Builtin.«zip.__next__» ⟨[.ref z],[]⟩) Q E s:=by
 show wpAny _ _ (field (.ref z) 2 >>= _) _ _ _;refine b6 (B1 gz rfl (x:=.bool false) rfl ?_);show wpAny _ _ (field (.ref z) 3 >>= _) _ _ _;refine b6 (B1 gz rfl (x:=.ref TI) rfl ?_);refine b6 (C6 gI rfl ?_);show wpAny _ _ (Builtin.SmallTypes.ownedTupleIsFree (.ref z) >>= _) _ _ _;refine b6 ?_;unfold Builtin.SmallTypes.ownedTupleIsFree;refine b6 (B1 gz rfl (x:=.none) rfl (f6 ?_));simp only[MS];refine b6 (Nd ?_);refine b6 (B1 gz rfl (x:=.ref TO) rfl ?_);refine b6 (D5 gz (by simp) λm1 PD b1=>?_);replace PD:IsZip m1 z TI TO .ellipsis:=PD;refine b6 ?_;simp only[M9,Nf,G4,MG];refine b6 (b6 (Mc ?_));show wpAny _ _ (Builtin.SmallTypes.nextOf (.ref i1) >>= _) _ _ _;refine b6 (uV hd (cQ t1 λo e=>b1.extBut _ _ D.i1z e) (eX p1 λo e=>b1.extBut _ _ D.l1z e) ex λm2 e b2 he=>?_);obtain⟨oe,ge,ce⟩:=he;have gz2:IsZip m2 z TI TO .ellipsis:=b2 _ _ D.i1z.symm PD;have ne:e≠z:=λq=>by subst q;rw[gz2]at ge;cases ge;simp at ce
 refine D5 gz2 (by simp) λm3 _ b3=>k m3 e (λc o n1 _ n3 _ q=>b3.extBut _ _ n1 (b2 _ _ n3 (b1.extBut _ _ n1 q))) ⟨oe,b3.extBut _ _ ne ge,ce⟩
theorem EE(hd:A.handled=none)(z TI TO i1 i2 l1 l2:Addr)(D:ZipApart z TI TO i1 i2 l1 l2)(xs ys:Array Value)(hle:xs.size<=ys.size) :
  WalksT prog w A z [z,TI,TO,i1,i2,l1,l2] [z,TO,i1,i2] xs.size (λi NF=>∃x y,xs[i]?=some x/\ys[i]?=some y/\NF=#[x,y])
   (λi h=>IsZip h z TI TO .none/\IsPair h TI (.ref i1) (.ref i2)/\(∃a b,IsPair h TO a b)/\h.IsTupleIter i1 l1 i/\h.IsTupleIter i2 l2 i/\h.IsTuple l1 xs/\h.IsTuple l2 ys)
   (λi T h=>IsZip h z TI TO (rawInt T)/\IsPair h TI (.ref i1) (.ref i2)/\(∃a b,IsPair h TO a b)/\h.IsTupleIter i1 l1 (i+1)/\h.IsTupleIter i2 l2 (i+1)/\h.IsTuple l1 xs/\h.IsTuple l2 ys/\T≠z/\T≠TO/\T≠i1/\T≠i2) where
 sub:=λc hc=>by
  simp only[j8,z8,E9]at hc ⊢;rcases hc with q | q | q | q<;>simp[q]
 frame:=λi h h' st kp=>by
  obtain⟨q1,q2,⟨a,b,q3⟩,q4,q5,q6,q7⟩:=st;exact⟨kp z (by simp) _ q1,kp TI (by simp) _ q2,⟨a,b,kp TO (by simp) _ q3⟩,cQ q4 λo e=>kp i1 (by simp) o e,cQ q5 λo e=>kp i2 (by simp) o e,eX q6 λo e=>kp l1 (by simp) o e,eX q7 λo e=>kp l2 (by simp) o e⟩
 item:=λi s Q E hi st k=>by
  obtain⟨q1,q2,⟨a,b,q3⟩,q4,q5,q6,q7⟩:=st;have hx:xs[i]?=some xs[i]:=C8 hi;have hy:ys[i]?=some (ys[i]'(by omega)):=C8 (by omega);have hT:s.TypeIs (.ref z) "zip":=⟨_,q1,rfl⟩;have lt:∀{c o},s.heap.get? c=some o->s.heap.objs.size≠c:=λe=>D9 (f9 e);unfold pyNext;refine b6 (E6 (A1 (name:=Str.ofString "__next__") hT B7 (B2 B7 hT J2 (EA D q1 q2 q3 q4 q5 q6 q7 hx hy λh' a1 a2 a3 a4 a5 kp=>f6 ?_) (G7 _))))
  exact k s.heap.objs.size #[xs[i],ys[i]'(by omega)] h' s.toks ⟨_,_,hx,hy,rfl⟩ (f7 _) ⟨_,a5,rfl,_,rfl⟩
   ⟨a1,kp _ _ D.TIz D.TITO D.TIi1 D.TIi2 q2,⟨_,_,a2⟩,a3,a4,eX q6 λo e=>kp _ o D.l1z D.l1TO D.l1i1 D.l1i2 e,eX q7 λo e=>kp _ o D.l2z D.l2TO D.l2i1 D.l2i2 e,lt q1,lt q3,(by obtain⟨_,e,_⟩:=q4;exact lt e),(by obtain⟨_,e,_⟩:=q5;exact lt e)⟩
   λc o hc e=>kp c o (λq=>hc (by simp[q])) (λq=>hc (by simp[q])) (λq=>hc (by simp[q])) (λq=>hc (by simp[q])) e
 go:=λNw kk pos i T s Q E hm k=>by
  obtain⟨q1,q2,⟨a,b,q3⟩,q4,q5,q6,q7,_⟩:=hm;refine wpAny_letOwnedTupleGo_zip q1 λh' gz' b'=>k h' ⟨gz',b'.extBut _ _ D.TIz q2,⟨a,b,b'.extBut _ _ D.TOz q3⟩,cQ q4 λo e=>b'.extBut _ _ D.i1z e,cQ q5 λo e=>b'.extBut _ _ D.i2z e,eX q6 λo e=>b'.extBut _ _ D.l1z e,eX q7 λo e=>b'.extBut _ _ D.l2z e⟩ λc o hc e=>b'.extBut _ _ (λq=>hc (by simp[q])) e
 apart:=λi T h hm hT=>by
  obtain⟨_,_,_,_,_,_,_,n1,n2,n3,n4⟩:=hm;simp only[j8,z8,E9]at hT;rcases hT with q | q | q | q
  .exact n1 q
  .exact n2 q
  .exact n3 q
  .exact n4 q
 done:=λs Q E st k=>by
  obtain⟨q1,q2,⟨a,b,q3⟩,q4,q5,q6,q7⟩:=st;have hT:s.TypeIs (.ref z) "zip":=⟨_,q1,rfl⟩;unfold pyNext;refine b6 (E6 (A1 (name:=Str.ofString "__next__") hT B7 (B2 B7 hT J2 (nC hd D q1 q2 q3 q4 q6 (LW (f7 _)) λh' e kp ge=>?_) (G7 _))));obtain⟨o,ho,hc⟩:=ge;refine b6 (F6 (T:="StopIteration") (b:=true) ⟨o,ho,hc⟩ L4 ?_);exact f6 (k h' s.toks λc o hc e=>kp c o (λq=>hc (by simp[q])) (λq=>hc (by simp[q])) (λq=>hc (by simp[q])) (λq=>hc (by simp[q])) e)
 self:=λi s Q E st k=>E3 st.1 k
end
noncomputable abbrev Zk (h:Heap) (a:Addr):Heap:=h.push (sf a)
noncomputable abbrev Zj (h:Heap) (a b:Addr):Heap:=(Zk h a).push (sf b)
noncomputable abbrev Zi (h:Heap) (a b:Addr):Heap:=(Zj h a b).push {cls:=.type "tuple",data:=.seq #[.ref h.objs.size,.ref (Zk h a).objs.size] }
noncomputable abbrev Zh (h:Heap) (a b:Addr):Heap:=(Zi h a b).push {cls:=.type "tuple",data:=.seq #[.none,.none] }
noncomputable abbrev VL (h:Heap) (a b:Addr):Heap:=(Zh h a b).push {cls:=.type "zip",data:=.fields #[.none,.bool false,.bool false,.ref (Zj h a b).objs.size,.ref (Zi h a b).objs.size] }
theorem Hy(a b:Addr)(xs ys:Array Value):Meets (Builtin.«zip.__new__» ⟨[.type "zip",.ref a,.ref b],[]⟩) (λ_ R s=>s.heap.IsTuple a xs/\s.heap.IsTuple b ys/\R (.ok (.ret (.ref (Zh s.heap a b).objs.size))) {s with heap:=VL s.heap a b}):=
 .of_wp λprog w A R s h=>by
  obtain⟨hp,g,d,tk,os⟩:=s;obtain⟨q1,q2,h⟩:=h;have su:=sub_zip;have t1:Heap.IsTuple (Shared.heap ⟨hp,g,d,tk,os⟩) a xs:=q1;have t2:Heap.IsTuple (Shared.heap ⟨hp.push (sf a),g,d,tk,os⟩) b ys:=eX q2 λo e=>e9 _ e
  wp_walk using LK t1,LK t2
  exact⟨_,rfl,h⟩
theorem GC(q1:s.heap.IsTuple a xs)(q2:s.heap.IsTuple b ys)
  (k:∀h',IsZip h' (s.heap.objs.size+4) (s.heap.objs.size+2) (s.heap.objs.size+3) .none->IsPair h' (s.heap.objs.size+2) (.ref s.heap.objs.size) (.ref (s.heap.objs.size+1))->IsPair h' (s.heap.objs.size+3) .none .none->
   h'.IsTupleIter s.heap.objs.size a 0->h'.IsTupleIter (s.heap.objs.size+1) b 0->(∀c o,s.heap.get? c=some o->h'.get? c=some o)->Q (.ref (s.heap.objs.size+4)) {s with heap:=h' }):wpAny (model prog w) A (call (.type "zip") [.ref a,.ref b]) Q E s:=by
 refine callType_new F.called_zip (by decide) (F.typeCall_zip_2 _ _) (F.newCall_zip_2 _ _) (λobj=>F.args_object_init_3 obj _ _) F.entry_zip_new (Hy a b xs ys) ⟨q1,q2,?_⟩;have z1:(Zk s.heap a).objs.size=s.heap.objs.size+1:=A7 ..;have z2:(Zj s.heap a b).objs.size=s.heap.objs.size+2:=by rw[A7,z1]
 have z3:(Zi s.heap a b).objs.size=s.heap.objs.size+3:=by rw[A7,z2]
 have z4:(Zh s.heap a b).objs.size=s.heap.objs.size+4:=by rw[A7,z3]
 have up:∀{h:Heap}{o:Obj}{c:Addr}{q:Obj},h.get? c=some q->(h.push o).get? c=some q:=λe=>e9 _ e;have g5:(VL s.heap a b).get? (Zh s.heap a b).objs.size=some _:=g7 _ rfl;have g4:(VL s.heap a b).get? (Zi s.heap a b).objs.size=some _:=up (g7 _ rfl);have g3:(VL s.heap a b).get? (Zj s.heap a b).objs.size=some _:=up (up (g7 _ rfl));have g2:(VL s.heap a b).get? (Zk s.heap a).objs.size=some _:=up (up (up (g7 _ rfl)));have g1:(VL s.heap a b).get? s.heap.objs.size=some _:=up (up (up (up (g7 _ rfl))));show _/\_;rw[z2,z3,z4]at g5;rw[z1,z2]at g3;rw[z3]at g4;rw[z1]at g2;rw[z4];exact⟨⟨_,g5,rfl⟩,k _ g5 g3 g4 ⟨_,g1,rfl,rfl⟩ ⟨_,g2,rfl,rfl⟩ λc o e=>up (up (up (up (up e))))⟩
def Sr(K:W.Frag)(a b:Addr):Nat->Hp->List V->Prop:=λi H vs=>∃x y,vs=[x,y]/\(∀xs,Nv K H a xs->xs[i]?=some x)/\∀ys,Nv K H b ys->ys[i]?=some y
def VE(K:W.Frag)(a b:Addr):It:=V8 (λi H=>∃xs ys,Nv K H a xs/\Nv K H b ys/\i<xs.length/\xs.length<=ys.length) (Sr K a b) λi H=>∃xs ys,Nv K H a xs/\Nv K H b ys/\xs.length<=i/\xs.length<=ys.length
def Ti(a b z TI TO i1 i2:Addr)(i:Nat)(h:Heap):Prop:=IsZip h z TI TO .none/\IsPair h TI (.ref i1) (.ref i2)/\(∃u v,IsPair h TO u v)/\h.IsTupleIter i1 a i/\h.IsTupleIter i2 b i
theorem gw{xs:List V}(I:Inv X Nn σ H s)(h:Nv X.K H a xs)(f:gR X Nn H b):a≠b:=by
 intro e;subst e;obtain⟨f0,_,_,f3,_⟩:=f;rcases h with(h | ⟨o,h⟩) | ⟨o,its,n,hk,_⟩
 .rw[f0]at h;cases h
 .rw[f0]at h;cases h
 .have g:=I.ok.mod.kin a o hk;rcases f3 with z | z
  .exact I.ok.noex a o g z
  .exact absurd (i5 (f9 g) (h8 I.ok.bsz z)) (y7 _)
theorem Df{TI TO:Addr}{xs ys:List V}(I:Inv X Nn σ H s)(o:GU z TI TO i1 i2)(hf:∀c∈[z,TI,TO,i1,i2],gR X Nn H c)(la:Nv X.K H a xs)(lb:Nv X.K H b ys):ZipApart z TI TO i1 i2 a b:=
 ⟨o.a1,o.a2,o.a3,o.a4,o.a5,o.a6,o.a7,o.a8,o.a9,o.a10,gw I la (hf z (by simp)),gw I la (hf TO (by simp)),gw I la (hf i1 (by simp)),gw I la (hf i2 (by simp)),gw I lb (hf z (by simp)),gw I lb (hf TO (by simp)),gw I lb (hf i1 (by simp)),gw I lb (hf i2 (by simp))⟩
theorem Sg{TI TO:Addr}(st:Ti a b z TI TO i1 i2 i h):∀c∈[z,TI,TO,i1,i2],∃o,h.get? c=some o/\∀v,o.data≠.cell v:=by
 intro c hc;obtain⟨hz,Pf,⟨u,v,OV⟩,⟨o1,g1,_,d1⟩,⟨o2,g2,_,d2⟩⟩:=st;simp only[j8,z8,E9]at hc;rcases hc with rfl | rfl | rfl | rfl | rfl
 .exact⟨_,hz,λv z=>by cases z⟩
 .exact⟨_,Pf,λv z=>by cases z⟩
 .exact⟨_,OV,λv z=>by cases z⟩
 .exact⟨_,g1,λv z=>by rw[d1]at z;cases z⟩
 .exact⟨_,g2,λv z=>by rw[d2]at z;cases z⟩
theorem EH{P:Program}{w:World}{K:W.Frag}(a b z TI TO i1 i2:Addr)(own:GU z TI TO i1 i2) :
  Turn P w K (.Tuple Nw kk NL) (VE K a b) [z,TI,TO,i1,i2] z (Ti a b z TI TO i1 i2) where
 mem:=by simp
 obj:=λi h st c hc=>Sg st c hc
 keep:=λi h h' st k=>by
  obtain⟨hz,Pf,⟨u,v,OV⟩,l1,l2⟩:=st;exact⟨k z (by simp) _ hz,k TI (by simp) _ Pf,⟨u,v,k TO (by simp) _ OV⟩,cQ l1 λo q=>k i1 (by simp) o q,cQ l2 λo q=>k i2 (by simp) o q⟩
 item:=by
  intro X hP hw hK hc i Nn s σ H E I hf st hg;subst hP hw hK;obtain⟨xs,ys,hq,Oe,hi,hle⟩:=hg;obtain⟨its,rv,p,hz⟩:=I.tuple hq;obtain⟨ND,Pb,p2,SU⟩:=I.tuple Oe;have hx:xs[i]?=some xs[i]:=g0 hi;have hy:ys[i]?=some (ys[i]'(by omega)):=g0 (by omega);obtain⟨u,hu,ru⟩:=rv.get hx;obtain⟨u2,VY,WX⟩:=Pb.get hy;have e1:=rv.length;have e2:=Pb.length;have D:=Df I own hf hq Oe;have W:=EE (prog:=X.prog) (w:=X.w) (A:=X.A) (I.ok.hd hc) z TI TO i1 i2 a b D its.toArray ND.toArray (by simp only[i8];omega);obtain⟨s1,s2,s3,s4,s5⟩:=id st
  refine jl (fp:=[z,TI,TO,i1,i2]) (vs:=[xs[i],ys[i]'(by omega)]) (src:=Sr X.K a b) (tn:=Ti a b z TI TO i1 i2) W I hf (λc hc=>let ⟨o,q,_⟩:=Sg st c hc;⟨o,q⟩) (λc hc=>?_) (by simp only[i8];omega) ⟨s1,s2,s3,s4,s5,p,p2⟩ (λNF hP=>?_) Mine.z2
   ⟨_,_,rfl,λzs Px=>by rw[I.tuple_inj Px hq];exact hx,λzs Px=>by rw[I.tuple_inj Px Oe];exact hy⟩ λh st=>⟨st.1,st.2.1,st.2.2.1,st.2.2.2.1,st.2.2.2.2.1⟩
  .simp only[j8,z8,E9]at hc ⊢;rcases hc with q | q | q | q<;>simp[q]
  .obtain⟨v1,v2,e1,e2,rfl⟩:=hP
   have f1:v1=u:=by
    have q:its[i]?=some v1:=by simpa using e1
    rw[hu]at q;exact(i7 q).symm
   have f2:v2=u2:=by
    have q:ND[i]?=some v2:=by simpa using e2
    rw[VY]at q;exact(i7 q).symm
   subst f1 f2;exact .cons ru (.cons WX .nil)
 done:=by
  intro X hP hw hK hc i Nn s σ H E I hf st hg;subst hP hw hK;obtain⟨xs,ys,hq,Oe,UJ,hle⟩:=hg;obtain⟨its,rv,p,hz⟩:=I.tuple hq;have D:=Df I own hf hq Oe;obtain⟨s1,s2,⟨u,v,s3⟩,s4,s5⟩:=id st;have e1:=rv.length;have hT:s.TypeIs (.ref z) "zip":=⟨_,s1,rfl⟩;have pT:s.heap.IsTuple a its.toArray:=p;unfold pyNext;refine b6 (E6 (A1 (name:=Str.ofString "__next__") hT B7 (B2 B7 hT J2 (nC (I.ok.hd hc) D s1 s2 s3 s4 pT (by simp;omega) λh' e kp ge=>?_) (G7 _))));obtain⟨o,ho,O5⟩:=ge;refine b6 (F6 (T:="StopIteration") (b:=true) ⟨o,ho,O5⟩ L4 ?_);exact f6 ⟨rfl,I.turnedL (t':=s.toks) (λc o hc q=>kp c o (λe=>hc (by simp[e])) (λe=>hc (by simp[e])) (λe=>hc (by simp[e])) (λe=>hc (by simp[e])) q) hf⟩
 self:=λ_ _ _ _ _ st h=>E3 st.1 h
section
variable{X:Cx}
def Xr(K:W.Frag)(ta tb:TE):TI:=λσ H R=>ta σ H λx H1=>tb σ H1 λy H2=>∃a b xs ys,x=.ref a/\y=.ref b/\Nv K H2 a xs/\Nv K H2 b ys/\R (VE K a b) H2
theorem QL(hg:Gl X "zip")(hm:X.mg "zip"=none)(he:PE X e te)(hf:PE X f tf)
  (hs:starEach [e,f] X.env=[(false,eval e X.env),(false,eval f X.env)]:=by rfl)(Od:starEach [f] X.env=[(false,eval f X.env)]:=by rfl):PI X (.Tuple Nw kk NL) (.Call (.Name "zip" p) [e,f] [] pos) (Xr X.K te tf):=by
 intro Nn s σ H R I h;have b1:bootBuiltins "zip"=some (.type "zip"):=by decide+kernel
 refine z7 (gQ I hg hm b1 ?_ (by decide) (by decide));refine y8 ?_ (by rw[hs,Od]) (by rw[Od];rfl);rw[hs];refine A2 (Nr (he Nn s σ H _ I h) λu s1 zz=>?_);obtain⟨x,H1,I1,rx,q1⟩:=zz;refine A2 (Nr (hf Nn s1 σ H1 _ I1 q1) λu2 s2 zz=>?_);obtain⟨y,H2,I2,ry,a,b,xs,ys,ex,ey,hq,Oe,q⟩:=zz;subst ex ey;have eu:u=Value.ref a:=rx;have YG:u2=Value.ref b:=ry;subst eu YG;refine C3 ?_;obtain⟨its,rv,pl,hz⟩:=I2.tuple hq;obtain⟨ND,Pb,W2,SU⟩:=I2.tuple Oe;refine GC (show s2.heap.IsTuple a its.toArray from pl) (show s2.heap.IsTuple b ND.toArray from W2) λh' z TI TO i1 i2 kp=>?_;have I3:Inv X Nn σ H2 {s2 with heap:=h' }:=I2.kept (t':=s2.toks) kp
 refine E3 (s:={s2 with heap:=h' }) z ?_
 have ne:∀i j:Nat,i≠j->s2.heap.objs.size+i≠s2.heap.objs.size+j:=λi j XZ e=>XZ (Mu e)
 refine⟨_,[s2.heap.objs.size+4,s2.heap.objs.size+2,s2.heap.objs.size+3,s2.heap.objs.size,s2.heap.objs.size+1],_,VE X.K a b,H2,rfl,I3,
  EH a b _ _ _ _ _ ⟨ne 2 4 (by decide),ne 3 4 (by decide),ne 0 4 (by decide),ne 1 4 (by decide),ne 2 3 (by decide),ne 2 0 (by decide),ne 2 1 (by decide),ne 3 0 (by decide),ne 3 1 (by decide),ne 0 1 (by decide)⟩,
  ⟨z,TI,⟨_,_,TO⟩,i1,i2⟩,λc hc=>?_,q⟩
 have nb:s2.heap.objs.size<=c:=by
  simp only[j8,z8,E9]at hc;rcases hc with rfl | rfl | rfl | rfl | rfl
  .exact A9 _ _
  .exact A9 _ _
  .exact A9 _ _
  .exact f7 _
  .exact A9 _ _
 exact I2.fpOk nb (I2.hok.fresh nb)
end
section
variable{prog:Program}{w:World}{A:Around}{E:Value->Shared->Prop}{s:Shared}
theorem AK{TI TO:Addr}{x a b:Value}(D:ZipApart z TI TO i1 i2 l1 l2)
  (gz:IsZip s.heap z TI TO .none)(gI:IsPair s.heap TI (.ref i1) (.ref i2))(gO:IsPair s.heap TO a b)(t1:s.heap.IsTupleIter i1 l1 k1)(t2:s.heap.IsListIter i2 l2 k2)(p1:s.heap.IsTuple l1 xs)(p2:s.heap.IsList l2 ys)(ex:xs[k1]?=some x)(ey:ys[k2]?=some y)
  (k:∀h',IsZip h' z TI TO (rawInt s.heap.objs.size)->IsPair h' TO x y->h'.IsTupleIter i1 l1 (k1+1)->h'.IsListIter i2 l2 (k2+1)->IsPair h' s.heap.objs.size x y->(∀c o,c≠z->c≠TO->c≠i1->c≠i2->s.heap.get? c=some o->h'.get? c=some o)->Q (.ref s.heap.objs.size) {s with heap:=h' }) :
  wpAny (model prog w) A (Builtin.«zip.__next__» ⟨[.ref z],[]⟩) (λfin s'=>∃v,fin=.done (.ret v)/\Q v s') E s:=by
 show wpAny _ _ (field (.ref z) 2 >>= _) _ _ _;refine b6 (B1 gz rfl (x:=.bool false) rfl ?_);show wpAny _ _ (field (.ref z) 3 >>= _) _ _ _;refine b6 (B1 gz rfl (x:=.ref TI) rfl ?_);refine b6 (C6 gI rfl ?_);show wpAny _ _ (Builtin.SmallTypes.ownedTupleIsFree (.ref z) >>= _) _ _ _;refine b6 ?_;unfold Builtin.SmallTypes.ownedTupleIsFree;refine b6 (B1 gz rfl (x:=.none) rfl (f6 ?_));simp only[MS];refine b6 (Nd ?_);refine b6 (B1 gz rfl (x:=.ref TO) rfl ?_);refine b6 (D5 gz (by simp) λm1 PD b1=>?_);replace PD:IsZip m1 z TI TO .ellipsis:=PD;refine b6 ?_;simp only[M9,Nf,G4,MG];refine b6 (b6 (Mc ?_));show wpAny _ _ (Builtin.SmallTypes.nextOf (.ref i1) >>= _) _ _ _;refine b6 (mU (cQ t1 λo e=>b1.extBut _ _ D.i1z e) (eX p1 λo e=>b1.extBut _ _ D.l1z e) ex λm2 u2 b2=>f6 ?_);have Yy:IsPair m2 TO a b:=b2.extBut _ _ D.TOi1 (b1.extBut _ _ D.TOz gO);refine b6 (C6 Yy rfl ?_);refine b6 (Lm Yy λm3 U8 b3=>?_);replace U8:IsPair m3 TO x b:=U8;refine b6 (MU (f6 ?_));refine b6 (b6 (Mc ?_));show wpAny _ _ (Builtin.SmallTypes.nextOf (.ref i2) >>= _) _ _ _;have e3:∀c o,c≠z->c≠TO->c≠i1->s.heap.get? c=some o->m3.get? c=some o:=λc o n1 n2 n3 e=>b3.extBut _ _ n2 (b2.extBut _ _ n3 (b1.extBut _ _ n1 e));refine b6 (wpAny_nextOf_list_item (t2.at λo e=>e3 _ o D.i2z D.TOi2.symm D.i12.symm e) (p2.at λo e=>e3 _ o D.l2z D.l2TO D.l2i1 e) ey λm4 u4 b4=>f6 ?_);have Yx:IsPair m4 TO x b:=b4.extBut _ _ D.TOi2 U8;refine b6 (C6 Yx rfl ?_);refine b6 (Lm Yx λm5 Ru b5=>?_);replace Ru:IsPair m5 TO x y:=Ru;refine b6 (MU (f6 (f6 ?_)));refine b6 (C6 Ru rfl ?_);refine b6 (wpAny_newTuple ?_);have WH:m5.objs.size=s.heap.objs.size:=by rw[b5.1,b4.1,b3.1,b2.1,b1.1]
 have e5:∀c o,c≠TO->c≠i2->m3.get? c=some o->m5.get? c=some o:=λc o n1 n2 e=>b5.extBut _ _ n1 (b4.extBut _ _ n2 e);have X8:IsZip m5 z TI TO .ellipsis:=e5 _ _ D.TOz.symm D.i2z.symm (b3.extBut _ _ D.TOz.symm (b2.extBut _ _ D.i1z.symm PD));have u5:m5.IsTupleIter i1 l1 (k1+1):=cQ u2 λo e=>e5 _ o D.TOi1.symm D.i12 (b3.extBut _ _ D.TOi1.symm e);have v5:m5.IsListIter i2 l2 (k2+1):=u4.at λo e=>b5.extBut _ _ D.TOi2.symm e;have zl:z<m5.objs.size:=f9 X8;show wpAny _ _ (Builtin.SmallTypes.ownedTupleHandOut (.ref z) (.ref m5.objs.size) >>= _) _ _ _;refine b6 ?_;unfold Builtin.SmallTypes.ownedTupleHandOut;have gz6:IsZip (m5.push {cls:=.type "tuple",data:=.seq #[x,y] }) z TI TO .ellipsis:=e9 _ X8;refine b6 (D5 gz6 (by simp) λm7 UN b7=>?_);replace UN:IsZip m7 z TI TO (rawInt m5.objs.size):=UN;refine D5 UN (by simp) λm8 Rr b8=>?_;replace Rr:IsZip m8 z TI TO (rawInt m5.objs.size):=Rr;have e8:∀c o,c≠z->m5.get? c=some o->m8.get? c=some o:=λc o n1 e=>b8.extBut _ _ n1 (b7.extBut _ _ n1 (e9 _ e));have gT:IsPair m8 m5.objs.size x y:=b8.extBut _ _ (D9 zl) (b7.extBut _ _ (D9 zl) (g7 _ rfl));rw[WH]at Rr gT;refine f6 ⟨_,rfl,?_⟩;show Q (.ref m5.objs.size) _;rw[WH];exact k m8 Rr (e8 _ _ D.TOz Ru) (cQ u5 λo e=>e8 _ o D.i1z e) (v5.at λo e=>e8 _ o D.i2z e) gT λc o n1 n2 n3 n4 e=>e8 c o n1 (e5 c o n2 n4 (e3 c o n1 n2 n3 e))
theorem AM(hd:A.handled=none)(z TI TO i1 i2 l1 l2:Addr)(D:ZipApart z TI TO i1 i2 l1 l2)(xs ys:Array Value)(hle:xs.size<=ys.size) :
  WalksT prog w A z [z,TI,TO,i1,i2,l1,l2] [z,TO,i1,i2] xs.size (λi NF=>∃x y,xs[i]?=some x/\ys[i]?=some y/\NF=#[x,y])
   (λi h=>IsZip h z TI TO .none/\IsPair h TI (.ref i1) (.ref i2)/\(∃a b,IsPair h TO a b)/\h.IsTupleIter i1 l1 i/\h.IsListIter i2 l2 i/\h.IsTuple l1 xs/\h.IsList l2 ys)
   (λi T h=>IsZip h z TI TO (rawInt T)/\IsPair h TI (.ref i1) (.ref i2)/\(∃a b,IsPair h TO a b)/\h.IsTupleIter i1 l1 (i+1)/\h.IsListIter i2 l2 (i+1)/\h.IsTuple l1 xs/\h.IsList l2 ys/\T≠z/\T≠TO/\T≠i1/\T≠i2) where
 sub:=λc hc=>by
  simp only[j8,z8,E9]at hc ⊢;rcases hc with q | q | q | q<;>simp[q]
 frame:=λi h h' st kp=>by
  obtain⟨q1,q2,⟨a,b,q3⟩,q4,q5,q6,q7⟩:=st;exact⟨kp z (by simp) _ q1,kp TI (by simp) _ q2,⟨a,b,kp TO (by simp) _ q3⟩,cQ q4 λo e=>kp i1 (by simp) o e,q5.at λo e=>kp i2 (by simp) o e,eX q6 λo e=>kp l1 (by simp) o e,q7.at λo e=>kp l2 (by simp) o e⟩
 item:=λi s Q E hi st k=>by
  obtain⟨q1,q2,⟨a,b,q3⟩,q4,q5,q6,q7⟩:=st;have hx:xs[i]?=some xs[i]:=C8 hi;have hy:ys[i]?=some (ys[i]'(by omega)):=C8 (by omega);have hT:s.TypeIs (.ref z) "zip":=⟨_,q1,rfl⟩;have lt:∀{c o},s.heap.get? c=some o->s.heap.objs.size≠c:=λe=>D9 (f9 e);unfold pyNext;refine b6 (E6 (A1 (name:=Str.ofString "__next__") hT B7 (B2 B7 hT J2 (AK D q1 q2 q3 q4 q5 q6 q7 hx hy λh' a1 a2 a3 a4 a5 kp=>f6 ?_) (G7 _))))
  exact k s.heap.objs.size #[xs[i],ys[i]'(by omega)] h' s.toks ⟨_,_,hx,hy,rfl⟩ (f7 _) ⟨_,a5,rfl,_,rfl⟩
   ⟨a1,kp _ _ D.TIz D.TITO D.TIi1 D.TIi2 q2,⟨_,_,a2⟩,a3,a4,eX q6 λo e=>kp _ o D.l1z D.l1TO D.l1i1 D.l1i2 e,q7.at λo e=>kp _ o D.l2z D.l2TO D.l2i1 D.l2i2 e,lt q1,lt q3,(by obtain⟨_,e,_⟩:=q4;exact lt e),(by obtain⟨_,e,_⟩:=q5;exact lt e)⟩
   λc o hc e=>kp c o (λq=>hc (by simp[q])) (λq=>hc (by simp[q])) (λq=>hc (by simp[q])) (λq=>hc (by simp[q])) e
 go:=λNw kk pos i T s Q E hm k=>by
  obtain⟨q1,q2,⟨a,b,q3⟩,q4,q5,q6,q7,_⟩:=hm;refine wpAny_letOwnedTupleGo_zip q1 λh' gz' b'=>k h' ⟨gz',b'.extBut _ _ D.TIz q2,⟨a,b,b'.extBut _ _ D.TOz q3⟩,cQ q4 λo e=>b'.extBut _ _ D.i1z e,q5.at λo e=>b'.extBut _ _ D.i2z e,eX q6 λo e=>b'.extBut _ _ D.l1z e,q7.at λo e=>b'.extBut _ _ D.l2z e⟩ λc o hc e=>b'.extBut _ _ (λq=>hc (by simp[q])) e
 apart:=λi T h hm hT=>by
  obtain⟨_,_,_,_,_,_,_,n1,n2,n3,n4⟩:=hm;simp only[j8,z8,E9]at hT;rcases hT with q | q | q | q
  .exact n1 q
  .exact n2 q
  .exact n3 q
  .exact n4 q
 done:=λs Q E st k=>by
  obtain⟨q1,q2,⟨a,b,q3⟩,q4,q5,q6,q7⟩:=st;have hT:s.TypeIs (.ref z) "zip":=⟨_,q1,rfl⟩;unfold pyNext;refine b6 (E6 (A1 (name:=Str.ofString "__next__") hT B7 (B2 B7 hT J2 (nC hd D q1 q2 q3 q4 q6 (LW (f7 _)) λh' e kp ge=>?_) (G7 _))));obtain⟨o,ho,hc⟩:=ge;refine b6 (F6 (T:="StopIteration") (b:=true) ⟨o,ho,hc⟩ L4 ?_);exact f6 (k h' s.toks λc o hc e=>kp c o (λq=>hc (by simp[q])) (λq=>hc (by simp[q])) (λq=>hc (by simp[q])) (λq=>hc (by simp[q])) e)
 self:=λi s Q E st k=>E3 st.1 k
end
noncomputable abbrev Qg (h:Heap) (a:Addr):Heap:=h.push (sf a)
noncomputable abbrev Qf (h:Heap) (a b:Addr):Heap:=(Qg h a).push {cls:=.type "list_iterator",data:=.fields #[.ref b,.int 0 0] }
noncomputable abbrev Qe (h:Heap) (a b:Addr):Heap:=(Qf h a b).push {cls:=.type "tuple",data:=.seq #[.ref h.objs.size,.ref (Qg h a).objs.size] }
noncomputable abbrev Qd (h:Heap) (a b:Addr):Heap:=(Qe h a b).push {cls:=.type "tuple",data:=.seq #[.none,.none] }
noncomputable abbrev EG (h:Heap) (a b:Addr):Heap:=(Qd h a b).push {cls:=.type "zip",data:=.fields #[.none,.bool false,.bool false,.ref (Qf h a b).objs.size,.ref (Qe h a b).objs.size] }
theorem Ez(a b:Addr)(xs ys:Array Value):Meets (Builtin.«zip.__new__» ⟨[.type "zip",.ref a,.ref b],[]⟩) (λ_ R s=>s.heap.IsTuple a xs/\s.heap.IsList b ys/\R (.ok (.ret (.ref (Qd s.heap a b).objs.size))) {s with heap:=EG s.heap a b}):=
 .of_wp λprog w A R s h=>by
  obtain⟨hp,g,d,tk,os⟩:=s;obtain⟨q1,q2,h⟩:=h;have su:=sub_zip;have t1:Heap.IsTuple (Shared.heap ⟨hp,g,d,tk,os⟩) a xs:=q1;have t2:Heap.IsList (Shared.heap ⟨hp.push (sf a),g,d,tk,os⟩) b ys:=q2.at λo e=>e9 _ e
  wp_walk using LK t1,LP t2
  exact⟨_,rfl,h⟩
theorem Co{w:World}(q1:s.heap.IsTuple a xs)(q2:s.heap.IsList b ys)
  (k:∀h',IsZip h' (s.heap.objs.size+4) (s.heap.objs.size+2) (s.heap.objs.size+3) .none->IsPair h' (s.heap.objs.size+2) (.ref s.heap.objs.size) (.ref (s.heap.objs.size+1))->IsPair h' (s.heap.objs.size+3) .none .none->
   h'.IsTupleIter s.heap.objs.size a 0->h'.IsListIter (s.heap.objs.size+1) b 0->(∀c o,s.heap.get? c=some o->h'.get? c=some o)->Q (.ref (s.heap.objs.size+4)) {s with heap:=h' }):wpAny (model prog w) A (call (.type "zip") [.ref a,.ref b]) Q E s:=by
 refine callType_new F.called_zip (by decide) (F.typeCall_zip_2 _ _) (F.newCall_zip_2 _ _) (λobj=>F.args_object_init_3 obj _ _) F.entry_zip_new (Ez a b xs ys) ⟨q1,q2,?_⟩;have z1:(Qg s.heap a).objs.size=s.heap.objs.size+1:=A7 ..;have z2:(Qf s.heap a b).objs.size=s.heap.objs.size+2:=by rw[A7,z1]
 have z3:(Qe s.heap a b).objs.size=s.heap.objs.size+3:=by rw[A7,z2]
 have z4:(Qd s.heap a b).objs.size=s.heap.objs.size+4:=by rw[A7,z3]
 have up:∀{h:Heap}{o:Obj}{c:Addr}{q:Obj},h.get? c=some q->(h.push o).get? c=some q:=λe=>e9 _ e;have g5:(EG s.heap a b).get? (Qd s.heap a b).objs.size=some _:=g7 _ rfl;have g4:(EG s.heap a b).get? (Qe s.heap a b).objs.size=some _:=up (g7 _ rfl);have g3:(EG s.heap a b).get? (Qf s.heap a b).objs.size=some _:=up (up (g7 _ rfl));have g2:(EG s.heap a b).get? (Qg s.heap a).objs.size=some _:=up (up (up (g7 _ rfl)));have g1:(EG s.heap a b).get? s.heap.objs.size=some _:=up (up (up (up (g7 _ rfl))));show _/\_;rw[z2,z3,z4]at g5;rw[z1,z2]at g3;rw[z3]at g4;rw[z1]at g2;rw[z4];exact⟨⟨_,g5,rfl⟩,k _ g5 g3 g4 ⟨_,g1,rfl,rfl⟩ ⟨_,g2,rfl,rfl⟩ λc o e=>up (up (up (up (up e))))⟩
def HV(K:W.Frag)(a b:Addr):Nat->Hp->List V->Prop:=λi H vs=>∃x y,vs=[x,y]/\(∀xs,Nv K H a xs->xs[i]?=some x)/\∀ys,Nq K H b ys->ys[i]?=some y
def Ey(K:W.Frag)(a b:Addr):It:=V8 (λi H=>∃xs ys,Nv K H a xs/\Nq K H b ys/\i<xs.length/\xs.length<=ys.length) (HV K a b) λi H=>∃xs ys,Nv K H a xs/\Nq K H b ys/\xs.length<=i/\xs.length<=ys.length
def HI(a b z TI TO i1 i2:Addr)(i:Nat)(h:Heap):Prop:=IsZip h z TI TO .none/\IsPair h TI (.ref i1) (.ref i2)/\(∃u v,IsPair h TO u v)/\h.IsTupleIter i1 a i/\h.IsListIter i2 b i
theorem wN{xs:List V}(I:Inv X Nn σ H s)(h:Nq X.K H a xs)(f:gR X Nn H b):a≠b:=by
 intro e;subst e;obtain⟨f0,_,_,f3,_⟩:=f;rcases h with(h | ⟨o,h⟩) | ⟨o,its,n,hk,_⟩
 .rw[f0]at h;cases h
 .rw[f0]at h;cases h
 .have g:=I.ok.mod.kin a o hk;rcases f3 with z | z
  .exact I.ok.noex a o g z
  .exact absurd (i5 (f9 g) (h8 I.ok.bsz z)) (y7 _)
theorem yq{TI TO:Addr}{xs ys:List V}(I:Inv X Nn σ H s)(o:GU z TI TO i1 i2)(hf:∀c∈[z,TI,TO,i1,i2],gR X Nn H c)(la:Nv X.K H a xs)(lb:Nq X.K H b ys):ZipApart z TI TO i1 i2 a b:=
 ⟨o.a1,o.a2,o.a3,o.a4,o.a5,o.a6,o.a7,o.a8,o.a9,o.a10,gw I la (hf z (by simp)),gw I la (hf TO (by simp)),gw I la (hf i1 (by simp)),gw I la (hf i2 (by simp)),wN I lb (hf z (by simp)),wN I lb (hf TO (by simp)),wN I lb (hf i1 (by simp)),wN I lb (hf i2 (by simp))⟩
theorem Hx{TI TO:Addr}(st:HI a b z TI TO i1 i2 i h):∀c∈[z,TI,TO,i1,i2],∃o,h.get? c=some o/\∀v,o.data≠.cell v:=by
 intro c hc;obtain⟨hz,Pf,⟨u,v,OV⟩,⟨o1,g1,_,d1⟩,⟨o2,g2,_,d2⟩⟩:=st;simp only[j8,z8,E9]at hc;rcases hc with rfl | rfl | rfl | rfl | rfl
 .exact⟨_,hz,λv z=>by cases z⟩
 .exact⟨_,Pf,λv z=>by cases z⟩
 .exact⟨_,OV,λv z=>by cases z⟩
 .exact⟨_,g1,λv z=>by rw[d1]at z;cases z⟩
 .exact⟨_,g2,λv z=>by rw[d2]at z;cases z⟩
theorem AO{P:Program}{w:World}{K:W.Frag}(a b z TI TO i1 i2:Addr)(own:GU z TI TO i1 i2) :
  Turn P w K (.Tuple Nw kk NL) (Ey K a b) [z,TI,TO,i1,i2] z (HI a b z TI TO i1 i2) where
 mem:=by simp
 obj:=λi h st c hc=>Hx st c hc
 keep:=λi h h' st k=>by
  obtain⟨hz,Pf,⟨u,v,OV⟩,l1,l2⟩:=st;exact⟨k z (by simp) _ hz,k TI (by simp) _ Pf,⟨u,v,k TO (by simp) _ OV⟩,cQ l1 λo q=>k i1 (by simp) o q,l2.at λo q=>k i2 (by simp) o q⟩
 item:=by
  intro X hP hw hK hc i Nn s σ H E I hf st hg;subst hP hw hK;obtain⟨xs,ys,hq,Oe,hi,hle⟩:=hg;obtain⟨its,rv,p,hz⟩:=I.tuple hq;obtain⟨ND,Pb,p2,SU⟩:=I.list Oe;have hx:xs[i]?=some xs[i]:=g0 hi;have hy:ys[i]?=some (ys[i]'(by omega)):=g0 (by omega);obtain⟨u,hu,ru⟩:=rv.get hx;obtain⟨u2,VY,WX⟩:=Pb.get hy;have e1:=rv.length;have e2:=Pb.length;have D:=yq I own hf hq Oe;have W:=AM (prog:=X.prog) (w:=X.w) (A:=X.A) (I.ok.hd hc) z TI TO i1 i2 a b D its.toArray ND.toArray (by simp only[i8];omega);obtain⟨s1,s2,s3,s4,s5⟩:=id st
  refine jl (fp:=[z,TI,TO,i1,i2]) (vs:=[xs[i],ys[i]'(by omega)]) (src:=HV X.K a b) (tn:=HI a b z TI TO i1 i2) W I hf (λc hc=>let ⟨o,q,_⟩:=Hx st c hc;⟨o,q⟩) (λc hc=>?_) (by simp only[i8];omega) ⟨s1,s2,s3,s4,s5,p,p2.isList⟩ (λNF hP=>?_) Mine.z2
   ⟨_,_,rfl,λzs Px=>by rw[I.tuple_inj Px hq];exact hx,λzs Px=>by rw[I.list_inj Px Oe];exact hy⟩ λh st=>⟨st.1,st.2.1,st.2.2.1,st.2.2.2.1,st.2.2.2.2.1⟩
  .simp only[j8,z8,E9]at hc ⊢;rcases hc with q | q | q | q<;>simp[q]
  .obtain⟨v1,v2,e1,e2,rfl⟩:=hP
   have f1:v1=u:=by
    have q:its[i]?=some v1:=by simpa using e1
    rw[hu]at q;exact(i7 q).symm
   have f2:v2=u2:=by
    have q:ND[i]?=some v2:=by simpa using e2
    rw[VY]at q;exact(i7 q).symm
   subst f1 f2;exact .cons ru (.cons WX .nil)
 done:=by
  intro X hP hw hK hc i Nn s σ H E I hf st hg;subst hP hw hK;obtain⟨xs,ys,hq,Oe,UJ,hle⟩:=hg;obtain⟨its,rv,p,hz⟩:=I.tuple hq;have D:=yq I own hf hq Oe;obtain⟨s1,s2,⟨u,v,s3⟩,s4,s5⟩:=id st;have e1:=rv.length;have hT:s.TypeIs (.ref z) "zip":=⟨_,s1,rfl⟩;have pT:s.heap.IsTuple a its.toArray:=p;unfold pyNext;refine b6 (E6 (A1 (name:=Str.ofString "__next__") hT B7 (B2 B7 hT J2 (nC (I.ok.hd hc) D s1 s2 s3 s4 pT (by simp;omega) λh' e kp ge=>?_) (G7 _))));obtain⟨o,ho,O5⟩:=ge;refine b6 (F6 (T:="StopIteration") (b:=true) ⟨o,ho,O5⟩ L4 ?_);exact f6 ⟨rfl,I.turnedL (t':=s.toks) (λc o hc q=>kp c o (λe=>hc (by simp[e])) (λe=>hc (by simp[e])) (λe=>hc (by simp[e])) (λe=>hc (by simp[e])) q) hf⟩
 self:=λ_ _ _ _ _ st h=>E3 st.1 h
section
variable{X:Cx}
def Ux(K:W.Frag)(ta tb:TE):TI:=λσ H R=>ta σ H λx H1=>tb σ H1 λy H2=>∃a b xs ys,x=.ref a/\y=.ref b/\Nv K H2 a xs/\Nq K H2 b ys/\R (Ey K a b) H2
theorem zo(hg:Gl X "zip")(hm:X.mg "zip"=none)(he:PE X e te)(hf:PE X f tf)
  (hs:starEach [e,f] X.env=[(false,eval e X.env),(false,eval f X.env)]:=by rfl)(Od:starEach [f] X.env=[(false,eval f X.env)]:=by rfl):PI X (.Tuple Nw kk NL) (.Call (.Name "zip" p) [e,f] [] pos) (Ux X.K te tf):=by
 intro Nn s σ H R I h;have b1:bootBuiltins "zip"=some (.type "zip"):=by decide+kernel
 refine z7 (gQ I hg hm b1 ?_ (by decide) (by decide));refine y8 ?_ (by rw[hs,Od]) (by rw[Od];rfl);rw[hs];refine A2 (Nr (he Nn s σ H _ I h) λu s1 zz=>?_);obtain⟨x,H1,I1,rx,q1⟩:=zz;refine A2 (Nr (hf Nn s1 σ H1 _ I1 q1) λu2 s2 zz=>?_);obtain⟨y,H2,I2,ry,a,b,xs,ys,ex,ey,hq,Oe,q⟩:=zz;subst ex ey;have eu:u=Value.ref a:=rx;have YG:u2=Value.ref b:=ry;subst eu YG;refine C3 ?_;obtain⟨its,rv,pl,hz⟩:=I2.tuple hq;obtain⟨ND,Pb,W2,SU⟩:=I2.list Oe;refine Co (show s2.heap.IsTuple a its.toArray from pl) W2.isList λh' z TI TO i1 i2 kp=>?_;have I3:Inv X Nn σ H2 {s2 with heap:=h' }:=I2.kept (t':=s2.toks) kp
 refine E3 (s:={s2 with heap:=h' }) z ?_
 have ne:∀i j:Nat,i≠j->s2.heap.objs.size+i≠s2.heap.objs.size+j:=λi j XZ e=>XZ (Mu e)
 refine⟨_,[s2.heap.objs.size+4,s2.heap.objs.size+2,s2.heap.objs.size+3,s2.heap.objs.size,s2.heap.objs.size+1],_,Ey X.K a b,H2,rfl,I3,
  AO a b _ _ _ _ _ ⟨ne 2 4 (by decide),ne 3 4 (by decide),ne 0 4 (by decide),ne 1 4 (by decide),ne 2 3 (by decide),ne 2 0 (by decide),ne 2 1 (by decide),ne 3 0 (by decide),ne 3 1 (by decide),ne 0 1 (by decide)⟩,
  ⟨z,TI,⟨_,_,TO⟩,i1,i2⟩,λc hc=>?_,q⟩
 have nb:s2.heap.objs.size<=c:=by
  simp only[j8,z8,E9]at hc;rcases hc with rfl | rfl | rfl | rfl | rfl
  .exact A9 _ _
  .exact A9 _ _
  .exact A9 _ _
  .exact f7 _
  .exact A9 _ _
 exact I2.fpOk nb (I2.hok.fresh nb)
end
noncomputable def aW(X:Cx)(xs:List Str)(js:List Nat):List Str:=xs++js.map λj=>X.N.getD j ""
section
variable{X:Cx}{Nn:List (Addr×Obj)}{σ:St}{H:Hp}{s:Shared}{scope:Scope}{cl:List (Str×Addr)}{xs:List Str}{js:List Nat}{fp:List Addr}{N:List Str}
theorem Kk(I:Inv X Nn σ H s)(hk:scope.kind=.function)(Nu:∀y∈scope.names,y.2≠.cell)
  (Nz:∀y c,cl.lookup y=some c->X.env.cells.lookup y=some c)(NC:∀y,(y,NameKind.free)∈scope.names->∃c,cl.lookup y=some c)
  (hf:∀b∈fp,gR X Nn H b)(Ny:∀b∈fp,b<s.heap.objs.size):(aU X scope cl N s H fp).Ok where
 mod:=I.ok.mod
 kind:=hk
 glob:=I.ok.glob
 blt:=I.ok.blt
 above:=f7 _
 inj:=λy z c h1 h2=>I.ok.inj y z c (Nz y c h1) (Nz z c h2)
 has:=λy hy=>by
  have Xy:(relabel scope X.env).names.lookup y=some .cell\/(relabel scope X.env).names.lookup y=some .free:=hy;rcases Xy with h | h
  .obtain⟨k',m,q⟩:=cJ h;rcases q with q | ⟨_,q⟩
   .exact absurd q (Nu _ m)
   .subst q;exact NC y m
  .obtain⟨k',m,q⟩:=cJ h;rcases q with q | ⟨q,_⟩
   .subst q;exact NC y m
   .cases q
 cab:=λy c h _=>by cases h
 hd:=I.ok.hd
 frames:=I.ok.frames
 stk:=.inl rfl
 exf:=λb hb=>⟨v3 (Ny b hb),λy c h=>(hf b hb).2.2.2.2.1 y c (Nz y c h)⟩
 bs:=I.bs
 bsz:=h8 I.ok.bsz I.sz
 noex:=λb o e hb=>by
  rcases(hf b hb).2.2.2.1 with z | z
  .exact I.ok.noex b o e z
  .exact absurd (i5 (f9 e) (h8 I.ok.bsz z)) (y7 _)
 exfs:=λb hb hz=>(j8.mp (I.stkSub b hz)).elim (hf b hb).2.1 (hf b hb).2.2.1
 funs:=I.stack
 frf:=I.stkFree
theorem qP{tk:Nat}(I:Inv X Nn σ H s)(hk:scope.kind=.function)(Nu:∀y∈scope.names,y.2≠.cell)
  (Nz:∀y c,cl.lookup y=some c->X.env.cells.lookup y=some c)(NC:∀y,(y,NameKind.free)∈scope.names->∃c,cl.lookup y=some c)(N3:dF X scope js)
  (hf:∀b∈fp,gR X Nn H b)(Ny:∀b∈fp,b<s.heap.objs.size)(hn:h₁.Ns s.heap.objs.size m)(NX:∀b o,s.heap.get? b=some o->h₁.get? b=some o) :
  Inv (aU X scope cl (aW X xs js) s H fp) [] (List.replicate xs.length none++bI js σ) H {s with heap:=h₁,toks:=tk} where
 ok:=Kk I hk Nu Nz NC hf Ny
 os:=rfl
 bare:=I.bare
 base:=Un.kept NX
 loc:=by
  refine⟨m,hn,λi y v h1 h2 h3=>?_⟩
  by_cases hik:i<xs.length
  .rw[G2 (by simpa using hik),List.getElem?_replicate_of_lt hik]at h2;cases h2
  .generalize hkk:i-xs.length=k
   have O6:(js.map λj=>X.N.getD j "")[k]?=some y:=by
    have q:(xs++js.map λj=>X.N.getD j "")[i]?=some y:=h1;rw[Lj (by omega),hkk]at q;exact q
   have Oj:(js.map λj=>(σ[j]?).getD none)[k]?=some (some v):=by
    rw[Lj (by simp;omega),K3,hkk]at h2;exact h2
   rw[y4]at O6 Oj;cases hj:js[k]? with
   | none=>rw[hj]at O6;cases O6
   | some j =>
    rw[hj]at O6 Oj;have e1:X.N.getD j ""=y:=i7 O6;have e2:(σ[j]?).getD none=some v:=i7 Oj;obtain⟨y',n1,n2,n3,n4⟩:=N3.all j (x3 hj);have e3:y'=y:=by rw[<- e1,C5,n1];rfl
    subst e3
    have e4:σ[j]?=some (some v):=by
     cases q:σ[j]? with
     | none=>rw[q]at e2;cases e2
     | some a=>rw[q]at e2;exact y9 some e2
    obtain⟨m0,_,hl⟩:=I.loc;obtain⟨u,r,l⟩:=hl j y' v n1 e4 (n2.elim (λz=>Or.inr (Or.inl z)) λz=>Or.inr (Or.inr z));refine⟨u,r,.inr ⟨n4,?_⟩⟩;rcases l with⟨l,_⟩ | ⟨_,c,hc,hi⟩
    .exfalso;rcases n2 with z | z<;>(rw[z]at l;cases l)
    .obtain⟨c',OC⟩:=NC y' n3;have e5:=Nz y' c' OC;rw[hc]at e5;have e6:=i7 e5;subst e6;obtain⟨o,ho,hd⟩:=hi;exact⟨c,OC,o,NX c o ho,hd⟩
 cell:=λy c h=>by
  obtain⟨v,o,ho,hd⟩:=I.cell y c (Nz y c h);exact⟨v,o,NX c o ho,hd⟩
 free:=I.hok.fresh (f7 _)
 freeC:=λy c h=>I.freeC y c (Nz y c h)
 pin:=λp hp=>absurd (show p∈([]:List (Addr×Obj)) from hp) (by simp)
 hok:=I.hok.kept NX
 len:=by
  show(List.replicate xs.length none++bI js σ).length=(aW X xs js).length;simp[bI,aW]
end
def pA(n:Nat)(wi:TI)(g:TG)(te:TE)(js:List Nat):TE:=λσ H Q=>wi σ H λJ H1=>∀D,H1 D=none->
 ∃W:Nat->Nat->Hp->Prop,(∃m,W 0 m (upd H1 D (.lst [])))/\∀i m H2,W i m H2->(J.stop i H2/\Q (.ref D) H2)\/
  (J.go i H2/\∀o:St,o.length=n->∀v H3,J.yld i H2 v H3->g v (o++bI js σ) H3 λσ4 H4=>∃o',o'.length=n/\σ4=o'++bI js σ/\te (o'++bI js σ) H4 λy H5 =>
   ∃ys,H5 D=some (.lst ys)/\ys.length<sizeLine/\∃m',m'<m/\W (i+1) m' (upd H5 D (.lst (ys++[y]))))
section
variable{X:Cx}{elt Nt:Expr}{xs:List Str}{Nw:List Expr}{kk:Nat}{tp pos:Pos}{scope:Scope}{cl:List (Str×Addr)}{wi:TI}{g:TG}{te:TE}{js:List Nat}
theorem uh{Q:VK}
  (hc:X.calm=true)(hi:PI X (.Tuple Nw kk tp) Nt wi)(hk:scope.kind=.function)(Nu:∀y∈scope.names,y.2≠.cell)
  (Nz:∀y c,cl.lookup y=some c->X.env.cells.lookup y=some c)(NC:∀y,(y,NameKind.free)∈scope.names->∃c,cl.lookup y=some c)(N3:dF X scope js)(Of:(aW X xs js).Nodup)
  (hg:∀s' H' fp,PG (aU X scope cl (aW X xs js) s' H' fp) (.Tuple Nw kk tp) g)(he:∀s' H' fp,PE (aU X scope cl (aW X xs js) s' H' fp) elt te)
  (I:Inv X Nn σ H s)(h:pA xs.length wi g te js σ H Q)
  (fin:∀(D C:Addr)(H':Hp)(s':Shared),Inv X Nn σ H' s'->gR X Nn H' C->(∃m,s'.heap.Ns C m)->Q (.ref D) H'->compPost (model X.prog X.w) X.A X.xe use Qv (.ref D) C (.ok .next) s') :
  wpAny (model X.prog X.w) X.A (eval Nt X.env) (λxv s₁=>wpAny (model X.prog X.w) X.A (pyIter xv) (λit s₂=>wpAny (model X.prog X.w) X.A (newList []) (λacc s₃ =>
   wpAny (model X.prog X.w) X.A (newFunctionEnv scope X.env.globals cl [] X.env.qual none .none (some X.env)) (λOE s₄ =>
    codeAny (model X.prog X.w) X.A (.compStart (.ListComp elt [⟨.Tuple Nw kk tp,Nt,[],0⟩] scope pos) 0 it acc {OE with scope:=relabel scope X.env})
     (compPost (model X.prog X.w) X.A X.xe use Qv acc OE.locals) s₄) X.xe s₃) X.xe s₂) X.xe s₁) X.xe s:=by
 refine Nr (hi Nn s σ H _ I h) λv s1 h1=>Nr h1 λXp s2 h2=>?_;obtain⟨it,fp,tn,J,H2,e,I2,T,P1,f2,hW⟩:=h2;subst e;obtain⟨W,⟨m0,w0⟩,turn⟩:=hW s2.heap.objs.size (I2.hok.fresh (f7 _));have OB:∀b∈fp,b<s2.heap.objs.size:=λb hb=>let ⟨_,e,_⟩:=T.obj _ _ P1 b hb;f9 e
 have I3:Inv X Nn σ (upd H2 s2.heap.objs.size (.lst [])) {s2 with heap:=s2.heap.push {cls:=.type "list",data:=.seq ([]:List Value).toArray} }:=
  I2.lnew (t':=s2.toks) (its:=[]) .nil (z5 _)
 refine C4 ?_;have Xo:∀b o,s2.heap.get? b=some o->(s2.heap.push {cls:=.type "list",data:=.seq ([]:List Value).toArray}).get? b=some o:=λb o e=>e9 _ e;have WI:(s2.heap.push {cls:=.type "list",data:=.seq ([]:List Value).toArray}).objs.size=s2.heap.objs.size+1:=A7 ..;generalize XI:({s2 with heap:=s2.heap.push {cls:=.type "list",data:=.seq ([]:List Value).toArray} }:Shared)=s3 at I3
 have Oy:s3.heap=s2.heap.push {cls:=.type "list",data:=.seq ([]:List Value).toArray}:=by rw[<- XI]
 have OA:∀b∈fp,b<s3.heap.objs.size:=λb hb=>by rw[Oy,WI];exact LR (OB b hb)
 have f3:∀b∈fp,gR X Nn (upd H2 s2.heap.objs.size (.lst [])) b:=λb hb=>⟨by rw[aj (v3 (OB b hb))];exact(f2 b hb).1,(f2 b hb).2⟩;refine Mg Nu (by intro y hy;simp at hy) (λh₁ SW XH=>?_) hk;have SQ:∀b o,s3.heap.get? b=some o->h₁.get? b=some o:=λb o e=>XH.extBut b o (v3 (f9 e)) (e9 _ e);have I4:=qP (xs:=xs) (js:=js) (tk:=s3.toks+([]:List (Str×Value)).length) I3 hk Nu Nz NC N3 f3 OA SW SQ;have Sq:tn 0 h₁:=T.keep 0 _ _ P1 λb hb o e=>SQ b o (by rw[Oy];exact Xo b o e)
 have NS:∀{H':Hp},(∀b∈fp,H' b=none)->∀b∈fp,gR (aU X scope cl (aW X xs js) s3 (upd H2 s2.heap.objs.size (.lst [])) fp) [] H' b:=λhn b hb =>
  ⟨hn b hb,v3 (OA b hb),λhz=>(j8.mp (I3.stkSub b hz)).elim (f2 b hb).2.1 (f2 b hb).2.2.1,.inl hb,λy c q=>(f2 b hb).2.2.2.2.1 y c (Nz y c q),λp hp=>absurd (show p∈([]:List (Addr×Obj)) from hp) (by simp)⟩
 have back:∀{σ':St}{H':Hp}{s':Shared},Inv (aU X scope cl (aW X xs js) s3 (upd H2 s2.heap.objs.size (.lst [])) fp) [] σ' H' s'->Inv X Nn σ H' s':=λ{σ' H' s'} J' =>
  I3.call' (ch:=fp) J'.os J'.base J'.hok J'.bare λb hb=>⟨(f2 b hb).2.2.2.1,(f2 b hb).2.1,(f2 b hb).2.2.2.2.1,(f2 b hb).2.2.2.2.2⟩
 have loop:codeAny (model X.prog X.w) X.A (.compLoop (.ListComp elt [⟨.Tuple Nw kk tp,Nt,[],0⟩] scope pos) 0 (.ref it) (.ref s2.heap.objs.size) (compEnvC scope cl s3.heap.objs.size X.env))
   (compPost (model X.prog X.w) X.A X.xe use Qv (.ref s2.heap.objs.size) s3.heap.objs.size) {s3 with heap:=h₁,toks:=s3.toks+([]:List (Str×Value)).length}:=by
  refine PyProof.Rows.LCp.codeAny_compLoop_pair (λn s'=>∃(i:Nat)(o:St)(H':Hp),o.length=xs.length/\Inv (aU X scope cl (aW X xs js) s3 (upd H2 s2.heap.objs.size (.lst [])) fp) [] (o++bI js σ) H' s'/\tn i s'.heap/\(∀b∈fp,H' b=none)/\W i n H') ?_ m0
   ⟨0,_,_,K3,I4,Sq,λb hb=>(f3 b hb).1,w0⟩
  rintro n s5 ⟨i,o,H5,ho,I5,O9,P5,w5⟩
  rcases turn i n H5 w5 with⟨stop,q⟩ | ⟨go,step⟩
  .refine Nr (T.done (aU X scope cl (aW X xs js) s3 (upd H2 s2.heap.objs.size (.lst [])) fp) rfl rfl rfl hc i [] s5 _ H5 _ I5 (NS P5) O9 stop) λr s6 zz=>?_;obtain⟨hr,I6⟩:=zz;subst hr;exact fin _ _ H5 s6 (back I6) (I3.fpOk (f7 _) I6.free) (let ⟨m,hm,_⟩:=I6.loc;⟨m,hm⟩) q
  .refine Nr (T.item (aU X scope cl (aW X xs js) s3 (upd H2 s2.heap.objs.size (.lst [])) fp) rfl rfl rfl hc i [] s5 _ H5 _ I5 (NS P5) O9 go) λr s6 zz=>?_;obtain⟨u,hr,h6⟩:=zz;subst hr;refine v8 h6 (λ_ Zo q6=>?_) (λ_ _ f=>f);obtain⟨v,H6,I6,r6,y6,Po,YB⟩:=q6;have Zc:=I6.pinned (NS YB) (T.obj _ _ Po);refine v8 (hg s3 _ fp _ Zo _ H6 v u _ Zc r6 (step o ho v H6 y6)) (λ_ s7 q7=>?_) (λ_ _ f=>False.elim f);obtain⟨σ7,H7,I7,o7,ho7,e7,q7⟩:=q7;subst e7;refine v8 (he s3 _ fp _ s7 _ H7 _ I7 q7) (λy s9 q9=>?_) (λ_ _ f=>False.elim f);obtain⟨yv,H9,I9,r9,ys,hD,hl,m',hm,w9⟩:=q9;refine v8 (aQ (X:=aU X scope cl (aW X xs js) s3 (upd H2 s2.heap.objs.size (.lst [])) fp) _ s9 _ H9 (.ref s2.heap.objs.size) [yv] (.ref s2.heap.objs.size) [y] (λ_ H'=>H'=upd H9 s2.heap.objs.size (.lst (ys++[yv]))) I9 rfl (.cons r9 .nil) ⟨_,ys,yv,rfl,rfl,hD,hl,rfl⟩) (λ_ s10 WZ=>?_) (λ_ _ f=>False.elim f);obtain⟨_,H10,VF,_,YL⟩:=WZ;subst YL;refine⟨m',hm,i+1,o7,_,ho7,VF.unpinned,T.keep _ _ _ Po λb hb o e=>(VF.pin (b,o) (r8 _ (r8 _ (dB hb e)))).1,λb hb=>?_,w9⟩;obtain⟨o,e,d⟩:=T.obj _ _ Po b hb;exact(VF.pin (b,o) (r8 _ (r8 _ (dB hb e)))).2.1
 exact LS loop (T.self _ 0 _ _ _ Sq loop)
theorem II(hc:X.calm=true)(hi:PI X (.Tuple Nw kk tp) Nt wi)(hk:scope.kind=.function)(Nu:∀y∈scope.names,y.2≠.cell)(Nx:∀y∈scope.names,y.2=.local->scope.names.lookup y.1=some .local)
  (Oa:closureFor scope X.env=pure cl)(Nz:∀y c,cl.lookup y=some c->X.env.cells.lookup y=some c)(NC:∀y,(y,NameKind.free)∈scope.names->∃c,cl.lookup y=some c)(N3:dF X scope js)(Of:(aW X xs js).Nodup)
  (hg:∀s' H' fp,PG (aU X scope cl (aW X xs js) s' H' fp) (.Tuple Nw kk tp) g)(he:∀s' H' fp,PE (aU X scope cl (aW X xs js) s' H' fp) elt te)
  (hs:∀x,foldedSetIterable Nt X.env x=pure x:=by intro _;rfl):PE X (.ListComp elt [⟨.Tuple Nw kk tp,Nt,[],0⟩] scope pos) (pA xs.length wi g te js):=by
 intro Nn s σ H Q I h;rw[eval_ListComp];refine E5 (use:=none) rfl hs Oa hk Nx (uh hc hi hk Nu Nz NC N3 Of hg he I h λD C H' s' I' fC hC q=>?_);obtain⟨m,hm⟩:=hC;refine⟨m,hm,λh' sb=>?_⟩;obtain⟨f0,f1,f2,f3,f4,f5⟩:=fC;exact⟨.ref D,H',I'.turned (t':=s'.toks) (λb o hb e=>(sb.2 b hb).trans e) f0 f1 f3 f4 f5,rfl,q⟩
theorem Fn(hi:PI X (.Tuple Nw kk tp) Nt wi)(N3:dF X scope js)(hg:∀cl s' H' fp,PG (aU X scope cl (aW X xs js) s' H' fp) (.Tuple Nw kk tp) g)(he:∀cl s' H' fp,PE (aU X scope cl (aW X xs js) s' H' fp) elt te)(hc:X.calm=true:=by rfl)(hk:scope.kind=.function:=by rfl)(Nu:∀y∈scope.names,y.2≠.cell:=by decide+kernel)(Nx:∀y∈scope.names,y.2=.local->scope.names.lookup y.1=some .local:=by decide+kernel)(hf:∀p∈scope.names,p.2=.free->X.env.kindOf p.1=some .cell\/X.env.kindOf p.1=some .free:=by walk_at "kr")(Of:(aW X xs js).Nodup:=by walk_at "kr")(hs:∀x,foldedSetIterable Nt X.env x=pure x:=by intro _;rfl):PE X (.ListComp elt [⟨.Tuple Nw kk tp,Nt,[],0⟩] scope pos) (pA xs.length wi g te js):=by
 intro Nn s σ H Q I h;obtain⟨cl,e,p1,p2⟩:=ui (oK (js:=js) I λy hy=>hf (y,.free) hy rfl);exact II hc hi hk Nu Nx e p1 p2 N3 Of (hg cl) (he cl) hs Nn s σ H Q I h
end
theorem BX{w:World}{elt Nt:Expr}{it acc:Value}(I:Nat->Shared->Prop)
  (turn:∀n s,I n s->wpAny (model prog w) A (pyNext it) (λr s₁=>match r with
   | none=>R (.ok .next) s₁
   | some v=>wpAny (model prog w) A (letOwnedTupleGo (.Tuple Nw x1 tp) it v) (λ_ s₁'=>wpAny (model prog w) A (assign (.Tuple Nw x1 tp) env v) (λ_ s₂ =>
     wpAny (model prog w) A (forIn ifs true λc r=>if r=true then do let ok <- isTrue c env (eval c env);pure (ForInStep.yield ok) else pure (ForInStep.yield r)) (λok s₃ =>
      if ok=true then wpAny (model prog w) A (eval elt env) (λx s₄=>wpAny (model prog w) A (call (.builtin "list.append") [acc,x]) (λ_ s₅=>∃m,m<n/\I m s₅) (notedBy (model prog w) A env λe s'=>R (.error e) s') s₄) (notedBy (model prog w) A env λe s'=>R (.error e) s') s₃
      else ∃m,m<n/\I m s₃) (notedBy (model prog w) A env λe s'=>R (.error e) s') s₂) (notedBy (model prog w) A env λe s'=>R (.error e) s') s₁') (notedBy (model prog w) A env λe s'=>R (.error e) s') s₁)
   (notedBy (model prog w) A env λe s'=>R (.error e) s') s)(n:Nat)(h:I n s) :
  codeAny (model prog w) A (.compLoop (.ListComp elt [⟨.Tuple Nw x1 tp,Nt,ifs,0⟩] scope pos) 0 it acc env) R s:=by
 refine codeAny_loop rfl I (λn s hI=>?_) n h;refine wpAny_noted ?_;rw[compTurn_list];refine b6 (Mb (b6 (v8 (turn n s hI) (λr s₁ h₁=>?_) λ_ _ z=>z)));cases r with
 | none=>exact f6 h₁
 | some v =>
  refine b6 (v8 h₁ (λ_ s₂ h₂=>?_) λ_ _ z=>z);refine b6 (v8 h₂ (λ_ s₃ h₃=>?_) λ_ _ z=>z);refine b6 (v8 h₃ (λok s₄ h₄=>?_) λ_ _ z=>z);cases ok with
  | true =>
   rw[k9 rfl]at h₄ ⊢;exact b6 (b6 (v8 h₄ (λx s₅ h₅=>b6 (v8 h₅ (λ_ s₆ h₆=>f6 (f6 ⟨rfl,h₆⟩)) λ_ _ z=>z)) λ_ _ z=>z))
  | false =>
   rw[h9 i6]at h₄ ⊢;exact f6 ⟨rfl,h₄⟩
def lK(n:Nat)(wi:TI)(g:TG)(tc:TT)(te:TE)(js:List Nat):TE:=λσ H Q=>wi σ H λJ H1=>∀D,H1 D=none->
 ∃W:Nat->Nat->Hp->Prop,(∃m,W 0 m (upd H1 D (.lst [])))/\∀i m H2,W i m H2->(J.stop i H2/\Q (.ref D) H2)\/
  (J.go i H2/\∀o:St,o.length=n->∀v H3,J.yld i H2 v H3->g v (o++bI js σ) H3 λσ4 H4=>∃o',o'.length=n/\σ4=o'++bI js σ/\tc (o'++bI js σ) H4 λb H6=>if b=true then te (o'++bI js σ) H6 λy H5 =>
   ∃ys,H5 D=some (.lst ys)/\ys.length<sizeLine/\∃m',m'<m/\W (i+1) m' (upd H5 D (.lst (ys++[y]))) else ∃m',m'<m/\W (i+1) m' H6)
section
variable{X:Cx}{elt Nt:Expr}{xs:List Str}{Nw:List Expr}{kk:Nat}{tp pos:Pos}{scope:Scope}{cl:List (Str×Addr)}{wi:TI}{g:TG}{tc:TT}{te:TE}{js:List Nat}{ifs:List Expr}
theorem Ag{Q:VK}
  (hc:X.calm=true)(hi:PI X (.Tuple Nw kk tp) Nt wi)(hk:scope.kind=.function)(Nu:∀y∈scope.names,y.2≠.cell)
  (Nz:∀y c,cl.lookup y=some c->X.env.cells.lookup y=some c)(NC:∀y,(y,NameKind.free)∈scope.names->∃c,cl.lookup y=some c)(N3:dF X scope js)(Of:(aW X xs js).Nodup)
  (hg:∀s' H' fp,PG (aU X scope cl (aW X xs js) s' H' fp) (.Tuple Nw kk tp) g)(ht:∀s' H' fp,P8 (aU X scope cl (aW X xs js) s' H' fp) ifs tc)(he:∀s' H' fp,PE (aU X scope cl (aW X xs js) s' H' fp) elt te)
  (I:Inv X Nn σ H s)(h:lK xs.length wi g tc te js σ H Q)
  (fin:∀(D C:Addr)(H':Hp)(s':Shared),Inv X Nn σ H' s'->gR X Nn H' C->(∃m,s'.heap.Ns C m)->Q (.ref D) H'->compPost (model X.prog X.w) X.A X.xe use Qv (.ref D) C (.ok .next) s') :
  wpAny (model X.prog X.w) X.A (eval Nt X.env) (λxv s₁=>wpAny (model X.prog X.w) X.A (pyIter xv) (λit s₂=>wpAny (model X.prog X.w) X.A (newList []) (λacc s₃ =>
   wpAny (model X.prog X.w) X.A (newFunctionEnv scope X.env.globals cl [] X.env.qual none .none (some X.env)) (λOE s₄ =>
    codeAny (model X.prog X.w) X.A (.compStart (.ListComp elt [⟨.Tuple Nw kk tp,Nt,ifs,0⟩] scope pos) 0 it acc {OE with scope:=relabel scope X.env})
     (compPost (model X.prog X.w) X.A X.xe use Qv acc OE.locals) s₄) X.xe s₃) X.xe s₂) X.xe s₁) X.xe s:=by
 refine Nr (hi Nn s σ H _ I h) λv s1 h1=>Nr h1 λXp s2 h2=>?_;obtain⟨it,fp,tn,J,H2,e,I2,T,P1,f2,hW⟩:=h2;subst e;obtain⟨W,⟨m0,w0⟩,turn⟩:=hW s2.heap.objs.size (I2.hok.fresh (f7 _));have OB:∀b∈fp,b<s2.heap.objs.size:=λb hb=>let ⟨_,e,_⟩:=T.obj _ _ P1 b hb;f9 e
 have I3:Inv X Nn σ (upd H2 s2.heap.objs.size (.lst [])) {s2 with heap:=s2.heap.push {cls:=.type "list",data:=.seq ([]:List Value).toArray} }:=
  I2.lnew (t':=s2.toks) (its:=[]) .nil (z5 _)
 refine C4 ?_;have Xo:∀b o,s2.heap.get? b=some o->(s2.heap.push {cls:=.type "list",data:=.seq ([]:List Value).toArray}).get? b=some o:=λb o e=>e9 _ e;have WI:(s2.heap.push {cls:=.type "list",data:=.seq ([]:List Value).toArray}).objs.size=s2.heap.objs.size+1:=A7 ..;generalize XI:({s2 with heap:=s2.heap.push {cls:=.type "list",data:=.seq ([]:List Value).toArray} }:Shared)=s3 at I3
 have Oy:s3.heap=s2.heap.push {cls:=.type "list",data:=.seq ([]:List Value).toArray}:=by rw[<- XI]
 have OA:∀b∈fp,b<s3.heap.objs.size:=λb hb=>by rw[Oy,WI];exact LR (OB b hb)
 have f3:∀b∈fp,gR X Nn (upd H2 s2.heap.objs.size (.lst [])) b:=λb hb=>⟨by rw[aj (v3 (OB b hb))];exact(f2 b hb).1,(f2 b hb).2⟩;refine Mg Nu (by intro y hy;simp at hy) (λh₁ SW XH=>?_) hk;have SQ:∀b o,s3.heap.get? b=some o->h₁.get? b=some o:=λb o e=>XH.extBut b o (v3 (f9 e)) (e9 _ e);have I4:=qP (xs:=xs) (js:=js) (tk:=s3.toks+([]:List (Str×Value)).length) I3 hk Nu Nz NC N3 f3 OA SW SQ;have Sq:tn 0 h₁:=T.keep 0 _ _ P1 λb hb o e=>SQ b o (by rw[Oy];exact Xo b o e)
 have NS:∀{H':Hp},(∀b∈fp,H' b=none)->∀b∈fp,gR (aU X scope cl (aW X xs js) s3 (upd H2 s2.heap.objs.size (.lst [])) fp) [] H' b:=λhn b hb =>
  ⟨hn b hb,v3 (OA b hb),λhz=>(j8.mp (I3.stkSub b hz)).elim (f2 b hb).2.1 (f2 b hb).2.2.1,.inl hb,λy c q=>(f2 b hb).2.2.2.2.1 y c (Nz y c q),λp hp=>absurd (show p∈([]:List (Addr×Obj)) from hp) (by simp)⟩
 have back:∀{σ':St}{H':Hp}{s':Shared},Inv (aU X scope cl (aW X xs js) s3 (upd H2 s2.heap.objs.size (.lst [])) fp) [] σ' H' s'->Inv X Nn σ H' s':=λ{σ' H' s'} J' =>
  I3.call' (ch:=fp) J'.os J'.base J'.hok J'.bare λb hb=>⟨(f2 b hb).2.2.2.1,(f2 b hb).2.1,(f2 b hb).2.2.2.2.1,(f2 b hb).2.2.2.2.2⟩
 have loop:codeAny (model X.prog X.w) X.A (.compLoop (.ListComp elt [⟨.Tuple Nw kk tp,Nt,ifs,0⟩] scope pos) 0 (.ref it) (.ref s2.heap.objs.size) (compEnvC scope cl s3.heap.objs.size X.env))
   (compPost (model X.prog X.w) X.A X.xe use Qv (.ref s2.heap.objs.size) s3.heap.objs.size) {s3 with heap:=h₁,toks:=s3.toks+([]:List (Str×Value)).length}:=by
  refine BX (λn s'=>∃(i:Nat)(o:St)(H':Hp),o.length=xs.length/\Inv (aU X scope cl (aW X xs js) s3 (upd H2 s2.heap.objs.size (.lst [])) fp) [] (o++bI js σ) H' s'/\tn i s'.heap/\(∀b∈fp,H' b=none)/\W i n H') ?_ m0
   ⟨0,_,_,K3,I4,Sq,λb hb=>(f3 b hb).1,w0⟩
  rintro n s5 ⟨i,o,H5,ho,I5,O9,P5,w5⟩
  rcases turn i n H5 w5 with⟨stop,q⟩ | ⟨go,step⟩
  .refine Nr (T.done (aU X scope cl (aW X xs js) s3 (upd H2 s2.heap.objs.size (.lst [])) fp) rfl rfl rfl hc i [] s5 _ H5 _ I5 (NS P5) O9 stop) λr s6 zz=>?_;obtain⟨hr,I6⟩:=zz;subst hr;exact fin _ _ H5 s6 (back I6) (I3.fpOk (f7 _) I6.free) (let ⟨m,hm,_⟩:=I6.loc;⟨m,hm⟩) q
  .refine Nr (T.item (aU X scope cl (aW X xs js) s3 (upd H2 s2.heap.objs.size (.lst [])) fp) rfl rfl rfl hc i [] s5 _ H5 _ I5 (NS P5) O9 go) λr s6 zz=>?_;obtain⟨u,hr,h6⟩:=zz;subst hr;refine v8 h6 (λ_ Zo q6=>?_) (λ_ _ f=>f);obtain⟨v,H6,I6,r6,y6,Po,YB⟩:=q6;have Zc:=I6.pinned (NS YB) (T.obj _ _ Po);refine v8 (hg s3 _ fp _ Zo _ H6 v u _ Zc r6 (step o ho v H6 y6)) (λ_ s7 q7=>?_) (λ_ _ f=>False.elim f);obtain⟨σ7,H7,I7,o7,ho7,e7,q7⟩:=q7;subst e7;refine v8 (ht s3 _ fp _ s7 _ H7 _ I7 q7) (λok s8 q8=>?_) (λ_ _ f=>False.elim f);obtain⟨H8,I8,q8⟩:=q8
   have again:∀{s9:Shared}{H9:Hp}{m':Nat},Inv (aU X scope cl (aW X xs js) s3 (upd H2 s2.heap.objs.size (.lst [])) fp) ([]++pY fp Zo.heap) (o7++bI js σ) H9 s9->m'<n->W (i+1) m' H9->
     ∃m,m<n/\∃(i:Nat)(o:St)(H':Hp),o.length=xs.length/\Inv (aU X scope cl (aW X xs js) s3 (upd H2 s2.heap.objs.size (.lst [])) fp) [] (o++bI js σ) H' s9/\tn i s9.heap/\(∀b∈fp,H' b=none)/\W i m H':=λ{s9 H9 m'} I9 hm w9=>by
    refine⟨m',hm,i+1,o7,H9,ho7,I9.unpinned,T.keep _ _ _ Po λb hb o e=>(I9.pin (b,o) (r8 _ (r8 _ (dB hb e)))).1,λb hb=>?_,w9⟩;obtain⟨o,e,d⟩:=T.obj _ _ Po b hb;exact(I9.pin (b,o) (r8 _ (r8 _ (dB hb e)))).2.1
   cases ok with
   | false =>
    rw[h9 i6]at q8 ⊢;obtain⟨m',hm,w9⟩:=q8;exact again I8 hm w9
   | true =>
    rw[k9 rfl]at q8 ⊢;refine v8 (he s3 _ fp _ s8 _ H8 _ I8 q8) (λy s9 q9=>?_) (λ_ _ f=>False.elim f);obtain⟨yv,H9,I9,r9,ys,hD,hl,m',hm,w9⟩:=q9;refine v8 (aQ (X:=aU X scope cl (aW X xs js) s3 (upd H2 s2.heap.objs.size (.lst [])) fp) _ s9 _ H9 (.ref s2.heap.objs.size) [yv] (.ref s2.heap.objs.size) [y] (λ_ H'=>H'=upd H9 s2.heap.objs.size (.lst (ys++[yv]))) I9 rfl (.cons r9 .nil) ⟨_,ys,yv,rfl,rfl,hD,hl,rfl⟩) (λ_ s10 WZ=>?_) (λ_ _ f=>False.elim f);obtain⟨_,H10,VF,_,YL⟩:=WZ;subst YL;exact again VF hm w9
 exact LS loop (T.self _ 0 _ _ _ Sq loop)
theorem Fm(hc:X.calm=true)(hi:PI X (.Tuple Nw kk tp) Nt wi)(hk:scope.kind=.function)(Nu:∀y∈scope.names,y.2≠.cell)(Nx:∀y∈scope.names,y.2=.local->scope.names.lookup y.1=some .local)
  (Oa:closureFor scope X.env=pure cl)(Nz:∀y c,cl.lookup y=some c->X.env.cells.lookup y=some c)(NC:∀y,(y,NameKind.free)∈scope.names->∃c,cl.lookup y=some c)(N3:dF X scope js)(Of:(aW X xs js).Nodup)
  (hg:∀s' H' fp,PG (aU X scope cl (aW X xs js) s' H' fp) (.Tuple Nw kk tp) g)(ht:∀s' H' fp,P8 (aU X scope cl (aW X xs js) s' H' fp) ifs tc)(he:∀s' H' fp,PE (aU X scope cl (aW X xs js) s' H' fp) elt te)
  (hs:∀x,foldedSetIterable Nt X.env x=pure x:=by intro _;rfl):PE X (.ListComp elt [⟨.Tuple Nw kk tp,Nt,ifs,0⟩] scope pos) (lK xs.length wi g tc te js):=by
 intro Nn s σ H Q I h;rw[eval_ListComp];refine E5 (use:=none) rfl hs Oa hk Nx (Ag hc hi hk Nu Nz NC N3 Of hg ht he I h λD C H' s' I' fC hC q=>?_);obtain⟨m,hm⟩:=hC;refine⟨m,hm,λh' sb=>?_⟩;obtain⟨f0,f1,f2,f3,f4,f5⟩:=fC;exact⟨.ref D,H',I'.turned (t':=s'.toks) (λb o hb e=>(sb.2 b hb).trans e) f0 f1 f3 f4 f5,rfl,q⟩
theorem tL(hc:X.calm=true)(hi:PI X (.Tuple Nw kk tp) Nt wi)(hk:scope.kind=.function)(Nu:∀y∈scope.names,y.2≠.cell)(Nx:∀y∈scope.names,y.2=.local->scope.names.lookup y.1=some .local)
  (hf:∀p∈scope.names,p.2=.free->X.env.kindOf p.1=some .cell\/X.env.kindOf p.1=some .free)(N3:dF X scope js)(Of:(aW X xs js).Nodup)
  (hg:∀cl s' H' fp,PG (aU X scope cl (aW X xs js) s' H' fp) (.Tuple Nw kk tp) g)(ht:∀cl s' H' fp,P8 (aU X scope cl (aW X xs js) s' H' fp) ifs tc)(he:∀cl s' H' fp,PE (aU X scope cl (aW X xs js) s' H' fp) elt te)
  (hs:∀x,foldedSetIterable Nt X.env x=pure x:=by intro _;rfl):PE X (.ListComp elt [⟨.Tuple Nw kk tp,Nt,ifs,0⟩] scope pos) (lK xs.length wi g tc te js):=by
 intro Nn s σ H Q I h;obtain⟨cl,e,p1,p2⟩:=ui (oK (js:=js) I λy hy=>hf (y,.free) hy rfl);exact Fm hc hi hk Nu Nx e p1 p2 N3 Of (hg cl) (ht cl) (he cl) hs Nn s σ H Q I h
end
open PySem.Calls PySem.W PySem.Builtin.Getset_descriptor
structure gW(P:Program)(w:World)(K:W.Frag)(mg:Str->Option Value)(base:Heap)(C:Addr)(m:Str)(k:Nat)(ps:List Str)(sp:Sp):Prop where
 cl:Cls K C
 ex:∃(f:Addr)(fd:FuncData),Meth K C m f/\gS P w K mg base (NT P w) k f fd ps sp/\Binds K fd ps []
variable{P:Program}{w:World}{K:W.Frag}{mg:Str->Option Value}{base:Heap}
theorem oG{m qual:Str}{k:Nat}(T:aI K C m qual st)(S:ao N ps (ai st))
  (bd:∀(kV doc pm:Value)(an:Option Addr)(cdv ct:Value)(us:List Value),us.length=ps.length->bindArgs (PySem.W.fnOf m qual (df st) (aZ st) (ai st) .none kV doc pm an cdv ct) ⟨us,[]⟩=pure (ps.zip us))
  (len:∀vs H Q E,sp vs H Q E->vs.length=ps.length)
  (body:∀(f:Addr)(cdv:Value)(A:Around)(outer:List Env)(s:Shared)(H:Hp)(vs:List V)(Q:VK)(E:XK),bX k (A.deeper (envOfC qual (ai st) s.heap.objs.size f cdv))->sp vs H Q E->
   ∃t,NU (bM (NT P w) P w K mg base N qual (ai st) f cdv A outer s H E) (aZ st) t/\t {nx:=λ_ H'=>Q .non H',rt:=Q} (start N vs) H) :
  gW P w K mg base C m (k+1) ps sp:=by
 obtain⟨f,fd,hm,G⟩:=T.ex;obtain⟨oc,od,kV,doc,pm,an,cdv,ct,N7,rfl,lk,NZ⟩:=id G.ex;exact⟨T.cl,f,_,hm,Ef lk NZ S len λA outer s H vs Q E hr h=>body f cdv A outer s H vs Q E hr h,G.binds bd⟩
section
variable{P:Program}{w:World}{K:W.Frag}{mg:Str->Option Value}{base:Heap}{N:List Str}{qual:Str}{scope:Scope}{f:Addr}{cd:Value}{A:Around}{outer:List Env}{s:Shared}{H:Hp}{E:XK}
def Tt(P:Program)(w:World)(K:W.Frag)(mg:Str->Option Value)(base:Heap)(k:Nat)(m:Str)(E:XK)(ta:TE)(t:TA):TE:=λσ H Q=>ta σ H λx H1=>∃(a C dx:Addr)(fs:List (Str×V))(ps:List Str)(sp:Sp),x=.ref a/\H1 a=some (.ins C dx fs)/\fs.lookup m=none/\
 gW P w K mg base C m k ps sp/\t σ H1 λvs H2=>sp (.ref a::vs) H2 Q E
theorem oy{o:Expr}{es:List Expr}{t:TA}{m:Str}{k:Nat}{pl:Sem Bool}(he:PE (bM (NT P w) P w K mg base N qual scope f cd A outer s H E) o ta)(hr:bX k (bM (NT P w) P w K mg base N qual scope f cd A outer s H E).A)(ha:PA (bM (NT P w) P w K mg base N qual scope f cd A outer s H E) (e::es) t)
  (O3:starEach (e::es) (envOfC qual scope s.heap.objs.size f cd)=(false,eval e (envOfC qual scope s.heap.objs.size f cd))::starEach es (envOfC qual scope s.heap.objs.size f cd):=by rfl)(NR:(backTo pos (starEach es (envOfC qual scope s.heap.objs.size f cd))).any (·.1)=false:=by rfl)
  (ht:eval (.Call (.Attribute o m apos) (e::es) [] pos) (envOfC qual scope s.heap.objs.size f cd)=(do
   let ov <- eval o (envOfC qual scope s.heap.objs.size f cd)
   standAt apos.atName
   let (g,first) <- holding [ov] (getMethod ov m pl)
   callWith pos g first (backTo pos (starEach (e::es) (envOfC qual scope s.heap.objs.size f cd))) (backToKw pos (keywordEach [] (envOfC qual scope s.heap.objs.size f cd)))):=by rfl) :
  PE (bM (NT P w) P w K mg base N qual scope f cd A outer s H E) (.Call (.Attribute o m apos) (e::es) [] pos) (Tt P w K mg base k m E ta t):=by
 intro Nn s' σ H' Q I h;refine G1 (pl:=pl) (Nr (he Nn s' σ H' _ I h) λu s1 zz=>?_) ht;obtain⟨y,H1,I1,ry,a,C,dx,fs,ps,sp,ey,ea,lo,M,q⟩:=zz;subst ey;have eu:u=Value.ref a:=ry;subst eu;obtain⟨g,fd,hm,G,hb⟩:=M.ex;refine iI I1 ea M.cl hm lo ?_;refine F7 (first:=[.ref a]) (h₀:=base) I.ok.mod.kin hm.kp (Nr (ha pos Nn s1 σ H1 _ I1 q) λus s2 zz=>?_) O3 NR;obtain⟨vs,H2,I2,r2,q2⟩:=zz;refine⟨I2.kIn,?_⟩;refine pV (us:=.ref a::us) (vs:=.ref a::vs) (dvs:=[]) G hr hb .nil DW I2 (.cons rfl r2) ?_;rw[A6];exact q2
end
section
variable{X:Cx}
end
structure fF(K:W.Frag)(mg:Str->Option Value)(x:Str)(D:List (Str×List Str)):Prop where
 ex:∃a o es ep,mg x=some (.ref a)/\(a==sysModules)=false/\K.lookup a=some o/\o.ExactDict/\o.data=.dict es ep/\KTD.Rows (λ(ws:List Str) v=>∃b o its n,v=Value.ref b/\K.lookup b=some o/\o.cls=.type "tuple"/\o.data=.seq its n/\StrsAre its.toList ws) es.toList D
theorem yu(X:K.In h)(G:h.Ns mainGlobals mg)
  (e:PySem.W.nsIn K mainGlobals x=some (some (.ref a)))(l:K.lookup a=some ⟨.type "dict",none,.dict es ep,#[]⟩)(hs:(a==sysModules)=false)(r:KTD.Rows (λ(ws:List Str) v=>∃b o its n,v=Value.ref b/\K.lookup b=some o/\o.cls=.type "tuple"/\o.data=.seq its n/\StrsAre its.toList ws) es.toList D):fF K mg x D:=
 ⟨a,_,es,ep,LC X G e,hs,l,⟨rfl,rfl,rfl⟩,rfl,r⟩
theorem JY{vs:List Value}(h:StrsAre vs ws):KTD.Flats vs (ws.map PyData.str):=by
 induction h with
 | nil=>exact .nil
 | cons=>exact .cons (PyProof.V.Flat.str _ _) (by assumption)
theorem Di:∀{vs:List Value}{ws:List Str},KTD.Flats vs (ws.map PyData.str)->Vals (ws.map V.str) vs
 | [],[],_=>.nil
 | _::_,_::_,.cons h t=>by
  obtain⟨tk,rfl⟩:=PyProof.V.Flat.str_inv h;exact .cons ⟨tk,rfl⟩ (Di t)
noncomputable def ktD(D:List (Str×List Str)):List (Str×KTD.Dat):=D.map λq=>(q.1,KTD.Dat.tup (q.2.map PyData.str))
theorem tZ(k:Str):∀D:List (Str×List Str),KTD.datumAt k (ktD D)=(KTD.datumAt k D).map λws=>KTD.Dat.tup (ws.map PyData.str)
 | []=>rfl
 | c::D=>by
  show(if decide (k=c.1)=true then _ else KTD.datumAt k (ktD D))=Option.map _ (if decide (k=c.1)=true then _ else KTD.datumAt k D);split
  .rfl
  .exact tZ k D
noncomputable def zW(K:W.Frag)(h:Heap):Heap:=PySem.W.hideAll h ((List.range h.objs.size).filter λb=>(K.lookup b).isNone)
theorem we(X:K.In h)(e:K.lookup b=some o):(zW K h).get? b=some o:=
 E8 _ (X _ _ e) λz=>by have:=(Mn.mp z).2;rw[e]at this;cases this
theorem zV{h:Heap}(X:K.In h)(e:(zW K h).get? b=some o):K.lookup b=some o/\h.get? b=some o:=by
 have g:=LJ _ e;refine⟨?_,g⟩;cases z:K.lookup b with
 | none =>
  have m:b∈(List.range h.objs.size).filter λb=>(K.lookup b).isNone:=Mn.mpr ⟨MD.mpr (f9 g),by rw[z];rfl⟩;have n:=Md _ (h:=h) m;have e':(PySem.W.hideAll h ((List.range h.objs.size).filter λb=>(K.lookup b).isNone)).get? b=some o:=e;rw[n]at e';cases e'
 | some o'=>have:=X _ _ z;rw[g]at this;exact this.symm
theorem fF.here(T:fF K mg x D):∃a,mg x=some (.ref a)/\∀h:Heap,K.In h->KTD.Here (zW K h) h a (ktD D):=by
 obtain⟨a,o,es,ep,hm,hs,lk,xd,dt,Oh⟩:=T.ex;refine⟨a,hm,λh X=>⟨⟨hs,o,es,ep,we X lk,xd,dt,?_⟩,λb o e=>(zV X e).2⟩⟩;refine KTD.Rows.mono (R':=KTD.Dat.At (zW K h)) (f:=λws:List Str=>KTD.Dat.tup (ws.map PyData.str)) (λws v z=>?_) Oh;obtain⟨b,o,its,n,rfl,lb,c,d,st⟩:=z;exact⟨b,its.toList,rfl,⟨o,we X lb,c,n,d⟩,JY st⟩
theorem JN(X:K.In h)(hz:ws.length<=1000)(e:KTD.Dat.At (zW K h) (.tup (ws.map PyData.str)) v):∃b,v=.ref b/\∀H:Hp,Nv K H b (ws.map V.str):=by
 obtain⟨b,vs,rfl,⟨o,g,c,n,d⟩,fl⟩:=e;have rv:=Di fl;have l:=rv.length;rw[g6]at l;refine⟨b,rfl,λH=>.inr ⟨o,vs.toArray,n,(zV X g).1,c,d,?_,rv⟩⟩;show vs.length<=sizeLine;exact h8 (show vs.length<=1000 by omega) (by decide)
def UP(K:Frag)(k:Str)(D:List (Str×List Str))(H:Hp)(Q:VK):Prop:=match KTD.datumAt k D with
 | some ws=>ws.length<=1000/\∀b,(∀H:Hp,Nv K H b (ws.map V.str))->Q (.ref b) H
 | none=>Q .non H
def To(K:Frag)(D:List (Str×List Str))(ty:TE):TE:=λσ H Q=>ty σ H λy H1=>∃k,y=.str k/\UP K k D H1 Q
theorem ID{NA:Pos}{ty:TE}(T:fF X.K X.mg x D)(hg:Gl X x)(he:PE X e ty)(m:M1 X (.Name x p) "get" apos e NA)(NO:(x==("__debug__":Str))=false:=by decide) :
  PE X (.Call (.Attribute (.Name x p) "get" apos) [e] [] NA) (To X.K D ty):=by
 intro Nn s σ H Q I h;obtain⟨a,hm,tab⟩:=T.here;refine MX m.base m.few m.line LN K7 PySem.F.type_dict_get (dN I hg hm ?_ NO);have T1:=tab _ I.kIn;refine⟨T1.typeIs,T1.noDict,?_⟩;rw[m.trees];refine J6 rfl (G5 (A2 (Nr (he Nn s σ H _ I h) λiv s2 zz=>?_)));obtain⟨y,H2,I2,ry,k,ek,q2⟩:=zz;refine C3 ?_;subst ek;obtain⟨t,rfl⟩:=ry;have T2:=tab _ I2.kIn;unfold UP at q2;refine call_meetsIn K7 T2.typeIs PySem.F.entry_dict_get (PySem.F.args_dict_get_2 _ _) KTD.meets_get1 ⟨T2,λd v e1 e2=>?_,λe1=>?_⟩
 .rw[tZ]at e1;cases hn:KTD.datumAt k D with
  | none=>rw[hn]at e1;cases e1
  | some ws =>
   rw[hn]at e1 q2;cases e1
   obtain⟨b,rfl,sq⟩:=JN I2.kIn q2.1 e2;exact⟨.ref b,H2,I2.tok _,rfl,q2.2 b sq⟩
 .rw[tZ]at e1;cases hn:KTD.datumAt k D with
  | none =>
   rw[hn]at q2;exact⟨.non,H2,I2.tok _,rfl,q2⟩
  | some n=>rw[hn]at e1;cases e1
def Wo(K:Frag)(D:List (Str×List Str))(ty:TE):TE:=λσ H Q=>ty σ H λy H1=>∃k ws,y=.str k/\KTD.datumAt k D=some ws/\ws.length<=1000/\∀b,(∀H:Hp,Nv K H b (ws.map V.str))->Q (.ref b) H1
theorem QM{i:Expr}{ty:TE}(T:fF X.K X.mg x D)(hg:Gl X x)(hi:PE X i ty)(hs:Vy i)(NO:(x==("__debug__":Str))=false:=by decide) :
  PE X (.Subscript (.Name x p) i pos) (Wo X.K D ty):=by
 intro Nn s σ H Q I h;obtain⟨a,hm,tab⟩:=T.here;refine Dm MO.lookup hs (dN I hg hm (Nr (hi Nn s σ H _ I h) λiv s2 zz=>?_) NO);obtain⟨y,H2,I2,ry,k,ws,ey,hk,hz,q⟩:=zz;subst ey;obtain⟨t,rfl⟩:=ry;have T2:=tab _ I2.kIn;refine⟨T2.typeIs,?_⟩;unfold getItem;refine D8 (b6 (wpAny_sequenceKey T2.typeIs (by decide) (b6 (A1 T2.typeIs PySem.slot_dict_getitem (B2 PySem.slot_dict_getitem T2.typeIs PySem.entry_dict_getitem (show wpAny _ _ (dictGet a (Value.str k t) >>= _) _ _ _ from b6 (KTD.dictGet_text T2 (λd v ha hv=>?_) λhn=>?_)) (PySem.args_dict_getitem _ _))))))
 .rw[tZ,hk]at ha;cases ha
  obtain⟨b,rfl,sq⟩:=JN I2.kIn hz hv;exact f6 ⟨_,rfl,f6 ⟨.ref b,H2,I2.tok _,rfl,q b sq⟩⟩
 .rw[tZ,hk]at hn;cases hn
section
variable{X:Cx}{tg:Expr}
end
section
variable{X:Cx}
theorem GD(hc:X.calm=true):eW X (.builtin "min") (λxs H Q=>∃(l:Addr)(ns:List Int),xs=[.ref l]/\Nq X.K H l (ns.map V.int)/\0<ns.length/\∀M,M∈ns->(∀a∈ns,M<=a)->Q (.int M) H):=by
 intro Nn s σ H xs us Q I r h;obtain⟨l,ns,rfl,hq,Rm,q⟩:=h;obtain⟨u,rfl,rx⟩:=vals1 r;cases rx
 obtain⟨its,rv,pl,_⟩:=I.list hq;have hi:IntsAre its ns:=intsAre_of rv;have hl:=pl.isList;obtain⟨ys,e⟩:=hi.allInts.items;have en:ns=ys.toList.map (·.1):=by rw[<- hi.numsOf,<- nums_intItems,<- e]
 have sz:ns.length=ys.size:=by rw[en,g6,A8]
 rw[e]at hl;refine min_intList (I.ok.hd hc) hl (by omega) λv h' tk hv hk=>?_;obtain⟨t,rfl⟩:=intItems_at hv;obtain⟨h1,h2⟩:=argBest_lt (numAt ys) (ys.size-1);refine⟨.int _,H,I.kept hk,⟨t,rfl⟩,q _ ?_ λa ha=>?_⟩
 .rw[numAt_eq,<- en];exact PySem.getD_mem (by omega)
 .rw[en]at ha;obtain⟨j,hj,rfl⟩:=mem_getD ha;rw[<- numAt_eq];exact h2 j (by rw[g6,A8]at hj;omega)
theorem wC(hc:X.calm=true):eW X (.builtin "max") (λxs H Q=>∃(l:Addr)(ns:List Int),xs=[.ref l]/\Nq X.K H l (ns.map V.int)/\0<ns.length/\∀M,M∈ns->(∀a∈ns,a<=M)->Q (.int M) H):=by
 intro Nn s σ H xs us Q I r h;obtain⟨l,ns,rfl,hq,Rm,q⟩:=h;obtain⟨u,rfl,rx⟩:=vals1 r;cases rx
 obtain⟨its,rv,pl,_⟩:=I.list hq;have hi:IntsAre its ns:=intsAre_of rv;have hl:=pl.isList;obtain⟨ys,e⟩:=hi.allInts.items;have en:ns=ys.toList.map (·.1):=by rw[<- hi.numsOf,<- nums_intItems,<- e]
 have sz:ns.length=ys.size:=by rw[en,g6,A8]
 rw[e]at hl;refine max_intList (I.ok.hd hc) hl (by omega) λv h' tk hv hk=>?_;obtain⟨t,rfl⟩:=intItems_at hv;obtain⟨h1,h2⟩:=argBest_gt (numAt ys) (ys.size-1);refine⟨.int _,H,I.kept hk,⟨t,rfl⟩,q _ ?_ λa ha=>?_⟩
 .rw[numAt_eq,<- en];exact PySem.getD_mem (by omega)
 .rw[en]at ha;obtain⟨j,hj,rfl⟩:=mem_getD ha;rw[<- numAt_eq];exact h2 j (by rw[g6,A8]at hj;omega)
end
section
variable{X:Cx}{n:Nat}{x:Str}{sp:Sp}{p pos:Pos}
theorem DU(D:Def X.prog X.w X.K X.mg X.base n x [] sp)(hr:bX n X.A)(hg:Gl X x)(NO:(x==("__debug__":Str))=false:=by decide):PE X (.Call (.Name x p) [] [] pos) (yA sp [] E0 nG):=by
 obtain⟨f,fd,F,b,kp,m⟩:=D.ex;exact IJ F hr hg m kp b .nil vV NO
end
mutual
def KY(K:W.Frag)(H:Hp):PyData->V->Prop
 | .none,v=>v=.non
 | .bool b,v=>v=.bl b
 | .int i,v=>v=.int i
 | .str x,v=>v=.str x
 | .tuple ds,v=>∃a xs,v=.ref a/\Nv K H a xs/\hZ K H ds xs
 | .list ds,v=>∃a xs,v=.ref a/\Nq K H a xs/\hZ K H ds xs
 | .dict _,_=>False
def hZ(K:W.Frag)(H:Hp):List PyData->List V->Prop
 | [],xs=>xs=[]
 | d::ds,xs=>∃x r,xs=x::r/\KY K H d x/\hZ K H ds r
end
mutual
theorem Dat.m:∀{d:PyData}{v:V},Dat K H d v->KY K H d v
 | .none,_,h=>h
 | .bool _,_,h=>h
 | .int _,_,h=>h
 | .str _,_,h=>h
 | .tuple _,_,⟨a,xs,h1,h2,h3⟩=>⟨a,xs,h1,h2,DatAll.m h3⟩
 | .list _,_,h=>False.elim h
 | .dict _,_,h=>h
theorem DatAll.m:∀{ds:List PyData}{xs:List V},DatAll K H ds xs->hZ K H ds xs
 | [],_,h=>h
 | _::_,_,⟨x,r,h1,h2,h3⟩=>⟨x,r,h1,Dat.m h2,DatAll.m h3⟩
end
mutual
theorem KY.reads(I:Inv X Nn σ H s):∀d {v:V} {u:Value},KY X.K H d v->RelV v u->∃as,Reads s.heap u d as
 | .none,_,_,h,r=>Dat.reads I .none h r
 | .bool b,_,_,h,r=>Dat.reads I (.bool b) h r
 | .int i,_,_,h,r=>Dat.reads I (.int i) h r
 | .str x,_,_,h,r=>Dat.reads I (.str x) h r
 | .tuple ds,_,_,⟨a,xs,h1,h2,h3⟩,r=>by
  cases h1
  cases(show _=Value.ref a from r)
  obtain⟨its,rv,⟨o,ho,hc,n,hd⟩,_⟩:=I.tuple h2;obtain⟨as,ra⟩:=hZ.reads I ds h3 rv;exact⟨as,.tuple ho hc hd (by simpa using ra)⟩
 | .list ds,_,_,⟨a,xs,h1,h2,h3⟩,r=>by
  cases h1
  cases(show _=Value.ref a from r)
  obtain⟨its,rv,⟨o,n,ho,hc,_,hd⟩,_⟩:=I.list h2;obtain⟨as,ra⟩:=hZ.reads I ds h3 rv;exact⟨a::as,.list ho hc hd (by simpa using ra)⟩
 | .dict _,_,_,h,_=>False.elim h
theorem hZ.reads(I:Inv X Nn σ H s):∀ds {xs:List V} {us:List Value},hZ X.K H ds xs->Vals xs us->∃as,ReadsAll s.heap us ds as
 | [],_,_,h,r=>by
  cases(show _=([]:List V) from h)
  cases r
  exact⟨[],.nil⟩
 | d::ds,_,_,⟨x,t,h1,h2,h3⟩,r=>by
  cases h1
  cases r with
  | cons r1 r2 =>
   obtain⟨as,a1⟩:=KY.reads I d h2 r1;obtain⟨bs,b1⟩:=hZ.reads I ds h3 r2;exact⟨as++bs,.cons a1 b1⟩
end
section
variable{X:Cx}
end
section
variable{X:Cx}
noncomputable def iU(t y:Str)(k:Int):List Str:=Builtin.Str.partsBetween t (Builtin.Str.occurrences t y 0 t.length (limitOf t k)) y.length
def QC:V->List V->Hp->VK->Prop:=λx vs H Q=>∃(t y:Str)(k:Int),x=.str t/\vs=[.str y,.int k]/\0<=k/\k<=1000/\(y.length==0)=false/\(decide (t.length<y.length) || decide (Builtin.Str.strKind t<Builtin.Str.strKind y))=false/\
 (Builtin.Str.occurrences t y 0 t.length (limitOf t k)).isEmpty=false/\t.length<=1000000/\∀p,H p=none->Q (.ref p) (upd H p (.lst ((iU t y k).map V.str)))
theorem Gb:PV X "str.split" QC:=by
 intro Nn s σ H x vs v us Q I rx rv h;obtain⟨t,y,k,rfl,rfl,k0,k1,hy,h1,hf,hz,q⟩:=h;obtain⟨tx,rfl⟩:=rx;obtain⟨u,u2,rfl,⟨ty,rfl⟩,⟨tk,rfl⟩⟩:=vals2 rv;have hsz:t.length<=sizeLine:=h8 hz (by decide)
 have hln:(iU t y k).length<=2000:=by
  unfold iU;rw[Mv];have:=StrLaws.occ_length_le t y 0 t.length (limitOf t k);have:limitOf t k<=1000:=by unfold limitOf;split<;>omega
  omega
 have hl:(iU t y k).length<=sizeLine:=h8 hln (by decide)
 have hk:(decide (k < -(2^63:Int)) || decide (k>=2^63))=false:=by
  rw[h7 (show ¬k < -(2^63:Int) by omega),h7 (show ¬k>=2^63 by omega)];rfl
 refine J7 L8 (LM _ _ _) LZ (F.args_str_split_3 _ _ _) (meets_str_split_sep_max t y k tx ty tk hk h1 hy hf hsz hl) ?_;show wants _ _ _ {s with toks:=_,heap:=s.heap.push {cls:=.type "list",data:=.seq (strsFrom s.toks (iU t y k)).toArray} }
 rw[strsFrom_eq];refine⟨.ref s.heap.objs.size,_,I.lnew (ys:=(iU t y k).map V.str) ?_ (by rw[g6];exact hl),rfl,q _ I.fresh⟩;have z:=pe (numbered s.toks (iU t y k));rw[numbered_texts]at z;exact z
open PySem.Builtin PySem.Builtin.Str in
theorem xR(x y:Str)(i:Int)(t u v:Tok)(k:Nat)(rest:List Nat)(h:occurrences x y (fromIndex x.length i) x.length 1=k::rest):Gives («str.index» ⟨[.str x t,.str y u,.int i v],[]⟩) (.int k):=by
 show Gives (match occurrences x y (fromIndex x.length i) (min x.length x.length) 1 with | k::_=>retInt k | []=>(do rule "str.index.not-found";raiseError "ValueError" "substring not found")) _
 rw[Nat.min_self,h];exact .of_eq rfl
theorem Ge:PV X "str.index" (λx vs H Q=>∃(t y:Str)(i:Int)(k:Nat)(rest:List Nat),x=.str t/\vs=[.str y,.int i]/\Builtin.Str.occurrences t y (fromIndex t.length i) t.length 1=k::rest/\Q (.int k) H):=by
 intro Nn s σ H x vs v us Q I rx rv h;obtain⟨t,y,i,k,rest,rfl,rfl,ho,q⟩:=h;obtain⟨tx,rfl⟩:=rx;obtain⟨u,u2,rfl,⟨ty,rfl⟩,⟨tk,rfl⟩⟩:=vals2 rv;exact call_gives F.slot_str_index (LM _ _ _) F.entry_str_index (F.args_str_index_3 _ _ _) (xR t y i tx ty tk k rest ho) ⟨.int k,H,I.tok _,⟨_,rfl⟩,q⟩
end
section
variable{X:Cx}
theorem GI:eW X (.type "int") (λxs H Q=>∃(x:Str)(n:Int),xs=[.str x]/\x.length<=640/\PySem.intText? x=some n/\Q (.int n) H):=by
 intro Nn s σ H xs us Q I r h;obtain⟨x,n,rfl,hl,hn,q⟩:=h;obtain⟨u,rfl,t,rfl⟩:=vals1 r;refine call_int_1 (KIN.gives_text hl hn).meets ?_;exact⟨rfl,⟨.int n,H,I.tok _,⟨_,rfl⟩,q⟩⟩
end
section
variable{P:Program}{w:World}{A:Around}{E:Value->Shared->Prop}{s:Shared}
end
section
variable{P:Program}{w:World}{A:Around}{E:Value->Shared->Prop}{s:Shared}
end
section
variable{P:Program}{w:World}{A:Around}{E:Value->Shared->Prop}{s:Shared}
end
section
variable{M:Model}{A:Around}{E:Value->Shared->Prop}{s:Shared}
end
section
variable{P:Program}{w:World}{A:Around}{E:Value->Shared->Prop}{s:Shared}
end
section
variable{P:Program}{w:World}{A:Around}{E:Value->Shared->Prop}{s:Shared}
end
section
variable{P:Program}{w:World}{A:Around}{E:Value->Shared->Prop}{s:Shared}
end
section
variable{P:Program}{w:World}{A:Around}{E:Value->Shared->Prop}{s:Shared}
theorem mw:∀{vs:List Value}{ss:List Str},StrsAre vs ss->Vals (ss.map V.str) vs
 | _,_,.nil=>.nil
 | _,_,.cons x t r=>.cons ⟨t,rfl⟩ (mw r)
end
section
variable{X:Cx}
end
section
variable{prog:Program}{w:World}{A:Around}{E:Value->Shared->Prop}{s:Shared}
structure uE(h:Heap)(d:Addr)(es:Array DictEntry)(ep:Nat):Prop where
 ex:∃o,h.get? d=some o/\o.ExactDict/\o.data=.dict es ep
theorem uE.ty{d:Addr}(x:uE s.heap d es ep):s.TypeIs (.ref d) "dict":=by
 obtain⟨o,ho,hc,_⟩:=x.ex;exact⟨o,ho,hc.1⟩
theorem RE{d:Addr}(hd:(d==sysModules)=false)(x:uE s.heap d es ep)
  (q:Q (.ref s.heap.objs.size) {s with heap:=s.heap.push {cls:=.type "dict_keyiterator",data:=.fields #[.ref d,.int 0 0,.int es.size 0,.int ep 0] } }):wpAny (model prog w) A (pyIter (.ref d)) Q E s:=by
 have ty:=x.ty;obtain⟨o,ho,hc,dat⟩:=x.ex;refine wpAny_pyIter_slot ty F.slot_dict_iter (B2 F.slot_dict_iter ty F.entry_dict_iter ?_ (F.args_dict_iter_1 _));show wpAny _ _ (Builtin.Dict.dictSlotNone _ _ >>= _) _ _ s;unfold Builtin.Dict.dictSlotNone;refine b6 (b6 (wpAny_notOrdered_dict ty (f6 ?_)));have no:¬((d==sysModules)=true):=by rw[hd];exact i6
 show wpAny _ _ (Builtin.Dict.showsAll d >>= _) _ _ s;unfold Builtin.Dict.showsAll;rw[h9 no];refine b6 (f6 (b6 (wpAny_dictEntries ho dat (b6 (wpAny_dictEpoch ho dat (b6 (C4 (f6 ⟨_,rfl,"dict_keyiterator",_,⟨_,g7 _ rfl,rfl⟩,K1.lookup,?_⟩))))))));simpa [rawInt] using q
theorem Eh{d:Addr}{Q:Option Value->Shared->Prop}(hh:A.handled=none)(k:s.heap.IsKeyIter it d i es.size ep)(x:uE s.heap d es ep)
  (q1:∀e h',es[i]?=some e->h'.IsKeyIter it d (i+1) es.size ep->Heap.SameBut it s.heap h'->Q (some e.key) {s with heap:=h' })
  (q2:∀h',es[i]?=none->Heap.ExtBut it s.heap h'->Q none {s with heap:=h' }):wpAny (model prog w) A (pyNext (.ref it)) Q E s:=by
 have ty:=k.typeIs;obtain⟨io,ZF,ic,Xq⟩:=id k;obtain⟨o,ho,hc,dat⟩:=x.ex;unfold pyNext;refine b6 (E6 (A1 (name:=Str.ofString "__next__") ty K1 (B2 K1 ty F.entry_dict_keyiterator_next ?_ (F.args_dict_keyiterator_next_1 _))));have own:Builtin.Dict_items.ownsTuple "dict_keyiterator"=false:=by decide
 have nn:¬((Value.ref d==Value.none)=true):=i6;have i0:¬((i:Int)<0):=by omega
 refine b6 (f6 (b6 (b6 ?_)));refine b6 (J4 ty (f6 (b6 (wpAny_fieldsOf ZF Xq ?_))));simp only[own,MH,ME];show wpAny _ _ (if(Value.ref d==Value.none)=true then _ else _) _ _ s;rw[h9 nn];refine b6 (f6 (b6 (wpAny_dictEntries ho dat ?_)));rw[h9 (by simp)];refine b6 (f6 (b6 (wpAny_dictEpoch ho dat ?_)));rw[h9 (by simp)];refine f6 ?_;cases e:es[i]? with
 | some en =>
  simp only[i0,ME,Ld,e];refine b6 (b6 (J4 ty (f6 (b6 (wpAny_isOneOf_keyiter ty ?_)))));show wpAny _ _ (setField (.ref it) 1 (rawInt ((i:Int)+1)) >>= _) _ _ s;refine b6 (J1 ZF Xq (by simp) ?_)
  have k':(s.heap.update it (Obj.mapFields (·.setIfInBounds 1 (rawInt ((i:Int)+1))))).IsKeyIter it d (i+1) es.size ep:=
   ⟨_,C2 _ ZF (K6 (E2 Xq _)),(MW ..).trans ic,by rw[E2 Xq];simp[rawInt]⟩
  refine b6 (D8 (b6 (wpAny_isOneOf_keyiter (s:={s with heap:=s.heap.update it (Obj.mapFields (·.setIfInBounds 1 (rawInt ((i:Int)+1)))) }) k'.typeIs ?_)))
  show wpAny _ _ (pure en.key) _ _ _;exact f6 (f6 ⟨_,rfl,f6 (q1 en _ e k' (Lx ..))⟩)
 | none =>
  simp only[i0,ME,Ld,e];refine b6 (b6 (J4 ty (f6 ?_)));show wpAny _ _ (setField (.ref it) 0 .none >>= _) _ _ s;refine b6 (J1 ZF Xq (by simp) ?_);show wpAny _ _ (newExc (.type "StopIteration") [] >>= _) _ _ _;refine b6 ?_;simp only[newExc,newTuple];refine b6 (C4 ?_ (by size_fits));refine b6 (m:=firstArgMember _ _) (Mi (a:=Value.none) (by rfl) ?_);refine C4 ?_ (by size_fits);simp only[raiseNew];refine b6 (wpAny_handled ?_);rw[show A.in1.handled=none from hh];refine b6 (f6 (wpAny_throw ?_));refine b6 (F6 (T:="StopIteration") (b:=true) ⟨_,g7 _ rfl,rfl⟩ L4 ?_);exact f6 (q2 _ e (((Lx ..).extBut.push _).push _))
end
section
variable{X:Cx}{tg:Expr}
end
theorem RD(hh:A.handled=none)(I d:Addr)(nd:d≠I)(es:Array DictEntry)(ep:Nat) :
  Walks prog w A I [I,d] [I] es.size (λi v=>∃e,es[i]?=some e/\v=e.key) (λi h=>h.IsKeyIter I d i es.size ep/\uE h d es ep) where
 sub:=λb hb=>by simp at hb;simp[hb]
 frame:=λi h h' st k=>by
  obtain⟨k1,⟨o,ho,r⟩⟩:=st;exact⟨k1.at λo e=>k I (by simp) o e,⟨o,k d (by simp) o ho,r⟩⟩
 item:=λi s Q E hi st k=>by
  refine Eh hh st.1 st.2 (λe h' he ki sb=>?_) (λh' he _=>?_)
  .obtain⟨o,ho,r⟩:=st.2.ex;exact k e.key h' s.toks ⟨e,he,rfl⟩ ⟨ki,⟨o,sb.extBut d o nd ho,r⟩⟩ λb o hb e=>sb.extBut b o (λz=>hb (by simp[z])) e
  .rw[C8 hi]at he;cases he
 done:=λs Q E st k=>by
  refine Eh hh st.1 st.2 (λe h' he _ _=>?_) (λh' he eb=>?_)
  .have:=(C7.mp he).1;exact absurd this (y7 _)
  .exact k h' s.toks λb o hb e=>eb b o (λz=>hb (by simp[z])) e
 self:=λi s Q E st k=>wpAny_pyIter_keyiter st.1 k
section
variable{P:Program}{w:World}{A:Around}{E:Value->Shared->Prop}{s:Shared}
theorem Gq{Q:Bool->Shared->Prop}(hT:s.TypeIs (.ref r) "dict")(h:Q false s):wpAny (model P w) A (Builtin.List.listLengthHint (.ref r)) Q E s:=by
 unfold Builtin.List.listLengthHint;refine b6 (Mr hT PySem.F.slot_dict_len.lookup ?_);generalize X0:("dict.__len__":String)=id0
 wp_delta
 rw[show splitId id0=some ("dict","__len__") from by subst X0;decide+kernel];subst X0;refine b6 (F6 (T:="dict") (b:=true) hT (by rw[isSubtype_type];kernel_rfl) ?_);refine wpAny_ite_split (λhab=>absurd hab (by decide)) (λ_=>?_);refine wpAny_ite_split (λ_=>?_) (λhab=>absurd (by decide+kernel) hab);refine b6 (Nc hT ?_);exact f6 h
theorem Gx{L:Addr}(hm:(S==sysModules)=false)(x:uE s.heap S es ep)(hh:A.handled=none)(few:es.size<=60)(nL:L≠S)(hL:s.heap.get? L=some {cls:=.type "list",data:=.seq #[] c₀})
  (hR:∀h' tk vs c',(∀b o,b≠L->s.heap.get? b=some o->h'.get? b=some o)->h'.get? L=some {cls:=.type "list",dict:=none,data:=.seq vs c',slots:=#[] }->vs.toList=es.toList.map (·.key)->R (.ok (.ret res)) {s with heap:=h',toks:=tk}) :
  wpAny (model P w) A.in1 (Builtin.List.listExtendWith (.ref L) (.ref S) res)
   (λfin s'=>match fin with | .done f=>R (.ok f) s' | .again c'=>c'.quiet=true/\codeAny (model P w) A c' R s') (λe s'=>R (.error e) s') s:=by
 have ty:=x.ty;obtain⟨o,ho,hx,hd⟩:=id x.ex;have lL:=f9 hL;have lS:=f9 ho;unfold Builtin.List.listExtendWith;refine b6 (Nc (T:="dict") ty ?_);have h1:Builtin.List.listSameRef (.ref L) (.ref S)=false:=by simp[Builtin.List.listSameRef,nL]
 have h2:(Value.type "dict" == Value.type "list")=false:=by decide
 have h3:(Value.type "dict" == Value.type "tuple")=false:=by decide
 simp only[h1,h2,h3,Nm,MH,ME];refine b6 (RE hm x ?_);generalize hh1:s.heap.push {cls:=.type "dict_keyiterator",data:=.fields #[.ref S,.int 0 0,.int es.size 0,.int ep 0] }=h1;generalize hI:s.heap.objs.size=I;have kk:∀b o,s.heap.get? b=some o->h1.get? b=some o:=λb o e=>by rw[<- hh1];exact e9 _ e
 have sI:s.heap.objs.size<=I:=by rw[hI];exact f7 _
 have nS:S≠I:=v3 (i5 lS sI);have W:=λ(A':Around) (hh:A'.handled=none)=>RD (prog:=P) (w:=w) (A:=A') hh I S nS es ep;have st:h1.IsKeyIter I S 0 es.size ep/\uE h1 S es ep:=⟨⟨_,by rw[<- hh1,<- hI];exact g7 _ rfl,rfl,rfl⟩,⟨o,kk _ _ ho,hx,hd⟩⟩;have hL1:=kk _ _ hL;have nI:L≠I:=v3 (i5 lL sI);have Lf:L ∉ [I,S]:=λhb=>by simp at hb;rcases hb with z | z;exact nI z;exact nL z
 have key:∀(h:Heap)(c₁ tk:Nat),(h.IsKeyIter I S 0 es.size ep/\uE h S es ep)->(∀b o,b≠L->s.heap.get? b=some o->h.get? b=some o)->
   h.get? L=some {cls:=.type "list",data:=.seq #[] c₁}->codeAny (model P w) A (.builtin "list.extend.loop" ⟨[.ref L,.ref I,res],[]⟩) R {s with heap:=h,toks:=tk}:=by
  intro h c₁ tk O3 hk hS₁;refine codeAny_extend_loopS (W A.in1 hh).toS (by rw[F3];omega) L Lf res es.size 0 _ #[] c₁ rfl (z5 _) O3 hS₁ (ItemsOf.nil _) λs' OF c' hm PB X7=>?_;rw[Moved.eq_with hm]
  have ea:OF.toList=es.toList.map (·.key):=by
   apply List.ext_getElem
   .simp[X7.1]
   .intro i i1 i2;obtain⟨e,oe,ve⟩:=X7.2 i OF[i] (by simp at i1 ⊢);obtain⟨h0,he⟩:=C7.mp oe;simp[he,ve]
  refine hR s'.heap s'.toks OF c' (λb o hb e=>hm.heap b o (λhmem=>?_) (hk b o hb e)) PB ea;rcases j8.mp hmem with e' | hmem
  .exact hb e'
  .have:=f9 e;rw[y3.mp hmem]at this;exact Nat.not_le_of_lt this sI
 refine b6 (D8 (Gq (s:={s with heap:=h1}) ⟨o,kk _ _ ho,hx.1⟩ ?_))
 refine wpAny_ite_split (λ_=>?_) (λ_=>f6 ⟨M3 MQ _,key _ c₀ _ st (λb o _ e=>kk b o e) hL1⟩);refine b6 (Nd ?_);refine b6 ?_;show wpAny _ _ (updateSeq L (·.push .none) >>= λ_=>updateSeq L (·.pop)) _ _ _;refine b6 (wpAny_updateSeq hL1 rfl ?_);have ZK:=C2 (Obj.mapSeq (·.push Value.none)) hL1 rfl;refine wpAny_updateSeq (hz:=by seq_fits) ZK rfl ?_;have hS₃:=C2 (Obj.mapSeq (·.pop)) ZK rfl;refine f6 ⟨M3 MQ _,key _ _ _ ?_ (λb o hb e=>?_) hS₃⟩
 .refine(W A.in1 hh).frame 0 _ _ st λb hb o e=>?_;have hbS:b≠L:=λh=>Lf (h ▸ hb);exact(A3 _ _ (B8 hbS)).trans ((A3 _ _ (B8 hbS)).trans e)
 .exact(A3 _ _ (B8 hb)).trans ((A3 _ _ (B8 hb)).trans (kk b o e))
theorem Cg{R:List Value->Shared->Prop}(hm:(S==sysModules)=false)(x:uE s.heap S es ep)(hh:A.handled=none)(few:es.size<=60)
  (h:∀h' tk,(∀b o,s.heap.get? b=some o->h'.get? b=some o)->s.heap.objs.size<=h'.objs.size->R (es.toList.map (·.key)) {s with heap:=h',toks:=tk}) :
  wpAny (model P w) A (collect (.ref S)) R E s:=by
 have lt:S<s.heap.objs.size:=by obtain⟨o,ho,_⟩:=x.ex;exact f9 ho
 unfold collect;refine b6 (wpAny_runValue (codeAny_builtin entry_proto_collect' ?_));rw[Around.under_plainId PySem.F.plain_proto_collect _];show wpAny _ A.in1 (newList [] >>= λl=>again (.builtin "list.__iadd__" ⟨[l,.ref S],[]⟩)) _ _ s;refine b6 (C4 ?_);refine f6 ⟨M3 PySem.F.plain_list_iadd _,codeAny_builtin entry_list_iadd' ?_⟩;rw[Around.under_plainId PySem.F.plain_list_iadd _];have hS₁:(s.heap.push {cls:=.type "list",data:=.seq ([]:List Value).toArray}).get? s.heap.objs.size=some {cls:=.type "list",data:=.seq #[] }:=g7 _ rfl;show wpAny _ A.in1 (Builtin.List.listExtendWith (.ref s.heap.objs.size) (.ref S) (.ref s.heap.objs.size)) _ _ _
 have x1:uE (s.heap.push {cls:=.type "list",data:=.seq ([]:List Value).toArray}) S es ep:=by
  obtain⟨o,ho,r⟩:=x.ex;exact⟨o,e9 _ ho,r⟩
 have key:=Gx (P:=P) (w:=w) (A:=A) (s:={s with heap:=s.heap.push {cls:=.type "list",data:=.seq ([]:List Value).toArray} }) (L:=s.heap.objs.size) (res:=.ref s.heap.objs.size)
  (R:=λ(q:Result) (s':Shared)=>∃(h':Heap)(tk:Nat)(OF:Array Value)(c':Nat),q=.ok (.ret (.ref s.heap.objs.size))/\s'={s with heap:=h',toks:=tk} /\
   (∀b o,s.heap.get? b=some o->h'.get? b=some o)/\h'.get? s.heap.objs.size=some {cls:=.type "list",dict:=none,data:=.seq OF c',slots:=#[] }/\OF.toList=es.toList.map (·.key))
  hm x1 hh few (D9 lt) hS₁
  (λh' tk vs c' hk PB a1=>⟨h',tk,vs,c',rfl,rfl,λb o e=>hk b o (v3 (f9 e)) (e9 _ e),PB,a1⟩)
 refine v8 key (λfin s' y=>?_) λe s' y=>?_
 .cases fin with
  | done f =>
   obtain⟨h',tk,OF,c',e,rfl,hk,PB,a1⟩:=y;cases e
   show wpAny _ A (load s.heap.objs.size >>= _) _ _ _;refine b6 (wpAny_load PB ?_);exact f6 (by have z:=h h' tk hk (Mx (f9 PB));rw[<- a1]at z;exact z)
  | again c₁ =>
   refine⟨y.1,J5 y.2 λq s₂ y=>?_⟩;obtain⟨h',tk,OF,c',rfl,rfl,hk,PB,a1⟩:=y;show wpAny _ A (load s.heap.objs.size >>= _) _ _ _;refine b6 (wpAny_load PB ?_);exact f6 (by have z:=h h' tk hk (Mx (f9 PB));rw[<- a1]at z;exact z)
 .obtain⟨_,_,_,_,e',_⟩:=y;cases e'
end
section
variable{P:Program}{w:World}{A:Around}{E:Value->Shared->Prop}{s:Shared}
theorem Cf(hm:(S==sysModules)=false)(x:uE s.heap S es ep)(a1:StrsAre (es.toList.map (·.key)) ks)(hh:A.handled=none)(few:ks.length<=60)
  (h:∀h' tk D vs ss e,(∀b o,s.heap.get? b=some o->h'.get? b=some o)->s.heap.objs.size<=D->h'.get? D=some (seqObj "list" vs e)->StrsAre vs.toList ss->List.Perm ss ks->sortedS ss=true->Q (.ref D) {s with heap:=h',toks:=tk}) :
  wpAny (model P w) A (call (.builtin "sorted") [.ref S]) Q E s:=by
 have ls:es.size<=60:=by
  have:=StrsAre.length a1;rw[g6,A8]at this;omega
 refine Calls.call_function_entry kind_sorted plain_sorted entry_sorted (args_sorted1 _) ?_;unfold Builtin.«sorted»;refine b6 (m:=checkCount "sorted" 1 1 _) (f6 ?_);refine b6 (Cg (A:=A.in1) hm x hh ls λh' tk kk sz=>?_);generalize es.toList.map (·.key)=vs at a1;have vl:vs.length<=60:=by rw[StrsAre.length a1];exact few
 refine b6 (wpAny_newList ?_ (by rw[F3];omega));have XQ:(h'.push (seqObj "list" vs.toArray 0)).get? h'.objs.size=some (seqObj "list" vs.toArray 0):=g7 _ rfl;show wpAny _ _ _ _ _ {s with heap:=h'.push (seqObj "list" vs.toArray 0),toks:=tk}
 refine b6 (D8 (B2 slot_list_sort ⟨_,XQ,rfl⟩ entry_list_sort (list_sort_treeK strKind_oneLt (s:={s with heap:=h'.push (seqObj "list" vs.toArray 0),toks:=tk}) XQ a1.keysOf (λv₁ v₂ rest e=>keyKind_strs (by rw[<- e];exact a1)) (by omega) λOS p1 p2=>⟨_,rfl,?_⟩) (args_list_sort _)))
 obtain⟨ss',b1,b2,b3⟩:=sorted_out_str a1 p1 p2;refine f6 ⟨_,rfl,?_⟩;obtain⟨e,he⟩:=sortedHeap_at (out:=(arrOf OS).map (·.2)) XQ
 exact h _ tk h'.objs.size _ ss' e (λb o q=>by
  have lt:=f9 (kk b o q);rw[sortedHeap_old (v3 lt) (by rw[size_push'];exact LR lt)];exact e9 _ (kk b o q)) sz he b1 b2 b3
theorem Bt{es:List DictEntry}(p:Pairs (bN P w) es vs):∀{Np:List (Key×V)}{ks:List Str},KV Np vs->Np.map (·.1)=ks.map Sum.inr->StrsAre (es.map (·.key)) ks:=by
 induction p with
 | nil =>
  intro Np ks g hk;have g':Paired _ Np []:=g;cases g'
  have e:ks=[]:=by cases ks with | nil=>rfl | cons=>cases hk
  subst e;exact .nil
 | @cons e kv es vs h1 h2 h3 ih =>
  intro Np ks g hk;have g':Paired _ Np (kv::vs):=g;cases g' with
  | cons g1 g2 =>
   cases ks with
   | nil=>cases hk
   | cons k ks =>
    rw[v7,v7,List.cons.injEq]at hk;have i1:qN kv.1 e.key=true:=h1;rw[<- g1.1,hk.1]at i1;obtain⟨i,t,e1,_⟩ | ⟨y,t,e1,e2⟩:=bQ i1
    .cases e1
    .cases e1
     show StrsAre (e.key::_) _;rw[e2];exact .cons k t (ih g2 hk.2)
end
section
variable{X:Cx}
theorem vd(hc:X.calm=true):eW X (.builtin "sorted") (λxs H Q=>∃(d:Addr)(Np:List (Key×V))(ks:List Str),xs=[.ref d]/\H d=some (.dK Np)/\Np.map (·.1)=ks.map Sum.inr/\ks.length<=60/\∀D ss,H D=none->List.Perm ss ks->sortedS ss=true->Q (.ref D) (upd H D (.lst (ss.map V.str)))):=by
 intro Nn s σ H xs us Q I r h;obtain⟨d,Np,ks,rfl,hd,hk,few,q⟩:=h;obtain⟨u,rfl,rx⟩:=vals1 r;cases rx
 obtain⟨_,nd,vs,kv,o,es,ep,ho,YE,dat,_,pr,_⟩:=(show bj X.prog X.w H s.heap d (.dK Np) from I.hok d _ hd);refine Cf nd ⟨o,ho,YE,dat⟩ (Bt pr kv hk) (I.ok.hd hc) few λh' tk D vs ss e kk sz hD a1 a2 a3=>?_;have fr:=I.hok.fresh sz;have sl:ss.length<=60:=by rw[a2.length_eq];exact few
 have ok:bj X.prog X.w (upd H D (.lst (ss.map V.str))) h' D (.lst (ss.map V.str)):=⟨by rw[g6,F3];omega,vs.toList,e,mw a1,by simpa [seqObj] using hD⟩;exact⟨.ref D,_,I.laid (t':=tk) kk sz ok,rfl,q D ss fr a2 a3⟩
end
section
variable{X:Cx}
theorem QV(hu:X.A.units<cLine):NJ X (compareOp .Eq) (λx y H Q=>∃(a b:Addr)(Np:List (Key×V)),x=.ref a/\y=.ref b/\H a=some (.dK Np)/\H b=some (.dK [])/\Q (.bl Np.isEmpty) H):=by
 intro Nn s σ H x y v u Q I rx ry h;obtain⟨a,b,Np,rfl,rfl,ha,hb,q⟩:=h;cases(show v=Value.ref a from rx)
 cases(show u=Value.ref b from ry)
 obtain⟨_,na,va,ka,da⟩:=(show bj X.prog X.w H s.heap a (.dK Np) from I.hok a _ ha);obtain⟨_,nb,vb,kb,db⟩:=(show bj X.prog X.w H s.heap b (.dK []) from I.hok b _ hb);have kb':Paired _ [] vb:=kb;cases kb'
 have e:(va.length==([]:List (Key×Value)).length && true)=Np.isEmpty:=by
  have ka':Paired _ Np va:=ka;cases ka'<;>rfl
 refine keq_eq (r:=true) na nb da db hu (λhl=>?_) ?_
 .cases va with
  | nil=>exact .nil
  | cons=>cases hl
 .rw[e];exact⟨.bl Np.isEmpty,H,I,rfl,q⟩
end
theorem yr{κ:Type}[DecidableEq κ]{knd:KeyKind prog w κ}(hh:A.handled=none)(it d:Addr)(ZJ:d≠it)(Np:List (κ×Value))(ep:Nat) :
  WalksT prog w A it [it,d] [it] Np.length (λi NF=>∃k v key,Np[i]?=some (k,v)/\knd.is k key=true/\NF=#[key,v]) (λi h=>(∃ok ov,IsItemIter h it d i Np.length ep ok ov)/\h.DictAt knd d Np ep)
   (λi T h=>(∃ok ov,IsItemIterOut h it d (i+1) Np.length ep ok ov T)/\h.DictAt knd d Np ep/\T≠it) where
 sub:=λb hb=>by rw[y3.mp hb];simp
 frame:=λi h h' ⟨⟨ok,ov,a⟩,b⟩ k=>⟨⟨ok,ov,k it (by simp) _ a⟩,b.at λo e=>k d (by simp) o e⟩
 item:=λi s Q E hi ⟨⟨ok,ov,a⟩,b⟩ hQ=>by
  obtain⟨⟨k,v⟩,ZE⟩:∃x,Np[i]?=some x:=⟨_,g0 hi⟩;refine wpAny_pyNext_items_item a b ZE λkey h' hk out tup sz kp=>?_;have ni:s.heap.objs.size≠it:=λz=>by have:=f9 a;rw[<- z]at this;exact y7 _ this
  exact hQ s.heap.objs.size #[key,v] h' s.toks ⟨k,v,key,ZE,hk,rfl⟩ (f7 _) ⟨_,tup,rfl,_,rfl⟩ ⟨⟨_,_,out⟩,b.at λo e=>kp d o ZJ e,ni⟩ λb o hb e=>kp b o (λz=>hb (by rw[z];simp)) e
 go:=λNw k pos i T s Q E ⟨⟨ok,ov,a⟩,b,n⟩ hQ=>by
  refine wpAny_letOwnedTupleGo_items a λh' hit sb=>?_;exact hQ h' ⟨⟨ok,ov,hit⟩,b.at λo e=>(sb.2 d ZJ).trans e⟩ λb o hb e=>(sb.2 b λz=>hb (by rw[z];simp)).trans e
 apart:=λi T h m hT=>m.2.2 (y3.mp hT)
 done:=λs Q E ⟨⟨ok,ov,a⟩,b⟩ hQ=>wpAny_pyNext_items_end hh a b (G0 (f7 _)) λh' eb=>hQ h' s.toks λb o hb e=>eb b o (λz=>hb (by rw[z];simp)) e
 self:=λi s Q E ⟨⟨ok,ov,a⟩,_⟩ h=>kcp_self a h
def WK(Np:List (Key×V)):Nat->Hp->List V->Prop:=λi _ vs=>∃k v,Np[i]?=some (k,v)/\vs=[kV k,v]
def V7(d:Addr)(o:Obj)(Np:List (Key×V)):It:=V8 (λi H=>H d=some (.frz o (.dK Np))/\i<Np.length) (WK Np) λi H=>H d=some (.frz o (.dK Np))/\Np.length<=i
theorem JM{Np:List (Key×V)}(g:KV Np vs):vs.length=Np.length/\∀(i:Nat)(k:Key)(u:Value),vs[i]?=some (k,u)->∃v,Np[i]?=some (k,v)/\RelV v u:=by
 have g':Paired _ Np vs:=g
 induction g' with
 | nil=>exact⟨rfl,λi k u h=>by cases h⟩
 | @cons p q ps qs h1 h2 ih =>
  obtain⟨l,at_⟩:=ih h2;refine⟨by rw[k8,k8,l],λi k u h=>?_⟩;cases i with
  | zero =>
   rw[List.getElem?_cons_zero]at h;cases h
   obtain⟨pk,pv⟩:=p;have e:pk=k:=h1.1;subst e;exact⟨pv,rfl,h1.2⟩
  | succ i =>
   rw[List.getElem?_cons_succ]at h;obtain⟨v,e,r⟩:=at_ i k u h;exact⟨v,by rw[List.getElem?_cons_succ];exact e,r⟩
theorem Kf{d:Addr}{Np:List (Key×V)}(dat:o.data=.dict es ep)(ok:NP P w H h)(e:H d=some (.frz o (.dK Np))) :
  ∃vs,KV Np vs/\h.DictAt (bN P w) d vs ep:=by
 obtain⟨e1,_,_,vs,kv,o',V1,ZP,e2,YE,YN,ks,pr,nd⟩:=(show bj P w H h d (.frz o (.dK Np)) from ok d _ e);rw[e1]at e2;cases e2
 rw[dat]at YN;cases YN
 exact⟨vs,kv,o,es,e1,YE,dat,ks,pr,nd⟩
theorem AS(d it:Addr)(o:Obj)(Np:List (Key×V))(dat:o.data=.dict es ep)(ZJ:d≠it) :
  Turn P w K (.Tuple Nw kk NL) (V7 d o Np) [it] it (λi h=>∃ok ov,IsItemIter h it d i Np.length ep ok ov) where
 mem:=by simp
 obj:=λi h st b hb=>by
  have e:b=it:=by simpa using hb
  subst e;obtain⟨ok,ov,st⟩:=st;exact⟨_,st,λv z=>by cases z⟩
 keep:=λi h h' st k=>by
  obtain⟨ok,ov,st⟩:=st;exact⟨ok,ov,k it (by simp) _ st⟩
 item:=by
  intro X hP hw hK hc i Nn s σ H E I hf st hg;subst hP hw hK;obtain⟨hd,hi⟩:=hg;obtain⟨vs,kv,da⟩:=Kf dat I.hok hd;obtain⟨l,at_⟩:=JM kv;obtain⟨ok,ov,st⟩:=st;rw[<- l]at st;have W:=yr (A:=X.A) (I.ok.hd hc) it d ZJ vs ep (knd:=bN X.prog X.w);obtain⟨⟨k,u⟩,hku⟩:∃x,vs[i]?=some x:=⟨_,g0 (by omega)⟩;obtain⟨v,hv,rv⟩:=at_ i k u hku;refine jl (fp:=[it]) (vs:=[kV k,v]) (src:=WK Np) (tn:=λi h=>∃ok ov,IsItemIter h it d i Np.length ep ok ov) W I hf (λb hb=>?_) (λb hb=>hb) (by omega) ⟨⟨ok,ov,st⟩,da⟩ (λNF hP=>?_) Mine.z2 ⟨k,v,hv,rfl⟩ λh st=>?_
  .rw[y3.mp hb];exact⟨_,st⟩
  .obtain⟨k',u',key,e1,e2,rfl⟩:=hP;rw[hku]at e1;cases e1
   have e2:qN k key=true:=e2;refine .cons ?_ (.cons rv .nil);obtain⟨i,t,rfl,rfl⟩ | ⟨x,t,rfl,rfl⟩:=bQ e2
   .exact⟨t,rfl⟩
   .exact⟨t,rfl⟩
  .obtain⟨⟨ok,ov,z⟩,_⟩:=st;rw[l]at z;exact⟨ok,ov,z⟩
 done:=by
  intro X hP hw hK hc i Nn s σ H E I hf st hg;subst hP hw hK;obtain⟨hd,hi⟩:=hg;obtain⟨vs,kv,da⟩:=Kf dat I.hok hd;obtain⟨l,at_⟩:=JM kv;obtain⟨ok,ov,st⟩:=st;rw[<- l]at st;obtain⟨f0,f1,f2,f3,f4,f5⟩:=hf it (by simp);exact wpAny_pyNext_items_end (I.ok.hd hc) st da (G0 (by omega)) λh' eb=>⟨rfl,I.turned (t':=s.toks) (λb o hb e=>eb b o hb e) f0 f1 f3 f4 f5⟩
 self:=λ_ _ _ _ _ st h=>by
  obtain⟨ok,ov,st⟩:=st;exact kcp_self st h
section
variable{X:Cx}
def Uy(tl:TE):TI:=λσ H R=>tl σ H λx H1=>∃d Np,x=.ref d/\Rd H1 d (.dK Np)/\∀o,(∀o',H1 d=some (.frz o' (.dK Np))->o'=o)->R (V7 d o Np) (upd H1 d (.frz o (.dK Np)))
theorem IB{l:Expr}{tl:TE}(hl:PE X l tl)(NY:attributeBase l "items" X.env (eval l X.env)=eval l X.env)(N8:(apos.endLine==pos.line)=true:=by rfl) :
  PI X (.Tuple Nw kk NL) (.Call (.Attribute l "items" apos) [] [] pos) (Uy tl):=by
 intro Nn s σ H R I h;refine MX (T:="dict") (id:="dict.items") NY rfl N8 LN PySem.F.slot_dict_items PySem.F.type_dict_items (Nr (hl Nn s σ H _ I h) λv s1 zz=>?_);obtain⟨x,H1,I1,rx,d,Np,ex,rd,q⟩:=zz;subst ex;have ev:v=Value.ref d:=rx;subst ev;obtain⟨sz,nd,vs,kv,dO⟩:=(show bj X.prog X.w H1 s1.heap d (.dK Np) from rd.ok I1.hok);obtain⟨o,es,ep,ho,YE,dat,ks,pr,nod⟩:=id dO
 have same:∀o',H1 d=some (.frz o' (.dK Np))->o'=o:=λo' z=>by
  obtain⟨e1,_⟩:=(show bj X.prog X.w H1 s1.heap d (.frz o' (.dK Np)) from I1.hok d _ z);rw[e1]at ho;exact i7 ho
 have I2:Inv X Nn σ (upd H1 d (.frz o (.dK Np))) s1:=by
  rcases rd with rd | ⟨o',rd⟩
  .exact I1.write (h':=s1.heap) (t':=s1.toks) (e:=d) (by rw[rd];trivial) (.inl rfl) (λb u _ z=>z) ⟨o,ho⟩ ⟨ho,sz,nd,vs,kv,dO⟩
  .obtain⟨e1,_⟩:=(show bj X.prog X.w H1 s1.heap d (.frz o' (.dK Np)) from I1.hok d _ rd);rw[e1]at ho;cases ho
   have:upd H1 d (.frz o (.dK Np))=H1:=by
    funext b;unfold upd
    by_cases z:b=d
    .rw[k9 z,z,rd]
    .rw[h9 z]
   rw[this];exact I1
 refine⟨dO.typeIs,dO.mapOf.noDict,?_⟩;show wpAny _ _ (callWith pos (.builtin "dict.items") [.ref d] [] []) _ _ s1;refine method_meetsIn PySem.F.slot_dict_items PySem.F.entry_dict_items rfl (PySem.evalArgs_none ⟨rfl,dO.typeIs,PySem.F.args_dict_items_1 _,_,meets_dict_items (bN X.prog X.w) d nd,⟨vs,dO⟩,?_⟩);have ld:=f9 ho;have da:(s1.heap.push {cls:=.type "dict_items",data:=.fields #[.ref d] }).DictAt (bN X.prog X.w) d vs ep:=⟨o,es,e9 _ ho,YE,dat,ks,pr,nod⟩;refine wpAny_pyIter_items (s:={s1 with heap:=s1.heap.push {cls:=.type "dict_items",data:=.fields #[.ref d] } }) (v:=s1.heap.objs.size) ⟨_,g7 _ rfl,rfl,rfl⟩ da ?_
 have I3:=I2.kept (t':=s1.toks) (h':=(s1.heap.push {cls:=.type "dict_items",data:=.fields #[.ref d] }).push {cls:=.type "dict_itemiterator",data:=.fields #[.none,.bool false,.ref d,.int 0 0,.int vs.length 0,.int ep 0,.none,.none] }) λb o e=>e9 _ (e9 _ e);have Z9:s1.heap.objs.size<=(s1.heap.push {cls:=.type "dict_items",data:=.fields #[.ref d] }).objs.size:=by rw[A7];exact J3 _
 refine⟨_,[(s1.heap.push {cls:=.type "dict_items",data:=.fields #[.ref d] }).objs.size],_,V7 d o Np,_,rfl,I3,AS d _ o Np dat (v3 (i5 ld Z9)),⟨.none,.none,?_⟩,λb hb=>?_,q o same⟩
 .rw[<- (JM kv).1];exact g7 _ rfl
 .have e:b=_:=y3.mp hb;subst e;exact I2.fpOk Z9 (I2.hok.fresh Z9)
end
theorem Gu{d:Addr}{Np:List (Key×V)}{D:Ends}(Pv:Nat->St->Hp->Prop)(h0:Pv 0 σ H)(hl:∀i σ H,i<=Np.length->Pv i σ H->H d=some (.frz o (.dK Np)))
  (hs:∀i k v T σ H,Np[i]?=some (k,v)->Pv i σ H->H T=none->g (.ref T) σ (upd H T (.tup [kV k,v])) λσ2 H2=>tb {D with nx:=Pv (i+1),ct:=Pv (i+1),bk:=D.nx} σ2 H2)(hd:∀σ H,Pv Np.length σ H->D.nx σ H) :
  ∃W:Nat->Nat->St->Hp->Prop,(∃m,W 0 m σ H)/\∀i m σ H,W i m σ H->
   ((V7 d o Np).stop i H/\D.nx σ H)\/((V7 d o Np).go i H/\∃N:St->Hp->Prop,(∀σ' H',N σ' H'->∃m',m'<m/\W (i+1) m' σ' H')/\∀x H',(V7 d o Np).yld i H x H'->g x σ H' λσ2 H2=>tb {D with nx:=N,ct:=N,bk:=D.nx} σ2 H2):=by
 refine⟨λi m σ H=>m=Np.length-i/\i<=Np.length/\Pv i σ H,⟨Np.length,by simp,z5 _,h0⟩,?_⟩;rintro i m σ H ⟨rfl,hi,p⟩
 have q:=hl i σ H hi p
 by_cases Ny:i<Np.length
 .refine .inr ⟨⟨q,Ny⟩,Pv (i+1),λσ' H' p'=>⟨Np.length-(i+1),by omega,rfl,Ny,p'⟩,λx H' y=>?_⟩;obtain⟨T,vs,nT,rfl,rfl,k,v,hk,rfl⟩:=y;exact hs i k v T σ H hk p nT
 .have e:i=Np.length:=by omega
  subst e;exact .inl ⟨⟨q,f7 _⟩,hd σ H p⟩
end L2
namespace Mine
open PySem L2
variable{C CM CP:Addr}{X:Cx}{e:Expr}{te:TE}{σ:St}{Q:VK}{D:Ends}{wi:TI}{g:TG}{tc:TT}{js:List Nat}{t1 t2 tm:Tok}{b:Str}{ws:List Str}{ss:List Stmt}{E:XK}{H1 H':Hp}{h:List T3}{i:Nat}{R:Hp->Prop}{rs:List Rw}
noncomputable def top(i:Nat):Stmt:=PySem.Challenge.pw_leansay_k61_desk_refused.main.body.getD i (.Pass ⟨0,0,0,0⟩)
noncomputable abbrev fS:Stmt:=inClass (top 3) 0
noncomputable abbrev fU:Stmt:=inClass (top 6) 0
noncomputable abbrev fT:Stmt:=inClass (top 7) 0
noncomputable abbrev bW:Stmt:=inClass (top 38) 0
noncomputable abbrev cu:Stmt:=inClass (top 38) 1
noncomputable abbrev fh:Stmt:=inClass (top 38) 2
noncomputable abbrev iZ:Stmt:=inClass (top 38) 3
noncomputable abbrev gL:Stmt:=inClass (top 38) 4
noncomputable abbrev fg:Stmt:=inClass (top 38) 5
noncomputable abbrev fi:Stmt:=inClass (top 38) 6
noncomputable abbrev cB:Stmt:=inClass (top 39) 0
noncomputable abbrev fV:Stmt:=inClass (top 39) 1
noncomputable abbrev fj:Stmt:=inClass (top 39) 2
noncomputable abbrev cz:Stmt:=inClass (top 40) 0
noncomputable abbrev fA:Stmt:=inClass (top 40) 1
noncomputable abbrev eG:Stmt:=inClass (top 40) 2
noncomputable abbrev fY:Stmt:=inClass (top 41) 0
noncomputable abbrev bB:Stmt:=inClass (top 41) 1
noncomputable abbrev cG:Stmt:=inClass (top 41) 2
noncomputable abbrev cw:Stmt:=inClass (top 41) 3
noncomputable abbrev jV:Stmt:=inClass (top 42) 0
noncomputable abbrev fR:Stmt:=inClass (top 42) 1
noncomputable abbrev cX:Stmt:=inClass (top 42) 2
noncomputable abbrev hG:Stmt:=inClass (top 42) 3
noncomputable abbrev iO:Stmt:=inClass (top 42) 4
noncomputable abbrev gZ:Stmt:=inClass (top 42) 5
noncomputable abbrev iP:Stmt:=inClass (top 43) 0
noncomputable abbrev fq:Stmt:=inClass (top 43) 1
noncomputable abbrev gd:Stmt:=inClass (top 43) 2
noncomputable abbrev hJ:Stmt:=inClass (top 43) 3
noncomputable abbrev gc:Stmt:=inClass (top 43) 4
noncomputable abbrev cR:Stmt:=inClass (top 44) 0
noncomputable abbrev fX:Stmt:=inClass (top 44) 1
noncomputable abbrev eB:Stmt:=inClass (top 44) 2
noncomputable abbrev cS:Stmt:=inClass (top 45) 0
noncomputable abbrev fZ:Stmt:=inClass (top 45) 1
noncomputable abbrev eE:Stmt:=inClass (top 45) 2
noncomputable abbrev cj:Stmt:=inClass (top 46) 0
noncomputable abbrev dJ:Stmt:=inClass (top 46) 1
noncomputable abbrev cT:Stmt:=inClass (top 46) 2
noncomputable abbrev cy:Stmt:=inClass (top 47) 0
noncomputable abbrev eC:Stmt:=inClass (top 47) 1
noncomputable abbrev cY:Stmt:=inClass (top 47) 2
noncomputable abbrev cC:Stmt:=inClass (top 48) 0
noncomputable abbrev fo:Stmt:=inClass (top 48) 1
noncomputable abbrev dI:Stmt:=inClass (top 48) 2
noncomputable abbrev gp:Stmt:=inClass (top 133) 0
noncomputable abbrev cH:Stmt:=inClass (top 133) 1
noncomputable abbrev gm:Stmt:=inClass (top 133) 2
noncomputable abbrev ft:Stmt:=inClass (top 133) 4
noncomputable abbrev dX:Stmt:=inClass (top 133) 5
noncomputable abbrev gj:Stmt:=inClass (top 133) 6
noncomputable abbrev Sx:Stmt:=fh
noncomputable abbrev Sw:Stmt:=iZ
noncomputable abbrev WS:Stmt:=gL
noncomputable abbrev gK:Stmt:=top 14
noncomputable abbrev mM:Stmt:=top 15
noncomputable abbrev Bo:Stmt:=top 17
noncomputable abbrev pS:Stmt:=top 18
noncomputable abbrev gD:Stmt:=top 19
noncomputable abbrev pJ:Stmt:=top 20
noncomputable abbrev nX:Stmt:=top 22
noncomputable abbrev pM:Stmt:=top 23
noncomputable abbrev ff:Stmt:=top 24
noncomputable abbrev mK:Stmt:=top 32
noncomputable abbrev iD:Stmt:=top 33
noncomputable abbrev gH:Stmt:=top 34
noncomputable abbrev xt:Stmt:=top 35
noncomputable abbrev dR:Stmt:=top 49
noncomputable abbrev pP:Stmt:=top 50
noncomputable abbrev pR:Stmt:=top 51
noncomputable abbrev Ig:Stmt:=top 52
noncomputable abbrev Ih:Stmt:=top 52
noncomputable abbrev jz:Stmt:=top 54
noncomputable abbrev pK:Stmt:=top 61
noncomputable abbrev kN:Stmt:=top 62
noncomputable abbrev iY:Stmt:=top 63
noncomputable abbrev kQ:Stmt:=top 64
noncomputable abbrev kP:Stmt:=top 65
noncomputable abbrev gF:Stmt:=top 66
noncomputable abbrev mL:Stmt:=top 70
noncomputable abbrev iW:Stmt:=top 71
noncomputable abbrev pL:Stmt:=top 72
noncomputable abbrev pU:Stmt:=top 73
noncomputable abbrev eP:Stmt:=top 75
noncomputable abbrev iX:Stmt:=top 77
noncomputable abbrev tJ:Stmt:=top 78
noncomputable abbrev jS:Stmt:=top 79
noncomputable abbrev kR:Stmt:=top 80
noncomputable abbrev gG:Stmt:=top 81
noncomputable abbrev mJ:Stmt:=top 82
noncomputable abbrev mH:Stmt:=top 83
noncomputable abbrev iV:Stmt:=top 84
noncomputable abbrev jR:Stmt:=top 85
noncomputable abbrev iE:Stmt:=top 86
noncomputable abbrev Bp:Stmt:=top 88
noncomputable abbrev xu:Stmt:=top 89
noncomputable abbrev dQ:Stmt:=top 105
noncomputable abbrev pO:Stmt:=top 106
noncomputable abbrev Bq:Stmt:=top 109
noncomputable abbrev mO:Stmt:=top 110
noncomputable abbrev gJ:Stmt:=top 111
noncomputable abbrev Bn:Stmt:=top 112
noncomputable abbrev jU:Stmt:=top 119
noncomputable abbrev pQ:Stmt:=top 120
noncomputable abbrev kO:Stmt:=top 121
noncomputable abbrev jT:Stmt:=top 122
noncomputable abbrev mI:Stmt:=top 123
noncomputable abbrev jB:Stmt:=top 124
noncomputable abbrev dW:Stmt:=top 125
noncomputable abbrev iC:Stmt:=top 127
noncomputable abbrev gy:Stmt:=top 128
noncomputable abbrev gE:Stmt:=top 129
noncomputable abbrev kM:Stmt:=top 130
noncomputable abbrev iG:Stmt:=top 131
noncomputable abbrev iF:Stmt:=top 132
noncomputable abbrev Fe:Stmt:=top 135
noncomputable abbrev xw:Stmt:=top 135
noncomputable abbrev jA:Stmt:=top 137
noncomputable abbrev tI:Stmt:=top 138
noncomputable abbrev cO:Stmt:=top 139
noncomputable abbrev eQ:Stmt:=top 140
noncomputable abbrev s_law:Stmt:=top 141
noncomputable abbrev nY:Stmt:=top 141
variable{P:Program}{w:World}{K:W.Frag}{mg:Str->Option Value}{base:Heap}
theorem tu:ao ["self","name"] ["self","name"] (ai fY):=L2.fsc
theorem BF(T:MkF K mg x C "Letter.__init__" fY)(n:bh K C "name"):jf P w K mg base x C 1 ["self","name"] (eA C oM):=by
 refine Eb T tu (λ_ _ _ _ _ _=>L2.ar2 λ_ _=>rfl) ?_ ?_
 .walk_at "i1"
 walk_at "i2";obtain⟨a,dx,y,rfl,e,q⟩:=h;have nd:=tu.nd;refine⟨_,(ah (tK (pv 0) (pv 1) rfl)),?_⟩;exact⟨_,rfl,_,rfl,a,C,dx,[],rfl,e,T.cl,n,(by show 0<1000;decide),q⟩
theorem DM:ao ["self","part"] ["self","part"] (ai jV):=L2.fsc
theorem Q5(T:MkF K mg x C "Not.__init__" jV)(n:bh K C "part"):jf P w K mg base x C 1 ["self","part"] (eA C lB):=by
 refine Eb T DM (λ_ _ _ _ _ _=>L2.ar2 λ_ _=>rfl) ?_ ?_
 .walk_at "i1"
 walk_at "i2";obtain⟨a,dx,y,rfl,e,q⟩:=h;have nd:=DM.nd;refine⟨_,(ah (tK (pv 0) (pv 1) rfl)),?_⟩;exact⟨_,rfl,_,rfl,a,C,dx,[],rfl,e,T.cl,n,(by show 0<1000;decide),q⟩
theorem yZ:ao ["self","one","other"] ["self","one","other"] (ai iP):=L2.fsc
theorem Jn(T:MkF K mg x C "Fold.__init__" iP)(n:bh K C "one")(n':bh K C "other"):jf P w K mg base x C 1 ["self","one","other"] (gY C):=by
 refine Eb T yZ (λ_ _ _ _ _ _=>L2.ar3 λ_ _ _=>rfl) ?_ ?_
 .walk_at "i1"
 walk_at "i2";obtain⟨a,dx,y,z,rfl,e,q⟩:=h;have nd:=yZ.nd
 refine⟨_,(ag (tK (pv 0) (pv 1) rfl)
  (ah (tK (pv 0) (pv 2) rfl))),?_⟩
 refine⟨_,rfl,_,rfl,a,C,dx,[],rfl,e,T.cl,n,(by show 0<1000;decide),?_⟩;refine⟨_,rfl,_,rfl,a,C,dx,_,rfl,ae,T.cl,n',(by show 1<1000;decide),?_⟩;rw[Ir,lH];exact q
theorem Su:ao ["self"] ["self"] (ai bW):=L2.fsc
theorem DZ(T:aI K C "made_of" "Saying.made_of" bW)(ht:t.kids=[]):aJ P w K mg base C "made_of" 1 ["self"] (xa c t):=by
 refine aR T Su (λ_ _ _ _ _ _=>L2.ar1 λ_=>rfl) ?_ ?_
 .walk_at "i1"
 walk_at "i2";obtain⟨a,rfl,o,q⟩:=h;have nd:=Su.nd;refine⟨_,(ah (av (bg af))),?_⟩;refine⟨Mine.z0,λl hl=>q l [] hl ?_⟩;rw[ht];exact .nil
theorem DI:ao ["self"] ["self"] (ai fR):=L2.fsc
theorem Q4(T:aI K c.no "made_of" "Not.made_of" fR)(F:Fx K c):aJ P w K mg base c.no "made_of" 1 ["self"] (xa c (.no t)):=by
 refine aR T DI (λ_ _ _ _ _ _=>L2.ar1 λ_=>rfl) ?_ ?_
 .walk_at "i1"
 walk_at "i2";obtain⟨a,rfl,o,q⟩:=h;have nd:=DI.nd;refine⟨_,(ah (av (bg (aa (dw (pv 0) rfl) af)))),?_⟩;cases o with
 | no e o =>
  refine⟨_,rfl,a,c.no,_,_,_,rfl,e,T.cl,F.nPart,wb _,Mine.z1,λl hl=>q l _ hl ?_⟩;exact .cons ⟨_,rfl,o⟩ .nil
theorem yY:ao ["self"] ["self"] (ai fq):=L2.fsc
theorem Jj(T:aI K (c.fold u) "made_of" "Fold.made_of" fq)(F:Fx K c):aJ P w K mg base (c.fold u) "made_of" 1 ["self"] (xa c (.fold u t t')):=by
 refine aR T yY (λ_ _ _ _ _ _=>L2.ar1 λ_=>rfl) ?_ ?_
 .walk_at "i1"
 walk_at "i2";obtain⟨a,rfl,o,q⟩:=h;have nd:=yY.nd;refine⟨_,(ah (av (bg (aa (dw (pv 0) rfl) (aa (dw (pv 0) rfl) af))))),?_⟩;cases o with
 | fold e o o' =>
  refine⟨_,rfl,a,_,_,_,_,rfl,e,T.cl,F.nOne u,zQ _ _,_,rfl,a,_,_,_,_,rfl,e,T.cl,F.nOther u,tY _ _,Mine.z2,λl hl=>q l _ hl ?_⟩;exact .cons ⟨_,rfl,o⟩ (.cons ⟨_,rfl,o'⟩ .nil)
theorem vE:ao ["self"] ["self"] (ai cB):=L2.fsc
theorem Ft(T:aI K C "making_word" "Never.making_word" cB):aJ P w K mg base C "making_word" 1 ["self"] (eY c .never):=by
 refine aR T vE (λ_ _ _ _ _ _=>L2.ar1 λ_=>rfl) ?_ ?_
 .walk_at "i1"
 walk_at "i2";obtain⟨a,rfl,o,q⟩:=h;have nd:=vE.nd;refine⟨_,(ah (av az)),?_⟩;exact q
theorem sS:ao ["self"] ["self"] (ai cz):=L2.fsc
theorem BA(T:aI K C "making_word" "Always.making_word" cz):aJ P w K mg base C "making_word" 1 ["self"] (eY c .always):=by
 refine aR T sS (λ_ _ _ _ _ _=>L2.ar1 λ_=>rfl) ?_ ?_
 .walk_at "i1"
 walk_at "i2";obtain⟨a,rfl,o,q⟩:=h;have nd:=sS.nd;refine⟨_,(ah (av az)),?_⟩;exact q
theorem Ic:ao ["self"] ["self"] (ai bB):=L2.fsc
theorem Ub(T:aI K c.le "making_word" "Letter.making_word" bB)(F:Fx K c):aJ P w K mg base c.le "making_word" 1 ["self"] (eY c .lp):=by
 refine aR T Ic (λ_ _ _ _ _ _=>L2.ar1 λ_=>rfl) ?_ ?_
 .walk_at "i1"
 walk_at "i2";obtain⟨a,rfl,o,q⟩:=h;have nd:=Ic.nd;refine⟨_,(ah (av (dw (pv 0) rfl))),?_⟩;cases o with
 | lp e=>exact⟨_,rfl,a,_,_,_,_,rfl,e,T.cl,F.nName,ik _,q⟩
theorem Ib:ao ["self"] ["self"] (ai bB):=L2.fsc
theorem Ua(T:aI K c.le "making_word" "Letter.making_word" bB)(F:Fx K c):aJ P w K mg base c.le "making_word" 1 ["self"] (eY c .lq):=by
 refine aR T Ib (λ_ _ _ _ _ _=>L2.ar1 λ_=>rfl) ?_ ?_
 .walk_at "i1"
 walk_at "i2";obtain⟨a,rfl,o,q⟩:=h;have nd:=Ib.nd;refine⟨_,(ah (av (dw (pv 0) rfl))),?_⟩;cases o with
 | lq e=>exact⟨_,rfl,a,_,_,_,_,rfl,e,T.cl,F.nName,ik _,q⟩
theorem DA:ao ["self"] ["self"] (ai cX):=L2.fsc
theorem Q0(T:aI K C "making_word" "Not.making_word" cX):aJ P w K mg base C "making_word" 1 ["self"] (eY c (.no t)):=by
 refine aR T DA (λ_ _ _ _ _ _=>L2.ar1 λ_=>rfl) ?_ ?_
 .walk_at "i1"
 walk_at "i2";obtain⟨a,rfl,o,q⟩:=h;have nd:=DA.nd;refine⟨_,(ah (av az)),?_⟩;exact q
theorem yL:ao ["self"] ["self"] (ai cR):=L2.fsc
theorem IQ(T:aI K C "making_word" "More.making_word" cR):aJ P w K mg base C "making_word" 1 ["self"] (eY c (.fold .more t t')):=by
 refine aR T yL (λ_ _ _ _ _ _=>L2.ar1 λ_=>rfl) ?_ ?_
 .walk_at "i1"
 walk_at "i2";obtain⟨a,rfl,o,q⟩:=h;have nd:=yL.nd;refine⟨_,(ah (av az)),?_⟩;exact q
theorem za:ao ["self","n","first","second"] ["self","n","first","second"] (ai fX):=L2.fsc
theorem Js(T:aI K C "folded" "More.folded" fX)(eT:mg "min"=none):aJ P w K mg base C "folded" 1 ["self","n","first","second"] (iz .more):=by
 refine aR T za (λ_ _ _ _ _ _=>L2.ar4 λ_ _ _ _=>rfl) ?_ ?_
 .walk_at "i1"
 walk_at "i2";obtain⟨a,n,i,j,rfl,q⟩:=h;have nd:=za.nd;refine⟨_,(ah (av (aH (jJ rfl) eT (aa (aO gP (pv 2) (pv 3)) (aa (pv 1) af))))),?_⟩;refine⟨_,rfl,_,rfl,_,_,rfl,rfl,_,rfl,_,_,rfl,?_⟩;rw[qd];exact q
theorem yQ:ao ["self","first","second"] ["self","first","second"] (ai eB):=L2.fsc
theorem Ja{c:CCs}(T:aI K C "refolded" "More.refolded" eB)(dC:∀u:W5,jf P w K mg base u.cls (c.fold u) 1 ["self","one","other"] (gY (c.fold u))):aJ P w K mg base C "refolded" 3 ["self","first","second"] (eO c .more):=by
 refine aR T yQ (λ_ _ _ _ _ _=>L2.ar3 λ_ _ _=>rfl) ?_ ?_
 .walk_at "i1"
 walk_at "i2";obtain⟨a,b,d,t,t',rfl,o,o',q⟩:=h;have nd:=yQ.nd;refine⟨_,(ah (av (iQ (dC .more) (aa (pv 1) (aa (pv 2) af))))),?_⟩;refine⟨_,rfl,_,rfl,λz dz hz OI ne=>⟨z,dz,_,_,rfl,ae,rfl,?_⟩⟩;exact ij hz OI ne o o' q
theorem yM:ao ["self"] ["self"] (ai cS):=L2.fsc
theorem IS(T:aI K C "making_word" "Less.making_word" cS):aJ P w K mg base C "making_word" 1 ["self"] (eY c (.fold .less t t')):=by
 refine aR T yM (λ_ _ _ _ _ _=>L2.ar1 λ_=>rfl) ?_ ?_
 .walk_at "i1"
 walk_at "i2";obtain⟨a,rfl,o,q⟩:=h;have nd:=yM.nd;refine⟨_,(ah (av az)),?_⟩;exact q
theorem zb:ao ["self","n","first","second"] ["self","n","first","second"] (ai fZ):=L2.fsc
theorem Jt(T:aI K C "folded" "Less.folded" fZ)(eU:mg "max"=none):aJ P w K mg base C "folded" 1 ["self","n","first","second"] (iz .less):=by
 refine aR T zb (λ_ _ _ _ _ _=>L2.ar4 λ_ _ _ _=>rfl) ?_ ?_
 .walk_at "i1"
 walk_at "i2";obtain⟨a,n,i,j,rfl,q⟩:=h;have nd:=zb.nd;refine⟨_,(ah (av (aH (lZ rfl) eU (aa (aO gN (aO gP (pv 2) (pv 3)) (pv 1)) (aa aq af))))),?_⟩;refine⟨_,rfl,_,rfl,_,_,rfl,rfl,_,rfl,_,_,rfl,rfl,_,_,rfl,?_⟩;rw[tX];exact q
theorem yR:ao ["self","first","second"] ["self","first","second"] (ai eE):=L2.fsc
theorem Jb{c:CCs}(T:aI K C "refolded" "Less.refolded" eE)(dC:∀u:W5,jf P w K mg base u.cls (c.fold u) 1 ["self","one","other"] (gY (c.fold u))):aJ P w K mg base C "refolded" 3 ["self","first","second"] (eO c .less):=by
 refine aR T yR (λ_ _ _ _ _ _=>L2.ar3 λ_ _ _=>rfl) ?_ ?_
 .walk_at "i1"
 walk_at "i2";obtain⟨a,b,d,t,t',rfl,o,o',q⟩:=h;have nd:=yR.nd;refine⟨_,(ah (av (iQ (dC .less) (aa (pv 1) (aa (pv 2) af))))),?_⟩;refine⟨_,rfl,_,rfl,λz dz hz OI ne=>⟨z,dz,_,_,rfl,ae,rfl,?_⟩⟩;exact ij hz OI ne o o' q
theorem qy:ao ["self"] ["self"] (ai cj):=L2.fsc
theorem zw(T:aI K C "making_word" "Greater.making_word" cj):aJ P w K mg base C "making_word" 1 ["self"] (eY c (.fold .greater t t')):=by
 refine aR T qy (λ_ _ _ _ _ _=>L2.ar1 λ_=>rfl) ?_ ?_
 .walk_at "i1"
 walk_at "i2";obtain⟨a,rfl,o,q⟩:=h;have nd:=qy.nd;refine⟨_,(ah (av az)),?_⟩;exact q
theorem qJ:ao ["self","n","first","second"] ["self","n","first","second"] (ai dJ):=L2.fsc
theorem zD(T:aI K C "folded" "Greater.folded" dJ)(eU:mg "max"=none):aJ P w K mg base C "folded" 1 ["self","n","first","second"] (iz .greater):=by
 refine aR T qJ (λ_ _ _ _ _ _=>L2.ar4 λ_ _ _ _=>rfl) ?_ ?_
 .walk_at "i1"
 walk_at "i2";obtain⟨a,n,i,j,rfl,q⟩:=h;have nd:=qJ.nd;refine⟨_,(ah (av (aH (lZ rfl) eU (aa (pv 2) (aa (pv 3) af))))),?_⟩;refine⟨_,rfl,_,rfl,_,_,rfl,?_⟩;rw[tX];exact q
theorem qA:ao ["self","first","second"] ["self","first","second"] (ai cT):=L2.fsc
theorem zB{c:CCs}(T:aI K C "refolded" "Greater.refolded" cT)(dC:∀u:W5,jf P w K mg base u.cls (c.fold u) 1 ["self","one","other"] (gY (c.fold u))):aJ P w K mg base C "refolded" 3 ["self","first","second"] (eO c .greater):=by
 refine aR T qA (λ_ _ _ _ _ _=>L2.ar3 λ_ _ _=>rfl) ?_ ?_
 .walk_at "i1"
 walk_at "i2";obtain⟨a,b,d,t,t',rfl,o,o',q⟩:=h;have nd:=qA.nd;refine⟨_,(ah (av (iQ (dC .greater) (aa (pv 1) (aa (pv 2) af))))),?_⟩;refine⟨_,rfl,_,rfl,λz dz hz OI ne=>⟨z,dz,_,_,rfl,ae,rfl,?_⟩⟩;exact ij hz OI ne o o' q
theorem sR:ao ["self"] ["self"] (ai cy):=L2.fsc
theorem Bz(T:aI K C "making_word" "Lesser.making_word" cy):aJ P w K mg base C "making_word" 1 ["self"] (eY c (.fold .lesser t t')):=by
 refine aR T sR (λ_ _ _ _ _ _=>L2.ar1 λ_=>rfl) ?_ ?_
 .walk_at "i1"
 walk_at "i2";obtain⟨a,rfl,o,q⟩:=h;have nd:=sR.nd;refine⟨_,(ah (av az)),?_⟩;exact q
theorem tG:ao ["self","n","first","second"] ["self","n","first","second"] (ai eC):=L2.fsc
theorem BI(T:aI K C "folded" "Lesser.folded" eC)(eT:mg "min"=none):aJ P w K mg base C "folded" 1 ["self","n","first","second"] (iz .lesser):=by
 refine aR T tG (λ_ _ _ _ _ _=>L2.ar4 λ_ _ _ _=>rfl) ?_ ?_
 .walk_at "i1"
 walk_at "i2";obtain⟨a,n,i,j,rfl,q⟩:=h;have nd:=tG.nd;refine⟨_,(ah (av (aH (jJ rfl) eT (aa (pv 2) (aa (pv 3) af))))),?_⟩;refine⟨_,rfl,_,rfl,_,_,rfl,?_⟩;rw[qd];exact q
theorem sX:ao ["self","first","second"] ["self","first","second"] (ai cY):=L2.fsc
theorem BC{c:CCs}(T:aI K C "refolded" "Lesser.refolded" cY)(dC:∀u:W5,jf P w K mg base u.cls (c.fold u) 1 ["self","one","other"] (gY (c.fold u))):aJ P w K mg base C "refolded" 3 ["self","first","second"] (eO c .lesser):=by
 refine aR T sX (λ_ _ _ _ _ _=>L2.ar3 λ_ _ _=>rfl) ?_ ?_
 .walk_at "i1"
 walk_at "i2";obtain⟨a,b,d,t,t',rfl,o,o',q⟩:=h;have nd:=sX.nd;refine⟨_,(ah (av (iQ (dC .lesser) (aa (pv 1) (aa (pv 2) af))))),?_⟩;refine⟨_,rfl,_,rfl,λz dz hz OI ne=>⟨z,dz,_,_,rfl,ae,rfl,?_⟩⟩;exact ij hz OI ne o o' q
theorem vF:ao ["self"] ["self"] (ai cC):=L2.fsc
theorem Fu(T:aI K C "making_word" "Leads.making_word" cC):aJ P w K mg base C "making_word" 1 ["self"] (eY c (.fold .leads t t')):=by
 refine aR T vF (λ_ _ _ _ _ _=>L2.ar1 λ_=>rfl) ?_ ?_
 .walk_at "i1"
 walk_at "i2";obtain⟨a,rfl,o,q⟩:=h;have nd:=vF.nd;refine⟨_,(ah (av az)),?_⟩;exact q
theorem vN:ao ["self","n","first","second"] ["self","n","first","second"] (ai fo):=L2.fsc
theorem FL(T:aI K C "folded" "Leads.folded" fo)(eT:mg "min"=none):aJ P w K mg base C "folded" 1 ["self","n","first","second"] (iz .leads):=by
 refine aR T vN (λ_ _ _ _ _ _=>L2.ar4 λ_ _ _ _=>rfl) ?_ ?_
 .walk_at "i1"
 walk_at "i2";obtain⟨a,n,i,j,rfl,q⟩:=h;have nd:=vN.nd;refine⟨_,(ah (av (aH (jJ rfl) eT (aa (aO gP (aO gN (pv 1) (pv 2)) (pv 3)) (aa (pv 1) af))))),?_⟩;refine⟨_,rfl,_,rfl,_,_,rfl,rfl,_,rfl,_,_,rfl,rfl,_,rfl,_,_,rfl,?_⟩;rw[qd];exact q
theorem vI:ao ["self","first","second"] ["self","first","second"] (ai dI):=L2.fsc
theorem FC{c:CCs}(T:aI K C "refolded" "Leads.refolded" dI)(dC:∀u:W5,jf P w K mg base u.cls (c.fold u) 1 ["self","one","other"] (gY (c.fold u))):aJ P w K mg base C "refolded" 3 ["self","first","second"] (eO c .leads):=by
 refine aR T vI (λ_ _ _ _ _ _=>L2.ar3 λ_ _ _=>rfl) ?_ ?_
 .walk_at "i1"
 walk_at "i2";obtain⟨a,b,d,t,t',rfl,o,o',q⟩:=h;have nd:=vI.nd;refine⟨_,(ah (av (iQ (dC .leads) (aa (pv 1) (aa (pv 2) af))))),?_⟩;refine⟨_,rfl,_,rfl,λz dz hz OI ne=>⟨z,dz,_,_,rfl,ae,rfl,?_⟩⟩;exact ij hz OI ne o o' q
theorem DF:ao ["self"] ["self"] (ai cu):=L2.fsc
theorem rO(T:aI K (c.of t) "pieces" "Saying.pieces" cu)(ht:t.pieces=[.w t.word])(G:aJ P w K mg base (c.of t) "making_word" 1 ["self"] (eY c t)):aJ P w K mg base (c.of t) "pieces" 2 ["self"] (nP c t):=by
 refine aR T DF (λ_ _ _ _ _ _=>L2.ar1 λ_=>rfl) ?_ ?_
 .walk_at "i1"
 walk_at "i2";obtain⟨a,rfl,o,q⟩:=h;have nd:=DF.nd;refine⟨_,(ah (av (bg (aa (bo (k:=1) (pv 0) (hr.mono (by decide))) af)))),?_⟩;obtain⟨dx,fs,ea,nf⟩:=o.cls;refine⟨_,rfl,a,_,_,_,_,_,rfl,ea,nf _ (by decide+kernel),G,a,rfl,o,Mine.z1,λl hl=>q l _ hl ?_⟩;rw[ht];exact .cons (.w _) .nil
theorem DG:ao ["self"] ["self"] (ai hG):=L2.fsc
theorem Q3(T:aI K c.no "pieces" "Not.pieces" hG)(F:Fx K c):aJ P w K mg base c.no "pieces" 2 ["self"] (nP c (.no t)):=by
 refine aR T DG (λ_ _ _ _ _ _=>L2.ar1 λ_=>rfl) ?_ ?_
 .walk_at "i1"
 walk_at "i2";obtain⟨a,rfl,o,q⟩:=h;have nd:=DG.nd;refine⟨_,(ah (av (bg (aa az (aa (dw (pv 0) rfl) af))))),?_⟩;cases o with
 | no e o=>exact⟨_,rfl,a,_,_,_,_,rfl,e,T.cl,F.nPart,wb _,Mine.z2,λl hl=>q l _ hl (.cons (.w _) (.cons (.t o) .nil))⟩
theorem yU:ao ["self"] ["self"] (ai gd):=L2.fsc
theorem Je(T:aI K (c.fold u) "pieces" "Fold.pieces" gd)(F:Fx K c)(G:aJ P w K mg base (c.fold u) "making_word" 1 ["self"] (eY c (.fold u t t'))):aJ P w K mg base (c.fold u) "pieces" 2 ["self"] (nP c (.fold u t t')):=by
 refine aR T yU (λ_ _ _ _ _ _=>L2.ar1 λ_=>rfl) ?_ ?_
 .walk_at "i1"
 walk_at "i2";obtain⟨a,rfl,o,q⟩:=h;have nd:=yU.nd;refine⟨_,(ah (av (bg (aa az (aa (dw (pv 0) rfl) (aa (bo (k:=1) (pv 0) (hr.mono (by decide))) (aa (dw (pv 0) rfl) (aa az af)))))))),?_⟩;cases o with
 | fold e o o' =>
  refine⟨_,rfl,a,_,_,_,_,rfl,e,T.cl,F.nOne u,zQ _ _,_,rfl,a,_,_,_,_,_,rfl,e,cK (by decide+kernel) (cK (by decide+kernel) rfl),G,a,rfl,.fold e o o',?_⟩;exact⟨_,rfl,a,_,_,_,_,rfl,e,T.cl,F.nOther u,tY _ _,(by show 5<=sizeLine;decide),λl hl=>q l _ hl (.cons (.w _) (.cons (.t o) (.cons (.w _) (.cons (.t o') (.cons (.w _) .nil)))))⟩
theorem sQ:ao ["self","worths","n","x","y"] ["self","worths","n","x","y"] (ai fV):=L2.fsc
theorem By(T:aI K C "weigh" "Never.weigh" fV):aJ P w K mg base C "weigh" 2 ["self","worths","n","x","y"] (jO c .never):=by
 refine aR T sQ (λ_ _ _ _ _ _=>L2.ar5 λ_ _ _ _ _=>rfl) ?_ ?_
 .walk_at "i1"
 walk_at "i2";obtain⟨a,l,n,i,j,R,R',rfl,o,e,hz,hs,q⟩:=h;have nd:=sQ.nd;refine⟨_,(ah (aS (bx b9 g8 g9 aQ (pv 1) (aa aq af)))),?_⟩;have es:R'=(ir n i j).leaf .never::R:=dH hs rfl;subst es;refine⟨_,rfl,.inl ⟨rfl,_,Nq.of e⟩,l,_,_,rfl,rfl,e,nJ hz,?_⟩;exact q _ (eZ _ _) (by rw[ae];exact y9 _ (y9 _ (fB _ _)))
theorem qx:ao ["self","worths","n","x","y"] ["self","worths","n","x","y"] (ai fA):=L2.fsc
theorem zv(T:aI K C "weigh" "Always.weigh" fA):aJ P w K mg base C "weigh" 2 ["self","worths","n","x","y"] (jO c .always):=by
 refine aR T qx (λ_ _ _ _ _ _=>L2.ar5 λ_ _ _ _ _=>rfl) ?_ ?_
 .walk_at "i1"
 walk_at "i2";obtain⟨a,l,n,i,j,R,R',rfl,o,e,hz,hs,q⟩:=h;have nd:=qx.nd;refine⟨_,(ah (aS (bx b9 g8 g9 aQ (pv 1) (aa (pv 2) af)))),?_⟩;have es:R'=(ir n i j).leaf .always::R:=dH hs rfl;subst es;refine⟨_,rfl,.inl ⟨rfl,_,Nq.of e⟩,_,rfl,l,_,_,rfl,rfl,e,nJ hz,?_⟩;exact q _ (eZ _ _) (by rw[ae];exact y9 _ (y9 _ (fB _ _)))
theorem Dz:ao ["self","worths","n","x","y"] ["self","worths","n","x","y"] (ai cG):=L2.fsc
theorem QZ(T:aI K c.le "weigh" "Letter.weigh" cG)(F:Fx K c):aJ P w K mg base c.le "weigh" 2 ["self","worths","n","x","y"] (jO c .lp):=by
 refine aR T Dz (λ_ _ _ _ _ _=>L2.ar5 λ_ _ _ _ _=>rfl) ?_ ?_
 .walk_at "i1"
 walk_at "i2";obtain⟨a,l,n,i,j,R,R',rfl,o,e,hz,hs,q⟩:=h;have nd:=Dz.nd;refine⟨_,(ah (aS (bx b9 g8 g9 aQ (pv 1) (aa (cI (aB bf (dw (pv 0) rfl) az (aE _)) (pv 3) (pv 4)) af)))),?_⟩;have es:R'=(ir n i j).leaf .lp::R:=dH hs rfl;subst es;cases o with
 | lp eo =>
  refine⟨_,rfl,.inl ⟨rfl,_,Nq.of e⟩,_,rfl,a,_,_,_,_,rfl,eo,T.cl,F.nName,ik _,rfl,_,rfl,?_⟩;rw[SS];refine cL ⟨_,rfl,l,_,_,rfl,rfl,e,nJ hz,?_⟩;exact q _ (eZ _ _) (by rw[ae];exact y9 _ (y9 _ (fB _ _)))
theorem Dy:ao ["self","worths","n","x","y"] ["self","worths","n","x","y"] (ai cG):=L2.fsc
theorem QY(T:aI K c.le "weigh" "Letter.weigh" cG)(F:Fx K c):aJ P w K mg base c.le "weigh" 2 ["self","worths","n","x","y"] (jO c .lq):=by
 refine aR T Dy (λ_ _ _ _ _ _=>L2.ar5 λ_ _ _ _ _=>rfl) ?_ ?_
 .walk_at "i1"
 walk_at "i2";obtain⟨a,l,n,i,j,R,R',rfl,o,e,hz,hs,q⟩:=h;have nd:=Dy.nd;refine⟨_,(ah (aS (bx b9 g8 g9 aQ (pv 1) (aa (cI (aB bf (dw (pv 0) rfl) az (aE _)) (pv 3) (pv 4)) af)))),?_⟩;have es:R'=(ir n i j).leaf .lq::R:=dH hs rfl;subst es;cases o with
 | lq eo =>
  refine⟨_,rfl,.inl ⟨rfl,_,Nq.of e⟩,_,rfl,a,_,_,_,_,rfl,eo,T.cl,F.nName,ik _,rfl,_,rfl,?_⟩;rw[SR];refine bz ⟨_,rfl,l,_,_,rfl,rfl,e,nJ hz,?_⟩;exact q _ (eZ _ _) (by rw[ae];exact y9 _ (y9 _ (fB _ _)))
theorem yK:ao ["self","worths","n","x","y"] ["self","worths","n","x","y"] (ai iO):=L2.fsc
theorem IP(T:aI K C "weigh" "Not.weigh" iO):aJ P w K mg base C "weigh" 2 ["self","worths","n","x","y"] (jO c (.no t)):=by
 refine aR T yK (λ_ _ _ _ _ _=>L2.ar5 λ_ _ _ _ _=>rfl) ?_ ?_
 .walk_at "i1"
 walk_at "i2";obtain⟨a,l,n,i,j,R,R',rfl,o,e,hz,hs,q⟩:=h;have nd:=yK.nd;refine⟨_,(ah (aS (bx b9 g8 g9 aQ (pv 1) (aa (aO gN (pv 2) (cp b9 u7 u9 cU (pv 1))) af)))),?_⟩;obtain⟨b,R1,rfl,rfl⟩:=wM hs;have Uz:R1.length<1000:=hz;have el:H l=some (.lst (R1.reverse.map V.int++[V.int b])):=by rw[e];exact y9 _ (y9 _ (fB b R1).symm)
 refine⟨_,rfl,.inl ⟨rfl,_,Nq.of el⟩,_,rfl,_,rfl,.inl ⟨rfl,_,Nq.of el⟩,l,_,_,rfl,rfl,el,bJ _ _,?_⟩;rw[x5];refine⟨_,_,rfl,rfl,l,_,_,rfl,rfl,ae,by rw[g6,p6];exact LV Uz (by decide),?_⟩;rw[lH];exact q _ (eZ _ _) (by rw[ae];exact y9 _ (y9 _ (fB _ _)))
theorem vD:ao ["self","worths","n","x","y","second","first"] ["self","worths","n","x","y"] (ai hJ):=L2.fsc
theorem Fs(T:aI K (c.fold u) "weigh" "Fold.weigh" hJ)(G:aJ P w K mg base (c.fold u) "folded" 1 ["self","n","first","second"] (iz u)):aJ P w K mg base (c.fold u) "weigh" 2 ["self","worths","n","x","y"] (jO c (.fold u t t')):=by
 refine aR T vD (λ_ _ _ _ _ _=>L2.ar5 λ_ _ _ _ _=>rfl) ?_ ?_
 .walk_at "i1"
 walk_at "i2";obtain⟨a,l,n,i,j,R,R',rfl,o,e,hz,hs,q⟩:=h;have nd:=vD.nd
 refine⟨_,(ag (aD (i:=5) (cp b9 u7 u9 cU (pv 1)))
  (ag (aD (i:=6) (cp b9 u7 u9 cU (pv 1)))
  (ah (aS (bx b9 g8 g9 aQ (pv 1) (aa (kW (k:=1) (pv 0) (hr.mono (by decide)) (aa (pv 2) (aa (pv 6) (aa (pv 5) af)))) af)))))),?_⟩
 obtain⟨b2,b1,R1,rfl,rfl⟩:=pB hs;have Uz:R1.length+1<1000:=hz;have el:H l=some (.lst (R1.reverse.map V.int++[V.int b1]++[V.int b2])):=by rw[e,fB,fB]
 obtain⟨dx,fs,ea,nf⟩:=o.cls;have nal:a≠l:=vY ea e (by intro z;cases z)
 refine⟨_,rfl,.inl ⟨rfl,_,Nq.of el⟩,l,_,_,rfl,rfl,el,bJ _ _,?_⟩;rw[x5];refine⟨_,rfl,.inl ⟨rfl,_,Nq.of ae⟩,l,_,_,rfl,rfl,ae,bJ _ _,?_⟩;rw[x5,lH];refine⟨_,rfl,.inl ⟨rfl,_,Nq.of ae⟩,_,rfl,a,_,_,_,_,_,rfl,by rw[aj nal];exact ea,nf _ (by decide+kernel),G,_,rfl,_,rfl,_,rfl,a,n,b1,b2,rfl,?_⟩;refine⟨l,_,_,rfl,rfl,ae,by rw[g6,p6];exact LV (Nat.lt_of_succ_lt Uz) (by decide),?_⟩;rw[lH];exact q _ (eZ _ _) (by rw[ae];exact y9 _ (y9 _ (fB _ _)))
theorem sW:ao ["self","made","one","other"] ["self","made","one","other"] (ai fj):=L2.fsc
theorem BB{c:CCs}(T:aI K C "remake" "Never.remake" fj):aJ P w K mg base C "remake" 4 ["self","made","one","other"] (iy c .never):=by
 refine aR T sW (λ_ _ _ _ _ _=>L2.ar4 λ_ _ _ _=>rfl) ?_ ?_
 .walk_at "i1"
 walk_at "i2";obtain⟨a,l,p,q,t1,t2,R,R',ws,rfl,o,op,oq,e,ow,hz,hs,fin⟩:=h;have nd:=sW.nd;refine⟨_,(ah (aS (bx b9 g8 g9 aQ (pv 1) (aa (pv 0) af)))),?_⟩;have es:R'=(mP t1 t2).leaf .never::R:=dH hs rfl;subst es;have hw:=ow.len;refine⟨_,rfl,.inl ⟨rfl,_,Nq.of e⟩,_,rfl,l,_,_,rfl,rfl,e,by rw[p6,hw];exact j7 hz (by decide),?_⟩;have kp:=bA (u:=.lst (ws.reverse++[V.ref a])) e rfl;exact fin _ (V.ref a::ws) (eZ _ _) (by rw[ae,l8]) (.cons ⟨a,rfl,o.to kp⟩ (ow.imp (N0.to kp)))
theorem qz:ao ["self","made","one","other"] ["self","made","one","other"] (ai eG):=L2.fsc
theorem zA{c:CCs}(T:aI K C "remake" "Always.remake" eG):aJ P w K mg base C "remake" 4 ["self","made","one","other"] (iy c .always):=by
 refine aR T qz (λ_ _ _ _ _ _=>L2.ar4 λ_ _ _ _=>rfl) ?_ ?_
 .walk_at "i1"
 walk_at "i2";obtain⟨a,l,p,q,t1,t2,R,R',ws,rfl,o,op,oq,e,ow,hz,hs,fin⟩:=h;have nd:=qz.nd;refine⟨_,(ah (aS (bx b9 g8 g9 aQ (pv 1) (aa (pv 0) af)))),?_⟩;have es:R'=(mP t1 t2).leaf .always::R:=dH hs rfl;subst es;have hw:=ow.len;refine⟨_,rfl,.inl ⟨rfl,_,Nq.of e⟩,_,rfl,l,_,_,rfl,rfl,e,by rw[p6,hw];exact j7 hz (by decide),?_⟩;have kp:=bA (u:=.lst (ws.reverse++[V.ref a])) e rfl;exact fin _ (V.ref a::ws) (eZ _ _) (by rw[ae,l8]) (.cons ⟨a,rfl,o.to kp⟩ (ow.imp (N0.to kp)))
theorem DE:ao ["self","made","one","other"] ["self","made","one","other"] (ai cw):=L2.fsc
theorem Q2{c:CCs}(T:aI K c.le "remake" "Letter.remake" cw)(F:Fx K c):aJ P w K mg base c.le "remake" 4 ["self","made","one","other"] (iy c .lp):=by
 refine aR T DE (λ_ _ _ _ _ _=>L2.ar4 λ_ _ _ _=>rfl) ?_ ?_
 .walk_at "i1"
 walk_at "i2";obtain⟨a,l,p,q,t1,t2,R,R',ws,rfl,o,op,oq,e,ow,hz,hs,fin⟩:=h;have nd:=DE.nd;refine⟨_,(ah (aS (bx b9 g8 g9 aQ (pv 1) (aa (cI (aB bf (dw (pv 0) rfl) az (aE _)) (pv 2) (pv 3)) af)))),?_⟩;have es:R'=(mP t1 t2).leaf .lp::R:=dH hs rfl;subst es;have hw:=ow.len;have kp:=bA (u:=.lst (ws.reverse++[V.ref p])) e rfl;cases o with
 | lp eo =>
  refine⟨_,rfl,.inl ⟨rfl,_,Nq.of e⟩,_,rfl,a,_,_,_,_,rfl,eo,T.cl,F.nName,ik _,rfl,_,rfl,?_⟩;rw[SS];refine cL ⟨_,rfl,l,_,_,rfl,rfl,e,by rw[p6,hw];exact j7 hz (by decide),?_⟩;exact fin _ (V.ref p::ws) (eZ _ _) (by rw[ae,l8]) (.cons ⟨p,rfl,op.to kp⟩ (ow.imp (N0.to kp)))
theorem DD:ao ["self","made","one","other"] ["self","made","one","other"] (ai cw):=L2.fsc
theorem Q1{c:CCs}(T:aI K c.le "remake" "Letter.remake" cw)(F:Fx K c):aJ P w K mg base c.le "remake" 4 ["self","made","one","other"] (iy c .lq):=by
 refine aR T DD (λ_ _ _ _ _ _=>L2.ar4 λ_ _ _ _=>rfl) ?_ ?_
 .walk_at "i1"
 walk_at "i2";obtain⟨a,l,p,q,t1,t2,R,R',ws,rfl,o,op,oq,e,ow,hz,hs,fin⟩:=h;have nd:=DD.nd;refine⟨_,(ah (aS (bx b9 g8 g9 aQ (pv 1) (aa (cI (aB bf (dw (pv 0) rfl) az (aE _)) (pv 2) (pv 3)) af)))),?_⟩;have es:R'=(mP t1 t2).leaf .lq::R:=dH hs rfl;subst es;have hw:=ow.len;have kp:=bA (u:=.lst (ws.reverse++[V.ref q])) e rfl;cases o with
 | lq eo =>
  refine⟨_,rfl,.inl ⟨rfl,_,Nq.of e⟩,_,rfl,a,_,_,_,_,rfl,eo,T.cl,F.nName,ik _,rfl,_,rfl,?_⟩;rw[SR];refine bz ⟨_,rfl,l,_,_,rfl,rfl,e,by rw[p6,hw];exact j7 hz (by decide),?_⟩;exact fin _ (V.ref q::ws) (eZ _ _) (by rw[ae,l8]) (.cons ⟨q,rfl,oq.to kp⟩ (ow.imp (N0.to kp)))
theorem yO:ao ["self","made","one","other"] ["self","made","one","other"] (ai gZ):=L2.fsc
theorem IX{c:CCs}{C:Addr}{t:Tr}(T:aI K C "remake" "Not.remake" gZ)(KQ:jf P w K mg base "Not" c.no 1 ["self","part"] (eA c.no lB)):aJ P w K mg base C "remake" 4 ["self","made","one","other"] (iy c (.no t)):=by
 refine aR T yO (λ_ _ _ _ _ _=>L2.ar4 λ_ _ _ _=>rfl) ?_ ?_
 .walk_at "i1"
 walk_at "i2";obtain⟨a,l,p,q,t1,t2,R,R',ws,rfl,o,op,oq,e,ow,hz,hs,fin⟩:=h;have nd:=yO.nd;refine⟨_,(ah (aS (bx b9 g8 g9 aQ (pv 1) (aa (iQ KQ (aa (cp b9 u7 u9 cU (pv 1)) af)) af)))),?_⟩;obtain⟨b,R1,rfl,rfl⟩:=wM hs;have Uz:R1.length<1000:=hz;cases ow with
 | @cons v _ ws _ hb ow =>
  obtain⟨x,rfl,ox⟩:=hb;have hw:=ow.len;have el:H l=some (.lst (ws.reverse++[V.ref x])):=by rw[e,l8]
  refine⟨_,rfl,.inl ⟨rfl,_,Nq.of el⟩,_,rfl,.inl ⟨rfl,_,Nq.of el⟩,l,_,_,rfl,rfl,el,bJ _ _,?_⟩;rw[x5];intro z dz P2 OI ne;refine⟨z,dz,_,rfl,ae,rfl,?_⟩;have nz:=dh P2;have ndz:=dh OI;have sm:=fJ (C:=c.no) (fs:=lB (V.ref x)) P2 OI ne;have Xn:=bA (u:=.lst ws.reverse) el rfl;have Pe:upd (upd (upd (upd H l (.lst ws.reverse)) dz (.own z)) z (.ins c.no dz [])) z (.ins c.no dz (lB (V.ref x))) l=some (.lst ws.reverse):=sm _ _ ae;refine⟨l,_,_,rfl,rfl,Pe,by rw[p6,hw];exact LV Uz (by decide),?_⟩;have Zx:Kp H (upd (upd (upd (upd (upd H l (.lst ws.reverse)) dz (.own z)) z (.ins c.no dz [])) z (.ins c.no dz (lB (V.ref x)))) l (.lst (ws.reverse++[V.ref z]))):=(Xn.trans (Kp.of sm)).trans (bA Pe rfl);have nlz:z≠l:=λq=>by subst q;rw[ae]at P2;cases P2
  refine fin _ (V.ref z::ws) ?_ (by rw[ae,l8]) (.cons ⟨z,rfl,.no (dx:=dz) (by rw[aj nlz,ae]) (ox.to Zx)⟩ (ow.imp (N0.to Zx)));exact((eZ _ _).trans (SB.of sm)).trans (eZ _ _)
theorem vH:ao ["self","made","one","other","second","first"] ["self","made","one","other"] (ai gc):=L2.fsc
theorem FA{c:CCs}{u:W5}{t t':Tr}(T:aI K (c.fold u) "remake" "Fold.remake" gc)(G:aJ P w K mg base (c.fold u) "refolded" 3 ["self","first","second"] (eO c u)):aJ P w K mg base (c.fold u) "remake" 4 ["self","made","one","other"] (iy c (.fold u t t')):=by
 refine aR T vH (λ_ _ _ _ _ _=>L2.ar4 λ_ _ _ _=>rfl) ?_ ?_
 .walk_at "i1"
 walk_at "i2";obtain⟨a,l,p,q,t1,t2,R,R',ws,rfl,o,op,oq,e,ow,hz,hs,fin⟩:=h;have nd:=vH.nd
 refine⟨_,(ag (aD (i:=4) (cp b9 u7 u9 cU (pv 1)))
  (ag (aD (i:=5) (cp b9 u7 u9 cU (pv 1)))
  (ah (aS (bx b9 g8 g9 aQ (pv 1) (aa (kW (k:=3) (pv 0) (hr.mono (by decide)) (aa (pv 5) (aa (pv 4) af))) af)))))),?_⟩
 obtain⟨b2,b1,R1,rfl,rfl⟩:=pB hs;have Uz:R1.length+1<1000:=hz;cases ow with
 | @cons v _ ws _ hb ow =>
  obtain⟨x2,rfl,ox2⟩:=hb;cases ow with
  | @cons v _ ws _ hb ow =>
   obtain⟨x1,rfl,ox1⟩:=hb;have hw:=ow.len;have el:H l=some (.lst (ws.reverse++[V.ref x1]++[V.ref x2])):=by rw[e,l8,l8]
   obtain⟨dx,fs,ea,nf⟩:=o.cls;have nal:a≠l:=vY ea e (by intro z;cases z)
   refine⟨_,rfl,.inl ⟨rfl,_,Nq.of el⟩,l,_,_,rfl,rfl,el,bJ _ _,?_⟩;rw[x5];refine⟨_,rfl,.inl ⟨rfl,_,Nq.of ae⟩,l,_,_,rfl,rfl,ae,bJ _ _,?_⟩;rw[x5,lH];have Xn:=bA (u:=.lst ws.reverse) el rfl;refine⟨_,rfl,.inl ⟨rfl,_,Nq.of ae⟩,_,rfl,a,_,_,_,_,_,rfl,by rw[aj nal];exact ea,nf _ (by decide+kernel),G,_,rfl,_,rfl,a,x1,x2,b1,b2,rfl,ox1.to Xn,ox2.to Xn,λz H' sm oz=>?_⟩;have Pe:=sm _ _ (ae (H:=H) (a:=l) (o:=.lst ws.reverse));refine⟨l,_,_,rfl,rfl,Pe,by rw[p6,hw];exact LV (Nat.lt_of_succ_lt Uz) (by decide),?_⟩;have Xm:Kp H' (upd H' l (.lst (ws.reverse++[V.ref z]))):=bA Pe rfl;have Zx:=(Xn.trans (Kp.of sm)).trans Xm;exact fin _ (V.ref z::ws) (((eZ _ _).trans (SB.of sm)).trans (eZ _ _)) (by rw[ae,l8]) (.cons ⟨z,rfl,oz.to Xm⟩ (ow.imp (N0.to Zx)))
noncomputable abbrev qZ:List Str:=["one","other","greater","lesser","rest"]
theorem jx:ao qZ ["one","other"] (ai gK):=L2.fsc
noncomputable abbrev BU:List Str:=["top","bottom","factor"]
theorem qI:ao BU ["top","bottom"] (ai mM):=L2.fsc
noncomputable abbrev Uc:List Str:=["one","other"]
theorem Qx:ao Uc ["one","other"] (ai Bo):=L2.fsc
noncomputable abbrev JD:List Str:=[]
theorem EZ:ao JD [] (ai nX):=L2.fsc
noncomputable abbrev FW:List Str:=["rule","point"]
theorem sV:ao FW ["rule","point"] (ai pM):=L2.fsc
noncomputable abbrev oF:List Str:=["rule","hull"]
theorem iB:ao oF ["rule","hull"] (ai ff):=L2.fsc
noncomputable abbrev BQ:List Str:=["thing"]
theorem qF:ao BQ ["thing"] (ai mK):=L2.fsc
noncomputable abbrev BR:List Str:=["thing","n"]
theorem qG:ao BR ["thing"] (ai iD):=L2.fsc
noncomputable abbrev qY:List Str:=["thing"]
theorem pI:ao qY ["thing"] (ai gH):=L2.fsc
noncomputable abbrev Q9:List Str:=["saying","point"]
theorem Ia:ao Q9 ["saying","point"] (ai xt):=L2.fsc
noncomputable abbrev FU:List Str:=["one","other"]
theorem sP:ao FU ["one","other"] (ai pK):=L2.fsc
noncomputable abbrev zH:List Str:=["word"]
theorem xq:ao zH ["word"] (ai kN):=L2.fsc
noncomputable abbrev vc:List Str:=["word","one","other"]
theorem tE:ao vc ["word","one","other"] (ai iY):=L2.fsc
noncomputable abbrev zK:List Str:=["row","rules","rule"]
theorem nV:ao zK ["row","rules"] (ai kQ):=L2.fsc
noncomputable abbrev zJ:List Str:=["hull","choice","told"]
theorem nU:ao zJ ["hull","choice"] (ai kP):=L2.fsc
noncomputable abbrev qW:List Str:=["rows","hull","rules","k","row","choice","rule"]
theorem ju:ao qW ["rows","hull"] (ai gF):=L2.fsc
noncomputable abbrev BS:List Str:=["tree","found","trees","hulls","branch","hull","parts"]
theorem qH:ao BS ["tree"] (ai mL):=L2.fsc
noncomputable abbrev uY:List Str:=["folds"]
theorem sY:ao uY ["folds"] (ai iW):=L2.fsc
noncomputable abbrev FV:List Str:=["hull","rows","told","test","parts"]
theorem sU:ao FV ["hull","rows"] (ai pL):=L2.fsc
noncomputable abbrev Ga:List Str:=["saying"]
theorem Bm:ao Ga ["saying"] (ai pU):=L2.fsc
noncomputable abbrev mV:List Str:=["one","other"]
theorem md:ao mV ["one","other"] (ai eP):=L2.fsc
noncomputable abbrev uZ:List Str:=["saying","tree","least","point","hull","corner","found"]
theorem kI:ao uZ ["saying"] (ai iX):=L2.fsc
noncomputable abbrev JF:List Str:=["saying","told"]
theorem vP:ao JF ["saying"] (ai tJ):=L2.fsc
noncomputable abbrev xH:List Str:=["one","other","a","b","c"]
theorem my:ao xH ["one","other"] (ai jS):=L2.fsc
noncomputable abbrev zL:List Str:=["hull","rule","bounds"]
theorem nW:ao zL ["hull","rule"] (ai kR):=L2.fsc
noncomputable abbrev qX:List Str:=["saying","rows","regions","hull","rule"]
theorem jv:ao qX ["saying"] (ai gG):=L2.fsc
noncomputable abbrev BP:List Str:=["top","bottom"]
theorem yN:ao BP ["top","bottom"] (ai mJ):=L2.fsc
noncomputable abbrev BN:List Str:=["bounds","n","x","lowest","highest","a","b","c","least","rest"]
theorem qw:ao BN ["bounds","n","x"] (ai mH):=L2.fsc
noncomputable abbrev uW:List Str:=["hull","bounds","n","first","last","x","y"]
theorem kG:ao uW ["hull","bounds","n"] (ai iV):=L2.fsc
noncomputable abbrev xG:List Str:=["regions","n","hull","bounds","point"]
theorem mx:ao xG ["regions","n"] (ai jR):=L2.fsc
noncomputable abbrev tT:List Str:=["saying","regions","n","point"]
theorem ku:ao tT ["saying"] (ai iE):=L2.fsc
noncomputable abbrev Ud:List Str:=["one","other","told"]
theorem DK:ao Ud ["one","other"] (ai Bp):=L2.fsc
noncomputable abbrev Ra:List Str:=["one","other","tree","hull","corner"]
theorem zc:ao Ra ["one","other"] (ai xu):=L2.fsc
noncomputable abbrev mf:List Str:=["rows"]
theorem gi:ao mf ["rows"] (ai dQ):=L2.fsc
noncomputable abbrev FX:List Str:=["saying","rows"]
theorem sZ:ao FX ["saying"] (ai pO):=L2.fsc
noncomputable abbrev xJ:List Str:=["word","signs","most"]
theorem mz:ao xJ ["word","signs","most"] (ai jU):=L2.fsc
noncomputable abbrev FY:List Str:=["word"]
theorem Bl:ao FY ["word"] (ai pQ):=L2.fsc
noncomputable abbrev zI:List Str:=["word"]
theorem xr:ao zI ["word"] (ai kO):=L2.fsc
noncomputable abbrev xI:List Str:=["kind","word"]
theorem uO:ao xI ["kind","word"] (ai jT):=L2.fsc
noncomputable abbrev BO:List Str:=["line"]
theorem yJ:ao BO ["line"] (ai mI):=L2.fsc
noncomputable abbrev FZ:List Str:=["words","form"]
theorem tq:ao FZ ["words"] (ai jB):=L2.fsc
noncomputable abbrev uX:List Str:=["words"]
theorem kH:ao uX ["words"] (ai dW):=L2.fsc
noncomputable abbrev tS:List Str:=["saying"]
theorem qR:ao tS ["saying"] (ai iC):=L2.fsc
noncomputable abbrev qU:List Str:=["saying","numbers"]
theorem pH:ao qU ["saying","numbers"] (ai gy):=L2.fsc
noncomputable abbrev qV:List Str:=["saying","steps"]
theorem jt:ao qV ["saying"] (ai gE):=L2.fsc
noncomputable abbrev zG:List Str:=["truth"]
theorem xp:ao zG ["truth"] (ai kM):=L2.fsc
noncomputable abbrev tV:List Str:=["word","saying"]
theorem qT:ao tV ["word","saying"] (ai iG):=L2.fsc
noncomputable abbrev tU:List Str:=["word","one","other"]
theorem qS:ao tU ["word","one","other"] (ai iF):=L2.fsc
noncomputable abbrev wa:List Str:=["_law_caught","_law_kinds","_law_kind"]
theorem tj:ao wa ["_law_caught"] (ai jA):=L2.fsc
noncomputable abbrev JE:List Str:=["_law_desk","_law_line","_law_caught","_law_found","e"]
theorem vK:ao JE ["_law_desk","_law_line"] (ai tI):=L2.fsc
noncomputable abbrev qM:List Str:=["_law_cell","_law_some"]
theorem nR:ao qM ["_law_cell"] (ai cO):=L2.fsc
noncomputable abbrev vZ:List Str:=["_law_cell","_law_some"]
theorem ti:ao vZ ["_law_cell"] (ai eQ):=L2.fsc
theorem iR:PE X e (λ_ _ _=>False):=λ_ _ _ _ _ _ h=>h.elim
theorem Dl{r:List V->Hp->VK->Prop}{H:Hp}(h:te σ H λy H1=>r [y] H1 Q):So r (gg te nG) σ H Q:=h
theorem Dj{H:Hp}(h:te σ H D.rt):Tp te D σ H:=h
theorem qQ{n:Nat}{H:Hp}(h:wi σ H λJ H1=>lK n (λ_ H R=>R J H) g tc te js σ H1 Q):lK n wi g tc te js σ H Q:=h
theorem Rh(h:o.length=2):∃a b,o=[a,b]:=by
 cases o with
 | nil=>cases h
 | cons a o =>
  cases o with
  | nil=>cases h
  | cons b o =>
   cases o with
   | nil=>exact⟨a,b,rfl⟩
   | cons c o=>cases h
theorem rL{k:Nat}{n:Nat}(e:X.K=K)(hc:X.calm=true)(h:Y9 X es t)
  (hn:(assignEach es X.env).length=n:=by rfl)(O3:(assignEach es X.env).findIdx? (·.1)=none:=by rfl):PG X (.Tuple es k pos) (Yw K n t):=by
 subst e;exact mR hc h hn O3
theorem Kj{H:Hp}{x:Str}(g:Nat->V)(hx:x.cps.size<=1000)
  (hs:∀(c:Nat)(H':Hp)(N:VK),c∈x.cps.toList->aC H H'->(∀NB,aC H' NB->N (g c) NB)->te (some (.str ⟨#[c]⟩)::bI js σ) H' N)
  (hd:∀D H',aC H H'->H D=none->H' D=some (.lst (x.cps.toList.map g))->Q (.ref D) H'):jo (λ_ H R=>R (Its x) H) qu te js σ H Q:=by
 intro D hD;obtain⟨⟨is⟩⟩:=x;refine⟨λi m H'=>m=is.length-i/\i<=is.length/\aC H H'/\H' D=some (.lst ((is.take i).map g)),⟨is.length,rfl,z5 _,au hD _,ae⟩,?_⟩;rintro i m H2 ⟨rfl,hi,s2,eD⟩
 by_cases Ny:i<is.length
 .refine .inr ⟨Ny,λv H3 y=>?_⟩;obtain⟨rfl,c,hc,rfl⟩:=y;have OC:is[i]?=some c:=by simpa using hc
  have ec:is[i]=c:=by rw[g0 Ny]at OC;exact i7 OC
  refine jn ?_;refine hs c _ _ (x3 OC) s2 λH4 s4=>?_;have hx':is.length<=1000:=hx;refine⟨_,s4 _ _ eD,j7 (show _<=1000 by rw[g6,F5];omega) (by decide),is.length-(i+1),by omega,rfl,Ny,bP (s2.trans s4) hD _,?_⟩;rw[ae,C9,OC,x9];rfl
 .have ei:i=is.length:=by omega
  subst ei;rw[D7]at eD;exact .inl ⟨f7 _,hd D H2 s2 hD eD⟩
noncomputable def sO(sg:Str)(c:Nat):Bool:=!(Builtin.Str.occurrences sg ⟨#[c]⟩ 0 sg.length 1).isEmpty
noncomputable abbrev abcS:Str:="abcdefghijklmnopqrstuvwxyz"
noncomputable def FO:List (Str×List Str):=[("say",["new","text"]),("put",["new","name","name","name"]),("show",["name"]),("names",[]),("drop",["name"]),("worth",["name","number","number","number"]),("rows",["name"]),("line",["name"]),("least",["name"]),("lack",["name","name"]),("always",["name"]),("alike",["name","name"]),("steps",["name"])]
noncomputable abbrev figS:Str:="0123456789"
noncomputable def Xi(sg:Str)(m:Nat)(x:Str):Bool:=decide (1<=x.length) && (decide (x.length<=m) && x.cps.toList.all (sO sg))
noncomputable def Xe(x:Str):Bool:=Xi abcS 8 x
noncomputable def nuB(x:Str):Bool:=Xi figS 20 x && (decide (x="0") || !Txt.startswith x "0")
noncomputable def OH(k x:Str):Bool:=if k="text" then true else if k="number" then nuB x else Xe x
def Wk(x:Str):Prop:=x.length<=1000/\x.cps.all (· < 128)=true
inductive wY(vs:List V)(H:Hp)(Q:VK)(E:XK):Prop
 | mk (x sg:Str) (m:Nat):vs=[.str x,.str sg,.int (m:Int)]->Wk x->(∀H',aC H H'->Q (.bl (Xi sg m x)) H')->wY vs H Q E
inductive Bf(vs:List V)(H:Hp)(Q:VK)(E:XK):Prop
 | mk (x:Str):vs=[.str x]->Wk x->(∀H',aC H H'->Q (.bl (Xe x)) H')->Bf vs H Q E
inductive Bd(vs:List V)(H:Hp)(Q:VK)(E:XK):Prop
 | mk (x:Str):vs=[.str x]->Wk x->(∀H',aC H H'->Q (.bl (nuB x)) H')->Bd vs H Q E
inductive Ba(vs:List V)(H:Hp)(Q:VK)(E:XK):Prop
 | mk (k x:Str):vs=[.str k,.str x]->Wk x->(∀H',aC H H'->Q (.bl (OH k x)) H')->Ba vs H Q E
theorem ok_md61(T:aA K mg "is_made_of" jU)(bC:mg "len"=none)(oV:mg "all"=none):Def P w K mg base 1 "is_made_of" ["word","signs","most"] wY:=by
 refine aY T mz (λ_ _ _ _ _ _=>ar3 λ_ _ _=>rfl) ?_ ?_
 .walk_at "i1"
 walk_at "i2";obtain⟨x,sg,m,rfl,⟨n2,n3⟩,q⟩:=h;have nd:=mz.nd;refine⟨_,(ah (av (pZ (tM qK qK aq (aH bR bC (aa (pv 0) af)) (pv 2)) (mT (aH (uk rfl) oV (aa (fD (T4 (pv 0)) (iS (j:=1) dS) (λ_ _ _ _=>eJ) (λ_ _ _ _=>(cZ Fo (pv 0) (pv 1) rfl))) af)))))),?_⟩;have lx:x.length<=sizeLine:=h8 n2 (by decide);unfold Xi at q;refine⟨_,rfl,_,_,rfl,⟨lx,rfl⟩,_,_,rfl,rfl,_,rfl,kz (λc=>?_) (λc=>?_)⟩
 .have c:(1:Int)<=((x.length:Nat):Int):=l9 c;rw[j9 (show 1<=x.length by omega),F4]at q;refine⟨_,rfl,_,_,rfl,rfl,_,rfl,kz (λc2=>?_) (λc2=>?_)⟩
  .have c2:((x.length:Nat):Int)<=(m:Int):=l9 c2;rw[j9 (show x.length<=m by omega),F4]at q;refine Dl (il ?_);refine⟨_,rfl,x,rfl,n3,?_⟩;refine Kj (λc=>.bl (sO sg c)) n2 (λc H' N hc s1 hN=>?_) (λD H' s1 hD eD=>?_)
   .exact⟨_,rfl,_,rfl,_,_,rfl,rfl,hN _ (aC.refl _)⟩
   .refine⟨D,x.cps.toList.map (sO sg),rfl,Nq.of (by rw[LY];exact eD),?_⟩;have e:(x.cps.toList.map (sO sg)).all id=x.cps.toList.all (sO sg):=by rw[List.all_map];rfl
    rw[e];exact q _ s1
  .have c2:¬((x.length:Nat):Int)<=(m:Int):=λz=>c2 (j9 z);rw[h7 (show ¬x.length<=m by omega),E7]at q;exact q _ (aC.refl _)
 .have c:¬(1:Int)<=((x.length:Nat):Int):=λz=>c (j9 z);rw[h7 (show ¬1<=x.length by omega),E7]at q;exact⟨_,rfl,bz (q _ (aC.refl _))⟩
theorem ok_nm61(T:aA K mg "is_name" pQ)(qm:mg "LETTERS"=some (.str abcS t1))(iK:mg "MOST_LETTERS"=some (.int 8 t2))(kr:Def P w K mg base 1 "is_made_of" ["word","signs","most"] wY):Def P w K mg base 2 "is_name" ["word"] Bf:=by
 refine aY T Bl (λ_ _ _ _ _ _=>ar1 λ_=>rfl) ?_ ?_
 .walk_at "i1"
 walk_at "i2";obtain⟨x,rfl,n,q⟩:=h;refine⟨_,(ah (av (aN kr (aa (pv 0) (aa (bH (v:=V.str "abcdefghijklmnopqrstuvwxyz") rfl qm ⟨_,rfl⟩) (aa (bH (v:=V.int 8) rfl iK ⟨_,rfl⟩) af)))))),?_⟩;exact⟨_,rfl,x,_,8,rfl,n,q⟩
theorem ok_nu61(T:aA K mg "is_number" kO)(qo:mg "FIGURES"=some (.str figS t1))(iL:mg "MOST_FIGURES"=some (.int 20 t2))(kr:Def P w K mg base 1 "is_made_of" ["word","signs","most"] wY):Def P w K mg base 2 "is_number" ["word"] Bd:=by
 refine aY T xr (λ_ _ _ _ _ _=>ar1 λ_=>rfl) ?_ ?_
 .walk_at "i1"
 walk_at "i2";obtain⟨x,rfl,n,q⟩:=h;refine⟨_,(ah (av (pZ (aN kr (aa (pv 0) (aa (bH (v:=V.str "0123456789") rfl qo ⟨_,rfl⟩) (aa (bH (v:=V.int 20) rfl iL ⟨_,rfl⟩) af)))) (mT (SE (cZ bf (pv 0) az (aE _)) (mT (IE (bx A4 Mz MB mC (pv 0) (aa az af))))))))),?_⟩;unfold nuB at q;refine⟨_,rfl,x,_,20,rfl,n,λH1 s1=>?_⟩;cases e:Xi figS 20 x with
 | false =>
  rw[e,E7]at q;exact⟨_,rfl,bz (q _ s1)⟩
 | true =>
  rw[e,F4]at q;refine⟨_,rfl,cL ?_⟩;refine⟨_,rfl,rfl,_,rfl,kz (λc=>?_) (λc=>?_)⟩
  .have hx:x="0":=by have z:=l9 c;injection z
   rw[j9 hx,Bool.true_or]at q;exact q _ s1
  .have hx:¬x="0":=λz=>c (j9 (by rw[z]));rw[h7 hx,M0]at q;exact⟨_,rfl,rfl,x,"0",rfl,rfl,_,rfl,q _ s1⟩
theorem ok_wd61(T:aA K mg "is_word_of" jT)(Hs:Def P w K mg base 2 "is_name" ["word"] Bf)(AB:Def P w K mg base 2 "is_number" ["word"] Bd):Def P w K mg base 3 "is_word_of" ["kind","word"] Ba:=by
 refine aY T uO (λ_ _ _ _ _ _=>ar2 λ_ _=>rfl) ?_ ?_
 .walk_at "i1"
 walk_at "i2";obtain⟨k,x,rfl,n,q⟩:=h
 refine⟨_,(ag (aP (aB bf (pv 0) az (aE _)) (ah (av oC)) aG)
  (ah (av (cI (aB bf (pv 0) az (aE _)) (aN AB (aa (pv 1) af)) (aN Hs (aa (pv 1) af)))))),?_⟩
 unfold OH at q;refine⟨_,rfl,rfl,_,rfl,kz (λc=>?_) (λc=>?_)⟩
 .have hk:k="text":=by have z:=l9 c;injection z
  rw[k9 hk]at q;exact q _ (aC.refl _)
 .have hk:¬k="text":=λz=>c (j9 (by rw[z]));rw[h9 hk]at q;refine⟨_,rfl,rfl,_,rfl,kz (λc2=>?_) (λc2=>?_)⟩
  .have hk:k="number":=by have z:=l9 c2;injection z
   rw[k9 hk]at q;exact⟨_,rfl,x,rfl,n,q⟩
  .have hk:¬k="number":=λz=>c2 (j9 (by rw[z]));rw[h9 hk]at q;exact⟨_,rfl,x,rfl,n,q⟩
noncomputable def Ot(x:Str):List Str:=if Txt.startswith x "say "=true then iU x " " 2 else Txt.split x " "
def KP(x:Str):Prop:=x.length<=1000000/\(Txt.startswith x "say "=true->(decide (x.length<(" ":Str).length) || decide (Builtin.Str.strKind x<Builtin.Str.strKind " "))=false/\(Builtin.Str.occurrences x " " 0 x.length (limitOf x 2)).isEmpty=false)
inductive AZ(vs:List V)(H:Hp)(Q:VK)(E:XK):Prop
 | mk (x:Str):vs=[.str x]->KP x->(∀p H',aC H H'->H p=none->H' p=some (.lst ((Ot x).map V.str))->Q (.ref p) H')->AZ vs H Q E
theorem ok_ws61(T:aA K mg "words_of" mI):Def P w K mg base 1 "words_of" ["line"] AZ:=by
 refine aY T yJ (λ_ _ _ _ _ _=>ar1 λ_=>rfl) ?_ ?_
 .walk_at "i1"
 walk_at "i2";obtain⟨x,rfl,⟨hx,hs⟩,q⟩:=h;unfold Ot at q;refine⟨_,(ah (av (cI (gM (bx A4 Mz MB mC (pv 0) (aa az af))) (bx A4 L5 L6 Gb (pv 0) (aa az (aa aq af))) (bx A4 L5 L6 zM (pv 0) (aa az af))))),?_⟩;refine⟨_,rfl,rfl,x,"say ",rfl,rfl,_,rfl,kz (λc=>?_) (λc=>?_)⟩
 .obtain⟨h1,h2⟩:=hs c;rw[k9 c]at q;exact⟨_,rfl,rfl,x," ",2,rfl,rfl,by decide,by decide,by decide+kernel,h1,h2,hx,λp hp=>q p _ (au hp _) hp ae⟩
 .rw[h9 c]at q;exact⟨_,rfl,rfl,x," ",rfl,rfl,by decide+kernel,hx,λp hp=>q p _ (au hp _) hp ae⟩
theorem wz{H:Hp}{a b:Addr}{ks:List Str}(fb:Str->Str->Option V)(sa:∀H:Hp,Nv K H a (ks.map V.str))(eb:H b=some (.lst (ws.map V.str)))(hl:ks.length<=ws.length)(hz:ks.length<=1000)
  (hs:∀(k x:Str)(o:St)(T:Addr)(H2:Hp)(N:VK)(M:Hp->Prop),o.length=2->(k,x)∈ks.zip ws->aC H H2->H2 T=none->(∀v,fb k x=some v->∀H5,aC H2 H5->N v H5)->(fb k x=none->∀H5,aC H2 H5->M H5)->
   g (.ref T) (o++bI js σ) (upd H2 T (.tup [.str k,.str x])) λσ4 H4=>∃o',o'.length=2/\σ4=o'++bI js σ/\tc (o'++bI js σ) H4 λb H6=>if b=true then te (o'++bI js σ) H6 N else M H6)
  (hd:∀D H',aC H H'->H D=none->H' D=some (.lst ((ks.zip ws).filterMap λy=>fb y.1 y.2))->Q (.ref D) H'):lK 2 (λ_ H R=>R (Ey K a b) H) g tc te js σ H Q:=by
 intro D hD;refine⟨λi m H'=>m=ks.length-i/\i<=ks.length/\aC H H'/\H' D=some (.lst (((ks.zip ws).take i).filterMap λy=>fb y.1 y.2)),⟨ks.length,rfl,z5 _,au hD _,ae⟩,?_⟩;rintro i m H2 ⟨rfl,hi,s2,eD⟩
 have eb2:=s2 _ _ eb
 by_cases Ny:i<ks.length
 .refine .inr ⟨⟨ks.map V.str,ws.map V.str,sa _,Nq.of eb2,by rw[g6];exact Ny,by rw[g6,g6];exact hl⟩,λo ho v H3 yy=>?_⟩;obtain⟨T,vs,nT,rfl,rfl,u,v,rfl,hu,hv⟩:=yy;have e1:=hu _ (sa _);have e2:=hv _ (Nq.of eb2);have hw:i<ws.length:=by omega
  rw[y4,g0 Ny]at e1;rw[y4,g0 hw]at e2;cases e1
  cases e2
  have ez:(ks.zip ws)[i]?=some (ks[i],ws[i]):=by rw[List.getElem?_zip_eq_some];exact⟨g0 Ny,g0 hw⟩
  have et:((ks.zip ws).take (i+1)).filterMap (λy=>fb y.1 y.2)=((ks.zip ws).take i).filterMap (λy=>fb y.1 y.2)++(fb ks[i] ws[i]).toList:=by
   rw[C9,ez,List.filterMap_append];congr 1
  refine hs _ _ o T H2 _ _ ho (x3 ez) s2 nT (λr hr H5 s5=>?_) (λhn H5 s5=>?_)
  .refine⟨_,s5 _ _ eD,?_,ks.length-(i+1),by omega,rfl,Ny,bP (s2.trans s5) hD _,?_⟩
   .have:=M4 (λy:Str×Str=>fb y.1 y.2) ((ks.zip ws).take i);rw[F5,Ng]at this;exact j7 (show _<=1000 by omega) (by decide)
   .rw[ae,et,hr];rfl
  .refine⟨ks.length-(i+1),by omega,rfl,Ny,s2.trans s5,?_⟩;rw[et,hn];simpa using s5 _ _ eD
 .have e1:i=ks.length:=by omega
  subst e1;have ef:(ks.zip ws).take ks.length=ks.zip ws:=List.take_of_length_le (by rw[Ng];omega);rw[ef]at eD;exact .inl ⟨⟨ks.map V.str,ws.map V.str,sa _,Nq.of eb2,by rw[g6];exact f7 _,by rw[g6,g6];exact hl⟩,hd D H2 s2 hD eD⟩
theorem wx{κ δ:Type}[DecidableEq κ]{k:κ}:∀{D:List (κ×δ)}{d:δ},PyProof.Rows.KTD.datumAt k D=some d->(k,d)∈D
 | [],_,h=>by cases h
 | (x,y)::D,d,h=>by
  unfold PyProof.Rows.KTD.datumAt at h
  by_cases c:k=x
  .rw[k9 (j9 c)]at h;cases h
   rw[c];exact B5
  .rw[h9 (by rw[h7 c];decide)]at h;exact p8 _ (wx h)
theorem Cd{x:Str}{ks:List Str}(h:PyProof.Rows.KTD.datumAt x FO=some ks):ks.length<=4:=(by decide+kernel:∀y∈FO,y.2.length<=4) _ (wx h)
theorem N5{x:V}{us:List V}:OP (x::us) 0=some x:=bc (j:=0) rfl
theorem Vk(x:V)(us:List V):oP (x::us) (some 1) none=us:=by
 unfold oP
 rw[show _root_.HT.sIx (x::us).length 0 (some 1)=1 from by
  rw[show(some (1:Int))=some ((1:Nat):Int) from rfl,_root_.HT.nZ,k8];omega,_root_.HT.kS]
 show List.take ((x::us).length-1) us=us;rw[k8,Nat.add_sub_cancel,D7]
noncomputable def iT:List Str->Bool
 | []=>false
 | x::r=>match PyProof.Rows.KTD.datumAt x FO with
  | none=>false
  | some ks=>decide (ks.length=r.length) && (ks.zip r).all λy=>OH y.1 y.2
theorem Cq{x:Str}{r:List Str}(h:PyProof.Rows.KTD.datumAt x FO=none):iT (x::r)=false:=by
 show(match PyProof.Rows.KTD.datumAt x FO with | none=>false | some ks=>decide (ks.length=r.length) && (ks.zip r).all λy=>OH y.1 y.2)=_
 rw[h]
theorem mZ{x:Str}{r ks:List Str}(h:PyProof.Rows.KTD.datumAt x FO=some ks):iT (x::r)=(decide (ks.length=r.length) && (ks.zip r).all λy=>OH y.1 y.2):=by
 show(match PyProof.Rows.KTD.datumAt x FO with | none=>false | some ks=>decide (ks.length=r.length) && (ks.zip r).all λy=>OH y.1 y.2)=_
 rw[h]
noncomputable def iM(ks r:List Str):List Str:=(ks.zip r).filterMap λy:Str×Str=>if y.1=("name":Str) then some y.2 else none
inductive sM(vs:List V)(H:Hp)(Q:VK)(E:XK):Prop
 | mk (l:Addr) (x:Str) (r:List Str):vs=[.ref l]->H l=some (.lst ((x::r).map V.str))->r.length<=1000->(∀y∈r,Wk y)->(∀H',aC H H'->Q (.bl (iT (x::r))) H')->sM vs H Q E
inductive rJ(vs:List V)(H:Hp)(Q:VK)(E:XK):Prop
 | mk (l:Addr) (x:Str) (r ks:List Str):vs=[.ref l]->H l=some (.lst ((x::r).map V.str))->PyProof.Rows.KTD.datumAt x FO=some ks->ks.length=r.length->(∀p H',aC H H'->H p=none->H' p=some (.lst ((iM ks r).map V.str))->Q (.ref p) H')->rJ vs H Q E
theorem FN(T:aA K mg "is_call" jB)(bC:mg "len"=none)(oV:mg "all"=none)(ky:mg "zip"=none)(ma:fF K mg "FORMS" FO)(yo:Def P w K mg base 3 "is_word_of" ["kind","word"] Ba):Def P w K mg base 4 "is_call" ["words"] sM:=by
 refine aY T tq (λ_ _ _ _ _ _=>ar1 λ_=>rfl) ?_ ?_
 .walk_at "i1"
 walk_at "i2";obtain⟨l,x,r,rfl,el,hr1,hw,q⟩:=h;have nd:=tq.nd
 refine⟨_,(ag (aD (i:=1) (ID ma rfl (aL bb (pv 0) aq) ⟨rfl,rfl,rfl,rfl⟩))
  (ag (aP (PW.pt (vR (aB tN (pv 1) cf (aE _)) (pW (aB vW (aH bR bC (aa (pv 1) af)) (aO gN (aH bR bC (aa (pv 0) af)) aq) (aE _))))) (ah (av oC)) aG)
  (ah (av (aH (uk rfl) oV (aa (tL (xs:=["kind","word"]) rfl (zo rfl ky (pv 1) (gu jP (pv 0) (hU aq) jX)) rfl (by decide+kernel) (by decide+kernel) (show ∀p∈Scope.names _,p.2=NameKind.free->List.lookup p.1 (ai jB).names=some .cell\/List.lookup p.1 (ai jB).names=some .free by decide+kernel) dS (show(["kind","word"]:List Str).Nodup by decide+kernel) (λ_ _ _ _=>rL (K:=K) (n:=2) rfl rfl (bt (aX (i:=0) (hN:=(show(["kind","word"]:List Str).Nodup by decide+kernel)) (hf:=(.inr rfl))) (bt (aX (i:=1) (hN:=(show(["kind","word"]:List Str).Nodup by decide+kernel)) (hf:=(.inr rfl))) gf))) (λ_ _ _ _=>eJ) (λ_ _ _ _=>(aN yo (aa (pv 0) (aa (pv 1) af))))) af)))))),?_⟩
 refine⟨_,rfl,_,_,_,_,rfl,rfl,Nq.of el,N5,x,rfl,?_⟩;unfold UP;cases hx:PyProof.Rows.KTD.datumAt x FO with
 | none =>
  rw[Cq hx]at q;exact⟨_,rfl,rfl,_,rfl,cL (cL (q _ (aC.refl _)))⟩
 | some ks =>
  rw[mZ hx]at q;have k4:=Cd hx;refine⟨h8 k4 (by decide),λb sb=>?_⟩;refine⟨_,rfl,rfl,_,rfl,bz ?_⟩;refine⟨_,rfl,_,_,rfl,.inr ⟨_,sb H,rfl⟩,_,rfl,_,_,rfl,.inl ⟨_,Nq.of el,rfl⟩,_,_,rfl,rfl,rfl,_,rfl,?_⟩;rw[g6,g6,k8]
  have ei:ks.length=r.length↔V.int ((ks.length:Nat):Int)=(λi j=>V.int (i-j)) (((x::r).length:Nat):Int) 1:=by
   show _↔V.int _=V.int (_-1);rw[k8];refine⟨λz=>y9 V.int (by omega),λz=>?_⟩;injection z with z
   omega
  refine kz (λc=>?_) (λc=>?_)
  .have Rm:¬ks.length=r.length:=λz=>by rw[j9 (ei.mp z)]at c;cases c
   rw[h7 Rm,E7]at q;exact q _ (aC.refl _)
  .have heq:ks.length=r.length:=by
    by_cases z:ks.length=r.length
    .exact z
    .exact absurd (by rw[h7 (λy=>z (ei.mpr y))];rfl) c
   rw[j9 heq,F4]at q;dsimp only[Sk];refine Dj ?_;refine Dl ?_;refine qQ ?_;refine⟨_,rfl,_,rfl,_,rfl,?_⟩;dsimp only[nF];refine⟨l,_,rfl,Nq.of el,λp hp=>?_⟩;rw[v7,Vk];have s1:=au hp (.lst (r.map V.str));refine⟨b,p,_,_,rfl,rfl,sb _,Nq.of ae,?_⟩;refine wz (K:=K) (ks:=ks) (ws:=r) (λk y=>some (.bl (OH k y))) sb ae (by omega) (by omega) (λk y o T H2 N M ho hm s2 hT hN _=>?_) (λD H' s2 hD eD=>?_)
   .obtain⟨u,v,rfl⟩:=Rh ho;refine⟨T,_,rfl,Nv.of ae,rfl,_,_,rfl,_,_,rfl,rfl,?_⟩;refine⟨[some (.str k),some (.str y)],rfl,rfl,jn ?_⟩;exact⟨_,rfl,_,rfl,k,y,rfl,hw y (Mp hm).2,λH5 s5=>hN _ rfl H5 ((au hT _).trans s5)⟩
   .have e:∀z:List (Str×Str),(z.filterMap λy=>some (V.bl (OH y.1 y.2)))=(z.map λy=>OH y.1 y.2).map V.bl:=λz=>by
     induction z with
     | nil=>rfl
     | cons a t ih=>rw[E1,ih];rfl
    rw[e]at eD;refine⟨D,(ks.zip r).map λy=>OH y.1 y.2,rfl,Nq.of eD,?_⟩;rw[List.all_map];exact q _ (s1.trans s2)
theorem Jx(T:aA K mg "names_asked" dW)(ky:mg "zip"=none)(ma:fF K mg "FORMS" FO):Def P w K mg base 1 "names_asked" ["words"] rJ:=by
 refine aY T kH (λ_ _ _ _ _ _=>ar1 λ_=>rfl) ?_ ?_
 .walk_at "i1"
 walk_at "i2";obtain⟨l,x,r,ks,rfl,el,hx,heq,q⟩:=h;have nd:=kH.nd;have k4:=Cd hx;refine⟨_,(ah (av (tL (xs:=["kind","word"]) rfl (zo rfl ky (QM ma rfl (aL bb (pv 0) aq) (λ_ _=>rfl)) (gu jP (pv 0) (hU aq) jX)) rfl (by decide+kernel) (by decide+kernel) (show ∀p∈Scope.names _,p.2=NameKind.free->List.lookup p.1 (ai dW).names=some .cell\/List.lookup p.1 (ai dW).names=some .free by decide+kernel) dS (show(["kind","word"]:List Str).Nodup by decide+kernel) (λ_ _ _ _=>rL (K:=K) (n:=2) rfl rfl (bt (aX (i:=0) (hN:=(show(["kind","word"]:List Str).Nodup by decide+kernel)) (hf:=(.inr rfl))) (bt (aX (i:=1) (hN:=(show(["kind","word"]:List Str).Nodup by decide+kernel)) (hf:=(.inr rfl))) gf))) (λ_ _ _ _=>DS (aB bf (pv 0) az (aE _))) (λ_ _ _ _=>(pv 1))))),?_⟩;refine Dj (qQ ?_);refine⟨_,rfl,_,_,_,_,rfl,rfl,Nq.of el,N5,x,ks,rfl,hx,h8 k4 (by decide),λb sb=>?_⟩;refine⟨_,rfl,_,rfl,?_⟩;dsimp only[nF];refine⟨l,_,rfl,Nq.of el,λp hp=>?_⟩;rw[v7,Vk];have s1:=au hp (.lst (r.map V.str));refine⟨b,p,_,_,rfl,rfl,sb _,Nq.of ae,?_⟩;refine wz (K:=K) (ks:=ks) (ws:=r) (λk y=>if k=("name":Str) then some (.str y) else none) sb ae (by omega) (by omega) (λk y o T H2 N M ho hm s2 hT hN hM=>?_) (λD H' s2 hD eD=>?_)
 .obtain⟨u,v,rfl⟩:=Rh ho;refine⟨T,_,rfl,Nv.of ae,rfl,_,_,rfl,_,_,rfl,rfl,?_⟩;refine⟨[some (.str k),some (.str y)],rfl,rfl,_,rfl,rfl,_,rfl,?_⟩
  by_cases c:k=("name":Str)
  .rw[j9 (by rw[c])];exact cL ⟨_,rfl,hN _ (k9 c) _ (au hT _)⟩
  .rw[h7 (λz=>c (by injection z))];exact bz (hM (h9 c) _ (au hT _))
 .have e:∀z:List (Str×Str),(z.filterMap λy=>if y.1=("name":Str) then some (V.str y.2) else none)=(z.filterMap λy:Str×Str=>if y.1=("name":Str) then some y.2 else none).map V.str:=λz=>by
   induction z with
   | nil=>rfl
   | cons a t ih =>
    rw[E1,E1,ih]
    by_cases c:a.1=("name":Str)
    .rw[k9 c,k9 c];rfl
    .rw[h9 c,h9 c]
  rw[e]at eD;exact q D H' (s1.trans s2) (s1.free hD) eD
theorem jD:NU X ss Sn:=λ_ _ _ _ _ _ h=>h.elim
def EC(C:Addr)(E:XK)(H:Hp):Prop:=∀dc H',aC H H'->E (.ref C) dc H'
def EF(C:Addr)(E:XK)(H:Hp)(fs:List (Str×V)):Prop:=∀d H',aC H H'->H' d=some (.ext (cP d fs))->E (.ref C) (some d) H'
theorem EF.at{H:Hp}{fs:List (Str×V)}(e:EF C E H fs)(s:aC H H1){d:Addr}(hd:H1 d=none):E (.ref C) (some d) (upd H1 d (.ext (cP d fs))):=e d _ (s.trans (au hd _)) ae
theorem EC.to{H:Hp}(h:EC C E H)(s:aC H H'):EC C E H':=λdc H2 s2=>h dc H2 (s.trans s2)
theorem EF.to{H:Hp}{fs:List (Str×V)}(h:EF C E H fs)(s:aC H H'):EF C E H' fs:=λd H2 s2=>h d H2 (s.trans s2)
def Ze(C:Addr)(H:Hp)(a:Addr)(Np:List (Key×V)):Prop:=∃dx d,H a=some (.ins C dx [("kept",.ref d)])/\H d=some (.dK Np)
noncomputable def Uw(Np:List (Key×V))(x:Str):Bool:=(cW Np (Sum.inr x)).isSome
def Dw(C:Addr):Sp:=λvs H Q _=>∃a dx,vs=[.ref a]/\H a=some (.ins C dx [])/\∀d,H d=none->Q .non (upd (upd H d (.dK [])) a (.ins C dx [("kept",.ref d)]))
inductive sE(C CN:Addr)(vs:List V)(H:Hp)(Q:VK)(E:XK):Prop
 | mk (a l:Addr) (ns:List Str) (Np:List (Key×V)):vs=[.ref a,.ref l]->Ze C H a Np->H l=some (.lst (ns.map V.str))->((∀i x,ns[i]?=some x->(∀y∈ns.take i,Uw Np y=true)->Uw Np x=false->EF CN E H [("name",.str x)]))->(((∀y∈ns,Uw Np y=true)->Q .non H))->sE C CN vs H Q E
theorem zd:ao ["self"] ["self"] (ai gp):=L2.fsc
theorem Ju(T:MkF K mg "Desk" C "Desk.__init__" gp)(n:bh K C "kept"):jf P w K mg base "Desk" C 1 ["self"] (Dw C):=by
 refine Eb T zd (λ_ _ _ _ _ _=>ar1 λ_=>rfl) ?_ ?_
 .walk_at "i1"
 walk_at "i2";obtain⟨a,dx,rfl,e,q⟩:=h;have nd:=zd.nd;refine⟨_,(ah (tK (pv 0) zq rfl)),?_⟩;intro d hd;exact⟨_,rfl,a,C,dx,[],rfl,by rw[aj (ak e hd)];exact e,T.cl,n,(by show 0<1000;decide),q d hd⟩
theorem DH:ao ["self","names","name"] ["self","names"] (ai cH):=L2.fsc
theorem FD{CN:Addr}(T:aI K C "must_keep" "Desk.must_keep" cH)(n:bh K C "kept")(Kw:XC1 P w K mg base "NoName" CN "name"):gW P w K mg base C "must_keep" 3 ["self","names"] (sE C CN):=by
 refine oG T DH (λ_ _ _ _ _ _=>ar2 λ_ _=>rfl) ?_ ?_
 .walk_at "i1"
 walk_at "i2";obtain⟨a,l,ns,Np,rfl,⟨dx,d,e1,e2⟩,el,qE,q⟩:=h;have nd:=DH.nd;have hu:=j7 (J0 (show 1<=64 by decide) _) hr.units;refine⟨_,(ah (dj Lh rfl (bV (pv 1)) (aX (i:=2)) (ah (aP (Iu (vU hu (pv 2) (dw (pv 0) rfl))) (ah (pX Kw (hr.mono (by decide)) rfl (aa (pv 2) af))) aG)))),?_⟩;refine⟨_,rfl,l,rfl,⟨_,Nq.of el⟩,?_⟩;refine dY (xs:=ns.map V.str) (λi σ H'=>(∀y∈ns.take i,Uw Np y=true)/\H'=H/\∃o,σ=[some (.ref a),some (.ref l),o]) ⟨(λ_ h=>by cases h),rfl,_,rfl⟩ (λi σ H' _ h=>by rw[h.2.1];exact Nq.of el) (λi v σ H' hv h=>?_) (λσ H' h=>?_)
 .obtain⟨al,rfl,o,rfl⟩:=h;rw[y4]at hv;cases ex:ns[i]? with
  | none=>rw[ex]at hv;cases hv
  | some x =>
   rw[ex]at hv;cases hv
   refine⟨_,rfl,_,rfl,a,C,dx,_,_,rfl,e1,T.cl,n,(by rw[A0,A5]),d,_,rfl,.inl ⟨Np,.inr x,.inl e2,rfl,rfl⟩,?_⟩;cases c:Uw Np x with
   | false =>
    have c':(cW Np (Sum.inr x)).isSome=false:=c;rw[c'];exact⟨_,rfl,cL ⟨_,rfl,_,rfl,λd hd=>(qE i x ex al c).at (aC.refl _) hd⟩⟩
   | true =>
    have c':(cW Np (Sum.inr x)).isSome=true:=c;rw[c'];refine⟨_,rfl,bz ⟨λy hy=>?_,rfl,_,rfl⟩⟩;rw[C9,ex]at hy;rcases D0.mp hy with z | z
    .exact al y z
    .have:y=x:=by simpa using z
     rw[this];exact c
 .obtain⟨al,rfl,_⟩:=h;rw[g6,D7]at al;exact q al
structure T3 where
 u:Int
 v:Int
 w:Int
deriving DecidableEq
namespace Hu
noncomputable def tl(r p:T3):Int:=r.u*p.v+r.v*p.w+r.w*p.u
section
variable{α:Type}{f:Nat->List α}
end
end Hu
namespace Hu
section
variable{b e:Nat}{p q:T3}{s t:Int}
end
structure R3(c:Nat)(r:T3):Prop where
 a:r.u.natAbs<2^c
 b:r.v.natAbs<2^c
 c:r.w.natAbs<2^c
end Hu
namespace Hu
end Hu
namespace Hu
noncomputable def sqH:List T3:=[⟨1,0,0⟩,⟨1,1,0⟩,⟨1,1,1⟩,⟨1,0,1⟩]
end Hu
namespace Hu
inductive Row where
 | lf (k:Nat)
 | nt (i:Nat)
 | fd (k i j:Nat)
noncomputable def z0:T3:=⟨0,0,0⟩
noncomputable def mi(a b:T3):T3:=⟨a.u-b.u,a.v-b.v,a.w-b.w⟩
open Classical in
inductive Out where
 | rules (rs:List T3)
 | mixed (k:Nat) (t:T3)
end Hu
noncomputable def NI(p:T3):PyData:=.tuple [.int p.u,.int p.v,.int p.w]
section
variable{K:W.Frag}{H H':Hp}{a:Addr}{v:V}{p:T3}
theorem sk(g:Nv K H a [.int p.u,.int p.v,.int p.w]):Dat K H (NI p) (.ref a):=⟨a,_,rfl,g,_,_,rfl,rfl,_,_,rfl,rfl,_,_,rfl,rfl,rfl⟩
theorem kE(g:Dat K H (NI p) v):∃a,v=.ref a/\Nv K H a [.int p.u,.int p.v,.int p.w]:=by
 obtain⟨a,xs,rfl,g,x,r,rfl,hx,y,t,rfl,hy,z,u,rfl,hz,hu⟩:=g;cases(show x=V.int p.u from hx)
 cases(show y=V.int p.v from hy)
 cases(show z=V.int p.w from hz)
 cases(show u=[] from hu)
 exact⟨a,rfl,g⟩
theorem HS{xs:List V}(g:DatAll K H (h.map NI) xs){x:V}(e:xs[i]?=some x):∃p,h[i]?=some p/\Dat K H (NI p) x:=by
 obtain⟨d,e1,e2⟩:=g.get' e;rw[y4]at e1;cases z:h[i]? with
 | none=>rw[z]at e1;cases e1
 | some s=>rw[z]at e1;cases e1;exact⟨s,rfl,e2⟩
theorem wL{xs:List V}(g:DatAll K H (h.map NI) xs):xs.length=h.length:=by rw[g.len,g6]
end
def Bg(x:Int):Prop:=x.natAbs<2^8000
theorem kY{a b:Int}(ha:Bg a)(hb:Bg b):IntMulOk a b:=IntMulOk.of_le (m:=8000) (n:=8000) (Et ha) (Et hb) (by decide)
theorem Ak{x:Int}{n:Nat}(h:x.natAbs<2^n)(hn:n<=8000):Bg x:=i5 h (Nat.pow_le_pow_right (by decide) hn)
theorem Gy{t x:Int}(h0:x≠0)(h:Bg x):AI t x:=⟨h0,i5 ((Nat.log2_lt (by omega)).mpr h) (by decide)⟩
inductive Qu(K:W.Frag)(vs:List V)(H:Hp)(Q:VK)(E:XK):Prop
 | mk (x y r p):vs=[x,y]->Dat K H (NI r) x->Dat K H (NI p) y->Hu.R3 3000 r->Hu.R3 3000 p->Q (.int (Hu.tl r p)) H->Qu K vs H Q E
inductive HX(K:W.Frag)(vs:List V)(H:Hp)(Q:VK)(E:XK):Prop
 | mk (x:V) (l:Addr) (us:List V) (r:T3) (h:List T3):vs=[x,.ref l]->Dat K H (NI r) x->Nq K H l us->DatAll K H (h.map NI) us->Hu.R3 3000 r->(∀p∈h,Hu.R3 3000 p)->h.length<=900->((∀H',aC H H'->Nq K H' l us))->(∀(d:Addr)(H':Hp),aC H H'->H d=none->H' d=some (.lst ((h.map (Hu.tl r)).map V.int))->Q (.ref d) H')->HX K vs H Q E
section
variable{P:Program}{w:World}{K:W.Frag}{mg:Str->Option Value}{base:Heap}
theorem Zs(h:Hu.R3 3000 r):Bg r.u/\Bg r.v/\Bg r.w:=⟨Ak h.a (by decide),Ak h.b (by decide),Ak h.c (by decide)⟩
theorem IV(T:aA K mg "told_by" pM):Def P w K mg base 1 "told_by" ["rule","point"] (Qu K):=by
 refine aY T sV (λ_ _ _ _ _ _=>L2.ar2 λ_ _=>rfl) ?_ ?_
 .walk_at "i1"
 walk_at "i2";obtain⟨x,y,r,p,rfl,dx,dy,br,bp,q⟩:=h;obtain⟨ar,rfl,sr⟩:=kE dx;obtain⟨ap,rfl,st⟩:=kE dy;obtain⟨r1,r2,r3⟩:=Zs br;obtain⟨p1,p2,p3⟩:=Zs bp;have nd:=sV.nd;refine⟨_,(ah (av (aO gP (aO gP (aO ck (aL aV (pv 0) aq) (aL aV (pv 1) aq)) (aO ck (aL aV (pv 0) aq) (aL aV (pv 1) aq))) (aO ck (aL aV (pv 0) aq) (aL aV (pv 1) aq))))),?_⟩;exact⟨_,rfl,_,_,_,_,rfl,rfl,sr,rfl,_,rfl,_,_,_,_,rfl,rfl,st,rfl,_,_,rfl,rfl,kY r1 p2,_,rfl,_,_,_,_,rfl,rfl,sr,rfl,_,rfl,_,_,_,_,rfl,rfl,st,rfl,_,_,rfl,rfl,kY r2 p3,_,_,rfl,rfl,_,rfl,_,_,_,_,rfl,rfl,sr,rfl,_,rfl,_,_,_,_,rfl,rfl,st,rfl,_,_,rfl,rfl,kY r3 p1,_,_,rfl,rfl,q⟩
theorem HJ{l D:Addr}{us:List V}{r:T3}(hl:∀H',aC H1 H'->Nq K H' l us)(da:DatAll K H1 (h.map NI) us)(few:h.length<=900)(hD:H1 D=none)
  (step:∀v p H' k,aC H1 H'->p∈h->Dat K H' (NI p) v->k (.int (Hu.tl r p)) H'->te (some v::bI js σ) H' k)
  (fin:∀H',aC H1 H'->H' D=some (.lst ((h.map (Hu.tl r)).map V.int))->R H') :
  ∃W:Nat->Nat->Hp->Prop,(∃m,W 0 m (upd H1 D (.lst [])))/\∀i m H2,W i m H2->((PX K l).stop i H2/\R H2)\/
   ((
    PX K l).go i H2/\∀v H3,(PX K l).yld i H2 v H3->qu (some v::bI js σ) H3 λb H4=>if b=true then te (some v::bI js σ) H4 λy H5 =>
    ∃ys,H5 D=some (.lst ys)/\ys.length<sizeLine/\∃m',m'<m/\W (i+1) m' (upd H5 D (.lst (ys++[y]))) else ∃m',m'<m/\W (i+1) m' H4):=by
 have lu:=wL da;refine⟨λi m H2=>m=us.length-i/\i<=us.length/\aC H1 H2/\H2 D=some (.lst (((h.take i).map (Hu.tl r)).map V.int)),⟨_,rfl,z5 _,au hD _,ae⟩,?_⟩;rintro i m H2 ⟨rfl,hi,sm,XX⟩
 by_cases Ny:i<us.length
 .refine .inr ⟨⟨us,_,hl _ sm,g0 Ny⟩,λv H3 y=>?_⟩;obtain⟨rfl,y⟩:=y;obtain⟨p,hp,dp⟩:=HS (da.ts sm.ts) (y us (hl _ sm));refine jn ?_;refine step v p _ _ sm (x3 hp) dp ?_;refine⟨_,XX,jq (by simp;omega),us.length-(i+1),by omega,rfl,Ny,bP sm hD _,?_⟩;rw[ae]
  have e:h.take (i+1)=h.take i++[p]:=by
   obtain⟨q1,q2⟩:=j6.mp hp;rw[List.take_succ_eq_append_getElem q1,q2]
  rw[e,x9,x9];rfl
 .have ei:i=us.length:=by omega
  subst ei;refine .inl ⟨⟨us,hl _ sm,f7 _⟩,fin _ sm ?_⟩;rw[XX,lu,D7]
theorem ok_tic(T:aA K mg "told_in_corners" ff)(qq:Def P w K mg base 1 "told_by" ["rule","point"] (Qu K)):Def P w K mg base 2 "told_in_corners" ["rule","hull"] (HX K):=by
 refine aY T iB (λ_ _ _ _ _ _=>L2.ar2 λ_ _=>rfl) ?_ ?_
 .walk_at "i1"
 walk_at "i2";obtain⟨x,l,us,r,h,rfl,dx,sl,da,br,bp,few,hl,k⟩:=h;have nd:=iB.nd;refine⟨_,(ah (av (fD (bV (pv 1)) (iS (j:=0) dS) (λ_ _ _ _=>eJ) (λ_ _ _ _=>(aN qq (aa (pv 1) (aa (pv 0) af))))))),?_⟩;refine⟨_,rfl,l,rfl,⟨us,sl⟩,λD hD=>?_⟩;exact HJ (r:=r) hl da few hD (λv p H' kk sm hp dp q=>⟨_,rfl,_,rfl,x,v,r,p,rfl,dx.ts sm.ts,dp,br,bp p hp,q⟩) λH' sm e=>k D H' sm hD e
end
inductive Dq(K:W.Frag)(vs:List V)(H:Hp)(Q:VK)(E:XK):Prop
 | mk  : vs=[]->(∀l us H',aC H H'->H l=none->H' l=some (.lst us)->DatAll K H' (Hu.sqH.map NI) us->Q (.ref l) H')->Dq K vs H Q E
section
variable{P:Program}{w:World}{K:W.Frag}{mg:Str->Option Value}{base:Heap}
theorem ok_sq(T:aA K mg "square" nX):Def P w K mg base 1 "square" [] (Dq K):=by
 refine aY T EZ (λ_ _ _ _ _ _=>L2.ar0 rfl) ?_ ?_
 .walk_at "i1"
 walk_at "i2";obtain⟨rfl,q⟩:=h;obtain⟨e,p,he,eq⟩:∃e p,Zb e/\aZ nX=[.Return (some e) p]:=⟨_,_,⟨_,_,_,_,_,_,_,_,_,_,_,_,_,_,_,_,_,_,_,_,_,_,_,_,_,_,_,_,_,_,_,_,_,rfl⟩,rfl⟩;rw[eq];refine⟨_,ah (av (W3 he)),?_⟩;refine⟨Mine.z3,λt1 h1=>⟨Mine.z3,λt2 h2=>⟨Mine.z3,λt3 h3=>⟨Mine.z3,λt4 h4=>⟨Mine.z4,λl h5=>?_⟩⟩⟩⟩⟩;have u1:=au h1 (.tup [.int 1,.int 0,.int 0]);have u2:=au h2 (.tup [.int 1,.int 1,.int 0]);have u3:=au h3 (.tup [.int 1,.int 1,.int 1]);have u4:=au h4 (.tup [.int 1,.int 0,.int 1]);have u5:=au h5 (.lst [.ref t1,.ref t2,.ref t3,.ref t4]);refine q l _ _ (u1.trans (u2.trans (u3.trans (u4.trans u5)))) ((u1.trans (u2.trans (u3.trans u4))).free h5) ae ?_;exact⟨_,_,rfl,sk (p:=⟨1,0,0⟩) (Nv.of ((u2.trans (u3.trans (u4.trans u5))) _ _ ae)),_,_,rfl,sk (p:=⟨1,1,0⟩) (Nv.of ((u3.trans (u4.trans u5)) _ _ ae)),_,_,rfl,sk (p:=⟨1,1,1⟩) (Nv.of ((u4.trans u5) _ _ ae)),_,_,rfl,sk (p:=⟨1,0,1⟩) (Nv.of (u5 _ _ ae)),rfl⟩
end
inductive VM(K:W.Frag)(f:T3->T3->T3)(vs:List V)(H:Hp)(Q:VK)(E:XK):Prop
 | mk (x y p q):vs=[x,y]->Dat K H (NI p) x->Dat K H (NI q) y->(∀t H',aC H H'->Dat K H' (NI (f p q)) (.ref t)->Q (.ref t) H')->VM K f vs H Q E
section
variable{P:Program}{w:World}{K:W.Frag}{mg:Str->Option Value}{base:Heap}
theorem Bx(T:aA K mg "without" pK)(ky:mg "zip"=none)(eM:mg "tuple"=none):Def P w K mg base 1 "without" ["one","other"] (VM K Hu.mi):=by
 refine aY T sP (λ_ _ _ _ _ _=>L2.ar2 λ_ _=>rfl) ?_ ?_
 .walk_at "i1"
 walk_at "i2";obtain⟨x,y,p,q,rfl,dx,dy,k⟩:=h;obtain⟨ax,rfl,sx⟩:=kE dx;obtain⟨ay,rfl,sy⟩:=kE dy;have nd:=sP.nd;refine⟨_,(ah (av (ig je eM (aa (Fn (xs:=["first","second"]) (QL rfl ky (pv 0) (pv 1)) dS (λ_ _ _ _=>rL (K:=K) (n:=2) rfl rfl (bt (aX (i:=0) (hN:=(show(["first","second"]:List Str).Nodup by decide+kernel)) (hf:=(.inr rfl))) (bt (aX (i:=1) (hN:=(show(["first","second"]:List Str).Nodup by decide+kernel)) (hf:=(.inr rfl))) gf))) (λ_ _ _ _=>(aO gN (pv 0) (pv 1)))) af)))),?_⟩;refine⟨_,rfl,_,rfl,ax,ay,_,_,rfl,rfl,sx,sy,λD hD=>?_⟩;refine⟨λi m H2=>m=3-i/\i<=3/\aC H H2/\H2 D=some (.lst ([V.int (p.u-q.u),.int (p.v-q.v),.int (p.w-q.w)].take i)),⟨_,rfl,z5 _,au hD _,ae⟩,?_⟩;rintro i m H2 ⟨rfl,hi,sm,XX⟩
 have sx2:=sx.ts sm.ts;have sy2:=sy.ts sm.ts
 by_cases Ny:i<3
 .refine .inr ⟨⟨_,_,sx2,sy2,Ny,f7 _⟩,λo ho v H3 y=>?_⟩;obtain⟨T',vs,nT,rfl,rfl,x,y,rfl,hx,hy⟩:=y;have zx:=hx _ sx2;have zy:=hy _ sy2;obtain⟨o1,o2,rfl⟩:=Rh ho;have uT:=au nT (.tup [x,y]);refine⟨T',_,rfl,Nv.of ae,rfl,_,_,rfl,_,_,rfl,rfl,[some x,some y],rfl,rfl,?_⟩;have UH:=uT _ _ XX;rcases(show i=0\/i=1\/i=2 by omega) with rfl | rfl | rfl
  .cases zx
   cases zy
   exact⟨_,rfl,_,rfl,_,_,rfl,rfl,_,UH,jq (by simp),3-1,by omega,rfl,by omega,bP (sm.trans uT) hD _,ae⟩
  .cases zx
   cases zy
   exact⟨_,rfl,_,rfl,_,_,rfl,rfl,_,UH,jq (by simp),3-2,by omega,rfl,by omega,bP (sm.trans uT) hD _,ae⟩
  .cases zx
   cases zy
   exact⟨_,rfl,_,rfl,_,_,rfl,rfl,_,UH,jq (by simp),3-3,by omega,rfl,by omega,bP (sm.trans uT) hD _,ae⟩
 have ei:i=3:=by omega
 subst ei;refine .inl ⟨⟨_,_,sx2,sy2,f7 _,f7 _⟩,?_⟩;refine⟨D,_,rfl,.inl ⟨Nq.of XX,λtt htt=>?_⟩⟩;exact k tt _ (sm.trans (au htt _)) (sk (p:=Hu.mi p q) (Nv.of ae))
end
structure Cu(K:W.Frag)(mg:Str->Option Value)(x s:Str):Prop where
 ex:∃a,mg x=some (.ref a)/\∀H,Nv K H a [.str s]
theorem EK{h:Heap}{n:Nat}(X:K.In h)(G:h.Ns mainGlobals mg)
  (e:PySem.W.nsIn K mainGlobals x=some (some (.ref a)))(l:K.lookup a=some ⟨.type "tuple",od,.seq its n,N7⟩)(hz:its.size<=sizeLine)(v:Vals [V.str s] its.toList):Cu K mg x s:=
 ⟨a,LC X G e,λ_=>.inr ⟨_,its,n,l,rfl,rfl,hz,v⟩⟩
noncomputable abbrev rP:T3:=⟨1,0,0⟩
inductive N6:Tr->Prop where
 | p:N6 .lp
 | f {u:W5} {t:Tr}:u=.lesser\/u=.greater->N6 t->N6 (.fold u .lp t)
theorem N6.worth{t:Tr}(h:N6 t)(n x y:Int):t.worth n x y=x:=by
 induction h with
 | p=>rfl
 | @f u t hu _ ih =>
  rcases hu with rfl | rfl
  .show min x (t.worth n x y)=x;rw[ih];omega
  .show max x (t.worth n x y)=x;rw[ih];omega
def RLr(k:Nat)(r:Rw):Prop:=r=fK "p" []\/∃(u:W5)(i j:Nat),(u=.lesser\/u=.greater)/\r=fK u.str [i,j]/\i<k/\j<k
def RL(rs:List Rw):Prop:=∀k r,rs[k]?=some r->RLr k r
theorem RL.push{r:Rw}(h:RL rs)(hr:RLr rs.length r):RL (bF rs r).1/\(bF rs r).2<(bF rs r).1.length/\rs.length<=(bF rs r).1.length:=by
 unfold bF;cases e:idx rs r with
 | some i=>exact⟨h,JU e,f7 _⟩
 | none =>
  refine⟨λk x hx=>?_,by simp,by simp⟩;rcases Nat.lt_trichotomy k rs.length with c | c | c
  .exact h k x (by rw[<- hx,G2 c])
  .subst c;have:(rs++[r])[rs.length]?=some r:=by simp
   rw[this]at hx;cases hx
   exact hr
  .rw[G0 (by simp;omega)]at hx;cases hx
theorem N6.rl{t:Tr}(h:N6 t):∀{rs:List Rw},RL rs->RL (t.putR rs).1/\(t.putR rs).2<(t.putR rs).1.length/\rs.length<=(t.putR rs).1.length:=by
 induction h with
 | p=>exact λhr=>hr.push (.inl rfl)
 | @f u t hu _ ih =>
  intro rs hr;obtain⟨a1,a2,a3⟩:RL (Tr.lp.putR rs).1/\(Tr.lp.putR rs).2<(Tr.lp.putR rs).1.length/\rs.length<=(Tr.lp.putR rs).1.length:=hr.push (.inl rfl);obtain⟨b1,b2,b3⟩:=ih a1;obtain⟨c1,c2,c3⟩:=b1.push (r:=fK u.str [(Tr.lp.putR rs).2,(t.putR (Tr.lp.putR rs).1).2]) (.inr ⟨u,_,_,hu,rfl,by omega,b2⟩);exact⟨c1,c2,h8 a3 (h8 b3 c3)⟩
theorem N6.rows{t:Tr}(h:N6 t):RL t.rows/\0<t.rows.length:=by
 obtain⟨a,b,_⟩:=h.rl (rs:=[]) (λ_ _ z=>by cases z);exact⟨a,j7 (z5 _) b⟩
section
variable{K:W.Frag}
def ChP(K:W.Frag)(H:Hp)(v:V):Prop:=∃(t:Addr)(x y z:V),v=.ref t/\Nv K H t [x,y,z]/\Dat K H (NI Hu.z0) x/\Dat K H (NI rP) y/\Dat K H (NI rP) z
def AllP(K:W.Frag)(H:Hp)(ws:List V):Prop:=∀v∈ws,Dat K H (NI rP) v
theorem AllP.ts{H:Hp}{ws:List V}(h:AllP K H ws)(e:OG H H'):AllP K H' ws:=λv hv=>(h v hv).ts e
def P7(K:W.Frag)(H:Hp)(l:Addr):Prop:=∃us,H l=some (.lst us)/\DatAll K H (Hu.sqH.map NI) us
theorem P7.to{H:Hp}{l:Addr}(h:P7 K H l)(s:aC H H'):P7 K H' l:=by
 obtain⟨us,e,d⟩:=h;exact⟨us,s _ _ e,d.ts s.ts⟩
def LfV(K:W.Frag)(H:Hp)(v:V):Prop:=∃a,v=.ref a/\Nv K H a [.str "leaf"]
end
theorem yD:∀p∈Hu.sqH,Hu.R3 3000 p:=by
 have one:(1:Int).natAbs<2^3000:=Nat.one_lt_two_pow (by decide);have nul:(0:Int).natAbs<2^3000:=Nat.pow_pos (by decide);intro p hp;simp only[Hu.sqH,j8,z8,E9]at hp;rcases hp with rfl | rfl | rfl | rfl<;>exact⟨by first | exact one | exact nul,by first | exact one | exact nul,by first | exact one | exact nul⟩
inductive xf(K:W.Frag)(vs:List V)(H:Hp)(Q:VK)(E:XK):Prop
 | mk  : vs=[.str "p"]->(∀v,Dat K H (NI rP) v->Q v H)->xf K vs H Q E
inductive xj(K:W.Frag)(vs:List V)(H:Hp)(Q:VK)(E:XK):Prop
 | mk (u:W5) (x y:V):vs=[.str u.str,x,y]->(u=.lesser\/u=.greater)->Dat K H (NI rP) x->Dat K H (NI rP) y->(∀v H',aC H H'->ChP K H' v->Q v H')->xj K vs H Q E
inductive pG(K:W.Frag)(vs:List V)(H:Hp)(Q:VK)(E:XK):Prop
 | mk (x:V) (lr:Addr) (ws:List V) (r:Rw):vs=[x,.ref lr]->Oq H x r->RLr ws.length r->H lr=some (.lst ws)->AllP K H ws->(∀v H',aC H H'->ChP K H' v->Q v H')->pG K vs H Q E
inductive pE(K:W.Frag)(vs:List V)(H:Hp)(Q:VK)(E:XK):Prop
 | mk (l:Addr) (v:V):vs=[.ref l,v]->P7 K H l->ChP K H v->(∀u H',aC H H'->Dat K H' (NI rP) u->Q u H')->pE K vs H Q E
inductive nM(K:W.Frag)(vs:List V)(H:Hp)(Q:VK)(E:XK):Prop
 | mk (l lh:Addr) (us:List V) (rs:List Rw):vs=[.ref l,.ref lh]->H l=some (.lst us)->cN (Oq H) us rs->RL rs->us.length<=1000->P7 K H lh->(∀(t lr:Addr)(ws:List V)(H':Hp),aC H H'->Nv K H' t [.str "rules",.ref lr]->H' lr=some (.lst ws)->AllP K H' ws->ws.length=us.length->Q (.ref t) H')->nM K vs H Q E
inductive wR(K:W.Frag)(vs:List V)(H:Hp)(Q:VK)(E:XK):Prop
 | mk (lh l:Addr) (us:List V) (rs:List Rw):vs=[.ref lh,.ref l]->H l=some (.lst us)->cN (Oq H) us rs->RL rs->us.length<=1000->P7 K H lh->(∀v H',aC H H'->LfV K H' v->Q v H')->wR K vs H Q E
section
variable{P:Program}{w:World}{K:W.Frag}{mg:Str->Option Value}{base:Heap}
theorem Jl(T:aA K mg "leaf_rule" kN)(nq:nh K mg "LETTER_P" [1,0,0]):Def P w K mg base 1 "leaf_rule" ["word"] (xf K):=by
 refine aY T xq (λ_ _ _ _ _ _=>ar1 λ_=>rfl) ?_ ?_
 .walk_at "i1"
 walk_at "i2";obtain⟨rfl,q⟩:=h;obtain⟨aLP,CO,sLP⟩:=nq.ex
 refine⟨_,(ag (aP (aB bf (pv 0) az (aE _)) (ah (av iR)) aG)
  (ag (aP (aB bf (pv 0) az (aE _)) (ah (av iR)) aG)
  (ah (av (cI (aB bf (pv 0) az (aE _)) (bH (v:=V.ref aLP) rfl CO rfl) iR))))),?_⟩
 exact⟨_,rfl,rfl,_,rfl,Mine.qqN ⟨_,rfl,rfl,_,rfl,Mine.qqN ⟨_,rfl,rfl,_,rfl,ite_yes rfl (q _ (sk (p:=rP) (sLP H)))⟩⟩⟩
theorem Jp(T:aA K mg "fold_choice" iY)(wI:Def P w K mg base 1 "without" ["one","other"] (VM K Hu.mi)):Def P w K mg base 2 "fold_choice" ["word","one","other"] (xj K):=by
 refine aY T tE (λ_ _ _ _ _ _=>ar3 λ_ _ _=>rfl) ?_ ?_
 .walk_at "i1"
 walk_at "i2";obtain⟨u,x,y,rfl,hu,dx,dy,q⟩:=h
 refine⟨_,(ag (aP (aB bf (pv 0) az (aE _)) (ah (av iR)) aG)
  (ag (aP (aB bf (pv 0) az (aE _)) (ah (av iR)) aG)
  (ag (aP (aB bf (pv 0) az (aE _)) (ah (av (bu (aa (aN wI (aa (pv 1) (aa (pv 2) af))) (aa (pv 2) (aa (pv 1) af)))))) aG)
  (ag (aP (aB bf (pv 0) az (aE _)) (ah (av (bu (aa (aN wI (aa (pv 1) (aa (pv 2) af))) (aa (pv 1) (aa (pv 2) af)))))) aG)
  (ah (av iR)))))),?_⟩
 have d3:(3:Nat)<=sizeLine:=by decide
 rcases hu with rfl | rfl
 .refine⟨_,rfl,rfl,_,rfl,Mine.qqN ⟨_,rfl,rfl,_,rfl,Mine.qqN ⟨_,rfl,rfl,_,rfl,Mine.qqN ⟨_,rfl,rfl,_,rfl,ite_yes rfl ?_⟩⟩⟩⟩;refine⟨_,rfl,_,rfl,_,_,rP,rP,rfl,dx,dy,λt1 H1 s1 e1=>⟨_,rfl,_,rfl,d3,λt ht=>?_⟩⟩;have m:=au ht (.tup [.ref t1,x,y]);exact q _ _ (s1.trans m) ⟨t,_,_,_,rfl,Nv.of ae,e1.ts m.ts,(dx.ts s1.ts).ts m.ts,(dy.ts s1.ts).ts m.ts⟩
 .refine⟨_,rfl,rfl,_,rfl,Mine.qqN ⟨_,rfl,rfl,_,rfl,Mine.qqN ⟨_,rfl,rfl,_,rfl,ite_yes rfl ?_⟩⟩⟩;refine⟨_,rfl,_,rfl,_,_,rP,rP,rfl,dx,dy,λt1 H1 s1 e1=>⟨_,rfl,_,rfl,d3,λt ht=>?_⟩⟩;have m:=au ht (.tup [.ref t1,y,x]);exact q _ _ (s1.trans m) ⟨t,_,_,_,rfl,Nv.of ae,e1.ts m.ts,(dy.ts s1.ts).ts m.ts,(dx.ts s1.ts).ts m.ts⟩
theorem BK(T:aA K mg "choice_of" kQ)(bC:mg "len"=none)(yj:nh K mg "NEVER" [0,0,0])(Ay:Def P w K mg base 1 "leaf_rule" ["word"] (xf K))(vo:Def P w K mg base 2 "fold_choice" ["word","one","other"] (xj K)):Def P w K mg base 3 "choice_of" ["row","rules"] (pG K):=by
 refine aY T nV (λ_ _ _ _ _ _=>ar2 λ_ _=>rfl) ?_ ?_
 .walk_at "i1"
 walk_at "i2";obtain⟨x,lr,ws,r,rfl,⟨a,rfl,ea⟩,ok,hl,da,q⟩:=h;obtain⟨aNE,Sa,sNE⟩:=yj.ex;have nd:=nV.nd;have d3:(3:Nat)<=sizeLine:=by decide
 have sl:Nq K H lr ws:=Nq.of hl
 refine⟨_,(ag (aP (aB bf (aH bR bC (aa (pv 0) af)) aq (aE _)) (ah (av (aN vo (aa (aL aV (pv 0) aq) (aa (aL bb (pv 1) (aL aV (pv 0) aq)) (aa (aL bb (pv 1) (aL aV (pv 0) aq)) af)))))) aG)
  (ag (aD (i:=2) (cI (aB bf (aH bR bC (aa (pv 0) af)) aq (aE _)) (aN Ay (aa (aL aV (pv 0) aq) af)) iR))
  (ah (av (bu (aa (bH (v:=V.ref aNE) rfl Sa rfl) (aa (pv 2) (aa (pv 2) af)))))))),?_⟩
 rcases ok with rfl | ⟨u,i,j,hu,rfl,hi,hj⟩
 .rw[xx]at ea;have sx:Nv K H a [.str "p"]:=Nv.of ea;refine⟨_,rfl,_,_,rfl,.inr ⟨_,sx,rfl⟩,rfl,_,rfl,bz ?_⟩;refine⟨_,rfl,_,_,rfl,.inr ⟨_,sx,rfl⟩,rfl,_,rfl,cL ?_⟩;refine⟨_,rfl,_,_,_,_,rfl,rfl,sx,rfl,rfl,λv dv=>?_⟩;refine⟨_,rfl,_,rfl,d3,λt ht=>?_⟩;have m:=au ht (.tup [.ref aNE,v,v]);exact q _ _ m ⟨t,_,_,_,rfl,Nv.of ae,sk (p:=Hu.z0) (sNE _),dv.ts m.ts,dv.ts m.ts⟩
 .rw[xx]at ea;have sx:Nv K H a [.str u.str,.int (i:Int),.int (j:Int)]:=Nv.of ea;have hy:=g0 hi;have hz:=g0 hj;refine⟨_,rfl,_,_,rfl,.inr ⟨_,sx,rfl⟩,rfl,_,rfl,cL ?_⟩;exact⟨_,rfl,_,_,_,_,rfl,rfl,sx,rfl,_,rfl,_,rfl,_,_,_,_,rfl,rfl,sx,rfl,_,_,_,_,rfl,rfl,sl,bc hy,_,rfl,_,rfl,_,_,_,_,rfl,rfl,sx,rfl,_,_,_,_,rfl,rfl,sl,bc hz,u,_,_,rfl,hu,da _ (Ls hi),da _ (Ls hj),q⟩
theorem BJ(T:aA K mg "chosen_on" kP)(eU:mg "max"=none)(pb:Def P w K mg base 2 "told_in_corners" ["rule","hull"] (HX K)):Def P w K mg base 3 "chosen_on" ["hull","choice"] (pE K):=by
 refine aY T nU (λ_ _ _ _ _ _=>ar2 λ_ _=>rfl) ?_ ?_
 .walk_at "i1"
 walk_at "i2";obtain⟨l,v,rfl,⟨us,hl,da⟩,⟨t,x,y,z,rfl,st,d1,d2,d3⟩,q⟩:=h;have nd:=nU.nd;refine⟨_,ag (aD (i:=2) (aN pb (aa (aL aV (pv 1) aq) (aa (pv 0) af)))) (ag (aP (aB qK (aH (wC rfl) eU (aa (pv 2) af)) aq (aE _)) (ah (av (aL aV (pv 1) aq))) aG) jD),?_⟩
 have zr:Hu.R3 3000 Hu.z0:=by
  have nul:(0:Int).natAbs<2^3000:=Nat.pow_pos (by decide);exact⟨nul,nul,nul⟩
 refine⟨_,rfl,_,_,_,_,rfl,rfl,st,rfl,_,rfl,x,l,us,Hu.z0,Hu.sqH,rfl,d1,Nq.of hl,da,zr,yD,by decide,λH' s'=>Nq.of (s' _ _ hl),λd H1 s1 _ hd=>?_⟩;refine⟨_,rfl,d,_,rfl,Nq.of hd,by decide,λM hM hmax=>?_⟩;refine⟨_,_,rfl,rfl,_,rfl,?_⟩;have m0:M<=0:=(by decide:∀m∈Hu.sqH.map (Hu.tl Hu.z0),m<=0) M hM;rw[j9 m0];exact cL ⟨_,rfl,_,_,_,_,rfl,rfl,st.ts s1.ts,rfl,q _ _ s1 (d2.ts s1.ts)⟩
theorem Fy(T:aA K mg "rules_of_rows" gF)(eV:mg "enumerate"=none)(AE:Def P w K mg base 3 "choice_of" ["row","rules"] (pG K))(AD:Def P w K mg base 3 "chosen_on" ["hull","choice"] (pE K)):Def P w K mg base 4 "rules_of_rows" ["rows","hull"] (nM K):=by
 refine aY T ju (λ_ _ _ _ _ _=>ar2 λ_ _=>rfl) ?_ ?_
 .walk_at "i1"
 walk_at "i2";obtain⟨l,lh,us,rs,rfl,hl,da,ok,few,hq,q⟩:=h;have nd:=ju.nd
 refine⟨_,(ag (aD (i:=2) (bg af))
  (ag (dj z9 rfl (DT rfl eV (pv 0)) (mR rfl (bt (aX (i:=3)) (bt (aX (i:=4)) gf))) (ag (aD (i:=5) (aN AE (aa (pv 4) (aa (pv 2) af))))
  (ag (aD (i:=6) (aN AD (aa (pv 1) (aa (pv 5) af))))
  (ag (aP (aB tN (pv 6) cf (aE _)) (ah eI) aG)
  (ah (aS (bx b9 g8 g9 aQ (pv 2) (aa (pv 6) af))))))))
  (ah (av (bu (aa az (aa (pv 2) af))))))),?_⟩
 refine⟨Mine.z0,λlr hlr=>?_⟩;have u0:=au hlr (.lst []);refine⟨_,rfl,l,rfl,⟨us,Nq.of (u0 _ _ hl)⟩,?_⟩
 refine zZ (xs:=us) (λi σ H'=>i<=us.length/\aC H H'/\∃(ws:List V)(o3 o4 o5 o6:Option V),σ=[some (.ref l),some (.ref lh),some (.ref lr),o3,o4,o5,o6]/\H' lr=some (.lst ws)/\AllP K H' ws/\ws.length=i)
  ⟨z5 _,u0,[],_,_,_,_,rfl,ae,(λ_ z=>nomatch z),rfl⟩ (λi σ H' _ z=>Nq.of (z.2.1 _ _ hl)) (λi v T' σ H' hv z hT=>?_) (λσ H' z=>?_)
 .obtain⟨_,sm,ws,o3,o4,o5,o6,rfl,Zz,aw,lw⟩:=z;have hi:i<us.length:=(j6.mp hv).1;have uT:=au hT (.tup [.int i,v]);have s2:=sm.trans uT;obtain⟨r,er,va,rfl,rv⟩:=da.get i v hv;refine⟨T',_,rfl,Nv.of ae,rfl,_,_,rfl,_,_,rfl,rfl,?_⟩;refine⟨_,rfl,_,rfl,_,lr,ws,r,rfl,⟨va,rfl,s2 _ _ rv⟩,(by rw[lw];exact ok i r er),uT _ _ Zz,aw.ts uT.ts,λc H3 s3 hc=>?_⟩;have m3:=s2.trans s3;have hr3:=s3 _ _ (uT _ _ Zz);refine⟨_,rfl,_,rfl,lh,c,rfl,hq.to m3,hc,λu H4 s4 du=>?_⟩;obtain⟨ua,rfl,su⟩:=kE du;refine⟨_,rfl,rfl,_,rfl,bz ?_⟩;have hr4:=s4 _ _ hr3;refine⟨_,rfl,.inl ⟨rfl,_,Nq.of hr4⟩,_,rfl,lr,ws,_,rfl,rfl,hr4,jq (by omega),?_⟩;have t5:OG H4 (upd H4 lr (.lst (ws++[.ref ua]))):=kC hr4;refine⟨hi,bP (m3.trans s4) hlr _,ws++[.ref ua],_,_,_,_,rfl,ae,λy hy=>?_,by simp[lw]⟩;rcases D0.mp hy with z | z
  .exact(((aw y z).ts uT.ts).ts (s3.trans s4).ts).ts t5
  .rw[y3.mp z];exact du.ts t5
 .obtain⟨_,sm,ws,o3,o4,o5,o6,rfl,Zz,aw,lw⟩:=z;refine⟨_,rfl,Mine.z2,λp hp=>?_⟩;have u:=au hp (.tup [.str "rules",.ref lr]);exact q p lr ws _ (sm.trans u) (Nv.of ae) (u _ _ Zz) (aw.ts u.ts) lw
theorem IU(T:aA K mg "tree_on" pL)(TL:Cu K mg "LEAF" "leaf")(gU:Def P w K mg base 4 "rules_of_rows" ["rows","hull"] (nM K)):Def P w K mg base 5 "tree_on" ["hull","rows"] (wR K):=by
 refine aY T sU (λ_ _ _ _ _ _=>ar2 λ_ _=>rfl) ?_ ?_
 .walk_at "i1"
 walk_at "i2";obtain⟨lh,l,us,rs,rfl,hl,da,ok,few,hq,q⟩:=h;have nd:=sU.nd;obtain⟨aLF,VA,qL⟩:=TL.ex;refine⟨_,ag (aD (i:=2) (aN gU (aa (pv 1) (aa (pv 0) af)))) (ag (aP (aB bf (aL aV (pv 2) aq) az (aE _)) (ah (av (bH (v:=V.ref aLF) rfl VA rfl))) aG) jD),?_⟩;refine⟨_,rfl,_,rfl,l,lh,us,rs,rfl,hl,da,ok,few,hq,λt lr ws H1 s1 st _ _ _=>?_⟩;refine⟨_,rfl,_,_,_,_,rfl,rfl,st,rfl,rfl,_,rfl,ite_yes rfl ?_⟩;exact q _ _ s1 ⟨aLF,rfl,qL _⟩
end
structure Ms(P:Program)(w:World)(K:W.Frag)(mg:Str->Option Value)(base:Heap)(c:CCs):Prop where
 made:∀t,aJ P w K mg base (c.of t) "made_of" 1 ["self"] (xa c t)
 word:∀t,aJ P w K mg base (c.of t) "making_word" 1 ["self"] (eY c t)
 pieces:∀t,aJ P w K mg base (c.of t) "pieces" 2 ["self"] (nP c t)
 weigh:∀t,aJ P w K mg base (c.of t) "weigh" 2 ["self","worths","n","x","y"] (jO c t)
 remake:∀t,aJ P w K mg base (c.of t) "remake" 4 ["self","made","one","other"] (iy c t)
section
variable{P:Program}{w:World}{K:W.Frag}{mg:Str->Option Value}{base:Heap}{c:CCs}
theorem DJ:ao ["self","laid","waiting","part"] ["self"] (ai Sx):=L2.fsc
theorem ok_laid(T:aI K C "laid_out" "Saying.laid_out" Sx)(M:Ms P w K mg base c):aJ P w K mg base C "laid_out" 2 ["self"] (mG c t):=by
 refine aR T DJ (λ_ _ _ _ _ _=>L2.ar1 λ_=>rfl) ?_ ?_
 .walk_at "i1"
 walk_at "i2";obtain⟨a,rfl,oa,ht,q⟩:=h;have nd:=DJ.nd
 refine⟨_,(ag (aD (i:=1) (bg af))
  (ag (aD (i:=2) (bg (aa (pv 0) af)))
  (ag (jE z9 (kU (pv 2) (λ_=>rfl)) (ag (aD (i:=3) (cp b9 u7 u9 cU (pv 2)))
  (ag (aS (bx b9 g8 g9 aQ (pv 1) (aa (pv 3) af)))
  (ah (aS (bx b9 LF LG qc (pv 2) (aa (bo (k:=1) (pv 3) (hr.mono (by decide))) af)))))))
  (ag (aS (cp b9 Lu Lv mW (pv 1)))
  (ah (av (pv 1))))))),?_⟩
 refine⟨Mine.z0,λl1 h1=>?_⟩;refine⟨_,rfl,Mine.z1,λl2 Oj=>?_⟩;have h2:H l2=none:=dh Oj;have OU:l1≠l2:=λe=>by subst e;rw[ae]at Oj;cases Oj
 have WN:aC H (upd (upd H l1 (.lst [])) l2 (.lst [.ref a])):=λb o e=>by rw[aj (ak e h2),aj (ak e h1)];exact e
 refine⟨λm σ H'=>∃L W Lt Wt o,σ=[some (.ref a),some (.ref l1),some (.ref l2),o]/\aC H H'/\H' l1=some (.lst L)/\H' l2=some (.lst W)/\cN (N0 c H') L Lt/\cN (N0 c H') W Wt/\
   Lt++(Wt.reverse.flatMap λx=>x.post.reverse)=t.post.reverse/\m=di Wt,
  ⟨_,[],[.ref a],[],[t],_,rfl,WN,by rw[aj OU,ae],ae,.nil,.cons ⟨a,rfl,oa.to (Kp.of WN)⟩ .nil,by simp,rfl⟩,?_⟩
 rintro m σ H' ⟨L,W,Lt,Wt,o,rfl,sm,e1,e2,oL,oW,hp,rfl⟩
 have hlen:Lt.length+di Wt=t.size:=by
  have z:=y9 List.length hp;rw[p7,Aa,EX,p6,dn]at z;exact z
 have hLl:=oL.len
 by_cases hw:W=[]
 .subst hw;cases oW
  refine⟨_,rfl,false,.inl ⟨[],Nq.of e2,rfl⟩,bz ?_⟩;refine⟨_,rfl,.inl ⟨rfl,_,Nq.of e1⟩,l1,_,rfl,rfl,e1,?_⟩;have eL:Lt=t.post.reverse:=by simpa using hp
  have kp:=bA (u:=.lst L.reverse) e1 rfl;refine⟨_,rfl,q l1 L.reverse _ (λb o z=>?_) h1 ae ?_⟩
  .rw[aj (ak z h1)];exact sm b o z
  .have:=(oL.imp (N0.to kp)).rev;rw[eL,Ll]at this;exact this
 .obtain⟨W',v,Ou,x,rfl,rfl,⟨b,rfl,ob⟩,VQ⟩:=oW.last hw;refine⟨_,rfl,true,.inl ⟨_,Nq.of e2,by cases W'<;>rfl⟩,cL ?_⟩;have sz:di (Ou++[x])=di Ou+x.size:=by rw[vC];simp[di]
  refine⟨λσ' NB=>∃m',m'<di (Ou++[x])/\∃L W Lt Wt o,σ'=[some (.ref a),some (.ref l1),some (.ref l2),o]/\aC H NB/\NB l1=some (.lst L)/\NB l2=some (.lst W)/\cN (N0 c NB) L Lt/\cN (N0 c NB) W Wt/\
   Lt++(Wt.reverse.flatMap λx=>x.post.reverse)=t.post.reverse/\m'=di Wt,λ_ _ z=>z,?_⟩
  refine⟨_,rfl,.inl ⟨rfl,_,Nq.of e2⟩,l2,_,_,rfl,rfl,e2,bJ _ _,?_⟩;rw[x5];have P6:upd H' l2 (.lst W') l1=some (.lst L):=by rw[aj OU];exact e1
  refine⟨_,rfl,.inl ⟨rfl,_,Nq.of P6⟩,_,rfl,l1,_,_,rfl,rfl,P6,by rw[hLl];exact j7 (show Lt.length<=1000 by omega) (by decide),?_⟩;have k1:Kp H' (upd (upd H' l2 (.lst W')) l1 (.lst (L++[.ref b]))):=(bA e2 rfl).trans (bA P6 rfl);have e2':upd (upd H' l2 (.lst W')) l1 (.lst (L++[.ref b])) l2=some (.lst W'):=by rw[aj OU.symm,ae]
  have Q7:=ob.to k1;obtain⟨dx,fs,eb,nf⟩:=Q7.cls;refine⟨_,rfl,.inl ⟨rfl,_,Nq.of e2'⟩,_,rfl,b,_,_,_,_,_,rfl,eb,nf _ (by decide+kernel),M.made x,b,rfl,Q7,λl us hl ou=>?_⟩;have Zu:l2≠l:=ak e2' hl;have VS:l1≠l:=ak (ae (H:=upd H' l2 (.lst W'))) hl;have PJ:upd (upd (upd H' l2 (.lst W')) l1 (.lst (L++[.ref b]))) l (.lst us) l2=some (.lst W'):=by rw[aj Zu];exact e2'
  have hWl:=VQ.len;have VX:=ou.len;have hkl:=ub x;have hWs:=wc Ou;refine⟨l2,l,_,_,rfl,rfl,PJ,ae,by rw[hWl,VX];exact h8 (show _<=1002 by omega) (by decide),?_⟩;have k2:Kp (upd (upd H' l2 (.lst W')) l1 (.lst (L++[.ref b]))) (upd (upd (upd (upd H' l2 (.lst W')) l1 (.lst (L++[.ref b]))) l (.lst us)) l2 (.lst (W'++us))):=(BY hl _).trans (bA PJ rfl);have k3:=k1.trans k2;have ks:=Gj x;refine⟨di (Ou++x.kids),by rw[sz,vC];omega,L++[.ref b],W'++us,Lt++[x],Ou++x.kids,_,rfl,λd o z=>?_,by rw[aj OU,aj VS,ae],ae,(oL.imp (N0.to k3)).app (.cons ⟨b,rfl,ob.to k3⟩ .nil),(VQ.imp (N0.to k3)).app (ou.imp (N0.to k2)),?_,rfl⟩
  .have z1:upd (upd H' l2 (.lst W')) l1 (.lst (L++[.ref b])) d=some o:=by rw[aj (ak z h1),aj (ak z h2)];exact sm d o z
   rw[aj (ak z h2),aj (ak z1 hl)];exact z1
  .rw[<- hp];simp only[List.reverse_append,List.flatMap_append,l8,List.reverse_nil,Nh,B3,MV,List.flatMap_nil,A6,List.singleton_append,Iz x,List.cons_append]
end
section
variable{P:Program}{w:World}{K:W.Frag}{mg:Str->Option Value}{base:Heap}{c:CCs}
theorem Ie:ao ["self","n","x","y","worths","part"] ["self","n","x","y"] (ai WS):=L2.fsc
theorem ok_out(T:aI K C "out_of" "Saying.out_of" WS)(M:Ms P w K mg base c)(G:∀t,aJ P w K mg base (c.of t) "laid_out" 2 ["self"] (mG c t)):aJ P w K mg base C "out_of" 3 ["self","n","x","y"] (HZ c t):=by
 refine aR T Ie (λ_ _ _ _ _ _=>L2.ar4 λ_ _ _ _=>rfl) ?_ ?_
 .walk_at "i1"
 walk_at "i2";obtain⟨a,n,x,y,rfl,oa,ht,q⟩:=h;have nd:=Ie.nd
 refine⟨_,(ag (aD (i:=4) (bg af))
  (ag (dj z9 rfl (bV (bo (k:=2) (pv 0) (hr.mono (by omega)))) (aX (i:=5)) (ah (aS (kW (k:=2) (pv 5) (hr.mono (by decide)) (aa (pv 4) (aa (pv 1) (aa (pv 2) (aa (pv 3) af))))))))
  (ah (av (cp b9 u7 u9 cU (pv 4)))))),?_⟩
 refine⟨Mine.z0,λl1 h1=>?_⟩;have WO:aC H (upd H l1 (.lst [])):=au h1 _;have Xa:=oa.to (Kp.of WO);obtain⟨dx,fs,ea,nf⟩:=Xa.cls;refine⟨_,rfl,a,_,_,_,_,_,rfl,ea,nf _ (by decide+kernel),G t,a,rfl,Xa,ht,λl us H' sm hl el ou=>⟨l,rfl,⟨_,Nq.of el⟩,?_⟩⟩;have nl:l≠l1:=λe=>by subst e;rw[ae]at hl;cases hl
 refine dY (xs:=us) (λi σ H2=>∃o R,σ=[some (.ref a),some (.int n),some (.int x),some (.int y),some (.ref l1),o]/\SB (.ref l1) H' H2/\H2 l1=some (.lst (R.reverse.map V.int))/\R.length<=i/\(ir n x y).run R (t.post.drop i)=some [t.worth n x y])
  ⟨none,[],rfl,SB.refl _ _,sm _ _ ae,f7 _,DQ _ t⟩ (λi σ H2 _ h=>?_) (λi v σ H2 hi h=>?_) (λσ H2 h=>?_)
 .obtain⟨o,R,_,sb,_⟩:=h;exact Nq.of (sb _ _ el λz=>nl (V.ref.inj z))
 .obtain⟨o,R,rfl,sb,e,hR,NN⟩:=h;obtain⟨z,hz,b,rfl,ob⟩:=ou.get i v hi;rw[oN hz]at NN;obtain⟨R',hs,NW⟩:=zg NN;have kp:Kp H' H2:=sb.kp λa' o' z1 z2=>by cases z1;rw[sm _ _ ae]at z2;cases z2;rfl
  have O2:=ob.to kp;obtain⟨dx',YA,eb,VT⟩:=O2.cls;have ZG:i<t.post.length:=(j6.mp hz).1;rw[dn]at ZG;refine⟨_,rfl,b,_,_,_,_,_,rfl,eb,VT _ (by decide+kernel),M.weigh z,_,rfl,_,rfl,_,rfl,_,rfl,b,l1,n,x,y,R,R',rfl,O2,e,by omega,hs,λH3 sb3 e3=>?_⟩;exact⟨_,R',rfl,sb.trans sb3,e3,h8 (yC hs) (Nat.succ_le_succ hR),NW⟩
 .obtain⟨o,R,rfl,sb,e,hR,NN⟩:=h;have ul:=ou.len;rw[ul,Ma]at NN;have eR:R=[t.worth n x y]:=i7 NN;subst eR;refine⟨_,rfl,.inl ⟨rfl,_,Nq.of e⟩,l1,_,_,rfl,rfl,e,rfl,q _ λb o z=>?_⟩;rw[aj (ak z h1)];exact sb b o (sm b o (WO b o z)) λz1=>(ak z h1) (V.ref.inj z1)
end
noncomputable def pq(w:Str):V:=match takes w with | some n=>.int n | none=>.non
theorem ES(w:Str):jI (pq w)=true:=by unfold pq;cases takes w<;>rfl
theorem Ql(w:Str):Zy (pq w) [V.int 0,.int 1]=(decide (takes w=some 0) || decide (takes w=some 1)):=by
 unfold pq Zy;cases takes w with
 | none=>rfl
 | some n =>
  show(((0:Int)==n) || (((1:Int)==n) || false))=_;rw[Nm]
  by_cases h0:n=0
  .subst h0;rfl
  .by_cases h1:n=1
   .subst h1;rfl
   .have a0:((0:Int)==n)=false:=B9.mpr (λz=>h0 z.symm);have a1:((1:Int)==n)=false:=B9.mpr (λz=>h1 z.symm);have b0:¬(some n=some (0:Int)):=λz=>h0 (i7 z);have b1:¬(some n=some (1:Int)):=λz=>h1 (i7 z);rw[a0,a1,h7 b0,h7 b1]
theorem yz(w:Str):decide (pq w=V.int 2)=decide (takes w=some 2):=by
 unfold pq;cases takes w with
 | none=>rfl
 | some n =>
  by_cases h:n=2
  .subst h;rfl
  .rw[h7 (λz=>h (V.int.inj z)),h7 (λz=>h (i7 z))]
theorem lJ(w:Str):TN (pq w) (V.int 2)=true:=by unfold pq;cases takes w<;>rfl
inductive xg(vs:List V)(H:Hp)(Q:VK)(E:XK):Prop
 | mk (x:Str):vs=[.str x]->Q (pq x) H->xg vs H Q E
inductive Bi(vs:List V)(H:Hp)(Q:VK)(E:XK):Prop
 | mk (u x:Str):vs=[.str u,.str x]->(∀H',aC H H'->Q (.bl (fM u x)) H')->Bi vs H Q E
noncomputable def optV:Option Nat->V
 | some k=>.int (k:Int)
 | none=>.non
inductive pD(vs:List V)(H:Hp)(Q:VK)(E:XK):Prop
 | mk (l:Addr) (ws:List Str):vs=[.ref l]->H l=some (.lst (ws.map V.str))->ws.length<=1000->(∀H',aC H H'->Q (optV (bL ["saying"] ws 0)) H')->pD vs H Q E
inductive wZ(c:CCs)(vs:List V)(H:Hp)(Q:VK)(E:XK):Prop
 | mk (l:Addr) (t:Tr):vs=[.ref l]->H l=some (.lst (t.words.map V.str))->t.words.length<=1000->(∀x H',aC H H'->Ob c H' x t->Q (.ref x) H')->wZ c vs H Q E
def rG(c:CCs)(t:Tr):Sp:=λvs H Q _=>∃a,vs=[.ref a]/\Ob c H a t/\t.size<=1000/\∀H',aC H H'->Q (.int (t.size:Int)) H'
theorem Wh{b:Bool}{H:Hp}(h:Q (.bl b) H):Q (.bl (if false=true then !b else b)) H:=h
theorem Us{a:Str}{A B:Prop}(h:a≠b)(k:A):if(!decide (V.str a=V.str b))=true then A else B:=by
 rw[h7 (λz=>h (V.str.inj z)),Bool.not_false,k9 rfl];exact k
theorem Ur{a:Str}{A B:Prop}(h:a=b)(k:B):if(!decide (V.str a=V.str b))=true then A else B:=by
 rw[j9 (y9 V.str h),Bool.not_true,h9 i6];exact k
section
variable{P:Program}{w:World}{K:W.Frag}{mg:Str->Option Value}{base:Heap}{c:CCs}
theorem yT:ao ["self"] ["self"] (ai fg):=L2.fsc
theorem Jd{t:Tr}(T:aI K C "parts" "Saying.parts" fg)(bC:mg "len"=none)(GL:∀t,aJ P w K mg base (c.of t) "laid_out" 2 ["self"] (mG c t)):aJ P w K mg base C "parts" 3 ["self"] (rG c t):=by
 refine aR T yT (λ_ _ _ _ _ _=>L2.ar1 λ_=>rfl) ?_ ?_
 .walk_at "i1"
 walk_at "i2";obtain⟨a,rfl,oa,ht,q⟩:=h;have nd:=yT.nd;refine⟨_,(ah (av (aH bR bC (aa (bo (k:=2) (pv 0) (hr.mono (by omega))) af)))),?_⟩;obtain⟨dx,fs,ea,nf⟩:=oa.cls;refine⟨_,rfl,a,_,_,_,_,_,rfl,ea,nf _ (by decide+kernel),GL t,a,rfl,oa,ht,λl us H' sm hl el ou=>?_⟩;have e:=ou.len;rw[dn]at e;refine⟨_,_,rfl,.inl ⟨_,Nq.of el,rfl⟩,?_⟩;show Q (.int ((us.length:Nat):Int)) H';rw[e];exact q H' sm
theorem DN:ao ["word"] ["word"] (ai dR):=L2.fsc
theorem ok_howG(T:aA K mg "how_many_it_takes" dR)(yi:oX K mg "TAKEN" TK):Def P w K mg base 1 "how_many_it_takes" ["word"] xg:=by
 refine aY T DN (λ_ _ _ _ _ _=>L2.ar1 λ_=>rfl) ?_ ?_
 .walk_at "i1"
 walk_at "i2";obtain⟨x,rfl,q⟩:=h;have nd:=DN.nd;exact⟨_,(ah (av (QN yi rfl (pv 0) ⟨rfl,rfl,rfl,rfl⟩))),_,rfl,_,rfl,q⟩
theorem DO:ao ["word","wanted"] ["word","wanted"] (ai Bq):=L2.fsc
theorem ok_fits(T:aA K mg "fits" Bq)(cE:Def P w K mg base 1 "how_many_it_takes" ["word"] xg):Def P w K mg base 2 "fits" ["word","wanted"] Bi:=by
 refine aY T DO (λ_ _ _ _ _ _=>L2.ar2 λ_ _=>rfl) ?_ ?_
 .walk_at "i1"
 walk_at "i2";obtain⟨u,x,rfl,q⟩:=h;have nd:=DO.nd
 refine⟨_,(ag (aP (aB bf (pv 1) az (aE _)) (ah (av (SE (cZ bf (pv 0) az (aE _)) (mT (cZ Fp (aN cE (aa (pv 0) af)) (bu (aa aq (aa aq af))) rfl))))) aG)
  (ag (aP (aB bf (pv 1) az (aE _)) (ah (av (cZ bf (aN cE (aa (pv 0) af)) aq (aE _)))) aG)
  (ah (av (cZ bf (pv 0) (pv 1) (aE _)))))),?_⟩
 refine⟨_,rfl,rfl,_,rfl,?_⟩
 by_cases h1:x="saying"
 .refine ite_yes h1 ⟨_,rfl,rfl,_,rfl,?_⟩
  by_cases h2:u="("
  .refine ite_yes h2 ?_;have z:=q H (λ_ _ z=>z);unfold fM at z;rw[k9 h1,j9 h2,Bool.true_or]at z;exact z
  .refine ite_no h2 ⟨_,rfl,u,rfl,Mine.z2,λp hp=>⟨p,_,rfl,.inr (Nv.of ae),ES u,rfl,?_⟩⟩;refine Wh ?_;rw[Ql];have z:=q _ (au hp (.tup [V.int 0,.int 1]));unfold fM at z;rw[k9 h1,h7 h2,M0]at z;exact z
 .refine ite_no h1 ⟨_,rfl,rfl,_,rfl,?_⟩;have z:=q H (λ_ _ z=>z);unfold fM at z;rw[h9 h1]at z
  by_cases h2:x="fold"
  .rw[k9 h2]at z;refine ite_yes h2 ⟨_,rfl,u,rfl,lJ u,?_⟩;rw[yz];exact z
  .rw[h9 h2]at z;refine ite_no h2 ⟨_,rfl,_,rfl,rfl,?_⟩
   have e:decide (V.str u=V.str x)=decide (u=x):=by
    by_cases h:u=x
    .rw[j9 h,j9 (y9 V.str h)]
    .rw[h7 h,h7 (λz=>h (V.str.inj z))]
   rw[e];exact z
end
noncomputable abbrev roN:List Str:=["saying","rows","place_of","waiting","part","taken","row"]
noncomputable abbrev roAt (i j:Nat):Stmt:=match (aZ jz).getD i (.Pass ⟨0,0,0,0⟩) with
 | .For _ _ b _ _=>b.getD j (.Pass ⟨0,0,0,0⟩)
 | _=>.Pass ⟨0,0,0,0⟩
theorem HP{α:Type}:∀{R:List α}{k:Nat},k<R.length->∃x R1,R.drop k=x::R1/\R.take (k+1)=R.take k++[x]/\R.drop (k+1)=R1:=by
 intro R k h;refine⟨R[k],R.drop (k+1),MP h,?_,rfl⟩;rw[C9,g0 h];rfl
section
variable{P:Program}{w:World}{K:W.Frag}{mg:Str->Option Value}{base:Heap}{c:CCs}
theorem vG:ao roN ["saying"] (ai jz):=L2.fsc
theorem Fz(T:aA K mg "rows_of" jz)(bC:mg "len"=none)(eM:mg "tuple"=none)(M:Ms P w K mg base c)(G:∀t,aJ P w K mg base (c.of t) "laid_out" 2 ["self"] (mG c t)):Def P w K mg base 3 "rows_of" ["saying"] (nO c):=by
 refine aY T vG (λ_ _ _ _ _ _=>L2.ar1 λ_=>rfl) ?_ ?_
 .walk_at "i1"
 walk_at "i2";obtain⟨a,t,rfl,oa,ht,q⟩:=h;have nd:=vG.nd;have hu:=XB hr
 have stT:∃ts,PS (bM CX0 P w K mg base roN "rows_of" (ai jz) f cdv A outer s H E).nox (roAt 3 0) ts/\∀(D:Ends)(o5 o6:Option V)(l1 d1 l3 b:Addr)(x:Tr)(R:List Nat)(H1:Hp),Ob c H1 b x->H1 l3=some (.lst (R.reverse.map λi:Nat=>V.int (i:Int)))->x.kids.length<=R.length->
   (∀l4 H2,l4≠l3->H1 l4=none->(∀d o,H1 d=some o->d≠l3->H2 d=some o)->H2 l3=some (.lst ((R.drop x.kids.length).reverse.map λi:Nat=>V.int (i:Int)))->H2 l4=some (.lst ((R.take x.kids.length).map λi:Nat=>V.int (i:Int)))->
    D.nx [some (.ref a),some (.ref l1),some (.ref d1),some (.ref l3),some (.ref b),some (.ref l4),o6] H2)->
   ts D [some (.ref a),some (.ref l1),some (.ref d1),some (.ref l3),some (.ref b),o5,o6] H1:=by
  refine⟨_,(xy (i:=5) (bV (bo (k:=1) (pv 4) (hr.mono (by decide)))) (iS (j:=3) dS) (λ_ _ _ _=>eJ) (λ_ _ _ _=>(QS (K:=K) rfl b9 u7 u9 cU (pv 1)))),?_⟩;intro D o5 o6 l1 d1 l3 b x R H1 ob e3 hk fin;obtain⟨dx,fs,eb,nf⟩:=ob.cls;unfold sj;refine il ?_;refine⟨_,rfl,b,_,_,_,_,_,rfl,eb,nf _ (by decide+kernel),M.made x,b,rfl,ob,λl us hl ou=>⟨l,rfl,⟨_,Nq.of ae⟩,?_⟩⟩;have VX:=ou.len;have nl:l≠l3:=(ak e3 hl).symm
  refine wA (K:=K) (xs:=us) (λl' H'=>l'=l/\H'=upd H1 l (.lst us)) (λR' h=>h l _ ⟨rfl,rfl⟩) (λl' H' h=>by obtain⟨rfl,rfl⟩:=h;exact ae) (by rw[VX];have:=ub x;omega)
   (λl' D' i ys H'=>l'=l/\H1 D'=none/\D'≠l3/\ys=((R.take i).map λi:Nat=>V.int (i:Int))/\H' l3=some (.lst ((R.drop i).reverse.map λi:Nat=>V.int (i:Int)))/\∀d o,H1 d=some o->d≠l3->H' d=some o)
   (λl' H' D' h hD=>?_) (λl' D' i v ys H' hv nl' el eD h N hN=>?_) (λl' D' ys H' el eD h=>?_)
  .obtain⟨rfl,rfl⟩:=h;have Rq:=dh hD;refine⟨rfl,Rq,(ak e3 Rq).symm,rfl,?_,λd o z _=>?_⟩
   .rw[aj (ak e3 Rq),aj nl.symm];exact e3
   .rw[aj (ak z Rq),aj (ak z hl)];exact z
  .obtain⟨rfl,Rq,nD,rfl,V2,sm⟩:=h
   have hi:i<R.length:=by
    have:=(j6.mp hv).1;omega
   obtain⟨y,R1,d1',d2',d3'⟩:=HP hi;rw[d1',l8,x9]at V2;refine⟨_,rfl,.inl ⟨rfl,_,Nq.of V2⟩,l3,_,_,rfl,rfl,V2,bJ _ _,?_⟩;refine hN _ _ (by rw[aj nl];exact el) (by rw[aj nD];exact eD) ⟨rfl,Rq,nD,?_,?_,λd o z n=>?_⟩
   .rw[d2',x9];rfl
   .rw[aj nD.symm,ae,d3'];exact y9 some (y9 HO.lst x5)
   .rw[aj (ak z Rq),aj n];exact sm d o z n
  .obtain⟨rfl,Rq,nD,rfl,V2,sm⟩:=h;rw[VX]at V2 eD;exact fin D' H' nD Rq sm V2 eD
 obtain⟨tsT,htT,hqT⟩:=stT
 refine⟨_,ag (aD (i:=1) (bg af)) (ag (aD (i:=2) IH) (ag (aD (i:=3) (bg af)) (ag (dj z9 rfl (bV (bo (k:=2) (pv 0) (hr.mono (by omega)))) (aX (i:=4)) (ag htT (ag (aS (cp b9 Lu Lv mW (pv 5)))
  (ag (aD (i:=6) (aO QW (bu (aa (bo (k:=1) (pv 4) (hr.mono (by decide))) af)) (ig je eM (aa (pv 5) af))))
  (ag (aP (Iu (vU hu (pv 6) (pv 2))) (ag (DR hu (pv 2) (pv 6) (aH bR bC (aa (pv 1) af)) rfl)
  (ah (aS (bx b9 g8 g9 aQ (pv 1) (aa (pv 6) af))))) aG)
  (ah (aS (bx b9 g8 g9 aQ (pv 3) (aa (xC hu (pv 2) (pv 6)) af))))))))) (ah (av (pv 1)))))),?_⟩
 refine⟨Mine.z0,λl1 h1=>?_⟩;intro d1 Oj;refine⟨Mine.z0,λl3 h3'=>?_⟩;have h2:H d1=none:=dh Oj;have OU:l1≠d1:=λe=>by subst e;rw[ae]at Oj;cases Oj
 have h3a:upd H l1 (.lst []) l3=none:=dh h3';have h3:H l3=none:=dh h3a;have VW:l1≠l3:=λe=>by subst e;rw[ae]at h3a;cases h3a
 have VU:d1≠l3:=λe=>by subst e;rw[ae]at h3';cases h3'
 have sm0:aC H (upd (upd (upd H l1 (.lst [])) d1 (.dT [])) l3 (.lst [])):=λb o e=>by rw[aj (ak e h3),aj (ak e h2),aj (ak e h1)];exact e
 have oa0:=oa.to (Kp.of sm0);obtain⟨dx,fs,ea,nf⟩:=oa0.cls;refine⟨_,rfl,a,_,_,_,_,_,rfl,ea,nf _ (by decide+kernel),G t,a,rfl,oa0,ht,λl us H' sm hl el ou=>⟨l,rfl,⟨_,Nq.of el⟩,?_⟩⟩;have ul:=ou.len;rw[dn]at ul;have g1:H' l1=some (.lst []):=sm _ _ (by rw[aj VW,aj OU,ae]);have g2:H' d1=some (.dT []):=sm _ _ (by rw[aj VU,ae]);have g3:H' l3=some (.lst []):=sm _ _ ae
 have hl0:H l=none:=by
  cases z:H l with
  | none=>rfl
  | some o=>rw[sm0 _ _ z]at hl;cases hl
 have VS:l≠l1:=λe=>by subst e;rw[aj VW,aj OU,ae]at hl;cases hl
 have nl3:l≠l3:=λe=>by subst e;rw[ae]at hl;cases hl
 have nld:l≠d1:=λe=>by subst e;rw[aj VU,ae]at hl;cases hl
 refine dY (xs:=us) (λi σ H2=>∃(o4 o5 o6:Option V)(rs:List Rw)(R:List Nat)(Np:List (Rw×V))(vs:List V),σ=[some (.ref a),some (.ref l1),some (.ref d1),some (.ref l3),o4,o5,o6]/\(∀d o,H' d=some o->d≠l1->d≠d1->d≠l3->H2 d=some o)/\
   H2 l1=some (.lst vs)/\cN (Oq H2) vs rs/\H2 d1=some (.dT Np)/\Vw Np rs/\H2 l3=some (.lst (R.reverse.map λi:Nat=>V.int (i:Int)))/\R.length<=i/\rs.length<=i/\uP (rs,R) (t.post.drop i)=some (t.rows,[(t.putR []).2]))
  ⟨_,_,_,[],[],[],[],rfl,λd o z _ _ _=>z,g1,.nil,g2,Vw.nil,g3,f7 _,f7 _,Il t⟩ (λi σ H2 _ h=>?_) (λi v σ H2 hi h=>?_) (λσ H2 h=>?_)
 .obtain⟨o4,o5,o6,rs,R,Np,vs,_,sb,_⟩:=h;exact Nq.of (sb _ _ el VS nld nl3)
 .obtain⟨o4,o5,o6,rs,R,Np,vs,rfl,sb,e1,rv,e2,pl,e3,hR,hrs,NN⟩:=h;obtain⟨x,hx,b,rfl,ob⟩:=ou.get i v hi;rw[oN hx]at NN;obtain⟨s',hs',NW⟩:=Fg NN;obtain⟨hk,rfl⟩:=Ik hs';have ZG:i<us.length:=(j6.mp hi).1;have kp:Kp H' H2:=λd o z f=>sb d o z (λe=>by subst e;rw[g1]at z;cases z;cases f) (λe=>by subst e;rw[g2]at z;cases z;cases f) (λe=>by subst e;rw[g3]at z;cases z;cases f)
  have O2:=ob.to kp;refine hqT _ _ _ l1 d1 l3 b x R H2 O2 e3 hk λl4 H3 n43 h4 Zn e33 e34=>?_;have nl41:l4≠l1:=(ak e1 h4).symm;have nl4d:l4≠d1:=(ak e2 h4).symm;have e31:H3 l1=some (.lst vs):=Zn _ _ e1 VW;have e3d:H3 d1=some (.dT Np):=Zn _ _ e2 VU;have kp3:Kp H2 H3:=λd o z f=>Zn d o z (λe=>by subst e;rw[e3]at z;cases z;cases f)
  refine⟨_,rfl,.inl ⟨rfl,_,Nq.of e34⟩,l4,_,rfl,rfl,e34,?_⟩;have kp4:Kp H3 (upd H3 l4 (.lst ((R.take x.kids.length).map λi:Nat=>V.int (i:Int)).reverse)):=bA e34 rfl;rw[<- List.map_reverse]at kp4 ⊢;have ob4:=(O2.to kp3).to kp4;obtain⟨dx',YA,eb,VT⟩:=ob4.cls;refine⟨_,rfl,b,_,_,_,_,_,rfl,eb,VT _ (by decide+kernel),M.word x,b,rfl,ob4,Mine.z1,λp1 XO=>?_⟩;have kx:=ub x;have e44:upd H3 l4 (.lst ((R.take x.kids.length).reverse.map λi:Nat=>V.int (i:Int))) l4=_:=ae;have np1:l4≠p1:=ak e44 XO;refine⟨_,rfl,l4,_,rfl,.inl ⟨Nq.of (by rw[aj np1];exact e44),λp2 Py=>?_⟩⟩;have np12:p1≠p2:=ak (ae (H:=upd H3 l4 (.lst ((R.take x.kids.length).reverse.map λi:Nat=>V.int (i:Int))))) Py;refine Kn (K:=K) (by rw[aj np12,ae]) ae (by simp) (by simp only[k8,D3,g6,p6,F5];exact h8 (show _<=3 by omega) (by decide)) λOh H6 s6 e6=>?_;have O1:aC (upd H3 l4 (.lst ((R.take x.kids.length).reverse.map λi:Nat=>V.int (i:Int)))) H6:=((au XO _).trans (au Py _)).trans s6;have YJ:H6 Oh=some (.tup ((fK x.word (R.take x.kids.length).reverse).map kV)):=by rw[xx];exact e6
  generalize hr0:fK x.word (R.take x.kids.length).reverse=r at YJ NW;have g1':H6 l1=some (.lst vs):=O1 _ _ (by rw[aj nl41.symm];exact e31);have X9:H6 d1=some (.dT Np):=O1 _ _ (by rw[aj nl4d.symm];exact e3d);have ZM:H6 l3=some (.lst ((R.drop x.kids.length).reverse.map λi:Nat=>V.int (i:Int))):=O1 _ _ (by rw[aj n43.symm];exact e33);have kp6:Kp H2 H6:=(kp3.trans kp4).trans (Kp.of O1)
  have sb6:∀d o,H' d=some o->d≠l1->d≠d1->d≠l3->H6 d=some o:=λd o z z1 z2 z3=>by
   have y2:=sb d o z z1 z2 z3;exact O1 _ _ (by rw[aj (ak y2 h4)];exact Zn d o y2 z3)
  have rv6:=rv.imp (Oq.to kp6);have vl:=rv.len;refine⟨_,rfl,_,rfl,d1,_,rfl,nB.t X9 YJ,_,rfl,?_⟩;have hv:=pl.2 r;have big:Np.length<sizeLine:=by rw[pl.1];exact j7 (show rs.length<=1000 by omega) (by decide)
  cases Xz:idx rs r with
  | some j =>
   rw[Xz]at hv;rw[hv];refine bz ?_;have hp:bF rs r=(rs,j):=by unfold bF;rw[Xz]
   rw[hp]at NW;refine⟨_,rfl,.inl ⟨rfl,_,Nq.of ZM⟩,_,rfl,_,rfl,d1,_,rfl,(by have z:=nB.t X9 YJ;rw[hv]at z;exact z),l3,_,_,rfl,rfl,ZM,?_,?_⟩
   .rw[g6,p6];exact j7 (show _<=1000 by rw[Lr];omega) (by decide)
   .have km:Kp H6 (upd H6 l3 (.lst (((R.drop x.kids.length).reverse.map λi:Nat=>V.int (i:Int))++[V.int (j:Int)]))):=bA ZM rfl;refine⟨_,_,_,rs,j::R.drop x.kids.length,Np,vs,rfl,λd o z z1 z2 z3=>by rw[aj z3];exact sb6 d o z z1 z2 z3,by rw[aj VW];exact g1',rv6.imp (Oq.to km),by rw[aj VU];exact X9,pl,by rw[ae,l8,x9];rfl,?_,by omega,NW⟩;rw[k8,Lr];omega
  | none =>
   rw[Xz]at hv;rw[hv];refine cL ?_;have hp:bF rs r=(rs++[r],rs.length):=by unfold bF;rw[Xz]
   rw[hp]at NW;refine⟨_,rfl,_,vs.length,rfl,.inl ⟨_,Nq.of g1',rfl⟩,_,rfl,_,rfl,d1,_,rfl,AH.t X9 YJ big,?_⟩;rw[vl];have gA:upd H6 d1 (.dT (putK Np r (.int (rs.length:Int)))) l1=some (.lst vs):=by rw[aj OU];exact g1'
   refine⟨_,rfl,.inl ⟨rfl,_,Nq.of gA⟩,_,rfl,l1,_,_,rfl,rfl,gA,by rw[vl];exact j7 (show rs.length<=1000 by omega) (by decide),?_⟩;have k7:Kp H6 (upd (upd H6 d1 (.dT (putK Np r (.int (rs.length:Int))))) l1 (.lst (vs++[.ref Oh]))):=(bA X9 rfl).trans (bA gA rfl);have gB:upd (upd H6 d1 (.dT (putK Np r (.int (rs.length:Int))))) l1 (.lst (vs++[.ref Oh])) d1=some (.dT (putK Np r (.int (rs.length:Int)))):=by rw[aj OU.symm,ae]
   have gC:upd (upd H6 d1 (.dT (putK Np r (.int (rs.length:Int))))) l1 (.lst (vs++[.ref Oh])) l3=some (.lst ((R.drop x.kids.length).reverse.map λi:Nat=>V.int (i:Int))):=by rw[aj VW.symm,aj VU.symm];exact ZM
   have e7:=k7 _ _ YJ rfl;have pl':=pl.put Xz;have hv':cW (putK Np r (.int (rs.length:Int))) r=some (.int (rs.length:Int)):=by rw[kB,k9 rfl]
   refine⟨_,rfl,.inl ⟨rfl,_,Nq.of gC⟩,_,rfl,_,rfl,d1,_,rfl,(by have z:=nB.t gB e7;rw[hv']at z;exact z),l3,_,_,rfl,rfl,gC,?_,?_⟩
   .rw[g6,p6];exact j7 (show _<=1000 by rw[Lr];omega) (by decide)
   .have km:=bA (u:=.lst (((R.drop x.kids.length).reverse.map λi:Nat=>V.int (i:Int))++[V.int (rs.length:Int)])) gC rfl;refine⟨_,_,_,rs++[r],rs.length::R.drop x.kids.length,_,vs++[.ref Oh],rfl,λd o z z1 z2 z3=>by rw[aj z3,aj z1,aj z2];exact sb6 d o z z1 z2 z3,by rw[aj VW,ae],?_,by rw[aj VU];exact gB,pl',by rw[ae,l8,x9];rfl,?_,by rw[p7];simp;omega,NW⟩
    .exact((rv6.imp (Oq.to k7)).imp (Oq.to km)).app (.cons ⟨Oh,rfl,km _ _ e7 rfl⟩ .nil)
    .rw[k8,Lr];omega
 .obtain⟨o4,o5,o6,rs,R,Np,vs,rfl,sb,e1,rv,e2,pl,e3,hR,hrs,NN⟩:=h;rw[ul,<- dn,Ma]at NN;cases NN
  refine⟨_,rfl,q l1 vs H2 (λd o z=>?_) h1 e1 rv⟩;exact sb d o (sm _ _ (sm0 _ _ z)) (ak z h1) (ak z h2) (ak z h3)
end
theorem Kl(bs:List Bool)(hb:bs.length=xs.length)(Src:Addr->Hp->Prop)
  (XA:∀R:It->Hp->Prop,(∀l H,Src l H->R (PX K l) H)->wi σ H R)(Oi:∀l H',Src l H'->H' l=some (.lst xs)/\aC H H')(hx:xs.length<=1000)
  (ht:∀l H0 (i:Nat) v H' N,Src l H0->xs[i]?=some v->aC H0 H'->(∀NB,aC H' NB->N (bs.getD i false) NB)->tc (some v::bI js σ) H' N)
  (hs:∀(i:Nat) v H' N,xs[i]?=some v->aC H H'->(∀NB,aC H' NB->N v NB)->te (some v::bI js σ) H' N)
  (hd:∀D ys H',aC H H'->H D=none->H' D=some (.lst ys)->ys.length=bs.countP id->Q (.ref D) H'):jo wi tc te js σ H Q:=by
 refine XA _ λl H1 src=>?_;intro D hD;obtain⟨e,s1⟩:=Oi l H1 src;have nl:l≠D:=ak e hD;have hD0:H D=none:=s1.free hD;refine⟨λi m H'=>m=xs.length-i/\i<=xs.length/\H' l=some (.lst xs)/\aC H1 H'/\∃ys,H' D=some (.lst ys)/\ys.length=(bs.take i).countP id,⟨xs.length,rfl,z5 _,by rw[aj nl];exact e,au hD _,[],ae,rfl⟩,?_⟩;rintro i m H2 ⟨rfl,hi,e2,s2,ys,eD,ly⟩
 have cle:(bs.take i).countP id<=i:=h8 List.countP_le_length (by rw[F5];omega)
 by_cases Ny:i<xs.length
 .refine .inr ⟨⟨xs,xs[i],Nq.of e2,by simp[Ny]⟩,λv H3 y=>?_⟩;obtain⟨eh,y⟩:=y;subst eh;have hv:=y xs (Nq.of e2);have hbi:i<bs.length:=by omega
  have tk:bs.take (i+1)=bs.take i++[bs.getD i false]:=by
   rw[C9,g0 hbi,C5,g0 hbi];rfl
  have ct:(bs.take (i+1)).countP id=(bs.take i).countP id+(if bs.getD i false=true then 1 else 0):=by
   rw[tk,ML];congr 1;cases bs.getD i false<;>rfl
  refine ht l H1 i v _ _ src hv s2 λH4 s4=>?_
  by_cases hp:bs.getD i false=true
  .rw[k9 hp]at ct;rw[k9 hp];refine hs i v H4 _ hv ((s1.trans s2).trans s4) λH5 s5=>?_;have e5:=s5 _ _ (s4 _ _ eD);refine⟨_,e5,j7 (show _<=1000 by omega) (by decide),xs.length-(i+1),by omega,rfl,Ny,?_,λd u z=>?_,ys++[v],ae,by rw[ct,p7,ly];rfl⟩
   .rw[aj nl];exact s5 _ _ (s4 _ _ e2)
   .rw[aj (ak z hD)];exact s5 _ _ (s4 _ _ (s2 _ _ z))
  .rw[h9 hp]at ct;rw[h9 hp];exact⟨xs.length-(i+1),by omega,rfl,Ny,s4 _ _ e2,s2.trans s4,ys,s4 _ _ eD,by rw[ct,ly];rfl⟩
 .have ei:i=xs.length:=by omega
  subst ei;rw[<- hb,D7]at ly;exact .inl ⟨⟨xs,Nq.of e2,f7 _⟩,hd D ys H2 (s1.trans s2) hD0 eD ly⟩
noncomputable def isF:Tr->Bool
 | .fold _ _ _=>true
 | _=>false
noncomputable def Tr.nf(t:Tr):Nat:=(t.post.map isF).countP id
def nQ(c:CCs)(t:Tr):Sp:=λvs H Q _=>∃a,vs=[.ref a]/\Ob c H a t/\t.size<=1000/\∀H',aC H H'->Q (.int (t.nf:Int)) H'
section
variable{P:Program}{w:World}{K:W.Frag}{mg:Str->Option Value}{base:Heap}{c:CCs}
theorem vL:ao ["self"] ["self"] (ai fi):=L2.fsc
theorem FJ(T:aI K C "folds" "Saying.folds" fi)(bC:mg "len"=none)(aK:mg "isinstance"=none)(VB:mg "Fold"=some (.ref De))(fx:Fx K c)(kf:∀t,PySem.W.kitOne K (.ref (c.of t)) (.ref De)=some (isF t))(G:∀t,aJ P w K mg base (c.of t) "laid_out" 2 ["self"] (mG c t)):aJ P w K mg base C "folds" 3 ["self"] (nQ c t):=by
 refine aR T vL (λ_ _ _ _ _ _=>L2.ar1 λ_=>rfl) ?_ ?_
 .walk_at "i1"
 walk_at "i2";obtain⟨a,rfl,oa,ht,q⟩:=h;have nd:=vL.nd;obtain⟨dx,fs,ea,nf⟩:=oa.cls;refine⟨_,(ah (av (aH bR bC (aa (fD (bV (bo (k:=2) (pv 0) (hr.mono (by omega)))) dS (λ_ _ _ _=>(DS (gM (aH (GH (K:=K) rfl) aK (aa (pv 0) (aa (bH (v:=V.ref De) rfl VB rfl) af)))))) (λ_ _ _ _=>(pv 0))) af)))),?_⟩;dsimp only[Tp,Ws,tC,So,gg,nG];refine il ?_;refine⟨_,rfl,a,_,_,_,_,_,rfl,ea,nf _ (by decide+kernel),G t,a,rfl,oa,ht,λl us H1 s1 hl el ou=>⟨l,rfl,⟨_,Nq.of el⟩,?_⟩⟩;have lu:=ou.len;have lp:=dn t;refine Kl (K:=K) (t.post.map isF) (by rw[g6,lu]) (λl' H'=>l'=l/\H'=H1) (λR k=>k l H1 ⟨rfl,rfl⟩) (λl' H' z=>by obtain⟨rfl,rfl⟩:=z;exact⟨el,aC.refl _⟩) (by omega) (λl' H0 i v H2 N z hv s2 hN=>?_) (λi v H2 N hv s2 hN=>⟨_,rfl,hN _ (aC.refl _)⟩) (λD ys H2 s2 hD eD ly=>?_)
 .obtain⟨rfl,rfl⟩:=z;obtain⟨x,hx,b,rfl,ob⟩:=(ou.imp (N0.to (Kp.of s2))).get i v hv;have e:(t.post.map isF).getD i false=isF x:=by rw[C5,y4,hx];rfl
  rw[e]at hN;exact⟨_,rfl,_,_,_,_,_,rfl,(λu z=>z),fx.ty ob,kf x,_,rfl,hN _ (aC.refl _)⟩
 .refine⟨_,_,rfl,.inl ⟨_,Nq.of eD,rfl⟩,?_⟩;rw[ly];exact q _ (s1.trans s2)
end
inductive pC(C:Addr)(vs:List V)(H:Hp)(Q:VK)(E:XK):Prop
 | mk (a:Addr) (Np:List (Key×V)) (ks:List Str):vs=[.ref a]->Ze C H a Np->Np.map (·.1)=ks.map Sum.inr->ks≠[]->ks.length<=60->(ks.map (·.length)).sum+ks.length<=1000->(∀ss H',aC H H'->List.Perm ss ks->PyProof.Rows.sortedS ss=true->Q (.str (Txt.join " " ss)) H')->pC C vs H Q E
section
variable{P:Program}{w:World}{K:W.Frag}{mg:Str->Option Value}{base:Heap}
theorem yV:ao ["self"] ["self"] (ai ft):=L2.fsc
theorem BD(T:aI K C "names" "Desk.names" ft)(n:bh K C "kept")(uq:mg "sorted"=none):aJ P w K mg base C "names" 2 ["self"] (pC C):=by
 refine aR T yV (λ_ _ _ _ _ _=>ar1 λ_=>rfl) ?_ ?_
 .walk_at "i1"
 walk_at "i2";obtain⟨a,Np,ks,rfl,⟨dx,d,e1,e2⟩,hk,ne,few,small,q⟩:=h;have nd:=yV.nd;have hu:=j7 (A9 _ 64) hr.units;refine⟨_,(ah (av (cI (aB (QV hu) (dw (pv 0) rfl) zq (aE _)) az (bx A4 K8 K9 rR az (aa (aH (vd rfl) uq (aa (dw (pv 0) rfl) af)) af))))),?_⟩;have lk:List.lookup ("kept":Str) [(("kept":Str),V.ref d)]=some (.ref d):=by rw[A0,A5]
 refine⟨_,rfl,a,C,dx,_,_,rfl,e1,T.cl,n,lk,λb hb=>?_⟩;have u1:=au hb (.dK []);refine⟨d,b,Np,rfl,rfl,u1 _ _ e2,ae,?_⟩
 have e0:Np.isEmpty=false:=by
  cases Np with
  | nil =>
   cases ks with
   | nil=>exact absurd rfl ne
   | cons=>cases hk
  | cons=>rfl
 rw[e0];refine⟨_,rfl,bz ?_⟩;refine⟨rfl,_,rfl,a,C,dx,_,_,rfl,u1 _ _ e1,T.cl,n,lk,d,Np,ks,rfl,u1 _ _ e2,hk,few,λD ss hD p so=>?_⟩;refine⟨" ",D,ss,rfl,rfl,Nq.of ae,?_,q ss _ (u1.trans (au hD _)) p so⟩;have es:(ss.map (·.length)).sum=(ks.map (·.length)).sum:=(p.map _).sum_nat;have el:=p.length_eq;rw[es,el];show _+ks.length*1<=16777216;omega
end
theorem W0:(10:Nat)^60<2^1000:=by decide+kernel
theorem Rc{n e:Nat}(he:0<e)(h:n<10^e):(toString n).length<=e:=by
 rw[show toString n=n.repr from rfl];exact(Nat.length_repr_le_iff he).mpr h
theorem Rf{i:Int}(h0:0<=i)(h:i.natAbs<10^60):(toString i).length<=61:=by
 cases i with
 | ofNat n=>exact h8 (Rc (n:=n) (e:=60) (by decide) (by simpa using h)) (by decide)
 | negSucc n=>exact absurd h0 (by omega)
theorem join_one(x:Str):Txt.join "" [x]=x:=by
 first | rfl | simp[Txt.join]
noncomputable def txt(i:Int):Str:=((toString i:String):Str)
theorem Qi{i:Int}(h0:0<=i)(h:i.natAbs<10^60):(txt i).length<=61:=by
 unfold txt;rw[show(((toString i:String):Str))=Str.ofString (toString i) from rfl,ofString_length];exact Rf h0 h
theorem Rb{x:Int}(h:x.natAbs<10^60):x.natAbs.log2<1920:=by
 by_cases e:x.natAbs=0
 .rw[e];decide
 .exact i5 ((Nat.log2_lt e).mpr (LV h W0)) (by decide)
inductive Dv(vs:List V)(H:Hp)(Q:VK)(E:XK):Prop
 | mk (n:Int):vs=[.int n]->0<=n->n.natAbs<10^60->(∀H',aC H H'->Q (.str (txt n)) H')->Dv vs H Q E
abbrev kF:Sp:=Dv
inductive lN(K:W.Frag)(vs:List V)(H:Hp)(Q:VK)(E:XK):Prop
 | mk (a:Addr) (x:Int):vs=[.ref a]->Nv K H a [.int x,.int 1]->0<=x->x.natAbs<10^60->(∀H',aC H H'->Q (.str (txt x)) H')->lN K vs H Q E
theorem at0w(x y:V):OP [x,y] 0=some x:=rfl
theorem at1w(x y:V):OP [x,y] 1=some y:=rfl
section
variable{P:Program}{w:World}{K:W.Frag}{mg:Str->Option Value}{base:Heap}
theorem Sv:ao ["number","pieces","rest"] ["number"] (ai pS):=L2.fsc
theorem ok_fig(T:aA K mg "figures" pS)(oS:mg "str"=none):Def P w K mg base 1 "figures" ["number"] Dv:=by
 refine aY T Sv (λ_ _ _ _ _ _=>L2.ar1 λ_=>rfl) ?_ ?_
 .walk_at "i1"
 walk_at "i2";obtain⟨n,rfl,h0,h1,q⟩:=h;have nd:=Sv.nd
 refine⟨_,(ag (aD (i:=1) (bg af))
  (ag (aD (i:=2) (pv 0))
  (ag (jE z9 (aB SH (pv 2) (aO IM aq aq) (aE _)) Fh)
  (ag (aS (bx b9 g8 g9 aQ (pv 1) (aa (ig xZ oS (aa (pv 2) af)) af)))
  (ag (aS (cp b9 Lu Lv mW (pv 1)))
  (ah (av (bx A4 K8 K9 rR az (aa (pv 1) af))))))))),?_⟩
 refine⟨Mine.z0,λl hl=>⟨_,rfl,?_⟩⟩;refine⟨λm σ H'=>σ=[some (.int n),some (.ref l),some (.int n)]/\H'=upd H l (.lst []),⟨0,rfl,rfl⟩,?_⟩;rintro m σ H' ⟨rfl,rfl⟩
 refine⟨_,rfl,_,_,rfl,rfl,⟨by decide,by decide,by decide⟩,_,_,rfl,rfl,_,rfl,?_⟩;refine kz (λc=>?_) (λc=>?_)
 .exfalso;have c':(10:Int)^(60:Int).toNat<=n:=l9 c;have e:(10:Int)^(60:Int).toNat=((10^60:Nat):Int):=by decide+kernel
  rw[e]at c';have O6:(n.natAbs:Int)<((10^60:Nat):Int):=Int.ofNat_lt.mpr h1;omega
 refine⟨_,rfl,.inl ⟨rfl,_,Nq.of ae⟩,_,rfl,_,rfl,Rb h1,l,[],_,rfl,rfl,ae,(by show 0<sizeLine;decide),?_⟩;refine⟨_,rfl,.inl ⟨rfl,_,Nq.of ae⟩,l,_,rfl,rfl,ae,?_⟩;refine⟨rfl,_,rfl,_,l,[txt n],rfl,rfl,?_,?_,?_⟩
 .exact Nq.of ae
 .have z:=Qi h0 h1;have e:Str.length ("":Str)=0:=by decide+kernel
  show(txt n).length+0+1*Str.length ("":Str)<=16777216;rw[e];omega
 .rw[join_one];refine q _ λb o hb=>?_;have:b≠l:=ak hb hl;rw[aj this,aj this,aj this];exact hb
theorem Qy:ao ["number"] ["number"] (ai gD):=L2.fsc
theorem Fq(T:aA K mg "whole_written" gD)(Hw:Def P w K mg base 1 "figures" ["number"] Dv):Def P w K mg base 2 "whole_written" ["number"] kF:=by
 refine aY T Qy (λ_ _ _ _ _ _=>ar1 λ_=>rfl) ?_ ?_
 .walk_at "i1"
 walk_at "i2";obtain⟨n,rfl,h0,h1,q⟩:=h
 refine⟨_,(ag (aP (aB mB (pv 0) aq (aE _)) (ah eI) aG)
  (ah (av (aN Hw (aa (pv 0) af))))),?_⟩
 refine⟨_,rfl,_,_,rfl,rfl,_,rfl,?_⟩;rw[h7 (show ¬n<0 by omega)];exact bz ⟨_,rfl,n,rfl,h0,h1,q⟩
theorem Fb:ao ["one"] ["one"] (ai pJ):=L2.fsc
theorem Bv(T:aA K mg "written" pJ)(bU:Def P w K mg base 2 "whole_written" ["number"] kF):Def P w K mg base 3 "written" ["one"] (lN K):=by
 refine aY T Fb (λ_ _ _ _ _ _=>ar1 λ_=>rfl) ?_ ?_
 .walk_at "i1"
 walk_at "i2";obtain⟨a,x,rfl,h1,h2,h3,q⟩:=h
 refine⟨_,(ag (aP (aB bf (aL aV (pv 0) aq) aq (aE _)) (ah (av (aN bU (aa (aL aV (pv 0) aq) af)))) aG)
  (ah eI)),?_⟩
 refine⟨_,rfl,_,_,_,_,rfl,rfl,h1,at1w _ _,rfl,_,rfl,?_⟩;rw[j9 (show V.int 1=V.int 1 from rfl)];exact cL ⟨_,rfl,_,_,_,_,rfl,rfl,h1,at0w _ _,x,rfl,h2,h3,q⟩
end
inductive sJ(c:CCs)(C CM:Addr)(vs:List V)(H:Hp)(Q:VK)(E:XK):Prop
 | mk (a b dx d:Addr) (x:Str) (t:Tr) (Np:List (Key×V)):vs=[.ref a,.str x,.ref b]->H a=some (.ins C dx [("kept",.ref d)])->H d=some (.dK Np)->Np.length<=100->Ob c H b t->t.size<=1000->((24<t.size->EC CM E H))->((t.size<=24->∀H1 H',aC H H1->aC (upd H1 d (.dK (putK Np (Sum.inr x) (.ref b)))) H'->Q (.str (txt t.size)) H'))->sJ c C CM vs H Q E
section
variable{P:Program}{w:World}{K:W.Frag}{mg:Str->Option Value}{base:Heap}{c:CCs}
theorem DL:ao ["self","name","saying"] ["self","name","saying"] (ai gm):=L2.fsc
theorem FH(T:aI K C "keep" "Desk.keep" gm)(n:bh K C "kept")(dP:mg "MOST_PARTS"=some (.int 24 tm))(fQ:mg "TooMany"=some (.ref CM))(jK:PySem.W.excIn K CM bmV "ValueError.__new__"=true)(bU:Def P w K mg base 2 "whole_written" ["number"] kF)(G:∀t,aJ P w K mg base (c.of t) "parts" 3 ["self"] (rG c t)):gW P w K mg base C "keep" 4 ["self","name","saying"] (sJ c C CM):=by
 refine oG T DL (λ_ _ _ _ _ _=>ar3 λ_ _ _=>rfl) ?_ ?_
 .walk_at "i1"
 walk_at "i2";obtain⟨a,b,dx,d,x,t,Np,rfl,e1,e2,few,ob,sz,qE,q⟩:=h;have nd:=DL.nd;have hu:=j7 (J0 (show 1<=64 by decide) _) hr.units
 refine⟨_,(ag (aP (aB vX (bo (k:=3) (pv 2) (hr.mono (by omega))) (bH (v:=V.int 24) rfl dP ⟨_,rfl⟩) (aE _)) (ah (lU rfl fQ jK (aa az af))) aG)
  (ag (DR hu (dw (pv 0) rfl) (pv 1) (pv 2) rfl)
  (ah (av (aN bU (aa (bo (k:=3) (pv 2) (hr.mono (by omega))) af)))))),?_⟩
 have lk:List.lookup ("kept":Str) [(("kept":Str),V.ref d)]=some (.ref d):=by rw[A0,A5]
 obtain⟨dx2,fs,ea,nf⟩:=ob.cls;refine⟨_,rfl,b,_,_,_,_,_,rfl,ea,nf _ (by decide+kernel),G t,b,rfl,ob,sz,λH1 s1=>?_⟩;refine⟨_,_,rfl,rfl,_,rfl,?_⟩
 by_cases hs:24<t.size
 .rw[j9 (show(t.size:Int)>24 by omega)];exact cL ⟨by decide,λdc=>qE hs dc H1 s1⟩
 .rw[h7 (show ¬((t.size:Int)>24) by omega)];refine bz ?_;refine⟨_,rfl,_,rfl,a,C,dx,_,_,rfl,s1 _ _ e1,T.cl,n,lk,_,rfl,d,_,rfl,AH.k (k:=Sum.inr x) (s1 _ _ e2) (j7 few (by decide)),?_⟩;have O2:=(ob.to (Kp.of s1)).to (bA (u:=.dK (putK Np (Sum.inr x) (.ref b))) (s1 _ _ e2) rfl);obtain⟨dx3,fs3,ea3,nf3⟩:=O2.cls;refine⟨_,rfl,b,_,_,_,_,_,rfl,ea3,nf3 _ (by decide+kernel),G t,b,rfl,O2,sz,λH3 s3=>?_⟩;exact⟨(t.size:Int),rfl,by omega,j7 (show(t.size:Int).natAbs<=1000 by omega) (by decide),λH4 s4=>q (by omega) H1 H4 s1 (s3.trans s4)⟩
end
noncomputable def Pu(n x y:Int):Bool:=decide (1<=n) && (decide (0<=x) && (decide (x<=n) && (decide (0<=y) && decide (y<=n))))
def Sd(K:W.Frag)(H:Hp)(v:V)(p:Int×Int):Prop:=∃a,v=.ref a/\Nv K H a [.int p.1,.int p.2]
theorem Sd.to(s:aC H H')(h:Sd K H v p):Sd K H' v p:=by
 obtain⟨a,rfl,q⟩:=h;exact⟨a,rfl,q.ts s.ts⟩
inductive sL(K:W.Frag)(vs:List V)(H:Hp)(Q:VK)(E:XK):Prop
 | mk (p:Addr) (n x y:Int):vs=[.ref p]->Nv K H p [.int n,.int x,.int y]->(∀H',aC H H'->Q (.bl (Pu n x y)) H')->sL K vs H Q E
inductive mE(K:W.Frag)(CP:Addr)(vs:List V)(H:Hp)(Q:VK)(E:XK):Prop
 | mk (p:Addr) (n x y:Int):vs=[.ref p]->Nv K H p [.int n,.int x,.int y]->((Pu n x y=false->EC CP E H))->((Pu n x y=true->∀H',aC H H'->Q .non H'))->mE K CP vs H Q E
inductive lO(c:CCs)(K:W.Frag)(CP:Addr)(vs:List V)(H:Hp)(Q:VK)(E:XK):Prop
 | mk (a p:Addr) (t:Tr) (n x y:Int):vs=[.ref a,.ref p]->Ob c H a t->t.size<=1000->Nv K H p [.int n,.int x,.int y]->((Pu n x y=false->EC CP E H))->((Pu n x y=true->∀H',aC H H'->Q (.int (t.worth n x y)) H'))->lO c K CP vs H Q E
inductive xk(vs:List V)(H:Hp)(Q:VK)(E:XK):Prop
 | mk (t:Int):vs=[.int t,.int 1]->Q (.int 1) H->xk vs H Q E
inductive Bh(K:W.Frag)(vs:List V)(H:Hp)(Q:VK)(E:XK):Prop
 | mk (t:Int):vs=[.int t,.int 1]->(∀(v:V)(H':Hp),aC H H'->Sd K H' v (t,1)->Q v H')->Bh K vs H Q E
inductive sH(K:W.Frag)(vs:List V)(H:Hp)(Q:VK)(E:XK):Prop
 | mk (x y:V) (f g:Int×Int):vs=[x,y]->Sd K H x f->Sd K H y g->Bg f.1->Bg f.2->Bg g.1->Bg g.2->Q (.bl (decide (f.1*g.2<g.1*f.2))) H->sH K vs H Q E
inductive rH(CM:Addr)(vs:List V)(H:Hp)(Q:VK)(E:XK):Prop
 | mk (i:Int):vs=[.int i]->((8<i->EC CM E H))->((i<=8->Q .non H))->rH CM vs H Q E
def Hl(c:CCs)(CM:Addr)(vs:List V)(H:Hp)(E:XK)(A:Prop):Prop:=∃(a:Addr)(t:Tr),vs=[.ref a]/\Ob c H a t/\t.size<=900/\(8<t.nf->EC CM E H)/\(t.nf<=8->N6 t/\A)
def xl(c:CCs)(K:W.Frag)(CM:Addr):Sp:=λvs H Q E=>Hl c CM vs H E (∀v H',aC H H'->LfV K H' v->Q v H')
inductive lP(K:W.Frag)(vs:List V)(H:Hp)(Q:VK)(E:XK):Prop
 | mk (v:V):vs=[v]->LfV K H v->(∀l h H',aC H H'->H' l=some (.lst [.ref h])->P7 K H' h->Q (.ref l) H')->lP K vs H Q E
def xb(c:CCs)(K:W.Frag)(CM:Addr):Sp:=λvs H Q E=>Hl c CM vs H E (∀(p:Addr)(vl vp vt:V)(H':Hp),aC H H'->H' p=some (.tup [vl,vp,vt])->Sd K H' vl (0,1)->Q (.ref p) H')
def Dx(c:CCs)(CM:Addr):Sp:=λvs H Q E=>Hl c CM vs H E (∀(p:Addr)(vp:V)(H':Hp),aC H H'->H' p=some (.tup [.str "less",vp])->Q (.ref p) H')
theorem Og{x:Int}(h:x.natAbs<4):Bg x:=Ak (n:=2) h (by decide)
noncomputable abbrev ptN0:List Str:=["thing","n"]
noncomputable def RX(s:Stmt):Expr:=match s with
 | .If (.UnaryOp _ (.Call _ [e] _ _) _) _ _ _=>e
 | _=>.Constant .none 0 ⟨0,0,0,0⟩
theorem Ki{H:Hp}{l:Addr}{is:List Int}(g:Int->V)(sq:Nv K H l (is.map V.int))(hx:is.length<=1000)
  (hs:∀(i:Int) H' N,aC H H'->(∀NB,aC H' NB->N (g i) NB)->te (some (.int i)::bI js σ) H' N)
  (hd:∀D H',aC H H'->H D=none->H' D=some (.lst (is.map g))->Q (.ref D) H'):jo (λ_ H R=>R (ZY K l) H) qu te js σ H Q:=by
 intro D hD;refine⟨λi m H'=>m=is.length-i/\i<=is.length/\aC H H'/\H' D=some (.lst ((is.take i).map g)),⟨is.length,rfl,z5 _,au hD _,ae⟩,?_⟩;rintro i m H2 ⟨rfl,hi,s2,eD⟩
 have Qt:=sq.ts s2.ts
 by_cases Ny:i<is.length
 .have h1:(is.map V.int)[i]?=some (.int is[i]):=by rw[y4,g0 Ny];rfl
  refine .inr ⟨⟨_,_,Qt,h1⟩,λv H3 y=>?_⟩;obtain⟨rfl,y⟩:=y;have hv:=y _ Qt;rw[h1]at hv;cases hv
  refine jn ?_;refine hs _ _ _ s2 λH4 s4=>?_;refine⟨_,s4 _ _ eD,j7 (show _<=1000 by rw[g6,F5];omega) (by decide),is.length-(i+1),by omega,rfl,Ny,bP (s2.trans s4) hD _,?_⟩;rw[ae,C9,g0 Ny,x9];rfl
 .have ei:i=is.length:=by omega
  subst ei;rw[D7]at eD;exact .inl ⟨⟨_,Qt,by simp⟩,hd D H2 s2 hD eD⟩
section
variable{P:Program}{w:World}{K:W.Frag}{mg:Str->Option Value}{base:Heap}{c:CCs}
theorem FI(T:aA K mg "is_point" iD)(aK:mg "isinstance"=none)(eM:mg "tuple"=none)(bC:mg "len"=none)(oV:mg "all"=none)(CW:Def P w K mg base 1 "is_whole" ["thing"] yF):Def P w K mg base 2 "is_point" ["thing"] (sL K):=by
 refine aY T qG (λ_ _ _ _ _ _=>ar1 λ_=>rfl) ?_ ?_
 .walk_at "i1"
 walk_at "i2";obtain⟨p,n,x,y,rfl,e,q⟩:=h;have nd:=qG.nd
 have ex1:∃te,PE (bM CX0 P w K mg base ptN0 "is_point" (ai iD) f cdv A outer s H E).nox (RX ((aZ iD).getD 1 (.Pass ⟨0,0,0,0⟩))) te/\∀(Q':VK)(o1:Option V),(∀l H',aC H H'->H' l=some (.lst [.bl true,.bl true,.bl true])->Q' (.ref l) H')->te [some (.ref p),o1] H Q':=by
  refine⟨_,(fD (IA (pv 0)) dS (λ_ _ _ _=>eJ) (λ_ _ _ _=>(aN CW (aa (pv 0) af)))),?_⟩;intro Q' o1 fin;refine il ?_;refine⟨_,rfl,p,rfl,⟨_,e⟩,?_⟩;refine Ki (K:=K) (is:=[n,x,y]) (λ_=>.bl true) e (by show 3<=1000;decide) (λi H' N s1 hN=>?_) (λD H' s1 hD eD=>fin D H' s1 eD);exact⟨_,rfl,i,rfl,hN _ (aC.refl _)⟩
 obtain⟨t1,ht1,ZA⟩:=ex1
 refine⟨_,ag (aP (PW.pt (vR (mQ (gM (aH GG aK (aa (pv 0) (aa (lW (v:=V.ty "tuple") rfl eM (by decide+kernel) rfl) af))))) (pW (aB vW (aH bR bC (aa (pv 0) af)) aq (aE _))))) (ah (av oC)) aG) (ag (aP (mQ (gM (aH (uk rfl) oV (aa ht1 af)))) (ah (av oC)) aG) (ag (aD (i:=1) (aL aV (pv 0) aq))
  (ah (av (pZ (cZ SH (pv 1) aq (aE _)) (pZ (tM qK qK aq (aL aV (pv 0) aq) (pv 1)) (mT (tM qK qK aq (aL aV (pv 0) aq) (pv 1))))))))),?_⟩
 refine⟨_,rfl,_,_,_,_,true,rfl,(λ_ h=>h),e,lj,_,rfl,?_⟩;refine bz ⟨_,rfl,_,3,rfl,.inr ⟨_,e,rfl⟩,rfl,_,rfl,?_⟩;refine JS rfl ?_;refine ZA _ _ λl H1 s1 el=>?_;have e1:=e.ts s1.ts;have q1:=q _ s1;unfold Pu at q1;refine⟨l,[true,true,true],rfl,Nq.of el,_,rfl,bz ?_⟩;refine⟨_,rfl,_,_,_,_,rfl,rfl,e1,rfl,?_⟩;refine⟨_,rfl,_,_,rfl,rfl,_,rfl,kz (λc=>?_) (λc=>?_)⟩
 rotate_left
 .rw[show decide (1<=n)=false from Le.mpr c,E7]at q1;exact q1
 rw[show decide (1<=n)=true from c,F4]at q1;refine⟨_,rfl,_,_,_,_,rfl,rfl,e1,rfl,_,_,rfl,rfl,_,rfl,kz (λc=>?_) (λc=>?_)⟩
 rotate_left
 .rw[show decide (0<=x)=false from Le.mpr c,E7]at q1;exact⟨_,rfl,bz q1⟩
 rw[show decide (0<=x)=true from c,F4]at q1;refine⟨_,rfl,_,_,rfl,rfl,_,rfl,kz (λc=>?_) (λc=>?_)⟩
 rotate_left
 .rw[show decide (x<=n)=false from Le.mpr c,E7]at q1;exact q1
 rw[show decide (x<=n)=true from c,F4]at q1;refine⟨_,rfl,_,_,_,_,rfl,rfl,e1,rfl,_,_,rfl,rfl,_,rfl,kz (λc=>?_) (λc=>?_)⟩
 rotate_left
 .rw[show decide (0<=y)=false from Le.mpr c,E7]at q1;exact q1
 rw[show decide (0<=y)=true from c,F4]at q1;exact⟨_,rfl,_,_,rfl,rfl,q1⟩
theorem zC(T:aA K mg "must_be_point" gH)(ql:mg "NoPoint"=some (.ref CP))(GV:PySem.W.excIn K CP bmV "ValueError.__new__"=true)(CY:Def P w K mg base 2 "is_point" ["thing"] (sL K)):cq P w K mg base 3 "must_be_point" ["thing"] (mE K CP):=by
 refine cm T pI (λ_ _ _ _ _ _=>ar1 λ_=>rfl) ?_ ?_
 .walk_at "i1"
 walk_at "i2";obtain⟨p,n,x,y,rfl,e,q1,q2⟩:=h;refine⟨_,(ah (aP (mQ (gM (aN CY (aa (pv 0) af)))) (ah (lU rfl ql GV (aa az af))) aG)),?_⟩;refine⟨_,rfl,p,n,x,y,rfl,e,λH1 s1=>⟨_,rfl,?_⟩⟩;cases z:Pu n x y with
 | false=>exact cL ⟨by show 1<=sizeLine;decide,λdc=>q1 z dc H1 s1⟩
 | true=>exact bz (q2 z H1 s1)
theorem Bw(T:aA K mg "worth" xt)(rD:cq P w K mg base 3 "must_be_point" ["thing"] (mE K CP))(M:∀t,aJ P w K mg base (c.of t) "out_of" 3 ["self","n","x","y"] (HZ c t)):cq P w K mg base 4 "worth" ["saying","point"] (lO c K CP):=by
 refine cm T Ia (λ_ _ _ _ _ _=>ar2 λ_ _=>rfl) ?_ ?_
 .walk_at "i1"
 walk_at "i2";obtain⟨a,p,t,n,x,y,rfl,o,z,g,q1,q2⟩:=h
 refine⟨_,(ag (aS (bE rD (hr.mono (by decide)) rfl (aa (pv 1) af)))
  (ah (av (kW (k:=3) (pv 0) (hr.mono (by omega)) (aa (aL aV (pv 1) aq) (aa (aL aV (pv 1) aq) (aa (aL aV (pv 1) aq) af))))))),?_⟩
 refine⟨_,rfl,p,n,x,y,rfl,g,q1,λb H1 s1=>?_⟩;have o1:=o.to (Kp.of s1);have e1:=g.ts s1.ts;obtain⟨dx,fs,ea,nf⟩:=o1.cls;exact⟨_,rfl,a,_,_,_,_,_,rfl,ea,nf _ (by decide+kernel),M t,_,rfl,_,_,_,_,rfl,rfl,e1,rfl,_,rfl,_,_,_,_,rfl,rfl,e1,rfl,_,rfl,_,_,_,_,rfl,rfl,e1,rfl,a,n,x,y,rfl,o1,z,λH2 s2=>q2 b _ (s1.trans s2)⟩
theorem Jr(T:aA K mg "common_factor" gK)(ur:mg "abs"=none):Def P w K mg base 1 "common_factor" ["one","other"] xk:=by
 refine aY T jx (λ_ _ _ _ _ _=>ar2 λ_ _=>rfl) ?_ ?_
 .walk_at "i1"
 walk_at "i2";obtain⟨t,rfl,q⟩:=h;have nd:=jx.nd
 refine⟨_,(ag (aD (i:=2) (aH uo ur (aa (pv 0) af)))
  (ag (aD (i:=3) (aH uo ur (aa (pv 1) af)))
  (ag (jE z9 (aB vW (pv 3) aq (aE _)) (ag (aD (i:=4) (aO QU (pv 2) (pv 3)))
  (ag (aD (i:=2) (pv 3))
  (ah (aD (i:=3) (pv 4))))))
  (ah (av (pv 2)))))),?_⟩
 refine⟨_,rfl,_,rfl,_,rfl,_,rfl,?_⟩;refine⟨λm σ H'=>H'=H/\∃o,((m=1/\∃g,σ=[some (.int t),some (.int 1),some (.int g),some (.int 1),o])\/(m=0/\σ=[some (.int t),some (.int 1),some (.int 1),some (.int 0),o])),⟨1,rfl,_,.inl ⟨rfl,_,rfl⟩⟩,?_⟩;rintro m σ H' ⟨rfl,o,h⟩
 rcases h with⟨rfl,g,rfl⟩ | ⟨rfl,rfl⟩
 .refine⟨_,rfl,rfl,_,rfl,cL ⟨_,(λσ' H' z=>z),?_⟩⟩;refine⟨_,rfl,_,rfl,_,_,rfl,rfl,(show(1:Int)≠0 by decide),_,rfl,_,rfl,?_⟩;have e:g.fmod 1=0:=Int.fmod_one g;refine⟨0,by decide,rfl,some (.int (g.fmod 1)),.inr ⟨rfl,?_⟩⟩;show[some (V.int t),some (.int 1),some (.int 1),some (.int (g.fmod 1)),some (.int (g.fmod 1))]=_;rw[e]
 .exact⟨_,rfl,rfl,_,rfl,bz ⟨_,rfl,q⟩⟩
theorem ok_fr61(T:aA K mg "fraction" mM)(rF:Def P w K mg base 1 "common_factor" ["one","other"] xk):Def P w K mg base 2 "fraction" ["top","bottom"] (Bh K):=by
 refine aY T qI (λ_ _ _ _ _ _=>ar2 λ_ _=>rfl) ?_ ?_
 .walk_at "i1"
 walk_at "i2";obtain⟨t,rfl,q⟩:=h;have nd:=qI.nd
 refine⟨_,(ag (aP (aB bf (pv 1) aq (aE _)) (ah eI) aG)
  (ag (aD (i:=2) (aN rF (aa (pv 0) (aa (pv 1) af))))
  (ag (aP (aB mB (pv 1) aq (aE _)) (ah eI) aG)
  (ah (av (bu (aa (aO jF (pv 0) (pv 2)) (aa (aO jF (pv 1) (pv 2)) af)))))))),?_⟩
 refine⟨_,rfl,rfl,_,rfl,bz ⟨_,rfl,_,rfl,t,rfl,_,rfl,_,_,rfl,rfl,_,rfl,bz ?_⟩⟩;have d1:AI t 1:=Gy (by decide) (Og (by decide));have d2:AI 1 1:=Gy (by decide) (Og (by decide));refine⟨_,rfl,_,rfl,_,_,rfl,rfl,d1,_,rfl,_,rfl,_,_,rfl,rfl,d2,Mine.z2,λp hp=>?_⟩;refine q _ _ (au hp _) ⟨p,rfl,Nv.of ?_⟩;rw[ae];show some (HO.tup [V.int (t.fdiv 1),V.int ((1:Int).fdiv 1)])=_;rw[Int.fdiv_one];rfl
theorem FE(T:aA K mg "less" Bo):Def P w K mg base 1 "less" ["one","other"] (sH K):=by
 refine aY T Qx (λ_ _ _ _ _ _=>ar2 λ_ _=>rfl) ?_ ?_
 .walk_at "i1"
 walk_at "i2";obtain⟨x,y,f,g,rfl,⟨a,rfl,sa⟩,⟨c,rfl,sc⟩,b1,b2,b3,b4,k⟩:=h;refine⟨_,(ah (av (cZ mB (aO ck (aL aV (pv 0) aq) (aL aV (pv 1) aq)) (aO ck (aL aV (pv 1) aq) (aL aV (pv 0) aq)) (aE _)))),?_⟩;exact⟨_,rfl,_,_,_,_,rfl,rfl,sa,rfl,_,rfl,_,_,_,_,rfl,rfl,sc,rfl,_,_,rfl,rfl,kY b1 b4,_,rfl,_,_,_,_,rfl,rfl,sc,rfl,_,rfl,_,_,_,_,rfl,rfl,sa,rfl,_,_,rfl,rfl,kY b3 b2,_,_,rfl,rfl,k⟩
theorem Jq(T:aA K mg "must_be_few" iW)(kq:mg "MOST_FOLDS"=some (.int 8 tm))(fQ:mg "TooMany"=some (.ref CM))(jK:PySem.W.excIn K CM bmV "ValueError.__new__"=true):cq P w K mg base 1 "must_be_few" ["folds"] (rH CM):=by
 refine cm T sY (λ_ _ _ _ _ _=>ar1 λ_=>rfl) ?_ ?_
 .walk_at "i1"
 walk_at "i2";obtain⟨i,rfl,q1,q2⟩:=h;refine⟨_,(ah (aP (aB vX (pv 0) (bH (v:=V.int 8) rfl kq ⟨_,rfl⟩) (aE _)) (ah (lU rfl fQ jK (aa az af))) aG)),?_⟩;refine⟨_,rfl,_,_,rfl,rfl,_,rfl,kz (λc=>?_) (λc=>?_)⟩
 .exact⟨by show 1<=sizeLine;decide,λdc=>q1 (l9 c) dc H (aC.refl _)⟩
 .exact q2 (by have c:¬(i>8):=λz=>c (j9 z);omega)
theorem Jv(T:aA K mg "cutting" pU)(M:∀t,aJ P w K mg base (c.of t) "folds" 3 ["self"] (nQ c t))(ji:cq P w K mg base 1 "must_be_few" ["folds"] (rH CM))(uG:Def P w K mg base 1 "square" [] (Dq K))(jN:Def P w K mg base 3 "rows_of" ["saying"] (nO c))(Ho:Def P w K mg base 5 "tree_on" ["hull","rows"] (wR K)):cq P w K mg base 6 "cutting" ["saying"] (xl c K CM):=by
 refine cm T Bm (λ_ _ _ _ _ _=>ar1 λ_=>rfl) ?_ ?_
 .walk_at "i1"
 walk_at "i2";obtain⟨a,t,rfl,oa,sz,q1,q2⟩:=h;obtain⟨dx,fs,ea,nf⟩:=oa.cls
 refine⟨_,(ag (aS (bE ji (hr.mono (by decide)) rfl (aa (bo (k:=3) (pv 0) (hr.mono (by omega))) af)))
  (ah (av (aN Ho (aa (DU uG (hr.mono (by decide)) rfl) (aa (aN jN (aa (pv 0) af)) af)))))),?_⟩
 refine⟨_,rfl,a,_,_,_,_,_,rfl,ea,nf _ (by decide+kernel),M t,a,rfl,oa,by omega,λH1 s1=>⟨_,rfl,λz=>(q1 (by omega)).to s1,λz=>?_⟩⟩;obtain⟨ch,k⟩:=q2 (by omega);refine⟨rfl,λlh us H2 s2 hl el da=>?_⟩;have OT:=s1.trans s2;refine⟨_,rfl,a,t,rfl,oa.to (Kp.of OT),by omega,λl rs H3 s3 hl3 e3 al=>?_⟩;obtain⟨g1,g2⟩:=ch.rows;have ll:=al.len;have lt:t.rows.length<=t.size:=by have:=kT t [];rw[D3,MC]at this;exact this
 exact⟨lh,l,rs,t.rows,rfl,e3,al,g1,by omega,⟨us,s3 _ _ el,da.ts s3.ts⟩,λv H4 s4 lf=>k v H4 ((OT.trans s3).trans s4) lf⟩
theorem BG(T:aA K mg "hulls_of" mL)(uG:Def P w K mg base 1 "square" [] (Dq K)):Def P w K mg base 2 "hulls_of" ["tree"] (lP K):=by
 refine aY T qH (λ_ _ _ _ _ _=>ar1 λ_=>rfl) ?_ ?_
 .walk_at "i1"
 walk_at "i2";obtain⟨v,rfl,lf,q⟩:=h;have nd:=qH.nd
 refine⟨_,(ag (aD (i:=1) (bg af))
  (ag (aD (i:=2) (bg (aa (pv 0) af)))
  (ag (aD (i:=3) (bg (aa (DU uG (hr.mono (by decide)) rfl) af)))
  (ag (jE z9 (kU (pv 2) (λ_=>rfl)) (ag (aD (i:=4) (cp b9 u7 u9 cU (pv 2)))
  (ag (aD (i:=5) (cp b9 u7 u9 cU (pv 3)))
  (ah (aP (aB bf (aL aV (pv 4) aq) az (aE _)) (ah (aS (bx b9 g8 g9 aQ (pv 1) (aa (pv 5) af)))) (ag eI
  (ag eI
  (ah eI))))))))
  (ah (av (pv 1))))))),?_⟩
 refine⟨Mine.z0,λf hf=>?_⟩;refine⟨_,rfl,Mine.z1,λlt Ny=>?_⟩;refine⟨rfl,λl0 us0 H0 s0 f0 hl0 da0=>⟨Mine.z1,λlh SX=>?_⟩⟩;have u1:=au hf (.lst []);have u2:=au Ny (.lst [v]);have u3:=au SX (.lst [.ref l0]);have ef0:H0 f=some (.lst []):=s0 _ _ (u2 _ _ ae);have et0:H0 lt=some (.lst [v]):=s0 _ _ ae;have n1:f≠lt:=λz=>by subst z;rw[ae]at Ny;cases Ny
 have n2:f≠lh:=λz=>by subst z;rw[ef0]at SX;cases SX
 have n3:lt≠lh:=λz=>by subst z;rw[et0]at SX;cases SX
 have n4:l0≠lh:=λz=>by subst z;rw[hl0]at SX;cases SX
 have Zr:=u1.trans (u2.trans s0);have Hlt:H lt=none:=u1.free Ny;have Hlh:H lh=none:=Zr.free SX;have n5:l0≠f:=λz=>by subst z;rw[u2 _ _ ae]at f0;cases f0
 have n6:l0≠lt:=λz=>by subst z;rw[ae]at f0;cases f0
 refine⟨λm σ H'=>∃(o4 o5 o6:Option V),σ=[some v,some (.ref f),some (.ref lt),some (.ref lh),o4,o5,o6]/\aC H H'/\((m=1/\H'=upd H0 lh (.lst [.ref l0]))\/(m=0/\H' f=some (.lst [.ref l0])/\H' lt=some (.lst [])/\P7 K H' l0)),⟨1,_,_,_,rfl,Zr.trans u3,.inl ⟨rfl,rfl⟩⟩,?_⟩;rintro m σ H' ⟨o4,o5,o6,rfl,sm,h⟩
 rcases h with⟨rfl,rfl⟩ | ⟨rfl,e1,e2,e3⟩
 .have ZO:=u3 _ _ et0;refine⟨_,rfl,_,.inl ⟨_,Nq.of ZO,rfl⟩,cL ⟨_,(λσ' H' z=>z),?_⟩⟩;refine⟨_,rfl,.inl ⟨rfl,_,Nq.of ZO⟩,lt,[v],v,rfl,rfl,ZO,rfl,?_⟩;have eh1:upd (upd H0 lh (.lst [.ref l0])) lt (.lst []) lh=some (.lst [.ref l0]):=by rw[aj (B8 n3),ae]
  refine⟨_,rfl,.inl ⟨rfl,_,Nq.of eh1⟩,lh,[.ref l0],.ref l0,rfl,rfl,eh1,rfl,?_⟩;have Qt:aC H (upd (upd (upd H0 lh (.lst [.ref l0])) lt (.lst [])) lh (.lst [])):=bP (bP (Zr.trans u3) Hlt _) Hlh _;have ef2:upd (upd (upd H0 lh (.lst [.ref l0])) lt (.lst [])) lh (.lst []) f=some (.lst []):=by rw[aj n2,aj n1,aj n2];exact ef0
  have g:OG H0 (upd (upd (upd H0 lh (.lst [.ref l0])) lt (.lst [])) lh (.lst [])):=(u3.ts.trans (kC ZO)).trans (kC eh1);obtain⟨a,rfl,sa⟩:=lf;refine⟨_,rfl,_,_,_,_,rfl,rfl,(sa.ts Zr.ts).ts g,rfl,rfl,_,rfl,ite_yes rfl ?_⟩;refine⟨_,rfl,.inl ⟨rfl,_,Nq.of ef2⟩,_,rfl,f,[],_,rfl,rfl,ef2,(by show 0<sizeLine;decide),?_⟩;refine⟨0,by decide,_,_,_,rfl,bP Qt hf _,.inr ⟨rfl,ae,?_,us0,?_,?_⟩⟩
  .rw[aj (B8 n1),aj n3,ae];rfl
  .rw[aj n5,aj n4,aj n6,aj n4];exact hl0
  .exact(da0.ts g).ts (kC ef2)
 .exact⟨_,rfl,_,.inl ⟨_,Nq.of e2,rfl⟩,bz ⟨_,rfl,q f l0 H' sm e1 e3⟩⟩
theorem WM{p:T3}(h:Hu.sqH[i]?=some p):p.u=1/\0<=p.v/\p.v<=1/\0<=p.w/\p.w<=1/\(i=0->p.v=0):=by
 match i,h with
 | 0,h=>cases h;decide
 | 1,h=>cases h;decide
 | 2,h=>cases h;decide
 | 3,h=>cases h;decide
 | n+4,h=>cases h
theorem ok_lw61(T:aA K mg "least_worth" iX)(qr:cq P w K mg base 6 "cutting" ["saying"] (xl c K CM))(nv:Def P w K mg base 2 "hulls_of" ["tree"] (lP K))(ym:cq P w K mg base 4 "worth" ["saying","point"] (lO c K CP))(CZ:Def P w K mg base 2 "fraction" ["top","bottom"] (Bh K))(VH:Def P w K mg base 1 "less" ["one","other"] (sH K)):cq P w K mg base 7 "least_worth" ["saying"] (xb c K CM):=by
 refine cm T kI (λ_ _ _ _ _ _=>ar1 λ_=>rfl) ?_ ?_
 .walk_at "i1"
 walk_at "i2";obtain⟨x,t,rfl,oa,sz,q1,q2⟩:=h;have nd:=kI.nd
 refine⟨_,(ag (aD (i:=1) (bE qr (hr.mono (by decide)) rfl (aa (pv 0) af)))
  (ag (aD (i:=2) cf)
  (ag (aD (i:=3) cf)
  (ag (dj Lh rfl (bV (aN nv (aa (pv 1) af))) (aX (i:=4)) (ah (dj Lh rfl (bV (pv 4)) (aX (i:=5)) (ag (aD (i:=6) (aN CZ (aa (bE ym (hr.mono (by decide)) rfl (aa (pv 0) (aa (pv 5) af))) (aa (aL aV (pv 5) aq) af))))
  (ah (aP (PW.pt (vR (aB tN (pv 2) cf (aE _)) (pW (gM (aN VH (aa (pv 6) (aa (pv 2) af))))))) (ag (aD (i:=2) (pv 6))
  (ah (aD (i:=3) (pv 5)))) aG))))))
  (ah (av (bu (aa (pv 2) (aa (pv 3) (aa (pv 1) af)))))))))),?_⟩
 refine⟨_,rfl,x,t,rfl,oa,sz,q1,λn8=>?_⟩;obtain⟨ch,k⟩:=q2 n8;refine⟨ch,λvt H1 s1 lf=>?_⟩;refine⟨_,rfl,vt,rfl,lf,λl g H2 s2 el gq=>?_⟩;have OT:=s1.trans s2;obtain⟨UO,eg,dg⟩:=gq;have gl:=wL dg;refine⟨l,rfl,⟨_,Nq.of el⟩,?_⟩;refine dY (xs:=[V.ref g]) (λi σ H'=>aC H2 H'/\∃(ol op:V)(o4 o5 o6:Option V),σ=[some (.ref x),some vt,some ol,some op,o4,o5,o6]/\(i=0/\ol=.non\/i=1/\Sd K H' ol (0,1))) ⟨aC.refl _,_,_,_,_,_,rfl,.inl ⟨rfl,rfl⟩⟩ (λi σ H' _ z=>Nq.of (z.1 _ _ el)) (λi v σ H' hv z=>?_) (λσ H' z=>?_)
 .obtain⟨s3,ol,op,o4,o5,o6,rfl,be⟩:=z;rcases be with⟨rfl,rfl⟩ | ⟨rfl,_⟩
  rotate_left
  .cases hv
  cases hv
  have eg3:=s3 _ _ eg;refine⟨_,rfl,g,rfl,⟨UO,Nq.of eg3⟩,?_⟩;refine dY (xs:=UO) (λj σ NB=>aC H' NB/\∃(ol op:V)(o5 o6:Option V),σ=[some (.ref x),some vt,some ol,some op,some (.ref g),o5,o6]/\(j=0/\ol=.non\/0<j/\Sd K NB ol (0,1))) ⟨aC.refl _,_,_,_,_,rfl,.inl ⟨rfl,rfl⟩⟩ (λj σ NB _ z=>Nq.of (z.1 _ _ eg3)) (λj v σ NB hv z=>?_) (λσ NB z=>?_)
  .obtain⟨s4,ol,op,o5,o6,rfl,be⟩:=z;have s34:=s3.trans s4;obtain⟨p,hpj,dpv⟩:=HS (dg.ts s34.ts) hv;obtain⟨pa,rfl,sp⟩:=kE dpv;obtain⟨w1,w2,w3,w4,w5,w6⟩:=WM hpj
   have pt:Pu p.u p.v p.w=true:=by
    unfold Pu;rw[w1];simp[w2,w3,w4,w5]
   refine⟨_,rfl,_,rfl,x,pa,t,p.u,p.v,p.w,rfl,oa.to (Kp.of (OT.trans s34)),by omega,sp,(λz=>by rw[pt]at z;cases z),λ_ H5 s5=>?_⟩
   rw[ch.worth];have sp5:=sp.ts s5.ts;rw[w1]at sp5;refine⟨_,rfl,_,_,_,_,rfl,rfl,sp5,rfl,p.v,rfl,λvf H6 s6 fv=>?_⟩;have O1:=s5.trans s6;rcases be with⟨rfl,rfl⟩ | ⟨j0,fl⟩
   .rw[w6 rfl]at fv;refine⟨_,rfl,rfl,_,rfl,cL (cL ?_)⟩;exact⟨_,rfl,_,rfl,s4.trans O1,vf,_,_,_,rfl,.inr ⟨by decide,fv⟩⟩
   .obtain⟨la,rfl,sl⟩:=id fl;refine⟨_,rfl,rfl,_,rfl,bz ?_⟩;refine⟨_,rfl,_,rfl,vf,.ref la,(p.v,1),(0,1),rfl,fv,fl.to O1,Og (by show p.v.natAbs<4;omega),Og (show(1:Int).natAbs<4 by decide),Og (show(0:Int).natAbs<4 by decide),Og (show(1:Int).natAbs<4 by decide),_,rfl,?_⟩;rw[h7 (show ¬p.v*1<0*1 by omega)];exact bz ⟨s4.trans O1,_,_,_,_,rfl,.inr ⟨by omega,fl.to O1⟩⟩
  .obtain⟨s4,ol,op,o5,o6,rfl,be⟩:=z;refine⟨s3.trans s4,ol,op,_,_,_,rfl,.inr ⟨rfl,?_⟩⟩;rcases be with⟨z,_⟩ | ⟨_,z⟩
   .rw[gl]at z;cases z
   .exact z
 .obtain⟨s3,ol,op,o4,o5,o6,rfl,be⟩:=z;rcases be with⟨z,_⟩ | ⟨_,fl⟩
  .cases z
  .refine⟨_,rfl,_,rfl,_,rfl,Mine.z3,λp9 hp9=>?_⟩;have u:=au hp9 (.tup [ol,op,vt]);exact k p9 ol op vt _ ((OT.trans s3).trans u) ae (fl.to u)
theorem Jy(T:aA K mg "always" tJ)(yh:nh K mg "WHOLE" [1,1])(dZ:cq P w K mg base 7 "least_worth" ["saying"] (xb c K CM)):cq P w K mg base 8 "always" ["saying"] (Dx c CM):=by
 refine cm T vP (λ_ _ _ _ _ _=>ar1 λ_=>rfl) ?_ ?_
 .walk_at "i1"
 walk_at "i2";obtain⟨x,t,rfl,oa,sz,q1,q2⟩:=h;have nd:=vP.nd;have hu:=hr.units;obtain⟨aWH,R8,sWH⟩:=yh.ex
 refine⟨_,(ag (aD (i:=1) (bE dZ (hr.mono (by decide)) rfl (aa (pv 0) af)))
  (ag (aP (aB (xE hu) (aL aV (pv 1) aq) (bH (v:=V.ref aWH) rfl R8 rfl) (aE _)) (ah eI) aG)
  (ah (av (bu (aa az (aa (aL aV (pv 1) aq) af))))))),?_⟩
 refine⟨_,rfl,x,t,rfl,oa,sz,q1,λn8=>?_⟩;obtain⟨ch,k⟩:=q2 n8;refine⟨ch,λp vl vp vt H1 s1 ep fl=>?_⟩;obtain⟨la,rfl,sl⟩:=fl;have d1:Dat K H1 (.tuple [.int 0,.int 1]) (.ref la):=⟨la,_,rfl,sl,_,_,rfl,rfl,_,_,rfl,rfl,rfl⟩;have d2:Dat K H1 (.tuple [.int 1,.int 1]) (.ref aWH):=⟨aWH,_,rfl,sWH _,_,_,rfl,rfl,_,_,rfl,rfl,rfl⟩;refine⟨_,rfl,_,_,_,_,rfl,rfl,Nv.of ep,rfl,_,_,.inl d1,.inl d2,by decide,by decide,_,rfl,?_⟩;rw[show PyData.eqv (.tuple [.int 0,.int 1]) (.tuple [.int 1,.int 1])=false by decide];refine bz ⟨_,rfl,_,_,_,_,rfl,rfl,Nv.of ep,rfl,Mine.z2,λp2 h2=>?_⟩;exact k p2 vp _ (s1.trans (au h2 _)) ae
end
end Mine
namespace L2
open PySem PySem.Spec PyProof.Rows PySem.W
variable{i:Nat}
section
variable{X:Cx}{elt Nt:Expr}{xs:List Str}{Nw:List Expr}{kk:Nat}{tp pos:Pos}{scope:Scope}{cl:List (Str×Addr)}{wi:TI}{g:TG}{te:TE}{js:List Nat}
theorem Iw(hi:PI X (.Tuple Nw kk tp) Nt wi)(N3:dF X scope js)(hg:∀cl s' H' fp,PG (aU X scope cl (aW X xs js) s' H' fp) (.Tuple Nw kk tp) g)(he:∀cl s' H' fp,PE (aU X scope cl (aW X xs js) s' H' fp) elt te)(hN:X.N.Nodup:=by assumption)(hy:X.N[i]?=some y:=by rfl)(Xw:Loc X.env.scope y:=by walk_at "oi")(Xx:X.fn y=true\/X.env.scope.names.lookup y=some .local:=by walk_at "oi")(UC:swapsWith (.ListComp elt [⟨.Tuple Nw kk tp,Nt,[],0⟩] scope pos) (some (.Name y py)) O0.line X.env=pure true:=by rfl)(hc:X.calm=true:=by rfl)(hk:scope.kind=.function:=by rfl)(Nu:∀y∈scope.names,y.2≠.cell:=by decide+kernel)(Nx:∀y∈scope.names,y.2=.local->scope.names.lookup y.1=some .local:=by decide+kernel)(hf:∀p∈scope.names,p.2=.free->X.env.kindOf p.1=some .cell\/X.env.kindOf p.1=some .free:=by walk_at "kr")(Of:(aW X xs js).Nodup:=by walk_at "kr")(hs:∀x,foldedSetIterable Nt X.env x=pure x:=by intro _;rfl) :
  PS X (.Assign [.Name y py] (.ListComp elt [⟨.Tuple Nw kk tp,Nt,[],0⟩] scope pos) O0) (sj i (pA xs.length wi g te js)):=by
 intro Nn s σ H D I h;obtain⟨cl,e,p1,p2⟩:=ui (oK (js:=js) I λy hy=>hf (y,.free) hy rfl);rw[exec_Assign_Name_used _ _ _ _ UC];refine b6 (Mb (b6 ?_));show wpAny _ _ (do let _ <- comprehension (.ListComp elt [⟨.Tuple Nw kk tp,Nt,[],0⟩] scope pos) scope X.env _ (newList []) false (eval Nt X.env) (some (assign (.Name y py) X.env))) _ _ s
 refine b6 (v8 (E5 (use:=some (assign (.Name y py) X.env)) (Q:=λ_ s'=>SP X Nn D .next s') rfl hs e hk Nx
  (uh hc hi hk Nu p1 p2 N3 Of (hg cl) (he cl) I h λD' C H' s' I' fC hC q=>?_)) (λ_ s' hq=>f6 (f6 hq)) λ_ _ e=>e)
 obtain⟨m,o,es,ep,ho,hd,hr⟩:=hC;obtain⟨f0,f1,f2,f3,f4,f5⟩:=fC
 have Ip:Inv X (Nn++[(C,o)]) σ H' s':=I'.pins_of λp hp=>(D0.mp hp).elim (λz=>I'.pin p (r8 _ z)) λz=>by
  have e:p=(C,o):=by simpa using z
  subst e;exact⟨ho,f0,f1,f2,λv z=>by rw[hd]at z;cases z⟩
 have hg:PG X (.Name y py) (ud i):=aX hN hy Xw Xx;refine Nr (hg _ s' σ H' (.ref D') (.ref D') (λσ' NB=>σ'=σ.set i (some (.ref D'))/\NB=H') Ip rfl ⟨rfl,rfl⟩) λ_ TR q''=>?_;obtain⟨σ'',NB,Zd,e1,e2⟩:=q'';subst e1 e2;have hp:=(Zd.pin (C,o) (by simp)).1;refine⟨m,⟨o,es,ep,hp,hd,hr⟩,λh' sb=>?_⟩;exact⟨_,_,(Zd.unpinned).turned (t':=TR.toks) (λb o hb e=>(sb.2 b hb).trans e) f0 f1 f3 f4 f5,q⟩
end
end L2
namespace Mine
open PySem L2
variable{a:Addr}{n:Nat}
structure B4 where
 a:Int
 b:Int
 c:Int
 l:Int
noncomputable def S9(q:B4):PyData:=.tuple [.int q.a,.int q.b,.int q.c,.int q.l]
noncomputable def sb(p q:T3):B4:=⟨p.w*q.u-p.u*q.w,p.u*q.v-p.v*q.u,p.v*q.w-p.w*q.v,0⟩
noncomputable def V3:List B4:=[⟨0,1,0,0⟩,⟨-1,0,1,0⟩,⟨0,-1,1,0⟩,⟨1,0,0,0⟩,⟨-1,0,1,1⟩]
section
variable{K:W.Frag}{H:Hp}{v:V}{q:B4}
theorem Al(d:Dat K H (S9 q) v):∃a,v=.ref a/\Nv K H a [.int q.a,.int q.b,.int q.c,.int q.l]:=by
 obtain⟨a,xs,rfl,s,x,t,rfl,hx,y,t2,rfl,hy,z,t3,rfl,hz,w,t4,rfl,hw,h4⟩:=d;cases(show x=V.int q.a from hx)
 cases(show y=V.int q.b from hy)
 cases(show z=V.int q.c from hz)
 cases(show w=V.int q.l from hw)
 cases(show t4=[] from h4)
 exact⟨a,rfl,s⟩
theorem S8(s:Nv K H a [.int q.a,.int q.b,.int q.c,.int q.l]):Dat K H (S9 q) (.ref a):=⟨a,_,rfl,s,_,_,rfl,rfl,_,_,rfl,rfl,_,_,rfl,rfl,_,_,rfl,rfl,rfl⟩
end
inductive Dr(vs:List V)(H:Hp)(Q:VK)(E:XK):Prop
 | mk (t:Int):vs=[.int t,.int 1]->Q (.int t) H->Dr vs H Q E
inductive TJ(K:W.Frag)(vs:List V)(H:Hp)(Q:VK)(E:XK):Prop
 | mk (x y p q):vs=[x,y]->Dat K H (NI p) x->Dat K H (NI q) y->Hu.R3 3000 p->Hu.R3 3000 q->(∀t H',aC H H'->Dat K H' (S9 (sb p q)) (.ref t)->Q (.ref t) H')->TJ K vs H Q E
inductive Bj(K:W.Frag)(vs:List V)(H:Hp)(Q:VK)(E:XK):Prop
 | mk (l x):vs=[.ref l,x]->P7 K H l->Dat K H (NI rP) x->(∀l' ws H',aC H H'->H l'=none->H' l'=some (.lst ws)->DatAll K H' (V3.map S9) ws->Q (.ref l') H')->Bj K vs H Q E
inductive TF(K:W.Frag)(vs:List V)(H:Hp)(Q:VK)(E:XK):Prop
 | mk (l ws):vs=[.ref l,.int 1,.int 0]->H l=some (.lst ws)->DatAll K H (V3.map S9) ws->Q (.int 0) H->TF K vs H Q E
inductive TH(K:W.Frag)(vs:List V)(H:Hp)(Q:VK)(E:XK):Prop
 | mk (l lb:Addr) (ws:List V):vs=[.ref l,.ref lb,.int 1]->P7 K H l->H lb=some (.lst ws)->DatAll K H (V3.map S9) ws->(∀(t:Addr)(H':Hp),aC H H'->Q (.ref t) H')->TH K vs H Q E
theorem Cm(h:wi σ H λJ H1=>pA n (λ_ H R=>R J H) g te js σ H1 Q):pA n wi g te js σ H Q:=h
theorem Y0:oP (x::us) none (some 1)=[x]:=by
 unfold oP
 rw[_root_.HT.kS,show _root_.HT.sIx (x::us).length (x::us).length (some 1)=1 from by
  rw[show(some (1:Int))=some ((1:Nat):Int) from rfl,_root_.HT.nZ,k8];omega]
 rfl
theorem yb:∀{h:List T3}{us:List V},DatAll K H (h.map NI) us->cN (λv p=>Dat K H (NI p) v) us h
 | [],_,g=>by cases(show _=([]:List V) from g);exact .nil
 | p::h,us,g=>by
  obtain⟨v,r,rfl,d,g2⟩:=g;exact .cons d (yb g2)
variable{P:Program}{w:World}{K:W.Frag}{mg:Str->Option Value}{base:Heap}
theorem ok_rup(T:aA K mg "round_up" mJ):Def P w K mg base 1 "round_up" ["top","bottom"] Dr:=by
 refine aY T yN (λ_ _ _ _ _ _=>ar2 λ_ _=>rfl) ?_ ?_
 .walk_at "i1"
 walk_at "i2";obtain⟨t,rfl,q⟩:=h;refine⟨_,(ah (av (vT pf (aO jF (vT pf (pv 0)) (pv 1))))),?_⟩;refine⟨_,rfl,_,rfl,_,rfl,_,_,rfl,rfl,Gy (by decide) (Og (by decide)),_,rfl,?_⟩;show Q (.int (-((-t).fdiv 1))) H;rw[show -((-t).fdiv 1)=t by rw[Int.fdiv_one];omega];exact q
theorem ok_sb(T:aA K mg "side_bound" jS):Def P w K mg base 1 "side_bound" ["one","other"] (TJ K):=by
 refine aY T my (λ_ _ _ _ _ _=>ar2 λ_ _=>rfl) ?_ ?_
 .walk_at "i1"
 walk_at "i2";obtain⟨x,y,p,q,rfl,dx,dy,bp,bq,k⟩:=h;obtain⟨ax,rfl,sx⟩:=kE dx;obtain⟨ay,rfl,sy⟩:=kE dy;obtain⟨p1,p2,p3⟩:=Zs bp;obtain⟨q1,q2,q3⟩:=Zs bq;have nd:=my.nd
 refine⟨_,(ag (aD (i:=2) (aO gN (aO ck (aL aV (pv 0) aq) (aL aV (pv 1) aq)) (aO ck (aL aV (pv 0) aq) (aL aV (pv 1) aq))))
  (ag (aD (i:=3) (aO gN (aO ck (aL aV (pv 0) aq) (aL aV (pv 1) aq)) (aO ck (aL aV (pv 0) aq) (aL aV (pv 1) aq))))
  (ag (aD (i:=4) (aO gN (aO ck (aL aV (pv 0) aq) (aL aV (pv 1) aq)) (aO ck (aL aV (pv 0) aq) (aL aV (pv 1) aq))))
  (ah (av (bu (aa (pv 2) (aa (pv 3) (aa (pv 4) (zt af)))))))))),?_⟩
 refine⟨_,rfl,_,_,_,_,rfl,rfl,sx,rfl,_,rfl,_,_,_,_,rfl,rfl,sy,rfl,_,_,rfl,rfl,kY p3 q1,_,rfl,_,_,_,_,rfl,rfl,sx,rfl,_,rfl,_,_,_,_,rfl,rfl,sy,rfl,_,_,rfl,rfl,kY p1 q3,_,_,rfl,rfl,?_⟩;refine⟨_,rfl,_,_,_,_,rfl,rfl,sx,rfl,_,rfl,_,_,_,_,rfl,rfl,sy,rfl,_,_,rfl,rfl,kY p1 q2,_,rfl,_,_,_,_,rfl,rfl,sx,rfl,_,rfl,_,_,_,_,rfl,rfl,sy,rfl,_,_,rfl,rfl,kY p2 q1,_,_,rfl,rfl,?_⟩;refine⟨_,rfl,_,_,_,_,rfl,rfl,sx,rfl,_,rfl,_,_,_,_,rfl,rfl,sy,rfl,_,_,rfl,rfl,kY p2 q3,_,rfl,_,_,_,_,rfl,rfl,sx,rfl,_,rfl,_,_,_,_,rfl,rfl,sy,rfl,_,_,rfl,rfl,kY p3 q2,_,_,rfl,rfl,?_⟩;refine⟨_,rfl,_,rfl,_,rfl,Mine.z4,λt ht=>?_⟩;exact k t _ (au ht _) (S8 (q:=sb p q) (Nv.of ae))
theorem ok_bnds(T:aA K mg "bounds_of" kR)(ky:mg "zip"=none)(yn:Def P w K mg base 1 "side_bound" ["one","other"] (TJ K)):Def P w K mg base 2 "bounds_of" ["hull","rule"] (Bj K):=by
 refine aY T nW (λ_ _ _ _ _ _=>ar2 λ_ _=>rfl) ?_ ?_
 .walk_at "i1"
 walk_at "i2";obtain⟨l,x,rfl,⟨us,el,da⟩,dx,q⟩:=h;have nd:=nW.nd
 refine⟨_,(ag (Iw (i:=2) (xs:=["one","other"]) (TZ rfl ky (pv 0) (aO xF (gu jP (pv 0) (hU aq) jX) (gu jP (pv 0) jX (hU aq)))) dS (λ_ _ _ _=>rL (K:=K) (n:=2) rfl rfl (bt (aX (i:=0) (hN:=(show(["one","other"]:List Str).Nodup by decide+kernel)) (hf:=(.inr rfl))) (bt (aX (i:=1) (hN:=(show(["one","other"]:List Str).Nodup by decide+kernel)) (hf:=(.inr rfl))) gf))) (λ_ _ _ _=>(aN yn (aa (pv 0) (aa (pv 1) af)))))
  (ag (aS (bx b9 g8 g9 aQ (pv 2) (SG (bu (aa (vT pf (aL aV (pv 1) aq)) (aa (vT pf (aL aV (pv 1) aq)) (aa (aO gN aq (aL aV (pv 1) aq)) (zt af))))) af)))
  (ah (av (pv 2))))),?_⟩
 obtain⟨u0,r0,rfl,d0,u1,r1,rfl,d1,u2,r2,rfl,d2,u3,r3,rfl,d3,h4⟩:=da;cases(show r3=[] from h4)
 dsimp only[ET,sj];refine Cm ?_;refine⟨_,rfl,_,rfl,_,rfl,l,_,rfl,Nq.of el,λp1 XO=>⟨_,rfl,_,rfl,l,_,rfl,Nq.of ((au XO _) _ _ el),λp2 Py=>?_⟩⟩;rw[Vk]at Py ⊢;rw[Y0];have a1:=au XO (.lst [u1,u2,u3]);have a2:=au Py (.lst [u0]);refine⟨p1,p2,_,_,rfl,rfl,a2 _ _ ae,ae,Mine.z4,λp3 hp3=>?_⟩;have a3:=au hp3 (.lst ([u1,u2,u3]++[u0]));have s3:=(a1.trans a2).trans a3;refine⟨l,p3,rfl,rfl,⟨_,Nq.of (s3 _ _ el)⟩,⟨_,Nq.of ae⟩,?_⟩;have ha:=s3 _ _ el;have hb:(upd (upd (upd H p1 (.lst [u1,u2,u3])) p2 (.lst [u0])) p3 (.lst ([u1,u2,u3]++[u0]))) p3=some (.lst [u1,u2,u3,u0]):=ae;generalize upd (upd (upd H p1 (.lst [u1,u2,u3])) p2 (.lst [u0])) p3 (.lst ([u1,u2,u3]++[u0]))=H3 at *;intro D hD
 have zs:∀i,i<4->∃x y p q,[u0,u1,u2,u3][i]?=some x/\[u1,u2,u3,u0][i]?=some y/\Dat K H3 (NI p) x/\Dat K H3 (NI q) y/\p∈Hu.sqH/\q∈Hu.sqH/\V3[i]?=some (sb p q):=λi hi=>by
  have t3:=s3.ts;rcases(by omega:i=0\/i=1\/i=2\/i=3) with rfl | rfl | rfl | rfl
  .exact⟨_,_,_,_,rfl,rfl,d0.ts t3,d1.ts t3,by simp[Hu.sqH],by simp[Hu.sqH],rfl⟩
  .exact⟨_,_,_,_,rfl,rfl,d1.ts t3,d2.ts t3,by simp[Hu.sqH],by simp[Hu.sqH],rfl⟩
  .exact⟨_,_,_,_,rfl,rfl,d2.ts t3,d3.ts t3,by simp[Hu.sqH],by simp[Hu.sqH],rfl⟩
  .exact⟨_,_,_,_,rfl,rfl,d3.ts t3,d0.ts t3,by simp[Hu.sqH],by simp[Hu.sqH],rfl⟩
 refine⟨λi m H'=>m=4-i/\i<=4/\aC H3 H'/\∃us,us.length=i/\H' D=some (.lst us)/\DatAll K H' ((V3.take i).map S9) us,⟨4,rfl,z5 _,au hD _,[],rfl,ae,rfl⟩,?_⟩;rintro i m H2 ⟨rfl,hi,s2,us,lu,eD,al⟩
 have ea:=s2 _ _ ha;have eb:=s2 _ _ hb
 by_cases Ny:i<4
 .obtain⟨x1,y1,p,q',h1,h2,dp,dq,mp,mq,hz⟩:=zs i Ny;refine .inr ⟨⟨_,_,_,_,Nq.of ea,Nq.of eb,h1,h2⟩,λo lo v H5 y=>?_⟩;obtain⟨T',vs',hT,rfl,rfl,x2,y2,rfl,z1,z2⟩:=y;have z1:=z1 _ (Nq.of ea);have z2:=z2 _ (Nq.of eb);rw[h1]at z1;rw[h2]at z2;cases z1
  cases z2
  have uT:=au hT (.tup [x1,y1]);obtain⟨o1,o2,rfl⟩:=Rh lo;refine⟨T',_,rfl,Nv.of ae,rfl,_,_,rfl,_,_,rfl,rfl,[some x1,some y1],rfl,rfl,?_⟩;have s2T:=s2.trans uT;refine⟨_,rfl,_,rfl,x1,y1,p,q',rfl,dp.ts s2T.ts,dq.ts s2T.ts,yD _ mp,yD _ mq,λt H4 s4 et=>?_⟩;have WV:=uT.trans s4;have YI:=WV _ _ eD;have t5:OG H4 (upd H4 D (.lst (us++[.ref t]))):=kC YI;refine⟨us,YI,j7 (show us.length<=1000 by omega) (by decide),4-(i+1),by omega,rfl,Ny,bP (s2.trans WV) hD _,us++[.ref t],by simp[lu],ae,?_⟩;rw[C9,hz,x9];exact((al.ts WV.ts).ts t5).snoc (et.ts t5)
 .have ei:i=4:=by omega
  subst ei;refine .inl ⟨⟨_,_,Nq.of ea,Nq.of eb,.inl (f7 _)⟩,?_⟩;obtain⟨ax,rfl,sx⟩:=kE dx;have Pq:=s3.trans s2;have sx:=sx.ts Pq.ts;refine⟨_,rfl,.inl ⟨rfl,_,Nq.of eD⟩,?_⟩;refine⟨_,rfl,_,_,_,_,rfl,rfl,sx,rfl,_,rfl,?_⟩;refine⟨_,rfl,_,_,_,_,rfl,rfl,sx,rfl,_,rfl,?_⟩;refine⟨_,rfl,_,_,_,_,rfl,rfl,sx,rfl,_,_,rfl,rfl,?_⟩;refine⟨Mine.z4,λt ht=>?_⟩;have ut:=au ht (.tup [.int (-1),.int (-0),.int (1-0),.int 1]);have eD1:=ut _ _ eD;refine⟨D,us,.ref t,rfl,rfl,eD1,j7 (show us.length<=100 by omega) (by decide),_,rfl,?_⟩;have t5:OG (upd H2 t (.tup [.int (-1),.int (-0),.int (1-0),.int 1])) (upd (upd H2 t (.tup [.int (-1),.int (-0),.int (1-0),.int 1])) D (.lst (us++[.ref t]))):=kC eD1;refine q D _ _ (bP (Pq.trans ut) (s3.free hD) _) (s3.free hD) ae ?_;exact((al.ts ut.ts).ts t5).snoc ((S8 (q:=⟨-1,0,1,1⟩) (Nv.of ae)).ts t5)
theorem ok_yw(T:aA K mg "y_within" mH)(eU:mg "max"=none)(eT:mg "min"=none)(nu:Def P w K mg base 1 "round_up" ["top","bottom"] Dr):Def P w K mg base 2 "y_within" ["bounds","n","x"] (TF K):=by
 refine aY T qw (λ_ _ _ _ _ _=>ar3 λ_ _ _=>rfl) ?_ ?_
 .walk_at "i1"
 walk_at "i2";obtain⟨l,ws,rfl,el,da,q⟩:=h;have nd:=qw.nd
 refine⟨_,(ag (aD (i:=3) aq)
  (ag (aD (i:=4) (pv 1))
  (ag (dj z9 rfl (bV (pv 0)) (mR rfl (bt (aX (i:=5)) (bt (aX (i:=6)) (bt (aX (i:=7)) (bt (aX (i:=8)) gf))))) (ag (aD (i:=9) (aO gN (aO gN (pv 8) (aO ck (pv 5) (pv 2))) (aO ck (pv 7) (pv 1))))
  (ah (aP (aB vX (pv 6) aq (aE _)) (ah (aD (i:=3) (aH (lZ rfl) eU (aa (pv 3) (aa (aN nu (aa (pv 9) (aa (pv 6) af))) af))))) (ah (aP (aB mB (pv 6) aq (aE _)) (ah (aD (i:=4) (aH (jJ rfl) eT (aa (pv 4) (aa (aO jF (pv 9) (pv 6)) af))))) (ah (aP (aB vX (pv 9) aq (aE _)) (ah (av cf)) aG))))))))
  (ah (av (cI (aB qK (pv 3) (pv 4) (aE _)) (pv 3) cf)))))),?_⟩
 refine⟨_,rfl,_,rfl,l,rfl,⟨ws,Nq.of el⟩,?_⟩;refine dY (xs:=ws) (λi σ H'=>H'=H/\∃(o5 o6 o7 o8 o9:Option V),σ=[some (.ref l),some (.int 1),some (.int 0),some (.int 0),some (.int 1),o5,o6,o7,o8,o9]) ⟨rfl,_,_,_,_,_,rfl⟩ (λi σ H' _ z=>by rw[z.1];exact Nq.of el) (λi v σ H' hv z=>?_) (λσ H' z=>?_)
 .obtain⟨rfl,o5,o6,o7,o8,o9,rfl⟩:=z;obtain⟨d,hd,dv⟩:=da.get' hv;have m1:IntMulOk (-1) 0:=kY (Og (by decide)) (Og (by decide));have m2:IntMulOk 0 0:=kY (Og (by decide)) (Og (by decide));have m3:IntMulOk 1 0:=kY (Og (by decide)) (Og (by decide));have m4:IntMulOk 0 1:=kY (Og (by decide)) (Og (by decide));have m5:IntMulOk 1 1:=kY (Og (by decide)) (Og (by decide))
  match i,hd with
  | 0,hd =>
   cases hd
   obtain⟨ba,rfl,sb⟩:=Al (q:=⟨0,1,0,0⟩) dv;refine⟨ba,_,rfl,sb,rfl,_,_,rfl,_,_,rfl,_,_,rfl,_,_,rfl,rfl,?_⟩;refine⟨_,rfl,_,rfl,_,rfl,_,_,rfl,rfl,m2,_,_,rfl,rfl,_,rfl,_,rfl,_,_,rfl,rfl,m4,_,_,rfl,rfl,?_⟩;refine⟨_,rfl,_,_,rfl,rfl,_,rfl,cL ⟨_,rfl,_,rfl,_,rfl,_,rfl,_,_,rfl,?_⟩⟩;exact⟨rfl,_,_,_,_,_,rfl⟩
  | 1,hd =>
   cases hd
   obtain⟨ba,rfl,sb⟩:=Al (q:=⟨-1,0,1,0⟩) dv;refine⟨ba,_,rfl,sb,rfl,_,_,rfl,_,_,rfl,_,_,rfl,_,_,rfl,rfl,?_⟩;refine⟨_,rfl,_,rfl,_,rfl,_,_,rfl,rfl,m1,_,_,rfl,rfl,_,rfl,_,rfl,_,_,rfl,rfl,m5,_,_,rfl,rfl,?_⟩;exact⟨_,rfl,_,_,rfl,rfl,_,rfl,bz ⟨_,rfl,_,_,rfl,rfl,_,rfl,bz ⟨_,rfl,_,_,rfl,rfl,_,rfl,bz ⟨rfl,_,_,_,_,_,rfl⟩⟩⟩⟩
  | 2,hd =>
   cases hd
   obtain⟨ba,rfl,sb⟩:=Al (q:=⟨0,-1,1,0⟩) dv;refine⟨ba,_,rfl,sb,rfl,_,_,rfl,_,_,rfl,_,_,rfl,_,_,rfl,rfl,?_⟩;refine⟨_,rfl,_,rfl,_,rfl,_,_,rfl,rfl,m2,_,_,rfl,rfl,_,rfl,_,rfl,_,_,rfl,rfl,m5,_,_,rfl,rfl,?_⟩;refine⟨_,rfl,_,_,rfl,rfl,_,rfl,bz ⟨_,rfl,_,_,rfl,rfl,_,rfl,cL ⟨_,rfl,_,rfl,_,rfl,_,_,rfl,rfl,Gy (by decide) (Og (by decide)),_,_,rfl,?_⟩⟩⟩;exact⟨rfl,_,_,_,_,_,rfl⟩
  | 3,hd =>
   cases hd
   obtain⟨ba,rfl,sb⟩:=Al (q:=⟨1,0,0,0⟩) dv;refine⟨ba,_,rfl,sb,rfl,_,_,rfl,_,_,rfl,_,_,rfl,_,_,rfl,rfl,?_⟩;refine⟨_,rfl,_,rfl,_,rfl,_,_,rfl,rfl,m3,_,_,rfl,rfl,_,rfl,_,rfl,_,_,rfl,rfl,m4,_,_,rfl,rfl,?_⟩;exact⟨_,rfl,_,_,rfl,rfl,_,rfl,bz ⟨_,rfl,_,_,rfl,rfl,_,rfl,bz ⟨_,rfl,_,_,rfl,rfl,_,rfl,bz ⟨rfl,_,_,_,_,_,rfl⟩⟩⟩⟩
  | 4,hd =>
   cases hd
   obtain⟨ba,rfl,sb⟩:=Al (q:=⟨-1,0,1,1⟩) dv;refine⟨ba,_,rfl,sb,rfl,_,_,rfl,_,_,rfl,_,_,rfl,_,_,rfl,rfl,?_⟩;refine⟨_,rfl,_,rfl,_,rfl,_,_,rfl,rfl,m1,_,_,rfl,rfl,_,rfl,_,rfl,_,_,rfl,rfl,m5,_,_,rfl,rfl,?_⟩;exact⟨_,rfl,_,_,rfl,rfl,_,rfl,bz ⟨_,rfl,_,_,rfl,rfl,_,rfl,bz ⟨_,rfl,_,_,rfl,rfl,_,rfl,bz ⟨rfl,_,_,_,_,_,rfl⟩⟩⟩⟩
  | n+5,hd=>cases hd
 .obtain⟨rfl,o5,o6,o7,o8,o9,rfl⟩:=z;exact⟨_,rfl,_,rfl,_,_,rfl,rfl,_,rfl,cL ⟨_,rfl,q⟩⟩
theorem ok_sw(T:aA K mg "step_within" iV)(eT:mg "min"=none)(eU:mg "max"=none)(hV:mg "range"=none)(nu:Def P w K mg base 1 "round_up" ["top","bottom"] Dr)(CU:Def P w K mg base 2 "y_within" ["bounds","n","x"] (TF K)):Def P w K mg base 3 "step_within" ["hull","bounds","n"] (TH K):=by
 refine aY T kG (λ_ _ _ _ _ _=>ar3 λ_ _ _=>rfl) ?_ ?_
 .walk_at "i1"
 walk_at "i2";obtain⟨l,lb,ws,rfl,⟨us,el,da⟩,eb,db,q⟩:=h;have nd:=kG.nd;have hl:=wL da;have al:=yb da;have bd:∀c∈Hu.sqH,c.u=1/\c.v.natAbs<4:=by decide
 refine⟨_,(ag (aD (i:=3) (aH (GD rfl) eT (aa (fD (bV (pv 0)) (iS (j:=2) dS) (λ_ _ _ _=>eJ) (λ_ _ _ _=>(aN nu (aa (aO ck (aL (oJ (K:=K) rfl) (pv 0) aq) (pv 1)) (aa (aL (oJ (K:=K) rfl) (pv 0) aq) af))))) af)))
  (ag (aD (i:=4) (aH (wC rfl) eU (aa (fD (bV (pv 0)) (iS (j:=2) dS) (λ_ _ _ _=>eJ) (λ_ _ _ _=>(aO jF (aO ck (aL (oJ (K:=K) rfl) (pv 0) aq) (pv 1)) (aL (oJ (K:=K) rfl) (pv 0) aq)))) af)))
  (ag (dj z9 rfl (Fl hV (aa (pv 3) (aa (aO gP (pv 4) aq) af))) (aX (i:=5)) (ag (aD (i:=6) (aN CU (aa (pv 1) (aa (pv 2) (aa (pv 5) af)))))
  (ah (aP (aB rN (pv 6) cf (aE _)) (ah (av (bu (aa (pv 2) (aa (pv 5) (aa (pv 6) af)))))) aG))))
  (ah (av cf))))),?_⟩
 dsimp only[ET,Qq,So,gg,nG]
 have one:∀{H1:Hp}{N:VK}{v:V}{c:T3},c∈Hu.sqH->Dat K H1 (NI c) v->∃ca,v=.ref ca/\Nv K H1 ca [.int 1,.int c.v,.int c.w]/\IntMulOk c.v 1:=λhc rv=>by
  obtain⟨ca,rfl,sc⟩:=kE rv;obtain⟨k1,k2⟩:=bd _ hc;rw[k1]at sc;exact⟨ca,rfl,sc,kY (Og k2) (Og (by decide))⟩
 refine comp_map (K:=K) (xs:=us) (ts:=Hu.sqH) (R:=λH v c=>Dat K H (NI c) v) (λc=>V.int (c.v*1)) (λH H' v t s z=>z.ts s.ts) (λl' H'=>l'=l/\H'=H) (λR k=>⟨_,rfl,l,rfl,⟨_,Nq.of el⟩,k l H ⟨rfl,rfl⟩⟩) (λl' H' z=>by obtain⟨rfl,rfl⟩:=z;exact⟨el,aC.refl _⟩) (by rw[hl];decide) al (λv c H3 N hc rv hN=>?_) (λD1 H1 s1 hD1 e1=>?_)
 .obtain⟨ca,rfl,sc,m⟩:=one (N:=N) hc rv;exact⟨_,rfl,_,_,_,_,rfl,rfl,sc,bc (j:=1) rfl,_,rfl,_,_,rfl,rfl,m,_,rfl,_,_,_,_,rfl,rfl,sc,bc (j:=0) rfl,_,rfl,hN _ (aC.refl _)⟩
 refine⟨D1,Hu.sqH.map λc=>c.v*1,rfl,Nq.of (by rw[e1,LY];rfl),by decide,λlo hlo klo=>?_⟩;dsimp only[ud,ET,Qq,So,gg,nG];have NK:=s1 _ _ el;refine comp_map (K:=K) (xs:=us) (ts:=Hu.sqH) (R:=λH v c=>Dat K H (NI c) v) (λc=>V.int ((c.v*1).fdiv 1)) (λH H' v t s z=>z.ts s.ts) (λl' H'=>l'=l/\H'=H1) (λR k=>⟨_,rfl,l,rfl,⟨_,Nq.of NK⟩,k l H1 ⟨rfl,rfl⟩⟩) (λl' H' z=>by obtain⟨rfl,rfl⟩:=z;exact⟨NK,aC.refl _⟩) (by rw[hl];decide) (al.imp λv c z=>z.ts s1.ts) (λv c H3 N hc rv hN=>?_) (λD2 H2 s2 hD2 e2=>?_)
 .obtain⟨ca,rfl,sc,m⟩:=one (N:=N) hc rv;exact⟨_,rfl,_,_,_,_,rfl,rfl,sc,bc (j:=1) rfl,_,rfl,_,_,rfl,rfl,m,_,rfl,_,_,_,_,rfl,rfl,sc,bc (j:=0) rfl,_,_,rfl,rfl,Gy (by decide) (Og (by decide)),hN _ (aC.refl _)⟩
 refine⟨D2,Hu.sqH.map λc=>(c.v*1).fdiv 1,rfl,Nq.of (by rw[e2,LY];rfl),by decide,λhi hhi khi=>?_⟩;have OT:=s1.trans s2
 have l0:lo=0:=by
  have h1:=klo 0 (by decide);have h2:∀z∈Hu.sqH.map (λc=>c.v*1),0<=z:=by decide
  have:=h2 lo hlo;omega
 have h1:hi=1:=by
  have h1:=khi 1 (by decide);have h2:∀z∈Hu.sqH.map (λc=>(c.v*1).fdiv 1),z<=1:=by decide
  have:=h2 hi hhi;omega
 subst l0 h1;refine⟨_,rfl,_,rfl,_,_,rfl,rfl,?_⟩;refine⟨_,_,rfl,⟨by decide,by decide,by decide,by decide⟩,?_⟩;refine qh (λi σ H'=>H'=H2/\i=0/\∃o5 o6,σ=[some (.ref l),some (.ref lb),some (.int 1),some (.int 0),some (.int 1),o5,o6]) ⟨rfl,rfl,_,_,rfl⟩ (λi σ H' hi z=>?_) (λσ H' z=>absurd z.2.1 (by decide));obtain⟨rfl,rfl,o5,o6,rfl⟩:=z;refine⟨_,rfl,_,rfl,_,rfl,lb,ws,rfl,OT _ _ eb,db.ts OT.ts,?_⟩;refine⟨_,rfl,rfl,_,rfl,cL ?_⟩;exact⟨_,rfl,_,rfl,_,rfl,Mine.z3,λt ht=>q t _ (OT.trans (au ht _))⟩
end Mine
namespace L2
open PySem PySem.Spec PyProof.Rows
section
variable{X:Cx}
noncomputable def JA:V->Bool
 | .flt _=>false
 | .byt _=>false
 | _=>true
def rSam(K:W.Frag)(neg:Bool):R2:=λx y H Q=>∃a b xs ys,x=.ref a/\y=.ref b/\Nq K H a xs/\Nq K H b ys/\((xs=ys/\(∀v∈xs,JA v=true)/\Q (.bl (!neg)) H)\/(xs.length≠ys.length/\Q (.bl neg) H))
theorem Kc{A:Around}{s:Shared}(h:JA v=true)(r:RelV v u)(r':RelV v u'):PySem.SeqAt.EqAt A s u u' true:=by
 cases v with
 | non=>cases(show u=Value.none from r);cases(show u'=Value.none from r');exact Lc _
 | bl b=>cases(show u=Value.bool b from r);cases(show u'=Value.bool b from r');exact Lc _
 | int i =>
  obtain⟨t,rfl⟩:=(show ∃t,u=Value.int i t from r);obtain⟨t',rfl⟩:=(show ∃t,u'=Value.int i t from r');have:=PySem.SeqAt.EqAt.int_int (A:=A) (s:=s) i t i t'
  rwa [A5]at this
 | str x =>
  obtain⟨t,rfl⟩:=(show ∃t,u=Value.str x t from r);obtain⟨t',rfl⟩:=(show ∃t,u'=Value.str x t from r');have:=PySem.SeqAt.EqAt.str_str (A:=A) (s:=s) x t x t'
  rwa [A5]at this
 | byt b=>cases h
 | flt b=>cases h
 | ref a=>cases(show u=Value.ref a from r);cases(show u'=Value.ref a from r');exact Lc _
 | ty n=>cases(show u=Value.type n from r);cases(show u'=Value.type n from r');exact Lc _
theorem Fd(h:∀v∈xs,JA v=true)(r:Vals xs us)(r':Vals xs ws):∀j (h1:j<us.toArray.size) (h2:j<ws.toArray.size),PySem.SeqAt.EqAt A s us.toArray[j] ws.toArray[j] true:=by
 intro j h1 h2;have l1:=r.length;have O6:j<us.length:=by simpa using h1
 have hj:j<xs.length:=by omega
 obtain⟨u,e1,e2⟩:=r.get (g0 hj);obtain⟨u',e3,e4⟩:=r'.get (g0 hj)
 have e5:us.toArray[j]=u:=by
  obtain⟨_,z⟩:=j6.mp e1;simpa using z
 have e6:ws.toArray[j]=u':=by
  obtain⟨_,z⟩:=j6.mp e3;simpa using z
 rw[e5,e6];exact Kc (h _ (Ls hj)) e2 e4
theorem all_true(n:Nat):(List.range n).all (λ_=>true)=true:=by
 rw[E4];exact λ_ _=>rfl
theorem IL(hu:X.A.units+64<cLine):NJ X (compareOp .Eq) (rSam X.K false):=by
 intro Nn s σ H x y v u Q I rx ry h;obtain⟨a,b,xs,ys,rfl,rfl,ha,hb,q⟩:=h;cases(show v=Value.ref a from rx)
 cases(show u=Value.ref b from ry)
 obtain⟨us,ru,⟨o,n,ho,hc,_,hd⟩,_⟩:=I.list ha;obtain⟨ws,rw_,⟨o',n',Oz,OC,_,X4⟩,_⟩:=I.list hb;have l1:s.heap.IsList a us.toArray:=⟨o,ho,hc,n,hd⟩;have l2:s.heap.IsList b ws.toArray:=⟨o',Oz,OC,n',X4⟩;have n1:=ru.length;have n2:=rw_.length;rcases q with⟨rfl,hv,q⟩ | ⟨ne,q⟩
 .have z:=PySem.SeqAt.RcAt.lists (A:=X.A) (s:=s) (e:=λ_=>true) l1 l2 (by simp;omega) (by omega) (Fd hv ru rw_);rw[all_true]at z;exact z _ _ _ _ ⟨.bl true,H,I,rfl,q⟩
 .have z:=PySem.SeqAt.RcAt.lists_lengths (A:=X.A) (s:=s) l1 l2 (by simp;omega) (by omega);exact z _ _ _ _ ⟨.bl false,H,I,rfl,q⟩
end
end L2
namespace Mine
open PySem L2
variable{H':Hp}{D CM CP p b CD:Addr}{C:Nat->Addr}{E:XK}{w u:Str}{Q:VK}{o:Oc}{S ks:List Str}{n:Int}{tm:Tok}{X:Cx}{e:Expr}{pos:Pos}{ta:TE}{c:CCs}
theorem GQ(h:0<xs.length):OP xs (-1)=xs[xs.length-1]?:=by
 unfold OP Uq;rw[h9 (by decide),k9 (by omega)];show xs[((-1:Int)+(xs.length:Nat)).toNat]?=_;congr 1;omega
def V5(K:W.Frag)(H:Hp)(D:Addr):Prop:=∃(t l lb:Addr)(us ws:List V),H D=some (.lst [.ref t])/\Nv K H t [.ref l,.ref lb]/\H l=some (.lst us)/\DatAll K H (Hu.sqH.map NI) us/\H lb=some (.lst ws)/\DatAll K H (V3.map S9) ws
theorem V5.to{K:W.Frag}{H:Hp}(h:V5 K H D)(s:aC H H'):V5 K H' D:=by
 obtain⟨t,l,lb,us,ws,h1,h2,h3,h4,h5,h6⟩:=h;exact⟨t,l,lb,us,ws,s _ _ h1,h2.ts s.ts,s _ _ h3,h4.ts s.ts,s _ _ h5,h6.ts s.ts⟩
def Ds(c:CCs)(K:W.Frag)(CM:Addr):Sp:=λvs H Q E=>Hl c CM vs H E (∀D H',aC H H'->V5 K H' D->Q (.ref D) H')
inductive wU(K:W.Frag)(vs:List V)(H:Hp)(Q:VK)(E:XK):Prop
 | mk (D:Addr):vs=[.ref D,.int 1]->V5 K H D->(∀p H',aC H H'->Q (.ref p) H')->wU K vs H Q E
def Du(c:CCs)(CM:Addr):Sp:=λvs H Q E=>Hl c CM vs H E (∀(p q:Addr)(H':Hp),aC H H'->H' p=some (.tup [.int 1,.ref q])->Q (.ref p) H')
variable{P:Program}{w:World}{K:W.Frag}{mg:Str->Option Value}{base:Heap}{c:CCs}
theorem IZ(T:aA K mg "regions_below" gG)(Ku:mg "any"=none)(jN:Def P w K mg base 3 "rows_of" ["saying"] (nO c))(qr:cq P w K mg base 6 "cutting" ["saying"] (xl c K CM))(nv:Def P w K mg base 2 "hulls_of" ["tree"] (lP K))(gU:Def P w K mg base 4 "rules_of_rows" ["rows","hull"] (nM K))(qq:Def P w K mg base 1 "told_by" ["rule","point"] (Qu K))(AG:Def P w K mg base 2 "bounds_of" ["hull","rule"] (Bj K)):cq P w K mg base 7 "regions_below" ["saying"] (Ds c K CM):=by
 refine cm T jv (λ_ _ _ _ _ _=>ar1 λ_=>rfl) ?_ ?_
 .walk_at "i1"
 walk_at "i2";obtain⟨x,t,rfl,oa,sz,q1,q2⟩:=h;have nd:=jv.nd
 refine⟨_,(ag (aD (i:=1) (aN jN (aa (pv 0) af)))
  (ag (aD (i:=2) (bg af))
  (ag (dj Lh rfl (bV (aN nv (aa (bE qr (hr.mono (by decide)) rfl (aa (pv 0) af)) af))) (aX (i:=3)) (ag (aD (i:=4) (aL bb (aL aV (aN gU (aa (pv 1) (aa (pv 3) af))) aq) (vT pf aq)))
  (ah (aP (gM (aH (Ko rfl) Ku (aa (fD (bV (pv 3)) (iS (j:=4) dS) (λ_ _ _ _=>eJ) (λ_ _ _ _=>(cZ mB (aN qq (aa (pv 1) (aa (pv 0) af))) (aL (oJ (K:=K) rfl) (pv 0) aq) (aE _)))) af))) (ah (aS (bx b9 g8 g9 aQ (pv 2) (SG (bu (aa (pv 3) (aa (aN AG (aa (pv 3) (aa (pv 4) af))) af))) af)))) aG))))
  (ah (av (pv 2)))))),?_⟩
 refine⟨_,rfl,x,t,rfl,oa,by omega,λlr rws H1 s1 hlr er alr=>?_⟩;refine⟨Mine.z0,λD hD=>?_⟩;have uD:=au hD (.lst []);have s1D:=s1.trans uD;refine⟨_,rfl,x,t,rfl,oa.to (Kp.of s1D),sz,λz=>(q1 z).to s1D,λn8=>?_⟩;obtain⟨ch,k⟩:=q2 n8;refine⟨ch,λvt H2 s2 lf=>⟨vt,rfl,lf,λl g H3 s3 el gq=>?_⟩⟩;obtain⟨UO,eg,dg⟩:=gq;have gl:=wL dg;have Zq:=s2.trans s3;have Pa:=s1D.trans Zq;have eD3:=Zq _ _ ae;have er3:=Zq _ _ (uD _ _ er);have nl:l≠D:=λz=>by rw[z,eD3]at el;cases el
 have ng:g≠D:=λz=>by rw[z,eD3]at eg;cases eg;cases gl
 obtain⟨g1,g2⟩:=ch.rows;have ll:=alr.len;have lt:t.rows.length<=t.size:=by have:=kT t [];rw[D3,MC]at this;exact this
 refine⟨l,rfl,⟨_,Nq.of el⟩,?_⟩;refine dY (xs:=[V.ref g]) (λi σ H'=>H' l=some (.lst [.ref g])/\∃(o3 o4:Option V),σ=[some (.ref x),some (.ref lr),some (.ref D),o3,o4]/\(i=0/\H'=H3\/i=1/\aC H H'/\V5 K H' D)) ⟨el,_,_,rfl,.inl ⟨rfl,rfl⟩⟩ (λi σ H' _ z=>Nq.of z.1) (λi v σ H' hv z=>?_) (λσ H' z=>?_)
 .obtain⟨_,o3,o4,rfl,z⟩:=z;rcases z with⟨rfl,rfl⟩ | ⟨rfl,_⟩
  rotate_left
  .cases hv
  cases hv
  refine⟨_,rfl,_,rfl,lr,g,rws,t.rows,rfl,er3,alr.imp λv r z=>by obtain⟨a,rfl,e⟩:=z;exact⟨a,rfl,(uD.trans Zq) _ _ e⟩,g1,by omega,⟨UO,eg,dg⟩,λtt lt' tws H5 s5 st e5 aw lw=>?_⟩;have hp:0<tws.length:=by omega
  have hvr:=g0 (show tws.length-1<tws.length by omega);have dr:=aw _ (x3 hvr);generalize tws[tws.length-1]'(by omega)=vr at hvr dr;refine⟨_,_,_,_,rfl,rfl,st,rfl,_,rfl,_,_,_,_,rfl,rfl,Nq.of e5,(GQ hp).trans hvr,?_⟩;have eg5:=s5 _ _ eg;have dg5:=dg.ts s5.ts;dsimp only[ud,Wx,tB,So,gg,nG];have r3:Hu.R3 3000 rP:=yD _ B5;refine comp_map (K:=K) (xs:=UO) (ts:=Hu.sqH) (R:=λH v c=>Dat K H (NI c) v/\Dat K H (NI rP) vr) (λc=>V.bl (decide (Hu.tl rP c<c.u))) (λH H' v t s z=>⟨z.1.ts s.ts,z.2.ts s.ts⟩) (λl' H'=>l'=g/\H'=H5) (λR k=>⟨_,rfl,g,rfl,⟨_,Nq.of eg5⟩,k g H5 ⟨rfl,rfl⟩⟩) (λl' H' z=>by obtain⟨rfl,rfl⟩:=z;exact⟨eg5,aC.refl _⟩) (by rw[gl];decide) ((yb dg5).imp λv c z=>⟨z,dr⟩) (λv c H6 N hc rv hN=>?_) (λD6 H6 s6 hD6 e6=>?_)
  .obtain⟨dv,dr6⟩:=rv;obtain⟨ca,rfl,sc⟩:=kE dv;exact⟨_,rfl,_,rfl,_,_,_,_,rfl,dr6,dv,r3,yD c hc,_,rfl,_,_,_,_,rfl,rfl,sc,bc (j:=0) rfl,_,_,rfl,rfl,hN _ (aC.refl _)⟩
  have O1:=s5.trans s6;refine⟨D6,Hu.sqH.map λc=>decide (Hu.tl rP c<c.u),rfl,Nq.of (by rw[e6,LY];rfl),_,rfl,?_⟩;rw[show(Hu.sqH.map λc=>decide (Hu.tl rP c<c.u)).any id=true by decide];have eD6:=O1 _ _ eD3;refine cL ⟨_,rfl,.inl ⟨rfl,_,Nq.of eD6⟩,?_⟩;refine⟨_,rfl,_,rfl,_,rfl,g,vr,rfl,⟨UO,s6 _ _ eg5,dg5.ts s6.ts⟩,dr.ts s6.ts,λlb bws H7 s7 nb eb7 db7=>?_⟩;refine⟨Mine.z2,λt8 ht8=>?_⟩;have u8:=au ht8 (.tup [.ref g,.ref lb]);have s68:=s7.trans u8;have eD8:=s68 _ _ eD6;have nlb:lb≠D:=λz=>by rw[z,eD6]at nb;cases nb
  refine⟨D,[],.ref t8,rfl,rfl,eD8,(by show 0<sizeLine;decide),?_⟩;have t9:OG (upd H7 t8 (.tup [.ref g,.ref lb])) (upd (upd H7 t8 (.tup [.ref g,.ref lb])) D (.lst ([]++[.ref t8]))):=kC eD8;have Zp:=O1.trans s68;refine⟨?_,_,_,rfl,.inr ⟨rfl,?_,t8,g,lb,UO,bws,ae,(Nv.of ae:Nv K (upd H7 t8 (.tup [.ref g,.ref lb])) t8 _).ts t9,?_,(dg.ts Zp.ts).ts t9,?_,(db7.ts u8.ts).ts t9⟩⟩
  .rw[aj nl];exact Zp _ _ el
  .exact bP (Pa.trans Zp) (s1.free hD) _
  .rw[aj ng];exact Zp _ _ eg
  .rw[aj nlb];exact u8 _ _ eb7
 .obtain⟨_,o3,o4,rfl,z⟩:=z;rcases z with⟨z,_⟩ | ⟨_,s4,rg⟩
  .cases z
  .exact⟨_,rfl,k D _ s4 rg⟩
theorem IW(T:aA K mg "step_below" jR)(vn:Def P w K mg base 3 "step_within" ["hull","bounds","n"] (TH K)):Def P w K mg base 4 "step_below" ["regions","n"] (wU K):=by
 refine aY T mx (λ_ _ _ _ _ _=>ar2 λ_ _=>rfl) ?_ ?_
 .walk_at "i1"
 walk_at "i2";obtain⟨D,rfl,⟨t,l,lb,us,ws,eD,st,el,dl,eb,db⟩,q⟩:=h;have nd:=mx.nd
 refine⟨_,(ag (dj z9 rfl (bV (pv 0)) (mR rfl (bt (aX (i:=2)) (bt (aX (i:=3)) gf))) (ag (aD (i:=4) (aN vn (aa (pv 2) (aa (pv 3) (aa (pv 1) af)))))
  (ah (aP (aB rN (pv 4) cf (aE _)) (ah (av (pv 4))) aG))))
  (ah (av cf))),?_⟩
 refine⟨_,rfl,_,rfl,⟨_,Nq.of eD⟩,?_⟩;refine dY (xs:=[V.ref t]) (λi σ H'=>H'=H/\i=0/\∃(o2 o3 o4:Option V),σ=[some (.ref D),some (.int 1),o2,o3,o4]) ⟨rfl,rfl,_,_,_,rfl⟩ (λi σ H' _ z=>by rw[z.1];exact Nq.of eD) (λi v σ H' hv z=>?_) (λσ H' z=>absurd z.2.1 Nat.one_ne_zero);obtain⟨rfl,rfl,o2,o3,o4,rfl⟩:=z;cases hv
 refine⟨t,_,rfl,st,rfl,_,_,rfl,_,_,rfl,rfl,?_⟩;refine⟨_,rfl,_,rfl,_,rfl,l,lb,ws,rfl,⟨us,el,dl⟩,eb,db,λt2 H2 s2=>?_⟩;exact⟨_,rfl,rfl,_,rfl,cL ⟨_,rfl,q t2 _ s2⟩⟩
theorem Jo(T:aA K mg "fewest_steps" iE)(rC:cq P w K mg base 7 "regions_below" ["saying"] (Ds c K CM))(pd:Def P w K mg base 4 "step_below" ["regions","n"] (wU K)):cq P w K mg base 8 "fewest_steps" ["saying"] (Du c CM):=by
 refine cm T ku (λ_ _ _ _ _ _=>ar1 λ_=>rfl) ?_ ?_
 .walk_at "i1"
 walk_at "i2";obtain⟨x,t,rfl,oa,sz,q1,q2⟩:=h;have nd:=ku.nd;have hu:=hr.units
 refine⟨_,(ag (aD (i:=1) (bE rC (hr.mono (by decide)) rfl (aa (pv 0) af)))
  (ag (aP (aB (IL hu) (pv 1) (bg af) (aE _)) (ah (av cf)) aG)
  (ag (aD (i:=2) aq)
  (ag (aD (i:=3) (aN pd (aa (pv 1) (aa (pv 2) af))))
  (ag (jE Lh (aB tN (pv 3) cf (aE _)) (ag eI
  (ah (aD (i:=3) (aN pd (aa (pv 1) (aa (pv 2) af)))))))
  (ah (av (bu (aa (pv 2) (aa (pv 3) af)))))))))),?_⟩
 refine⟨_,rfl,x,t,rfl,oa,sz,q1,λn8=>?_⟩;obtain⟨ch,k⟩:=q2 n8;refine⟨ch,λD H1 s1 rg=>?_⟩;obtain⟨tt,_,_,_,_,eD,_⟩:=id rg;refine⟨_,rfl,Mine.z0,λp0 hp0=>?_⟩;have u0:=au hp0 (.lst []);refine⟨D,p0,[.ref tt],[],rfl,rfl,Nq.of (u0 _ _ eD),Nq.of ae,.inr ⟨Nat.one_ne_zero,_,rfl,bz ?_⟩⟩;refine⟨_,rfl,_,rfl,D,rfl,rg.to u0,λp H2 s2=>?_⟩;have s02:=(s1.trans u0).trans s2;refine⟨λm σ H'=>H'=H2/\σ=[some (.ref x),some (.ref D),some (.int 1),some (.ref p)],⟨0,rfl,rfl⟩,?_⟩;rintro m σ H' ⟨rfl,rfl⟩
 refine⟨_,rfl,rfl,_,rfl,bz ⟨_,rfl,_,rfl,Mine.z2,λt6 ht6=>?_⟩⟩;exact k t6 p _ (s02.trans (au ht6 _)) ae
theorem q_ok:rz (fK "q" []):=jW (by decide+kernel)
inductive Be(C:Addr)(vs:List V)(H:Hp)(Q:VK)(E:XK):Prop
 | mk (l:Addr) (us:List V) (rs:List Rw):vs=[.ref l]->H l=some (.lst us)->cN (Oq H) us rs->(∀x∈rs,rz x)->((match idx rs (fK "q" []) with | none=>∀H',aC H H'->Q .non H' | some _=>∀H',aC H H'->E (.ref C) none H'))->Be C vs H Q E
theorem ok_noQX{C:Addr}(T:aA K mg "must_be_without_q" dQ)(nr:mg "NoLetter"=some (.ref C))(Ct:PySem.W.excIn K C bmV "ValueError.__new__"=true):Se P w K mg base 1 "must_be_without_q" ["rows"] (Be C):=by
 refine RF T gi (λ_ _ _ _ _ _=>L2.ar1 λ_=>rfl) ?_ ?_
 .walk_at "i1"
 walk_at "i2";obtain⟨l,us,rs,rfl,el,al,ok,q⟩:=h;have nd:=gi.nd;have hu:=hr.units;refine⟨_,(ah (aP (aB (T9 hu) (bu (aa az af)) (pv 0) rfl) (ah (Iy rfl nr Ct (aa az af))) aG)),?_⟩;refine⟨Mine.z1,λt ht=>?_⟩;have s1:=au ht (.tup [V.str "q"]);have dq:Dat K (upd H t (.tup [V.str "q"])) (Ow (fK "q" [])) (.ref t):=Oq.dat ⟨t,rfl,ae⟩;refine⟨_,rfl,Ow (fK "q" []),rs.map Ow,l,us,.inl dq,rfl,Nq.of (s1 _ _ el),(Oq.all al).ts s1.ts,DP ok,Ii q_ok,h8 (vQ rs) (by decide),_,rfl,?_⟩;rw[QA];cases z:idx rs (fK "q" []) with
 | none=>rw[z]at q;exact bz (q _ s1)
 | some i=>rw[z]at q;exact cL ⟨Mine.z1,q _ s1⟩
theorem DB:ao ["self","words","waiting","piece"] ["self"] (ai Sw):=L2.fsc
theorem ok_told{C:Addr}{t:Tr}(T:aI K C "told" "Saying.told" Sw)(F:Fx K c)(M:Ms P w K mg base c)(aK:mg "isinstance"=none)(oS:mg "str"=none)(Cr:mg "list"=none)(fO:mg "reversed"=none) :
  aJ P w K mg base C "told" 3 ["self"] (Bc c t):=by
 refine aR T DB (λ_ _ _ _ _ _=>L2.ar1 λ_=>rfl) ?_ ?_
 .walk_at "i1"
 walk_at "i2";obtain⟨a,rfl,oa,ht,q⟩:=h;have nd:=DB.nd
 refine⟨_,(ag (aD (i:=1) (bg af))
  (ag (aD (i:=2) (bg (aa (pv 0) af)))
  (ag (jE z9 (kU (pv 2) (λ_=>rfl)) (ag (aD (i:=3) (cp b9 u7 u9 cU (pv 2)))
  (ah (aP (gM (aH lE aK (aa (pv 3) (aa (lW (v:=V.ty "str") rfl oS (by decide+kernel) rfl) af)))) (ah (aS (bx b9 g8 g9 aQ (pv 1) (aa (pv 3) af)))) (ah (aS (bx b9 LF LG qc (pv 2) (aa (Bs rfl rfl Cr rfl fO (bo (k:=2) (pv 3) (hr.mono (by decide)))) af))))))))
  (ah (av (bx A4 K8 K9 rR az (aa (pv 1) af))))))),?_⟩
 refine⟨Mine.z0,λl1 h1=>?_⟩;refine⟨_,rfl,Mine.z1,λl2 Oj=>?_⟩;have h2:H l2=none:=dh Oj;have OU:l1≠l2:=λe=>by subst e;rw[ae]at Oj;cases Oj
 have WN:aC H (upd (upd H l1 (.lst [])) l2 (.lst [.ref a])):=λb o e=>by rw[aj (ak e h2),aj (ak e h1)];exact e
 refine⟨λm σ H'=>∃(L:List Str)(W:List V)(Wt:List Pc)(o:Option V),σ=[some (.ref a),some (.ref l1),some (.ref l2),o]/\aC H H'/\H' l1=some (.lst (L.map V.str))/\H' l2=some (.lst W)/\cN (PU c H') W Wt/\
   L++Wt.reverse.flatMap Pc.flat=t.words/\N2 Wt<=4*t.size/\m=N2 Wt,
  ⟨_,[],[.ref a],[.t t],_,rfl,WN,by rw[aj OU,ae];rfl,ae,.cons (.t (oa.to (Kp.of WN))) .nil,by simp[Pc.flat],by simp[N2,Pc.wt],rfl⟩,?_⟩
 rintro m σ H' ⟨L,W,Wt,o,rfl,sm,e1,e2,oW,hp,hb,rfl⟩
 have hLn:L.length<=4000:=by
  have z:=y9 List.length hp;rw[p7]at z;have z2:=jj t;omega
 by_cases hw:W=[]
 .subst hw;cases oW
  refine⟨_,rfl,false,.inl ⟨[],Nq.of e2,rfl⟩,bz ?_⟩;have eL:L=t.words:=by simpa using hp
  subst eL;have ws:=EB t;refine⟨rfl,_,rfl,_,l1,t.words,rfl,rfl,Nq.of e1,by omega,?_⟩;rw[pj];exact q _ sm
 .obtain⟨W',v,Ou,x,rfl,rfl,px,VQ⟩:=oW.last hw;refine⟨_,rfl,true,.inl ⟨_,Nq.of e2,by cases W'<;>rfl⟩,cL ?_⟩;have sz:N2 (Ou++[x])=N2 Ou+x.wt:=by rw[Dh];simp[N2]
  refine⟨λσ' NB=>∃m',m'<N2 (Ou++[x])/\∃(L:List Str)(W:List V)(Wt:List Pc)(o:Option V),σ'=[some (.ref a),some (.ref l1),some (.ref l2),o]/\aC H NB/\NB l1=some (.lst (L.map V.str))/\NB l2=some (.lst W)/\cN (PU c NB) W Wt/\
   L++Wt.reverse.flatMap Pc.flat=t.words/\N2 Wt<=4*t.size/\m'=N2 Wt,λ_ _ z=>z,?_⟩
  refine⟨_,rfl,.inl ⟨rfl,_,Nq.of e2⟩,l2,_,_,rfl,rfl,e2,bJ _ _,?_⟩;rw[x5];have P6:upd H' l2 (.lst W') l1=some (.lst (L.map V.str)):=by rw[aj OU];exact e1
  have k0:Kp H' (upd H' l2 (.lst W')):=bA e2 rfl;cases px with
  | w y =>
   refine⟨_,rfl,_,_,_,_,true,rfl,(λ_ h=>h),jL.str _,lj,_,rfl,cL ?_⟩;refine⟨_,rfl,.inl ⟨rfl,_,Nq.of P6⟩,_,rfl,l1,_,_,rfl,rfl,P6,by rw[g6];exact j7 hLn (by decide),?_⟩;have k1:=k0.trans (bA (u:=.lst (L.map V.str++[.str y])) P6 rfl);refine⟨N2 Ou,by rw[sz];exact Lq _,L++[y],W',Ou,_,rfl,λd o z=>?_,by rw[ae,x9];rfl,by rw[aj OU.symm,ae],VQ.imp (PU.to k1),?_,by rw[sz]at hb;omega,rfl⟩
   .rw[aj (ak z h1),aj (ak z h2)];exact sm d o z
   .rw[<- hp];simp[Pc.flat]
  | @t b x ob =>
   have ob0:=ob.to k0;refine⟨_,rfl,_,_,_,_,false,rfl,(λ_ h=>h),F.ty ob0,F.ks x,_,rfl,bz ?_⟩;obtain⟨dx,fs,eb,nf⟩:=ob0.cls;refine⟨_,rfl,.inl ⟨rfl,_,Nq.of ae⟩,_,rfl,b,_,_,_,_,_,rfl,eb,nf _ (by decide+kernel),M.pieces x,b,rfl,ob0,λl us hl ou=>?_⟩;refine⟨l,us,rfl,ae,λl' UI=>?_⟩;have Zu:l2≠l:=ak (ae (H:=H')) hl;have nl2':l2≠l':=ak (show upd (upd H' l2 (.lst W')) l (.lst us) l2=some (.lst W') by rw[aj Zu,ae]) UI;have PJ:upd (upd (upd H' l2 (.lst W')) l (.lst us)) l' (.lst us.reverse) l2=some (.lst W'):=by rw[aj nl2',aj Zu,ae]
   have hWl:=VQ.len;have VX:=ou.len;have NR:=QT x;have hWs:=Ed Ou;refine⟨l2,l',_,_,rfl,rfl,PJ,ae,by rw[hWl,p6,VX];exact h8 (show _<=4005 by rw[sz]at hb;omega) (by decide),?_⟩;have k2:Kp (upd H' l2 (.lst W')) (upd (upd (upd (upd H' l2 (.lst W')) l (.lst us)) l' (.lst us.reverse)) l2 (.lst (W'++us.reverse))):=((BY hl _).trans (BY UI _)).trans (bA PJ rfl);have k3:=k0.trans k2;have pw:=Fj x;have lt:N2 (Ou++x.pieces.reverse)<N2 (Ou++[Pc.t x]):=by rw[sz,Dh,Qa];show _<N2 Ou+4*x.size;omega
   have VS:l1≠l:=ak P6 hl;have nl1':l1≠l':=ak (show upd (upd H' l2 (.lst W')) l (.lst us) l1=some (.lst (L.map V.str)) by rw[aj VS];exact P6) UI;refine⟨N2 (Ou++x.pieces.reverse),lt,L,W'++us.reverse,Ou++x.pieces.reverse,_,rfl,λd o z=>?_,by rw[aj OU,aj nl1',aj VS];exact P6,ae,(VQ.imp (PU.to k3)).app ((ou.imp (PU.to k2)).rev),?_,by omega,rfl⟩
   .have z1:upd H' l2 (.lst W') d=some o:=by rw[aj (ak z h2)];exact sm d o z
    have z2:upd (upd H' l2 (.lst W')) l (.lst us) d=some o:=by rw[aj (ak z1 hl)];exact z1
    rw[aj (ak z h2),aj (ak z2 UI)];exact z2
   .rw[<- hp];simp only[List.reverse_append,Ll,List.flatMap_append,l8,List.reverse_nil,Nh,MV,List.flatMap_nil,A6,zm,Pc.flat]
theorem yS:ao ["saying","one","other","made","part"] ["saying","one","other"] (ai Ih):=L2.fsc
theorem Jc(T:aA K mg "put_in" Ih)(M:Ms P w K mg base c)(G:∀t,aJ P w K mg base (c.of t) "laid_out" 2 ["self"] (mG c t)):Def P w K mg base 5 "put_in" ["saying","one","other"] (Dt c):=by
 refine aY T yS (λ_ _ _ _ _ _=>L2.ar3 λ_ _ _=>rfl) ?_ ?_
 .walk_at "i1"
 walk_at "i2";obtain⟨a,p,r,t,u,v,rfl,oa,op,or,ht,q⟩:=h;have nd:=yS.nd
 refine⟨_,(ag (aD (i:=3) (bg af))
  (ag (dj z9 rfl (bV (bo (k:=2) (pv 0) (hr.mono (by omega)))) (aX (i:=4)) (ah (aS (kW (k:=4) (pv 4) (hr.mono (by decide)) (aa (pv 3) (aa (pv 1) (aa (pv 2) af)))))))
  (ah (av (cp b9 u7 u9 cU (pv 3)))))),?_⟩
 refine⟨Mine.z0,λl1 h1=>?_⟩;have WO:aC H (upd H l1 (.lst [])):=au h1 _;have Xa:=oa.to (Kp.of WO);obtain⟨dx,fs,ea,nf⟩:=Xa.cls;refine⟨_,rfl,a,_,_,_,_,_,rfl,ea,nf _ (by decide+kernel),G t,a,rfl,Xa,ht,λl us H' sm hl el ou=>⟨l,rfl,⟨_,Nq.of el⟩,?_⟩⟩;have nl:l≠l1:=λe=>by subst e;rw[ae]at hl;cases hl
 have smA:=WO.trans sm
 refine dY (xs:=us) (λi σ H2=>∃(o:Option V)(R:List Tr)(ws:List V),σ=[some (.ref a),some (.ref p),some (.ref r),some (.ref l1),o]/\SB (.ref l1) H' H2/\H2 l1=some (.lst ws.reverse)/\cN (N0 c H2) ws R/\R.length<=i/\(mP u v).run R (t.post.drop i)=some [t.put u v])
  ⟨none,[],[],rfl,SB.refl _ _,sm _ _ ae,.nil,f7 _,DQ _ t⟩ (λi σ H2 _ h=>?_) (λi vv σ H2 hi h=>?_) (λσ H2 h=>?_)
 .obtain⟨o,R,ws,_,sb,_⟩:=h;exact Nq.of (sb _ _ el λz=>nl (V.ref.inj z))
 .obtain⟨o,R,ws,rfl,sb,e,oR,hR,NN⟩:=h;obtain⟨z,hz,b,rfl,ob⟩:=ou.get i vv hi;rw[oN hz]at NN;obtain⟨R',hs,NW⟩:=zg NN;have kp:Kp H' H2:=sb.kp λa' o' z1 z2=>by cases z1;rw[sm _ _ ae]at z2;cases z2;rfl
  have O2:=ob.to kp;obtain⟨dx',YA,eb,VT⟩:=O2.cls;have ZG:i<t.post.length:=(j6.mp hz).1;rw[dn]at ZG;have kA:=(Kp.of smA).trans kp;refine⟨_,rfl,b,_,_,_,_,_,rfl,eb,VT _ (by decide+kernel),M.remake z,_,rfl,_,rfl,_,rfl,b,l1,p,r,u,v,R,R',ws,rfl,O2,op.to kA,or.to kA,e,oR,by omega,hs,λH3 us' sb3 e3 o3=>?_⟩;exact⟨_,R',us',rfl,sb.trans sb3,e3,o3,h8 (yC hs) (Nat.succ_le_succ hR),NW⟩
 .obtain⟨o,R,ws,rfl,sb,e,oR,hR,NN⟩:=h;have ul:=ou.len;rw[ul,Ma]at NN;have eR:R=[t.put u v]:=i7 NN;subst eR;cases oR with
  | cons hb hr0 =>
   cases hr0
   obtain⟨z,rfl,oz⟩:=hb;refine⟨_,rfl,.inl ⟨rfl,_,Nq.of e⟩,l1,_,_,rfl,rfl,e,rfl,q z _ (λb o zz=>?_) (oz.to (bA e rfl))⟩;rw[aj (ak zz h1)];exact sb b o (smA b o zz) λz1=>(ak zz h1) (V.ref.inj z1)
theorem lX(u:W5)(a b:Tr):(Tr.fold u a b).nf=a.nf+b.nf+1:=by
 show((a.post++b.post++[Tr.fold u a b]).map isF).countP id=_;rw[x9,x9,ML,ML];rfl
inductive NQ where
 | text (k:Int) | call (x:Str) | name (x:Str) | no (j:Nat)
noncomputable def NQ.cls:NQ->Nat
 | .text _=>0 | .call _=>3 | .name _=>4 | .no j=>5+j
noncomputable def NQ.flds:NQ->Option (List (Str×V))
 | .text k=>some [("at",.int k)]
 | .call x=>some [("line",.str x)]
 | .name x=>some [("name",.str x)]
 | .no _=>none
noncomputable def noS(j:Nat):Str:=match j with | 0=>"number" | 1=>"many" | 2=>"point" | 3=>"letter" | _=>"cut"
noncomputable def NQ.dat:NQ->PyData
 | .text k=>.tuple [.str "text",.int k]
 | .call x=>.tuple [.str "call",.str x]
 | .name x=>.tuple [.str "name",.str x]
 | .no j=>.tuple [.str (noS j),.none]
@[reducible] noncomputable def EW (C:Nat->Addr) (E:XK) (H:Hp) (w:NQ):Prop:=match w.flds with | none=>EC (C w.cls) E H | some fs=>EF (C w.cls) E H fs
theorem EW.to{H:Hp}{w:NQ}(h:EW C E H w)(s:aC H H'):EW C E H' w:=by
 unfold EW at h ⊢;cases z:w.flds with
 | none=>rw[z]at h;exact EC.to h s
 | some fs=>rw[z]at h;exact EF.to h s
inductive Oc where
 | tell (x:Str) | bad (w:NQ)
def Oc.go(C:Nat->Addr)(H:Hp)(Q:VK)(E:XK):Oc->Prop
 | .tell x=>∀H',aC H H'->Q (.str x) H'
 | .bad w=>EW C E H w
theorem Oc.go.to{H:Hp}(h:o.go C H Q E)(s:aC H H'):o.go C H' Q E:=by
 cases o with
 | tell x=>exact λH2 s2=>h H2 (s.trans s2)
 | bad w=>exact EW.to h s
inductive uM(t:Tr):Str->Oc->Prop where
 | show:uM t "show" (.tell t.text)
 | line {i:Nat}:idx t.rows (fK "q" [])=some i->uM t "line" (.bad (.no 3))
 | manyL:8<t.nf->uM t "least" (.bad (.no 1))
 | manyA:8<t.nf->uM t "always" (.bad (.no 1))
 | manyS:8<t.nf->uM t "steps" (.bad (.no 1))
 | least:t.nf<=8->N6 t->uM t "least" (.tell "0")
 | always:t.nf<=8->N6 t->uM t "always" (.tell "no")
 | steps:t.nf<=8->N6 t->uM t "steps" (.tell "1")
inductive Lb(a b:Tr):Str->Prop where
 | lack:7<a.nf+b.nf->Lb a b "lack"
 | alike:8<a.nf+b.nf->Lb a b "alike"
inductive iA(c:CCs)(CM:Addr)(k:Nat)(vs:List V)(H:Hp)(_:VK)(E:XK):Prop
 | mk (x y:Addr) (a b:Tr):vs=[.ref x,.ref y]->Ob c H x a->Ob c H y b->a.size+b.size<=800->k<a.nf+b.nf->EC CM E H->iA c CM k vs H _ E
inductive yG(c:CCs)(C:Addr)(vs:List V)(H:Hp)(Q:VK)(E:XK):Prop
 | mk (a:Addr) (t:Tr) (i:Nat):vs=[.ref a]->Ob c H a t->t.size<=1000->idx t.rows (fK "q" [])=some i->EC C E H->yG c C vs H Q E
inductive Bb(c:CCs)(CP:Addr)(vs:List V)(H:Hp)(_:VK)(E:XK):Prop
 | mk (a l:Addr) (t:Tr) (x y z:Str) (i j k:Int):vs=[.ref a,.ref l]->Ob c H a t->t.size<=1000->H l=some (.lst [.str x,.str y,.str z])->(x.length<=640/\PySem.intText? x=some i)->(y.length<=640/\PySem.intText? y=some j)->(z.length<=640/\PySem.intText? z=some k)->Pu i j k=false->EC CP E H->Bb c CP vs H _ E
def HY(c:CCs)(CM:Addr):Sp:=λvs H Q E=>Hl c CM vs H E (∀H',aC H H'->Q (.str "1") H')
inductive wO(vs:List V)(H:Hp)(Q:VK)(E:XK):Prop
 | mk (b:Bool):vs=[.bl b]->Q (.str (if b=true then "yes" else "no")) H->wO vs H Q E
inductive wW(c:CCs)(C:Nat->Addr)(vs:List V)(H:Hp)(Q:VK)(E:XK):Prop
 | mk (x:Str) (a:Addr) (t:Tr) (o:Oc):vs=[.str x,.ref a]->Ob c H a t->t.size<=900->uM t x o->o.go C H Q E->wW c C vs H Q E
inductive wQ(c:CCs)(CM:Addr)(vs:List V)(H:Hp)(_:VK)(E:XK):Prop
 | mk (w:Str) (x y:Addr) (a b:Tr):vs=[.str w,.ref x,.ref y]->Ob c H x a->Ob c H y b->a.size+b.size<=800->Lb a b w->EC CM E H->wQ c CM vs H _ E
theorem Jw(T:aA K mg "cutting_for_both" eP)(GF:∀t,aJ P w K mg base (c.of t) "folds" 3 ["self"] (nQ c t))(ji:cq P w K mg base 1 "must_be_few" ["folds"] (rH CM)):cq P w K mg base 5 "cutting_for_both" ["one","other"] (iA c CM 8):=by
 refine cm T md (λ_ _ _ _ _ _=>ar2 λ_ _=>rfl) ?_ ?_
 .walk_at "i1"
 walk_at "i2";obtain⟨x,y,a,b,rfl,oa,ob,sz,n8,k⟩:=h;obtain⟨dx,fs,ea,nf⟩:=oa.cls;refine⟨_,ag (aS (bE ji (hr.mono (by decide)) rfl (aa (aO gP (bo (k:=3) (pv 0) (hr.mono (by decide))) (bo (k:=3) (pv 1) (hr.mono (by decide)))) af))) jD,?_⟩;refine⟨_,rfl,x,_,_,_,_,_,rfl,ea,nf _ (by decide+kernel),GF a,x,rfl,oa,by omega,λH1 s1=>?_⟩;have Q7:=ob.to (Kp.of s1);obtain⟨dy,fy,ey,ny⟩:=Q7.cls;exact⟨_,rfl,y,_,_,_,_,_,rfl,ey,ny _ (by decide+kernel),GF b,y,rfl,Q7,by omega,λH2 s2=>⟨_,_,rfl,rfl,_,rfl,λ_=>k.to (s1.trans s2),λz=>absurd z (by omega)⟩⟩
theorem BL(T:aA K mg "alike" xu)(nA:cq P w K mg base 5 "cutting_for_both" ["one","other"] (iA c CM 8)):cq P w K mg base 6 "alike" ["one","other"] (iA c CM 8):=by
 refine cm T zc (λ_ _ _ _ _ _=>ar2 λ_ _=>rfl) ?_ ?_
 .walk_at "i1"
 walk_at "i2";obtain⟨x,y,a,b,rfl,oa,ob,sz,n8,k⟩:=h;have nd:=zc.nd;refine⟨_,ag (aD (i:=2) (bE nA (hr.mono (by decide)) rfl (aa (pv 0) (aa (pv 1) af)))) jD,?_⟩;exact⟨_,rfl,_,rfl,x,y,a,b,rfl,oa,ob,sz,n8,k⟩
theorem FG(T:aA K mg "lack" Bp)(dC:∀u:W5,jf P w K mg base u.cls (c.fold u) 1 ["self","one","other"] (gY (c.fold u)))(dZ:cq P w K mg base 7 "least_worth" ["saying"] (xb c K CM)):cq P w K mg base 8 "lack" ["one","other"] (iA c CM 7):=by
 refine cm T DK (λ_ _ _ _ _ _=>ar2 λ_ _=>rfl) ?_ ?_
 .walk_at "i1"
 walk_at "i2";obtain⟨x,y,a,b,rfl,oa,ob,sz,n8,k⟩:=h;have nd:=DK.nd;have VT:=lX .leads a b;have sz':(Tr.fold .leads a b).size=a.size+b.size+1:=rfl;refine⟨_,ag (aD (i:=2) (bE dZ (hr.mono (by decide)) rfl (aa (iQ (dC .leads) (aa (pv 0) (aa (pv 1) af))) af))) jD,?_⟩;refine⟨_,rfl,_,rfl,λz dz h1 h2 ne=>⟨z,dz,_,_,rfl,ae,rfl,?_⟩⟩;have sm:=fJ (C:=c.fold .leads) (fs:=ue (.ref x) (.ref y)) h1 h2 ne;exact⟨z,.fold .leads a b,rfl,.fold ae (oa.to (Kp.of sm)) (ob.to (Kp.of sm)),by omega,λ_=>k.to sm,λz=>absurd z (by omega)⟩
theorem ok_lo0{C:Addr}(T:aA K mg "line_of" pO)(jN:Def P w K mg base 3 "rows_of" ["saying"] (nO c))(mv:cq P w K mg base 1 "must_be_without_q" ["rows"] (spD (Be C))):cq P w K mg base 4 "line_of" ["saying"] (yG c C):=by
 refine cm T sZ (λ_ _ _ _ _ _=>ar1 λ_=>rfl) ?_ ?_
 .walk_at "i1"
 walk_at "i2";obtain⟨a,t,i,rfl,oa,hz,hi,q⟩:=h;have nd:=sZ.nd;refine⟨_,ag (aD (i:=1) (aN jN (aa (pv 0) af))) (ag (aS (bE mv (hr.mono (by decide)) rfl (aa (pv 1) af))) jD),?_⟩;refine⟨_,rfl,a,t,rfl,oa,hz,λl us H1 s1 hl el al=>?_⟩;have hok:∀x∈t.rows,rz x:=rK t [] λ_ z=>nomatch z;refine⟨_,rfl,l,us,t.rows,rfl,el,al,hok,?_⟩;rw[hi];exact λH2 s2 dc=>q dc H2 (s1.trans s2)
theorem Jk{C:Addr}(T:aA K mg "line_written" iC)(Hq:cq P w K mg base 4 "line_of" ["saying"] (yG c C)):cq P w K mg base 5 "line_written" ["saying"] (yG c C):=by
 refine cm T qR (λ_ _ _ _ _ _=>ar1 λ_=>rfl) ?_ ?_
 .walk_at "i1"
 walk_at "i2";obtain⟨a,t,i,rfl,oa,hz,hi,q⟩:=h;refine⟨_,(ah (av (bx A4 K8 K9 rR az (aa (fD (bV (bE Hq (hr.mono (by decide)) rfl (aa (pv 0) af))) dS (λ_ _ _ _=>eJ) (λ_ _ _ _=>iR)) af)))),?_⟩;refine⟨rfl,il ?_⟩;exact⟨_,rfl,a,t,i,rfl,oa,hz,hi,q⟩
theorem ok_ww61(T:aA K mg "worth_written" gy)(oU:mg "int"=none)(eM:mg "tuple"=none)(ym:cq P w K mg base 4 "worth" ["saying","point"] (lO c K CP))(bU:Def P w K mg base 2 "whole_written" ["number"] kF):cq P w K mg base 5 "worth_written" ["saying","numbers"] (Bb c CP):=by
 refine cm T pH (λ_ _ _ _ _ _=>ar2 λ_ _=>rfl) ?_ ?_
 .walk_at "i1"
 walk_at "i2";obtain⟨a,l,t,x,y,z,i,j,k,rfl,oa,sz,el,hx,hy,hz,pt,q⟩:=h;refine⟨_,(ah (av (aN bU (aa (bE ym (hr.mono (by decide)) rfl (aa (pv 0) (aa (ig je eM (aa (fD (bV (pv 1)) dS (λ_ _ _ _=>eJ) (λ_ _ _ _=>(ig GI oU (aa (pv 0) af)))) af)) af))) af)))),?_⟩;refine⟨_,rfl,?_⟩;dsimp only[So,gg,nG];refine comp_map (K:=K) (xs:=[.str x,.str y,.str z]) (ts:=[(x,i),(y,j),(z,k)]) (R:=λH v (p:Str×Int)=>v=.str p.1/\p.1.length<=640/\PySem.intText? p.1=some p.2) (λp=>V.int p.2) (λH H' v t s z=>z) (λl' H'=>l'=l/\H'=H) (λR k=>⟨_,rfl,l,rfl,⟨_,Nq.of el⟩,k l H ⟨rfl,rfl⟩⟩) (λl' H' z=>by obtain⟨rfl,rfl⟩:=z;exact⟨el,aC.refl _⟩) (by show 3<=1000;decide) (.cons ⟨rfl,hx⟩ (.cons ⟨rfl,hy⟩ (.cons ⟨rfl,hz⟩ .nil))) (λv p H' N hm rv hN=>?_) (λD H1 s1 hD eD=>?_)
 .obtain⟨rfl,h1,h2⟩:=rv;exact⟨_,rfl,_,_,rfl,h1,h2,hN _ (aC.refl _)⟩
 .refine⟨D,_,rfl,.inl ⟨Nq.of eD,λtt htt=>?_⟩⟩;have u:=au htt (.tup [.int i,.int j,.int k]);have s2:=s1.trans u;exact⟨a,tt,t,i,j,k,rfl,oa.to (Kp.of s2),sz,Nv.of ae,λ_=>q.to s2,λz=>by rw[pt]at z;cases z⟩
theorem ok_yn61(T:aA K mg "yes_or_no" kM):Def P w K mg base 1 "yes_or_no" ["truth"] wO:=by
 refine aY T xp (λ_ _ _ _ _ _=>ar1 λ_=>rfl) ?_ ?_
 .walk_at "i1"
 walk_at "i2";obtain⟨b,rfl,q⟩:=h;refine⟨_,(ah (av (cI (kU (pv 0) (λ_=>rfl)) az az))),?_⟩;cases b
 .exact⟨_,rfl,_,rfl,bz q⟩
 .exact⟨_,rfl,_,rfl,cL q⟩
theorem ok_sw61(T:aA K mg "steps_written" gE)(uI:cq P w K mg base 8 "fewest_steps" ["saying"] (Du c CM))(bU:Def P w K mg base 2 "whole_written" ["number"] kF):cq P w K mg base 9 "steps_written" ["saying"] (HY c CM):=by
 refine cm T jt (λ_ _ _ _ _ _=>ar1 λ_=>rfl) ?_ ?_
 .walk_at "i1"
 walk_at "i2";obtain⟨x,t,rfl,oa,sz,q1,q2⟩:=h;have nd:=jt.nd
 refine⟨_,(ag (aD (i:=1) (bE uI (hr.mono (by decide)) rfl (aa (pv 0) af)))
  (ah (av (cI (aB tN (pv 1) cf (aE _)) az (aN bU (aa (aL aV (pv 1) aq) af)))))),?_⟩
 refine⟨_,rfl,x,t,rfl,oa,sz,q1,λn8=>?_⟩;obtain⟨ch,k⟩:=q2 n8;refine⟨ch,λp r H1 s1 ep=>?_⟩;refine⟨_,rfl,rfl,_,rfl,bz ⟨_,rfl,_,_,_,_,rfl,rfl,Nv.of ep,rfl,1,rfl,by decide,by decide,λH2 s2=>?_⟩⟩;exact k _ (s1.trans s2)
theorem Jf(T:aA K mg "asked_of_one" iG)(GT:∀t,aJ P w K mg base (c.of t) "told" 3 ["self"] (Bc c t))(uH:cq P w K mg base 5 "line_written" ["saying"] (yG c (C 8)))(dZ:cq P w K mg base 7 "least_worth" ["saying"] (xb c K (C 6)))(La:cq P w K mg base 8 "always" ["saying"] (Dx c (C 6)))(rB:cq P w K mg base 9 "steps_written" ["saying"] (HY c (C 6)))(qp:Def P w K mg base 3 "written" ["one"] (lN K))(lG:Def P w K mg base 1 "yes_or_no" ["truth"] wO):cq P w K mg base 10 "asked_of_one" ["word","saying"] (wW c C):=by
 refine cm T qT (λ_ _ _ _ _ _=>ar2 λ_ _=>rfl) ?_ ?_
 .walk_at "i1"
 walk_at "i2";obtain⟨x,a,t,o,rfl,oa,sz,ask,go⟩:=h
 refine⟨_,(ag (aP (aB bf (pv 0) az (aE _)) (ah (av (bo (k:=3) (pv 1) (hr.mono (by omega))))) aG)
  (ag (aP (aB bf (pv 0) az (aE _)) (ah eI) aG)
  (ag (aP (aB bf (pv 0) az (aE _)) (ah (av (bE uH (hr.mono (by decide)) rfl (aa (pv 1) af)))) aG)
  (ag (aP (aB bf (pv 0) az (aE _)) (ah (av (aN qp (aa (aL aV (bE dZ (hr.mono (by decide)) rfl (aa (pv 1) af)) aq) af)))) aG)
  (ag (aP (aB bf (pv 0) az (aE _)) (ah (av (aN lG (aa (cZ bf (aL aV (bE La (hr.mono (by decide)) rfl (aa (pv 1) af)) aq) az (aE _)) af)))) aG)
  (ah (av (bE rB (hr.mono (by decide)) rfl (aa (pv 1) af))))))))),?_⟩
 cases ask with
 | «show» =>
  obtain⟨dx,fs,ea,nf⟩:=oa.cls;exact⟨_,rfl,rfl,_,rfl,ite_yes rfl ⟨_,rfl,a,_,_,_,_,_,rfl,ea,nf _ (by decide+kernel),GT t,a,rfl,oa,by omega,go⟩⟩
 | line hi =>
  exact⟨_,rfl,rfl,_,rfl,Mine.qqN ⟨_,rfl,rfl,_,rfl,Mine.qqN ⟨_,rfl,rfl,_,rfl,ite_yes rfl ⟨_,rfl,a,t,_,rfl,oa,by omega,hi,go⟩⟩⟩⟩
 | manyL n =>
  exact⟨_,rfl,rfl,_,rfl,Mine.qqN ⟨_,rfl,rfl,_,rfl,Mine.qqN ⟨_,rfl,rfl,_,rfl,Mine.qqN ⟨_,rfl,rfl,_,rfl,ite_yes rfl ⟨_,rfl,a,t,rfl,oa,sz,λ_=>go,λz=>absurd z (by omega)⟩⟩⟩⟩⟩
 | manyA n =>
  exact⟨_,rfl,rfl,_,rfl,Mine.qqN ⟨_,rfl,rfl,_,rfl,Mine.qqN ⟨_,rfl,rfl,_,rfl,Mine.qqN ⟨_,rfl,rfl,_,rfl,Mine.qqN ⟨_,rfl,rfl,_,rfl,ite_yes rfl ⟨_,rfl,a,t,rfl,oa,sz,λ_=>go,λz=>absurd z (by omega)⟩⟩⟩⟩⟩⟩
 | manyS n =>
  exact⟨_,rfl,rfl,_,rfl,Mine.qqN ⟨_,rfl,rfl,_,rfl,Mine.qqN ⟨_,rfl,rfl,_,rfl,Mine.qqN ⟨_,rfl,rfl,_,rfl,Mine.qqN ⟨_,rfl,rfl,_,rfl,Mine.qqN ⟨_,rfl,a,t,rfl,oa,sz,λ_=>go,λz=>absurd z (by omega)⟩⟩⟩⟩⟩⟩
 | least n ch =>
  refine⟨_,rfl,rfl,_,rfl,Mine.qqN ⟨_,rfl,rfl,_,rfl,Mine.qqN ⟨_,rfl,rfl,_,rfl,Mine.qqN ⟨_,rfl,rfl,_,rfl,ite_yes rfl ⟨_,rfl,a,t,rfl,oa,sz,λz=>absurd z (by omega),λ_=>⟨ch,λp vl vp vt H1 s1 ep fl=>?_⟩⟩⟩⟩⟩⟩;obtain⟨la,rfl,sl⟩:=fl;exact⟨_,_,_,_,rfl,rfl,Nv.of ep,rfl,la,0,rfl,sl,by decide,by decide,λH2 s2=>go _ (s1.trans s2)⟩
 | always n ch =>
  refine⟨_,rfl,rfl,_,rfl,Mine.qqN ⟨_,rfl,rfl,_,rfl,Mine.qqN ⟨_,rfl,rfl,_,rfl,Mine.qqN ⟨_,rfl,rfl,_,rfl,Mine.qqN ⟨_,rfl,rfl,_,rfl,ite_yes rfl ⟨_,rfl,a,t,rfl,oa,sz,λz=>absurd z (by omega),λ_=>⟨ch,λp vp H1 s1 ep=>?_⟩⟩⟩⟩⟩⟩⟩;refine⟨_,_,_,_,rfl,rfl,Nv.of ep,rfl,rfl,false,?_,go _ s1⟩;rw[show decide (V.str "less"=V.str "always")=false by decide+kernel];rfl
 | steps n ch =>
  exact⟨_,rfl,rfl,_,rfl,Mine.qqN ⟨_,rfl,rfl,_,rfl,Mine.qqN ⟨_,rfl,rfl,_,rfl,Mine.qqN ⟨_,rfl,rfl,_,rfl,Mine.qqN ⟨_,rfl,rfl,_,rfl,Mine.qqN ⟨_,rfl,a,t,rfl,oa,sz,λz=>absurd z (by omega),λ_=>⟨ch,go⟩⟩⟩⟩⟩⟩⟩
theorem IT(T:aA K mg "asked_of_two" iF)(VI:cq P w K mg base 8 "lack" ["one","other"] (iA c CM 7))(Sf:cq P w K mg base 6 "alike" ["one","other"] (iA c CM 8))(qp:Def P w K mg base 3 "written" ["one"] (lN K))(lG:Def P w K mg base 1 "yes_or_no" ["truth"] wO):cq P w K mg base 9 "asked_of_two" ["word","one","other"] (wQ c CM):=by
 refine cm T qS (λ_ _ _ _ _ _=>ar3 λ_ _ _=>rfl) ?_ ?_
 .walk_at "i1"
 walk_at "i2";obtain⟨w,x,y,a,b,rfl,oa,ob,sz,ask,q⟩:=h
 refine⟨_,(ag (aP (aB bf (pv 0) az (aE _)) (ah (av (aN qp (aa (aL aV (bE VI (hr.mono (by decide)) rfl (aa (pv 1) (aa (pv 2) af))) aq) af)))) aG)
  (ah (av (aN lG (aa (cZ bf (aL aV (bE Sf (hr.mono (by decide)) rfl (aa (pv 1) (aa (pv 2) af))) aq) az (aE _)) af))))),?_⟩
 cases ask with
 | lack n=>exact⟨_,rfl,rfl,_,rfl,ite_yes rfl ⟨_,rfl,_,rfl,x,y,a,b,rfl,oa,ob,sz,n,q⟩⟩
 | alike n=>exact⟨_,rfl,rfl,_,rfl,Mine.qqN ⟨_,rfl,_,rfl,x,y,a,b,rfl,oa,ob,sz,n,q⟩⟩
theorem sv{H:Hp}:∀S:List Str,DatAll K H (S.map PyData.str) (S.map V.str)
 | []=>rfl
 | x::S=>⟨.str x,S.map V.str,rfl,rfl,sv S⟩
theorem yB:∀S:List Str,(∀x∈S,PyData.strOk x=true)->PyData.canLayAll0 (S.map PyData.str)=true
 | [],_=>by simp[PyData.canLayAll0]
 | x::S,h=>by simp[PyData.canLayAll0,PyData.canLay0,h x (by simp),yB S λy hy=>h y (p8 _ hy)]
theorem vA:∀S:List Str,PyData.depthAll (S.map PyData.str)<=1
 | []=>by simp[PyData.depthAll]
 | x::S=>by
  have:=vA S;simp only[v7,PyData.depthAll,PyData.depth];omega
theorem Dn(h:∀x∈S,PyData.strOk x=true):SeqAt.shaped (.list (S.map PyData.str))=true:=by
 have h1:=yB S h;have h2:=vA S;have e1:(PyData.list (S.map PyData.str)).canLay0=PyData.canLayAll0 (S.map PyData.str):=by simp[PyData.canLay0]
 have e2:(PyData.list (S.map PyData.str)).depth=PyData.depthAll (S.map PyData.str)+1:=by simp[PyData.depth]
 unfold SeqAt.shaped;rw[e1,h1,e2,F4];exact j9 (by omega)
theorem wq(S:List Str):PyData.eqv (.list (S.map PyData.str)) (.list [])=S.isEmpty:=by
 cases S with
 | nil=>simp[PyData.eqv,PyData.eqvAll]
 | cons x S=>simp[PyData.eqv,PyData.eqvAll]
theorem wu{H:Hp}(h:H p=some (.lst [])):uF K H (.list []) (.ref p):=.inr ⟨[],p,[],rfl,rfl,Nq.of h,rfl⟩
def Z2(S:List Str):Prop:=∀x∈S,PyData.strOk x=true
theorem tR(h:Z2 S):Z2 (eS u S):=by
 intro x hx;unfold eS at hx;rcases D0.mp hx with hx | hx
 .split at hx
  .simp at hx;rcases hx with rfl | rfl | rfl | rfl<;>decide+kernel
  .cases hx
 .rcases D0.mp hx with hx | hx
  .split at hx
   .rw[y3.mp hx];decide+kernel
   .cases hx
  .exact h x hx
theorem FT(u:Str)(S:List Str):(eS u S).length<=S.length+5:=by
 unfold eS;rw[p7,p7];split<;>split<;>simp<;>omega
noncomputable abbrev fiN:List Str:=["words","wanted","at","word"]
theorem zi(x:Str)(S:List Str):((x::S).reverse).map V.str=S.reverse.map V.str++[V.str x]:=by rw[l8,x9];rfl
theorem tF:ao fiN ["words"] (ai mO):=L2.fsc
theorem BH(T:aA K mg "fault_in" mO)(eV:mg "enumerate"=none)(bC:mg "len"=none)(VJ:Def P w K mg base 2 "fits" ["word","wanted"] Bi):Def P w K mg base 3 "fault_in" ["words"] pD:=by
 refine aY T tF (λ_ _ _ _ _ _=>L2.ar1 λ_=>rfl) ?_ ?_
 .walk_at "i1"
 walk_at "i2";obtain⟨l,ws,rfl,el,hz,q⟩:=h;have nd:=tF.nd;have hu:=hr.units
 refine⟨_,(ag (aD (i:=1) (bg (aa az af)))
  (ag (dj z9 rfl (DT rfl eV (pv 0)) (mR rfl (bt (aX (i:=2)) (bt (aX (i:=3)) gf))) (ag (aP (PW.pt (vR (aB (xE hu) (pv 1) (bg af) (aE _)) (pW (mQ (gM (aN VJ (aa (pv 3) (aa (cp b9 u7 u9 cU (pv 1)) af)))))))) (ah (av (pv 2))) aG)
  (ag (aP (aB bf (pv 3) az (aE _)) (ah (aS (bx b9 g8 g9 aQ (pv 1) (aa az af)))) aG)
  (ah (aP (aB bf (pv 3) az (aE _)) (ah (aS (bx b9 LF LG qc (pv 1) (aa (bg (aa az (aa az (aa az (aa az af))))) af)))) aG)))))
  (ah (av (cI (aB (xE hu) (pv 1) (bg af) (aE _)) cf (aH bR bC (aa (pv 0) af))))))),?_⟩
 refine⟨Mine.z1,λl1 h1=>?_⟩;have n1:l≠l1:=ak el h1;have s1:=au h1 (.lst [V.str "saying"]);refine⟨_,rfl,l,rfl,⟨_,Nq.of (s1 _ _ el)⟩,?_⟩
 refine zZ (xs:=ws.map V.str) (λi σ H'=>aC H H'/\∃(S:List Str)(o1 o2:Option V),σ=[some (.ref l),some (.ref l1),o1,o2]/\H' l1=some (.lst (S.reverse.map V.str))/\Z2 S/\S.length<=1+5*i/\bL S (ws.drop i) i=bL ["saying"] ws 0)
  ⟨s1,["saying"],_,_,rfl,ae,λx hx=>by rw[y3.mp hx];decide+kernel,by simp,by rw[Nk]⟩ (λi σ H' _ z=>Nq.of (z.1 _ _ el)) (λi v T' σ H' hv z hT=>?_) (λσ H' z=>?_)
 .obtain⟨sm,S,o1,o2,rfl,e1,hS,hl,hf⟩:=z;rw[y4]at hv;obtain⟨u,UA,rfl⟩:=F0.mp hv;have hi:i<ws.length:=(j6.mp UA).1;rw[oN UA]at hf;have sT:=au hT (.tup [.int i,V.str u]);have e1T:=sT _ _ e1;refine⟨T',_,rfl,Nv.of ae,rfl,_,_,rfl,_,_,rfl,rfl,?_⟩;refine⟨_,rfl,Mine.z0,λp hp=>?_⟩;have sp:=au hp (.lst []);have ZQ:=sp _ _ e1T;refine⟨.list (S.reverse.map PyData.str),.list [],.inr ⟨_,l1,_,rfl,rfl,Nq.of ZQ,sv _⟩,wu ae,Dn (λx hx=>hS x (List.mem_reverse.mp hx)),by decide,_,rfl,?_⟩;rw[wq];have s2:aC H (upd (upd H' T' (.tup [.int i,V.str u])) p (.lst [])):=(sm.trans sT).trans sp;cases S with
  | nil =>
   refine cL (cL ⟨_,rfl,?_⟩);have z:=q _ s2;rw[<- hf]at z;exact z
  | cons x S =>
   have ne:(x::S).reverse.isEmpty=false:=by simp
   rw[ne];rw[zi]at ZQ;refine bz ⟨_,rfl,_,rfl,.inl ⟨rfl,_,Nq.of ZQ⟩,l1,_,_,rfl,rfl,ZQ,bJ _ _,?_⟩;rw[x5];refine⟨u,x,rfl,λH3 s3=>?_⟩;have YK:=s3 _ _ (ae (a:=l1) (o:=.lst (S.reverse.map V.str)));have Pa:aC H H3:=λb o hb=>s3 _ _ (by rw[aj (ak hb h1)];exact s2 _ _ hb)
   by_cases Ro:fM u x=true
   .rw[Ro];have hf':bL (eS u S) (ws.drop (i+1)) (i+1)=bL ["saying"] ws 0:=by rw[<- hf,fE Ro]
    have UI:=FT u S;have Pe:S.length+1<=1+5*i:=hl;refine⟨_,rfl,bz ?_⟩;refine⟨_,rfl,rfl,_,rfl,?_⟩
    by_cases hn:u="not"
    .subst hn;refine ite_yes rfl ⟨_,rfl,.inl ⟨rfl,_,Nq.of YK⟩,l1,_,_,rfl,rfl,YK,by rw[g6,p6];exact j7 (show _<=10000 by omega) (by decide),?_⟩;refine⟨_,rfl,rfl,_,rfl,Mine.qqN ?_⟩;refine⟨λb o hb=>by rw[aj (ak hb h1)];exact Pa _ _ hb,eS "not" S,_,_,rfl,?_,tR λy hy=>hS y (p8 _ hy),by omega,hf'⟩;rw[ae,lY,zi]
    .refine ite_no hn ⟨_,rfl,rfl,_,rfl,?_⟩
     by_cases ho:u="("
     .subst ho;refine ite_yes rfl ⟨_,rfl,.inl ⟨rfl,_,Nq.of YK⟩,Mine.z4,λp2 Py=>?_⟩;have VM:=au Py (.lst [V.str ")",.str "saying",.str "fold",.str "saying"]);refine⟨l1,p2,_,_,rfl,rfl,VM _ _ YK,ae,by rw[g6,p6];exact h8 (show _<=10000 by show S.length+4<=_;omega) (by decide),?_⟩;refine⟨λb o hb=>by rw[aj (ak hb h1)];exact VM _ _ (Pa _ _ hb),eS "(" S,_,_,rfl,?_,tR λy hy=>hS y (p8 _ hy),by omega,hf'⟩;rw[ae,oE];simp
     .refine ite_no ho ⟨Pa,eS u S,_,_,rfl,?_,tR λy hy=>hS y (p8 _ hy),by omega,hf'⟩;rw[bK ho hn];exact YK
   .have hb:fM u x=false:=by simpa using Ro
    rw[hb];refine⟨_,rfl,cL ⟨_,rfl,?_⟩⟩;have z:=q _ Pa;rw[<- hf]at z
    have ef:bL (x::S) (u::ws.drop (i+1)) i=some i:=by
     show(if fM u x=true then _ else _)=_;rw[h9 Ro]
    rw[ef]at z;exact z
 .obtain⟨sm,S,o1,o2,rfl,e1,hS,hl,hf⟩:=z;rw[g6,Ma]at hf;refine⟨_,rfl,Mine.z0,λp hp=>?_⟩;have sp:=au hp (.lst []);refine⟨.list (S.reverse.map PyData.str),.list [],.inr ⟨_,l1,_,rfl,rfl,Nq.of (sp _ _ e1),sv _⟩,wu ae,Dn (λx hx=>hS x (List.mem_reverse.mp hx)),by decide,_,rfl,?_⟩;rw[wq];have z:=q _ (sm.trans sp);rw[<- hf]at z;cases S with
  | nil=>exact cL z
  | cons x S =>
   have ne:(x::S).reverse.isEmpty=false:=by simp
   rw[ne];refine bz ⟨_,rfl,_,_,rfl,.inl ⟨_,Nq.of (sp _ _ (sm _ _ el)),rfl⟩,?_⟩;show Q (.int (((ws.map V.str).length:Nat):Int)) _;rw[g6];exact z
inductive xc(c:CCs)(vs:List V)(H:Hp)(Q:VK)(E:XK):Prop
 | mk (g:Tr):vs=[.str g.word]->g.kids=[]->(∀x H',aC H H'->Ob c H' x g->Q (.ref x) H')->xc c vs H Q E
inductive xh(c:CCs)(vs:List V)(H:Hp)(Q:VK)(E:XK):Prop
 | mk (u:W5) (b d:Addr) (x y:Tr):vs=[.str u.str,.ref b,.ref d]->Ob c H b x->Ob c H d y->(∀e H',aC H H'->Ob c H' e (.fold u x y)->Q (.ref e) H')->xh c vs H Q E
theorem vJ:ao ["word"] ["word"] (ai pP):=L2.fsc
theorem FF(T:aA K mg "leaf_by" pP)(R6:Mk0 K c.ne)(R7:mg "Never"=some (.ref c.ne))(KG:Mk0 K c.al)(KH:mg "Always"=some (.ref c.al))(KR:jf P w K mg base "Letter" c.le 1 ["self","name"] (eA c.le oM)):Def P w K mg base 3 "leaf_by" ["word"] (xc c):=by
 refine aY T vJ (λ_ _ _ _ _ _=>L2.ar1 λ_=>rfl) ?_ ?_
 .walk_at "i1"
 walk_at "i2";obtain⟨g,rfl,hg,q⟩:=h;have nd:=vJ.nd
 refine⟨_,(ag (aP (aB bf (pv 0) az (aE _)) (ah (av (zp R6 rfl R7))) aG)
  (ag (aP (aB bf (pv 0) az (aE _)) (ah (av (zp KG rfl KH))) aG)
  (ah (av (iQ KR (aa (pv 0) af)))))),?_⟩
 cases g with
 | no i=>cases hg
 | fold u i j=>cases hg
 | never =>
  refine⟨_,rfl,rfl,_,rfl,ite_yes rfl (λz dz h1 h2 ne=>?_)⟩;exact q z _ (tH (C:=c.ne) h1 h2) (.never ae)
 | always =>
  refine⟨_,rfl,rfl,_,rfl,Mine.qqN ?_⟩;refine⟨_,rfl,rfl,_,rfl,ite_yes rfl (λz dz h1 h2 ne=>?_)⟩;exact q z _ (tH (C:=c.al) h1 h2) (.always ae)
 | lp =>
  refine⟨_,rfl,rfl,_,rfl,Mine.qqN ?_⟩;refine⟨_,rfl,rfl,_,rfl,Mine.qqN ?_⟩;refine⟨_,rfl,λz dz h1 h2 ne=>⟨z,dz,_,rfl,ae,rfl,?_⟩⟩;exact q z _ (fJ (C:=c.le) (fs:=oM (.str "p")) h1 h2 ne) (.lp ae)
 | lq =>
  refine⟨_,rfl,rfl,_,rfl,Mine.qqN ?_⟩;refine⟨_,rfl,rfl,_,rfl,Mine.qqN ?_⟩;refine⟨_,rfl,λz dz h1 h2 ne=>⟨z,dz,_,rfl,ae,rfl,?_⟩⟩;exact q z _ (fJ (C:=c.le) (fs:=oM (.str "q")) h1 h2 ne) (.lq ae)
theorem vM:ao ["word","one","other"] ["word","one","other"] (ai pR):=L2.fsc
theorem FK(T:aA K mg "fold_by" pR)(dC:∀u:W5,jf P w K mg base u.cls (c.fold u) 1 ["self","one","other"] (gY (c.fold u))):Def P w K mg base 3 "fold_by" ["word","one","other"] (xh c):=by
 refine aY T vM (λ_ _ _ _ _ _=>L2.ar3 λ_ _ _=>rfl) ?_ ?_
 .walk_at "i1"
 walk_at "i2";obtain⟨u,b,d,x,y,rfl,ob,od,q⟩:=h;have nd:=vM.nd
 refine⟨_,(ag (aP (aB bf (pv 0) az (aE _)) (ah (av (iQ (dC .more) (aa (pv 1) (aa (pv 2) af))))) aG)
  (ag (aP (aB bf (pv 0) az (aE _)) (ah (av (iQ (dC .less) (aa (pv 1) (aa (pv 2) af))))) aG)
  (ag (aP (aB bf (pv 0) az (aE _)) (ah (av (iQ (dC .greater) (aa (pv 1) (aa (pv 2) af))))) aG)
  (ag (aP (aB bf (pv 0) az (aE _)) (ah (av (iQ (dC .lesser) (aa (pv 1) (aa (pv 2) af))))) aG)
  (ah (av (iQ (dC .leads) (aa (pv 1) (aa (pv 2) af))))))))),?_⟩
 have fin:∀(z dz:Addr),H z=none->H dz=none->dz≠z->Q (.ref z) (upd (upd (upd H dz (.own z)) z (.ins (c.fold u) dz [])) z (.ins (c.fold u) dz (ue (.ref b) (.ref d)))):=λz dz h1 h2 ne=>ij (Q:=Q) h1 h2 ne ob od q;cases u
 .refine⟨_,rfl,rfl,_,rfl,ite_yes rfl ?_⟩;exact⟨_,rfl,_,rfl,λz dz h1 h2 ne=>⟨z,dz,_,_,rfl,ae,rfl,fin z dz h1 h2 ne⟩⟩
 .refine⟨_,rfl,rfl,_,rfl,Mine.qqN ⟨_,rfl,rfl,_,rfl,ite_yes rfl ?_⟩⟩;exact⟨_,rfl,_,rfl,λz dz h1 h2 ne=>⟨z,dz,_,_,rfl,ae,rfl,fin z dz h1 h2 ne⟩⟩
 .refine⟨_,rfl,rfl,_,rfl,Mine.qqN ⟨_,rfl,rfl,_,rfl,Mine.qqN ⟨_,rfl,rfl,_,rfl,ite_yes rfl ?_⟩⟩⟩;exact⟨_,rfl,_,rfl,λz dz h1 h2 ne=>⟨z,dz,_,_,rfl,ae,rfl,fin z dz h1 h2 ne⟩⟩
 .refine⟨_,rfl,rfl,_,rfl,Mine.qqN ⟨_,rfl,rfl,_,rfl,Mine.qqN ⟨_,rfl,rfl,_,rfl,Mine.qqN ⟨_,rfl,rfl,_,rfl,ite_yes rfl ?_⟩⟩⟩⟩;exact⟨_,rfl,_,rfl,λz dz h1 h2 ne=>⟨z,dz,_,_,rfl,ae,rfl,fin z dz h1 h2 ne⟩⟩
 .refine⟨_,rfl,rfl,_,rfl,Mine.qqN ⟨_,rfl,rfl,_,rfl,Mine.qqN ⟨_,rfl,rfl,_,rfl,Mine.qqN ⟨_,rfl,rfl,_,rfl,Mine.qqN ?_⟩⟩⟩⟩;exact⟨_,rfl,_,rfl,λz dz h1 h2 ne=>⟨z,dz,_,_,rfl,ae,rfl,fin z dz h1 h2 ne⟩⟩
noncomputable abbrev mwN:List Str:=["words","made","fold_words","word","one","other"]
theorem wK{t:Tr}(h:t.kids=[]):t.word≠"("/\t.word≠"not"/\takes t.word=some 0/\t.word≠")":=by
 cases t with
 | no t=>cases h
 | fold u a b=>cases h
 | _=>exact⟨by decide+kernel,by decide+kernel,by decide+kernel,by decide+kernel⟩
theorem Qk{x:Str}(h:takes x=some n):pq x=.int n:=by unfold pq;rw[h]
theorem Qm:pq ")"=.non:=by unfold pq;rw[show takes ")"=none by decide+kernel]
noncomputable def xV(F:List W5):List V:=F.reverse.map λu=>V.str u.str
theorem wo(u:W5)(F:List W5):xV (u::F)=xV F++[V.str u.str]:=by unfold xV;rw[l8,x9];rfl
theorem yX:ao mwN ["words"] (ai gJ):=L2.fsc
theorem Ji(T:aA K mg "made_of_words" gJ)(fO:mg "reversed"=none)(cE:Def P w K mg base 1 "how_many_it_takes" ["word"] xg)(Hr:Def P w K mg base 3 "leaf_by" ["word"] (xc c))(Hv:Def P w K mg base 3 "fold_by" ["word","one","other"] (xh c))
  (KQ:jf P w K mg base "Not" c.no 1 ["self","part"] (eA c.no lB)):Def P w K mg base 4 "made_of_words" ["words"] (wZ c):=by
 refine aY T yX (λ_ _ _ _ _ _=>L2.ar1 λ_=>rfl) ?_ ?_
 .walk_at "i1"
 walk_at "i2";obtain⟨l,t,rfl,el,hz,q⟩:=h;have nd:=yX.nd
 refine⟨_,(ag (aD (i:=1) (bg af))
  (ag (aD (i:=2) (bg af))
  (ag (dj z9 rfl (T5 rfl fO (pv 0)) (aX (i:=3)) (ah (aP (aB bf (pv 3) az (aE _)) (ag (aD (i:=4) (cp b9 u7 u9 cU (pv 1)))
  (ag (aD (i:=5) (cp b9 u7 u9 cU (pv 1)))
  (ah (aS (bx b9 g8 g9 aQ (pv 1) (aa (aN Hv (aa (cp b9 u7 u9 cU (pv 2)) (aa (pv 4) (aa (pv 5) af)))) af)))))) (ah (aP (aB bf (pv 3) az (aE _)) (ah (aS (bx b9 g8 g9 aQ (pv 1) (aa (iQ KQ (aa (cp b9 u7 u9 cU (pv 1)) af)) af)))) (ah (aP (aB bf (aN cE (aa (pv 3) af)) aq (aE _)) (ah (aS (bx b9 g8 g9 aQ (pv 2) (aa (pv 3) af)))) (ah (aP (aB vW (pv 3) az (aE _)) (ah (aS (bx b9 g8 g9 aQ (pv 1) (aa (aN Hr (aa (pv 3) af)) af)))) aG)))))))))
  (ah (av (cp b9 u7 u9 cU (pv 1))))))),?_⟩
 refine⟨Mine.z0,λm hm=>⟨Mine.z0,λw2 hw'=>?_⟩⟩;have hw:H w2=none:=dh hw';have SN:m≠w2:=λe=>by subst e;rw[ae]at hw';cases hw'
 have s0:aC H (upd (upd H m (.lst [])) w2 (.lst [])):=λb o e=>by rw[aj (ak e hw),aj (ak e hm)];exact e
 refine⟨_,rfl,l,_,rfl,Nq.of (s0 _ _ el),?_⟩
 refine Rv (xs:=t.words.map V.str) (λi σ H'=>aC H H'/\∃(M:List Tr)(F:List W5)(ms:List V)(o1 o2 o3:Option V),σ=[some (.ref l),some (.ref m),some (.ref w2),o1,o2,o3]/\H' m=some (.lst ms.reverse)/\cN (N0 c H') ms M/\H' w2=some (.lst (xV F))/\M.length<=i/\F.length<=i/\O8 (t.words.reverse.drop i) M F [t] [])
  ⟨s0,[],[],[],_,_,_,rfl,by rw[aj SN,ae];rfl,.nil,ae,f7 _,f7 _,by rw[Nk];exact rS t [] []⟩ (λi σ H' _ z=>Nq.of (z.1 _ _ el)) (λi v σ H' hv z=>?_) (λσ H' z=>?_)
 .obtain⟨sm,M,F,ms,o1,o2,o3,rfl,em,am,ew,lM,lF,mk⟩:=z;rw[<- List.map_reverse,y4]at hv;obtain⟨u,UA,rfl⟩:=F0.mp hv;have hi:i<t.words.length:=by have:=(j6.mp UA).1;rwa [p6]at this
  rw[oN UA]at mk;obtain⟨M1,F1,st,Xh⟩:=mk.head;have lms:=am.len;have big:∀k:Nat,k<=2000->k<sizeLine:=λk hk=>j7 hk (by decide);cases st with
  | op a b u M F =>
   cases am with
   | @cons v1 _ ms _ h1 am =>
    obtain⟨x1,rfl,Q7⟩:=h1;cases am with
    | @cons v2 _ ms _ h2 am =>
     obtain⟨x2,rfl,O2⟩:=h2;have PH:H' m=some (.lst (ms.reverse++[V.ref x2]++[V.ref x1])):=by rw[em,l8,l8]
     refine⟨_,rfl,rfl,_,rfl,ite_yes rfl ?_⟩;refine⟨_,rfl,.inl ⟨rfl,_,Nq.of PH⟩,m,_,_,rfl,rfl,PH,bJ _ _,?_⟩;rw[x5];refine⟨_,rfl,.inl ⟨rfl,_,Nq.of ae⟩,m,_,_,rfl,rfl,ae,bJ _ _,?_⟩;rw[x5,lH];have ew1:upd H' m (.lst ms.reverse) w2=some (.lst (xV F1++[V.str u.str])):=by rw[aj SN.symm,ew,wo]
     refine⟨_,rfl,.inl ⟨rfl,_,Nq.of ae⟩,_,rfl,.inl ⟨rfl,_,Nq.of ew1⟩,w2,_,_,rfl,rfl,ew1,bJ _ _,?_⟩;rw[x5];have k1:Kp H' (upd (upd H' m (.lst ms.reverse)) w2 (.lst (xV F1))):=(bA em rfl).trans (bA ew1 rfl);refine⟨_,rfl,_,rfl,u,x1,x2,a,b,rfl,Q7.to k1,O2.to k1,λe H2 s2 oe=>?_⟩;have S4:H2 m=some (.lst ms.reverse):=s2 _ _ (by rw[aj SN,ae]);have ew2:H2 w2=some (.lst (xV F1)):=s2 _ _ ae;have k2:Kp H2 (upd H2 m (.lst (ms.reverse++[V.ref e]))):=bA S4 rfl;have k3:=(k1.trans (Kp.of s2)).trans k2;have l1:=am.len;refine⟨m,_,_,rfl,rfl,S4,big _ (by rw[p6,l1];simp at lM;omega),?_⟩;refine⟨λb o hb=>?_,.fold u a b::M,F1,V.ref e::ms,_,_,_,rfl,by rw[ae,l8],.cons ⟨e,rfl,oe.to k2⟩ (am.imp (N0.to k3)),by rw[aj SN.symm];exact ew2,by simp at lM ⊢;omega,by simp at lF;omega,Xh⟩;rw[aj (ak hb hm)];exact s2 _ _ (by rw[aj (ak hb hw),aj (ak hb hm)];exact sm _ _ hb)
  | no a M F =>
   cases am with
   | @cons v1 _ ms _ h1 am =>
    obtain⟨x1,rfl,Q7⟩:=h1;have PH:H' m=some (.lst (ms.reverse++[V.ref x1])):=by rw[em,l8]
    refine⟨_,rfl,rfl,_,rfl,Mine.qqN ⟨_,rfl,rfl,_,rfl,ite_yes rfl ?_⟩⟩;refine⟨_,rfl,.inl ⟨rfl,_,Nq.of PH⟩,_,rfl,.inl ⟨rfl,_,Nq.of PH⟩,m,_,_,rfl,rfl,PH,bJ _ _,?_⟩;rw[x5];intro z dz P2 OI ne;refine⟨z,dz,_,rfl,ae,rfl,?_⟩;have s2:=fJ (C:=c.no) (fs:=lB (V.ref x1)) P2 OI ne;have S4:=s2 _ _ (ae (H:=H') (a:=m) (o:=.lst ms.reverse));have l1:=am.len;have k1:Kp H' _:=(bA (u:=.lst ms.reverse) PH rfl).trans (Kp.of s2);have nzm:z≠m:=λq=>by subst q;rw[ae]at P2;cases P2
    refine⟨m,_,_,rfl,rfl,S4,big _ (by rw[p6,l1];simp at lM;omega),?_⟩;have k2:=k1.trans (bA (u:=.lst (ms.reverse++[V.ref z])) S4 rfl);refine⟨λb o hb=>?_,.no a::M,F,V.ref z::ms,_,_,_,rfl,by rw[ae,l8],.cons ⟨z,rfl,.no (dx:=dz) (by rw[aj nzm,ae]) (Q7.to k2)⟩ (am.imp (N0.to k2)),by rw[aj SN.symm];exact s2 _ _ (by rw[aj SN.symm];exact ew),by simp at lM ⊢;omega,by omega,Xh⟩;rw[aj (ak hb hm)];exact s2 _ _ (by rw[aj (ak hb hm)];exact sm _ _ hb)
  | fw u =>
   refine⟨_,rfl,rfl,_,rfl,ite_no u.nop ⟨_,rfl,rfl,_,rfl,ite_no u.nno ⟨_,rfl,u.str,rfl,lJ _,_,rfl,?_⟩⟩⟩;rw[yz,j9 u.takes];refine cL ⟨_,rfl,.inl ⟨rfl,_,Nq.of ew⟩,_,rfl,w2,_,_,rfl,rfl,ew,big _ (by unfold xV;rw[g6,p6];omega),?_⟩;have k1:=bA (u:=.lst (xV F++[V.str u.str])) ew rfl;exact⟨λb o hb=>by rw[aj (ak hb hw)];exact sm _ _ hb,M,u::F,ms,_,_,_,rfl,by rw[aj SN];exact em,am.imp (N0.to k1),by rw[ae,wo],by omega,by simp;omega,Xh⟩
  | cl =>
   refine⟨_,rfl,rfl,_,rfl,Mine.qqN ⟨_,rfl,rfl,_,rfl,Mine.qqN ⟨_,rfl,(")":Str),rfl,lJ _,_,rfl,?_⟩⟩⟩;rw[Qm];refine bz ⟨_,rfl,rfl,_,rfl,Ur rfl ?_⟩;exact⟨sm,M,F,ms,_,_,_,rfl,em,am,ew,by omega,by omega,Xh⟩
  | leaf tl hk =>
   obtain⟨t1,t2,t3,t4⟩:=wK hk;refine⟨_,rfl,rfl,_,rfl,ite_no t1 ⟨_,rfl,rfl,_,rfl,ite_no t2 ⟨_,rfl,tl.word,rfl,lJ _,_,rfl,?_⟩⟩⟩;rw[Qk t3];refine bz ⟨_,rfl,rfl,_,rfl,Us t4 ?_⟩;refine⟨_,rfl,.inl ⟨rfl,_,Nq.of em⟩,_,rfl,tl,rfl,hk,λx H2 s2 ox=>?_⟩;have S4:=s2 _ _ em;refine⟨m,_,_,rfl,rfl,S4,big _ (by rw[p6,lms];omega),?_⟩;have k2:=bA (u:=.lst (ms.reverse++[V.ref x])) S4 rfl;have k3:=(Kp.of s2).trans k2;exact⟨λb o hb=>by rw[aj (ak hb hm)];exact s2 _ _ (sm _ _ hb),tl::M,F,V.ref x::ms,_,_,_,rfl,by rw[ae,l8],.cons ⟨x,rfl,ox.to k2⟩ (am.imp (N0.to k3)),by rw[aj SN.symm];exact s2 _ _ ew,by simp;omega,by omega,Xh⟩
 .obtain⟨sm,M,F,ms,o1,o2,o3,rfl,em,am,ew,lM,lF,mk⟩:=z;have e:t.words.reverse.drop (t.words.map V.str).length=[]:=List.drop_of_length_le (by rw[g6,p6];exact f7 _);rw[e]at mk;cases mk
  cases am with
  | cons h1 am =>
   cases am
   obtain⟨x,rfl,ox⟩:=h1;have PH:H' m=some (.lst ([]++[V.ref x])):=em;refine⟨_,rfl,.inl ⟨rfl,_,Nq.of PH⟩,m,_,_,rfl,rfl,PH,bJ _ _,?_⟩;rw[x5];exact q x _ (λb o hb=>by rw[aj (ak hb hm)];exact sm _ _ hb) (ox.to (bA PH rfl))
inductive wV(c:CCs)(CT CM:Addr)(vs:List V)(H:Hp)(Q:VK)(E:XK):Prop
 | mk (x:Str):vs=[.str x]->x.length<=1000000->(Txt.split x " ").length<=1000->((∀k,bL ["saying"] (Txt.split x " ") 0=some k->∀(H':Hp)(d:Addr),aC H H'->H' d=none->E (.ref CT) (some d) (upd H' d (.ext (cP d [("at",.int (k:Int))])))))->((∀t:Tr,Txt.split x " "=t.words->(24<t.size->∀dc H',aC H H'->E (.ref CM) dc H')/\(t.size<=24->∀a H',aC H H'->Ob c H' a t->Q (.ref a) H')))->wV c CT CM vs H Q E
theorem jQ:∀t:Tr,t.size<=t.words.length
 | .no t=>by have:=jQ t;simp only[Tr.words,Tr.size,k8];omega
 | .fold u a b=>by have:=jQ a;have:=jQ b;simp only[Tr.words,Tr.size,k8,p7,D3];omega
 | .never=>by decide
 | .always=>by decide
 | .lp=>by decide
 | .lq=>by decide
theorem yP:ao ["text","words","at","saying"] ["text"] (ai Bn):=L2.fsc
theorem IY{CT:Addr}(T:aA K mg "read" Bn)(dP:mg "MOST_PARTS"=some (.int 24 tm))(Kv:XC1 P w K mg base "NoText" CT "at")(fQ:mg "TooMany"=some (.ref CM))(jK:PySem.W.excIn K CM bmV "ValueError.__new__"=true)(Dd:Def P w K mg base 3 "fault_in" ["words"] pD)(rE:Def P w K mg base 4 "made_of_words" ["words"] (wZ c))(GP:∀t,aJ P w K mg base (c.of t) "parts" 3 ["self"] (rG c t)):cq P w K mg base 5 "read" ["text"] (wV c CT CM):=by
 refine cm T yP (λ_ _ _ _ _ _=>ar1 λ_=>rfl) ?_ ?_
 .walk_at "i1"
 walk_at "i2";obtain⟨x,rfl,hx,hw,q1,q2⟩:=h;have nd:=yP.nd
 refine⟨_,(ag (aD (i:=1) (bx A4 L5 L6 zM (pv 0) (aa az af)))
  (ag (aD (i:=2) (aN Dd (aa (pv 1) af)))
  (ag (aP (aB rN (pv 2) cf (aE _)) (ah (pX Kv (hr.mono (by decide)) rfl (aa (pv 2) af))) aG)
  (ag (aD (i:=3) (aN rE (aa (pv 1) af)))
  (ag (aP (aB vX (bo (k:=3) (pv 3) (hr.mono (by omega))) (bH (v:=V.int 24) rfl dP ⟨_,rfl⟩) (aE _)) (ah (lU rfl fQ jK (aa az af))) aG)
  (ah (av (pv 3)))))))),?_⟩
 refine⟨_,rfl,rfl,x," ",rfl,rfl,by decide+kernel,hx,λp hp=>?_⟩;have s1:=au hp (.lst ((Txt.split x " ").map V.str));refine⟨_,rfl,p,Txt.split x " ",rfl,ae,hw,λH2 s2=>?_⟩;cases hf:bL ["saying"] (Txt.split x " ") 0 with
 | some k =>
  refine⟨_,rfl,rfl,_,rfl,cL ⟨_,rfl,_,rfl,λd hd=>?_⟩⟩;exact q1 k hf H2 d (s1.trans s2) hd
 | none =>
  obtain⟨t,ht⟩:=Qj hf;obtain⟨qa,qb⟩:=q2 t ht;rw[ht]at hw;have sz:=jQ t;refine⟨_,rfl,rfl,_,rfl,bz ?_⟩;have ep:H2 p=some (.lst (t.words.map V.str)):=by rw[<- ht];exact s2 _ _ ae
  refine⟨_,rfl,p,t,rfl,ep,hw,λa H3 s3 oa=>?_⟩;obtain⟨dx,fs,ea,nf⟩:=oa.cls;refine⟨_,rfl,a,_,_,_,_,_,rfl,ea,nf _ (by decide+kernel),GP t,a,rfl,oa,by omega,λH4 s4=>?_⟩;refine⟨_,_,rfl,rfl,_,rfl,?_⟩;have Pq:=((s1.trans s2).trans s3).trans s4
  by_cases hs:24<t.size
  .rw[j9 (show(t.size:Int)>24 by omega)];exact cL ⟨by decide,λdc=>qa hs dc H4 Pq⟩
  .rw[h7 (show ¬((t.size:Int)>24) by omega)];exact bz ⟨_,rfl,qb (by omega) a H4 Pq (oa.to (Kp.of s4))⟩
theorem QP{f:Str}(q:X.K=K)(he:PE X e ta)(hb:attributeBase e f X.env (eval e X.env)=eval e X.env):PE X (.Attribute e f pos) (Wz K ta f):=by
 subst q;exact dw he hb
theorem vw{t t':Tr}(h:t.words=t'.words):t=t':=HK (by rw[<- pj,<- pj,h])
structure Sb(c:CCs)(H:Hp)(Np:List (Key×V))(ks:List Str)(f:Str->Option Tr):Prop where
 ke:Np.map (·.1)=ks.map Sum.inr
 no:∀y,f y=none->cW Np (Sum.inr y)=none
 ye:∀y t,f y=some t->∃b,cW Np (Sum.inr y)=some (.ref b)/\Ob c H b t
theorem Sb.to{H:Hp}{Np:List (Key×V)}{f:Str->Option Tr}(h:Sb c H Np ks f)(k:Kp H H'):Sb c H' Np ks f:=⟨h.ke,h.no,λy t e=>by
 obtain⟨b,h1,h2⟩:=h.ye y t e;exact⟨b,h1,h2.to k⟩⟩
theorem Sb.is{H:Hp}{Np:List (Key×V)}{f:Str->Option Tr}(h:Sb c H Np ks f)(y:Str):Uw Np y=(f y).isSome:=by
 unfold Uw;cases e:f y with
 | none=>rw[h.no y e];rfl
 | some t =>
  obtain⟨b,h1,_⟩:=h.ye y t e;rw[h1];rfl
noncomputable def jr(f:Str->Option Tr)(x:Str)(t:Tr):Str->Option Tr:=λy=>if y=x then some t else f y
noncomputable def yH(ks:List Str)(f:Str->Option Tr)(x:Str):List Str:=if(f x).isSome=true then ks else ks++[x]
theorem Sb.put{H:Hp}{Np:List (Key×V)}{f:Str->Option Tr}(h:Sb c H Np ks f){x:Str}{t:Tr}(ob:Ob c H b t):Sb c H (putK Np (Sum.inr x) (.ref b)) (yH ks f x) (jr f x t):=by
 refine⟨?_,λy e=>?_,λy u e=>?_⟩
 .unfold yH;cases e:f x with
  | none =>
   rw[zk _ (h.no x e),x9,h.ke,h9 (by decide),x9];rfl
  | some t' =>
   obtain⟨b',h1,_⟩:=h.ye x t' e;rw[k9 (show(some t').isSome=true from rfl),<- h.ke];unfold putK;rw[k9 (by rw[jk,h1];rfl),LY];refine List.map_congr_left λkv _=>?_;show(if kv.1=Sum.inr x then(kv.1,V.ref b) else kv).1=kv.1;split<;>rfl
 .unfold jr at e
  by_cases z:y=x
  .rw[k9 z]at e;cases e
  .rw[h9 z]at e;rw[kB,h9 (λq=>z (Nj q))];exact h.no y e
 .unfold jr at e
  by_cases z:y=x
  .rw[k9 z]at e;cases e
   exact⟨b,by rw[kB,k9 (by rw[z])],ob⟩
  .rw[h9 z]at e;rw[kB,h9 (λq=>z (Nj q))];exact h.ye y u e
structure OQ(c:CCs)(C:Addr)(H:Hp)(a dx d:Addr)(Np:List (Key×V))(ks:List Str)(f:Str->Option Tr):Prop where
 ea:H a=some (.ins C dx [("kept",.ref d)])
 ed:H d=some (.dK Np)
 kp:Sb c H Np ks f
 fw:Np.length<=50
section
variable{c:CCs}{C:Addr}{H H' H1:Hp}{a dx d:Addr}{Np:List (Key×V)}{ks:List Str}{f:Str->Option Tr}
theorem OQ.to(h:OQ c C H a dx d Np ks f)(s:aC H H'):OQ c C H' a dx d Np ks f:=⟨s _ _ h.ea,s _ _ h.ed,h.kp.to (Kp.of s),h.fw⟩
theorem OQ.kept(h:OQ c C H a dx d Np ks f)(s:aC H H1){x:Str}{t:Tr}(ob:Ob c H1 b t)(s2:aC (upd H1 d (.dK (putK Np (Sum.inr x) (.ref b)))) H')(few:Np.length<=40):OQ c C H' a dx d (putK Np (Sum.inr x) (.ref b)) (yH ks f x) (jr f x t):=by
 have h1:=h.to s;have k:Kp H1 (upd H1 d (.dK (putK Np (Sum.inr x) (.ref b)))):=bA h1.ed rfl;refine⟨s2 _ _ (k _ _ h1.ea rfl),s2 _ _ ae,((h1.kp.put ob).to k).to (Kp.of s2),?_⟩;have:=gv Np (Sum.inr x) (.ref b);omega
end
def Rdx(x:Str):Prop:=x.length<=1000000/\(Txt.split x " ").length<=1000
inductive An where
 | oc (o:Oc) | keep (n:Str) (t:Tr)
def An.go(c:CCs)(C:Nat->Addr)(d:Addr)(Np:List (Key×V))(H:Hp)(Q:VK)(E:XK):An->Prop
 | .oc o=>o.go C H Q E
 | .keep n t=>∀H1 b H',aC H H1->Ob c H1 b t->aC (upd H1 d (.dK (putK Np (Sum.inr n) (.ref b)))) H'->Q (.str (txt t.size)) H'
theorem An.go.to{d:Addr}{Np:List (Key×V)}{H:Hp}{o:An}(h:o.go c C d Np H Q E)(s:aC H H'):o.go c C d Np H' Q E:=by
 cases o with
 | oc o=>exact Oc.go.to h s
 | keep n t=>exact λH1 b H2 s1=>h H1 b H2 (s.trans s1)
inductive Pk(f:Str->Option Tr)(ks:List Str):List Str->An->Prop where
 | sayT {n x:Str} {k:Nat}:Rdx x->bL ["saying"] (Txt.split x " ") 0=some k->Pk f ks ["say",n,x] (.oc (.bad (.text (k:Int))))
 | sayM {n x:Str} {t:Tr}:Rdx x->Txt.split x " "=t.words->24<t.size->Pk f ks ["say",n,x] (.oc (.bad (.no 1)))
 | say {n x:Str} {t:Tr}:Rdx x->Txt.split x " "=t.words->t.size<=24->Pk f ks ["say",n,x] (.keep n t)
 | put {n x y z:Str} {t u v:Tr}:f x=some t->f y=some u->f z=some v->t.size<=900->(t.put u v).size<=1000->24<(t.put u v).size->Pk f ks ["put",n,x,y,z] (.oc (.bad (.no 1)))
 | names {x:Str}:ks≠[]->ks.length<=60->(ks.map (·.length)).sum+ks.length<=1000->(∀ss,List.Perm ss ks->PyProof.Rows.sortedS ss=true->Txt.join " " ss=x)->Pk f ks ["names"] (.oc (.tell x))
 | worth {n x y z:Str} {t:Tr} {i j k:Int}:f n=some t->t.size<=900->x.length<=640/\PySem.intText? x=some i->y.length<=640/\PySem.intText? y=some j->z.length<=640/\PySem.intText? z=some k->Pu i j k=false->Pk f ks ["worth",n,x,y,z] (.oc (.bad (.no 2)))
 | two {w x y:Str} {t u:Tr}:f x=some t->f y=some u->t.size+u.size<=800->Lb t u w->Pk f ks [w,x,y] (.oc (.bad (.no 1)))
 | one {w x:Str} {t:Tr} {o:Oc}:f x=some t->t.size<=900->uM t w o->Pk f ks [w,x] (.oc o)
theorem RW{t:Tr}{w:Str}(h:uM t w o):w≠"say"/\w≠"put"/\w≠"names"/\w≠"drop"/\w≠"worth"/\PyProof.Rows.KTD.datumAt w FO=some [("name":Str)]:=by cases h<;>decide+kernel
theorem RV{t u:Tr}{w:Str}(h:Lb t u w):w≠"say"/\w≠"put"/\w≠"names"/\w≠"drop"/\w≠"worth"/\PyProof.Rows.KTD.datumAt w FO=some [("name":Str),"name"]:=by cases h<;>decide+kernel
theorem jc{x y:Str}{A B:Prop}(h:x≠y)(k:B):if decide (V.str x=V.str y)=true then A else B:=by
 rw[h9 (by rw[h7 (λz=>h (by injection z))];decide)];exact k
theorem Kt(x:Str):iM [("name":Str)] [x]=[x]:=rfl
theorem Y2(x y:Str):iM [("name":Str),"name"] [x,y]=[x,y]:=rfl
theorem RU(n x y z:Str):iM [("new":Str),"name","name","name"] [n,x,y,z]=[x,y,z]:=rfl
theorem GR(n x y z:Str):iM [("name":Str),"number","number","number"] [n,x,y,z]=[n]:=rfl
inductive xm(c:CCs)(C:Nat->Addr)(CD:Addr)(vs:List V)(H:Hp)(Q:VK)(E:XK):Prop
 | mk (a l dx d:Addr) (Np:List (Key×V)) (ks:List Str) (f:Str->Option Tr) (x:Str) (r fs:List Str) (o:An):vs=[.ref a,.ref l]->OQ c CD H a dx d Np ks f->H l=some (.lst ((x::r).map V.str))->PyProof.Rows.KTD.datumAt x FO=some fs->fs.length=r.length->(∀y∈iM fs r,(f y).isSome=true)->Pk f ks (x::r) o->o.go c C d Np H Q E->xm c C CD vs H Q E
theorem S7(x y:V)(us:List V):oP (x::y::us) (some 2) none=us:=by
 unfold oP
 rw[show _root_.HT.sIx (x::y::us).length 0 (some 2)=2 from by
  rw[show(some (2:Int))=some ((2:Nat):Int) from rfl,_root_.HT.nZ,k8,k8];omega,_root_.HT.kS]
 show List.take ((x::y::us).length-2) us=us;rw[k8,k8,Nat.add_sub_cancel (n:=us.length) (m:=2),D7]
theorem vO:ao ["self","words","sayings"] ["self","words"] (ai dX):=L2.fsc
theorem zE(T:aI K CD "answer" "Desk.answer" dX)(n:bh K CD "kept")(bC:mg "len"=none)(jh:Def P w K mg base 1 "names_asked" ["words"] rJ)(VG:cq P w K mg base 5 "read" ["text"] (wV c (C 0) (C 6)))(KZ:Def P w K mg base 5 "put_in" ["saying","one","other"] (Dt c))(MK:gW P w K mg base CD "keep" 4 ["self","name","saying"] (sJ c CD (C 6)))(MN:aJ P w K mg base CD "names" 2 ["self"] (pC CD))(rA:cq P w K mg base 5 "worth_written" ["saying","numbers"] (Bb c (C 7)))(uJ:cq P w K mg base 9 "asked_of_two" ["word","one","other"] (wQ c (C 6)))(uK:cq P w K mg base 10 "asked_of_one" ["word","saying"] (wW c C)):gW P w K mg base CD "answer" 12 ["self","words"] (xm c C CD):=by
 refine oG T vO (λ_ _ _ _ _ _=>ar2 λ_ _=>rfl) (λvs H Q E h=>?_) (λg cdv A outer s H vs Q E hr h=>?_)
 .obtain⟨a,l,dx,d,Np,ks,f,x,r,fs,o,rfl,_⟩:=h;rfl
 obtain⟨a,l,dx,d,Np,ks,f,x,r,fs,o,rfl,dk,el,hx,heq,al,an,go⟩:=h;have nd:=vO.nd;have hu:=j7 (J0 (show 1<=64 by decide) _) hr.units;have lk:List.lookup ("kept":Str) [(("kept":Str),V.ref d)]=some (.ref d):=by rw[A0,A5]
 have hal:(iM fs r).length<=1000:=by
  have:=M4 (λy:Str×Str=>if y.1=("name":Str) then some y.2 else none) (fs.zip r);have k4:=Cd hx;rw[Ng]at this;unfold iM;omega
 refine⟨_,(ag (xy (i:=2) (bV (aN jh (aa (pv 1) af))) (iS (j:=0) dS) (λ_ _ _ _=>eJ) (λ_ _ _ _=>(xC hu (QP (K:=K) rfl (pv 1) rfl) (pv 0))))
  (ag (aP (aB bf (aL bb (pv 1) aq) az (aE _)) (ah (av (oy (k:=4) (pv 0) (hr.mono (by decide)) (aa (aL bb (pv 1) aq) (aa (bE VG (hr.mono (by decide)) rfl (aa (aL bb (pv 1) aq) af)) af))))) aG)
  (ag (aP (aB bf (aL bb (pv 1) aq) az (aE _)) (ah (av (oy (k:=4) (pv 0) (hr.mono (by decide)) (aa (aL bb (pv 1) aq) (aa (aN KZ (aa (aL bb (pv 2) aq) (aa (aL bb (pv 2) aq) (aa (aL bb (pv 2) aq) af)))) af))))) aG)
  (ag (aP (aB bf (aL bb (pv 1) aq) az (aE _)) (ah (av (bo (k:=2) (pv 0) (hr.mono (by decide))))) aG)
  (ag (aP (aB bf (aL bb (pv 1) aq) az (aE _)) (ah eI) aG)
  (ag (aP (aB bf (aL bb (pv 1) aq) az (aE _)) (ah (av (bE rA (hr.mono (by decide)) rfl (aa (aL bb (pv 2) aq) (aa (gu jP (pv 1) (hU aq) jX) af))))) aG)
  (ag (aP (aB bf (aH bR bC (aa (pv 2) af)) aq (aE _)) (ah (av (bE uJ (hr.mono (by decide)) rfl (aa (aL bb (pv 1) aq) (aa (aL bb (pv 2) aq) (aa (aL bb (pv 2) aq) af)))))) aG)
  (ah (av (bE uK (hr.mono (by decide)) rfl (aa (aL bb (pv 1) aq) (aa (aL bb (pv 2) aq) af)))))))))))),?_⟩
 dsimp only[ET,sj];refine comp_map (K:=K) (xs:=(iM fs r).map V.str) (ts:=iM fs r) (R:=λH v y=>v=.str y/\OQ c CD H a dx d Np ks f/\(f y).isSome=true) (λy=>(cW Np (Sum.inr y)).getD .non) (λH H' v t s z=>⟨z.1,z.2.1.to s,z.2.2⟩) (λl' H'=>aC H H'/\H' l'=some (.lst ((iM fs r).map V.str))) (λR k=>⟨_,rfl,l,x,r,fs,rfl,el,hx,heq,λp H1 s1 hp e1=>⟨p,rfl,⟨_,Nq.of e1⟩,k p H1 ⟨s1,e1⟩⟩⟩) (λl' H' z=>⟨z.2,z.1⟩) (by rw[g6];exact hal) ?_ (λv y H1 N hm rv hN=>?_) (λD H1 s1 hD eD=>?_)
 .clear heq hx go an el hal
  revert al
  generalize iM fs r=ys;intro al
  induction ys with
  | nil=>exact .nil
  | cons y t ih=>exact .cons ⟨rfl,dk,al y B5⟩ (ih λz hz=>al z (p8 _ hz))
 .obtain⟨rfl,OM,hf⟩:=rv;obtain⟨t,ht⟩:=G8.mp hf;obtain⟨b,hb,ob⟩:=OM.kp.ye y t ht;have hN':=hN _ (aC.refl _);rw[hb]at hN';have dg:nB H1 d (.str y) (some (.ref b)):=by rw[<- hb];exact nB.k (k:=Sum.inr y) OM.ed
  exact⟨_,rfl,a,CD,dx,_,_,rfl,OM.ea,T.cl,n,lk,_,rfl,d,_,rfl,dg,hN'⟩
 have NK:=s1 _ _ el;have OM:=dk.to s1;have S1:=go.to s1
 have val:∀{y:Str}{t:Tr},f y=some t->∃b,(cW Np (Sum.inr y)).getD .non=.ref b/\Ob c H1 b t:=λe=>by
  obtain⟨b,h1,h2⟩:=OM.kp.ye _ _ e;exact⟨b,by rw[h1];rfl,h2⟩
 have nk:∀m:Str,m≠"kept"->List.lookup m [(("kept":Str),V.ref d)]=none:=λm h=>cK h rfl;cases an with
 | @sayT nm tx k rd hf =>
  refine⟨_,rfl,_,_,_,_,rfl,rfl,Nq.of NK,N5,rfl,_,rfl,ite_yes rfl ?_⟩;refine⟨_,rfl,a,CD,dx,_,_,_,rfl,OM.ea,nk _ (by decide+kernel),MK,_,rfl,_,_,_,_,rfl,rfl,Nq.of NK,bc (j:=1) rfl,_,rfl,_,_,_,_,rfl,rfl,Nq.of NK,bc (j:=2) rfl,tx,rfl,rd.1,rd.2,λk' SY H2 d2 s2 hd2=>?_,λt ht=>?_⟩
  .rw[hf]at SY;cases SY
   exact EF.at S1 s2 hd2
  .rw[ht,mY]at hf;cases hf
 | @sayM nm tx t rd ht big =>
  refine⟨_,rfl,_,_,_,_,rfl,rfl,Nq.of NK,N5,rfl,_,rfl,ite_yes rfl ?_⟩;refine⟨_,rfl,a,CD,dx,_,_,_,rfl,OM.ea,nk _ (by decide+kernel),MK,_,rfl,_,_,_,_,rfl,rfl,Nq.of NK,bc (j:=1) rfl,_,rfl,_,_,_,_,rfl,rfl,Nq.of NK,bc (j:=2) rfl,tx,rfl,rd.1,rd.2,λk' SY=>?_,λt' ht'=>?_⟩
  .rw[ht,mY]at SY;cases SY
  .obtain rfl:=vw (ht.symm.trans ht');exact⟨λ_ dc H2 s2=>S1 dc H2 s2,λz=>absurd z (by omega)⟩
 | @say nm tx t rd ht small =>
  refine⟨_,rfl,_,_,_,_,rfl,rfl,Nq.of NK,N5,rfl,_,rfl,ite_yes rfl ?_⟩;refine⟨_,rfl,a,CD,dx,_,_,_,rfl,OM.ea,nk _ (by decide+kernel),MK,_,rfl,_,_,_,_,rfl,rfl,Nq.of NK,bc (j:=1) rfl,_,rfl,_,_,_,_,rfl,rfl,Nq.of NK,bc (j:=2) rfl,tx,rfl,rd.1,rd.2,λk' SY=>?_,λt' ht'=>?_⟩
  .rw[ht,mY]at SY;cases SY
  .obtain rfl:=vw (ht.symm.trans ht');refine⟨λz=>absurd z (by omega),λ_ b H2 s2 ob=>?_⟩;have OL:=OM.to s2;exact⟨a,b,dx,d,nm,t,Np,rfl,OL.ea,OL.ed,by have:=dk.fw;omega,ob,by omega,λz=>absurd z (by omega),λ_ H3 H4 s3 s4=>S1 H3 b H4 (s2.trans s3) (ob.to (Kp.of s3)) s4⟩
 | @put nm x y z t u v e1 e2 e3 sz sp big =>
  have ef:fs=[("new":Str),"name","name","name"]:=i7 (hx.symm.trans (by decide+kernel));subst ef;rw[RU]at eD;obtain⟨b1,g1,o1⟩:=val e1;obtain⟨b2,g2,o2⟩:=val e2;obtain⟨b3,g3,o3⟩:=val e3;rw[show[x,y,z].map (λy=>(cW Np (Sum.inr y)).getD .non)=[.ref b1,.ref b2,.ref b3] by rw[<- g1,<- g2,<- g3];rfl]at eD;refine⟨_,rfl,_,_,_,_,rfl,rfl,Nq.of NK,N5,rfl,_,rfl,Mine.qqN ⟨_,rfl,_,_,_,_,rfl,rfl,Nq.of NK,N5,rfl,_,rfl,ite_yes rfl ?_⟩⟩;refine⟨_,rfl,a,CD,dx,_,_,_,rfl,OM.ea,nk _ (by decide+kernel),MK,_,rfl,_,_,_,_,rfl,rfl,Nq.of NK,bc (j:=1) rfl,_,rfl,_,_,_,_,rfl,rfl,Nq.of eD,bc (j:=0) rfl,_,rfl,_,_,_,_,rfl,rfl,Nq.of eD,bc (j:=1) rfl,_,rfl,_,_,_,_,rfl,rfl,Nq.of eD,bc (j:=2) rfl,b1,b2,b3,t,u,v,rfl,o1,o2,o3,by omega,λb H2 s2 ob=>?_⟩;have OL:=OM.to s2;exact⟨a,b,dx,d,nm,_,Np,rfl,OL.ea,OL.ed,by have:=dk.fw;omega,ob,sp,λ_=>EC.to S1 s2,λz=>absurd z (by omega)⟩
 | names h1 h2 h3 h4 =>
  refine⟨_,rfl,_,_,_,_,rfl,rfl,Nq.of NK,N5,rfl,_,rfl,Mine.qqN ⟨_,rfl,_,_,_,_,rfl,rfl,Nq.of NK,N5,rfl,_,rfl,Mine.qqN ⟨_,rfl,_,_,_,_,rfl,rfl,Nq.of NK,N5,rfl,_,rfl,ite_yes rfl ?_⟩⟩⟩;refine⟨_,rfl,a,CD,dx,_,_,_,rfl,OM.ea,nk _ (by decide+kernel),MN,a,Np,ks,rfl,⟨dx,d,OM.ea,OM.ed⟩,OM.kp.ke,h1,h2,h3,λss H2 s2 p so=>?_⟩;rw[h4 ss p so];exact S1 _ s2
 | @worth nm x y z t i j k e1 sz hi hj hk pt =>
  have ef:fs=[("name":Str),"number","number","number"]:=i7 (hx.symm.trans (by decide+kernel));subst ef;rw[GR]at eD;obtain⟨b1,g1,o1⟩:=val e1;rw[show[nm].map (λy=>(cW Np (Sum.inr y)).getD .non)=[.ref b1] by rw[<- g1];rfl]at eD;refine⟨_,rfl,_,_,_,_,rfl,rfl,Nq.of NK,N5,rfl,_,rfl,Mine.qqN ⟨_,rfl,_,_,_,_,rfl,rfl,Nq.of NK,N5,rfl,_,rfl,Mine.qqN ⟨_,rfl,_,_,_,_,rfl,rfl,Nq.of NK,N5,rfl,_,rfl,Mine.qqN ⟨_,rfl,_,_,_,_,rfl,rfl,Nq.of NK,N5,rfl,_,rfl,Mine.qqN ⟨_,rfl,_,_,_,_,rfl,rfl,Nq.of NK,N5,rfl,_,rfl,ite_yes rfl ?_⟩⟩⟩⟩⟩;refine⟨_,rfl,_,_,_,_,rfl,rfl,Nq.of eD,bc (j:=0) rfl,_,rfl,_,rfl,?_⟩;dsimp only[nF];refine⟨l,_,rfl,Nq.of NK,λp hp=>?_⟩;rw[v7,v7,S7];have u:=au hp (.lst ([x,y,z].map V.str));exact⟨b1,p,t,x,y,z,i,j,k,rfl,o1.to (Kp.of u),by omega,ae,hi,hj,hk,pt,EC.to S1 u⟩
 | @two wd x y t u e1 e2 sz ask =>
  obtain⟨n1,n2,n3,n4,n5,hf⟩:=RV ask;have ef:fs=[("name":Str),"name"]:=i7 (hx.symm.trans hf);subst ef;rw[Y2]at eD;obtain⟨b1,g1,o1⟩:=val e1;obtain⟨b2,g2,o2⟩:=val e2;rw[show[x,y].map (λy=>(cW Np (Sum.inr y)).getD .non)=[.ref b1,.ref b2] by rw[<- g1,<- g2];rfl]at eD;refine⟨_,rfl,_,_,_,_,rfl,rfl,Nq.of NK,N5,rfl,_,rfl,jc n1 ⟨_,rfl,_,_,_,_,rfl,rfl,Nq.of NK,N5,rfl,_,rfl,jc n2 ⟨_,rfl,_,_,_,_,rfl,rfl,Nq.of NK,N5,rfl,_,rfl,jc n3 ⟨_,rfl,_,_,_,_,rfl,rfl,Nq.of NK,N5,rfl,_,rfl,jc n4 ⟨_,rfl,_,_,_,_,rfl,rfl,Nq.of NK,N5,rfl,_,rfl,jc n5 ?_⟩⟩⟩⟩⟩;refine⟨_,rfl,_,_,rfl,.inl ⟨_,Nq.of eD,rfl⟩,rfl,_,rfl,cL ?_⟩;exact⟨_,rfl,_,_,_,_,rfl,rfl,Nq.of NK,N5,_,rfl,_,_,_,_,rfl,rfl,Nq.of eD,bc (j:=0) rfl,_,rfl,_,_,_,_,rfl,rfl,Nq.of eD,bc (j:=1) rfl,_,b1,b2,t,u,rfl,o1,o2,sz,ask,S1⟩
 | @one wd x t o e1 sz ask =>
  obtain⟨n1,n2,n3,n4,n5,hf⟩:=RW ask;have ef:fs=[("name":Str)]:=i7 (hx.symm.trans hf);subst ef;rw[Kt]at eD;obtain⟨b1,g1,o1⟩:=val e1;rw[show[x].map (λy=>(cW Np (Sum.inr y)).getD .non)=[.ref b1] by rw[<- g1];rfl]at eD;refine⟨_,rfl,_,_,_,_,rfl,rfl,Nq.of NK,N5,rfl,_,rfl,jc n1 ⟨_,rfl,_,_,_,_,rfl,rfl,Nq.of NK,N5,rfl,_,rfl,jc n2 ⟨_,rfl,_,_,_,_,rfl,rfl,Nq.of NK,N5,rfl,_,rfl,jc n3 ⟨_,rfl,_,_,_,_,rfl,rfl,Nq.of NK,N5,rfl,_,rfl,jc n4 ⟨_,rfl,_,_,_,_,rfl,rfl,Nq.of NK,N5,rfl,_,rfl,jc n5 ?_⟩⟩⟩⟩⟩;refine⟨_,rfl,_,_,rfl,.inl ⟨_,Nq.of eD,rfl⟩,rfl,_,rfl,bz ?_⟩;exact⟨_,rfl,_,_,_,_,rfl,rfl,Nq.of NK,N5,_,rfl,_,_,_,_,rfl,rfl,Nq.of eD,bc (j:=0) rfl,_,b1,t,o,rfl,o1,sz,ask,S1⟩
def ZW(x:Str):Prop:=∃y r,Ot x=y::r/\r.length<=1000/\∀z∈r,Wk z
inductive fG(f:Str->Option Tr)(ks:List Str)(x:Str):An->Prop where
 | call:iT (Ot x)=false->fG f ks x (.oc (.bad (.call x)))
 | name {y n:Str} {r fs:List Str} {i:Nat}:Ot x=y::r->iT (y::r)=true->PyProof.Rows.KTD.datumAt y FO=some fs->(iM fs r)[i]?=some n->(∀z∈(iM fs r).take i,(f z).isSome=true)->f n=none->fG f ks x (.oc (.bad (.name n)))
 | ans {y:Str} {r fs:List Str} {o:An}:Ot x=y::r->iT (y::r)=true->PyProof.Rows.KTD.datumAt y FO=some fs->(∀z∈iM fs r,(f z).isSome=true)->Pk f ks (y::r) o->fG f ks x o
inductive iw(c:CCs)(C:Nat->Addr)(CD:Addr)(vs:List V)(H:Hp)(Q:VK)(E:XK):Prop
 | mk (a dx d:Addr) (Np:List (Key×V)) (ks:List Str) (f:Str->Option Tr) (x:Str) (o:An):vs=[.ref a,.str x]->OQ c CD H a dx d Np ks f->KP x->ZW x->fG f ks x o->o.go c C d Np H Q E->iw c C CD vs H Q E
theorem qk{y:Str}{r fs:List Str}(h:iT (y::r)=true)(k:PyProof.Rows.KTD.datumAt y FO=some fs):fs.length=r.length:=by
 rw[mZ k]at h;exact l9 (x4.mp h).1
theorem DC:ao ["self","line","words"] ["self","line"] (ai gj):=L2.fsc
theorem Fv(T:aI K CD "tell" "Desk.tell" gj)(Kx:XC1 P w K mg base "NoCall" (C 3) "line")(CV:Def P w K mg base 1 "words_of" ["line"] AZ)(Ht:Def P w K mg base 4 "is_call" ["words"] sM)(jh:Def P w K mg base 1 "names_asked" ["words"] rJ)(MM:gW P w K mg base CD "must_keep" 3 ["self","names"] (sE CD (C 4)))(MA:gW P w K mg base CD "answer" 12 ["self","words"] (xm c C CD)):gW P w K mg base CD "tell" 13 ["self","line"] (iw c C CD):=by
 refine oG T DC (λ_ _ _ _ _ _=>ar2 λ_ _=>rfl) (λvs H Q E h=>?_) (λg cdv A outer s H vs Q E hr h=>?_)
 .obtain⟨a,dx,d,Np,ks,f,x,o,rfl,_⟩:=h;rfl
 obtain⟨a,dx,d,Np,ks,f,x,o,rfl,dk,hl,⟨y,r,hy,hr1,hw⟩,te,go⟩:=h;have nd:=DC.nd
 refine⟨_,(ag (aD (i:=2) (aN CV (aa (pv 1) af)))
  (ag (aP (mQ (gM (aN Ht (aa (pv 2) af)))) (ah (pX Kx (hr.mono (by decide)) rfl (aa (pv 1) af))) aG)
  (ag (aS (oy (k:=3) (pv 0) (hr.mono (by decide)) (aa (aN jh (aa (pv 2) af)) af)))
  (ah (av (oy (k:=12) (pv 0) (hr.mono (by decide)) (aa (pv 2) af))))))),?_⟩
 refine⟨_,rfl,x,rfl,hl,λp H1 s1 hp e1=>?_⟩;rw[hy]at e1;refine⟨_,rfl,p,y,r,rfl,e1,hr1,hw,λH2 s2=>?_⟩;have OT:=s1.trans s2;have OL:=dk.to OT;have nk:∀m:Str,m≠"kept"->List.lookup m [(("kept":Str),V.ref d)]=none:=λm h=>cK h rfl;cases te with
 | call hc =>
  rw[hy]at hc;rw[hc];exact⟨_,rfl,cL ⟨_,rfl,_,rfl,λd hd=>EF.at go OT hd⟩⟩
 | @name y' n r' fs i h1 h2 h3 h4 h5 h6 =>
  rw[hy]at h1;cases h1
  rw[h2];refine⟨_,rfl,bz ?_⟩;refine⟨_,rfl,a,CD,dx,_,_,_,rfl,OL.ea,nk _ (by decide+kernel),MM,_,rfl,p,y,r,fs,rfl,s2 _ _ e1,h3,qk h2 h3,λp2 H3 s3 Py e5=>?_⟩;have OD:=OL.to s3;refine⟨a,p2,iM fs r,Np,rfl,⟨dx,d,OD.ea,OD.ed⟩,e5,λj z hj hz nz=>?_,λal=>?_⟩
  .have ej:j=i:=by
    rcases Nat.lt_trichotomy j i with c | c | c
    .have:=h5 z (x3 (l:=(iM fs r).take i) (i:=j) (by rw[Lz c];exact hj));rw[<- OD.kp.is,nz]at this;cases this
    .exact c
    .have:=hz n (x3 (l:=(iM fs r).take j) (i:=i) (by rw[Lz c];exact h4));rw[OD.kp.is,h6]at this;cases this
   subst ej;rw[h4]at hj;cases hj
   exact EF.to go (OT.trans s3)
  .have:=al n (x3 h4);rw[OD.kp.is,h6]at this;cases this
 | @ans y' r' fs o h1 h2 h3 h4 h5 =>
  rw[hy]at h1;cases h1
  rw[h2];refine⟨_,rfl,bz ?_⟩;refine⟨_,rfl,a,CD,dx,_,_,_,rfl,OL.ea,nk _ (by decide+kernel),MM,_,rfl,p,y,r,fs,rfl,s2 _ _ e1,h3,qk h2 h3,λp2 H3 s3 Py e5=>?_⟩;have OD:=OL.to s3;refine⟨a,p2,iM fs r,Np,rfl,⟨dx,d,OD.ea,OD.ed⟩,e5,λj z hj hz nz=>?_,λal=>?_⟩
  .have:=h4 z (x3 hj);rw[<- OD.kp.is,nz]at this;cases this
  .exact⟨_,rfl,a,CD,dx,_,_,_,rfl,OD.ea,nk _ (by decide+kernel),MA,_,rfl,a,p,dx,d,Np,ks,f,y,r,fs,o,rfl,OD,(s2.trans s3) _ _ e1,h3,qk h2 h3,h4,h5,go.to (OT.trans s3)⟩
end Mine
namespace L2
open PySem PySem.Spec PySem.Calls PyProof.Rows PySem.W PySem.Builtin.Getset_descriptor
variable{X:Cx}{o e:Expr}{es:List Expr}{ta:TE}{apos pos:Pos}{b₀:Stmt}{Pn:List Stmt}{Dc:Addr}{pl:Sem Bool}
def Wn(P:Program)(w:World)(K:Frag)(mg:Str->Option Value)(base:Heap)(k i j:Nat)(m:Str)(Dc:Addr)(to:TE)(ta:TA)(ts:TS):TS:=λD σ H=>to σ H λx H0=>∃(a C dx:Addr)(fs:List (Str×V))(ps:List Str)(sp:Sp),x=.ref a/\H0 a=some (.ins C dx fs)/\fs.lookup m=none/\
 gW P w K mg base C m k ps sp/\ta σ H0 λvs H1=>sp (.ref a::vs) H1 (λv H2=>D.nx (σ.set i (some v)) H2) λC dc H2=>∃Cn,C=.ref Cn/\mroIn K Cn (.ref Dc)=some true/\
 ∀ea,H2 ea=none->ts {nx:=λσ' H3=>D.nx (σ'.set j none) H3,rt:=D.rt,bk:=λσ' H3=>D.bk (σ'.set j none) H3,ct:=λσ' H3=>D.ct (σ'.set j none) H3} (σ.set j (some (.ref ea))) (upd H2 ea (.ext (mh ea Cn dc)))
theorem QI{X:Cx}{k i j:Nat}{m y z n:Str}{to:TE}{ta:TA}{ts:TS}{pos' pz np XM NL:Pos}{pl:Sem Bool}
  (hxe:X.xe=λ_ _=>False)(XE:X.stack=X.env::X.outer)(O4:X.env.frame=some X.env.locals)(hex:X.ex=[])
  (ho:PE X o to)(hr:bX k X.A)(ha:PA X (e::es) ta)(hgy:Gl X y)(hmy:X.mg y=some (.ref Dc))(cc:uL X.K Dc)
  (hN:X.N.Nodup)(hi:X.N[i]?=some z)(hlz:X.env.scope.names.lookup z=some .local)(hj:X.N[j]?=some n)(hl:X.env.scope.names.lookup n=some .local)(hs:∀ea,NU (X.mark ea) (b₀::Pn) ts)
  (hdy:(y==("__debug__":Str))=false:=by decide)(he:starEach (e::es) X.env=(false,eval e X.env)::starEach es X.env:=by rfl)
  (NR:(backTo pos (starEach es X.env)).any (·.1)=false:=by rfl)(UC:swapsWith (.Call (.Attribute o m apos) (e::es) [] pos) (some (.Name z pz)) pos'.line X.env=pure false:=by rfl)
  (ht:eval (.Call (.Attribute o m apos) (e::es) [] pos) X.env=(do
   let ov <- eval o X.env
   standAt apos.atName
   let (g,first) <- holding [ov] (getMethod ov m pl)
   callWith pos g first (backTo pos (starEach (e::es) X.env)) (backToKw pos (keywordEach [] X.env))):=by rfl) :
  PS X (.Try [.Assign [.Name z pz] (.Call (.Attribute o m apos) (e::es) [] pos) pos'] [.ExceptHandler (some (.Name y np)) (some n) (b₀::Pn) XM] [] [] NL) (Wn X.prog X.w X.K X.mg X.base k i j m Dc to ta ts):=by
 intro Nn s σ H D I h;refine wpAny_Try_except (M5 (wpAny_Assign_Name ?_ UC));refine G1 (pl:=pl) (v8 (ho Nn s σ H _ I h) (λu s1 z=>?_) (λ_ _ z=>by rw[hxe]at z;exact z.elim)) ht;obtain⟨y0,H0,I0,ry,a,C0,dx,fs,ps,sp,ey,ea0,lo,M,q0⟩:=z;subst ey;have eu:u=Value.ref a:=ry;subst eu;obtain⟨f,fd,ZD,F,b⟩:=M.ex;refine iI I0 ea0 M.cl ZD lo ?_;refine F7 (first:=[.ref a]) (h₀:=X.base) I.ok.mod.kin ZD.kp (v8 (ha pos Nn s1 σ H0 _ I0 q0) (λus s1 z=>?_) (λ_ _ z=>by rw[hxe]at z;exact z.elim)) he NR;obtain⟨vs,H1,I1,r0,q⟩:=z;refine⟨I1.kIn,?_⟩;have r:Vals (.ref a::vs) (.ref a::us):=.cons rfl r0;have hlen:(Value.ref a::us).length=ps.length:=by rw[<- r.length];exact F.len _ _ _ _ q
 have ZS:BindsTo s1 fd ⟨.ref a::us,[]⟩ (ps.zip (.ref a::us)):=by
  have z:=b s1 (.ref a::us) I1.kIn (by rw[A6];exact hlen);rw[A6]at z;exact z
 refine Li (J5 (F.run X.A X.stack s1 H1 ⟨.ref a::us,[]⟩ (.ref a::us) (.ref a::vs) _ _ hr I1.env0 ZS r q) λres s' hq=>?_);cases res with
 | ok fl =>
  cases fl with
  | ret u =>
   obtain⟨v,H2,I2,rv,q2⟩:=I1.after hq;exact nH I2 hN hi (.inl hlz) rv (λs3 I3=>J9 (J9 ⟨_,H2,I3,q2⟩)) (.inr hlz)
  | next=>exact False.elim hq
  | brk=>exact False.elim hq
  | cont=>exact False.elim hq
 | error ex =>
  obtain⟨ea,C,dc,H2,rfl,⟨B,ho,ZH,un,hok,fl,h0,h1,RJ⟩,Cn,rfl,hm,q3⟩:=hq;have hfrm:X.A.frames=some (X.env::X.outer):=by rw[<- XE];exact I.ok.frames
  rw[XE]at fl;refine looked (L:=X.env.locals) hfrm O4 fl λh4 held up4=>?_;refine landed (s:={s' with heap:=h4}) held λh5 fl5 Z3=>?_
  have up5:=up4.trans Z3;have I5:Inv X Nn σ H2 {s' with heap:=h5}:=I1.caught (C:=.ref Cn) (ea:=ea) (t:=ea) (tk:=s'.toks) ho ZH un hok RJ fl5.1 up5
  refine wpAny_handleBy_cons (codeAny_handlers_test (dN (X:=X.mark ea) (I5.mark ea) hgy hmy ?_ hdy)) (by intro z;cases z)
  refine Ab (K:=X.K) I5.kIn fl5.got.of cc hm ?_;show codeAny _ _ (.handlers (.ref ea) [.ExceptHandler none (some n) (b₀::Pn) XM] X.env) _ _;refine codeAny_handlers_suite_as ?_;refine landed (s:={s' with heap:=h5}) fl5 λh6 fl6 up6=>?_
  have I6:Inv X Nn σ H2 {s' with heap:=h6}:=I1.caught (C:=.ref Cn) (ea:=ea) (t:=ea) (tk:=s'.toks) ho ZH un hok RJ fl6.1 (up5.trans up6)
  have new:X.s₀.heap.get? ea=none:=by
   cases z:X.s₀.heap.get? ea with
   | none=>rfl
   | some o=>obtain⟨o',e'⟩:=I1.base.there ea o z (by rw[hex];simp);rw[h1]at e';cases e'
  have nl:ea≠X.env.locals:=λz=>by
   obtain⟨mm,⟨o,_,_,g,_⟩,_⟩:=I1.loc;rw[<- z,h1]at g;cases g
  have nc:∀z c,X.env.cells.lookup z=some c->c≠ea:=λz c k q=>by
   obtain⟨v,o,g,_⟩:=I1.cell z c k;rw[q,h1]at g;cases g
  have np':∀z∈X.pn++Nn,z.1≠ea:=λz hz q=>by
   obtain⟨g,_⟩:=I1.pin z hz;rw[q,h1]at g;cases g
  have I7:=I6.track (a:=ea) (φ:=mh ea Cn dc) h0 new nl nc np' fl6.got (let ⟨o,_,z,_⟩:=fl6.got;⟨o,z⟩) λ_ _ z k=>z.stay k;refine nH (X:=X.mark ea) (I7.mark ea) hN hj (.inl hl) (v:=.ref ea) rfl (λs7 I8=>?_) (.inr hl)
  refine v8 (hs ea Nn s7 _ _ _ I8 (q3 ea h0)) (λfl8 s8 q8=>?_) (λee ss z=>by
   have z':X.xe ee ss:=z;rw[hxe]at z';exact z'.elim)
  have Rp:(X.env.scope.kind == .class || (X.env.scope.kind == .module && X.env.locals != X.env.globals))=false:=by rw[I.ok.kind];rfl
  cases fl8 with
  | next =>
   obtain⟨σ8,H8,J,n8⟩:=q8;have J':=J.unmark I.ok;obtain⟨mm,hn,_⟩:=id J'.loc;exact Lp hl hn Rp λh9 v9 UG UD=>⟨_,H8,J'.unname hN hj hn UG UD,n8⟩
  | brk =>
   obtain⟨σ8,H8,J,n8⟩:=q8;have J':=J.unmark I.ok;obtain⟨mm,hn,_⟩:=id J'.loc;exact Lp hl hn Rp λh9 v9 UG UD=>⟨_,H8,J'.unname hN hj hn UG UD,n8⟩
  | cont =>
   obtain⟨σ8,H8,J,n8⟩:=q8;have J':=J.unmark I.ok;obtain⟨mm,hn,_⟩:=id J'.loc;exact Lp hl hn Rp λh9 v9 UG UD=>⟨_,H8,J'.unname hN hj hn UG UD,n8⟩
  | ret u =>
   obtain⟨v,σ8,H8,J,rv,n8⟩:=q8;have J':=J.unmark I.ok;obtain⟨mm,hn,_⟩:=id J'.loc;exact Lp hl hn Rp λh9 v9 UG UD=>⟨v,_,H8,J'.unname hN hj hn UG UD,rv,n8⟩
def Tv(X:Cx)(k:Nat)(m:Str)(ta:TE)(t:TA):TE:=λσ H Q=>ta σ H λx H1=>∃(a C dx:Addr)(fs:List (Str×V))(ps:List Str)(sp:Sp),x=.ref a/\H1 a=some (.ins C dx fs)/\fs.lookup m=none/\
 gW X.prog X.w X.K X.mg X.base C m k ps sp/\t σ H1 λvs H2=>sp (.ref a::vs) H2 Q E0
theorem IF{t:TA}{m:Str}{k:Nat}{pl:Sem Bool}(he:PE X o ta)(hr:bX k X.A)(ha:PA X (e::es) t)(O3:starEach (e::es) X.env=(false,eval e X.env)::starEach es X.env:=by rfl)(NR:(backTo pos (starEach es X.env)).any (·.1)=false:=by rfl)(ht:eval (.Call (.Attribute o m apos) (e::es) [] pos) X.env=(do
   let ov <- eval o X.env
   standAt apos.atName
   let (g,first) <- holding [ov] (getMethod ov m pl)
   callWith pos g first (backTo pos (starEach (e::es) X.env)) (backToKw pos (keywordEach [] X.env))):=by rfl) :
  PE X (.Call (.Attribute o m apos) (e::es) [] pos) (Tv X k m ta t):=by
 intro Nn s' σ H' Q I h;refine G1 (pl:=pl) (Nr (he Nn s' σ H' _ I h) λu s1 zz=>?_) ht;obtain⟨y,H1,I1,ry,a,C,dx,fs,ps,sp,ey,ea,lo,M,q⟩:=zz;subst ey;have eu:u=Value.ref a:=ry;subst eu;obtain⟨g,fd,hm,G,hb⟩:=M.ex;refine iI I1 ea M.cl hm lo ?_;refine F7 (first:=[.ref a]) (h₀:=X.base) I.ok.mod.kin hm.kp (Nr (ha pos Nn s1 σ H1 _ I1 q) λus s2 zz=>?_) O3 NR;obtain⟨vs,H2,I2,r2,q2⟩:=zz;refine⟨I2.kIn,?_⟩;refine pV (us:=.ref a::us) (vs:=.ref a::vs) (dvs:=[]) G hr hb .nil W6 I2 (.cons rfl r2) ?_;rw[A6];exact q2
end L2
namespace Mine
open PySem L2
variable{H H':Hp}{ea CS:Addr}{w:NQ}{E:XK}{c:CCs}{o:An}
structure uC(K:W.Frag)(mg:Str->Option Value)(CS:Addr)(C:Nat->Addr):Prop where
 ms:mg "SayError"=some (.ref CS)
 m0:mg "NoText"=some (.ref (C 0))
 m1:mg "NoRows"=some (.ref (C 1))
 m2:mg "NoLine"=some (.ref (C 2))
 m3:mg "NoCall"=some (.ref (C 3))
 m4:mg "NoName"=some (.ref (C 4))
 m5:mg "NoNumber"=some (.ref (C 5))
 m6:mg "TooMany"=some (.ref (C 6))
 m7:mg "NoPoint"=some (.ref (C 7))
 m8:mg "NoLetter"=some (.ref (C 8))
 m9:mg "NoCut"=some (.ref (C 9))
 cc:uL K CS
 e:∀i,i<10->jg K (C i)
 su:∀i,i<10->PySem.W.mroIn K (C i) (.ref CS)=some true
 kk:∀i j,i<10->j<10->PySem.W.kitOne K (.ref (C i)) (.ref (C j))=some (decide (i=j))
 kv:∀i,i<10->PySem.W.kitOne K (.ref (C i)) (.type "ValueError")=some true
 xn:∀i,6<=i->i<9->PySem.W.excIn K (C i) bmV "ValueError.__new__"=true
 f0:mj K (C 0)
 f3:mj K (C 3)
 f4:mj K (C 4)
 n0:bh K (C 0) "at"
 n3:bh K (C 3) "line"
 n4:bh K (C 4) "name"
def ZZ(C:Nat->Addr)(H:Hp)(ea:Addr)(w:NQ):Prop:=∃dc,H ea=some (.ext (mh ea (C w.cls) dc))/\∀fs,w.flds=some fs->∃d,dc=some d/\H d=some (.ext (cP d fs))
theorem ZZ.to{C:Nat->Addr}(h:ZZ C H ea w)(s:aC H H'):ZZ C H' ea w:=by
 obtain⟨dc,e,f⟩:=h;refine⟨dc,s _ _ e,λfs z=>?_⟩;obtain⟨d,e1,e2⟩:=f fs z;exact⟨d,e1,s _ _ e2⟩
noncomputable def NQ.ok:NQ->Prop | .no j=>j=1\/j=2\/j=3 | _=>True
theorem NQ.lt(h:w.ok):w.cls<10:=by cases w<;>simp only[NQ.cls]<;>first | decide | (have:_=1\/_=2\/_=3:=h;omega)
theorem JR{i j:Int}{A B:Prop}(h:i=j)(k:A):if decide (V.int i=V.int j)=true then A else B:=by
 rw[j9 (y9 V.int h),k9 rfl];exact k
theorem qg{i j:Int}{A B:Prop}(h:i≠j)(k:B):if decide (V.int i=V.int j)=true then A else B:=by
 rw[h7 (λz=>h (V.int.inj z)),h9 i6];exact k
inductive wX(K:W.Frag)(C:Nat->Addr)(vs:List V)(H:Hp)(Q:VK)(E:XK):Prop
 | mk (ea:Addr) (w:NQ):vs=[.ref ea]->ZZ C H ea w->w.ok->(∀v H',aC H H'->Dat K H' w.dat v->Q v H')->wX K C vs H Q E
noncomputable def Pj(i:Nat):List Bool:=[decide (i=0),decide (i=1),decide (i=2),decide (i=3),decide (i=4),decide (i=5),decide (i=6),decide (i=7),decide (i=8),decide (i=9)]
theorem GN:∀i,i<10->((Pj i).map V.bl).countP (λe=>Ph e (.bl true))=1:=by decide+kernel
theorem Kq:∀i,i<10->((Pj i).map V.bl).all jI=true:=by decide+kernel
theorem Er:∀i,i<10->PyData.canLayAll0 ((Pj i).map PyData.bool)=true/\PyData.depthAll ((Pj i).map PyData.bool)<=60:=by decide+kernel
theorem RN:∀i,i<10->(Pj i)[i]?=some true/\∀m,m<i->(Pj i)[m]?=some false:=by decide+kernel
theorem Kr{i:Nat}(h:i<10):((Pj i).map PyData.bool)[i]?=some (.bool true)/\∀m,m<i->((Pj i).map PyData.bool)[m]?=some (.bool false):=by
 obtain⟨a,b⟩:=RN i h;exact⟨by rw[y4,a];rfl,λm hm=>by rw[y4,b m hm];rfl⟩
theorem JI(f:Str)(v:V)(r:List (Str×V)):List.lookup f ((f,v)::r)=some v:=by rw[A0,A5]
theorem Ut{i j:Int}{A B:Prop}(h:i<j)(k:A):if decide (i<j)=true then A else B:=by
 rw[j9 h,k9 rfl];exact k
theorem xP{i j:Int}{A B:Prop}(h:¬i<j)(k:B):if decide (i<j)=true then A else B:=by
 rw[h7 h,h9 i6];exact k
theorem Es{K:W.Frag}:∀bs:List Bool,DatAll K H (bs.map PyData.bool) (bs.map V.bl)
 | []=>rfl
 | b::bs=>⟨_,_,rfl,rfl,Es bs⟩
variable{P:Program}{w:World}{K:W.Frag}{mg:Str->Option Value}{base:Heap}{c:CCs}
theorem Jg{C:Nat->Addr}(T:aA K mg "_law_named" jA)(aK:mg "isinstance"=none)(ko:mg "ValueError"=none)(X:uC K mg CS C):Def P w K mg base 1 "_law_named" ["_law_caught"] (wX K C):=by
 have KI:=X.m0;have KJ:=X.m1;have KN:=X.m2;have KO:=X.m3;have KL:=X.m4;have CL:=X.m5;have fQ:=X.m6;have ql:=X.m7;have nr:=X.m8;have R9:=X.m9;refine aY T tj (λ_ _ _ _ _ _=>ar1 λ_=>rfl) ?_ ?_
 .walk_at "i1"
 walk_at "i2";obtain⟨ea,wh,rfl,cg,ok,q⟩:=h;have nd:=tj.nd;have hu:=hr.units;have lt:=NQ.lt ok
 have tail:∃t,NU (bM CX0 P w K mg base wa "_law_named" (ai jA) f cdv A outer s H E).nox ((aZ jA).drop 6) t/\∀(o1:Option V)(H1:Hp),aC H H1->t {nx:=λ_ H'=>Q .non H',rt:=Q} [some (.ref ea),o1,some (.int (wh.cls:Int))] H1:=by
  refine⟨_,(ag (aP (aB mB (pv 2) aq (aE _)) (ah (av (bu (aa (aL bb (bg (aa az (aa az af))) (pv 2)) (aa (kX (K:=K) rfl (pv 0) rfl) af))))) aG)
  (ag (aP (aB bf (pv 2) aq (aE _)) (ah (av (bu (aa az (aa (bu (aa (kX (K:=K) rfl (pv 0) rfl) (aa (kX (K:=K) rfl (pv 0) rfl) af))) af))))) aG)
  (ag (aP (aB bf (pv 2) aq (aE _)) (ah (av (bu (aa az (aa (kX (K:=K) rfl (pv 0) rfl) af))))) aG)
  (ag (aP (aB bf (pv 2) aq (aE _)) (ah (av (bu (aa az (aa (kX (K:=K) rfl (pv 0) rfl) af))))) aG)
  (ah (av (bu (aa (aL bb (bg (aa az (aa az (aa az (aa az (aa az af)))))) (aO gN (pv 2) aq)) (aa cf af))))))))),?_⟩
  intro o1 H1 s1;obtain⟨dc,he,hf⟩:=cg.to s1;cases wh with
  | text k =>
   obtain⟨d,rfl,hd⟩:=hf _ rfl;refine⟨_,rfl,_,_,rfl,rfl,_,rfl,Ut (show((0:Nat):Int)<2 by decide) ⟨Mine.z2,λl hl=>?_⟩⟩;have u:=au hl (.lst [V.str "text",.str "rows"]);refine⟨_,rfl,_,_,_,_,rfl,rfl,Nq.of ae,rfl,_,rfl,ea,_,d,_,_,rfl,u _ _ he,u _ _ hd,X.f0,X.n0,JI _ _ _,Mine.z2,λp hp=>?_⟩;exact q _ _ (s1.trans (u.trans (au hp _))) ⟨p,_,rfl,Nv.of ae,_,_,rfl,rfl,_,_,rfl,rfl,rfl⟩
  | call x =>
   obtain⟨d,rfl,hd⟩:=hf _ rfl;refine⟨_,rfl,_,_,rfl,rfl,_,rfl,xP (show ¬((3:Nat):Int)<2 by decide) ⟨_,rfl,rfl,_,rfl,qg (show((3:Nat):Int)≠2 by decide) ⟨_,rfl,rfl,_,rfl,JR rfl ⟨_,rfl,ea,_,d,_,_,rfl,he,hd,X.f3,X.n3,JI _ _ _,Mine.z2,λp hp=>?_⟩⟩⟩⟩;exact q _ _ (s1.trans (au hp _)) ⟨p,_,rfl,Nv.of ae,_,_,rfl,rfl,_,_,rfl,rfl,rfl⟩
  | name x =>
   obtain⟨d,rfl,hd⟩:=hf _ rfl;refine⟨_,rfl,_,_,rfl,rfl,_,rfl,xP (show ¬((4:Nat):Int)<2 by decide) ⟨_,rfl,rfl,_,rfl,qg (show((4:Nat):Int)≠2 by decide) ⟨_,rfl,rfl,_,rfl,qg (show((4:Nat):Int)≠3 by decide) ⟨_,rfl,rfl,_,rfl,JR rfl ⟨_,rfl,ea,_,d,_,_,rfl,he,hd,X.f4,X.n4,JI _ _ _,Mine.z2,λp hp=>?_⟩⟩⟩⟩⟩;exact q _ _ (s1.trans (au hp _)) ⟨p,_,rfl,Nv.of ae,_,_,rfl,rfl,_,_,rfl,rfl,rfl⟩
  | no j =>
   have cs:j=1\/j=2\/j=3:=ok;rcases cs with rfl | rfl | rfl
   all_goals
    refine⟨_,rfl,_,_,rfl,rfl,_,rfl,xP (by decide) ⟨_,rfl,rfl,_,rfl,qg (by decide) ⟨_,rfl,rfl,_,rfl,qg (by decide) ⟨_,rfl,rfl,_,rfl,qg (by decide) ⟨(by show 5<=sizeLine;decide),λl hl=>?_⟩⟩⟩⟩⟩;refine⟨_,rfl,_,_,rfl,rfl,_,_,_,_,rfl,rfl,Nq.of ae,rfl,Mine.z2,λp hp=>?_⟩;exact q _ _ (s1.trans ((au hl _).trans (au hp _))) ⟨p,_,rfl,Nv.of ae,_,_,rfl,rfl,_,_,rfl,rfl,rfl⟩
 obtain⟨t6,h6,q6⟩:=tail;refine⟨_,ag (aD (i:=1) (bg (aa (aH cM aK (aa (pv 0) (aa (bH (v:=V.ref (C 0)) rfl KI rfl) af))) (aa (aH cM aK (aa (pv 0) (aa (bH (v:=V.ref (C 1)) rfl KJ rfl) af))) (aa (aH cM aK (aa (pv 0) (aa (bH (v:=V.ref (C 2)) rfl KN rfl) af))) af))))) (ag (aD (i:=1) (aO xF (pv 1) (bg (aa (aH cM aK (aa (pv 0) (aa (bH (v:=V.ref (C 3)) rfl KO rfl) af))) (aa (aH cM aK (aa (pv 0) (aa (bH (v:=V.ref (C 4)) rfl KL rfl) af))) (aa (aH cM aK (aa (pv 0) (aa (bH (v:=V.ref (C 5)) rfl CL rfl) af))) af)))))) (ag (aD (i:=1) (aO xF (pv 1) (bg (aa (aH cM aK (aa (pv 0) (aa (bH (v:=V.ref (C 6)) rfl fQ rfl) af))) (aa (aH cM aK (aa (pv 0) (aa (bH (v:=V.ref (C 7)) rfl ql rfl) af))) (aa (aH cM aK (aa (pv 0) (aa (bH (v:=V.ref (C 8)) rfl nr rfl) af))) af)))))) (ag (aS (bx b9 g8 g9 aQ (pv 1) (aa (aH cM aK (aa (pv 0) (aa (bH (v:=V.ref (C 9)) rfl R9 rfl) af))) af))) (ag (aP (PW.pt (vR (aB vW (bx b9 PySem.F.slot_list_count PySem.F.type_list_count Gf (pv 1) (aa oC af)) aq (aE _)) (pW (mQ (gM (aH cM aK (aa (pv 0) (aa (lW (v:=V.ty "ValueError") rfl ko (by decide+kernel) rfl) af)))))))) (ah (av (bu (aa az (aa cf af))))) aG) (ag (aD (i:=2) (bx b9 PySem.F.slot_list_index PySem.F.type_list_index (Gd hu) (pv 1) (aa oC af))) h6))))),?_⟩;obtain⟨dc,he,hf⟩:=id cg;refine⟨_,rfl,ea,_,_,_,dc,decide (wh.cls=0),rfl,(λ_ h=>h),he,X.e _ lt,X.kk _ 0 lt (by decide),_,rfl,ea,_,_,_,dc,decide (wh.cls=1),rfl,(λ_ h=>h),he,X.e _ lt,X.kk _ 1 lt (by decide),_,rfl,ea,_,_,_,dc,decide (wh.cls=2),rfl,(λ_ h=>h),he,X.e _ lt,X.kk _ 2 lt (by decide),Mine.z3,λl1 h1=>?_⟩;have u1:=au h1 (.lst [V.bl (decide (wh.cls=0)),V.bl (decide (wh.cls=1)),V.bl (decide (wh.cls=2))]);have ZI:=u1 _ _ he;refine⟨_,rfl,_,rfl,ea,_,_,_,dc,decide (wh.cls=3),rfl,(λ_ h=>h),ZI,X.e _ lt,X.kk _ 3 lt (by decide),_,rfl,ea,_,_,_,dc,decide (wh.cls=4),rfl,(λ_ h=>h),ZI,X.e _ lt,X.kk _ 4 lt (by decide),_,rfl,ea,_,_,_,dc,decide (wh.cls=5),rfl,(λ_ h=>h),ZI,X.e _ lt,X.kk _ 5 lt (by decide),Mine.z3,λl2 h2=>?_⟩;have u2:=au h2 (.lst [V.bl (decide (wh.cls=3)),V.bl (decide (wh.cls=4)),V.bl (decide (wh.cls=5))]);refine⟨l1,l2,_,_,rfl,rfl,u2 _ _ ae,ae,(by show 6<=sizeLine;decide),λl3 h3=>?_⟩;have u3:=au h3 (.lst [V.bl (decide (wh.cls=0)),V.bl (decide (wh.cls=1)),V.bl (decide (wh.cls=2)),V.bl (decide (wh.cls=3)),V.bl (decide (wh.cls=4)),V.bl (decide (wh.cls=5))]);have he3:=u3 _ _ (u2 _ _ ZI);refine⟨_,rfl,_,rfl,ea,_,_,_,dc,decide (wh.cls=6),rfl,(λ_ h=>h),he3,X.e _ lt,X.kk _ 6 lt (by decide),_,rfl,ea,_,_,_,dc,decide (wh.cls=7),rfl,(λ_ h=>h),he3,X.e _ lt,X.kk _ 7 lt (by decide),_,rfl,ea,_,_,_,dc,decide (wh.cls=8),rfl,(λ_ h=>h),he3,X.e _ lt,X.kk _ 8 lt (by decide),Mine.z3,λl4 h4=>?_⟩;have u4:=au h4 (.lst [V.bl (decide (wh.cls=6)),V.bl (decide (wh.cls=7)),V.bl (decide (wh.cls=8))]);refine⟨l3,l4,_,_,rfl,rfl,u4 _ _ ae,ae,(by show 9<=sizeLine;decide),λl5 h5=>?_⟩;have u5:=au h5 (.lst [V.bl (decide (wh.cls=0)),V.bl (decide (wh.cls=1)),V.bl (decide (wh.cls=2)),V.bl (decide (wh.cls=3)),V.bl (decide (wh.cls=4)),V.bl (decide (wh.cls=5)),V.bl (decide (wh.cls=6)),V.bl (decide (wh.cls=7)),V.bl (decide (wh.cls=8))]);have m5:=u1.trans (u2.trans (u3.trans (u4.trans u5)));have he5:=m5 _ _ he;refine⟨_,rfl,.inl ⟨rfl,_,Nq.of ae⟩,_,rfl,ea,_,_,_,dc,decide (wh.cls=9),rfl,(λ_ h=>h),he5,X.e _ lt,X.kk _ 9 lt (by decide),l5,_,_,rfl,rfl,ae,(by show 9<sizeLine;decide),?_⟩;have m6:=bP m5 ((u1.trans (u2.trans (u3.trans u4))).free h5) (.lst ((Pj wh.cls).map V.bl));have he6:=m6 _ _ he;refine⟨_,rfl,.inl ⟨rfl,_,Nq.of ae⟩,l5,(Pj wh.cls).map V.bl,_,rfl,rfl,ae,Kq _ lt,rfl,?_⟩;rw[GN _ lt];refine⟨rfl,_,rfl,JS rfl ?_⟩;refine⟨_,rfl,ea,_,_,_,dc,true,rfl,(λ_ h=>h),he6,X.e _ lt,X.kv _ lt,_,rfl,bz ?_⟩;refine⟨_,rfl,.inl ⟨rfl,_,Nq.of ae⟩,l5,(Pj wh.cls).map V.bl,_,(Pj wh.cls).map PyData.bool,.bool true,wh.cls,.bool true,rfl,rfl,ae,Es _,rfl,(Er _ lt).1,rfl,(Er _ lt).2,(Kr lt).1,rfl,(λm e hm hme=>?_),?_⟩
 .rw[(Kr lt).2 m hm]at hme;cases hme
  rfl
 .exact q6 _ _ m6
theorem EW.of{C:Nat->Addr}{w:NQ}(h:∀dc H',aC H H'->(∀fs,w.flds=some fs->∃d,dc=some d/\H' d=some (.ext (cP d fs)))->E (.ref (C w.cls)) dc H'):EW C E H w:=by
 unfold EW;cases z:w.flds with
 | none=>exact λdc H' s=>h dc H' s λfs y=>by rw[z]at y;cases y
 | some fs =>
  refine λd H' s hd=>h (some d) H' s λYA y=>?_;rw[z]at y;cases y
  exact⟨d,rfl,hd⟩
noncomputable def cn(x:Str):PyData:=.tuple [.str "told",.str x]
noncomputable def An.dat:An->PyData
 | .oc (.tell x)=>cn x
 | .oc (.bad w)=>w.dat
 | .keep _ t=>cn (txt t.size)
def An.ok:An->Prop
 | .oc (.bad w)=>w.ok
 | _=>True
def An.fin(c:CCs)(d:Addr)(Np:List (Key×V))(H H':Hp):An->Prop
 | .oc _=>aC H H'
 | .keep n t=>∃H1 b,aC H H1/\Ob c H1 b t/\aC (upd H1 d (.dK (putK Np (Sum.inr n) (.ref b)))) H'
theorem An.fin.to{d:Addr}{Np:List (Key×V)}{NB:Hp}(h:o.fin c d Np H H')(s:aC H' NB):o.fin c d Np H NB:=by
 cases o with
 | oc o=>exact aC.trans h s
 | keep n t =>
  obtain⟨H1,b,h1,h2,h3⟩:=h;exact⟨H1,b,h1,h2,h3.trans s⟩
inductive gh(c:CCs)(K:W.Frag)(CD:Addr)(vs:List V)(H:Hp)(Q:VK)(E:XK):Prop
 | mk (a dx d:Addr) (Np:List (Key×V)) (ks:List Str) (f:Str->Option Tr) (x:Str) (o:An):vs=[.ref a,.str x]->OQ c CD H a dx d Np ks f->KP x->ZW x->fG f ks x o->o.ok->(∀v H',o.fin c d Np H H'->Dat K H' o.dat v->Q v H')->gh c K CD vs H Q E
theorem Fw{CD:Addr}{C:Nat->Addr}(T:aA K mg "_law_said" tI)(aK:mg "isinstance"=none)(oS:mg "str"=none)(X:uC K mg CS C)(M:gW P w K mg base CD "tell" 13 ["self","line"] (iw c C CD))(yp:Def P w K mg base 1 "_law_named" ["_law_caught"] (wX K C)):Def P w K mg base 14 "_law_said" ["_law_desk","_law_line"] (gh c K CD):=by
 have CK:=X.ms;have AJ:=X.cc;refine aY T vK (λ_ _ _ _ _ _=>ar2 λ_ _=>rfl) (λvs H Q E h=>?_) (λg cdv A outer s H vs Q E hr h=>?_)
 .obtain⟨a,dx,d,Np,ks,f,x,o,rfl,_⟩:=h;rfl
 obtain⟨a,dx,d,Np,ks,f,x,o,rfl,dk,h1,h2,te,ok,q⟩:=h;have nd:=vK.nd
 refine⟨_,(ag (aD (i:=2) cf)
  (ag (aD (i:=3) cf)
  (ag (QI (k:=13) (i:=3) (j:=4) rfl rfl rfl rfl (pv 0) (hr.mono (by decide)) (aa (pv 1) af) rfl CK AJ nd rfl rfl rfl rfl (λ_=>(ah (aD (i:=2) (pv 4)))))
  (ag (aP (aB rN (pv 2) cf (aE _)) (ah (av (aN yp (aa (pv 2) af)))) aG)
  (ag (aP (mQ (gM (aH lE aK (aa (pv 3) (aa (lW (v:=V.ty "str") rfl oS (by decide+kernel) rfl) af))))) (ah (av (bu (aa az (aa cf af))))) aG)
  (ah (av (bu (aa az (aa (pv 3) af)))))))))),?_⟩
 refine⟨_,rfl,a,CD,dx,_,_,_,rfl,dk.ea,cK (by decide+kernel) rfl,M,_,rfl,a,dx,d,Np,ks,f,x,o,rfl,dk,h1,h2,te,?_⟩
 have fin:∀(z:Str)(H1:Hp),An.fin c d Np H H1 o->An.dat o=cn z->(∀D:Addr,H1 D=none->Q (.ref D) (upd H1 D (.tup [.str "told",.str z]))):=λz H1 hf hd D hD=>by
  refine q _ _ (hf.to (au hD _)) ?_;rw[hd];exact⟨D,_,rfl,Nv.of ae,_,_,rfl,rfl,_,_,rfl,rfl,rfl⟩
 cases o with
 | oc o =>
  cases o with
  | tell z =>
   intro H1 s1;refine⟨_,rfl,rfl,_,rfl,bz ⟨_,rfl,_,_,_,_,true,rfl,(λ_ h=>h),jL.str _,lj,_,rfl,bz ⟨_,rfl,Mine.z2,λD hD=>?_⟩⟩⟩;exact fin z H1 s1 rfl D hD
  | bad wh =>
   refine EW.of λdc H1 s1 hf=>?_;have lt:=NQ.lt ok;refine⟨_,rfl,X.su _ lt,λea hea=>?_⟩;have u:=au hea (.ext (mh ea (C wh.cls) dc));refine⟨_,rfl,?_⟩;refine⟨_,rfl,rfl,_,rfl,cL ?_⟩;refine⟨_,rfl,ea,wh,rfl,⟨dc,ae,λfs z=>?_⟩,ok,λv H3 s3 d3=>q v H3 ((s1.trans u).trans s3) d3⟩;obtain⟨d',e1,e2⟩:=hf fs z;exact⟨d',e1,u _ _ e2⟩
 | keep n t =>
  intro H1 b H2 s1 ob s2;refine⟨_,rfl,rfl,_,rfl,bz ⟨_,rfl,_,_,_,_,true,rfl,(λ_ h=>h),jL.str _,lj,_,rfl,bz ⟨_,rfl,Mine.z2,λD hD=>?_⟩⟩⟩;exact fin _ H2 ⟨H1,b,s1,ob,s2⟩ rfl D hD
end Mine
namespace L2
open PySem PySem.Spec PyProof.Rows
variable{X:Cx}{ss rest:List Stmt}{R:TS->Prop}{H:Hp}{p:Addr}{e:Expr}{es:List Expr}{i:Nat}{x:Str}{tr:TS}{ds:List PyData}
structure oZ(X:Cx)(ss:List Stmt)(t:TS):Prop where
 h:NU X ss t
theorem YF{t:TS}(h:oZ X ss t)(r:R t):∃t,NU X ss t/\R t:=⟨t,h.h,r⟩
noncomputable def Qs(s:Stmt)(i:Nat):Stmt:=(aZ s).getD i (.Pass ⟨0,0,0,0⟩)
theorem newD(h:H p=none)(o:HO):aC H (upd H p o):=λb u z=>by rw[aj (ak z h)];exact z
mutual
noncomputable def dE:Expr->Option PyData
 | .Constant .none _ _=>some .none | .Constant (.int n) _ _=>some (.int n) | .Constant (.str z) _ _=>some (.str z)
 | .BinOp a .Add b _=>match dE a,dE b with
  | some (.str x),some (.str y)=>if x.length+y.length<=2000 then some (.str (x++y)) else none
  | _,_=>none
 | .BinOp a .Mult b _=>match dE a,dE b with
  | some (.str x),some (.int n)=>if 0<=n/\n<=1000/\x.length<=1000 then some (.str (me x n.toNat)) else none
  | _,_=>none
 | .Tuple es _ _=>match PQ es with
  | some xs=>if xs.length<=1000 then some (.tuple xs) else none
  | none=>none
 | _=>none
noncomputable def PQ:List Expr->Option (List PyData)
 | []=>some []
 | e::es=>match dE e,PQ es with
  | some x,some xs=>if plainArg e then some (x::xs) else none
  | _,_=>none
end
def tD(K:W.Frag)(d:PyData):TE:=λ_ H Q=>∀u H',aC H H'->Dat K H' d u->Q u H'
def tDs(K:W.Frag)(ds:List PyData):TA:=λ_ H Q=>∀us H',aC H H'->DatAll K H' ds us->Q us H'
section
variable{X:Cx}
theorem lV{t t':TE}(h:PE X e t)(k:∀σ H Q,t' σ H Q->t σ H Q):PE X e t':=λNn s σ H Q I q=>h Nn s σ H Q I (k σ H Q q)
theorem DX{t t':TA}(h:PA X es t)(k:∀σ H Q,t' σ H Q->t σ H Q):PA X es t':=λc Nn s σ H Q I q=>h c Nn s σ H Q I (k σ H Q q)
mutual
theorem oA:∀(e:Expr){d:PyData},dE e=some d->PE X e (tD X.K d):=λe d h=>by
 cases e with
 | Constant c k p =>
  cases c with
  | none=>cases h;exact lV cf λσ H Q q=>q _ _ (aC.refl _) rfl
  | int i=>cases h;exact lV aq λσ H Q q=>q _ _ (aC.refl _) rfl
  | str x=>cases h;exact lV az λσ H Q q=>q _ _ (aC.refl _) rfl
  | _=>cases h
 | BinOp a o b p =>
  cases o with
  | Add =>
   unfold dE at h;split at h
   .rename_i x y hx hy;split at h
    .rename_i c;cases h
     refine lV (aO bS (oA a hx) (oA b hy)) λσ H Q q=>λu H1 s1 d1 v H2 s2 d2=>?_;exact⟨x,y,d1,d2,h8 c (by decide),q _ _ (s1.trans s2) rfl⟩
    .cases h
   .cases h
  | Mult =>
   unfold dE at h;split at h
   .rename_i x n hx hy;split at h
    .rename_i c;cases h
     refine lV (aO DY (oA a hx) (oA b hy)) λσ H Q q=>λu H1 s1 d1 v H2 s2 d2=>?_;refine⟨x,n.toNat,d1,?_,by omega,c.2.2,q _ _ (s1.trans s2) rfl⟩;rw[show v=.int n from d2,Ly c.1]
    .cases h
   .cases h
  | _=>cases h
 | Tuple xs c p =>
  unfold dE at h;cases z:PQ xs with
  | none=>rw[z]at h;cases h
  | some ls =>
   rw[z]at h;dsimp only at h;split at h
   .rename_i c;cases h
    refine lV (bu (rM xs z)) λσ H Q q=>λus H1 s1 d1=>?_;have ln:=d1.len;refine⟨h8 (show us.length<=1000 by omega) (by decide),λp hp=>?_⟩;have u:=newD hp (.tup us);exact q _ _ (s1.trans u) ⟨p,us,rfl,Nv.of ae,d1.ts (aC.ts u)⟩
   .cases h
 | _=>cases h
theorem rM:∀(xs:List Expr){ds:List PyData},PQ xs=some ds->PA X xs (tDs X.K ds)
 | [],ds,h=>by cases h;exact DX af λσ H Q q=>q _ _ (aC.refl _) rfl
 | e::r,ds,h=>by
  unfold PQ at h;cases z1:dE e with
  | none=>rw[z1]at h;cases h
  | some x =>
   cases z2:PQ r with
   | none=>rw[z1,z2]at h;cases h
   | some ys =>
    rw[z1,z2]at h;dsimp only at h
    by_cases c:plainArg e=true
    .rw[k9 c]at h;cases h
     refine DX (paS (oA e z1) (rM r z2) c) λσ H Q q=>λu H1 s1 d1 us H2 s2 d2=>?_;exact q _ _ (s1.trans s2) ⟨u,us,rfl,d1.ts (aC.ts s2),d2⟩
    .rw[h9 c]at h;cases h
end
noncomputable def jd(x:Str):List Stmt->List PyData×List Stmt
 | []=>([],[])
 | st::r=>match st with
  | .Assign [.Name y _] (.BinOp (.Name z _) .Add (.List es _) _) _=>if y=x/\z=x then(match PQ es with | some ds=>(ds++(jd x r).1,(jd x r).2) | none=>([],st::r)) else([],st::r)
  | _=>([],st::r)
theorem cat_ex(hN:X.N.Nodup)(hi:X.N[i]?=some x)(hx:Loc X.env.scope x)(hv:Y6 X.env.scope x)(hd:(x==("__debug__":Str))=false)(hd2:(x==("__classdict__":Str))=false)(hf:X.fn x=true\/X.env.scope.names.lookup x=some .local) :
  ∀(
   ss:List Stmt),oZ X (jd x ss).2 tr->∃t,oZ X ss t/\∀D σ H (a:Addr) (us:List V) (es:List PyData),σ[i]?=some (some (.ref a))->H a=some (.lst us)->DatAll X.K H es us->es.length+(jd x ss).1.length<=1000->
   (∀b vs H',aC H H'->H' b=some (.lst vs)->DatAll X.K H' (es++(jd x ss).1) vs->tr D (σ.set i (some (.ref b))) H')->t D σ H:=by
 have stay:∀ss:List Stmt,jd x ss=([],ss)->oZ X (jd x ss).2 tr->∃t,oZ X ss t/\∀D σ H (a:Addr) (us:List V) (es:List PyData),σ[i]?=some (some (.ref a))->H a=some (.lst us)->DatAll X.K H es us->es.length+(jd x ss).1.length<=1000->
   (∀b vs H',aC H H'->H' b=some (.lst vs)->DatAll X.K H' (es++(jd x ss).1) vs->tr D (σ.set i (some (.ref b))) H')->t D σ H:=λss e h=>by
  rw[e]at h ⊢;refine⟨tr,h,λD σ H a us es ha ea de _ q=>?_⟩;have q:=q a us H (aC.refl _) ea (by rw[A6];exact de)
  have V1:σ.set i (some (.ref a))=σ:=by
   obtain⟨h1,h2⟩:=j6.mp ha;rw[<- h2];exact List.set_getElem_self h1
  rw[V1]at q;exact q
 intro ss
 induction ss with
 | nil=>exact stay [] rfl
 | cons st r ih =>
  intro h
  by_cases e:jd x (st::r)=([],st::r)
  .exact stay _ e h
  .have h0:=h;unfold jd at e;split at e
   .rename_i y p1 z p2 es p3 p4 p5
    by_cases c:y=x/\z=x
    .obtain⟨rfl,rfl⟩:=c;cases w:PQ es with
     | none=>rw[k9 ⟨rfl,rfl⟩,w]at e;exact absurd rfl e
     | some ds =>
      have ec:jd z (.Assign [.Name z p1] (.BinOp (.Name z p2) .Add (.List es p3) p4) p5::r)=(ds++(jd z r).1,(jd z r).2):=by
       show(if z=z/\z=z then(match PQ es with | some ds=>(ds++(jd z r).1,(jd z r).2) | none=>([],_)) else _)=_
       rw[k9 ⟨rfl,rfl⟩,w]
      rw[ec]at h ⊢;obtain⟨t,ht,kt⟩:=ih h;refine⟨_,⟨ag (aD (aO xF (IC hi hv hd hd2) (bg (rM es w))) (hN:=hN) (hi:=hi) (hx:=hx) (hs:=rfl) (hf:=hf)) ht.h⟩,λD σ H a us es0 ha ea de few q=>?_⟩;refine⟨_,ha,λws H1 s1 d1=>?_⟩;have l1:=d1.len;have l2:=de.len;have YC:es0.length+(ds.length+(jd z r).1.length)<=1000:=by rw[<- p7];exact few
      refine⟨h8 (show ws.length<=1000 by omega) (by decide),λl hl=>?_⟩;have u1:=newD hl (.lst ws);refine⟨a,l,us,ws,rfl,rfl,(s1.trans u1) _ _ ea,ae,h8 (show us.length+ws.length<=1000 by omega) (by decide),λp hp=>?_⟩;have u2:=newD hp (.lst (us++ws));have s2:=(s1.trans u1).trans u2;have dA:DatAll X.K (upd (upd H1 l (.lst ws)) p (.lst (us++ws))) (es0++ds) (us++ws):=(de.ts (aC.ts s2)).append (d1.ts (aC.ts (u1.trans u2)));refine kt D _ _ p (us++ws) (es0++ds) ?_ ae dA (by rw[p7];omega) λb vs H' s3 eb db=>?_
      .obtain⟨h1,h2⟩:=j6.mp ha;simp[h1]
      .rw[List.set_set];refine q b vs H' (s2.trans s3) eb ?_;rw[<- B3];exact db
    .rw[h9 c]at e;exact absurd rfl e
   .exact absurd rfl e
noncomputable def Gh(x:Str):List Stmt->Option (List PyData×List Stmt)
 | .Assign [.Name y _] (.List es _) _::r=>if y=x then(match PQ es with | some ds=>if(ds++(jd x r).1).length<=1000 then some (ds++(jd x r).1,(jd x r).2) else none | none=>none) else none
 | _=>none
theorem zR(e:Gh x ss=some (ds,rest))(hr:oZ X rest tr)(hN:X.N.Nodup)(hi:X.N[i]?=some x)(hx:Loc X.env.scope x)(hv:Y6 X.env.scope x)(hd:(x==("__debug__":Str))=false)(hd2:(x==("__classdict__":Str))=false)(hf:X.fn x=true\/X.env.scope.names.lookup x=some .local) :
  ∃t,oZ X ss t/\∀D σ H,i<σ.length->(∀b vs H',aC H H'->H' b=some (.lst vs)->DatAll X.K H' ds vs->tr D (σ.set i (some (.ref b))) H')->t D σ H:=by
 unfold Gh at e;split at e
 .rename_i y p1 es p2 p3 r
  by_cases c:y=x
  .subst c;rw[k9 rfl]at e;cases w:PQ es with
   | none=>rw[w]at e;cases e
   | some d0 =>
    rw[w]at e;dsimp only at e;split at e
    .rename_i few;cases e
     obtain⟨t,ht,kt⟩:=cat_ex hN hi hx hv hd hd2 hf r hr;refine⟨_,⟨ag (aD (bg (rM es w)) (hN:=hN) (hi:=hi) (hx:=hx) (hs:=rfl) (hf:=hf)) ht.h⟩,λD σ H hl q=>?_⟩;intro ws H1 s1 d1;have l1:=d1.len;have YC:d0.length+(jd y r).1.length<=1000:=by rw[<- p7];exact few
     refine⟨h8 (show ws.length<=1000 by omega) (by decide),λl UI=>?_⟩;have u1:=newD UI (.lst ws);refine kt D _ _ l ws d0 (by simp[hl]) ae (d1.ts (aC.ts u1)) YC λb vs H' s3 eb db=>?_;rw[List.set_set];exact q b vs H' ((s1.trans u1).trans s3) eb db
    .cases e
  .rw[h9 c]at e;cases e
 .cases e
end
end L2
namespace Mine
open PySem L2
variable{ks r:List Str}{o:An}
noncomputable def OK(x:Str):Bool:=decide (x.length<=1000) && ((!Txt.startswith x "say " || (!(decide (x.length<(" ":Str).length) || decide (Builtin.Str.strKind x<Builtin.Str.strKind " ")) && !(Builtin.Str.occurrences x " " 0 x.length (limitOf x 2)).isEmpty)) && (match Ot x with
 | _::r=>decide (r.length<=1000) && r.all (λz=>decide (z.length<=1000) && z.cps.all (· < 128))
 | []=>false))
theorem Ec{x:Str}(h:OK x=true):KP x/\ZW x:=by
 unfold OK at h;rw[t7,t7]at h;obtain⟨h1,h2,h3⟩:=h;refine⟨⟨h8 (l9 h1) (by decide),λz=>?_⟩,?_⟩
 .rw[z]at h2;simpa using h2
 .cases e:Ot x with
  | nil=>rw[e]at h3;cases h3
  | cons y r =>
   rw[e]at h3;dsimp only at h3;rw[t7]at h3;refine⟨y,r,e,l9 h3.1,λz hz=>?_⟩;have:=E4.mp h3.2 z hz;rw[t7]at this;exact⟨l9 this.1,this.2⟩
noncomputable def Uu(y:Str):Bool:=decide (y="a"\/y="b"\/y="full"\/y="nine")
noncomputable def JC(x n:Str):Bool:=match Ot x with
 | y::r=>iT (y::r) && (match PyProof.Rows.KTD.datumAt y FO with
  | some fs=>decide ((iM fs r).find? (λz=>!Uu z)=some n)
  | none=>false)
 | []=>false
noncomputable def HL(x:Str)(k:Int):Bool:=match Ot x with
 | [s,n,t]=>decide (s="say") && (iT [s,n,t] && (decide (t.length<=1000) && (decide ((Txt.split t " ").length<=1000) && decide (bL ["saying"] (Txt.split t " ") 0=some k.toNat/\0<=k))))
 | _=>false
noncomputable abbrev Te:Tr:=.fold .more .lp .lp
noncomputable abbrev Td:Tr:=.fold .leads .lp (.no .lq)
noncomputable def jb:Nat->Tr->Tr
 | 0,t=>t
 | n+1,t=>.no (jb n t)
theorem dM(t:Tr):∀n,(jb n t).size=n+t.size
 | 0=>(MC _).symm
 | n+1=>by show(jb n t).size+1=_;rw[dM t n];omega
theorem tP(t u v:Tr):∀n,(jb n t).put u v=jb n (t.put u v)
 | 0=>rfl
 | n+1=>by show Tr.no ((jb n t).put u v)=_;rw[tP t u v n];rfl
theorem N6.size{t:Tr}(h:N6 t):t.size=2*t.nf+1:=by
 induction h with
 | p=>rfl
 | @f u t _ _ ih =>
  rw[lX];show Tr.lp.size+t.size+1=_;rw[ih,show Tr.lp.nf=0 from rfl,show Tr.lp.size=1 from rfl];omega
theorem N6.puts{t:Tr}(h:N6 t)(u v:Tr):(t.put u v).size=t.nf+(t.nf+1)*u.size:=by
 induction h with
 | p=>show u.size=_;rw[show Tr.lp.nf=0 from rfl];omega
 | @f w t _ _ ih =>
  rw[lX,show Tr.lp.nf=0 from rfl];show u.size+(t.put u v).size+1=_;rw[ih];have e:(0+t.nf+1+1)*u.size=(t.nf+1)*u.size+u.size:=by rw[<- Nat.succ_mul];congr 1;omega
  omega
structure Vv(f:Str->Option Tr)(F N:Tr):Prop where
 a:f "a"=some Te
 b:f "b"=some Td
 fu:f "full"=some F
 ni:f "nine"=some N
 is:∀z,(f z).isSome=Uu z
 hF:F=jb 23 .lp\/F=jb 23 .lq
 hN:N6 N
 n9:N.nf=9
theorem EO{f:Str->Option Tr}{x n:Str}(hf:∀z,(f z).isSome=Uu z)(h:JC x n=true):fG f ks x (.oc (.bad (.name n))):=by
 unfold JC at h;cases e:Ot x with
 | nil=>rw[e]at h;cases h
 | cons y r =>
  rw[e]at h;dsimp only at h;rw[t7]at h;obtain⟨h1,h2⟩:=h;cases z:PyProof.Rows.KTD.datumAt y FO with
  | none=>rw[z]at h2;cases h2
  | some fs =>
   rw[z]at h2;obtain⟨p,as,bs,q1,q2⟩:=List.find?_eq_some_iff_append.mp (l9 h2);refine .name (i:=as.length) e h1 z (by rw[q1];simp) (λw hw=>?_) ?_
   .rw[q1,List.take_left' rfl]at hw;rw[hf];have:=q2 w hw;simpa using this
   .have:=hf n;rw[show Uu n=false by simpa using p]at this;cases w:f n with
    | none=>rfl
    | some t=>rw[w]at this;cases this
theorem bZ{f:Str->Option Tr}{x y:Str}{fs:List Str}(hf:∀z,(f z).isSome=Uu z)(h:Ot x=y::r/\iT (y::r)=true/\PyProof.Rows.KTD.datumAt y FO=some fs/\∀z∈iM fs r,Uu z=true)(k:Pk f ks (y::r) o):fG f ks x o:=.ans h.1 h.2.1 h.2.2.1 (λz hz=>by rw[hf];exact h.2.2.2 z hz) k
theorem EL{f:Str->Option Tr}{ks:List Str}{x:Str}{k:Int}(h:HL x k=true):fG f ks x (.oc (.bad (.text k))):=by
 unfold HL at h;split at h
 .rename_i s n t e;rw[t7,t7,t7,t7]at h;obtain⟨h1,h2,h3,h4,h5⟩:=h;obtain rfl:=l9 h1;obtain⟨h5,h6⟩:=l9 h5;have ef:PyProof.Rows.KTD.datumAt ("say":Str) FO=some [("new":Str),"text"]:=by decide+kernel
  have:=Pk.sayT (f:=f) (ks:=ks) (n:=n) (x:=t) (k:=k.toNat) ⟨h8 (l9 h3) (by decide),l9 h4⟩ h5;rw[Ly h6]at this;exact .ans e h2 ef (λz hz=>by cases(show z∈([]:List Str) from hz)) this
 .cases h
noncomputable def RS:List (Str×Nat):=[(("say a ":Str)++me "not " 24++("p":Str),1),("put a full full b",1),("put a nine full a",1),("worth a 0 0 0",2),("worth b 5 6 0",2),("worth b 5 0 6",2),("worth nine 0 1 1",2),("line b",3),("least nine",1),("always nine",1),("steps nine",1),("lack nine a",1),("lack a nine",1),("alike nine nine",1),("alike b nine",1)]
noncomputable abbrev fN:List Str:=["name"]
noncomputable abbrev ZN:List Str:=["name","name"]
noncomputable abbrev fP:List Str:=["new","name","name","name"]
noncomputable abbrev fW:List Str:=["name","number","number","number"]
theorem EN{f:Str->Option Tr}{F N:Tr}(S:Vv f F N):∀q∈RS,fG f ks q.1 (.oc (.bad (.no q.2))):=by
 have n9:=S.n9;have sN:N.size=19:=by rw[S.hN.size,n9]
 have pF:24<(F.put F Td).size/\(F.put F Td).size<=1000/\F.size=24:=by
  rcases S.hF with rfl | rfl
  .rw[tP,dM,dM];show 24<23+(jb 23 .lp).size/\23+(jb 23 .lp).size<=1000/\23+1=24;rw[dM];decide
  .rw[tP,dM,dM];decide
 have pN:(N.put F Te).size=249:=by rw[S.hN.puts F Te,n9,pF.2.2]
 have N9:N.size<=900:=by rw[sN];decide
 have F9:F.size<=900:=by rw[pF.2.2];decide
 have n8:8<N.nf:=by rw[n9];decide
 intro q hq;simp only[RS,j8,z8,E9]at hq;rcases hq with rfl | rfl | rfl | rfl | rfl | rfl | rfl | rfl | rfl | rfl | rfl | rfl | rfl | rfl | rfl
 .exact bZ (y:="say") (r:=["a",me "not " 24++("p":Str)]) (fs:=["new","text"]) S.is (by decide+kernel) (.sayM (t:=jb 24 .lp) ⟨by decide+kernel,by decide+kernel⟩ (by decide+kernel) (by rw[dM];decide))
 .exact bZ (y:="put") (r:=["a","full","full","b"]) (fs:=fP) S.is (by decide+kernel) (.put S.fu S.fu S.b F9 pF.2.1 pF.1)
 .exact bZ (y:="put") (r:=["a","nine","full","a"]) (fs:=fP) S.is (by decide+kernel) (.put S.ni S.fu S.a N9 (by rw[pN];decide) (by rw[pN];decide))
 .exact bZ (y:="worth") (r:=["a","0","0","0"]) (fs:=fW) S.is (by decide+kernel) (.worth (i:=0) (j:=0) (k:=0) S.a (by decide) (by decide+kernel) (by decide+kernel) (by decide+kernel) (by decide))
 .exact bZ (y:="worth") (r:=["b","5","6","0"]) (fs:=fW) S.is (by decide+kernel) (.worth (i:=5) (j:=6) (k:=0) S.b (by decide) (by decide+kernel) (by decide+kernel) (by decide+kernel) (by decide))
 .exact bZ (y:="worth") (r:=["b","5","0","6"]) (fs:=fW) S.is (by decide+kernel) (.worth (i:=5) (j:=0) (k:=6) S.b (by decide) (by decide+kernel) (by decide+kernel) (by decide+kernel) (by decide))
 .exact bZ (y:="worth") (r:=["nine","0","1","1"]) (fs:=fW) S.is (by decide+kernel) (.worth (i:=0) (j:=1) (k:=1) S.ni N9 (by decide+kernel) (by decide+kernel) (by decide+kernel) (by decide))
 .exact bZ (y:="line") (r:=["b"]) (fs:=fN) S.is (by decide+kernel) (.one S.b (by decide) (.line (i:=1) (by decide+kernel)))
 .exact bZ (y:="least") (r:=["nine"]) (fs:=fN) S.is (by decide+kernel) (.one S.ni N9 (.manyL n8))
 .exact bZ (y:="always") (r:=["nine"]) (fs:=fN) S.is (by decide+kernel) (.one S.ni N9 (.manyA n8))
 .exact bZ (y:="steps") (r:=["nine"]) (fs:=fN) S.is (by decide+kernel) (.one S.ni N9 (.manyS n8))
 .exact bZ (y:="lack") (r:=["nine","a"]) (fs:=ZN) S.is (by decide+kernel) (.two S.ni S.a (by rw[sN];decide) (.lack (by rw[n9];decide)))
 .exact bZ (y:="lack") (r:=["a","nine"]) (fs:=ZN) S.is (by decide+kernel) (.two S.a S.ni (by rw[sN];decide) (.lack (by rw[n9];decide)))
 .exact bZ (y:="alike") (r:=["nine","nine"]) (fs:=ZN) S.is (by decide+kernel) (.two S.ni S.ni (by rw[sN];decide) (.alike (by rw[n9];decide)))
 .exact bZ (y:="alike") (r:=["b","nine"]) (fs:=ZN) S.is (by decide+kernel) (.two S.b S.ni (by rw[sN];decide) (.alike (by rw[n9];decide)))
def NQ.sok:NQ->Prop
 | .call x=>PyData.strOk x=true
 | .name x=>PyData.strOk x=true
 | _=>True
noncomputable def ncB(d:PyData):Bool:=match d with
 | .str x=>OK x && (!iT (Ot x) && PyData.strOk x)
 | _=>false
noncomputable def oB(d:PyData):Bool:=match d with
 | .tuple [.str x,.tuple [.str k,.str n]]=>OK x && (decide (k="name") && (JC x n && PyData.strOk n))
 | .tuple [.str x,.tuple [.str k,.int i]]=>OK x && (decide (k="text") && HL x i)
 | .tuple [.str x,.tuple [.str k,.none]]=>OK x && RS.any (λq=>decide (q.1=x) && decide (noS q.2=k))
 | _=>false
theorem T7{d:PyData}(h:oB d=true):∃x w,d=.tuple [.str x,NQ.dat w]/\OK x=true/\w.ok/\w.sok/\∀(f:Str->Option Tr)(ks:List Str)(F N:Tr),Vv f F N->fG f ks x (.oc (.bad w)):=by
 unfold oB at h;split at h
 .rename_i x k n;rw[t7,t7,t7]at h;obtain⟨h1,h2,h3,h4⟩:=h;obtain rfl:=l9 h2;exact⟨x,.name n,rfl,h1,trivial,h4,λf ks F N S=>EO S.is h3⟩
 .rename_i x k i;rw[t7,t7]at h;obtain⟨h1,h2,h3⟩:=h;obtain rfl:=l9 h2;exact⟨x,.text i,rfl,h1,trivial,trivial,λf ks F N S=>EL h3⟩
 .rename_i x k;rw[t7]at h;obtain⟨h1,h2⟩:=h;obtain⟨q,hq,e⟩:=List.any_eq_true.mp h2;rw[t7]at e;obtain rfl:=l9 e.1;obtain rfl:=l9 e.2;exact⟨q.1,.no q.2,rfl,h1,(by decide:∀q∈RS.map (·.2),q=1\/q=2\/q=3) _ (List.mem_map.mpr ⟨q,hq,rfl⟩),trivial,λf ks F N S=>EN S q hq⟩
 .cases h
noncomputable def Xg:List PyData:=((Gh "_law_some" (aZ cO)).getD ([],[])).1
noncomputable def W7:List PyData:=((Gh "_law_some" (aZ eQ)).getD ([],[])).1
theorem JB:Xg.all ncB=true/\0<Xg.length:=by decide+kernel
theorem IK:W7.all oB=true/\0<W7.length:=by decide+kernel
inductive sD(vs:List V)(H:Hp)(Q:VK)(E:XK):Prop
 | mk (m:Int):vs=[.int m]->(∀x H',aC H H'->OK x=true->iT (Ot x)=false->PyData.strOk x=true->Q (.str x) H')->sD vs H Q E
inductive sC(K:W.Frag)(vs:List V)(H:Hp)(Q:VK)(E:XK):Prop
 | mk (m:Int):vs=[.int m]->(∀(a:Addr)(x:Str)(w:NQ)(v:V) H',aC H H'->Nv K H' a [.str x,v]->Dat K H' w.dat v->OK x=true->w.ok->w.sok->(∀(f:Str->Option Tr)(ks:List Str)(F N:Tr),Vv f F N->fG f ks x (.oc (.bad w)))->Q (.ref a) H')->sC K vs H Q E
variable{P:Program}{w:World}{K:W.Frag}{mg:Str->Option Value}{base:Heap}
theorem ok_nc61(T:aA K mg "_law_no_call" cO)(bC:mg "len"=none):Def P w K mg base 1 "_law_no_call" ["_law_cell"] sD:=by
 refine aY T nR (λ_ _ _ _ _ _=>ar1 λ_=>rfl) (λvs H Q E h=>?_) (λg cdv A outer s H vs Q E hr h=>?_)
 .obtain⟨m,rfl,_⟩:=h;rfl
 obtain⟨m,rfl,q⟩:=h;have nd:=nR.nd;have eb:Gh "_law_some" (aZ cO)=some (Xg,[Qs cO 13]):=by kernel_rfl
 have hl:∃t,oZ (bM CX0 P w K mg base qM "_law_no_call" (ai cO) g cdv A outer s H E).nox [Qs cO 13] t/\∀(b:Addr)(vs:List V)(H':Hp),aC H H'->H' b=some (.lst vs)->DatAll K H' Xg vs->t {nx:=λ_ H'=>Q .non H',rt:=Q} [some (.int m),some (.ref b)] H':=by
  refine⟨_,⟨ah (av (aL bb (pv 1) (aO ja (pv 0) (aH bR bC (aa (pv 1) af)))))⟩,λb vs H' s1 e1 d1=>?_⟩;have ln:=d1.len;have hp:(0:Int)<(Xg.length:Int):=by have:=JB.2;omega
  rw[<- ln]at hp;refine⟨_,rfl,_,rfl,_,rfl,_,_,rfl,.inl ⟨_,Nq.of e1,rfl⟩,_,_,rfl,rfl,hp,?_⟩;have i0:=LI m (show((vs.length:Nat):Int)≠0 by omega);have i1:=J8 m hp;have hi:(m%(vs.length:Int)).toNat<vs.length:=by omega
  have hv:=g0 hi;obtain⟨d,hd,dv⟩:=d1.get' hv;have ok:=E4.mp JB.1 d (x3 hd);refine⟨_,_,_,_,rfl,rfl,Nq.of e1,(by rw[<- Ly i0];exact bc hv),?_⟩;unfold ncB at ok;split at ok
  .rename_i x;rw[t7,t7]at ok;rw[show vs[(m%(vs.length:Int)).toNat]=.str x from dv];exact q x H' s1 ok.1 (by simpa using ok.2.1) ok.2.2
  .cases ok
 obtain⟨tr,htr,qtr⟩:=hl;obtain⟨t,ht,kt⟩:=zR (i:=1) eb htr nd rfl (Or.inl rfl) (Or.inl rfl) (by decide+kernel) (by decide+kernel) (Or.inr rfl);refine YF ht (kt _ _ _ (by show 1<2;decide) λb vs H' s1 e1 d1=>qtr b vs H' s1 e1 d1)
theorem ok_ot61(T:aA K mg "_law_other" eQ)(bC:mg "len"=none):Def P w K mg base 1 "_law_other" ["_law_cell"] (sC K):=by
 refine aY T ti (λ_ _ _ _ _ _=>ar1 λ_=>rfl) (λvs H Q E h=>?_) (λg cdv A outer s H vs Q E hr h=>?_)
 .obtain⟨m,rfl,_⟩:=h;rfl
 obtain⟨m,rfl,q⟩:=h;have nd:=ti.nd;have eb:Gh "_law_some" (aZ eQ)=some (W7,[Qs eQ 22]):=by kernel_rfl
 have hl:∃t,oZ (bM CX0 P w K mg base vZ "_law_other" (ai eQ) g cdv A outer s H E).nox [Qs eQ 22] t/\∀(b:Addr)(vs:List V)(H':Hp),aC H H'->H' b=some (.lst vs)->DatAll K H' W7 vs->t {nx:=λ_ H'=>Q .non H',rt:=Q} [some (.int m),some (.ref b)] H':=by
  refine⟨_,⟨ah (av (aL bb (pv 1) (aO ja (pv 0) (aH bR bC (aa (pv 1) af)))))⟩,λb vs H' s1 e1 d1=>?_⟩;have ln:=d1.len;have hp:(0:Int)<(W7.length:Int):=by have:=IK.2;omega
  rw[<- ln]at hp;refine⟨_,rfl,_,rfl,_,rfl,_,_,rfl,.inl ⟨_,Nq.of e1,rfl⟩,_,_,rfl,rfl,hp,?_⟩;have i0:=LI m (show((vs.length:Nat):Int)≠0 by omega);have i1:=J8 m hp;have hi:(m%(vs.length:Int)).toNat<vs.length:=by omega
  have hv:=g0 hi;obtain⟨d,hd,dv⟩:=d1.get' hv;have ok:=E4.mp IK.1 d (x3 hd);refine⟨_,_,_,_,rfl,rfl,Nq.of e1,(by rw[<- Ly i0];exact bc hv),?_⟩;obtain⟨x,wh,rfl,k1,k2,k3,k4⟩:=T7 ok;obtain⟨a,xs,ea,sa,x1,r1,rfl,h1,x2,r2,rfl,h2,h3⟩:=dv;cases(show x1=V.str x from h1)
  cases(show r2=[] from h3)
  rw[ea];exact q a x wh x2 H' s1 sa h2 k1 k2 k3 k4
 obtain⟨tr,htr,qtr⟩:=hl;obtain⟨t,ht,kt⟩:=zR (i:=1) eb htr nd rfl (Or.inl rfl) (Or.inl rfl) (by decide+kernel) (by decide+kernel) (Or.inr rfl);refine YF ht (kt _ _ _ (by show 1<2;decide) λb vs H' s1 e1 d1=>qtr b vs H' s1 e1 d1)
end Mine
namespace L2
open PySem PySem.Spec PyProof.Rows PySem.StrLaws PySem.Builtin.Str
variable{L B R A C:List Nat}{c p n:Nat}{x:Str}
theorem rQ(x:Str)(c limit:Nat):∀(n p:Nat)(arr:Array Nat)(free:Nat),free<=p->
  (forIn (List.range' p n) (arr,free) (occBody x ⟨#[c]⟩ x.length limit)).run.fst.toList=arr.toList++((List.range' p n).filter λi=>decide (x.cps.toList[i]?=some c)).take (limit-arr.size)
 | 0,p,arr,free,h=>by simp
 | n+1,p,arr,free,h=>by
  rw[Na,G4];unfold occBody
  by_cases hc:x.cps.toList[p]?=some c
  .have hs:=(subAt_one x c p).mpr hc;rw[Nb,k9 (j9 hc)]
   by_cases hl:arr.size<limit
   .rw[k9 ⟨⟨⟨hl,h⟩,hs.1⟩,hs.2⟩];have ih:=rQ x c limit n (p+1) (arr.push p) (p+(⟨#[c]⟩:Str).length) (f7 _);refine Eq.trans ih ?_;rw[Array.toList_push,Array.size_push,B3,show limit-arr.size=(limit-(arr.size+1))+1 by omega,List.take_succ_cons];rfl
   .rw[h9 (λz=>hl z.1.1.1)];have ih:=rQ x c limit n (p+1) arr free (by omega);refine Eq.trans ih ?_;rw[show limit-arr.size=0 by omega,List.take_zero,List.take_zero]
  .rw[h9 (λz=>hc ((subAt_one x c p).mp ⟨z.1.2,z.2⟩)),Nb,h9 (by rw[h7 hc];decide)];exact rQ x c limit n (p+1) arr free (by omega)
theorem Ea(x:Str)(c lo limit:Nat):occurrences x ⟨#[c]⟩ lo x.length limit=((List.range' lo (x.length+1-lo)).filter λi=>decide (x.cps.toList[i]?=some c)).take limit:=by
 rw[occ_eq,rQ x c limit _ lo #[] lo (f7 _)];rfl
theorem Gv(h:∀i,p<=i->i<p+n->L[i]?≠some c):((List.range' p n).filter λi=>decide (L[i]?=some c))=[]:=by
 rw[List.filter_eq_nil_iff];intro i hi;rw[List.mem_range'_1]at hi;rw[decide_eq_true_eq];exact h i hi.1 hi.2
theorem qi(e:L.drop p=B++c::R)(hB:c ∉ B)(hn:B.length<n):((List.range' p n).filter λi=>decide (L[i]?=some c))=(p+B.length)::((List.range' (p+B.length+1) (n-B.length-1)).filter λi=>decide (L[i]?=some c)):=by
 have e1:List.range' p n=List.range' p B.length++(p+B.length)::List.range' (p+B.length+1) (n-B.length-1):=by
  rw[<- Na,List.range'_append_1];congr 1;omega
 have at_:∀i,L[p+i]?=(B++c::R)[i]?:=λi=>by rw[<- e,List.getElem?_drop]
 rw[e1,List.filter_append,Gv λi h1 h2 z=>?_,Nh,Nb,k9 (j9 ?_)]
 .rw[at_];simp
 .rw[show i=p+(i-p) by omega,at_,G2 (by omega)]at z;exact hB (x3 z)
theorem Ke:(A++c::R).drop (A.length+1)=R:=by
 rw[show A++c::R=(A++[c])++R by simp,Ni (by simp)]
theorem AX(e:x.cps.toList=A++B++C):strSub x A.length (A.length+B.length)=⟨B.toArray⟩:=by
 unfold strSub;congr 1;apply Array.toList_inj.mp;rw[Array.toList_extract,e];simp[List.extract]
theorem TC{x:Str}{A B C:List Nat}(e:x.cps.toList=A++c::(B++c::C))(hA:c ∉ A)(hB:c ∉ B):occurrences x ⟨#[c]⟩ 0 x.length 2=[A.length,A.length+1+B.length]/\iU x ⟨#[c]⟩ 2=[⟨A.toArray⟩,⟨B.toArray⟩,⟨C.toArray⟩]:=by
 have hl:x.length=A.length+(B.length+C.length+1)+1:=by
  show x.cps.size=_;rw[<- A8,e];simp;omega
 have o:occurrences x ⟨#[c]⟩ 0 x.length 2=[A.length,A.length+1+B.length]:=by
  rw[Ea,qi (B:=A) (R:=B++c::C) (by rw[Nk];exact e) hA (by omega),qi (B:=B) (R:=C) (by rw[e,MC,Ke]) hB (by omega)];simp[Nat.add_right_comm]
 refine⟨o,?_⟩;unfold iU;rw[show limitOf x 2=2 from rfl,o];have s1:=AX (x:=x) (A:=[]) (B:=A) (C:=c::(B++c::C)) (by rw[e];rfl);have s2:=AX (x:=x) (A:=A++[c]) (B:=B) (C:=c::C) (by rw[e];simp);have s3:=AX (x:=x) (A:=A++c::(B++[c])) (B:=C) (C:=[]) (by rw[e];simp);show[strSub x 0 A.length,strSub x (A.length+1) (A.length+1+B.length),strSub x (A.length+1+B.length+1) x.length]=_;rw[show(A++[c]).length=A.length+1 by simp]at s2;rw[show(A++c::(B++[c])).length=A.length+1+B.length+1 by simp;omega]at s3;rw[D3,MC]at s1;rw[s1,s2,hl,show A.length+(B.length+C.length+1)+1=A.length+1+B.length+1+C.length by omega,s3]
theorem JT{B:List Nat}(e:x.cps.toList=A++B++c::C)(hB:c ∉ B):occurrences x ⟨#[c]⟩ A.length x.length 1=[A.length+B.length]:=by
 have hl:x.length=A.length+B.length+C.length+1:=by
  show x.cps.size=_;rw[<- A8,e];simp;omega
 rw[Ea,qi (B:=B) (R:=C) (by rw[e,B3,Ni rfl]) hB (by omega)];rfl
theorem EV(e:x.cps.toList=A++B++C)(hA:0<A.length)(hC:C.length=2):Txt.slice x (some (A.length:Int)) (some (-2))=⟨B.toArray⟩:=by
 have hl:x.length=A.length+B.length+2:=by
  show x.cps.size=_;rw[<- A8,e];simp;omega
 have si:strSliceIndices (some (A.length:Int)) (some (-2)) 1 x.length=List.range' A.length B.length:=by
  unfold strSliceIndices sliceRange;rw[hl];simp only[show(1:Int)>0 by decide,MS,show ¬((A.length:Int)<0) by omega,ME,show(-2:Int)<0 by decide];rw[show max (0:Int) (min (A.length:Int) ((A.length+B.length+2:Nat):Int))=(A.length:Int) by omega,show max (0:Int) (min (-2+((A.length+B.length+2:Nat):Int)) ((A.length+B.length+2:Nat):Int))=((A.length+B.length:Nat):Int) by omega]
  by_cases hb:B.length=0
  .rw[hb];simp
  .rw[List.range'_eq_map_range];split
   .rw[show((((A.length+B.length:Nat):Int)-(A.length:Int)+1-1)/1).toNat=B.length by rw[Int.ediv_one];omega];exact List.map_congr_left λk _=>by omega
   .rename_i z;omega
 unfold Txt.slice;rw[si,h9]
 .congr 1;congr 1
  have h:∀(n p:Nat)(M R:List Nat),x.cps.toList.drop p=M++R->M.length=n->(List.range' p n).filterMap (x.cps[·]?)=M:=by
   intro n
   induction n with
   | zero=>intro p M R _ hm;rw[Ml hm];rfl
   | succ n ih =>
    intro p M R hd hm;cases M with
    | nil=>cases hm
    | cons b M =>
     rw[Na,E1]
     have h0:x.cps[p]?=some b:=by
      rw[<- K5];have:=y9 (λl:List Nat=>l[0]?) hd;simpa using this
     rw[h0];dsimp only;rw[ih (p+1) M R (by rw[<- List.drop_drop,hd];rfl) (by simpa using hm)]
  exact h B.length A.length B C (by rw[e,B3,Ni rfl]) rfl
 .rw[List.length_range',hl];simp;omega
end L2
namespace Mine
open PySem L2
variable{x y n:Str}{p:Nat->Bool}{f:Str->Option Tr}{ks:List Str}{te:TE}{js:List Nat}{σ:St}{H:Hp}{Q:VK}{w:NQ}{F N:Tr}{i:Nat}{fd:FuncData}{C:Addr}
theorem kj(hx:x.cps.all p=true)(hy:y.cps.all p=true):(x++y).cps.all p=true:=by
 show(x.cps++y.cps).all p=true;rw[Array.all_append,hx,hy];rfl
theorem app_list(x y:Str):(x++y).cps.toList=x.cps.toList++y.cps.toList:=by
 show(x.cps++y.cps).toList=_;simp
theorem HD(u:W5):u.str.length<=7/\u.str.cps.all (· < 128)=true/\32 ∉ u.str.cps.toList:=by cases u<;>decide+kernel
theorem gX:∀t:Tr,t.text.length<=14*t.size/\t.text.cps.all (· < 128)=true
 | .never=>by decide+kernel
 | .always=>by decide+kernel
 | .lp=>by decide+kernel
 | .lq=>by decide+kernel
 | .no t=>by
  obtain⟨h1,h2⟩:=gX t;have e:("not ":Str).length=4:=by decide+kernel
  refine⟨?_,kj (by decide+kernel) h2⟩;show(("not ":Str)++t.text).length<=14*(t.size+1);rw[z6,e];omega
 | .fold u a b=>by
  obtain⟨h1,h2⟩:=gX a;obtain⟨h3,h4⟩:=gX b;obtain⟨u1,u2,_⟩:=HD u;have e1:("( ":Str).length=2:=by decide+kernel
  have e2:(" ":Str).length=1:=by decide+kernel
  have e3:(" )":Str).length=2:=by decide+kernel
  refine⟨?_,kj (kj (kj (kj (kj (kj (by decide+kernel) h2) (by decide+kernel)) u2) (by decide+kernel)) h4) (by decide+kernel)⟩;show(("( ":Str)++a.text++(" ":Str)++u.str++(" ":Str)++b.text++(" )":Str)).length<=14*(a.size+b.size+1);rw[z6,z6,z6,z6,z6,z6,e1,e2,e3];omega
theorem Wg(h:x.cps.all (· < 128)=true):PyData.strOk x=true:=by
 unfold PyData.strOk;rw[<- Array.all_toList,E4]at h ⊢;intro c hc;have:=l9 (h c hc);exact j9 (by omega)
noncomputable def jy(n y:Str):Str:=("say ":Str)++n++(" ":Str)++y
theorem Fc(n y:Str):(jy n y).cps.toList=[115,97,121]++32::(n.cps.toList++32::y.cps.toList):=by
 unfold jy;rw[app_list,app_list,app_list,show("say ":Str).cps.toList=[115,97,121,32] by decide+kernel,show(" ":Str).cps.toList=[32] by decide+kernel];simp
theorem HU(x:Str):(⟨x.cps.toList.toArray⟩:Str)=x:=rfl
theorem TQ(hn:32 ∉ n.cps.toList):Ot (jy n y)=[("say":Str),n,y]/\(Builtin.Str.occurrences (jy n y) " " 0 (jy n y).length (limitOf (jy n y) 2)).isEmpty=false:=by
 obtain⟨o,s⟩:=TC (x:=jy n y) (A:=[115,97,121]) (B:=n.cps.toList) (C:=y.cps.toList) (c:=32) (Fc n y) (by decide) hn
 have st:Txt.startswith (jy n y) "say "=true:=by
  unfold jy;rw[Qz,Qz];exact PySem.W.KT.starts_app _ _
 refine⟨?_,?_⟩
 .unfold Ot;rw[k9 st,oQ,s,HU,HU];rw[show(⟨[115,97,121].toArray⟩:Str)="say" by decide+kernel]
 .rw[oQ,show limitOf (jy n y) 2=2 from rfl,o];rfl
theorem kind_le(x:Str):1<=Builtin.Str.strKind x:=by
 unfold Builtin.Str.strKind;split
 .decide
 .split<;>decide
theorem yx{n:Str}{t:Tr}(hn:32 ∉ n.cps.toList/\Xe n=true/\n.length<=8/\n.cps.all (· < 128)=true)(sz:t.size<=24):fG f ks (jy n t.text) (.keep n t)/\KP (jy n t.text)/\ZW (jy n t.text):=by
 obtain⟨h1,h2,h3,h4⟩:=hn;obtain⟨ws,oc⟩:=TQ (n:=n) (y:=t.text) h1;obtain⟨tl,ta⟩:=gX t;have ef:PyProof.Rows.KTD.datumAt ("say":Str) FO=some [("new":Str),"text"]:=by decide+kernel
 have ln:(jy n t.text).length<=1000:=by
  unfold jy;rw[z6,z6,z6,show("say ":Str).length=4 by decide+kernel,show(" ":Str).length=1 by decide+kernel];omega
 refine⟨.ans ws ?_ ef (λz hz=>by cases(show z∈([]:List Str) from hz)) (.say ⟨by omega,?_⟩ (sA t) sz),⟨by omega,λ_=>⟨?_,oc⟩⟩,_,_,ws,(by show 2<=1000;decide),λz hz=>?_⟩
 .rw[mZ ef];show(decide (2=2) && (OH "new" n && (OH "text" t.text && true)))=true;rw[show OH "new" n=Xe n by unfold OH;rw[h9 (by decide+kernel),h9 (by decide+kernel)],h2,show OH "text" t.text=true by unfold OH;rw[k9 rfl]];rfl
 .rw[sA];have:=jj t;omega
 .have k:=kind_le (jy n t.text)
  have l1:1<=(jy n t.text).length:=by
   unfold jy;rw[z6,z6,z6,show("say ":Str).length=4 by decide+kernel];omega
  rw[show(" ":Str).length=1 by decide+kernel,show Builtin.Str.strKind " "=1 by decide+kernel,h7 (by omega),h7 (by omega)];rfl
 .rcases j8.mp hz with rfl | hz
  .exact⟨by omega,h4⟩
  .rw[y3.mp hz];exact⟨by omega,ta⟩
noncomputable abbrev K4:List Str:=["a","b","full","nine"]
theorem JQ:∀n∈K4,32 ∉ n.cps.toList/\Xe n=true/\n.length<=8/\n.cps.all (· < 128)=true:=by decide+kernel
theorem AV:fG f K4 "names" (.oc (.tell "a b full nine")):=by
 refine .ans (y:="names") (r:=[]) (fs:=[]) (by decide+kernel) (by decide+kernel) (by decide+kernel) (λz hz=>by cases(show z∈([]:List Str) from hz)) (.names (by decide) (by decide) (by decide+kernel) λss p so=>?_)
 have e4:ss=K4:=by
  have hl:=p.length_eq;obtain⟨x,y,z,w,rfl⟩:∃x y z w,ss=[x,y,z,w]:=match ss,hl with | [x,y,z,w],_=>⟨x,y,z,w,rfl⟩
  have m:∀v∈[x,y,z,w],v∈K4:=λv hv=>p.mem_iff.mp hv;have m':∀v∈K4,v∈[x,y,z,w]:=λv hv=>p.mem_iff.mpr hv;exact(by decide+kernel:∀x∈K4,∀y∈K4,∀z∈K4,∀w∈K4,PyProof.Rows.sortedS [x,y,z,w]=true->(∀v∈K4,v∈[x,y,z,w])->[x,y,z,w]=K4) x (m x (by simp)) y (m y (by simp)) z (m z (by simp)) w (m w (by simp)) so m'
 rw[e4];decide+kernel
theorem EM{t:Tr}(hn:n∈K4)(hf:f n=some t)(sz:t.size<=900):fG f ks (("show ":Str)++n) (.oc (.tell t.text))/\OK (("show ":Str)++n)=true:=by
 have h:Ot (("show ":Str)++n)=[("show":Str),n]/\iT [("show":Str),n]=true/\OK (("show ":Str)++n)=true:=(by decide+kernel:∀n∈K4,Ot (("show ":Str)++n)=[("show":Str),n]/\iT [("show":Str),n]=true/\OK (("show ":Str)++n)=true) n hn;refine⟨.ans (fs:=fN) h.1 h.2.1 (by decide+kernel) (λz hz=>?_) (.one hf sz .show),h.2.2⟩;rw[Kt]at hz;rw[y3.mp hz,hf];rfl
theorem HM{t:Tr}(hf:f "nine"=some t)(n8:t.nf<=8)(ch:N6 t):fG f ks "least nine" (.oc (.tell "0"))/\fG f ks "always nine" (.oc (.tell "no"))/\fG f ks "steps nine" (.oc (.tell "1")):=by
 have sz:=ch.size
 have k:∀w:Str,∀z∈iM fN [("nine":Str)],(f z).isSome=true:=λw z hz=>by
  rw[Kt]at hz;rw[y3.mp hz,hf];rfl
 exact⟨.ans (y:="least") (r:=["nine"]) (fs:=fN) (by decide+kernel) (by decide+kernel) (by decide+kernel) (k "") (.one hf (by omega) (.least n8 ch)),.ans (y:="always") (r:=["nine"]) (fs:=fN) (by decide+kernel) (by decide+kernel) (by decide+kernel) (k "") (.one hf (by omega) (.always n8 ch)),.ans (y:="steps") (r:=["nine"]) (fs:=fN) (by decide+kernel) (by decide+kernel) (by decide+kernel) (k "") (.one hf (by omega) (.steps n8 ch))⟩
theorem wm(u:W5)(t:Tr):("( p ":Str)++u.str++(" ":Str)++t.text++(" )":Str)=(Tr.fold u .lp t).text:=by
 show _=("( ":Str)++("p":Str)++(" ":Str)++u.str++(" ":Str)++t.text++(" )":Str);rw[show("( p ":Str)=("( ":Str)++("p":Str)++(" ":Str) by decide+kernel]
theorem Ca(u:W5)(t:Tr):Builtin.Str.occurrences (Tr.fold u .lp t).text " " 4 (Tr.fold u .lp t).text.length 1=[4+u.str.length]/\Txt.slice (Tr.fold u .lp t).text (some ((4+u.str.length:Nat)+1:Int)) (some (-2))=t.text:=by
 have e:(Tr.fold u .lp t).text.cps.toList=[40,32,112,32]++u.str.cps.toList++32::(t.text.cps.toList++[32,41]):=by
  rw[<- wm,app_list,app_list,app_list,app_list,show("( p ":Str).cps.toList=[40,32,112,32] by decide+kernel,show(" ":Str).cps.toList=[32] by decide+kernel,show(" )":Str).cps.toList=[32,41] by decide+kernel];simp
 obtain⟨_,_,hu⟩:=HD u;have lu:u.str.cps.toList.length=u.str.length:=A8;refine⟨?_,?_⟩
 .have:=JT (x:=(Tr.fold u .lp t).text) (A:=[40,32,112,32]) (B:=u.str.cps.toList) (C:=t.text.cps.toList++[32,41]) (c:=32) e hu;rw[oQ];rw[lu]at this;exact this
 .have:=EV (x:=(Tr.fold u .lp t).text) (A:=[40,32,112,32]++u.str.cps.toList++[32]) (B:=t.text.cps.toList) (C:=[32,41]) (by rw[e];simp) (by simp) rfl;have el:([40,32,112,32]++u.str.cps.toList++[32]:List Nat).length=4+u.str.length+1:=by rw[p7,p7,lu];rfl
  rw[el]at this;exact this
theorem Qh:Te.text=("( p more p )":Str)/\Td.text=("( p leads not q )":Str)/\me "not " 23++("p":Str)=(jb 23 .lp).text/\me "not " 23++("q":Str)=(jb 23 .lq).text:=by decide+kernel
inductive sG(K:W.Frag)(vs:List V)(H:Hp)(Q:VK)(E:XK):Prop
 | mk (a:Addr) (ns:List Int) (k:Int):vs=[.ref a,.int k]->PR K H a ns->0<=k->k<=100->(∀(D:Addr)(ms:List Int)(H':Hp),aC H H'->H D=none->H' D=some (.lst (ms.map V.int))->(∀m∈ms,Wa m)->k<=(ms.length:Int)->Q (.ref D) H')->sG K vs H Q E
theorem YZ(ms:List Int)(b:Bool):ms.length<=(oP (ms.map V.int) (some (if b then 1 else 0)) none).length+1:=by
 unfold oP;cases b with
 | false =>
  rw[show(some (if false=true then(1:Int) else 0))=some ((0:Nat):Int) from rfl,_root_.HT.nZ,_root_.HT.kS];simp
 | true =>
  rw[show(some (if true=true then(1:Int) else 0))=some ((1:Nat):Int) from rfl,_root_.HT.nZ,_root_.HT.kS];simp;omega
variable{P:Program}{w:World}{K:W.Frag}{mg:Str->Option Value}{base:Heap}{c:CCs}
theorem yW:ao zN ["_law_script","_law_least"] (ai xw):=L2.fsc
theorem Jh(T:aA K mg "_law_mixed" xw)(bC:mg "len"=none)(eU:mg "max"=none)(eT:mg "min"=none)(hV:mg "range"=none)(ur:mg "abs"=none)(oU:mg "int"=none):Def P w K mg base 1 "_law_mixed" ["_law_script","_law_least"] (sG K):=by
 refine aY T yW (λ_ _ _ _ _ _=>L2.ar2 λ_ _=>rfl) ?_ ?_
 .walk_at "i1"
 walk_at "i2";obtain⟨a,ns,k,rfl,S,k0,k1,q⟩:=h;have nd:=yW.nd;have hlen:=S.few
 have tail:∃t,NU (bM CX0 P w K mg base zN "_law_mixed" (ai xw) f cdv A outer s H E).nox ((aZ xw).drop 1) t/\∀b:Bool,t {nx:=λ_ H'=>Q .non H',rt:=Q} [some (.ref a),some (.int k),some (.bl b),none,none,none] H:=by
  refine⟨_,(ag (aD (i:=3) (bg af))
  (ag (dj z9 rfl (vS hV (aa (aH (lZ rfl) eU (aa (aO gP (pv 1) aq) (aa (aH (jJ rfl) eT (aa aq (aa (aH bR bC (aa (pv 0) af)) af))) af))) af)) (aX (i:=4)) (ag (aD (i:=5) aq)
  (ag (aP (aB mB (pv 4) (aH bR bC (aa (pv 0) af)) (aE _)) (ah (aD (i:=5) (aL bb (pv 0) (pv 4)))) aG)
  (ah (aP (PW.pt (TV (kU (pv 2) (λ_=>rfl)) (QH (Iv mB mB aq (pv 4) (aH bR bC (aa (pv 0) af)))))) (ah (aS (bx b9 g8 g9 aQ (pv 3) (aa (aH uo ur (aa (pv 5) af)) af)))) (ah (aS (bx b9 g8 g9 aQ (pv 3) (aa (aO ja (aO ck (aO ja (aO gP (aO ck (aO ja (pv 5) (aO IM aq aq)) aq) (aO ck aq (aO gP (pv 4) aq))) aq) aq) aq) af)))))))))
  (ah (av (gu jP (pv 3) (hU (ig GJ oU (aa (pv 2) af))) jX))))),?_⟩
  intro b;refine⟨Mine.z0,λD hD=>?_⟩;refine⟨_,rfl,_,_,rfl,rfl,_,rfl,_,_,rfl,.inl ⟨_,(au hD _).seq S.l,rfl⟩,_,_,rfl,_,_,rfl,_,rfl,?_,?_,?_⟩
  .rw[qd,tX,g6];omega
  .rw[qd,tX,g6];omega
  rw[qd,tX,g6];have hN:(max (k+1) (min 63 (ns.length:Int))).toNat<=1000:=by omega
  refine qh (λi σ H2=>∃(ms:List Int)(o4 o5:Option V),σ=[some (.ref a),some (.int k),some (.bl b),some (.ref D),o4,o5]/\aC H H2/\H2 D=some (.lst (ms.map V.int))/\ms.length=i/\∀m∈ms,Wa m)
   ⟨[],_,_,rfl,au hD _,ae,rfl,λ_ h=>nomatch h⟩ (λi σ H2 hi h=>?_) (λσ H2 h=>?_)
  .obtain⟨ms,o4,o5,rfl,sm,e,hm,hc⟩:=h;have S2:=S.to sm
   have next:∀v:Int,Wa v->∀z:Int,∃(SO:List Int)(o4 o5:Option V),[some (V.ref a),some (.int k),some (.bl b),some (.ref D),some (.int (0+(i:Int))),some (.int z)]=[some (V.ref a),some (.int k),some (.bl b),some (.ref D),o4,o5]/\aC H (upd H2 D (.lst (ms.map V.int++[V.int v])))/\
     upd H2 D (.lst (ms.map V.int++[V.int v])) D=some (.lst (SO.map V.int))/\SO.length=i+1/\∀m∈SO,Wa m:=λv cv z=>by
    refine⟨ms++[v],_,_,rfl,λd o zz=>?_,by rw[ae,x9];rfl,by rw[p7,hm];rfl,λm XU=>?_⟩
    .rw[aj (ak zz hD)];exact sm d o zz
    .rcases D0.mp XU with zz | zz
     .exact hc m zz
     .have:m=v:=by simpa using zz
      rw[this];exact cv
   have ml:(ms.map V.int).length<sizeLine:=by rw[g6,hm];exact i5 hi (h8 hN (by decide))
   have Rg:∃xs,Nq K H2 a xs/\(ns.length:Nat)=xs.length:=⟨_,S2.l,(g6 _).symm⟩;refine⟨_,rfl,_,rfl,_,ns.length,rfl,.inl Rg,_,_,rfl,rfl,_,rfl,?_⟩
   have Vm:∃z:Int,Builtin.Int.intBits z<=1048576/\(decide ((0+(i:Int))<(ns.length:Int))=true->OP (ns.map V.int) (0+(i:Int))=some (V.int z))/\(¬decide ((0+(i:Int))<(ns.length:Int))=true->z=0):=by
    by_cases Ny:i<ns.length
    .refine⟨ns[i],S.bit _ (Ls Ny),λ_=>?_,λz=>absurd (j9 (by omega)) z⟩;rw[Int.zero_add];exact bc (by rw[y4,g0 Ny];rfl)
    .exact⟨0,by decide,λz=>absurd (l9 z) (by omega),λ_=>rfl⟩
   obtain⟨z,hz,P2,SU⟩:=Vm;refine kz (λg=>?a) (λg=>?b)
   case' a=>refine⟨_,rfl,_,rfl,_,_,_,_,rfl,rfl,S2.l,P2 g,?_⟩
   case' b=>have ez:=SU g;subst ez
   all_goals
    cases b with
    | false =>
     refine⟨_,rfl,false,rfl,bz (bz ?_)⟩;refine⟨_,rfl,.inl ⟨rfl,_,Nq.of e⟩,_,rfl,_,_,rfl,rfl,⟨by decide,by decide,by decide⟩,_,_,rfl,rfl,(show(0:Int)<10^(Int.toNat 18) by decide+kernel),_,_,rfl,rfl,jG (by decide+kernel),_,rfl,_,_,rfl,rfl,_,_,rfl,rfl,tW (by decide+kernel),_,_,rfl,rfl,_,_,rfl,rfl,(show(0:Int)<2147483647 by decide),_,_,rfl,rfl,jG (by decide+kernel),_,_,rfl,rfl,(show(0:Int)<2147483629 by decide),D,_,_,rfl,rfl,e,ml,?_⟩;exact next _ (qj (LI _ (by decide)) (Int.lt_trans (J8 _ (by decide)) (by decide))) _
    | true =>
     refine⟨_,rfl,true,rfl,cL ?_⟩;refine⟨_,rfl,_,_,rfl,rfl,_,rfl,?_⟩;refine kz (λg1=>?_) (λg1=>?_)
     .refine⟨_,rfl,_,ns.length,rfl,.inl Rg,_,_,rfl,rfl,_,rfl,?_⟩;refine kz (λg2=>?_) (λg2=>?_)
      .refine⟨_,rfl,.inl ⟨rfl,_,Nq.of e⟩,_,rfl,_,rfl,D,_,_,rfl,rfl,e,ml,?_⟩;exact next _ (RM hz) _
      .refine⟨_,rfl,.inl ⟨rfl,_,Nq.of e⟩,_,rfl,_,_,rfl,rfl,⟨by decide,by decide,by decide⟩,_,_,rfl,rfl,(show(0:Int)<10^(Int.toNat 18) by decide+kernel),_,_,rfl,rfl,jG (by decide+kernel),_,rfl,_,_,rfl,rfl,_,_,rfl,rfl,tW (by decide+kernel),_,_,rfl,rfl,_,_,rfl,rfl,(show(0:Int)<2147483647 by decide),_,_,rfl,rfl,jG (by decide+kernel),_,_,rfl,rfl,(show(0:Int)<2147483629 by decide),D,_,_,rfl,rfl,e,ml,?_⟩;exact next _ (qj (LI _ (by decide)) (Int.lt_trans (J8 _ (by decide)) (by decide))) _
     .refine⟨_,rfl,bz ?_⟩;refine⟨_,rfl,.inl ⟨rfl,_,Nq.of e⟩,_,rfl,_,_,rfl,rfl,⟨by decide,by decide,by decide⟩,_,_,rfl,rfl,(show(0:Int)<10^(Int.toNat 18) by decide+kernel),_,_,rfl,rfl,jG (by decide+kernel),_,rfl,_,_,rfl,rfl,_,_,rfl,rfl,tW (by decide+kernel),_,_,rfl,rfl,_,_,rfl,rfl,(show(0:Int)<2147483647 by decide),_,_,rfl,rfl,jG (by decide+kernel),_,_,rfl,rfl,(show(0:Int)<2147483629 by decide),D,_,_,rfl,rfl,e,ml,?_⟩;exact next _ (qj (LI _ (by decide)) (Int.lt_trans (J8 _ (by decide)) (by decide))) _
  .obtain⟨ms,o4,o5,rfl,sm,e,hm,hc⟩:=h;refine⟨_,rfl,_,rfl,.inr ⟨b,rfl,_,rfl,D,_,rfl,Nq.of e,λp hp=>?_⟩⟩;obtain⟨SO,em,XU⟩:=RI ms (some (if b then 1 else 0)) none;have hl:=YZ ms b;rw[em]at hl ⊢;rw[g6]at hl;have np:H p=none:=sm.free hp;exact q p SO _ (λd o zz=>by rw[aj (ak zz np)];exact sm d o zz) np ae (λm h=>hc m (XU m h)) (by omega)
 obtain⟨t1,ht1,ZA⟩:=tail;refine⟨_,ag (aD (i:=2) (pZ (cZ vX (aH bR bC (aa (pv 0) af)) aq (aE _)) (mT (cZ bf (aO ja (aL bb (pv 0) aq) aq) aq (aE _))))) ht1,?_⟩;refine⟨_,rfl,_,ns.length,rfl,.inl ⟨_,S.l,(g6 _).symm⟩,_,_,rfl,rfl,_,rfl,?_⟩;refine kz (λg=>?_) (λg=>?_)
 .cases ns with
  | nil=>exact absurd (l9 g) (by decide)
  | cons n r=>exact⟨_,rfl,_,_,_,_,rfl,rfl,S.l,bc (j:=0) rfl,_,_,rfl,rfl,(show(0:Int)<2 by decide),rfl,ZA _⟩
 .exact ZA false
section
variable{X:Cx}{x:Str}{C:Addr}{k:Nat}{ps:List Str}{sp:Sp}{p pos:Pos}
theorem T6(M:jf X.prog X.w X.K X.mg X.base x C k ps sp)(hr:bX (k+1) X.A)(hg:Gl X x)(NO:(x==("__debug__":Str))=false:=by decide):PE X (.Call (.Name x p) [] [] pos) (Dk C sp [] E0 nG):=by
 obtain⟨f,fd,hm,G,hb⟩:=M.ex;exact IG hm G hr hg M.mg_ hb .nil vV NO
end
theorem GB{l:Addr}{xs:List V}(zs:List PyData)(sq:Nv K H l xs)(l2:zs.length=xs.length)(hx:xs.length<=1000)
  (hs:∀(i:Nat)(x:V)(z:PyData)(H':Hp)(N:VK),xs[i]?=some x->zs[i]?=some z->aC H H'->(∀t NB,aC H' NB->Dat K NB z t->N t NB)->te (some x::bI js σ) H' N)
  (hd:∀D us H',aC H H'->H D=none->H' D=some (.lst us)->DatAll K H' zs us->Q (.ref D) H'):jo (λ_ H R=>R (ZY K l) H) qu te js σ H Q:=by
 intro D hD;refine⟨λi m H'=>m=xs.length-i/\i<=xs.length/\aC H H'/\∃us,us.length=i/\H' D=some (.lst us)/\DatAll K H' (zs.take i) us,⟨xs.length,rfl,z5 _,au hD _,[],rfl,ae,rfl⟩,?_⟩;rintro i m H2 ⟨rfl,hi,s2,us,lu,eD,al⟩
 have Qt:=sq.ts s2.ts
 by_cases Ny:i<xs.length
 .have h1:xs[i]?=some xs[i]:=g0 Ny;have h3:zs[i]?=some (zs[i]'(by omega)):=g0 (by omega);refine .inr ⟨⟨_,_,Qt,h1⟩,λv H3 y=>?_⟩;obtain⟨rfl,y⟩:=y;have hv:=y _ Qt;rw[h1]at hv;cases hv
  refine jn ?_;refine hs i _ _ _ _ h1 h3 s2 λt H4 s4 et=>?_;have YI:=s4 _ _ eD;have t5:OG H4 (upd H4 D (.lst (us++[t]))):=kC YI;refine⟨us,YI,j7 (show us.length<=1000 by omega) (by decide),xs.length-(i+1),by omega,rfl,Ny,bP (s2.trans s4) hD _,us++[t],by simp[lu],ae,?_⟩;rw[C9,h3];exact((al.ts s4.ts).ts t5).snoc (et.ts t5)
 .have ei:i=xs.length:=by omega
  subst ei;rw[<- l2,D7]at al;exact .inl ⟨⟨_,Qt,by simp⟩,hd D us H2 s2 hD eD al⟩
noncomputable abbrev JL:List Str:=["_law_script","_law_cells","_law_nine","_law_k","_law_full","_law_texts","_law_desk","_law_name","_law_text","_law_cell","_law_line","_law_due","_law_some"]
theorem jw:ao JL ["_law_script"] (ai nY):=L2.fsc
noncomputable abbrev LX (P:Program) (w:World) (K:W.Frag) (mg:Str->Option Value) (base:Heap) (fa:Addr) (cdv:Value) (A:Around) (outer:List Env) (s:Shared) (H0:Hp) (E:XK):Cx:=(bM CX0 P w K mg base JL "law" (ai nY) fa cdv A outer s H0 E).nox
noncomputable abbrev LD (Q:VK):Ends:={nx:=λ_ H'=>Q .non H',rt:=Q}
theorem nE(h:PyData.strOk x=true):SeqAt.shaped (cn x)=true:=by
 simp[cn,SeqAt.shaped,PyData.canLay0,PyData.canLayAll0,PyData.depth,PyData.depthAll,h,show PyData.strOk "told"=true by decide+kernel]
section
variable{P:Program}{w:World}{K:W.Frag}{mg:Str->Option Value}{base:Heap}{c:CCs}{C:Nat->Addr}{CD fa:Addr}{cdv:Value}{A:Around}{outer:List Env}{s:Shared}{H0:Hp}{E:XK}
theorem Xj(hr:bX 39 (A.deeper (PyProof.Rows.envOfC "law" (ai nY) s.heap.objs.size fa cdv)))(MT:gW P w K mg base CD "tell" 13 ["self","line"] (iw c C CD))(bD:Def P w K mg base 14 "_law_said" ["_law_desk","_law_line"] (gh c K CD)) :
  ∃t,NU (LX P w K mg base fa cdv A outer s H0 E) ((aZ nY).drop 8) t/\∀(Q:VK)(σ0 σ1 σ3 σ4 σ5 σ7 σ8 σ9 σ10 σ11 σ12:Option V)(a dx d:Addr)(Np:List (Key×V))(ks:List Str)(f:Str->Option Tr)(u:W5)(t8:Tr)(H:Hp),N6 t8->t8.nf=8->OQ c CD H a dx d Np ks f->Np.length<=40->(∀H',Q (.bl true) H')->
   t (LD Q) [σ0,σ1,some (.str (Tr.fold u .lp t8).text),σ3,σ4,σ5,some (.ref a),σ7,σ8,σ9,σ10,σ11,σ12] H:=by
 have nd:=jw.nd;have hu:=hr.units
 refine⟨_,(ag (aS (IF (k:=13) (pv 6) (hr.mono (by decide)) (aa (aO bS az (gu TM (pv 2) (hU (aO gP (bx A4 PySem.F.slot_str_index PySem.F.type_str_index Ge (pv 2) (aa az (aa aq af))) aq)) (hU (vT pf aq)))) af)))
  (ag (xy (i:=12) (IA (bu (aa az (aa az (aa az af))))) (iS (j:=6) dS) (λ_ _ _ _=>eJ) (λ_ _ _ _=>(aN bD (aa (pv 1) (aa (aO bS (pv 0) az) af)))))
  (ah (av (cZ (xE hu) (pv 12) (bg (aa (bu (aa az (aa az af))) (aa (bu (aa az (aa az af))) (aa (bu (aa az (aa az af))) af)))) (aE _)))))),?_⟩
 intro Q σ0 σ1 σ3 σ4 σ5 σ7 σ8 σ9 σ10 σ11 σ12 a dx d Np ks f u t8 H ch n8 dk few q;obtain⟨ix,sl⟩:=Ca u t8;have sz:=ch.size;have tw:=gX (Tr.fold u .lp t8);have tw8:=gX t8;have szF:(Tr.fold u .lp t8).size=t8.size+2:=by show Tr.lp.size+t8.size+1=_;rw[show Tr.lp.size=1 from rfl];omega
 refine⟨_,rfl,a,CD,dx,_,_,_,rfl,dk.ea,cK (by decide+kernel) rfl,MT,_,rfl,_,rfl,rfl,_," ",4,_,_,rfl,rfl,ix,_,_,rfl,rfl,_,rfl,_,rfl,_,rfl,_,rfl,?_⟩;refine⟨h8 (show _<=1000 by omega) (by decide),_,_,rfl,rfl,?_,?_⟩
 .rw[sl];exact h8 (show _<=1000 by rw[show("say nine ":Str).length=9 by decide+kernel];omega) (by decide)
 rw[sl,show("say nine ":Str)=("say ":Str)++("nine":Str)++(" ":Str) by decide+kernel];obtain⟨te,h1,h2⟩:=yx (f:=f) (ks:=ks) (n:="nine") (t:=t8) (JQ _ (by decide+kernel)) (by omega);refine⟨a,dx,d,Np,ks,f,jy "nine" t8.text,_,rfl,dk,h1,h2,te,λH1 b H2 s1 ob s2=>?_⟩;have OL:=dk.kept s1 ob s2 few;have hf:jr f "nine" t8 "nine"=some t8:=by unfold jr;rw[k9 rfl]
 obtain⟨e1,e2,e3⟩:=HM (ks:=yH ks f "nine") hf (by omega) ch;dsimp only[ET,sj];refine il ?_;refine⟨Mine.z3,λp hp=>⟨p,rfl,⟨_,Nv.of ae⟩,?_⟩⟩;have up:=au hp (.tup [V.str "least",.str "always",.str "steps"]);refine GB (K:=K) (xs:=[V.str "least",.str "always",.str "steps"]) [cn "0",cn "no",cn "1"] (Nv.of ae) rfl (by show 3<=1000;decide) (λi x z H3 N hx hz s3 hN=>?_) (λD us H3 s3 hD eD dD=>?_)
 .have OD:=OL.to (up.trans s3)
  have key:∀(y x z:Str),x++(" nine":Str)=y->OK y=true->fG (jr f "nine" t8) (yH ks f "nine") y (.oc (.tell z))->OQ c CD H3 a dx d (putK Np (Sum.inr "nine") (.ref b)) (yH ks f "nine") (jr f "nine" t8)->(∀t NB,aC H3 NB->Dat K NB (cn z) t->N t NB)->gh c K CD [.ref a,.str (x++(" nine":Str))] H3 N E0:=λy x z e l te OD hN=>by
   rw[e];obtain⟨l1,l2⟩:=Ec l;exact⟨a,dx,d,_,_,_,y,_,rfl,OD,l1,l2,te,trivial,λv H' f' d'=>hN v H' f' d'⟩
  match i,hx,hz with
  | 0,hx,hz =>
   cases hx
   cases hz
   exact⟨_,rfl,_,rfl,_,_,rfl,rfl,by decide+kernel,key "least nine" "least" "0" (by decide+kernel) (by decide+kernel) e1 OD hN⟩
  | 1,hx,hz =>
   cases hx
   cases hz
   exact⟨_,rfl,_,rfl,_,_,rfl,rfl,by decide+kernel,key "always nine" "always" "no" (by decide+kernel) (by decide+kernel) e2 OD hN⟩
  | 2,hx,hz =>
   cases hx
   cases hz
   exact⟨_,rfl,_,rfl,_,_,rfl,rfl,by decide+kernel,key "steps nine" "steps" "1" (by decide+kernel) (by decide+kernel) e3 OD hN⟩
  | n+3,hx,_=>cases hx
 .refine⟨_,rfl,Mine.z2,λp1 h1=>⟨Mine.z2,λp2 h2=>⟨Mine.z2,λp3 h3=>⟨Mine.z3,λl hl=>?_⟩⟩⟩⟩;have u1:=au h1 (.tup [V.str "told",.str "0"]);have u2:=au h2 (.tup [V.str "told",.str "no"]);have u3:=au h3 (.tup [V.str "told",.str "1"]);have u4:=au hl (.lst [V.ref p1,.ref p2,.ref p3]);have d1:uF K _ (.list [cn "0",cn "no",cn "1"]) (.ref D):=.inr ⟨_,D,us,rfl,rfl,Nq.of ((((u1.trans u2).trans u3).trans u4) _ _ eD),dD.ts (((u1.trans u2).trans u3).trans u4).ts⟩;have d2:uF K _ (.list [cn "0",cn "no",cn "1"]) (.ref l):=.inr ⟨_,l,_,rfl,rfl,Nq.of ae,_,_,rfl,⟨p1,_,rfl,Nv.of (((u2.trans u3).trans u4) _ _ ae),_,_,rfl,rfl,_,_,rfl,rfl,rfl⟩,_,_,rfl,⟨p2,_,rfl,Nv.of ((u3.trans u4) _ _ ae),_,_,rfl,rfl,_,_,rfl,rfl,rfl⟩,_,_,rfl,⟨p3,_,rfl,Nv.of (u4 _ _ ae),_,_,rfl,rfl,_,_,rfl,rfl,rfl⟩,rfl⟩;refine⟨_,_,d1,d2,by decide+kernel,by decide+kernel,?_⟩;rw[show PyData.eqv (.list [cn "0",cn "no",cn "1"]) (.list [cn "0",cn "no",cn "1"])=true by decide+kernel];exact q _
end
theorem rX{w:NQ}(h:w.sok)(k:w.ok):SeqAt.shaped w.dat=true:=by
 have ks:∀x∈[("text":Str),"call","name","many","point","letter"],PyData.strOk x=true:=by decide+kernel
 cases w with
 | text k=>simp[NQ.dat,SeqAt.shaped,PyData.canLay0,PyData.canLayAll0,PyData.depth,PyData.depthAll,ks]
 | call x =>
  have h:PyData.strOk x=true:=h;simp[NQ.dat,SeqAt.shaped,PyData.canLay0,PyData.canLayAll0,PyData.depth,PyData.depthAll,ks,h]
 | name x =>
  have h:PyData.strOk x=true:=h;simp[NQ.dat,SeqAt.shaped,PyData.canLay0,PyData.canLayAll0,PyData.depth,PyData.depthAll,ks,h]
 | no j =>
  have k:j=1\/j=2\/j=3:=k;rcases k with rfl | rfl | rfl<;>simp[NQ.dat,noS,SeqAt.shaped,PyData.canLay0,PyData.canLayAll0,PyData.depth,PyData.depthAll,ks]
theorem Qc(w:NQ):PyData.eqv w.dat w.dat=true:=by
 cases w<;>simp[NQ.dat,PyData.eqv,PyData.eqvAll]
theorem yw(x:Str):PyData.eqv (cn x) (cn x)=true:=by simp[cn,PyData.eqv,PyData.eqvAll]
noncomputable def Rx(s:Stmt):List Stmt:=match s with
 | .For _ _ b _ _=>b
 | _=>[]
noncomputable def OR(F N:Tr):List (Key×V):=[(Sum.inr "a",.str Te.text),(Sum.inr "b",.str Td.text),(Sum.inr "full",.str F.text),(Sum.inr "nine",.str N.text)]
noncomputable def NM(F N:Tr)(n:Str):Tr:=if n="a" then Te else if n="b" then Td else if n="full" then F else N
theorem Tj(F N:Tr)(hn:n∈K4):cW (OR F N) (Sum.inr n)=some (.str (NM F N n).text):=by
 have ne:∀x y:Str,x≠y->¬(Sum.inr x:Key)=Sum.inr y:=λx y h z=>h (Nj z);simp only[K4,j8,z8,E9]at hn;unfold OR NM;rcases hn with rfl | rfl | rfl | rfl
 .rw[bY rfl];rfl
 .rw[bO (ne _ _ (by decide+kernel)),bY rfl,h9 (by decide+kernel)];rfl
 .rw[bO (ne _ _ (by decide+kernel)),bO (ne _ _ (by decide+kernel)),bY rfl,h9 (by decide+kernel),h9 (by decide+kernel)];rfl
 .rw[bO (ne _ _ (by decide+kernel)),bO (ne _ _ (by decide+kernel)),bO (ne _ _ (by decide+kernel)),bY rfl,h9 (by decide+kernel),h9 (by decide+kernel),h9 (by decide+kernel)]
theorem Ss(S:Vv f F N)(hn:n∈K4):f n=some (NM F N n)/\(NM F N n).size<=30:=by
 have sN:=S.hN.size;have n9:=S.n9;have sF:F.size=24:=by rcases S.hF with rfl | rfl<;>rw[dM]<;>rfl
 simp only[K4,j8,z8,E9]at hn;unfold NM;rcases hn with rfl | rfl | rfl | rfl
 .rw[k9 rfl];exact⟨S.a,by decide⟩
 .rw[h9 (by decide+kernel),k9 rfl];exact⟨S.b,by decide⟩
 .rw[h9 (by decide+kernel),h9 (by decide+kernel),k9 rfl];exact⟨S.fu,by omega⟩
 .rw[h9 (by decide+kernel),h9 (by decide+kernel),h9 (by decide+kernel)];exact⟨S.ni,by omega⟩
section
variable{P:Program}{w:World}{K:W.Frag}{mg:Str->Option Value}{base:Heap}{c:CCs}{C:Nat->Addr}{CD fa:Addr}{cdv:Value}{A:Around}{outer:List Env}{s:Shared}{H0:Hp}{E:XK}
theorem Uh(hr:bX 39 (A.deeper (PyProof.Rows.envOfC "law" (ai nY) s.heap.objs.size fa cdv)))(bD:Def P w K mg base 14 "_law_said" ["_law_desk","_law_line"] (gh c K CD)) :
  ∃t,NU (LX P w K mg base fa cdv A outer s H0 E) ((Rx ((aZ nY).getD 7 (.Pass ⟨0,0,0,0⟩))).drop 3) t/\∀(D:Ends)(σ0 σ1 σ2 σ3 σ4 σ7 σ8 σ12:Option V)(a dx d td:Addr)(Np:List (Key×V))(f:Str->Option Tr)(F N:Tr)(m:Int)(x:Str)(v:V)(wh:NQ)(ob:Obj)(H:Hp),OQ c CD H a dx d Np K4 f->Vv f F N->H td=some (.frz ob (.dK (OR F N)))->Dat K H wh.dat v->OK x=true->wh.ok->wh.sok->fG f K4 x (.oc (.bad wh))->
   (∀n H',aC H H'->D.nx [σ0,σ1,σ2,σ3,σ4,some (.ref td),some (.ref a),n,σ8,some (.int m),some (.str x),some v,σ12] H')->
   t D [σ0,σ1,σ2,σ3,σ4,some (.ref td),some (.ref a),σ7,σ8,some (.int m),some (.str x),some v,σ12] H:=by
 have nd:=jw.nd;have hu:=hr.units;have UA:=j7 (J0 (show 1<=64 by decide) _) hr.units
 refine⟨_,(ag (aP (PW.pt (vR (aB (Bu hu) (aN bD (aa (pv 6) (aa (pv 10) af))) (pv 11) (aE _)) (pW (aB (Bu hu) (aN bD (aa (pv 6) (aa az af))) (bu (aa az (aa az af))) (aE _))))) (ah (av oC)) aG)
  (ag (aD (i:=7) (aL bb (bg (aa az (aa az (aa az (aa az af))))) (aO ja (aO xD (pv 9) aq) aq)))
  (ah (aP (aB (Bu hu) (aN bD (aa (pv 6) (aa (aO bS az (pv 7)) af))) (bu (aa az (aa (xC UA (pv 5) (pv 7)) af))) (aE _)) (ah (av oC)) aG)))),?_⟩
 intro D σ0 σ1 σ2 σ3 σ4 σ7 σ8 σ12 a dx d td Np f F N m x v wh ob H dk S UB dv l ok sok te fin;obtain⟨l1,l2⟩:=Ec l;refine⟨_,rfl,_,rfl,a,dx,d,Np,K4,f,x,_,rfl,dk,l1,l2,te,ok,λv1 H1 s1 d1=>?_⟩;have s1:aC H H1:=s1;refine⟨_,rfl,_,_,.inl d1,.inl (dv.ts s1.ts),rX sok ok,rX sok ok,_,rfl,?_⟩;rw[show An.dat (.oc (.bad wh))=wh.dat from rfl,Qc];refine bz ?_;obtain⟨l3,l4⟩:=Ec (show OK "names"=true by decide+kernel);refine⟨_,rfl,a,dx,d,Np,K4,f,"names",_,rfl,dk.to s1,l3,l4,AV,trivial,λv2 H2 s2 d2=>?_⟩;have s2:aC H1 H2:=s2;refine⟨Mine.z2,λp hp=>?_⟩;have u2:=au hp (.tup [V.str "told",.str "a b full nine"]);have dp:Dat K (upd H2 p (.tup [V.str "told",.str "a b full nine"])) (cn "a b full nine") (.ref p):=⟨p,_,rfl,Nv.of ae,_,_,rfl,rfl,_,_,rfl,rfl,rfl⟩;have sh:SeqAt.shaped (cn "a b full nine")=true:=nE (by decide+kernel);refine⟨_,_,.inl (d2.ts u2.ts),.inl dp,sh,sh,_,rfl,?_⟩;rw[show An.dat (.oc (.tell "a b full nine"))=cn "a b full nine" from rfl,yw];refine bz ?_;have s02:=(s1.trans s2).trans u2;refine⟨Mine.z4,λl5 hl5=>?_⟩;have u3:=au hl5 (.lst [V.str "a",.str "b",.str "full",.str "nine"]);have Pa:=s02.trans u3;obtain⟨j,hj,j4⟩:∃j:Nat,m/8%4=(j:Int)/\j<4:=⟨(m/8%4).toNat,by omega,by omega⟩
 have hn:(K4.map V.str)[j]?=some (.str (K4.getD j "")):=by
  rw[y4,C5,g0 (show j<K4.length from j4)];rfl
 have hm:K4.getD j ""∈K4:=by
  rw[C5,g0 (show j<K4.length from j4)];exact Ls _
 generalize K4.getD j ""=n at hn hm;refine⟨_,rfl,_,_,rfl,rfl,⟨by decide,by decide⟩,_,_,rfl,rfl,(show(0:Int)<4 by decide),_,_,_,_,rfl,rfl,Nq.of ae,(show OP _ (m/8%4)=some (.str n) by rw[hj];exact bc hn),?_⟩;obtain⟨fn,sz⟩:=Ss S hm;obtain⟨t1,t2⟩:=EM (f:=f) (ks:=K4) hm fn (by omega);obtain⟨l6,l7⟩:=Ec t2;have nl:n.length<=8:=(JQ n hm).2.2.1;refine⟨_,rfl,_,rfl,_,_,rfl,rfl,h8 (show _<=100 by rw[show("show ":Str).length=5 by decide+kernel];omega) (by decide),a,dx,d,Np,K4,f,_,_,rfl,dk.to Pa,l6,l7,t1,trivial,λv4 H4 s4 d4=>?_⟩;have Pq:=Pa.trans s4;have dg:nB H4 td (.str n) (some (.str (NM F N n).text)):=by rw[<- Tj F N hm];exact .inl ⟨_,Sum.inr n,.inr ⟨ob,Pq _ _ UB⟩,rfl,rfl⟩
 refine⟨_,rfl,_,rfl,td,_,rfl,dg,Mine.z2,λp5 hp5=>?_⟩;have u5:=au hp5 (.tup [V.str "told",.str (NM F N n).text]);have d5:Dat K (upd H4 p5 (.tup [V.str "told",.str (NM F N n).text])) (cn (NM F N n).text) (.ref p5):=⟨p5,_,rfl,Nv.of ae,_,_,rfl,rfl,_,_,rfl,rfl,rfl⟩;have sh5:SeqAt.shaped (cn (NM F N n).text)=true:=nE (Wg (gX _).2);refine⟨_,_,.inl (d4.ts u5.ts),.inl d5,sh5,sh5,_,rfl,?_⟩;rw[show An.dat (.oc (.tell (NM F N n).text))=cn (NM F N n).text from rfl,yw];exact bz (fin _ _ (Pq.trans u5))
theorem Xk(hr:bX 39 (A.deeper (PyProof.Rows.envOfC "law" (ai nY) s.heap.objs.size fa cdv)))(MT:gW P w K mg base CD "tell" 13 ["self","line"] (iw c C CD))(bD:Def P w K mg base 14 "_law_said" ["_law_desk","_law_line"] (gh c K CD))(dG:Def P w K mg base 1 "_law_no_call" ["_law_cell"] sD)(fH:Def P w K mg base 1 "_law_other" ["_law_cell"] (sC K)) :
  ∃t,NU (LX P w K mg base fa cdv A outer s H0 E) ((aZ nY).drop 7) t/\∀(Q:VK)(σ0 σ3 σ4 σ7 σ8:Option V)(D a dx d td:Addr)(ms:List Int)(m0 m1:Int)(Np:List (Key×V))(f:Str->Option Tr)(F:Tr)(u:W5)(t8:Tr)(ob:Obj)(H:Hp),H D=some (.lst ((m0::m1::ms).map V.int))->N6 t8->t8.nf=8->OQ c CD H a dx d Np K4 f->Np.length<=40->Vv f F (Tr.fold u .lp t8)->H td=some (.frz ob (.dK (OR F (Tr.fold u .lp t8))))->(∀H',Q (.bl true) H')->
   t (LD Q) [σ0,some (.ref D),some (.str (Tr.fold u .lp t8).text),σ3,σ4,some (.ref td),some (.ref a),σ7,σ8,none,none,none,none] H:=by
 have nd:=jw.nd;obtain⟨tD,hD,qD⟩:=Xj (E:=E) (H0:=H0) hr MT bD;obtain⟨tC,hC,qC⟩:=Uh (E:=E) (H0:=H0) hr bD;refine⟨_,ag (dj z9 rfl (bV (gu jP (pv 1) (hU aq) jX)) (aX (i:=9)) (ag (aD (i:=10) (aN dG (aa (aO xD (pv 9) aq) af))) (ag (aD (i:=11) (bu (aa az (aa (pv 10) af)))) (ag (aP (aB mB (aO ja (pv 9) aq) aq (aE _)) (ah (TX (aN fH (aa (aO xD (pv 9) aq) af)) (mR rfl (bt (aX (i:=10)) (bt (aX (i:=11)) gf))))) aG) hC)))) hD,?_⟩;intro Q σ0 σ3 σ4 σ7 σ8 D a dx d td ms m0 m1 Np f F u t8 ob H eD ch n8 dk fk S UB q;refine⟨_,rfl,_,rfl,?_⟩;dsimp only[nF];refine⟨D,_,rfl,Nq.of eD,λp hp=>?_⟩;rw[v7,v7,S7];have up:=au hp (.lst (ms.map V.int));refine⟨p,rfl,⟨_,Nq.of ae⟩,?_⟩;refine dY (D:={LD Q with nx:=tD (LD Q) }) (xs:=ms.map V.int) (λi σ H'=>aC (upd H p (.lst (ms.map V.int))) H'/\∃o7 o9 o10 o11,σ=[σ0,some (.ref D),some (.str (Tr.fold u .lp t8).text),σ3,σ4,some (.ref td),some (.ref a),o7,σ8,o9,o10,o11,none]) ⟨aC.refl _,_,_,_,_,rfl⟩ (λi σ H' _ z=>Nq.of (z.1 _ _ ae)) (λi v σ H' hv z=>?_) (λσ H' z=>?_)
 .obtain⟨s1,o7,o9,o10,o11,rfl⟩:=z;rw[y4]at hv;cases em:ms[i]? with
  | none=>rw[em]at hv;cases hv
  | some m =>
   rw[em]at hv;cases hv
   have s01:=up.trans s1;refine⟨_,rfl,_,_,rfl,rfl,⟨by decide,by decide⟩,_,rfl,λx H2 s2 lx cx okx=>?_⟩;refine⟨_,rfl,Mine.z2,λp3 hp3=>?_⟩;have u3:=au hp3 (.tup [V.str "call",.str x]);have s13:=s2.trans u3;refine⟨_,rfl,_,_,rfl,rfl,(show(0:Int)<4 by decide),_,_,rfl,rfl,_,rfl,kz (λ_=>?_) (λ_=>?_)⟩
   .refine⟨_,rfl,_,_,rfl,rfl,⟨by decide,by decide⟩,_,rfl,λb y wh v H4 s4 sb dv ly okw sokw te=>?_⟩;refine⟨b,_,rfl,sb,rfl,_,_,rfl,_,_,rfl,rfl,?_⟩;have s14:=s13.trans s4;have Pq:=s01.trans s14;exact qC _ _ _ _ _ _ _ _ _ a dx d td Np f F _ m y v wh ob H4 (dk.to Pq) S (Pq _ _ UB) dv ly okw sokw (te f K4 F _ S) λn H5 s5=>⟨(s1.trans s14).trans s5,_,_,_,_,rfl⟩
   .have dv:Dat K (upd H2 p3 (.tup [V.str "call",.str x])) (NQ.dat (.call x)) (.ref p3):=⟨p3,_,rfl,Nv.of ae,_,_,rfl,rfl,_,_,rfl,rfl,rfl⟩;have Pa:=s01.trans s13;exact qC _ _ _ _ _ _ _ _ _ a dx d td Np f F _ m x _ (.call x) ob _ (dk.to Pa) S (Pa _ _ UB) dv lx trivial okx (.call cx) λn H5 s5=>⟨(s1.trans s13).trans s5,_,_,_,_,rfl⟩
 .obtain⟨s1,o7,o9,o10,o11,rfl⟩:=z;exact qD Q _ _ _ _ _ _ _ _ _ _ _ a dx d Np K4 f u t8 H' ch n8 (dk.to (up.trans s1)) fk q
end
noncomputable def fI(F N:Tr):Nat->Str->Option Tr
 | 0=>λ_=>none
 | i+1=>jr (fI F N i) (K4.getD i "") (NM F N (K4.getD i ""))
theorem cA{t:Tr}(h:y≠x):jr f x t y=f y:=h9 h
theorem iN{t:Tr}:jr f x t x=some t:=k9 rfl
theorem YD(F N:Tr)(h:i<4):fI F N i (K4.getD i "")=none:=by
 rcases(by omega:i=0\/i=1\/i=2\/i=3) with rfl | rfl | rfl | rfl
 .rfl
 .exact cA (by decide+kernel)
 .exact(cA (by decide+kernel)).trans (cA (by decide+kernel))
 .exact((cA (by decide+kernel)).trans (cA (by decide+kernel))).trans (cA (by decide+kernel))
theorem SM(F N:Tr):NM F N "a"=Te:=k9 rfl
theorem SK(F N:Tr):NM F N "b"=Td:=by unfold NM;rw[h9 (by decide+kernel),k9 rfl]
theorem SJ(F N:Tr):NM F N "full"=F:=by unfold NM;rw[h9 (by decide+kernel),h9 (by decide+kernel),k9 rfl]
theorem SI(F N:Tr):NM F N "nine"=N:=by unfold NM;rw[h9 (by decide+kernel),h9 (by decide+kernel),h9 (by decide+kernel)]
theorem S3(hF:F=jb 23 .lp\/F=jb 23 .lq)(hN:N6 N)(n9:N.nf=9):Vv (fI F N 4) F N:=by
 have e:∀y,fI F N 4 y=jr (jr (jr (jr (λ_=>none) "a" Te) "b" Td) "full" F) "nine" N y:=λy=>by
  show jr (jr (jr (jr (λ_=>none) "a" (NM F N "a")) "b" (NM F N "b")) "full" (NM F N "full")) "nine" (NM F N "nine") y=_;rw[SM,SK,SJ,SI]
 refine⟨?_,?_,?_,?_,λz=>?_,hF,hN,n9⟩
 .rw[e,cA (by decide+kernel),cA (by decide+kernel),cA (by decide+kernel),iN]
 .rw[e,cA (by decide+kernel),cA (by decide+kernel),iN]
 .rw[e,cA (by decide+kernel),iN]
 .rw[e,iN]
 .rw[e];unfold Uu
  by_cases h4:z="nine"
  .rw[h4,iN,j9 (by decide+kernel)];rfl
  rw[cA h4]
  by_cases h3:z="full"
  .rw[h3,iN,j9 (by decide+kernel)];rfl
  rw[cA h3]
  by_cases h2:z="b"
  .rw[h2,iN,j9 (by decide+kernel)];rfl
  rw[cA h2]
  by_cases h1:z="a"
  .rw[h1,iN,j9 (by decide+kernel)];rfl
  rw[cA h1];simp[h1,h2,h3,h4]
theorem Wj(F N:Tr){k:Key}{v:V}(h:(OR F N)[i]?=some (k,v)):i<4/\k=Sum.inr (K4.getD i "")/\v=.str (NM F N (K4.getD i "")).text/\K4.getD i ""∈K4:=by
 match i,h with
 | 0,h=>cases h;exact⟨by decide,rfl,by show _=V.str (NM F N "a").text;rw[SM],by decide+kernel⟩
 | 1,h=>cases h;exact⟨by decide,rfl,by show _=V.str (NM F N "b").text;rw[SK],by decide+kernel⟩
 | 2,h=>cases h;exact⟨by decide,rfl,by show _=V.str (NM F N "full").text;rw[SJ],by decide+kernel⟩
 | 3,h=>cases h;exact⟨by decide,rfl,by show _=V.str (NM F N "nine").text;rw[SI],by decide+kernel⟩
 | n+4,h=>cases h
section
variable{P:Program}{w:World}{K:W.Frag}{mg:Str->Option Value}{base:Heap}{c:CCs}{C:Nat->Addr}{CD fa:Addr}{cdv:Value}{A:Around}{outer:List Env}{s:Shared}{H0:Hp}{E:XK}
theorem Xl(hr:bX 39 (A.deeper (PyProof.Rows.envOfC "law" (ai nY) s.heap.objs.size fa cdv)))(MT:gW P w K mg base CD "tell" 13 ["self","line"] (iw c C CD))(bD:Def P w K mg base 14 "_law_said" ["_law_desk","_law_line"] (gh c K CD))(dG:Def P w K mg base 1 "_law_no_call" ["_law_cell"] sD)(fH:Def P w K mg base 1 "_law_other" ["_law_cell"] (sC K)) :
  ∃t,NU (LX P w K mg base fa cdv A outer s H0 E) ((aZ nY).drop 6) t/\∀(Q:VK)(σ0 σ3 σ4:Option V)(D a dx d td:Addr)(ms:List Int)(m0 m1:Int)(F:Tr)(u:W5)(t8:Tr)(H:Hp),H D=some (.lst ((m0::m1::ms).map V.int))->N6 (Tr.fold u .lp t8)->t8.nf=8->N6 t8->(F=jb 23 .lp\/F=jb 23 .lq)->H a=some (.ins CD dx [("kept",.ref d)])->H d=some (.dK [])->H td=some (.dK (OR F (Tr.fold u .lp t8)))->(∀H',Q (.bl true) H')->
   t (LD Q) [σ0,some (.ref D),some (.str (Tr.fold u .lp t8).text),σ3,σ4,some (.ref td),some (.ref a),none,none,none,none,none,none] H:=by
 have nd:=jw.nd;obtain⟨tC,hC,qC⟩:=Xk (E:=E) (H0:=H0) hr MT bD dG fH;refine⟨_,ag (dj z9 rfl (IB (pv 5) rfl) (mR rfl (bt (aX (i:=7)) (bt (aX (i:=8)) gf))) (ah (aP (aB vW (aL aV (aN bD (aa (pv 6) (aa (aO bS (aO bS (aO bS az (pv 7)) az) (pv 8)) af))) aq) az (aE _)) (ah (av oC)) aG))) hC,?_⟩;intro Q σ0 σ3 σ4 D a dx d td ms m0 m1 F u t8 H eD Y1 n8 ch hF ea ed V0 q;generalize eN:Tr.fold u .lp t8=N at *;have n9:N.nf=9:=by rw[<- eN,lX,n8];rfl
 have sN:=Y1.size
 have sz:∀n∈K4,(NM F N n).size<=24:=λn hn=>by
  have:=(Ss (S3 hF Y1 n9) hn).2;have sF:F.size=24:=by rcases hF with rfl | rfl<;>rw[dM]<;>rfl
  unfold NM;split
  .decide
  .split
   .decide
   .split<;>omega
 refine⟨_,rfl,td,_,rfl,.inl V0,λob _=>?_⟩;have nDt:D≠td:=λz=>by rw[z,V0]at eD;cases eD
 have nat:a≠td:=λz=>by rw[z,V0]at ea;cases ea
 have ndt:d≠td:=λz=>by rw[z,V0]at ed;cases ed
 refine Gu (D:={LD Q with nx:=tC (LD Q) }) (λi σ H'=>i<=4/\∃Np o7 o8,σ=[σ0,some (.ref D),some (.str N.text),σ3,σ4,some (.ref td),some (.ref a),o7,o8,none,none,none,none]/\H' D=some (.lst ((m0::m1::ms).map V.int))/\H' td=some (.frz ob (.dK (OR F N)))/\OQ c CD H' a dx d Np (K4.take i) (fI F N i)/\Np.length<=i) ⟨z5 _,[],_,_,rfl,by rw[aj nDt];exact eD,ae,⟨by rw[aj nat];exact ea,by rw[aj ndt];exact ed,⟨rfl,λ_ _=>rfl,λy t z=>by cases z⟩,by decide⟩,f7 _⟩ (λi σ H' _ z=>?_) (λi k v T σ H' ZE z hT=>?_) (λσ H' z=>?_)
 .obtain⟨_,Np,o7,o8,_,_,h,_⟩:=z;exact h
 .obtain⟨_,Np,o7,o8,rfl,e1,e2,dk,Vd⟩:=z;obtain⟨i4,rfl,rfl,hn⟩:=Wj F N ZE;have no:=YD F N i4;have uT:=au hT (.tup [kV (Sum.inr (K4.getD i "")),.str (NM F N (K4.getD i "")).text]);have WV:=sz _ hn;have k4:=JQ _ hn
  have eK:yH (K4.take i) (fI F N i) (K4.getD i "")=K4.take (i+1):=by
   unfold yH;rw[no,h9 (by decide)];rcases(by omega:i=0\/i=1\/i=2\/i=3) with rfl | rfl | rfl | rfl<;>rfl
  have eF:jr (fI F N i) (K4.getD i "") (NM F N (K4.getD i ""))=fI F N (i+1):=rfl;generalize K4.getD i ""=n at *;obtain⟨te,l1,l2⟩:=yx (f:=fI F N i) (ks:=K4.take i) k4 WV;have tw:=gX (NM F N n);have e4:("say ":Str).length=4:=by decide+kernel
  have e5:(" ":Str).length=1:=by decide+kernel
  refine⟨T,_,rfl,Nv.of ae,rfl,_,_,rfl,_,_,rfl,rfl,?_⟩;refine⟨_,rfl,_,rfl,_,_,rfl,rfl,h8 (show _<=1000 by rw[e4];omega) (by decide),_,_,rfl,rfl,h8 (show _<=1000 by rw[z6,e4,e5];omega) (by decide),_,rfl,_,_,rfl,rfl,h8 (show _<=1000 by rw[z6,z6,e4,e5];omega) (by decide),?_⟩;refine⟨a,dx,d,Np,K4.take i,fI F N i,jy n (NM F N n).text,_,rfl,dk.to uT,l1,l2,te,trivial,λv2 H2 fin d2=>?_⟩;obtain⟨H1,b,s1,obb,s2⟩:=fin;have OL:=(dk.to uT).kept s1 obb s2 (by omega);rw[eK,eF]at OL;have dkd:=(dk.to (uT.trans s1)).ed;obtain⟨p2,xs,rfl,sq,x1,r1,rfl,h1,x2,r2,rfl,h2,h3⟩:=d2;cases(show x1=V.str "told" from h1)
  cases(show r2=[] from h3)
  refine⟨_,_,_,_,rfl,rfl,sq,rfl,rfl,_,rfl,JS rfl ?_⟩
  have keep:∀{e:Addr}{o:HO},H' e=some o->(∀kv,o≠.dK kv)->H2 e=some o:=λhe hn=>by
   refine s2 _ _ ?_;rw[aj (λz=>?_)]
   .exact(uT.trans s1) _ _ he
   .have:=(uT.trans s1) _ _ he;rw[z,dkd]at this;cases this
    exact hn _ rfl
  refine⟨by omega,_,_,_,rfl,keep e1 (λ_ z=>by cases z),keep e2 (λ_ z=>by cases z),OL,?_⟩;have:=gv Np (Sum.inr n) (.ref b);omega
 .obtain⟨_,Np,o7,o8,rfl,e1,e2,dk,Vd⟩:=z;have Vd:Np.length<=4:=Vd;subst eN;exact qC Q σ0 σ3 σ4 o7 o8 D a dx d td ms m0 m1 Np (fI F _ 4) F u t8 ob H' e1 ch n8 dk (by omega) (S3 hF Y1 n9) e2 q
end
section
variable{P:Program}{w:World}{K:W.Frag}{mg:Str->Option Value}{base:Heap}{c:CCs}{C:Nat->Addr}{CD:Addr}
theorem Jm{f:Addr}(F:OY K "law" "law" nY f fd)(hV:mg "range"=none)(Az:Def P w K mg base 1 "_law_mixed" ["_law_script","_law_least"] (sG K))(VC:jf P w K mg base "Desk" CD 1 ["self"] (Dw CD))(MT:gW P w K mg base CD "tell" 13 ["self","line"] (iw c C CD))(bD:Def P w K mg base 14 "_law_said" ["_law_desk","_law_line"] (gh c K CD))(dG:Def P w K mg base 1 "_law_no_call" ["_law_cell"] sD)(fH:Def P w K mg base 1 "_law_other" ["_law_cell"] (sC K)):gS P w K mg base CX0 40 f fd ["_law_script"] (spLaw K):=by
 refine F.ok jw ?_ ?_
 .walk_at "i1"
 walk_at "i3";obtain⟨sc,ns,rfl,S,q⟩:=h;have nd:=jw.nd;obtain⟨tB,hB,qB⟩:=Xl (E:=E) (H0:=H) hr MT bD dG fH;refine⟨_,ag (aD (i:=1) (aN Az (aa (pv 0) (aa aq af)))) (ag (aD (i:=2) az) (ag (dj z9 rfl (vS hV (aa aq af)) (aX (i:=3)) (ah (aD (i:=2) (aO bS (aO bS (aO bS (aO bS az (aL bb (bg (aa az (aa az af))) (aO ja (aO jF (aL bb (pv 1) aq) (aO gP (pv 3) aq)) aq))) az) (pv 2)) az)))) (ag (aD (i:=4) (aO bS (aO DY az aq) (aL bb (bg (aa az (aa az af))) (aO ja (aL bb (pv 1) aq) aq)))) (ag (aD (i:=5) (QQ (oo az az (oo az az (oo az (pv 4) (oo az (pv 2) QK)))) rfl rfl (by decide) (by decide))) (ag (aD (i:=6) (T6 VC (hr.mono (by decide)) rfl)) hB))))),?_⟩;refine⟨_,rfl,sc,ns,8,rfl,S,by decide,by decide,λD ms H1 s1 hD e1 hc hl=>?_⟩
 obtain⟨m0,m1,r,rfl⟩:∃m0 m1 r,ms=m0::m1::r:=match ms,hl with
  | [],hl=>absurd hl (by decide)
  | [_],hl=>absurd hl (by show ¬(8:Int)<=1;decide)
  | m0::m1::r,_=>⟨m0,m1,r,rfl⟩
 have e5:("( p ":Str).length=4:=by decide+kernel
 have e6:(" ":Str).length=1:=by decide+kernel
 have e7:(" )":Str).length=2:=by decide+kernel
 refine⟨_,rfl,by decide,by decide,?_⟩;refine qh (λi σ H'=>aC H1 H'/\∃o3 t,N6 t/\t.nf=i/\i<=9/\σ=[some (.ref sc),some (.ref D),some (.str t.text),o3,none,none,none,none,none,none,none,none,none]) ⟨aC.refl _,_,.lp,.p,rfl,by decide,rfl⟩ (λi σ H' hi h=>?_) (λσ H' h=>?_)
 .obtain⟨s2,o3,t,ch,nt,_,rfl⟩:=h;have i9:i<9:=hi;have sz:=ch.size;have tw:=gX t;refine⟨Mine.z2,λl Pe=>?_⟩;have u:=au Pe (.lst [V.str "lesser",.str "greater"]);have e2:=(s2.trans u) _ _ e1;have dv:AI m0 (0+(i:Int)+1):=Gy (by omega) (Ak (n:=5) (by omega) (by decide));refine⟨_,rfl,_,_,_,_,rfl,rfl,Nq.of e2,bc (j:=0) rfl,_,rfl,_,_,rfl,rfl,_,_,rfl,rfl,dv,_,_,rfl,rfl,(show(0:Int)<2 by decide),?_⟩
  obtain⟨u',hj,hu'⟩:∃u':W5,OP [V.str "lesser",.str "greater"] (m0.fdiv (0+(i:Int)+1)%2)=some (.str u'.str)/\(u'=.lesser\/u'=.greater):=by
   rcases(by omega:m0.fdiv (0+(i:Int)+1)%2=((0:Nat):Int)\/m0.fdiv (0+(i:Int)+1)%2=((1:Nat):Int)) with z | z
   .exact⟨.lesser,by rw[z];exact bc rfl,.inl rfl⟩
   .exact⟨.greater,by rw[z];exact bc rfl,.inr rfl⟩
  obtain⟨w1,_,_⟩:=HD u';refine⟨_,_,_,_,rfl,rfl,Nq.of ae,hj,_,_,rfl,rfl,h8 (show _<=1000 by rw[e5];omega) (by decide),_,_,rfl,rfl,h8 (show _<=1000 by rw[z6,e5,e6];omega) (by decide),_,rfl,_,_,rfl,rfl,h8 (show _<=1000 by rw[z6,z6,e5,e6];omega) (by decide),_,_,rfl,rfl,h8 (show _<=1000 by rw[z6,z6,z6,e5,e6,e7];omega) (by decide),?_⟩;refine⟨s2.trans u,some (.int (0+(i:Int))),Tr.fold u' .lp t,.f hu' ch,by rw[lX,nt];show 0+i+1=_;omega,by omega,?_⟩;rw[<- wm];rfl
 .obtain⟨s2,o3,t,ch,nt,_,rfl⟩:=h;have nt:t.nf=9:=nt;cases ch with
  | p=>cases nt
  | @f u t8 hu ch8 =>
   have n8:t8.nf=8:=by rw[lX]at nt;rw[show Tr.lp.nf=0 from rfl]at nt;omega
   have Y1:N6 (Tr.fold u .lp t8):=.f hu ch8;refine⟨_,23,rfl,rfl,by decide,by decide+kernel,Mine.z2,λl Pe=>?_⟩;have u1:=au Pe (.lst [V.str "p",.str "q"]);have e2:=(s2.trans u1) _ _ e1;refine⟨_,rfl,_,_,_,_,rfl,rfl,Nq.of e2,bc (j:=1) rfl,_,_,rfl,rfl,(show(0:Int)<2 by decide),?_⟩
   obtain⟨y,Ff,hj,hF,ht⟩:∃(y:Str)(Ff:Tr),OP [V.str "p",.str "q"] (m1%2)=some (.str y)/\(Ff=jb 23 .lp\/Ff=jb 23 .lq)/\(y.length<=1/\me "not " 23++y=Ff.text):=by
    rcases(by omega:m1%2=((0:Nat):Int)\/m1%2=((1:Nat):Int)) with z | z
    .exact⟨"p",jb 23 .lp,by rw[z];exact bc rfl,.inl rfl,by decide+kernel,Qh.2.2.1⟩
    .exact⟨"q",jb 23 .lq,by rw[z];exact bc rfl,.inr rfl,by decide+kernel,Qh.2.2.2⟩
   refine⟨_,_,_,_,rfl,rfl,Nq.of ae,hj,_,_,rfl,rfl,h8 (show _<=1000 by rw[show(me "not " 23).length=92 by decide+kernel];omega) (by decide),?_⟩;rw[ht.2];have s3:=s2.trans u1;intro td UB;have u2:=au UB (.dK []);refine⟨_,rfl,_,rfl,ae,OR Ff (Tr.fold u .lp t8),?_,by show 4<=15;decide,?_⟩
   .unfold OR;rw[Qh.1,Qh.2.1];rfl
   rw[show qe [] (OR Ff (Tr.fold u .lp t8))=OR Ff (Tr.fold u .lp t8) by kernel_rfl];have u3:=bP (o:=.dK (OR Ff (Tr.fold u .lp t8))) u2 UB;refine λz dz h1 h2 ne=>⟨z,dz,rfl,ae,λd hd=>?_⟩;have s4:=s3.trans u3;have um:=fJ (C:=CD) (fs:=[]) h1 h2 ne;generalize eH:upd (upd (upd H' l (.lst [V.str "p",.str "q"])) td (.dK [])) td (.dK (OR Ff (Tr.fold u .lp t8)))=H4 at *;have V0:H4 td=some (.dK (OR Ff (Tr.fold u .lp t8))):=by rw[<- eH,ae]
   have OI:H4 d=none:=dh (dh hd);have ndz:d≠z:=λq=>by subst q;rw[ae]at hd;cases hd
   have u5:aC H4 (upd (upd (upd (upd H4 dz (.own z)) z (.ins CD dz [])) d (.dK [])) z (.ins CD dz [("kept",.ref d)])):=λb o e=>by
    rw[aj (ak e h1),aj (ak e OI),aj (ak e h1),aj (ak e h2)];exact e
   refine⟨rfl,qB Q _ _ _ D z dz d td r m0 m1 Ff u t8 _ (u5 _ _ (s4 _ _ e1)) Y1 n8 ch8 hF ae ?_ (u5 _ _ V0) q⟩;rw[aj ndz,ae]
end
theorem BE(T:aA K mg "is_whole" mK)(aK:mg "isinstance"=none)(oU:mg "int"=none)(Cs:mg "bool"=none)(kb:PySem.W.kitOne K (.type "int") (.type "bool")=some false):Def P w K mg base 1 "is_whole" ["thing"] yF:=by
 refine aY T qF (λ_ _ _ _ _ _=>ar1 λ_=>rfl) ?_ ?_
 .walk_at "i1"
 walk_at "i2";obtain⟨i,rfl,q⟩:=h;have nd:=qF.nd;refine⟨_,(ah (av (pZ (aH lE aK (aa (pv 0) (aa (lW (v:=V.ty "int") rfl oU (by decide+kernel) rfl) af))) (mT (IE (aH lE aK (aa (pv 0) (aa (lW (v:=V.ty "bool") rfl Cs (by decide+kernel) rfl) af)))))))),?_⟩;exact⟨_,rfl,_,_,_,_,true,rfl,(λ_ h=>h),jL.int _,lj,_,rfl,cL ⟨_,rfl,_,_,_,_,false,rfl,(λ_ h=>h),jL.int _,kb,_,rfl,q⟩⟩
theorem kJ:ao ["self","at"] ["self","at"] (ai fS):=L2.fsc
theorem uR{fI:Addr}(F:OY K "__init__" "NoText.__init__" fS fI fd)(c:mj K C)(n1:bh K C "at"):gS P w K mg base CX0 1 fI fd ["self","at"] (L2.eA C "at"):=by
 refine F.ok kJ (λvs H Q E h=>?_) (λcdv Ar outer s H vs Q E hr h=>?_)
 .obtain⟨a,y,rfl,_⟩:=h;rfl
 obtain⟨a,y,rfl,ea,q⟩:=h;have nd:=kJ.nd;refine⟨_,(ah (xA (pv 0) (pv 1) rfl)),?_⟩;refine⟨_,rfl,_,rfl,a,C,rfl,c,n1,.inl ⟨ea,λd hd=>?_⟩⟩;have ne:d≠a:=λz=>by rw[z,ea]at hd;cases hd
 refine q d _ ⟨hd,ne,?_,ae,λb h1 h2=>?_⟩
 .rw[aj (B8 ne),ae]
 .rw[aj h2,aj h1]
theorem kL:ao ["self","line"] ["self","line"] (ai fU):=L2.fsc
theorem uU{fI:Addr}(F:OY K "__init__" "NoCall.__init__" fU fI fd)(c:mj K C)(n1:bh K C "line"):gS P w K mg base CX0 1 fI fd ["self","line"] (L2.eA C "line"):=by
 refine F.ok kL (λvs H Q E h=>?_) (λcdv Ar outer s H vs Q E hr h=>?_)
 .obtain⟨a,y,rfl,_⟩:=h;rfl
 obtain⟨a,y,rfl,ea,q⟩:=h;have nd:=kL.nd;refine⟨_,(ah (xA (pv 0) (pv 1) rfl)),?_⟩;refine⟨_,rfl,_,rfl,a,C,rfl,c,n1,.inl ⟨ea,λd hd=>?_⟩⟩;have ne:d≠a:=λz=>by rw[z,ea]at hd;cases hd
 refine q d _ ⟨hd,ne,?_,ae,λb h1 h2=>?_⟩
 .rw[aj (B8 ne),ae]
 .rw[aj h2,aj h1]
theorem kK:ao ["self","name"] ["self","name"] (ai fT):=L2.fsc
theorem uS{fI:Addr}(F:OY K "__init__" "NoName.__init__" fT fI fd)(c:mj K C)(n1:bh K C "name"):gS P w K mg base CX0 1 fI fd ["self","name"] (L2.eA C "name"):=by
 refine F.ok kK (λvs H Q E h=>?_) (λcdv Ar outer s H vs Q E hr h=>?_)
 .obtain⟨a,y,rfl,_⟩:=h;rfl
 obtain⟨a,y,rfl,ea,q⟩:=h;have nd:=kK.nd;refine⟨_,(ah (xA (pv 0) (pv 1) rfl)),?_⟩;refine⟨_,rfl,_,rfl,a,C,rfl,c,n1,.inl ⟨ea,λd hd=>?_⟩⟩;have ne:d≠a:=λz=>by rw[z,ea]at hd;cases hd
 refine q d _ ⟨hd,ne,?_,ae,λb h1 h2=>?_⟩
 .rw[aj (B8 ne),ae]
 .rw[aj h2,aj h1]
end Mine
namespace L2
open PySem PySem.Spec PyProof.Rows
variable{st:Stmt}{f:Addr}{od an:Option Addr}{N7:Array (Option Value)}
structure uB(K:W.Frag)(x qual:Str)(st:Stmt)(f:Addr):Prop where
 ex:∃fd:FuncData,OY K x qual st f fd
 fn:PySem.W.isFn K (.ref f)=true
theorem jY{K:W.Frag}{x qual:Str}{oc kV doc pm cdv ct:Value}(l:K.lookup f=some ⟨oc,od,.func (PySem.W.fnOf x qual (df st) (aZ st) (ai st) .none kV doc pm an cdv ct),N7⟩)
  (c:PySem.W.codeIn K cdv qual=true)(k:PySem.W.keepIn K (.ref f)=true)(fn:PySem.W.isFn K (.ref f)=true):uB K x qual st f:=⟨⟨_,Cc l c k⟩,fn⟩
end L2
open PySem PySem.W PyProof.Rows
namespace Mine
variable{K:Frag}{o:Option Value}{C f:Addr}{q:Str}{st:Stmt}{mg:Str->Option Value}{h:Heap}
structure CB(K:Frag)(C:Addr)(x:Str):Prop where
 n:nsIn K mainGlobals x=some (some (.ref C))
 c:L2.Cls K C
 h:findIn K (.ref C) "__class__"=some (some (.builtin "object.__class__"))
 m:mroIn K C (.type "object")=some true
 s:kitOne K (.ref C) (.type "str")=some false
 y:makesIn K C=true
 z:keepIn K (.ref C)=true
inductive GS(K:Frag)(m:Str)(o:Option Value):List Addr->Prop
 | nil:GS K m o []
 | cons {C:Addr} {r:List Addr}:findIn K (.ref C) m=some o->GS K m o r->GS K m o (C::r)
theorem GS.at{m:Str}{l:List Addr}(h:GS K m o l)(hC:C∈l):findIn K (.ref C) m=some o:=by
 induction h with
 | nil=>cases hC
 | cons e _ ih =>
  rcases j8.mp hC with rfl | z
  .exact e
  .exact ih z
def GE(K:Frag)(m q:Str)(st:Stmt)(l:List Addr):Prop:=∃f,GS K m (some (.ref f)) l/\L2.uB K m q st f
theorem GE.mk{m:Str}{l:List Addr}(g:GS K m (some (.ref f)) l)(e:L2.uB K m q st f):GE K m q st l:=⟨f,g,e⟩
theorem GE.meth{m:Str}{l:List Addr}(h:GE K m q st l)(cl:L2.Cls K C)(hC:C∈l):L2.aI K C m q st:=by
 obtain⟨f,g,e⟩:=h;obtain⟨fd,F⟩:=e.ex;exact⟨cl,f,fd,⟨g.at hC,e.fn,F.kp⟩,F⟩
theorem GE.made{x:Str}{l:List Addr}(X:K.In h)(G:h.Ns mainGlobals mg)(g:GE K "__init__" q st l)(b:CB K C x)(hC:C∈l):L2.MkF K mg x C q st:=by
 obtain⟨f,g,e⟩:=g;obtain⟨fd,F⟩:=e.ex;exact⟨b.c,Mm X G b.n,f,fd,⟨b.y,g.at hC,e.fn,b.z⟩,F⟩
theorem CCs.fm(c:CCs)(u:W5):c.fold u∈[c.mo,c.ls,c.gr,c.lr,c.ld]:=by cases u<;>simp[CCs.fold]
theorem CCs.om(c:CCs)(t:Tr):c.of t∈[c.ne,c.al,c.le,c.no,c.mo,c.ls,c.gr,c.lr,c.ld]:=by
 cases t with
 | fold u _ _=>cases u<;>simp[CCs.of,CCs.fold]
 | _=>simp[CCs.of]
end Mine
structure Mine.AllF(K:Frag)(mg:Str->Option Value)(c:Mine.CCs):Prop where
 fx:Mine.Fx K c
 madeS_ne:L2.aI K c.ne "made_of" "Saying.made_of" Mine.bW
 madeS_al:L2.aI K c.al "made_of" "Saying.made_of" Mine.bW
 madeS_le:L2.aI K c.le "made_of" "Saying.made_of" Mine.bW
 piecesS_ne:L2.aI K c.ne "pieces" "Saying.pieces" Mine.cu
 piecesS_al:L2.aI K c.al "pieces" "Saying.pieces" Mine.cu
 piecesS_le:L2.aI K c.le "pieces" "Saying.pieces" Mine.cu
 laid:∀t,L2.aI K (c.of t) "laid_out" "Saying.laid_out" Mine.fh
 told:∀t,L2.aI K (c.of t) "told" "Saying.told" Mine.iZ
 out:∀t,L2.aI K (c.of t) "out_of" "Saying.out_of" Mine.gL
 parts:∀t,L2.aI K (c.of t) "parts" "Saying.parts" Mine.fg
 foldsS:∀t,L2.aI K (c.of t) "folds" "Saying.folds" Mine.fi
 Kne_ne:L2.aI K c.ne "making_word" "Never.making_word" Mine.cB
 Wne_ne:L2.aI K c.ne "weigh" "Never.weigh" Mine.fV
 Rne_ne:L2.aI K c.ne "remake" "Never.remake" Mine.fj
 Kal_al:L2.aI K c.al "making_word" "Always.making_word" Mine.cz
 Wal_al:L2.aI K c.al "weigh" "Always.weigh" Mine.fA
 Ral_al:L2.aI K c.al "remake" "Always.remake" Mine.eG
 Kle_le:L2.aI K c.le "making_word" "Letter.making_word" Mine.bB
 Wle_le:L2.aI K c.le "weigh" "Letter.weigh" Mine.cG
 Rle_le:L2.aI K c.le "remake" "Letter.remake" Mine.cw
 Kno_no:L2.aI K c.no "making_word" "Not.making_word" Mine.cX
 Wno_no:L2.aI K c.no "weigh" "Not.weigh" Mine.iO
 Rno_no:L2.aI K c.no "remake" "Not.remake" Mine.gZ
 Mno_no:L2.aI K c.no "made_of" "Not.made_of" Mine.fR
 Pno_no:L2.aI K c.no "pieces" "Not.pieces" Mine.hG
 Mfo:∀u,L2.aI K (c.fold u) "made_of" "Fold.made_of" Mine.fq
 Pfo:∀u,L2.aI K (c.fold u) "pieces" "Fold.pieces" Mine.gd
 Wfo:∀u,L2.aI K (c.fold u) "weigh" "Fold.weigh" Mine.hJ
 Rfo:∀u,L2.aI K (c.fold u) "remake" "Fold.remake" Mine.gc
 F0mo_mo:L2.aI K c.mo "making_word" "More.making_word" Mine.cR
 F1mo_mo:L2.aI K c.mo "folded" "More.folded" Mine.fX
 F2mo_mo:L2.aI K c.mo "refolded" "More.refolded" Mine.eB
 F0ls_ls:L2.aI K c.ls "making_word" "Less.making_word" Mine.cS
 F1ls_ls:L2.aI K c.ls "folded" "Less.folded" Mine.fZ
 F2ls_ls:L2.aI K c.ls "refolded" "Less.refolded" Mine.eE
 F0gr_gr:L2.aI K c.gr "making_word" "Greater.making_word" Mine.cj
 F1gr_gr:L2.aI K c.gr "folded" "Greater.folded" Mine.dJ
 F2gr_gr:L2.aI K c.gr "refolded" "Greater.refolded" Mine.cT
 F0lr_lr:L2.aI K c.lr "making_word" "Lesser.making_word" Mine.cy
 F1lr_lr:L2.aI K c.lr "folded" "Lesser.folded" Mine.eC
 F2lr_lr:L2.aI K c.lr "refolded" "Lesser.refolded" Mine.cY
 F0ld_ld:L2.aI K c.ld "making_word" "Leads.making_word" Mine.cC
 F1ld_ld:L2.aI K c.ld "folded" "Leads.folded" Mine.fo
 F2ld_ld:L2.aI K c.ld "refolded" "Leads.refolded" Mine.dI
 ile:L2.MkF K mg "Letter" c.le "Letter.__init__" Mine.fY
 ino:L2.MkF K mg "Not" c.no "Not.__init__" Mine.jV
 ifo:∀u,L2.MkF K mg (Mine.W5.cls u) (c.fold u) "Fold.__init__" Mine.iP
 o_ne:L2.Mk0 K c.ne
 r_ne:mg "Never"=some (.ref c.ne)
 o_al:L2.Mk0 K c.al
 r_al:mg "Always"=some (.ref c.al)
theorem Mine.all_mk{K:Frag}{h:Heap}{mg:Str->Option Value}{ne al le no mo ls gr lr ld:Addr}(X:K.In h)(G:h.Ns mainGlobals mg)
  (Om:Mine.CB K ne "Never")
  (Oo:Mine.CB K al "Always")
  (OO:Mine.CB K le "Letter")
  (ON:Mine.CB K no "Not")
  (RO:Mine.CB K mo "More")
  (RP:Mine.CB K ls "Less")
  (RT:Mine.CB K gr "Greater")
  (RQ:Mine.CB K lr "Lesser")
  (RR:Mine.CB K ld "Leads")
  (hn:specialIn K (.builtin "object.__class__") "__get__"=some (some (.builtin "getset_descriptor.__get__")))
  (tk:takesIn K (.builtin "object.__class__")=some true)
  (Vp:Mine.GS K "name" none [le])
  (Vo:Mine.GS K "part" none [no])
  (Y4:Mine.GS K "one" none [mo,ls,gr,lr,ld])
  (RY:Mine.GS K "other" none [mo,ls,gr,lr,ld])
  (Ol:Mine.GE K "made_of" "Saying.made_of" Mine.bW [ne,al,le])
  (N4:Mine.GE K "pieces" "Saying.pieces" Mine.cu [ne,al,le])
  (UR:Mine.GE K "laid_out" "Saying.laid_out" Mine.fh [ne,al,le,no,mo,ls,gr,lr,ld])
  (UQ:Mine.GE K "told" "Saying.told" Mine.iZ [ne,al,le,no,mo,ls,gr,lr,ld])
  (Ya:Mine.GE K "out_of" "Saying.out_of" Mine.gL [ne,al,le,no,mo,ls,gr,lr,ld])
  (Rt:Mine.GE K "parts" "Saying.parts" Mine.fg [ne,al,le,no,mo,ls,gr,lr,ld])
  (PF:Mine.GE K "folds" "Saying.folds" Mine.fi [ne,al,le,no,mo,ls,gr,lr,ld])
  (Yt:Mine.GE K "making_word" "Never.making_word" Mine.cB [ne])
  (Yf:Mine.GE K "weigh" "Never.weigh" Mine.fV [ne])
  (Yk:Mine.GE K "remake" "Never.remake" Mine.fj [ne])
  (Yv:Mine.GE K "making_word" "Always.making_word" Mine.cz [al])
  (Yi:Mine.GE K "weigh" "Always.weigh" Mine.fA [al])
  (Yn:Mine.GE K "remake" "Always.remake" Mine.eG [al])
  (Yu:Mine.GE K "making_word" "Letter.making_word" Mine.bB [le])
  (Yg:Mine.GE K "weigh" "Letter.weigh" Mine.cG [le])
  (Yl:Mine.GE K "remake" "Letter.remake" Mine.cw [le])
  (Ys:Mine.GE K "making_word" "Not.making_word" Mine.cX [no])
  (Ye:Mine.GE K "weigh" "Not.weigh" Mine.iO [no])
  (Yj:Mine.GE K "remake" "Not.remake" Mine.gZ [no])
  (Yq:Mine.GE K "made_of" "Not.made_of" Mine.fR [no])
  (Yo:Mine.GE K "pieces" "Not.pieces" Mine.hG [no])
  (Yr:Mine.GE K "made_of" "Fold.made_of" Mine.fq [mo,ls,gr,lr,ld])
  (Yp:Mine.GE K "pieces" "Fold.pieces" Mine.gd [mo,ls,gr,lr,ld])
  (Yh:Mine.GE K "weigh" "Fold.weigh" Mine.hJ [mo,ls,gr,lr,ld])
  (Ym:Mine.GE K "remake" "Fold.remake" Mine.gc [mo,ls,gr,lr,ld])
  (U3:Mine.GE K "making_word" "More.making_word" Mine.cR [mo])
  (UY:Mine.GE K "folded" "More.folded" Mine.fX [mo])
  (US:Mine.GE K "refolded" "More.refolded" Mine.eB [mo])
  (U4:Mine.GE K "making_word" "Less.making_word" Mine.cS [ls])
  (UZ:Mine.GE K "folded" "Less.folded" Mine.fZ [ls])
  (UT:Mine.GE K "refolded" "Less.refolded" Mine.eE [ls])
  (U7:Mine.GE K "making_word" "Greater.making_word" Mine.cj [gr])
  (U2:Mine.GE K "folded" "Greater.folded" Mine.dJ [gr])
  (UX:Mine.GE K "refolded" "Greater.refolded" Mine.cT [gr])
  (U5:Mine.GE K "making_word" "Lesser.making_word" Mine.cy [lr])
  (U0:Mine.GE K "folded" "Lesser.folded" Mine.eC [lr])
  (UU:Mine.GE K "refolded" "Lesser.refolded" Mine.cY [lr])
  (U6:Mine.GE K "making_word" "Leads.making_word" Mine.cC [ld])
  (U1:Mine.GE K "folded" "Leads.folded" Mine.fo [ld])
  (UW:Mine.GE K "refolded" "Leads.refolded" Mine.dI [ld])
  (Yc:Mine.GE K "__init__" "Letter.__init__" Mine.fY [le])
  (Yb:Mine.GE K "__init__" "Not.__init__" Mine.jV [no])
  (Yd:Mine.GE K "__init__" "Fold.__init__" Mine.iP [mo,ls,gr,lr,ld])
  (i_0:Mine.GS K "__init__" (some (.builtin "object.__init__")) [ne,al]) :
  ∃c,Mine.AllF K mg c:=by
 have D:∀u,Mine.CB K (Mine.CCs.fold ⟨ne,al,le,no,mo,ls,gr,lr,ld⟩ u) (Mine.W5.cls u):=λu=>by
  cases u with
  | more=>exact RO
  | less=>exact RP
  | greater=>exact RT
  | lesser=>exact RQ
  | leads=>exact RR
 have B:∀t,∃x,Mine.CB K (Mine.CCs.of ⟨ne,al,le,no,mo,ls,gr,lr,ld⟩ t) x:=λt=>by
  cases t with
  | fold u=>exact⟨_,D u⟩
  | never=>exact⟨_,Om⟩
  | always=>exact⟨_,Oo⟩
  | no=>exact⟨_,ON⟩
  | _=>exact⟨_,OO⟩
 refine⟨⟨ne,al,le,no,mo,ls,gr,lr,ld⟩,?_⟩
 refine⟨?_,?_,?_,?_,?_,?_,?_,?_,?_,?_,?_,?_,?_,?_,?_,?_,?_,?_,?_,?_,?_,?_,?_,?_,?_,?_,?_,?_,?_,?_,?_,?_,?_,?_,?_,?_,?_,?_,?_,?_,?_,?_,?_,?_,?_,?_,?_,?_,?_,?_,?_,?_⟩
 .exact⟨λt=>(B t).elim λ_ b=>b.c,λt=>(B t).elim λ_ b=>b.h,λt=>(B t).elim λ_ b=>b.m,λt=>(B t).elim λ_ b=>b.s,hn,tk,Vp.at (.head _),Vo.at (.head _),λu=>Y4.at (Mine.CCs.fm _ u),λu=>RY.at (Mine.CCs.fm _ u)⟩
 .exact Ol.meth Om.c (.head _)
 .exact Ol.meth Oo.c (.tail _ (.head _))
 .exact Ol.meth OO.c (.tail _ (.tail _ (.head _)))
 .exact N4.meth Om.c (.head _)
 .exact N4.meth Oo.c (.tail _ (.head _))
 .exact N4.meth OO.c (.tail _ (.tail _ (.head _)))
 .exact λt=>UR.meth ((B t).elim λ_ b=>b.c) (Mine.CCs.om _ t)
 .exact λt=>UQ.meth ((B t).elim λ_ b=>b.c) (Mine.CCs.om _ t)
 .exact λt=>Ya.meth ((B t).elim λ_ b=>b.c) (Mine.CCs.om _ t)
 .exact λt=>Rt.meth ((B t).elim λ_ b=>b.c) (Mine.CCs.om _ t)
 .exact λt=>PF.meth ((B t).elim λ_ b=>b.c) (Mine.CCs.om _ t)
 .exact Yt.meth Om.c (.head _)
 .exact Yf.meth Om.c (.head _)
 .exact Yk.meth Om.c (.head _)
 .exact Yv.meth Oo.c (.head _)
 .exact Yi.meth Oo.c (.head _)
 .exact Yn.meth Oo.c (.head _)
 .exact Yu.meth OO.c (.head _)
 .exact Yg.meth OO.c (.head _)
 .exact Yl.meth OO.c (.head _)
 .exact Ys.meth ON.c (.head _)
 .exact Ye.meth ON.c (.head _)
 .exact Yj.meth ON.c (.head _)
 .exact Yq.meth ON.c (.head _)
 .exact Yo.meth ON.c (.head _)
 .exact λu=>Yr.meth (D u).c (Mine.CCs.fm _ u)
 .exact λu=>Yp.meth (D u).c (Mine.CCs.fm _ u)
 .exact λu=>Yh.meth (D u).c (Mine.CCs.fm _ u)
 .exact λu=>Ym.meth (D u).c (Mine.CCs.fm _ u)
 .exact U3.meth RO.c (.head _)
 .exact UY.meth RO.c (.head _)
 .exact US.meth RO.c (.head _)
 .exact U4.meth RP.c (.head _)
 .exact UZ.meth RP.c (.head _)
 .exact UT.meth RP.c (.head _)
 .exact U7.meth RT.c (.head _)
 .exact U2.meth RT.c (.head _)
 .exact UX.meth RT.c (.head _)
 .exact U5.meth RQ.c (.head _)
 .exact U0.meth RQ.c (.head _)
 .exact UU.meth RQ.c (.head _)
 .exact U6.meth RR.c (.head _)
 .exact U1.meth RR.c (.head _)
 .exact UW.meth RR.c (.head _)
 .exact Yc.made X G OO (.head _)
 .exact Yb.made X G ON (.head _)
 .exact λu=>Yd.made X G (D u) (Mine.CCs.fm _ u)
 .exact⟨Om.y,i_0.at (.head _),Om.z⟩
 .exact Mm X G Om.n
 .exact⟨Oo.y,i_0.at (.tail _ (.head _)),Oo.z⟩
 .exact Mm X G Oo.n
section
variable{P:Program}{w:World}{K:Frag}{mg:Str->Option Value}{base:Heap}{c:Mine.CCs}
open Mine L2
theorem Mine.mks(A:AllF K mg c):jf P w K mg base "Letter" c.le 1 ["self","name"] (eA c.le oM)/\jf P w K mg base "Not" c.no 1 ["self","part"] (eA c.no lB)/\∀u:W5,jf P w K mg base u.cls (c.fold u) 1 ["self","one","other"] (gY (c.fold u)):=
 ⟨BF A.ile A.fx.nName,Q5 A.ino A.fx.nPart,λu=>Jn (A.ifo u) (A.fx.nOne u) (A.fx.nOther u)⟩
theorem Mine.ms(A:AllF K mg c)(eT:mg "min"=none)(eU:mg "max"=none):Ms P w K mg base c:=by
 obtain⟨kl,kn,kf⟩:=mks (P:=P) (w:=w) (base:=base) A
 have word:∀t,aJ P w K mg base (c.of t) "making_word" 1 ["self"] (eY c t):=by
  intro t;cases t with
  | never=>exact Ft A.Kne_ne
  | always=>exact BA A.Kal_al
  | lp=>exact Ub A.Kle_le A.fx
  | lq=>exact Ua A.Kle_le A.fx
  | no t=>exact Q0 A.Kno_no
  | fold u a b =>
   cases u
   .exact IQ A.F0mo_mo
   .exact IS A.F0ls_ls
   .exact zw A.F0gr_gr
   .exact Bz A.F0lr_lr
   .exact Fu A.F0ld_ld
 have U9:∀u,aJ P w K mg base (c.fold u) "folded" 1 ["self","n","first","second"] (iz u):=by
  intro u;cases u
  .exact Js A.F1mo_mo eT
  .exact Jt A.F1ls_ls eU
  .exact zD A.F1gr_gr eU
  .exact BI A.F1lr_lr eT
  .exact FL A.F1ld_ld eT
 have Pr:∀u,aJ P w K mg base (c.fold u) "refolded" 3 ["self","first","second"] (eO c u):=by
  intro u;cases u
  .exact Ja A.F2mo_mo kf
  .exact Jb A.F2ls_ls kf
  .exact zB A.F2gr_gr kf
  .exact BC A.F2lr_lr kf
  .exact FC A.F2ld_ld kf
 refine⟨λt=>?_,λt=>?_,λt=>?_,λt=>?_,λt=>?_⟩
 .cases t with
  | never=>exact DZ A.madeS_ne rfl
  | always=>exact DZ A.madeS_al rfl
  | lp=>exact DZ A.madeS_le rfl
  | lq=>exact DZ A.madeS_le rfl
  | no t=>exact Q4 A.Mno_no A.fx
  | fold u a b=>exact Jj (A.Mfo u) A.fx
 .exact word t
 .cases t with
  | never=>exact rO A.piecesS_ne rfl (word .never)
  | always=>exact rO A.piecesS_al rfl (word .always)
  | lp=>exact rO (t:=.lp) A.piecesS_le rfl (word .lp)
  | lq=>exact rO (t:=.lq) A.piecesS_le rfl (word .lq)
  | no t=>exact Q3 A.Pno_no A.fx
  | fold u a b=>exact Je (A.Pfo u) A.fx (word (.fold u a b))
 .cases t with
  | never=>exact By A.Wne_ne
  | always=>exact zv A.Wal_al
  | lp=>exact QZ A.Wle_le A.fx
  | lq=>exact QY A.Wle_le A.fx
  | no t=>exact IP A.Wno_no
  | fold u a b=>exact Fs (A.Wfo u) (U9 u)
 .cases t with
  | never=>exact BB A.Rne_ne
  | always=>exact zA A.Ral_al
  | lp=>exact Q2 A.Rle_le A.fx
  | lq=>exact Q1 A.Rle_le A.fx
  | no t=>exact IX A.Rno_no kn
  | fold u a b=>exact FA (A.Rfo u) (Pr u)
end
open PySem PySem.W PyProof.Rows
noncomputable def Mine.kitsOk(K:Frag)(CF:Addr)(L:List (Str×Bool)):Bool:=L.all λq=>match nsIn K mainGlobals q.1 with
 | some (some (.ref a))=>kitOne K (.ref a) (.ref CF)==some q.2
 | _=>false
noncomputable def Mine.L9:List (Str×Bool):=[("Never",false),("Always",false),("Letter",false),("Not",false),("More",true),("Less",true),("Greater",true),("Lesser",true),("Leads",true)]
structure Mine.KF61(K:Frag)(mg:Str->Option Value)(CF:Addr):Prop where
 mF:mg "Fold"=some (.ref CF)
 k:∀q∈Mine.L9,∃a,mg q.1=some (.ref a)/\kitOne K (.ref a) (.ref CF)=some q.2
theorem Mine.KF61.mk'{K:Frag}{h:Heap}{mg:Str->Option Value}{CF:Addr}(X:K.In h)(G:h.Ns mainGlobals mg)(m:mg "Fold"=some (.ref CF))(e:Mine.kitsOk K CF Mine.L9=true):Mine.KF61 K mg CF:=by
 refine⟨m,λq hq=>?_⟩;have z:=E4.mp e q hq;split at z
 .rename_i a n;exact⟨a,Mm X G n,eq_of_beq z⟩
 .cases z
theorem Mine.KF61.kf{K:Frag}{mg:Str->Option Value}{CF:Addr}{c:Mine.CCs}(X:Mine.KF61 K mg CF)(A:Mine.AllF K mg c):∀t,kitOne K (.ref (c.of t)) (.ref CF)=some (Mine.isF t):=by
 have g:∀{x:Str}{a:Addr}{b:Bool},mg x=some (.ref a)->(x,b)∈Mine.L9->kitOne K (.ref a) (.ref CF)=some b:=λ{x} {a} {b} e z=>by
  obtain⟨a',e',k⟩:=X.k _ z;cases e.symm.trans e'
  exact k
 intro t;cases t with
 | never=>exact g A.r_ne (by decide+kernel)
 | always=>exact g A.r_al (by decide+kernel)
 | lp=>exact g A.ile.mg_ (by decide+kernel)
 | lq=>exact g A.ile.mg_ (by decide+kernel)
 | no=>exact g A.ino.mg_ (show(("Not":Str),false)∈Mine.L9 by decide+kernel)
 | fold u=>cases u with
  | more=>exact g (A.ifo .more).mg_ (show(("More":Str),true)∈Mine.L9 by decide+kernel)
  | less=>exact g (A.ifo .less).mg_ (show(("Less":Str),true)∈Mine.L9 by decide+kernel)
  | greater=>exact g (A.ifo .greater).mg_ (show(("Greater":Str),true)∈Mine.L9 by decide+kernel)
  | lesser=>exact g (A.ifo .lesser).mg_ (show(("Lesser":Str),true)∈Mine.L9 by decide+kernel)
  | leads=>exact g (A.ifo .leads).mg_ (show(("Leads":Str),true)∈Mine.L9 by decide+kernel)
noncomputable def Mine.excOk(K:Frag)(C:Addr):Bool:=findIn K (.ref C) "__getattribute__" == some (some (.builtin "BaseException.__getattribute__")) && (findIn K (.ref C) "__getattr__" == some none && ((clsIn K C).isSome && (findIn K (.ref C) "__class__" == some (some (.builtin "object.__class__")) && (mroIn K C (.type "BaseException")==some true && mroIn K C (.type "object")==some true))))
noncomputable def Mine.clsOk(K:Frag)(cs:List Addr)(CS:Addr):Bool:=(List.range 10).all λi=>Mine.excOk K (cs.getD i 0) && (mroIn K (cs.getD i 0) (.ref CS)==some true && (kitOne K (.ref (cs.getD i 0)) (.type "ValueError")==some true && (List.range 10).all λj=>kitOne K (.ref (cs.getD i 0)) (.ref (cs.getD j 0))==some (decide (i=j))))
theorem Mine.clsOk_at{K:Frag}{cs:List Addr}{CS:Addr}(h:Mine.clsOk K cs CS=true)(o13:specialIn K (.builtin "object.__class__") "__get__"=some (some (.builtin "getset_descriptor.__get__")))(o14:takesIn K (.builtin "object.__class__")=some true){i:Nat}(hi:i<10) :
  L2.jg K (cs.getD i 0)/\mroIn K (cs.getD i 0) (.ref CS)=some true/\kitOne K (.ref (cs.getD i 0)) (.type "ValueError")=some true/\∀j,j<10->kitOne K (.ref (cs.getD i 0)) (.ref (cs.getD j 0))=some (decide (i=j)):=by
 have z:=E4.mp h i (MD.mpr hi);obtain⟨z1,z⟩:=x4.mp z;obtain⟨z2,z⟩:=x4.mp z;obtain⟨z3,z⟩:=x4.mp z;obtain⟨e1,y⟩:=x4.mp z1;obtain⟨e2,y⟩:=x4.mp y;obtain⟨e3,y⟩:=x4.mp y;obtain⟨e4,y⟩:=x4.mp y;obtain⟨e5,e6⟩:=x4.mp y;exact⟨⟨eq_of_beq e1,eq_of_beq e2,G8.mp e3,eq_of_beq e4,o13,o14,eq_of_beq e5,eq_of_beq e6⟩,eq_of_beq z2,eq_of_beq z3,λj hj=>eq_of_beq (E4.mp z j (MD.mpr hj))⟩
noncomputable def Mine.strsB:List Value->List Str->Bool
 | [],[]=>true
 | .str y _::vs,x::ws=>x==y && Mine.strsB vs ws
 | _,_=>false
theorem Mine.strsB_are:∀{vs:List Value}{ws:List Str},Mine.strsB vs ws=true->StrsAre vs ws
 | [],[],_=>.nil
 | .str y t::vs,x::ws,h=>by
  obtain⟨h1,h2⟩:=x4.mp h;have e:=eq_of_beq h1;subst e;exact .cons _ _ (Mine.strsB_are h2)
noncomputable def Mine.tupOk(K:Frag)(v:Value)(ws:List Str):Bool:=match v with
 | .ref b=>match K.lookup b with
  | some o=>o.cls == .type "tuple" && (match o.data with | .seq its _=>Mine.strsB its.toList ws | _=>false)
  | none=>false
 | _=>false
theorem Mine.tupOk_is{K:Frag}{v:Value}{ws:List Str}(h:Mine.tupOk K v ws=true):∃b o its n,v=Value.ref b/\K.lookup b=some o/\o.cls=.type "tuple"/\o.data=.seq its n/\StrsAre its.toList ws:=by
 unfold Mine.tupOk at h;split at h
 .rename_i b;cases l:K.lookup b with
  | none=>rw[l]at h;cases h
  | some o =>
   rw[l]at h;obtain⟨h1,h2⟩:=x4.mp h;split at h2
   .rename_i its n e;exact⟨b,o,its,n,rfl,l,eq_of_beq h1,e,Mine.strsB_are h2⟩
   .cases h2
 .cases h
noncomputable def Mine.formsOk(K:Frag):List DictEntry->List (Str×List Str)->Bool
 | [],[]=>true
 | e::es,q::D=>e.key.isStr q.1 && (Mine.tupOk K e.val q.2 && Mine.formsOk K es D)
 | _,_=>false
theorem Mine.forms_rows{K:Frag}:∀{es:List DictEntry}{D:List (Str×List Str)},Mine.formsOk K es D=true->KTD.Rows (λ(ws:List Str) v=>∃b o its n,v=Value.ref b/\K.lookup b=some o/\o.cls=.type "tuple"/\o.data=.seq its n/\StrsAre its.toList ws) es D
 | [],[],_=>.nil
 | e::es,(x,ws)::D,h=>by
  obtain⟨h1,h2⟩:=x4.mp h;obtain⟨h2,h3⟩:=x4.mp h2
  have k:∃t,e.key=.str x t:=by
   revert h1
   cases e.key<;>intro h1<;>first | cases h1 | skip
   have z:=eq_of_beq h1;exact⟨_,by rw[z]⟩
  obtain⟨t,k⟩:=k;exact .cons k (Mine.tupOk_is h2) (Mine.forms_rows h3)
theorem Mine.toptxt_mk{K:Frag}{h:Heap}{mg:Str->Option Value}{x:Str}{v:Value}{n:Str}(X:K.In h)(G:h.Ns mainGlobals mg)(e:nsIn K mainGlobals x=some (some v))(q:∃t,v=.str n t):∃t,mg x=some (.str n t):=by
 obtain⟨t,rfl⟩:=q;exact⟨t,Mm X G e⟩
theorem Mine.fmeth{K:Frag}{x qual:Str}{st:Stmt}{f C:Addr}(e:L2.uB K x qual st f)(cl:L2.Cls K C)(g:findIn K (.ref C) x=some (some (.ref f))):L2.aI K C x qual st:=by
 obtain⟨fd,F⟩:=e.ex;exact⟨cl,f,fd,⟨g,e.fn,F.kp⟩,F⟩
theorem Mine.fmade{K:Frag}{mg:Str->Option Value}{x qual:Str}{st:Stmt}{f C:Addr}(e:L2.uB K "__init__" qual st f)(cl:L2.Cls K C)(g:findIn K (.ref C) "__init__"=some (some (.ref f)))(m:mg x=some (.ref C))(y:makesIn K C=true)(z:keepIn K (.ref C)=true):L2.MkF K mg x C qual st:=by
 obtain⟨fd,F⟩:=e.ex;exact⟨cl,m,f,fd,⟨y,g,e.fn,z⟩,F⟩
structure Mine.Ini(K:Frag)(C:Addr)(q:Str)(st:Stmt):Prop where
 ex:∃f,L2.KS K "__init__" q st f/\L2.lC K C L2.bmV "ValueError.__new__" f=true
 kc:keepIn K (.ref C)=true
structure Mine.Inits(K:Frag)(C:Nat->Addr):Prop where
 i0:Mine.Ini K (C 0) "NoText.__init__" Mine.fS
 i3:Mine.Ini K (C 3) "NoCall.__init__" Mine.fU
 i4:Mine.Ini K (C 4) "NoName.__init__" Mine.fT
theorem Mine.xNoText{P:Program}{w:World}{base:Heap}{K:Frag}{mg:Str->Option Value}{CS:Addr}{C:Nat->Addr}(X:Mine.uC K mg CS C)(Z:Mine.Inits K C):L2.XC1 P w K mg base "NoText" (C 0) "at":=by
 obtain⟨f,fe,xi⟩:=Z.i0.ex;obtain⟨fd,F⟩:=fe.ex;exact⟨X.m0,Z.i0.kc,⟨f,fd,_,Mine.uR F X.f0 X.n0,F.binds (λ_ _ _ _ _ _=>L2.ar2 λ_ _=>rfl),xi⟩,X.f0,X.n0⟩
theorem Mine.xNoCall{P:Program}{w:World}{base:Heap}{K:Frag}{mg:Str->Option Value}{CS:Addr}{C:Nat->Addr}(X:Mine.uC K mg CS C)(Z:Mine.Inits K C):L2.XC1 P w K mg base "NoCall" (C 3) "line":=by
 obtain⟨f,fe,xi⟩:=Z.i3.ex;obtain⟨fd,F⟩:=fe.ex;exact⟨X.m3,Z.i3.kc,⟨f,fd,_,Mine.uU F X.f3 X.n3,F.binds (λ_ _ _ _ _ _=>L2.ar2 λ_ _=>rfl),xi⟩,X.f3,X.n3⟩
theorem Mine.xNoName{P:Program}{w:World}{base:Heap}{K:Frag}{mg:Str->Option Value}{CS:Addr}{C:Nat->Addr}(X:Mine.uC K mg CS C)(Z:Mine.Inits K C):L2.XC1 P w K mg base "NoName" (C 4) "name":=by
 obtain⟨f,fe,xi⟩:=Z.i4.ex;obtain⟨fd,F⟩:=fe.ex;exact⟨X.m4,Z.i4.kc,⟨f,fd,_,Mine.uS F X.f4 X.n4,F.binds (λ_ _ _ _ _ _=>L2.ar2 λ_ _=>rfl),xi⟩,X.f4,X.n4⟩
theorem Mine.cls61{K:Frag}{h:Heap}{mg:Str->Option Value}{CS c0 c1 c2 c3 c4 c5 c6 c7 c8 c9 f0 f3 f4 aT aF cD cF b0 b1 b2 b3 b4 b5:Addr}{cd:ClassData}{es fs:Array DictEntry}{ep fp:Nat}(X:K.In h)(G:h.Ns mainGlobals mg)
  (mS:nsIn K mainGlobals "SayError"=some (some (.ref CS)))
  (m0:nsIn K mainGlobals "NoText"=some (some (.ref c0)))
  (m1:nsIn K mainGlobals "NoRows"=some (some (.ref c1)))
  (m2:nsIn K mainGlobals "NoLine"=some (some (.ref c2)))
  (m3:nsIn K mainGlobals "NoCall"=some (some (.ref c3)))
  (m4:nsIn K mainGlobals "NoName"=some (some (.ref c4)))
  (m5:nsIn K mainGlobals "NoNumber"=some (some (.ref c5)))
  (m6:nsIn K mainGlobals "TooMany"=some (some (.ref c6)))
  (m7:nsIn K mainGlobals "NoPoint"=some (some (.ref c7)))
  (m8:nsIn K mainGlobals "NoLetter"=some (some (.ref c8)))
  (m9:nsIn K mainGlobals "NoCut"=some (some (.ref c9)))
  (s6:clsIn K CS=some cd)
  (s7:typeIn K (.ref CS)=some (.type "type"))
  (s8:mroIn K CS (.type "BaseException")=some true)
  (o13:specialIn K (.builtin "object.__class__") "__get__"=some (some (.builtin "getset_descriptor.__get__")))
  (o14:takesIn K (.builtin "object.__class__")=some true)
  (ok:Mine.clsOk K [c0,c1,c2,c3,c4,c5,c6,c7,c8,c9] CS=true)
  (x6:excIn K c6 L2.bmV "ValueError.__new__"=true)
  (x7:excIn K c7 L2.bmV "ValueError.__new__"=true)
  (x8:excIn K c8 L2.bmV "ValueError.__new__"=true)
  (i0:findIn K (.ref c0) "__init__"=some (some (.ref f0)))
  (fe0:L2.KS K "__init__" "NoText.__init__" Mine.fS f0)
  (xi0:L2.lC K c0 L2.bmV "ValueError.__new__" f0=true)
  (kc0:keepIn K (.ref c0)=true)
  (xf0:L2.rV K c0=true)
  (sa0:findIn K (.ref c0) "__setattr__"=some (some (.builtin "object.__setattr__")))
  (n0at:findIn K (.ref c0) "at"=some none)
  (i3:findIn K (.ref c3) "__init__"=some (some (.ref f3)))
  (fe3:L2.KS K "__init__" "NoCall.__init__" Mine.fU f3)
  (xi3:L2.lC K c3 L2.bmV "ValueError.__new__" f3=true)
  (kc3:keepIn K (.ref c3)=true)
  (xf3:L2.rV K c3=true)
  (sa3:findIn K (.ref c3) "__setattr__"=some (some (.builtin "object.__setattr__")))
  (Ug:findIn K (.ref c3) "line"=some none)
  (i4:findIn K (.ref c4) "__init__"=some (some (.ref f4)))
  (fe4:L2.KS K "__init__" "NoName.__init__" Mine.fT f4)
  (xi4:L2.lC K c4 L2.bmV "ValueError.__new__" f4=true)
  (kc4:keepIn K (.ref c4)=true)
  (xf4:L2.rV K c4=true)
  (sa4:findIn K (.ref c4) "__setattr__"=some (some (.builtin "object.__setattr__")))
  (Ue:findIn K (.ref c4) "name"=some none)
  (t1:nsIn K mainGlobals "TAKEN"=some (some (.ref aT)))
  (t2:K.lookup aT=some ⟨.type "dict",none,.dict es ep,#[]⟩)
  (t3:(aT==sysModules)=false)
  (t4:KTD.Rows (λ(n:Int) v=>∃t,v=Value.int n t) es.toList Mine.TK)
  (g1:nsIn K mainGlobals "FORMS"=some (some (.ref aF)))
  (g2:K.lookup aF=some ⟨.type "dict",none,.dict fs fp,#[]⟩)
  (g3:(aF==sysModules)=false)
  (g4:Mine.formsOk K fs.toList Mine.FO=true)
  (d1:nsIn K mainGlobals "Desk"=some (some (.ref cD)))
  (d2:L2.Cls K cD)
  (d3:findIn K (.ref cD) "__init__"=some (some (.ref b0)))
  (d4:L2.uB K "__init__" "Desk.__init__" Mine.gp b0)
  (d5:makesIn K cD=true)
  (d6:keepIn K (.ref cD)=true)
  (d7:findIn K (.ref cD) "must_keep"=some (some (.ref b1)))
  (d8:L2.uB K "must_keep" "Desk.must_keep" Mine.cH b1)
  (d9:findIn K (.ref cD) "tell"=some (some (.ref b2)))
  (d10:L2.uB K "tell" "Desk.tell" Mine.gj b2)
  (d12:findIn K (.ref cD) "keep"=some (some (.ref b3)))
  (d13:L2.uB K "keep" "Desk.keep" Mine.gm b3)
  (d14:findIn K (.ref cD) "names"=some (some (.ref b4)))
  (d15:L2.uB K "names" "Desk.names" Mine.ft b4)
  (d16:findIn K (.ref cD) "answer"=some (some (.ref b5)))
  (d17:L2.uB K "answer" "Desk.answer" Mine.dX b5)
  (d18:nsIn K mainGlobals "Fold"=some (some (.ref cF)))
  (d19:Mine.kitsOk K cF Mine.L9=true)
  (d11:findIn K (.ref cD) "kept"=some none) :
  ∃CS C cD cF,Mine.uC K mg CS C/\Mine.Inits K C/\L2.oX K mg "TAKEN" Mine.TK/\L2.fF K mg "FORMS" Mine.FO/\L2.MkF K mg "Desk" cD "Desk.__init__" Mine.gp/\L2.aI K cD "must_keep" "Desk.must_keep" Mine.cH/\L2.aI K cD "tell" "Desk.tell" Mine.gj/\L2.aI K cD "keep" "Desk.keep" Mine.gm/\L2.aI K cD "names" "Desk.names" Mine.ft/\L2.aI K cD "answer" "Desk.answer" Mine.dX/\Mine.KF61 K mg cF/\L2.bh K cD "kept":=by
 have at_:=λ{i:Nat} (hi:i<10)=>Mine.clsOk_at ok o13 o14 hi
 refine⟨CS,λi=>([c0,c1,c2,c3,c4,c5,c6,c7,c8,c9]:List Addr).getD i 0,cD,cF,⟨Mm X G mS,Mm X G m0,Mm X G m1,Mm X G m2,Mm X G m3,Mm X G m4,Mm X G m5,Mm X G m6,Mm X G m7,Mm X G m8,Mm X G m9,⟨⟨_,s6⟩,s7,s8⟩,λi hi=>(at_ hi).1,λi hi=>(at_ hi).2.1,λi j hi hj=>(at_ hi).2.2.2 j hj,λi hi=>(at_ hi).2.2.1,λi h5 hi=>?_,L2.wJ xf0 sa0 (at_ (i:=0) (by decide)).1,L2.wJ xf3 sa3 (at_ (i:=3) (by decide)).1,L2.wJ xf4 sa4 (at_ (i:=4) (by decide)).1,n0at,Ug,Ue⟩,
  ⟨⟨⟨f0,fe0,xi0⟩,kc0⟩,⟨⟨f3,fe3,xi3⟩,kc3⟩,⟨⟨f4,fe4,xi4⟩,kc4⟩⟩,L2.AU X G t1 t2 t3 t4,L2.yu X G g1 g2 g3 (Mine.forms_rows g4),Mine.fmade d4 d2 d3 (Mm X G d1) d5 d6,Mine.fmeth d8 d2 d7,Mine.fmeth d10 d2 d9,Mine.fmeth d13 d2 d12,Mine.fmeth d15 d2 d14,Mine.fmeth d17 d2 d16,Mine.KF61.mk' X G (Mm X G d18) d19,d11⟩
 have e:i=6\/i=7\/i=8:=by omega
 rcases e with rfl | rfl | rfl
 .exact x6
 .exact x7
 .exact x8
abbrev Mine.Pg:=PySem.Challenge.rw_leansay_k61_desk_refused.prog
open PySem PySem.W PyProof.Rows
set_option hygiene false
local macro_rules | `(tactic| walk_at "cb") => `(tactic| (refine' ⟨?n, ?c, ?h, ?m, ?s, ?y, ?z⟩; (case n => k_is); (case c => refine' ⟨?q1, ?q2, ?q3, ?q4⟩; (case q1 => k_is); (case q2 => k_is); (case q3 => k_is); (case q4 => k_is)); (case h => k_is); (case m => k_is); (case s => first | k_is | kit_is); (case y => k_is); (case z => k_is)))
local macro_rules | `(tactic| walk_at "gs") => `(tactic| ((repeat (refine' .cons ?h ?_; (case h => k_is))); exact .nil))
local macro_rules | `(tactic| walk_at "ge") => `(tactic| (refine' Mine.GE.mk ?g ?e; (case g => walk_at "gs"); (case e => refine' L2.jY ?l ?c ?k ?fn; (case l => k_is); (case c => k_is); (case k => k_is); (case fn => k_is))))
set_option hygiene true
open PySem PySem.W PyProof.Rows
set_option hygiene false
local macro_rules | `(tactic| walk_at "td") => `(tactic| (dsimp only [L2.KOf];refine' L2.aM KX G ?a ?l ?c ?k;(case a=>k_is);(case l=>k_is);(case c=>k_is);(case k=>k_is)))
local macro_rules | `(tactic| walk_at "fe") => `(tactic| (refine' L2.jY ?l ?c ?k ?fn;(case l=>k_is);(case c=>k_is);(case k=>k_is);(case fn=>k_is)))
set_option hygiene true
set_option maxRecDepth 100000 in
set_option maxHeartbeats 0 in
theorem Mine.facts:∀(w:World)(mg:Str->Option Value)(fa:Addr)(h:Heap),(Sh8.K w.params).In h->h.Ns mainGlobals mg->mg "law"=some (.ref fa)->∃fd:FuncData,(∀(s:Shared)(u:Value),BindsTo s fd ⟨[u],[]⟩ [("_law_script",u)])/\∀base:Heap,(Sh8.K w.params).In base->base.Ns mainGlobals mg->L2.gS PySem.Challenge.rw_leansay_k61_desk_refused.prog w (Sh8.K w.params) mg base L2.CX0 40 fa fd ["_law_script"] (Mine.spLaw (Sh8.K w.params)):=by
  k_fill
  intro w mg fa h KX G hmg
  have rq:L2.aA (L2.KOf KX) mg "common_factor" Mine.gK:=by walk_at "td"
  have CH:L2.aA (L2.KOf KX) mg "fraction" Mine.mM:=by walk_at "td"
  have Vr:L2.aA (L2.KOf KX) mg "less" Mine.Bo:=by walk_at "td"
  have Hj:L2.aA (L2.KOf KX) mg "figures" Mine.pS:=by walk_at "td"
  have ri:L2.aA (L2.KOf KX) mg "whole_written" Mine.gD:=by walk_at "td"
  have GW:L2.aA (L2.KOf KX) mg "written" Mine.pJ:=by walk_at "td"
  have Ky:L2.aA (L2.KOf KX) mg "square" Mine.nX:=by walk_at "td"
  have GZ:L2.aA (L2.KOf KX) mg "told_by" Mine.pM:=by walk_at "td"
  have oY:L2.aA (L2.KOf KX) mg "told_in_corners" Mine.ff:=by walk_at "td"
  have Cz:L2.aA (L2.KOf KX) mg "is_whole" Mine.mK:=by walk_at "td"
  have CA:L2.aA (L2.KOf KX) mg "is_point" Mine.iD:=by walk_at "td"
  have ro:L2.aA (L2.KOf KX) mg "must_be_point" Mine.gH:=by walk_at "td"
  have RZ:L2.aA (L2.KOf KX) mg "worth" Mine.xt:=by walk_at "td"
  have mr:L2.aA (L2.KOf KX) mg "how_many_it_takes" Mine.dR:=by walk_at "td"
  have Hc:L2.aA (L2.KOf KX) mg "leaf_by" Mine.pP:=by walk_at "td"
  have Hi:L2.aA (L2.KOf KX) mg "fold_by" Mine.pR:=by walk_at "td"
  have Kz:L2.aA (L2.KOf KX) mg "put_in" Mine.Ig:=by walk_at "td"
  have Ha:L2.aA (L2.KOf KX) mg "rows_of" Mine.jz:=by walk_at "td"
  have GX:L2.aA (L2.KOf KX) mg "without" Mine.pK:=by walk_at "td"
  have Ap:L2.aA (L2.KOf KX) mg "leaf_rule" Mine.kN:=by walk_at "td"
  have vm:L2.aA (L2.KOf KX) mg "fold_choice" Mine.iY:=by walk_at "td"
  have Av:L2.aA (L2.KOf KX) mg "choice_of" Mine.kQ:=by walk_at "td"
  have Au:L2.aA (L2.KOf KX) mg "chosen_on" Mine.kP:=by walk_at "td"
  have rm:L2.aA (L2.KOf KX) mg "rules_of_rows" Mine.gF:=by walk_at "td"
  have CG:L2.aA (L2.KOf KX) mg "hulls_of" Mine.mL:=by walk_at "td"
  have vj:L2.aA (L2.KOf KX) mg "must_be_few" Mine.iW:=by walk_at "td"
  have GY:L2.aA (L2.KOf KX) mg "tree_on" Mine.pL:=by walk_at "td"
  have Hk:L2.aA (L2.KOf KX) mg "cutting" Mine.pU:=by walk_at "td"
  have nj:L2.aA (L2.KOf KX) mg "cutting_for_both" Mine.eP:=by walk_at "td"
  have vk:L2.aA (L2.KOf KX) mg "least_worth" Mine.iX:=by walk_at "td"
  have KC:L2.aA (L2.KOf KX) mg "always" Mine.tJ:=by walk_at "td"
  have yd:L2.aA (L2.KOf KX) mg "side_bound" Mine.jS:=by walk_at "td"
  have Aw:L2.aA (L2.KOf KX) mg "bounds_of" Mine.kR:=by walk_at "td"
  have rn:L2.aA (L2.KOf KX) mg "regions_below" Mine.gG:=by walk_at "td"
  have Cy:L2.aA (L2.KOf KX) mg "round_up" Mine.mJ:=by walk_at "td"
  have Cv:L2.aA (L2.KOf KX) mg "y_within" Mine.mH:=by walk_at "td"
  have vh:L2.aA (L2.KOf KX) mg "step_within" Mine.iV:=by walk_at "td"
  have yc:L2.aA (L2.KOf KX) mg "step_below" Mine.jR:=by walk_at "td"
  have uv:L2.aA (L2.KOf KX) mg "fewest_steps" Mine.iE:=by walk_at "td"
  have Vs:L2.aA (L2.KOf KX) mg "lack" Mine.Bp:=by walk_at "td"
  have R0:L2.aA (L2.KOf KX) mg "alike" Mine.xu:=by walk_at "td"
  have mn:L2.aA (L2.KOf KX) mg "must_be_without_q" Mine.dQ:=by walk_at "td"
  have Hb:L2.aA (L2.KOf KX) mg "line_of" Mine.pO:=by walk_at "td"
  have Vt:L2.aA (L2.KOf KX) mg "fits" Mine.Bq:=by walk_at "td"
  have CI:L2.aA (L2.KOf KX) mg "fault_in" Mine.mO:=by walk_at "td"
  have rp:L2.aA (L2.KOf KX) mg "made_of_words" Mine.gJ:=by walk_at "td"
  have Vq:L2.aA (L2.KOf KX) mg "read" Mine.Bn:=by walk_at "td"
  have yg:L2.aA (L2.KOf KX) mg "is_made_of" Mine.jU:=by walk_at "td"
  have Hg:L2.aA (L2.KOf KX) mg "is_name" Mine.pQ:=by walk_at "td"
  have As:L2.aA (L2.KOf KX) mg "is_number" Mine.kO:=by walk_at "td"
  have yf:L2.aA (L2.KOf KX) mg "is_word_of" Mine.jT:=by walk_at "td"
  have Cw:L2.aA (L2.KOf KX) mg "words_of" Mine.mI:=by walk_at "td"
  have Hh:L2.aA (L2.KOf KX) mg "is_call" Mine.jB:=by walk_at "td"
  have vi:L2.aA (L2.KOf KX) mg "names_asked" Mine.dW:=by walk_at "td"
  have uu:L2.aA (L2.KOf KX) mg "line_written" Mine.iC:=by walk_at "td"
  have rh:L2.aA (L2.KOf KX) mg "worth_written" Mine.gy:=by walk_at "td"
  have rj:L2.aA (L2.KOf KX) mg "steps_written" Mine.gE:=by walk_at "td"
  have Ao:L2.aA (L2.KOf KX) mg "yes_or_no" Mine.kM:=by walk_at "td"
  have ux:L2.aA (L2.KOf KX) mg "asked_of_one" Mine.iG:=by walk_at "td"
  have uw:L2.aA (L2.KOf KX) mg "asked_of_two" Mine.iF:=by walk_at "td"
  have Hf:L2.aA (L2.KOf KX) mg "_law_mixed" Mine.Fe:=by walk_at "td"
  have He:L2.aA (L2.KOf KX) mg "_law_named" Mine.jA:=by walk_at "td"
  have KA:L2.aA (L2.KOf KX) mg "_law_said" Mine.tI:=by walk_at "td"
  have Aq:L2.aA (L2.KOf KX) mg "_law_no_call" Mine.cO:=by walk_at "td"
  have Hd:L2.aA (L2.KOf KX) mg "_law_other" Mine.eQ:=by walk_at "td"
  have Y8:L2.aA (L2.KOf KX) mg "law" Mine.s_law:=by walk_at "td"
  have bC:mg "len"=none:=by
   refine' w8 KX G ?z;(case z=>k_is)
  have ur:mg "abs"=none:=by
   refine' w8 KX G ?z;(case z=>k_is)
  have aK:mg "isinstance"=none:=by
   refine' w8 KX G ?z;(case z=>k_is)
  have Cs:mg "bool"=none:=by
   refine' w8 KX G ?z;(case z=>k_is)
  have oU:mg "int"=none:=by
   refine' w8 KX G ?z;(case z=>k_is)
  have oS:mg "str"=none:=by
   refine' w8 KX G ?z;(case z=>k_is)
  have eM:mg "tuple"=none:=by
   refine' w8 KX G ?z;(case z=>k_is)
  have hV:mg "range"=none:=by
   refine' w8 KX G ?z;(case z=>k_is)
  have Cr:mg "list"=none:=by
   refine' w8 KX G ?z;(case z=>k_is)
  have eT:mg "min"=none:=by
   refine' w8 KX G ?z;(case z=>k_is)
  have eU:mg "max"=none:=by
   refine' w8 KX G ?z;(case z=>k_is)
  have oV:mg "all"=none:=by
   refine' w8 KX G ?z;(case z=>k_is)
  have Ku:mg "any"=none:=by
   refine' w8 KX G ?z;(case z=>k_is)
  have uq:mg "sorted"=none:=by
   refine' w8 KX G ?z;(case z=>k_is)
  have eV:mg "enumerate"=none:=by
   refine' w8 KX G ?z;(case z=>k_is)
  have fO:mg "reversed"=none:=by
   refine' w8 KX G ?z;(case z=>k_is)
  have ky:mg "zip"=none:=by
   refine' w8 KX G ?z;(case z=>k_is)
  have ko:mg "ValueError"=none:=by
   refine' w8 KX G ?z;(case z=>k_is)
  have kb:kitOne (L2.KOf KX) (.type "int") (.type "bool")=some false:=by
   dsimp only[L2.KOf]
   first | k_is | kit_is
  have AA:∃c,Mine.AllF (L2.KOf KX) mg c:=by
   dsimp only[L2.KOf];refine' Mine.all_mk KX G ?zaa ?zab ?zac ?zad ?zae ?zaf ?zag ?zah ?zai ?hn ?tk ?zaj ?zak ?zal ?zam ?zan ?zao ?zap ?zaq ?zar ?zas ?zat ?zau ?zav ?zaw ?zax ?zay ?zaz ?zba ?zbb ?zbc ?zbd ?zbe ?zbf ?zbg ?zbh ?zbi ?zbj ?zbk ?zbl ?zbm ?zbn ?zbo ?zbp ?zbq ?zbr ?zbs ?zbt ?zbu ?zbv ?zbw ?zbx ?zby ?zbz ?zca ?zcb ?zcc ?zcd ?zce
   (case zaa|zab|zac|zad|zae|zaf|zag|zah|zai=>walk_at "cb")
   (case hn|tk=>k_is)
   (case zaj|zak|zal|zam=>walk_at "gs")
   (case zan|zao|zap|zaq|zar|zas|zat|zau|zav|zaw|zax|zay|zaz|zba|zbb|zbc|zbd|zbe|zbf|zbg|zbh|zbi|zbj|zbk|zbl|zbm|zbn|zbo|zbp|zbq|zbr|zbs|zbt|zbu|zbv|zbw|zbx|zby|zbz|zca|zcb|zcc|zcd=>walk_at "ge")
   (case zce=>walk_at "gs")
  obtain⟨c,AF⟩:=AA
  have CC:∃CS C cD cF,Mine.uC (L2.KOf KX) mg CS C/\Mine.Inits (L2.KOf KX) C/\L2.oX (L2.KOf KX) mg "TAKEN" Mine.TK/\L2.fF (L2.KOf KX) mg "FORMS" Mine.FO/\L2.MkF (L2.KOf KX) mg "Desk" cD "Desk.__init__" Mine.gp/\L2.aI (L2.KOf KX) cD "must_keep" "Desk.must_keep" Mine.cH/\L2.aI (L2.KOf KX) cD "tell" "Desk.tell" Mine.gj/\L2.aI (L2.KOf KX) cD "keep" "Desk.keep" Mine.gm/\L2.aI (L2.KOf KX) cD "names" "Desk.names" Mine.ft/\L2.aI (L2.KOf KX) cD "answer" "Desk.answer" Mine.dX/\Mine.KF61 (L2.KOf KX) mg cF/\L2.bh (L2.KOf KX) cD "kept":=by
   dsimp only[L2.KOf];refine' Mine.cls61 KX G ?mS ?m0 ?m1 ?m2 ?m3 ?m4 ?m5 ?m6 ?m7 ?m8 ?m9 ?s6 ?s7 ?s8 ?zcf ?zcg ?ok ?x6 ?x7 ?x8 ?i0 ?zch ?zci ?zcj ?zck ?zcl ?zcm ?i3 ?zcn ?zco ?zcp ?zcq ?zcr ?zcs ?i4 ?zct ?zcu ?zcv ?zcw ?zcx ?zcy ?t1 ?t2 ?t3 ?t4 ?g1 ?g2 ?g3 ?g4 ?d1 ?d2 ?d3 ?d4 ?d5 ?d6 ?d7 ?d8 ?d9 ?zcz ?zda ?zdb ?zdc ?zdd ?zde ?zdf ?zdg ?zdh ?zdi
   (case mS|m0|m1|m2|m3|m4|m5|m6|m7|m8|m9|s6|s7|s8|zcf|zcg=>k_is)
   (case ok=>kernel_rfl)
   (case x6|x7|x8=>k_exc)
   (case i0=>k_is)
   (case zch=>refine' L2.xS ?fl ?fc ?fk;(case fl=>k_is);(case fc=>k_is);(case fk=>k_is))
   (case zci=>kernel_rfl)
   (case zcj=>k_is)
   (case zck=>kernel_rfl)
   (case zcl|zcm|i3=>k_is)
   (case zcn=>refine' L2.xS ?fl ?fc ?fk;(case fl=>k_is);(case fc=>k_is);(case fk=>k_is))
   (case zco=>kernel_rfl)
   (case zcp=>k_is)
   (case zcq=>kernel_rfl)
   (case zcr|zcs|i4=>k_is)
   (case zct=>refine' L2.xS ?fl ?fc ?fk;(case fl=>k_is);(case fc=>k_is);(case fk=>k_is))
   (case zcu=>kernel_rfl)
   (case zcv=>k_is)
   (case zcw=>kernel_rfl)
   (case zcx|zcy|t1|t2=>k_is)
   (case t3=>decide)
   (case t4=>exact(.cons rfl ⟨_,rfl⟩ (.cons rfl ⟨_,rfl⟩ (.cons rfl ⟨_,rfl⟩ (.cons rfl ⟨_,rfl⟩ (.cons rfl ⟨_,rfl⟩ (.cons rfl ⟨_,rfl⟩ (.cons rfl ⟨_,rfl⟩ (.cons rfl ⟨_,rfl⟩ (.cons rfl ⟨_,rfl⟩ (.cons rfl ⟨_,rfl⟩ .nil)))))))))))
   (case g1|g2=>k_is)
   (case g3=>decide)
   (case g4=>kernel_rfl)
   (case d1=>k_is)
   (case d2=>refine'⟨?q1,?q2,?q3,?q4⟩;(case q1|q2|q3|q4=>k_is))
   (case d3=>k_is)
   (case d4=>walk_at "fe")
   (case d5|d6|d7=>k_is)
   (case d8=>walk_at "fe")
   (case d9=>k_is)
   (case zcz=>walk_at "fe")
   (case zda=>k_is)
   (case zdb=>walk_at "fe")
   (case zdc=>k_is)
   (case zdd=>walk_at "fe")
   (case zde=>k_is)
   (case zdf=>walk_at "fe")
   (case zdg=>k_is)
   (case zdh=>kernel_rfl)
   (case zdi=>k_is)
  obtain⟨CS,C,cD,cF,XF,IN,yi,ma,KD,MM,MT,MKe,MNa,MAn,XK,nK⟩:=CC
  have yk:∃t,mg "MOST_PARTS"=some (.int 24 t):=by
   refine' L2.lI KX G ?ie ?iq;(case ie=>k_is);(case iq=>exact⟨_,rfl⟩)
  obtain⟨Sl,dP⟩:=yk
  have yl:∃t,mg "MOST_FOLDS"=some (.int 8 t):=by
   refine' L2.lI KX G ?ie ?iq;(case ie=>k_is);(case iq=>exact⟨_,rfl⟩)
  obtain⟨Sm,kq⟩:=yl
  have uz:∃t,mg "MOST_LETTERS"=some (.int 8 t):=by
   refine' L2.lI KX G ?ie ?iq;(case ie=>k_is);(case iq=>exact⟨_,rfl⟩)
  obtain⟨PZ,iK⟩:=uz
  have uA:∃t,mg "MOST_FIGURES"=some (.int 20 t):=by
   refine' L2.lI KX G ?ie ?iq;(case ie=>k_is);(case iq=>exact⟨_,rfl⟩)
  obtain⟨P0,iL⟩:=uA
  have Hm:∃t,mg "LETTERS"=some (.str Mine.abcS t):=by
   refine' Mine.toptxt_mk KX G ?ie ?iq;(case ie=>k_is);(case iq=>exact⟨_,rfl⟩)
  obtain⟨Ww,qm⟩:=Hm
  have Hn:∃t,mg "FIGURES"=some (.str Mine.figS t):=by
   refine' Mine.toptxt_mk KX G ?ie ?iq;(case ie=>k_is);(case iq=>exact⟨_,rfl⟩)
  obtain⟨WA,qo⟩:=Hn
  have yj:L2.nh (L2.KOf KX) mg "NEVER" [0,0,0]:=by
   dsimp only[L2.KOf];refine' L2.ph (ns:=[0,0,0]) KX G ?e ?l ?z ?v;(case e=>k_is);(case l=>k_is);(case z=>decide);(case v=>exact(.cons ⟨_,rfl⟩ (.cons ⟨_,rfl⟩ (.cons ⟨_,rfl⟩ .nil))))
  have nq:L2.nh (L2.KOf KX) mg "LETTER_P" [1,0,0]:=by
   dsimp only[L2.KOf];refine' L2.ph (ns:=[1,0,0]) KX G ?e ?l ?z ?v;(case e=>k_is);(case l=>k_is);(case z=>decide);(case v=>exact(.cons ⟨_,rfl⟩ (.cons ⟨_,rfl⟩ (.cons ⟨_,rfl⟩ .nil))))
  have yh:L2.nh (L2.KOf KX) mg "WHOLE" [1,1]:=by
   dsimp only[L2.KOf];refine' L2.ph (ns:=[1,1]) KX G ?e ?l ?z ?v;(case e=>k_is);(case l=>k_is);(case z=>decide);(case v=>exact(.cons ⟨_,rfl⟩ (.cons ⟨_,rfl⟩ .nil)))
  have Vx:Mine.Cu (L2.KOf KX) mg "LEAF" "leaf":=by
   dsimp only[L2.KOf];refine' Mine.EK KX G ?e ?l ?z ?v;(case e=>k_is);(case l=>k_is);(case z=>decide);(case v=>exact(.cons ⟨_,rfl⟩ .nil))
  obtain⟨f,fd,F,m⟩:=Y8.ex;have e:=hmg.symm.trans m;cases e
  obtain⟨oc,od,kV,doc,pm,an,cdv,ct,N7,hfd,lk,NZ⟩:=id F.ex;subst hfd;refine⟨PySem.W.fnOf "law" "law" (L2.df Mine.nY) (L2.aZ Mine.nY) (L2.ai Mine.nY) .none kV doc pm an cdv ct,λs u=>.of_eq rfl,λbase kb' nb=>?_⟩;have XT:=Mine.xNoText (P:=Mine.Pg) (w:=w) (base:=base) XF IN;have XC:=Mine.xNoCall (P:=Mine.Pg) (w:=w) (base:=base) XF IN;have XN:=Mine.xNoName (P:=Mine.Pg) (w:=w) (base:=base) XF IN;have M:=Mine.ms (P:=Mine.Pg) (w:=w) (base:=base) AF eT eU;obtain⟨kl,kn,kf⟩:=Mine.mks (P:=Mine.Pg) (w:=w) (base:=base) AF;have GL:∀t,L2.aJ Mine.Pg w (L2.KOf KX) mg base (c.of t) "laid_out" 2 ["self"] (Mine.mG c t):=λt=>Mine.ok_laid (AF.laid t) M;have GP:∀t,L2.aJ Mine.Pg w (L2.KOf KX) mg base (c.of t) "parts" 3 ["self"] (Mine.rG c t):=λt=>Mine.Jd (AF.parts t) bC GL;have GF:∀t,L2.aJ Mine.Pg w (L2.KOf KX) mg base (c.of t) "folds" 3 ["self"] (Mine.nQ c t):=λt=>Mine.FJ (AF.foldsS t) bC aK XK.mF AF.fx (XK.kf AF) GL;have GT:∀t,L2.aJ Mine.Pg w (L2.KOf KX) mg base (c.of t) "told" 3 ["self"] (Mine.Bc c t):=λt=>Mine.ok_told (AF.told t) AF.fx M aK oS Cr fO;have GO:∀t,L2.aJ Mine.Pg w (L2.KOf KX) mg base (c.of t) "out_of" 3 ["self","n","x","y"] (Mine.HZ c t):=λt=>Mine.ok_out (AF.out t) M GL;have YU:=Mine.ok_howG (P:=Mine.Pg) (w:=w) (base:=base) mr yi;have Vi:=Mine.BH CI eV bC (Mine.ok_fits Vt YU);have Vh:=Mine.Ji rp fO YU (Mine.FF (P:=Mine.Pg) (w:=w) (base:=base) Hc AF.o_ne AF.r_ne AF.o_al AF.r_al kl) (Mine.FK (P:=Mine.Pg) (w:=w) (base:=base) Hi kf) kn;have xM:=XF.xn 6 (by decide) (by decide);have YR:=Mine.IY Vq dP XT XF.m6 xM Vi Vh GP;have Vg:=Mine.BE (P:=Mine.Pg) (w:=w) (base:=base) Cz aK oU Cs kb;have dPt:=Mine.zC ro XF.m7 (XF.xn 7 (by decide) (by decide)) (Mine.FI CA aK eM bC oV Vg);have PK:=Mine.Bw RZ dPt GO;have dFr:=Mine.ok_fr61 CH (Mine.Jr (P:=Mine.Pg) (w:=w) (base:=base) rq ur);have YV:=Mine.Jq (P:=Mine.Pg) (w:=w) (base:=base) vj kq XF.m6 xM;have dSq:=Mine.ok_sq (P:=Mine.Pg) (w:=w) (base:=base) Ky;have PN:=Mine.Fz Ha bC eM M GL;have PL:=Mine.IV (P:=Mine.Pg) (w:=w) (base:=base) GZ;have RH:=Mine.BK Av bC yj (Mine.Jl (P:=Mine.Pg) (w:=w) (base:=base) Ap nq) (Mine.Jp vm (Mine.Bx (P:=Mine.Pg) (w:=w) (base:=base) GX ky eM));have PM:=Mine.Fy rm eV RH (Mine.BJ Au eU (Mine.ok_tic oY PL));have YW:=Mine.Jv Hk GF YV dSq PN (Mine.IU GY Vx PM);have dHu:=Mine.BG CG dSq;have dLw:=Mine.ok_lw61 vk YW dHu PK dFr (Mine.FE (P:=Mine.Pg) (w:=w) (base:=base) Vr);have dAlw:=Mine.Jy KC yh dLw;have YQ:=Mine.ok_rup (P:=Mine.Pg) (w:=w) (base:=base) Cy;have dSw:=Mine.ok_sw vh eT eU hV YQ (Mine.ok_yw Cv eU eT YQ);have dRb:=Mine.IZ rn Ku PN YW dHu PM PL (Mine.ok_bnds Aw ky (Mine.ok_sb (P:=Mine.Pg) (w:=w) (base:=base) yd));have dFs:=Mine.Jo uv dRb (Mine.IW yc dSw);have Vj:=Mine.BL R0 (Mine.Jw nj GF YV);have YS:=Mine.FG Vs kf dLw;have dNoQ:=(Mine.ok_noQX (P:=Mine.Pg) (w:=w) (base:=base) mn XF.m8 (XF.xn 8 (by decide) (by decide))).d;have dLnw:=Mine.Jk uu (Mine.ok_lo0 Hb PN dNoQ);have dFig:=Mine.ok_fig (P:=Mine.Pg) (w:=w) (base:=base) Hj oS;have ZR:=Mine.Fq ri dFig;have dWr:=Mine.Bv GW ZR;have dWoW:=Mine.ok_ww61 rh oU eM PK ZR;have dYn:=Mine.ok_yn61 (P:=Mine.Pg) (w:=w) (base:=base) Ao;have dOne:=Mine.Jf ux GT dLnw dLw dAlw (Mine.ok_sw61 rj dFs ZR) dWr dYn;have dTwo:=Mine.IT uw YS Vj dWr dYn;have dMd:=Mine.ok_md61 (P:=Mine.Pg) (w:=w) (base:=base) yg bC oV;have dWd:=Mine.ok_wd61 yf (Mine.ok_nm61 Hg qm iK dMd) (Mine.ok_nu61 As qo iL dMd);have YX:=Mine.FN Hh bC oV ky ma dWd;have YY:=Mine.Jx (P:=Mine.Pg) (w:=w) (base:=base) vi ky ma;have YT:=Mine.FH MKe nK dP XF.m6 xM ZR GP;have dAns:=Mine.zE MAn nK bC YY YR (Mine.Jc Kz M GL) YT (Mine.BD (P:=Mine.Pg) (w:=w) (base:=base) MNa nK uq) dWoW dTwo dOne;have S6:=Mine.Fv MT XC (Mine.ok_ws61 (P:=Mine.Pg) (w:=w) (base:=base) Cw) YX YY (Mine.FD MM nK XN) dAns;have YO:=Mine.Fw KA aK oS XF S6 (Mine.Jg (P:=Mine.Pg) (w:=w) (base:=base) He aK ko XF);exact Mine.Jm F hV (Mine.Jh Hf bC eU eT hV ur oU) (Mine.Ju (P:=Mine.Pg) (w:=w) (base:=base) KD nK) S6 YO (Mine.ok_nc61 (P:=Mine.Pg) (w:=w) (base:=base) Aq bC) (Mine.ok_ot61 (P:=Mine.Pg) (w:=w) (base:=base) Hd bC)
set_option maxRecDepth 100000 in
set_option maxHeartbeats 0 in
theorem PySem.Challenge.cw_leansay_k61_desk_refused_holds : PySem.Challenge.rw_leansay_k61_desk_refused.Holds := by
 refine Sh8.hd ?_
 refine L2.ED (l:=PySem.Challenge.rw_leansay_k61_desk_refused) (n:=63) (k:=40) (x:="_law_script") (CX:=L2.CX0) (sp:=Mine.spLaw) rfl (by decide) rfl ⟨rfl,by decide,by decide⟩ (λw h Y=>PySem.W.kIn_of Y) ?F ?S ?C
 case F=>exact Mine.facts
 case S=>exact λK H a ns hl hb hO hS=>⟨a,ns,rfl,Mine.scr_of hO hS hl hb,λ_=>rfl⟩
 case C=>exact λ_ _ _ _ z=>z
