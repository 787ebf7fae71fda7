"""floorwalks: the least counter for every change of a program with one counter."""
