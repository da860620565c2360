"""A printed-circuit board: its layers, its outline, what may lie where. Use copperboard.boards.answers."""
