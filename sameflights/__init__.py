"""Aircraft that fly the same flights day after day."""
