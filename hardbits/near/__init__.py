"""What is near: maps that seldom meet, dense models, and likenesses."""
